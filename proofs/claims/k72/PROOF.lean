import PyProof.Rows.All
import Wide.All
import OpenK.AllK
import Wide.FinOn
import Lean
import PyProof.EqAt
import PyProof.EqKinds
import PyProof.TupleCall
import PyProof.FactsAll.list_3
import PyProof.EnumMake
import PyProof.Draws
import PyProof.Rows.CallKwBuiltin
import PyProof.ListRange
import PyProof.TupleIter
import PyProof.Rows.Range3
import PyProof.ZipIter
import PyProof.FactsAll.int_0
import PyProof.FactsAll.int_6
import PyProof.Rows.RuleM_int
import Lean
import PyProof.ReprNest
import PyProof.ReprLen
import PyProof.StrOps
import KE.KDictOf
import PyProof.AttrMissHeap
import PyProof.MeetsDictList
import PyProof.DictRoadsH
import KE.KSortTup
import KE.KDictList
import PyProof.Rows.SortShell
import PyProof.MeetsSeq3
import PyProof.FactsAll.list_2
import KE.KSortAsk
import PyProof.TupleOfSeq
import PySem.Challenge.RW_telltight_k72_whole_four_rows_turned
set_option bootstrap.genMatcherCode false
set_option compiler.extract_closed false
open Option (bind_some map_some)
open PySem.W (callWith_K cellsFrom_some codeIn codeRec_of fnOf hideAll hideAll_get hideAll_none hideAll_size instObj kIn_of keepIn ki_setAt ki_setBack methodObj mg_none_of mg_of nsIn of_hideAll)
theorem oM {p : Prop} (h : p := by first | omega | (refine @id (@Ne Nat _ _) ?_; omega)) : p := h
theorem dC {p : Prop} (h : p := by decide) : p := h
set_option Elab.async false
set_option linter.all false
set_option maxRecDepth 100000
theorem Ax0 (_ : True := by first | exact .inl rfl | exact .inr rfl | assumption) : True := trivial
theorem Ax1 (_ : True := by decide) : True := trivial
theorem Ax2 (_ : True := by first | exact nobehind _ dC dC | rfl) : True := trivial
theorem Ax3 (_ : True := by intro _; rfl) : True := trivial
theorem Ax4 (_ : True := by rfl) : True := trivial
theorem Ax5 (_ : True := by intros; rfl) : True := trivial
theorem Ax6 (_ : True := by exact trivial) : True := trivial
theorem Ax7 (_ : True := by first | exact Or.inl rfl | exact Or.inr (Or.inl rfl) | exact Or.inr (Or.inr rfl)) : True := trivial
theorem Ax8 (_ : True := by intro _ _; rfl) : True := trivial
theorem Ax9 (_ : True := by first | exact Or.inl rfl | exact Or.inr rfl) : True := trivial
theorem Ax10 (_ : True := by intro _; repeat (first | exact Fr.nil | refine Fr.som (fun _ _ h => h) ?_ | refine Fr.non ?_)) : True := trivial
theorem Ax11 (_ : True := by (first | exact Le.refl | (repeat (first | exact Le.nil | refine Le.som inferInstance ?_ | refine Le.non ?_)))) : True := trivial
theorem Ax12 (_ : True := by infer_instance) : True := trivial
theorem Ax13 (_ : True := by intro _; repeat (first | exact Le.nil | refine Le.som inferInstance ?_ | refine Le.non ?_)) : True := trivial
namespace L2
open PySem PySem.Spec PyProof.Rows
noncomputable abbrev Key := Sum Int Str
noncomputable def keyIs : Key -> Value -> Bool
 | .inl k, v => Value.isInt k v
 | .inr x, v => Value.isStrOf x v
noncomputable def keyH (w : World) : Key -> Int
 | .inl k => hashInt k
 | .inr x => hashStr w x
theorem keyIs_shape : ∀ {k : Key} {v : Value}, keyIs k v = true -> (∃ i t, k = Sum.inl i /\ v = Value.int i t) \/ (∃ x t, k = Sum.inr x /\ v = Value.str x t)
 | .inl i, v, h => by
  obtain ⟨t, e⟩ := Value.isInt_shape (k := i) (v := v) h;exact .inl ⟨i, t, rfl, e⟩
 | .inr x, v, h => by
  obtain ⟨t, e⟩ := Value.isStrOf_shape (x := x) (v := v) h;exact .inr ⟨x, t, rfl, e⟩
theorem key_ll (a b : Int) : decide ((Sum.inl a : Key) = Sum.inl b) = (a == b) := by
 by_cases e : a = b
 ·subst e; simp
 ·have h : ¬ (Sum.inl a : Key) = Sum.inl b := fun q => e (Sum.inl.inj q)
  rw [decide_eq_false h];exact (beq_eq_false_iff_ne.mpr e).symm
theorem key_rr (a b : Str) : decide ((Sum.inr a : Key) = Sum.inr b) = decide (a = b) := by
 by_cases e : a = b
 ·subst e; simp
 ·have h : ¬ (Sum.inr a : Key) = Sum.inr b := fun q => e (Sum.inr.inj q)
  rw [decide_eq_false h, decide_eq_false e]
theorem key_lr (a : Int) (b : Str) : decide ((Sum.inl a : Key) = Sum.inr b) = false := decide_eq_false (fun q => nomatch q)
theorem key_rl (a : Str) (b : Int) : decide ((Sum.inr a : Key) = Sum.inl b) = false := decide_eq_false (fun q => nomatch q)
noncomputable def mixKind (prog : Program) (w : World) : PySem.KeyKind prog w Key where
 is := keyIs
 hash := keyH w
 inj := fun v a b ha hb => by
  rcases keyIs_shape ha with ⟨i, t, rfl, rfl⟩ | ⟨x, t, rfl, rfl⟩
  ·rcases keyIs_shape hb with ⟨j, u, rfl, e⟩ | ⟨y, u, rfl, e⟩
   ·injection e with e1 _; rw [e1]
   ·exact nomatch e
  ·rcases keyIs_shape hb with ⟨j, u, rfl, e⟩ | ⟨y, u, rfl, e⟩
   ·exact nomatch e
   ·injection e with e1 _; rw [e1]
 byValue := fun k v h => by
  rcases keyIs_shape h with ⟨i, t, rfl, rfl⟩ | ⟨x, t, rfl, rfl⟩ <;> rfl
 pyHash := fun hv h => by
  rcases keyIs_shape hv with ⟨i, t, rfl, rfl⟩ | ⟨x, t, rfl, rfl⟩
  ·exact wpAny_pyHash_int h
  ·exact wpAny_pyHash_str h
 eqBool := fun hu hv h => by
  rcases keyIs_shape hu with ⟨i, t, rfl, rfl⟩ | ⟨x, t, rfl, rfl⟩
  ·rcases keyIs_shape hv with ⟨j, u, rfl, rfl⟩ | ⟨y, u, rfl, rfl⟩
   ·rw [key_ll] at h; exact wpAny_eqBool_int h
   ·rw [key_lr] at h; exact SeqAt.EqAt.int_str i t y u _ _ _ _ h
  ·rcases keyIs_shape hv with ⟨j, u, rfl, rfl⟩ | ⟨y, u, rfl, rfl⟩
   ·rw [key_rl] at h; exact SeqAt.EqAt.str_int x t j u _ _ _ _ h
   ·rw [key_rr] at h; exact wpAny_eqBool_str h
 «strs» := fun k x t v h => by
  rcases keyIs_shape h with ⟨i, u, rfl, e⟩ | ⟨y, u, rfl, e⟩
  ·exact nomatch e
  ·injection e with e1 _
   subst e1;cases v <;> rfl
inductive V where
 | non | bl (b : Bool) | int (i : Int) | str (x : Str) | byt (b : Array UInt8) | flt (b : UInt64) | ref (a : Addr) | ty (n : String)
 deriving DecidableEq
noncomputable def RelV : V -> Value -> Prop
 | .non, u => u = Value.none
 | .bl b, u => u = Value.bool b
 | .int i, u => ∃ t, u = Value.int i t
 | .str x, u => ∃ t, u = Value.str x t
 | .byt b, u => ∃ t, u = Value.bytes b t
 | .flt b, u => ∃ t, u = Value.float b t
 | .ref a, u => u = Value.ref a
 | .ty n, u => u = Value.type n
noncomputable abbrev Vals : List V -> List Value -> Prop := Paired RelV
theorem Vals.length {xs : List V} {us : List Value} (r : Vals xs us) : xs.length = us.length := Paired.length r
theorem Vals.get : ∀ {xs : List V} {us : List Value} {i : Nat} {x : V}, Vals xs us -> xs[i]? = some x -> ∃ u, us[i]? = some u /\ RelV x u
 | _, _, _, _, .nil, e => by simp at e
 | _, _, 0, _, .cons r _, e => by simp at e; subst e; exact ⟨_, rfl, r⟩
 | _, _, i + 1, x, .cons _ t, e => by
  obtain ⟨u, h1, h2⟩ := Vals.get (i := i) (x := x) t (by simpa using e);exact ⟨u, by simpa using h1, h2⟩
theorem Vals.set {x : V} {u : Value} (r : RelV x u) : ∀ {xs : List V} {us : List Value} (i : Nat), Vals xs us -> Vals (xs.set i x) (us.set i u)
 | _, _, _, .nil => .nil
 | _, _, 0, .cons _ t => .cons r t
 | _, _, i + 1, .cons q t => .cons q (Vals.set r i t)
theorem Vals.append : ∀ {xs ys : List V} {us ws : List Value}, Vals xs us -> Vals ys ws -> Vals (xs ++ ys) (us ++ ws) := by
 intro xs ys us ws h s
 induction h with
 | nil => exact s
 | cons r t ih => exact .cons r ih
noncomputable def RelO : Option V -> Option Value -> Prop
 | some v, some u => RelV v u
 | none, none => True
 | _, _ => False
noncomputable def KV {κ : Type} : List (κ × V) -> List (κ × Value) -> Prop := Paired fun (p : κ × V) (q : κ × Value) => p.1 = q.1 /\ RelV p.2 q.2
noncomputable def kV : Key -> V
 | .inl i => .int i
 | .inr x => .str x
inductive HO where
  | lst (xs : List V)
  | tup (xs : List V)
  | dK (kvs : List (Key × V)) | dT (kvs : List (List Key × V))
  | set (S : Int -> Bool) (n : Nat)
  | ins (C dx : Addr) (fs : List (Str × V))
  | own (x : Addr)
  | xd (fs : List (Str × V))
  | met (f x : Addr)
  | rng (lo hi : Int)
  | frz (o : Obj) (u : HO)
  | tbl (ps : Array Value)
  | ext (φ : Heap -> Prop)
noncomputable abbrev Hp := Addr -> Option HO
noncomputable def upd (H : Hp) (a : Addr) (o : HO) : Hp := fun b => if b = a then some o else H b
theorem upd_same {H : Hp} {a : Addr} {o : HO} : upd H a o a = some o := by unfold upd; rw [if_pos rfl]
theorem upd_ne {H : Hp} {a b : Addr} {o : HO} (h : b ≠ a) : upd H a o b = H b := by unfold upd; rw [if_neg h]
theorem ne_of_none {H : Hp} {a b : Addr} {o : HO} (h : H a = some o) (h' : H b = none) : a ≠ b := by
 intro e; subst e; rw [h] at h'; cases h'
section
variable (P : Program) (w : World)
noncomputable def ObjOk (H : Hp) (h : Heap) (a : Addr) : HO -> Prop
 | .lst xs => xs.length <= sizeLine /\ ∃ (its : List Value) (n : Nat), Vals xs its /\ h.get? a = some { cls := .type "list", data := .seq its.toArray n }
 | .tup xs => xs.length <= sizeLine /\ ∃ its : List Value, Vals xs its /\ IsTup h a its.toArray
 | .dK kvs => kvs.length <= sizeLine /\ (a == sysModules) = false /\ ∃ vs, KV kvs vs /\ h.DictOf (mixKind P w) a vs
 | .dT kvs => kvs.length <= sizeLine /\ (a == sysModules) = false /\ ∃ xs : List (List Key × Addr × Value),
   Paired (fun (p : List Key × V) (q : List Key × Addr × Value) => p.1 = q.1 /\ H q.2.1 = some (.tup (p.1.map kV)) /\ RelV p.2 q.2.2) kvs xs /\
   ∃ o es ep, h.get? a = some o /\ o.ExactDict /\ o.data = .dict es ep /\ es.toList = xs.map (entryOfKey (tupleKind (mixKind P w))) /\ (xs.map (·.1)).Nodup
 | .set S n => h.SetOf (intKind P w) a S n
 | .ins C dx fs => H dx = some (.own a) /\ fs.length <= 1000 /\ dx ≠ a /\ h.get? a = some (instObj C dx) /\
   ∃ mA, h.Ns1 dx mA /\ (∀ f, RelO (fs.lookup f) (mA f)) /\ PySem.Within mA (fs.map (·.1))
 | .own _ => ∃ o, h.get? a = some o
 | .xd fs => ∃ mA, h.Ns1 a mA /\ ∀ f, RelO (fs.lookup f) (mA f)
 | .rng lo hi => ∃ t u v, h.get? a = some { cls := .type "range", data := .fields #[.int lo t, .int hi u, .int 1 v] }
 | .frz o u => h.get? a = some o /\ ObjOk H h a u
 | .tbl ps => h.get? a = some { cls := .none, data := .fields ps }
 | .met f x => h.get? a = some (methodObj (.ref f) (.ref x))
 | .ext φ => φ h /\ (∃ o, h.get? a = some o) /\ ∀ h1 h2 : Heap, φ h1 -> (∀ o, h1.get? a = some o -> h2.get? a = some o) -> φ h2
noncomputable def HOk (H : Hp) (h : Heap) : Prop := ∀ a o, H a = some o -> ObjOk P w H h a o
end
section
variable {P : Program} {w : World} {H H' : Hp} {h h' : Heap} {a : Addr} {o : HO}
theorem ObjOk.lt (x : ObjOk P w H h a o) : a < h.objs.size := by
 cases o with
 | lst xs => obtain ⟨_, _, _, _, e⟩ := x; exact Heap.lt_size e
 | tup xs => obtain ⟨_, _, _, p⟩ := x; exact p.lt
 | dK kvs => obtain ⟨_, _, _, _, o, _, _, e, _⟩ := x; exact Heap.lt_size e
 | dT kvs => obtain ⟨_, _, _, _, o, _, _, e, _⟩ := x; exact Heap.lt_size e
 | set S n => obtain ⟨o, _, _, _, e, _⟩ := x; exact Heap.lt_size e
 | ins C dx fs => obtain ⟨_, _, _, e, _⟩ := x; exact Heap.lt_size e
 | own y => obtain ⟨_, e⟩ := x; exact Heap.lt_size e
 | xd fs => obtain ⟨_, ⟨_, _, _, e, _⟩, _⟩ := x; exact Heap.lt_size e
 | rng lo hi => obtain ⟨_, _, _, e⟩ := x; exact Heap.lt_size e
 | frz ob u => obtain ⟨e, _⟩ := x; exact Heap.lt_size e
 | tbl ps => exact Heap.lt_size (show h.get? a = some _ from x)
 | met f y => exact Heap.lt_size (show h.get? a = some _ from x)
 | ext φ => obtain ⟨_, ⟨_, e⟩, _⟩ := x; exact Heap.lt_size e
theorem Paired.mapP {α β : Type} {F G : α -> β -> Prop} : ∀ {l₁ : List α} {l₂ : List β}, Paired F l₁ l₂ -> (∀ a b, F a b -> G a b) -> Paired G l₁ l₂ := by
 intro l₁ l₂ h f
 induction h with
 | nil => exact .nil
 | cons r t ih => exact .cons (f _ _ r) ih
theorem ObjOk.stay (x : ObjOk P w H h a o) (k : ∀ b u, (b = a \/ H b = some (.own a)) -> h.get? b = some u -> h'.get? b = some u)
  (ho : ∀ b, H b = some (.own a) -> H' b = some (.own a)) (ht : ∀ b xs, H b = some (.tup xs) -> H' b = some (.tup xs)) : ObjOk P w H' h' a o := by
 induction o with
 | lst xs => obtain ⟨z, its, n, r, e⟩ := x; exact ⟨z, its, n, r, k _ _ (.inl rfl) e⟩
 | tup xs => obtain ⟨z, its, r, ob, e, c⟩ := x; exact ⟨z, its, r, ob, k _ _ (.inl rfl) e, c⟩
 | dK kvs => obtain ⟨z, y, vs, r, ob, es, ep, e, c⟩ := x; exact ⟨z, y, vs, r, ob, es, ep, k _ _ (.inl rfl) e, c⟩
 | dT kvs =>
  obtain ⟨z, y, xs, r, ob, es, ep, e, c⟩ := x;exact ⟨z, y, xs, Paired.mapP r fun p q z => ⟨z.1, ht _ _ z.2.1, z.2.2⟩, ob, es, ep, k _ _ (.inl rfl) e, c⟩
 | set S n => obtain ⟨ob, es, ep, t, e, c⟩ := x; exact ⟨ob, es, ep, t, k _ _ (.inl rfl) e, c⟩
 | ins C dx fs =>
  obtain ⟨d, z, ne, e, mA, ⟨od, es, ep, e2, c⟩, r⟩ := x;exact ⟨ho _ d, z, ne, k _ _ (.inl rfl) e, mA, ⟨od, es, ep, k _ _ (.inr d) e2, c⟩, r⟩
 | own y => obtain ⟨ob, e⟩ := x; exact ⟨ob, k _ _ (.inl rfl) e⟩
 | xd fs => obtain ⟨mA, ⟨od, es, ep, e, c⟩, r⟩ := x; exact ⟨mA, ⟨od, es, ep, k _ _ (.inl rfl) e, c⟩, r⟩
 | rng lo hi => obtain ⟨t, u, v, e⟩ := x; exact ⟨t, u, v, k _ _ (.inl rfl) e⟩
 | frz ob u ih => obtain ⟨e, q⟩ := x; exact ⟨k _ _ (.inl rfl) e, ih q⟩
 | tbl ps =>
  have e : h.get? a = some { cls := .none, data := .fields ps } := x;show h'.get? a = some { cls := .none, data := .fields ps };exact k a _ (.inl rfl) e
 | met f y =>
  have e : h.get? a = some (methodObj (.ref f) (.ref y)) := x;show h'.get? a = some (methodObj (.ref f) (.ref y));exact k a _ (.inl rfl) e
 | ext φ => obtain ⟨p, ⟨o, e⟩, st⟩ := x; exact ⟨st _ _ p fun o q => k _ _ (.inl rfl) q, ⟨o, k _ _ (.inl rfl) e⟩, st⟩
theorem HOk.lt (x : HOk P w H h) (e : H a = some o) : a < h.objs.size := (x a o e).lt
theorem HOk.fresh (x : HOk P w H h) (e : h.objs.size <= a) : H a = none := by
 cases q : H a with
 | none => rfl
 | some u => exact absurd (Nat.lt_of_lt_of_le (x.lt q) e) (Nat.lt_irrefl _)
theorem HOk.kept (x : HOk P w H h) (k : ∀ b u, h.get? b = some u -> h'.get? b = some u) : HOk P w H h' := fun a o e =>
 (x a o e).stay (fun b u _ q => k b u q) (fun _ q => q) fun _ _ q => q
theorem HOk.laid (x : HOk P w H h) (k : ∀ b u, h.get? b = some u -> h'.get? b = some u) (hp : h.objs.size <= a) (new : ObjOk P w (upd H a o) h' a o) : HOk P w (upd H a o) h' := fun b u e => by
 have hn := x.fresh hp;by_cases hb : b = a
 ·subst hb; rw [upd_same] at e; cases e; exact new
 ·rw [upd_ne hb] at e
  exact (x b u e).stay (fun c v _ q => k c v q) (fun c q => by rw [upd_ne (ne_of_none q hn)]; exact q) fun c xs q => by rw [upd_ne (ne_of_none q hn)]; exact q
end
noncomputable def Rd (H : Hp) (a : Addr) (u : HO) : Prop := H a = some u \/ ∃ o, H a = some (.frz o u)
theorem Rd.ok {P : Program} {w : World} {H : Hp} {h : Heap} {a : Addr} {u : HO} (r : Rd H a u) (x : HOk P w H h) : ObjOk P w H h a u := by
 rcases r with r | ⟨o, r⟩
 ·exact x a u r
 ·obtain ⟨_, q⟩ := x a _ r
  exact q
noncomputable def Mut : Option HO -> Prop
 | some (.lst _) => True
 | some (.dK _) => True
 | some (.dT _) => True
 | some (.set _ _) => True
 | some (.ins _ _ _) => True
 | some (.ext _) => True
 | _ => False
section
variable {P : Program} {w : World} {H : Hp} {h h' : Heap} {x e : Addr} {o' : HO}
theorem HOk.write (ok : HOk P w H h) (mu : Mut (H x)) (he : e = x \/ H e = some (.own x)) (k : ∀ b u, b ≠ e -> h.get? b = some u -> h'.get? b = some u) (heo : ∃ u, h'.get? e = some u)
  (new : ObjOk P w (upd H x o') h' x o') : HOk P w (upd H x o') h' := fun b u q => by
 have nown : ∀ c y, H c = some (.own y) -> c ≠ x := fun c y r z => by subst z; rw [r] at mu; exact mu
 have ntup : ∀ c xs, H c = some (.tup xs) -> c ≠ x := fun c xs r z => by subst z; rw [r] at mu; exact mu
 by_cases hb : b = x
 ·subst hb; rw [upd_same] at q; cases q; exact new
 ·rw [upd_ne hb] at q
  by_cases hbe : b = e
  ·have q' : H b = some (.own x) := by
    rcases he with z | z
    ·exact absurd (hbe.trans z) hb
    ·rw [hbe]; exact z
   rw [q] at q'; cases q';obtain ⟨v, hv⟩ := heo;exact ⟨v, by rw [hbe]; exact hv⟩
  ·refine (ok b u q).stay (fun c v hc r => k c v ?_ r) (fun c r => by rw [upd_ne (nown c b r)]; exact r) fun c xs r => by rw [upd_ne (ntup c xs r)]; exact r
   rcases hc with rfl | hc
   ·exact hbe
   ·rintro rfl
    rcases he with z | z
    ·exact nown c b hc z
    ·rw [hc] at z; cases z; exact hb rfl
end
structure Un (fs ex : List Addr) (H H' : Hp) (h h' : Heap) : Prop where
 keep : ∀ b o, h.get? b = some o -> H b = none -> b ∉ fs -> b ∉ ex -> h'.get? b = some o
 slot : ∀ b o, h.get? b = some o -> H b = none -> b ∈ fs -> b ∉ ex -> ∃ sl, h'.get? b = some { o with slots := sl }
 free : ∀ b o, h.get? b = some o -> H b = none -> b ∉ ex -> H' b = none
 there : ∀ b o, h.get? b = some o -> b ∉ ex -> ∃ o', h'.get? b = some o'
 tups : ∀ b xs, H b = some (.tup xs) -> H' b = some (.tup xs)
 frzs : ∀ b o u, H b = some (.frz o u) -> H' b = some (.frz o u)
 tbls : ∀ b ps, H b = some (.tbl ps) -> ∃ more, H' b = some (.tbl (ps ++ more))
section
variable {fs fs' ex ex' : List Addr} {H H1 H2 : Hp} {h h1 h2 h' : Heap} {a x e : Addr} {o : HO}
theorem Un.any (u : Un fs ex H H1 h h1) {b : Addr} {ob : Obj} (q : h.get? b = some ob) (n : H b = none) (hx : b ∉ ex) : ∃ sl, h1.get? b = some { ob with slots := sl } := by
 by_cases hb : b ∈ fs
 ·exact u.slot b ob q n hb hx
 ·exact ⟨ob.slots, u.keep b ob q n hb hx⟩
theorem Un.kept (k : ∀ b u, h.get? b = some u -> h'.get? b = some u) : Un fs ex H H h h' :=
 ⟨fun b ob q _ _ _ => k b ob q, fun b ob q _ _ _ => ⟨ob.slots, k b ob q⟩, fun _ _ _ n _ => n, fun b ob q _ => ⟨ob, k b ob q⟩, fun _ _ q => q, fun _ _ _ q => q, fun _ ps q => ⟨#[], by rw [q]; simp⟩⟩
theorem Un.refl : Un fs ex H H h h := Un.kept fun _ _ q => q
theorem Un.laid (k : ∀ b u, h.get? b = some u -> h'.get? b = some u) (hp : h.objs.size <= a) (hn : H a = none) : Un fs ex H (upd H a o) h h' where
 keep := fun b u q _ _ _ => k b u q
 slot := fun b u q _ _ _ => ⟨u.slots, k b u q⟩
 free := fun b u q n _ => by rw [upd_ne (Nat.ne_of_lt (Nat.lt_of_lt_of_le (Heap.lt_size q) hp))]; exact n
 there := fun b u q _ => ⟨u, k b u q⟩
 tups := fun b xs q => by rw [upd_ne (ne_of_none q hn)]; exact q
 frzs := fun b u xs q => by rw [upd_ne (ne_of_none q hn)]; exact q
 tbls := fun b ps q => ⟨#[], by rw [upd_ne (ne_of_none q hn), q]; simp⟩
theorem Un.write (mu : Mut (H x)) (he : e = x \/ H e = some (.own x)) (k : ∀ b u, b ≠ e -> h.get? b = some u -> h'.get? b = some u) (heo : ∃ u, h'.get? e = some u) : Un fs ex H (upd H x o) h h' := by
 have hx : ∀ b, H b = none -> b ≠ x := fun b n z => by subst z; rw [n] at mu; exact mu
 have hb : ∀ b, H b = none -> b ≠ e := fun b n z => by
  subst z;rcases he with r | r
  ·exact hx b n r
  ·rw [n] at r; cases r
 have hm : ∀ b u, H b = some u -> ¬ Mut (some u) -> b ≠ x := fun b u q nm z => by subst z; rw [q] at mu; exact nm mu
 refine ⟨fun b u q n _ _ => k b u (hb b n) q, fun b u q n _ _ => ⟨u.slots, k b u (hb b n) q⟩, fun b u q n _ => by rw [upd_ne (hx b n)]; exact n, fun b u q _ => ?_,
  fun b xs q => by rw [upd_ne (hm b _ q fun z => z)]; exact q, fun b u xs q => by rw [upd_ne (hm b _ q fun z => z)]; exact q, fun b ps q => ⟨#[], by rw [upd_ne (hm b _ q fun z => z), q]; simp⟩⟩
 by_cases hbe : b = e
 ·subst hbe; exact heo
 ·exact ⟨u, k b u hbe q⟩
end
noncomputable def trk (h : Heap) (H : Hp) : List Addr := (List.range h.objs.size).filter fun a => (H a).isSome
noncomputable def hidT (h : Heap) (H : Hp) : Heap := hideAll h (trk h H)
theorem hidT_size (h : Heap) (H : Hp) : (hidT h H).objs.size = h.objs.size := hideAll_size _ _
theorem hidT_get {h : Heap} {H : Hp} {b : Addr} {o : Obj} (e : h.get? b = some o) (n : H b = none) : (hidT h H).get? b = some o :=
 hideAll_get _ e fun hm => by
  have q : (H b).isSome = true := (List.mem_filter.mp hm).2;rw [n] at q; simp at q
theorem of_hidT {h : Heap} {H : Hp} {b : Addr} {o : Obj} (e : (hidT h H).get? b = some o) : h.get? b = some o /\ H b = none := by
 have e' : h.get? b = some o := of_hideAll (trk h H) e;refine ⟨e', ?_⟩;cases q : H b with
 | none => rfl
 | some x =>
  have hm : b ∈ trk h H := List.mem_filter.mpr ⟨List.mem_range.mpr (Heap.lt_size e'), by simp [q]⟩;have z : (hidT h H).get? b = none := hideAll_none (trk h H) hm;rw [z] at e; cases e
noncomputable def allNews (g h : Heap) (L : Addr) : List (Addr × Obj) := (List.range h.objs.size).filterMap fun a => if a = L \/ (g.get? a).isSome = true then none else (h.get? a).map fun o => (a, o)
noncomputable def rest (g h : Heap) (L d : Addr) : List (Addr × Obj) := (allNews g h L).filter fun p => decide (p.1 ≠ d)
structure Mod (K : PySem.W.Frag) (mg : Str -> Option Value) (base : Heap) : Prop where
 kin : K.In base
 glob : base.Ns mainGlobals mg
 blt : ∃ mb, base.Ns builtinsNs mb /\ ∀ x : Str, x ≠ "__name__" -> mb x = bootBuiltins x
 nolimit : base.NoLimit
structure Cx where
 prog : Program
 w : World
 K : PySem.W.Frag
 mg : Str -> Option Value
 base : Heap
 A : Around
 N : List Str
 s₀ : Shared
 H₀ : Hp
 env : Env
 outer : List Env
 stack : List Env
 ex : List Addr
 fn : Str -> Bool
 calm : Bool
 pn : List (Addr × Obj)
 xe : Value -> Shared -> Prop
noncomputable def frs (l : List Env) : List Addr := l.filterMap (·.frame)
noncomputable abbrev Cx.fs (X : Cx) : List Addr := frs X.outer
noncomputable def Vis (sc : Scope) (x : Str) : Prop := sc.names.lookup x = some .local \/ sc.names.lookup x = some .cell \/ sc.names.lookup x = some .free
noncomputable def Loc (sc : Scope) (x : Str) : Prop := sc.names.lookup x = some .local \/ sc.names.lookup x = some .cell
noncomputable def Look (env : Env) (h : Heap) (m : Str -> Option Value) (x : Str) (u : Value) : Prop :=
 (env.kindOf x = some .local /\ m x = some u) \/ ((env.kindOf x = some .cell \/ env.kindOf x = some .free) /\ ∃ c, env.cells.lookup x = some c /\ h.IsCell c (some u))
structure Cx.Ok (X : Cx) : Prop where
 mod : Mod X.K X.mg X.base
 kind : X.env.scope.kind = .function
 glob : X.env.globals = mainGlobals
 blt : X.env.builtins = builtinsNs
 above : X.s₀.heap.objs.size <= X.env.locals
 inj : ∀ x y c, X.env.cells.lookup x = some c -> X.env.cells.lookup y = some c -> x = y
 has : ∀ x, (X.env.kindOf x = some .cell \/ X.env.kindOf x = some .free) -> ∃ c, X.env.cells.lookup x = some c
 cab : ∀ x c, X.fn x = true -> X.env.cells.lookup x = some c -> X.s₀.heap.objs.size <= c
 hd : X.calm = true -> X.A.handled = none
 frames : X.A.frames = some X.stack
 stk : X.stack = X.outer \/ (X.stack = X.env :: X.outer /\ X.env.frame = some X.env.locals)
 exf : ∀ b ∈ X.ex, b ≠ X.env.locals /\ ∀ x c, X.env.cells.lookup x = some c -> c ≠ b
 bs : ∀ b o, X.base.get? b = some o -> X.s₀.heap.get? b = some o /\ X.H₀ b = none
 bsz : X.base.objs.size <= X.s₀.heap.objs.size
 noex : ∀ b o, X.base.get? b = some o -> b ∉ X.ex
 exfs : ∀ b ∈ X.ex, b ∉ X.fs
 funs : X.s₀.heap.FunFrames X.base X.outer
 frf : ∀ b ∈ X.fs, X.H₀ b = none
structure Inv (X : Cx) (pins : List (Addr × Obj)) (O : List (Option V)) (H : Hp) (s : Shared) : Prop where
 ok : X.Ok
 os : s.os = X.s₀.os
 bare : AllBare s.gens
 base : Un X.fs X.ex X.H₀ H X.s₀.heap s.heap
 loc : ∃ m, s.heap.Ns X.env.locals m /\ ∀ (i : Nat) (x : Str) (v : V), X.N[i]? = some x -> O[i]? = some (some v) -> Vis X.env.scope x -> ∃ u, RelV v u /\ Look X.env s.heap m x u
 cell : ∀ x c, X.env.cells.lookup x = some c -> ∃ v, s.heap.IsCell c v
 free : H X.env.locals = none
 freeC : ∀ x c, X.env.cells.lookup x = some c -> H c = none
 pin : ∀ p ∈ X.pn ++ pins, s.heap.get? p.1 = some p.2 /\ H p.1 = none /\ p.1 ≠ X.env.locals /\ p.1 ∉ X.fs /\ ∀ v, p.2.data ≠ .cell v
 hok : HOk X.prog X.w H s.heap
 len : O.length = X.N.length
section
variable {X : Cx} {pins : List (Addr × Obj)} {O : List (Option V)} {H H' : Hp} {s : Shared} {h' : Heap}
theorem Cx.Ok.nofr (ok : X.Ok) {b : Addr} {o : Obj} (e : X.base.get? b = some o) : b ∉ X.fs := fun hb => by
 have := (ok.funs.mem hb).1
 rw [e] at this; cases this
theorem Inv.bs (I : Inv X pins O H s) : ∀ b o, X.base.get? b = some o -> s.heap.get? b = some o /\ H b = none := fun b o e =>
 ⟨I.base.keep b o (I.ok.bs b o e).1 (I.ok.bs b o e).2 (I.ok.nofr e) (I.ok.noex b o e), I.base.free b o (I.ok.bs b o e).1 (I.ok.bs b o e).2 (I.ok.noex b o e)⟩
theorem Inv.bk (I : Inv X pins O H s) : ∀ b o, X.base.get? b = some o -> s.heap.get? b = some o := fun b o e => (I.bs b o e).1
theorem Inv.mod (I : Inv X pins O H s) : Mod X.K X.mg X.base := I.ok.mod
theorem Inv.kIn (I : Inv X pins O H s) : X.K.In s.heap := I.ok.mod.kin.keeps I.bk
theorem Inv.lt (I : Inv X pins O H s) : X.env.locals < s.heap.objs.size := let ⟨_, hn, _⟩ := I.loc; hn.lt
theorem Inv.sz (I : Inv X pins O H s) : X.s₀.heap.objs.size <= s.heap.objs.size := Nat.le_trans I.ok.above (Nat.le_of_lt I.lt)
theorem Inv.nofs (I : Inv X pins O H s) {a : Addr} (h : s.heap.objs.size <= a) : a ∉ X.fs := fun hb => by
 obtain ⟨_, o, ho, _⟩ := I.ok.funs.mem hb;exact absurd (Nat.lt_of_lt_of_le (Heap.lt_size ho) (Nat.le_trans I.sz h)) (Nat.lt_irrefl _)
theorem Inv.cne (I : Inv X pins O H s) : ∀ x c, X.env.cells.lookup x = some c -> c ≠ X.env.locals := fun x c e z => by
 obtain ⟨v, o, ho, hd⟩ := I.cell x c e;obtain ⟨m, ⟨o', es, ep, ho', hd', _⟩, _⟩ := I.loc;rw [z, ho'] at ho; cases ho; rw [hd'] at hd; cases hd
theorem Inv.funs (I : Inv X pins O H s) : s.heap.FunFrames X.base X.outer := by
 have all : ∀ (l : List Env), (∀ b ∈ frs l, b ∈ X.fs) -> X.s₀.heap.FunFrames X.base l -> s.heap.FunFrames X.base l := by
  intro l
  induction l with
  | nil => intro _ _; trivial
  | cons env r ih =>
   intro hs hl;obtain ⟨hk, ⟨L, o, hf, hn, ho, hd⟩, hr⟩ := hl;have hL : L ∈ X.fs := hs L (by unfold frs; rw [List.filterMap_cons, hf]; exact List.mem_cons_self);obtain ⟨sl, e⟩ := I.base.slot L o ho (I.ok.frf L hL) hL fun z => I.ok.exfs L z hL
   exact ⟨hk, ⟨L, _, hf, hn, e, hd⟩, ih (fun b hb => hs b (by unfold frs; rw [List.filterMap_cons, hf]; exact List.mem_cons_of_mem _ hb)) hr⟩
 exact all X.outer (fun _ hb => hb) I.ok.funs
theorem Inv.stack (I : Inv X pins O H s) : s.heap.FunFrames X.base X.stack := by
 rcases I.ok.stk with e | ⟨e, hf⟩
 ·rw [e]; exact I.funs
 ·rw [e]
  obtain ⟨m, hn, _⟩ := I.loc;refine .cons (by rw [I.ok.kind]; decide) hf hn ?_ I.funs;exact Heap.get?_none_of_le (Nat.le_trans I.ok.bsz I.ok.above)
theorem Inv.stkSub (I : Inv X pins O H s) : ∀ b ∈ frs X.stack, b ∈ X.env.locals :: X.fs := fun b hb => by
 rcases I.ok.stk with e | ⟨e, hf⟩
 ·rw [e] at hb; exact List.mem_cons_of_mem _ hb
 ·rw [e] at hb
  unfold frs at hb;rw [List.filterMap_cons, hf] at hb;exact hb
theorem Inv.stkFree (I : Inv X pins O H s) : ∀ b ∈ frs X.stack, H b = none := fun b hb => by
 rcases List.mem_cons.mp (I.stkSub b hb) with e | hb
 ·rw [e]; exact I.free
 ·obtain ⟨_, o, ho, _⟩ := I.ok.funs.mem hb
  exact I.base.free b o ho (I.ok.frf b hb) fun z => I.ok.exfs b z hb
theorem Inv.step {g' : Array GenState} {t' : Nat} {d' : Drawn} {ch : List Addr} (I : Inv X pins O H s)
  (hch : ∀ b ∈ ch, (b ∈ X.ex \/ X.s₀.heap.objs.size <= b) /\ b ≠ X.env.locals /\ (∀ x c, X.env.cells.lookup x = some c -> c ≠ b) /\ ∀ p ∈ X.pn ++ pins, p.1 ≠ b)
  (keep : ∀ b o, b ≠ X.env.locals -> b ∉ X.fs -> b ∉ ch -> s.heap.get? b = some o -> H b = none -> h'.get? b = some o)
  (slot : ∀ b o, b ≠ X.env.locals -> b ∈ X.fs -> b ∉ ch -> s.heap.get? b = some o -> H b = none -> ∃ sl, h'.get? b = some { o with slots := sl }) (free : ∀ b o, b ∉ ch -> s.heap.get? b = some o -> H b = none -> H' b = none)
  (there : ∀ b o, b ∉ ch -> s.heap.get? b = some o -> ∃ o', h'.get? b = some o')
  (tups : ∀ b xs, H b = some (.tup xs) -> H' b = some (.tup xs)) (frzs : ∀ b o u, H b = some (.frz o u) -> H' b = some (.frz o u)) (tbls : ∀ b ps, H b = some (.tbl ps) -> ∃ more, H' b = some (.tbl (ps ++ more)))
  (ns : ∀ m, s.heap.Ns X.env.locals m -> h'.Ns X.env.locals m) (hok : HOk X.prog X.w H' h') (hg : AllBare g') :
  Inv X pins O H' { s with heap := h', gens := g', drawn := d', toks := t' } := by
 have neL : ∀ b o, X.s₀.heap.get? b = some o -> b ≠ X.env.locals := fun b o e => Nat.ne_of_lt (Nat.lt_of_lt_of_le (Heap.lt_size e) I.ok.above)
 have neC : ∀ b o, X.s₀.heap.get? b = some o -> b ∉ X.ex -> b ∉ ch := fun b o e hx hb => by
  rcases (hch b hb).1 with z | z
  ·exact hx z
  ·exact absurd (Nat.lt_of_lt_of_le (Heap.lt_size e) z) (Nat.lt_irrefl _)
 have cellK : ∀ x c, X.env.cells.lookup x = some c -> ∀ v, s.heap.IsCell c v -> h'.IsCell c v := fun x c e v hq0 => by
  obtain ⟨o, ho, hd⟩ := hq0;have nch : c ∉ ch := fun z => (hch c z).2.2.1 x c e rfl
  by_cases hc : c ∈ X.fs
  ·obtain ⟨sl, q⟩ := slot c o (I.cne x c e) hc nch ho (I.freeC x c e)
   exact ⟨_, q, hd⟩
  ·exact ⟨o, keep c o (I.cne x c e) hc nch ho (I.freeC x c e), hd⟩
 refine ⟨I.ok, I.os, hg, ⟨fun b o e n hb hx => ?_, fun b o e n hb hx => ?_, fun b o e n hx => ?_, fun b o e hx => ?_, fun b xs e => tups b xs (I.base.tups b xs e), fun b o xs e => frzs b o xs (I.base.frzs b o xs e), fun b ps e => ?_⟩, ?_, fun x c e => ?_, ?_, fun x c e => ?_, fun p hp => ?_, hok, I.len⟩
 ·exact keep b o (neL b o e) hb (neC b o e hx) (I.base.keep b o e n hb hx) (I.base.free b o e n hx)
 ·obtain ⟨sl, e1⟩ := I.base.slot b o e n hb hx
  obtain ⟨sl', e2⟩ := slot b _ (neL b o e) hb (neC b o e hx) e1 (I.base.free b o e n hx);exact ⟨sl', e2⟩
 ·obtain ⟨o', e1⟩ := I.base.there b o e hx
  exact free b o' (neC b o e hx) e1 (I.base.free b o e n hx)
 ·obtain ⟨o', e1⟩ := I.base.there b o e hx
  exact there b o' (neC b o e hx) e1
 ·obtain ⟨m1, e1⟩ := I.base.tbls b ps e
  obtain ⟨m2, e2⟩ := tbls b _ e1;exact ⟨m1 ++ m2, by rw [e2, Array.append_assoc]⟩
 ·obtain ⟨m, hn, hl⟩ := I.loc
  refine ⟨m, ns m hn, fun i x v e1 e2 e3 => ?_⟩;obtain ⟨u, r, l⟩ := hl i x v e1 e2 e3;refine ⟨u, r, ?_⟩;rcases l with l | ⟨k, c, e, z⟩
  ·exact .inl l
  ·exact .inr ⟨k, c, e, cellK x c e _ z⟩
 ·obtain ⟨v, z⟩ := I.cell x c e
  exact ⟨v, cellK x c e v z⟩
 ·obtain ⟨m, ⟨o, _, _, ho, _⟩, _⟩ := I.loc
  exact free _ o (fun z => (hch _ z).2.1 rfl) ho I.free
 ·obtain ⟨v, o, ho, hd⟩ := I.cell x c e
  exact free c o (fun z => (hch c z).2.2.1 x c e rfl) ho (I.freeC x c e)
 ·obtain ⟨e, n, ne, nf, d⟩ := I.pin p hp
  have nch : p.1 ∉ ch := fun z => (hch p.1 z).2.2.2 p hp rfl
  exact ⟨keep p.1 p.2 ne nf nch e n, free p.1 p.2 nch e n, ne, nf, d⟩
theorem Inv.un {t' : Nat} (I : Inv X pins O H s) (u : Un X.fs [] H H' s.heap h') (hok : HOk X.prog X.w H' h') : Inv X pins O H' { s with heap := h', toks := t' } := by
 obtain ⟨m, ⟨o, es, ep, ho, r⟩, _⟩ := id I.loc;obtain ⟨sl, hL⟩ := u.any ho I.free (by simp);exact I.step (g' := s.gens) (d' := s.drawn) (ch := []) (fun _ z => nomatch z) (fun b o _ hb _ e n => u.keep b o e n hb (by simp)) (fun b o _ hb _ e n => u.slot b o e n hb (by simp)) (fun b o _ e n => u.free b o e n (by simp)) (fun b o _ e => u.there b o e (by simp)) u.tups u.frzs u.tbls (fun m' hm => by
  obtain ⟨o', es', ep', ho', r'⟩ := hm;rw [ho] at ho'; cases ho';exact ⟨_, es', ep', hL, r'⟩) hok I.bare
theorem Inv.call {g' : Array GenState} {t' : Nat} {d' : Drawn} {ch : List Addr} (I : Inv X pins O H s) (u : Un (frs X.stack) ch H H' s.heap h') (hok : HOk X.prog X.w H' h') (hg : AllBare g')
  (hch : ∀ b ∈ ch, (b ∈ X.ex \/ X.s₀.heap.objs.size <= b) /\ b ≠ X.env.locals /\ (∀ x c, X.env.cells.lookup x = some c -> c ≠ b) /\ ∀ p ∈ X.pn ++ pins, p.1 ≠ b) :
  Inv X pins O H' { s with heap := h', gens := g', drawn := d', toks := t' } := by
 obtain ⟨m, ⟨o, es, ep, ho, r⟩, _⟩ := id I.loc;obtain ⟨sl, hL⟩ := u.any ho I.free fun z => (hch _ z).2.1 rfl
 exact I.step (ch := ch) hch (fun b o hL hb hc e n => u.keep b o e n (fun z => (List.mem_cons.mp (I.stkSub b z)).elim hL hb) hc) (fun b o _ _ hc e n => u.any e n hc) (fun b o hc e n => u.free b o e n hc) (fun b o hc e => u.there b o e hc) u.tups u.frzs u.tbls (fun m' hm => by
  obtain ⟨o', es', ep', ho', r'⟩ := hm;rw [ho] at ho'; cases ho';exact ⟨_, es', ep', hL, r'⟩) hok hg
theorem Inv.turned {t' : Nat} {it : Addr} (I : Inv X pins O H s) (k : ∀ b o, b ≠ it -> s.heap.get? b = some o -> h'.get? b = some o) (hn : H it = none) (hL : it ≠ X.env.locals)
  (h1 : it ∈ X.ex \/ X.s₀.heap.objs.size <= it) (h2 : ∀ x c, X.env.cells.lookup x = some c -> c ≠ it) (h3 : ∀ p ∈ X.pn ++ pins, p.1 ≠ it) : Inv X pins O H { s with heap := h', toks := t' } := by
 have nit : ∀ b u, H b = some u -> b ≠ it := fun b u e z => by rw [z, hn] at e; cases e
 refine I.step (g' := s.gens) (d' := s.drawn) (ch := [it]) (fun b hb => ?_) (fun b o _ _ hc e _ => k b o (fun z => hc (by simp [z])) e) (fun b o _ _ hc e _ => ⟨o.slots, k b o (fun z => hc (by simp [z])) e⟩) (fun _ _ _ _ n => n)
  (fun b o hc e => ⟨o, k b o (fun z => hc (by simp [z])) e⟩) (fun _ _ e => e) (fun _ _ _ e => e) (fun b ps e => ⟨#[], by rw [e]; simp⟩) (fun m hm => ?_) (fun b u e => ?_) I.bare
 ·have e : b = it := by simpa using hb
  subst e;exact ⟨h1, hL, h2, h3⟩
 ·obtain ⟨o, es, ep, ho, r⟩ := hm
  exact ⟨o, es, ep, k _ o (Ne.symm hL) ho, r⟩
 ·refine (I.hok b u e).stay (fun c v hc q => k c v ?_ q) (fun _ q => q) fun _ _ q => q
  rcases hc with z | z
  ·rw [z]; exact nit b u e
  ·exact nit c _ z
theorem Inv.tok (I : Inv X pins O H s) (t : Nat) : Inv X pins O H { s with toks := t } := I.un (h' := s.heap) (t' := t) Un.refl I.hok
theorem Inv.kept {t' : Nat} (I : Inv X pins O H s) (k : ∀ b u, s.heap.get? b = some u -> h'.get? b = some u) : Inv X pins O H { s with heap := h', toks := t' } := I.un (Un.kept k) (I.hok.kept k)
theorem Inv.laid {a : Addr} {o : HO} {t' : Nat} (I : Inv X pins O H s) (k : ∀ b u, s.heap.get? b = some u -> h'.get? b = some u) (hp : s.heap.objs.size <= a) (new : ObjOk X.prog X.w (upd H a o) h' a o) :
  Inv X pins O (upd H a o) { s with heap := h', toks := t' } := I.un (Un.laid k hp (I.hok.fresh hp)) (I.hok.laid k hp new)
theorem Inv.write {x e : Addr} {o : HO} {t' : Nat} (I : Inv X pins O H s) (mu : Mut (H x)) (he : e = x \/ H e = some (.own x)) (k : ∀ b u, b ≠ e -> s.heap.get? b = some u -> h'.get? b = some u) (heo : ∃ u, h'.get? e = some u)
  (new : ObjOk X.prog X.w (upd H x o) h' x o) : Inv X pins O (upd H x o) { s with heap := h', toks := t' } := I.un (Un.write mu he k heo) (I.hok.write mu he k heo new)
theorem Inv.pins_of {pins' : List (Addr × Obj)} (I : Inv X pins O H s) (h : ∀ p ∈ pins', s.heap.get? p.1 = some p.2 /\ H p.1 = none /\ p.1 ≠ X.env.locals /\ p.1 ∉ X.fs /\ ∀ v, p.2.data ≠ .cell v) : Inv X pins' O H s :=
 ⟨I.ok, I.os, I.bare, I.base, I.loc, I.cell, I.free, I.freeC, fun p hp => (List.mem_append.mp hp).elim (fun z => I.pin p (List.mem_append_left _ z)) (h p), I.hok, I.len⟩
theorem nodup_ix {N : List Str} (hN : N.Nodup) {i j : Nat} {x : Str} (a : N[i]? = some x) (b : N[j]? = some x) : i = j := by
 obtain ⟨h1, e1⟩ := List.getElem?_eq_some_iff.mp a;obtain ⟨h2, e2⟩ := List.getElem?_eq_some_iff.mp b;exact (List.getElem_inj hN).mp (e1.trans e2.symm)
theorem store_ok2 {M : Model} {A : Around} {E : Value -> Shared -> Prop} {i : Nat} {x : Str} {v : V} {u : Value} {Q : Unit -> Shared -> Prop} (I : Inv X pins O H s) (hN : X.N.Nodup) (hi : X.N[i]? = some x) (hx : Loc X.env.scope x) (r : RelV v u)
  (h : ∀ s', Inv X pins (O.set i (some v)) H s' -> (∃ a, Heap.SameBut a s.heap s'.heap /\ (a = X.env.locals \/ X.env.cells.lookup x = some a)) -> Q () s') (hf : autoParam (X.fn x = true \/ X.env.scope.names.lookup x = some .local) Ax0._auto_1) : wpAny M A (storeName X.env x u) Q E s := by
 obtain ⟨m, hn, hl⟩ := id I.loc;have hcls : (X.env.scope.kind == .class || (X.env.scope.kind == .module && X.env.locals != X.env.globals)) = false := by rw [I.ok.kind]; rfl
 have hiO : i < O.length := by rw [I.len]; exact (List.getElem?_eq_some_iff.mp hi).1
 have cne := I.cne;have tracked : ∀ {a : Addr} {h' : Heap}, (∃ o, s.heap.get? a = some o /\ H a = none) -> Heap.SameBut a s.heap h' -> HOk X.prog X.w H h' := fun {a h'} ha hs b ob e => by
  obtain ⟨_, _, hfree⟩ := ha;refine (I.hok b ob e).stay (fun c w' hc q => (hs.2 c ?_).trans q) (fun _ q => q) fun _ _ q => q
  rintro rfl;rcases hc with rfl | hc
  ·rw [hfree] at e; cases e
  ·rw [hfree] at hc; cases hc
 rcases hx with hk | hk
 ·refine wpAny_storeName_local hk hn (fun h' hn' hs => ?_) hcls
  obtain ⟨oL, _, _, hoL, _⟩ := id hn;refine h _ ⟨I.ok, I.os, I.bare, ⟨fun b o e n hb hx => ?_, fun b o e n hb hx => ?_, I.base.free, fun b o e hx => ?_, I.base.tups, I.base.frzs, I.base.tbls⟩, ⟨_, hn', fun j y v' e1 e2 e3 => ?_⟩, fun y c e => ?_, I.free, I.freeC, fun p hp => ?_, tracked ⟨oL, hoL, I.free⟩ hs, by simpa using I.len⟩ ⟨_, hs, .inl rfl⟩
  ·exact (hs.2 b (Nat.ne_of_lt (Nat.lt_of_lt_of_le (Heap.lt_size e) I.ok.above))).trans (I.base.keep b o e n hb hx)
  ·obtain ⟨sl, e1⟩ := I.base.slot b o e n hb hx
   exact ⟨sl, (hs.2 b (Nat.ne_of_lt (Nat.lt_of_lt_of_le (Heap.lt_size e) I.ok.above))).trans e1⟩
  ·obtain ⟨o', e1⟩ := I.base.there b o e hx
   exact ⟨o', (hs.2 b (Nat.ne_of_lt (Nat.lt_of_lt_of_le (Heap.lt_size e) I.ok.above))).trans e1⟩
  ·by_cases hj : j = i
   ·subst hj
    rw [hi] at e1; cases e1;rw [List.getElem?_set_self hiO] at e2;cases e2;exact ⟨u, r, .inl ⟨hk, by simp⟩⟩
   ·rw [List.getElem?_set_ne (Ne.symm hj)] at e2
    obtain ⟨u', r', q⟩ := hl j y v' e1 e2 e3;refine ⟨u', r', ?_⟩;rcases q with ⟨k, e⟩ | ⟨k, c, e, z⟩
    ·refine .inl ⟨k, ?_⟩
     have : y ≠ x := fun e => hj (nodup_ix hN e1 (e ▸ hi))
     simp [this, e]
    ·exact .inr ⟨k, c, e, z.sameBut hs (cne y c e)⟩
  ·obtain ⟨w', z⟩ := I.cell y c e
   exact ⟨w', z.sameBut hs (cne y c e)⟩
  ·obtain ⟨e, n, ne, nf, d⟩ := I.pin p hp
   exact ⟨(hs.2 p.1 ne).trans e, n, ne, nf, d⟩
 ·have hfn : X.fn x = true := by
   rcases hf with z | z
   ·exact z
   ·rw [z] at hk; cases hk
  obtain ⟨c, hc⟩ := I.ok.has x (.inl hk);obtain ⟨w', z⟩ := I.cell x c hc;refine wpAny_storeName_cell I.ok.kind hk hc z (fun h' hc' hs => ?_);obtain ⟨oc, hoc, hocd⟩ := id z;refine h { s with heap := h' } ⟨I.ok, I.os, I.bare, ⟨fun b o e n hb hx => ?_, fun b o e n hb hx => ?_, I.base.free, fun b o e hx => ?_, I.base.tups, I.base.frzs, I.base.tbls⟩, ⟨m, hn.sameBut hs (Ne.symm (cne x c hc)), fun j y v' e1 e2 e3 => ?_⟩, fun y c' e => ?_, I.free, I.freeC, fun p hp => ?_, tracked ⟨oc, hoc, I.freeC x c hc⟩ hs, by simpa using I.len⟩ ⟨c, hs, .inr hc⟩
  ·exact (hs.2 b (Nat.ne_of_lt (Nat.lt_of_lt_of_le (Heap.lt_size e) (I.ok.cab x c hfn hc)))).trans (I.base.keep b o e n hb hx)
  ·obtain ⟨sl, e1⟩ := I.base.slot b o e n hb hx
   exact ⟨sl, (hs.2 b (Nat.ne_of_lt (Nat.lt_of_lt_of_le (Heap.lt_size e) (I.ok.cab x c hfn hc)))).trans e1⟩
  ·obtain ⟨o', e1⟩ := I.base.there b o e hx
   exact ⟨o', (hs.2 b (Nat.ne_of_lt (Nat.lt_of_lt_of_le (Heap.lt_size e) (I.ok.cab x c hfn hc)))).trans e1⟩
  ·by_cases hj : j = i
   ·subst hj
    rw [hi] at e1; cases e1;rw [List.getElem?_set_self hiO] at e2;cases e2;exact ⟨u, r, .inr ⟨.inl hk, c, hc, hc'⟩⟩
   ·rw [List.getElem?_set_ne (Ne.symm hj)] at e2
    obtain ⟨u', r', q⟩ := hl j y v' e1 e2 e3;refine ⟨u', r', ?_⟩;rcases q with q | ⟨k, c', e, z'⟩
    ·exact .inl q
    ·refine .inr ⟨k, c', e, z'.sameBut hs ?_⟩
     rintro rfl;exact hj (nodup_ix hN e1 (I.ok.inj _ _ _ e hc ▸ hi))
  ·by_cases hcc : c' = c
   ·subst hcc; exact ⟨_, hc'⟩
   ·obtain ⟨w2, z2⟩ := I.cell y c' e
    exact ⟨w2, z2.sameBut hs hcc⟩
  ·obtain ⟨e, n, ne, nf, d⟩ := I.pin p hp
   refine ⟨(hs.2 p.1 ?_).trans e, n, ne, nf, d⟩;intro q;rw [q, hoc] at e;have q' : oc = p.2 := Option.some.inj e;exact d w' (by rw [<- q']; exact hocd)
theorem store_ok {M : Model} {A : Around} {E : Value -> Shared -> Prop} {i : Nat} {x : Str} {v : V} {u : Value} {Q : Unit -> Shared -> Prop} (I : Inv X pins O H s) (hN : X.N.Nodup) (hi : X.N[i]? = some x) (hx : Loc X.env.scope x) (r : RelV v u)
  (h : ∀ s', Inv X pins (O.set i (some v)) H s' -> Q () s') (hf : autoParam (X.fn x = true \/ X.env.scope.names.lookup x = some .local) Ax0._auto_1) : wpAny M A (storeName X.env x u) Q E s :=
 store_ok2 I hN hi hx r (fun s' I' _ => h s' I') hf
theorem Inv.call' {s' : Shared} {ch : List Addr} (I : Inv X pins O H s) (ho : s'.os = s.os) (u : Un (frs X.stack) ch H H' s.heap s'.heap) (hok : HOk X.prog X.w H' s'.heap) (hg : AllBare s'.gens)
  (hch : ∀ b ∈ ch, (b ∈ X.ex \/ X.s₀.heap.objs.size <= b) /\ b ≠ X.env.locals /\ (∀ x c, X.env.cells.lookup x = some c -> c ≠ b) /\ ∀ p ∈ X.pn ++ pins, p.1 ≠ b) : Inv X pins O H' s' := by
 obtain ⟨h', g', d', t', o'⟩ := s';have e : o' = s.os := ho;subst e;exact I.call (g' := g') (t' := t') (d' := d') u hok hg hch
end
noncomputable abbrev XK := Value -> Option Addr -> Hp -> Prop
noncomputable abbrev St := List (Option V)
noncomputable abbrev VK := V -> Hp -> Prop
noncomputable abbrev TE := St -> Hp -> VK -> Prop
noncomputable abbrev TT := St -> Hp -> (Bool -> Hp -> Prop) -> Prop
noncomputable abbrev TA := St -> Hp -> (List V -> Hp -> Prop) -> Prop
structure Ends where
 nx : St -> Hp -> Prop
 rt : VK
 bk : St -> Hp -> Prop := fun _ _ => False
 ct : St -> Hp -> Prop := fun _ _ => False
noncomputable abbrev TS := Ends -> St -> Hp -> Prop
noncomputable def EP (X : Cx) (pins : List (Addr × Obj)) (O : St) (Q : VK) (u : Value) (s' : Shared) : Prop := ∃ v H', Inv X pins O H' s' /\ RelV v u /\ Q v H'
noncomputable def TP (X : Cx) (pins : List (Addr × Obj)) (O : St) (Q : Bool -> Hp -> Prop) (b : Bool) (s' : Shared) : Prop := ∃ H', Inv X pins O H' s' /\ Q b H'
noncomputable def AP (X : Cx) (pins : List (Addr × Obj)) (O : St) (Q : List V -> Hp -> Prop) (us : List Value) (s' : Shared) : Prop := ∃ vs H', Inv X pins O H' s' /\ Vals vs us /\ Q vs H'
noncomputable def SP (X : Cx) (pins : List (Addr × Obj)) (D : Ends) (f : Flow) (s' : Shared) : Prop :=
 match f with
 | .next => ∃ O' H', Inv X pins O' H' s' /\ D.nx O' H'
 | .brk => ∃ O' H', Inv X pins O' H' s' /\ D.bk O' H'
 | .cont => ∃ O' H', Inv X pins O' H' s' /\ D.ct O' H'
 | .ret u => ∃ v O' H', Inv X pins O' H' s' /\ RelV v u /\ D.rt v H'
noncomputable def PE (X : Cx) (e : Expr) (t : TE) : Prop :=
 ∀ (pins : List (Addr × Obj)) (s : Shared) (O : St) (H : Hp) (Q : VK), Inv X pins O H s -> t O H Q -> wpAny (model X.prog X.w) X.A (eval e X.env) (EP X pins O Q) X.xe s
noncomputable def PT (X : Cx) (e : Expr) (t : TT) : Prop :=
 ∀ (pins : List (Addr × Obj)) (s : Shared) (O : St) (H : Hp) (Q : Bool -> Hp -> Prop), Inv X pins O H s -> t O H Q -> wpAny (model X.prog X.w) X.A (isTrue e X.env (eval e X.env)) (TP X pins O Q) X.xe s
noncomputable def PW (X : Cx) (e : Expr) (t : TT) : Prop :=
 ∀ (whole : Sem Value) (pins : List (Addr × Obj)) (s : Shared) (O : St) (H : Hp) (Q : Bool -> Hp -> Prop), Inv X pins O H s -> t O H Q -> wpAny (model X.prog X.w) X.A (isTrue e X.env whole) (TP X pins O Q) X.xe s
theorem PW.pt {X : Cx} {e : Expr} {t : TT} (h : PW X e t) : PT X e t := h _
noncomputable def PA (X : Cx) (es : List Expr) (t : TA) : Prop :=
 ∀ (pos : Pos) (pins : List (Addr × Obj)) (s : Shared) (O : St) (H : Hp) (Q : List V -> Hp -> Prop), Inv X pins O H s -> t O H Q -> wpAny (model X.prog X.w) X.A (spliced (backTo pos (starEach es X.env))) (AP X pins O Q) X.xe s
noncomputable def PS (X : Cx) (st : Stmt) (t : TS) : Prop :=
 ∀ (pins : List (Addr × Obj)) (s : Shared) (O : St) (H : Hp) (D : Ends), Inv X pins O H s -> t D O H -> wpAny (model X.prog X.w) X.A (exec st X.env) (SP X pins D) X.xe s
noncomputable def PSs (X : Cx) (st : List Stmt) (t : TS) : Prop :=
 ∀ (pins : List (Addr × Obj)) (s : Shared) (O : St) (H : Hp) (D : Ends), Inv X pins O H s -> t D O H -> wpAny (model X.prog X.w) X.A (execs st X.env) (SP X pins D) X.xe s
theorem thn {α : Type} {t : Sem α} {Q Q' : α -> Shared -> Prop} {M : Model} {A : Around} {E : Value -> Shared -> Prop} {s : Shared} (h : wpAny M A t Q E s) (hQ : ∀ a s, Q a s -> Q' a s) : wpAny M A t Q' E s := wpAny_mono h hQ fun _ _ x => x
section
variable {X : Cx}
theorem bin {a b : Expr} {ta tb : TE} (ha : PE X a ta) (hb : PE X b tb) {pins : List (Addr × Obj)} {s : Shared} {O : St} {H : Hp} {R : V -> V -> Hp -> Prop} (I : Inv X pins O H s) (h : ta O H fun x H1 => tb O H1 fun y H2 => R x y H2)
  {α : Type} {Q : α -> Shared -> Prop} {f : Value -> Value -> Sem α}
  (hf : ∀ v u s2 x y H2, Inv X pins O H2 s2 -> RelV x v -> RelV y u -> R x y H2 -> wpAny (model X.prog X.w) X.A (f v u) Q X.xe s2) :
  wpAny (model X.prog X.w) X.A (eval a X.env) (fun v s₁ => wpAny (model X.prog X.w) X.A (eval b X.env) (fun u s₂ => wpAny (model X.prog X.w) X.A (f v u) Q X.xe s₂) X.xe s₁) X.xe s := by
 refine thn (ha pins s O H _ I h) fun v s1 ⟨x, H1, I1, r1, q1⟩ => ?_
 refine thn (hb pins s1 O H1 _ I1 q1) fun u s2 ⟨y, H2, I2, r2, q2⟩ => ?_
 exact hf v u s2 x y H2 I2 r1 r2 q2
noncomputable def tVar (i : Nat) : TE := fun O H Q => ∃ v, O[i]? = some (some v) /\ Q v H
noncomputable def tC (v : V) : TE := fun _ H Q => Q v H
theorem pe_var {i : Nat} {x : Str} {pos : Pos} (hN : X.N[i]? = some x) (hv : Vis X.env.scope x) (hd : autoParam ((x == ("__debug__" : Str)) = false) Ax1._auto_1) (hcd : autoParam ((x == ("__classdict__" : Str)) = false) Ax1._auto_1) : PE X (.Name x pos) (tVar i) := by
 intro pins s O H Q I h;obtain ⟨v, e, h⟩ := h;obtain ⟨m, hn, hl⟩ := I.loc;obtain ⟨u, r, l⟩ := hl i x v hN e hv;have fin : EP X pins O Q u s := ⟨v, H, I, r, h⟩;rcases l with ⟨hk, hm⟩ | ⟨hk, c, hc, hcell⟩
 ·exact wpAny_Name (wpAny_loadName_local I.ok.kind hk hn hm fin) hd
 ·rcases hk with hk | hk
  ·exact wpAny_Name (wpAny_loadName_cell I.ok.kind hk hc hcell fin) hd
  ·exact wpAny_Name (wpAny_loadName_free I.ok.kind hk hc hcell fin hcd) hd
theorem pe_int {i j pos} : PE X (.Constant (.int i) j pos) (tC (.int i)) := fun _ _ _ H _ I h => wpAny_Constant_int ⟨.int i, H, I.tok _, ⟨_, rfl⟩, h⟩
theorem pe_bl {b j pos} : PE X (.Constant (.bool b) j pos) (tC (.bl b)) := fun _ _ _ H _ I h => Constant_bool ⟨.bl b, H, I, rfl, h⟩
noncomputable def Gl (X : Cx) (x : Str) : Prop := X.env.kindOf x = some .globalImplicit
theorem ld_glob {E : Value -> Shared -> Prop} {pins : List (Addr × Obj)} {s : Shared} {O : St} {H : Hp} {x : Str} {u : Value} {pos : Pos} {Q : Value -> Shared -> Prop} (I : Inv X pins O H s) (hg : Gl X x) (hm : X.mg x = some u) (h : Q u s)
  (hd : autoParam ((x == ("__debug__" : Str)) = false) Ax1._auto_1) : wpAny (model X.prog X.w) X.A (eval (.Name x pos) X.env) Q E s :=
 Calls.Name_function_global I.ok.kind hg (Calls.loadGlobal_global (by rw [I.ok.glob]; exact I.mod.glob.keeps I.bk) hm h) hd
theorem ld_blt {E : Value -> Shared -> Prop} {pins : List (Addr × Obj)} {s : Shared} {O : St} {H : Hp} {x : Str} {u : Value} {pos : Pos} {Q : Value -> Shared -> Prop} (I : Inv X pins O H s) (hg : Gl X x) (hm : X.mg x = none) (hv : bootBuiltins x = some u) (h : Q u s)
  (hn : autoParam (x ≠ "__name__") Ax1._auto_1) (hd : autoParam ((x == ("__debug__" : Str)) = false) Ax1._auto_1) : wpAny (model X.prog X.w) X.A (eval (.Name x pos) X.env) Q E s := by
 obtain ⟨mb, h1, h2⟩ := I.mod.blt;exact Calls.Name_function_global I.ok.kind hg (Calls.loadGlobal_builtin (by rw [I.ok.glob]; exact I.mod.glob.keeps I.bk) hm (by rw [I.ok.blt]; exact h1.keeps I.bk) ((h2 x hn).trans hv) h) hd
theorem pe_glob {x : Str} {v : V} {u : Value} {pos : Pos} (hg : Gl X x) (hm : X.mg x = some u) (r : RelV v u) (hd : autoParam ((x == ("__debug__" : Str)) = false) Ax1._auto_1) : PE X (.Name x pos) (tC v) :=
 fun _ _ _ H _ I h => ld_glob I hg hm ⟨v, H, I, r, h⟩ hd
variable {a b : Expr} {ta tb : TE} {pos : Pos}
noncomputable def PC (X : Cx) (op : CmpOp) (a b : Expr) (t : TE) : Prop :=
 ∀ (pins : List (Addr × Obj)) (s : Shared) (O : St) (H : Hp) (Q : VK), Inv X pins O H s -> t O H Q ->
  wpAny (model X.prog X.w) X.A (eval a X.env) (fun v s₁ => wpAny (model X.prog X.w) X.A (eval b X.env) (fun u s₂ => wpAny (model X.prog X.w) X.A (compareOp op v u) (EP X pins O Q) X.xe s₂) X.xe s₁) X.xe s
theorem nobehind (b : Expr) {op : CmpOp} (h : op ≠ .In) (h2 : op ≠ .NotIn) : behindInMarks op b = false := by
 have e1 : (op == CmpOp.In) = false := by cases op <;> first | rfl | exact absurd rfl h
 have e2 : (op == CmpOp.NotIn) = false := by cases op <;> first | rfl | exact absurd rfl h2
 cases b <;> simp [behindInMarks, e1, e2]
noncomputable def tB (t : TE) : TT := fun O H Q => t O H fun x H1 => ∃ c, x = .bl c /\ Q c H1
theorem pt_cmp {op : CmpOp} {t : TE} (h : PC X op a b t) (h1 : autoParam (behindInMarks op b = false) Ax2._auto_1) : PT X (.Compare a [op] [b] pos) (tB t) := by
 intro pins s O H Q I hw;refine wpAny_isTrue_Compare1 (thn (h pins s O H _ I hw) fun v s1 h1 => thn h1 fun u s2 h2 => thn h2 fun c s3 ⟨x, H1, I1, r1, q1⟩ => ?_) h1;obtain ⟨d, rfl, q⟩ := q1;cases r1;exact wpAny_truthy_bool ⟨H1, I1, q⟩
theorem pt_val {e : Expr} {t : TE} (h : PE X e t) (he : autoParam (∀ whole, isTrue e X.env whole = (do let v <- whole; standAt e.pos; holding [v] (truthy v))) Ax3._auto_1) : PT X e (tB t) := by
 intro pins s O H Q I hw;refine isTrue_plain (thn (h pins s O H _ I hw) fun v s1 ⟨x, H1, I1, r1, q1⟩ => ?_) (he _);obtain ⟨d, rfl, q⟩ := q1;cases r1;exact wpAny_truthy_bool ⟨H1, I1, q⟩
variable {tA tB' : TT} {rest : List Expr}
noncomputable def tOr (t u : TT) : TT := fun O H Q => t O H fun c H1 => if c = true then Q true H1 else u O H1 Q
noncomputable def tNot (t : TT) : TT := fun O H Q => t O H fun c H1 => Q (!c) H1
theorem pw_or1 (ha : PT X a tA) : PW X (.BoolOp .Or [a] pos) tA := by
 intro wh pins s O H Q I h;refine isTrue_or (thn (ha pins s O H Q I h) fun c s1 e => ?_);cases c with
 | false => exact isTrue_or_nil e
 | true => exact e
theorem pw_or (ha : PT X a tA) (hb : PW X (.BoolOp .Or (b :: rest) pos) tB') : PW X (.BoolOp .Or (a :: b :: rest) pos) (tOr tA tB') := by
 intro wh pins s O H Q I h;refine isTrue_or (thn (ha pins s O H _ I h) fun c s1 ⟨H1, I1, q1⟩ => ?_);cases c with
 | true => exact ⟨H1, I1, q1⟩
 | false => exact hb wh pins s1 O H1 Q I1 q1
theorem pt_not (ha : PT X a tA) : PT X (.UnaryOp .Not a pos) (tNot tA) := by
 intro pins s O H Q I h;exact isTrue_not (ha pins s O H (fun c H1 => Q (!c) H1) I h)
end
noncomputable def SqL (K : PySem.W.Frag) (H : Hp) (a : Addr) (xs : List V) : Prop :=
 Rd H a (.lst xs) \/
  ∃ (o : Obj) (its : Array Value) (n : Nat), K.lookup a = some o /\ o.cls = .type "list" /\ o.dict = none /\ o.data = .seq its n /\ its.size <= sizeLine /\ Vals xs its.toList
noncomputable def SqT (K : PySem.W.Frag) (H : Hp) (a : Addr) (xs : List V) : Prop :=
 Rd H a (.tup xs) \/
  ∃ (o : Obj) (its : Array Value) (n : Nat), K.lookup a = some o /\ o.cls = .type "tuple" /\ o.data = .seq its n /\ its.size <= sizeLine /\ Vals xs its.toList
noncomputable def absV : Value -> Option V
 | .none => some .non
 | .bool b => some (.bl b)
 | .int i _ => some (.int i)
 | .str x _ => some (.str x)
 | .bytes b _ => some (.byt b)
 | .float b _ => some (.flt b)
 | .ref a => some (.ref a)
 | .type n => some (.ty n)
 | _ => none
theorem RelV.abs {x : V} {u : Value} (r : RelV x u) : absV u = some x := by
 cases x with
 | non => cases r; rfl
 | bl _ => cases r; rfl
 | int _ => obtain ⟨t, rfl⟩ := r; rfl
 | str _ => obtain ⟨t, rfl⟩ := r; rfl
 | byt _ => obtain ⟨t, rfl⟩ := r; rfl
 | flt _ => obtain ⟨t, rfl⟩ := r; rfl
 | ref _ => cases r; rfl
 | ty _ => cases r; rfl
theorem RelV.inj {x y : V} {u : Value} (r : RelV x u) (q : RelV y u) : x = y := Option.some.inj (r.abs.symm.trans q.abs)
theorem Vals.inj {xs ys : List V} {us : List Value} (h : Vals xs us) : Vals ys us -> xs = ys := by
 induction h generalizing ys with
 | nil => intro h'; cases h'; rfl
 | cons r t ih =>
  intro h';cases h' with
  | cons r' t' => rw [r.inj r', ih t']
section
variable {X : Cx} {pins : List (Addr × Obj)} {O : St} {H : Hp} {s : Shared} {a : Addr} {xs ys : List V}
theorem Inv.list (I : Inv X pins O H s) (h : SqL X.K H a xs) : ∃ its : List Value, Vals xs its /\ PlainL s.heap a its.toArray /\ xs.length <= sizeLine := by
 rcases h with h | ⟨o, its, n, hk, hc, hd, hs, hz, r⟩
 ·obtain ⟨z, its, n, r, e⟩ := h.ok I.hok
  exact ⟨its, r, ⟨_, n, e, rfl, rfl, rfl⟩, z⟩
 ·refine ⟨its.toList, r, ⟨o, n, I.kIn a o hk, hc, hd, by simpa using hs⟩, ?_⟩
  have e := r.length;simp only [Array.length_toList] at e;omega
theorem Inv.tuple (I : Inv X pins O H s) (h : SqT X.K H a xs) : ∃ its : List Value, Vals xs its /\ IsTup s.heap a its.toArray /\ xs.length <= sizeLine := by
 rcases h with h | ⟨o, its, n, hk, hc, hs, hz, r⟩
 ·obtain ⟨z, its, r, p⟩ := h.ok I.hok
  exact ⟨its, r, p, z⟩
 ·refine ⟨its.toList, r, ⟨o, I.kIn a o hk, hc, n, by simpa using hs⟩, ?_⟩
  have e := r.length;simp only [Array.length_toList] at e;omega
theorem Inv.list_inj (I : Inv X pins O H s) (h : SqL X.K H a xs) (h' : SqL X.K H a ys) : xs = ys := by
 obtain ⟨its, r, ⟨o, n, e, _, _, d⟩, _⟩ := I.list h;obtain ⟨its', r', ⟨o', n', e', _, _, d'⟩, _⟩ := I.list h';rw [e] at e'; cases e';rw [d] at d';injection d' with d1 _;have : its = its' := by simpa using congrArg Array.toList d1
 subst this;exact r.inj r'
theorem Inv.tuple_inj (I : Inv X pins O H s) (h : SqT X.K H a xs) (h' : SqT X.K H a ys) : xs = ys := by
 obtain ⟨its, r, ⟨o, e, _, n, d⟩, _⟩ := I.tuple h;obtain ⟨its', r', ⟨o', e', _, n', d'⟩, _⟩ := I.tuple h';rw [e] at e'; cases e';rw [d] at d';injection d' with d1 _;have : its = its' := by simpa using congrArg Array.toList d1
 subst this;exact r.inj r'
end
noncomputable abbrev Cx.wish (X : Cx) (E : Value -> Shared -> Prop) : Cx := { X with xe := E }
noncomputable abbrev Cx.nox (X : Cx) : Cx := X.wish fun _ _ => False
theorem Cx.Ok.wish {X : Cx} (ok : X.Ok) (E : Value -> Shared -> Prop) : (X.wish E).Ok :=
 ⟨ok.mod, ok.kind, ok.glob, ok.blt, ok.above, ok.inj, ok.has, ok.cab, ok.hd, ok.frames, ok.stk, ok.exf, ok.bs, ok.bsz, ok.noex, ok.exfs, ok.funs, ok.frf⟩
theorem Cx.Ok.unwish {X : Cx} {E : Value -> Shared -> Prop} (ok : (X.wish E).Ok) : X.Ok :=
 ⟨ok.mod, ok.kind, ok.glob, ok.blt, ok.above, ok.inj, ok.has, ok.cab, ok.hd, ok.frames, ok.stk, ok.exf, ok.bs, ok.bsz, ok.noex, ok.exfs, ok.funs, ok.frf⟩
section
variable {X : Cx} {pins : List (Addr × Obj)} {O : St} {H : Hp} {s : Shared} {E : Value -> Shared -> Prop}
theorem Inv.wish (I : Inv X pins O H s) (E : Value -> Shared -> Prop) : Inv (X.wish E) pins O H s := ⟨I.ok.wish E, I.os, I.bare, I.base, I.loc, I.cell, I.free, I.freeC, I.pin, I.hok, I.len⟩
theorem Inv.unwish (I : Inv (X.wish E) pins O H s) : Inv X pins O H s := ⟨I.ok.unwish, I.os, I.bare, I.base, I.loc, I.cell, I.free, I.freeC, I.pin, I.hok, I.len⟩
theorem SP.unwish {D : Ends} {f : Flow} {s' : Shared} (h : SP (X.wish E) pins D f s') : SP X pins D f s' := by
 cases f with
 | next => obtain ⟨O', H', I, q⟩ := h; exact ⟨O', H', I.unwish, q⟩
 | brk => obtain ⟨O', H', I, q⟩ := h; exact ⟨O', H', I.unwish, q⟩
 | cont => obtain ⟨O', H', I, q⟩ := h; exact ⟨O', H', I.unwish, q⟩
 | ret u => obtain ⟨v, O', H', I, r, q⟩ := h; exact ⟨v, O', H', I.unwish, r, q⟩
theorem PSs.nox {st : List Stmt} {t : TS} (h : PSs X.nox st t) : PSs X st t := fun pins s O H D I hw =>
 wpAny_mono (h pins s O H D (I.wish _) hw) (fun _ _ q => q.unwish) fun _ _ z => False.elim z
end
section
variable {X : Cx} {st : Stmt} {rest : List Stmt} {t u : TS} {e : Expr} {te : TE} {pos : Pos}
noncomputable def tNext : TS := fun D O H => D.nx O H
noncomputable def tSeq (t u : TS) : TS := fun D O H => t { D with nx := u D } O H
theorem pss_nil : PSs X [] tNext := fun _ _ O H _ I h => wpAny_execs_nil ⟨O, H, I, h⟩
theorem pss_cons (h1 : PS X st t) (h2 : PSs X rest u) : PSs X (st :: rest) (tSeq t u) := by
 intro pins s O H D I h;refine wpAny_execs_cons (thn (h1 pins s O H { D with nx := u D } I h) fun f s1 q => ?_);cases f with
 | next =>
  obtain ⟨O', H', I', q⟩ := q;exact h2 pins s1 O' H' D I' q
 | ret v => exact q
 | brk => exact q
 | cont => exact q
theorem pss_one (h1 : PS X st t) : PSs X [st] t := by
 intro pins s O H D I h;refine wpAny_execs_cons (thn (h1 pins s O H D I h) fun f s1 q => ?_);cases f with
 | next => exact wpAny_execs_nil q
 | ret v => exact q
 | brk => exact q
 | cont => exact q
theorem Inv.quiet {pins : List (Addr × Obj)} {O : St} {H : Hp} {s : Shared} (I : Inv X pins O H s) : interactive X.env = false := by simp [interactive, I.ok.kind]
noncomputable def tDrop (te : TE) : TS := fun D O H => te O H fun _ H1 => D.nx O H1
theorem ps_expr (he : PE X e te) (hs : autoParam (swapsWith e none pos.line X.env = pure false) Ax4._auto_1) : PS X (.Expr e pos) (tDrop te) := by
 intro pins s O H D I h;exact wpAny_Expr_any (thn (he pins s O H _ I h) fun v s1 ⟨x, H1, I1, r1, q1⟩ => ⟨O, H1, I1, q1⟩) I.quiet hs
noncomputable def tRet (te : TE) : TS := fun D O H => te O H D.rt
theorem ps_ret (he : PE X e te) : PS X (.Return (some e) pos) (tRet te) := by
 intro pins s O H D I h;exact wpAny_Return_some (thn (he pins s O H _ I h) fun v s1 ⟨x, H1, I1, r1, q1⟩ => ⟨x, O, H1, I1, r1, q1⟩)
noncomputable def tIfS (c : TT) (t u : TS) : TS := fun D O H => c O H fun b H1 => if b = true then t D O H1 else u D O H1
theorem ps_if {c : Expr} {a b : List Stmt} {tc : TT} (hc : PT X c tc) (ha : PSs X a t) (hb : PSs X b u) : PS X (.If c a b pos) (tIfS tc t u) := by
 intro pins s O H D I h;refine wpAny_If (thn (hc pins s O H _ I h) fun d s1 ⟨H1, I1, q1⟩ => ?_);cases d with
 | true => exact ha pins s1 O H1 D I1 q1
 | false => exact hb pins s1 O H1 D I1 q1
noncomputable def tNever : TS := fun _ _ _ => False
theorem pss_never {sts : List Stmt} : PSs X sts tNever := fun _ _ _ _ _ _ h => h.elim
end
noncomputable abbrev TG := V -> St -> Hp -> (St -> Hp -> Prop) -> Prop
noncomputable abbrev TGs := List V -> St -> Hp -> (St -> Hp -> Prop) -> Prop
noncomputable def PG (X : Cx) (target : Expr) (t : TG) : Prop :=
 ∀ (pins : List (Addr × Obj)) (s : Shared) (O : St) (H : Hp) (v : V) (u : Value) (Q : St -> Hp -> Prop), Inv X pins O H s -> RelV v u -> t v O H Q ->
  wpAny (model X.prog X.w) X.A (assign target X.env u) (fun _ s' => ∃ O' H', Inv X pins O' H' s' /\ Q O' H') X.xe s
noncomputable def PGs (X : Cx) (ts : List Expr) (t : TGs) : Prop :=
 ∀ (pins : List (Addr × Obj)) (s : Shared) (O : St) (H : Hp) (vs : List V) (us : List Value) (Q : St -> Hp -> Prop), Inv X pins O H s -> Vals vs us -> t vs O H Q ->
  wpAny (model X.prog X.w) X.A (assignInOrder ((assignEach ts X.env).map (·.2)) us) (fun _ s' => ∃ O' H', Inv X pins O' H' s' /\ Q O' H') X.xe s
noncomputable abbrev TSet := V -> V -> V -> Hp -> (Hp -> Prop) -> Prop
noncomputable def PSet (X : Cx) (t : TSet) : Prop :=
 ∀ (pins : List (Addr × Obj)) (s : Shared) (O : St) (H : Hp) (o i v : V) (ov iv u : Value) (Q : Hp -> Prop), Inv X pins O H s -> RelV o ov -> RelV i iv -> RelV v u -> t o i v H Q ->
  wpAny (model X.prog X.w) X.A (setItem ov iv u) (fun _ s' => ∃ H', Inv X pins O H' s' /\ Q H') X.xe s
noncomputable abbrev TIp := V -> V -> Hp -> VK -> Prop
noncomputable def PIp (X : Cx) (op : Operator) (t : TIp) : Prop :=
 ∀ (pins : List (Addr × Obj)) (s : Shared) (O : St) (H : Hp) (x y : V) (v u : Value) (Q : VK), Inv X pins O H s -> RelV x v -> RelV y u -> t x y H Q ->
  wpAny (model X.prog X.w) X.A (inplaceOp op v u) (EP X pins O Q) X.xe s
section
variable {X : Cx} {pos : Pos}
noncomputable def gName (i : Nat) : TG := fun v O H Q => Q (O.set i (some v)) H
theorem pg_name {i : Nat} {x : Str} (hN : X.N.Nodup) (hi : X.N[i]? = some x) (hx : Loc X.env.scope x) (hf : autoParam (X.fn x = true \/ X.env.scope.names.lookup x = some .local) Ax0._auto_1) : PG X (.Name x pos) (gName i) := by
 intro pins s O H v u Q I r h;exact wpAny_assign_Name (store_ok I hN hi hx r (fun s' I' => ⟨_, H, I', h⟩) hf)
noncomputable def gNil : TGs := fun vs O H Q => vs = [] /\ Q O H
noncomputable def gCons (t : TG) (u : TGs) : TGs := fun vs O H Q => ∃ v r, vs = v :: r /\ t v O H fun O' H' => u r O' H' Q
theorem pgs_nil : PGs X [] gNil := by
 intro pins s O H vs us Q I r h;obtain ⟨e, h⟩ := h;subst e;cases r;exact assignInOrder_nil ⟨O, H, I, h⟩
theorem pgs_cons {e : Expr} {es : List Expr} {t : TG} {u : TGs} (h1 : PG X e t) (h2 : PGs X es u)
  (hs : autoParam ((assignEach (e :: es) X.env).map (·.2) = assign e X.env :: (assignEach es X.env).map (·.2)) Ax4._auto_1) : PGs X (e :: es) (gCons t u) := by
 intro pins s O H vs us Q I r h;obtain ⟨v, vr, e1, h⟩ := h;subst e1;cases r with
 | cons r rr =>
  rw [hs];refine assignInOrder_cons (thn (h1 pins s O H _ _ _ I r h) fun _ s1 ⟨O1, H1, I1, q1⟩ => ?_);exact h2 pins s1 O1 H1 _ _ Q I1 rr q1
noncomputable def gTup (K : PySem.W.Frag) (n : Nat) (t : TGs) : TG := fun v O H Q => ∃ a xs, v = .ref a /\ SqT K H a xs /\ xs.length = n /\ t xs O H Q
theorem pg_tup {es : List Expr} {k : Nat} {t : TGs} {n : Nat} (hc : X.calm = true) (h : PGs X es t)
  (hn : autoParam ((assignEach es X.env).length = n) Ax4._auto_1) (hst : autoParam ((assignEach es X.env).findIdx? (·.1) = none) Ax4._auto_1) : PG X (.Tuple es k pos) (gTup X.K n t) := by
 intro pins s O H v u Q I r hw;obtain ⟨a, xs, e1, hq, hl, hw⟩ := hw;subst e1;cases r;obtain ⟨its, rv, ht, hz⟩ := I.tuple hq;refine assign_Tuple_tuple (I.ok.hd hc) ht (by simp [hn, <- hl, rv.length]) hst fun h' hx => ?_
 have I1 : Inv X pins O H { s with heap := h' } := I.kept (t' := s.toks) fun b o e => hx b o (Nat.ne_of_lt (Heap.lt_size e)) e
 exact h pins _ O H xs _ Q I1 (by simpa using rv) hw
noncomputable def gSub (to ti : TE) (t : TSet) : TG := fun v O H Q => to O H fun o H1 => ti O H1 fun i H2 => t o i v H2 fun H3 => Q O H3
theorem pg_sub {o i : Expr} {to ti : TE} {t : TSet} (ho : PE X o to) (hi : PE X i ti) (hs : PSet X t)
  (ha : autoParam (∀ v, assign (.Subscript o i pos) X.env v = (do
   let ov <- holding [v] (eval o X.env)
   let iv <- holding [v, ov] (eval i X.env)
   standAt pos
   holding [v, ov, iv] (setItem ov iv v)
   release [v, ov, iv] [])) Ax3._auto_1) : PG X (.Subscript o i pos) (gSub to ti t) := by
 intro pins s O H v u Q I r h;rw [ha];refine wpAny_bind (wpAny_holding (thn (ho pins s O H _ I h) fun ov s1 ⟨x, H1, I1, r1, q1⟩ => ?_));refine wpAny_bind (wpAny_holding (thn (hi pins s1 O H1 _ I1 q1) fun iv s2 ⟨y, H2, I2, r2, q2⟩ => ?_));refine wpAny_bind (wpAny_standAt (wpAny_bind (wpAny_holding (thn (hs pins s2 O H2 x y v ov iv u _ I2 r1 r2 r q2) fun _ s3 ⟨H3, I3, q3⟩ => ?_))));exact wpAny_release ⟨O, H3, I3, q3⟩
noncomputable def tAsg (te : TE) (g : TG) : TS := fun D O H => te O H fun x H1 => g x O H1 D.nx
theorem ps_asg {tg e : Expr} {te : TE} {g : TG} (he : PE X e te) (hg : PG X tg g) (hs : autoParam (swapsWithSole [tg] e pos.line X.env = pure false) Ax4._auto_1) (hw : autoParam (swappedStores [tg] e X.env = pure none) Ax4._auto_1)
  (h1 : autoParam ((assignEach [tg] X.env).map (·.2) = [assign tg X.env]) Ax4._auto_1) : PS X (.Assign [tg] e pos) (tAsg te g) := by
 intro pins s O H D I h;refine wpAny_Assign_stores (thn (he pins s O H _ I h) fun v s1 ⟨x, H1, I1, r1, q1⟩ => ?_) hs hw;rw [h1];exact thn (hg pins s1 O H1 x v _ I1 r1 q1) fun _ s2 q => q
theorem ps_set {i : Nat} {x : Str} {e : Expr} {te : TE} {pos' : Pos} (hN : X.N.Nodup) (hi : X.N[i]? = some x) (hx : Loc X.env.scope x) (he : PE X e te) (hs : autoParam (swapsWith e (some (.Name x pos')) pos.line X.env = pure false) Ax4._auto_1) (hf : autoParam (X.fn x = true \/ X.env.scope.names.lookup x = some .local) Ax0._auto_1) :
  PS X (.Assign [.Name x pos'] e pos) (tAsg te (gName i)) := by
 intro pins s O H D I h;refine wpAny_Assign_Name (thn (he pins s O H _ I h) fun v s1 ⟨y, H1, I1, r1, q1⟩ => ?_) hs;exact store_ok I1 hN hi hx r1 (fun s2 I2 => ⟨_, H1, I2, q1⟩) hf
noncomputable def tAugS (to ti te : TE) (tget : V -> V -> Hp -> VK -> Prop) (tip : TIp) (tset : TSet) : TS := fun D O H => to O H fun o H1 => ti O H1 fun i H2 => tget o i H2 fun x H3 => te O H3 fun y H4 => tip x y H4 fun z H5 => tset o i z H5 fun H6 => D.nx O H6
noncomputable def PGet (X : Cx) (t : V -> V -> Hp -> VK -> Prop) : Prop :=
 ∀ (pins : List (Addr × Obj)) (s : Shared) (O : St) (H : Hp) (o i : V) (ov iv : Value) (Q : VK), Inv X pins O H s -> RelV o ov -> RelV i iv -> t o i H Q ->
  wpAny (model X.prog X.w) X.A (getItem ov iv) (EP X pins O Q) X.xe s
theorem ps_augS {o i e : Expr} {to ti te : TE} {tget : V -> V -> Hp -> VK -> Prop} {tip : TIp} {tset : TSet} {op : Operator} {tpos : Pos} (ho : PE X o to) (hi : PE X i ti) (hg : PGet X tget) (he : PE X e te) (hp : PIp X op tip) (hs : PSet X tset)
  (ha : autoParam (∀ ov iv new, augStore i ov iv new = (do holding [new, ov, iv] (setItem ov iv new); release [new, ov, iv] []; pure .next)) Ax5._auto_1) : PS X (.AugAssign (.Subscript o i tpos) op e pos) (tAugS to ti te tget tip tset) := by
 intro pins s O H D I h;refine wpAny_AugAssign_SubscriptAny (thn (ho pins s O H _ I h) fun ov s1 ⟨x1, H1, I1, r1, q1⟩ => ?_) ha;refine thn (hi pins s1 O H1 _ I1 q1) fun iv s2 ⟨x2, H2, I2, r2, q2⟩ => ?_
 refine thn (hg pins s2 O H2 x1 x2 ov iv _ I2 r1 r2 q2) fun old s3 ⟨x3, H3, I3, r3, q3⟩ => ?_
 refine thn (he pins s3 O H3 _ I3 q3) fun v s4 ⟨x4, H4, I4, r4, q4⟩ => ?_
 refine thn (hp pins s4 O H4 x3 x4 old v _ I4 r3 r4 q4) fun new s5 ⟨x5, H5, I5, r5, q5⟩ => ?_
 exact thn (hs pins s5 O H5 x1 x2 x5 ov iv new _ I5 r1 r2 r5 q5) fun _ s6 ⟨H6, I6, q6⟩ => ⟨O, H6, I6, q6⟩
end
section
variable {X : Cx} {pos : Pos}
noncomputable def tWhile (c : TT) (tb : TS) : TS := fun D O H => ∃ W : Nat -> St -> Hp -> Prop, (∃ m, W m O H) /\ ∀ m O H, W m O H ->
 c O H fun b H1 => if b = true then ∃ N : St -> Hp -> Prop, (∀ O' H', N O' H' -> ∃ m', m' < m /\ W m' O' H') /\ tb { D with nx := N, ct := N, bk := D.nx } O H1 else D.nx O H1
theorem ps_while {c : Expr} {body : List Stmt} {tc : TT} {tb : TS} (hp : PassesOwn (model X.prog X.w) X.A X.env X.xe) (hc : PT X c tc) (hb : PSs X body tb) : PS X (.While c body [] pos) (tWhile tc tb) := by
 intro pins s O H D I h;obtain ⟨W, ⟨m0, w0⟩, turn⟩ := h;refine wpAny_While (codeAny_whileLoop (fun n s' => ∃ O' H', Inv X pins O' H' s' /\ W n O' H') ?_ m0 ⟨O, H, I, w0⟩);rintro n s1 ⟨O1, H1, I1, w1⟩;refine wpAny_passesOwn hp (thn (hc pins s1 O1 H1 _ I1 (turn n O1 H1 w1)) fun b s2 ⟨H2, I2, q2⟩ => ?_);cases b with
 | true =>
  obtain ⟨N, hN, q2⟩ := q2;rw [if_pos rfl];refine wpAny_passesOwn hp (thn (hb pins s2 O1 H2 _ I2 q2) fun f s3 q3 => ?_);cases f with
  | next =>
   obtain ⟨O3, H3, I3, n3⟩ := q3;obtain ⟨m', hm, w3⟩ := hN O3 H3 n3;exact ⟨m', hm, O3, H3, I3, w3⟩
  | cont =>
   obtain ⟨O3, H3, I3, n3⟩ := q3;obtain ⟨m', hm, w3⟩ := hN O3 H3 n3;exact ⟨m', hm, O3, H3, I3, w3⟩
  | brk => exact q3
  | ret v => exact q3
 | false =>
  rw [if_neg Bool.false_ne_true];exact wpAny_execs_nil ⟨O1, H2, I2, q2⟩
end
structure It where
 go : Nat -> Hp -> Prop
 yld : Nat -> Hp -> V -> Hp -> Prop
 stop : Nat -> Hp -> Prop
noncomputable def FpOk (X : Cx) (pins : List (Addr × Obj)) (H : Hp) (b : Addr) : Prop :=
 H b = none /\ b ≠ X.env.locals /\ b ∉ X.fs /\ (b ∈ X.ex \/ X.s₀.heap.objs.size <= b) /\ (∀ x c, X.env.cells.lookup x = some c -> c ≠ b) /\ ∀ p ∈ X.pn ++ pins, p.1 ≠ b
theorem Inv.fpOk {X : Cx} {pins : List (Addr × Obj)} {O : St} {H H' : Hp} {s : Shared} {b : Addr} (I : Inv X pins O H s) (hb : s.heap.objs.size <= b) (hn : H' b = none) : FpOk X pins H' b := by
 refine ⟨hn, Nat.ne_of_gt (Nat.lt_of_lt_of_le I.lt hb), I.nofs hb, .inr (Nat.le_trans I.sz hb), fun x c e z => ?_, fun p hp z => ?_⟩
 ·obtain ⟨v, q⟩ := I.cell x c e
  exact absurd (Nat.lt_of_lt_of_le q.lt (by rw [z]; exact hb)) (Nat.lt_irrefl _)
 ·exact absurd (Nat.lt_of_lt_of_le (Heap.lt_size (I.pin p hp).1) (by rw [z]; exact hb)) (Nat.lt_irrefl _)
structure Turn (P : Program) (w : World) (K : PySem.W.Frag) (tg : Expr) (J : It) (fp : List Addr) (it : Addr) (tn : Nat -> Heap -> Prop) : Prop where
 mem : it ∈ fp
 obj : ∀ i h, tn i h -> ∀ b ∈ fp, ∃ o, h.get? b = some o /\ ∀ v, o.data ≠ .cell v
 keep : ∀ i h h', tn i h -> (∀ b ∈ fp, ∀ o, h.get? b = some o -> h'.get? b = some o) -> tn i h'
 item : ∀ (X : Cx), X.prog = P -> X.w = w -> X.K = K -> X.calm = true -> ∀ (i : Nat) (pins : List (Addr × Obj)) (s : Shared) (O : St) (H : Hp) (E : Value -> Shared -> Prop), Inv X pins O H s -> (∀ b ∈ fp, FpOk X pins H b) -> tn i s.heap -> J.go i H ->
  wpAny (model P w) X.A (pyNext (.ref it)) (fun r s1 => ∃ u, r = some u /\
   wpAny (model P w) X.A (letOwnedTupleGo tg (.ref it) u) (fun _ s2 => ∃ x H', Inv X pins O H' s2 /\ RelV x u /\ J.yld i H x H' /\ tn (i + 1) s2.heap /\ ∀ b ∈ fp, H' b = none) E s1) E s
 done : ∀ (X : Cx), X.prog = P -> X.w = w -> X.K = K -> X.calm = true -> ∀ (i : Nat) (pins : List (Addr × Obj)) (s : Shared) (O : St) (H : Hp) (E : Value -> Shared -> Prop), Inv X pins O H s -> (∀ b ∈ fp, FpOk X pins H b) -> tn i s.heap -> J.stop i H ->
  wpAny (model P w) X.A (pyNext (.ref it)) (fun r s1 => r = none /\ Inv X pins O H s1) E s
 self : ∀ (A : Around) (i : Nat) (s : Shared) (Q : Value -> Shared -> Prop) (E : Value -> Shared -> Prop), tn i s.heap -> Q (.ref it) s -> wpAny (model P w) A (pyIter (.ref it)) Q E s
noncomputable abbrev TI := St -> Hp -> (It -> Hp -> Prop) -> Prop
noncomputable def PIE (X : Cx) (pins : List (Addr × Obj)) (O : St) (tg : Expr) (R : It -> Hp -> Prop) (itv : Value) (s2 : Shared) : Prop :=
 ∃ (it : Addr) (fp : List Addr) (tn : Nat -> Heap -> Prop) (J : It) (H' : Hp), itv = .ref it /\ Inv X pins O H' s2 /\ Turn X.prog X.w X.K tg J fp it tn /\ tn 0 s2.heap /\ (∀ b ∈ fp, FpOk X pins H' b) /\ R J H'
noncomputable def PI (X : Cx) (tg iter : Expr) (wi : TI) : Prop :=
 ∀ (pins : List (Addr × Obj)) (s : Shared) (O : St) (H : Hp) (R : It -> Hp -> Prop), Inv X pins O H s -> wi O H R ->
  wpAny (model X.prog X.w) X.A (eval iter X.env) (fun v s1 => wpAny (model X.prog X.w) X.A (pyIter v) (PIE X pins O tg R) X.xe s1) X.xe s
theorem go_of {M : Model} {A : Around} {E : Value -> Shared -> Prop} {s : Shared} {tg : Expr} {it : Addr} {u : Value} {o : Obj} {n : String} {vs : Array Value} {Q : Unit -> Shared -> Prop} (ho : s.heap.get? it = some o) (hc : o.cls = .type n) (hd : o.data = .fields vs)
  (hn : ["enumerate", "zip", "dict_itemiterator", "dict_reverseitemiterator", "odict_iterator", "itertools.zip_longest", "itertools.pairwise"].contains n = false) (hQ : Q () s) : wpAny M A (letOwnedTupleGo tg (.ref it) u) Q E s := by
 unfold letOwnedTupleGo;cases tg <;> first
  | exact wpAny_pure hQ
  | (cases u <;> first
    | exact wpAny_pure hQ
    | (refine wpAny_bind (wpAny_load ho ?_)
       rw [hc, hd];show wpAny M A (if (["enumerate", "zip", "dict_itemiterator", "dict_reverseitemiterator", "odict_iterator", "itertools.zip_longest", "itertools.pairwise"].contains n && vs[0]? == some (rawInt _)) = true then _ else _) Q E s;rw [if_neg (by intro h; rw [hn, Bool.false_and] at h; cases h)];exact wpAny_pure hQ))
noncomputable def Itl (K : PySem.W.Frag) (a : Addr) : It :=
 ⟨fun i H => ∃ xs x, SqL K H a xs /\ xs[i]? = some x, fun i H x H' => H' = H /\ ∀ xs, SqL K H a xs -> xs[i]? = some x, fun i H => ∃ xs, SqL K H a xs /\ xs.length <= i⟩
noncomputable def Itr (lo : Int) (n : Nat) : It := ⟨fun i _ => i < n, fun i H x H' => H' = H /\ x = .int (lo + i), fun i _ => n <= i⟩
theorem turn_list {P : Program} {w : World} {K : PySem.W.Frag} {tg : Expr} (a it : Addr) : Turn P w K tg (Itl K a) [it] it (fun i h => h.IsListIter it a i) where
 mem := by simp
 obj := fun i h st b hb => by
  have e : b = it := by simpa using hb
  subst e;obtain ⟨o, e, c, d⟩ := st;exact ⟨o, e, fun v z => by rw [d] at z; cases z⟩
 keep := fun i h h' st k => st.at fun o e => k it (by simp) o e
 item := by
  intro X hP hw hK hc i pins s O H E I hf st hg;subst hP hw hK;obtain ⟨xs, x, hq, hx⟩ := hg;obtain ⟨its, rv, p, hz⟩ := I.list hq;obtain ⟨u, hu, ru⟩ := rv.get hx;obtain ⟨f0, f1, f2, f3, f4, f5⟩ := hf it (by simp);refine wpAny_pyNext_list_item st p.isList (x := u) (by simpa using hu) fun h' st' sb => ?_
  have I1 : Inv X pins O H { s with heap := h' } := I.turned (t' := s.toks) (fun b o hb e => (sb.2 b hb).trans e) f0 f1 f3 f4 f5;obtain ⟨o, e, c, d⟩ := id st';exact ⟨u, rfl, go_of (s := { s with heap := h' }) e c d dC ⟨x, H, I1, ru, ⟨rfl, fun ys hy => by rw [I.list_inj hy hq]; exact hx⟩, st', fun b hb => (hf b hb).1⟩⟩
 done := by
  intro X hP hw hK hc i pins s O H E I hf st hg;subst hP hw hK;obtain ⟨xs, hq, hx⟩ := hg;obtain ⟨its, rv, p, hz⟩ := I.list hq;obtain ⟨f0, f1, f2, f3, f4, f5⟩ := hf it (by simp);have hl := rv.length;exact wpAny_pyNext_list_end (I.ok.hd hc) st p.isList (by simp; omega) fun h' eb => ⟨rfl, I.turned (t' := s.toks) (fun b o hb e => eb b o hb e) f0 f1 f3 f4 f5⟩
 self := fun _ _ _ _ _ st h => wpAny_pyIter_listiter st h
theorem turn_range {P : Program} {w : World} {K : PySem.W.Frag} {tg : Expr} (it : Addr) (lo : Int) (n : Nat) : Turn P w K tg (Itr lo n) [it] it (fun i h => IsRangeIter h it (lo + (i : Nat) * 1) ((n : Int) - (i : Nat)) 1) where
 mem := by simp
 obj := fun i h st b hb => by
  have e : b = it := by simpa using hb
  subst e;exact ⟨_, st, fun v z => by
   have z' : Data.fields _ = Data.cell v := z;cases z'⟩
 keep := fun i h h' st k => k it (by simp) _ st
 item := by
  intro X hP hw hK hc i pins s O H E I hf st hg;subst hP hw hK;obtain ⟨f0, f1, f2, f3, f4, f5⟩ := hf it (by simp);have W := Walks.range (prog := X.prog) (w := X.w) (I.ok.hd hc) it lo 1 n;refine W.item i s _ _ hg st fun v h' tk hv st' kk => ?_
  obtain ⟨t, rfl⟩ := hv;have I1 : Inv X pins O H { s with heap := h', toks := tk } := I.turned (fun b o hb e => kk b o (by simpa using hb) e) f0 f1 f3 f4 f5;refine ⟨_, rfl, go_of (s := { s with heap := h', toks := tk }) (n := "range_iterator") st' rfl rfl dC ⟨.int (lo + i), H, I1, ⟨t, ?_⟩, ⟨rfl, rfl⟩, st', fun b hb => (hf b hb).1⟩⟩;rw [Int.mul_one]
 done := by
  intro X hP hw hK hc i pins s O H E I hf st hg;subst hP hw hK;obtain ⟨f0, f1, f2, f3, f4, f5⟩ := hf it (by simp);exact wpAny_pyNext_range_end (I.ok.hd hc) st (by have : n <= i := hg; omega) fun h' eb => ⟨rfl, I.turned (t' := s.toks) (fun b o hb e => eb b o hb e) f0 f1 f3 f4 f5⟩
 self := fun _ _ _ _ _ st h => wpAny_pyIter_rangeiter st h
section
variable {X : Cx} {tg : Expr}
noncomputable def iList (K : PySem.W.Frag) (tl : TE) : TI := fun O H R => tl O H fun x H1 => ∃ a, x = .ref a /\ (∃ xs, SqL K H1 a xs) /\ R (Itl K a) H1
theorem pi_list {l : Expr} {tl : TE} (hl : PE X l tl) : PI X tg l (iList X.K tl) := by
 intro pins s O H R I h;refine thn (hl pins s O H _ I h) fun v s1 ⟨x, H1, I1, r1, q1⟩ => ?_
 obtain ⟨a, e, ⟨xs, hq⟩, q⟩ := q1;subst e;cases r1;obtain ⟨its, rv, p, hz⟩ := I1.list hq;refine wpAny_pyIter_list p.isList ?_;refine ⟨s1.heap.objs.size, [s1.heap.objs.size], _, _, H1, rfl, I1.kept (t' := s1.toks) fun b o e => Heap.get?_push_of_some _ e, turn_list a _, ⟨_, Heap.get?_push_size _ rfl, rfl, rfl⟩, fun b hb => ?_, q⟩;have e : b = s1.heap.objs.size := by simpa using hb
 subst e;exact I1.fpOk (Nat.le_refl _) (I1.hok.fresh (Nat.le_refl _))
theorem range_it {pins : List (Addr × Obj)} {O : St} {H : Hp} {s : Shared} {R : It -> Hp -> Prop} {E : Value -> Shared -> Prop} {lo hi : Int} {t u v : Tok} {tk : Nat} (I : Inv X pins O H s) (h1 : -(2 ^ 62) <= lo) (h2 : lo < 2 ^ 62) (h3 : -(2 ^ 62) <= hi) (h4 : hi < 2 ^ 62)
  (q : R (Itr lo (hi - lo).toNat) H) : wpAny (model X.prog X.w) X.A (pyIter (.ref s.heap.objs.size)) (PIE X pins O tg R) E { s with heap := s.heap.push { cls := .type "range", data := .fields #[.int lo t, .int hi u, .int 1 v] }, toks := tk } := by
 refine wpAny_pyIter_range (IsRange.new ..) (small_one h1 h2 h3 h4) ?_;have I1 : Inv X pins O H { s with heap := s.heap.push { cls := .type "range", data := .fields #[.int lo t, .int hi u, .int 1 v] }, toks := tk } := I.kept fun b o e => Heap.get?_push_of_some _ e
 refine ⟨(s.heap.push { cls := .type "range", data := .fields #[.int lo t, .int hi u, .int 1 v] }).objs.size, [(s.heap.push { cls := .type "range", data := .fields #[.int lo t, .int hi u, .int 1 v] }).objs.size], _, _, H, rfl,
  I1.kept (t' := tk) fun b o e => Heap.get?_push_of_some _ e, turn_range _ lo (hi - lo).toNat, ?_, fun b hb => ?_, q⟩
 ·have e1 : lo + ((0 : Nat) : Int) * 1 = lo := by simp
  have e2 : (((hi - lo).toNat : Nat) : Int) - ((0 : Nat) : Int) = Builtin.Range.rangeSize lo hi 1 := by rw [rangeSize_one]; split <;> omega
  show IsRangeIter _ _ (lo + ((0 : Nat) : Int) * 1) ((((hi - lo).toNat : Nat) : Int) - ((0 : Nat) : Int)) 1;rw [e1, e2];exact Heap.get?_push_size _ rfl
 ·have e : b = (s.heap.push { cls := .type "range", data := .fields #[.int lo t, .int hi u, .int 1 v] }).objs.size := by simpa using hb
  subst e;exact I1.fpOk (Nat.le_refl _) (I1.hok.fresh (Nat.le_refl _))
noncomputable def iRng1 (ta : TA) : TI := fun O H R => ta O H fun vs H1 => ∃ j : Int, vs = [.int j] /\ -(2 ^ 62) <= j /\ j < 2 ^ 62 /\ R (Itr 0 j.toNat) H1
noncomputable def iRng2 (ta : TA) : TI := fun O H R => ta O H fun vs H1 => ∃ i j : Int, vs = [.int i, .int j] /\ (-(2 ^ 62) <= i /\ i < 2 ^ 62 /\ -(2 ^ 62) <= j /\ j < 2 ^ 62) /\ R (Itr i (j - i).toNat) H1
theorem pi_range1 {a : Expr} {ta : TA} {p pos : Pos} (hg : Gl X "range") (hm : X.mg "range" = none) (ha : PA X [a] ta) (hs : autoParam (starEach [a] X.env = [(false, eval a X.env)]) Ax4._auto_1) : PI X tg (.Call (.Name "range" p) [a] [] pos) (iRng1 ta) := by
 intro pins s O H R I h;refine Call_ (ld_blt I hg hm boot_range (PyProof.Rows.callWith_type1 (thn (ha pos pins s O H _ I h) fun us s1 ⟨vs, H1, I1, r1, q1⟩ => ?_) hs rfl));obtain ⟨j, e, q1, q2, q⟩ := q1;subst e;cases r1 with
 | cons r rr =>
  cases rr;obtain ⟨t, rfl⟩ := r;exact call_range_1 (range_it I1 oM oM q1 q2 (by simpa using q))
theorem pi_range2 {a b : Expr} {ta : TA} {p pos : Pos} (hg : Gl X "range") (hm : X.mg "range" = none) (ha : PA X [a, b] ta) (hs : autoParam (starEach [a, b] X.env = [(false, eval a X.env), (false, eval b X.env)]) Ax4._auto_1) (hs2 : autoParam (starEach [b] X.env = [(false, eval b X.env)]) Ax4._auto_1) :
  PI X tg (.Call (.Name "range" p) [a, b] [] pos) (iRng2 ta) := by
 intro pins s O H R I h;refine Call_ (ld_blt I hg hm boot_range (PyProof.Rows.callWith_type1 (thn (ha pos pins s O H _ I h) fun us s1 ⟨vs, H1, I1, r1, q1⟩ => ?_) (by rw [hs, hs2]) (by rw [hs2]; rfl)));obtain ⟨i, j, e, ⟨q1, q2, q3, q4⟩, q⟩ := q1;subst e;cases r1 with
 | cons r rr =>
  cases rr with
  | cons r' rr =>
   cases rr;obtain ⟨t, rfl⟩ := r;obtain ⟨t', rfl⟩ := r';exact call_range_2 (range_it I1 q1 q2 q3 q4 q)
noncomputable def tFor (wi : TI) (g : TG) (tb : TS) : TS := fun D O H => wi O H fun J H1 => ∃ W : Nat -> Nat -> St -> Hp -> Prop, (∃ m, W 0 m O H1) /\ ∀ i m O H, W i m O H ->
 (J.stop i H /\ D.nx O H) \/ (J.go i H /\ ∃ N : St -> Hp -> Prop, (∀ O' H', N O' H' -> ∃ m', m' < m /\ W (i + 1) m' O' H') /\ ∀ x H', J.yld i H x H' -> g x O H' fun O2 H2 => tb { D with nx := N, ct := N, bk := D.nx } O2 H2)
noncomputable def pinsAt (fp : List Addr) (h : Heap) : List (Addr × Obj) := fp.filterMap fun b => (h.get? b).map fun o => (b, o)
theorem mem_pinsAt {fp : List Addr} {h : Heap} {b : Addr} {o : Obj} (hb : b ∈ fp) (e : h.get? b = some o) : (b, o) ∈ pinsAt fp h := List.mem_filterMap.mpr ⟨b, hb, by rw [e]; rfl⟩
theorem of_pinsAt {fp : List Addr} {h : Heap} {p : Addr × Obj} (hp : p ∈ pinsAt fp h) : p.1 ∈ fp /\ h.get? p.1 = some p.2 := by
 obtain ⟨b, hb, e⟩ := List.mem_filterMap.mp hp;cases q : h.get? b with
 | none => rw [q] at e; cases e
 | some o =>
  rw [q] at e;have e' : (b, o) = p := Option.some.inj e;subst e';exact ⟨hb, q⟩
theorem Inv.pinned {pins : List (Addr × Obj)} {O : St} {H : Hp} {s : Shared} {fp : List Addr} (I : Inv X pins O H s) (hf : ∀ b ∈ fp, FpOk X pins H b) (ho : ∀ b ∈ fp, ∃ o, s.heap.get? b = some o /\ ∀ v, o.data ≠ .cell v) : Inv X (pins ++ pinsAt fp s.heap) O H s :=
 I.pins_of fun p hp => (List.mem_append.mp hp).elim (fun z => I.pin p (List.mem_append_right _ z)) fun z => by
  obtain ⟨hb, e⟩ := of_pinsAt z;obtain ⟨f0, f1, f2, _⟩ := hf p.1 hb;obtain ⟨o, e', d⟩ := ho p.1 hb;rw [e] at e'; cases e';exact ⟨e, f0, f1, f2, d⟩
theorem Inv.unpinned {pins pl : List (Addr × Obj)} {O : St} {H : Hp} {s : Shared} (I : Inv X (pins ++ pl) O H s) : Inv X pins O H s := I.pins_of fun p hp => I.pin p (List.mem_append_right _ (List.mem_append_left _ hp))
theorem ps_for {iter : Expr} {body : List Stmt} {wi : TI} {g : TG} {tb : TS} {pos : Pos} (hp : PassesOwn (model X.prog X.w) X.A X.env X.xe) (hc : X.calm = true) (hi : PI X tg iter wi) (hg : PG X tg g) (hb : PSs X body tb)
  (hs : autoParam (∀ x, foldedSetIterable iter X.env x = pure x) Ax3._auto_1) : PS X (.For tg iter body [] pos) (tFor wi g tb) := by
 intro pins s O H D I h;refine wpAny_For (thn (hi pins s O H _ I h) fun v s1 h1 => thn h1 fun itv s2 h2 => ?_) hs;obtain ⟨it, fp, tn, J, H2, e, I2, T, st2, f2, W, ⟨m0, w0⟩, turn⟩ := h2;subst e
 -- what stays true of the iterator's objects through the loop
 have stat : ∀ {H' : Hp}, (∀ b ∈ fp, H' b = none) -> ∀ b ∈ fp, FpOk X pins H' b := fun hn b hb => ⟨hn b hb, (f2 b hb).2⟩
 refine codeAny_forLoop_any (fun n s' => ∃ i O' H', Inv X pins O' H' s' /\ tn i s'.heap /\ (∀ b ∈ fp, H' b = none) /\ W i n O' H') ?_ m0 ⟨0, O, H2, I2, st2, fun b hb => (f2 b hb).1, w0⟩;rintro n s3 ⟨i, O3, H3, I3, st3, fr3, w3⟩;rcases turn i n O3 H3 w3 with ⟨stop, qn⟩ | ⟨go, N, hN, step⟩
 ·refine wpAny_passesOwn hp (thn (T.done X rfl rfl rfl hc i pins s3 O3 H3 X.xe I3 (stat fr3) st3 stop) fun r s4 ⟨hr, I4⟩ => ?_)
  subst hr;exact wpAny_execs_nil ⟨O3, H3, I4, qn⟩
 ·refine wpAny_passesOwn hp (thn (T.item X rfl rfl rfl hc i pins s3 O3 H3 X.xe I3 (stat fr3) st3 go) fun r s4 ⟨u, hr, h4⟩ => ?_)
  subst hr;refine wpAny_passesOwn hp (thn h4 fun _ s5 ⟨x, H5, I5, r5, y5, st5, fr5⟩ => ?_);have I5' := I5.pinned (stat fr5) (T.obj _ _ st5);refine wpAny_passesOwn hp (thn (hg _ s5 O3 H5 x u _ I5' r5 (step x H5 y5)) fun _ s6 ⟨O6, H6, I6, q6⟩ => ?_);refine wpAny_passesOwn hp (thn (hb _ s6 O6 H6 _ I6 q6) fun f s7 q7 => ?_);have again : ∀ {O7 : St} {H7 : Hp}, Inv X (pins ++ pinsAt fp s5.heap) O7 H7 s7 -> N O7 H7 -> ∃ m, m < n /\ ∃ i O' H', Inv X pins O' H' s7 /\ tn i s7.heap /\ (∀ b ∈ fp, H' b = none) /\ W i m O' H' := fun {O7 H7} I7 n7 => by
   obtain ⟨m', hm, w7⟩ := hN O7 H7 n7;refine ⟨m', hm, i + 1, O7, H7, I7.unpinned, T.keep _ _ _ st5 fun b hb o e => (I7.pin (b, o) (List.mem_append_right _ (List.mem_append_right _ (mem_pinsAt hb e)))).1, fun b hb => ?_, w7⟩;obtain ⟨o, e, d⟩ := T.obj _ _ st5 b hb;exact (I7.pin (b, o) (List.mem_append_right _ (List.mem_append_right _ (mem_pinsAt hb e)))).2.1
  cases f with
  | next => obtain ⟨O7, H7, I7, n7⟩ := q7; exact again I7 n7
  | cont => obtain ⟨O7, H7, I7, n7⟩ := q7; exact again I7 n7
  | brk => obtain ⟨O7, H7, I7, q7⟩ := q7; exact ⟨O7, H7, I7.unpinned, q7⟩
  | ret v => obtain ⟨x7, O7, H7, I7, r7, q7⟩ := q7; exact ⟨x7, O7, H7, I7.unpinned, r7, q7⟩
end
noncomputable abbrev R2 := V -> V -> Hp -> VK -> Prop
noncomputable def OpR (X : Cx) (f : Value -> Value -> Sem Value) (r : R2) : Prop :=
 ∀ (pins : List (Addr × Obj)) (s : Shared) (O : St) (H : Hp) (x y : V) (v u : Value) (Q : VK), Inv X pins O H s -> RelV x v -> RelV y u -> r x y H Q ->
  wpAny (model X.prog X.w) X.A (f v u) (EP X pins O Q) X.xe s
noncomputable def UnR (X : Cx) (f : Value -> Sem Value) (r : V -> Hp -> VK -> Prop) : Prop :=
 ∀ (pins : List (Addr × Obj)) (s : Shared) (O : St) (H : Hp) (x : V) (v : Value) (Q : VK), Inv X pins O H s -> RelV x v -> r x H Q ->
  wpAny (model X.prog X.w) X.A (f v) (EP X pins O Q) X.xe s
noncomputable def CallR (X : Cx) (f : Value) (r : List V -> Hp -> VK -> Prop) : Prop :=
 ∀ (pins : List (Addr × Obj)) (s : Shared) (O : St) (H : Hp) (xs : List V) (us : List Value) (Q : VK), Inv X pins O H s -> Vals xs us -> r xs H Q ->
  wpAny (model X.prog X.w) X.A (call f us) (EP X pins O Q) X.xe s
noncomputable def tOp (r : R2) (ta tb : TE) : TE := fun O H Q => ta O H fun x H1 => tb O H1 fun y H2 => r x y H2 Q
noncomputable def tUn (r : V -> Hp -> VK -> Prop) (ta : TE) : TE := fun O H Q => ta O H fun x H1 => r x H1 Q
noncomputable def rI (C : Int -> Int -> Prop) (g : Int -> Int -> V) : R2 := fun x y H Q => ∃ i j, x = .int i /\ y = .int j /\ C i j /\ Q (g i j) H
noncomputable def rI0 (g : Int -> Int -> V) : R2 := fun x y H Q => ∃ i j, x = .int i /\ y = .int j /\ Q (g i j) H
noncomputable def rU (g : Int -> V) : V -> Hp -> VK -> Prop := fun x H Q => ∃ i, x = .int i /\ Q (g i) H
section
variable {X : Cx} {a b c : Expr} {ta tb tc : TE} {pos : Pos}
theorem binT (ha : PE X a ta) (hb : PE X b tb) {pins : List (Addr × Obj)} {s : Shared} {O : St} {H : Hp} {R : V -> V -> Hp -> Prop} (I : Inv X pins O H s)
  (h : ta O H fun x H1 => tb O H1 fun y H2 => R x y H2) {Q : Value -> Shared -> Prop} {f : Value -> Value -> Sem Value}
  (hf : ∀ v u s2 x y H2, Inv X pins O H2 s2 -> RelV x v -> RelV y u -> R x y H2 -> wpAny (model X.prog X.w) X.A (f v u) Q X.xe s2) :
  wpAny (model X.prog X.w) X.A (eval a X.env) (fun v s₁ => wpAny (model X.prog X.w) X.A (eval b X.env) (fun u s₂ => wpAny (model X.prog X.w) X.A (f v u) Q X.xe s₂) X.xe s₁) X.xe s := by
 refine thn (ha pins s O H _ I h) fun v s1 ⟨x, H1, I1, r1, q1⟩ => ?_
 refine thn (hb pins s1 O H1 _ I1 q1) fun u s2 ⟨y, H2, I2, r2, q2⟩ => ?_
 exact hf v u s2 x y H2 I2 r1 r2 q2
theorem pe_op {op : Operator} {r : R2} (ho : OpR X (binaryOp op) r) (ha : PE X a ta) (hb : PE X b tb) : PE X (.BinOp a op b pos) (tOp r ta tb) := by
 intro pins s O H Q I h;exact wpAny_BinOp (binT ha hb I h fun v u s2 x y H2 I2 rx ry q => ho pins s2 O H2 x y v u Q I2 rx ry q)
theorem pe_un {op : UnaryOp} {r : V -> Hp -> VK -> Prop} (ho : UnR X (unaryOp op) r) (ha : PE X a ta) : PE X (.UnaryOp op a pos) (tUn r ta) := by
 intro pins s O H Q I h;exact UnaryOp_ (thn (ha pins s O H _ I h) fun v s1 ⟨x, H1, I1, r1, q1⟩ => ho pins s1 O H1 x v Q I1 r1 q1)
theorem opI {f : Value -> Value -> Sem Value} {C : Int -> Int -> Prop} {g : Int -> Int -> Int}
  (rule : ∀ (i j : Int) (t u : Tok) (s : Shared) (Q : Value -> Shared -> Prop) (E : Value -> Shared -> Prop), C i j -> Q (.int (g i j) s.toks) { s with toks := s.toks + 1 } -> wpAny (model X.prog X.w) X.A (f (.int i t) (.int j u)) Q E s) :
  OpR X f (rI C fun i j => .int (g i j)) := by
 intro pins s O H x y v u Q I rx ry h;obtain ⟨i, j, rfl, rfl, hc, q⟩ := h;obtain ⟨t, rfl⟩ := rx;obtain ⟨t', rfl⟩ := ry;exact rule i j t t' s _ _ hc ⟨.int (g i j), H, I.tok _, ⟨_, rfl⟩, q⟩
theorem opI0 {f : Value -> Value -> Sem Value} {g : Int -> Int -> Int}
  (rule : ∀ (i j : Int) (t u : Tok) (s : Shared) (Q : Value -> Shared -> Prop) (E : Value -> Shared -> Prop), Q (.int (g i j) s.toks) { s with toks := s.toks + 1 } -> wpAny (model X.prog X.w) X.A (f (.int i t) (.int j u)) Q E s) :
  OpR X f (rI0 fun i j => .int (g i j)) := by
 intro pins s O H x y v u Q I rx ry h;obtain ⟨i, j, rfl, rfl, q⟩ := h;obtain ⟨t, rfl⟩ := rx;obtain ⟨t', rfl⟩ := ry;exact rule i j t t' s _ _ ⟨.int (g i j), H, I.tok _, ⟨_, rfl⟩, q⟩
theorem opB0 {f : Value -> Value -> Sem Value} {g : Int -> Int -> Bool}
  (rule : ∀ (i j : Int) (t u : Tok) (s : Shared) (Q : Value -> Shared -> Prop) (E : Value -> Shared -> Prop), Q (.bool (g i j)) s -> wpAny (model X.prog X.w) X.A (f (.int i t) (.int j u)) Q E s) :
  OpR X f (rI0 fun i j => .bl (g i j)) := by
 intro pins s O H x y v u Q I rx ry h;obtain ⟨i, j, rfl, rfl, q⟩ := h;obtain ⟨t, rfl⟩ := rx;obtain ⟨t', rfl⟩ := ry;exact rule i j t t' s _ _ ⟨.bl (g i j), H, I, rfl, q⟩
noncomputable def CPow (i j : Int) : Prop := 0 <= j /\ j <= 1000000 /\ i.natAbs < 2 ^ 64
noncomputable def CMul (i j : Int) : Prop := (-(2 ^ 64) < i /\ i < 2 ^ 64) \/ (-(2 ^ 64) < j /\ j < 2 ^ 64)
theorem CMul.ok {i j : Int} (h : CMul i j) : IntMulOk i j := by
 rcases h with ⟨h1, h2⟩ | ⟨h1, h2⟩
 ·exact .of_left (intBits_le_64 h1 h2)
 ·exact .of_right (intBits_le_64 h1 h2)
theorem two_pow_nn (k : Nat) : (0 : Int) <= 2 ^ k := by
 rw [two_pow_cast];exact Int.natCast_nonneg _
theorem op_add : OpR X (binaryOp .Add) (rI0 fun i j => .int (i + j)) := opI0 fun _ _ _ _ _ _ _ q => add_int q
theorem op_sub : OpR X (binaryOp .Sub) (rI0 fun i j => .int (i - j)) := opI0 fun _ _ _ _ _ _ _ q => sub_int q
theorem op_mul : OpR X (binaryOp .Mult) (rI CMul fun i j => .int (i * j)) := opI fun _ _ _ _ _ _ _ hc q => mul_int q hc.ok
theorem op_mod : OpR X (binaryOp .Mod) (rI (fun _ j => 0 < j) fun i j => .int (i % j)) := opI fun i j _ _ _ _ _ hc q => by
 have h1 : (0 : Int) < j := hc;exact mod_int' oM (by rw [Int.fmod_eq_emod_of_nonneg i oM]; exact q)
theorem op_pow : OpR X (binaryOp .Pow) (rI CPow fun i j => .int (i ^ j.toNat)) := opI fun _ _ _ _ _ _ _ hc q => pow_int_small hc.1 hc.2.1 hc.2.2 q
theorem op_shl : OpR X (binaryOp .LShift) (rI CPow fun i j => .int (i * 2 ^ j.toNat)) := opI fun _ _ _ _ _ _ _ hc q => lshift_int_small hc.1 hc.2.1 hc.2.2 q
theorem op_shr : OpR X (binaryOp .RShift) (rI (fun _ j => 0 <= j) fun i j => .int (i / 2 ^ j.toNat)) := opI fun i j _ _ _ _ _ hc q =>
 rshift_int hc (by rw [Int.fdiv_eq_ediv_of_nonneg i (two_pow_nn _)]; exact q)
theorem op_and : OpR X (binaryOp .BitAnd) (rI0 fun i j => .int (Builtin.bitAnd i j)) := opI0 fun _ _ _ _ _ _ _ q => and_int q
theorem op_or : OpR X (binaryOp .BitOr) (rI0 fun i j => .int (Builtin.bitOr i j)) := opI0 fun _ _ _ _ _ _ _ q => or_int q
theorem op_xor : OpR X (binaryOp .BitXor) (rI0 fun i j => .int (Builtin.bitXor i j)) := opI0 fun _ _ _ _ _ _ _ q => xor_int q
theorem iop_add : OpR X (inplaceOp .Add) (rI0 fun i j => .int (i + j)) := opI0 fun _ _ _ _ _ _ _ q => iadd_int q
theorem unI {f : Value -> Sem Value} {g : Int -> Int}
  (rule : ∀ (i : Int) (t : Tok) (s : Shared) (Q : Value -> Shared -> Prop) (E : Value -> Shared -> Prop), Q (.int (g i) s.toks) { s with toks := s.toks + 1 } -> wpAny (model X.prog X.w) X.A (f (.int i t)) Q E s) :
  UnR X f (rU fun i => .int (g i)) := by
 intro pins s O H x v Q I rx h;obtain ⟨i, rfl, q⟩ := h;obtain ⟨t, rfl⟩ := rx;exact rule i t s _ _ ⟨.int (g i), H, I.tok _, ⟨_, rfl⟩, q⟩
theorem un_neg : UnR X (unaryOp .USub) (rU fun i => .int (-i)) := unI fun _ _ _ _ _ q => neg_int q
end
noncomputable def scal : V -> V -> Bool
 | .non, .non => true | .non, .int _ => true | .int _, .non => true | .non, .bl _ => true | .bl _, .non => true | .non, .str _ => true | .str _, .non => true
 | .int _, .int _ => true | .bl _, .bl _ => true | .str _, .str _ => true | .byt _, .byt _ => true
 | .int _, .str _ => true | .str _, .int _ => true | .bl _, .str _ => true | .str _, .bl _ => true
 | _, _ => false
section
variable {X : Cx} {a b c : Expr} {ta tb tc : TE} {pos : Pos}
theorem op_lt : OpR X (compareOp .Lt) (rI0 fun i j => .bl (decide (i < j))) := opB0 fun _ _ _ _ _ _ _ q => lt_int q
theorem op_ge : OpR X (compareOp .GtE) (rI0 fun i j => .bl (decide (j <= i))) := opB0 fun _ _ _ _ _ _ _ q => ge_int q
theorem nomark (b : Expr) {op : CmpOp} (h : autoParam (op ≠ .In) Ax1._auto_1) (h2 : autoParam (op ≠ .NotIn) Ax1._auto_1) : behindInMarks op b = false := by
 have e1 : (op == CmpOp.In) = false := by cases op <;> first | rfl | exact absurd rfl h
 have e2 : (op == CmpOp.NotIn) = false := by cases op <;> first | rfl | exact absurd rfl h2
 cases b <;> simp [behindInMarks, e1, e2]
theorem pe_cmpR {op : CmpOp} {r : R2} (ho : OpR X (compareOp op) r) (ha : PE X a ta) (hb : PE X b tb) (hm : behindInMarks op b = false) : PE X (.Compare a [op] [b] pos) (tOp r ta tb) := by
 intro pins s O H Q I h;exact wpAny_Compare1 (binT ha hb I h fun v u s2 x y H2 I2 rx ry q => ho pins s2 O H2 x y v u Q I2 rx ry q) hm
noncomputable def tTest (t : TE) : TT := fun O H Q => t O H fun x H' => ∃ k, x = .bl k /\ Q k H'
theorem pt_cmpR {op : CmpOp} {r : R2} (ho : OpR X (compareOp op) r) (ha : PE X a ta) (hb : PE X b tb) (hm : behindInMarks op b = false) : PT X (.Compare a [op] [b] pos) (tTest (tOp r ta tb)) := by
 intro pins s O H Q I h;refine wpAny_isTrue_Compare1 (thn (ha pins s O H _ I h) fun v s1 ⟨x, H1, I1, r1, q1⟩ => thn (hb pins s1 O H1 _ I1 q1) fun u s2 ⟨y, H2, I2, r2, q2⟩ =>
  thn (ho pins s2 O H2 x y v u _ I2 r1 r2 q2) fun c s3 ⟨z, H3, I3, r3, k, e, q3⟩ => ?_) hm
 subst e;cases r3;exact wpAny_truthy_bool ⟨H3, I3, q3⟩
theorem line63 : (sizeLine : Nat) < 2 ^ 63 := by rw [sizeLine_eq]; decide
theorem vals1 {x : V} {us : List Value} (r : Vals [x] us) : ∃ u, us = [u] /\ RelV x u := by
 cases r with
 | cons r1 r2 => cases r2; exact ⟨_, rfl, r1⟩
theorem vals2 {x y : V} {us : List Value} (r : Vals [x, y] us) : ∃ u w', us = [u, w'] /\ RelV x u /\ RelV y w' := by
 cases r with
 | cons r1 r2 =>
  cases r2 with
  | cons r3 r4 => cases r4; exact ⟨_, _, rfl, r1, r3⟩
theorem call_abs : CallR X (.builtin "abs") (fun xs H Q => ∃ i, xs = [.int i] /\ Q (.int (if i < 0 then -i else i)) H) := by
 intro pins s O H xs us Q I r h;obtain ⟨i, rfl, q⟩ := h;obtain ⟨u, rfl, t, rfl⟩ := vals1 r;exact call_abs_int fun u tk => ⟨.int (if i < 0 then -i else i), H, I.tok _, ⟨_, rfl⟩, q⟩
theorem call_min2 (hc : X.calm = true) : CallR X (.builtin "min") (fun xs H Q => ∃ i j, xs = [.int i, .int j] /\ Q (.int (if j < i then j else i)) H) := by
 intro pins s O H xs us Q I r h;obtain ⟨i, j, rfl, q⟩ := h;obtain ⟨u, w', rfl, ⟨t, rfl⟩, ⟨t', rfl⟩⟩ := vals2 r;refine min_two_ints (I.ok.hd hc) fun h' tk k => ⟨_, H, I.kept k, ?_, q⟩
 by_cases hj : j < i
 ·rw [if_pos hj, if_pos hj]; exact ⟨_, rfl⟩
 ·rw [if_neg hj, if_neg hj]; exact ⟨_, rfl⟩
theorem call_int1 : CallR X (.type "int") (fun xs H Q => (∃ i, xs = [.int i] /\ Q (.int i) H) \/ ∃ k, xs = [.bl k] /\ Q (.int (if k then 1 else 0)) H) := by
 intro pins s O H xs us Q I r h;rcases h with ⟨i, rfl, q⟩ | ⟨k, rfl, q⟩
 ·obtain ⟨u, rfl, t, rfl⟩ := vals1 r
  exact call_int_int ⟨.int i, H, I, ⟨_, rfl⟩, q⟩
 ·obtain ⟨u, rfl, r1⟩ := vals1 r
  cases r1;exact call_int_bool ⟨.int (if k then 1 else 0), H, I.tok _, ⟨_, rfl⟩, q⟩
end
section
variable {prog : Program} {w : World} {A : Around} {E : Value -> Shared -> Prop} {s : Shared} {K : PySem.W.Frag} {x dx C f : Addr} {mA : Str -> Option Value} {name : Str} {v : Value}
end
section
variable {P : Program} {w : World} {H H' : Hp} {h h' : Heap} {a C dx : Addr} {fs fs' : List (Str × V)}
end
section
variable {X : Cx} {pins : List (Addr × Obj)} {O : St} {H : Hp} {s : Shared} {a C dx : Addr} {fs : List (Str × V)} {f : Str} {v : V} {A : Around} {E : Value -> Shared -> Prop}
end
section
variable {X : Cx} {o e value : Expr} {f : Str} {pos pos' tpos : Pos} {ta tv : TE}
end
section
variable {X : Cx} {pins : List (Addr × Obj)} {O : St} {H : Hp} {s : Shared} {A : Around} {E : Value -> Shared -> Prop} {Q : Value -> Shared -> Prop} {c : Value} {b : Bool}
end
structure Room (k : Nat) (A : Around) : Prop where
 hd : A.handled = none
 dp : A.depth + 3 * k + 5 < recursionLimit
 un : A.units + 16 * k + 200 < cLine
 gd : A.guards = some []
theorem Room.mono {j k : Nat} {A : Around} (r : Room k A) (h : j <= k) : Room j A := ⟨r.hd, by have := r.dp; omega, by have := r.un; omega, r.gd⟩
theorem Room.deeper {k : Nat} {A : Around} (r : Room (k + 1) A) (env : Env) : Room k (A.deeper env) :=
 ⟨r.hd, by have := r.dp; show A.depth + 1 + 3 * k + 5 < _; omega, by have := r.un; show A.units + 3 + 16 * k + 200 < _; omega, r.gd⟩
theorem Room.depth {k : Nat} {A : Around} (r : Room k A) : A.depth < recursionLimit := by have := r.dp; omega
theorem Room.units {k : Nat} {A : Around} (r : Room k A) : A.units + 64 < cLine := by have := r.un; omega
noncomputable def tNil : TA := fun _ H Q => Q [] H
noncomputable def tCons (ta : TE) (tr : TA) : TA := fun O H Q => ta O H fun x H1 => tr O H1 fun xs H2 => Q (x :: xs) H2
section
variable {X : Cx} {e : Expr} {es : List Expr} {te : TE} {t : TA} {pos : Pos}
theorem pa_nil : PA X [] tNil := fun _ _ _ _ H Q I h => Calls.spliced_nil ⟨[], H, I, .nil, h⟩
theorem pa_cons (ha : PE X e te) (hr : PA X es t) (hs : autoParam (starEach (e :: es) X.env = (false, eval e X.env) :: starEach es X.env) Ax4._auto_1) : PA X (e :: es) (tCons te t) := by
 intro pos pins s O H Q I h;rw [hs];show wpAny _ _ (spliced ((false, eval e X.env) :: backTo pos (starEach es X.env))) _ _ s;refine Calls.spliced_cons (thn (ha pins s O H _ I h) fun u s1 ⟨x, H1, I1, r1, q1⟩ => ?_);exact thn (hr pos pins s1 O H1 _ I1 q1) fun us s2 ⟨xs, H2, I2, r2, q2⟩ => ⟨x :: xs, H2, I2, .cons r1 r2, q2⟩
noncomputable def tTup (t : TA) : TE := fun O H Q => t O H fun xs H1 => xs.length <= sizeLine /\ ∀ p, H1 p = none -> Q (.ref p) (upd H1 p (.tup xs))
noncomputable def tLst (t : TA) : TE := fun O H Q => t O H fun xs H1 => xs.length <= sizeLine /\ ∀ p, H1 p = none -> Q (.ref p) (upd H1 p (.lst xs))
theorem pe_tup {x1} (h : PA X es t) : PE X (.Tuple es x1 pos) (tTup t) := by
 intro pins s O H Q I hq;refine wpAny_Tuple_spliced (thn (h pos pins s O H _ I hq) fun us s1 ⟨xs, H1, I1, r, z, q⟩ => ⟨by rw [<- r.length]; exact z, ?_⟩);have hf : H1 s1.heap.objs.size = none := I1.hok.fresh (Nat.le_refl _);refine ⟨.ref s1.heap.objs.size, upd H1 s1.heap.objs.size (.tup xs), I1.laid (t' := s1.toks) (fun b u e => Heap.get?_push_of_some _ e) (Nat.le_refl _) ?_, rfl, q _ hf⟩;exact ⟨z, us, r, ⟨_, Heap.get?_push_size _ rfl, rfl, _, rfl⟩⟩
theorem pe_lst (h : PA X es t) : PE X (.List es pos) (tLst t) := by
 intro pins s O H Q I hq;refine wpAny_List_spliced (thn (h pos pins s O H _ I hq) fun us s1 ⟨xs, H1, I1, r, z, q⟩ => ⟨by rw [<- r.length]; exact z, ?_⟩);have hf : H1 s1.heap.objs.size = none := I1.hok.fresh (Nat.le_refl _);refine ⟨.ref s1.heap.objs.size, upd H1 s1.heap.objs.size (.lst xs), I1.laid (t' := s1.toks) (fun b u e => Heap.get?_push_of_some _ e) (Nat.le_refl _) ?_, rfl, q _ hf⟩;exact ⟨z, us, 0, r, Heap.get?_push_size _ rfl⟩
end
noncomputable abbrev Sp := List V -> Hp -> VK -> XK -> Prop
noncomputable abbrev CXT := List Env -> Hp -> Shared -> XK -> Value -> Shared -> Prop
structure Env0 (P : Program) (w : World) (K : PySem.W.Frag) (mg : Str -> Option Value) (base : Heap) (A : Around) (outer : List Env) (s : Shared) (H : Hp) : Prop where
 frames : A.frames = some outer
 mod : Mod K mg base
 bs : ∀ b o, base.get? b = some o -> s.heap.get? b = some o /\ H b = none
 bsz : base.objs.size <= s.heap.objs.size
 funs : s.heap.FunFrames base outer
 frf : ∀ b ∈ frs outer, H b = none
 hok : HOk P w H s.heap
 bare : AllBare s.gens
noncomputable def CE (outer : List Env) (P : Program) (w : World) (H : Hp) (s : Shared) (Q : VK) (u : Value) (s' : Shared) : Prop :=
 ∃ v H', s'.os = s.os /\ AllBare s'.gens /\ Un (frs outer) [] H H' s.heap s'.heap /\ HOk P w H' s'.heap /\ RelV v u /\ Q v H'
noncomputable def CR (CX : CXT) (outer : List Env) (P : Program) (w : World) (H : Hp) (s : Shared) (Q : VK) (E : XK) (r : Result) (s' : Shared) : Prop :=
 match r with
 | .ok (.ret u) => CE outer P w H s Q u s'
 | .ok _ => False
 | .error e => CX outer H s E e s'
structure FnOk (P : Program) (w : World) (K : PySem.W.Frag) (mg : Str -> Option Value) (base : Heap) (CX : CXT) (k : Nat) (f : Addr) (fd : FuncData) (ps : List Str) (sp : Sp) : Prop where
 len : ∀ vs H Q E, sp vs H Q E -> vs.length = ps.length
 run : ∀ (A : Around) (outer : List Env) (s : Shared) (H : Hp) (args : Args) (us : List Value) (vs : List V) (Q : VK) (E : XK), Room k A -> Env0 P w K mg base A outer s H -> BindsTo s fd args (ps.zip us) -> Vals vs us -> sp vs H Q E ->
  codeAny (model P w) A (.call (.ref f) args) (CR CX outer P w H s Q E) s
section
variable {X : Cx} {pins : List (Addr × Obj)} {O : St} {H : Hp} {s s' : Shared}
theorem Inv.env0 (I : Inv X pins O H s) : Env0 X.prog X.w X.K X.mg X.base X.A X.stack s H :=
 ⟨I.ok.frames, I.ok.mod, I.bs, Nat.le_trans I.ok.bsz I.sz, I.stack, I.stkFree, I.hok, I.bare⟩
theorem Inv.after {Q : VK} {u : Value} (I : Inv X pins O H s) (h : CE X.stack X.prog X.w H s Q u s') : EP X pins O Q u s' := by
 obtain ⟨v, H', os, bare, un, hok, r, q⟩ := h;obtain ⟨hh, g, d, t, os'⟩ := s';obtain rfl : os' = s.os := os;exact ⟨v, H', I.call (h' := hh) (g' := g) (d' := d) (t' := t) (ch := []) un hok bare (fun b z => absurd z (by simp)), r, q⟩
end
noncomputable def tCall (sp : Sp) (dvs : List V) (E : XK) (t : TA) : TE := fun O H Q => t O H fun vs H1 => sp (vs ++ dvs) H1 Q E
noncomputable def Binds (K : PySem.W.Frag) (fd : FuncData) (ps : List Str) (ds : List Value) : Prop :=
 ∀ (s : Shared) (us : List Value), K.In s.heap -> (us ++ ds).length = ps.length -> BindsTo s fd ⟨us, []⟩ (ps.zip (us ++ ds))
theorem Binds.all {K : PySem.W.Frag} {fd : FuncData} {ps : List Str} (h : ∀ us : List Value, us.length = ps.length -> bindArgs fd ⟨us, []⟩ = pure (ps.zip us)) : Binds K fd ps [] := fun s us _ hl => by
 rw [List.append_nil] at hl ⊢;exact .of_eq (h us hl)
noncomputable def Passes (CX : CXT) (X : Cx) (E : XK) : Prop := ∀ (pins : List (Addr × Obj)) (O : St) (H : Hp) (s : Shared) (e : Value) (s' : Shared), Inv X pins O H s -> CX X.stack H s E e s' -> X.xe e s'
section
variable {X : Cx} {CX : CXT} {k : Nat} {f C : Addr} {fd : FuncData} {ps : List Str} {sp : Sp} {dvs : List V} {ds : List Value} {E : XK} {x m : Str} {p pos apos : Pos} {e o : Expr} {es : List Expr} {ta : TE} {t : TA}
theorem run_fn {pins : List (Addr × Obj)} {O : St} {H : Hp} {s : Shared} {Q : VK} {us : List Value} {vs : List V} (F : FnOk X.prog X.w X.K X.mg X.base CX k f fd ps sp) (hr : Room k X.A) (hb : Binds X.K fd ps ds) (hd : Vals dvs ds) (hx : Passes CX X E)
  (I : Inv X pins O H s) (r : Vals vs us) (h : sp (vs ++ dvs) H Q E) : wpAny (model X.prog X.w) X.A (call (.ref f) us) (EP X pins O Q) X.xe s := by
 have r2 : Vals (vs ++ dvs) (us ++ ds) := r.append hd;have hl : (us ++ ds).length = ps.length := by rw [<- r2.length]; exact F.len _ _ _ _ h
 refine wpAny_call (codeAny_mono (F.run X.A X.stack s H ⟨us, []⟩ (us ++ ds) (vs ++ dvs) Q E hr I.env0 (hb s us I.kIn hl) r2 h) fun r s' hq => ?_);cases r with
 | error e => exact hx pins O H s e s' I hq
 | ok fl =>
  cases fl with
  | ret u => exact I.after hq
  | next => exact False.elim hq
  | brk => exact False.elim hq
  | cont => exact False.elim hq
theorem pe_call (F : FnOk X.prog X.w X.K X.mg X.base CX k f fd ps sp) (hr : Room k X.A) (hg : Gl X x) (hm : X.mg x = some (.ref f)) (hk : keepIn X.K (.ref f) = true) (hb : Binds X.K fd ps ds) (hd : Vals dvs ds) (hx : Passes CX X E)
  (ha : PA X (e :: es) t) (hdb : autoParam ((x == ("__debug__" : Str)) = false) Ax1._auto_1) (he : autoParam (starEach (e :: es) X.env = (false, eval e X.env) :: starEach es X.env) Ax4._auto_1) (hpl : autoParam ((backTo pos (starEach es X.env)).any (·.1) = false) Ax4._auto_1) :
  PE X (.Call (.Name x p) (e :: es) [] pos) (tCall sp dvs E t) := by
 intro pins s O H Q I h;refine wpAny_Call_Name_kw (ld_glob I hg hm ?_ hdb);refine callWith_K (h₀ := X.base) I.ok.mod.kin hk (thn (ha pos pins s O H _ I h) fun us s1 ⟨vs, H1, I1, r, q⟩ => ⟨I1.kIn, ?_⟩) he hpl;exact run_fn F hr hb hd hx I1 r q
end
section
variable {X : Cx} {CX : CXT} {k : Nat} {f C : Addr} {fd : FuncData} {ps ks : List Str} {sp : Sp} {E : XK} {x m : Str} {p pos apos kpos : Pos} {e o : Expr} {es : List Expr} {kws : List Keyword} {te ta : TE} {t tk : TA} {nm : Option Str}
variable {g : List Value -> List Value -> List Value} {gV : List V -> List V -> List V}
end
structure FnScope (N P : List Str) (sc : Scope) : Prop where
 kind : sc.kind = .function
 co : sc.isCoroutine = false
 gen : sc.isGenerator = false
 nd : N.Nodup
 pre : N.take P.length = P
 par : ∀ x ∈ P, sc.names.lookup x = some .local \/ sc.names.lookup x = some .cell
 nofree : ∀ y ∈ sc.names, y.2 ≠ .free
theorem bindL_out {kindOf : Str -> Option NameKind} {x : Str} : ∀ {binds : List (Str × Value)} {m : Str -> Option Value}, (∀ v, (x, v) ∉ binds) -> bindL kindOf binds m x = m x
 | [], _, _ => rfl
 | (n, v) :: r, m, h => by
  unfold bindL;rw [bindL_out fun w hw => h w (List.mem_cons_of_mem _ hw)];split
  ·have : x ≠ n := by rintro rfl; exact h v List.mem_cons_self
   simp [this]
  ·rfl
theorem bindC_out {kindOf : Str -> Option NameKind} {x : Str} : ∀ {binds : List (Str × Value)} {m : Str -> Option Value}, (∀ v, (x, v) ∉ binds) -> bindC kindOf binds m x = m x
 | [], _, _ => rfl
 | (n, v) :: r, m, h => by
  unfold bindC;rw [bindC_out fun w hw => h w (List.mem_cons_of_mem _ hw)];split
  ·rfl
  ·have : x ≠ n := by rintro rfl; exact h v List.mem_cons_self
   simp [this]
theorem bindL_get {kindOf : Str -> Option NameKind} {x : Str} {v : Value} : ∀ {P : List Str} {vs : List Value} {i : Nat} {m : Str -> Option Value}, P.Nodup -> P[i]? = some x -> vs[i]? = some v -> kindOf x = some .local ->
  bindL kindOf (P.zip vs) m x = some v
 | [], _, _, _, _, h, _, _ => by simp at h
 | _ :: _, [], _, _, _, _, h, _ => by simp at h
 | p :: P, w :: vs, 0, m, nd, h1, h2, hk => by
  simp at h1 h2; subst h1; subst h2;show bindL kindOf ((p, w) :: P.zip vs) m p = _;unfold bindL;rw [bindL_out fun v hv => (List.nodup_cons.mp nd).1 (List.of_mem_zip hv).1, if_pos hk];simp
 | p :: P, w :: vs, i + 1, m, nd, h1, h2, hk => by
  show bindL kindOf ((p, w) :: P.zip vs) m x = _;unfold bindL;exact bindL_get (i := i) (List.nodup_cons.mp nd).2 (by simpa using h1) (by simpa using h2) hk
theorem bindC_get {kindOf : Str -> Option NameKind} {x : Str} {v : Value} : ∀ {P : List Str} {vs : List Value} {i : Nat} {m : Str -> Option Value}, P.Nodup -> P[i]? = some x -> vs[i]? = some v -> kindOf x ≠ some .local ->
  bindC kindOf (P.zip vs) m x = some v
 | [], _, _, _, _, h, _, _ => by simp at h
 | _ :: _, [], _, _, _, _, h, _ => by simp at h
 | p :: P, w :: vs, 0, m, nd, h1, h2, hk => by
  simp at h1 h2; subst h1; subst h2;show bindC kindOf ((p, w) :: P.zip vs) m p = _;unfold bindC;rw [bindC_out fun v hv => (List.nodup_cons.mp nd).1 (List.of_mem_zip hv).1, if_neg hk];simp
 | p :: P, w :: vs, i + 1, m, nd, h1, h2, hk => by
  show bindC kindOf ((p, w) :: P.zip vs) m x = _;unfold bindC;exact bindC_get (i := i) (List.nodup_cons.mp nd).2 (by simpa using h1) (by simpa using h2) hk
noncomputable def start (N : List Str) (vs : List V) : St := vs.map some ++ List.replicate (N.length - vs.length) none
noncomputable def cxOf (CX : CXT) (P : Program) (w : World) (K : PySem.W.Frag) (mg : Str -> Option Value) (base : Heap) (N : List Str) (qual : Str) (scope : Scope) (f : Addr) (cd : Value) (A : Around) (outer : List Env) (s : Shared) (H : Hp) (E : XK) : Cx where
 prog := P
 w := w
 K := K
 mg := mg
 base := base
 A := A.deeper (envOfC qual scope s.heap.objs.size f cd)
 N := N
 s₀ := s
 H₀ := H
 env := envOfC qual scope s.heap.objs.size f cd
 outer := outer
 stack := envOfC qual scope s.heap.objs.size f cd :: outer
 ex := []
 calm := true
 fn := fun _ => true
 pn := []
 xe := fun e s' => wpAny (model P w) (A.deeper (envOfC qual scope s.heap.objs.size f cd)) (leaving (envOfC qual scope s.heap.objs.size f cd) e) (fun _ s'' => CX outer H s E e s'') (fun e' s'' => CX outer H s E e' s'') s'
theorem cell_has {sc : Scope} {n : Nat} {x : Str} (h : sc.names.lookup x = some .cell) : ∃ c, (cellsFrom n sc.names []).lookup x = some c := by
 have q := cellsFrom_some sc.names n [] (.inl h);exact Option.isSome_iff_exists.mp q
theorem inv_start {CX : CXT} {P : Program} {w : World} {K : PySem.W.Frag} {mg : Str -> Option Value} {base : Heap} {N ps : List Str} {qual : Str} {scope : Scope} {f : Addr} {cd : Value} {A : Around} {outer : List Env} {s s1 : Shared} {H : Hp} {E : XK} {us : List Value} {vs : List V}
  (S : FnScope N ps scope) (hd : A.handled = none) (e0 : Env0 P w K mg base A outer s H) (hl : vs.length = ps.length) (r : Vals vs us)
  (x : InCallC s s.heap.objs.size (bindL (envOfC qual scope s.heap.objs.size f cd).kindOf (ps.zip us) fun _ => none) (cellsFrom (s.heap.objs.size + 1) scope.names []) (bindC (envOfC qual scope s.heap.objs.size f cd).kindOf (ps.zip us) fun _ => none) s1) :
  Inv (cxOf CX P w K mg base N qual scope f cd A outer s H E) [] (start N vs) H s1 := by
 have hpl : ps.length <= N.length := by have := congrArg List.length S.pre; rw [List.length_take] at this; omega
 obtain ⟨h1, tk, rfl, hk⟩ := x.done;have noA : ∀ b : Addr, b ∉ (cxOf CX P w K mg base N qual scope f cd A outer s H E).ex := fun b z => absurd (show b ∈ ([] : List Addr) from z) (by simp)
 refine ⟨⟨e0.mod, S.kind, rfl, rfl, Nat.le_refl _, fun y z c h1 h2 => ?_, fun y hy => ?_, fun y c _ h => ?_, fun _ => hd, Around.frames_deeper e0.frames, .inr ⟨rfl, rfl⟩, fun b z => absurd z (noA b), e0.bs, e0.bsz, fun b _ _ => noA b, fun b z => absurd z (noA b), e0.funs, e0.frf⟩,
  rfl, e0.bare, Un.kept hk, ⟨_, x.toInCall.ns, fun i y v h1 h2 h3 => ?_⟩, fun y c h => ⟨_, x.cell y c h⟩, e0.hok.fresh (Nat.le_refl _), fun y c h => ?_, fun p hp => absurd (show p ∈ ([] : List (Addr × Obj)) from hp) (by simp), e0.hok.kept hk, ?_⟩
 ·exact name_of_addr x.apart (PySem.mem_of_lookup h1) (PySem.mem_of_lookup h2)
 ·have hy : scope.names.lookup y = some .cell \/ scope.names.lookup y = some .free := hy
  rcases hy with hy | hy
  ·exact cell_has hy
  ·exact absurd rfl (S.nofree _ (PySem.mem_of_lookup hy))
 ·exact Nat.le_of_lt (x.above y c (PySem.mem_of_lookup h))
 ·have hi : i < vs.length := by
   unfold start at h2;by_cases hi : i < vs.length
   ·exact hi
   ·rw [List.getElem?_append_right (by simpa using hi)] at h2
    rw [List.getElem?_replicate] at h2;split at h2 <;> cases h2
  have ha : vs[i]? = some v := by
   unfold start at h2;rw [List.getElem?_append_left (by simpa using hi), List.getElem?_map] at h2;cases e : vs[i]? with
   | none => rw [e] at h2; cases h2
   | some a => rw [e] at h2; cases h2; rfl
  obtain ⟨u, hu, rv⟩ := r.get ha;have hp : ps[i]? = some y := by
   rw [<- S.pre, List.getElem?_take_of_lt oM]; exact h1
  have ndP : ps.Nodup := by rw [<- S.pre]; exact S.nd.sublist (List.take_sublist _ _)
  refine ⟨u, rv, ?_⟩;rcases S.par y (List.mem_of_getElem? hp) with k | k
  ·exact .inl ⟨k, bindL_get ndP hp hu k⟩
  ·obtain ⟨c, e⟩ := cell_has (n := s.heap.objs.size + 1) k
   refine .inr ⟨.inl k, c, e, ?_⟩;have q := x.cell y c e;rw [bindC_get ndP hp hu (by show scope.names.lookup y ≠ _; rw [k]; decide)] at q;exact q
 ·exact e0.hok.fresh (Nat.le_of_lt (x.above y c (PySem.mem_of_lookup h)))
 ·unfold start
  show _ = N.length;rw [List.length_append, List.length_map, List.length_replicate];omega
theorem fn_of {CX : CXT} {P : Program} {w : World} {K : PySem.W.Frag} {mg : Str -> Option Value} {base : Heap} {k : Nat} {f : Addr} {name qual : Str} {params : Arguments} {body : List Stmt} {scope : Scope} {dV kV doc pm cdv ct oc : Value} {an od : Option Addr}
  {osl : Array (Option Value)} {N ps : List Str} {sp : Sp} (lk : K.lookup f = some ⟨oc, od, .func (fnOf name qual params body scope dV kV doc pm an cdv ct), osl⟩) (hcd : codeIn K cdv qual = true) (S : FnScope N ps scope)
  (len : ∀ vs H Q E, sp vs H Q E -> vs.length = ps.length)
  (hbody : ∀ (A : Around) (outer : List Env) (s : Shared) (H : Hp) (vs : List V) (Q : VK) (E : XK), Room k (A.deeper (envOfC qual scope s.heap.objs.size f cdv)) -> sp vs H Q E ->
   ∃ t, PSs (cxOf CX P w K mg base N qual scope f cdv A outer s H E) body t /\ t { nx := fun _ H' => Q .non H', rt := Q } (start N vs) H) :
  FnOk P w K mg base CX (k + 1) f (fnOf name qual params body scope dV kV doc pm an cdv ct) ps sp := by
 refine ⟨len, fun A outer s H args us vs Q E hr e0 hb r hsp => ?_⟩;have hl := len _ _ _ _ hsp;have KX : K.In s.heap := e0.mod.kin.keeps fun b o e => (e0.bs b o e).1
 have lim : s.heap.NoLimit := e0.mod.nolimit.keeps fun b o e => (e0.bs b o e).1
 have hkind : ∀ y ∈ ps.zip us, scope.names.lookup y.1 = some .local \/ (scope.names.lookup y.1 = some .cell /\ ((cellsFrom (s.heap.objs.size + 1) scope.names []).lookup y.1).isSome = true) := fun hq0 hy => by
  obtain ⟨n, v⟩ := hq0;rcases S.par n (List.of_mem_zip hy).1 with q | q
  ·exact .inl q
  ·exact .inr ⟨q, cellsFrom_some _ _ _ (.inl q)⟩
 refine codeAny_call_function hr.depth (KX _ _ lk) rfl S.co S.gen rfl (codeRec_of KX hcd) (hb _ _ _ _ ?_);refine wpAny_newFunctionEnv_cells S.kind hkind fun env he s1 x => ?_
 subst he;refine ⟨lim.keeps x.toInCall.keep, codeAny_func ?_⟩;obtain ⟨t, ht, hq⟩ := hbody A outer s H vs Q E (hr.deeper _) hsp;have I : Inv (cxOf CX P w K mg base N qual scope f cdv A outer s H E) [] (start N vs) H s1 := inv_start S hr.hd e0 hl r x;refine wpAny_mono (ht [] s1 (start N vs) H _ I hq) (fun fl s' hs => ?_) fun e s' hs => hs
 have fin : ∀ {O' : St} {H' : Hp} {v : V} {u : Value}, Inv (cxOf CX P w K mg base N qual scope f cdv A outer s H E) [] O' H' s' -> RelV v u -> Q v H' -> CE outer P w H s Q u s' :=
  fun {O' H' v u} J rv q => ⟨v, H', J.os, J.bare, J.base, J.hok, rv, q⟩
 cases fl with
 | ret u =>
  obtain ⟨v, O', H', J, rv, q⟩ := hs;exact fin J rv q
 | next =>
  obtain ⟨O', H', J, q⟩ := hs;exact fin (v := V.non) (u := Value.none) J rfl q
 | brk =>
  obtain ⟨_, _, _, q⟩ := hs;exact False.elim q
 | cont =>
  obtain ⟨_, _, _, q⟩ := hs;exact False.elim q
section
variable {X : Cx} {x : Str} {p pos : Pos} {e : Expr} {es : List Expr} {t : TA} {id T : String} {r : List V -> Hp -> VK -> Prop}
noncomputable def tCB (r : List V -> Hp -> VK -> Prop) (t : TA) : TE := fun O H Q => t O H fun vs H1 => r vs H1 Q
theorem pe_callB (hc : CallR X (.builtin id) r) (hg : Gl X x) (hm : X.mg x = none) (hv : bootBuiltins x = some (.builtin id)) (ha : PA X (e :: es) t) (hn : autoParam (x ≠ "__name__") Ax1._auto_1) (hdb : autoParam ((x == ("__debug__" : Str)) = false) Ax1._auto_1)
  (he : autoParam (starEach (e :: es) X.env = (false, eval e X.env) :: starEach es X.env) Ax4._auto_1) (hpl : autoParam ((backTo pos (starEach es X.env)).any (·.1) = false) Ax4._auto_1) : PE X (.Call (.Name x p) (e :: es) [] pos) (tCB r t) := by
 intro pins s O H Q I h;refine wpAny_Call_Name_kw (ld_blt I hg hm hv ?_ hn hdb);exact PyProof.Rows.callWith_builtin1 (thn (ha pos pins s O H _ I h) fun us s1 ⟨vs, H1, I1, r1, q1⟩ => hc pins s1 O H1 vs us Q I1 r1 q1) he hpl
theorem pe_callTy (hc : CallR X (.type T) r) (hg : Gl X x) (hm : X.mg x = none) (hv : bootBuiltins x = some (.type T)) (ha : PA X (e :: es) t) (hn : autoParam (x ≠ "__name__") Ax1._auto_1) (hdb : autoParam ((x == ("__debug__" : Str)) = false) Ax1._auto_1)
  (he : autoParam (starEach (e :: es) X.env = (false, eval e X.env) :: starEach es X.env) Ax4._auto_1) (hpl : autoParam ((backTo pos (starEach es X.env)).any (·.1) = false) Ax4._auto_1) : PE X (.Call (.Name x p) (e :: es) [] pos) (tCB r t) := by
 intro pins s O H Q I h;refine wpAny_Call_Name_kw (ld_blt I hg hm hv ?_ hn hdb);exact PyProof.Rows.callWith_type1 (thn (ha pos pins s O H _ I h) fun us s1 ⟨vs, H1, I1, r1, q1⟩ => hc pins s1 O H1 vs us Q I1 r1 q1) he hpl
end
end L2
namespace HT
open PySem PyProof.Rows
section
open PySem.SeqAt
open PySem.AutoSeq1 (wpAny_loadPart')
open PySem.MeetsSeq PySem.MeetsSeq2 PySem.MeetsSeq3
end
section
variable {prog : Program} {w : World} {A : Around} {E : Value -> Shared -> Prop} {s : Shared}
noncomputable def sIx (n d : Nat) : Option Int -> Nat
 | none => d
 | some v => if v < 0 then (v + (n : Int)).toNat else min v.toNat n
end
end HT
namespace L2
open PySem PySem.Spec PyProof.Rows
noncomputable abbrev TO := St -> Hp -> (Option Int -> Hp -> Prop) -> Prop
noncomputable def PO (X : Cx) (e : Option Expr) (t : TO) : Prop :=
 ∀ (pins : List (Addr × Obj)) (s : Shared) (O : St) (H : Hp) (Q : Option Int -> Hp -> Prop), Inv X pins O H s -> t O H Q ->
  wpAny (model X.prog X.w) X.A (evalPart e X.env) (fun u s' => ∃ o H', Inv X pins O H' s' /\ IsPart u o /\ Q o H') X.xe s
theorem intsAre_of {ns : List Int} : ∀ {us : List Value}, Vals (ns.map V.int) us -> IntsAre us ns := by
 induction ns with
 | nil => intro us r; rw [List.map_nil] at r; cases r; exact .nil
 | cons n ns ih =>
  intro us r;rw [List.map_cons] at r;cases r with
  | cons r1 r2 =>
   obtain ⟨t, e⟩ := r1;subst e;exact .cons n t (ih r2)
section
variable {X : Cx} {e : Expr} {te : TE} {lo hi : Option Expr} {tl th : TO} {pos p2 : Pos}
end
noncomputable def ixN (n : Nat) (i : Int) : Option Nat := if 0 <= i then (if i < n then some i.toNat else none) else if -(n : Int) <= i then some (i + n).toNat else none
noncomputable def atI {α : Type} (xs : List α) (i : Int) : Option α := (ixN xs.length i).bind fun j => xs[j]?
theorem ixN_seq {n : Nat} {i : Int} {j : Nat} (h : ixN n i = some j) : seqIndex? i n = some j /\ j < n /\ -(n : Int) <= i /\ i < n := by
 unfold ixN at h;by_cases h0 : 0 <= i
 ·rw [if_pos h0] at h
  by_cases h1 : i < n
  ·rw [if_pos h1] at h
   have e : i.toNat = j := Option.some.inj h;exact ⟨by rw [seqIndex_of h0 h1, e], by omega, by omega, h1⟩
  ·rw [if_neg h1] at h; cases h
 ·rw [if_neg h0] at h
  by_cases h1 : -(n : Int) <= i
  ·rw [if_pos h1] at h
   have e : (i + n).toNat = j := Option.some.inj h;exact ⟨by rw [seqIndex_neg oM h1, e], by omega, h1, by omega⟩
  ·rw [if_neg h1] at h; cases h
theorem atI_get {α : Type} {xs : List α} {i : Int} {v : α} (h : atI xs i = some v) : ∃ j, seqIndex? i xs.length = some j /\ xs[j]? = some v /\ j < xs.length /\ -(xs.length : Int) <= i /\ i < xs.length := by
 unfold atI at h;cases e : ixN xs.length i with
 | none => rw [e] at h; cases h
 | some j =>
  rw [e] at h;obtain ⟨h1, h2, h3, h4⟩ := ixN_seq e;exact ⟨j, h1, h, h2, h3, h4⟩
theorem atI_nat {α : Type} {xs : List α} {j : Nat} {v : α} (h : xs[j]? = some v) : atI xs (j : Int) = some v := by
 have hj : j < xs.length := (List.getElem?_eq_some_iff.mp h).1;have e : ixN xs.length (j : Int) = some j := by
  unfold ixN;rw [if_pos oM, if_pos oM]; simp
 unfold atI; rw [e]; exact h
noncomputable def PlainIx (b : Expr) : Prop := ∀ o i, subscripted b false o i = operate [o, i] (getItem o i)
noncomputable def IxR (X : Cx) (r : R2) : Prop :=
 ∀ (value slice : Expr) (pins : List (Addr × Obj)) (s : Shared) (O : St) (H : Hp) (x y : V) (v u : Value) (Q : VK), Inv X pins O H s -> RelV x v -> RelV y u -> r x y H Q ->
  subscripted slice false v u = operate [v, u] (getItem v u) -> wpAny (model X.prog X.w) X.A (subscriptTail value slice v u) (EP X pins O Q) X.xe s
noncomputable def MtR (X : Cx) (id : String) (r : V -> List V -> Hp -> VK -> Prop) : Prop :=
 ∀ (pins : List (Addr × Obj)) (s : Shared) (O : St) (H : Hp) (x : V) (xs : List V) (v : Value) (us : List Value) (Q : VK), Inv X pins O H s -> RelV x v -> Vals xs us -> r x xs H Q ->
  wpAny (model X.prog X.w) X.A (call (.builtin id) (v :: us)) (EP X pins O Q) X.xe s
section
variable {X : Cx} {a b : Expr} {ta tb : TE} {pos : Pos}
theorem IxR.or {r r' : R2} (h : IxR X r) (h' : IxR X r') : IxR X (fun x y H Q => r x y H Q \/ r' x y H Q) := by
 intro value slice pins s O H x y v u Q I rx ry q hs;rcases q with q | q
 ·exact h value slice pins s O H x y v u Q I rx ry q hs
 ·exact h' value slice pins s O H x y v u Q I rx ry q hs
theorem pe_ix {r : R2} (hr : IxR X r) (ha : PE X a ta) (hb : PE X b tb) (hs : PlainIx b) : PE X (.Subscript a b pos) (tOp r ta tb) := by
 intro pins s O H Q I h;exact Subscript_ (binT ha hb I h fun v u s2 x y H2 I2 rx ry q => hr a b pins s2 O H2 x y v u Q I2 rx ry q (hs _ _))
noncomputable def rIxL (K : PySem.W.Frag) : R2 := fun x y H Q => ∃ p xs i v, x = .ref p /\ y = .int i /\ SqL K H p xs /\ atI xs i = some v /\ Q v H
noncomputable def rIxT (K : PySem.W.Frag) : R2 := fun x y H Q => ∃ p xs i v, x = .ref p /\ y = .int i /\ SqT K H p xs /\ atI xs i = some v /\ Q v H
noncomputable def rIxS : R2 := fun x y H Q => ∃ z i c, x = .str z /\ y = .int i /\ z.length <= sizeLine /\ atI z.cps.toList i = some c /\ Q (.str ⟨#[c]⟩) H
theorem ix_list : IxR X (rIxL X.K) := by
 intro value slice pins s O H x y v u Q I rx ry h hs;obtain ⟨p, xs, i, z, rfl, rfl, hq, he, q⟩ := h;cases rx;obtain ⟨t, rfl⟩ := ry;obtain ⟨its, r, pl, hz⟩ := I.list hq;obtain ⟨j, h1, h2, h3, h4, h5⟩ := atI_get he;obtain ⟨w, ew, rw'⟩ := r.get h2;have hl := r.length;have hn := line63;have fin : EP X pins O Q w s := ⟨z, H, I, rw', q⟩;by_cases h0 : 0 <= i
 ·have hj : i.toNat = j := by
   rw [seqIndex_of h0 h5] at h1;exact Option.some.inj h1
  exact item_listR pl.isList h0 oM (by rw [hj]; simpa using ew) fin hs
 ·have hj : (i + (its.toArray.size : Int)).toNat = j := by
   rw [seqIndex_neg oM h4] at h1;rw [List.size_toArray, <- hl];exact Option.some.inj h1
  exact subscriptTail_builtinR (x := w) pl.isList.typeIs slot_list_getitem.lookup
   (wpAny_getItem_list_neg (Q := fun r s' => r = w /\ EP X pins O Q r s') pl.isList oM (by rw [List.size_toArray] <;> omega) oM (by rw [hj]; simpa using ew) ⟨rfl, fin⟩) hs
theorem ix_tup : IxR X (rIxT X.K) := by
 intro value slice pins s O H x y v u Q I rx ry h hs;obtain ⟨p, xs, i, z, rfl, rfl, hq, he, q⟩ := h;cases rx;obtain ⟨t, rfl⟩ := ry;obtain ⟨its, r, pl, hz⟩ := I.tuple hq;obtain ⟨j, h1, h2, h3, h4, h5⟩ := atI_get he;obtain ⟨w, ew, rw'⟩ := r.get h2;have hl := r.length;have hn := line63;have fin : EP X pins O Q w s := ⟨z, H, I, rw', q⟩;exact subscriptTail_builtinR (x := w) pl.typeIs slot_tuple_getitem.lookup
  (getItem_tuple (j := j) (Q := fun r s' => r = w /\ EP X pins O Q r s') pl oM oM (by rw [List.size_toArray, <- hl]; exact h1) (by simpa using ew) ⟨rfl, fin⟩) hs
theorem ix_str : IxR X rIxS := by
 intro value slice pins s O H x y v u Q I rx ry h hs;obtain ⟨z, i, c, rfl, rfl, hz, he, q⟩ := h;obtain ⟨t, rfl⟩ := rx;obtain ⟨t', rfl⟩ := ry;obtain ⟨j, h1, h2, h3, h4, h5⟩ := atI_get he;have hl : z.cps.toList.length = z.length := by simp [Str.length]
 rw [hl] at h1 h4 h5;have hn := line63;exact tail_any (typeIs_str s z t) slot_str_getitem.lookup (getItem_str (c := c) (by
  have e1 : decide (i < -(2 ^ 63 : Int)) = false := decide_eq_false oM;have e2 : decide (i ≥ 2 ^ 63) = false := decide_eq_false oM;rw [e1, e2, Bool.or_false]) (by rw [h1]; simpa using h2) ⟨.str ⟨#[c]⟩, H, I.tok _, ⟨_, rfl⟩, q⟩) hs
noncomputable def rIx (K : PySem.W.Frag) : R2 := fun x y H Q => rIxL K x y H Q \/ rIxT K x y H Q \/ rIxS x y H Q
theorem ix_seq : IxR X (rIx X.K) := ix_list.or (ix_tup.or ix_str)
theorem mapSeq_set (its : List Value) (n j : Nat) (u : Value) : Obj.mapSeq (·.setIfInBounds j u) { cls := .type "list", data := .seq its.toArray n } = { cls := .type "list", data := .seq (its.set j u).toArray n } := by
 simp [Obj.mapSeq]
theorem Inv.lst {pins : List (Addr × Obj)} {O : St} {H : Hp} {s : Shared} {p : Addr} {xs : List V} (I : Inv X pins O H s) (h : H p = some (.lst xs)) :
  ∃ (its : List Value) (n : Nat), Vals xs its /\ s.heap.get? p = some { cls := .type "list", data := .seq its.toArray n } /\ xs.length <= sizeLine := by
 obtain ⟨z, its, n, r, e⟩ := I.hok p _ h;exact ⟨its, n, r, e, z⟩
theorem Inv.lstUpd {pins : List (Addr × Obj)} {O : St} {H : Hp} {s : Shared} {p : Addr} {xs ys : List V} {its its' : List Value} {n n' : Nat} {f : Obj -> Obj} (I : Inv X pins O H s) (h : H p = some (.lst xs))
  (ho : s.heap.get? p = some { cls := .type "list", data := .seq its.toArray n }) (hf : f { cls := .type "list", data := .seq its.toArray n } = { cls := .type "list", data := .seq its'.toArray n' }) (r : Vals ys its') (hz : ys.length <= sizeLine) (t : Nat) :
  Inv X pins O (upd H p (.lst ys)) { s with heap := s.heap.update p f, toks := t } := by
 have e : (s.heap.update p f).get? p = some { cls := .type "list", data := .seq its'.toArray n' } := by
  rw [Heap.get?_update_self f ho (by rw [hf] <;> rfl), hf]
 refine I.write (x := p) (e := p) (by rw [h]; trivial) (.inl rfl) (fun b u hb q => (Heap.get?_update_other _ _ (Ne.symm hb)).trans q) ⟨_, e⟩ ?_;exact ⟨hz, its', n', r, e⟩
noncomputable def rSetL : V -> V -> V -> Hp -> (Hp -> Prop) -> Prop := fun o i v H Q => ∃ p xs k j, o = .ref p /\ i = .int k /\ H p = some (.lst xs) /\ ixN xs.length k = some j /\ Q (upd H p (.lst (xs.set j v)))
theorem set_list : PSet X rSetL := by
 intro pins s O H o i v ov iv u Q I ro ri rv h;obtain ⟨p, xs, k, j, rfl, rfl, hp, hj, q⟩ := h;cases ro;obtain ⟨t, rfl⟩ := ri;obtain ⟨its, n, r, ho, hz⟩ := I.lst hp;obtain ⟨h1, h2, h3, h4⟩ := ixN_seq hj;have hl := r.length;have hn := line63;have I' : Inv X pins O (upd H p (.lst (xs.set j v))) { s with heap := s.heap.update p (Obj.mapSeq (·.setIfInBounds j u)) } :=
  I.lstUpd hp ho (mapSeq_set its n j u) (r.set rv j) (by rw [List.length_set]; exact hz) s.toks
 by_cases h0 : 0 <= k
 ·have hk : k.toNat = j := by
   rw [seqIndex_of h0 h4] at h1;exact Option.some.inj h1
  exact ki_setAt ho h0 oM (by rw [List.size_toArray, <- hl]; exact h4) (by rw [hk]; exact ⟨_, I', q⟩)
 ·have hk : (k + (its.toArray.size : Int)).toNat = j := by
   rw [seqIndex_neg oM h3] at h1;rw [List.size_toArray, <- hl];exact Option.some.inj h1
  exact ki_setBack ho oM (by rw [List.size_toArray, <- hl]; exact h3) oM (by rw [hk]; exact ⟨_, I', q⟩)
theorem call_len_seq : CallR X (.builtin "len") (fun xs H Q => ∃ p ys, xs = [.ref p] /\ (SqL X.K H p ys \/ SqT X.K H p ys) /\ Q (.int ys.length) H) := by
 intro pins s O H xs us Q I r h;obtain ⟨p, ys, rfl, hq, q⟩ := h;obtain ⟨u, rfl, rx⟩ := vals1 r;cases rx;have hn := line63;rcases hq with hq | hq
 ·obtain ⟨its, r', pl, hz⟩ := I.list hq
  have hlen := r'.length;exact Calls.call_len_list pl.isList (by simp only [List.size_toArray] <;> omega) ⟨.int ys.length, H, I.tok _, ⟨s.toks + 1, by rw [List.size_toArray, hlen]⟩, q⟩
 ·obtain ⟨its, r', pl, hz⟩ := I.tuple hq
  have hlen := r'.length;exact len_tuple pl (by simp only [List.size_toArray] <;> omega) ⟨.int ys.length, H, I.tok _, ⟨s.toks + 1, by rw [List.size_toArray, hlen]⟩, q⟩
theorem call_len_str : CallR X (.builtin "len") (fun xs H Q => ∃ z, xs = [.str z] /\ z.length <= sizeLine /\ Q (.int z.length) H) := by
 intro pins s O H xs us Q I r h;obtain ⟨z, rfl, hz, q⟩ := h;obtain ⟨u, rfl, t, rfl⟩ := vals1 r;have hn := line63;exact len_str oM ⟨.int z.length, H, I.tok _, ⟨_, rfl⟩, q⟩
theorem CallR.or {f : Value} {r r' : List V -> Hp -> VK -> Prop} (h : CallR X f r) (h' : CallR X f r') : CallR X f (fun xs H Q => r xs H Q \/ r' xs H Q) := by
 intro pins s O H xs us Q I rs q;rcases q with q | q
 ·exact h pins s O H xs us Q I rs q
 ·exact h' pins s O H xs us Q I rs q
noncomputable def tyV (K : PySem.W.Frag) (T : String) (x : V) (H : Hp) : Prop := match x with
 | .str _ => T = "str"
 | .int _ => T = "int"
 | .ref p => (T = "list" /\ ∃ xs, SqL K H p xs) \/ (T = "tuple" /\ ∃ o, K.lookup p = some o /\ o.cls = .type "tuple" /\ o.dict = none) \/
   (T = "dict" /\ ((∃ kvs, H p = some (.dK kvs)) \/ ∃ kvs, H p = some (.dT kvs))) \/ (T = "set" /\ ∃ S n, H p = some (.set S n))
 | _ => False
theorem tyV_is {pins : List (Addr × Obj)} {O : St} {H : Hp} {s : Shared} {T : String} {x : V} {v : Value} (I : Inv X pins O H s) (r : RelV x v) (ty : tyV X.K T x H) :
  s.TypeIs v T /\ ∀ a, v = .ref a -> ∃ ob, s.heap.get? a = some ob /\ ob.dict = none := by
 cases x with
 | str z =>
  obtain ⟨t, rfl⟩ := r;cases (show T = "str" from ty);exact ⟨typeIs_str s z t, fun _ e => nomatch e⟩
 | int i =>
  obtain ⟨t, rfl⟩ := r;cases (show T = "int" from ty);exact ⟨typeIs_int s i t, fun _ e => nomatch e⟩
 | ref p =>
  cases r;rcases ty with ⟨rfl, xs, hq⟩ | ⟨rfl, o, hk, hc, hd⟩ | ⟨rfl, hk⟩ | ⟨rfl, S, n, hk⟩
  ·obtain ⟨its, _, pl, _⟩ := I.list hq
   refine ⟨pl.isList.typeIs, fun a e => ?_⟩;cases e;obtain ⟨o, n, e, c, hd, _⟩ := pl;exact ⟨o, e, hd⟩
  ·refine ⟨⟨o, I.kIn p o hk, hc⟩, fun a e => ?_⟩
   cases e;exact ⟨o, I.kIn _ o hk, hd⟩
  ·have z : ∃ o, s.heap.get? p = some o /\ o.ExactDict := by
    rcases hk with ⟨kvs, hk⟩ | ⟨kvs, hk⟩
    ·obtain ⟨_, _, _, _, o, _, _, e, ex, _⟩ := I.hok p _ hk
     exact ⟨o, e, ex⟩
    ·obtain ⟨_, _, _, _, o, _, _, e, ex, _⟩ := I.hok p _ hk
     exact ⟨o, e, ex⟩
   obtain ⟨o, e, ex⟩ := z;refine ⟨⟨o, e, ex.1⟩, fun a e2 => ?_⟩;cases e2;exact ⟨o, e, ex.2.1⟩
  ·obtain ⟨o, _, _, _, e, ex, _⟩ := I.hok p _ hk
   refine ⟨⟨o, e, ex.1⟩, fun a e2 => ?_⟩;cases e2;exact ⟨o, e, ex.2.1⟩
 | _ => exact False.elim ty
noncomputable def tBM0 (K : PySem.W.Frag) (T : String) (r : V -> List V -> Hp -> VK -> Prop) (to : TE) : TE := fun O H Q => to O H fun x H1 => tyV K T x H1 /\ r x [] H1 Q
noncomputable def tBM (K : PySem.W.Frag) (T : String) (r : V -> List V -> Hp -> VK -> Prop) (to : TE) (t : TA) : TE := fun O H Q => to O H fun x H1 => tyV K T x H1 /\ t O H1 fun xs H2 => r x xs H2 Q
variable {o e : Expr} {es : List Expr} {to : TE} {t : TA} {name : Str} {apos cpos : Pos} {T id : String} {r : V -> List V -> Hp -> VK -> Prop}
theorem pe_bm0 (pa : PlainAttrs T) (slot : Slot T name id) (hty : typeOf (.builtin id) = pure (.type "method_descriptor")) (hm : MtR X id r) (ho : PE X o to)
  (hbase : autoParam (attributeBase o name X.env (eval o X.env) = eval o X.env) Ax4._auto_1) (hline : autoParam ((apos.endLine == cpos.line) = true) Ax4._auto_1) : PE X (.Call (.Attribute o name apos) [] [] cpos) (tBM0 X.K T r to) := by
 intro pins s O H Q I h;refine wpAny_Call_method0_late hbase hline (thn (ho pins s O H _ I h) fun v s1 ⟨x, H1, I1, r1, ty, q1⟩ => ?_);obtain ⟨h1, h2⟩ := tyV_is I1 r1 ty;exact ⟨T, id, pa, slot, hty, h1, h2, Calls.callWith_builtin rfl (PySem.evalArgs_none (hm pins s1 O H1 x [] v [] Q I1 r1 .nil q1))⟩
theorem pe_bm (pa : PlainAttrs T) (slot : Slot T name id) (hty : typeOf (.builtin id) = pure (.type "method_descriptor")) (hm : MtR X id r) (ho : PE X o to) (ha : PA X (e :: es) t)
  (hbase : autoParam (attributeBase o name X.env (eval o X.env) = eval o X.env) Ax4._auto_1)
  (hfew : autoParam (((backTo cpos (starEach (e :: es) X.env)).all (fun x => !x.1) && (backToKw cpos (keywordEach [] X.env)).all (fun x => x.1.isSome)
   && decide ((e :: es).length + ([] : List Keyword).length + (if ([] : List Keyword).isEmpty then 0 else 1) < 30)) = true) Ax4._auto_1)
  (hline : autoParam ((apos.endLine == cpos.line) = true) Ax4._auto_1) (hs : autoParam (starEach (e :: es) X.env = (false, eval e X.env) :: starEach es X.env) Ax4._auto_1) (hplain : autoParam ((backTo cpos (starEach es X.env)).any (·.1) = false) Ax4._auto_1) :
  PE X (.Call (.Attribute o name apos) (e :: es) [] cpos) (tBM X.K T r to t) := by
 intro pins s O H Q I h;refine wpAny_Call_method_late hbase hfew hline rfl (thn (ho pins s O H _ I h) fun v s1 ⟨x, H1, I1, r1, ty, q1⟩ => ?_);obtain ⟨h1, h2⟩ := tyV_is I1 r1 ty;refine ⟨T, id, pa, slot, hty, h1, h2, ?_⟩;have hA := ha cpos pins s1 O H1 _ I1 q1;rw [hs] at hA ⊢;refine Calls.callWith_builtin (by show (false || (backTo cpos (starEach es X.env)).any (·.1)) = false; rw [hplain] <;> rfl) (Calls.evalArgs_plain ?_);exact thn hA fun us s2 ⟨vs, H2, I2, r2, q2⟩ => hm pins s2 O H2 x vs v us Q I2 r1 r2 q2
end
noncomputable def MtM (X : Cx) (id : String) (r : V -> List V -> Hp -> VK -> Prop) : Prop :=
 ∀ (pins : List (Addr × Obj)) (s : Shared) (O : St) (H : Hp) (x : V) (xs : List V) (v : Value) (us : List Value) (Q : VK), Inv X pins O H s -> RelV x v -> Vals xs us -> r x xs H Q ->
  wpAny (model X.prog X.w) X.A (call (.builtin id) (v :: us)) (EP X pins O Q) X.xe s
theorem Vals.one {x : V} {us : List Value} (h : Vals [x] us) : ∃ u, us = [u] /\ RelV x u := by
 cases h with
 | cons r h => cases h; exact ⟨_, rfl, r⟩
theorem Vals.eraseIdx : ∀ {xs : List V} {us : List Value} (i : Nat), Vals xs us -> Vals (xs.eraseIdx i) (us.eraseIdx i)
 | _, _, _, .nil => .nil
 | _, _, 0, .cons _ t => t
 | _, _, i + 1, .cons r t => .cons r (Vals.eraseIdx i t)
theorem Vals.rep {xs : List V} {us : List Value} (h : Vals xs us) : ∀ k : Nat, Vals (List.replicate k xs).flatten (List.replicate k us).flatten
 | 0 => .nil
 | k + 1 => by
  rw [List.replicate_succ, List.replicate_succ, List.flatten_cons, List.flatten_cons];exact Vals.append h (Vals.rep h k)
theorem len_erase {α : Type} : ∀ (l : List α) (i : Nat), (l.eraseIdx i).length <= l.length
 | [], _ => Nat.le_refl _
 | _ :: _, 0 => Nat.le_succ _
 | _ :: r, i + 1 => Nat.succ_le_succ (len_erase r i)
theorem foldl_rep (its : List Value) : ∀ (k : Nat) (acc : List Value),
  List.foldl (fun x1 x2 => x1 ++ x2) acc.toArray (List.replicate k its.toArray) = (acc ++ (List.replicate k its).flatten).toArray
 | 0, acc => by simp
 | k + 1, acc => by
  have e : acc.toArray ++ its.toArray = (acc ++ its).toArray := by simp
  have e2 : (acc ++ its) ++ (List.replicate k its).flatten = acc ++ (List.replicate (k + 1) its).flatten := by
   rw [List.replicate_succ, List.flatten_cons, List.append_assoc]
  rw [<- e2, <- foldl_rep its k (acc ++ its), <- e, List.replicate_succ, List.foldl_cons]
section
variable {X : Cx} {pins : List (Addr × Obj)} {O : St} {H : Hp} {s : Shared} {l b : Addr} {xs ys zs : List V}
theorem Inv.lset {its its' : List Value} {n : Nat} {f : Array Value -> Array Value} {t' : Nat} (I : Inv X pins O H s) (hH : H l = some (.lst xs))
  (e : s.heap.get? l = some { cls := .type "list", data := .seq its.toArray n }) (hf : f its.toArray = its'.toArray) (hv : Vals ys its') (hz : ys.length <= sizeLine) :
  Inv X pins O (upd H l (.lst ys)) { s with heap := s.heap.update l (Obj.mapSeq f), toks := t' } := by
 have q := PySem.IsL.update e f;rw [hf] at q;refine I.write (x := l) (e := l) (by rw [hH]; exact trivial) (.inl rfl) (fun b' u hb hu => (Heap.get?_update_other s.heap (Obj.mapSeq f) (Ne.symm hb)).trans hu) ⟨_, q⟩ ?_;exact ⟨hz, its', _, hv, q⟩
theorem Inv.lnew {its : List Value} {t' : Nat} (I : Inv X pins O H s) (hv : Vals ys its) (hz : ys.length <= sizeLine) :
  Inv X pins O (upd H s.heap.objs.size (.lst ys)) { s with heap := s.heap.push { cls := .type "list", data := .seq its.toArray }, toks := t' } :=
 I.laid (fun _ _ q => Heap.get?_push_of_some _ q) (Nat.le_refl _) ⟨hz, its, 0, hv, Heap.get?_push_size _ rfl⟩
theorem Inv.fresh (I : Inv X pins O H s) : H s.heap.objs.size = none := I.hok.fresh (Nat.le_refl _)
theorem Inv.lstM (I : Inv X pins O H s) (hH : H l = some (.lst xs)) : xs.length <= sizeLine /\ ∃ (its : List Value) (n : Nat), Vals xs its /\ xs.length = its.length /\ s.heap.get? l = some { cls := .type "list", data := .seq its.toArray n } := by
 obtain ⟨z, its, n, r, e⟩ := I.hok l _ hH;exact ⟨z, its, n, r, r.length, e⟩
theorem notLongL {n : Nat} (h : n <= sizeLine) : Builtin.List.listTooLong n = false := by
 unfold Builtin.List.listTooLong;exact decide_eq_false oM
end
section
variable {X : Cx}
noncomputable def rAppend : V -> List V -> Hp -> VK -> Prop := fun x vs H Q => ∃ l xs y, x = .ref l /\ vs = [y] /\ H l = some (.lst xs) /\ xs.length < sizeLine /\ Q .non (upd H l (.lst (xs ++ [y])))
theorem mt_append : MtM X "list.append" rAppend := by
 intro pins s O H x vs v us Q I rx rv h;obtain ⟨l, xs, y, rfl, rfl, hH, hz, q⟩ := h;cases rx;obtain ⟨u, rfl, ru⟩ := rv.one;obtain ⟨z, its, n, r, hl, e⟩ := I.lstM hH;refine call_meets F.slot_list_append ⟨_, e, rfl⟩ F.entry_list_append (F.args_list_append_2 _ _) (PySem.list_append l its.toArray n u (by rw [List.size_toArray]; omega)) ⟨e, ?_⟩;refine ⟨.non, _, I.lset (its' := its ++ [u]) hH e (by simp) (r.append (.cons ru .nil)) ?_, rfl, q⟩;rw [List.length_append, List.length_singleton];omega
noncomputable def rExtend : V -> List V -> Hp -> VK -> Prop := fun x vs H Q => ∃ l b xs zs, x = .ref l /\ vs = [.ref b] /\ H l = some (.lst xs) /\ H b = some (.lst zs) /\ xs.length + zs.length <= sizeLine /\ Q .non (upd H l (.lst (xs ++ zs)))
theorem mt_extend : MtM X "list.extend" rExtend := by
 intro pins s O H x vs v us Q I rx rv h;obtain ⟨l, b, xs, zs, rfl, rfl, hH, hB, hz, q⟩ := h;cases rx;obtain ⟨u, rfl, ru⟩ := rv.one;cases ru;obtain ⟨z, its, n, r, hl, e⟩ := I.lstM hH;obtain ⟨z2, its2, n2, r2, hl2, e2⟩ := I.lstM hB;have hsz : its.toArray.size + its2.toArray.size <= sizeLine := by rw [List.size_toArray, List.size_toArray]; omega
 have hlong : ¬ (!its.toArray.isEmpty && Builtin.List.listTooLong (its.toArray.size + its2.toArray.size)) = true := by
  rw [notLongL hsz, Bool.and_false];exact Bool.false_ne_true
 refine call_meets F.slot_list_extend ⟨_, e, rfl⟩ F.entry_list_extend (F.args_list_extend_2 _ _)
  (AutoSeq1.list_extend_list_list_0 l its.toArray n b its2.toArray n2 hlong (by rw [List.size_toArray]; omega) oM) ⟨e, e2, ?_⟩
 refine ⟨.non, _, I.lset (its' := its ++ its2) hH e (by simp) (r.append r2) ?_, rfl, q⟩;rw [List.length_append];omega
noncomputable def rPopAt : V -> List V -> Hp -> VK -> Prop := fun x vs H Q => ∃ l xs i k y, x = .ref l /\ vs = [.int i] /\ H l = some (.lst xs) /\ -(2 ^ 63) <= i /\ i < 2 ^ 63 /\ seqIndex? i xs.length = some k /\ xs[k]? = some y /\ Q y (upd H l (.lst (xs.eraseIdx k)))
theorem mt_popAt : MtM X "list.pop" rPopAt := by
 intro pins s O H x vs v us Q I rx rv h;obtain ⟨l, xs, i, k, y, rfl, rfl, hH, h1, h2, hk, hy, q⟩ := h;cases rx;obtain ⟨u, rfl, ru⟩ := rv.one;obtain ⟨t, rfl⟩ := ru;obtain ⟨z, its, n, r, hl, e⟩ := I.lstM hH;obtain ⟨w, hw, rw'⟩ := r.get hy;refine call_meets F.slot_list_pop ⟨_, e, rfl⟩ F.entry_list_pop (F.args_list_pop_2 _ _)
  (MeetsSeq.list_pop_at l its.toArray n i t k w (fitsIndex_both h1 h2) (by rw [List.size_toArray, <- hl]; exact hk) (by rw [<- Array.getElem?_toList]; exact hw) (by rw [List.size_toArray]; omega)) ⟨e, ?_⟩
 refine ⟨y, _, I.lset (its' := its.eraseIdx k) hH e ?_ (r.eraseIdx k) ?_, rw', q⟩
 ·show its.toArray.eraseIdxIfInBounds k = (its.eraseIdx k).toArray
  rw [List.eraseIdxIfInBounds_toArray]
 ·have := len_erase xs k
  omega
noncomputable def rCat : R2 := fun x y H Q => ∃ l b xs zs, x = .ref l /\ y = .ref b /\ H l = some (.lst xs) /\ H b = some (.lst zs) /\ xs.length + zs.length <= sizeLine /\ ∀ p, H p = none -> Q (.ref p) (upd H p (.lst (xs ++ zs)))
theorem op_cat : OpR X (binaryOp .Add) rCat := by
 intro pins s O H x y v u Q I rx ry h;obtain ⟨l, b, xs, zs, rfl, rfl, hH, hB, hz, q⟩ := h;cases rx;cases ry;obtain ⟨z, its, n, r, hl, e⟩ := I.lstM hH;obtain ⟨z2, its2, n2, r2, hl2, e2⟩ := I.lstM hB;refine PySem.P.add_list e e2 ?_ (by rw [List.size_toArray, List.size_toArray]; omega);have ea : its.toArray ++ its2.toArray = (its ++ its2).toArray := by simp
 rw [ea];exact ⟨.ref _, _, I.lnew (t' := s.toks) (r.append r2) (by rw [List.length_append]; omega), rfl, q _ I.fresh⟩
noncomputable def rRep : R2 := fun x y H Q => ∃ l k xs, x = .ref l /\ y = .int k /\ H l = some (.lst xs) /\ -(2 ^ 63) <= k /\ k < 2 ^ 63 /\ xs.length * k.toNat <= sizeLine /\
 ∀ p, H p = none -> Q (.ref p) (upd H p (.lst (List.replicate k.toNat xs).flatten))
theorem len_rep {α : Type} (xs : List α) (k : Nat) : (List.replicate k xs).flatten.length = k * xs.length := by
 induction k with
 | zero => simp
 | succ k ih => rw [List.replicate_succ, List.flatten_cons, List.length_append, ih, Nat.succ_mul, Nat.add_comm]
theorem op_rep : OpR X (binaryOp .Mult) rRep := by
 intro pins s O H x y v u Q I rx ry h;obtain ⟨l, k, xs, rfl, rfl, hH, h1, h2, hz, q⟩ := h;cases rx;obtain ⟨t, rfl⟩ := ry;obtain ⟨z, its, n, r, hl, e⟩ := I.lstM hH;have hlen : its.toArray.size * k.toNat <= sizeLine := by rw [List.size_toArray, <- hl]; exact hz
 have hcap : ¬ its.toArray.size * k.toNat > (2 ^ 63 - 1) / 8 := by
  have : (sizeLine : Nat) <= (2 ^ 63 - 1) / 8 := by decide
  omega
 have hfit : ¬ (!Builtin.List.listFitsIndex k) = true := by
  rw [fitsIndex_both h1 h2];exact Bool.false_ne_true
 have hlong : ¬ Builtin.List.listTooLong (its.toArray.size * k.toNat) = true := by
  rw [notLongL hlen];exact Bool.false_ne_true
 have hnew : List.foldl (fun x1 x2 => x1 ++ x2) #[] (List.replicate (if its.toArray.isEmpty = true then 0 else k.toNat) its.toArray) = (List.replicate k.toNat its).flatten.toArray := by
  have f0 : ∀ m : Nat, List.foldl (fun x1 x2 => x1 ++ x2) #[] (List.replicate m its.toArray) = (List.replicate m its).flatten.toArray := fun m => by
   have := foldl_rep its m []
   rw [List.nil_append] at this;exact this
  rw [f0];cases its with
  | nil => simp
  | cons a r' => rw [if_neg (by simp)]
 refine wpAny_binaryOp_repeat_ref (T := "list") (U := "int") dC ⟨_, e, rfl⟩ (fun s' => typeIs_int s' k t) noFill_list_mul F.fills_int_mul F.slot_int_rmul repeat_list F.slot_int_index.lookup
  (call_meets F.slot_int_rmul (typeIs_int s k t) F.entry_int_rmul (F.args_int_rmul_2 _ _) (int___rmul___int_list k t l its.toArray n)
   ⟨e, rfl, ⟨_, e, rfl⟩, call_meets F.slot_list_mul ⟨_, e, rfl⟩ F.entry_list_mul (F.args_list_mul_2 _ _) (AutoListH.list___mul___list_int_3 l its.toArray n k t hfit hcap hlong) ⟨e, ?_⟩⟩)
 rw [hnew];exact ⟨.ref _, _, I.lnew (t' := s.toks) (r.rep k.toNat) (by rw [len_rep, Nat.mul_comm]; exact hz), rfl, q _ I.fresh⟩
end
section
variable {prog : Program} {w : World} {A : Around} {E : Value -> Shared -> Prop} {s : Shared}
end
section
variable {X : Cx}
end
end L2
namespace Att
open PySem PySem.W PySem.Calls PyProof.Rows
theorem ints_of_wellAll {P : Params} {h : Heap} : ∀ (ns : List Int) (vs : List Value), WellAll P h vs (ns.map WData.int) -> IntsAre vs ns := by
 intro ns
 induction ns with
 | nil =>
  intro vs w;rw [List.map_nil] at w;cases w;exact .nil
 | cons n ns ih =>
  intro vs w;rw [List.map_cons] at w;cases w with
  | cons a b =>
   cases a;exact .cons _ _ (ih _ b)
theorem script_of {l : OpenLaw} {n : Nat} (hn : l.most = some n) {P : Params} {h : Heap} {args : List WData} {vals : List Value}
  (hpre : l.row.toRowW.claim.pre args = true) (hwl : WellAll P h vals args) :
  ∃ a vs ns, vals = [Value.ref a] /\ args = [WData.list (ns.map WData.int)] /\ h.get? a = some { cls := .type "list", data := .seq vs.toArray } /\ IntsAre vs ns /\ ns.length <= n := by
 have hsh : WShape.hasAll [] args [.list .int] = true := (pre_splitW hpre).1;have hc : l.pre.holds [] { args := args } = true := (pre_splitW hpre).2;obtain ⟨d, r, rfl, h1, h2⟩ := hasAllW_cons hsh;obtain rfl := hasAllW_nil h2;obtain ⟨xs, rfl, h3⟩ := hasW_list h1;obtain ⟨ns, rfl⟩ := items_int h3;have hlen : ns.length <= n := by
  unfold OpenLaw.pre at hc;have h4 : (WTm.not (.lt (.lit (.int (n : Int))) (.len (.arg 0)))).holds [] { args := [.list (ns.map .int)] } = true := by
   have h4 := (holds_andW hc).1;rw [hn] at h4;exact h4
  have h5 := condW_of h4 (w_not (w_lt w_lit (w_len_list (w_arg rfl))));rw [List.length_map] at h5;refine Nat.le_of_not_lt fun q => ?_
  have q' : (n : Int) < ((ns.length : Nat) : Int) := by omega
  first
   | (rw [decide_eq_true q'] at h5; exact absurd h5 dC)
   | (simp at h5; omega)
 cases hwl with
 | cons w1 w2 =>
  cases w2;cases w1 with
  | list ho hall => exact ⟨_, _, ns, rfl, rfl, ho, ints_of_wellAll ns _ hall, hlen⟩
theorem post_true (l : OpenLaw) (args : List WData) : l.row.toRowW.claim.post args (.bool true) args = true :=
 postW_of (r := l.row.toRowW) (X := (true == true))
  (show WShape.has [] (.bool true) .bool = true by first | rfl | decide | simp [WShape.has, WShape.arms, WShape.armsAll])
  (show (WTm.eq .res (.lit (.bool true))).value [] { args := args, res := some (.bool true), after := args } = some (.bool (true == true)) from w_eq_bool (w_res rfl) w_lit) rfl
theorem attach_call {l : OpenLaw} {n : Nat} {q : Program} {loose : List Str} {XP : (Str -> Option Value) -> Heap -> Prop} {YP : World -> Heap -> Prop} {d : DefRec}
  (hn : l.most = some n) (hdf : d.params.defaults = [])
  (call : ∀ (w : World) (s₀ s₁ : Shared) (mg mb : Str -> Option Value) (fa : Addr) (o : Obj) (pm cd doc : Value) (a : Addr) (vs : List Value) (ns : List Int),
   Ground q loose [] XP w s₀ mg mb s₁.heap -> YP w s₁.heap ->
   s₁.heap.get? fa = some o -> o.data = .func (docDef d.name d.params d.body d.scope pm cd doc) -> s₁.heap.CodeRec cd d.name -> mg d.name = some (.ref fa) ->
   s₁.heap.get? a = some { cls := .type "list", data := .seq vs.toArray } -> IntsAre vs ns -> ns.length <= n -> s₁.gens = #[] ->
   codeAny (model l.prog w) callerA (.call (.ref fa) ⟨[.ref a], []⟩) (fun r s' => r = .ok (.ret (.bool true)) /\ OldK s₁.heap s'.heap /\ s'.os = s₁.os /\ AllBare s'.gens) s₁) :
  WalkO q loose XP YP l.row.toRowW d [] (fun f vs => PySem.call f vs) := by
 intro w s₀ s₁ mg mb G Y fa o pm cd doc dV kV ho hd hcd hD hmg hg args vals as hpre hlay hrd hwl hlo;obtain rfl : dV = .none := Dflts.none hD hdf;obtain rfl : kV = .none := Dflts.noKw hD;obtain ⟨a, vs, ns, rfl, rfl, hobj, hints, hlen⟩ := script_of hn hpre hwl;refine enter_call (codeAny_mono (call w s₀ s₁ mg mb fa o pm cd doc a vs ns G Y ho (fd_plain hd) hcd hmg hobj hints hlen hg) fun r s' hq => ?_);obtain ⟨rfl, h2, h3, h4⟩ := hq;exact ⟨.inl ⟨.bool true, .bool true, [], rfl, fun _ => rfl, .bool true, post_true l _, fun _ => ⟨List.Pairwise.nil, fun _ hm => (nomatch hm)⟩⟩, h2, h3, h4⟩
section
variable {prog : Program} {w : World} {A : Around} {E : Value -> Shared -> Prop} {s : Shared} {K : Frag}
end
end Att
namespace L2
open PySem PySem.Spec PyProof.Rows
theorem vals_ints : ∀ {vs : List Value} {ns : List Int}, IntsAre vs ns -> Vals (ns.map V.int) vs := by
 intro vs ns h
 induction h with
 | nil => exact .nil
 | cons n t h ih => exact .cons ⟨t, rfl⟩ ih
noncomputable def Only (H : Hp) : Prop := ∀ b, H b = none \/ ∃ o xs, H b = some (.frz o (.lst xs))
theorem law_call {P : Program} {w : World} {K : PySem.W.Frag} {mg mb : Str -> Option Value} {CX : CXT} {k : Nat} {fa a : Addr} {fd : FuncData} {x : Str} {sp : Sp} {s₁ : Shared} {vs : List Value} {ns : List Int}
  (KX : K.In s₁.heap) (hns : s₁.heap.Ns mainGlobals mg) (hb : s₁.heap.Ns builtinsNs mb) (hbb : ∀ x : Str, x ≠ "__name__" -> mb x = bootBuiltins x) (hlim : s₁.heap.NoLimit) (hg : s₁.gens = #[])
  (ha : s₁.heap.get? a = some { cls := .type "list", data := .seq vs.toArray }) (hi : IntsAre vs ns) (hl : ns.length <= sizeLine) (hr : Room k callerA)
  (F : ∀ base : Heap, K.In base -> base.Ns mainGlobals mg -> FnOk P w K mg base CX k fa fd [x] sp) (hbind : ∀ (s : Shared) (u : Value), BindsTo s fd ⟨[u], []⟩ [(x, u)])
  (hsp : ∀ H : Hp, Only H -> SqL K H a (ns.map V.int) -> sp [.ref a] H (fun v _ => v = .bl true) fun _ _ _ => False)
  (hCX : ∀ H e s', CX [] H s₁ (fun _ _ _ => False) e s' -> False) :
  codeAny (model P w) callerA (.call (.ref fa) ⟨[.ref a], []⟩) (fun r s' => r = .ok (.ret (.bool true)) /\ OldK s₁.heap s'.heap /\ s'.os = s₁.os /\ AllBare s'.gens) s₁ := by
 have rv := vals_ints hi;have lenV := hi.length
 -- from an abstract heap in which nothing but the script may be tracked
 have core : ∀ H : Hp, Only H -> SqL K H a (ns.map V.int) -> HOk P w H s₁.heap -> (∀ b, H b ≠ none -> b = a) -> (H a ≠ none -> K.lookup a = none) ->
   codeAny (model P w) callerA (.call (.ref fa) ⟨[.ref a], []⟩) (fun r s' => r = .ok (.ret (.bool true)) /\ OldK s₁.heap s'.heap /\ s'.os = s₁.os /\ AllBare s'.gens) s₁ := by
  intro H hO hS hok hA hK;have base_of : ∀ {b : Addr} {o : Obj}, s₁.heap.get? b = some o -> H b = none -> (hidT s₁.heap H).get? b = some o := fun e n => hidT_get e n
  have noA : ∀ {b : Addr} {o : Obj} {es : Array DictEntry} {ep : Nat}, s₁.heap.get? b = some o -> o.data = .dict es ep -> H b = none := fun {b o es ep} e d => by
   cases q : H b with
   | none => rfl
   | some u =>
    have e' : b = a := hA b (by rw [q]; simp);subst e';rw [ha] at e; cases e;have d' : Data.seq vs.toArray _ = Data.dict es ep := d;cases d'
  have nsK : ∀ {b : Addr} {m : Str -> Option Value}, s₁.heap.Ns b m -> (hidT s₁.heap H).Ns b m := fun {b m} ⟨o, es, ep, e, d, r⟩ => ⟨o, es, ep, base_of e (noA e d), d, r⟩
  have hKb : K.In (hidT s₁.heap H) := fun b o e => base_of (KX b o e) (by
   cases q : H b with
   | none => rfl
   | some u =>
    have e' : b = a := hA b (by rw [q]; simp);subst e';rw [hK (by rw [q]; simp)] at e; cases e)
  have hM : Mod K mg (hidT s₁.heap H) := ⟨hKb, nsK hns, ⟨mb, nsK hb, hbb⟩, let ⟨mc, h1, h2⟩ := hlim; ⟨mc, nsK h1, h2⟩⟩;have e0 : Env0 P w K mg (hidT s₁.heap H) callerA [] s₁ H := ⟨rfl, hM, fun b o e => of_hidT e, Nat.le_of_eq (hidT_size _ _), trivial, fun b hb => absurd (show b ∈ ([] : List Addr) from hb) (by simp), hok, .of_eq hg⟩;refine codeAny_mono ((F _ hKb (nsK hns)).run callerA [] s₁ H ⟨[.ref a], []⟩ [.ref a] [.ref a] _ _ hr e0 (hbind s₁ (.ref a)) (.cons rfl .nil) (hsp H hO hS)) fun r s' h => ?_
  cases r with
  | error e => exact (hCX H e s' h).elim
  | ok fl =>
   cases fl with
   | next => exact False.elim h
   | brk => exact False.elim h
   | cont => exact False.elim h
   | ret u =>
    obtain ⟨v, H', os, bare, un, hok', r', q⟩ := h;have q' : v = .bl true := q;subst q';obtain rfl : u = Value.bool true := r';refine ⟨rfl, OldK.of_keep fun b o e => ?_, os, bare⟩;cases q : H b with
    | none => exact un.keep b o e q (by intro z; exact absurd (show b ∈ ([] : List Addr) from z) (by simp)) (by simp)
    | some u =>
     rcases hO b with z | ⟨ob, xs, z⟩
     ·rw [q] at z; cases z
     ·have z2 := un.frzs b ob _ z
      obtain ⟨e1, _⟩ := hok b _ z;obtain ⟨e2, _⟩ := hok' b _ z2;rw [e] at e1; cases e1;exact e2
 cases hk : K.lookup a with
 | some o =>
  -- the script is one of the module's own objects
  have e := KX a o hk;rw [ha] at e;cases e;refine core (fun _ => none) (fun _ => .inl rfl) (.inr ⟨_, vs.toArray, _, hk, rfl, rfl, rfl, by rw [List.size_toArray, lenV]; exact hl, by simpa using rv⟩) (fun b u z => by have z' : (none : Option HO) = some u := z; cases z') (fun b z => absurd rfl z) fun z => absurd rfl z
 | none =>
  refine core (fun b => if b = a then some (.frz { cls := .type "list", data := .seq vs.toArray } (.lst (ns.map V.int))) else none) (fun b => ?_) (.inl (.inr ⟨{ cls := .type "list", data := .seq vs.toArray }, if_pos rfl⟩)) (fun b u z => ?_) (fun b z => ?_) fun _ => hk
  ·by_cases hb : b = a
   ·exact .inr ⟨_, _, if_pos hb⟩
   ·exact .inl (if_neg hb)
  ·by_cases hb : b = a
   ·have z' := (if_pos hb).symm.trans z
    cases z';subst hb;exact ⟨ha, by rw [List.length_map]; exact hl, vs, _, rv, ha⟩
   ·have z' := (if_neg hb).symm.trans z
    cases z'
  ·by_cases hb : b = a
   ·exact hb
   ·exact absurd (if_neg hb) z
noncomputable abbrev KOf {K : PySem.W.Frag} {h : Heap} (_ : K.In h) : PySem.W.Frag := K
theorem walk_of {l : PySem.W.OpenLaw} {n k : Nat} {q : Program} {loose : List Str} {XP : (Str -> Option Value) -> Heap -> Prop} {YP : World -> Heap -> Prop} {d : DefRec} {K : Params -> PySem.W.Frag} {CX : World -> CXT} {sp : World -> Sp} {x : Str}
  (hn : l.most = some n) (hn2 : n <= sizeLine) (hdf : d.params.defaults = []) (hr : Room k callerA)
  (hY : ∀ (w : World) (h : Heap), YP w h -> (K w.params).In h)
  (F : ∀ (w : World) (mg : Str -> Option Value) (fa : Addr) (h : Heap), (K w.params).In h -> h.Ns mainGlobals mg -> mg d.name = some (.ref fa) ->
   ∃ fd : FuncData, (∀ (s : Shared) (u : Value), BindsTo s fd ⟨[u], []⟩ [(x, u)]) /\
    ∀ base : Heap, (K w.params).In base -> base.Ns mainGlobals mg -> FnOk l.prog w (K w.params) mg base (CX w) k fa fd [x] (sp w))
  (hsp : ∀ (w : World) (H : Hp) (a : Addr) (ns : List Int), ns.length <= n -> Only H -> SqL (K w.params) H a (ns.map V.int) -> sp w [.ref a] H (fun v _ => v = .bl true) fun _ _ _ => False)
  (hCX : ∀ (w : World) (H : Hp) (s : Shared) (e : Value) (s' : Shared), CX w [] H s (fun _ _ _ => False) e s' -> False) :
  PySem.W.WalkO q loose XP YP l.row.toRowW d [] (fun f vs => PySem.call f vs) := by
 refine Att.attach_call hn hdf fun w s₀ s₁ mg mb fa o pm cd doc a vs ns G Y ho hd hcd hmg hobj hints hlen hg => ?_
 have KX := hY w _ Y;obtain ⟨fd, hb, hF⟩ := F w mg fa _ KX G.T.g hmg;exact law_call KX G.T.g G.T.b G.T.builtins G.T.nolimit hg hobj hints (Nat.le_trans hlen hn2) hr hF hb (fun H hO hS => hsp w H a ns hlen hO hS) fun H e s' => hCX w H s₁ e s'
noncomputable def defArgs (s : Stmt) : Arguments := match s with
 | .FunctionDef _ a _ _ _ _ _ _ _ _ => a
 | _ => { posonlyargs := [], args := [], vararg := none, kwonlyargs := [], kw_defaults := [], kwarg := none, defaults := [] }
noncomputable def defBody (s : Stmt) : List Stmt := match s with
 | .FunctionDef _ _ b _ _ _ _ _ _ _ => b
 | _ => []
noncomputable def defScope (s : Stmt) : Scope := match s with
 | .FunctionDef _ _ _ _ _ _ sc _ _ _ => sc
 | _ => { kind := .function, names := [], isGenerator := false, isCoroutine := false }
noncomputable abbrev CX0 : CXT := fun _ _ _ _ _ _ => False
noncomputable abbrev E0 : XK := fun _ _ _ => False
theorem pass0 {X : Cx} : Passes CX0 X E0 := fun _ _ _ _ _ _ _ h => h.elim
structure Fun (K : PySem.W.Frag) (x qual : Str) (st : Stmt) (f : Addr) (fd : FuncData) : Prop where
 ex : ∃ (oc : Value) (od : Option Addr) (kV doc pm : Value) (an : Option Addr) (cdv ct : Value) (osl : Array (Option Value)),
  fd = fnOf x qual (defArgs st) (defBody st) (defScope st) .none kV doc pm an cdv ct /\ K.lookup f = some ⟨oc, od, .func fd, osl⟩ /\ codeIn K cdv qual = true
 kp : keepIn K (.ref f) = true
section
variable {P : Program} {w : World} {K : PySem.W.Frag} {mg : Str -> Option Value} {base : Heap}
theorem Fun.ok {x qual : Str} {st : Stmt} {f : Addr} {fd : FuncData} {N ps : List Str} {k : Nat} {sp : Sp} (F : Fun K x qual st f fd) (S : FnScope N ps (defScope st)) (len : ∀ vs H Q E, sp vs H Q E -> vs.length = ps.length)
  (hbody : ∀ (cdv : Value) (A : Around) (outer : List Env) (s : Shared) (H : Hp) (vs : List V) (Q : VK) (E : XK), Room k (A.deeper (envOfC qual (defScope st) s.heap.objs.size f cdv)) -> sp vs H Q E ->
   ∃ t, PSs (cxOf CX0 P w K mg base N qual (defScope st) f cdv A outer s H E).nox (defBody st) t /\ t { nx := fun _ H' => Q .non H', rt := Q } (start N vs) H) : FnOk P w K mg base CX0 (k + 1) f fd ps sp := by
 obtain ⟨oc, od, kV, doc, pm, an, cdv, ct, osl, rfl, lk, hcd⟩ := F.ex;refine fn_of lk hcd S len fun A outer s H vs Q E hr hsp => ?_
 obtain ⟨t, h, q⟩ := hbody cdv A outer s H vs Q E hr hsp;exact ⟨t, h.nox, q⟩
theorem Fun.binds {x qual : Str} {st : Stmt} {f : Addr} {fd : FuncData} {ps : List Str} (F : Fun K x qual st f fd)
  (h : ∀ (kV doc pm : Value) (an : Option Addr) (cdv ct : Value) (us : List Value), us.length = ps.length -> bindArgs (fnOf x qual (defArgs st) (defBody st) (defScope st) .none kV doc pm an cdv ct) ⟨us, []⟩ = pure (ps.zip us)) : Binds K fd ps [] := by
 obtain ⟨oc, od, kV, doc, pm, an, cdv, ct, osl, rfl, lk, hcd⟩ := F.ex;exact .all (h kV doc pm an cdv ct)
theorem fun_mk {x qual : Str} {st : Stmt} {f : Addr} {oc : Value} {od an : Option Addr} {osl : Array (Option Value)} {kV doc pm cdv ct : Value} (l : K.lookup f = some ⟨oc, od, .func (fnOf x qual (defArgs st) (defBody st) (defScope st) .none kV doc pm an cdv ct), osl⟩)
  (c : codeIn K cdv qual = true) (k : keepIn K (.ref f) = true) : Fun K x qual st f (fnOf x qual (defArgs st) (defBody st) (defScope st) .none kV doc pm an cdv ct) := ⟨⟨oc, od, kV, doc, pm, an, cdv, ct, osl, rfl, l, c⟩, k⟩
end
theorem small1000 {n : Nat} (h : n <= 1000) : n < sizeLine := Nat.lt_of_le_of_lt h dC
section
variable {X : Cx}
end
end L2
set_option maxHeartbeats 4000000
namespace DD
open PySem L2
noncomputable def NT : HO -> Prop
 | .tup _ => False
 | _ => True
inductive D where
 | hole | cell | node (a : Addr) (vs : List V) | pin (a : Addr) (o : {o : HO // NT o})
 | non | bl (b : Bool) | int (i : Int) | str (x : Str) | ty (n : String) | cls (a : Addr)
 | lst (own : Bool) (xs : List D)
 | tup (xs : List D)
 | obj (own : Bool) (C : Addr) (ks : List Str) (xs : List D)
 | dct (own : Bool) (ks : List (List Key)) (xs : List D)
noncomputable def FL (K : PySem.W.Frag) (F : Addr -> Prop) (H : Hp) (a : Addr) (vs : List V) : Prop := (F a /\ Rd H a (.lst vs)) \/ ∀ H', SqL K H' a vs
noncomputable def FT (K : PySem.W.Frag) (F : Addr -> Prop) (H : Hp) (a : Addr) (vs : List V) (L : List Addr) : Prop := (F a /\ H a = some (.tup vs)) \/ ((∀ H' : Hp, False) /\ L = [])
mutual
noncomputable def Ow (K : PySem.W.Frag) (F : Addr -> Prop) (H : Hp) : D -> V -> List Addr -> Prop
 | .hole, _, L => L = []
 | .cell, v, L => ∃ (a : Addr) (o : {o : HO // NT o}), v = .ref a /\ H a = some o.1 /\ L = [a]
 | .node a vs, v, L => v = .ref a /\ H a = some (.lst vs) /\ L = [a]
 | .pin a o, v, L => v = .ref a /\ H a = some o.1 /\ L = [a]
 | .non, v, L => v = .non /\ L = []
 | .bl b, v, L => v = .bl b /\ L = []
 | .int i, v, L => v = .int i /\ L = []
 | .str x, v, L => v = .str x /\ L = []
 | .ty x, v, L => v = .ty x /\ L = []
 | .cls x, v, L => v = .ref x /\ L = []
 | .lst true xs, v, L => ∃ a vs L', v = .ref a /\ H a = some (.lst vs) /\ OwL K F H xs vs L' /\ L = a :: L'
 | .lst false xs, v, L => ∃ a vs, v = .ref a /\ FL K F H a vs /\ OwL K F H xs vs [] /\ L = []
 | .tup xs, v, L => ∃ a vs, v = .ref a /\ FT K F H a vs L /\ OwL K F H xs vs L
 | .obj true C ks xs, v, L => ∃ a dx vs L', v = .ref a /\ H a = some (.ins C dx (ks.zip vs)) /\ ks.length = vs.length /\ OwL K F H xs vs L' /\ L = a :: L'
 | .obj false C ks xs, v, L => ∃ a dx vs, v = .ref a /\ H a = some (.ins C dx (ks.zip vs)) /\ F a /\ ks.length = vs.length /\ OwL K F H xs vs [] /\ L = []
 | .dct true ks xs, v, L => ∃ a vs L', v = .ref a /\ H a = some (.dT (ks.zip vs)) /\ ks.length = vs.length /\ OwL K F H xs vs L' /\ L = a :: L'
 | .dct false ks xs, v, L => ∃ a vs, v = .ref a /\ H a = some (.dT (ks.zip vs)) /\ F a /\ ks.length = vs.length /\ OwL K F H xs vs [] /\ L = []
noncomputable def OwL (K : PySem.W.Frag) (F : Addr -> Prop) (H : Hp) : List D -> List V -> List Addr -> Prop
 | [], vs, L => vs = [] /\ L = []
 | x :: xs, vs, L => ∃ v ws L1 L2, vs = v :: ws /\ Ow K F H x v L1 /\ OwL K F H xs ws L2 /\ L = L1 ++ L2
end
mutual
noncomputable def D.fz : D -> D
 | .lst _ xs => .lst false (D.fzL xs)
 | .tup xs => .tup (D.fzL xs)
 | .obj _ C ks xs => .obj false C ks (D.fzL xs)
 | .dct _ ks xs => .dct false ks (D.fzL xs)
 | .cell => .hole
 | .node _ _ => .hole
 | .pin _ _ => .hole
 | d => d
noncomputable def D.fzL : List D -> List D
 | [] => []
 | x :: xs => D.fz x :: D.fzL xs
end
section
variable {K : PySem.W.Frag} {F F' : Addr -> Prop} {H H' : Hp}
mutual
theorem Ow.dom : ∀ {d : D} {v : V} {L : List Addr}, Ow K F H d v L -> ∀ a ∈ L, ∃ o, H a = some o
 | .hole, _, _, h, a, ha => by simp only [Ow] at h; subst h; cases ha
 | .cell, _, _, h, a, ha => by simp only [Ow] at h; obtain ⟨b, o, rfl, e, rfl⟩ := h; rw [List.mem_singleton.mp ha]; exact ⟨o, e⟩
 | .node _ _, _, _, h, a, ha => by simp only [Ow] at h; obtain ⟨rfl, e, rfl⟩ := h; rw [List.mem_singleton.mp ha]; exact ⟨_, e⟩
 | .pin _ _, _, _, h, a, ha => by simp only [Ow] at h; obtain ⟨rfl, e, rfl⟩ := h; rw [List.mem_singleton.mp ha]; exact ⟨_, e⟩
 | .non, _, _, h, a, ha => by simp only [Ow] at h; rw [h.2] at ha; cases ha
 | .bl _, _, _, h, a, ha => by simp only [Ow] at h; rw [h.2] at ha; cases ha
 | .int _, _, _, h, a, ha => by simp only [Ow] at h; rw [h.2] at ha; cases ha
 | .str _, _, _, h, a, ha => by simp only [Ow] at h; rw [h.2] at ha; cases ha
 | .ty _, _, _, h, a, ha => by simp only [Ow] at h; rw [h.2] at ha; cases ha
 | .cls _, _, _, h, a, ha => by simp only [Ow] at h; rw [h.2] at ha; cases ha
 | .lst true xs, _, _, h, a, ha => by
  simp only [Ow] at h;obtain ⟨b, vs, L', rfl, e, r, rfl⟩ := h;rcases List.mem_cons.mp ha with rfl | ha
  ·exact ⟨_, e⟩
  ·exact OwL.dom r a ha
 | .lst false xs, _, _, h, a, ha => by simp only [Ow] at h; obtain ⟨_, _, _, _, _, rfl⟩ := h; cases ha
 | .tup xs, _, _, h, a, ha => by simp only [Ow] at h; obtain ⟨_, _, _, _, r⟩ := h; exact OwL.dom r a ha
 | .obj true C ks xs, _, _, h, a, ha => by
  simp only [Ow] at h;obtain ⟨b, dx, vs, L', rfl, e, _, r, rfl⟩ := h;rcases List.mem_cons.mp ha with rfl | ha
  ·exact ⟨_, e⟩
  ·exact OwL.dom r a ha
 | .obj false C ks xs, _, _, h, a, ha => by simp only [Ow] at h; obtain ⟨_, _, _, _, _, _, _, _, rfl⟩ := h; cases ha
 | .dct true ks xs, _, _, h, a, ha => by
  simp only [Ow] at h;obtain ⟨b, vs, L', rfl, e, _, r, rfl⟩ := h;rcases List.mem_cons.mp ha with rfl | ha
  ·exact ⟨_, e⟩
  ·exact OwL.dom r a ha
 | .dct false ks xs, _, _, h, a, ha => by simp only [Ow] at h; obtain ⟨_, _, _, _, _, _, _, rfl⟩ := h; cases ha
theorem OwL.dom : ∀ {xs : List D} {vs : List V} {L : List Addr}, OwL K F H xs vs L -> ∀ a ∈ L, ∃ o, H a = some o
 | [], _, _, h, a, ha => by simp only [OwL] at h; rw [h.2] at ha; cases ha
 | x :: xs, _, _, h, a, ha => by
  simp only [OwL] at h;obtain ⟨v, ws, L1, L2, rfl, h1, h2, rfl⟩ := h;rcases List.mem_append.mp ha with ha | ha
  ·exact Ow.dom h1 a ha
  ·exact OwL.dom h2 a ha
end
noncomputable def Ext (F : Addr -> Prop) (H : Hp) (F' : Addr -> Prop) (H' : Hp) : Prop := ∀ a, F a -> F' a /\ H' a = H a
theorem Ext.refl : Ext F H F H := fun _ h => ⟨h, rfl⟩
theorem Ext.trans {F'' : Addr -> Prop} {H'' : Hp} (a : Ext F H F' H') (b : Ext F' H' F'' H'') : Ext F H F'' H'' := fun x h =>
 ⟨(b x (a x h).1).1, ((b x (a x h).1).2).trans (a x h).2⟩
theorem Rd.eq {a : Addr} {u : HO} (h : Rd H a u) (e : H' a = H a) : Rd H' a u := by
 rcases h with h | ⟨o, h⟩
 ·exact .inl (e.trans h)
 ·exact .inr ⟨o, e.trans h⟩
theorem FL.ext {a : Addr} {vs : List V} (h : FL K F H a vs) (x : Ext F H F' H') : FL K F' H' a vs := by
 rcases h with ⟨f, r⟩ | h
 ·exact .inl ⟨(x a f).1, Rd.eq r (x a f).2⟩
 ·exact .inr h
theorem FT.ext {a : Addr} {vs : List V} {L : List Addr} (h : FT K F H a vs L) (x : Ext F H F' H') : FT K F' H' a vs L := by
 rcases h with ⟨f, r⟩ | h
 ·exact .inl ⟨(x a f).1, (x a f).2.trans r⟩
 ·exact .inr h
theorem FT.nil {a : Addr} {vs : List V} {L : List Addr} (h : FT K F H a vs L) : FT K F H a vs [] := by
 rcases h with h | h
 ·exact .inl h
 ·exact .inr ⟨h.1, rfl⟩
theorem FL.sq {a : Addr} {vs : List V} (h : FL K F H a vs) : SqL K H a vs := by
 rcases h with ⟨_, r⟩ | h
 ·exact .inl r
 ·exact h H
theorem FT.sq {a : Addr} {vs : List V} {L : List Addr} (h : FT K F H a vs L) : SqT K H a vs := by
 rcases h with ⟨_, r⟩ | h
 ·exact .inl (.inl r)
 ·exact (h.1 H).elim
mutual
theorem Ow.mono (x : Ext F H F' H') : ∀ {d : D} {v : V} {L : List Addr}, Ow K F H d v L -> (∀ a ∈ L, H' a = H a) -> Ow K F' H' d v L
 | .hole, _, _, h, _ => by simp only [Ow] at h ⊢; exact h
 | .cell, _, _, h, k => by simp only [Ow] at h ⊢; obtain ⟨b, o, rfl, e, rfl⟩ := h; exact ⟨b, o, rfl, (k b (by simp)).trans e, rfl⟩
 | .node _ _, _, _, h, k => by simp only [Ow] at h ⊢; obtain ⟨rfl, e, rfl⟩ := h; exact ⟨rfl, (k _ (by simp)).trans e, rfl⟩
 | .pin _ _, _, _, h, k => by simp only [Ow] at h ⊢; obtain ⟨rfl, e, rfl⟩ := h; exact ⟨rfl, (k _ (by simp)).trans e, rfl⟩
 | .non, _, _, h, _ => by simp only [Ow] at h ⊢; exact h
 | .bl _, _, _, h, _ => by simp only [Ow] at h ⊢; exact h
 | .int _, _, _, h, _ => by simp only [Ow] at h ⊢; exact h
 | .str _, _, _, h, _ => by simp only [Ow] at h ⊢; exact h
 | .ty _, _, _, h, _ => by simp only [Ow] at h ⊢; exact h
 | .cls _, _, _, h, _ => by simp only [Ow] at h ⊢; exact h
 | .lst true xs, _, _, h, k => by
  simp only [Ow] at h ⊢;obtain ⟨b, vs, L', rfl, e, r, rfl⟩ := h;exact ⟨b, vs, L', rfl, (k b (by simp)).trans e, OwL.mono x r fun a ha => k a (by simp [ha]), rfl⟩
 | .lst false xs, _, _, h, k => by
  simp only [Ow] at h ⊢;obtain ⟨b, vs, rfl, e, r, rfl⟩ := h;exact ⟨b, vs, rfl, e.ext x, OwL.mono x r (fun a ha => by cases ha), rfl⟩
 | .tup xs, _, _, h, k => by
  simp only [Ow] at h ⊢;obtain ⟨b, vs, rfl, e, r⟩ := h;exact ⟨b, vs, rfl, e.ext x, OwL.mono x r k⟩
 | .obj true C ks xs, _, _, h, k => by
  simp only [Ow] at h ⊢;obtain ⟨b, dx, vs, L', rfl, e, el, r, rfl⟩ := h;exact ⟨b, dx, vs, L', rfl, (k b (by simp)).trans e, el, OwL.mono x r fun a ha => k a (by simp [ha]), rfl⟩
 | .obj false C ks xs, _, _, h, k => by
  simp only [Ow] at h ⊢;obtain ⟨b, dx, vs, rfl, e, f, el, r, rfl⟩ := h;exact ⟨b, dx, vs, rfl, (x b f).2.trans e, (x b f).1, el, OwL.mono x r (fun a ha => by cases ha), rfl⟩
 | .dct true ks xs, _, _, h, k => by
  simp only [Ow] at h ⊢;obtain ⟨b, vs, L', rfl, e, el, r, rfl⟩ := h;exact ⟨b, vs, L', rfl, (k b (by simp)).trans e, el, OwL.mono x r fun a ha => k a (by simp [ha]), rfl⟩
 | .dct false ks xs, _, _, h, k => by
  simp only [Ow] at h ⊢;obtain ⟨b, vs, rfl, e, f, el, r, rfl⟩ := h;exact ⟨b, vs, rfl, (x b f).2.trans e, (x b f).1, el, OwL.mono x r (fun a ha => by cases ha), rfl⟩
theorem OwL.mono (x : Ext F H F' H') : ∀ {xs : List D} {vs : List V} {L : List Addr}, OwL K F H xs vs L -> (∀ a ∈ L, H' a = H a) -> OwL K F' H' xs vs L
 | [], _, _, h, _ => by simp only [OwL] at h ⊢; exact h
 | y :: xs, _, _, h, k => by
  simp only [OwL] at h ⊢;obtain ⟨v, ws, L1, L2, rfl, h1, h2, rfl⟩ := h;exact ⟨v, ws, L1, L2, rfl, Ow.mono x h1 fun a ha => k a (by simp [ha]), OwL.mono x h2 fun a ha => k a (by simp [ha]), rfl⟩
end
mutual
theorem Ow.fz (fs : ∀ a, F a -> F' a) : ∀ {d : D} {v : V} {L : List Addr}, Ow K F H d v L -> (∀ a ∈ L, F' a) -> Ow K F' H d.fz v []
 | .hole, _, _, h, _ => by simp only [Ow, D.fz] at h ⊢
 | .cell, _, _, h, k => by simp only [Ow, D.fz] at h ⊢
 | .node _ _, _, _, h, k => by simp only [Ow, D.fz] at h ⊢
 | .pin _ _, _, _, h, k => by simp only [Ow, D.fz] at h ⊢
 | .non, _, _, h, _ => by simp only [Ow, D.fz] at h ⊢; exact ⟨h.1, trivial⟩
 | .bl _, _, _, h, _ => by simp only [Ow, D.fz] at h ⊢; exact ⟨h.1, trivial⟩
 | .int _, _, _, h, _ => by simp only [Ow, D.fz] at h ⊢; exact ⟨h.1, trivial⟩
 | .str _, _, _, h, _ => by simp only [Ow, D.fz] at h ⊢; exact ⟨h.1, trivial⟩
 | .ty _, _, _, h, _ => by simp only [Ow, D.fz] at h ⊢; exact ⟨h.1, trivial⟩
 | .cls _, _, _, h, _ => by simp only [Ow, D.fz] at h ⊢; exact ⟨h.1, trivial⟩
 | .lst true xs, _, _, h, k => by
  simp only [Ow, D.fz] at h ⊢;obtain ⟨b, vs, L', rfl, e, r, rfl⟩ := h;exact ⟨b, vs, rfl, .inl ⟨k b (by simp), .inl e⟩, OwL.fz fs r fun a ha => k a (by simp [ha]), trivial⟩
 | .lst false xs, _, _, h, k => by
  simp only [Ow, D.fz] at h ⊢;obtain ⟨b, vs, rfl, e, r, rfl⟩ := h;exact ⟨b, vs, rfl, e.ext (fun a f => ⟨fs a f, rfl⟩), OwL.fz fs r (fun a ha => by cases ha), trivial⟩
 | .tup xs, _, _, h, k => by
  simp only [Ow, D.fz] at h ⊢;obtain ⟨b, vs, rfl, e, r⟩ := h;exact ⟨b, vs, rfl, (e.ext (fun a f => ⟨fs a f, rfl⟩)).nil, OwL.fz fs r k⟩
 | .obj true C ks xs, _, _, h, k => by
  simp only [Ow, D.fz] at h ⊢;obtain ⟨b, dx, vs, L', rfl, e, el, r, rfl⟩ := h;exact ⟨b, dx, vs, rfl, e, k b (by simp), el, OwL.fz fs r fun a ha => k a (by simp [ha]), trivial⟩
 | .obj false C ks xs, _, _, h, k => by
  simp only [Ow, D.fz] at h ⊢;obtain ⟨b, dx, vs, rfl, e, f, el, r, rfl⟩ := h;exact ⟨b, dx, vs, rfl, e, fs b f, el, OwL.fz fs r (fun a ha => by cases ha), trivial⟩
 | .dct true ks xs, _, _, h, k => by
  simp only [Ow, D.fz] at h ⊢;obtain ⟨b, vs, L', rfl, e, el, r, rfl⟩ := h;exact ⟨b, vs, rfl, e, k b (by simp), el, OwL.fz fs r fun a ha => k a (by simp [ha]), trivial⟩
 | .dct false ks xs, _, _, h, k => by
  simp only [Ow, D.fz] at h ⊢;obtain ⟨b, vs, rfl, e, f, el, r, rfl⟩ := h;exact ⟨b, vs, rfl, e, fs b f, el, OwL.fz fs r (fun a ha => by cases ha), trivial⟩
theorem OwL.fz (fs : ∀ a, F a -> F' a) : ∀ {xs : List D} {vs : List V} {L : List Addr}, OwL K F H xs vs L -> (∀ a ∈ L, F' a) -> OwL K F' H (D.fzL xs) vs []
 | [], _, _, h, _ => by simp only [OwL, D.fzL] at h ⊢; exact ⟨h.1, trivial⟩
 | y :: xs, _, _, h, k => by
  simp only [OwL, D.fzL] at h ⊢;obtain ⟨v, ws, L1, L2, rfl, h1, h2, rfl⟩ := h;exact ⟨v, ws, [], [], rfl, Ow.fz fs h1 fun a ha => k a (by simp [ha]), OwL.fz fs h2 fun a ha => k a (by simp [ha]), rfl⟩
end
noncomputable abbrev Ro := List (D × V)
noncomputable def OwP (K : PySem.W.Frag) (F : Addr -> Prop) (H : Hp) : Ro -> List Addr -> Prop
 | [], L => L = []
 | (d, v) :: R, L => ∃ L1 L2, Ow K F H d v L1 /\ OwP K F H R L2 /\ L = L1 ++ L2
theorem OwP.dom : ∀ {R : Ro} {L : List Addr}, OwP K F H R L -> ∀ a ∈ L, ∃ o, H a = some o
 | [], _, h, a, ha => by cases h; cases ha
 | (d, v) :: R, _, ⟨L1, L2, h1, h2, e⟩, a, ha => by
  subst e;rcases List.mem_append.mp ha with ha | ha
  ·exact h1.dom a ha
  ·exact OwP.dom h2 a ha
theorem OwP.mono (x : Ext F H F' H') : ∀ {R : Ro} {L : List Addr}, OwP K F H R L -> (∀ a ∈ L, H' a = H a) -> OwP K F' H' R L
 | [], _, h, _ => h
 | (d, v) :: R, _, ⟨L1, L2, h1, h2, e⟩, k => ⟨L1, L2, h1.mono x fun a ha => k a (by simp [e, ha]), OwP.mono x h2 fun a ha => k a (by simp [e, ha]), e⟩
theorem OwP.append : ∀ {R S : Ro} {L M : List Addr}, OwP K F H R L -> OwP K F H S M -> OwP K F H (R ++ S) (L ++ M)
 | [], _, _, _, h, k => by cases h; exact k
 | (d, v) :: R, _, _, _, ⟨L1, L2, h1, h2, e⟩, k => ⟨L1, L2 ++ _, h1, OwP.append h2 k, by rw [e, List.append_assoc]⟩
theorem OwP.split : ∀ {R S : Ro} {N : List Addr}, OwP K F H (R ++ S) N -> ∃ L M, N = L ++ M /\ OwP K F H R L /\ OwP K F H S M
 | [], _, N, h => ⟨[], N, rfl, rfl, h⟩
 | (d, v) :: R, _, _, ⟨L1, L2, h1, h2, e⟩ => by
  obtain ⟨L, M, e2, a, b⟩ := OwP.split h2;exact ⟨L1 ++ L, M, by rw [e, e2, List.append_assoc], ⟨L1, L, h1, a, rfl⟩, b⟩
theorem OwP.perm {R S : Ro} (p : R.Perm S) : ∀ {L : List Addr}, OwP K F H R L -> ∃ M, L.Perm M /\ OwP K F H S M := by
 induction p with
 | nil => intro L h; exact ⟨L, .refl _, h⟩
 | cons x _ ih =>
  rintro L ⟨L1, L2, h1, h2, e⟩;obtain ⟨M, pm, h3⟩ := ih h2;subst e;exact ⟨L1 ++ M, pm.append_left L1, L1, M, h1, h3, rfl⟩
 | swap x y l =>
  rintro L ⟨L1, L2, h1, ⟨L3, L4, h3, h4, e2⟩, e⟩;subst e; subst e2;refine ⟨L3 ++ (L1 ++ L4), ?_, L3, L1 ++ L4, h3, ⟨L1, L4, h1, h4, rfl⟩, rfl⟩;rw [<- List.append_assoc, <- List.append_assoc];exact List.perm_append_comm.append_right L4
 | trans _ _ ih1 ih2 =>
  intro L h;obtain ⟨M, p1, h1⟩ := ih1 h;obtain ⟨N, p2, h2⟩ := ih2 h1;exact ⟨N, p1.trans p2, h2⟩
theorem OwL.toP : ∀ {xs : List D} {vs : List V} {L : List Addr}, OwL K F H xs vs L -> xs.length = vs.length /\ OwP K F H (xs.zip vs) L
 | [], _, _, h => by simp only [OwL] at h; obtain ⟨rfl, rfl⟩ := h; exact ⟨rfl, rfl⟩
 | x :: xs, _, _, h => by
  simp only [OwL] at h;obtain ⟨v, ws, L1, L2, rfl, h1, h2, rfl⟩ := h;have r := h2.toP;exact ⟨by simp [r.1], L1, L2, h1, r.2, rfl⟩
theorem OwL.ofP : ∀ {xs : List D} {vs : List V} {L : List Addr}, xs.length = vs.length -> OwP K F H (xs.zip vs) L -> OwL K F H xs vs L
 | [], [], _, _, h => by simp only [OwL]; exact ⟨trivial, h⟩
 | x :: xs, v :: vs, _, e, h => by
  obtain ⟨L1, L2, h1, h2, e2⟩ := h;simp only [OwL];exact ⟨v, vs, L1, L2, rfl, h1, OwL.ofP (by simpa using e) h2, e2⟩
structure G (K : PySem.W.Frag) (F : Addr -> Prop) (H : Hp) (R : Ro) : Prop where
 own : ∃ L, OwP K F H R L /\ L.Nodup /\ ∀ a ∈ L, ¬ F a
 dom : ∀ a, F a -> ∃ o, H a = some o
variable {R S : Ro} {d : D} {v : V}
theorem G.perm (g : G K F H R) (p : R.Perm S) : G K F H S := by
 obtain ⟨L, h, n, f⟩ := g.own;obtain ⟨M, pm, h'⟩ := h.perm p;exact ⟨⟨M, h', pm.nodup_iff.mp n, fun a ha => f a (pm.mem_iff.mpr ha)⟩, g.dom⟩
theorem G.pop (g : G K F H ((d, v) :: R)) : G K F H R := by
 obtain ⟨L, ⟨L1, L2, h1, h2, rfl⟩, n, f⟩ := g.own;exact ⟨⟨L2, h2, (List.nodup_append.mp n).2.1, fun a ha => f a (by simp [ha])⟩, g.dom⟩
theorem G.popN (g : G K F H (S ++ R)) : G K F H R := by
 induction S with
 | nil => exact g
 | cons x S ih => exact ih (G.pop (d := x.1) (v := x.2) g)
noncomputable def Bor (K : PySem.W.Frag) (F : Addr -> Prop) (H : Hp) (d : D) (v : V) : Prop := ∃ L, Ow K F H d v L
theorem G.bor (g : G K F H R) (h : (d, v) ∈ R) : Bor K F H d v := by
 obtain ⟨A, B, rfl⟩ := List.append_of_mem h;obtain ⟨L, ⟨L1, L2, h1, h2, rfl⟩, n, f⟩ := (g.popN).own;exact ⟨L1, h1⟩
theorem G.push (g : G K F H R) (h : Ow K F H d v []) : G K F H ((d, v) :: R) := by
 obtain ⟨L, h1, n, f⟩ := g.own;exact ⟨⟨L, ⟨[], L, h, h1, rfl⟩, n, f⟩, g.dom⟩
theorem G.alloc {p : Addr} {o : HO} (g : G K F H R) (hp : H p = none) (hn : autoParam (NT o) Ax6._auto_1) : G K F (upd H p o) ((.cell, .ref p) :: R) /\ Ext F H F (upd H p o) := by
 obtain ⟨L, h1, n, f⟩ := g.own;have nF : ∀ a, F a -> a ≠ p := fun a fa e => by obtain ⟨o, h⟩ := g.dom a fa; rw [e, hp] at h; cases h
 have nL : ∀ a ∈ L, a ≠ p := fun a ha e => by obtain ⟨o, h⟩ := h1.dom a ha; rw [e, hp] at h; cases h
 have x : Ext F H F (upd H p o) := fun a fa => ⟨fa, upd_ne (nF a fa)⟩
 refine ⟨⟨⟨p :: L, ⟨[p], L, ?_, h1.mono x fun a ha => upd_ne (nL a ha), rfl⟩, List.nodup_cons.mpr ⟨fun h => nL p h rfl, n⟩, fun a ha fa => ?_⟩, fun a fa => ?_⟩, x⟩
 ·simp only [Ow]; exact ⟨p, ⟨o, hn⟩, rfl, upd_same, rfl⟩
 ·rcases List.mem_cons.mp ha with rfl | ha
  ·exact nF _ fa rfl
  ·exact f a ha fa
 ·rw [upd_ne (nF a fa)]; exact g.dom a fa
theorem G.write {a : Addr} {o : HO} (g : G K F H ((.cell, .ref a) :: R)) (hn : autoParam (NT o) Ax6._auto_1) : G K F (upd H a o) ((.cell, .ref a) :: R) /\ Ext F H F (upd H a o) := by
 obtain ⟨L, ⟨L1, L2, h1, h2, rfl⟩, n, f⟩ := g.own;simp only [Ow] at h1;obtain ⟨b, ob, e, hb, rfl⟩ := h1;cases e;have nF : ∀ c, F c -> c ≠ a := fun c fc e => f a (by simp) (e ▸ fc)
 have nL : ∀ c ∈ L2, c ≠ a := fun c hc e => (List.nodup_cons.mp n).1 (e ▸ hc)
 have x : Ext F H F (upd H a o) := fun c fc => ⟨fc, upd_ne (nF c fc)⟩
 refine ⟨⟨⟨[a] ++ L2, ⟨[a], L2, ?_, h2.mono x fun c hc => upd_ne (nL c hc), rfl⟩, n, f⟩, fun c fc => ?_⟩, x⟩
 ·simp only [Ow]; exact ⟨a, ⟨o, hn⟩, rfl, upd_same, rfl⟩
 ·rw [upd_ne (nF c fc)]; exact g.dom c fc
theorem G.openL {xs : List D} (g : G K F H ((.lst true xs, v) :: R)) : ∃ a vs, v = .ref a /\ H a = some (.lst vs) /\ xs.length = vs.length /\ G K F H ((.cell, .ref a) :: (xs.zip vs ++ R)) := by
 obtain ⟨L, ⟨L1, L2, h1, h2, rfl⟩, n, f⟩ := g.own;simp only [Ow] at h1;obtain ⟨a, vs, L', rfl, e, r, rfl⟩ := h1;refine ⟨a, vs, rfl, e, r.toP.1, ⟨a :: L' ++ L2, ⟨[a], L' ++ L2, ?_, r.toP.2.append h2, rfl⟩, n, f⟩, g.dom⟩;simp only [Ow]; exact ⟨a, ⟨.lst vs, trivial⟩, rfl, e, rfl⟩
theorem G.formL {xs : List D} {vs : List V} {a : Addr} (g : G K F H ((.cell, .ref a) :: (xs.zip vs ++ R))) (hl : xs.length = vs.length) (e : H a = some (.lst vs)) : G K F H ((.lst true xs, .ref a) :: R) := by
 obtain ⟨L, ⟨L1, L2, h1, h2, rfl⟩, n, f⟩ := g.own;simp only [Ow] at h1;obtain ⟨b, ob, e', hb, rfl⟩ := h1;cases e';obtain ⟨M, N, rfl, hm, hn⟩ := h2.split;refine ⟨⟨(a :: M) ++ N, ⟨a :: M, N, ?_, hn, rfl⟩, by simpa using n, fun c hc => f c (by simpa using hc)⟩, g.dom⟩;simp only [Ow];exact ⟨a, vs, M, rfl, e, OwL.ofP hl hm, rfl⟩
theorem G.openN {xs : List D} (g : G K F H ((.lst true xs, v) :: R)) : ∃ a vs, v = .ref a /\ H a = some (.lst vs) /\ xs.length = vs.length /\ G K F H ((.node a vs, .ref a) :: (xs.zip vs ++ R)) := by
 obtain ⟨L, ⟨L1, L2, h1, h2, rfl⟩, n, f⟩ := g.own;simp only [Ow] at h1;obtain ⟨a, vs, L', rfl, e, r, rfl⟩ := h1;refine ⟨a, vs, rfl, e, r.toP.1, ⟨a :: L' ++ L2, ⟨[a], L' ++ L2, ?_, r.toP.2.append h2, rfl⟩, n, f⟩, g.dom⟩;simp only [Ow]; exact ⟨trivial, e, trivial⟩
theorem G.openT {xs : List D} (g : G K F H ((.tup xs, v) :: R)) : ∃ a vs, v = .ref a /\ FT K F H a vs [] /\ xs.length = vs.length /\ G K F H (xs.zip vs ++ R) := by
 obtain ⟨L, ⟨L1, L2, h1, h2, rfl⟩, n, f⟩ := g.own;simp only [Ow] at h1;obtain ⟨a, vs, rfl, e, r⟩ := h1;exact ⟨a, vs, rfl, e.nil, r.toP.1, ⟨L1 ++ L2, r.toP.2.append h2, n, f⟩, g.dom⟩
theorem G.formT {xs : List D} {vs : List V} {a : Addr} (g : G K F H (xs.zip vs ++ R)) (hl : xs.length = vs.length) (e : F a /\ H a = some (.tup vs)) : G K F H ((.tup xs, .ref a) :: R) := by
 obtain ⟨L, h, n, f⟩ := g.own;obtain ⟨M, N, rfl, hm, hn⟩ := h.split;refine ⟨⟨M ++ N, ⟨M, N, ?_, hn, rfl⟩, n, f⟩, g.dom⟩;simp only [Ow];exact ⟨a, vs, rfl, .inl e, OwL.ofP hl hm⟩
theorem G.freeze (g : G K F H ((d, v) :: R)) : ∃ F', Ext F H F' H /\ G K F' H ((d.fz, v) :: R) /\ Ow K F' H d.fz v [] := by
 obtain ⟨L, ⟨L1, L2, h1, h2, rfl⟩, n, f⟩ := g.own;have x : Ext F H (fun a => F a \/ a ∈ L1) H := fun a h => ⟨.inl h, rfl⟩
 have z : Ow K (fun a => F a \/ a ∈ L1) H d.fz v [] := h1.fz (fun a h => .inl h) fun a h => .inr h
 refine ⟨fun a => F a \/ a ∈ L1, x, ⟨⟨L2, ⟨[], L2, z, h2.mono x fun _ _ => rfl, rfl⟩, (List.nodup_append.mp n).2.1, fun a ha fa => ?_⟩, fun a fa => ?_⟩, z⟩
 ·rcases fa with fa | fa
  ·exact f a (by simp [ha]) fa
  ·exact (List.nodup_append.mp n).2.2 a fa a ha rfl
 ·rcases fa with fa | fa
  ·exact g.dom a fa
  ·exact h1.dom a fa
theorem G.layT {xs : List D} {vs : List V} {p : Addr} (g : G K F H (xs.zip vs ++ R)) (hl : xs.length = vs.length) (hp : H p = none) :
  ∃ F', Ext F H F' (upd H p (.tup vs)) /\ G K F' (upd H p (.tup vs)) ((.tup xs, .ref p) :: R) := by
 obtain ⟨L, h1, n, f⟩ := g.own;have nF : ∀ a, F a -> a ≠ p := fun a fa e => by obtain ⟨o, h⟩ := g.dom a fa; rw [e, hp] at h; cases h
 have nL : ∀ a ∈ L, a ≠ p := fun a ha e => by obtain ⟨o, h⟩ := h1.dom a ha; rw [e, hp] at h; cases h
 have x : Ext F H (fun a => F a \/ a = p) (upd H p (.tup vs)) := fun a fa => ⟨.inl fa, upd_ne (nF a fa)⟩
 refine ⟨_, x, G.formT (a := p) ⟨⟨L, h1.mono x fun a ha => upd_ne (nL a ha), n, fun a ha fa => ?_⟩, fun a fa => ?_⟩ hl ⟨.inr rfl, upd_same⟩⟩
 ·rcases fa with fa | fa
  ·exact f a ha fa
  ·exact nL a ha fa
 ·rcases fa with fa | fa
  ·rw [upd_ne (nF a fa)]; exact g.dom a fa
  ·subst fa; exact ⟨_, upd_same⟩
theorem G.ext (g : G K F H R) (x : Ext F H F' H') (k : ∀ a o, H a = some o -> H' a = some o) (fr : ∀ a, F' a -> F a \/ H a = none) (dm : ∀ a, F' a -> ∃ o, H' a = some o) : G K F' H' R := by
 obtain ⟨L, h, n, f⟩ := g.own;refine ⟨⟨L, h.mono x fun a ha => ?_, n, fun a ha fa => ?_⟩, dm⟩
 ·obtain ⟨o, e⟩ := h.dom a ha
  rw [e, k a o e]
 ·obtain ⟨o, e⟩ := h.dom a ha
  rcases fr a fa with z | z
  ·exact f a ha z
  ·rw [e] at z; cases z
end
section
variable {K : PySem.W.Frag} {F F' : Addr -> Prop} {H H' : Hp}
noncomputable abbrev DSt := List (Option D)
noncomputable def sl : DSt -> St -> Ro
 | some d :: OD, some v :: O => (d, v) :: sl OD O
 | some _ :: OD, none :: O => sl OD O
 | none :: OD, _ :: O => sl OD O
 | _, _ => []
noncomputable def Mt : DSt -> St -> Prop
 | [], [] => True
 | none :: OD, _ :: O => Mt OD O
 | some _ :: OD, some _ :: O => Mt OD O
 | _, _ => False
theorem Mt.length : ∀ {OD : DSt} {O : St}, Mt OD O -> OD.length = O.length
 | [], [], _ => rfl
 | none :: OD, _ :: O, h => by simp [Mt.length (OD := OD) (O := O) h]
 | some _ :: OD, some _ :: O, h => by simp [Mt.length (OD := OD) (O := O) h]
theorem Mt.get : ∀ {OD : DSt} {O : St} {i : Nat} {d : D}, Mt OD O -> OD[i]? = some (some d) -> ∃ v, O[i]? = some (some v) := by
 intro OD
 induction OD with
 | nil => intro O i d h e; simp at e
 | cons x OD ih =>
  intro O i d h e;cases O with
  | nil => cases x <;> exact h.elim
  | cons o O =>
   cases i with
   | zero =>
    simp at e; subst e;cases o with
    | none => exact h.elim
    | some z => exact ⟨z, rfl⟩
   | succ i =>
    have e' : OD[i]? = some (some d) := by simpa using e
    cases x with
    | none => simpa using ih (O := O) h e'
    | some y => cases o with
     | none => exact h.elim
     | some z => simpa using ih (O := O) h e'
theorem Mt.clear : ∀ {OD : DSt} {O : St} (i : Nat), Mt OD O -> Mt (OD.set i none) O := by
 intro OD
 induction OD with
 | nil =>
  intro O i h;exact h
 | cons x OD ih =>
  intro O i h;cases O with
  | nil => cases x <;> exact h.elim
  | cons o O =>
   have h' : Mt OD O := by
    cases x with
    | none => exact h
    | some y => cases o with
     | none => exact h.elim
     | some z => exact h
   cases i with
   | zero => exact h'
   | succ i =>
    have := ih i h'
    cases x with
    | none => exact this
    | some y => cases o with
     | none => exact h.elim
     | some z => exact this
theorem Mt.put : ∀ {OD : DSt} {O : St} {i : Nat} {v : V} (d : D), Mt OD O -> O[i]? = some (some v) -> Mt (OD.set i (some d)) O := by
 intro OD
 induction OD with
 | nil =>
  intro O i v d h e;cases O with
  | nil => simp at e
  | cons o O => exact h.elim
 | cons x OD ih =>
  intro O i v d h e;cases O with
  | nil => cases x <;> exact h.elim
  | cons o O =>
   cases i with
   | zero =>
    simp at e; subst e;cases x <;> exact h
   | succ i =>
    have e' : O[i]? = some (some v) := by simpa using e
    cases x with
    | none => exact ih (O := O) d h e'
    | some y => cases o with
     | none => exact h.elim
     | some z => exact ih (O := O) d h e'
theorem Mt.store : ∀ {OD : DSt} {O : St} (i : Nat) (v : V) (d : D), Mt OD O -> Mt (OD.set i (some d)) (O.set i (some v)) := by
 intro OD
 induction OD with
 | nil =>
  intro O i v d h;cases O with
  | nil => exact h
  | cons o O => exact h.elim
 | cons x OD ih =>
  intro O i v d h;cases O with
  | nil => cases x <;> exact h.elim
  | cons o O =>
   have h' : Mt OD O := by
    cases x with
    | none => exact h
    | some y => cases o with
     | none => exact h.elim
     | some z => exact h
   cases i with
   | zero => exact h'
   | succ i =>
    have := ih i v d h'
    cases x with
    | none => exact this
    | some y => cases o with
     | none => exact h.elim
     | some z => exact this
theorem sl_take : ∀ {OD : DSt} {O : St} {i : Nat} {d : D} {v : V}, OD[i]? = some (some d) -> O[i]? = some (some v) -> (sl OD O).Perm ((d, v) :: sl (OD.set i none) O) := by
 intro OD
 induction OD with
 | nil => intro O i d v e; simp at e
 | cons x OD ih =>
  intro O i d v e e';cases O with
  | nil => simp at e'
  | cons o O =>
   cases i with
   | zero =>
    simp at e e'; subst e; subst e';exact .refl _
   | succ i =>
    have q := ih (O := O) (i := i) (d := d) (v := v) (by simpa using e) (by simpa using e');cases x with
    | none => exact q
    | some y => cases o with
     | none => exact q
     | some z => exact (q.cons _).trans (.swap _ _ _)
theorem sl_none : ∀ {OD : DSt} {O : St} {i : Nat}, OD[i]? = some none -> sl (OD.set i none) O = sl OD O
 | [], _, _, e => by simp at e
 | none :: OD, [], 0, _ => rfl
 | none :: OD, o :: O, 0, _ => rfl
 | some _ :: OD, _, 0, e => by simp at e
 | x :: OD, [], i + 1, e => by cases x <;> rfl
 | none :: OD, _ :: O, i + 1, e => sl_none (OD := OD) (O := O) (i := i) (by simpa using e)
 | some x :: OD, none :: O, i + 1, e => sl_none (OD := OD) (O := O) (i := i) (by simpa using e)
 | some x :: OD, some y :: O, i + 1, e => by
  show (x, y) :: sl (OD.set i none) O = (x, y) :: sl OD O;rw [sl_none (OD := OD) (O := O) (i := i) (by simpa using e)]
theorem sl_put : ∀ {OD : DSt} {O : St} {i : Nat} {v : V} (d : D), i < OD.length -> O[i]? = some (some v) -> (sl (OD.set i (some d)) O).Perm ((d, v) :: sl (OD.set i none) O) := fun {OD O i v} d h e => by
 have h1 := sl_take (OD := OD.set i (some d)) (O := O) (i := i) (d := d) (v := v) (by simp [h]) e;rw [List.set_set] at h1;exact h1
theorem sl_store : ∀ {OD : DSt} {O : St} {i : Nat} {v : V}, sl (OD.set i none) (O.set i (some v)) = sl (OD.set i none) O
 | [], _, _, _ => by simp [sl]
 | x :: OD, [], i, _ => by simp
 | x :: OD, o :: O, 0, _ => by cases o <;> rfl
 | none :: OD, o :: O, i + 1, _ => sl_store (OD := OD) (O := O) (i := i)
 | some x :: OD, none :: O, i + 1, _ => sl_store (OD := OD) (O := O) (i := i)
 | some x :: OD, some y :: O, i + 1, _ => by
  show (x, y) :: sl (OD.set i none) (O.set i _) = (x, y) :: sl (OD.set i none) O;rw [sl_store (OD := OD) (O := O) (i := i)]
theorem G.clear {OD : DSt} {O : St} {R : Ro} (i : Nat) (m : Mt OD O) (g : G K F H (sl OD O ++ R)) : G K F H (sl (OD.set i none) O ++ R) := by
 rcases h : OD[i]? with _ | _ | d
 ·rw [List.set_eq_of_length_le (List.getElem?_eq_none_iff.mp h)]; exact g
 ·rw [sl_none h]; exact g
 ·obtain ⟨v, hv⟩ := m.get h
  exact G.pop (d := d) (v := v) (g.perm ((sl_take h hv).append_right R))
structure Rel (K : PySem.W.Frag) (F : Addr -> Prop) (H : Hp) (OD : DSt) (O : St) (R : Ro) : Prop where
 mt : Mt OD O
 g : G K F H (sl OD O ++ R)
variable {OD : DSt} {O : St} {R S : Ro} {d : D} {v : V} {i : Nat}
theorem Rel.perm (r : Rel K F H OD O R) (p : R.Perm S) : Rel K F H OD O S := ⟨r.mt, r.g.perm (p.append_left _)⟩
theorem Rel.front (r : Rel K F H OD O R) : G K F H (R ++ sl OD O) := r.g.perm List.perm_append_comm
theorem Rel.of (m : Mt OD O) (g : G K F H (R ++ sl OD O)) : Rel K F H OD O R := ⟨m, g.perm List.perm_append_comm⟩
theorem Rel.get (r : Rel K F H OD O R) (e : OD[i]? = some (some d)) : ∃ v, O[i]? = some (some v) /\ Bor K F H d v := by
 obtain ⟨v, hv⟩ := r.mt.get e;exact ⟨v, hv, r.g.bor (List.mem_append_left _ ((sl_take e hv).mem_iff.mpr (by simp)))⟩
theorem Rel.take (r : Rel K F H OD O R) (e : OD[i]? = some (some d)) : ∃ v, O[i]? = some (some v) /\ Rel K F H (OD.set i none) O ((d, v) :: R) := by
 obtain ⟨v, hv⟩ := r.mt.get e;refine ⟨v, hv, r.mt.clear i, r.g.perm ?_⟩;exact ((sl_take e hv).append_right R).trans List.perm_middle.symm
theorem Rel.put (r : Rel K F H OD O ((d, v) :: R)) (e : O[i]? = some (some v)) : Rel K F H (OD.set i (some d)) O R := by
 have hi : i < OD.length := by rw [r.mt.length]; exact (List.getElem?_eq_some_iff.mp e).1
 refine ⟨r.mt.put d e, (r.g.clear i r.mt).perm ?_⟩;exact List.perm_middle.trans ((sl_put d hi e).append_right R).symm
theorem Rel.store (r : Rel K F H OD O ((d, v) :: R)) (hi : i < O.length) : Rel K F H (OD.set i (some d)) (O.set i (some v)) R := by
 have hi' : i < OD.length := by rw [r.mt.length]; exact hi
 refine ⟨r.mt.store i v d, (r.g.clear i r.mt).perm ?_⟩;have h := sl_put (OD := OD) (O := O.set i (some v)) (i := i) (v := v) d hi' (by simp [hi]);rw [sl_store] at h;exact List.perm_middle.trans (h.append_right R).symm
theorem Rel.pop (r : Rel K F H OD O ((d, v) :: R)) : Rel K F H OD O R := Rel.of r.mt (r.front).pop
theorem Rel.popN (r : Rel K F H OD O (S ++ R)) : Rel K F H OD O R := Rel.of r.mt (by have h := r.front; rw [List.append_assoc] at h; exact h.popN)
theorem Rel.push (r : Rel K F H OD O R) (h : Ow K F H d v []) : Rel K F H OD O ((d, v) :: R) := Rel.of r.mt (r.front.push h)
theorem Rel.bor (r : Rel K F H OD O R) (h : (d, v) ∈ R) : Bor K F H d v := r.g.bor (List.mem_append_right _ h)
theorem Rel.freeze (r : Rel K F H OD O ((d, v) :: R)) : ∃ F', Ext F H F' H /\ Rel K F' H OD O ((d.fz, v) :: R) /\ Ow K F' H d.fz v [] := by
 obtain ⟨F', x, g, o⟩ := r.front.freeze;exact ⟨F', x, Rel.of r.mt g, o⟩
theorem Rel.openL {xs : List D} (r : Rel K F H OD O ((.lst true xs, v) :: R)) : ∃ a vs, v = .ref a /\ H a = some (.lst vs) /\ xs.length = vs.length /\ Rel K F H OD O ((.cell, .ref a) :: (xs.zip vs ++ R)) := by
 obtain ⟨a, vs, e, h, l, g⟩ := r.front.openL;exact ⟨a, vs, e, h, l, Rel.of r.mt (by simpa using g)⟩
theorem Rel.formL {xs : List D} {vs : List V} {a : Addr} (r : Rel K F H OD O ((.cell, .ref a) :: (xs.zip vs ++ R))) (hl : xs.length = vs.length) (e : H a = some (.lst vs)) : Rel K F H OD O ((.lst true xs, .ref a) :: R) :=
 Rel.of r.mt (G.formL (vs := vs) (by simpa using r.front) hl e)
theorem Rel.openN {xs : List D} (r : Rel K F H OD O ((.lst true xs, v) :: R)) : ∃ a vs, v = .ref a /\ H a = some (.lst vs) /\ xs.length = vs.length /\ Rel K F H OD O ((.node a vs, .ref a) :: (xs.zip vs ++ R)) := by
 obtain ⟨a, vs, e, h, l, g⟩ := r.front.openN;exact ⟨a, vs, e, h, l, Rel.of r.mt (by simpa using g)⟩
theorem Rel.openT {xs : List D} (r : Rel K F H OD O ((.tup xs, v) :: R)) : ∃ a vs, v = .ref a /\ FT K F H a vs [] /\ xs.length = vs.length /\ Rel K F H OD O (xs.zip vs ++ R) := by
 obtain ⟨a, vs, e, h, l, g⟩ := r.front.openT;exact ⟨a, vs, e, h, l, Rel.of r.mt (by simpa using g)⟩
theorem Rel.alloc {p : Addr} {o : HO} (r : Rel K F H OD O R) (hp : H p = none) (hn : autoParam (NT o) Ax6._auto_1) : Rel K F (upd H p o) OD O ((.cell, .ref p) :: R) /\ Ext F H F (upd H p o) := by
 obtain ⟨g, x⟩ := r.front.alloc (o := o) hp hn;exact ⟨Rel.of r.mt g, x⟩
theorem Rel.write {a : Addr} {o : HO} (r : Rel K F H OD O ((.cell, .ref a) :: R)) (hn : autoParam (NT o) Ax6._auto_1) : Rel K F (upd H a o) OD O ((.cell, .ref a) :: R) /\ Ext F H F (upd H a o) := by
 obtain ⟨g, x⟩ := r.front.write (o := o) hn;exact ⟨Rel.of r.mt g, x⟩
theorem Rel.layL {xs : List D} {vs : List V} {p : Addr} (r : Rel K F H OD O (xs.zip vs ++ R)) (hl : xs.length = vs.length) (hp : H p = none) :
  Rel K F (upd H p (.lst vs)) OD O ((.lst true xs, .ref p) :: R) /\ Ext F H F (upd H p (.lst vs)) := by
 obtain ⟨r1, x⟩ := r.alloc (o := .lst vs) hp;exact ⟨r1.formL hl upd_same, x⟩
theorem Rel.layT {xs : List D} {vs : List V} {p : Addr} (r : Rel K F H OD O (xs.zip vs ++ R)) (hl : xs.length = vs.length) (hp : H p = none) :
  ∃ F', Ext F H F' (upd H p (.tup vs)) /\ Rel K F' (upd H p (.tup vs)) OD O ((.tup xs, .ref p) :: R) := by
 obtain ⟨F', x, g⟩ := G.layT (R := R ++ sl OD O) (by simpa using r.front) hl hp;exact ⟨F', x, Rel.of r.mt g⟩
structure Grow (F : Addr -> Prop) (H : Hp) (F' : Addr -> Prop) (H' : Hp) : Prop where
 x : Ext F H F' H'
 k : ∀ a o, H a = some o -> H' a = some o
 fr : ∀ a, F' a -> F a \/ H a = none
 dm : (∀ a, F a -> ∃ o, H a = some o) -> ∀ a, F' a -> ∃ o, H' a = some o
theorem Grow.refl : Grow F H F H := ⟨Ext.refl, fun _ _ e => e, fun _ h => .inl h, fun h => h⟩
theorem Grow.trans {F'' : Addr -> Prop} {H'' : Hp} (a : Grow F H F' H') (b : Grow F' H' F'' H'') : Grow F H F'' H'' :=
 ⟨a.x.trans b.x, fun x o e => b.k x o (a.k x o e), fun x h => by
  rcases b.fr x h with h | h
  ·exact a.fr x h
  ·refine .inr ?_
   rcases e : H x with _ | o
   ·rfl
   ·rw [a.k x o e] at h
    exact (nomatch h), fun d => b.dm (a.dm d)⟩
theorem Rel.grow (r : Rel K F H OD O R) (g : Grow F H F' H') : Rel K F' H' OD O R := ⟨r.mt, r.g.ext g.x g.k g.fr (g.dm r.g.dom)⟩
theorem Bor.grow (b : Bor K F H d v) (g : Grow F H F' H') : Bor K F' H' d v := by
 obtain ⟨L, h⟩ := b;exact ⟨L, h.mono g.x fun a ha => by obtain ⟨o, e⟩ := h.dom a ha; rw [e, g.k a o e]⟩
end
end DD
namespace DD
open PySem PySem.Spec PyProof.Rows L2
noncomputable abbrev St := L2.St
noncomputable def D.sc : D -> Option V
 | .non => some .non
 | .bl b => some (.bl b)
 | .int i => some (.int i)
 | .str x => some (.str x)
 | .ty n => some (.ty n)
 | .cls a => some (.ref a)
 | _ => none
section
variable {K : PySem.W.Frag} {F F' : Addr -> Prop} {H H' : Hp} {d : D} {v w : V} {L : List Addr} {R : Ro} {OD : DSt} {O : St}
theorem Ow.of_sc (h : d.sc = some w) : Ow K F H d w [] := by
 cases d <;> simp only [D.sc] at h <;> cases h <;> simp only [Ow] <;> exact ⟨trivial, trivial⟩
theorem Ow.sc (o : Ow K F H d v L) (h : d.sc = some w) : v = w /\ L = [] := by
 cases d <;> simp only [D.sc] at h <;> cases h <;> simp only [Ow] at o <;> exact o
theorem Bor.sc (b : Bor K F H d v) (h : d.sc = some w) : v = w := by obtain ⟨L, o⟩ := b; exact (o.sc h).1
theorem Rel.scal (r : Rel K F H OD O R) (h : d.sc = some w) : Rel K F H OD O ((d, w) :: R) := r.push (Ow.of_sc h)
theorem Bor.int {i : Int} (b : Bor K F H (.int i) v) : v = .int i := b.sc rfl
theorem Bor.bl {i : Bool} (b : Bor K F H (.bl i) v) : v = .bl i := b.sc rfl
theorem Bor.str {i : Str} (b : Bor K F H (.str i) v) : v = .str i := b.sc rfl
end
section
variable {X : Cx} {e : Expr} {es : List Expr} {st : Stmt} {sts : List Stmt}
theorem PE_imp {t t' : TE} (h : PE X e t) (i : ∀ O H Q, t' O H Q -> t O H Q) : PE X e t' := fun pins s O H Q I h' => h pins s O H Q I (i O H Q h')
theorem PT_imp {t t' : TT} (h : PT X e t) (i : ∀ O H Q, t' O H Q -> t O H Q) : PT X e t' := fun pins s O H Q I h' => h pins s O H Q I (i O H Q h')
theorem PW_imp {t t' : TT} (h : PW X e t) (i : ∀ O H Q, t' O H Q -> t O H Q) : PW X e t' := fun wh pins s O H Q I h' => h wh pins s O H Q I (i O H Q h')
theorem PA_imp {t t' : TA} (h : PA X es t) (i : ∀ O H Q, t' O H Q -> t O H Q) : PA X es t' := fun p pins s O H Q I h' => h p pins s O H Q I (i O H Q h')
theorem PS_imp {t t' : TS} (h : PS X st t) (i : ∀ D O H, t' D O H -> t D O H) : PS X st t' := fun pins s O H D I h' => h pins s O H D I (i D O H h')
theorem PSs_imp {t t' : TS} (h : PSs X sts t) (i : ∀ D O H, t' D O H -> t D O H) : PSs X sts t' := fun pins s O H D I h' => h pins s O H D I (i D O H h')
theorem OpR_imp {f : Value -> Value -> Sem Value} {r r' : R2} (h : OpR X f r) (i : ∀ x y H Q, r' x y H Q -> r x y H Q) : OpR X f r' := fun pins s O H x y v u Q I a b h' => h pins s O H x y v u Q I a b (i x y H Q h')
end
noncomputable abbrev DE := DSt -> Option (D × DSt)
noncomputable abbrev DP := DSt -> Option D
noncomputable abbrev DA := DSt -> Option (List D × DSt)
noncomputable abbrev DT := DSt -> Option (Bool × DSt)
inductive Out where
 | nx (O : DSt) | rt (d : D) (O : DSt) | bk (O : DSt) | ct (O : DSt)
noncomputable abbrev DS := DSt -> Option Out
noncomputable def rE (K : PySem.W.Frag) (c : DE) : TE := fun O H Q => ∃ F R OD d OD', Rel K F H OD O R /\ c OD = some (d, OD') /\ ∀ F' H' v, Ext F H F' H' -> Rel K F' H' OD' O ((d, v) :: R) -> Q v H'
noncomputable def rB (K : PySem.W.Frag) (c : DP) : TE := fun O H Q => ∃ F R OD d, Rel K F H OD O R /\ c OD = some d /\ ∀ F' H' v, Grow F H F' H' -> Bor K F' H' d v -> Q v H'
noncomputable def rA (K : PySem.W.Frag) (c : DA) : TA := fun O H Q => ∃ F R OD xs OD', Rel K F H OD O R /\ c OD = some (xs, OD') /\ ∀ F' H' vs, Ext F H F' H' -> xs.length = vs.length -> Rel K F' H' OD' O (xs.zip vs ++ R) -> Q vs H'
noncomputable def rT (K : PySem.W.Frag) (c : DT) : TT := fun O H Q => ∃ F R OD b OD', Rel K F H OD O R /\ c OD = some (b, OD') /\ ∀ F' H', Ext F H F' H' -> Rel K F' H' OD' O R -> Q b H'
noncomputable def Kp (W : List Nat) (O O' : St) : Prop := ∀ k, k ∉ W -> O'[k]? = O[k]?
noncomputable def Th (K : PySem.W.Frag) (En : Ends) (R : Ro) (F : Addr -> Prop) (H : Hp) (O : St) : Out -> Prop
 | .nx OD => Rel K F H OD O R -> En.nx O H
 | .bk OD => Rel K F H OD O R -> En.bk O H
 | .ct OD => Rel K F H OD O R -> En.ct O H
 | .rt d OD => ∀ v, Rel K F H OD O ((d, v) :: R) -> En.rt v H
noncomputable def rS (K : PySem.W.Frag) (c : DS) (W : List Nat) : TS := fun En O H => ∃ F R OD o, Rel K F H OD O R /\ c OD = some o /\ ∀ F' H' O', Ext F H F' H' -> Kp W O O' -> Th K En R F' H' O' o
noncomputable def QE (X : Cx) (e : Expr) (c : DE) : Prop := PE X e (rE X.K c)
noncomputable def QB (X : Cx) (e : Expr) (c : DP) : Prop := PE X e (rB X.K c)
noncomputable def QA (X : Cx) (es : List Expr) (c : DA) : Prop := PA X es (rA X.K c)
noncomputable def QT (X : Cx) (e : Expr) (c : DT) : Prop := PT X e (rT X.K c)
noncomputable def QW (X : Cx) (e : Expr) (c : DT) : Prop := PW X e (rT X.K c)
noncomputable def QS (X : Cx) (st : Stmt) (c : DS) (W : List Nat) : Prop := PS X st (rS X.K c W)
noncomputable def QSs (X : Cx) (sts : List Stmt) (c : DS) (W : List Nat) : Prop := PSs X sts (rS X.K c W)
theorem Kp.refl {W : List Nat} {O : St} : Kp W O O := fun _ _ => rfl
theorem Kp.trans {W : List Nat} {O O1 O2 : St} (a : Kp W O O1) (b : Kp W O1 O2) : Kp W O O2 := fun k h => (b k h).trans (a k h)
theorem Kp.mono {W W' : List Nat} {O O' : St} (a : Kp W O O') (h : ∀ k ∈ W, k ∈ W') : Kp W' O O' := fun k hk => a k fun z => hk (h k z)
theorem Kp.set {O : St} {i : Nat} {o : Option V} : Kp [i] O (O.set i o) := fun k hk => by
 rw [List.getElem?_set_ne]; intro e; exact hk (by simp [e])
noncomputable def dS (p : DP) : DE := fun O => (p O).bind fun d => match d.sc with | some _ => some (d, O) | none => none
noncomputable def dget (O : DSt) (i : Nat) : Option D := match O[i]? with | some (some d) => some d | _ => none
theorem dget_some {O : DSt} {i : Nat} {d : D} (h : dget O i = some d) : O[i]? = some (some d) := by
 unfold dget at h;split at h
 ·cases h; assumption
 ·cases h
noncomputable def pV (i : Nat) : DP := fun O => dget O i
noncomputable def pC (d : D) : DP := fun _ => some d
noncomputable def dCp (i : Nat) : DE := fun O => (dget O i).map fun d => (d.fz, O.set i (some d.fz))
noncomputable def dMv (i : Nat) : DE := fun O => (dget O i).map fun d => (d, O.set i none)
section
variable {X : Cx} {e a b : Expr} {es : List Expr} {p q : DP} {c c' : DE} {pos : Pos}
theorem qe_s (h : QB X e p) : QE X e (dS p) := PE_imp h fun O H Q hq0 => by
 obtain ⟨F, R, OD, d, OD', r, ec, k⟩ := hq0;unfold dS at ec;rcases hp : p OD with _ | x
 ·rw [hp] at ec; cases ec
 ·rw [hp] at ec
  simp only [bind_some] at ec;rcases hs : x.sc with _ | w
  ·rw [hs] at ec; cases ec
  ·rw [hs] at ec; cases ec
   refine ⟨F, R, OD, d, r, hp, fun F' H' v g b => k F' H' v g.x ?_⟩;rw [b.sc hs]; exact (r.grow g).scal hs
theorem qb_v (i : Nat) {x : Str} {pos : Pos} (hN : autoParam (X.N[i]? = some x) Ax4._auto_1) (hv : autoParam (Vis X.env.scope x) Ax7._auto_1) (hd : autoParam ((x == ("__debug__" : Str)) = false) Ax1._auto_1)
  (hcd : autoParam ((x == ("__classdict__" : Str)) = false) Ax1._auto_1) : QB X (.Name x pos) (pV i) := PE_imp (pe_var hN hv hd hcd) fun O H Q hq0 => by
 obtain ⟨F, R, OD, d, r, ec, k⟩ := hq0;obtain ⟨v, hv, b⟩ := r.get (dget_some ec);exact ⟨v, hv, k F H v Grow.refl b⟩
theorem qb_int {i : Int} {j pos} : QB X (.Constant (.int i) j pos) (pC (.int i)) := PE_imp pe_int fun O H Q hq0 => by
 obtain ⟨F, R, OD, d, r, ec, k⟩ := hq0;cases ec; exact k F H _ Grow.refl ⟨[], Ow.of_sc rfl⟩
theorem qb_bl {i : Bool} {j pos} : QB X (.Constant (.bool i) j pos) (pC (.bl i)) := PE_imp pe_bl fun O H Q hq0 => by
 obtain ⟨F, R, OD, d, r, ec, k⟩ := hq0;cases ec; exact k F H _ Grow.refl ⟨[], Ow.of_sc rfl⟩
theorem map_pair {α β γ : Type} {o : Option α} {f : α -> β × γ} {d : β} {s : γ} (h : o.map f = some (d, s)) : ∃ x, o = some x /\ f x = (d, s) := by
 cases o with
 | none => cases h
 | some x => exact ⟨x, rfl, Option.some.inj h⟩
theorem qe_cp (i : Nat) {x : Str} {pos : Pos} (hN : autoParam (X.N[i]? = some x) Ax4._auto_1) (hv : autoParam (Vis X.env.scope x) Ax7._auto_1) (hd : autoParam ((x == ("__debug__" : Str)) = false) Ax1._auto_1)
  (hcd : autoParam ((x == ("__classdict__" : Str)) = false) Ax1._auto_1) : QE X (.Name x pos) (dCp i) := PE_imp (pe_var hN hv hd hcd) fun O H Q hq0 => by
 obtain ⟨F, R, OD, d, OD', r, ec, k⟩ := hq0;obtain ⟨d0, e0, e1⟩ := map_pair ec;cases e1;obtain ⟨v, hv, r1⟩ := r.take (dget_some e0);obtain ⟨F', x, r2, o⟩ := r1.freeze;have r3 := (r2.push o).put hv;rw [List.set_set] at r3;exact ⟨v, hv, k F' H v x r3⟩
theorem qe_mv (i : Nat) {x : Str} {pos : Pos} (hN : autoParam (X.N[i]? = some x) Ax4._auto_1) (hv : autoParam (Vis X.env.scope x) Ax7._auto_1) (hd : autoParam ((x == ("__debug__" : Str)) = false) Ax1._auto_1)
  (hcd : autoParam ((x == ("__classdict__" : Str)) = false) Ax1._auto_1) : QE X (.Name x pos) (dMv i) := PE_imp (pe_var hN hv hd hcd) fun O H Q hq0 => by
 obtain ⟨F, R, OD, d, OD', r, ec, k⟩ := hq0;obtain ⟨d0, e0, e1⟩ := map_pair ec;cases e1;obtain ⟨v, hv, r1⟩ := r.take (dget_some e0);exact ⟨v, hv, k F H v Ext.refl r1⟩
structure OpS (X : Cx) (f : Value -> Value -> Sem Value) (g : D -> D -> Option D) : Prop where
 run : OpR X f (fun x y H Q => ∃ F dx dy d w, Bor X.K F H dx x /\ Bor X.K F H dy y /\ g dx dy = some d /\ d.sc = some w /\ Q w H)
 sc : ∀ x y d, g x y = some d -> ∃ w, d.sc = some w
noncomputable def dOp (g : D -> D -> Option D) (c c' : DE) : DE := fun O => (c O).bind fun p => (c' p.2).bind fun q => (g p.1 q.1).map fun d => (d, q.2)
noncomputable def pOp (g : D -> D -> Option D) (p q : DP) : DP := fun O => (p O).bind fun x => (q O).bind fun y => g x y
theorem dOp_some {g : D -> D -> Option D} {O O' : DSt} {d : D} (h : dOp g c c' O = some (d, O')) : ∃ x y O1, c O = some (x, O1) /\ c' O1 = some (y, O') /\ g x y = some d := by
 unfold dOp at h;rcases h1 : c O with _ | ⟨x, O1⟩
 ·rw [h1] at h; cases h
 ·rw [h1] at h; simp only [bind_some] at h
  rcases h2 : c' O1 with _ | ⟨y, O2⟩
  ·rw [h2] at h; cases h
  ·rw [h2] at h; simp only [bind_some] at h
   obtain ⟨z, e, e2⟩ := map_pair h;cases e2;exact ⟨x, y, O1, rfl, h2, e⟩
theorem pOp_some {g : D -> D -> Option D} {O : DSt} {d : D} (h : pOp g p q O = some d) : ∃ x y, p O = some x /\ q O = some y /\ g x y = some d := by
 unfold pOp at h;rcases h1 : p O with _ | x
 ·rw [h1] at h; cases h
 ·rw [h1] at h; simp only [bind_some] at h
  rcases h2 : q O with _ | y
  ·rw [h2] at h; cases h
  ·rw [h2] at h; simp only [bind_some] at h
   exact ⟨x, y, rfl, rfl, h⟩
theorem rOp {f : Value -> Value -> Sem Value} {g : D -> D -> Option D} (o : OpS X f g) {O : St} {H : Hp} {Q : VK} (h : rE X.K (dOp g c c') O H Q) :
  tOp (fun x y H Q => ∃ F dx dy d w, Bor X.K F H dx x /\ Bor X.K F H dy y /\ g dx dy = some d /\ d.sc = some w /\ Q w H) (rE X.K c) (rE X.K c') O H Q := by
 obtain ⟨F, R, OD, d, OD', r, ec, k⟩ := h;obtain ⟨x, y, O1, e1, e2, eg⟩ := dOp_some ec;obtain ⟨w, hw⟩ := o.sc _ _ _ eg;refine ⟨F, R, OD, x, O1, r, e1, fun F1 H1 v x1 r1 => ?_⟩;refine ⟨F1, _, O1, y, OD', r1, e2, fun F2 H2 u x2 r2 => ?_⟩;refine ⟨F2, x, y, d, w, r2.bor (by simp), r2.bor (by simp), eg, hw, k F2 H2 w (x1.trans x2) ?_⟩;exact (r2.pop.pop).scal hw
theorem rOpB {f : Value -> Value -> Sem Value} {g : D -> D -> Option D} (o : OpS X f g) {O : St} {H : Hp} {Q : VK} (h : rB X.K (pOp g p q) O H Q) :
  tOp (fun x y H Q => ∃ F dx dy d w, Bor X.K F H dx x /\ Bor X.K F H dy y /\ g dx dy = some d /\ d.sc = some w /\ Q w H) (rB X.K p) (rB X.K q) O H Q := by
 obtain ⟨F, R, OD, d, r, ec, k⟩ := h;obtain ⟨x, y, e1, e2, eg⟩ := pOp_some ec;obtain ⟨w, hw⟩ := o.sc _ _ _ eg;refine ⟨F, R, OD, x, r, e1, fun F1 H1 v g1 b1 => ?_⟩;refine ⟨F1, R, OD, y, r.grow g1, e2, fun F2 H2 u g2 b2 => ?_⟩;exact ⟨F2, x, y, d, w, b1.grow g2, b2, eg, hw, k F2 H2 w (g1.trans g2) ⟨[], Ow.of_sc hw⟩⟩
theorem qe_op {op : Operator} {g : D -> D -> Option D} (o : OpS X (binaryOp op) g) (ha : QE X a c) (hb : QE X b c') : QE X (.BinOp a op b pos) (dOp g c c') :=
 PE_imp (pe_op o.run ha hb) fun _ _ _ h => rOp o h
theorem qb_op {op : Operator} {g : D -> D -> Option D} (o : OpS X (binaryOp op) g) (ha : QB X a p) (hb : QB X b q) : QB X (.BinOp a op b pos) (pOp g p q) :=
 PE_imp (pe_op o.run ha hb) fun _ _ _ h => rOpB o h
theorem qe_cmp {op : CmpOp} {g : D -> D -> Option D} (o : OpS X (compareOp op) g) (ha : QE X a c) (hb : QE X b c') (hm : behindInMarks op b = false) : QE X (.Compare a [op] [b] pos) (dOp g c c') :=
 PE_imp (pe_cmpR o.run ha hb hm) fun _ _ _ h => rOp o h
theorem qb_cmp {op : CmpOp} {g : D -> D -> Option D} (o : OpS X (compareOp op) g) (ha : QB X a p) (hb : QB X b q) (hm : behindInMarks op b = false) : QB X (.Compare a [op] [b] pos) (pOp g p q) :=
 PE_imp (pe_cmpR o.run ha hb hm) fun _ _ _ h => rOpB o h
noncomputable def gI (C : Int -> Int -> Bool) (f : Int -> Int -> Int) : D -> D -> Option D
 | .int i, .int j => if C i j = true then some (.int (f i j)) else none
 | _, _ => none
noncomputable def gI0 (f : Int -> Int -> Int) : D -> D -> Option D
 | .int i, .int j => some (.int (f i j))
 | _, _ => none
noncomputable def gB0 (f : Int -> Int -> Bool) : D -> D -> Option D
 | .int i, .int j => some (.bl (f i j))
 | _, _ => none
theorem opS_I {f : Value -> Value -> Sem Value} {C : Int -> Int -> Prop} {Cb : Int -> Int -> Bool} {g : Int -> Int -> Int} (h : OpR X f (rI C fun i j => .int (g i j))) (hC : ∀ i j, Cb i j = true -> C i j) : OpS X f (gI Cb g) := by
 refine ⟨OpR_imp h fun x y H Q pz => ?_, fun x y d h => ?_⟩
 ·obtain ⟨F, dx, dy, d, w, b1, b2, eg, hw, q⟩ := pz
  unfold gI at eg;split at eg
  ·split at eg
   ·cases eg; cases hw
    exact ⟨_, _, b1.int, b2.int, hC _ _ (by assumption), q⟩
   ·cases eg
  ·cases eg
 ·unfold gI at h
  split at h
  ·split at h
   ·cases h; exact ⟨_, rfl⟩
   ·cases h
  ·cases h
theorem opS_I0 {f : Value -> Value -> Sem Value} {g : Int -> Int -> Int} (h : OpR X f (rI0 fun i j => .int (g i j))) : OpS X f (gI0 g) := by
 refine ⟨OpR_imp h fun x y H Q pz => ?_, fun x y d h => ?_⟩
 ·obtain ⟨F, dx, dy, d, w, b1, b2, eg, hw, q⟩ := pz
  unfold gI0 at eg;split at eg
  ·cases eg; cases hw
   exact ⟨_, _, b1.int, b2.int, q⟩
  ·cases eg
 ·unfold gI0 at h
  split at h
  ·cases h; exact ⟨_, rfl⟩
  ·cases h
theorem opS_B0 {f : Value -> Value -> Sem Value} {g : Int -> Int -> Bool} (h : OpR X f (rI0 fun i j => .bl (g i j))) : OpS X f (gB0 g) := by
 refine ⟨OpR_imp h fun x y H Q pz => ?_, fun x y d h => ?_⟩
 ·obtain ⟨F, dx, dy, d, w, b1, b2, eg, hw, q⟩ := pz
  unfold gB0 at eg;split at eg
  ·cases eg; cases hw
   exact ⟨_, _, b1.int, b2.int, q⟩
  ·cases eg
 ·unfold gB0 at h
  split at h
  ·cases h; exact ⟨_, rfl⟩
  ·cases h
theorem o_add : OpS X (binaryOp .Add) (gI0 fun i j => i + j) := opS_I0 op_add
theorem o_sub : OpS X (binaryOp .Sub) (gI0 fun i j => i - j) := opS_I0 op_sub
theorem o_and : OpS X (binaryOp .BitAnd) (gI0 Builtin.bitAnd) := opS_I0 op_and
theorem o_or : OpS X (binaryOp .BitOr) (gI0 Builtin.bitOr) := opS_I0 op_or
theorem o_xor : OpS X (binaryOp .BitXor) (gI0 Builtin.bitXor) := opS_I0 op_xor
theorem o_mod : OpS X (binaryOp .Mod) (gI (fun _ j => decide (0 < j)) fun i j => i % j) := opS_I op_mod fun i j h => by simpa using h
theorem o_pow : OpS X (binaryOp .Pow) (gI (fun i j => decide (0 <= j /\ j <= 1000000 /\ i.natAbs < 2 ^ 64)) fun i j => i ^ j.toNat) := opS_I op_pow fun i j h => by simpa [CPow] using h
theorem o_shl : OpS X (binaryOp .LShift) (gI (fun i j => decide (0 <= j /\ j <= 1000000 /\ i.natAbs < 2 ^ 64)) fun i j => i * 2 ^ j.toNat) := opS_I op_shl fun i j h => by simpa [CPow] using h
theorem o_shr : OpS X (binaryOp .RShift) (gI (fun _ j => decide (0 <= j)) fun i j => i / 2 ^ j.toNat) := opS_I op_shr fun i j h => by simpa using h
theorem o_lt : OpS X (compareOp .Lt) (gB0 fun i j => decide (i < j)) := opS_B0 op_lt
theorem o_ge : OpS X (compareOp .GtE) (gB0 fun i j => decide (j <= i)) := opS_B0 op_ge
noncomputable def aNil : DA := fun O => some ([], O)
noncomputable def aCons (c : DE) (ca : DA) : DA := fun O => (c O).bind fun p => (ca p.2).map fun q => (p.1 :: q.1, q.2)
theorem qa_nil : QA X [] aNil := PA_imp pa_nil fun O H Q hq0 => by
 obtain ⟨F, R, OD, xs, OD', r, ec, k⟩ := hq0;cases ec; exact k F H [] Ext.refl rfl r
theorem qa_cons {ca : DA} (ha : QE X e c) (hr : QA X es ca) (hs : autoParam (starEach (e :: es) X.env = (false, eval e X.env) :: starEach es X.env) Ax4._auto_1) : QA X (e :: es) (aCons c ca) := PA_imp (pa_cons ha hr hs) fun O H Q hq0 => by
 obtain ⟨F, R, OD, xs, OD', r, ec, k⟩ := hq0;unfold aCons at ec;rcases h1 : c OD with _ | ⟨x, O1⟩
 ·rw [h1] at ec; cases ec
 ·rw [h1] at ec; simp only [bind_some] at ec
  obtain ⟨⟨ys, O2⟩, e2, e3⟩ := map_pair ec;cases e3;refine ⟨F, R, OD, x, O1, r, h1, fun F1 H1 v x1 r1 => ?_⟩;refine ⟨F1, _, O1, ys, O2, r1, e2, fun F2 H2 vs x2 hl r2 => ?_⟩;refine k F2 H2 (v :: vs) (x1.trans x2) (by simp [hl]) (r2.perm ?_);exact List.perm_middle
noncomputable def dLst (ca : DA) : DE := fun O => (ca O).bind fun p => if p.1.length <= sizeLine then some (.lst true p.1, p.2) else none
noncomputable def dTup (ca : DA) : DE := fun O => (ca O).bind fun p => if p.1.length <= sizeLine then some (.tup p.1, p.2) else none
theorem qe_lst {ca : DA} (h : QA X es ca) : QE X (.List es pos) (dLst ca) := PE_imp (pe_lst h) fun O H Q hq0 => by
 obtain ⟨F, R, OD, d, OD', r, ec, k⟩ := hq0;unfold dLst at ec;rcases h1 : ca OD with _ | ⟨xs, O1⟩
 ·rw [h1] at ec; cases ec
 ·rw [h1] at ec; simp only [bind_some] at ec
  split at ec
  ·rename_i hz
   cases ec;refine ⟨F, R, OD, xs, _, r, h1, fun F1 H1 vs x1 hl r1 => ⟨by rw [<- hl]; exact hz, fun p hp => ?_⟩⟩;obtain ⟨r2, x2⟩ := r1.layL hl hp;exact k F1 _ _ (x1.trans x2) r2
  ·cases ec
theorem qe_tup {ca : DA} {x1} (h : QA X es ca) : QE X (.Tuple es x1 pos) (dTup ca) := PE_imp (pe_tup h) fun O H Q hq0 => by
 obtain ⟨F, R, OD, d, OD', r, ec, k⟩ := hq0;unfold dTup at ec;rcases h1 : ca OD with _ | ⟨xs, O1⟩
 ·rw [h1] at ec; cases ec
 ·rw [h1] at ec; simp only [bind_some] at ec
  split at ec
  ·rename_i hz
   cases ec;refine ⟨F, R, OD, xs, _, r, h1, fun F1 H1 vs x1 hl r1 => ⟨by rw [<- hl]; exact hz, fun p hp => ?_⟩⟩;obtain ⟨F2, x2, r2⟩ := r1.layT hl hp;exact k F2 _ _ (x1.trans x2) r2
  ·cases ec
end
section
variable {K : PySem.W.Frag} {F F' : Addr -> Prop} {H H' : Hp} {d x : D} {v w : V} {L : List Addr} {R : Ro} {OD : DSt} {O : St} {xs : List D} {vs : List V}
theorem OwL.length : ∀ {xs : List D} {vs : List V} {L : List Addr}, OwL K F H xs vs L -> vs.length = xs.length := fun h => h.toP.1.symm
theorem OwL.kid : ∀ {xs : List D} {vs : List V} {L : List Addr} {j : Nat}, OwL K F H xs vs L -> xs[j]? = some x -> ∃ w La Lx Lb, vs[j]? = some w /\ L = La ++ Lx ++ Lb /\ Ow K F H x w Lx /\
  ∀ (F' : Addr -> Prop) (H' : Hp) (x' : D) (Lx' : List Addr), Ext F H F' H' -> (∀ a ∈ La ++ Lb, H' a = H a) -> Ow K F' H' x' w Lx' -> OwL K F' H' (xs.set j x') vs (La ++ Lx' ++ Lb) := by
 intro xs
 induction xs with
 | nil => intro vs L j h e; simp at e
 | cons y ys ih =>
  intro vs L j h e;simp only [OwL] at h;obtain ⟨u, ws, L1, L2, rfl, h1, h2, rfl⟩ := h;cases j with
  | zero =>
   simp at e; subst e;refine ⟨u, [], L1, L2, rfl, rfl, h1, fun F' H' x' Lx' x k o => ?_⟩;simp only [List.set_cons_zero, OwL];exact ⟨u, ws, Lx', L2, rfl, o, h2.mono x fun a ha => k a (by simp [ha]), rfl⟩
  | succ j =>
   obtain ⟨w, La, Lx, Lb, e1, rfl, o, k⟩ := ih (j := j) h2 (by simpa using e);refine ⟨w, L1 ++ La, Lx, Lb, by simpa using e1, by simp, o, fun F' H' x' Lx' x kk o' => ?_⟩;simp only [List.set_cons_succ, OwL];exact ⟨u, ws, L1, La ++ Lx' ++ Lb, rfl, h1.mono x fun a ha => kk a (by simp [ha]), k F' H' x' Lx' x (fun a ha => kk a (by simp at ha ⊢; rcases ha with ha | ha <;> simp [ha])) o', by simp⟩
theorem OwL.get (h : OwL K F H xs vs L) {j : Nat} (e : xs[j]? = some x) : ∃ w, vs[j]? = some w /\ Bor K F H x w := by
 obtain ⟨w, _, Lx, _, e1, _, o, _⟩ := h.kid e;exact ⟨w, e1, Lx, o⟩
theorem OwL.at (h : OwL K F H xs vs L) {i : Int} (e : atI xs i = some x) : ∃ w, atI vs i = some w /\ Bor K F H x w := by
 unfold atI at e ⊢;rw [h.length];rcases hj : ixN xs.length i with _ | j
 ·rw [hj] at e; cases e
 ·rw [hj] at e; exact h.get e
theorem Bor.lst {o : Bool} (b : Bor K F H (.lst o xs) v) : ∃ a vs, v = .ref a /\ SqL K H a vs /\ ∃ L, OwL K F H xs vs L := by
 obtain ⟨L, h⟩ := b;cases o
 ·simp only [Ow] at h
  obtain ⟨a, vs, rfl, f, r, _⟩ := h;exact ⟨a, vs, rfl, f.sq, _, r⟩
 ·simp only [Ow] at h
  obtain ⟨a, vs, L', rfl, e, r, _⟩ := h;exact ⟨a, vs, rfl, .inl (.inl e), _, r⟩
theorem Bor.tup (b : Bor K F H (.tup xs) v) : ∃ a vs, v = .ref a /\ SqT K H a vs /\ ∃ L, OwL K F H xs vs L := by
 obtain ⟨L, h⟩ := b;simp only [Ow] at h;obtain ⟨a, vs, rfl, f, r⟩ := h;exact ⟨a, vs, rfl, f.sq, _, r⟩
noncomputable def ixD : D -> D -> Option D
 | .lst _ xs, .int i => atI xs i
 | .tup xs, .int i => atI xs i
 | .str z, .int i => if z.length <= sizeLine then (atI z.cps.toList i).map fun c => .str ⟨#[c]⟩ else none
 | _, _ => none
end
section
variable {X : Cx} {e a b : Expr} {es : List Expr} {p q : DP} {c c' : DE} {pos : Pos}
theorem rIx_of {F : Addr -> Prop} {H : Hp} {dx dy d : D} {x y : V} {Q : VK} (b1 : Bor X.K F H dx x) (b2 : Bor X.K F H dy y) (e : ixD dx dy = some d) (k : ∀ v, Bor X.K F H d v -> Q v H) : rIx X.K x y H Q := by
 unfold ixD at e;split at e
 ·obtain ⟨a, vs, rfl, s, L, r⟩ := b1.lst
  obtain ⟨w, e1, bw⟩ := r.at e;exact .inl ⟨a, vs, _, w, rfl, b2.int, s, e1, k w bw⟩
 ·obtain ⟨a, vs, rfl, s, L, r⟩ := b1.tup
  obtain ⟨w, e1, bw⟩ := r.at e;exact .inr (.inl ⟨a, vs, _, w, rfl, b2.int, s, e1, k w bw⟩)
 ·split at e
  ·rename_i z i hz
   rcases h : atI z.cps.toList i with _ | ch
   ·rw [h] at e; cases e
   ·rw [h] at e; cases e
    exact .inr (.inr ⟨z, i, ch, b1.str, b2.int, hz, h, k _ ⟨[], Ow.of_sc rfl⟩⟩)
  ·cases e
 ·cases e
theorem qb_ix (ha : QB X a p) (hb : QB X b q) (hs : autoParam (PlainIx b) Ax8._auto_1) : QB X (.Subscript a b pos) (pOp ixD p q) := PE_imp (pe_ix ix_seq ha hb hs) fun O H Q hq0 => by
 obtain ⟨F, R, OD, d, r, ec, k⟩ := hq0;obtain ⟨x, y, e1, e2, eg⟩ := pOp_some ec;refine ⟨F, R, OD, x, r, e1, fun F1 H1 v g1 b1 => ?_⟩;refine ⟨F1, R, OD, y, r.grow g1, e2, fun F2 H2 u g2 b2 => ?_⟩;exact rIx_of (b1.grow g2) b2 eg fun v bv => k F2 H2 v (g1.trans g2) bv
noncomputable def dIx (c c' : DE) : DE := fun O => (c O).bind fun p => (c' p.2).bind fun q => (ixD p.1 q.1).map fun d => (d, q.2)
end
noncomputable def dTest (c : DE) : DT := fun O => (c O).bind fun p => match p.1 with | .bl b => some (b, p.2) | _ => none
noncomputable def tOrD (t u : DT) : DT := fun O => (t O).bind fun p => if p.1 = true then some (true, p.2) else u p.2
noncomputable def tNotD (t : DT) : DT := fun O => (t O).map fun p => (!p.1, p.2)
section
variable {X : Cx} {e a b : Expr} {es rest : List Expr} {p q : DP} {c c' : DE} {t u : DT} {pos : Pos}
theorem dTest_some {O O' : DSt} {k : Bool} (h : dTest c O = some (k, O')) : c O = some (.bl k, O') := by
 unfold dTest at h;rcases h1 : c O with _ | ⟨x, O1⟩
 ·rw [h1] at h; cases h
 ·rw [h1] at h; simp only [bind_some] at h
  split at h
  ·cases h; rfl
  ·cases h
theorem qt_e (h : QE X e c) (he : autoParam (∀ whole, isTrue e X.env whole = (do let v <- whole; standAt e.pos; holding [v] (truthy v))) Ax3._auto_1) : QT X e (dTest c) := PT_imp (pt_val h he) fun O H Q hq0 => by
 obtain ⟨F, R, OD, k, OD', r, ec, kk⟩ := hq0;refine ⟨F, R, OD, _, OD', r, dTest_some ec, fun F' H' v x r' => ⟨k, (r'.bor (by simp)).bl, kk F' H' x r'.pop⟩⟩
theorem qt_cmp {op : CmpOp} {g : D -> D -> Option D} (o : OpS X (compareOp op) g) (ha : QE X a c) (hb : QE X b c') (hm : behindInMarks op b = false) : QT X (.Compare a [op] [b] pos) (dTest (dOp g c c')) :=
 PT_imp (pt_cmpR o.run ha hb hm) fun O H Q hq0 => by
  obtain ⟨F, R, OD, k, OD', r, ec, kk⟩ := hq0;show tOp _ _ _ O H _;exact rOp o ⟨F, R, OD, _, OD', r, dTest_some ec, fun F' H' v x r' => ⟨k, (r'.bor (by simp)).bl, kk F' H' x r'.pop⟩⟩
theorem qt_not (h : QT X e t) : QT X (.UnaryOp .Not e pos) (tNotD t) := PT_imp (pt_not h) fun O H Q hq0 => by
 obtain ⟨F, R, OD, k, OD', r, ec, kk⟩ := hq0;unfold tNotD at ec;obtain ⟨⟨b, O1⟩, e1, e2⟩ := map_pair ec;cases e2;exact ⟨F, R, OD, b, O1, r, e1, fun F' H' x r' => kk F' H' x r'⟩
theorem qw_t (h : QW X e t) : QT X e t := h.pt
theorem qw_or1 (h : QT X a t) : QW X (.BoolOp .Or [a] pos) t := pw_or1 h
theorem qw_or (ha : QT X a t) (hb : QW X (.BoolOp .Or (b :: rest) pos) u) : QW X (.BoolOp .Or (a :: b :: rest) pos) (tOrD t u) := PW_imp (pw_or ha hb) fun O H Q hq0 => by
 obtain ⟨F, R, OD, k, OD', r, ec, kk⟩ := hq0;unfold tOrD at ec;rcases h1 : t OD with _ | ⟨x, O1⟩
 ·rw [h1] at ec; cases ec
 ·rw [h1] at ec; simp only [bind_some] at ec
  refine ⟨F, R, OD, x, O1, r, h1, fun F' H' x1 r' => ?_⟩;cases x
  ·simp only [Bool.false_eq_true, if_false] at ec ⊢
   exact ⟨F', R, O1, k, OD', r', ec, fun F2 H2 x2 r2 => kk F2 H2 (x1.trans x2) r2⟩
  ·simp only [if_true] at ec ⊢
   cases ec;exact kk F' H' x1 r'
end
noncomputable def sSkip : DS := fun O => some (.nx O)
noncomputable def sSeq (c d : DS) : DS := fun O => (c O).bind fun o => match o with | .nx O' => d O' | o => some o
noncomputable def sSet (i : Nat) (c : DE) : DS := fun O => (c O).bind fun p => if i < p.2.length then some (.nx (p.2.set i (some p.1))) else none
noncomputable def sIf (t : DT) (c d : DS) : DS := fun O => (t O).bind fun p => if p.1 = true then c p.2 else d p.2
noncomputable def sRet (c : DE) : DS := fun O => (c O).map fun p => .rt p.1 p.2
noncomputable def sDrop (c : DE) : DS := fun O => (c O).map fun p => .nx p.2
noncomputable def sNone : DS := fun _ => none
section
variable {X : Cx} {e a b : Expr} {st : Stmt} {sts : List Stmt} {c c' : DE} {s s' : DS} {t u : DT} {pos : Pos} {W W' : List Nat}
theorem qss_nil : QSs X [] sSkip [] := PSs_imp pss_nil fun En O H hq0 => by
 obtain ⟨F, R, OD, o, r, ec, k⟩ := hq0;cases ec; exact k F H O Ext.refl Kp.refl r
theorem qss_cons (h1 : QS X st s W) (h2 : QSs X sts s' W') : QSs X (st :: sts) (sSeq s s') (W ++ W') := PSs_imp (pss_cons h1 h2) fun En O H hq0 => by
 obtain ⟨F, R, OD, o, r, ec, k⟩ := hq0;unfold sSeq at ec;rcases h : s OD with _ | o1
 ·rw [h] at ec; cases ec
 ·rw [h] at ec; simp only [bind_some] at ec
  refine ⟨F, R, OD, o1, r, h, fun F1 H1 O1 x1 kp1 => ?_⟩;have kp1' : Kp (W ++ W') O O1 := kp1.mono fun k hk => by simp [hk]
  cases o1 with
  | nx O2 =>
   intro r1;refine ⟨F1, R, O2, o, r1, ec, fun F2 H2 O3 x2 kp2 => ?_⟩;exact k F2 H2 O3 (x1.trans x2) (kp1'.trans (kp2.mono fun k hk => by simp [hk]))
  | bk O2 => cases ec; exact k F1 H1 O1 x1 kp1'
  | ct O2 => cases ec; exact k F1 H1 O1 x1 kp1'
  | rt d O2 => cases ec; exact k F1 H1 O1 x1 kp1'
theorem qss_one (h1 : QS X st s W) : QSs X [st] s W := pss_one h1
theorem qss_never : QSs X sts sNone [] := PSs_imp pss_never fun En O H hq0 => by obtain ⟨F, R, OD, o, r, ec, k⟩ := hq0; cases ec
theorem qs_set (i : Nat) {x : Str} {pos' : Pos} (hN : X.N.Nodup) (he : QE X e c) (hi : autoParam (X.N[i]? = some x) Ax4._auto_1) (hx : autoParam (Loc X.env.scope x) Ax9._auto_1) (hs : autoParam (swapsWith e (some (.Name x pos')) pos.line X.env = pure false) Ax4._auto_1) (hf : autoParam (X.fn x = true \/ X.env.scope.names.lookup x = some .local) Ax0._auto_1) :
  QS X (.Assign [.Name x pos'] e pos) (sSet i c) [i] := PS_imp (ps_set hN hi hx he hs hf) fun En O H hq0 => by
 obtain ⟨F, R, OD, o, r, ec, k⟩ := hq0;unfold sSet at ec;rcases h : c OD with _ | ⟨d, O1⟩
 ·rw [h] at ec; cases ec
 ·rw [h] at ec; simp only [bind_some] at ec
  split at ec
  ·rename_i hl
   cases ec;refine ⟨F, R, OD, d, O1, r, h, fun F1 H1 v x1 r1 => ?_⟩;exact k F1 H1 _ x1 Kp.set (r1.store (by rw [<- r1.mt.length]; exact hl))
  ·cases ec
theorem qs_if {as bs : List Stmt} (ht : QT X e t) (ha : QSs X as s W) (hb : QSs X bs s' W') : QS X (.If e as bs pos) (sIf t s s') (W ++ W') := PS_imp (ps_if ht ha hb) fun En O H hq0 => by
 obtain ⟨F, R, OD, o, r, ec, k⟩ := hq0;unfold sIf at ec;rcases h : t OD with _ | ⟨x, O1⟩
 ·rw [h] at ec; cases ec
 ·rw [h] at ec; simp only [bind_some] at ec
  refine ⟨F, R, OD, x, O1, r, h, fun F1 H1 x1 r1 => ?_⟩;cases x
  ·simp only [Bool.false_eq_true, if_false] at ec ⊢
   exact ⟨F1, R, O1, o, r1, ec, fun F2 H2 O2 x2 kp => k F2 H2 O2 (x1.trans x2) (kp.mono fun k hk => by simp [hk])⟩
  ·simp only [if_true] at ec ⊢
   exact ⟨F1, R, O1, o, r1, ec, fun F2 H2 O2 x2 kp => k F2 H2 O2 (x1.trans x2) (kp.mono fun k hk => by simp [hk])⟩
theorem qs_ret (he : QE X e c) : QS X (.Return (some e) pos) (sRet c) [] := PS_imp (ps_ret he) fun En O H hq0 => by
 obtain ⟨F, R, OD, o, r, ec, k⟩ := hq0;unfold sRet at ec;rcases h : c OD with _ | ⟨d, O1⟩
 ·rw [h] at ec; cases ec
 ·rw [h] at ec; cases ec
  exact ⟨F, R, OD, d, O1, r, h, fun F1 H1 v x1 r1 => k F1 H1 O x1 Kp.refl v r1⟩
theorem qs_expr (he : QE X e c) (hs : autoParam (swapsWith e none pos.line X.env = pure false) Ax4._auto_1) : QS X (.Expr e pos) (sDrop c) [] := PS_imp (ps_expr he hs) fun En O H hq0 => by
 obtain ⟨F, R, OD, o, r, ec, k⟩ := hq0;unfold sDrop at ec;rcases h : c OD with _ | ⟨d, O1⟩
 ·rw [h] at ec; cases ec
 ·rw [h] at ec; cases ec
  exact ⟨F, R, OD, d, O1, r, h, fun F1 H1 v x1 r1 => k F1 H1 O x1 Kp.refl r1.pop⟩
end
noncomputable abbrev DG := D -> DSt -> Option DSt
noncomputable def rG (K : PySem.W.Frag) (g : DG) (W : List Nat) : TG := fun v O H Q => ∃ F R OD d OD', Rel K F H OD O ((d, v) :: R) /\ g d OD = some OD' /\ ∀ F' H' O', Ext F H F' H' -> Kp W O O' -> Rel K F' H' OD' O' R -> Q O' H'
noncomputable def QG (X : Cx) (tg : Expr) (g : DG) (W : List Nat) : Prop := PG X tg (rG X.K g W)
theorem PG_imp {X : Cx} {tg : Expr} {t t' : TG} (h : PG X tg t) (i : ∀ v O H Q, t' v O H Q -> t v O H Q) : PG X tg t' := fun pins s O H v u Q I rv h' => h pins s O H v u Q I rv (i v O H Q h')
noncomputable abbrev DGs := List D -> DSt -> Option DSt
noncomputable def rGs (K : PySem.W.Frag) (g : DGs) (W : List Nat) : TGs := fun vs O H Q => ∃ F R OD ds OD', ds.length = vs.length /\ Rel K F H OD O (ds.zip vs ++ R) /\ g ds OD = some OD' /\ ∀ F' H' O', Ext F H F' H' -> Kp W O O' -> Rel K F' H' OD' O' R -> Q O' H'
noncomputable def QGs (X : Cx) (ts : List Expr) (g : DGs) (W : List Nat) : Prop := PGs X ts (rGs X.K g W)
theorem PGs_imp {X : Cx} {ts : List Expr} {t t' : TGs} (h : PGs X ts t) (i : ∀ v O H Q, t' v O H Q -> t v O H Q) : PGs X ts t' := fun pins s O H v u Q I rv h' => h pins s O H v u Q I rv (i v O H Q h')
noncomputable def gNm (i : Nat) : DG := fun d O => if i < O.length then some (O.set i (some d)) else none
noncomputable def gNilD : DGs := fun ds O => match ds with | [] => some O | _ => none
noncomputable def gConsD (g : DG) (gs : DGs) : DGs := fun ds O => match ds with | d :: r => (g d O).bind fun O' => gs r O' | [] => none
noncomputable def gTupD (n : Nat) (gs : DGs) : DG := fun d O => match d with | .tup xs => if xs.length = n then gs xs O else none | _ => none
section
variable {X : Cx} {e tg : Expr} {ts : List Expr} {g : DG} {gs : DGs} {pos : Pos} {W W' : List Nat}
theorem qg_name (i : Nat) {x : Str} {pos : Pos} (hN : X.N.Nodup) (hi : autoParam (X.N[i]? = some x) Ax4._auto_1) (hx : autoParam (Loc X.env.scope x) Ax9._auto_1) (hf : autoParam (X.fn x = true \/ X.env.scope.names.lookup x = some .local) Ax0._auto_1) :
  QG X (.Name x pos) (gNm i) [i] := PG_imp (pg_name hN hi hx hf) fun v O H Q hq0 => by
 obtain ⟨F, R, OD, d, OD', r, ec, k⟩ := hq0;unfold gNm at ec;split at ec
 ·rename_i hl
  cases ec;exact k F H _ Ext.refl Kp.set (r.store (by rw [<- r.mt.length]; exact hl))
 ·cases ec
theorem qgs_nil : QGs X [] gNilD [] := PGs_imp pgs_nil fun vs O H Q hq0 => by
 obtain ⟨F, R, OD, ds, OD', hl, r, ec, k⟩ := hq0;cases ds with
 | nil => cases ec; exact ⟨List.length_eq_zero_iff.mp hl.symm, k F H O Ext.refl Kp.refl (by simpa using r)⟩
 | cons d ds => cases ec
theorem qgs_cons (h1 : QG X e g W) (h2 : QGs X ts gs W') (hs : autoParam ((assignEach (e :: ts) X.env).map (·.2) = assign e X.env :: (assignEach ts X.env).map (·.2)) Ax4._auto_1) : QGs X (e :: ts) (gConsD g gs) (W ++ W') :=
 PGs_imp (pgs_cons h1 h2 hs) fun vs O H Q hq0 => by
  obtain ⟨F, R, OD, ds, OD', hl, r, ec, k⟩ := hq0;cases ds with
  | nil => cases ec
  | cons d ds =>
   cases vs with
   | nil => simp at hl
   | cons v vs =>
    simp only [gConsD] at ec;rcases h : g d OD with _ | O1
    ·rw [h] at ec; cases ec
    ·rw [h] at ec; simp only [bind_some] at ec
     refine ⟨v, vs, rfl, F, ds.zip vs ++ R, OD, d, O1, by simpa using r, h, fun F1 H1 O2 x1 kp1 r1 => ?_⟩;exact ⟨F1, R, O1, ds, OD', by simpa using hl, r1, ec, fun F2 H2 O3 x2 kp2 r2 => k F2 H2 O3 (x1.trans x2) ((kp1.mono fun k hk => by simp [hk]).trans (kp2.mono fun k hk => by simp [hk])) r2⟩
theorem qg_tup {n : Nat} {k : Nat} (hc : X.calm = true) (h : QGs X ts gs W) (hn : autoParam ((assignEach ts X.env).length = n) Ax4._auto_1) (hst : autoParam ((assignEach ts X.env).findIdx? (·.1) = none) Ax4._auto_1) : QG X (.Tuple ts k pos) (gTupD n gs) W :=
 PG_imp (pg_tup hc h hn hst) fun v O H Q hq0 => by
  obtain ⟨F, R, OD, d, OD', r, ec, k⟩ := hq0;unfold gTupD at ec;split at ec
  ·rename_i xs
   split at ec
   ·rename_i hxn
    obtain ⟨a, vs, rfl, ft, hl, r1⟩ := r.openT;exact ⟨a, vs, rfl, ft.sq, by rw [<- hl]; exact hxn, F, R, OD, xs, OD', hl, r1, ec, k⟩
   ·cases ec
  ·cases ec
noncomputable def sAsg (c : DE) (g : DG) : DS := fun O => (c O).bind fun p => (g p.1 p.2).map .nx
theorem qs_asg {c : DE} (he : QE X e c) (hg : QG X tg g W) (hs : autoParam (swapsWithSole [tg] e pos.line X.env = pure false) Ax4._auto_1) (hw : autoParam (swappedStores [tg] e X.env = pure none) Ax4._auto_1)
  (h1 : autoParam ((assignEach [tg] X.env).map (·.2) = [assign tg X.env]) Ax4._auto_1) : QS X (.Assign [tg] e pos) (sAsg c g) W := PS_imp (ps_asg he hg hs hw h1) fun En O H hq0 => by
 obtain ⟨F, R, OD, o, r, ec, k⟩ := hq0;unfold sAsg at ec;rcases h : c OD with _ | ⟨d, O1⟩
 ·rw [h] at ec; cases ec
 ·rw [h] at ec; simp only [bind_some] at ec
  rcases h2 : g d O1 with _ | O2
  ·rw [h2] at ec; cases ec
  ·rw [h2] at ec; cases ec
   refine ⟨F, R, OD, d, O1, r, h, fun F1 H1 v x1 r1 => ?_⟩;exact ⟨F1, R, O1, d, O2, r1, h2, fun F2 H2 O3 x2 kp r2 => k F2 H2 O3 (x1.trans x2) kp r2⟩
end
noncomputable def dLoop (g : DG) (b : DS) : List D -> DSt -> Option Out
 | [], O => some (.nx O)
 | x :: xs, O => (g x O).bind fun O1 => (b O1).bind fun o => match o with
  | .nx O2 => dLoop g b xs O2
  | .ct O2 => dLoop g b xs O2
  | .bk O2 => some (.nx O2)
  | .rt d O2 => some (.rt d O2)
noncomputable def rngD (lo hi : Int) : List D := (List.range (hi - lo).toNat).map fun (k : Nat) => D.int (lo + k)
noncomputable def rOk (i : Int) : Bool := decide (-(2 ^ 62) <= i /\ i < 2 ^ 62)
section
variable {X : Cx} {e tg : Expr} {ts : List Expr} {g : DG} {c : DE} {s : DS} {pos : Pos} {W W' : List Nat} {body : List Stmt}
theorem turn_of {F0 F : Addr -> Prop} {H0 H : Hp} {R R0 : Ro} {OD : DSt} {O0 O : St} {x : D} {v : V} {xs : List D} {En : Ends} {N : St -> Hp -> Prop} {o : Out} (hR : ∀ F' H', Ext F H F' H' -> ∀ OD' O' S, Rel X.K F' H' OD' O' (S ++ R) -> Rel X.K F' H' OD' O' (S ++ R0))
  (r : Rel X.K F H OD O ((x, v) :: R)) (x0 : Ext F0 H0 F H) (kp : Kp (W ++ W') O0 O) (h : dLoop g s (x :: xs) OD = some o)
  (k : ∀ F' H' O', Ext F0 H0 F' H' -> Kp (W ++ W') O0 O' -> Th X.K En R0 F' H' O' o)
  (hN : ∀ F' H' OD' O', Ext F H F' H' -> Kp (W ++ W') O0 O' -> Rel X.K F' H' OD' O' R -> dLoop g s xs OD' = some o -> N O' H') :
  rG X.K g W v O H fun O2 H2 => rS X.K s W' { En with nx := N, ct := N, bk := En.nx } O2 H2 := by
 simp only [dLoop] at h;rcases h1 : g x OD with _ | O1
 ·rw [h1] at h; cases h
 ·rw [h1] at h; simp only [bind_some] at h
  rcases h2 : s O1 with _ | o1
  ·rw [h2] at h; cases h
  ·rw [h2] at h; simp only [bind_some] at h
   refine ⟨F, R, OD, x, O1, r, h1, fun F1 H1 O2 x1 kp1 r1 => ?_⟩;refine ⟨F1, R, O1, o1, r1, h2, fun F2 H2 O3 x2 kp2 => ?_⟩;have kp3 : Kp (W ++ W') O0 O3 := (kp.trans (kp1.mono fun k hk => by simp [hk])).trans (kp2.mono fun k hk => by simp [hk]);cases o1 with
   | nx O4 => exact fun r2 => hN F2 H2 O4 O3 (x1.trans x2) kp3 r2 h
   | ct O4 => exact fun r2 => hN F2 H2 O4 O3 (x1.trans x2) kp3 r2 h
   | bk O4 =>
    cases h;exact fun r2 => k F2 H2 O3 (x0.trans (x1.trans x2)) kp3 (hR F2 H2 (x1.trans x2) _ _ [] r2)
   | rt d O4 =>
    cases h;exact fun v r2 => k F2 H2 O3 (x0.trans (x1.trans x2)) kp3 v (hR F2 H2 (x1.trans x2) _ _ [(d, v)] r2)
noncomputable def dWh (t : DT) (b : DS) : Nat -> DSt -> Option Out
 | 0, _ => none
 | n + 1, O => (t O).bind fun p => if p.1 = true then (b p.2).bind fun o => match o with
  | .nx O2 => dWh t b n O2
  | .ct O2 => dWh t b n O2
  | .bk O2 => some (.nx O2)
  | .rt d O2 => some (.rt d O2) else some (.nx p.2)
noncomputable def sWh (fuel : DSt -> Nat) (t : DT) (b : DS) : DS := fun O => dWh t b (fuel O) O
theorem qs_while {t : DT} {fuel : DSt -> Nat} (ht : QT X e t) (hb : QSs X body s W) (hp : PassesOwn (model X.prog X.w) X.A X.env X.xe) : QS X (.While e body [] pos) (sWh fuel t s) W :=
 PS_imp (ps_while hp ht hb) fun En O H hq0 => by
  obtain ⟨F, R, OD, o, r, ec, k⟩ := hq0;unfold sWh at ec;refine ⟨fun m O1 H1 => ∃ F1 OD1, Ext F H F1 H1 /\ Kp W O O1 /\ Rel X.K F1 H1 OD1 O1 R /\ dWh t s m OD1 = some o, ⟨_, F, OD, Ext.refl, Kp.refl, r, ec⟩, ?_⟩;rintro m O1 H1 ⟨F1, OD1, x1, kp1, r1, h1⟩;cases m with
  | zero => cases h1
  | succ m =>
   simp only [dWh] at h1;rcases h : t OD1 with _ | ⟨b, O2⟩
   ·rw [h] at h1; cases h1
   ·rw [h] at h1; simp only [bind_some] at h1
    refine ⟨F1, R, OD1, b, O2, r1, h, fun F2 H2 x2 r2 => ?_⟩;cases b
    ·simp only [Bool.false_eq_true, if_false] at h1 ⊢
     cases h1;exact k F2 H2 O1 (x1.trans x2) kp1 r2
    ·simp only [if_true] at h1 ⊢
     rcases h3 : s O2 with _ | o1
     ·rw [h3] at h1; cases h1
     ·rw [h3] at h1; simp only [bind_some] at h1
      refine ⟨fun O' H' => ∃ F1 OD1, Ext F H F1 H' /\ Kp W O O' /\ Rel X.K F1 H' OD1 O' R /\ dWh t s m OD1 = some o, fun O' H' q => ⟨m, Nat.lt_succ_self m, q⟩, ?_⟩;refine ⟨F2, R, O2, o1, r2, h3, fun F3 H3 O3 x3 kp3 => ?_⟩;have kp4 := kp1.trans kp3;have x4 := (x1.trans x2).trans x3;cases o1 with
      | nx O4 => exact fun r3 => ⟨F3, O4, x4, kp4, r3, h1⟩
      | ct O4 => exact fun r3 => ⟨F3, O4, x4, kp4, r3, h1⟩
      | bk O4 => cases h1; exact fun r3 => k F3 H3 O3 x4 kp4 r3
      | rt d O4 => cases h1; exact fun v r3 => k F3 H3 O3 x4 kp4 v r3
end
noncomputable abbrev GF := List D -> Option (D × List D)
noncomputable def spD (K : PySem.W.Frag) (n : Nat) (g : GF) : Sp := fun vs H Q _ => vs.length = n /\ ∃ F R ds r ds', ds.length = vs.length /\ G K F H (ds.zip vs ++ R) /\ g ds = some (r, ds') /\
 ∀ F' H' v, Ext F H F' H' -> ds'.length = vs.length -> G K F' H' ((r, v) :: (ds'.zip vs ++ R)) -> Q v H'
noncomputable def inD (W : List Nat) : Nat -> List D -> List D
 | _, [] => []
 | k, d :: ds => (if k ∈ W then d.fz else d) :: inD W (k + 1) ds
noncomputable def outD (W : List Nat) (O : DSt) : Nat -> List D -> List D
 | _, [] => []
 | k, d :: ds => (if k ∈ W then d.fz else (dget O k).getD .hole) :: outD W O (k + 1) ds
noncomputable def gOf (N : Nat) (W : List Nat) (c : DS) : GF := fun ds => (c ((inD W 0 ds).map some ++ List.replicate (N - ds.length) none)).bind fun o => match o with
 | .rt d O => some (d, outD W O 0 ds)
 | .nx O => some (.non, outD W O 0 ds)
 | _ => none
section
variable {K : PySem.W.Frag} {F F' : Addr -> Prop} {H H' : Hp}
noncomputable def frD (W : List Nat) : Nat -> List D -> List V -> Ro
 | k, d :: ds, v :: vs => if k ∈ W then (d.fz, v) :: frD W (k + 1) ds vs else frD W (k + 1) ds vs
 | _, _, _ => []
theorem inD_length (W : List Nat) : ∀ (k : Nat) (ds : List D), (inD W k ds).length = ds.length
 | _, [] => rfl
 | k, d :: ds => by simp [inD, inD_length W (k + 1) ds]
theorem outD_length (W : List Nat) (O : DSt) : ∀ (k : Nat) (ds : List D), (outD W O k ds).length = ds.length
 | _, [] => rfl
 | k, d :: ds => by simp [outD, outD_length W O (k + 1) ds]
theorem pull {α : Type} {x : α} {A B C : List α} : (A ++ (B ++ x :: C)).Perm (x :: (A ++ (B ++ C))) := ((List.perm_middle (a := x) (l₁ := B) (l₂ := C)).append_left A).trans List.perm_middle
theorem entry (W : List Nat) : ∀ {ds : List D} {vs : List V} {k : Nat} {F : Addr -> Prop} {R : Ro}, ds.length = vs.length -> G K F H (ds.zip vs ++ R) -> ∃ F', Ext F H F' H /\ G K F' H ((inD W k ds).zip vs ++ (frD W k ds vs ++ R))
 | [], [], _, F, R, _, g => ⟨F, Ext.refl, g⟩
 | d :: ds, v :: vs, k, F, R, hl, g => by
  have hl' : ds.length = vs.length := by simpa using hl
  have g0 : G K F H ((d, v) :: (ds.zip vs ++ R)) := by simpa using g
  by_cases hk : k ∈ W
  ·obtain ⟨F1, x1, g1, o1⟩ := g0.freeze
   have g2 : G K F1 H (ds.zip vs ++ ((d.fz, v) :: (d.fz, v) :: R)) := (g1.push o1).perm (((List.perm_middle).symm.cons _).trans (List.perm_middle).symm);obtain ⟨F2, x2, g3⟩ := entry W (k := k + 1) hl' g2;refine ⟨F2, x1.trans x2, ?_⟩;simp only [inD, frD, hk, if_true, List.zip_cons_cons];exact g3.perm (pull.trans ((List.perm_middle.append_left _).cons _))
  ·obtain ⟨F2, x2, g3⟩ := entry W (k := k + 1) (R := (d, v) :: R) hl' (g0.perm (List.perm_middle.symm))
   refine ⟨F2, x2, ?_⟩;simp only [inD, frD, hk, if_false, List.zip_cons_cons];exact g3.perm pull
theorem dget_set_ne {O : DSt} {i j : Nat} {o : Option D} (h : i ≠ j) : dget (O.set i o) j = dget O j := by
 unfold dget; rw [List.getElem?_set_ne h]
theorem outD_set (W : List Nat) {O : DSt} {o : Option D} {i : Nat} : ∀ {k : Nat} {ds : List D}, i < k -> outD W (O.set i o) k ds = outD W O k ds
 | _, [], _ => rfl
 | k, d :: ds, h => by simp only [outD]; rw [dget_set_ne oM, outD_set W (k := k + 1) oM]
theorem exitP (W : List Nat) {O : St} : ∀ {ds : List D} {vs : List V} {k : Nat} {OD : DSt} {R : Ro}, ds.length = vs.length -> (∀ (j : Nat) v, vs[j]? = some v -> k + j ∉ W -> O[k + j]? = some (some v)) ->
  Rel K F H OD O (frD W k ds vs ++ R) -> ∃ OD2, Rel K F H OD2 O ((outD W OD k ds).zip vs ++ R) := by
 intro ds
 induction ds with
 | nil =>
  intro vs k OD R hl hv r;cases vs with
  | nil => exact ⟨OD, r⟩
  | cons _ _ => cases hl
 | cons d ds ih =>
  intro vs k OD R hl hv r;cases vs with
  | nil => cases hl
  | cons v vs =>
   have hl' : ds.length = vs.length := by simpa using hl
   have hv' : ∀ (j : Nat) u, vs[j]? = some u -> k + 1 + j ∉ W -> O[k + 1 + j]? = some (some u) := fun j u e h => by
    have q := hv (j + 1) u (by simpa using e) (by rw [show k + (j + 1) = k + 1 + j by omega]; exact h);rw [show k + (j + 1) = k + 1 + j by omega] at q; exact q
   by_cases hk : k ∈ W
   ·simp only [frD, hk, if_true] at r
    obtain ⟨O2, r2⟩ := ih (k := k + 1) (R := (d.fz, v) :: R) hl' hv' (r.perm List.perm_middle.symm);refine ⟨O2, ?_⟩;simp only [outD, hk, if_true, List.zip_cons_cons];exact r2.perm List.perm_middle
   ·simp only [frD, hk, if_false] at r
    have e0 : O[k]? = some (some v) := by simpa using hv 0 v rfl (by simpa using hk)
    rcases hd : dget OD k with _ | dk
    ·have r1 : Rel K F H OD O ((.hole, v) :: (frD W (k + 1) ds vs ++ R)) := r.push (by simp only [Ow])
     obtain ⟨O2, r2⟩ := ih (k := k + 1) (R := (.hole, v) :: R) hl' hv' (r1.perm List.perm_middle.symm);refine ⟨O2, ?_⟩;simp only [outD, hk, if_false, List.zip_cons_cons, hd, Option.getD_none];exact r2.perm List.perm_middle
    ·obtain ⟨v', hv1, r1⟩ := r.take (dget_some hd)
     rw [e0] at hv1; cases hv1;obtain ⟨O2, r2⟩ := ih (k := k + 1) (R := (dk, v) :: R) hl' hv' (r1.perm List.perm_middle.symm);refine ⟨O2, ?_⟩;simp only [outD, hk, if_false, List.zip_cons_cons, hd, Option.getD_some];rw [outD_set W (Nat.lt_succ_self k)] at r2;exact r2.perm List.perm_middle
theorem sl_none' : ∀ {n : Nat} {O : St}, sl (List.replicate n none) O = []
 | 0, O => by cases O <;> rfl
 | n + 1, [] => rfl
 | n + 1, o :: O => by rw [List.replicate_succ]; exact sl_none' (n := n) (O := O)
theorem sl_start : ∀ {ds : List D} {vs : List V} {n : Nat}, ds.length = vs.length -> sl (ds.map some ++ List.replicate n none) (vs.map some ++ List.replicate n none) = ds.zip vs
 | [], [], n, _ => by simpa using sl_none'
 | d :: ds, v :: vs, n, h => by
  show (d, v) :: sl (ds.map some ++ List.replicate n none) (vs.map some ++ List.replicate n none) = _;rw [sl_start (by simpa using h)]; rfl
theorem mt_none : ∀ {n : Nat}, Mt (List.replicate n none) (List.replicate n none)
 | 0 => trivial
 | n + 1 => by rw [List.replicate_succ, List.replicate_succ]; exact mt_none (n := n)
theorem mt_start : ∀ {ds : List D} {vs : List V} {n : Nat}, ds.length = vs.length -> Mt (ds.map some ++ List.replicate n none) (vs.map some ++ List.replicate n none)
 | [], [], n, _ => by simpa using mt_none
 | d :: ds, v :: vs, n, h => mt_start (ds := ds) (vs := vs) (n := n) (by simpa using h)
end
section
variable {P : Program} {w : World} {K : PySem.W.Frag} {mg : Str -> Option Value} {base : Heap}
theorem fn_D {x qual : Str} {st : Stmt} {f : Addr} {fd : FuncData} {N ps : List Str} {k : Nat} {W : List Nat} {c : DS} (F : Fun K x qual st f fd) (S : FnScope N ps (defScope st)) (hnp : ps.length <= N.length)
  (hbody : ∀ (cdv : Value) (A : Around) (outer : List Env) (s : Shared) (H : Hp) (E : XK), Room k (A.deeper (envOfC qual (defScope st) s.heap.objs.size f cdv)) ->
   QSs (cxOf CX0 P w K mg base N qual (defScope st) f cdv A outer s H E).nox (defBody st) c W) :
  FnOk P w K mg base CX0 (k + 1) f fd ps (spD K ps.length (gOf N.length W c)) := by
 refine F.ok S (fun vs H Q E h => h.1) (fun cdv A outer s H vs Q E hr h => ?_);obtain ⟨hlen, F0, R, ds, r, ds', hl, g, eg, kk⟩ := h;refine ⟨_, hbody cdv A outer s H E hr, ?_⟩;show rS K c W _ _ _;unfold gOf at eg;obtain ⟨F1, x1, g1⟩ := entry W (k := 0) hl g;have hl2 : (inD W 0 ds).length = vs.length := by rw [inD_length]; exact hl
 have est : L2.start N vs = vs.map some ++ List.replicate (N.length - ds.length) none := by unfold L2.start; rw [hl]
 have r0 : Rel K F1 H ((inD W 0 ds).map some ++ List.replicate (N.length - ds.length) none) (L2.start N vs) (frD W 0 ds vs ++ R) := by
  rw [est];exact ⟨mt_start hl2, by rw [sl_start hl2]; exact g1⟩
 rcases h : c ((inD W 0 ds).map some ++ List.replicate (N.length - ds.length) none) with _ | o
 ·rw [h] at eg; cases eg
 ·rw [h] at eg; simp only [bind_some] at eg
  refine ⟨F1, _, _, o, r0, h, fun F2 H2 O2 x2 kp => ?_⟩;have hv : ∀ (j : Nat) v, vs[j]? = some v -> 0 + j ∉ W -> O2[0 + j]? = some (some v) := fun j v e hj => by
   rw [kp (0 + j) hj, Nat.zero_add, est];have hjl : j < vs.length := (List.getElem?_eq_some_iff.mp e).1;rw [List.getElem?_append_left (by simpa using hjl)];simp [e]
  cases o with
  | nx O3 =>
   cases eg;intro r3;obtain ⟨O4, r4⟩ := exitP W (k := 0) hl hv r3;exact kk F2 H2 .non (x1.trans x2) (by rw [outD_length]; exact hl) ((r4.scal (d := .non) (w := .non) rfl).g.popN)
  | rt d O3 =>
   cases eg;intro v r3;obtain ⟨O4, r4⟩ := exitP W (k := 0) (R := (_, v) :: R) hl hv (r3.perm List.perm_middle.symm);exact kk F2 H2 v (x1.trans x2) (by rw [outD_length]; exact hl) ((r4.perm List.perm_middle).g.popN)
  | bk O3 => cases eg
  | ct O3 => cases eg
end
inductive Arg where
 | bo (i : Nat) | ex (c : DE)
noncomputable def evM : List Arg -> DSt -> Option (List (Option D) × DSt)
 | [], O => some ([], O)
 | .bo i :: as, O => (dget O i).bind fun _ => (evM as O).map fun p => (none :: p.1, p.2)
 | .ex c :: as, O => (c O).bind fun q => (evM as q.2).map fun p => (some q.1 :: p.1, p.2)
noncomputable def fillM : List Arg -> List (Option D) -> DSt -> Option (List D × DSt)
 | .bo i :: as, none :: os, O => (dget O i).bind fun d => match d.sc with
  | some _ => (fillM as os O).map fun p => (d :: p.1, p.2)
  | none => (fillM as os (O.set i none)).map fun p => (d :: p.1, p.2)
 | .ex _ :: as, some d :: os, O => (fillM as os O).map fun p => (d :: p.1, p.2)
 | [], [], O => some ([], O)
 | _, _, _ => none
noncomputable def backM : List Arg -> List D -> DSt -> DSt
 | .bo i :: as, d :: ds, O => match d.sc with
  | some _ => backM as ds O
  | none => backM as ds (O.set i (some d))
 | .ex _ :: as, _ :: ds, O => backM as ds O
 | _, _, O => O
noncomputable def dCall (g : GF) (as : List Arg) : DE := fun O => (evM as O).bind fun p => (fillM as p.1 p.2).bind fun q => (g q.1).map fun r => (r.1, backM as r.2 q.2)
noncomputable def OkM : List Arg -> List (Option D) -> List V -> St -> Prop
 | .bo i :: as, none :: os, v :: vs, O => O[i]? = some (some v) /\ OkM as os vs O
 | .ex _ :: as, some _ :: os, _ :: vs, O => OkM as os vs O
 | [], [], [], _ => True
 | _, _, _, _ => False
noncomputable def tz : List (Option D) -> List V -> Ro
 | none :: os, _ :: vs => tz os vs
 | some d :: os, v :: vs => (d, v) :: tz os vs
 | _, _ => []
noncomputable def rM (K : PySem.W.Frag) (as : List Arg) : TA := fun O H Q => ∃ F R OD os OD', Rel K F H OD O R /\ evM as OD = some (os, OD') /\ ∀ F' H' vs, Ext F H F' H' -> OkM as os vs O -> Rel K F' H' OD' O (tz os vs ++ R) -> Q vs H'
noncomputable def QM (X : Cx) (es : List Expr) (as : List Arg) : Prop := PA X es (rM X.K as)
section
variable {X : Cx} {e : Expr} {es : List Expr} {as : List Arg} {c : DE}
theorem qm_nil : QM X [] [] := PA_imp pa_nil fun O H Q hq0 => by
 obtain ⟨F, R, OD, os, OD', r, ec, k⟩ := hq0;cases ec; exact k F H [] Ext.refl trivial r
theorem qm_ex (ha : QE X e c) (hr : QM X es as) (hs : autoParam (starEach (e :: es) X.env = (false, eval e X.env) :: starEach es X.env) Ax4._auto_1) : QM X (e :: es) (.ex c :: as) := PA_imp (pa_cons ha hr hs) fun O H Q hq0 => by
 obtain ⟨F, R, OD, os, OD', r, ec, k⟩ := hq0;simp only [evM] at ec;rcases h1 : c OD with _ | ⟨x, O1⟩
 ·rw [h1] at ec; cases ec
 ·rw [h1] at ec; simp only [bind_some] at ec
  obtain ⟨⟨os2, O2⟩, e2, e3⟩ := map_pair ec;cases e3;refine ⟨F, R, OD, x, O1, r, h1, fun F1 H1 v x1 r1 => ?_⟩;refine ⟨F1, _, O1, os2, O2, r1, e2, fun F2 H2 vs x2 ok r2 => ?_⟩;exact k F2 H2 (v :: vs) (x1.trans x2) ok (r2.perm List.perm_middle)
theorem qm_bo (i : Nat) {x : Str} {pos : Pos} (hr : QM X es as) (hN : autoParam (X.N[i]? = some x) Ax4._auto_1) (hv : autoParam (Vis X.env.scope x) Ax7._auto_1) (hd : autoParam ((x == ("__debug__" : Str)) = false) Ax1._auto_1)
  (hcd : autoParam ((x == ("__classdict__" : Str)) = false) Ax1._auto_1) (hs : autoParam (starEach (.Name x pos :: es) X.env = (false, eval (.Name x pos) X.env) :: starEach es X.env) Ax4._auto_1) : QM X (.Name x pos :: es) (.bo i :: as) :=
 PA_imp (pa_cons (pe_var hN hv hd hcd) hr hs) fun O H Q hq0 => by
  obtain ⟨F, R, OD, os, OD', r, ec, k⟩ := hq0;simp only [evM] at ec;rcases h1 : dget OD i with _ | d
  ·rw [h1] at ec; cases ec
  ·rw [h1] at ec; simp only [bind_some] at ec
   obtain ⟨⟨os2, O2⟩, e2, e3⟩ := map_pair ec;cases e3;obtain ⟨v, hv, b⟩ := r.get (dget_some h1);refine ⟨v, hv, F, R, OD, os2, O2, r, e2, fun F2 H2 vs x2 ok r2 => ?_⟩;exact k F2 H2 (v :: vs) x2 ⟨hv, ok⟩ r2
variable {K : PySem.W.Frag} {F F' : Addr -> Prop} {H H' : Hp}
theorem fill_ok : ∀ {as : List Arg} {os : List (Option D)} {vs : List V} {O : St} {OD : DSt} {R : Ro} {ds : List D} {OD' : DSt}, OkM as os vs O -> fillM as os OD = some (ds, OD') -> Rel K F H OD O (tz os vs ++ R) ->
  ds.length = vs.length /\ Rel K F H OD' O (ds.zip vs ++ R) := by
 intro as
 induction as with
 | nil =>
  intro os vs O OD R ds OD' ok e r;cases os with
  | nil => cases vs with
   | nil => simp only [fillM] at e; cases e; exact ⟨rfl, r⟩
   | cons _ _ => exact ok.elim
  | cons _ _ => exact ok.elim
 | cons a as ih =>
  intro os vs O OD R ds OD' ok e r;cases os with
  | nil => cases a <;> exact ok.elim
  | cons o os => cases vs with
   | nil => cases a <;> cases o <;> exact ok.elim
   | cons v vs => cases a with
    | bo i => cases o with
     | some _ => exact ok.elim
     | none =>
      obtain ⟨hv, ok⟩ := ok;simp only [fillM] at e;rcases h1 : dget OD i with _ | d
      ·rw [h1] at e; cases e
      ·rw [h1] at e; simp only [bind_some] at e
       obtain ⟨v', hv1, r1⟩ := r.take (dget_some h1);rw [hv] at hv1; cases hv1;rcases hs : d.sc with _ | wv
       ·rw [hs] at e
        obtain ⟨⟨ds2, O2⟩, e2, e3⟩ := map_pair e;cases e3;obtain ⟨l, r2⟩ := ih (R := (d, v) :: R) ok e2 (r1.perm List.perm_middle.symm);exact ⟨by simp [l], r2.perm List.perm_middle⟩
       ·rw [hs] at e
        obtain ⟨⟨ds2, O2⟩, e2, e3⟩ := map_pair e;cases e3;have ev : v = wv := (r1.bor (by simp)).sc hs;subst ev;obtain ⟨l, r2⟩ := ih (R := R) ok e2 r;exact ⟨by simp [l], r2.scal hs⟩
    | ex _ => cases o with
     | none => exact ok.elim
     | some d =>
      simp only [fillM] at e;obtain ⟨⟨ds2, O2⟩, e2, e3⟩ := map_pair e;cases e3;obtain ⟨l, r2⟩ := ih (os := os) (vs := vs) (R := (d, v) :: R) ok e2 (r.perm (List.perm_middle (l₁ := tz os vs)).symm);exact ⟨by simp [l], r2.perm List.perm_middle⟩
theorem back_ok : ∀ {as : List Arg} {os : List (Option D)} {vs : List V} {O : St} {OD : DSt} {R : Ro} {ds : List D}, OkM as os vs O -> ds.length = vs.length -> Rel K F H OD O (ds.zip vs ++ R) -> Rel K F H (backM as ds OD) O R := by
 intro as
 induction as with
 | nil =>
  intro os vs O OD R ds ok l r;cases os with
  | nil => cases vs with
   | nil => cases ds with
    | nil => exact r
    | cons _ _ => cases l
   | cons _ _ => exact ok.elim
  | cons _ _ => exact ok.elim
 | cons a as ih =>
  intro os vs O OD R ds ok l r;cases os with
  | nil => cases a <;> exact ok.elim
  | cons o os => cases vs with
   | nil => cases a <;> cases o <;> exact ok.elim
   | cons v vs => cases ds with
    | nil => cases l
    | cons d ds =>
     have l' : ds.length = vs.length := by simpa using l
     cases a with
     | bo i => cases o with
      | some _ => exact ok.elim
      | none =>
       obtain ⟨hv, ok⟩ := ok;simp only [backM];rcases hs : d.sc with _ | wv
       ·exact ih ok l' (Rel.put (R := ds.zip vs ++ R) r hv)
       ·exact ih ok l' (Rel.pop (R := ds.zip vs ++ R) r)
     | ex _ => cases o with
      | none => exact ok.elim
      | some d' => exact ih (os := os) ok l' (Rel.pop (R := ds.zip vs ++ R) r)
theorem OkM.length : ∀ {as : List Arg} {os : List (Option D)} {vs : List V} {O : St}, OkM as os vs O -> vs.length = as.length := by
 intro as
 induction as with
 | nil =>
  intro os vs O ok;cases os with
  | nil => cases vs with
   | nil => rfl
   | cons _ _ => exact ok.elim
  | cons _ _ => exact ok.elim
 | cons a as ih =>
  intro os vs O ok;cases os with
  | nil => cases a <;> exact ok.elim
  | cons o os => cases vs with
   | nil => cases a <;> cases o <;> exact ok.elim
   | cons v vs => cases a with
    | bo i => cases o with
     | some _ => exact ok.elim
     | none => exact congrArg (· + 1) (ih (os := os) (vs := vs) ok.2)
    | ex _ => cases o with
     | none => exact ok.elim
     | some _ => exact congrArg (· + 1) (ih (os := os) (vs := vs) (O := O) ok)
theorem rCall {n : Nat} {g : GF} {E : XK} {O : St} {H : Hp} {Q : VK} (hn : as.length = n) (h : rE K (dCall g as) O H Q) : tCall (spD K n g) [] E (rM K as) O H Q := by
 obtain ⟨F, R, OD, d, OD', r, ec, k⟩ := h;unfold dCall at ec;rcases h1 : evM as OD with _ | ⟨os, O1⟩
 ·rw [h1] at ec; cases ec
 ·rw [h1] at ec; simp only [bind_some] at ec
  rcases h2 : fillM as os O1 with _ | ⟨ds, O2⟩
  ·rw [h2] at ec; cases ec
  ·rw [h2] at ec; simp only [bind_some] at ec
   obtain ⟨⟨d', ds'⟩, e2, e3⟩ := map_pair ec;cases e3;refine ⟨F, R, OD, os, O1, r, h1, fun F1 H1 vs x1 ok r1 => ?_⟩;obtain ⟨l, r2⟩ := fill_ok ok h2 r1;have lv : vs.length = n := by rw [<- hn]; exact ok.length
   refine ⟨by simpa using lv, F1, sl O2 O ++ R, ds, _, ds', by simpa using l, ?_, e2, fun F2 H2 v x2 l2 g2 => ?_⟩
   ·rw [List.append_nil]
    exact r2.g.perm (by rw [<- List.append_assoc, <- List.append_assoc]; exact List.perm_append_comm.append_right R)
   ·refine k F2 H2 v (x1.trans x2) ?_
    rw [List.append_nil] at l2 g2;refine back_ok (R := (_, v) :: R) ok l2 ⟨r2.mt, g2.perm ?_⟩;exact ((pull (x := (_, v)) (A := sl O2 O) (B := ds'.zip vs) (C := R)).trans ((List.perm_append_comm_assoc _ _ _).cons _)).symm
theorem qe_call {k : Nat} {f : Addr} {fd : FuncData} {ps : List Str} {g : GF} {x : Str} {p pos : Pos} (F : FnOk X.prog X.w X.K X.mg X.base CX0 k f fd ps (spD X.K ps.length g)) (hr : Room k X.A) (hg : Gl X x) (hm : X.mg x = some (.ref f)) (hk : keepIn X.K (.ref f) = true) (hb : Binds X.K fd ps [])
  (ha : QM X (e :: es) as) (hn : autoParam (as.length = ps.length) Ax4._auto_1) (hdb : autoParam ((x == ("__debug__" : Str)) = false) Ax1._auto_1) (he : autoParam (starEach (e :: es) X.env = (false, eval e X.env) :: starEach es X.env) Ax4._auto_1) (hpl : autoParam ((backTo pos (starEach es X.env)).any (·.1) = false) Ax4._auto_1) :
  QE X (.Call (.Name x p) (e :: es) [] pos) (dCall g as) := PE_imp (pe_call (E := E0) F hr hg hm hk hb .nil pass0 ha hdb he hpl) fun _ _ _ h => rCall hn h
end
end DD
namespace L2
open PySem PySem.Spec PyProof.Rows
theorem cf_own : ∀ (names : List (Str × NameKind)) (n : Nat) (acc : List (Str × Addr)), ∃ own, cellsFrom n names acc = own ++ acc /\ (∀ p ∈ own, n <= p.2 /\ (p.1, NameKind.cell) ∈ names) /\
  (∀ x, (x, NameKind.cell) ∈ names -> ∃ c, (x, c) ∈ own) /\ own.Pairwise fun x y => x.2 ≠ y.2
 | [], n, acc => ⟨[], rfl, (fun _ h => by cases h), (fun _ h => by cases h), List.Pairwise.nil⟩
 | (name, kind) :: r, n, acc => by
  unfold cellsFrom;by_cases hk : kind = .cell
  ·subst hk
   obtain ⟨own, e, h1, h2, h3⟩ := cf_own r (n + 1) ((name, n) :: acc);refine ⟨own ++ [(name, n)], ?_, ?_, ?_, ?_⟩
   ·rw [if_pos dC, e, List.append_assoc]; rfl
   ·intro p hp
    rcases List.mem_append.mp hp with hp | hp
    ·exact ⟨Nat.le_of_succ_le (h1 p hp).1, List.mem_cons_of_mem _ (h1 p hp).2⟩
    ·rw [List.mem_singleton.mp hp]; exact ⟨Nat.le_refl _, List.mem_cons_self⟩
   ·intro x hx
    rcases List.mem_cons.mp hx with hx | hx
    ·cases hx; exact ⟨n, List.mem_append_right _ List.mem_cons_self⟩
    ·obtain ⟨c, hc⟩ := h2 x hx; exact ⟨c, List.mem_append_left _ hc⟩
   ·refine List.pairwise_append.mpr ⟨h3, List.pairwise_singleton _ _, fun a ha b hb e => ?_⟩
    rw [List.mem_singleton.mp hb] at e;have h5 := (h1 a ha).1;rw [show a.2 = n from e] at h5;exact absurd h5 (Nat.not_succ_le_self n)
  ·obtain ⟨own, e, h1, h2, h3⟩ := cf_own r n acc
   have hk' : (kind == NameKind.cell) = false := by cases kind <;> first | rfl | exact absurd rfl hk
   refine ⟨own, by rw [hk']; exact e, fun p hp => ⟨(h1 p hp).1, List.mem_cons_of_mem _ (h1 p hp).2⟩, fun x hx => ?_, h3⟩;rcases List.mem_cons.mp hx with hx | hx
   ·cases hx; exact absurd rfl hk
   ·exact h2 x hx
theorem closure_ok {scope : Scope} {env : Env} (h : ∀ x, (x, NameKind.free) ∈ scope.names -> ∃ c, env.cells.lookup x = some c) :
  ∃ cl, closureFor scope env = pure cl /\ (∀ p ∈ cl, env.cells.lookup p.1 = some p.2) /\ ∀ x, (x, NameKind.free) ∈ scope.names -> ∃ c, (x, c) ∈ cl := by
 have all : ∀ (names : List (Str × NameKind)) (acc : List (Str × Addr)), (∀ x, (x, NameKind.free) ∈ names -> ∃ c, env.cells.lookup x = some c) -> (∀ p ∈ acc, env.cells.lookup p.1 = some p.2) ->
   ∃ cl, (forIn (m := Sem) names acc fun (p : Str × NameKind) (cs : List (Str × Addr)) => if (p.2 == NameKind.free) = true then do let __do_lift <- cellOf env p.1; pure (ForInStep.yield ((p.1, __do_lift) :: cs)) else pure (ForInStep.yield cs)) = pure cl /\
    (∀ p ∈ cl, env.cells.lookup p.1 = some p.2) /\ (∀ p ∈ acc, p ∈ cl) /\ ∀ x, (x, NameKind.free) ∈ names -> ∃ c, (x, c) ∈ cl := by
  intro names
  induction names with
  | nil => intro acc _ ha; exact ⟨acc, by rw [List.forIn_nil], ha, fun _ h => h, (fun _ h => by cases h)⟩
  | cons p r ih =>
   obtain ⟨name, kind⟩ := p;intro acc hn ha;by_cases hk : kind = .free
   ·subst hk
    obtain ⟨c, hc⟩ := hn name List.mem_cons_self;obtain ⟨cl, e, h1, h2, h3⟩ := ih ((name, c) :: acc) (fun x hx => hn x (List.mem_cons_of_mem _ hx)) (fun p hp => by
     rcases List.mem_cons.mp hp with rfl | hp
     ·exact hc
     ·exact ha p hp)
    refine ⟨cl, ?_, h1, fun p hp => h2 p (List.mem_cons_of_mem _ hp), fun x hx => ?_⟩
    ·rw [List.forIn_cons]
     have ec : cellOf env name = pure c := by unfold cellOf; rw [hc]
     simp only [ec];exact e
    ·rcases List.mem_cons.mp hx with hx | hx
     ·cases hx; exact ⟨c, h2 _ List.mem_cons_self⟩
     ·exact h3 x hx
   ·obtain ⟨cl, e, h1, h2, h3⟩ := ih acc (fun x hx => hn x (List.mem_cons_of_mem _ hx)) ha
    have hk' : (kind == NameKind.free) = false := by cases kind <;> first | rfl | exact absurd rfl hk
    refine ⟨cl, ?_, h1, h2, fun x hx => ?_⟩
    ·rw [List.forIn_cons]; simp only [hk', Bool.false_eq_true, if_false]; exact e
    ·rcases List.mem_cons.mp hx with hx | hx
     ·cases hx; exact absurd rfl hk
     ·exact h3 x hx
 obtain ⟨cl, e, h1, _, h3⟩ := all scope.names [] h (fun _ h => by cases h);refine ⟨cl, ?_, h1, h3⟩;simp only [closureFor];rw [e];rfl
theorem nfe_comp {M : Model} {A : Around} {E : Value -> Shared -> Prop} {s : Shared} {scope : Scope} {env : Env} {cl : List (Str × Addr)} {Q : Env -> Shared -> Prop}
  (hQ : Q (newEnv scope s.heap.objs.size env.globals (cellsFrom (s.heap.objs.size + 1) scope.names cl) env.qual none .none (some env) builtinsNs) { s with heap := pushCells (s.heap.push { cls := .type "dict", data := .dict #[] }) scope.names }) :
  wpAny M A (newFunctionEnv scope env.globals cl [] env.qual none .none (some env)) Q E s := by
 simp only [newFunctionEnv, Option.isSome_some, if_true];refine wpAny_bind (wpAny_alloc ?_);refine wpAny_bind (wpAny_layCells _ (fun name kind cells => by cases hkc : kind == NameKind.cell <;> simp [hkc]) _ _ _ _ ?_);rw [show ({ s with heap := s.heap.push { cls := .type "dict", data := .dict #[] } } : Shared).heap.objs.size = s.heap.objs.size + 1 from Heap.size_push ..];refine wpAny_bind ?_;rw [List.forIn_nil];exact wpAny_pure (wpAny_pure hQ)
noncomputable def cyOf (X : Cx) (N' : List Str) (scope : Scope) (cl : List (Str × Addr)) (s : Shared) (H : Hp) (fp : List Addr) (pins : List (Addr × Obj)) : Cx :=
 { X with N := N', s₀ := s, H₀ := H, env := compEnvC scope (cellsFrom (s.heap.objs.size + 1) scope.names cl) s.heap.objs.size X.env, outer := X.stack, stack := X.stack, ex := fp,
          fn := fun x => scope.names.lookup x == some .cell, pn := X.pn ++ pins, xe := fun _ _ => False }
structure CyOk (X : Cx) (N' : List Str) (scope : Scope) : Prop where
 kind : scope.kind = .function
 nd : (scope.names.map (·.1)).Nodup
 len : X.N.length <= N'.length
 free : ∀ x, (x, NameKind.free) ∈ scope.names -> X.env.kindOf x = some .cell \/ X.env.kindOf x = some .free
 same : ∀ i x, i < X.N.length -> N'[i]? = some x -> (x, NameKind.free) ∈ scope.names -> X.N[i]? = some x
 hid : ∀ i x, i < X.N.length -> N'[i]? = some x -> (∃ k, (x, k) ∈ scope.names) -> (x, NameKind.free) ∈ scope.names
theorem lookup_mem {α : Type} : ∀ {l : List (Str × α)} {x : Str} {k : α}, (l.map (·.1)).Nodup -> (x, k) ∈ l -> l.lookup x = some k
 | (y, j) :: r, x, k, nd, h => by
  rw [List.map_cons, List.nodup_cons] at nd;rcases List.mem_cons.mp h with h | h
  ·cases h; rw [List.lookup_cons]; simp
  ·have ne : x ≠ y := fun e => nd.1 (e ▸ List.mem_map_of_mem (f := (·.1)) h)
   rw [List.lookup_cons];have : (x == y) = false := by simpa using ne
   rw [this];exact lookup_mem nd.2 h
theorem lookup_ex {α : Type} : ∀ {l : List (Str × α)} {x : Str} {k : α}, (x, k) ∈ l -> ∃ k', l.lookup x = some k'
 | (y, j) :: r, x, k, h => by
  rw [List.lookup_cons];cases hb : x == y with
  | true => exact ⟨j, rfl⟩
  | false =>
   rcases List.mem_cons.mp h with h | h
   ·cases h; simp at hb
   ·exact lookup_ex h
theorem relabel_mem {scope : Scope} {env : Env} {x : Str} {k : NameKind} (h : (relabel scope env).names.lookup x = some k) : (x, k) ∈ scope.names \/ ((x, NameKind.free) ∈ scope.names /\ k = .cell) := by
 have h1 := mem_of_lookup h;unfold relabel at h1;obtain ⟨⟨n, j⟩, hm, e⟩ := List.mem_map.mp h1;dsimp only at e;split at e
 ·rename_i hc
  cases e;refine .inr ⟨?_, rfl⟩;have : j = .free := by
   cases j <;> simp at hc <;> rfl
  subst this; exact hm
 ·cases e; exact .inl hm
theorem lookup_append {α : Type} {a b : List (Str × α)} {x : Str} (h : ∀ p ∈ a, p.1 ≠ x) : (a ++ b).lookup x = b.lookup x := by
 induction a with
 | nil => rfl
 | cons p r ih =>
  obtain ⟨y, j⟩ := p;rw [List.cons_append, List.lookup_cons];have : (x == y) = false := by
   have := h (y, j) List.mem_cons_self
   simpa using fun e : x = y => this e.symm
  rw [this];exact ih fun p hp => h p (List.mem_cons_of_mem _ hp)
section
variable {X : Cx} {N' : List Str} {scope : Scope} {cl : List (Str × Addr)} {s : Shared} {H : Hp} {fp : List Addr} {pins : List (Addr × Obj)} {O : St}
theorem cy_start (T : CyOk X N' scope) (I : Inv X pins O H s) (hcl : ∀ p ∈ cl, X.env.cells.lookup p.1 = some p.2) (hfr : ∀ x, (x, NameKind.free) ∈ scope.names -> ∃ c, (x, c) ∈ cl)
  (hf : ∀ b ∈ fp, FpOk X pins H b) (ho : ∀ b ∈ fp, ∃ o, s.heap.get? b = some o) :
  Inv (cyOf X N' scope cl s H fp pins) [] (O ++ List.replicate (N'.length - X.N.length) none) H { s with heap := pushCells (s.heap.push { cls := .type "dict", data := .dict #[] }) scope.names } := by
 obtain ⟨own, eo, o1, o2, o3⟩ := cf_own scope.names (s.heap.objs.size + 1) cl;have keep : ∀ b o, s.heap.get? b = some o -> (pushCells (s.heap.push { cls := .type "dict", data := .dict #[] }) scope.names).get? b = some o := fun b o e => pushCells_keeps _ _ b o (Heap.get?_push_of_some _ e)
 have clt : ∀ x c, (x, c) ∈ cl -> c < s.heap.objs.size := fun x c h => by
  obtain ⟨v, z⟩ := I.cell x c (hcl _ h);exact z.lt
 -- what a cell of the block is
 have cases_ : ∀ x c, (own ++ cl).lookup x = some c -> (s.heap.objs.size + 1 <= c /\ (x, c) ∈ own) \/ X.env.cells.lookup x = some c := fun x c h => by
  rcases List.mem_append.mp (mem_of_lookup h) with h | h
  ·exact .inl ⟨(o1 _ h).1, h⟩
  ·exact .inr (hcl _ h)
 have hst : ∀ b ∈ fp, b ∉ frs X.stack := fun b hb z => by
  rcases List.mem_cons.mp (I.stkSub b z) with e | e
  ·exact (hf b hb).2.1 e
  ·exact (hf b hb).2.2.1 e
 have okc : CellsOk (pushCells (s.heap.push { cls := .type "dict", data := .dict #[] }) scope.names) (s.heap.objs.size + 1) (cellsFrom (s.heap.objs.size + 1) scope.names []) := by
  have q := cellsFrom_ok scope.names (s.heap.push { cls := .type "dict", data := .dict #[] }) (s.heap.objs.size + 1) [] ⟨(fun _ _ hm => by cases hm), List.Pairwise.nil⟩ (by rw [Heap.size_push]; exact Nat.le_refl _);rw [Heap.size_push] at q;exact q
 have eown : cellsFrom (s.heap.objs.size + 1) scope.names [] = own := by
  obtain ⟨own', e', _⟩ := cf_own scope.names (s.heap.objs.size + 1) [];have gen : ∀ (names : List (Str × NameKind)) (n : Nat) (acc : List (Str × Addr)), cellsFrom n names acc = cellsFrom n names [] ++ acc := by
   intro names
   induction names with
   | nil => intro n acc; rfl
   | cons p r ih =>
    obtain ⟨name, kind⟩ := p;intro n acc;unfold cellsFrom;split
    ·rw [ih (n + 1) ((name, n) :: acc), ih (n + 1) [(name, n)], List.append_assoc]; rfl
    ·exact ih n acc
  have := gen scope.names (s.heap.objs.size + 1) cl
  rw [eo] at this;exact (List.append_cancel_right this).symm
 have ok : (cyOf X N' scope cl s H fp pins).Ok := by
  refine ⟨I.ok.mod, T.kind, I.ok.glob, I.ok.blt, Nat.le_refl _, fun x y c h1 h2 => ?_, fun x h => ?_, fun x c h1 h2 => ?_, I.ok.hd, I.ok.frames, .inl rfl, fun b hb => ⟨?_, fun x c h => ?_⟩, I.bs, Nat.le_trans I.ok.bsz I.sz, fun b o e hb => ?_, hst, I.stack, I.stkFree⟩
  ·have h1 : (own ++ cl).lookup x = some c := eo ▸ h1
   have h2 : (own ++ cl).lookup y = some c := eo ▸ h2;rcases cases_ x c h1 with ⟨l1, m1⟩ | e1
   ·rcases cases_ y c h2 with ⟨l2, m2⟩ | e2
    ·exact name_of_addr o3 m1 m2
    ·obtain ⟨v, z⟩ := I.cell y c e2
     exact absurd (Nat.lt_of_lt_of_le z.lt (Nat.le_of_succ_le (by first | exact l2 | exact l1))) (Nat.lt_irrefl _)
   ·rcases cases_ y c h2 with ⟨l2, m2⟩ | e2
    ·obtain ⟨v, z⟩ := I.cell x c e1
     exact absurd (Nat.lt_of_lt_of_le z.lt (Nat.le_of_succ_le (by first | exact l2 | exact l1))) (Nat.lt_irrefl _)
    ·exact I.ok.inj x y c e1 e2
  ·show ∃ c, (cellsFrom (s.heap.objs.size + 1) scope.names cl).lookup x = some c
   rw [eo];have fromFree : (x, NameKind.free) ∈ scope.names -> ∃ c, (own ++ cl).lookup x = some c := fun hm => by
    obtain ⟨c, hc⟩ := hfr x hm;exact lookup_ex (List.mem_append_right own hc)
   have fromCell : (x, NameKind.cell) ∈ scope.names -> ∃ c, (own ++ cl).lookup x = some c := fun hm => by
    obtain ⟨c, hc⟩ := o2 x hm;exact lookup_ex (List.mem_append_left cl hc)
   rcases h with h | h
   ·rcases relabel_mem h with h | ⟨h, _⟩
    ·exact fromCell h
    ·exact fromFree h
   ·rcases relabel_mem h with h | ⟨h, e⟩
    ·exact fromFree h
    ·cases e
  ·have h2 : (own ++ cl).lookup x = some c := eo ▸ h2
   have hc : scope.names.lookup x = some .cell := by
    have : (scope.names.lookup x == some NameKind.cell) = true := h1;simpa using this
   rcases cases_ x c h2 with ⟨l1, m1⟩ | e1
   ·exact Nat.le_of_succ_le l1
   ·-- x is one of the block's own: its cell stands ahead
    obtain ⟨c', hc'⟩ := o2 x (mem_of_lookup hc);obtain ⟨c2, hc2⟩ := lookup_ex hc';have : (own ++ cl).lookup x = some c2 := by
     have gen : ∀ l : List (Str × Addr), l.lookup x = some c2 -> (l ++ cl).lookup x = some c2 := by
      intro l
      induction l with
      | nil => intro h; cases h
      | cons p r ih =>
       obtain ⟨y, j⟩ := p;intro h;rw [List.cons_append, List.lookup_cons];rw [List.lookup_cons] at h;cases hb : x == y with
       | true => rw [hb] at h; exact h
       | false => rw [hb] at h; exact ih h
     exact gen own hc2
    rw [this] at h2;cases h2;exact Nat.le_of_succ_le (o1 _ (mem_of_lookup hc2)).1
  ·obtain ⟨o, e⟩ := ho b hb
   exact Nat.ne_of_lt (Heap.lt_size e)
  ·have h : (own ++ cl).lookup x = some c := eo ▸ h
   obtain ⟨o, e⟩ := ho b hb;have hlt := Heap.lt_size e;rcases cases_ x c h with ⟨l1, m1⟩ | e1
   ·intro z
    rw [z] at l1;exact absurd (Nat.lt_of_lt_of_le hlt (Nat.le_of_succ_le l1)) (Nat.lt_irrefl _)
   ·exact (hf b hb).2.2.2.2.1 x c e1
  ·rcases (hf b hb).2.2.2.1 with z | z
   ·exact I.ok.noex b o e z
   ·exact absurd (Nat.lt_of_lt_of_le (Heap.lt_size e) (Nat.le_trans I.ok.bsz z)) (Nat.lt_irrefl _)
 refine ⟨ok, rfl, I.bare, Un.kept keep, ⟨fun _ => none, (Heap.Ns.new s.heap (.type "dict")).keeps (pushCells_keeps _ _), fun i x v e1 e2 e3 => ?_⟩, fun x c h => ?_, I.hok.fresh (Nat.le_refl _), fun x c h => ?_, fun p hp => ?_, I.hok.kept keep, ?_⟩
 ·-- a name of the code around
  have hlen := I.len;have hi : i < O.length := by
   rcases Nat.lt_or_ge i O.length with h | h
   ·exact h
   ·rw [List.getElem?_append_right h] at e2
    rw [List.getElem?_replicate] at e2;split at e2 <;> cases e2
  rw [List.getElem?_append_left hi] at e2;have hmem : ∃ k, (x, k) ∈ scope.names := by
   have : ∃ k, (relabel scope X.env).names.lookup x = some k := by
    rcases e3 with h | h | h <;> exact ⟨_, h⟩
   obtain ⟨k, h⟩ := this;rcases relabel_mem h with h | ⟨h, _⟩ <;> exact ⟨_, h⟩
  have hfree := T.hid i x oM e1 hmem;have eX := T.same i x oM e1 hfree;have kX := T.free x hfree;obtain ⟨m, hn, hl⟩ := I.loc;obtain ⟨u, ru, lk⟩ := hl i x v eX e2 (by rcases kX with h | h; exact .inr (.inl h); exact .inr (.inr h));refine ⟨u, ru, .inr ⟨?_, ?_⟩⟩
  ·-- its kind in the block
   have : ∃ k, (relabel scope X.env).names.lookup x = some k := by
    rcases e3 with h | h | h <;> exact ⟨_, h⟩
   obtain ⟨k, h⟩ := this;rcases relabel_mem h with h' | ⟨h', e⟩
   ·have e5 := lookup_mem T.nd h'
    have e6 := lookup_mem T.nd hfree;rw [e5] at e6;cases e6;exact .inr h
   ·subst e; exact .inl h
  ·rcases lk with ⟨k1, _⟩ | ⟨_, c, hc, z⟩
   ·rcases kX with h | h <;> rw [h] at k1 <;> cases k1
   ·refine ⟨c, ?_, z.keeps keep⟩
    show (cellsFrom (s.heap.objs.size + 1) scope.names cl).lookup x = some c;rw [eo, lookup_append fun p hp e => ?_]
    ·obtain ⟨c', hc'⟩ := hfr x hfree
     obtain ⟨c2, hc2⟩ := lookup_ex hc'
     have := hcl _ (mem_of_lookup hc2)
     rw [hc] at this;cases this;exact hc2
    ·have e5 := lookup_mem T.nd (o1 p hp).2
     rw [e] at e5;have e6 := lookup_mem T.nd hfree;rw [e5] at e6;cases e6
 ·have h : (own ++ cl).lookup x = some c := eo ▸ h
  rcases cases_ x c h with ⟨l1, m1⟩ | e1
  ·exact ⟨none, (okc.empty x c (eown ▸ m1)).1⟩
  ·obtain ⟨v, z⟩ := I.cell x c e1
   exact ⟨v, z.keeps keep⟩
 ·have h : (own ++ cl).lookup x = some c := eo ▸ h
  rcases cases_ x c h with ⟨l1, m1⟩ | e1
  ·exact I.hok.fresh (Nat.le_of_succ_le l1)
  ·exact I.freeC x c e1
 ·rw [List.append_nil] at hp
  obtain ⟨e, n, ne, nf, d⟩ := I.pin p hp;refine ⟨keep _ _ e, n, Nat.ne_of_lt (Heap.lt_size e), fun z => ?_, d⟩;rcases List.mem_cons.mp (I.stkSub p.1 z) with z | z
  ·exact ne z
  ·exact nf z
 ·show (O ++ List.replicate (N'.length - X.N.length) none).length = N'.length
  rw [List.length_append, List.length_replicate, I.len]
  have := T.len
  omega
theorem cy_end {O1 : St} {H1 : Hp} {s1 : Shared} {h' : Heap} {pins1 : List (Addr × Obj)} (I : Inv X pins O H s) (hf : ∀ b ∈ fp, FpOk X pins H b) (I1 : Inv (cyOf X N' scope cl s H fp pins) pins1 O1 H1 s1) (hs : Heap.SameBut s.heap.objs.size s1.heap h') :
  Inv X pins O H1 { s1 with heap := h' } := by
 have hC : ∀ b o, s.heap.get? b = some o -> b ≠ s.heap.objs.size := fun b o e => Nat.ne_of_lt (Heap.lt_size e)
 have u := I1.base;have u2 : Un (frs X.stack) fp H H1 s.heap h' := by
  refine ⟨fun b o e n hb hx => ?_, fun b o e n hb hx => ?_, u.free, fun b o e hx => ?_, u.tups, u.frzs, u.tbls⟩
  ·rw [hs.2 b (hC b o e)]; exact u.keep b o e n hb hx
  ·obtain ⟨sl, q⟩ := u.slot b o e n hb hx
   exact ⟨sl, by rw [hs.2 b (hC b o e)]; exact q⟩
  ·obtain ⟨o', q⟩ := u.there b o e hx
   exact ⟨o', by rw [hs.2 b (hC b o e)]; exact q⟩
 have hCf : H1 s.heap.objs.size = none := I1.free;refine I.call' (s' := { s1 with heap := h' }) I1.os u2 (fun b o e => ?_) I1.bare fun b hb => ⟨(hf b hb).2.2.2.1, (hf b hb).2.1, (hf b hb).2.2.2.2.1, (hf b hb).2.2.2.2.2⟩
 refine (I1.hok b o e).stay (fun c v hc q => (hs.2 c ?_).trans q) (fun _ q => q) fun _ _ q => q
 rintro rfl;rcases hc with z | z
 ·rw [<- z, hCf] at e; cases e
 ·rw [hCf] at z; cases z
noncomputable def PIf (X : Cx) (ifs : List Expr) (t : TT) : Prop :=
 ∀ (pins : List (Addr × Obj)) (s : Shared) (O : St) (H : Hp) (Q : Bool -> Hp -> Prop), Inv X pins O H s -> t O H Q ->
  wpAny (model X.prog X.w) X.A (forIn ifs true fun c r => if r = true then do let ok <- isTrue c X.env (eval c X.env); pure (ForInStep.yield ok) else pure (ForInStep.yield r)) (TP X pins O Q) X.xe s
theorem pif_nil : PIf X [] (fun _ H Q => Q true H) := fun pins s O H Q I h => wpAny_tests_nil ⟨H, I, h⟩
theorem pif_one {c : Expr} {t : TT} (h : PT X c t) : PIf X [c] t := fun pins s O H Q I h' => wpAny_tests_one (h pins s O H Q I h')
noncomputable def tLc (k : Nat) (wi : TI) (g : TG) (tt : TT) (te : TE) : TE := fun O H Q => wi O H fun J H1 => ∀ p, H1 p = none ->
 ∃ W : Nat -> Nat -> St -> Hp -> Prop, (∃ m, W 0 m (O ++ List.replicate k none) (upd H1 p (.lst []))) /\ ∀ i m O' H', W i m O' H' ->
  (J.stop i H' /\ Q (.ref p) H') \/ (J.go i H' /\ ∀ x H2, J.yld i H' x H2 -> g x O' H2 fun O2 H3 => tt O2 H3 fun ok H4 => if ok = true then
   te O2 H4 fun y H5 => ∃ ys, H5 p = some (.lst ys) /\ ys.length < sizeLine /\ ∃ m', m' < m /\ W (i + 1) m' O2 (upd H5 p (.lst (ys ++ [y])))
   else ∃ m', m' < m /\ W (i + 1) m' O2 H4)
theorem compLoop_any {prog : Program} {w : World} {A : Around} {R : Result -> Shared -> Prop} {s : Shared} {elt target iter : Expr} {ifs : List Expr} {scope : Scope} {pos : Pos} {it acc : Value} {env : Env} (I : Nat -> Shared -> Prop)
  (turn : ∀ n s, I n s -> wpAny (model prog w) A (pyNext it) (fun r s₁ => match r with
   | none => R (.ok .next) s₁
   | some v => wpAny (model prog w) A (letOwnedTupleGo target it v) (fun _ s₁' => wpAny (model prog w) A (assign target env v) (fun _ s₂ =>
     wpAny (model prog w) A (forIn ifs true fun c r => if r = true then do let ok <- isTrue c env (eval c env); pure (ForInStep.yield ok) else pure (ForInStep.yield r)) (fun ok s₃ =>
      if ok = true then wpAny (model prog w) A (eval elt env) (fun x s₄ =>
       wpAny (model prog w) A (call (.builtin "list.append") [acc, x]) (fun _ s₅ => ∃ m, m < n /\ I m s₅) (fun _ _ => False) s₄) (fun _ _ => False) s₃
      else ∃ m, m < n /\ I m s₃) (fun _ _ => False) s₂) (fun _ _ => False) s₁') (fun _ _ => False) s₁) (fun _ _ => False) s)
  (n : Nat) (h : I n s) : codeAny (model prog w) A (.compLoop (.ListComp elt [⟨target, iter, ifs, 0⟩] scope pos) 0 it acc env) R s := by
 refine codeAny_loop rfl I (fun n s hI => ?_) n h;show wpAny _ A ((compTurn (.ListComp elt [⟨target, iter, ifs, 0⟩] scope pos) 0 it acc env).onRaise (fun x => do noteFrame x env; theTreesLotGoes x)) _ _ s;refine wpAny_noted ?_;rw [compTurn_list];refine wpAny_bind (wpAny_standAt (wpAny_bind (wpAny_mono (turn n s hI) (fun r s₁ h₁ => ?_) fun _ _ h' => h'.elim)));cases r with
 | none => exact wpAny_pure h₁
 | some v =>
  refine wpAny_bind (wpAny_mono h₁ (fun _ s₁' h₁' => ?_) fun _ _ h' => h'.elim);refine wpAny_bind (wpAny_mono h₁' (fun _ s₂ h₂ => wpAny_bind (wpAny_mono h₂ (fun ok s₃ h₃ => ?_) fun _ _ h' => h'.elim)) fun _ _ h' => h'.elim);cases ok with
  | false => exact wpAny_pure ⟨rfl, h₃⟩
  | true =>
   exact wpAny_bind (wpAny_bind (wpAny_mono h₃ (fun x s₄ h₄ => wpAny_bind (wpAny_mono h₄ (fun _ s₅ h₅ => wpAny_pure (wpAny_pure ⟨rfl, h₅⟩)) fun _ _ h' => h'.elim)) fun _ _ h' => h'.elim))
theorem lc_block {elt iter tg : Expr} {ifs : List Expr} {pos : Pos} {g : TG} {tt : TT} {te : TE} {J : It} {it : Addr} {tn : Nat -> Heap -> Prop} {Q : VK} {E : Value -> Shared -> Prop} {RR : Value -> Addr -> Result -> Shared -> Prop}
  (hc : X.calm = true) (T : CyOk X N' scope) (hcl : ∀ p ∈ cl, X.env.cells.lookup p.1 = some p.2) (hfr : ∀ x, (x, NameKind.free) ∈ scope.names -> ∃ c, (x, c) ∈ cl)
  (hg : ∀ cl s H fp pins, PG (cyOf X N' scope cl s H fp pins) tg g) (ht : ∀ cl s H fp pins, PIf (cyOf X N' scope cl s H fp pins) ifs tt) (he : ∀ cl s H fp pins, PE (cyOf X N' scope cl s H fp pins) elt te)
  (I : Inv X pins O H s) (Tn : Turn X.prog X.w X.K tg J fp it tn) (st0 : tn 0 s.heap) (hf : ∀ b ∈ fp, FpOk X pins H b)
  (h : ∀ p, H p = none -> ∃ W : Nat -> Nat -> St -> Hp -> Prop, (∃ m, W 0 m (O ++ List.replicate (N'.length - X.N.length) none) (upd H p (.lst []))) /\ ∀ i m O' H', W i m O' H' ->
   (J.stop i H' /\ Q (.ref p) H') \/ (J.go i H' /\ ∀ x H2, J.yld i H' x H2 -> g x O' H2 fun O2 H3 => tt O2 H3 fun ok H4 => if ok = true then
    te O2 H4 fun y H5 => ∃ ys, H5 p = some (.lst ys) /\ ys.length < sizeLine /\ ∃ m', m' < m /\ W (i + 1) m' O2 (upd H5 p (.lst (ys ++ [y])))
    else ∃ m', m' < m /\ W (i + 1) m' O2 H4))
  (hRR : ∀ p C s1 H1, Inv X pins O H1 s1 -> Q (.ref p) H1 -> (∃ m, s1.heap.Ns C m) -> H1 C = none -> s.heap.objs.size <= C -> RR (.ref p) C (.ok .next) s1) :
  wpAny (model X.prog X.w) X.A (newList []) (fun acc s₃ => wpAny (model X.prog X.w) X.A (newFunctionEnv scope X.env.globals cl [] X.env.qual none .none (some X.env)) (fun cenv s₄ =>
   codeAny (model X.prog X.w) X.A (.compStart (.ListComp elt [⟨tg, iter, ifs, 0⟩] scope pos) 0 (.ref it) acc { cenv with scope := relabel scope X.env }) (RR acc cenv.locals) s₄) E s₃) E s := by
 refine wpAny_newObj_type (nfe_comp ?_);have hp : H s.heap.objs.size = none := I.fresh;obtain ⟨W, ⟨m0, w0⟩, turn⟩ := h _ hp;have I2 : Inv X pins O (upd H s.heap.objs.size (.lst [])) { s with heap := s.heap.push { cls := .type "list", data := .seq ([] : List Value).toArray } } := Inv.lnew (t' := s.toks) (its := []) (ys := []) I .nil (Nat.zero_le _);have hf2 : ∀ b ∈ fp, FpOk X pins (upd H s.heap.objs.size (.lst [])) b := fun b hb => by
  obtain ⟨o, e, _⟩ := Tn.obj _ _ st0 b hb;exact ⟨by rw [upd_ne (Nat.ne_of_lt (Heap.lt_size e))]; exact (hf b hb).1, (hf b hb).2⟩
 have ho2 : ∀ b ∈ fp, ∃ o, (s.heap.push { cls := .type "list", data := .seq ([] : List Value).toArray } : Heap).get? b = some o := fun b hb => by
  obtain ⟨o, e, _⟩ := Tn.obj _ _ st0 b hb;exact ⟨o, Heap.get?_push_of_some _ e⟩
 have I3 := cy_start T I2 hcl hfr hf2 ho2;have st3 : tn 0 (pushCells ((s.heap.push { cls := .type "list", data := .seq ([] : List Value).toArray }).push { cls := .type "dict", data := .dict #[] }) scope.names) :=
  Tn.keep _ _ _ st0 fun b hb o e => pushCells_keeps _ _ b o (Heap.get?_push_of_some _ (Heap.get?_push_of_some _ e))
 generalize hs2 : ({ s with heap := s.heap.push { cls := .type "list", data := .seq ([] : List Value).toArray } } : Shared) = s2 at I2 I3;have hC : s.heap.objs.size <= s2.heap.objs.size := by rw [<- hs2]; exact Nat.le_of_lt (by show _ < (s.heap.push _).objs.size; rw [Heap.size_push]; exact Nat.lt_succ_self _)
 have stat : ∀ {H' : Hp}, (∀ b ∈ fp, H' b = none) -> ∀ b ∈ fp, FpOk (cyOf X N' scope cl s2 (upd H s.heap.objs.size (.lst [])) fp pins) [] H' b := fun {H'} hn b hb => by
  refine ⟨hn b hb, (I3.ok.exf b hb).1, I3.ok.exfs b hb, .inl hb, (I3.ok.exf b hb).2, fun p hp => ?_⟩;rw [List.append_nil] at hp;exact (hf b hb).2.2.2.2.2 p hp
 have loop : ∀ s4, s4 = ({ s2 with heap := pushCells (s2.heap.push { cls := .type "dict", data := .dict #[] }) scope.names } : Shared) ->
   codeAny (model X.prog X.w) X.A (.compLoop (.ListComp elt [⟨tg, iter, ifs, 0⟩] scope pos) 0 (.ref it) (.ref s.heap.objs.size) (cyOf X N' scope cl s2 (upd H s.heap.objs.size (.lst [])) fp pins).env) (RR (.ref s.heap.objs.size) s2.heap.objs.size) s4 := by
  rintro s4 rfl;refine compLoop_any (fun n s' => ∃ i O' H', Inv (cyOf X N' scope cl s2 (upd H s.heap.objs.size (.lst [])) fp pins) [] O' H' s' /\ tn i s'.heap /\ (∀ b ∈ fp, H' b = none) /\ W i n O' H') ?_ m0
   ⟨0, _, _, I3, by subst hs2; exact st3, fun b hb => (hf2 b hb).1, w0⟩
  rintro n s3 ⟨i, O3, H3, I4, st4, fr4, w4⟩;rcases turn i n O3 H3 w4 with ⟨stop, qn⟩ | ⟨go, step⟩
  ·refine thn (Tn.done (cyOf X N' scope cl s2 (upd H s.heap.objs.size (.lst [])) fp pins) rfl rfl rfl hc i [] s3 O3 H3 (fun _ _ => False) I4 (stat fr4) st4 stop) fun r s5 ⟨hr, I5⟩ => ?_
   subst hr;obtain ⟨m, hn, _⟩ := I5.loc;exact hRR _ _ s5 H3 (cy_end I2 hf2 I5 (Heap.SameBut.refl _ _)) qn ⟨m, hn⟩ I5.free hC
  ·refine thn (Tn.item (cyOf X N' scope cl s2 (upd H s.heap.objs.size (.lst [])) fp pins) rfl rfl rfl hc i [] s3 O3 H3 (fun _ _ => False) I4 (stat fr4) st4 go) fun r s5 ⟨u, hr, h5⟩ => ?_
   subst hr;refine thn h5 fun _ s6 ⟨x, H6, I6, r6, y6, st6, fr6⟩ => ?_
   have I6' := I6.pinned (stat fr6) (Tn.obj _ _ st6);have again : ∀ {O7 : St} {H7 : Hp} {s7 : Shared} {m' : Nat}, Inv (cyOf X N' scope cl s2 (upd H s.heap.objs.size (.lst [])) fp pins) ([] ++ pinsAt fp s6.heap) O7 H7 s7 -> m' < n -> W (i + 1) m' O7 H7 ->
     ∃ m, m < n /\ ∃ i O' H', Inv (cyOf X N' scope cl s2 (upd H s.heap.objs.size (.lst [])) fp pins) [] O' H' s7 /\ tn i s7.heap /\ (∀ b ∈ fp, H' b = none) /\ W i m O' H' := fun {O7 H7 s7 m'} I7 hm w7 => by
    refine ⟨m', hm, i + 1, O7, H7, I7.unpinned, Tn.keep _ _ _ st6 fun b hb o e => (I7.pin (b, o) (List.mem_append_right _ (List.mem_append_right _ (mem_pinsAt hb e)))).1, fun b hb => ?_, w7⟩;obtain ⟨o, e, d⟩ := Tn.obj _ _ st6 b hb;exact (I7.pin (b, o) (List.mem_append_right _ (List.mem_append_right _ (mem_pinsAt hb e)))).2.1
   refine thn (hg _ _ _ _ _ _ s6 O3 H6 x u _ I6' r6 (step x H6 y6)) fun _ s7 ⟨O7, H7, I7, q7⟩ => ?_
   refine thn (ht _ _ _ _ _ _ s7 O7 H7 _ I7 q7) fun ok s8 ⟨H8, I8, q8⟩ => ?_
   cases ok with
   | false =>
    simp only [Bool.false_eq_true, if_false] at q8 ⊢;obtain ⟨m', hm, w8⟩ := q8;exact again I8 hm w8
   | true =>
    simp only [if_true] at q8 ⊢;refine thn (he _ _ _ _ _ _ s8 O7 H8 _ I8 q8) fun y s9 ⟨yv, H9, I9, r9, ys, e9, l9, m', hm, w9⟩ => ?_
    refine thn (mt_append _ s9 O7 H9 (.ref s.heap.objs.size) [yv] (.ref s.heap.objs.size) [y] (fun _ H' => H' = upd H9 s.heap.objs.size (.lst (ys ++ [yv]))) I9 rfl (.cons r9 .nil) ⟨_, ys, yv, rfl, rfl, e9, l9, rfl⟩) fun _ s10 ⟨_, H10, I10, _, e10⟩ => ?_
    subst e10;exact again I10 hm w9
 have st5 : tn 0 (pushCells (s2.heap.push { cls := .type "dict", data := .dict #[] }) scope.names) := by subst hs2; exact st3
 have fin := codeAny_compStart_list (loop _ rfl) (Tn.self X.A 0 _ _ (notedBy (model X.prog X.w) X.A (cyOf X N' scope cl s2 (upd H s.heap.objs.size (.lst [])) fp pins).env fun x s' => RR (.ref s.heap.objs.size) s2.heap.objs.size (.error x) s') st5 (loop _ rfl));subst hs2;exact fin
end
section
variable {X : Cx} {N' : List Str} {scope : Scope} {pins : List (Addr × Obj)} {O : St} {elt iter tg : Expr} {ifs : List Expr} {pos : Pos} {wi : TI} {g : TG} {tt : TT} {te : TE}
theorem lc_names (T : CyOk X N' scope) : ∀ x ∈ scope.names, x.2 = .local -> scope.names.lookup x.1 = some .local := fun x hx e => by
 obtain ⟨n, k⟩ := x;cases e;exact lookup_mem T.nd hx
theorem pe_lc (hc : X.calm = true) (T : CyOk X N' scope) (hi : PI X tg iter wi) (hg : ∀ cl s H fp pins, PG (cyOf X N' scope cl s H fp pins) tg g) (ht : ∀ cl s H fp pins, PIf (cyOf X N' scope cl s H fp pins) ifs tt)
  (he : ∀ cl s H fp pins, PE (cyOf X N' scope cl s H fp pins) elt te) (hs : autoParam (∀ x, foldedSetIterable iter X.env x = pure x) Ax3._auto_1) :
  PE X (.ListComp elt [⟨tg, iter, ifs, 0⟩] scope pos) (tLc (N'.length - X.N.length) wi g tt te) := by
 intro pins s O H Q I h;obtain ⟨cl, hclos, hcl, hfr⟩ := closure_ok (scope := scope) (env := X.env) fun x hx => I.ok.has x (T.free x hx)
 rw [eval_ListComp];refine wpAny_comprehension_free (use := none) rfl hs hclos T.kind (lc_names T) (wpAny_mono (hi pins s O H _ I h) (fun xv s1 h1 => wpAny_mono h1 (fun itv s2 h2 => ?_) fun _ _ e => e) fun _ _ e => e);obtain ⟨it, fp, tn, J, H2, rfl, I2, Tn, st2, f2, R⟩ := h2;refine lc_block (Q := Q) (RR := fun acc C => compPost (model X.prog X.w) X.A X.xe none (EP X pins O Q) acc C) hc T hcl hfr hg ht he I2 Tn st2 f2 R ?_;rintro p C s3 H3 I3 q ⟨m, hn⟩ hC hle;refine ⟨m, hn, fun h' hs' => ⟨.ref p, H3, ?_, rfl, q⟩⟩;refine I3.turned (t' := s3.toks) (it := C) (fun b o hb e => (hs'.2 b hb).trans e) hC ?_ (.inr (Nat.le_trans I2.sz hle)) (fun x c e => ?_) fun p hp => ?_
 ·exact Ne.symm (Nat.ne_of_lt (Nat.lt_of_lt_of_le I2.lt hle))
 ·obtain ⟨v, z⟩ := I2.cell x c e
  exact Nat.ne_of_lt (Nat.lt_of_lt_of_le z.lt hle)
 ·exact Nat.ne_of_lt (Nat.lt_of_lt_of_le (Heap.lt_size (I2.pin p hp).1) hle)
theorem ps_set_lc {i : Nat} {y : Str} {py spos : Pos} (hN : X.N.Nodup) (hiN : X.N[i]? = some y) (hx : Loc X.env.scope y) (hsw : swapsWith (.ListComp elt [⟨tg, iter, ifs, 0⟩] scope pos) (some (.Name y py)) spos.line X.env = pure true)
  (hc : X.calm = true) (T : CyOk X N' scope) (hi : PI X tg iter wi) (hg : ∀ cl s H fp pins, PG (cyOf X N' scope cl s H fp pins) tg g) (ht : ∀ cl s H fp pins, PIf (cyOf X N' scope cl s H fp pins) ifs tt)
  (he : ∀ cl s H fp pins, PE (cyOf X N' scope cl s H fp pins) elt te) (hs : autoParam (∀ x, foldedSetIterable iter X.env x = pure x) Ax3._auto_1) (hf : autoParam (X.fn y = true \/ X.env.scope.names.lookup y = some .local) Ax0._auto_1) :
  PS X (.Assign [.Name y py] (.ListComp elt [⟨tg, iter, ifs, 0⟩] scope pos) spos) (tAsg (tLc (N'.length - X.N.length) wi g tt te) (gName i)) := by
 intro pins s O H D I h;obtain ⟨cl, hclos, hcl, hfr⟩ := closure_ok (scope := scope) (env := X.env) fun x hx => I.ok.has x (T.free x hx)
 rw [exec_Assign_Name_used _ _ _ _ hsw];refine wpAny_bind (wpAny_standAt (wpAny_bind ?_));show wpAny _ X.A (do let _ <- comprehension (.ListComp elt [⟨tg, iter, ifs, 0⟩] scope pos) scope X.env _ (newList []) false (eval iter X.env) (some (assign (.Name y py) X.env))) _ _ s;refine wpAny_bind (wpAny_mono (wpAny_comprehension_free (use := some (assign (.Name y py) X.env)) (Q := fun _ s' => SP X pins D .next s') rfl hs hclos T.kind (lc_names T)
  (wpAny_mono (hi pins s O H _ I h) (fun xv s1 h1 => wpAny_mono h1 (fun itv s2 h2 => ?_) fun _ _ e => e) fun _ _ e => e)) (fun _ s' hq => wpAny_pure (wpAny_pure hq)) fun _ _ e => e)
 obtain ⟨it, fp, tn, J, H2, rfl, I2, Tn, st2, f2, R⟩ := h2;refine lc_block (Q := fun x H1 => gName i x O H1 D.nx) (RR := fun acc C => compPost (model X.prog X.w) X.A X.xe (some (assign (.Name y py) X.env)) (fun _ s' => SP X pins D .next s') acc C) hc T hcl hfr hg ht he I2 Tn st2 f2 R ?_;rintro p C s3 H3 I3 q ⟨m, hn⟩ hC hle;have hCL : C ≠ X.env.locals := Ne.symm (Nat.ne_of_lt (Nat.lt_of_lt_of_le I2.lt hle));have hCc : ∀ x c, X.env.cells.lookup x = some c -> c ≠ C := fun x c e => by
  obtain ⟨v, z⟩ := I2.cell x c e;exact Nat.ne_of_lt (Nat.lt_of_lt_of_le z.lt hle)
 show wpAny _ X.A (assign (.Name y py) X.env (.ref p)) _ _ _;refine wpAny_assign_Name (store_ok2 (v := .ref p) I3 hN hiN hx rfl (fun s4 I4 ⟨a, sb, ha⟩ => ?_) hf);have hne : C ≠ a := by
  rcases ha with e | e
  ·rw [e]; exact hCL
  ·exact (hCc _ _ e).symm
 refine ⟨m, hn.sameBut sb hne, fun h' hs' => ⟨_, H3, ?_, q⟩⟩;refine I4.turned (t' := s4.toks) (it := C) (fun b o hb e => (hs'.2 b hb).trans e) hC hCL (.inr (Nat.le_trans I2.sz hle)) hCc fun p hp => ?_
 exact Nat.ne_of_lt (Nat.lt_of_lt_of_le (Heap.lt_size (I2.pin p hp).1) hle)
theorem PI_imp {t t' : TI} (h : PI X tg iter t) (i : ∀ O H R, t' O H R -> t O H R) : PI X tg iter t' := fun pins s O H R I h' => h pins s O H R I (i O H R h')
end
end L2
namespace DD
open PySem PySem.Spec PyProof.Rows L2
structure ItD (K : PySem.W.Frag) (J : It) (xs : List D) (F : Addr -> Prop) (H : Hp) : Prop where
 item : ∀ i d F1 H1, Ext F H F1 H1 -> (∀ a, F1 a -> ∃ o, H1 a = some o) -> xs[i]? = some d -> J.go i H1 /\ ∀ x H2, J.yld i H1 x H2 -> ∃ F2, Grow F1 H1 F2 H2 /\ Ow K F2 H2 d x []
 done : ∀ F1 H1, Ext F H F1 H1 -> J.stop xs.length H1
noncomputable abbrev DI := DSt -> Option (List D × DSt)
noncomputable def rIt (K : PySem.W.Frag) (c : DI) : TI := fun O H R => ∃ F Ro OD xs OD', Rel K F H OD O Ro /\ c OD = some (xs, OD') /\ ∀ F' H' J, Ext F H F' H' -> Rel K F' H' OD' O Ro -> ItD K J xs F' H' -> R J H'
noncomputable def QI (X : Cx) (tg iter : Expr) (c : DI) : Prop := PI X tg iter (rIt X.K c)
noncomputable def iLst (c : DE) : DI := fun O => (c O).bind fun p => match p.1 with | .lst _ xs => some (D.fzL xs, p.2) | _ => none
noncomputable def iR1 (c : DA) : DI := fun O => (c O).bind fun p => match p.1 with | [.int j] => if rOk j = true then some (rngD 0 j, p.2) else none | _ => none
noncomputable def iR2 (c : DA) : DI := fun O => (c O).bind fun p => match p.1 with | [.int i, .int j] => if (rOk i && rOk j) = true then some (rngD i j, p.2) else none | _ => none
section
variable {X : Cx} {tg e a b : Expr} {c : DE} {ca : DA} {p1 pos1 : Pos}
theorem itd_range {K : PySem.W.Frag} {F : Addr -> Prop} {H : Hp} {lo hi : Int} : ItD K (Itr lo (hi - lo).toNat) (rngD lo hi) F H where
 item := fun i d F1 H1 _ _ e => by
  have hl : (rngD lo hi).length = (hi - lo).toNat := by simp [rngD]
  have hi' : i < (hi - lo).toNat := by rw [<- hl]; exact (List.getElem?_eq_some_iff.mp e).1
  have ed : d = .int (lo + i) := by
   unfold rngD at e;rw [List.getElem?_map, List.getElem?_range hi'] at e;exact (Option.some.inj e).symm
  subst ed;exact ⟨hi', fun x H2 hq0 => by obtain ⟨e1, e2⟩ := hq0; subst e1; subst e2; exact ⟨F1, Grow.refl, Ow.of_sc rfl⟩⟩
 done := fun F1 H1 _ => by show (hi - lo).toNat <= (rngD lo hi).length; simp [rngD]
theorem ln1 {α β : Type} {a : α} {vs : List β} (h : [a].length = vs.length) : ∃ v, vs = [v] := by
 cases vs with
 | nil => cases h
 | cons v vs => cases vs with
  | nil => exact ⟨v, rfl⟩
  | cons _ _ => simp at h
theorem ln2 {α β : Type} {a b : α} {vs : List β} (h : [a, b].length = vs.length) : ∃ v u, vs = [v, u] := by
 cases vs with
 | nil => cases h
 | cons v vs =>
  obtain ⟨u, rfl⟩ := ln1 (a := a) (vs := vs) (Nat.succ.inj h);exact ⟨v, u, rfl⟩
theorem qi_r1 (hgl : Gl X "range") (hm : X.mg "range" = none) (ha : QA X [a] ca) (hs : autoParam (starEach [a] X.env = [(false, eval a X.env)]) Ax4._auto_1) : QI X tg (.Call (.Name "range" p1) [a] [] pos1) (iR1 ca) :=
 PI_imp (pi_range1 hgl hm ha hs) fun O H R hq0 => by
  obtain ⟨F, Ro, OD, xs, OD', r, ec, k⟩ := hq0;unfold iR1 at ec;rcases h : ca OD with _ | ⟨ys, O1⟩
  ·rw [h] at ec; cases ec
  ·rw [h] at ec; simp only [bind_some] at ec
   refine ⟨F, Ro, OD, ys, O1, r, h, fun F1 H1 vs x1 hl r1 => ?_⟩;split at ec
   ·rename_i j
    split at ec
    ·rename_i hj
     cases ec;obtain ⟨v, rfl⟩ := ln1 hl;have hv : v = .int j := (r1.bor (d := .int j) (v := v) (by simp)).int;subst hv;unfold rOk at hj;simp only [decide_eq_true_eq] at hj;have q : ItD X.K (Itr 0 (j - 0).toNat) (rngD 0 j) F1 H1 := itd_range;rw [Int.sub_zero] at q;exact ⟨j, rfl, hj.1, hj.2, k F1 H1 _ x1 (r1.popN (S := [(D.int j, V.int j)])) q⟩
    ·cases ec
   ·cases ec
theorem qi_r2 (hgl : Gl X "range") (hm : X.mg "range" = none) (ha : QA X [a, b] ca) (hs : autoParam (starEach [a, b] X.env = [(false, eval a X.env), (false, eval b X.env)]) Ax4._auto_1) (hs2 : autoParam (starEach [b] X.env = [(false, eval b X.env)]) Ax4._auto_1) : QI X tg (.Call (.Name "range" p1) [a, b] [] pos1) (iR2 ca) :=
 PI_imp (pi_range2 hgl hm ha hs hs2) fun O H R hq0 => by
  obtain ⟨F, Ro, OD, xs, OD', r, ec, k⟩ := hq0;unfold iR2 at ec;rcases h : ca OD with _ | ⟨ys, O1⟩
  ·rw [h] at ec; cases ec
  ·rw [h] at ec; simp only [bind_some] at ec
   refine ⟨F, Ro, OD, ys, O1, r, h, fun F1 H1 vs x1 hl r1 => ?_⟩;split at ec
   ·rename_i i j
    split at ec
    ·rename_i hj
     cases ec;obtain ⟨v, u, rfl⟩ := ln2 hl;have hv : v = .int i := (r1.bor (d := .int i) (v := v) (by simp)).int;have hu : u = .int j := (r1.bor (d := .int j) (v := u) (by simp)).int;subst hv; subst hu;unfold rOk at hj;simp only [Bool.and_eq_true, decide_eq_true_eq] at hj;exact ⟨i, j, rfl, ⟨hj.1.1, hj.1.2, hj.2.1, hj.2.2⟩, k F1 H1 _ x1 (r1.popN (S := [(D.int i, V.int i), (D.int j, V.int j)])) itd_range⟩
    ·cases ec
   ·cases ec
theorem itd_list {K : PySem.W.Frag} {F : Addr -> Prop} {H : Hp} {xs : List D} {a : Addr} {vs : List V} (fl : FL K F H a vs) (ol : OwL K F H xs vs []) : ItD K (Itl K a) xs F H where
 item := fun i d F1 H1 x1 _ e => by
  obtain ⟨w, La, Lx, Lb, e1, eL, o, _⟩ := ol.kid e;have eLx : Lx = [] := (List.append_eq_nil_iff.mp (List.append_eq_nil_iff.mp eL.symm).1).2;subst eLx;refine ⟨⟨vs, w, (fl.ext x1).sq, e1⟩, fun x H2 ⟨e2, hx⟩ => ?_⟩;subst e2
  have := hx vs (fl.ext x1).sq
  rw [e1] at this;cases this;exact ⟨F1, Grow.refl, o.mono x1 (fun a ha => by cases ha)⟩
 done := fun F1 H1 x1 => ⟨vs, (fl.ext x1).sq, by rw [ol.length]; exact Nat.le_refl _⟩
theorem qi_lst (he : QE X e c) : QI X tg e (iLst c) := PI_imp (pi_list he) fun O H R hq0 => by
 obtain ⟨F, Ro, OD, xs, OD', r, ec, k⟩ := hq0;unfold iLst at ec;rcases h : c OD with _ | ⟨d, O1⟩
 ·rw [h] at ec; cases ec
 ·rw [h] at ec; simp only [bind_some] at ec
  refine ⟨F, Ro, OD, d, O1, r, h, fun F1 H1 v x1 r1 => ?_⟩;split at ec
  ·cases ec
   obtain ⟨F2, x2, r2, o2⟩ := r1.freeze;simp only [D.fz, Ow] at o2;obtain ⟨a, vs, rfl, fl, ol, _⟩ := o2;exact ⟨a, rfl, ⟨vs, fl.sq⟩, k F2 H1 _ (x1.trans x2) r2.pop (itd_list fl ol)⟩
  ·cases ec
end
noncomputable def sForI (c : DI) (g : DG) (b : DS) : DS := fun O => (c O).bind fun p => dLoop g b p.1 p.2
section
variable {X : Cx} {e tg : Expr} {g : DG} {s : DS} {pos : Pos} {W W' : List Nat} {body : List Stmt}
theorem it_loop {F : Addr -> Prop} {H : Hp} {R : Ro} {OD : DSt} {O : St} {xs : List D} {J : It} {En : Ends} {o : Out} (r : Rel X.K F H OD O R) (j : ItD X.K J xs F H) (h : dLoop g s xs OD = some o)
  (k : ∀ F' H' O', Ext F H F' H' -> Kp (W ++ W') O O' -> Th X.K En R F' H' O' o) :
  ∃ W1 : Nat -> Nat -> St -> Hp -> Prop, (∃ m, W1 0 m O H) /\ ∀ i m O H, W1 i m O H ->
   (J.stop i H /\ En.nx O H) \/ (J.go i H /\ ∃ N : St -> Hp -> Prop, (∀ O' H', N O' H' -> ∃ m', m' < m /\ W1 (i + 1) m' O' H') /\ ∀ x H', J.yld i H x H' -> rG X.K g W x O H' fun O2 H2 => rS X.K s W' { En with nx := N, ct := N, bk := En.nx } O2 H2) := by
 refine ⟨fun i m O1 H1 => m = xs.length - i /\ i <= xs.length /\ ∃ F1 OD1, Ext F H F1 H1 /\ Kp (W ++ W') O O1 /\ Rel X.K F1 H1 OD1 O1 R /\ dLoop g s (xs.drop i) OD1 = some o, ⟨_, rfl, Nat.zero_le _, F, OD, Ext.refl, Kp.refl, r, by simpa using h⟩, ?_⟩;rintro i m O1 H1 ⟨rfl, hle, F1, OD1, x1, kp1, r1, h1⟩;rcases Nat.lt_or_ge i xs.length with hi | hi
 ·right
  obtain ⟨go, yl⟩ := j.item i _ F1 H1 x1 r1.g.dom (List.getElem?_eq_getElem hi);refine ⟨go, fun O' H' => ∃ F1 OD1, Ext F H F1 H' /\ Kp (W ++ W') O O' /\ Rel X.K F1 H' OD1 O' R /\ dLoop g s (xs.drop (i + 1)) OD1 = some o, fun O' H' q => ⟨xs.length - (i + 1), by omega, rfl, hi, q⟩, fun x H2 hy => ?_⟩;obtain ⟨F2, gr, ox⟩ := yl x H2 hy;rw [List.drop_eq_getElem_cons hi] at h1;exact turn_of (R := R) (R0 := R) (W := W) (W' := W') (fun _ _ _ _ _ _ h => h) ((r1.grow gr).push ox) (x1.trans gr.x) kp1 h1 k fun F3 H3 OD3 O3 x3 kp3 r3 h3 => ⟨F3, OD3, (x1.trans gr.x).trans x3, kp3, r3, h3⟩
 ·left
  have ei : i = xs.length := Nat.le_antisymm hle hi;subst ei;rw [List.drop_length] at h1;simp only [dLoop] at h1;cases h1;exact ⟨j.done F1 H1 x1, k F1 H1 O1 x1 kp1 r1⟩
theorem qs_forI {c : DI} (hc : X.calm = true) (hi : QI X tg e c) (hg : QG X tg g W) (hb : QSs X body s W') (hp : PassesOwn (model X.prog X.w) X.A X.env X.xe) (hf : autoParam (∀ x, foldedSetIterable e X.env x = pure x) Ax3._auto_1) : QS X (.For tg e body [] pos) (sForI c g s) (W ++ W') :=
 PS_imp (ps_for hp hc hi hg hb hf) fun En O H hq0 => by
  obtain ⟨F, R, OD, o, r, ec, k⟩ := hq0;unfold sForI at ec;rcases h : c OD with _ | ⟨xs, O1⟩
  ·rw [h] at ec; cases ec
  ·rw [h] at ec; simp only [bind_some] at ec
   refine ⟨F, R, OD, xs, O1, r, h, fun F1 H1 J x1 r1 j => ?_⟩;exact it_loop (X := X) (W := W) (W' := W') (g := g) (s := s) (En := En) r1 j ec fun F2 H2 O2 x2 kp => k F2 H2 O2 (x1.trans x2) kp
end
noncomputable def lcGo (g : DG) (t : DT) (c : DE) : List D -> DSt -> Option (List D × DSt)
 | [], O => some ([], O)
 | x :: xs, O => (g x O).bind fun O1 => (t O1).bind fun p => if p.1 = true then (c p.2).bind fun q => (lcGo g t c xs q.2).map fun r => (q.1 :: r.1, r.2) else lcGo g t c xs p.2
noncomputable def dLc (k : Nat) (i : DI) (g : DG) (t : DT) (c : DE) : DE := fun O => (i O).bind fun p => if p.1.length <= sizeLine then (lcGo g t c p.1 (p.2 ++ List.replicate k none)).map fun r => (.lst true r.1, r.2.take p.2.length) else none
noncomputable def tTrue : DT := fun O => some (true, O)
noncomputable def QIf (X : Cx) (ifs : List Expr) (t : DT) : Prop := PIf X ifs (rT X.K t)
section
variable {X : Cx} {e tg elt iter : Expr} {ifs : List Expr} {g : DG} {t : DT} {c : DE} {i : DI} {pos : Pos} {W : List Nat} {N' : List Str} {scope : Scope}
theorem qif_nil : QIf X [] tTrue := by
 intro pins s O H Q I hh;obtain ⟨F, R, OD, b, OD', r, ec, k⟩ := hh;exact pif_nil pins s O H Q I (by cases ec; exact k F H Ext.refl r)
theorem qif_one (h : QT X e t) : QIf X [e] t := pif_one h
theorem Rel.ext0 {K : PySem.W.Frag} {F : Addr -> Prop} {H : Hp} {OD : DSt} {O : St} {R : Ro} {k : Nat} (r : Rel K F H OD O R) : Rel K F H (OD ++ List.replicate k none) (O ++ List.replicate k none) R := by
 have hm : ∀ {OD : DSt} {O : St}, Mt OD O -> Mt (OD ++ List.replicate k none) (O ++ List.replicate k none) /\ sl (OD ++ List.replicate k none) (O ++ List.replicate k none) = sl OD O := by
  intro OD
  induction OD with
  | nil => intro O h; cases O with | nil => exact ⟨mt_none, sl_none'⟩ | cons _ _ => cases h
  | cons o OD ih =>
   intro O h;cases O with
   | nil => cases o <;> cases h
   | cons v O =>
    cases o with
    | none => exact ih (O := O) h
    | some d =>
     cases v with
     | none => cases h
     | some v =>
      have q := ih (O := O) h;exact ⟨q.1, congrArg ((d, v) :: ·) q.2⟩
 obtain ⟨h1, h2⟩ := hm r.mt;exact ⟨h1, by rw [h2]; exact r.g⟩
theorem Rel.cut {K : PySem.W.Frag} {F : Addr -> Prop} {H : Hp} {R : Ro} : ∀ {OD : DSt} {O O0 : St} {n : Nat}, O0.length = n -> O.take n = O0 -> Rel K F H OD O R -> Rel K F H (OD.take n) O0 R := by
 intro OD O O0 n hn he r;subst he;have hm : ∀ {OD : DSt} {O : St} (n : Nat), Mt OD O -> Mt (OD.take n) (O.take n) /\ ∃ S, (sl OD O) = sl (OD.take n) (O.take n) ++ S := by
  intro OD
  induction OD with
  | nil => intro O n h; cases O with | nil => simp [Mt, sl] | cons _ _ => cases h
  | cons o OD ih =>
   intro O n h;cases O with
   | nil => cases o <;> cases h
   | cons v O =>
    cases n with
    | zero => exact ⟨trivial, _, rfl⟩
    | succ n =>
     cases o with
     | none => exact ih (O := O) n h
     | some d =>
      cases v with
      | none => cases h
      | some v =>
       obtain ⟨h1, S, h2⟩ := ih (O := O) n h;refine ⟨h1, S, ?_⟩;show (d, v) :: sl OD O = (d, v) :: sl (OD.take n) (O.take n) ++ S;rw [h2]; rfl
 obtain ⟨h1, S, h2⟩ := hm n r.mt;refine ⟨h1, ?_⟩;have g := r.g;rw [h2] at g;have g2 : G K F H (S ++ (sl (OD.take n) (O.take n) ++ R)) := g.perm (by rw [List.append_assoc]; exact List.perm_append_comm_assoc _ _ _);exact g2.popN
theorem lc_go {F : Addr -> Prop} {H : Hp} {R : Ro} {OD OD' : DSt} {O : St} {xs ys : List D} {J : It} {k : Nat} {Q : VK} (r : Rel X.K F H OD O R) (j : ItD X.K J xs F H) (hz : xs.length <= sizeLine) (hw : ∀ i ∈ W, O.length <= i)
  (h : lcGo g t c xs (OD ++ List.replicate k none) = some (ys, OD')) (kk : ∀ F' H' v, Ext F H F' H' -> Rel X.K F' H' (OD'.take OD.length) O ((.lst true ys, v) :: R) -> Q v H') (p : Addr) (hp : H p = none) :
  ∃ W1 : Nat -> Nat -> St -> Hp -> Prop, (∃ m, W1 0 m (O ++ List.replicate k none) (upd H p (.lst []))) /\ ∀ i m O' H', W1 i m O' H' ->
   (J.stop i H' /\ Q (.ref p) H') \/ (J.go i H' /\ ∀ x H2, J.yld i H' x H2 -> rG X.K g W x O' H2 fun O2 H3 => rT X.K t O2 H3 fun ok H4 => if ok = true then
    rE X.K c O2 H4 fun y H5 => ∃ ys, H5 p = some (.lst ys) /\ ys.length < sizeLine /\ ∃ m', m' < m /\ W1 (i + 1) m' O2 (upd H5 p (.lst (ys ++ [y])))
    else ∃ m', m' < m /\ W1 (i + 1) m' O2 H4) := by
 have hlen := r.mt.length;obtain ⟨r0, x0⟩ := (r.ext0 (k := k)).alloc (o := .lst []) hp;have r1 : Rel X.K F (upd H p (.lst [])) (OD ++ List.replicate k none) (O ++ List.replicate k none) ((.lst true [], .ref p) :: R) := r0.formL (xs := []) (vs := []) rfl upd_same;refine ⟨fun i m O1 H1 => m = xs.length - i /\ i <= xs.length /\ ∃ F1 OD1 ds zs, Ext F H F1 H1 /\ Kp W (O ++ List.replicate k none) O1 /\ Rel X.K F1 H1 OD1 O1 ((.lst true ds, .ref p) :: R) /\ ds.length <= i /\ lcGo g t c (xs.drop i) OD1 = some (zs, OD') /\ ds ++ zs = ys,
  ⟨_, rfl, Nat.zero_le _, F, _, [], ys, x0, Kp.refl, r1, Nat.zero_le _, by simpa using h, rfl⟩, ?_⟩
 rintro i m O1 H1 ⟨rfl, hle, F1, OD1, ds, zs, x1, kp1, r2, hds, h1, hys⟩;rcases Nat.lt_or_ge i xs.length with hi | hi
 ·right
  obtain ⟨go, yl⟩ := j.item i _ F1 H1 x1 r2.g.dom (List.getElem?_eq_getElem hi);refine ⟨go, fun x H2 hy => ?_⟩;obtain ⟨F2, gr, ox⟩ := yl x H2 hy;rw [List.drop_eq_getElem_cons hi] at h1;simp only [lcGo] at h1;rcases e1 : g xs[i] OD1 with _ | O3
  ·rw [e1] at h1; cases h1
  ·rw [e1] at h1; simp only [bind_some] at h1
   refine ⟨F2, _, OD1, xs[i], O3, (r2.grow gr).push ox, e1, fun F3 H3 O4 x3 kp3 r3 => ?_⟩;rcases e2 : t O3 with _ | ⟨ok, O5⟩
   ·rw [e2] at h1; cases h1
   ·rw [e2] at h1; simp only [bind_some] at h1
    refine ⟨F3, _, O3, ok, O5, r3, e2, fun F4 H4 x4 r4 => ?_⟩;have xx := ((x1.trans gr.x).trans x3).trans x4;have kp5 := kp1.trans kp3;cases ok with
    | false =>
     simp only [Bool.false_eq_true, if_false] at h1 ⊢;exact ⟨xs.length - (i + 1), by omega, rfl, hi, F4, O5, ds, zs, xx, kp5, r4, by omega, h1, hys⟩
    | true =>
     simp only [if_true] at h1 ⊢;rcases e3 : c O5 with _ | ⟨d, O6⟩
     ·rw [e3] at h1; cases h1
     ·rw [e3] at h1; simp only [bind_some] at h1
      obtain ⟨⟨ws, O7⟩, e4, e5⟩ := map_pair h1;cases e5;refine ⟨F4, _, O5, d, O6, r4, e3, fun F5 H5 v x5 r5 => ?_⟩;obtain ⟨a, vs, ea, he, hl, r6⟩ := (r5.perm (.swap _ _ _)).openL;cases ea;refine ⟨vs, he, by omega, xs.length - (i + 1), by omega, rfl, hi, ?_⟩;have r7 : Rel X.K F5 H5 O6 O4 ((.cell, .ref p) :: ((ds ++ [d]).zip (vs ++ [v]) ++ R)) := by
       refine r6.perm (.cons _ ?_);rw [List.zip_append hl];simp
      obtain ⟨r8, x8⟩ := r7.write (o := .lst (vs ++ [v]));exact ⟨F5, O6, ds ++ [d], ws, (xx.trans x5).trans x8, kp5, r8.formL (by simp [hl]) upd_same, by simp; omega, e4, by rw [<- hys]; simp⟩
 ·left
  have ei : i = xs.length := Nat.le_antisymm hle hi;subst ei;rw [List.drop_length] at h1;simp only [lcGo] at h1;cases h1;rw [List.append_nil] at hys;subst hys;refine ⟨j.done F1 H1 x1, kk F1 H1 _ x1 ?_⟩;rw [hlen];refine r2.cut rfl ?_;apply List.ext_getElem?;intro n;rcases Nat.lt_or_ge n O.length with hn | hn
  ·rw [List.getElem?_take_of_lt hn, kp1 n (fun z => absurd (hw n z) oM), List.getElem?_append_left hn]
  ·rw [List.getElem?_eq_none (by simp; omega), List.getElem?_eq_none hn]
theorem qe_lc (hc : X.calm = true) (T : CyOk X N' scope) (hi : QI X tg iter i) (hg : ∀ cl s H fp pins, QG (cyOf X N' scope cl s H fp pins) tg g W) (ht : ∀ cl s H fp pins, QIf (cyOf X N' scope cl s H fp pins) ifs t)
  (he : ∀ cl s H fp pins, QE (cyOf X N' scope cl s H fp pins) elt c) (hw : ∀ i ∈ W, X.N.length <= i) (hs : autoParam (∀ x, foldedSetIterable iter X.env x = pure x) Ax3._auto_1) :
  QE X (.ListComp elt [⟨tg, iter, ifs, 0⟩] scope pos) (dLc (N'.length - X.N.length) i g t c) := by
 rintro pins s O H Q I ⟨F, R, OD, d, OD', r, ec, k⟩;have hlen : O.length = X.N.length := I.len;refine pe_lc (X := X) (N' := N') (g := rG X.K g W) (tt := rT X.K t) (te := rE X.K c) hc T hi hg ht he hs pins s O H Q I ?_;unfold dLc at ec;rcases h : i OD with _ | ⟨xs, O1⟩
 ·rw [h] at ec; cases ec
 ·rw [h] at ec; simp only [bind_some] at ec
  split at ec
  ·rename_i hz
   obtain ⟨⟨ys, O2⟩, e1, e2⟩ := map_pair ec;cases e2;refine ⟨F, R, OD, xs, O1, r, h, fun F1 H1 J x1 r1 j p hp => ?_⟩;exact lc_go (X := X) (W := W) r1 j hz (fun i hi => by rw [hlen]; exact hw i hi) e1 (fun F2 H2 v x2 r2 => k F2 H2 v (x1.trans x2) r2) p hp
  ·cases ec
theorem qs_set_lc (ix : Nat) {y : Str} {py spos : Pos} (hN : X.N.Nodup) (hc : X.calm = true) (T : CyOk X N' scope) (hi : QI X tg iter i) (hg : ∀ cl s H fp pins, QG (cyOf X N' scope cl s H fp pins) tg g W) (ht : ∀ cl s H fp pins, QIf (cyOf X N' scope cl s H fp pins) ifs t)
  (he : ∀ cl s H fp pins, QE (cyOf X N' scope cl s H fp pins) elt c) (hw : ∀ i ∈ W, X.N.length <= i) (hsw : swapsWith (.ListComp elt [⟨tg, iter, ifs, 0⟩] scope pos) (some (.Name y py)) spos.line X.env = pure true)
  (hiN : autoParam (X.N[ix]? = some y) Ax4._auto_1) (hx : autoParam (Loc X.env.scope y) Ax9._auto_1) (hs : autoParam (∀ x, foldedSetIterable iter X.env x = pure x) Ax3._auto_1) (hf : autoParam (X.fn y = true \/ X.env.scope.names.lookup y = some .local) Ax0._auto_1) :
  QS X (.Assign [.Name y py] (.ListComp elt [⟨tg, iter, ifs, 0⟩] scope pos) spos) (sSet ix (dLc (N'.length - X.N.length) i g t c)) [ix] := by
 rintro pins s O H En I ⟨F, R, OD, o, r, ec, k⟩;have hlen : O.length = X.N.length := I.len;refine ps_set_lc (X := X) (N' := N') (g := rG X.K g W) (tt := rT X.K t) (te := rE X.K c) hN hiN hx hsw hc T hi hg ht he hs hf pins s O H En I ?_;unfold sSet at ec;rcases h0 : dLc (N'.length - X.N.length) i g t c OD with _ | ⟨d0, O0⟩
 ·rw [h0] at ec; cases ec
 ·rw [h0] at ec; simp only [bind_some] at ec
  split at ec
  ·rename_i hl
   cases ec;unfold dLc at h0;rcases h : i OD with _ | ⟨xs, O1⟩
   ·rw [h] at h0; cases h0
   ·rw [h] at h0; simp only [bind_some] at h0
    split at h0
    ·rename_i hz
     obtain ⟨⟨ys, O2⟩, e1, e2⟩ := map_pair h0;cases e2;refine ⟨F, R, OD, xs, O1, r, h, fun F1 H1 J x1 r1 j p hp => ?_⟩;exact lc_go (X := X) (W := W) (Q := fun x H1 => gName ix x O H1 En.nx) r1 j hz (fun i hi => by rw [hlen]; exact hw i hi) e1 (fun F2 H2 v x2 r2 => k F2 H2 _ (x1.trans x2) Kp.set (r2.store (by rw [<- r2.mt.length]; exact hl))) p hp
    ·cases h0
  ·cases ec
end
mutual
noncomputable def D.py : D -> Option PyData
 | .non => some .none
 | .bl b => some (.bool b)
 | .int i => some (.int i)
 | .str x => some (.str x)
 | .lst _ xs => (D.pyL xs).map .list
 | .tup xs => (D.pyL xs).map .tuple
 | _ => none
noncomputable def D.pyL : List D -> Option (List PyData)
 | [] => some []
 | x :: xs => (D.py x).bind fun p => (D.pyL xs).map fun ps => p :: ps
end
section
variable {X : Cx} {pins : List (Addr × Obj)} {O : St} {H : Hp} {s : Shared} {F : Addr -> Prop}
theorem obj_list (I : L2.Inv X pins O H s) {a : Addr} {vs : List V} (h : SqL X.K H a vs) : ∃ its o n, Vals vs its /\ s.heap.get? a = some o /\ o.cls = .type "list" /\ o.data = .seq its.toArray n := by
 obtain ⟨its, r, ⟨o, n, e, c, _, d⟩, _⟩ := I.list h;exact ⟨its, o, n, r, e, c, d⟩
theorem obj_tup (I : L2.Inv X pins O H s) {a : Addr} {vs : List V} (h : SqT X.K H a vs) : ∃ its o n, Vals vs its /\ s.heap.get? a = some o /\ o.cls = .type "tuple" /\ o.data = .seq its.toArray n := by
 obtain ⟨its, r, ⟨o, e, c, n, d⟩, _⟩ := I.tuple h;exact ⟨its, o, n, r, e, c, d⟩
mutual
theorem reads_of (I : L2.Inv X pins O H s) : ∀ {d : D} {v : V} {L : List Addr} {p : PyData} {u : Value}, Ow X.K F H d v L -> d.py = some p -> RelV v u -> ∃ as, Reads s.heap u p as
 | .non, v, L, p, u, o, e, r => by simp only [D.py, Ow] at e o; cases e; obtain ⟨rfl, _⟩ := o; cases r; exact ⟨_, .none⟩
 | .bl b, v, L, p, u, o, e, r => by simp only [D.py, Ow] at e o; cases e; obtain ⟨rfl, _⟩ := o; cases r; exact ⟨_, .bool b⟩
 | .int i, v, L, p, u, o, e, r => by simp only [D.py, Ow] at e o; cases e; obtain ⟨rfl, _⟩ := o; obtain ⟨t, rfl⟩ := r; exact ⟨_, .int i t⟩
 | .str x, v, L, p, u, o, e, r => by simp only [D.py, Ow] at e o; cases e; obtain ⟨rfl, _⟩ := o; obtain ⟨t, rfl⟩ := r; exact ⟨_, .str x t⟩
 | .lst own xs, v, L, p, u, o, e, r => by
  simp only [D.py] at e;rcases h : D.pyL xs with _ | ps
  ·rw [h] at e; cases e
  ·rw [h] at e; cases e
   obtain ⟨a, vs, rfl, sq, L', ol⟩ := Bor.lst ⟨L, o⟩;cases r;obtain ⟨its, ob, n, rv, e1, e2, e3⟩ := obj_list I sq;obtain ⟨as, ra⟩ := readsL_of I ol h rv;exact ⟨_, .list e1 e2 e3 ra⟩
 | .tup xs, v, L, p, u, o, e, r => by
  simp only [D.py] at e;rcases h : D.pyL xs with _ | ps
  ·rw [h] at e; cases e
  ·rw [h] at e; cases e
   obtain ⟨a, vs, rfl, sq, L', ol⟩ := Bor.tup ⟨L, o⟩;cases r;obtain ⟨its, ob, n, rv, e1, e2, e3⟩ := obj_tup I sq;obtain ⟨as, ra⟩ := readsL_of I ol h rv;exact ⟨_, .tuple e1 e2 e3 ra⟩
 | .hole, _, _, _, _, _, e, _ => by simp only [D.py] at e; cases e
 | .cell, _, _, _, _, _, e, _ => by simp only [D.py] at e; cases e
 | .node _ _, _, _, _, _, _, e, _ => by simp only [D.py] at e; cases e
 | .pin _ _, _, _, _, _, _, e, _ => by simp only [D.py] at e; cases e
 | .ty _, _, _, _, _, _, e, _ => by simp only [D.py] at e; cases e
 | .cls _, _, _, _, _, _, e, _ => by simp only [D.py] at e; cases e
 | .obj _ _ _ _, _, _, _, _, _, e, _ => by simp only [D.py] at e; cases e
 | .dct _ _ _, _, _, _, _, _, e, _ => by simp only [D.py] at e; cases e
theorem readsL_of (I : L2.Inv X pins O H s) : ∀ {xs : List D} {vs : List V} {L : List Addr} {ps : List PyData} {us : List Value}, OwL X.K F H xs vs L -> D.pyL xs = some ps -> Vals vs us -> ∃ as, ReadsAll s.heap us ps as
 | [], vs, L, ps, us, o, e, r => by
  simp only [D.pyL, OwL] at e o;cases e;obtain ⟨rfl, _⟩ := o;cases r;exact ⟨_, .nil⟩
 | x :: xs, vs, L, ps, us, o, e, r => by
  simp only [D.pyL, OwL] at e o;obtain ⟨v, ws, L1, L2, rfl, o1, o2, _⟩ := o;rcases h1 : D.py x with _ | p
  ·rw [h1] at e; cases e
  ·rw [h1] at e; simp only [bind_some] at e
   rcases h2 : D.pyL xs with _ | qs
   ·rw [h2] at e; cases e
   ·rw [h2] at e; cases e
    cases r with
    | cons r1 r2 =>
     obtain ⟨as, ra⟩ := reads_of I o1 h1 r1;obtain ⟨bs, rb⟩ := readsL_of I o2 h2 r2;exact ⟨_, .cons ra rb⟩
end
theorem Bor.reads (I : L2.Inv X pins O H s) {d : D} {v : V} {p : PyData} {u : Value} (b : Bor X.K F H d v) (e : d.py = some p) (r : RelV v u) : ∃ as, Reads s.heap u p as := by
 obtain ⟨L, o⟩ := b;exact reads_of I o e r
end
noncomputable def pyOk (p q : PyData) : Bool := p.canLay0 && q.canLay0 && decide (min p.depth q.depth <= 50)
noncomputable def gEq : D -> D -> Option D := fun x y => x.py.bind fun p => y.py.bind fun q => if pyOk p q = true then some (.bl (PyData.eqv p q)) else none
noncomputable def gNe : D -> D -> Option D := fun x y => x.py.bind fun p => y.py.bind fun q => if pyOk p q = true then some (.bl (!PyData.eqv p q)) else none
section
variable {X : Cx}
theorem gEq_some {x y d : D} (h : gEq x y = some d) : ∃ p q, x.py = some p /\ y.py = some q /\ p.canLay0 = true /\ q.canLay0 = true /\ min p.depth q.depth <= 50 /\ d = .bl (PyData.eqv p q) := by
 unfold gEq at h;rcases h1 : x.py with _ | p
 ·rw [h1] at h; cases h
 ·rw [h1] at h; simp only [bind_some] at h
  rcases h2 : y.py with _ | q
  ·rw [h2] at h; cases h
  ·rw [h2] at h; simp only [bind_some] at h
   split at h
   ·rename_i hk
    cases h;simp only [pyOk, Bool.and_eq_true, decide_eq_true_eq] at hk;exact ⟨p, q, rfl, rfl, hk.1.1, hk.1.2, hk.2, rfl⟩
   ·cases h
theorem gNe_some {x y d : D} (h : gNe x y = some d) : ∃ p q, x.py = some p /\ y.py = some q /\ p.canLay0 = true /\ q.canLay0 = true /\ min p.depth q.depth <= 50 /\ d = .bl (!PyData.eqv p q) := by
 unfold gNe at h;rcases h1 : x.py with _ | p
 ·rw [h1] at h; cases h
 ·rw [h1] at h; simp only [bind_some] at h
  rcases h2 : y.py with _ | q
  ·rw [h2] at h; cases h
  ·rw [h2] at h; simp only [bind_some] at h
   split at h
   ·rename_i hk
    cases h;simp only [pyOk, Bool.and_eq_true, decide_eq_true_eq] at hk;exact ⟨p, q, rfl, rfl, hk.1.1, hk.1.2, hk.2, rfl⟩
   ·cases h
theorem o_eq (hu : X.A.units + 64 < cLine) : OpS X (compareOp .Eq) gEq := by
 refine ⟨fun pins s O H x y v u Q I rx ry pz => ?_, fun x y d h => ?_⟩
 ·obtain ⟨F, dx, dy, d, w, b1, b2, eg, hw, q⟩ := pz
  obtain ⟨p, r, e1, e2, c1, c2, hd, rfl⟩ := gEq_some eg;cases hw;obtain ⟨as, ra⟩ := b1.reads I e1 rx;obtain ⟨bs, rb⟩ := b2.reads I e2 ry;exact SeqAt.eqOverData _ _ _ _ _ _ _ _ _ _ _ _ ra rb c1 c2 oM ⟨.bl _, H, I, rfl, q⟩
 ·obtain ⟨p, r, _, _, _, _, _, rfl⟩ := gEq_some h
  exact ⟨_, rfl⟩
theorem o_ne (hu : X.A.units + 64 < cLine) : OpS X (compareOp .NotEq) gNe := by
 refine ⟨fun pins s O H x y v u Q I rx ry pz => ?_, fun x y d h => ?_⟩
 ·obtain ⟨F, dx, dy, d, w, b1, b2, eg, hw, q⟩ := pz
  obtain ⟨p, r, e1, e2, c1, c2, hd, rfl⟩ := gNe_some eg;cases hw;obtain ⟨as, ra⟩ := b1.reads I e1 rx;obtain ⟨bs, rb⟩ := b2.reads I e2 ry;exact SeqAt.neOverData _ _ _ _ _ _ _ _ _ _ _ _ ra rb c1 c2 oM ⟨.bl _, H, I, rfl, q⟩
 ·obtain ⟨p, r, _, _, _, _, _, rfl⟩ := gNe_some h
  exact ⟨_, rfl⟩
end
noncomputable def BorL (K : PySem.W.Frag) (F : Addr -> Prop) (H : Hp) : List D -> List V -> Prop
 | [], [] => True
 | d :: ds, v :: vs => Bor K F H d v /\ BorL K F H ds vs
 | _, _ => False
theorem BorL.of {K : PySem.W.Frag} {F : Addr -> Prop} {H : Hp} {OD : DSt} {O : St} : ∀ {ds : List D} {vs : List V} {R : Ro}, ds.length = vs.length -> Rel K F H OD O (ds.zip vs ++ R) -> BorL K F H ds vs := by
 intro ds
 induction ds with
 | nil =>
  intro vs R h r;cases vs with
  | nil => trivial
  | cons _ _ => cases h
 | cons d ds ih =>
  intro vs R h r;cases vs with
  | nil => cases h
  | cons v vs => exact ⟨r.bor List.mem_cons_self, ih (R := R) (Nat.succ.inj h) (Rel.pop (R := ds.zip vs ++ R) r)⟩
structure CallS (X : Cx) (f : Value) (g : List D -> Option D) : Prop where
 run : CallR X f (fun vs H Q => ∃ F ds d w, BorL X.K F H ds vs /\ g ds = some d /\ d.sc = some w /\ Q w H)
 sc : ∀ ds d, g ds = some d -> ∃ w, d.sc = some w
noncomputable def evB : List DP -> DSt -> Option (List D)
 | [], _ => some []
 | p :: ps, O => (p O).bind fun d => (evB ps O).map fun ds => d :: ds
noncomputable def pCall (g : List D -> Option D) (ps : List DP) : DP := fun O => (evB ps O).bind g
noncomputable def dCallB (g : List D -> Option D) (ca : DA) : DE := fun O => (ca O).bind fun p => (g p.1).map fun d => (d, p.2)
noncomputable def rBA (K : PySem.W.Frag) (ps : List DP) : TA := fun O H Q => ∃ F R OD ds, Rel K F H OD O R /\ evB ps OD = some ds /\ ∀ F' H' vs, Grow F H F' H' -> BorL K F' H' ds vs -> Q vs H'
noncomputable def QBA (X : Cx) (es : List Expr) (ps : List DP) : Prop := PA X es (rBA X.K ps)
section
variable {X : Cx} {e : Expr} {es : List Expr} {p : DP} {ps : List DP} {x : Str} {p1 pos : Pos} {id T : String} {g : List D -> Option D} {ca : DA}
theorem qba_nil : QBA X [] [] := PA_imp pa_nil fun O H Q hq0 => by
 obtain ⟨F, R, OD, ds, r, ec, k⟩ := hq0;cases ec; exact k F H [] Grow.refl trivial
theorem qba_cons (ha : QB X e p) (hr : QBA X es ps) (hs : autoParam (starEach (e :: es) X.env = (false, eval e X.env) :: starEach es X.env) Ax4._auto_1) : QBA X (e :: es) (p :: ps) := PA_imp (pa_cons ha hr hs) fun O H Q hq0 => by
 obtain ⟨F, R, OD, ds, r, ec, k⟩ := hq0;simp only [evB] at ec;rcases h1 : p OD with _ | d
 ·rw [h1] at ec; cases ec
 ·rw [h1] at ec; simp only [bind_some] at ec
  rcases h2 : evB ps OD with _ | ds2
  ·rw [h2] at ec; cases ec
  ·rw [h2] at ec; cases ec
   refine ⟨F, R, OD, d, r, h1, fun F1 H1 v g1 b1 => ?_⟩;exact ⟨F1, R, OD, ds2, r.grow g1, h2, fun F2 H2 vs g2 b2 => k F2 H2 (v :: vs) (g1.trans g2) ⟨b1.grow g2, b2⟩⟩
theorem pCall_of {f : Value} (hc : CallS X f g) {O : St} {H : Hp} {Q : VK} (h : rB X.K (pCall g ps) O H Q) : tCB (fun vs H Q => ∃ F ds d w, BorL X.K F H ds vs /\ g ds = some d /\ d.sc = some w /\ Q w H) (rBA X.K ps) O H Q := by
 obtain ⟨F, R, OD, d, r, ec, k⟩ := h;unfold pCall at ec;rcases h1 : evB ps OD with _ | ds
 ·rw [h1] at ec; cases ec
 ·rw [h1] at ec; simp only [bind_some] at ec
  obtain ⟨w, hw⟩ := hc.sc _ _ ec;exact ⟨F, R, OD, ds, r, h1, fun F1 H1 vs g1 b1 => ⟨F1, ds, d, w, b1, ec, hw, k F1 H1 w g1 ⟨[], Ow.of_sc hw⟩⟩⟩
theorem dCall_of {f : Value} (hc : CallS X f g) {O : St} {H : Hp} {Q : VK} (h : rE X.K (dCallB g ca) O H Q) : tCB (fun vs H Q => ∃ F ds d w, BorL X.K F H ds vs /\ g ds = some d /\ d.sc = some w /\ Q w H) (rA X.K ca) O H Q := by
 obtain ⟨F, R, OD, d, OD', r, ec, k⟩ := h;unfold dCallB at ec;rcases h1 : ca OD with _ | ⟨ds, O1⟩
 ·rw [h1] at ec; cases ec
 ·rw [h1] at ec; simp only [bind_some] at ec
  obtain ⟨z, e1, e2⟩ := map_pair ec;cases e2;obtain ⟨w, hw⟩ := hc.sc _ _ e1;exact ⟨F, R, OD, ds, _, r, h1, fun F1 H1 vs x1 hl r1 => ⟨F1, ds, _, w, BorL.of hl r1, e1, hw, k F1 H1 w x1 ((r1.popN).scal hw)⟩⟩
theorem qb_fn (hc : CallS X (.builtin id) g) (hg : Gl X x) (hm : X.mg x = none) (hv : bootBuiltins x = some (.builtin id)) (ha : QBA X (e :: es) ps) (hn : autoParam (x ≠ "__name__") Ax1._auto_1) (hdb : autoParam ((x == ("__debug__" : Str)) = false) Ax1._auto_1)
  (he : autoParam (starEach (e :: es) X.env = (false, eval e X.env) :: starEach es X.env) Ax4._auto_1) (hpl : autoParam ((backTo pos (starEach es X.env)).any (·.1) = false) Ax4._auto_1) : QB X (.Call (.Name x p1) (e :: es) [] pos) (pCall g ps) :=
 PE_imp (pe_callB hc.run hg hm hv ha hn hdb he hpl) fun _ _ _ h => pCall_of hc h
theorem qe_fn (hc : CallS X (.builtin id) g) (hg : Gl X x) (hm : X.mg x = none) (hv : bootBuiltins x = some (.builtin id)) (ha : QA X (e :: es) ca) (hn : autoParam (x ≠ "__name__") Ax1._auto_1) (hdb : autoParam ((x == ("__debug__" : Str)) = false) Ax1._auto_1)
  (he : autoParam (starEach (e :: es) X.env = (false, eval e X.env) :: starEach es X.env) Ax4._auto_1) (hpl : autoParam ((backTo pos (starEach es X.env)).any (·.1) = false) Ax4._auto_1) : QE X (.Call (.Name x p1) (e :: es) [] pos) (dCallB g ca) :=
 PE_imp (pe_callB hc.run hg hm hv ha hn hdb he hpl) fun _ _ _ h => dCall_of hc h
theorem qb_ty (hc : CallS X (.type T) g) (hg : Gl X x) (hm : X.mg x = none) (hv : bootBuiltins x = some (.type T)) (ha : QBA X (e :: es) ps) (hn : autoParam (x ≠ "__name__") Ax1._auto_1) (hdb : autoParam ((x == ("__debug__" : Str)) = false) Ax1._auto_1)
  (he : autoParam (starEach (e :: es) X.env = (false, eval e X.env) :: starEach es X.env) Ax4._auto_1) (hpl : autoParam ((backTo pos (starEach es X.env)).any (·.1) = false) Ax4._auto_1) : QB X (.Call (.Name x p1) (e :: es) [] pos) (pCall g ps) :=
 PE_imp (pe_callTy hc.run hg hm hv ha hn hdb he hpl) fun _ _ _ h => pCall_of hc h
end
section
variable {X : Cx}
theorem CallR_imp {f : Value} {r r' : List V -> Hp -> VK -> Prop} (h : CallR X f r) (i : ∀ xs H Q, r' xs H Q -> r xs H Q) : CallR X f r' := fun pins s O H xs us Q I rv h' => h pins s O H xs us Q I rv (i xs H Q h')
theorem BorL.one {K : PySem.W.Frag} {F : Addr -> Prop} {H : Hp} {d : D} : ∀ {vs : List V}, BorL K F H [d] vs -> ∃ v, vs = [v] /\ Bor K F H d v
 | [v], h => ⟨v, rfl, h.1⟩
theorem BorL.two {K : PySem.W.Frag} {F : Addr -> Prop} {H : Hp} {d e : D} : ∀ {vs : List V}, BorL K F H [d, e] vs -> ∃ v w, vs = [v, w] /\ Bor K F H d v /\ Bor K F H e w := by
 intro vs h;cases vs with
 | nil => exact h.elim
 | cons v vs => cases vs with
  | nil => exact h.2.elim
  | cons w vs => cases vs with
   | nil => exact ⟨v, w, rfl, h.1, h.2.1⟩
   | cons _ _ => exact h.2.2.elim
noncomputable def lenD : List D -> Option D
 | [.lst _ xs] => some (.int xs.length)
 | [.tup xs] => some (.int xs.length)
 | [.str z] => if z.length <= sizeLine then some (.int z.length) else none
 | _ => none
theorem c_len : CallS X (.builtin "len") lenD := by
 refine ⟨CallR_imp (call_len_seq.or call_len_str) fun vs H Q pz => ?_, fun ds d h => ?_⟩
 ·obtain ⟨F, ds, d, w, b, eg, hw, q⟩ := pz
  unfold lenD at eg;split at eg
  ·cases eg; cases hw
   obtain ⟨v, rfl, bv⟩ := b.one;obtain ⟨a, us, rfl, sq, L, ol⟩ := bv.lst;exact .inl ⟨a, us, rfl, .inl sq, by rw [ol.length]; exact q⟩
  ·cases eg; cases hw
   obtain ⟨v, rfl, bv⟩ := b.one;obtain ⟨a, us, rfl, sq, L, ol⟩ := bv.tup;exact .inl ⟨a, us, rfl, .inr sq, by rw [ol.length]; exact q⟩
  ·split at eg
   ·rename_i hz
    cases eg; cases hw;obtain ⟨v, rfl, bv⟩ := b.one;exact .inr ⟨_, by rw [bv.str], hz, q⟩
   ·cases eg
  ·cases eg
 ·unfold lenD at h
  split at h
  ·cases h; exact ⟨_, rfl⟩
  ·cases h; exact ⟨_, rfl⟩
  ·split at h
   ·cases h; exact ⟨_, rfl⟩
   ·cases h
  ·cases h
noncomputable def intD : List D -> Option D
 | [.int i] => some (.int i)
 | [.bl b] => some (.int (if b then 1 else 0))
 | _ => none
theorem c_int : CallS X (.type "int") intD := by
 refine ⟨CallR_imp call_int1 fun vs H Q pz => ?_, fun ds d h => ?_⟩
 ·obtain ⟨F, ds, d, w, b, eg, hw, q⟩ := pz
  unfold intD at eg;split at eg
  ·cases eg; cases hw
   obtain ⟨v, rfl, bv⟩ := b.one;exact .inl ⟨_, by rw [bv.int], q⟩
  ·cases eg; cases hw
   obtain ⟨v, rfl, bv⟩ := b.one;exact .inr ⟨_, by rw [bv.bl], q⟩
  ·cases eg
 ·unfold intD at h
  split at h <;> first | (cases h; exact ⟨_, rfl⟩) | cases h
noncomputable def absD : List D -> Option D
 | [.int i] => some (.int (if i < 0 then -i else i))
 | _ => none
theorem c_abs : CallS X (.builtin "abs") absD := by
 refine ⟨CallR_imp call_abs fun vs H Q pz => ?_, fun ds d h => ?_⟩
 ·obtain ⟨F, ds, d, w, b, eg, hw, q⟩ := pz
  unfold absD at eg;split at eg
  ·cases eg; cases hw
   obtain ⟨v, rfl, bv⟩ := b.one;exact ⟨_, by rw [bv.int], q⟩
  ·cases eg
 ·unfold absD at h
  split at h <;> first | (cases h; exact ⟨_, rfl⟩) | cases h
noncomputable def max2D : List D -> Option D
 | [.int i, .int j] => some (.int (if j > i then j else i))
 | _ => none
noncomputable def min2D : List D -> Option D
 | [.int i, .int j] => some (.int (if j < i then j else i))
 | _ => none
theorem c_min2 (hc : X.calm = true) : CallS X (.builtin "min") min2D := by
 refine ⟨CallR_imp (call_min2 hc) fun vs H Q pz => ?_, fun ds d h => ?_⟩
 ·obtain ⟨F, ds, d, w, b, eg, hw, q⟩ := pz
  unfold min2D at eg;split at eg
  ·cases eg; cases hw
   obtain ⟨v, u, rfl, bv, bu⟩ := b.two;exact ⟨_, _, by rw [bv.int, bu.int], q⟩
  ·cases eg
 ·unfold min2D at h
  split at h <;> first | (cases h; exact ⟨_, rfl⟩) | cases h
noncomputable def intsOf : List D -> Option (List Int)
 | [] => some []
 | .int i :: xs => (intsOf xs).map fun r => i :: r
 | _ => none
noncomputable def sumD : List D -> Option D
 | [.lst _ xs] => (intsOf xs).map fun ns => .int ns.sum
 | _ => none
theorem intsOf_map {xs : List D} {ns : List Int} (h : intsOf xs = some ns) : xs = ns.map D.int := by
 induction xs generalizing ns with
 | nil => cases h; rfl
 | cons x xs ih =>
  cases x <;> first | (simp only [intsOf] at h; cases hh : intsOf xs with | none => rw [hh] at h; cases h | some r => rw [hh] at h; cases h; rw [ih hh]; rfl) | (simp only [intsOf] at h; cases h)
theorem OwL.ints {K : PySem.W.Frag} {F : Addr -> Prop} {H : Hp} : ∀ {ns : List Int} {vs : List V} {L : List Addr}, OwL K F H (ns.map D.int) vs L -> vs = ns.map V.int
 | [], vs, L, h => by simp only [List.map_nil, OwL] at h; exact h.1
 | n :: ns, vs, L, h => by
  simp only [List.map_cons, OwL] at h;obtain ⟨v, ws, L1, L2, rfl, o, ol, _⟩ := h;rw [(o.sc (w := .int n) rfl).1, OwL.ints ol]; rfl
theorem c_sum (hc : X.calm = true) : CallS X (.builtin "sum") sumD := by
 refine ⟨fun pins s O H vs us Q I rv pz => ?_, fun ds d h => ?_⟩
 ·obtain ⟨F, ds, d, w, b, eg, hw, q⟩ := pz
  unfold sumD at eg;split at eg
  ·rename_i own xs
   rcases hns : intsOf xs with _ | ns
   ·rw [hns] at eg; cases eg
   ·rw [hns] at eg; cases eg; cases hw
    have ex := intsOf_map hns;subst ex;obtain ⟨v, rfl, bv⟩ := b.one;obtain ⟨a, ws, rfl, sq, L, ol⟩ := bv.lst;obtain ⟨u, rfl, ru⟩ := vals1 rv;cases ru;obtain ⟨its, r, pl, _⟩ := I.list sq;rw [ol.ints] at r;have hi : IntsAre its ns := intsAre_of r;obtain ⟨ys, hy⟩ := hi.allInts.items;refine sum_intListG (xs := ys) (I.ok.hd hc) (by rw [<- hy]; exact pl.isList) fun h' tk t' hk => ⟨.int ns.sum, H, I.kept hk, ?_, q⟩
    have : (preSum (numAt ys) ys.size) = ns.sum := by
     rw [preSum_eq, List.take_of_length_le (by simp), <- nums_intItems, <- hy];rw [show its.toArray.toList = its from rfl, hi.numsOf]
    rw [this];exact ⟨t', rfl⟩
  ·cases eg
 ·unfold sumD at h
  split at h
  ·rcases hh : intsOf _ with _ | r
   ·rw [hh] at h; cases h
   ·rw [hh] at h; cases h; exact ⟨_, rfl⟩
  ·cases h
end
noncomputable def getP : D -> List Int -> Option D
 | t, [] => some t
 | .lst _ xs, j :: js => (atI xs j).bind fun x => getP x js
 | .tup xs, j :: js => (atI xs j).bind fun x => getP x js
 | _, _ :: _ => none
noncomputable def setP : D -> List Int -> D -> D
 | _, [], d => d
 | .lst o xs, j :: js, d => match ixN xs.length j with | some k => (match xs[k]? with | some x => .lst o (xs.set k (setP x js d)) | none => .lst o xs) | none => .lst o xs
 | .tup xs, j :: js, d => match ixN xs.length j with | some k => (match xs[k]? with | some x => .tup (xs.set k (setP x js d)) | none => .tup xs) | none => .tup xs
 | t, _ :: _, _ => t
noncomputable def Lc (H : Hp) : V -> List Int -> V -> Prop
 | v, [], w => w = v
 | v, j :: js, w => ∃ a vs u, v = .ref a /\ (H a = some (.lst vs) \/ H a = some (.tup vs)) /\ atI vs j = some u /\ Lc H u js w
theorem atI_ix {α : Type} {xs : List α} {j : Int} {x : α} (h : atI xs j = some x) : ∃ k, ixN xs.length j = some k /\ xs[k]? = some x := by
 unfold atI at h;rcases hk : ixN xs.length j with _ | k
 ·rw [hk] at h; cases h
 ·rw [hk] at h; exact ⟨k, rfl, h⟩
section
variable {K : PySem.W.Frag} {F F' : Addr -> Prop} {H H' : Hp} {OD : DSt} {O : St} {R S S' : Ro}
theorem Lc.grow {H H' : Hp} (k : ∀ a o, H a = some o -> H' a = some o) : ∀ {js : List Int} {v w : V}, Lc H v js w -> Lc H' v js w
 | [], _, _, h => h
 | j :: js, _, _, ⟨a, vs, u, e, h, hu, r⟩ => ⟨a, vs, u, e, by rcases h with h | h; exact .inl (k _ _ h); exact .inr (k _ _ h), hu, Lc.grow k r⟩
theorem Ow.focus : ∀ {js : List Int} {t : D} {v : V} {L : List Addr} {xs : List D}, Ow K F H t v L -> getP t js = some (.lst true xs) ->
  ∃ l La Lx Lb, Lc H v js (.ref l) /\ L = La ++ (l :: Lx) ++ Lb /\ (∃ vs, H l = some (.lst vs) /\ OwL K F H xs vs Lx) /\
   ∀ (F' : Addr -> Prop) (H' : Hp) (d' : D) (Lx' : List Addr), Ext F H F' H' -> (∀ a ∈ La ++ Lb, H' a = H a) -> Ow K F' H' d' (.ref l) Lx' -> Ow K F' H' (setP t js d') v (La ++ Lx' ++ Lb) := by
 intro js
 induction js with
 | nil =>
  intro t v L xs o e;simp only [getP] at e;cases e;simp only [Ow] at o;obtain ⟨l, vs, L', rfl, h, ol, rfl⟩ := o;refine ⟨l, [], L', [], rfl, (List.append_nil _).symm, ⟨vs, h, ol⟩, fun F' H' d' Lx' x k o' => ?_⟩;simp only [setP, List.nil_append, List.append_nil];exact o'
 | cons j js ih =>
  intro t v L xs o e;cases t with
  | lst b ys =>
   simp only [getP] at e;rcases h1 : atI ys j with _ | y
   ·rw [h1] at e; cases e
   rw [h1] at e; simp only [bind_some] at e;obtain ⟨k, hk, hy⟩ := atI_ix h1;cases b with
   | true =>
    simp only [Ow] at o;obtain ⟨a, vs, L', rfl, ha, ol, rfl⟩ := o;obtain ⟨w, La, Ly, Lb, ew, rfl, oy, back⟩ := ol.kid hy;obtain ⟨l, Ma, Mx, Mb, lc, rfl, hl, back2⟩ := ih oy e;refine ⟨l, a :: (La ++ Ma), Mx, Mb ++ Lb, ⟨a, vs, w, rfl, .inl ha, ?_, lc⟩, by simp, hl, fun F' H' d' Lx' x kk o' => ?_⟩
    ·unfold atI; rw [ol.length, hk]; exact ew
    ·have o2 := back2 F' H' d' Lx' x (fun b hb => kk b (by simp at hb ⊢; rcases hb with hb | hb <;> simp [hb])) o'
     have o3 := back F' H' _ _ x (fun b hb => kk b (by simp at hb ⊢; rcases hb with hb | hb <;> simp [hb])) o2;simp only [setP, hk, hy, Ow];exact ⟨a, vs, _, rfl, (kk a (by simp)).trans ha, o3, by simp⟩
   | false =>
    exfalso;simp only [Ow] at o;obtain ⟨a, vs, rfl, _, ol, rfl⟩ := o;obtain ⟨w, La, Ly, Lb, ew, eL, oy, back⟩ := ol.kid hy;obtain ⟨l, Ma, Mx, Mb, lc, rfl, hl, back2⟩ := ih oy e;simp at eL
  | tup ys =>
   simp only [getP] at e;rcases h1 : atI ys j with _ | y
   ·rw [h1] at e; cases e
   rw [h1] at e; simp only [bind_some] at e;obtain ⟨k, hk, hy⟩ := atI_ix h1;simp only [Ow] at o;obtain ⟨a, vs, rfl, ft, ol⟩ := o;obtain ⟨w, La, Ly, Lb, ew, rfl, oy, back⟩ := ol.kid hy;obtain ⟨l, Ma, Mx, Mb, lc, rfl, hl, back2⟩ := ih oy e;have ft' : F a /\ H a = some (.tup vs) := by
    rcases ft with h | ⟨_, h⟩
    ·exact h
    ·simp at h
   refine ⟨l, La ++ Ma, Mx, Mb ++ Lb, ⟨a, vs, w, rfl, .inr ft'.2, ?_, lc⟩, by simp, hl, fun F' H' d' Lx' x kk o' => ?_⟩
   ·unfold atI; rw [ol.length, hk]; exact ew
   ·have o2 := back2 F' H' d' Lx' x (fun b hb => kk b (by simp at hb ⊢; rcases hb with hb | hb <;> simp [hb])) o'
    have o3 := back F' H' _ _ x (fun b hb => kk b (by simp at hb ⊢; rcases hb with hb | hb <;> simp [hb])) o2;simp only [setP, hk, hy, Ow];exact ⟨a, vs, rfl, .inl ⟨(x a ft'.1).1, (x a ft'.1).2.trans ft'.2⟩, by simpa using o3⟩
  | _ => simp only [getP] at e; cases e
theorem Rel.listAt {t : D} {v : V} {js : List Int} {xs : List D} (r : Rel K F H OD O ((t, v) :: (S ++ R))) (e : getP t js = some (.lst true xs)) :
  ∃ l vs, Lc H v js (.ref l) /\ H l = some (.lst vs) /\ xs.length = vs.length /\ ∀ (ys : List D) (ws : List V) (S' : Ro), (xs.zip vs ++ S).Perm (ys.zip ws ++ S') -> ys.length = ws.length ->
   Rel K F (upd H l (.lst ws)) OD O ((setP t js (.lst true ys), v) :: (S' ++ R)) /\ Ext F H F (upd H l (.lst ws)) := by
 obtain ⟨L, ⟨L1, L23, o1, h23, rfl⟩, nd, nf⟩ := r.front.own;obtain ⟨l, La, Lx, Lb, lc, rfl, ⟨vs, hl, ol⟩, back⟩ := o1.focus e;refine ⟨l, vs, lc, hl, ol.toP.1, fun ys ws S' p hlen => ?_⟩;have h23' : OwP K F H (S ++ (R ++ sl OD O)) L23 := by rw [<- List.append_assoc]; exact h23
 obtain ⟨L2, L3, rfl, h2, h3⟩ := h23'.split;obtain ⟨M, pm, hM⟩ := (ol.toP.2.append h2).perm p;obtain ⟨M1, M2, rfl, hM1, hM2⟩ := hM.split;have all : ((La ++ (l :: Lx) ++ Lb) ++ (L2 ++ L3)).Perm (l :: (La ++ Lb ++ (Lx ++ L2) ++ L3)) := by
  have h1 : ((La ++ (l :: Lx) ++ Lb) ++ (L2 ++ L3)) = La ++ l :: (Lx ++ (Lb ++ (L2 ++ L3))) := by simp
  rw [h1];refine List.perm_middle.trans (.cons _ ?_);have h2 : La ++ Lb ++ (Lx ++ L2) ++ L3 = La ++ (Lb ++ (Lx ++ (L2 ++ L3))) := by simp
  rw [h2];exact (List.perm_append_comm_assoc _ _ _).append_left La
 have nd1 := all.nodup_iff.mp nd;have nl : ∀ a ∈ La ++ Lb ++ (Lx ++ L2) ++ L3, a ≠ l := fun a ha z => (List.nodup_cons.mp nd1).1 (z ▸ ha)
 have nF : ∀ a, F a -> a ≠ l := fun a fa z => nf l (all.mem_iff.mpr (by simp)) (z ▸ fa)
 have x : Ext F H F (upd H l (.lst ws)) := fun a fa => ⟨fa, upd_ne (nF a fa)⟩
 have kM : ∀ a ∈ M1 ++ M2, upd H l (.lst ws) a = H a := fun a ha => upd_ne (nl a (by
  have := pm.mem_iff.mpr ha
  simp at this ⊢;rcases this with h | h <;> simp [h]))
 have o2 : Ow K F (upd H l (.lst ws)) (.lst true ys) (.ref l) (l :: M1) := by
  simp only [Ow];exact ⟨l, ws, M1, rfl, upd_same, OwL.ofP hlen (hM1.mono x fun a ha => kM a (by simp [ha])), rfl⟩
 have o3 := back F (upd H l (.lst ws)) (.lst true ys) (l :: M1) x (fun a ha => upd_ne (nl a (by simp at ha ⊢; rcases ha with h | h <;> simp [h]))) o2;refine ⟨Rel.of r.mt ⟨⟨(La ++ (l :: M1) ++ Lb) ++ (M2 ++ L3), ⟨_, M2 ++ L3, o3, ?_, rfl⟩, ?_, ?_⟩, fun a fa => ?_⟩, x⟩
 ·show OwP K F (upd H l (.lst ws)) ((S' ++ R) ++ sl OD O) (M2 ++ L3)
  rw [List.append_assoc];exact (hM2.mono x fun a ha => kM a (by simp [ha])).append (h3.mono x fun a ha => upd_ne (nl a (by simp [ha])))
 ·have p2 : ((La ++ (l :: M1) ++ Lb) ++ (M2 ++ L3)).Perm ((La ++ (l :: Lx) ++ Lb) ++ (L2 ++ L3)) := by
   refine List.Perm.trans ?_ all.symm;have h1 : ((La ++ (l :: M1) ++ Lb) ++ (M2 ++ L3)) = La ++ l :: (M1 ++ (Lb ++ (M2 ++ L3))) := by simp
   rw [h1];refine List.perm_middle.trans (.cons _ ?_);have h2 : La ++ Lb ++ (Lx ++ L2) ++ L3 = La ++ (Lb ++ ((Lx ++ L2) ++ L3)) := by simp
   rw [h2];refine List.Perm.append_left La ?_;refine (List.perm_append_comm_assoc _ _ _).trans (List.Perm.append_left Lb ?_);rw [<- List.append_assoc];exact pm.symm.append_right L3
  exact p2.nodup_iff.mpr nd
 ·intro a ha fa
  refine nf a ?_ fa;simp only [List.mem_append, List.mem_cons] at ha ⊢;rcases ha with ((h | h | h) | h) | h | h
  ·simp [h]
  ·simp [h]
  ·have := pm.mem_iff.mpr (List.mem_append_left M2 h)
   rcases List.mem_append.mp this with z | z <;> simp [z]
  ·simp [h]
  ·have := pm.mem_iff.mpr (List.mem_append_right M1 h)
   rcases List.mem_append.mp this with z | z <;> simp [z]
  ·simp [h]
 ·rw [upd_ne (nF a fa)]; exact r.g.dom a fa
end
noncomputable def evI : List DP -> DSt -> Option (List Int)
 | [], _ => some []
 | p :: ps, O => (p O).bind fun d => match d with | .int i => (evI ps O).map fun r => i :: r | _ => none
theorem Lc.uniq {H : Hp} : ∀ {js : List Int} {v w w' : V}, Lc H v js w -> Lc H v js w' -> w = w' := by
 intro js
 induction js with
 | nil => intro v w w' h h'; exact h.trans h'.symm
 | cons j js ih =>
  intro v w w' q q';obtain ⟨a, vs, u, e, h, hu, r⟩ := q;obtain ⟨a', vs', u', e', h', hu', r'⟩ := q';subst e;cases e';have ev : vs = vs' := by
   rcases h with h | h <;> rcases h' with h' | h' <;> rw [h] at h' <;> cases h' <;> rfl
  subst ev;rw [hu] at hu';cases hu';exact ih r r'
noncomputable def rP (K : PySem.W.Frag) (i : Nat) (js : List DP) : TE := fun O H Q => ∃ F R OD v0 path w, Rel K F H OD O R /\ O[i]? = some (some v0) /\ evI js OD = some path /\ Lc H v0 path w /\ ∀ F' H', Grow F H F' H' -> Q w H'
noncomputable def QP (X : Cx) (e : Expr) (i : Nat) (js : List DP) : Prop := PE X e (rP X.K i js)
section
variable {X : Cx} {e o a b : Expr} {es : List Expr} {p q : DP} {c c' : DE} {pos apos cpos : Pos} {i : Nat} {js : List DP}
theorem qp_v (i : Nat) {x : Str} {pos : Pos} (hN : autoParam (X.N[i]? = some x) Ax4._auto_1) (hv : autoParam (Vis X.env.scope x) Ax7._auto_1) (hd : autoParam ((x == ("__debug__" : Str)) = false) Ax1._auto_1)
  (hcd : autoParam ((x == ("__classdict__" : Str)) = false) Ax1._auto_1) : QP X (.Name x pos) i [] := PE_imp (pe_var hN hv hd hcd) fun O H Q hq0 => by
 obtain ⟨F, R, OD, v0, path, w, r, hv0, ep, lc, k⟩ := hq0;cases ep;cases lc;exact ⟨_, hv0, k F H Grow.refl⟩
end
section
variable {X : Cx} {e o a b : Expr} {es : List Expr} {p q : DP} {c c' : DE} {pos apos cpos : Pos} {i : Nat} {js : List DP}
noncomputable def dAppV (i : Nat) (c : DE) : DE := fun O => match dget O i with
 | some (.lst _ _) => (c O).bind fun p => match dget p.2 i with
  | some (.lst true xs) => if xs.length < sizeLine then some (.non, p.2.set i (some (.lst true (xs ++ [p.1])))) else none
  | _ => none
 | _ => none
theorem qe_appV (i : Nat) {x : Str} {npos : Pos} (he : QE X e c) (hN : autoParam (X.N[i]? = some x) Ax4._auto_1) (hv : autoParam (Vis X.env.scope x) Ax7._auto_1) (hd : autoParam ((x == ("__debug__" : Str)) = false) Ax1._auto_1)
  (hcd : autoParam ((x == ("__classdict__" : Str)) = false) Ax1._auto_1) (hbase : autoParam (attributeBase (.Name x npos) "append" X.env (eval (.Name x npos) X.env) = eval (.Name x npos) X.env) Ax4._auto_1) (hfew : autoParam (((backTo cpos (starEach [e] X.env)).all (fun x => !x.1) && (backToKw cpos (keywordEach [] X.env)).all (fun x => x.1.isSome)
   && decide (([e] : List Expr).length + ([] : List Keyword).length + (if ([] : List Keyword).isEmpty then 0 else 1) < 30)) = true) Ax4._auto_1) (hline : autoParam ((apos.endLine == cpos.line) = true) Ax4._auto_1)
  (hst : autoParam (starEach [e] X.env = (false, eval e X.env) :: starEach [] X.env) Ax4._auto_1) : QE X (.Call (.Attribute (.Name x npos) "append" apos) [e] [] cpos) (dAppV i c) :=
 PE_imp (pe_bm PySem.F.plainAttrs_list PySem.F.slot_list_append PySem.F.type_list_append mt_append (pe_var hN hv hd hcd) (pa_cons he pa_nil hst) hbase hfew hline hst rfl) fun O H Q hq0 => by
  obtain ⟨F, R, OD, d, OD', r, ec, k⟩ := hq0;unfold dAppV at ec;split at ec
  ·rename_i own ys h0
   obtain ⟨v0, hv0, b0⟩ := r.get (dget_some h0);obtain ⟨a0, vs0, rfl, sq0, _⟩ := b0.lst;rcases h1 : c OD with _ | ⟨y, O1⟩
   ·rw [h1] at ec; cases ec
   ·rw [h1] at ec; simp only [bind_some] at ec
    split at ec
    ·rename_i xs h2
     split at ec
     ·rename_i hz
      cases ec;refine ⟨_, hv0, .inl ⟨rfl, vs0, sq0⟩, F, R, OD, y, O1, r, h1, fun F1 H1 v x1 r1 => ?_⟩;obtain ⟨v1, hv1, r2⟩ := r1.take (dget_some h2);rw [hv0] at hv1; cases hv1;obtain ⟨l, vs, lc, hl, hlen, upd'⟩ := Rel.listAt (S := [(y, v)]) (js := []) (xs := xs) r2 rfl;cases lc;obtain ⟨r3, x3⟩ := upd' (xs ++ [y]) (vs ++ [v]) [] (by rw [List.zip_append hlen]; simp) (by simp [hlen]);refine ⟨_, vs, v, rfl, rfl, hl, by omega, ?_⟩;have r4 := (Rel.put (R := R) r3 hv0);rw [List.set_set] at r4;exact k F1 _ .non (x1.trans x3) (r4.scal rfl)
     ·cases ec
    ·cases ec
  ·cases ec
noncomputable def gSet (i : Nat) (js : List DP) (q : DP) : DG := fun d O => (dget O i).bind fun t => (evI js O).bind fun path => (getP t path).bind fun n => match n with
 | .lst true xs => (q O).bind fun y => match y with
  | .int k => (ixN xs.length k).map fun j => O.set i (some (setP t path (.lst true (xs.set j d))))
  | _ => none
 | _ => none
theorem zip_set : ∀ {xs : List D} {vs : List V} {j : Nat} {d : D} {v : V}, xs.length = vs.length -> j < xs.length -> ∃ x w, ((xs.zip vs) ++ [(d, v)]).Perm ((xs.set j d).zip (vs.set j v) ++ [(x, w)]) := by
 intro xs
 induction xs with
 | nil => intro vs j d v hl hj; exact absurd hj (Nat.not_lt_zero _)
 | cons x xs ih =>
  intro vs j d v hl hj;cases vs with
  | nil => cases hl
  | cons w vs => cases j with
   | zero =>
    refine ⟨x, w, ?_⟩;show ((x, w) :: (xs.zip vs ++ [(d, v)])).Perm ((d, v) :: (xs.zip vs ++ [(x, w)]));have h1 : ((x, w) :: (xs.zip vs ++ [(d, v)])).Perm ((x, w) :: (d, v) :: xs.zip vs) := (List.perm_append_comm).cons _;have h2 : ((d, v) :: (xs.zip vs ++ [(x, w)])).Perm ((d, v) :: (x, w) :: xs.zip vs) := (List.perm_append_comm).cons _;exact (h1.trans (.swap _ _ _)).trans h2.symm
   | succ j =>
    obtain ⟨y, u, h⟩ := ih (vs := vs) (j := j) (d := d) (v := v) (Nat.succ.inj hl) (Nat.lt_of_succ_lt_succ hj);exact ⟨y, u, h.cons _⟩
theorem qg_set (ho : QP X o i js) (hq : QB X a q) (ha : autoParam (∀ v, assign (.Subscript o a pos) X.env v = (do
   let ov <- holding [v] (eval o X.env)
   let iv <- holding [v, ov] (eval a X.env)
   standAt pos
   holding [v, ov, iv] (setItem ov iv v)
   release [v, ov, iv] [])) Ax3._auto_1) : QG X (.Subscript o a pos) (gSet i js q) [] := PG_imp (pg_sub ho hq set_list ha) fun v O H Q hq0 => by
 obtain ⟨F, R, OD, d, OD', r, ec, k⟩ := hq0;unfold gSet at ec;rcases h1 : dget OD i with _ | t
 ·rw [h1] at ec; cases ec
 ·rw [h1] at ec; simp only [bind_some] at ec
  rcases h2 : evI js OD with _ | path
  ·rw [h2] at ec; cases ec
  ·rw [h2] at ec; simp only [bind_some] at ec
   rcases h3 : getP t path with _ | n
   ·rw [h3] at ec; cases ec
   ·rw [h3] at ec; simp only [bind_some] at ec
    split at ec
    ·rename_i xs
     rcases h4 : q OD with _ | y
     ·rw [h4] at ec; cases ec
     ·rw [h4] at ec; simp only [bind_some] at ec
      split at ec
      ·rename_i kk
       rcases h5 : ixN xs.length kk with _ | j
       ·rw [h5] at ec; cases ec
       ·rw [h5] at ec; cases ec
        obtain ⟨v0, hv0, r0⟩ := r.take (dget_some h1);obtain ⟨l0, vs0, lc0, hl0, _⟩ := Rel.listAt (S := [(d, v)]) r0 h3;refine ⟨F, _, OD, v0, path, .ref l0, r, hv0, h2, lc0, fun F1 H1 g1 => ?_⟩;refine ⟨F1, _, OD, _, r.grow g1, h4, fun F2 H2 u g2 b2 => ?_⟩;have g3 := g1.trans g2;obtain ⟨v1, hv1, r1⟩ := (r.grow g3).take (dget_some h1);rw [hv0] at hv1; cases hv1;obtain ⟨l, vs, lc, hl, hlen, upd'⟩ := Rel.listAt (S := [(d, v)]) r1 h3;have el : l0 = l := by
         have := (lc0.grow g3.k).uniq lc
         injection this
        subst el;have hj : j < xs.length := (ixN_seq h5).2.1;obtain ⟨xo, wo, pm⟩ := zip_set (d := d) (v := v) hlen hj;obtain ⟨r3, x3⟩ := upd' (xs.set j d) (vs.set j v) [(xo, wo)] pm (by simp [hlen]);refine ⟨l0, vs, kk, j, rfl, b2.int, hl, by rw [<- hlen]; exact h5, ?_⟩;have r4 := (Rel.put (R := (xo, wo) :: R) r3 hv0);rw [List.set_set] at r4;exact k F2 _ O (g3.x.trans x3) Kp.refl r4.pop
      ·cases ec
    ·cases ec
end
section
variable {K : PySem.W.Frag} {F F' : Addr -> Prop} {H H' : Hp} {OD : DSt} {O : St} {R S : Ro}
theorem Rel.pushL : ∀ {xs : List D} {vs : List V}, OwL K F H xs vs [] -> Rel K F H OD O R -> Rel K F H OD O (xs.zip vs ++ R)
 | [], vs, h, r => by simp only [OwL] at h; rw [h.1]; exact r
 | x :: xs, vs, h, r => by
  simp only [OwL] at h;obtain ⟨v, ws, L1, L2, rfl, h1, h2, e⟩ := h;obtain ⟨rfl, rfl⟩ := List.append_eq_nil_iff.mp e.symm;exact (Rel.pushL h2 r).push h1
end
noncomputable def cutG {α : Type} (xs : List α) (lo hi : Option Int) : List α := (xs.drop (HT.sIx xs.length 0 lo)).take (HT.sIx xs.length xs.length hi - HT.sIx xs.length 0 lo)
noncomputable def evO : Option DP -> DSt -> Option (Option Int)
 | none, _ => some none
 | some p, O => (p O).bind fun d => match d with | .int i => some (some i) | _ => none
section
variable {X : Cx} {e a b : Expr} {lo hi : Option Expr} {pl ph : Option DP} {p q : DP} {c c' : DE} {pos p2 : Pos} {i : Nat}
noncomputable def dSl (c : DE) (pl ph : Option DP) : DE := fun O => (c O).bind fun p => match p.1 with
 | .lst _ xs => (evO pl p.2).bind fun l => (evO ph p.2).map fun h => (.lst true (cutG (D.fzL xs) l h), p.2)
 | _ => none
noncomputable def dCat (c c' : DE) : DE := fun O => (c O).bind fun p => (c' p.2).bind fun q => match p.1, q.1 with
 | .lst true xs, .lst true ys => if xs.length + ys.length <= sizeLine then some (.lst true (xs ++ ys), q.2) else none
 | _, _ => none
theorem qe_cat (ha : QE X a c) (hb : QE X b c') : QE X (.BinOp a .Add b pos) (dCat c c') := PE_imp (pe_op op_cat ha hb) fun O H Q hq0 => by
 obtain ⟨F, R, OD, d, OD', r, ec, k⟩ := hq0;unfold dCat at ec;rcases h1 : c OD with _ | ⟨x, O1⟩
 ·rw [h1] at ec; cases ec
 ·rw [h1] at ec; simp only [bind_some] at ec
  rcases h2 : c' O1 with _ | ⟨y, O2⟩
  ·rw [h2] at ec; cases ec
  ·rw [h2] at ec; simp only [bind_some] at ec
   split at ec
   ·rename_i xs ys
    split at ec
    ·rename_i hz
     cases ec;refine ⟨F, R, OD, _, O1, r, h1, fun F1 H1 v x1 r1 => ?_⟩;refine ⟨F1, _, O1, _, _, r1, h2, fun F2 H2 u x2 r2 => ?_⟩;obtain ⟨l2, ws, rfl, hw, hlw, r3⟩ := r2.openL;have r3' := (r3.pop).perm (List.perm_middle (a := ((.lst true xs : D), v)) (l₁ := ys.zip ws) (l₂ := R));obtain ⟨l1, us, rfl, hu, hlu, r4⟩ := r3'.openL;refine ⟨l1, l2, us, ws, rfl, rfl, hu, hw, by rw [<- hlu, <- hlw]; exact hz, fun p hp => ?_⟩;have r5 : Rel X.K F2 H2 OD' O ((xs ++ ys).zip (us ++ ws) ++ R) := by
      rw [List.zip_append hlu, List.append_assoc]; exact r4.pop
     obtain ⟨r6, x6⟩ := r5.layL (by simp [hlu, hlw]) hp;exact k F2 _ _ ((x1.trans x2).trans x6) r6
    ·cases ec
   ·cases ec
noncomputable def allSc (xs : List D) : Bool := xs.all fun d => d.sc.isSome
noncomputable def dRep (c c' : DE) : DE := fun O => (c O).bind fun p => (c' p.2).bind fun q => match p.1, q.1 with
 | .lst true xs, .int n => if allSc xs = true /\ -(2 ^ 63) <= n /\ n < 2 ^ 63 /\ xs.length * n.toNat <= sizeLine then some (.lst true (List.replicate n.toNat xs).flatten, q.2) else none
 | _, _ => none
theorem OwL.sc {K : PySem.W.Frag} {F : Addr -> Prop} {H : Hp} : ∀ {xs : List D} {vs : List V} {L : List Addr}, OwL K F H xs vs L -> allSc xs = true -> L = [] /\ ∀ F' H', OwL K F' H' xs vs []
 | [], vs, L, h, _ => by simp only [OwL] at h ⊢; exact ⟨h.2, fun _ _ => ⟨h.1, trivial⟩⟩
 | x :: xs, vs, L, h, s => by
  simp only [OwL] at h;obtain ⟨v, ws, L1, L2, rfl, h1, h2, rfl⟩ := h;simp only [allSc, List.all_cons, Bool.and_eq_true] at s;obtain ⟨w, hw⟩ := Option.isSome_iff_exists.mp s.1;obtain ⟨rfl, rfl⟩ := h1.sc hw;obtain ⟨rfl, h3⟩ := OwL.sc h2 s.2;exact ⟨rfl, fun F' H' => by simp only [OwL]; exact ⟨v, ws, [], [], rfl, Ow.of_sc hw, h3 F' H', rfl⟩⟩
theorem OwL.app {K : PySem.W.Frag} {F : Addr -> Prop} {H : Hp} : ∀ {xs ys : List D} {vs ws : List V}, OwL K F H xs vs [] -> OwL K F H ys ws [] -> OwL K F H (xs ++ ys) (vs ++ ws) []
 | [], ys, vs, ws, h, h' => by simp only [OwL] at h; rw [h.1]; exact h'
 | x :: xs, ys, vs, ws, h, h' => by
  simp only [OwL] at h;obtain ⟨v, us, L1, L2, rfl, h1, h2, e⟩ := h;obtain ⟨rfl, rfl⟩ := List.append_eq_nil_iff.mp e.symm;simp only [List.cons_append, OwL];exact ⟨v, us ++ ws, [], [], rfl, h1, OwL.app h2 h', rfl⟩
theorem OwL.rep {K : PySem.W.Frag} {F : Addr -> Prop} {H : Hp} {xs : List D} {vs : List V} (h : OwL K F H xs vs []) : ∀ n : Nat, OwL K F H (List.replicate n xs).flatten (List.replicate n vs).flatten []
 | 0 => by simp [OwL]
 | n + 1 => by
  rw [List.replicate_succ, List.replicate_succ, List.flatten_cons, List.flatten_cons];exact OwL.app h (OwL.rep h n)
theorem qe_rep (ha : QE X a c) (hb : QE X b c') : QE X (.BinOp a .Mult b pos) (dRep c c') := PE_imp (pe_op op_rep ha hb) fun O H Q hq0 => by
 obtain ⟨F, R, OD, d, OD', r, ec, k⟩ := hq0;unfold dRep at ec;rcases h1 : c OD with _ | ⟨x, O1⟩
 ·rw [h1] at ec; cases ec
 ·rw [h1] at ec; simp only [bind_some] at ec
  rcases h2 : c' O1 with _ | ⟨y, O2⟩
  ·rw [h2] at ec; cases ec
  ·rw [h2] at ec; simp only [bind_some] at ec
   split at ec
   ·rename_i xs n
    split at ec
    ·rename_i hz
     cases ec;refine ⟨F, R, OD, _, O1, r, h1, fun F1 H1 v x1 r1 => ?_⟩;refine ⟨F1, _, O1, _, _, r1, h2, fun F2 H2 u x2 r2 => ?_⟩;have hu : u = .int n := (r2.bor (by simp)).int;have r3 := r2.pop;obtain ⟨l, vs, rfl, hw, hlw, r4⟩ := r3.openL;obtain ⟨L, ⟨L1, L2, o1, h12, _⟩, _, _⟩ := r3.front.own;simp only [Ow] at o1;obtain ⟨l', vs', L', e1, e2, ol, _⟩ := o1;cases e1;rw [hw] at e2; cases e2;have os := (ol.sc hz.1).2 F2 H2;refine ⟨l, n, vs, rfl, hu, hw, hz.2.1, hz.2.2.1, by rw [<- hlw]; exact hz.2.2.2, fun p hp => ?_⟩;have orp := os.rep n.toNat;obtain ⟨r6, x6⟩ := (Rel.pushL orp r3.pop).layL orp.length.symm hp;exact k F2 _ _ ((x1.trans x2).trans x6) r6
    ·cases ec
   ·cases ec
noncomputable def gNeg : D -> Option D
 | .int i => some (.int (-i))
 | _ => none
noncomputable def pNeg (p : DP) : DP := fun O => (p O).bind gNeg
theorem gNeg_some {x d : D} (h : gNeg x = some d) : ∃ i, x = .int i /\ d = .int (-i) := by
 cases x <;> first | (cases h; exact ⟨_, rfl, rfl⟩) | cases h
theorem qb_neg (ha : QB X a p) : QB X (.UnaryOp .USub a pos) (pNeg p) := PE_imp (pe_un un_neg ha) fun O H Q hq0 => by
 obtain ⟨F, R, OD, d, r, ec, k⟩ := hq0;unfold pNeg at ec;rcases h1 : p OD with _ | x
 ·rw [h1] at ec; cases ec
 ·rw [h1] at ec; simp only [bind_some] at ec
  obtain ⟨i, rfl, rfl⟩ := gNeg_some ec;exact ⟨F, R, OD, _, r, h1, fun F1 H1 v g1 b1 => ⟨i, b1.int, k F1 H1 _ g1 ⟨[], Ow.of_sc rfl⟩⟩⟩
variable {rest : List Expr}
end
end DD
namespace L2
open PySem PySem.Spec PyProof.Rows
noncomputable def Itz (K : PySem.W.Frag) (a b : Addr) : It :=
 ⟨fun i H => ∃ xs ys x y, SqL K H a xs /\ SqL K H b ys /\ xs[i]? = some x /\ ys[i]? = some y,
  fun i H x H' => ∃ p u w, (∀ xs, SqL K H a xs -> xs[i]? = some u) /\ (∀ ys, SqL K H b ys -> ys[i]? = some w) /\ H p = none /\ H' = upd H p (.tup [u, w]) /\ x = .ref p,
  fun i H => ∃ xs ys, SqL K H a xs /\ SqL K H b ys /\ (xs.length <= i \/ ys.length <= i)⟩
theorem Inv.turnT {X : Cx} {pins : List (Addr × Obj)} {O : St} {H : Hp} {s : Shared} {h' : Heap} {ch : List Addr} {u w : V} {x y : Value} (I : Inv X pins O H s) (hf : ∀ b ∈ ch, FpOk X pins H b) (ru : RelV u x) (rw' : RelV w y)
  (hk : ∀ c o, c ∉ ch -> s.heap.get? c = some o -> h'.get? c = some o) (hT : IsPair h' s.heap.objs.size x y) (hth : ∀ b ∈ ch, ∃ o, h'.get? b = some o) : Inv X pins O (upd H s.heap.objs.size (.tup [u, w])) { s with heap := h' } := by
 have hfr : H s.heap.objs.size = none := I.fresh;have nch : ∀ b o, H b = some o -> b ∉ ch := fun b o e hb => by rw [(hf b hb).1] at e; cases e
 have ne : ∀ b o, s.heap.get? b = some o -> b ≠ s.heap.objs.size := fun b o e => Nat.ne_of_lt (Heap.lt_size e)
 refine I.step (g' := s.gens) (d' := s.drawn) (t' := s.toks) (ch := ch) (fun b hb => ⟨(hf b hb).2.2.2.1, (hf b hb).2.1, (hf b hb).2.2.2.2.1, (hf b hb).2.2.2.2.2⟩) (fun b o _ _ hc e _ => hk b o hc e)
  (fun b o _ _ hc e _ => ⟨o.slots, hk b o hc e⟩) (fun b o _ e n => by rw [upd_ne (ne b o e)]; exact n) (fun b o hc e => ⟨o, hk b o hc e⟩) (fun b xs e => by rw [upd_ne (ne_of_none e hfr)]; exact e)
  (fun b o v e => by rw [upd_ne (ne_of_none e hfr)]; exact e) (fun b ps e => ⟨#[], by rw [upd_ne (ne_of_none e hfr), e]; simp⟩) (fun m hm => ?_) (fun b o e => ?_) I.bare
 ·obtain ⟨o, es, ep, ho, r⟩ := hm
  exact ⟨o, es, ep, hk _ o (fun z => (hf _ z).2.1 rfl) ho, r⟩
 ·by_cases hb : b = s.heap.objs.size
  ·subst hb
   rw [upd_same] at e;cases e;refine ⟨by show 2 <= sizeLine; decide, [x, y], .cons ru (.cons rw' .nil), ⟨_, hT, rfl, _, rfl⟩⟩
  ·rw [upd_ne hb] at e
   refine (I.hok b o e).stay (fun c v hc q => hk c v ?_ q) (fun c q => by rw [upd_ne (ne_of_none q hfr)]; exact q) fun c xs q => by rw [upd_ne (ne_of_none q hfr)]; exact q
   rcases hc with rfl | hc
   ·exact nch _ _ e
   ·exact nch _ _ hc
theorem Inv.turnN {X : Cx} {pins : List (Addr × Obj)} {O : St} {H : Hp} {s : Shared} {h' : Heap} {ch : List Addr} (I : Inv X pins O H s) (hf : ∀ b ∈ ch, FpOk X pins H b)
  (hk : ∀ c o, c ∉ ch -> s.heap.get? c = some o -> h'.get? c = some o) : Inv X pins O H { s with heap := h' } := by
 have nch : ∀ b o, H b = some o -> b ∉ ch := fun b o e hb => by rw [(hf b hb).1] at e; cases e
 refine I.step (g' := s.gens) (d' := s.drawn) (t' := s.toks) (ch := ch) (fun b hb => ⟨(hf b hb).2.2.2.1, (hf b hb).2.1, (hf b hb).2.2.2.2.1, (hf b hb).2.2.2.2.2⟩) (fun b o _ _ hc e _ => hk b o hc e)
  (fun b o _ _ hc e _ => ⟨o.slots, hk b o hc e⟩) (fun b o _ e n => n) (fun b o hc e => ⟨o, hk b o hc e⟩) (fun b xs e => e)
  (fun b o v e => e) (fun b ps e => ⟨#[], by rw [e]; simp⟩) (fun m hm => ?_) (fun b o e => ?_) I.bare
 ·obtain ⟨o, es, ep, ho, r⟩ := hm
  exact ⟨o, es, ep, hk _ o (fun z => (hf _ z).2.1 rfl) ho, r⟩
 ·refine (I.hok b o e).stay (fun c v hc q => hk c v ?_ q) (fun c q => q) fun c xs q => q
  rcases hc with rfl | hc
  ·exact nch _ _ e
  ·exact nch _ _ hc
theorem list_tracked {X : Cx} {pins : List (Addr × Obj)} {O : St} {H : Hp} {s : Shared} {a b : Addr} {xs : List V} (I : Inv X pins O H s) (h : SqL X.K H a xs) (hb : FpOk X pins H b) (hob : ∃ o, s.heap.get? b = some o /\ o.cls ≠ .type "list") : a ≠ b := by
 rintro rfl;obtain ⟨its, r, ⟨o, n, e, c, _⟩, _⟩ := I.list h;obtain ⟨o', e', c'⟩ := hob;rw [e] at e'; cases e';exact c' c
theorem turn_zip {P : Program} {w : World} {K : PySem.W.Frag} {elts : List Expr} {x1 : Nat} {tpos : Pos} (a b z TI TO i1 i2 : Addr) (D1 : TI ≠ z) (D2 : TO ≠ z) (D3 : i1 ≠ z) (D4 : i2 ≠ z) (D5 : TI ≠ TO) (D6 : TI ≠ i1) (D7 : TI ≠ i2) (D8 : TO ≠ i1) (D9 : TO ≠ i2) (D10 : i1 ≠ i2) :
  Turn P w K (.Tuple elts x1 tpos) (Itz K a b) [z, TI, TO, i1, i2] z (fun i h => IsZip h z TI TO .none /\ IsPair h TI (.ref i1) (.ref i2) /\ (∃ u v, IsPair h TO u v) /\ h.IsListIter i1 a i /\ h.IsListIter i2 b i) where
 mem := by simp
 obj := fun i h hq0 c hc => by
  obtain ⟨hz, hTI, ⟨u, v, hTO⟩, ⟨o1, e1, c1, d1⟩, ⟨o2, e2, c2, d2⟩⟩ := hq0;simp only [List.mem_cons, List.not_mem_nil, or_false] at hc;rcases hc with rfl | rfl | rfl | rfl | rfl
  ·exact ⟨_, hz, fun v z => nomatch z⟩
  ·exact ⟨_, hTI, fun v z => nomatch z⟩
  ·exact ⟨_, hTO, fun v z => nomatch z⟩
  ·exact ⟨_, e1, fun v z => by rw [d1] at z; cases z⟩
  ·exact ⟨_, e2, fun v z => by rw [d2] at z; cases z⟩
 keep := fun i h h' ⟨hz, hTI, ⟨u, v, hTO⟩, h1, h2⟩ k => ⟨k z (by simp) _ hz, k TI (by simp) _ hTI, ⟨u, v, k TO (by simp) _ hTO⟩, h1.at fun o e => k i1 (by simp) o e, h2.at fun o e => k i2 (by simp) o e⟩
 item := by
  rintro X hP hw hK hc i pins s O H E I hf ⟨hz, hTI, ⟨ua, ub, hTO⟩, h1, h2⟩ ⟨xs, ys, x, y, hq1, hq2, hx, hy⟩;subst hP hw hK;obtain ⟨its1, rv1, p1, _⟩ := I.list hq1;obtain ⟨its2, rv2, p2, _⟩ := I.list hq2;obtain ⟨u1, hu1, ru1⟩ := rv1.get hx;obtain ⟨u2, hu2, ru2⟩ := rv2.get hy;have ob : ∀ c ∈ [z, TO, i1, i2], ∃ o, s.heap.get? c = some o /\ o.cls ≠ .type "list" := fun c hc => by
   obtain ⟨o1, e1, c1, d1⟩ := id h1;obtain ⟨o2, e2, c2, d2⟩ := id h2;simp only [List.mem_cons, List.not_mem_nil, or_false] at hc;rcases hc with rfl | rfl | rfl | rfl
   ·exact ⟨_, hz, by simp⟩
   ·exact ⟨_, hTO, by simp⟩
   ·exact ⟨_, e1, by rw [c1]; simp⟩
   ·exact ⟨_, e2, by rw [c2]; simp⟩
  have na : ∀ c ∈ [z, TO, i1, i2], a ≠ c := fun c hc => list_tracked I hq1 (hf c (by simp at hc ⊢; rcases hc with h | h | h | h <;> simp [h])) (ob c hc)
  have nb : ∀ c ∈ [z, TO, i1, i2], b ≠ c := fun c hc => list_tracked I hq2 (hf c (by simp at hc ⊢; rcases hc with h | h | h | h <;> simp [h])) (ob c hc)
  have D : ZipApart z TI TO i1 i2 a b := ⟨D1, D2, D3, D4, D5, D6, D7, D8, D9, D10, na z (by simp), na TO (by simp), na i1 (by simp), na i2 (by simp), nb z (by simp), nb TO (by simp), nb i1 (by simp), nb i2 (by simp)⟩;refine wpAny_pyNext_zip_item D hz hTI hTO h1 h2 p1.isList p2.isList (x := u1) (y := u2) (by simpa using hu1) (by simpa using hu2) fun h' a1 a2 a3 a4 a5 a6 hk => ?_
  have hf4 : ∀ c ∈ [z, TO, i1, i2], FpOk X pins H c := fun c hc => hf c (by simp at hc ⊢; rcases hc with h | h | h | h <;> simp [h])
  have hk' : ∀ c o, c ∉ [z, TO, i1, i2] -> s.heap.get? c = some o -> h'.get? c = some o := fun c o hc e => hk c o (fun q => hc (by simp [q])) (fun q => hc (by simp [q])) (fun q => hc (by simp [q])) (fun q => hc (by simp [q])) e
  have I1 : Inv X pins O (upd H s.heap.objs.size (.tup [x, y])) { s with heap := h' } := I.turnT hf4 ru1 ru2 hk' a5 (fun c hc => by
   obtain ⟨o1, e1, _⟩ := id a3;obtain ⟨o2, e2, _⟩ := id a4;simp only [List.mem_cons, List.not_mem_nil, or_false] at hc;rcases hc with rfl | rfl | rfl | rfl
   ·exact ⟨_, a1⟩
   ·exact ⟨_, a2⟩
   ·exact ⟨_, e1⟩
   ·exact ⟨_, e2⟩)
  have hfr : H s.heap.objs.size = none := I.fresh;refine ⟨_, rfl, wpAny_letOwnedTupleGo_zip (s := { s with heap := h' }) a1 fun h'' z1 sb => ?_⟩;have hf5 : ∀ c ∈ [z, TI, TO, i1, i2], (upd H s.heap.objs.size (.tup [x, y])) c = none := fun c hc => by
   have lt : c < s.heap.objs.size := by
    obtain ⟨o1, e1, _⟩ := id h1;obtain ⟨o2, e2, _⟩ := id h2;simp only [List.mem_cons, List.not_mem_nil, or_false] at hc;rcases hc with rfl | rfl | rfl | rfl | rfl
    ·exact Heap.lt_size hz
    ·exact Heap.lt_size hTI
    ·exact Heap.lt_size hTO
    ·exact Heap.lt_size e1
    ·exact Heap.lt_size e2
   rw [upd_ne (Nat.ne_of_lt lt)]; exact (hf c hc).1
  have I2 : Inv X pins O (upd H s.heap.objs.size (.tup [x, y])) { s with heap := h'' } := Inv.turnN (s := { s with heap := h' }) (ch := [z]) I1 (fun c hc => by
   have : c = z := by simpa using hc
   subst this;exact ⟨hf5 c (by simp), (hf c (by simp)).2⟩) (fun c o hc e => (sb.2 c (fun q => hc (by simp [q]))).trans e)
  refine ⟨.ref s.heap.objs.size, _, I2, rfl, ⟨_, x, y, fun zs hzs => by rw [I.list_inj hzs hq1]; exact hx, fun zs hzs => by rw [I.list_inj hzs hq2]; exact hy, hfr, rfl, rfl⟩, ⟨z1, ?_, ⟨u1, u2, ?_⟩, ?_, ?_⟩, hf5⟩
  ·exact (sb.2 TI D1).trans (hk' TI _ (by simp [D1, D5, D6, D7]) hTI)
  ·exact (sb.2 TO D2).trans a2
  ·exact a3.at fun o e => (sb.2 i1 D3).trans e
  ·exact a4.at fun o e => (sb.2 i2 D4).trans e
 done := by
  rintro X hP hw hK hc i pins s O H E I hf ⟨hz, hTI, ⟨ua, ub, hTO⟩, h1, h2⟩ ⟨xs, ys, hq1, hq2, hend⟩;subst hP hw hK;obtain ⟨its1, rv1, p1, _⟩ := I.list hq1;obtain ⟨its2, rv2, p2, _⟩ := I.list hq2;have ob : ∀ c ∈ [z, TO, i1, i2], ∃ o, s.heap.get? c = some o /\ o.cls ≠ .type "list" := fun c hc => by
   obtain ⟨o1, e1, c1, d1⟩ := id h1;obtain ⟨o2, e2, c2, d2⟩ := id h2;simp only [List.mem_cons, List.not_mem_nil, or_false] at hc;rcases hc with rfl | rfl | rfl | rfl
   ·exact ⟨_, hz, by simp⟩
   ·exact ⟨_, hTO, by simp⟩
   ·exact ⟨_, e1, by rw [c1]; simp⟩
   ·exact ⟨_, e2, by rw [c2]; simp⟩
  have hf4 : ∀ c ∈ [z, TO, i1, i2], FpOk X pins H c := fun c hc => hf c (by simp at hc ⊢; rcases hc with h | h | h | h <;> simp [h])
  have na : ∀ c ∈ [z, TO, i1, i2], a ≠ c := fun c hc => list_tracked I hq1 (hf4 c hc) (ob c hc)
  have nb : ∀ c ∈ [z, TO, i1, i2], b ≠ c := fun c hc => list_tracked I hq2 (hf4 c hc) (ob c hc)
  have D : ZipApart z TI TO i1 i2 a b := ⟨D1, D2, D3, D4, D5, D6, D7, D8, D9, D10, na z (by simp), na TO (by simp), na i1 (by simp), na i2 (by simp), nb z (by simp), nb TO (by simp), nb i1 (by simp), nb i2 (by simp)⟩;have hl1 := rv1.length;have hl2 := rv2.length;refine wpAny_pyNext_zip_end (I.ok.hd hc) D hz hTI hTO h1 h2 p1.isList p2.isList (by rcases hend with h | h; (left; simp; omega); (right; simp; omega)) fun h' hk => ⟨rfl, ?_⟩
  exact I.turnN hf4 fun c o hc e => hk c o (fun q => hc (by simp [q])) (fun q => hc (by simp [q])) (fun q => hc (by simp [q])) (fun q => hc (by simp [q])) e
 self := fun _ _ _ _ _ ⟨hz, _⟩ h => wpAny_pyIter_zip hz h
noncomputable def iZip (K : PySem.W.Frag) (ta : TA) : TI := fun O H R => ta O H fun vs H1 => ∃ a b, vs = [.ref a, .ref b] /\ (∃ xs, SqL K H1 a xs) /\ (∃ ys, SqL K H1 b ys) /\ R (Itz K a b) H1
theorem pi_zip {X : Cx} {elts : List Expr} {x1 : Nat} {tpos : Pos} {a b : Expr} {ta : TA} {p pos : Pos} (hg : Gl X "zip") (hm : X.mg "zip" = none) (ha : PA X [a, b] ta) (hs : autoParam (starEach [a, b] X.env = [(false, eval a X.env), (false, eval b X.env)]) Ax4._auto_1) (hs2 : autoParam (starEach [b] X.env = [(false, eval b X.env)]) Ax4._auto_1) :
  PI X (.Tuple elts x1 tpos) (.Call (.Name "zip" p) [a, b] [] pos) (iZip X.K ta) := by
 intro pins s O H R I h;refine Call_ (ld_blt I hg hm boot_zip (PyProof.Rows.callWith_type1 (thn (ha pos pins s O H _ I h) fun us s1 ⟨vs, H1, I1, r1, q1⟩ => ?_) (by rw [hs, hs2]) (by rw [hs2]; rfl)));obtain ⟨l1, l2, e, ⟨xs, hq1⟩, ⟨ys, hq2⟩, q⟩ := q1;subst e;cases r1 with
 | cons r rr =>
  cases rr with
  | cons r' rr =>
   cases rr;cases r;cases r';obtain ⟨its1, rv1, p1, _⟩ := I1.list hq1;obtain ⟨its2, rv2, p2, _⟩ := I1.list hq2;refine call_zip_2 p1.isList p2.isList fun h' hz hTI hTO h1 h2 hsz hk => ?_
   have I2 : Inv X pins O H1 { s1 with heap := h' } := I1.kept (t' := s1.toks) hk;refine wpAny_pyIter_zip (s := { s1 with heap := h' }) hz ?_;have lt : ∀ k : Nat, s1.heap.objs.size <= s1.heap.objs.size + k := fun k => Nat.le_add_right _ _
   refine ⟨_, [s1.heap.objs.size + 4, s1.heap.objs.size + 2, s1.heap.objs.size + 3, s1.heap.objs.size, s1.heap.objs.size + 1], _, _, H1, rfl, I2,
    turn_zip l1 l2 (s1.heap.objs.size + 4) (s1.heap.objs.size + 2) (s1.heap.objs.size + 3) s1.heap.objs.size (s1.heap.objs.size + 1) ?_ ?_ ?_ ?_ ?_ ?_ ?_ ?_ ?_ ?_, ⟨hz, hTI, ⟨_, _, hTO⟩, h1, h2⟩, fun c hc => ?_, q⟩
   all_goals first
    | (show _ + _ ≠ _ + _; intro z; exact absurd (Nat.add_left_cancel z) dC)
    | (show _ ≠ _ + _; intro z; exact absurd z (by have := Nat.lt_add_of_pos_right (n := s1.heap.objs.size) (k := 4) dC; have := Nat.lt_add_of_pos_right (n := s1.heap.objs.size) (k := 1) dC; exact Nat.ne_of_lt (by assumption)))
    | (show _ + _ ≠ _; exact Nat.ne_of_gt (Nat.lt_add_of_pos_right dC))
    | skip
   have hle : s1.heap.objs.size <= c := by
    simp only [List.mem_cons, List.not_mem_nil, or_false] at hc;rcases hc with rfl | rfl | rfl | rfl | rfl
    ·exact lt 4
    ·exact lt 2
    ·exact lt 3
    ·exact Nat.le_refl _
    ·exact lt 1
   obtain ⟨f0, f1, f2, f3, f4, f5⟩ := I1.fpOk hle (I1.hok.fresh hle);exact ⟨f0, f1, f2, f3, f4, f5⟩
end L2
namespace DD
open PySem PySem.Spec PyProof.Rows L2
noncomputable def iZipD (c c' : DE) : DI := fun O => (c O).bind fun p => (c' p.2).bind fun q => match p.1, q.1 with
 | .lst _ xs, .lst _ ys => some (((D.fzL xs).zip (D.fzL ys)).map fun z => .tup [z.1, z.2], q.2)
 | _, _ => none
theorem itd_zip {K : PySem.W.Frag} {F : Addr -> Prop} {H : Hp} {xs ys : List D} {a b : Addr} {vs ws : List V} (fl : FL K F H a vs) (ol : OwL K F H xs vs []) (fl' : FL K F H b ws) (ol' : OwL K F H ys ws []) :
  ItD K (Itz K a b) ((xs.zip ys).map fun z => .tup [z.1, z.2]) F H where
 item := fun i d F1 H1 x1 dm e => by
  rw [List.getElem?_map] at e;rcases hz : (xs.zip ys)[i]? with _ | ⟨x, y⟩
  ·rw [hz] at e; cases e
  ·rw [hz] at e; cases e
   obtain ⟨hx, hy⟩ := List.getElem?_zip_eq_some.mp hz;obtain ⟨u, La, Lx, Lb, e1, eL, o1, _⟩ := ol.kid hx;have eLx : Lx = [] := (List.append_eq_nil_iff.mp (List.append_eq_nil_iff.mp eL.symm).1).2;subst eLx;obtain ⟨w, La', Lx', Lb', e2, eL', o2, _⟩ := ol'.kid hy;have eLx' : Lx' = [] := (List.append_eq_nil_iff.mp (List.append_eq_nil_iff.mp eL'.symm).1).2;subst eLx';refine ⟨⟨vs, ws, u, w, (fl.ext x1).sq, (fl'.ext x1).sq, e1, e2⟩, fun v H2 ⟨p, u', w', h1, h2, hp, hH, hv⟩ => ?_⟩;subst hH hv;have h1' := h1 vs (fl.ext x1).sq;rw [e1] at h1'; cases h1';have h2' := h2 ws (fl'.ext x1).sq;rw [e2] at h2'; cases h2';have nF : ∀ c, F1 c -> c ≠ p := fun c fc z => by obtain ⟨o, h⟩ := dm c fc; rw [z, hp] at h; cases h
   have gr : Grow F1 H1 (fun c => F1 c \/ c = p) (upd H1 p (.tup [u, w])) := by
    refine ⟨fun c fc => ⟨.inl fc, upd_ne (nF c fc)⟩, fun c o e => by rw [upd_ne (ne_of_none e hp)]; exact e, fun c fc => ?_, fun _ c fc => ?_⟩
    ·rcases fc with fc | fc
     ·exact .inl fc
     ·exact .inr (fc ▸ hp)
    ·rcases fc with fc | fc
     ·rw [upd_ne (nF c fc)]; exact dm c fc
     ·subst fc; exact ⟨_, upd_same⟩
   refine ⟨_, gr, ?_⟩;simp only [Ow, OwL];refine ⟨p, [u, w], rfl, .inl ⟨.inr rfl, upd_same⟩, u, [w], [], [], rfl, (o1.mono x1 (fun a ha => by cases ha)).mono gr.x (fun a ha => by cases ha), ⟨w, [], [], [], rfl, (o2.mono x1 (fun a ha => by cases ha)).mono gr.x (fun a ha => by cases ha), ⟨rfl, rfl⟩, rfl⟩, rfl⟩
 done := fun F1 H1 x1 => ⟨vs, ws, (fl.ext x1).sq, (fl'.ext x1).sq, by
  have h1 := ol.length;have h2 := ol'.length;simp only [List.length_map, List.length_zip];omega⟩
section
variable {X : Cx} {a b o e : Expr} {c c' : DE} {p p1 pos1 : Pos} {elts : List Expr} {x1 : Nat} {tpos pos : Pos}
theorem qi_zip (hgl : Gl X "zip") (hm : X.mg "zip" = none) (ha : QE X a c) (hb : QE X b c') (hs : autoParam (starEach [a, b] X.env = [(false, eval a X.env), (false, eval b X.env)]) Ax4._auto_1) (hs2 : autoParam (starEach [b] X.env = [(false, eval b X.env)]) Ax4._auto_1) :
  QI X (.Tuple elts x1 tpos) (.Call (.Name "zip" p1) [a, b] [] pos1) (iZipD c c') := PI_imp (pi_zip hgl hm (pa_cons ha (pa_cons hb pa_nil hs2) (by rw [hs, hs2])) hs hs2) fun O H R hq0 => by
 obtain ⟨F, Ro, OD, xs, OD', r, ec, k⟩ := hq0;unfold iZipD at ec;rcases h1 : c OD with _ | ⟨x, O1⟩
 ·rw [h1] at ec; cases ec
 ·rw [h1] at ec; simp only [bind_some] at ec
  rcases h2 : c' O1 with _ | ⟨y, O2⟩
  ·rw [h2] at ec; cases ec
  ·rw [h2] at ec; simp only [bind_some] at ec
   split at ec
   ·cases ec
    refine ⟨F, Ro, OD, _, O1, r, h1, fun F1 H1 v x1 r1 => ?_⟩;refine ⟨F1, _, O1, _, _, r1, h2, fun F2 H2 u x2 r2 => ?_⟩;obtain ⟨F3, x3, r3, o3⟩ := r2.freeze;obtain ⟨F4, x4, r4, o4⟩ := (r3.pop).freeze;have o3' := o3.mono x4 (fun a ha => by cases ha);simp only [D.fz, Ow] at o3' o4;obtain ⟨a1, vs, rfl, fl, ol, _⟩ := o4;obtain ⟨a2, ws, rfl, fl', ol', _⟩ := o3';exact ⟨a1, a2, rfl, ⟨vs, fl.sq⟩, ⟨ws, fl'.sq⟩, k F4 H2 _ ((x1.trans x2).trans (x3.trans x4)) r4.pop (itd_zip fl ol fl' ol')⟩
   ·cases ec
theorem zip_get {xs : List D} {vs : List V} {j : Nat} {x : D} {w : V} (h1 : xs[j]? = some x) (h2 : vs[j]? = some w) : (x, w) ∈ xs.zip vs := by
 have : (xs.zip vs)[j]? = some (x, w) := List.getElem?_zip_eq_some.mpr ⟨h1, h2⟩;exact List.mem_of_getElem? this
theorem Rel.pick {K : PySem.W.Frag} {F : Addr -> Prop} {H : Hp} {OD : DSt} {O : St} {R S : Ro} {x : D} {w : V} (r : Rel K F H OD O (S ++ R)) (h : (x, w) ∈ S) : Rel K F H OD O ((x, w) :: R) := by
 obtain ⟨A, B, rfl⟩ := List.append_of_mem h;have r1 : Rel K F H OD O ((A ++ B) ++ ((x, w) :: R)) := r.perm (by
  have h1 : A ++ (x, w) :: B ++ R = A ++ ((x, w) :: (B ++ R)) := by simp
  rw [h1, List.append_assoc];exact (List.perm_middle.symm).append_left A)
 exact r1.popN
theorem qe_ix (ha : QE X a c) (hb : QE X b c') (hs : autoParam (PlainIx b) Ax8._auto_1) : QE X (.Subscript a b pos) (dIx c c') := PE_imp (pe_ix ix_seq ha hb hs) fun O H Q hq0 => by
 obtain ⟨F, R, OD, d, OD', r, ec, k⟩ := hq0;unfold dIx at ec;rcases h1 : c OD with _ | ⟨x, O1⟩
 ·rw [h1] at ec; cases ec
 ·rw [h1] at ec; simp only [bind_some] at ec
  rcases h2 : c' O1 with _ | ⟨y, O2⟩
  ·rw [h2] at ec; cases ec
  ·rw [h2] at ec; simp only [bind_some] at ec
   obtain ⟨z, e1, e2⟩ := map_pair ec;cases e2;refine ⟨F, R, OD, x, O1, r, h1, fun F1 H1 v x1 r1 => ?_⟩;refine ⟨F1, _, O1, y, _, r1, h2, fun F2 H2 u x2 r2 => ?_⟩;have bu := r2.bor (d := y) (v := u) (by simp);have r3 := r2.pop;unfold ixD at e1;split at e1
   ·rename_i own xs i
    obtain ⟨j, hj, hx⟩ := atI_ix e1;cases own
    ·obtain ⟨L, ⟨L1, L2, o1, h12, _⟩, _, _⟩ := r3.front.own
     simp only [Ow] at o1;obtain ⟨a1, vs, rfl, fl, ol, _⟩ := o1;obtain ⟨w, La, Lx, Lb, ew, eL, ox, _⟩ := ol.kid hx;have eLx : Lx = [] := (List.append_eq_nil_iff.mp (List.append_eq_nil_iff.mp eL.symm).1).2;subst eLx;refine .inl ⟨a1, vs, i, w, rfl, bu.int, fl.sq, ?_, k F2 H2 w (x1.trans x2) (r3.pop.push ox)⟩;unfold atI; rw [ol.length, hj]; exact ew
    ·obtain ⟨a1, vs, rfl, hh, hl, r4⟩ := r3.openL
     have hjl : j < vs.length := by rw [<- hl]; exact (List.getElem?_eq_some_iff.mp hx).1
     have ew := List.getElem?_eq_getElem hjl;refine .inl ⟨a1, vs, i, vs[j], rfl, bu.int, .inl (.inl hh), ?_, k F2 H2 _ (x1.trans x2) (r4.pop.pick (zip_get hx ew))⟩;unfold atI; rw [<- hl, hj]; exact ew
   ·rename_i xs i
    obtain ⟨j, hj, hx⟩ := atI_ix e1;obtain ⟨a1, vs, rfl, ft, hl, r4⟩ := r3.openT;have hjl : j < vs.length := by rw [<- hl]; exact (List.getElem?_eq_some_iff.mp hx).1
    have ew := List.getElem?_eq_getElem hjl;refine .inr (.inl ⟨a1, vs, i, vs[j], rfl, bu.int, ft.sq, ?_, k F2 H2 _ (x1.trans x2) (r4.pick (zip_get hx ew))⟩);unfold atI; rw [<- hl, hj]; exact ew
   ·split at e1
    ·rename_i z2 i hz
     rcases h : atI z2.cps.toList i with _ | ch
     ·rw [h] at e1; cases e1
     ·rw [h] at e1; cases e1
      exact .inr (.inr ⟨z2, i, ch, (r3.bor (by simp)).str, bu.int, hz, h, k F2 H2 _ (x1.trans x2) (r3.pop.scal rfl)⟩)
    ·cases e1
   ·cases e1
end
end DD
namespace L2
open PySem PySem.Spec PyProof.Rows
theorem get_list {X : Cx} : PGet X (fun o i H Q => ∃ p xs k v, o = .ref p /\ i = .int k /\ SqL X.K H p xs /\ atI xs k = some v /\ Q v H) := by
 rintro pins s O H o i ov iv Q I ro ri ⟨p, xs, k, v, e1, e2, hq, he, q⟩;subst e1 e2;cases ro;obtain ⟨t, rfl⟩ := ri;obtain ⟨its, r, pl, hz⟩ := I.list hq;obtain ⟨j, h1, h2, h3, h4, h5⟩ := atI_get he;obtain ⟨w, ew, rw'⟩ := r.get h2;have hl := r.length;have hn := line63;have fin : EP X pins O Q w s := ⟨v, H, I, rw', q⟩;by_cases h0 : 0 <= k
 ·have hj : k.toNat = j := by
   rw [seqIndex_of h0 h5] at h1;exact Option.some.inj h1
  exact wpAny_getItem_list pl.isList h0 oM (by rw [hj]; simpa using ew) fin
 ·have hj : (k + (its.toArray.size : Int)).toNat = j := by
   rw [seqIndex_neg oM h4] at h1;rw [List.size_toArray, <- hl];exact Option.some.inj h1
  exact wpAny_getItem_list_neg pl.isList oM (by rw [List.size_toArray] <;> omega) oM (by rw [hj]; simpa using ew) fin
end L2
namespace DD
open PySem PySem.Spec PyProof.Rows L2
section
variable {X : Cx} {o a e tg : Expr} {q p : DP} {c : DE} {g : D -> D -> Option D} {i : Nat} {js : List DP} {pos tpos : Pos} {op : Operator}
theorem oi_add : OpS X (inplaceOp .Add) (gI0 fun i j => i + j) := opS_I0 iop_add
noncomputable def sAugIx (g : D -> D -> Option D) (i : Nat) (js : List DP) (q p : DP) : DS := fun O => (dget O i).bind fun t => (evI js O).bind fun path => (getP t path).bind fun n => match n with
 | .lst true xs => (q O).bind fun kk => match kk with
  | .int k => (ixN xs.length k).bind fun j => (xs[j]?).bind fun x => match x.sc with
   | some _ => (p O).bind fun y => (g x y).map fun z => .nx (O.set i (some (setP t path (.lst true (xs.set j z)))))
   | none => none
  | _ => none
 | _ => none
theorem qs_augS (hop : OpS X (inplaceOp op) g) (ho : QP X o i js) (hq : QB X a q) (he : QB X e p)
  (ha : autoParam (∀ ov iv new, augStore a ov iv new = (do holding [new, ov, iv] (setItem ov iv new); release [new, ov, iv] []; pure .next)) Ax5._auto_1) : QS X (.AugAssign (.Subscript o a tpos) op e pos) (sAugIx g i js q p) [] :=
 PS_imp (ps_augS ho hq get_list he hop.run set_list ha) fun En O H hq0 => by
  obtain ⟨F, R, OD, out, r, ec, kk⟩ := hq0;unfold sAugIx at ec;rcases h1 : dget OD i with _ | t
  ·rw [h1] at ec; cases ec
  ·rw [h1] at ec; simp only [bind_some] at ec
   rcases h2 : evI js OD with _ | path
   ·rw [h2] at ec; cases ec
   ·rw [h2] at ec; simp only [bind_some] at ec
    rcases h3 : getP t path with _ | n
    ·rw [h3] at ec; cases ec
    ·rw [h3] at ec; simp only [bind_some] at ec
     split at ec
     ·rename_i xs
      rcases h4 : q OD with _ | ky
      ·rw [h4] at ec; cases ec
      ·rw [h4] at ec; simp only [bind_some] at ec
       split at ec
       ·rename_i k
        rcases h5 : ixN xs.length k with _ | j
        ·rw [h5] at ec; cases ec
        ·rw [h5] at ec; simp only [bind_some] at ec
         rcases h6 : xs[j]? with _ | x
         ·rw [h6] at ec; cases ec
         ·rw [h6] at ec; simp only [bind_some] at ec
          rcases h7 : x.sc with _ | xw
          ·rw [h7] at ec; cases ec
          ·rw [h7] at ec; simp only at ec
           rcases h8 : p OD with _ | y
           ·rw [h8] at ec; cases ec
           ·rw [h8] at ec; simp only [bind_some] at ec
            rcases h9 : g x y with _ | z
            ·rw [h9] at ec; cases ec
            ·rw [h9] at ec; cases ec
             obtain ⟨zw, hzw⟩ := hop.sc _ _ _ h9;obtain ⟨v0, hv0, r0⟩ := r.take (dget_some h1);obtain ⟨l0, vs0, lc0, hl0, hlen0, _⟩ := Rel.listAt (S := []) r0 h3;refine ⟨F, R, OD, v0, path, .ref l0, r, hv0, h2, lc0, fun F1 H1 g1 => ?_⟩;refine ⟨F1, R, OD, _, r.grow g1, h4, fun F2 H2 u g2 b2 => ?_⟩;have g3 := g1.trans g2
             -- what stands there
             have look : ∀ F' H', Grow F H F' H' -> ∃ vs, H' l0 = some (.lst vs) /\ xs.length = vs.length /\ vs[j]? = some xw /\ ∀ (d : D) (w : V), d.sc = some w -> Rel X.K F' (upd H' l0 (.lst (vs.set j w))) (OD.set i (some (setP t path (.lst true (xs.set j d))))) O R /\ Ext F' H' F' (upd H' l0 (.lst (vs.set j w))) := fun F' H' gr => by
              obtain ⟨v1, hv1, r1⟩ := (r.grow gr).take (dget_some h1);rw [hv0] at hv1; cases hv1;obtain ⟨l, vs, lc, hl, hlen, _⟩ := Rel.listAt (S := []) r1 h3;have el : l0 = l := by
               have := (lc0.grow gr.k).uniq lc
               injection this
              subst el;refine ⟨vs, hl, hlen, ?_, fun d w hw => ?_⟩
              ·have hjl : j < vs.length := by rw [<- hlen]; exact (List.getElem?_eq_some_iff.mp h6).1
               obtain ⟨L, ⟨L1, L2, o1, _⟩, _⟩ := r1.front.own;obtain ⟨l', La, Lx, Lb, lc', _, ⟨vs', hl', ol'⟩, _⟩ := o1.focus h3;have el : l0 = l' := by
                have := lc.uniq lc'
                injection this
               subst el;rw [hl] at hl'; cases hl';obtain ⟨w2, e2, b2⟩ := ol'.get h6;rw [e2, b2.sc h7]
              ·have r2 : Rel X.K F' H' (OD.set i none) O ((t, v0) :: ([(d, w)] ++ R)) := (r1.scal (d := d) hw).perm (.swap _ _ _)
               obtain ⟨l2, vs2, lc2, hl2, hlen2, upd2⟩ := r2.listAt h3;have el : l0 = l2 := by
                have := lc.uniq lc2
                injection this
               subst el;rw [hl] at hl2; cases hl2;have hj : j < xs.length := (ixN_seq h5).2.1;obtain ⟨xo, wo, pm⟩ := zip_set (d := d) (v := w) hlen hj;obtain ⟨r3, x3⟩ := upd2 (xs.set j d) (vs.set j w) [(xo, wo)] pm (by simp [hlen]);have r4 := (Rel.put (R := (xo, wo) :: R) r3 hv0);rw [List.set_set] at r4;exact ⟨r4.pop, x3⟩
             obtain ⟨vs, hl, hlen, hx, _⟩ := look F2 H2 g3;refine ⟨l0, vs, k, xw, rfl, b2.int, .inl (.inl hl), by unfold atI; rw [<- hlen, h5]; exact hx, ?_⟩;refine ⟨F2, R, OD, y, r.grow g3, h8, fun F3 H3 uy g4 b4 => ?_⟩;refine ⟨F3, x, y, z, zw, ⟨[], Ow.of_sc h7⟩, b4, h9, hzw, ?_⟩;obtain ⟨vs3, hl3, hlen3, _, up3⟩ := look F3 H3 (g3.trans g4);obtain ⟨r5, x5⟩ := up3 z zw hzw;refine ⟨l0, vs3, k, j, rfl, b2.int, hl3, by rw [<- hlen3]; exact h5, ?_⟩;exact kk F3 _ O ((g3.trans g4).x.trans x5) Kp.refl r5
       ·cases ec
     ·cases ec
end
section
variable {X : Cx} {tg : Expr} {g : DG} {s : DS} {pos : Pos} {W W' : List Nat} {body : List Stmt}
end
noncomputable abbrev gAdd : D -> D -> Option D := gI0 fun i j => i + j
noncomputable abbrev gSub : D -> D -> Option D := gI0 fun i j => i - j
noncomputable abbrev gAnd : D -> D -> Option D := gI0 Builtin.bitAnd
noncomputable abbrev gOr : D -> D -> Option D := gI0 Builtin.bitOr
noncomputable abbrev gXor : D -> D -> Option D := gI0 Builtin.bitXor
noncomputable abbrev gMod : D -> D -> Option D := gI (fun _ j => decide (0 < j)) fun i j => i % j
noncomputable def fdvC (_ j : Int) : Bool := decide (0 < j /\ j.natAbs.log2 < 9000)
noncomputable abbrev gFdv : D -> D -> Option D := gI fdvC fun i j => i / j
theorem o_fdv {X : Cx} : OpS X (binaryOp .FloorDiv) gFdv := opS_I (C := fun _ j => 0 < j /\ j.natAbs.log2 < 9000) (opI fun i j _ _ _ _ _ hc q => by
 have h1 : (0 : Int) < j := hc.1;exact floordiv_int oM (by rw [Int.fdiv_eq_ediv_of_nonneg i oM]; exact q) (.inl (PyProof.noPylong_of_log2 hc.2))) fun i j h => by simpa [fdvC] using h
noncomputable abbrev gPow : D -> D -> Option D := gI (fun i j => decide (0 <= j /\ j <= 1000000 /\ i.natAbs < 2 ^ 64)) fun i j => i ^ j.toNat
noncomputable abbrev gShl : D -> D -> Option D := gI (fun i j => decide (0 <= j /\ j <= 1000000 /\ i.natAbs < 2 ^ 64)) fun i j => i * 2 ^ j.toNat
noncomputable abbrev gShr : D -> D -> Option D := gI (fun _ j => decide (0 <= j)) fun i j => i / 2 ^ j.toNat
noncomputable def mulC (i j : Int) : Bool := decide ((-(2 ^ 64) < i /\ i < 2 ^ 64) \/ (-(2 ^ 64) < j /\ j < 2 ^ 64))
noncomputable abbrev gMul : D -> D -> Option D := gI mulC fun i j => i * j
theorem o_mul {X : Cx} : OpS X (binaryOp .Mult) gMul := opS_I op_mul fun i j h => by simpa [mulC, CMul] using h
noncomputable abbrev gLt : D -> D -> Option D := gB0 fun i j => decide (i < j)
noncomputable abbrev gGe : D -> D -> Option D := gB0 fun i j => decide (j <= i)
noncomputable def cyChk (N N' : List Str) (names : List (Str × NameKind)) (kd : Str -> Option NameKind) : Bool :=
 decide ((names.map (·.1)).Nodup) && decide (N.length <= N'.length) && names.all (fun p => p.2 != .free || kd p.1 == some .cell || kd p.1 == some .free) &&
  (List.range N.length).all fun i => match N'[i]? with
   | none => true
   | some x => match names.lookup x with
    | none => true
    | some k => k == .free && N[i]? == some x
theorem cy_of {X : Cx} {N' : List Str} {scope : Scope} (hk : scope.kind = .function) (h : cyChk X.N N' scope.names X.env.kindOf = true) : CyOk X N' scope := by
 unfold cyChk at h;simp only [Bool.and_eq_true, decide_eq_true_eq] at h;obtain ⟨⟨⟨h1, h2⟩, h3⟩, h4⟩ := h;have look : ∀ i x, i < X.N.length -> N'[i]? = some x -> (∃ k, (x, k) ∈ scope.names) -> (x, NameKind.free) ∈ scope.names /\ X.N[i]? = some x := fun i x hi e hq0 => by
  obtain ⟨k, hm⟩ := hq0
  have := List.all_eq_true.mp h4 i (List.mem_range.mpr hi)
  rw [e] at this;simp only at this;rw [lookup_mem h1 hm] at this;simp only [Bool.and_eq_true, beq_iff_eq] at this;obtain ⟨e1, e2⟩ := this;subst e1;exact ⟨hm, e2⟩
 refine ⟨hk, h1, h2, fun x hx => ?_, fun i x hi e hx => (look i x hi e ⟨_, hx⟩).2, fun i x hi e hx => (look i x hi e hx).1⟩
 have := List.all_eq_true.mp h3 _ hx
 simp at this;exact this
theorem qb_glob {X : Cx} {x : Str} {i : Int} {pos : Pos} (hg : Gl X x) (hm : ∃ t, X.mg x = some (.int i t)) (hd : autoParam ((x == ("__debug__" : Str)) = false) Ax1._auto_1) : QB X (.Name x pos) (pC (.int i)) := by
 obtain ⟨t, hm⟩ := hm;exact PE_imp (pe_glob (v := .int i) hg hm ⟨t, rfl⟩ hd) fun O H Q hq0 => by obtain ⟨F, R, OD, d, r, ec, k⟩ := hq0; cases ec; exact k F H _ Grow.refl ⟨[], Ow.of_sc rfl⟩
section
variable {X : Cx} {es : List Expr} {ps : List DP} {pos : Pos}
theorem OwL.ofBor {K : PySem.W.Frag} {F : Addr -> Prop} {H : Hp} : ∀ {ds : List D} {vs : List V}, BorL K F H ds vs -> ∃ L, OwL K F H ds vs L
 | [], [], _ => ⟨[], by simp only [OwL]; exact ⟨trivial, trivial⟩⟩
 | d :: ds, v :: vs, ⟨⟨L1, o⟩, r⟩ => by
  obtain ⟨L2, ol⟩ := OwL.ofBor r;exact ⟨L1 ++ L2, by simp only [OwL]; exact ⟨v, vs, L1, L2, rfl, o, ol, rfl⟩⟩
noncomputable def pLst (ps : List DP) : DP := fun O => (evB ps O).bind fun ds => if ds.length <= sizeLine then some (.lst true ds) else none
theorem qb_lst (h : QBA X es ps) : QB X (.List es pos) (pLst ps) := PE_imp (pe_lst h) fun O H Q hq0 => by
 obtain ⟨F, R, OD, d, r, ec, k⟩ := hq0;unfold pLst at ec;rcases h1 : evB ps OD with _ | ds
 ·rw [h1] at ec; cases ec
 ·rw [h1] at ec; simp only [bind_some] at ec
  split at ec
  ·rename_i hz
   cases ec;refine ⟨F, R, OD, ds, r, h1, fun F1 H1 vs g1 b1 => ?_⟩;obtain ⟨L, ol⟩ := OwL.ofBor b1;refine ⟨by rw [ol.length]; exact hz, fun p hp => ?_⟩;have nF : ∀ c, F1 c -> c ≠ p := fun c fc z => by
    obtain ⟨o, h⟩ := g1.dm r.g.dom c fc;rw [z, hp] at h; cases h
   have gr : Grow F1 H1 F1 (upd H1 p (.lst vs)) := ⟨fun c fc => ⟨fc, upd_ne (nF c fc)⟩, fun c o e => by rw [upd_ne (ne_of_none e hp)]; exact e, fun c fc => .inl fc, fun dm c fc => by rw [upd_ne (nF c fc)]; exact dm c fc⟩;refine k F1 _ _ (g1.trans gr) ⟨p :: L, ?_⟩;simp only [Ow];exact ⟨p, vs, L, rfl, upd_same, ol.mono gr.x fun c hc => by
    obtain ⟨o, e⟩ := ol.dom c hc;rw [upd_ne (ne_of_none e hp)], rfl⟩
  ·cases ec
end
theorem dS_some {p : DP} {O O' : DSt} {d : D} (h : dS p O = some (d, O')) : p O = some d /\ O' = O /\ ∃ w, d.sc = some w := by
 unfold dS at h;rcases hp : p O with _ | x
 ·rw [hp] at h; cases h
 ·rw [hp] at h
  simp only [bind_some] at h;rcases hs : x.sc with _ | w
  ·rw [hs] at h; cases h
  ·rw [hs] at h; cases h
   exact ⟨rfl, rfl, w, hs⟩
theorem qt_cmpB {X : Cx} {a b : Expr} {p q : DP} {pos : Pos} {op : CmpOp} {g : D -> D -> Option D} (o : OpS X (compareOp op) g) (ha : QB X a p) (hb : QB X b q) (hm : behindInMarks op b = false) : QT X (.Compare a [op] [b] pos) (dTest (dS (pOp g p q))) :=
 PT_imp (pt_cmpR o.run ha hb hm) fun O H Q hq0 => by
  obtain ⟨F, R, OD, k, OD', r, ec, kk⟩ := hq0;obtain ⟨e1, e2, w, hw⟩ := dS_some (dTest_some ec);subst e2;show tOp _ _ _ O H _;exact rOpB o ⟨F, R, _, _, r, e1, fun F' H' v g' b' => ⟨k, b'.bl, kk F' H' g'.x (r.grow g')⟩⟩
section
variable {X : Cx} {e tg elt iter : Expr} {ifs : List Expr} {g : DG} {t : DT} {c : DE} {i : DI} {pos : Pos} {W : List Nat} {scope : Scope} {k : Nat}
theorem lc_e (N' : List Str) (hi : QI X tg iter i) (hg : ∀ cl s H fp pins, QG (cyOf X N' scope cl s H fp pins) tg g W) (ht : ∀ cl s H fp pins, QIf (cyOf X N' scope cl s H fp pins) ifs t)
  (he : ∀ cl s H fp pins, QE (cyOf X N' scope cl s H fp pins) elt c) (hk : autoParam (N'.length - X.N.length = k) Ax4._auto_1) (hw : autoParam ((W.all fun i => decide (X.N.length <= i)) = true) Ax4._auto_1) (hc : autoParam (X.calm = true) Ax4._auto_1) (hkd : autoParam (scope.kind = .function) Ax4._auto_1) (T : autoParam (cyChk X.N N' scope.names X.env.kindOf = true) Ax4._auto_1) (hs : autoParam (∀ x, foldedSetIterable iter X.env x = pure x) Ax3._auto_1) :
  QE X (.ListComp elt [⟨tg, iter, ifs, 0⟩] scope pos) (dLc k i g t c) := by
 subst hk;exact qe_lc hc (cy_of hkd T) hi hg ht he (fun j hj => by simpa using List.all_eq_true.mp hw j hj) hs
theorem lc_s (ix : Nat) (N' : List Str) {y : Str} {py spos : Pos} (hN : X.N.Nodup) (hi : QI X tg iter i) (hg : ∀ cl s H fp pins, QG (cyOf X N' scope cl s H fp pins) tg g W) (ht : ∀ cl s H fp pins, QIf (cyOf X N' scope cl s H fp pins) ifs t)
  (he : ∀ cl s H fp pins, QE (cyOf X N' scope cl s H fp pins) elt c) (hk : autoParam (N'.length - X.N.length = k) Ax4._auto_1) (hw : autoParam ((W.all fun i => decide (X.N.length <= i)) = true) Ax4._auto_1) (hc : autoParam (X.calm = true) Ax4._auto_1) (hkd : autoParam (scope.kind = .function) Ax4._auto_1) (T : autoParam (cyChk X.N N' scope.names X.env.kindOf = true) Ax4._auto_1)
  (hsw : autoParam (swapsWith (.ListComp elt [⟨tg, iter, ifs, 0⟩] scope pos) (some (.Name y py)) spos.line X.env = pure true) Ax4._auto_1)
  (hiN : autoParam (X.N[ix]? = some y) Ax4._auto_1) (hx : autoParam (Loc X.env.scope y) Ax9._auto_1) (hs : autoParam (∀ x, foldedSetIterable iter X.env x = pure x) Ax3._auto_1) (hf : autoParam (X.fn y = true \/ X.env.scope.names.lookup y = some .local) Ax0._auto_1) :
  QS X (.Assign [.Name y py] (.ListComp elt [⟨tg, iter, ifs, 0⟩] scope pos) spos) (sSet ix (dLc k i g t c)) [ix] := by
 subst hk;exact qs_set_lc ix hN hc (cy_of hkd T) hi hg ht he (fun j hj => by simpa using List.all_eq_true.mp hw j hj) hsw hiN hx hs hf
end
section
variable {K : PySem.W.Frag} {F F' : Addr -> Prop} {H H' : Hp}
end
section
variable {X : Cx} {s : DS} {pos : Pos} {W' : List Nat} {body : List Stmt}
end
section
variable {X : Cx} {elt : Expr} {ifs : List Expr} {t : DT} {c : DE} {pos : Pos} {scope : Scope}
end
theorem law_sp {K : PySem.W.Frag} {H : Hp} {a : Addr} {ns : List Int} {g : GF} {E : XK} (hg : ∃ d, g [.lst false (ns.map D.int)] = some (.bl true, [d])) (hS : SqL K H a (ns.map V.int)) : spD K 1 g [.ref a] H (fun v _ => v = .bl true) E := by
 obtain ⟨d, hd⟩ := hg;refine ⟨rfl, fun c => ∃ o, H c = some o, [], [.lst false (ns.map D.int)], .bl true, [d], rfl, ⟨⟨[], ?_, List.nodup_nil, fun c hc => by cases hc⟩, fun c hc => hc⟩, hd, fun F' H' v x _ g => ?_⟩
 ·have ol : ∀ ms : List Int, OwL K (fun c => ∃ o, H c = some o) H (ms.map D.int) (ms.map V.int) [] := by
   intro ms
   induction ms with
   | nil => simp only [List.map_nil, OwL]; exact ⟨trivial, trivial⟩
   | cons m ms ih => simp only [List.map_cons, OwL]; exact ⟨_, _, [], [], rfl, Ow.of_sc rfl, ih, rfl⟩
  refine ⟨[], [], ?_, rfl, rfl⟩;simp only [Ow];refine ⟨a, ns.map V.int, rfl, ?_, ol ns, trivial⟩;rcases hS with h | h
  ·refine .inl ⟨?_, h⟩
   rcases h with h | ⟨o, h⟩ <;> exact ⟨_, h⟩
  ·exact .inr fun H' => .inr h
 ·exact (g.bor (d := .bl true) (v := v) (by simp)).bl
inductive PArg where
 | bo (i : Nat) | pu (p : DP) | bp (i : Nat) (q : DP)
section
variable {X : Cx} {e a b : Expr} {es : List Expr} {as : List PArg} {c : DE} {p q : DP} {pos : Pos}
variable {K : PySem.W.Frag} {F F' : Addr -> Prop} {H H' : Hp}
theorem map_some_pair {α β : Type} {o : Option α} {f : α -> β} {b : β} (h : o.map f = some b) : ∃ x, o = some x /\ f x = b := by
 cases o with
 | none => cases h
 | some x => exact ⟨x, rfl, Option.some.inj h⟩
end
section
variable {X : Cx} {e o a b : Expr} {es : List Expr} {p q : DP} {c c' : DE} {pos apos cpos : Pos} {i : Nat} {js : List DP}
theorem reads_each {h : Heap} : ∀ {vs : List Value} {ps : List PyData} {as : List Addr}, ReadsAll h vs ps as -> ∀ v ∈ vs, ∃ p as', p ∈ ps /\ Reads h v p as' := by
 intro vs
 induction vs with
 | nil => intro ps as h v hv; cases hv
 | cons v vs ih =>
  intro ps as h v hv;cases h with
  | cons r rs =>
   rcases List.mem_cons.mp hv with rfl | hv
   ·exact ⟨_, _, List.mem_cons_self, r⟩
   ·obtain ⟨p, as', hp, h⟩ := ih rs v hv
    exact ⟨p, as', List.mem_cons_of_mem _ hp, h⟩
end
section
variable {X : Cx} {e o a b : Expr} {es : List Expr} {p q : DP} {c c' : DE} {pos apos cpos : Pos} {i : Nat} {js : List DP}
end
end DD
namespace DD
open PySem PySem.Spec PySem.Calls PyProof.Rows L2 PySem.W PySem.Builtin PySem.Builtin.Str
section
variable {X : Cx} {apos cpos : Pos}
end
end DD
namespace DD
open PySem PySem.Spec PyProof.Rows L2
section
variable {X : Cx} {e o a b : Expr} {es : List Expr} {p q : DP} {c c' : DE} {pos apos cpos : Pos} {i : Nat} {js : List DP}
noncomputable def inL (x y : D) : Option Bool := x.py.bind fun q => y.py.bind fun p => match p with
 | .list ps => if (ps.all fun r => pyOk r q) = true then some (ps.any fun r => PyData.eqv r q) else none
 | _ => none
noncomputable def gIn (x y : D) : Option D := (inL x y).map .bl
theorem any_vals {h : Heap} {q : PyData} {e : Value -> Bool} (he : ∀ v p as, Reads h v p as -> e v = PyData.eqv p q) : ∀ {vs : List Value} {ps : List PyData} {as : List Addr}, ReadsAll h vs ps as -> vs.any e = ps.any fun r => PyData.eqv r q
 | _, _, _, .nil => rfl
 | _, _, _, .cons r rs => by rw [List.any_cons, List.any_cons, any_vals he rs, he _ _ _ r]
theorem inL_some {x y : D} {t : Bool} (h : inL x y = some t) : ∃ q ps, x.py = some q /\ y.py = some (.list ps) /\ (∀ r ∈ ps, r.canLay0 = true /\ q.canLay0 = true /\ min r.depth q.depth <= 50) /\ t = ps.any fun r => PyData.eqv r q := by
 unfold inL at h;rcases h1 : x.py with _ | p
 ·rw [h1] at h; cases h
 ·rw [h1] at h; simp only [bind_some] at h
  rcases h2 : y.py with _ | q
  ·rw [h2] at h; cases h
  ·rw [h2] at h; simp only [bind_some] at h
   split at h
   ·rename_i ps
    split at h
    ·rename_i hk
     cases h;refine ⟨p, ps, rfl, rfl, fun r hr => ?_, rfl⟩
     have := List.all_eq_true.mp hk r hr
     simp only [pyOk, Bool.and_eq_true, decide_eq_true_eq] at this;exact ⟨this.1.1, this.1.2, this.2⟩
    ·cases h
   ·cases h
theorem in_walk {pins : List (Addr × Obj)} {s : Shared} {O : St} {H : Hp} {F : Addr -> Prop} {dx dy : D} {x y : V} {v u : Value} {t : Bool} (hu : X.A.units + 64 < cLine) (I : L2.Inv X pins O H s) (b1 : Bor X.K F H dx x) (b2 : Bor X.K F H dy y)
  (rx : RelV x v) (ry : RelV y u) (h : inL dx dy = some t) : ∃ l items, u = .ref l /\ s.heap.IsList l items /\ ∃ e : Value -> Bool, (∀ z ∈ items, SeqAt.EqAt X.A.in1 s z v (e z)) /\ items.any e = t := by
 obtain ⟨r, ps, e1, e2, hok, rfl⟩ := inL_some h;obtain ⟨as, ra⟩ := b1.reads I e1 rx;obtain ⟨bs, rb⟩ := b2.reads I e2 ry;cases rb with
 | @list a o items n xs as' hg hc hdt rall =>
  classical
  refine ⟨a, items, rfl, ⟨o, hg, hc, n, hdt⟩, fun z => decide (∃ p as, Reads s.heap z p as /\ PyData.eqv p r = true), fun z hz => ?_, ?_⟩
  ·obtain ⟨pz, az, hpz, rz⟩ := reads_each rall z (by simpa using hz)
   obtain ⟨k1, k2, k3⟩ := hok pz hpz;have hd : decide (∃ p as, Reads s.heap z p as /\ PyData.eqv p r = true) = PyData.eqv pz r := by
    rcases he : PyData.eqv pz r with _ | _
    ·refine decide_eq_false ?_
     rintro ⟨p', as', r', e'⟩
     have := (PySem.SeqAt.Reads.unique pz p' z az as' k1 rz r')
     rw [<- this, he] at e'; cases e'
    ·exact decide_eq_true ⟨pz, az, rz, he⟩
   dsimp only;rw [hd];exact PySem.SeqAt.eqAt_reads pz r _ s z v az as rz ra k1 k2 (by
    simp only [Around.in1_units];omega)
  ·have hc := any_vals (q := r) (e := fun z => decide (∃ p as, Reads s.heap z p as /\ PyData.eqv p r = true)) (h := s.heap) (vs := items.toList) (ps := ps) ?_ rall
   ·rw [<- hc]; simp
   ·intro v p as rv
    rcases he : PyData.eqv p r with _ | _
    ·refine decide_eq_false ?_
     rintro ⟨p', as', r', e'⟩
     have := (PySem.Reads.unique rv p' as' r').1
     rw [<- this, he] at e'; cases e'
    ·exact decide_eq_true ⟨p, as, rv, he⟩
theorem o_in (hu : X.A.units + 64 < cLine) : OpS X (compareOp .In) gIn := by
 refine ⟨fun pins s O H x y v u Q I rx ry pz => ?_, fun x y d h => ?_⟩
 ·obtain ⟨F, dx, dy, d, w, b1, b2, eg, hw, q⟩ := pz
  obtain ⟨t, et, rfl⟩ := map_some_pair eg;cases hw;obtain ⟨l, items, rfl, hl, e, he, rfl⟩ := in_walk hu I b1 b2 rx ry et;exact SeqAt.in_listAt e hl he ⟨.bl _, H, I, rfl, q⟩
 ·obtain ⟨t, _, rfl⟩ := map_some_pair h
  exact ⟨_, rfl⟩
end
section
variable {X : Cx} {e a b : Expr} {lo hi : Option Expr} {pl ph : Option DP} {p q : DP} {c c' : DE} {pos p2 : Pos} {i : Nat}
end
theorem grow_tup {F1 : Addr -> Prop} {H1 : Hp} {p : Addr} {us : List V} (dm : ∀ a, F1 a -> ∃ o, H1 a = some o) (hp : H1 p = none) : Grow F1 H1 (fun c => F1 c \/ c = p) (upd H1 p (.tup us)) := by
 have nF : ∀ c, F1 c -> c ≠ p := fun c fc z => by obtain ⟨o, h⟩ := dm c fc; rw [z, hp] at h; cases h
 refine ⟨fun c fc => ⟨.inl fc, upd_ne (nF c fc)⟩, fun c o e => by rw [upd_ne (ne_of_none e hp)]; exact e, fun c fc => ?_, fun _ c fc => ?_⟩
 ·rcases fc with fc | fc
  ·exact .inl fc
  ·exact .inr (fc ▸ hp)
 ·rcases fc with fc | fc
  ·rw [upd_ne (nF c fc)]; exact dm c fc
  ·subst fc; exact ⟨_, upd_same⟩
section
variable {X : Cx} {e tg elt iter : Expr} {ifs : List Expr} {g : DG} {t : DT} {c : DE} {i : DI} {pos : Pos} {W : List Nat} {N' : List Str} {scope : Scope}
end
section
variable {X : Cx} {elt tg : Expr} {ifs : List Expr} {g : DG} {t : DT} {c : DE} {pos : Pos} {W : List Nat} {scope : Scope} {k : Nat} {elts : List Expr} {x1 : Nat} {tpos p1 pos1 npos npos2 : Pos}
end
noncomputable def dOpR (g : D -> D -> Option D) (c : DE) (q : DP) : DE := fun O => (c O).bind fun p => (q p.2).bind fun y => (g p.1 y).map fun d => (d, p.2)
section
variable {X : Cx} {a b : Expr} {c : DE} {p q : DP} {pos : Pos}
theorem dOpR_some {g : D -> D -> Option D} {O O' : DSt} {d : D} (h : dOpR g c q O = some (d, O')) : ∃ x y, c O = some (x, O') /\ q O' = some y /\ g x y = some d := by
 unfold dOpR at h;rcases h1 : c O with _ | ⟨x, O1⟩
 ·rw [h1] at h; cases h
 ·rw [h1] at h; simp only [bind_some] at h
  rcases h2 : q O1 with _ | y
  ·rw [h2] at h; cases h
  ·rw [h2] at h; simp only [bind_some] at h
   obtain ⟨z, e, e2⟩ := map_pair h;cases e2;exact ⟨x, y, rfl, h2, e⟩
theorem rOpR {f : Value -> Value -> Sem Value} {g : D -> D -> Option D} (o : OpS X f g) {O : St} {H : Hp} {Q : VK} (h : rE X.K (dOpR g c q) O H Q) :
  tOp (fun x y H Q => ∃ F dx dy d w, Bor X.K F H dx x /\ Bor X.K F H dy y /\ g dx dy = some d /\ d.sc = some w /\ Q w H) (rE X.K c) (rB X.K q) O H Q := by
 obtain ⟨F, R, OD, d, OD', r, ec, k⟩ := h;obtain ⟨x, y, e1, e2, eg⟩ := dOpR_some ec;obtain ⟨w, hw⟩ := o.sc _ _ _ eg;refine ⟨F, R, OD, x, OD', r, e1, fun F1 H1 v x1 r1 => ?_⟩;refine ⟨F1, _, OD', y, r1, e2, fun F2 H2 u g2 b2 => ?_⟩;exact ⟨F2, x, y, d, w, (r1.grow g2).bor (by simp), b2, eg, hw, k F2 H2 w (x1.trans g2.x) ((r1.grow g2).pop.scal hw)⟩
theorem qt_cmpR {op : CmpOp} {g : D -> D -> Option D} (o : OpS X (compareOp op) g) (ha : QE X a c) (hb : QB X b q) (hm : behindInMarks op b = false) : QT X (.Compare a [op] [b] pos) (dTest (dOpR g c q)) :=
 PT_imp (pt_cmpR o.run ha hb hm) fun O H Q hq0 => by
  obtain ⟨F, R, OD, k, OD', r, ec, kk⟩ := hq0;show tOp _ _ _ O H _;exact rOpR o ⟨F, R, OD, _, OD', r, dTest_some ec, fun F' H' v x r' => ⟨k, (r'.bor (by simp)).bl, kk F' H' x r'.pop⟩⟩
end
end DD
namespace L2
open PySem PySem.Spec PyProof.Rows
noncomputable def Ite (K : PySem.W.Frag) (a : Addr) (n0 : Nat) : It :=
 ⟨fun i H => ∃ xs x, SqL K H a xs /\ xs[i]? = some x,
  fun i H x H' => ∃ p u, (∀ xs, SqL K H a xs -> xs[i]? = some u) /\ H p = none /\ H' = upd H p (.tup [.int ((n0 + i : Nat) : Int), u]) /\ x = .ref p,
  fun i H => ∃ xs, SqL K H a xs /\ xs.length = i⟩
theorem drawsFrom {prog : Program} {w : World} {A : Around} (hh : A.handled = none) (it l : Addr) (hne : l ≠ it) (items : Array Value) (n0 : Nat) :
  Draws prog w A it [it, l] (n0 + items.size) (fun i v => n0 <= i /\ items[i - n0]? = some v) (fun i h => n0 <= i /\ h.IsListIter it l (i - n0) /\ h.IsList l items) where
 live := fun _ _ q => by obtain ⟨o, ho, _⟩ := q.2.1; exact ⟨o, ho⟩
 frame := fun _ _ _ q hk => ⟨q.1, q.2.1.at fun o e => hk it (by simp) o e, q.2.2.at fun o e => hk l (by simp) o e⟩
 item := fun i s Q E hi q hQ => by
  have hl : i - n0 < items.size := by have := q.1; omega
  refine wpAny_nextOf_list_item q.2.1 q.2.2 (x := items[i - n0]) (by simp [hl]) fun h' hit' hs' => ?_
  refine hQ _ h' s.toks ⟨q.1, by simp [hl]⟩ ⟨Nat.le_succ_of_le q.1, ?_, q.2.2.extBut hs'.extBut hne⟩ hs';rw [show i + 1 - n0 = i - n0 + 1 by have := q.1; omega];exact hit'
 done := fun s Q E q hE => wpAny_nextOf_list_end hh q.2.1 q.2.2 (by simp) hE
theorem turn_enum {P : Program} {w : World} {K : PySem.W.Frag} {elts : List Expr} {x1 : Nat} {tpos : Pos} (a z it : Addr) (n0 : Nat) (D : z ≠ it) :
  Turn P w K (.Tuple elts x1 tpos) (Ite K a n0) [z, it] z (fun i h => (∃ old, IsEnum h z it ((n0 + i : Nat) : Int) old) /\ h.IsListIter it a i) where
 mem := by simp
 obj := fun i h hq0 c hc => by
  obtain ⟨⟨old, hz⟩, ⟨o1, e1, c1, d1⟩⟩ := hq0;simp only [List.mem_cons, List.not_mem_nil, or_false] at hc;rcases hc with rfl | rfl
  ·exact ⟨_, hz, fun v z => nomatch z⟩
  ·exact ⟨_, e1, fun v z => by rw [d1] at z; cases z⟩
 keep := fun i h h' ⟨⟨old, hz⟩, h1⟩ k => ⟨⟨old, k z (by simp) _ hz⟩, h1.at fun o e => k it (by simp) o e⟩
 item := by
  rintro X hP hw hK hc i pins s O H E I hf ⟨⟨old, hz⟩, h1⟩ ⟨xs, x, hq, hx⟩;subst hP hw hK;obtain ⟨its, rv, p1, _⟩ := I.list hq;obtain ⟨u, hu, ru⟩ := rv.get hx;have na : a ≠ z := list_tracked I hq (hf z (by simp)) ⟨_, hz, by simp⟩;have nb : a ≠ it := list_tracked I hq (hf it (by simp)) (by obtain ⟨o1, e1, c1, d1⟩ := id h1; exact ⟨_, e1, by rw [c1]; simp⟩);have hil : i < its.length := (List.getElem?_eq_some_iff.mp hu).1;refine wpAny_pyNext_enum_itemD (drawsFrom (A := X.A.in1) (I.ok.hd hc) it a nb its.toArray n0) hz ⟨Nat.le_add_right _ _, by rw [Nat.add_sub_cancel_left]; exact h1, p1.isList⟩ (by simp [hil]) D (by simp [D, na.symm]) fun v h' tk hv ho hst hT hsz hk => ?_
  have ev : v = u := by
   have h2 := hv.2;rw [Nat.add_sub_cancel_left] at h2;simp only [List.getElem?_toArray] at h2;rw [hu] at h2; exact (Option.some.inj h2).symm
  subst ev;have hf2 : ∀ c ∈ [z, it], FpOk X pins H c := fun c hc => hf c hc
  have hk' : ∀ c o, c ∉ [z, it] -> s.heap.get? c = some o -> h'.get? c = some o := fun c o hc e => hk c o (fun q => hc (by simp [q])) (fun q => hc (by simp [q])) e
  have I0 : Inv X pins O (upd H s.heap.objs.size (.tup [.int ((n0 + i : Nat) : Int), x])) { s with heap := h' } := I.turnT hf2 (u := .int ((n0 + i : Nat) : Int)) ⟨tk, rfl⟩ ru hk' hT (fun c hc => by
   obtain ⟨o1, e1, _⟩ := id hst.2.1;simp only [List.mem_cons, List.not_mem_nil, or_false] at hc;rcases hc with rfl | rfl
   ·exact ⟨_, ho⟩
   ·exact ⟨_, e1⟩)
  have I1 : Inv X pins O (upd H s.heap.objs.size (.tup [.int ((n0 + i : Nat) : Int), x])) { s with heap := h', toks := tk + 1 } := I0.kept (t' := tk + 1) (fun _ _ e => e);have hfr : H s.heap.objs.size = none := I.fresh;refine ⟨_, rfl, wpAny_letOwnedTupleGo_enum (s := { s with heap := h', toks := tk + 1 }) ho fun h'' z1 sb => ?_⟩;have hf5 : ∀ c ∈ [z, it], (upd H s.heap.objs.size (.tup [.int ((n0 + i : Nat) : Int), x])) c = none := fun c hc => by
   have lt : c < s.heap.objs.size := by
    obtain ⟨o1, e1, _⟩ := id h1;simp only [List.mem_cons, List.not_mem_nil, or_false] at hc;rcases hc with rfl | rfl
    ·exact Heap.lt_size hz
    ·exact Heap.lt_size e1
   rw [upd_ne (Nat.ne_of_lt lt)]; exact (hf c hc).1
  have I2 : Inv X pins O (upd H s.heap.objs.size (.tup [.int ((n0 + i : Nat) : Int), x])) { s with heap := h'', toks := tk + 1 } := Inv.turnN (s := { s with heap := h', toks := tk + 1 }) (ch := [z]) I1 (fun c hc => by
   have : c = z := by simpa using hc
   subst this;exact ⟨hf5 c (by simp), (hf c (by simp)).2⟩) (fun c o hc e => (sb.2 c (fun q => hc (by simp [q]))).trans e)
  refine ⟨.ref s.heap.objs.size, _, I2, rfl, ⟨_, x, fun zs hzs => by rw [I.list_inj hzs hq]; exact hx, hfr, rfl, rfl⟩, ⟨⟨_, by rw [show ((n0 + (i + 1) : Nat) : Int) = ((n0 + i : Nat) : Int) + 1 by omega]; exact z1⟩, ?_⟩, hf5⟩;have h3 := hst.2.1;rw [show n0 + i + 1 - n0 = i + 1 by omega] at h3;exact h3.at fun o e => (sb.2 it D.symm).trans e
 done := by
  rintro X hP hw hK hc i pins s O H E I hf ⟨⟨old, hz⟩, h1⟩ ⟨xs, hq, hend⟩;subst hP hw hK;obtain ⟨its, rv, p1, _⟩ := I.list hq;have nb : a ≠ it := list_tracked I hq (hf it (by simp)) (by obtain ⟨o1, e1, c1, d1⟩ := id h1; exact ⟨_, e1, by rw [c1]; simp⟩);have hl := rv.length;refine wpAny_pyNext_enum_endD (drawsFrom (A := X.A.in1) (I.ok.hd hc) it a nb its.toArray n0) hz ⟨Nat.le_add_right _ _, ?_, p1.isList⟩ fun h' hk => ⟨rfl, ?_⟩
  ·rw [Nat.add_sub_cancel_left, List.size_toArray, <- hl, hend]; exact h1
  ·exact I.turnN (ch := [z, it]) (fun c hc => hf c hc) fun c o hc e => hk c o (fun q => hc (by simp [q])) e
 self := fun _ _ _ _ _ ⟨⟨_, hz⟩, _⟩ h => wpAny_pyIter_enum hz h
theorem boot_enum : bootBuiltins "enumerate" = some (.type "enumerate") := by decide +kernel
noncomputable def iEnum (K : PySem.W.Frag) (n0 : Nat) (ta : TA) : TI := fun O H R => ta O H fun vs H1 => ∃ a, vs = [.ref a] /\ (∃ xs, SqL K H1 a xs) /\ R (Ite K a n0) H1
theorem enum_end {X : Cx} {pins : List (Addr × Obj)} {O : St} {H1 : Hp} {s1 : Shared} {h' : Heap} {t' : Nat} {l : Addr} {n0 : Nat} {elts : List Expr} {x1 : Nat} {tpos : Pos} {R : It -> Hp -> Prop} (I1 : Inv X pins O H1 s1) (he : IsEnum h' (s1.heap.objs.size + 1) s1.heap.objs.size (n0 : Int) .none) (hi : h'.IsListIter s1.heap.objs.size l 0)
  (hk : ∀ b o, s1.heap.get? b = some o -> h'.get? b = some o) (q : R (Ite X.K l n0) H1) : PIE X pins O (.Tuple elts x1 tpos) R (.ref (s1.heap.objs.size + 1)) { s1 with heap := h', toks := t' } := by
 have I2 : Inv X pins O H1 { s1 with heap := h', toks := t' } := I1.kept (t' := t') hk;refine ⟨_, [s1.heap.objs.size + 1, s1.heap.objs.size], _, _, H1, rfl, I2, turn_enum l (s1.heap.objs.size + 1) s1.heap.objs.size n0 (Nat.ne_of_gt (Nat.lt_succ_self _)), ⟨⟨_, by simpa using he⟩, hi⟩, fun c hc => ?_, q⟩;have hle : s1.heap.objs.size <= c := by
  simp only [List.mem_cons, List.not_mem_nil, or_false] at hc;rcases hc with rfl | rfl
  ·exact Nat.le_succ _
  ·exact Nat.le_refl _
 obtain ⟨f0, f1, f2, f3, f4, f5⟩ := I1.fpOk hle (I1.hok.fresh hle);exact ⟨f0, f1, f2, f3, f4, f5⟩
theorem pi_enum {X : Cx} {elts : List Expr} {x1 : Nat} {tpos : Pos} {a : Expr} {ta : TA} {p pos : Pos} (hg : Gl X "enumerate") (hm : X.mg "enumerate" = none) (ha : PA X [a] ta) (hs : autoParam (starEach [a] X.env = [(false, eval a X.env)]) Ax4._auto_1) :
  PI X (.Tuple elts x1 tpos) (.Call (.Name "enumerate" p) [a] [] pos) (iEnum X.K 0 ta) := by
 intro pins s O H R I h;refine Call_ (ld_blt I hg hm boot_enum (PyProof.Rows.callWith_type1 (thn (ha pos pins s O H _ I h) fun us s1 ⟨vs, H1, I1, r1, q1⟩ => ?_) (by rw [hs]; rfl) (by rfl)));obtain ⟨l, e, ⟨xs, hq⟩, q⟩ := q1;subst e;cases r1 with
 | cons r rr =>
  cases rr;cases r;obtain ⟨its, rv, p1, _⟩ := I1.list hq;refine call_enumerate_list p1.isList fun h' he hi hsz hk => ?_
  refine wpAny_pyIter_enum (s := { s1 with heap := h' }) he ?_;exact enum_end (t' := s1.toks) (n0 := 0) I1 he hi hk q
end L2
namespace DD
open PySem PySem.Spec PyProof.Rows L2
noncomputable def enD : Nat -> List D -> List D
 | _, [] => []
 | n, x :: xs => .tup [.int (n : Int), x] :: enD (n + 1) xs
theorem enD_len : ∀ (xs : List D) (n : Nat), (enD n xs).length = xs.length
 | [], _ => rfl
 | _ :: xs, n => by simp [enD, enD_len xs]
theorem enD_get : ∀ (xs : List D) (n i : Nat), (enD n xs)[i]? = (xs[i]?).map fun x => .tup [.int ((n + i : Nat) : Int), x]
 | [], _, _ => by simp [enD]
 | _ :: xs, n, 0 => by simp [enD]
 | _ :: xs, n, i + 1 => by simp only [enD, List.getElem?_cons_succ, enD_get xs]; rw [show n + 1 + i = n + (i + 1) by omega]
noncomputable def iEnD (n0 : Nat) (c : DE) : DI := fun O => (c O).bind fun p => match p.1 with
 | .lst _ xs => some (enD n0 (D.fzL xs), p.2)
 | _ => none
theorem itd_enum {K : PySem.W.Frag} {F : Addr -> Prop} {H : Hp} {xs : List D} {a : Addr} {vs : List V} {n0 : Nat} (fl : FL K F H a vs) (ol : OwL K F H xs vs []) :
  ItD K (Ite K a n0) (enD n0 xs) F H where
 item := fun i d F1 H1 x1 dm e => by
  rw [enD_get] at e;rcases hz : xs[i]? with _ | x
  ·rw [hz] at e; cases e
  ·rw [hz] at e; cases e
   obtain ⟨u, La, Lx, Lb, e1, eL, o1, _⟩ := ol.kid hz;have eLx : Lx = [] := (List.append_eq_nil_iff.mp (List.append_eq_nil_iff.mp eL.symm).1).2;subst eLx;refine ⟨⟨vs, u, (fl.ext x1).sq, e1⟩, fun v H2 ⟨p, u', h1, hp, hH, hv⟩ => ?_⟩;subst hH hv;have h1' := h1 vs (fl.ext x1).sq;rw [e1] at h1'; cases h1';have gr := grow_tup (us := [.int ((n0 + i : Nat) : Int), u]) dm hp;refine ⟨_, gr, ?_⟩;simp only [Ow, OwL];exact ⟨p, [.int ((n0 + i : Nat) : Int), u], rfl, .inl ⟨.inr rfl, upd_same⟩, .int ((n0 + i : Nat) : Int), [u], [], [], rfl, ⟨rfl, rfl⟩, ⟨u, [], [], [], rfl, (o1.mono x1 (fun a ha => by cases ha)).mono gr.x (fun a ha => by cases ha), ⟨rfl, rfl⟩, rfl⟩, rfl⟩
 done := fun F1 H1 x1 => ⟨vs, (fl.ext x1).sq, by rw [enD_len]; exact ol.length⟩
section
variable {X : Cx} {a b o e : Expr} {c c' : DE} {p p1 pos1 : Pos} {elts : List Expr} {x1 : Nat} {tpos pos : Pos}
theorem qi_enum (hgl : Gl X "enumerate") (hm : X.mg "enumerate" = none) (ha : QE X a c) (hs : autoParam (starEach [a] X.env = [(false, eval a X.env)]) Ax4._auto_1) :
  QI X (.Tuple elts x1 tpos) (.Call (.Name "enumerate" p1) [a] [] pos1) (iEnD 0 c) := PI_imp (pi_enum hgl hm (pa_cons ha pa_nil hs) hs) fun O H R hq0 => by
 obtain ⟨F, Ro, OD, xs, OD', r, ec, k⟩ := hq0;unfold iEnD at ec;rcases h1 : c OD with _ | ⟨x, O1⟩
 ·rw [h1] at ec; cases ec
 ·rw [h1] at ec; simp only [bind_some] at ec
  split at ec
  ·cases ec
   refine ⟨F, Ro, OD, _, _, r, h1, fun F1 H1 v x1 r1 => ?_⟩;obtain ⟨F3, x3, r3, o3⟩ := r1.freeze;simp only [D.fz, Ow] at o3;obtain ⟨a1, vs, rfl, fl, ol, _⟩ := o3;exact ⟨a1, rfl, ⟨vs, fl.sq⟩, k F3 H1 _ (x1.trans x3) r3.pop (itd_enum fl ol)⟩
  ·cases ec
end
section
variable {X : Cx} {elt tg iter : Expr} {ifs : List Expr} {g : DG} {t : DT} {c : DE} {pos : Pos} {W : List Nat} {scope : Scope} {k : Nat} {elts : List Expr} {x1 : Nat} {tpos p1 pos1 npos npos2 : Pos}
end
end DD
namespace L2
open PySem PySem.Spec PyProof.Rows
section
variable {prog : Program} {w : World} {A : Around} {E : Value -> Shared -> Prop} {s : Shared}
end
end L2
namespace DD
open PySem PySem.Spec PyProof.Rows L2
section
variable {X : Cx} {a b o e : Expr} {c c' : DE} {p p1 pos1 kp cp : Pos} {elts : List Expr} {x1 : Nat} {tpos pos : Pos} {kk : Nat}
end
section
variable {X : Cx} {elt : Expr} {ifs : List Expr} {g : DG} {t : DT} {c : DE} {pos : Pos} {W : List Nat} {scope : Scope} {k : Nat} {elts : List Expr} {x1 : Nat} {tpos p1 pos1 npos kp cp : Pos} {kk : Nat}
end
end DD
namespace L2
open PySem PySem.Spec PyProof.Rows
section
variable {prog : Program} {w : World} {A : Around} {E : Value -> Shared -> Prop} {s : Shared}
theorem drawL {it t : Addr} {items : Array Value} (hne : t ≠ it) : ∀ (n i : Nat) (s : Shared) (Q : List Value -> Shared -> Prop), s.heap.IsListIter it t i -> s.heap.IsList t items -> i + n <= items.size ->
  (∀ h', h'.IsListIter it t (i + n) -> Heap.SameBut it s.heap h' -> Q ((items.toList.drop i).take n) { s with heap := h' }) -> wpAny (model prog w) A (draw (.ref it) n) Q E s
 | 0, i, s, Q, hit, _, _, hQ => wpAny_pure (by simpa using hQ s.heap hit (Heap.SameBut.refl ..))
 | n + 1, i, s, Q, hit, ht, hle, hQ => by
  have hlt : i < items.size := by omega
  refine wpAny_bind (m := pyNext (.ref it)) (wpAny_pyNext_list_item hit ht (x := items[i]) (by simp [hlt]) fun h₁ hit₁ hs₁ => ?_);refine wpAny_bind (wpAny_holding (drawL hne n (i + 1) _ _ hit₁ (ht.extBut hs₁.extBut hne) oM fun h₂ hit₂ hs₂ => wpAny_pure ?_));have q := hQ h₂ (by rw [show i + (n + 1) = i + 1 + n by omega]; exact hit₂) (hs₁.trans hs₂);rw [show items.toList.drop i = items[i] :: items.toList.drop (i + 1) by simp [List.drop_eq_getElem_cons, hlt], List.take_succ_cons] at q;exact q
theorem unpackL {t : Addr} {items : Array Value} {targets : List (Bool × (Value -> Sem Unit))} {Q : Unit -> Shared -> Prop} (hh : A.handled = none) (ht : s.heap.IsList t items) (hn : targets.length = items.size) (hstar : targets.findIdx? (·.1) = none)
  (h : ∀ h', Heap.ExtBut s.heap.objs.size s.heap h' -> wpAny (model prog w) A (assignInOrder (targets.map (·.2)) items.toList) Q E { s with heap := h' }) : wpAny (model prog w) A (unpack (.ref t) targets) Q E s := by
 have hlt : t ≠ s.heap.objs.size := by obtain ⟨o, ho, _⟩ := ht; exact Nat.ne_of_lt (Heap.lt_size ho)
 unfold unpack;rw [hn, hstar];refine wpAny_bind (wpAny_holding ?_);unfold unpackItems;refine wpAny_bind ?_;unfold notIterableAtAll;refine wpAny_bind (wpAny_specialOf ht.typeIs slot_list_iter.lookup (wpAny_pure ?_));simp only [Bool.false_eq_true, if_false];refine wpAny_bind (wpAny_holding (wpAny_pyIter_list ht (wpAny_bind (wpAny_holding (drawL hlt items.size 0 _ _ ⟨_, Heap.get?_push_size _ rfl, rfl, rfl⟩ (ht.push _) oM fun h₁ hit₁ hs₁ => ?_)))));rw [show List.take items.size (List.drop 0 items.toList) = items.toList by rw [List.drop_zero]; exact List.take_of_length_le (by simp), if_neg (by simp)];refine wpAny_bind (wpAny_holding (wpAny_pyNext_list_end hh hit₁ ((ht.push _).extBut hs₁.extBut hlt) (by simp) fun h₂ he₂ => ?_));simp only [Option.isSome_none, Bool.false_eq_true, if_false];exact wpAny_pure (h h₂ fun b o hb e => he₂ b o hb (hs₁.extBut b o hb (Heap.get?_push_of_some _ e)))
end
section
variable {X : Cx} {pos : Pos}
noncomputable def gTupL (K : PySem.W.Frag) (n : Nat) (t : TGs) : TG := fun v O H Q => ∃ a xs, v = .ref a /\ SqL K H a xs /\ xs.length = n /\ t xs O H Q
theorem pg_tupL {es : List Expr} {k : Nat} {t : TGs} {n : Nat} (hc : X.calm = true) (h : PGs X es t) (hn : autoParam ((assignEach es X.env).length = n) Ax4._auto_1) (hst : autoParam ((assignEach es X.env).findIdx? (·.1) = none) Ax4._auto_1) : PG X (.Tuple es k pos) (gTupL X.K n t) := by
 intro pins s O H v u Q I r hw;obtain ⟨a, xs, e1, hq, hl, hw⟩ := hw;subst e1;cases r;obtain ⟨its, rv, pl, hz⟩ := I.list hq;rw [arm_assign_Tuple];refine wpAny_bind (wpAny_standAt (unpackL (I.ok.hd hc) pl.isList (by simp [hn, <- hl, rv.length]) hst fun h' hx => ?_));have I1 : Inv X pins O H { s with heap := h' } := I.kept (t' := s.toks) fun b o e => hx b o (Nat.ne_of_lt (Heap.lt_size e)) e
 exact h pins _ O H xs _ Q I1 (by simpa using rv) hw
theorem vals_ints0 : ∀ (l : List Value) (k : Nat), (∀ (j : Nat) (v : Value), l[j]? = some v -> ∃ t, v = .int ((k + j : Nat) : Int) t) -> Vals ((List.range' k l.length).map fun (q : Nat) => V.int (q : Int)) l
 | [], _, _ => .nil
 | u :: l, k, h => by
  rw [List.length_cons, List.range'_succ, List.map_cons];refine .cons ?_ (vals_ints0 l (k + 1) fun j v e => ?_)
  ·obtain ⟨t, e⟩ := h 0 u rfl
   exact ⟨t, e⟩
  ·obtain ⟨t, e2⟩ := h (j + 1) v (by simpa using e)
   exact ⟨t, by rw [e2, show k + (j + 1) = k + 1 + j by omega]⟩
theorem boot_list0 : bootBuiltins "list" = some (.type "list") := by decide +kernel
noncomputable def tListR (ta : TE) : TE := fun O H Q => tCons ta tNil O H fun vs H1 => ∃ j : Nat, vs = [.int (j : Int)] /\ j <= 1000 /\ ∀ p, H1 p = none -> Q (.ref p) (upd H1 p (.lst ((List.range' 0 j).map fun (q : Nat) => V.int (q : Int))))
theorem pe_listR {a : Expr} {ta : TE} {p1 p2 pos2 : Pos} (hc : X.calm = true) (hgl : Gl X "list") (hml : X.mg "list" = none) (hgr : Gl X "range") (hmr : X.mg "range" = none) (ha : PE X a ta)
  (hs : autoParam (starEach [a] X.env = [(false, eval a X.env)]) Ax4._auto_1) (hs1 : autoParam (starEach [.Call (.Name "range" p2) [a] [] pos2] X.env = [(false, eval (.Call (.Name "range" p2) [a] [] pos2) X.env)]) Ax4._auto_1) :
  PE X (.Call (.Name "list" p1) [.Call (.Name "range" p2) [a] [] pos2] [] pos) (tListR ta) := by
 intro pins s O H Q I h;refine Call_ (ld_blt I hgl hml boot_list0 (PyProof.Rows.callWith_type1 ?_ (by rw [hs1]; rfl) (by rfl)));rw [hs1];refine Calls.spliced_cons (Call_ (ld_blt I hgr hmr boot_range (PyProof.Rows.callWith_type1 (thn ((pa_cons ha pa_nil hs) pos2 pins s O H _ I h) fun us s1 ⟨vs, H1, I1, r1, q1⟩ => ?_) (by rw [hs]; rfl) (by rfl))));cases r1 with
 | nil => obtain ⟨j, e, _⟩ := q1; cases e
 | cons r rr =>
  obtain ⟨j, e, hj, q⟩ := q1;cases e;cases rr;obtain ⟨t, rfl⟩ := r;refine call_range_1 (Calls.spliced_nil ?_);have I2 : Inv X pins O H1 { s1 with heap := s1.heap.push { cls := .type "range", data := .fields #[.int 0 s1.toks, .int (j : Int) t, .int 1 (s1.toks + 1)] }, toks := s1.toks + 1 + 1 } := I1.kept fun b o e => Heap.get?_push_of_some _ e
  refine call_list_range (n := j) (I.ok.hd hc) (IsRange.new ..) (small_one oM oM oM oM) (by rw [rangeSize_one]; split <;> omega) oM fun h' tk acc' c' hk hS hacc => ?_
  have hv := vals_ints0 acc'.toList 0 (fun i v e => by
   obtain ⟨t, e2⟩ := hacc.2 i v (by simpa using e);exact ⟨t, by rw [e2]; congr 1; omega⟩)
  rw [show acc'.toList.length = j by simpa using hacc.1] at hv;exact ⟨.ref _, _, I2.laid (o := .lst ((List.range' 0 j).map fun (q : Nat) => V.int (q : Int))) hk (Nat.le_refl _) ⟨Nat.le_of_lt (small1000 (by simp; omega)), acc'.toList, c', hv, hS⟩, rfl, q _ I2.fresh⟩
end
end L2
namespace DD
open PySem PySem.Spec PyProof.Rows L2
noncomputable def gTupDL (n : Nat) (gs : DGs) : DG := fun d O => match d with | .lst true xs => if xs.length = n then gs xs O else none | _ => none
section
variable {X : Cx} {e tg a : Expr} {ts : List Expr} {g : DG} {gs : DGs} {pos p1 p2 pos2 : Pos} {W W' : List Nat} {c : DE} {apos cpos : Pos}
theorem qg_tupL {n : Nat} {k : Nat} (hc : X.calm = true) (h : QGs X ts gs W) (hn : autoParam ((assignEach ts X.env).length = n) Ax4._auto_1) (hst : autoParam ((assignEach ts X.env).findIdx? (·.1) = none) Ax4._auto_1) : QG X (.Tuple ts k pos) (gTupDL n gs) W :=
 PG_imp (pg_tupL hc h hn hst) fun v O H Q hq0 => by
  obtain ⟨F, R, OD, d, OD', r, ec, k⟩ := hq0;unfold gTupDL at ec;split at ec
  ·rename_i xs
   split at ec
   ·rename_i hxn
    obtain ⟨a, vs, rfl, ha, hl, r1⟩ := r.openN;exact ⟨a, vs, rfl, .inl (.inl ha), by rw [<- hl]; exact hxn, F, R, OD, xs, OD', hl, r1.pop, ec, k⟩
   ·cases ec
  ·cases ec
noncomputable def dListR (c : DE) : DE := fun O => (c O).bind fun p => match p.1 with
 | .int j => if decide (0 <= j /\ j <= 1000) = true then some (.lst true ((List.range' 0 j.toNat).map fun (q : Nat) => D.int (q : Int)), p.2) else none
 | _ => none
theorem ow_ints {K : PySem.W.Frag} {F : Addr -> Prop} {H : Hp} : ∀ l : List Nat, OwL K F H (l.map fun (q : Nat) => D.int (q : Int)) (l.map fun (q : Nat) => V.int (q : Int)) []
 | [] => by simp [OwL]
 | x :: l => by
  simp only [List.map_cons, OwL];exact ⟨_, _, [], [], rfl, Ow.of_sc rfl, ow_ints l, rfl⟩
theorem qe_listR (hgl : Gl X "list") (hml : X.mg "list" = none) (hgr : Gl X "range") (hmr : X.mg "range" = none) (ha : QE X a c) (hc : autoParam (X.calm = true) Ax4._auto_1)
  (hs : autoParam (starEach [a] X.env = [(false, eval a X.env)]) Ax4._auto_1) (hs1 : autoParam (starEach [.Call (.Name "range" p2) [a] [] pos2] X.env = [(false, eval (.Call (.Name "range" p2) [a] [] pos2) X.env)]) Ax4._auto_1) :
  QE X (.Call (.Name "list" p1) [.Call (.Name "range" p2) [a] [] pos2] [] pos) (dListR c) := PE_imp (pe_listR hc hgl hml hgr hmr ha hs hs1) fun O H Q hq0 => by
 obtain ⟨F, R, OD, d, OD', r, ec, k⟩ := hq0;unfold dListR at ec;rcases h1 : c OD with _ | ⟨x, O1⟩
 ·rw [h1] at ec; cases ec
 ·rw [h1] at ec; simp only [bind_some] at ec
  split at ec
  ·rename_i j
   split at ec
   ·rename_i hj
    simp only [decide_eq_true_eq] at hj;cases ec;refine ⟨F, R, OD, _, _, r, h1, fun F1 H1 v x1 r1 => ?_⟩;have hv := (r1.bor (d := .int j) (v := v) (by simp)).int;refine ⟨j.toNat, by rw [hv, Int.toNat_of_nonneg hj.1], by omega, fun p hp => ?_⟩;have oc := ow_ints (K := X.K) (F := F1) (H := H1) (List.range' 0 j.toNat);obtain ⟨r5, x5⟩ := (Rel.pushL oc r1.pop).layL oc.length.symm hp;exact k F1 _ _ (x1.trans x5) r5
   ·cases ec
  ·cases ec
noncomputable def dPopAt (i : Nat) (c : DE) : DE := fun O => match dget O i with
 | some (.lst _ _) => (c O).bind fun p => match p.1, dget p.2 i with
  | .int j, some (.lst true xs) => if decide (0 <= j /\ j <= 1000) = true then (xs[j.toNat]?).map fun y => (y, p.2.set i (some (.lst true (xs.eraseIdx j.toNat)))) else none
  | _, _ => none
 | _ => none
theorem zip_erase {α β : Type} : ∀ {xs : List α} {ys : List β} {k : Nat} {x : α} {y : β}, xs.length = ys.length -> xs[k]? = some x -> ys[k]? = some y -> (xs.zip ys).Perm ((xs.eraseIdx k).zip (ys.eraseIdx k) ++ [(x, y)])
 | [], _, k, _, _, _, h, _ => by simp at h
 | a :: xs, [], k, _, _, h, _, _ => by simp at h
 | a :: xs, b :: ys, 0, x, y, h, h1, h2 => by
  simp only [List.getElem?_cons_zero, Option.some.injEq] at h1 h2;subst h1; subst h2;simp only [List.eraseIdx_cons_zero, List.zip_cons_cons];exact (List.perm_append_singleton _ _).symm
 | a :: xs, b :: ys, k + 1, x, y, h, h1, h2 => by
  simp only [List.eraseIdx_cons_succ, List.zip_cons_cons, List.cons_append];exact .cons _ (zip_erase (by simpa using h) (by simpa using h1) (by simpa using h2))
theorem qe_popAt (i : Nat) {x : Str} {npos : Pos} (he : QE X e c) (hN : autoParam (X.N[i]? = some x) Ax4._auto_1) (hv : autoParam (Vis X.env.scope x) Ax7._auto_1) (hd : autoParam ((x == ("__debug__" : Str)) = false) Ax1._auto_1)
  (hcd : autoParam ((x == ("__classdict__" : Str)) = false) Ax1._auto_1) (hbase : autoParam (attributeBase (.Name x npos) "pop" X.env (eval (.Name x npos) X.env) = eval (.Name x npos) X.env) Ax4._auto_1) (hfew : autoParam (((backTo cpos (starEach [e] X.env)).all (fun x => !x.1) && (backToKw cpos (keywordEach [] X.env)).all (fun x => x.1.isSome)
   && decide (([e] : List Expr).length + ([] : List Keyword).length + (if ([] : List Keyword).isEmpty then 0 else 1) < 30)) = true) Ax4._auto_1) (hline : autoParam ((apos.endLine == cpos.line) = true) Ax4._auto_1)
  (hst : autoParam (starEach [e] X.env = (false, eval e X.env) :: starEach [] X.env) Ax4._auto_1) : QE X (.Call (.Attribute (.Name x npos) "pop" apos) [e] [] cpos) (dPopAt i c) :=
 PE_imp (pe_bm PySem.F.plainAttrs_list PySem.F.slot_list_pop PySem.F.type_list_pop mt_popAt (pe_var hN hv hd hcd) (pa_cons he pa_nil hst) hbase hfew hline hst rfl) fun O H Q hq0 => by
  obtain ⟨F, R, OD, d, OD', r, ec, k⟩ := hq0;unfold dPopAt at ec;split at ec
  ·rename_i own ys0 h0
   obtain ⟨v0, hv0, b0⟩ := r.get (dget_some h0);obtain ⟨a0, vs0, rfl, sq0, _⟩ := b0.lst;rcases h1 : c OD with _ | ⟨y, O1⟩
   ·rw [h1] at ec; cases ec
   ·rw [h1] at ec; simp only [bind_some] at ec
    split at ec
    ·rename_i _ _ j xs h2
     split at ec
     ·rename_i hj
      simp only [decide_eq_true_eq] at hj;obtain ⟨z, e1, e2⟩ := map_pair ec;cases e2;refine ⟨_, hv0, .inl ⟨rfl, vs0, sq0⟩, F, R, OD, _, O1, r, h1, fun F1 H1 v x1 r1 => ?_⟩;have hvj := (r1.bor (d := .int j) (v := v) (by simp)).int;obtain ⟨v1, hv1, r2⟩ := (r1.pop).take (dget_some h2);rw [hv0] at hv1; cases hv1;obtain ⟨l, vs, lc, hl, hlen, upd'⟩ := Rel.listAt (S := []) (js := []) (xs := xs) r2 rfl;cases lc;have hz : ∃ u, vs[j.toNat]? = some u := ⟨_, List.getElem?_eq_getElem (by rw [<- hlen]; exact (List.getElem?_eq_some_iff.mp e1).1)⟩;obtain ⟨u, hu⟩ := hz;obtain ⟨r3, x3⟩ := upd' (xs.eraseIdx j.toNat) (vs.eraseIdx j.toNat) [(d, u)] (by simpa using zip_erase hlen e1 hu) (by simp only [List.length_eraseIdx, hlen]);have hjl : j.toNat < vs.length := (List.getElem?_eq_some_iff.mp hu).1;refine ⟨_, vs, j, j.toNat, u, rfl, by rw [hvj], hl, by omega, by omega, ?_, hu, ?_⟩
      ·unfold seqIndex?
       have hj2 : ¬ j < 0 := by omega
       have hj3 : (decide (0 <= j) && decide (j < (vs.length : Int))) = true := by simp; omega
       simp only [hj2, if_false, hj3, if_true]
      ·have r4 := (Rel.put (R := (d, u) :: R) r3 hv0)
       rw [List.set_set] at r4;exact k F1 _ u (x1.trans x3) r4
     ·cases ec
    ·cases ec
  ·cases ec
end
section
variable {X : Cx} {e o a b : Expr} {es : List Expr} {p q : DP} {c c' : DE} {pos apos cpos : Pos} {i : Nat} {js : List DP}
end
end DD
namespace L2
open PySem PySem.Spec PyProof.Rows
section
variable {X : Cx} {tg : Expr} {pos : Pos}
end
end L2
namespace DD
open PySem PySem.Spec PyProof.Rows L2
section
variable {X : Cx} {tg e a b c : Expr} {ca : DA} {p1 pos1 : Pos}
end
end DD
namespace L2
open PySem PySem.Spec PyProof.Rows
section
variable {X : Cx} {pos : Pos}
end
end L2
namespace DD
open PySem PySem.Spec PyProof.Rows L2
section
variable {X : Cx} {a b c : Expr} {ca : DA} {p1 p2 pos pos2 : Pos}
end
end DD
namespace L2
open PySem PySem.Spec PyProof.Rows
section
variable {X : Cx} {e st : Expr} {te ts : TE} {pos p2 : Pos}
end
end L2
namespace DD
open PySem PySem.Spec PyProof.Rows L2
section
variable {X : Cx} {e st : Expr} {p q : DP} {pos p2 : Pos}
end
end DD
namespace PySem
open Sem (wp)
namespace F
theorem typeCall_zip_4 (a b c d : Value) : checkTypeCall "zip" ⟨[a, b, c, d], []⟩ = pure () := by kernel_rfl
theorem newCall_zip_4 (a b c d : Value) : checkBuiltinCall "zip.__new__" ⟨[.type "zip", a, b, c, d], []⟩ = pure () := by kernel_rfl
theorem args_object_init_5 (o a b c d : Value) : argsOk "object.__init__" ⟨[o, a, b, c, d], []⟩ := by
 unfold argsOk; rw [signature?_of (id := "object.__init__") (n := ['_', '_', 't', 'i', 'n', 'i', '_', '_']) (o := ['t', 'c', 'e', 'j', 'b', 'o']) (by kernel_rfl) owner_object]; kernel_rfl
end F
noncomputable abbrev IsQ (h : Heap) (T : Addr) (a b c d : Value) : Prop := h.get? T = some { cls := .type "tuple", data := .seq #[a, b, c, d] }
section
variable {prog : Program} {w : World} {A : Around} {E : Value -> Shared -> Prop} {s : Shared}
theorem updQ {T : Nat} {a b c d x : Value} {k : Nat} {Q : Unit -> Shared -> Prop} (hT : IsQ s.heap T a b c d)
  (h : ∀ h', h'.get? T = some { cls := .type "tuple", data := .seq ((#[a, b, c, d] : Array Value).setIfInBounds k x) } -> Heap.SameBut T s.heap h' -> Q () { s with heap := h' }) :
  wpAny (model prog w) A (updateSeq T (·.setIfInBounds k x)) Q E s := by
 refine wpAny_updateSeq hT rfl (h _ ?_ (Heap.SameBut.update ..));rw [Heap.get?_update_self _ hT rfl];simp [Obj.mapSeq]
structure At4 (h : Heap) (n l1 l2 l3 l4 : Nat) (xs1 xs2 xs3 xs4 : Array Value) (k : Nat) (f0 : Value) : Prop where
 z : IsZip h (n + 6) (n + 4) (n + 5) f0
 ti : IsQ h (n + 4) (.ref n) (.ref (n + 1)) (.ref (n + 2)) (.ref (n + 3))
 to : ∃ a b c d, IsQ h (n + 5) a b c d
 i1 : h.IsListIter n l1 k
 i2 : h.IsListIter (n + 1) l2 k
 i3 : h.IsListIter (n + 2) l3 k
 i4 : h.IsListIter (n + 3) l4 k
 l1 : h.IsList l1 xs1
 l2 : h.IsList l2 xs2
 l3 : h.IsList l3 xs3
 l4 : h.IsList l4 xs4
theorem zip4_item {n l1 l2 l3 l4 : Nat} {k : Nat} {xs1 xs2 xs3 xs4 : Array Value} {x1 x2 x3 x4 : Value} {Q : Value -> Shared -> Prop} (b1 : l1 < n) (b2 : l2 < n) (b3 : l3 < n) (b4 : l4 < n)
  (a : At4 s.heap n l1 l2 l3 l4 xs1 xs2 xs3 xs4 k .none) (g1 : xs1[k]? = some x1) (g2 : xs2[k]? = some x2) (g3 : xs3[k]? = some x3) (g4 : xs4[k]? = some x4)
  (hQ : ∀ h', At4 h' n l1 l2 l3 l4 xs1 xs2 xs3 xs4 (k + 1) (rawInt s.heap.objs.size) -> IsQ h' s.heap.objs.size x1 x2 x3 x4 -> h'.objs.size = s.heap.objs.size + 1 ->
   (∀ (c : Nat) o, (c < n \/ n + 7 <= c) -> s.heap.get? c = some o -> h'.get? c = some o) -> Q (.ref s.heap.objs.size) { s with heap := h' }) :
  wpAny (model prog w) A (Builtin.«zip.__next__» ⟨[.ref (n + 6)], []⟩) (fun fin s' => ∃ v, fin = .done (.ret v) /\ Q v s') E s := by
 obtain ⟨hz, hTI, ⟨o1, o2, o3, o4, hTO⟩, h1, h2, h3, h4, hl1, hl2, hl3, hl4⟩ := a;show wpAny _ _ (field (.ref (n + 6)) 2 >>= _) _ _ _;refine wpAny_bind (wpAny_field hz rfl (x := .bool false) rfl ?_);show wpAny _ _ (field (.ref (n + 6)) 3 >>= _) _ _ _;refine wpAny_bind (wpAny_field hz rfl (x := .ref (n + 4)) rfl ?_);refine wpAny_bind (wpAny_seqItems hTI rfl ?_);show wpAny _ _ (Builtin.SmallTypes.ownedTupleIsFree (.ref (n + 6)) >>= _) _ _ _;refine wpAny_bind ?_;unfold Builtin.SmallTypes.ownedTupleIsFree;refine wpAny_bind (wpAny_field hz rfl (x := .none) rfl (wpAny_pure ?_));simp only [if_true];refine wpAny_bind (wpAny_rule ?_);refine wpAny_bind (wpAny_field hz rfl (x := .ref (n + 5)) rfl ?_);refine wpAny_bind (wpAny_setField_rec hz (by simp) fun h₁ hz₁ hs₁ => ?_);replace hz₁ : IsZip h₁ (n + 6) (n + 4) (n + 5) .ellipsis := hz₁;refine wpAny_bind ?_;simp only [List.zipIdx_cons, List.zipIdx_nil, List.forIn_cons, List.forIn_nil];have up1 : ∀ (c : Nat) o, c < n + 6 \/ n + 7 <= c -> s.heap.get? c = some o -> h₁.get? c = some o := fun c o hc e => hs₁.extBut _ _ oM e
 -- the first one
 refine wpAny_bind (wpAny_bind (wpAny_onRaise ?_));show wpAny _ _ (Builtin.SmallTypes.nextOf (.ref n) >>= _) _ _ _;refine wpAny_bind (wpAny_nextOf_list_item (h1.at fun o e => up1 _ o oM e) (hl1.at fun o e => up1 _ o oM e) g1 fun h₂ h1₂ hs₂ => wpAny_pure ?_);have hTO₂ : IsQ h₂ (n + 5) o1 o2 o3 o4 := hs₂.extBut _ _ oM (up1 _ _ oM hTO);refine wpAny_bind (wpAny_seqItems hTO₂ rfl ?_);refine wpAny_bind (updQ hTO₂ fun h₃ hTO₃ hs₃ => ?_);replace hTO₃ : IsQ h₃ (n + 5) x1 o2 o3 o4 := hTO₃;refine wpAny_bind (wpAny_letGo (wpAny_pure ?_));have up3 : ∀ (c : Nat) o, c < n \/ (n < c /\ c < n + 5) \/ n + 7 <= c -> s.heap.get? c = some o -> h₃.get? c = some o := fun c o hc e => hs₃.extBut _ _ oM (hs₂.extBut _ _ oM (up1 _ _ oM e))
 have hz₃ : IsZip h₃ (n + 6) (n + 4) (n + 5) .ellipsis := hs₃.extBut _ _ oM (hs₂.extBut _ _ oM hz₁);have h1₃ : h₃.IsListIter n l1 (k + 1) := h1₂.extBut hs₃.extBut oM
 -- the second one
 refine wpAny_bind (wpAny_bind (wpAny_onRaise ?_));show wpAny _ _ (Builtin.SmallTypes.nextOf (.ref (n + 1)) >>= _) _ _ _;refine wpAny_bind (wpAny_nextOf_list_item (h2.at fun o e => up3 _ o oM e) (hl2.at fun o e => up3 _ o oM e) g2 fun h₄ h2₄ hs₄ => wpAny_pure ?_);have hTO₄ : IsQ h₄ (n + 5) x1 o2 o3 o4 := hs₄.extBut _ _ oM hTO₃;refine wpAny_bind (wpAny_seqItems hTO₄ rfl ?_);refine wpAny_bind (updQ hTO₄ fun h₅ hTO₅ hs₅ => ?_);replace hTO₅ : IsQ h₅ (n + 5) x1 x2 o3 o4 := hTO₅;refine wpAny_bind (wpAny_letGo (wpAny_pure ?_));have up5 : ∀ (c : Nat) o, c ≠ n + 1 -> c ≠ n + 5 -> h₃.get? c = some o -> h₅.get? c = some o := fun c o c1 c2 e => hs₅.extBut _ _ c2 (hs₄.extBut _ _ c1 e)
 have hz₅ : IsZip h₅ (n + 6) (n + 4) (n + 5) .ellipsis := up5 _ _ oM oM hz₃;have h1₅ : h₅.IsListIter n l1 (k + 1) := h1₃.at fun o e => up5 _ o oM oM e
 have h2₅ : h₅.IsListIter (n + 1) l2 (k + 1) := h2₄.extBut hs₅.extBut oM
 -- the third one
 refine wpAny_bind (wpAny_bind (wpAny_onRaise ?_));show wpAny _ _ (Builtin.SmallTypes.nextOf (.ref (n + 2)) >>= _) _ _ _;refine wpAny_bind (wpAny_nextOf_list_item (h3.at fun o e => up5 _ o oM oM (up3 _ o oM e)) (hl3.at fun o e => up5 _ o oM oM (up3 _ o oM e)) g3 fun h₆ h3₆ hs₆ => wpAny_pure ?_);have hTO₆ : IsQ h₆ (n + 5) x1 x2 o3 o4 := hs₆.extBut _ _ oM hTO₅;refine wpAny_bind (wpAny_seqItems hTO₆ rfl ?_);refine wpAny_bind (updQ hTO₆ fun h₇ hTO₇ hs₇ => ?_);replace hTO₇ : IsQ h₇ (n + 5) x1 x2 x3 o4 := hTO₇;refine wpAny_bind (wpAny_letGo (wpAny_pure ?_));have up7 : ∀ (c : Nat) o, c ≠ n + 2 -> c ≠ n + 5 -> h₅.get? c = some o -> h₇.get? c = some o := fun c o c1 c2 e => hs₇.extBut _ _ c2 (hs₆.extBut _ _ c1 e)
 have hz₇ : IsZip h₇ (n + 6) (n + 4) (n + 5) .ellipsis := up7 _ _ oM oM hz₅;have h1₇ : h₇.IsListIter n l1 (k + 1) := h1₅.at fun o e => up7 _ o oM oM e
 have h2₇ : h₇.IsListIter (n + 1) l2 (k + 1) := h2₅.at fun o e => up7 _ o oM oM e
 have h3₇ : h₇.IsListIter (n + 2) l3 (k + 1) := h3₆.extBut hs₇.extBut oM
 -- the fourth one
 refine wpAny_bind (wpAny_bind (wpAny_onRaise ?_));show wpAny _ _ (Builtin.SmallTypes.nextOf (.ref (n + 3)) >>= _) _ _ _;refine wpAny_bind (wpAny_nextOf_list_item (h4.at fun o e => up7 _ o oM oM (up5 _ o oM oM (up3 _ o oM e))) (hl4.at fun o e => up7 _ o oM oM (up5 _ o oM oM (up3 _ o oM e))) g4 fun h₈ h4₈ hs₈ => wpAny_pure ?_);have hTO₈ : IsQ h₈ (n + 5) x1 x2 x3 o4 := hs₈.extBut _ _ oM hTO₇;refine wpAny_bind (wpAny_seqItems hTO₈ rfl ?_);refine wpAny_bind (updQ hTO₈ fun h₉ hTO₉ hs₉ => ?_);replace hTO₉ : IsQ h₉ (n + 5) x1 x2 x3 x4 := hTO₉;refine wpAny_bind (wpAny_letGo (wpAny_pure (wpAny_pure ?_)));have up9 : ∀ (c : Nat) o, c ≠ n + 3 -> c ≠ n + 5 -> h₇.get? c = some o -> h₉.get? c = some o := fun c o c1 c2 e => hs₉.extBut _ _ c2 (hs₈.extBut _ _ c1 e)
 have hz₉ : IsZip h₉ (n + 6) (n + 4) (n + 5) .ellipsis := up9 _ _ oM oM hz₇;have hsz : h₉.objs.size = s.heap.objs.size := by rw [hs₉.1, hs₈.1, hs₇.1, hs₆.1, hs₅.1, hs₄.1, hs₃.1, hs₂.1, hs₁.1]
 refine wpAny_bind (wpAny_seqItems hTO₉ rfl ?_);refine wpAny_bind (wpAny_newTuple ?_);have hzlt : n + 6 < h₉.objs.size := Heap.lt_size hz₉;show wpAny _ _ (Builtin.SmallTypes.ownedTupleHandOut (.ref (n + 6)) (.ref h₉.objs.size) >>= _) _ _ _;refine wpAny_bind ?_;unfold Builtin.SmallTypes.ownedTupleHandOut;have hz₁₀ : IsZip (h₉.push { cls := .type "tuple", data := .seq #[x1, x2, x3, x4] }) (n + 6) (n + 4) (n + 5) .ellipsis := Heap.get?_push_of_some _ hz₉;refine wpAny_bind (wpAny_setField_rec hz₁₀ (by simp) fun h₁₁ hz₁₁ hs₁₁ => ?_);replace hz₁₁ : IsZip h₁₁ (n + 6) (n + 4) (n + 5) (rawInt h₉.objs.size) := hz₁₁;refine wpAny_setField_rec hz₁₁ (by simp) fun h₁₂ hz₁₂ hs₁₂ => ?_
 replace hz₁₂ : IsZip h₁₂ (n + 6) (n + 4) (n + 5) (rawInt h₉.objs.size) := hz₁₂;have up : ∀ (c : Nat) o, c ≠ n + 6 -> h₉.get? c = some o -> h₁₂.get? c = some o := fun c o c1 e => hs₁₂.extBut _ _ c1 (hs₁₁.extBut _ _ c1 (Heap.get?_push_of_some _ e))
 have hT₁₂ : IsQ h₁₂ h₉.objs.size x1 x2 x3 x4 := hs₁₂.extBut _ _ (Nat.ne_of_gt hzlt) (hs₁₁.extBut _ _ (Nat.ne_of_gt hzlt) (Heap.get?_push_size _ rfl));have hz12 : h₁₂.objs.size = h₉.objs.size + 1 := by rw [hs₁₂.1, hs₁₁.1, Heap.size_push]
 rw [hsz] at hz₁₂ hT₁₂ hz12;have top : ∀ (c : Nat) o, (c < n \/ c = n + 4 \/ n + 7 <= c) -> s.heap.get? c = some o -> h₁₂.get? c = some o := fun c o hc e =>
  up c o oM (up9 c o oM oM (up7 c o oM oM (up5 c o oM oM (up3 c o oM e))))
 refine wpAny_pure ⟨_, rfl, ?_⟩;show Q (.ref h₉.objs.size) _;rw [hsz];refine hQ h₁₂ ⟨hz₁₂, top _ _ oM hTI, ⟨_, _, _, _, up _ _ oM hTO₉⟩, ?_, ?_, ?_, ?_, hl1.at fun o e => top _ o oM e, hl2.at fun o e => top _ o oM e, hl3.at fun o e => top _ o oM e, hl4.at fun o e => top _ o oM e⟩ hT₁₂ hz12 fun c o hc e => top c o oM e
 ·exact h1₇.at fun o e => up _ o oM (up9 _ o oM oM e)
 ·exact h2₇.at fun o e => up _ o oM (up9 _ o oM oM e)
 ·exact h3₇.at fun o e => up _ o oM (up9 _ o oM oM e)
 ·exact (h4₈.extBut hs₉.extBut oM).at fun o e => up _ o oM e
theorem zip4_end {n l1 l2 l3 l4 : Nat} {k : Nat} {xs1 xs2 xs3 xs4 : Array Value} {Q : Fin -> Shared -> Prop} (hh : A.handled = none) (b1 : l1 < n)
  (a : At4 s.heap n l1 l2 l3 l4 xs1 xs2 xs3 xs4 k .none) (g1 : xs1[k]? = none)
  (hE : ∀ h' e, (∀ (c : Nat) o, (c < n \/ n + 7 <= c) -> s.heap.get? c = some o -> h'.get? c = some o) -> (∃ o, h'.get? e = some o /\ o.cls = .type "StopIteration") -> E (.ref e) { s with heap := h' }) :
  wpAny (model prog w) A (Builtin.«zip.__next__» ⟨[.ref (n + 6)], []⟩) Q E s := by
 obtain ⟨hz, hTI, ⟨o1, o2, o3, o4, hTO⟩, h1, h2, h3, h4, hl1, hl2, hl3, hl4⟩ := a;show wpAny _ _ (field (.ref (n + 6)) 2 >>= _) _ _ _;refine wpAny_bind (wpAny_field hz rfl (x := .bool false) rfl ?_);show wpAny _ _ (field (.ref (n + 6)) 3 >>= _) _ _ _;refine wpAny_bind (wpAny_field hz rfl (x := .ref (n + 4)) rfl ?_);refine wpAny_bind (wpAny_seqItems hTI rfl ?_);show wpAny _ _ (Builtin.SmallTypes.ownedTupleIsFree (.ref (n + 6)) >>= _) _ _ _;refine wpAny_bind ?_;unfold Builtin.SmallTypes.ownedTupleIsFree;refine wpAny_bind (wpAny_field hz rfl (x := .none) rfl (wpAny_pure ?_));simp only [if_true];refine wpAny_bind (wpAny_rule ?_);refine wpAny_bind (wpAny_field hz rfl (x := .ref (n + 5)) rfl ?_);refine wpAny_bind (wpAny_setField_rec hz (by simp) fun h₁ hz₁ hs₁ => ?_);replace hz₁ : IsZip h₁ (n + 6) (n + 4) (n + 5) .ellipsis := hz₁;refine wpAny_bind ?_;simp only [List.zipIdx_cons, List.zipIdx_nil, List.forIn_cons, List.forIn_nil];refine wpAny_bind (wpAny_bind (wpAny_onRaise ?_));show wpAny _ _ (Builtin.SmallTypes.nextOf (.ref n) >>= _) _ _ _;refine wpAny_bind (wpAny_nextOf_list_end hh (h1.extBut hs₁.extBut oM) (hl1.extBut hs₁.extBut oM) g1 fun h₂ e hs₂ he => ?_);obtain ⟨oe, hoe, hce⟩ := he;have hz₂ : IsZip h₂ (n + 6) (n + 4) (n + 5) .ellipsis := hs₂ _ _ oM hz₁;have hez : e ≠ n + 6 := fun x => by subst x; rw [hz₂] at hoe; cases hoe; simp at hce
 exact wpAny_setField_rec hz₂ (by simp) fun h₃ _ hs₃ => hE h₃ e (fun c o hc x => hs₃.extBut _ _ oM (hs₂ _ _ oM (hs₁.extBut _ _ oM x))) ⟨oe, hs₃.extBut _ _ hez hoe, hce⟩
theorem next_zip4 {n l1 l2 l3 l4 : Nat} {k : Nat} {xs1 xs2 xs3 xs4 : Array Value} {x1 x2 x3 x4 : Value} {Q : Option Value -> Shared -> Prop} (b1 : l1 < n) (b2 : l2 < n) (b3 : l3 < n) (b4 : l4 < n)
  (a : At4 s.heap n l1 l2 l3 l4 xs1 xs2 xs3 xs4 k .none) (g1 : xs1[k]? = some x1) (g2 : xs2[k]? = some x2) (g3 : xs3[k]? = some x3) (g4 : xs4[k]? = some x4)
  (hQ : ∀ h', At4 h' n l1 l2 l3 l4 xs1 xs2 xs3 xs4 (k + 1) (rawInt s.heap.objs.size) -> IsQ h' s.heap.objs.size x1 x2 x3 x4 -> h'.objs.size = s.heap.objs.size + 1 ->
   (∀ (c : Nat) o, (c < n \/ n + 7 <= c) -> s.heap.get? c = some o -> h'.get? c = some o) -> Q (some (.ref s.heap.objs.size)) { s with heap := h' }) :
  wpAny (model prog w) A (pyNext (.ref (n + 6))) Q E s := by
 have hT : s.TypeIs (.ref (n + 6)) "zip" := ⟨_, a.z, rfl⟩;unfold pyNext;exact wpAny_bind (wpAny_attempt (wpAny_callSpecial?_slot (name := Str.ofString "__next__") hT F.slot_zip_next
  (wpAny_call_entry F.slot_zip_next hT F.entry_zip_next
   (zip4_item b1 b2 b3 b4 a g1 g2 g3 g4 fun h' a1 a2 a3 a4 => wpAny_pure (hQ h' a1 a2 a3 a4)) (F.args_zip_next_1 _))))
theorem stop_zip4 {n l1 l2 l3 l4 : Nat} {k : Nat} {xs1 xs2 xs3 xs4 : Array Value} {Q : Option Value -> Shared -> Prop} (hh : A.handled = none) (b1 : l1 < n)
  (a : At4 s.heap n l1 l2 l3 l4 xs1 xs2 xs3 xs4 k .none) (g1 : xs1[k]? = none)
  (hQ : ∀ h', (∀ (c : Nat) o, (c < n \/ n + 7 <= c) -> s.heap.get? c = some o -> h'.get? c = some o) -> Q none { s with heap := h' }) : wpAny (model prog w) A (pyNext (.ref (n + 6))) Q E s := by
 have hT : s.TypeIs (.ref (n + 6)) "zip" := ⟨_, a.z, rfl⟩;unfold pyNext;refine wpAny_bind (wpAny_attempt (wpAny_callSpecial?_slot (name := Str.ofString "__next__") hT F.slot_zip_next
  (wpAny_call_entry F.slot_zip_next hT F.entry_zip_next (zip4_end hh b1 a g1 fun h' e hk he => ?_) (F.args_zip_next_1 _))))
 obtain ⟨o, ho, hc⟩ := he;refine wpAny_bind (wpAny_isInstance (T := "StopIteration") (b := true) ⟨o, ho, hc⟩ isSubtype_stop ?_);exact wpAny_pure (hQ _ hk)
end
noncomputable abbrev itO (l : Addr) : Obj := { cls := .type "list_iterator", data := .fields #[.ref l, .int 0 0] }
noncomputable abbrev z4H4 (h : Heap) (l1 l2 l3 l4 : Nat) : Heap := (((h.push (itO l1)).push (itO l2)).push (itO l3)).push (itO l4)
noncomputable abbrev z4H5 (h : Heap) (l1 l2 l3 l4 : Nat) : Heap := (z4H4 h l1 l2 l3 l4).push { cls := .type "tuple", data := .seq #[.ref h.objs.size, .ref (h.push (itO l1)).objs.size, .ref ((h.push (itO l1)).push (itO l2)).objs.size, .ref (((h.push (itO l1)).push (itO l2)).push (itO l3)).objs.size] }
noncomputable abbrev z4H6 (h : Heap) (l1 l2 l3 l4 : Nat) : Heap := (z4H5 h l1 l2 l3 l4).push { cls := .type "tuple", data := .seq #[.none, .none, .none, .none] }
noncomputable abbrev z4H7 (h : Heap) (l1 l2 l3 l4 : Nat) : Heap := (z4H6 h l1 l2 l3 l4).push { cls := .type "zip", data := .fields #[.none, .bool false, .bool false, .ref (z4H4 h l1 l2 l3 l4).objs.size, .ref (z4H5 h l1 l2 l3 l4).objs.size] }
theorem meets_zip4_new (l1 l2 l3 l4 : Nat) (xs1 xs2 xs3 xs4 : Array Value) :
  Meets (Builtin.«zip.__new__» ⟨[.type "zip", .ref l1, .ref l2, .ref l3, .ref l4], []⟩) (fun _ R s => s.heap.IsList l1 xs1 /\ s.heap.IsList l2 xs2 /\ s.heap.IsList l3 xs3 /\ s.heap.IsList l4 xs4 /\
   R (.ok (.ret (.ref (z4H6 s.heap l1 l2 l3 l4).objs.size))) { s with heap := z4H7 s.heap l1 l2 l3 l4 }) :=
 .of_wp fun prog w A R s h => by
  obtain ⟨hp, g, d, tk, os⟩ := s; obtain ⟨hl1, hl2, hl3, hl4, h⟩ := h;have hsub := sub_zip;have hL1 : Heap.IsList (Shared.heap ⟨hp, g, d, tk, os⟩) l1 xs1 := hl1;have hL2 : Heap.IsList (Shared.heap ⟨hp.push { cls := .type "list_iterator", data := .fields #[.ref l1, .int 0 0] }, g, d, tk, os⟩) l2 xs2 := Heap.IsList.push hl2 _;have hL3 : Heap.IsList (Shared.heap ⟨(hp.push { cls := .type "list_iterator", data := .fields #[.ref l1, .int 0 0] }).push { cls := .type "list_iterator", data := .fields #[.ref l2, .int 0 0] }, g, d, tk, os⟩) l3 xs3 := Heap.IsList.push (Heap.IsList.push hl3 _) _;have hL4 : Heap.IsList (Shared.heap ⟨((hp.push { cls := .type "list_iterator", data := .fields #[.ref l1, .int 0 0] }).push { cls := .type "list_iterator", data := .fields #[.ref l2, .int 0 0] }).push { cls := .type "list_iterator", data := .fields #[.ref l3, .int 0 0] }, g, d, tk, os⟩) l4 xs4 := Heap.IsList.push (Heap.IsList.push (Heap.IsList.push hl4 _) _) _
  wp_walk using wpAny_pyIter_list hL1, wpAny_pyIter_list hL2, wpAny_pyIter_list hL3, wpAny_pyIter_list hL4
  exact ⟨_, rfl, h⟩
section
variable {prog : Program} {w : World} {A : Around} {E : Value -> Shared -> Prop} {s : Shared}
theorem call_zip4 {l1 l2 l3 l4 : Nat} {xs1 xs2 xs3 xs4 : Array Value} {Q : Value -> Shared -> Prop} (hl1 : s.heap.IsList l1 xs1) (hl2 : s.heap.IsList l2 xs2) (hl3 : s.heap.IsList l3 xs3) (hl4 : s.heap.IsList l4 xs4)
  (h : ∀ h', At4 h' s.heap.objs.size l1 l2 l3 l4 xs1 xs2 xs3 xs4 0 .none -> (∀ (c : Nat) o, s.heap.get? c = some o -> h'.get? c = some o) -> Q (.ref (s.heap.objs.size + 6)) { s with heap := h' }) :
  wpAny (model prog w) A (call (.type "zip") [.ref l1, .ref l2, .ref l3, .ref l4]) Q E s := by
 refine callType_new F.called_zip dC (F.typeCall_zip_4 _ _ _ _) (F.newCall_zip_4 _ _ _ _) (fun obj => F.args_object_init_5 obj _ _ _ _) F.entry_zip_new
  (meets_zip4_new l1 l2 l3 l4 xs1 xs2 xs3 xs4) ⟨hl1, hl2, hl3, hl4, ?_⟩
 have z1 : (s.heap.push (itO l1)).objs.size = s.heap.objs.size + 1 := Heap.size_push ..;have z2 : ((s.heap.push (itO l1)).push (itO l2)).objs.size = s.heap.objs.size + 2 := by rw [Heap.size_push, z1]
 have z3 : (((s.heap.push (itO l1)).push (itO l2)).push (itO l3)).objs.size = s.heap.objs.size + 3 := by rw [Heap.size_push, z2]
 have z4 : (z4H4 s.heap l1 l2 l3 l4).objs.size = s.heap.objs.size + 4 := by rw [Heap.size_push, z3]
 have z5 : (z4H5 s.heap l1 l2 l3 l4).objs.size = s.heap.objs.size + 5 := by rw [Heap.size_push, z4]
 have z6 : (z4H6 s.heap l1 l2 l3 l4).objs.size = s.heap.objs.size + 6 := by rw [Heap.size_push, z5]
 have p7 : ∀ {c o}, (z4H6 s.heap l1 l2 l3 l4).get? c = some o -> (z4H7 s.heap l1 l2 l3 l4).get? c = some o := fun e => Heap.get?_push_of_some _ e
 have p6 : ∀ {c o}, (z4H5 s.heap l1 l2 l3 l4).get? c = some o -> (z4H7 s.heap l1 l2 l3 l4).get? c = some o := fun e => p7 (Heap.get?_push_of_some _ e)
 have p5 : ∀ {c o}, (z4H4 s.heap l1 l2 l3 l4).get? c = some o -> (z4H7 s.heap l1 l2 l3 l4).get? c = some o := fun e => p6 (Heap.get?_push_of_some _ e)
 have p4 : ∀ {c o}, (((s.heap.push (itO l1)).push (itO l2)).push (itO l3)).get? c = some o -> (z4H7 s.heap l1 l2 l3 l4).get? c = some o := fun e => p5 (Heap.get?_push_of_some _ e)
 have p3 : ∀ {c o}, ((s.heap.push (itO l1)).push (itO l2)).get? c = some o -> (z4H7 s.heap l1 l2 l3 l4).get? c = some o := fun e => p4 (Heap.get?_push_of_some _ e)
 have p2 : ∀ {c o}, (s.heap.push (itO l1)).get? c = some o -> (z4H7 s.heap l1 l2 l3 l4).get? c = some o := fun e => p3 (Heap.get?_push_of_some _ e)
 have p1 : ∀ {c o}, s.heap.get? c = some o -> (z4H7 s.heap l1 l2 l3 l4).get? c = some o := fun e => p2 (Heap.get?_push_of_some _ e)
 have g7 : (z4H7 s.heap l1 l2 l3 l4).get? (z4H6 s.heap l1 l2 l3 l4).objs.size = some _ := Heap.get?_push_size _ rfl;have g6 : (z4H7 s.heap l1 l2 l3 l4).get? (z4H5 s.heap l1 l2 l3 l4).objs.size = some _ := p7 (Heap.get?_push_size _ rfl);have g5 : (z4H7 s.heap l1 l2 l3 l4).get? (z4H4 s.heap l1 l2 l3 l4).objs.size = some _ := p6 (Heap.get?_push_size _ rfl);have g4 : (z4H7 s.heap l1 l2 l3 l4).get? (((s.heap.push (itO l1)).push (itO l2)).push (itO l3)).objs.size = some (itO l4) := p5 (Heap.get?_push_size _ rfl);have g3 : (z4H7 s.heap l1 l2 l3 l4).get? ((s.heap.push (itO l1)).push (itO l2)).objs.size = some (itO l3) := p4 (Heap.get?_push_size _ rfl);have g2 : (z4H7 s.heap l1 l2 l3 l4).get? (s.heap.push (itO l1)).objs.size = some (itO l2) := p3 (Heap.get?_push_size _ rfl);have g1 : (z4H7 s.heap l1 l2 l3 l4).get? s.heap.objs.size = some (itO l1) := p2 (Heap.get?_push_size _ rfl);show _ /\ _;rw [z4, z5, z6] at g7;rw [z5] at g6;rw [z1, z2, z3, z4] at g5;rw [z3] at g4;rw [z2] at g3;rw [z1] at g2;rw [z6];exact ⟨⟨_, g7, rfl⟩, h _ ⟨g7, g5, ⟨_, _, _, _, g6⟩, ⟨_, g1, rfl, rfl⟩, ⟨_, g2, rfl, rfl⟩, ⟨_, g3, rfl, rfl⟩, ⟨_, g4, rfl, rfl⟩, hl1.at fun o e => p1 e, hl2.at fun o e => p1 e, hl3.at fun o e => p1 e, hl4.at fun o e => p1 e⟩ fun c o e => p1 e⟩
end
end PySem
namespace L2
open PySem PySem.Spec PyProof.Rows
noncomputable def Itz4 (K : PySem.W.Frag) (a b c d : Addr) : It :=
 ⟨fun i H => ∃ as bs cs ds x y z w, (SqL K H a as /\ SqL K H b bs /\ SqL K H c cs /\ SqL K H d ds) /\ as[i]? = some x /\ bs[i]? = some y /\ cs[i]? = some z /\ ds[i]? = some w,
  fun i H v H' => ∃ p x y z w, (∀ xs, SqL K H a xs -> xs[i]? = some x) /\ (∀ xs, SqL K H b xs -> xs[i]? = some y) /\ (∀ xs, SqL K H c xs -> xs[i]? = some z) /\ (∀ xs, SqL K H d xs -> xs[i]? = some w) /\ H p = none /\ H' = upd H p (.tup [x, y, z, w]) /\ v = .ref p,
  fun i H => ∃ as bs cs ds, (SqL K H a as /\ SqL K H b bs /\ SqL K H c cs /\ SqL K H d ds) /\ as.length <= i⟩
theorem Inv.turnQ {X : Cx} {pins : List (Addr × Obj)} {O : St} {H : Hp} {s : Shared} {h' : Heap} {ch : List Addr} {v1 v2 v3 v4 : V} {x1 x2 x3 x4 : Value} (I : Inv X pins O H s) (hf : ∀ b ∈ ch, FpOk X pins H b) (r1 : RelV v1 x1) (r2 : RelV v2 x2) (r3 : RelV v3 x3) (r4 : RelV v4 x4)
  (hk : ∀ c o, c ∉ ch -> s.heap.get? c = some o -> h'.get? c = some o) (hT : IsQ h' s.heap.objs.size x1 x2 x3 x4) (hth : ∀ b ∈ ch, ∃ o, h'.get? b = some o) : Inv X pins O (upd H s.heap.objs.size (.tup [v1, v2, v3, v4])) { s with heap := h' } := by
 have hfr : H s.heap.objs.size = none := I.fresh;have nch : ∀ b o, H b = some o -> b ∉ ch := fun b o e hb => by rw [(hf b hb).1] at e; cases e
 have ne : ∀ b o, s.heap.get? b = some o -> b ≠ s.heap.objs.size := fun b o e => Nat.ne_of_lt (Heap.lt_size e)
 refine I.step (g' := s.gens) (d' := s.drawn) (t' := s.toks) (ch := ch) (fun b hb => ⟨(hf b hb).2.2.2.1, (hf b hb).2.1, (hf b hb).2.2.2.2.1, (hf b hb).2.2.2.2.2⟩) (fun b o _ _ hc e _ => hk b o hc e)
  (fun b o _ _ hc e _ => ⟨o.slots, hk b o hc e⟩) (fun b o _ e n => by rw [upd_ne (ne b o e)]; exact n) (fun b o hc e => ⟨o, hk b o hc e⟩) (fun b xs e => by rw [upd_ne (ne_of_none e hfr)]; exact e)
  (fun b o v e => by rw [upd_ne (ne_of_none e hfr)]; exact e) (fun b ps e => ⟨#[], by rw [upd_ne (ne_of_none e hfr), e]; simp⟩) (fun m hm => ?_) (fun b o e => ?_) I.bare
 ·obtain ⟨o, es, ep, ho, r⟩ := hm
  exact ⟨o, es, ep, hk _ o (fun z => (hf _ z).2.1 rfl) ho, r⟩
 ·by_cases hb : b = s.heap.objs.size
  ·subst hb
   rw [upd_same] at e;cases e;refine ⟨by show 4 <= sizeLine; decide, [x1, x2, x3, x4], .cons r1 (.cons r2 (.cons r3 (.cons r4 .nil))), ⟨_, hT, rfl, _, rfl⟩⟩
  ·rw [upd_ne hb] at e
   refine (I.hok b o e).stay (fun c v hc q => hk c v ?_ q) (fun c q => by rw [upd_ne (ne_of_none q hfr)]; exact q) fun c xs q => by rw [upd_ne (ne_of_none q hfr)]; exact q
   rcases hc with rfl | hc
   ·exact nch _ _ e
   ·exact nch _ _ hc
noncomputable def St4 (n a b c d : Nat) (i : Nat) (h : Heap) : Prop := IsZip h (n + 6) (n + 4) (n + 5) .none /\ IsQ h (n + 4) (.ref n) (.ref (n + 1)) (.ref (n + 2)) (.ref (n + 3)) /\ (∃ u v x y, IsQ h (n + 5) u v x y) /\ h.IsListIter n a i /\ h.IsListIter (n + 1) b i /\ h.IsListIter (n + 2) c i /\ h.IsListIter (n + 3) d i
noncomputable def fp4 (n : Nat) : List Addr := [n + 6, n + 4, n + 5, n, n + 1, n + 2, n + 3]
theorem fp4_in {n : Nat} {c : Addr} (h : c ∈ fp4 n) : c = n + 6 \/ c = n + 4 \/ c = n + 5 \/ c = n \/ c = n + 1 \/ c = n + 2 \/ c = n + 3 := by
 unfold fp4 at h;simpa only [List.mem_cons, List.not_mem_nil, or_false] using h
theorem fp4_out {n c : Nat} (h : c ∉ fp4 n) : c < n \/ n + 7 <= c := by
 unfold fp4 at h;simp only [List.mem_cons, List.not_mem_nil, or_false, not_or] at h;obtain ⟨h1, h2, h3, h4, h5, h6, h7⟩ := h;have h1 : ¬ (@Eq Nat c (n + 6)) := h1;have h2 : ¬ (@Eq Nat c (n + 4)) := h2;have h3 : ¬ (@Eq Nat c (n + 5)) := h3;have h4 : ¬ (@Eq Nat c n) := h4;have h5 : ¬ (@Eq Nat c (n + 1)) := h5;have h6 : ¬ (@Eq Nat c (n + 2)) := h6;have h7 : ¬ (@Eq Nat c (n + 3)) := h7;omega
theorem St4.obj {n a b c d i : Nat} {h : Heap} (st : St4 n a b c d i h) : ∀ x ∈ fp4 n, ∃ o, h.get? x = some o /\ ∀ v, o.data ≠ .cell v := by
 obtain ⟨hz, hTI, ⟨u, v, x, y, hTO⟩, ⟨o1, e1, c1, d1⟩, ⟨o2, e2, c2, d2⟩, ⟨o3, e3, c3, d3⟩, ⟨o4, e4, c4, d4⟩⟩ := st;intro x hx;rcases fp4_in hx with rfl | rfl | rfl | rfl | rfl | rfl | rfl
 ·exact ⟨_, hz, fun v z => nomatch z⟩
 ·exact ⟨_, hTI, fun v z => nomatch z⟩
 ·exact ⟨_, hTO, fun v z => nomatch z⟩
 ·exact ⟨_, e1, fun v z => by rw [d1] at z; cases z⟩
 ·exact ⟨_, e2, fun v z => by rw [d2] at z; cases z⟩
 ·exact ⟨_, e3, fun v z => by rw [d3] at z; cases z⟩
 ·exact ⟨_, e4, fun v z => by rw [d4] at z; cases z⟩
theorem St4.keep {n a b c d i : Nat} {h h' : Heap} (st : St4 n a b c d i h) (k : ∀ x ∈ fp4 n, ∀ o, h.get? x = some o -> h'.get? x = some o) : St4 n a b c d i h' := by
 obtain ⟨hz, hTI, ⟨u, v, x, y, hTO⟩, h1, h2, h3, h4⟩ := st;exact ⟨k _ (by simp [fp4]) _ hz, k _ (by simp [fp4]) _ hTI, ⟨u, v, x, y, k _ (by simp [fp4]) _ hTO⟩, h1.at fun o e => k _ (by simp [fp4]) o e, h2.at fun o e => k _ (by simp [fp4]) o e, h3.at fun o e => k _ (by simp [fp4]) o e, h4.at fun o e => k _ (by simp [fp4]) o e⟩
theorem turn_zip4 {P : Program} {w : World} {K : PySem.W.Frag} {elts : List Expr} {x1 : Nat} {tpos : Pos} (n a b c d : Nat) (b1 : a < n) (b2 : b < n) (b3 : c < n) (b4 : d < n) :
  Turn P w K (.Tuple elts x1 tpos) (Itz4 K a b c d) (fp4 n) (n + 6) (St4 n a b c d) where
 mem := by simp [fp4]
 obj := fun i h st c hc => st.obj c hc
 keep := fun i h h' st k => st.keep k
 item := by
  intro X hP hw hK hc i pins s O H E I hf st hgo;obtain ⟨hz, hTI, ⟨ua, ub, uc, ud, hTO⟩, h1, h2, h3, h4⟩ := id st;obtain ⟨as, bs, cs, ds, x, y, z, v, ⟨hq1, hq2, hq3, hq4⟩, hx, hy, hz', hv⟩ := hgo;subst hP hw hK;obtain ⟨its1, rv1, p1, _⟩ := I.list hq1;obtain ⟨its2, rv2, p2, _⟩ := I.list hq2;obtain ⟨its3, rv3, p3, _⟩ := I.list hq3;obtain ⟨its4, rv4, p4, _⟩ := I.list hq4;obtain ⟨u1, hu1, ru1⟩ := rv1.get hx;obtain ⟨u2, hu2, ru2⟩ := rv2.get hy;obtain ⟨u3, hu3, ru3⟩ := rv3.get hz';obtain ⟨u4, hu4, ru4⟩ := rv4.get hv;refine next_zip4 b1 b2 b3 b4 ⟨hz, hTI, ⟨_, _, _, _, hTO⟩, h1, h2, h3, h4, p1.isList, p2.isList, p3.isList, p4.isList⟩ (x1 := u1) (x2 := u2) (x3 := u3) (x4 := u4) (by simpa using hu1) (by simpa using hu2) (by simpa using hu3) (by simpa using hu4) fun h' a1 a5 a6 hk => ?_
  have hk' : ∀ c o, c ∉ fp4 n -> s.heap.get? c = some o -> h'.get? c = some o := fun c o hc e => hk c o (fp4_out hc) e
  have hth : ∀ c ∈ fp4 n, ∃ o, h'.get? c = some o := fun c hc => by
   obtain ⟨o1, e1, _⟩ := a1.i1;obtain ⟨o2, e2, _⟩ := a1.i2;obtain ⟨o3, e3, _⟩ := a1.i3;obtain ⟨o4, e4, _⟩ := a1.i4;obtain ⟨_, _, _, _, e5⟩ := a1.to;rcases fp4_in hc with rfl | rfl | rfl | rfl | rfl | rfl | rfl
   ·exact ⟨_, a1.z⟩
   ·exact ⟨_, a1.ti⟩
   ·exact ⟨_, e5⟩
   ·exact ⟨_, e1⟩
   ·exact ⟨_, e2⟩
   ·exact ⟨_, e3⟩
   ·exact ⟨_, e4⟩
  have I1 : Inv X pins O (upd H s.heap.objs.size (.tup [x, y, z, v])) { s with heap := h' } := I.turnQ hf ru1 ru2 ru3 ru4 hk' a5 hth;have hfr : H s.heap.objs.size = none := I.fresh;refine ⟨_, rfl, wpAny_letOwnedTupleGo_zip (s := { s with heap := h' }) a1.z fun h'' z1 sb => ?_⟩;have hf5 : ∀ c ∈ fp4 n, (upd H s.heap.objs.size (.tup [x, y, z, v])) c = none := fun c hc => by
   obtain ⟨o, e, _⟩ := st.obj c hc;rw [upd_ne (Nat.ne_of_lt (Heap.lt_size e))]; exact (hf c hc).1
  have I2 : Inv X pins O (upd H s.heap.objs.size (.tup [x, y, z, v])) { s with heap := h'' } := Inv.turnN (s := { s with heap := h' }) (ch := [n + 6]) I1 (fun c hc => by
   have : c = n + 6 := by simpa using hc
   subst this;exact ⟨hf5 _ (by simp [fp4]), (hf _ (by simp [fp4])).2⟩) (fun c o hc e => (sb.2 c (fun q => hc (by simp [q]))).trans e)
  refine ⟨.ref s.heap.objs.size, _, I2, rfl, ⟨_, x, y, z, v, fun zs hzs => by rw [I.list_inj hzs hq1]; exact hx, fun zs hzs => by rw [I.list_inj hzs hq2]; exact hy, fun zs hzs => by rw [I.list_inj hzs hq3]; exact hz', fun zs hzs => by rw [I.list_inj hzs hq4]; exact hv, hfr, rfl, rfl⟩, ?_, hf5⟩;obtain ⟨_, _, _, _, e5⟩ := a1.to;refine ⟨z1, (sb.2 _ oM).trans a1.ti, ⟨_, _, _, _, (sb.2 _ oM).trans e5⟩, ?_, ?_, ?_, ?_⟩
  ·exact a1.i1.at fun o e => (sb.2 _ oM).trans e
  ·exact a1.i2.at fun o e => (sb.2 _ oM).trans e
  ·exact a1.i3.at fun o e => (sb.2 _ oM).trans e
  ·exact a1.i4.at fun o e => (sb.2 _ oM).trans e
 done := by
  intro X hP hw hK hc i pins s O H E I hf st hend;obtain ⟨hz, hTI, ⟨ua, ub, uc, ud, hTO⟩, h1, h2, h3, h4⟩ := st;obtain ⟨as, bs, cs, ds, ⟨hq1, hq2, hq3, hq4⟩, hend⟩ := hend;subst hP hw hK;obtain ⟨its1, rv1, p1, _⟩ := I.list hq1;obtain ⟨its2, rv2, p2, _⟩ := I.list hq2;obtain ⟨its3, rv3, p3, _⟩ := I.list hq3;obtain ⟨its4, rv4, p4, _⟩ := I.list hq4;have hl1 := rv1.length;refine stop_zip4 (I.ok.hd hc) b1 ⟨hz, hTI, ⟨_, _, _, _, hTO⟩, h1, h2, h3, h4, p1.isList, p2.isList, p3.isList, p4.isList⟩ (by simp; omega) fun h' hk => ⟨rfl, ?_⟩
  exact I.turnN hf fun c o hc e => hk c o (fp4_out hc) e
 self := fun _ _ _ _ _ st h => wpAny_pyIter_zip st.1 h
noncomputable def iZip4 (K : PySem.W.Frag) (ta : TA) : TI := fun O H R => ta O H fun vs H1 => ∃ a b c d, vs = [.ref a, .ref b, .ref c, .ref d] /\ ((∃ xs, SqL K H1 a xs) /\ (∃ xs, SqL K H1 b xs) /\ (∃ xs, SqL K H1 c xs) /\ (∃ xs, SqL K H1 d xs)) /\ R (Itz4 K a b c d) H1
theorem pi_zip4 {X : Cx} {elts : List Expr} {x1 : Nat} {tpos : Pos} {a b c d : Expr} {ta : TA} {p pos : Pos} (hg : Gl X "zip") (hm : X.mg "zip" = none) (ha : PA X [a, b, c, d] ta) (hs : autoParam (starEach [a, b, c, d] X.env = [(false, eval a X.env), (false, eval b X.env), (false, eval c X.env), (false, eval d X.env)]) Ax4._auto_1) (hs2 : autoParam (starEach [b, c, d] X.env = [(false, eval b X.env), (false, eval c X.env), (false, eval d X.env)]) Ax4._auto_1) :
  PI X (.Tuple elts x1 tpos) (.Call (.Name "zip" p) [a, b, c, d] [] pos) (iZip4 X.K ta) := by
 intro pins s O H R I h;refine Call_ (ld_blt I hg hm boot_zip (PyProof.Rows.callWith_type1 (thn (ha pos pins s O H _ I h) fun us s1 hq0 => ?_) (by rw [hs, hs2]) (by rw [hs2]; rfl)));obtain ⟨vs, H1, I1, r1, l1, l2, l3, l4, e, ⟨⟨xs, hq1⟩, ⟨ys, hq2⟩, ⟨zs, hq3⟩, ⟨ws, hq4⟩⟩, q⟩ := hq0;subst e;cases r1 with
 | cons r rr => cases rr with
  | cons r' rr => cases rr with
   | cons r'' rr => cases rr with
    | cons r3 rr =>
     cases rr;cases r;cases r';cases r'';cases r3;obtain ⟨its1, rv1, p1, _⟩ := I1.list hq1;obtain ⟨its2, rv2, p2, _⟩ := I1.list hq2;obtain ⟨its3, rv3, p3, _⟩ := I1.list hq3;obtain ⟨its4, rv4, p4, _⟩ := I1.list hq4;have lt : ∀ {l : Addr} {x : Array Value}, s1.heap.IsList l x -> l < s1.heap.objs.size := fun h => by obtain ⟨_, e, _⟩ := h; exact Heap.lt_size e
     refine call_zip4 p1.isList p2.isList p3.isList p4.isList fun h' a4 hk => ?_
     have I2 : Inv X pins O H1 { s1 with heap := h' } := I1.kept (t' := s1.toks) hk;refine wpAny_pyIter_zip (s := { s1 with heap := h' }) a4.z ?_;refine ⟨_, fp4 s1.heap.objs.size, _, _, H1, rfl, I2, turn_zip4 s1.heap.objs.size l1 l2 l3 l4 (lt p1.isList) (lt p2.isList) (lt p3.isList) (lt p4.isList), ⟨a4.z, a4.ti, a4.to, a4.i1, a4.i2, a4.i3, a4.i4⟩, fun c hc => ?_, q⟩;have hle : s1.heap.objs.size <= c := by
      rcases fp4_in hc with rfl | rfl | rfl | rfl | rfl | rfl | rfl
      ·exact Nat.le_add_right _ _
      ·exact Nat.le_add_right _ _
      ·exact Nat.le_add_right _ _
      ·exact Nat.le_refl _
      ·exact Nat.le_add_right _ _
      ·exact Nat.le_add_right _ _
      ·exact Nat.le_add_right _ _
     obtain ⟨f0, f1, f2, f3, f4, f5⟩ := I1.fpOk hle (I1.hok.fresh hle);exact ⟨f0, f1, f2, f3, f4, f5⟩
end L2
namespace DD
open PySem PySem.Spec PyProof.Rows L2
noncomputable def zip4D (xs ys zs ws : List D) : List D := ((xs.zip ys).zip (zs.zip ws)).map fun z => .tup [z.1.1, z.1.2, z.2.1, z.2.2]
noncomputable def iZip4D (a b c d : DE) : DI := fun O => (a O).bind fun p => (b p.2).bind fun q => (c q.2).bind fun r => (d r.2).bind fun t => match p.1, q.1, r.1, t.1 with
 | .lst _ xs, .lst _ ys, .lst _ zs, .lst _ ws => if decide (xs.length = ys.length /\ xs.length = zs.length /\ xs.length = ws.length) = true then some (zip4D (D.fzL xs) (D.fzL ys) (D.fzL zs) (D.fzL ws), t.2) else none
 | _, _, _, _ => none
theorem kid0 {K : PySem.W.Frag} {F : Addr -> Prop} {H : Hp} {xs : List D} {vs : List V} {j : Nat} {x : D} (ol : OwL K F H xs vs []) (hx : xs[j]? = some x) : ∃ u, vs[j]? = some u /\ Ow K F H x u [] := by
 obtain ⟨u, La, Lx, Lb, e1, eL, o1, _⟩ := ol.kid hx;have eLx : Lx = [] := (List.append_eq_nil_iff.mp (List.append_eq_nil_iff.mp eL.symm).1).2;subst eLx;exact ⟨u, e1, o1⟩
theorem fzL_len : ∀ xs : List D, (D.fzL xs).length = xs.length := by
 intro xs
 induction xs with
 | nil => rfl
 | cons x xs ih => simp only [D.fzL, List.length_cons, ih]
theorem itd_zip4 {K : PySem.W.Frag} {F : Addr -> Prop} {H : Hp} {xs ys zs ws : List D} {a b c d : Addr} {v1 v2 v3 v4 : List V} (f1 : FL K F H a v1) (o1 : OwL K F H xs v1 []) (f2 : FL K F H b v2) (o2 : OwL K F H ys v2 []) (f3 : FL K F H c v3) (o3 : OwL K F H zs v3 []) (f4 : FL K F H d v4) (o4 : OwL K F H ws v4 []) (h1 : xs.length = ys.length) (h2 : xs.length = zs.length) (h3 : xs.length = ws.length) :
  ItD K (Itz4 K a b c d) (zip4D xs ys zs ws) F H where
 item := fun i d F1 H1 x1 dm e => by
  unfold zip4D at e;rw [List.getElem?_map] at e;rcases hz : ((xs.zip ys).zip (zs.zip ws))[i]? with _ | ⟨⟨x, y⟩, ⟨z, w⟩⟩
  ·rw [hz] at e; cases e
  ·rw [hz] at e; cases e
   obtain ⟨hxy, hzw⟩ := List.getElem?_zip_eq_some.mp hz;obtain ⟨hx, hy⟩ := List.getElem?_zip_eq_some.mp hxy;obtain ⟨hz', hw⟩ := List.getElem?_zip_eq_some.mp hzw;obtain ⟨u1, e1, k1⟩ := kid0 o1 hx;obtain ⟨u2, e2, k2⟩ := kid0 o2 hy;obtain ⟨u3, e3, k3⟩ := kid0 o3 hz';obtain ⟨u4, e4, k4⟩ := kid0 o4 hw;refine ⟨⟨v1, v2, v3, v4, u1, u2, u3, u4, ⟨(f1.ext x1).sq, (f2.ext x1).sq, (f3.ext x1).sq, (f4.ext x1).sq⟩, e1, e2, e3, e4⟩, fun v H2 hq => ?_⟩;obtain ⟨p, q1, q2, q3, q4, g1, g2, g3, g4, hp, hH, hv⟩ := hq;subst hH hv;have g1' := g1 v1 (f1.ext x1).sq;rw [e1] at g1'; cases g1';have g2' := g2 v2 (f2.ext x1).sq;rw [e2] at g2'; cases g2';have g3' := g3 v3 (f3.ext x1).sq;rw [e3] at g3'; cases g3';have g4' := g4 v4 (f4.ext x1).sq;rw [e4] at g4'; cases g4';have gr := grow_tup (us := [u1, u2, u3, u4]) dm hp;refine ⟨_, gr, ?_⟩;simp only [Ow, OwL];have up : ∀ {d u}, Ow K F H d u [] -> Ow K (fun c => F1 c \/ c = p) (upd H1 p (.tup [u1, u2, u3, u4])) d u [] := fun k => (k.mono x1 (fun a ha => by cases ha)).mono gr.x (fun a ha => by cases ha)
   exact ⟨p, [u1, u2, u3, u4], rfl, .inl ⟨.inr rfl, upd_same⟩, u1, _, [], [], rfl, up k1, ⟨u2, _, [], [], rfl, up k2, ⟨u3, _, [], [], rfl, up k3, ⟨u4, [], [], [], rfl, up k4, ⟨rfl, rfl⟩, rfl⟩, rfl⟩, rfl⟩, rfl⟩
 done := fun F1 H1 x1 => ⟨v1, v2, v3, v4, ⟨(f1.ext x1).sq, (f2.ext x1).sq, (f3.ext x1).sq, (f4.ext x1).sq⟩, by
  have := o1.length
  unfold zip4D;simp only [List.length_map, List.length_zip];omega⟩
section
variable {X : Cx} {a b c d : Expr} {ca cb cc cd : DE} {p1 pos1 : Pos} {elts : List Expr} {x1 : Nat} {tpos : Pos}
theorem qi_zip4 (hgl : Gl X "zip") (hm : X.mg "zip" = none) (ha : QE X a ca) (hb : QE X b cb) (hc : QE X c cc) (hd : QE X d cd) (hs : autoParam (starEach [a, b, c, d] X.env = [(false, eval a X.env), (false, eval b X.env), (false, eval c X.env), (false, eval d X.env)]) Ax4._auto_1) (hs2 : autoParam (starEach [b, c, d] X.env = [(false, eval b X.env), (false, eval c X.env), (false, eval d X.env)]) Ax4._auto_1) (hs3 : autoParam (starEach [c, d] X.env = [(false, eval c X.env), (false, eval d X.env)]) Ax4._auto_1) (hs4 : autoParam (starEach [d] X.env = [(false, eval d X.env)]) Ax4._auto_1) :
  QI X (.Tuple elts x1 tpos) (.Call (.Name "zip" p1) [a, b, c, d] [] pos1) (iZip4D ca cb cc cd) := PI_imp (pi_zip4 hgl hm (pa_cons ha (pa_cons hb (pa_cons hc (pa_cons hd pa_nil hs4) (by rw [hs3, hs4])) (by rw [hs2, hs3])) (by rw [hs, hs2])) hs hs2) fun O H R hq0 => by
 obtain ⟨F, Ro, OD, xs, OD', r, ec, k⟩ := hq0;unfold iZip4D at ec;rcases h1 : ca OD with _ | ⟨x, O1⟩
 ·rw [h1] at ec; cases ec
 ·rw [h1] at ec; simp only [bind_some] at ec
  rcases h2 : cb O1 with _ | ⟨y, O2⟩
  ·rw [h2] at ec; cases ec
  ·rw [h2] at ec; simp only [bind_some] at ec
   rcases h3 : cc O2 with _ | ⟨z, O3⟩
   ·rw [h3] at ec; cases ec
   ·rw [h3] at ec; simp only [bind_some] at ec
    rcases h4 : cd O3 with _ | ⟨w, O4⟩
    ·rw [h4] at ec; cases ec
    ·rw [h4] at ec; simp only [bind_some] at ec
     split at ec
     ·split at ec
      ·rename_i hl
       simp only [decide_eq_true_eq] at hl;cases ec;refine ⟨F, Ro, OD, _, O1, r, h1, fun F1 H1 v x1 r1 => ?_⟩;refine ⟨F1, _, O1, _, _, r1, h2, fun F2 H2 u x2 r2 => ?_⟩;refine ⟨F2, _, O2, _, _, r2, h3, fun F3 H3 v' x3 r3 => ?_⟩;refine ⟨F3, _, O3, _, _, r3, h4, fun F4 H4 u' x4 r4 => ?_⟩;obtain ⟨F5, x5, r5, o5⟩ := r4.freeze;obtain ⟨F6, x6, r6, o6⟩ := (r5.pop).freeze;obtain ⟨F7, x7, r7, o7⟩ := (r6.pop).freeze;obtain ⟨F8, x8, r8, o8⟩ := (r7.pop).freeze;have o7' := o7.mono x8 (fun a ha => by cases ha);have o6' := (o6.mono x7 (fun a ha => by cases ha)).mono x8 (fun a ha => by cases ha);have o5' := ((o5.mono x6 (fun a ha => by cases ha)).mono x7 (fun a ha => by cases ha)).mono x8 (fun a ha => by cases ha);simp only [D.fz, Ow] at o5' o6' o7' o8;obtain ⟨a1, vs1, rfl, fl1, ol1, _⟩ := o8;obtain ⟨a2, vs2, rfl, fl2, ol2, _⟩ := o7';obtain ⟨a3, vs3, rfl, fl3, ol3, _⟩ := o6';obtain ⟨a4, vs4, rfl, fl4, ol4, _⟩ := o5';exact ⟨a1, a2, a3, a4, rfl, ⟨⟨vs1, fl1.sq⟩, ⟨vs2, fl2.sq⟩, ⟨vs3, fl3.sq⟩, ⟨vs4, fl4.sq⟩⟩, k F8 H4 _ (((x1.trans x2).trans (x3.trans x4)).trans ((x5.trans x6).trans (x7.trans x8))) r8.pop (itd_zip4 fl1 ol1 fl2 ol2 fl3 ol3 fl4 ol4 (by rw [fzL_len, fzL_len]; exact hl.1) (by rw [fzL_len, fzL_len]; exact hl.2.1) (by rw [fzL_len, fzL_len]; exact hl.2.2))⟩
      ·cases ec
     ·cases ec
end
end DD
namespace PySem.AutoSeq1
theorem extend_any (l : Addr) (items : Array Value) (n : Nat) (b : Addr) (items2 : Array Value) (n2 : Nat) (sl : Array (Option Value)) (hc0 : ¬(!items.isEmpty && Builtin.List.listTooLong (items.size + items2.size)) = true) (hc1 : items.size <= sizeLine) (hs2 : items.size + items2.size <= sizeLine + 1) :
  Meets (Builtin.«list.extend» ⟨[.ref l, .ref b], []⟩) (fun _ R s => s.heap.get? l = some { cls := .type "list", dict := none, data := .seq items n, slots := #[] } /\ s.heap.get? b = some { cls := .type "list", dict := none, data := .seq items2 n2, slots := sl } /\ R (.ok (.ret Value.none)) { s with heap := s.heap.update l (Obj.mapSeq fun x => x ++ items2), toks := s.toks }) :=
 .of_wp fun prog w A R s h => by
  obtain ⟨hp, g, d, tk, os⟩ := s; obtain ⟨hl, hb, h⟩ := h; have f1 := idx_int; have f2 := sub_tuple_tuple; have f3 := sub_list_list; have f4 := sub_tuple_list; have f5 := sub_list_tuple;have hz' : (items ++ items2).size <= sizeLine + 1 := by rw [Array.size_append]; exact hs2
  wp_walk using (wpAny_updateSeq hl rfl (hz := hc1) (_hz' := hz')), wpAny_loadPart' hl, wpAny_loadPart' hb; exact ⟨_, rfl, h⟩
end PySem.AutoSeq1
namespace L2
open PySem PySem.Spec PyProof.Rows
section
variable {X : Cx}
noncomputable def rExtF (K : PySem.W.Frag) : V -> List V -> Hp -> VK -> Prop := fun x vs H Q => ∃ l b xs zs, x = .ref l /\ vs = [.ref b] /\ H l = some (.lst xs) /\ SqL K H b zs /\ xs.length + zs.length <= sizeLine /\ Q .non (upd H l (.lst (xs ++ zs)))
theorem mt_extF : MtM X "list.extend" (rExtF X.K) := by
 intro pins s O H x vs v us Q I rx rv h;obtain ⟨l, b, xs, zs, rfl, rfl, hH, hB, hz, q⟩ := h;cases rx;obtain ⟨u, rfl, ru⟩ := rv.one;cases ru;obtain ⟨z, its, n, r, hl, e⟩ := I.lstM hH;obtain ⟨its2, r2, pl, hz2⟩ := I.list hB;obtain ⟨o, n2, e2, c2, d2, s2⟩ := pl;obtain ⟨oc, od, odt, osl⟩ := o;dsimp only at c2 d2 s2;subst c2; subst d2; subst s2;have hl2 := r2.length;have hsz : its.toArray.size + its2.toArray.size <= sizeLine := by rw [List.size_toArray, List.size_toArray]; omega
 have hlong : ¬ (!its.toArray.isEmpty && Builtin.List.listTooLong (its.toArray.size + its2.toArray.size)) = true := by
  rw [notLongL hsz, Bool.and_false];exact Bool.false_ne_true
 refine call_meets F.slot_list_extend ⟨_, e, rfl⟩ F.entry_list_extend (F.args_list_extend_2 _ _)
  (PySem.AutoSeq1.extend_any l its.toArray n b its2.toArray n2 osl hlong (by rw [List.size_toArray]; omega) oM) ⟨e, e2, ?_⟩
 refine ⟨.non, _, I.lset (its' := its ++ its2) hH e (by simp) (r.append r2) ?_, rfl, q⟩;rw [List.length_append];omega
end
end L2
namespace DD
open PySem PySem.Spec PyProof.Rows L2
noncomputable def dExtF (i : Nat) (c : DE) : DE := fun O => match dget O i with
 | some (.lst _ _) => (c O).bind fun p => match p.1, dget p.2 i with
  | .lst _ ys, some (.lst true xs) => if xs.length + ys.length <= sizeLine then some (.non, p.2.set i (some (.lst true (xs ++ D.fzL ys)))) else none
  | _, _ => none
 | _ => none
section
variable {X : Cx} {e : Expr} {c : DE} {apos cpos : Pos}
theorem qe_extF (i : Nat) {x : Str} {npos : Pos} (he : QE X e c) (hN : autoParam (X.N[i]? = some x) Ax4._auto_1) (hv : autoParam (Vis X.env.scope x) Ax7._auto_1) (hd : autoParam ((x == ("__debug__" : Str)) = false) Ax1._auto_1)
  (hcd : autoParam ((x == ("__classdict__" : Str)) = false) Ax1._auto_1) (hbase : autoParam (attributeBase (.Name x npos) "extend" X.env (eval (.Name x npos) X.env) = eval (.Name x npos) X.env) Ax4._auto_1) (hfew : autoParam (((backTo cpos (starEach [e] X.env)).all (fun x => !x.1) && (backToKw cpos (keywordEach [] X.env)).all (fun x => x.1.isSome)
   && decide (([e] : List Expr).length + ([] : List Keyword).length + (if ([] : List Keyword).isEmpty then 0 else 1) < 30)) = true) Ax4._auto_1) (hline : autoParam ((apos.endLine == cpos.line) = true) Ax4._auto_1)
  (hst : autoParam (starEach [e] X.env = (false, eval e X.env) :: starEach [] X.env) Ax4._auto_1) : QE X (.Call (.Attribute (.Name x npos) "extend" apos) [e] [] cpos) (dExtF i c) :=
 PE_imp (pe_bm PySem.F.plainAttrs_list PySem.F.slot_list_extend PySem.F.type_list_extend mt_extF (pe_var hN hv hd hcd) (pa_cons he pa_nil hst) hbase hfew hline hst rfl) fun O H Q hq0 => by
  obtain ⟨F, R, OD, d, OD', r, ec, k⟩ := hq0;unfold dExtF at ec;split at ec
  ·rename_i own ys0 h0
   obtain ⟨v0, hv0, b0⟩ := r.get (dget_some h0);obtain ⟨a0, vs0, rfl, sq0, _⟩ := b0.lst;rcases h1 : c OD with _ | ⟨y, O1⟩
   ·rw [h1] at ec; cases ec
   ·rw [h1] at ec; simp only [bind_some] at ec
    split at ec
    ·rename_i _ _ ow ys xs h2
     split at ec
     ·rename_i hz
      cases ec;refine ⟨_, hv0, .inl ⟨rfl, vs0, sq0⟩, F, R, OD, _, O1, r, h1, fun F1 H1 v x1 r1 => ?_⟩;obtain ⟨F2, x2, rf, of⟩ := r1.freeze;simp only [D.fz, Ow] at of;obtain ⟨b, zs, rfl, fl, ol, _⟩ := of;have hlb := ol.length;have hlf := fzL_len ys;have r1' := Rel.pushL ol rf.pop;obtain ⟨v1, hv1, r2⟩ := r1'.take (dget_some h2);rw [hv0] at hv1; cases hv1;obtain ⟨l, vs, lc, hl, hlen, upd'⟩ := Rel.listAt (S := (D.fzL ys).zip zs) (js := []) (xs := xs) r2 rfl;cases lc;obtain ⟨r3, x3⟩ := upd' (xs ++ D.fzL ys) (vs ++ zs) [] (by rw [List.zip_append hlen]; simp) (by simp [hlen, hlb]);refine ⟨_, b, vs, zs, rfl, rfl, hl, fl.sq, by omega, ?_⟩;have r4 := (Rel.put (R := R) r3 hv0);rw [List.set_set] at r4;exact k F2 _ .non ((x1.trans x2).trans x3) (r4.scal rfl)
     ·cases ec
    ·cases ec
  ·cases ec
end
end DD
namespace TT
open PySem L2 DD
noncomputable abbrev Rl (α : Type) := α -> D -> Prop
structure Sl (S : Type) where
 {α : Type}
 get : S -> α
 r : Rl α
noncomputable abbrev Shp (S : Type) := List (Option (Sl S))
section
variable {S : Type} {α β γ δ ρ : Type}
noncomputable def On : Option (Sl S) -> S -> Option D -> Prop
 | none, _, _ => True
 | some l, s, o => ∃ d, o = some d /\ l.r (l.get s) d
noncomputable def Sat : Shp S -> S -> DSt -> Prop
 | [], _, [] => True
 | a :: Z, s, x :: O => On a s x /\ Sat Z s O
 | _, _, _ => False
theorem Sat.len {s : S} : ∀ {Z : Shp S} {O : DSt}, Sat Z s O -> O.length = Z.length := by
 intro Z
 induction Z with
 | nil =>
  intro O h;cases O with
  | nil => rfl
  | cons _ _ => exact h.elim
 | cons a Z ih =>
  intro O h;cases O with
  | nil => exact h.elim
  | cons x O => simp [ih h.2]
theorem Sat.get {s : S} {l : Sl S} : ∀ {Z : Shp S} {O : DSt} {i : Nat}, Sat Z s O -> Z[i]? = some (some l) -> ∃ d, dget O i = some d /\ l.r (l.get s) d := by
 intro Z
 induction Z with
 | nil => intro O i _ e; simp at e
 | cons a Z ih =>
  intro O i h e;cases O with
  | nil => exact h.elim
  | cons x O =>
   cases i with
   | zero =>
    simp at e; subst e;obtain ⟨d, e1, hd⟩ := h.1;subst e1;exact ⟨d, rfl, hd⟩
   | succ i =>
    obtain ⟨d, h1, h2⟩ := ih (i := i) h.2 (by simpa using e);exact ⟨d, by simpa [dget] using h1, h2⟩
theorem Sat.set {s : S} {l : Option (Sl S)} {o : Option D} : ∀ {Z : Shp S} {O : DSt} {i : Nat}, Sat Z s O -> On l s o -> Sat (Z.set i l) s (O.set i o) := by
 intro Z
 induction Z with
 | nil =>
  intro O i h k;cases O with
  | nil => exact h
  | cons _ _ => exact h.elim
 | cons a Z ih =>
  intro O i h k;cases O with
  | nil => exact h.elim
  | cons x O =>
   cases i with
   | zero => exact ⟨k, h.2⟩
   | succ i => exact ⟨h.1, ih h.2 k⟩
theorem Sat.setn {Z : Shp S} {s : S} {O : DSt} {i : Nat} {o : Option D} (h : Sat Z s O) : Sat (Z.set i none) s (O.set i o) := h.set trivial
theorem On.setn {s : S} : ∀ {Z : Shp S} {O : DSt} {i : Nat}, Sat Z s O -> Sat (Z.set i none) s O := by
 intro Z
 induction Z with
 | nil => intro O i h; exact h
 | cons a Z ih =>
  intro O i h;cases O with
  | nil => exact h.elim
  | cons x O =>
   cases i with
   | zero => exact ⟨trivial, h.2⟩
   | succ i => exact ⟨h.1, ih h.2⟩
inductive Fr (u : S -> S) : Shp S -> Prop
 | nil : Fr u []
 | non {Z} : Fr u Z -> Fr u (none :: Z)
 | som {l : Sl S} {Z} : (∀ s d, l.r (l.get s) d -> l.r (l.get (u s)) d) -> Fr u Z -> Fr u (some l :: Z)
theorem Fr.sat {u : S -> S} {s : S} : ∀ {Z : Shp S} {O : DSt}, Fr u Z -> Sat Z s O -> Sat Z (u s) O := by
 intro Z O l
 induction l generalizing O with
 | nil => intro h; cases O <;> exact h
 | non l ih =>
  intro h;cases O with
  | nil => exact h.elim
  | cons x O => exact ⟨trivial, ih h.2⟩
 | som f1 l ih =>
  intro h;cases O with
  | nil => exact h.elim
  | cons x O =>
   obtain ⟨d, e, hd⟩ := h.1;exact ⟨⟨d, e, f1 s d hd⟩, ih h.2⟩
class Wk (r r' : Rl α) : Prop where
 w : ∀ a d, r a d -> r' a d
instance (priority := high) Wk.refl {r : Rl α} : Wk r r := ⟨fun _ _ h => h⟩
inductive Le : Shp S -> Shp S -> Prop
 | nil : Le [] []
 | non {a} {Z Z'} : Le Z Z' -> Le (a :: Z) (none :: Z')
 | som {α : Type} {g : S -> α} {r r' : Rl α} {Z Z'} : Wk r r' -> Le Z Z' -> Le (some ⟨g, r⟩ :: Z) (some ⟨g, r'⟩ :: Z')
theorem Le.sat {s : S} : ∀ {Z Z' : Shp S} {O : DSt}, Le Z Z' -> Sat Z s O -> Sat Z' s O := by
 intro Z Z' O l
 induction l generalizing O with
 | nil => intro h; exact h
 | non l ih =>
  intro h;cases O with
  | nil => exact h.elim
  | cons x O => exact ⟨trivial, ih h.2⟩
 | som w l ih =>
  intro h;cases O with
  | nil => exact h.elim
  | cons x O =>
   obtain ⟨d, e, hd⟩ := h.1;exact ⟨⟨d, e, w.w _ _ hd⟩, ih h.2⟩
theorem Le.refl : ∀ {Z : Shp S}, Le Z Z
 | [] => .nil
 | none :: _ => .non Le.refl
 | some ⟨_, _⟩ :: _ => .som Wk.refl Le.refl
noncomputable def szC (n : Nat) : Bool := decide (n <= sizeLine)
noncomputable def ltC (n : Nat) : Bool := decide (n < sizeLine)
theorem szC_le {n : Nat} (h : szC n = true) : n <= sizeLine := of_decide_eq_true h
theorem ltC_lt {n : Nat} (h : ltC n = true) : n < sizeLine := of_decide_eq_true h
noncomputable def rI : Rl Int := fun i d => d = .int i
noncomputable def rB : Rl Bool := fun b d => d = .bl b
noncomputable def rS : Rl Str := fun x d => d = .str x
noncomputable def rN : Rl Unit := fun _ d => d = .non
noncomputable def rA : Rl Unit := fun _ _ => True
inductive All2 (r : Rl α) : List α -> List D -> Prop
 | nil : All2 r [] []
 | cons {a d as ds} : r a d -> All2 r as ds -> All2 r (a :: as) (d :: ds)
noncomputable def rL (r : Rl α) : Rl (List α) := fun xs d => ∃ ds, d = .lst true ds /\ All2 r xs ds
noncomputable def rM (r : Rl α) : Rl (List α) := fun xs d => ∃ o ds, d = .lst o ds /\ All2 r xs ds
noncomputable def rT2 (r : Rl α) (q : Rl β) : Rl (α × β) := fun p d => ∃ x y, d = .tup [x, y] /\ r p.1 x /\ q p.2 y
noncomputable def rT3 (r : Rl α) (q : Rl β) (t : Rl γ) : Rl (α × β × γ) := fun p d => ∃ x y z, d = .tup [x, y, z] /\ r p.1 x /\ q p.2.1 y /\ t p.2.2 z
noncomputable def rT4 (r : Rl α) (q : Rl β) (t : Rl γ) (u : Rl δ) : Rl (α × β × γ × δ) := fun p d => ∃ x y z w, d = .tup [x, y, z, w] /\ r p.1 x /\ q p.2.1 y /\ t p.2.2.1 z /\ u p.2.2.2 w
noncomputable def rP : Rl PyData := fun p d => d.py = some p /\ d.fz = d
theorem All2.len {r : Rl α} {as : List α} {ds : List D} (h : All2 r as ds) : as.length = ds.length := by
 induction h with
 | nil => rfl
 | cons _ _ ih => simp [ih]
theorem All2.mono {r r' : Rl α} (k : ∀ a d, r a d -> r' a d) {as : List α} {ds : List D} (h : All2 r as ds) : All2 r' as ds := by
 induction h with
 | nil => exact .nil
 | cons a _ ih => exact .cons (k _ _ a) ih
theorem All2.get {r : Rl α} {as : List α} {ds : List D} {i : Nat} {a : α} (h : All2 r as ds) : as[i]? = some a -> ∃ d, ds[i]? = some d /\ r a d := by
 induction h generalizing i with
 | nil => intro e; simp at e
 | cons h0 _ ih =>
  intro e;cases i with
  | zero => simp at e; subst e; exact ⟨_, rfl, h0⟩
  | succ i => simpa using ih (i := i) (by simpa using e)
theorem All2.set {r : Rl α} {as : List α} {ds : List D} {i : Nat} {a : α} {d : D} (h : All2 r as ds) (k : r a d) : All2 r (as.set i a) (ds.set i d) := by
 induction h generalizing i with
 | nil => exact .nil
 | cons h0 h ih =>
  cases i with
  | zero => exact .cons k h
  | succ i => exact .cons h0 ih
theorem All2.append {r : Rl α} {as bs : List α} {ds es : List D} (h : All2 r as ds) (k : All2 r bs es) : All2 r (as ++ bs) (ds ++ es) := by
 induction h with
 | nil => exact k
 | cons h0 _ ih => exact .cons h0 ih
theorem All2.rep {r : Rl α} {a : α} {d : D} (h : r a d) : ∀ n, All2 r (List.replicate n a) (List.replicate n d)
 | 0 => .nil
 | n + 1 => .cons h (All2.rep h n)
theorem All2.flat {r : Rl α} {as : List α} {ds : List D} (h : All2 r as ds) : ∀ n, All2 r (List.replicate n as).flatten (List.replicate n ds).flatten
 | 0 => .nil
 | n + 1 => by rw [List.replicate_succ, List.replicate_succ, List.flatten_cons, List.flatten_cons]; exact h.append (h.flat n)
theorem All2.ofMap {r : Rl α} {f : β -> α} {g : β -> D} (k : ∀ b, r (f b) (g b)) : ∀ bs : List β, All2 r (bs.map f) (bs.map g)
 | [] => .nil
 | b :: bs => .cons (k b) (All2.ofMap k bs)
theorem rI_map : ∀ ns : List Int, All2 rI ns (ns.map D.int)
 | [] => .nil
 | _ :: ns => .cons rfl (rI_map ns)
class Fz (r : Rl α) (r' : outParam (Rl α)) : Prop where
 f : ∀ a d, r a d -> r' a d.fz
theorem All2.fz {r r' : Rl α} (k : ∀ a d, r a d -> r' a d.fz) {as : List α} {ds : List D} (h : All2 r as ds) : All2 r' as (D.fzL ds) := by
 induction h with
 | nil => exact .nil
 | cons a _ ih => exact .cons (k _ _ a) ih
instance : Fz rI rI := ⟨fun _ _ h => by cases h; rfl⟩
instance {r r' : Rl α} [k : Fz r r'] : Fz (rL r) (rM r') := ⟨fun _ _ ⟨ds, e, h⟩ => ⟨false, D.fzL ds, by rw [e, D.fz], h.fz k.f⟩⟩
instance {r r' : Rl α} [k : Fz r r'] : Fz (rM r) (rM r') := ⟨fun _ _ ⟨o, ds, e, h⟩ => ⟨false, D.fzL ds, by rw [e, D.fz], h.fz k.f⟩⟩
instance {r r' : Rl α} {q q' : Rl β} [k : Fz r r'] [l : Fz q q'] : Fz (rT2 r q) (rT2 r' q') := ⟨fun _ _ ⟨x, y, e, h1, h2⟩ => ⟨x.fz, y.fz, by rw [e]; simp only [D.fz, D.fzL], k.f _ _ h1, l.f _ _ h2⟩⟩
instance {r r' : Rl α} {q q' : Rl β} {t t' : Rl γ} [k : Fz r r'] [l : Fz q q'] [m : Fz t t'] : Fz (rT3 r q t) (rT3 r' q' t') := ⟨fun _ _ ⟨x, y, z, e, h1, h2, h3⟩ => ⟨x.fz, y.fz, z.fz, by rw [e]; simp only [D.fz, D.fzL], k.f _ _ h1, l.f _ _ h2, m.f _ _ h3⟩⟩
instance {r r' : Rl α} {q q' : Rl β} {t t' : Rl γ} {u u' : Rl δ} [k : Fz r r'] [l : Fz q q'] [m : Fz t t'] [n : Fz u u'] : Fz (rT4 r q t u) (rT4 r' q' t' u') := ⟨fun _ _ ⟨x, y, z, w, e, h1, h2, h3, h4⟩ => ⟨x.fz, y.fz, z.fz, w.fz, by rw [e]; simp only [D.fz, D.fzL], k.f _ _ h1, l.f _ _ h2, m.f _ _ h3, n.f _ _ h4⟩⟩
instance {r r' : Rl α} [k : Wk r r'] : Wk (rL r) (rM r') := ⟨fun _ _ ⟨ds, e, h⟩ => ⟨true, ds, e, h.mono k.w⟩⟩
instance {r r' : Rl α} {q q' : Rl β} [k : Wk r r'] [l : Wk q q'] : Wk (rT2 r q) (rT2 r' q') := ⟨fun _ _ ⟨x, y, e, h1, h2⟩ => ⟨x, y, e, k.w _ _ h1, l.w _ _ h2⟩⟩
class Sc (r : Rl α) : Prop where
 s : ∀ a d, r a d -> ∃ w, d.sc = some w
instance : Sc rI := ⟨fun _ _ h => by cases h; exact ⟨_, rfl⟩⟩
instance : Sc rB := ⟨fun _ _ h => by cases h; exact ⟨_, rfl⟩⟩
class Ns (r : Rl α) : Prop where
 s : ∀ a d, r a d -> d.sc = none
instance {r : Rl α} : Ns (rL r) := ⟨fun _ _ hq0 => by obtain ⟨_, e, _⟩ := hq0; rw [e]; rfl⟩
instance {r : Rl α} : Ns (rM r) := ⟨fun _ _ hq0 => by obtain ⟨_, _, e, _⟩ := hq0; rw [e]; rfl⟩
instance {r : Rl α} {q : Rl β} : Ns (rT2 r q) := ⟨fun _ _ hq0 => by obtain ⟨_, _, e, _⟩ := hq0; rw [e]; rfl⟩
class Ls (r : Rl (List α)) (q : outParam (Rl α)) : Prop where
 l : ∀ xs d, r xs d -> ∃ o ds, d = .lst o ds /\ All2 q xs ds
instance {r : Rl α} : Ls (rL r) r := ⟨fun _ _ ⟨ds, e, h⟩ => ⟨true, ds, e, h⟩⟩
instance {r : Rl α} : Ls (rM r) r := ⟨fun _ _ ⟨o, ds, e, h⟩ => ⟨o, ds, e, h⟩⟩
end
section
variable {S : Type} {α β γ δ ρ : Type} {Z Z1 Z2 Z3 Z' Zn : Shp S}
inductive TR (S ρ : Type) where
 | nx (s : S) | rt (v : ρ) (s : S) | bk (s : S) | ct (s : S)
noncomputable def JP (Z : Shp S) (p : DP) (f : S -> Option α) (r : Rl α) : Prop := ∀ s O v, Sat Z s O -> f s = some v -> ∃ d, p O = some d /\ r v d
noncomputable def JE (Z : Shp S) (c : DE) (f : S -> Option (α × S)) (r : Rl α) (Z' : Shp S) : Prop := ∀ s O v s', Sat Z s O -> f s = some (v, s') -> ∃ d O', c O = some (d, O') /\ r v d /\ Sat Z' s' O'
noncomputable def JT (Z : Shp S) (t : DT) (f : S -> Option (Bool × S)) (Z' : Shp S) : Prop := ∀ s O b s', Sat Z s O -> f s = some (b, s') -> ∃ O', t O = some (b, O') /\ Sat Z' s' O'
noncomputable def JL (Z : Shp S) (c : DA) (f : S -> Option (List α × S)) (r : Rl α) (Z' : Shp S) : Prop := ∀ s O v s', Sat Z s O -> f s = some (v, s') -> ∃ ds O', c O = some (ds, O') /\ All2 r v ds /\ Sat Z' s' O'
noncomputable def JI (Z : Shp S) (c : DI) (f : S -> Option (List α × S)) (r : Rl α) (Z' : Shp S) : Prop := ∀ s O v s', Sat Z s O -> f s = some (v, s') -> ∃ ds O', c O = some (ds, O') /\ All2 r v ds /\ Sat Z' s' O'
noncomputable def JG (Z : Shp S) (g : DG) (put : S -> α -> S) (r : Rl α) (Z' : Shp S) : Prop := ∀ s O v d, Sat Z s O -> r v d -> ∃ O', g d O = some O' /\ Sat Z' (put s v) O'
structure Ex (S ρ : Type) where
 rt : Shp S
 ro : Rl ρ
 lp : Shp S
noncomputable def Rs (Zn : Shp S) (E : Ex S ρ) : TR S ρ -> Out -> Prop
 | .nx s, .nx O => Sat Zn s O
 | .rt v s, .rt d O => E.ro v d /\ Sat E.rt s O
 | .bk s, .bk O => Sat E.lp s O
 | .ct s, .ct O => Sat E.lp s O
 | _, _ => False
noncomputable def JS (Z : Shp S) (c : DS) (f : S -> Option (TR S ρ)) (Zn : Shp S) (E : Ex S ρ) : Prop := ∀ s O t, Sat Z s O -> f s = some t -> ∃ o, c O = some o /\ Rs Zn E t o
theorem bd {α β : Type} {o : Option α} {f : α -> Option β} {b : β} (h : o.bind f = some b) : ∃ a, o = some a /\ f a = some b := by
 cases o with
 | none => cases h
 | some a => exact ⟨a, rfl, h⟩
theorem mp {α β : Type} {o : Option α} {f : α -> β} {b : β} (h : o.map f = some b) : ∃ a, o = some a /\ f a = b := by
 cases o with
 | none => cases h
 | some a => exact ⟨a, rfl, Option.some.inj h⟩
theorem jp_v (i : Nat) {get : S -> α} {r : Rl α} (h : Z[i]? = some (some ⟨get, r⟩)) : JP Z (pV i) (fun s => some (get s)) r := fun s O v hs e => by
 obtain ⟨d, h1, h2⟩ := hs.get h;cases e;exact ⟨d, h1, h2⟩
theorem jp_c {d : D} (v : α) {r : Rl α} (h : r v d) : JP Z (pC d) (fun _ => some v) r := fun s O w hs e => by cases e; exact ⟨d, rfl, h⟩
theorem jp_i (i : Int) : JP Z (pC (.int i)) (fun _ => some i) rI := jp_c i rfl
theorem jp_b (i : Bool) : JP Z (pC (.bl i)) (fun _ => some i) rB := jp_c i rfl
noncomputable def JO (g : D -> D -> Option D) (h : α -> β -> Option γ) (ra : Rl α) (rb : Rl β) (rc : Rl γ) : Prop := ∀ a b c x y, h a b = some c -> ra a x -> rb b y -> ∃ z, g x y = some z /\ rc c z
theorem jp_op {g : D -> D -> Option D} {h : α -> β -> Option γ} {ra : Rl α} {rb : Rl β} {rc : Rl γ} {p q : DP} {f1 : S -> Option α} {f2 : S -> Option β} (o : JO g h ra rb rc) (h1 : JP Z p f1 ra) (h2 : JP Z q f2 rb) :
  JP Z (pOp g p q) (fun s => (f1 s).bind fun a => (f2 s).bind fun b => h a b) rc := fun s O v hs e => by
 obtain ⟨a, e1, e⟩ := bd e;obtain ⟨b, e2, e⟩ := bd e;obtain ⟨x, hx, rx⟩ := h1 s O a hs e1;obtain ⟨y, hy, ry⟩ := h2 s O b hs e2;obtain ⟨z, hz, rz⟩ := o a b v x y e rx ry;exact ⟨z, by simp only [pOp, hx, hy, bind_some, hz], rz⟩
theorem jo_I0 {f : Int -> Int -> Int} : JO (gI0 f) (fun a b => some (f a b)) rI rI rI := fun a b c x y e h1 h2 => by cases h1; cases h2; cases e; exact ⟨_, rfl, rfl⟩
theorem jo_I {C : Int -> Int -> Bool} {f : Int -> Int -> Int} : JO (gI C f) (fun a b => if C a b = true then some (f a b) else none) rI rI rI := fun a b c x y e h1 h2 => by
 cases h1; cases h2;dsimp only at e;split at e
 ·rename_i h; cases e; exact ⟨_, if_pos h, rfl⟩
 ·cases e
noncomputable def mulN (i j : Int) : Bool := Nat.ble i.natAbs 9223372036854775808 || Nat.ble j.natAbs 9223372036854775808
theorem mulN_ok {i j : Int} (h : mulN i j = true) : mulC i j = true := by
 simp only [mulN, Bool.or_eq_true, Nat.ble_eq] at h;simp only [mulC, decide_eq_true_eq];omega
theorem jo_mul : JO gMul (fun a b => if mulN a b = true then some (a * b) else none) rI rI rI := fun a b c x y e h1 h2 => by
 cases h1; cases h2;dsimp only at e;split at e
 ·rename_i h; cases e; exact ⟨_, if_pos (mulN_ok h), rfl⟩
 ·cases e
noncomputable def rokC (i : Int) : Bool := Nat.ble i.natAbs 1000000000
theorem rokC_ok {i : Int} (h : rokC i = true) : rOk i = true := by
 simp only [rokC, Nat.ble_eq] at h;simp only [rOk, decide_eq_true_eq];omega
theorem jo_B0 {f : Int -> Int -> Bool} : JO (gB0 f) (fun a b => some (f a b)) rI rI rB := fun a b c x y e h1 h2 => by cases h1; cases h2; cases e; exact ⟨_, rfl, rfl⟩
theorem jp_neg {p : DP} {f : S -> Option Int} (h : JP Z p f rI) : JP Z (pNeg p) (fun s => (f s).map fun a => -a) rI := fun s O v hs e => by
 obtain ⟨a, e1, e2⟩ := mp e;obtain ⟨x, hx, rx⟩ := h s O a hs e1;cases rx; cases e2;exact ⟨_, by simp only [pNeg, hx, bind_some, gNeg], rfl⟩
class Py {α : Type} (r : Rl α) where
 pe : α -> PyData
 ok : α -> Bool
 k : Nat
 py : ∀ a d, r a d -> d.py = some (pe a)
 lay : ∀ a, ok a = true -> (pe a).canLay0 = true
 dep : ∀ a, ok a = true -> (pe a).depth <= k
class EqR {α β : Type} (r : Rl α) (q : Rl β) [Py r] [Py q] (f : outParam (α -> β -> Bool)) : Prop where
 eqv : ∀ a b, PyData.eqv (Py.pe r a) (Py.pe q b) = f a b
instance : Py rI := ⟨PyData.int, fun _ => true, 0, fun _ _ h => by cases h; rfl, fun _ _ => rfl, fun _ _ => Nat.le_refl _⟩
theorem pyL_of {r : Rl α} [k : Py r] : ∀ {as : List α} {ds : List D}, All2 r as ds -> D.pyL ds = some (as.map (Py.pe r)) := by
 intro as ds h
 induction h with
 | nil => rfl
 | cons h t ih => simp only [D.pyL, k.py _ _ h, ih, bind_some, map_some, List.map_cons]
theorem layL_of {r : Rl α} [k : Py r] : ∀ {as : List α}, as.all (Py.ok r) = true -> PyData.canLayAll0 (as.map (Py.pe r)) = true
 | [], _ => rfl
 | a :: as, h => by
  simp only [List.all_cons, Bool.and_eq_true] at h;simp only [List.map_cons, PyData.canLayAll0, k.lay _ h.1, layL_of h.2, Bool.and_self]
theorem depL_of {r : Rl α} [k : Py r] : ∀ {as : List α}, as.all (Py.ok r) = true -> PyData.depthAll (as.map (Py.pe r)) <= Py.k r
 | [], _ => Nat.zero_le _
 | a :: as, h => by
  simp only [List.all_cons, Bool.and_eq_true] at h;simp only [List.map_cons, PyData.depthAll]; exact Nat.max_le.mpr ⟨k.dep a h.1, depL_of h.2⟩
instance {r : Rl (List α)} {q : Rl α} [l : Ls r q] [k : Py q] : Py r := ⟨fun as => .list (as.map (Py.pe q)), fun as => as.all (Py.ok q), Py.k q + 1,
 fun a d h => by obtain ⟨o, ds, e, h⟩ := l.l a d h; rw [e]; simp only [D.py, pyL_of h, map_some], fun a h => by simp only [PyData.canLay0]; exact layL_of h, fun a h => by simp only [PyData.depth]; have := depL_of (r := q) (as := a) h; omega⟩
noncomputable def eqL (f : α -> β -> Bool) : List α -> List β -> Bool
 | [], [] => true
 | a :: as, b :: bs => f a b && eqL f as bs
 | _, _ => false
instance : EqR rI rI (fun a b => a == b) := ⟨fun a b => by simp only [Py.pe, PyData.eqv]⟩
theorem eqvL {r : Rl α} {q : Rl β} [Py r] [Py q] {f : α -> β -> Bool} [k : EqR r q f] : ∀ {as : List α} {bs : List β}, PyData.eqvAll (as.map (Py.pe r)) (bs.map (Py.pe q)) = eqL f as bs
 | [], [] => rfl
 | [], _ :: _ => rfl
 | _ :: _, [] => rfl
 | a :: as, b :: bs => by simp only [List.map_cons, PyData.eqvAll, eqL, k.eqv a b, eqvL]
instance {r : Rl (List α)} {q : Rl (List β)} {r' : Rl α} {q' : Rl β} [Ls r r'] [Ls q q'] [Py r'] [Py q'] {f : α -> β -> Bool} [k : EqR r' q' f] : EqR r q (eqL f) := ⟨fun a b => by simp only [Py.pe, PyData.eqv]; exact eqvL⟩
theorem py_ok {r : Rl α} {q : Rl β} [kr : Py r] [kq : Py q] {a : α} {b : β} (h : (Py.ok r a && Py.ok q b && decide (min (Py.k r) (Py.k q) <= 50)) = true) : pyOk (Py.pe r a) (Py.pe q b) = true := by
 simp only [Bool.and_eq_true, decide_eq_true_eq] at h;simp only [pyOk, kr.lay _ h.1.1, kq.lay _ h.1.2, Bool.and_self, Bool.true_and, decide_eq_true_eq];have h1 := kr.dep a h.1.1;have h2 := kq.dep b h.1.2;omega
theorem jo_eq {r : Rl α} {q : Rl β} [kr : Py r] [kq : Py q] {f : α -> β -> Bool} [k : EqR r q f] : JO gEq (fun a b => if (Py.ok r a && Py.ok q b && decide (min (Py.k r) (Py.k q) <= 50)) = true then some (f a b) else none) r q rB := fun a b c x y e h1 h2 => by
 dsimp only at e;split at e
 ·rename_i h
  cases e;exact ⟨_, by simp only [gEq, kr.py _ _ h1, kq.py _ _ h2, bind_some, py_ok h, if_true, k.eqv], rfl⟩
 ·cases e
theorem jo_ne {r : Rl α} {q : Rl β} [kr : Py r] [kq : Py q] {f : α -> β -> Bool} [k : EqR r q f] : JO gNe (fun a b => if (Py.ok r a && Py.ok q b && decide (min (Py.k r) (Py.k q) <= 50)) = true then some (!f a b) else none) r q rB := fun a b c x y e h1 h2 => by
 dsimp only at e;split at e
 ·rename_i h
  cases e;exact ⟨_, by simp only [gNe, kr.py _ _ h1, kq.py _ _ h2, bind_some, py_ok h, if_true, k.eqv], rfl⟩
 ·cases e
theorem All2.at {r : Rl α} {as : List α} {ds : List D} {i : Int} {a : α} (h : All2 r as ds) (e : atI as i = some a) : ∃ d, atI ds i = some d /\ r a d := by
 unfold atI at e ⊢;rw [<- h.len];obtain ⟨j, e1, e2⟩ := bd e;obtain ⟨d, h1, h2⟩ := h.get e2;exact ⟨d, by rw [e1]; exact h1, h2⟩
theorem jo_ix {r : Rl (List α)} {q : Rl α} [l : Ls r q] : JO ixD (fun (xs : List α) i => atI xs i) r rI q := fun a b c x y e h1 h2 => by
 obtain ⟨o, ds, e1, h⟩ := l.l a x h1;cases h2; subst e1;exact h.at e
noncomputable def Tix (r : Rl α) (k : Int) (π : α -> β) (q : Rl β) : Prop := ∀ a d, r a d -> ∃ x, ixD d (.int k) = some x /\ q (π a) x
theorem tix20 {r : Rl α} {q : Rl β} : Tix (rT2 r q) 0 (fun p => p.1) r := fun _ _ ⟨x, _, e, h, _⟩ => ⟨x, by rw [e]; rfl, h⟩
theorem tix21 {r : Rl α} {q : Rl β} : Tix (rT2 r q) 1 (fun p => p.2) q := fun _ _ ⟨_, y, e, _, h⟩ => ⟨y, by rw [e]; rfl, h⟩
theorem jp_tix {r : Rl α} {q : Rl β} {k : Int} {π : α -> β} {p : DP} {f : S -> Option α} (t : Tix r k π q) (h : JP Z p f r) : JP Z (pOp ixD p (pC (.int k))) (fun s => (f s).map π) q := fun s O v hs e => by
 obtain ⟨a, e1, e2⟩ := mp e;obtain ⟨x, hx, rx⟩ := h s O a hs e1;obtain ⟨y, hy, ry⟩ := t a x rx;cases e2;exact ⟨y, by simp only [pOp, hx, pC, bind_some, hy], ry⟩
noncomputable def JB1 (g : List D -> Option D) (h : α -> Option γ) (ra : Rl α) (rc : Rl γ) : Prop := ∀ a c x, h a = some c -> ra a x -> ∃ z, g [x] = some z /\ rc c z
noncomputable def JB2 (g : List D -> Option D) (h : α -> β -> Option γ) (ra : Rl α) (rb : Rl β) (rc : Rl γ) : Prop := ∀ a b c x y, h a b = some c -> ra a x -> rb b y -> ∃ z, g [x, y] = some z /\ rc c z
theorem jp_b1 {g : List D -> Option D} {h : α -> Option γ} {ra : Rl α} {rc : Rl γ} {p : DP} {f : S -> Option α} (o : JB1 g h ra rc) (h1 : JP Z p f ra) : JP Z (pCall g [p]) (fun s => (f s).bind h) rc := fun s O v hs e => by
 obtain ⟨a, e1, e⟩ := bd e;obtain ⟨x, hx, rx⟩ := h1 s O a hs e1;obtain ⟨z, hz, rz⟩ := o a v x e rx;exact ⟨z, by simp only [pCall, evB, hx, bind_some, map_some, hz], rz⟩
theorem jb_len {r : Rl (List α)} {q : Rl α} [l : Ls r q] : JB1 lenD (fun xs : List α => some (xs.length : Int)) r rI := fun a c x e h => by
 obtain ⟨o, ds, e1, hh⟩ := l.l a x h;cases e; subst e1;exact ⟨_, rfl, by rw [hh.len]; rfl⟩
theorem jb_intB : JB1 intD (fun b : Bool => some (if b then (1 : Int) else 0)) rB rI := fun a c x e h => by cases h; cases e; exact ⟨_, rfl, rfl⟩
theorem jb_abs : JB1 absD (fun i : Int => some (if i < 0 then -i else i)) rI rI := fun a c x e h => by cases h; cases e; exact ⟨_, rfl, rfl⟩
theorem jb_min : JB2 min2D (fun i j : Int => some (if j < i then j else i)) rI rI rI := fun a b c x y e h k => by cases h; cases k; cases e; exact ⟨_, rfl, rfl⟩
theorem ints_ok : ∀ {as : List Int} {ds : List D}, All2 rI as ds -> intsOf ds = some as
 | _, _, .nil => rfl
 | _, _, .cons h t => by cases h; simp only [intsOf, ints_ok t, map_some]
theorem jb_sum {r : Rl (List Int)} [l : Ls r rI] : JB1 sumD (fun xs : List Int => some xs.sum) r rI := fun a c x e h => by
 obtain ⟨o, ds, e1, hh⟩ := l.l a x h;cases e; subst e1;exact ⟨_, by simp only [sumD, ints_ok hh, map_some], rfl⟩
end
section
variable {S : Type} {α β γ δ ρ : Type} {Z Z0 Z1 Z2 Z3 Z4 Z' Zn Zh : Shp S} {c c' : DE} {t u : DT} {E : Ex S ρ}
theorem je_s {p : DP} {f : S -> Option α} {r : Rl α} [k : Sc r] (h : JP Z p f r) : JE Z (dS p) (fun s => (f s).map fun a => (a, s)) r Z := fun s O v s' hs e => by
 obtain ⟨a, e1, e2⟩ := mp e;cases e2;obtain ⟨d, hd, rd⟩ := h s O v hs e1;obtain ⟨w, hw⟩ := k.s _ _ rd;exact ⟨d, O, by simp only [dS, hd, bind_some, hw], rd, hs⟩
theorem je_cp (i : Nat) {get : S -> α} {r r' : Rl α} [k : Fz r r'] (h : Z[i]? = some (some ⟨get, r⟩)) : JE Z (dCp i) (fun s => some (get s, s)) r' (Z.set i (some ⟨get, r'⟩)) := fun s O v s' hs e => by
 obtain ⟨d, h1, h2⟩ := hs.get h;cases e;exact ⟨d.fz, _, by simp only [dCp, h1, map_some], k.f _ _ h2, hs.set ⟨_, rfl, k.f _ _ h2⟩⟩
theorem je_mv (i : Nat) {get : S -> α} {r : Rl α} (h : Z[i]? = some (some ⟨get, r⟩)) : JE Z (dMv i) (fun s => some (get s, s)) r (Z.set i none) := fun s O v s' hs e => by
 obtain ⟨d, h1, h2⟩ := hs.get h;cases e;exact ⟨d, O.set i none, by simp only [dMv, h1, map_some], h2, hs.setn⟩
theorem je_op {g : D -> D -> Option D} {h : α -> β -> Option γ} {ra : Rl α} {rb : Rl β} {rc : Rl γ} {f1 : S -> Option (α × S)} {f2 : S -> Option (β × S)} (o : JO g h ra rb rc) (h1 : JE Z c f1 ra Z1) (h2 : JE Z1 c' f2 rb Z2) :
  JE Z (dOp g c c') (fun s => (f1 s).bind fun p => (f2 p.2).bind fun q => (h p.1 q.1).map fun v => (v, q.2)) rc Z2 := fun s O v s' hs e => by
 obtain ⟨⟨a, s1⟩, e1, e⟩ := bd e;obtain ⟨⟨b, s2⟩, e2, e⟩ := bd e;obtain ⟨w, e3, e⟩ := mp e;cases e;obtain ⟨x, O1, hx, rx, k1⟩ := h1 s O a s1 hs e1;obtain ⟨y, O2, hy, ry, k2⟩ := h2 s1 O1 b s2 k1 e2;obtain ⟨z, hz, rz⟩ := o a b v x y e3 rx ry;exact ⟨z, O2, by simp only [dOp, hx, hy, bind_some, hz, map_some], rz, k2⟩
theorem je_ix {r : Rl (List α)} {q : Rl α} [l : Ls r q] {f1 : S -> Option (List α × S)} {f2 : S -> Option (Int × S)} (h1 : JE Z c f1 r Z1) (h2 : JE Z1 c' f2 rI Z2) :
  JE Z (dIx c c') (fun s => (f1 s).bind fun p => (f2 p.2).bind fun q => (atI p.1 q.1).map fun v => (v, q.2)) q Z2 := je_op jo_ix h1 h2
theorem je_tix {r : Rl α} {q : Rl β} {k : Int} {π : α -> β} {f : S -> Option (α × S)} (t : Tix r k π q) (h : JE Z c f r Z1) : JE Z (dIx c (dS (pC (.int k)))) (fun s => (f s).map fun p => (π p.1, p.2)) q Z1 := fun s O v s' hs e => by
 obtain ⟨⟨a, s1⟩, e1, e2⟩ := mp e;obtain ⟨x, O1, hx, rx, k1⟩ := h s O a s1 hs e1;obtain ⟨y, hy, ry⟩ := t a x rx;cases e2;exact ⟨y, O1, by simp only [dIx, hx, dS, pC, bind_some, D.sc, hy, map_some], ry, k1⟩
theorem jl_nil {r : Rl α} : JL Z aNil (fun s => some ([], s)) r Z := fun s O v s' hs e => by cases e; exact ⟨[], O, rfl, .nil, hs⟩
theorem jl_cons {r : Rl α} {ca : DA} {f : S -> Option (α × S)} {g : S -> Option (List α × S)} (h1 : JE Z c f r Z1) (h2 : JL Z1 ca g r Z2) : JL Z (aCons c ca) (fun s => (f s).bind fun p => (g p.2).map fun q => (p.1 :: q.1, q.2)) r Z2 := fun s O v s' hs e => by
 obtain ⟨⟨a, s1⟩, e1, e⟩ := bd e;obtain ⟨⟨b, s2⟩, e2, e⟩ := mp e;cases e;obtain ⟨x, O1, hx, rx, k1⟩ := h1 s O a s1 hs e1;obtain ⟨ys, O2, hy, ry, k2⟩ := h2 s1 O1 b s2 k1 e2;exact ⟨x :: ys, O2, by simp only [aCons, hx, hy, bind_some, map_some], .cons rx ry, k2⟩
theorem je_lst {r : Rl α} {ca : DA} {f : S -> Option (List α × S)} (h : JL Z ca f r Z1) : JE Z (dLst ca) (fun s => (f s).bind fun p => if szC (p.1.length) = true then some p else none) (rL r) Z1 := fun s O v s' hs e => by
 obtain ⟨⟨a, s1⟩, e1, e⟩ := bd e;obtain ⟨ds, O1, hx, rx, k1⟩ := h s O a s1 hs e1;dsimp only at e;split at e
 ·rename_i hl
  have hl := szC_le hl;cases e;exact ⟨_, O1, by simp only [dLst, hx, bind_some, <- rx.len, hl, if_true], ⟨ds, rfl, rx⟩, k1⟩
 ·cases e
theorem szl {n : Nat} (h : n <= 100) : n <= sizeLine := Nat.le_of_lt (L2.small1000 oM)
theorem aC_some {c : DE} {ca : DA} {O O1 O2 : DSt} {x : D} {xs : List D} (h : c O = some (x, O1)) (h' : ca O1 = some (xs, O2)) : aCons c ca O = some (x :: xs, O2) := by
 simp only [aCons, h, h', bind_some, map_some]
theorem dT_some {ca : DA} {O O1 : DSt} {xs : List D} (h : ca O = some (xs, O1)) (hl : xs.length <= 100) : dTup ca O = some (.tup xs, O1) := by
 simp only [dTup, h, bind_some, szl hl, if_true]
theorem je_t2 {a b : DE} {ra : Rl α} {rb : Rl β} {f : S -> Option (α × S)} {g : S -> Option (β × S)} (h1 : JE Z a f ra Z1) (h2 : JE Z1 b g rb Z2) : JE Z (dTup (aCons a (aCons b aNil))) (fun s => (f s).bind fun p => (g p.2).map fun q => ((p.1, q.1), q.2)) (rT2 ra rb) Z2 := fun s O v s' hs e => by
 obtain ⟨⟨a, s1⟩, e1, e⟩ := bd e;obtain ⟨⟨b, s2⟩, e2, e⟩ := mp e;cases e;obtain ⟨x, O1, hx, rx, k1⟩ := h1 s O a s1 hs e1;obtain ⟨y, O2, hy, ry, k2⟩ := h2 s1 O1 b s2 k1 e2;exact ⟨_, O2, dT_some (aC_some hx (aC_some hy rfl)) (Nat.le_of_ble_eq_true rfl), ⟨x, y, rfl, rx, ry⟩, k2⟩
theorem je_t3 {a b d : DE} {ra : Rl α} {rb : Rl β} {rd : Rl γ} {f : S -> Option (α × S)} {g : S -> Option (β × S)} {h : S -> Option (γ × S)} (h1 : JE Z a f ra Z1) (h2 : JE Z1 b g rb Z2) (h3 : JE Z2 d h rd Z3) :
  JE Z (dTup (aCons a (aCons b (aCons d aNil)))) (fun s => (f s).bind fun p => (g p.2).bind fun q => (h q.2).map fun o => ((p.1, q.1, o.1), o.2)) (rT3 ra rb rd) Z3 := fun s O v s' hs e => by
 obtain ⟨⟨a, s1⟩, e1, e⟩ := bd e;obtain ⟨⟨b, s2⟩, e2, e⟩ := bd e;obtain ⟨⟨w, s3⟩, e3, e⟩ := mp e;cases e;obtain ⟨x, O1, hx, rx, k1⟩ := h1 s O a s1 hs e1;obtain ⟨y, O2, hy, ry, k2⟩ := h2 s1 O1 b s2 k1 e2;obtain ⟨z, O3, hz, rz, k3⟩ := h3 s2 O2 w s3 k2 e3;exact ⟨_, O3, dT_some (aC_some hx (aC_some hy (aC_some hz rfl))) (Nat.le_of_ble_eq_true rfl), ⟨x, y, z, rfl, rx, ry, rz⟩, k3⟩
theorem je_t4 {a b d m : DE} {ra : Rl α} {rb : Rl β} {rd : Rl γ} {rm : Rl δ} {f : S -> Option (α × S)} {g : S -> Option (β × S)} {h : S -> Option (γ × S)} {j : S -> Option (δ × S)} (h1 : JE Z a f ra Z1) (h2 : JE Z1 b g rb Z2) (h3 : JE Z2 d h rd Z3) (h4 : JE Z3 m j rm Z4) :
  JE Z (dTup (aCons a (aCons b (aCons d (aCons m aNil))))) (fun s => (f s).bind fun p => (g p.2).bind fun q => (h q.2).bind fun o => (j o.2).map fun n => ((p.1, q.1, o.1, n.1), n.2)) (rT4 ra rb rd rm) Z4 := fun s O v s' hs e => by
 obtain ⟨⟨a, s1⟩, e1, e⟩ := bd e;obtain ⟨⟨b, s2⟩, e2, e⟩ := bd e;obtain ⟨⟨w, s3⟩, e3, e⟩ := bd e;obtain ⟨⟨n, s4⟩, e4, e⟩ := mp e;cases e;obtain ⟨x, O1, hx, rx, k1⟩ := h1 s O a s1 hs e1;obtain ⟨y, O2, hy, ry, k2⟩ := h2 s1 O1 b s2 k1 e2;obtain ⟨z, O3, hz, rz, k3⟩ := h3 s2 O2 w s3 k2 e3;obtain ⟨o, O4, ho, ro, k4⟩ := h4 s3 O3 n s4 k3 e4;exact ⟨_, O4, dT_some (aC_some hx (aC_some hy (aC_some hz (aC_some ho rfl)))) (Nat.le_of_ble_eq_true rfl), ⟨x, y, z, o, rfl, rx, ry, rz, ro⟩, k4⟩
theorem je_b1 {g : List D -> Option D} {h : α -> Option γ} {ra : Rl α} {rc : Rl γ} {f : S -> Option (α × S)} (o : JB1 g h ra rc) (h1 : JE Z c f ra Z1) : JE Z (dCallB g (aCons c aNil)) (fun s => (f s).bind fun p => (h p.1).map fun v => (v, p.2)) rc Z1 := fun s O v s' hs e => by
 obtain ⟨⟨a, s1⟩, e1, e⟩ := bd e;obtain ⟨w, e3, e⟩ := mp e;cases e;obtain ⟨x, O1, hx, rx, k1⟩ := h1 s O a s1 hs e1;obtain ⟨z, hz, rz⟩ := o a v x e3 rx;exact ⟨z, O1, by simp only [dCallB, aCons, aNil, hx, bind_some, map_some, hz], rz, k1⟩
theorem je_b2 {g : List D -> Option D} {h : α -> β -> Option γ} {ra : Rl α} {rb : Rl β} {rc : Rl γ} {f1 : S -> Option (α × S)} {f2 : S -> Option (β × S)} (o : JB2 g h ra rb rc) (h1 : JE Z c f1 ra Z1) (h2 : JE Z1 c' f2 rb Z2) :
  JE Z (dCallB g (aCons c (aCons c' aNil))) (fun s => (f1 s).bind fun p => (f2 p.2).bind fun q => (h p.1 q.1).map fun v => (v, q.2)) rc Z2 := fun s O v s' hs e => by
 obtain ⟨⟨a, s1⟩, e1, e⟩ := bd e;obtain ⟨⟨b, s2⟩, e2, e⟩ := bd e;obtain ⟨w, e3, e⟩ := mp e;cases e;obtain ⟨x, O1, hx, rx, k1⟩ := h1 s O a s1 hs e1;obtain ⟨y, O2, hy, ry, k2⟩ := h2 s1 O1 b s2 k1 e2;obtain ⟨z, hz, rz⟩ := o a b v x y e3 rx ry;exact ⟨z, O2, by simp only [dCallB, aCons, aNil, hx, hy, bind_some, map_some, hz], rz, k2⟩
theorem je_cat {r : Rl α} {f g : S -> Option (List α × S)} (h1 : JE Z c f (rL r) Z1) (h2 : JE Z1 c' g (rL r) Z2) : JE Z (dCat c c') (fun s => (f s).bind fun p => (g p.2).bind fun q => if szC (p.1.length + q.1.length) = true then some (p.1 ++ q.1, q.2) else none) (rL r) Z2 := fun s O v s' hs e => by
 obtain ⟨⟨a, s1⟩, e1, e⟩ := bd e;obtain ⟨⟨b, s2⟩, e2, e⟩ := bd e;dsimp only at e;split at e
 ·rename_i hl
  have hl := szC_le hl;cases e;obtain ⟨x, O1, hx, ⟨xs, rfl, rx⟩, k1⟩ := h1 s O a s1 hs e1;obtain ⟨y, O2, hy, ⟨ys, rfl, ry⟩, k2⟩ := h2 s1 O1 b _ k1 e2;exact ⟨_, O2, by simp only [dCat, hx, hy, bind_some, <- rx.len, <- ry.len, hl, if_true], ⟨_, rfl, rx.append ry⟩, k2⟩
 ·cases e
theorem All2.sc {r : Rl α} [k : Sc r] : ∀ {as : List α} {ds : List D}, All2 r as ds -> allSc ds = true
 | _, _, .nil => rfl
 | _, _, .cons h t => by
  obtain ⟨w, hw⟩ := k.s _ _ h
  have := All2.sc t
  unfold allSc at this ⊢;rw [List.all_cons, hw, this]; rfl
noncomputable def repC (len : Nat) (n : Int) : Bool := Nat.ble n.natAbs 16777216 && Nat.ble (len * n.toNat) 16777216
theorem repC_ok {len : Nat} {n : Int} (h : repC len n = true) : -(2 ^ 63) <= n /\ n < 2 ^ 63 /\ len * n.toNat <= sizeLine := by
 simp only [repC, Bool.and_eq_true, Nat.ble_eq] at h;refine ⟨by omega, by omega, ?_⟩;have e : sizeLine = 16777216 := by decide
 rw [e]; exact h.2
theorem je_rep {r : Rl α} [k : Sc r] {f : S -> Option (List α × S)} {g : S -> Option (Int × S)} (h1 : JE Z c f (rL r) Z1) (h2 : JE Z1 c' g rI Z2) : JE Z (dRep c c') (fun s => (f s).bind fun p => (g p.2).bind fun q => if repC p.1.length q.1 = true then some ((List.replicate q.1.toNat p.1).flatten, q.2) else none) (rL r) Z2 := fun s O v s' hs e => by
 obtain ⟨⟨a, s1⟩, e1, e⟩ := bd e;obtain ⟨⟨b, s2⟩, e2, e⟩ := bd e;dsimp only at e;split at e
 ·rename_i hl
  cases e;obtain ⟨x, O1, hx, ⟨xs, rfl, rx⟩, k1⟩ := h1 s O a s1 hs e1;obtain ⟨y, O2, hy, ry, k2⟩ := h2 s1 O1 b _ k1 e2;cases ry;have hsc : allSc xs = true := rx.sc;have hl := repC_ok hl;refine ⟨_, O2, ?_, ⟨_, rfl, rx.flat b.toNat⟩, k2⟩;simp only [dRep, hx, hy, bind_some];exact if_pos ⟨hsc, hl.1, hl.2.1, by rw [<- rx.len]; exact hl.2.2⟩
 ·cases e
theorem Sat.put {i : Nat} {get : S -> α} {put : S -> α -> S} {r : Rl α} {s : S} {O : DSt} {v : α} {d : D} (hs : Sat Z s O) (hg : ∀ s v, get (put s v) = v) (hf : ∀ v, Fr (fun s => put s v) (Z.set i none)) (h : r v d) : Sat (Z.set i (some ⟨get, r⟩)) (put s v) (O.set i (some d)) := by
 have h1 := (hf v).sat (On.setn (i := i) hs);have h2 := h1.set (i := i) (l := some ⟨get, r⟩) (o := some d) ⟨d, rfl, by rw [show (Sl.mk get r).get = get from rfl, hg]; exact h⟩;rw [List.set_set] at h2;exact h2
theorem je_appV (i : Nat) {get : S -> List α} {put : S -> List α -> S} {rl : Rl (List α)} {r q : Rl α} [l : Ls rl q] {f : S -> Option (α × S)} (h : JE Z c f r Z1) (h0 : Z[i]? = some (some ⟨get, rl⟩)) (hi : Z1[i]? = some (some ⟨get, rL r⟩)) (hg : autoParam (∀ s v, get (put s v) = v) Ax8._auto_1) (hf : autoParam (∀ v, Fr (fun s => put s v) (Z1.set i none)) Ax10._auto_1) :
  JE Z (dAppV i c) (fun s => (f s).bind fun p => if ltC ((get p.2).length) = true then some ((), put p.2 (get p.2 ++ [p.1])) else none) rN (Z1.set i (some ⟨get, rL r⟩)) := fun s O v s' hs e => by
 obtain ⟨⟨a, s1⟩, e1, e⟩ := bd e;dsimp only at e;split at e
 ·rename_i hl
  have hl := ltC_lt hl;cases e;obtain ⟨x, O1, hx, rx, k1⟩ := h s O a s1 hs e1;obtain ⟨d0, hd0, h00⟩ := hs.get h0;obtain ⟨o0, ds0, rfl, _⟩ := l.l _ _ h00;obtain ⟨d, hd, ds, rfl, h2⟩ := k1.get hi;exact ⟨.non, _, by simp only [dAppV, hd0, hx, bind_some, hd, <- h2.len, hl, if_true], rfl, k1.put hg hf ⟨_, rfl, h2.append (.cons rx .nil)⟩⟩
 ·cases e
theorem jt_e {f : S -> Option (Bool × S)} (h : JE Z c f rB Z1) : JT Z (dTest c) f Z1 := fun s O v s' hs e => by
 obtain ⟨d, O1, h1, h2, h3⟩ := h s O v s' hs e;cases h2;exact ⟨O1, by simp only [dTest, h1, bind_some], h3⟩
theorem jt_not {f : S -> Option (Bool × S)} (h : JT Z t f Z1) : JT Z (tNotD t) (fun s => (f s).map fun p => (!p.1, p.2)) Z1 := fun s O v s' hs e => by
 obtain ⟨⟨a, s1⟩, e1, e2⟩ := mp e;obtain ⟨O1, h1, h2⟩ := h s O a s1 hs e1;cases e2;exact ⟨O1, by simp only [tNotD, h1, map_some], h2⟩
theorem jt_or {f g : S -> Option (Bool × S)} (h1 : JT Z t f Z1) (h2 : JT Z1 u g Z2) (l : autoParam (Le Z1 Z') Ax11._auto_1) (l2 : autoParam (Le Z2 Z') Ax11._auto_1) : JT Z (tOrD t u) (fun s => (f s).bind fun p => if p.1 = true then some (true, p.2) else g p.2) Z' := fun s O v s' hs e => by
 obtain ⟨⟨a, s1⟩, e1, e2⟩ := bd e;obtain ⟨O1, hx, k1⟩ := h1 s O a s1 hs e1;cases a
 ·simp only [Bool.false_eq_true, if_false] at e2
  obtain ⟨O2, hy, k2⟩ := h2 s1 O1 v s' k1 e2;exact ⟨O2, by simp only [tOrD, hx, bind_some, hy, Bool.false_eq_true, if_false], l2.sat k2⟩
 ·simp only [if_true] at e2
  cases e2;exact ⟨O1, by simp only [tOrD, hx, bind_some, if_true], l.sat k1⟩
theorem jt_true : JT Z tTrue (fun s => some (true, s)) Z := fun s O v s' hs e => by cases e; exact ⟨O, rfl, hs⟩
noncomputable def tSeq (f g : S -> Option (TR S ρ)) : S -> Option (TR S ρ) := fun s => (f s).bind fun r => match r with | .nx s' => g s' | .rt v s' => some (.rt v s') | .bk s' => some (.bk s') | .ct s' => some (.ct s')
theorem js_dead {c : DS} : JS Z c (fun _ => none) Zn E := fun s O v hs e => by cases e
theorem js_seq {a b : DS} {f g : S -> Option (TR S ρ)} (h1 : JS Z a f Z1 E) (h2 : JS Z1 b g Z2 E) : JS Z (sSeq a b) (tSeq f g) Z2 E := fun s O v hs e => by
 obtain ⟨r, e1, e2⟩ := bd e;obtain ⟨o, ho, ro⟩ := h1 s O r hs e1;cases r with
 | nx s' =>
  cases o with
  | nx O' =>
   obtain ⟨o2, h3, r3⟩ := h2 s' O' v ro e2;exact ⟨o2, by simp only [sSeq, ho, bind_some, h3], r3⟩
  | _ => exact ro.elim
 | rt w s' =>
  cases e2;cases o with
  | rt d O' => exact ⟨.rt d O', by simp only [sSeq, ho, bind_some], ro⟩
  | _ => exact ro.elim
 | bk s' =>
  cases e2;cases o with
  | bk O' => exact ⟨.bk O', by simp only [sSeq, ho, bind_some], ro⟩
  | _ => exact ro.elim
 | ct s' =>
  cases e2;cases o with
  | ct O' => exact ⟨.ct O', by simp only [sSeq, ho, bind_some], ro⟩
  | _ => exact ro.elim
theorem js_le {a : DS} {f : S -> Option (TR S ρ)} (h : JS Z a f Z1 E) (l : Le Z1 Zn) : JS Z a f Zn E := fun s O v hs e => by
 obtain ⟨o, ho, ro⟩ := h s O v hs e;refine ⟨o, ho, ?_⟩;cases v <;> cases o <;> first | exact l.sat ro | exact ro
theorem js_set (i : Nat) {get : S -> α} {put : S -> α -> S} {r : Rl α} {f : S -> Option (α × S)} (h : JE Z c f r Z1) (hg : autoParam (∀ s v, get (put s v) = v) Ax8._auto_1) (hf : autoParam (∀ v, Fr (fun s => put s v) (Z1.set i none)) Ax10._auto_1) (hi : autoParam (i < Z1.length) Ax1._auto_1) :
  JS Z (sSet i c) (fun s => (f s).map fun p => .nx (put p.2 p.1)) (Z1.set i (some ⟨get, r⟩)) E := fun s O v hs e => by
 obtain ⟨⟨a, s1⟩, e1, e2⟩ := mp e;cases e2;obtain ⟨d, O1, h1, h2, h3⟩ := h s O a s1 hs e1;have hl : i < O1.length := by rw [h3.len]; exact hi
 exact ⟨.nx (O1.set i (some d)), by simp only [sSet, h1, bind_some, hl, if_true], h3.put hg hf h2⟩
theorem js_if {a b : DS} {ft : S -> Option (Bool × S)} {f g : S -> Option (TR S ρ)} (h0 : JT Z t ft Z0) (h1 : JS Z0 a f Z1 E) (h2 : JS Z0 b g Z2 E) (l1 : autoParam (Le Z1 Z') Ax11._auto_1) (l2 : autoParam (Le Z2 Z') Ax11._auto_1) : JS Z (sIf t a b) (fun s => (ft s).bind fun p => if p.1 = true then f p.2 else g p.2) Z' E := fun s O v hs e => by
 obtain ⟨⟨b, s1⟩, e1, e2⟩ := bd e;obtain ⟨O1, hx, k1⟩ := h0 s O b s1 hs e1;cases b
 ·simp only [Bool.false_eq_true, if_false] at e2
  obtain ⟨o, ho, ro⟩ := (js_le h2 l2) s1 O1 v k1 e2;exact ⟨o, by simp only [sIf, hx, bind_some, ho, Bool.false_eq_true, if_false], ro⟩
 ·simp only [if_true] at e2
  obtain ⟨o, ho, ro⟩ := (js_le h1 l1) s1 O1 v k1 e2;exact ⟨o, by simp only [sIf, hx, bind_some, ho, if_true], ro⟩
theorem js_ret {r : Rl ρ} {f : S -> Option (ρ × S)} (h : JE Z c f r Z1) (w : autoParam (Wk r E.ro) Ax12._auto_1) (l : autoParam (Le Z1 E.rt) Ax11._auto_1) : JS Z (sRet c) (fun s => (f s).map fun p => .rt p.1 p.2) Zn E := fun s O v hs e => by
 obtain ⟨⟨a, s1⟩, e1, e2⟩ := mp e;cases e2;obtain ⟨d, O1, h1, h2, h3⟩ := h s O a s1 hs e1;exact ⟨.rt d O1, by simp only [sRet, h1, map_some], w.w _ _ h2, l.sat h3⟩
theorem js_drop {r : Rl α} {f : S -> Option (α × S)} (h : JE Z c f r Z1) : JS Z (sDrop c) (fun s => (f s).map fun p => .nx p.2) Z1 E := fun s O v hs e => by
 obtain ⟨⟨a, s1⟩, e1, e2⟩ := mp e;cases e2;obtain ⟨d, O1, h1, h2, h3⟩ := h s O a s1 hs e1;exact ⟨.nx O1, by simp only [sDrop, h1, map_some], h3⟩
theorem js_skip : JS Z sSkip (fun s => some (.nx s)) Z E := fun s O v hs e => by cases e; exact ⟨_, rfl, hs⟩
theorem All2.ix {r : Rl α} {as : List α} {ds : List D} (h : All2 r as ds) {i : Int} : ixN ds.length i = ixN as.length i := by rw [h.len]
theorem js_augS (i : Nat) {get : S -> List α} {put : S -> List α -> S} {r : Rl α} {rb : Rl β} [k : Sc r] {g : D -> D -> Option D} {h : α -> β -> Option α} {q p : DP} {fq : S -> Option Int} {f : S -> Option β} (o : JO g h r rb r) (hq : JP Z q fq rI) (h1 : JP Z p f rb) (h0 : Z[i]? = some (some ⟨get, rL r⟩)) (hg : autoParam (∀ s v, get (put s v) = v) Ax8._auto_1) (hf : autoParam (∀ v, Fr (fun s => put s v) (Z.set i none)) Ax10._auto_1) :
  JS Z (sAugIx g i [] q p) (fun s => (fq s).bind fun kk => (ixN (get s).length kk).bind fun j => ((get s)[j]?).bind fun x => (f s).bind fun y => (h x y).map fun z => .nx (put s ((get s).set j z))) (Z.set i (some ⟨get, rL r⟩)) E := fun s O v hs e => by
 obtain ⟨kk, e1, e⟩ := bd e;obtain ⟨j, e2, e⟩ := bd e;obtain ⟨x, e3, e⟩ := bd e;obtain ⟨y, e4, e⟩ := bd e;obtain ⟨z, e5, e⟩ := mp e;cases e;obtain ⟨d, hd, ds, rfl, h2⟩ := hs.get h0;obtain ⟨dq, hdq, rq⟩ := hq s O kk hs e1;cases rq;obtain ⟨dx, hdx, rx⟩ := h2.get e3;obtain ⟨wv, hw⟩ := k.s _ _ rx;obtain ⟨dy, hdy, ry⟩ := h1 s O y hs e4;obtain ⟨dz, hdz, rz⟩ := o _ _ _ _ _ e5 rx ry;exact ⟨.nx _, by simp only [sAugIx, hd, evI, getP, bind_some, hdq, h2.ix, e2, hdx, hw, hdy, hdz, map_some, setP], hs.put hg hf ⟨_, rfl, h2.set rz⟩⟩
theorem jg_nm (i : Nat) {get : S -> α} {put : S -> α -> S} {r : Rl α} (hg : autoParam (∀ s v, get (put s v) = v) Ax8._auto_1) (hf : autoParam (∀ v, Fr (fun s => put s v) (Z.set i none)) Ax10._auto_1) (hi : autoParam (i < Z.length) Ax1._auto_1) : JG Z (gNm i) put r (Z.set i (some ⟨get, r⟩)) := fun s O v d hs h => by
 have hl : i < O.length := by rw [hs.len]; exact hi
 exact ⟨_, by simp only [gNm, hl, if_true], hs.put hg hf h⟩
theorem jg_t2 {g1 g2 : DG} {p1 : S -> α -> S} {p2 : S -> β -> S} {ra : Rl α} {rb : Rl β} (h1 : JG Z g1 p1 ra Z1) (h2 : JG Z1 g2 p2 rb Z2) : JG Z (gTupD 2 (gConsD g1 (gConsD g2 gNilD))) (fun s v => p2 (p1 s v.1) v.2) (rT2 ra rb) Z2 := fun s O v d hs hq0 => by
 obtain ⟨x, y, e, hx, hy⟩ := hq0;obtain ⟨O1, e1, k1⟩ := h1 s O v.1 x hs hx;obtain ⟨O2, e2, k2⟩ := h2 _ O1 v.2 y k1 hy;exact ⟨O2, by simp only [e, gTupD, gConsD, gNilD, List.length_cons, List.length_nil, e1, e2, bind_some, if_true], k2⟩
theorem jg_t3 {g1 g2 g3 : DG} {p1 : S -> α -> S} {p2 : S -> β -> S} {p3 : S -> γ -> S} {ra : Rl α} {rb : Rl β} {rc : Rl γ} (h1 : JG Z g1 p1 ra Z1) (h2 : JG Z1 g2 p2 rb Z2) (h3 : JG Z2 g3 p3 rc Z3) : JG Z (gTupD 3 (gConsD g1 (gConsD g2 (gConsD g3 gNilD)))) (fun s v => p3 (p2 (p1 s v.1) v.2.1) v.2.2) (rT3 ra rb rc) Z3 := fun s O v d hs hq0 => by
 obtain ⟨x, y, z, e, hx, hy, hz⟩ := hq0;obtain ⟨O1, e1, k1⟩ := h1 s O v.1 x hs hx;obtain ⟨O2, e2, k2⟩ := h2 _ O1 v.2.1 y k1 hy;obtain ⟨O3, e3, k3⟩ := h3 _ O2 v.2.2 z k2 hz;exact ⟨O3, by simp only [e, gTupD, gConsD, gNilD, List.length_cons, List.length_nil, e1, e2, e3, bind_some, if_true], k3⟩
theorem js_setS (i : Nat) {get : S -> List α} {put : S -> List α -> S} {r : Rl α} {q : DP} {fq : S -> Option Int} {f : S -> Option (α × S)} (h : JE Z c f r Z1) (hq : JP Z1 q fq rI) (h0 : Z1[i]? = some (some ⟨get, rL r⟩)) (hg : autoParam (∀ s v, get (put s v) = v) Ax8._auto_1) (hf : autoParam (∀ v, Fr (fun s => put s v) (Z1.set i none)) Ax10._auto_1) :
  JS Z (sAsg c (gSet i [] q)) (fun s => (f s).bind fun p => (fq p.2).bind fun kk => (ixN (get p.2).length kk).map fun j => .nx (put p.2 ((get p.2).set j p.1))) (Z1.set i (some ⟨get, rL r⟩)) E := fun s O v hs e => by
 obtain ⟨⟨a, s1⟩, e1, e⟩ := bd e;obtain ⟨kk, e2, e⟩ := bd e;obtain ⟨j, e3, e⟩ := mp e;cases e;obtain ⟨d, O1, h1, h2, h3⟩ := h s O a s1 hs e1;obtain ⟨dq, hdq, rq⟩ := hq s1 O1 kk h3 e2;cases rq;obtain ⟨d', hd, ds, rfl, h4⟩ := h3.get h0;dsimp only at e3;exact ⟨.nx _, by simp only [sAsg, h1, bind_some, gSet, hd, evI, getP, hdq, h4.ix, e3, map_some, setP], h3.put hg hf ⟨_, rfl, h4.set h2⟩⟩
theorem ji_lst {rl : Rl (List α)} {r r' : Rl α} [l : Ls rl r] [k : Fz r r'] {f : S -> Option (List α × S)} (h : JE Z c f rl Z1) : JI Z (iLst c) f r' Z1 := fun s O v s' hs e => by
 obtain ⟨d, O1, h1, h2, h3⟩ := h s O v s' hs e;obtain ⟨o, ds, rfl, h⟩ := l.l v d h2;exact ⟨_, O1, by simp only [iLst, h1, bind_some], h.fz k.f, h3⟩
noncomputable def rng (lo hi : Int) : List Int := (List.range (hi - lo).toNat).map fun (k : Nat) => lo + k
theorem rng_ok (lo hi : Int) : All2 rI (rng lo hi) (rngD lo hi) := by unfold rng rngD; exact All2.ofMap (r := rI) (f := fun (k : Nat) => lo + k) (g := fun (k : Nat) => D.int (lo + k)) (fun _ => rfl) _
theorem ji_r1 {f : S -> Option (Int × S)} (h : JE Z c f rI Z1) : JI Z (iR1 (aCons c aNil)) (fun s => (f s).bind fun p => if rokC p.1 = true then some (rng 0 p.1, p.2) else none) rI Z1 := fun s O v s' hs e => by
 obtain ⟨⟨a, s1⟩, e1, e⟩ := bd e;dsimp only at e;split at e
 ·rename_i hl
  cases e;obtain ⟨d, O1, h1, h2, h3⟩ := h s O a _ hs e1;cases h2;refine ⟨_, O1, ?_, rng_ok _ _, h3⟩;simp only [iR1, aCons, aNil, h1, bind_some, map_some];exact if_pos (rokC_ok hl)
 ·cases e
theorem ji_r2 {f g : S -> Option (Int × S)} (h : JE Z c f rI Z1) (h' : JE Z1 c' g rI Z2) : JI Z (iR2 (aCons c (aCons c' aNil))) (fun s => (f s).bind fun p => (g p.2).bind fun q => if (rokC p.1 && rokC q.1) = true then some (rng p.1 q.1, q.2) else none) rI Z2 := fun s O v s' hs e => by
 obtain ⟨⟨a, s1⟩, e1, e⟩ := bd e;obtain ⟨⟨b, s2⟩, e2, e⟩ := bd e;dsimp only at e;split at e
 ·rename_i hl
  cases e;obtain ⟨d, O1, h1, h2, h3⟩ := h s O a s1 hs e1;obtain ⟨d', O2, h4, h5, h6⟩ := h' s1 O1 b _ h3 e2;cases h2; cases h5;refine ⟨_, O2, ?_, rng_ok _ _, h6⟩;simp only [iR2, aCons, aNil, h1, h4, bind_some, map_some];simp only [Bool.and_eq_true] at hl;exact if_pos (by rw [rokC_ok hl.1, rokC_ok hl.2]; rfl)
 ·cases e
theorem zip_ok {ra ra' : Rl α} {rb rb' : Rl β} (ka : ∀ a d, ra a d -> ra' a d.fz) (kb : ∀ a d, rb a d -> rb' a d.fz) : ∀ {as : List α} {bs : List β} {ds es : List D}, All2 ra as ds -> All2 rb bs es -> All2 (rT2 ra' rb') (as.zip bs) (((D.fzL ds).zip (D.fzL es)).map fun z => .tup [z.1, z.2]) := by
 intro as bs ds es h
 induction h generalizing bs es with
 | nil => intro _; simp only [List.zip_nil_left, D.fzL, List.map_nil]; exact .nil
 | cons h1 t1 ih =>
  intro k;cases k with
  | nil => simp only [List.zip_nil_right, D.fzL, List.map_nil]; exact .nil
  | cons h2 t2 =>
   simp only [List.zip_cons_cons, D.fzL, List.map_cons];exact .cons ⟨_, _, rfl, ka _ _ h1, kb _ _ h2⟩ (ih t2)
theorem ji_zip {rl : Rl (List α)} {ra ra' : Rl α} {rm : Rl (List β)} {rb rb' : Rl β} [l : Ls rl ra] [k : Fz ra ra'] [l2 : Ls rm rb] [k2 : Fz rb rb'] {f : S -> Option (List α × S)} {g : S -> Option (List β × S)} (h : JE Z c f rl Z1) (h' : JE Z1 c' g rm Z2) : JI Z (iZipD c c') (fun s => (f s).bind fun p => (g p.2).map fun q => (p.1.zip q.1, q.2)) (rT2 ra' rb') Z2 := fun s O v s' hs e => by
 obtain ⟨⟨a, s1⟩, e1, e⟩ := bd e;obtain ⟨⟨b, s2⟩, e2, e⟩ := mp e;cases e;obtain ⟨d, O1, h1, h2, h3⟩ := h s O a s1 hs e1;obtain ⟨d', O2, h4, h5, h6⟩ := h' s1 O1 b s2 h3 e2;obtain ⟨o, ds, rfl, hh⟩ := l.l a d h2;obtain ⟨o', ds', rfl, hh'⟩ := l2.l b d' h5;exact ⟨_, O2, by simp only [iZipD, h1, h4, bind_some], zip_ok k.f k2.f hh hh', h6⟩
noncomputable def tLoop (put : S -> α -> S) (b : S -> Option (TR S ρ)) : List α -> S -> Option (TR S ρ)
 | [], s => some (.nx s)
 | x :: xs, s => (b (put s x)).bind fun o => match o with
  | .nx s2 => tLoop put b xs s2
  | .ct s2 => tLoop put b xs s2
  | .bk s2 => some (.nx s2)
  | .rt d s2 => some (.rt d s2)
theorem loop_ok {g : DG} {put : S -> α -> S} {r : Rl α} {b : DS} {fb : S -> Option (TR S ρ)} {Zx Zb : Shp S} (hg : JG Zh g put r Zx) (hb : JS Zx b fb Zb ⟨E.rt, E.ro, Zh⟩) (lb : Le Zb Zh) : ∀ {xs : List α} {ds : List D} {s : S} {O : DSt} {t : TR S ρ}, All2 r xs ds -> Sat Zh s O -> tLoop put fb xs s = some t -> ∃ o, dLoop g b ds O = some o /\ Rs Zh E t o := by
 intro xs ds s O t h0
 induction h0 generalizing s O t with
 | nil => intro hs e; cases e; exact ⟨_, rfl, hs⟩
 | cons h1 h2 ih =>
  intro hs e;simp only [tLoop] at e;obtain ⟨o, e1, e⟩ := bd e;obtain ⟨O1, g1, k1⟩ := hg s O _ _ hs h1;obtain ⟨o', b1, r1⟩ := hb _ O1 o k1 e1;cases o with
  | nx s2 =>
   cases o' with
   | nx O2 =>
    obtain ⟨o2, c1, c2⟩ := ih (lb.sat r1) e;exact ⟨o2, by simp only [dLoop, g1, bind_some, b1, c1], c2⟩
   | _ => exact r1.elim
  | ct s2 =>
   cases o' with
   | ct O2 =>
    obtain ⟨o2, c1, c2⟩ := ih r1 e;exact ⟨o2, by simp only [dLoop, g1, bind_some, b1, c1], c2⟩
   | _ => exact r1.elim
  | bk s2 =>
   cases e;cases o' with
   | bk O2 => exact ⟨.nx O2, by simp only [dLoop, g1, bind_some, b1], r1⟩
   | _ => exact r1.elim
  | rt d s2 =>
   cases e;cases o' with
   | rt d' O2 => exact ⟨.rt d' O2, by simp only [dLoop, g1, bind_some, b1], r1⟩
   | _ => exact r1.elim
theorem js_for {i : DI} {g : DG} {put : S -> α -> S} {r : Rl α} {b : DS} {fi : S -> Option (List α × S)} {fb : S -> Option (TR S ρ)} {Zx Zb : Shp S} (hi : JI Z i fi r Z1) (l : Le Z1 Zh) (hg : JG Zh g put r Zx) (hb : JS Zx b fb Zb ⟨E.rt, E.ro, Zh⟩) (lb : autoParam (Le Zb Zh) Ax11._auto_1) :
  JS Z (sForI i g b) (fun s => (fi s).bind fun p => tLoop put fb p.1 p.2) Zh E := fun s O v hs e => by
 obtain ⟨⟨xs, s1⟩, e1, e⟩ := bd e;obtain ⟨ds, O1, h1, h2, h3⟩ := hi s O xs s1 hs e1;obtain ⟨o, h4, h5⟩ := loop_ok hg hb lb h2 (l.sat h3) e;exact ⟨o, by simp only [sForI, h1, bind_some, h4], h5⟩
end
section
variable {S : Type} {α β γ δ ρ : Type} {Z Z0 Z1 Z2 Z3 Z4 Z' Zn Zh : Shp S} {c c' : DE} {t u : DT} {E : Ex S ρ}
theorem Sat.app : ∀ {Z Δ : Shp S} {s : S} {O τ : DSt}, Sat Z s O -> Sat Δ s τ -> Sat (Z ++ Δ) s (O ++ τ)
 | [], _, _, [], _, _, h => h
 | _ :: Z, _, _, _ :: O, _, h, k => ⟨h.1, Sat.app h.2 k⟩
 | [], _, _, _ :: _, _, h, _ => h.elim
 | _ :: _, _, _, [], _, h, _ => h.elim
theorem Sat.split : ∀ {Z Δ : Shp S} {s : S} {O : DSt}, Sat (Z ++ Δ) s O -> ∃ O1 O2, O = O1 ++ O2 /\ Sat Z s O1 /\ Sat Δ s O2
 | [], _, _, O, h => ⟨[], O, rfl, trivial, h⟩
 | _ :: Z, _, _, x :: O, h => by
  obtain ⟨O1, O2, e, h1, h2⟩ := Sat.split (Z := Z) h.2;exact ⟨x :: O1, O2, by rw [e]; rfl, ⟨h.1, h1⟩, h2⟩
 | _ :: _, _, _, [], h => h.elim
theorem Sat.non {s : S} : ∀ {k : Nat} {O : DSt}, O.length = k -> Sat (List.replicate k none) s O
 | 0, [], _ => trivial
 | k + 1, _ :: O, h => ⟨trivial, Sat.non (k := k) (by simpa using h)⟩
noncomputable def tLc (ft : α -> S -> Option (Bool × S)) (fe : α -> S -> Option (β × S)) : List α -> S -> Option (List β × S)
 | [], s => some ([], s)
 | x :: xs, s => (ft x s).bind fun p => if p.1 = true then (fe x p.2).bind fun q => (tLc ft fe xs q.2).map fun r => (q.1 :: r.1, r.2) else tLc ft fe xs p.2
noncomputable def JGc (Z : Shp S) (k : Nat) (g : DG) (r : Rl α) (Δ : α -> Shp S) : Prop := ∀ s O v d, Sat (Z ++ List.replicate k none) s O -> r v d -> ∃ O', g d O = some O' /\ Sat (Z ++ Δ v) s O'
theorem set_app {A : List (Option D)} {a b : Option D} {B : DSt} : (A ++ a :: B).set A.length b = A ++ b :: B := by
 rw [List.set_append_right _ _ (Nat.le_refl _)]; simp
theorem jgc1 {r : Rl α} (i : Nat) (hi : i = Z.length) : JGc Z 1 (gNm i) r (fun v => [some ⟨fun _ => v, r⟩]) := fun s O v d hs h => by
 obtain ⟨O1, O2, rfl, h1, h2⟩ := hs.split
 match O2, h2 with
 | [o], _ =>
  have hl : O1.length = i := by rw [h1.len, hi]
  have hl2 : i < (O1 ++ [o]).length := by simp [hl]
  refine ⟨O1 ++ [some d], ?_, h1.app ⟨⟨d, rfl, h⟩, trivial⟩⟩;simp only [gNm, hl2, if_true];rw [<- hl, set_app]
theorem jgc2 {ra : Rl α} {rb : Rl β} (i j : Nat) (hi : i = Z.length) (hj : j = Z.length + 1) : JGc Z 2 (gTupD 2 (gConsD (gNm i) (gConsD (gNm j) gNilD))) (rT2 ra rb) (fun v => [some ⟨fun _ => v.1, ra⟩, some ⟨fun _ => v.2, rb⟩]) := fun s O v d hs hq0 => by
 obtain ⟨x, y, e, hx, hy⟩ := hq0;obtain ⟨O1, O2, rfl, h1, h2⟩ := hs.split
 match O2, h2 with
 | [o, o'], _ =>
  have hl : O1.length = i := by rw [h1.len, hi]
  have hl2 : i < (O1 ++ [o, o']).length := by simp [hl]
  have hl3 : j < (O1 ++ [some x, o']).length := by simp [hl]; omega
  refine ⟨O1 ++ [some x, some y], ?_, h1.app ⟨⟨x, rfl, hx⟩, ⟨y, rfl, hy⟩, trivial⟩⟩;have e1 : (O1 ++ [o, o']).set i (some x) = O1 ++ [some x, o'] := by rw [<- hl, set_app]
  have e2 : (O1 ++ [some x, o']).set j (some y) = O1 ++ [some x, some y] := by
   have h3 : j = (O1 ++ [some x]).length := by simp; omega
   rw [show O1 ++ [some x, o'] = (O1 ++ [some x]) ++ [o'] by simp, h3, set_app]; simp
  simp only [e, gTupD, gConsD, gNilD, gNm, List.length_cons, List.length_nil, if_true, hl2, e1, bind_some, hl3, e2]
theorem jgc3 {ra : Rl α} {rb : Rl β} {rc : Rl γ} (i j m : Nat) (hi : i = Z.length) (hj : j = Z.length + 1) (hm : m = Z.length + 2) : JGc Z 3 (gTupD 3 (gConsD (gNm i) (gConsD (gNm j) (gConsD (gNm m) gNilD)))) (rT3 ra rb rc) (fun v => [some ⟨fun _ => v.1, ra⟩, some ⟨fun _ => v.2.1, rb⟩, some ⟨fun _ => v.2.2, rc⟩]) := fun s O v d hs hq0 => by
 obtain ⟨x, y, z, e, hx, hy, hz⟩ := hq0;obtain ⟨O1, O2, rfl, h1, h2⟩ := hs.split
 match O2, h2 with
 | [o, o', o''], _ =>
  have hl : O1.length = i := by rw [h1.len, hi]
  have hl2 : i < (O1 ++ [o, o', o'']).length := by simp [hl]
  have hl3 : j < (O1 ++ [some x, o', o'']).length := by simp [hl]; omega
  have hl4 : m < (O1 ++ [some x, some y, o'']).length := by simp [hl]; omega
  refine ⟨O1 ++ [some x, some y, some z], ?_, h1.app ⟨⟨x, rfl, hx⟩, ⟨y, rfl, hy⟩, ⟨z, rfl, hz⟩, trivial⟩⟩;have e1 : (O1 ++ [o, o', o'']).set i (some x) = O1 ++ [some x, o', o''] := by rw [<- hl, set_app]
  have e2 : (O1 ++ [some x, o', o'']).set j (some y) = O1 ++ [some x, some y, o''] := by
   have h3 : j = (O1 ++ [some x]).length := by simp; omega
   rw [show O1 ++ [some x, o', o''] = (O1 ++ [some x]) ++ [o', o''] by simp, h3, set_app]; simp
  have e3 : (O1 ++ [some x, some y, o'']).set m (some z) = O1 ++ [some x, some y, some z] := by
   have h3 : m = (O1 ++ [some x, some y]).length := by simp; omega
   rw [show O1 ++ [some x, some y, o''] = (O1 ++ [some x, some y]) ++ [o''] by simp, h3, set_app]; simp
  simp only [e, gTupD, gConsD, gNilD, gNm, List.length_cons, List.length_nil, if_true, hl2, e1, bind_some, hl3, e2, hl4, e3]
theorem lc_ok {k : Nat} {g : DG} {r : Rl α} {re : Rl β} {Δ : α -> Shp S} {ft : α -> S -> Option (Bool × S)} {fe : α -> S -> Option (β × S)} {Zt Ze : α -> Shp S} (hg : JGc Zh k g r Δ) (ht : ∀ x, JT (Zh ++ Δ x) t (ft x) (Zt x)) (l1 : ∀ x, Le (Zt x) (Zh ++ List.replicate k none)) (he : ∀ x, JE (Zt x) c (fe x) re (Ze x)) (l2 : ∀ x, Le (Ze x) (Zh ++ List.replicate k none)) :
  ∀ {xs : List α} {ds : List D} {s : S} {O : DSt} {ys : List β} {s' : S}, All2 r xs ds -> Sat (Zh ++ List.replicate k none) s O -> tLc ft fe xs s = some (ys, s') -> ∃ es O', lcGo g t c ds O = some (es, O') /\ All2 re ys es /\ Sat (Zh ++ List.replicate k none) s' O' := by
 intro xs ds s O ys s' h0
 induction h0 generalizing s O ys s' with
 | nil => intro hs e; cases e; exact ⟨[], O, rfl, .nil, hs⟩
 | cons h1 h2 ih =>
  intro hs e;simp only [tLc] at e;obtain ⟨⟨b, s1⟩, e1, e⟩ := bd e;obtain ⟨O1, g1, k1⟩ := hg s O _ _ hs h1;obtain ⟨O2, g2, k2⟩ := ht _ s O1 b s1 k1 e1;cases b
  ·simp only [Bool.false_eq_true, if_false] at e
   obtain ⟨es, O3, g3, r3, k3⟩ := ih ((l1 _).sat k2) e;exact ⟨es, O3, by simp only [lcGo, g1, bind_some, g2, Bool.false_eq_true, if_false, g3], r3, k3⟩
  ·simp only [if_true] at e
   obtain ⟨⟨v, s2⟩, e2, e⟩ := bd e;obtain ⟨⟨w, s3⟩, e3, e⟩ := mp e;cases e;obtain ⟨d, O3, g3, r3, k3⟩ := he _ s1 O2 v s2 k2 e2;obtain ⟨es, O4, g4, r4, k4⟩ := ih ((l2 _).sat k3) e3;exact ⟨d :: es, O4, by simp only [lcGo, g1, bind_some, g2, if_true, g3, g4, map_some], .cons r3 r4, k4⟩
theorem je_lc {k : Nat} {i : DI} {g : DG} {r : Rl α} {re : Rl β} {Δ : α -> Shp S} {fi : S -> Option (List α × S)} {ft : α -> S -> Option (Bool × S)} {fe : α -> S -> Option (β × S)} {Zt Ze : α -> Shp S} (hi : JI Z i fi r Z1) (l : Le Z1 Zh) (hg : JGc Zh k g r Δ) (ht : ∀ x, JT (Zh ++ Δ x) t (ft x) (Zt x)) (he : ∀ x, JE (Zt x) c (fe x) re (Ze x)) (l1 : autoParam (∀ x, Le (Zt x) (Zh ++ List.replicate k none)) Ax13._auto_1) (l2 : autoParam (∀ x, Le (Ze x) (Zh ++ List.replicate k none)) Ax13._auto_1) :
  JE Z (dLc k i g t c) (fun s => (fi s).bind fun p => if szC (p.1.length) = true then tLc ft fe p.1 p.2 else none) (rL re) Zh := fun s O v s' hs e => by
 obtain ⟨⟨xs, s1⟩, e1, e⟩ := bd e;obtain ⟨ds, O1, h1, h2, h3⟩ := hi s O xs s1 hs e1;dsimp only at e;split at e
 ·rename_i hl
  have hl := szC_le hl;have h4 := l.sat h3;obtain ⟨es, O2, g2, r2, k2⟩ := lc_ok hg ht l1 he l2 h2 (h4.app (Sat.non (k := k) (O := List.replicate k none) (by simp))) e;obtain ⟨Oa, Ob, rfl, ka, kb⟩ := k2.split;refine ⟨_, Oa, ?_, ⟨es, rfl, r2⟩, ka⟩;have hl2 : ds.length <= sizeLine := by rw [<- h2.len]; exact hl
  have hlen : O1.length = Oa.length := by rw [h4.len, ka.len]
  simp only [dLc, h1, bind_some, hl2, if_true, g2, map_some, hlen, List.take_left]
 ·cases e
noncomputable def tWh (ft : S -> Option (Bool × S)) (fb : S -> Option (TR S ρ)) : Nat -> S -> Option (TR S ρ)
 | 0, _ => none
 | n + 1, s => (ft s).bind fun p => if p.1 = true then (fb p.2).bind fun o => match o with
  | .nx s2 => tWh ft fb n s2
  | .ct s2 => tWh ft fb n s2
  | .bk s2 => some (.nx s2)
  | .rt d s2 => some (.rt d s2) else some (.nx p.2)
theorem wh_ok {b : DS} {ft : S -> Option (Bool × S)} {fb : S -> Option (TR S ρ)} {Zb : Shp S} (ht : JT Zh t ft Z1) (hb : JS Z1 b fb Zb ⟨E.rt, E.ro, Zh⟩) (lb : Le Zb Zh) (le : Le Z1 Zh) : ∀ {n : Nat} {s : S} {O : DSt} {v : TR S ρ}, Sat Zh s O -> tWh ft fb n s = some v -> ∃ o, dWh t b n O = some o /\ Rs Zh E v o
 | 0, _, _, _, _, e => by cases e
 | n + 1, s, O, v, hs, e => by
  simp only [tWh] at e;obtain ⟨⟨q, s1⟩, e1, e⟩ := bd e;obtain ⟨O1, g1, k1⟩ := ht s O q s1 hs e1;cases q
  ·simp only [Bool.false_eq_true, if_false] at e
   cases e;exact ⟨.nx O1, by simp only [dWh, g1, bind_some, Bool.false_eq_true, if_false], le.sat k1⟩
  ·simp only [if_true] at e
   obtain ⟨o, e2, e⟩ := bd e;obtain ⟨o', b1, r1⟩ := hb _ O1 o k1 e2;cases o with
   | nx s2 =>
    cases o' with
    | nx O2 =>
     obtain ⟨o2, c1, c2⟩ := wh_ok ht hb lb le (lb.sat r1) e;exact ⟨o2, by simp only [dWh, g1, bind_some, b1, c1, if_true], c2⟩
    | _ => exact r1.elim
   | ct s2 =>
    cases o' with
    | ct O2 =>
     obtain ⟨o2, c1, c2⟩ := wh_ok ht hb lb le r1 e;exact ⟨o2, by simp only [dWh, g1, bind_some, b1, c1, if_true], c2⟩
    | _ => exact r1.elim
   | bk s2 =>
    cases e;cases o' with
    | bk O2 => exact ⟨.nx O2, by simp only [dWh, g1, bind_some, b1, if_true], r1⟩
    | _ => exact r1.elim
   | rt d s2 =>
    cases e;cases o' with
    | rt d' O2 => exact ⟨.rt d' O2, by simp only [dWh, g1, bind_some, b1, if_true], r1⟩
    | _ => exact r1.elim
theorem js_while {n : Nat} {b : DS} {ft : S -> Option (Bool × S)} {fb : S -> Option (TR S ρ)} {Zb : Shp S} (l : Le Z Zh) (ht : JT Zh t ft Z1) (hb : JS Z1 b fb Zb ⟨E.rt, E.ro, Zh⟩) (lb : autoParam (Le Zb Zh) Ax11._auto_1) (le : autoParam (Le Z1 Zh) Ax11._auto_1) : JS Z (sWh (fun _ => n) t b) (tWh ft fb n) Zh E := fun s O v hs e => wh_ok ht hb lb le (l.sat hs) e
noncomputable def Pn : Unit -> List D -> Prop := fun _ ds => ds = []
noncomputable def Pc (r : Rl α) (P : β -> List D -> Prop) : α × β -> List D -> Prop := fun p ds => ∃ d ds', ds = d :: ds' /\ r p.1 d /\ P p.2 ds'
noncomputable def JF {P : Type} (g : GF) (h : P -> Option (ρ × P)) (PI : P -> List D -> Prop) (ro : Rl ρ) (PO : P -> List D -> Prop) : Prop := ∀ p ds v q, PI p ds -> h p = some (v, q) -> ∃ d ds', g ds = some (d, ds') /\ ro v d /\ PO q ds'
noncomputable def JA1 {A : Type} (Z : Shp S) (as : List DD.Arg) (f : S -> Option (A × S)) (oe : A -> List (Option D) -> Prop) (Z' : Shp S) : Prop := ∀ s O a s', Sat Z s O -> f s = some (a, s') -> ∃ os O', evM as O = some (os, O') /\ oe a os /\ Sat Z' s' O'
noncomputable def o0 : Unit -> List (Option D) -> Prop := fun _ os => os = []
noncomputable def oB {A : Type} (oe : A -> List (Option D) -> Prop) : A -> List (Option D) -> Prop := fun a os => ∃ o', os = none :: o' /\ oe a o'
noncomputable def oX {A : Type} (r : Rl α) (oe : A -> List (Option D) -> Prop) : α × A -> List (Option D) -> Prop := fun a os => ∃ d o', os = some d :: o' /\ r a.1 d /\ oe a.2 o'
theorem ja1_nil : JA1 Z [] (fun s => some ((), s)) o0 Z := fun s O a s' hs e => by cases e; exact ⟨[], O, rfl, rfl, hs⟩
theorem ja1_bo {A : Type} (i : Nat) {as : List DD.Arg} {f : S -> Option (A × S)} {oe : A -> List (Option D) -> Prop} {l : Sl S} (hi : Z[i]? = some (some l)) (h : JA1 Z as f oe Z') : JA1 Z (.bo i :: as) f (oB oe) Z' := fun s O a s' hs e => by
 obtain ⟨os, O', h1, h2, h3⟩ := h s O a s' hs e;obtain ⟨d, hd, _⟩ := hs.get hi;exact ⟨none :: os, O', by simp only [evM, hd, bind_some, h1, map_some], ⟨os, rfl, h2⟩, h3⟩
theorem ja1_ex {A : Type} {as : List DD.Arg} {f1 : S -> Option (α × S)} {f : S -> Option (A × S)} {oe : A -> List (Option D) -> Prop} {r : Rl α} (h0 : JE Z c f1 r Z1) (h : JA1 Z1 as f oe Z') : JA1 Z (.ex c :: as) (fun s => (f1 s).bind fun p => (f p.2).map fun q => ((p.1, q.1), q.2)) (oX r oe) Z' := fun s O a s' hs e => by
 obtain ⟨⟨v, s1⟩, e1, e⟩ := bd e;obtain ⟨⟨b, s2⟩, e2, e⟩ := mp e;cases e;obtain ⟨d, O1, g1, r1, k1⟩ := h0 s O v s1 hs e1;obtain ⟨os, O', h1, h2, h3⟩ := h s1 O1 b s2 k1 e2;exact ⟨some d :: os, O', by simp only [evM, g1, bind_some, h1, map_some], ⟨d, os, rfl, r1, h2⟩, h3⟩
noncomputable def JA2 {A P : Type} (Z : Shp S) (as : List DD.Arg) (oe : A -> List (Option D) -> Prop) (pk : A -> S -> P) (PI : P -> List D -> Prop) (Z' : Shp S) : Prop := ∀ s O a os, Sat Z s O -> oe a os -> ∃ ds O', fillM as os O = some (ds, O') /\ PI (pk a s) ds /\ Sat Z' s O'
theorem ja2_nil : JA2 Z [] o0 (fun _ _ => ()) Pn Z := fun s O a os hs e => by cases e; exact ⟨[], O, rfl, rfl, hs⟩
theorem ja2_sc {A P : Type} (i : Nat) {as : List DD.Arg} {oe : A -> List (Option D) -> Prop} {pk : A -> S -> P} {PI : P -> List D -> Prop} {get : S -> α} {r r' : Rl α} [k : Sc r] [w : Wk r r'] (hi : Z[i]? = some (some ⟨get, r⟩)) (h : JA2 Z as oe pk PI Z') : JA2 Z (.bo i :: as) (oB oe) (fun a s => (get s, pk a s)) (Pc r' PI) Z' := fun s O a os hs hq0 => by
 obtain ⟨o', e, ho⟩ := hq0;obtain ⟨ds, O', h1, h2, h3⟩ := h s O a o' hs ho;obtain ⟨d, hd, rd⟩ := hs.get hi;obtain ⟨v, hv⟩ := k.s _ _ rd;exact ⟨d :: ds, O', by simp only [e, fillM, hd, bind_some, hv, h1, map_some], ⟨d, ds, rfl, w.w _ _ rd, h2⟩, h3⟩
theorem ja2_ns {A P : Type} (i : Nat) {as : List DD.Arg} {oe : A -> List (Option D) -> Prop} {pk : A -> S -> P} {PI : P -> List D -> Prop} {get : S -> α} {r r' : Rl α} [k : Ns r] [w : Wk r r'] (hi : Z[i]? = some (some ⟨get, r⟩)) (h : JA2 (Z.set i none) as oe pk PI Z') : JA2 Z (.bo i :: as) (oB oe) (fun a s => (get s, pk a s)) (Pc r' PI) Z' := fun s O a os hs hq0 => by
 obtain ⟨o', e, ho⟩ := hq0;obtain ⟨d, hd, rd⟩ := hs.get hi;obtain ⟨ds, O', h1, h2, h3⟩ := h s (O.set i none) a o' hs.setn ho;have hv := k.s _ _ rd;exact ⟨d :: ds, O', by simp only [e, fillM, hd, bind_some, hv, h1, map_some], ⟨d, ds, rfl, w.w _ _ rd, h2⟩, h3⟩
theorem ja2_ex {A P : Type} {as : List DD.Arg} {oe : A -> List (Option D) -> Prop} {pk : A -> S -> P} {PI : P -> List D -> Prop} {r r' : Rl α} [w : Wk r r'] (h : JA2 Z as oe pk PI Z') : JA2 Z (.ex c :: as) (oX r oe) (fun a s => (a.1, pk a.2 s)) (Pc r' PI) Z' := fun s O a os hs hq0 => by
 obtain ⟨d, o', e, rd, ho⟩ := hq0;obtain ⟨ds, O', h1, h2, h3⟩ := h s O a.2 o' hs ho;exact ⟨d :: ds, O', by simp only [e, fillM, h1, map_some], ⟨d, ds, rfl, w.w _ _ rd, h2⟩, h3⟩
noncomputable def JA3 {P : Type} (Z : Shp S) (as : List DD.Arg) (PO : P -> List D -> Prop) (u : S -> P -> S) (Z' : Shp S) : Prop := ∀ s O q ds, Sat Z s O -> PO q ds -> Sat Z' (u s q) (backM as ds O)
theorem ja3_nil : JA3 Z [] Pn (fun s _ => s) Z := fun s O q ds hs e => by cases e; exact hs
theorem ja3_sc {P : Type} (i : Nat) {as : List DD.Arg} {PO : P -> List D -> Prop} {u : S -> P -> S} {r : Rl α} [k : Sc r] (h : JA3 Z as PO u Z') : JA3 Z (.bo i :: as) (Pc r PO) (fun s q => u s q.2) Z' := fun s O q ds hs hq0 => by
 obtain ⟨d, ds', e, rd, hp⟩ := hq0;obtain ⟨v, hv⟩ := k.s _ _ rd;simp only [e, backM, hv];exact h s O q.2 ds' hs hp
theorem ja3_ns {P : Type} (i : Nat) {as : List DD.Arg} {PO : P -> List D -> Prop} {u : S -> P -> S} {get : S -> α} {put : S -> α -> S} {r : Rl α} [k : Ns r] (hg : autoParam (∀ s v, get (put s v) = v) Ax8._auto_1) (hf : autoParam (∀ v, Fr (fun s => put s v) (Z.set i none)) Ax10._auto_1) (h : JA3 (Z.set i (some ⟨get, r⟩)) as PO u Z') : JA3 Z (.bo i :: as) (Pc r PO) (fun s q => u (put s q.1) q.2) Z' := fun s O q ds hs hq0 => by
 obtain ⟨d, ds', e, rd, hp⟩ := hq0;have hv := k.s _ _ rd;simp only [e, backM, hv];exact h _ _ q.2 ds' (hs.put hg hf rd) hp
theorem ja3_any {P : Type} (i : Nat) {as : List DD.Arg} {PO : P -> List D -> Prop} {u : S -> P -> S} {r : Rl α} (h : JA3 (Z.set i none) as PO u Z') : JA3 Z (.bo i :: as) (Pc r PO) (fun s q => u s q.2) Z' := fun s O q ds hs hq0 => by
 obtain ⟨d, ds', e, rd, hp⟩ := hq0;rcases hv : d.sc with _ | w
 ·simp only [e, backM, hv]
  exact h s _ q.2 ds' hs.setn hp
 ·simp only [e, backM, hv]
  exact h s O q.2 ds' (On.setn hs) hp
theorem ja3_ex {P : Type} {as : List DD.Arg} {PO : P -> List D -> Prop} {u : S -> P -> S} {r : Rl α} (h : JA3 Z as PO u Z') : JA3 Z (.ex c :: as) (Pc r PO) (fun s q => u s q.2) Z' := fun s O q ds hs hq0 => by
 obtain ⟨d, ds', e, rd, hp⟩ := hq0;simp only [e, backM];exact h s O q.2 ds' hs hp
theorem je_call {A P : Type} {g : GF} {h : P -> Option (ρ × P)} {as : List DD.Arg} {f : S -> Option (A × S)} {oe : A -> List (Option D) -> Prop} {pk : A -> S -> P} {PI PO : P -> List D -> Prop} {ro : Rl ρ} {u : S -> P -> S} (hF : JF g h PI ro PO) (h1 : JA1 Z as f oe Z1) (h2 : JA2 Z1 as oe pk PI Z2) (h3 : JA3 Z2 as PO u Z3) :
  JE Z (dCall g as) (fun s => (f s).bind fun p => (h (pk p.1 p.2)).map fun q => (q.1, u p.2 q.2)) ro Z3 := fun s O v s' hs e => by
 obtain ⟨⟨a, s1⟩, e1, e⟩ := bd e;obtain ⟨⟨w, q⟩, e2, e⟩ := mp e;obtain ⟨rfl, rfl⟩ := Prod.mk.inj e;obtain ⟨os, O1, g1, r1, k1⟩ := h1 s O a s1 hs e1;obtain ⟨ds, O2, g2, r2, k2⟩ := h2 s1 O1 a os k1 r1;obtain ⟨d, ds', g3, r3, k3⟩ := hF _ _ _ _ r2 e2;exact ⟨d, _, by simp only [dCall, g1, bind_some, g2, g3, map_some], r3, h3 s1 O2 q ds' k2 k3⟩
end
section
variable {S : Type} {α β γ δ ρ : Type} {P Q : Type}
noncomputable def JI0 (W : List Nat) (k : Nat) (PI : P -> List D -> Prop) (Z : Shp Q) (pr : P -> Q) : Prop := ∀ p ds, PI p ds -> Sat Z (pr p) ((inD W k ds).map some) /\ ds.length = Z.length
theorem jin_nil {W : List Nat} {k : Nat} {pr : Unit -> Q} : JI0 W k Pn ([] : Shp Q) pr := fun p ds h => by cases h; exact ⟨trivial, rfl⟩
theorem jin_cons {W : List Nat} {k : Nat} {PI : P -> List D -> Prop} {Z : Shp Q} {r : Rl α} {get : Q -> α} {pr : α × P -> Q} (hk : k ∉ W) (h0 : ∀ p, get (pr p) = p.1) (h : ∀ a, JI0 W (k + 1) PI Z (fun p => pr (a, p))) : JI0 W k (Pc r PI) (some ⟨get, r⟩ :: Z) pr := fun p ds hq0 => by
 obtain ⟨d, ds', e, rd, hp⟩ := hq0;obtain ⟨h1, h2⟩ := h p.1 p.2 ds' hp;refine ⟨?_, by simp [e, h2]⟩;simp only [e, inD, hk, if_false, List.map_cons];exact ⟨⟨d, rfl, by rw [show (Sl.mk get r).get = get from rfl, h0]; exact rd⟩, h1⟩
theorem jin_fz {W : List Nat} {k : Nat} {PI : P -> List D -> Prop} {Z : Shp Q} {r r' : Rl α} [z : Fz r r'] {get : Q -> α} {pr : α × P -> Q} (hk : k ∈ W) (h0 : ∀ p, get (pr p) = p.1) (h : ∀ a, JI0 W (k + 1) PI Z (fun p => pr (a, p))) : JI0 W k (Pc r PI) (some ⟨get, r'⟩ :: Z) pr := fun p ds hq0 => by
 obtain ⟨d, ds', e, rd, hp⟩ := hq0;obtain ⟨h1, h2⟩ := h p.1 p.2 ds' hp;refine ⟨?_, by simp [e, h2]⟩;simp only [e, inD, hk, if_true, List.map_cons];exact ⟨⟨d.fz, rfl, by rw [show (Sl.mk get r').get = get from rfl, h0]; exact z.f _ _ rd⟩, h1⟩
noncomputable def JO0 (W : List Nat) (k : Nat) (PI : P -> List D -> Prop) (Zr : Shp S) (fin : P -> S -> P) (PO : P -> List D -> Prop) : Prop := ∀ p ds s O, PI p ds -> Sat Zr s O -> PO (fin p s) (outD W O k ds)
theorem jout_nil {W : List Nat} {k : Nat} {Zr : Shp S} : JO0 W k Pn Zr (fun p _ => p) Pn := fun p ds s O h _ => by cases h; rfl
theorem jout_keep {W : List Nat} {k : Nat} {PI PO : P -> List D -> Prop} {Zr : Shp S} {fin : P -> S -> P} {r q : Rl α} {get : S -> α} (hk : k ∉ W) (hi : Zr[k]? = some (some ⟨get, q⟩)) (h : JO0 W (k + 1) PI Zr fin PO) : JO0 W k (Pc r PI) Zr (fun p s => (get s, fin p.2 s)) (Pc q PO) := fun p ds s O hq0 hs => by
 obtain ⟨d, ds', e, rd, hp⟩ := hq0;obtain ⟨d', hd, rd'⟩ := hs.get hi;exact ⟨d', _, by simp only [e, outD, hk, if_false, hd, Option.getD_some], rd', h p.2 ds' s O hp hs⟩
theorem jout_fz {W : List Nat} {k : Nat} {PI PO : P -> List D -> Prop} {Zr : Shp S} {fin : P -> S -> P} {r r' : Rl α} [z : Fz r r'] (hk : k ∈ W) (h : JO0 W (k + 1) PI Zr fin PO) : JO0 W k (Pc r PI) Zr (fun p s => (p.1, fin p.2 s)) (Pc r' PO) := fun p ds s O ⟨d, ds', e, rd, hp⟩ hs =>
 ⟨d.fz, _, by simp only [e, outD, hk, if_true], z.f _ _ rd, h p.2 ds' s O hp hs⟩
noncomputable def rAny {α : Type} : Rl α := fun _ _ => True
theorem jout_any {W : List Nat} {k : Nat} {PI PO : P -> List D -> Prop} {Zr : Shp S} {fin : P -> S -> P} {r : Rl α} (hk : k ∉ W) (h : JO0 W (k + 1) PI Zr fin PO) : JO0 W k (Pc r PI) Zr (fun p s => (p.1, fin p.2 s)) (Pc rAny PO) := fun p ds s O ⟨d, ds', e, rd, hp⟩ hs =>
 ⟨(dget O k).getD .hole, _, by simp only [e, outD, hk, if_false], trivial, h p.2 ds' s O hp hs⟩
theorem jf_rt {N : Nat} {W : List Nat} {c : DS} {Zp Zn Zr : Shp S} {f : S -> Option (TR S ρ)} {init : P -> S} {fin : P -> S -> P} {PI PO : P -> List D -> Prop} {ro : Rl ρ} (hi : JI0 W 0 PI Zp init) (hb : JS (Zp ++ List.replicate (N - Zp.length) none) c f Zn ⟨Zr, ro, []⟩) (ho : JO0 W 0 PI Zr fin PO) :
  JF (gOf N W c) (fun p => (f (init p)).bind fun t => match t with | .rt v s => some (v, fin p s) | _ => none) PI ro PO := fun p ds v q hp e => by
 obtain ⟨t, e1, e⟩ := bd e;obtain ⟨h1, h2⟩ := hi p ds hp;have hs := h1.app (Sat.non (s := init p) (k := N - Zp.length) (O := List.replicate (N - Zp.length) none) (by simp));obtain ⟨o, ho1, ro1⟩ := hb _ _ t hs e1;cases t with
 | rt w s =>
  cases e;cases o with
  | rt d O => exact ⟨d, _, by simp only [gOf, h2, ho1, bind_some], ro1.1, ho p ds s O hp ro1.2⟩
  | _ => exact ro1.elim
 | _ => cases e
end
section
variable {S : Type} {α β γ δ ρ : Type} {Z Z0 Z1 Z2 Z3 Z4 Z' Zn Zh : Shp S} {c c' : DE} {t u : DT} {E : Ex S ρ}
theorem jp_l0 {r : Rl α} : JP Z (pLst []) (fun _ => some []) (rL r) := fun s O v hs e => by
 cases e;exact ⟨.lst true [], by simp only [pLst, evB, bind_some, List.length_nil, Nat.zero_le, if_true], [], rfl, .nil⟩
noncomputable def JPL (Z : Shp S) (ps : List DP) (f : S -> Option (List α)) (r : Rl α) : Prop := ∀ s O v, Sat Z s O -> f s = some v -> ∃ ds, evB ps O = some ds /\ All2 r v ds
theorem jpl_nil {r : Rl α} : JPL Z [] (fun _ => some []) r := fun s O v hs e => by cases e; exact ⟨[], rfl, .nil⟩
theorem jpl_cons {r : Rl α} {p : DP} {ps : List DP} {f : S -> Option α} {g : S -> Option (List α)} (h : JP Z p f r) (k : JPL Z ps g r) : JPL Z (p :: ps) (fun s => (f s).bind fun a => (g s).map fun as => a :: as) r := fun s O v hs e => by
 obtain ⟨a, e1, e⟩ := bd e;obtain ⟨as, e2, e⟩ := mp e;cases e;obtain ⟨d, h1, h2⟩ := h s O a hs e1;obtain ⟨ds, h3, h4⟩ := k s O as hs e2;exact ⟨d :: ds, by simp only [evB, h1, h3, bind_some, map_some], .cons h2 h4⟩
theorem jp_lst {r : Rl α} {ps : List DP} {f : S -> Option (List α)} (h : JPL Z ps f r) : JP Z (pLst ps) (fun s => (f s).bind fun xs => if szC (xs.length) = true then some xs else none) (rL r) := fun s O v hs e => by
 obtain ⟨a, e1, e⟩ := bd e;obtain ⟨ds, h3, h4⟩ := h s O a hs e1;split at e
 ·rename_i hl
  have hl := szC_le hl;cases e;exact ⟨.lst true ds, by simp only [pLst, h3, bind_some, <- h4.len, hl, if_true], ds, rfl, h4⟩
 ·cases e
theorem pyC {x : D} {xs : List D} {p : PyData} {ps : List PyData} (h : x.py = some p) (h' : D.pyL xs = some ps) : D.pyL (x :: xs) = some (p :: ps) := by simp only [D.pyL, h, h', bind_some, map_some]
theorem pyT {xs : List D} {ps : List PyData} (h : D.pyL xs = some ps) : (D.tup xs).py = some (.tuple ps) := by simp only [D.py, h, map_some]
theorem layC {p : PyData} {ps : List PyData} (h : p.canLay0 = true) (h' : PyData.canLayAll0 ps = true) : PyData.canLayAll0 (p :: ps) = true := by simp only [PyData.canLayAll0, h, h', Bool.and_self]
theorem layT {ps : List PyData} (h : PyData.canLayAll0 ps = true) : (PyData.tuple ps).canLay0 = true := by simp only [PyData.canLay0, h]
theorem dpC {p : PyData} {ps : List PyData} {k : Nat} (h : p.depth <= k) (h' : PyData.depthAll ps <= k) : PyData.depthAll (p :: ps) <= k := by simp only [PyData.depthAll]; omega
theorem dpN {k : Nat} : PyData.depthAll [] <= k := by simp only [PyData.depthAll]; omega
theorem dpT {ps : List PyData} {k : Nat} (h : PyData.depthAll ps <= k) : (PyData.tuple ps).depth <= k + 1 := by simp only [PyData.depth]; omega
instance {r : Rl α} {q : Rl β} {t : Rl γ} {u : Rl δ} [k : Py r] [l : Py q] [m : Py t] [n : Py u] : Py (rT4 r q t u) := ⟨fun p => .tuple [Py.pe r p.1, Py.pe q p.2.1, Py.pe t p.2.2.1, Py.pe u p.2.2.2], fun p => Py.ok r p.1 && Py.ok q p.2.1 && Py.ok t p.2.2.1 && Py.ok u p.2.2.2, max (max (Py.k r) (Py.k q)) (max (Py.k t) (Py.k u)) + 1,
 fun a d hq0 => by obtain ⟨x, y, z, w, e, h1, h2, h3, h4⟩ := hq0; rw [e]; exact pyT (pyC (k.py _ _ h1) (pyC (l.py _ _ h2) (pyC (m.py _ _ h3) (pyC (n.py _ _ h4) rfl)))), fun a h => by
  simp only [Bool.and_eq_true] at h;exact layT (layC (k.lay _ h.1.1.1) (layC (l.lay _ h.1.1.2) (layC (m.lay _ h.1.2) (layC (n.lay _ h.2) rfl)))), fun a h => by
  simp only [Bool.and_eq_true] at h;exact dpT (dpC (Nat.le_trans (k.dep a.1 h.1.1.1) (Nat.le_trans (Nat.le_max_left _ _) (Nat.le_max_left _ _))) (dpC (Nat.le_trans (l.dep a.2.1 h.1.1.2) (Nat.le_trans (Nat.le_max_right _ _) (Nat.le_max_left _ _))) (dpC (Nat.le_trans (m.dep a.2.2.1 h.1.2) (Nat.le_trans (Nat.le_max_left _ _) (Nat.le_max_right _ _))) (dpC (Nat.le_trans (n.dep a.2.2.2 h.2) (Nat.le_trans (Nat.le_max_right _ _) (Nat.le_max_right _ _))) dpN))))⟩
end
section
variable {S : Type} {α β γ δ ρ : Type} {Z Z0 Z1 Z2 Z3 Z4 Z' Zn Zh : Shp S} {c c' : DE} {t u : DT} {E : Ex S ρ} {P : Type}
end
section
variable {S : Type} {α β γ δ ρ : Type} {Z Z0 Z1 Z2 Z3 Z4 Z' Zn Zh : Shp S} {c c' : DE} {t u : DT} {E : Ex S ρ} {P : Type}
end
section
variable {S : Type} {α β γ δ ρ : Type} {Z Z0 Z1 Z2 Z3 Z4 Z' Zn Zh : Shp S} {c c' : DE} {t u : DT} {E : Ex S ρ} {P : Type}
end
end TT
namespace TT
open PySem DD
variable {S α β γ : Type} {Z Z1 Z2 Z' : Shp S}
theorem any_eq {r : Rl α} {q : Rl β} [Py r] [Py q] {f : α -> β -> Bool} [k : EqR r q f] {b : β} : ∀ {as : List α}, (as.map (Py.pe r)).any (fun z => PyData.eqv z (Py.pe q b)) = as.any fun a => f a b
 | [] => rfl
 | a :: as => by rw [List.map_cons, List.any_cons, List.any_cons, any_eq, k.eqv]
noncomputable def inT (ok : α -> Bool) (f : α -> Bool) (xs : List α) : Option Bool := if xs.all ok = true then some (xs.any f) else none
theorem inL_t {rl : Rl (List α)} {r : Rl α} {q : Rl β} [l : Ls rl r] [kr : Py r] [kq : Py q] {f : α -> β -> Bool} [k : EqR r q f] {b : β} {xs : List α} {t : Bool} {x y : D} (e : inT (fun a => Py.ok r a && Py.ok q b && decide (min (Py.k r) (Py.k q) <= 50)) (fun a => f a b) xs = some t)
  (h1 : q b x) (h2 : rl xs y) : inL x y = some t := by
 unfold inT at e;split at e
 ·rename_i h
  cases e;obtain ⟨o, ds, rfl, h3⟩ := l.l xs y h2;have hp := pyL_of h3;have hall : ((xs.map (Py.pe r)).all fun z => pyOk z (Py.pe q b)) = true := by
   rw [List.all_map];rw [List.all_eq_true] at h ⊢;intro z hz;exact py_ok (h z hz)
  simp only [inL, D.py, hp, map_some, bind_some, kq.py _ _ h1, hall, if_true, any_eq]
 ·cases e
theorem jo_in {rl : Rl (List α)} {r : Rl α} {q : Rl β} [l : Ls rl r] [kr : Py r] [kq : Py q] {f : α -> β -> Bool} [k : EqR r q f] : JO gIn (fun (b : β) (xs : List α) => inT (fun a => Py.ok r a && Py.ok q b && decide (min (Py.k r) (Py.k q) <= 50)) (fun a => f a b) xs) q rl rB := fun a b c x y e h1 h2 =>
 ⟨_, by simp only [gIn, inL_t (rl := rl) (r := r) (q := q) e h1 h2, map_some], rfl⟩
section
variable {c c' : DE} {t u : DT} {Zh : Shp S} {α β : Type}
end
end TT
namespace TT
open PySem DD L2
variable {S α β γ : Type} {Z Z1 Z2 Z' : Shp S} {c c' : DE} {t u : DT}
noncomputable def enT : Nat -> List α -> List (Int × α)
 | _, [] => []
 | n, x :: xs => ((n : Int), x) :: enT (n + 1) xs
theorem enT_len : ∀ (xs : List α) (n : Nat), (enT n xs).length = xs.length
 | [], _ => rfl
 | _ :: xs, n => by simp [enT, enT_len xs]
theorem all2_en {r : Rl α} : ∀ {xs : List α} {ds : List D} (n : Nat), All2 r xs ds -> All2 (rT2 rI r) (enT n xs) (enD n ds)
 | _, _, n, .nil => .nil
 | _, _, n, .cons h t => .cons ⟨_, _, rfl, rfl, h⟩ (all2_en (n + 1) t)
theorem ji_en (n0 : Nat) {rl : Rl (List α)} {r r' : Rl α} [l : Ls rl r] [k : Fz r r'] {f : S -> Option (List α × S)} (h1 : JE Z c f rl Z1) : JI Z (iEnD n0 c) (fun s => (f s).map fun p => (enT n0 p.1, p.2)) (rT2 rI r') Z1 := fun s O v s' hs e => by
 obtain ⟨⟨a, s1⟩, e1, e⟩ := mp e;cases e;obtain ⟨x, O1, hx, rx, k1⟩ := h1 s O a s1 hs e1;obtain ⟨o, ds, rfl, h⟩ := l.l a x rx;exact ⟨_, O1, by simp only [iEnD, hx, bind_some], all2_en n0 (h.fz k.f), k1⟩
variable {S α β γ : Type} {Z Z1 : Shp S} {c : DE}
theorem je_opR {g : D -> D -> Option D} {h : α -> β -> Option γ} {ra : Rl α} {rb : Rl β} {rc : Rl γ} {q : DP} {f1 : S -> Option (α × S)} {f2 : S -> Option β} (o : JO g h ra rb rc) (h1 : JE Z c f1 ra Z1) (h2 : JP Z1 q f2 rb) :
  JE Z (dOpR g c q) (fun s => (f1 s).bind fun p => (f2 p.2).bind fun y => (h p.1 y).map fun d => (d, p.2)) rc Z1 := fun s O v s' hs e => by
 obtain ⟨⟨a, s1⟩, e1, e⟩ := bd e;obtain ⟨b, e2, e⟩ := bd e;obtain ⟨d, e3, e⟩ := mp e;cases e;obtain ⟨x, O1, hx, rx, k1⟩ := h1 s O a s1 hs e1;obtain ⟨y, hy, ry⟩ := h2 s1 O1 b k1 e2;obtain ⟨z, hz, rz⟩ := o _ _ _ _ _ e3 rx ry;exact ⟨z, O1, by simp only [dOpR, hx, hy, hz, bind_some, map_some], rz, k1⟩
end TT
namespace TT
open PySem L2 DD
section
variable {S : Type} {α β γ δ ρ : Type} {Z Z0 Z1 Z2 Z3 Z4 Z' Zn Zh : Shp S} {c c' : DE} {t u : DT} {E : Ex S ρ} {P : Type}
noncomputable def two (j : Int) : List Int := (List.range ((j.toNat + 1) / 2)).map fun (k : Nat) => 0 + (k : Int) * 2
noncomputable def rgC (j : Int) : Bool := decide (0 <= j /\ j <= 1000)
theorem je_listR {f : S -> Option (Int × S)} (h : JE Z c f rI Z1) : JE Z (dListR c) (fun s => (f s).bind fun p => if rgC p.1 = true then some ((List.range p.1.toNat).map fun (q : Nat) => (q : Int), p.2) else none) (rL rI) Z1 := by
 intro s O v s' hs e;obtain ⟨⟨a, s1⟩, e1, e⟩ := bd e;dsimp only at e;split at e
 ·rename_i hl
  cases e;obtain ⟨d, O1, h1, h2, h3⟩ := h s O a _ hs e1;cases h2;refine ⟨.lst true ((List.range' 0 a.toNat).map fun (q : Nat) => D.int (q : Int)), O1, ?_, ⟨_, rfl, ?_⟩, h3⟩
  ·simp only [dListR, h1, bind_some]
   exact if_pos hl
  ·rw [<- List.range_eq_range']
   exact All2.ofMap (r := rI) (f := fun (k : Nat) => (k : Int)) (g := fun (k : Nat) => D.int (k : Int)) (fun _ => rfl) _
 ·cases e
theorem All2.erase {r : Rl α} {as : List α} {ds : List D} (h : All2 r as ds) : ∀ n : Nat, All2 r (as.eraseIdx n) (ds.eraseIdx n) := by
 induction h with
 | nil => intro n; exact .nil
 | cons h1 h2 ih =>
  intro n;rcases n with _ | n
  ·exact h2
  ·exact .cons h1 (ih n)
theorem je_popAt (i : Nat) {get : S -> List α} {put : S -> List α -> S} {r : Rl α} {f : S -> Option (Int × S)} (h : JE Z c f rI Z1) (h0 : Z[i]? = some (some ⟨get, rL r⟩)) (hi : Z1[i]? = some (some ⟨get, rL r⟩)) (hg : autoParam (∀ s v, get (put s v) = v) Ax8._auto_1) (hf : autoParam (∀ v, Fr (fun s => put s v) (Z1.set i none)) Ax10._auto_1) :
  JE Z (dPopAt i c) (fun s => (f s).bind fun p => if rgC p.1 = true then ((get p.2)[p.1.toNat]?).map fun y => (y, put p.2 ((get p.2).eraseIdx p.1.toNat)) else none) r (Z1.set i (some ⟨get, rL r⟩)) := by
 intro s O v s' hs e;obtain ⟨⟨a, s1⟩, e1, e⟩ := bd e;dsimp only at e;split at e
 ·rename_i hl
  obtain ⟨y, e2, e3⟩ := mp e;cases e3;obtain ⟨d, O1, h1, h2, h3⟩ := h s O a s1 hs e1;cases h2;obtain ⟨d0, hd0, ds0, rfl, _⟩ := hs.get h0;obtain ⟨d1, hd1, ds1, rfl, h5⟩ := h3.get hi;obtain ⟨z, hz, rz⟩ := h5.get e2;refine ⟨z, _, ?_, rz, h3.put hg hf ⟨_, rfl, h5.erase _⟩⟩;unfold rgC at hl;simp only [dPopAt, hd0, h1, bind_some, hd1, hl, if_true, hz, map_some]
 ·cases e
theorem js_asgL4 {r : Rl α} {i j k m : Nat} {p1 p2 p3 p4 : S -> α -> S} {f : S -> Option (List α × S)} (h : JE Z c f (rL r) Z0) (h1 : JG Z0 (gNm i) p1 r Z1) (h2 : JG Z1 (gNm j) p2 r Z2) (h3 : JG Z2 (gNm k) p3 r Z3) (h4 : JG Z3 (gNm m) p4 r Z4) :
  JS Z (sAsg c (gTupDL 4 (gConsD (gNm i) (gConsD (gNm j) (gConsD (gNm k) (gConsD (gNm m) gNilD)))))) (fun s => (f s).bind fun p => match p.1 with | [a, b, c, d] => some (.nx (p4 (p3 (p2 (p1 p.2 a) b) c) d)) | _ => none) Z4 E := by
 intro s O v hs e;obtain ⟨⟨xs, s1⟩, e1, e⟩ := bd e;dsimp only at e;obtain ⟨d, O0, g0, ⟨ds, ed, rd⟩, k0⟩ := h s O xs s1 hs e1;subst ed;split at e
 ·rename_i a b c' d'
  cases e;cases rd with
  | cons ra rd => cases rd with
   | cons rb rd => cases rd with
    | cons rc rd => cases rd with
     | cons re rd =>
      cases rd;obtain ⟨O1, g1, k1⟩ := h1 _ _ _ _ k0 ra;obtain ⟨O2, g2, k2⟩ := h2 _ _ _ _ k1 rb;obtain ⟨O3, g3, k3⟩ := h3 _ _ _ _ k2 rc;obtain ⟨O4, g4, k4⟩ := h4 _ _ _ _ k3 re;refine ⟨.nx O4, ?_, k4⟩;simp only [sAsg, g0, bind_some, gTupDL, List.length_cons, List.length_nil, if_true, gConsD, gNilD, g1, g2, g3, g4];rfl
 ·cases e
end
section
variable {S : Type} {α β γ δ ρ : Type} {Z Z0 Z1 Z2 Z3 Z4 Z' Zn Zh : Shp S} {c c' : DE} {t u : DT} {E : Ex S ρ} {P : Type}
theorem jgc4 {ra : Rl α} {rb : Rl β} {rc : Rl γ} {rd : Rl δ} (i j m n : Nat) (hi : i = Z.length) (hj : j = Z.length + 1) (hm : m = Z.length + 2) (hn : n = Z.length + 3) : JGc Z 4 (gTupD 4 (gConsD (gNm i) (gConsD (gNm j) (gConsD (gNm m) (gConsD (gNm n) gNilD))))) (rT4 ra rb rc rd) (fun v => [some ⟨fun _ => v.1, ra⟩, some ⟨fun _ => v.2.1, rb⟩, some ⟨fun _ => v.2.2.1, rc⟩, some ⟨fun _ => v.2.2.2, rd⟩]) := by
 intro s O v d hs hv;obtain ⟨x, y, z, w, e, hx, hy, hz, hw⟩ := hv;obtain ⟨O1, O2, rfl, h1, h2⟩ := hs.split
 match O2, h2 with
 | [o, o', o'', o3], _ =>
  have hl : O1.length = i := by rw [h1.len, hi]
  have hl2 : i < (O1 ++ [o, o', o'', o3]).length := by simp [hl]
  have hl3 : j < (O1 ++ [some x, o', o'', o3]).length := by simp [hl]; omega
  have hl4 : m < (O1 ++ [some x, some y, o'', o3]).length := by simp [hl]; omega
  have hl5 : n < (O1 ++ [some x, some y, some z, o3]).length := by simp [hl]; omega
  refine ⟨O1 ++ [some x, some y, some z, some w], ?_, h1.app ⟨⟨x, rfl, hx⟩, ⟨y, rfl, hy⟩, ⟨z, rfl, hz⟩, ⟨w, rfl, hw⟩, trivial⟩⟩;have e1 : (O1 ++ [o, o', o'', o3]).set i (some x) = O1 ++ [some x, o', o'', o3] := by rw [<- hl, set_app]
  have e2 : (O1 ++ [some x, o', o'', o3]).set j (some y) = O1 ++ [some x, some y, o'', o3] := by
   have h3 : j = (O1 ++ [some x]).length := by simp; omega
   rw [show O1 ++ [some x, o', o'', o3] = (O1 ++ [some x]) ++ [o', o'', o3] by simp, h3, set_app]; simp
  have e3 : (O1 ++ [some x, some y, o'', o3]).set m (some z) = O1 ++ [some x, some y, some z, o3] := by
   have h3 : m = (O1 ++ [some x, some y]).length := by simp; omega
   rw [show O1 ++ [some x, some y, o'', o3] = (O1 ++ [some x, some y]) ++ [o'', o3] by simp, h3, set_app]; simp
  have e4 : (O1 ++ [some x, some y, some z, o3]).set n (some w) = O1 ++ [some x, some y, some z, some w] := by
   have h3 : n = (O1 ++ [some x, some y, some z]).length := by simp; omega
   rw [show O1 ++ [some x, some y, some z, o3] = (O1 ++ [some x, some y, some z]) ++ [o3] by simp, h3, set_app]; simp
  simp only [e, gTupD, gConsD, gNilD, gNm, List.length_cons, List.length_nil, if_true, hl2, e1, bind_some, hl3, e2, hl4, e3, hl5, e4]
noncomputable def zip4T (as : List α) (bs : List β) (cs : List γ) (ds : List δ) : List (α × β × γ × δ) := ((as.zip bs).zip (cs.zip ds)).map fun z => (z.1.1, z.1.2, z.2.1, z.2.2)
theorem zip4_ok {ra ra' : Rl α} {rb rb' : Rl β} {rc rc' : Rl γ} {rd rd' : Rl δ} (ka : ∀ a d, ra a d -> ra' a d.fz) (kb : ∀ a d, rb a d -> rb' a d.fz) (kc : ∀ a d, rc a d -> rc' a d.fz) (kd : ∀ a d, rd a d -> rd' a d.fz) {as : List α} {d1 : List D} (h1 : All2 ra as d1) :
  ∀ {bs : List β} {cs : List γ} {ds : List δ} {d2 d3 d4 : List D}, All2 rb bs d2 -> All2 rc cs d3 -> All2 rd ds d4 -> All2 (rT4 ra' rb' rc' rd') (zip4T as bs cs ds) (zip4D (D.fzL d1) (D.fzL d2) (D.fzL d3) (D.fzL d4)) := by
 induction h1 with
 | nil => intro bs cs ds d2 d3 d4 _ _ _; unfold zip4T zip4D; simp only [List.zip_nil_left, D.fzL, List.map_nil]; exact .nil
 | cons h t ih =>
  intro bs cs ds d2 d3 d4 h2 h3 h4;cases h2 with
  | nil => unfold zip4T zip4D; simp only [List.zip_nil_right, List.zip_nil_left, D.fzL, List.map_nil]; exact .nil
  | cons k2 t2 => cases h3 with
   | nil => unfold zip4T zip4D; simp only [List.zip_nil_right, List.zip_nil_left, D.fzL, List.map_nil]; exact .nil
   | cons k3 t3 => cases h4 with
    | nil => unfold zip4T zip4D; simp only [List.zip_nil_right, List.zip_nil_left, D.fzL, List.map_nil]; exact .nil
    | cons k4 t4 =>
     have q := ih t2 t3 t4;unfold zip4T zip4D at q ⊢;simp only [D.fzL, List.zip_cons_cons, List.map_cons];exact .cons ⟨_, _, _, _, rfl, ka _ _ h, kb _ _ k2, kc _ _ k3, kd _ _ k4⟩ q
theorem ji_zip4 {r1 : Rl (List α)} {ra ra' : Rl α} {r2 : Rl (List β)} {rb rb' : Rl β} {r3 : Rl (List γ)} {rc rc' : Rl γ} {r4 : Rl (List δ)} {rd rd' : Rl δ} [l1 : Ls r1 ra] [k1 : Fz ra ra'] [l2 : Ls r2 rb] [k2 : Fz rb rb'] [l3 : Ls r3 rc] [k3 : Fz rc rc'] [l4 : Ls r4 rd] [k4 : Fz rd rd'] {c1 c2 c3 c4 : DE}
  {f1 : S -> Option (List α × S)} {f2 : S -> Option (List β × S)} {f3 : S -> Option (List γ × S)} {f4 : S -> Option (List δ × S)} (h1 : JE Z c1 f1 r1 Z1) (h2 : JE Z1 c2 f2 r2 Z2) (h3 : JE Z2 c3 f3 r3 Z3) (h4 : JE Z3 c4 f4 r4 Z4) :
  JI Z (iZip4D c1 c2 c3 c4) (fun s => (f1 s).bind fun p => (f2 p.2).bind fun q => (f3 q.2).bind fun r => (f4 r.2).bind fun t => if decide (p.1.length = q.1.length /\ p.1.length = r.1.length /\ p.1.length = t.1.length) = true then some (zip4T p.1 q.1 r.1 t.1, t.2) else none) (rT4 ra' rb' rc' rd') Z4 := by
 intro s O v s' hs e;obtain ⟨⟨a, s1⟩, e1, e⟩ := bd e;obtain ⟨⟨b, s2⟩, e2, e⟩ := bd e;obtain ⟨⟨c, s3⟩, e3, e⟩ := bd e;obtain ⟨⟨d, s4⟩, e4, e⟩ := bd e;dsimp only at e;split at e
 ·rename_i hl
  have hl2 := of_decide_eq_true hl;cases e;obtain ⟨d1, O1, g1, q1, w1⟩ := h1 s O a s1 hs e1;obtain ⟨d2, O2, g2, q2, w2⟩ := h2 s1 O1 b s2 w1 e2;obtain ⟨d3, O3, g3, q3, w3⟩ := h3 s2 O2 c s3 w2 e3;obtain ⟨d4, O4, g4, q4, w4⟩ := h4 s3 O3 d _ w3 e4;obtain ⟨o1, x1, rfl, z1⟩ := l1.l a d1 q1;obtain ⟨o2, x2, rfl, z2⟩ := l2.l b d2 q2;obtain ⟨o3, x3, rfl, z3⟩ := l3.l c d3 q3;obtain ⟨o4, x4, rfl, z4⟩ := l4.l d d4 q4;refine ⟨_, O4, ?_, zip4_ok k1.f k2.f k3.f k4.f z1 z2 z3 z4, w4⟩;simp only [iZip4D, g1, g2, g3, g4, bind_some];exact if_pos (by rw [<- z1.len, <- z2.len, <- z3.len, <- z4.len]; exact hl)
 ·cases e
end
section
variable {S : Type} {α β γ δ ρ : Type} {Z Z0 Z1 Z2 Z3 Z4 Z' Zn Zh : Shp S} {c c' : DE} {t u : DT} {E : Ex S ρ} {P : Type}
theorem je_extF (i : Nat) {get : S -> List α} {put : S -> List α -> S} {rl ra : Rl (List α)} {q r r' : Rl α} [l : Ls rl q] [l2 : Ls ra r] [k : Fz r r'] {f : S -> Option (List α × S)} (h : JE Z c f ra Z1) (h0 : Z[i]? = some (some ⟨get, rl⟩)) (hi : Z1[i]? = some (some ⟨get, rL r'⟩)) (hg : autoParam (∀ s v, get (put s v) = v) Ax8._auto_1) (hf : autoParam (∀ v, Fr (fun s => put s v) (Z1.set i none)) Ax10._auto_1) :
  JE Z (dExtF i c) (fun s => (f s).bind fun p => if szC ((get p.2).length + p.1.length) = true then some ((), put p.2 (get p.2 ++ p.1)) else none) rN (Z1.set i (some ⟨get, rL r'⟩)) := by
 intro s O v s' hs e;obtain ⟨⟨a, s1⟩, e1, e⟩ := bd e;dsimp only at e;split at e
 ·rename_i hl
  have hl := szC_le hl;cases e;obtain ⟨x, O1, hx, hrx, k1⟩ := h s O a s1 hs e1;obtain ⟨o, xs, ex, rx⟩ := l2.l _ _ hrx;subst ex;obtain ⟨d0, hd0, h00⟩ := hs.get h0;obtain ⟨o0, ds0, e0, _⟩ := l.l _ _ h00;subst e0;obtain ⟨d, hd, ds, ed, h2⟩ := k1.get hi;subst ed;exact ⟨.non, _, by simp only [dExtF, hd0, hx, bind_some, hd, <- h2.len, <- rx.len, hl, if_true], rfl, k1.put hg hf ⟨_, rfl, h2.append (rx.fz k.f)⟩⟩
 ·cases e
end
end TT
namespace L2
open PySem PySem.Spec PyProof.Rows
section
variable {X : Cx}
noncomputable def rBlen : V -> List V -> Hp -> VK -> Prop := fun x vs H Q => ∃ i, x = .int i /\ vs = [] /\ Q (.int ((Builtin.Int.intBits i : Nat) : Int)) H
theorem mt_blen : MtR X "int.bit_length" rBlen := by
 intro pins s O H x vs v us Q I rx rv h;obtain ⟨i, ex, ev, q⟩ := h;subst ex; subst ev;obtain ⟨t, rfl⟩ := rx;cases rv;exact call_int_bit_length ⟨.int _, H, I.tok _, ⟨_, rfl⟩, q⟩
end
end L2
namespace DD
open PySem PySem.Spec PyProof.Rows L2
noncomputable def gBlen : D -> Option D
 | .int i => some (.int ((Builtin.Int.intBits i : Nat) : Int))
 | _ => none
theorem gBlen_some {x d : D} (h : gBlen x = some d) : ∃ i, x = .int i /\ d = .int ((Builtin.Int.intBits i : Nat) : Int) := by
 cases x <;> simp only [gBlen] at h <;> cases h;exact ⟨_, rfl, rfl⟩
noncomputable def pBlen (p : DP) : DP := fun O => (p O).bind gBlen
section
variable {X : Cx} {a : Expr} {p : DP} {apos cpos : Pos}
theorem qb_blen (ha : QB X a p) (hbase : autoParam (attributeBase a "bit_length" X.env (eval a X.env) = eval a X.env) Ax4._auto_1) (hline : autoParam ((apos.endLine == cpos.line) = true) Ax4._auto_1) : QB X (.Call (.Attribute a "bit_length" apos) [] [] cpos) (pBlen p) :=
 PE_imp (pe_bm0 PySem.F.plainAttrs_int PySem.F.slot_int_bit_length PySem.F.type_int_bit_length mt_blen ha hbase hline) fun O H Q hq0 => by
  obtain ⟨F, R, OD, d, r, ec, k⟩ := hq0;unfold pBlen at ec;rcases h1 : p OD with _ | x
  ·rw [h1] at ec; cases ec
  ·rw [h1] at ec; simp only [bind_some] at ec
   obtain ⟨i, rfl, rfl⟩ := gBlen_some ec;refine ⟨F, R, OD, _, r, h1, fun F1 H1 v g1 b1 => ?_⟩;have hv := b1.int;subst hv;exact ⟨rfl, i, rfl, rfl, k F1 H1 _ g1 ⟨[], Ow.of_sc rfl⟩⟩
end
end DD
namespace TT
open PySem L2 DD
section
variable {S : Type} {Z : Shp S}
theorem jp_blen {p : DP} {f : S -> Option Int} (h : JP Z p f rI) : JP Z (pBlen p) (fun s => (f s).map fun a => ((Builtin.Int.intBits a : Nat) : Int)) rI := by
 intro s O v hs e;obtain ⟨a, e1, e⟩ := mp e;subst e;obtain ⟨d, hd, rd⟩ := h s O a hs e1;cases rd;exact ⟨_, by simp only [pBlen, hd, bind_some, gBlen], rfl⟩
end
end TT
namespace DD
open PySem PySem.Spec PyProof.Rows L2
section
variable {X : Cx} {b : Expr} {c : DE} {pos npos : Pos}
end
end DD
namespace TT
open PySem DD L2
variable {S α β γ : Type} {Z Z1 : Shp S} {c : DE}
end TT
namespace PySem.AutoSeq1
theorem add_any (l : Addr) (items : Array Value) (n : Nat) (sl1 : Array (Option Value)) (b : Addr) (items2 : Array Value) (n2 : Nat) (sl : Array (Option Value)) (hs2 : items.size + items2.size <= sizeLine) :
  Meets (Builtin.«list.__add__» ⟨[.ref l, .ref b], []⟩) (fun _ R s => s.heap.get? l = some { cls := .type "list", dict := none, data := .seq items n, slots := sl1 } /\ s.heap.get? b = some { cls := .type "list", dict := none, data := .seq items2 n2, slots := sl } /\ R (.ok (.ret (Value.ref s.heap.objs.size))) { s with heap := s.heap.push { cls := .type "list", data := .seq (items ++ items2) }, toks := s.toks }) :=
 .of_wp fun prog w A R s h => by
  obtain ⟨hp, g, d, tk, os⟩ := s; obtain ⟨hl, hb, h⟩ := h; have f1 := idx_int; have f2 := sub_tuple_tuple; have f3 := sub_list_list; have f4 := sub_tuple_list; have f5 := sub_list_tuple;have hz' : (items ++ items2).size <= sizeLine + 1 := by rw [Array.size_append]; omega
  have hlong : Builtin.List.listTooLong (items.size + items2.size) = false := L2.notLongL hs2
  wp_walk using wpAny_loadPart' hl, wpAny_loadPart' hb
  all_goals first | exact ⟨_, rfl, h⟩ | skip
end PySem.AutoSeq1
namespace L2
open PySem PySem.Spec PyProof.Rows
section
variable {X : Cx}
noncomputable def rCatF (K : PySem.W.Frag) : R2 := fun x y H Q => ∃ l b xs zs, x = .ref l /\ y = .ref b /\ SqL K H l xs /\ SqL K H b zs /\ xs.length + zs.length <= sizeLine /\ ∀ p, H p = none -> Q (.ref p) (upd H p (.lst (xs ++ zs)))
theorem op_catF : OpR X (binaryOp .Add) (rCatF X.K) := by
 intro pins s O H x y v u Q I rx ry h;obtain ⟨l, b, xs, zs, rfl, rfl, hH, hB, hz, q⟩ := h;cases rx;cases ry;obtain ⟨its, r, ⟨o1, n1, e1, c1, d1, s1⟩, _⟩ := I.list hH;obtain ⟨its2, r2, ⟨o2, n2, e2, c2, d2, s2⟩, _⟩ := I.list hB;obtain ⟨oc, od, odt, osl⟩ := o1;obtain ⟨pc, pd, pdt, psl⟩ := o2;dsimp only at c1 d1 s1 c2 d2 s2;subst c1; subst d1; subst s1; subst c2; subst d2; subst s2;have hl1 := r.length;have hl2 := r2.length;have hsz : its.toArray.size + its2.toArray.size <= sizeLine := by rw [List.size_toArray, List.size_toArray]; omega
 refine wpAny_binaryOp_concat (T := "list") (id := "list.__add__") ⟨_, e1, rfl⟩ ⟨_, e2, rfl⟩ noFill_list_add (by rfl) ?_;refine call_meets F.slot_list_add ⟨_, e1, rfl⟩ F.entry_list_add (F.args_list_add_2 _ _) (PySem.AutoSeq1.add_any l its.toArray n1 osl b its2.toArray n2 psl hsz) ⟨e1, e2, ?_⟩;have ea : its.toArray ++ its2.toArray = (its ++ its2).toArray := by simp
 rw [ea];exact ⟨.ref _, _, I.lnew (t' := s.toks) (r.append r2) (by rw [List.length_append]; omega), rfl, q _ I.fresh⟩
end
end L2
namespace DD
open PySem PySem.Spec PyProof.Rows L2
noncomputable def dCatF (c c' : DE) : DE := fun O => (c O).bind fun p => (c' p.2).bind fun q => match p.1, q.1 with
 | .lst _ xs, .lst _ ys => if xs.length + ys.length <= sizeLine then some (.lst true (D.fzL xs ++ D.fzL ys), q.2) else none
 | _, _ => none
section
variable {X : Cx} {a b : Expr} {c c' : DE} {pos : Pos}
theorem qe_catF (ha : QE X a c) (hb : QE X b c') : QE X (.BinOp a .Add b pos) (dCatF c c') := PE_imp (pe_op op_catF ha hb) fun O H Q hq0 => by
 obtain ⟨F, R, OD, d, OD', r, ec, k⟩ := hq0;unfold dCatF at ec;rcases h1 : c OD with _ | ⟨x, O1⟩
 ·rw [h1] at ec; cases ec
 ·rw [h1] at ec; simp only [bind_some] at ec
  rcases h2 : c' O1 with _ | ⟨y, O2⟩
  ·rw [h2] at ec; cases ec
  ·rw [h2] at ec; simp only [bind_some] at ec
   split at ec
   ·rename_i o1 xs o2 ys
    split at ec
    ·rename_i hz
     cases ec;refine ⟨F, R, OD, _, O1, r, h1, fun F1 H1 v x1 r1 => ?_⟩;refine ⟨F1, _, O1, _, _, r1, h2, fun F2 H2 u x2 r2 => ?_⟩;obtain ⟨F3, x3, r3, of3⟩ := r2.freeze;obtain ⟨F4, x4, r4, of4⟩ := r3.pop.freeze;have of3' := of3.mono x4 (fun a ha => by cases ha);simp only [D.fz, Ow] at of3' of4;obtain ⟨l2, ws, rfl, fl2, ol2, _⟩ := of3';obtain ⟨l1, us, rfl, fl1, ol1, _⟩ := of4;have hl1 := ol1.length;have hl2 := ol2.length;have hf1 := fzL_len xs;have hf2 := fzL_len ys;refine ⟨l1, l2, us, ws, rfl, rfl, fl1.sq, fl2.sq, by omega, fun p hp => ?_⟩;have oc : OwL X.K F4 H2 (D.fzL xs ++ D.fzL ys) (us ++ ws) [] := OwL.app ol1 ol2;obtain ⟨r5, x5⟩ := (Rel.pushL oc r4.pop).layL oc.length.symm hp;exact k F4 _ _ ((x1.trans x2).trans ((x3.trans x4).trans x5)) r5
    ·cases ec
   ·cases ec
end
end DD
namespace TT
open PySem L2 DD
section
variable {S : Type} {α β γ δ ρ : Type} {Z Z0 Z1 Z2 Z3 Z4 Z' Zn Zh : Shp S} {c c' : DE}
theorem je_catF {rl rl' : Rl (List α)} {r r' r1 : Rl α} [l : Ls rl r] [k : Fz r r'] [l1 : Ls rl' r1] [k1 : Fz r1 r'] {f g : S -> Option (List α × S)} (h : JE Z c f rl Z1) (h' : JE Z1 c' g rl' Z2) :
  JE Z (dCatF c c') (fun s => (f s).bind fun p => (g p.2).bind fun q => if szC (p.1.length + q.1.length) = true then some (p.1 ++ q.1, q.2) else none) (rL r') Z2 := fun s O v s' hs e => by
 obtain ⟨⟨a, s1⟩, e1, e⟩ := bd e;obtain ⟨⟨b, s2⟩, e2, e⟩ := bd e;dsimp only at e;split at e
 ·rename_i hz
  cases e;obtain ⟨d, O1, h1, h2, h3⟩ := h s O a s1 hs e1;obtain ⟨d', O2, h4, h5, h6⟩ := h' s1 O1 b _ h3 e2;obtain ⟨o, ds, rfl, ha⟩ := l.l a d h2;obtain ⟨o', ds', rfl, ha'⟩ := l1.l b d' h5;have hz' := szC_le hz;have q1 := ha.len;have q2 := ha'.len;refine ⟨_, O2, ?_, ⟨_, rfl, (ha.fz k.f).append (ha'.fz k1.f)⟩, h6⟩;simp only [dCatF, h1, bind_some, h4];rw [if_pos oM]
 ·cases e
end
section
variable {S : Type} {α β γ δ ρ : Type} {Z Z0 Z1 Z2 Z3 Z4 Z' Zn Zh : Shp S} {c c' : DE} {E : Ex S ρ}
end
section
variable {S α β ρ : Type}
theorem loop_ix {put : S -> α -> S} {b : S -> Option (TR S ρ)} {I : Nat -> S -> Prop} {n : Nat} : ∀ {xs : List α} {s : S}, (∀ k s x, xs[k]? = some x -> I (n + k) s -> ∃ s', b (put s x) = some (.nx s') /\ I (n + k + 1) s') -> I n s -> ∃ s', tLoop put b xs s = some (.nx s') /\ I (n + xs.length) s' := by
 intro xs
 induction xs generalizing n with
 | nil => intro s _ h; exact ⟨s, rfl, h⟩
 | cons x xs ih =>
  intro s hb h;obtain ⟨s1, e1, h1⟩ := hb 0 s x rfl h;obtain ⟨s2, e2, h2⟩ := ih (n := n + 1) (fun k s y hy hi => by
   obtain ⟨s', q1, q2⟩ := hb (k + 1) s y (by simpa using hy) (by rw [show n + (k + 1) = n + 1 + k by omega]; exact hi);exact ⟨s', q1, by rw [show n + 1 + k + 1 = n + (k + 1) + 1 by omega]; exact q2⟩) h1
  exact ⟨s2, by simp only [tLoop, e1, bind_some, e2], by rw [List.length_cons, show n + (xs.length + 1) = n + 1 + xs.length by omega]; exact h2⟩
theorem loop_fold {put : S -> α -> S} {b : S -> Option (TR S ρ)} {γ : Type} {v : S -> γ} {f : γ -> α -> γ} {I : S -> Prop} {J : γ -> Prop} : ∀ {xs : List α} {s : S}, (∀ s x, x ∈ xs -> I s -> J (v s) -> ∃ s', b (put s x) = some (.nx s') /\ I s' /\ v s' = f (v s) x) -> (∀ c x, x ∈ xs -> J c -> J (f c x)) -> I s -> J (v s) -> ∃ s', tLoop put b xs s = some (.nx s') /\ I s' /\ v s' = xs.foldl f (v s)
 | [], s, _, _, h, _ => ⟨s, rfl, h, rfl⟩
 | x :: xs, s, hb, hj, h, j => by
  obtain ⟨s1, e1, h1, v1⟩ := hb s x (by simp) h j;obtain ⟨s2, e2, h2, v2⟩ := loop_fold (xs := xs) (fun s y hy => hb s y (by simp [hy])) (fun c y hy => hj c y (by simp [hy])) h1 (by rw [v1]; exact hj _ _ (by simp) j);exact ⟨s2, by simp only [tLoop, e1, bind_some, e2], h2, by rw [v2, v1]; rfl⟩
theorem lc_map {ft : α -> S -> Option (Bool × S)} {fe : α -> S -> Option (β × S)} {s : S} {f : α -> β} : ∀ {xs : List α}, (∀ x ∈ xs, ft x s = some (true, s)) -> (∀ x ∈ xs, fe x s = some (f x, s)) -> tLc ft fe xs s = some (xs.map f, s) := by
 intro xs
 induction xs with
 | nil => intro _ _; rfl
 | cons x xs ih =>
  intro h k;have ih := ih (fun y hy => h y (List.mem_cons_of_mem _ hy)) (fun y hy => k y (List.mem_cons_of_mem _ hy));simp only [tLc, h x List.mem_cons_self, bind_some, if_true, k x List.mem_cons_self, ih, map_some, List.map_cons]
theorem lc_filter {ft : α -> S -> Option (Bool × S)} {fe : α -> S -> Option (β × S)} {s : S} {f : α -> β} {p : α -> Bool} : ∀ {xs : List α}, (∀ x ∈ xs, ft x s = some (p x, s)) -> (∀ x ∈ xs, p x = true -> fe x s = some (f x, s)) -> tLc ft fe xs s = some ((xs.filter p).map f, s) := by
 intro xs
 induction xs with
 | nil => intro _ _; rfl
 | cons x xs ih =>
  intro h k;have ih := ih (fun y hy => h y (List.mem_cons_of_mem _ hy)) (fun y hy => k y (List.mem_cons_of_mem _ hy));cases hp : p x
  ·rw [List.filter_cons_of_neg (by rw [hp]; decide)]
   simp only [tLc, h x List.mem_cons_self, bind_some, hp, Bool.false_eq_true, if_false, ih]
  ·rw [List.filter_cons_of_pos hp]
   simp only [tLc, h x List.mem_cons_self, bind_some, hp, if_true, k x List.mem_cons_self hp, ih, map_some, List.map_cons]
theorem lc_inv {ft : α -> S -> Option (Bool × S)} {fe : α -> S -> Option (β × S)} {I : S -> Prop} {Q : β -> Prop} : ∀ {xs : List α} {s : S}, (∀ s x, x ∈ xs -> I s -> ft x s = some (true, s)) -> (∀ s x, x ∈ xs -> I s -> ∃ y s', fe x s = some (y, s') /\ I s' /\ Q y) -> I s -> ∃ ys s', tLc ft fe xs s = some (ys, s') /\ I s' /\ ys.length = xs.length /\ ∀ y ∈ ys, Q y
 | [], s, _, _, h => ⟨[], s, rfl, h, rfl, fun y hy => by cases hy⟩
 | x :: xs, s, ht, he, h => by
  obtain ⟨y, s1, e1, h1, q1⟩ := he s x (by simp) h;obtain ⟨ys, s2, e2, h2, l2, q2⟩ := lc_inv (xs := xs) (fun s y hy => ht s y (by simp [hy])) (fun s y hy => he s y (by simp [hy])) h1;refine ⟨y :: ys, s2, by simp only [tLc, ht s x (by simp) h, bind_some, if_true, e1, e2, map_some], h2, by simp [l2], fun z hz => ?_⟩;rcases List.mem_cons.mp hz with rfl | hz
  ·exact q1
  ·exact q2 z hz
theorem okI {a b : Int} : (Py.ok rI a && Py.ok rI b && decide (min (Py.k rI) (Py.k rI) <= 50)) = true := rfl
theorem all_true {xs : List α} : (xs.all fun _ => true) = true := by simp
theorem okLL {a b : List Int} : (Py.ok (rL rI) a && Py.ok (rL rI) b && decide (min (Py.k (rL rI)) (Py.k (rL rI)) <= 50)) = true := by
 show ((a.all fun _ => true) && (b.all fun _ => true) && decide (min (0 + 1) (0 + 1) <= 50)) = true;rw [all_true, all_true]; rfl
theorem eqL_self {f : α -> α -> Bool} (h : ∀ a, f a a = true) : ∀ xs : List α, eqL f xs xs = true
 | [] => rfl
 | x :: xs => by simp only [eqL, h, eqL_self h xs, Bool.and_self]
theorem eqL_nil {f : α -> β -> Bool} {xs : List α} : eqL f xs [] = xs.isEmpty := by cases xs <;> rfl
theorem ift {c : Bool} {a b : α} (h : c = true) : (if c = true then a else b) = a := if_pos h
theorem szn {n : Nat} (h : n <= 1000) : n <= sizeLine := Nat.le_of_lt (L2.small1000 h)
theorem szl' {n : Nat} (h : n <= 1000) : n < sizeLine := L2.small1000 h
theorem szc {n : Nat} (h : n <= 1000) : szC n = true := decide_eq_true (szn h)
theorem ltc {n : Nat} (h : n <= 1000) : ltC n = true := decide_eq_true (szl' h)
theorem at_nat {xs : List α} {j : Nat} (h : j < xs.length) : atI xs (j : Int) = some xs[j] := L2.atI_nat (by simp [h])
theorem rok {z : Int} (h0 : -1000000 <= z) (h1 : z <= 1000000) : rokC z = true := by
 simp only [rokC, Nat.ble_eq];omega
theorem mulc {x y : Int} (h : (-9223372036854775808 <= x /\ x <= 9223372036854775808) \/ (-9223372036854775808 <= y /\ y <= 9223372036854775808)) : mulN x y = true := by
 simp only [mulN, Bool.or_eq_true, Nat.ble_eq]; omega
theorem fdvc {x : Int} {y : Int} (h : decide (0 < y /\ y.natAbs.log2 < 9000) = true) : fdvC x y = true := h
theorem loop_bind {put : S -> α -> S} {b : S -> Option (TR S ρ)} {xs : List α} {s : S} {γ : Type} {k : TR S ρ -> Option γ} {R : Option γ} {P : S -> Prop} (h : ∃ s', tLoop put b xs s = some (.nx s') /\ P s') (hk : ∀ s', P s' -> k (.nx s') = R) : (tLoop put b xs s).bind k = R := by
 obtain ⟨a, e, p⟩ := h;rw [e]; exact hk a p
theorem loop_bindE {put : S -> α -> S} {b : S -> Option (TR S ρ)} {xs : List α} {s : S} {γ : Type} {k : TR S ρ -> Option γ} {P : S -> Prop} (Q : Option γ -> Prop) (h : ∃ s', tLoop put b xs s = some (.nx s') /\ P s') (hk : ∀ s', P s' -> Q (k (.nx s'))) : Q ((tLoop put b xs s).bind k) := by
 obtain ⟨a, e, p⟩ := h;rw [e]; exact hk a p
theorem loop_ixP {put : S -> α -> S} {b : S -> Option (TR S ρ)} {P : S -> Prop} {xs : List α} {s : S} (I : Nat -> S -> Prop) (h0 : I 0 s) (hb : ∀ k s x, xs[k]? = some x -> I k s -> ∃ s', b (put s x) = some (.nx s') /\ I (k + 1) s') (hP : ∀ s', I xs.length s' -> P s') : ∃ s', tLoop put b xs s = some (.nx s') /\ P s' := by
 obtain ⟨s', e, h⟩ := loop_ix (n := 0) (I := I) (fun k s x hx hi => by
  rw [Nat.zero_add] at hi ⊢;exact hb k s x hx hi) h0
 rw [Nat.zero_add] at h;exact ⟨s', e, hP s' h⟩
theorem holds_of {g : GF} {h : List Int × Unit -> Option (Bool × List Int × Unit)} {r : Rl (List Int)} (j : JF g h (Pc (rM rI) Pn) rB (Pc r Pn)) (ht : ∀ ns : List Int, ns.length <= 63 -> ∃ q, h (ns, ()) = some (true, q)) : ∀ ns : List Int, ns.length <= 63 -> ∃ d, g [.lst false (ns.map D.int)] = some (.bl true, [d]) := fun ns hl => by
 obtain ⟨q, e⟩ := ht ns hl;obtain ⟨d, ds', h1, h2, d', ds2, h3, _, h4⟩ := j (ns, ()) [.lst false (ns.map D.int)] true q ⟨_, [], rfl, ⟨false, _, rfl, rI_map ns⟩, rfl⟩ e;cases h2;rw [show ds2 = [] from h4] at h3;exact ⟨d', by rw [h1, h3]⟩
end
end TT
namespace RK
noncomputable def spans : List Nat -> List Nat
 | [] => [0]
 | r :: rs => spans rs ++ (spans rs).map (r ^^^ ·)
theorem spans_zero : ∀ rs, 0 ∈ spans rs := by
 intro rs
 induction rs with
 | nil => simp [spans]
 | cons r rs ih => simp only [spans, List.mem_append]; exact .inl ih
theorem spans_row {r : Nat} : ∀ {rs : List Nat}, r ∈ rs -> r ∈ spans rs := by
 intro rs
 induction rs with
 | nil => intro h; cases h
 | cons a rs ih =>
  intro h;simp only [spans, List.mem_append, List.mem_map];rcases List.mem_cons.mp h with rfl | h
  ·exact .inr ⟨0, spans_zero rs, by simp⟩
  ·exact .inl (ih h)
theorem spans_xor : ∀ {rs : List Nat} {x y : Nat}, x ∈ spans rs -> y ∈ spans rs -> x ^^^ y ∈ spans rs := by
 intro rs
 induction rs with
 | nil => intro x y hx hy; simp only [spans, List.mem_singleton] at hx hy; subst hx; subst hy; simp [spans]
 | cons r rs ih =>
  intro x y hx hy;simp only [spans, List.mem_append, List.mem_map] at hx hy ⊢;rcases hx with hx | ⟨a, ha, rfl⟩
  ·rcases hy with hy | ⟨b, hb, rfl⟩
   ·exact .inl (ih hx hy)
   ·exact .inr ⟨x ^^^ b, ih hx hb, by rw [<- Nat.xor_assoc, <- Nat.xor_assoc, Nat.xor_comm r x]⟩
  ·rcases hy with hy | ⟨b, hb, rfl⟩
   ·exact .inr ⟨a ^^^ y, ih ha hy, by rw [Nat.xor_assoc]⟩
   ·refine .inl ?_
    have e : r ^^^ a ^^^ (r ^^^ b) = a ^^^ b := by
     rw [Nat.xor_comm r a, Nat.xor_assoc, <- Nat.xor_assoc r r b, Nat.xor_self, Nat.zero_xor]
    rw [e]; exact ih ha hb
theorem spans_sub {rs ss : List Nat} (h : ∀ r ∈ rs, r ∈ spans ss) : ∀ {x}, x ∈ spans rs -> x ∈ spans ss := by
 induction rs with
 | nil => intro x hx; simp only [spans, List.mem_singleton] at hx; subst hx; exact spans_zero ss
 | cons r rs ih =>
  intro x hx;simp only [spans, List.mem_append, List.mem_map] at hx;rcases hx with hx | ⟨a, ha, rfl⟩
  ·exact ih (fun q hq => h q (by simp [hq])) hx
  ·exact spans_xor (h r (by simp)) (ih (fun q hq => h q (by simp [hq])) ha)
noncomputable def Tri : List (Nat × Nat) -> Prop
 | [] => True
 | b :: bs => b.2.testBit b.1 = true /\ (∀ c ∈ bs, c.2.testBit b.1 = false) /\ Tri bs
theorem spans_bit {t : Nat} : ∀ {rs : List Nat} {x : Nat}, (∀ r ∈ rs, r.testBit t = false) -> x ∈ spans rs -> x.testBit t = false := by
 intro rs
 induction rs with
 | nil => intro x _ hx; simp only [spans, List.mem_singleton] at hx; subst hx; simp
 | cons r rs ih =>
  intro x h hx;simp only [spans, List.mem_append, List.mem_map] at hx;rcases hx with hx | ⟨a, ha, rfl⟩
  ·exact ih (fun q hq => h q (by simp [hq])) hx
  ·rw [Nat.testBit_xor, h r (by simp), ih (fun q hq => h q (by simp [hq])) ha]; rfl
theorem tri_zero : ∀ {bs : List (Nat × Nat)} {x : Nat}, Tri bs -> x ∈ spans (bs.map (·.2)) -> (∀ b ∈ bs, x.testBit b.1 = false) -> x = 0 := by
 intro bs
 induction bs with
 | nil => intro x _ hx _; simpa [spans] using hx
 | cons b bs ih =>
  intro x ht hx hb;obtain ⟨h1, h2, h3⟩ := ht;simp only [List.map_cons, spans, List.mem_append, List.mem_map] at hx;rcases hx with hx | ⟨y, hy, rfl⟩
  ·exact ih h3 hx fun c hc => hb c (by simp [hc])
  ·exfalso
   have h4 := hb b (by simp);have h5 := spans_bit (t := b.1) (fun r hr => by obtain ⟨c, hc, rfl⟩ := List.mem_map.mp hr; exact h2 c hc) hy;rw [Nat.testBit_xor, h1, h5] at h4;cases h4
theorem red_zero {bs : List (Nat × Nat)} (ht : Tri bs) {x z : Nat} (hs : x ^^^ z ∈ spans (bs.map (·.2))) (hz : ∀ b ∈ bs, z.testBit b.1 = false) : z = 0 ↔ x ∈ spans (bs.map (·.2)) := by
 constructor
 ·intro h; subst h; simpa using hs
 ·intro h
  refine tri_zero ht ?_ hz;have e : x ^^^ (x ^^^ z) = z := by rw [<- Nat.xor_assoc, Nat.xor_self, Nat.zero_xor]
  rw [<- e]; exact spans_xor h hs
noncomputable def gr (done : List Nat) : List Nat -> Nat
 | [] => 0
 | m :: ms => (if m ∈ spans done then 0 else 1) + gr (m :: done) ms
theorem top_bit {r : Nat} (h : r ≠ 0) : r.testBit r.log2 = true := by
 rw [Nat.testBit_eq_decide_div_mod_eq, decide_eq_true_eq];have h1 := Nat.log2_self_le h;have h2 : r < 2 ^ (r.log2 + 1) := Nat.lt_log2_self;rw [Nat.pow_succ] at h2;have h3 : r / 2 ^ r.log2 = 1 := by
  apply Nat.div_eq_of_lt_le
  ·omega
  ·omega
 rw [h3]
theorem bit_lt {n m i : Nat} (hn : n.testBit i = false) (hm : m.testBit i = true) (h : ∀ j, i < j -> n.testBit j = m.testBit j) : n < m := by
 have e : n / 2 ^ (i + 1) = m / 2 ^ (i + 1) := by
  apply Nat.eq_of_testBit_eq;intro j;rw [Nat.testBit_div_two_pow, Nat.testBit_div_two_pow];exact h _ oM
 rw [Nat.testBit_eq_decide_div_mod_eq] at hn hm;have hn1 := of_decide_eq_false hn;have hm1 := of_decide_eq_true hm;have n1 := Nat.mod_pow_succ (x := n) (b := 2) (k := i);have m1 := Nat.mod_pow_succ (x := m) (b := 2) (k := i);have hn2 : n / 2 ^ i % 2 = 0 := by omega
 rw [hn2, Nat.mul_zero] at n1;rw [hm1, Nat.mul_one] at m1;have n2 := Nat.mod_lt n (show 0 < 2 ^ i from Nat.pow_pos dC);have n3 := Nat.div_add_mod n (2 ^ (i + 1));have m3 := Nat.div_add_mod m (2 ^ (i + 1));rw [e] at n3;omega
theorem min_bit {m r : Nat} (h : r ≠ 0) : (min m (m ^^^ r)).testBit r.log2 = false := by
 have ht := top_bit h;have hi : ∀ j, r.log2 < j -> r.testBit j = false := fun j hj => Nat.testBit_lt_two_pow (Nat.lt_of_lt_of_le (Nat.lt_log2_self) (Nat.pow_le_pow_right dC hj))
 cases hm : m.testBit r.log2
 ·have hlt : m < m ^^^ r := bit_lt (i := r.log2) hm (by rw [Nat.testBit_xor, hm, ht]; rfl) fun j hj => by rw [Nat.testBit_xor, hi j hj]; simp
  rw [Nat.min_eq_left (Nat.le_of_lt hlt)]; exact hm
 ·have hlt : m ^^^ r < m := bit_lt (i := r.log2) (by rw [Nat.testBit_xor, hm, ht]; rfl) hm fun j hj => by rw [Nat.testBit_xor, hi j hj]; simp
  rw [Nat.min_eq_right (Nat.le_of_lt hlt), Nat.testBit_xor, hm, ht]; rfl
theorem min_keep {m r t : Nat} (h1 : m.testBit t = false) (h2 : r.testBit t = false) : (min m (m ^^^ r)).testBit t = false := by
 rcases Nat.le_total m (m ^^^ r) with h | h
 ·rw [Nat.min_eq_left h]; exact h1
 ·rw [Nat.min_eq_right h, Nat.testBit_xor, h1, h2]; rfl
noncomputable def lawRed (rows : List Nat) (x : Nat) : Nat := rows.foldl (fun m r => min m (m ^^^ r)) x
noncomputable def prs (rows : List Nat) : List (Nat × Nat) := rows.map fun r => (r.log2, r)
theorem prs_map (rows : List Nat) : (prs rows).map (·.2) = rows := by
 unfold prs; rw [List.map_map]; exact List.map_id' rows
theorem red_span : ∀ (rows : List Nat) (x : Nat), x ^^^ lawRed rows x ∈ spans rows := by
 intro rows
 induction rows with
 | nil => intro x; simp [lawRed, spans]
 | cons r rows ih =>
  intro x;have h := ih (min x (x ^^^ r));simp only [lawRed, List.foldl_cons] at h ⊢;simp only [spans, List.mem_append, List.mem_map];rcases Nat.le_total x (x ^^^ r) with hm | hm
  ·rw [Nat.min_eq_left hm] at h ⊢; exact .inl h
  ·rw [Nat.min_eq_right hm] at h ⊢
   refine .inr ⟨_, h, ?_⟩;rw [<- Nat.xor_assoc, <- Nat.xor_assoc, Nat.xor_comm r x, Nat.xor_assoc x r r, Nat.xor_self, Nat.xor_zero]
theorem red_keep {t : Nat} : ∀ (rows : List Nat) (x : Nat), x.testBit t = false -> (∀ r ∈ rows, r.testBit t = false) -> (lawRed rows x).testBit t = false := by
 intro rows
 induction rows with
 | nil => intro x h _; exact h
 | cons r rows ih =>
  intro x h hr;simp only [lawRed, List.foldl_cons];exact ih _ (min_keep h (hr r (by simp))) fun q hq => hr q (by simp [hq])
theorem red_bits : ∀ (rows : List Nat) (x : Nat), Tri (prs rows) -> (∀ r ∈ rows, r ≠ 0) -> ∀ b ∈ prs rows, (lawRed rows x).testBit b.1 = false := by
 intro rows
 induction rows with
 | nil => intro x _ _ b hb; cases hb
 | cons r rows ih =>
  intro x ht h0 b hb;obtain ⟨h1, h2, h3⟩ := ht;simp only [lawRed, List.foldl_cons];rcases List.mem_cons.mp hb with rfl | hb
  ·exact red_keep rows _ (min_bit (h0 r (by simp))) fun q hq => h2 (q.log2, q) (List.mem_map.mpr ⟨q, hq, rfl⟩)
  ·exact ih _ h3 (fun q hq => h0 q (by simp [hq])) b hb
theorem tri_snoc {b : Nat × Nat} : ∀ {bs : List (Nat × Nat)}, Tri bs -> b.2.testBit b.1 = true -> (∀ c ∈ bs, b.2.testBit c.1 = false) -> Tri (bs ++ [b]) := by
 intro bs
 induction bs with
 | nil => intro _ h1 _; exact ⟨h1, (fun c hc => by cases hc), trivial⟩
 | cons c bs ih =>
  intro ht h1 h2;obtain ⟨t1, t2, t3⟩ := ht;refine ⟨t1, ?_, ih t3 h1 fun d hd => h2 d (by simp [hd])⟩;intro d hd;have hd : d ∈ bs ++ [b] := hd;rw [List.mem_append, List.mem_singleton] at hd;rcases hd with hd | rfl
  ·exact t2 d hd
  ·exact h2 c (by simp)
noncomputable def lawStep (rows : List Nat) (m : Nat) : List Nat := if lawRed rows m > 0 then rows ++ [lawRed rows m] else rows
theorem spans_same {rs ss : List Nat} (h1 : ∀ r ∈ rs, r ∈ spans ss) (h2 : ∀ s ∈ ss, s ∈ spans rs) (x : Nat) : x ∈ spans rs ↔ x ∈ spans ss := ⟨spans_sub h1, spans_sub h2⟩
theorem law_gr : ∀ (ms done rows : List Nat), Tri (prs rows) -> (∀ r ∈ rows, r ≠ 0) -> (∀ r ∈ rows, r ∈ spans done) -> (∀ d ∈ done, d ∈ spans rows) -> (ms.foldl lawStep rows).length = rows.length + gr done ms := by
 intro ms
 induction ms with
 | nil => intro done rows _ _ _ _; simp [gr]
 | cons m ms ih =>
  intro done rows ht h0 h1 h2;rw [List.foldl_cons];have hsp := red_span rows m;have hz := red_bits rows m ht h0;have key : lawRed rows m = 0 ↔ m ∈ spans rows := by
   have := red_zero ht (x := m) (z := lawRed rows m) (by rw [prs_map]; exact hsp) hz
   rw [prs_map] at this;exact this
  have hsame := spans_same h1 h2;have hd : ∀ r ∈ rows, r ∈ spans (m :: done) := fun r hr => by simp only [spans, List.mem_append]; exact .inl (h1 r hr)
  by_cases hm : m ∈ spans done
  ·have e0 := key.mpr ((hsame m).mpr hm)
   have es : lawStep rows m = rows := by unfold lawStep; rw [e0]; rfl
   rw [es, ih (m :: done) rows ht h0 hd (fun d hdd => by
    rcases List.mem_cons.mp hdd with rfl | hdd
    ·exact (hsame _).mpr hm
    ·exact h2 d hdd)]
   simp only [gr, hm, if_true]; omega
  ·have e0 : lawRed rows m ≠ 0 := fun h => hm ((hsame m).mp (key.mp h))
   have es : lawStep rows m = rows ++ [lawRed rows m] := by unfold lawStep; rw [if_pos oM]
   have hmz : m = (m ^^^ lawRed rows m) ^^^ lawRed rows m := by rw [Nat.xor_assoc, Nat.xor_self, Nat.xor_zero]
   have sub : ∀ r ∈ rows, r ∈ spans (rows ++ [lawRed rows m]) := fun r hr => spans_row (by simp [hr])
   rw [es, ih (m :: done) _ (by
    unfold prs;rw [List.map_append];exact tri_snoc ht (top_bit e0) hz) (fun r hr => by
     rw [List.mem_append, List.mem_singleton] at hr;rcases hr with hr | rfl
     ·exact h0 r hr
     ·exact e0) (fun r hr => by
     rw [List.mem_append, List.mem_singleton] at hr;rcases hr with hr | rfl
     ·exact hd r hr
     ·have a1 : m ^^^ lawRed rows m ∈ spans (m :: done) := spans_sub hd hsp
      have a2 : m ∈ spans (m :: done) := spans_row (by simp);have e : m ^^^ (m ^^^ lawRed rows m) = lawRed rows m := by rw [<- Nat.xor_assoc, Nat.xor_self, Nat.zero_xor]
      rw [<- e]; exact spans_xor a2 a1) (fun d hdd => by
     rcases List.mem_cons.mp hdd with rfl | hdd
     ·have a1 := spans_sub sub hsp
      have a2 : lawRed rows d ∈ spans (rows ++ [lawRed rows d]) := spans_row (by simp);have a3 := spans_xor a1 a2
      rwa [Nat.xor_assoc, Nat.xor_self, Nat.xor_zero] at a3
     ·exact spans_sub sub (h2 d hdd))]
   simp only [gr, hm, if_false, List.length_append, List.length_singleton]; omega
theorem law_rank (ms : List Nat) : (ms.foldl lawStep []).length = gr [] ms := by
 have := law_gr ms [] [] trivial (fun r hr => by cases hr) (fun r hr => by cases hr) (fun d hd => by cases hd)
 simpa using this
noncomputable def lsRed (ls : List (Nat × Nat)) (x : Nat) : Nat := ls.foldl (fun m l => if m.testBit l.1 = true then m ^^^ l.2 else m) x
noncomputable def Rd (ls : List (Nat × Nat)) : Prop := (∀ l ∈ ls, l.2.testBit l.1 = true) /\ ls.Pairwise fun a b => a.2.testBit b.1 = false /\ b.2.testBit a.1 = false
theorem Rd.tri : ∀ {ls : List (Nat × Nat)}, Rd ls -> Tri ls := by
 intro ls
 induction ls with
 | nil => intro _; trivial
 | cons l ls ih =>
  intro h;obtain ⟨h1, h2⟩ := h;rw [List.pairwise_cons] at h2;exact ⟨h1 l (by simp), fun c hc => (h2.1 c hc).2, ih ⟨fun c hc => h1 c (by simp [hc]), h2.2⟩⟩
theorem ls_span : ∀ (ls : List (Nat × Nat)) (x : Nat), x ^^^ lsRed ls x ∈ spans (ls.map (·.2)) := by
 intro ls
 induction ls with
 | nil => intro x; simp [lsRed, spans]
 | cons l ls ih =>
  intro x;simp only [lsRed, List.foldl_cons, List.map_cons, spans, List.mem_append, List.mem_map];by_cases h : x.testBit l.1 = true
  ·rw [if_pos h]
   refine .inr ⟨_, ih (x ^^^ l.2), ?_⟩;simp only [lsRed];rw [<- Nat.xor_assoc, <- Nat.xor_assoc, Nat.xor_comm l.2 x, Nat.xor_assoc x l.2 l.2, Nat.xor_self, Nat.xor_zero]
  ·rw [if_neg h]; exact .inl (ih x)
theorem ls_keep {t : Nat} : ∀ (ls : List (Nat × Nat)) (x : Nat), x.testBit t = false -> (∀ l ∈ ls, l.2.testBit t = false) -> (lsRed ls x).testBit t = false := by
 intro ls
 induction ls with
 | nil => intro x h _; exact h
 | cons l ls ih =>
  intro x h hr;simp only [lsRed, List.foldl_cons];refine ih _ ?_ fun q hq => hr q (by simp [hq])
  split
  ·rw [Nat.testBit_xor, h, hr l (by simp)]; rfl
  ·exact h
theorem ls_bits : ∀ (ls : List (Nat × Nat)) (x : Nat), Tri ls -> ∀ b ∈ ls, (lsRed ls x).testBit b.1 = false := by
 intro ls
 induction ls with
 | nil => intro x _ b hb; cases hb
 | cons l ls ih =>
  intro x ht b hb;obtain ⟨h1, h2, h3⟩ := ht;simp only [lsRed, List.foldl_cons];rcases List.mem_cons.mp hb with rfl | hb
  ·refine ls_keep ls _ ?_ fun q hq => h2 q hq
   split
   ·rename_i h; rw [Nat.testBit_xor, h, h1]; rfl
   ·rename_i h; simpa using h
  ·exact ih _ h3 b hb
noncomputable def chg (m : Nat) (l : Nat × Nat) : Nat × Nat := if l.2.testBit m.log2 = true then (l.1, l.2 ^^^ m) else l
theorem chg1 (m : Nat) (l : Nat × Nat) : (chg m l).1 = l.1 := by unfold chg; split <;> rfl
theorem chg_bit {m : Nat} {l : Nat × Nat} {t : Nat} (h : m.testBit t = false) : (chg m l).2.testBit t = l.2.testBit t := by
 unfold chg;split
 ·rw [Nat.testBit_xor, h]; simp
 ·rfl
theorem chg_top {m : Nat} {l : Nat × Nat} (h : m ≠ 0) : (chg m l).2.testBit m.log2 = false := by
 unfold chg;split
 ·rename_i h1; rw [Nat.testBit_xor, h1, top_bit h]; rfl
 ·rename_i h1; simpa using h1
noncomputable def withL (ls : List (Nat × Nat)) (m : Nat) : List (Nat × Nat) := ls.map (chg m) ++ [(m.log2, m)]
theorem with_rd {ls : List (Nat × Nat)} {m : Nat} (h : Rd ls) (h0 : m ≠ 0) (hb : ∀ l ∈ ls, m.testBit l.1 = false) : Rd (withL ls m) := by
 obtain ⟨h1, h2⟩ := h;constructor
 ·intro l hl
  unfold withL at hl;rw [List.mem_append, List.mem_singleton] at hl;rcases hl with hl | rfl
  ·obtain ⟨k, hk, rfl⟩ := List.mem_map.mp hl
   rw [chg1, chg_bit (hb k hk)]; exact h1 k hk
  ·exact top_bit h0
 ·unfold withL
  rw [List.pairwise_append];refine ⟨?_, List.pairwise_singleton _ _, ?_⟩
  ·rw [List.pairwise_map]
   refine (List.Pairwise.and_mem.mp h2).imp ?_;rintro a b ⟨ha, hb2, q1, q2⟩;rw [chg1, chg1, chg_bit (hb b hb2), chg_bit (hb a ha)];exact ⟨q1, q2⟩
  ·intro a ha b hb2
   rw [List.mem_singleton] at hb2;subst hb2;obtain ⟨k, hk, rfl⟩ := List.mem_map.mp ha;refine ⟨chg_top h0, ?_⟩;rw [chg1]; exact hb k hk
noncomputable def lsStep (ls : List (Nat × Nat)) (m : Nat) : List (Nat × Nat) := if lsRed ls m ≠ 0 then withL ls (lsRed ls m) else ls
theorem with_new (ls : List (Nat × Nat)) (m : Nat) : m ∈ spans ((withL ls m).map (·.2)) := spans_row (by unfold withL; simp)
theorem with_old (ls : List (Nat × Nat)) (m : Nat) : ∀ r ∈ ls.map (·.2), r ∈ spans ((withL ls m).map (·.2)) := by
 intro r hr;obtain ⟨l, hl, rfl⟩ := List.mem_map.mp hr;have h1 : (chg m l).2 ∈ spans ((withL ls m).map (·.2)) := spans_row (List.mem_map.mpr ⟨chg m l, by unfold withL; simp only [List.mem_append, List.mem_map]; exact .inl ⟨l, hl, rfl⟩, rfl⟩);by_cases h : l.2.testBit m.log2 = true
 ·have e : (chg m l).2 = l.2 ^^^ m := by unfold chg; rw [if_pos h]
  rw [e] at h1;have h3 := spans_xor h1 (with_new ls m)
  rwa [Nat.xor_assoc, Nat.xor_self, Nat.xor_zero] at h3
 ·have e : (chg m l).2 = l.2 := by unfold chg; rw [if_neg h]
  rw [e] at h1; exact h1
theorem with_in {ls : List (Nat × Nat)} {m : Nat} {ss : List Nat} (h1 : ∀ r ∈ ls.map (·.2), r ∈ spans ss) (h2 : m ∈ spans ss) : ∀ r ∈ (withL ls m).map (·.2), r ∈ spans ss := by
 intro r hr;obtain ⟨l, hl, rfl⟩ := List.mem_map.mp hr;unfold withL at hl;rw [List.mem_append, List.mem_singleton] at hl;rcases hl with hl | rfl
 ·obtain ⟨k, hk, rfl⟩ := List.mem_map.mp hl
  have hk2 := h1 k.2 (List.mem_map.mpr ⟨k, hk, rfl⟩);unfold chg;split
  ·exact spans_xor hk2 h2
  ·exact hk2
 ·exact h2
theorem ls_gr : ∀ (ms done : List Nat) (ls : List (Nat × Nat)), Rd ls -> (∀ r ∈ ls.map (·.2), r ∈ spans done) -> (∀ d ∈ done, d ∈ spans (ls.map (·.2))) -> (ms.foldl lsStep ls).length = ls.length + gr done ms := by
 intro ms
 induction ms with
 | nil => intro done ls _ _ _; simp [gr]
 | cons m ms ih =>
  intro done ls hr h1 h2;rw [List.foldl_cons];have hsp := ls_span ls m;have hz := ls_bits ls m hr.tri;have key := red_zero hr.tri (x := m) (z := lsRed ls m) hsp hz;have hsame := spans_same h1 h2;have hd : ∀ r ∈ ls.map (·.2), r ∈ spans (m :: done) := fun r hr => by simp only [spans, List.mem_append]; exact .inl (h1 r hr)
  by_cases hm : m ∈ spans done
  ·have e0 := key.mpr ((hsame m).mpr hm)
   have es : lsStep ls m = ls := by unfold lsStep; rw [e0]; rfl
   rw [es, ih (m :: done) ls hr hd (fun d hdd => by
    rcases List.mem_cons.mp hdd with rfl | hdd
    ·exact (hsame _).mpr hm
    ·exact h2 d hdd)]
   simp only [gr, hm, if_true]; omega
  ·have e0 : lsRed ls m ≠ 0 := fun h => hm ((hsame m).mp (key.mp h))
   have es : lsStep ls m = withL ls (lsRed ls m) := by unfold lsStep; rw [if_pos e0]
   rw [es, ih (m :: done) _ (with_rd hr e0 hz) (with_in hd (by
     have a1 := spans_sub hd hsp;have a2 : m ∈ spans (m :: done) := spans_row (by simp);have a3 := spans_xor a2 a1
     rwa [<- Nat.xor_assoc, Nat.xor_self, Nat.zero_xor] at a3)) (fun d hdd => by
     rcases List.mem_cons.mp hdd with rfl | hdd
     ·have a1 := spans_sub (with_old ls (lsRed ls d)) hsp
      have a3 := spans_xor a1 (with_new ls (lsRed ls d))
      rwa [Nat.xor_assoc, Nat.xor_self, Nat.xor_zero] at a3
     ·exact spans_sub (with_old ls _) (h2 d hdd))]
   simp only [gr, hm, if_false, withL, List.length_append, List.length_map, List.length_singleton]; omega
theorem rank_same (ms : List Nat) : (ms.foldl lsStep []).length = (ms.foldl lawStep []).length := by
 rw [law_rank]
 have := ls_gr ms [] [] ⟨(fun l hl => by cases hl), List.Pairwise.nil⟩ (fun r hr => by cases hr) (fun d hd => by cases hd)
 simpa using this
theorem gr_congr : ∀ (ms : List Nat) {d e : List Nat}, (∀ x, x ∈ spans d ↔ x ∈ spans e) -> gr d ms = gr e ms := by
 intro ms
 induction ms with
 | nil => intro d e _; rfl
 | cons m ms ih =>
  intro d e h;have h2 : ∀ x, x ∈ spans (m :: d) ↔ x ∈ spans (m :: e) := fun x => by
   simp only [spans, List.mem_append, List.mem_map, h]
  simp only [gr, ih h2, h m]
theorem gr_mono : ∀ (ms : List Nat) {d e : List Nat}, (∀ x, x ∈ spans d -> x ∈ spans e) -> gr e ms <= gr d ms := by
 intro ms
 induction ms with
 | nil => intro d e _; exact Nat.le_refl _
 | cons m ms ih =>
  intro d e h;have h2 : ∀ x, x ∈ spans (m :: d) -> x ∈ spans (m :: e) := fun x hx => by
   simp only [spans, List.mem_append, List.mem_map] at hx ⊢;rcases hx with hx | ⟨a, ha, rfl⟩
   ·exact .inl (h x hx)
   ·exact .inr ⟨a, h a ha, rfl⟩
  have := ih h2
  simp only [gr];by_cases h3 : m ∈ spans d
  ·rw [if_pos h3, if_pos (h m h3)]; omega
  ·rw [if_neg h3]; split <;> omega
theorem gr_app : ∀ (as bs d : List Nat), gr d (as ++ bs) = gr d as + gr (as.reverse ++ d) bs := by
 intro as
 induction as with
 | nil => intro bs d; simp [gr]
 | cons a as ih =>
  intro bs d;simp only [List.cons_append, gr, ih, List.reverse_cons, List.append_assoc, List.nil_append];omega
theorem spans_mem {rs ss : List Nat} (h : ∀ r ∈ rs, r ∈ ss) {x : Nat} (hx : x ∈ spans rs) : x ∈ spans ss := spans_sub (fun r hr => spans_row (h r hr)) hx
noncomputable def rk (ms : List Nat) : Nat := gr [] ms
theorem rk_app (as bs : List Nat) : rk (as ++ bs) = rk as + gr as bs := by
 unfold rk;rw [gr_app];congr 1;refine gr_congr bs fun x => ⟨fun h => spans_mem (fun r hr => by simpa using hr) h, fun h => spans_mem (fun r hr => by simpa using hr) h⟩
theorem gr_swap (d : List Nat) (a b : Nat) (ms : List Nat) : gr d (a :: b :: ms) = gr d (b :: a :: ms) := by
 have h2 : gr (b :: a :: d) ms = gr (a :: b :: d) ms := gr_congr ms fun x => ⟨fun h => spans_mem (fun r hr => by simp at hr ⊢; rcases hr with h | h | h <;> simp [h]) h, fun h => spans_mem (fun r hr => by simp at hr ⊢; rcases hr with h | h | h <;> simp [h]) h⟩
 have e1 : ∀ p q : Nat, p ∉ spans d -> q ∉ spans d -> q ∈ spans (p :: d) -> p ∈ spans (q :: d) := by
  intro p q hp hq h;simp only [spans, List.mem_append, List.mem_map] at h ⊢;rcases h with h | ⟨s, hs, rfl⟩
  ·exact absurd h hq
  ·exact .inr ⟨s, hs, by rw [Nat.xor_assoc, Nat.xor_self, Nat.xor_zero]⟩
 have e2 : ∀ p q : Nat, q ∈ spans d -> q ∈ spans (p :: d) := fun p q h => by simp only [spans, List.mem_append]; exact .inl h
 have e3 : ∀ p q : Nat, p ∈ spans d -> q ∉ spans d -> q ∉ spans (p :: d) := by
  intro p q hp hq h;simp only [spans, List.mem_append, List.mem_map] at h;rcases h with h | ⟨s, hs, rfl⟩
  ·exact hq h
  ·exact hq (spans_xor hp hs)
 simp only [gr, h2];by_cases ha : a ∈ spans d <;> by_cases hb : b ∈ spans d
 ·simp [ha, hb, e2]
 ·simp [ha, hb, e2, e3 a b ha hb]
 ·simp [ha, hb, e2, e3 b a hb ha]
 ·by_cases h : b ∈ spans (a :: d)
  ·simp [ha, hb, h, e1 a b ha hb h]
  ·have : a ∉ spans (b :: d) := fun h' => h (e1 b a hb ha h')
   simp [ha, hb, h, this]
theorem gr_perm {as bs : List Nat} (p : as.Perm bs) : ∀ d, gr d as = gr d bs := by
 induction p with
 | nil => intro d; rfl
 | cons x _ ih => intro d; simp only [gr, ih]
 | swap x y l => intro d; exact gr_swap d y x l
 | trans _ _ h1 h2 => intro d; rw [h1, h2]
theorem rk_perm {as bs : List Nat} (p : as.Perm bs) : rk as = rk bs := gr_perm p []
theorem gr_in : ∀ (ms d : List Nat), (∀ m ∈ ms, m ∈ spans d) -> gr d ms = 0 := by
 intro ms
 induction ms with
 | nil => intro d _; rfl
 | cons m ms ih =>
  intro d h;simp only [gr, h m (by simp), if_true];rw [ih (m :: d) fun x hx => by simp only [spans, List.mem_append]; exact .inl (h x (by simp [hx]))]
theorem rk_add {as bs : List Nat} (h : ∀ b ∈ bs, b ∈ spans as) : rk (as ++ bs) = rk as := by rw [rk_app, gr_in bs as h]; rfl
theorem rk_le {as bs : List Nat} (h : ∀ b ∈ bs, b ∈ spans as) : rk bs <= rk as := by
 have h1 := rk_add h;have h2 := rk_perm (List.perm_append_comm (l₁ := as) (l₂ := bs));rw [rk_app bs as] at h2;omega
theorem rk_same {as bs : List Nat} (h : ∀ b ∈ bs, b ∈ spans as) (h' : ∀ a ∈ as, a ∈ spans bs) : rk as = rk bs := Nat.le_antisymm (rk_le h') (rk_le h)
theorem rk_sub (z as bs : List Nat) : rk (z ++ as ++ bs) + rk z <= rk (z ++ as) + rk (z ++ bs) := by
 have h1 := rk_app (z ++ as) bs;have h2 := rk_app z bs;have h3 : gr (z ++ as) bs <= gr z bs := gr_mono bs fun x hx => spans_mem (fun r hr => by simp [hr]) hx
 omega
theorem shared_ge {as bs y k : List Nat} (h1 : ∀ x ∈ y, x ∈ spans as) (h2 : ∀ x ∈ y, x ∈ spans bs) : rk (as ++ bs ++ k) + rk (k ++ y) <= rk (as ++ k) + rk (bs ++ k) := by
 have s := rk_sub (k ++ y) as bs;have hin : ∀ (c : List Nat), (∀ x ∈ y, x ∈ spans c) -> rk (k ++ y ++ c) = rk (c ++ k) := fun c hc => rk_same (fun b hb => by
   rcases List.mem_append.mp hb with h | h
   ·exact spans_row (by simp [h])
   ·exact spans_row (by simp [h])) (fun a ha => by
   rcases List.mem_append.mp ha with h | h
   ·rcases List.mem_append.mp h with h | h
    ·exact spans_row (by simp [h])
    ·exact spans_mem (fun r hr => by simp [hr]) (hc a h)
   ·exact spans_row (by simp [h]))
 rw [hin as h1, hin bs h2] at s;have e : rk (k ++ y ++ as ++ bs) = rk (as ++ bs ++ k) := by
  rw [List.append_assoc (k ++ y)];exact hin (as ++ bs) fun x hx => spans_mem (fun r hr => by simp [hr]) (h1 x hx)
 omega
end RK
namespace RK
open PySem
theorem or_split : ∀ a b : Nat, (a &&& b) + (a ^^^ b) = a ||| b := by
 intro a
 induction a using Nat.strongRecOn with
 | ind a ih =>
  intro b;rcases Nat.eq_zero_or_pos a with rfl | h
  ·simp
  ·have h1 := ih (a / 2) oM (b / 2)
   rw [<- Nat.and_div_two, <- Nat.xor_div_two, <- Nat.or_div_two] at h1;have hm : (a &&& b) % 2 + (a ^^^ b) % 2 = (a ||| b) % 2 := by
    rw [Nat.and_mod_two_pow (n := 1) (a := a) (b := b) |> fun h => h, Nat.xor_mod_two_pow (n := 1) (a := a) (b := b), Nat.or_mod_two_pow (n := 1) (a := a) (b := b)];rcases Nat.mod_two_eq_zero_or_one a with e | e <;> rcases Nat.mod_two_eq_zero_or_one b with f | f <;> rw [show (2 : Nat) ^ 1 = 2 from rfl, e, f] <;> rfl
   have d1 := Nat.div_add_mod (a &&& b) 2;have d2 := Nat.div_add_mod (a ^^^ b) 2;have d3 := Nat.div_add_mod (a ||| b) 2;omega
theorem band_nat (a b : Nat) : Builtin.bitAnd (a : Int) (b : Int) = ((a &&& b : Nat) : Int) := by
 unfold Builtin.bitAnd;simp
theorem bor_nat (a b : Nat) : Builtin.bitOr (a : Int) (b : Int) = ((a ||| b : Nat) : Int) := by
 unfold Builtin.bitOr Builtin.bitAnd Builtin.bitNot;rw [show decide ((0 : Int) <= -(a : Int) - 1) = false from decide_eq_false oM, show decide ((0 : Int) <= -(b : Int) - 1) = false from decide_eq_false oM];dsimp only;rw [show (-(-(a : Int) - 1) - 1).toNat = a by omega, show (-(-(b : Int) - 1) - 1).toNat = b by omega];omega
theorem bxor_nat (a b : Nat) : Builtin.bitXor (a : Int) (b : Int) = ((a ^^^ b : Nat) : Int) := by
 have h := or_split a b;unfold Builtin.bitXor;rw [bor_nat, band_nat]; omega
theorem pow_nat (b : Nat) : (1 : Int) * 2 ^ b = ((2 ^ b : Nat) : Int) := by rw [Int.one_mul]; simp
theorem lead_in (m b : Nat) : (!(Builtin.bitAnd (m : Int) ((2 ^ b : Nat) : Int) == 0)) = m.testBit b := by
 rw [band_nat];have e : (((m &&& 2 ^ b : Nat) : Int) == 0) = decide (m &&& 2 ^ b = 0) := by
  rw [Bool.eq_iff_iff, beq_iff_eq, decide_eq_true_eq]; omega
 rw [e];cases hb : m.testBit b
 ·have : m &&& 2 ^ b = 0 := by
   apply Nat.eq_of_testBit_eq;intro i;rw [Nat.testBit_and, Nat.testBit_two_pow];by_cases h : b = i
   ·subst h; simp [hb]
   ·simp [h]
  simp [this]
 ·have : m &&& 2 ^ b ≠ 0 := fun h => by
   have h2 : (m &&& 2 ^ b).testBit b = true := by rw [Nat.testBit_and, hb, Nat.testBit_two_pow_self]; rfl
   rw [h] at h2; simp at h2
  simp [this]
theorem blen_nat {m : Nat} (h : m ≠ 0) : ((Builtin.Int.intBits (m : Int) : Nat) : Int) - 1 = ((m.log2 : Nat) : Int) := by
 unfold Builtin.Int.intBits;have : ((m : Int) == 0) = false := by rw [beq_eq_false_iff_ne]; omega
 rw [this];simp only [Bool.false_eq_true, if_false, Int.natAbs_natCast];omega
theorem log2_lt {m B : Nat} (h : m ≠ 0) (hm : m < 2 ^ B) : m.log2 < B := (Nat.log2_lt h).mpr hm
noncomputable abbrev L3 := Nat × Nat × Nat
noncomputable def lsR3 (ls : List L3) (x : Nat × Nat) : Nat × Nat := ls.foldl (fun p l => if p.1.testBit l.1 = true then (p.1 ^^^ l.2.1, p.2 ^^^ l.2.2) else p) x
noncomputable def pr3 (l : L3) : Nat × Nat := (l.1, l.2.1)
theorem lsR3_fst : ∀ (ls : List L3) (x : Nat × Nat), (lsR3 ls x).1 = lsRed (ls.map pr3) x.1 := by
 intro ls
 induction ls with
 | nil => intro x; rfl
 | cons l ls ih =>
  intro x;simp only [lsR3, lsRed, List.foldl_cons, List.map_cons, pr3] at ih ⊢;by_cases h : x.1.testBit l.1 = true
  ·rw [if_pos h, if_pos h]; exact ih _
  ·rw [if_neg h, if_neg h]; exact ih _
noncomputable def chg3 (m q : Nat) (l : L3) : L3 := if l.2.1.testBit m.log2 = true then (l.1, l.2.1 ^^^ m, l.2.2 ^^^ q) else l
noncomputable def with3 (ls : List L3) (m q : Nat) : List L3 := ls.map (chg3 m q) ++ [(m.log2, m, q)]
theorem with3_pr (ls : List L3) (m q : Nat) : (with3 ls m q).map pr3 = withL (ls.map pr3) m := by
 unfold with3 withL;rw [List.map_append, List.map_map, List.map_map];congr 1;apply List.map_congr_left;intro l _;by_cases h : l.2.1.testBit m.log2 = true
 ·simp [Function.comp, chg3, chg, pr3, h]
 ·simp [Function.comp, chg3, chg, pr3, h]
noncomputable def step3 (ls : List L3) (m q : Nat) : List L3 := if (lsR3 ls (m, q)).1 ≠ 0 then with3 ls (lsR3 ls (m, q)).1 (lsR3 ls (m, q)).2 else ls
theorem step3_pr (ls : List L3) (m q : Nat) : (step3 ls m q).map pr3 = lsStep (ls.map pr3) m := by
 unfold step3 lsStep;rw [lsR3_fst];split
 ·rw [with3_pr]
 ·rfl
noncomputable def lines3 : List L3 -> Nat -> List Nat -> List L3
 | ls, _, [] => ls
 | ls, n, m :: ms => lines3 (step3 ls m (2 ^ n)) (n + 1) ms
theorem lines3_pr : ∀ (ms : List Nat) (ls : List L3) (n : Nat), (lines3 ls n ms).map pr3 = ms.foldl lsStep (ls.map pr3) := by
 intro ms
 induction ms with
 | nil => intro ls n; rfl
 | cons m ms ih => intro ls n; simp only [lines3, ih, step3_pr, List.foldl_cons]
theorem lines3_len (ms : List Nat) : (lines3 [] 0 ms).length = rk ms := by
 have h := congrArg List.length (lines3_pr ms [] 0);rw [List.length_map, List.map_nil, rank_same, law_rank] at h;exact h
noncomputable def Bd (B : Nat) (ls : List L3) : Prop := ∀ l ∈ ls, l.2.1 < 2 ^ B
theorem lsR3_bd {B : Nat} : ∀ {ls : List L3}, Bd B ls -> ∀ {x : Nat × Nat}, x.1 < 2 ^ B -> (lsR3 ls x).1 < 2 ^ B := by
 intro ls
 induction ls with
 | nil => intro _ x h; exact h
 | cons l ls ih =>
  intro hb x h;simp only [lsR3, List.foldl_cons];refine ih (fun k hk => hb k (by simp [hk])) ?_;split
  ·exact Nat.xor_lt_two_pow h (hb l (by simp))
  ·exact h
theorem with3_bd {B : Nat} {ls : List L3} (h : Bd B ls) {m q : Nat} (hm : m < 2 ^ B) : Bd B (with3 ls m q) := by
 intro l hl;unfold with3 at hl;rw [List.mem_append, List.mem_singleton] at hl;rcases hl with hl | rfl
 ·obtain ⟨k, hk, rfl⟩ := List.mem_map.mp hl
  unfold chg3;split
  ·exact Nat.xor_lt_two_pow (h k hk) hm
  ·exact h k hk
 ·exact hm
theorem step3_bd {B : Nat} {ls : List L3} (h : Bd B ls) {m q : Nat} (hm : m < 2 ^ B) : Bd B (step3 ls m q) := by
 unfold step3;split
 ·exact with3_bd h (lsR3_bd h hm)
 ·exact h
theorem step3_len (ls : List L3) (m q : Nat) : (step3 ls m q).length <= ls.length + 1 := by
 unfold step3 with3;split <;> simp
end RK
namespace LW
open PySem TT
noncomputable def maskP (v : List Int) : Int := (v.map fun c => (1 : Int) * 2 ^ c.toNat).sum
noncomputable def S2 (p : Nat -> Bool) : Nat -> Nat
 | 0 => 0
 | n + 1 => S2 p n + (if p n = true then 2 ^ n else 0)
theorem S2_lt (p : Nat -> Bool) : ∀ n, S2 p n < 2 ^ n := by
 intro n
 induction n with
 | zero => simp [S2]
 | succ n ih =>
  simp only [S2, Nat.pow_succ];split <;> omega
theorem S2_bit (p : Nat -> Bool) : ∀ n j, (S2 p n).testBit j = (decide (j < n) && p j) := by
 intro n
 induction n with
 | zero => intro j; simp [S2]
 | succ n ih =>
  intro j;have hlt := S2_lt p n;simp only [S2];by_cases hp : p n = true
  ·rw [if_pos hp, Nat.add_comm]
   by_cases hj : j = n
   ·subst hj
    rw [Nat.testBit_two_pow_add_eq, ih];simp [hp]
   ·by_cases hj2 : j < n
    ·rw [Nat.testBit_two_pow_add_gt hj2, ih]
     simp [hj2, Nat.lt_succ_of_lt hj2]
    ·have hb : 2 ^ n + S2 p n < 2 ^ (n + 1) := by rw [Nat.pow_succ]; omega
     have h2 : 2 ^ n + S2 p n < 2 ^ j := Nat.lt_of_lt_of_le hb (Nat.pow_le_pow_right dC oM);rw [Nat.testBit_lt_two_pow h2];simp [show ¬ j < n + 1 by omega]
  ·rw [if_neg hp, Nat.add_zero, ih]
   by_cases hj : j = n
   ·subst hj; simp [hp]
   ·by_cases hj2 : j < n
    ·simp [hj2, Nat.lt_succ_of_lt hj2]
    ·simp [hj2, show ¬ j < n + 1 by omega]
theorem mask_S2 (q : Int -> Bool) : ∀ n : Nat, maskP ((rng 0 n).filter q) = ((S2 (fun k => q (k : Int)) n : Nat) : Int) := by
 intro n
 induction n with
 | zero => rfl
 | succ n ih =>
  have e : rng 0 ((n + 1 : Nat) : Int) = rng 0 n ++ [(n : Int)] := by
   unfold rng;simp only [Int.sub_zero, Int.toNat_natCast, List.range_succ, List.map_append, List.map_cons, List.map_nil];simp
  rw [e, List.filter_append];unfold maskP at ih ⊢;rw [List.map_append, List.sum_append, ih];simp only [S2];by_cases hq : q (n : Int) = true
  ·simp [hq, List.filter_cons]
  ·simp [hq, List.filter_cons]
end LW
namespace DD
open PySem PySem.Spec PyProof.Rows L2
section
variable {X : Cx} {o : Expr} {i : Nat} {js : List DP} {lo hi : Option Expr} {pl ph : Option DP} {p2 pos : Pos}
end
end DD
namespace TT
open PySem L2 DD
section
variable {S : Type} {α β γ δ ρ : Type} {Z Z0 Z1 Z2 Z3 Z4 Z' Zn Zh : Shp S} {c c' : DE} {E : Ex S ρ}
end
end TT
namespace L2
open PySem PySem.Spec PyProof.Rows
section
variable {X : Cx}
end
end L2
namespace DD
open PySem PySem.Spec PyProof.Rows L2
section
variable {X : Cx}
end
end DD
namespace TT
open PySem L2 DD
end TT
namespace DD
open PySem PySem.Spec PyProof.Rows L2
section
variable {K : PySem.W.Frag} {F : Addr -> Prop} {H : Hp} {OD : DSt} {O : St} {R : Ro}
end
section
variable {X : Cx} {e : Expr} {c : DE} {apos cpos : Pos} {i : Nat} {js : List DP}
end
theorem plainC {c : Const} {k p} : PlainIx (.Constant c k p) := by intro _ _; rfl
section
variable {X : Cx} {a b e : Expr} {es : List Expr} {ps : List DP} {c c' : DE} {pos apos cpos : Pos} {i : Nat} {js : List DP} {o : Expr}
end
end DD
namespace TT
open PySem L2 DD
section
variable {S : Type} {α β γ δ ρ : Type} {Z Z0 Z1 Z2 Z3 Z4 Z' Zn Zh : Shp S} {c c' : DE} {E : Ex S ρ}
end
end TT
namespace DD
open PySem PySem.Spec PySem.Calls PyProof.Rows L2 PySem.W PySem.Builtin PySem.Builtin.Str
section
variable {prog : Program} {w : World} {A : Around} {E : Value -> Shared -> Prop} {s : Shared}
end
section
variable {X : Cx} {pins : List (Addr × Obj)} {O : St} {H : Hp} {s : Shared} {F : Addr -> Prop}
end
end DD
namespace L2
open PySem PySem.Spec PyProof.Rows
section
variable {X : Cx}
end
end L2
namespace DD
open PySem PySem.Spec PyProof.Rows L2
section
variable {X : Cx}
end
section
variable {X : Cx} {elt : Expr} {ifs : List Expr} {t : DT} {c : DE} {pos : Pos} {scope : Scope}
end
end DD
namespace TT
open PySem L2 DD
section
variable {S : Type} {α β : Type} {Z Z1 Z2 : Shp S}
end
end TT
namespace L2
open PySem PySem.Spec PyProof.Rows
section
variable {κ : Type} [DecidableEq κ]
end
section
variable {P : Program} {w : World} {H : Hp} {h : Heap} {a : Addr}
end
section
variable {X : Cx} {pins : List (Addr × Obj)} {O : St} {H : Hp} {s : Shared} {a : Addr} {y v : V} {u r : Value} {o : Option V} {A : Around} {E : Value -> Shared -> Prop}
end
section
variable {X : Cx} {pins : List (Addr × Obj)} {O : St} {H : Hp} {s : Shared} {a : Addr} {kvs : List (Key × V)} {k : Key} {u : Value} {A : Around} {E : Value -> Shared -> Prop}
end
section
variable {X : Cx} {o i e value : Expr} {pos pos' tpos : Pos} {td ty tv : TE}
end
section
variable {X : Cx} {pos : Pos}
end
end L2
namespace L2
open PySem PySem.Spec PySem.Calls PyProof.Rows
section
variable {prog : Program} {w : World} {A : Around} {E : Value -> Shared -> Prop} {s : Shared}
end
section
variable {prog : Program} {w : World} {A : Around} {R : Result -> Shared -> Prop} {I d : Addr} {h0 : Heap} {H : Hp} {n : Nat} {P : Nat -> Value -> Prop} {St : Nat -> Heap -> Prop} {fp : List Addr}
end
section
variable {X : Cx}
end
section
variable {prog : Program} {w : World} {A : Around} {E : Value -> Shared -> Prop} {s : Shared}
end
section
variable {X : Cx}
end
end L2
namespace DD
open PySem PySem.Spec PyProof.Rows L2
section
variable {K : PySem.W.Frag} {F : Addr -> Prop} {H : Hp} {R : Ro} {ks : List (List Key)} {xs : List D} {v : V} {o : Bool}
variable {OD : DSt} {O : St}
end
section
variable {X : Cx}
end
end DD
namespace TT
open PySem L2 DD
noncomputable abbrev K3 := Int × Int × Int
noncomputable def k3 (p : K3) : List Key := [Sum.inl p.1, Sum.inl p.2.1, Sum.inl p.2.2]
section
variable {S : Type} {α β ρ : Type} {Z Z1 Z2 : Shp S} {E : Ex S ρ}
end
end TT
namespace DD
open PySem PySem.Spec PyProof.Rows L2
mutual
noncomputable def flatD : D -> Bool
 | .non => true
 | .bl _ => true
 | .int _ => true
 | .str _ => true
 | .tup xs => flatL xs
 | _ => false
noncomputable def flatL : List D -> Bool
 | [] => true
 | x :: xs => flatD x && flatL xs
end
mutual
theorem flatD_nil {K : PySem.W.Frag} {F : Addr -> Prop} {H : Hp} : ∀ {d : D} {v : V} {L : List Addr}, flatD d = true -> Ow K F H d v L -> L = []
 | .non, _, _, _, o => by simp only [Ow] at o; exact o.2
 | .bl _, _, _, _, o => by simp only [Ow] at o; exact o.2
 | .int _, _, _, _, o => by simp only [Ow] at o; exact o.2
 | .str _, _, _, _, o => by simp only [Ow] at o; exact o.2
 | .tup xs, _, _, h, o => by
  simp only [Ow] at o;obtain ⟨a, vs, rfl, _, ol⟩ := o;exact flatL_nil (by simpa only [flatD] using h) ol
 | .hole, _, _, h, _ => by simp [flatD] at h
 | .cell, _, _, h, _ => by simp [flatD] at h
 | .node _ _, _, _, h, _ => by simp [flatD] at h
 | .pin _ _, _, _, h, _ => by simp [flatD] at h
 | .ty _, _, _, h, _ => by simp [flatD] at h
 | .cls _, _, _, h, _ => by simp [flatD] at h
 | .lst _ _, _, _, h, _ => by simp [flatD] at h
 | .obj _ _ _ _, _, _, h, _ => by simp [flatD] at h
 | .dct _ _ _, _, _, h, _ => by simp [flatD] at h
theorem flatL_nil {K : PySem.W.Frag} {F : Addr -> Prop} {H : Hp} : ∀ {xs : List D} {vs : List V} {L : List Addr}, flatL xs = true -> OwL K F H xs vs L -> L = []
 | [], _, _, _, o => by simp only [OwL] at o; exact o.2
 | x :: xs, _, _, h, o => by
  simp only [OwL] at o;obtain ⟨v, ws, L1, L2, rfl, h1, h2, rfl⟩ := o;simp only [flatL, Bool.and_eq_true] at h;rw [flatD_nil h.1 h1, flatL_nil h.2 h2]; rfl
end
section
variable {X : Cx} {e st : Expr} {lo hi : Option Expr} {pl ph : Option DP} {p q : DP} {pos p2 : Pos}
end
end DD
namespace TT
open PySem L2 DD
class Fl {α : Type} (r : Rl α) : Prop where
 f : ∀ a d, r a d -> flatD d = true
instance : Fl rI := ⟨fun _ _ h => by cases h; rfl⟩
section
variable {S : Type} {α β γ : Type} {Z : Shp S}
end
section
variable {α β γ α' β' γ' : Type}
end
end TT
namespace DD
open PySem PySem.Spec PyProof.Rows L2
section
variable {X : Cx} {a b c : Expr} {p q t : DP} {pos : Pos} {op op' : CmpOp} {g g' : D -> D -> Option D}
end
end DD
namespace TT
open PySem L2 DD
section
variable {S : Type} {α β γ ρ : Type} {Z Zb Zh : Shp S} {E : Ex S ρ}
end
end TT
namespace DD
open PySem PySem.Spec PyProof.Rows L2
section
variable {X : Cx} {e o a b : Expr} {es : List Expr} {p q : DP} {c c' : DE} {pos apos cpos : Pos} {i : Nat} {js : List DP}
end
end DD
namespace TT
open PySem L2 DD
section
variable {S α β : Type} {Z Z1 : Shp S}
end
end TT
namespace PySem.W
open PySem PySem.Calls PyProof.Rows
noncomputable def Kp (h h' : Heap) : Prop := ∀ b o, h.get? b = some o -> h'.get? b = some o
section
variable {prog : Program} {w : World} {A : Around} {E : Value -> Shared -> Prop} {s : Shared} {h₀ : Heap} {a : Addr} {vs : List Value} {κ : SortKind} {lt : Nat -> Nat -> Option Bool} {p : Array Nat}
end
section
variable {prog : Program} {w : World} {A : Around} {E : Value -> Shared -> Prop} {s : Shared} {fin : Bool} {Q : Bool -> Shared -> Prop}
end
end PySem.W
namespace L2
open PySem PySem.Spec PyProof.Rows PySem.W
section
variable {X : Cx} {pins : List (Addr × Obj)} {O : St} {H : Hp} {s : Shared} {h' : Heap}
end
end L2
namespace DD
open PySem PySem.Spec PyProof.Rows L2 PySem.W
section
variable {X : Cx} {e : Expr} {c : DE}
end
end DD
namespace DD
open PySem PySem.Spec PyProof.Rows L2
section
variable {X : Cx} {e : Expr} {lo hi : Option Expr} {pl ph : Option DP} {c : DE} {pos p2 : Pos}
end
end DD
namespace TT
open PySem L2 DD PySem.W
section
variable {S : Type} {α β γ : Type} {Z Z1 : Shp S}
end
end TT
namespace DD
open PySem PySem.Spec PyProof.Rows L2
section
variable {X : Cx} {e f : Expr} {c c' : DE} {pos p2 : Pos}
end
end DD
namespace TT
open PySem L2 DD
section
variable {S : Type} {α β γ : Type} {Z Z1 Z2 : Shp S}
end
end TT
namespace PySem.W
open PySem PySem.Calls PyProof.Rows PyProof.V PySem.Spec
section
variable {prog : Program} {w : World} {A : Around} {E : Value -> Shared -> Prop} {s : Shared} {it d v : Addr} {i ep : Nat} {es : Array DictEntry}
end
end PySem.W
namespace PySem.W
open PySem PySem.Calls PyProof.Rows
section
variable {prog : Program} {w : World} {A : Around} {E : Value -> Shared -> Prop} {s : Shared} {vs : List Value} {κ : SortKind} {lt : Nat -> Nat -> Option Bool}
end
end PySem.W
namespace L2
open PySem PySem.Spec PySem.Calls PyProof.Rows PySem.W
section
variable {X : Cx}
end
end L2
namespace DD
open PySem PySem.Spec PyProof.Rows L2 PySem.W
section
variable {K : PySem.W.Frag} {F : Addr -> Prop} {H : Hp}
variable {OD : DSt} {O : St} {R : Ro} {as : List Addr}
end
section
variable {X : Cx} {e : Expr} {q : DP}
end
end DD
namespace TT
open PySem L2 DD PySem.W
section
variable {S : Type} {Z : Shp S}
end
end TT
namespace DD
open PySem PySem.Spec PyProof.Rows L2
section
variable {X : Cx}
end
end DD
namespace TT
open PySem L2 DD
end TT
namespace DD
open PySem PySem.Spec PyProof.Rows L2
section
variable {K : PySem.W.Frag} {F F' : Addr -> Prop} {H H' : Hp} {A : List Addr}
open Classical in
noncomputable def pinOf (H : Hp) (a : Addr) : D := match H a with
 | some o => if h : NT o then .pin a ⟨o, h⟩ else .hole
 | none => .hole
noncomputable def pins (H : Hp) (M : List Addr) : Ro := M.map fun a => (pinOf H a, V.ref a)
variable {OD : DSt} {O : L2.St} {R : Ro} {d : D} {v : V}
end
section
variable {X : Cx} {e : Expr} {c : DE}
end
end DD
namespace TT
open PySem L2 DD
section
variable {α β γ δ : Type}
end
section
variable {S : Type} {α β : Type} {Z Z1 Z2 : Shp S}
end
end TT
namespace DD
open PySem PySem.Spec PyProof.Rows L2
section
variable {X : Cx} {e o : Expr} {es : List Expr} {ps : List DP} {p : DP} {pos apos cpos : Pos} {i : Nat} {js : List DP}
end
end DD
namespace TT
open PySem L2 DD
section
variable {S : Type} {α β γ δ : Type} {Z : Shp S}
end
section
variable {S : Type} {α : Type} {Z Z1 : Shp S}
end
end TT
namespace PySem.W
open PySem.Calls PyProof.Rows PySem.Spec PySem.MeetsSeq3
section
end
end PySem.W
namespace L2
open PySem PySem.Spec PySem.Calls PyProof.Rows PySem.W
section
variable {X : Cx} {pins : List (Addr × Obj)} {O : St} {H : Hp} {s : Shared} {h' : Heap}
end
end L2
namespace DD
open PySem PySem.Spec PyProof.Rows L2 PySem.W
section
variable {X : Cx} {e b : Expr} {c : DE} {sts : List Stmt}
end
end DD
namespace TT
open PySem L2 DD PySem.W
section
variable {S : Type} {α β ρ : Type} {Z Z1 Z2 : Shp S} {E : Ex S ρ}
end
end TT
namespace TT
open PySem L2 DD
section
variable {S : Type} {α β : Type} {Z Z1 Z2 : Shp S}
end
end TT
namespace DD
open PySem PySem.Spec PyProof.Rows L2
section
variable {X : Cx} {s : DS} {pos : Pos} {W' : List Nat} {body : List Stmt}
end
end DD
namespace TT
open PySem L2 DD
section
variable {S : Type} {α β ρ : Type} {Z Zb : Shp S} {E : Ex S ρ}
end
end TT
namespace PySem
open Sem (wp)
section
variable {prog : Program} {w : World} {A : Around} {E : Value -> Shared -> Prop} {s : Shared}
theorem nextT_item {it t : Addr} {i : Nat} {items : Array Value} {x : Value} {Q : Value -> Shared -> Prop} (hit : s.heap.IsTupleIter it t i) (ht : s.heap.IsTuple t items) (hx : items[i]? = some x)
  (hQ : ∀ h', h'.IsTupleIter it t (i + 1) -> Heap.SameBut it s.heap h' -> Q x { s with heap := h' }) : wpAny (model prog w) A (Builtin.SmallTypes.nextOf (.ref it)) Q E s := by
 obtain ⟨o, ho, hc, hd⟩ := id hit;obtain ⟨ol, hol, _, nl, hdl⟩ := ht;unfold Builtin.SmallTypes.nextOf;refine wpAny_bind (wpAny_callSpecial?_slot (name := Str.ofString "__next__") hit.typeIs F.slot_tuple_iterator_next
  (wpAny_call_entry F.slot_tuple_iterator_next hit.typeIs F.entry_tuple_iterator_next ?_ (F.args_tuple_iterator_next_1 _)))
 show wpAny _ _ (field (.ref it) 0 >>= _) _ _ s;refine wpAny_bind (wpAny_field ho hd (x := .ref t) rfl ?_);show wpAny _ _ (if (Value.ref t == Value.none) = true then _ else _) _ _ s;rw [if_neg (show ¬ ((Value.ref t == Value.none) = true) from Bool.false_ne_true)];show wpAny _ _ (field (.ref it) 1 >>= _) _ _ s;refine wpAny_bind (wpAny_field ho hd (x := .int i 0) rfl ?_);show wpAny _ _ (seqItems? (.ref t) >>= _) _ _ s;refine wpAny_bind (wpAny_seqItems hol hdl ?_);simp only [Int.toNat_natCast, hx];refine wpAny_bind (wpAny_setField ho hd (by simp) (wpAny_pure ⟨x, rfl, wpAny_pure (hQ _ ?_ (Heap.SameBut.update ..))⟩));exact ⟨_, Heap.get?_update_self _ ho (Obj.isFreed_of_fields (Obj.data_mapFields hd _)), (Obj.cls_mapFields ..).trans hc, by
  rw [Obj.data_mapFields hd]; simp [rawInt]⟩
theorem nextT_end {it t : Addr} {i : Nat} {items : Array Value} {Q : Value -> Shared -> Prop} (hh : A.handled = none) (hit : s.heap.IsTupleIter it t i) (ht : s.heap.IsTuple t items) (hx : items[i]? = none)
  (hE : ∀ h' e, Heap.ExtBut it s.heap h' -> (∃ o, h'.get? e = some o /\ o.cls = .type "StopIteration") -> E (.ref e) { s with heap := h' }) : wpAny (model prog w) A (Builtin.SmallTypes.nextOf (.ref it)) Q E s := by
 obtain ⟨o, ho, hc, hd⟩ := id hit;obtain ⟨ol, hol, _, nl, hdl⟩ := ht;unfold Builtin.SmallTypes.nextOf;refine wpAny_bind (wpAny_callSpecial?_slot (name := Str.ofString "__next__") hit.typeIs F.slot_tuple_iterator_next
  (wpAny_call_entry F.slot_tuple_iterator_next hit.typeIs F.entry_tuple_iterator_next ?_ (F.args_tuple_iterator_next_1 _)))
 show wpAny _ _ (field (.ref it) 0 >>= _) _ _ s;refine wpAny_bind (wpAny_field ho hd (x := .ref t) rfl ?_);show wpAny _ _ (if (Value.ref t == Value.none) = true then _ else _) _ _ s;rw [if_neg (show ¬ ((Value.ref t == Value.none) = true) from Bool.false_ne_true)];show wpAny _ _ (field (.ref it) 1 >>= _) _ _ s;refine wpAny_bind (wpAny_field ho hd (x := .int i 0) rfl ?_);show wpAny _ _ (seqItems? (.ref t) >>= _) _ _ s;refine wpAny_bind (wpAny_seqItems hol hdl ?_);simp only [Int.toNat_natCast, hx];refine wpAny_bind (wpAny_rule (wpAny_bind (wpAny_setField ho hd (by simp) ?_)));show wpAny _ _ (newExc (.type "StopIteration") [] >>= _) _ _ _;refine wpAny_bind ?_;simp only [newExc, newTuple];refine wpAny_bind (wpAny_newObj_type ?_ (by size_fits));refine wpAny_bind (m := firstArgMember _ _) (wpAny_of_eq (a := Value.none) (by first | rfl | (simp only [firstArgMember]; rfl)) ?_);refine wpAny_newObj_type ?_ (by size_fits);simp only [raiseNew];refine wpAny_bind (wpAny_handled ?_)
 first | rw [show A.in1.handled = none from hh] | rw [hh]
 refine wpAny_bind (wpAny_pure (wpAny_throw ?_));exact hE _ _ (((Heap.SameBut.update ..).extBut.push _).push _) ⟨_, Heap.get?_push_size _ rfl, rfl⟩
structure At2 (h : Heap) (n l1 l2 : Nat) (xs1 xs2 : Array Value) (k : Nat) (f0 : Value) : Prop where
 z : IsZip h (n + 4) (n + 2) (n + 3) f0
 ti : IsPair h (n + 2) (.ref n) (.ref (n + 1))
 to : ∃ a b, IsPair h (n + 3) a b
 i1 : h.IsTupleIter n l1 k
 i2 : h.IsTupleIter (n + 1) l2 k
 l1 : h.IsTuple l1 xs1
 l2 : h.IsTuple l2 xs2
theorem atT {h h' : Heap} {a : Addr} {xs : Array Value} (x : h.IsTuple a xs) (e : ∀ o, h.get? a = some o -> h'.get? a = some o) : h'.IsTuple a xs := by
 obtain ⟨o, ho, r⟩ := x;exact ⟨o, e _ ho, r⟩
theorem zip2_item {n l1 l2 : Nat} {k : Nat} {xs1 xs2 : Array Value} {x1 x2 : Value} {Q : Value -> Shared -> Prop} (b1 : l1 < n) (b2 : l2 < n)
  (a : At2 s.heap n l1 l2 xs1 xs2 k .none) (g1 : xs1[k]? = some x1) (g2 : xs2[k]? = some x2)
  (hQ : ∀ h', At2 h' n l1 l2 xs1 xs2 (k + 1) (rawInt s.heap.objs.size) -> IsPair h' s.heap.objs.size x1 x2 ->
   (∀ (c : Nat) o, (c < n \/ n + 5 <= c) -> s.heap.get? c = some o -> h'.get? c = some o) -> Q (.ref s.heap.objs.size) { s with heap := h' }) :
  wpAny (model prog w) A (Builtin.«zip.__next__» ⟨[.ref (n + 4)], []⟩) (fun fin s' => ∃ v, fin = .done (.ret v) /\ Q v s') E s := by
 obtain ⟨hz, hTI, ⟨o1, o2, hTO⟩, h1, h2, hl1, hl2⟩ := a;show wpAny _ _ (field (.ref (n + 4)) 2 >>= _) _ _ _;refine wpAny_bind (wpAny_field hz rfl (x := .bool false) rfl ?_);show wpAny _ _ (field (.ref (n + 4)) 3 >>= _) _ _ _;refine wpAny_bind (wpAny_field hz rfl (x := .ref (n + 2)) rfl ?_);refine wpAny_bind (wpAny_seqItems hTI rfl ?_);show wpAny _ _ (Builtin.SmallTypes.ownedTupleIsFree (.ref (n + 4)) >>= _) _ _ _;refine wpAny_bind ?_;unfold Builtin.SmallTypes.ownedTupleIsFree;refine wpAny_bind (wpAny_field hz rfl (x := .none) rfl (wpAny_pure ?_));simp only [if_true];refine wpAny_bind (wpAny_rule ?_);refine wpAny_bind (wpAny_field hz rfl (x := .ref (n + 3)) rfl ?_);refine wpAny_bind (wpAny_setField_rec hz (by simp) fun h₁ hz₁ hs₁ => ?_);replace hz₁ : IsZip h₁ (n + 4) (n + 2) (n + 3) .ellipsis := hz₁;refine wpAny_bind ?_;simp only [List.zipIdx_cons, List.zipIdx_nil, List.forIn_cons, List.forIn_nil];have up1 : ∀ (c : Nat) o, c < n + 4 \/ n + 5 <= c -> s.heap.get? c = some o -> h₁.get? c = some o := fun c o hc e => hs₁.extBut _ _ oM e
 -- the first one
 refine wpAny_bind (wpAny_bind (wpAny_onRaise ?_));show wpAny _ _ (Builtin.SmallTypes.nextOf (.ref n) >>= _) _ _ _;refine wpAny_bind (nextT_item (h1.at fun o e => up1 _ o oM e) (atT hl1 fun o e => up1 _ o oM e) g1 fun h₂ h1₂ hs₂ => wpAny_pure ?_);have hTO₂ : IsPair h₂ (n + 3) o1 o2 := hs₂.extBut _ _ oM (up1 _ _ oM hTO);refine wpAny_bind (wpAny_seqItems hTO₂ rfl ?_);refine wpAny_bind (wpAny_updateSeq_pair hTO₂ fun h₃ hTO₃ hs₃ => ?_);replace hTO₃ : IsPair h₃ (n + 3) x1 o2 := hTO₃;refine wpAny_bind (wpAny_letGo (wpAny_pure ?_));have up3 : ∀ (c : Nat) o, c < n \/ (n < c /\ c < n + 3) \/ n + 5 <= c -> s.heap.get? c = some o -> h₃.get? c = some o := fun c o hc e => hs₃.extBut _ _ oM (hs₂.extBut _ _ oM (up1 _ _ oM e))
 have hz₃ : IsZip h₃ (n + 4) (n + 2) (n + 3) .ellipsis := hs₃.extBut _ _ oM (hs₂.extBut _ _ oM hz₁);have h1₃ : h₃.IsTupleIter n l1 (k + 1) := h1₂.extBut hs₃.extBut oM
 -- the second one
 refine wpAny_bind (wpAny_bind (wpAny_onRaise ?_));show wpAny _ _ (Builtin.SmallTypes.nextOf (.ref (n + 1)) >>= _) _ _ _;refine wpAny_bind (nextT_item (h2.at fun o e => up3 _ o oM e) (atT hl2 fun o e => up3 _ o oM e) g2 fun h₄ h2₄ hs₄ => wpAny_pure ?_);have hTO₄ : IsPair h₄ (n + 3) x1 o2 := hs₄.extBut _ _ oM hTO₃;refine wpAny_bind (wpAny_seqItems hTO₄ rfl ?_);refine wpAny_bind (wpAny_updateSeq_pair hTO₄ fun h₉ hTO₉ hs₉ => ?_);replace hTO₉ : IsPair h₉ (n + 3) x1 x2 := hTO₉;refine wpAny_bind (wpAny_letGo (wpAny_pure (wpAny_pure ?_)));have up9 : ∀ (c : Nat) o, c ≠ n + 1 -> c ≠ n + 3 -> h₃.get? c = some o -> h₉.get? c = some o := fun c o c1 c2 e => hs₉.extBut _ _ c2 (hs₄.extBut _ _ c1 e)
 have hz₉ : IsZip h₉ (n + 4) (n + 2) (n + 3) .ellipsis := up9 _ _ oM oM hz₃;have hsz : h₉.objs.size = s.heap.objs.size := by rw [hs₉.1, hs₄.1, hs₃.1, hs₂.1, hs₁.1]
 refine wpAny_bind (wpAny_seqItems hTO₉ rfl ?_);refine wpAny_bind (wpAny_newTuple ?_);have hzlt : n + 4 < h₉.objs.size := Heap.lt_size hz₉;show wpAny _ _ (Builtin.SmallTypes.ownedTupleHandOut (.ref (n + 4)) (.ref h₉.objs.size) >>= _) _ _ _;refine wpAny_bind ?_;unfold Builtin.SmallTypes.ownedTupleHandOut;have hz₁₀ : IsZip (h₉.push { cls := .type "tuple", data := .seq #[x1, x2] }) (n + 4) (n + 2) (n + 3) .ellipsis := Heap.get?_push_of_some _ hz₉;refine wpAny_bind (wpAny_setField_rec hz₁₀ (by simp) fun h₁₁ hz₁₁ hs₁₁ => ?_);replace hz₁₁ : IsZip h₁₁ (n + 4) (n + 2) (n + 3) (rawInt h₉.objs.size) := hz₁₁;refine wpAny_setField_rec hz₁₁ (by simp) fun h₁₂ hz₁₂ hs₁₂ => ?_
 replace hz₁₂ : IsZip h₁₂ (n + 4) (n + 2) (n + 3) (rawInt h₉.objs.size) := hz₁₂;have up : ∀ (c : Nat) o, c ≠ n + 4 -> h₉.get? c = some o -> h₁₂.get? c = some o := fun c o c1 e => hs₁₂.extBut _ _ c1 (hs₁₁.extBut _ _ c1 (Heap.get?_push_of_some _ e))
 have hT₁₂ : IsPair h₁₂ h₉.objs.size x1 x2 := hs₁₂.extBut _ _ (Nat.ne_of_gt hzlt) (hs₁₁.extBut _ _ (Nat.ne_of_gt hzlt) (Heap.get?_push_size _ rfl));rw [hsz] at hz₁₂ hT₁₂;have top : ∀ (c : Nat) o, (c < n \/ c = n + 2 \/ n + 5 <= c) -> s.heap.get? c = some o -> h₁₂.get? c = some o := fun c o hc e =>
  up c o oM (up9 c o oM oM (up3 c o oM e))
 refine wpAny_pure ⟨_, rfl, ?_⟩;show Q (.ref h₉.objs.size) _;rw [hsz];refine hQ h₁₂ ⟨hz₁₂, top _ _ oM hTI, ⟨_, _, up _ _ oM hTO₉⟩, ?_, ?_, atT hl1 fun o e => top _ o oM e, atT hl2 fun o e => top _ o oM e⟩ hT₁₂ fun c o hc e => top c o oM e
 ·exact h1₃.at fun o e => up _ o oM (up9 _ o oM oM e)
 ·exact (h2₄.extBut hs₉.extBut oM).at fun o e => up _ o oM e
theorem zip2_end {n l1 l2 : Nat} {k : Nat} {xs1 xs2 : Array Value} {Q : Fin -> Shared -> Prop} (hh : A.handled = none) (b1 : l1 < n)
  (a : At2 s.heap n l1 l2 xs1 xs2 k .none) (g1 : xs1[k]? = none)
  (hE : ∀ h' e, (∀ (c : Nat) o, (c < n \/ n + 5 <= c) -> s.heap.get? c = some o -> h'.get? c = some o) -> (∃ o, h'.get? e = some o /\ o.cls = .type "StopIteration") -> E (.ref e) { s with heap := h' }) :
  wpAny (model prog w) A (Builtin.«zip.__next__» ⟨[.ref (n + 4)], []⟩) Q E s := by
 obtain ⟨hz, hTI, ⟨o1, o2, hTO⟩, h1, h2, hl1, hl2⟩ := a;show wpAny _ _ (field (.ref (n + 4)) 2 >>= _) _ _ _;refine wpAny_bind (wpAny_field hz rfl (x := .bool false) rfl ?_);show wpAny _ _ (field (.ref (n + 4)) 3 >>= _) _ _ _;refine wpAny_bind (wpAny_field hz rfl (x := .ref (n + 2)) rfl ?_);refine wpAny_bind (wpAny_seqItems hTI rfl ?_);show wpAny _ _ (Builtin.SmallTypes.ownedTupleIsFree (.ref (n + 4)) >>= _) _ _ _;refine wpAny_bind ?_;unfold Builtin.SmallTypes.ownedTupleIsFree;refine wpAny_bind (wpAny_field hz rfl (x := .none) rfl (wpAny_pure ?_));simp only [if_true];refine wpAny_bind (wpAny_rule ?_);refine wpAny_bind (wpAny_field hz rfl (x := .ref (n + 3)) rfl ?_);refine wpAny_bind (wpAny_setField_rec hz (by simp) fun h₁ hz₁ hs₁ => ?_);replace hz₁ : IsZip h₁ (n + 4) (n + 2) (n + 3) .ellipsis := hz₁;refine wpAny_bind ?_;simp only [List.zipIdx_cons, List.zipIdx_nil, List.forIn_cons, List.forIn_nil];refine wpAny_bind (wpAny_bind (wpAny_onRaise ?_));show wpAny _ _ (Builtin.SmallTypes.nextOf (.ref n) >>= _) _ _ _;refine wpAny_bind (nextT_end hh (h1.extBut hs₁.extBut oM) (hl1.extBut hs₁.extBut oM) g1 fun h₂ e hs₂ he => ?_);obtain ⟨oe, hoe, hce⟩ := he;have hz₂ : IsZip h₂ (n + 4) (n + 2) (n + 3) .ellipsis := hs₂ _ _ oM hz₁;have hez : e ≠ n + 4 := fun x => by subst x; rw [hz₂] at hoe; cases hoe; simp at hce
 exact wpAny_setField_rec hz₂ (by simp) fun h₃ _ hs₃ => hE h₃ e (fun c o hc x => hs₃.extBut _ _ oM (hs₂ _ _ oM (hs₁.extBut _ _ oM x))) ⟨oe, hs₃.extBut _ _ hez hoe, hce⟩
theorem next_zip2 {n l1 l2 : Nat} {k : Nat} {xs1 xs2 : Array Value} {x1 x2 : Value} {Q : Option Value -> Shared -> Prop} (b1 : l1 < n) (b2 : l2 < n)
  (a : At2 s.heap n l1 l2 xs1 xs2 k .none) (g1 : xs1[k]? = some x1) (g2 : xs2[k]? = some x2)
  (hQ : ∀ h', At2 h' n l1 l2 xs1 xs2 (k + 1) (rawInt s.heap.objs.size) -> IsPair h' s.heap.objs.size x1 x2 ->
   (∀ (c : Nat) o, (c < n \/ n + 5 <= c) -> s.heap.get? c = some o -> h'.get? c = some o) -> Q (some (.ref s.heap.objs.size)) { s with heap := h' }) :
  wpAny (model prog w) A (pyNext (.ref (n + 4))) Q E s := by
 have hT : s.TypeIs (.ref (n + 4)) "zip" := ⟨_, a.z, rfl⟩;unfold pyNext;exact wpAny_bind (wpAny_attempt (wpAny_callSpecial?_slot (name := Str.ofString "__next__") hT F.slot_zip_next
  (wpAny_call_entry F.slot_zip_next hT F.entry_zip_next
   (zip2_item b1 b2 a g1 g2 fun h' a1 a2 a3 => wpAny_pure (hQ h' a1 a2 a3)) (F.args_zip_next_1 _))))
theorem stop_zip2 {n l1 l2 : Nat} {k : Nat} {xs1 xs2 : Array Value} {Q : Option Value -> Shared -> Prop} (hh : A.handled = none) (b1 : l1 < n)
  (a : At2 s.heap n l1 l2 xs1 xs2 k .none) (g1 : xs1[k]? = none)
  (hQ : ∀ h', (∀ (c : Nat) o, (c < n \/ n + 5 <= c) -> s.heap.get? c = some o -> h'.get? c = some o) -> Q none { s with heap := h' }) : wpAny (model prog w) A (pyNext (.ref (n + 4))) Q E s := by
 have hT : s.TypeIs (.ref (n + 4)) "zip" := ⟨_, a.z, rfl⟩;unfold pyNext;refine wpAny_bind (wpAny_attempt (wpAny_callSpecial?_slot (name := Str.ofString "__next__") hT F.slot_zip_next
  (wpAny_call_entry F.slot_zip_next hT F.entry_zip_next (zip2_end hh b1 a g1 fun h' e hk he => ?_) (F.args_zip_next_1 _))))
 obtain ⟨o, ho, hc⟩ := he;refine wpAny_bind (wpAny_isInstance (T := "StopIteration") (b := true) ⟨o, ho, hc⟩ isSubtype_stop ?_);exact wpAny_pure (hQ _ hk)
end
noncomputable abbrev itU (l : Addr) : Obj := { cls := .type "tuple_iterator", data := .fields #[.ref l, .int 0 0] }
noncomputable abbrev z2H2 (h : Heap) (l1 l2 : Nat) : Heap := (h.push (itU l1)).push (itU l2)
noncomputable abbrev z2H3 (h : Heap) (l1 l2 : Nat) : Heap := (z2H2 h l1 l2).push { cls := .type "tuple", data := .seq #[.ref h.objs.size, .ref (h.push (itU l1)).objs.size] }
noncomputable abbrev z2H4 (h : Heap) (l1 l2 : Nat) : Heap := (z2H3 h l1 l2).push { cls := .type "tuple", data := .seq #[.none, .none] }
noncomputable abbrev z2H5 (h : Heap) (l1 l2 : Nat) : Heap := (z2H4 h l1 l2).push { cls := .type "zip", data := .fields #[.none, .bool false, .bool false, .ref (z2H2 h l1 l2).objs.size, .ref (z2H3 h l1 l2).objs.size] }
theorem meets_zip2_new (l1 l2 : Nat) (xs1 xs2 : Array Value) :
  Meets (Builtin.«zip.__new__» ⟨[.type "zip", .ref l1, .ref l2], []⟩) (fun _ R s => s.heap.IsTuple l1 xs1 /\ s.heap.IsTuple l2 xs2 /\
   R (.ok (.ret (.ref (z2H4 s.heap l1 l2).objs.size))) { s with heap := z2H5 s.heap l1 l2 }) :=
 .of_wp fun prog w A R s h => by
  obtain ⟨hp, g, d, tk, os⟩ := s; obtain ⟨hl1, hl2, h⟩ := h;have hsub := sub_zip;have hL1 : Heap.IsTuple (Shared.heap ⟨hp, g, d, tk, os⟩) l1 xs1 := hl1;have hL2 : Heap.IsTuple (Shared.heap ⟨hp.push { cls := .type "tuple_iterator", data := .fields #[.ref l1, .int 0 0] }, g, d, tk, os⟩) l2 xs2 := Heap.IsTuple.push hl2 _
  wp_walk using wpAny_pyIter_tuple hL1, wpAny_pyIter_tuple hL2
  exact ⟨_, rfl, h⟩
section
variable {prog : Program} {w : World} {A : Around} {E : Value -> Shared -> Prop} {s : Shared}
theorem call_zip2 {l1 l2 : Nat} {xs1 xs2 : Array Value} {Q : Value -> Shared -> Prop} (hl1 : s.heap.IsTuple l1 xs1) (hl2 : s.heap.IsTuple l2 xs2)
  (h : ∀ h', At2 h' s.heap.objs.size l1 l2 xs1 xs2 0 .none -> (∀ (c : Nat) o, s.heap.get? c = some o -> h'.get? c = some o) -> Q (.ref (s.heap.objs.size + 4)) { s with heap := h' }) :
  wpAny (model prog w) A (call (.type "zip") [.ref l1, .ref l2]) Q E s := by
 refine callType_new F.called_zip dC (F.typeCall_zip_2 _ _) (F.newCall_zip_2 _ _) (fun obj => F.args_object_init_3 obj _ _) F.entry_zip_new
  (meets_zip2_new l1 l2 xs1 xs2) ⟨hl1, hl2, ?_⟩
 have z1 : (s.heap.push (itU l1)).objs.size = s.heap.objs.size + 1 := Heap.size_push ..;have z2 : (z2H2 s.heap l1 l2).objs.size = s.heap.objs.size + 2 := by rw [Heap.size_push, z1]
 have z3 : (z2H3 s.heap l1 l2).objs.size = s.heap.objs.size + 3 := by rw [Heap.size_push, z2]
 have z4 : (z2H4 s.heap l1 l2).objs.size = s.heap.objs.size + 4 := by rw [Heap.size_push, z3]
 have p5 : ∀ {c o}, (z2H4 s.heap l1 l2).get? c = some o -> (z2H5 s.heap l1 l2).get? c = some o := fun e => Heap.get?_push_of_some _ e
 have p4 : ∀ {c o}, (z2H3 s.heap l1 l2).get? c = some o -> (z2H5 s.heap l1 l2).get? c = some o := fun e => p5 (Heap.get?_push_of_some _ e)
 have p3 : ∀ {c o}, (z2H2 s.heap l1 l2).get? c = some o -> (z2H5 s.heap l1 l2).get? c = some o := fun e => p4 (Heap.get?_push_of_some _ e)
 have p2 : ∀ {c o}, (s.heap.push (itU l1)).get? c = some o -> (z2H5 s.heap l1 l2).get? c = some o := fun e => p3 (Heap.get?_push_of_some _ e)
 have p1 : ∀ {c o}, s.heap.get? c = some o -> (z2H5 s.heap l1 l2).get? c = some o := fun e => p2 (Heap.get?_push_of_some _ e)
 have g5 : (z2H5 s.heap l1 l2).get? (z2H4 s.heap l1 l2).objs.size = some _ := Heap.get?_push_size _ rfl;have g4 : (z2H5 s.heap l1 l2).get? (z2H3 s.heap l1 l2).objs.size = some _ := p5 (Heap.get?_push_size _ rfl);have g3 : (z2H5 s.heap l1 l2).get? (z2H2 s.heap l1 l2).objs.size = some _ := p4 (Heap.get?_push_size _ rfl);have g2 : (z2H5 s.heap l1 l2).get? (s.heap.push (itU l1)).objs.size = some (itU l2) := p3 (Heap.get?_push_size _ rfl);have g1 : (z2H5 s.heap l1 l2).get? s.heap.objs.size = some (itU l1) := p2 (Heap.get?_push_size _ rfl);show _ /\ _;rw [z2, z3, z4] at g5;rw [z3] at g4;rw [z1, z2] at g3;rw [z1] at g2;rw [z4];exact ⟨⟨_, g5, rfl⟩, h _ ⟨g5, g3, ⟨_, _, g4⟩, ⟨_, g1, rfl, rfl⟩, ⟨_, g2, rfl, rfl⟩, atT hl1 fun o e => p1 e, atT hl2 fun o e => p1 e⟩ fun c o e => p1 e⟩
end
end PySem
namespace L2
open PySem PySem.Spec PyProof.Rows
noncomputable def Itz2 (K : PySem.W.Frag) (a b : Addr) : It :=
 ⟨fun i H => ∃ as bs x y, (SqT K H a as /\ SqT K H b bs) /\ as[i]? = some x /\ bs[i]? = some y,
  fun i H v H' => ∃ p x y, (∀ xs, SqT K H a xs -> xs[i]? = some x) /\ (∀ xs, SqT K H b xs -> xs[i]? = some y) /\ H p = none /\ H' = upd H p (.tup [x, y]) /\ v = .ref p,
  fun i H => ∃ as bs, (SqT K H a as /\ SqT K H b bs) /\ as.length <= i⟩
noncomputable def St2 (n a b : Nat) (i : Nat) (h : Heap) : Prop := IsZip h (n + 4) (n + 2) (n + 3) .none /\ IsPair h (n + 2) (.ref n) (.ref (n + 1)) /\ (∃ u v, IsPair h (n + 3) u v) /\ h.IsTupleIter n a i /\ h.IsTupleIter (n + 1) b i
noncomputable def fp2 (n : Nat) : List Addr := [n + 4, n + 2, n + 3, n, n + 1]
theorem fp2_in {n : Nat} {c : Addr} (h : c ∈ fp2 n) : c = n + 4 \/ c = n + 2 \/ c = n + 3 \/ c = n \/ c = n + 1 := by
 unfold fp2 at h;simpa only [List.mem_cons, List.not_mem_nil, or_false] using h
theorem fp2_out {n c : Nat} (h : c ∉ fp2 n) : c < n \/ n + 5 <= c := by
 unfold fp2 at h;simp only [List.mem_cons, List.not_mem_nil, or_false, not_or] at h;obtain ⟨h1, h2, h3, h4, h5⟩ := h;have h1 : ¬ (@Eq Nat c (n + 4)) := h1;have h2 : ¬ (@Eq Nat c (n + 2)) := h2;have h3 : ¬ (@Eq Nat c (n + 3)) := h3;have h4 : ¬ (@Eq Nat c n) := h4;have h5 : ¬ (@Eq Nat c (n + 1)) := h5;omega
theorem St2.obj {n a b i : Nat} {h : Heap} (st : St2 n a b i h) : ∀ x ∈ fp2 n, ∃ o, h.get? x = some o /\ ∀ v, o.data ≠ .cell v := by
 obtain ⟨hz, hTI, ⟨u, v, hTO⟩, ⟨o1, e1, c1, d1⟩, ⟨o2, e2, c2, d2⟩⟩ := st;intro x hx;rcases fp2_in hx with rfl | rfl | rfl | rfl | rfl
 ·exact ⟨_, hz, fun v z => nomatch z⟩
 ·exact ⟨_, hTI, fun v z => nomatch z⟩
 ·exact ⟨_, hTO, fun v z => nomatch z⟩
 ·exact ⟨_, e1, fun v z => by rw [d1] at z; cases z⟩
 ·exact ⟨_, e2, fun v z => by rw [d2] at z; cases z⟩
theorem St2.keep {n a b i : Nat} {h h' : Heap} (st : St2 n a b i h) (k : ∀ x ∈ fp2 n, ∀ o, h.get? x = some o -> h'.get? x = some o) : St2 n a b i h' := by
 obtain ⟨hz, hTI, ⟨u, v, hTO⟩, h1, h2⟩ := st;exact ⟨k _ (by simp [fp2]) _ hz, k _ (by simp [fp2]) _ hTI, ⟨u, v, k _ (by simp [fp2]) _ hTO⟩, h1.at fun o e => k _ (by simp [fp2]) o e, h2.at fun o e => k _ (by simp [fp2]) o e⟩
theorem turn_zip2 {P : Program} {w : World} {K : PySem.W.Frag} {elts : List Expr} {x1 : Nat} {tpos : Pos} (n a b : Nat) (b1 : a < n) (b2 : b < n) :
  Turn P w K (.Tuple elts x1 tpos) (Itz2 K a b) (fp2 n) (n + 4) (St2 n a b) where
 mem := by simp [fp2]
 obj := fun i h st c hc => st.obj c hc
 keep := fun i h h' st k => st.keep k
 item := by
  intro X hP hw hK hc i pins s O H E I hf st hgo;obtain ⟨hz, hTI, ⟨ua, ub, hTO⟩, h1, h2⟩ := id st;obtain ⟨as, bs, x, y, ⟨hq1, hq2⟩, hx, hy⟩ := hgo;subst hP hw hK;obtain ⟨its1, rv1, p1, _⟩ := I.tuple hq1;obtain ⟨its2, rv2, p2, _⟩ := I.tuple hq2;obtain ⟨u1, hu1, ru1⟩ := rv1.get hx;obtain ⟨u2, hu2, ru2⟩ := rv2.get hy;refine next_zip2 (xs1 := its1.toArray) (xs2 := its2.toArray) b1 b2 ⟨hz, hTI, ⟨_, _, hTO⟩, h1, h2, p1, p2⟩ (x1 := u1) (x2 := u2) (by simpa using hu1) (by simpa using hu2) fun h' a1 a5 hk => ?_
  have hk' : ∀ c o, c ∉ fp2 n -> s.heap.get? c = some o -> h'.get? c = some o := fun c o hc e => hk c o (fp2_out hc) e
  have hth : ∀ c ∈ fp2 n, ∃ o, h'.get? c = some o := fun c hc => by
   obtain ⟨o1, e1, _⟩ := a1.i1;obtain ⟨o2, e2, _⟩ := a1.i2;obtain ⟨_, _, e5⟩ := a1.to;rcases fp2_in hc with rfl | rfl | rfl | rfl | rfl
   ·exact ⟨_, a1.z⟩
   ·exact ⟨_, a1.ti⟩
   ·exact ⟨_, e5⟩
   ·exact ⟨_, e1⟩
   ·exact ⟨_, e2⟩
  have I1 : Inv X pins O (upd H s.heap.objs.size (.tup [x, y])) { s with heap := h' } := I.turnT hf ru1 ru2 hk' a5 hth;have hfr : H s.heap.objs.size = none := I.fresh;refine ⟨_, rfl, wpAny_letOwnedTupleGo_zip (s := { s with heap := h' }) a1.z fun h'' z1 sb => ?_⟩;have hf5 : ∀ c ∈ fp2 n, (upd H s.heap.objs.size (.tup [x, y])) c = none := fun c hc => by
   obtain ⟨o, e, _⟩ := st.obj c hc;rw [upd_ne (Nat.ne_of_lt (Heap.lt_size e))]; exact (hf c hc).1
  have I2 : Inv X pins O (upd H s.heap.objs.size (.tup [x, y])) { s with heap := h'' } := Inv.turnN (s := { s with heap := h' }) (ch := [n + 4]) I1 (fun c hc => by
   have : c = n + 4 := by simpa using hc
   subst this;exact ⟨hf5 _ (by simp [fp2]), (hf _ (by simp [fp2])).2⟩) (fun c o hc e => (sb.2 c (fun q => hc (by simp [q]))).trans e)
  refine ⟨.ref s.heap.objs.size, _, I2, rfl, ⟨_, x, y, fun zs hzs => by rw [I.tuple_inj hzs hq1]; exact hx, fun zs hzs => by rw [I.tuple_inj hzs hq2]; exact hy, hfr, rfl, rfl⟩, ?_, hf5⟩;obtain ⟨_, _, e5⟩ := a1.to;refine ⟨z1, (sb.2 _ oM).trans a1.ti, ⟨_, _, (sb.2 _ oM).trans e5⟩, ?_, ?_⟩
  ·exact a1.i1.at fun o e => (sb.2 _ oM).trans e
  ·exact a1.i2.at fun o e => (sb.2 _ oM).trans e
 done := by
  intro X hP hw hK hc i pins s O H E I hf st hend;obtain ⟨hz, hTI, ⟨ua, ub, hTO⟩, h1, h2⟩ := st;obtain ⟨as, bs, ⟨hq1, hq2⟩, hend⟩ := hend;subst hP hw hK;obtain ⟨its1, rv1, p1, _⟩ := I.tuple hq1;obtain ⟨its2, rv2, p2, _⟩ := I.tuple hq2;have hl1 := rv1.length;refine stop_zip2 (xs1 := its1.toArray) (xs2 := its2.toArray) (I.ok.hd hc) b1 ⟨hz, hTI, ⟨_, _, hTO⟩, h1, h2, p1, p2⟩ (by simp; omega) fun h' hk => ⟨rfl, ?_⟩
  exact I.turnN hf fun c o hc e => hk c o (fp2_out hc) e
 self := fun _ _ _ _ _ st h => wpAny_pyIter_zip st.1 h
noncomputable def iZip2 (K : PySem.W.Frag) (ta : TA) : TI := fun O H R => ta O H fun vs H1 => ∃ a b, vs = [.ref a, .ref b] /\ ((∃ xs, SqT K H1 a xs) /\ (∃ xs, SqT K H1 b xs)) /\ R (Itz2 K a b) H1
theorem pi_zip2 {X : Cx} {elts : List Expr} {x1 : Nat} {tpos : Pos} {a b : Expr} {ta : TA} {p pos : Pos} (hg : Gl X "zip") (hm : X.mg "zip" = none) (ha : PA X [a, b] ta) (hs : autoParam (starEach [a, b] X.env = [(false, eval a X.env), (false, eval b X.env)]) Ax4._auto_1) (hs2 : autoParam (starEach [b] X.env = [(false, eval b X.env)]) Ax4._auto_1) :
  PI X (.Tuple elts x1 tpos) (.Call (.Name "zip" p) [a, b] [] pos) (iZip2 X.K ta) := by
 intro pins s O H R I h;refine Call_ (ld_blt I hg hm boot_zip (PyProof.Rows.callWith_type1 (thn (ha pos pins s O H _ I h) fun us s1 hq0 => ?_) (by rw [hs, hs2]) (by rw [hs2]; rfl)));obtain ⟨vs, H1, I1, r1, l1, l2, e, ⟨⟨xs, hq1⟩, ⟨ys, hq2⟩⟩, q⟩ := hq0;subst e;cases r1 with
 | cons r rr => cases rr with
  | cons r' rr =>
   cases rr;cases r;cases r';obtain ⟨its1, rv1, p1, _⟩ := I1.tuple hq1;obtain ⟨its2, rv2, p2, _⟩ := I1.tuple hq2;have lt : ∀ {l : Addr} {x : Array Value}, s1.heap.IsTuple l x -> l < s1.heap.objs.size := fun h => by obtain ⟨_, e, _⟩ := h; exact Heap.lt_size e
   refine call_zip2 (xs1 := its1.toArray) (xs2 := its2.toArray) p1 p2 fun h' a4 hk => ?_
   have I2 : Inv X pins O H1 { s1 with heap := h' } := I1.kept (t' := s1.toks) hk;refine wpAny_pyIter_zip (s := { s1 with heap := h' }) a4.z ?_;refine ⟨_, fp2 s1.heap.objs.size, _, _, H1, rfl, I2, turn_zip2 s1.heap.objs.size l1 l2 (lt (x := its1.toArray) p1) (lt (x := its2.toArray) p2), ⟨a4.z, a4.ti, a4.to, a4.i1, a4.i2⟩, fun c hc => ?_, q⟩;have hle : s1.heap.objs.size <= c := by
    rcases fp2_in hc with rfl | rfl | rfl | rfl | rfl
    ·exact Nat.le_add_right _ _
    ·exact Nat.le_add_right _ _
    ·exact Nat.le_add_right _ _
    ·exact Nat.le_refl _
    ·exact Nat.le_add_right _ _
   obtain ⟨f0, f1, f2, f3, f4, f5⟩ := I1.fpOk hle (I1.hok.fresh hle);exact ⟨f0, f1, f2, f3, f4, f5⟩
theorem call_tupL {X : Cx} : CallR X (.type "tuple") (fun vs H Q => ∃ a xs, vs = [.ref a] /\ SqL X.K H a xs /\ ∀ p, H p = none -> Q (.ref p) (upd H p (.tup xs))) := by
 rintro pins s O H vs us Q I rv ⟨a, xs, e, sq, q⟩;subst e;obtain ⟨u, rfl, ru⟩ := vals1 rv;cases ru;obtain ⟨its, r, p, hz⟩ := I.list sq;refine call_tuple_list p.isList (fun h' hk => ?_) (by rw [List.size_toArray, <- r.length]; exact hz);have I1 : Inv X pins O H { s with heap := h' } := I.kept (t' := s.toks) hk;exact ⟨.ref h'.objs.size, _, I1.laid (o := .tup xs) (t' := s.toks) (fun b o e => Heap.get?_push_of_some _ e) (Nat.le_refl _) ⟨hz, its, r, ⟨_, Heap.get?_push_size _ rfl, rfl, _, rfl⟩⟩, rfl, q _ I1.fresh⟩
end L2
namespace DD
open PySem PySem.Spec PyProof.Rows L2
noncomputable def iZip2D (c c' : DE) : DI := fun O => (c O).bind fun p => (c' p.2).bind fun q => match p.1, q.1 with
 | .tup xs, .tup ys => if decide (xs.length = ys.length) = true then some (((D.fzL xs).zip (D.fzL ys)).map fun z => .tup [z.1, z.2], q.2) else none
 | _, _ => none
noncomputable def dTuL (c : DE) : DE := fun O => (c O).bind fun p => match p.1 with
 | .lst _ xs => if flatL xs = true then some (.tup xs, p.2) else none
 | _ => none
theorem itd_zip2 {K : PySem.W.Frag} {F : Addr -> Prop} {H : Hp} {xs ys : List D} {a b : Addr} {vs ws : List V} {L1 L2 : List Addr} (fl : FT K F H a vs L1) (ol : OwL K F H xs vs []) (fl' : FT K F H b ws L2) (ol' : OwL K F H ys ws []) (hl : xs.length = ys.length) :
  ItD K (Itz2 K a b) ((xs.zip ys).map fun z => .tup [z.1, z.2]) F H where
 item := fun i d F1 H1 x1 dm e => by
  rw [List.getElem?_map] at e;rcases hz : (xs.zip ys)[i]? with _ | ⟨x, y⟩
  ·rw [hz] at e; cases e
  ·rw [hz] at e; cases e
   obtain ⟨hx, hy⟩ := List.getElem?_zip_eq_some.mp hz;obtain ⟨u, e1, o1⟩ := kid0 ol hx;obtain ⟨w, e2, o2⟩ := kid0 ol' hy;refine ⟨⟨vs, ws, u, w, ⟨(fl.ext x1).sq, (fl'.ext x1).sq⟩, e1, e2⟩, fun v H2 hq => ?_⟩;obtain ⟨p, u', w', h1, h2, hp, hH, hv⟩ := hq;subst hH hv;have h1' := h1 vs (fl.ext x1).sq;rw [e1] at h1'; cases h1';have h2' := h2 ws (fl'.ext x1).sq;rw [e2] at h2'; cases h2';have gr := grow_tup (us := [u, w]) dm hp;refine ⟨_, gr, ?_⟩;simp only [Ow, OwL];have up : ∀ {d u0}, Ow K F H d u0 [] -> Ow K (fun c => F1 c \/ c = p) (upd H1 p (.tup [u, w])) d u0 [] := fun k => (k.mono x1 (fun a ha => by cases ha)).mono gr.x (fun a ha => by cases ha)
   exact ⟨p, [u, w], rfl, .inl ⟨.inr rfl, upd_same⟩, u, _, [], [], rfl, up o1, ⟨w, [], [], [], rfl, up o2, ⟨rfl, rfl⟩, rfl⟩, rfl⟩
 done := fun F1 H1 x1 => ⟨vs, ws, ⟨(fl.ext x1).sq, (fl'.ext x1).sq⟩, by
  have h1 := ol.length;simp only [List.length_map, List.length_zip];omega⟩
section
variable {X : Cx} {a b e : Expr} {c c' : DE} {p p1 pos1 : Pos} {elts : List Expr} {x1 : Nat} {tpos pos : Pos}
theorem qi_zip2 (hgl : Gl X "zip") (hm : X.mg "zip" = none) (ha : QE X a c) (hb : QE X b c') (hs : autoParam (starEach [a, b] X.env = [(false, eval a X.env), (false, eval b X.env)]) Ax4._auto_1) (hs2 : autoParam (starEach [b] X.env = [(false, eval b X.env)]) Ax4._auto_1) :
  QI X (.Tuple elts x1 tpos) (.Call (.Name "zip" p1) [a, b] [] pos1) (iZip2D c c') := PI_imp (pi_zip2 hgl hm (pa_cons ha (pa_cons hb pa_nil hs2) (by rw [hs, hs2])) hs hs2) fun O H R hq0 => by
 obtain ⟨F, Ro, OD, xs, OD', r, ec, k⟩ := hq0;unfold iZip2D at ec;rcases h1 : c OD with _ | ⟨x, O1⟩
 ·rw [h1] at ec; cases ec
 ·rw [h1] at ec; simp only [bind_some] at ec
  rcases h2 : c' O1 with _ | ⟨y, O2⟩
  ·rw [h2] at ec; cases ec
  ·rw [h2] at ec; simp only [bind_some] at ec
   split at ec
   ·split at ec
    ·rename_i hl
     simp only [decide_eq_true_eq] at hl;cases ec;refine ⟨F, Ro, OD, _, O1, r, h1, fun F1 H1 v x1 r1 => ?_⟩;refine ⟨F1, _, O1, _, _, r1, h2, fun F2 H2 u x2 r2 => ?_⟩;obtain ⟨F3, x3, r3, o3⟩ := r2.freeze;obtain ⟨F4, x4, r4, o4⟩ := (r3.pop).freeze;have o3' := o3.mono x4 (fun a ha => by cases ha);simp only [D.fz, Ow] at o3' o4;obtain ⟨a1, vs, rfl, fl, ol⟩ := o4;obtain ⟨a2, ws, rfl, fl', ol'⟩ := o3';exact ⟨a1, a2, rfl, ⟨⟨vs, fl.sq⟩, ⟨ws, fl'.sq⟩⟩, k F4 H2 _ ((x1.trans x2).trans (x3.trans x4)) r4.pop (itd_zip2 fl ol fl' ol' (by rw [fzL_len, fzL_len]; exact hl))⟩
    ·cases ec
   ·cases ec
theorem qe_tuL {x : Str} {p1 pos : Pos} (hg : Gl X x) (hm : X.mg x = none) (hv : bootBuiltins x = some (.type "tuple")) (ha : QE X e c) (hn : autoParam (x ≠ "__name__") Ax1._auto_1) (hdb : autoParam ((x == ("__debug__" : Str)) = false) Ax1._auto_1)
  (he : autoParam (starEach [e] X.env = (false, eval e X.env) :: starEach [] X.env) Ax4._auto_1) (hpl : autoParam ((backTo pos (starEach [] X.env)).any (·.1) = false) Ax4._auto_1) : QE X (.Call (.Name x p1) [e] [] pos) (dTuL c) :=
 PE_imp (pe_callTy call_tupL hg hm hv (pa_cons ha pa_nil he) hn hdb he hpl) fun O H Q hq0 => by
  obtain ⟨F, R, OD, d, OD', r, ec, k⟩ := hq0;unfold dTuL at ec;rcases h1 : c OD with _ | ⟨t, O1⟩
  ·rw [h1] at ec; cases ec
  ·rw [h1] at ec; simp only [bind_some] at ec
   split at ec
   ·rename_i own xs
    split at ec
    ·rename_i hf
     cases ec;refine ⟨F, R, OD, _, _, r, h1, fun F1 H1 v x1 r1 => ?_⟩;obtain ⟨a, ws, rfl, sq, L, ol⟩ := (r1.bor (d := .lst own xs) (v := v) (by simp)).lst;have hL := flatL_nil hf ol;subst hL;refine ⟨a, ws, rfl, sq, fun p hp => ?_⟩;obtain ⟨F5, x5, r5⟩ := (Rel.pushL ol r1.pop).layT ol.length.symm hp;exact k F5 _ _ (x1.trans x5) r5
    ·cases ec
   ·cases ec
end
end DD
namespace TT
open PySem L2 DD PySem.W
section
variable {S : Type} {α β : Type} {Z Z1 Z2 : Shp S} {c c' : DE}
noncomputable def l4 (p : α × α × α × α) : List α := [p.1, p.2.1, p.2.2.1, p.2.2.2]
noncomputable def o4 (xs : List α) : Option (α × α × α × α) := match xs with
 | [a, b, c, d] => some (a, b, c, d)
 | _ => none
theorem ji_zip2 {ra ra' : Rl α} {rb rb' : Rl β} [k : Fz ra ra'] [k2 : Fz rb rb'] {f : S -> Option ((α × α × α × α) × S)} {g : S -> Option ((β × β × β × β) × S)} (h : JE Z c f (rT4 ra ra ra ra) Z1) (h' : JE Z1 c' g (rT4 rb rb rb rb) Z2) :
  JI Z (iZip2D c c') (fun s => (f s).bind fun p => (g p.2).map fun q => ((l4 p.1).zip (l4 q.1), q.2)) (rT2 ra' rb') Z2 := fun s O v s' hs e => by
 obtain ⟨⟨a, s1⟩, e1, e⟩ := bd e;obtain ⟨⟨b, s2⟩, e2, e⟩ := mp e;cases e;obtain ⟨d, O1, h1, h2, h3⟩ := h s O a s1 hs e1;obtain ⟨d', O2, h4, h5, h6⟩ := h' s1 O1 b s2 h3 e2;obtain ⟨x, y, z, w, rfl, q1, q2, q3, q4⟩ := h2;obtain ⟨x', y', z', w', rfl, t1, t2, t3, t4⟩ := h5;refine ⟨_, O2, by simp only [iZip2D, h1, h4, bind_some]; rfl, ?_, h6⟩;exact zip_ok (as := l4 a) (bs := l4 b) k.f k2.f (.cons q1 (.cons q2 (.cons q3 (.cons q4 .nil)))) (.cons t1 (.cons t2 (.cons t3 (.cons t4 .nil))))
theorem je_tuL4 {rl : Rl (List α)} {ra : Rl α} [l : Ls rl ra] [k : Fl ra] {f : S -> Option (List α × S)} (h : JE Z c f rl Z1) : JE Z (dTuL c) (fun s => (f s).bind fun p => (o4 p.1).map fun q => (q, p.2)) (rT4 ra ra ra ra) Z1 := fun s O v s' hs e => by
 obtain ⟨⟨xs, s1⟩, e1, e⟩ := bd e;obtain ⟨q, e2, e⟩ := mp e;cases e;obtain ⟨d, O1, h1, h2, h3⟩ := h s O xs s1 hs e1;obtain ⟨o, ds, rfl, hh⟩ := l.l xs d h2;unfold o4 at e2;split at e2
 ·rename_i heq
  have heq' : xs = _ := heq;subst heq';cases e2;cases hh with
  | cons q1 hh => cases hh with
   | cons q2 hh => cases hh with
    | cons q3 hh => cases hh with
     | cons q4 hh =>
      cases hh;have f1 := k.f _ _ q1;have f2 := k.f _ _ q2;have f3 := k.f _ _ q3;have f4 := k.f _ _ q4;exact ⟨_, O1, by simp only [dTuL, h1, bind_some, flatL, f1, f2, f3, f4, Bool.and_self, if_true], ⟨_, _, _, _, rfl, q1, q2, q3, q4⟩, h3⟩
 ·cases e2
end
section
variable {α β γ δ α' β' γ' δ' : Type}
instance {r : Rl α} {q : Rl β} {t : Rl γ} {u : Rl δ} {r' : Rl α'} {q' : Rl β'} {t' : Rl γ'} {u' : Rl δ'} [Py r] [Py q] [Py t] [Py u] [Py r'] [Py q'] [Py t'] [Py u'] {f : α -> α' -> Bool} {g : β -> β' -> Bool} {h : γ -> γ' -> Bool} {i : δ -> δ' -> Bool} [k : EqR r r' f] [l : EqR q q' g] [m : EqR t t' h] [n : EqR u u' i] :
  EqR (rT4 r q t u) (rT4 r' q' t' u') (fun a b => f a.1 b.1 && (g a.2.1 b.2.1 && (h a.2.2.1 b.2.2.1 && i a.2.2.2 b.2.2.2))) := ⟨fun a b => by
 simp only [Py.pe, PyData.eqv, PyData.eqvAll, k.eqv, l.eqv, m.eqv, n.eqv, Bool.and_true]⟩
end
end TT
namespace RK
theorem step_ok {ls : List (Nat × Nat)} {m : Nat} (hr : Rd ls) : Rd (lsStep ls m) /\ (∀ x, x ∈ spans ((lsStep ls m).map (·.2)) ↔ x ∈ spans (m :: ls.map (·.2))) := by
 have hsp := ls_span ls m;have hz := ls_bits ls m hr.tri;have key := red_zero hr.tri (x := m) (z := lsRed ls m) hsp hz;by_cases e0 : lsRed ls m = 0
 ·have es : lsStep ls m = ls := by unfold lsStep; rw [e0]; rfl
  have hm := key.mp e0;rw [es];refine ⟨hr, spans_same (fun r h => spans_row (by simp only [List.mem_cons]; exact .inr h)) (fun r h => ?_)⟩;rcases List.mem_cons.mp h with rfl | h
  ·exact hm
  ·exact spans_row h
 ·have es : lsStep ls m = withL ls (lsRed ls m) := by unfold lsStep; rw [if_pos e0]
  rw [es];have hx : m ^^^ lsRed ls m ∈ spans (m :: ls.map (·.2)) := by simp only [spans, List.mem_append]; exact .inl hsp
  refine ⟨with_rd hr e0 hz, spans_same (with_in (fun r h => spans_row (by simp only [List.mem_cons]; exact .inr h)) ?_) (fun r h => ?_)⟩
  ·have a3 := spans_xor (spans_row (r := m) (rs := m :: ls.map (·.2)) (by simp)) hx
   rwa [<- Nat.xor_assoc, Nat.xor_self, Nat.zero_xor] at a3
  ·rcases List.mem_cons.mp h with rfl | h
   ·have a1 := spans_sub (with_old ls (lsRed ls r)) hsp
    have a3 := spans_xor a1 (with_new ls (lsRed ls r))
    rwa [Nat.xor_assoc, Nat.xor_self, Nat.xor_zero] at a3
   ·exact with_old ls _ r h
theorem fold_ok : ∀ (ms : List Nat) (ls : List (Nat × Nat)), Rd ls -> Rd (ms.foldl lsStep ls) /\ (∀ x, x ∈ spans ((ms.foldl lsStep ls).map (·.2)) ↔ x ∈ spans (ms ++ ls.map (·.2))) := by
 intro ms
 induction ms with
 | nil => intro ls h; exact ⟨h, fun x => Iff.rfl⟩
 | cons m ms ih =>
  intro ls h;obtain ⟨h1, h2⟩ := step_ok (m := m) h;obtain ⟨h3, h4⟩ := ih _ h1;refine ⟨h3, fun x => ?_⟩;rw [List.foldl_cons, h4];have sub : ∀ r ∈ ms ++ (lsStep ls m).map (·.2), r ∈ spans (m :: ms ++ ls.map (·.2)) := fun r hr => by
   rcases List.mem_append.mp hr with hr | hr
   ·exact spans_row (by simp [hr])
   ·exact spans_mem (fun q hq => by simp at hq ⊢; rcases hq with h | h <;> simp [h]) ((h2 r).mp (spans_row hr))
  have sub2 : ∀ r ∈ m :: ms ++ ls.map (·.2), r ∈ spans (ms ++ (lsStep ls m).map (·.2)) := fun r hr => by
   have hh : r = m \/ r ∈ ms \/ r ∈ ls.map (·.2) := by simpa [or_assoc] using hr
   have hin : ∀ q, q ∈ spans (m :: ls.map (·.2)) -> q ∈ spans (ms ++ (lsStep ls m).map (·.2)) := fun q hq => spans_mem (fun z hz => List.mem_append_right _ hz) ((h2 q).mpr hq)
   rcases hh with rfl | hh | hh
   ·exact hin _ (spans_row (by simp))
   ·exact spans_row (List.mem_append_left _ hh)
   ·exact hin _ (spans_row (List.mem_cons_of_mem _ hh))
  exact ⟨spans_sub sub, spans_sub sub2⟩
theorem lines_rd (ms : List Nat) : Rd ((lines3 [] 0 ms).map pr3) /\ ∀ x, x ∈ spans ((lines3 [] 0 ms).map (·.2.1)) ↔ x ∈ spans ms := by
 have h := fold_ok ms [] ⟨(fun l hl => by cases hl), List.Pairwise.nil⟩;have e := lines3_pr ms [] 0;rw [List.map_nil] at e;rw [<- e] at h;refine ⟨h.1, fun x => ?_⟩;have h2 := h.2 x;rw [List.map_map, List.map_nil, List.append_nil] at h2;exact h2
theorem gr_le : ∀ (ms d : List Nat), gr d ms <= ms.length := by
 intro ms
 induction ms with
 | nil => intro d; exact Nat.le_refl _
 | cons m ms ih => intro d; have := ih (m :: d); simp only [gr, List.length_cons]; split <;> omega
theorem rd_gr : ∀ (ls : List (Nat × Nat)) (d : List Nat), Rd ls -> (∀ x ∈ d, ∀ l ∈ ls, x.testBit l.1 = false) -> gr d (ls.map (·.2)) = ls.length := by
 intro ls
 induction ls with
 | nil => intro d _ _; rfl
 | cons l ls ih =>
  intro d h hd;obtain ⟨h1, h2⟩ := h;rw [List.pairwise_cons] at h2;have hn : l.2 ∉ spans d := fun hs => by
   have := spans_bit (t := l.1) (fun r hr => hd r hr l (by simp)) hs
   rw [h1 l (by simp)] at this;cases this
  have := ih (l.2 :: d) ⟨fun k hk => h1 k (by simp [hk]), h2.2⟩ (fun x hx k hk => by
   rcases List.mem_cons.mp hx with rfl | hx
   ·exact (h2.1 k hk).1
   ·exact hd x hx k (by simp [hk]))
  simp only [List.map_cons, gr, hn, if_false, this, List.length_cons];omega
noncomputable def cmF (ls : List L3) (fs : List Nat) : List Nat -> List Nat
 | [] => fs
 | m :: ms => if (lsR3 ls (m, 0)).1 = 0 then cmF ls (fs ++ [(lsR3 ls (m, 0)).2]) ms else cmF (with3 ls (lsR3 ls (m, 0)).1 (lsR3 ls (m, 0)).2) fs ms
theorem lsR3_made {as d : List Nat} : ∀ (ls : List L3) (x : Nat × Nat), (∀ l ∈ ls, l.2.2 ∈ spans as /\ l.2.1 ^^^ l.2.2 ∈ spans d) -> ∃ u, u ∈ spans as /\ (lsR3 ls x).2 = x.2 ^^^ u /\ (x.1 ^^^ (lsR3 ls x).1) ^^^ u ∈ spans d := by
 intro ls
 induction ls with
 | nil => intro x _; exact ⟨0, spans_zero _, by simp [lsR3], by simp [lsR3, spans_zero]⟩
 | cons l ls ih =>
  intro x h;have hl := h l (by simp);simp only [lsR3, List.foldl_cons];by_cases hb : x.1.testBit l.1 = true
  ·rw [if_pos hb]
   obtain ⟨u, h1, h2, h3⟩ := ih (x.1 ^^^ l.2.1, x.2 ^^^ l.2.2) fun k hk => h k (by simp [hk])
   simp only [lsR3] at h2 h3;refine ⟨l.2.2 ^^^ u, spans_xor hl.1 h1, by rw [h2, Nat.xor_assoc], ?_⟩;have h4 := spans_xor h3 hl.2;have e : ∀ a b c p q : Nat, (((a ^^^ b) ^^^ c) ^^^ p) ^^^ (b ^^^ q) = (a ^^^ c) ^^^ (q ^^^ p) := by
    intro a b c p q;apply Nat.eq_of_testBit_eq;intro i;simp only [Nat.testBit_xor];cases a.testBit i <;> cases b.testBit i <;> cases c.testBit i <;> cases p.testBit i <;> cases q.testBit i <;> rfl
   rw [e] at h4;exact h4
  ·rw [if_neg hb]
   obtain ⟨u, h1, h2, h3⟩ := ih x fun k hk => h k (by simp [hk])
   exact ⟨u, h1, h2, h3⟩
theorem cm_ok {as : List Nat} : ∀ (ms d : List Nat) (ls : List L3) (fs : List Nat), Rd (ls.map pr3) -> (∀ l ∈ ls, l.2.2 ∈ spans as /\ l.2.1 ^^^ l.2.2 ∈ spans d) -> (∀ x, x ∈ spans (ls.map (·.2.1)) ↔ x ∈ spans (d ++ as)) ->
  (∀ z ∈ fs, z ∈ spans as /\ z ∈ spans d) -> rk fs = fs.length -> gr d ms = ms.length ->
  (∀ z ∈ cmF ls fs ms, z ∈ spans as /\ z ∈ spans (ms ++ d)) /\ rk (cmF ls fs ms) = (cmF ls fs ms).length /\ (cmF ls fs ms).length + gr (d ++ as) ms = fs.length + ms.length := by
 intro ms
 induction ms with
 | nil => intro d ls fs _ _ _ h4 h5 _; exact ⟨h4, h5, by simp [cmF, gr]⟩
 | cons m ms ih =>
  intro d ls fs h1 h2 h3 h4 h5 h6;have hle := gr_le ms (m :: d);have hmd : m ∉ spans d := fun h => by simp only [gr, h, if_true, List.length_cons] at h6; omega
  have h6' : gr (m :: d) ms = ms.length := by simp only [gr, hmd, if_false, List.length_cons] at h6; omega
  have up : ∀ x, x ∈ spans d -> x ∈ spans (m :: d) := fun x h => by simp only [spans, List.mem_append]; exact .inl h
  have fin : ∀ y : List Nat, (∀ z ∈ y, z ∈ spans as /\ z ∈ spans (ms ++ m :: d)) -> ∀ z ∈ y, z ∈ spans as /\ z ∈ spans (m :: ms ++ d) := fun y h z hz => ⟨(h z hz).1, spans_mem (fun r hr => by simp at hr ⊢; rcases hr with h | h | h <;> simp [h]) (h z hz).2⟩
  obtain ⟨u, u1, u2, u3⟩ := lsR3_made ls (m, 0) h2;simp only [Nat.zero_xor] at u2 u3;have hfst := lsR3_fst ls (m, 0);have em : ls.map (·.2.1) = (ls.map pr3).map (·.2) := by rw [List.map_map]; rfl
  have key := red_zero h1.tri (x := m) (z := (lsR3 ls (m, 0)).1) (by rw [hfst]; exact ls_span _ _) (by rw [hfst]; exact ls_bits _ _ h1.tri);rw [<- em, h3] at key;simp only [cmF];by_cases h0 : (lsR3 ls (m, 0)).1 = 0
  ·rw [if_pos h0, u2]
   have hin := key.mp h0;rw [h0, Nat.xor_zero] at u3;have hum : u ∈ spans (m :: d) := by
    simp only [spans, List.mem_append, List.mem_map];exact .inr ⟨m ^^^ u, u3, by rw [<- Nat.xor_assoc, Nat.xor_self, Nat.zero_xor]⟩
   have hud : u ∉ spans d := fun h => hmd (by
    have := spans_xor u3 h
    rwa [Nat.xor_assoc, Nat.xor_self, Nat.xor_zero] at this)
   have huf : u ∉ spans fs := fun h => hud (spans_sub (fun z hz => (h4 z hz).2) h)
   obtain ⟨k1, k2, k3⟩ := ih (m :: d) ls (fs ++ [u]) h1 (fun l hl => ⟨(h2 l hl).1, up _ (h2 l hl).2⟩) (fun x => by
    rw [h3];refine ⟨fun h => spans_mem (fun r hr => by simp at hr ⊢; rcases hr with h | h <;> simp [h]) h, fun h => spans_sub (fun r hr => ?_) h⟩;rcases List.mem_cons.mp hr with rfl | hr
    ·exact hin
    ·exact spans_row hr) (fun z hz => by
    rcases List.mem_append.mp hz with h | h
    ·exact ⟨(h4 z h).1, up _ (h4 z h).2⟩
    ·rw [List.mem_singleton.mp h]; exact ⟨u1, hum⟩) (by rw [rk_app, h5]; simp [gr, huf]) h6'
   refine ⟨fin _ k1, k2, ?_⟩;simp only [gr, List.cons_append, hin, if_true, List.length_cons, List.length_append, List.length_nil] at k3 ⊢;omega
  ·rw [if_neg h0, u2]
   have hin : m ∉ spans (d ++ as) := fun h => h0 (key.mpr h)
   have hst := step_ok (m := m) h1;have est : lsStep (ls.map pr3) m = withL (ls.map pr3) (lsR3 ls (m, 0)).1 := by unfold lsStep; rw [<- hfst, if_pos h0]
   rw [est] at hst;have hmx : (lsR3 ls (m, 0)).1 ^^^ u ∈ spans (m :: d) := by
    simp only [spans, List.mem_append, List.mem_map];refine .inr ⟨_, u3, ?_⟩;have e : ∀ a b c : Nat, a ^^^ ((a ^^^ b) ^^^ c) = b ^^^ c := by
     intro a b c;rw [<- Nat.xor_assoc, <- Nat.xor_assoc, Nat.xor_self, Nat.zero_xor]
    rw [e]
   obtain ⟨k1, k2, k3⟩ := ih (m :: d) (with3 ls (lsR3 ls (m, 0)).1 u) fs (by rw [with3_pr]; exact hst.1) (fun l hl => by
    unfold with3 at hl;rw [List.mem_append, List.mem_singleton] at hl;rcases hl with hl | rfl
    ·obtain ⟨k, hk, rfl⟩ := List.mem_map.mp hl
     have hkk := h2 k hk;unfold chg3;split
     ·refine ⟨spans_xor hkk.1 u1, ?_⟩
      have := spans_xor (up _ hkk.2) hmx
      have e : ∀ a b c p : Nat, (a ^^^ b) ^^^ (c ^^^ p) = (a ^^^ c) ^^^ (b ^^^ p) := by
       intro a b c p;rw [Nat.xor_assoc, Nat.xor_assoc, <- Nat.xor_assoc b c p, Nat.xor_comm b c, Nat.xor_assoc c b p]
      rw [e] at this;exact this
     ·exact ⟨hkk.1, up _ hkk.2⟩
    ·exact ⟨u1, hmx⟩) (fun x => by
    have e2 : (with3 ls (lsR3 ls (m, 0)).1 u).map (·.2.1) = (withL (ls.map pr3) (lsR3 ls (m, 0)).1).map (·.2) := by rw [<- with3_pr (q := u), List.map_map]; rfl
    rw [e2, hst.2, <- em];refine ⟨fun h => spans_sub (fun r hr => ?_) h, fun h => spans_sub (fun r hr => ?_) h⟩
    ·rcases List.mem_cons.mp hr with rfl | hr
     ·exact spans_row (by simp)
     ·exact spans_mem (fun q hq => by simp at hq ⊢; rcases hq with h | h <;> simp [h]) ((h3 r).mp (spans_row hr))
    ·have hh : r = m \/ r ∈ d ++ as := by simpa using hr
     rcases hh with rfl | hr
     ·exact spans_row (by simp)
     ·have := (h3 r).mpr (spans_row hr)
      simp only [spans, List.mem_append]; exact .inl this) (fun z hz => ⟨(h4 z hz).1, up _ (h4 z hz).2⟩) h5 h6'
   refine ⟨fin _ k1, k2, ?_⟩;simp only [gr, List.cons_append, hin, if_false, List.length_cons] at k3 ⊢;omega
noncomputable def cmM (as bs : List Nat) : List Nat := cmF ((lines3 [] 0 as).map fun l => (l.1, l.2.1, l.2.1)) [] ((lines3 [] 0 bs).map (·.2.1))
theorem cm_is (as bs : List Nat) : (∀ z ∈ cmM as bs, z ∈ spans as /\ z ∈ spans bs) /\ rk (cmM as bs) = (cmM as bs).length /\ (cmM as bs).length + rk (as ++ bs) = rk as + rk bs := by
 obtain ⟨ha, ha2⟩ := lines_rd as;obtain ⟨hb, hb2⟩ := lines_rd bs;have hp : ((lines3 [] 0 as).map fun l => ((l.1, l.2.1, l.2.1) : L3)).map pr3 = (lines3 [] 0 as).map pr3 := by rw [List.map_map]; rfl
 have eb : (lines3 [] 0 bs).map (·.2.1) = ((lines3 [] 0 bs).map pr3).map (·.2) := by rw [List.map_map]; rfl
 have hgr : gr [] ((lines3 [] 0 bs).map (·.2.1)) = ((lines3 [] 0 bs).map (·.2.1)).length := by
  have := rd_gr _ [] hb (fun x hx => by cases hx)
  rw [<- eb] at this;rw [this, List.length_map, List.length_map]
 obtain ⟨k1, k2, k3⟩ := cm_ok (as := as) ((lines3 [] 0 bs).map (·.2.1)) [] ((lines3 [] 0 as).map fun l => (l.1, l.2.1, l.2.1)) [] (by rw [hp]; exact ha) (fun l hl => by
  obtain ⟨k, hk, rfl⟩ := List.mem_map.mp hl;refine ⟨(ha2 _).mp (spans_row (List.mem_map.mpr ⟨k, hk, rfl⟩)), ?_⟩;rw [Nat.xor_self]; exact spans_zero _) (fun x => by
  rw [List.map_map, List.nil_append]; exact ha2 x) (fun z hz => by cases hz) rfl hgr
 refine ⟨fun z hz => ⟨(k1 z hz).1, (hb2 z).mp (by have := (k1 z hz).2; rwa [List.append_nil] at this)⟩, k2, ?_⟩;have hl := lines3_len bs;have happ := rk_app as ((lines3 [] 0 bs).map (·.2.1));have hsame : rk (as ++ (lines3 [] 0 bs).map (·.2.1)) = rk (as ++ bs) := rk_same (fun b hb' => by
   rcases List.mem_append.mp hb' with h | h
   ·exact spans_row (by simp [h])
   ·exact spans_mem (fun r hr => List.mem_append_right _ hr) ((hb2 b).mpr (spans_row h))) (fun b hb' => by
   rcases List.mem_append.mp hb' with h | h
   ·exact spans_row (by simp [h])
   ·exact spans_mem (fun r hr => List.mem_append_right _ hr) ((hb2 b).mp (spans_row h)))
 simp only [List.nil_append, List.length_nil, List.length_map] at k3;have : (cmM as bs).length + gr as ((lines3 [] 0 bs).map (·.2.1)) = rk bs := by rw [<- hl]; unfold cmM; omega
 omega
theorem spans_lt {B : Nat} : ∀ {rs : List Nat} {x : Nat}, (∀ r ∈ rs, r < 2 ^ B) -> x ∈ spans rs -> x < 2 ^ B := by
 intro rs
 induction rs with
 | nil => intro x _ h; simp only [spans, List.mem_singleton] at h; subst h; exact Nat.pow_pos dC
 | cons r rs ih =>
  intro x h hx;simp only [spans, List.mem_append, List.mem_map] at hx;rcases hx with hx | ⟨a, ha, rfl⟩
  ·exact ih (fun q hq => h q (by simp [hq])) hx
  ·exact Nat.xor_lt_two_pow (h r (by simp)) (ih (fun q hq => h q (by simp [hq])) ha)
theorem spans_lt' {B : Nat} : ∀ {rs : List Nat} {x : Nat}, (∀ r ∈ rs, r < 2 ^ B) -> x ∈ spans rs -> x < 2 ^ B := by
 intro rs
 induction rs with
 | nil => intro x _ h; simp only [spans, List.mem_singleton] at h; subst h; exact Nat.pow_pos dC
 | cons r rs ih =>
  intro x h hx;simp only [spans, List.mem_append, List.mem_map] at hx;rcases hx with hx | ⟨a, ha, rfl⟩
  ·exact ih (fun q hq => h q (by simp [hq])) hx
  ·exact Nat.xor_lt_two_pow (h r (by simp)) (ih (fun q hq => h q (by simp [hq])) ha)
noncomputable def up (M : Nat) (x : Nat) : Nat := x * 2 ^ M
theorem up_xor (M x y : Nat) : up M (x ^^^ y) = up M x ^^^ up M y := by
 unfold up;rw [<- Nat.shiftLeft_eq, <- Nat.shiftLeft_eq, <- Nat.shiftLeft_eq, Nat.shiftLeft_xor_distrib]
theorem up_zero (M : Nat) : up M 0 = 0 := by unfold up; simp
theorem up_bit (M x i : Nat) : (up M x).testBit i = (decide (M <= i) && x.testBit (i - M)) := by
 unfold up;rw [<- Nat.shiftLeft_eq, Nat.testBit_shiftLeft]
theorem span_sum {M : Nat} : ∀ {as bs : List Nat} {x : Nat}, x ∈ spans (as ++ bs.map (up M)) ↔ ∃ a b, a ∈ spans as /\ b ∈ spans bs /\ x = a ^^^ up M b := by
 intro as bs x;constructor
 ·intro h
  have h1 : ∀ r ∈ as ++ bs.map (up M), ∃ a b, a ∈ spans as /\ b ∈ spans bs /\ r = a ^^^ up M b := by
   intro r hr;rcases List.mem_append.mp hr with hr | hr
   ·exact ⟨r, 0, spans_row hr, spans_zero bs, by rw [up_zero, Nat.xor_zero]⟩
   ·obtain ⟨b, hb, rfl⟩ := List.mem_map.mp hr
    exact ⟨0, b, spans_zero as, spans_row hb, by rw [Nat.zero_xor]⟩
  have go : ∀ (rs : List Nat) (y : Nat), (∀ r ∈ rs, ∃ a b, a ∈ spans as /\ b ∈ spans bs /\ r = a ^^^ up M b) -> y ∈ spans rs -> ∃ a b, a ∈ spans as /\ b ∈ spans bs /\ y = a ^^^ up M b := by
   intro rs
   induction rs with
   | nil =>
    intro y _ hy;have : y = 0 := by simpa [spans] using hy
    exact ⟨0, 0, spans_zero as, spans_zero bs, by rw [this, up_zero]; rfl⟩
   | cons r rs ih =>
    intro y hr hy;have hy' : y ∈ spans rs \/ ∃ z ∈ spans rs, y = z ^^^ r \/ y = r ^^^ z := by
     simp only [spans, List.mem_append, List.mem_map] at hy;rcases hy with hy | ⟨z, hz, e⟩
     ·exact .inl hy
     ·exact .inr ⟨z, hz, by first | exact .inl e.symm | exact .inr e.symm⟩
    rcases hy' with hy | ⟨z, hz, e⟩
    ·exact ih y (fun r' h' => hr r' (List.mem_cons_of_mem _ h')) hy
    ·obtain ⟨a1, b1, h1, h2, e1⟩ := ih z (fun r' h' => hr r' (List.mem_cons_of_mem _ h')) hz
     obtain ⟨a2, b2, h3, h4, e2⟩ := hr r List.mem_cons_self;refine ⟨a1 ^^^ a2, b1 ^^^ b2, spans_xor h1 h3, spans_xor h2 h4, ?_⟩;have ez : z ^^^ r = (a1 ^^^ a2) ^^^ up M (b1 ^^^ b2) := by
      rw [up_xor, e1, e2];rw [Nat.xor_assoc, Nat.xor_assoc, <- Nat.xor_assoc (up M b1), Nat.xor_comm (up M b1) a2, Nat.xor_assoc]
     rcases e with e | e
     ·rw [e, ez]
     ·rw [e, Nat.xor_comm, ez]
  exact go _ x h1 h
 ·rintro ⟨a, b, ha, hb, rfl⟩
  refine spans_xor (spans_sub (fun r hr => spans_row (List.mem_append_left _ hr)) ha) ?_;have hu : ∀ {bs : List Nat} {b : Nat}, b ∈ spans bs -> up M b ∈ spans (bs.map (up M)) := by
   intro bs
   induction bs with
   | nil =>
    intro b hb;have : b = 0 := by simpa [spans] using hb
    rw [this, up_zero];exact spans_zero _
   | cons r rs ih =>
    intro b hb;simp only [spans, List.mem_append, List.mem_map] at hb;rcases hb with hb | ⟨z, hz, e⟩
    ·exact spans_sub (fun q hq => spans_row (by simp [List.mem_map] at hq ⊢; exact .inr hq)) (ih hb)
    ·have h1 : up M z ∈ spans ((r :: rs).map (up M)) := spans_sub (fun q hq => spans_row (by simp [List.mem_map] at hq ⊢; exact .inr hq)) (ih hz)
     have h2 : up M r ∈ spans ((r :: rs).map (up M)) := spans_row (by simp);have h3 := spans_xor h1 h2;rw [<- up_xor] at h3;rw [<- e]
     first | exact h3 | (rw [Nat.xor_comm]; exact h3)
  exact spans_sub (fun q hq => spans_row (List.mem_append_right _ hq)) (hu hb)
theorem low_high {M a b c d : Nat} (ha : a < 2 ^ M) (hc : c < 2 ^ M) (h : a ^^^ up M b = c ^^^ up M d) : a = c /\ b = d := by
 have lo : ∀ (z w i : Nat), z < 2 ^ M -> (z ^^^ up M w).testBit i = (if i < M then z.testBit i else w.testBit (i - M)) := by
  intro z w i hz;rw [Nat.testBit_xor, up_bit];by_cases hi : i < M
  ·rw [if_pos hi, decide_eq_false oM]; simp
  ·rw [if_neg hi, decide_eq_true oM, Nat.testBit_lt_two_pow (Nat.lt_of_lt_of_le hz (Nat.pow_le_pow_right dC (Nat.le_of_not_lt hi)))]
   simp
 constructor
 ·apply Nat.eq_of_testBit_eq
  intro i;by_cases hi : i < M
  ·have h1 := lo a b i ha
   have h2 := lo c d i hc;rw [h, h2, if_pos hi, if_pos hi] at h1;exact h1.symm
  ·rw [Nat.testBit_lt_two_pow (Nat.lt_of_lt_of_le ha (Nat.pow_le_pow_right dC (Nat.le_of_not_lt hi))), Nat.testBit_lt_two_pow (Nat.lt_of_lt_of_le hc (Nat.pow_le_pow_right dC (Nat.le_of_not_lt hi)))]
 ·apply Nat.eq_of_testBit_eq
  intro i;have h1 := lo a b (i + M) ha;have h2 := lo c d (i + M) hc;rw [h, h2, if_neg oM, if_neg oM, Nat.add_sub_cancel] at h1;exact h1.symm
theorem up_in {M : Nat} {as bs : List Nat} (ha : ∀ a ∈ as, a < 2 ^ M) (x : Nat) : up M x ∈ spans (as ++ bs.map (up M)) ↔ x ∈ spans bs := by
 rw [span_sum];constructor
 ·rintro ⟨a, b, h1, h2, e⟩
  have hlt : a < 2 ^ M := spans_lt' ha h1;obtain ⟨_, e2⟩ := low_high (a := 0) (Nat.pow_pos dC) hlt (by rw [Nat.zero_xor]; exact e);rw [e2]; exact h2
 ·intro h
  exact ⟨0, x, spans_zero as, h, by rw [Nat.zero_xor]⟩
theorem gr_up {M : Nat} {as : List Nat} (ha : ∀ a ∈ as, a < 2 ^ M) : ∀ (bs ds : List Nat), gr (as ++ ds.map (up M)) (bs.map (up M)) = gr ds bs := by
 intro bs
 induction bs with
 | nil => intro ds; rfl
 | cons b bs ih =>
  intro ds;have e1 : ∀ x, x ∈ spans (up M b :: (as ++ ds.map (up M))) ↔ x ∈ spans (as ++ (b :: ds).map (up M)) := fun x =>
   ⟨spans_mem (fun r hr => by simp only [List.mem_cons, List.mem_append, List.map_cons] at hr ⊢; rcases hr with h | h | h; exact .inr (.inl h); exact .inl h; exact .inr (.inr h)),
    spans_mem (fun r hr => by simp only [List.mem_cons, List.mem_append, List.map_cons] at hr ⊢; rcases hr with h | h | h; exact .inr (.inl h); exact .inl h; exact .inr (.inr h))⟩
  simp only [List.map_cons, gr];rw [gr_congr _ e1, ih (b :: ds)];have e2 := up_in (bs := ds) ha b;by_cases h : b ∈ spans ds
  ·simp only [h, e2.mpr h, if_true]
  ·rw [if_neg h, if_neg (fun z => h (e2.mp z))]
theorem rk_sum {M : Nat} {as bs : List Nat} (ha : ∀ a ∈ as, a < 2 ^ M) : rk (as ++ bs.map (up M)) = rk as + rk bs := by
 rw [rk_app]
 have := gr_up ha bs []
 simp only [List.map_nil, List.append_nil] at this;rw [this]; rfl
theorem gr_one {d : List Nat} {z : Nat} (h : gr d [z] = 0) : z ∈ spans d := by
 by_cases hz : z ∈ spans d
 ·exact hz
 ·simp only [gr, if_neg hz] at h
  exact absurd h dC
theorem common_all {as bs y : List Nat} (h1 : ∀ x ∈ y, x ∈ spans as) (h2 : ∀ x ∈ y, x ∈ spans bs) (h : rk y + rk (as ++ bs) = rk as + rk bs) {z : Nat} (ha : z ∈ spans as) (hb : z ∈ spans bs) : z ∈ spans y := by
 have hy : ∀ {ss : List Nat}, (∀ x ∈ y, x ∈ spans ss) -> z ∈ spans ss -> ∀ x ∈ y ++ [z], x ∈ spans ss := fun h hz x hx => by
  rcases List.mem_append.mp hx with hx | hx
  ·exact h x hx
  ·rw [List.mem_singleton.mp hx]; exact hz
 have h3 := shared_ge (as := as) (bs := bs) (y := y ++ [z]) (k := []) (hy h1 ha) (hy h2 hb);simp only [List.append_nil, List.nil_append] at h3;rw [rk_app y [z]] at h3;exact gr_one oM
theorem cm_all {as bs : List Nat} {z : Nat} (ha : z ∈ spans as) (hb : z ∈ spans bs) : z ∈ spans (cmM as bs) := by
 obtain ⟨h1, h2, h3⟩ := cm_is as bs;exact common_all (fun x hx => (h1 x hx).1) (fun x hx => (h1 x hx).2) (by rw [h2]; exact h3) ha hb
theorem perm4 (a b c d : List Nat) : ((a ++ b) ++ (c ++ d)).Perm ((a ++ c) ++ (b ++ d)) := by
 rw [List.append_assoc, List.append_assoc];refine List.Perm.append_left a ?_;rw [<- List.append_assoc, <- List.append_assoc];exact List.Perm.append_right d List.perm_append_comm
section
variable {M : Nat} {as bs as' bs' : List Nat}
theorem rk_four (ha : ∀ a ∈ as, a < 2 ^ M) (hb : ∀ a ∈ bs, a < 2 ^ M) : rk ((as ++ as'.map (up M)) ++ (bs ++ bs'.map (up M))) = rk (as ++ bs) + rk (as' ++ bs') := by
 rw [rk_perm (perm4 _ _ _ _), <- List.map_append];exact rk_sum fun a h => by
  rcases List.mem_append.mp h with h | h
  ·exact ha a h
  ·exact hb a h
theorem cm_len (ha : ∀ a ∈ as, a < 2 ^ M) (hb : ∀ a ∈ bs, a < 2 ^ M) : (cmM (as ++ as'.map (up M)) (bs ++ bs'.map (up M))).length = (cmM as bs).length + (cmM as' bs').length := by
 have h1 := (cm_is (as ++ as'.map (up M)) (bs ++ bs'.map (up M))).2.2;have h2 := (cm_is as bs).2.2;have h3 := (cm_is as' bs').2.2;rw [rk_four ha hb, rk_sum ha, rk_sum hb] at h1;omega
theorem cm_span (ha : ∀ a ∈ as, a < 2 ^ M) (hb : ∀ a ∈ bs, a < 2 ^ M) (z : Nat) : z ∈ spans (cmM (as ++ as'.map (up M)) (bs ++ bs'.map (up M))) ↔ z ∈ spans (cmM as bs ++ (cmM as' bs').map (up M)) := by
 constructor
 ·refine spans_sub fun r hr => ?_
  obtain ⟨h1, h2⟩ := (cm_is (as ++ as'.map (up M)) (bs ++ bs'.map (up M))).1 r hr;obtain ⟨a, a', q1, q2, e1⟩ := span_sum.mp h1;obtain ⟨b, b', q3, q4, e2⟩ := span_sum.mp h2;obtain ⟨e3, e4⟩ := low_high (spans_lt' ha q1) (spans_lt' hb q3) (e1.symm.trans e2);subst e3; subst e4;rw [e1];exact span_sum.mpr ⟨a, a', cm_all q1 q3, cm_all q2 q4, rfl⟩
 ·refine spans_sub fun r hr => ?_
  rcases List.mem_append.mp hr with hr | hr
  ·obtain ⟨h1, h2⟩ := (cm_is as bs).1 r hr
   exact cm_all (spans_mem (fun x hx => List.mem_append_left _ hx) h1) (spans_mem (fun x hx => List.mem_append_left _ hx) h2)
  ·obtain ⟨x, hx, rfl⟩ := List.mem_map.mp hr
   obtain ⟨h1, h2⟩ := (cm_is as' bs').1 x hx;exact cm_all ((up_in ha x).mpr h1) ((up_in hb x).mpr h2)
theorem rk_cm {k k' : List Nat} (ha : ∀ a ∈ as, a < 2 ^ M) (hb : ∀ a ∈ bs, a < 2 ^ M) (hk : ∀ a ∈ k, a < 2 ^ M) :
  rk ((k ++ k'.map (up M)) ++ cmM (as ++ as'.map (up M)) (bs ++ bs'.map (up M))) = rk (k ++ cmM as bs) + rk (k' ++ cmM as' bs') := by
 have hc : ∀ a ∈ cmM as bs, a < 2 ^ M := fun a h => spans_lt' ha ((cm_is as bs).1 a h).1
 rw [<- rk_four (as' := k') (bs' := cmM as' bs') hk hc];have sub : ∀ {y y' : List Nat}, (∀ z, z ∈ spans y -> z ∈ spans y') -> ∀ x ∈ (k ++ k'.map (up M)) ++ y, x ∈ spans ((k ++ k'.map (up M)) ++ y') := fun h x hx => by
  rcases List.mem_append.mp hx with hx | hx
  ·exact spans_row (List.mem_append_left _ hx)
  ·exact spans_mem (fun r hr => List.mem_append_right _ hr) (h x (spans_row hx))
 exact rk_same (sub fun z hz => (cm_span ha hb z).mpr hz) (sub fun z hz => (cm_span ha hb z).mp hz)
end
end RK
namespace LW
open PySem L2 DD
noncomputable def top (i : Nat) : Stmt := PySem.Challenge.pw_telltight_k72_whole_four_rows_turned.main.body.getD i (.Pass ⟨0, 0, 0, 0⟩)
noncomputable abbrev s_all_names : Stmt := top 1
noncomputable abbrev s_value : Stmt := top 4
noncomputable abbrev s_names_in : Stmt := top 6
noncomputable abbrev s_mask_of : Stmt := top 9
noncomputable abbrev s_less_lines : Stmt := top 10
noncomputable abbrev s_with_line : Stmt := top 11
noncomputable abbrev s_moved_views : Stmt := top 15
noncomputable abbrev s_lmixed : Stmt := top 26
noncomputable abbrev s_lpile : Stmt := top 27
noncomputable abbrev s_lcalled : Stmt := top 32
noncomputable abbrev s_row_of_terms : Stmt := top 2
noncomputable abbrev s_views_of : Stmt := top 8
noncomputable abbrev s_lines_of : Stmt := top 12
noncomputable abbrev s_beside : Stmt := top 16
noncomputable abbrev s_four_number : Stmt := top 21
noncomputable abbrev s_ltake : Stmt := top 28
noncomputable abbrev s_shared_row : Stmt := top 3
noncomputable abbrev s_rank_of : Stmt := top 13
noncomputable abbrev s_common_views : Stmt := top 17
noncomputable abbrev s_four_table : Stmt := top 22
noncomputable abbrev s_lnumber : Stmt := top 29
noncomputable abbrev s_lheap : Stmt := top 30
noncomputable abbrev s_lorder : Stmt := top 31
noncomputable abbrev s_coin_table : Stmt := top 14
noncomputable abbrev s_four_row : Stmt := top 20
noncomputable abbrev s_grown_by : Stmt := top 23
noncomputable abbrev s_four_shown : Stmt := top 24
noncomputable abbrev s_lbeside : Stmt := top 33
noncomputable abbrev s_law : Stmt := top 34
theorem sc_all_names : FnScope ["n"] ["n"] (defScope s_all_names) := ⟨rfl, rfl, rfl, by decide +kernel, rfl, by decide +kernel, by decide +kernel⟩
theorem sc_value : FnScope ["row", "table"] ["row", "table"] (defScope s_value) := ⟨rfl, rfl, rfl, by decide +kernel, rfl, by decide +kernel, by decide +kernel⟩
theorem sc_names_in : FnScope ["n", "group"] ["n", "group"] (defScope s_names_in) := ⟨rfl, rfl, rfl, by decide +kernel, rfl, by decide +kernel, by decide +kernel⟩
theorem sc_mask_of : FnScope ["view"] ["view"] (defScope s_mask_of) := ⟨rfl, rfl, rfl, by decide +kernel, rfl, by decide +kernel, by decide +kernel⟩
theorem sc_less_lines : FnScope ["lines", "mask", "made", "lead", "other", "how"] ["lines", "mask", "made"] (defScope s_less_lines) := ⟨rfl, rfl, rfl, by decide +kernel, rfl, by decide +kernel, by decide +kernel⟩
theorem sc_with_line : FnScope ["lines", "mask", "made", "lead", "changed", "other", "there", "how"] ["lines", "mask", "made"] (defScope s_with_line) := ⟨rfl, rfl, rfl, by decide +kernel, rfl, by decide +kernel, by decide +kernel⟩
theorem sc_moved_views : FnScope ["views", "many"] ["views", "many"] (defScope s_moved_views) := ⟨rfl, rfl, rfl, by decide +kernel, rfl, by decide +kernel, by decide +kernel⟩
theorem sc_lmixed : FnScope ["_law_cell", "_law_k", "_law_number_here"] ["_law_cell", "_law_k"] (defScope s_lmixed) := ⟨rfl, rfl, rfl, by decide +kernel, rfl, by decide +kernel, by decide +kernel⟩
theorem sc_lpile : FnScope ["_law_script", "_law_k", "_law_cell"] ["_law_script", "_law_k"] (defScope s_lpile) := ⟨rfl, rfl, rfl, by decide +kernel, rfl, by decide +kernel, by decide +kernel⟩
theorem sc_lcalled : FnScope ["_law_table", "_law_order_here", "_law_found", "_law_group", "_law_g", "_law_name"] ["_law_table", "_law_order_here"] (defScope s_lcalled) := ⟨rfl, rfl, rfl, by decide +kernel, rfl, by decide +kernel, by decide +kernel⟩
theorem sc_row_of_terms : FnScope ["n", "terms", "row", "group", "number"] ["n", "terms"] (defScope s_row_of_terms) := ⟨rfl, rfl, rfl, by decide +kernel, rfl, by decide +kernel, by decide +kernel⟩
theorem sc_views_of : FnScope ["heap", "g", "found", "name"] ["heap", "g"] (defScope s_views_of) := ⟨rfl, rfl, rfl, by decide +kernel, rfl, by decide +kernel, by decide +kernel⟩
theorem sc_lines_of : FnScope ["views", "lines", "place", "view", "left"] ["views"] (defScope s_lines_of) := ⟨rfl, rfl, rfl, by decide +kernel, rfl, by decide +kernel, by decide +kernel⟩
theorem sc_beside : FnScope ["one", "other", "views"] ["one", "other"] (defScope s_beside) := ⟨rfl, rfl, rfl, by decide +kernel, rfl, by decide +kernel, by decide +kernel⟩
theorem sc_four_number : FnScope ["group", "apart"] ["group", "apart"] (defScope s_four_number) := ⟨rfl, rfl, rfl, by decide +kernel, rfl, by decide +kernel, by decide +kernel⟩
theorem sc_ltake : FnScope ["_law_pile_here", "_law_many", "_law_digit"] ["_law_pile_here", "_law_many"] (defScope s_ltake) := ⟨rfl, rfl, rfl, by decide +kernel, rfl, by decide +kernel, by decide +kernel⟩
theorem sc_shared_row : FnScope ["n", "a", "b", "c"] ["n", "a", "b", "c"] (defScope s_shared_row) := ⟨rfl, rfl, rfl, by decide +kernel, rfl, by decide +kernel, by decide +kernel⟩
theorem sc_rank_of : FnScope ["views"] ["views"] (defScope s_rank_of) := ⟨rfl, rfl, rfl, by decide +kernel, rfl, by decide +kernel, by decide +kernel⟩
theorem sc_common_views : FnScope ["heap", "a", "b", "lines", "found", "lead", "mask", "made", "left"] ["heap", "a", "b"] (defScope s_common_views) := ⟨rfl, rfl, rfl, by decide +kernel, rfl, by decide +kernel, by decide +kernel⟩
theorem sc_four_table : FnScope ["i", "j", "k", "l"] ["i", "j", "k", "l"] (defScope s_four_table) := ⟨rfl, rfl, rfl, by decide +kernel, rfl, by decide +kernel, by decide +kernel⟩
theorem sc_lnumber : FnScope ["_law_pile_here", "_law_way", "_law_number_here", "_law_k"] ["_law_pile_here"] (defScope s_lnumber) := ⟨rfl, rfl, rfl, by decide +kernel, rfl, by decide +kernel, by decide +kernel⟩
theorem sc_lheap : FnScope ["_law_script", "_law_start", "_law_n", "_law_many", "_law_views", "_law_name", "_law_pile_here", "_law_row", "_law_turn", "_law_mask"] ["_law_script", "_law_start", "_law_n"] (defScope s_lheap) := ⟨rfl, rfl, rfl, by decide +kernel, rfl, by decide +kernel, by decide +kernel⟩
theorem sc_lorder : FnScope ["_law_pile_here", "_law_n", "_law_left", "_law_found"] ["_law_pile_here", "_law_n"] (defScope s_lorder) := ⟨rfl, rfl, rfl, by decide +kernel, rfl, by decide +kernel, by decide +kernel⟩
theorem sc_coin_table : FnScope ["heap"] ["heap"] (defScope s_coin_table) := ⟨rfl, rfl, rfl, by decide +kernel, rfl, by decide +kernel, by decide +kernel⟩
theorem sc_four_row : FnScope ["i", "j", "k", "l", "by_k", "by_l", "both", "whole"] ["i", "j", "k", "l"] (defScope s_four_row) := ⟨rfl, rfl, rfl, by decide +kernel, rfl, by decide +kernel, by decide +kernel⟩
theorem sc_grown_by : FnScope ["heap", "name", "views"] ["heap", "name", "views"] (defScope s_grown_by) := ⟨rfl, rfl, rfl, by decide +kernel, rfl, by decide +kernel, by decide +kernel⟩
theorem sc_four_shown : FnScope ["heap", "i", "j", "k", "l", "views", "both"] ["heap", "i", "j", "k", "l"] (defScope s_four_shown) := ⟨rfl, rfl, rfl, by decide +kernel, rfl, by decide +kernel, by decide +kernel⟩
theorem sc_lbeside : FnScope ["_law_script", "_law_start", "_law_order_here", "_law_i", "_law_j", "_law_k", "_law_l", "_law_one", "_law_other", "_law_row", "_law_both", "_law_first", "_law_second"] ["_law_script", "_law_start", "_law_order_here"] (defScope s_lbeside) := ⟨rfl, rfl, rfl, by decide +kernel, rfl, by decide +kernel, by decide +kernel⟩
theorem sc_law : FnScope ["_law_script", "_law_turn", "_law_i", "_law_j", "_law_k", "_law_l", "_law_row", "_law_order_here", "_law_table", "_law_called_here"] ["_law_script"] (defScope s_law) := ⟨rfl, rfl, rfl, by decide +kernel, rfl, by decide +kernel, by decide +kernel⟩
noncomputable def c_all_names : DS := (sRet (dS (pOp gSub (pOp gShl (pC (.int 1)) (pV 0)) (pC (.int 1)))))
noncomputable def g_all_names : GF := gOf 1 [] c_all_names
noncomputable def c_value : DS := (sRet (dCallB sumD (aCons (dLc 2 (iZipD (dCp 0) (dCp 1)) (gTupD 2 (gConsD (gNm 2) (gConsD (gNm 3) gNilD))) tTrue (dS (pOp gMul (pV 2) (pV 3)))) aNil)))
noncomputable def g_value : GF := gOf 2 [] c_value
noncomputable def c_names_in : DS := (sRet (dLc 1 (iR1 (aCons (dS (pV 0)) aNil)) (gNm 2) (dTest (dOp gNe (dS (pOp gAnd (pV 1) (pOp gShl (pC (.int 1)) (pV 2)))) (dS (pC (.int 0))))) (dS (pV 2))))
noncomputable def g_names_in : GF := gOf 2 [] c_names_in
noncomputable def c_mask_of : DS := (sRet (dCallB sumD (aCons (dLc 1 (iLst (dCp 0)) (gNm 1) tTrue (dS (pOp gShl (pC (.int 1)) (pV 1)))) aNil)))
noncomputable def g_mask_of : GF := gOf 1 [] c_mask_of
noncomputable def c_less_lines : DS := (sSeq (sForI (iLst (dCp 0)) (gTupD 3 (gConsD (gNm 3) (gConsD (gNm 4) (gConsD (gNm 5) gNilD)))) (sIf (dTest (dOp gNe (dS (pOp gAnd (pV 1) (pV 3))) (dS (pC (.int 0))))) (sSeq (sSet 1 (dS (pOp gXor (pV 1) (pV 4))))
   (sSet 2 (dS (pOp gXor (pV 2) (pV 5))))) sSkip))
   (sRet (dTup (aCons (dS (pV 1)) (aCons (dS (pV 2)) aNil)))))
noncomputable def g_less_lines : GF := gOf 6 [3, 4, 5, 1, 2] c_less_lines
noncomputable def c_with_line : DS := (sSeq (sSet 3 (dS (pOp gShl (pC (.int 1)) (pOp gSub (pBlen (pV 1)) (pC (.int 1))))))
   (sSeq (sSet 4 (dLst aNil))
   (sSeq (sForI (iLst (dCp 0)) (gTupD 3 (gConsD (gNm 5) (gConsD (gNm 6) (gConsD (gNm 7) gNilD)))) (sIf (dTest (dOp gNe (dS (pOp gAnd (pV 6) (pV 3))) (dS (pC (.int 0))))) (sDrop (dAppV 4 (dTup (aCons (dS (pV 5)) (aCons (dS (pOp gXor (pV 6) (pV 1))) (aCons (dS (pOp gXor (pV 7) (pV 2))) aNil)))))) (sDrop (dAppV 4 (dTup (aCons (dS (pV 5)) (aCons (dS (pV 6)) (aCons (dS (pV 7)) aNil))))))))
   (sRet (dCat (dMv 4) (dLst (aCons (dTup (aCons (dS (pV 3)) (aCons (dS (pV 1)) (aCons (dS (pV 2)) aNil)))) aNil)))))))
noncomputable def g_with_line : GF := gOf 8 [3, 4, 5, 6, 7] c_with_line
noncomputable def c_moved_views : DS := (sRet (dLc 1 (iLst (dCp 0)) (gNm 2) tTrue (dLc 1 (iLst (dCp 2)) (gNm 3) tTrue (dS (pOp gAdd (pV 3) (pV 1))))))
noncomputable def g_moved_views : GF := gOf 2 [] c_moved_views
noncomputable def c_lmixed : DS := (sSeq (sSet 2 (dS (pOp gMod (pOp gAdd (pOp gAdd (pOp gMul (pOp gMod (pV 0) (pC (.int 2147483647))) (pC (.int 48271))) (pOp gMul (pV 1) (pC (.int 69621)))) (pC (.int 11))) (pC (.int 2147483647)))))
   (sSeq (sSet 2 (dS (pOp gMod (pOp gMul (pV 2) (pV 2)) (pC (.int 2147483629)))))
   (sRet (dS (pOp gMod (pOp gMul (pV 2) (pV 2)) (pC (.int 2147483587)))))))
noncomputable def g_lmixed : GF := gOf 3 [2, 2] c_lmixed
noncomputable def c_lpile : DS := (sSeq (sSet 2 (dS (pC (.int 0))))
   (sSeq (sIf (dTest (dOp gLt (dS (pV 1)) (dS (pCall lenD [(pV 0)])))) (sSet 2 (dS (pOp ixD (pV 0) (pV 1)))) sSkip)
   (sRet (dLst (aCons (dS (pOp gMul (pV 2) (pCall intD [(pOp gGe (pCall absD [(pV 2)]) (pOp gPow (pC (.int 10)) (pC (.int 18))))]))) (aCons (dS (pV 2)) (aCons (dS (pOp gMul (pC (.int 97)) (pV 1))) aNil)))))))
noncomputable def g_lpile : GF := gOf 3 [2, 2] c_lpile
noncomputable def c_lcalled : DS := (sSeq (sSet 2 (dRep (dLst (aCons (dS (pC (.int 0))) aNil)) (dS (pC (.int 15)))))
   (sSeq (sForI (iR2 (aCons (dS (pC (.int 1))) (aCons (dS (pC (.int 16))) aNil))) (gNm 3) (sSeq (sSet 4 (dS (pC (.int 0))))
   (sSeq (sForI (iR1 (aCons (dS (pC (.int 4))) aNil)) (gNm 5) (sSet 4 (dS (pOp gAdd (pV 4) (pOp gMul (pOp gAnd (pOp gShr (pV 3) (pV 5)) (pC (.int 1))) (pOp gShl (pC (.int 1)) (pOp ixD (pV 1) (pV 5))))))))
   (sAsg (dS (pOp ixD (pV 0) (pOp gSub (pV 3) (pC (.int 1))))) (gSet 2 [] (pOp gSub (pV 4) (pC (.int 1))))))))
   (sRet (dMv 2))))
noncomputable def g_lcalled : GF := gOf 6 [2, 3, 4, 5, 4] c_lcalled
noncomputable def c_row_of_terms : DS := (sSeq (sSet 2 (dRep (dLst (aCons (dS (pC (.int 0))) aNil)) (dCall g_all_names [.bo 0])))
   (sSeq (sForI (iLst (dCp 1)) (gTupD 2 (gConsD (gNm 3) (gConsD (gNm 4) gNilD))) (sIf (dTest (dOp gNe (dS (pV 3)) (dS (pC (.int 0))))) (sAugIx gAdd 2 [] (pOp gSub (pV 3) (pC (.int 1))) (pV 4)) sSkip))
   (sRet (dMv 2))))
noncomputable def g_row_of_terms : GF := gOf 5 [2, 3, 4] c_row_of_terms
noncomputable def c_views_of : DS := (sSeq (sSet 2 (dLst aNil))
   (sSeq (sForI (iLst (dCall g_names_in [.ex (dS (pCall lenD [(pOp ixD (pV 0) (pC (.int 1)))])), .bo 1])) (gNm 3) (sDrop (dExtF 2 (dIx (dIx (dCp 0) (dS (pC (.int 1)))) (dS (pV 3))))))
   (sRet (dMv 2))))
noncomputable def g_views_of : GF := gOf 4 [2, 3] c_views_of
noncomputable def c_lines_of : DS := (sSeq (sSet 1 (dLst aNil))
   (sSeq (sForI (iEnD 0 (dCp 0)) (gTupD 2 (gConsD (gNm 2) (gConsD (gNm 3) gNilD))) (sSeq (sSet 4 (dCall g_less_lines [.bo 1, .ex (dCall g_mask_of [.bo 3]), .ex (dS (pOp gShl (pC (.int 1)) (pV 2)))]))
   (sIf (dTest (dOp gNe (dS (pOp ixD (pV 4) (pC (.int 0)))) (dS (pC (.int 0))))) (sSet 1 (dCall g_with_line [.bo 1, .ex (dS (pOp ixD (pV 4) (pC (.int 0)))), .ex (dS (pOp ixD (pV 4) (pC (.int 1))))])) sSkip)))
   (sRet (dMv 1))))
noncomputable def g_lines_of : GF := gOf 5 [1, 2, 3, 4, 1] c_lines_of
noncomputable def c_beside : DS := (sSeq (sSet 2 (dLc 2 (iZipD (dIx (dCp 0) (dS (pC (.int 1)))) (dIx (dCp 1) (dS (pC (.int 1))))) (gTupD 2 (gConsD (gNm 3) (gConsD (gNm 4) gNilD))) tTrue (dCat (dCall g_moved_views [.bo 3, .ex (dS (pC (.int 0)))]) (dCall g_moved_views [.bo 4, .ex (dS (pOp ixD (pV 0) (pC (.int 0))))]))))
   (sRet (dTup (aCons (dS (pOp gAdd (pOp ixD (pV 0) (pC (.int 0))) (pOp ixD (pV 1) (pC (.int 0))))) (aCons (dMv 2) aNil)))))
noncomputable def g_beside : GF := gOf 3 [2] c_beside
noncomputable def c_four_number : DS := (sSeq (sIf (dTest (dOp gEq (dS (pV 0)) (dS (pV 1)))) (sRet (dS (pC (.int 4)))) sSkip)
   (sRet (dCallB min2D (aCons (dS (pC (.int 4))) (aCons (dOp gAdd (dCallB lenD (aCons (dCall g_names_in [.ex (dS (pC (.int 4))), .bo 0]) aNil)) (dS (pC (.int 1)))) aNil)))))
noncomputable def g_four_number : GF := gOf 2 [] c_four_number
noncomputable def c_ltake : DS := (sSeq (sIf (dTest (dS (pOp gIn (pOp ixD (pV 0) (pC (.int 0))) (pLst [(pC (.int 0)), (pNeg (pC (.int 1)))])))) (sSeq (sAsg (dS (pOp gAdd (pOp ixD (pV 0) (pC (.int 2))) (pC (.int 1)))) (gSet 0 [] (pC (.int 2))))
   (sRet (dOp gMod (dCall g_lmixed [.ex (dS (pOp ixD (pV 0) (pC (.int 1)))), .ex (dS (pOp ixD (pV 0) (pC (.int 2))))]) (dS (pV 1))))) sSkip)
   (sSeq (sSet 2 (dS (pOp gMod (pOp ixD (pV 0) (pC (.int 0))) (pV 1))))
   (sSeq (sAsg (dS (pOp gFdv (pOp ixD (pV 0) (pC (.int 0))) (pV 1))) (gSet 0 [] (pC (.int 0))))
   (sRet (dS (pV 2))))))
noncomputable def g_ltake : GF := gOf 3 [2] c_ltake
noncomputable def c_shared_row : DS := (sRet (dCall g_row_of_terms [.bo 0, .ex (dLst (aCons (dTup (aCons (dS (pOp gOr (pV 1) (pV 3))) (aCons (dS (pC (.int 1))) aNil))) (aCons (dTup (aCons (dS (pOp gOr (pV 2) (pV 3))) (aCons (dS (pC (.int 1))) aNil))) (aCons (dTup (aCons (dS (pOp gOr (pOp gOr (pV 1) (pV 2)) (pV 3))) (aCons (dS (pNeg (pC (.int 1)))) aNil))) (aCons (dTup (aCons (dS (pV 3)) (aCons (dS (pNeg (pC (.int 1)))) aNil))) aNil)))))]))
noncomputable def g_shared_row : GF := gOf 4 [] c_shared_row
noncomputable def c_rank_of : DS := (sRet (dCallB lenD (aCons (dCall g_lines_of [.bo 0]) aNil)))
noncomputable def g_rank_of : GF := gOf 1 [] c_rank_of
noncomputable def c_common_views : DS := (sSeq (sSet 3 (dLc 3 (iLst (dCall g_lines_of [.ex (dCall g_views_of [.bo 0, .bo 1])])) (gTupD 3 (gConsD (gNm 9) (gConsD (gNm 10) (gConsD (gNm 11) gNilD)))) tTrue (dTup (aCons (dS (pV 9)) (aCons (dS (pV 10)) (aCons (dS (pV 10)) aNil))))))
   (sSeq (sSet 4 (dLst aNil))
   (sSeq (sForI (iLst (dCall g_lines_of [.ex (dCall g_views_of [.bo 0, .bo 2])])) (gTupD 3 (gConsD (gNm 5) (gConsD (gNm 6) (gConsD (gNm 7) gNilD)))) (sSeq (sSet 8 (dCall g_less_lines [.bo 3, .bo 6, .ex (dS (pC (.int 0)))]))
   (sIf (dTest (dOp gEq (dS (pOp ixD (pV 8) (pC (.int 0)))) (dS (pC (.int 0))))) (sDrop (dAppV 4 (dCall g_names_in [.ex (dS (pOp ixD (pV 0) (pC (.int 0)))), .ex (dS (pOp ixD (pV 8) (pC (.int 1))))]))) (sSet 3 (dCall g_with_line [.bo 3, .ex (dS (pOp ixD (pV 8) (pC (.int 0)))), .ex (dS (pOp ixD (pV 8) (pC (.int 1))))])))))
   (sRet (dMv 4)))))
noncomputable def g_common_views : GF := gOf 9 [3, 4, 5, 6, 7, 8, 3] c_common_views
noncomputable def c_four_table : DS := (sRet (dLc 1 (iR2 (aCons (dS (pC (.int 1))) (aCons (dOp gAdd (dCall g_all_names [.ex (dS (pC (.int 4)))]) (dS (pC (.int 1)))) aNil))) (gNm 4) tTrue (dCall g_four_number [.bo 4, .ex (dS (pOp gOr (pOp gShl (pC (.int 1)) (pV 2)) (pOp gShl (pC (.int 1)) (pV 3))))])))
noncomputable def g_four_table : GF := gOf 4 [] c_four_table
noncomputable def c_lnumber : DS := (sSeq (sSet 1 (dCall g_ltake [.bo 0, .ex (dS (pC (.int 4)))]))
   (sSeq (sIf (dTest (dOp gEq (dS (pV 1)) (dS (pC (.int 0))))) (sSeq (sSet 2 (dS (pC (.int 0))))
   (sSeq (sForI (iR1 (aCons (dS (pC (.int 4))) aNil)) (gNm 3) (sSet 2 (dOp gAdd (dS (pOp gMul (pV 2) (pOp gPow (pC (.int 10)) (pC (.int 10))))) (dCall g_ltake [.bo 0, .ex (dS (pOp gPow (pC (.int 10)) (pC (.int 10))))]))))
   (sRet (dIx (dLst (aCons (dS (pV 2)) (aCons (dS (pNeg (pV 2))) aNil))) (dCall g_ltake [.bo 0, .ex (dS (pC (.int 2)))]))))) sSkip)
   (sSeq (sIf (dTest (dOp gEq (dS (pV 1)) (dS (pC (.int 1))))) (sRet (dOp gSub (dCall g_ltake [.bo 0, .ex (dS (pC (.int 2001)))]) (dS (pC (.int 1000))))) sSkip)
   (sRet (dOp gSub (dCall g_ltake [.bo 0, .ex (dS (pC (.int 9)))]) (dS (pC (.int 4))))))))
noncomputable def g_lnumber : GF := gOf 4 [1, 2, 3, 2] c_lnumber
noncomputable def c_lheap : DS := (sSeq (sSet 3 (dCall g_ltake [.ex (dCall g_lpile [.bo 0, .bo 1]), .ex (dS (pC (.int 7)))]))
   (sSeq (sSet 4 (dLst aNil))
   (sSeq (sForI (iR1 (aCons (dS (pV 2)) aNil)) (gNm 5) (sSeq (sSet 6 (dCall g_lpile [.bo 0, .ex (dS (pOp gAdd (pOp gAdd (pV 1) (pC (.int 1))) (pV 5)))]))
   (sSeq (sSet 7 (dLst aNil))
   (sSeq (sForI (iR1 (aCons (dCall g_ltake [.bo 6, .ex (dS (pC (.int 4)))]) aNil)) (gNm 8) (sSeq (sSet 9 (dCall g_ltake [.bo 6, .ex (dS (pOp gShl (pC (.int 1)) (pV 3)))]))
   (sDrop (dAppV 7 (dLc 1 (iR1 (aCons (dS (pV 3)) aNil)) (gNm 10) (dTest (dOp gEq (dS (pOp gAnd (pOp gShr (pV 9) (pV 10)) (pC (.int 1)))) (dS (pC (.int 1))))) (dS (pV 10)))))))
   (sDrop (dAppV 4 (dMv 7)))))))
   (sRet (dTup (aCons (dS (pV 3)) (aCons (dMv 4) aNil)))))))
noncomputable def g_lheap : GF := gOf 10 [3, 4, 5, 6, 7, 8, 9] c_lheap
noncomputable def f_lorder : DSt -> Nat := fun _ => 100
noncomputable def c_lorder : DS := (sSeq (sSet 2 (dListR (dS (pV 1))))
   (sSeq (sSet 3 (dLst aNil))
   (sSeq (sWh f_lorder (dTest (dS (pOp gNe (pV 2) (pLst [])))) (sDrop (dAppV 3 (dPopAt 2 (dCall g_ltake [.bo 0, .ex (dS (pCall lenD [(pV 2)]))])))))
   (sRet (dMv 3)))))
noncomputable def g_lorder : GF := gOf 4 [2, 3] c_lorder
noncomputable def c_coin_table : DS := (sRet (dLc 1 (iR2 (aCons (dS (pC (.int 1))) (aCons (dOp gAdd (dCall g_all_names [.ex (dS (pCall lenD [(pOp ixD (pV 0) (pC (.int 1)))]))]) (dS (pC (.int 1)))) aNil))) (gNm 1) tTrue (dCall g_rank_of [.ex (dCall g_views_of [.bo 0, .bo 1])])))
noncomputable def g_coin_table : GF := gOf 1 [] c_coin_table
noncomputable def c_four_row : DS := (sSeq (sSet 4 (dCall g_shared_row [.ex (dS (pC (.int 4))), .ex (dS (pOp gShl (pC (.int 1)) (pV 0))), .ex (dS (pOp gShl (pC (.int 1)) (pV 1))), .ex (dS (pOp gShl (pC (.int 1)) (pV 2)))]))
   (sSeq (sSet 5 (dCall g_shared_row [.ex (dS (pC (.int 4))), .ex (dS (pOp gShl (pC (.int 1)) (pV 0))), .ex (dS (pOp gShl (pC (.int 1)) (pV 1))), .ex (dS (pOp gShl (pC (.int 1)) (pV 3)))]))
   (sSeq (sSet 6 (dCall g_shared_row [.ex (dS (pC (.int 4))), .ex (dS (pOp gShl (pC (.int 1)) (pV 2))), .ex (dS (pOp gShl (pC (.int 1)) (pV 3))), .ex (dS (pC (.int 0)))]))
   (sSeq (sSet 7 (dCall g_shared_row [.ex (dS (pC (.int 4))), .ex (dS (pOp gShl (pC (.int 1)) (pV 0))), .ex (dS (pOp gShl (pC (.int 1)) (pV 1))), .ex (dS (pC (.int 0)))]))
   (sRet (dLc 4 (iZip4D (dCp 4) (dCp 5) (dCp 6) (dCp 7)) (gTupD 4 (gConsD (gNm 8) (gConsD (gNm 9) (gConsD (gNm 10) (gConsD (gNm 11) gNilD))))) tTrue (dS (pOp gSub (pOp gAdd (pOp gAdd (pV 8) (pV 9)) (pV 10)) (pV 11)))))))))
noncomputable def g_four_row : GF := gOf 8 [4, 5, 6, 7] c_four_row
noncomputable def c_grown_by : DS := (sRet (dOp gSub (dCall g_rank_of [.ex (dCatF (dIx (dIx (dCp 0) (dS (pC (.int 1)))) (dS (pV 1))) (dCp 2))]) (dCall g_rank_of [.ex (dIx (dIx (dCp 0) (dS (pC (.int 1)))) (dS (pV 1)))])))
noncomputable def g_grown_by : GF := gOf 3 [] c_grown_by
noncomputable def c_four_shown : DS := (sSeq (sSet 5 (dCall g_common_views [.bo 0, .ex (dS (pOp gShl (pC (.int 1)) (pV 1))), .ex (dS (pOp gShl (pC (.int 1)) (pV 2)))]))
   (sSeq (sSet 6 (dCall g_value [.ex (dCall g_shared_row [.ex (dS (pC (.int 4))), .ex (dS (pOp gShl (pC (.int 1)) (pV 3))), .ex (dS (pOp gShl (pC (.int 1)) (pV 4))), .ex (dS (pC (.int 0)))]), .ex (dCall g_coin_table [.bo 0])]))
   (sRet (dTup (aCons (dCp 5) (aCons (dTup (aCons (dS (pCall lenD [(pV 5)])) (aCons (dCall g_grown_by [.bo 0, .bo 3, .bo 5]) (aCons (dCall g_grown_by [.bo 0, .bo 4, .bo 5]) (aCons (dS (pV 6)) aNil))))) aNil))))))
noncomputable def g_four_shown : GF := gOf 7 [5, 6] c_four_shown
noncomputable def c_lbeside : DS := (sSeq (sAsg (dMv 2) (gTupDL 4 (gConsD (gNm 3) (gConsD (gNm 4) (gConsD (gNm 5) (gConsD (gNm 6) gNilD))))))
   (sSeq (sSet 7 (dCall g_lheap [.bo 0, .bo 1, .ex (dS (pC (.int 4)))]))
   (sSeq (sSet 8 (dCall g_lheap [.bo 0, .ex (dS (pOp gAdd (pV 1) (pC (.int 5)))), .ex (dS (pC (.int 4)))]))
   (sSeq (sSet 9 (dCall g_four_row [.bo 3, .bo 4, .bo 5, .bo 6]))
   (sSeq (sSet 10 (dCall g_beside [.bo 7, .bo 8]))
   (sSeq (sIf (dTest (dOp gNe (dCall g_value [.bo 9, .ex (dCall g_coin_table [.bo 10])]) (dOp gAdd (dCall g_value [.bo 9, .ex (dCall g_coin_table [.bo 7])]) (dCall g_value [.bo 9, .ex (dCall g_coin_table [.bo 8])])))) sNone sSkip)
   (sSeq (sSet 11 (dIx (dCall g_four_shown [.bo 7, .bo 3, .bo 4, .bo 5, .bo 6]) (dS (pC (.int 1)))))
   (sSeq (sSet 12 (dIx (dCall g_four_shown [.bo 8, .bo 3, .bo 4, .bo 5, .bo 6]) (dS (pC (.int 1)))))
   (sRet (dOp gEq (dIx (dCall g_four_shown [.bo 10, .bo 3, .bo 4, .bo 5, .bo 6]) (dS (pC (.int 1)))) (dTuL (dLc 2 (iZip2D (dCp 11) (dCp 12)) (gTupD 2 (gConsD (gNm 13) (gConsD (gNm 14) gNilD))) tTrue (dS (pOp gAdd (pV 13) (pV 14)))))))))))))))
noncomputable def g_lbeside : GF := gOf 13 [3, 4, 5, 6, 7, 8, 9, 10, 11, 12] c_lbeside
noncomputable def c_law : DS := (sSeq (sForI (iR1 (aCons (dS (pC (.int 6))) aNil)) (gNm 1) (sSeq (sAsg (dCall g_lorder [.ex (dCall g_lpile [.bo 0, .ex (dS (pOp gMul (pC (.int 10)) (pV 1)))]), .ex (dS (pC (.int 4)))]) (gTupDL 4 (gConsD (gNm 2) (gConsD (gNm 3) (gConsD (gNm 4) (gConsD (gNm 5) gNilD))))))
   (sSeq (sSet 6 (dCall g_four_row [.bo 2, .bo 3, .bo 4, .bo 5]))
   (sSeq (sIf (tOrD (dTest (dOpR gNe (dCall g_four_row [.bo 3, .bo 2, .bo 4, .bo 5]) (pV 6))) (dTest (dOpR gNe (dCall g_four_row [.bo 2, .bo 3, .bo 5, .bo 4]) (pV 6)))) sNone sSkip)
   (sSeq (sIf (dTest (dOp gNe (dCall g_four_table [.bo 3, .bo 2, .bo 4, .bo 5]) (dCall g_four_table [.bo 2, .bo 3, .bo 5, .bo 4]))) sNone sSkip)
   (sSeq (sSet 7 (dCall g_lorder [.ex (dCall g_lpile [.bo 0, .ex (dS (pOp gAdd (pOp gMul (pC (.int 10)) (pV 1)) (pC (.int 1))))]), .ex (dS (pC (.int 4)))]))
   (sSeq (sSet 8 (dLc 1 (iR1 (aCons (dS (pC (.int 15))) aNil)) (gNm 10) tTrue (dCall g_lnumber [.ex (dCall g_lpile [.bo 0, .ex (dS (pOp gAdd (pOp gMul (pC (.int 10)) (pV 1)) (pV 10)))])])))
   (sSeq (sSet 9 (dCall g_four_row [.ex (dS (pOp ixD (pV 7) (pV 2))), .ex (dS (pOp ixD (pV 7) (pV 3))), .ex (dS (pOp ixD (pV 7) (pV 4))), .ex (dS (pOp ixD (pV 7) (pV 5)))]))
   (sSeq (sIf (dTest (dOp gNe (dCall g_value [.bo 9, .ex (dCall g_lcalled [.bo 8, .bo 7])]) (dCall g_value [.bo 6, .bo 8]))) sNone sSkip)
   (sIf (tNotD (dTest (dCall g_lbeside [.bo 0, .ex (dS (pOp gMul (pC (.int 10)) (pV 1))), .ex (dLst (aCons (dS (pV 2)) (aCons (dS (pV 3)) (aCons (dS (pV 4)) (aCons (dS (pV 5)) aNil)))))]))) sNone sSkip))))))))))
   (sRet (dS (pC (.bl true)))))
noncomputable def g_law : GF := gOf 10 [1, 2, 3, 4, 5, 6, 7, 8, 9] c_law
set_option genInjectivity false
set_option genSizeOfSpec false
set_option genSizeOf false
structure Txt (K : PySem.W.Frag) (mg : Str -> Option Value) where
 a_all_names : Addr
 d_all_names : FuncData
 a_value : Addr
 d_value : FuncData
 a_names_in : Addr
 d_names_in : FuncData
 a_mask_of : Addr
 d_mask_of : FuncData
 a_less_lines : Addr
 d_less_lines : FuncData
 a_with_line : Addr
 d_with_line : FuncData
 a_moved_views : Addr
 d_moved_views : FuncData
 a_lmixed : Addr
 d_lmixed : FuncData
 a_lpile : Addr
 d_lpile : FuncData
 a_lcalled : Addr
 d_lcalled : FuncData
 a_row_of_terms : Addr
 d_row_of_terms : FuncData
 a_views_of : Addr
 d_views_of : FuncData
 a_lines_of : Addr
 d_lines_of : FuncData
 a_beside : Addr
 d_beside : FuncData
 a_four_number : Addr
 d_four_number : FuncData
 a_ltake : Addr
 d_ltake : FuncData
 a_shared_row : Addr
 d_shared_row : FuncData
 a_rank_of : Addr
 d_rank_of : FuncData
 a_common_views : Addr
 d_common_views : FuncData
 a_four_table : Addr
 d_four_table : FuncData
 a_lnumber : Addr
 d_lnumber : FuncData
 a_lheap : Addr
 d_lheap : FuncData
 a_lorder : Addr
 d_lorder : FuncData
 a_coin_table : Addr
 d_coin_table : FuncData
 a_four_row : Addr
 d_four_row : FuncData
 a_grown_by : Addr
 d_grown_by : FuncData
 a_four_shown : Addr
 d_four_shown : FuncData
 a_lbeside : Addr
 d_lbeside : FuncData
structure Tx {K : PySem.W.Frag} {mg : Str -> Option Value} (t : Txt K mg) : Prop where
 F_all_names : Fun K "all_names" "all_names" s_all_names t.a_all_names t.d_all_names
 m_all_names : mg "all_names" = some (.ref t.a_all_names)
 n_all_names : Binds K t.d_all_names ["n"] []
 F_value : Fun K "value" "value" s_value t.a_value t.d_value
 m_value : mg "value" = some (.ref t.a_value)
 n_value : Binds K t.d_value ["row", "table"] []
 F_names_in : Fun K "names_in" "names_in" s_names_in t.a_names_in t.d_names_in
 m_names_in : mg "names_in" = some (.ref t.a_names_in)
 n_names_in : Binds K t.d_names_in ["n", "group"] []
 F_mask_of : Fun K "mask_of" "mask_of" s_mask_of t.a_mask_of t.d_mask_of
 m_mask_of : mg "mask_of" = some (.ref t.a_mask_of)
 n_mask_of : Binds K t.d_mask_of ["view"] []
 F_less_lines : Fun K "less_lines" "less_lines" s_less_lines t.a_less_lines t.d_less_lines
 m_less_lines : mg "less_lines" = some (.ref t.a_less_lines)
 n_less_lines : Binds K t.d_less_lines ["lines", "mask", "made"] []
 F_with_line : Fun K "with_line" "with_line" s_with_line t.a_with_line t.d_with_line
 m_with_line : mg "with_line" = some (.ref t.a_with_line)
 n_with_line : Binds K t.d_with_line ["lines", "mask", "made"] []
 F_moved_views : Fun K "moved_views" "moved_views" s_moved_views t.a_moved_views t.d_moved_views
 m_moved_views : mg "moved_views" = some (.ref t.a_moved_views)
 n_moved_views : Binds K t.d_moved_views ["views", "many"] []
 F_lmixed : Fun K "_law_mixed" "_law_mixed" s_lmixed t.a_lmixed t.d_lmixed
 m_lmixed : mg "_law_mixed" = some (.ref t.a_lmixed)
 n_lmixed : Binds K t.d_lmixed ["_law_cell", "_law_k"] []
 F_lpile : Fun K "_law_pile" "_law_pile" s_lpile t.a_lpile t.d_lpile
 m_lpile : mg "_law_pile" = some (.ref t.a_lpile)
 n_lpile : Binds K t.d_lpile ["_law_script", "_law_k"] []
 F_lcalled : Fun K "_law_called" "_law_called" s_lcalled t.a_lcalled t.d_lcalled
 m_lcalled : mg "_law_called" = some (.ref t.a_lcalled)
 n_lcalled : Binds K t.d_lcalled ["_law_table", "_law_order_here"] []
 F_row_of_terms : Fun K "row_of_terms" "row_of_terms" s_row_of_terms t.a_row_of_terms t.d_row_of_terms
 m_row_of_terms : mg "row_of_terms" = some (.ref t.a_row_of_terms)
 n_row_of_terms : Binds K t.d_row_of_terms ["n", "terms"] []
 F_views_of : Fun K "views_of" "views_of" s_views_of t.a_views_of t.d_views_of
 m_views_of : mg "views_of" = some (.ref t.a_views_of)
 n_views_of : Binds K t.d_views_of ["heap", "g"] []
 F_lines_of : Fun K "lines_of" "lines_of" s_lines_of t.a_lines_of t.d_lines_of
 m_lines_of : mg "lines_of" = some (.ref t.a_lines_of)
 n_lines_of : Binds K t.d_lines_of ["views"] []
 F_beside : Fun K "beside" "beside" s_beside t.a_beside t.d_beside
 m_beside : mg "beside" = some (.ref t.a_beside)
 n_beside : Binds K t.d_beside ["one", "other"] []
 F_four_number : Fun K "four_number" "four_number" s_four_number t.a_four_number t.d_four_number
 m_four_number : mg "four_number" = some (.ref t.a_four_number)
 n_four_number : Binds K t.d_four_number ["group", "apart"] []
 F_ltake : Fun K "_law_take" "_law_take" s_ltake t.a_ltake t.d_ltake
 m_ltake : mg "_law_take" = some (.ref t.a_ltake)
 n_ltake : Binds K t.d_ltake ["_law_pile_here", "_law_many"] []
 F_shared_row : Fun K "shared_row" "shared_row" s_shared_row t.a_shared_row t.d_shared_row
 m_shared_row : mg "shared_row" = some (.ref t.a_shared_row)
 n_shared_row : Binds K t.d_shared_row ["n", "a", "b", "c"] []
 F_rank_of : Fun K "rank_of" "rank_of" s_rank_of t.a_rank_of t.d_rank_of
 m_rank_of : mg "rank_of" = some (.ref t.a_rank_of)
 n_rank_of : Binds K t.d_rank_of ["views"] []
 F_common_views : Fun K "common_views" "common_views" s_common_views t.a_common_views t.d_common_views
 m_common_views : mg "common_views" = some (.ref t.a_common_views)
 n_common_views : Binds K t.d_common_views ["heap", "a", "b"] []
 F_four_table : Fun K "four_table" "four_table" s_four_table t.a_four_table t.d_four_table
 m_four_table : mg "four_table" = some (.ref t.a_four_table)
 n_four_table : Binds K t.d_four_table ["i", "j", "k", "l"] []
 F_lnumber : Fun K "_law_number" "_law_number" s_lnumber t.a_lnumber t.d_lnumber
 m_lnumber : mg "_law_number" = some (.ref t.a_lnumber)
 n_lnumber : Binds K t.d_lnumber ["_law_pile_here"] []
 F_lheap : Fun K "_law_heap" "_law_heap" s_lheap t.a_lheap t.d_lheap
 m_lheap : mg "_law_heap" = some (.ref t.a_lheap)
 n_lheap : Binds K t.d_lheap ["_law_script", "_law_start", "_law_n"] []
 F_lorder : Fun K "_law_order" "_law_order" s_lorder t.a_lorder t.d_lorder
 m_lorder : mg "_law_order" = some (.ref t.a_lorder)
 n_lorder : Binds K t.d_lorder ["_law_pile_here", "_law_n"] []
 F_coin_table : Fun K "coin_table" "coin_table" s_coin_table t.a_coin_table t.d_coin_table
 m_coin_table : mg "coin_table" = some (.ref t.a_coin_table)
 n_coin_table : Binds K t.d_coin_table ["heap"] []
 F_four_row : Fun K "four_row" "four_row" s_four_row t.a_four_row t.d_four_row
 m_four_row : mg "four_row" = some (.ref t.a_four_row)
 n_four_row : Binds K t.d_four_row ["i", "j", "k", "l"] []
 F_grown_by : Fun K "grown_by" "grown_by" s_grown_by t.a_grown_by t.d_grown_by
 m_grown_by : mg "grown_by" = some (.ref t.a_grown_by)
 n_grown_by : Binds K t.d_grown_by ["heap", "name", "views"] []
 F_four_shown : Fun K "four_shown" "four_shown" s_four_shown t.a_four_shown t.d_four_shown
 m_four_shown : mg "four_shown" = some (.ref t.a_four_shown)
 n_four_shown : Binds K t.d_four_shown ["heap", "i", "j", "k", "l"] []
 F_lbeside : Fun K "_law_beside" "_law_beside" s_lbeside t.a_lbeside t.d_lbeside
 m_lbeside : mg "_law_beside" = some (.ref t.a_lbeside)
 n_lbeside : Binds K t.d_lbeside ["_law_script", "_law_start", "_law_order_here"] []
 b_abs : mg "abs" = none
 b_enumerate : mg "enumerate" = none
 b_int : mg "int" = none
 b_len : mg "len" = none
 b_list : mg "list" = none
 b_min : mg "min" = none
 b_range : mg "range" = none
 b_sum : mg "sum" = none
 b_tuple : mg "tuple" = none
 b_zip : mg "zip" = none
 c_NAMES : ∃ t, mg "NAMES" = some (.int 4 t)
section
variable {P : Program} {w : World} {K : PySem.W.Frag} {mg : Str -> Option Value} {base : Heap} {t : Txt K mg}
theorem ok_all_names (T : Tx t) : FnOk P w K mg base CX0 1 t.a_all_names t.d_all_names ["n"] (spD K 1 g_all_names) := by
 refine fn_D (N := ["n"]) (W := []) T.F_all_names sc_all_names dC fun cdv A outer s H E hr => ?_
 have hu := hr.units;exact (qss_one (qs_ret (qe_s (qb_op o_sub (qb_op o_shl qb_int (qb_v 0)) qb_int))))
theorem ok_value (T : Tx t) : FnOk P w K mg base CX0 1 t.a_value t.d_value ["row", "table"] (spD K 2 g_value) := by
 refine fn_D (N := ["row", "table"]) (W := []) T.F_value sc_value dC fun cdv A outer s H E hr => ?_
 have hu := hr.units;exact (qss_one (qs_ret (qe_fn (id := "sum") (c_sum (by rfl)) (by rfl) T.b_sum (by decide +kernel) (qa_cons (lc_e ["row", "table", "number", "unsureness"] (qi_zip (by rfl) T.b_zip (qe_cp 0) (qe_cp 1)) (fun _ _ _ _ _ => by exact (qg_tup (by rfl) (qgs_cons (qg_name 2 (show List.Nodup (["row", "table", "number", "unsureness"] : List Str) by decide +kernel)) (qgs_cons (qg_name 3 (show List.Nodup (["row", "table", "number", "unsureness"] : List Str) by decide +kernel)) qgs_nil)))) (fun _ _ _ _ _ => by exact qif_nil) (fun _ _ _ _ _ => by exact (qe_s (qb_op o_mul (qb_v 2) (qb_v 3))))) qa_nil))))
theorem ok_names_in (T : Tx t) : FnOk P w K mg base CX0 1 t.a_names_in t.d_names_in ["n", "group"] (spD K 2 g_names_in) := by
 refine fn_D (N := ["n", "group"]) (W := []) T.F_names_in sc_names_in dC fun cdv A outer s H E hr => ?_
 have hu := hr.units;exact (qss_one (qs_ret (lc_e ["n", "group", "k"] (qi_r1 (by rfl) T.b_range (qa_cons (qe_s (qb_v 0)) qa_nil)) (fun _ _ _ _ _ => by exact (qg_name 2 (show List.Nodup (["n", "group", "k"] : List Str) by decide +kernel))) (fun _ _ _ _ _ => by exact (qif_one (qt_cmp (o_ne hu) (qe_s (qb_op o_and (qb_v 1) (qb_op o_shl qb_int (qb_v 2)))) (qe_s qb_int) (nomark _)))) (fun _ _ _ _ _ => by exact (qe_s (qb_v 2))))))
theorem ok_mask_of (T : Tx t) : FnOk P w K mg base CX0 1 t.a_mask_of t.d_mask_of ["view"] (spD K 1 g_mask_of) := by
 refine fn_D (N := ["view"]) (W := []) T.F_mask_of sc_mask_of dC fun cdv A outer s H E hr => ?_
 have hu := hr.units;exact (qss_one (qs_ret (qe_fn (id := "sum") (c_sum (by rfl)) (by rfl) T.b_sum (by decide +kernel) (qa_cons (lc_e ["view", "coin"] (qi_lst (qe_cp 0)) (fun _ _ _ _ _ => by exact (qg_name 1 (show List.Nodup (["view", "coin"] : List Str) by decide +kernel))) (fun _ _ _ _ _ => by exact qif_nil) (fun _ _ _ _ _ => by exact (qe_s (qb_op o_shl qb_int (qb_v 1))))) qa_nil))))
theorem ok_less_lines (T : Tx t) : FnOk P w K mg base CX0 1 t.a_less_lines t.d_less_lines ["lines", "mask", "made"] (spD K 3 g_less_lines) := by
 refine fn_D (N := ["lines", "mask", "made", "lead", "other", "how"]) (W := [3, 4, 5, 1, 2]) T.F_less_lines sc_less_lines dC fun cdv A outer s H E hr => ?_
 have hu := hr.units;exact (qss_cons (qs_forI (by rfl) (qi_lst (qe_cp 0)) (qg_tup (by rfl) (qgs_cons (qg_name 3 sc_less_lines.nd) (qgs_cons (qg_name 4 sc_less_lines.nd) (qgs_cons (qg_name 5 sc_less_lines.nd) qgs_nil)))) (qss_one (qs_if (qt_cmp (o_ne hu) (qe_s (qb_op o_and (qb_v 1) (qb_v 3))) (qe_s qb_int) (nomark _)) (qss_cons (qs_set 1 sc_less_lines.nd (qe_s (qb_op o_xor (qb_v 1) (qb_v 4))))
   (qss_one (qs_set 2 sc_less_lines.nd (qe_s (qb_op o_xor (qb_v 2) (qb_v 5)))))) qss_nil)) PassesOwn.never)
   (qss_one (qs_ret (qe_tup (qa_cons (qe_s (qb_v 1)) (qa_cons (qe_s (qb_v 2)) qa_nil))))))
theorem ok_with_line (T : Tx t) : FnOk P w K mg base CX0 1 t.a_with_line t.d_with_line ["lines", "mask", "made"] (spD K 3 g_with_line) := by
 refine fn_D (N := ["lines", "mask", "made", "lead", "changed", "other", "there", "how"]) (W := [3, 4, 5, 6, 7]) T.F_with_line sc_with_line dC fun cdv A outer s H E hr => ?_
 have hu := hr.units;exact (qss_cons (qs_set 3 sc_with_line.nd (qe_s (qb_op o_shl qb_int (qb_op o_sub (qb_blen (qb_v 1)) qb_int))))
   (qss_cons (qs_set 4 sc_with_line.nd (qe_lst qa_nil))
   (qss_cons (qs_forI (by rfl) (qi_lst (qe_cp 0)) (qg_tup (by rfl) (qgs_cons (qg_name 5 sc_with_line.nd) (qgs_cons (qg_name 6 sc_with_line.nd) (qgs_cons (qg_name 7 sc_with_line.nd) qgs_nil)))) (qss_one (qs_if (qt_cmp (o_ne hu) (qe_s (qb_op o_and (qb_v 6) (qb_v 3))) (qe_s qb_int) (nomark _)) (qss_one (qs_expr (qe_appV 4 (qe_tup (qa_cons (qe_s (qb_v 5)) (qa_cons (qe_s (qb_op o_xor (qb_v 6) (qb_v 1))) (qa_cons (qe_s (qb_op o_xor (qb_v 7) (qb_v 2))) qa_nil))))))) (qss_one (qs_expr (qe_appV 4 (qe_tup (qa_cons (qe_s (qb_v 5)) (qa_cons (qe_s (qb_v 6)) (qa_cons (qe_s (qb_v 7)) qa_nil))))))))) PassesOwn.never)
   (qss_one (qs_ret (qe_cat (qe_mv 4) (qe_lst (qa_cons (qe_tup (qa_cons (qe_s (qb_v 3)) (qa_cons (qe_s (qb_v 1)) (qa_cons (qe_s (qb_v 2)) qa_nil)))) qa_nil))))))))
theorem ok_moved_views (T : Tx t) : FnOk P w K mg base CX0 1 t.a_moved_views t.d_moved_views ["views", "many"] (spD K 2 g_moved_views) := by
 refine fn_D (N := ["views", "many"]) (W := []) T.F_moved_views sc_moved_views dC fun cdv A outer s H E hr => ?_
 have hu := hr.units;exact (qss_one (qs_ret (lc_e ["views", "many", "view"] (qi_lst (qe_cp 0)) (fun _ _ _ _ _ => by exact (qg_name 2 (show List.Nodup (["views", "many", "view"] : List Str) by decide +kernel))) (fun _ _ _ _ _ => by exact qif_nil) (fun _ _ _ _ _ => by exact (lc_e ["views", "many", "view", "coin"] (qi_lst (qe_cp 2)) (fun _ _ _ _ _ => by exact (qg_name 3 (show List.Nodup (["views", "many", "view", "coin"] : List Str) by decide +kernel))) (fun _ _ _ _ _ => by exact qif_nil) (fun _ _ _ _ _ => by exact (qe_s (qb_op o_add (qb_v 3) (qb_v 1)))))))))
theorem ok_lmixed (T : Tx t) : FnOk P w K mg base CX0 1 t.a_lmixed t.d_lmixed ["_law_cell", "_law_k"] (spD K 2 g_lmixed) := by
 refine fn_D (N := ["_law_cell", "_law_k", "_law_number_here"]) (W := [2, 2]) T.F_lmixed sc_lmixed dC fun cdv A outer s H E hr => ?_
 have hu := hr.units;exact (qss_cons (qs_set 2 sc_lmixed.nd (qe_s (qb_op o_mod (qb_op o_add (qb_op o_add (qb_op o_mul (qb_op o_mod (qb_v 0) qb_int) qb_int) (qb_op o_mul (qb_v 1) qb_int)) qb_int) qb_int)))
   (qss_cons (qs_set 2 sc_lmixed.nd (qe_s (qb_op o_mod (qb_op o_mul (qb_v 2) (qb_v 2)) qb_int)))
   (qss_one (qs_ret (qe_s (qb_op o_mod (qb_op o_mul (qb_v 2) (qb_v 2)) qb_int))))))
theorem ok_lpile (T : Tx t) : FnOk P w K mg base CX0 1 t.a_lpile t.d_lpile ["_law_script", "_law_k"] (spD K 2 g_lpile) := by
 refine fn_D (N := ["_law_script", "_law_k", "_law_cell"]) (W := [2, 2]) T.F_lpile sc_lpile dC fun cdv A outer s H E hr => ?_
 have hu := hr.units;exact (qss_cons (qs_set 2 sc_lpile.nd (qe_s qb_int))
   (qss_cons (qs_if (qt_cmp o_lt (qe_s (qb_v 1)) (qe_s (qb_fn (id := "len") c_len (by rfl) T.b_len (by decide +kernel) (qba_cons (qb_v 0) qba_nil))) (nomark _)) (qss_one (qs_set 2 sc_lpile.nd (qe_s (qb_ix (qb_v 0) (qb_v 1))))) qss_nil)
   (qss_one (qs_ret (qe_lst (qa_cons (qe_s (qb_op o_mul (qb_v 2) (qb_ty (T := "int") c_int (by rfl) T.b_int (by decide +kernel) (qba_cons (qb_cmp o_ge (qb_fn (id := "abs") c_abs (by rfl) T.b_abs (by decide +kernel) (qba_cons (qb_v 2) qba_nil)) (qb_op o_pow qb_int qb_int) (nomark _)) qba_nil)))) (qa_cons (qe_s (qb_v 2)) (qa_cons (qe_s (qb_op o_mul qb_int (qb_v 1))) qa_nil))))))))
theorem ok_lcalled (T : Tx t) : FnOk P w K mg base CX0 1 t.a_lcalled t.d_lcalled ["_law_table", "_law_order_here"] (spD K 2 g_lcalled) := by
 refine fn_D (N := ["_law_table", "_law_order_here", "_law_found", "_law_group", "_law_g", "_law_name"]) (W := [2, 3, 4, 5, 4]) T.F_lcalled sc_lcalled dC fun cdv A outer s H E hr => ?_
 have hu := hr.units;exact (qss_cons (qs_set 2 sc_lcalled.nd (qe_rep (qe_lst (qa_cons (qe_s qb_int) qa_nil)) (qe_s qb_int)))
   (qss_cons (qs_forI (by rfl) (qi_r2 (by rfl) T.b_range (qa_cons (qe_s qb_int) (qa_cons (qe_s qb_int) qa_nil))) (qg_name 3 sc_lcalled.nd) (qss_cons (qs_set 4 sc_lcalled.nd (qe_s qb_int))
   (qss_cons (qs_forI (by rfl) (qi_r1 (by rfl) T.b_range (qa_cons (qe_s qb_int) qa_nil)) (qg_name 5 sc_lcalled.nd) (qss_one (qs_set 4 sc_lcalled.nd (qe_s (qb_op o_add (qb_v 4) (qb_op o_mul (qb_op o_and (qb_op o_shr (qb_v 3) (qb_v 5)) qb_int) (qb_op o_shl qb_int (qb_ix (qb_v 1) (qb_v 5)))))))) PassesOwn.never)
   (qss_one (qs_asg (qe_s (qb_ix (qb_v 0) (qb_op o_sub (qb_v 3) qb_int))) (qg_set (qp_v 2) (qb_op o_sub (qb_v 4) qb_int)))))) PassesOwn.never)
   (qss_one (qs_ret (qe_mv 2)))))
theorem ok_row_of_terms (T : Tx t) : FnOk P w K mg base CX0 2 t.a_row_of_terms t.d_row_of_terms ["n", "terms"] (spD K 2 g_row_of_terms) := by
 have G_all_names := ok_all_names (P := P) (w := w) (base := base) T;refine fn_D (N := ["n", "terms", "row", "group", "number"]) (W := [2, 3, 4]) T.F_row_of_terms sc_row_of_terms dC fun cdv A outer s H E hr => ?_
 have hu := hr.units;exact (qss_cons (qs_set 2 sc_row_of_terms.nd (qe_rep (qe_lst (qa_cons (qe_s qb_int) qa_nil)) (qe_call G_all_names (hr.mono dC) (by rfl) T.m_all_names T.F_all_names.kp T.n_all_names (qm_bo 0 qm_nil))))
   (qss_cons (qs_forI (by rfl) (qi_lst (qe_cp 1)) (qg_tup (by rfl) (qgs_cons (qg_name 3 sc_row_of_terms.nd) (qgs_cons (qg_name 4 sc_row_of_terms.nd) qgs_nil))) (qss_one (qs_if (qt_cmp (o_ne hu) (qe_s (qb_v 3)) (qe_s qb_int) (nomark _)) (qss_one (qs_augS oi_add (qp_v 2) (qb_op o_sub (qb_v 3) qb_int) (qb_v 4))) qss_nil)) PassesOwn.never)
   (qss_one (qs_ret (qe_mv 2)))))
theorem ok_views_of (T : Tx t) : FnOk P w K mg base CX0 2 t.a_views_of t.d_views_of ["heap", "g"] (spD K 2 g_views_of) := by
 have G_names_in := ok_names_in (P := P) (w := w) (base := base) T;refine fn_D (N := ["heap", "g", "found", "name"]) (W := [2, 3]) T.F_views_of sc_views_of dC fun cdv A outer s H E hr => ?_
 have hu := hr.units;exact (qss_cons (qs_set 2 sc_views_of.nd (qe_lst qa_nil))
   (qss_cons (qs_forI (by rfl) (qi_lst (qe_call G_names_in (hr.mono dC) (by rfl) T.m_names_in T.F_names_in.kp T.n_names_in (qm_ex (qe_s (qb_fn (id := "len") c_len (by rfl) T.b_len (by decide +kernel) (qba_cons (qb_ix (hs := plainC) (qb_v 0) qb_int) qba_nil))) (qm_bo 1 qm_nil)))) (qg_name 3 sc_views_of.nd) (qss_one (qs_expr (qe_extF 2 (qe_ix (qe_ix (qe_cp 0) (qe_s qb_int)) (qe_s (qb_v 3)))))) PassesOwn.never)
   (qss_one (qs_ret (qe_mv 2)))))
theorem ok_lines_of (T : Tx t) : FnOk P w K mg base CX0 2 t.a_lines_of t.d_lines_of ["views"] (spD K 1 g_lines_of) := by
 have G_less_lines := ok_less_lines (P := P) (w := w) (base := base) T;have G_mask_of := ok_mask_of (P := P) (w := w) (base := base) T;have G_with_line := ok_with_line (P := P) (w := w) (base := base) T;refine fn_D (N := ["views", "lines", "place", "view", "left"]) (W := [1, 2, 3, 4, 1]) T.F_lines_of sc_lines_of dC fun cdv A outer s H E hr => ?_
 have hu := hr.units;exact (qss_cons (qs_set 1 sc_lines_of.nd (qe_lst qa_nil))
   (qss_cons (qs_forI (by rfl) (qi_enum (by rfl) T.b_enumerate (qe_cp 0)) (qg_tup (by rfl) (qgs_cons (qg_name 2 sc_lines_of.nd) (qgs_cons (qg_name 3 sc_lines_of.nd) qgs_nil))) (qss_cons (qs_set 4 sc_lines_of.nd (qe_call G_less_lines (hr.mono dC) (by rfl) T.m_less_lines T.F_less_lines.kp T.n_less_lines (qm_bo 1 (qm_ex (qe_call G_mask_of (hr.mono dC) (by rfl) T.m_mask_of T.F_mask_of.kp T.n_mask_of (qm_bo 3 qm_nil)) (qm_ex (qe_s (qb_op o_shl qb_int (qb_v 2))) qm_nil)))))
   (qss_one (qs_if (qt_cmp (o_ne hu) (qe_s (qb_ix (hs := plainC) (qb_v 4) qb_int)) (qe_s qb_int) (nomark _)) (qss_one (qs_set 1 sc_lines_of.nd (qe_call G_with_line (hr.mono dC) (by rfl) T.m_with_line T.F_with_line.kp T.n_with_line (qm_bo 1 (qm_ex (qe_s (qb_ix (hs := plainC) (qb_v 4) qb_int)) (qm_ex (qe_s (qb_ix (hs := plainC) (qb_v 4) qb_int)) qm_nil)))))) qss_nil))) PassesOwn.never)
   (qss_one (qs_ret (qe_mv 1)))))
theorem ok_beside (T : Tx t) : FnOk P w K mg base CX0 2 t.a_beside t.d_beside ["one", "other"] (spD K 2 g_beside) := by
 have G_moved_views := ok_moved_views (P := P) (w := w) (base := base) T;refine fn_D (N := ["one", "other", "views"]) (W := [2]) T.F_beside sc_beside dC fun cdv A outer s H E hr => ?_
 have hu := hr.units;exact (qss_cons (lc_s 2 ["one", "other", "views", "ahead", "behind"] sc_beside.nd (qi_zip (by rfl) T.b_zip (qe_ix (qe_cp 0) (qe_s qb_int)) (qe_ix (qe_cp 1) (qe_s qb_int))) (fun _ _ _ _ _ => by exact (qg_tup (by rfl) (qgs_cons (qg_name 3 (show List.Nodup (["one", "other", "views", "ahead", "behind"] : List Str) by decide +kernel)) (qgs_cons (qg_name 4 (show List.Nodup (["one", "other", "views", "ahead", "behind"] : List Str) by decide +kernel)) qgs_nil)))) (fun _ _ _ _ _ => by exact qif_nil) (fun _ _ _ _ _ => by exact (qe_cat (qe_call G_moved_views (hr.mono dC) (by rfl) T.m_moved_views T.F_moved_views.kp T.n_moved_views (qm_bo 3 (qm_ex (qe_s qb_int) qm_nil))) (qe_call G_moved_views (hr.mono dC) (by rfl) T.m_moved_views T.F_moved_views.kp T.n_moved_views (qm_bo 4 (qm_ex (qe_s (qb_ix (hs := plainC) (qb_v 0) qb_int)) qm_nil))))))
   (qss_one (qs_ret (qe_tup (qa_cons (qe_s (qb_op o_add (qb_ix (hs := plainC) (qb_v 0) qb_int) (qb_ix (hs := plainC) (qb_v 1) qb_int))) (qa_cons (qe_mv 2) qa_nil))))))
theorem ok_four_number (T : Tx t) : FnOk P w K mg base CX0 2 t.a_four_number t.d_four_number ["group", "apart"] (spD K 2 g_four_number) := by
 have G_names_in := ok_names_in (P := P) (w := w) (base := base) T;refine fn_D (N := ["group", "apart"]) (W := []) T.F_four_number sc_four_number dC fun cdv A outer s H E hr => ?_
 have hu := hr.units;exact (qss_cons (qs_if (qt_cmp (o_eq hu) (qe_s (qb_v 0)) (qe_s (qb_v 1)) (nomark _)) (qss_one (qs_ret (qe_s qb_int))) qss_nil)
   (qss_one (qs_ret (qe_fn (id := "min") (c_min2 (by rfl)) (by rfl) T.b_min (by decide +kernel) (qa_cons (qe_s qb_int) (qa_cons (qe_op o_add (qe_fn (id := "len") c_len (by rfl) T.b_len (by decide +kernel) (qa_cons (qe_call G_names_in (hr.mono dC) (by rfl) T.m_names_in T.F_names_in.kp T.n_names_in (qm_ex (qe_s (qb_glob (by rfl) T.c_NAMES)) (qm_bo 0 qm_nil))) qa_nil)) (qe_s qb_int)) qa_nil))))))
theorem ok_ltake (T : Tx t) : FnOk P w K mg base CX0 2 t.a_ltake t.d_ltake ["_law_pile_here", "_law_many"] (spD K 2 g_ltake) := by
 have G_lmixed := ok_lmixed (P := P) (w := w) (base := base) T;refine fn_D (N := ["_law_pile_here", "_law_many", "_law_digit"]) (W := [2]) T.F_ltake sc_ltake dC fun cdv A outer s H E hr => ?_
 have hu := hr.units;exact (qss_cons (qs_if (qt_cmpB (o_in hu) (qb_ix (hs := plainC) (qb_v 0) qb_int) (qb_lst (qba_cons qb_int (qba_cons (qb_neg qb_int) qba_nil))) (by rfl)) (qss_cons (qs_asg (qe_s (qb_op o_add (qb_ix (hs := plainC) (qb_v 0) qb_int) qb_int)) (qg_set (qp_v 0) qb_int))
   (qss_one (qs_ret (qe_op o_mod (qe_call G_lmixed (hr.mono dC) (by rfl) T.m_lmixed T.F_lmixed.kp T.n_lmixed (qm_ex (qe_s (qb_ix (hs := plainC) (qb_v 0) qb_int)) (qm_ex (qe_s (qb_ix (hs := plainC) (qb_v 0) qb_int)) qm_nil))) (qe_s (qb_v 1)))))) qss_nil)
   (qss_cons (qs_set 2 sc_ltake.nd (qe_s (qb_op o_mod (qb_ix (hs := plainC) (qb_v 0) qb_int) (qb_v 1))))
   (qss_cons (qs_asg (qe_s (qb_op o_fdv (qb_ix (hs := plainC) (qb_v 0) qb_int) (qb_v 1))) (qg_set (qp_v 0) qb_int))
   (qss_one (qs_ret (qe_s (qb_v 2)))))))
theorem ok_shared_row (T : Tx t) : FnOk P w K mg base CX0 3 t.a_shared_row t.d_shared_row ["n", "a", "b", "c"] (spD K 4 g_shared_row) := by
 have G_row_of_terms := ok_row_of_terms (P := P) (w := w) (base := base) T;refine fn_D (N := ["n", "a", "b", "c"]) (W := []) T.F_shared_row sc_shared_row dC fun cdv A outer s H E hr => ?_
 have hu := hr.units;exact (qss_one (qs_ret (qe_call G_row_of_terms (hr.mono dC) (by rfl) T.m_row_of_terms T.F_row_of_terms.kp T.n_row_of_terms (qm_bo 0 (qm_ex (qe_lst (qa_cons (qe_tup (qa_cons (qe_s (qb_op o_or (qb_v 1) (qb_v 3))) (qa_cons (qe_s qb_int) qa_nil))) (qa_cons (qe_tup (qa_cons (qe_s (qb_op o_or (qb_v 2) (qb_v 3))) (qa_cons (qe_s qb_int) qa_nil))) (qa_cons (qe_tup (qa_cons (qe_s (qb_op o_or (qb_op o_or (qb_v 1) (qb_v 2)) (qb_v 3))) (qa_cons (qe_s (qb_neg qb_int)) qa_nil))) (qa_cons (qe_tup (qa_cons (qe_s (qb_v 3)) (qa_cons (qe_s (qb_neg qb_int)) qa_nil))) qa_nil))))) qm_nil)))))
theorem ok_rank_of (T : Tx t) : FnOk P w K mg base CX0 3 t.a_rank_of t.d_rank_of ["views"] (spD K 1 g_rank_of) := by
 have G_lines_of := ok_lines_of (P := P) (w := w) (base := base) T;refine fn_D (N := ["views"]) (W := []) T.F_rank_of sc_rank_of dC fun cdv A outer s H E hr => ?_
 have hu := hr.units;exact (qss_one (qs_ret (qe_fn (id := "len") c_len (by rfl) T.b_len (by decide +kernel) (qa_cons (qe_call G_lines_of (hr.mono dC) (by rfl) T.m_lines_of T.F_lines_of.kp T.n_lines_of (qm_bo 0 qm_nil)) qa_nil))))
theorem ok_common_views (T : Tx t) : FnOk P w K mg base CX0 3 t.a_common_views t.d_common_views ["heap", "a", "b"] (spD K 3 g_common_views) := by
 have G_less_lines := ok_less_lines (P := P) (w := w) (base := base) T;have G_lines_of := ok_lines_of (P := P) (w := w) (base := base) T;have G_names_in := ok_names_in (P := P) (w := w) (base := base) T;have G_views_of := ok_views_of (P := P) (w := w) (base := base) T;have G_with_line := ok_with_line (P := P) (w := w) (base := base) T;refine fn_D (N := ["heap", "a", "b", "lines", "found", "lead", "mask", "made", "left"]) (W := [3, 4, 5, 6, 7, 8, 3]) T.F_common_views sc_common_views dC fun cdv A outer s H E hr => ?_
 have hu := hr.units;exact (qss_cons (lc_s 3 ["heap", "a", "b", "lines", "found", "%1", "%2", "%3", "left", "lead", "mask", "made"] sc_common_views.nd (qi_lst (qe_call G_lines_of (hr.mono dC) (by rfl) T.m_lines_of T.F_lines_of.kp T.n_lines_of (qm_ex (qe_call G_views_of (hr.mono dC) (by rfl) T.m_views_of T.F_views_of.kp T.n_views_of (qm_bo 0 (qm_bo 1 qm_nil))) qm_nil))) (fun _ _ _ _ _ => by exact (qg_tup (by rfl) (qgs_cons (qg_name 9 (show List.Nodup (["heap", "a", "b", "lines", "found", "%1", "%2", "%3", "left", "lead", "mask", "made"] : List Str) by decide +kernel)) (qgs_cons (qg_name 10 (show List.Nodup (["heap", "a", "b", "lines", "found", "%1", "%2", "%3", "left", "lead", "mask", "made"] : List Str) by decide +kernel)) (qgs_cons (qg_name 11 (show List.Nodup (["heap", "a", "b", "lines", "found", "%1", "%2", "%3", "left", "lead", "mask", "made"] : List Str) by decide +kernel)) qgs_nil))))) (fun _ _ _ _ _ => by exact qif_nil) (fun _ _ _ _ _ => by exact (qe_tup (qa_cons (qe_s (qb_v 9)) (qa_cons (qe_s (qb_v 10)) (qa_cons (qe_s (qb_v 10)) qa_nil))))))
   (qss_cons (qs_set 4 sc_common_views.nd (qe_lst qa_nil))
   (qss_cons (qs_forI (by rfl) (qi_lst (qe_call G_lines_of (hr.mono dC) (by rfl) T.m_lines_of T.F_lines_of.kp T.n_lines_of (qm_ex (qe_call G_views_of (hr.mono dC) (by rfl) T.m_views_of T.F_views_of.kp T.n_views_of (qm_bo 0 (qm_bo 2 qm_nil))) qm_nil))) (qg_tup (by rfl) (qgs_cons (qg_name 5 sc_common_views.nd) (qgs_cons (qg_name 6 sc_common_views.nd) (qgs_cons (qg_name 7 sc_common_views.nd) qgs_nil)))) (qss_cons (qs_set 8 sc_common_views.nd (qe_call G_less_lines (hr.mono dC) (by rfl) T.m_less_lines T.F_less_lines.kp T.n_less_lines (qm_bo 3 (qm_bo 6 (qm_ex (qe_s qb_int) qm_nil)))))
   (qss_one (qs_if (qt_cmp (o_eq hu) (qe_s (qb_ix (hs := plainC) (qb_v 8) qb_int)) (qe_s qb_int) (nomark _)) (qss_one (qs_expr (qe_appV 4 (qe_call G_names_in (hr.mono dC) (by rfl) T.m_names_in T.F_names_in.kp T.n_names_in (qm_ex (qe_s (qb_ix (hs := plainC) (qb_v 0) qb_int)) (qm_ex (qe_s (qb_ix (hs := plainC) (qb_v 8) qb_int)) qm_nil)))))) (qss_one (qs_set 3 sc_common_views.nd (qe_call G_with_line (hr.mono dC) (by rfl) T.m_with_line T.F_with_line.kp T.n_with_line (qm_bo 3 (qm_ex (qe_s (qb_ix (hs := plainC) (qb_v 8) qb_int)) (qm_ex (qe_s (qb_ix (hs := plainC) (qb_v 8) qb_int)) qm_nil))))))))) PassesOwn.never)
   (qss_one (qs_ret (qe_mv 4))))))
theorem ok_four_table (T : Tx t) : FnOk P w K mg base CX0 3 t.a_four_table t.d_four_table ["i", "j", "k", "l"] (spD K 4 g_four_table) := by
 have G_all_names := ok_all_names (P := P) (w := w) (base := base) T;have G_four_number := ok_four_number (P := P) (w := w) (base := base) T;refine fn_D (N := ["i", "j", "k", "l"]) (W := []) T.F_four_table sc_four_table dC fun cdv A outer s H E hr => ?_
 have hu := hr.units;exact (qss_one (qs_ret (lc_e ["i", "j", "k", "l", "group"] (qi_r2 (by rfl) T.b_range (qa_cons (qe_s qb_int) (qa_cons (qe_op o_add (qe_call G_all_names (hr.mono dC) (by rfl) T.m_all_names T.F_all_names.kp T.n_all_names (qm_ex (qe_s (qb_glob (by rfl) T.c_NAMES)) qm_nil)) (qe_s qb_int)) qa_nil))) (fun _ _ _ _ _ => by exact (qg_name 4 (show List.Nodup (["i", "j", "k", "l", "group"] : List Str) by decide +kernel))) (fun _ _ _ _ _ => by exact qif_nil) (fun _ _ _ _ _ => by exact (qe_call G_four_number (hr.mono dC) (by rfl) T.m_four_number T.F_four_number.kp T.n_four_number (qm_bo 4 (qm_ex (qe_s (qb_op o_or (qb_op o_shl qb_int (qb_v 2)) (qb_op o_shl qb_int (qb_v 3)))) qm_nil)))))))
theorem ok_lnumber (T : Tx t) : FnOk P w K mg base CX0 3 t.a_lnumber t.d_lnumber ["_law_pile_here"] (spD K 1 g_lnumber) := by
 have G_ltake := ok_ltake (P := P) (w := w) (base := base) T;refine fn_D (N := ["_law_pile_here", "_law_way", "_law_number_here", "_law_k"]) (W := [1, 2, 3, 2]) T.F_lnumber sc_lnumber dC fun cdv A outer s H E hr => ?_
 have hu := hr.units;exact (qss_cons (qs_set 1 sc_lnumber.nd (qe_call G_ltake (hr.mono dC) (by rfl) T.m_ltake T.F_ltake.kp T.n_ltake (qm_bo 0 (qm_ex (qe_s qb_int) qm_nil))))
   (qss_cons (qs_if (qt_cmp (o_eq hu) (qe_s (qb_v 1)) (qe_s qb_int) (nomark _)) (qss_cons (qs_set 2 sc_lnumber.nd (qe_s qb_int))
   (qss_cons (qs_forI (by rfl) (qi_r1 (by rfl) T.b_range (qa_cons (qe_s qb_int) qa_nil)) (qg_name 3 sc_lnumber.nd) (qss_one (qs_set 2 sc_lnumber.nd (qe_op o_add (qe_s (qb_op o_mul (qb_v 2) (qb_op o_pow qb_int qb_int))) (qe_call G_ltake (hr.mono dC) (by rfl) T.m_ltake T.F_ltake.kp T.n_ltake (qm_bo 0 (qm_ex (qe_s (qb_op o_pow qb_int qb_int)) qm_nil)))))) PassesOwn.never)
   (qss_one (qs_ret (qe_ix (qe_lst (qa_cons (qe_s (qb_v 2)) (qa_cons (qe_s (qb_neg (qb_v 2))) qa_nil))) (qe_call G_ltake (hr.mono dC) (by rfl) T.m_ltake T.F_ltake.kp T.n_ltake (qm_bo 0 (qm_ex (qe_s qb_int) qm_nil)))))))) qss_nil)
   (qss_cons (qs_if (qt_cmp (o_eq hu) (qe_s (qb_v 1)) (qe_s qb_int) (nomark _)) (qss_one (qs_ret (qe_op o_sub (qe_call G_ltake (hr.mono dC) (by rfl) T.m_ltake T.F_ltake.kp T.n_ltake (qm_bo 0 (qm_ex (qe_s qb_int) qm_nil))) (qe_s qb_int)))) qss_nil)
   (qss_one (qs_ret (qe_op o_sub (qe_call G_ltake (hr.mono dC) (by rfl) T.m_ltake T.F_ltake.kp T.n_ltake (qm_bo 0 (qm_ex (qe_s qb_int) qm_nil))) (qe_s qb_int)))))))
theorem ok_lheap (T : Tx t) : FnOk P w K mg base CX0 3 t.a_lheap t.d_lheap ["_law_script", "_law_start", "_law_n"] (spD K 3 g_lheap) := by
 have G_lpile := ok_lpile (P := P) (w := w) (base := base) T;have G_ltake := ok_ltake (P := P) (w := w) (base := base) T;refine fn_D (N := ["_law_script", "_law_start", "_law_n", "_law_many", "_law_views", "_law_name", "_law_pile_here", "_law_row", "_law_turn", "_law_mask"]) (W := [3, 4, 5, 6, 7, 8, 9]) T.F_lheap sc_lheap dC fun cdv A outer s H E hr => ?_
 have hu := hr.units;exact (qss_cons (qs_set 3 sc_lheap.nd (qe_call G_ltake (hr.mono dC) (by rfl) T.m_ltake T.F_ltake.kp T.n_ltake (qm_ex (qe_call G_lpile (hr.mono dC) (by rfl) T.m_lpile T.F_lpile.kp T.n_lpile (qm_bo 0 (qm_bo 1 qm_nil))) (qm_ex (qe_s qb_int) qm_nil))))
   (qss_cons (qs_set 4 sc_lheap.nd (qe_lst qa_nil))
   (qss_cons (qs_forI (by rfl) (qi_r1 (by rfl) T.b_range (qa_cons (qe_s (qb_v 2)) qa_nil)) (qg_name 5 sc_lheap.nd) (qss_cons (qs_set 6 sc_lheap.nd (qe_call G_lpile (hr.mono dC) (by rfl) T.m_lpile T.F_lpile.kp T.n_lpile (qm_bo 0 (qm_ex (qe_s (qb_op o_add (qb_op o_add (qb_v 1) qb_int) (qb_v 5))) qm_nil))))
   (qss_cons (qs_set 7 sc_lheap.nd (qe_lst qa_nil))
   (qss_cons (qs_forI (by rfl) (qi_r1 (by rfl) T.b_range (qa_cons (qe_call G_ltake (hr.mono dC) (by rfl) T.m_ltake T.F_ltake.kp T.n_ltake (qm_bo 6 (qm_ex (qe_s qb_int) qm_nil))) qa_nil)) (qg_name 8 sc_lheap.nd) (qss_cons (qs_set 9 sc_lheap.nd (qe_call G_ltake (hr.mono dC) (by rfl) T.m_ltake T.F_ltake.kp T.n_ltake (qm_bo 6 (qm_ex (qe_s (qb_op o_shl qb_int (qb_v 3))) qm_nil))))
   (qss_one (qs_expr (qe_appV 7 (lc_e ["_law_script", "_law_start", "_law_n", "_law_many", "_law_views", "_law_name", "_law_pile_here", "_law_row", "_law_turn", "_law_mask", "_law_coin"] (qi_r1 (by rfl) T.b_range (qa_cons (qe_s (qb_v 3)) qa_nil)) (fun _ _ _ _ _ => by exact (qg_name 10 (show List.Nodup (["_law_script", "_law_start", "_law_n", "_law_many", "_law_views", "_law_name", "_law_pile_here", "_law_row", "_law_turn", "_law_mask", "_law_coin"] : List Str) by decide +kernel))) (fun _ _ _ _ _ => by exact (qif_one (qt_cmp (o_eq hu) (qe_s (qb_op o_and (qb_op o_shr (qb_v 9) (qb_v 10)) qb_int)) (qe_s qb_int) (nomark _)))) (fun _ _ _ _ _ => by exact (qe_s (qb_v 10)))))))) PassesOwn.never)
   (qss_one (qs_expr (qe_appV 4 (qe_mv 7))))))) PassesOwn.never)
   (qss_one (qs_ret (qe_tup (qa_cons (qe_s (qb_v 3)) (qa_cons (qe_mv 4) qa_nil))))))))
theorem ok_lorder (T : Tx t) : FnOk P w K mg base CX0 3 t.a_lorder t.d_lorder ["_law_pile_here", "_law_n"] (spD K 2 g_lorder) := by
 have G_ltake := ok_ltake (P := P) (w := w) (base := base) T;refine fn_D (N := ["_law_pile_here", "_law_n", "_law_left", "_law_found"]) (W := [2, 3]) T.F_lorder sc_lorder dC fun cdv A outer s H E hr => ?_
 have hu := hr.units;exact (qss_cons (qs_set 2 sc_lorder.nd (qe_listR (by rfl) T.b_list (by rfl) T.b_range (qe_s (qb_v 1))))
   (qss_cons (qs_set 3 sc_lorder.nd (qe_lst qa_nil))
   (qss_cons (qs_while (fuel := f_lorder) (qt_cmpB (o_ne hu) (qb_v 2) (qb_lst qba_nil) (nomark _)) (qss_one (qs_expr (qe_appV 3 (qe_popAt 2 (qe_call G_ltake (hr.mono dC) (by rfl) T.m_ltake T.F_ltake.kp T.n_ltake (qm_bo 0 (qm_ex (qe_s (qb_fn (id := "len") c_len (by rfl) T.b_len (by decide +kernel) (qba_cons (qb_v 2) qba_nil))) qm_nil))))))) PassesOwn.never)
   (qss_one (qs_ret (qe_mv 3))))))
theorem ok_coin_table (T : Tx t) : FnOk P w K mg base CX0 4 t.a_coin_table t.d_coin_table ["heap"] (spD K 1 g_coin_table) := by
 have G_all_names := ok_all_names (P := P) (w := w) (base := base) T;have G_rank_of := ok_rank_of (P := P) (w := w) (base := base) T;have G_views_of := ok_views_of (P := P) (w := w) (base := base) T;refine fn_D (N := ["heap"]) (W := []) T.F_coin_table sc_coin_table dC fun cdv A outer s H E hr => ?_
 have hu := hr.units;exact (qss_one (qs_ret (lc_e ["heap", "group"] (qi_r2 (by rfl) T.b_range (qa_cons (qe_s qb_int) (qa_cons (qe_op o_add (qe_call G_all_names (hr.mono dC) (by rfl) T.m_all_names T.F_all_names.kp T.n_all_names (qm_ex (qe_s (qb_fn (id := "len") c_len (by rfl) T.b_len (by decide +kernel) (qba_cons (qb_ix (hs := plainC) (qb_v 0) qb_int) qba_nil))) qm_nil)) (qe_s qb_int)) qa_nil))) (fun _ _ _ _ _ => by exact (qg_name 1 (show List.Nodup (["heap", "group"] : List Str) by decide +kernel))) (fun _ _ _ _ _ => by exact qif_nil) (fun _ _ _ _ _ => by exact (qe_call G_rank_of (hr.mono dC) (by rfl) T.m_rank_of T.F_rank_of.kp T.n_rank_of (qm_ex (qe_call G_views_of (hr.mono dC) (by rfl) T.m_views_of T.F_views_of.kp T.n_views_of (qm_bo 0 (qm_bo 1 qm_nil))) qm_nil))))))
theorem ok_four_row (T : Tx t) : FnOk P w K mg base CX0 4 t.a_four_row t.d_four_row ["i", "j", "k", "l"] (spD K 4 g_four_row) := by
 have G_shared_row := ok_shared_row (P := P) (w := w) (base := base) T;refine fn_D (N := ["i", "j", "k", "l", "by_k", "by_l", "both", "whole"]) (W := [4, 5, 6, 7]) T.F_four_row sc_four_row dC fun cdv A outer s H E hr => ?_
 have hu := hr.units;exact (qss_cons (qs_set 4 sc_four_row.nd (qe_call G_shared_row (hr.mono dC) (by rfl) T.m_shared_row T.F_shared_row.kp T.n_shared_row (qm_ex (qe_s (qb_glob (by rfl) T.c_NAMES)) (qm_ex (qe_s (qb_op o_shl qb_int (qb_v 0))) (qm_ex (qe_s (qb_op o_shl qb_int (qb_v 1))) (qm_ex (qe_s (qb_op o_shl qb_int (qb_v 2))) qm_nil))))))
   (qss_cons (qs_set 5 sc_four_row.nd (qe_call G_shared_row (hr.mono dC) (by rfl) T.m_shared_row T.F_shared_row.kp T.n_shared_row (qm_ex (qe_s (qb_glob (by rfl) T.c_NAMES)) (qm_ex (qe_s (qb_op o_shl qb_int (qb_v 0))) (qm_ex (qe_s (qb_op o_shl qb_int (qb_v 1))) (qm_ex (qe_s (qb_op o_shl qb_int (qb_v 3))) qm_nil))))))
   (qss_cons (qs_set 6 sc_four_row.nd (qe_call G_shared_row (hr.mono dC) (by rfl) T.m_shared_row T.F_shared_row.kp T.n_shared_row (qm_ex (qe_s (qb_glob (by rfl) T.c_NAMES)) (qm_ex (qe_s (qb_op o_shl qb_int (qb_v 2))) (qm_ex (qe_s (qb_op o_shl qb_int (qb_v 3))) (qm_ex (qe_s qb_int) qm_nil))))))
   (qss_cons (qs_set 7 sc_four_row.nd (qe_call G_shared_row (hr.mono dC) (by rfl) T.m_shared_row T.F_shared_row.kp T.n_shared_row (qm_ex (qe_s (qb_glob (by rfl) T.c_NAMES)) (qm_ex (qe_s (qb_op o_shl qb_int (qb_v 0))) (qm_ex (qe_s (qb_op o_shl qb_int (qb_v 1))) (qm_ex (qe_s qb_int) qm_nil))))))
   (qss_one (qs_ret (lc_e ["i", "j", "k", "l", "by_k", "by_l", "both", "whole", "a", "b", "c", "d"] (qi_zip4 (by rfl) T.b_zip (qe_cp 4) (qe_cp 5) (qe_cp 6) (qe_cp 7)) (fun _ _ _ _ _ => by exact (qg_tup (by rfl) (qgs_cons (qg_name 8 (show List.Nodup (["i", "j", "k", "l", "by_k", "by_l", "both", "whole", "a", "b", "c", "d"] : List Str) by decide +kernel)) (qgs_cons (qg_name 9 (show List.Nodup (["i", "j", "k", "l", "by_k", "by_l", "both", "whole", "a", "b", "c", "d"] : List Str) by decide +kernel)) (qgs_cons (qg_name 10 (show List.Nodup (["i", "j", "k", "l", "by_k", "by_l", "both", "whole", "a", "b", "c", "d"] : List Str) by decide +kernel)) (qgs_cons (qg_name 11 (show List.Nodup (["i", "j", "k", "l", "by_k", "by_l", "both", "whole", "a", "b", "c", "d"] : List Str) by decide +kernel)) qgs_nil)))))) (fun _ _ _ _ _ => by exact qif_nil) (fun _ _ _ _ _ => by exact (qe_s (qb_op o_sub (qb_op o_add (qb_op o_add (qb_v 8) (qb_v 9)) (qb_v 10)) (qb_v 11)))))))))))
theorem ok_grown_by (T : Tx t) : FnOk P w K mg base CX0 4 t.a_grown_by t.d_grown_by ["heap", "name", "views"] (spD K 3 g_grown_by) := by
 have G_rank_of := ok_rank_of (P := P) (w := w) (base := base) T;refine fn_D (N := ["heap", "name", "views"]) (W := []) T.F_grown_by sc_grown_by dC fun cdv A outer s H E hr => ?_
 have hu := hr.units;exact (qss_one (qs_ret (qe_op o_sub (qe_call G_rank_of (hr.mono dC) (by rfl) T.m_rank_of T.F_rank_of.kp T.n_rank_of (qm_ex (qe_catF (qe_ix (qe_ix (qe_cp 0) (qe_s qb_int)) (qe_s (qb_v 1))) (qe_cp 2)) qm_nil)) (qe_call G_rank_of (hr.mono dC) (by rfl) T.m_rank_of T.F_rank_of.kp T.n_rank_of (qm_ex (qe_ix (qe_ix (qe_cp 0) (qe_s qb_int)) (qe_s (qb_v 1))) qm_nil)))))
theorem ok_four_shown (T : Tx t) : FnOk P w K mg base CX0 5 t.a_four_shown t.d_four_shown ["heap", "i", "j", "k", "l"] (spD K 5 g_four_shown) := by
 have G_coin_table := ok_coin_table (P := P) (w := w) (base := base) T;have G_common_views := ok_common_views (P := P) (w := w) (base := base) T;have G_grown_by := ok_grown_by (P := P) (w := w) (base := base) T;have G_shared_row := ok_shared_row (P := P) (w := w) (base := base) T;have G_value := ok_value (P := P) (w := w) (base := base) T;refine fn_D (N := ["heap", "i", "j", "k", "l", "views", "both"]) (W := [5, 6]) T.F_four_shown sc_four_shown dC fun cdv A outer s H E hr => ?_
 have hu := hr.units;exact (qss_cons (qs_set 5 sc_four_shown.nd (qe_call G_common_views (hr.mono dC) (by rfl) T.m_common_views T.F_common_views.kp T.n_common_views (qm_bo 0 (qm_ex (qe_s (qb_op o_shl qb_int (qb_v 1))) (qm_ex (qe_s (qb_op o_shl qb_int (qb_v 2))) qm_nil)))))
   (qss_cons (qs_set 6 sc_four_shown.nd (qe_call G_value (hr.mono dC) (by rfl) T.m_value T.F_value.kp T.n_value (qm_ex (qe_call G_shared_row (hr.mono dC) (by rfl) T.m_shared_row T.F_shared_row.kp T.n_shared_row (qm_ex (qe_s (qb_glob (by rfl) T.c_NAMES)) (qm_ex (qe_s (qb_op o_shl qb_int (qb_v 3))) (qm_ex (qe_s (qb_op o_shl qb_int (qb_v 4))) (qm_ex (qe_s qb_int) qm_nil))))) (qm_ex (qe_call G_coin_table (hr.mono dC) (by rfl) T.m_coin_table T.F_coin_table.kp T.n_coin_table (qm_bo 0 qm_nil)) qm_nil))))
   (qss_one (qs_ret (qe_tup (qa_cons (qe_cp 5) (qa_cons (qe_tup (qa_cons (qe_s (qb_fn (id := "len") c_len (by rfl) T.b_len (by decide +kernel) (qba_cons (qb_v 5) qba_nil))) (qa_cons (qe_call G_grown_by (hr.mono dC) (by rfl) T.m_grown_by T.F_grown_by.kp T.n_grown_by (qm_bo 0 (qm_bo 3 (qm_bo 5 qm_nil)))) (qa_cons (qe_call G_grown_by (hr.mono dC) (by rfl) T.m_grown_by T.F_grown_by.kp T.n_grown_by (qm_bo 0 (qm_bo 4 (qm_bo 5 qm_nil)))) (qa_cons (qe_s (qb_v 6)) qa_nil))))) qa_nil)))))))
theorem ok_lbeside (T : Tx t) : FnOk P w K mg base CX0 6 t.a_lbeside t.d_lbeside ["_law_script", "_law_start", "_law_order_here"] (spD K 3 g_lbeside) := by
 have G_lheap := ok_lheap (P := P) (w := w) (base := base) T;have G_beside := ok_beside (P := P) (w := w) (base := base) T;have G_coin_table := ok_coin_table (P := P) (w := w) (base := base) T;have G_four_row := ok_four_row (P := P) (w := w) (base := base) T;have G_four_shown := ok_four_shown (P := P) (w := w) (base := base) T;have G_value := ok_value (P := P) (w := w) (base := base) T;refine fn_D (N := ["_law_script", "_law_start", "_law_order_here", "_law_i", "_law_j", "_law_k", "_law_l", "_law_one", "_law_other", "_law_row", "_law_both", "_law_first", "_law_second"]) (W := [3, 4, 5, 6, 7, 8, 9, 10, 11, 12]) T.F_lbeside sc_lbeside dC fun cdv A outer s H E hr => ?_
 have hu := hr.units;exact (qss_cons (qs_asg (qe_mv 2) (qg_tupL (by rfl) (qgs_cons (qg_name 3 sc_lbeside.nd) (qgs_cons (qg_name 4 sc_lbeside.nd) (qgs_cons (qg_name 5 sc_lbeside.nd) (qgs_cons (qg_name 6 sc_lbeside.nd) qgs_nil))))))
   (qss_cons (qs_set 7 sc_lbeside.nd (qe_call G_lheap (hr.mono dC) (by rfl) T.m_lheap T.F_lheap.kp T.n_lheap (qm_bo 0 (qm_bo 1 (qm_ex (qe_s qb_int) qm_nil)))))
   (qss_cons (qs_set 8 sc_lbeside.nd (qe_call G_lheap (hr.mono dC) (by rfl) T.m_lheap T.F_lheap.kp T.n_lheap (qm_bo 0 (qm_ex (qe_s (qb_op o_add (qb_v 1) qb_int)) (qm_ex (qe_s qb_int) qm_nil)))))
   (qss_cons (qs_set 9 sc_lbeside.nd (qe_call G_four_row (hr.mono dC) (by rfl) T.m_four_row T.F_four_row.kp T.n_four_row (qm_bo 3 (qm_bo 4 (qm_bo 5 (qm_bo 6 qm_nil))))))
   (qss_cons (qs_set 10 sc_lbeside.nd (qe_call G_beside (hr.mono dC) (by rfl) T.m_beside T.F_beside.kp T.n_beside (qm_bo 7 (qm_bo 8 qm_nil))))
   (qss_cons (qs_if (qt_cmp (o_ne hu) (qe_call G_value (hr.mono dC) (by rfl) T.m_value T.F_value.kp T.n_value (qm_bo 9 (qm_ex (qe_call G_coin_table (hr.mono dC) (by rfl) T.m_coin_table T.F_coin_table.kp T.n_coin_table (qm_bo 10 qm_nil)) qm_nil))) (qe_op o_add (qe_call G_value (hr.mono dC) (by rfl) T.m_value T.F_value.kp T.n_value (qm_bo 9 (qm_ex (qe_call G_coin_table (hr.mono dC) (by rfl) T.m_coin_table T.F_coin_table.kp T.n_coin_table (qm_bo 7 qm_nil)) qm_nil))) (qe_call G_value (hr.mono dC) (by rfl) T.m_value T.F_value.kp T.n_value (qm_bo 9 (qm_ex (qe_call G_coin_table (hr.mono dC) (by rfl) T.m_coin_table T.F_coin_table.kp T.n_coin_table (qm_bo 8 qm_nil)) qm_nil)))) (nomark _)) qss_never qss_nil)
   (qss_cons (qs_set 11 sc_lbeside.nd (qe_ix (qe_call G_four_shown (hr.mono dC) (by rfl) T.m_four_shown T.F_four_shown.kp T.n_four_shown (qm_bo 7 (qm_bo 3 (qm_bo 4 (qm_bo 5 (qm_bo 6 qm_nil)))))) (qe_s qb_int)))
   (qss_cons (qs_set 12 sc_lbeside.nd (qe_ix (qe_call G_four_shown (hr.mono dC) (by rfl) T.m_four_shown T.F_four_shown.kp T.n_four_shown (qm_bo 8 (qm_bo 3 (qm_bo 4 (qm_bo 5 (qm_bo 6 qm_nil)))))) (qe_s qb_int)))
   (qss_one (qs_ret (qe_cmp (o_eq hu) (qe_ix (qe_call G_four_shown (hr.mono dC) (by rfl) T.m_four_shown T.F_four_shown.kp T.n_four_shown (qm_bo 10 (qm_bo 3 (qm_bo 4 (qm_bo 5 (qm_bo 6 qm_nil)))))) (qe_s qb_int)) (qe_tuL (by rfl) T.b_tuple (by decide +kernel) (lc_e ["_law_script", "_law_start", "_law_order_here", "_law_i", "_law_j", "_law_k", "_law_l", "_law_one", "_law_other", "_law_row", "_law_both", "_law_first", "_law_second", "_law_here", "_law_there"] (qi_zip2 (by rfl) T.b_zip (qe_cp 11) (qe_cp 12)) (fun _ _ _ _ _ => by exact (qg_tup (by rfl) (qgs_cons (qg_name 13 (show List.Nodup (["_law_script", "_law_start", "_law_order_here", "_law_i", "_law_j", "_law_k", "_law_l", "_law_one", "_law_other", "_law_row", "_law_both", "_law_first", "_law_second", "_law_here", "_law_there"] : List Str) by decide +kernel)) (qgs_cons (qg_name 14 (show List.Nodup (["_law_script", "_law_start", "_law_order_here", "_law_i", "_law_j", "_law_k", "_law_l", "_law_one", "_law_other", "_law_row", "_law_both", "_law_first", "_law_second", "_law_here", "_law_there"] : List Str) by decide +kernel)) qgs_nil)))) (fun _ _ _ _ _ => by exact qif_nil) (fun _ _ _ _ _ => by exact (qe_s (qb_op o_add (qb_v 13) (qb_v 14)))))) (nomark _))))))))))))
theorem ok_law (T : Tx t) {f : Addr} {fd : FuncData} (F : Fun K "law" "law" s_law f fd) : FnOk P w K mg base CX0 7 f fd ["_law_script"] (spD K 1 g_law) := by
 have G_lbeside := ok_lbeside (P := P) (w := w) (base := base) T;have G_lcalled := ok_lcalled (P := P) (w := w) (base := base) T;have G_lnumber := ok_lnumber (P := P) (w := w) (base := base) T;have G_lorder := ok_lorder (P := P) (w := w) (base := base) T;have G_lpile := ok_lpile (P := P) (w := w) (base := base) T;have G_four_row := ok_four_row (P := P) (w := w) (base := base) T;have G_four_table := ok_four_table (P := P) (w := w) (base := base) T;have G_value := ok_value (P := P) (w := w) (base := base) T;refine fn_D (N := ["_law_script", "_law_turn", "_law_i", "_law_j", "_law_k", "_law_l", "_law_row", "_law_order_here", "_law_table", "_law_called_here"]) (W := [1, 2, 3, 4, 5, 6, 7, 8, 9]) F sc_law dC fun cdv A outer s H E hr => ?_
 have hu := hr.units;exact (qss_cons (qs_forI (by rfl) (qi_r1 (by rfl) T.b_range (qa_cons (qe_s qb_int) qa_nil)) (qg_name 1 sc_law.nd) (qss_cons (qs_asg (qe_call G_lorder (hr.mono dC) (by rfl) T.m_lorder T.F_lorder.kp T.n_lorder (qm_ex (qe_call G_lpile (hr.mono dC) (by rfl) T.m_lpile T.F_lpile.kp T.n_lpile (qm_bo 0 (qm_ex (qe_s (qb_op o_mul qb_int (qb_v 1))) qm_nil))) (qm_ex (qe_s qb_int) qm_nil))) (qg_tupL (by rfl) (qgs_cons (qg_name 2 sc_law.nd) (qgs_cons (qg_name 3 sc_law.nd) (qgs_cons (qg_name 4 sc_law.nd) (qgs_cons (qg_name 5 sc_law.nd) qgs_nil))))))
   (qss_cons (qs_set 6 sc_law.nd (qe_call G_four_row (hr.mono dC) (by rfl) T.m_four_row T.F_four_row.kp T.n_four_row (qm_bo 2 (qm_bo 3 (qm_bo 4 (qm_bo 5 qm_nil))))))
   (qss_cons (qs_if (qw_t (qw_or (qt_cmpR (o_ne hu) (qe_call G_four_row (hr.mono dC) (by rfl) T.m_four_row T.F_four_row.kp T.n_four_row (qm_bo 3 (qm_bo 2 (qm_bo 4 (qm_bo 5 qm_nil))))) (qb_v 6) (nomark _)) (qw_or1 (qt_cmpR (o_ne hu) (qe_call G_four_row (hr.mono dC) (by rfl) T.m_four_row T.F_four_row.kp T.n_four_row (qm_bo 2 (qm_bo 3 (qm_bo 5 (qm_bo 4 qm_nil))))) (qb_v 6) (nomark _))))) qss_never qss_nil)
   (qss_cons (qs_if (qt_cmp (o_ne hu) (qe_call G_four_table (hr.mono dC) (by rfl) T.m_four_table T.F_four_table.kp T.n_four_table (qm_bo 3 (qm_bo 2 (qm_bo 4 (qm_bo 5 qm_nil))))) (qe_call G_four_table (hr.mono dC) (by rfl) T.m_four_table T.F_four_table.kp T.n_four_table (qm_bo 2 (qm_bo 3 (qm_bo 5 (qm_bo 4 qm_nil))))) (nomark _)) qss_never qss_nil)
   (qss_cons (qs_set 7 sc_law.nd (qe_call G_lorder (hr.mono dC) (by rfl) T.m_lorder T.F_lorder.kp T.n_lorder (qm_ex (qe_call G_lpile (hr.mono dC) (by rfl) T.m_lpile T.F_lpile.kp T.n_lpile (qm_bo 0 (qm_ex (qe_s (qb_op o_add (qb_op o_mul qb_int (qb_v 1)) qb_int)) qm_nil))) (qm_ex (qe_s qb_int) qm_nil))))
   (qss_cons (lc_s 8 ["_law_script", "_law_turn", "_law_i", "_law_j", "_law_k", "_law_l", "_law_row", "_law_order_here", "_law_table", "_law_called_here", "_law_g"] sc_law.nd (qi_r1 (by rfl) T.b_range (qa_cons (qe_s qb_int) qa_nil)) (fun _ _ _ _ _ => by exact (qg_name 10 (show List.Nodup (["_law_script", "_law_turn", "_law_i", "_law_j", "_law_k", "_law_l", "_law_row", "_law_order_here", "_law_table", "_law_called_here", "_law_g"] : List Str) by decide +kernel))) (fun _ _ _ _ _ => by exact qif_nil) (fun _ _ _ _ _ => by exact (qe_call G_lnumber (hr.mono dC) (by rfl) T.m_lnumber T.F_lnumber.kp T.n_lnumber (qm_ex (qe_call G_lpile (hr.mono dC) (by rfl) T.m_lpile T.F_lpile.kp T.n_lpile (qm_bo 0 (qm_ex (qe_s (qb_op o_add (qb_op o_mul qb_int (qb_v 1)) (qb_v 10))) qm_nil))) qm_nil))))
   (qss_cons (qs_set 9 sc_law.nd (qe_call G_four_row (hr.mono dC) (by rfl) T.m_four_row T.F_four_row.kp T.n_four_row (qm_ex (qe_s (qb_ix (qb_v 7) (qb_v 2))) (qm_ex (qe_s (qb_ix (qb_v 7) (qb_v 3))) (qm_ex (qe_s (qb_ix (qb_v 7) (qb_v 4))) (qm_ex (qe_s (qb_ix (qb_v 7) (qb_v 5))) qm_nil))))))
   (qss_cons (qs_if (qt_cmp (o_ne hu) (qe_call G_value (hr.mono dC) (by rfl) T.m_value T.F_value.kp T.n_value (qm_bo 9 (qm_ex (qe_call G_lcalled (hr.mono dC) (by rfl) T.m_lcalled T.F_lcalled.kp T.n_lcalled (qm_bo 8 (qm_bo 7 qm_nil))) qm_nil))) (qe_call G_value (hr.mono dC) (by rfl) T.m_value T.F_value.kp T.n_value (qm_bo 6 (qm_bo 8 qm_nil))) (nomark _)) qss_never qss_nil)
   (qss_one (qs_if (qt_not (qt_e (qe_call G_lbeside (hr.mono dC) (by rfl) T.m_lbeside T.F_lbeside.kp T.n_lbeside (qm_bo 0 (qm_ex (qe_s (qb_op o_mul qb_int (qb_v 1))) (qm_ex (qe_lst (qa_cons (qe_s (qb_v 2)) (qa_cons (qe_s (qb_v 3)) (qa_cons (qe_s (qb_v 4)) (qa_cons (qe_s (qb_v 5)) qa_nil))))) qm_nil)))))) qss_never qss_nil)))))))))) PassesOwn.never)
   (qss_one (qs_ret (qe_s qb_bl))))
end
noncomputable abbrev NSq (K : PySem.W.Frag) (x : Str) (f : Addr) : Prop := nsIn K mainGlobals x = some (some (.ref f))
noncomputable abbrev CIq (K : PySem.W.Frag) (c : Value) (x : Str) : Prop := codeIn K c x = true
noncomputable abbrev KIq (K : PySem.W.Frag) (f : Addr) : Prop := keepIn K (.ref f) = true
noncomputable abbrev Fdq (x : Str) (s : Stmt) (k d p : Value) (a : Option Addr) (c t : Value) : FuncData := fnOf x x (defArgs s) (defBody s) (defScope s) .none k d p a c t
noncomputable abbrev LKq (K : PySem.W.Frag) (f : Addr) (o : Value) (d : Option Addr) (F : FuncData) (s : Array (Option Value)) : Prop := K.lookup f = some ⟨o, d, .func F, s⟩
theorem all_mk {l : PySem.W.OpenLaw} {w : World} {K : PySem.W.Frag} {h : Heap} {mg : Str -> Option Value} {fa : Addr} (X : K.In h) (G : h.Ns mainGlobals mg) (hfa : mg "law" = some (.ref fa))
 {f0 f1 f2 f3 f4 f5 f6 f7 f8 f9 f10 f11 f12 f13 f14 f15 f16 f17 f18 f19 f20 f21 f22 f23 f24 f25 f26 f27 f28 : Addr} {od0 an0 od1 an1 od2 an2 od3 an3 od4 an4 od5 an5 od6 an6 od7 an7 od8 an8 od9 an9 od10 an10 od11 an11 od12 an12 od13 an13 od14 an14 od15 an15 od16 an16 od17 an17 od18 an18 od19 an19 od20 an20 od21 an21 od22 an22 od23 an23 od24 an24 od25 an25 od26 an26 od27 an27 od28 an28 : Option Addr} {sl0 sl1 sl2 sl3 sl4 sl5 sl6 sl7 sl8 sl9 sl10 sl11 sl12 sl13 sl14 sl15 sl16 sl17 sl18 sl19 sl20 sl21 sl22 sl23 sl24 sl25 sl26 sl27 sl28 : Array (Option Value)} {oc0 kV0 dc0 pm0 cd0 ct0 oc1 kV1 dc1 pm1 cd1 ct1 oc2 kV2 dc2 pm2 cd2 ct2 oc3 kV3 dc3 pm3 cd3 ct3 oc4 kV4 dc4 pm4 cd4 ct4 oc5 kV5 dc5 pm5 cd5 ct5 oc6 kV6 dc6 pm6 cd6 ct6 oc7 kV7 dc7 pm7 cd7 ct7 oc8 kV8 dc8 pm8 cd8 ct8 oc9 kV9 dc9 pm9 cd9 ct9 oc10 kV10 dc10 pm10 cd10 ct10 oc11 kV11 dc11 pm11 cd11 ct11 oc12 kV12 dc12 pm12 cd12 ct12 oc13 kV13 dc13 pm13 cd13 ct13 oc14 kV14 dc14 pm14 cd14 ct14 oc15 kV15 dc15 pm15 cd15 ct15 oc16 kV16 dc16 pm16 cd16 ct16 oc17 kV17 dc17 pm17 cd17 ct17 oc18 kV18 dc18 pm18 cd18 ct18 oc19 kV19 dc19 pm19 cd19 ct19 oc20 kV20 dc20 pm20 cd20 ct20 oc21 kV21 dc21 pm21 cd21 ct21 oc22 kV22 dc22 pm22 cd22 ct22 oc23 kV23 dc23 pm23 cd23 ct23 oc24 kV24 dc24 pm24 cd24 ct24 oc25 kV25 dc25 pm25 cd25 ct25 oc26 kV26 dc26 pm26 cd26 ct26 oc27 kV27 dc27 pm27 cd27 ct27 oc28 kV28 dc28 pm28 cd28 ct28 : Value}
  (a0 : NSq K "all_names" f0) (l0 : LKq K f0 oc0 od0 (Fdq "all_names" s_all_names kV0 dc0 pm0 an0 cd0 ct0) sl0) (c0 : CIq K cd0 "all_names") (k0 : KIq K f0)
  (a1 : NSq K "value" f1) (l1 : LKq K f1 oc1 od1 (Fdq "value" s_value kV1 dc1 pm1 an1 cd1 ct1) sl1) (c1 : CIq K cd1 "value") (k1 : KIq K f1)
  (a2 : NSq K "names_in" f2) (l2 : LKq K f2 oc2 od2 (Fdq "names_in" s_names_in kV2 dc2 pm2 an2 cd2 ct2) sl2) (c2 : CIq K cd2 "names_in") (k2 : KIq K f2)
  (a3 : NSq K "mask_of" f3) (l3 : LKq K f3 oc3 od3 (Fdq "mask_of" s_mask_of kV3 dc3 pm3 an3 cd3 ct3) sl3) (c3 : CIq K cd3 "mask_of") (k3 : KIq K f3)
  (a4 : NSq K "less_lines" f4) (l4 : LKq K f4 oc4 od4 (Fdq "less_lines" s_less_lines kV4 dc4 pm4 an4 cd4 ct4) sl4) (c4 : CIq K cd4 "less_lines") (k4 : KIq K f4)
  (a5 : NSq K "with_line" f5) (l5 : LKq K f5 oc5 od5 (Fdq "with_line" s_with_line kV5 dc5 pm5 an5 cd5 ct5) sl5) (c5 : CIq K cd5 "with_line") (k5 : KIq K f5)
  (a6 : NSq K "moved_views" f6) (l6 : LKq K f6 oc6 od6 (Fdq "moved_views" s_moved_views kV6 dc6 pm6 an6 cd6 ct6) sl6) (c6 : CIq K cd6 "moved_views") (k6 : KIq K f6)
  (a7 : NSq K "_law_mixed" f7) (l7 : LKq K f7 oc7 od7 (Fdq "_law_mixed" s_lmixed kV7 dc7 pm7 an7 cd7 ct7) sl7) (c7 : CIq K cd7 "_law_mixed") (k7 : KIq K f7)
  (a8 : NSq K "_law_pile" f8) (l8 : LKq K f8 oc8 od8 (Fdq "_law_pile" s_lpile kV8 dc8 pm8 an8 cd8 ct8) sl8) (c8 : CIq K cd8 "_law_pile") (k8 : KIq K f8)
  (a9 : NSq K "_law_called" f9) (l9 : LKq K f9 oc9 od9 (Fdq "_law_called" s_lcalled kV9 dc9 pm9 an9 cd9 ct9) sl9) (c9 : CIq K cd9 "_law_called") (k9 : KIq K f9)
  (a10 : NSq K "row_of_terms" f10) (l10 : LKq K f10 oc10 od10 (Fdq "row_of_terms" s_row_of_terms kV10 dc10 pm10 an10 cd10 ct10) sl10) (c10 : CIq K cd10 "row_of_terms") (k10 : KIq K f10)
  (a11 : NSq K "views_of" f11) (l11 : LKq K f11 oc11 od11 (Fdq "views_of" s_views_of kV11 dc11 pm11 an11 cd11 ct11) sl11) (c11 : CIq K cd11 "views_of") (k11 : KIq K f11)
  (a12 : NSq K "lines_of" f12) (l12 : LKq K f12 oc12 od12 (Fdq "lines_of" s_lines_of kV12 dc12 pm12 an12 cd12 ct12) sl12) (c12 : CIq K cd12 "lines_of") (k12 : KIq K f12)
  (a13 : NSq K "beside" f13) (l13 : LKq K f13 oc13 od13 (Fdq "beside" s_beside kV13 dc13 pm13 an13 cd13 ct13) sl13) (c13 : CIq K cd13 "beside") (k13 : KIq K f13)
  (a14 : NSq K "four_number" f14) (l14 : LKq K f14 oc14 od14 (Fdq "four_number" s_four_number kV14 dc14 pm14 an14 cd14 ct14) sl14) (c14 : CIq K cd14 "four_number") (k14 : KIq K f14)
  (a15 : NSq K "_law_take" f15) (l15 : LKq K f15 oc15 od15 (Fdq "_law_take" s_ltake kV15 dc15 pm15 an15 cd15 ct15) sl15) (c15 : CIq K cd15 "_law_take") (k15 : KIq K f15)
  (a16 : NSq K "shared_row" f16) (l16 : LKq K f16 oc16 od16 (Fdq "shared_row" s_shared_row kV16 dc16 pm16 an16 cd16 ct16) sl16) (c16 : CIq K cd16 "shared_row") (k16 : KIq K f16)
  (a17 : NSq K "rank_of" f17) (l17 : LKq K f17 oc17 od17 (Fdq "rank_of" s_rank_of kV17 dc17 pm17 an17 cd17 ct17) sl17) (c17 : CIq K cd17 "rank_of") (k17 : KIq K f17)
  (a18 : NSq K "common_views" f18) (l18 : LKq K f18 oc18 od18 (Fdq "common_views" s_common_views kV18 dc18 pm18 an18 cd18 ct18) sl18) (c18 : CIq K cd18 "common_views") (k18 : KIq K f18)
  (a19 : NSq K "four_table" f19) (l19 : LKq K f19 oc19 od19 (Fdq "four_table" s_four_table kV19 dc19 pm19 an19 cd19 ct19) sl19) (c19 : CIq K cd19 "four_table") (k19 : KIq K f19)
  (a20 : NSq K "_law_number" f20) (l20 : LKq K f20 oc20 od20 (Fdq "_law_number" s_lnumber kV20 dc20 pm20 an20 cd20 ct20) sl20) (c20 : CIq K cd20 "_law_number") (k20 : KIq K f20)
  (a21 : NSq K "_law_heap" f21) (l21 : LKq K f21 oc21 od21 (Fdq "_law_heap" s_lheap kV21 dc21 pm21 an21 cd21 ct21) sl21) (c21 : CIq K cd21 "_law_heap") (k21 : KIq K f21)
  (a22 : NSq K "_law_order" f22) (l22 : LKq K f22 oc22 od22 (Fdq "_law_order" s_lorder kV22 dc22 pm22 an22 cd22 ct22) sl22) (c22 : CIq K cd22 "_law_order") (k22 : KIq K f22)
  (a23 : NSq K "coin_table" f23) (l23 : LKq K f23 oc23 od23 (Fdq "coin_table" s_coin_table kV23 dc23 pm23 an23 cd23 ct23) sl23) (c23 : CIq K cd23 "coin_table") (k23 : KIq K f23)
  (a24 : NSq K "four_row" f24) (l24 : LKq K f24 oc24 od24 (Fdq "four_row" s_four_row kV24 dc24 pm24 an24 cd24 ct24) sl24) (c24 : CIq K cd24 "four_row") (k24 : KIq K f24)
  (a25 : NSq K "grown_by" f25) (l25 : LKq K f25 oc25 od25 (Fdq "grown_by" s_grown_by kV25 dc25 pm25 an25 cd25 ct25) sl25) (c25 : CIq K cd25 "grown_by") (k25 : KIq K f25)
  (a26 : NSq K "four_shown" f26) (l26 : LKq K f26 oc26 od26 (Fdq "four_shown" s_four_shown kV26 dc26 pm26 an26 cd26 ct26) sl26) (c26 : CIq K cd26 "four_shown") (k26 : KIq K f26)
  (a27 : NSq K "_law_beside" f27) (l27 : LKq K f27 oc27 od27 (Fdq "_law_beside" s_lbeside kV27 dc27 pm27 an27 cd27 ct27) sl27) (c27 : CIq K cd27 "_law_beside") (k27 : KIq K f27)
  (a28 : NSq K "law" f28) (l28 : LKq K f28 oc28 od28 (Fdq "law" s_law kV28 dc28 pm28 an28 cd28 ct28) sl28) (c28 : CIq K cd28 "law") (k28 : KIq K f28)
  (z_abs : nsIn K mainGlobals "abs" = some none)
  (z_enumerate : nsIn K mainGlobals "enumerate" = some none)
  (z_int : nsIn K mainGlobals "int" = some none)
  (z_len : nsIn K mainGlobals "len" = some none)
  (z_list : nsIn K mainGlobals "list" = some none)
  (z_min : nsIn K mainGlobals "min" = some none)
  (z_range : nsIn K mainGlobals "range" = some none)
  (z_sum : nsIn K mainGlobals "sum" = some none)
  (z_tuple : nsIn K mainGlobals "tuple" = some none)
  (z_zip : nsIn K mainGlobals "zip" = some none)
  {t_NAMES : Tok} (v_NAMES : nsIn K mainGlobals "NAMES" = some (some (.int 4 t_NAMES)))
  : ∃ fd : FuncData, (∀ (s : Shared) (v : Value), BindsTo s fd ⟨[v], []⟩ [("_law_script", v)]) /\ ∀ base : Heap, K.In base -> base.Ns mainGlobals mg -> FnOk l.prog w K mg base CX0 7 fa fd ["_law_script"] (spD K 1 g_law) := by
 have e := hfa.symm.trans (mg_of X G a28);cases e;have F0 := fun_mk (st := s_all_names) l0 c0 k0;have b0 := F0.binds (ps := ["n"]) fun _ _ _ _ _ _ us hl => by rcases us with _ | ⟨_, _ | ⟨_, us⟩⟩ <;> first | rfl | (simp at hl) | cases hl
 have F1 := fun_mk (st := s_value) l1 c1 k1;have b1 := F1.binds (ps := ["row", "table"]) fun _ _ _ _ _ _ us hl => by rcases us with _ | ⟨_, _ | ⟨_, _ | ⟨_, us⟩⟩⟩ <;> first | rfl | (simp at hl) | cases hl
 have F2 := fun_mk (st := s_names_in) l2 c2 k2;have b2 := F2.binds (ps := ["n", "group"]) fun _ _ _ _ _ _ us hl => by rcases us with _ | ⟨_, _ | ⟨_, _ | ⟨_, us⟩⟩⟩ <;> first | rfl | (simp at hl) | cases hl
 have F3 := fun_mk (st := s_mask_of) l3 c3 k3;have b3 := F3.binds (ps := ["view"]) fun _ _ _ _ _ _ us hl => by rcases us with _ | ⟨_, _ | ⟨_, us⟩⟩ <;> first | rfl | (simp at hl) | cases hl
 have F4 := fun_mk (st := s_less_lines) l4 c4 k4;have b4 := F4.binds (ps := ["lines", "mask", "made"]) fun _ _ _ _ _ _ us hl => by rcases us with _ | ⟨_, _ | ⟨_, _ | ⟨_, _ | ⟨_, us⟩⟩⟩⟩ <;> first | rfl | (simp at hl) | cases hl
 have F5 := fun_mk (st := s_with_line) l5 c5 k5;have b5 := F5.binds (ps := ["lines", "mask", "made"]) fun _ _ _ _ _ _ us hl => by rcases us with _ | ⟨_, _ | ⟨_, _ | ⟨_, _ | ⟨_, us⟩⟩⟩⟩ <;> first | rfl | (simp at hl) | cases hl
 have F6 := fun_mk (st := s_moved_views) l6 c6 k6;have b6 := F6.binds (ps := ["views", "many"]) fun _ _ _ _ _ _ us hl => by rcases us with _ | ⟨_, _ | ⟨_, _ | ⟨_, us⟩⟩⟩ <;> first | rfl | (simp at hl) | cases hl
 have F7 := fun_mk (st := s_lmixed) l7 c7 k7;have b7 := F7.binds (ps := ["_law_cell", "_law_k"]) fun _ _ _ _ _ _ us hl => by rcases us with _ | ⟨_, _ | ⟨_, _ | ⟨_, us⟩⟩⟩ <;> first | rfl | (simp at hl) | cases hl
 have F8 := fun_mk (st := s_lpile) l8 c8 k8;have b8 := F8.binds (ps := ["_law_script", "_law_k"]) fun _ _ _ _ _ _ us hl => by rcases us with _ | ⟨_, _ | ⟨_, _ | ⟨_, us⟩⟩⟩ <;> first | rfl | (simp at hl) | cases hl
 have F9 := fun_mk (st := s_lcalled) l9 c9 k9;have b9 := F9.binds (ps := ["_law_table", "_law_order_here"]) fun _ _ _ _ _ _ us hl => by rcases us with _ | ⟨_, _ | ⟨_, _ | ⟨_, us⟩⟩⟩ <;> first | rfl | (simp at hl) | cases hl
 have F10 := fun_mk (st := s_row_of_terms) l10 c10 k10;have b10 := F10.binds (ps := ["n", "terms"]) fun _ _ _ _ _ _ us hl => by rcases us with _ | ⟨_, _ | ⟨_, _ | ⟨_, us⟩⟩⟩ <;> first | rfl | (simp at hl) | cases hl
 have F11 := fun_mk (st := s_views_of) l11 c11 k11;have b11 := F11.binds (ps := ["heap", "g"]) fun _ _ _ _ _ _ us hl => by rcases us with _ | ⟨_, _ | ⟨_, _ | ⟨_, us⟩⟩⟩ <;> first | rfl | (simp at hl) | cases hl
 have F12 := fun_mk (st := s_lines_of) l12 c12 k12;have b12 := F12.binds (ps := ["views"]) fun _ _ _ _ _ _ us hl => by rcases us with _ | ⟨_, _ | ⟨_, us⟩⟩ <;> first | rfl | (simp at hl) | cases hl
 have F13 := fun_mk (st := s_beside) l13 c13 k13;have b13 := F13.binds (ps := ["one", "other"]) fun _ _ _ _ _ _ us hl => by rcases us with _ | ⟨_, _ | ⟨_, _ | ⟨_, us⟩⟩⟩ <;> first | rfl | (simp at hl) | cases hl
 have F14 := fun_mk (st := s_four_number) l14 c14 k14;have b14 := F14.binds (ps := ["group", "apart"]) fun _ _ _ _ _ _ us hl => by rcases us with _ | ⟨_, _ | ⟨_, _ | ⟨_, us⟩⟩⟩ <;> first | rfl | (simp at hl) | cases hl
 have F15 := fun_mk (st := s_ltake) l15 c15 k15;have b15 := F15.binds (ps := ["_law_pile_here", "_law_many"]) fun _ _ _ _ _ _ us hl => by rcases us with _ | ⟨_, _ | ⟨_, _ | ⟨_, us⟩⟩⟩ <;> first | rfl | (simp at hl) | cases hl
 have F16 := fun_mk (st := s_shared_row) l16 c16 k16;have b16 := F16.binds (ps := ["n", "a", "b", "c"]) fun _ _ _ _ _ _ us hl => by rcases us with _ | ⟨_, _ | ⟨_, _ | ⟨_, _ | ⟨_, _ | ⟨_, us⟩⟩⟩⟩⟩ <;> first | rfl | (simp at hl) | cases hl
 have F17 := fun_mk (st := s_rank_of) l17 c17 k17;have b17 := F17.binds (ps := ["views"]) fun _ _ _ _ _ _ us hl => by rcases us with _ | ⟨_, _ | ⟨_, us⟩⟩ <;> first | rfl | (simp at hl) | cases hl
 have F18 := fun_mk (st := s_common_views) l18 c18 k18;have b18 := F18.binds (ps := ["heap", "a", "b"]) fun _ _ _ _ _ _ us hl => by rcases us with _ | ⟨_, _ | ⟨_, _ | ⟨_, _ | ⟨_, us⟩⟩⟩⟩ <;> first | rfl | (simp at hl) | cases hl
 have F19 := fun_mk (st := s_four_table) l19 c19 k19;have b19 := F19.binds (ps := ["i", "j", "k", "l"]) fun _ _ _ _ _ _ us hl => by rcases us with _ | ⟨_, _ | ⟨_, _ | ⟨_, _ | ⟨_, _ | ⟨_, us⟩⟩⟩⟩⟩ <;> first | rfl | (simp at hl) | cases hl
 have F20 := fun_mk (st := s_lnumber) l20 c20 k20;have b20 := F20.binds (ps := ["_law_pile_here"]) fun _ _ _ _ _ _ us hl => by rcases us with _ | ⟨_, _ | ⟨_, us⟩⟩ <;> first | rfl | (simp at hl) | cases hl
 have F21 := fun_mk (st := s_lheap) l21 c21 k21;have b21 := F21.binds (ps := ["_law_script", "_law_start", "_law_n"]) fun _ _ _ _ _ _ us hl => by rcases us with _ | ⟨_, _ | ⟨_, _ | ⟨_, _ | ⟨_, us⟩⟩⟩⟩ <;> first | rfl | (simp at hl) | cases hl
 have F22 := fun_mk (st := s_lorder) l22 c22 k22;have b22 := F22.binds (ps := ["_law_pile_here", "_law_n"]) fun _ _ _ _ _ _ us hl => by rcases us with _ | ⟨_, _ | ⟨_, _ | ⟨_, us⟩⟩⟩ <;> first | rfl | (simp at hl) | cases hl
 have F23 := fun_mk (st := s_coin_table) l23 c23 k23;have b23 := F23.binds (ps := ["heap"]) fun _ _ _ _ _ _ us hl => by rcases us with _ | ⟨_, _ | ⟨_, us⟩⟩ <;> first | rfl | (simp at hl) | cases hl
 have F24 := fun_mk (st := s_four_row) l24 c24 k24;have b24 := F24.binds (ps := ["i", "j", "k", "l"]) fun _ _ _ _ _ _ us hl => by rcases us with _ | ⟨_, _ | ⟨_, _ | ⟨_, _ | ⟨_, _ | ⟨_, us⟩⟩⟩⟩⟩ <;> first | rfl | (simp at hl) | cases hl
 have F25 := fun_mk (st := s_grown_by) l25 c25 k25;have b25 := F25.binds (ps := ["heap", "name", "views"]) fun _ _ _ _ _ _ us hl => by rcases us with _ | ⟨_, _ | ⟨_, _ | ⟨_, _ | ⟨_, us⟩⟩⟩⟩ <;> first | rfl | (simp at hl) | cases hl
 have F26 := fun_mk (st := s_four_shown) l26 c26 k26;have b26 := F26.binds (ps := ["heap", "i", "j", "k", "l"]) fun _ _ _ _ _ _ us hl => by rcases us with _ | ⟨_, _ | ⟨_, _ | ⟨_, _ | ⟨_, _ | ⟨_, _ | ⟨_, us⟩⟩⟩⟩⟩⟩ <;> first | rfl | (simp at hl) | cases hl
 have F27 := fun_mk (st := s_lbeside) l27 c27 k27;have b27 := F27.binds (ps := ["_law_script", "_law_start", "_law_order_here"]) fun _ _ _ _ _ _ us hl => by rcases us with _ | ⟨_, _ | ⟨_, _ | ⟨_, _ | ⟨_, us⟩⟩⟩⟩ <;> first | rfl | (simp at hl) | cases hl
 have F28 := fun_mk (st := s_law) l28 c28 k28
 let t : Txt K mg := ⟨f0, Fdq "all_names" s_all_names kV0 dc0 pm0 an0 cd0 ct0, f1, Fdq "value" s_value kV1 dc1 pm1 an1 cd1 ct1, f2, Fdq "names_in" s_names_in kV2 dc2 pm2 an2 cd2 ct2, f3, Fdq "mask_of" s_mask_of kV3 dc3 pm3 an3 cd3 ct3, f4, Fdq "less_lines" s_less_lines kV4 dc4 pm4 an4 cd4 ct4, f5, Fdq "with_line" s_with_line kV5 dc5 pm5 an5 cd5 ct5, f6, Fdq "moved_views" s_moved_views kV6 dc6 pm6 an6 cd6 ct6, f7, Fdq "_law_mixed" s_lmixed kV7 dc7 pm7 an7 cd7 ct7, f8, Fdq "_law_pile" s_lpile kV8 dc8 pm8 an8 cd8 ct8, f9, Fdq "_law_called" s_lcalled kV9 dc9 pm9 an9 cd9 ct9, f10, Fdq "row_of_terms" s_row_of_terms kV10 dc10 pm10 an10 cd10 ct10, f11, Fdq "views_of" s_views_of kV11 dc11 pm11 an11 cd11 ct11, f12, Fdq "lines_of" s_lines_of kV12 dc12 pm12 an12 cd12 ct12, f13, Fdq "beside" s_beside kV13 dc13 pm13 an13 cd13 ct13, f14, Fdq "four_number" s_four_number kV14 dc14 pm14 an14 cd14 ct14, f15, Fdq "_law_take" s_ltake kV15 dc15 pm15 an15 cd15 ct15, f16, Fdq "shared_row" s_shared_row kV16 dc16 pm16 an16 cd16 ct16, f17, Fdq "rank_of" s_rank_of kV17 dc17 pm17 an17 cd17 ct17, f18, Fdq "common_views" s_common_views kV18 dc18 pm18 an18 cd18 ct18, f19, Fdq "four_table" s_four_table kV19 dc19 pm19 an19 cd19 ct19, f20, Fdq "_law_number" s_lnumber kV20 dc20 pm20 an20 cd20 ct20, f21, Fdq "_law_heap" s_lheap kV21 dc21 pm21 an21 cd21 ct21, f22, Fdq "_law_order" s_lorder kV22 dc22 pm22 an22 cd22 ct22, f23, Fdq "coin_table" s_coin_table kV23 dc23 pm23 an23 cd23 ct23, f24, Fdq "four_row" s_four_row kV24 dc24 pm24 an24 cd24 ct24, f25, Fdq "grown_by" s_grown_by kV25 dc25 pm25 an25 cd25 ct25, f26, Fdq "four_shown" s_four_shown kV26 dc26 pm26 an26 cd26 ct26, f27, Fdq "_law_beside" s_lbeside kV27 dc27 pm27 an27 cd27 ct27⟩
 have T : Tx t := ⟨F0, mg_of X G a0, b0, F1, mg_of X G a1, b1, F2, mg_of X G a2, b2, F3, mg_of X G a3, b3, F4, mg_of X G a4, b4, F5, mg_of X G a5, b5, F6, mg_of X G a6, b6, F7, mg_of X G a7, b7, F8, mg_of X G a8, b8, F9, mg_of X G a9, b9, F10, mg_of X G a10, b10, F11, mg_of X G a11, b11, F12, mg_of X G a12, b12, F13, mg_of X G a13, b13, F14, mg_of X G a14, b14, F15, mg_of X G a15, b15, F16, mg_of X G a16, b16, F17, mg_of X G a17, b17, F18, mg_of X G a18, b18, F19, mg_of X G a19, b19, F20, mg_of X G a20, b20, F21, mg_of X G a21, b21, F22, mg_of X G a22, b22, F23, mg_of X G a23, b23, F24, mg_of X G a24, b24, F25, mg_of X G a25, b25, F26, mg_of X G a26, b26, F27, mg_of X G a27, b27, mg_none_of X G z_abs, mg_none_of X G z_enumerate, mg_none_of X G z_int, mg_none_of X G z_len, mg_none_of X G z_list, mg_none_of X G z_min, mg_none_of X G z_range, mg_none_of X G z_sum, mg_none_of X G z_tuple, mg_none_of X G z_zip, ⟨_, mg_of X G v_NAMES⟩⟩;exact ⟨Fdq "law" s_law kV28 dc28 pm28 an28 cd28 ct28, fun s v => .of_eq rfl, fun base _ _ => ok_law T F28⟩
theorem walk {l : PySem.W.OpenLaw} {q : Program} {loose : List Str} {XP : (Str -> Option Value) -> Heap -> Prop} {YP : World -> Heap -> Prop} {d : DefRec} {K : Params -> PySem.W.Frag} (hn : l.most = some 63) (hdf : d.params.defaults = [])
  (hY : ∀ (w : World) (h : Heap), YP w h -> (K w.params).In h) (hg : ∀ ns : List Int, ns.length <= 63 -> ∃ d, g_law [.lst false (ns.map D.int)] = some (.bl true, [d]))
  (F : ∀ (w : World) (mg : Str -> Option Value) (fa : Addr) (h : Heap), (K w.params).In h -> h.Ns mainGlobals mg -> mg d.name = some (.ref fa) ->
   ∃ fd : FuncData, (∀ (s : Shared) (u : Value), BindsTo s fd ⟨[u], []⟩ [("_law_script", u)]) /\ ∀ base : Heap, (K w.params).In base -> base.Ns mainGlobals mg -> FnOk l.prog w (K w.params) mg base CX0 7 fa fd ["_law_script"] (spD (K w.params) 1 g_law)) :
  PySem.W.WalkO q loose XP YP l.row.toRowW d [] (fun f vs => PySem.call f vs) :=
 L2.walk_of (n := 63) (k := 7) (x := "_law_script") (CX := fun _ => CX0) (sp := fun w => spD (K w.params) 1 g_law) hn dC hdf ⟨rfl, by decide, by decide, rfl⟩ hY F (fun _ _ a ns hl _ hS => law_sp (hg ns hl) hS) fun _ _ _ _ _ z => z
end LW
namespace LW
open PySem L2 DD TT
structure S_lpile where
 yscript : List Int
 yk : Int
 ycell : Int
noncomputable def T_lpile : {f : ((List Int) × Int × Unit) -> Option ((List Int) × ((List Int) × Int × Unit)) // JF g_lpile f (Pc (rM rI) (Pc rI Pn)) (rL rI) (Pc (rM rI) (Pc rI Pn))} := ⟨_, by
 exact jf_rt (S := S_lpile) (N := 3) (W := [2, 2]) (c := c_lpile) (Zn := []) (ro := (rL rI)) (Zp := [some ⟨S_lpile.yscript, (rM rI)⟩, some ⟨S_lpile.yk, rI⟩]) (Zr := [some ⟨S_lpile.yscript, (rM rI)⟩, some ⟨S_lpile.yk, rI⟩, none]) (init := (fun p => (⟨p.1, p.2.1, 0⟩ : S_lpile))) (jin_cons (get := S_lpile.yscript) dC (fun _ => rfl) fun _ => (jin_cons (get := S_lpile.yk) dC (fun _ => rfl) fun _ => jin_nil))
  (js_seq (js_set 2 (get := S_lpile.ycell) (put := fun s v => {s with ycell := v}) (je_s (jp_i 0)))
  (js_seq (js_if (Z' := [some ⟨S_lpile.yscript, (rM rI)⟩, some ⟨S_lpile.yk, rI⟩, some ⟨S_lpile.ycell, rI⟩]) (jt_e (je_op jo_B0 (je_s (jp_v 1 rfl)) (je_s (jp_b1 jb_len (jp_v 0 rfl))))) (js_set 2 (get := S_lpile.ycell) (put := fun s v => {s with ycell := v}) (je_s (jp_op jo_ix (jp_v 0 rfl) (jp_v 1 rfl)))) js_skip)
  (js_ret (je_lst (r := rI) (jl_cons (je_s (jp_op jo_mul (jp_v 2 rfl) (jp_b1 jb_intB (jp_op jo_B0 (jp_b1 jb_abs (jp_v 2 rfl)) (jp_op jo_I (jp_i 10) (jp_i 18)))))) (jl_cons (je_s (jp_v 2 rfl)) (jl_cons (je_s (jp_op jo_mul (jp_i 97) (jp_v 1 rfl))) jl_nil))))))) (jout_keep dC rfl (jout_keep dC rfl jout_nil))⟩
noncomputable def t_lpile := T_lpile.1
theorem j_lpile : JF g_lpile t_lpile (Pc (rM rI) (Pc rI Pn)) (rL rI) (Pc (rM rI) (Pc rI Pn)) := T_lpile.2
structure S_lmixed where
 ycell : Int
 yk : Int
 ynumber_here : Int
noncomputable def T_lmixed : {f : (Int × Int × Unit) -> Option (Int × (Int × Int × Unit)) // JF g_lmixed f (Pc rI (Pc rI Pn)) rI (Pc rI (Pc rI Pn))} := ⟨_, by
 exact jf_rt (S := S_lmixed) (N := 3) (W := [2, 2]) (c := c_lmixed) (Zn := []) (ro := rI) (Zp := [some ⟨S_lmixed.ycell, rI⟩, some ⟨S_lmixed.yk, rI⟩]) (Zr := [some ⟨S_lmixed.ycell, rI⟩, some ⟨S_lmixed.yk, rI⟩, none]) (init := (fun p => (⟨p.1, p.2.1, 0⟩ : S_lmixed))) (jin_cons (get := S_lmixed.ycell) dC (fun _ => rfl) fun _ => (jin_cons (get := S_lmixed.yk) dC (fun _ => rfl) fun _ => jin_nil))
  (js_seq (js_set 2 (get := S_lmixed.ynumber_here) (put := fun s v => {s with ynumber_here := v}) (je_s (jp_op jo_I (jp_op jo_I0 (jp_op jo_I0 (jp_op jo_mul (jp_op jo_I (jp_v 0 rfl) (jp_i 2147483647)) (jp_i 48271)) (jp_op jo_mul (jp_v 1 rfl) (jp_i 69621))) (jp_i 11)) (jp_i 2147483647))))
  (js_seq (js_set 2 (get := S_lmixed.ynumber_here) (put := fun s v => {s with ynumber_here := v}) (je_s (jp_op jo_I (jp_op jo_mul (jp_v 2 rfl) (jp_v 2 rfl)) (jp_i 2147483629))))
  (js_ret (je_s (jp_op jo_I (jp_op jo_mul (jp_v 2 rfl) (jp_v 2 rfl)) (jp_i 2147483587)))))) (jout_keep dC rfl (jout_keep dC rfl jout_nil))⟩
noncomputable def t_lmixed := T_lmixed.1
theorem j_lmixed : JF g_lmixed t_lmixed (Pc rI (Pc rI Pn)) rI (Pc rI (Pc rI Pn)) := T_lmixed.2
structure S_ltake where
 ypile_here : List Int
 ymany : Int
 ydigit : Int
noncomputable def T_ltake : {f : ((List Int) × Int × Unit) -> Option (Int × ((List Int) × Int × Unit)) // JF g_ltake f (Pc (rL rI) (Pc rI Pn)) rI (Pc (rL rI) (Pc rI Pn))} := ⟨_, by
 exact jf_rt (S := S_ltake) (N := 3) (W := [2]) (c := c_ltake) (Zn := []) (ro := rI) (Zp := [some ⟨S_ltake.ypile_here, (rL rI)⟩, some ⟨S_ltake.ymany, rI⟩]) (Zr := [some ⟨S_ltake.ypile_here, (rL rI)⟩, some ⟨S_ltake.ymany, rI⟩, none]) (init := (fun p => (⟨p.1, p.2.1, 0⟩ : S_ltake))) (jin_cons (get := S_ltake.ypile_here) dC (fun _ => rfl) fun _ => (jin_cons (get := S_ltake.ymany) dC (fun _ => rfl) fun _ => jin_nil))
  (js_seq (js_if (Z' := [some ⟨S_ltake.ypile_here, (rL rI)⟩, some ⟨S_ltake.ymany, rI⟩, none]) (jt_e (je_s (jp_op jo_in (jp_op jo_ix (jp_v 0 rfl) (jp_i 0)) (jp_lst (jpl_cons (jp_i 0) (jpl_cons (jp_neg (jp_i 1)) jpl_nil)))))) (js_seq (js_setS 0 (get := S_ltake.ypile_here) (put := fun s v => {s with ypile_here := v}) (je_s (jp_op jo_I0 (jp_op jo_ix (jp_v 0 rfl) (jp_i 2)) (jp_i 1))) (jp_i 2) rfl)
  (js_ret (je_op jo_I (je_call j_lmixed (ja1_ex (je_s (jp_op jo_ix (jp_v 0 rfl) (jp_i 1))) (ja1_ex (je_s (jp_op jo_ix (jp_v 0 rfl) (jp_i 2))) ja1_nil)) (ja2_ex (ja2_ex ja2_nil)) (ja3_ex (ja3_ex ja3_nil))) (je_s (jp_v 1 rfl))))) js_skip)
  (js_seq (js_set 2 (get := S_ltake.ydigit) (put := fun s v => {s with ydigit := v}) (je_s (jp_op jo_I (jp_op jo_ix (jp_v 0 rfl) (jp_i 0)) (jp_v 1 rfl))))
  (js_seq (js_setS 0 (get := S_ltake.ypile_here) (put := fun s v => {s with ypile_here := v}) (je_s (jp_op jo_I (jp_op jo_ix (jp_v 0 rfl) (jp_i 0)) (jp_v 1 rfl))) (jp_i 0) rfl)
  (js_ret (je_s (jp_v 2 rfl)))))) (jout_keep dC rfl (jout_keep dC rfl jout_nil))⟩
noncomputable def t_ltake := T_ltake.1
theorem j_ltake : JF g_ltake t_ltake (Pc (rL rI) (Pc rI Pn)) rI (Pc (rL rI) (Pc rI Pn)) := T_ltake.2
structure S_lorder where
 ypile_here : List Int
 yn : Int
 yleft : List Int
 yfound : List Int
noncomputable def T_lorder : {f : ((List Int) × Int × Unit) -> Option ((List Int) × ((List Int) × Int × Unit)) // JF g_lorder f (Pc (rL rI) (Pc rI Pn)) (rL rI) (Pc (rL rI) (Pc rI Pn))} := ⟨_, by
 exact jf_rt (S := S_lorder) (N := 4) (W := [2, 3]) (c := c_lorder) (Zn := []) (ro := (rL rI)) (Zp := [some ⟨S_lorder.ypile_here, (rL rI)⟩, some ⟨S_lorder.yn, rI⟩]) (Zr := [some ⟨S_lorder.ypile_here, (rL rI)⟩, some ⟨S_lorder.yn, rI⟩, none, none]) (init := (fun p => (⟨p.1, p.2.1, [], []⟩ : S_lorder))) (jin_cons (get := S_lorder.ypile_here) dC (fun _ => rfl) fun _ => (jin_cons (get := S_lorder.yn) dC (fun _ => rfl) fun _ => jin_nil))
  (js_seq (js_set 2 (get := S_lorder.yleft) (put := fun s v => {s with yleft := v}) (je_listR (je_s (jp_v 1 rfl))))
  (js_seq (js_set 3 (get := S_lorder.yfound) (put := fun s v => {s with yfound := v}) (je_lst (jl_nil (r := rI))))
  (js_seq (js_while Le.refl (jt_e (je_s (jp_op jo_ne (jp_v 2 rfl) (jp_l0 (r := rI))))) (js_drop (je_appV 3 (get := S_lorder.yfound) (put := fun s v => {s with yfound := v}) (je_popAt 2 (get := S_lorder.yleft) (put := fun s v => {s with yleft := v}) (je_call j_ltake (ja1_bo 0 rfl (ja1_ex (je_s (jp_b1 jb_len (jp_v 2 rfl))) ja1_nil)) (ja2_ns 0 rfl (ja2_ex ja2_nil)) (ja3_ns 0 (get := S_lorder.ypile_here) (put := fun s v => {s with ypile_here := v}) (h := ja3_ex ja3_nil))) rfl rfl) rfl rfl)))
  (js_ret (je_mv 3 rfl))))) (jout_keep dC rfl (jout_keep dC rfl jout_nil))⟩
noncomputable def t_lorder := T_lorder.1
theorem j_lorder : JF g_lorder t_lorder (Pc (rL rI) (Pc rI Pn)) (rL rI) (Pc (rL rI) (Pc rI Pn)) := T_lorder.2
structure S_all_names where
 xn : Int
noncomputable def T_all_names : {f : (Int × Unit) -> Option (Int × (Int × Unit)) // JF g_all_names f (Pc rI Pn) rI (Pc rI Pn)} := ⟨_, by
 exact jf_rt (S := S_all_names) (N := 1) (W := []) (c := c_all_names) (Zn := []) (ro := rI) (Zp := [some ⟨S_all_names.xn, rI⟩]) (Zr := [some ⟨S_all_names.xn, rI⟩]) (init := (fun p => (⟨p.1⟩ : S_all_names))) (jin_cons (get := S_all_names.xn) dC (fun _ => rfl) fun _ => jin_nil)
  (js_ret (je_s (jp_op jo_I0 (jp_op jo_I (jp_i 1) (jp_v 0 rfl)) (jp_i 1)))) (jout_keep dC rfl jout_nil)⟩
noncomputable def t_all_names := T_all_names.1
theorem j_all_names : JF g_all_names t_all_names (Pc rI Pn) rI (Pc rI Pn) := T_all_names.2
structure S_row_of_terms where
 xn : Int
 xterms : List (Int × Int)
 xrow : List Int
 xgroup : Int
 xnumber : Int
noncomputable def T_row_of_terms : {f : (Int × (List (Int × Int)) × Unit) -> Option ((List Int) × (Int × (List (Int × Int)) × Unit)) // JF g_row_of_terms f (Pc rI (Pc (rL (rT2 rI rI)) Pn)) (rL rI) (Pc rI (Pc (rM (rT2 rI rI)) Pn))} := ⟨_, by
 exact jf_rt (S := S_row_of_terms) (N := 5) (W := [2, 3, 4]) (c := c_row_of_terms) (Zn := []) (ro := (rL rI)) (Zp := [some ⟨S_row_of_terms.xn, rI⟩, some ⟨S_row_of_terms.xterms, (rL (rT2 rI rI))⟩]) (Zr := [some ⟨S_row_of_terms.xn, rI⟩, some ⟨S_row_of_terms.xterms, (rM (rT2 rI rI))⟩, none, none, none]) (init := (fun p => (⟨p.1, p.2.1, [], 0, 0⟩ : S_row_of_terms))) (jin_cons (get := S_row_of_terms.xn) dC (fun _ => rfl) fun _ => (jin_cons (get := S_row_of_terms.xterms) dC (fun _ => rfl) fun _ => jin_nil))
  (js_seq (js_set 2 (get := S_row_of_terms.xrow) (put := fun s v => {s with xrow := v}) (je_rep (je_lst (r := rI) (jl_cons (je_s (jp_i 0)) jl_nil)) (je_call j_all_names (ja1_bo 0 rfl ja1_nil) (ja2_sc 0 rfl ja2_nil) (ja3_sc 0 ja3_nil))))
  (js_seq (js_for (ji_lst (je_cp 1 rfl)) Le.refl (jg_t2 (jg_nm 3 (get := S_row_of_terms.xgroup) (put := fun s v => {s with xgroup := v})) (jg_nm 4 (get := S_row_of_terms.xnumber) (put := fun s v => {s with xnumber := v}))) (js_if (Z' := [some ⟨S_row_of_terms.xn, rI⟩, some ⟨S_row_of_terms.xterms, (rM (rT2 rI rI))⟩, some ⟨S_row_of_terms.xrow, (rL rI)⟩, some ⟨S_row_of_terms.xgroup, rI⟩, some ⟨S_row_of_terms.xnumber, rI⟩]) (jt_e (je_op jo_ne (je_s (jp_v 3 rfl)) (je_s (jp_i 0)))) (js_augS 2 (get := S_row_of_terms.xrow) (put := fun s v => {s with xrow := v}) jo_I0 (jp_op jo_I0 (jp_v 3 rfl) (jp_i 1)) (jp_v 4 rfl) rfl) js_skip))
  (js_ret (je_mv 2 rfl)))) (jout_keep dC rfl (jout_keep dC rfl jout_nil))⟩
noncomputable def t_row_of_terms := T_row_of_terms.1
theorem j_row_of_terms : JF g_row_of_terms t_row_of_terms (Pc rI (Pc (rL (rT2 rI rI)) Pn)) (rL rI) (Pc rI (Pc (rM (rT2 rI rI)) Pn)) := T_row_of_terms.2
structure S_shared_row where
 xn : Int
 xa : Int
 xb : Int
 xc : Int
noncomputable def T_shared_row : {f : (Int × Int × Int × Int × Unit) -> Option ((List Int) × (Int × Int × Int × Int × Unit)) // JF g_shared_row f (Pc rI (Pc rI (Pc rI (Pc rI Pn)))) (rL rI) (Pc rI (Pc rI (Pc rI (Pc rI Pn))))} := ⟨_, by
 exact jf_rt (S := S_shared_row) (N := 4) (W := []) (c := c_shared_row) (Zn := []) (ro := (rL rI)) (Zp := [some ⟨S_shared_row.xn, rI⟩, some ⟨S_shared_row.xa, rI⟩, some ⟨S_shared_row.xb, rI⟩, some ⟨S_shared_row.xc, rI⟩]) (Zr := [some ⟨S_shared_row.xn, rI⟩, some ⟨S_shared_row.xa, rI⟩, some ⟨S_shared_row.xb, rI⟩, some ⟨S_shared_row.xc, rI⟩]) (init := (fun p => (⟨p.1, p.2.1, p.2.2.1, p.2.2.2.1⟩ : S_shared_row))) (jin_cons (get := S_shared_row.xn) dC (fun _ => rfl) fun _ => (jin_cons (get := S_shared_row.xa) dC (fun _ => rfl) fun _ => (jin_cons (get := S_shared_row.xb) dC (fun _ => rfl) fun _ => (jin_cons (get := S_shared_row.xc) dC (fun _ => rfl) fun _ => jin_nil))))
  (js_ret (je_call j_row_of_terms (ja1_bo 0 rfl (ja1_ex (je_lst (r := (rT2 rI rI)) (jl_cons (je_t2 (je_s (jp_op jo_I0 (jp_v 1 rfl) (jp_v 3 rfl))) (je_s (jp_i 1))) (jl_cons (je_t2 (je_s (jp_op jo_I0 (jp_v 2 rfl) (jp_v 3 rfl))) (je_s (jp_i 1))) (jl_cons (je_t2 (je_s (jp_op jo_I0 (jp_op jo_I0 (jp_v 1 rfl) (jp_v 2 rfl)) (jp_v 3 rfl))) (je_s (jp_neg (jp_i 1)))) (jl_cons (je_t2 (je_s (jp_v 3 rfl)) (je_s (jp_neg (jp_i 1)))) jl_nil))))) ja1_nil)) (ja2_sc 0 rfl (ja2_ex ja2_nil)) (ja3_sc 0 (ja3_ex ja3_nil))) inferInstance (by first | exact Le.refl | (repeat (first | exact Le.nil | refine Le.som inferInstance ?_ | refine Le.non ?_)))) (jout_keep dC rfl (jout_keep dC rfl (jout_keep dC rfl (jout_keep dC rfl jout_nil))))⟩
noncomputable def t_shared_row := T_shared_row.1
theorem j_shared_row : JF g_shared_row t_shared_row (Pc rI (Pc rI (Pc rI (Pc rI Pn)))) (rL rI) (Pc rI (Pc rI (Pc rI (Pc rI Pn)))) := T_shared_row.2
structure S_four_row where
 xi : Int
 xj : Int
 xk : Int
 xl : Int
 xby_k : List Int
 xby_l : List Int
 xboth : List Int
 xwhole : List Int
noncomputable def T_four_row : {f : (Int × Int × Int × Int × Unit) -> Option ((List Int) × (Int × Int × Int × Int × Unit)) // JF g_four_row f (Pc rI (Pc rI (Pc rI (Pc rI Pn)))) (rL rI) (Pc rI (Pc rI (Pc rI (Pc rI Pn))))} := ⟨_, by
 exact jf_rt (S := S_four_row) (N := 8) (W := [4, 5, 6, 7]) (c := c_four_row) (Zn := []) (ro := (rL rI)) (Zp := [some ⟨S_four_row.xi, rI⟩, some ⟨S_four_row.xj, rI⟩, some ⟨S_four_row.xk, rI⟩, some ⟨S_four_row.xl, rI⟩]) (Zr := [some ⟨S_four_row.xi, rI⟩, some ⟨S_four_row.xj, rI⟩, some ⟨S_four_row.xk, rI⟩, some ⟨S_four_row.xl, rI⟩, none, none, none, none]) (init := (fun p => (⟨p.1, p.2.1, p.2.2.1, p.2.2.2.1, [], [], [], []⟩ : S_four_row))) (jin_cons (get := S_four_row.xi) dC (fun _ => rfl) fun _ => (jin_cons (get := S_four_row.xj) dC (fun _ => rfl) fun _ => (jin_cons (get := S_four_row.xk) dC (fun _ => rfl) fun _ => (jin_cons (get := S_four_row.xl) dC (fun _ => rfl) fun _ => jin_nil))))
  (js_seq (js_set 4 (get := S_four_row.xby_k) (put := fun s v => {s with xby_k := v}) (je_call j_shared_row (ja1_ex (je_s (jp_i 4)) (ja1_ex (je_s (jp_op jo_I (jp_i 1) (jp_v 0 rfl))) (ja1_ex (je_s (jp_op jo_I (jp_i 1) (jp_v 1 rfl))) (ja1_ex (je_s (jp_op jo_I (jp_i 1) (jp_v 2 rfl))) ja1_nil)))) (ja2_ex (ja2_ex (ja2_ex (ja2_ex ja2_nil)))) (ja3_ex (ja3_ex (ja3_ex (ja3_ex ja3_nil))))))
  (js_seq (js_set 5 (get := S_four_row.xby_l) (put := fun s v => {s with xby_l := v}) (je_call j_shared_row (ja1_ex (je_s (jp_i 4)) (ja1_ex (je_s (jp_op jo_I (jp_i 1) (jp_v 0 rfl))) (ja1_ex (je_s (jp_op jo_I (jp_i 1) (jp_v 1 rfl))) (ja1_ex (je_s (jp_op jo_I (jp_i 1) (jp_v 3 rfl))) ja1_nil)))) (ja2_ex (ja2_ex (ja2_ex (ja2_ex ja2_nil)))) (ja3_ex (ja3_ex (ja3_ex (ja3_ex ja3_nil))))))
  (js_seq (js_set 6 (get := S_four_row.xboth) (put := fun s v => {s with xboth := v}) (je_call j_shared_row (ja1_ex (je_s (jp_i 4)) (ja1_ex (je_s (jp_op jo_I (jp_i 1) (jp_v 2 rfl))) (ja1_ex (je_s (jp_op jo_I (jp_i 1) (jp_v 3 rfl))) (ja1_ex (je_s (jp_i 0)) ja1_nil)))) (ja2_ex (ja2_ex (ja2_ex (ja2_ex ja2_nil)))) (ja3_ex (ja3_ex (ja3_ex (ja3_ex ja3_nil))))))
  (js_seq (js_set 7 (get := S_four_row.xwhole) (put := fun s v => {s with xwhole := v}) (je_call j_shared_row (ja1_ex (je_s (jp_i 4)) (ja1_ex (je_s (jp_op jo_I (jp_i 1) (jp_v 0 rfl))) (ja1_ex (je_s (jp_op jo_I (jp_i 1) (jp_v 1 rfl))) (ja1_ex (je_s (jp_i 0)) ja1_nil)))) (ja2_ex (ja2_ex (ja2_ex (ja2_ex ja2_nil)))) (ja3_ex (ja3_ex (ja3_ex (ja3_ex ja3_nil))))))
  (js_ret (je_lc (ji_zip4 (je_cp 4 rfl) (je_cp 5 rfl) (je_cp 6 rfl) (je_cp 7 rfl)) Le.refl (jgc4 8 9 10 11 rfl rfl rfl rfl) (fun x1 => jt_true) (fun x1 => (je_s (jp_op jo_I0 (jp_op jo_I0 (jp_op jo_I0 (jp_v 8 rfl) (jp_v 9 rfl)) (jp_v 10 rfl)) (jp_v 11 rfl)))))))))) (jout_keep dC rfl (jout_keep dC rfl (jout_keep dC rfl (jout_keep dC rfl jout_nil))))⟩
noncomputable def t_four_row := T_four_row.1
theorem j_four_row : JF g_four_row t_four_row (Pc rI (Pc rI (Pc rI (Pc rI Pn)))) (rL rI) (Pc rI (Pc rI (Pc rI (Pc rI Pn)))) := T_four_row.2
structure S_names_in where
 xn : Int
 xgroup : Int
noncomputable def T_names_in : {f : (Int × Int × Unit) -> Option ((List Int) × (Int × Int × Unit)) // JF g_names_in f (Pc rI (Pc rI Pn)) (rL rI) (Pc rI (Pc rI Pn))} := ⟨_, by
 exact jf_rt (S := S_names_in) (N := 2) (W := []) (c := c_names_in) (Zn := []) (ro := (rL rI)) (Zp := [some ⟨S_names_in.xn, rI⟩, some ⟨S_names_in.xgroup, rI⟩]) (Zr := [some ⟨S_names_in.xn, rI⟩, some ⟨S_names_in.xgroup, rI⟩]) (init := (fun p => (⟨p.1, p.2.1⟩ : S_names_in))) (jin_cons (get := S_names_in.xn) dC (fun _ => rfl) fun _ => (jin_cons (get := S_names_in.xgroup) dC (fun _ => rfl) fun _ => jin_nil))
  (js_ret (je_lc (ji_r1 (je_s (jp_v 0 rfl))) Le.refl (jgc1 2 rfl) (fun x3 => (jt_e (je_op jo_ne (je_s (jp_op jo_I0 (jp_v 1 rfl) (jp_op jo_I (jp_i 1) (jp_v 2 rfl)))) (je_s (jp_i 0))))) (fun x3 => (je_s (jp_v 2 rfl))))) (jout_keep dC rfl (jout_keep dC rfl jout_nil))⟩
noncomputable def t_names_in := T_names_in.1
theorem j_names_in : JF g_names_in t_names_in (Pc rI (Pc rI Pn)) (rL rI) (Pc rI (Pc rI Pn)) := T_names_in.2
structure S_four_number where
 xgroup : Int
 xapart : Int
noncomputable def T_four_number : {f : (Int × Int × Unit) -> Option (Int × (Int × Int × Unit)) // JF g_four_number f (Pc rI (Pc rI Pn)) rI (Pc rI (Pc rI Pn))} := ⟨_, by
 exact jf_rt (S := S_four_number) (N := 2) (W := []) (c := c_four_number) (Zn := []) (ro := rI) (Zp := [some ⟨S_four_number.xgroup, rI⟩, some ⟨S_four_number.xapart, rI⟩]) (Zr := [some ⟨S_four_number.xgroup, rI⟩, some ⟨S_four_number.xapart, rI⟩]) (init := (fun p => (⟨p.1, p.2.1⟩ : S_four_number))) (jin_cons (get := S_four_number.xgroup) dC (fun _ => rfl) fun _ => (jin_cons (get := S_four_number.xapart) dC (fun _ => rfl) fun _ => jin_nil))
  (js_seq (js_if (Z' := [some ⟨S_four_number.xgroup, rI⟩, some ⟨S_four_number.xapart, rI⟩]) (jt_e (je_op jo_eq (je_s (jp_v 0 rfl)) (je_s (jp_v 1 rfl)))) (js_ret (je_s (jp_i 4))) js_skip)
  (js_ret (je_b2 jb_min (je_s (jp_i 4)) (je_op jo_I0 (je_b1 jb_len (je_call j_names_in (ja1_ex (je_s (jp_i 4)) (ja1_bo 0 rfl ja1_nil)) (ja2_ex (ja2_sc 0 rfl ja2_nil)) (ja3_ex (ja3_sc 0 ja3_nil)))) (je_s (jp_i 1)))))) (jout_keep dC rfl (jout_keep dC rfl jout_nil))⟩
noncomputable def t_four_number := T_four_number.1
theorem j_four_number : JF g_four_number t_four_number (Pc rI (Pc rI Pn)) rI (Pc rI (Pc rI Pn)) := T_four_number.2
structure S_four_table where
 xi : Int
 xj : Int
 xk : Int
 xl : Int
noncomputable def T_four_table : {f : (Int × Int × Int × Int × Unit) -> Option ((List Int) × (Int × Int × Int × Int × Unit)) // JF g_four_table f (Pc rI (Pc rI (Pc rI (Pc rI Pn)))) (rL rI) (Pc rI (Pc rI (Pc rI (Pc rI Pn))))} := ⟨_, by
 exact jf_rt (S := S_four_table) (N := 4) (W := []) (c := c_four_table) (Zn := []) (ro := (rL rI)) (Zp := [some ⟨S_four_table.xi, rI⟩, some ⟨S_four_table.xj, rI⟩, some ⟨S_four_table.xk, rI⟩, some ⟨S_four_table.xl, rI⟩]) (Zr := [some ⟨S_four_table.xi, rI⟩, some ⟨S_four_table.xj, rI⟩, some ⟨S_four_table.xk, rI⟩, some ⟨S_four_table.xl, rI⟩]) (init := (fun p => (⟨p.1, p.2.1, p.2.2.1, p.2.2.2.1⟩ : S_four_table))) (jin_cons (get := S_four_table.xi) dC (fun _ => rfl) fun _ => (jin_cons (get := S_four_table.xj) dC (fun _ => rfl) fun _ => (jin_cons (get := S_four_table.xk) dC (fun _ => rfl) fun _ => (jin_cons (get := S_four_table.xl) dC (fun _ => rfl) fun _ => jin_nil))))
  (js_ret (je_lc (ji_r2 (je_s (jp_i 1)) (je_op jo_I0 (je_call j_all_names (ja1_ex (je_s (jp_i 4)) ja1_nil) (ja2_ex ja2_nil) (ja3_ex ja3_nil)) (je_s (jp_i 1)))) Le.refl (jgc1 4 rfl) (fun x2 => jt_true) (fun x2 => (je_call j_four_number (ja1_bo 4 rfl (ja1_ex (je_s (jp_op jo_I0 (jp_op jo_I (jp_i 1) (jp_v 2 rfl)) (jp_op jo_I (jp_i 1) (jp_v 3 rfl)))) ja1_nil)) (ja2_sc 4 rfl (ja2_ex ja2_nil)) (ja3_sc 4 (ja3_ex ja3_nil)))))) (jout_keep dC rfl (jout_keep dC rfl (jout_keep dC rfl (jout_keep dC rfl jout_nil))))⟩
noncomputable def t_four_table := T_four_table.1
theorem j_four_table : JF g_four_table t_four_table (Pc rI (Pc rI (Pc rI (Pc rI Pn)))) (rL rI) (Pc rI (Pc rI (Pc rI (Pc rI Pn)))) := T_four_table.2
structure S_lnumber where
 ypile_here : List Int
 yway : Int
 ynumber_here : Int
 yk : Int
noncomputable def T_lnumber : {f : ((List Int) × Unit) -> Option (Int × ((List Int) × Unit)) // JF g_lnumber f (Pc (rL rI) Pn) rI (Pc (rL rI) Pn)} := ⟨_, by
 exact jf_rt (S := S_lnumber) (N := 4) (W := [1, 2, 3, 2]) (c := c_lnumber) (Zn := []) (ro := rI) (Zp := [some ⟨S_lnumber.ypile_here, (rL rI)⟩]) (Zr := [some ⟨S_lnumber.ypile_here, (rL rI)⟩, none, none, none]) (init := (fun p => (⟨p.1, 0, 0, 0⟩ : S_lnumber))) (jin_cons (get := S_lnumber.ypile_here) dC (fun _ => rfl) fun _ => jin_nil)
  (js_seq (js_set 1 (get := S_lnumber.yway) (put := fun s v => {s with yway := v}) (je_call j_ltake (ja1_bo 0 rfl (ja1_ex (je_s (jp_i 4)) ja1_nil)) (ja2_ns 0 rfl (ja2_ex ja2_nil)) (ja3_ns 0 (get := S_lnumber.ypile_here) (put := fun s v => {s with ypile_here := v}) (h := ja3_ex ja3_nil))))
  (js_seq (js_if (Z' := [some ⟨S_lnumber.ypile_here, (rL rI)⟩, some ⟨S_lnumber.yway, rI⟩, none, none]) (jt_e (je_op jo_eq (je_s (jp_v 1 rfl)) (je_s (jp_i 0)))) (js_seq (js_set 2 (get := S_lnumber.ynumber_here) (put := fun s v => {s with ynumber_here := v}) (je_s (jp_i 0)))
  (js_seq (js_for (ji_r1 (je_s (jp_i 4))) Le.refl (jg_nm 3 (get := S_lnumber.yk) (put := fun s v => {s with yk := v})) (js_set 2 (get := S_lnumber.ynumber_here) (put := fun s v => {s with ynumber_here := v}) (je_op jo_I0 (je_s (jp_op jo_mul (jp_v 2 rfl) (jp_op jo_I (jp_i 10) (jp_i 10)))) (je_call j_ltake (ja1_bo 0 rfl (ja1_ex (je_s (jp_op jo_I (jp_i 10) (jp_i 10))) ja1_nil)) (ja2_ns 0 rfl (ja2_ex ja2_nil)) (ja3_ns 0 (get := S_lnumber.ypile_here) (put := fun s v => {s with ypile_here := v}) (h := ja3_ex ja3_nil))))))
  (js_ret (je_ix (je_lst (r := rI) (jl_cons (je_s (jp_v 2 rfl)) (jl_cons (je_s (jp_neg (jp_v 2 rfl))) jl_nil))) (je_call j_ltake (ja1_bo 0 rfl (ja1_ex (je_s (jp_i 2)) ja1_nil)) (ja2_ns 0 rfl (ja2_ex ja2_nil)) (ja3_ns 0 (get := S_lnumber.ypile_here) (put := fun s v => {s with ypile_here := v}) (h := ja3_ex ja3_nil))))))) js_skip)
  (js_seq (js_if (Z' := [some ⟨S_lnumber.ypile_here, (rL rI)⟩, some ⟨S_lnumber.yway, rI⟩, none, none]) (jt_e (je_op jo_eq (je_s (jp_v 1 rfl)) (je_s (jp_i 1)))) (js_ret (je_op jo_I0 (je_call j_ltake (ja1_bo 0 rfl (ja1_ex (je_s (jp_i 2001)) ja1_nil)) (ja2_ns 0 rfl (ja2_ex ja2_nil)) (ja3_ns 0 (get := S_lnumber.ypile_here) (put := fun s v => {s with ypile_here := v}) (h := ja3_ex ja3_nil))) (je_s (jp_i 1000)))) js_skip)
  (js_ret (je_op jo_I0 (je_call j_ltake (ja1_bo 0 rfl (ja1_ex (je_s (jp_i 9)) ja1_nil)) (ja2_ns 0 rfl (ja2_ex ja2_nil)) (ja3_ns 0 (get := S_lnumber.ypile_here) (put := fun s v => {s with ypile_here := v}) (h := ja3_ex ja3_nil))) (je_s (jp_i 4))))))) (jout_keep dC rfl jout_nil)⟩
noncomputable def t_lnumber := T_lnumber.1
theorem j_lnumber : JF g_lnumber t_lnumber (Pc (rL rI) Pn) rI (Pc (rL rI) Pn) := T_lnumber.2
structure S_lcalled where
 ytable : List Int
 yorder_here : List Int
 yfound : List Int
 ygroup : Int
 yg : Int
 yname : Int
noncomputable def T_lcalled : {f : ((List Int) × (List Int) × Unit) -> Option ((List Int) × ((List Int) × (List Int) × Unit)) // JF g_lcalled f (Pc (rL rI) (Pc (rL rI) Pn)) (rL rI) (Pc (rL rI) (Pc (rL rI) Pn))} := ⟨_, by
 exact jf_rt (S := S_lcalled) (N := 6) (W := [2, 3, 4, 5, 4]) (c := c_lcalled) (Zn := []) (ro := (rL rI)) (Zp := [some ⟨S_lcalled.ytable, (rL rI)⟩, some ⟨S_lcalled.yorder_here, (rL rI)⟩]) (Zr := [some ⟨S_lcalled.ytable, (rL rI)⟩, some ⟨S_lcalled.yorder_here, (rL rI)⟩, none, none, none, none]) (init := (fun p => (⟨p.1, p.2.1, [], 0, 0, 0⟩ : S_lcalled))) (jin_cons (get := S_lcalled.ytable) dC (fun _ => rfl) fun _ => (jin_cons (get := S_lcalled.yorder_here) dC (fun _ => rfl) fun _ => jin_nil))
  (js_seq (js_set 2 (get := S_lcalled.yfound) (put := fun s v => {s with yfound := v}) (je_rep (je_lst (r := rI) (jl_cons (je_s (jp_i 0)) jl_nil)) (je_s (jp_i 15))))
  (js_seq (js_for (ji_r2 (je_s (jp_i 1)) (je_s (jp_i 16))) Le.refl (jg_nm 3 (get := S_lcalled.ygroup) (put := fun s v => {s with ygroup := v})) (js_seq (js_set 4 (get := S_lcalled.yg) (put := fun s v => {s with yg := v}) (je_s (jp_i 0)))
  (js_seq (js_for (ji_r1 (je_s (jp_i 4))) Le.refl (jg_nm 5 (get := S_lcalled.yname) (put := fun s v => {s with yname := v})) (js_set 4 (get := S_lcalled.yg) (put := fun s v => {s with yg := v}) (je_s (jp_op jo_I0 (jp_v 4 rfl) (jp_op jo_mul (jp_op jo_I0 (jp_op jo_I (jp_v 3 rfl) (jp_v 5 rfl)) (jp_i 1)) (jp_op jo_I (jp_i 1) (jp_op jo_ix (jp_v 1 rfl) (jp_v 5 rfl))))))))
  (js_setS 2 (get := S_lcalled.yfound) (put := fun s v => {s with yfound := v}) (je_s (jp_op jo_ix (jp_v 0 rfl) (jp_op jo_I0 (jp_v 3 rfl) (jp_i 1)))) (jp_op jo_I0 (jp_v 4 rfl) (jp_i 1)) rfl))))
  (js_ret (je_mv 2 rfl)))) (jout_keep dC rfl (jout_keep dC rfl jout_nil))⟩
noncomputable def t_lcalled := T_lcalled.1
theorem j_lcalled : JF g_lcalled t_lcalled (Pc (rL rI) (Pc (rL rI) Pn)) (rL rI) (Pc (rL rI) (Pc (rL rI) Pn)) := T_lcalled.2
structure S_value where
 xrow : List Int
 xtable : List Int
noncomputable def T_value : {f : ((List Int) × (List Int) × Unit) -> Option (Int × ((List Int) × (List Int) × Unit)) // JF g_value f (Pc (rM rI) (Pc (rM rI) Pn)) rI (Pc (rM rI) (Pc (rM rI) Pn))} := ⟨_, by
 exact jf_rt (S := S_value) (N := 2) (W := []) (c := c_value) (Zn := []) (ro := rI) (Zp := [some ⟨S_value.xrow, (rM rI)⟩, some ⟨S_value.xtable, (rM rI)⟩]) (Zr := [some ⟨S_value.xrow, (rM rI)⟩, some ⟨S_value.xtable, (rM rI)⟩]) (init := (fun p => (⟨p.1, p.2.1⟩ : S_value))) (jin_cons (get := S_value.xrow) dC (fun _ => rfl) fun _ => (jin_cons (get := S_value.xtable) dC (fun _ => rfl) fun _ => jin_nil))
  (js_ret (je_b1 jb_sum (je_lc (ji_zip (je_cp 0 rfl) (je_cp 1 rfl)) Le.refl (jgc2 2 3 rfl rfl) (fun x5 => jt_true) (fun x5 => (je_s (jp_op jo_mul (jp_v 2 rfl) (jp_v 3 rfl))))))) (jout_keep dC rfl (jout_keep dC rfl jout_nil))⟩
noncomputable def t_value := T_value.1
theorem j_value : JF g_value t_value (Pc (rM rI) (Pc (rM rI) Pn)) rI (Pc (rM rI) (Pc (rM rI) Pn)) := T_value.2
structure S_lheap where
 yscript : List Int
 ystart : Int
 yn : Int
 ymany : Int
 yviews : List (List (List Int))
 yname : Int
 ypile_here : List Int
 yrow : List (List Int)
 yturn : Int
 ymask : Int
noncomputable def T_lheap : {f : ((List Int) × Int × Int × Unit) -> Option ((Int × (List (List (List Int)))) × ((List Int) × Int × Int × Unit)) // JF g_lheap f (Pc (rM rI) (Pc rI (Pc rI Pn))) (rT2 rI (rL (rL (rL rI)))) (Pc (rM rI) (Pc rI (Pc rI Pn)))} := ⟨_, by
 exact jf_rt (S := S_lheap) (N := 10) (W := [3, 4, 5, 6, 7, 8, 9]) (c := c_lheap) (Zn := []) (ro := (rT2 rI (rL (rL (rL rI))))) (Zp := [some ⟨S_lheap.yscript, (rM rI)⟩, some ⟨S_lheap.ystart, rI⟩, some ⟨S_lheap.yn, rI⟩]) (Zr := [some ⟨S_lheap.yscript, (rM rI)⟩, some ⟨S_lheap.ystart, rI⟩, some ⟨S_lheap.yn, rI⟩, none, none, none, none, none, none, none]) (init := (fun p => (⟨p.1, p.2.1, p.2.2.1, 0, [], 0, [], [], 0, 0⟩ : S_lheap))) (jin_cons (get := S_lheap.yscript) dC (fun _ => rfl) fun _ => (jin_cons (get := S_lheap.ystart) dC (fun _ => rfl) fun _ => (jin_cons (get := S_lheap.yn) dC (fun _ => rfl) fun _ => jin_nil)))
  (js_seq (js_set 3 (get := S_lheap.ymany) (put := fun s v => {s with ymany := v}) (je_call j_ltake (ja1_ex (je_call j_lpile (ja1_bo 0 rfl (ja1_bo 1 rfl ja1_nil)) (ja2_ns 0 rfl (ja2_sc 1 rfl ja2_nil)) (ja3_ns 0 (get := S_lheap.yscript) (put := fun s v => {s with yscript := v}) (h := ja3_sc 1 ja3_nil))) (ja1_ex (je_s (jp_i 7)) ja1_nil)) (ja2_ex (ja2_ex ja2_nil)) (ja3_ex (ja3_ex ja3_nil))))
  (js_seq (js_set 4 (get := S_lheap.yviews) (put := fun s v => {s with yviews := v}) (je_lst (jl_nil (r := (rL (rL rI))))))
  (js_seq (js_for (ji_r1 (je_s (jp_v 2 rfl))) Le.refl (jg_nm 5 (get := S_lheap.yname) (put := fun s v => {s with yname := v})) (js_seq (js_set 6 (get := S_lheap.ypile_here) (put := fun s v => {s with ypile_here := v}) (je_call j_lpile (ja1_bo 0 rfl (ja1_ex (je_s (jp_op jo_I0 (jp_op jo_I0 (jp_v 1 rfl) (jp_i 1)) (jp_v 5 rfl))) ja1_nil)) (ja2_ns 0 rfl (ja2_ex ja2_nil)) (ja3_ns 0 (get := S_lheap.yscript) (put := fun s v => {s with yscript := v}) (h := ja3_ex ja3_nil))))
  (js_seq (js_set 7 (get := S_lheap.yrow) (put := fun s v => {s with yrow := v}) (je_lst (jl_nil (r := (rL rI)))))
  (js_seq (js_for (ji_r1 (je_call j_ltake (ja1_bo 6 rfl (ja1_ex (je_s (jp_i 4)) ja1_nil)) (ja2_ns 6 rfl (ja2_ex ja2_nil)) (ja3_ns 6 (get := S_lheap.ypile_here) (put := fun s v => {s with ypile_here := v}) (h := ja3_ex ja3_nil)))) Le.refl (jg_nm 8 (get := S_lheap.yturn) (put := fun s v => {s with yturn := v})) (js_seq (js_set 9 (get := S_lheap.ymask) (put := fun s v => {s with ymask := v}) (je_call j_ltake (ja1_bo 6 rfl (ja1_ex (je_s (jp_op jo_I (jp_i 1) (jp_v 3 rfl))) ja1_nil)) (ja2_ns 6 rfl (ja2_ex ja2_nil)) (ja3_ns 6 (get := S_lheap.ypile_here) (put := fun s v => {s with ypile_here := v}) (h := ja3_ex ja3_nil))))
  (js_drop (je_appV 7 (get := S_lheap.yrow) (put := fun s v => {s with yrow := v}) (je_lc (ji_r1 (je_s (jp_v 3 rfl))) Le.refl (jgc1 10 rfl) (fun x6 => (jt_e (je_op jo_eq (je_s (jp_op jo_I0 (jp_op jo_I (jp_v 9 rfl) (jp_v 10 rfl)) (jp_i 1))) (je_s (jp_i 1))))) (fun x6 => (je_s (jp_v 10 rfl)))) rfl rfl))))
  (js_drop (je_appV 4 (get := S_lheap.yviews) (put := fun s v => {s with yviews := v}) (je_mv 7 rfl) rfl rfl))))))
  (js_ret (je_t2 (je_s (jp_v 3 rfl)) (je_mv 4 rfl)))))) (jout_keep dC rfl (jout_keep dC rfl (jout_keep dC rfl jout_nil)))⟩
noncomputable def t_lheap := T_lheap.1
theorem j_lheap : JF g_lheap t_lheap (Pc (rM rI) (Pc rI (Pc rI Pn))) (rT2 rI (rL (rL (rL rI)))) (Pc (rM rI) (Pc rI (Pc rI Pn))) := T_lheap.2
structure S_moved_views where
 xviews : List (List Int)
 xmany : Int
noncomputable def T_moved_views : {f : ((List (List Int)) × Int × Unit) -> Option ((List (List Int)) × ((List (List Int)) × Int × Unit)) // JF g_moved_views f (Pc (rM (rM rI)) (Pc rI Pn)) (rL (rL rI)) (Pc (rM (rM rI)) (Pc rI Pn))} := ⟨_, by
 exact jf_rt (S := S_moved_views) (N := 2) (W := []) (c := c_moved_views) (Zn := []) (ro := (rL (rL rI))) (Zp := [some ⟨S_moved_views.xviews, (rM (rM rI))⟩, some ⟨S_moved_views.xmany, rI⟩]) (Zr := [some ⟨S_moved_views.xviews, (rM (rM rI))⟩, some ⟨S_moved_views.xmany, rI⟩]) (init := (fun p => (⟨p.1, p.2.1⟩ : S_moved_views))) (jin_cons (get := S_moved_views.xviews) dC (fun _ => rfl) fun _ => (jin_cons (get := S_moved_views.xmany) dC (fun _ => rfl) fun _ => jin_nil))
  (js_ret (je_lc (ji_lst (je_cp 0 rfl)) Le.refl (jgc1 2 rfl) (fun x8 => jt_true) (fun x8 => (je_lc (ji_lst (je_cp 2 rfl)) Le.refl (jgc1 3 rfl) (fun x9 => jt_true) (fun x9 => (je_s (jp_op jo_I0 (jp_v 3 rfl) (jp_v 1 rfl)))))))) (jout_keep dC rfl (jout_keep dC rfl jout_nil))⟩
noncomputable def t_moved_views := T_moved_views.1
theorem j_moved_views : JF g_moved_views t_moved_views (Pc (rM (rM rI)) (Pc rI Pn)) (rL (rL rI)) (Pc (rM (rM rI)) (Pc rI Pn)) := T_moved_views.2
structure S_beside where
 xone : Int × (List (List (List Int)))
 xother : Int × (List (List (List Int)))
 xviews : List (List (List Int))
noncomputable def T_beside : {f : ((Int × (List (List (List Int)))) × (Int × (List (List (List Int)))) × Unit) -> Option ((Int × (List (List (List Int)))) × ((Int × (List (List (List Int)))) × (Int × (List (List (List Int)))) × Unit)) // JF g_beside f (Pc (rT2 rI (rM (rM (rM rI)))) (Pc (rT2 rI (rM (rM (rM rI)))) Pn)) (rT2 rI (rL (rL (rL rI)))) (Pc (rT2 rI (rM (rM (rM rI)))) (Pc (rT2 rI (rM (rM (rM rI)))) Pn))} := ⟨_, by
 exact jf_rt (S := S_beside) (N := 3) (W := [2]) (c := c_beside) (Zn := []) (ro := (rT2 rI (rL (rL (rL rI))))) (Zp := [some ⟨S_beside.xone, (rT2 rI (rM (rM (rM rI))))⟩, some ⟨S_beside.xother, (rT2 rI (rM (rM (rM rI))))⟩]) (Zr := [some ⟨S_beside.xone, (rT2 rI (rM (rM (rM rI))))⟩, some ⟨S_beside.xother, (rT2 rI (rM (rM (rM rI))))⟩, none]) (init := (fun p => (⟨p.1, p.2.1, []⟩ : S_beside))) (jin_cons (get := S_beside.xone) dC (fun _ => rfl) fun _ => (jin_cons (get := S_beside.xother) dC (fun _ => rfl) fun _ => jin_nil))
  (js_seq (js_set 2 (get := S_beside.xviews) (put := fun s v => {s with xviews := v}) (je_lc (ji_zip (je_tix tix21 (je_cp 0 rfl)) (je_tix tix21 (je_cp 1 rfl))) Le.refl (jgc2 3 4 rfl rfl) (fun x7 => jt_true) (fun x7 => (je_cat (je_call j_moved_views (ja1_bo 3 rfl (ja1_ex (je_s (jp_i 0)) ja1_nil)) (ja2_ns 3 rfl (ja2_ex ja2_nil)) (ja3_any 3 (ja3_ex ja3_nil))) (je_call j_moved_views (ja1_bo 4 rfl (ja1_ex (je_s (jp_tix tix20 (jp_v 0 rfl))) ja1_nil)) (ja2_ns 4 rfl (ja2_ex ja2_nil)) (ja3_any 4 (ja3_ex ja3_nil)))))))
  (js_ret (je_t2 (je_s (jp_op jo_I0 (jp_tix tix20 (jp_v 0 rfl)) (jp_tix tix20 (jp_v 1 rfl)))) (je_mv 2 rfl)))) (jout_keep dC rfl (jout_keep dC rfl jout_nil))⟩
noncomputable def t_beside := T_beside.1
theorem j_beside : JF g_beside t_beside (Pc (rT2 rI (rM (rM (rM rI)))) (Pc (rT2 rI (rM (rM (rM rI)))) Pn)) (rT2 rI (rL (rL (rL rI)))) (Pc (rT2 rI (rM (rM (rM rI)))) (Pc (rT2 rI (rM (rM (rM rI)))) Pn)) := T_beside.2
structure S_views_of where
 xheap : Int × (List (List (List Int)))
 xg : Int
 xfound : List (List Int)
 xname : Int
noncomputable def T_views_of : {f : ((Int × (List (List (List Int)))) × Int × Unit) -> Option ((List (List Int)) × ((Int × (List (List (List Int)))) × Int × Unit)) // JF g_views_of f (Pc (rT2 rI (rM (rM (rM rI)))) (Pc rI Pn)) (rL (rM rI)) (Pc (rT2 rI (rM (rM (rM rI)))) (Pc rI Pn))} := ⟨_, by
 exact jf_rt (S := S_views_of) (N := 4) (W := [2, 3]) (c := c_views_of) (Zn := []) (ro := (rL (rM rI))) (Zp := [some ⟨S_views_of.xheap, (rT2 rI (rM (rM (rM rI))))⟩, some ⟨S_views_of.xg, rI⟩]) (Zr := [some ⟨S_views_of.xheap, (rT2 rI (rM (rM (rM rI))))⟩, some ⟨S_views_of.xg, rI⟩, none, none]) (init := (fun p => (⟨p.1, p.2.1, [], 0⟩ : S_views_of))) (jin_cons (get := S_views_of.xheap) dC (fun _ => rfl) fun _ => (jin_cons (get := S_views_of.xg) dC (fun _ => rfl) fun _ => jin_nil))
  (js_seq (js_set 2 (get := S_views_of.xfound) (put := fun s v => {s with xfound := v}) (je_lst (jl_nil (r := (rM rI)))))
  (js_seq (js_for (ji_lst (je_call j_names_in (ja1_ex (je_s (jp_b1 jb_len (jp_tix tix21 (jp_v 0 rfl)))) (ja1_bo 1 rfl ja1_nil)) (ja2_ex (ja2_sc 1 rfl ja2_nil)) (ja3_ex (ja3_sc 1 ja3_nil)))) Le.refl (jg_nm 3 (get := S_views_of.xname) (put := fun s v => {s with xname := v})) (js_drop (je_extF 2 (get := S_views_of.xfound) (put := fun s v => {s with xfound := v}) (je_ix (je_tix tix21 (je_cp 0 rfl)) (je_s (jp_v 3 rfl))) rfl rfl)))
  (js_ret (je_mv 2 rfl)))) (jout_keep dC rfl (jout_keep dC rfl jout_nil))⟩
noncomputable def t_views_of := T_views_of.1
theorem j_views_of : JF g_views_of t_views_of (Pc (rT2 rI (rM (rM (rM rI)))) (Pc rI Pn)) (rL (rM rI)) (Pc (rT2 rI (rM (rM (rM rI)))) (Pc rI Pn)) := T_views_of.2
structure S_mask_of where
 xview : List Int
noncomputable def T_mask_of : {f : ((List Int) × Unit) -> Option (Int × ((List Int) × Unit)) // JF g_mask_of f (Pc (rM rI) Pn) rI (Pc (rM rI) Pn)} := ⟨_, by
 exact jf_rt (S := S_mask_of) (N := 1) (W := []) (c := c_mask_of) (Zn := []) (ro := rI) (Zp := [some ⟨S_mask_of.xview, (rM rI)⟩]) (Zr := [some ⟨S_mask_of.xview, (rM rI)⟩]) (init := (fun p => (⟨p.1⟩ : S_mask_of))) (jin_cons (get := S_mask_of.xview) dC (fun _ => rfl) fun _ => jin_nil)
  (js_ret (je_b1 jb_sum (je_lc (ji_lst (je_cp 0 rfl)) Le.refl (jgc1 1 rfl) (fun x11 => jt_true) (fun x11 => (je_s (jp_op jo_I (jp_i 1) (jp_v 1 rfl))))))) (jout_keep dC rfl jout_nil)⟩
noncomputable def t_mask_of := T_mask_of.1
theorem j_mask_of : JF g_mask_of t_mask_of (Pc (rM rI) Pn) rI (Pc (rM rI) Pn) := T_mask_of.2
structure S_less_lines where
 xlines : List (Int × Int × Int)
 xmask : Int
 xmade : Int
 xlead : Int
 xother : Int
 xhow : Int
noncomputable def T_less_lines : {f : ((List (Int × Int × Int)) × Int × Int × Unit) -> Option ((Int × Int) × ((List (Int × Int × Int)) × Int × Int × Unit)) // JF g_less_lines f (Pc (rM (rT3 rI rI rI)) (Pc rI (Pc rI Pn))) (rT2 rI rI) (Pc (rM (rT3 rI rI rI)) (Pc rI (Pc rI Pn)))} := ⟨_, by
 exact jf_rt (S := S_less_lines) (N := 6) (W := [3, 4, 5, 1, 2]) (c := c_less_lines) (Zn := []) (ro := (rT2 rI rI)) (Zp := [some ⟨S_less_lines.xlines, (rM (rT3 rI rI rI))⟩, some ⟨S_less_lines.xmask, rI⟩, some ⟨S_less_lines.xmade, rI⟩]) (Zr := [some ⟨S_less_lines.xlines, (rM (rT3 rI rI rI))⟩, none, none, none, none, none]) (init := (fun p => (⟨p.1, p.2.1, p.2.2.1, 0, 0, 0⟩ : S_less_lines))) (jin_cons (get := S_less_lines.xlines) dC (fun _ => rfl) fun _ => (jin_fz (get := S_less_lines.xmask) dC (fun _ => rfl) fun _ => (jin_fz (get := S_less_lines.xmade) dC (fun _ => rfl) fun _ => jin_nil)))
  (js_seq (js_for (ji_lst (je_cp 0 rfl)) Le.refl (jg_t3 (jg_nm 3 (get := S_less_lines.xlead) (put := fun s v => {s with xlead := v})) (jg_nm 4 (get := S_less_lines.xother) (put := fun s v => {s with xother := v})) (jg_nm 5 (get := S_less_lines.xhow) (put := fun s v => {s with xhow := v}))) (js_if (Z' := [some ⟨S_less_lines.xlines, (rM (rT3 rI rI rI))⟩, some ⟨S_less_lines.xmask, rI⟩, some ⟨S_less_lines.xmade, rI⟩, some ⟨S_less_lines.xlead, rI⟩, some ⟨S_less_lines.xother, rI⟩, some ⟨S_less_lines.xhow, rI⟩]) (jt_e (je_op jo_ne (je_s (jp_op jo_I0 (jp_v 1 rfl) (jp_v 3 rfl))) (je_s (jp_i 0)))) (js_seq (js_set 1 (get := S_less_lines.xmask) (put := fun s v => {s with xmask := v}) (je_s (jp_op jo_I0 (jp_v 1 rfl) (jp_v 4 rfl))))
  (js_set 2 (get := S_less_lines.xmade) (put := fun s v => {s with xmade := v}) (je_s (jp_op jo_I0 (jp_v 2 rfl) (jp_v 5 rfl))))) js_skip))
  (js_ret (je_t2 (je_s (jp_v 1 rfl)) (je_s (jp_v 2 rfl))))) (jout_keep dC rfl (jout_fz (r := rI) (r' := rI) dC (jout_fz (r := rI) (r' := rI) dC jout_nil)))⟩
noncomputable def t_less_lines := T_less_lines.1
structure S_with_line where
 xlines : List (Int × Int × Int)
 xmask : Int
 xmade : Int
 xlead : Int
 xchanged : List (Int × Int × Int)
 xother : Int
 xthere : Int
 xhow : Int
noncomputable def T_with_line : {f : ((List (Int × Int × Int)) × Int × Int × Unit) -> Option ((List (Int × Int × Int)) × ((List (Int × Int × Int)) × Int × Int × Unit)) // JF g_with_line f (Pc (rM (rT3 rI rI rI)) (Pc rI (Pc rI Pn))) (rL (rT3 rI rI rI)) (Pc (rM (rT3 rI rI rI)) (Pc rI (Pc rI Pn)))} := ⟨_, by
 exact jf_rt (S := S_with_line) (N := 8) (W := [3, 4, 5, 6, 7]) (c := c_with_line) (Zn := []) (ro := (rL (rT3 rI rI rI))) (Zp := [some ⟨S_with_line.xlines, (rM (rT3 rI rI rI))⟩, some ⟨S_with_line.xmask, rI⟩, some ⟨S_with_line.xmade, rI⟩]) (Zr := [some ⟨S_with_line.xlines, (rM (rT3 rI rI rI))⟩, some ⟨S_with_line.xmask, rI⟩, some ⟨S_with_line.xmade, rI⟩, none, none, none, none, none]) (init := (fun p => (⟨p.1, p.2.1, p.2.2.1, 0, [], 0, 0, 0⟩ : S_with_line))) (jin_cons (get := S_with_line.xlines) dC (fun _ => rfl) fun _ => (jin_cons (get := S_with_line.xmask) dC (fun _ => rfl) fun _ => (jin_cons (get := S_with_line.xmade) dC (fun _ => rfl) fun _ => jin_nil)))
  (js_seq (js_set 3 (get := S_with_line.xlead) (put := fun s v => {s with xlead := v}) (je_s (jp_op jo_I (jp_i 1) (jp_op jo_I0 (jp_blen (jp_v 1 rfl)) (jp_i 1)))))
  (js_seq (js_set 4 (get := S_with_line.xchanged) (put := fun s v => {s with xchanged := v}) (je_lst (jl_nil (r := (rT3 rI rI rI)))))
  (js_seq (js_for (ji_lst (je_cp 0 rfl)) Le.refl (jg_t3 (jg_nm 5 (get := S_with_line.xother) (put := fun s v => {s with xother := v})) (jg_nm 6 (get := S_with_line.xthere) (put := fun s v => {s with xthere := v})) (jg_nm 7 (get := S_with_line.xhow) (put := fun s v => {s with xhow := v}))) (js_if (Z' := [some ⟨S_with_line.xlines, (rM (rT3 rI rI rI))⟩, some ⟨S_with_line.xmask, rI⟩, some ⟨S_with_line.xmade, rI⟩, some ⟨S_with_line.xlead, rI⟩, some ⟨S_with_line.xchanged, (rL (rT3 rI rI rI))⟩, some ⟨S_with_line.xother, rI⟩, some ⟨S_with_line.xthere, rI⟩, some ⟨S_with_line.xhow, rI⟩]) (jt_e (je_op jo_ne (je_s (jp_op jo_I0 (jp_v 6 rfl) (jp_v 3 rfl))) (je_s (jp_i 0)))) (js_drop (je_appV 4 (get := S_with_line.xchanged) (put := fun s v => {s with xchanged := v}) (je_t3 (je_s (jp_v 5 rfl)) (je_s (jp_op jo_I0 (jp_v 6 rfl) (jp_v 1 rfl))) (je_s (jp_op jo_I0 (jp_v 7 rfl) (jp_v 2 rfl)))) rfl rfl)) (js_drop (je_appV 4 (get := S_with_line.xchanged) (put := fun s v => {s with xchanged := v}) (je_t3 (je_s (jp_v 5 rfl)) (je_s (jp_v 6 rfl)) (je_s (jp_v 7 rfl))) rfl rfl))))
  (js_ret (je_cat (je_mv 4 rfl) (je_lst (r := (rT3 rI rI rI)) (jl_cons (je_t3 (je_s (jp_v 3 rfl)) (je_s (jp_v 1 rfl)) (je_s (jp_v 2 rfl))) jl_nil))))))) (jout_keep dC rfl (jout_keep dC rfl (jout_keep dC rfl jout_nil)))⟩
noncomputable def t_with_line := T_with_line.1
theorem j_with_line : JF g_with_line t_with_line (Pc (rM (rT3 rI rI rI)) (Pc rI (Pc rI Pn))) (rL (rT3 rI rI rI)) (Pc (rM (rT3 rI rI rI)) (Pc rI (Pc rI Pn))) := T_with_line.2
theorem j_less_lines_2 : JF g_less_lines t_less_lines (Pc (rM (rT3 rI rI rI)) (Pc rI (Pc rI Pn))) (rT2 rI rI) (Pc (rM (rT3 rI rI rI)) (Pc rI (Pc rI Pn))) := by
 unfold t_less_lines T_less_lines;exact jf_rt (S := S_less_lines) (N := 6) (W := [3, 4, 5, 1, 2]) (c := c_less_lines) (Zn := []) (ro := (rT2 rI rI)) (Zp := [some ⟨S_less_lines.xlines, (rM (rT3 rI rI rI))⟩, some ⟨S_less_lines.xmask, rI⟩, some ⟨S_less_lines.xmade, rI⟩]) (Zr := [some ⟨S_less_lines.xlines, (rM (rT3 rI rI rI))⟩, none, none, none, none, none]) (init := (fun p => (⟨p.1, p.2.1, p.2.2.1, 0, 0, 0⟩ : S_less_lines))) (jin_cons (get := S_less_lines.xlines) dC (fun _ => rfl) fun _ => (jin_fz (get := S_less_lines.xmask) dC (fun _ => rfl) fun _ => (jin_fz (get := S_less_lines.xmade) dC (fun _ => rfl) fun _ => jin_nil)))
  (js_seq (js_for (ji_lst (je_cp 0 rfl)) Le.refl (jg_t3 (jg_nm 3 (get := S_less_lines.xlead) (put := fun s v => {s with xlead := v})) (jg_nm 4 (get := S_less_lines.xother) (put := fun s v => {s with xother := v})) (jg_nm 5 (get := S_less_lines.xhow) (put := fun s v => {s with xhow := v}))) (js_if (Z' := [some ⟨S_less_lines.xlines, (rM (rT3 rI rI rI))⟩, some ⟨S_less_lines.xmask, rI⟩, some ⟨S_less_lines.xmade, rI⟩, some ⟨S_less_lines.xlead, rI⟩, some ⟨S_less_lines.xother, rI⟩, some ⟨S_less_lines.xhow, rI⟩]) (jt_e (je_op jo_ne (je_s (jp_op jo_I0 (jp_v 1 rfl) (jp_v 3 rfl))) (je_s (jp_i 0)))) (js_seq (js_set 1 (get := S_less_lines.xmask) (put := fun s v => {s with xmask := v}) (je_s (jp_op jo_I0 (jp_v 1 rfl) (jp_v 4 rfl))))
  (js_set 2 (get := S_less_lines.xmade) (put := fun s v => {s with xmade := v}) (je_s (jp_op jo_I0 (jp_v 2 rfl) (jp_v 5 rfl))))) js_skip))
  (js_ret (je_t2 (je_s (jp_v 1 rfl)) (je_s (jp_v 2 rfl))))) (jout_keep dC rfl (jout_fz (r := rI) (r' := rI) dC (jout_fz (r := rI) (r' := rI) dC jout_nil)))
structure S_lines_of where
 xviews : List (List Int)
 xlines : List (Int × Int × Int)
 xplace : Int
 xview : List Int
 xleft : Int × Int
noncomputable def T_lines_of : {f : ((List (List Int)) × Unit) -> Option ((List (Int × Int × Int)) × ((List (List Int)) × Unit)) // JF g_lines_of f (Pc (rM (rM rI)) Pn) (rM (rT3 rI rI rI)) (Pc (rM (rM rI)) Pn)} := ⟨_, by
 exact jf_rt (S := S_lines_of) (N := 5) (W := [1, 2, 3, 4, 1]) (c := c_lines_of) (Zn := []) (ro := (rM (rT3 rI rI rI))) (Zp := [some ⟨S_lines_of.xviews, (rM (rM rI))⟩]) (Zr := [some ⟨S_lines_of.xviews, (rM (rM rI))⟩, none, none, none, none]) (init := (fun p => (⟨p.1, [], 0, [], (0, 0)⟩ : S_lines_of))) (jin_cons (get := S_lines_of.xviews) dC (fun _ => rfl) fun _ => jin_nil)
  (js_seq (js_set 1 (get := S_lines_of.xlines) (put := fun s v => {s with xlines := v}) (je_lst (jl_nil (r := (rT3 rI rI rI)))))
  (js_seq (js_for (Zh := [some ⟨S_lines_of.xviews, (rM (rM rI))⟩, some ⟨S_lines_of.xlines, (rM (rT3 rI rI rI))⟩, none, none, none]) (ji_en 0 (je_cp 0 rfl)) (by repeat (first | exact Le.nil | refine Le.som inferInstance ?_ | refine Le.non ?_)) (jg_t2 (jg_nm 2 (get := S_lines_of.xplace) (put := fun s v => {s with xplace := v})) (jg_nm 3 (get := S_lines_of.xview) (put := fun s v => {s with xview := v}))) (js_seq (js_set 4 (get := S_lines_of.xleft) (put := fun s v => {s with xleft := v}) (je_call j_less_lines_2 (ja1_bo 1 rfl (ja1_ex (je_call j_mask_of (ja1_bo 3 rfl ja1_nil) (ja2_ns 3 rfl ja2_nil) (ja3_ns 3 (get := S_lines_of.xview) (put := fun s v => {s with xview := v}) (h := ja3_nil))) (ja1_ex (je_s (jp_op jo_I (jp_i 1) (jp_v 2 rfl))) ja1_nil))) (ja2_ns 1 rfl (ja2_ex (ja2_ex ja2_nil))) (ja3_ns 1 (get := S_lines_of.xlines) (put := fun s v => {s with xlines := v}) (h := ja3_ex (ja3_ex ja3_nil)))))
  (js_if (Z' := [some ⟨S_lines_of.xviews, (rM (rM rI))⟩, some ⟨S_lines_of.xlines, (rM (rT3 rI rI rI))⟩, some ⟨S_lines_of.xplace, rI⟩, some ⟨S_lines_of.xview, (rM rI)⟩, some ⟨S_lines_of.xleft, (rT2 rI rI)⟩]) (jt_e (je_op jo_ne (je_s (jp_tix tix20 (jp_v 4 rfl))) (je_s (jp_i 0)))) (js_set 1 (get := S_lines_of.xlines) (put := fun s v => {s with xlines := v}) (je_call j_with_line (ja1_bo 1 rfl (ja1_ex (je_s (jp_tix tix20 (jp_v 4 rfl))) (ja1_ex (je_s (jp_tix tix21 (jp_v 4 rfl))) ja1_nil))) (ja2_ns 1 rfl (ja2_ex (ja2_ex ja2_nil))) (ja3_ns 1 (get := S_lines_of.xlines) (put := fun s v => {s with xlines := v}) (h := ja3_ex (ja3_ex ja3_nil))))) js_skip)))
  (js_ret (je_mv 1 rfl)))) (jout_keep dC rfl jout_nil)⟩
noncomputable def t_lines_of := T_lines_of.1
theorem j_lines_of : JF g_lines_of t_lines_of (Pc (rM (rM rI)) Pn) (rM (rT3 rI rI rI)) (Pc (rM (rM rI)) Pn) := T_lines_of.2
structure S_rank_of where
 xviews : List (List Int)
noncomputable def T_rank_of : {f : ((List (List Int)) × Unit) -> Option (Int × ((List (List Int)) × Unit)) // JF g_rank_of f (Pc (rM (rM rI)) Pn) rI (Pc (rM (rM rI)) Pn)} := ⟨_, by
 exact jf_rt (S := S_rank_of) (N := 1) (W := []) (c := c_rank_of) (Zn := []) (ro := rI) (Zp := [some ⟨S_rank_of.xviews, (rM (rM rI))⟩]) (Zr := [some ⟨S_rank_of.xviews, (rM (rM rI))⟩]) (init := (fun p => (⟨p.1⟩ : S_rank_of))) (jin_cons (get := S_rank_of.xviews) dC (fun _ => rfl) fun _ => jin_nil)
  (js_ret (je_b1 jb_len (je_call j_lines_of (ja1_bo 0 rfl ja1_nil) (ja2_ns 0 rfl ja2_nil) (ja3_ns 0 (get := S_rank_of.xviews) (put := fun s v => {s with xviews := v}) (h := ja3_nil))))) (jout_keep dC rfl jout_nil)⟩
noncomputable def t_rank_of := T_rank_of.1
theorem j_rank_of : JF g_rank_of t_rank_of (Pc (rM (rM rI)) Pn) rI (Pc (rM (rM rI)) Pn) := T_rank_of.2
structure S_coin_table where
 xheap : Int × (List (List (List Int)))
noncomputable def T_coin_table : {f : ((Int × (List (List (List Int)))) × Unit) -> Option ((List Int) × ((Int × (List (List (List Int)))) × Unit)) // JF g_coin_table f (Pc (rT2 rI (rM (rM (rM rI)))) Pn) (rL rI) (Pc (rT2 rI (rM (rM (rM rI)))) Pn)} := ⟨_, by
 exact jf_rt (S := S_coin_table) (N := 1) (W := []) (c := c_coin_table) (Zn := []) (ro := (rL rI)) (Zp := [some ⟨S_coin_table.xheap, (rT2 rI (rM (rM (rM rI))))⟩]) (Zr := [some ⟨S_coin_table.xheap, (rT2 rI (rM (rM (rM rI))))⟩]) (init := (fun p => (⟨p.1⟩ : S_coin_table))) (jin_cons (get := S_coin_table.xheap) dC (fun _ => rfl) fun _ => jin_nil)
  (js_ret (je_lc (ji_r2 (je_s (jp_i 1)) (je_op jo_I0 (je_call j_all_names (ja1_ex (je_s (jp_b1 jb_len (jp_tix tix21 (jp_v 0 rfl)))) ja1_nil) (ja2_ex ja2_nil) (ja3_ex ja3_nil)) (je_s (jp_i 1)))) Le.refl (jgc1 1 rfl) (fun x10 => jt_true) (fun x10 => (je_call j_rank_of (ja1_ex (je_call j_views_of (ja1_bo 0 rfl (ja1_bo 1 rfl ja1_nil)) (ja2_ns 0 rfl (ja2_sc 1 rfl ja2_nil)) (ja3_ns 0 (get := S_coin_table.xheap) (put := fun s v => {s with xheap := v}) (h := ja3_sc 1 ja3_nil))) ja1_nil) (ja2_ex ja2_nil) (ja3_ex ja3_nil))))) (jout_keep dC rfl jout_nil)⟩
noncomputable def t_coin_table := T_coin_table.1
theorem j_coin_table : JF g_coin_table t_coin_table (Pc (rT2 rI (rM (rM (rM rI)))) Pn) (rL rI) (Pc (rT2 rI (rM (rM (rM rI)))) Pn) := T_coin_table.2
structure S_common_views where
 xheap : Int × (List (List (List Int)))
 xa : Int
 xb : Int
 xlines : List (Int × Int × Int)
 xfound : List (List Int)
 xlead : Int
 xmask : Int
 xmade : Int
 xleft : Int × Int
noncomputable def T_common_views : {f : ((Int × (List (List (List Int)))) × Int × Int × Unit) -> Option ((List (List Int)) × ((Int × (List (List (List Int)))) × Int × Int × Unit)) // JF g_common_views f (Pc (rT2 rI (rM (rM (rM rI)))) (Pc rI (Pc rI Pn))) (rL (rL rI)) (Pc (rT2 rI (rM (rM (rM rI)))) (Pc rI (Pc rI Pn)))} := ⟨_, by
 exact jf_rt (S := S_common_views) (N := 9) (W := [3, 4, 5, 6, 7, 8, 3]) (c := c_common_views) (Zn := []) (ro := (rL (rL rI))) (Zp := [some ⟨S_common_views.xheap, (rT2 rI (rM (rM (rM rI))))⟩, some ⟨S_common_views.xa, rI⟩, some ⟨S_common_views.xb, rI⟩]) (Zr := [some ⟨S_common_views.xheap, (rT2 rI (rM (rM (rM rI))))⟩, some ⟨S_common_views.xa, rI⟩, some ⟨S_common_views.xb, rI⟩, none, none, none, none, none, none]) (init := (fun p => (⟨p.1, p.2.1, p.2.2.1, [], [], 0, 0, 0, (0, 0)⟩ : S_common_views))) (jin_cons (get := S_common_views.xheap) dC (fun _ => rfl) fun _ => (jin_cons (get := S_common_views.xa) dC (fun _ => rfl) fun _ => (jin_cons (get := S_common_views.xb) dC (fun _ => rfl) fun _ => jin_nil)))
  (js_seq (js_set 3 (get := S_common_views.xlines) (put := fun s v => {s with xlines := v}) (je_lc (ji_lst (je_call j_lines_of (ja1_ex (je_call j_views_of (ja1_bo 0 rfl (ja1_bo 1 rfl ja1_nil)) (ja2_ns 0 rfl (ja2_sc 1 rfl ja2_nil)) (ja3_ns 0 (get := S_common_views.xheap) (put := fun s v => {s with xheap := v}) (h := ja3_sc 1 ja3_nil))) ja1_nil) (ja2_ex ja2_nil) (ja3_ex ja3_nil))) Le.refl (jgc3 9 10 11 rfl rfl rfl) (fun x12 => jt_true) (fun x12 => (je_t3 (je_s (jp_v 9 rfl)) (je_s (jp_v 10 rfl)) (je_s (jp_v 10 rfl))))))
  (js_seq (js_set 4 (get := S_common_views.xfound) (put := fun s v => {s with xfound := v}) (je_lst (jl_nil (r := (rL rI)))))
  (js_seq (js_for (Zh := [some ⟨S_common_views.xheap, (rT2 rI (rM (rM (rM rI))))⟩, some ⟨S_common_views.xa, rI⟩, some ⟨S_common_views.xb, rI⟩, some ⟨S_common_views.xlines, (rM (rT3 rI rI rI))⟩, some ⟨S_common_views.xfound, (rL (rL rI))⟩, none, none, none, none]) (ji_lst (je_call j_lines_of (ja1_ex (je_call j_views_of (ja1_bo 0 rfl (ja1_bo 2 rfl ja1_nil)) (ja2_ns 0 rfl (ja2_sc 2 rfl ja2_nil)) (ja3_ns 0 (get := S_common_views.xheap) (put := fun s v => {s with xheap := v}) (h := ja3_sc 2 ja3_nil))) ja1_nil) (ja2_ex ja2_nil) (ja3_ex ja3_nil))) (by repeat (first | exact Le.nil | refine Le.som inferInstance ?_ | refine Le.non ?_)) (jg_t3 (jg_nm 5 (get := S_common_views.xlead) (put := fun s v => {s with xlead := v})) (jg_nm 6 (get := S_common_views.xmask) (put := fun s v => {s with xmask := v})) (jg_nm 7 (get := S_common_views.xmade) (put := fun s v => {s with xmade := v}))) (js_seq (js_set 8 (get := S_common_views.xleft) (put := fun s v => {s with xleft := v}) (je_call j_less_lines_2 (ja1_bo 3 rfl (ja1_bo 6 rfl (ja1_ex (je_s (jp_i 0)) ja1_nil))) (ja2_ns 3 rfl (ja2_sc 6 rfl (ja2_ex ja2_nil))) (ja3_ns 3 (get := S_common_views.xlines) (put := fun s v => {s with xlines := v}) (h := ja3_sc 6 (ja3_ex ja3_nil)))))
  (js_if (Z' := [some ⟨S_common_views.xheap, (rT2 rI (rM (rM (rM rI))))⟩, some ⟨S_common_views.xa, rI⟩, some ⟨S_common_views.xb, rI⟩, some ⟨S_common_views.xlines, (rM (rT3 rI rI rI))⟩, some ⟨S_common_views.xfound, (rL (rL rI))⟩, some ⟨S_common_views.xlead, rI⟩, some ⟨S_common_views.xmask, rI⟩, some ⟨S_common_views.xmade, rI⟩, some ⟨S_common_views.xleft, (rT2 rI rI)⟩]) (jt_e (je_op jo_eq (je_s (jp_tix tix20 (jp_v 8 rfl))) (je_s (jp_i 0)))) (js_drop (je_appV 4 (get := S_common_views.xfound) (put := fun s v => {s with xfound := v}) (je_call j_names_in (ja1_ex (je_s (jp_tix tix20 (jp_v 0 rfl))) (ja1_ex (je_s (jp_tix tix21 (jp_v 8 rfl))) ja1_nil)) (ja2_ex (ja2_ex ja2_nil)) (ja3_ex (ja3_ex ja3_nil))) rfl rfl)) (js_set 3 (get := S_common_views.xlines) (put := fun s v => {s with xlines := v}) (je_call j_with_line (ja1_bo 3 rfl (ja1_ex (je_s (jp_tix tix20 (jp_v 8 rfl))) (ja1_ex (je_s (jp_tix tix21 (jp_v 8 rfl))) ja1_nil))) (ja2_ns 3 rfl (ja2_ex (ja2_ex ja2_nil))) (ja3_ns 3 (get := S_common_views.xlines) (put := fun s v => {s with xlines := v}) (h := ja3_ex (ja3_ex ja3_nil))))))))
  (js_ret (je_mv 4 rfl))))) (jout_keep dC rfl (jout_keep dC rfl (jout_keep dC rfl jout_nil)))⟩
noncomputable def t_common_views := T_common_views.1
theorem j_common_views : JF g_common_views t_common_views (Pc (rT2 rI (rM (rM (rM rI)))) (Pc rI (Pc rI Pn))) (rL (rL rI)) (Pc (rT2 rI (rM (rM (rM rI)))) (Pc rI (Pc rI Pn))) := T_common_views.2
structure S_grown_by where
 xheap : Int × (List (List (List Int)))
 xname : Int
 xviews : List (List Int)
noncomputable def T_grown_by : {f : ((Int × (List (List (List Int)))) × Int × (List (List Int)) × Unit) -> Option (Int × ((Int × (List (List (List Int)))) × Int × (List (List Int)) × Unit)) // JF g_grown_by f (Pc (rT2 rI (rM (rM (rM rI)))) (Pc rI (Pc (rM (rM rI)) Pn))) rI (Pc (rT2 rI (rM (rM (rM rI)))) (Pc rI (Pc (rM (rM rI)) Pn)))} := ⟨_, by
 exact jf_rt (S := S_grown_by) (N := 3) (W := []) (c := c_grown_by) (Zn := []) (ro := rI) (Zp := [some ⟨S_grown_by.xheap, (rT2 rI (rM (rM (rM rI))))⟩, some ⟨S_grown_by.xname, rI⟩, some ⟨S_grown_by.xviews, (rM (rM rI))⟩]) (Zr := [some ⟨S_grown_by.xheap, (rT2 rI (rM (rM (rM rI))))⟩, some ⟨S_grown_by.xname, rI⟩, some ⟨S_grown_by.xviews, (rM (rM rI))⟩]) (init := (fun p => (⟨p.1, p.2.1, p.2.2.1⟩ : S_grown_by))) (jin_cons (get := S_grown_by.xheap) dC (fun _ => rfl) fun _ => (jin_cons (get := S_grown_by.xname) dC (fun _ => rfl) fun _ => (jin_cons (get := S_grown_by.xviews) dC (fun _ => rfl) fun _ => jin_nil)))
  (js_ret (je_op jo_I0 (je_call j_rank_of (ja1_ex (je_catF (je_ix (je_tix tix21 (je_cp 0 rfl)) (je_s (jp_v 1 rfl))) (je_cp 2 rfl)) ja1_nil) (ja2_ex ja2_nil) (ja3_ex ja3_nil)) (je_call j_rank_of (ja1_ex (je_ix (je_tix tix21 (je_cp 0 rfl)) (je_s (jp_v 1 rfl))) ja1_nil) (ja2_ex ja2_nil) (ja3_ex ja3_nil)))) (jout_keep dC rfl (jout_keep dC rfl (jout_keep dC rfl jout_nil)))⟩
noncomputable def t_grown_by := T_grown_by.1
theorem j_grown_by : JF g_grown_by t_grown_by (Pc (rT2 rI (rM (rM (rM rI)))) (Pc rI (Pc (rM (rM rI)) Pn))) rI (Pc (rT2 rI (rM (rM (rM rI)))) (Pc rI (Pc (rM (rM rI)) Pn))) := T_grown_by.2
structure S_four_shown where
 xheap : Int × (List (List (List Int)))
 xi : Int
 xj : Int
 xk : Int
 xl : Int
 xviews : List (List Int)
 xboth : Int
noncomputable def T_four_shown : {f : ((Int × (List (List (List Int)))) × Int × Int × Int × Int × Unit) -> Option (((List (List Int)) × (Int × Int × Int × Int)) × ((Int × (List (List (List Int)))) × Int × Int × Int × Int × Unit)) // JF g_four_shown f (Pc (rT2 rI (rM (rM (rM rI)))) (Pc rI (Pc rI (Pc rI (Pc rI Pn))))) (rT2 (rM (rM rI)) (rT4 rI rI rI rI)) (Pc (rT2 rI (rM (rM (rM rI)))) (Pc rI (Pc rI (Pc rI (Pc rI Pn)))))} := ⟨_, by
 exact jf_rt (S := S_four_shown) (N := 7) (W := [5, 6]) (c := c_four_shown) (Zn := []) (ro := (rT2 (rM (rM rI)) (rT4 rI rI rI rI))) (Zp := [some ⟨S_four_shown.xheap, (rT2 rI (rM (rM (rM rI))))⟩, some ⟨S_four_shown.xi, rI⟩, some ⟨S_four_shown.xj, rI⟩, some ⟨S_four_shown.xk, rI⟩, some ⟨S_four_shown.xl, rI⟩]) (Zr := [some ⟨S_four_shown.xheap, (rT2 rI (rM (rM (rM rI))))⟩, some ⟨S_four_shown.xi, rI⟩, some ⟨S_four_shown.xj, rI⟩, some ⟨S_four_shown.xk, rI⟩, some ⟨S_four_shown.xl, rI⟩, none, none]) (init := (fun p => (⟨p.1, p.2.1, p.2.2.1, p.2.2.2.1, p.2.2.2.2.1, [], 0⟩ : S_four_shown))) (jin_cons (get := S_four_shown.xheap) dC (fun _ => rfl) fun _ => (jin_cons (get := S_four_shown.xi) dC (fun _ => rfl) fun _ => (jin_cons (get := S_four_shown.xj) dC (fun _ => rfl) fun _ => (jin_cons (get := S_four_shown.xk) dC (fun _ => rfl) fun _ => (jin_cons (get := S_four_shown.xl) dC (fun _ => rfl) fun _ => jin_nil)))))
  (js_seq (js_set 5 (get := S_four_shown.xviews) (put := fun s v => {s with xviews := v}) (je_call j_common_views (ja1_bo 0 rfl (ja1_ex (je_s (jp_op jo_I (jp_i 1) (jp_v 1 rfl))) (ja1_ex (je_s (jp_op jo_I (jp_i 1) (jp_v 2 rfl))) ja1_nil))) (ja2_ns 0 rfl (ja2_ex (ja2_ex ja2_nil))) (ja3_ns 0 (get := S_four_shown.xheap) (put := fun s v => {s with xheap := v}) (h := ja3_ex (ja3_ex ja3_nil)))))
  (js_seq (js_set 6 (get := S_four_shown.xboth) (put := fun s v => {s with xboth := v}) (je_call j_value (ja1_ex (je_call j_shared_row (ja1_ex (je_s (jp_i 4)) (ja1_ex (je_s (jp_op jo_I (jp_i 1) (jp_v 3 rfl))) (ja1_ex (je_s (jp_op jo_I (jp_i 1) (jp_v 4 rfl))) (ja1_ex (je_s (jp_i 0)) ja1_nil)))) (ja2_ex (ja2_ex (ja2_ex (ja2_ex ja2_nil)))) (ja3_ex (ja3_ex (ja3_ex (ja3_ex ja3_nil))))) (ja1_ex (je_call j_coin_table (ja1_bo 0 rfl ja1_nil) (ja2_ns 0 rfl ja2_nil) (ja3_ns 0 (get := S_four_shown.xheap) (put := fun s v => {s with xheap := v}) (h := ja3_nil))) ja1_nil)) (ja2_ex (ja2_ex ja2_nil)) (ja3_ex (ja3_ex ja3_nil))))
  (js_ret (je_t2 (je_cp 5 rfl) (je_t4 (je_s (jp_b1 jb_len (jp_v 5 rfl))) (je_call j_grown_by (ja1_bo 0 rfl (ja1_bo 3 rfl (ja1_bo 5 rfl ja1_nil))) (ja2_ns 0 rfl (ja2_sc 3 rfl (ja2_ns 5 rfl ja2_nil))) (ja3_ns 0 (get := S_four_shown.xheap) (put := fun s v => {s with xheap := v}) (h := ja3_sc 3 (ja3_ns 5 (get := S_four_shown.xviews) (put := fun s v => {s with xviews := v}) (h := ja3_nil))))) (je_call j_grown_by (ja1_bo 0 rfl (ja1_bo 4 rfl (ja1_bo 5 rfl ja1_nil))) (ja2_ns 0 rfl (ja2_sc 4 rfl (ja2_ns 5 rfl ja2_nil))) (ja3_ns 0 (get := S_four_shown.xheap) (put := fun s v => {s with xheap := v}) (h := ja3_sc 4 (ja3_ns 5 (get := S_four_shown.xviews) (put := fun s v => {s with xviews := v}) (h := ja3_nil))))) (je_s (jp_v 6 rfl))))))) (jout_keep dC rfl (jout_keep dC rfl (jout_keep dC rfl (jout_keep dC rfl (jout_keep dC rfl jout_nil)))))⟩
noncomputable def t_four_shown := T_four_shown.1
theorem j_four_shown : JF g_four_shown t_four_shown (Pc (rT2 rI (rM (rM (rM rI)))) (Pc rI (Pc rI (Pc rI (Pc rI Pn))))) (rT2 (rM (rM rI)) (rT4 rI rI rI rI)) (Pc (rT2 rI (rM (rM (rM rI)))) (Pc rI (Pc rI (Pc rI (Pc rI Pn))))) := T_four_shown.2
structure S_lbeside where
 yscript : List Int
 ystart : Int
 yorder_here : List Int
 yi : Int
 yj : Int
 yk : Int
 yl : Int
 yone : Int × (List (List (List Int)))
 yother : Int × (List (List (List Int)))
 yrow : List Int
 yboth : Int × (List (List (List Int)))
 yfirst : Int × Int × Int × Int
 ysecond : Int × Int × Int × Int
noncomputable def T_lbeside : {f : ((List Int) × Int × (List Int) × Unit) -> Option (Bool × ((List Int) × Int × (List Int) × Unit)) // JF g_lbeside f (Pc (rM rI) (Pc rI (Pc (rL rI) Pn))) rB (Pc (rM rI) (Pc rI (Pc rAny Pn)))} := ⟨_, by
 exact jf_rt (S := S_lbeside) (N := 13) (W := [3, 4, 5, 6, 7, 8, 9, 10, 11, 12]) (c := c_lbeside) (Zn := []) (ro := rB) (Zp := [some ⟨S_lbeside.yscript, (rM rI)⟩, some ⟨S_lbeside.ystart, rI⟩, some ⟨S_lbeside.yorder_here, (rL rI)⟩]) (Zr := [some ⟨S_lbeside.yscript, (rM rI)⟩, some ⟨S_lbeside.ystart, rI⟩, none, none, none, none, none, none, none, none, none, none, none]) (init := (fun p => (⟨p.1, p.2.1, p.2.2.1, 0, 0, 0, 0, (0, []), (0, []), [], (0, []), (0, 0, 0, 0), (0, 0, 0, 0)⟩ : S_lbeside))) (jin_cons (get := S_lbeside.yscript) dC (fun _ => rfl) fun _ => (jin_cons (get := S_lbeside.ystart) dC (fun _ => rfl) fun _ => (jin_cons (get := S_lbeside.yorder_here) dC (fun _ => rfl) fun _ => jin_nil)))
  (js_seq (js_asgL4 (je_mv 2 rfl) (jg_nm 3 (get := S_lbeside.yi) (put := fun s v => {s with yi := v})) (jg_nm 4 (get := S_lbeside.yj) (put := fun s v => {s with yj := v})) (jg_nm 5 (get := S_lbeside.yk) (put := fun s v => {s with yk := v})) (jg_nm 6 (get := S_lbeside.yl) (put := fun s v => {s with yl := v})))
  (js_seq (js_set 7 (get := S_lbeside.yone) (put := fun s v => {s with yone := v}) (je_call j_lheap (ja1_bo 0 rfl (ja1_bo 1 rfl (ja1_ex (je_s (jp_i 4)) ja1_nil))) (ja2_ns 0 rfl (ja2_sc 1 rfl (ja2_ex ja2_nil))) (ja3_ns 0 (get := S_lbeside.yscript) (put := fun s v => {s with yscript := v}) (h := ja3_sc 1 (ja3_ex ja3_nil)))))
  (js_seq (js_set 8 (get := S_lbeside.yother) (put := fun s v => {s with yother := v}) (je_call j_lheap (ja1_bo 0 rfl (ja1_ex (je_s (jp_op jo_I0 (jp_v 1 rfl) (jp_i 5))) (ja1_ex (je_s (jp_i 4)) ja1_nil))) (ja2_ns 0 rfl (ja2_ex (ja2_ex ja2_nil))) (ja3_ns 0 (get := S_lbeside.yscript) (put := fun s v => {s with yscript := v}) (h := ja3_ex (ja3_ex ja3_nil)))))
  (js_seq (js_set 9 (get := S_lbeside.yrow) (put := fun s v => {s with yrow := v}) (je_call j_four_row (ja1_bo 3 rfl (ja1_bo 4 rfl (ja1_bo 5 rfl (ja1_bo 6 rfl ja1_nil)))) (ja2_sc 3 rfl (ja2_sc 4 rfl (ja2_sc 5 rfl (ja2_sc 6 rfl ja2_nil)))) (ja3_sc 3 (ja3_sc 4 (ja3_sc 5 (ja3_sc 6 ja3_nil))))))
  (js_seq (js_set 10 (get := S_lbeside.yboth) (put := fun s v => {s with yboth := v}) (je_call j_beside (ja1_bo 7 rfl (ja1_bo 8 rfl ja1_nil)) (ja2_ns 7 rfl (ja2_ns 8 rfl ja2_nil)) (ja3_ns 7 (get := S_lbeside.yone) (put := fun s v => {s with yone := v}) (h := ja3_ns 8 (get := S_lbeside.yother) (put := fun s v => {s with yother := v}) (h := ja3_nil)))))
  (js_seq (js_if (Z' := [some ⟨S_lbeside.yscript, (rM rI)⟩, some ⟨S_lbeside.ystart, rI⟩, none, some ⟨S_lbeside.yi, rI⟩, some ⟨S_lbeside.yj, rI⟩, some ⟨S_lbeside.yk, rI⟩, some ⟨S_lbeside.yl, rI⟩, some ⟨S_lbeside.yone, (rT2 rI (rM (rM (rM rI))))⟩, some ⟨S_lbeside.yother, (rT2 rI (rM (rM (rM rI))))⟩, some ⟨S_lbeside.yrow, (rM rI)⟩, some ⟨S_lbeside.yboth, (rT2 rI (rM (rM (rM rI))))⟩, none, none]) (jt_e (je_op jo_ne (je_call j_value (ja1_bo 9 rfl (ja1_ex (je_call j_coin_table (ja1_bo 10 rfl ja1_nil) (ja2_ns 10 rfl ja2_nil) (ja3_ns 10 (get := S_lbeside.yboth) (put := fun s v => {s with yboth := v}) (h := ja3_nil))) ja1_nil)) (ja2_ns 9 rfl (ja2_ex ja2_nil)) (ja3_ns 9 (get := S_lbeside.yrow) (put := fun s v => {s with yrow := v}) (h := ja3_ex ja3_nil))) (je_op jo_I0 (je_call j_value (ja1_bo 9 rfl (ja1_ex (je_call j_coin_table (ja1_bo 7 rfl ja1_nil) (ja2_ns 7 rfl ja2_nil) (ja3_ns 7 (get := S_lbeside.yone) (put := fun s v => {s with yone := v}) (h := ja3_nil))) ja1_nil)) (ja2_ns 9 rfl (ja2_ex ja2_nil)) (ja3_ns 9 (get := S_lbeside.yrow) (put := fun s v => {s with yrow := v}) (h := ja3_ex ja3_nil))) (je_call j_value (ja1_bo 9 rfl (ja1_ex (je_call j_coin_table (ja1_bo 8 rfl ja1_nil) (ja2_ns 8 rfl ja2_nil) (ja3_ns 8 (get := S_lbeside.yother) (put := fun s v => {s with yother := v}) (h := ja3_nil))) ja1_nil)) (ja2_ns 9 rfl (ja2_ex ja2_nil)) (ja3_ns 9 (get := S_lbeside.yrow) (put := fun s v => {s with yrow := v}) (h := ja3_ex ja3_nil)))))) js_dead js_skip)
  (js_seq (js_set 11 (get := S_lbeside.yfirst) (put := fun s v => {s with yfirst := v}) (je_tix tix21 (je_call j_four_shown (ja1_bo 7 rfl (ja1_bo 3 rfl (ja1_bo 4 rfl (ja1_bo 5 rfl (ja1_bo 6 rfl ja1_nil))))) (ja2_ns 7 rfl (ja2_sc 3 rfl (ja2_sc 4 rfl (ja2_sc 5 rfl (ja2_sc 6 rfl ja2_nil))))) (ja3_ns 7 (get := S_lbeside.yone) (put := fun s v => {s with yone := v}) (h := ja3_sc 3 (ja3_sc 4 (ja3_sc 5 (ja3_sc 6 ja3_nil))))))))
  (js_seq (js_set 12 (get := S_lbeside.ysecond) (put := fun s v => {s with ysecond := v}) (je_tix tix21 (je_call j_four_shown (ja1_bo 8 rfl (ja1_bo 3 rfl (ja1_bo 4 rfl (ja1_bo 5 rfl (ja1_bo 6 rfl ja1_nil))))) (ja2_ns 8 rfl (ja2_sc 3 rfl (ja2_sc 4 rfl (ja2_sc 5 rfl (ja2_sc 6 rfl ja2_nil))))) (ja3_ns 8 (get := S_lbeside.yother) (put := fun s v => {s with yother := v}) (h := ja3_sc 3 (ja3_sc 4 (ja3_sc 5 (ja3_sc 6 ja3_nil))))))))
  (js_ret (je_op jo_eq (je_tix tix21 (je_call j_four_shown (ja1_bo 10 rfl (ja1_bo 3 rfl (ja1_bo 4 rfl (ja1_bo 5 rfl (ja1_bo 6 rfl ja1_nil))))) (ja2_ns 10 rfl (ja2_sc 3 rfl (ja2_sc 4 rfl (ja2_sc 5 rfl (ja2_sc 6 rfl ja2_nil))))) (ja3_ns 10 (get := S_lbeside.yboth) (put := fun s v => {s with yboth := v}) (h := ja3_sc 3 (ja3_sc 4 (ja3_sc 5 (ja3_sc 6 ja3_nil))))))) (je_tuL4 (je_lc (ji_zip2 (je_cp 11 rfl) (je_cp 12 rfl)) Le.refl (jgc2 13 14 rfl rfl) (fun x13 => jt_true) (fun x13 => (je_s (jp_op jo_I0 (jp_v 13 rfl) (jp_v 14 rfl)))))))))))))))) (jout_keep dC rfl (jout_keep dC rfl (jout_any dC jout_nil)))⟩
noncomputable def t_lbeside := T_lbeside.1
theorem j_lbeside : JF g_lbeside t_lbeside (Pc (rM rI) (Pc rI (Pc (rL rI) Pn))) rB (Pc (rM rI) (Pc rI (Pc rAny Pn))) := T_lbeside.2
structure S_law where
 yscript : List Int
 yturn : Int
 yi : Int
 yj : Int
 yk : Int
 yl : Int
 yrow : List Int
 yorder_here : List Int
 ytable : List Int
 ycalled_here : List Int
noncomputable def T_law : {f : ((List Int) × Unit) -> Option (Bool × ((List Int) × Unit)) // JF g_law f (Pc (rM rI) Pn) rB (Pc (rM rI) Pn)} := ⟨_, by
 exact jf_rt (S := S_law) (N := 10) (W := [1, 2, 3, 4, 5, 6, 7, 8, 9]) (c := c_law) (Zn := []) (ro := rB) (Zp := [some ⟨S_law.yscript, (rM rI)⟩]) (Zr := [some ⟨S_law.yscript, (rM rI)⟩, none, none, none, none, none, none, none, none, none]) (init := (fun p => (⟨p.1, 0, 0, 0, 0, 0, [], [], [], []⟩ : S_law))) (jin_cons (get := S_law.yscript) dC (fun _ => rfl) fun _ => jin_nil)
  (js_seq (js_for (ji_r1 (je_s (jp_i 6))) Le.refl (jg_nm 1 (get := S_law.yturn) (put := fun s v => {s with yturn := v})) (js_seq (js_asgL4 (je_call j_lorder (ja1_ex (je_call j_lpile (ja1_bo 0 rfl (ja1_ex (je_s (jp_op jo_mul (jp_i 10) (jp_v 1 rfl))) ja1_nil)) (ja2_ns 0 rfl (ja2_ex ja2_nil)) (ja3_ns 0 (get := S_law.yscript) (put := fun s v => {s with yscript := v}) (h := ja3_ex ja3_nil))) (ja1_ex (je_s (jp_i 4)) ja1_nil)) (ja2_ex (ja2_ex ja2_nil)) (ja3_ex (ja3_ex ja3_nil))) (jg_nm 2 (get := S_law.yi) (put := fun s v => {s with yi := v})) (jg_nm 3 (get := S_law.yj) (put := fun s v => {s with yj := v})) (jg_nm 4 (get := S_law.yk) (put := fun s v => {s with yk := v})) (jg_nm 5 (get := S_law.yl) (put := fun s v => {s with yl := v})))
  (js_seq (js_set 6 (get := S_law.yrow) (put := fun s v => {s with yrow := v}) (je_call j_four_row (ja1_bo 2 rfl (ja1_bo 3 rfl (ja1_bo 4 rfl (ja1_bo 5 rfl ja1_nil)))) (ja2_sc 2 rfl (ja2_sc 3 rfl (ja2_sc 4 rfl (ja2_sc 5 rfl ja2_nil)))) (ja3_sc 2 (ja3_sc 3 (ja3_sc 4 (ja3_sc 5 ja3_nil))))))
  (js_seq (js_if (Z' := [some ⟨S_law.yscript, (rM rI)⟩, some ⟨S_law.yturn, rI⟩, some ⟨S_law.yi, rI⟩, some ⟨S_law.yj, rI⟩, some ⟨S_law.yk, rI⟩, some ⟨S_law.yl, rI⟩, some ⟨S_law.yrow, (rL rI)⟩, none, none, none]) (jt_or (jt_e (je_opR jo_ne (je_call j_four_row (ja1_bo 3 rfl (ja1_bo 2 rfl (ja1_bo 4 rfl (ja1_bo 5 rfl ja1_nil)))) (ja2_sc 3 rfl (ja2_sc 2 rfl (ja2_sc 4 rfl (ja2_sc 5 rfl ja2_nil)))) (ja3_sc 3 (ja3_sc 2 (ja3_sc 4 (ja3_sc 5 ja3_nil))))) (jp_v 6 rfl))) (jt_e (je_opR jo_ne (je_call j_four_row (ja1_bo 2 rfl (ja1_bo 3 rfl (ja1_bo 5 rfl (ja1_bo 4 rfl ja1_nil)))) (ja2_sc 2 rfl (ja2_sc 3 rfl (ja2_sc 5 rfl (ja2_sc 4 rfl ja2_nil)))) (ja3_sc 2 (ja3_sc 3 (ja3_sc 5 (ja3_sc 4 ja3_nil))))) (jp_v 6 rfl)))) js_dead js_skip)
  (js_seq (js_if (Z' := [some ⟨S_law.yscript, (rM rI)⟩, some ⟨S_law.yturn, rI⟩, some ⟨S_law.yi, rI⟩, some ⟨S_law.yj, rI⟩, some ⟨S_law.yk, rI⟩, some ⟨S_law.yl, rI⟩, some ⟨S_law.yrow, (rL rI)⟩, none, none, none]) (jt_e (je_op jo_ne (je_call j_four_table (ja1_bo 3 rfl (ja1_bo 2 rfl (ja1_bo 4 rfl (ja1_bo 5 rfl ja1_nil)))) (ja2_sc 3 rfl (ja2_sc 2 rfl (ja2_sc 4 rfl (ja2_sc 5 rfl ja2_nil)))) (ja3_sc 3 (ja3_sc 2 (ja3_sc 4 (ja3_sc 5 ja3_nil))))) (je_call j_four_table (ja1_bo 2 rfl (ja1_bo 3 rfl (ja1_bo 5 rfl (ja1_bo 4 rfl ja1_nil)))) (ja2_sc 2 rfl (ja2_sc 3 rfl (ja2_sc 5 rfl (ja2_sc 4 rfl ja2_nil)))) (ja3_sc 2 (ja3_sc 3 (ja3_sc 5 (ja3_sc 4 ja3_nil))))))) js_dead js_skip)
  (js_seq (js_set 7 (get := S_law.yorder_here) (put := fun s v => {s with yorder_here := v}) (je_call j_lorder (ja1_ex (je_call j_lpile (ja1_bo 0 rfl (ja1_ex (je_s (jp_op jo_I0 (jp_op jo_mul (jp_i 10) (jp_v 1 rfl)) (jp_i 1))) ja1_nil)) (ja2_ns 0 rfl (ja2_ex ja2_nil)) (ja3_ns 0 (get := S_law.yscript) (put := fun s v => {s with yscript := v}) (h := ja3_ex ja3_nil))) (ja1_ex (je_s (jp_i 4)) ja1_nil)) (ja2_ex (ja2_ex ja2_nil)) (ja3_ex (ja3_ex ja3_nil))))
  (js_seq (js_set 8 (get := S_law.ytable) (put := fun s v => {s with ytable := v}) (je_lc (ji_r1 (je_s (jp_i 15))) Le.refl (jgc1 10 rfl) (fun x4 => jt_true) (fun x4 => (je_call j_lnumber (ja1_ex (je_call j_lpile (ja1_bo 0 rfl (ja1_ex (je_s (jp_op jo_I0 (jp_op jo_mul (jp_i 10) (jp_v 1 rfl)) (jp_v 10 rfl))) ja1_nil)) (ja2_ns 0 rfl (ja2_ex ja2_nil)) (ja3_ns 0 (get := S_law.yscript) (put := fun s v => {s with yscript := v}) (h := ja3_ex ja3_nil))) ja1_nil) (ja2_ex ja2_nil) (ja3_ex ja3_nil)))))
  (js_seq (js_set 9 (get := S_law.ycalled_here) (put := fun s v => {s with ycalled_here := v}) (je_call j_four_row (ja1_ex (je_s (jp_op jo_ix (jp_v 7 rfl) (jp_v 2 rfl))) (ja1_ex (je_s (jp_op jo_ix (jp_v 7 rfl) (jp_v 3 rfl))) (ja1_ex (je_s (jp_op jo_ix (jp_v 7 rfl) (jp_v 4 rfl))) (ja1_ex (je_s (jp_op jo_ix (jp_v 7 rfl) (jp_v 5 rfl))) ja1_nil)))) (ja2_ex (ja2_ex (ja2_ex (ja2_ex ja2_nil)))) (ja3_ex (ja3_ex (ja3_ex (ja3_ex ja3_nil))))))
  (js_seq (js_if (Z' := [some ⟨S_law.yscript, (rM rI)⟩, some ⟨S_law.yturn, rI⟩, some ⟨S_law.yi, rI⟩, some ⟨S_law.yj, rI⟩, some ⟨S_law.yk, rI⟩, some ⟨S_law.yl, rI⟩, some ⟨S_law.yrow, (rM rI)⟩, some ⟨S_law.yorder_here, (rL rI)⟩, some ⟨S_law.ytable, (rM rI)⟩, some ⟨S_law.ycalled_here, (rM rI)⟩]) (jt_e (je_op jo_ne (je_call j_value (ja1_bo 9 rfl (ja1_ex (je_call j_lcalled (ja1_bo 8 rfl (ja1_bo 7 rfl ja1_nil)) (ja2_ns 8 rfl (ja2_ns 7 rfl ja2_nil)) (ja3_ns 8 (get := S_law.ytable) (put := fun s v => {s with ytable := v}) (h := ja3_ns 7 (get := S_law.yorder_here) (put := fun s v => {s with yorder_here := v}) (h := ja3_nil)))) ja1_nil)) (ja2_ns 9 rfl (ja2_ex ja2_nil)) (ja3_ns 9 (get := S_law.ycalled_here) (put := fun s v => {s with ycalled_here := v}) (h := ja3_ex ja3_nil))) (je_call j_value (ja1_bo 6 rfl (ja1_bo 8 rfl ja1_nil)) (ja2_ns 6 rfl (ja2_ns 8 rfl ja2_nil)) (ja3_ns 6 (get := S_law.yrow) (put := fun s v => {s with yrow := v}) (h := ja3_ns 8 (get := S_law.ytable) (put := fun s v => {s with ytable := v}) (h := ja3_nil)))))) js_dead js_skip)
  (js_if (Z' := [some ⟨S_law.yscript, (rM rI)⟩, some ⟨S_law.yturn, rI⟩, some ⟨S_law.yi, rI⟩, some ⟨S_law.yj, rI⟩, some ⟨S_law.yk, rI⟩, some ⟨S_law.yl, rI⟩, some ⟨S_law.yrow, (rM rI)⟩, some ⟨S_law.yorder_here, (rL rI)⟩, some ⟨S_law.ytable, (rM rI)⟩, some ⟨S_law.ycalled_here, (rM rI)⟩]) (jt_not (jt_e (je_call j_lbeside (ja1_bo 0 rfl (ja1_ex (je_s (jp_op jo_mul (jp_i 10) (jp_v 1 rfl))) (ja1_ex (je_lst (r := rI) (jl_cons (je_s (jp_v 2 rfl)) (jl_cons (je_s (jp_v 3 rfl)) (jl_cons (je_s (jp_v 4 rfl)) (jl_cons (je_s (jp_v 5 rfl)) jl_nil))))) ja1_nil))) (ja2_ns 0 rfl (ja2_ex (ja2_ex ja2_nil))) (ja3_ns 0 (get := S_law.yscript) (put := fun s v => {s with yscript := v}) (h := ja3_ex (ja3_ex ja3_nil)))))) js_dead js_skip))))))))))
  (js_ret (je_s (jp_b true)))) (jout_keep dC rfl jout_nil)⟩
noncomputable def t_law := T_law.1
theorem j_law : JF g_law t_law (Pc (rM rI) Pn) rB (Pc (rM rI) Pn) := T_law.2
end LW
namespace LW
open PySem L2 DD TT RK
theorem rng_mem {n x : Int} (h : x ∈ rng 0 n) : ∃ k : Nat, x = (k : Int) /\ (k : Int) < n := by
 unfold rng at h;obtain ⟨k, hk, rfl⟩ := List.mem_map.mp h;rw [List.mem_range] at hk;exact ⟨k, by omega, by omega⟩
theorem rng_len0 (n : Int) : (rng 0 n).length = n.toNat := by simp [rng]
theorem rng_get0 {n k : Int} {j : Nat} (h : (rng 0 n)[j]? = some k) : k = (j : Int) /\ (j : Int) < n := by
 unfold rng at h;rw [List.getElem?_map] at h;rcases hk : (List.range (n - 0).toNat)[j]? with _ | i
 ·rw [hk] at h; cases h
 ·rw [hk] at h
  have hl := (List.getElem?_eq_some_iff.mp hk).1;have hj := (List.getElem?_eq_some_iff.mp hk).2;simp only [List.length_range] at hl;simp only [List.getElem_range] at hj;subst hj;simp only [map_some, Option.some.injEq] at h;omega
theorem shl_ok {x : Int} (h0 : 0 <= x) (h1 : x <= 1000) : decide (0 <= x /\ x <= 1000000 /\ Int.natAbs 1 < 2 ^ 64) = true := decide_eq_true ⟨h0, by omega, by decide⟩
theorem d2 : decide ((0 : Int) < 2) = true := by decide
theorem seqR {S ρ : Type} {f g : S -> Option (TR S ρ)} {s s1 : S} (Q : Option (TR S ρ) -> Prop) (h1 : f s = some (TR.nx s1)) (h2 : Q (g s1)) : Q (TT.tSeq f g s) := by
 unfold TT.tSeq; rw [h1]; exact h2
theorem seqX {S ρ : Type} {f g : S -> Option (TR S ρ)} {s : S} {P : S -> Prop} (Q : Option (TR S ρ) -> Prop) (h1 : ∃ s1, f s = some (TR.nx s1) /\ P s1) (h2 : ∀ s1, P s1 -> Q (g s1)) : Q (TT.tSeq f g s) := by
 obtain ⟨s1, e, p⟩ := h1;exact seqR Q e (h2 s1 p)
theorem loop_bindE2 {S α ρ γ γ' : Type} {put : S -> α -> S} {b : S -> Option (TR S ρ)} {xs : List α} {s : S} {k : TR S ρ -> Option γ'} {k2 : γ' -> Option γ} {P : S -> Prop} (Q : Option γ -> Prop) (h : ∃ s', tLoop put b xs s = some (.nx s') /\ P s') (hk : ∀ s', P s' -> Q ((k (.nx s')).bind k2)) : Q (((tLoop put b xs s).bind k).bind k2) := by
 obtain ⟨a, e, p⟩ := h;rw [e]; exact hk a p
noncomputable def e3 (l : L3) : Int × Int × Int := (((2 ^ l.1 : Nat) : Int), (l.2.1 : Int), (l.2.2 : Int))
noncomputable def lessF (c : Int × Int) (x : Int × Int × Int) : Int × Int := if (!(Builtin.bitAnd c.1 x.1 == 0)) = true then (Builtin.bitXor c.1 x.2.1, Builtin.bitXor c.2 x.2.2) else c
theorem less_fold : ∀ (ls : List L3) (x : Nat × Nat), (ls.map e3).foldl lessF ((x.1 : Int), (x.2 : Int)) = (((lsR3 ls x).1 : Int), ((lsR3 ls x).2 : Int)) := by
 intro ls
 induction ls with
 | nil => intro x; rfl
 | cons l ls ih =>
  intro x;simp only [List.map_cons, List.foldl_cons, lsR3] at ih ⊢;have e : lessF ((x.1 : Int), (x.2 : Int)) (e3 l) = (((if x.1.testBit l.1 = true then (x.1 ^^^ l.2.1, x.2 ^^^ l.2.2) else x).1 : Int), ((if x.1.testBit l.1 = true then (x.1 ^^^ l.2.1, x.2 ^^^ l.2.2) else x).2 : Int)) := by
   unfold lessF e3;rw [lead_in];by_cases h : x.1.testBit l.1 = true
   ·simp only [if_pos h, bxor_nat]
   ·simp only [if_neg h]
  rw [e];exact ih _
theorem less_t (ls : List L3) (m q : Nat) : t_less_lines (ls.map e3, (m : Int), (q : Int), ()) = some ((((lsR3 ls (m, q)).1 : Int), ((lsR3 ls (m, q)).2 : Int)), ls.map e3, (m : Int), (q : Int), ()) := by
 have h := less_fold ls (m, q);unfold t_less_lines T_less_lines;simp only [TT.tSeq, bind_some, map_some];rw [Option.bind_assoc];refine loop_bind (S := S_less_lines) (P := fun s => s.xlines = ls.map e3 /\ (s.xmask, s.xmade) = (((lsR3 ls (m, q)).1 : Int), ((lsR3 ls (m, q)).2 : Int))) ?_ ?_
 ·rw [<- h]
  obtain ⟨s', h1, h2, h3⟩ := loop_fold (S := S_less_lines) (ρ := Int × Int) (v := fun s => (s.xmask, s.xmade)) (f := lessF) (I := fun s => s.xlines = ls.map e3) (J := fun _ => True) (xs := ls.map e3) (s := ⟨ls.map e3, (m : Int), (q : Int), 0, 0, 0⟩)
   (put := fun s v => { xlines := s.xlines, xmask := s.xmask, xmade := s.xmade, xlead := v.fst, xother := v.snd.fst, xhow := v.snd.snd })
   (b := fun s => (Option.map (fun v => (v, s)) (if (Py.ok TT.rI (Builtin.bitAnd s.xmask s.xlead) && Py.ok TT.rI 0 && decide (min (Py.k TT.rI) (Py.k TT.rI) <= 50)) = true then some !Builtin.bitAnd s.xmask s.xlead == 0 else none)).bind fun p => if p.fst = true then some (TR.nx { xlines := p.snd.xlines, xmask := Builtin.bitXor p.snd.xmask p.snd.xother, xmade := Builtin.bitXor p.snd.xmade p.snd.xhow, xlead := p.snd.xlead, xother := p.snd.xother, xhow := p.snd.xhow }) else some (TR.nx p.snd))
   (fun s x _ hi _ => by
    dsimp only;rw [ift okI];simp only [map_some, bind_some];unfold lessF;cases hb : (!Builtin.bitAnd s.xmask x.1 == 0)
    ·simp only [Bool.false_eq_true, if_false]
     exact ⟨_, rfl, hi, rfl⟩
    ·simp only [if_true]
     exact ⟨_, rfl, hi, rfl⟩) (fun _ _ _ _ => trivial) rfl trivial
  exact ⟨s', h1, h2, h3⟩
 ·intro s' hs
  obtain ⟨a1, a2, a3, a4, a5, a6⟩ := s';obtain ⟨f1, f2⟩ := hs;dsimp only at f1 f2;subst f1;simp only [bind_some, f2]
theorem e3_chg (m q : Nat) (l : L3) : e3 (chg3 m q l) = if (!(Builtin.bitAnd (e3 l).2.1 ((2 ^ m.log2 : Nat) : Int) == 0)) = true then ((e3 l).1, Builtin.bitXor (e3 l).2.1 (m : Int), Builtin.bitXor (e3 l).2.2 (q : Int)) else e3 l := by
 unfold e3;rw [lead_in];unfold chg3;by_cases h : l.2.1.testBit m.log2 = true
 ·simp only [if_pos h, bxor_nat]
 ·simp only [if_neg h]
theorem with_t {ls : List L3} (hl : ls.length <= 900) {m q : Nat} (h0 : m ≠ 0) (hm : m.log2 <= 900) : t_with_line (ls.map e3, (m : Int), (q : Int), ()) = some ((with3 ls m q).map e3, ls.map e3, (m : Int), (q : Int), ()) := by
 have hz : szC ([] : List (Int × Int × Int)).length = true := szc (by simp);have h1 : ∀ x : Int × Int × Int, szC ([x] : List (Int × Int × Int)).length = true := fun x => szc (by simp)
 unfold t_with_line T_with_line;simp only [TT.tSeq, bind_some, map_some];rw [blen_nat h0, ift (shl_ok oM oM), Int.toNat_natCast, pow_nat];simp only [bind_some, map_some, ift hz];rw [Option.bind_assoc];refine loop_bind (S := S_with_line) (P := fun s => s.xlines = ls.map e3 /\ s.xmask = (m : Int) /\ s.xmade = (q : Int) /\ s.xlead = ((2 ^ m.log2 : Nat) : Int) /\ s.xchanged = (ls.map (chg3 m q)).map e3) ?_ ?_
 ·refine loop_ixP (S := S_with_line) (fun j s => s.xlines = ls.map e3 /\ s.xmask = (m : Int) /\ s.xmade = (q : Int) /\ s.xlead = ((2 ^ m.log2 : Nat) : Int) /\ s.xchanged = ((ls.take j).map (chg3 m q)).map e3) ⟨rfl, rfl, rfl, rfl, rfl⟩ ?_ (fun s h => ⟨h.1, h.2.1, h.2.2.1, h.2.2.2.1, by rw [h.2.2.2.2, List.take_of_length_le (by simp)]⟩)
  intro j s x hx hi;obtain ⟨a1, a2, a3, a4, a5, a6, a7, a8⟩ := s;obtain ⟨f1, f2, f3, f4, f5⟩ := hi;dsimp only at f1 f2 f3 f4 f5;cases f1.symm; cases f2.symm; cases f3.symm; cases f4.symm;rw [List.getElem?_map] at hx;rcases hk : ls[j]? with _ | l
  ·rw [hk] at hx; cases hx
  ·rw [hk] at hx
   simp only [map_some, Option.some.injEq] at hx;subst hx;have hjl := (List.getElem?_eq_some_iff.mp hk).1;have ht : ((ls.take (j + 1)).map (chg3 m q)).map e3 = a5 ++ [e3 (chg3 m q l)] := by
    rw [f5, List.take_succ, hk]; simp
   have hlen : a5.length <= 1000 := by rw [f5]; simp; omega
   have ec := e3_chg m q l;dsimp only;rw [ift okI];simp only [map_some, bind_some];cases hb : (!Builtin.bitAnd (e3 l).2.1 ((2 ^ m.log2 : Nat) : Int) == 0)
   ·rw [hb] at ec
    simp only [Bool.false_eq_true, if_false] at ec ⊢;rw [ift (ltc hlen)];exact ⟨_, rfl, rfl, rfl, rfl, rfl, by rw [ht, ec]⟩
   ·rw [hb] at ec
    simp only [if_true] at ec ⊢;rw [ift (ltc hlen)];exact ⟨_, rfl, rfl, rfl, rfl, rfl, by rw [ht, ec]⟩
 ·intro s' hs
  obtain ⟨a1, a2, a3, a4, a5, a6, a7, a8⟩ := s';obtain ⟨f1, f2, f3, f4, f5⟩ := hs;dsimp only at f1 f2 f3 f4 f5;subst f1; subst f2; subst f3; subst f4; subst f5;simp only [bind_some, ift (h1 _), map_some];rw [ift (szc (by simp; omega))];simp only [bind_some, map_some];congr 1;unfold with3;rw [List.map_append];rfl
noncomputable def mk (v : List Int) : Nat := (v.map fun c => 2 ^ c.toNat).sum
theorem maskP_mk : ∀ v, maskP v = (mk v : Int) := by
 intro v
 induction v with
 | nil => rfl
 | cons c v ih =>
  have e1 : maskP (c :: v) = 1 * 2 ^ c.toNat + maskP v := by simp only [maskP, List.map_cons, List.sum_cons]
  have e2 : mk (c :: v) = 2 ^ c.toNat + mk v := by simp only [mk, List.map_cons, List.sum_cons]
  rw [e1, e2, ih, pow_nat, Int.natCast_add]
noncomputable def VO (B : Nat) (v : List Int) : Prop := v.length <= 1000 /\ (∀ c ∈ v, 0 <= c /\ c <= 1000) /\ mk v < 2 ^ B
theorem mask_t {B : Nat} {v : List Int} (h : VO B v) : t_mask_of (v, ()) = some ((mk v : Int), v, ()) := by
 obtain ⟨hl, hv, _⟩ := h;unfold t_mask_of T_mask_of;simp only [TT.tSeq, bind_some, map_some];rw [ift (szc hl), lc_map (f := fun c => (1 : Int) * 2 ^ c.toNat) (fun _ _ => rfl) (fun c hc => by rw [ift (shl_ok (hv c hc).1 (hv c hc).2)]; rfl)];simp only [bind_some, if_true, map_some];have e : (v.map fun c => (1 : Int) * 2 ^ c.toNat).sum = (mk v : Int) := maskP_mk v;rw [e]
theorem lines3_snoc : ∀ (ms : List Nat) (ls : List L3) (n m : Nat), lines3 ls n (ms ++ [m]) = step3 (lines3 ls n ms) m (2 ^ (n + ms.length)) := by
 intro ms
 induction ms with
 | nil => intro ls n m; rfl
 | cons a ms ih => intro ls n m; simp only [List.cons_append, lines3, ih, List.length_cons]; congr 2; omega
theorem lines3_ok {B : Nat} : ∀ (ms : List Nat) (ls : List L3) (n : Nat), Bd B ls -> (∀ m ∈ ms, m < 2 ^ B) -> Bd B (lines3 ls n ms) /\ (lines3 ls n ms).length <= ls.length + ms.length := by
 intro ms
 induction ms with
 | nil => intro ls n h _; exact ⟨h, by simp [lines3]⟩
 | cons m ms ih =>
  intro ls n h hm;have h1 := ih (step3 ls m (2 ^ n)) (n + 1) (step3_bd h (hm m (by simp))) fun x hx => hm x (by simp [hx])
  have h2 := step3_len ls m (2 ^ n);refine ⟨h1.1, ?_⟩;simp only [lines3, List.length_cons];omega
theorem enT_get {α : Type} : ∀ (xs : List α) (n j : Nat), (enT n xs)[j]? = (xs[j]?).map fun x => (((n + j : Nat) : Int), x) := by
 intro xs
 induction xs with
 | nil => intro n j; simp [enT]
 | cons x xs ih =>
  intro n j;cases j with
  | zero => simp [enT]
  | succ j => simp only [enT, List.getElem?_cons_succ, ih]; rw [show n + 1 + j = n + (j + 1) by omega]
noncomputable def LSt (vs : List (List Int)) (ls : List L3) (o : Option (TR S_lines_of (List (Int × Int × Int)))) : Prop := ∃ s : S_lines_of, o = some (TR.nx s) /\ s.xviews = vs /\ s.xlines = ls.map e3
theorem lines_t {B : Nat} (hB : B <= 900) {vs : List (List Int)} (hl : vs.length <= 800) (hv : ∀ v ∈ vs, VO B v) : t_lines_of (vs, ()) = some ((lines3 [] 0 (vs.map mk)).map e3, vs, ()) := by
 have hz : szC ([] : List (Int × Int × Int)).length = true := szc (by simp);have hms : ∀ m ∈ vs.map mk, m < 2 ^ B := fun m hm => by obtain ⟨v, h, rfl⟩ := List.mem_map.mp hm; exact (hv v h).2.2
 unfold t_lines_of T_lines_of;simp only [TT.tSeq, bind_some, map_some, ift hz];rw [Option.bind_assoc];refine loop_bind (S := S_lines_of) (P := fun s => s.xviews = vs /\ s.xlines = (lines3 [] 0 (vs.map mk)).map e3) ?_ ?_
 ·refine loop_ixP (S := S_lines_of) (fun j s => s.xviews = vs /\ s.xlines = (lines3 [] 0 ((vs.map mk).take j)).map e3) ⟨rfl, rfl⟩ ?_ (fun s h => ⟨h.1, by rw [h.2, List.take_of_length_le (by rw [enT_len]; simp)]⟩)
  intro j s x hx hi;obtain ⟨a1, a2, a3, a4, a5⟩ := s;obtain ⟨f1, f2⟩ := hi;dsimp only at f1 f2;cases f1.symm; cases f2.symm;rw [enT_get] at hx;rcases hk : vs[j]? with _ | v
  ·rw [hk] at hx; cases hx
  ·rw [hk] at hx
   simp only [map_some, Option.some.injEq, Nat.zero_add] at hx;subst hx;have hjl := (List.getElem?_eq_some_iff.mp hk).1;have hvo := hv v (List.mem_of_getElem? hk);have hk2 : (vs.map mk)[j]? = some (mk v) := by rw [List.getElem?_map, hk]; rfl
   have hlt : ((vs.map mk).take j).length = j := by simp; omega
   have et : (vs.map mk).take (j + 1) = (vs.map mk).take j ++ [mk v] := by rw [List.take_succ, hk2]; rfl
   have ok := lines3_ok (B := B) ((vs.map mk).take j) [] 0 (fun l h => by cases h) (fun m hm => hms m (List.mem_of_mem_take hm));rw [et, lines3_snoc, hlt, Nat.zero_add];generalize lines3 [] 0 ((vs.map mk).take j) = ls at ok ⊢;have hll : ls.length <= 800 := by have := ok.2; simp only [List.length_nil] at this; omega
   show LSt vs (step3 ls (mk v) (2 ^ j)) _;refine seqR _ (s1 := ⟨vs, ls.map e3, (j : Int), v, (((lsR3 ls (mk v, 2 ^ j)).1 : Int), ((lsR3 ls (mk v, 2 ^ j)).2 : Int))⟩) (by
    dsimp only;rw [mask_t hvo];simp only [map_some, bind_some];rw [ift (shl_ok oM oM), Int.toNat_natCast, pow_nat];simp only [map_some, bind_some];rw [less_t];rfl) ?_
   dsimp only;rw [ift okI];simp only [map_some, bind_some];have hbd := lsR3_bd ok.1 (x := (mk v, 2 ^ j)) hvo.2.2;by_cases h0 : (lsR3 ls (mk v, 2 ^ j)).1 = 0
   ·have es : step3 ls (mk v) (2 ^ j) = ls := by unfold step3; rw [if_neg (by simpa using h0)]
    rw [h0, es];exact ⟨_, rfl, rfl, rfl⟩
   ·have es : step3 ls (mk v) (2 ^ j) = with3 ls (lsR3 ls (mk v, 2 ^ j)).1 (lsR3 ls (mk v, 2 ^ j)).2 := by unfold step3; rw [if_pos h0]
    have en : (!(((lsR3 ls (mk v, 2 ^ j)).1 : Int) == 0)) = true := by
     rw [Bool.not_eq_true', beq_eq_false_iff_ne]; omega
    have hlg := log2_lt h0 hbd;rw [es, en, if_pos rfl, with_t oM h0 oM];exact ⟨_, rfl, rfl, rfl⟩
 ·intro s' hs
  obtain ⟨a1, a2, a3, a4, a5⟩ := s';obtain ⟨f1, f2⟩ := hs;dsimp only at f1 f2;subst f1; subst f2;rfl
theorem rank_t {B : Nat} (hB : B <= 900) {vs : List (List Int)} (hl : vs.length <= 800) (hv : ∀ v ∈ vs, VO B v) : t_rank_of (vs, ()) = some (((rk (vs.map mk) : Nat) : Int), vs, ()) := by
 unfold t_rank_of T_rank_of;simp only [lines_t hB hl hv, bind_some, map_some, List.length_map, lines3_len]
theorem mk_S2 (q : Int -> Bool) (n : Nat) : mk ((rng 0 n).filter q) = S2 (fun k => q (k : Int)) n := by
 have h := mask_S2 q n;rw [maskP_mk] at h;omega
noncomputable def gb (g : Nat) (k : Int) : Bool := g.testBit k.toNat
theorem names_t {n : Nat} (hn : n <= 900) (g : Nat) : t_names_in ((n : Int), (g : Int), ()) = some ((rng 0 n).filter (gb g), (n : Int), (g : Int), ()) := by
 unfold t_names_in T_names_in;simp only [TT.tSeq, bind_some, map_some, ift (rok (z := (n : Int)) oM oM)];rw [ift (szc (by rw [rng_len0]; omega)), lc_filter (p := gb g) (f := fun x => x) (fun x hx => by
  obtain ⟨k, rfl, hk⟩ := rng_mem hx;rw [ift (shl_ok oM oM)];simp only [bind_some, Int.toNat_natCast, map_some, ift okI];rw [pow_nat, lead_in];rfl) (fun x _ _ => rfl)]
 simp only [List.map_id', map_some, bind_some]
structure WG (B n : Nat) (h : Int × List (List (List Int))) : Prop where
 hB : B <= 900
 len : h.2.length = n
 n4 : 1 <= n /\ n <= 4
 row : ∀ r ∈ h.2, r.length <= 20 /\ ∀ v ∈ r, VO B v
noncomputable def rowOf (h : Int × List (List (List Int))) (k : Int) : List (List Int) := h.2.getD k.toNat []
theorem WG.at {B n : Nat} {h : Int × List (List (List Int))} (w : WG B n h) {k : Nat} (hk : k < n) : atI h.2 (k : Int) = some (rowOf h k) /\ (rowOf h k).length <= 20 /\ ∀ v ∈ rowOf h k, VO B v := by
 have hl := w.len;have hk2 : k < h.2.length := by omega
 have e : rowOf h k = h.2[k] := by simp [rowOf, List.getD, hk2]
 rw [e];exact ⟨at_nat hk2, w.row _ (List.getElem_mem hk2)⟩
noncomputable def VW (h : Int × List (List (List Int))) (n : Nat) (g : Nat) : List (List Int) := ((rng 0 n).filter (gb g)).flatMap (rowOf h)
theorem VW_ok {B n : Nat} {h : Int × List (List (List Int))} (w : WG B n h) {g : Nat} : ∀ v ∈ VW h n g, VO B v := by
 intro v hv;obtain ⟨k, hk, hv⟩ := List.mem_flatMap.mp hv;obtain ⟨j, rfl, hj⟩ := rng_mem (List.mem_filter.mp hk).1;exact (w.at oM).2.2 v hv
theorem take_flat {α β : Type} {xs : List α} {f : α -> List β} {j : Nat} {x : α} (h : xs[j]? = some x) : (xs.take (j + 1)).flatMap f = (xs.take j).flatMap f ++ f x := by
 rw [List.take_succ, h, List.flatMap_append];simp
theorem views_t {B n : Nat} {h : Int × List (List (List Int))} (w : WG B n h) (g : Nat) : t_views_of (h, (g : Int), ()) = some (VW h n g, h, (g : Int), ()) /\ (VW h n g).length <= 80 := by
 have h0 : szC ([] : List (List Int)).length = true := szc (by simp);have h4 := w.n4;have hxl : ((rng 0 n).filter (gb g)).length <= 4 := by
  have := List.length_filter_le (gb g) (rng 0 n)
  rw [rng_len0] at this;omega
 have hn := names_t (n := n) oM g;have key : ∃ s' : S_views_of, tLoop (ρ := List (List Int)) (fun (s : S_views_of) v => { xheap := s.xheap, xg := s.xg, xfound := s.xfound, xname := v }) (fun s => Option.map (fun p => TR.nx p.snd) ((Option.map (fun v => (v, s)) (atI s.xheap.snd s.xname)).bind fun p => if szC (p.snd.xfound.length + p.fst.length) = true then some ((), { xheap := p.snd.xheap, xg := p.snd.xg, xfound := p.snd.xfound ++ p.fst, xname := p.snd.xname }) else none)) ((rng 0 n).filter (gb g)) { xheap := h, xg := (g : Int), xfound := [], xname := 0 } = some (TR.nx s') /\ s'.xheap = h /\ s'.xg = (g : Int) /\ s'.xfound = VW h n g /\ s'.xfound.length <= 80 := by
  refine loop_ixP (S := S_views_of) (fun j s => s.xheap = h /\ s.xg = (g : Int) /\ s.xfound = (((rng 0 n).filter (gb g)).take j).flatMap (rowOf h) /\ s.xfound.length <= 20 * j) ⟨rfl, rfl, rfl, Nat.le_refl _⟩ ?_ (fun s q => ⟨q.1, q.2.1, by rw [q.2.2.1, List.take_length]; rfl, by have := q.2.2.2; omega⟩);intro j s x hx hi;obtain ⟨a1, a2, a3, a4⟩ := s;obtain ⟨e1, e2, e3, e4⟩ := hi;dsimp only at e1 e2 e3 e4;subst e1; subst e2;have hj := (List.getElem?_eq_some_iff.mp hx).1;obtain ⟨k, rfl, hk⟩ := rng_mem (List.mem_filter.mp (List.mem_of_getElem? hx)).1;obtain ⟨q1, q2, q3⟩ := w.at (k := k) oM;dsimp only;rw [q1];simp only [map_some, bind_some];rw [ift (szc oM)];exact ⟨_, rfl, rfl, rfl, by rw [take_flat hx, <- e3], by simp; omega⟩
 obtain ⟨s', e, p1, p2, p3, p4⟩ := key;obtain ⟨b1, b2, b3, b4⟩ := s';dsimp only at p1 p2 p3 p4;subst p1; subst p2; subst p3;refine ⟨?_, p4⟩;unfold t_views_of T_views_of;simp only [TT.tSeq, bind_some, map_some, ift h0];rw [w.len, hn];simp only [map_some, bind_some];rw [e];rfl
noncomputable def rg (h : Int × List (List (List Int))) (n g : Nat) : Nat := rk ((VW h n g).map mk)
noncomputable def tabP (h : Int × List (List (List Int))) (n : Nat) : List Int := (rng 1 ((2 ^ n : Nat) : Int)).map fun g => ((rg h n g.toNat : Nat) : Int)
theorem alln_t {n : Nat} (hn : n <= 900) : t_all_names ((n : Int), ()) = some (((2 ^ n : Nat) : Int) - 1, (n : Int), ()) := by
 unfold t_all_names T_all_names;simp only [TT.tSeq, bind_some, map_some];rw [ift (shl_ok oM oM), Int.toNat_natCast, pow_nat];rfl
theorem rng1_mem {N : Nat} {x : Int} (h : x ∈ rng 1 (N : Int)) : ∃ k : Nat, x = (k : Int) /\ 1 <= k /\ k < N := by
 unfold rng at h;obtain ⟨k, hk, rfl⟩ := List.mem_map.mp h;rw [List.mem_range] at hk;exact ⟨k + 1, by omega, by omega, by omega⟩
theorem rng1_len (N : Nat) : (rng 1 (N : Int)).length = N - 1 := by simp [rng]
theorem pow16 {n : Nat} (h : n <= 4) : 1 <= 2 ^ n /\ 2 ^ n <= 16 := ⟨Nat.pow_pos dC, show 2 ^ n <= 2 ^ 4 from Nat.pow_le_pow_right dC h⟩
theorem table_t {B n : Nat} {h : Int × List (List (List Int))} (w : WG B n h) : t_coin_table (h, ()) = some (tabP h n, h, ()) := by
 have h4 := w.n4;have hp := pow16 h4.2;have hB := w.hB;unfold t_coin_table T_coin_table;simp only [TT.tSeq, bind_some, map_some];rw [w.len, alln_t oM];simp only [bind_some, map_some, Int.sub_add_cancel];rw [ift (show (rokC 1 && rokC ((2 ^ n : Nat) : Int)) = true by rw [rok (z := 1) oM oM, rok oM oM]; rfl)];simp only [bind_some];rw [ift (szc (by rw [rng1_len]; omega)), lc_map (f := fun g => ((rg h n g.toNat : Nat) : Int)) (fun _ _ => rfl) (fun g hg => by
  obtain ⟨k, rfl, _, _⟩ := rng1_mem hg;obtain ⟨q1, q2⟩ := views_t w k;dsimp only;rw [q1];simp only [bind_some, map_some];rw [rank_t hB oM (VW_ok w)];rfl)]
 simp only [map_some, bind_some];rfl
noncomputable def dotI (a b : List Int) : Int := ((a.zip b).map fun z => z.1 * z.2).sum
noncomputable def Rw (h : Int × List (List (List Int))) (k : Nat) : List Nat := (rowOf h (k : Int)).map mk
noncomputable def nmG (g : Nat) : List Nat := (List.range 4).filter fun k => g.testBit k
theorem VW_nm (h : Int × List (List (List Int))) (g : Nat) : (VW h 4 g).map mk = (nmG g).flatMap (Rw h) := by
 unfold VW nmG;rw [List.map_flatMap, show rng 0 ((4 : Nat) : Int) = (List.range 4).map fun (k : Nat) => (k : Int) from rfl, List.filter_map, List.flatMap_map];rfl
theorem pm1 : ((List.range 4).all fun i => decide (nmG (2 ^ i) = [i])) = true := by decide +kernel
theorem pm2 : ((List.range 4).all fun i => (List.range 4).all fun j => i == j || [i, j].isPerm (nmG (2 ^ i + 2 ^ j))) = true := by decide +kernel
theorem pm3 : ((List.range 4).all fun i => (List.range 4).all fun j => (List.range 4).all fun k => i == j || (i == k || (j == k || [i, j, k].isPerm (nmG (2 ^ i + 2 ^ j + 2 ^ k))))) = true := by decide +kernel
theorem nm1 {i : Nat} (hi : i < 4) : nmG (2 ^ i) = [i] := of_decide_eq_true (List.all_eq_true.mp pm1 i (List.mem_range.mpr hi))
noncomputable def cmb (ts : List (Nat × Int)) : List Int := (List.range 15).map fun x => ((ts.filter fun t => t.1 == x + 1).map (·.2)).sum
theorem cmb_len (ts : List (Nat × Int)) : (cmb ts).length = 15 := by simp [cmb]
theorem dot_maps (f g : Nat -> Int) : ∀ l : List Nat, dotI (l.map f) (l.map g) = (l.map fun x => f x * g x).sum := by
 intro l
 induction l with
 | nil => rfl
 | cons x l ih =>
  unfold dotI at ih ⊢;simp only [List.map_cons, List.zip_cons_cons, List.sum_cons, ih]
theorem sum_add (f g : Nat -> Int) : ∀ l : List Nat, (l.map fun x => f x + g x).sum = (l.map f).sum + (l.map g).sum := by
 intro l
 induction l with
 | nil => rfl
 | cons x l ih => simp only [List.map_cons, List.sum_cons, ih]; omega
theorem tab15 (h : Int × List (List (List Int))) : tabP h 4 = (List.range 15).map fun x => ((rg h 4 (x + 1) : Nat) : Int) := rfl
noncomputable def s2 (i j : Nat) : List (Nat × Int) := [(2 ^ i, 1), (2 ^ j, 1), (2 ^ i + 2 ^ j, -1)]
noncomputable def s3 (i j k : Nat) : List (Nat × Int) := [(2 ^ i + 2 ^ k, 1), (2 ^ j + 2 ^ k, 1), (2 ^ i + 2 ^ j + 2 ^ k, -1), (2 ^ k, -1)]
noncomputable def sM (i j : Nat) : List (Nat × Int) := [(2 ^ i, -1), (2 ^ j, -1), (2 ^ i + 2 ^ j, 1)]
noncomputable def s4 (i j k l : Nat) : List (Nat × Int) := s3 i j k ++ (s3 i j l ++ (s2 k l ++ sM i j))
theorem value_t {a b : List Int} (ha : a.length <= 900) (hm : ∀ x ∈ a, -100 <= x /\ x <= 100) : t_value (a, b, ()) = some (dotI a b, a, b, ()) := by
 unfold t_value T_value;simp only [TT.tSeq, bind_some, map_some];rw [ift (szc (by first | omega | (rw [List.length_zip]; omega))), lc_map (f := fun z => z.1 * z.2) (fun _ _ => rfl) (fun z hz => by
  rw [ift (mulc (by have := hm z.1 (List.of_mem_zip hz).1; omega))]; rfl)]
 simp only [bind_some, and_self, if_true, map_some];rfl
section
variable (h : Int × List (List (List Int))) {i j k l : Nat} (hi : i < 4) (hj : j < 4) (hk : k < 4) (hl : l < 4) (hij : i ≠ j) (hik : i ≠ k) (hil : i ≠ l) (hjk : j ≠ k) (hjl : j ≠ l) (hkl : k ≠ l)
include hi hj hij hk hik hjk in
include hi hj hij hk hik hjk in
include hi hj hk hl hij hik hil hjk hjl hkl in
end
noncomputable def vwM (M y : Nat) : List Int := (rng 0 M).filter (gb y)
theorem mk_vw {M y : Nat} (hy : y < 2 ^ M) : mk (vwM M y) = y := by
 unfold vwM;rw [mk_S2];apply Nat.eq_of_testBit_eq;intro j;rw [S2_bit];by_cases h : j < M
 ·simp [h, gb]
 ·rw [Nat.testBit_lt_two_pow (Nat.lt_of_lt_of_le hy (Nat.pow_le_pow_right dC oM))]
  simp [h]
theorem vo_vw {M y : Nat} (hM : M <= 900) (hy : y < 2 ^ M) : VO M (vwM M y) := by
 refine ⟨?_, ?_, by rw [mk_vw hy]; exact hy⟩
 ·have := List.length_filter_le (gb y) (rng 0 M)
  rw [rng_len0] at this;unfold vwM;omega
 ·intro c hc
  obtain ⟨k, rfl, hk⟩ := rng_mem (List.mem_filter.mp hc).1;omega
noncomputable def vm (l : L3) : L3 := (l.1, l.2.1, l.2.1)
noncomputable def CmS (h : Int × List (List (List Int))) (a b M : Nat) (T : List Nat) (j : Nat) (ms : List Nat) (s : S_common_views) : Prop := s.xheap = h /\ s.xa = (a : Int) /\ s.xb = (b : Int) /\ ∃ ls fs, s.xlines = ls.map e3 /\ s.xfound = fs.map (vwM M) /\ cmF ls fs (ms.drop j) = T /\ Bd M ls /\ ls.length <= 80 + j /\ fs.length <= j
noncomputable def CmO (h : Int × List (List (List Int))) (a b M : Nat) (T : List Nat) (j : Nat) (ms : List Nat) (o : Option (TR S_common_views (List (List Int)))) : Prop := ∃ s, o = some (TR.nx s) /\ CmS h a b M T j ms s
theorem common_t {M n : Nat} {h : Int × List (List (List Int))} (w : WG M n h) (h1 : h.1 = (M : Int)) (a b : Nat) : t_common_views (h, (a : Int), (b : Int), ()) = some ((cmM ((VW h n a).map mk) ((VW h n b).map mk)).map (vwM M), h, (a : Int), (b : Int), ()) := by
 have hM := w.hB;obtain ⟨va, la⟩ := views_t w a;obtain ⟨vb, lb⟩ := views_t w b;have lia := lines_t hM (show (VW h n a).length <= 800 by omega) (VW_ok w);have lib := lines_t hM (show (VW h n b).length <= 800 by omega) (VW_ok w);have hms : ∀ g, ∀ m ∈ (VW h n g).map mk, m < 2 ^ M := fun g m hm => by obtain ⟨v, hv, rfl⟩ := List.mem_map.mp hm; exact (VW_ok w v hv).2.2
 have oka := lines3_ok (B := M) ((VW h n a).map mk) [] 0 (fun l h => by cases h) (hms a);have okb := lines3_ok (B := M) ((VW h n b).map mk) [] 0 (fun l h => by cases h) (hms b);simp only [List.length_nil, List.length_map, Nat.zero_add] at oka okb;have h0 : szC ([] : List (List Int)).length = true := szc (by simp);have hT : cmM ((VW h n a).map mk) ((VW h n b).map mk) = cmF ((lines3 [] 0 ((VW h n a).map mk)).map vm) [] ((lines3 [] 0 ((VW h n b).map mk)).map (·.2.1)) := rfl;generalize cmM ((VW h n a).map mk) ((VW h n b).map mk) = T at hT ⊢;generalize lines3 [] 0 ((VW h n a).map mk) = LA at lia oka hT;generalize lines3 [] 0 ((VW h n b).map mk) = LB at lib okb hT;unfold t_common_views T_common_views;simp only [TT.tSeq, va, lia, bind_some, map_some];rw [ift (szc (by rw [List.length_map]; omega)), lc_map (f := fun x => (x.1, x.2.1, x.2.1)) (fun _ _ => rfl) (fun _ _ => rfl)];simp only [bind_some, map_some, ift h0, vb, lib];refine loop_bindE2 (S := S_common_views) (P := CmS h a b M T LB.length (LB.map (·.2.1))) (fun o => o = some (T.map (vwM M), h, (a : Int), (b : Int), ())) ?_ ?_
 ·refine loop_ixP (S := S_common_views) (fun j s => CmS h a b M T j (LB.map (·.2.1)) s) ⟨rfl, rfl, rfl, LA.map vm, [], ?_, rfl, ?_, ?_, ?_, Nat.le_refl _⟩ ?_ (fun s q => by rw [List.length_map] at q; exact q)
  ·rw [List.map_map, List.map_map]; rfl
  ·rw [List.drop_zero]; exact hT.symm
  ·intro l hl
   obtain ⟨k, hk, rfl⟩ := List.mem_map.mp hl;exact oka.1 k hk
  ·rw [List.length_map]; omega
  ·intro j s x hx hi
   obtain ⟨a1, a2, a3, a4, a5, a6, a7, a8, a9⟩ := s;obtain ⟨f1, f2, f3, ls, fs, f4, f5, f6, f7, f8, f9⟩ := hi;dsimp only at f1 f2 f3 f4 f5;cases f1.symm; cases f2.symm; cases f3.symm; cases f4.symm; cases f5.symm;rw [List.getElem?_map] at hx;rcases hk : LB[j]? with _ | l
   ·rw [hk] at hx; cases hx
   ·rw [hk] at hx
    simp only [map_some, Option.some.injEq] at hx;subst hx;have hjl := (List.getElem?_eq_some_iff.mp hk).1;have hlm : l.2.1 < 2 ^ M := okb.1 l (List.mem_of_getElem? hk);have hd : (LB.map (·.2.1)).drop j = l.2.1 :: (LB.map (·.2.1)).drop (j + 1) := by
     rw [List.drop_eq_getElem_cons (by simpa using hjl)];congr 1;rw [List.getElem_map]
     have := (List.getElem?_eq_some_iff.mp hk).2
     rw [this]
    rw [hd] at f6;simp only [cmF] at f6;have el : (e3 l).2.1 = (l.2.1 : Int) := rfl;have hlt := less_t ls l.2.1 0;have hbd := lsR3_bd f7 (x := (l.2.1, 0)) hlm;show CmO h a b M T (j + 1) _ _;refine seqR _ (s1 := ⟨h, (a : Int), (b : Int), ls.map e3, fs.map (vwM M), (e3 l).1, (l.2.1 : Int), (e3 l).2.2, (((lsR3 ls (l.2.1, 0)).1 : Int), ((lsR3 ls (l.2.1, 0)).2 : Int))⟩) (by
     dsimp only;rw [el, show (0 : Int) = ((0 : Nat) : Int) from rfl, hlt];rfl) ?_
    dsimp only;rw [ift okI];simp only [map_some, bind_some];by_cases hz : (lsR3 ls (l.2.1, 0)).1 = 0
    ·rw [if_pos hz] at f6
     rw [hz, show ((((0 : Nat) : Int)) == 0) = true from rfl];simp only [if_true];rw [h1, names_t hM];simp only [map_some, bind_some];rw [ift (ltc (by rw [List.length_map]; omega))];exact ⟨_, rfl, rfl, rfl, rfl, ls, fs ++ [(lsR3 ls (l.2.1, 0)).2], rfl, by rw [List.map_append]; rfl, f6, f7, by omega, by simp; omega⟩
    ·rw [if_neg hz] at f6
     have hlg := log2_lt hz hbd;rw [show ((((lsR3 ls (l.2.1, 0)).1 : Int)) == 0) = false by rw [beq_eq_false_iff_ne]; omega];simp only [Bool.false_eq_true, if_false];rw [with_t oM hz oM];refine ⟨_, rfl, rfl, rfl, rfl, with3 ls (lsR3 ls (l.2.1, 0)).1 (lsR3 ls (l.2.1, 0)).2, fs, rfl, rfl, f6, with3_bd f7 hbd, ?_, by omega⟩;unfold with3;simp; omega
 ·intro s' hs
  obtain ⟨a1, a2, a3, a4, a5, a6, a7, a8, a9⟩ := s';obtain ⟨f1, f2, f3, ls, fs, f4, f5, f6, _⟩ := hs;dsimp only at f1 f2 f3 f4 f5;subst f1; subst f2; subst f3; subst f5;rw [List.drop_eq_nil_of_le (by simp)] at f6;simp only [cmF] at f6;subst f6;rfl
end LW
namespace LW
open PySem L2 DD TT
theorem mixed_t (c k : Int) : ∃ m, t_lmixed (c, k, ()) = some (m, c, k, ()) /\ 0 <= m /\ m < 2147483587 := by
 have d4 : decide ((0 : Int) < 2147483647) = true := by decide
 have d5 : decide ((0 : Int) < 2147483629) = true := by decide
 have d3 : decide ((0 : Int) < 2147483587) = true := by decide
 have m1 : ∀ q : Int, mulN q 48271 = true := fun q => mulc oM
 have m2 : ∀ q : Int, mulN q 69621 = true := fun q => mulc oM
 have m3 : ∀ q : Int, mulN (q % 2147483647) (q % 2147483647) = true := fun q => mulc oM
 have m4 : ∀ q : Int, mulN (q % 2147483629) (q % 2147483629) = true := fun q => mulc oM
 unfold t_lmixed T_lmixed;simp only [TT.tSeq, bind_some, map_some, ift d4, ift d5, ift d3, ift (m1 _), ift (m2 _), ift (m3 _), ift (m4 _)];exact ⟨_, rfl, Int.emod_nonneg _ dC, Int.emod_lt_of_pos _ dC⟩
theorem p18 : decide ((0 : Int) <= 18 /\ (18 : Int) <= 1000000 /\ Int.natAbs 10 < 2 ^ 64) = true := by decide
theorem sz3 {a b c : Int} : szC ([a, b, c] : List Int).length = true := szc (by simp)
theorem pile_t (r : List Int) (k : Nat) : ∃ p, t_lpile (r, (k : Int), ()) = some (p, r, (k : Int), ()) /\ p.length = 3 := by
 have m1 : ∀ (q : Int) (b : Bool), mulN q (if b = true then 1 else 0) = true := fun q b => mulc (by cases b <;> simp)
 have m2 : mulN 97 (k : Int) = true := mulc oM;unfold t_lpile T_lpile;simp only [TT.tSeq, bind_some, map_some];cases hd : decide ((k : Int) < (r.length : Int))
 ·simp only [Bool.false_eq_true, if_false, bind_some, map_some, ift p18, ift (m1 _ _), ift m2, ift sz3]
  exact ⟨_, rfl, rfl⟩
 ·have hk : k < r.length := by simpa using hd
  simp only [if_true, bind_some, map_some, at_nat hk, ift p18, ift (m1 _ _), ift m2, ift sz3];exact ⟨_, rfl, rfl⟩
theorem sz2i {a b : Int} : szC ([a, b] : List Int).length = true := szc (by simp)
theorem in_ok {a : Int} {ys : List Int} : inT (fun a_1 => Py.ok TT.rI a_1 && Py.ok TT.rI a && decide (min (Py.k TT.rI) (Py.k TT.rI) <= 50)) (fun a_1 => a_1 == a) ys = some (ys.any fun z => z == a) := by
 unfold inT;rw [if_pos (List.all_eq_true.mpr fun _ _ => okI)]
theorem take_t {p : List Int} (hp : p.length = 3) {m : Int} (hm : 1 <= m /\ m <= 10000000000) : ∃ d p', t_ltake (p, m, ()) = some (d, p', m, ()) /\ p'.length = 3 /\ 0 <= d /\ d < m := by
 match p, hp with
 | [a, b, c], _ =>
  have a0 : atI [a, b, c] 0 = some a := rfl;have a2 : atI [a, b, c] 2 = some c := rfl;have b1 : atI [a, b, c + 1] 1 = some b := rfl;have b2 : atI [a, b, c + 1] 2 = some (c + 1) := rfl;have i2 : ixN 3 2 = some 2 := rfl;have i0 : ixN 3 0 = some 0 := rfl;have l3 : [a, b, c].length = 3 := rfl;have e3 : [a, b, c].set 2 (c + 1) = [a, b, c + 1] := rfl;have e4 : ∀ x, [a, b, c].set 0 x = [x, b, c] := fun _ => rfl
  have dm : decide (0 < m) = true := decide_eq_true oM;have fd : ∀ x, fdvC x m = true := fun x => fdvc (by
   refine decide_eq_true ⟨by omega, ?_⟩;have h1 : m.natAbs < 2 ^ 64 := by omega
   have h2 := (Nat.log2_lt (n := m.natAbs) (k := 64) oM).mpr h1;omega)
  obtain ⟨q, hq, _, _⟩ := mixed_t b (c + 1);unfold t_ltake T_ltake;simp only [TT.tSeq, bind_some, map_some, a0, ift sz2i, in_ok];cases ([0, -1] : List Int).any fun z => z == a
  ·simp only [Bool.false_eq_true, if_false, bind_some, map_some, a0, ift dm, ift (fd _), l3, i0, e4]
   exact ⟨_, _, rfl, rfl, Int.emod_nonneg _ oM, Int.emod_lt_of_pos _ oM⟩
  ·simp only [if_true, bind_some, map_some, a2, l3, i2, e3, b1, b2, hq, ift dm]
   exact ⟨_, _, rfl, rfl, Int.emod_nonneg _ oM, Int.emod_lt_of_pos _ oM⟩
end LW
namespace LW
open PySem L2 DD TT RK
theorem vo_filter (q : Int -> Bool) {n : Nat} (hn : n <= 900) : VO n ((rng 0 n).filter q) := by
 refine ⟨?_, ?_, ?_⟩
 ·have := List.length_filter_le q (rng 0 n)
  rw [rng_len0] at this;omega
 ·intro c hc
  obtain ⟨k, rfl, hk⟩ := rng_mem (List.mem_filter.mp hc).1;omega
 ·rw [mk_S2]; exact S2_lt _ n
noncomputable def HSt (ns : List Int) (st M j : Nat) (o : Option (TR S_lheap (Int × List (List (List Int))))) : Prop := ∃ s : S_lheap, o = some (TR.nx s) /\ s.yscript = ns /\ s.ystart = (st : Int) /\ s.yn = 4 /\ s.ymany = (M : Int) /\ s.yviews.length = j /\ ∀ r ∈ s.yviews, r.length <= 3 /\ ∀ v ∈ r, VO M v
noncomputable def HIn (ns : List Int) (st M : Nat) (vs : List (List (List Int))) (i : Nat) (o : Option (TR S_lheap (Int × List (List (List Int))))) : Prop := ∃ s : S_lheap, o = some (TR.nx s) /\ s.yscript = ns /\ s.ystart = (st : Int) /\ s.yn = 4 /\ s.ymany = (M : Int) /\ s.yviews = vs /\ s.ypile_here.length = 3 /\ s.yrow.length = i /\ ∀ v ∈ s.yrow, VO M v
theorem heap_t (ns : List Int) (st : Nat) : ∃ h M, t_lheap (ns, (st : Int), 4, ()) = some (h, ns, (st : Int), 4, ()) /\ h.1 = ((M : Nat) : Int) /\ M <= 6 /\ WG M 4 h /\ ∀ r ∈ h.2, r.length <= 3 := by
 have h0 : szC ([] : List (List (List Int))).length = true := szc (by simp);have h1 : szC ([] : List (List Int)).length = true := szc (by simp);have r4 : rokC 4 = true := rok oM oM;obtain ⟨p0, e0, l0⟩ := pile_t ns st;obtain ⟨d0, p0', e1, l1, g0, g1⟩ := take_t l0 (m := 7) oM;obtain ⟨M, rfl⟩ : ∃ M : Nat, d0 = (M : Int) := ⟨d0.toNat, by omega⟩;have hM : M <= 6 := by omega
 have hpw : 1 <= (1 : Int) * 2 ^ M /\ (1 : Int) * 2 ^ M <= 10000000000 := by
  rw [pow_nat];have : 2 ^ M <= 2 ^ 6 := Nat.pow_le_pow_right dC hM;have h2 : 0 < 2 ^ M := Nat.pow_pos dC;omega
 unfold t_lheap T_lheap;simp only [TT.tSeq, e0, e1, bind_some, map_some, ift h0, ift r4];refine loop_bindE2 (S := S_lheap) (P := fun s => s.yscript = ns /\ s.ystart = (st : Int) /\ s.yn = 4 /\ s.ymany = (M : Int) /\ s.yviews.length = 4 /\ ∀ r ∈ s.yviews, r.length <= 3 /\ ∀ v ∈ r, VO M v) (fun o => ∃ h M, o = some (h, ns, (st : Int), (4 : Int), ()) /\ h.1 = ((M : Nat) : Int) /\ M <= 6 /\ WG M 4 h /\ ∀ r ∈ h.2, r.length <= 3) ?_ ?_
 ·refine loop_ixP (S := S_lheap) (fun j s => s.yscript = ns /\ s.ystart = (st : Int) /\ s.yn = 4 /\ s.ymany = (M : Int) /\ s.yviews.length = j /\ ∀ r ∈ s.yviews, r.length <= 3 /\ ∀ v ∈ r, VO M v) ⟨rfl, rfl, rfl, rfl, rfl, fun r hr => by cases hr⟩ ?_ (fun s q => ⟨q.1, q.2.1, q.2.2.1, q.2.2.2.1, by rw [q.2.2.2.2.1, rng_len0]; rfl, q.2.2.2.2.2⟩)
  intro j s x hx hi;obtain ⟨a1, a2, a3, a4, vs, a6, a7, a8, a9, a10⟩ := s;obtain ⟨f1, f2, f3, f4, g5, g6⟩ := hi;dsimp only at f1 f2 f3 f4 g5 g6;cases f1.symm; cases f2.symm; cases f3.symm; cases f4.symm;obtain ⟨rfl, hj⟩ := rng_get0 hx;show HSt ns st M (j + 1) _;obtain ⟨p, ep, lp⟩ := pile_t ns (st + 1 + j);rw [show ((st + 1 + j : Nat) : Int) = (st : Int) + 1 + (j : Int) by omega] at ep;refine seqR _ (by simp only [ep, map_some]; rfl) ?_;refine seqR _ (by simp only [ift h1, map_some]; rfl) ?_;obtain ⟨d, p', ed, lp', q0, q1⟩ := take_t lp (m := 4) oM;refine seqX (S := S_lheap) (P := fun s => s.yscript = ns /\ s.ystart = (st : Int) /\ s.yn = 4 /\ s.ymany = (M : Int) /\ s.yviews = vs /\ s.yrow.length <= 3 /\ ∀ v ∈ s.yrow, VO M v) _ (by
   simp only [ed, bind_some, map_some];rw [ift (rok oM oM)];simp only [bind_some];refine loop_ixP (S := S_lheap) (fun i s => s.yscript = ns /\ s.ystart = (st : Int) /\ s.yn = 4 /\ s.ymany = (M : Int) /\ s.yviews = vs /\ s.ypile_here.length = 3 /\ s.yrow.length = i /\ ∀ v ∈ s.yrow, VO M v) ⟨rfl, rfl, rfl, rfl, rfl, lp', rfl, fun r hr => by cases hr⟩ ?_ (fun s q => ⟨q.1, q.2.1, q.2.2.1, q.2.2.2.1, q.2.2.2.2.1, by rw [q.2.2.2.2.2.2.1, rng_len0]; omega, q.2.2.2.2.2.2.2⟩);intro i s y hy hi;obtain ⟨a1, a2, a3, a4, a5, a6, a7, row, a9, a10⟩ := s;obtain ⟨f1, f2, f3, f4, f5, f6, f7, f8⟩ := hi;dsimp only at f1 f2 f3 f4 f5 f6 f7 f8;cases f1.symm; cases f2.symm; cases f3.symm; cases f4.symm; cases f5.symm;obtain ⟨rfl, hi3⟩ := rng_get0 hy;obtain ⟨mm, p2, em, lp2, z0, z1⟩ := take_t f6 (m := 1 * 2 ^ M) hpw;show HIn ns st M vs (i + 1) _;refine seqR _ (by
    rw [ift (shl_ok (x := (M : Int)) oM oM)];simp only [Int.toNat_natCast, map_some, bind_some, em];rfl) ?_
   dsimp only;rw [ift (rok oM oM)];simp only [bind_some];rw [ift (szc (by rw [rng_len0]; omega)), lc_filter (p := fun x => Builtin.bitAnd (mm / 2 ^ x.toNat) 1 == 1) (f := fun x => x) (fun x hx => by
    obtain ⟨k, rfl, hk⟩ := rng_mem hx;rw [show decide ((0 : Int) <= (k : Int)) = true from decide_eq_true oM];simp only [if_true, bind_some, map_some, ift okI]) (fun x _ _ => rfl)]
   simp only [List.map_id', bind_some];rw [ift (ltc (show row.length <= 1000 by omega))];refine ⟨_, rfl, rfl, rfl, rfl, rfl, rfl, lp2, by simp [f7], ?_⟩;intro v hv2;dsimp only at hv2;rw [List.mem_append, List.mem_singleton] at hv2;rcases hv2 with hv2 | rfl
   ·exact f8 v hv2
   ·exact vo_filter _ oM) ?_
  intro s hs;obtain ⟨a1, a2, a3, a4, a5, a6, a7, row, a9, a10⟩ := s;obtain ⟨f1, f2, f3, f4, f5, f6, f7⟩ := hs;dsimp only at f1 f2 f3 f4 f5 f6 f7;cases f1.symm; cases f2.symm; cases f3.symm; cases f4.symm; cases f5.symm;refine ⟨_, (by rw [ift (ltc (show vs.length <= 1000 by omega))]; rfl), rfl, rfl, rfl, rfl, by simp [g5], ?_⟩;intro r hr;dsimp only at hr;rw [List.mem_append, List.mem_singleton] at hr;rcases hr with hr | rfl
  ·exact g6 r hr
  ·exact ⟨f6, f7⟩
 ·intro s' hs
  obtain ⟨a1, a2, a3, a4, a5, a6, a7, row, a9, a10⟩ := s';obtain ⟨f1, f2, f3, f4, f5, f6⟩ := hs;dsimp only at f1 f2 f3 f4 f5 f6;subst f1; subst f2; subst f3; subst f4;exact ⟨_, M, rfl, rfl, hM, ⟨by omega, f5, by decide, fun r hr => ⟨by have := (f6 r hr).1; omega, (f6 r hr).2⟩⟩, fun r hr => (f6 r hr).1⟩
end LW
namespace LW
open PySem L2 DD TT
theorem wh_steps {S ρ : Type} {ft : S -> Option (Bool × S)} {fb : S -> Option (TR S ρ)} {P : Nat -> S -> Prop} {N : Nat} (hs : ∀ j s, j < N -> P j s -> ft s = some (true, s) /\ ∃ s', fb s = some (.nx s') /\ P (j + 1) s') (he : ∀ s, P N s -> ft s = some (false, s)) :
  ∀ k j n s, j + k = N -> k < n -> P j s -> ∃ s', tWh ft fb n s = some (.nx s') /\ P N s' := by
 intro k
 induction k with
 | zero =>
  intro j n s hj hn h;obtain ⟨n, rfl⟩ : ∃ m, n = m + 1 := ⟨n - 1, by omega⟩;have hj : j = N := by omega
  subst hj;refine ⟨s, ?_, h⟩;simp only [tWh, he s h, bind_some, Bool.false_eq_true, if_false]
 | succ k ih =>
  intro j n s hj hn h;obtain ⟨n, rfl⟩ : ∃ m, n = m + 1 := ⟨n - 1, by omega⟩;obtain ⟨h1, s1, h2, h3⟩ := hs j s oM h;obtain ⟨s2, h4, h5⟩ := ih (j + 1) n s1 oM oM h3;refine ⟨s2, ?_, h5⟩;simp only [tWh, h1, bind_some, if_true, h2, h4]
theorem wh_P {S ρ : Type} {ft : S -> Option (Bool × S)} {fb : S -> Option (TR S ρ)} {P : Nat -> S -> Prop} {N n : Nat} {s : S} (h0 : P 0 s) (hn : N < n) (hs : ∀ j s, j < N -> P j s -> ft s = some (true, s) /\ ∃ s', fb s = some (.nx s') /\ P (j + 1) s') (he : ∀ s, P N s -> ft s = some (false, s)) : ∃ a, tWh ft fb n s = some a /\ ∃ s', a = TR.nx s' /\ P N s' := by
 obtain ⟨s', e, h⟩ := wh_steps hs he N 0 n s oM hn h0;exact ⟨_, e, s', rfl, h⟩
theorem bindQ {α γ : Type} {o : Option α} {k : α -> Option γ} {P : α -> Prop} (Q : Option γ -> Prop) (h : ∃ a, o = some a /\ P a) (hk : ∀ a, P a -> Q (k a)) : Q (o.bind k) := by
 obtain ⟨a, e, p⟩ := h;rw [e]; exact hk a p
noncomputable def reach : Nat -> List (List Int × List Int)
 | 0 => [([0, 1, 2, 3], [])]
 | k + 1 => (reach k).flatMap fun p => (List.range p.1.length).map fun d => (p.1.eraseIdx d, p.2 ++ [p.1.getD d 0])
noncomputable def perms : List (List Int) := (reach 4).map (·.2)
theorem reach_len : ([0, 1, 2, 3, 4].all fun j => (reach j).all fun p => decide (p.1.length = 4 - j /\ p.2.length = j)) = true := by decide +kernel
theorem reach_l {j : Nat} (hj : j <= 4) {l f : List Int} (h : (l, f) ∈ reach j) : l.length = 4 - j /\ f.length = j := by
 have h1 := List.all_eq_true.mp reach_len j (by
  have : j = 0 \/ j = 1 \/ j = 2 \/ j = 3 \/ j = 4 := by omega
  rcases this with rfl | rfl | rfl | rfl | rfl <;> simp)
 have h2 := List.all_eq_true.mp h1 (l, f) h;exact of_decide_eq_true h2
theorem reach_step {j : Nat} {l f : List Int} (h : (l, f) ∈ reach j) {d : Nat} (hd : d < l.length) : (l.eraseIdx d, f ++ [l[d]]) ∈ reach (j + 1) := by
 simp only [reach, List.mem_flatMap, List.mem_map, List.mem_range];exact ⟨(l, f), h, d, hd, by simp [List.getD, hd]⟩
theorem order_t {p : List Int} (hp : p.length = 3) : ∃ o p', t_lorder (p, 4, ()) = some (o, p', 4, ()) /\ o ∈ perms := by
 have h0 : szC ([] : List Int).length = true := szc (by simp);have h4 : rgC 4 = true := by decide
 unfold t_lorder T_lorder;simp only [TT.tSeq, bind_some, map_some, ift h0, ift h4, Option.bind_assoc];refine bindQ (P := fun t => ∃ s : S_lorder, t = TR.nx s /\ s.yn = 4 /\ s.ypile_here.length = 3 /\ (s.yleft, s.yfound) ∈ reach 4) (fun o => ∃ o' p', o = some (o', p', 4, ()) /\ o' ∈ perms) ?_ ?_
 ·refine wh_P (S := S_lorder) (P := fun j s => s.yn = 4 /\ s.ypile_here.length = 3 /\ (s.yleft, s.yfound) ∈ reach j) (N := 4) ⟨rfl, hp, show ((List.range (Int.toNat 4)).map (fun (q : Nat) => (q : Int)), ([] : List Int)) ∈ reach 0 by decide⟩ oM ?_ ?_
  ·intro j s hj hi
   obtain ⟨a1, a2, a3, a4⟩ := s;obtain ⟨e1, e2, e3⟩ := hi;dsimp only at e1 e2 e3;obtain ⟨q1, q2⟩ := reach_l oM e3;obtain ⟨d, p', et, lp, g0, g1⟩ := take_t e2 (m := (a3.length : Int)) oM;have hd : d.toNat < a3.length := by omega
   constructor
   ·rw [ift okLL, eqL_nil]
    cases a3 with
    | nil => simp at q1; omega
    | cons x xs => rfl
   ·simp only [et, map_some, bind_some]
    rw [ift (show rgC d = true from decide_eq_true oM), List.getElem?_eq_getElem hd];simp only [map_some, bind_some];rw [ift (ltc oM)];exact ⟨_, rfl, e1, lp, reach_step e3 hd⟩
  ·intro s hi
   obtain ⟨a1, a2, a3, a4⟩ := s;obtain ⟨e1, e2, e3⟩ := hi;dsimp only at e1 e2 e3;obtain ⟨q1, q2⟩ := reach_l oM e3;rw [ift okLL, eqL_nil];cases a3 with
   | nil => rfl
   | cons x xs => simp at q1
 ·intro t ht
  obtain ⟨s, rfl, e1, e2, e3⟩ := ht;obtain ⟨a1, a2, a3, a4⟩ := s;dsimp only at e1 e2 e3;subst e1;exact ⟨a4, a1, rfl, List.mem_map.mpr ⟨_, e3, rfl⟩⟩
end LW
namespace LW
open PySem L2 DD TT RK
noncomputable def Ok3 (o : Option (Int × List Int × Unit)) : Prop := ∃ v p', o = some (v, p', ()) /\ p'.length = 3
theorem p10 : decide ((0 : Int) <= 10 /\ (10 : Int) <= 1000000 /\ Int.natAbs 10 < 2 ^ 64) = true := by decide
theorem e10 : (10 : Int) ^ Int.toNat 10 = 10000000000 := by decide +kernel
theorem r4 : rokC 4 = true := rok oM oM
theorem number_k {p : List Int} (hp : p.length = 3) : Ok3 (t_lnumber (p, ())) := by
 obtain ⟨d, p1, e1, l1, h0, h1⟩ := take_t hp (m := 4) oM;obtain ⟨o, ho⟩ : ∃ o, o = t_lnumber (p, ()) := ⟨_, rfl⟩;rw [<- ho];unfold t_lnumber T_lnumber at ho;simp only [TT.tSeq, map_some] at ho
 (repeat rw [bind_some] at ho)
 dsimp only at ho;rw [e1, map_some, map_some] at ho
 (repeat rw [bind_some] at ho)
 dsimp only at ho
 (repeat rw [bind_some] at ho)
 dsimp only at ho;rw [ift okI, map_some, bind_some] at ho;dsimp only at ho;cases hq : (d == 0)
 ·rw [hq] at ho
  simp only [Bool.false_eq_true, if_false] at ho;rw [bind_some] at ho;dsimp only at ho
  (repeat rw [bind_some] at ho)
  dsimp only at ho;rw [ift okI, map_some, bind_some] at ho;dsimp only at ho;cases hq1 : (d == 1)
  ·obtain ⟨d2, p2, e2, l2, _, _⟩ := take_t l1 (m := 9) oM
   simp only [hq1, Bool.false_eq_true, if_false, bind_some, map_some, e2] at ho;exact ⟨_, _, ho, l2⟩
  ·obtain ⟨d2, p2, e2, l2, _, _⟩ := take_t l1 (m := 2001) oM
   simp only [hq1, if_true, bind_some, map_some, e2] at ho;exact ⟨_, _, ho, l2⟩
 ·rw [hq] at ho
  simp only [if_true] at ho;rw [bind_some] at ho;dsimp only at ho;rw [bind_some] at ho;dsimp only at ho;rw [ift r4, bind_some] at ho;dsimp only at ho;rw [Option.bind_assoc, Option.bind_assoc] at ho;rw [ho];refine loop_bindE (S := S_lnumber) (P := fun s => s.ypile_here.length = 3) Ok3 ?_ fun s' h => ?_
  ·refine loop_ixP (S := S_lnumber) (fun k s => s.ypile_here.length = 3) l1 ?_ (fun _ h => h)
   rintro k ⟨p2, w, n0, k0⟩ x hx hl;dsimp only at hl;have mm : mulN n0 10000000000 = true := mulc oM;obtain ⟨d2, p3, e2, l2, _, _⟩ := take_t hl (m := 10000000000) oM;simp only [bind_some, map_some, ift p10, e10, ift mm, e2];exact ⟨_, rfl, l2⟩
  ·obtain ⟨p2, w, n0, k0⟩ := s'
   dsimp only at h;obtain ⟨d2, p3, e2, l2, g0, g1⟩ := take_t h (m := 2) oM;have hd : d2 = 0 \/ d2 = 1 := by omega
   dsimp only;rw [bind_some];dsimp only;rw [bind_some, map_some, bind_some];dsimp only;rw [ift sz2i, bind_some];dsimp only;rw [bind_some, bind_some];dsimp only;rw [e2, map_some, bind_some];dsimp only;rcases hd with rfl | rfl
   ·exact ⟨_, _, rfl, l2⟩
   ·exact ⟨_, _, rfl, l2⟩
theorem number_t {p : List Int} (hp : p.length = 3) : ∃ v p', t_lnumber (p, ()) = some (v, p', ()) /\ p'.length = 3 := number_k hp
noncomputable def pI (i : Nat) : Int := ((2 ^ i : Nat) : Int)
noncomputable def small (r : List Int) : Bool := r.all fun x => decide (-100 <= x /\ x <= 100)
noncomputable def quads : List (Nat × Nat × Nat × Nat) := [(0, 1, 2, 3), (0, 1, 3, 2), (0, 2, 1, 3), (0, 2, 3, 1), (0, 3, 1, 2), (0, 3, 2, 1), (1, 0, 2, 3), (1, 0, 3, 2), (1, 2, 0, 3), (1, 2, 3, 0), (1, 3, 0, 2), (1, 3, 2, 0), (2, 0, 1, 3), (2, 0, 3, 1), (2, 1, 0, 3), (2, 1, 3, 0), (2, 3, 0, 1), (2, 3, 1, 0), (3, 0, 1, 2), (3, 0, 2, 1), (3, 1, 0, 2), (3, 1, 2, 0), (3, 2, 0, 1), (3, 2, 1, 0)]
noncomputable def ftb (k l : Nat) : List Int := (List.range 15).map fun x => if x + 1 == 2 ^ k + 2 ^ l then 4 else min 4 (((nmG (x + 1)).length : Int) + 1)
noncomputable def ckq (q : Nat × Nat × Nat × Nat) : Bool := match q with
 | (i, j, k, l) => decide (t_shared_row (4, pI k, pI l, 0, ()) = some (cmb (s2 k l), 4, pI k, pI l, 0, ())) && (decide (t_four_row ((i : Int), (j : Int), (k : Int), (l : Int), ()) = some (cmb (s4 i j k l), (i : Int), (j : Int), (k : Int), (l : Int), ())) && (decide (t_four_row ((j : Int), (i : Int), (k : Int), (l : Int), ()) = some (cmb (s4 i j k l), (j : Int), (i : Int), (k : Int), (l : Int), ())) && (decide (t_four_row ((i : Int), (j : Int), (l : Int), (k : Int), ()) = some (cmb (s4 i j k l), (i : Int), (j : Int), (l : Int), (k : Int), ())) && (decide (t_four_table ((j : Int), (i : Int), (k : Int), (l : Int), ()) = some (ftb k l, (j : Int), (i : Int), (k : Int), (l : Int), ())) && (decide (t_four_table ((i : Int), (j : Int), (l : Int), (k : Int), ()) = some (ftb k l, (i : Int), (j : Int), (l : Int), (k : Int), ())) && (small (cmb (s2 k l)) && (small (cmb (s4 i j k l)) && decide (i < 4 /\ j < 4 /\ k < 4 /\ l < 4 /\ i ≠ j /\ i ≠ k /\ i ≠ l /\ j ≠ k /\ j ≠ l /\ k ≠ l))))))))
theorem ckq_all : quads.all ckq = true := by decide +kernel
theorem perms_q : (perms.all fun o => (quads.map fun q => [(q.1 : Int), (q.2.1 : Int), (q.2.2.1 : Int), (q.2.2.2 : Int)]).contains o) = true := by decide +kernel
theorem small_of {r : List Int} (h : small r = true) : ∀ x ∈ r, -100 <= x /\ x <= 100 := fun x hx => of_decide_eq_true (List.all_eq_true.mp h x hx)
structure Qd (i j k l : Nat) : Prop where
 e5 : t_shared_row (4, pI k, pI l, 0, ()) = some (cmb (s2 k l), 4, pI k, pI l, 0, ())
 e6 : t_four_row ((i : Int), (j : Int), (k : Int), (l : Int), ()) = some (cmb (s4 i j k l), (i : Int), (j : Int), (k : Int), (l : Int), ())
 e7 : t_four_row ((j : Int), (i : Int), (k : Int), (l : Int), ()) = some (cmb (s4 i j k l), (j : Int), (i : Int), (k : Int), (l : Int), ())
 e8 : t_four_row ((i : Int), (j : Int), (l : Int), (k : Int), ()) = some (cmb (s4 i j k l), (i : Int), (j : Int), (l : Int), (k : Int), ())
 e9 : t_four_table ((j : Int), (i : Int), (k : Int), (l : Int), ()) = some (ftb k l, (j : Int), (i : Int), (k : Int), (l : Int), ())
 e10 : t_four_table ((i : Int), (j : Int), (l : Int), (k : Int), ()) = some (ftb k l, (i : Int), (j : Int), (l : Int), (k : Int), ())
 b4 : ∀ x ∈ cmb (s2 k l), -100 <= x /\ x <= 100
 b5 : ∀ x ∈ cmb (s4 i j k l), -100 <= x /\ x <= 100
 n : i < 4 /\ j < 4 /\ k < 4 /\ l < 4 /\ i ≠ j /\ i ≠ k /\ i ≠ l /\ j ≠ k /\ j ≠ l /\ k ≠ l
theorem qd_of {i j k l : Nat} (hq : (i, j, k, l) ∈ quads) : Qd i j k l := by
 have h2 := List.all_eq_true.mp ckq_all _ hq;simp only [ckq, Bool.and_eq_true, decide_eq_true_eq] at h2;obtain ⟨c1, c2, c3, c4, c5, c6, c7, c8, c9⟩ := h2;exact ⟨c1, c2, c3, c4, c5, c6, small_of c7, small_of c8, c9⟩
theorem quad_of {o : List Int} (h : o ∈ perms) : ∃ i j k l : Nat, o = [(i : Int), (j : Int), (k : Int), (l : Int)] /\ (i, j, k, l) ∈ quads := by
 have h1 := List.all_eq_true.mp perms_q o h;rw [List.contains_iff_mem] at h1;obtain ⟨⟨i, j, k, l⟩, hq, e⟩ := List.mem_map.mp h1;exact ⟨i, j, k, l, e.symm, hq⟩
theorem Rw_ok {B n : Nat} {h : Int × List (List (List Int))} (w : WG B n h) {k : Nat} (hk : k < n) : ∀ m ∈ Rw h k, m < 2 ^ B := fun m hm => by
 obtain ⟨v, hv, rfl⟩ := List.mem_map.mp hm;exact ((w.at hk).2.2 v hv).2.2
theorem grown_t {B n : Nat} {h : Int × List (List (List Int))} (w : WG B n h) {k : Nat} (hk : k < n) {vs : List (List Int)} (hl : vs.length <= 200) (hv : ∀ v ∈ vs, VO B v) :
  t_grown_by (h, (k : Int), vs, ()) = some (((rk (Rw h k ++ vs.map mk) : Nat) : Int) - ((rk (Rw h k) : Nat) : Int), h, (k : Int), vs, ()) := by
 obtain ⟨q1, q2, q3⟩ := w.at hk;have hB := w.hB;unfold t_grown_by T_grown_by;simp only [TT.tSeq, bind_some, map_some, q1];rw [ift (szc oM)];simp only [bind_some, map_some];rw [rank_t hB (by rw [List.length_append]; omega) (fun v h => by
  rcases List.mem_append.mp h with h | h
  ·exact q3 v h
  ·exact hv v h)]
 simp only [bind_some, map_some, q1];rw [rank_t hB oM q3];simp only [bind_some, map_some, List.map_append];rfl
noncomputable def Cm (h : Int × List (List (List Int))) (i j : Nat) : List Nat := cmM (Rw h i) (Rw h j)
theorem VW_one {h : Int × List (List (List Int))} {i : Nat} (hi : i < 4) : (VW h 4 (2 ^ i)).map mk = Rw h i := by
 rw [VW_nm, nm1 hi]; simp
theorem shown_t {M : Nat} {h : Int × List (List (List Int))} (w : WG M 4 h) (h1 : h.1 = (M : Int)) {i j k l : Nat} (q : Qd i j k l) :
  ∃ vs, t_four_shown (h, (i : Int), (j : Int), (k : Int), (l : Int), ()) = some ((vs, ((Cm h i j).length : Int), ((rk (Rw h k ++ Cm h i j) : Nat) : Int) - ((rk (Rw h k) : Nat) : Int), ((rk (Rw h l ++ Cm h i j) : Nat) : Int) - ((rk (Rw h l) : Nat) : Int), dotI (cmb (s2 k l)) (tabP h 4)), h, (i : Int), (j : Int), (k : Int), (l : Int), ()) /\ vs.length = (Cm h i j).length := by
 obtain ⟨hi, hj, hk, hl, _⟩ := q.n;have hM := w.hB;have ec := common_t w h1 (2 ^ i) (2 ^ j);rw [VW_one hi, VW_one hj] at ec;have hcm := cm_is (Rw h i) (Rw h j);have hlt : ∀ z ∈ Cm h i j, z < 2 ^ M := fun z hz => spans_lt (Rw_ok w hi) (hcm.1 z hz).1
 have hvo : ∀ v ∈ (Cm h i j).map (vwM M), VO M v := fun v hv => by
  obtain ⟨z, hz, rfl⟩ := List.mem_map.mp hv;exact vo_vw hM (hlt z hz)
 have hmk : ((Cm h i j).map (vwM M)).map mk = Cm h i j := by
  rw [List.map_map];have : (Cm h i j).map (mk ∘ vwM M) = (Cm h i j).map id := List.map_congr_left fun z hz => mk_vw (hlt z hz)
  rw [this, List.map_id]
 have hrl : rk (Rw h i) <= 20 := by
  have h2 := gr_le (Rw h i) [];have h3 := (w.at hi).2.1;unfold Rw at h2 ⊢;rw [List.length_map] at h2;unfold rk;omega
 have hll : (Cm h i j).length <= 200 := by
  have h2 := rk_le (as := Rw h i) (bs := Cm h i j) fun b hb => (hcm.1 b hb).1
  have h3 : rk (Cm h i j) = (Cm h i j).length := hcm.2.1;omega
 have g1 := grown_t w hk (vs := (Cm h i j).map (vwM M)) (by rw [List.length_map]; exact hll) hvo;have g2 := grown_t w hl (vs := (Cm h i j).map (vwM M)) (by rw [List.length_map]; exact hll) hvo;rw [hmk] at g1 g2;have et := table_t w;refine ⟨(Cm h i j).map (vwM M), ?_, by rw [List.length_map]⟩;have ec' : t_common_views (h, ((2 ^ i : Nat) : Int), ((2 ^ j : Nat) : Int), ()) = some ((Cm h i j).map (vwM M), h, ((2 ^ i : Nat) : Int), ((2 ^ j : Nat) : Int), ()) := ec;have e5 : t_shared_row (4, ((2 ^ k : Nat) : Int), ((2 ^ l : Nat) : Int), 0, ()) = some (cmb (s2 k l), 4, ((2 ^ k : Nat) : Int), ((2 ^ l : Nat) : Int), 0, ()) := q.e5;unfold t_four_shown T_four_shown;simp only [TT.tSeq, bind_some, map_some];rw [ift (shl_ok (x := (i : Int)) oM oM)];simp only [bind_some, map_some];rw [ift (shl_ok (x := (j : Int)) oM oM)];simp only [bind_some, map_some, Int.toNat_natCast, pow_nat, ec'];rw [ift (shl_ok (x := (k : Int)) oM oM)];simp only [bind_some, map_some];rw [ift (shl_ok (x := (l : Int)) oM oM)];simp only [bind_some, map_some, Int.toNat_natCast, pow_nat, e5, et, value_t (b := tabP h 4) (show (cmb (s2 k l)).length <= 900 by rw [cmb_len]; decide) q.b4, g1, g2, List.length_map]
noncomputable abbrev Hh := Int × List (List (List Int))
noncomputable def mvd (m : Int) (vs : List (List Int)) : List (List Int) := vs.map fun v => v.map fun c => c + m
theorem mvd0 (vs : List (List Int)) : mvd 0 vs = vs := by
 unfold mvd;have : (fun v : List Int => v.map fun c => c + 0) = id := by funext v; simp
 rw [this, List.map_id]
theorem moved_t {vs : List (List Int)} {m : Int} (hl : vs.length <= 1000) (hv : ∀ v ∈ vs, v.length <= 1000) : t_moved_views (vs, m, ()) = some (mvd m vs, vs, m, ()) := by
 unfold t_moved_views T_moved_views;simp only [TT.tSeq, bind_some, map_some, ift (szc hl)];have h := lc_map (S := S_moved_views) (s := { xviews := vs, xmany := m }) (ft := fun _ s => some (true, s)) (fe := fun x9 s => if szC x9.length = true then TT.tLc (fun x10 s => some (true, s)) (fun x10 s => some (x10 + s.xmany, s)) x9 s else none) (f := fun (v : List Int) => v.map fun c => c + m) (xs := vs) (fun _ _ => rfl) (fun v hh => by
  rw [ift (szc (hv v hh))];exact lc_map (f := fun c => c + m) (fun _ _ => rfl) (fun _ _ => rfl))
 rw [h];rfl
noncomputable def bes (a b : Hh) : Hh := (a.1 + b.1, (a.2.zip b.2).map fun z => z.1 ++ mvd a.1 z.2)
structure Sm (h : Hh) : Prop where
 n : h.2.length <= 4
 r : ∀ x ∈ h.2, x.length <= 20 /\ ∀ v ∈ x, v.length <= 1000
theorem WG.sm {B n : Nat} {h : Hh} (w : WG B n h) : Sm h := ⟨by have := w.len; have := w.n4; omega, fun x hx => ⟨(w.row x hx).1, fun v hv => ((w.row x hx).2 v hv).1⟩⟩
theorem beside_t {a b : Hh} (ha : Sm a) (hb : Sm b) : t_beside (a, b, ()) = some (bes a b, a, b, ()) := by
 unfold t_beside T_beside;have hz : (a.2.zip b.2).length <= 1000 := by have := ha.n; simp only [List.length_zip]; omega
 simp only [TT.tSeq, bind_some, map_some, ift (szc hz)];rw [lc_map (f := fun (z : List (List Int) × List (List Int)) => z.1 ++ mvd a.1 z.2) (fun _ _ => rfl) (fun z hzm => by
  obtain ⟨z1, z2⟩ := z;obtain ⟨m1, m2⟩ := List.of_mem_zip hzm;have q1 := ha.r z1 m1;have q2 := hb.r z2 m2;have e1 := moved_t (vs := z1) (m := 0) oM q1.2;have e2 := moved_t (vs := z2) (m := a.1) oM q2.2;dsimp only;simp only [e1, e2, map_some, bind_some, mvd0];rw [ift (szc (by unfold mvd; rw [List.length_map]; omega))])]
 simp only [map_some, bind_some];rfl
theorem mk_up {M : Nat} : ∀ {v : List Int}, (∀ c ∈ v, 0 <= c) -> mk (v.map fun c => c + (M : Int)) = up M (mk v) := by
 intro v
 induction v with
 | nil => intro _; simp [mk, up]
 | cons c v ih =>
  intro h;have h0 := h c (by simp);have ih' := ih fun d hd => h d (by simp [hd])
  unfold mk up at ih' ⊢;simp only [List.map_cons, List.sum_cons];rw [ih', Nat.add_mul, show (c + (M : Int)).toNat = c.toNat + M by omega, Nat.pow_add]
theorem flat_two {α β : Type} (f g : α -> List β) : ∀ l : List α, (l.flatMap fun x => f x ++ g x).Perm (l.flatMap f ++ l.flatMap g) := by
 intro l
 induction l with
 | nil => exact .nil
 | cons x l ih =>
  simp only [List.flatMap_cons];refine ((ih.append_left _)).trans ?_;rw [List.append_assoc, List.append_assoc];refine List.Perm.append_left _ ?_;rw [<- List.append_assoc, <- List.append_assoc];exact List.perm_append_comm.append_right _
theorem rowOf_bes {a b : Hh} {n : Nat} (ha : a.2.length = n) (hb : b.2.length = n) {k : Nat} (hk : k < n) : rowOf (bes a b) (k : Int) = rowOf a (k : Int) ++ mvd a.1 (rowOf b (k : Int)) := by
 unfold rowOf bes;simp only [Int.toNat_natCast];have h1 : k < a.2.length := by omega
 have h2 : k < b.2.length := by omega
 have hz : (a.2.zip b.2)[k]? = some (a.2[k], b.2[k]) := List.getElem?_zip_eq_some.mpr ⟨List.getElem?_eq_getElem h1, List.getElem?_eq_getElem h2⟩;simp [List.getD, hz, h1, h2]
theorem rg_bes {Ma Mb n : Nat} {a b : Hh} (wa : WG Ma n a) (wb : WG Mb n b) (h1 : a.1 = (Ma : Int)) (g : Nat) : rg (bes a b) n g = rg a n g + rg b n g := by
 have hA : ∀ x ∈ (VW a n g).map mk, x < 2 ^ Ma := fun x hx => by
  obtain ⟨v, hv, rfl⟩ := List.mem_map.mp hx;exact (VW_ok wa v hv).2.2
 unfold rg;rw [<- rk_sum (M := Ma) (bs := (VW b n g).map mk) hA];apply rk_perm;have e1 : VW (bes a b) n g = ((rng 0 n).filter (gb g)).flatMap fun k => rowOf a k ++ mvd a.1 (rowOf b k) := by
  unfold VW;rw [List.flatMap_def, List.flatMap_def];congr 1;apply List.map_congr_left;intro x hx;obtain ⟨k, rfl, hk⟩ := rng_mem (List.mem_filter.mp hx).1;exact rowOf_bes wa.len wb.len oM
 rw [e1];have p1 := (flat_two (rowOf a) (fun k => mvd a.1 (rowOf b k)) ((rng 0 n).filter (gb g))).map mk;refine p1.trans ?_;rw [List.map_append];refine List.Perm.append_left _ (List.Perm.of_eq ?_);have e2 : (((rng 0 n).filter (gb g)).flatMap fun k => mvd a.1 (rowOf b k)) = mvd a.1 (VW b n g) := by
  unfold VW mvd;rw [List.map_flatMap]
 rw [e2];unfold mvd;rw [List.map_map, List.map_map];apply List.map_congr_left;intro v hv;simp only [Function.comp];rw [h1];exact mk_up fun c hc => ((VW_ok wb v hv).2.1 c hc).1
theorem vo_mvd {Ma Mb : Nat} (hM : Ma + Mb <= 100) {v : List Int} (h : VO Mb v) (hc : ∀ c ∈ v, c <= 900) : VO (Ma + Mb) (v.map fun c => c + (Ma : Int)) := by
 obtain ⟨h1, h2, h3⟩ := h;refine ⟨by rw [List.length_map]; exact h1, fun c hcm => ?_, ?_⟩
 ·obtain ⟨d, hd, rfl⟩ := List.mem_map.mp hcm
  have := h2 d hd
  have := hc d hd
  omega
 ·rw [mk_up fun c hc => (h2 c hc).1]
  unfold up;rw [Nat.pow_add, Nat.mul_comm];exact Nat.mul_lt_mul_of_pos_left h3 (Nat.pow_pos dC)
theorem coin_lt {B : Nat} {v : List Int} (h : VO B v) : ∀ c ∈ v, c < (B : Int) := fun c hc => by
 have h1 : ∀ {l : List Int}, c ∈ l -> 2 ^ c.toNat <= mk l := by
  intro l
  induction l with
  | nil => intro h; cases h
  | cons d l ih =>
   intro h;unfold mk at ih ⊢;simp only [List.map_cons, List.sum_cons];rcases List.mem_cons.mp h with rfl | h
   ·exact Nat.le_add_right _ _
   ·exact Nat.le_trans (ih h) (Nat.le_add_left _ _)
 have h2 : 2 ^ c.toNat < 2 ^ B := Nat.lt_of_le_of_lt (h1 hc) h.2.2;have h3 : c.toNat < B := (Nat.pow_lt_pow_iff_right dC).mp h2
 have := (h.2.1 c hc).1
 omega
theorem vo_mono {A B : Nat} (hAB : A <= B) {v : List Int} (h : VO A v) : VO B v := ⟨h.1, h.2.1, Nat.lt_of_lt_of_le h.2.2 (Nat.pow_le_pow_right dC hAB)⟩
theorem wg_bes {Ma Mb n p q : Nat} {a b : Hh} (wa : WG Ma n a) (wb : WG Mb n b) (h1 : a.1 = (Ma : Int)) (hM : Ma + Mb <= 100) (ra : ∀ r ∈ a.2, r.length <= p) (rb : ∀ r ∈ b.2, r.length <= q) (hpq : p + q <= 20) : WG (Ma + Mb) n (bes a b) /\ (∀ r ∈ (bes a b).2, r.length <= p + q) := by
 have hr : ∀ r ∈ (bes a b).2, r.length <= p + q := fun r hr => by
  obtain ⟨⟨z1, z2⟩, hz, rfl⟩ := List.mem_map.mp hr;obtain ⟨m1, m2⟩ := List.of_mem_zip hz
  have := ra z1 m1
  have := rb z2 m2
  simp only [List.length_append, mvd, List.length_map]; omega
 refine ⟨⟨by omega, by have := wa.len; have := wb.len; simp only [bes, List.length_map, List.length_zip]; omega, wa.n4, fun r hrm => ⟨by have := hr r hrm; omega, ?_⟩⟩, hr⟩;obtain ⟨⟨z1, z2⟩, hz, rfl⟩ := List.mem_map.mp hrm;obtain ⟨m1, m2⟩ := List.of_mem_zip hz;intro v hv;rcases List.mem_append.mp hv with hv | hv
 ·exact vo_mono oM ((wa.row z1 m1).2 v hv)
 ·unfold mvd at hv
  obtain ⟨u, hu, rfl⟩ := List.mem_map.mp hv;have hvo := (wb.row z2 m2).2 u hu;rw [h1];exact vo_mvd hM hvo fun c hc => by have := coin_lt hvo c hc; omega
noncomputable abbrev Q4 := Nat × Nat × Nat × Nat
noncomputable def nq (p : Q4) (i : Nat) : Nat := match i with
 | 0 => p.1
 | 1 => p.2.1
 | 2 => p.2.2.1
 | _ => p.2.2.2
noncomputable def qL (p : Q4) : List Int := [(p.1 : Int), (p.2.1 : Int), (p.2.2.1 : Int), (p.2.2.2 : Int)]
noncomputable def qc (p q : Q4) : Q4 := (nq p q.1, nq p q.2.1, nq p q.2.2.1, nq p q.2.2.2)
noncomputable def mvg (p : Q4) (g : Nat) : Nat := (nmG g).foldl (fun a k => a + 2 ^ nq p k) 0
noncomputable def Pm (p : Q4) : List Nat := (List.range 15).map fun m => ((List.range 15).find? fun x => mvg p (x + 1) == m + 1).getD 0
noncomputable def s4q (q : Q4) : List (Nat × Int) := s4 q.1 q.2.1 q.2.2.1 q.2.2.2
noncomputable def ckc (p : Q4) (P : List Nat) (q : Q4) : Bool := quads.contains (qc p q) && decide (cmb (s4q (qc p q)) = P.map fun x => (cmb (s4q q)).getD x 0)
theorem ckc_all : (quads.all fun p => (Pm p).isPerm (List.range 15) && quads.all (ckc p (Pm p))) = true := by decide +kernel
theorem pm_ok {p q : Q4} (hp : p ∈ quads) (hq : q ∈ quads) : (Pm p).Perm (List.range 15) /\ qc p q ∈ quads /\ cmb (s4q (qc p q)) = (Pm p).map fun x => (cmb (s4q q)).getD x 0 := by
 have h := List.all_eq_true.mp ckc_all p hp;rw [Bool.and_eq_true] at h;have h2 := List.all_eq_true.mp h.2 q hq;unfold ckc at h2;rw [Bool.and_eq_true] at h2;exact ⟨List.isPerm_iff.mp h.1, List.contains_iff_mem.mp h2.1, of_decide_eq_true h2.2⟩
theorem perm_sumI {a b : List Int} (h : a.Perm b) : a.sum = b.sum := by
 induction h with
 | nil => rfl
 | cons x _ ih => simp only [List.sum_cons, ih]
 | swap x y l => simp only [List.sum_cons]; omega
 | trans _ _ h1 h2 => exact h1.trans h2
theorem getD_rng {r : List Int} {n : Nat} (h : r.length = n) : ((List.range n).map fun x => r.getD x 0) = r := by
 apply List.ext_getElem
 ·simp [h]
 ·intro i h1 h2
  simp [List.getD, List.getElem?_eq_getElem h2]
theorem dot_pm {r t : List Int} (hr : r.length = 15) (ht : t.length = 15) {P : List Nat} (hP : P.Perm (List.range 15)) : dotI (P.map fun x => r.getD x 0) (P.map fun x => t.getD x 0) = dotI r t := by
 rw [dot_maps, perm_sumI (hP.map _), <- dot_maps, getD_rng hr, getD_rng ht]
theorem at_q {p : Q4} {i : Nat} (hi : i < 4) : atI (qL p) (i : Int) = some ((nq p i : Nat) : Int) := by
 match i, hi with
 | 0, _ => rfl
 | 1, _ => rfl
 | 2, _ => rfl
 | 3, _ => rfl
noncomputable def CalledOk (p : Q4) : Prop := ∀ t0 t1 t2 t3 t4 t5 t6 t7 t8 t9 t10 t11 t12 t13 t14 : Int, t_lcalled ([t0, t1, t2, t3, t4, t5, t6, t7, t8, t9, t10, t11, t12, t13, t14], qL p, ()) = some ((Pm p).map fun x => [t0, t1, t2, t3, t4, t5, t6, t7, t8, t9, t10, t11, t12, t13, t14].getD x 0, [t0, t1, t2, t3, t4, t5, t6, t7, t8, t9, t10, t11, t12, t13, t14], qL p, ())
theorem called_all : ∀ p ∈ quads, CalledOk p := by
 unfold quads;refine List.forall_mem_cons.mpr ⟨?_, List.forall_mem_cons.mpr ⟨?_, List.forall_mem_cons.mpr ⟨?_, List.forall_mem_cons.mpr ⟨?_, List.forall_mem_cons.mpr ⟨?_, List.forall_mem_cons.mpr ⟨?_, List.forall_mem_cons.mpr ⟨?_, List.forall_mem_cons.mpr ⟨?_, List.forall_mem_cons.mpr ⟨?_, List.forall_mem_cons.mpr ⟨?_, List.forall_mem_cons.mpr ⟨?_, List.forall_mem_cons.mpr ⟨?_, List.forall_mem_cons.mpr ⟨?_, List.forall_mem_cons.mpr ⟨?_, List.forall_mem_cons.mpr ⟨?_, List.forall_mem_cons.mpr ⟨?_, List.forall_mem_cons.mpr ⟨?_, List.forall_mem_cons.mpr ⟨?_, List.forall_mem_cons.mpr ⟨?_, List.forall_mem_cons.mpr ⟨?_, List.forall_mem_cons.mpr ⟨?_, List.forall_mem_cons.mpr ⟨?_, List.forall_mem_cons.mpr ⟨?_, List.forall_mem_cons.mpr ⟨?_, fun _ h => nomatch h⟩⟩⟩⟩⟩⟩⟩⟩⟩⟩⟩⟩⟩⟩⟩⟩⟩⟩⟩⟩⟩⟩⟩⟩
 all_goals (intro t0 t1 t2 t3 t4 t5 t6 t7 t8 t9 t10 t11 t12 t13 t14; kernel_rfl)
theorem called_t {p : Q4} (hp : p ∈ quads) {t : List Int} (ht : t.length = 15) : t_lcalled (t, qL p, ()) = some ((Pm p).map fun x => t.getD x 0, t, qL p, ()) := by
 match t, ht with
 | [t0, t1, t2, t3, t4, t5, t6, t7, t8, t9, t10, t11, t12, t13, t14], _ => exact called_all p hp t0 t1 t2 t3 t4 t5 t6 t7 t8 t9 t10 t11 t12 t13 t14
section
variable {Ma Mb : Nat} {a b : Hh} (wa : WG Ma 4 a) (wb : WG Mb 4 b) (h1 : a.1 = (Ma : Int))
include wa wb h1
theorem Rw_bes {k : Nat} (hk : k < 4) : Rw (bes a b) k = Rw a k ++ (Rw b k).map (up Ma) := by
 unfold Rw;rw [rowOf_bes wa.len wb.len hk, List.map_append];congr 1;unfold mvd;rw [List.map_map, List.map_map];apply List.map_congr_left;intro v hv;simp only [Function.comp];rw [h1];exact mk_up fun c hc => (((wb.at hk).2.2 v hv).2.1 c hc).1
theorem dot_bes {r : List Int} (hr : r.length = 15) : dotI r (tabP (bes a b) 4) = dotI r (tabP a 4) + dotI r (tabP b 4) := by
 obtain ⟨f, rfl⟩ : ∃ f : Nat -> Int, r = (List.range 15).map f := ⟨_, (getD_rng hr).symm⟩;rw [tab15, tab15, tab15, dot_maps, dot_maps, dot_maps, <- sum_add];congr 1;apply List.map_congr_left;intro x _;rw [rg_bes wa wb h1, Int.natCast_add, Int.mul_add]
theorem cm_bes {i j : Nat} (hi : i < 4) (hj : j < 4) : (Cm (bes a b) i j).length = (Cm a i j).length + (Cm b i j).length := by
 unfold Cm;rw [Rw_bes wa wb h1 hi, Rw_bes wa wb h1 hj];exact cm_len (Rw_ok wa hi) (Rw_ok wa hj)
theorem rk_bes {i j k : Nat} (hi : i < 4) (hj : j < 4) (hk : k < 4) : rk (Rw (bes a b) k ++ Cm (bes a b) i j) = rk (Rw a k ++ Cm a i j) + rk (Rw b k ++ Cm b i j) := by
 unfold Cm;rw [Rw_bes wa wb h1 hi, Rw_bes wa wb h1 hj, Rw_bes wa wb h1 hk];exact rk_cm (Rw_ok wa hi) (Rw_ok wa hj) (Rw_ok wa hk)
theorem rk_bes1 {k : Nat} (hk : k < 4) : rk (Rw (bes a b) k) = rk (Rw a k) + rk (Rw b k) := by
 rw [Rw_bes wa wb h1 hk];exact rk_sum (Rw_ok wa hk)
end
noncomputable def OkB (ns : List Int) (st : Nat) (o : Option (Bool × List Int × Int × List Int × Unit)) : Prop := ∃ x, o = some (true, ns, (st : Int), x, ())
noncomputable def InB (ns : List Int) (st : Nat) (o : Option (TR S_lbeside Bool)) : Prop := ∃ t, o = some t /\ ∃ s' : S_lbeside, t = TR.rt true s' /\ s'.yscript = ns /\ s'.ystart = (st : Int)
theorem lbes_t (ns : List Int) (st : Nat) {i j k l : Nat} (q : Qd i j k l) : OkB ns st (t_lbeside (ns, (st : Int), [(i : Int), (j : Int), (k : Int), (l : Int)], ())) := by
 obtain ⟨a, Ma, ea, ma, hMa, wa, ra⟩ := heap_t ns st;obtain ⟨b, Mb, eb, mb, hMb, wb, rb⟩ := heap_t ns (st + 5);rw [show ((st + 5 : Nat) : Int) = (st : Int) + 5 by omega] at eb;obtain ⟨wc, _⟩ := wg_bes wa wb ma oM ra rb oM;have mc : (bes a b).1 = ((Ma + Mb : Nat) : Int) := by show a.1 + b.1 = _; omega
 obtain ⟨va, sa, _⟩ := shown_t wa ma q;obtain ⟨vb, sb, _⟩ := shown_t wb mb q;obtain ⟨vc, sc, _⟩ := shown_t wc mc q;have ebe := beside_t wa.sm wb.sm;have ta := table_t wa;have tb := table_t wb;have tc := table_t wc;have e6 := q.e6;have len : (cmb (s4 i j k l)).length <= 900 := by rw [cmb_len]; decide
 have v1 := value_t (b := tabP a 4) len q.b5;have v2 := value_t (b := tabP b 4) len q.b5;have v3 := value_t (b := tabP (bes a b) 4) len q.b5;have d0 := dot_bes wa wb ma (cmb_len (s4 i j k l));have d1 := dot_bes wa wb ma (cmb_len (s2 k l));obtain ⟨hi, hj, hk, hl, _⟩ := q.n;have c0 := cm_bes wa wb ma hi hj;have c1 := rk_bes wa wb ma hi hj hk;have c2 := rk_bes wa wb ma hi hj hl;have c3 := rk_bes1 wa wb ma hk;have c4 := rk_bes1 wa wb ma hl;unfold t_lbeside T_lbeside;refine bindQ (P := fun t => ∃ s' : S_lbeside, t = TR.rt true s' /\ s'.yscript = ns /\ s'.ystart = (st : Int)) (OkB ns st) ?_ ?_
 ·show InB ns st _
  refine seqR _ rfl ?_;refine seqR _ (by simp only [ea, map_some, bind_some]; rfl) ?_;refine seqR _ (by simp only [eb, map_some, bind_some]; rfl) ?_;refine seqR _ (by simp only [e6, map_some, bind_some]; rfl) ?_;refine seqR _ (by simp only [ebe, map_some, bind_some]; rfl) ?_;refine seqR _ (by
   simp only [tc, ta, tb, v1, v2, v3, map_some, bind_some, ift okI, d0, beq_self_eq_true, Bool.not_true, Bool.false_eq_true, if_false];rfl) ?_
  refine seqR _ (by simp only [sa, map_some, bind_some]; rfl) ?_;refine seqR _ (by simp only [sb, map_some, bind_some]; rfl) ?_;simp only [sc, map_some, bind_some];have n0 : (((Cm (bes a b) i j).length : Nat) : Int) = ((Cm a i j).length : Int) + ((Cm b i j).length : Int) := by omega
  have n1 : ((rk (Rw (bes a b) k ++ Cm (bes a b) i j) : Nat) : Int) - ((rk (Rw (bes a b) k) : Nat) : Int) = (((rk (Rw a k ++ Cm a i j) : Nat) : Int) - ((rk (Rw a k) : Nat) : Int)) + (((rk (Rw b k ++ Cm b i j) : Nat) : Int) - ((rk (Rw b k) : Nat) : Int)) := by omega
  have n2 : ((rk (Rw (bes a b) l ++ Cm (bes a b) i j) : Nat) : Int) - ((rk (Rw (bes a b) l) : Nat) : Int) = (((rk (Rw a l ++ Cm a i j) : Nat) : Int) - ((rk (Rw a l) : Nat) : Int)) + (((rk (Rw b l ++ Cm b i j) : Nat) : Int) - ((rk (Rw b l) : Nat) : Int)) := by omega
  rw [n0, n1, n2, d1];rw [ift (szc (by simp [l4])), lc_map (f := fun z => z.1 + z.2) (fun _ _ => rfl) (fun _ _ => rfl)];simp only [l4, List.zip_cons_cons, List.zip_nil_right, List.map_cons, List.map_nil, bind_some, o4, map_some];rw [ift (by rfl)];simp only [beq_self_eq_true, Bool.and_self, map_some];exact ⟨_, rfl, _, rfl, rfl, rfl⟩
 ·rintro t ⟨s', rfl, e1, e2⟩
  dsimp only;rw [e1, e2];exact ⟨_, rfl⟩
theorem okLL {a b : List Int} : (Py.ok (rL TT.rI) a && Py.ok (rL TT.rI) b && decide (min (Py.k (rL TT.rI)) (Py.k (rL TT.rI)) <= 50)) = true := by
 have h : ∀ a : List Int, Py.ok (rL TT.rI) a = true := fun a => List.all_eq_true.mpr fun _ _ => rfl
 rw [h, h]; rfl
theorem eqI (xs : List Int) : eqL (fun a b => a == b) xs xs = true := eqL_self (fun a => by simp) xs
theorem lc_tab {S ρ : Type} {ft : Int -> S -> Option (Bool × S)} {fe : Int -> S -> Option (Int × S)} {s : S} {xs : List Int} {F : List Int × S -> TR S ρ} {P : S -> Prop} (ht : ∀ x, ft x s = some (true, s)) (he : ∀ x ∈ xs, ∃ v, fe x s = some (v, s))
  (hP : ∀ ys : List Int, ys.length = xs.length -> ∃ s1, F (ys, s) = TR.nx s1 /\ P s1) : ∃ s1, Option.map F (TT.tLc ft fe xs s) = some (TR.nx s1) /\ P s1 := by
 obtain ⟨ys, s', e, rfl, len, _⟩ := lc_inv (xs := xs) (ft := ft) (fe := fe) (I := fun z => z = s) (Q := fun _ => True) (fun z x _ hz => by rw [hz]; exact ht x) (fun z x hx hz => by
  obtain ⟨v, e⟩ := he x hx;exact ⟨v, s, by rw [hz]; exact e, rfl, trivial⟩) rfl
 obtain ⟨s1, e1, p⟩ := hP ys len;exact ⟨s1, by rw [e, map_some, e1], p⟩
noncomputable def OkL (o : Option (Bool × List Int × Unit)) : Prop := ∃ q, o = some (true, q)
noncomputable def StepOk (ns : List Int) (o : Option (TR S_law Bool)) : Prop := ∃ s : S_law, o = some (TR.nx s) /\ s.yscript = ns
theorem law_k (ns : List Int) (hl : ns.length <= 63) : OkL (t_law (ns, ())) := by
 have r6 : rokC 6 = true := rok oM oM;unfold t_law T_law;simp only [TT.tSeq, bind_some, map_some, ift r6];refine loop_bindE2 (S := S_law) (P := fun s => True) OkL ?_ fun s' h => ⟨_, rfl⟩
 refine loop_ixP (S := S_law) (fun k s => s.yscript = ns) rfl ?_ (fun _ _ => trivial);intro t s x hx e1;obtain ⟨hx1, _⟩ := rng_get0 hx;clear hx;obtain ⟨a1, a2, a3, a4, a5, a6, a7, a8, a9, a10⟩ := s;dsimp only at e1;cases e1.symm;subst hx1;obtain ⟨p, ep, lp⟩ := pile_t ns (10 * t);obtain ⟨p1, ep1, lp1⟩ := pile_t ns (10 * t + 1);rw [show ((10 * t : Nat) : Int) = 10 * (t : Int) by omega] at ep;rw [show ((10 * t + 1 : Nat) : Int) = 10 * (t : Int) + 1 by omega] at ep1;obtain ⟨o, p', eo, ho⟩ := order_t lp;obtain ⟨o1, p1', eo1, ho1⟩ := order_t lp1;obtain ⟨i, j, k, l, rfl, hq⟩ := quad_of ho;obtain ⟨ia, ja, ka, la, eq1, hq1⟩ := quad_of ho1;have eq1' : o1 = qL (ia, ja, ka, la) := eq1;subst eq1';have q := qd_of hq;obtain ⟨hP, hc, hrow⟩ := pm_ok hq1 hq;have m10 : mulN 10 (t : Int) = true := mulc oM;have e6 := q.e6;have e7 := q.e7;have e8 := q.e8;have e9 := q.e9;have e10 := q.e10;show StepOk ns _;refine seqR _ (by simp only [ift m10, bind_some, map_some, ep, eo]; rfl) ?_;refine seqR _ (by simp only [e6, map_some]; rfl) ?_;refine seqR _ (by
  simp only [e7, bind_some, map_some];rw [ift okLL, eqI];simp only [e8, bind_some, map_some, Bool.not_true, Bool.false_eq_true, if_false];rw [ift okLL, eqI];simp only [bind_some, map_some, Bool.not_true, Bool.false_eq_true, if_false];rfl) ?_
 refine seqR _ (by
  simp only [e9, e10, bind_some, map_some];rw [ift okLL, eqI];simp only [bind_some, map_some, Bool.not_true, Bool.false_eq_true, if_false];rfl) ?_
 refine seqR _ (by simp only [ift m10, bind_some, map_some, ep1, eo1]; rfl) ?_;have r15 : rokC 15 = true := rok oM oM;refine seqX (S := S_law) (P := fun s => s.yscript = ns /\ s.yturn = (t : Int) /\ s.yi = (i : Int) /\ s.yj = (j : Int) /\ s.yk = (k : Int) /\ s.yl = (l : Int) /\ s.yrow = cmb (s4 i j k l) /\ s.yorder_here = qL (ia, ja, ka, la) /\ s.ytable.length = 15) _ (by
  simp only [ift r15, bind_some, map_some];rw [ift (szc (by rw [rng_len0]; decide))];refine lc_tab (fun _ => rfl) (fun g hg => ?_) fun ys hy => ⟨_, rfl, rfl, rfl, rfl, rfl, rfl, rfl, rfl, rfl, by rw [hy, rng_len0]; rfl⟩
  obtain ⟨g, rfl, _⟩ := rng_mem hg;obtain ⟨pg, eg, lg⟩ := pile_t ns (10 * t + g);rw [show ((10 * t + g : Nat) : Int) = 10 * (t : Int) + (g : Int) by omega] at eg;obtain ⟨v, pg', ev, _⟩ := number_t lg;refine ⟨v, ?_⟩;simp only [ift m10, bind_some, map_some, eg, ev]) ?_
 rintro ⟨b1, b2, b3, b4, b5, b6, b7, b8, tb, b10⟩ ⟨f1, f2, f3, f4, f5, f6, f7, f8, ht⟩;dsimp only at f1 f2 f3 f4 f5 f6 f7 f8 ht;subst f1; subst f2; subst f3; subst f4; subst f5; subst f6; subst f7; subst f8;obtain ⟨hi, hj, hk, hl4, _⟩ := q.n;have qq := qd_of hc;have e11 : t_four_row (((nq (ia, ja, ka, la) i : Nat) : Int), ((nq (ia, ja, ka, la) j : Nat) : Int), ((nq (ia, ja, ka, la) k : Nat) : Int), ((nq (ia, ja, ka, la) l : Nat) : Int), ()) = some (cmb (s4q (qc (ia, ja, ka, la) (i, j, k, l))), ((nq (ia, ja, ka, la) i : Nat) : Int), ((nq (ia, ja, ka, la) j : Nat) : Int), ((nq (ia, ja, ka, la) k : Nat) : Int), ((nq (ia, ja, ka, la) l : Nat) : Int), ()) := qq.e6;have b5' : ∀ x ∈ cmb (s4q (qc (ia, ja, ka, la) (i, j, k, l))), -100 <= x /\ x <= 100 := qq.b5;have ec := called_t hq1 ht;have v1 := value_t (b := tb) (show (cmb (s4 i j k l)).length <= 900 by rw [cmb_len]; decide) q.b5;have v2 := value_t (b := (Pm (ia, ja, ka, la)).map fun x => tb.getD x 0) (show (cmb (s4q (qc (ia, ja, ka, la) (i, j, k, l)))).length <= 900 by rw [cmb_len]; decide) b5';have dd : dotI (cmb (s4q (qc (ia, ja, ka, la) (i, j, k, l)))) ((Pm (ia, ja, ka, la)).map fun x => tb.getD x 0) = dotI (cmb (s4 i j k l)) tb := by
  rw [hrow];exact dot_pm (cmb_len _) ht hP
 rw [dd] at v2;obtain ⟨xb, eb⟩ := lbes_t b1 (10 * t) q;rw [show ((10 * t : Nat) : Int) = 10 * (t : Int) by omega] at eb;have sz4 : szC ([(i : Int), (j : Int), (k : Int), (l : Int)] : List Int).length = true := szc (by simp);refine seqR _ (by
  simp only [at_q hi, at_q hj, at_q hk, at_q hl4, bind_some, map_some, e11];rfl) ?_
 refine seqR _ (by
  simp only [ec, v1, v2, bind_some, map_some, ift okI, beq_self_eq_true, Bool.not_true, Bool.false_eq_true, if_false];rfl) ?_
 simp only [ift m10, ift sz4, eb, bind_some, map_some, Bool.not_true, Bool.false_eq_true, if_false];exact ⟨_, rfl, rfl⟩
theorem law_t (ns : List Int) (hl : ns.length <= 63) : ∃ q, t_law (ns, ()) = some (true, q) := law_k ns hl
theorem holds : ∀ ns : List Int, ns.length <= 63 -> ∃ d, g_law [.lst false (ns.map D.int)] = some (.bl true, [d]) := holds_of j_law law_t
end LW
open PySem PySem.W PyProof.Rows
set_option maxRecDepth 100000 in
set_option maxHeartbeats 0 in
theorem PySem.Challenge.cw_telltight_k72_whole_four_rows_turned_holds : PySem.Challenge.rw_telltight_k72_whole_four_rows_turned.Holds := by
 w_on; o_law; k_head; (case hw => w_witness2)
 k_fill
 refine LW.walk (l := PySem.Challenge.rw_telltight_k72_whole_four_rows_turned) rfl rfl (fun w h Y => kIn_of Y) LW.holds ?F
 case F =>
  intro w mg fa h KX G hmg;refine' LW.all_mk KX G hmg ?a0 ?l0 ?c0 ?k0 ?a1 ?l1 ?c1 ?k1 ?a2 ?l2 ?c2 ?k2 ?a3 ?l3 ?c3 ?k3 ?a4 ?l4 ?c4 ?k4 ?a5 ?l5 ?c5 ?k5 ?a6 ?l6 ?c6 ?k6 ?a7 ?l7 ?c7 ?k7 ?a8 ?l8 ?c8 ?k8 ?a9 ?l9 ?c9 ?k9 ?a10 ?l10 ?c10 ?k10 ?a11 ?l11 ?c11 ?k11 ?a12 ?l12 ?c12 ?k12 ?a13 ?l13 ?c13 ?k13 ?a14 ?l14 ?c14 ?k14 ?a15 ?l15 ?c15 ?k15 ?a16 ?l16 ?c16 ?k16 ?a17 ?l17 ?c17 ?k17 ?a18 ?l18 ?c18 ?k18 ?a19 ?l19 ?c19 ?k19 ?a20 ?l20 ?c20 ?k20 ?a21 ?l21 ?c21 ?k21 ?a22 ?l22 ?c22 ?k22 ?a23 ?l23 ?c23 ?k23 ?a24 ?l24 ?c24 ?k24 ?a25 ?l25 ?c25 ?k25 ?a26 ?l26 ?c26 ?k26 ?a27 ?l27 ?c27 ?k27 ?a28 ?l28 ?c28 ?k28 ?z_abs ?z_enumerate ?z_int ?z_len ?z_list ?z_min ?z_range ?z_sum ?z_tuple ?z_zip ?v_NAMES
  case a0|a1|a2|a3|a4|a5|a6|a7|a8|a9|a10|a11|a12|a13|a14|a15|a16|a17|a18|a19|a20|a21|a22|a23|a24|a25|a26|a27|a28 => delta LW.NSq; k_is
  case l0|l1|l2|l3|l4|l5|l6|l7|l8|l9|l10|l11|l12|l13|l14|l15|l16|l17|l18|l19|l20|l21|l22|l23|l24|l25|l26|l27|l28 => delta LW.LKq LW.Fdq; k_is
  case c0|c1|c2|c3|c4|c5|c6|c7|c8|c9|c10|c11|c12|c13|c14|c15|c16|c17|c18|c19|c20|c21|c22|c23|c24|c25|c26|c27|c28 => delta LW.CIq; k_is
  case k0|k1|k2|k3|k4|k5|k6|k7|k8|k9|k10|k11|k12|k13|k14|k15|k16|k17|k18|k19|k20|k21|k22|k23|k24|k25|k26|k27|k28 => delta LW.KIq; k_is
  case z_abs|z_enumerate|z_int|z_len|z_list|z_min|z_range|z_sum|z_tuple|z_zip|v_NAMES => k_is
#print axioms PySem.Challenge.cw_telltight_k72_whole_four_rows_turned_holds
