import PyProof.Rows.All
import Wide.All
import OpenK.AllK
import Wide.FinOn
import Lean
import PyProof.EqAt
import PyProof.EqKinds
import PyProof.TupleCall
import PySem.Challenge.RW_telltight_k01_rows_of_groups
set_option Elab.async false
set_option linter.all false
set_option maxRecDepth 100000
/-! THE HAND LAYER, for ints, bools, texts, own classes, LISTS and tuples (index, slices, in, append, pop ..), calls, loops. Paste it whole ahead of your own text; what your proof does not reach may be deleted. -/
namespace L2
open PySem PySem.Spec PyProof.Rows

/-- a key: an int or a str -/
abbrev Key := Sum Int Str
def keyIs : Key → Value → Bool
  | .inl k, v => Value.isInt k v
  | .inr x, v => Value.isStrOf x v
def keyH (w : World) : Key → Int
  | .inl k => hashInt k
  | .inr x => hashStr w x
theorem keyIs_shape : ∀ {k : Key} {v : Value}, keyIs k v = true → (∃ i t, k = Sum.inl i ∧ v = Value.int i t) ∨ (∃ x t, k = Sum.inr x ∧ v = Value.str x t)
  | .inl i, v, h => by
    obtain ⟨t, e⟩ := Value.isInt_shape (k := i) (v := v) h
    exact .inl ⟨i, t, rfl, e⟩
  | .inr x, v, h => by
    obtain ⟨t, e⟩ := Value.isStrOf_shape (x := x) (v := v) h
    exact .inr ⟨x, t, rfl, e⟩
theorem keyIs_int (i : Int) (t : Tok) : keyIs (.inl i) (.int i t) = true := by simp [keyIs, Value.isInt]
theorem keyIs_str (x : Str) (t : Tok) : keyIs (.inr x) (.str x t) = true := by simp [keyIs, Value.isStrOf]
theorem key_ll (a b : Int) : decide ((Sum.inl a : Key) = Sum.inl b) = (a == b) := by
  by_cases e : a = b
  · subst e; simp
  · have h : ¬ (Sum.inl a : Key) = Sum.inl b := fun q => e (Sum.inl.inj q)
    rw [decide_eq_false h]
    exact (beq_eq_false_iff_ne.mpr e).symm
theorem key_rr (a b : Str) : decide ((Sum.inr a : Key) = Sum.inr b) = decide (a = b) := by
  by_cases e : a = b
  · subst e; simp
  · have h : ¬ (Sum.inr a : Key) = Sum.inr b := fun q => e (Sum.inr.inj q)
    rw [decide_eq_false h, decide_eq_false e]
theorem key_lr (a : Int) (b : Str) : decide ((Sum.inl a : Key) = Sum.inr b) = false := decide_eq_false (fun q => nomatch q)
theorem key_rl (a : Str) (b : Int) : decide ((Sum.inr a : Key) = Sum.inl b) = false := decide_eq_false (fun q => nomatch q)

def mixKind (prog : Program) (w : World) : PySem.KeyKind prog w Key where
  is := keyIs
  hash := keyH w
  inj := fun v a b ha hb => by
    rcases keyIs_shape ha with ⟨i, t, rfl, rfl⟩ | ⟨x, t, rfl, rfl⟩
    · rcases keyIs_shape hb with ⟨j, u, rfl, e⟩ | ⟨y, u, rfl, e⟩
      · injection e with e1 _; rw [e1]
      · exact nomatch e
    · rcases keyIs_shape hb with ⟨j, u, rfl, e⟩ | ⟨y, u, rfl, e⟩
      · exact nomatch e
      · injection e with e1 _; rw [e1]
  byValue := fun k v h => by
    rcases keyIs_shape h with ⟨i, t, rfl, rfl⟩ | ⟨x, t, rfl, rfl⟩ <;> rfl
  pyHash := fun hv h => by
    rcases keyIs_shape hv with ⟨i, t, rfl, rfl⟩ | ⟨x, t, rfl, rfl⟩
    · exact wpAny_pyHash_int h
    · exact wpAny_pyHash_str h
  eqBool := fun hu hv h => by
    rcases keyIs_shape hu with ⟨i, t, rfl, rfl⟩ | ⟨x, t, rfl, rfl⟩
    · rcases keyIs_shape hv with ⟨j, u, rfl, rfl⟩ | ⟨y, u, rfl, rfl⟩
      · rw [key_ll] at h; exact wpAny_eqBool_int h
      · rw [key_lr] at h; exact SeqAt.EqAt.int_str i t y u _ _ _ _ h
    · rcases keyIs_shape hv with ⟨j, u, rfl, rfl⟩ | ⟨y, u, rfl, rfl⟩
      · rw [key_rl] at h; exact SeqAt.EqAt.str_int x t j u _ _ _ _ h
      · rw [key_rr] at h; exact wpAny_eqBool_str h
  «strs» := fun k x t v h => by
    rcases keyIs_shape h with ⟨i, u, rfl, e⟩ | ⟨y, u, rfl, e⟩
    · exact nomatch e
    · injection e with e1 _
      subst e1
      cases v <;> rfl

theorem mixKind_is (prog : Program) (w : World) (k : Key) (v : Value) : (mixKind prog w).is k v = keyIs k v := rfl
theorem mixKind_int (prog : Program) (w : World) (i : Int) (t : Tok) : (mixKind prog w).is (.inl i) (.int i t) = true := keyIs_int i t
theorem mixKind_str (prog : Program) (w : World) (x : Str) (t : Tok) : (mixKind prog w).is (.inr x) (.str x t) = true := keyIs_str x t
end L2

namespace L2
open PySem PySem.Spec PyProof.Rows

/-- a value, without the heap -/
inductive V where
  | non | bl (b : Bool) | int (i : Int) | str (x : Str) | byt (b : Array UInt8) | flt (b : UInt64) | ref (a : Addr) | ty (n : String)
  deriving DecidableEq

def RelV : V → Value → Prop
  | .non, u => u = Value.none
  | .bl b, u => u = Value.bool b
  | .int i, u => ∃ t, u = Value.int i t
  | .str x, u => ∃ t, u = Value.str x t
  | .byt b, u => ∃ t, u = Value.bytes b t
  | .flt b, u => ∃ t, u = Value.float b t
  | .ref a, u => u = Value.ref a
  | .ty n, u => u = Value.type n

abbrev Vals : List V → List Value → Prop := Paired RelV
theorem Vals.length {xs : List V} {us : List Value} (r : Vals xs us) : xs.length = us.length := Paired.length r
theorem Vals.get : ∀ {xs : List V} {us : List Value} {i : Nat} {x : V}, Vals xs us → xs[i]? = some x → ∃ u, us[i]? = some u ∧ RelV x u
  | _, _, _, _, .nil, e => by simp at e
  | _, _, 0, _, .cons r _, e => by simp at e; subst e; exact ⟨_, rfl, r⟩
  | _, _, i + 1, x, .cons _ t, e => by
    obtain ⟨u, h1, h2⟩ := Vals.get (i := i) (x := x) t (by simpa using e)
    exact ⟨u, by simpa using h1, h2⟩
theorem Vals.set {x : V} {u : Value} (r : RelV x u) : ∀ {xs : List V} {us : List Value} (i : Nat), Vals xs us → Vals (xs.set i x) (us.set i u)
  | _, _, _, .nil => .nil
  | _, _, 0, .cons _ t => .cons r t
  | _, _, i + 1, .cons q t => .cons q (Vals.set r i t)
theorem Vals.append : ∀ {xs ys : List V} {us ws : List Value}, Vals xs us → Vals ys ws → Vals (xs ++ ys) (us ++ ws)
  | _, _, _, _, .nil, s => s
  | _, _, _, _, .cons r t, s => .cons r (Vals.append t s)
theorem Vals.take : ∀ {xs : List V} {us : List Value} (n : Nat), Vals xs us → Vals (xs.take n) (us.take n)
  | _, _, 0, _ => .nil
  | _, _, _ + 1, .nil => .nil
  | _, _, n + 1, .cons r t => .cons r (Vals.take n t)
theorem Vals.drop : ∀ {xs : List V} {us : List Value} (n : Nat), Vals xs us → Vals (xs.drop n) (us.drop n)
  | _, _, 0, r => r
  | _, _, _ + 1, .nil => .nil
  | _, _, n + 1, .cons _ t => Vals.drop n t
theorem Vals.none_of : ∀ {xs : List V} {us : List Value} {i : Nat}, Vals xs us → xs[i]? = none → us[i]? = none := fun {xs us i} r e => by
  have h1 := r.length
  have h2 : xs.length ≤ i := List.getElem?_eq_none_iff.mp e
  exact List.getElem?_eq_none_iff.mpr (by omega)

def RelO : Option V → Option Value → Prop
  | some v, some u => RelV v u
  | none, none => True
  | _, _ => False
def KV {κ : Type} : List (κ × V) → List (κ × Value) → Prop := Paired fun (p : κ × V) (q : κ × Value) => p.1 = q.1 ∧ RelV p.2 q.2

/-- a key of a dict (00_mix): an int or a text -/
def kV : Key → V
  | .inl i => .int i
  | .inr x => .str x

/-- what stands at a tracked address -/
inductive HO where
  /-- a list -/
  | lst (xs : List V)
  /-- a tuple (never changes) -/
  | tup (xs : List V)
  /-- a dict whose keys are ints and texts; one whose keys are tuples of ints and texts (the empty one is both) -/
  | dK (kvs : List (Key × V)) | dT (kvs : List (List Key × V))
  /-- a set of ints: its members, its size -/
  | set (S : Int → Bool) (n : Nat)
  /-- an instance of the class at C, its dict at dx, its attributes -/
  | ins (C dx : Addr) (fs : List (Str × V))
  /-- the dict of the instance at x -/
  | own (x : Addr)
  /-- the dict of an exception -/
  | xd (fs : List (Str × V))
  /-- a bound method, f of x -/
  | met (f x : Addr)
  /-- a range object lo, lo + 1, .. below hi -/
  | rng (lo hi : Int)
  /-- a thing that is known to the object (the script; a dict while a loop walks it): read, never written while it is so -/
  | frz (o : Obj) (u : HO)
  /-- a code object's table -/
  | tbl (ps : Array Value)
  /-- any other thing, by what is true of its one object (a def of one's own: SetO a S n := HO.ext fun h => ..) -/
  | ext (φ : Heap → Prop)

abbrev Hp := Addr → Option HO
def upd (H : Hp) (a : Addr) (o : HO) : Hp := fun b => if b = a then some o else H b
theorem upd_same {H : Hp} {a : Addr} {o : HO} : upd H a o a = some o := by unfold upd; rw [if_pos rfl]
theorem upd_ne {H : Hp} {a b : Addr} {o : HO} (h : b ≠ a) : upd H a o b = H b := by unfold upd; rw [if_neg h]
theorem upd_upd {H : Hp} {a : Addr} {o u : HO} : upd (upd H a o) a u = upd H a u := by
  funext b; unfold upd; split <;> rfl
/-- two objects of different content stand apart -/
theorem ne_of {H : Hp} {a b : Addr} {o u : HO} (h : H a = some o) (h' : H b = some u) (d : o ≠ u) : a ≠ b := by
  intro e; subst e; rw [h] at h'; exact d (Option.some.inj h')
theorem ne_of_none {H : Hp} {a b : Addr} {o : HO} (h : H a = some o) (h' : H b = none) : a ≠ b := by
  intro e; subst e; rw [h] at h'; cases h'

section
variable (P : Program) (w : World)
def ObjOk (H : Hp) (h : Heap) (a : Addr) : HO → Prop
  | .lst xs => xs.length ≤ sizeLine ∧ ∃ (its : List Value) (n : Nat), Vals xs its ∧ h.get? a = some { cls := .type "list", data := .seq its.toArray n }
  | .tup xs => xs.length ≤ sizeLine ∧ ∃ its : List Value, Vals xs its ∧ IsTup h a its.toArray
  | .dK kvs => kvs.length ≤ sizeLine ∧ (a == sysModules) = false ∧ ∃ vs, KV kvs vs ∧ h.DictOf (mixKind P w) a vs
  | .dT kvs => kvs.length ≤ sizeLine ∧ (a == sysModules) = false ∧ ∃ xs : List (List Key × Addr × Value),
      Paired (fun (p : List Key × V) (q : List Key × Addr × Value) => p.1 = q.1 ∧ H q.2.1 = some (.tup (p.1.map kV)) ∧ RelV p.2 q.2.2) kvs xs ∧
      ∃ o es ep, h.get? a = some o ∧ o.ExactDict ∧ o.data = .dict es ep ∧ es.toList = xs.map (entryOfKey (tupleKind (mixKind P w))) ∧ (xs.map (·.1)).Nodup
  | .set S n => h.SetOf (intKind P w) a S n
  | .ins C dx fs => H dx = some (.own a) ∧ fs.length ≤ 1000 ∧ dx ≠ a ∧ h.get? a = some (PySem.W.instObj C dx) ∧
      ∃ mA, h.Ns1 dx mA ∧ (∀ f, RelO (fs.lookup f) (mA f)) ∧ PySem.Within mA (fs.map (·.1))
  | .own _ => ∃ o, h.get? a = some o
  | .xd fs => ∃ mA, h.Ns1 a mA ∧ ∀ f, RelO (fs.lookup f) (mA f)
  | .rng lo hi => ∃ t u v, h.get? a = some { cls := .type "range", data := .fields #[.int lo t, .int hi u, .int 1 v] }
  | .frz o u => h.get? a = some o ∧ ObjOk H h a u
  | .tbl ps => h.get? a = some { cls := .none, data := .fields ps }
  | .met f x => h.get? a = some (PySem.W.methodObj (.ref f) (.ref x))
  | .ext φ => φ h ∧ (∃ o, h.get? a = some o) ∧ ∀ h1 h2 : Heap, φ h1 → (∀ o, h1.get? a = some o → h2.get? a = some o) → φ h2
/-- the abstract heap is held -/
def HOk (H : Hp) (h : Heap) : Prop := ∀ a o, H a = some o → ObjOk P w H h a o
end

section
variable {P : Program} {w : World} {H H' : Hp} {h h' : Heap} {a : Addr} {o : HO}
theorem ObjOk.lt (x : ObjOk P w H h a o) : a < h.objs.size := by
  cases o with
  | lst xs => obtain ⟨_, _, _, _, e⟩ := x; exact Heap.lt_size e
  | tup xs => obtain ⟨_, _, _, p⟩ := x; exact p.lt
  | dK kvs => obtain ⟨_, _, _, _, o, _, _, e, _⟩ := x; exact Heap.lt_size e
  | dT kvs => obtain ⟨_, _, _, _, o, _, _, e, _⟩ := x; exact Heap.lt_size e
  | set S n => obtain ⟨o, _, _, _, e, _⟩ := x; exact Heap.lt_size e
  | ins C dx fs => obtain ⟨_, _, _, e, _⟩ := x; exact Heap.lt_size e
  | own y => obtain ⟨_, e⟩ := x; exact Heap.lt_size e
  | xd fs => obtain ⟨_, ⟨_, _, _, e, _⟩, _⟩ := x; exact Heap.lt_size e
  | rng lo hi => obtain ⟨_, _, _, e⟩ := x; exact Heap.lt_size e
  | frz ob u => obtain ⟨e, _⟩ := x; exact Heap.lt_size e
  | tbl ps => exact Heap.lt_size (show h.get? a = some _ from x)
  | met f y => exact Heap.lt_size (show h.get? a = some _ from x)
  | ext φ => obtain ⟨_, ⟨_, e⟩, _⟩ := x; exact Heap.lt_size e
theorem Paired.mapP {α β : Type} {F G : α → β → Prop} : ∀ {l₁ : List α} {l₂ : List β}, Paired F l₁ l₂ → (∀ a b, F a b → G a b) → Paired G l₁ l₂
  | _, _, .nil, _ => .nil
  | _, _, .cons r t, f => .cons (f _ _ r) (Paired.mapP t f)
theorem Paired.imp' {α β : Type} {F G : α → β → Prop} (f : ∀ a b, F a b → G a b) {l₁ : List α} {l₂ : List β} (r : Paired F l₁ l₂) : Paired G l₁ l₂ := Paired.mapP r f
/-- what an object's description leans on: its own object, its own dict, the tuples -/
theorem ObjOk.stay (x : ObjOk P w H h a o) (k : ∀ b u, (b = a ∨ H b = some (.own a)) → h.get? b = some u → h'.get? b = some u)
    (ho : ∀ b, H b = some (.own a) → H' b = some (.own a)) (ht : ∀ b xs, H b = some (.tup xs) → H' b = some (.tup xs)) : ObjOk P w H' h' a o := by
  induction o with
  | lst xs => obtain ⟨z, its, n, r, e⟩ := x; exact ⟨z, its, n, r, k _ _ (.inl rfl) e⟩
  | tup xs => obtain ⟨z, its, r, ob, e, c⟩ := x; exact ⟨z, its, r, ob, k _ _ (.inl rfl) e, c⟩
  | dK kvs => obtain ⟨z, y, vs, r, ob, es, ep, e, c⟩ := x; exact ⟨z, y, vs, r, ob, es, ep, k _ _ (.inl rfl) e, c⟩
  | dT kvs =>
    obtain ⟨z, y, xs, r, ob, es, ep, e, c⟩ := x
    exact ⟨z, y, xs, Paired.mapP r fun p q z => ⟨z.1, ht _ _ z.2.1, z.2.2⟩, ob, es, ep, k _ _ (.inl rfl) e, c⟩
  | set S n => obtain ⟨ob, es, ep, t, e, c⟩ := x; exact ⟨ob, es, ep, t, k _ _ (.inl rfl) e, c⟩
  | ins C dx fs =>
    obtain ⟨d, z, ne, e, mA, ⟨od, es, ep, e2, c⟩, r⟩ := x
    exact ⟨ho _ d, z, ne, k _ _ (.inl rfl) e, mA, ⟨od, es, ep, k _ _ (.inr d) e2, c⟩, r⟩
  | own y => obtain ⟨ob, e⟩ := x; exact ⟨ob, k _ _ (.inl rfl) e⟩
  | xd fs => obtain ⟨mA, ⟨od, es, ep, e, c⟩, r⟩ := x; exact ⟨mA, ⟨od, es, ep, k _ _ (.inl rfl) e, c⟩, r⟩
  | rng lo hi => obtain ⟨t, u, v, e⟩ := x; exact ⟨t, u, v, k _ _ (.inl rfl) e⟩
  | frz ob u ih => obtain ⟨e, q⟩ := x; exact ⟨k _ _ (.inl rfl) e, ih q⟩
  | tbl ps =>
    have e : h.get? a = some { cls := .none, data := .fields ps } := x
    show h'.get? a = some { cls := .none, data := .fields ps }
    exact k a _ (.inl rfl) e
  | met f y =>
    have e : h.get? a = some (PySem.W.methodObj (.ref f) (.ref y)) := x
    show h'.get? a = some (PySem.W.methodObj (.ref f) (.ref y))
    exact k a _ (.inl rfl) e
  | ext φ => obtain ⟨p, ⟨o, e⟩, st⟩ := x; exact ⟨st _ _ p fun o q => k _ _ (.inl rfl) q, ⟨o, k _ _ (.inl rfl) e⟩, st⟩
theorem HOk.lt (x : HOk P w H h) (e : H a = some o) : a < h.objs.size := (x a o e).lt
theorem HOk.fresh (x : HOk P w H h) (e : h.objs.size ≤ a) : H a = none := by
  cases q : H a with
  | none => rfl
  | some u => exact absurd (Nat.lt_of_lt_of_le (x.lt q) e) (Nat.lt_irrefl _)
/-- every object of the heap is kept -/
theorem HOk.kept (x : HOk P w H h) (k : ∀ b u, h.get? b = some u → h'.get? b = some u) : HOk P w H h' := fun a o e =>
  (x a o e).stay (fun b u _ q => k b u q) (fun _ q => q) fun _ _ q => q
/-- a new object is laid and tracked -/
theorem HOk.laid (x : HOk P w H h) (k : ∀ b u, h.get? b = some u → h'.get? b = some u) (hp : h.objs.size ≤ a) (new : ObjOk P w (upd H a o) h' a o) : HOk P w (upd H a o) h' := fun b u e => by
  have hn := x.fresh hp
  by_cases hb : b = a
  · subst hb; rw [upd_same] at e; cases e; exact new
  · rw [upd_ne hb] at e
    exact (x b u e).stay (fun c v _ q => k c v q) (fun c q => by rw [upd_ne (ne_of_none q hn)]; exact q) fun c xs q => by rw [upd_ne (ne_of_none q hn)]; exact q
end

/-- what may be read as u: it is u, or a known u -/
def Rd (H : Hp) (a : Addr) (u : HO) : Prop := H a = some u ∨ ∃ o, H a = some (.frz o u)
theorem Rd.of {H : Hp} {a : Addr} {u : HO} (h : H a = some u) : Rd H a u := .inl h
theorem Rd.ok {P : Program} {w : World} {H : Hp} {h : Heap} {a : Addr} {u : HO} (r : Rd H a u) (x : HOk P w H h) : ObjOk P w H h a u := by
  rcases r with r | ⟨o, r⟩
  · exact x a u r
  · obtain ⟨_, q⟩ := x a _ r
    exact q
/-- what may be written -/
def Mut : Option HO → Prop
  | some (.lst _) => True
  | some (.dK _) => True
  | some (.dT _) => True
  | some (.set _ _) => True
  | some (.ins _ _ _) => True
  | some (.ext _) => True
  | _ => False
section
variable {P : Program} {w : World} {H : Hp} {h h' : Heap} {x e : Addr} {o' : HO}
/-- the object at e is changed: x itself, or the dict of the instance x -/
theorem HOk.write (ok : HOk P w H h) (mu : Mut (H x)) (he : e = x ∨ H e = some (.own x)) (k : ∀ b u, b ≠ e → h.get? b = some u → h'.get? b = some u) (heo : ∃ u, h'.get? e = some u)
    (new : ObjOk P w (upd H x o') h' x o') : HOk P w (upd H x o') h' := fun b u q => by
  have nown : ∀ c y, H c = some (.own y) → c ≠ x := fun c y r z => by subst z; rw [r] at mu; exact mu
  have ntup : ∀ c xs, H c = some (.tup xs) → c ≠ x := fun c xs r z => by subst z; rw [r] at mu; exact mu
  by_cases hb : b = x
  · subst hb; rw [upd_same] at q; cases q; exact new
  · rw [upd_ne hb] at q
    by_cases hbe : b = e
    · have q' : H b = some (.own x) := by
        rcases he with z | z
        · exact absurd (hbe.trans z) hb
        · rw [hbe]; exact z
      rw [q] at q'; cases q'
      obtain ⟨v, hv⟩ := heo
      exact ⟨v, by rw [hbe]; exact hv⟩
    · refine (ok b u q).stay (fun c v hc r => k c v ?_ r) (fun c r => by rw [upd_ne (nown c b r)]; exact r) fun c xs r => by rw [upd_ne (ntup c xs r)]; exact r
      rcases hc with rfl | hc
      · exact hbe
      · rintro rfl
        rcases he with z | z
        · exact nown c b hc z
        · rw [hc] at z; cases z; exact hb rfl
end

/-! ### kept unless tracked; of the frames at fs (the callers') the slots may change (an exception that passes writes there); of the records at ex (iterators) nothing is said -/
structure Un (fs ex : List Addr) (H H' : Hp) (h h' : Heap) : Prop where
  keep : ∀ b o, h.get? b = some o → H b = none → b ∉ fs → b ∉ ex → h'.get? b = some o
  slot : ∀ b o, h.get? b = some o → H b = none → b ∈ fs → b ∉ ex → ∃ sl, h'.get? b = some { o with slots := sl }
  free : ∀ b o, h.get? b = some o → H b = none → b ∉ ex → H' b = none
  there : ∀ b o, h.get? b = some o → b ∉ ex → ∃ o', h'.get? b = some o'
  tups : ∀ b xs, H b = some (.tup xs) → H' b = some (.tup xs)
  frzs : ∀ b o u, H b = some (.frz o u) → H' b = some (.frz o u)
  tbls : ∀ b ps, H b = some (.tbl ps) → ∃ more, H' b = some (.tbl (ps ++ more))
section
variable {fs fs' ex ex' : List Addr} {H H1 H2 : Hp} {h h1 h2 h' : Heap} {a x e : Addr} {o : HO}
theorem Un.any (u : Un fs ex H H1 h h1) {b : Addr} {ob : Obj} (q : h.get? b = some ob) (n : H b = none) (hx : b ∉ ex) : ∃ sl, h1.get? b = some { ob with slots := sl } := by
  by_cases hb : b ∈ fs
  · exact u.slot b ob q n hb hx
  · exact ⟨ob.slots, u.keep b ob q n hb hx⟩
theorem Un.trans (a : Un fs ex H H1 h h1) (b : Un fs ex H1 H2 h1 h2) : Un fs ex H H2 h h2 where
  keep := fun c ob q n hc hx => b.keep c ob (a.keep c ob q n hc hx) (a.free c ob q n hx) hc hx
  slot := fun c ob q n hc hx => by
    obtain ⟨sl, e1⟩ := a.slot c ob q n hc hx
    obtain ⟨sl', e2⟩ := b.slot c _ e1 (a.free c ob q n hx) hc hx
    exact ⟨sl', e2⟩
  free := fun c ob q n hx => by
    obtain ⟨o', e1⟩ := a.there c ob q hx
    exact b.free c o' e1 (a.free c ob q n hx) hx
  there := fun c ob q hx => by
    obtain ⟨o', e1⟩ := a.there c ob q hx
    exact b.there c o' e1 hx
  tups := fun c xs q => b.tups c xs (a.tups c xs q)
  frzs := fun c ob xs q => b.frzs c ob xs (a.frzs c ob xs q)
  tbls := fun c ps q => by
    obtain ⟨m1, e1⟩ := a.tbls c ps q
    obtain ⟨m2, e2⟩ := b.tbls c _ e1
    exact ⟨m1 ++ m2, by rw [e2, Array.append_assoc]⟩
theorem Un.kept (k : ∀ b u, h.get? b = some u → h'.get? b = some u) : Un fs ex H H h h' :=
  ⟨fun b ob q _ _ _ => k b ob q, fun b ob q _ _ _ => ⟨ob.slots, k b ob q⟩, fun _ _ _ n _ => n, fun b ob q _ => ⟨ob, k b ob q⟩, fun _ _ q => q, fun _ _ _ q => q, fun _ ps q => ⟨#[], by rw [q]; simp⟩⟩
theorem Un.refl : Un fs ex H H h h := Un.kept fun _ _ q => q
theorem Un.laid (k : ∀ b u, h.get? b = some u → h'.get? b = some u) (hp : h.objs.size ≤ a) (hn : H a = none) : Un fs ex H (upd H a o) h h' where
  keep := fun b u q _ _ _ => k b u q
  slot := fun b u q _ _ _ => ⟨u.slots, k b u q⟩
  free := fun b u q n _ => by rw [upd_ne (Nat.ne_of_lt (Nat.lt_of_lt_of_le (Heap.lt_size q) hp))]; exact n
  there := fun b u q _ => ⟨u, k b u q⟩
  tups := fun b xs q => by rw [upd_ne (ne_of_none q hn)]; exact q
  frzs := fun b u xs q => by rw [upd_ne (ne_of_none q hn)]; exact q
  tbls := fun b ps q => ⟨#[], by rw [upd_ne (ne_of_none q hn), q]; simp⟩
theorem Un.write (mu : Mut (H x)) (he : e = x ∨ H e = some (.own x)) (k : ∀ b u, b ≠ e → h.get? b = some u → h'.get? b = some u) (heo : ∃ u, h'.get? e = some u) : Un fs ex H (upd H x o) h h' := by
  have hx : ∀ b, H b = none → b ≠ x := fun b n z => by subst z; rw [n] at mu; exact mu
  have hb : ∀ b, H b = none → b ≠ e := fun b n z => by
    subst z
    rcases he with r | r
    · exact hx b n r
    · rw [n] at r; cases r
  have hm : ∀ b u, H b = some u → ¬ Mut (some u) → b ≠ x := fun b u q nm z => by subst z; rw [q] at mu; exact nm mu
  refine ⟨fun b u q n _ _ => k b u (hb b n) q, fun b u q n _ _ => ⟨u.slots, k b u (hb b n) q⟩, fun b u q n _ => by rw [upd_ne (hx b n)]; exact n, fun b u q _ => ?_,
    fun b xs q => by rw [upd_ne (hm b _ q fun z => z)]; exact q, fun b u xs q => by rw [upd_ne (hm b _ q fun z => z)]; exact q, fun b ps q => ⟨#[], by rw [upd_ne (hm b _ q fun z => z), q]; simp⟩⟩
  by_cases hbe : b = e
  · subst hbe; exact heo
  · exact ⟨u, k b u hbe q⟩
theorem Un.mono (u : Un fs ex H H1 h h1) (hs : ∀ b ∈ fs, b ∈ fs') (hx : ∀ b ∈ ex, b ∈ ex') : Un fs' ex' H H1 h h1 :=
  ⟨fun b ob q n hb he => u.keep b ob q n (fun z => hb (hs b z)) fun z => he (hx b z), fun _ _ q n _ he => u.any q n fun z => he (hx _ z), fun b ob q n he => u.free b ob q n fun z => he (hx b z), fun b ob q he => u.there b ob q fun z => he (hx b z), u.tups, u.frzs, u.tbls⟩
end

/-! ### the heap without what is tracked -/
def trk (h : Heap) (H : Hp) : List Addr := (List.range h.objs.size).filter fun a => (H a).isSome
def hidT (h : Heap) (H : Hp) : Heap := PySem.W.hideAll h (trk h H)
theorem hidT_size (h : Heap) (H : Hp) : (hidT h H).objs.size = h.objs.size := PySem.W.hideAll_size _ _
theorem hidT_get {h : Heap} {H : Hp} {b : Addr} {o : Obj} (e : h.get? b = some o) (n : H b = none) : (hidT h H).get? b = some o :=
  PySem.W.hideAll_get _ e fun hm => by
    have q : (H b).isSome = true := (List.mem_filter.mp hm).2
    rw [n] at q; simp at q
theorem of_hidT {h : Heap} {H : Hp} {b : Addr} {o : Obj} (e : (hidT h H).get? b = some o) : h.get? b = some o ∧ H b = none := by
  have e' : h.get? b = some o := PySem.W.of_hideAll (trk h H) e
  refine ⟨e', ?_⟩
  cases q : H b with
  | none => rfl
  | some x =>
    have hm : b ∈ trk h H := List.mem_filter.mpr ⟨List.mem_range.mpr (Heap.lt_size e'), by simp [q]⟩
    have z : (hidT h H).get? b = none := PySem.W.hideAll_none (trk h H) hm
    rw [z] at e; cases e

/-! ### OpenK's ledger, filled with every new object but one -/
def allNews (g h : Heap) (L : Addr) : List (Addr × Obj) := (List.range h.objs.size).filterMap fun a => if a = L ∨ (g.get? a).isSome = true then none else (h.get? a).map fun o => (a, o)
theorem mem_allNews {g h : Heap} {L a : Addr} {o : Obj} (h1 : a ≠ L) (h2 : g.get? a = none) (h3 : h.get? a = some o) : (a, o) ∈ allNews g h L :=
  List.mem_filterMap.mpr ⟨a, List.mem_range.mpr (Heap.lt_size h3), by simp [h1, h2, h3]⟩
theorem of_mem_allNews {g h : Heap} {L : Addr} {p : Addr × Obj} (hp : p ∈ allNews g h L) : p.1 ≠ L ∧ g.get? p.1 = none ∧ h.get? p.1 = some p.2 := by
  obtain ⟨b, _, e⟩ := List.mem_filterMap.mp hp
  split at e
  · cases e
  · rename_i hn
    cases q : h.get? b with
    | none => rw [q] at e; simp at e
    | some u =>
      rw [q] at e
      simp only [Option.map_some, Option.some.injEq] at e
      subst e
      refine ⟨fun z => hn (.inl z), ?_, q⟩
      show g.get? b = none
      cases r : g.get? b with
      | none => rfl
      | some v => exact (hn (.inr (by simp [r]))).elim
def rest (g h : Heap) (L d : Addr) : List (Addr × Obj) := (allNews g h L).filter fun p => decide (p.1 ≠ d)
theorem rest_ne {g h : Heap} {L d : Addr} : ∀ p ∈ rest g h L d, p.1 ≠ d := fun p hp => of_decide_eq_true (List.mem_filter.mp hp).2
theorem mem_rest {g h : Heap} {L d a : Addr} {o : Obj} (h1 : a ≠ L) (h2 : g.get? a = none) (h3 : h.get? a = some o) (h4 : a ≠ d) : (a, o) ∈ rest g h L d :=
  List.mem_filter.mpr ⟨mem_allNews h1 h2 h3, decide_eq_true h4⟩
theorem news_all {g h : Heap} {L : Addr} : News g L h (allNews g h L) := fun p hp => let ⟨a, b, c⟩ := of_mem_allNews hp; ⟨c, a, b⟩
theorem news_at {g h : Heap} {L d : Addr} {o : Obj} (h1 : d ≠ L) (h2 : g.get? d = none) (h3 : h.get? d = some o) : News g L h ((d, o) :: rest g h L d) := fun p hp => by
  rcases List.mem_cons.mp hp with rfl | hp
  · exact ⟨h3, h1, h2⟩
  · exact news_all p (List.mem_filter.mp hp).1
/-- behind a rule that changed d alone: all else but the frame is kept -/
theorem kept_of_news {g h h' : Heap} {L d : Addr} {m : Str → Option Value} (k : ∀ b o, g.get? b = some o → h.get? b = some o) (F : Fr g L h' m) (N : News g L h' (rest g h L d)) :
    ∀ b o, b ≠ L → b ≠ d → h.get? b = some o → h'.get? b = some o := fun b o h1 h2 e => by
  cases q : g.get? b with
  | some u =>
    have := k b u q
    rw [e] at this; cases this
    exact F.keep b _ q
  | none => exact (N (b, o) (mem_rest h1 q e h2)).1
end L2

namespace L2
open PySem PySem.Spec PyProof.Rows

/-- the module's facts, over the base: the heap at the law's entry without what is tracked there -/
structure Mod (K : PySem.W.Frag) (mg : Str → Option Value) (base : Heap) : Prop where
  kin : K.In base
  glob : base.Ns mainGlobals mg
  blt : ∃ mb, base.Ns builtinsNs mb ∧ ∀ x : Str, x ≠ "__name__" → mb x = bootBuiltins x
  nolimit : base.NoLimit

/-- the context: a def's body (or a comprehension's block) running. base: fixed through the whole law; s₀, H₀: the entry; outer: the frames whose slots others may change (a def's callers); stack: all frames that run;
   ex: iterators that were made ahead of the entry and are walked here (a comprehension's); fn: the names whose cells were made at the entry (a def: all; a comprehension's block: its own); calm: not within an except suite; pn: pins that every state bears; xe: what is wanted of an exception that leaves the code -/
structure Cx where
  prog : Program
  w : World
  K : PySem.W.Frag
  mg : Str → Option Value
  base : Heap
  A : Around
  N : List Str
  s₀ : Shared
  H₀ : Hp
  env : Env
  outer : List Env
  stack : List Env
  ex : List Addr
  fn : Str → Bool
  calm : Bool
  pn : List (Addr × Obj)
  xe : Value → Shared → Prop
/-- the callers' frames -/
def frs (l : List Env) : List Addr := l.filterMap (·.frame)
abbrev Cx.fs (X : Cx) : List Addr := frs X.outer

def Vis (sc : Scope) (x : Str) : Prop := sc.names.lookup x = some .local ∨ sc.names.lookup x = some .cell ∨ sc.names.lookup x = some .free
def Loc (sc : Scope) (x : Str) : Prop := sc.names.lookup x = some .local ∨ sc.names.lookup x = some .cell
def Look (env : Env) (h : Heap) (m : Str → Option Value) (x : Str) (u : Value) : Prop :=
  (env.kindOf x = some .local ∧ m x = some u) ∨ ((env.kindOf x = some .cell ∨ env.kindOf x = some .free) ∧ ∃ c, env.cells.lookup x = some c ∧ h.IsCell c (some u))

structure Cx.Ok (X : Cx) : Prop where
  mod : Mod X.K X.mg X.base
  kind : X.env.scope.kind = .function
  glob : X.env.globals = mainGlobals
  blt : X.env.builtins = builtinsNs
  above : X.s₀.heap.objs.size ≤ X.env.locals
  inj : ∀ x y c, X.env.cells.lookup x = some c → X.env.cells.lookup y = some c → x = y
  has : ∀ x, (X.env.kindOf x = some .cell ∨ X.env.kindOf x = some .free) → ∃ c, X.env.cells.lookup x = some c
  cab : ∀ x c, X.fn x = true → X.env.cells.lookup x = some c → X.s₀.heap.objs.size ≤ c
  hd : X.calm = true → X.A.handled = none
  frames : X.A.frames = some X.stack
  stk : X.stack = X.outer ∨ (X.stack = X.env :: X.outer ∧ X.env.frame = some X.env.locals)
  exf : ∀ b ∈ X.ex, b ≠ X.env.locals ∧ ∀ x c, X.env.cells.lookup x = some c → c ≠ b
  bs : ∀ b o, X.base.get? b = some o → X.s₀.heap.get? b = some o ∧ X.H₀ b = none
  bsz : X.base.objs.size ≤ X.s₀.heap.objs.size
  noex : ∀ b o, X.base.get? b = some o → b ∉ X.ex
  exfs : ∀ b ∈ X.ex, b ∉ X.fs
  funs : X.s₀.heap.FunFrames X.base X.outer
  frf : ∀ b ∈ X.fs, X.H₀ b = none

structure Inv (X : Cx) (pins : List (Addr × Obj)) (σ : List (Option V)) (H : Hp) (s : Shared) : Prop where
  ok : X.Ok
  os : s.os = X.s₀.os
  bare : AllBare s.gens
  base : Un X.fs X.ex X.H₀ H X.s₀.heap s.heap
  loc : ∃ m, s.heap.Ns X.env.locals m ∧ ∀ (i : Nat) (x : Str) (v : V), X.N[i]? = some x → σ[i]? = some (some v) → Vis X.env.scope x → ∃ u, RelV v u ∧ Look X.env s.heap m x u
  cell : ∀ x c, X.env.cells.lookup x = some c → ∃ v, s.heap.IsCell c v
  free : H X.env.locals = none
  freeC : ∀ x c, X.env.cells.lookup x = some c → H c = none
  pin : ∀ p ∈ X.pn ++ pins, s.heap.get? p.1 = some p.2 ∧ H p.1 = none ∧ p.1 ≠ X.env.locals ∧ p.1 ∉ X.fs ∧ ∀ v, p.2.data ≠ .cell v
  hok : HOk X.prog X.w H s.heap
  len : σ.length = X.N.length

section
variable {X : Cx} {pins : List (Addr × Obj)} {σ : List (Option V)} {H H' : Hp} {s : Shared} {h' : Heap}

theorem Cx.Ok.nofr (ok : X.Ok) {b : Addr} {o : Obj} (e : X.base.get? b = some o) : b ∉ X.fs := fun hb => by
  have := (ok.funs.mem hb).1
  rw [e] at this; cases this
theorem Inv.bs (I : Inv X pins σ H s) : ∀ b o, X.base.get? b = some o → s.heap.get? b = some o ∧ H b = none := fun b o e =>
  ⟨I.base.keep b o (I.ok.bs b o e).1 (I.ok.bs b o e).2 (I.ok.nofr e) (I.ok.noex b o e), I.base.free b o (I.ok.bs b o e).1 (I.ok.bs b o e).2 (I.ok.noex b o e)⟩
theorem Inv.bk (I : Inv X pins σ H s) : ∀ b o, X.base.get? b = some o → s.heap.get? b = some o := fun b o e => (I.bs b o e).1
theorem Inv.mod (I : Inv X pins σ H s) : Mod X.K X.mg X.base := I.ok.mod
theorem Inv.kIn (I : Inv X pins σ H s) : X.K.In s.heap := I.ok.mod.kin.keeps I.bk
theorem Inv.nolimit (I : Inv X pins σ H s) : s.heap.NoLimit := I.ok.mod.nolimit.keeps I.bk
/-- the frame over the base: for OpenK's rules (K.In X.base is I.mod.kin) -/
theorem Inv.fr (I : Inv X pins σ H s) : ∃ m, Fr X.base X.env.locals s.heap m :=
  let ⟨m, hn, _⟩ := I.loc
  ⟨m, hn, I.bk, Nat.le_trans I.ok.bsz I.ok.above⟩
theorem Inv.lt (I : Inv X pins σ H s) : X.env.locals < s.heap.objs.size := let ⟨_, hn, _⟩ := I.loc; hn.lt
theorem Inv.sz (I : Inv X pins σ H s) : X.s₀.heap.objs.size ≤ s.heap.objs.size := Nat.le_trans I.ok.above (Nat.le_of_lt I.lt)
theorem Inv.nofs (I : Inv X pins σ H s) {a : Addr} (h : s.heap.objs.size ≤ a) : a ∉ X.fs := fun hb => by
  obtain ⟨_, o, ho, _⟩ := I.ok.funs.mem hb
  exact absurd (Nat.lt_of_lt_of_le (Heap.lt_size ho) (Nat.le_trans I.sz h)) (Nat.lt_irrefl _)
theorem Inv.cne (I : Inv X pins σ H s) : ∀ x c, X.env.cells.lookup x = some c → c ≠ X.env.locals := fun x c e z => by
  obtain ⟨v, o, ho, hd⟩ := I.cell x c e
  obtain ⟨m, ⟨o', es, ep, ho', hd', _⟩, _⟩ := I.loc
  rw [z, ho'] at ho; cases ho; rw [hd'] at hd; cases hd
theorem Inv.funs (I : Inv X pins σ H s) : s.heap.FunFrames X.base X.outer := by
  have all : ∀ (l : List Env), (∀ b ∈ frs l, b ∈ X.fs) → X.s₀.heap.FunFrames X.base l → s.heap.FunFrames X.base l := by
    intro l
    induction l with
    | nil => intro _ _; trivial
    | cons env r ih =>
      intro hs hl
      obtain ⟨hk, ⟨L, o, hf, hn, ho, hd⟩, hr⟩ := hl
      have hL : L ∈ X.fs := hs L (by unfold frs; rw [List.filterMap_cons, hf]; exact List.mem_cons_self)
      obtain ⟨sl, e⟩ := I.base.slot L o ho (I.ok.frf L hL) hL fun z => I.ok.exfs L z hL
      exact ⟨hk, ⟨L, _, hf, hn, e, hd⟩, ih (fun b hb => hs b (by unfold frs; rw [List.filterMap_cons, hf]; exact List.mem_cons_of_mem _ hb)) hr⟩
  exact all X.outer (fun _ hb => hb) I.ok.funs

/-- the frames that run, for a call -/
theorem Inv.stack (I : Inv X pins σ H s) : s.heap.FunFrames X.base X.stack := by
  rcases I.ok.stk with e | ⟨e, hf⟩
  · rw [e]; exact I.funs
  · rw [e]
    obtain ⟨m, hn, _⟩ := I.loc
    refine .cons (by rw [I.ok.kind]; decide) hf hn ?_ I.funs
    exact Heap.get?_none_of_le (Nat.le_trans I.ok.bsz I.ok.above)
theorem Inv.stkSub (I : Inv X pins σ H s) : ∀ b ∈ frs X.stack, b ∈ X.env.locals :: X.fs := fun b hb => by
  rcases I.ok.stk with e | ⟨e, hf⟩
  · rw [e] at hb; exact List.mem_cons_of_mem _ hb
  · rw [e] at hb
    unfold frs at hb
    rw [List.filterMap_cons, hf] at hb
    exact hb
theorem Inv.stkFree (I : Inv X pins σ H s) : ∀ b ∈ frs X.stack, H b = none := fun b hb => by
  rcases List.mem_cons.mp (I.stkSub b hb) with e | hb
  · rw [e]; exact I.free
  · obtain ⟨_, o, ho, _⟩ := I.ok.funs.mem hb
    exact I.base.free b o ho (I.ok.frf b hb) fun z => I.ok.exfs b z hb

/-- THE STEP: the untracked objects but the frame and the records at ch are kept (the callers' frames up to slots), the frame's map is kept, the new abstract heap is held -/
theorem Inv.step {g' : Array GenState} {t' : Nat} {d' : Drawn} {ch : List Addr} (I : Inv X pins σ H s)
    (hch : ∀ b ∈ ch, (b ∈ X.ex ∨ X.s₀.heap.objs.size ≤ b) ∧ b ≠ X.env.locals ∧ (∀ x c, X.env.cells.lookup x = some c → c ≠ b) ∧ ∀ p ∈ X.pn ++ pins, p.1 ≠ b)
    (keep : ∀ b o, b ≠ X.env.locals → b ∉ X.fs → b ∉ ch → s.heap.get? b = some o → H b = none → h'.get? b = some o)
    (slot : ∀ b o, b ≠ X.env.locals → b ∈ X.fs → b ∉ ch → s.heap.get? b = some o → H b = none → ∃ sl, h'.get? b = some { o with slots := sl }) (free : ∀ b o, b ∉ ch → s.heap.get? b = some o → H b = none → H' b = none)
    (there : ∀ b o, b ∉ ch → s.heap.get? b = some o → ∃ o', h'.get? b = some o')
    (tups : ∀ b xs, H b = some (.tup xs) → H' b = some (.tup xs)) (frzs : ∀ b o u, H b = some (.frz o u) → H' b = some (.frz o u)) (tbls : ∀ b ps, H b = some (.tbl ps) → ∃ more, H' b = some (.tbl (ps ++ more)))
    (ns : ∀ m, s.heap.Ns X.env.locals m → h'.Ns X.env.locals m) (hok : HOk X.prog X.w H' h') (hg : AllBare g') :
    Inv X pins σ H' { s with heap := h', gens := g', drawn := d', toks := t' } := by
  have neL : ∀ b o, X.s₀.heap.get? b = some o → b ≠ X.env.locals := fun b o e => Nat.ne_of_lt (Nat.lt_of_lt_of_le (Heap.lt_size e) I.ok.above)
  have neC : ∀ b o, X.s₀.heap.get? b = some o → b ∉ X.ex → b ∉ ch := fun b o e hx hb => by
    rcases (hch b hb).1 with z | z
    · exact hx z
    · exact absurd (Nat.lt_of_lt_of_le (Heap.lt_size e) z) (Nat.lt_irrefl _)
  have cellK : ∀ x c, X.env.cells.lookup x = some c → ∀ v, s.heap.IsCell c v → h'.IsCell c v := fun x c e v ⟨o, ho, hd⟩ => by
    have nch : c ∉ ch := fun z => (hch c z).2.2.1 x c e rfl
    by_cases hc : c ∈ X.fs
    · obtain ⟨sl, q⟩ := slot c o (I.cne x c e) hc nch ho (I.freeC x c e)
      exact ⟨_, q, hd⟩
    · exact ⟨o, keep c o (I.cne x c e) hc nch ho (I.freeC x c e), hd⟩
  refine ⟨I.ok, I.os, hg, ⟨fun b o e n hb hx => ?_, fun b o e n hb hx => ?_, fun b o e n hx => ?_, fun b o e hx => ?_, fun b xs e => tups b xs (I.base.tups b xs e), fun b o xs e => frzs b o xs (I.base.frzs b o xs e), fun b ps e => ?_⟩, ?_, fun x c e => ?_, ?_, fun x c e => ?_, fun p hp => ?_, hok, I.len⟩
  · exact keep b o (neL b o e) hb (neC b o e hx) (I.base.keep b o e n hb hx) (I.base.free b o e n hx)
  · obtain ⟨sl, e1⟩ := I.base.slot b o e n hb hx
    obtain ⟨sl', e2⟩ := slot b _ (neL b o e) hb (neC b o e hx) e1 (I.base.free b o e n hx)
    exact ⟨sl', e2⟩
  · obtain ⟨o', e1⟩ := I.base.there b o e hx
    exact free b o' (neC b o e hx) e1 (I.base.free b o e n hx)
  · obtain ⟨o', e1⟩ := I.base.there b o e hx
    exact there b o' (neC b o e hx) e1
  · obtain ⟨m1, e1⟩ := I.base.tbls b ps e
    obtain ⟨m2, e2⟩ := tbls b _ e1
    exact ⟨m1 ++ m2, by rw [e2, Array.append_assoc]⟩
  · obtain ⟨m, hn, hl⟩ := I.loc
    refine ⟨m, ns m hn, fun i x v e1 e2 e3 => ?_⟩
    obtain ⟨u, r, l⟩ := hl i x v e1 e2 e3
    refine ⟨u, r, ?_⟩
    rcases l with l | ⟨k, c, e, z⟩
    · exact .inl l
    · exact .inr ⟨k, c, e, cellK x c e _ z⟩
  · obtain ⟨v, z⟩ := I.cell x c e
    exact ⟨v, cellK x c e v z⟩
  · obtain ⟨m, ⟨o, _, _, ho, _⟩, _⟩ := I.loc
    exact free _ o (fun z => (hch _ z).2.1 rfl) ho I.free
  · obtain ⟨v, o, ho, hd⟩ := I.cell x c e
    exact free c o (fun z => (hch c z).2.2.1 x c e rfl) ho (I.freeC x c e)
  · obtain ⟨e, n, ne, nf, d⟩ := I.pin p hp
    have nch : p.1 ∉ ch := fun z => (hch p.1 z).2.2.2 p hp rfl
    exact ⟨keep p.1 p.2 ne nf nch e n, free p.1 p.2 nch e n, ne, nf, d⟩
/-- .. where the frame's own object is kept too -/
theorem Inv.un {t' : Nat} (I : Inv X pins σ H s) (u : Un X.fs [] H H' s.heap h') (hok : HOk X.prog X.w H' h') : Inv X pins σ H' { s with heap := h', toks := t' } := by
  obtain ⟨m, ⟨o, es, ep, ho, r⟩, _⟩ := id I.loc
  obtain ⟨sl, hL⟩ := u.any ho I.free (by simp)
  exact I.step (g' := s.gens) (d' := s.drawn) (ch := []) (fun _ z => nomatch z) (fun b o _ hb _ e n => u.keep b o e n hb (by simp)) (fun b o _ hb _ e n => u.slot b o e n hb (by simp)) (fun b o _ e n => u.free b o e n (by simp)) (fun b o _ e => u.there b o e (by simp)) u.tups u.frzs u.tbls (fun m' hm => by
    obtain ⟨o', es', ep', ho', r'⟩ := hm
    rw [ho] at ho'; cases ho'
    exact ⟨_, es', ep', hL, r'⟩) hok I.bare
/-- behind a call (or a comprehension's block): the slots of this frame may have changed too, the records at ch may have turned -/
theorem Inv.call {g' : Array GenState} {t' : Nat} {d' : Drawn} {ch : List Addr} (I : Inv X pins σ H s) (u : Un (frs X.stack) ch H H' s.heap h') (hok : HOk X.prog X.w H' h') (hg : AllBare g')
    (hch : ∀ b ∈ ch, (b ∈ X.ex ∨ X.s₀.heap.objs.size ≤ b) ∧ b ≠ X.env.locals ∧ (∀ x c, X.env.cells.lookup x = some c → c ≠ b) ∧ ∀ p ∈ X.pn ++ pins, p.1 ≠ b) :
    Inv X pins σ H' { s with heap := h', gens := g', drawn := d', toks := t' } := by
  obtain ⟨m, ⟨o, es, ep, ho, r⟩, _⟩ := id I.loc
  obtain ⟨sl, hL⟩ := u.any ho I.free fun z => (hch _ z).2.1 rfl
  exact I.step (ch := ch) hch (fun b o hL hb hc e n => u.keep b o e n (fun z => (List.mem_cons.mp (I.stkSub b z)).elim hL hb) hc) (fun b o _ _ hc e n => u.any e n hc) (fun b o hc e n => u.free b o e n hc) (fun b o hc e => u.there b o e hc) u.tups u.frzs u.tbls (fun m' hm => by
    obtain ⟨o', es', ep', ho', r'⟩ := hm
    rw [ho] at ho'; cases ho'
    exact ⟨_, es', ep', hL, r'⟩) hok hg
/-- an untracked record of ours (an iterator) has turned -/
theorem Inv.turned {t' : Nat} {it : Addr} (I : Inv X pins σ H s) (k : ∀ b o, b ≠ it → s.heap.get? b = some o → h'.get? b = some o) (hn : H it = none) (hL : it ≠ X.env.locals)
    (h1 : it ∈ X.ex ∨ X.s₀.heap.objs.size ≤ it) (h2 : ∀ x c, X.env.cells.lookup x = some c → c ≠ it) (h3 : ∀ p ∈ X.pn ++ pins, p.1 ≠ it) : Inv X pins σ H { s with heap := h', toks := t' } := by
  have nit : ∀ b u, H b = some u → b ≠ it := fun b u e z => by rw [z, hn] at e; cases e
  refine I.step (g' := s.gens) (d' := s.drawn) (ch := [it]) (fun b hb => ?_) (fun b o _ _ hc e _ => k b o (fun z => hc (by simp [z])) e) (fun b o _ _ hc e _ => ⟨o.slots, k b o (fun z => hc (by simp [z])) e⟩) (fun _ _ _ _ n => n)
    (fun b o hc e => ⟨o, k b o (fun z => hc (by simp [z])) e⟩) (fun _ _ e => e) (fun _ _ _ e => e) (fun b ps e => ⟨#[], by rw [e]; simp⟩) (fun m hm => ?_) (fun b u e => ?_) I.bare
  · have e : b = it := by simpa using hb
    subst e
    exact ⟨h1, hL, h2, h3⟩
  · obtain ⟨o, es, ep, ho, r⟩ := hm
    exact ⟨o, es, ep, k _ o (Ne.symm hL) ho, r⟩
  · refine (I.hok b u e).stay (fun c v hc q => k c v ?_ q) (fun _ q => q) fun _ _ q => q
    rcases hc with z | z
    · rw [z]; exact nit b u e
    · exact nit c _ z
theorem Inv.tok (I : Inv X pins σ H s) (t : Nat) : Inv X pins σ H { s with toks := t } := I.un (h' := s.heap) (t' := t) Un.refl I.hok
/-- all objects kept -/
theorem Inv.kept {t' : Nat} (I : Inv X pins σ H s) (k : ∀ b u, s.heap.get? b = some u → h'.get? b = some u) : Inv X pins σ H { s with heap := h', toks := t' } := I.un (Un.kept k) (I.hok.kept k)
/-- a new object laid and tracked -/
theorem Inv.laid {a : Addr} {o : HO} {t' : Nat} (I : Inv X pins σ H s) (k : ∀ b u, s.heap.get? b = some u → h'.get? b = some u) (hp : s.heap.objs.size ≤ a) (new : ObjOk X.prog X.w (upd H a o) h' a o) :
    Inv X pins σ (upd H a o) { s with heap := h', toks := t' } := I.un (Un.laid k hp (I.hok.fresh hp)) (I.hok.laid k hp new)
/-- an object written -/
theorem Inv.write {x e : Addr} {o : HO} {t' : Nat} (I : Inv X pins σ H s) (mu : Mut (H x)) (he : e = x ∨ H e = some (.own x)) (k : ∀ b u, b ≠ e → s.heap.get? b = some u → h'.get? b = some u) (heo : ∃ u, h'.get? e = some u)
    (new : ObjOk X.prog X.w (upd H x o) h' x o) : Inv X pins σ (upd H x o) { s with heap := h', toks := t' } := I.un (Un.write mu he k heo) (I.hok.write mu he k heo new)
/-- forgetting slots, pins -/
theorem Inv.weak {σ' : List (Option V)} (I : Inv X pins σ H s) (hl : σ'.length = σ.length) (w : ∀ (i : Nat) v, σ'[i]? = some (some v) → σ[i]? = some (some v)) : Inv X pins σ' H s :=
  ⟨I.ok, I.os, I.bare, I.base, let ⟨m, hn, hl'⟩ := I.loc; ⟨m, hn, fun i x v e1 e2 e3 => hl' i x v e1 (w i v e2) e3⟩, I.cell, I.free, I.freeC, I.pin, I.hok, hl.trans I.len⟩
theorem Inv.pins_of {pins' : List (Addr × Obj)} (I : Inv X pins σ H s) (h : ∀ p ∈ pins', s.heap.get? p.1 = some p.2 ∧ H p.1 = none ∧ p.1 ≠ X.env.locals ∧ p.1 ∉ X.fs ∧ ∀ v, p.2.data ≠ .cell v) : Inv X pins' σ H s :=
  ⟨I.ok, I.os, I.bare, I.base, I.loc, I.cell, I.free, I.freeC, fun p hp => (List.mem_append.mp hp).elim (fun z => I.pin p (List.mem_append_left _ z)) (h p), I.hok, I.len⟩

theorem nodup_ix {N : List Str} (hN : N.Nodup) {i j : Nat} {x : Str} (a : N[i]? = some x) (b : N[j]? = some x) : i = j := by
  obtain ⟨h1, e1⟩ := List.getElem?_eq_some_iff.mp a
  obtain ⟨h2, e2⟩ := List.getElem?_eq_some_iff.mp b
  exact (List.getElem_inj hN).mp (e1.trans e2.symm)

/-- a name is stored; what changed -/
theorem store_ok2 {M : Model} {A : Around} {E : Value → Shared → Prop} {i : Nat} {x : Str} {v : V} {u : Value} {Q : Unit → Shared → Prop} (I : Inv X pins σ H s) (hN : X.N.Nodup) (hi : X.N[i]? = some x) (hx : Loc X.env.scope x) (r : RelV v u)
    (h : ∀ s', Inv X pins (σ.set i (some v)) H s' → (∃ a, Heap.SameBut a s.heap s'.heap ∧ (a = X.env.locals ∨ X.env.cells.lookup x = some a)) → Q () s') (hf : X.fn x = true ∨ X.env.scope.names.lookup x = some .local := by first | exact .inl rfl | exact .inr rfl | assumption) : wpAny M A (storeName X.env x u) Q E s := by
  obtain ⟨m, hn, hl⟩ := id I.loc
  have hcls : (X.env.scope.kind == .class || (X.env.scope.kind == .module && X.env.locals != X.env.globals)) = false := by rw [I.ok.kind]; rfl
  have hiσ : i < σ.length := by rw [I.len]; exact (List.getElem?_eq_some_iff.mp hi).1
  have cne := I.cne
  have tracked : ∀ {a : Addr} {h' : Heap}, (∃ o, s.heap.get? a = some o ∧ H a = none) → Heap.SameBut a s.heap h' → HOk X.prog X.w H h' := fun {a h'} ha hs b ob e => by
    obtain ⟨_, _, hfree⟩ := ha
    refine (I.hok b ob e).stay (fun c w' hc q => (hs.2 c ?_).trans q) (fun _ q => q) fun _ _ q => q
    rintro rfl
    rcases hc with rfl | hc
    · rw [hfree] at e; cases e
    · rw [hfree] at hc; cases hc
  rcases hx with hk | hk
  · refine wpAny_storeName_local hk hn (fun h' hn' hs => ?_) hcls
    obtain ⟨oL, _, _, hoL, _⟩ := id hn
    refine h _ ⟨I.ok, I.os, I.bare, ⟨fun b o e n hb hx => ?_, fun b o e n hb hx => ?_, I.base.free, fun b o e hx => ?_, I.base.tups, I.base.frzs, I.base.tbls⟩, ⟨_, hn', fun j y v' e1 e2 e3 => ?_⟩, fun y c e => ?_, I.free, I.freeC, fun p hp => ?_, tracked ⟨oL, hoL, I.free⟩ hs, by simpa using I.len⟩ ⟨_, hs, .inl rfl⟩
    · exact (hs.2 b (Nat.ne_of_lt (Nat.lt_of_lt_of_le (Heap.lt_size e) I.ok.above))).trans (I.base.keep b o e n hb hx)
    · obtain ⟨sl, e1⟩ := I.base.slot b o e n hb hx
      exact ⟨sl, (hs.2 b (Nat.ne_of_lt (Nat.lt_of_lt_of_le (Heap.lt_size e) I.ok.above))).trans e1⟩
    · obtain ⟨o', e1⟩ := I.base.there b o e hx
      exact ⟨o', (hs.2 b (Nat.ne_of_lt (Nat.lt_of_lt_of_le (Heap.lt_size e) I.ok.above))).trans e1⟩
    · by_cases hj : j = i
      · subst hj
        rw [hi] at e1; cases e1
        rw [List.getElem?_set_self hiσ] at e2
        cases e2
        exact ⟨u, r, .inl ⟨hk, by simp⟩⟩
      · rw [List.getElem?_set_ne (Ne.symm hj)] at e2
        obtain ⟨u', r', q⟩ := hl j y v' e1 e2 e3
        refine ⟨u', r', ?_⟩
        rcases q with ⟨k, e⟩ | ⟨k, c, e, z⟩
        · refine .inl ⟨k, ?_⟩
          have : y ≠ x := fun e => hj (nodup_ix hN e1 (e ▸ hi))
          simp [this, e]
        · exact .inr ⟨k, c, e, z.sameBut hs (cne y c e)⟩
    · obtain ⟨w', z⟩ := I.cell y c e
      exact ⟨w', z.sameBut hs (cne y c e)⟩
    · obtain ⟨e, n, ne, nf, d⟩ := I.pin p hp
      exact ⟨(hs.2 p.1 ne).trans e, n, ne, nf, d⟩
  · have hfn : X.fn x = true := by
      rcases hf with z | z
      · exact z
      · rw [z] at hk; cases hk
    obtain ⟨c, hc⟩ := I.ok.has x (.inl hk)
    obtain ⟨w', z⟩ := I.cell x c hc
    refine wpAny_storeName_cell I.ok.kind hk hc z (fun h' hc' hs => ?_)
    obtain ⟨oc, hoc, hocd⟩ := id z
    refine h { s with heap := h' } ⟨I.ok, I.os, I.bare, ⟨fun b o e n hb hx => ?_, fun b o e n hb hx => ?_, I.base.free, fun b o e hx => ?_, I.base.tups, I.base.frzs, I.base.tbls⟩, ⟨m, hn.sameBut hs (Ne.symm (cne x c hc)), fun j y v' e1 e2 e3 => ?_⟩, fun y c' e => ?_, I.free, I.freeC, fun p hp => ?_, tracked ⟨oc, hoc, I.freeC x c hc⟩ hs, by simpa using I.len⟩ ⟨c, hs, .inr hc⟩
    · exact (hs.2 b (Nat.ne_of_lt (Nat.lt_of_lt_of_le (Heap.lt_size e) (I.ok.cab x c hfn hc)))).trans (I.base.keep b o e n hb hx)
    · obtain ⟨sl, e1⟩ := I.base.slot b o e n hb hx
      exact ⟨sl, (hs.2 b (Nat.ne_of_lt (Nat.lt_of_lt_of_le (Heap.lt_size e) (I.ok.cab x c hfn hc)))).trans e1⟩
    · obtain ⟨o', e1⟩ := I.base.there b o e hx
      exact ⟨o', (hs.2 b (Nat.ne_of_lt (Nat.lt_of_lt_of_le (Heap.lt_size e) (I.ok.cab x c hfn hc)))).trans e1⟩
    · by_cases hj : j = i
      · subst hj
        rw [hi] at e1; cases e1
        rw [List.getElem?_set_self hiσ] at e2
        cases e2
        exact ⟨u, r, .inr ⟨.inl hk, c, hc, hc'⟩⟩
      · rw [List.getElem?_set_ne (Ne.symm hj)] at e2
        obtain ⟨u', r', q⟩ := hl j y v' e1 e2 e3
        refine ⟨u', r', ?_⟩
        rcases q with q | ⟨k, c', e, z'⟩
        · exact .inl q
        · refine .inr ⟨k, c', e, z'.sameBut hs ?_⟩
          rintro rfl
          exact hj (nodup_ix hN e1 (I.ok.inj _ _ _ e hc ▸ hi))
    · by_cases hcc : c' = c
      · subst hcc; exact ⟨_, hc'⟩
      · obtain ⟨w2, z2⟩ := I.cell y c' e
        exact ⟨w2, z2.sameBut hs hcc⟩
    · obtain ⟨e, n, ne, nf, d⟩ := I.pin p hp
      refine ⟨(hs.2 p.1 ?_).trans e, n, ne, nf, d⟩
      intro q
      rw [q, hoc] at e
      have q' : oc = p.2 := Option.some.inj e
      exact d w' (by rw [← q']; exact hocd)
theorem store_ok {M : Model} {A : Around} {E : Value → Shared → Prop} {i : Nat} {x : Str} {v : V} {u : Value} {Q : Unit → Shared → Prop} (I : Inv X pins σ H s) (hN : X.N.Nodup) (hi : X.N[i]? = some x) (hx : Loc X.env.scope x) (r : RelV v u)
    (h : ∀ s', Inv X pins (σ.set i (some v)) H s' → Q () s') (hf : X.fn x = true ∨ X.env.scope.names.lookup x = some .local := by first | exact .inl rfl | exact .inr rfl | assumption) : wpAny M A (storeName X.env x u) Q E s :=
  store_ok2 I hN hi hx r (fun s' I' _ => h s' I') hf
/-- behind a call or a block, the state as it is -/
theorem Inv.call' {s' : Shared} {ch : List Addr} (I : Inv X pins σ H s) (ho : s'.os = s.os) (u : Un (frs X.stack) ch H H' s.heap s'.heap) (hok : HOk X.prog X.w H' s'.heap) (hg : AllBare s'.gens)
    (hch : ∀ b ∈ ch, (b ∈ X.ex ∨ X.s₀.heap.objs.size ≤ b) ∧ b ≠ X.env.locals ∧ (∀ x c, X.env.cells.lookup x = some c → c ≠ b) ∧ ∀ p ∈ X.pn ++ pins, p.1 ≠ b) : Inv X pins σ H' s' := by
  obtain ⟨h', g', d', t', o'⟩ := s'
  have e : o' = s.os := ho
  subst e
  exact I.call (g' := g') (t' := t') (d' := d') u hok hg hch
end

/-! ### the judgements -/
/-- an exception: its class, its own dict's address (where it has one), the abstract heap behind it -/
abbrev XK := Value → Option Addr → Hp → Prop
abbrev St := List (Option V)
abbrev VK := V → Hp → Prop
/-- an expression's reading; a test's; an argument list's -/
abbrev TE := St → Hp → VK → Prop
abbrev TT := St → Hp → (Bool → Hp → Prop) → Prop
abbrev TA := St → Hp → (List V → Hp → Prop) → Prop
/-- what is wanted behind a statement -/
structure Ends where
  nx : St → Hp → Prop
  rt : VK
  bk : St → Hp → Prop := fun _ _ => False
  ct : St → Hp → Prop := fun _ _ => False
abbrev TS := Ends → St → Hp → Prop

def EP (X : Cx) (pins : List (Addr × Obj)) (σ : St) (Q : VK) (u : Value) (s' : Shared) : Prop := ∃ v H', Inv X pins σ H' s' ∧ RelV v u ∧ Q v H'
def TP (X : Cx) (pins : List (Addr × Obj)) (σ : St) (Q : Bool → Hp → Prop) (b : Bool) (s' : Shared) : Prop := ∃ H', Inv X pins σ H' s' ∧ Q b H'
def AP (X : Cx) (pins : List (Addr × Obj)) (σ : St) (Q : List V → Hp → Prop) (us : List Value) (s' : Shared) : Prop := ∃ vs H', Inv X pins σ H' s' ∧ Vals vs us ∧ Q vs H'
def SP (X : Cx) (pins : List (Addr × Obj)) (D : Ends) (f : Flow) (s' : Shared) : Prop :=
  match f with
  | .next => ∃ σ' H', Inv X pins σ' H' s' ∧ D.nx σ' H'
  | .brk => ∃ σ' H', Inv X pins σ' H' s' ∧ D.bk σ' H'
  | .cont => ∃ σ' H', Inv X pins σ' H' s' ∧ D.ct σ' H'
  | .ret u => ∃ v σ' H', Inv X pins σ' H' s' ∧ RelV v u ∧ D.rt v H'

def PE (X : Cx) (e : Expr) (t : TE) : Prop :=
  ∀ (pins : List (Addr × Obj)) (s : Shared) (σ : St) (H : Hp) (Q : VK), Inv X pins σ H s → t σ H Q → wpAny (model X.prog X.w) X.A (eval e X.env) (EP X pins σ Q) X.xe s
def PT (X : Cx) (e : Expr) (t : TT) : Prop :=
  ∀ (pins : List (Addr × Obj)) (s : Shared) (σ : St) (H : Hp) (Q : Bool → Hp → Prop), Inv X pins σ H s → t σ H Q → wpAny (model X.prog X.w) X.A (isTrue e X.env (eval e X.env)) (TP X pins σ Q) X.xe s
/-- a test whatever its 'whole' is (and, or) -/
def PW (X : Cx) (e : Expr) (t : TT) : Prop :=
  ∀ (whole : Sem Value) (pins : List (Addr × Obj)) (s : Shared) (σ : St) (H : Hp) (Q : Bool → Hp → Prop), Inv X pins σ H s → t σ H Q → wpAny (model X.prog X.w) X.A (isTrue e X.env whole) (TP X pins σ Q) X.xe s
theorem PW.pt {X : Cx} {e : Expr} {t : TT} (h : PW X e t) : PT X e t := h _
/-- an argument list (no star), from the left -/
def PA (X : Cx) (es : List Expr) (t : TA) : Prop :=
  ∀ (pos : Pos) (pins : List (Addr × Obj)) (s : Shared) (σ : St) (H : Hp) (Q : List V → Hp → Prop), Inv X pins σ H s → t σ H Q → wpAny (model X.prog X.w) X.A (spliced (backTo pos (starEach es X.env))) (AP X pins σ Q) X.xe s
def PS (X : Cx) (st : Stmt) (t : TS) : Prop :=
  ∀ (pins : List (Addr × Obj)) (s : Shared) (σ : St) (H : Hp) (D : Ends), Inv X pins σ H s → t D σ H → wpAny (model X.prog X.w) X.A (exec st X.env) (SP X pins D) X.xe s
def PSs (X : Cx) (st : List Stmt) (t : TS) : Prop :=
  ∀ (pins : List (Addr × Obj)) (s : Shared) (σ : St) (H : Hp) (D : Ends), Inv X pins σ H s → t D σ H → wpAny (model X.prog X.w) X.A (execs st X.env) (SP X pins D) X.xe s
/-- weaken the end -/
theorem thn {α : Type} {t : Sem α} {Q Q' : α → Shared → Prop} {M : Model} {A : Around} {E : Value → Shared → Prop} {s : Shared} (h : wpAny M A t Q E s) (hQ : ∀ a s, Q a s → Q' a s) : wpAny M A t Q' E s := wpAny_mono h hQ fun _ _ x => x
end L2

namespace L2
open PySem PySem.Spec PyProof.Rows
section
variable {X : Cx}

/-- two expressions in a row -/
theorem bin {a b : Expr} {ta tb : TE} (ha : PE X a ta) (hb : PE X b tb) {pins : List (Addr × Obj)} {s : Shared} {σ : St} {H : Hp} {R : V → V → Hp → Prop} (I : Inv X pins σ H s) (h : ta σ H fun x H1 => tb σ H1 fun y H2 => R x y H2)
    {α : Type} {Q : α → Shared → Prop} {f : Value → Value → Sem α}
    (hf : ∀ v u s2 x y H2, Inv X pins σ H2 s2 → RelV x v → RelV y u → R x y H2 → wpAny (model X.prog X.w) X.A (f v u) Q X.xe s2) :
    wpAny (model X.prog X.w) X.A (eval a X.env) (fun v s₁ => wpAny (model X.prog X.w) X.A (eval b X.env) (fun u s₂ => wpAny (model X.prog X.w) X.A (f v u) Q X.xe s₂) X.xe s₁) X.xe s := by
  refine thn (ha pins s σ H _ I h) fun v s1 ⟨x, H1, I1, r1, q1⟩ => ?_
  refine thn (hb pins s1 σ H1 _ I1 q1) fun u s2 ⟨y, H2, I2, r2, q2⟩ => ?_
  exact hf v u s2 x y H2 I2 r1 r2 q2

/-! ### names and constants -/
def tVar (i : Nat) : TE := fun σ H Q => ∃ v, σ[i]? = some (some v) ∧ Q v H
def tC (v : V) : TE := fun _ H Q => Q v H
theorem pe_var {i : Nat} {x : Str} {pos : Pos} (hN : X.N[i]? = some x) (hv : Vis X.env.scope x) (hd : (x == ("__debug__" : Str)) = false := by decide) (hcd : (x == ("__classdict__" : Str)) = false := by decide) : PE X (.Name x pos) (tVar i) := by
  intro pins s σ H Q I h
  obtain ⟨v, e, h⟩ := h
  obtain ⟨m, hn, hl⟩ := I.loc
  obtain ⟨u, r, l⟩ := hl i x v hN e hv
  have fin : EP X pins σ Q u s := ⟨v, H, I, r, h⟩
  rcases l with ⟨hk, hm⟩ | ⟨hk, c, hc, hcell⟩
  · exact wpAny_Name (wpAny_loadName_local I.ok.kind hk hn hm fin) hd
  · rcases hk with hk | hk
    · exact wpAny_Name (wpAny_loadName_cell I.ok.kind hk hc hcell fin) hd
    · exact wpAny_Name (wpAny_loadName_free I.ok.kind hk hc hcell fin hcd) hd
theorem pe_int {i j pos} : PE X (.Constant (.int i) j pos) (tC (.int i)) := fun _ _ _ H _ I h => wpAny_Constant_int ⟨.int i, H, I.tok _, ⟨_, rfl⟩, h⟩
theorem pe_bl {b j pos} : PE X (.Constant (.bool b) j pos) (tC (.bl b)) := fun _ _ _ H _ I h => Constant_bool ⟨.bl b, H, I, rfl, h⟩
theorem pe_non {j pos} : PE X (.Constant .none j pos) (tC .non) := fun _ _ _ H _ I h => Constant_none ⟨.non, H, I, rfl, h⟩
theorem pe_str {x j pos} : PE X (.Constant (.str x) j pos) (tC (.str x)) := fun _ _ _ H _ I h => Calls.Constant_str ⟨.str x, H, I.tok _, ⟨_, rfl⟩, h⟩

/-- a global name of the def -/
def Gl (X : Cx) (x : Str) : Prop := X.env.kindOf x = some .globalImplicit
theorem ld_glob {E : Value → Shared → Prop} {pins : List (Addr × Obj)} {s : Shared} {σ : St} {H : Hp} {x : Str} {u : Value} {pos : Pos} {Q : Value → Shared → Prop} (I : Inv X pins σ H s) (hg : Gl X x) (hm : X.mg x = some u) (h : Q u s)
    (hd : (x == ("__debug__" : Str)) = false := by decide) : wpAny (model X.prog X.w) X.A (eval (.Name x pos) X.env) Q E s :=
  Calls.Name_function_global I.ok.kind hg (Calls.loadGlobal_global (by rw [I.ok.glob]; exact I.mod.glob.keeps I.bk) hm h) hd
theorem ld_blt {E : Value → Shared → Prop} {pins : List (Addr × Obj)} {s : Shared} {σ : St} {H : Hp} {x : Str} {u : Value} {pos : Pos} {Q : Value → Shared → Prop} (I : Inv X pins σ H s) (hg : Gl X x) (hm : X.mg x = none) (hv : bootBuiltins x = some u) (h : Q u s)
    (hn : x ≠ "__name__" := by decide) (hd : (x == ("__debug__" : Str)) = false := by decide) : wpAny (model X.prog X.w) X.A (eval (.Name x pos) X.env) Q E s := by
  obtain ⟨mb, h1, h2⟩ := I.mod.blt
  exact Calls.Name_function_global I.ok.kind hg (Calls.loadGlobal_builtin (by rw [I.ok.glob]; exact I.mod.glob.keeps I.bk) hm (by rw [I.ok.blt]; exact h1.keeps I.bk) ((h2 x hn).trans hv) h) hd
/-- a module's constant, a class, a function, as a value -/
theorem pe_glob {x : Str} {v : V} {u : Value} {pos : Pos} (hg : Gl X x) (hm : X.mg x = some u) (r : RelV v u) (hd : (x == ("__debug__" : Str)) = false := by decide) : PE X (.Name x pos) (tC v) :=
  fun _ _ _ H _ I h => ld_glob I hg hm ⟨v, H, I, r, h⟩ hd
theorem pe_bltn {x : Str} {v : V} {u : Value} {pos : Pos} (hg : Gl X x) (hm : X.mg x = none) (hv : bootBuiltins x = some u) (r : RelV v u) (hn : x ≠ "__name__" := by decide) (hd : (x == ("__debug__" : Str)) = false := by decide) : PE X (.Name x pos) (tC v) :=
  fun _ _ _ H _ I h => ld_blt I hg hm hv ⟨v, H, I, r, h⟩ hn hd

/-! ### arithmetic -/
/-- two ints -/
def t2I (ta tb : TE) (k : Int → Int → Hp → Prop) : St → Hp → Prop := fun σ H => ta σ H fun x H1 => tb σ H1 fun y H2 => ∃ i j, x = .int i ∧ y = .int j ∧ k i j H2
def tAdd (ta tb : TE) : TE := fun σ H Q => t2I ta tb (fun i j H2 => Q (.int (i + j)) H2) σ H
def tSub (ta tb : TE) : TE := fun σ H Q => t2I ta tb (fun i j H2 => Q (.int (i - j)) H2) σ H
/-- the left factor below 2^64 -/
def tMul (ta tb : TE) : TE := fun σ H Q => t2I ta tb (fun i j H2 => (-(2 ^ 64) < i ∧ i < 2 ^ 64) ∧ Q (.int (i * j)) H2) σ H
variable {a b : Expr} {ta tb : TE} {pos : Pos}
theorem pe_add (ha : PE X a ta) (hb : PE X b tb) : PE X (.BinOp a .Add b pos) (tAdd ta tb) := by
  intro pins s σ H Q I h
  refine wpAny_BinOp (bin ha hb I h fun v u s2 x y H2 I2 rx ry q => ?_)
  obtain ⟨i, j, rfl, rfl, q⟩ := q
  obtain ⟨t, rfl⟩ := rx
  obtain ⟨t', rfl⟩ := ry
  exact add_int ⟨.int _, H2, I2.tok _, ⟨_, rfl⟩, q⟩
theorem pe_sub (ha : PE X a ta) (hb : PE X b tb) : PE X (.BinOp a .Sub b pos) (tSub ta tb) := by
  intro pins s σ H Q I h
  refine wpAny_BinOp (bin ha hb I h fun v u s2 x y H2 I2 rx ry q => ?_)
  obtain ⟨i, j, rfl, rfl, q⟩ := q
  obtain ⟨t, rfl⟩ := rx
  obtain ⟨t', rfl⟩ := ry
  exact sub_int ⟨.int _, H2, I2.tok _, ⟨_, rfl⟩, q⟩
theorem pe_mul (ha : PE X a ta) (hb : PE X b tb) : PE X (.BinOp a .Mult b pos) (tMul ta tb) := by
  intro pins s σ H Q I h
  refine wpAny_BinOp (bin ha hb I h fun v u s2 x y H2 I2 rx ry q => ?_)
  obtain ⟨i, j, rfl, rfl, ⟨q1, q2⟩, q⟩ := q
  obtain ⟨t, rfl⟩ := rx
  obtain ⟨t', rfl⟩ := ry
  exact mul_int ⟨.int _, H2, I2.tok _, ⟨_, rfl⟩, q⟩ (.of_left (intBits_le_64 q1 q2))

/-! ### comparisons -/
def PC (X : Cx) (op : CmpOp) (a b : Expr) (t : TE) : Prop :=
  ∀ (pins : List (Addr × Obj)) (s : Shared) (σ : St) (H : Hp) (Q : VK), Inv X pins σ H s → t σ H Q →
    wpAny (model X.prog X.w) X.A (eval a X.env) (fun v s₁ => wpAny (model X.prog X.w) X.A (eval b X.env) (fun u s₂ => wpAny (model X.prog X.w) X.A (compareOp op v u) (EP X pins σ Q) X.xe s₂) X.xe s₁) X.xe s
theorem nobehind (b : Expr) {op : CmpOp} (h : op ≠ .In) (h2 : op ≠ .NotIn) : behindInMarks op b = false := by
  have e1 : (op == CmpOp.In) = false := by cases op <;> first | rfl | exact absurd rfl h
  have e2 : (op == CmpOp.NotIn) = false := by cases op <;> first | rfl | exact absurd rfl h2
  cases b <;> simp [behindInMarks, e1, e2]
def tCmp (p : Int → Int → Bool) (ta tb : TE) : TE := fun σ H Q => t2I ta tb (fun i j H2 => Q (.bl (p i j)) H2) σ H
abbrev tLt : TE → TE → TE := tCmp fun i j => decide (i < j)
abbrev tLe : TE → TE → TE := tCmp fun i j => decide (i ≤ j)
abbrev tGt : TE → TE → TE := tCmp fun i j => decide (j < i)
abbrev tGe : TE → TE → TE := tCmp fun i j => decide (j ≤ i)
abbrev tEqI : TE → TE → TE := tCmp fun i j => decide (i = j)
abbrev tNeI : TE → TE → TE := tCmp fun i j => !decide (i = j)
/-- a comparison of two ints, by its rule -/
theorem pc_int {op : CmpOp} {p : Int → Int → Bool} (ha : PE X a ta) (hb : PE X b tb)
    (rule : ∀ (i j : Int) (t u : Tok) (Q : Value → Shared → Prop) (s : Shared), Q (.bool (p i j)) s → wpAny (model X.prog X.w) X.A (compareOp op (.int i t) (.int j u)) Q X.xe s) : PC X op a b (tCmp p ta tb) := by
  intro pins s σ H Q I h
  refine bin ha hb I h fun v u s2 x y H2 I2 rx ry q => ?_
  obtain ⟨i, j, rfl, rfl, q⟩ := q
  obtain ⟨t, rfl⟩ := rx
  obtain ⟨t', rfl⟩ := ry
  exact rule i j t t' _ s2 ⟨.bl _, H2, I2, rfl, q⟩
theorem pc_lt (ha : PE X a ta) (hb : PE X b tb) : PC X .Lt a b (tLt ta tb) := pc_int ha hb fun _ _ _ _ _ _ h => lt_int h
theorem pc_le (ha : PE X a ta) (hb : PE X b tb) : PC X .LtE a b (tLe ta tb) := pc_int ha hb fun _ _ _ _ _ _ h => le_int h
theorem pc_gt (ha : PE X a ta) (hb : PE X b tb) : PC X .Gt a b (tGt ta tb) := pc_int ha hb fun _ _ _ _ _ _ h => gt_int h
theorem pc_ge (ha : PE X a ta) (hb : PE X b tb) : PC X .GtE a b (tGe ta tb) := pc_int ha hb fun _ _ _ _ _ _ h => ge_int h
theorem pc_eqI (ha : PE X a ta) (hb : PE X b tb) : PC X .Eq a b (tEqI ta tb) := pc_int ha hb fun _ _ _ _ _ _ h => eq_int (by rw [Bool.beq_eq_decide_eq]; exact h)
theorem pc_neI (ha : PE X a ta) (hb : PE X b tb) : PC X .NotEq a b (tNeI ta tb) := pc_int ha hb fun _ _ _ _ _ _ h => ne_int (by rw [bne, Bool.beq_eq_decide_eq]; exact h)
/-- is None -/
def tIsN (ta : TE) : TE := fun σ H Q => ta σ H fun x H1 => Q (.bl (decide (x = .non))) H1
def tNotN (ta : TE) : TE := fun σ H Q => ta σ H fun x H1 => Q (.bl (!decide (x = .non))) H1
theorem RelV.none_iff {x : V} {v : Value} (r : RelV x v) : (v == Value.none) = decide (x = .non) := by
  cases x with
  | non => cases r; rfl
  | bl _ => cases r; rfl
  | int _ => obtain ⟨t, rfl⟩ := r; rfl
  | str _ => obtain ⟨t, rfl⟩ := r; rfl
  | byt _ => obtain ⟨t, rfl⟩ := r; rfl
  | flt _ => obtain ⟨t, rfl⟩ := r; rfl
  | ref _ => cases r; rfl
  | ty _ => cases r; rfl
theorem pc_isN {j pos'} (ha : PE X a ta) : PC X .Is a (.Constant .none j pos') (tIsN ta) := by
  intro pins s σ H Q I h
  refine thn (ha pins s σ H _ I h) fun v s1 ⟨x, H1, I1, r1, q1⟩ => ?_
  exact Constant_none (is_none_gen ⟨.bl _, H1, I1, by rw [r1.none_iff]; rfl, q1⟩)
theorem pc_notN {j pos'} (ha : PE X a ta) : PC X .IsNot a (.Constant .none j pos') (tNotN ta) := by
  intro pins s σ H Q I h
  refine thn (ha pins s σ H _ I h) fun v s1 ⟨x, H1, I1, r1, q1⟩ => ?_
  exact Constant_none (isnot_none_gen ⟨.bl _, H1, I1, by rw [r1.none_iff]; rfl, q1⟩)
/-- a comparison as a value, as a test -/
def tB (t : TE) : TT := fun σ H Q => t σ H fun x H1 => ∃ c, x = .bl c ∧ Q c H1
theorem pe_cmp {op : CmpOp} {t : TE} (h : PC X op a b t) (h1 : behindInMarks op b = false := by first | exact nobehind _ (by decide) (by decide) | rfl) : PE X (.Compare a [op] [b] pos) t := fun pins s σ H Q I hw => wpAny_Compare1 (h pins s σ H Q I hw) h1
theorem pt_cmp {op : CmpOp} {t : TE} (h : PC X op a b t) (h1 : behindInMarks op b = false := by first | exact nobehind _ (by decide) (by decide) | rfl) : PT X (.Compare a [op] [b] pos) (tB t) := by
  intro pins s σ H Q I hw
  refine wpAny_isTrue_Compare1 (thn (h pins s σ H _ I hw) fun v s1 h1 => thn h1 fun u s2 h2 => thn h2 fun c s3 ⟨x, H1, I1, r1, q1⟩ => ?_) h1
  obtain ⟨d, rfl, q⟩ := q1
  cases r1
  exact wpAny_truthy_bool ⟨H1, I1, q⟩
/-- an expression whose value is a bool, as a test -/
theorem pt_val {e : Expr} {t : TE} (h : PE X e t) (he : ∀ whole, isTrue e X.env whole = (do let v ← whole; standAt e.pos; holding [v] (truthy v)) := by intro _; rfl) : PT X e (tB t) := by
  intro pins s σ H Q I hw
  refine isTrue_plain (thn (h pins s σ H _ I hw) fun v s1 ⟨x, H1, I1, r1, q1⟩ => ?_) (he _)
  obtain ⟨d, rfl, q⟩ := q1
  cases r1
  exact wpAny_truthy_bool ⟨H1, I1, q⟩

/-! ### and, or, not -/
variable {tA tB' : TT} {rest : List Expr}
def tAnd (t u : TT) : TT := fun σ H Q => t σ H fun c H1 => if c = true then u σ H1 Q else Q false H1
def tOr (t u : TT) : TT := fun σ H Q => t σ H fun c H1 => if c = true then Q true H1 else u σ H1 Q
def tNot (t : TT) : TT := fun σ H Q => t σ H fun c H1 => Q (!c) H1
theorem pw_and1 (ha : PT X a tA) : PW X (.BoolOp .And [a] pos) tA := by
  intro wh pins s σ H Q I h
  refine isTrue_and (thn (ha pins s σ H Q I h) fun c s1 e => ?_)
  cases c with
  | true => exact isTrue_and_nil e
  | false => exact e
theorem pw_or1 (ha : PT X a tA) : PW X (.BoolOp .Or [a] pos) tA := by
  intro wh pins s σ H Q I h
  refine isTrue_or (thn (ha pins s σ H Q I h) fun c s1 e => ?_)
  cases c with
  | false => exact isTrue_or_nil e
  | true => exact e
theorem pw_and (ha : PT X a tA) (hb : PW X (.BoolOp .And (b :: rest) pos) tB') : PW X (.BoolOp .And (a :: b :: rest) pos) (tAnd tA tB') := by
  intro wh pins s σ H Q I h
  refine isTrue_and (thn (ha pins s σ H _ I h) fun c s1 ⟨H1, I1, q1⟩ => ?_)
  cases c with
  | true => exact hb wh pins s1 σ H1 Q I1 q1
  | false => exact ⟨H1, I1, q1⟩
theorem pw_or (ha : PT X a tA) (hb : PW X (.BoolOp .Or (b :: rest) pos) tB') : PW X (.BoolOp .Or (a :: b :: rest) pos) (tOr tA tB') := by
  intro wh pins s σ H Q I h
  refine isTrue_or (thn (ha pins s σ H _ I h) fun c s1 ⟨H1, I1, q1⟩ => ?_)
  cases c with
  | true => exact ⟨H1, I1, q1⟩
  | false => exact hb wh pins s1 σ H1 Q I1 q1
theorem pt_not (ha : PT X a tA) : PT X (.UnaryOp .Not a pos) (tNot tA) := by
  intro pins s σ H Q I h
  exact isTrue_not (ha pins s σ H (fun c H1 => Q (!c) H1) I h)
/-- .. as values (bools) -/
def tAndV (ta tb : TE) : TE := fun σ H Q => ta σ H fun x H1 => ∃ c, x = .bl c ∧ if c = true then tb σ H1 Q else Q (.bl false) H1
def tOrV (ta tb : TE) : TE := fun σ H Q => ta σ H fun x H1 => ∃ c, x = .bl c ∧ if c = true then Q (.bl true) H1 else tb σ H1 Q
def tNotV (ta : TE) : TE := fun σ H Q => ta σ H fun x H1 => ∃ c, x = .bl c ∧ Q (.bl (!c)) H1
theorem pe_one {op} {t : TE} (h : PE X a t) : PE X (.BoolOp op [a] pos) t := fun pins s σ H Q I hw => BoolOp_one (h pins s σ H Q I hw)
theorem pe_and (ha : PE X a ta) (hb : PE X (.BoolOp .And (b :: rest) pos) tb) : PE X (.BoolOp .And (a :: b :: rest) pos) (tAndV ta tb) := by
  intro pins s σ H Q I h
  refine BoolOp_and (thn (ha pins s σ H _ I h) fun v s1 ⟨x, H1, I1, r1, q1⟩ => ?_)
  obtain ⟨c, rfl, q1⟩ := q1
  cases r1
  refine wpAny_truthy_bool ?_
  cases c with
  | true => exact hb pins s1 σ H1 Q I1 q1
  | false => exact ⟨.bl false, H1, I1, rfl, q1⟩
theorem pe_or (ha : PE X a ta) (hb : PE X (.BoolOp .Or (b :: rest) pos) tb) : PE X (.BoolOp .Or (a :: b :: rest) pos) (tOrV ta tb) := by
  intro pins s σ H Q I h
  refine BoolOp_or (thn (ha pins s σ H _ I h) fun v s1 ⟨x, H1, I1, r1, q1⟩ => ?_)
  obtain ⟨c, rfl, q1⟩ := q1
  cases r1
  refine wpAny_truthy_bool ?_
  cases c with
  | false => exact hb pins s1 σ H1 Q I1 q1
  | true => exact ⟨.bl true, H1, I1, rfl, q1⟩
theorem pe_not (ha : PE X a ta) : PE X (.UnaryOp .Not a pos) (tNotV ta) := by
  intro pins s σ H Q I h
  refine UnaryOp_ (thn (ha pins s σ H _ I h) fun v s1 ⟨x, H1, I1, r1, q1⟩ => ?_)
  obtain ⟨c, rfl, q1⟩ := q1
  cases r1
  exact not_of (wpAny_truthy_bool ⟨.bl (!c), H1, I1, rfl, q1⟩)
/-- a if t else b -/
def tIf (t : TT) (ta tb : TE) : TE := fun σ H Q => t σ H fun c H1 => if c = true then ta σ H1 Q else tb σ H1 Q
theorem pe_ifExp {c : Expr} (hc : PT X c tA) (ha : PE X a ta) (hb : PE X b tb) : PE X (.IfExp c a b pos) (tIf tA ta tb) := by
  intro pins s σ H Q I h
  refine wpAny_IfExp (thn (hc pins s σ H _ I h) fun d s1 ⟨H1, I1, q1⟩ => ?_)
  cases d with
  | true => exact ha pins s1 σ H1 Q I1 q1
  | false => exact hb pins s1 σ H1 Q I1 q1
end
end L2

namespace L2
open PySem PySem.Spec PyProof.Rows

/-! ### a list, a tuple that is read: tracked, frozen, or an object of the module -/
def SqL (K : PySem.W.Frag) (H : Hp) (a : Addr) (xs : List V) : Prop :=
  Rd H a (.lst xs) ∨
    ∃ (o : Obj) (its : Array Value) (n : Nat), K.lookup a = some o ∧ o.cls = .type "list" ∧ o.dict = none ∧ o.data = .seq its n ∧ its.size ≤ sizeLine ∧ Vals xs its.toList
def SqT (K : PySem.W.Frag) (H : Hp) (a : Addr) (xs : List V) : Prop :=
  Rd H a (.tup xs) ∨
    ∃ (o : Obj) (its : Array Value) (n : Nat), K.lookup a = some o ∧ o.cls = .type "tuple" ∧ o.data = .seq its n ∧ its.size ≤ sizeLine ∧ Vals xs its.toList
def absV : Value → Option V
  | .none => some .non
  | .bool b => some (.bl b)
  | .int i _ => some (.int i)
  | .str x _ => some (.str x)
  | .bytes b _ => some (.byt b)
  | .float b _ => some (.flt b)
  | .ref a => some (.ref a)
  | .type n => some (.ty n)
  | _ => none
theorem RelV.abs {x : V} {u : Value} (r : RelV x u) : absV u = some x := by
  cases x with
  | non => cases r; rfl
  | bl _ => cases r; rfl
  | int _ => obtain ⟨t, rfl⟩ := r; rfl
  | str _ => obtain ⟨t, rfl⟩ := r; rfl
  | byt _ => obtain ⟨t, rfl⟩ := r; rfl
  | flt _ => obtain ⟨t, rfl⟩ := r; rfl
  | ref _ => cases r; rfl
  | ty _ => cases r; rfl
theorem RelV.inj {x y : V} {u : Value} (r : RelV x u) (q : RelV y u) : x = y := Option.some.inj (r.abs.symm.trans q.abs)
theorem Vals.inj : ∀ {xs ys : List V} {us : List Value}, Vals xs us → Vals ys us → xs = ys
  | _, _, _, .nil, .nil => rfl
  | _, _, _, .cons r t, .cons r' t' => by rw [r.inj r', Vals.inj t t']
section
variable {X : Cx} {pins : List (Addr × Obj)} {σ : St} {H : Hp} {s : Shared} {a : Addr} {xs ys : List V}
theorem SqL.of {K : PySem.W.Frag} (h : H a = some (.lst xs)) : SqL K H a xs := .inl (.inl h)
theorem SqT.of {K : PySem.W.Frag} (h : H a = some (.tup xs)) : SqT K H a xs := .inl (.inl h)
theorem Inv.list (I : Inv X pins σ H s) (h : SqL X.K H a xs) : ∃ its : List Value, Vals xs its ∧ PlainL s.heap a its.toArray ∧ xs.length ≤ sizeLine := by
  rcases h with h | ⟨o, its, n, hk, hc, hd, hs, hz, r⟩
  · obtain ⟨z, its, n, r, e⟩ := h.ok I.hok
    exact ⟨its, r, ⟨_, n, e, rfl, rfl, rfl⟩, z⟩
  · refine ⟨its.toList, r, ⟨o, n, I.kIn a o hk, hc, hd, by simpa using hs⟩, ?_⟩
    have e := r.length
    simp only [Array.length_toList] at e
    omega
theorem Inv.tuple (I : Inv X pins σ H s) (h : SqT X.K H a xs) : ∃ its : List Value, Vals xs its ∧ IsTup s.heap a its.toArray ∧ xs.length ≤ sizeLine := by
  rcases h with h | ⟨o, its, n, hk, hc, hs, hz, r⟩
  · obtain ⟨z, its, r, p⟩ := h.ok I.hok
    exact ⟨its, r, p, z⟩
  · refine ⟨its.toList, r, ⟨o, I.kIn a o hk, hc, n, by simpa using hs⟩, ?_⟩
    have e := r.length
    simp only [Array.length_toList] at e
    omega
theorem Inv.list_inj (I : Inv X pins σ H s) (h : SqL X.K H a xs) (h' : SqL X.K H a ys) : xs = ys := by
  obtain ⟨its, r, ⟨o, n, e, _, _, d⟩, _⟩ := I.list h
  obtain ⟨its', r', ⟨o', n', e', _, _, d'⟩, _⟩ := I.list h'
  rw [e] at e'; cases e'
  rw [d] at d'
  injection d' with d1 _
  have : its = its' := by simpa using congrArg Array.toList d1
  subst this
  exact r.inj r'
theorem Inv.tuple_inj (I : Inv X pins σ H s) (h : SqT X.K H a xs) (h' : SqT X.K H a ys) : xs = ys := by
  obtain ⟨its, r, ⟨o, e, _, n, d⟩, _⟩ := I.tuple h
  obtain ⟨its', r', ⟨o', e', _, n', d'⟩, _⟩ := I.tuple h'
  rw [e] at e'; cases e'
  rw [d] at d'
  injection d' with d1 _
  have : its = its' := by simpa using congrArg Array.toList d1
  subst this
  exact r.inj r'
end

/-! ### another wish about exceptions -/
abbrev Cx.wish (X : Cx) (E : Value → Shared → Prop) : Cx := { X with xe := E }
/-- no exception leaves -/
abbrev Cx.nox (X : Cx) : Cx := X.wish fun _ _ => False
theorem Cx.Ok.wish {X : Cx} (ok : X.Ok) (E : Value → Shared → Prop) : (X.wish E).Ok :=
  ⟨ok.mod, ok.kind, ok.glob, ok.blt, ok.above, ok.inj, ok.has, ok.cab, ok.hd, ok.frames, ok.stk, ok.exf, ok.bs, ok.bsz, ok.noex, ok.exfs, ok.funs, ok.frf⟩
theorem Cx.Ok.unwish {X : Cx} {E : Value → Shared → Prop} (ok : (X.wish E).Ok) : X.Ok :=
  ⟨ok.mod, ok.kind, ok.glob, ok.blt, ok.above, ok.inj, ok.has, ok.cab, ok.hd, ok.frames, ok.stk, ok.exf, ok.bs, ok.bsz, ok.noex, ok.exfs, ok.funs, ok.frf⟩
section
variable {X : Cx} {pins : List (Addr × Obj)} {σ : St} {H : Hp} {s : Shared} {E : Value → Shared → Prop}
theorem Inv.wish (I : Inv X pins σ H s) (E : Value → Shared → Prop) : Inv (X.wish E) pins σ H s := ⟨I.ok.wish E, I.os, I.bare, I.base, I.loc, I.cell, I.free, I.freeC, I.pin, I.hok, I.len⟩
theorem Inv.unwish (I : Inv (X.wish E) pins σ H s) : Inv X pins σ H s := ⟨I.ok.unwish, I.os, I.bare, I.base, I.loc, I.cell, I.free, I.freeC, I.pin, I.hok, I.len⟩
theorem SP.unwish {D : Ends} {f : Flow} {s' : Shared} (h : SP (X.wish E) pins D f s') : SP X pins D f s' := by
  cases f with
  | next => obtain ⟨σ', H', I, q⟩ := h; exact ⟨σ', H', I.unwish, q⟩
  | brk => obtain ⟨σ', H', I, q⟩ := h; exact ⟨σ', H', I.unwish, q⟩
  | cont => obtain ⟨σ', H', I, q⟩ := h; exact ⟨σ', H', I.unwish, q⟩
  | ret u => obtain ⟨v, σ', H', I, r, q⟩ := h; exact ⟨v, σ', H', I.unwish, r, q⟩
theorem PE.nox {e : Expr} {t : TE} (h : PE X.nox e t) : PE X e t := fun pins s σ H Q I hw =>
  wpAny_mono (h pins s σ H Q (I.wish _) hw) (fun _ _ ⟨v, H', I', r, q⟩ => ⟨v, H', I'.unwish, r, q⟩) fun _ _ z => False.elim z
theorem PT.nox {e : Expr} {t : TT} (h : PT X.nox e t) : PT X e t := fun pins s σ H Q I hw =>
  wpAny_mono (h pins s σ H Q (I.wish _) hw) (fun _ _ ⟨H', I', q⟩ => ⟨H', I'.unwish, q⟩) fun _ _ z => False.elim z
theorem PSs.nox {st : List Stmt} {t : TS} (h : PSs X.nox st t) : PSs X st t := fun pins s σ H D I hw =>
  wpAny_mono (h pins s σ H D (I.wish _) hw) (fun _ _ q => q.unwish) fun _ _ z => False.elim z
end

/-! ### blocks and small statements -/
section
variable {X : Cx} {st : Stmt} {rest : List Stmt} {t u : TS} {e : Expr} {te : TE} {pos : Pos}
def tNext : TS := fun D σ H => D.nx σ H
def tSeq (t u : TS) : TS := fun D σ H => t { D with nx := u D } σ H
theorem pss_nil : PSs X [] tNext := fun _ _ σ H _ I h => wpAny_execs_nil ⟨σ, H, I, h⟩
theorem pss_cons (h1 : PS X st t) (h2 : PSs X rest u) : PSs X (st :: rest) (tSeq t u) := by
  intro pins s σ H D I h
  refine wpAny_execs_cons (thn (h1 pins s σ H { D with nx := u D } I h) fun f s1 q => ?_)
  cases f with
  | next =>
    obtain ⟨σ', H', I', q⟩ := q
    exact h2 pins s1 σ' H' D I' q
  | ret v => exact q
  | brk => exact q
  | cont => exact q
theorem pss_one (h1 : PS X st t) : PSs X [st] t := by
  intro pins s σ H D I h
  refine wpAny_execs_cons (thn (h1 pins s σ H D I h) fun f s1 q => ?_)
  cases f with
  | next => exact wpAny_execs_nil q
  | ret v => exact q
  | brk => exact q
  | cont => exact q
def tBreak : TS := fun D σ H => D.bk σ H
def tCont : TS := fun D σ H => D.ct σ H
theorem ps_pass : PS X (.Pass pos) tNext := fun _ _ σ H _ I h => wpAny_Pass ⟨σ, H, I, h⟩
theorem ps_break : PS X (.Break pos) tBreak := fun _ _ σ H _ I h => wpAny_Break ⟨σ, H, I, h⟩
theorem ps_continue : PS X (.Continue pos) tCont := fun _ _ σ H _ I h => wpAny_Continue ⟨σ, H, I, h⟩
/-- in a def's body nothing is shown -/
theorem Inv.quiet {pins : List (Addr × Obj)} {σ : St} {H : Hp} {s : Shared} (I : Inv X pins σ H s) : interactive X.env = false := by simp [interactive, I.ok.kind]
/-- a docstring -/
theorem ps_doc {x j pos pos'} : PS X (.Expr (.Constant (.str x) j pos) pos') tNext := fun _ s σ H _ I h => wpAny_Expr (Calls.Constant_str (show SP X _ _ .next { s with toks := s.toks + 1 } from ⟨σ, H, I.tok _, h⟩)) I.quiet
/-- an expression whose value is dropped -/
def tDrop (te : TE) : TS := fun D σ H => te σ H fun _ H1 => D.nx σ H1
theorem ps_expr (he : PE X e te) (hs : swapsWith e none pos.line X.env = pure false := by rfl) : PS X (.Expr e pos) (tDrop te) := by
  intro pins s σ H D I h
  exact wpAny_Expr_any (thn (he pins s σ H _ I h) fun v s1 ⟨x, H1, I1, r1, q1⟩ => ⟨σ, H1, I1, q1⟩) I.quiet hs
def tRet (te : TE) : TS := fun D σ H => te σ H D.rt
theorem ps_ret (he : PE X e te) : PS X (.Return (some e) pos) (tRet te) := by
  intro pins s σ H D I h
  exact wpAny_Return_some (thn (he pins s σ H _ I h) fun v s1 ⟨x, H1, I1, r1, q1⟩ => ⟨x, σ, H1, I1, r1, q1⟩)
def tRetN : TS := fun D _ H => D.rt .non H
theorem ps_retN : PS X (.Return none pos) tRetN := fun _ _ σ H _ I h => wpAny_Return_none ⟨.non, σ, H, I, rfl, h⟩
def tIfS (c : TT) (t u : TS) : TS := fun D σ H => c σ H fun b H1 => if b = true then t D σ H1 else u D σ H1
theorem ps_if {c : Expr} {a b : List Stmt} {tc : TT} (hc : PT X c tc) (ha : PSs X a t) (hb : PSs X b u) : PS X (.If c a b pos) (tIfS tc t u) := by
  intro pins s σ H D I h
  refine wpAny_If (thn (hc pins s σ H _ I h) fun d s1 ⟨H1, I1, q1⟩ => ?_)
  cases d with
  | true => exact ha pins s1 σ H1 D I1 q1
  | false => exact hb pins s1 σ H1 D I1 q1
/-- code that the proof never comes to -/
def tNever : TS := fun _ _ _ => False
theorem ps_never : PS X st tNever := fun _ _ _ _ _ _ h => h.elim
theorem pss_never {sts : List Stmt} : PSs X sts tNever := fun _ _ _ _ _ _ h => h.elim
end

/-! ### targets -/
abbrev TG := V → St → Hp → (St → Hp → Prop) → Prop
abbrev TGs := List V → St → Hp → (St → Hp → Prop) → Prop
def PG (X : Cx) (target : Expr) (t : TG) : Prop :=
  ∀ (pins : List (Addr × Obj)) (s : Shared) (σ : St) (H : Hp) (v : V) (u : Value) (Q : St → Hp → Prop), Inv X pins σ H s → RelV v u → t v σ H Q →
    wpAny (model X.prog X.w) X.A (assign target X.env u) (fun _ s' => ∃ σ' H', Inv X pins σ' H' s' ∧ Q σ' H') X.xe s
/-- several targets, one after another -/
def PGs (X : Cx) (ts : List Expr) (t : TGs) : Prop :=
  ∀ (pins : List (Addr × Obj)) (s : Shared) (σ : St) (H : Hp) (vs : List V) (us : List Value) (Q : St → Hp → Prop), Inv X pins σ H s → Vals vs us → t vs σ H Q →
    wpAny (model X.prog X.w) X.A (assignInOrder ((assignEach ts X.env).map (·.2)) us) (fun _ s' => ∃ σ' H', Inv X pins σ' H' s' ∧ Q σ' H') X.xe s
/-- o[i] = v, by values -/
abbrev TSet := V → V → V → Hp → (Hp → Prop) → Prop
def PSet (X : Cx) (t : TSet) : Prop :=
  ∀ (pins : List (Addr × Obj)) (s : Shared) (σ : St) (H : Hp) (o i v : V) (ov iv u : Value) (Q : Hp → Prop), Inv X pins σ H s → RelV o ov → RelV i iv → RelV v u → t o i v H Q →
    wpAny (model X.prog X.w) X.A (setItem ov iv u) (fun _ s' => ∃ H', Inv X pins σ H' s' ∧ Q H') X.xe s
/-- a op= b, by values -/
abbrev TIp := V → V → Hp → VK → Prop
def PIp (X : Cx) (op : Operator) (t : TIp) : Prop :=
  ∀ (pins : List (Addr × Obj)) (s : Shared) (σ : St) (H : Hp) (x y : V) (v u : Value) (Q : VK), Inv X pins σ H s → RelV x v → RelV y u → t x y H Q →
    wpAny (model X.prog X.w) X.A (inplaceOp op v u) (EP X pins σ Q) X.xe s
section
variable {X : Cx} {pos : Pos}
def gName (i : Nat) : TG := fun v σ H Q => Q (σ.set i (some v)) H
theorem pg_name {i : Nat} {x : Str} (hN : X.N.Nodup) (hi : X.N[i]? = some x) (hx : Loc X.env.scope x) (hf : X.fn x = true ∨ X.env.scope.names.lookup x = some .local := by first | exact .inl rfl | exact .inr rfl | assumption) : PG X (.Name x pos) (gName i) := by
  intro pins s σ H v u Q I r h
  exact wpAny_assign_Name (store_ok I hN hi hx r (fun s' I' => ⟨_, H, I', h⟩) hf)
def gNil : TGs := fun vs σ H Q => vs = [] ∧ Q σ H
def gCons (t : TG) (u : TGs) : TGs := fun vs σ H Q => ∃ v r, vs = v :: r ∧ t v σ H fun σ' H' => u r σ' H' Q
theorem pgs_nil : PGs X [] gNil := by
  intro pins s σ H vs us Q I r h
  obtain ⟨e, h⟩ := h
  subst e
  cases r
  exact assignInOrder_nil ⟨σ, H, I, h⟩
theorem pgs_cons {e : Expr} {es : List Expr} {t : TG} {u : TGs} (h1 : PG X e t) (h2 : PGs X es u)
    (hs : (assignEach (e :: es) X.env).map (·.2) = assign e X.env :: (assignEach es X.env).map (·.2) := by rfl) : PGs X (e :: es) (gCons t u) := by
  intro pins s σ H vs us Q I r h
  obtain ⟨v, vr, e1, h⟩ := h
  subst e1
  cases r with
  | cons r rr =>
    rw [hs]
    refine assignInOrder_cons (thn (h1 pins s σ H _ _ _ I r h) fun _ s1 ⟨σ1, H1, I1, q1⟩ => ?_)
    exact h2 pins s1 σ1 H1 _ _ Q I1 rr q1
/-- (a, b, ..) = a tuple of that length -/
def gTup (K : PySem.W.Frag) (n : Nat) (t : TGs) : TG := fun v σ H Q => ∃ a xs, v = .ref a ∧ SqT K H a xs ∧ xs.length = n ∧ t xs σ H Q
theorem pg_tup {es : List Expr} {k : Nat} {t : TGs} {n : Nat} (hc : X.calm = true) (h : PGs X es t)
    (hn : (assignEach es X.env).length = n := by rfl) (hst : (assignEach es X.env).findIdx? (·.1) = none := by rfl) : PG X (.Tuple es k pos) (gTup X.K n t) := by
  intro pins s σ H v u Q I r hw
  obtain ⟨a, xs, e1, hq, hl, hw⟩ := hw
  subst e1
  cases r
  obtain ⟨its, rv, ht, hz⟩ := I.tuple hq
  refine assign_Tuple_tuple (I.ok.hd hc) ht (by simp [hn, ← hl, rv.length]) hst fun h' hx => ?_
  have I1 : Inv X pins σ H { s with heap := h' } := I.kept (t' := s.toks) fun b o e => hx b o (Nat.ne_of_lt (Heap.lt_size e)) e
  exact h pins _ σ H xs _ Q I1 (by simpa using rv) hw
/-- o[i] = .. -/
def gSub (to ti : TE) (t : TSet) : TG := fun v σ H Q => to σ H fun o H1 => ti σ H1 fun i H2 => t o i v H2 fun H3 => Q σ H3
theorem pg_sub {o i : Expr} {to ti : TE} {t : TSet} (ho : PE X o to) (hi : PE X i ti) (hs : PSet X t)
    (ha : ∀ v, assign (.Subscript o i pos) X.env v = (do
      let ov ← holding [v] (eval o X.env)
      let iv ← holding [v, ov] (eval i X.env)
      standAt pos
      holding [v, ov, iv] (setItem ov iv v)
      release [v, ov, iv] []) := by intro _; rfl) : PG X (.Subscript o i pos) (gSub to ti t) := by
  intro pins s σ H v u Q I r h
  rw [ha]
  refine wpAny_bind (wpAny_holding (thn (ho pins s σ H _ I h) fun ov s1 ⟨x, H1, I1, r1, q1⟩ => ?_))
  refine wpAny_bind (wpAny_holding (thn (hi pins s1 σ H1 _ I1 q1) fun iv s2 ⟨y, H2, I2, r2, q2⟩ => ?_))
  refine wpAny_bind (wpAny_standAt (wpAny_bind (wpAny_holding (thn (hs pins s2 σ H2 x y v ov iv u _ I2 r1 r2 r q2) fun _ s3 ⟨H3, I3, q3⟩ => ?_))))
  exact wpAny_release ⟨σ, H3, I3, q3⟩
/-- target = value -/
def tAsg (te : TE) (g : TG) : TS := fun D σ H => te σ H fun x H1 => g x σ H1 D.nx
theorem ps_asg {tg e : Expr} {te : TE} {g : TG} (he : PE X e te) (hg : PG X tg g) (hs : swapsWithSole [tg] e pos.line X.env = pure false := by rfl) (hw : swappedStores [tg] e X.env = pure none := by rfl)
    (h1 : (assignEach [tg] X.env).map (·.2) = [assign tg X.env] := by rfl) : PS X (.Assign [tg] e pos) (tAsg te g) := by
  intro pins s σ H D I h
  refine wpAny_Assign_stores (thn (he pins s σ H _ I h) fun v s1 ⟨x, H1, I1, r1, q1⟩ => ?_) hs hw
  rw [h1]
  exact thn (hg pins s1 σ H1 x v _ I1 r1 q1) fun _ s2 q => q
/-- name = value -/
theorem ps_set {i : Nat} {x : Str} {e : Expr} {te : TE} {pos' : Pos} (hN : X.N.Nodup) (hi : X.N[i]? = some x) (hx : Loc X.env.scope x) (he : PE X e te) (hs : swapsWith e (some (.Name x pos')) pos.line X.env = pure false := by rfl) (hf : X.fn x = true ∨ X.env.scope.names.lookup x = some .local := by first | exact .inl rfl | exact .inr rfl | assumption) :
    PS X (.Assign [.Name x pos'] e pos) (tAsg te (gName i)) := by
  intro pins s σ H D I h
  refine wpAny_Assign_Name (thn (he pins s σ H _ I h) fun v s1 ⟨y, H1, I1, r1, q1⟩ => ?_) hs
  exact store_ok I1 hN hi hx r1 (fun s2 I2 => ⟨_, H1, I2, q1⟩) hf
/-- a, b = x, y with plain local names: stored from the right; the pair itself is not tracked (the opening rows as in PyProof/Rows/TupAssign.lean:23) -/
def tPar (i j : Nat) (ta : TA) : TS := fun D σ H => ta σ H fun vs H1 => ∃ v w, vs = [v, w] ∧ D.nx ((σ.set i (some v)).set j (some w)) H1
theorem ps_par {i j : Nat} {x y : Str} {a b : Expr} {ta : TA} {px py pt : Pos} {kt k2 pt2} (hc : X.calm = true) (hN : X.N.Nodup) (hi : X.N[i]? = some x) (hj : X.N[j]? = some y) (hij : i ≠ j)
    (hx : X.env.scope.names.lookup x = some .local) (hy : X.env.scope.names.lookup y = some .local) (ha : PA X [a, b] ta)
    (hw : swappedStores [.Tuple [.Name x px, .Name y py] kt pt] (.Tuple [a, b] k2 pt2) X.env = pure (some [x, y]))
    (hs : swapsWithSole [.Tuple [.Name x px, .Name y py] kt pt] (.Tuple [a, b] k2 pt2) pos.line X.env = pure false := by rfl) :
    PS X (.Assign [.Tuple [.Name x px, .Name y py] kt pt] (.Tuple [a, b] k2 pt2) pos) (tPar i j ta) := by
  intro pins s σ H D I h
  rw [exec_Assign_arm]
  refine wpAny_bind (wpAny_standAt ?_)
  rw [hs]
  refine wpAny_bind (wpAny_pure ?_)
  rw [if_neg (by decide)]
  refine wpAny_bind (Tuple_ (thn (ha _ pins s σ H _ I h) fun us s1 ⟨vs, H1, I1, r1, q1⟩ => ?_))
  obtain ⟨v, w, e1, q1⟩ := q1
  subst e1
  obtain ⟨u1, u2, rfl, rv, rw'⟩ : ∃ u1 u2, us = [u1, u2] ∧ RelV v u1 ∧ RelV w u2 := by
    cases r1 with
    | cons p q =>
      cases q with
      | cons p' q' =>
        cases q'
        exact ⟨_, _, rfl, p, p'⟩
  refine wpAny_newObj_type ?_ (by show 2 ≤ sizeLine; decide)
  have I2 : Inv X pins σ H1 { s1 with heap := s1.heap.push { cls := .type "tuple", data := .seq [u1, u2].toArray } } := I1.kept (t' := s1.toks) fun b o e => Heap.get?_push_of_some _ e
  rw [hw]
  refine wpAny_bind (wpAny_pure ?_)
  show wpAny (model X.prog X.w) X.A (do rule "assign.swapped-stores"; let items ← unpackItems (.ref s1.heap.objs.size) 2 none; assignInOrder [fun v => bindName X.env y v, fun v => bindName X.env x v] items.reverse; pure Flow.next) _ _ _
  refine wpAny_bind (wpAny_rule (wpAny_bind (unpackItems_tuple (items := #[u1, u2]) (I.ok.hd hc) (IsTup.new s1.heap _) fun h' hx' => ?_)))
  have I3 := I2.kept (h' := h') (t' := s1.toks) fun b o e => hx' b o (Nat.ne_of_lt (Heap.lt_size e)) e
  show wpAny _ _ (assignInOrder [fun v => bindName X.env y v, fun v => bindName X.env x v] [u2, u1] >>= fun _ => pure Flow.next) _ _ _
  refine wpAny_bind (assignInOrder_cons (wpAny_bindName (store_ok I3 hN hj (.inl hy) rw' (fun s2 I4 => ?_) (.inr hy))))
  refine assignInOrder_cons (wpAny_bindName (store_ok I4 hN hi (.inl hx) rv (fun s3 I5 => assignInOrder_nil (wpAny_pure ?_)) (.inr hx)))
  rw [List.set_comm _ _ (Ne.symm hij)] at I5
  exact ⟨_, H1, I5, q1⟩
/-- name op= e -/
def tAug (i : Nat) (te : TE) (ti : TIp) : TS := fun D σ H => ∃ x, σ[i]? = some (some x) ∧ te σ H fun y H1 => ti x y H1 fun z H2 => D.nx (σ.set i (some z)) H2
theorem ps_aug {i : Nat} {x : Str} {e : Expr} {te : TE} {op : Operator} {ti : TIp} {pos' : Pos} (hN : X.N.Nodup) (hi : X.N[i]? = some x) (hx : Loc X.env.scope x) (he : PE X e te) (ho : PIp X op ti) (hf : X.fn x = true ∨ X.env.scope.names.lookup x = some .local := by first | exact .inl rfl | exact .inr rfl | assumption) :
    PS X (.AugAssign (.Name x pos') op e pos) (tAug i te ti) := by
  intro pins s σ H D I h
  obtain ⟨v, e1, h⟩ := h
  obtain ⟨m, hn, hl⟩ := I.loc
  have vis : Vis X.env.scope x := by rcases hx with k | k; exact .inl k; exact .inr (.inl k)
  obtain ⟨u, r, l⟩ := hl i x v hi e1 vis
  refine wpAny_AugAssign_Name ?_
  have go : wpAny (model X.prog X.w) X.A (eval e X.env) (fun w s₂ => wpAny (model X.prog X.w) X.A (inplaceOp op u w) (fun r s₃ => wpAny (model X.prog X.w) X.A (storeName X.env x r) (fun _ => SP X pins D .next) X.xe s₃) X.xe s₂) X.xe s := by
    refine thn (he pins s σ H _ I h) fun w s1 ⟨y, H1, I1, r1, q1⟩ => ?_
    refine thn (ho pins s1 σ H1 v y u w _ I1 r r1 q1) fun z s2 ⟨zv, H2, I2, r2, q2⟩ => ?_
    exact store_ok I2 hN hi hx r2 (fun s3 I3 => ⟨_, H2, I3, q2⟩) hf
  rcases l with ⟨hk, hm⟩ | ⟨hk, c, hc, hcell⟩
  · exact wpAny_loadName_local I.ok.kind hk hn hm go
  · rcases hk with hk | hk
    · exact wpAny_loadName_cell I.ok.kind hk hc hcell go
    · rcases hx with k | k
      · have : X.env.scope.names.lookup x = some .free := hk
        rw [k] at this; cases this
      · have : X.env.scope.names.lookup x = some .free := hk
        rw [k] at this; cases this
/-- o[i] op= e -/
def tAugS (to ti te : TE) (tget : V → V → Hp → VK → Prop) (tip : TIp) (tset : TSet) : TS := fun D σ H => to σ H fun o H1 => ti σ H1 fun i H2 => tget o i H2 fun x H3 => te σ H3 fun y H4 => tip x y H4 fun z H5 => tset o i z H5 fun H6 => D.nx σ H6
/-- o[i], by values -/
def PGet (X : Cx) (t : V → V → Hp → VK → Prop) : Prop :=
  ∀ (pins : List (Addr × Obj)) (s : Shared) (σ : St) (H : Hp) (o i : V) (ov iv : Value) (Q : VK), Inv X pins σ H s → RelV o ov → RelV i iv → t o i H Q →
    wpAny (model X.prog X.w) X.A (getItem ov iv) (EP X pins σ Q) X.xe s
theorem ps_augS {o i e : Expr} {to ti te : TE} {tget : V → V → Hp → VK → Prop} {tip : TIp} {tset : TSet} {op : Operator} {tpos : Pos} (ho : PE X o to) (hi : PE X i ti) (hg : PGet X tget) (he : PE X e te) (hp : PIp X op tip) (hs : PSet X tset)
    (ha : ∀ ov iv new, augStore i ov iv new = (do holding [new, ov, iv] (setItem ov iv new); release [new, ov, iv] []; pure .next) := by intros; rfl) : PS X (.AugAssign (.Subscript o i tpos) op e pos) (tAugS to ti te tget tip tset) := by
  intro pins s σ H D I h
  refine wpAny_AugAssign_SubscriptAny (thn (ho pins s σ H _ I h) fun ov s1 ⟨x1, H1, I1, r1, q1⟩ => ?_) ha
  refine thn (hi pins s1 σ H1 _ I1 q1) fun iv s2 ⟨x2, H2, I2, r2, q2⟩ => ?_
  refine thn (hg pins s2 σ H2 x1 x2 ov iv _ I2 r1 r2 q2) fun old s3 ⟨x3, H3, I3, r3, q3⟩ => ?_
  refine thn (he pins s3 σ H3 _ I3 q3) fun v s4 ⟨x4, H4, I4, r4, q4⟩ => ?_
  refine thn (hp pins s4 σ H4 x3 x4 old v _ I4 r3 r4 q4) fun new s5 ⟨x5, H5, I5, r5, q5⟩ => ?_
  exact thn (hs pins s5 σ H5 x1 x2 x5 ov iv new _ I5 r1 r2 r5 q5) fun _ s6 ⟨H6, I6, q6⟩ => ⟨σ, H6, I6, q6⟩
/-- ints -/
def ipI (f : Int → Int → Int) : TIp := fun x y H Q => ∃ i j, x = .int i ∧ y = .int j ∧ Q (.int (f i j)) H
theorem ip_add : PIp X .Add (ipI fun i j => i + j) := by
  intro pins s σ H x y v u Q I r1 r2 h
  obtain ⟨i, j, e1, e2, q⟩ := h
  subst e1; subst e2
  obtain ⟨t, rfl⟩ := r1
  obtain ⟨t', rfl⟩ := r2
  exact iadd_int ⟨.int _, H, I.tok _, ⟨_, rfl⟩, q⟩
theorem ip_sub : PIp X .Sub (ipI fun i j => i - j) := by
  intro pins s σ H x y v u Q I r1 r2 h
  obtain ⟨i, j, e1, e2, q⟩ := h
  subst e1; subst e2
  obtain ⟨t, rfl⟩ := r1
  obtain ⟨t', rfl⟩ := r2
  exact isub_int ⟨.int _, H, I.tok _, ⟨_, rfl⟩, q⟩
end

/-! ### while -/
section
variable {X : Cx} {pos : Pos}
/-- the invariant W with its measure -/
def tWhile (c : TT) (tb : TS) : TS := fun D σ H => ∃ W : Nat → St → Hp → Prop, (∃ m, W m σ H) ∧ ∀ m σ H, W m σ H →
  c σ H fun b H1 => if b = true then ∃ N : St → Hp → Prop, (∀ σ' H', N σ' H' → ∃ m', m' < m ∧ W m' σ' H') ∧ tb { D with nx := N, ct := N, bk := D.nx } σ H1 else D.nx σ H1
theorem ps_while {c : Expr} {body : List Stmt} {tc : TT} {tb : TS} (hp : PassesOwn (model X.prog X.w) X.A X.env X.xe) (hc : PT X c tc) (hb : PSs X body tb) : PS X (.While c body [] pos) (tWhile tc tb) := by
  intro pins s σ H D I h
  obtain ⟨W, ⟨m0, w0⟩, turn⟩ := h
  refine wpAny_While (codeAny_whileLoop (fun n s' => ∃ σ' H', Inv X pins σ' H' s' ∧ W n σ' H') ?_ m0 ⟨σ, H, I, w0⟩)
  rintro n s1 ⟨σ1, H1, I1, w1⟩
  refine wpAny_passesOwn hp (thn (hc pins s1 σ1 H1 _ I1 (turn n σ1 H1 w1)) fun b s2 ⟨H2, I2, q2⟩ => ?_)
  cases b with
  | true =>
    obtain ⟨N, hN, q2⟩ := q2
    rw [if_pos rfl]
    refine wpAny_passesOwn hp (thn (hb pins s2 σ1 H2 _ I2 q2) fun f s3 q3 => ?_)
    cases f with
    | next =>
      obtain ⟨σ3, H3, I3, n3⟩ := q3
      obtain ⟨m', hm, w3⟩ := hN σ3 H3 n3
      exact ⟨m', hm, σ3, H3, I3, w3⟩
    | cont =>
      obtain ⟨σ3, H3, I3, n3⟩ := q3
      obtain ⟨m', hm, w3⟩ := hN σ3 H3 n3
      exact ⟨m', hm, σ3, H3, I3, w3⟩
    | brk => exact q3
    | ret v => exact q3
  | false =>
    rw [if_neg Bool.false_ne_true]
    exact wpAny_execs_nil ⟨σ1, H2, I2, q2⟩
end

/-! ### what a loop or a comprehension walks -/
/-- at turn i: it yields x (the heap may grow), or it stops -/
structure It where
  go : Nat → Hp → Prop
  yld : Nat → Hp → V → Hp → Prop
  stop : Nat → Hp → Prop
/-- the iterator's own objects may turn: they are not the frame's, not pinned, younger than the entry (or a comprehension's own) -/
def FpOk (X : Cx) (pins : List (Addr × Obj)) (H : Hp) (b : Addr) : Prop :=
  H b = none ∧ b ≠ X.env.locals ∧ b ∉ X.fs ∧ (b ∈ X.ex ∨ X.s₀.heap.objs.size ≤ b) ∧ (∀ x c, X.env.cells.lookup x = some c → c ≠ b) ∧ ∀ p ∈ X.pn ++ pins, p.1 ≠ b
theorem Inv.fpOk {X : Cx} {pins : List (Addr × Obj)} {σ : St} {H H' : Hp} {s : Shared} {b : Addr} (I : Inv X pins σ H s) (hb : s.heap.objs.size ≤ b) (hn : H' b = none) : FpOk X pins H' b := by
  refine ⟨hn, Nat.ne_of_gt (Nat.lt_of_lt_of_le I.lt hb), I.nofs hb, .inr (Nat.le_trans I.sz hb), fun x c e z => ?_, fun p hp z => ?_⟩
  · obtain ⟨v, q⟩ := I.cell x c e
    exact absurd (Nat.lt_of_lt_of_le q.lt (by rw [z]; exact hb)) (Nat.lt_irrefl _)
  · exact absurd (Nat.lt_of_lt_of_le (Heap.lt_size (I.pin p hp).1) (by rw [z]; exact hb)) (Nat.lt_irrefl _)
structure Turn (P : Program) (w : World) (K : PySem.W.Frag) (tg : Expr) (J : It) (fp : List Addr) (it : Addr) (tn : Nat → Heap → Prop) : Prop where
  mem : it ∈ fp
  obj : ∀ i h, tn i h → ∀ b ∈ fp, ∃ o, h.get? b = some o ∧ ∀ v, o.data ≠ .cell v
  keep : ∀ i h h', tn i h → (∀ b ∈ fp, ∀ o, h.get? b = some o → h'.get? b = some o) → tn i h'
  item : ∀ (X : Cx), X.prog = P → X.w = w → X.K = K → X.calm = true → ∀ (i : Nat) (pins : List (Addr × Obj)) (s : Shared) (σ : St) (H : Hp) (E : Value → Shared → Prop), Inv X pins σ H s → (∀ b ∈ fp, FpOk X pins H b) → tn i s.heap → J.go i H →
    wpAny (model P w) X.A (pyNext (.ref it)) (fun r s1 => ∃ u, r = some u ∧
      wpAny (model P w) X.A (letOwnedTupleGo tg (.ref it) u) (fun _ s2 => ∃ x H', Inv X pins σ H' s2 ∧ RelV x u ∧ J.yld i H x H' ∧ tn (i + 1) s2.heap ∧ ∀ b ∈ fp, H' b = none) E s1) E s
  done : ∀ (X : Cx), X.prog = P → X.w = w → X.K = K → X.calm = true → ∀ (i : Nat) (pins : List (Addr × Obj)) (s : Shared) (σ : St) (H : Hp) (E : Value → Shared → Prop), Inv X pins σ H s → (∀ b ∈ fp, FpOk X pins H b) → tn i s.heap → J.stop i H →
    wpAny (model P w) X.A (pyNext (.ref it)) (fun r s1 => r = none ∧ Inv X pins σ H s1) E s
  self : ∀ (A : Around) (i : Nat) (s : Shared) (Q : Value → Shared → Prop) (E : Value → Shared → Prop), tn i s.heap → Q (.ref it) s → wpAny (model P w) A (pyIter (.ref it)) Q E s
abbrev TI := St → Hp → (It → Hp → Prop) → Prop
/-- an iterator has come -/
def PIE (X : Cx) (pins : List (Addr × Obj)) (σ : St) (tg : Expr) (R : It → Hp → Prop) (itv : Value) (s2 : Shared) : Prop :=
  ∃ (it : Addr) (fp : List Addr) (tn : Nat → Heap → Prop) (J : It) (H' : Hp), itv = .ref it ∧ Inv X pins σ H' s2 ∧ Turn X.prog X.w X.K tg J fp it tn ∧ tn 0 s2.heap ∧ (∀ b ∈ fp, FpOk X pins H' b) ∧ R J H'
def PI (X : Cx) (tg iter : Expr) (wi : TI) : Prop :=
  ∀ (pins : List (Addr × Obj)) (s : Shared) (σ : St) (H : Hp) (R : It → Hp → Prop), Inv X pins σ H s → wi σ H R →
    wpAny (model X.prog X.w) X.A (eval iter X.env) (fun v s1 => wpAny (model X.prog X.w) X.A (pyIter v) (PIE X pins σ tg R) X.xe s1) X.xe s

/-- the step ahead of the store is nothing for an iterator that keeps no tuple -/
theorem go_of {M : Model} {A : Around} {E : Value → Shared → Prop} {s : Shared} {tg : Expr} {it : Addr} {u : Value} {o : Obj} {n : String} {vs : Array Value} {Q : Unit → Shared → Prop} (ho : s.heap.get? it = some o) (hc : o.cls = .type n) (hd : o.data = .fields vs)
    (hn : ["enumerate", "zip", "dict_itemiterator", "dict_reverseitemiterator", "odict_iterator", "itertools.zip_longest", "itertools.pairwise"].contains n = false) (hQ : Q () s) : wpAny M A (letOwnedTupleGo tg (.ref it) u) Q E s := by
  unfold letOwnedTupleGo
  cases tg <;> first
    | exact wpAny_pure hQ
    | (cases u <;> first
        | exact wpAny_pure hQ
        | (refine wpAny_bind (wpAny_load ho ?_)
           rw [hc, hd]
           show wpAny M A (if (["enumerate", "zip", "dict_itemiterator", "dict_reverseitemiterator", "odict_iterator", "itertools.zip_longest", "itertools.pairwise"].contains n && vs[0]? == some (rawInt _)) = true then _ else _) Q E s
           rw [if_neg (by intro h; rw [hn, Bool.false_and] at h; cases h)]
           exact wpAny_pure hQ))

/-- the list at a, as it stands at each turn (a loop may append to it) -/
def Itl (K : PySem.W.Frag) (a : Addr) : It :=
  ⟨fun i H => ∃ xs x, SqL K H a xs ∧ xs[i]? = some x, fun i H x H' => H' = H ∧ ∀ xs, SqL K H a xs → xs[i]? = some x, fun i H => ∃ xs, SqL K H a xs ∧ xs.length ≤ i⟩
def Itt (K : PySem.W.Frag) (a : Addr) : It :=
  ⟨fun i H => ∃ xs x, SqT K H a xs ∧ xs[i]? = some x, fun i H x H' => H' = H ∧ ∀ xs, SqT K H a xs → xs[i]? = some x, fun i H => ∃ xs, SqT K H a xs ∧ xs.length ≤ i⟩
/-- lo, lo + 1, .. (n of them) -/
def Itr (lo : Int) (n : Nat) : It := ⟨fun i _ => i < n, fun i H x H' => H' = H ∧ x = .int (lo + i), fun i _ => n ≤ i⟩
theorem turn_list {P : Program} {w : World} {K : PySem.W.Frag} {tg : Expr} (a it : Addr) : Turn P w K tg (Itl K a) [it] it (fun i h => h.IsListIter it a i) where
  mem := by simp
  obj := fun i h st b hb => by
    have e : b = it := by simpa using hb
    subst e
    obtain ⟨o, e, c, d⟩ := st
    exact ⟨o, e, fun v z => by rw [d] at z; cases z⟩
  keep := fun i h h' st k => st.at fun o e => k it (by simp) o e
  item := by
    intro X hP hw hK hc i pins s σ H E I hf st hg
    subst hP hw hK
    obtain ⟨xs, x, hq, hx⟩ := hg
    obtain ⟨its, rv, p, hz⟩ := I.list hq
    obtain ⟨u, hu, ru⟩ := rv.get hx
    obtain ⟨f0, f1, f2, f3, f4, f5⟩ := hf it (by simp)
    refine wpAny_pyNext_list_item st p.isList (x := u) (by simpa using hu) fun h' st' sb => ?_
    have I1 : Inv X pins σ H { s with heap := h' } := I.turned (t' := s.toks) (fun b o hb e => (sb.2 b hb).trans e) f0 f1 f3 f4 f5
    obtain ⟨o, e, c, d⟩ := id st'
    exact ⟨u, rfl, go_of (s := { s with heap := h' }) e c d (by decide) ⟨x, H, I1, ru, ⟨rfl, fun ys hy => by rw [I.list_inj hy hq]; exact hx⟩, st', fun b hb => (hf b hb).1⟩⟩
  done := by
    intro X hP hw hK hc i pins s σ H E I hf st hg
    subst hP hw hK
    obtain ⟨xs, hq, hx⟩ := hg
    obtain ⟨its, rv, p, hz⟩ := I.list hq
    obtain ⟨f0, f1, f2, f3, f4, f5⟩ := hf it (by simp)
    have hl := rv.length
    exact wpAny_pyNext_list_end (I.ok.hd hc) st p.isList (by simp; omega) fun h' eb => ⟨rfl, I.turned (t' := s.toks) (fun b o hb e => eb b o hb e) f0 f1 f3 f4 f5⟩
  self := fun _ _ _ _ _ st h => wpAny_pyIter_listiter st h
theorem turn_tuple {P : Program} {w : World} {K : PySem.W.Frag} {tg : Expr} (a it : Addr) : Turn P w K tg (Itt K a) [it] it (fun i h => h.IsTupleIter it a i) where
  mem := by simp
  obj := fun i h st b hb => by
    have e : b = it := by simpa using hb
    subst e
    obtain ⟨o, e, c, d⟩ := st
    exact ⟨o, e, fun v z => by rw [d] at z; cases z⟩
  keep := fun i h h' st k => st.at fun o e => k it (by simp) o e
  item := by
    intro X hP hw hK hc i pins s σ H E I hf st hg
    subst hP hw hK
    obtain ⟨xs, x, hq, hx⟩ := hg
    obtain ⟨its, rv, p, hz⟩ := I.tuple hq
    obtain ⟨u, hu, ru⟩ := rv.get hx
    obtain ⟨f0, f1, f2, f3, f4, f5⟩ := hf it (by simp)
    refine wpAny_pyNext_tuple_item st (show s.heap.IsTuple a its.toArray from p) (x := u) (by simpa using hu) fun h' st' sb => ?_
    have I1 : Inv X pins σ H { s with heap := h' } := I.turned (t' := s.toks) (fun b o hb e => (sb.2 b hb).trans e) f0 f1 f3 f4 f5
    obtain ⟨o, e, c, d⟩ := id st'
    exact ⟨u, rfl, go_of (s := { s with heap := h' }) e c d (by decide) ⟨x, H, I1, ru, ⟨rfl, fun ys hy => by rw [I.tuple_inj hy hq]; exact hx⟩, st', fun b hb => (hf b hb).1⟩⟩
  done := by
    intro X hP hw hK hc i pins s σ H E I hf st hg
    subst hP hw hK
    obtain ⟨xs, hq, hx⟩ := hg
    obtain ⟨its, rv, p, hz⟩ := I.tuple hq
    obtain ⟨f0, f1, f2, f3, f4, f5⟩ := hf it (by simp)
    have hl := rv.length
    exact wpAny_pyNext_tuple_end (I.ok.hd hc) st (show s.heap.IsTuple a its.toArray from p) (by simp; omega) fun h' eb => ⟨rfl, I.turned (t' := s.toks) (fun b o hb e => eb b o hb e) f0 f1 f3 f4 f5⟩
  self := fun _ _ _ _ _ st h => wpAny_pyIter_tupleiter st h
theorem turn_range {P : Program} {w : World} {K : PySem.W.Frag} {tg : Expr} (it : Addr) (lo : Int) (n : Nat) : Turn P w K tg (Itr lo n) [it] it (fun i h => IsRangeIter h it (lo + (i : Nat) * 1) ((n : Int) - (i : Nat)) 1) where
  mem := by simp
  obj := fun i h st b hb => by
    have e : b = it := by simpa using hb
    subst e
    exact ⟨_, st, fun v z => by
      have z' : Data.fields _ = Data.cell v := z
      cases z'⟩
  keep := fun i h h' st k => k it (by simp) _ st
  item := by
    intro X hP hw hK hc i pins s σ H E I hf st hg
    subst hP hw hK
    obtain ⟨f0, f1, f2, f3, f4, f5⟩ := hf it (by simp)
    have W := Walks.range (prog := X.prog) (w := X.w) (I.ok.hd hc) it lo 1 n
    refine W.item i s _ _ hg st fun v h' tk hv st' kk => ?_
    obtain ⟨t, rfl⟩ := hv
    have I1 : Inv X pins σ H { s with heap := h', toks := tk } := I.turned (fun b o hb e => kk b o (by simpa using hb) e) f0 f1 f3 f4 f5
    refine ⟨_, rfl, go_of (s := { s with heap := h', toks := tk }) (n := "range_iterator") st' rfl rfl (by decide) ⟨.int (lo + i), H, I1, ⟨t, ?_⟩, ⟨rfl, rfl⟩, st', fun b hb => (hf b hb).1⟩⟩
    rw [Int.mul_one]
  done := by
    intro X hP hw hK hc i pins s σ H E I hf st hg
    subst hP hw hK
    obtain ⟨f0, f1, f2, f3, f4, f5⟩ := hf it (by simp)
    exact wpAny_pyNext_range_end (I.ok.hd hc) st (by have : n ≤ i := hg; omega) fun h' eb => ⟨rfl, I.turned (t' := s.toks) (fun b o hb e => eb b o hb e) f0 f1 f3 f4 f5⟩
  self := fun _ _ _ _ _ st h => wpAny_pyIter_rangeiter st h
end L2

namespace L2
open PySem PySem.Spec PyProof.Rows
section
variable {X : Cx} {tg : Expr}
def iList (K : PySem.W.Frag) (tl : TE) : TI := fun σ H R => tl σ H fun x H1 => ∃ a, x = .ref a ∧ (∃ xs, SqL K H1 a xs) ∧ R (Itl K a) H1
def iTup (K : PySem.W.Frag) (tl : TE) : TI := fun σ H R => tl σ H fun x H1 => ∃ a, x = .ref a ∧ (∃ xs, SqT K H1 a xs) ∧ R (Itt K a) H1
theorem pi_list {l : Expr} {tl : TE} (hl : PE X l tl) : PI X tg l (iList X.K tl) := by
  intro pins s σ H R I h
  refine thn (hl pins s σ H _ I h) fun v s1 ⟨x, H1, I1, r1, q1⟩ => ?_
  obtain ⟨a, e, ⟨xs, hq⟩, q⟩ := q1
  subst e
  cases r1
  obtain ⟨its, rv, p, hz⟩ := I1.list hq
  refine wpAny_pyIter_list p.isList ?_
  refine ⟨s1.heap.objs.size, [s1.heap.objs.size], _, _, H1, rfl, I1.kept (t' := s1.toks) fun b o e => Heap.get?_push_of_some _ e, turn_list a _, ⟨_, Heap.get?_push_size _ rfl, rfl, rfl⟩, fun b hb => ?_, q⟩
  have e : b = s1.heap.objs.size := by simpa using hb
  subst e
  exact I1.fpOk (Nat.le_refl _) (I1.hok.fresh (Nat.le_refl _))
theorem pi_tup {l : Expr} {tl : TE} (hl : PE X l tl) : PI X tg l (iTup X.K tl) := by
  intro pins s σ H R I h
  refine thn (hl pins s σ H _ I h) fun v s1 ⟨x, H1, I1, r1, q1⟩ => ?_
  obtain ⟨a, e, ⟨xs, hq⟩, q⟩ := q1
  subst e
  cases r1
  obtain ⟨its, rv, p, hz⟩ := I1.tuple hq
  refine wpAny_pyIter_tuple (show s1.heap.IsTuple a its.toArray from p) ?_
  refine ⟨s1.heap.objs.size, [s1.heap.objs.size], _, _, H1, rfl, I1.kept (t' := s1.toks) fun b o e => Heap.get?_push_of_some _ e, turn_tuple a _, ⟨_, Heap.get?_push_size _ rfl, rfl, rfl⟩, fun b hb => ?_, q⟩
  have e : b = s1.heap.objs.size := by simpa using hb
  subst e
  exact I1.fpOk (Nat.le_refl _) (I1.hok.fresh (Nat.le_refl _))
/-- a range object just made, walked -/
theorem range_it {pins : List (Addr × Obj)} {σ : St} {H : Hp} {s : Shared} {R : It → Hp → Prop} {E : Value → Shared → Prop} {lo hi : Int} {t u v : Tok} {tk : Nat} (I : Inv X pins σ H s) (h1 : -(2 ^ 62) ≤ lo) (h2 : lo < 2 ^ 62) (h3 : -(2 ^ 62) ≤ hi) (h4 : hi < 2 ^ 62)
    (q : R (Itr lo (hi - lo).toNat) H) : wpAny (model X.prog X.w) X.A (pyIter (.ref s.heap.objs.size)) (PIE X pins σ tg R) E { s with heap := s.heap.push { cls := .type "range", data := .fields #[.int lo t, .int hi u, .int 1 v] }, toks := tk } := by
  refine wpAny_pyIter_range (IsRange.new ..) (small_one h1 h2 h3 h4) ?_
  have I1 : Inv X pins σ H { s with heap := s.heap.push { cls := .type "range", data := .fields #[.int lo t, .int hi u, .int 1 v] }, toks := tk } := I.kept fun b o e => Heap.get?_push_of_some _ e
  refine ⟨(s.heap.push { cls := .type "range", data := .fields #[.int lo t, .int hi u, .int 1 v] }).objs.size, [(s.heap.push { cls := .type "range", data := .fields #[.int lo t, .int hi u, .int 1 v] }).objs.size], _, _, H, rfl,
    I1.kept (t' := tk) fun b o e => Heap.get?_push_of_some _ e, turn_range _ lo (hi - lo).toNat, ?_, fun b hb => ?_, q⟩
  · have e1 : lo + ((0 : Nat) : Int) * 1 = lo := by simp
    have e2 : (((hi - lo).toNat : Nat) : Int) - ((0 : Nat) : Int) = Builtin.Range.rangeSize lo hi 1 := by rw [rangeSize_one]; split <;> omega
    show IsRangeIter _ _ (lo + ((0 : Nat) : Int) * 1) ((((hi - lo).toNat : Nat) : Int) - ((0 : Nat) : Int)) 1
    rw [e1, e2]
    exact Heap.get?_push_size _ rfl
  · have e : b = (s.heap.push { cls := .type "range", data := .fields #[.int lo t, .int hi u, .int 1 v] }).objs.size := by simpa using hb
    subst e
    exact I1.fpOk (Nat.le_refl _) (I1.hok.fresh (Nat.le_refl _))
def iRng1 (ta : TA) : TI := fun σ H R => ta σ H fun vs H1 => ∃ j : Int, vs = [.int j] ∧ -(2 ^ 62) ≤ j ∧ j < 2 ^ 62 ∧ R (Itr 0 j.toNat) H1
def iRng2 (ta : TA) : TI := fun σ H R => ta σ H fun vs H1 => ∃ i j : Int, vs = [.int i, .int j] ∧ (-(2 ^ 62) ≤ i ∧ i < 2 ^ 62 ∧ -(2 ^ 62) ≤ j ∧ j < 2 ^ 62) ∧ R (Itr i (j - i).toNat) H1
theorem pi_range1 {a : Expr} {ta : TA} {p pos : Pos} (hg : Gl X "range") (hm : X.mg "range" = none) (ha : PA X [a] ta) (hs : starEach [a] X.env = [(false, eval a X.env)] := by rfl) : PI X tg (.Call (.Name "range" p) [a] [] pos) (iRng1 ta) := by
  intro pins s σ H R I h
  refine Call_ (ld_blt I hg hm boot_range (PyProof.Rows.callWith_type1 (thn (ha pos pins s σ H _ I h) fun us s1 ⟨vs, H1, I1, r1, q1⟩ => ?_) hs rfl))
  obtain ⟨j, e, q1, q2, q⟩ := q1
  subst e
  cases r1 with
  | cons r rr =>
    cases rr
    obtain ⟨t, rfl⟩ := r
    exact call_range_1 (range_it I1 (by omega) (by omega) q1 q2 (by simpa using q))
theorem pi_range2 {a b : Expr} {ta : TA} {p pos : Pos} (hg : Gl X "range") (hm : X.mg "range" = none) (ha : PA X [a, b] ta) (hs : starEach [a, b] X.env = [(false, eval a X.env), (false, eval b X.env)] := by rfl) (hs2 : starEach [b] X.env = [(false, eval b X.env)] := by rfl) :
    PI X tg (.Call (.Name "range" p) [a, b] [] pos) (iRng2 ta) := by
  intro pins s σ H R I h
  refine Call_ (ld_blt I hg hm boot_range (PyProof.Rows.callWith_type1 (thn (ha pos pins s σ H _ I h) fun us s1 ⟨vs, H1, I1, r1, q1⟩ => ?_) (by rw [hs, hs2]) (by rw [hs2]; rfl)))
  obtain ⟨i, j, e, ⟨q1, q2, q3, q4⟩, q⟩ := q1
  subst e
  cases r1 with
  | cons r rr =>
    cases rr with
    | cons r' rr =>
      cases rr
      obtain ⟨t, rfl⟩ := r
      obtain ⟨t', rfl⟩ := r'
      exact call_range_2 (range_it I1 q1 q2 q3 q4 q)

/-! ### for -/
/-- W: the invariant by the turn and a measure; N: what the body is to reach -/
def tFor (wi : TI) (g : TG) (tb : TS) : TS := fun D σ H => wi σ H fun J H1 => ∃ W : Nat → Nat → St → Hp → Prop, (∃ m, W 0 m σ H1) ∧ ∀ i m σ H, W i m σ H →
  (J.stop i H ∧ D.nx σ H) ∨ (J.go i H ∧ ∃ N : St → Hp → Prop, (∀ σ' H', N σ' H' → ∃ m', m' < m ∧ W (i + 1) m' σ' H') ∧ ∀ x H', J.yld i H x H' → g x σ H' fun σ2 H2 => tb { D with nx := N, ct := N, bk := D.nx } σ2 H2)
/-- the records at fp as they stand -/
def pinsAt (fp : List Addr) (h : Heap) : List (Addr × Obj) := fp.filterMap fun b => (h.get? b).map fun o => (b, o)
theorem mem_pinsAt {fp : List Addr} {h : Heap} {b : Addr} {o : Obj} (hb : b ∈ fp) (e : h.get? b = some o) : (b, o) ∈ pinsAt fp h := List.mem_filterMap.mpr ⟨b, hb, by rw [e]; rfl⟩
theorem of_pinsAt {fp : List Addr} {h : Heap} {p : Addr × Obj} (hp : p ∈ pinsAt fp h) : p.1 ∈ fp ∧ h.get? p.1 = some p.2 := by
  obtain ⟨b, hb, e⟩ := List.mem_filterMap.mp hp
  cases q : h.get? b with
  | none => rw [q] at e; cases e
  | some o =>
    rw [q] at e
    have e' : (b, o) = p := Option.some.inj e
    subst e'
    exact ⟨hb, q⟩
theorem Inv.pinned {pins : List (Addr × Obj)} {σ : St} {H : Hp} {s : Shared} {fp : List Addr} (I : Inv X pins σ H s) (hf : ∀ b ∈ fp, FpOk X pins H b) (ho : ∀ b ∈ fp, ∃ o, s.heap.get? b = some o ∧ ∀ v, o.data ≠ .cell v) : Inv X (pins ++ pinsAt fp s.heap) σ H s :=
  I.pins_of fun p hp => (List.mem_append.mp hp).elim (fun z => I.pin p (List.mem_append_right _ z)) fun z => by
    obtain ⟨hb, e⟩ := of_pinsAt z
    obtain ⟨f0, f1, f2, _⟩ := hf p.1 hb
    obtain ⟨o, e', d⟩ := ho p.1 hb
    rw [e] at e'; cases e'
    exact ⟨e, f0, f1, f2, d⟩
theorem Inv.unpinned {pins pl : List (Addr × Obj)} {σ : St} {H : Hp} {s : Shared} (I : Inv X (pins ++ pl) σ H s) : Inv X pins σ H s := I.pins_of fun p hp => I.pin p (List.mem_append_right _ (List.mem_append_left _ hp))
theorem ps_for {iter : Expr} {body : List Stmt} {wi : TI} {g : TG} {tb : TS} {pos : Pos} (hp : PassesOwn (model X.prog X.w) X.A X.env X.xe) (hc : X.calm = true) (hi : PI X tg iter wi) (hg : PG X tg g) (hb : PSs X body tb)
    (hs : ∀ x, foldedSetIterable iter X.env x = pure x := by intro _; rfl) : PS X (.For tg iter body [] pos) (tFor wi g tb) := by
  intro pins s σ H D I h
  refine wpAny_For (thn (hi pins s σ H _ I h) fun v s1 h1 => thn h1 fun itv s2 h2 => ?_) hs
  obtain ⟨it, fp, tn, J, H2, e, I2, T, st2, f2, W, ⟨m0, w0⟩, turn⟩ := h2
  subst e
  -- what stays true of the iterator's objects through the loop
  have stat : ∀ {H' : Hp}, (∀ b ∈ fp, H' b = none) → ∀ b ∈ fp, FpOk X pins H' b := fun hn b hb => ⟨hn b hb, (f2 b hb).2⟩
  refine codeAny_forLoop_any (fun n s' => ∃ i σ' H', Inv X pins σ' H' s' ∧ tn i s'.heap ∧ (∀ b ∈ fp, H' b = none) ∧ W i n σ' H') ?_ m0 ⟨0, σ, H2, I2, st2, fun b hb => (f2 b hb).1, w0⟩
  rintro n s3 ⟨i, σ3, H3, I3, st3, fr3, w3⟩
  rcases turn i n σ3 H3 w3 with ⟨stop, qn⟩ | ⟨go, N, hN, step⟩
  · refine wpAny_passesOwn hp (thn (T.done X rfl rfl rfl hc i pins s3 σ3 H3 X.xe I3 (stat fr3) st3 stop) fun r s4 ⟨hr, I4⟩ => ?_)
    subst hr
    exact wpAny_execs_nil ⟨σ3, H3, I4, qn⟩
  · refine wpAny_passesOwn hp (thn (T.item X rfl rfl rfl hc i pins s3 σ3 H3 X.xe I3 (stat fr3) st3 go) fun r s4 ⟨u, hr, h4⟩ => ?_)
    subst hr
    refine wpAny_passesOwn hp (thn h4 fun _ s5 ⟨x, H5, I5, r5, y5, st5, fr5⟩ => ?_)
    have I5' := I5.pinned (stat fr5) (T.obj _ _ st5)
    refine wpAny_passesOwn hp (thn (hg _ s5 σ3 H5 x u _ I5' r5 (step x H5 y5)) fun _ s6 ⟨σ6, H6, I6, q6⟩ => ?_)
    refine wpAny_passesOwn hp (thn (hb _ s6 σ6 H6 _ I6 q6) fun f s7 q7 => ?_)
    have again : ∀ {σ7 : St} {H7 : Hp}, Inv X (pins ++ pinsAt fp s5.heap) σ7 H7 s7 → N σ7 H7 → ∃ m, m < n ∧ ∃ i σ' H', Inv X pins σ' H' s7 ∧ tn i s7.heap ∧ (∀ b ∈ fp, H' b = none) ∧ W i m σ' H' := fun {σ7 H7} I7 n7 => by
      obtain ⟨m', hm, w7⟩ := hN σ7 H7 n7
      refine ⟨m', hm, i + 1, σ7, H7, I7.unpinned, T.keep _ _ _ st5 fun b hb o e => (I7.pin (b, o) (List.mem_append_right _ (List.mem_append_right _ (mem_pinsAt hb e)))).1, fun b hb => ?_, w7⟩
      obtain ⟨o, e, d⟩ := T.obj _ _ st5 b hb
      exact (I7.pin (b, o) (List.mem_append_right _ (List.mem_append_right _ (mem_pinsAt hb e)))).2.1
    cases f with
    | next => obtain ⟨σ7, H7, I7, n7⟩ := q7; exact again I7 n7
    | cont => obtain ⟨σ7, H7, I7, n7⟩ := q7; exact again I7 n7
    | brk => obtain ⟨σ7, H7, I7, q7⟩ := q7; exact ⟨σ7, H7, I7.unpinned, q7⟩
    | ret v => obtain ⟨x7, σ7, H7, I7, r7, q7⟩ := q7; exact ⟨x7, σ7, H7, I7.unpinned, r7, q7⟩
end

/-! ### the forms one uses -/
/-- over a list that the body leaves as it is -/
theorem for_list {K : PySem.W.Frag} {a : Addr} {xs : List V} {g : TG} {tb : TS} {D : Ends} {σ : St} {H : Hp} (Pv : Nat → St → Hp → Prop) (h0 : Pv 0 σ H) (hl : ∀ i σ H, i ≤ xs.length → Pv i σ H → SqL K H a xs)
    (hs : ∀ i x σ H, xs[i]? = some x → Pv i σ H → g x σ H fun σ2 H2 => tb { D with nx := Pv (i + 1), ct := Pv (i + 1), bk := D.nx } σ2 H2) (hd : ∀ σ H, Pv xs.length σ H → D.nx σ H) :
    ∃ W : Nat → Nat → St → Hp → Prop, (∃ m, W 0 m σ H) ∧ ∀ i m σ H, W i m σ H →
      ((Itl K a).stop i H ∧ D.nx σ H) ∨ ((Itl K a).go i H ∧ ∃ N : St → Hp → Prop, (∀ σ' H', N σ' H' → ∃ m', m' < m ∧ W (i + 1) m' σ' H') ∧ ∀ x H', (Itl K a).yld i H x H' → g x σ H' fun σ2 H2 => tb { D with nx := N, ct := N, bk := D.nx } σ2 H2) := by
  refine ⟨fun i m σ H => m = xs.length - i ∧ i ≤ xs.length ∧ Pv i σ H, ⟨xs.length, by simp, Nat.zero_le _, h0⟩, ?_⟩
  rintro i m σ H ⟨rfl, hi, p⟩
  have q := hl i σ H hi p
  by_cases hlt : i < xs.length
  · refine .inr ⟨⟨xs, xs[i], q, by simp [hlt]⟩, Pv (i + 1), fun σ' H' p' => ⟨xs.length - (i + 1), by omega, rfl, hlt, p'⟩, fun x H' y => ?_⟩
    obtain ⟨e, y⟩ := y
    subst e
    exact hs i x σ _ (y xs q) p
  · have e : i = xs.length := by omega
    subst e
    exact .inl ⟨⟨xs, q, Nat.le_refl _⟩, hd σ H p⟩
theorem for_tup {K : PySem.W.Frag} {a : Addr} {xs : List V} {g : TG} {tb : TS} {D : Ends} {σ : St} {H : Hp} (Pv : Nat → St → Hp → Prop) (h0 : Pv 0 σ H) (hl : ∀ i σ H, i ≤ xs.length → Pv i σ H → SqT K H a xs)
    (hs : ∀ i x σ H, xs[i]? = some x → Pv i σ H → g x σ H fun σ2 H2 => tb { D with nx := Pv (i + 1), ct := Pv (i + 1), bk := D.nx } σ2 H2) (hd : ∀ σ H, Pv xs.length σ H → D.nx σ H) :
    ∃ W : Nat → Nat → St → Hp → Prop, (∃ m, W 0 m σ H) ∧ ∀ i m σ H, W i m σ H →
      ((Itt K a).stop i H ∧ D.nx σ H) ∨ ((Itt K a).go i H ∧ ∃ N : St → Hp → Prop, (∀ σ' H', N σ' H' → ∃ m', m' < m ∧ W (i + 1) m' σ' H') ∧ ∀ x H', (Itt K a).yld i H x H' → g x σ H' fun σ2 H2 => tb { D with nx := N, ct := N, bk := D.nx } σ2 H2) := by
  refine ⟨fun i m σ H => m = xs.length - i ∧ i ≤ xs.length ∧ Pv i σ H, ⟨xs.length, by simp, Nat.zero_le _, h0⟩, ?_⟩
  rintro i m σ H ⟨rfl, hi, p⟩
  have q := hl i σ H hi p
  by_cases hlt : i < xs.length
  · refine .inr ⟨⟨xs, xs[i], q, by simp [hlt]⟩, Pv (i + 1), fun σ' H' p' => ⟨xs.length - (i + 1), by omega, rfl, hlt, p'⟩, fun x H' y => ?_⟩
    obtain ⟨e, y⟩ := y
    subst e
    exact hs i x σ _ (y xs q) p
  · have e : i = xs.length := by omega
    subst e
    exact .inl ⟨⟨xs, q, Nat.le_refl _⟩, hd σ H p⟩
theorem for_range {lo : Int} {n : Nat} {g : TG} {tb : TS} {D : Ends} {σ : St} {H : Hp} (Pv : Nat → St → Hp → Prop) (h0 : Pv 0 σ H)
    (hs : ∀ i σ H, i < n → Pv i σ H → g (.int (lo + i)) σ H fun σ2 H2 => tb { D with nx := Pv (i + 1), ct := Pv (i + 1), bk := D.nx } σ2 H2) (hd : ∀ σ H, Pv n σ H → D.nx σ H) :
    ∃ W : Nat → Nat → St → Hp → Prop, (∃ m, W 0 m σ H) ∧ ∀ i m σ H, W i m σ H →
      ((Itr lo n).stop i H ∧ D.nx σ H) ∨ ((Itr lo n).go i H ∧ ∃ N : St → Hp → Prop, (∀ σ' H', N σ' H' → ∃ m', m' < m ∧ W (i + 1) m' σ' H') ∧ ∀ x H', (Itr lo n).yld i H x H' → g x σ H' fun σ2 H2 => tb { D with nx := N, ct := N, bk := D.nx } σ2 H2) := by
  refine ⟨fun i m σ H => m = n - i ∧ i ≤ n ∧ Pv i σ H, ⟨n, by simp, Nat.zero_le _, h0⟩, ?_⟩
  rintro i m σ H ⟨rfl, hi, p⟩
  by_cases hlt : i < n
  · refine .inr ⟨hlt, Pv (i + 1), fun σ' H' p' => ⟨n - (i + 1), by omega, rfl, hlt, p'⟩, fun x H' y => ?_⟩
    obtain ⟨e, y⟩ := y
    subst e y
    exact hs i σ _ hlt p
  · have e : i = n := by omega
    subst e
    exact .inl ⟨Nat.le_refl _, hd σ H p⟩
/-- while, by a word and a measure of the state -/
theorem while_by {c : TT} {tb : TS} {D : Ends} {σ : St} {H : Hp} (Pv : St → Hp → Prop) (μ : St → Hp → Nat) (h0 : Pv σ H)
    (hs : ∀ σ H, Pv σ H → c σ H fun b H1 => if b = true then tb { D with nx := fun σ' H' => Pv σ' H' ∧ μ σ' H' < μ σ H, ct := fun σ' H' => Pv σ' H' ∧ μ σ' H' < μ σ H, bk := D.nx } σ H1 else D.nx σ H1)
    (mono : ∀ σ H Q Q', (∀ b H1, Q b H1 → Q' b H1) → c σ H Q → c σ H Q') : tWhile c tb D σ H := by
  refine ⟨fun m σ H => m = μ σ H ∧ Pv σ H, ⟨_, rfl, h0⟩, ?_⟩
  rintro m σ H ⟨rfl, p⟩
  refine mono σ H _ _ (fun b H1 q => ?_) (hs σ H p)
  cases b with
  | true => exact ⟨_, fun σ' H' ⟨p', l⟩ => ⟨_, l, rfl, p'⟩, q⟩
  | false => exact q
end L2

namespace L2
open PySem PySem.Spec PyProof.Rows

abbrev R2 := V → V → Hp → VK → Prop
/-- a two-place operation on values: f is binaryOp op, inplaceOp op or compareOp op -/
def OpR (X : Cx) (f : Value → Value → Sem Value) (r : R2) : Prop :=
  ∀ (pins : List (Addr × Obj)) (s : Shared) (σ : St) (H : Hp) (x y : V) (v u : Value) (Q : VK), Inv X pins σ H s → RelV x v → RelV y u → r x y H Q →
    wpAny (model X.prog X.w) X.A (f v u) (EP X pins σ Q) X.xe s
/-- a one-place operation -/
def UnR (X : Cx) (f : Value → Sem Value) (r : V → Hp → VK → Prop) : Prop :=
  ∀ (pins : List (Addr × Obj)) (s : Shared) (σ : St) (H : Hp) (x : V) (v : Value) (Q : VK), Inv X pins σ H s → RelV x v → r x H Q →
    wpAny (model X.prog X.w) X.A (f v) (EP X pins σ Q) X.xe s
/-- a call of a value that is known (a builtin, a type) with values -/
def CallR (X : Cx) (f : Value) (r : List V → Hp → VK → Prop) : Prop :=
  ∀ (pins : List (Addr × Obj)) (s : Shared) (σ : St) (H : Hp) (xs : List V) (us : List Value) (Q : VK), Inv X pins σ H s → Vals xs us → r xs H Q →
    wpAny (model X.prog X.w) X.A (call f us) (EP X pins σ Q) X.xe s
/-- a value's truth -/
def TruR (X : Cx) (r : V → Hp → (Bool → Hp → Prop) → Prop) : Prop :=
  ∀ (pins : List (Addr × Obj)) (s : Shared) (σ : St) (H : Hp) (x : V) (v : Value) (Q : Bool → Hp → Prop), Inv X pins σ H s → RelV x v → r x H Q →
    wpAny (model X.prog X.w) X.A (truthy v) (TP X pins σ Q) X.xe s

def tOp (r : R2) (ta tb : TE) : TE := fun σ H Q => ta σ H fun x H1 => tb σ H1 fun y H2 => r x y H2 Q
def tUn (r : V → Hp → VK → Prop) (ta : TE) : TE := fun σ H Q => ta σ H fun x H1 => r x H1 Q
/-- ints in, under C, and a value out -/
def rI (C : Int → Int → Prop) (g : Int → Int → V) : R2 := fun x y H Q => ∃ i j, x = .int i ∧ y = .int j ∧ C i j ∧ Q (g i j) H
def rI0 (g : Int → Int → V) : R2 := fun x y H Q => ∃ i j, x = .int i ∧ y = .int j ∧ Q (g i j) H
def rU (g : Int → V) : V → Hp → VK → Prop := fun x H Q => ∃ i, x = .int i ∧ Q (g i) H

section
variable {X : Cx} {a b c : Expr} {ta tb tc : TE} {pos : Pos}

theorem binT (ha : PE X a ta) (hb : PE X b tb) {pins : List (Addr × Obj)} {s : Shared} {σ : St} {H : Hp} {R : V → V → Hp → Prop} (I : Inv X pins σ H s)
    (h : ta σ H fun x H1 => tb σ H1 fun y H2 => R x y H2) {Q : Value → Shared → Prop} {f : Value → Value → Sem Value}
    (hf : ∀ v u s2 x y H2, Inv X pins σ H2 s2 → RelV x v → RelV y u → R x y H2 → wpAny (model X.prog X.w) X.A (f v u) Q X.xe s2) :
    wpAny (model X.prog X.w) X.A (eval a X.env) (fun v s₁ => wpAny (model X.prog X.w) X.A (eval b X.env) (fun u s₂ => wpAny (model X.prog X.w) X.A (f v u) Q X.xe s₂) X.xe s₁) X.xe s := by
  refine thn (ha pins s σ H _ I h) fun v s1 ⟨x, H1, I1, r1, q1⟩ => ?_
  refine thn (hb pins s1 σ H1 _ I1 q1) fun u s2 ⟨y, H2, I2, r2, q2⟩ => ?_
  exact hf v u s2 x y H2 I2 r1 r2 q2

theorem pe_op {op : Operator} {r : R2} (ho : OpR X (binaryOp op) r) (ha : PE X a ta) (hb : PE X b tb) : PE X (.BinOp a op b pos) (tOp r ta tb) := by
  intro pins s σ H Q I h
  exact wpAny_BinOp (binT ha hb I h fun v u s2 x y H2 I2 rx ry q => ho pins s2 σ H2 x y v u Q I2 rx ry q)
theorem pe_un {op : UnaryOp} {r : V → Hp → VK → Prop} (ho : UnR X (unaryOp op) r) (ha : PE X a ta) : PE X (.UnaryOp op a pos) (tUn r ta) := by
  intro pins s σ H Q I h
  exact UnaryOp_ (thn (ha pins s σ H _ I h) fun v s1 ⟨x, H1, I1, r1, q1⟩ => ho pins s1 σ H1 x v Q I1 r1 q1)
/-- a op= e at a name: the name's slot i -/
theorem augR {op : Operator} {r : R2} (ho : OpR X (inplaceOp op) r) {pins : List (Addr × Obj)} {s : Shared} {σ : St} {H : Hp} {x y : V} {v u : Value} {Q : VK} (I : Inv X pins σ H s)
    (rx : RelV x v) (ry : RelV y u) (q : r x y H Q) : wpAny (model X.prog X.w) X.A (inplaceOp op v u) (EP X pins σ Q) X.xe s := ho pins s σ H x y v u Q I rx ry q

/-! ### ints -/
theorem opI {f : Value → Value → Sem Value} {C : Int → Int → Prop} {g : Int → Int → Int}
    (rule : ∀ (i j : Int) (t u : Tok) (s : Shared) (Q : Value → Shared → Prop) (E : Value → Shared → Prop), C i j → Q (.int (g i j) s.toks) { s with toks := s.toks + 1 } → wpAny (model X.prog X.w) X.A (f (.int i t) (.int j u)) Q E s) :
    OpR X f (rI C fun i j => .int (g i j)) := by
  intro pins s σ H x y v u Q I rx ry h
  obtain ⟨i, j, rfl, rfl, hc, q⟩ := h
  obtain ⟨t, rfl⟩ := rx
  obtain ⟨t', rfl⟩ := ry
  exact rule i j t t' s _ _ hc ⟨.int (g i j), H, I.tok _, ⟨_, rfl⟩, q⟩
theorem opI0 {f : Value → Value → Sem Value} {g : Int → Int → Int}
    (rule : ∀ (i j : Int) (t u : Tok) (s : Shared) (Q : Value → Shared → Prop) (E : Value → Shared → Prop), Q (.int (g i j) s.toks) { s with toks := s.toks + 1 } → wpAny (model X.prog X.w) X.A (f (.int i t) (.int j u)) Q E s) :
    OpR X f (rI0 fun i j => .int (g i j)) := by
  intro pins s σ H x y v u Q I rx ry h
  obtain ⟨i, j, rfl, rfl, q⟩ := h
  obtain ⟨t, rfl⟩ := rx
  obtain ⟨t', rfl⟩ := ry
  exact rule i j t t' s _ _ ⟨.int (g i j), H, I.tok _, ⟨_, rfl⟩, q⟩
theorem opB0 {f : Value → Value → Sem Value} {g : Int → Int → Bool}
    (rule : ∀ (i j : Int) (t u : Tok) (s : Shared) (Q : Value → Shared → Prop) (E : Value → Shared → Prop), Q (.bool (g i j)) s → wpAny (model X.prog X.w) X.A (f (.int i t) (.int j u)) Q E s) :
    OpR X f (rI0 fun i j => .bl (g i j)) := by
  intro pins s σ H x y v u Q I rx ry h
  obtain ⟨i, j, rfl, rfl, q⟩ := h
  obtain ⟨t, rfl⟩ := rx
  obtain ⟨t', rfl⟩ := ry
  exact rule i j t t' s _ _ ⟨.bl (g i j), H, I, rfl, q⟩

def CDiv (i j : Int) : Prop := 0 < j ∧ j < 1073741824
def CDivN (i j : Int) : Prop := j ≠ 0 ∧ j.natAbs < 1073741824
def CPow (i j : Int) : Prop := 0 ≤ j ∧ j ≤ 1000000 ∧ i.natAbs < 2 ^ 64
def CMul (i j : Int) : Prop := (-(2 ^ 64) < i ∧ i < 2 ^ 64) ∨ (-(2 ^ 64) < j ∧ j < 2 ^ 64)
theorem CMul.ok {i j : Int} (h : CMul i j) : IntMulOk i j := by
  rcases h with ⟨h1, h2⟩ | ⟨h1, h2⟩
  · exact .of_left (intBits_le_64 h1 h2)
  · exact .of_right (intBits_le_64 h1 h2)
theorem two_pow_nn (k : Nat) : (0 : Int) ≤ 2 ^ k := by
  rw [two_pow_cast]
  exact Int.natCast_nonneg _

theorem op_add : OpR X (binaryOp .Add) (rI0 fun i j => .int (i + j)) := opI0 fun _ _ _ _ _ _ _ q => add_int q
theorem op_sub : OpR X (binaryOp .Sub) (rI0 fun i j => .int (i - j)) := opI0 fun _ _ _ _ _ _ _ q => sub_int q
theorem op_mul : OpR X (binaryOp .Mult) (rI CMul fun i j => .int (i * j)) := opI fun _ _ _ _ _ _ _ hc q => mul_int q hc.ok
/-- // by a positive divisor -/
theorem op_fdiv : OpR X (binaryOp .FloorDiv) (rI CDiv fun i j => .int (i / j)) := opI fun i j _ _ _ _ _ hc q => by
  have h1 : (0 : Int) < j := hc.1
  have h2 : j < 1073741824 := hc.2
  exact floordiv_int (by omega) (by rw [Int.fdiv_eq_ediv_of_nonneg i (by omega)]; exact q) (.inl (PyProof.noPylong_small (by omega)))
theorem op_fdivN : OpR X (binaryOp .FloorDiv) (rI CDivN fun i j => .int (i.fdiv j)) := opI fun _ _ _ _ _ _ _ hc q => floordiv_int hc.1 q (.inl (PyProof.noPylong_small hc.2))
/-- % by a positive divisor of any size -/
theorem op_mod : OpR X (binaryOp .Mod) (rI (fun _ j => 0 < j) fun i j => .int (i % j)) := opI fun i j _ _ _ _ _ hc q => by
  have h1 : (0 : Int) < j := hc
  exact mod_int' (by omega) (by rw [Int.fmod_eq_emod_of_nonneg i (by omega)]; exact q)
theorem op_modN : OpR X (binaryOp .Mod) (rI (fun _ j => j ≠ 0) fun i j => .int (i.fmod j)) := opI fun _ _ _ _ _ _ _ hc q => mod_int' hc q
theorem op_pow : OpR X (binaryOp .Pow) (rI CPow fun i j => .int (i ^ j.toNat)) := opI fun _ _ _ _ _ _ _ hc q => pow_int_small hc.1 hc.2.1 hc.2.2 q
theorem op_shl : OpR X (binaryOp .LShift) (rI CPow fun i j => .int (i * 2 ^ j.toNat)) := opI fun _ _ _ _ _ _ _ hc q => lshift_int_small hc.1 hc.2.1 hc.2.2 q
theorem op_shr : OpR X (binaryOp .RShift) (rI (fun _ j => 0 ≤ j) fun i j => .int (i / 2 ^ j.toNat)) := opI fun i j _ _ _ _ _ hc q =>
  rshift_int hc (by rw [Int.fdiv_eq_ediv_of_nonneg i (two_pow_nn _)]; exact q)
theorem op_and : OpR X (binaryOp .BitAnd) (rI0 fun i j => .int (Builtin.bitAnd i j)) := opI0 fun _ _ _ _ _ _ _ q => and_int q
theorem op_or : OpR X (binaryOp .BitOr) (rI0 fun i j => .int (Builtin.bitOr i j)) := opI0 fun _ _ _ _ _ _ _ q => or_int q
theorem op_xor : OpR X (binaryOp .BitXor) (rI0 fun i j => .int (Builtin.bitXor i j)) := opI0 fun _ _ _ _ _ _ _ q => xor_int q

theorem iop_add : OpR X (inplaceOp .Add) (rI0 fun i j => .int (i + j)) := opI0 fun _ _ _ _ _ _ _ q => iadd_int q
theorem iop_sub : OpR X (inplaceOp .Sub) (rI0 fun i j => .int (i - j)) := opI0 fun _ _ _ _ _ _ _ q => isub_int q
theorem iop_mul : OpR X (inplaceOp .Mult) (rI CMul fun i j => .int (i * j)) := opI fun _ _ _ _ _ _ _ hc q => imul_int q hc.ok
theorem iop_fdiv : OpR X (inplaceOp .FloorDiv) (rI CDiv fun i j => .int (i / j)) := opI fun i j _ _ _ _ _ hc q => by
  have h1 : (0 : Int) < j := hc.1
  have h2 : j < 1073741824 := hc.2
  exact ifloordiv_int (by omega) (by rw [Int.fdiv_eq_ediv_of_nonneg i (by omega)]; exact q) (.inl (PyProof.noPylong_small (by omega)))
theorem iop_mod : OpR X (inplaceOp .Mod) (rI (fun _ j => 0 < j) fun i j => .int (i % j)) := opI fun i j _ _ _ _ _ hc q => by
  have h1 : (0 : Int) < j := hc
  exact imod_int (by omega) (by rw [Int.fmod_eq_emod_of_nonneg i (by omega)]; exact q)
theorem iop_shl : OpR X (inplaceOp .LShift) (rI CPow fun i j => .int (i * 2 ^ j.toNat)) := opI fun _ _ _ _ _ _ _ hc q => ilshift_int_small hc.1 hc.2.1 hc.2.2 q
theorem iop_shr : OpR X (inplaceOp .RShift) (rI (fun _ j => 0 ≤ j) fun i j => .int (i / 2 ^ j.toNat)) := opI fun i j _ _ _ _ _ hc q =>
  irshift_int hc (by rw [Int.fdiv_eq_ediv_of_nonneg i (two_pow_nn _)]; exact q)
theorem iop_and : OpR X (inplaceOp .BitAnd) (rI0 fun i j => .int (Builtin.bitAnd i j)) := opI0 fun _ _ _ _ _ _ _ q => iand_int q
theorem iop_or : OpR X (inplaceOp .BitOr) (rI0 fun i j => .int (Builtin.bitOr i j)) := opI0 fun _ _ _ _ _ _ _ q => ior_int q
theorem iop_xor : OpR X (inplaceOp .BitXor) (rI0 fun i j => .int (Builtin.bitXor i j)) := opI0 fun _ _ _ _ _ _ _ q => ixor_int q

theorem unI {f : Value → Sem Value} {g : Int → Int}
    (rule : ∀ (i : Int) (t : Tok) (s : Shared) (Q : Value → Shared → Prop) (E : Value → Shared → Prop), Q (.int (g i) s.toks) { s with toks := s.toks + 1 } → wpAny (model X.prog X.w) X.A (f (.int i t)) Q E s) :
    UnR X f (rU fun i => .int (g i)) := by
  intro pins s σ H x v Q I rx h
  obtain ⟨i, rfl, q⟩ := h
  obtain ⟨t, rfl⟩ := rx
  exact rule i t s _ _ ⟨.int (g i), H, I.tok _, ⟨_, rfl⟩, q⟩
theorem un_neg : UnR X (unaryOp .USub) (rU fun i => .int (-i)) := unI fun _ _ _ _ _ q => neg_int q
theorem un_inv : UnR X (unaryOp .Invert) (rU fun i => .int (Builtin.bitNot i)) := unI fun _ _ _ _ _ q => invert_int q

/-! ### bools among ints: n += (a < b) -/
theorem op_add_ib : OpR X (binaryOp .Add) (fun x y H Q => ∃ i k, x = .int i ∧ y = .bl k ∧ Q (.int (i + b2i k)) H) := by
  intro pins s σ H x y v u Q I rx ry h
  obtain ⟨i, k, rfl, rfl, q⟩ := h
  obtain ⟨t, rfl⟩ := rx
  cases ry
  exact add_int_bool ⟨.int (i + b2i k), H, I.tok _, ⟨_, rfl⟩, q⟩
end

/-! ### comparisons -/
/-- the scalars that == tells apart as data does -/
def scal : V → V → Bool
  | .non, .non => true | .non, .int _ => true | .int _, .non => true | .non, .bl _ => true | .bl _, .non => true | .non, .str _ => true | .str _, .non => true
  | .int _, .int _ => true | .bl _, .bl _ => true | .str _, .str _ => true | .byt _, .byt _ => true
  | .int _, .str _ => true | .str _, .int _ => true | .bl _, .str _ => true | .str _, .bl _ => true
  | _, _ => false
def rEq : R2 := fun x y H Q => scal x y = true ∧ Q (.bl (decide (x = y))) H
def rNe : R2 := fun x y H Q => scal x y = true ∧ Q (.bl (!decide (x = y))) H

theorem dec_int {i j : Int} : decide (V.int i = V.int j) = (i == j) := by
  rw [Bool.eq_iff_iff]
  simp
theorem dec_bl {i j : Bool} : decide (V.bl i = V.bl j) = (i == j) := by
  rw [Bool.eq_iff_iff]
  simp
theorem dec_str {i j : Str} : decide (V.str i = V.str j) = (i == j) := by
  rw [Bool.eq_iff_iff]
  simp
theorem dec_byt {i j : Array UInt8} : decide (V.byt i = V.byt j) = (i.toList == j.toList) := by
  rw [Bool.eq_iff_iff]
  cases i
  cases j
  simp

section
variable {X : Cx} {a b c : Expr} {ta tb tc : TE} {pos : Pos}
theorem fin_bl {pins : List (Addr × Obj)} {σ : St} {H : Hp} {s : Shared} {Q : VK} {k k' : Bool} (I : Inv X pins σ H s) (q : Q (.bl k) H) (e : k = k') : EP X pins σ Q (.bool k') s := by
  subst e
  exact ⟨.bl k, H, I, rfl, q⟩
theorem op_eq : OpR X (compareOp .Eq) rEq := by
  intro pins s σ H x y v u Q I rx ry h
  obtain ⟨hs, q⟩ := h
  cases x with
  | non =>
    cases rx
    cases y with
    | non => cases ry; exact PySem.EqNone.eq_none_none (fin_bl I q (by simp))
    | bl j => cases ry; exact PySem.EqNone.eq_none_bool (fin_bl I q (by simp))
    | int j => obtain ⟨t', rfl⟩ := ry; exact PySem.EqNone.eq_none_int (fin_bl I q (by simp))
    | str j => obtain ⟨t', rfl⟩ := ry; exact PySem.EqNone.eq_none_str (fin_bl I q (by simp))
    | _ => exact absurd (show false = true from hs) Bool.false_ne_true
  | bl i =>
    cases rx
    cases y with
    | non => cases ry; exact PySem.EqNone.eq_bool_none (fin_bl I q (by simp))
    | bl j => cases ry; exact eq_bool (fin_bl I q dec_bl)
    | str j => obtain ⟨t', rfl⟩ := ry; exact PySem.EqMixed.eq_bool_str (fin_bl I q (by simp))
    | _ => exact absurd (show false = true from hs) Bool.false_ne_true
  | int i =>
    obtain ⟨t, rfl⟩ := rx
    cases y with
    | non => cases ry; exact PySem.EqNone.eq_int_none (fin_bl I q (by simp))
    | int j => obtain ⟨t', rfl⟩ := ry; exact eq_int (fin_bl I q dec_int)
    | str j => obtain ⟨t', rfl⟩ := ry; exact PySem.EqMixed.eq_int_str (fin_bl I q (by simp))
    | _ => exact absurd (show false = true from hs) Bool.false_ne_true
  | str i =>
    obtain ⟨t, rfl⟩ := rx
    cases y with
    | non => cases ry; exact PySem.EqNone.eq_str_none (fin_bl I q (by simp))
    | bl j => cases ry; exact PySem.EqMixed.eq_str_bool (fin_bl I q (by simp))
    | int j => obtain ⟨t', rfl⟩ := ry; exact PySem.EqMixed.eq_str_int (fin_bl I q (by simp))
    | str j => obtain ⟨t', rfl⟩ := ry; exact eq_str (fin_bl I q dec_str)
    | _ => exact absurd (show false = true from hs) Bool.false_ne_true
  | byt i =>
    obtain ⟨t, rfl⟩ := rx
    cases y with
    | byt j => obtain ⟨t', rfl⟩ := ry; exact PySem.W.eq_bytes (fin_bl I q dec_byt)
    | _ => exact absurd (show false = true from hs) Bool.false_ne_true
  | _ => cases y <;> exact absurd (show false = true from hs) Bool.false_ne_true
theorem op_ne : OpR X (compareOp .NotEq) rNe := by
  intro pins s σ H x y v u Q I rx ry h
  obtain ⟨hs, q⟩ := h
  cases x with
  | non =>
    cases rx
    cases y with
    | non => cases ry; exact PySem.EqNone.ne_none_none (fin_bl I q (by simp))
    | bl j => cases ry; exact PySem.EqNone.ne_none_bool (fin_bl I q (by simp))
    | int j => obtain ⟨t', rfl⟩ := ry; exact PySem.EqNone.ne_none_int (fin_bl I q (by simp))
    | str j => obtain ⟨t', rfl⟩ := ry; exact PySem.EqNone.ne_none_str (fin_bl I q (by simp))
    | _ => exact absurd (show false = true from hs) Bool.false_ne_true
  | bl i =>
    cases rx
    cases y with
    | non => cases ry; exact PySem.EqNone.ne_bool_none (fin_bl I q (by simp))
    | bl j => cases ry; exact ne_bool (fin_bl I q (congrArg not dec_bl))
    | str j => obtain ⟨t', rfl⟩ := ry; exact PySem.EqMixed.ne_bool_str (fin_bl I q (by simp))
    | _ => exact absurd (show false = true from hs) Bool.false_ne_true
  | int i =>
    obtain ⟨t, rfl⟩ := rx
    cases y with
    | non => cases ry; exact PySem.EqNone.ne_int_none (fin_bl I q (by simp))
    | int j => obtain ⟨t', rfl⟩ := ry; exact ne_int (fin_bl I q (congrArg not dec_int))
    | str j => obtain ⟨t', rfl⟩ := ry; exact PySem.EqMixed.ne_int_str (fin_bl I q (by simp))
    | _ => exact absurd (show false = true from hs) Bool.false_ne_true
  | str i =>
    obtain ⟨t, rfl⟩ := rx
    cases y with
    | non => cases ry; exact PySem.EqNone.ne_str_none (fin_bl I q (by simp))
    | bl j => cases ry; exact PySem.EqMixed.ne_str_bool (fin_bl I q (by simp))
    | int j => obtain ⟨t', rfl⟩ := ry; exact PySem.EqMixed.ne_str_int (fin_bl I q (by simp))
    | str j => obtain ⟨t', rfl⟩ := ry; exact ne_str (fin_bl I q (congrArg not dec_str))
    | _ => exact absurd (show false = true from hs) Bool.false_ne_true
  | byt i =>
    obtain ⟨t, rfl⟩ := rx
    cases y with
    | byt j => obtain ⟨t', rfl⟩ := ry; exact PySem.W.ne_bytes (fin_bl I q (congrArg not dec_byt))
    | _ => exact absurd (show false = true from hs) Bool.false_ne_true
  | _ => cases y <;> exact absurd (show false = true from hs) Bool.false_ne_true

theorem op_lt : OpR X (compareOp .Lt) (rI0 fun i j => .bl (decide (i < j))) := opB0 fun _ _ _ _ _ _ _ q => lt_int q
theorem op_le : OpR X (compareOp .LtE) (rI0 fun i j => .bl (decide (i ≤ j))) := opB0 fun _ _ _ _ _ _ _ q => le_int q
theorem op_gt : OpR X (compareOp .Gt) (rI0 fun i j => .bl (decide (j < i))) := opB0 fun _ _ _ _ _ _ _ q => gt_int q
theorem op_ge : OpR X (compareOp .GtE) (rI0 fun i j => .bl (decide (j ≤ i))) := opB0 fun _ _ _ _ _ _ _ q => ge_int q
theorem op_lt_str : OpR X (compareOp .Lt) (fun x y H Q => ∃ i j, x = .str i ∧ y = .str j ∧ Q (.bl (decide (i.cps.toList < j.cps.toList))) H) := by
  intro pins s σ H x y v u Q I rx ry h
  obtain ⟨i, j, rfl, rfl, q⟩ := h
  obtain ⟨t, rfl⟩ := rx
  obtain ⟨t', rfl⟩ := ry
  exact lt_str (fin_bl I q rfl)
/-- the one string within the other -/
theorem op_in_str : OpR X (compareOp .In) (fun x y H Q => ∃ i j, x = .str i ∧ y = .str j ∧ Q (.bl (!(Builtin.Str.occurrences j i 0 j.length 1).isEmpty)) H) := by
  intro pins s σ H x y v u Q I rx ry h
  obtain ⟨i, j, rfl, rfl, q⟩ := h
  obtain ⟨t, rfl⟩ := rx
  obtain ⟨t', rfl⟩ := ry
  exact in_str (fin_bl I q rfl)

/-- is None, is not None: the right side a value none -/
theorem op_isN : OpR X (compareOp .Is) (fun x y H Q => y = .non ∧ Q (.bl (decide (x = .non))) H) := by
  intro pins s σ H x y v u Q I rx ry h
  obtain ⟨rfl, q⟩ := h
  cases ry
  refine is_none_gen (fin_bl I q ?_)
  cases x <;> first
    | (cases rx; rfl)
    | (obtain ⟨t, rfl⟩ := rx; rfl)
theorem op_notN : OpR X (compareOp .IsNot) (fun x y H Q => y = .non ∧ Q (.bl (!decide (x = .non))) H) := by
  intro pins s σ H x y v u Q I rx ry h
  obtain ⟨rfl, q⟩ := h
  cases ry
  refine isnot_none_gen (fin_bl I q ?_)
  cases x <;> first
    | (cases rx; rfl)
    | (obtain ⟨t, rfl⟩ := rx; rfl)

theorem op_notin_str : OpR X (compareOp .NotIn) (fun x y H Q => ∃ i j, x = .str i ∧ y = .str j ∧ Q (.bl (!(!(Builtin.Str.occurrences j i 0 j.length 1).isEmpty))) H) := by
  intro pins s σ H x y v u Q I rx ry h
  obtain ⟨i, j, rfl, rfl, q⟩ := h
  obtain ⟨t, rfl⟩ := rx
  obtain ⟨t', rfl⟩ := ry
  exact notIn_str (fin_bl I q rfl)
/-- is, is not of two objects that are tracked lists or instances -/
def isObj : HO → Bool
  | .lst _ => true
  | .ins _ _ _ => true
  | _ => false
theorem obj_there {pins : List (Addr × Obj)} {s : Shared} {σ : St} {H : Hp} {a : Addr} {o : HO} (I : Inv X pins σ H s) (h : H a = some o) (p : isObj o = true) : ∃ ob, s.heap.get? a = some ob ∧ ob.cls ≠ .type "tuple" := by
  cases o with
  | lst xs =>
    obtain ⟨_, its, n, _, e⟩ : xs.length ≤ sizeLine ∧ ∃ (its : List Value) (n : Nat), Vals xs its ∧ s.heap.get? a = some { cls := .type "list", data := .seq its.toArray n } := I.hok a _ h
    exact ⟨_, e, (by show Value.type "list" ≠ .type "tuple"; decide +kernel)⟩
  | ins C dx fs =>
    have x := I.hok a _ h
    obtain ⟨_, _, _, e, _⟩ := x
    exact ⟨_, e, (by show Value.ref C ≠ .type "tuple"; exact fun z => by cases z)⟩
  | _ => exact absurd (show false = true from p) Bool.false_ne_true
theorem op_is_ref : OpR X (compareOp .Is) (fun x y H Q => ∃ a b oa ob, x = .ref a ∧ y = .ref b ∧ H a = some oa ∧ isObj oa = true ∧ H b = some ob ∧ isObj ob = true ∧ Q (.bl (decide (a = b))) H) := by
  intro pins s σ H x y v u Q I rx ry h
  obtain ⟨a, b, oa, ob, rfl, rfl, ha, pa, hb, pb, q⟩ := h
  cases rx
  cases ry
  obtain ⟨o1, e1, n1⟩ := obj_there I ha pa
  obtain ⟨o2, e2, _⟩ := obj_there I hb pb
  by_cases z : a = b
  · subst z
    exact wpAny_is_ref_self (fin_bl I q (by simp))
  · exact wpAny_is_ref_other z e1 e2 n1 (fin_bl I q (by simp [z]))
theorem op_isnot_ref : OpR X (compareOp .IsNot) (fun x y H Q => ∃ a b oa ob, x = .ref a ∧ y = .ref b ∧ H a = some oa ∧ isObj oa = true ∧ H b = some ob ∧ isObj ob = true ∧ Q (.bl (!decide (a = b))) H) := by
  intro pins s σ H x y v u Q I rx ry h
  obtain ⟨a, b, oa, ob, rfl, rfl, ha, pa, hb, pb, q⟩ := h
  cases rx
  cases ry
  obtain ⟨o1, e1, n1⟩ := obj_there I ha pa
  obtain ⟨o2, e2, _⟩ := obj_there I hb pb
  by_cases z : a = b
  · subst z
    exact wpAny_isNot_ref_self (fin_bl I q (by simp))
  · exact wpAny_isNot_ref_other z e1 e2 n1 (fin_bl I q (by simp [z]))

/-- two rules for one operation: by cases -/
theorem OpR.or {f : Value → Value → Sem Value} {r r' : R2} (h : OpR X f r) (h' : OpR X f r') : OpR X f (fun x y H Q => r x y H Q ∨ r' x y H Q) := by
  intro pins s σ H x y v u Q I rx ry q
  rcases q with q | q
  · exact h pins s σ H x y v u Q I rx ry q
  · exact h' pins s σ H x y v u Q I rx ry q

theorem nomark (b : Expr) {op : CmpOp} (h : op ≠ .In := by decide) (h2 : op ≠ .NotIn := by decide) : behindInMarks op b = false := by
  have e1 : (op == CmpOp.In) = false := by cases op <;> first | rfl | exact absurd rfl h
  have e2 : (op == CmpOp.NotIn) = false := by cases op <;> first | rfl | exact absurd rfl h2
  cases b <;> simp [behindInMarks, e1, e2]
/-- a comparison as a value; hm: nomark b, or (for in, not in) by with_unfolding_all rfl -/
theorem pe_cmpR {op : CmpOp} {r : R2} (ho : OpR X (compareOp op) r) (ha : PE X a ta) (hb : PE X b tb) (hm : behindInMarks op b = false) : PE X (.Compare a [op] [b] pos) (tOp r ta tb) := by
  intro pins s σ H Q I h
  exact wpAny_Compare1 (binT ha hb I h fun v u s2 x y H2 I2 rx ry q => ho pins s2 σ H2 x y v u Q I2 rx ry q) hm
/-- a reading of a value as a test -/
def tTest (t : TE) : TT := fun σ H Q => t σ H fun x H' => ∃ k, x = .bl k ∧ Q k H'
theorem pt_cmpR {op : CmpOp} {r : R2} (ho : OpR X (compareOp op) r) (ha : PE X a ta) (hb : PE X b tb) (hm : behindInMarks op b = false) : PT X (.Compare a [op] [b] pos) (tTest (tOp r ta tb)) := by
  intro pins s σ H Q I h
  refine wpAny_isTrue_Compare1 (thn (ha pins s σ H _ I h) fun v s1 ⟨x, H1, I1, r1, q1⟩ => thn (hb pins s1 σ H1 _ I1 q1) fun u s2 ⟨y, H2, I2, r2, q2⟩ =>
    thn (ho pins s2 σ H2 x y v u _ I2 r1 r2 q2) fun c s3 ⟨z, H3, I3, r3, k, e, q3⟩ => ?_) hm
  subst e
  cases r3
  exact wpAny_truthy_bool ⟨H3, I3, q3⟩
/-- a op1 b op2 c -/
def tChain (r r' : R2) (ta tb tc : TE) : TE := fun σ H Q => ta σ H fun x H1 => tb σ H1 fun y H2 => r x y H2 fun z H3 => ∃ k, z = .bl k ∧
  (if k = true then tc σ H3 fun w' H4 => r' y w' H4 Q else Q (.bl false) H3)
theorem pe_chain {op op' : CmpOp} {r r' : R2} (ho : OpR X (compareOp op) r) (ho' : OpR X (compareOp op') r') (ha : PE X a ta) (hb : PE X b tb) (hc : PE X c tc)
    (hm : lastMarks [op, op'] [b, c] = false := by with_unfolding_all rfl) : PE X (.Compare a [op, op'] [b, c] pos) (tChain r r' ta tb tc) := by
  intro pins s σ H Q I h
  refine Compare_chain (thn (ha pins s σ H _ I h) fun v s1 ⟨x, H1, I1, r1, q1⟩ => chain_link (thn (hb pins s1 σ H1 _ I1 q1) fun u s2 ⟨y, H2, I2, r2, q2⟩ =>
    thn (ho pins s2 σ H2 x y v u _ I2 r1 r2 q2) fun d s3 ⟨z, H3, I3, r3, k, e, q3⟩ => ?_)) hm
  subst e
  cases r3
  refine wpAny_truthy_bool ?_
  cases k with
  | false => exact ite_ff ⟨.bl false, H3, I3, rfl, q3⟩
  | true => exact ite_tt (chain_last (thn (hc pins s3 σ H3 _ I3 q3) fun w' s4 ⟨z', H4, I4, r4, q4⟩ => ho' pins s4 σ H4 y z' u w' Q I4 r2 r4 q4))
theorem pt_chain {op op' : CmpOp} {r r' : R2} (ho : OpR X (compareOp op) r) (ho' : OpR X (compareOp op') r') (ha : PE X a ta) (hb : PE X b tb) (hc : PE X c tc)
    (hm : lastMarks [op, op'] [b, c] = false := by with_unfolding_all rfl) : PT X (.Compare a [op, op'] [b, c] pos) (tTest (tChain r r' ta tb tc)) := by
  intro pins s σ H Q I h
  refine isTrue_chain (thn (ha pins s σ H _ I h) fun v s1 ⟨x, H1, I1, r1, q1⟩ => test_link (thn (hb pins s1 σ H1 _ I1 q1) fun u s2 ⟨y, H2, I2, r2, q2⟩ =>
    thn (ho pins s2 σ H2 x y v u _ I2 r1 r2 q2) fun d s3 ⟨z, H3, I3, r3, k, e, q3⟩ => ?_)) hm
  subst e
  cases r3
  refine wpAny_truthy_bool ?_
  cases k with
  | false =>
    obtain ⟨k', e', q'⟩ := q3
    cases e'
    exact ite_ff ⟨H3, I3, q'⟩
  | true =>
    refine ite_tt (test_last (thn (hc pins s3 σ H3 _ I3 q3) fun w' s4 ⟨z', H4, I4, r4, q4⟩ => thn (ho' pins s4 σ H4 y z' u w' _ I4 r2 r4 q4) fun d' s5 ⟨z2, H5, I5, r5, k2, e2, q5⟩ => ?_))
    subst e2
    cases r5
    exact wpAny_truthy_bool ⟨H5, I5, q5⟩

/-! ### truth -/
/-- a value's truth by the abstract heap -/
def TruV (K : PySem.W.Frag) (x : V) (H : Hp) (k : Bool) : Prop :=
  match x with
  | .non => k = false
  | .bl b => k = b
  | .int i => k = (i != 0)
  | .str y => y.length ≤ sizeLine ∧ k = ((y.length : Int) != 0)
  | .byt y => y.size ≤ sizeLine ∧ k = ((y.size : Int) != 0)
  | .ref p => (∃ xs, SqL K H p xs ∧ k = !xs.isEmpty) ∨ (∃ xs, SqT K H p xs ∧ k = !xs.isEmpty) ∨ ∃ kvs, H p = some (.dK kvs) ∧ k = !kvs.isEmpty
  | _ => False
theorem isEmpty_kv {κ : Type} {kvs : List (κ × V)} {vs : List (κ × Value)} (r : KV kvs vs) : (!vs.isEmpty) = !kvs.isEmpty := by
  cases r <;> rfl
theorem isEmpty_of {xs : List V} {its : List Value} (r : Vals xs its) : (!its.toArray.isEmpty) = !xs.isEmpty := by
  cases r <;> simp
theorem line63 : (sizeLine : Nat) < 2 ^ 63 := by rw [sizeLine_eq]; decide
theorem tru_ok : TruR X (fun x H Q => ∃ k, TruV X.K x H k ∧ Q k H) := by
  intro pins s σ H x v Q I rx h
  obtain ⟨k, e, q⟩ := h
  have hl := line63
  have hs : sizeLine = 16777216 := sizeLine_eq
  cases x with
  | non =>
    cases rx
    have e' : k = false := e
    subst e'
    exact truthy_none ⟨H, I, q⟩
  | bl b =>
    cases rx
    have e' : k = b := e
    subst e'
    exact wpAny_truthy_bool ⟨H, I, q⟩
  | int i =>
    obtain ⟨t, rfl⟩ := rx
    have e' : k = (i != 0) := e
    subst e'
    exact PySem.P.truthy_int ⟨H, I, q⟩
  | str y =>
    obtain ⟨t, rfl⟩ := rx
    obtain ⟨hy, e'⟩ : y.length ≤ sizeLine ∧ k = ((y.length : Int) != 0) := e
    subst e'
    exact PySem.P.truthy_str (by omega) ⟨H, I.tok _, q⟩
  | byt y =>
    obtain ⟨t, rfl⟩ := rx
    obtain ⟨hy, e'⟩ : y.size ≤ sizeLine ∧ k = ((y.size : Int) != 0) := e
    subst e'
    exact PySem.W.truthy_bytes (by omega) ⟨H, I.tok _, q⟩
  | ref p =>
    cases rx
    have e' : (∃ xs, SqL X.K H p xs ∧ k = !xs.isEmpty) ∨ (∃ xs, SqT X.K H p xs ∧ k = !xs.isEmpty) ∨ ∃ kvs, H p = some (.dK kvs) ∧ k = !kvs.isEmpty := e
    rcases e' with ⟨xs, hx, e'⟩ | ⟨xs, hx, e'⟩ | ⟨kvs, hx, e'⟩
    · subst e'
      obtain ⟨its, r, pl, hz⟩ := I.list hx
      have hlen := r.length
      exact wpAny_truthy_list pl.isList (by simp only [List.size_toArray]; omega) ⟨H, I.tok _, by rw [isEmpty_of r]; exact q⟩
    · subst e'
      obtain ⟨its, r, pl, hz⟩ := I.tuple hx
      have hlen := r.length
      exact truthy_tuple pl (by simp only [List.size_toArray]; omega) ⟨H, I.tok _, by rw [isEmpty_of r]; exact q⟩
    · subst e'
      obtain ⟨hz, hS, vs, r, m⟩ : kvs.length ≤ sizeLine ∧ (p == sysModules) = false ∧ ∃ vs, KV kvs vs ∧ s.heap.DictOf (mixKind X.prog X.w) p vs := I.hok p _ hx
      have hlen : kvs.length = vs.length := Paired.length r
      exact wpAny_truthy_dict hS m (by omega) ⟨H, I.tok _, by rw [isEmpty_kv r]; exact q⟩
  | _ => exact (show False from e).elim
/-- any expression whose test is its value's truth (a name, a call, a subscript, a field ..: he by fun _ => rfl) -/
theorem pt_truth (ha : PE X a ta) (he : ∀ whole, isTrue a X.env whole = (do let v ← whole; standAt a.pos; holding [v] (truthy v))) :
    PT X a (fun σ H Q => ta σ H fun x H' => ∃ k, TruV X.K x H' k ∧ Q k H') := by
  intro pins s σ H Q I h
  exact isTrue_plain (thn (ha pins s σ H _ I h) fun v s1 ⟨x, H1, I1, r1, q1⟩ => tru_ok pins s1 σ H1 x v Q I1 r1 q1) (he _)

/-! ### strs and bytes -/
theorem pe_byt {x : List UInt8} {k : Nat} : PE X (.Constant (.bytes x) k pos) (fun _ H Q => Q (.byt x.toArray) H) := fun _ _ _ H _ I h => PySem.W.Constant_bytes ⟨.byt x.toArray, H, I.tok _, ⟨_, rfl⟩, h⟩
theorem op_add_str : OpR X (binaryOp .Add) (fun x y H Q => ∃ i j, x = .str i ∧ y = .str j ∧ i.length + j.length ≤ sizeLine ∧ Q (.str (i ++ j)) H) := by
  intro pins s σ H x y v u Q I rx ry h
  obtain ⟨i, j, rfl, rfl, hz, q⟩ := h
  obtain ⟨t, rfl⟩ := rx
  obtain ⟨t', rfl⟩ := ry
  exact add_str (fun t' tk => ⟨.str (i ++ j), H, I.tok _, ⟨_, rfl⟩, q⟩) hz
theorem iop_add_str : OpR X (inplaceOp .Add) (fun x y H Q => ∃ i j, x = .str i ∧ y = .str j ∧ i.length + j.length ≤ sizeLine ∧ Q (.str (i ++ j)) H) := by
  intro pins s σ H x y v u Q I rx ry h
  obtain ⟨i, j, rfl, rfl, hz, q⟩ := h
  obtain ⟨t, rfl⟩ := rx
  obtain ⟨t', rfl⟩ := ry
  exact iadd_str (fun t' tk => ⟨.str (i ++ j), H, I.tok _, ⟨_, rfl⟩, q⟩) hz
theorem op_add_byt : OpR X (binaryOp .Add) (fun x y H Q => ∃ i j, x = .byt i ∧ y = .byt j ∧ i.size + j.size ≤ 16777216 ∧ Q (.byt (i ++ j)) H) := by
  intro pins s σ H x y v u Q I rx ry h
  obtain ⟨i, j, rfl, rfl, hz, q⟩ := h
  obtain ⟨t, rfl⟩ := rx
  obtain ⟨t', rfl⟩ := ry
  exact PySem.W.KBy.add_bytes hz (fun t' tk => ⟨.byt (i ++ j), H, I.tok _, ⟨_, rfl⟩, q⟩)

def PlainIxT (b : Expr) : Prop := ∀ o i, subscripted b false o i = operate [o, i] (getItem o i)
/-- s[i], 0 ≤ i < len -/
theorem pe_item_str (ha : PE X a ta) (hb : PE X b tb) (hs : PlainIxT b) :
    PE X (.Subscript a b pos) (tOp (fun x y H Q => ∃ z i c, x = .str z ∧ y = .int i ∧ 0 ≤ i ∧ i < 2 ^ 63 ∧ i < z.length ∧ z.cps[i.toNat]? = some c ∧ Q (.str ⟨#[c]⟩) H) ta tb) := by
  intro pins s σ H Q I h
  refine Subscript_ (binT ha hb I h fun v u s2 x y H2 I2 rx ry q => ?_)
  obtain ⟨z, i, c, rfl, rfl, h0, h63, h1, hc, q⟩ := q
  obtain ⟨t, rfl⟩ := rx
  obtain ⟨t', rfl⟩ := ry
  have e : seqIndex? i z.length = some i.toNat := PySem.StrLaws.seqIndex_nonneg h0 h1
  exact tail_any (typeIs_str s2 z t) slot_str_getitem.lookup (getItem_str (c := c) (by
    have e1 : decide (i < -(2 ^ 63 : Int)) = false := decide_eq_false (by omega)
    have e2 : decide (i ≥ 2 ^ 63) = false := decide_eq_false (by omega)
    rw [e1, e2] <;> rfl) (by rw [e]; exact hc) ⟨.str ⟨#[c]⟩, H2, I2.tok _, ⟨_, rfl⟩, q⟩) (hs _ _)
/-- b[i], 0 ≤ i < len -/
theorem pe_item_byt (ha : PE X a ta) (hb : PE X b tb) (hs : PlainIxT b) :
    PE X (.Subscript a b pos) (tOp (fun x y H Q => ∃ (z : List UInt8) (i : Int), x = .byt z.toArray ∧ y = .int i ∧ z.length ≤ sizeLine ∧ 0 ≤ i ∧ i < z.length ∧ Q (.int ((z.getD i.toNat 0).toNat : Nat)) H) ta tb) := by
  intro pins s σ H Q I h
  refine Subscript_ (binT ha hb I h fun v u s2 x y H2 I2 rx ry q => ?_)
  obtain ⟨z, i, rfl, rfl, hz, h0, h1, q⟩ := q
  obtain ⟨t, rfl⟩ := rx
  obtain ⟨t', rfl⟩ := ry
  have hl : sizeLine = 16777216 := sizeLine_eq
  exact tail_any (PySem.W.typeIs_bytes s2 z.toArray t) PySem.W.FB.slot_bytes_getitem.lookup (PySem.W.getItem_bytes (by omega) h0 h1 ⟨.int ((z.getD i.toNat 0).toNat : Nat), H2, I2.tok _, ⟨_, rfl⟩, q⟩) (hs _ _)

/-! ### scalar builtins, by CallR -/
theorem vals1 {x : V} {us : List Value} (r : Vals [x] us) : ∃ u, us = [u] ∧ RelV x u := by
  cases r with
  | cons r1 r2 => cases r2; exact ⟨_, rfl, r1⟩
theorem vals2 {x y : V} {us : List Value} (r : Vals [x, y] us) : ∃ u w', us = [u, w'] ∧ RelV x u ∧ RelV y w' := by
  cases r with
  | cons r1 r2 =>
    cases r2 with
    | cons r3 r4 => cases r4; exact ⟨_, _, rfl, r1, r3⟩
theorem call_abs : CallR X (.builtin "abs") (fun xs H Q => ∃ i, xs = [.int i] ∧ Q (.int (if i < 0 then -i else i)) H) := by
  intro pins s σ H xs us Q I r h
  obtain ⟨i, rfl, q⟩ := h
  obtain ⟨u, rfl, t, rfl⟩ := vals1 r
  exact call_abs_int fun u tk => ⟨.int (if i < 0 then -i else i), H, I.tok _, ⟨_, rfl⟩, q⟩
theorem call_max2 (hc : X.calm = true) : CallR X (.builtin "max") (fun xs H Q => ∃ i j, xs = [.int i, .int j] ∧ Q (.int (if j > i then j else i)) H) := by
  intro pins s σ H xs us Q I r h
  obtain ⟨i, j, rfl, q⟩ := h
  obtain ⟨u, w', rfl, ⟨t, rfl⟩, ⟨t', rfl⟩⟩ := vals2 r
  refine max_two_ints (I.ok.hd hc) fun h' tk k => ⟨_, H, I.kept k, ?_, q⟩
  by_cases hj : j > i
  · rw [if_pos hj, if_pos hj]; exact ⟨_, rfl⟩
  · rw [if_neg hj, if_neg hj]; exact ⟨_, rfl⟩
theorem call_min2 (hc : X.calm = true) : CallR X (.builtin "min") (fun xs H Q => ∃ i j, xs = [.int i, .int j] ∧ Q (.int (if j < i then j else i)) H) := by
  intro pins s σ H xs us Q I r h
  obtain ⟨i, j, rfl, q⟩ := h
  obtain ⟨u, w', rfl, ⟨t, rfl⟩, ⟨t', rfl⟩⟩ := vals2 r
  refine min_two_ints (I.ok.hd hc) fun h' tk k => ⟨_, H, I.kept k, ?_, q⟩
  by_cases hj : j < i
  · rw [if_pos hj, if_pos hj]; exact ⟨_, rfl⟩
  · rw [if_neg hj, if_neg hj]; exact ⟨_, rfl⟩
theorem call_int1 : CallR X (.type "int") (fun xs H Q => (∃ i, xs = [.int i] ∧ Q (.int i) H) ∨ ∃ k, xs = [.bl k] ∧ Q (.int (if k then 1 else 0)) H) := by
  intro pins s σ H xs us Q I r h
  rcases h with ⟨i, rfl, q⟩ | ⟨k, rfl, q⟩
  · obtain ⟨u, rfl, t, rfl⟩ := vals1 r
    exact call_int_int ⟨.int i, H, I, ⟨_, rfl⟩, q⟩
  · obtain ⟨u, rfl, r1⟩ := vals1 r
    cases r1
    exact call_int_bool ⟨.int (if k then 1 else 0), H, I.tok _, ⟨_, rfl⟩, q⟩
theorem call_bool1 : CallR X (.type "bool") (fun xs H Q => (∃ i, xs = [.int i] ∧ Q (.bl (i != 0)) H) ∨ ∃ k, xs = [.bl k] ∧ Q (.bl k) H) := by
  intro pins s σ H xs us Q I r h
  rcases h with ⟨i, rfl, q⟩ | ⟨k, rfl, q⟩
  · obtain ⟨u, rfl, t, rfl⟩ := vals1 r
    exact call_bool_int ⟨.bl (i != 0), H, I, rfl, q⟩
  · obtain ⟨u, rfl, r1⟩ := vals1 r
    cases r1
    exact call_bool_bool ⟨.bl k, H, I, rfl, q⟩
theorem call_str_int : CallR X (.type "str") (fun xs H Q => ∃ i, xs = [.int i] ∧ i.natAbs.log2 < 1920 ∧ Q (.str (toString i)) H) := by
  intro pins s σ H xs us Q I r h
  obtain ⟨i, rfl, hz, q⟩ := h
  obtain ⟨u, rfl, t, rfl⟩ := vals1 r
  exact PySem.P.str_of_int hz ⟨.str _, H, I.tok _, ⟨_, rfl⟩, q⟩
theorem call_ord : CallR X (.builtin "ord") (fun xs H Q => ∃ x, xs = [.str x] ∧ x.length = 1 ∧ Q (.int (x.cps.getD 0 0 : Nat)) H) := by
  intro pins s σ H xs us Q I r h
  obtain ⟨x, rfl, hz, q⟩ := h
  obtain ⟨u, rfl, t, rfl⟩ := vals1 r
  exact ord_of_one hz ⟨.int _, H, I.tok _, ⟨_, rfl⟩, q⟩
theorem call_chr : CallR X (.builtin "chr") (fun xs H Q => ∃ i, xs = [.int i] ∧ 0 ≤ i ∧ i ≤ 1114111 ∧ Q (.str ⟨#[i.toNat]⟩) H) := by
  intro pins s σ H xs us Q I r h
  obtain ⟨i, rfl, h0, h1, q⟩ := h
  obtain ⟨u, rfl, t, rfl⟩ := vals1 r
  exact chr_of_range h0 h1 ⟨.str _, H, I.tok _, ⟨_, rfl⟩, q⟩
/-- len of a str, a bytes, a list, a tuple -/
def LenV (K : PySem.W.Frag) (x : V) (H : Hp) (n : Nat) : Prop :=
  match x with
  | .str y => y.length ≤ sizeLine ∧ n = y.length
  | .byt y => y.size ≤ sizeLine ∧ n = y.size
  | .ref p => (∃ xs, SqL K H p xs ∧ n = xs.length) ∨ ∃ xs, SqT K H p xs ∧ n = xs.length
  | _ => False
theorem call_len : CallR X (.builtin "len") (fun xs H Q => ∃ x n, xs = [x] ∧ LenV X.K x H n ∧ Q (.int n) H) := by
  intro pins s σ H xs us Q I r h
  obtain ⟨x, n, rfl, e, q⟩ := h
  obtain ⟨u, rfl, rx⟩ := vals1 r
  have hl := line63
  have hs : sizeLine = 16777216 := sizeLine_eq
  cases x with
  | str y =>
    obtain ⟨t, rfl⟩ := rx
    obtain ⟨hy, e'⟩ : y.length ≤ sizeLine ∧ n = y.length := e
    subst e'
    exact len_str (by omega) ⟨.int _, H, I.tok _, ⟨_, rfl⟩, q⟩
  | byt y =>
    obtain ⟨t, rfl⟩ := rx
    obtain ⟨hy, e'⟩ : y.size ≤ sizeLine ∧ n = y.size := e
    subst e'
    exact PySem.W.len_bytes (by omega) ⟨.int _, H, I.tok _, ⟨_, rfl⟩, q⟩
  | ref p =>
    cases rx
    have e' : (∃ xs, SqL X.K H p xs ∧ n = xs.length) ∨ ∃ xs, SqT X.K H p xs ∧ n = xs.length := e
    rcases e' with ⟨xs, hx, e'⟩ | ⟨xs, hx, e'⟩
    · subst e'
      obtain ⟨its, r', pl, hz⟩ := I.list hx
      have hlen := r'.length
      exact Calls.call_len_list pl.isList (by simp only [List.size_toArray]; omega) ⟨.int xs.length, H, I.tok _, ⟨_, by simp only [List.size_toArray]; rw [hlen]⟩, q⟩
    · subst e'
      obtain ⟨its, r', pl, hz⟩ := I.tuple hx
      have hlen := r'.length
      exact len_tuple pl (by simp only [List.size_toArray]; omega) ⟨.int xs.length, H, I.tok _, ⟨_, by simp only [List.size_toArray]; rw [hlen]⟩, q⟩
  | _ => exact (show False from e).elim
/-- divmod: a new tuple -/
theorem call_divmod : CallR X (.builtin "divmod") (fun xs H Q => ∃ i j, xs = [.int i, .int j] ∧ CDiv i j ∧ ∀ p, H p = none → Q (.ref p) (upd H p (.tup [.int (i / j), .int (i % j)]))) := by
  intro pins s σ H xs us Q I r h
  obtain ⟨i, j, rfl, ⟨h1, h2⟩, q⟩ := h
  obtain ⟨u, w', rfl, ⟨t, rfl⟩, ⟨t', rfl⟩⟩ := vals2 r
  refine divmod_int (by omega) ?_ (.inl (PyProof.noPylong_small (by omega)))
  rw [Int.fdiv_eq_ediv_of_nonneg i (by omega), Int.fmod_eq_emod_of_nonneg i (by omega)]
  have hn : H s.heap.objs.size = none := I.hok.fresh (Nat.le_refl _)
  refine ⟨.ref s.heap.objs.size, _, ?_, rfl, q _ hn⟩
  refine I.laid (fun b o e => Heap.get?_push_of_some _ e) (Nat.le_refl _) ⟨by simp only [List.length_cons, List.length_nil]; rw [sizeLine_eq]; decide, [.int (i / j) s.toks, .int (i % j) (s.toks + 1)], .cons ⟨_, rfl⟩ (.cons ⟨_, rfl⟩ .nil), ?_⟩
  exact ⟨_, Heap.get?_push_size s.heap rfl, rfl, 0, rfl⟩
end
end L2

namespace L2
open PySem PySem.Spec PyProof.Rows

/-! ### an instance, its attributes a map -/
structure ObjM (h : Heap) (x dx C : Addr) (mA : Str → Option Value) : Prop where
  obj : h.get? x = some (PySem.W.instObj C dx)
  ns : h.Ns1 dx mA
  ne : dx ≠ x

theorem lookIn_ns {h : Heap} {dx : Addr} {mA : Str → Option Value} (n : h.Ns1 dx mA) : ∃ od, h.get? dx = some od ∧ ∀ name, PySem.W.lookIn name od = some (mA name) := by
  obtain ⟨o, es, ep, ho, hd, hk, _, hm⟩ := n
  refine ⟨o, ho, fun name => ?_⟩
  have e := hm name
  unfold nsFind findBy at e
  rw [← Array.find?_toList] at e
  unfold PySem.W.lookIn
  rw [hd]
  dsimp only
  split
  · rename_i y q
    rw [q] at e
    exact congrArg some e
  · rename_i q
    rw [q] at e
    have a : es.toList.any (·.refKey) = false := by
      rw [List.any_eq_false]
      intro y hy
      obtain ⟨z, t, hkey⟩ := hk y (Array.mem_toList_iff.mp hy)
      simp [DictEntry.refKey, hkey]
    have a' : ¬ es.toList.any (·.refKey) = true := by rw [a]; exact Bool.false_ne_true
    rw [if_neg a']
    exact congrArg some e

theorem ObjM.look {h : Heap} {x dx C : Addr} {mA : Str → Option Value} (I : ObjM h x dx C mA) : ∃ od, PySem.W.InstAt h x (PySem.W.instObj C dx) C (some od) ∧ ∀ name, PySem.W.lookIn name od = some (mA name) :=
  let ⟨od, ho, hl⟩ := lookIn_ns I.ns
  ⟨od, ⟨I.obj, rfl, rfl, ho⟩, hl⟩

section
variable {prog : Program} {w : World} {A : Around} {E : Value → Shared → Prop} {s : Shared} {K : PySem.W.Frag} {x dx C f : Addr} {mA : Str → Option Value} {name : Str} {v : Value}

theorem get_map {expr : Bool} {Q : Value → Shared → Prop} (X : K.In s.heap) (I : ObjM s.heap x dx C mA) (hg : PySem.W.plainGet K C name = true) (hh : PySem.W.hasDictIn K C = true)
    (ha : PySem.W.findIn K (.ref C) name = some none) (hv : mA name = some v) (hv' : PySem.W.handedIn v = true) (h : Q v { s with toks := s.toks + 1 }) :
    wpAny (model prog w) A (getAttr (.ref x) name expr) Q E s := by
  obtain ⟨od, J, hl⟩ := I.look
  exact PySem.W.get_value X J (PySem.W.plainGet_of hg).1 (PySem.W.findObj_own hh ha rfl (by rw [hl, hv])) hv' h

theorem get_const {expr : Bool} {a : Value} {Q : Value → Shared → Prop} (X : K.In s.heap) (I : ObjM s.heap x dx C mA) (hg : PySem.W.plainGet K C name = true) (hh : PySem.W.hasDictIn K C = true)
    (ha : PySem.W.findIn K (.ref C) name = some (some a)) (hn : PySem.W.specialIn K a "__get__" = some none) (hc : PySem.W.copiedNames.contains name = false) (hv : mA name = none) (hv' : PySem.W.handedIn a = true)
    (h : Q a { s with toks := s.toks + 1 }) : wpAny (model prog w) A (getAttr (.ref x) name expr) Q E s := by
  obtain ⟨od, J, hl⟩ := I.look
  exact PySem.W.get_value X J (PySem.W.plainGet_of hg).1 (PySem.W.findObj_cls hh ha hn hv' hc (by rw [hl, hv])) hv' h

theorem get_meth {pl : Sem Bool} {Q : Value × List Value → Shared → Prop} (X : K.In s.heap) (I : ObjM s.heap x dx C mA) (hg : PySem.W.plainGet K C name = true)
    (hf : PySem.W.findIn K (.ref C) name = some (some (.ref f))) (ht : PySem.W.isFn K (.ref f) = true) (hv : mA name = none) (h : Q (.ref f, [.ref x]) s) :
    wpAny (model prog w) A (getMethod (.ref x) name pl) Q E s := by
  obtain ⟨od, J, hl⟩ := I.look
  exact PySem.W.method_fn X J (PySem.W.plainGet_of hg).1 (PySem.W.plainGet_of hg).2 hf (beq_iff_eq.mp ht) (by show (PySem.W.lookIn name od).map (·.isSome) = some false; rw [hl, hv]; rfl) h

theorem set_map {ns : List Str} {Q : Unit → Shared → Prop} (X : K.In s.heap) (I : ObjM s.heap x dx C mA)
    (hs : PySem.W.findIn K (.ref C) "__setattr__" = some (some (.builtin "object.__setattr__"))) (hp : PySem.W.plainOver K C = true) (ht : PySem.W.takerIn K C name = some none) (hh : PySem.W.hasDictIn K C = true)
    (hw : PySem.Within mA ns) (hsz : ns.length ≤ sizeLine)
    (h : ∀ h', ObjM h' x dx C (fun y => if y = name then some v else mA y) → Heap.SameBut dx s.heap h' → Q () { s with heap := h', toks := s.toks + 2 }) :
    wpAny (model prog w) A (setAttr (.ref x) name v) Q E s := by
  obtain ⟨od, J, hl⟩ := I.look
  refine PySem.W.set_plain X J hs (PySem.W.osa_open (s := { s with toks := s.toks + 1 }) (r := none) X J hp ht fun b => ?_)
  obtain ⟨cd, hc, hd'⟩ := PySem.W.any_some hh
  have hx : s.heap.get? x = some ⟨.ref C, some dx, .plain, #[]⟩ := I.obj
  refine wpAny_bind (wpAny_pure (wpAny_bind (wpAny_bind (wpAny_loadPart hx (wpAny_bind (PySem.W.Looks.here (s := { s with toks := s.toks + 1 }) (PySem.W.looks_clsIn X hc) ?_))))))
  rw [hd']
  refine wpAny_pure (a := some dx) (wpAny_bind (wpAny_pure (wpAny_bind ?_)))
  refine wpAny_nsSet1 (s := { s with toks := s.toks + 1 }) I.ns fun h' hn2 hs2 => ?_
  obtain ⟨oD, esD, epD, hoD, hdD, hcD⟩ := hn2.count (PySem.Within.cons name v hw)
  refine wpAny_bind (wpAny_lookBehind hoD (by rw [hdD]; exact pastItsLine_dict (Nat.le_trans hcD (by rw [List.length_cons]; omega))) ?_)
  exact wpAny_pure (h _ ⟨(hs2.2 _ (Ne.symm I.ne)).trans I.obj, hn2, I.ne⟩ hs2)

/-- C(..): the dict at the heap's end, the instance behind it; then its __init__ -/
theorem make_map {R : Result → Shared → Prop} {vs : List Value} {kw : List (Str × Value)} (X : K.In s.heap) (hm : PySem.W.makesIn K C = true)
    (hi : PySem.W.findIn K (.ref C) "__init__" = some (some (.ref f))) (hf : PySem.W.typeIn K (.ref f) = some (.type "function"))
    (h : codeAny (model prog w) (A.under (.builtin "type.__call__" ⟨.ref C :: vs, kw⟩)) (.call (.ref f) ⟨.ref (s.heap.objs.size + 1) :: vs, kw⟩) (PySem.W.InitBack (s.heap.objs.size + 1) R)
      { s with heap := (s.heap.push PySem.W.emptyDict).push (PySem.W.instObj C s.heap.objs.size) }) :
    codeAny (model prog w) A (.call (.ref C) ⟨vs, kw⟩) R s := by
  obtain ⟨hh, g, d, t, os⟩ := s
  exact PySem.W.make_core (PySem.W.makes_of X hm) (PySem.W.looks_findIn X hi) (fun self => PySem.W.bind_fn X self hf) (.inl rfl) h
/-- C() where there is no __init__ but object's -/
theorem make_map0 {R : Result → Shared → Prop} (X : K.In s.heap) (hm : PySem.W.makesIn K C = true)
    (hi : PySem.W.findIn K (.ref C) "__init__" = some (some (.builtin "object.__init__")))
    (hb : ∀ self, PySem.W.Looks (model prog w) s.heap (bindSpecial (.builtin "object.__init__") self) (.builtin "object.__init__", [self]))
    (h : codeAny (model prog w) (A.under (.builtin "type.__call__" ⟨[.ref C], []⟩)) (.call (.builtin "object.__init__") ⟨[.ref (s.heap.objs.size + 1)], []⟩) (PySem.W.InitBack (s.heap.objs.size + 1) R)
      { s with heap := (s.heap.push PySem.W.emptyDict).push (PySem.W.instObj C s.heap.objs.size) }) :
    codeAny (model prog w) A (.call (.ref C) ⟨[], []⟩) R s := by
  obtain ⟨hh, g, d, t, os⟩ := s
  exact PySem.W.make_core (PySem.W.makes_of X hm) (PySem.W.looks_findIn X hi) hb (.inr ⟨rfl, rfl⟩) h
end

/-! ### the attributes as a list of pairs -/
def putF (f : Str) (v : V) : List (Str × V) → List (Str × V)
  | [] => [(f, v)]
  | (g, x) :: r => if g = f then (g, v) :: r else (g, x) :: putF f v r
theorem lookup_putF (f g : Str) (v : V) : ∀ fs : List (Str × V), (putF f v fs).lookup g = if g = f then some v else fs.lookup g
  | [] => by
    show List.lookup g [(f, v)] = _
    by_cases h : g = f
    · have hb : (g == f) = true := beq_iff_eq.mpr h
      simp only [List.lookup, hb, if_pos h]
    · have hb : (g == f) = false := beq_eq_false_iff_ne.mpr h
      simp only [List.lookup, hb, if_neg h]
  | (k, x) :: r => by
    have ih := lookup_putF f g v r
    rw [show putF f v ((k, x) :: r) = (if k = f then (k, v) :: r else (k, x) :: putF f v r) from rfl]
    by_cases hk : k = f
    · rw [if_pos hk]
      by_cases h : g = k
      · have hb : (g == k) = true := beq_iff_eq.mpr h
        simp only [List.lookup, hb, if_pos (h.trans hk)]
      · have hb : (g == k) = false := beq_eq_false_iff_ne.mpr h
        simp only [List.lookup, hb, if_neg (fun e : g = f => h (e.trans hk.symm))]
    · rw [if_neg hk]
      by_cases h : g = k
      · have hb : (g == k) = true := beq_iff_eq.mpr h
        simp only [List.lookup, hb, if_neg (fun e : g = f => hk (h.symm.trans e))]
      · have hb : (g == k) = false := beq_eq_false_iff_ne.mpr h
        simp only [List.lookup, hb]
        exact ih
theorem keys_putF (f : Str) (v : V) : ∀ fs : List (Str × V), f ∈ (putF f v fs).map (·.1) ∧ ∀ g, g ∈ fs.map (·.1) → g ∈ (putF f v fs).map (·.1)
  | [] => ⟨by simp [putF], fun g h => by simp at h⟩
  | (k, x) :: r => by
    obtain ⟨i1, i2⟩ := keys_putF f v r
    rw [show putF f v ((k, x) :: r) = (if k = f then (k, v) :: r else (k, x) :: putF f v r) from rfl]
    by_cases hk : k = f
    · rw [if_pos hk]
      subst hk
      exact ⟨by simp, fun g h => by simpa using h⟩
    · rw [if_neg hk]
      refine ⟨?_, fun g h => ?_⟩
      · rw [List.map_cons]
        exact List.mem_cons_of_mem _ i1
      · rw [List.map_cons] at h ⊢
        rcases List.mem_cons.mp h with e | e
        · exact List.mem_cons.mpr (.inl e)
        · exact List.mem_cons_of_mem _ (i2 g e)
theorem length_putF (f : Str) (v : V) : ∀ fs : List (Str × V), (putF f v fs).length ≤ fs.length + 1
  | [] => by simp [putF]
  | (k, x) :: r => by
    have ih := length_putF f v r
    rw [show putF f v ((k, x) :: r) = (if k = f then (k, v) :: r else (k, x) :: putF f v r) from rfl]
    by_cases hk : k = f
    · rw [if_pos hk, List.length_cons, List.length_cons]; omega
    · rw [if_neg hk, List.length_cons, List.length_cons]; omega

theorem RelO.some_of {v : V} {o : Option Value} (r : RelO (some v) o) : ∃ u, o = some u ∧ RelV v u := by
  cases o with
  | none => exact (show False from r).elim
  | some u => exact ⟨u, rfl, r⟩
theorem RelO.none_of {o : Option Value} (r : RelO none o) : o = none := by
  cases o with
  | none => rfl
  | some u => exact (show False from r).elim
theorem handed_of {v : V} {u : Value} (r : RelV v u) : PySem.W.handedIn u = true := by
  cases v with
  | non => cases (show u = Value.none from r); rfl
  | bl b => cases (show u = Value.bool b from r); rfl
  | int i => obtain ⟨t, e⟩ := (show ∃ t, u = Value.int i t from r); cases e; rfl
  | str x => obtain ⟨t, e⟩ := (show ∃ t, u = Value.str x t from r); cases e; rfl
  | byt b => obtain ⟨t, e⟩ := (show ∃ t, u = Value.bytes b t from r); cases e; rfl
  | flt b => obtain ⟨t, e⟩ := (show ∃ t, u = Value.float b t from r); cases e; rfl
  | ref a => cases (show u = Value.ref a from r); rfl
  | ty n => cases (show u = Value.type n from r); rfl

section
variable {P : Program} {w : World} {H H' : Hp} {h h' : Heap} {a C dx : Addr} {fs fs' : List (Str × V)}
theorem ins_get (hok : HOk P w H h) (e : H a = some (.ins C dx fs)) : ∃ mA, ObjM h a dx C mA ∧ (∀ f, RelO (fs.lookup f) (mA f)) ∧ PySem.Within mA (fs.map (·.1)) ∧ fs.length ≤ 1000 ∧ H dx = some (.own a) := by
  obtain ⟨d, z, ne, ob, mA, n, r, q⟩ := (show ObjOk P w H h a (.ins C dx fs) from hok a _ e)
  exact ⟨mA, ⟨ob, n, ne⟩, r, q, z, d⟩
end

/-! ### what of the text a class must have -/
structure Cls (K : PySem.W.Frag) (C : Addr) : Prop where
  pg : PySem.W.plainGet K C Str.empty = true
  hd : PySem.W.hasDictIn K C = true
  po : PySem.W.plainOver K C = true
  sa : PySem.W.findIn K (.ref C) "__setattr__" = some (some (.builtin "object.__setattr__"))
theorem Cls.get {K : PySem.W.Frag} {C : Addr} (c : Cls K C) (f : Str) : PySem.W.plainGet K C f = true := c.pg
/-- no class of it has the name -/
def NoAttr (K : PySem.W.Frag) (C : Addr) (f : Str) : Prop := PySem.W.findIn K (.ref C) f = some none
theorem NoAttr.taker {K : PySem.W.Frag} {C : Addr} {f : Str} (n : NoAttr K C f) : PySem.W.takerIn K C f = some none := by
  unfold PySem.W.takerIn
  rw [show PySem.W.findIn K (.ref C) f = some none from n]
  rfl
/-- a constant of the class -/
structure Con (K : PySem.W.Frag) (C : Addr) (f : Str) (v : V) (u : Value) : Prop where
  at_ : PySem.W.findIn K (.ref C) f = some (some u)
  rel : RelV v u
  get : PySem.W.specialIn K u "__get__" = some none
  cp : PySem.W.copiedNames.contains f = false
/-- a method: a plain def of the class or of one above it -/
structure Meth (K : PySem.W.Frag) (C : Addr) (m : Str) (f : Addr) : Prop where
  at_ : PySem.W.findIn K (.ref C) m = some (some (.ref f))
  fn : PySem.W.isFn K (.ref f) = true
  kp : PySem.W.keepIn K (.ref f) = true

section
variable {X : Cx} {pins : List (Addr × Obj)} {σ : St} {H : Hp} {s : Shared} {a C dx : Addr} {fs : List (Str × V)} {f : Str} {v : V} {A : Around} {E : Value → Shared → Prop}

theorem getattr_ok {b : Bool} {Q : Value → Shared → Prop} (I : Inv X pins σ H s) (e : H a = some (.ins C dx fs)) (c : Cls X.K C) (n : NoAttr X.K C f) (l : fs.lookup f = some v)
    (h : ∀ u s', Inv X pins σ H s' → RelV v u → Q u s') : wpAny (model X.prog X.w) A (getAttr (.ref a) f b) Q E s := by
  obtain ⟨mA, O, r, _, _, _⟩ := ins_get I.hok e
  obtain ⟨u, hu, ru⟩ := RelO.some_of (v := v) (o := mA f) (by rw [← l]; exact r f)
  exact get_map I.kIn O (c.get f) c.hd n hu (handed_of ru) (h u _ (I.tok _) ru)

theorem getcon_ok {b : Bool} {u : Value} {Q : Value → Shared → Prop} (I : Inv X pins σ H s) (e : H a = some (.ins C dx fs)) (c : Cls X.K C) (k : Con X.K C f v u) (l : fs.lookup f = none)
    (h : ∀ s', Inv X pins σ H s' → Q u s') : wpAny (model X.prog X.w) A (getAttr (.ref a) f b) Q E s := by
  obtain ⟨mA, O, r, _, _, _⟩ := ins_get I.hok e
  have hn : mA f = none := RelO.none_of (by rw [← l]; exact r f)
  exact get_const I.kIn O (c.get f) c.hd k.at_ k.get k.cp hn (handed_of k.rel) (h _ (I.tok _))

theorem getmeth_ok {m : Str} {g : Addr} {pl : Sem Bool} {Q : Value × List Value → Shared → Prop} (I : Inv X pins σ H s) (e : H a = some (.ins C dx fs)) (c : Cls X.K C) (k : Meth X.K C m g) (l : fs.lookup m = none)
    (h : Q (.ref g, [.ref a]) s) : wpAny (model X.prog X.w) A (getMethod (.ref a) m pl) Q E s := by
  obtain ⟨mA, O, r, _, _, _⟩ := ins_get I.hok e
  have hn : mA m = none := RelO.none_of (by rw [← l]; exact r m)
  exact get_meth I.kIn O (c.get m) k.at_ k.fn hn h

theorem setattr_ok {y : V} {u : Value} {Q : Unit → Shared → Prop} (I : Inv X pins σ H s) (e : H a = some (.ins C dx fs)) (c : Cls X.K C) (n : NoAttr X.K C f) (hl : fs.length < 1000) (ry : RelV y u)
    (h : ∀ s', Inv X pins σ (upd H a (.ins C dx (putF f y fs))) s' → Q () s') : wpAny (model X.prog X.w) A (setAttr (.ref a) f u) Q E s := by
  obtain ⟨mA, O, r, wi, _, ho⟩ := ins_get I.hok e
  have hz : (fs.map (·.1)).length ≤ sizeLine := by rw [List.length_map, sizeLine_eq]; omega
  refine set_map I.kIn O c.sa c.po n.taker c.hd wi hz fun h' O' sb => h _ ?_
  have hd : ∃ o, h'.get? dx = some o := let ⟨o, _, _, e', _⟩ := O'.ns; ⟨o, e'⟩
  refine I.write (x := a) (e := dx) (by rw [e]; exact True.intro) (.inr ho) (fun b q hb z => (sb.2 b hb).trans z) hd ?_
  refine ⟨by rw [upd_ne O.ne]; exact ho, ?_, O.ne, O'.obj, _, O'.ns, fun g => ?_, fun g hg => ?_⟩
  · have := length_putF f y fs; omega
  · show RelO ((putF f y fs).lookup g) (if g = f then some u else mA g)
    rw [lookup_putF]
    by_cases q : g = f
    · rw [if_pos q, if_pos q]; exact ry
    · rw [if_neg q, if_neg q]; exact r g
  · by_cases q : g = f
    · rw [q]; exact (keys_putF f y fs).1
    · refine (keys_putF f y fs).2 g (wi g fun z => hg ?_)
      show (if g = f then some u else mA g) = none
      rw [if_neg q]; exact z

/-- a new instance, tracked, without attributes -/
theorem Inv.made (I : Inv X pins σ H s) : Inv X pins σ (upd (upd H s.heap.objs.size (.own (s.heap.objs.size + 1))) (s.heap.objs.size + 1) (.ins C s.heap.objs.size []))
    { s with heap := (s.heap.push PySem.W.emptyDict).push (PySem.W.instObj C s.heap.objs.size) } := by
  have e1 : (s.heap.push PySem.W.emptyDict).get? s.heap.objs.size = some PySem.W.emptyDict := Heap.get?_push_size s.heap rfl
  have e2 : ((s.heap.push PySem.W.emptyDict).push (PySem.W.instObj C s.heap.objs.size)).get? (s.heap.objs.size + 1) = some (PySem.W.instObj C s.heap.objs.size) := by
    have := Heap.get?_push_size (s.heap.push PySem.W.emptyDict) (o := PySem.W.instObj C s.heap.objs.size) rfl
    rwa [Heap.size_push] at this
  have e3 : (s.heap.push PySem.W.emptyDict).Ns s.heap.objs.size (fun _ => none) := ⟨PySem.W.emptyDict, #[], _, e1, rfl, (fun e he => absurd he (by simp)), fun _ => rfl⟩
  have I1 := I.laid (a := s.heap.objs.size) (o := .own (s.heap.objs.size + 1)) (h' := s.heap.push PySem.W.emptyDict) (t' := s.toks) (fun b u q => Heap.get?_push_of_some _ q) (Nat.le_refl _) ⟨_, e1⟩
  refine I1.laid (a := s.heap.objs.size + 1) (o := .ins C s.heap.objs.size []) (t' := s.toks) (fun b u q => Heap.get?_push_of_some _ q) (Nat.le_of_eq (Heap.size_push _ _)) ?_
  have ne : s.heap.objs.size ≠ s.heap.objs.size + 1 := Nat.ne_of_lt (Nat.lt_succ_self _)
  refine ⟨by rw [upd_ne ne, upd_same], Nat.zero_le _, ne, e2, fun _ => none, (Heap.Ns1.of_empty e3).at fun o q => Heap.get?_push_of_some _ q, fun _ => True.intro, fun y hy => absurd rfl hy⟩

/-- e.f where nothing but the object is asked: through attributeBase (super) and the last hold -/
theorem attr_of {prog : Program} {w : World} {env : Env} {e : Expr} {f : Str} {pos : Pos} {s : Shared} {Q : Value → Shared → Prop} (hb : attributeBase e f env (eval e env) = eval e env)
    (h : wpAny (model prog w) A (eval e env) (fun o s₁ => wpAny (model prog w) A (getAttr o f true) Q E s₁) E s) : wpAny (model prog w) A (eval (.Attribute e f pos) env) Q E s :=
  Attribute_any_ h (by rw [arm_eval_Attribute, hb])
end

/-! ### readings and rules -/
/-- e.f, an attribute of the instance -/
def tFld (K : PySem.W.Frag) (ta : TE) (f : Str) : TE := fun σ H Q => ta σ H fun x H1 => ∃ a C dx fs v, x = .ref a ∧ H1 a = some (.ins C dx fs) ∧ Cls K C ∧ NoAttr K C f ∧ fs.lookup f = some v ∧ Q v H1
/-- e.f, a constant of the class -/
def tCon (K : PySem.W.Frag) (ta : TE) (f : Str) : TE := fun σ H Q => ta σ H fun x H1 => ∃ a C dx fs v u, x = .ref a ∧ H1 a = some (.ins C dx fs) ∧ Cls K C ∧ Con K C f v u ∧ fs.lookup f = none ∧ Q v H1
/-- e.f = value -/
def sFld (K : PySem.W.Frag) (ta tv : TE) (f : Str) : TS := fun D σ H => tv σ H fun y H1 => ta σ H1 fun x H2 => ∃ a C dx fs, x = .ref a ∧ H2 a = some (.ins C dx fs) ∧ Cls K C ∧ NoAttr K C f ∧ fs.length < 1000 ∧
  D.nx σ (upd H2 a (.ins C dx (putF f y fs)))
/-- an augmented operator on two values -/
def InOp (X : Cx) (op : Operator) (rd : V → V → Hp → VK → Prop) : Prop :=
  ∀ (pins : List (Addr × Obj)) (s : Shared) (σ : St) (H : Hp) (x y : V) (u v : Value) (Q : VK), Inv X pins σ H s → RelV x u → RelV y v → rd x y H Q → wpAny (model X.prog X.w) X.A (inplaceOp op u v) (EP X pins σ Q) X.xe s
/-- e.f op= value -/
def sFldAug (K : PySem.W.Frag) (ta tv : TE) (rd : V → V → Hp → VK → Prop) (f : Str) : TS := fun D σ H => ta σ H fun x H1 => ∃ a C dx fs v, x = .ref a ∧ H1 a = some (.ins C dx fs) ∧ Cls K C ∧ NoAttr K C f ∧ fs.lookup f = some v ∧
  tv σ H1 fun y H2 => rd v y H2 fun z H3 => ∃ dx' fs', H3 a = some (.ins C dx' fs') ∧ fs'.length < 1000 ∧ D.nx σ (upd H3 a (.ins C dx' (putF f z fs')))

section
variable {X : Cx} {o e value : Expr} {f : Str} {pos pos' tpos : Pos} {ta tv : TE}
theorem pe_fld (he : PE X e ta) (hb : attributeBase e f X.env (eval e X.env) = eval e X.env) : PE X (.Attribute e f pos) (tFld X.K ta f) := by
  intro pins s σ H Q I h
  refine attr_of hb (thn (he pins s σ H _ I h) fun u s1 ⟨x, H1, I1, rx, a, C, dx, fs, v, ex, ea, c, n, l, q⟩ => ?_)
  subst ex
  obtain rfl : u = Value.ref a := rx
  exact getattr_ok I1 ea c n l fun u' s2 I2 ru => ⟨v, H1, I2, ru, q⟩
theorem pe_con (he : PE X e ta) (hb : attributeBase e f X.env (eval e X.env) = eval e X.env) : PE X (.Attribute e f pos) (tCon X.K ta f) := by
  intro pins s σ H Q I h
  refine attr_of hb (thn (he pins s σ H _ I h) fun u s1 ⟨x, H1, I1, rx, a, C, dx, fs, v, u0, ex, ea, c, k, l, q⟩ => ?_)
  subst ex
  obtain rfl : u = Value.ref a := rx
  exact getcon_ok I1 ea c k l fun s2 I2 => ⟨v, H1, I2, k.rel, q⟩
theorem ps_fld (ha : PE X o ta) (hv : PE X value tv) (hs : swapsWith value (some (.Attribute o f pos')) pos.line X.env = pure false) : PS X (.Assign [.Attribute o f pos'] value pos) (sFld X.K ta tv f) := by
  intro pins s σ H D I h
  refine plainObj_wpAny_Assign_Attribute (thn (hv pins s σ H _ I h) fun u s1 ⟨y, H1, I1, ry, q⟩ => thn (ha pins s1 σ H1 _ I1 q) fun ov s2 ⟨x, H2, I2, rx, a, C, dx, fs, ex, ea, c, n, l, q2⟩ => ?_) hs
  subst ex
  obtain rfl : ov = Value.ref a := rx
  exact setattr_ok I2 ea c n l ry fun s3 I3 => ⟨σ, _, I3, q2⟩
theorem ps_fldaug {op : Operator} {rd : V → V → Hp → VK → Prop} (ha : PE X o ta) (hv : PE X value tv) (hop : InOp X op rd) : PS X (.AugAssign (.Attribute o f tpos) op value pos) (sFldAug X.K ta tv rd f) := by
  intro pins s σ H D I h
  refine wpAny_AugAssign_AttributeAny (thn (ha pins s σ H _ I h) fun ov s1 ⟨x, H1, I1, rx, a, C, dx, fs, v, ex, ea, c, n, l, q⟩ => ?_)
  subst ex
  obtain rfl : ov = Value.ref a := rx
  refine getattr_ok I1 ea c n l fun u s2 I2 ru => thn (hv pins s2 σ H1 _ I2 q) fun w3 s3 ⟨y, H2, I3, ry, q3⟩ => thn (hop pins s3 σ H2 v y u w3 _ I3 ru ry q3) fun w4 s4 ⟨z, H3, I4, rz, dx', fs', ea', l', q4⟩ => ?_
  exact setattr_ok I4 ea' c n l' rz fun s5 I5 => ⟨σ, _, I5, q4⟩
def rAdd : V → V → Hp → VK → Prop := fun x y H Q => ∃ i j, x = .int i ∧ y = .int j ∧ Q (.int (i + j)) H
def rSub : V → V → Hp → VK → Prop := fun x y H Q => ∃ i j, x = .int i ∧ y = .int j ∧ Q (.int (i - j)) H
theorem in_add : InOp X .Add rAdd := by
  rintro pins s σ H x y u v Q I rx ry ⟨i, j, rfl, rfl, q⟩
  obtain ⟨t, rfl⟩ := (show ∃ t, u = Value.int i t from rx)
  obtain ⟨t', rfl⟩ := (show ∃ t', v = Value.int j t' from ry)
  exact PyProof.Rows.iadd_int ⟨.int (i + j), H, I.tok _, ⟨_, rfl⟩, q⟩
theorem in_sub : InOp X .Sub rSub := by
  rintro pins s σ H x y u v Q I rx ry ⟨i, j, rfl, rfl, q⟩
  obtain ⟨t, rfl⟩ := (show ∃ t, u = Value.int i t from rx)
  obtain ⟨t', rfl⟩ := (show ∃ t', v = Value.int j t' from ry)
  exact PyProof.Rows.isub_int ⟨.int (i - j), H, I.tok _, ⟨_, rfl⟩, q⟩

/-- what is between an instance and its method: the tree of a method call -/
theorem methcall_of {pl : Sem Bool} {m : Str} {apos : Pos} {args : List Expr} {pins : List (Addr × Obj)} {s : Shared} {σ : St} {H : Hp} {Q : Value → Shared → Prop} {te : TE} (he : PE X e te) (I : Inv X pins σ H s)
    (h : te σ H fun x H1 => ∃ a C dx fs g, x = .ref a ∧ H1 a = some (.ins C dx fs) ∧ Cls X.K C ∧ Meth X.K C m g ∧ fs.lookup m = none ∧
      ∀ s1, Inv X pins σ H1 s1 → wpAny (model X.prog X.w) X.A (callWith pos (.ref g) [.ref a] (backTo pos (starEach args X.env)) (backToKw pos (keywordEach [] X.env))) Q X.xe s1)
    (ht : eval (.Call (.Attribute e m apos) args [] pos) X.env = (do
      let ov ← eval e X.env
      standAt apos.atName
      let (f, first) ← holding [ov] (getMethod ov m pl)
      callWith pos f first (backTo pos (starEach args X.env)) (backToKw pos (keywordEach [] X.env)))) :
    wpAny (model X.prog X.w) X.A (eval (.Call (.Attribute e m apos) args [] pos) X.env) Q X.xe s := by
  refine PySem.W.methodCall_KW (pl := pl) (thn (he pins s σ H _ I h) fun u s1 ⟨x, H1, I1, rx, a, C, dx, fs, g, ex, ea, c, k, l, q⟩ => ?_) ht
  subst ex
  obtain rfl : u = Value.ref a := rx
  exact getmeth_ok I1 ea c k l (q s1 I1)
end

/-! ### isinstance -/
section
variable {X : Cx} {pins : List (Addr × Obj)} {σ : St} {H : Hp} {s : Shared} {A : Around} {E : Value → Shared → Prop} {Q : Value → Shared → Prop} {c : Value} {b : Bool}
/-- the type of a value, as the fragment's deciders take it; for an instance its class -/
inductive TyOf (K : PySem.W.Frag) (H : Hp) : V → Value → Prop where
  | non : TyOf K H .non (.type "NoneType")
  | bl (x : Bool) : TyOf K H (.bl x) (.type "bool")
  | int (i : Int) : TyOf K H (.int i) (.type "int")
  | str (x : Str) : TyOf K H (.str x) (.type "str")
  | flt (x : UInt64) : TyOf K H (.flt x) (.type "float")
  | lst {a : Addr} {xs : List V} (e : H a = some (.lst xs)) : TyOf K H (.ref a) (.type "list")
  | frz {a : Addr} {o : Obj} {xs : List V} (e : H a = some (.frz o (.lst xs))) : TyOf K H (.ref a) (.type "list")
  | tup {a : Addr} {xs : List V} (e : H a = some (.tup xs)) : TyOf K H (.ref a) (.type "tuple")
  | dK {a : Addr} {kvs : List (Key × V)} (e : H a = some (.dK kvs)) : TyOf K H (.ref a) (.type "dict")
  | dT {a : Addr} {kvs : List (List Key × V)} (e : H a = some (.dT kvs)) : TyOf K H (.ref a) (.type "dict")
  | ins {a C dx : Addr} {fs : List (Str × V)} (e : H a = some (.ins C dx fs)) (cl : Cls K C) (ha : PySem.W.findIn K (.ref C) "__class__" = some (some (.builtin "object.__class__")))
      (hn : PySem.W.specialIn K (.builtin "object.__class__") "__get__" = some (some (.builtin "getset_descriptor.__get__"))) (htk : PySem.W.takesIn K (.builtin "object.__class__") = some true)
      (hm : PySem.W.mroIn K C (.type "object") = some true) : TyOf K H (.ref a) (.ref C)
/-- isinstance(x, c) for one class c, a built-in or an own one: kitOne's answer -/
theorem isinst_ok {x : V} {u t : Value} (I : Inv X pins σ H s) (rx : RelV x u) (ty : TyOf X.K H x t) (e : PySem.W.kitOne X.K t c = some b) (h : ∀ tk, Q (.bool b) { s with toks := tk }) :
    wpAny (model X.prog X.w) A (call (.builtin "isinstance") [u, c]) Q E s := by
  cases ty with
  | non => cases (show u = Value.none from rx); exact PySem.W.kia_one PySem.W.kitx_none I.kIn True.intro e (fun z => nomatch z) h
  | bl y => cases (show u = Value.bool y from rx); exact PySem.W.kia_one PySem.W.kitx_bool I.kIn True.intro e (fun z => nomatch z) h
  | int i => obtain ⟨t, q⟩ := (show ∃ t, u = Value.int i t from rx); cases q; exact PySem.W.kia_one PySem.W.kitx_int I.kIn True.intro e (fun z => nomatch z) h
  | str y => obtain ⟨t, q⟩ := (show ∃ t, u = Value.str y t from rx); cases q; exact PySem.W.kia_one PySem.W.kitx_str I.kIn True.intro e (fun z => nomatch z) h
  | flt y => obtain ⟨t, q⟩ := (show ∃ t, u = Value.float y t from rx); cases q; exact PySem.W.kia_one PySem.W.kitx_float I.kIn True.intro e (fun z => nomatch z) h
  | @lst a xs ea =>
    cases (show u = Value.ref a from rx)
    obtain ⟨_, _, n, _, h1⟩ := (show ObjOk X.prog X.w H s.heap a (.lst xs) from I.hok a _ ea)
    exact PySem.W.kia_one PySem.W.kitx_list I.kIn ⟨_, h1, rfl⟩ e (fun z => nomatch z) h
  | @frz a ob xs ea =>
    cases (show u = Value.ref a from rx)
    obtain ⟨_, _, _, n, _, h1⟩ := (show ObjOk X.prog X.w H s.heap a (.frz ob (.lst xs)) from I.hok a _ ea)
    exact PySem.W.kia_one PySem.W.kitx_list I.kIn ⟨_, h1, rfl⟩ e (fun z => nomatch z) h
  | @tup a xs ea =>
    cases (show u = Value.ref a from rx)
    obtain ⟨_, _, _, p⟩ := (show ObjOk X.prog X.w H s.heap a (.tup xs) from I.hok a _ ea)
    obtain ⟨o, h1, h2, _⟩ := p
    exact PySem.W.kia_one PySem.W.kitx_tuple I.kIn ⟨o, h1, h2⟩ e (fun z => nomatch z) h
  | @dK a kvs ea =>
    cases (show u = Value.ref a from rx)
    obtain ⟨_, _, vs, _, p⟩ := (show ObjOk X.prog X.w H s.heap a (.dK kvs) from I.hok a _ ea)
    obtain ⟨o, es, ep, h1, h2, _⟩ := p
    exact PySem.W.kia_one PySem.W.kitx_dict I.kIn ⟨o, h1, h2.1⟩ e (fun z => nomatch z) h
  | @dT a kvs ea =>
    cases (show u = Value.ref a from rx)
    obtain ⟨_, _, xs, _, o, es, ep, h1, h2, _⟩ := (show ObjOk X.prog X.w H s.heap a (.dT kvs) from I.hok a _ ea)
    exact PySem.W.kia_one PySem.W.kitx_dict I.kIn ⟨o, h1, h2.1⟩ e (fun z => nomatch z) h
  | @ins a C dx fs ea cl ha hn htk hm =>
    cases (show u = Value.ref a from rx)
    obtain ⟨mA, O, _⟩ := ins_get I.hok ea
    obtain ⟨od, J, _⟩ := O.look
    exact PySem.W.kia_one (PySem.W.kitx_own (cl.get _) cl.hd ha hn htk hm) I.kIn J e (fun z => nomatch z) h
end
end L2

namespace L2
open PySem PySem.Spec PyProof.Rows

/-! ### room -/
structure Room (k : Nat) (A : Around) : Prop where
  hd : A.handled = none
  dp : A.depth + 3 * k + 5 < recursionLimit
  un : A.units + 16 * k + 200 < cLine
theorem Room.mono {j k : Nat} {A : Around} (r : Room k A) (h : j ≤ k) : Room j A := ⟨r.hd, by have := r.dp; omega, by have := r.un; omega⟩
theorem Room.deeper {k : Nat} {A : Around} (r : Room (k + 1) A) (env : Env) : Room k (A.deeper env) :=
  ⟨r.hd, by have := r.dp; show A.depth + 1 + 3 * k + 5 < _; omega, by have := r.un; show A.units + 3 + 16 * k + 200 < _; omega⟩
theorem Room.in1 {k : Nat} {A : Around} (r : Room (k + 1) A) : Room k A.in1 :=
  ⟨r.hd, by have := r.dp; show A.depth + 3 * k + 5 < _; omega, by have := r.un; show A.units + 1 + 16 * k + 200 < _; omega⟩
theorem make_depth {A : Around} {C : Addr} {us : List Value} {kw : List (Str × Value)} : (A.under (.builtin "type.__call__" ⟨.ref C :: us, kw⟩)).depth = A.depth + 1 := by
  first | rfl | simp [Around.under, Code.weight, Code.isCreation, Code.isGuard, Code.isCaller, Code.frames, Code.isFrame, guardIds]
theorem make_units {A : Around} {C : Addr} {us : List Value} {kw : List (Str × Value)} : (A.under (.builtin "type.__call__" ⟨.ref C :: us, kw⟩)).units = A.units + 1 := by
  first | rfl | simp [Around.under, Code.cUnits, Code.frames, Code.isFrame]
theorem Room.make {k : Nat} {A : Around} (r : Room (k + 1) A) (C : Addr) (us : List Value) (kw : List (Str × Value)) : Room k (A.under (.builtin "type.__call__" ⟨.ref C :: us, kw⟩)) :=
  ⟨r.hd, by have := r.dp; rw [make_depth]; omega, by have := r.un; rw [make_units]; omega⟩
theorem Room.depth {k : Nat} {A : Around} (r : Room k A) : A.depth < recursionLimit := by have := r.dp; omega
theorem Room.units {k : Nat} {A : Around} (r : Room k A) : A.units + 64 < cLine := by have := r.un; omega
theorem Room.units0 {k : Nat} {A : Around} (r : Room k A) : A.units < cLine := by have := r.un; omega

/-! ### argument lists and displays -/
def tNil : TA := fun _ H Q => Q [] H
def tCons (ta : TE) (tr : TA) : TA := fun σ H Q => ta σ H fun x H1 => tr σ H1 fun xs H2 => Q (x :: xs) H2
section
variable {X : Cx} {e : Expr} {es : List Expr} {te : TE} {t : TA} {pos : Pos}
theorem pa_nil : PA X [] tNil := fun _ _ _ _ H Q I h => Calls.spliced_nil ⟨[], H, I, .nil, h⟩
theorem pa_cons (ha : PE X e te) (hr : PA X es t) (hs : starEach (e :: es) X.env = (false, eval e X.env) :: starEach es X.env := by rfl) : PA X (e :: es) (tCons te t) := by
  intro pos pins s σ H Q I h
  rw [hs]
  show wpAny _ _ (spliced ((false, eval e X.env) :: backTo pos (starEach es X.env))) _ _ s
  refine Calls.spliced_cons (thn (ha pins s σ H _ I h) fun u s1 ⟨x, H1, I1, r1, q1⟩ => ?_)
  exact thn (hr pos pins s1 σ H1 _ I1 q1) fun us s2 ⟨xs, H2, I2, r2, q2⟩ => ⟨x :: xs, H2, I2, .cons r1 r2, q2⟩

/-- a tuple, a list of written items -/
def tTup (t : TA) : TE := fun σ H Q => t σ H fun xs H1 => xs.length ≤ sizeLine ∧ ∀ p, H1 p = none → Q (.ref p) (upd H1 p (.tup xs))
def tLst (t : TA) : TE := fun σ H Q => t σ H fun xs H1 => xs.length ≤ sizeLine ∧ ∀ p, H1 p = none → Q (.ref p) (upd H1 p (.lst xs))
theorem pe_tup {x1} (h : PA X es t) : PE X (.Tuple es x1 pos) (tTup t) := by
  intro pins s σ H Q I hq
  refine wpAny_Tuple_spliced (thn (h pos pins s σ H _ I hq) fun us s1 ⟨xs, H1, I1, r, z, q⟩ => ⟨by rw [← r.length]; exact z, ?_⟩)
  have hf : H1 s1.heap.objs.size = none := I1.hok.fresh (Nat.le_refl _)
  refine ⟨.ref s1.heap.objs.size, upd H1 s1.heap.objs.size (.tup xs), I1.laid (t' := s1.toks) (fun b u e => Heap.get?_push_of_some _ e) (Nat.le_refl _) ?_, rfl, q _ hf⟩
  exact ⟨z, us, r, ⟨_, Heap.get?_push_size _ rfl, rfl, _, rfl⟩⟩
theorem pe_lst (h : PA X es t) : PE X (.List es pos) (tLst t) := by
  intro pins s σ H Q I hq
  refine wpAny_List_spliced (thn (h pos pins s σ H _ I hq) fun us s1 ⟨xs, H1, I1, r, z, q⟩ => ⟨by rw [← r.length]; exact z, ?_⟩)
  have hf : H1 s1.heap.objs.size = none := I1.hok.fresh (Nat.le_refl _)
  refine ⟨.ref s1.heap.objs.size, upd H1 s1.heap.objs.size (.lst xs), I1.laid (t' := s1.toks) (fun b u e => Heap.get?_push_of_some _ e) (Nat.le_refl _) ?_, rfl, q _ hf⟩
  exact ⟨z, us, 0, r, Heap.get?_push_size _ rfl⟩
end

/-! ### what a def promises -/
/-- a def's promise: the bound arguments in the parameters' order, the heap, the wanted end, the wanted exception -/
abbrev Sp := List V → Hp → VK → XK → Prop
/-- how an exception lies behind a call (file 08 gives it): the callers' frames, abstract heap and state ahead of the call, the wish, the exception, the state -/
abbrev CXT := List Env → Hp → Shared → XK → Value → Shared → Prop

/-- the state at a call -/
structure Env0 (P : Program) (w : World) (K : PySem.W.Frag) (mg : Str → Option Value) (base : Heap) (A : Around) (outer : List Env) (s : Shared) (H : Hp) : Prop where
  frames : A.frames = some outer
  mod : Mod K mg base
  bs : ∀ b o, base.get? b = some o → s.heap.get? b = some o ∧ H b = none
  bsz : base.objs.size ≤ s.heap.objs.size
  funs : s.heap.FunFrames base outer
  frf : ∀ b ∈ frs outer, H b = none
  hok : HOk P w H s.heap
  bare : AllBare s.gens
/-- a call's end -/
def CE (outer : List Env) (P : Program) (w : World) (H : Hp) (s : Shared) (Q : VK) (u : Value) (s' : Shared) : Prop :=
  ∃ v H', s'.os = s.os ∧ AllBare s'.gens ∧ Un (frs outer) [] H H' s.heap s'.heap ∧ HOk P w H' s'.heap ∧ RelV v u ∧ Q v H'
def CR (CX : CXT) (outer : List Env) (P : Program) (w : World) (H : Hp) (s : Shared) (Q : VK) (E : XK) (r : Result) (s' : Shared) : Prop :=
  match r with
  | .ok (.ret u) => CE outer P w H s Q u s'
  | .ok _ => False
  | .error e => CX outer H s E e s'
structure FnOk (P : Program) (w : World) (K : PySem.W.Frag) (mg : Str → Option Value) (base : Heap) (CX : CXT) (k : Nat) (f : Addr) (fd : FuncData) (ps : List Str) (sp : Sp) : Prop where
  len : ∀ vs H Q E, sp vs H Q E → vs.length = ps.length
  run : ∀ (A : Around) (outer : List Env) (s : Shared) (H : Hp) (args : Args) (us : List Value) (vs : List V) (Q : VK) (E : XK), Room k A → Env0 P w K mg base A outer s H → BindsTo s fd args (ps.zip us) → Vals vs us → sp vs H Q E →
    codeAny (model P w) A (.call (.ref f) args) (CR CX outer P w H s Q E) s
theorem FnOk.mono {P : Program} {w : World} {K : PySem.W.Frag} {mg : Str → Option Value} {base : Heap} {CX : CXT} {j k : Nat} {f : Addr} {fd : FuncData} {ps : List Str} {sp : Sp} (F : FnOk P w K mg base CX j f fd ps sp) (h : j ≤ k) :
    FnOk P w K mg base CX k f fd ps sp := ⟨F.len, fun A outer s H args us vs Q E hr => F.run A outer s H args us vs Q E (hr.mono h)⟩
/-- a weaker promise -/
theorem FnOk.imp {P : Program} {w : World} {K : PySem.W.Frag} {mg : Str → Option Value} {base : Heap} {CX : CXT} {k : Nat} {f : Addr} {fd : FuncData} {ps : List Str} {sp sp' : Sp} (F : FnOk P w K mg base CX k f fd ps sp)
    (h : ∀ vs H Q E, sp' vs H Q E → sp vs H Q E) : FnOk P w K mg base CX k f fd ps sp' :=
  ⟨fun vs H Q E q => F.len vs H Q E (h _ _ _ _ q), fun A outer s H args us vs Q E hr he hb hv hs => F.run A outer s H args us vs Q E hr he hb hv (h _ _ _ _ hs)⟩

theorem Env0.make {P : Program} {w : World} {K : PySem.W.Frag} {mg : Str → Option Value} {base : Heap} {A : Around} {outer : List Env} {s : Shared} {H : Hp} (e : Env0 P w K mg base A outer s H) (C : Addr) (us : List Value) (kw : List (Str × Value)) :
    Env0 P w K mg base (A.under (.builtin "type.__call__" ⟨.ref C :: us, kw⟩)) outer s H := ⟨by first | exact e.frames | (simpa [Around.under, Code.envs, Code.isFrame, pushEnvs] using e.frames), e.mod, e.bs, e.bsz, e.funs, e.frf, e.hok, e.bare⟩
theorem Env0.in1 {P : Program} {w : World} {K : PySem.W.Frag} {mg : Str → Option Value} {base : Heap} {A : Around} {outer : List Env} {s : Shared} {H : Hp} (e : Env0 P w K mg base A outer s H) :
    Env0 P w K mg base A.in1 outer s H := ⟨e.frames, e.mod, e.bs, e.bsz, e.funs, e.frf, e.hok, e.bare⟩

section
variable {X : Cx} {pins : List (Addr × Obj)} {σ : St} {H : Hp} {s s' : Shared}
/-- from a body: what a callee wants -/
theorem Inv.env0 (I : Inv X pins σ H s) : Env0 X.prog X.w X.K X.mg X.base X.A X.stack s H :=
  ⟨I.ok.frames, I.ok.mod, I.bs, Nat.le_trans I.ok.bsz I.sz, I.stack, I.stkFree, I.hok, I.bare⟩
/-- behind a call -/
theorem Inv.after {Q : VK} {u : Value} (I : Inv X pins σ H s) (h : CE X.stack X.prog X.w H s Q u s') : EP X pins σ Q u s' := by
  obtain ⟨v, H', os, bare, un, hok, r, q⟩ := h
  obtain ⟨hh, g, d, t, os'⟩ := s'
  obtain rfl : os' = s.os := os
  exact ⟨v, H', I.call (h' := hh) (g' := g) (d' := d) (t' := t) (ch := []) un hok bare (fun b z => absurd z (by simp)), r, q⟩
end

/-! ### calls -/
/-- f(..): the written arguments, then the defaults dvs; E: what is wanted of an exception -/
def tCall (sp : Sp) (dvs : List V) (E : XK) (t : TA) : TE := fun σ H Q => t σ H fun vs H1 => sp (vs ++ dvs) H1 Q E
/-- o.m(..) of an instance of the class at C -/
def tMeth (C : Addr) (m : Str) (sp : Sp) (dvs : List V) (E : XK) (ta : TE) (t : TA) : TE := fun σ H Q => ta σ H fun x H1 => ∃ a dx fs, x = .ref a ∧ H1 a = some (.ins C dx fs) ∧ fs.lookup m = none ∧
  t σ H1 fun vs H2 => sp (x :: (vs ++ dvs)) H2 Q E
/-- C(..): a new instance and its dict, then __init__ -/
def tMake (C : Addr) (sp : Sp) (dvs : List V) (E : XK) (t : TA) : TE := fun σ H Q => t σ H fun vs H1 => ∀ x dx, H1 x = none → H1 dx = none → dx ≠ x →
  sp (.ref x :: (vs ++ dvs)) (upd (upd H1 dx (.own x)) x (.ins C dx [])) (fun v H2 => v = .non ∧ Q (.ref x) H2) E

/-- how the parameters are bound: us the positional arguments, kw the keywords' values by name, ds the defaults that fill up -/
def Binds (K : PySem.W.Frag) (fd : FuncData) (ps : List Str) (ds : List Value) : Prop :=
  ∀ (s : Shared) (us : List Value), K.In s.heap → (us ++ ds).length = ps.length → BindsTo s fd ⟨us, []⟩ (ps.zip (us ++ ds))
/-- every parameter is given -/
theorem Binds.all {K : PySem.W.Frag} {fd : FuncData} {ps : List Str} (h : ∀ us : List Value, us.length = ps.length → bindArgs fd ⟨us, []⟩ = pure (ps.zip us)) : Binds K fd ps [] := fun s us _ hl => by
  rw [List.append_nil] at hl ⊢
  exact .of_eq (h us hl)

/-- an exception of a callee reaches what this body wants of exceptions -/
def Passes (CX : CXT) (X : Cx) (E : XK) : Prop := ∀ (pins : List (Addr × Obj)) (σ : St) (H : Hp) (s : Shared) (e : Value) (s' : Shared), Inv X pins σ H s → CX X.stack H s E e s' → X.xe e s'

section
variable {X : Cx} {CX : CXT} {k : Nat} {f C : Addr} {fd : FuncData} {ps : List Str} {sp : Sp} {dvs : List V} {ds : List Value} {E : XK} {x m : Str} {p pos apos : Pos} {e o : Expr} {es : List Expr} {ta : TE} {t : TA}

/-- the callee runs -/
theorem run_fn {pins : List (Addr × Obj)} {σ : St} {H : Hp} {s : Shared} {Q : VK} {us : List Value} {vs : List V} (F : FnOk X.prog X.w X.K X.mg X.base CX k f fd ps sp) (hr : Room k X.A) (hb : Binds X.K fd ps ds) (hd : Vals dvs ds) (hx : Passes CX X E)
    (I : Inv X pins σ H s) (r : Vals vs us) (h : sp (vs ++ dvs) H Q E) : wpAny (model X.prog X.w) X.A (call (.ref f) us) (EP X pins σ Q) X.xe s := by
  have r2 : Vals (vs ++ dvs) (us ++ ds) := r.append hd
  have hl : (us ++ ds).length = ps.length := by rw [← r2.length]; exact F.len _ _ _ _ h
  refine wpAny_call (codeAny_mono (F.run X.A X.stack s H ⟨us, []⟩ (us ++ ds) (vs ++ dvs) Q E hr I.env0 (hb s us I.kIn hl) r2 h) fun r s' hq => ?_)
  cases r with
  | error e => exact hx pins σ H s e s' I hq
  | ok fl =>
    cases fl with
    | ret u => exact I.after hq
    | next => exact False.elim hq
    | brk => exact False.elim hq
    | cont => exact False.elim hq

theorem pe_call (F : FnOk X.prog X.w X.K X.mg X.base CX k f fd ps sp) (hr : Room k X.A) (hg : Gl X x) (hm : X.mg x = some (.ref f)) (hk : PySem.W.keepIn X.K (.ref f) = true) (hb : Binds X.K fd ps ds) (hd : Vals dvs ds) (hx : Passes CX X E)
    (ha : PA X (e :: es) t) (hdb : (x == ("__debug__" : Str)) = false := by decide) (he : starEach (e :: es) X.env = (false, eval e X.env) :: starEach es X.env := by rfl) (hpl : (backTo pos (starEach es X.env)).any (·.1) = false := by rfl) :
    PE X (.Call (.Name x p) (e :: es) [] pos) (tCall sp dvs E t) := by
  intro pins s σ H Q I h
  refine wpAny_Call_Name_kw (ld_glob I hg hm ?_ hdb)
  refine PySem.W.callWith_K (h₀ := X.base) I.ok.mod.kin hk (thn (ha pos pins s σ H _ I h) fun us s1 ⟨vs, H1, I1, r, q⟩ => ⟨I1.kIn, ?_⟩) he hpl
  exact run_fn F hr hb hd hx I1 r q
theorem pe_call0 (F : FnOk X.prog X.w X.K X.mg X.base CX k f fd ps sp) (hr : Room k X.A) (hg : Gl X x) (hm : X.mg x = some (.ref f)) (hk : PySem.W.keepIn X.K (.ref f) = true) (hb : Binds X.K fd ps ds) (hd : Vals dvs ds) (hx : Passes CX X E)
    (hdb : (x == ("__debug__" : Str)) = false := by decide) : PE X (.Call (.Name x p) [] [] pos) (tCall sp dvs E tNil) := by
  intro pins s σ H Q I h
  refine wpAny_Call_Name_kw (ld_glob I hg hm ?_ hdb)
  exact PySem.W.callWith_K0 I.kIn hk (run_fn (us := []) F hr hb hd hx I .nil h)

/-- o.m(e, ..) -/
theorem pe_meth {pl : Sem Bool} (he : PE X o ta) (c : Cls X.K C) (hm : Meth X.K C m f) (F : FnOk X.prog X.w X.K X.mg X.base CX k f fd ps sp) (hr : Room k X.A) (hb : Binds X.K fd ps ds) (hd : Vals dvs ds) (hx : Passes CX X E) (ha : PA X (e :: es) t)
    (hst : starEach (e :: es) X.env = (false, eval e X.env) :: starEach es X.env := by rfl) (hpl : (backTo pos (starEach es X.env)).any (·.1) = false := by rfl)
    (ht : eval (.Call (.Attribute o m apos) (e :: es) [] pos) X.env = (do
      let ov ← eval o X.env
      standAt apos.atName
      let (f, first) ← holding [ov] (getMethod ov m pl)
      callWith pos f first (backTo pos (starEach (e :: es) X.env)) (backToKw pos (keywordEach [] X.env))) := by rfl) :
    PE X (.Call (.Attribute o m apos) (e :: es) [] pos) (tMeth C m sp dvs E ta t) := by
  intro pins s σ H Q I h
  refine PySem.W.methodCall_KW (pl := pl) (thn (he pins s σ H _ I h) fun u s1 ⟨x, H1, I1, rx, a, dx, fs, ex, ea, l, q⟩ => ?_) ht
  subst ex
  obtain rfl : u = Value.ref a := rx
  refine getmeth_ok I1 ea c hm l ?_
  refine PySem.W.callWith_K (first := [.ref a]) (h₀ := X.base) I.ok.mod.kin hm.kp (thn (ha pos pins s1 σ H1 _ I1 q) fun us s2 ⟨vs, H2, I2, r, q2⟩ => ⟨I2.kIn, ?_⟩) hst hpl
  exact run_fn (us := .ref a :: us) (vs := .ref a :: vs) F hr hb hd hx I2 (.cons rfl r) q2
/-- o.m() -/
theorem pe_meth0 {pl : Sem Bool} (he : PE X o ta) (c : Cls X.K C) (hm : Meth X.K C m f) (F : FnOk X.prog X.w X.K X.mg X.base CX k f fd ps sp) (hr : Room k X.A) (hb : Binds X.K fd ps ds) (hd : Vals dvs ds) (hx : Passes CX X E)
    (ht : eval (.Call (.Attribute o m apos) [] [] pos) X.env = (do
      let ov ← eval o X.env
      standAt apos.atName
      let (f, first) ← holding [ov] (getMethod ov m pl)
      callWith pos f first (backTo pos (starEach [] X.env)) (backToKw pos (keywordEach [] X.env))) := by rfl) :
    PE X (.Call (.Attribute o m apos) [] [] pos) (tMeth C m sp dvs E ta tNil) := by
  intro pins s σ H Q I h
  refine PySem.W.methodCall_KW (pl := pl) (thn (he pins s σ H _ I h) fun u s1 ⟨x, H1, I1, rx, a, dx, fs, ex, ea, l, q⟩ => ?_) ht
  subst ex
  obtain rfl : u = Value.ref a := rx
  refine getmeth_ok I1 ea c hm l ?_
  exact PySem.W.callWith_K0 (first := [.ref a]) I1.kIn hm.kp (run_fn (us := [.ref a]) (vs := [.ref a]) F hr hb hd hx I1 (.cons rfl .nil) q)

/-- what a class must have to be made -/
structure Mk (K : PySem.W.Frag) (C f : Addr) : Prop where
  makes : PySem.W.makesIn K C = true
  init : PySem.W.findIn K (.ref C) "__init__" = some (some (.ref f))
  fn : PySem.W.isFn K (.ref f) = true
  kp : PySem.W.keepIn K (.ref C) = true

theorem run_make {pins : List (Addr × Obj)} {σ : St} {H : Hp} {s : Shared} {Q : VK} {us : List Value} {vs : List V} (M : Mk X.K C f) (F : FnOk X.prog X.w X.K X.mg X.base CX k f fd ps sp) (hr : Room (k + 1) X.A) (hb : Binds X.K fd ps ds) (hd : Vals dvs ds)
    (hx : Passes CX X E) (I : Inv X pins σ H s) (r : Vals vs us)
    (h : ∀ x dx, H x = none → H dx = none → dx ≠ x → sp (.ref x :: (vs ++ dvs)) (upd (upd H dx (.own x)) x (.ins C dx [])) (fun v H2 => v = .non ∧ Q (.ref x) H2) E) :
    wpAny (model X.prog X.w) X.A (call (.ref C) us) (EP X pins σ Q) X.xe s := by
  have hq := h (s.heap.objs.size + 1) s.heap.objs.size (I.hok.fresh (Nat.le_succ _)) (I.hok.fresh (Nat.le_refl _)) (Nat.ne_of_lt (Nat.lt_succ_self _))
  have I2 := Inv.made (C := C) I
  have r2 : Vals (V.ref (s.heap.objs.size + 1) :: (vs ++ dvs)) (Value.ref (s.heap.objs.size + 1) :: (us ++ ds)) := .cons rfl (r.append hd)
  have hl : (Value.ref (s.heap.objs.size + 1) :: us ++ ds).length = ps.length := by
    have e := r2.length
    rw [F.len _ _ _ _ hq] at e
    exact e.symm
  refine wpAny_call (make_map (f := f) I.kIn M.makes M.init (beq_iff_eq.mp M.fn) (codeAny_mono (F.run _ X.stack _ _ ⟨Value.ref (s.heap.objs.size + 1) :: us, []⟩ (Value.ref (s.heap.objs.size + 1) :: (us ++ ds)) _ _ E (hr.make C us [])
    (I2.env0.make C us []) (hb _ (Value.ref (s.heap.objs.size + 1) :: us) I2.kIn hl) r2 hq) fun r s' hq' => ?_))
  cases r with
  | error e => exact hx pins σ _ _ e s' I2 hq'
  | ok fl =>
    cases fl with
    | ret u =>
      obtain ⟨v, H', I3, rv, ev, q3⟩ := I2.after hq'
      subst ev
      exact ⟨rv, ⟨V.ref (s.heap.objs.size + 1), H', I3, rfl, q3⟩⟩
    | next => exact False.elim hq'
    | brk => exact False.elim hq'
    | cont => exact False.elim hq'
theorem pe_make (M : Mk X.K C f) (F : FnOk X.prog X.w X.K X.mg X.base CX k f fd ps sp) (hr : Room (k + 1) X.A) (hg : Gl X x) (hm : X.mg x = some (.ref C)) (hb : Binds X.K fd ps ds) (hd : Vals dvs ds) (hx : Passes CX X E)
    (ha : PA X (e :: es) t) (hdb : (x == ("__debug__" : Str)) = false := by decide) (he : starEach (e :: es) X.env = (false, eval e X.env) :: starEach es X.env := by rfl) (hpl : (backTo pos (starEach es X.env)).any (·.1) = false := by rfl) :
    PE X (.Call (.Name x p) (e :: es) [] pos) (tMake C sp dvs E t) := by
  intro pins s σ H Q I h
  refine wpAny_Call_Name_kw (ld_glob I hg hm ?_ hdb)
  refine PySem.W.callWith_K (h₀ := X.base) I.ok.mod.kin M.kp (thn (ha pos pins s σ H _ I h) fun us s1 ⟨vs, H1, I1, r, q⟩ => ⟨I1.kIn, ?_⟩) he hpl
  exact run_make M F hr hb hd hx I1 r q
theorem pe_make0 (M : Mk X.K C f) (F : FnOk X.prog X.w X.K X.mg X.base CX k f fd ps sp) (hr : Room (k + 1) X.A) (hg : Gl X x) (hm : X.mg x = some (.ref C)) (hb : Binds X.K fd ps ds) (hd : Vals dvs ds) (hx : Passes CX X E)
    (hdb : (x == ("__debug__" : Str)) = false := by decide) : PE X (.Call (.Name x p) [] [] pos) (tMake C sp dvs E tNil) := by
  intro pins s σ H Q I h
  refine wpAny_Call_Name_kw (ld_glob I hg hm ?_ hdb)
  exact PySem.W.callWith_K0 I.kIn M.kp (run_make (us := []) M F hr hb hd hx I .nil h)
end

/-! ### keywords -/
/-- the values of the keywords, from the left -/
def PK (X : Cx) (kws : List Keyword) (t : TA) : Prop :=
  ∀ (pos : Pos) (pins : List (Addr × Obj)) (s : Shared) (σ : St) (H : Hp) (Q : List V → Hp → Prop), Inv X pins σ H s → t σ H Q → wpAny (model X.prog X.w) X.A (evalAll ((backToKw pos (keywordEach kws X.env)).map (·.2))) (AP X pins σ Q) X.xe s
section
variable {X : Cx} {CX : CXT} {k : Nat} {f C : Addr} {fd : FuncData} {ps ks : List Str} {sp : Sp} {E : XK} {x m : Str} {p pos apos kpos : Pos} {e o : Expr} {es : List Expr} {kws : List Keyword} {te ta : TE} {t tk : TA} {nm : Option Str}
theorem pk_nil : PK X [] tNil := fun _ _ _ _ H Q I h => wpAny_evalAll_nil ⟨[], H, I, .nil, h⟩
theorem pk_cons (ha : PE X e te) (hr : PK X kws t) : PK X (⟨nm, e, kpos⟩ :: kws) (tCons te t) := by
  intro pos pins s σ H Q I h
  show wpAny _ _ (evalAll ((do let v ← eval e X.env; standAt pos; pure v) :: (backToKw pos (keywordEach kws X.env)).map (·.2))) _ _ s
  refine wpAny_evalAll_cons (wpAny_bind (thn (ha pins s σ H _ I h) fun u s1 ⟨x, H1, I1, r1, q1⟩ => wpAny_bind (wpAny_standAt (wpAny_pure ?_))))
  exact thn (hr pos pins s1 σ H1 _ I1 q1) fun us s2 ⟨xs, H2, I2, r2, q2⟩ => ⟨x :: xs, H2, I2, .cons r1 r2, q2⟩

/-- how a call with keywords binds: g puts the positional values us and the keywords' values ws (names ks) in the parameters' order, defaults among them -/
structure KBinds (K : PySem.W.Frag) (fd : FuncData) (ps ks : List Str) (g : List Value → List Value → List Value) (gV : List V → List V → List V) : Prop where
  to : ∀ (s : Shared) (us ws : List Value), K.In s.heap → (g us ws).length = ps.length → BindsTo s fd ⟨us, ks.zip ws⟩ (ps.zip (g us ws))
  rel : ∀ {vs : List V} {us : List Value} {zs : List V} {ws : List Value}, Vals vs us → Vals zs ws → Vals (gV vs zs) (g us ws)
def tCallK (sp : Sp) (gV : List V → List V → List V) (E : XK) (t tk : TA) : TE := fun σ H Q => t σ H fun vs H1 => tk σ H1 fun zs H2 => sp (gV vs zs) H2 Q E
variable {g : List Value → List Value → List Value} {gV : List V → List V → List V}
theorem run_fnk {pins : List (Addr × Obj)} {σ : St} {H : Hp} {s : Shared} {Q : VK} {us ws : List Value} {vs zs : List V} (F : FnOk X.prog X.w X.K X.mg X.base CX k f fd ps sp) (hr : Room k X.A) (hb : KBinds X.K fd ps ks g gV) (hx : Passes CX X E)
    (I : Inv X pins σ H s) (r : Vals vs us) (rz : Vals zs ws) (h : sp (gV vs zs) H Q E) : wpAny (model X.prog X.w) X.A (call (.ref f) us (ks.zip ws)) (EP X pins σ Q) X.xe s := by
  have r2 := hb.rel r rz
  have hl : (g us ws).length = ps.length := by rw [← r2.length]; exact F.len _ _ _ _ h
  refine wpAny_call (codeAny_mono (F.run X.A X.stack s H ⟨us, ks.zip ws⟩ (g us ws) (gV vs zs) Q E hr I.env0 (hb.to s us ws I.kIn hl) r2 h) fun r s' hq => ?_)
  cases r with
  | error e => exact hx pins σ H s e s' I hq
  | ok fl =>
    cases fl with
    | ret u => exact I.after hq
    | next => exact False.elim hq
    | brk => exact False.elim hq
    | cont => exact False.elim hq
/-- f(e, .., k = v, ..) -/
theorem pe_callK (F : FnOk X.prog X.w X.K X.mg X.base CX k f fd ps sp) (hr : Room k X.A) (hg : Gl X x) (hm : X.mg x = some (.ref f)) (hk : PySem.W.keepIn X.K (.ref f) = true) (hb : KBinds X.K fd ps ks g gV) (hx : Passes CX X E)
    (ha : PA X (e :: es) t) (hkw : PK X kws tk) (hall : (backToKw pos (keywordEach kws X.env)).all (·.1.isSome) = true := by rfl) (hks : (backToKw pos (keywordEach kws X.env)).filterMap (·.1) = ks := by rfl)
    (hdb : (x == ("__debug__" : Str)) = false := by decide) (he : starEach (e :: es) X.env = (false, eval e X.env) :: starEach es X.env := by rfl)
    (hpl : ((backTo pos (starEach (e :: es) X.env)).any (·.1) || (backToKw pos (keywordEach kws X.env)).any (·.1.isNone)) = false := by rfl) :
    PE X (.Call (.Name x p) (e :: es) kws pos) (tCallK sp gV E t tk) := by
  intro pins s σ H Q I h
  refine wpAny_Call_Name_kw (ld_glob I hg hm ?_ hdb)
  refine PySem.W.callWith_KW (h₀ := X.base) I.ok.mod.kin hk hall (thn (ha pos pins s σ H _ I h) fun us s1 ⟨vs, H1, I1, r, q⟩ => ?_) hpl he
  refine thn (hkw pos pins s1 σ H1 _ I1 q) fun ws s2 ⟨zs, H2, I2, rz, q2⟩ => ⟨I2.kIn, ?_⟩
  rw [hks]
  exact run_fnk F hr hb hx I2 r rz q2
end

/-! ### a def's body keeps its promise -/
/-- names: the parameters first -/
structure FnScope (N P : List Str) (sc : Scope) : Prop where
  kind : sc.kind = .function
  co : sc.isCoroutine = false
  gen : sc.isGenerator = false
  nd : N.Nodup
  pre : N.take P.length = P
  par : ∀ x ∈ P, sc.names.lookup x = some .local ∨ sc.names.lookup x = some .cell
  nofree : ∀ y ∈ sc.names, y.2 ≠ .free

theorem bindL_out {kindOf : Str → Option NameKind} {x : Str} : ∀ {binds : List (Str × Value)} {m : Str → Option Value}, (∀ v, (x, v) ∉ binds) → bindL kindOf binds m x = m x
  | [], _, _ => rfl
  | (n, v) :: r, m, h => by
    unfold bindL
    rw [bindL_out fun w hw => h w (List.mem_cons_of_mem _ hw)]
    split
    · have : x ≠ n := by rintro rfl; exact h v List.mem_cons_self
      simp [this]
    · rfl
theorem bindC_out {kindOf : Str → Option NameKind} {x : Str} : ∀ {binds : List (Str × Value)} {m : Str → Option Value}, (∀ v, (x, v) ∉ binds) → bindC kindOf binds m x = m x
  | [], _, _ => rfl
  | (n, v) :: r, m, h => by
    unfold bindC
    rw [bindC_out fun w hw => h w (List.mem_cons_of_mem _ hw)]
    split
    · rfl
    · have : x ≠ n := by rintro rfl; exact h v List.mem_cons_self
      simp [this]
theorem bindL_get {kindOf : Str → Option NameKind} {x : Str} {v : Value} : ∀ {P : List Str} {vs : List Value} {i : Nat} {m : Str → Option Value}, P.Nodup → P[i]? = some x → vs[i]? = some v → kindOf x = some .local →
    bindL kindOf (P.zip vs) m x = some v
  | [], _, _, _, _, h, _, _ => by simp at h
  | _ :: _, [], _, _, _, _, h, _ => by simp at h
  | p :: P, w :: vs, 0, m, nd, h1, h2, hk => by
    simp at h1 h2; subst h1; subst h2
    show bindL kindOf ((p, w) :: P.zip vs) m p = _
    unfold bindL
    rw [bindL_out fun v hv => (List.nodup_cons.mp nd).1 (List.of_mem_zip hv).1, if_pos hk]
    simp
  | p :: P, w :: vs, i + 1, m, nd, h1, h2, hk => by
    show bindL kindOf ((p, w) :: P.zip vs) m x = _
    unfold bindL
    exact bindL_get (i := i) (List.nodup_cons.mp nd).2 (by simpa using h1) (by simpa using h2) hk
theorem bindC_get {kindOf : Str → Option NameKind} {x : Str} {v : Value} : ∀ {P : List Str} {vs : List Value} {i : Nat} {m : Str → Option Value}, P.Nodup → P[i]? = some x → vs[i]? = some v → kindOf x ≠ some .local →
    bindC kindOf (P.zip vs) m x = some v
  | [], _, _, _, _, h, _, _ => by simp at h
  | _ :: _, [], _, _, _, _, h, _ => by simp at h
  | p :: P, w :: vs, 0, m, nd, h1, h2, hk => by
    simp at h1 h2; subst h1; subst h2
    show bindC kindOf ((p, w) :: P.zip vs) m p = _
    unfold bindC
    rw [bindC_out fun v hv => (List.nodup_cons.mp nd).1 (List.of_mem_zip hv).1, if_neg hk]
    simp
  | p :: P, w :: vs, i + 1, m, nd, h1, h2, hk => by
    show bindC kindOf ((p, w) :: P.zip vs) m x = _
    unfold bindC
    exact bindC_get (i := i) (List.nodup_cons.mp nd).2 (by simpa using h1) (by simpa using h2) hk

/-- the names' values at the entry -/
def start (N : List Str) (vs : List V) : St := vs.map some ++ List.replicate (N.length - vs.length) none

/-- the context of a def's body, at its entry; an exception leaves the frame, then lies as CX says -/
def cxOf (CX : CXT) (P : Program) (w : World) (K : PySem.W.Frag) (mg : Str → Option Value) (base : Heap) (N : List Str) (qual : Str) (scope : Scope) (f : Addr) (cd : Value) (A : Around) (outer : List Env) (s : Shared) (H : Hp) (E : XK) : Cx where
  prog := P
  w := w
  K := K
  mg := mg
  base := base
  A := A.deeper (envOfC qual scope s.heap.objs.size f cd)
  N := N
  s₀ := s
  H₀ := H
  env := envOfC qual scope s.heap.objs.size f cd
  outer := outer
  stack := envOfC qual scope s.heap.objs.size f cd :: outer
  ex := []
  calm := true
  fn := fun _ => true
  pn := []
  xe := fun e s' => wpAny (model P w) (A.deeper (envOfC qual scope s.heap.objs.size f cd)) (leaving (envOfC qual scope s.heap.objs.size f cd) e) (fun _ s'' => CX outer H s E e s'') (fun e' s'' => CX outer H s E e' s'') s'

theorem cell_has {sc : Scope} {n : Nat} {x : Str} (h : sc.names.lookup x = some .cell) : ∃ c, (cellsFrom n sc.names []).lookup x = some c := by
  have q := PySem.W.cellsFrom_some sc.names n [] (.inl h)
  exact Option.isSome_iff_exists.mp q

theorem inv_start {CX : CXT} {P : Program} {w : World} {K : PySem.W.Frag} {mg : Str → Option Value} {base : Heap} {N ps : List Str} {qual : Str} {scope : Scope} {f : Addr} {cd : Value} {A : Around} {outer : List Env} {s s1 : Shared} {H : Hp} {E : XK} {us : List Value} {vs : List V}
    (S : FnScope N ps scope) (hd : A.handled = none) (e0 : Env0 P w K mg base A outer s H) (hl : vs.length = ps.length) (r : Vals vs us)
    (x : InCallC s s.heap.objs.size (bindL (envOfC qual scope s.heap.objs.size f cd).kindOf (ps.zip us) fun _ => none) (cellsFrom (s.heap.objs.size + 1) scope.names []) (bindC (envOfC qual scope s.heap.objs.size f cd).kindOf (ps.zip us) fun _ => none) s1) :
    Inv (cxOf CX P w K mg base N qual scope f cd A outer s H E) [] (start N vs) H s1 := by
  have hpl : ps.length ≤ N.length := by have := congrArg List.length S.pre; rw [List.length_take] at this; omega
  obtain ⟨h1, tk, rfl, hk⟩ := x.done
  have noA : ∀ b : Addr, b ∉ (cxOf CX P w K mg base N qual scope f cd A outer s H E).ex := fun b z => absurd (show b ∈ ([] : List Addr) from z) (by simp)
  refine ⟨⟨e0.mod, S.kind, rfl, rfl, Nat.le_refl _, fun y z c h1 h2 => ?_, fun y hy => ?_, fun y c _ h => ?_, fun _ => hd, Around.frames_deeper e0.frames, .inr ⟨rfl, rfl⟩, fun b z => absurd z (noA b), e0.bs, e0.bsz, fun b _ _ => noA b, fun b z => absurd z (noA b), e0.funs, e0.frf⟩,
    rfl, e0.bare, Un.kept hk, ⟨_, x.toInCall.ns, fun i y v h1 h2 h3 => ?_⟩, fun y c h => ⟨_, x.cell y c h⟩, e0.hok.fresh (Nat.le_refl _), fun y c h => ?_, fun p hp => absurd (show p ∈ ([] : List (Addr × Obj)) from hp) (by simp), e0.hok.kept hk, ?_⟩
  · exact name_of_addr x.apart (PySem.mem_of_lookup h1) (PySem.mem_of_lookup h2)
  · have hy : scope.names.lookup y = some .cell ∨ scope.names.lookup y = some .free := hy
    rcases hy with hy | hy
    · exact cell_has hy
    · exact absurd rfl (S.nofree _ (PySem.mem_of_lookup hy))
  · exact Nat.le_of_lt (x.above y c (PySem.mem_of_lookup h))
  · have hi : i < vs.length := by
      unfold start at h2
      by_cases hi : i < vs.length
      · exact hi
      · rw [List.getElem?_append_right (by simpa using hi)] at h2
        rw [List.getElem?_replicate] at h2
        split at h2 <;> cases h2
    have ha : vs[i]? = some v := by
      unfold start at h2
      rw [List.getElem?_append_left (by simpa using hi), List.getElem?_map] at h2
      cases e : vs[i]? with
      | none => rw [e] at h2; cases h2
      | some a => rw [e] at h2; cases h2; rfl
    obtain ⟨u, hu, rv⟩ := r.get ha
    have hp : ps[i]? = some y := by
      rw [← S.pre, List.getElem?_take_of_lt (by omega)]; exact h1
    have ndP : ps.Nodup := by rw [← S.pre]; exact S.nd.sublist (List.take_sublist _ _)
    refine ⟨u, rv, ?_⟩
    rcases S.par y (List.mem_of_getElem? hp) with k | k
    · exact .inl ⟨k, bindL_get ndP hp hu k⟩
    · obtain ⟨c, e⟩ := cell_has (n := s.heap.objs.size + 1) k
      refine .inr ⟨.inl k, c, e, ?_⟩
      have q := x.cell y c e
      rw [bindC_get ndP hp hu (by show scope.names.lookup y ≠ _; rw [k]; decide)] at q
      exact q
  · exact e0.hok.fresh (Nat.le_of_lt (x.above y c (PySem.mem_of_lookup h)))
  · unfold start
    show _ = N.length
    rw [List.length_append, List.length_map, List.length_replicate]
    omega

/-- THE RULE: a def (or a method) of the text, by its body. The body's reading t is chosen for each entry; it is run at the parameters' values -/
theorem fn_of {CX : CXT} {P : Program} {w : World} {K : PySem.W.Frag} {mg : Str → Option Value} {base : Heap} {k : Nat} {f : Addr} {name qual : Str} {params : Arguments} {body : List Stmt} {scope : Scope} {dV kV doc pm cdv ct oc : Value} {an od : Option Addr}
    {osl : Array (Option Value)} {N ps : List Str} {sp : Sp} (lk : K.lookup f = some ⟨oc, od, .func (PySem.W.fnOf name qual params body scope dV kV doc pm an cdv ct), osl⟩) (hcd : PySem.W.codeIn K cdv qual = true) (S : FnScope N ps scope)
    (len : ∀ vs H Q E, sp vs H Q E → vs.length = ps.length)
    (hbody : ∀ (A : Around) (outer : List Env) (s : Shared) (H : Hp) (vs : List V) (Q : VK) (E : XK), Room k (A.deeper (envOfC qual scope s.heap.objs.size f cdv)) → sp vs H Q E →
      ∃ t, PSs (cxOf CX P w K mg base N qual scope f cdv A outer s H E) body t ∧ t { nx := fun _ H' => Q .non H', rt := Q } (start N vs) H) :
    FnOk P w K mg base CX (k + 1) f (PySem.W.fnOf name qual params body scope dV kV doc pm an cdv ct) ps sp := by
  refine ⟨len, fun A outer s H args us vs Q E hr e0 hb r hsp => ?_⟩
  have hl := len _ _ _ _ hsp
  have KX : K.In s.heap := e0.mod.kin.keeps fun b o e => (e0.bs b o e).1
  have lim : s.heap.NoLimit := e0.mod.nolimit.keeps fun b o e => (e0.bs b o e).1
  have hkind : ∀ y ∈ ps.zip us, scope.names.lookup y.1 = some .local ∨ (scope.names.lookup y.1 = some .cell ∧ ((cellsFrom (s.heap.objs.size + 1) scope.names []).lookup y.1).isSome = true) := fun ⟨n, v⟩ hy => by
    rcases S.par n (List.of_mem_zip hy).1 with q | q
    · exact .inl q
    · exact .inr ⟨q, PySem.W.cellsFrom_some _ _ _ (.inl q)⟩
  refine codeAny_call_function hr.depth (KX _ _ lk) rfl S.co S.gen rfl (PySem.W.codeRec_of KX hcd) (hb _ _ _ _ ?_)
  refine wpAny_newFunctionEnv_cells S.kind hkind fun env he s1 x => ?_
  subst he
  refine ⟨lim.keeps x.toInCall.keep, codeAny_func ?_⟩
  obtain ⟨t, ht, hq⟩ := hbody A outer s H vs Q E (hr.deeper _) hsp
  have I : Inv (cxOf CX P w K mg base N qual scope f cdv A outer s H E) [] (start N vs) H s1 := inv_start S hr.hd e0 hl r x
  refine wpAny_mono (ht [] s1 (start N vs) H _ I hq) (fun fl s' hs => ?_) fun e s' hs => hs
  have fin : ∀ {σ' : St} {H' : Hp} {v : V} {u : Value}, Inv (cxOf CX P w K mg base N qual scope f cdv A outer s H E) [] σ' H' s' → RelV v u → Q v H' → CE outer P w H s Q u s' :=
    fun {σ' H' v u} J rv q => ⟨v, H', J.os, J.bare, J.base, J.hok, rv, q⟩
  cases fl with
  | ret u =>
    obtain ⟨v, σ', H', J, rv, q⟩ := hs
    exact fin J rv q
  | next =>
    obtain ⟨σ', H', J, q⟩ := hs
    exact fin (v := V.non) (u := Value.none) J rfl q
  | brk =>
    obtain ⟨_, _, _, q⟩ := hs
    exact False.elim q
  | cont =>
    obtain ⟨_, _, _, q⟩ := hs
    exact False.elim q
end L2

namespace L2
open PySem PySem.Spec PyProof.Rows
section
variable {X : Cx} {x : Str} {p pos : Pos} {e : Expr} {es : List Expr} {t : TA} {id T : String} {r : List V → Hp → VK → Prop}

def tCB (r : List V → Hp → VK → Prop) (t : TA) : TE := fun σ H Q => t σ H fun vs H1 => r vs H1 Q
/-- f(e, ..), f a built-in function -/
theorem pe_callB (hc : CallR X (.builtin id) r) (hg : Gl X x) (hm : X.mg x = none) (hv : bootBuiltins x = some (.builtin id)) (ha : PA X (e :: es) t) (hn : x ≠ "__name__" := by decide) (hdb : (x == ("__debug__" : Str)) = false := by decide)
    (he : starEach (e :: es) X.env = (false, eval e X.env) :: starEach es X.env := by rfl) (hpl : (backTo pos (starEach es X.env)).any (·.1) = false := by rfl) : PE X (.Call (.Name x p) (e :: es) [] pos) (tCB r t) := by
  intro pins s σ H Q I h
  refine wpAny_Call_Name_kw (ld_blt I hg hm hv ?_ hn hdb)
  exact PyProof.Rows.callWith_builtin1 (thn (ha pos pins s σ H _ I h) fun us s1 ⟨vs, H1, I1, r1, q1⟩ => hc pins s1 σ H1 vs us Q I1 r1 q1) he hpl
/-- T(e, ..), T a built-in type -/
theorem pe_callTy (hc : CallR X (.type T) r) (hg : Gl X x) (hm : X.mg x = none) (hv : bootBuiltins x = some (.type T)) (ha : PA X (e :: es) t) (hn : x ≠ "__name__" := by decide) (hdb : (x == ("__debug__" : Str)) = false := by decide)
    (he : starEach (e :: es) X.env = (false, eval e X.env) :: starEach es X.env := by rfl) (hpl : (backTo pos (starEach es X.env)).any (·.1) = false := by rfl) : PE X (.Call (.Name x p) (e :: es) [] pos) (tCB r t) := by
  intro pins s σ H Q I h
  refine wpAny_Call_Name_kw (ld_blt I hg hm hv ?_ hn hdb)
  exact PyProof.Rows.callWith_type1 (thn (ha pos pins s σ H _ I h) fun us s1 ⟨vs, H1, I1, r1, q1⟩ => hc pins s1 σ H1 vs us Q I1 r1 q1) he hpl
/-- T() -/
theorem pe_callTy0 (hc : CallR X (.type T) r) (hg : Gl X x) (hm : X.mg x = none) (hv : bootBuiltins x = some (.type T)) (hn : x ≠ "__name__" := by decide) (hdb : (x == ("__debug__" : Str)) = false := by decide) :
    PE X (.Call (.Name x p) [] [] pos) (tCB r tNil) := by
  intro pins s σ H Q I h
  refine wpAny_Call_Name_kw (ld_blt I hg hm hv ?_ hn hdb)
  exact PyProof.Rows.callWith_type0 (hc pins s σ H [] [] Q I .nil h)
end
end L2

namespace HT
open PySem PyProof.Rows

/-- t < u of tuples of ints -/
def lexLt : List Int → List Int → Bool
  | [], [] => false
  | [], _ :: _ => true
  | _ :: _, [] => false
  | x :: xs, y :: ys => if x = y then lexLt xs ys else decide (x < y)
theorem lexLt_cons (x y : Int) (xs ys : List Int) : lexLt (x :: xs) (y :: ys) = if x = y then lexLt xs ys else decide (x < y) := rfl
theorem lexLt_nil_nil : lexLt [] [] = false := rfl
theorem lexLt_nil_cons (y : Int) (ys : List Int) : lexLt [] (y :: ys) = true := rfl
theorem lexLt_cons_nil (x : Int) (xs : List Int) : lexLt (x :: xs) [] = false := rfl

theorem eqAt_int (A : Around) (s : Shared) (a : Int) (t : Tok) (c : Int) (u : Tok) : ∃ e, SeqAt.EqAt A s (.int a t) (.int c u) e ∧ (e = true ↔ a = c) :=
  ⟨(a == c), SeqAt.EqAt.int_int a t c u, by simp⟩
theorem rcLt_int (A : Around) (s : Shared) (a : Int) (t : Tok) (c : Int) (u : Tok) (prog : Program) (w : World) (E : Value → Shared → Prop) (Q : Value → Shared → Prop) (h : Q (.bool (decide (a < c))) s) :
    wpAny (model prog w) A (richCompare .Lt (.int a t) (.int c u)) Q E s :=
  (PyProof.Rows.lt_int h : wpAny (model prog w) A (compareOp .Lt (.int a t) (.int c u)) Q E s)

section
open PySem.SeqAt
open PySem.AutoSeq1 (wpAny_loadPart')
open PySem.MeetsSeq PySem.MeetsSeq2 PySem.MeetsSeq3

theorem tuple_lt_ints (l b : Addr) (items items2 : Array Value) (n n2 : Nat) (dd dd2 : Option Addr) (sl sl2 : Array (Option Value)) (ns ms : List Int) (hi : IntsAre items.toList ns) (hj : IntsAre items2.toList ms) :
    Meets (Builtin.«tuple.__lt__» ⟨[.ref l, .ref b], []⟩)
      (fun _ R s => s.heap.get? l = some { cls := .type "tuple", dict := dd, data := .seq items n, slots := sl } ∧ s.heap.get? b = some { cls := .type "tuple", dict := dd2, data := .seq items2 n2, slots := sl2 } ∧
        R (.ok (.ret (.bool (lexLt ns ms)))) s) :=
  .of_wp fun prog w A R s h => by
    obtain ⟨hp, g, d, tk, os⟩ := s; obtain ⟨hl, hb, h⟩ := h
    have f2 := AutoSeq1.sub_tuple_tuple
    have z1 : items.size = ns.length := by rw [← hi.length]; simp
    have z2 : items2.size = ms.length := by rw [← hj.length]; simp
    wp_walk using wpAny_loadPart' hl, wpAny_loadPart' hb, wpAny_forIn_list _ (fun rest b s' => b.1 = none ∧ s' = ⟨hp, g, d, tk, os⟩ ∧ ∃ (vs ws : List Value) (ns' ms' : List Int), rest = vs.zip ws ∧
      IntsAre vs ns' ∧ IntsAre ws ms' ∧ ns'.length + items2.size = ms'.length + items.size ∧ R (.ok (.ret (.bool (lexLt ns' ms')))) ⟨hp, g, d, tk, os⟩) _
    case turn =>
      rintro ⟨y, x⟩ rest b s' ⟨hb', rfl, vs, ws, ns', ms', hz, hvi, hwi, hlen, hR⟩
      cases hvi with
      | nil => rw [List.zip_nil_left] at hz; cases hz
      | cons a t hvi' =>
        cases hwi with
        | nil => rw [List.zip_nil_right] at hz; cases hz
        | cons c u hwi' =>
          rw [List.zip_cons_cons] at hz
          injection hz with hyx hrest
          injection hyx with hy hx
          subst hy hx
          rw [lexLt_cons] at hR
          simp only [List.length_cons] at hlen
          obtain ⟨e, he, hiff⟩ := eqAt_int A.in1 ⟨hp, g, d, tk, os⟩ a t c u
          refine wpAny_bind (he prog w _ _ ?_)
          cases e with
          | true =>
            rw [if_pos (hiff.mp rfl)] at hR
            wp_walk
            exact ⟨rfl, rfl, _, _, _, _, hrest, hvi', hwi', by omega, hR⟩
          | false =>
            rw [if_neg (fun q => absurd (hiff.mpr q) Bool.false_ne_true)] at hR
            have hri := rcLt_int A.in1 ⟨hp, g, d, tk, os⟩ a t c u prog w
            wp_walk using hri
            exact ⟨_, rfl, by simpa using hR⟩
    case fin =>
      rintro ⟨b1, b2⟩ s' ⟨hb', rfl, vs, ws, ns', ms', hz, hvi, hwi, hlen, hR⟩
      simp only at hb'
      subst hb'
      have hv : lexLt ns' ms' = decide (items.size < items2.size) := by
        cases hvi with
        | nil =>
          cases hwi with
          | nil =>
            simp only [List.length_nil] at hlen
            rw [lexLt_nil_nil]
            exact (decide_eq_false (by omega)).symm
          | cons c u hw =>
            simp only [List.length_nil, List.length_cons] at hlen
            rw [lexLt_nil_cons]
            exact (decide_eq_true (by omega)).symm
        | cons a t hv =>
          cases hwi with
          | nil =>
            simp only [List.length_nil, List.length_cons] at hlen
            rw [lexLt_cons_nil]
            exact (decide_eq_false (by omega)).symm
          | cons c u hw =>
            rw [List.zip_cons_cons] at hz
            cases hz
      rw [hv] at hR
      wp_walk
      exact ⟨_, rfl, by simpa [Builtin.Tuple.tupleCompareSizes] using hR⟩
    case h =>
      exact ⟨rfl, rfl, items.toList, items2.toList, ns, ms, rfl, hi, hj, by omega, h⟩
end

section
variable {prog : Program} {w : World} {A : Around} {E : Value → Shared → Prop} {s : Shared}

theorem lt_tupInts {l b : Addr} {items items2 : Array Value} {ns ms : List Int} {Q : Value → Shared → Prop} (hl : IsTup s.heap l items) (hb : IsTup s.heap b items2) (hi : IntsAre items.toList ns) (hj : IntsAre items2.toList ms)
    (hu : A.units < cLine) (h : Q (.bool (lexLt ns ms)) s) : wpAny (model prog w) A (compareOp .Lt (.ref l) (.ref b)) Q E s := by
  obtain ⟨⟨cls, dd, data, sl⟩, ho, hc, n, hd⟩ := id hl
  obtain ⟨⟨cls2, dd2, data2, sl2⟩, ho2, hc2, n2, hd2⟩ := id hb
  simp only at hc hd hc2 hd2
  subst hc hd hc2 hd2
  exact richCompare_meets_room (op := .Lt) ⟨_, ho, rfl⟩ ⟨_, ho2, rfl⟩ PySem.F.slot_tuple_lt PySem.F.entry_tuple_lt (PySem.F.args_tuple_lt_2 _ _) (tuple_lt_ints l b items items2 n n2 dd dd2 sl sl2 ns ms hi hj)
    ⟨ho, ho2, show Value.bool (lexLt ns ms) ≠ Value.notImplemented ∧ Q (.bool (lexLt ns ms)) s from ⟨(fun x => nomatch x), h⟩⟩ hu

/-- t + u, t not empty -/
theorem cat_tup {t b : Addr} {vs ws : List Value} {Q : Value → Shared → Prop} (ht : IsTup s.heap t vs.toArray) (hb : IsTup s.heap b ws.toArray) (hv : vs ≠ [])
    (h1 : ws = [] → Q (.ref t) s) (h2 : ws ≠ [] → Q (.ref s.heap.objs.size) { s with heap := s.heap.push { cls := .type "tuple", data := .seq (vs ++ ws).toArray } })
    (hsz : vs.length + ws.length ≤ sizeLine) : wpAny (model prog w) A (binaryOp .Add (.ref t) (.ref b)) Q E s := by
  obtain ⟨⟨cls, dd, data, sl⟩, ho, hc, n, hd⟩ := id ht
  obtain ⟨⟨cls2, dd2, data2, sl2⟩, ho2, hc2, n2, hd2⟩ := id hb
  simp only at hc hd hc2 hd2
  subst hc hd hc2 hd2
  have e : vs.toArray ++ ws.toArray = (vs ++ ws).toArray := by simp
  by_cases hw : ws = []
  · exact concat_meets ⟨_, ho, rfl⟩ ⟨_, ho2, rfl⟩ noFill_tuple_add seq_tuple_add PySem.F.slot_tuple_add PySem.F.entry_tuple_add (PySem.F.args_tuple_add_2 _ _)
      (tuple_addW1 t b vs.toArray ws.toArray n n2 dd dd2 sl sl2 (by simpa using hv) (by simp [hw])) ⟨ho, ho2, h1 hw⟩
  · refine concat_meets ⟨_, ho, rfl⟩ ⟨_, ho2, rfl⟩ noFill_tuple_add seq_tuple_add PySem.F.slot_tuple_add PySem.F.entry_tuple_add (PySem.F.args_tuple_add_2 _ _)
      (tuple_addW2 t b vs.toArray ws.toArray n n2 dd dd2 sl sl2 (by simpa using hv) (by simpa using hw) (by rw [List.size_toArray, List.size_toArray]; exact hsz)) ⟨ho, ho2, ?_⟩
    rw [e]
    exact h2 hw

/-! ### t[a:b], not the whole -/
/-- a slice's bound as a place among n (d where it is left out) -/
def sIx (n d : Nat) : Option Int → Nat
  | none => d
  | some v => if v < 0 then (v + (n : Int)).toNat else min v.toNat n
theorem sIx_none (n d : Nat) : sIx n d none = d := rfl
theorem sIx_nat (n d k : Nat) : sIx n d (some (k : Int)) = min k n := by
  show (if (k : Int) < 0 then ((k : Int) + (n : Int)).toNat else min (k : Int).toNat n) = min k n
  rw [if_neg (by omega), Int.toNat_natCast]
theorem sIx_le (n d : Nat) (hd : d ≤ n) (o : Option Int) : sIx n d o ≤ n := by
  cases o with
  | none => exact hd
  | some v =>
    show (if v < 0 then (v + (n : Int)).toNat else min v.toNat n) ≤ n
    by_cases hv : v < 0
    · rw [if_pos hv]; omega
    · rw [if_neg hv]; exact Nat.min_le_right _ _
theorem clip_eq (v : Int) (n d : Nat) : (if v < 0 then max (v + (n : Int)) 0 else min v (n : Int)) = ((sIx n d (some v) : Nat) : Int) := by
  show (if v < 0 then max (v + (n : Int)) 0 else min v (n : Int)) = (((if v < 0 then (v + (n : Int)).toNat else min v.toNat n) : Nat) : Int)
  by_cases hv : v < 0
  · simp only [if_pos hv]; omega
  · simp only [if_neg hv]; omega
theorem adjust_gen (lo hi : Option Int) (n : Nat) : Builtin.Slice.sliceAdjust lo hi 1 (n : Int) = (((sIx n 0 lo : Nat) : Int), ((sIx n n hi : Nat) : Int)) := by
  have h1 : ¬ ((1 : Int) < 0) := by omega
  unfold Builtin.Slice.sliceAdjust
  simp only [h1, if_false]
  refine Prod.ext ?_ ?_
  · cases lo with
    | none => rfl
    | some v => exact clip_eq v n 0
  · cases hi with
    | none => rfl
    | some v => exact clip_eq v n n
theorem places_gen (i j : Nat) : Builtin.Slice.slicePlaces (i : Int) (j : Int) 1 = j - i := by
  unfold Builtin.Slice.slicePlaces
  have h1 : (1 : Int) > 0 := by omega
  simp only [h1, if_true, Int.ediv_one]
  split <;> omega
theorem slicePart_ {v : Value} {o : Option Int} {Q : Option Int → Shared → Prop} (p : IsPart v o) (h : Q o s) : wpAny (model prog w) A (Builtin.Slice.slicePartIndex v) Q E s := by
  cases p with
  | none => exact slicePart_none h
  | int i t => exact slicePart_int h
theorem sliceApplied_gen {sl : Addr} {vl vu : Value} {lo hi : Option Int} {n : Nat} {Q : Int × Int × Nat → Shared → Prop} (hs : s.heap.IsSliceOf sl vl vu .none) (pl : IsPart vl lo) (pu : IsPart vu hi)
    (h : Q (((sIx n 0 lo : Nat) : Int), 1, sIx n n hi - sIx n 0 lo) s) : wpAny (model prog w) A (Builtin.Slice.sliceApplied (.ref sl) (pure (n : Int))) Q E s := by
  obtain ⟨os, hos, hcs, hds⟩ := id hs
  unfold Builtin.Slice.sliceApplied Builtin.Slice.sliceFields
  refine wpAny_bind (wpAny_bind (wpAny_field hos hds (x := vl) rfl (wpAny_bind (wpAny_field hos hds (x := vu) rfl (wpAny_bind (wpAny_field hos hds (x := .none) rfl (wpAny_pure ?_)))))))
  refine wpAny_bind (slicePart_none ?_)
  show wpAny _ _ (if ((1 : Int) == 0) = true then _ else _) _ _ s
  rw [if_neg (by decide)]
  refine wpAny_bind (slicePart_ pl (wpAny_bind (slicePart_ pu (wpAny_bind (wpAny_pure ?_)))))
  show wpAny _ _ (match Builtin.Slice.sliceAdjust lo hi 1 (n : Int) with | (lo, hi) => pure (lo, (1 : Int), Builtin.Slice.slicePlaces lo hi 1)) _ _ s
  rw [adjust_gen lo hi n]
  show wpAny _ _ (pure (((sIx n 0 lo : Nat) : Int), (1 : Int), Builtin.Slice.slicePlaces ((sIx n 0 lo : Nat) : Int) ((sIx n n hi : Nat) : Int) 1)) _ _ s
  rw [places_gen]
  exact wpAny_pure h
theorem pick_gen (xs : Array Value) (i k : Nat) : ((List.range k).filterMap fun (m : Nat) => xs[((i : Int) + (m : Int) * 1).toNat]?).toArray = ((xs.toList.drop i).take k).toArray := by
  have e : (fun (m : Nat) => xs[((i : Int) + (m : Int) * 1).toNat]?) = fun m => xs[i + m]? := by
    funext m
    have : ((i : Int) + (m : Int) * 1).toNat = i + m := by omega
    rw [this]
  rw [e]
  have := pick_run xs i k
  rw [List.filterMap_map] at this
  have e2 : ((fun x => xs[x]?) ∘ fun x => i + x) = fun m => xs[i + m]? := rfl
  rw [e2] at this
  rw [this]

theorem getItem_tuple_cut {t sl : Addr} {items : Array Value} {vl vu : Value} {lo hi : Option Int} {Q : Value → Shared → Prop} (ht : IsTup s.heap t items) (hs : s.heap.IsSliceOf sl vl vu .none) (pl : IsPart vl lo) (pu : IsPart vu hi)
    (hw : ¬ (sIx items.size 0 lo = 0 ∧ sIx items.size items.size hi = items.size))
    (h : Q (.ref s.heap.objs.size) { s with heap := s.heap.push { cls := .type "tuple", data := .seq ((items.toList.drop (sIx items.size 0 lo)).take (sIx items.size items.size hi - sIx items.size 0 lo)).toArray } })
    (hsz : items.size ≤ sizeLine) : wpAny (model prog w) A (getItem (.ref t) (.ref sl)) Q E s := by
  have htake : sizeOk (.seq ((items.toList.drop (sIx items.size 0 lo)).take (sIx items.size items.size hi - sIx items.size 0 lo)).toArray) := by
    show ((items.toList.drop (sIx items.size 0 lo)).take (sIx items.size items.size hi - sIx items.size 0 lo)).toArray.size ≤ sizeLine
    rw [List.size_toArray, List.length_take, List.length_drop, Array.length_toList]
    omega
  have hj : sIx items.size items.size hi ≤ items.size := sIx_le _ _ (Nat.le_refl _) hi
  obtain ⟨os, hos, hcs, hds⟩ := id hs
  have hTs : s.TypeIs (.ref sl) "slice" := ⟨os, hos, hcs⟩
  unfold getItem
  try with_reducible refine wpAny_holding ?_
  first | refine wpAny_bind (wpAny_pure ?_) | skip
  refine wpAny_bind (wpAny_sequenceKey ht.typeIs (by decide) ?_)
  refine wpAny_bind (wpAny_callSpecial?_slot (name := Str.ofString "__getitem__") ht.typeIs PyProof.Rows.slot_tuple_getitem
    (wpAny_call_entry PyProof.Rows.slot_tuple_getitem ht.typeIs entry_tuple_getitem ?_ (args_tuple_getitem _ _)))
  show wpAny _ _ (Builtin.Tuple.tupleItemsOf (.ref t) >>= _) _ _ s
  refine wpAny_bind (tupleItemsOf_ ht ?_)
  refine wpAny_bind (wpAny_typeOf hTs ?_)
  rw [if_pos (by decide)]
  refine wpAny_bind (sliceApplied_gen hs pl pu ?_)
  have hno : ¬ ((((sIx items.size 0 lo : Nat) : Int) == 0 && (1 : Int) == 1 && (sIx items.size items.size hi - sIx items.size 0 lo) == items.size) = true) := by
    intro q
    rw [Bool.and_eq_true, Bool.and_eq_true] at q
    have q1 : ((sIx items.size 0 lo : Nat) : Int) = 0 := eq_of_beq q.1.1
    have q2 : sIx items.size items.size hi - sIx items.size 0 lo = items.size := eq_of_beq q.2
    exact hw ⟨by omega, by omega⟩
  show wpAny _ _ (if (((sIx items.size 0 lo : Nat) : Int) == 0 && (1 : Int) == 1 && (sIx items.size items.size hi - sIx items.size 0 lo) == items.size) = true then _ else _) _ _ s
  rw [if_neg hno, pick_gen]
  first
    | exact wpAny_bind (m := Builtin.Tuple.tupleExact _) (wpAny_newObj_type (wpAny_pure ⟨_, rfl, wpAny_pure h⟩) htake)
    | exact wpAny_bind (m := Builtin.Tuple.tupleExact _) (wpAny_newObj_type (wpAny_bind (wpAny_pure (wpAny_pure ⟨_, rfl, wpAny_pure h⟩))) htake)
    | exact wpAny_bind (wpAny_bind (m := Builtin.Tuple.tupleExact _) (wpAny_newObj_type (wpAny_pure (wpAny_pure ⟨_, rfl, wpAny_pure h⟩)) htake))
    | exact wpAny_bind (wpAny_bind (m := Builtin.Tuple.tupleExact _) (wpAny_newObj_type (wpAny_pure ⟨_, rfl, wpAny_pure h⟩) htake))
end
end HT

namespace L2
open PySem PySem.Spec PyProof.Rows

/-! ### the parts of a slice -/
abbrev TO := St → Hp → (Option Int → Hp → Prop) → Prop
/-- a slice's part (left out, or an int) -/
def PO (X : Cx) (e : Option Expr) (t : TO) : Prop :=
  ∀ (pins : List (Addr × Obj)) (s : Shared) (σ : St) (H : Hp) (Q : Option Int → Hp → Prop), Inv X pins σ H s → t σ H Q →
    wpAny (model X.prog X.w) X.A (evalPart e X.env) (fun u s' => ∃ o H', Inv X pins σ H' s' ∧ IsPart u o ∧ Q o H') X.xe s
def tNoPart : TO := fun _ H Q => Q none H
def tPart (t : TE) : TO := fun σ H Q => t σ H fun x H1 => ∃ i, x = .int i ∧ Q (some i) H1

theorem intsAre_of {ns : List Int} : ∀ {us : List Value}, Vals (ns.map V.int) us → IntsAre us ns := by
  induction ns with
  | nil => intro us r; rw [List.map_nil] at r; cases r; exact .nil
  | cons n ns ih =>
    intro us r
    rw [List.map_cons] at r
    cases r with
    | cons r1 r2 =>
      obtain ⟨t, e⟩ := r1
      subst e
      exact .cons n t (ih r2)

section
variable {X : Cx} {e : Expr} {te : TE} {lo hi : Option Expr} {tl th : TO} {pos p2 : Pos}

theorem po_none : PO X none tNoPart := by
  intro pins s σ H Q I h
  rw [evalPart_none]
  exact wpAny_pure ⟨none, H, I, .none, h⟩
theorem po_some (h : PE X e te) : PO X (some e) (tPart te) := by
  intro pins s σ H Q I hw
  rw [evalPart_some]
  refine thn (h pins s σ H _ I hw) fun u s1 ⟨x, H1, I1, r1, q1⟩ => ?_
  obtain ⟨i, rfl, q⟩ := q1
  obtain ⟨t, rfl⟩ := r1
  exact ⟨some i, H1, I1, .int i t, q⟩

/-- what a slice of a value is, by values: the slice object stands at sl -/
def SlR (X : Cx) (r : V → Option Int → Option Int → Hp → VK → Prop) : Prop :=
  ∀ (pins : List (Addr × Obj)) (s : Shared) (σ : St) (H : Hp) (x : V) (v vl vu : Value) (lo hi : Option Int) (sl : Addr) (Q : VK), Inv X pins σ H s → RelV x v → s.heap.IsSliceOf sl vl vu .none → IsPart vl lo → IsPart vu hi → r x lo hi H Q →
    ∃ T id, typeLookup (.type T) "__getitem__" = pure (some (.builtin id)) ∧ s.TypeIs v T ∧ wpAny (model X.prog X.w) X.A (getItem v (.ref sl)) (EP X pins σ Q) X.xe s
theorem SlR.or {r r' : V → Option Int → Option Int → Hp → VK → Prop} (h : SlR X r) (h' : SlR X r') : SlR X (fun x lo hi H Q => r x lo hi H Q ∨ r' x lo hi H Q) := by
  intro pins s σ H x v vl vu lo hi sl Q I rx hs pl pu q
  rcases q with q | q
  · exact h pins s σ H x v vl vu lo hi sl Q I rx hs pl pu q
  · exact h' pins s σ H x v vl vu lo hi sl Q I rx hs pl pu q
def tSl (r : V → Option Int → Option Int → Hp → VK → Prop) (te : TE) (tl th : TO) : TE := fun σ H Q => te σ H fun x H1 => tl σ H1 fun l H2 => th σ H2 fun u H3 => r x l u H3 Q
/-- a[lo:hi], any a -/
theorem pe_slice {r : V → Option Int → Option Int → Hp → VK → Prop} (hr : SlR X r) (he : PE X e te) (hl : PO X lo tl) (hu : PO X hi th) : PE X (.Subscript e (.Slice lo hi none p2) pos) (tSl r te tl th) := by
  intro pins s σ H Q I h
  refine Subscript_ (thn (he pins s σ H _ I h) fun v s1 ⟨x, H1, I1, r1, q1⟩ => ?_)
  refine wpAny_Slice (thn (hl pins s1 σ H1 _ I1 q1) fun vl s2 ⟨l, H2, I2, pl, q2⟩ => thn (hu pins s2 σ H2 _ I2 q2) fun vu s3 ⟨u, H3, I3, pu, q3⟩ => ?_)
  rw [evalPart_none]
  refine wpAny_pure ?_
  have I4 : Inv X pins σ H3 { s3 with heap := s3.heap.push { cls := .type "slice", data := .fields #[vl, vu, .none] } } := I3.kept (t' := s3.toks) fun b ob q => Heap.get?_push_of_some _ q
  obtain ⟨T, id, hT, ht, hg⟩ := hr pins { s3 with heap := s3.heap.push { cls := .type "slice", data := .fields #[vl, vu, .none] } } σ H3 x v vl vu l u s3.heap.objs.size Q I4 r1 (Heap.IsSliceOf.new ..) pl pu q3
  show wpAny (model X.prog X.w) X.A (subscriptTail e (.Slice lo hi none p2) v (.ref s3.heap.objs.size)) (EP X pins σ Q) X.xe { s3 with heap := s3.heap.push { cls := .type "slice", data := .fields #[vl, vu, .none] } }
  exact tail_any (ops := [.ref s3.heap.objs.size, v]) ht hT hg (by with_unfolding_all rfl)

/-- the items of xs[lo:hi] -/
def cutV (xs : List V) (lo hi : Option Int) : List V := (xs.drop (HT.sIx xs.length 0 lo)).take (HT.sIx xs.length xs.length hi - HT.sIx xs.length 0 lo)
theorem cutV_length (xs : List V) (lo hi : Option Int) : (cutV xs lo hi).length ≤ xs.length := by
  unfold cutV
  rw [List.length_take, List.length_drop]
  omega
/-- t[lo:hi], not the whole of it (the whole would be t itself) -/
def rSlT (K : PySem.W.Frag) : V → Option Int → Option Int → Hp → VK → Prop := fun x lo hi H Q => ∃ a xs, x = .ref a ∧ SqT K H a xs ∧
  ¬ (HT.sIx xs.length 0 lo = 0 ∧ HT.sIx xs.length xs.length hi = xs.length) ∧ ∀ p, H p = none → Q (.ref p) (upd H p (.tup (cutV xs lo hi)))
theorem sl_tup : SlR X (rSlT X.K) := by
  intro pins s σ H x v vl vu lo hi sl Q I rx hs pl pu h
  obtain ⟨a, xs, rfl, hx, hw, q⟩ := h
  cases rx
  obtain ⟨its, r, ht, hz⟩ := I.tuple hx
  have hlen : its.toArray.size = xs.length := by rw [List.size_toArray]; exact r.length.symm
  refine ⟨"tuple", _, PyProof.Rows.slot_tuple_getitem.lookup, ht.typeIs, ?_⟩
  refine HT.getItem_tuple_cut ht hs pl pu (by rw [hlen]; exact hw) ?_ (by rw [hlen]; exact hz)
  rw [hlen]
  refine ⟨.ref s.heap.objs.size, _, I.laid (t' := s.toks) (o := .tup (cutV xs lo hi)) (fun b ob q => Heap.get?_push_of_some _ q) (Nat.le_refl _) ?_, rfl, q _ (I.hok.fresh (Nat.le_refl _))⟩
  exact ⟨Nat.le_trans (cutV_length xs lo hi) hz, _, (r.drop (HT.sIx xs.length 0 lo)).take (HT.sIx xs.length xs.length hi - HT.sIx xs.length 0 lo), IsTup.new _ _⟩

/-! ### t < u, t + u -/
def rLtT (K : PySem.W.Frag) : R2 := fun x y H Q => ∃ a b ns ms, x = .ref a ∧ y = .ref b ∧ SqT K H a (ns.map V.int) ∧ SqT K H b (ms.map V.int) ∧ Q (.bl (HT.lexLt ns ms)) H
theorem op_ltT (hu : X.A.units < cLine) : OpR X (compareOp .Lt) (rLtT X.K) := by
  intro pins s σ H x y v u Q I rx ry h
  obtain ⟨a, b, ns, ms, rfl, rfl, ha, hb, q⟩ := h
  cases rx
  cases ry
  obtain ⟨its, r1, p1, _⟩ := I.tuple ha
  obtain ⟨its2, r2, p2, _⟩ := I.tuple hb
  have i1 : IntsAre its.toArray.toList ns := intsAre_of r1
  have i2 : IntsAre its2.toArray.toList ms := intsAre_of r2
  exact HT.lt_tupInts p1 p2 i1 i2 hu ⟨.bl (HT.lexLt ns ms), H, I, rfl, q⟩
/-- t + u, t not empty: u empty gives t itself -/
def rCatT (K : PySem.W.Frag) : R2 := fun x y H Q => ∃ a b xs ys, x = .ref a ∧ y = .ref b ∧ SqT K H a xs ∧ SqT K H b ys ∧ xs ≠ [] ∧ xs.length + ys.length ≤ sizeLine ∧
  (ys = [] → Q (.ref a) H) ∧ (ys ≠ [] → ∀ p, H p = none → Q (.ref p) (upd H p (.tup (xs ++ ys))))
theorem Vals.nil_iff {xs : List V} {us : List Value} (r : Vals xs us) : us = [] ↔ xs = [] := by
  cases r with
  | nil => simp
  | cons _ _ => simp
theorem op_catT : OpR X (binaryOp .Add) (rCatT X.K) := by
  intro pins s σ H x y v u Q I rx ry h
  obtain ⟨a, b, xs, ys, rfl, rfl, ha, hb, hx, hz, q1, q2⟩ := h
  cases rx
  cases ry
  obtain ⟨its, r1, p1, _⟩ := I.tuple ha
  obtain ⟨its2, r2, p2, _⟩ := I.tuple hb
  refine HT.cat_tup p1 p2 (fun z => hx (r1.nil_iff.mp z)) (fun z => ⟨.ref a, H, I, rfl, q1 (r2.nil_iff.mp z)⟩) (fun z => ?_) (by rw [← r1.length, ← r2.length]; exact hz)
  refine ⟨.ref s.heap.objs.size, _, I.laid (t' := s.toks) (o := .tup (xs ++ ys)) (fun b ob q => Heap.get?_push_of_some _ q) (Nat.le_refl _) ?_, rfl, q2 (fun w => z (r2.nil_iff.mpr w)) _ (I.hok.fresh (Nat.le_refl _))⟩
  exact ⟨by rw [List.length_append]; exact hz, _, r1.append r2, IsTup.new _ _⟩
/-- tuple(t) -/
theorem call_tupleT : CallR X (.type "tuple") (fun xs H Q => ∃ a ys, xs = [.ref a] ∧ SqT X.K H a ys ∧ Q (.ref a) H) := by
  intro pins s σ H xs us Q I r h
  obtain ⟨a, ys, rfl, ha, q⟩ := h
  obtain ⟨u, rfl, ru⟩ := vals1 r
  cases ru
  obtain ⟨its, _, p1, _⟩ := I.tuple ha
  exact call_tuple_same (items := its.toArray) p1 ⟨.ref a, H, I, rfl, q⟩
end
end L2

namespace L2
open PySem PySem.Spec PyProof.Rows

/-! ### places -/
/-- the place that an index of any sign means -/
def ixN (n : Nat) (i : Int) : Option Nat := if 0 ≤ i then (if i < n then some i.toNat else none) else if -(n : Int) ≤ i then some (i + n).toNat else none
def atI {α : Type} (xs : List α) (i : Int) : Option α := (ixN xs.length i).bind fun j => xs[j]?
theorem ixN_seq {n : Nat} {i : Int} {j : Nat} (h : ixN n i = some j) : seqIndex? i n = some j ∧ j < n ∧ -(n : Int) ≤ i ∧ i < n := by
  unfold ixN at h
  by_cases h0 : 0 ≤ i
  · rw [if_pos h0] at h
    by_cases h1 : i < n
    · rw [if_pos h1] at h
      have e : i.toNat = j := Option.some.inj h
      exact ⟨by rw [seqIndex_of h0 h1, e], by omega, by omega, h1⟩
    · rw [if_neg h1] at h; cases h
  · rw [if_neg h0] at h
    by_cases h1 : -(n : Int) ≤ i
    · rw [if_pos h1] at h
      have e : (i + n).toNat = j := Option.some.inj h
      exact ⟨by rw [seqIndex_neg (by omega) h1, e], by omega, h1, by omega⟩
    · rw [if_neg h1] at h; cases h
theorem atI_get {α : Type} {xs : List α} {i : Int} {v : α} (h : atI xs i = some v) : ∃ j, seqIndex? i xs.length = some j ∧ xs[j]? = some v ∧ j < xs.length ∧ -(xs.length : Int) ≤ i ∧ i < xs.length := by
  unfold atI at h
  cases e : ixN xs.length i with
  | none => rw [e] at h; cases h
  | some j =>
    rw [e] at h
    obtain ⟨h1, h2, h3, h4⟩ := ixN_seq e
    exact ⟨j, h1, h, h2, h3, h4⟩
theorem atI_nat {α : Type} {xs : List α} {j : Nat} {v : α} (h : xs[j]? = some v) : atI xs (j : Int) = some v := by
  have hj : j < xs.length := (List.getElem?_eq_some_iff.mp h).1
  have e : ixN xs.length (j : Int) = some j := by
    unfold ixN
    rw [if_pos (by omega), if_pos (by omega)]; simp
  unfold atI; rw [e]; exact h
theorem atI_last {α : Type} (xs : List α) (v : α) : atI (xs ++ [v]) (-1) = some v := by
  have hl : (xs ++ [v]).length = xs.length + 1 := by simp
  have e : ixN (xs ++ [v]).length (-1) = some xs.length := by
    unfold ixN
    rw [hl, if_neg (by decide), if_pos (by omega)]
    congr 1
    omega
  unfold atI
  rw [e]
  show (xs ++ [v])[xs.length]? = some v
  simp

/-! ### what may be subscripted -/
/-- what stands as an index of a plain subscript -/
def PlainIx (b : Expr) : Prop := ∀ o i, subscripted b false o i = operate [o, i] (getItem o i)
/-- a subscript by values -/
def IxR (X : Cx) (r : R2) : Prop :=
  ∀ (value slice : Expr) (pins : List (Addr × Obj)) (s : Shared) (σ : St) (H : Hp) (x y : V) (v u : Value) (Q : VK), Inv X pins σ H s → RelV x v → RelV y u → r x y H Q →
    subscripted slice false v u = operate [v, u] (getItem v u) → wpAny (model X.prog X.w) X.A (subscriptTail value slice v u) (EP X pins σ Q) X.xe s
/-- a call of a builtin's method by values: the receiver, the arguments -/
def MtR (X : Cx) (id : String) (r : V → List V → Hp → VK → Prop) : Prop :=
  ∀ (pins : List (Addr × Obj)) (s : Shared) (σ : St) (H : Hp) (x : V) (xs : List V) (v : Value) (us : List Value) (Q : VK), Inv X pins σ H s → RelV x v → Vals xs us → r x xs H Q →
    wpAny (model X.prog X.w) X.A (call (.builtin id) (v :: us)) (EP X pins σ Q) X.xe s
section
variable {X : Cx} {a b : Expr} {ta tb : TE} {pos : Pos}
theorem IxR.or {r r' : R2} (h : IxR X r) (h' : IxR X r') : IxR X (fun x y H Q => r x y H Q ∨ r' x y H Q) := by
  intro value slice pins s σ H x y v u Q I rx ry q hs
  rcases q with q | q
  · exact h value slice pins s σ H x y v u Q I rx ry q hs
  · exact h' value slice pins s σ H x y v u Q I rx ry q hs
theorem MtR.or {id : String} {r r' : V → List V → Hp → VK → Prop} (h : MtR X id r) (h' : MtR X id r') : MtR X id (fun x xs H Q => r x xs H Q ∨ r' x xs H Q) := by
  intro pins s σ H x xs v us Q I rx rs q
  rcases q with q | q
  · exact h pins s σ H x xs v us Q I rx rs q
  · exact h' pins s σ H x xs v us Q I rx rs q
/-- a[b] -/
theorem pe_ix {r : R2} (hr : IxR X r) (ha : PE X a ta) (hb : PE X b tb) (hs : PlainIx b) : PE X (.Subscript a b pos) (tOp r ta tb) := by
  intro pins s σ H Q I h
  exact Subscript_ (binT ha hb I h fun v u s2 x y H2 I2 rx ry q => hr a b pins s2 σ H2 x y v u Q I2 rx ry q (hs _ _))

def rIxL (K : PySem.W.Frag) : R2 := fun x y H Q => ∃ p xs i v, x = .ref p ∧ y = .int i ∧ SqL K H p xs ∧ atI xs i = some v ∧ Q v H
def rIxT (K : PySem.W.Frag) : R2 := fun x y H Q => ∃ p xs i v, x = .ref p ∧ y = .int i ∧ SqT K H p xs ∧ atI xs i = some v ∧ Q v H
def rIxS : R2 := fun x y H Q => ∃ z i c, x = .str z ∧ y = .int i ∧ z.length ≤ sizeLine ∧ atI z.cps.toList i = some c ∧ Q (.str ⟨#[c]⟩) H
theorem ix_list : IxR X (rIxL X.K) := by
  intro value slice pins s σ H x y v u Q I rx ry h hs
  obtain ⟨p, xs, i, z, rfl, rfl, hq, he, q⟩ := h
  cases rx
  obtain ⟨t, rfl⟩ := ry
  obtain ⟨its, r, pl, hz⟩ := I.list hq
  obtain ⟨j, h1, h2, h3, h4, h5⟩ := atI_get he
  obtain ⟨w, ew, rw'⟩ := r.get h2
  have hl := r.length
  have hn := line63
  have fin : EP X pins σ Q w s := ⟨z, H, I, rw', q⟩
  by_cases h0 : 0 ≤ i
  · have hj : i.toNat = j := by
      rw [seqIndex_of h0 h5] at h1
      exact Option.some.inj h1
    exact item_listR pl.isList h0 (by omega) (by rw [hj]; simpa using ew) fin hs
  · have hj : (i + (its.toArray.size : Int)).toNat = j := by
      rw [seqIndex_neg (by omega) h4] at h1
      rw [List.size_toArray, ← hl]
      exact Option.some.inj h1
    exact subscriptTail_builtinR (x := w) pl.isList.typeIs slot_list_getitem.lookup
      (wpAny_getItem_list_neg (Q := fun r s' => r = w ∧ EP X pins σ Q r s') pl.isList (by omega) (by rw [List.size_toArray] <;> omega) (by omega) (by rw [hj]; simpa using ew) ⟨rfl, fin⟩) hs
theorem ix_tup : IxR X (rIxT X.K) := by
  intro value slice pins s σ H x y v u Q I rx ry h hs
  obtain ⟨p, xs, i, z, rfl, rfl, hq, he, q⟩ := h
  cases rx
  obtain ⟨t, rfl⟩ := ry
  obtain ⟨its, r, pl, hz⟩ := I.tuple hq
  obtain ⟨j, h1, h2, h3, h4, h5⟩ := atI_get he
  obtain ⟨w, ew, rw'⟩ := r.get h2
  have hl := r.length
  have hn := line63
  have fin : EP X pins σ Q w s := ⟨z, H, I, rw', q⟩
  exact subscriptTail_builtinR (x := w) pl.typeIs slot_tuple_getitem.lookup
    (getItem_tuple (j := j) (Q := fun r s' => r = w ∧ EP X pins σ Q r s') pl (by omega) (by omega) (by rw [List.size_toArray, ← hl]; exact h1) (by simpa using ew) ⟨rfl, fin⟩) hs
theorem ix_str : IxR X rIxS := by
  intro value slice pins s σ H x y v u Q I rx ry h hs
  obtain ⟨z, i, c, rfl, rfl, hz, he, q⟩ := h
  obtain ⟨t, rfl⟩ := rx
  obtain ⟨t', rfl⟩ := ry
  obtain ⟨j, h1, h2, h3, h4, h5⟩ := atI_get he
  have hl : z.cps.toList.length = z.length := by simp [Str.length]
  rw [hl] at h1 h4 h5
  have hn := line63
  exact tail_any (typeIs_str s z t) slot_str_getitem.lookup (getItem_str (c := c) (by
    have e1 : decide (i < -(2 ^ 63 : Int)) = false := decide_eq_false (by omega)
    have e2 : decide (i ≥ 2 ^ 63) = false := decide_eq_false (by omega)
    rw [e1, e2, Bool.or_false]) (by rw [h1]; simpa using h2) ⟨.str ⟨#[c]⟩, H, I.tok _, ⟨_, rfl⟩, q⟩) hs
/-- list, tuple or str -/
def rIx (K : PySem.W.Frag) : R2 := fun x y H Q => rIxL K x y H Q ∨ rIxT K x y H Q ∨ rIxS x y H Q
theorem ix_seq : IxR X (rIx X.K) := ix_list.or (ix_tup.or ix_str)

/-! ### xs[i] = v, any sign -/
/-- the list's object behind a store -/
theorem mapSeq_set (its : List Value) (n j : Nat) (u : Value) : Obj.mapSeq (·.setIfInBounds j u) { cls := .type "list", data := .seq its.toArray n } = { cls := .type "list", data := .seq (its.set j u).toArray n } := by
  simp [Obj.mapSeq]
theorem Inv.lst {pins : List (Addr × Obj)} {σ : St} {H : Hp} {s : Shared} {p : Addr} {xs : List V} (I : Inv X pins σ H s) (h : H p = some (.lst xs)) :
    ∃ (its : List Value) (n : Nat), Vals xs its ∧ s.heap.get? p = some { cls := .type "list", data := .seq its.toArray n } ∧ xs.length ≤ sizeLine := by
  obtain ⟨z, its, n, r, e⟩ := I.hok p _ h
  exact ⟨its, n, r, e, z⟩
/-- the list at p is written by an update of its object -/
theorem Inv.lstUpd {pins : List (Addr × Obj)} {σ : St} {H : Hp} {s : Shared} {p : Addr} {xs ys : List V} {its its' : List Value} {n n' : Nat} {f : Obj → Obj} (I : Inv X pins σ H s) (h : H p = some (.lst xs))
    (ho : s.heap.get? p = some { cls := .type "list", data := .seq its.toArray n }) (hf : f { cls := .type "list", data := .seq its.toArray n } = { cls := .type "list", data := .seq its'.toArray n' }) (r : Vals ys its') (hz : ys.length ≤ sizeLine) (t : Nat) :
    Inv X pins σ (upd H p (.lst ys)) { s with heap := s.heap.update p f, toks := t } := by
  have e : (s.heap.update p f).get? p = some { cls := .type "list", data := .seq its'.toArray n' } := by
    rw [Heap.get?_update_self f ho (by rw [hf] <;> rfl), hf]
  refine I.write (x := p) (e := p) (by rw [h]; trivial) (.inl rfl) (fun b u hb q => (Heap.get?_update_other _ _ (Ne.symm hb)).trans q) ⟨_, e⟩ ?_
  exact ⟨hz, its', n', r, e⟩
def rSetL : V → V → V → Hp → (Hp → Prop) → Prop := fun o i v H Q => ∃ p xs k j, o = .ref p ∧ i = .int k ∧ H p = some (.lst xs) ∧ ixN xs.length k = some j ∧ Q (upd H p (.lst (xs.set j v)))
theorem set_list : PSet X rSetL := by
  intro pins s σ H o i v ov iv u Q I ro ri rv h
  obtain ⟨p, xs, k, j, rfl, rfl, hp, hj, q⟩ := h
  cases ro
  obtain ⟨t, rfl⟩ := ri
  obtain ⟨its, n, r, ho, hz⟩ := I.lst hp
  obtain ⟨h1, h2, h3, h4⟩ := ixN_seq hj
  have hl := r.length
  have hn := line63
  have I' : Inv X pins σ (upd H p (.lst (xs.set j v))) { s with heap := s.heap.update p (Obj.mapSeq (·.setIfInBounds j u)) } :=
    I.lstUpd hp ho (mapSeq_set its n j u) (r.set rv j) (by rw [List.length_set]; exact hz) s.toks
  by_cases h0 : 0 ≤ k
  · have hk : k.toNat = j := by
      rw [seqIndex_of h0 h4] at h1
      exact Option.some.inj h1
    exact PySem.W.ki_setAt ho h0 (by omega) (by rw [List.size_toArray, ← hl]; exact h4) (by rw [hk]; exact ⟨_, I', q⟩)
  · have hk : (k + (its.toArray.size : Int)).toNat = j := by
      rw [seqIndex_neg (by omega) h3] at h1
      rw [List.size_toArray, ← hl]
      exact Option.some.inj h1
    exact PySem.W.ki_setBack ho (by omega) (by rw [List.size_toArray, ← hl]; exact h3) (by omega) (by rw [hk]; exact ⟨_, I', q⟩)

/-! ### slices -/
theorem slice_bounds (lo hi : Option Int) (n : Nat) : (sliceBounds lo hi none n).1 = ((HT.sIx n 0 lo : Nat) : Int) ∧ (sliceBounds lo hi none n).2.1 = ((HT.sIx n n hi : Nat) : Int) ∧ (sliceBounds lo hi none n).2.2 = 1 := by
  refine ⟨?_, ?_, rfl⟩
  · cases lo with
    | none => simp [sliceBounds, HT.sIx]
    | some i =>
      simp only [sliceBounds, HT.sIx, Option.getD_none, show (1 : Int) > 0 by decide, if_true]
      by_cases h : i < 0
      · simp only [h, if_true] <;> omega
      · simp only [h, if_false] <;> omega
  · cases hi with
    | none => simp [sliceBounds, HT.sIx]
    | some i =>
      simp only [sliceBounds, HT.sIx, Option.getD_none, show (1 : Int) > 0 by decide, if_true]
      by_cases h : i < 0
      · simp only [h, if_true] <;> omega
      · simp only [h, if_false] <;> omega
theorem slicePick_cut (its : List Value) (lo hi : Option Int) : slicePick its.toArray lo hi none = ((its.drop (HT.sIx its.length 0 lo)).take (HT.sIx its.length its.length hi - HT.sIx its.length 0 lo)).toArray := by
  obtain ⟨h1, h2, h3⟩ := slice_bounds lo hi its.toArray.size
  unfold slicePick
  rw [h1, h2, h3]
  simp only [sliceRange_one, pick_run, List.size_toArray] <;> rfl
/-- xs[lo:hi] of a list: a new list -/
def rSlL (K : PySem.W.Frag) : V → Option Int → Option Int → Hp → VK → Prop := fun x lo hi H Q => ∃ a xs, x = .ref a ∧ SqL K H a xs ∧ ∀ p, H p = none → Q (.ref p) (upd H p (.lst (cutV xs lo hi)))
theorem sl_list : SlR X (rSlL X.K) := by
  intro pins s σ H x v vl vu lo hi sl Q I rx hs pl pu h
  obtain ⟨a, xs, rfl, hx, q⟩ := h
  cases rx
  obtain ⟨its, r, ht, hz⟩ := I.list hx
  have hlen := r.length
  refine ⟨"list", _, slot_list_getitem.lookup, ht.isList.typeIs, ?_⟩
  refine wpAny_getItem_list_slice ht.isList hs pl pu .none (by simp) ?_ (by rw [List.size_toArray] <;> omega)
  rw [slicePick_cut, ← hlen]
  refine ⟨.ref s.heap.objs.size, _, I.laid (t' := s.toks) (o := .lst (cutV xs lo hi)) (fun b ob q => Heap.get?_push_of_some _ q) (Nat.le_refl _) ?_, rfl, q _ (I.hok.fresh (Nat.le_refl _))⟩
  exact ⟨Nat.le_trans (cutV_length xs lo hi) hz, _, 0, (r.drop (HT.sIx xs.length 0 lo)).take (HT.sIx xs.length xs.length hi - HT.sIx xs.length 0 lo), Heap.get?_push_size _ rfl⟩

/-! ### in, not in: flat items -/
def flatV : V → Bool
  | .non => true
  | .bl _ => true
  | .int _ => true
  | .str _ => true
  | _ => false
/-- == of flat values -/
def eqV : V → V → Bool
  | .non, .non => true
  | .bl a, .bl b => a == b
  | .bl a, .int b => (if a then 1 else 0) == b
  | .int a, .bl b => a == (if b then 1 else 0)
  | .int a, .int b => a == b
  | .str a, .str b => a == b
  | _, _ => false
theorem eqAt_V {A : Around} {s : Shared} {y x : V} {u v : Value} (ry : RelV y u) (rx : RelV x v) (fy : flatV y = true) (fx : flatV x = true) : SeqAt.EqAt A s u v (eqV y x) := by
  cases y with
  | non =>
    cases ry
    cases x with
    | non => cases rx; exact SeqAt.EqAt.same _
    | bl b => cases rx; exact SeqAt.EqAt.none_bool b
    | int b => obtain ⟨t, rfl⟩ := rx; exact SeqAt.EqAt.none_int b t
    | str b => obtain ⟨t, rfl⟩ := rx; exact SeqAt.EqAt.none_str b t
    | _ => exact absurd (show false = true from fx) Bool.false_ne_true
  | bl a =>
    cases ry
    cases x with
    | non => cases rx; exact SeqAt.EqAt.bool_none a
    | bl b => cases rx; exact SeqAt.EqAt.bool_bool a b
    | int b => obtain ⟨t, rfl⟩ := rx; exact SeqAt.EqAt.bool_int a b t
    | str b => obtain ⟨t, rfl⟩ := rx; exact SeqAt.EqAt.bool_str a b t
    | _ => exact absurd (show false = true from fx) Bool.false_ne_true
  | int a =>
    obtain ⟨t', rfl⟩ := ry
    cases x with
    | non => cases rx; exact SeqAt.EqAt.int_none a t'
    | bl b => cases rx; exact SeqAt.EqAt.int_bool a t' b
    | int b => obtain ⟨t, rfl⟩ := rx; exact SeqAt.EqAt.int_int a t' b t
    | str b => obtain ⟨t, rfl⟩ := rx; exact SeqAt.EqAt.int_str a t' b t
    | _ => exact absurd (show false = true from fx) Bool.false_ne_true
  | str a =>
    obtain ⟨t', rfl⟩ := ry
    cases x with
    | non => cases rx; exact SeqAt.EqAt.str_none a t'
    | bl b => cases rx; exact SeqAt.EqAt.str_bool a t' b
    | int b => obtain ⟨t, rfl⟩ := rx; exact SeqAt.EqAt.str_int a t' b t
    | str b => obtain ⟨t, rfl⟩ := rx; exact SeqAt.EqAt.str_str a t' b t
    | _ => exact absurd (show false = true from fx) Bool.false_ne_true
  | _ => exact absurd (show false = true from fy) Bool.false_ne_true
/-- the items' answers, read off the values (a value's own answer does not lean on its token) -/
def eqU (x : V) (u : Value) : Bool := match u with
  | .none => eqV .non x
  | .bool b => eqV (.bl b) x
  | .int i _ => eqV (.int i) x
  | .str z _ => eqV (.str z) x
  | _ => false
theorem eqU_of {x y : V} {u : Value} (r : RelV y u) (f : flatV y = true) : eqU x u = eqV y x := by
  cases y with
  | non => cases r; rfl
  | bl b => cases r; rfl
  | int i => obtain ⟨t, rfl⟩ := r; rfl
  | str z => obtain ⟨t, rfl⟩ := r; rfl
  | _ => exact absurd (show false = true from f) Bool.false_ne_true
theorem any_eqU {x : V} : ∀ {xs : List V} {us : List Value}, Vals xs us → xs.all flatV = true → us.any (eqU x) = xs.any fun y => eqV y x
  | _, _, .nil, _ => rfl
  | y :: xs, u :: us, .cons r t, f => by
    rw [List.all_cons, Bool.and_eq_true] at f
    rw [List.any_cons, List.any_cons, eqU_of r f.1, any_eqU t f.2]
theorem mem_eqAt {A : Around} {s : Shared} {x : V} {v : Value} (rx : RelV x v) (fx : flatV x = true) : ∀ {xs : List V} {us : List Value}, Vals xs us → xs.all flatV = true → ∀ u ∈ us, SeqAt.EqAt A s u v (eqU x u)
  | _, _, .nil, _ => fun u hu => by cases hu
  | y :: xs, u :: us, .cons r t, f => fun u' hu => by
    rw [List.all_cons, Bool.and_eq_true] at f
    rcases List.mem_cons.mp hu with rfl | hu
    · rw [eqU_of r f.1]; exact eqAt_V r rx f.1 fx
    · exact mem_eqAt rx fx t f.2 u' hu
def inV (x : V) (xs : List V) : Bool := xs.any fun y => eqV y x
/-- x in a list or tuple of flat items -/
def rIn (K : PySem.W.Frag) (neg : Bool) : R2 := fun x y H Q => ∃ p xs, y = .ref p ∧ (SqL K H p xs ∨ SqT K H p xs) ∧ flatV x = true ∧ xs.all flatV = true ∧ Q (.bl (if neg then !inV x xs else inV x xs)) H
theorem op_in_seq : OpR X (compareOp .In) (rIn X.K false) := by
  intro pins s σ H x y v u Q I rx ry h
  obtain ⟨p, xs, rfl, hq, fx, fs, q⟩ := h
  cases ry
  rcases hq with hq | hq
  · obtain ⟨its, r, pl, hz⟩ := I.list hq
    refine SeqAt.in_listAt (eqU x) pl.isList (fun w hw => mem_eqAt rx fx r fs w (by simpa using hw)) ⟨.bl _, H, I, rfl, ?_⟩
    rw [show its.toArray.any (eqU x) = its.any (eqU x) by simp, any_eqU r fs]
    exact q
  · obtain ⟨its, r, pl, hz⟩ := I.tuple hq
    refine SeqAt.in_tupleAt (eqU x) pl (fun w hw => mem_eqAt rx fx r fs w (by simpa using hw)) ⟨.bl _, H, I, rfl, ?_⟩
    rw [show its.toArray.any (eqU x) = its.any (eqU x) by simp, any_eqU r fs]
    exact q
theorem op_notIn_seq : OpR X (compareOp .NotIn) (rIn X.K true) := by
  intro pins s σ H x y v u Q I rx ry h
  obtain ⟨p, xs, rfl, hq, fx, fs, q⟩ := h
  cases ry
  rcases hq with hq | hq
  · obtain ⟨its, r, pl, hz⟩ := I.list hq
    refine SeqAt.notIn_listAt (eqU x) pl.isList (fun w hw => mem_eqAt rx fx r fs w (by simpa using hw)) ⟨.bl _, H, I, rfl, ?_⟩
    rw [show its.toArray.any (eqU x) = its.any (eqU x) by simp, any_eqU r fs]
    exact q
  · obtain ⟨its, r, pl, hz⟩ := I.tuple hq
    refine SeqAt.notIn_tupleAt (eqU x) pl (fun w hw => mem_eqAt rx fx r fs w (by simpa using hw)) ⟨.bl _, H, I, rfl, ?_⟩
    rw [show its.toArray.any (eqU x) = its.any (eqU x) by simp, any_eqU r fs]
    exact q
theorem op_notIn_str : OpR X (compareOp .NotIn) (fun x y H Q => ∃ i j, x = .str i ∧ y = .str j ∧ Q (.bl (!(!(Builtin.Str.occurrences j i 0 j.length 1).isEmpty))) H) := by
  intro pins s σ H x y v u Q I rx ry h
  obtain ⟨i, j, rfl, rfl, q⟩ := h
  obtain ⟨t, rfl⟩ := rx
  obtain ⟨t', rfl⟩ := ry
  exact notIn_str ⟨.bl _, H, I, rfl, q⟩

/-! ### len, list(x), tuple(x) of any list or tuple that is read -/
theorem call_len_seq : CallR X (.builtin "len") (fun xs H Q => ∃ p ys, xs = [.ref p] ∧ (SqL X.K H p ys ∨ SqT X.K H p ys) ∧ Q (.int ys.length) H) := by
  intro pins s σ H xs us Q I r h
  obtain ⟨p, ys, rfl, hq, q⟩ := h
  obtain ⟨u, rfl, rx⟩ := vals1 r
  cases rx
  have hn := line63
  rcases hq with hq | hq
  · obtain ⟨its, r', pl, hz⟩ := I.list hq
    have hlen := r'.length
    exact Calls.call_len_list pl.isList (by simp only [List.size_toArray] <;> omega) ⟨.int ys.length, H, I.tok _, ⟨s.toks + 1, by rw [List.size_toArray, hlen]⟩, q⟩
  · obtain ⟨its, r', pl, hz⟩ := I.tuple hq
    have hlen := r'.length
    exact len_tuple pl (by simp only [List.size_toArray] <;> omega) ⟨.int ys.length, H, I.tok _, ⟨s.toks + 1, by rw [List.size_toArray, hlen]⟩, q⟩
theorem call_len_str : CallR X (.builtin "len") (fun xs H Q => ∃ z, xs = [.str z] ∧ z.length ≤ sizeLine ∧ Q (.int z.length) H) := by
  intro pins s σ H xs us Q I r h
  obtain ⟨z, rfl, hz, q⟩ := h
  obtain ⟨u, rfl, t, rfl⟩ := vals1 r
  have hn := line63
  exact len_str (by omega) ⟨.int z.length, H, I.tok _, ⟨_, rfl⟩, q⟩
theorem CallR.or {f : Value} {r r' : List V → Hp → VK → Prop} (h : CallR X f r) (h' : CallR X f r') : CallR X f (fun xs H Q => r xs H Q ∨ r' xs H Q) := by
  intro pins s σ H xs us Q I rs q
  rcases q with q | q
  · exact h pins s σ H xs us Q I rs q
  · exact h' pins s σ H xs us Q I rs q
theorem call_list_of : CallR X (.type "list") (fun xs H Q => ∃ p ys, xs = [.ref p] ∧ (SqL X.K H p ys ∨ SqT X.K H p ys) ∧ ∀ l, H l = none → Q (.ref l) (upd H l (.lst ys))) := by
  intro pins s σ H xs us Q I r h
  obtain ⟨p, ys, rfl, hq, q⟩ := h
  obtain ⟨u, rfl, rx⟩ := vals1 r
  cases rx
  have fin : ∀ (its : List Value), Vals ys its → ys.length ≤ sizeLine → ∀ (h' : Heap) (c' : Nat), (∀ b o', s.heap.get? b = some o' → h'.get? b = some o') →
      h'.get? s.heap.objs.size = some { cls := .type "list", dict := none, data := .seq its.toArray c', slots := #[] } → EP X pins σ Q (.ref s.heap.objs.size) { s with heap := h' } := fun its r' hz h' c' kp e =>
    ⟨.ref s.heap.objs.size, _, I.laid (t' := s.toks) kp (Nat.le_refl _) (show ObjOk X.prog X.w _ h' _ (.lst ys) from ⟨hz, its, c', r', e⟩), rfl, q _ (I.hok.fresh (Nat.le_refl _))⟩
  rcases hq with hq | hq
  · obtain ⟨its, r', pl, hz⟩ := I.list hq
    have hlen := r'.length
    obtain ⟨o, ho, hc, n, hd⟩ := pl.isList
    exact call_list_seq p (.inl rfl) ho hc hd (fun h' c' kp e => fin its r' hz h' c' kp e) (by simp only [List.size_toArray] <;> omega)
  · obtain ⟨its, r', pl, hz⟩ := I.tuple hq
    have hlen := r'.length
    obtain ⟨o, ho, hc, n, hd⟩ := pl
    exact call_list_seq p (.inr rfl) ho hc hd (fun h' c' kp e => fin its r' hz h' c' kp e) (by simp only [List.size_toArray] <;> omega)
theorem call_tuple_of : CallR X (.type "tuple") (fun xs H Q => ∃ p ys, xs = [.ref p] ∧ ((SqL X.K H p ys ∧ ∀ l, H l = none → Q (.ref l) (upd H l (.tup ys))) ∨ (SqT X.K H p ys ∧ Q (.ref p) H))) := by
  intro pins s σ H xs us Q I r h
  obtain ⟨p, ys, rfl, h⟩ := h
  obtain ⟨u, rfl, rx⟩ := vals1 r
  cases rx
  rcases h with ⟨hq, q⟩ | ⟨hq, q⟩
  · obtain ⟨its, r', pl, hz⟩ := I.list hq
    have hlen := r'.length
    refine call_tuple_list pl.isList (fun h' kp => ?_) (by simp only [List.size_toArray] <;> omega)
    have I1 : Inv X pins σ H { s with heap := h' } := I.kept (t' := s.toks) kp
    have I2 : Inv X pins σ (upd H h'.objs.size (.tup ys)) { s with heap := h'.push { cls := .type "tuple", data := .seq its.toArray } } :=
      I1.laid (t' := s.toks) (fun b o e => Heap.get?_push_of_some _ e) (Nat.le_refl _) (show ObjOk X.prog X.w _ _ _ (.tup ys) from ⟨hz, its, r', IsTup.new _ _⟩)
    exact ⟨.ref h'.objs.size, _, I2, rfl, q _ (I1.hok.fresh (Nat.le_refl _))⟩
  · obtain ⟨its, r', pl, hz⟩ := I.tuple hq
    exact call_tuple_same pl ⟨.ref p, H, I, rfl, q⟩

/-! ### the call of a builtin's method: o.m(..) -/
/-- the value is of that builtin type -/
def tyV (K : PySem.W.Frag) (T : String) (x : V) (H : Hp) : Prop := match x with
  | .str _ => T = "str"
  | .int _ => T = "int"
  | .ref p => (T = "list" ∧ ∃ xs, SqL K H p xs) ∨ (T = "tuple" ∧ ∃ o, K.lookup p = some o ∧ o.cls = .type "tuple" ∧ o.dict = none) ∨
      (T = "dict" ∧ ((∃ kvs, H p = some (.dK kvs)) ∨ ∃ kvs, H p = some (.dT kvs))) ∨ (T = "set" ∧ ∃ S n, H p = some (.set S n))
  | _ => False
theorem tyV_is {pins : List (Addr × Obj)} {σ : St} {H : Hp} {s : Shared} {T : String} {x : V} {v : Value} (I : Inv X pins σ H s) (r : RelV x v) (ty : tyV X.K T x H) :
    s.TypeIs v T ∧ ∀ a, v = .ref a → ∃ ob, s.heap.get? a = some ob ∧ ob.dict = none := by
  cases x with
  | str z =>
    obtain ⟨t, rfl⟩ := r
    cases (show T = "str" from ty)
    exact ⟨typeIs_str s z t, fun _ e => nomatch e⟩
  | int i =>
    obtain ⟨t, rfl⟩ := r
    cases (show T = "int" from ty)
    exact ⟨typeIs_int s i t, fun _ e => nomatch e⟩
  | ref p =>
    cases r
    rcases ty with ⟨rfl, xs, hq⟩ | ⟨rfl, o, hk, hc, hd⟩ | ⟨rfl, hk⟩ | ⟨rfl, S, n, hk⟩
    · obtain ⟨its, _, pl, _⟩ := I.list hq
      refine ⟨pl.isList.typeIs, fun a e => ?_⟩
      cases e
      obtain ⟨o, n, e, c, hd, _⟩ := pl
      exact ⟨o, e, hd⟩
    · refine ⟨⟨o, I.kIn p o hk, hc⟩, fun a e => ?_⟩
      cases e
      exact ⟨o, I.kIn _ o hk, hd⟩
    · have z : ∃ o, s.heap.get? p = some o ∧ o.ExactDict := by
        rcases hk with ⟨kvs, hk⟩ | ⟨kvs, hk⟩
        · obtain ⟨_, _, _, _, o, _, _, e, ex, _⟩ := I.hok p _ hk
          exact ⟨o, e, ex⟩
        · obtain ⟨_, _, _, _, o, _, _, e, ex, _⟩ := I.hok p _ hk
          exact ⟨o, e, ex⟩
      obtain ⟨o, e, ex⟩ := z
      refine ⟨⟨o, e, ex.1⟩, fun a e2 => ?_⟩
      cases e2
      exact ⟨o, e, ex.2.1⟩
    · obtain ⟨o, _, _, _, e, ex, _⟩ := I.hok p _ hk
      refine ⟨⟨o, e, ex.1⟩, fun a e2 => ?_⟩
      cases e2
      exact ⟨o, e, ex.2.1⟩
  | _ => exact False.elim ty
def tBM0 (K : PySem.W.Frag) (T : String) (r : V → List V → Hp → VK → Prop) (to : TE) : TE := fun σ H Q => to σ H fun x H1 => tyV K T x H1 ∧ r x [] H1 Q
def tBM (K : PySem.W.Frag) (T : String) (r : V → List V → Hp → VK → Prop) (to : TE) (t : TA) : TE := fun σ H Q => to σ H fun x H1 => tyV K T x H1 ∧ t σ H1 fun xs H2 => r x xs H2 Q
variable {o e : Expr} {es : List Expr} {to : TE} {t : TA} {name : Str} {apos cpos : Pos} {T id : String} {r : V → List V → Hp → VK → Prop}
theorem pe_bm0 (pa : PlainAttrs T) (slot : Slot T name id) (hty : typeOf (.builtin id) = pure (.type "method_descriptor")) (hm : MtR X id r) (ho : PE X o to)
    (hbase : attributeBase o name X.env (eval o X.env) = eval o X.env := by rfl) (hline : (apos.endLine == cpos.line) = true := by rfl) : PE X (.Call (.Attribute o name apos) [] [] cpos) (tBM0 X.K T r to) := by
  intro pins s σ H Q I h
  refine wpAny_Call_method0_late hbase hline (thn (ho pins s σ H _ I h) fun v s1 ⟨x, H1, I1, r1, ty, q1⟩ => ?_)
  obtain ⟨h1, h2⟩ := tyV_is I1 r1 ty
  exact ⟨T, id, pa, slot, hty, h1, h2, Calls.callWith_builtin rfl (PySem.evalArgs_none (hm pins s1 σ H1 x [] v [] Q I1 r1 .nil q1))⟩
theorem pe_bm (pa : PlainAttrs T) (slot : Slot T name id) (hty : typeOf (.builtin id) = pure (.type "method_descriptor")) (hm : MtR X id r) (ho : PE X o to) (ha : PA X (e :: es) t)
    (hbase : attributeBase o name X.env (eval o X.env) = eval o X.env := by rfl)
    (hfew : ((backTo cpos (starEach (e :: es) X.env)).all (fun x => !x.1) && (backToKw cpos (keywordEach [] X.env)).all (fun x => x.1.isSome)
      && decide ((e :: es).length + ([] : List Keyword).length + (if ([] : List Keyword).isEmpty then 0 else 1) < 30)) = true := by rfl)
    (hline : (apos.endLine == cpos.line) = true := by rfl) (hs : starEach (e :: es) X.env = (false, eval e X.env) :: starEach es X.env := by rfl) (hplain : (backTo cpos (starEach es X.env)).any (·.1) = false := by rfl) :
    PE X (.Call (.Attribute o name apos) (e :: es) [] cpos) (tBM X.K T r to t) := by
  intro pins s σ H Q I h
  refine wpAny_Call_method_late hbase hfew hline rfl (thn (ho pins s σ H _ I h) fun v s1 ⟨x, H1, I1, r1, ty, q1⟩ => ?_)
  obtain ⟨h1, h2⟩ := tyV_is I1 r1 ty
  refine ⟨T, id, pa, slot, hty, h1, h2, ?_⟩
  have hA := ha cpos pins s1 σ H1 _ I1 q1
  rw [hs] at hA ⊢
  refine Calls.callWith_builtin (by show (false || (backTo cpos (starEach es X.env)).any (·.1)) = false; rw [hplain] <;> rfl) (Calls.evalArgs_plain ?_)
  exact thn hA fun us s2 ⟨vs, H2, I2, r2, q2⟩ => hm pins s2 σ H2 x vs v us Q I2 r1 r2 q2
/- xs.append(e), list.index on a module's tuple .. are MtR facts of 06m -/
end
end L2

namespace L2
open PySem PySem.Spec PyProof.Rows

def MtM (X : Cx) (id : String) (r : V → List V → Hp → VK → Prop) : Prop :=
  ∀ (pins : List (Addr × Obj)) (s : Shared) (σ : St) (H : Hp) (x : V) (xs : List V) (v : Value) (us : List Value) (Q : VK), Inv X pins σ H s → RelV x v → Vals xs us → r x xs H Q →
    wpAny (model X.prog X.w) X.A (call (.builtin id) (v :: us)) (EP X pins σ Q) X.xe s

/-! ### lists of values -/
theorem Vals.one : ∀ {x : V} {us : List Value}, Vals [x] us → ∃ u, us = [u] ∧ RelV x u
  | _, _, .cons r .nil => ⟨_, rfl, r⟩
theorem Vals.two : ∀ {x y : V} {us : List Value}, Vals [x, y] us → ∃ u v, us = [u, v] ∧ RelV x u ∧ RelV y v
  | _, _, _, .cons r (.cons q .nil) => ⟨_, _, rfl, r, q⟩
theorem Vals.zero : ∀ {us : List Value}, Vals [] us → us = []
  | _, .nil => rfl
theorem Vals.dropLast {xs : List V} {us : List Value} (h : Vals xs us) : Vals xs.dropLast us.dropLast := by
  induction h with
  | nil => exact .nil
  | cons r t ih =>
    cases t with
    | nil => exact .nil
    | cons q t' => exact .cons r ih
theorem Vals.eraseIdx : ∀ {xs : List V} {us : List Value} (i : Nat), Vals xs us → Vals (xs.eraseIdx i) (us.eraseIdx i)
  | _, _, _, .nil => .nil
  | _, _, 0, .cons _ t => t
  | _, _, i + 1, .cons r t => .cons r (Vals.eraseIdx i t)
theorem Vals.reverse {xs : List V} {us : List Value} (h : Vals xs us) : Vals xs.reverse us.reverse := by
  induction h with
  | nil => exact .nil
  | cons r t ih => rw [List.reverse_cons, List.reverse_cons]; exact Vals.append ih (.cons r .nil)
theorem Vals.rep {xs : List V} {us : List Value} (h : Vals xs us) : ∀ k : Nat, Vals (List.replicate k xs).flatten (List.replicate k us).flatten
  | 0 => .nil
  | k + 1 => by
    rw [List.replicate_succ, List.replicate_succ, List.flatten_cons, List.flatten_cons]
    exact Vals.append h (Vals.rep h k)
theorem erase_last {α : Type} (l : List α) : l.eraseIdx (l.length - 1) = l.dropLast := by
  induction l with
  | nil => rfl
  | cons a r ih =>
    cases r with
    | nil => rfl
    | cons b r =>
      have e : (a :: b :: r).length - 1 = ((b :: r).length - 1) + 1 := by
        have h1 : (a :: b :: r).length = r.length + 2 := rfl
        have h2 : (b :: r).length = r.length + 1 := rfl
        omega
      rw [e, List.eraseIdx_cons_succ, ih]
      all_goals rfl
theorem len_erase {α : Type} : ∀ (l : List α) (i : Nat), (l.eraseIdx i).length ≤ l.length
  | [], _ => Nat.le_refl _
  | _ :: _, 0 => Nat.le_succ _
  | _ :: r, i + 1 => Nat.succ_le_succ (len_erase r i)
theorem foldl_rep (its : List Value) : ∀ (k : Nat) (acc : List Value),
    List.foldl (fun x1 x2 => x1 ++ x2) acc.toArray (List.replicate k its.toArray) = (acc ++ (List.replicate k its).flatten).toArray
  | 0, acc => by simp
  | k + 1, acc => by
    have e : acc.toArray ++ its.toArray = (acc ++ its).toArray := by simp
    have e2 : (acc ++ its) ++ (List.replicate k its).flatten = acc ++ (List.replicate (k + 1) its).flatten := by
      rw [List.replicate_succ, List.flatten_cons, List.append_assoc]
    rw [← e2, ← foldl_rep its k (acc ++ its), ← e, List.replicate_succ, List.foldl_cons]

section
variable {X : Cx} {pins : List (Addr × Obj)} {σ : St} {H : Hp} {s : Shared} {l b : Addr} {xs ys zs : List V}

/-! ### the two steps: a tracked list is rewritten, a new list is laid -/
theorem Inv.lset {its its' : List Value} {n : Nat} {f : Array Value → Array Value} {t' : Nat} (I : Inv X pins σ H s) (hH : H l = some (.lst xs))
    (e : s.heap.get? l = some { cls := .type "list", data := .seq its.toArray n }) (hf : f its.toArray = its'.toArray) (hv : Vals ys its') (hz : ys.length ≤ sizeLine) :
    Inv X pins σ (upd H l (.lst ys)) { s with heap := s.heap.update l (Obj.mapSeq f), toks := t' } := by
  have q := PySem.IsL.update e f
  rw [hf] at q
  refine I.write (x := l) (e := l) (by rw [hH]; exact trivial) (.inl rfl) (fun b' u hb hu => (Heap.get?_update_other s.heap (Obj.mapSeq f) (Ne.symm hb)).trans hu) ⟨_, q⟩ ?_
  exact ⟨hz, its', _, hv, q⟩
theorem Inv.lnew {its : List Value} {t' : Nat} (I : Inv X pins σ H s) (hv : Vals ys its) (hz : ys.length ≤ sizeLine) :
    Inv X pins σ (upd H s.heap.objs.size (.lst ys)) { s with heap := s.heap.push { cls := .type "list", data := .seq its.toArray }, toks := t' } :=
  I.laid (fun _ _ q => Heap.get?_push_of_some _ q) (Nat.le_refl _) ⟨hz, its, 0, hv, Heap.get?_push_size _ rfl⟩
theorem Inv.fresh (I : Inv X pins σ H s) : H s.heap.objs.size = none := I.hok.fresh (Nat.le_refl _)
theorem Inv.lstM (I : Inv X pins σ H s) (hH : H l = some (.lst xs)) : xs.length ≤ sizeLine ∧ ∃ (its : List Value) (n : Nat), Vals xs its ∧ xs.length = its.length ∧ s.heap.get? l = some { cls := .type "list", data := .seq its.toArray n } := by
  obtain ⟨z, its, n, r, e⟩ := I.hok l _ hH
  exact ⟨z, its, n, r, r.length, e⟩

theorem notLongL {n : Nat} (h : n ≤ sizeLine) : Builtin.List.listTooLong n = false := by
  unfold Builtin.List.listTooLong
  exact decide_eq_false (by omega)
end

section
variable {X : Cx}

/-! ### methods -/
def rAppend : V → List V → Hp → VK → Prop := fun x vs H Q => ∃ l xs y, x = .ref l ∧ vs = [y] ∧ H l = some (.lst xs) ∧ xs.length < sizeLine ∧ Q .non (upd H l (.lst (xs ++ [y])))
theorem mt_append : MtM X "list.append" rAppend := by
  intro pins s σ H x vs v us Q I rx rv h
  obtain ⟨l, xs, y, rfl, rfl, hH, hz, q⟩ := h
  cases rx
  obtain ⟨u, rfl, ru⟩ := rv.one
  obtain ⟨z, its, n, r, hl, e⟩ := I.lstM hH
  refine call_meets F.slot_list_append ⟨_, e, rfl⟩ F.entry_list_append (F.args_list_append_2 _ _) (PySem.list_append l its.toArray n u (by rw [List.size_toArray]; omega)) ⟨e, ?_⟩
  refine ⟨.non, _, I.lset (its' := its ++ [u]) hH e (by simp) (r.append (.cons ru .nil)) ?_, rfl, q⟩
  rw [List.length_append, List.length_singleton]
  omega

def rExtend : V → List V → Hp → VK → Prop := fun x vs H Q => ∃ l b xs zs, x = .ref l ∧ vs = [.ref b] ∧ H l = some (.lst xs) ∧ H b = some (.lst zs) ∧ xs.length + zs.length ≤ sizeLine ∧ Q .non (upd H l (.lst (xs ++ zs)))
theorem mt_extend : MtM X "list.extend" rExtend := by
  intro pins s σ H x vs v us Q I rx rv h
  obtain ⟨l, b, xs, zs, rfl, rfl, hH, hB, hz, q⟩ := h
  cases rx
  obtain ⟨u, rfl, ru⟩ := rv.one
  cases ru
  obtain ⟨z, its, n, r, hl, e⟩ := I.lstM hH
  obtain ⟨z2, its2, n2, r2, hl2, e2⟩ := I.lstM hB
  have hsz : its.toArray.size + its2.toArray.size ≤ sizeLine := by rw [List.size_toArray, List.size_toArray]; omega
  have hlong : ¬ (!its.toArray.isEmpty && Builtin.List.listTooLong (its.toArray.size + its2.toArray.size)) = true := by
    rw [notLongL hsz, Bool.and_false]
    exact Bool.false_ne_true
  refine call_meets F.slot_list_extend ⟨_, e, rfl⟩ F.entry_list_extend (F.args_list_extend_2 _ _)
    (AutoSeq1.list_extend_list_list_0 l its.toArray n b its2.toArray n2 hlong (by rw [List.size_toArray]; omega) (by omega)) ⟨e, e2, ?_⟩
  refine ⟨.non, _, I.lset (its' := its ++ its2) hH e (by simp) (r.append r2) ?_, rfl, q⟩
  rw [List.length_append]
  omega

def rPop : V → List V → Hp → VK → Prop := fun x vs H Q => ∃ l xs y, x = .ref l ∧ vs = [] ∧ H l = some (.lst xs) ∧ xs[xs.length - 1]? = some y ∧ Q y (upd H l (.lst xs.dropLast))
theorem mt_pop : MtM X "list.pop" rPop := by
  intro pins s σ H x vs v us Q I rx rv h
  obtain ⟨l, xs, y, rfl, rfl, hH, hy, q⟩ := h
  cases rx
  have hus := rv.zero
  subst hus
  obtain ⟨z, its, n, r, hl, e⟩ := I.lstM hH
  obtain ⟨u, hu, ru⟩ := r.get hy
  have hy' : its.toArray[its.toArray.size - 1]? = some u := by
    show its.toArray[its.length - 1]? = some u
    rw [← Array.getElem?_toList, ← hl]
    exact hu
  refine call_meets F.slot_list_pop ⟨_, e, rfl⟩ F.entry_list_pop (F.args_list_pop_1 _) (MeetsSeq.list_pop_last l its.toArray n u hy' (by rw [List.size_toArray]; omega)) ⟨e, ?_⟩
  refine ⟨y, _, I.lset (its' := its.dropLast) hH e ?_ r.dropLast ?_, ru, q⟩
  · show its.toArray.eraseIdxIfInBounds (its.toArray.size - 1) = its.dropLast.toArray
    rw [List.size_toArray, List.eraseIdxIfInBounds_toArray, erase_last]
  · rw [List.length_dropLast]
    omega

def rPopAt : V → List V → Hp → VK → Prop := fun x vs H Q => ∃ l xs i k y, x = .ref l ∧ vs = [.int i] ∧ H l = some (.lst xs) ∧ -(2 ^ 63) ≤ i ∧ i < 2 ^ 63 ∧ seqIndex? i xs.length = some k ∧ xs[k]? = some y ∧ Q y (upd H l (.lst (xs.eraseIdx k)))
theorem mt_popAt : MtM X "list.pop" rPopAt := by
  intro pins s σ H x vs v us Q I rx rv h
  obtain ⟨l, xs, i, k, y, rfl, rfl, hH, h1, h2, hk, hy, q⟩ := h
  cases rx
  obtain ⟨u, rfl, ru⟩ := rv.one
  obtain ⟨t, rfl⟩ := ru
  obtain ⟨z, its, n, r, hl, e⟩ := I.lstM hH
  obtain ⟨w, hw, rw'⟩ := r.get hy
  refine call_meets F.slot_list_pop ⟨_, e, rfl⟩ F.entry_list_pop (F.args_list_pop_2 _ _)
    (MeetsSeq.list_pop_at l its.toArray n i t k w (fitsIndex_both h1 h2) (by rw [List.size_toArray, ← hl]; exact hk) (by rw [← Array.getElem?_toList]; exact hw) (by rw [List.size_toArray]; omega)) ⟨e, ?_⟩
  refine ⟨y, _, I.lset (its' := its.eraseIdx k) hH e ?_ (r.eraseIdx k) ?_, rw', q⟩
  · show its.toArray.eraseIdxIfInBounds k = (its.eraseIdx k).toArray
    rw [List.eraseIdxIfInBounds_toArray]
  · have := len_erase xs k
    omega

def rReverse : V → List V → Hp → VK → Prop := fun x vs H Q => ∃ l xs, x = .ref l ∧ vs = [] ∧ H l = some (.lst xs) ∧ Q .non (upd H l (.lst xs.reverse))
theorem mt_reverse : MtM X "list.reverse" rReverse := by
  intro pins s σ H x vs v us Q I rx rv h
  obtain ⟨l, xs, rfl, rfl, hH, q⟩ := h
  cases rx
  have hus := rv.zero
  subst hus
  obtain ⟨z, its, n, r, hl, e⟩ := I.lstM hH
  refine call_meets F.slot_list_reverse ⟨_, e, rfl⟩ F.entry_list_reverse (F.args_list_reverse_1 _) (AutoSeq1.list_reverse_list_0 l its.toArray n (by rw [List.size_toArray]; omega)) ⟨e, ?_⟩
  refine ⟨.non, _, I.lset (its' := its.reverse) hH e (by simp) r.reverse ?_, rfl, q⟩
  rw [List.length_reverse]
  omega

def rClear : V → List V → Hp → VK → Prop := fun x vs H Q => ∃ l xs, x = .ref l ∧ vs = [] ∧ H l = some (.lst xs) ∧ Q .non (upd H l (.lst []))
theorem mt_clear : MtM X "list.clear" rClear := by
  intro pins s σ H x vs v us Q I rx rv h
  obtain ⟨l, xs, rfl, rfl, hH, q⟩ := h
  cases rx
  have hus := rv.zero
  subst hus
  obtain ⟨z, its, n, r, hl, e⟩ := I.lstM hH
  refine call_meets F.slot_list_clear ⟨_, e, rfl⟩ F.entry_list_clear (F.args_list_clear_1 _) (AutoSeq1.list_clear_list_0 l its.toArray n (by rw [List.size_toArray]; omega)) ⟨e, ?_⟩
  exact ⟨.non, _, I.lset (its' := []) (ys := []) hH e rfl .nil (Nat.zero_le _), rfl, q⟩

/-! ### list + list, list += list, list * int -/
def rCat : R2 := fun x y H Q => ∃ l b xs zs, x = .ref l ∧ y = .ref b ∧ H l = some (.lst xs) ∧ H b = some (.lst zs) ∧ xs.length + zs.length ≤ sizeLine ∧ ∀ p, H p = none → Q (.ref p) (upd H p (.lst (xs ++ zs)))
theorem op_cat : OpR X (binaryOp .Add) rCat := by
  intro pins s σ H x y v u Q I rx ry h
  obtain ⟨l, b, xs, zs, rfl, rfl, hH, hB, hz, q⟩ := h
  cases rx
  cases ry
  obtain ⟨z, its, n, r, hl, e⟩ := I.lstM hH
  obtain ⟨z2, its2, n2, r2, hl2, e2⟩ := I.lstM hB
  refine PySem.P.add_list e e2 ?_ (by rw [List.size_toArray, List.size_toArray]; omega)
  have ea : its.toArray ++ its2.toArray = (its ++ its2).toArray := by simp
  rw [ea]
  exact ⟨.ref _, _, I.lnew (t' := s.toks) (r.append r2) (by rw [List.length_append]; omega), rfl, q _ I.fresh⟩
/-- a list times an int (a negative one is nothing) -/
def rRep : R2 := fun x y H Q => ∃ l k xs, x = .ref l ∧ y = .int k ∧ H l = some (.lst xs) ∧ -(2 ^ 63) ≤ k ∧ k < 2 ^ 63 ∧ xs.length * k.toNat ≤ sizeLine ∧
  ∀ p, H p = none → Q (.ref p) (upd H p (.lst (List.replicate k.toNat xs).flatten))
theorem len_rep {α : Type} (xs : List α) (k : Nat) : (List.replicate k xs).flatten.length = k * xs.length := by
  induction k with
  | zero => simp
  | succ k ih => rw [List.replicate_succ, List.flatten_cons, List.length_append, ih, Nat.succ_mul, Nat.add_comm]
theorem op_rep : OpR X (binaryOp .Mult) rRep := by
  intro pins s σ H x y v u Q I rx ry h
  obtain ⟨l, k, xs, rfl, rfl, hH, h1, h2, hz, q⟩ := h
  cases rx
  obtain ⟨t, rfl⟩ := ry
  obtain ⟨z, its, n, r, hl, e⟩ := I.lstM hH
  have hlen : its.toArray.size * k.toNat ≤ sizeLine := by rw [List.size_toArray, ← hl]; exact hz
  have hcap : ¬ its.toArray.size * k.toNat > (2 ^ 63 - 1) / 8 := by
    have : (sizeLine : Nat) ≤ (2 ^ 63 - 1) / 8 := by decide
    omega
  have hfit : ¬ (!Builtin.List.listFitsIndex k) = true := by
    rw [fitsIndex_both h1 h2]
    exact Bool.false_ne_true
  have hlong : ¬ Builtin.List.listTooLong (its.toArray.size * k.toNat) = true := by
    rw [notLongL hlen]
    exact Bool.false_ne_true
  have hnew : List.foldl (fun x1 x2 => x1 ++ x2) #[] (List.replicate (if its.toArray.isEmpty = true then 0 else k.toNat) its.toArray) = (List.replicate k.toNat its).flatten.toArray := by
    have f0 : ∀ m : Nat, List.foldl (fun x1 x2 => x1 ++ x2) #[] (List.replicate m its.toArray) = (List.replicate m its).flatten.toArray := fun m => by
      have := foldl_rep its m []
      rw [List.nil_append] at this
      exact this
    rw [f0]
    cases its with
    | nil => simp
    | cons a r' => rw [if_neg (by simp)]
  refine wpAny_binaryOp_repeat_ref (T := "list") (U := "int") (by decide) ⟨_, e, rfl⟩ (fun s' => typeIs_int s' k t) noFill_list_mul F.fills_int_mul F.slot_int_rmul repeat_list F.slot_int_index.lookup
    (call_meets F.slot_int_rmul (typeIs_int s k t) F.entry_int_rmul (F.args_int_rmul_2 _ _) (int___rmul___int_list k t l its.toArray n)
      ⟨e, rfl, ⟨_, e, rfl⟩, call_meets F.slot_list_mul ⟨_, e, rfl⟩ F.entry_list_mul (F.args_list_mul_2 _ _) (AutoListH.list___mul___list_int_3 l its.toArray n k t hfit hcap hlong) ⟨e, ?_⟩⟩)
  rw [hnew]
  exact ⟨.ref _, _, I.lnew (t' := s.toks) (r.rep k.toNat) (by rw [len_rep, Nat.mul_comm]; exact hz), rfl, q _ I.fresh⟩

/-! ### del xs[i] -/
theorem del_list {pins : List (Addr × Obj)} {s : Shared} {σ : St} {H : Hp} {l : Addr} {xs : List V} {i : Int} {t : Tok} {k : Nat} {Q : Unit → Shared → Prop} (I : Inv X pins σ H s) (hH : H l = some (.lst xs))
    (h1 : -(2 ^ 63) ≤ i) (h2 : i < 2 ^ 63) (hk : seqIndex? i xs.length = some k) (h : ∀ s', Inv X pins σ (upd H l (.lst (xs.eraseIdx k))) s' → Q () s') :
    wpAny (model X.prog X.w) X.A (delItem (.ref l) (.int i t)) Q X.xe s := by
  obtain ⟨z, its, n, r, hl, e⟩ := I.lstM hH
  refine PySem.P.delItem_list (k := k) e (fitsIndex_both h1 h2) (by rw [List.size_toArray, ← hl]; exact hk) (h _ ?_) (by rw [List.size_toArray]; omega)
  refine I.lset (its' := its.eraseIdx k) (t' := s.toks) hH e ?_ (r.eraseIdx k) ?_
  · show its.toArray.eraseIdxIfInBounds k = (its.eraseIdx k).toArray
    rw [List.eraseIdxIfInBounds_toArray]
  · have := len_erase xs k
    omega
end

/-! ### xs[a:b] = ys -/
section
variable {prog : Program} {w : World} {A : Around} {E : Value → Shared → Prop} {s : Shared}
theorem splice_eq (its its2 : List Value) (a c : Nat) : its.toArray.extract 0 a ++ its2.toArray ++ its.toArray.extract c its.toArray.size = (its.take a ++ its2 ++ its.drop c).toArray := by
  apply Array.toList_inj.mp
  first
    | (simp
       exact List.take_of_length_le (by simp))
    | simp [List.take_of_length_le]
    | simp
theorem bounds_run {a c n : Nat} (hac : a ≤ c) (hc : c ≤ n) : sliceBounds (some (a : Int)) (some (c : Int)) none n = ((a : Int), (c : Int), 1) := by
  simp only [sliceBounds, Option.getD_none]
  have h1 : ¬ ((a : Int) < 0) := by omega
  have h2 : ¬ ((c : Int) < 0) := by omega
  simp only [h1, h2, if_false, show (1 : Int) > 0 by decide, if_true]
  congr 1
  · omega
  · congr 1; omega
set_option maxRecDepth 100000 in
/-- list.__setitem__ with a slice of step one and another list -/
theorem setItem_slice {l b sl : Addr} {items new : Array Value} {n n2 : Nat} {vl vu : Value} {a c : Nat} {Q : Unit → Shared → Prop}
    (e : s.heap.get? l = some { cls := .type "list", data := .seq items n }) (e2 : s.heap.get? b = some { cls := .type "list", data := .seq new n2 }) (hne : l ≠ b)
    (hs : s.heap.IsSliceOf sl vl vu .none) (pl : IsPart vl (some (a : Int))) (pu : IsPart vu (some (c : Int))) (hac : a ≤ c) (hc : c ≤ items.size)
    (hsz : items.size + new.size ≤ sizeLine) (h : Q () { s with heap := s.heap.update l (Obj.mapSeq fun xs => xs.extract 0 a ++ new ++ xs.extract c xs.size) }) :
    wpAny (model prog w) A (setItem (.ref l) (.ref sl) (.ref b)) Q E s := by
  have hl : s.heap.IsList l items := PySem.IsL.isList e
  have hb : s.heap.IsList b new := PySem.IsL.isList e2
  obtain ⟨os, hos, hcs, hds⟩ := id hs
  have hTs : s.TypeIs (.ref sl) "slice" := ⟨os, hos, hcs⟩
  have hstep : ¬ ((rawPart none == rawInt 0) = true) := Bool.false_ne_true
  have hsame : Builtin.List.listSameRef (.ref l) (.ref b) = false := by
    unfold Builtin.List.listSameRef
    exact beq_eq_false_iff_ne.mpr hne
  have hmax : (max (a : Int) (c : Int)).toNat = c := by omega
  have hz' : ((fun xs : Array Value => xs.extract 0 a ++ new ++ xs.extract c xs.size) items).size ≤ sizeLine + 1 := by
    simp only [Array.size_append, Array.size_extract]
    omega
  unfold setItem
  try with_reducible refine wpAny_holding ?_
  first | refine wpAny_bind (wpAny_pure ?_) | skip
  refine wpAny_bind (wpAny_sequenceKey hl.typeIs (by decide) ?_)
  refine wpAny_bind (wpAny_callSpecial?_slot (name := Str.ofString "__setitem__") hl.typeIs slot_list_setitem
    (wpAny_call_entry slot_list_setitem hl.typeIs entry_list_setitem ?_ (args_list_setitem _ _ _)))
  show wpAny _ _ (Builtin.List.listSubscript? (.ref sl) >>= _) _ _ s
  refine wpAny_bind ?_
  unfold Builtin.List.listSubscript?
  refine wpAny_bind (wpAny_specialOf hTs slice_no_index ?_)
  simp only [Option.isNone_none, if_true]
  refine wpAny_pure ?_
  show wpAny _ _ (typeOf (.ref sl) >>= _) _ _ s
  refine wpAny_bind (wpAny_typeOf hTs ?_)
  first
    | rw [if_neg (by decide)]
    | refine PySem.W.KFB.if_not (by decide) ?_
  rw [listSliceParts_eq]
  refine wpAny_bind (wpAny_bind (wpAny_field hos hds (x := .none) rfl (wpAny_bind (wpAny_listPart .none ?_))))
  rw [if_neg hstep]
  refine wpAny_bind (wpAny_field hos hds (x := vl) rfl (wpAny_bind (wpAny_listPart pl ?_)))
  refine wpAny_bind (wpAny_field hos hds (x := vu) rfl (wpAny_bind (wpAny_listPart pu (wpAny_pure ?_))))
  first
    | simp only [hsame, Bool.false_eq_true, if_false]
    | refine PySem.W.KFB.if_not hsame ?_
    | (dsimp only
       rw [if_neg (by rw [hsame]; exact Bool.false_ne_true)])
  refine wpAny_bind (m := Builtin.List.listAllItems (.ref b) "must assign iterable to extended slice") ?_
  unfold Builtin.List.listAllItems
  refine wpAny_bind (wpAny_typeOf hb.typeIs ?_)
  first
    | refine PySem.W.KFB.if_so (by decide) ?_
    | rw [if_pos (by decide)]
    | simp only [beq_self_eq_true, Bool.true_or, if_true]
  unfold Builtin.List.listItems
  refine wpAny_bind (wpAny_seqItems e2 rfl (wpAny_pure ?_))
  refine wpAny_bind (wpAny_bind (wpAny_seqItems e rfl (wpAny_pure ?_)))
  refine wpAny_bind (wpAny_of_eq ((sliceIndices_raw (some (a : Int)) (some (c : Int)) none items.size (by simp)).trans (congrArg (pure : Int × Int × Int → Sem (Int × Int × Int)) (bounds_run hac hc))) ?_)
  show wpAny _ _ (if ((1 : Int) == 1) = true then _ else _) _ _ s
  rw [if_pos (by decide)]
  refine wpAny_bind (wpAny_rule ?_)
  first
    | simp only [notLongL hsz, Bool.false_eq_true, if_false]
    | refine PySem.W.KFB.if_not (notLongL hsz) ?_
  first | refine wpAny_bind (wpAny_pure ?_) | skip
  show wpAny _ _ (updateSeq l (fun xs => xs.extract 0 ((a : Int)).toNat ++ new ++ xs.extract (max (a : Int) (c : Int)).toNat xs.size) >>= _) _ _ s
  rw [hmax, Int.toNat_natCast]
  refine wpAny_bind (wpAny_updateSeq (hz := Nat.le_trans (Nat.le_add_right _ _) hsz) (_hz' := hz') e rfl ?_)
  refine wpAny_bind (wpAny_letGo ?_)
  first
    | exact wpAny_bind (wpAny_pure (wpAny_pure ⟨.none, rfl, wpAny_pure h⟩))
    | exact wpAny_pure ⟨.none, rfl, wpAny_pure h⟩
end

section
variable {X : Cx}
/-- xs[a:c] = ys of another list, at the value level: sl is the slice object that was just made -/
theorem set_slice {pins : List (Addr × Obj)} {s : Shared} {σ : St} {H : Hp} {l b sl : Addr} {xs ys : List V} {a c : Int} {vl vu : Value} {Q : Unit → Shared → Prop} (I : Inv X pins σ H s)
    (hH : H l = some (.lst xs)) (hB : H b = some (.lst ys)) (hne : l ≠ b) (hs : s.heap.IsSliceOf sl vl vu .none) (ra : RelV (.int a) vl) (rc : RelV (.int c) vu) (h0 : 0 ≤ a) (hac : a ≤ c) (hc : c ≤ xs.length)
    (hz : xs.length + ys.length ≤ sizeLine) (h : ∀ s', Inv X pins σ (upd H l (.lst (xs.take a.toNat ++ ys ++ xs.drop c.toNat))) s' → Q () s') :
    wpAny (model X.prog X.w) X.A (setItem (.ref l) (.ref sl) (.ref b)) Q X.xe s := by
  obtain ⟨ta, rfl⟩ := ra
  obtain ⟨tc, rfl⟩ := rc
  obtain ⟨z, its, n, r, hl, e⟩ := I.lstM hH
  obtain ⟨z2, its2, n2, r2, hl2, e2⟩ := I.lstM hB
  obtain ⟨a', rfl⟩ := Int.eq_ofNat_of_zero_le h0
  obtain ⟨c', rfl⟩ := Int.eq_ofNat_of_zero_le (Int.le_trans h0 hac)
  simp only [Int.toNat_natCast] at h
  refine setItem_slice (a := a') (c := c') e e2 hne hs (.int _ _) (.int _ _) (by omega) (by rw [List.size_toArray]; omega) (by rw [List.size_toArray, List.size_toArray]; omega) (h _ ?_)
  refine I.lset (its' := its.take a' ++ its2 ++ its.drop c') (t' := s.toks) hH e ?_ (Vals.append (Vals.append (r.take _) r2) (r.drop _)) ?_
  · exact splice_eq its its2 a' c'
  · rw [List.length_append, List.length_append, List.length_take, List.length_drop]
    omega
end
end L2

namespace Att
open PySem PySem.W PySem.Calls PyProof.Rows

/-! ### the script -/
theorem ints_of_wellAll {P : Params} {h : Heap} : ∀ (ns : List Int) (vs : List Value), WellAll P h vs (ns.map WData.int) → IntsAre vs ns := by
  intro ns
  induction ns with
  | nil =>
    intro vs w
    rw [List.map_nil] at w
    cases w
    exact .nil
  | cons n ns ih =>
    intro vs w
    rw [List.map_cons] at w
    cases w with
    | cons a b =>
      cases a
      exact .cons _ _ (ih _ b)

theorem script_of {l : OpenLaw} {n : Nat} (hn : l.most = some n) {P : Params} {h : Heap} {args : List WData} {vals : List Value}
    (hpre : l.row.toRowW.claim.pre args = true) (hwl : WellAll P h vals args) :
    ∃ a vs ns, vals = [Value.ref a] ∧ args = [WData.list (ns.map WData.int)] ∧ h.get? a = some { cls := .type "list", data := .seq vs.toArray } ∧ IntsAre vs ns ∧ ns.length ≤ n := by
  have hsh : WShape.hasAll [] args [.list .int] = true := (pre_splitW hpre).1
  have hc : l.pre.holds [] { args := args } = true := (pre_splitW hpre).2
  obtain ⟨d, r, rfl, h1, h2⟩ := hasAllW_cons hsh
  obtain rfl := hasAllW_nil h2
  obtain ⟨xs, rfl, h3⟩ := hasW_list h1
  obtain ⟨ns, rfl⟩ := items_int h3
  have hlen : ns.length ≤ n := by
    unfold OpenLaw.pre at hc
    have h4 : (WTm.not (.lt (.lit (.int (n : Int))) (.len (.arg 0)))).holds [] { args := [.list (ns.map .int)] } = true := by
      have h4 := (holds_andW hc).1
      rw [hn] at h4
      exact h4
    have h5 := condW_of h4 (w_not (w_lt w_lit (w_len_list (w_arg rfl))))
    rw [List.length_map] at h5
    refine Nat.le_of_not_lt fun q => ?_
    have q' : (n : Int) < ((ns.length : Nat) : Int) := by omega
    first
      | (rw [decide_eq_true q'] at h5; exact absurd h5 (by decide))
      | (simp at h5; omega)
  cases hwl with
  | cons w1 w2 =>
    cases w2
    cases w1 with
    | list ho hall => exact ⟨_, _, ns, rfl, rfl, ho, ints_of_wellAll ns _ hall, hlen⟩

theorem post_true (l : OpenLaw) (args : List WData) : l.row.toRowW.claim.post args (.bool true) args = true :=
  postW_of (r := l.row.toRowW) (X := (true == true))
    (show WShape.has [] (.bool true) .bool = true by first | rfl | decide | simp [WShape.has, WShape.arms, WShape.armsAll])
    (show (WTm.eq .res (.lit (.bool true))).value [] { args := args, res := some (.bool true), after := args } = some (.bool (true == true)) from w_eq_bool (w_res rfl) w_lit) rfl

/-! ### the attachment: holds_open's last premise (the goal 'hc' behind k_head) from a wpAny of the law's body -/
theorem attach {l : OpenLaw} {n : Nat} {q : Program} {loose : List Str} {XP : (Str → Option Value) → Heap → Prop} {YP : World → Heap → Prop} {d : DefRec} {x : Str}
    (hn : l.most = some n) (hdf : d.params.defaults = [])
    (hbind : ∀ pm cd doc v : Value, bindArgs (docDef d.name d.params d.body d.scope pm cd doc) ⟨[v], []⟩ = pure [(x, v)])
    (hx : d.scope.names.lookup x = some .local ∨ d.scope.names.lookup x = some .cell)
    (hk : d.scope.kind = .function) (hco : d.scope.isCoroutine = false) (hgen : d.scope.isGenerator = false)
    (body : ∀ (w : World) (s₀ s₁ s : Shared) (mg mb : Str → Option Value) (fa : Addr) (o : Obj) (pm cd doc : Value) (a : Addr) (vs : List Value) (ns : List Int),
      Ground q loose [] XP w s₀ mg mb s₁.heap → YP w s₁.heap →
      s₁.heap.get? fa = some o → o.data = .func (docDef d.name d.params d.body d.scope pm cd doc) → s₁.heap.CodeRec cd d.name → mg d.name = some (.ref fa) →
      s₁.heap.get? a = some { cls := .type "list", data := .seq vs.toArray } → IntsAre vs ns → ns.length ≤ n →
      s.gens = #[] → s.os = s₁.os →
      Fr s₁.heap s₁.heap.objs.size s.heap (bindL (envOfC d.name d.scope s₁.heap.objs.size fa cd).kindOf [(x, .ref a)] fun _ => none) →
      Cl s₁.heap.objs.size (cellsFrom (s₁.heap.objs.size + 1) d.scope.names []) s.heap (bindC (envOfC d.name d.scope s₁.heap.objs.size fa cd).kindOf [(x, .ref a)] fun _ => none) →
      wpAny (model l.prog w) (callerA.deeper (envOfC d.name d.scope s₁.heap.objs.size fa cd)) (execs d.body (envOfC d.name d.scope s₁.heap.objs.size fa cd))
        (fun f s' => f = .ret (.bool true) ∧ OldK s₁.heap s'.heap ∧ s'.os = s₁.os ∧ AllBare s'.gens) (fun _ _ => False) s) :
    WalkO q loose XP YP l.row.toRowW d [] (fun f vs => PySem.call f vs) := by
  intro w s₀ s₁ mg mb G Y fa o pm cd doc dV kV ho hd hcd hD hmg hg args vals as hpre hlay hrd hwl hlo
  obtain rfl : dV = .none := Dflts.none hD hdf
  obtain rfl : kV = .none := Dflts.noKw hD
  obtain ⟨a, vs, ns, rfl, rfl, hobj, hints, hlen⟩ := script_of hn hpre hwl
  refine enter_call ?_
  refine call_cells_ret (o := o) (by rw [depth_caller]; decide) ho (fd_plain hd) G.T.nolimit hcd (hbind pm cd doc (.ref a)) (fun y hy => ?_) (fun h₁ tk F X => ?_) hco hgen hk
  · obtain rfl : y = (x, Value.ref a) := List.mem_singleton.mp hy
    rcases hx with e | e
    · exact .inl e
    · exact .inr ⟨e, cellsFrom_some _ _ _ (.inl e)⟩
  · refine wpAny_mono (body w s₀ s₁ { s₁ with heap := h₁, toks := tk } mg mb fa o pm cd doc a vs ns G Y ho (fd_plain hd) hcd hmg hobj hints hlen hg rfl F X) (fun f s' hq => ?_) (fun _ _ hq => hq)
    obtain ⟨rfl, h2, h3, h4⟩ := hq
    exact ⟨.inl ⟨.bool true, .bool true, [], rfl, fun _ => rfl, .bool true, post_true l _, fun _ => ⟨List.Pairwise.nil, fun _ hm => (nomatch hm)⟩⟩, h2, h3, h4⟩

/-- the same from a codeAny of the CALL (for a layer whose function contracts speak of calls) -/
theorem attach_call {l : OpenLaw} {n : Nat} {q : Program} {loose : List Str} {XP : (Str → Option Value) → Heap → Prop} {YP : World → Heap → Prop} {d : DefRec}
    (hn : l.most = some n) (hdf : d.params.defaults = [])
    (call : ∀ (w : World) (s₀ s₁ : Shared) (mg mb : Str → Option Value) (fa : Addr) (o : Obj) (pm cd doc : Value) (a : Addr) (vs : List Value) (ns : List Int),
      Ground q loose [] XP w s₀ mg mb s₁.heap → YP w s₁.heap →
      s₁.heap.get? fa = some o → o.data = .func (docDef d.name d.params d.body d.scope pm cd doc) → s₁.heap.CodeRec cd d.name → mg d.name = some (.ref fa) →
      s₁.heap.get? a = some { cls := .type "list", data := .seq vs.toArray } → IntsAre vs ns → ns.length ≤ n → s₁.gens = #[] →
      codeAny (model l.prog w) callerA (.call (.ref fa) ⟨[.ref a], []⟩) (fun r s' => r = .ok (.ret (.bool true)) ∧ OldK s₁.heap s'.heap ∧ s'.os = s₁.os ∧ AllBare s'.gens) s₁) :
    WalkO q loose XP YP l.row.toRowW d [] (fun f vs => PySem.call f vs) := by
  intro w s₀ s₁ mg mb G Y fa o pm cd doc dV kV ho hd hcd hD hmg hg args vals as hpre hlay hrd hwl hlo
  obtain rfl : dV = .none := Dflts.none hD hdf
  obtain rfl : kV = .none := Dflts.noKw hD
  obtain ⟨a, vs, ns, rfl, rfl, hobj, hints, hlen⟩ := script_of hn hpre hwl
  refine enter_call (codeAny_mono (call w s₀ s₁ mg mb fa o pm cd doc a vs ns G Y ho (fd_plain hd) hcd hmg hobj hints hlen hg) fun r s' hq => ?_)
  obtain ⟨rfl, h2, h3, h4⟩ := hq
  exact ⟨.inl ⟨.bool true, .bool true, [], rfl, fun _ => rfl, .bool true, post_true l _, fun _ => ⟨List.Pairwise.nil, fun _ hm => (nomatch hm)⟩⟩, h2, h3, h4⟩

/-- the same where the top left finished generators (o_head chose holds_openN): nothing may have changed at all and no generator may be left -/
theorem attachN {l : OpenLaw} {n : Nat} {q : Program} {loose : List Str} {XP : (Str → Option Value) → Heap → Prop} {YP : World → Heap → Prop} {d : DefRec} {x : Str}
    (hn : l.most = some n) (hdf : d.params.defaults = [])
    (hbind : ∀ pm cd doc v : Value, bindArgs (docDef d.name d.params d.body d.scope pm cd doc) ⟨[v], []⟩ = pure [(x, v)])
    (hx : d.scope.names.lookup x = some .local ∨ d.scope.names.lookup x = some .cell)
    (hk : d.scope.kind = .function) (hco : d.scope.isCoroutine = false) (hgen : d.scope.isGenerator = false)
    (body : ∀ (w : World) (s₀ s₁ s : Shared) (mg mb : Str → Option Value) (fa : Addr) (o : Obj) (pm cd doc : Value) (a : Addr) (vs : List Value) (ns : List Int),
      Ground q loose [] XP w s₀ mg mb s₁.heap → YP w s₁.heap →
      s₁.heap.get? fa = some o → o.data = .func (docDef d.name d.params d.body d.scope pm cd doc) → s₁.heap.CodeRec cd d.name → mg d.name = some (.ref fa) →
      s₁.heap.get? a = some { cls := .type "list", data := .seq vs.toArray } → IntsAre vs ns → ns.length ≤ n →
      s.gens = #[] → s.os = s₁.os →
      Fr s₁.heap s₁.heap.objs.size s.heap (bindL (envOfC d.name d.scope s₁.heap.objs.size fa cd).kindOf [(x, .ref a)] fun _ => none) →
      Cl s₁.heap.objs.size (cellsFrom (s₁.heap.objs.size + 1) d.scope.names []) s.heap (bindC (envOfC d.name d.scope s₁.heap.objs.size fa cd).kindOf [(x, .ref a)] fun _ => none) →
      wpAny (model l.prog w) (callerA.deeper (envOfC d.name d.scope s₁.heap.objs.size fa cd)) (execs d.body (envOfC d.name d.scope s₁.heap.objs.size fa cd))
        (fun f s' => f = .ret (.bool true) ∧ (∀ b o, s₁.heap.get? b = some o → s'.heap.get? b = some o) ∧ s'.os = s₁.os ∧ s'.gens = #[]) (fun _ _ => False) s) :
    WalkN q loose XP YP l.row.toRowW d [] (fun f vs => PySem.call f vs) := by
  intro w s₀ s₁ mg mb G Y fa o pm cd doc dV kV ho hd hcd hD hmg hg args vals as hpre hlay hrd hwl hlo
  obtain rfl : dV = .none := Dflts.none hD hdf
  obtain rfl : kV = .none := Dflts.noKw hD
  obtain ⟨a, vs, ns, rfl, rfl, hobj, hints, hlen⟩ := script_of hn hpre hwl
  refine enter_callW ?_
  refine call_cells_ret (o := o) (by rw [depth_caller]; decide) ho (fd_plain hd) G.T.nolimit hcd (hbind pm cd doc (.ref a)) (fun y hy => ?_) (fun h₁ tk F X => ?_) hco hgen hk
  · obtain rfl : y = (x, Value.ref a) := List.mem_singleton.mp hy
    rcases hx with e | e
    · exact .inl e
    · exact .inr ⟨e, cellsFrom_some _ _ _ (.inl e)⟩
  · refine wpAny_mono (body w s₀ s₁ { s₁ with heap := h₁, toks := tk } mg mb fa o pm cd doc a vs ns G Y ho (fd_plain hd) hcd hmg hobj hints hlen hg rfl F X) (fun f s' hq => ?_) (fun _ _ hq => hq)
    obtain ⟨rfl, h2, h3, h4⟩ := hq
    exact ⟨.inl ⟨.bool true, .bool true, [], rfl, fun _ => rfl, .bool true, post_true l _, fun _ => ⟨List.Pairwise.nil, fun _ hm => (nomatch hm)⟩⟩, h2, h3, h4⟩

/-! ### rules over ANY heap (no ledger) from facts about the written part K: the library's own take a ledger (News) for what they write -/
section
variable {prog : Program} {w : World} {A : Around} {E : Value → Shared → Prop} {s : Shared} {K : Frag}

/-- a def of the module, or a method (qual 'C.m'), entered: the frame is the next address; cells behind it -/
theorem call_fn {R : Result → Shared → Prop} {name qual : Str} {params : Arguments} {body : List Stmt} {scope : Scope} {dV kV doc pm cdv ct oc : Value} {an od : Option Addr} {osl : Array (Option Value)} {f : Addr} {args : Args} {binds : List (Str × Value)}
    (X : K.In s.heap) (hlim : s.heap.NoLimit) (ho : K.lookup f = some ⟨oc, od, .func (fnOf name qual params body scope dV kV doc pm an cdv ct), osl⟩) (hcd : codeIn K cdv qual = true) (hroom : A.depth < recursionLimit)
    (hbind : BindsTo s (fnOf name qual params body scope dV kV doc pm an cdv ct) args binds)
    (hkind : (binds.all fun y => scope.names.lookup y.1 == some .local || scope.names.lookup y.1 == some .cell) = true)
    (h : ∀ s₁, InCallC s s.heap.objs.size (bindL (envOfC qual scope s.heap.objs.size f cdv).kindOf binds fun _ => none) (cellsFrom (s.heap.objs.size + 1) scope.names [])
        (bindC (envOfC qual scope s.heap.objs.size f cdv).kindOf binds fun _ => none) s₁ →
      wpAny (model prog w) (A.deeper (envOfC qual scope s.heap.objs.size f cdv)) (execs body (envOfC qual scope s.heap.objs.size f cdv))
        (fun fl s' => R (.ok (.ret (match fl with | .ret v => v | _ => .none))) s')
        (fun e s' => wpAny (model prog w) (A.deeper (envOfC qual scope s.heap.objs.size f cdv)) (leaving (envOfC qual scope s.heap.objs.size f cdv) e) (fun _ s'' => R (.error e) s'') (fun e' s'' => R (.error e') s'') s') s₁)
    (hco : scope.isCoroutine = false) (hgen : scope.isGenerator = false) (hk : scope.kind = .function) : codeAny (model prog w) A (.call (.ref f) args) R s := by
  refine codeAny_call_function hroom (X _ _ ho) rfl hco hgen rfl (codeRec_of X hcd) (hbind _ _ _ _ ?_)
  refine wpAny_newFunctionEnv_cells hk (kindsX hkind _) fun env he s₁ x => ?_
  subst he
  exact ⟨hlim.keeps x.toInCall.keep, codeAny_func (h s₁ x)⟩

/-- C(..): dict at size, instance at size + 1, then __init__ -/
theorem make_obj {R : Result → Shared → Prop} {C fI : Addr} {rest : List Value} {kw : List (Str × Value)}
    (X : K.In s.heap) (hm : makesIn K C = true) (hi : findIn K (.ref C) "__init__" = some (some (.ref fI))) (hf : isFn K (.ref fI) = true)
    (h : codeAny (model prog w) (A.under (.builtin "type.__call__" ⟨.ref C :: rest, kw⟩)) (.call (.ref fI) ⟨.ref (s.heap.objs.size + 1) :: rest, kw⟩) (InitBack (s.heap.objs.size + 1) R)
      { s with heap := (s.heap.push emptyDict).push (instObj C s.heap.objs.size) }) : codeAny (model prog w) A (.call (.ref C) ⟨rest, kw⟩) R s := by
  obtain ⟨hh, g, d, t, os⟩ := s
  exact make_core (makes_of X hm) (looks_findIn X hi) (fun self => bind_fn X self (beq_iff_eq.mp hf)) (.inl rfl) h

/-- x.name where the instance's dict holds the name and the class does not -/
theorem get_field {x C : Addr} {ox : Obj} {es : List DictEntry} {n : Nat} {name : Str} {expr : Bool} {v : Value} {Q : Value → Shared → Prop}
    (X : K.In s.heap) (I : PySem.W.InstAt s.heap x ox C (some (dictOf es n))) (hg : plainGet K C name = true) (hh : hasDictIn K C = true) (ha : findIn K (.ref C) name = some none)
    (hl : getL name es = some (some v)) (hv : handedIn v = true) (h : Q v { s with toks := s.toks + 1 }) : wpAny (model prog w) A (getAttr (.ref x) name expr) Q E s :=
  get_value X I (plainGet_of hg).1 (findObj_own hh ha rfl hl) hv h

/-- x.m(..): the method found in the class -/
theorem get_method {x C f : Addr} {ox : Obj} {es : List DictEntry} {n : Nat} {name : Str} {pl : Sem Bool} {Q : Value × List Value → Shared → Prop}
    (X : K.In s.heap) (I : PySem.W.InstAt s.heap x ox C (some (dictOf es n))) (hg : plainGet K C name = true) (hf : findIn K (.ref C) name = some (some (.ref f))) (ht : isFn K (.ref f) = true)
    (hl : getL name es = some none) (h : Q (.ref f, [.ref x]) s) : wpAny (model prog w) A (getMethod (.ref x) name pl) Q E s :=
  method_fn X I (plainGet_of hg).1 (plainGet_of hg).2 hf (beq_iff_eq.mp ht) (by show (lookIn name (dictOf es n)).map _ = _; rw [lookIn_dict, hl]; rfl) h

/-! the whole heap as the ledger: makes every rule that writes through a ledger a rule over any heap -/
def noObjs (h : Heap) : Heap := { h with objs := #[] }
theorem noObjs_get (h : Heap) (b : Addr) : (noObjs h).get? b = none := by
  cases e : (noObjs h).get? b with
  | none => rfl
  | some o => exact absurd (Heap.lt_size e) (Nat.not_lt_zero _)
def ledger (h : Heap) (L d : Addr) : List (Addr × Obj) := (List.range h.objs.size).filterMap fun a => if a = L ∨ a = d then none else (h.get? a).map fun o => (a, o)
theorem mem_ledger {h : Heap} {L d a : Addr} {o : Obj} : (a, o) ∈ ledger h L d ↔ a ≠ L ∧ a ≠ d ∧ h.get? a = some o := by
  unfold ledger
  rw [List.mem_filterMap]
  constructor
  · rintro ⟨b, _, e⟩
    split at e
    · cases e
    · rename_i hb
      obtain ⟨o', ho, e'⟩ := Option.map_eq_some_iff.mp e
      cases e'
      exact ⟨fun q => hb (.inl q), fun q => hb (.inr q), ho⟩
  · rintro ⟨n1, n2, ho⟩
    refine ⟨a, List.mem_range.mpr (Heap.lt_size ho), ?_⟩
    rw [if_neg (show ¬ (a = L ∨ a = d) from fun q => q.elim n1 n2), ho] <;> rfl
theorem news_ledger {h : Heap} {L d : Addr} {od : Obj} (hne : d ≠ L) (ho : h.get? d = some od) : News (noObjs h) L h ([] ++ (d, od) :: ledger h L d) := by
  rintro ⟨a, o⟩ hp
  rcases List.mem_cons.mp hp with e | hp
  · cases e
    exact ⟨ho, hne, noObjs_get _ _⟩
  · obtain ⟨n1, n2, e⟩ := mem_ledger.mp hp
    exact ⟨e, n1, noObjs_get _ _⟩
theorem fr_all {h : Heap} {L : Addr} {m : Str → Option Value} (n : h.Ns L m) : Fr (noObjs h) L h m :=
  ⟨n, fun b o e => (by rw [noObjs_get] at e; cases e), Nat.zero_le _⟩
/-- Upd of the head entry (for append_K, setItem_K ..) -/
theorem upd_ledger {h : Heap} {L d : Addr} {o o' : Obj} : Upd d o o' ((d, o) :: ledger h L d) ((d, o') :: ledger h L d) :=
  .head fun ⟨_, _⟩ hp => (mem_ledger.mp hp).2.1

/-- x.name = v over any heap: L is any namespace of the heap (the frame's, say): its map stays, its object is not told; all else but the dict stays -/
theorem set_field {x C dx L : Addr} {ox : Obj} {m : Str → Option Value} {es es' : List DictEntry} {n n' : Nat} {name : Str} {v : Value} {Q : Unit → Shared → Prop}
    (X : K.In s.heap) (I : PySem.W.InstAt s.heap x ox C (some (dictOf es n))) (hd : ox.dict = some dx) (hL : s.heap.Ns L m) (hne : dx ≠ L)
    (hs : findIn K (.ref C) "__setattr__" = some (some (.builtin "object.__setattr__"))) (hp : plainOver K C = true) (ht : takerIn K C name = some none) (hh : hasDictIn K C = true) (hl : (getL name es).isSome = true)
    (e : (putL name (PyData.keyHash w.params name) (.str name (s.toks + 1)) v es, putN name es n) = (es', n')) (hz : es'.length ≤ 1000)
    (h : ∀ h' : Heap, h'.Ns L m → h'.get? dx = some (dictOf es' n') → (∀ b o, b ≠ dx → b ≠ L → s.heap.get? b = some o → h'.get? b = some o) → Q () { s with heap := h', toks := s.toks + 2 }) :
    wpAny (model prog w) A (setAttr (.ref x) name v) Q E s := by
  obtain ⟨e1, e2⟩ := Prod.mk.inj e
  have hdx : s.heap.get? dx = some (dictOf es n) := by
    have := I.dict
    rw [hd] at this
    exact this
  refine set_plain X I hs (osa_dict (s := { s with toks := s.toks + 1 }) (h₀ := noObjs s.heap) (L := L) (m := m) (od := dictOf es n) (od' := dictOf es' n') (es := es') (n := n') (pre := []) (post := ledger s.heap L dx)
    (fr_all hL) (news_ledger hne hdx) X I hd hp ht hh hl (fun _ q => nomatch q) (fun ⟨_, _⟩ q => (mem_ledger.mp q).2.1) (by rw [putName_dict, e1, e2]) rfl hz fun h' F' N' => ?_)
  exact h h' F'.ns (N'.get (List.Mem.head _)) fun b o n1 n2 ho => N'.get (List.Mem.tail _ (mem_ledger.mpr ⟨n2, n1, ho⟩))
end
end Att

namespace L2
open PySem PySem.Spec PyProof.Rows

theorem vals_ints : ∀ {vs : List Value} {ns : List Int}, IntsAre vs ns → Vals (ns.map V.int) vs
  | _, _, .nil => .nil
  | _, _, .cons n t h => .cons ⟨t, rfl⟩ (vals_ints h)

/-- nothing is tracked but the script, known to the object (or it is an object of the module) -/
def Only (H : Hp) : Prop := ∀ b, H b = none ∨ ∃ o xs, H b = some (.frz o (.lst xs))

/-- THE HEAD: the law's promise, at the heap behind the top. F, the promise of the law's def, may use that base is part of the heap (so K.In base, base.Ns mainGlobals mg stand in Mod) -/
theorem law_call {P : Program} {w : World} {K : PySem.W.Frag} {mg mb : Str → Option Value} {CX : CXT} {k : Nat} {fa a : Addr} {fd : FuncData} {x : Str} {sp : Sp} {s₁ : Shared} {vs : List Value} {ns : List Int}
    (KX : K.In s₁.heap) (hns : s₁.heap.Ns mainGlobals mg) (hb : s₁.heap.Ns builtinsNs mb) (hbb : ∀ x : Str, x ≠ "__name__" → mb x = bootBuiltins x) (hlim : s₁.heap.NoLimit) (hg : s₁.gens = #[])
    (ha : s₁.heap.get? a = some { cls := .type "list", data := .seq vs.toArray }) (hi : IntsAre vs ns) (hl : ns.length ≤ sizeLine) (hr : Room k callerA)
    (F : ∀ base : Heap, K.In base → base.Ns mainGlobals mg → FnOk P w K mg base CX k fa fd [x] sp) (hbind : ∀ (s : Shared) (u : Value), BindsTo s fd ⟨[u], []⟩ [(x, u)])
    (hsp : ∀ H : Hp, Only H → SqL K H a (ns.map V.int) → sp [.ref a] H (fun v _ => v = .bl true) fun _ _ _ => False)
    (hCX : ∀ H e s', CX [] H s₁ (fun _ _ _ => False) e s' → False) :
    codeAny (model P w) callerA (.call (.ref fa) ⟨[.ref a], []⟩) (fun r s' => r = .ok (.ret (.bool true)) ∧ OldK s₁.heap s'.heap ∧ s'.os = s₁.os ∧ AllBare s'.gens) s₁ := by
  have rv := vals_ints hi
  have lenV := hi.length
  -- from an abstract heap in which nothing but the script may be tracked
  have core : ∀ H : Hp, Only H → SqL K H a (ns.map V.int) → HOk P w H s₁.heap → (∀ b, H b ≠ none → b = a) → (H a ≠ none → K.lookup a = none) →
      codeAny (model P w) callerA (.call (.ref fa) ⟨[.ref a], []⟩) (fun r s' => r = .ok (.ret (.bool true)) ∧ OldK s₁.heap s'.heap ∧ s'.os = s₁.os ∧ AllBare s'.gens) s₁ := by
    intro H hO hS hok hA hK
    have base_of : ∀ {b : Addr} {o : Obj}, s₁.heap.get? b = some o → H b = none → (hidT s₁.heap H).get? b = some o := fun e n => hidT_get e n
    have noA : ∀ {b : Addr} {o : Obj} {es : Array DictEntry} {ep : Nat}, s₁.heap.get? b = some o → o.data = .dict es ep → H b = none := fun {b o es ep} e d => by
      cases q : H b with
      | none => rfl
      | some u =>
        have e' : b = a := hA b (by rw [q]; simp)
        subst e'
        rw [ha] at e; cases e
        have d' : Data.seq vs.toArray _ = Data.dict es ep := d
        cases d'
    have nsK : ∀ {b : Addr} {m : Str → Option Value}, s₁.heap.Ns b m → (hidT s₁.heap H).Ns b m := fun {b m} ⟨o, es, ep, e, d, r⟩ => ⟨o, es, ep, base_of e (noA e d), d, r⟩
    have hKb : K.In (hidT s₁.heap H) := fun b o e => base_of (KX b o e) (by
      cases q : H b with
      | none => rfl
      | some u =>
        have e' : b = a := hA b (by rw [q]; simp)
        subst e'
        rw [hK (by rw [q]; simp)] at e; cases e)
    have hM : Mod K mg (hidT s₁.heap H) := ⟨hKb, nsK hns, ⟨mb, nsK hb, hbb⟩, let ⟨mc, h1, h2⟩ := hlim; ⟨mc, nsK h1, h2⟩⟩
    have e0 : Env0 P w K mg (hidT s₁.heap H) callerA [] s₁ H := ⟨rfl, hM, fun b o e => of_hidT e, Nat.le_of_eq (hidT_size _ _), trivial, fun b hb => absurd (show b ∈ ([] : List Addr) from hb) (by simp), hok, .of_eq hg⟩
    refine codeAny_mono ((F _ hKb (nsK hns)).run callerA [] s₁ H ⟨[.ref a], []⟩ [.ref a] [.ref a] _ _ hr e0 (hbind s₁ (.ref a)) (.cons rfl .nil) (hsp H hO hS)) fun r s' h => ?_
    cases r with
    | error e => exact (hCX H e s' h).elim
    | ok fl =>
      cases fl with
      | next => exact False.elim h
      | brk => exact False.elim h
      | cont => exact False.elim h
      | ret u =>
        obtain ⟨v, H', os, bare, un, hok', r', q⟩ := h
        have q' : v = .bl true := q
        subst q'
        obtain rfl : u = Value.bool true := r'
        refine ⟨rfl, OldK.of_keep fun b o e => ?_, os, bare⟩
        cases q : H b with
        | none => exact un.keep b o e q (by intro z; exact absurd (show b ∈ ([] : List Addr) from z) (by simp)) (by simp)
        | some u =>
          rcases hO b with z | ⟨ob, xs, z⟩
          · rw [q] at z; cases z
          · have z2 := un.frzs b ob _ z
            obtain ⟨e1, _⟩ := hok b _ z
            obtain ⟨e2, _⟩ := hok' b _ z2
            rw [e] at e1; cases e1
            exact e2
  cases hk : K.lookup a with
  | some o =>
    -- the script is one of the module's own objects
    have e := KX a o hk
    rw [ha] at e
    cases e
    refine core (fun _ => none) (fun _ => .inl rfl) (.inr ⟨_, vs.toArray, _, hk, rfl, rfl, rfl, by rw [List.size_toArray, lenV]; exact hl, by simpa using rv⟩) (fun b u z => by have z' : (none : Option HO) = some u := z; cases z') (fun b z => absurd rfl z) fun z => absurd rfl z
  | none =>
    refine core (fun b => if b = a then some (.frz { cls := .type "list", data := .seq vs.toArray } (.lst (ns.map V.int))) else none) (fun b => ?_) (.inl (.inr ⟨{ cls := .type "list", data := .seq vs.toArray }, if_pos rfl⟩)) (fun b u z => ?_) (fun b z => ?_) fun _ => hk
    · by_cases hb : b = a
      · exact .inr ⟨_, _, if_pos hb⟩
      · exact .inl (if_neg hb)
    · by_cases hb : b = a
      · have z' := (if_pos hb).symm.trans z
        cases z'
        subst hb
        exact ⟨ha, by rw [List.length_map]; exact hl, vs, _, rv, ha⟩
      · have z' := (if_neg hb).symm.trans z
        cases z'
    · by_cases hb : b = a
      · exact hb
      · exact absurd (if_neg hb) z
end L2

namespace L2
open PySem PySem.Spec PyProof.Rows

abbrev KOf {K : PySem.W.Frag} {h : Heap} (_ : K.In h) : PySem.W.Frag := K

/-- the goal that k_head leaves (case hc), from the law's promise. F gives the function object fd (K's own) once, then the promise over every base -/
theorem walk_of {l : PySem.W.OpenLaw} {n k : Nat} {q : Program} {loose : List Str} {XP : (Str → Option Value) → Heap → Prop} {YP : World → Heap → Prop} {d : DefRec} {K : Params → PySem.W.Frag} {CX : World → CXT} {sp : World → Sp} {x : Str}
    (hn : l.most = some n) (hn2 : n ≤ sizeLine) (hdf : d.params.defaults = []) (hr : Room k callerA)
    (hY : ∀ (w : World) (h : Heap), YP w h → (K w.params).In h)
    (F : ∀ (w : World) (mg : Str → Option Value) (fa : Addr) (h : Heap), (K w.params).In h → h.Ns mainGlobals mg → mg d.name = some (.ref fa) →
      ∃ fd : FuncData, (∀ (s : Shared) (u : Value), BindsTo s fd ⟨[u], []⟩ [(x, u)]) ∧
        ∀ base : Heap, (K w.params).In base → base.Ns mainGlobals mg → FnOk l.prog w (K w.params) mg base (CX w) k fa fd [x] (sp w))
    (hsp : ∀ (w : World) (H : Hp) (a : Addr) (ns : List Int), ns.length ≤ n → Only H → SqL (K w.params) H a (ns.map V.int) → sp w [.ref a] H (fun v _ => v = .bl true) fun _ _ _ => False)
    (hCX : ∀ (w : World) (H : Hp) (s : Shared) (e : Value) (s' : Shared), CX w [] H s (fun _ _ _ => False) e s' → False) :
    PySem.W.WalkO q loose XP YP l.row.toRowW d [] (fun f vs => PySem.call f vs) := by
  refine Att.attach_call hn hdf fun w s₀ s₁ mg mb fa o pm cd doc a vs ns G Y ho hd hcd hmg hobj hints hlen hg => ?_
  have KX := hY w _ Y
  obtain ⟨fd, hb, hF⟩ := F w mg fa _ KX G.T.g hmg
  exact law_call KX G.T.g G.T.b G.T.builtins G.T.nolimit hg hobj hints (Nat.le_trans hlen hn2) hr hF hb (fun H hO hS => hsp w H a ns hlen hO hS) fun H e s' => hCX w H s₁ e s'
/-- the same where the promise hangs on the written part alone: (sp := My.sp_law), no hole under a binder -/
theorem walk_ofK {l : PySem.W.OpenLaw} {n k : Nat} {q : Program} {loose : List Str} {XP : (Str → Option Value) → Heap → Prop} {YP : World → Heap → Prop} {d : DefRec} {K : Params → PySem.W.Frag} {CX : CXT} {sp : PySem.W.Frag → Sp} {x : Str}
    (hn : l.most = some n) (hn2 : n ≤ sizeLine) (hdf : d.params.defaults = []) (hr : Room k callerA)
    (hY : ∀ (w : World) (h : Heap), YP w h → (K w.params).In h)
    (F : ∀ (w : World) (mg : Str → Option Value) (fa : Addr) (h : Heap), (K w.params).In h → h.Ns mainGlobals mg → mg d.name = some (.ref fa) →
      ∃ fd : FuncData, (∀ (s : Shared) (u : Value), BindsTo s fd ⟨[u], []⟩ [(x, u)]) ∧
        ∀ base : Heap, (K w.params).In base → base.Ns mainGlobals mg → FnOk l.prog w (K w.params) mg base CX k fa fd [x] (sp (K w.params)))
    (hsp : ∀ (K : PySem.W.Frag) (H : Hp) (a : Addr) (ns : List Int), ns.length ≤ n → Only H → SqL K H a (ns.map V.int) → sp K [.ref a] H (fun v _ => v = .bl true) fun _ _ _ => False)
    (hCX : ∀ (H : Hp) (s : Shared) (e : Value) (s' : Shared), CX [] H s (fun _ _ _ => False) e s' → False) :
    PySem.W.WalkO q loose XP YP l.row.toRowW d [] (fun f vs => PySem.call f vs) :=
  walk_of (K := K) (CX := fun _ => CX) (sp := fun w => sp (K w.params)) hn hn2 hdf hr hY F (fun w H a ns h1 h2 h3 => hsp (K w.params) H a ns h1 h2 h3) fun _ H s e s' => hCX H s e s'
end L2

/- THE LAST THEOREM (shape; LID, My.* are yours):
   My.Adr: a structure of the addresses that your layer names (classes, functions); My.Txt K t: a structure (Prop) of the equations over K;
   My.txt_mk : {K} {implicit addresses ..} (e1 : nsIn K mainGlobals "law" = some (some (.ref f))) (e2 : K.lookup f = some ⟨oc, od, .func (fnOf "law" "law" params body scope dV kV doc pm an cdv ct), sl⟩) (e3 : codeIn K cdv "law" = true) .. : ∃ t, My.Txt K t

set_option maxRecDepth 100000 in
set_option maxHeartbeats 0 in
theorem PySem.Challenge.cw_LID_holds : PySem.Challenge.rw_LID.Holds := by
  w_on; o_law; k_head; (case hw => w_witness2)
  k_fill
  refine L2.walk_of (l := PySem.Challenge.rw_LID) (n := 63) (k := 40) (x := "script") (CX := fun w => ..) (sp := fun _ => My.sp_law) rfl (by decide) rfl ⟨rfl, by decide, by decide⟩ (fun w h Y => PySem.W.kIn_of Y) ?F ?S ?C
  case F =>
    intro w mg fa h KX G hmg
    have T : ∃ t, My.Txt (L2.KOf KX) t := by
      dsimp only [L2.KOf]                          -- K must stand as «<heap const> w.params» for k_is
      refine' My.txt_mk ?e1 ?e2 ?e3 ..
      (case e1 => PySem.W.k_is)                    -- in the order: a name -> its address -> its object -> its parts
      (case e2 => PySem.W.k_is)
      ..
    obtain ⟨t, T⟩ := T
    have e0 := hmg.symm.trans (PySem.W.mg_of KX G T.law)
    cases e0                                       -- fa is the law's own address
    exact ⟨_, fun s u => .of_eq rfl, fun base kb nb => My.law_fn T kb nb⟩     -- if «.of_eq rfl» comes too early: refine' ⟨_, ?b, fun base kb nb => My.law_fn T kb nb⟩; exact fun s u => .of_eq rfl
  case S => exact fun w H a ns hl hO hS => ..
  case C => exact ..
(the tactic k_is has no namespace: write k_is) -/

/-! SHORT WORDS over the layer: a def of the text, its body, what a loop and a test want. -/
namespace L2
open PySem PySem.Spec PyProof.Rows

/-! ### the text by places -/
/-- the j-th statement of a class's body -/
def inClass (s : Stmt) (j : Nat) : Stmt := match s with
  | .ClassDef _ _ _ body _ _ _ _ _ _ _ => body.getD j (.Pass ⟨0, 0, 0, 0⟩)
  | _ => .Pass ⟨0, 0, 0, 0⟩
def defArgs (s : Stmt) : Arguments := match s with
  | .FunctionDef _ a _ _ _ _ _ _ _ _ => a
  | _ => { posonlyargs := [], args := [], vararg := none, kwonlyargs := [], kw_defaults := [], kwarg := none, defaults := [] }
def defBody (s : Stmt) : List Stmt := match s with
  | .FunctionDef _ _ b _ _ _ _ _ _ _ => b
  | _ => []
def defScope (s : Stmt) : Scope := match s with
  | .FunctionDef _ _ _ _ _ _ sc _ _ _ => sc
  | _ => { kind := .function, names := [], isGenerator := false, isCoroutine := false }

/-! ### no exception leaves a def -/
abbrev CX0 : CXT := fun _ _ _ _ _ _ => False
abbrev E0 : XK := fun _ _ _ => False
theorem pass0 {X : Cx} : Passes CX0 X E0 := fun _ _ _ _ _ _ _ h => h.elim

/-! ### a def (or method) of the text as it stands behind the top -/
structure Fun (K : PySem.W.Frag) (x qual : Str) (st : Stmt) (f : Addr) (fd : FuncData) : Prop where
  ex : ∃ (oc : Value) (od : Option Addr) (kV doc pm : Value) (an : Option Addr) (cdv ct : Value) (osl : Array (Option Value)),
    fd = PySem.W.fnOf x qual (defArgs st) (defBody st) (defScope st) .none kV doc pm an cdv ct ∧ K.lookup f = some ⟨oc, od, .func fd, osl⟩ ∧ PySem.W.codeIn K cdv qual = true
  kp : PySem.W.keepIn K (.ref f) = true
section
variable {P : Program} {w : World} {K : PySem.W.Frag} {mg : Str → Option Value} {base : Heap}
/-- THE RULE for a def: its body as a term of rules, and the reading of that term -/
theorem Fun.ok {x qual : Str} {st : Stmt} {f : Addr} {fd : FuncData} {N ps : List Str} {k : Nat} {sp : Sp} (F : Fun K x qual st f fd) (S : FnScope N ps (defScope st)) (len : ∀ vs H Q E, sp vs H Q E → vs.length = ps.length)
    (hbody : ∀ (cdv : Value) (A : Around) (outer : List Env) (s : Shared) (H : Hp) (vs : List V) (Q : VK) (E : XK), Room k (A.deeper (envOfC qual (defScope st) s.heap.objs.size f cdv)) → sp vs H Q E →
      ∃ t, PSs (cxOf CX0 P w K mg base N qual (defScope st) f cdv A outer s H E).nox (defBody st) t ∧ t { nx := fun _ H' => Q .non H', rt := Q } (start N vs) H) : FnOk P w K mg base CX0 (k + 1) f fd ps sp := by
  obtain ⟨oc, od, kV, doc, pm, an, cdv, ct, osl, rfl, lk, hcd⟩ := F.ex
  refine fn_of lk hcd S len fun A outer s H vs Q E hr hsp => ?_
  obtain ⟨t, h, q⟩ := hbody cdv A outer s H vs Q E hr hsp
  exact ⟨t, h.nox, q⟩
/-- how its arguments bind (no defaults): h is «fun _ _ _ _ _ _ us hl => match us, hl with | [_, _], _ => rfl», one _ a parameter -/
theorem Fun.binds {x qual : Str} {st : Stmt} {f : Addr} {fd : FuncData} {ps : List Str} (F : Fun K x qual st f fd)
    (h : ∀ (kV doc pm : Value) (an : Option Addr) (cdv ct : Value) (us : List Value), us.length = ps.length → bindArgs (PySem.W.fnOf x qual (defArgs st) (defBody st) (defScope st) .none kV doc pm an cdv ct) ⟨us, []⟩ = pure (ps.zip us)) : Binds K fd ps [] := by
  obtain ⟨oc, od, kV, doc, pm, an, cdv, ct, osl, rfl, lk, hcd⟩ := F.ex
  exact .all (h kV doc pm an cdv ct)
theorem fun_mk {x qual : Str} {st : Stmt} {f : Addr} {oc : Value} {od an : Option Addr} {osl : Array (Option Value)} {kV doc pm cdv ct : Value} (l : K.lookup f = some ⟨oc, od, .func (PySem.W.fnOf x qual (defArgs st) (defBody st) (defScope st) .none kV doc pm an cdv ct), osl⟩)
    (c : PySem.W.codeIn K cdv qual = true) (k : PySem.W.keepIn K (.ref f) = true) : Fun K x qual st f (PySem.W.fnOf x qual (defArgs st) (defBody st) (defScope st) .none kV doc pm an cdv ct) := ⟨⟨oc, od, kV, doc, pm, an, cdv, ct, osl, rfl, l, c⟩, k⟩
end
theorem hu_of {A : Around} {k : Nat} (hr : Room k A) : A.units + 1 < cLine := Nat.lt_of_le_of_lt (Nat.add_le_add_left (by decide : 1 ≤ 64) _) hr.units
theorem small1000 {n : Nat} (h : n ≤ 1000) : n < sizeLine := Nat.lt_of_le_of_lt h (by decide)

/-! ### expressions in short: the name that stands in the i-th slot -/
section
variable {X : Cx}
theorem pv (i : Nat) {x : Str} {pos : Pos} (hN : X.N[i]? = some x := by rfl) (hv : Vis X.env.scope x := by first | exact Or.inl rfl | exact Or.inr (Or.inl rfl) | exact Or.inr (Or.inr rfl)) (hd : (x == ("__debug__" : Str)) = false := by decide)
    (hcd : (x == ("__classdict__" : Str)) = false := by decide) : PE X (.Name x pos) (tVar i) := pe_var hN hv hd hcd
end

/-! ### tests -/
theorem iteF {A B : Prop} (h : B) : if false = true then A else B := by
  rw [if_neg Bool.false_ne_true]
  exact h
theorem iteT {A B : Prop} (h : A) : if true = true then A else B := by
  rw [if_pos rfl]
  exact h
theorem ite2 {c A B : Prop} [Decidable c] (h1 : c → A) (h2 : ¬ c → B) : if c then A else B := by
  by_cases h : c
  · rw [if_pos h]
    exact h1 h
  · rw [if_neg h]
    exact h2 h
theorem iteNS {c A B : Prop} [Decidable c] (hc : c) (h : B) : if (!decide c) = true then A else B := by
  rw [decide_eq_true hc]
  exact iteF h

/-! ### heaps -/
/-- all that was tracked is as it was -/
def Same (H H' : Hp) : Prop := ∀ b o, H b = some o → H' b = some o
theorem Same.refl (H : Hp) : Same H H := fun _ _ h => h
theorem Same.trans {H H1 H2 : Hp} (a : Same H H1) (b : Same H1 H2) : Same H H2 := fun c o h => b c o (a c o h)
theorem Same.free {H H' : Hp} (e : Same H H') {l : Addr} (h : H' l = Option.none) : H l = Option.none := by
  cases q : H l with
  | none => rfl
  | some o =>
    rw [e l o q] at h
    cases h
theorem Same.seq {K : PySem.W.Frag} {H H' : Hp} {a : Addr} {xs : List V} (e : Same H H') (h : SqL K H a xs) : SqL K H' a xs := by
  rcases h with (h | ⟨o, h⟩) | h
  · exact .inl (.inl (e _ _ h))
  · exact .inl (.inr ⟨o, e _ _ h⟩)
  · exact .inr h

end L2
set_option maxHeartbeats 4000000
namespace DD
open PySem L2

/-- deep data; a list node bears a mark: reachable from one place alone (own), or shared for good. hole: any value, nothing said; cell: an address that is ours, its content not said -/
inductive D where
  | hole | cell | node (a : Addr) (vs : List V)
  | non | bl (b : Bool) | int (i : Int) | str (x : Str) | ty (n : String) | cls (a : Addr)
  | lst (own : Bool) (xs : List D)
  | tup (xs : List D)
  | obj (own : Bool) (C : Addr) (ks : List Str) (xs : List D)
  | dct (own : Bool) (ks : List Key) (xs : List D)

/-- shared lists, tuples: of the frozen part, or of the module -/
def FL (K : PySem.W.Frag) (F : Addr → Prop) (H : Hp) (a : Addr) (vs : List V) : Prop := (F a ∧ Rd H a (.lst vs)) ∨ ∀ H', SqL K H' a vs
def FT (K : PySem.W.Frag) (F : Addr → Prop) (H : Hp) (a : Addr) (vs : List V) (L : List Addr) : Prop := (F a ∧ H a = some (.tup vs)) ∨ ((∀ H', SqT K H' a vs) ∧ L = [])

mutual
def Ow (K : PySem.W.Frag) (F : Addr → Prop) (H : Hp) : D → V → List Addr → Prop
  | .hole, _, L => L = []
  | .cell, v, L => ∃ a o, v = .ref a ∧ H a = some o ∧ L = [a]
  | .node a vs, v, L => v = .ref a ∧ H a = some (.lst vs) ∧ L = [a]
  | .non, v, L => v = .non ∧ L = []
  | .bl b, v, L => v = .bl b ∧ L = []
  | .int i, v, L => v = .int i ∧ L = []
  | .str x, v, L => v = .str x ∧ L = []
  | .ty x, v, L => v = .ty x ∧ L = []
  | .cls x, v, L => v = .ref x ∧ L = []
  | .lst true xs, v, L => ∃ a vs L', v = .ref a ∧ H a = some (.lst vs) ∧ OwL K F H xs vs L' ∧ L = a :: L'
  | .lst false xs, v, L => ∃ a vs, v = .ref a ∧ FL K F H a vs ∧ OwL K F H xs vs [] ∧ L = []
  | .tup xs, v, L => ∃ a vs, v = .ref a ∧ FT K F H a vs L ∧ OwL K F H xs vs L
  | .obj true C ks xs, v, L => ∃ a dx vs L', v = .ref a ∧ H a = some (.ins C dx (ks.zip vs)) ∧ ks.length = vs.length ∧ OwL K F H xs vs L' ∧ L = a :: L'
  | .obj false C ks xs, v, L => ∃ a dx vs, v = .ref a ∧ H a = some (.ins C dx (ks.zip vs)) ∧ F a ∧ ks.length = vs.length ∧ OwL K F H xs vs [] ∧ L = []
  | .dct true ks xs, v, L => ∃ a vs L', v = .ref a ∧ H a = some (.dK (ks.zip vs)) ∧ ks.length = vs.length ∧ OwL K F H xs vs L' ∧ L = a :: L'
  | .dct false ks xs, v, L => ∃ a vs, v = .ref a ∧ H a = some (.dK (ks.zip vs)) ∧ F a ∧ ks.length = vs.length ∧ OwL K F H xs vs [] ∧ L = []
def OwL (K : PySem.W.Frag) (F : Addr → Prop) (H : Hp) : List D → List V → List Addr → Prop
  | [], vs, L => vs = [] ∧ L = []
  | x :: xs, vs, L => ∃ v ws L1 L2, vs = v :: ws ∧ Ow K F H x v L1 ∧ OwL K F H xs ws L2 ∧ L = L1 ++ L2
end

mutual
def D.fz : D → D
  | .lst _ xs => .lst false (D.fzL xs)
  | .tup xs => .tup (D.fzL xs)
  | .obj _ C ks xs => .obj false C ks (D.fzL xs)
  | .dct _ ks xs => .dct false ks (D.fzL xs)
  | .cell => .hole
  | .node _ _ => .hole
  | d => d
def D.fzL : List D → List D
  | [] => []
  | x :: xs => D.fz x :: D.fzL xs
end

section
variable {K : PySem.W.Frag} {F F' : Addr → Prop} {H H' : Hp}
mutual
/-- every owned node is tracked -/
theorem Ow.dom : ∀ {d : D} {v : V} {L : List Addr}, Ow K F H d v L → ∀ a ∈ L, ∃ o, H a = some o
  | .hole, _, _, h, a, ha => by simp only [Ow] at h; subst h; cases ha
  | .cell, _, _, h, a, ha => by simp only [Ow] at h; obtain ⟨b, o, rfl, e, rfl⟩ := h; rw [List.mem_singleton.mp ha]; exact ⟨o, e⟩
  | .node _ _, _, _, h, a, ha => by simp only [Ow] at h; obtain ⟨rfl, e, rfl⟩ := h; rw [List.mem_singleton.mp ha]; exact ⟨_, e⟩
  | .non, _, _, h, a, ha => by simp only [Ow] at h; rw [h.2] at ha; cases ha
  | .bl _, _, _, h, a, ha => by simp only [Ow] at h; rw [h.2] at ha; cases ha
  | .int _, _, _, h, a, ha => by simp only [Ow] at h; rw [h.2] at ha; cases ha
  | .str _, _, _, h, a, ha => by simp only [Ow] at h; rw [h.2] at ha; cases ha
  | .ty _, _, _, h, a, ha => by simp only [Ow] at h; rw [h.2] at ha; cases ha
  | .cls _, _, _, h, a, ha => by simp only [Ow] at h; rw [h.2] at ha; cases ha
  | .lst true xs, _, _, h, a, ha => by
    simp only [Ow] at h
    obtain ⟨b, vs, L', rfl, e, r, rfl⟩ := h
    rcases List.mem_cons.mp ha with rfl | ha
    · exact ⟨_, e⟩
    · exact OwL.dom r a ha
  | .lst false xs, _, _, h, a, ha => by simp only [Ow] at h; obtain ⟨_, _, _, _, _, rfl⟩ := h; cases ha
  | .tup xs, _, _, h, a, ha => by simp only [Ow] at h; obtain ⟨_, _, _, _, r⟩ := h; exact OwL.dom r a ha
  | .obj true C ks xs, _, _, h, a, ha => by
    simp only [Ow] at h
    obtain ⟨b, dx, vs, L', rfl, e, _, r, rfl⟩ := h
    rcases List.mem_cons.mp ha with rfl | ha
    · exact ⟨_, e⟩
    · exact OwL.dom r a ha
  | .obj false C ks xs, _, _, h, a, ha => by simp only [Ow] at h; obtain ⟨_, _, _, _, _, _, _, _, rfl⟩ := h; cases ha
  | .dct true ks xs, _, _, h, a, ha => by
    simp only [Ow] at h
    obtain ⟨b, vs, L', rfl, e, _, r, rfl⟩ := h
    rcases List.mem_cons.mp ha with rfl | ha
    · exact ⟨_, e⟩
    · exact OwL.dom r a ha
  | .dct false ks xs, _, _, h, a, ha => by simp only [Ow] at h; obtain ⟨_, _, _, _, _, _, _, rfl⟩ := h; cases ha
theorem OwL.dom : ∀ {xs : List D} {vs : List V} {L : List Addr}, OwL K F H xs vs L → ∀ a ∈ L, ∃ o, H a = some o
  | [], _, _, h, a, ha => by simp only [OwL] at h; rw [h.2] at ha; cases ha
  | x :: xs, _, _, h, a, ha => by
    simp only [OwL] at h
    obtain ⟨v, ws, L1, L2, rfl, h1, h2, rfl⟩ := h
    rcases List.mem_append.mp ha with ha | ha
    · exact Ow.dom h1 a ha
    · exact OwL.dom h2 a ha
end

/-- what was frozen stays so, with its content -/
def Ext (F : Addr → Prop) (H : Hp) (F' : Addr → Prop) (H' : Hp) : Prop := ∀ a, F a → F' a ∧ H' a = H a
theorem Ext.refl : Ext F H F H := fun _ h => ⟨h, rfl⟩
theorem Ext.trans {F'' : Addr → Prop} {H'' : Hp} (a : Ext F H F' H') (b : Ext F' H' F'' H'') : Ext F H F'' H'' := fun x h =>
  ⟨(b x (a x h).1).1, ((b x (a x h).1).2).trans (a x h).2⟩

theorem Rd.eq {a : Addr} {u : HO} (h : Rd H a u) (e : H' a = H a) : Rd H' a u := by
  rcases h with h | ⟨o, h⟩
  · exact .inl (e.trans h)
  · exact .inr ⟨o, e.trans h⟩
theorem FL.ext {a : Addr} {vs : List V} (h : FL K F H a vs) (x : Ext F H F' H') : FL K F' H' a vs := by
  rcases h with ⟨f, r⟩ | h
  · exact .inl ⟨(x a f).1, Rd.eq r (x a f).2⟩
  · exact .inr h
theorem FT.ext {a : Addr} {vs : List V} {L : List Addr} (h : FT K F H a vs L) (x : Ext F H F' H') : FT K F' H' a vs L := by
  rcases h with ⟨f, r⟩ | h
  · exact .inl ⟨(x a f).1, (x a f).2.trans r⟩
  · exact .inr h
theorem FT.nil {a : Addr} {vs : List V} {L : List Addr} (h : FT K F H a vs L) : FT K F H a vs [] := by
  rcases h with h | h
  · exact .inl h
  · exact .inr ⟨h.1, rfl⟩
theorem FL.sq {a : Addr} {vs : List V} (h : FL K F H a vs) : SqL K H a vs := by
  rcases h with ⟨_, r⟩ | h
  · exact .inl r
  · exact h H
theorem FT.sq {a : Addr} {vs : List V} {L : List Addr} (h : FT K F H a vs L) : SqT K H a vs := by
  rcases h with ⟨_, r⟩ | h
  · exact .inl (.inl r)
  · exact h.1 H

mutual
theorem Ow.mono (x : Ext F H F' H') : ∀ {d : D} {v : V} {L : List Addr}, Ow K F H d v L → (∀ a ∈ L, H' a = H a) → Ow K F' H' d v L
  | .hole, _, _, h, _ => by simp only [Ow] at h ⊢; exact h
  | .cell, _, _, h, k => by simp only [Ow] at h ⊢; obtain ⟨b, o, rfl, e, rfl⟩ := h; exact ⟨b, o, rfl, (k b (by simp)).trans e, rfl⟩
  | .node _ _, _, _, h, k => by simp only [Ow] at h ⊢; obtain ⟨rfl, e, rfl⟩ := h; exact ⟨rfl, (k _ (by simp)).trans e, rfl⟩
  | .non, _, _, h, _ => by simp only [Ow] at h ⊢; exact h
  | .bl _, _, _, h, _ => by simp only [Ow] at h ⊢; exact h
  | .int _, _, _, h, _ => by simp only [Ow] at h ⊢; exact h
  | .str _, _, _, h, _ => by simp only [Ow] at h ⊢; exact h
  | .ty _, _, _, h, _ => by simp only [Ow] at h ⊢; exact h
  | .cls _, _, _, h, _ => by simp only [Ow] at h ⊢; exact h
  | .lst true xs, _, _, h, k => by
    simp only [Ow] at h ⊢
    obtain ⟨b, vs, L', rfl, e, r, rfl⟩ := h
    exact ⟨b, vs, L', rfl, (k b (by simp)).trans e, OwL.mono x r fun a ha => k a (by simp [ha]), rfl⟩
  | .lst false xs, _, _, h, k => by
    simp only [Ow] at h ⊢
    obtain ⟨b, vs, rfl, e, r, rfl⟩ := h
    exact ⟨b, vs, rfl, e.ext x, OwL.mono x r (fun a ha => by cases ha), rfl⟩
  | .tup xs, _, _, h, k => by
    simp only [Ow] at h ⊢
    obtain ⟨b, vs, rfl, e, r⟩ := h
    exact ⟨b, vs, rfl, e.ext x, OwL.mono x r k⟩
  | .obj true C ks xs, _, _, h, k => by
    simp only [Ow] at h ⊢
    obtain ⟨b, dx, vs, L', rfl, e, el, r, rfl⟩ := h
    exact ⟨b, dx, vs, L', rfl, (k b (by simp)).trans e, el, OwL.mono x r fun a ha => k a (by simp [ha]), rfl⟩
  | .obj false C ks xs, _, _, h, k => by
    simp only [Ow] at h ⊢
    obtain ⟨b, dx, vs, rfl, e, f, el, r, rfl⟩ := h
    exact ⟨b, dx, vs, rfl, (x b f).2.trans e, (x b f).1, el, OwL.mono x r (fun a ha => by cases ha), rfl⟩
  | .dct true ks xs, _, _, h, k => by
    simp only [Ow] at h ⊢
    obtain ⟨b, vs, L', rfl, e, el, r, rfl⟩ := h
    exact ⟨b, vs, L', rfl, (k b (by simp)).trans e, el, OwL.mono x r fun a ha => k a (by simp [ha]), rfl⟩
  | .dct false ks xs, _, _, h, k => by
    simp only [Ow] at h ⊢
    obtain ⟨b, vs, rfl, e, f, el, r, rfl⟩ := h
    exact ⟨b, vs, rfl, (x b f).2.trans e, (x b f).1, el, OwL.mono x r (fun a ha => by cases ha), rfl⟩
theorem OwL.mono (x : Ext F H F' H') : ∀ {xs : List D} {vs : List V} {L : List Addr}, OwL K F H xs vs L → (∀ a ∈ L, H' a = H a) → OwL K F' H' xs vs L
  | [], _, _, h, _ => by simp only [OwL] at h ⊢; exact h
  | y :: xs, _, _, h, k => by
    simp only [OwL] at h ⊢
    obtain ⟨v, ws, L1, L2, rfl, h1, h2, rfl⟩ := h
    exact ⟨v, ws, L1, L2, rfl, Ow.mono x h1 fun a ha => k a (by simp [ha]), OwL.mono x h2 fun a ha => k a (by simp [ha]), rfl⟩
end

mutual
theorem Ow.fz (fs : ∀ a, F a → F' a) : ∀ {d : D} {v : V} {L : List Addr}, Ow K F H d v L → (∀ a ∈ L, F' a) → Ow K F' H d.fz v []
  | .hole, _, _, h, _ => by simp only [Ow, D.fz] at h ⊢
  | .cell, _, _, h, k => by simp only [Ow, D.fz] at h ⊢
  | .node _ _, _, _, h, k => by simp only [Ow, D.fz] at h ⊢
  | .non, _, _, h, _ => by simp only [Ow, D.fz] at h ⊢; exact ⟨h.1, trivial⟩
  | .bl _, _, _, h, _ => by simp only [Ow, D.fz] at h ⊢; exact ⟨h.1, trivial⟩
  | .int _, _, _, h, _ => by simp only [Ow, D.fz] at h ⊢; exact ⟨h.1, trivial⟩
  | .str _, _, _, h, _ => by simp only [Ow, D.fz] at h ⊢; exact ⟨h.1, trivial⟩
  | .ty _, _, _, h, _ => by simp only [Ow, D.fz] at h ⊢; exact ⟨h.1, trivial⟩
  | .cls _, _, _, h, _ => by simp only [Ow, D.fz] at h ⊢; exact ⟨h.1, trivial⟩
  | .lst true xs, _, _, h, k => by
    simp only [Ow, D.fz] at h ⊢
    obtain ⟨b, vs, L', rfl, e, r, rfl⟩ := h
    exact ⟨b, vs, rfl, .inl ⟨k b (by simp), .inl e⟩, OwL.fz fs r fun a ha => k a (by simp [ha]), trivial⟩
  | .lst false xs, _, _, h, k => by
    simp only [Ow, D.fz] at h ⊢
    obtain ⟨b, vs, rfl, e, r, rfl⟩ := h
    exact ⟨b, vs, rfl, e.ext (fun a f => ⟨fs a f, rfl⟩), OwL.fz fs r (fun a ha => by cases ha), trivial⟩
  | .tup xs, _, _, h, k => by
    simp only [Ow, D.fz] at h ⊢
    obtain ⟨b, vs, rfl, e, r⟩ := h
    exact ⟨b, vs, rfl, (e.ext (fun a f => ⟨fs a f, rfl⟩)).nil, OwL.fz fs r k⟩
  | .obj true C ks xs, _, _, h, k => by
    simp only [Ow, D.fz] at h ⊢
    obtain ⟨b, dx, vs, L', rfl, e, el, r, rfl⟩ := h
    exact ⟨b, dx, vs, rfl, e, k b (by simp), el, OwL.fz fs r fun a ha => k a (by simp [ha]), trivial⟩
  | .obj false C ks xs, _, _, h, k => by
    simp only [Ow, D.fz] at h ⊢
    obtain ⟨b, dx, vs, rfl, e, f, el, r, rfl⟩ := h
    exact ⟨b, dx, vs, rfl, e, fs b f, el, OwL.fz fs r (fun a ha => by cases ha), trivial⟩
  | .dct true ks xs, _, _, h, k => by
    simp only [Ow, D.fz] at h ⊢
    obtain ⟨b, vs, L', rfl, e, el, r, rfl⟩ := h
    exact ⟨b, vs, rfl, e, k b (by simp), el, OwL.fz fs r fun a ha => k a (by simp [ha]), trivial⟩
  | .dct false ks xs, _, _, h, k => by
    simp only [Ow, D.fz] at h ⊢
    obtain ⟨b, vs, rfl, e, f, el, r, rfl⟩ := h
    exact ⟨b, vs, rfl, e, fs b f, el, OwL.fz fs r (fun a ha => by cases ha), trivial⟩
theorem OwL.fz (fs : ∀ a, F a → F' a) : ∀ {xs : List D} {vs : List V} {L : List Addr}, OwL K F H xs vs L → (∀ a ∈ L, F' a) → OwL K F' H (D.fzL xs) vs []
  | [], _, _, h, _ => by simp only [OwL, D.fzL] at h ⊢; exact ⟨h.1, trivial⟩
  | y :: xs, _, _, h, k => by
    simp only [OwL, D.fzL] at h ⊢
    obtain ⟨v, ws, L1, L2, rfl, h1, h2, rfl⟩ := h
    exact ⟨v, ws, [], [], rfl, Ow.fz fs h1 fun a ha => k a (by simp [ha]), OwL.fz fs h2 fun a ha => k a (by simp [ha]), rfl⟩
end

/-! ### roots -/
abbrev Ro := List (D × V)
def OwP (K : PySem.W.Frag) (F : Addr → Prop) (H : Hp) : Ro → List Addr → Prop
  | [], L => L = []
  | (d, v) :: R, L => ∃ L1 L2, Ow K F H d v L1 ∧ OwP K F H R L2 ∧ L = L1 ++ L2
theorem OwP.dom : ∀ {R : Ro} {L : List Addr}, OwP K F H R L → ∀ a ∈ L, ∃ o, H a = some o
  | [], _, h, a, ha => by cases h; cases ha
  | (d, v) :: R, _, ⟨L1, L2, h1, h2, e⟩, a, ha => by
    subst e
    rcases List.mem_append.mp ha with ha | ha
    · exact h1.dom a ha
    · exact OwP.dom h2 a ha
theorem OwP.mono (x : Ext F H F' H') : ∀ {R : Ro} {L : List Addr}, OwP K F H R L → (∀ a ∈ L, H' a = H a) → OwP K F' H' R L
  | [], _, h, _ => h
  | (d, v) :: R, _, ⟨L1, L2, h1, h2, e⟩, k => ⟨L1, L2, h1.mono x fun a ha => k a (by simp [e, ha]), OwP.mono x h2 fun a ha => k a (by simp [e, ha]), e⟩
theorem OwP.append : ∀ {R S : Ro} {L M : List Addr}, OwP K F H R L → OwP K F H S M → OwP K F H (R ++ S) (L ++ M)
  | [], _, _, _, h, k => by cases h; exact k
  | (d, v) :: R, _, _, _, ⟨L1, L2, h1, h2, e⟩, k => ⟨L1, L2 ++ _, h1, OwP.append h2 k, by rw [e, List.append_assoc]⟩
theorem OwP.split : ∀ {R S : Ro} {N : List Addr}, OwP K F H (R ++ S) N → ∃ L M, N = L ++ M ∧ OwP K F H R L ∧ OwP K F H S M
  | [], _, N, h => ⟨[], N, rfl, rfl, h⟩
  | (d, v) :: R, _, _, ⟨L1, L2, h1, h2, e⟩ => by
    obtain ⟨L, M, e2, a, b⟩ := OwP.split h2
    exact ⟨L1 ++ L, M, by rw [e, e2, List.append_assoc], ⟨L1, L, h1, a, rfl⟩, b⟩
theorem OwP.perm {R S : Ro} (p : R.Perm S) : ∀ {L : List Addr}, OwP K F H R L → ∃ M, L.Perm M ∧ OwP K F H S M := by
  induction p with
  | nil => intro L h; exact ⟨L, .refl _, h⟩
  | cons x _ ih =>
    intro L ⟨L1, L2, h1, h2, e⟩
    obtain ⟨M, pm, h3⟩ := ih h2
    subst e
    exact ⟨L1 ++ M, pm.append_left L1, L1, M, h1, h3, rfl⟩
  | swap x y l =>
    intro L ⟨L1, L2, h1, ⟨L3, L4, h3, h4, e2⟩, e⟩
    subst e; subst e2
    refine ⟨L3 ++ (L1 ++ L4), ?_, L3, L1 ++ L4, h3, ⟨L1, L4, h1, h4, rfl⟩, rfl⟩
    rw [← List.append_assoc, ← List.append_assoc]
    exact List.perm_append_comm.append_right L4
  | trans _ _ ih1 ih2 =>
    intro L h
    obtain ⟨M, p1, h1⟩ := ih1 h
    obtain ⟨N, p2, h2⟩ := ih2 h1
    exact ⟨N, p1.trans p2, h2⟩
theorem OwL.toP : ∀ {xs : List D} {vs : List V} {L : List Addr}, OwL K F H xs vs L → xs.length = vs.length ∧ OwP K F H (xs.zip vs) L
  | [], _, _, h => by simp only [OwL] at h; obtain ⟨rfl, rfl⟩ := h; exact ⟨rfl, rfl⟩
  | x :: xs, _, _, h => by
    simp only [OwL] at h
    obtain ⟨v, ws, L1, L2, rfl, h1, h2, rfl⟩ := h
    have r := h2.toP
    exact ⟨by simp [r.1], L1, L2, h1, r.2, rfl⟩
theorem OwL.ofP : ∀ {xs : List D} {vs : List V} {L : List Addr}, xs.length = vs.length → OwP K F H (xs.zip vs) L → OwL K F H xs vs L
  | [], [], _, _, h => by simp only [OwL]; exact ⟨trivial, h⟩
  | x :: xs, v :: vs, _, e, h => by
    obtain ⟨L1, L2, h1, h2, e2⟩ := h
    simp only [OwL]
    exact ⟨v, vs, L1, L2, rfl, h1, OwL.ofP (by simpa using e) h2, e2⟩

/-- the roots stand apart -/
structure G (K : PySem.W.Frag) (F : Addr → Prop) (H : Hp) (R : Ro) : Prop where
  own : ∃ L, OwP K F H R L ∧ L.Nodup ∧ ∀ a ∈ L, ¬ F a
  dom : ∀ a, F a → ∃ o, H a = some o
variable {R S : Ro} {d : D} {v : V}
theorem G.perm (g : G K F H R) (p : R.Perm S) : G K F H S := by
  obtain ⟨L, h, n, f⟩ := g.own
  obtain ⟨M, pm, h'⟩ := h.perm p
  exact ⟨⟨M, h', pm.nodup_iff.mp n, fun a ha => f a (pm.mem_iff.mpr ha)⟩, g.dom⟩
theorem G.pop (g : G K F H ((d, v) :: R)) : G K F H R := by
  obtain ⟨L, ⟨L1, L2, h1, h2, rfl⟩, n, f⟩ := g.own
  exact ⟨⟨L2, h2, (List.nodup_append.mp n).2.1, fun a ha => f a (by simp [ha])⟩, g.dom⟩
theorem G.popN (g : G K F H (S ++ R)) : G K F H R := by
  induction S with
  | nil => exact g
  | cons x S ih => exact ih (G.pop (d := x.1) (v := x.2) g)
theorem G.left (g : G K F H (R ++ S)) : G K F H R := (g.perm List.perm_append_comm).popN
/-- d is known of v, whoever else has it -/
def Bor (K : PySem.W.Frag) (F : Addr → Prop) (H : Hp) (d : D) (v : V) : Prop := ∃ L, Ow K F H d v L
theorem G.bor (g : G K F H R) (h : (d, v) ∈ R) : Bor K F H d v := by
  obtain ⟨A, B, rfl⟩ := List.append_of_mem h
  obtain ⟨L, ⟨L1, L2, h1, h2, rfl⟩, n, f⟩ := (g.popN).own
  exact ⟨L1, h1⟩
/-- what owns nothing -/
theorem G.push (g : G K F H R) (h : Ow K F H d v []) : G K F H ((d, v) :: R) := by
  obtain ⟨L, h1, n, f⟩ := g.own
  exact ⟨⟨L, ⟨[], L, h, h1, rfl⟩, n, f⟩, g.dom⟩
/-- a new address -/
theorem G.alloc {p : Addr} {o : HO} (g : G K F H R) (hp : H p = none) : G K F (upd H p o) ((.cell, .ref p) :: R) ∧ Ext F H F (upd H p o) := by
  obtain ⟨L, h1, n, f⟩ := g.own
  have nF : ∀ a, F a → a ≠ p := fun a fa e => by obtain ⟨o, h⟩ := g.dom a fa; rw [e, hp] at h; cases h
  have nL : ∀ a ∈ L, a ≠ p := fun a ha e => by obtain ⟨o, h⟩ := h1.dom a ha; rw [e, hp] at h; cases h
  have x : Ext F H F (upd H p o) := fun a fa => ⟨fa, upd_ne (nF a fa)⟩
  refine ⟨⟨⟨p :: L, ⟨[p], L, ?_, h1.mono x fun a ha => upd_ne (nL a ha), rfl⟩, List.nodup_cons.mpr ⟨fun h => nL p h rfl, n⟩, fun a ha fa => ?_⟩, fun a fa => ?_⟩, x⟩
  · simp only [Ow]; exact ⟨p, o, rfl, upd_same, rfl⟩
  · rcases List.mem_cons.mp ha with rfl | ha
    · exact nF _ fa rfl
    · exact f a ha fa
  · rw [upd_ne (nF a fa)]; exact g.dom a fa
theorem G.write {a : Addr} {o : HO} (g : G K F H ((.cell, .ref a) :: R)) : G K F (upd H a o) ((.cell, .ref a) :: R) ∧ Ext F H F (upd H a o) := by
  obtain ⟨L, ⟨L1, L2, h1, h2, rfl⟩, n, f⟩ := g.own
  simp only [Ow] at h1
  obtain ⟨b, ob, e, hb, rfl⟩ := h1
  cases e
  have nF : ∀ c, F c → c ≠ a := fun c fc e => f a (by simp) (e ▸ fc)
  have nL : ∀ c ∈ L2, c ≠ a := fun c hc e => (List.nodup_cons.mp n).1 (e ▸ hc)
  have x : Ext F H F (upd H a o) := fun c fc => ⟨fc, upd_ne (nF c fc)⟩
  refine ⟨⟨⟨[a] ++ L2, ⟨[a], L2, ?_, h2.mono x fun c hc => upd_ne (nL c hc), rfl⟩, n, f⟩, fun c fc => ?_⟩, x⟩
  · simp only [Ow]; exact ⟨a, o, rfl, upd_same, rfl⟩
  · rw [upd_ne (nF c fc)]; exact g.dom c fc
/-- an owned list taken apart -/
theorem G.openL {xs : List D} (g : G K F H ((.lst true xs, v) :: R)) : ∃ a vs, v = .ref a ∧ H a = some (.lst vs) ∧ xs.length = vs.length ∧ G K F H ((.cell, .ref a) :: (xs.zip vs ++ R)) := by
  obtain ⟨L, ⟨L1, L2, h1, h2, rfl⟩, n, f⟩ := g.own
  simp only [Ow] at h1
  obtain ⟨a, vs, L', rfl, e, r, rfl⟩ := h1
  refine ⟨a, vs, rfl, e, r.toP.1, ⟨a :: L' ++ L2, ⟨[a], L' ++ L2, ?_, r.toP.2.append h2, rfl⟩, n, f⟩, g.dom⟩
  simp only [Ow]; exact ⟨a, _, rfl, e, rfl⟩
theorem G.formL {xs : List D} {vs : List V} {a : Addr} (g : G K F H ((.cell, .ref a) :: (xs.zip vs ++ R))) (hl : xs.length = vs.length) (e : H a = some (.lst vs)) : G K F H ((.lst true xs, .ref a) :: R) := by
  obtain ⟨L, ⟨L1, L2, h1, h2, rfl⟩, n, f⟩ := g.own
  simp only [Ow] at h1
  obtain ⟨b, ob, e', hb, rfl⟩ := h1
  cases e'
  obtain ⟨M, N, rfl, hm, hn⟩ := h2.split
  refine ⟨⟨(a :: M) ++ N, ⟨a :: M, N, ?_, hn, rfl⟩, by simpa using n, fun c hc => f c (by simpa using hc)⟩, g.dom⟩
  simp only [Ow]
  exact ⟨a, vs, M, rfl, e, OwL.ofP hl hm, rfl⟩
theorem G.openN {xs : List D} (g : G K F H ((.lst true xs, v) :: R)) : ∃ a vs, v = .ref a ∧ H a = some (.lst vs) ∧ xs.length = vs.length ∧ G K F H ((.node a vs, .ref a) :: (xs.zip vs ++ R)) := by
  obtain ⟨L, ⟨L1, L2, h1, h2, rfl⟩, n, f⟩ := g.own
  simp only [Ow] at h1
  obtain ⟨a, vs, L', rfl, e, r, rfl⟩ := h1
  refine ⟨a, vs, rfl, e, r.toP.1, ⟨a :: L' ++ L2, ⟨[a], L' ++ L2, ?_, r.toP.2.append h2, rfl⟩, n, f⟩, g.dom⟩
  simp only [Ow]; exact ⟨trivial, e, trivial⟩
theorem G.formN {xs : List D} {vs : List V} {a : Addr} (g : G K F H ((.node a vs, .ref a) :: (xs.zip vs ++ R))) (hl : xs.length = vs.length) : H a = some (.lst vs) ∧ G K F H ((.lst true xs, .ref a) :: R) := by
  obtain ⟨L, ⟨L1, L2, h1, h2, rfl⟩, n, f⟩ := g.own
  simp only [Ow] at h1
  obtain ⟨_, e, rfl⟩ := h1
  obtain ⟨M, N, rfl, hm, hn⟩ := h2.split
  refine ⟨e, ⟨⟨(a :: M) ++ N, ⟨a :: M, N, ?_, hn, rfl⟩, by simpa using n, fun c hc => f c (by simpa using hc)⟩, g.dom⟩⟩
  simp only [Ow]
  exact ⟨a, vs, M, rfl, e, OwL.ofP hl hm, rfl⟩
theorem G.nodeAt {vs : List V} {a : Addr} (g : G K F H R) (h : (D.node a vs, V.ref a) ∈ R) : H a = some (.lst vs) := by
  obtain ⟨L, o⟩ : ∃ L, Ow K F H (.node a vs) (.ref a) L := by
    obtain ⟨A, B, rfl⟩ := List.append_of_mem h
    obtain ⟨L, ⟨L1, L2, h1, h2, rfl⟩, n, f⟩ := (g.popN).own
    exact ⟨L1, h1⟩
  simp only [Ow] at o
  exact o.2.1
/-- a tuple's items -/
theorem G.openT {xs : List D} (g : G K F H ((.tup xs, v) :: R)) : ∃ a vs, v = .ref a ∧ FT K F H a vs [] ∧ xs.length = vs.length ∧ G K F H (xs.zip vs ++ R) := by
  obtain ⟨L, ⟨L1, L2, h1, h2, rfl⟩, n, f⟩ := g.own
  simp only [Ow] at h1
  obtain ⟨a, vs, rfl, e, r⟩ := h1
  exact ⟨a, vs, rfl, e.nil, r.toP.1, ⟨L1 ++ L2, r.toP.2.append h2, n, f⟩, g.dom⟩
theorem G.formT {xs : List D} {vs : List V} {a : Addr} (g : G K F H (xs.zip vs ++ R)) (hl : xs.length = vs.length) (e : F a ∧ H a = some (.tup vs)) : G K F H ((.tup xs, .ref a) :: R) := by
  obtain ⟨L, h, n, f⟩ := g.own
  obtain ⟨M, N, rfl, hm, hn⟩ := h.split
  refine ⟨⟨M ++ N, ⟨M, N, ?_, hn, rfl⟩, n, f⟩, g.dom⟩
  simp only [Ow]
  exact ⟨a, vs, rfl, .inl e, OwL.ofP hl hm⟩
/-- shared from now on -/
theorem G.freeze (g : G K F H ((d, v) :: R)) : ∃ F', Ext F H F' H ∧ G K F' H ((d.fz, v) :: R) ∧ Ow K F' H d.fz v [] := by
  obtain ⟨L, ⟨L1, L2, h1, h2, rfl⟩, n, f⟩ := g.own
  have x : Ext F H (fun a => F a ∨ a ∈ L1) H := fun a h => ⟨.inl h, rfl⟩
  have z : Ow K (fun a => F a ∨ a ∈ L1) H d.fz v [] := h1.fz (fun a h => .inl h) fun a h => .inr h
  refine ⟨fun a => F a ∨ a ∈ L1, x, ⟨⟨L2, ⟨[], L2, z, h2.mono x fun _ _ => rfl, rfl⟩, (List.nodup_append.mp n).2.1, fun a ha fa => ?_⟩, fun a fa => ?_⟩, z⟩
  · rcases fa with fa | fa
    · exact f a (by simp [ha]) fa
    · exact (List.nodup_append.mp n).2.2 a fa a ha rfl
  · rcases fa with fa | fa
    · exact g.dom a fa
    · exact h1.dom a fa
/-- a cell handed over to the frozen part, as a tuple -/
theorem G.layT {xs : List D} {vs : List V} {p : Addr} (g : G K F H (xs.zip vs ++ R)) (hl : xs.length = vs.length) (hp : H p = none) :
    ∃ F', Ext F H F' (upd H p (.tup vs)) ∧ G K F' (upd H p (.tup vs)) ((.tup xs, .ref p) :: R) := by
  obtain ⟨g1, x1⟩ := g.alloc (o := .tup vs) hp
  obtain ⟨F', x2, g2, _⟩ := g1.freeze
  obtain ⟨L, ⟨L1, L2, h1, h2, rfl⟩, n, f⟩ := g1.own
  have x : Ext F H (fun a => F a ∨ a = p) (upd H p (.tup vs)) := fun a h => ⟨.inl h, (x1 a h).2⟩
  have x' : Ext F (upd H p (.tup vs)) (fun a => F a ∨ a = p) (upd H p (.tup vs)) := fun a h => ⟨.inl h, rfl⟩
  simp only [Ow] at h1
  obtain ⟨b, ob, e', hb, rfl⟩ := h1
  cases e'
  refine ⟨_, x, G.formT (a := p) ⟨⟨L2, h2.mono x' fun _ _ => rfl, (List.nodup_cons.mp n).2, fun a ha fa => ?_⟩, fun a fa => ?_⟩ hl ⟨.inr rfl, upd_same⟩⟩
  · rcases fa with fa | fa
    · exact f a (by simp [ha]) fa
    · subst fa; exact (List.nodup_cons.mp n).1 ha
  · rcases fa with fa | fa
    · exact g1.dom a fa
    · subst fa; exact ⟨_, upd_same⟩
theorem G.ext (g : G K F H R) (x : Ext F H F' H') (k : ∀ a o, H a = some o → H' a = some o) (fr : ∀ a, F' a → F a ∨ H a = none) (dm : ∀ a, F' a → ∃ o, H' a = some o) : G K F' H' R := by
  obtain ⟨L, h, n, f⟩ := g.own
  refine ⟨⟨L, h.mono x fun a ha => ?_, n, fun a ha fa => ?_⟩, dm⟩
  · obtain ⟨o, e⟩ := h.dom a ha
    rw [e, k a o e]
  · obtain ⟨o, e⟩ := h.dom a ha
    rcases fr a fa with z | z
    · exact f a ha z
    · rw [e] at z; cases z
end
end DD
namespace DD
open PySem L2
section
variable {K : PySem.W.Frag} {F F' : Addr → Prop} {H H' : Hp}
abbrev DSt := List (Option D)
/-- the slots' roots -/
def sl : DSt → St → Ro
  | some d :: σD, some v :: σ => (d, v) :: sl σD σ
  | some _ :: σD, none :: σ => sl σD σ
  | none :: σD, _ :: σ => sl σD σ
  | _, _ => []
def Mt : DSt → St → Prop
  | [], [] => True
  | none :: σD, _ :: σ => Mt σD σ
  | some _ :: σD, some _ :: σ => Mt σD σ
  | _, _ => False
theorem Mt.length : ∀ {σD : DSt} {σ : St}, Mt σD σ → σD.length = σ.length
  | [], [], _ => rfl
  | none :: σD, _ :: σ, h => by simp [Mt.length (σD := σD) (σ := σ) h]
  | some _ :: σD, some _ :: σ, h => by simp [Mt.length (σD := σD) (σ := σ) h]
theorem Mt.get : ∀ {σD : DSt} {σ : St} {i : Nat} {d : D}, Mt σD σ → σD[i]? = some (some d) → ∃ v, σ[i]? = some (some v)
  | none :: σD, _ :: σ, 0, d, h, e => by simp at e
  | some _ :: σD, some v :: σ, 0, d, h, e => ⟨v, rfl⟩
  | none :: σD, _ :: σ, i + 1, d, h, e => by simpa using Mt.get (i := i) (σD := σD) (σ := σ) h (by simpa using e)
  | some _ :: σD, some v :: σ, i + 1, d, h, e => by simpa using Mt.get (i := i) (σD := σD) (σ := σ) h (by simpa using e)
theorem Mt.clear : ∀ {σD : DSt} {σ : St} (i : Nat), Mt σD σ → Mt (σD.set i none) σ
  | [], [], _, h => h
  | none :: σD, _ :: σ, 0, h => h
  | some _ :: σD, some v :: σ, 0, h => h
  | none :: σD, _ :: σ, i + 1, h => Mt.clear (σD := σD) (σ := σ) i h
  | some _ :: σD, some v :: σ, i + 1, h => Mt.clear (σD := σD) (σ := σ) i h
theorem Mt.put : ∀ {σD : DSt} {σ : St} {i : Nat} {v : V} (d : D), Mt σD σ → σ[i]? = some (some v) → Mt (σD.set i (some d)) σ
  | [], [], _, _, _, _, e => by simp at e
  | none :: σD, o :: σ, 0, v, d, h, e => by simp at e; subst e; exact h
  | some _ :: σD, some v :: σ, 0, _, d, h, e => h
  | none :: σD, _ :: σ, i + 1, v, d, h, e => Mt.put (σD := σD) (σ := σ) (i := i) (v := v) d h (by simpa using e)
  | some _ :: σD, some _ :: σ, i + 1, v, d, h, e => Mt.put (σD := σD) (σ := σ) (i := i) (v := v) d h (by simpa using e)
theorem Mt.store : ∀ {σD : DSt} {σ : St} (i : Nat) (v : V) (d : D), Mt σD σ → Mt (σD.set i (some d)) (σ.set i (some v))
  | [], [], _, _, _, h => h
  | none :: σD, o :: σ, 0, v, d, h => h
  | some _ :: σD, some _ :: σ, 0, _, d, h => h
  | none :: σD, _ :: σ, i + 1, v, d, h => Mt.store (σD := σD) (σ := σ) i v d h
  | some _ :: σD, some _ :: σ, i + 1, v, d, h => Mt.store (σD := σD) (σ := σ) i v d h
theorem sl_take : ∀ {σD : DSt} {σ : St} {i : Nat} {d : D} {v : V}, σD[i]? = some (some d) → σ[i]? = some (some v) → (sl σD σ).Perm ((d, v) :: sl (σD.set i none) σ)
  | some _ :: σD, some _ :: σ, 0, d, v, e, e' => by simp at e e'; subst e; subst e'; exact .refl _
  | none :: σD, o :: σ, 0, d, v, e, e' => by simp at e
  | some _ :: σD, none :: σ, 0, d, v, e, e' => by simp at e'
  | none :: σD, _ :: σ, i + 1, d, v, e, e' => sl_take (σD := σD) (σ := σ) (i := i) (by simpa using e) (by simpa using e')
  | some x :: σD, none :: σ, i + 1, d, v, e, e' => sl_take (σD := σD) (σ := σ) (i := i) (by simpa using e) (by simpa using e')
  | some x :: σD, some y :: σ, i + 1, d, v, e, e' => ((sl_take (σD := σD) (σ := σ) (i := i) (by simpa using e) (by simpa using e')).cons _).trans (.swap _ _ _)
theorem sl_none : ∀ {σD : DSt} {σ : St} {i : Nat}, σD[i]? = some none → sl (σD.set i none) σ = sl σD σ
  | [], _, _, e => by simp at e
  | none :: σD, [], 0, _ => rfl
  | none :: σD, o :: σ, 0, _ => rfl
  | some _ :: σD, _, 0, e => by simp at e
  | x :: σD, [], i + 1, e => by cases x <;> rfl
  | none :: σD, _ :: σ, i + 1, e => sl_none (σD := σD) (σ := σ) (i := i) (by simpa using e)
  | some x :: σD, none :: σ, i + 1, e => sl_none (σD := σD) (σ := σ) (i := i) (by simpa using e)
  | some x :: σD, some y :: σ, i + 1, e => by
    show (x, y) :: sl (σD.set i none) σ = (x, y) :: sl σD σ
    rw [sl_none (σD := σD) (σ := σ) (i := i) (by simpa using e)]
theorem sl_put : ∀ {σD : DSt} {σ : St} {i : Nat} {v : V} (d : D), i < σD.length → σ[i]? = some (some v) → (sl (σD.set i (some d)) σ).Perm ((d, v) :: sl (σD.set i none) σ) := fun {σD σ i v} d h e => by
  have h1 := sl_take (σD := σD.set i (some d)) (σ := σ) (i := i) (d := d) (v := v) (by simp [h]) e
  rw [List.set_set] at h1
  exact h1
theorem sl_store : ∀ {σD : DSt} {σ : St} {i : Nat} {v : V}, sl (σD.set i none) (σ.set i (some v)) = sl (σD.set i none) σ
  | [], _, _, _ => by simp [sl]
  | x :: σD, [], i, _ => by simp
  | x :: σD, o :: σ, 0, _ => by cases o <;> rfl
  | none :: σD, o :: σ, i + 1, _ => sl_store (σD := σD) (σ := σ) (i := i)
  | some x :: σD, none :: σ, i + 1, _ => sl_store (σD := σD) (σ := σ) (i := i)
  | some x :: σD, some y :: σ, i + 1, _ => by
    show (x, y) :: sl (σD.set i none) (σ.set i _) = (x, y) :: sl (σD.set i none) σ
    rw [sl_store (σD := σD) (σ := σ) (i := i)]
/-- dropping a slot -/
theorem G.clear {σD : DSt} {σ : St} {R : Ro} (i : Nat) (m : Mt σD σ) (g : G K F H (sl σD σ ++ R)) : G K F H (sl (σD.set i none) σ ++ R) := by
  rcases h : σD[i]? with _ | _ | d
  · rw [List.set_eq_of_length_le (List.getElem?_eq_none_iff.mp h)]; exact g
  · rw [sl_none h]; exact g
  · obtain ⟨v, hv⟩ := m.get h
    exact G.pop (d := d) (v := v) (g.perm ((sl_take h hv).append_right R))

structure Rel (K : PySem.W.Frag) (F : Addr → Prop) (H : Hp) (σD : DSt) (σ : St) (R : Ro) : Prop where
  mt : Mt σD σ
  g : G K F H (sl σD σ ++ R)
variable {σD : DSt} {σ : St} {R S : Ro} {d : D} {v : V} {i : Nat}
theorem Rel.perm (r : Rel K F H σD σ R) (p : R.Perm S) : Rel K F H σD σ S := ⟨r.mt, r.g.perm (p.append_left _)⟩
theorem Rel.front (r : Rel K F H σD σ R) : G K F H (R ++ sl σD σ) := r.g.perm List.perm_append_comm
theorem Rel.of (m : Mt σD σ) (g : G K F H (R ++ sl σD σ)) : Rel K F H σD σ R := ⟨m, g.perm List.perm_append_comm⟩
theorem Rel.get (r : Rel K F H σD σ R) (e : σD[i]? = some (some d)) : ∃ v, σ[i]? = some (some v) ∧ Bor K F H d v := by
  obtain ⟨v, hv⟩ := r.mt.get e
  exact ⟨v, hv, r.g.bor (List.mem_append_left _ ((sl_take e hv).mem_iff.mpr (by simp)))⟩
theorem Rel.take (r : Rel K F H σD σ R) (e : σD[i]? = some (some d)) : ∃ v, σ[i]? = some (some v) ∧ Rel K F H (σD.set i none) σ ((d, v) :: R) := by
  obtain ⟨v, hv⟩ := r.mt.get e
  refine ⟨v, hv, r.mt.clear i, r.g.perm ?_⟩
  exact ((sl_take e hv).append_right R).trans List.perm_middle.symm
theorem Rel.put (r : Rel K F H σD σ ((d, v) :: R)) (e : σ[i]? = some (some v)) : Rel K F H (σD.set i (some d)) σ R := by
  have hi : i < σD.length := by rw [r.mt.length]; exact (List.getElem?_eq_some_iff.mp e).1
  refine ⟨r.mt.put d e, (r.g.clear i r.mt).perm ?_⟩
  exact List.perm_middle.trans ((sl_put d hi e).append_right R).symm
theorem Rel.store (r : Rel K F H σD σ ((d, v) :: R)) (hi : i < σ.length) : Rel K F H (σD.set i (some d)) (σ.set i (some v)) R := by
  have hi' : i < σD.length := by rw [r.mt.length]; exact hi
  refine ⟨r.mt.store i v d, (r.g.clear i r.mt).perm ?_⟩
  have h := sl_put (σD := σD) (σ := σ.set i (some v)) (i := i) (v := v) d hi' (by simp [hi])
  rw [sl_store] at h
  exact List.perm_middle.trans (h.append_right R).symm
theorem Rel.pop (r : Rel K F H σD σ ((d, v) :: R)) : Rel K F H σD σ R := Rel.of r.mt (r.front).pop
theorem Rel.popN (r : Rel K F H σD σ (S ++ R)) : Rel K F H σD σ R := Rel.of r.mt (by have h := r.front; rw [List.append_assoc] at h; exact h.popN)
theorem Rel.push (r : Rel K F H σD σ R) (h : Ow K F H d v []) : Rel K F H σD σ ((d, v) :: R) := Rel.of r.mt (r.front.push h)
theorem Rel.bor (r : Rel K F H σD σ R) (h : (d, v) ∈ R) : Bor K F H d v := r.g.bor (List.mem_append_right _ h)
theorem Rel.freeze (r : Rel K F H σD σ ((d, v) :: R)) : ∃ F', Ext F H F' H ∧ Rel K F' H σD σ ((d.fz, v) :: R) ∧ Ow K F' H d.fz v [] := by
  obtain ⟨F', x, g, o⟩ := r.front.freeze
  exact ⟨F', x, Rel.of r.mt g, o⟩
theorem Rel.openL {xs : List D} (r : Rel K F H σD σ ((.lst true xs, v) :: R)) : ∃ a vs, v = .ref a ∧ H a = some (.lst vs) ∧ xs.length = vs.length ∧ Rel K F H σD σ ((.cell, .ref a) :: (xs.zip vs ++ R)) := by
  obtain ⟨a, vs, e, h, l, g⟩ := r.front.openL
  exact ⟨a, vs, e, h, l, Rel.of r.mt (by simpa using g)⟩
theorem Rel.formL {xs : List D} {vs : List V} {a : Addr} (r : Rel K F H σD σ ((.cell, .ref a) :: (xs.zip vs ++ R))) (hl : xs.length = vs.length) (e : H a = some (.lst vs)) : Rel K F H σD σ ((.lst true xs, .ref a) :: R) :=
  Rel.of r.mt (G.formL (vs := vs) (by simpa using r.front) hl e)
theorem Rel.openN {xs : List D} (r : Rel K F H σD σ ((.lst true xs, v) :: R)) : ∃ a vs, v = .ref a ∧ H a = some (.lst vs) ∧ xs.length = vs.length ∧ Rel K F H σD σ ((.node a vs, .ref a) :: (xs.zip vs ++ R)) := by
  obtain ⟨a, vs, e, h, l, g⟩ := r.front.openN
  exact ⟨a, vs, e, h, l, Rel.of r.mt (by simpa using g)⟩
theorem Rel.formN {xs : List D} {vs : List V} {a : Addr} (r : Rel K F H σD σ ((.node a vs, .ref a) :: (xs.zip vs ++ R))) (hl : xs.length = vs.length) : Rel K F H σD σ ((.lst true xs, .ref a) :: R) :=
  Rel.of r.mt (G.formN (vs := vs) (by simpa using r.front) hl).2
theorem Rel.nodeAt {vs : List V} {a : Addr} (r : Rel K F H σD σ R) (h : (D.node a vs, V.ref a) ∈ R) : H a = some (.lst vs) := r.g.nodeAt (List.mem_append_right _ h)
theorem Rel.openT {xs : List D} (r : Rel K F H σD σ ((.tup xs, v) :: R)) : ∃ a vs, v = .ref a ∧ FT K F H a vs [] ∧ xs.length = vs.length ∧ Rel K F H σD σ (xs.zip vs ++ R) := by
  obtain ⟨a, vs, e, h, l, g⟩ := r.front.openT
  exact ⟨a, vs, e, h, l, Rel.of r.mt (by simpa using g)⟩
theorem Rel.alloc {p : Addr} {o : HO} (r : Rel K F H σD σ R) (hp : H p = none) : Rel K F (upd H p o) σD σ ((.cell, .ref p) :: R) ∧ Ext F H F (upd H p o) := by
  obtain ⟨g, x⟩ := r.front.alloc (o := o) hp
  exact ⟨Rel.of r.mt g, x⟩
theorem Rel.write {a : Addr} {o : HO} (r : Rel K F H σD σ ((.cell, .ref a) :: R)) : Rel K F (upd H a o) σD σ ((.cell, .ref a) :: R) ∧ Ext F H F (upd H a o) := by
  obtain ⟨g, x⟩ := r.front.write (o := o)
  exact ⟨Rel.of r.mt g, x⟩
theorem Rel.layL {xs : List D} {vs : List V} {p : Addr} (r : Rel K F H σD σ (xs.zip vs ++ R)) (hl : xs.length = vs.length) (hp : H p = none) :
    Rel K F (upd H p (.lst vs)) σD σ ((.lst true xs, .ref p) :: R) ∧ Ext F H F (upd H p (.lst vs)) := by
  obtain ⟨r1, x⟩ := r.alloc (o := .lst vs) hp
  exact ⟨r1.formL hl upd_same, x⟩
theorem Rel.layT {xs : List D} {vs : List V} {p : Addr} (r : Rel K F H σD σ (xs.zip vs ++ R)) (hl : xs.length = vs.length) (hp : H p = none) :
    ∃ F', Ext F H F' (upd H p (.tup vs)) ∧ Rel K F' (upd H p (.tup vs)) σD σ ((.tup xs, .ref p) :: R) := by
  obtain ⟨F', x, g⟩ := G.layT (R := R ++ sl σD σ) (by simpa using r.front) hl hp
  exact ⟨F', x, Rel.of r.mt g⟩
/-- only new things -/
structure Grow (F : Addr → Prop) (H : Hp) (F' : Addr → Prop) (H' : Hp) : Prop where
  x : Ext F H F' H'
  k : ∀ a o, H a = some o → H' a = some o
  fr : ∀ a, F' a → F a ∨ H a = none
  dm : (∀ a, F a → ∃ o, H a = some o) → ∀ a, F' a → ∃ o, H' a = some o
theorem Grow.refl : Grow F H F H := ⟨Ext.refl, fun _ _ e => e, fun _ h => .inl h, fun h => h⟩
theorem Grow.trans {F'' : Addr → Prop} {H'' : Hp} (a : Grow F H F' H') (b : Grow F' H' F'' H'') : Grow F H F'' H'' :=
  ⟨a.x.trans b.x, fun x o e => b.k x o (a.k x o e), fun x h => by
    rcases b.fr x h with h | h
    · exact a.fr x h
    · refine .inr ?_
      rcases e : H x with _ | o
      · rfl
      · rw [a.k x o e] at h
        exact (nomatch h), fun d => b.dm (a.dm d)⟩
theorem Rel.grow (r : Rel K F H σD σ R) (g : Grow F H F' H') : Rel K F' H' σD σ R := ⟨r.mt, r.g.ext g.x g.k g.fr (g.dm r.g.dom)⟩
theorem Bor.grow (b : Bor K F H d v) (g : Grow F H F' H') : Bor K F' H' d v := by
  obtain ⟨L, h⟩ := b
  exact ⟨L, h.mono g.x fun a ha => by obtain ⟨o, e⟩ := h.dom a ha; rw [e, g.k a o e]⟩
end
end DD
namespace DD
open PySem PySem.Spec PyProof.Rows L2
abbrev St := L2.St

/-! ### scalars -/
def D.sc : D → Option V
  | .non => some .non
  | .bl b => some (.bl b)
  | .int i => some (.int i)
  | .str x => some (.str x)
  | .ty n => some (.ty n)
  | .cls a => some (.ref a)
  | _ => none
section
variable {K : PySem.W.Frag} {F F' : Addr → Prop} {H H' : Hp} {d : D} {v w : V} {L : List Addr} {R : Ro} {σD : DSt} {σ : St}
theorem Ow.of_sc (h : d.sc = some w) : Ow K F H d w [] := by
  cases d <;> simp only [D.sc] at h <;> cases h <;> simp only [Ow] <;> exact ⟨trivial, trivial⟩
theorem Ow.sc (o : Ow K F H d v L) (h : d.sc = some w) : v = w ∧ L = [] := by
  cases d <;> simp only [D.sc] at h <;> cases h <;> simp only [Ow] at o <;> exact o
theorem Bor.sc (b : Bor K F H d v) (h : d.sc = some w) : v = w := by obtain ⟨L, o⟩ := b; exact (o.sc h).1
theorem Rel.scal (r : Rel K F H σD σ R) (h : d.sc = some w) : Rel K F H σD σ ((d, w) :: R) := r.push (Ow.of_sc h)
theorem Bor.int {i : Int} (b : Bor K F H (.int i) v) : v = .int i := b.sc rfl
theorem Bor.bl {i : Bool} (b : Bor K F H (.bl i) v) : v = .bl i := b.sc rfl
theorem Bor.str {i : Str} (b : Bor K F H (.str i) v) : v = .str i := b.sc rfl
end

/-! ### weakening -/
section
variable {X : Cx} {e : Expr} {es : List Expr} {st : Stmt} {sts : List Stmt}
theorem PE_imp {t t' : TE} (h : PE X e t) (i : ∀ σ H Q, t' σ H Q → t σ H Q) : PE X e t' := fun pins s σ H Q I h' => h pins s σ H Q I (i σ H Q h')
theorem PT_imp {t t' : TT} (h : PT X e t) (i : ∀ σ H Q, t' σ H Q → t σ H Q) : PT X e t' := fun pins s σ H Q I h' => h pins s σ H Q I (i σ H Q h')
theorem PW_imp {t t' : TT} (h : PW X e t) (i : ∀ σ H Q, t' σ H Q → t σ H Q) : PW X e t' := fun wh pins s σ H Q I h' => h wh pins s σ H Q I (i σ H Q h')
theorem PA_imp {t t' : TA} (h : PA X es t) (i : ∀ σ H Q, t' σ H Q → t σ H Q) : PA X es t' := fun p pins s σ H Q I h' => h p pins s σ H Q I (i σ H Q h')
theorem PS_imp {t t' : TS} (h : PS X st t) (i : ∀ D σ H, t' D σ H → t D σ H) : PS X st t' := fun pins s σ H D I h' => h pins s σ H D I (i D σ H h')
theorem PSs_imp {t t' : TS} (h : PSs X sts t) (i : ∀ D σ H, t' D σ H → t D σ H) : PSs X sts t' := fun pins s σ H D I h' => h pins s σ H D I (i D σ H h')
theorem OpR_imp {f : Value → Value → Sem Value} {r r' : R2} (h : OpR X f r) (i : ∀ x y H Q, r' x y H Q → r x y H Q) : OpR X f r' := fun pins s σ H x y v u Q I a b h' => h pins s σ H x y v u Q I a b (i x y H Q h')
end

/-! ### what is read, at data -/
abbrev DE := DSt → Option (D × DSt)
abbrev DP := DSt → Option D
abbrev DA := DSt → Option (List D × DSt)
abbrev DT := DSt → Option (Bool × DSt)
inductive Out where
  | nx (σ : DSt) | rt (d : D) (σ : DSt) | bk (σ : DSt) | ct (σ : DSt)
abbrev DS := DSt → Option Out
def rE (K : PySem.W.Frag) (c : DE) : TE := fun σ H Q => ∃ F R σD d σD', Rel K F H σD σ R ∧ c σD = some (d, σD') ∧ ∀ F' H' v, Ext F H F' H' → Rel K F' H' σD' σ ((d, v) :: R) → Q v H'
def rB (K : PySem.W.Frag) (c : DP) : TE := fun σ H Q => ∃ F R σD d, Rel K F H σD σ R ∧ c σD = some d ∧ ∀ F' H' v, Grow F H F' H' → Bor K F' H' d v → Q v H'
def rA (K : PySem.W.Frag) (c : DA) : TA := fun σ H Q => ∃ F R σD xs σD', Rel K F H σD σ R ∧ c σD = some (xs, σD') ∧ ∀ F' H' vs, Ext F H F' H' → xs.length = vs.length → Rel K F' H' σD' σ (xs.zip vs ++ R) → Q vs H'
def rT (K : PySem.W.Frag) (c : DT) : TT := fun σ H Q => ∃ F R σD b σD', Rel K F H σD σ R ∧ c σD = some (b, σD') ∧ ∀ F' H', Ext F H F' H' → Rel K F' H' σD' σ R → Q b H'
def Kp (W : List Nat) (σ σ' : St) : Prop := ∀ k, k ∉ W → σ'[k]? = σ[k]?
/-- what is wanted behind a statement's end -/
def Th (K : PySem.W.Frag) (En : Ends) (R : Ro) (F : Addr → Prop) (H : Hp) (σ : St) : Out → Prop
  | .nx σD => Rel K F H σD σ R → En.nx σ H
  | .bk σD => Rel K F H σD σ R → En.bk σ H
  | .ct σD => Rel K F H σD σ R → En.ct σ H
  | .rt d σD => ∀ v, Rel K F H σD σ ((d, v) :: R) → En.rt v H
def rS (K : PySem.W.Frag) (c : DS) (W : List Nat) : TS := fun En σ H => ∃ F R σD o, Rel K F H σD σ R ∧ c σD = some o ∧ ∀ F' H' σ', Ext F H F' H' → Kp W σ σ' → Th K En R F' H' σ' o
def QE (X : Cx) (e : Expr) (c : DE) : Prop := PE X e (rE X.K c)
def QB (X : Cx) (e : Expr) (c : DP) : Prop := PE X e (rB X.K c)
def QA (X : Cx) (es : List Expr) (c : DA) : Prop := PA X es (rA X.K c)
def QT (X : Cx) (e : Expr) (c : DT) : Prop := PT X e (rT X.K c)
def QW (X : Cx) (e : Expr) (c : DT) : Prop := PW X e (rT X.K c)
def QS (X : Cx) (st : Stmt) (c : DS) (W : List Nat) : Prop := PS X st (rS X.K c W)
def QSs (X : Cx) (sts : List Stmt) (c : DS) (W : List Nat) : Prop := PSs X sts (rS X.K c W)
theorem Kp.refl {W : List Nat} {σ : St} : Kp W σ σ := fun _ _ => rfl
theorem Kp.trans {W : List Nat} {σ σ1 σ2 : St} (a : Kp W σ σ1) (b : Kp W σ1 σ2) : Kp W σ σ2 := fun k h => (b k h).trans (a k h)
theorem Kp.mono {W W' : List Nat} {σ σ' : St} (a : Kp W σ σ') (h : ∀ k ∈ W, k ∈ W') : Kp W' σ σ' := fun k hk => a k fun z => hk (h k z)
theorem Kp.set {σ : St} {i : Nat} {o : Option V} : Kp [i] σ (σ.set i o) := fun k hk => by
  rw [List.getElem?_set_ne]; intro e; exact hk (by simp [e])

/-- an int's, a bool's, a text's expression -/
def dS (p : DP) : DE := fun σ => (p σ).bind fun d => match d.sc with | some _ => some (d, σ) | none => none
def dget (σ : DSt) (i : Nat) : Option D := match σ[i]? with | some (some d) => some d | _ => none
theorem dget_some {σ : DSt} {i : Nat} {d : D} (h : dget σ i = some d) : σ[i]? = some (some d) := by
  unfold dget at h
  split at h
  · cases h; assumption
  · cases h
def pV (i : Nat) : DP := fun σ => dget σ i
def pC (d : D) : DP := fun _ => some d
def dCp (i : Nat) : DE := fun σ => (dget σ i).map fun d => (d.fz, σ.set i (some d.fz))
def dMv (i : Nat) : DE := fun σ => (dget σ i).map fun d => (d, σ.set i none)
section
variable {X : Cx} {e a b : Expr} {es : List Expr} {p q : DP} {c c' : DE} {pos : Pos}
theorem qe_s (h : QB X e p) : QE X e (dS p) := PE_imp h fun σ H Q ⟨F, R, σD, d, σD', r, ec, k⟩ => by
  unfold dS at ec
  rcases hp : p σD with _ | x
  · rw [hp] at ec; cases ec
  · rw [hp] at ec
    simp only [Option.bind_some] at ec
    rcases hs : x.sc with _ | w
    · rw [hs] at ec; cases ec
    · rw [hs] at ec; cases ec
      refine ⟨F, R, σD, d, r, hp, fun F' H' v g b => k F' H' v g.x ?_⟩
      rw [b.sc hs]; exact (r.grow g).scal hs
theorem qb_v (i : Nat) {x : Str} {pos : Pos} (hN : X.N[i]? = some x := by rfl) (hv : Vis X.env.scope x := by first | exact Or.inl rfl | exact Or.inr (Or.inl rfl) | exact Or.inr (Or.inr rfl)) (hd : (x == ("__debug__" : Str)) = false := by decide)
    (hcd : (x == ("__classdict__" : Str)) = false := by decide) : QB X (.Name x pos) (pV i) := PE_imp (pe_var hN hv hd hcd) fun σ H Q ⟨F, R, σD, d, r, ec, k⟩ => by
  obtain ⟨v, hv, b⟩ := r.get (dget_some ec)
  exact ⟨v, hv, k F H v Grow.refl b⟩
theorem qb_int {i : Int} {j pos} : QB X (.Constant (.int i) j pos) (pC (.int i)) := PE_imp pe_int fun σ H Q ⟨F, R, σD, d, r, ec, k⟩ => by
  cases ec; exact k F H _ Grow.refl ⟨[], Ow.of_sc rfl⟩
theorem qb_bl {i : Bool} {j pos} : QB X (.Constant (.bool i) j pos) (pC (.bl i)) := PE_imp pe_bl fun σ H Q ⟨F, R, σD, d, r, ec, k⟩ => by
  cases ec; exact k F H _ Grow.refl ⟨[], Ow.of_sc rfl⟩
theorem qb_non {j pos} : QB X (.Constant .none j pos) (pC .non) := PE_imp pe_non fun σ H Q ⟨F, R, σD, d, r, ec, k⟩ => by
  cases ec; exact k F H _ Grow.refl ⟨[], Ow.of_sc rfl⟩
theorem qb_str {x : Str} {j pos} : QB X (.Constant (.str x) j pos) (pC (.str x)) := PE_imp pe_str fun σ H Q ⟨F, R, σD, d, r, ec, k⟩ => by
  cases ec; exact k F H _ Grow.refl ⟨[], Ow.of_sc rfl⟩
theorem map_pair {α β γ : Type} {o : Option α} {f : α → β × γ} {d : β} {s : γ} (h : o.map f = some (d, s)) : ∃ x, o = some x ∧ f x = (d, s) := by
  cases o with
  | none => cases h
  | some x => exact ⟨x, rfl, Option.some.inj h⟩
theorem qe_cp (i : Nat) {x : Str} {pos : Pos} (hN : X.N[i]? = some x := by rfl) (hv : Vis X.env.scope x := by first | exact Or.inl rfl | exact Or.inr (Or.inl rfl) | exact Or.inr (Or.inr rfl)) (hd : (x == ("__debug__" : Str)) = false := by decide)
    (hcd : (x == ("__classdict__" : Str)) = false := by decide) : QE X (.Name x pos) (dCp i) := PE_imp (pe_var hN hv hd hcd) fun σ H Q ⟨F, R, σD, d, σD', r, ec, k⟩ => by
  obtain ⟨d0, e0, e1⟩ := map_pair ec
  cases e1
  obtain ⟨v, hv, r1⟩ := r.take (dget_some e0)
  obtain ⟨F', x, r2, o⟩ := r1.freeze
  have r3 := (r2.push o).put hv
  rw [List.set_set] at r3
  exact ⟨v, hv, k F' H v x r3⟩
theorem qe_mv (i : Nat) {x : Str} {pos : Pos} (hN : X.N[i]? = some x := by rfl) (hv : Vis X.env.scope x := by first | exact Or.inl rfl | exact Or.inr (Or.inl rfl) | exact Or.inr (Or.inr rfl)) (hd : (x == ("__debug__" : Str)) = false := by decide)
    (hcd : (x == ("__classdict__" : Str)) = false := by decide) : QE X (.Name x pos) (dMv i) := PE_imp (pe_var hN hv hd hcd) fun σ H Q ⟨F, R, σD, d, σD', r, ec, k⟩ => by
  obtain ⟨d0, e0, e1⟩ := map_pair ec
  cases e1
  obtain ⟨v, hv, r1⟩ := r.take (dget_some e0)
  exact ⟨v, hv, k F H v Ext.refl r1⟩

/-! ### operators -/
/-- an operator on data whose result is an int, a bool, a text, None -/
structure OpS (X : Cx) (f : Value → Value → Sem Value) (g : D → D → Option D) : Prop where
  run : OpR X f (fun x y H Q => ∃ F dx dy d w, Bor X.K F H dx x ∧ Bor X.K F H dy y ∧ g dx dy = some d ∧ d.sc = some w ∧ Q w H)
  sc : ∀ x y d, g x y = some d → ∃ w, d.sc = some w
def dOp (g : D → D → Option D) (c c' : DE) : DE := fun σ => (c σ).bind fun p => (c' p.2).bind fun q => (g p.1 q.1).map fun d => (d, q.2)
def pOp (g : D → D → Option D) (p q : DP) : DP := fun σ => (p σ).bind fun x => (q σ).bind fun y => g x y
theorem dOp_some {g : D → D → Option D} {σ σ' : DSt} {d : D} (h : dOp g c c' σ = some (d, σ')) : ∃ x y σ1, c σ = some (x, σ1) ∧ c' σ1 = some (y, σ') ∧ g x y = some d := by
  unfold dOp at h
  rcases h1 : c σ with _ | ⟨x, σ1⟩
  · rw [h1] at h; cases h
  · rw [h1] at h; simp only [Option.bind_some] at h
    rcases h2 : c' σ1 with _ | ⟨y, σ2⟩
    · rw [h2] at h; cases h
    · rw [h2] at h; simp only [Option.bind_some] at h
      obtain ⟨z, e, e2⟩ := map_pair h
      cases e2
      exact ⟨x, y, σ1, rfl, h2, e⟩
theorem pOp_some {g : D → D → Option D} {σ : DSt} {d : D} (h : pOp g p q σ = some d) : ∃ x y, p σ = some x ∧ q σ = some y ∧ g x y = some d := by
  unfold pOp at h
  rcases h1 : p σ with _ | x
  · rw [h1] at h; cases h
  · rw [h1] at h; simp only [Option.bind_some] at h
    rcases h2 : q σ with _ | y
    · rw [h2] at h; cases h
    · rw [h2] at h; simp only [Option.bind_some] at h
      exact ⟨x, y, rfl, rfl, h⟩
/-- the reading of a two-place operation -/
theorem rOp {f : Value → Value → Sem Value} {g : D → D → Option D} (o : OpS X f g) {σ : St} {H : Hp} {Q : VK} (h : rE X.K (dOp g c c') σ H Q) :
    tOp (fun x y H Q => ∃ F dx dy d w, Bor X.K F H dx x ∧ Bor X.K F H dy y ∧ g dx dy = some d ∧ d.sc = some w ∧ Q w H) (rE X.K c) (rE X.K c') σ H Q := by
  obtain ⟨F, R, σD, d, σD', r, ec, k⟩ := h
  obtain ⟨x, y, σ1, e1, e2, eg⟩ := dOp_some ec
  obtain ⟨w, hw⟩ := o.sc _ _ _ eg
  refine ⟨F, R, σD, x, σ1, r, e1, fun F1 H1 v x1 r1 => ?_⟩
  refine ⟨F1, _, σ1, y, σD', r1, e2, fun F2 H2 u x2 r2 => ?_⟩
  refine ⟨F2, x, y, d, w, r2.bor (by simp), r2.bor (by simp), eg, hw, k F2 H2 w (x1.trans x2) ?_⟩
  exact (r2.pop.pop).scal hw
theorem rOpB {f : Value → Value → Sem Value} {g : D → D → Option D} (o : OpS X f g) {σ : St} {H : Hp} {Q : VK} (h : rB X.K (pOp g p q) σ H Q) :
    tOp (fun x y H Q => ∃ F dx dy d w, Bor X.K F H dx x ∧ Bor X.K F H dy y ∧ g dx dy = some d ∧ d.sc = some w ∧ Q w H) (rB X.K p) (rB X.K q) σ H Q := by
  obtain ⟨F, R, σD, d, r, ec, k⟩ := h
  obtain ⟨x, y, e1, e2, eg⟩ := pOp_some ec
  obtain ⟨w, hw⟩ := o.sc _ _ _ eg
  refine ⟨F, R, σD, x, r, e1, fun F1 H1 v g1 b1 => ?_⟩
  refine ⟨F1, R, σD, y, r.grow g1, e2, fun F2 H2 u g2 b2 => ?_⟩
  exact ⟨F2, x, y, d, w, b1.grow g2, b2, eg, hw, k F2 H2 w (g1.trans g2) ⟨[], Ow.of_sc hw⟩⟩
theorem qe_op {op : Operator} {g : D → D → Option D} (o : OpS X (binaryOp op) g) (ha : QE X a c) (hb : QE X b c') : QE X (.BinOp a op b pos) (dOp g c c') :=
  PE_imp (pe_op o.run ha hb) fun _ _ _ h => rOp o h
theorem qb_op {op : Operator} {g : D → D → Option D} (o : OpS X (binaryOp op) g) (ha : QB X a p) (hb : QB X b q) : QB X (.BinOp a op b pos) (pOp g p q) :=
  PE_imp (pe_op o.run ha hb) fun _ _ _ h => rOpB o h
theorem qe_cmp {op : CmpOp} {g : D → D → Option D} (o : OpS X (compareOp op) g) (ha : QE X a c) (hb : QE X b c') (hm : behindInMarks op b = false) : QE X (.Compare a [op] [b] pos) (dOp g c c') :=
  PE_imp (pe_cmpR o.run ha hb hm) fun _ _ _ h => rOp o h
theorem qb_cmp {op : CmpOp} {g : D → D → Option D} (o : OpS X (compareOp op) g) (ha : QB X a p) (hb : QB X b q) (hm : behindInMarks op b = false) : QB X (.Compare a [op] [b] pos) (pOp g p q) :=
  PE_imp (pe_cmpR o.run ha hb hm) fun _ _ _ h => rOpB o h
/-- ints -/
def gI (C : Int → Int → Bool) (f : Int → Int → Int) : D → D → Option D
  | .int i, .int j => if C i j = true then some (.int (f i j)) else none
  | _, _ => none
def gI0 (f : Int → Int → Int) : D → D → Option D
  | .int i, .int j => some (.int (f i j))
  | _, _ => none
def gB0 (f : Int → Int → Bool) : D → D → Option D
  | .int i, .int j => some (.bl (f i j))
  | _, _ => none
theorem opS_I {f : Value → Value → Sem Value} {C : Int → Int → Prop} {Cb : Int → Int → Bool} {g : Int → Int → Int} (h : OpR X f (rI C fun i j => .int (g i j))) (hC : ∀ i j, Cb i j = true → C i j) : OpS X f (gI Cb g) := by
  refine ⟨OpR_imp h fun x y H Q ⟨F, dx, dy, d, w, b1, b2, eg, hw, q⟩ => ?_, fun x y d h => ?_⟩
  · unfold gI at eg
    split at eg
    · split at eg
      · cases eg; cases hw
        exact ⟨_, _, b1.int, b2.int, hC _ _ (by assumption), q⟩
      · cases eg
    · cases eg
  · unfold gI at h
    split at h
    · split at h
      · cases h; exact ⟨_, rfl⟩
      · cases h
    · cases h
theorem opS_I0 {f : Value → Value → Sem Value} {g : Int → Int → Int} (h : OpR X f (rI0 fun i j => .int (g i j))) : OpS X f (gI0 g) := by
  refine ⟨OpR_imp h fun x y H Q ⟨F, dx, dy, d, w, b1, b2, eg, hw, q⟩ => ?_, fun x y d h => ?_⟩
  · unfold gI0 at eg
    split at eg
    · cases eg; cases hw
      exact ⟨_, _, b1.int, b2.int, q⟩
    · cases eg
  · unfold gI0 at h
    split at h
    · cases h; exact ⟨_, rfl⟩
    · cases h
theorem opS_B0 {f : Value → Value → Sem Value} {g : Int → Int → Bool} (h : OpR X f (rI0 fun i j => .bl (g i j))) : OpS X f (gB0 g) := by
  refine ⟨OpR_imp h fun x y H Q ⟨F, dx, dy, d, w, b1, b2, eg, hw, q⟩ => ?_, fun x y d h => ?_⟩
  · unfold gB0 at eg
    split at eg
    · cases eg; cases hw
      exact ⟨_, _, b1.int, b2.int, q⟩
    · cases eg
  · unfold gB0 at h
    split at h
    · cases h; exact ⟨_, rfl⟩
    · cases h
theorem o_add : OpS X (binaryOp .Add) (gI0 fun i j => i + j) := opS_I0 op_add
theorem o_sub : OpS X (binaryOp .Sub) (gI0 fun i j => i - j) := opS_I0 op_sub
theorem o_and : OpS X (binaryOp .BitAnd) (gI0 Builtin.bitAnd) := opS_I0 op_and
theorem o_or : OpS X (binaryOp .BitOr) (gI0 Builtin.bitOr) := opS_I0 op_or
theorem o_xor : OpS X (binaryOp .BitXor) (gI0 Builtin.bitXor) := opS_I0 op_xor
theorem o_mod : OpS X (binaryOp .Mod) (gI (fun _ j => decide (0 < j)) fun i j => i % j) := opS_I op_mod fun i j h => by simpa using h
theorem o_fdiv : OpS X (binaryOp .FloorDiv) (gI (fun _ j => decide (0 < j ∧ j < 1073741824)) fun i j => i / j) := opS_I op_fdiv fun i j h => by simpa [CDiv] using h
theorem o_pow : OpS X (binaryOp .Pow) (gI (fun i j => decide (0 ≤ j ∧ j ≤ 1000000 ∧ i.natAbs < 2 ^ 64)) fun i j => i ^ j.toNat) := opS_I op_pow fun i j h => by simpa [CPow] using h
theorem o_shl : OpS X (binaryOp .LShift) (gI (fun i j => decide (0 ≤ j ∧ j ≤ 1000000 ∧ i.natAbs < 2 ^ 64)) fun i j => i * 2 ^ j.toNat) := opS_I op_shl fun i j h => by simpa [CPow] using h
theorem o_shr : OpS X (binaryOp .RShift) (gI (fun _ j => decide (0 ≤ j)) fun i j => i / 2 ^ j.toNat) := opS_I op_shr fun i j h => by simpa using h
theorem o_lt : OpS X (compareOp .Lt) (gB0 fun i j => decide (i < j)) := opS_B0 op_lt
theorem o_le : OpS X (compareOp .LtE) (gB0 fun i j => decide (i ≤ j)) := opS_B0 op_le
theorem o_gt : OpS X (compareOp .Gt) (gB0 fun i j => decide (j < i)) := opS_B0 op_gt
theorem o_ge : OpS X (compareOp .GtE) (gB0 fun i j => decide (j ≤ i)) := opS_B0 op_ge

/-! ### displays -/
def aNil : DA := fun σ => some ([], σ)
def aCons (c : DE) (ca : DA) : DA := fun σ => (c σ).bind fun p => (ca p.2).map fun q => (p.1 :: q.1, q.2)
theorem qa_nil : QA X [] aNil := PA_imp pa_nil fun σ H Q ⟨F, R, σD, xs, σD', r, ec, k⟩ => by
  cases ec; exact k F H [] Ext.refl rfl r
theorem qa_cons {ca : DA} (ha : QE X e c) (hr : QA X es ca) (hs : starEach (e :: es) X.env = (false, eval e X.env) :: starEach es X.env := by rfl) : QA X (e :: es) (aCons c ca) := PA_imp (pa_cons ha hr hs) fun σ H Q ⟨F, R, σD, xs, σD', r, ec, k⟩ => by
  unfold aCons at ec
  rcases h1 : c σD with _ | ⟨x, σ1⟩
  · rw [h1] at ec; cases ec
  · rw [h1] at ec; simp only [Option.bind_some] at ec
    obtain ⟨⟨ys, σ2⟩, e2, e3⟩ := map_pair ec
    cases e3
    refine ⟨F, R, σD, x, σ1, r, h1, fun F1 H1 v x1 r1 => ?_⟩
    refine ⟨F1, _, σ1, ys, σ2, r1, e2, fun F2 H2 vs x2 hl r2 => ?_⟩
    refine k F2 H2 (v :: vs) (x1.trans x2) (by simp [hl]) (r2.perm ?_)
    exact List.perm_middle
def dLst (ca : DA) : DE := fun σ => (ca σ).bind fun p => if p.1.length ≤ sizeLine then some (.lst true p.1, p.2) else none
def dTup (ca : DA) : DE := fun σ => (ca σ).bind fun p => if p.1.length ≤ sizeLine then some (.tup p.1, p.2) else none
theorem qe_lst {ca : DA} (h : QA X es ca) : QE X (.List es pos) (dLst ca) := PE_imp (pe_lst h) fun σ H Q ⟨F, R, σD, d, σD', r, ec, k⟩ => by
  unfold dLst at ec
  rcases h1 : ca σD with _ | ⟨xs, σ1⟩
  · rw [h1] at ec; cases ec
  · rw [h1] at ec; simp only [Option.bind_some] at ec
    split at ec
    · rename_i hz
      cases ec
      refine ⟨F, R, σD, xs, _, r, h1, fun F1 H1 vs x1 hl r1 => ⟨by rw [← hl]; exact hz, fun p hp => ?_⟩⟩
      obtain ⟨r2, x2⟩ := r1.layL hl hp
      exact k F1 _ _ (x1.trans x2) r2
    · cases ec
theorem qe_tup {ca : DA} {x1} (h : QA X es ca) : QE X (.Tuple es x1 pos) (dTup ca) := PE_imp (pe_tup h) fun σ H Q ⟨F, R, σD, d, σD', r, ec, k⟩ => by
  unfold dTup at ec
  rcases h1 : ca σD with _ | ⟨xs, σ1⟩
  · rw [h1] at ec; cases ec
  · rw [h1] at ec; simp only [Option.bind_some] at ec
    split at ec
    · rename_i hz
      cases ec
      refine ⟨F, R, σD, xs, _, r, h1, fun F1 H1 vs x1 hl r1 => ⟨by rw [← hl]; exact hz, fun p hp => ?_⟩⟩
      obtain ⟨F2, x2, r2⟩ := r1.layT hl hp
      exact k F2 _ _ (x1.trans x2) r2
    · cases ec
end
end DD
namespace DD
open PySem PySem.Spec PyProof.Rows L2

/-! ### items of lists and tuples -/
section
variable {K : PySem.W.Frag} {F F' : Addr → Prop} {H H' : Hp} {d x : D} {v w : V} {L : List Addr} {R : Ro} {σD : DSt} {σ : St} {xs : List D} {vs : List V}
theorem OwL.length : ∀ {xs : List D} {vs : List V} {L : List Addr}, OwL K F H xs vs L → vs.length = xs.length := fun h => h.toP.1.symm
theorem OwL.kid : ∀ {xs : List D} {vs : List V} {L : List Addr} {j : Nat}, OwL K F H xs vs L → xs[j]? = some x → ∃ w La Lx Lb, vs[j]? = some w ∧ L = La ++ Lx ++ Lb ∧ Ow K F H x w Lx ∧
    ∀ (F' : Addr → Prop) (H' : Hp) (x' : D) (Lx' : List Addr), Ext F H F' H' → (∀ a ∈ La ++ Lb, H' a = H a) → Ow K F' H' x' w Lx' → OwL K F' H' (xs.set j x') vs (La ++ Lx' ++ Lb)
  | [], _, _, _, _, e => by simp at e
  | y :: ys, _, _, 0, h, e => by
    simp only [OwL] at h
    obtain ⟨u, ws, L1, L2, rfl, h1, h2, rfl⟩ := h
    simp at e; subst e
    refine ⟨u, [], L1, L2, rfl, rfl, h1, fun F' H' x' Lx' x k o => ?_⟩
    simp only [List.set_cons_zero, OwL]
    exact ⟨u, ws, Lx', L2, rfl, o, h2.mono x fun a ha => k a (by simp [ha]), rfl⟩
  | y :: ys, _, _, j + 1, h, e => by
    simp only [OwL] at h
    obtain ⟨u, ws, L1, L2, rfl, h1, h2, rfl⟩ := h
    obtain ⟨w, La, Lx, Lb, e1, rfl, o, k⟩ := OwL.kid (j := j) h2 (by simpa using e)
    refine ⟨w, L1 ++ La, Lx, Lb, by simpa using e1, by simp, o, fun F' H' x' Lx' x kk o' => ?_⟩
    simp only [List.set_cons_succ, OwL]
    exact ⟨u, ws, L1, La ++ Lx' ++ Lb, rfl, h1.mono x fun a ha => kk a (by simp [ha]), k F' H' x' Lx' x (fun a ha => kk a (by simp at ha ⊢; rcases ha with ha | ha <;> simp [ha])) o', by simp⟩
theorem OwL.get (h : OwL K F H xs vs L) {j : Nat} (e : xs[j]? = some x) : ∃ w, vs[j]? = some w ∧ Bor K F H x w := by
  obtain ⟨w, _, Lx, _, e1, _, o, _⟩ := h.kid e
  exact ⟨w, e1, Lx, o⟩
theorem OwL.at (h : OwL K F H xs vs L) {i : Int} (e : atI xs i = some x) : ∃ w, atI vs i = some w ∧ Bor K F H x w := by
  unfold atI at e ⊢
  rw [h.length]
  rcases hj : ixN xs.length i with _ | j
  · rw [hj] at e; cases e
  · rw [hj] at e; exact h.get e
/-- a list that is read -/
theorem Bor.lst {o : Bool} (b : Bor K F H (.lst o xs) v) : ∃ a vs, v = .ref a ∧ SqL K H a vs ∧ ∃ L, OwL K F H xs vs L := by
  obtain ⟨L, h⟩ := b
  cases o
  · simp only [Ow] at h
    obtain ⟨a, vs, rfl, f, r, _⟩ := h
    exact ⟨a, vs, rfl, f.sq, _, r⟩
  · simp only [Ow] at h
    obtain ⟨a, vs, L', rfl, e, r, _⟩ := h
    exact ⟨a, vs, rfl, .inl (.inl e), _, r⟩
theorem Bor.tup (b : Bor K F H (.tup xs) v) : ∃ a vs, v = .ref a ∧ SqT K H a vs ∧ ∃ L, OwL K F H xs vs L := by
  obtain ⟨L, h⟩ := b
  simp only [Ow] at h
  obtain ⟨a, vs, rfl, f, r⟩ := h
  exact ⟨a, vs, rfl, f.sq, _, r⟩
def ixD : D → D → Option D
  | .lst _ xs, .int i => atI xs i
  | .tup xs, .int i => atI xs i
  | .str z, .int i => if z.length ≤ sizeLine then (atI z.cps.toList i).map fun c => .str ⟨#[c]⟩ else none
  | _, _ => none
end
section
variable {X : Cx} {e a b : Expr} {es : List Expr} {p q : DP} {c c' : DE} {pos : Pos}
theorem rIx_of {F : Addr → Prop} {H : Hp} {dx dy d : D} {x y : V} {Q : VK} (b1 : Bor X.K F H dx x) (b2 : Bor X.K F H dy y) (e : ixD dx dy = some d) (k : ∀ v, Bor X.K F H d v → Q v H) : rIx X.K x y H Q := by
  unfold ixD at e
  split at e
  · obtain ⟨a, vs, rfl, s, L, r⟩ := b1.lst
    obtain ⟨w, e1, bw⟩ := r.at e
    exact .inl ⟨a, vs, _, w, rfl, b2.int, s, e1, k w bw⟩
  · obtain ⟨a, vs, rfl, s, L, r⟩ := b1.tup
    obtain ⟨w, e1, bw⟩ := r.at e
    exact .inr (.inl ⟨a, vs, _, w, rfl, b2.int, s, e1, k w bw⟩)
  · split at e
    · rename_i z i hz
      rcases h : atI z.cps.toList i with _ | ch
      · rw [h] at e; cases e
      · rw [h] at e; cases e
        exact .inr (.inr ⟨z, i, ch, b1.str, b2.int, hz, h, k _ ⟨[], Ow.of_sc rfl⟩⟩)
    · cases e
  · cases e
theorem qb_ix (ha : QB X a p) (hb : QB X b q) (hs : PlainIx b := by intro _ _; rfl) : QB X (.Subscript a b pos) (pOp ixD p q) := PE_imp (pe_ix ix_seq ha hb hs) fun σ H Q ⟨F, R, σD, d, r, ec, k⟩ => by
  obtain ⟨x, y, e1, e2, eg⟩ := pOp_some ec
  refine ⟨F, R, σD, x, r, e1, fun F1 H1 v g1 b1 => ?_⟩
  refine ⟨F1, R, σD, y, r.grow g1, e2, fun F2 H2 u g2 b2 => ?_⟩
  exact rIx_of (b1.grow g2) b2 eg fun v bv => k F2 H2 v (g1.trans g2) bv
/-- an item of a value that is dropped -/
def dIx (c c' : DE) : DE := fun σ => (c σ).bind fun p => (c' p.2).bind fun q => (ixD p.1 q.1).map fun d => (d, q.2)
end
end DD
namespace DD
open PySem PySem.Spec PyProof.Rows L2
/-! ### tests -/
def dTest (c : DE) : DT := fun σ => (c σ).bind fun p => match p.1 with | .bl b => some (b, p.2) | _ => none
def tAndD (t u : DT) : DT := fun σ => (t σ).bind fun p => if p.1 = true then u p.2 else some (false, p.2)
def tOrD (t u : DT) : DT := fun σ => (t σ).bind fun p => if p.1 = true then some (true, p.2) else u p.2
def tNotD (t : DT) : DT := fun σ => (t σ).map fun p => (!p.1, p.2)
section
variable {X : Cx} {e a b : Expr} {es rest : List Expr} {p q : DP} {c c' : DE} {t u : DT} {pos : Pos}
theorem dTest_some {σ σ' : DSt} {k : Bool} (h : dTest c σ = some (k, σ')) : c σ = some (.bl k, σ') := by
  unfold dTest at h
  rcases h1 : c σ with _ | ⟨x, σ1⟩
  · rw [h1] at h; cases h
  · rw [h1] at h; simp only [Option.bind_some] at h
    split at h
    · cases h; rfl
    · cases h
theorem qt_e (h : QE X e c) (he : ∀ whole, isTrue e X.env whole = (do let v ← whole; standAt e.pos; holding [v] (truthy v)) := by intro _; rfl) : QT X e (dTest c) := PT_imp (pt_val h he) fun σ H Q ⟨F, R, σD, k, σD', r, ec, kk⟩ => by
  refine ⟨F, R, σD, _, σD', r, dTest_some ec, fun F' H' v x r' => ⟨k, (r'.bor (by simp)).bl, kk F' H' x r'.pop⟩⟩
theorem qt_cmp {op : CmpOp} {g : D → D → Option D} (o : OpS X (compareOp op) g) (ha : QE X a c) (hb : QE X b c') (hm : behindInMarks op b = false) : QT X (.Compare a [op] [b] pos) (dTest (dOp g c c')) :=
  PT_imp (pt_cmpR o.run ha hb hm) fun σ H Q ⟨F, R, σD, k, σD', r, ec, kk⟩ => by
    show tOp _ _ _ σ H _
    exact rOp o ⟨F, R, σD, _, σD', r, dTest_some ec, fun F' H' v x r' => ⟨k, (r'.bor (by simp)).bl, kk F' H' x r'.pop⟩⟩
theorem qt_not (h : QT X e t) : QT X (.UnaryOp .Not e pos) (tNotD t) := PT_imp (pt_not h) fun σ H Q ⟨F, R, σD, k, σD', r, ec, kk⟩ => by
  unfold tNotD at ec
  obtain ⟨⟨b, σ1⟩, e1, e2⟩ := map_pair ec
  cases e2
  exact ⟨F, R, σD, b, σ1, r, e1, fun F' H' x r' => kk F' H' x r'⟩
theorem qw_t (h : QW X e t) : QT X e t := h.pt
theorem qw_and1 (h : QT X a t) : QW X (.BoolOp .And [a] pos) t := pw_and1 h
theorem qw_or1 (h : QT X a t) : QW X (.BoolOp .Or [a] pos) t := pw_or1 h
theorem qw_and (ha : QT X a t) (hb : QW X (.BoolOp .And (b :: rest) pos) u) : QW X (.BoolOp .And (a :: b :: rest) pos) (tAndD t u) := PW_imp (pw_and ha hb) fun σ H Q ⟨F, R, σD, k, σD', r, ec, kk⟩ => by
  unfold tAndD at ec
  rcases h1 : t σD with _ | ⟨x, σ1⟩
  · rw [h1] at ec; cases ec
  · rw [h1] at ec; simp only [Option.bind_some] at ec
    refine ⟨F, R, σD, x, σ1, r, h1, fun F' H' x1 r' => ?_⟩
    cases x
    · simp only [Bool.false_eq_true, if_false] at ec ⊢
      cases ec
      exact kk F' H' x1 r'
    · simp only [if_true] at ec ⊢
      exact ⟨F', R, σ1, k, σD', r', ec, fun F2 H2 x2 r2 => kk F2 H2 (x1.trans x2) r2⟩
theorem qw_or (ha : QT X a t) (hb : QW X (.BoolOp .Or (b :: rest) pos) u) : QW X (.BoolOp .Or (a :: b :: rest) pos) (tOrD t u) := PW_imp (pw_or ha hb) fun σ H Q ⟨F, R, σD, k, σD', r, ec, kk⟩ => by
  unfold tOrD at ec
  rcases h1 : t σD with _ | ⟨x, σ1⟩
  · rw [h1] at ec; cases ec
  · rw [h1] at ec; simp only [Option.bind_some] at ec
    refine ⟨F, R, σD, x, σ1, r, h1, fun F' H' x1 r' => ?_⟩
    cases x
    · simp only [Bool.false_eq_true, if_false] at ec ⊢
      exact ⟨F', R, σ1, k, σD', r', ec, fun F2 H2 x2 r2 => kk F2 H2 (x1.trans x2) r2⟩
    · simp only [if_true] at ec ⊢
      cases ec
      exact kk F' H' x1 r'
end
/-! ### statements -/
def sSkip : DS := fun σ => some (.nx σ)
def sSeq (c d : DS) : DS := fun σ => (c σ).bind fun o => match o with | .nx σ' => d σ' | o => some o
def sSet (i : Nat) (c : DE) : DS := fun σ => (c σ).bind fun p => if i < p.2.length then some (.nx (p.2.set i (some p.1))) else none
def sIf (t : DT) (c d : DS) : DS := fun σ => (t σ).bind fun p => if p.1 = true then c p.2 else d p.2
def sRet (c : DE) : DS := fun σ => (c σ).map fun p => .rt p.1 p.2
def sRetN : DS := fun σ => some (.rt .non σ)
def sDrop (c : DE) : DS := fun σ => (c σ).map fun p => .nx p.2
def sBrk : DS := fun σ => some (.bk σ)
def sCnt : DS := fun σ => some (.ct σ)
def sNone : DS := fun _ => none
section
variable {X : Cx} {e a b : Expr} {st : Stmt} {sts : List Stmt} {c c' : DE} {s s' : DS} {t u : DT} {pos : Pos} {W W' : List Nat}
theorem qss_nil : QSs X [] sSkip [] := PSs_imp pss_nil fun En σ H ⟨F, R, σD, o, r, ec, k⟩ => by
  cases ec; exact k F H σ Ext.refl Kp.refl r
theorem qss_cons (h1 : QS X st s W) (h2 : QSs X sts s' W') : QSs X (st :: sts) (sSeq s s') (W ++ W') := PSs_imp (pss_cons h1 h2) fun En σ H ⟨F, R, σD, o, r, ec, k⟩ => by
  unfold sSeq at ec
  rcases h : s σD with _ | o1
  · rw [h] at ec; cases ec
  · rw [h] at ec; simp only [Option.bind_some] at ec
    refine ⟨F, R, σD, o1, r, h, fun F1 H1 σ1 x1 kp1 => ?_⟩
    have kp1' : Kp (W ++ W') σ σ1 := kp1.mono fun k hk => by simp [hk]
    cases o1 with
    | nx σ2 =>
      intro r1
      refine ⟨F1, R, σ2, o, r1, ec, fun F2 H2 σ3 x2 kp2 => ?_⟩
      exact k F2 H2 σ3 (x1.trans x2) (kp1'.trans (kp2.mono fun k hk => by simp [hk]))
    | bk σ2 => cases ec; exact k F1 H1 σ1 x1 kp1'
    | ct σ2 => cases ec; exact k F1 H1 σ1 x1 kp1'
    | rt d σ2 => cases ec; exact k F1 H1 σ1 x1 kp1'
theorem qss_one (h1 : QS X st s W) : QSs X [st] s W := pss_one h1
theorem qss_never : QSs X sts sNone [] := PSs_imp pss_never fun En σ H ⟨F, R, σD, o, r, ec, k⟩ => by cases ec
theorem qs_never : QS X st sNone [] := PS_imp ps_never fun En σ H ⟨F, R, σD, o, r, ec, k⟩ => by cases ec
theorem qs_set (i : Nat) {x : Str} {pos' : Pos} (hN : X.N.Nodup) (he : QE X e c) (hi : X.N[i]? = some x := by rfl) (hx : Loc X.env.scope x := by first | exact Or.inl rfl | exact Or.inr rfl) (hs : swapsWith e (some (.Name x pos')) pos.line X.env = pure false := by rfl) (hf : X.fn x = true ∨ X.env.scope.names.lookup x = some .local := by first | exact .inl rfl | exact .inr rfl | assumption) :
    QS X (.Assign [.Name x pos'] e pos) (sSet i c) [i] := PS_imp (ps_set hN hi hx he hs hf) fun En σ H ⟨F, R, σD, o, r, ec, k⟩ => by
  unfold sSet at ec
  rcases h : c σD with _ | ⟨d, σ1⟩
  · rw [h] at ec; cases ec
  · rw [h] at ec; simp only [Option.bind_some] at ec
    split at ec
    · rename_i hl
      cases ec
      refine ⟨F, R, σD, d, σ1, r, h, fun F1 H1 v x1 r1 => ?_⟩
      exact k F1 H1 _ x1 Kp.set (r1.store (by rw [← r1.mt.length]; exact hl))
    · cases ec
theorem qs_if {as bs : List Stmt} (ht : QT X e t) (ha : QSs X as s W) (hb : QSs X bs s' W') : QS X (.If e as bs pos) (sIf t s s') (W ++ W') := PS_imp (ps_if ht ha hb) fun En σ H ⟨F, R, σD, o, r, ec, k⟩ => by
  unfold sIf at ec
  rcases h : t σD with _ | ⟨x, σ1⟩
  · rw [h] at ec; cases ec
  · rw [h] at ec; simp only [Option.bind_some] at ec
    refine ⟨F, R, σD, x, σ1, r, h, fun F1 H1 x1 r1 => ?_⟩
    cases x
    · simp only [Bool.false_eq_true, if_false] at ec ⊢
      exact ⟨F1, R, σ1, o, r1, ec, fun F2 H2 σ2 x2 kp => k F2 H2 σ2 (x1.trans x2) (kp.mono fun k hk => by simp [hk])⟩
    · simp only [if_true] at ec ⊢
      exact ⟨F1, R, σ1, o, r1, ec, fun F2 H2 σ2 x2 kp => k F2 H2 σ2 (x1.trans x2) (kp.mono fun k hk => by simp [hk])⟩
theorem qs_ret (he : QE X e c) : QS X (.Return (some e) pos) (sRet c) [] := PS_imp (ps_ret he) fun En σ H ⟨F, R, σD, o, r, ec, k⟩ => by
  unfold sRet at ec
  rcases h : c σD with _ | ⟨d, σ1⟩
  · rw [h] at ec; cases ec
  · rw [h] at ec; cases ec
    exact ⟨F, R, σD, d, σ1, r, h, fun F1 H1 v x1 r1 => k F1 H1 σ x1 Kp.refl v r1⟩
theorem qs_retN : QS X (.Return none pos) sRetN [] := PS_imp ps_retN fun En σ H ⟨F, R, σD, o, r, ec, k⟩ => by
  cases ec
  exact k F H σ Ext.refl Kp.refl .non (r.scal rfl)
theorem qs_expr (he : QE X e c) (hs : swapsWith e none pos.line X.env = pure false := by rfl) : QS X (.Expr e pos) (sDrop c) [] := PS_imp (ps_expr he hs) fun En σ H ⟨F, R, σD, o, r, ec, k⟩ => by
  unfold sDrop at ec
  rcases h : c σD with _ | ⟨d, σ1⟩
  · rw [h] at ec; cases ec
  · rw [h] at ec; cases ec
    exact ⟨F, R, σD, d, σ1, r, h, fun F1 H1 v x1 r1 => k F1 H1 σ x1 Kp.refl r1.pop⟩
theorem qs_break : QS X (.Break pos) sBrk [] := PS_imp ps_break fun En σ H ⟨F, R, σD, o, r, ec, k⟩ => by
  cases ec; exact k F H σ Ext.refl Kp.refl r
theorem qs_continue : QS X (.Continue pos) sCnt [] := PS_imp ps_continue fun En σ H ⟨F, R, σD, o, r, ec, k⟩ => by
  cases ec; exact k F H σ Ext.refl Kp.refl r
theorem qs_pass : QS X (.Pass pos) sSkip [] := PS_imp ps_pass fun En σ H ⟨F, R, σD, o, r, ec, k⟩ => by
  cases ec; exact k F H σ Ext.refl Kp.refl r
end
/-! ### targets -/
abbrev DG := D → DSt → Option DSt
def rG (K : PySem.W.Frag) (g : DG) (W : List Nat) : TG := fun v σ H Q => ∃ F R σD d σD', Rel K F H σD σ ((d, v) :: R) ∧ g d σD = some σD' ∧ ∀ F' H' σ', Ext F H F' H' → Kp W σ σ' → Rel K F' H' σD' σ' R → Q σ' H'
def QG (X : Cx) (tg : Expr) (g : DG) (W : List Nat) : Prop := PG X tg (rG X.K g W)
theorem PG_imp {X : Cx} {tg : Expr} {t t' : TG} (h : PG X tg t) (i : ∀ v σ H Q, t' v σ H Q → t v σ H Q) : PG X tg t' := fun pins s σ H v u Q I rv h' => h pins s σ H v u Q I rv (i v σ H Q h')
abbrev DGs := List D → DSt → Option DSt
def rGs (K : PySem.W.Frag) (g : DGs) (W : List Nat) : TGs := fun vs σ H Q => ∃ F R σD ds σD', ds.length = vs.length ∧ Rel K F H σD σ (ds.zip vs ++ R) ∧ g ds σD = some σD' ∧ ∀ F' H' σ', Ext F H F' H' → Kp W σ σ' → Rel K F' H' σD' σ' R → Q σ' H'
def QGs (X : Cx) (ts : List Expr) (g : DGs) (W : List Nat) : Prop := PGs X ts (rGs X.K g W)
theorem PGs_imp {X : Cx} {ts : List Expr} {t t' : TGs} (h : PGs X ts t) (i : ∀ v σ H Q, t' v σ H Q → t v σ H Q) : PGs X ts t' := fun pins s σ H v u Q I rv h' => h pins s σ H v u Q I rv (i v σ H Q h')
def gNm (i : Nat) : DG := fun d σ => if i < σ.length then some (σ.set i (some d)) else none
def gNilD : DGs := fun ds σ => match ds with | [] => some σ | _ => none
def gConsD (g : DG) (gs : DGs) : DGs := fun ds σ => match ds with | d :: r => (g d σ).bind fun σ' => gs r σ' | [] => none
def gTupD (n : Nat) (gs : DGs) : DG := fun d σ => match d with | .tup xs => if xs.length = n then gs xs σ else none | _ => none
section
variable {X : Cx} {e tg : Expr} {ts : List Expr} {g : DG} {gs : DGs} {pos : Pos} {W W' : List Nat}
theorem qg_name (i : Nat) {x : Str} {pos : Pos} (hN : X.N.Nodup) (hi : X.N[i]? = some x := by rfl) (hx : Loc X.env.scope x := by first | exact Or.inl rfl | exact Or.inr rfl) (hf : X.fn x = true ∨ X.env.scope.names.lookup x = some .local := by first | exact .inl rfl | exact .inr rfl | assumption) :
    QG X (.Name x pos) (gNm i) [i] := PG_imp (pg_name hN hi hx hf) fun v σ H Q ⟨F, R, σD, d, σD', r, ec, k⟩ => by
  unfold gNm at ec
  split at ec
  · rename_i hl
    cases ec
    exact k F H _ Ext.refl Kp.set (r.store (by rw [← r.mt.length]; exact hl))
  · cases ec
theorem qgs_nil : QGs X [] gNilD [] := PGs_imp pgs_nil fun vs σ H Q ⟨F, R, σD, ds, σD', hl, r, ec, k⟩ => by
  cases ds with
  | nil => cases ec; exact ⟨List.length_eq_zero_iff.mp hl.symm, k F H σ Ext.refl Kp.refl (by simpa using r)⟩
  | cons d ds => cases ec
theorem qgs_cons (h1 : QG X e g W) (h2 : QGs X ts gs W') (hs : (assignEach (e :: ts) X.env).map (·.2) = assign e X.env :: (assignEach ts X.env).map (·.2) := by rfl) : QGs X (e :: ts) (gConsD g gs) (W ++ W') :=
  PGs_imp (pgs_cons h1 h2 hs) fun vs σ H Q ⟨F, R, σD, ds, σD', hl, r, ec, k⟩ => by
    cases ds with
    | nil => cases ec
    | cons d ds =>
      cases vs with
      | nil => simp at hl
      | cons v vs =>
        simp only [gConsD] at ec
        rcases h : g d σD with _ | σ1
        · rw [h] at ec; cases ec
        · rw [h] at ec; simp only [Option.bind_some] at ec
          refine ⟨v, vs, rfl, F, ds.zip vs ++ R, σD, d, σ1, by simpa using r, h, fun F1 H1 σ2 x1 kp1 r1 => ?_⟩
          exact ⟨F1, R, σ1, ds, σD', by simpa using hl, r1, ec, fun F2 H2 σ3 x2 kp2 r2 => k F2 H2 σ3 (x1.trans x2) ((kp1.mono fun k hk => by simp [hk]).trans (kp2.mono fun k hk => by simp [hk])) r2⟩
theorem qg_tup {n : Nat} {k : Nat} (hc : X.calm = true) (h : QGs X ts gs W) (hn : (assignEach ts X.env).length = n := by rfl) (hst : (assignEach ts X.env).findIdx? (·.1) = none := by rfl) : QG X (.Tuple ts k pos) (gTupD n gs) W :=
  PG_imp (pg_tup hc h hn hst) fun v σ H Q ⟨F, R, σD, d, σD', r, ec, k⟩ => by
    unfold gTupD at ec
    split at ec
    · rename_i xs
      split at ec
      · rename_i hxn
        obtain ⟨a, vs, rfl, ft, hl, r1⟩ := r.openT
        exact ⟨a, vs, rfl, ft.sq, by rw [← hl]; exact hxn, F, R, σD, xs, σD', hl, r1, ec, k⟩
      · cases ec
    · cases ec
def sAsg (c : DE) (g : DG) : DS := fun σ => (c σ).bind fun p => (g p.1 p.2).map .nx
theorem qs_asg {c : DE} (he : QE X e c) (hg : QG X tg g W) (hs : swapsWithSole [tg] e pos.line X.env = pure false := by rfl) (hw : swappedStores [tg] e X.env = pure none := by rfl)
    (h1 : (assignEach [tg] X.env).map (·.2) = [assign tg X.env] := by rfl) : QS X (.Assign [tg] e pos) (sAsg c g) W := PS_imp (ps_asg he hg hs hw h1) fun En σ H ⟨F, R, σD, o, r, ec, k⟩ => by
  unfold sAsg at ec
  rcases h : c σD with _ | ⟨d, σ1⟩
  · rw [h] at ec; cases ec
  · rw [h] at ec; simp only [Option.bind_some] at ec
    rcases h2 : g d σ1 with _ | σ2
    · rw [h2] at ec; cases ec
    · rw [h2] at ec; cases ec
      refine ⟨F, R, σD, d, σ1, r, h, fun F1 H1 v x1 r1 => ?_⟩
      exact ⟨F1, R, σ1, d, σ2, r1, h2, fun F2 H2 σ3 x2 kp r2 => k F2 H2 σ3 (x1.trans x2) kp r2⟩
end
/-! ### loops -/
def dLoop (g : DG) (b : DS) : List D → DSt → Option Out
  | [], σ => some (.nx σ)
  | x :: xs, σ => (g x σ).bind fun σ1 => (b σ1).bind fun o => match o with
    | .nx σ2 => dLoop g b xs σ2
    | .ct σ2 => dLoop g b xs σ2
    | .bk σ2 => some (.nx σ2)
    | .rt d σ2 => some (.rt d σ2)
def sFor (c : DE) (g : DG) (b : DS) : DS := fun σ => (c σ).bind fun p => match p.1 with | .lst _ xs => dLoop g b (D.fzL xs) p.2 | _ => none
def sForT (c : DE) (g : DG) (b : DS) : DS := fun σ => (c σ).bind fun p => match p.1 with | .tup xs => dLoop g b (D.fzL xs) p.2 | _ => none
def rngD (lo hi : Int) : List D := (List.range (hi - lo).toNat).map fun (k : Nat) => D.int (lo + k)
def rOk (i : Int) : Bool := decide (-(2 ^ 62) ≤ i ∧ i < 2 ^ 62)
def sForR1 (c : DA) (g : DG) (b : DS) : DS := fun σ => (c σ).bind fun p => match p.1 with
  | [.int j] => if rOk j = true then dLoop g b (rngD 0 j) p.2 else none
  | _ => none
def sForR2 (c : DA) (g : DG) (b : DS) : DS := fun σ => (c σ).bind fun p => match p.1 with
  | [.int i, .int j] => if (rOk i && rOk j) = true then dLoop g b (rngD i j) p.2 else none
  | _ => none
section
variable {X : Cx} {e tg : Expr} {ts : List Expr} {g : DG} {c : DE} {s : DS} {pos : Pos} {W W' : List Nat} {body : List Stmt}
theorem fzL_map : ∀ xs : List D, D.fzL xs = xs.map D.fz
  | [] => rfl
  | x :: xs => by rw [D.fzL, fzL_map xs, List.map_cons]
/-- one turn and what is left -/
theorem turn_of {F0 F : Addr → Prop} {H0 H : Hp} {R R0 : Ro} {σD : DSt} {σ0 σ : St} {x : D} {v : V} {xs : List D} {En : Ends} {N : St → Hp → Prop} {o : Out} (hR : ∀ F' H', Ext F H F' H' → ∀ σD' σ' S, Rel X.K F' H' σD' σ' (S ++ R) → Rel X.K F' H' σD' σ' (S ++ R0))
    (r : Rel X.K F H σD σ ((x, v) :: R)) (x0 : Ext F0 H0 F H) (kp : Kp (W ++ W') σ0 σ) (h : dLoop g s (x :: xs) σD = some o)
    (k : ∀ F' H' σ', Ext F0 H0 F' H' → Kp (W ++ W') σ0 σ' → Th X.K En R0 F' H' σ' o)
    (hN : ∀ F' H' σD' σ', Ext F H F' H' → Kp (W ++ W') σ0 σ' → Rel X.K F' H' σD' σ' R → dLoop g s xs σD' = some o → N σ' H') :
    rG X.K g W v σ H fun σ2 H2 => rS X.K s W' { En with nx := N, ct := N, bk := En.nx } σ2 H2 := by
  simp only [dLoop] at h
  rcases h1 : g x σD with _ | σ1
  · rw [h1] at h; cases h
  · rw [h1] at h; simp only [Option.bind_some] at h
    rcases h2 : s σ1 with _ | o1
    · rw [h2] at h; cases h
    · rw [h2] at h; simp only [Option.bind_some] at h
      refine ⟨F, R, σD, x, σ1, r, h1, fun F1 H1 σ2 x1 kp1 r1 => ?_⟩
      refine ⟨F1, R, σ1, o1, r1, h2, fun F2 H2 σ3 x2 kp2 => ?_⟩
      have kp3 : Kp (W ++ W') σ0 σ3 := (kp.trans (kp1.mono fun k hk => by simp [hk])).trans (kp2.mono fun k hk => by simp [hk])
      cases o1 with
      | nx σ4 => exact fun r2 => hN F2 H2 σ4 σ3 (x1.trans x2) kp3 r2 h
      | ct σ4 => exact fun r2 => hN F2 H2 σ4 σ3 (x1.trans x2) kp3 r2 h
      | bk σ4 =>
        cases h
        exact fun r2 => k F2 H2 σ3 (x0.trans (x1.trans x2)) kp3 (hR F2 H2 (x1.trans x2) _ _ [] r2)
      | rt d σ4 =>
        cases h
        exact fun v r2 => k F2 H2 σ3 (x0.trans (x1.trans x2)) kp3 v (hR F2 H2 (x1.trans x2) _ _ [(d, v)] r2)
theorem rng_get {lo hi : Int} {i : Nat} (h : i < (hi - lo).toNat) : (rngD lo hi).drop i = D.int (lo + i) :: (rngD lo hi).drop (i + 1) := by
  have hl : i < (rngD lo hi).length := by simp [rngD, h]
  rw [List.drop_eq_getElem_cons hl]
  simp [rngD]
theorem rng_loop {F : Addr → Prop} {H : Hp} {R : Ro} {σD : DSt} {σ : St} {lo hi : Int} {En : Ends} {o : Out} (r : Rel X.K F H σD σ R) (h : dLoop g s (rngD lo hi) σD = some o)
    (k : ∀ F' H' σ', Ext F H F' H' → Kp (W ++ W') σ σ' → Th X.K En R F' H' σ' o) :
    ∃ W1 : Nat → Nat → St → Hp → Prop, (∃ m, W1 0 m σ H) ∧ ∀ i m σ H, W1 i m σ H →
      ((Itr lo (hi - lo).toNat).stop i H ∧ En.nx σ H) ∨ ((Itr lo (hi - lo).toNat).go i H ∧ ∃ N : St → Hp → Prop, (∀ σ' H', N σ' H' → ∃ m', m' < m ∧ W1 (i + 1) m' σ' H') ∧ ∀ x H', (Itr lo (hi - lo).toNat).yld i H x H' → rG X.K g W x σ H' fun σ2 H2 => rS X.K s W' { En with nx := N, ct := N, bk := En.nx } σ2 H2) := by
  refine for_range (lo := lo) (n := (hi - lo).toNat) (g := rG X.K g W) (tb := rS X.K s W') (fun i σ1 H1 => ∃ F1 σD1, Ext F H F1 H1 ∧ Kp (W ++ W') σ σ1 ∧ Rel X.K F1 H1 σD1 σ1 R ∧ dLoop g s ((rngD lo hi).drop i) σD1 = some o)
    ⟨F, σD, Ext.refl, Kp.refl, r, by simpa using h⟩ ?_ ?_
  · rintro i σ1 H1 hi ⟨F1, σD1, x1, kp1, r1, h1⟩
    rw [rng_get hi] at h1
    exact turn_of (R := R) (R0 := R) (W := W) (W' := W') (fun _ _ _ _ _ _ h => h) (r1.scal rfl) x1 kp1 h1 k fun F2 H2 σD2 σ2 x2 kp2 r2 h2 => ⟨F2, σD2, x1.trans x2, kp2, r2, h2⟩
  · rintro σ1 H1 ⟨F1, σD1, x1, kp1, r1, h1⟩
    have e : (rngD lo hi).drop (hi - lo).toNat = [] := List.drop_eq_nil_of_le (by simp [rngD])
    rw [e] at h1
    simp only [dLoop] at h1
    cases h1
    exact k F1 H1 σ1 x1 kp1 r1
theorem qs_forR1 {a : Expr} {ca : DA} {p1 pos1 : Pos} (hc : X.calm = true) (hgl : Gl X "range") (hm : X.mg "range" = none) (ha : QA X [a] ca) (hg : QG X tg g W) (hb : QSs X body s W') (hp : PassesOwn (model X.prog X.w) X.A X.env X.xe) (hs : starEach [a] X.env = [(false, eval a X.env)] := by rfl)
    (hf : ∀ x, foldedSetIterable (.Call (.Name "range" p1) [a] [] pos1) X.env x = pure x := by intro _; rfl) : QS X (.For tg (.Call (.Name "range" p1) [a] [] pos1) body [] pos) (sForR1 ca g s) (W ++ W') :=
  PS_imp (ps_for hp hc (pi_range1 hgl hm ha hs) hg hb hf) fun En σ H ⟨F, R, σD, o, r, ec, k⟩ => by
    unfold sForR1 at ec
    rcases h : ca σD with _ | ⟨xs, σ1⟩
    · rw [h] at ec; cases ec
    · rw [h] at ec; simp only [Option.bind_some] at ec
      refine ⟨F, R, σD, xs, σ1, r, h, fun F1 H1 vs x1 hl r1 => ?_⟩
      split at ec
      · rename_i j
        split at ec
        · rename_i hj
          match vs, hl with
          | [v], _ =>
            have hv : v = .int j := (r1.bor (d := .int j) (v := v) (by simp)).int
            subst hv
            unfold rOk at hj
            simp only [decide_eq_true_eq] at hj
            refine ⟨j, rfl, hj.1, hj.2, ?_⟩
            have q := rng_loop (X := X) (lo := 0) (hi := j) (W := W) (W' := W') (g := g) (s := s) (En := En) (r1.popN (S := [(D.int j, V.int j)])) ec fun F2 H2 σ2 x2 kp => k F2 H2 σ2 (x1.trans x2) kp
            rw [Int.sub_zero] at q
            exact q
        · cases ec
      · cases ec
theorem qs_forR2 {a b : Expr} {ca : DA} {p1 pos1 : Pos} (hc : X.calm = true) (hgl : Gl X "range") (hm : X.mg "range" = none) (ha : QA X [a, b] ca) (hg : QG X tg g W) (hb : QSs X body s W') (hp : PassesOwn (model X.prog X.w) X.A X.env X.xe) (hs : starEach [a, b] X.env = [(false, eval a X.env), (false, eval b X.env)] := by rfl) (hs2 : starEach [b] X.env = [(false, eval b X.env)] := by rfl)
    (hf : ∀ x, foldedSetIterable (.Call (.Name "range" p1) [a, b] [] pos1) X.env x = pure x := by intro _; rfl) : QS X (.For tg (.Call (.Name "range" p1) [a, b] [] pos1) body [] pos) (sForR2 ca g s) (W ++ W') :=
  PS_imp (ps_for hp hc (pi_range2 hgl hm ha hs hs2) hg hb hf) fun En σ H ⟨F, R, σD, o, r, ec, k⟩ => by
    unfold sForR2 at ec
    rcases h : ca σD with _ | ⟨xs, σ1⟩
    · rw [h] at ec; cases ec
    · rw [h] at ec; simp only [Option.bind_some] at ec
      refine ⟨F, R, σD, xs, σ1, r, h, fun F1 H1 vs x1 hl r1 => ?_⟩
      split at ec
      · rename_i i j
        split at ec
        · rename_i hj
          match vs, hl with
          | [v, u], _ =>
            have hv : v = .int i := (r1.bor (d := .int i) (v := v) (by simp)).int
            have hu : u = .int j := (r1.bor (d := .int j) (v := u) (by simp)).int
            subst hv; subst hu
            unfold rOk at hj
            simp only [Bool.and_eq_true, decide_eq_true_eq] at hj
            refine ⟨i, j, rfl, ⟨hj.1.1, hj.1.2, hj.2.1, hj.2.2⟩, ?_⟩
            exact rng_loop (X := X) (lo := i) (hi := j) (W := W) (W' := W') (g := g) (s := s) (En := En) (r1.popN (S := [(D.int i, V.int i), (D.int j, V.int j)])) ec fun F2 H2 σ2 x2 kp => k F2 H2 σ2 (x1.trans x2) kp
        · cases ec
      · cases ec
/-- over a list: it is shared from then on -/
theorem list_loop {F : Addr → Prop} {H : Hp} {R : Ro} {σD : DSt} {σ : St} {xs : List D} {v : V} {ow : Bool} {En : Ends} {o : Out} (r : Rel X.K F H σD σ ((.lst ow xs, v) :: R)) (h : dLoop g s (D.fzL xs) σD = some o)
    (k : ∀ F' H' σ', Ext F H F' H' → Kp (W ++ W') σ σ' → Th X.K En R F' H' σ' o) :
    ∃ a, v = .ref a ∧ (∃ ys, SqL X.K H a ys) ∧ ∃ W1 : Nat → Nat → St → Hp → Prop, (∃ m, W1 0 m σ H) ∧ ∀ i m σ H, W1 i m σ H →
      ((Itl X.K a).stop i H ∧ En.nx σ H) ∨ ((Itl X.K a).go i H ∧ ∃ N : St → Hp → Prop, (∀ σ' H', N σ' H' → ∃ m', m' < m ∧ W1 (i + 1) m' σ' H') ∧ ∀ x H', (Itl X.K a).yld i H x H' → rG X.K g W x σ H' fun σ2 H2 => rS X.K s W' { En with nx := N, ct := N, bk := En.nx } σ2 H2) := by
  obtain ⟨F1, x1, r1, ow1⟩ := r.freeze
  have ow2 : Ow X.K F1 H (.lst false (D.fzL xs)) v [] := by have q := ow1; rw [D.fz] at q; exact q
  simp only [Ow] at ow2
  obtain ⟨a, vs, rfl, fl, ol, _⟩ := ow2
  refine ⟨a, rfl, ⟨vs, fl.sq⟩, ?_⟩
  refine for_list (K := X.K) (a := a) (xs := vs) (g := rG X.K g W) (tb := rS X.K s W') (fun i σ1 H1 => ∃ F2 σD1, Ext F1 H F2 H1 ∧ Kp (W ++ W') σ σ1 ∧ Rel X.K F2 H1 σD1 σ1 R ∧ dLoop g s ((D.fzL xs).drop i) σD1 = some o)
    ⟨F1, σD, Ext.refl, Kp.refl, r1.pop, by simpa using h⟩ (fun i σ1 H1 _ ⟨F2, σD1, x2, _, _, _⟩ => (fl.ext x2).sq) ?_ ?_
  · rintro i y σ1 H1 hi ⟨F2, σD1, x2, kp1, r2, h2⟩
    have hil : i < (D.fzL xs).length := by rw [← ol.length]; exact (List.getElem?_eq_some_iff.mp hi).1
    rw [List.drop_eq_getElem_cons hil] at h2
    obtain ⟨w, La, Lx, Lb, e1, eL, oy, _⟩ := ol.kid (List.getElem?_eq_getElem hil)
    rw [hi] at e1; cases e1
    have eLx : Lx = [] := by
      have z := (List.append_eq_nil_iff.mp eL.symm).1
      exact (List.append_eq_nil_iff.mp z).2
    subst eLx
    have oy' := oy.mono x2 (fun a ha => by cases ha)
    exact turn_of (R := R) (R0 := R) (W := W) (W' := W') (fun _ _ _ _ _ _ h => h) (r2.push oy') (x1.trans x2) kp1 h2 k fun F3 H3 σD3 σ3 x3 kp3 r3 h3 => ⟨F3, σD3, x2.trans x3, kp3, r3, h3⟩
  · rintro σ1 H1 ⟨F2, σD1, x2, kp1, r2, h2⟩
    have e : (D.fzL xs).drop vs.length = [] := List.drop_eq_nil_of_le (by rw [ol.length]; exact Nat.le_refl _)
    rw [e] at h2
    simp only [dLoop] at h2
    cases h2
    exact k F2 H1 σ1 (x1.trans x2) kp1 r2
theorem qs_for (hc : X.calm = true) (he : QE X e c) (hg : QG X tg g W) (hb : QSs X body s W') (hp : PassesOwn (model X.prog X.w) X.A X.env X.xe) (hf : ∀ x, foldedSetIterable e X.env x = pure x := by intro _; rfl) : QS X (.For tg e body [] pos) (sFor c g s) (W ++ W') :=
  PS_imp (ps_for hp hc (pi_list he) hg hb hf) fun En σ H ⟨F, R, σD, o, r, ec, k⟩ => by
    unfold sFor at ec
    rcases h : c σD with _ | ⟨d, σ1⟩
    · rw [h] at ec; cases ec
    · rw [h] at ec; simp only [Option.bind_some] at ec
      refine ⟨F, R, σD, d, σ1, r, h, fun F1 H1 v x1 r1 => ?_⟩
      split at ec
      · rename_i xs _
        exact list_loop (X := X) (W := W) (W' := W') (g := g) (s := s) (En := En) r1 ec fun F2 H2 σ2 x2 kp => k F2 H2 σ2 (x1.trans x2) kp
      · cases ec
/-- while, with as many turns as fuel gives -/
def dWh (t : DT) (b : DS) : Nat → DSt → Option Out
  | 0, _ => none
  | n + 1, σ => (t σ).bind fun p => if p.1 = true then (b p.2).bind fun o => match o with
    | .nx σ2 => dWh t b n σ2
    | .ct σ2 => dWh t b n σ2
    | .bk σ2 => some (.nx σ2)
    | .rt d σ2 => some (.rt d σ2) else some (.nx p.2)
def sWh (fuel : DSt → Nat) (t : DT) (b : DS) : DS := fun σ => dWh t b (fuel σ) σ
theorem qs_while {t : DT} {fuel : DSt → Nat} (ht : QT X e t) (hb : QSs X body s W) (hp : PassesOwn (model X.prog X.w) X.A X.env X.xe) : QS X (.While e body [] pos) (sWh fuel t s) W :=
  PS_imp (ps_while hp ht hb) fun En σ H ⟨F, R, σD, o, r, ec, k⟩ => by
    unfold sWh at ec
    refine ⟨fun m σ1 H1 => ∃ F1 σD1, Ext F H F1 H1 ∧ Kp W σ σ1 ∧ Rel X.K F1 H1 σD1 σ1 R ∧ dWh t s m σD1 = some o, ⟨_, F, σD, Ext.refl, Kp.refl, r, ec⟩, ?_⟩
    rintro m σ1 H1 ⟨F1, σD1, x1, kp1, r1, h1⟩
    cases m with
    | zero => cases h1
    | succ m =>
      simp only [dWh] at h1
      rcases h : t σD1 with _ | ⟨b, σ2⟩
      · rw [h] at h1; cases h1
      · rw [h] at h1; simp only [Option.bind_some] at h1
        refine ⟨F1, R, σD1, b, σ2, r1, h, fun F2 H2 x2 r2 => ?_⟩
        cases b
        · simp only [Bool.false_eq_true, if_false] at h1 ⊢
          cases h1
          exact k F2 H2 σ1 (x1.trans x2) kp1 r2
        · simp only [if_true] at h1 ⊢
          rcases h3 : s σ2 with _ | o1
          · rw [h3] at h1; cases h1
          · rw [h3] at h1; simp only [Option.bind_some] at h1
            refine ⟨fun σ' H' => ∃ F1 σD1, Ext F H F1 H' ∧ Kp W σ σ' ∧ Rel X.K F1 H' σD1 σ' R ∧ dWh t s m σD1 = some o, fun σ' H' q => ⟨m, Nat.lt_succ_self m, q⟩, ?_⟩
            refine ⟨F2, R, σ2, o1, r2, h3, fun F3 H3 σ3 x3 kp3 => ?_⟩
            have kp4 := kp1.trans kp3
            have x4 := (x1.trans x2).trans x3
            cases o1 with
            | nx σ4 => exact fun r3 => ⟨F3, σ4, x4, kp4, r3, h1⟩
            | ct σ4 => exact fun r3 => ⟨F3, σ4, x4, kp4, r3, h1⟩
            | bk σ4 => cases h1; exact fun r3 => k F3 H3 σ3 x4 kp4 r3
            | rt d σ4 => cases h1; exact fun v r3 => k F3 H3 σ3 x4 kp4 v r3
end
end DD
namespace DD
open PySem PySem.Spec PyProof.Rows L2
/-! ### a def -/
abbrev GF := List D → Option (D × List D)
def spD (K : PySem.W.Frag) (n : Nat) (g : GF) : Sp := fun vs H Q _ => vs.length = n ∧ ∃ F R ds r ds', ds.length = vs.length ∧ G K F H (ds.zip vs ++ R) ∧ g ds = some (r, ds') ∧
  ∀ F' H' v, Ext F H F' H' → ds'.length = vs.length → G K F' H' ((r, v) :: (ds'.zip vs ++ R)) → Q v H'
def inD (W : List Nat) : Nat → List D → List D
  | _, [] => []
  | k, d :: ds => (if k ∈ W then d.fz else d) :: inD W (k + 1) ds
def outD (W : List Nat) (σ : DSt) : Nat → List D → List D
  | _, [] => []
  | k, d :: ds => (if k ∈ W then d.fz else (dget σ k).getD .hole) :: outD W σ (k + 1) ds
def gOf (N : Nat) (W : List Nat) (c : DS) : GF := fun ds => (c ((inD W 0 ds).map some ++ List.replicate (N - ds.length) none)).bind fun o => match o with
  | .rt d σ => some (d, outD W σ 0 ds)
  | .nx σ => some (.non, outD W σ 0 ds)
  | _ => none
section
variable {K : PySem.W.Frag} {F F' : Addr → Prop} {H H' : Hp}
def frD (W : List Nat) : Nat → List D → List V → Ro
  | k, d :: ds, v :: vs => if k ∈ W then (d.fz, v) :: frD W (k + 1) ds vs else frD W (k + 1) ds vs
  | _, _, _ => []
theorem inD_length (W : List Nat) : ∀ (k : Nat) (ds : List D), (inD W k ds).length = ds.length
  | _, [] => rfl
  | k, d :: ds => by simp [inD, inD_length W (k + 1) ds]
theorem outD_length (W : List Nat) (σ : DSt) : ∀ (k : Nat) (ds : List D), (outD W σ k ds).length = ds.length
  | _, [] => rfl
  | k, d :: ds => by simp [outD, outD_length W σ (k + 1) ds]
theorem pull {α : Type} {x : α} {A B C : List α} : (A ++ (B ++ x :: C)).Perm (x :: (A ++ (B ++ C))) := ((List.perm_middle (a := x) (l₁ := B) (l₂ := C)).append_left A).trans List.perm_middle
theorem entry (W : List Nat) : ∀ {ds : List D} {vs : List V} {k : Nat} {F : Addr → Prop} {R : Ro}, ds.length = vs.length → G K F H (ds.zip vs ++ R) → ∃ F', Ext F H F' H ∧ G K F' H ((inD W k ds).zip vs ++ (frD W k ds vs ++ R))
  | [], [], _, F, R, _, g => ⟨F, Ext.refl, g⟩
  | d :: ds, v :: vs, k, F, R, hl, g => by
    have hl' : ds.length = vs.length := by simpa using hl
    have g0 : G K F H ((d, v) :: (ds.zip vs ++ R)) := by simpa using g
    by_cases hk : k ∈ W
    · obtain ⟨F1, x1, g1, o1⟩ := g0.freeze
      have g2 : G K F1 H (ds.zip vs ++ ((d.fz, v) :: (d.fz, v) :: R)) := (g1.push o1).perm (((List.perm_middle).symm.cons _).trans (List.perm_middle).symm)
      obtain ⟨F2, x2, g3⟩ := entry W (k := k + 1) hl' g2
      refine ⟨F2, x1.trans x2, ?_⟩
      simp only [inD, frD, hk, if_true, List.zip_cons_cons]
      exact g3.perm (pull.trans ((List.perm_middle.append_left _).cons _))
    · obtain ⟨F2, x2, g3⟩ := entry W (k := k + 1) (R := (d, v) :: R) hl' (g0.perm (List.perm_middle.symm))
      refine ⟨F2, x2, ?_⟩
      simp only [inD, frD, hk, if_false, List.zip_cons_cons]
      exact g3.perm pull
theorem dget_set_ne {σ : DSt} {i j : Nat} {o : Option D} (h : i ≠ j) : dget (σ.set i o) j = dget σ j := by
  unfold dget; rw [List.getElem?_set_ne h]
theorem outD_set (W : List Nat) {σ : DSt} {o : Option D} {i : Nat} : ∀ {k : Nat} {ds : List D}, i < k → outD W (σ.set i o) k ds = outD W σ k ds
  | _, [], _ => rfl
  | k, d :: ds, h => by simp only [outD]; rw [dget_set_ne (by omega), outD_set W (k := k + 1) (by omega)]
theorem exitP (W : List Nat) {σ : St} : ∀ {ds : List D} {vs : List V} {k : Nat} {σD : DSt} {R : Ro}, ds.length = vs.length → (∀ (j : Nat) v, vs[j]? = some v → k + j ∉ W → σ[k + j]? = some (some v)) →
    Rel K F H σD σ (frD W k ds vs ++ R) → ∃ σD2, Rel K F H σD2 σ ((outD W σD k ds).zip vs ++ R)
  | [], [], _, σD, R, _, _, r => ⟨σD, r⟩
  | d :: ds, v :: vs, k, σD, R, hl, hv, r => by
    have hl' : ds.length = vs.length := by simpa using hl
    have hv' : ∀ (j : Nat) u, vs[j]? = some u → k + 1 + j ∉ W → σ[k + 1 + j]? = some (some u) := fun j u e h => by
      have q := hv (j + 1) u (by simpa using e) (by rw [show k + (j + 1) = k + 1 + j by omega]; exact h)
      rw [show k + (j + 1) = k + 1 + j by omega] at q; exact q
    by_cases hk : k ∈ W
    · simp only [frD, hk, if_true] at r
      obtain ⟨σ2, r2⟩ := exitP W (k := k + 1) (R := (d.fz, v) :: R) hl' hv' (r.perm List.perm_middle.symm)
      refine ⟨σ2, ?_⟩
      simp only [outD, hk, if_true, List.zip_cons_cons]
      exact r2.perm List.perm_middle
    · simp only [frD, hk, if_false] at r
      have e0 : σ[k]? = some (some v) := by simpa using hv 0 v rfl (by simpa using hk)
      rcases hd : dget σD k with _ | dk
      · have r1 : Rel K F H σD σ ((.hole, v) :: (frD W (k + 1) ds vs ++ R)) := r.push (by simp only [Ow])
        obtain ⟨σ2, r2⟩ := exitP W (k := k + 1) (R := (.hole, v) :: R) hl' hv' (r1.perm List.perm_middle.symm)
        refine ⟨σ2, ?_⟩
        simp only [outD, hk, if_false, List.zip_cons_cons, hd, Option.getD_none]
        exact r2.perm List.perm_middle
      · obtain ⟨v', hv1, r1⟩ := r.take (dget_some hd)
        rw [e0] at hv1; cases hv1
        obtain ⟨σ2, r2⟩ := exitP W (k := k + 1) (R := (dk, v) :: R) hl' hv' (r1.perm List.perm_middle.symm)
        refine ⟨σ2, ?_⟩
        simp only [outD, hk, if_false, List.zip_cons_cons, hd, Option.getD_some]
        rw [outD_set W (Nat.lt_succ_self k)] at r2
        exact r2.perm List.perm_middle
theorem sl_none' : ∀ {n : Nat} {σ : St}, sl (List.replicate n none) σ = []
  | 0, σ => by cases σ <;> rfl
  | n + 1, [] => rfl
  | n + 1, o :: σ => by rw [List.replicate_succ]; exact sl_none' (n := n) (σ := σ)
theorem sl_start : ∀ {ds : List D} {vs : List V} {n : Nat}, ds.length = vs.length → sl (ds.map some ++ List.replicate n none) (vs.map some ++ List.replicate n none) = ds.zip vs
  | [], [], n, _ => by simpa using sl_none'
  | d :: ds, v :: vs, n, h => by
    show (d, v) :: sl (ds.map some ++ List.replicate n none) (vs.map some ++ List.replicate n none) = _
    rw [sl_start (by simpa using h)]; rfl
theorem mt_none : ∀ {n : Nat}, Mt (List.replicate n none) (List.replicate n none)
  | 0 => trivial
  | n + 1 => by rw [List.replicate_succ, List.replicate_succ]; exact mt_none (n := n)
theorem mt_start : ∀ {ds : List D} {vs : List V} {n : Nat}, ds.length = vs.length → Mt (ds.map some ++ List.replicate n none) (vs.map some ++ List.replicate n none)
  | [], [], n, _ => by simpa using mt_none
  | d :: ds, v :: vs, n, h => mt_start (ds := ds) (vs := vs) (n := n) (by simpa using h)
end
section
variable {P : Program} {w : World} {K : PySem.W.Frag} {mg : Str → Option Value} {base : Heap}
/-- THE RULE for a def: its body's reading at data -/
theorem fn_D {x qual : Str} {st : Stmt} {f : Addr} {fd : FuncData} {N ps : List Str} {k : Nat} {W : List Nat} {c : DS} (F : Fun K x qual st f fd) (S : FnScope N ps (defScope st)) (hnp : ps.length ≤ N.length)
    (hbody : ∀ (cdv : Value) (A : Around) (outer : List Env) (s : Shared) (H : Hp) (E : XK), Room k (A.deeper (envOfC qual (defScope st) s.heap.objs.size f cdv)) →
      QSs (cxOf CX0 P w K mg base N qual (defScope st) f cdv A outer s H E).nox (defBody st) c W) :
    FnOk P w K mg base CX0 (k + 1) f fd ps (spD K ps.length (gOf N.length W c)) := by
  refine F.ok S (fun vs H Q E h => h.1) (fun cdv A outer s H vs Q E hr h => ?_)
  obtain ⟨hlen, F0, R, ds, r, ds', hl, g, eg, kk⟩ := h
  refine ⟨_, hbody cdv A outer s H E hr, ?_⟩
  show rS K c W _ _ _
  unfold gOf at eg
  obtain ⟨F1, x1, g1⟩ := entry W (k := 0) hl g
  have hl2 : (inD W 0 ds).length = vs.length := by rw [inD_length]; exact hl
  have est : L2.start N vs = vs.map some ++ List.replicate (N.length - ds.length) none := by unfold L2.start; rw [hl]
  have r0 : Rel K F1 H ((inD W 0 ds).map some ++ List.replicate (N.length - ds.length) none) (L2.start N vs) (frD W 0 ds vs ++ R) := by
    rw [est]
    exact ⟨mt_start hl2, by rw [sl_start hl2]; exact g1⟩
  rcases h : c ((inD W 0 ds).map some ++ List.replicate (N.length - ds.length) none) with _ | o
  · rw [h] at eg; cases eg
  · rw [h] at eg; simp only [Option.bind_some] at eg
    refine ⟨F1, _, _, o, r0, h, fun F2 H2 σ2 x2 kp => ?_⟩
    have hv : ∀ (j : Nat) v, vs[j]? = some v → 0 + j ∉ W → σ2[0 + j]? = some (some v) := fun j v e hj => by
      rw [kp (0 + j) hj, Nat.zero_add, est]
      have hjl : j < vs.length := (List.getElem?_eq_some_iff.mp e).1
      rw [List.getElem?_append_left (by simpa using hjl)]
      simp [e]
    cases o with
    | nx σ3 =>
      cases eg
      intro r3
      obtain ⟨σ4, r4⟩ := exitP W (k := 0) hl hv r3
      exact kk F2 H2 .non (x1.trans x2) (by rw [outD_length]; exact hl) ((r4.scal (d := .non) (w := .non) rfl).g.popN)
    | rt d σ3 =>
      cases eg
      intro v r3
      obtain ⟨σ4, r4⟩ := exitP W (k := 0) (R := (_, v) :: R) hl hv (r3.perm List.perm_middle.symm)
      exact kk F2 H2 v (x1.trans x2) (by rw [outD_length]; exact hl) ((r4.perm List.perm_middle).g.popN)
    | bk σ3 => cases eg
    | ct σ3 => cases eg
end
/-! ### calls -/
inductive Arg where
  | bo (i : Nat) | ex (c : DE)
def evM : List Arg → DSt → Option (List (Option D) × DSt)
  | [], σ => some ([], σ)
  | .bo i :: as, σ => (dget σ i).bind fun _ => (evM as σ).map fun p => (none :: p.1, p.2)
  | .ex c :: as, σ => (c σ).bind fun q => (evM as q.2).map fun p => (some q.1 :: p.1, p.2)
def fillM : List Arg → List (Option D) → DSt → Option (List D × DSt)
  | .bo i :: as, none :: os, σ => (dget σ i).bind fun d => match d.sc with
    | some _ => (fillM as os σ).map fun p => (d :: p.1, p.2)
    | none => (fillM as os (σ.set i none)).map fun p => (d :: p.1, p.2)
  | .ex _ :: as, some d :: os, σ => (fillM as os σ).map fun p => (d :: p.1, p.2)
  | [], [], σ => some ([], σ)
  | _, _, _ => none
def backM : List Arg → List D → DSt → DSt
  | .bo i :: as, d :: ds, σ => match d.sc with
    | some _ => backM as ds σ
    | none => backM as ds (σ.set i (some d))
  | .ex _ :: as, _ :: ds, σ => backM as ds σ
  | _, _, σ => σ
def dCall (g : GF) (as : List Arg) : DE := fun σ => (evM as σ).bind fun p => (fillM as p.1 p.2).bind fun q => (g q.1).map fun r => (r.1, backM as r.2 q.2)
/-- the values of the arguments and the roots of those that were made -/
def OkM : List Arg → List (Option D) → List V → St → Prop
  | .bo i :: as, none :: os, v :: vs, σ => σ[i]? = some (some v) ∧ OkM as os vs σ
  | .ex _ :: as, some _ :: os, _ :: vs, σ => OkM as os vs σ
  | [], [], [], _ => True
  | _, _, _, _ => False
def tz : List (Option D) → List V → Ro
  | none :: os, _ :: vs => tz os vs
  | some d :: os, v :: vs => (d, v) :: tz os vs
  | _, _ => []
def rM (K : PySem.W.Frag) (as : List Arg) : TA := fun σ H Q => ∃ F R σD os σD', Rel K F H σD σ R ∧ evM as σD = some (os, σD') ∧ ∀ F' H' vs, Ext F H F' H' → OkM as os vs σ → Rel K F' H' σD' σ (tz os vs ++ R) → Q vs H'
def QM (X : Cx) (es : List Expr) (as : List Arg) : Prop := PA X es (rM X.K as)
section
variable {X : Cx} {e : Expr} {es : List Expr} {as : List Arg} {c : DE}
theorem qm_nil : QM X [] [] := PA_imp pa_nil fun σ H Q ⟨F, R, σD, os, σD', r, ec, k⟩ => by
  cases ec; exact k F H [] Ext.refl trivial r
theorem qm_ex (ha : QE X e c) (hr : QM X es as) (hs : starEach (e :: es) X.env = (false, eval e X.env) :: starEach es X.env := by rfl) : QM X (e :: es) (.ex c :: as) := PA_imp (pa_cons ha hr hs) fun σ H Q ⟨F, R, σD, os, σD', r, ec, k⟩ => by
  simp only [evM] at ec
  rcases h1 : c σD with _ | ⟨x, σ1⟩
  · rw [h1] at ec; cases ec
  · rw [h1] at ec; simp only [Option.bind_some] at ec
    obtain ⟨⟨os2, σ2⟩, e2, e3⟩ := map_pair ec
    cases e3
    refine ⟨F, R, σD, x, σ1, r, h1, fun F1 H1 v x1 r1 => ?_⟩
    refine ⟨F1, _, σ1, os2, σ2, r1, e2, fun F2 H2 vs x2 ok r2 => ?_⟩
    exact k F2 H2 (v :: vs) (x1.trans x2) ok (r2.perm List.perm_middle)
theorem qm_bo (i : Nat) {x : Str} {pos : Pos} (hr : QM X es as) (hN : X.N[i]? = some x := by rfl) (hv : Vis X.env.scope x := by first | exact Or.inl rfl | exact Or.inr (Or.inl rfl) | exact Or.inr (Or.inr rfl)) (hd : (x == ("__debug__" : Str)) = false := by decide)
    (hcd : (x == ("__classdict__" : Str)) = false := by decide) (hs : starEach (.Name x pos :: es) X.env = (false, eval (.Name x pos) X.env) :: starEach es X.env := by rfl) : QM X (.Name x pos :: es) (.bo i :: as) :=
  PA_imp (pa_cons (pe_var hN hv hd hcd) hr hs) fun σ H Q ⟨F, R, σD, os, σD', r, ec, k⟩ => by
    simp only [evM] at ec
    rcases h1 : dget σD i with _ | d
    · rw [h1] at ec; cases ec
    · rw [h1] at ec; simp only [Option.bind_some] at ec
      obtain ⟨⟨os2, σ2⟩, e2, e3⟩ := map_pair ec
      cases e3
      obtain ⟨v, hv, b⟩ := r.get (dget_some h1)
      refine ⟨v, hv, F, R, σD, os2, σ2, r, e2, fun F2 H2 vs x2 ok r2 => ?_⟩
      exact k F2 H2 (v :: vs) x2 ⟨hv, ok⟩ r2
variable {K : PySem.W.Frag} {F F' : Addr → Prop} {H H' : Hp}
theorem fill_ok : ∀ {as : List Arg} {os : List (Option D)} {vs : List V} {σ : St} {σD : DSt} {R : Ro} {ds : List D} {σD' : DSt}, OkM as os vs σ → fillM as os σD = some (ds, σD') → Rel K F H σD σ (tz os vs ++ R) →
    ds.length = vs.length ∧ Rel K F H σD' σ (ds.zip vs ++ R)
  | [], [], [], σ, σD, R, ds, σD', _, e, r => by simp only [fillM] at e; cases e; exact ⟨rfl, r⟩
  | .bo i :: as, none :: os, v :: vs, σ, σD, R, ds, σD', ok, e, r => by
    obtain ⟨hv, ok⟩ := ok
    simp only [fillM] at e
    rcases h1 : dget σD i with _ | d
    · rw [h1] at e; cases e
    · rw [h1] at e; simp only [Option.bind_some] at e
      obtain ⟨v', hv1, r1⟩ := r.take (dget_some h1)
      rw [hv] at hv1; cases hv1
      rcases hs : d.sc with _ | wv
      · rw [hs] at e
        obtain ⟨⟨ds2, σ2⟩, e2, e3⟩ := map_pair e
        cases e3
        obtain ⟨l, r2⟩ := fill_ok (R := (d, v) :: R) ok e2 (r1.perm List.perm_middle.symm)
        exact ⟨by simp [l], r2.perm List.perm_middle⟩
      · rw [hs] at e
        obtain ⟨⟨ds2, σ2⟩, e2, e3⟩ := map_pair e
        cases e3
        have ev : v = wv := (r1.bor (by simp)).sc hs
        subst ev
        obtain ⟨l, r2⟩ := fill_ok (R := R) ok e2 r
        exact ⟨by simp [l], r2.scal hs⟩
  | .ex _ :: as, some d :: os, v :: vs, σ, σD, R, ds, σD', ok, e, r => by
    simp only [fillM] at e
    obtain ⟨⟨ds2, σ2⟩, e2, e3⟩ := map_pair e
    cases e3
    obtain ⟨l, r2⟩ := fill_ok (as := as) (os := os) (vs := vs) (R := (d, v) :: R) ok e2 (r.perm (List.perm_middle (l₁ := tz os vs)).symm)
    exact ⟨by simp [l], r2.perm List.perm_middle⟩
theorem back_ok : ∀ {as : List Arg} {os : List (Option D)} {vs : List V} {σ : St} {σD : DSt} {R : Ro} {ds : List D}, OkM as os vs σ → ds.length = vs.length → Rel K F H σD σ (ds.zip vs ++ R) → Rel K F H (backM as ds σD) σ R
  | [], [], [], σ, σD, R, [], _, _, r => r
  | .bo i :: as, none :: os, v :: vs, σ, σD, R, d :: ds, ok, l, r => by
    obtain ⟨hv, ok⟩ := ok
    simp only [backM]
    rcases hs : d.sc with _ | wv
    · exact back_ok ok (by simpa using l) (Rel.put (R := ds.zip vs ++ R) r hv)
    · exact back_ok ok (by simpa using l) (Rel.pop (R := ds.zip vs ++ R) r)
  | .ex _ :: as, some d' :: os, v :: vs, σ, σD, R, d :: ds, ok, l, r => back_ok (as := as) (os := os) ok (by simpa using l) (Rel.pop (R := ds.zip vs ++ R) r)
theorem OkM.length : ∀ {as : List Arg} {os : List (Option D)} {vs : List V} {σ : St}, OkM as os vs σ → vs.length = as.length
  | [], [], [], _, _ => rfl
  | .bo _ :: as, none :: os, _ :: vs, σ, h => by simp [OkM.length (as := as) (os := os) (vs := vs) h.2]
  | .ex _ :: as, some _ :: os, _ :: vs, σ, h => by simp [OkM.length (as := as) (os := os) (vs := vs) (σ := σ) h]
theorem rCall {n : Nat} {g : GF} {E : XK} {σ : St} {H : Hp} {Q : VK} (hn : as.length = n) (h : rE K (dCall g as) σ H Q) : tCall (spD K n g) [] E (rM K as) σ H Q := by
  obtain ⟨F, R, σD, d, σD', r, ec, k⟩ := h
  unfold dCall at ec
  rcases h1 : evM as σD with _ | ⟨os, σ1⟩
  · rw [h1] at ec; cases ec
  · rw [h1] at ec; simp only [Option.bind_some] at ec
    rcases h2 : fillM as os σ1 with _ | ⟨ds, σ2⟩
    · rw [h2] at ec; cases ec
    · rw [h2] at ec; simp only [Option.bind_some] at ec
      obtain ⟨⟨d', ds'⟩, e2, e3⟩ := map_pair ec
      cases e3
      refine ⟨F, R, σD, os, σ1, r, h1, fun F1 H1 vs x1 ok r1 => ?_⟩
      obtain ⟨l, r2⟩ := fill_ok ok h2 r1
      have lv : vs.length = n := by rw [← hn]; exact ok.length
      refine ⟨by simpa using lv, F1, sl σ2 σ ++ R, ds, _, ds', by simpa using l, ?_, e2, fun F2 H2 v x2 l2 g2 => ?_⟩
      · rw [List.append_nil]
        exact r2.g.perm (by rw [← List.append_assoc, ← List.append_assoc]; exact List.perm_append_comm.append_right R)
      · refine k F2 H2 v (x1.trans x2) ?_
        rw [List.append_nil] at l2 g2
        refine back_ok (R := (_, v) :: R) ok l2 ⟨r2.mt, g2.perm ?_⟩
        exact ((pull (x := (_, v)) (A := sl σ2 σ) (B := ds'.zip vs) (C := R)).trans ((List.perm_append_comm_assoc _ _ _).cons _)).symm
theorem qe_call {k : Nat} {f : Addr} {fd : FuncData} {ps : List Str} {g : GF} {x : Str} {p pos : Pos} (F : FnOk X.prog X.w X.K X.mg X.base CX0 k f fd ps (spD X.K ps.length g)) (hr : Room k X.A) (hg : Gl X x) (hm : X.mg x = some (.ref f)) (hk : PySem.W.keepIn X.K (.ref f) = true) (hb : Binds X.K fd ps [])
    (ha : QM X (e :: es) as) (hn : as.length = ps.length := by rfl) (hdb : (x == ("__debug__" : Str)) = false := by decide) (he : starEach (e :: es) X.env = (false, eval e X.env) :: starEach es X.env := by rfl) (hpl : (backTo pos (starEach es X.env)).any (·.1) = false := by rfl) :
    QE X (.Call (.Name x p) (e :: es) [] pos) (dCall g as) := PE_imp (pe_call (E := E0) F hr hg hm hk hb .nil pass0 ha hdb he hpl) fun _ _ _ h => rCall hn h
end
end DD
namespace L2
open PySem PySem.Spec PyProof.Rows
/-! ### comprehensions -/
/-- the cells of a block's own names stand ahead of those that it is handed -/
theorem cf_own : ∀ (names : List (Str × NameKind)) (n : Nat) (acc : List (Str × Addr)), ∃ own, cellsFrom n names acc = own ++ acc ∧ (∀ p ∈ own, n ≤ p.2 ∧ (p.1, NameKind.cell) ∈ names) ∧
    (∀ x, (x, NameKind.cell) ∈ names → ∃ c, (x, c) ∈ own) ∧ own.Pairwise fun x y => x.2 ≠ y.2
  | [], n, acc => ⟨[], rfl, (fun _ h => by cases h), (fun _ h => by cases h), List.Pairwise.nil⟩
  | (name, kind) :: r, n, acc => by
    unfold cellsFrom
    by_cases hk : kind = .cell
    · subst hk
      obtain ⟨own, e, h1, h2, h3⟩ := cf_own r (n + 1) ((name, n) :: acc)
      refine ⟨own ++ [(name, n)], ?_, ?_, ?_, ?_⟩
      · rw [if_pos (by decide), e, List.append_assoc]; rfl
      · intro p hp
        rcases List.mem_append.mp hp with hp | hp
        · exact ⟨Nat.le_of_succ_le (h1 p hp).1, List.mem_cons_of_mem _ (h1 p hp).2⟩
        · rw [List.mem_singleton.mp hp]; exact ⟨Nat.le_refl _, List.mem_cons_self⟩
      · intro x hx
        rcases List.mem_cons.mp hx with hx | hx
        · cases hx; exact ⟨n, List.mem_append_right _ List.mem_cons_self⟩
        · obtain ⟨c, hc⟩ := h2 x hx; exact ⟨c, List.mem_append_left _ hc⟩
      · refine List.pairwise_append.mpr ⟨h3, List.pairwise_singleton _ _, fun a ha b hb e => ?_⟩
        rw [List.mem_singleton.mp hb] at e
        have h5 := (h1 a ha).1
        rw [show a.2 = n from e] at h5
        exact absurd h5 (Nat.not_succ_le_self n)
    · obtain ⟨own, e, h1, h2, h3⟩ := cf_own r n acc
      have hk' : (kind == NameKind.cell) = false := by cases kind <;> first | rfl | exact absurd rfl hk
      refine ⟨own, by rw [hk']; exact e, fun p hp => ⟨(h1 p hp).1, List.mem_cons_of_mem _ (h1 p hp).2⟩, fun x hx => ?_, h3⟩
      rcases List.mem_cons.mp hx with hx | hx
      · cases hx; exact absurd rfl hk
      · exact h2 x hx
/-- what a block is handed -/
theorem closure_ok {scope : Scope} {env : Env} (h : ∀ x, (x, NameKind.free) ∈ scope.names → ∃ c, env.cells.lookup x = some c) :
    ∃ cl, closureFor scope env = pure cl ∧ (∀ p ∈ cl, env.cells.lookup p.1 = some p.2) ∧ ∀ x, (x, NameKind.free) ∈ scope.names → ∃ c, (x, c) ∈ cl := by
  have all : ∀ (names : List (Str × NameKind)) (acc : List (Str × Addr)), (∀ x, (x, NameKind.free) ∈ names → ∃ c, env.cells.lookup x = some c) → (∀ p ∈ acc, env.cells.lookup p.1 = some p.2) →
      ∃ cl, (forIn (m := Sem) names acc fun (p : Str × NameKind) (cs : List (Str × Addr)) => if (p.2 == NameKind.free) = true then do let __do_lift ← cellOf env p.1; pure (ForInStep.yield ((p.1, __do_lift) :: cs)) else pure (ForInStep.yield cs)) = pure cl ∧
        (∀ p ∈ cl, env.cells.lookup p.1 = some p.2) ∧ (∀ p ∈ acc, p ∈ cl) ∧ ∀ x, (x, NameKind.free) ∈ names → ∃ c, (x, c) ∈ cl := by
    intro names
    induction names with
    | nil => intro acc _ ha; exact ⟨acc, by rw [List.forIn_nil], ha, fun _ h => h, (fun _ h => by cases h)⟩
    | cons p r ih =>
      obtain ⟨name, kind⟩ := p
      intro acc hn ha
      by_cases hk : kind = .free
      · subst hk
        obtain ⟨c, hc⟩ := hn name List.mem_cons_self
        obtain ⟨cl, e, h1, h2, h3⟩ := ih ((name, c) :: acc) (fun x hx => hn x (List.mem_cons_of_mem _ hx)) (fun p hp => by
          rcases List.mem_cons.mp hp with rfl | hp
          · exact hc
          · exact ha p hp)
        refine ⟨cl, ?_, h1, fun p hp => h2 p (List.mem_cons_of_mem _ hp), fun x hx => ?_⟩
        · rw [List.forIn_cons]
          have ec : cellOf env name = pure c := by unfold cellOf; rw [hc]
          simp only [ec]
          exact e
        · rcases List.mem_cons.mp hx with hx | hx
          · cases hx; exact ⟨c, h2 _ List.mem_cons_self⟩
          · exact h3 x hx
      · obtain ⟨cl, e, h1, h2, h3⟩ := ih acc (fun x hx => hn x (List.mem_cons_of_mem _ hx)) ha
        have hk' : (kind == NameKind.free) = false := by cases kind <;> first | rfl | exact absurd rfl hk
        refine ⟨cl, ?_, h1, h2, fun x hx => ?_⟩
        · rw [List.forIn_cons]; simp only [hk', Bool.false_eq_true, if_false]; exact e
        · rcases List.mem_cons.mp hx with hx | hx
          · cases hx; exact absurd rfl hk
          · exact h3 x hx
  obtain ⟨cl, e, h1, _, h3⟩ := all scope.names [] h (fun _ h => by cases h)
  refine ⟨cl, ?_, h1, h3⟩
  simp only [closureFor]
  rw [e]
  rfl
theorem nfe_comp {M : Model} {A : Around} {E : Value → Shared → Prop} {s : Shared} {scope : Scope} {env : Env} {cl : List (Str × Addr)} {Q : Env → Shared → Prop}
    (hQ : Q (newEnv scope s.heap.objs.size env.globals (cellsFrom (s.heap.objs.size + 1) scope.names cl) env.qual none .none (some env) builtinsNs) { s with heap := pushCells (s.heap.push { cls := .type "dict", data := .dict #[] }) scope.names }) :
    wpAny M A (newFunctionEnv scope env.globals cl [] env.qual none .none (some env)) Q E s := by
  simp only [newFunctionEnv, Option.isSome_some, if_true]
  refine wpAny_bind (wpAny_alloc ?_)
  refine wpAny_bind (wpAny_layCells _ (fun name kind cells => by cases hkc : kind == NameKind.cell <;> simp [hkc]) _ _ _ _ ?_)
  rw [show ({ s with heap := s.heap.push { cls := .type "dict", data := .dict #[] } } : Shared).heap.objs.size = s.heap.objs.size + 1 from Heap.size_push ..]
  refine wpAny_bind ?_
  rw [List.forIn_nil]
  exact wpAny_pure (wpAny_pure hQ)
/-- the context of a block -/
def cyOf (X : Cx) (N' : List Str) (scope : Scope) (cl : List (Str × Addr)) (s : Shared) (H : Hp) (fp : List Addr) (pins : List (Addr × Obj)) : Cx :=
  { X with N := N', s₀ := s, H₀ := H, env := compEnvC scope (cellsFrom (s.heap.objs.size + 1) scope.names cl) s.heap.objs.size X.env, outer := X.stack, stack := X.stack, ex := fp,
           fn := fun x => scope.names.lookup x == some .cell, pn := X.pn ++ pins, xe := fun _ _ => False }
/-- what of the text a block must have (N': the names in its slots: those of the code around it, hidden ones called otherwise, then its own) -/
structure CyOk (X : Cx) (N' : List Str) (scope : Scope) : Prop where
  kind : scope.kind = .function
  nd : (scope.names.map (·.1)).Nodup
  len : X.N.length ≤ N'.length
  free : ∀ x, (x, NameKind.free) ∈ scope.names → X.env.kindOf x = some .cell ∨ X.env.kindOf x = some .free
  same : ∀ i x, i < X.N.length → N'[i]? = some x → (x, NameKind.free) ∈ scope.names → X.N[i]? = some x
  hid : ∀ i x, i < X.N.length → N'[i]? = some x → (∃ k, (x, k) ∈ scope.names) → (x, NameKind.free) ∈ scope.names
theorem lookup_mem {α : Type} : ∀ {l : List (Str × α)} {x : Str} {k : α}, (l.map (·.1)).Nodup → (x, k) ∈ l → l.lookup x = some k
  | (y, j) :: r, x, k, nd, h => by
    rw [List.map_cons, List.nodup_cons] at nd
    rcases List.mem_cons.mp h with h | h
    · cases h; rw [List.lookup_cons]; simp
    · have ne : x ≠ y := fun e => nd.1 (e ▸ List.mem_map_of_mem (f := (·.1)) h)
      rw [List.lookup_cons]
      have : (x == y) = false := by simpa using ne
      rw [this]
      exact lookup_mem nd.2 h
theorem lookup_ex {α : Type} : ∀ {l : List (Str × α)} {x : Str} {k : α}, (x, k) ∈ l → ∃ k', l.lookup x = some k'
  | (y, j) :: r, x, k, h => by
    rw [List.lookup_cons]
    cases hb : x == y with
    | true => exact ⟨j, rfl⟩
    | false =>
      rcases List.mem_cons.mp h with h | h
      · cases h; simp at hb
      · exact lookup_ex h
theorem relabel_mem {scope : Scope} {env : Env} {x : Str} {k : NameKind} (h : (relabel scope env).names.lookup x = some k) : (x, k) ∈ scope.names ∨ ((x, NameKind.free) ∈ scope.names ∧ k = .cell) := by
  have h1 := mem_of_lookup h
  unfold relabel at h1
  obtain ⟨⟨n, j⟩, hm, e⟩ := List.mem_map.mp h1
  dsimp only at e
  split at e
  · rename_i hc
    cases e
    refine .inr ⟨?_, rfl⟩
    have : j = .free := by
      cases j <;> simp at hc <;> rfl
    subst this; exact hm
  · cases e; exact .inl hm
theorem lookup_append {α : Type} {a b : List (Str × α)} {x : Str} (h : ∀ p ∈ a, p.1 ≠ x) : (a ++ b).lookup x = b.lookup x := by
  induction a with
  | nil => rfl
  | cons p r ih =>
    obtain ⟨y, j⟩ := p
    rw [List.cons_append, List.lookup_cons]
    have : (x == y) = false := by
      have := h (y, j) List.mem_cons_self
      simpa using fun e : x = y => this e.symm
    rw [this]
    exact ih fun p hp => h p (List.mem_cons_of_mem _ hp)
section
variable {X : Cx} {N' : List Str} {scope : Scope} {cl : List (Str × Addr)} {s : Shared} {H : Hp} {fp : List Addr} {pins : List (Addr × Obj)} {σ : St}
theorem cy_start (T : CyOk X N' scope) (I : Inv X pins σ H s) (hcl : ∀ p ∈ cl, X.env.cells.lookup p.1 = some p.2) (hfr : ∀ x, (x, NameKind.free) ∈ scope.names → ∃ c, (x, c) ∈ cl)
    (hf : ∀ b ∈ fp, FpOk X pins H b) (ho : ∀ b ∈ fp, ∃ o, s.heap.get? b = some o) :
    Inv (cyOf X N' scope cl s H fp pins) [] (σ ++ List.replicate (N'.length - X.N.length) none) H { s with heap := pushCells (s.heap.push { cls := .type "dict", data := .dict #[] }) scope.names } := by
  obtain ⟨own, eo, o1, o2, o3⟩ := cf_own scope.names (s.heap.objs.size + 1) cl
  have keep : ∀ b o, s.heap.get? b = some o → (pushCells (s.heap.push { cls := .type "dict", data := .dict #[] }) scope.names).get? b = some o := fun b o e => pushCells_keeps _ _ b o (Heap.get?_push_of_some _ e)
  have clt : ∀ x c, (x, c) ∈ cl → c < s.heap.objs.size := fun x c h => by
    obtain ⟨v, z⟩ := I.cell x c (hcl _ h)
    exact z.lt
  -- what a cell of the block is
  have cases_ : ∀ x c, (own ++ cl).lookup x = some c → (s.heap.objs.size + 1 ≤ c ∧ (x, c) ∈ own) ∨ X.env.cells.lookup x = some c := fun x c h => by
    rcases List.mem_append.mp (mem_of_lookup h) with h | h
    · exact .inl ⟨(o1 _ h).1, h⟩
    · exact .inr (hcl _ h)
  have hst : ∀ b ∈ fp, b ∉ frs X.stack := fun b hb z => by
    rcases List.mem_cons.mp (I.stkSub b z) with e | e
    · exact (hf b hb).2.1 e
    · exact (hf b hb).2.2.1 e
  have okc : CellsOk (pushCells (s.heap.push { cls := .type "dict", data := .dict #[] }) scope.names) (s.heap.objs.size + 1) (cellsFrom (s.heap.objs.size + 1) scope.names []) := by
    have q := cellsFrom_ok scope.names (s.heap.push { cls := .type "dict", data := .dict #[] }) (s.heap.objs.size + 1) [] ⟨(fun _ _ hm => by cases hm), List.Pairwise.nil⟩ (by rw [Heap.size_push]; exact Nat.le_refl _)
    rw [Heap.size_push] at q
    exact q
  have eown : cellsFrom (s.heap.objs.size + 1) scope.names [] = own := by
    obtain ⟨own', e', _⟩ := cf_own scope.names (s.heap.objs.size + 1) []
    have gen : ∀ (names : List (Str × NameKind)) (n : Nat) (acc : List (Str × Addr)), cellsFrom n names acc = cellsFrom n names [] ++ acc := by
      intro names
      induction names with
      | nil => intro n acc; rfl
      | cons p r ih =>
        obtain ⟨name, kind⟩ := p
        intro n acc
        unfold cellsFrom
        split
        · rw [ih (n + 1) ((name, n) :: acc), ih (n + 1) [(name, n)], List.append_assoc]; rfl
        · exact ih n acc
    have := gen scope.names (s.heap.objs.size + 1) cl
    rw [eo] at this
    exact (List.append_cancel_right this).symm
  have ok : (cyOf X N' scope cl s H fp pins).Ok := by
    refine ⟨I.ok.mod, T.kind, I.ok.glob, I.ok.blt, Nat.le_refl _, fun x y c h1 h2 => ?_, fun x h => ?_, fun x c h1 h2 => ?_, I.ok.hd, I.ok.frames, .inl rfl, fun b hb => ⟨?_, fun x c h => ?_⟩, I.bs, Nat.le_trans I.ok.bsz I.sz, fun b o e hb => ?_, hst, I.stack, I.stkFree⟩
    · have h1 : (own ++ cl).lookup x = some c := eo ▸ h1
      have h2 : (own ++ cl).lookup y = some c := eo ▸ h2
      rcases cases_ x c h1 with ⟨l1, m1⟩ | e1
      · rcases cases_ y c h2 with ⟨l2, m2⟩ | e2
        · exact name_of_addr o3 m1 m2
        · obtain ⟨v, z⟩ := I.cell y c e2
          exact absurd (Nat.lt_of_lt_of_le z.lt (Nat.le_of_succ_le (by first | exact l2 | exact l1))) (Nat.lt_irrefl _)
      · rcases cases_ y c h2 with ⟨l2, m2⟩ | e2
        · obtain ⟨v, z⟩ := I.cell x c e1
          exact absurd (Nat.lt_of_lt_of_le z.lt (Nat.le_of_succ_le (by first | exact l2 | exact l1))) (Nat.lt_irrefl _)
        · exact I.ok.inj x y c e1 e2
    · show ∃ c, (cellsFrom (s.heap.objs.size + 1) scope.names cl).lookup x = some c
      rw [eo]
      have fromFree : (x, NameKind.free) ∈ scope.names → ∃ c, (own ++ cl).lookup x = some c := fun hm => by
        obtain ⟨c, hc⟩ := hfr x hm
        exact lookup_ex (List.mem_append_right own hc)
      have fromCell : (x, NameKind.cell) ∈ scope.names → ∃ c, (own ++ cl).lookup x = some c := fun hm => by
        obtain ⟨c, hc⟩ := o2 x hm
        exact lookup_ex (List.mem_append_left cl hc)
      rcases h with h | h
      · rcases relabel_mem h with h | ⟨h, _⟩
        · exact fromCell h
        · exact fromFree h
      · rcases relabel_mem h with h | ⟨h, e⟩
        · exact fromFree h
        · cases e
    · have h2 : (own ++ cl).lookup x = some c := eo ▸ h2
      have hc : scope.names.lookup x = some .cell := by
        have : (scope.names.lookup x == some NameKind.cell) = true := h1
        simpa using this
      rcases cases_ x c h2 with ⟨l1, m1⟩ | e1
      · exact Nat.le_of_succ_le l1
      · -- x is one of the block's own: its cell stands ahead
        obtain ⟨c', hc'⟩ := o2 x (mem_of_lookup hc)
        obtain ⟨c2, hc2⟩ := lookup_ex hc'
        have : (own ++ cl).lookup x = some c2 := by
          have gen : ∀ l : List (Str × Addr), l.lookup x = some c2 → (l ++ cl).lookup x = some c2 := by
            intro l
            induction l with
            | nil => intro h; cases h
            | cons p r ih =>
              obtain ⟨y, j⟩ := p
              intro h
              rw [List.cons_append, List.lookup_cons]
              rw [List.lookup_cons] at h
              cases hb : x == y with
              | true => rw [hb] at h; exact h
              | false => rw [hb] at h; exact ih h
          exact gen own hc2
        rw [this] at h2
        cases h2
        exact Nat.le_of_succ_le (o1 _ (mem_of_lookup hc2)).1
    · obtain ⟨o, e⟩ := ho b hb
      exact Nat.ne_of_lt (Heap.lt_size e)
    · have h : (own ++ cl).lookup x = some c := eo ▸ h
      obtain ⟨o, e⟩ := ho b hb
      have hlt := Heap.lt_size e
      rcases cases_ x c h with ⟨l1, m1⟩ | e1
      · intro z
        rw [z] at l1
        exact absurd (Nat.lt_of_lt_of_le hlt (Nat.le_of_succ_le l1)) (Nat.lt_irrefl _)
      · exact (hf b hb).2.2.2.2.1 x c e1
    · rcases (hf b hb).2.2.2.1 with z | z
      · exact I.ok.noex b o e z
      · exact absurd (Nat.lt_of_lt_of_le (Heap.lt_size e) (Nat.le_trans I.ok.bsz z)) (Nat.lt_irrefl _)
  refine ⟨ok, rfl, I.bare, Un.kept keep, ⟨fun _ => none, (Heap.Ns.new s.heap (.type "dict")).keeps (pushCells_keeps _ _), fun i x v e1 e2 e3 => ?_⟩, fun x c h => ?_, I.hok.fresh (Nat.le_refl _), fun x c h => ?_, fun p hp => ?_, I.hok.kept keep, ?_⟩
  · -- a name of the code around
    have hlen := I.len
    have hi : i < σ.length := by
      rcases Nat.lt_or_ge i σ.length with h | h
      · exact h
      · rw [List.getElem?_append_right h] at e2
        rw [List.getElem?_replicate] at e2
        split at e2 <;> cases e2
    rw [List.getElem?_append_left hi] at e2
    have hmem : ∃ k, (x, k) ∈ scope.names := by
      have : ∃ k, (relabel scope X.env).names.lookup x = some k := by
        rcases e3 with h | h | h <;> exact ⟨_, h⟩
      obtain ⟨k, h⟩ := this
      rcases relabel_mem h with h | ⟨h, _⟩ <;> exact ⟨_, h⟩
    have hfree := T.hid i x (by omega) e1 hmem
    have eX := T.same i x (by omega) e1 hfree
    have kX := T.free x hfree
    obtain ⟨m, hn, hl⟩ := I.loc
    obtain ⟨u, ru, lk⟩ := hl i x v eX e2 (by rcases kX with h | h; exact .inr (.inl h); exact .inr (.inr h))
    refine ⟨u, ru, .inr ⟨?_, ?_⟩⟩
    · -- its kind in the block
      have : ∃ k, (relabel scope X.env).names.lookup x = some k := by
        rcases e3 with h | h | h <;> exact ⟨_, h⟩
      obtain ⟨k, h⟩ := this
      rcases relabel_mem h with h' | ⟨h', e⟩
      · have e5 := lookup_mem T.nd h'
        have e6 := lookup_mem T.nd hfree
        rw [e5] at e6
        cases e6
        exact .inr h
      · subst e; exact .inl h
    · rcases lk with ⟨k1, _⟩ | ⟨_, c, hc, z⟩
      · rcases kX with h | h <;> rw [h] at k1 <;> cases k1
      · refine ⟨c, ?_, z.keeps keep⟩
        show (cellsFrom (s.heap.objs.size + 1) scope.names cl).lookup x = some c
        rw [eo, lookup_append fun p hp e => ?_]
        · obtain ⟨c', hc'⟩ := hfr x hfree
          obtain ⟨c2, hc2⟩ := lookup_ex hc'
          have := hcl _ (mem_of_lookup hc2)
          rw [hc] at this
          cases this
          exact hc2
        · have e5 := lookup_mem T.nd (o1 p hp).2
          rw [e] at e5
          have e6 := lookup_mem T.nd hfree
          rw [e5] at e6
          cases e6
  · have h : (own ++ cl).lookup x = some c := eo ▸ h
    rcases cases_ x c h with ⟨l1, m1⟩ | e1
    · exact ⟨none, (okc.empty x c (eown ▸ m1)).1⟩
    · obtain ⟨v, z⟩ := I.cell x c e1
      exact ⟨v, z.keeps keep⟩
  · have h : (own ++ cl).lookup x = some c := eo ▸ h
    rcases cases_ x c h with ⟨l1, m1⟩ | e1
    · exact I.hok.fresh (Nat.le_of_succ_le l1)
    · exact I.freeC x c e1
  · rw [List.append_nil] at hp
    obtain ⟨e, n, ne, nf, d⟩ := I.pin p hp
    refine ⟨keep _ _ e, n, Nat.ne_of_lt (Heap.lt_size e), fun z => ?_, d⟩
    rcases List.mem_cons.mp (I.stkSub p.1 z) with z | z
    · exact ne z
    · exact nf z
  · show (σ ++ List.replicate (N'.length - X.N.length) none).length = N'.length
    rw [List.length_append, List.length_replicate, I.len]
    have := T.len
    omega
/-- out of the block -/
theorem cy_end {σ1 : St} {H1 : Hp} {s1 : Shared} {h' : Heap} {pins1 : List (Addr × Obj)} (I : Inv X pins σ H s) (hf : ∀ b ∈ fp, FpOk X pins H b) (I1 : Inv (cyOf X N' scope cl s H fp pins) pins1 σ1 H1 s1) (hs : Heap.SameBut s.heap.objs.size s1.heap h') :
    Inv X pins σ H1 { s1 with heap := h' } := by
  have hC : ∀ b o, s.heap.get? b = some o → b ≠ s.heap.objs.size := fun b o e => Nat.ne_of_lt (Heap.lt_size e)
  have u := I1.base
  have u2 : Un (frs X.stack) fp H H1 s.heap h' := by
    refine ⟨fun b o e n hb hx => ?_, fun b o e n hb hx => ?_, u.free, fun b o e hx => ?_, u.tups, u.frzs, u.tbls⟩
    · rw [hs.2 b (hC b o e)]; exact u.keep b o e n hb hx
    · obtain ⟨sl, q⟩ := u.slot b o e n hb hx
      exact ⟨sl, by rw [hs.2 b (hC b o e)]; exact q⟩
    · obtain ⟨o', q⟩ := u.there b o e hx
      exact ⟨o', by rw [hs.2 b (hC b o e)]; exact q⟩
  have hCf : H1 s.heap.objs.size = none := I1.free
  refine I.call' (s' := { s1 with heap := h' }) I1.os u2 (fun b o e => ?_) I1.bare fun b hb => ⟨(hf b hb).2.2.2.1, (hf b hb).2.1, (hf b hb).2.2.2.2.1, (hf b hb).2.2.2.2.2⟩
  refine (I1.hok b o e).stay (fun c v hc q => (hs.2 c ?_).trans q) (fun _ q => q) fun _ _ q => q
  rintro rfl
  rcases hc with z | z
  · rw [← z, hCf] at e; cases e
  · rw [hCf] at z; cases z

def PIf (X : Cx) (ifs : List Expr) (t : TT) : Prop :=
  ∀ (pins : List (Addr × Obj)) (s : Shared) (σ : St) (H : Hp) (Q : Bool → Hp → Prop), Inv X pins σ H s → t σ H Q →
    wpAny (model X.prog X.w) X.A (forIn ifs true fun c r => if r = true then do let ok ← isTrue c X.env (eval c X.env); pure (ForInStep.yield ok) else pure (ForInStep.yield r)) (TP X pins σ Q) X.xe s
theorem pif_nil : PIf X [] (fun _ H Q => Q true H) := fun pins s σ H Q I h => wpAny_tests_nil ⟨H, I, h⟩
theorem pif_one {c : Expr} {t : TT} (h : PT X c t) : PIf X [c] t := fun pins s σ H Q I h' => wpAny_tests_one (h pins s σ H Q I h')
/-- what a comprehension reads: W is the invariant by the turn and a measure over the block's slots and the heap, in which the new list stands at p -/
def tLc (k : Nat) (wi : TI) (g : TG) (tt : TT) (te : TE) : TE := fun σ H Q => wi σ H fun J H1 => ∀ p, H1 p = none →
  ∃ W : Nat → Nat → St → Hp → Prop, (∃ m, W 0 m (σ ++ List.replicate k none) (upd H1 p (.lst []))) ∧ ∀ i m σ' H', W i m σ' H' →
    (J.stop i H' ∧ Q (.ref p) H') ∨ (J.go i H' ∧ ∀ x H2, J.yld i H' x H2 → g x σ' H2 fun σ2 H3 => tt σ2 H3 fun ok H4 => if ok = true then
      te σ2 H4 fun y H5 => ∃ ys, H5 p = some (.lst ys) ∧ ys.length < sizeLine ∧ ∃ m', m' < m ∧ W (i + 1) m' σ2 (upd H5 p (.lst (ys ++ [y])))
      else ∃ m', m' < m ∧ W (i + 1) m' σ2 H4)
theorem compLoop_any {prog : Program} {w : World} {A : Around} {R : Result → Shared → Prop} {s : Shared} {elt target iter : Expr} {ifs : List Expr} {scope : Scope} {pos : Pos} {it acc : Value} {env : Env} (I : Nat → Shared → Prop)
    (turn : ∀ n s, I n s → wpAny (model prog w) A (pyNext it) (fun r s₁ => match r with
      | none => R (.ok .next) s₁
      | some v => wpAny (model prog w) A (letOwnedTupleGo target it v) (fun _ s₁' => wpAny (model prog w) A (assign target env v) (fun _ s₂ =>
          wpAny (model prog w) A (forIn ifs true fun c r => if r = true then do let ok ← isTrue c env (eval c env); pure (ForInStep.yield ok) else pure (ForInStep.yield r)) (fun ok s₃ =>
            if ok = true then wpAny (model prog w) A (eval elt env) (fun x s₄ =>
              wpAny (model prog w) A (call (.builtin "list.append") [acc, x]) (fun _ s₅ => ∃ m, m < n ∧ I m s₅) (fun _ _ => False) s₄) (fun _ _ => False) s₃
            else ∃ m, m < n ∧ I m s₃) (fun _ _ => False) s₂) (fun _ _ => False) s₁') (fun _ _ => False) s₁) (fun _ _ => False) s)
    (n : Nat) (h : I n s) : codeAny (model prog w) A (.compLoop (.ListComp elt [⟨target, iter, ifs, 0⟩] scope pos) 0 it acc env) R s := by
  refine codeAny_loop rfl I (fun n s hI => ?_) n h
  show wpAny _ A ((compTurn (.ListComp elt [⟨target, iter, ifs, 0⟩] scope pos) 0 it acc env).onRaise (fun x => do noteFrame x env; theTreesLotGoes x)) _ _ s
  refine wpAny_noted ?_
  rw [compTurn_list]
  refine wpAny_bind (wpAny_standAt (wpAny_bind (wpAny_mono (turn n s hI) (fun r s₁ h₁ => ?_) fun _ _ h' => h'.elim)))
  cases r with
  | none => exact wpAny_pure h₁
  | some v =>
    refine wpAny_bind (wpAny_mono h₁ (fun _ s₁' h₁' => ?_) fun _ _ h' => h'.elim)
    refine wpAny_bind (wpAny_mono h₁' (fun _ s₂ h₂ => wpAny_bind (wpAny_mono h₂ (fun ok s₃ h₃ => ?_) fun _ _ h' => h'.elim)) fun _ _ h' => h'.elim)
    cases ok with
    | false => exact wpAny_pure ⟨rfl, h₃⟩
    | true =>
      exact wpAny_bind (wpAny_bind (wpAny_mono h₃ (fun x s₄ h₄ => wpAny_bind (wpAny_mono h₄ (fun _ s₅ h₅ => wpAny_pure (wpAny_pure ⟨rfl, h₅⟩)) fun _ _ h' => h'.elim)) fun _ _ h' => h'.elim))
/-- the block, run: what is left is to let its names go -/
theorem lc_block {elt iter tg : Expr} {ifs : List Expr} {pos : Pos} {g : TG} {tt : TT} {te : TE} {J : It} {it : Addr} {tn : Nat → Heap → Prop} {Q : VK} {E : Value → Shared → Prop} {RR : Value → Addr → Result → Shared → Prop}
    (hc : X.calm = true) (T : CyOk X N' scope) (hcl : ∀ p ∈ cl, X.env.cells.lookup p.1 = some p.2) (hfr : ∀ x, (x, NameKind.free) ∈ scope.names → ∃ c, (x, c) ∈ cl)
    (hg : ∀ cl s H fp pins, PG (cyOf X N' scope cl s H fp pins) tg g) (ht : ∀ cl s H fp pins, PIf (cyOf X N' scope cl s H fp pins) ifs tt) (he : ∀ cl s H fp pins, PE (cyOf X N' scope cl s H fp pins) elt te)
    (I : Inv X pins σ H s) (Tn : Turn X.prog X.w X.K tg J fp it tn) (st0 : tn 0 s.heap) (hf : ∀ b ∈ fp, FpOk X pins H b)
    (h : ∀ p, H p = none → ∃ W : Nat → Nat → St → Hp → Prop, (∃ m, W 0 m (σ ++ List.replicate (N'.length - X.N.length) none) (upd H p (.lst []))) ∧ ∀ i m σ' H', W i m σ' H' →
      (J.stop i H' ∧ Q (.ref p) H') ∨ (J.go i H' ∧ ∀ x H2, J.yld i H' x H2 → g x σ' H2 fun σ2 H3 => tt σ2 H3 fun ok H4 => if ok = true then
        te σ2 H4 fun y H5 => ∃ ys, H5 p = some (.lst ys) ∧ ys.length < sizeLine ∧ ∃ m', m' < m ∧ W (i + 1) m' σ2 (upd H5 p (.lst (ys ++ [y])))
        else ∃ m', m' < m ∧ W (i + 1) m' σ2 H4))
    (hRR : ∀ p C s1 H1, Inv X pins σ H1 s1 → Q (.ref p) H1 → (∃ m, s1.heap.Ns C m) → H1 C = none → s.heap.objs.size ≤ C → RR (.ref p) C (.ok .next) s1) :
    wpAny (model X.prog X.w) X.A (newList []) (fun acc s₃ => wpAny (model X.prog X.w) X.A (newFunctionEnv scope X.env.globals cl [] X.env.qual none .none (some X.env)) (fun cenv s₄ =>
      codeAny (model X.prog X.w) X.A (.compStart (.ListComp elt [⟨tg, iter, ifs, 0⟩] scope pos) 0 (.ref it) acc { cenv with scope := relabel scope X.env }) (RR acc cenv.locals) s₄) E s₃) E s := by
  refine wpAny_newObj_type (nfe_comp ?_)
  have hp : H s.heap.objs.size = none := I.fresh
  obtain ⟨W, ⟨m0, w0⟩, turn⟩ := h _ hp
  have I2 : Inv X pins σ (upd H s.heap.objs.size (.lst [])) { s with heap := s.heap.push { cls := .type "list", data := .seq ([] : List Value).toArray } } := Inv.lnew (t' := s.toks) (its := []) (ys := []) I .nil (Nat.zero_le _)
  have hf2 : ∀ b ∈ fp, FpOk X pins (upd H s.heap.objs.size (.lst [])) b := fun b hb => by
    obtain ⟨o, e, _⟩ := Tn.obj _ _ st0 b hb
    exact ⟨by rw [upd_ne (Nat.ne_of_lt (Heap.lt_size e))]; exact (hf b hb).1, (hf b hb).2⟩
  have ho2 : ∀ b ∈ fp, ∃ o, (s.heap.push { cls := .type "list", data := .seq ([] : List Value).toArray } : Heap).get? b = some o := fun b hb => by
    obtain ⟨o, e, _⟩ := Tn.obj _ _ st0 b hb
    exact ⟨o, Heap.get?_push_of_some _ e⟩
  have I3 := cy_start T I2 hcl hfr hf2 ho2
  have st3 : tn 0 (pushCells ((s.heap.push { cls := .type "list", data := .seq ([] : List Value).toArray }).push { cls := .type "dict", data := .dict #[] }) scope.names) :=
    Tn.keep _ _ _ st0 fun b hb o e => pushCells_keeps _ _ b o (Heap.get?_push_of_some _ (Heap.get?_push_of_some _ e))
  generalize hs2 : ({ s with heap := s.heap.push { cls := .type "list", data := .seq ([] : List Value).toArray } } : Shared) = s2 at I2 I3
  have hC : s.heap.objs.size ≤ s2.heap.objs.size := by rw [← hs2]; exact Nat.le_of_lt (by show _ < (s.heap.push _).objs.size; rw [Heap.size_push]; exact Nat.lt_succ_self _)
  have stat : ∀ {H' : Hp}, (∀ b ∈ fp, H' b = none) → ∀ b ∈ fp, FpOk (cyOf X N' scope cl s2 (upd H s.heap.objs.size (.lst [])) fp pins) [] H' b := fun {H'} hn b hb => by
    refine ⟨hn b hb, (I3.ok.exf b hb).1, I3.ok.exfs b hb, .inl hb, (I3.ok.exf b hb).2, fun p hp => ?_⟩
    rw [List.append_nil] at hp
    exact (hf b hb).2.2.2.2.2 p hp
  have loop : ∀ s4, s4 = ({ s2 with heap := pushCells (s2.heap.push { cls := .type "dict", data := .dict #[] }) scope.names } : Shared) →
      codeAny (model X.prog X.w) X.A (.compLoop (.ListComp elt [⟨tg, iter, ifs, 0⟩] scope pos) 0 (.ref it) (.ref s.heap.objs.size) (cyOf X N' scope cl s2 (upd H s.heap.objs.size (.lst [])) fp pins).env) (RR (.ref s.heap.objs.size) s2.heap.objs.size) s4 := by
    rintro s4 rfl
    refine compLoop_any (fun n s' => ∃ i σ' H', Inv (cyOf X N' scope cl s2 (upd H s.heap.objs.size (.lst [])) fp pins) [] σ' H' s' ∧ tn i s'.heap ∧ (∀ b ∈ fp, H' b = none) ∧ W i n σ' H') ?_ m0
      ⟨0, _, _, I3, by subst hs2; exact st3, fun b hb => (hf2 b hb).1, w0⟩
    rintro n s3 ⟨i, σ3, H3, I4, st4, fr4, w4⟩
    rcases turn i n σ3 H3 w4 with ⟨stop, qn⟩ | ⟨go, step⟩
    · refine thn (Tn.done (cyOf X N' scope cl s2 (upd H s.heap.objs.size (.lst [])) fp pins) rfl rfl rfl hc i [] s3 σ3 H3 (fun _ _ => False) I4 (stat fr4) st4 stop) fun r s5 ⟨hr, I5⟩ => ?_
      subst hr
      obtain ⟨m, hn, _⟩ := I5.loc
      exact hRR _ _ s5 H3 (cy_end I2 hf2 I5 (Heap.SameBut.refl _ _)) qn ⟨m, hn⟩ I5.free hC
    · refine thn (Tn.item (cyOf X N' scope cl s2 (upd H s.heap.objs.size (.lst [])) fp pins) rfl rfl rfl hc i [] s3 σ3 H3 (fun _ _ => False) I4 (stat fr4) st4 go) fun r s5 ⟨u, hr, h5⟩ => ?_
      subst hr
      refine thn h5 fun _ s6 ⟨x, H6, I6, r6, y6, st6, fr6⟩ => ?_
      have I6' := I6.pinned (stat fr6) (Tn.obj _ _ st6)
      have again : ∀ {σ7 : St} {H7 : Hp} {s7 : Shared} {m' : Nat}, Inv (cyOf X N' scope cl s2 (upd H s.heap.objs.size (.lst [])) fp pins) ([] ++ pinsAt fp s6.heap) σ7 H7 s7 → m' < n → W (i + 1) m' σ7 H7 →
          ∃ m, m < n ∧ ∃ i σ' H', Inv (cyOf X N' scope cl s2 (upd H s.heap.objs.size (.lst [])) fp pins) [] σ' H' s7 ∧ tn i s7.heap ∧ (∀ b ∈ fp, H' b = none) ∧ W i m σ' H' := fun {σ7 H7 s7 m'} I7 hm w7 => by
        refine ⟨m', hm, i + 1, σ7, H7, I7.unpinned, Tn.keep _ _ _ st6 fun b hb o e => (I7.pin (b, o) (List.mem_append_right _ (List.mem_append_right _ (mem_pinsAt hb e)))).1, fun b hb => ?_, w7⟩
        obtain ⟨o, e, d⟩ := Tn.obj _ _ st6 b hb
        exact (I7.pin (b, o) (List.mem_append_right _ (List.mem_append_right _ (mem_pinsAt hb e)))).2.1
      refine thn (hg _ _ _ _ _ _ s6 σ3 H6 x u _ I6' r6 (step x H6 y6)) fun _ s7 ⟨σ7, H7, I7, q7⟩ => ?_
      refine thn (ht _ _ _ _ _ _ s7 σ7 H7 _ I7 q7) fun ok s8 ⟨H8, I8, q8⟩ => ?_
      cases ok with
      | false =>
        simp only [Bool.false_eq_true, if_false] at q8 ⊢
        obtain ⟨m', hm, w8⟩ := q8
        exact again I8 hm w8
      | true =>
        simp only [if_true] at q8 ⊢
        refine thn (he _ _ _ _ _ _ s8 σ7 H8 _ I8 q8) fun y s9 ⟨yv, H9, I9, r9, ys, e9, l9, m', hm, w9⟩ => ?_
        refine thn (mt_append _ s9 σ7 H9 (.ref s.heap.objs.size) [yv] (.ref s.heap.objs.size) [y] (fun _ H' => H' = upd H9 s.heap.objs.size (.lst (ys ++ [yv]))) I9 rfl (.cons r9 .nil) ⟨_, ys, yv, rfl, rfl, e9, l9, rfl⟩) fun _ s10 ⟨_, H10, I10, _, e10⟩ => ?_
        subst e10
        exact again I10 hm w9
  have st5 : tn 0 (pushCells (s2.heap.push { cls := .type "dict", data := .dict #[] }) scope.names) := by subst hs2; exact st3
  have fin := codeAny_compStart_list (loop _ rfl) (Tn.self X.A 0 _ _ (notedBy (model X.prog X.w) X.A (cyOf X N' scope cl s2 (upd H s.heap.objs.size (.lst [])) fp pins).env fun x s' => RR (.ref s.heap.objs.size) s2.heap.objs.size (.error x) s') st5 (loop _ rfl))
  subst hs2
  exact fin
end
end L2
namespace L2
open PySem PySem.Spec PyProof.Rows
section
variable {X : Cx} {N' : List Str} {scope : Scope} {pins : List (Addr × Obj)} {σ : St} {elt iter tg : Expr} {ifs : List Expr} {pos : Pos} {wi : TI} {g : TG} {tt : TT} {te : TE}
theorem lc_names (T : CyOk X N' scope) : ∀ x ∈ scope.names, x.2 = .local → scope.names.lookup x.1 = some .local := fun x hx e => by
  obtain ⟨n, k⟩ := x
  cases e
  exact lookup_mem T.nd hx
theorem pe_lc (hc : X.calm = true) (T : CyOk X N' scope) (hi : PI X tg iter wi) (hg : ∀ cl s H fp pins, PG (cyOf X N' scope cl s H fp pins) tg g) (ht : ∀ cl s H fp pins, PIf (cyOf X N' scope cl s H fp pins) ifs tt)
    (he : ∀ cl s H fp pins, PE (cyOf X N' scope cl s H fp pins) elt te) (hs : ∀ x, foldedSetIterable iter X.env x = pure x := by intro _; rfl) :
    PE X (.ListComp elt [⟨tg, iter, ifs, 0⟩] scope pos) (tLc (N'.length - X.N.length) wi g tt te) := by
  intro pins s σ H Q I h
  obtain ⟨cl, hclos, hcl, hfr⟩ := closure_ok (scope := scope) (env := X.env) fun x hx => I.ok.has x (T.free x hx)
  rw [eval_ListComp]
  refine wpAny_comprehension_free (use := none) rfl hs hclos T.kind (lc_names T) (wpAny_mono (hi pins s σ H _ I h) (fun xv s1 h1 => wpAny_mono h1 (fun itv s2 h2 => ?_) fun _ _ e => e) fun _ _ e => e)
  obtain ⟨it, fp, tn, J, H2, rfl, I2, Tn, st2, f2, R⟩ := h2
  refine lc_block (Q := Q) (RR := fun acc C => compPost (model X.prog X.w) X.A X.xe none (EP X pins σ Q) acc C) hc T hcl hfr hg ht he I2 Tn st2 f2 R ?_
  intro p C s3 H3 I3 q ⟨m, hn⟩ hC hle
  refine ⟨m, hn, fun h' hs' => ⟨.ref p, H3, ?_, rfl, q⟩⟩
  refine I3.turned (t' := s3.toks) (it := C) (fun b o hb e => (hs'.2 b hb).trans e) hC ?_ (.inr (Nat.le_trans I2.sz hle)) (fun x c e => ?_) fun p hp => ?_
  · exact Ne.symm (Nat.ne_of_lt (Nat.lt_of_lt_of_le I2.lt hle))
  · obtain ⟨v, z⟩ := I2.cell x c e
    exact Nat.ne_of_lt (Nat.lt_of_lt_of_le z.lt hle)
  · exact Nat.ne_of_lt (Nat.lt_of_lt_of_le (Heap.lt_size (I2.pin p hp).1) hle)
/-- name = [..] on one line -/
theorem ps_set_lc {i : Nat} {y : Str} {py spos : Pos} (hN : X.N.Nodup) (hiN : X.N[i]? = some y) (hx : Loc X.env.scope y) (hsw : swapsWith (.ListComp elt [⟨tg, iter, ifs, 0⟩] scope pos) (some (.Name y py)) spos.line X.env = pure true)
    (hc : X.calm = true) (T : CyOk X N' scope) (hi : PI X tg iter wi) (hg : ∀ cl s H fp pins, PG (cyOf X N' scope cl s H fp pins) tg g) (ht : ∀ cl s H fp pins, PIf (cyOf X N' scope cl s H fp pins) ifs tt)
    (he : ∀ cl s H fp pins, PE (cyOf X N' scope cl s H fp pins) elt te) (hs : ∀ x, foldedSetIterable iter X.env x = pure x := by intro _; rfl) (hf : X.fn y = true ∨ X.env.scope.names.lookup y = some .local := by first | exact .inl rfl | exact .inr rfl | assumption) :
    PS X (.Assign [.Name y py] (.ListComp elt [⟨tg, iter, ifs, 0⟩] scope pos) spos) (tAsg (tLc (N'.length - X.N.length) wi g tt te) (gName i)) := by
  intro pins s σ H D I h
  obtain ⟨cl, hclos, hcl, hfr⟩ := closure_ok (scope := scope) (env := X.env) fun x hx => I.ok.has x (T.free x hx)
  rw [exec_Assign_Name_used _ _ _ _ hsw]
  refine wpAny_bind (wpAny_standAt (wpAny_bind ?_))
  show wpAny _ X.A (do let _ ← comprehension (.ListComp elt [⟨tg, iter, ifs, 0⟩] scope pos) scope X.env _ (newList []) false (eval iter X.env) (some (assign (.Name y py) X.env))) _ _ s
  refine wpAny_bind (wpAny_mono (wpAny_comprehension_free (use := some (assign (.Name y py) X.env)) (Q := fun _ s' => SP X pins D .next s') rfl hs hclos T.kind (lc_names T)
    (wpAny_mono (hi pins s σ H _ I h) (fun xv s1 h1 => wpAny_mono h1 (fun itv s2 h2 => ?_) fun _ _ e => e) fun _ _ e => e)) (fun _ s' hq => wpAny_pure (wpAny_pure hq)) fun _ _ e => e)
  obtain ⟨it, fp, tn, J, H2, rfl, I2, Tn, st2, f2, R⟩ := h2
  refine lc_block (Q := fun x H1 => gName i x σ H1 D.nx) (RR := fun acc C => compPost (model X.prog X.w) X.A X.xe (some (assign (.Name y py) X.env)) (fun _ s' => SP X pins D .next s') acc C) hc T hcl hfr hg ht he I2 Tn st2 f2 R ?_
  intro p C s3 H3 I3 q ⟨m, hn⟩ hC hle
  have hCL : C ≠ X.env.locals := Ne.symm (Nat.ne_of_lt (Nat.lt_of_lt_of_le I2.lt hle))
  have hCc : ∀ x c, X.env.cells.lookup x = some c → c ≠ C := fun x c e => by
    obtain ⟨v, z⟩ := I2.cell x c e
    exact Nat.ne_of_lt (Nat.lt_of_lt_of_le z.lt hle)
  show wpAny _ X.A (assign (.Name y py) X.env (.ref p)) _ _ _
  refine wpAny_assign_Name (store_ok2 (v := .ref p) I3 hN hiN hx rfl (fun s4 I4 ⟨a, sb, ha⟩ => ?_) hf)
  have hne : C ≠ a := by
    rcases ha with e | e
    · rw [e]; exact hCL
    · exact (hCc _ _ e).symm
  refine ⟨m, hn.sameBut sb hne, fun h' hs' => ⟨_, H3, ?_, q⟩⟩
  refine I4.turned (t' := s4.toks) (it := C) (fun b o hb e => (hs'.2 b hb).trans e) hC hCL (.inr (Nat.le_trans I2.sz hle)) hCc fun p hp => ?_
  exact Nat.ne_of_lt (Nat.lt_of_lt_of_le (Heap.lt_size (I2.pin p hp).1) hle)
theorem PI_imp {t t' : TI} (h : PI X tg iter t) (i : ∀ σ H R, t' σ H R → t σ H R) : PI X tg iter t' := fun pins s σ H R I h' => h pins s σ H R I (i σ H R h')
end
end L2
namespace DD
open PySem PySem.Spec PyProof.Rows L2
/-! ### what is walked, at data -/
/-- at each turn the item's data, shared -/
structure ItD (K : PySem.W.Frag) (J : It) (xs : List D) (F : Addr → Prop) (H : Hp) : Prop where
  item : ∀ i d F1 H1, Ext F H F1 H1 → (∀ a, F1 a → ∃ o, H1 a = some o) → xs[i]? = some d → J.go i H1 ∧ ∀ x H2, J.yld i H1 x H2 → ∃ F2, Grow F1 H1 F2 H2 ∧ Ow K F2 H2 d x []
  done : ∀ F1 H1, Ext F H F1 H1 → J.stop xs.length H1
abbrev DI := DSt → Option (List D × DSt)
def rIt (K : PySem.W.Frag) (c : DI) : TI := fun σ H R => ∃ F Ro σD xs σD', Rel K F H σD σ Ro ∧ c σD = some (xs, σD') ∧ ∀ F' H' J, Ext F H F' H' → Rel K F' H' σD' σ Ro → ItD K J xs F' H' → R J H'
def QI (X : Cx) (tg iter : Expr) (c : DI) : Prop := PI X tg iter (rIt X.K c)
def iLst (c : DE) : DI := fun σ => (c σ).bind fun p => match p.1 with | .lst _ xs => some (D.fzL xs, p.2) | _ => none
def iTupD (c : DE) : DI := fun σ => (c σ).bind fun p => match p.1 with | .tup xs => some (D.fzL xs, p.2) | _ => none
def iR1 (c : DA) : DI := fun σ => (c σ).bind fun p => match p.1 with | [.int j] => if rOk j = true then some (rngD 0 j, p.2) else none | _ => none
def iR2 (c : DA) : DI := fun σ => (c σ).bind fun p => match p.1 with | [.int i, .int j] => if (rOk i && rOk j) = true then some (rngD i j, p.2) else none | _ => none
section
variable {X : Cx} {tg e a b : Expr} {c : DE} {ca : DA} {p1 pos1 : Pos}
theorem itd_range {K : PySem.W.Frag} {F : Addr → Prop} {H : Hp} {lo hi : Int} : ItD K (Itr lo (hi - lo).toNat) (rngD lo hi) F H where
  item := fun i d F1 H1 _ _ e => by
    have hl : (rngD lo hi).length = (hi - lo).toNat := by simp [rngD]
    have hi' : i < (hi - lo).toNat := by rw [← hl]; exact (List.getElem?_eq_some_iff.mp e).1
    have ed : d = .int (lo + i) := by
      unfold rngD at e
      rw [List.getElem?_map, List.getElem?_range hi'] at e
      exact (Option.some.inj e).symm
    subst ed
    exact ⟨hi', fun x H2 ⟨e1, e2⟩ => by subst e1; subst e2; exact ⟨F1, Grow.refl, Ow.of_sc rfl⟩⟩
  done := fun F1 H1 _ => by show (hi - lo).toNat ≤ (rngD lo hi).length; simp [rngD]
theorem qi_r1 (hgl : Gl X "range") (hm : X.mg "range" = none) (ha : QA X [a] ca) (hs : starEach [a] X.env = [(false, eval a X.env)] := by rfl) : QI X tg (.Call (.Name "range" p1) [a] [] pos1) (iR1 ca) :=
  PI_imp (pi_range1 hgl hm ha hs) fun σ H R ⟨F, Ro, σD, xs, σD', r, ec, k⟩ => by
    unfold iR1 at ec
    rcases h : ca σD with _ | ⟨ys, σ1⟩
    · rw [h] at ec; cases ec
    · rw [h] at ec; simp only [Option.bind_some] at ec
      refine ⟨F, Ro, σD, ys, σ1, r, h, fun F1 H1 vs x1 hl r1 => ?_⟩
      split at ec
      · rename_i j
        split at ec
        · rename_i hj
          cases ec
          match vs, hl with
          | [v], _ =>
            have hv : v = .int j := (r1.bor (d := .int j) (v := v) (by simp)).int
            subst hv
            unfold rOk at hj
            simp only [decide_eq_true_eq] at hj
            have q : ItD X.K (Itr 0 (j - 0).toNat) (rngD 0 j) F1 H1 := itd_range
            rw [Int.sub_zero] at q
            exact ⟨j, rfl, hj.1, hj.2, k F1 H1 _ x1 (r1.popN (S := [(D.int j, V.int j)])) q⟩
        · cases ec
      · cases ec
theorem qi_r2 (hgl : Gl X "range") (hm : X.mg "range" = none) (ha : QA X [a, b] ca) (hs : starEach [a, b] X.env = [(false, eval a X.env), (false, eval b X.env)] := by rfl) (hs2 : starEach [b] X.env = [(false, eval b X.env)] := by rfl) : QI X tg (.Call (.Name "range" p1) [a, b] [] pos1) (iR2 ca) :=
  PI_imp (pi_range2 hgl hm ha hs hs2) fun σ H R ⟨F, Ro, σD, xs, σD', r, ec, k⟩ => by
    unfold iR2 at ec
    rcases h : ca σD with _ | ⟨ys, σ1⟩
    · rw [h] at ec; cases ec
    · rw [h] at ec; simp only [Option.bind_some] at ec
      refine ⟨F, Ro, σD, ys, σ1, r, h, fun F1 H1 vs x1 hl r1 => ?_⟩
      split at ec
      · rename_i i j
        split at ec
        · rename_i hj
          cases ec
          match vs, hl with
          | [v, u], _ =>
            have hv : v = .int i := (r1.bor (d := .int i) (v := v) (by simp)).int
            have hu : u = .int j := (r1.bor (d := .int j) (v := u) (by simp)).int
            subst hv; subst hu
            unfold rOk at hj
            simp only [Bool.and_eq_true, decide_eq_true_eq] at hj
            exact ⟨i, j, rfl, ⟨hj.1.1, hj.1.2, hj.2.1, hj.2.2⟩, k F1 H1 _ x1 (r1.popN (S := [(D.int i, V.int i), (D.int j, V.int j)])) itd_range⟩
        · cases ec
      · cases ec
theorem itd_list {K : PySem.W.Frag} {F : Addr → Prop} {H : Hp} {xs : List D} {a : Addr} {vs : List V} (fl : FL K F H a vs) (ol : OwL K F H xs vs []) : ItD K (Itl K a) xs F H where
  item := fun i d F1 H1 x1 _ e => by
    obtain ⟨w, La, Lx, Lb, e1, eL, o, _⟩ := ol.kid e
    have eLx : Lx = [] := (List.append_eq_nil_iff.mp (List.append_eq_nil_iff.mp eL.symm).1).2
    subst eLx
    refine ⟨⟨vs, w, (fl.ext x1).sq, e1⟩, fun x H2 ⟨e2, hx⟩ => ?_⟩
    subst e2
    have := hx vs (fl.ext x1).sq
    rw [e1] at this
    cases this
    exact ⟨F1, Grow.refl, o.mono x1 (fun a ha => by cases ha)⟩
  done := fun F1 H1 x1 => ⟨vs, (fl.ext x1).sq, by rw [ol.length]; exact Nat.le_refl _⟩
theorem itd_tup {K : PySem.W.Frag} {F : Addr → Prop} {H : Hp} {xs : List D} {a : Addr} {vs : List V} {L0 : List Addr} (fl : FT K F H a vs L0) (ol : OwL K F H xs vs []) : ItD K (Itt K a) xs F H where
  item := fun i d F1 H1 x1 _ e => by
    obtain ⟨w, La, Lx, Lb, e1, eL, o, _⟩ := ol.kid e
    have eLx : Lx = [] := (List.append_eq_nil_iff.mp (List.append_eq_nil_iff.mp eL.symm).1).2
    subst eLx
    refine ⟨⟨vs, w, (fl.ext x1).sq, e1⟩, fun x H2 ⟨e2, hx⟩ => ?_⟩
    subst e2
    have := hx vs (fl.ext x1).sq
    rw [e1] at this
    cases this
    exact ⟨F1, Grow.refl, o.mono x1 (fun a ha => by cases ha)⟩
  done := fun F1 H1 x1 => ⟨vs, (fl.ext x1).sq, by rw [ol.length]; exact Nat.le_refl _⟩
theorem qi_lst (he : QE X e c) : QI X tg e (iLst c) := PI_imp (pi_list he) fun σ H R ⟨F, Ro, σD, xs, σD', r, ec, k⟩ => by
  unfold iLst at ec
  rcases h : c σD with _ | ⟨d, σ1⟩
  · rw [h] at ec; cases ec
  · rw [h] at ec; simp only [Option.bind_some] at ec
    refine ⟨F, Ro, σD, d, σ1, r, h, fun F1 H1 v x1 r1 => ?_⟩
    split at ec
    · cases ec
      obtain ⟨F2, x2, r2, o2⟩ := r1.freeze
      simp only [D.fz, Ow] at o2
      obtain ⟨a, vs, rfl, fl, ol, _⟩ := o2
      exact ⟨a, rfl, ⟨vs, fl.sq⟩, k F2 H1 _ (x1.trans x2) r2.pop (itd_list fl ol)⟩
    · cases ec
theorem qi_tup (he : QE X e c) : QI X tg e (iTupD c) := PI_imp (pi_tup he) fun σ H R ⟨F, Ro, σD, xs, σD', r, ec, k⟩ => by
  unfold iTupD at ec
  rcases h : c σD with _ | ⟨d, σ1⟩
  · rw [h] at ec; cases ec
  · rw [h] at ec; simp only [Option.bind_some] at ec
    refine ⟨F, Ro, σD, d, σ1, r, h, fun F1 H1 v x1 r1 => ?_⟩
    split at ec
    · cases ec
      obtain ⟨F2, x2, r2, o2⟩ := r1.freeze
      simp only [D.fz, Ow] at o2
      obtain ⟨a, vs, rfl, fl, ol⟩ := o2
      exact ⟨a, rfl, ⟨vs, fl.sq⟩, k F2 H1 _ (x1.trans x2) r2.pop (itd_tup fl ol)⟩
    · cases ec
end
/-! ### for over anything -/
def sForI (c : DI) (g : DG) (b : DS) : DS := fun σ => (c σ).bind fun p => dLoop g b p.1 p.2
section
variable {X : Cx} {e tg : Expr} {g : DG} {s : DS} {pos : Pos} {W W' : List Nat} {body : List Stmt}
theorem it_loop {F : Addr → Prop} {H : Hp} {R : Ro} {σD : DSt} {σ : St} {xs : List D} {J : It} {En : Ends} {o : Out} (r : Rel X.K F H σD σ R) (j : ItD X.K J xs F H) (h : dLoop g s xs σD = some o)
    (k : ∀ F' H' σ', Ext F H F' H' → Kp (W ++ W') σ σ' → Th X.K En R F' H' σ' o) :
    ∃ W1 : Nat → Nat → St → Hp → Prop, (∃ m, W1 0 m σ H) ∧ ∀ i m σ H, W1 i m σ H →
      (J.stop i H ∧ En.nx σ H) ∨ (J.go i H ∧ ∃ N : St → Hp → Prop, (∀ σ' H', N σ' H' → ∃ m', m' < m ∧ W1 (i + 1) m' σ' H') ∧ ∀ x H', J.yld i H x H' → rG X.K g W x σ H' fun σ2 H2 => rS X.K s W' { En with nx := N, ct := N, bk := En.nx } σ2 H2) := by
  refine ⟨fun i m σ1 H1 => m = xs.length - i ∧ i ≤ xs.length ∧ ∃ F1 σD1, Ext F H F1 H1 ∧ Kp (W ++ W') σ σ1 ∧ Rel X.K F1 H1 σD1 σ1 R ∧ dLoop g s (xs.drop i) σD1 = some o, ⟨_, rfl, Nat.zero_le _, F, σD, Ext.refl, Kp.refl, r, by simpa using h⟩, ?_⟩
  rintro i m σ1 H1 ⟨rfl, hle, F1, σD1, x1, kp1, r1, h1⟩
  rcases Nat.lt_or_ge i xs.length with hi | hi
  · right
    obtain ⟨go, yl⟩ := j.item i _ F1 H1 x1 r1.g.dom (List.getElem?_eq_getElem hi)
    refine ⟨go, fun σ' H' => ∃ F1 σD1, Ext F H F1 H' ∧ Kp (W ++ W') σ σ' ∧ Rel X.K F1 H' σD1 σ' R ∧ dLoop g s (xs.drop (i + 1)) σD1 = some o, fun σ' H' q => ⟨xs.length - (i + 1), by omega, rfl, hi, q⟩, fun x H2 hy => ?_⟩
    obtain ⟨F2, gr, ox⟩ := yl x H2 hy
    rw [List.drop_eq_getElem_cons hi] at h1
    exact turn_of (R := R) (R0 := R) (W := W) (W' := W') (fun _ _ _ _ _ _ h => h) ((r1.grow gr).push ox) (x1.trans gr.x) kp1 h1 k fun F3 H3 σD3 σ3 x3 kp3 r3 h3 => ⟨F3, σD3, (x1.trans gr.x).trans x3, kp3, r3, h3⟩
  · left
    have ei : i = xs.length := Nat.le_antisymm hle hi
    subst ei
    rw [List.drop_length] at h1
    simp only [dLoop] at h1
    cases h1
    exact ⟨j.done F1 H1 x1, k F1 H1 σ1 x1 kp1 r1⟩
theorem qs_forI {c : DI} (hc : X.calm = true) (hi : QI X tg e c) (hg : QG X tg g W) (hb : QSs X body s W') (hp : PassesOwn (model X.prog X.w) X.A X.env X.xe) (hf : ∀ x, foldedSetIterable e X.env x = pure x := by intro _; rfl) : QS X (.For tg e body [] pos) (sForI c g s) (W ++ W') :=
  PS_imp (ps_for hp hc hi hg hb hf) fun En σ H ⟨F, R, σD, o, r, ec, k⟩ => by
    unfold sForI at ec
    rcases h : c σD with _ | ⟨xs, σ1⟩
    · rw [h] at ec; cases ec
    · rw [h] at ec; simp only [Option.bind_some] at ec
      refine ⟨F, R, σD, xs, σ1, r, h, fun F1 H1 J x1 r1 j => ?_⟩
      exact it_loop (X := X) (W := W) (W' := W') (g := g) (s := s) (En := En) r1 j ec fun F2 H2 σ2 x2 kp => k F2 H2 σ2 (x1.trans x2) kp
end
/-! ### comprehensions at data -/
def lcGo (g : DG) (t : DT) (c : DE) : List D → DSt → Option (List D × DSt)
  | [], σ => some ([], σ)
  | x :: xs, σ => (g x σ).bind fun σ1 => (t σ1).bind fun p => if p.1 = true then (c p.2).bind fun q => (lcGo g t c xs q.2).map fun r => (q.1 :: r.1, r.2) else lcGo g t c xs p.2
def dLc (k : Nat) (i : DI) (g : DG) (t : DT) (c : DE) : DE := fun σ => (i σ).bind fun p => if p.1.length ≤ sizeLine then (lcGo g t c p.1 (p.2 ++ List.replicate k none)).map fun r => (.lst true r.1, r.2.take p.2.length) else none
def tTrue : DT := fun σ => some (true, σ)
def QIf (X : Cx) (ifs : List Expr) (t : DT) : Prop := PIf X ifs (rT X.K t)
section
variable {X : Cx} {e tg elt iter : Expr} {ifs : List Expr} {g : DG} {t : DT} {c : DE} {i : DI} {pos : Pos} {W : List Nat} {N' : List Str} {scope : Scope}
theorem qif_nil : QIf X [] tTrue := fun pins s σ H Q I ⟨F, R, σD, b, σD', r, ec, k⟩ => pif_nil pins s σ H Q I (by cases ec; exact k F H Ext.refl r)
theorem qif_one (h : QT X e t) : QIf X [e] t := pif_one h
theorem Rel.ext0 {K : PySem.W.Frag} {F : Addr → Prop} {H : Hp} {σD : DSt} {σ : St} {R : Ro} {k : Nat} (r : Rel K F H σD σ R) : Rel K F H (σD ++ List.replicate k none) (σ ++ List.replicate k none) R := by
  have hm : ∀ {σD : DSt} {σ : St}, Mt σD σ → Mt (σD ++ List.replicate k none) (σ ++ List.replicate k none) ∧ sl (σD ++ List.replicate k none) (σ ++ List.replicate k none) = sl σD σ := by
    intro σD
    induction σD with
    | nil => intro σ h; cases σ with | nil => exact ⟨mt_none, sl_none'⟩ | cons _ _ => cases h
    | cons o σD ih =>
      intro σ h
      cases σ with
      | nil => cases o <;> cases h
      | cons v σ =>
        cases o with
        | none => exact ih (σ := σ) h
        | some d =>
          cases v with
          | none => cases h
          | some v =>
            have q := ih (σ := σ) h
            exact ⟨q.1, congrArg ((d, v) :: ·) q.2⟩
  obtain ⟨h1, h2⟩ := hm r.mt
  exact ⟨h1, by rw [h2]; exact r.g⟩
theorem Rel.cut {K : PySem.W.Frag} {F : Addr → Prop} {H : Hp} {R : Ro} : ∀ {σD : DSt} {σ σ0 : St} {n : Nat}, σ0.length = n → σ.take n = σ0 → Rel K F H σD σ R → Rel K F H (σD.take n) σ0 R := by
  intro σD σ σ0 n hn he r
  subst he
  have hm : ∀ {σD : DSt} {σ : St} (n : Nat), Mt σD σ → Mt (σD.take n) (σ.take n) ∧ ∃ S, (sl σD σ) = sl (σD.take n) (σ.take n) ++ S := by
    intro σD
    induction σD with
    | nil => intro σ n h; cases σ with | nil => simp [Mt, sl] | cons _ _ => cases h
    | cons o σD ih =>
      intro σ n h
      cases σ with
      | nil => cases o <;> cases h
      | cons v σ =>
        cases n with
        | zero => exact ⟨trivial, _, rfl⟩
        | succ n =>
          cases o with
          | none => exact ih (σ := σ) n h
          | some d =>
            cases v with
            | none => cases h
            | some v =>
              obtain ⟨h1, S, h2⟩ := ih (σ := σ) n h
              refine ⟨h1, S, ?_⟩
              show (d, v) :: sl σD σ = (d, v) :: sl (σD.take n) (σ.take n) ++ S
              rw [h2]; rfl
  obtain ⟨h1, S, h2⟩ := hm n r.mt
  refine ⟨h1, ?_⟩
  have g := r.g
  rw [h2] at g
  have g2 : G K F H (S ++ (sl (σD.take n) (σ.take n) ++ R)) := g.perm (by rw [List.append_assoc]; exact List.perm_append_comm_assoc _ _ _)
  exact g2.popN
theorem lc_go {F : Addr → Prop} {H : Hp} {R : Ro} {σD σD' : DSt} {σ : St} {xs ys : List D} {J : It} {k : Nat} {Q : VK} (r : Rel X.K F H σD σ R) (j : ItD X.K J xs F H) (hz : xs.length ≤ sizeLine) (hw : ∀ i ∈ W, σ.length ≤ i)
    (h : lcGo g t c xs (σD ++ List.replicate k none) = some (ys, σD')) (kk : ∀ F' H' v, Ext F H F' H' → Rel X.K F' H' (σD'.take σD.length) σ ((.lst true ys, v) :: R) → Q v H') (p : Addr) (hp : H p = none) :
    ∃ W1 : Nat → Nat → St → Hp → Prop, (∃ m, W1 0 m (σ ++ List.replicate k none) (upd H p (.lst []))) ∧ ∀ i m σ' H', W1 i m σ' H' →
      (J.stop i H' ∧ Q (.ref p) H') ∨ (J.go i H' ∧ ∀ x H2, J.yld i H' x H2 → rG X.K g W x σ' H2 fun σ2 H3 => rT X.K t σ2 H3 fun ok H4 => if ok = true then
        rE X.K c σ2 H4 fun y H5 => ∃ ys, H5 p = some (.lst ys) ∧ ys.length < sizeLine ∧ ∃ m', m' < m ∧ W1 (i + 1) m' σ2 (upd H5 p (.lst (ys ++ [y])))
        else ∃ m', m' < m ∧ W1 (i + 1) m' σ2 H4) := by
  have hlen := r.mt.length
  obtain ⟨r0, x0⟩ := (r.ext0 (k := k)).alloc (o := .lst []) hp
  have r1 : Rel X.K F (upd H p (.lst [])) (σD ++ List.replicate k none) (σ ++ List.replicate k none) ((.lst true [], .ref p) :: R) := r0.formL (xs := []) (vs := []) rfl upd_same
  refine ⟨fun i m σ1 H1 => m = xs.length - i ∧ i ≤ xs.length ∧ ∃ F1 σD1 ds zs, Ext F H F1 H1 ∧ Kp W (σ ++ List.replicate k none) σ1 ∧ Rel X.K F1 H1 σD1 σ1 ((.lst true ds, .ref p) :: R) ∧ ds.length ≤ i ∧ lcGo g t c (xs.drop i) σD1 = some (zs, σD') ∧ ds ++ zs = ys,
    ⟨_, rfl, Nat.zero_le _, F, _, [], ys, x0, Kp.refl, r1, Nat.zero_le _, by simpa using h, rfl⟩, ?_⟩
  rintro i m σ1 H1 ⟨rfl, hle, F1, σD1, ds, zs, x1, kp1, r2, hds, h1, hys⟩
  rcases Nat.lt_or_ge i xs.length with hi | hi
  · right
    obtain ⟨go, yl⟩ := j.item i _ F1 H1 x1 r2.g.dom (List.getElem?_eq_getElem hi)
    refine ⟨go, fun x H2 hy => ?_⟩
    obtain ⟨F2, gr, ox⟩ := yl x H2 hy
    rw [List.drop_eq_getElem_cons hi] at h1
    simp only [lcGo] at h1
    rcases e1 : g xs[i] σD1 with _ | σ3
    · rw [e1] at h1; cases h1
    · rw [e1] at h1; simp only [Option.bind_some] at h1
      refine ⟨F2, _, σD1, xs[i], σ3, (r2.grow gr).push ox, e1, fun F3 H3 σ4 x3 kp3 r3 => ?_⟩
      rcases e2 : t σ3 with _ | ⟨ok, σ5⟩
      · rw [e2] at h1; cases h1
      · rw [e2] at h1; simp only [Option.bind_some] at h1
        refine ⟨F3, _, σ3, ok, σ5, r3, e2, fun F4 H4 x4 r4 => ?_⟩
        have xx := ((x1.trans gr.x).trans x3).trans x4
        have kp5 := kp1.trans kp3
        cases ok with
        | false =>
          simp only [Bool.false_eq_true, if_false] at h1 ⊢
          exact ⟨xs.length - (i + 1), by omega, rfl, hi, F4, σ5, ds, zs, xx, kp5, r4, by omega, h1, hys⟩
        | true =>
          simp only [if_true] at h1 ⊢
          rcases e3 : c σ5 with _ | ⟨d, σ6⟩
          · rw [e3] at h1; cases h1
          · rw [e3] at h1; simp only [Option.bind_some] at h1
            obtain ⟨⟨ws, σ7⟩, e4, e5⟩ := map_pair h1
            cases e5
            refine ⟨F4, _, σ5, d, σ6, r4, e3, fun F5 H5 v x5 r5 => ?_⟩
            obtain ⟨a, vs, ea, he, hl, r6⟩ := (r5.perm (.swap _ _ _)).openL
            cases ea
            refine ⟨vs, he, by omega, xs.length - (i + 1), by omega, rfl, hi, ?_⟩
            have r7 : Rel X.K F5 H5 σ6 σ4 ((.cell, .ref p) :: ((ds ++ [d]).zip (vs ++ [v]) ++ R)) := by
              refine r6.perm (.cons _ ?_)
              rw [List.zip_append hl]
              simp
            obtain ⟨r8, x8⟩ := r7.write (o := .lst (vs ++ [v]))
            exact ⟨F5, σ6, ds ++ [d], ws, (xx.trans x5).trans x8, kp5, r8.formL (by simp [hl]) upd_same, by simp; omega, e4, by rw [← hys]; simp⟩
  · left
    have ei : i = xs.length := Nat.le_antisymm hle hi
    subst ei
    rw [List.drop_length] at h1
    simp only [lcGo] at h1
    cases h1
    rw [List.append_nil] at hys
    subst hys
    refine ⟨j.done F1 H1 x1, kk F1 H1 _ x1 ?_⟩
    rw [hlen]
    refine r2.cut rfl ?_
    apply List.ext_getElem?
    intro n
    rcases Nat.lt_or_ge n σ.length with hn | hn
    · rw [List.getElem?_take_of_lt hn, kp1 n (fun z => absurd (hw n z) (by omega)), List.getElem?_append_left hn]
    · rw [List.getElem?_eq_none (by simp; omega), List.getElem?_eq_none hn]
theorem qe_lc (hc : X.calm = true) (T : CyOk X N' scope) (hi : QI X tg iter i) (hg : ∀ cl s H fp pins, QG (cyOf X N' scope cl s H fp pins) tg g W) (ht : ∀ cl s H fp pins, QIf (cyOf X N' scope cl s H fp pins) ifs t)
    (he : ∀ cl s H fp pins, QE (cyOf X N' scope cl s H fp pins) elt c) (hw : ∀ i ∈ W, X.N.length ≤ i) (hs : ∀ x, foldedSetIterable iter X.env x = pure x := by intro _; rfl) :
    QE X (.ListComp elt [⟨tg, iter, ifs, 0⟩] scope pos) (dLc (N'.length - X.N.length) i g t c) := by
  intro pins s σ H Q I ⟨F, R, σD, d, σD', r, ec, k⟩
  have hlen : σ.length = X.N.length := I.len
  refine pe_lc (X := X) (N' := N') (g := rG X.K g W) (tt := rT X.K t) (te := rE X.K c) hc T hi hg ht he hs pins s σ H Q I ?_
  unfold dLc at ec
  rcases h : i σD with _ | ⟨xs, σ1⟩
  · rw [h] at ec; cases ec
  · rw [h] at ec; simp only [Option.bind_some] at ec
    split at ec
    · rename_i hz
      obtain ⟨⟨ys, σ2⟩, e1, e2⟩ := map_pair ec
      cases e2
      refine ⟨F, R, σD, xs, σ1, r, h, fun F1 H1 J x1 r1 j p hp => ?_⟩
      exact lc_go (X := X) (W := W) r1 j hz (fun i hi => by rw [hlen]; exact hw i hi) e1 (fun F2 H2 v x2 r2 => k F2 H2 v (x1.trans x2) r2) p hp
    · cases ec
theorem qs_set_lc (ix : Nat) {y : Str} {py spos : Pos} (hN : X.N.Nodup) (hc : X.calm = true) (T : CyOk X N' scope) (hi : QI X tg iter i) (hg : ∀ cl s H fp pins, QG (cyOf X N' scope cl s H fp pins) tg g W) (ht : ∀ cl s H fp pins, QIf (cyOf X N' scope cl s H fp pins) ifs t)
    (he : ∀ cl s H fp pins, QE (cyOf X N' scope cl s H fp pins) elt c) (hw : ∀ i ∈ W, X.N.length ≤ i) (hsw : swapsWith (.ListComp elt [⟨tg, iter, ifs, 0⟩] scope pos) (some (.Name y py)) spos.line X.env = pure true)
    (hiN : X.N[ix]? = some y := by rfl) (hx : Loc X.env.scope y := by first | exact Or.inl rfl | exact Or.inr rfl) (hs : ∀ x, foldedSetIterable iter X.env x = pure x := by intro _; rfl) (hf : X.fn y = true ∨ X.env.scope.names.lookup y = some .local := by first | exact .inl rfl | exact .inr rfl | assumption) :
    QS X (.Assign [.Name y py] (.ListComp elt [⟨tg, iter, ifs, 0⟩] scope pos) spos) (sSet ix (dLc (N'.length - X.N.length) i g t c)) [ix] := by
  intro pins s σ H En I ⟨F, R, σD, o, r, ec, k⟩
  have hlen : σ.length = X.N.length := I.len
  refine ps_set_lc (X := X) (N' := N') (g := rG X.K g W) (tt := rT X.K t) (te := rE X.K c) hN hiN hx hsw hc T hi hg ht he hs hf pins s σ H En I ?_
  unfold sSet at ec
  rcases h0 : dLc (N'.length - X.N.length) i g t c σD with _ | ⟨d0, σ0⟩
  · rw [h0] at ec; cases ec
  · rw [h0] at ec; simp only [Option.bind_some] at ec
    split at ec
    · rename_i hl
      cases ec
      unfold dLc at h0
      rcases h : i σD with _ | ⟨xs, σ1⟩
      · rw [h] at h0; cases h0
      · rw [h] at h0; simp only [Option.bind_some] at h0
        split at h0
        · rename_i hz
          obtain ⟨⟨ys, σ2⟩, e1, e2⟩ := map_pair h0
          cases e2
          refine ⟨F, R, σD, xs, σ1, r, h, fun F1 H1 J x1 r1 j p hp => ?_⟩
          exact lc_go (X := X) (W := W) (Q := fun x H1 => gName ix x σ H1 En.nx) r1 j hz (fun i hi => by rw [hlen]; exact hw i hi) e1 (fun F2 H2 v x2 r2 => k F2 H2 _ (x1.trans x2) Kp.set (r2.store (by rw [← r2.mt.length]; exact hl))) p hp
        · cases h0
    · cases ec
end
end DD
namespace DD
open PySem PySem.Spec PyProof.Rows L2
/-! ### data as the library reads it -/
mutual
def D.py : D → Option PyData
  | .non => some .none
  | .bl b => some (.bool b)
  | .int i => some (.int i)
  | .str x => some (.str x)
  | .lst _ xs => (D.pyL xs).map .list
  | .tup xs => (D.pyL xs).map .tuple
  | _ => none
def D.pyL : List D → Option (List PyData)
  | [] => some []
  | x :: xs => (D.py x).bind fun p => (D.pyL xs).map fun ps => p :: ps
end
section
variable {X : Cx} {pins : List (Addr × Obj)} {σ : St} {H : Hp} {s : Shared} {F : Addr → Prop}
theorem obj_list (I : L2.Inv X pins σ H s) {a : Addr} {vs : List V} (h : SqL X.K H a vs) : ∃ its o n, Vals vs its ∧ s.heap.get? a = some o ∧ o.cls = .type "list" ∧ o.data = .seq its.toArray n := by
  obtain ⟨its, r, ⟨o, n, e, c, _, d⟩, _⟩ := I.list h
  exact ⟨its, o, n, r, e, c, d⟩
theorem obj_tup (I : L2.Inv X pins σ H s) {a : Addr} {vs : List V} (h : SqT X.K H a vs) : ∃ its o n, Vals vs its ∧ s.heap.get? a = some o ∧ o.cls = .type "tuple" ∧ o.data = .seq its.toArray n := by
  obtain ⟨its, r, ⟨o, e, c, n, d⟩, _⟩ := I.tuple h
  exact ⟨its, o, n, r, e, c, d⟩
mutual
theorem reads_of (I : L2.Inv X pins σ H s) : ∀ {d : D} {v : V} {L : List Addr} {p : PyData} {u : Value}, Ow X.K F H d v L → d.py = some p → RelV v u → ∃ as, Reads s.heap u p as
  | .non, v, L, p, u, o, e, r => by simp only [D.py, Ow] at e o; cases e; obtain ⟨rfl, _⟩ := o; cases r; exact ⟨_, .none⟩
  | .bl b, v, L, p, u, o, e, r => by simp only [D.py, Ow] at e o; cases e; obtain ⟨rfl, _⟩ := o; cases r; exact ⟨_, .bool b⟩
  | .int i, v, L, p, u, o, e, r => by simp only [D.py, Ow] at e o; cases e; obtain ⟨rfl, _⟩ := o; obtain ⟨t, rfl⟩ := r; exact ⟨_, .int i t⟩
  | .str x, v, L, p, u, o, e, r => by simp only [D.py, Ow] at e o; cases e; obtain ⟨rfl, _⟩ := o; obtain ⟨t, rfl⟩ := r; exact ⟨_, .str x t⟩
  | .lst own xs, v, L, p, u, o, e, r => by
    simp only [D.py] at e
    rcases h : D.pyL xs with _ | ps
    · rw [h] at e; cases e
    · rw [h] at e; cases e
      obtain ⟨a, vs, rfl, sq, L', ol⟩ := Bor.lst ⟨L, o⟩
      cases r
      obtain ⟨its, ob, n, rv, e1, e2, e3⟩ := obj_list I sq
      obtain ⟨as, ra⟩ := readsL_of I ol h rv
      exact ⟨_, .list e1 e2 e3 ra⟩
  | .tup xs, v, L, p, u, o, e, r => by
    simp only [D.py] at e
    rcases h : D.pyL xs with _ | ps
    · rw [h] at e; cases e
    · rw [h] at e; cases e
      obtain ⟨a, vs, rfl, sq, L', ol⟩ := Bor.tup ⟨L, o⟩
      cases r
      obtain ⟨its, ob, n, rv, e1, e2, e3⟩ := obj_tup I sq
      obtain ⟨as, ra⟩ := readsL_of I ol h rv
      exact ⟨_, .tuple e1 e2 e3 ra⟩
  | .hole, _, _, _, _, _, e, _ => by simp only [D.py] at e; cases e
  | .cell, _, _, _, _, _, e, _ => by simp only [D.py] at e; cases e
  | .node _ _, _, _, _, _, _, e, _ => by simp only [D.py] at e; cases e
  | .ty _, _, _, _, _, _, e, _ => by simp only [D.py] at e; cases e
  | .cls _, _, _, _, _, _, e, _ => by simp only [D.py] at e; cases e
  | .obj _ _ _ _, _, _, _, _, _, e, _ => by simp only [D.py] at e; cases e
  | .dct _ _ _, _, _, _, _, _, e, _ => by simp only [D.py] at e; cases e
theorem readsL_of (I : L2.Inv X pins σ H s) : ∀ {xs : List D} {vs : List V} {L : List Addr} {ps : List PyData} {us : List Value}, OwL X.K F H xs vs L → D.pyL xs = some ps → Vals vs us → ∃ as, ReadsAll s.heap us ps as
  | [], vs, L, ps, us, o, e, r => by
    simp only [D.pyL, OwL] at e o
    cases e
    obtain ⟨rfl, _⟩ := o
    cases r
    exact ⟨_, .nil⟩
  | x :: xs, vs, L, ps, us, o, e, r => by
    simp only [D.pyL, OwL] at e o
    obtain ⟨v, ws, L1, L2, rfl, o1, o2, _⟩ := o
    rcases h1 : D.py x with _ | p
    · rw [h1] at e; cases e
    · rw [h1] at e; simp only [Option.bind_some] at e
      rcases h2 : D.pyL xs with _ | qs
      · rw [h2] at e; cases e
      · rw [h2] at e; cases e
        cases r with
        | cons r1 r2 =>
          obtain ⟨as, ra⟩ := reads_of I o1 h1 r1
          obtain ⟨bs, rb⟩ := readsL_of I o2 h2 r2
          exact ⟨_, .cons ra rb⟩
end
theorem Bor.reads (I : L2.Inv X pins σ H s) {d : D} {v : V} {p : PyData} {u : Value} (b : Bor X.K F H d v) (e : d.py = some p) (r : RelV v u) : ∃ as, Reads s.heap u p as := by
  obtain ⟨L, o⟩ := b
  exact reads_of I o e r
end
/-! ### == and != of data -/
def pyOk (p q : PyData) : Bool := p.canLay0 && q.canLay0 && decide (min p.depth q.depth ≤ 50)
def gEq : D → D → Option D := fun x y => x.py.bind fun p => y.py.bind fun q => if pyOk p q = true then some (.bl (PyData.eqv p q)) else none
def gNe : D → D → Option D := fun x y => x.py.bind fun p => y.py.bind fun q => if pyOk p q = true then some (.bl (!PyData.eqv p q)) else none
section
variable {X : Cx}
theorem gEq_some {x y d : D} (h : gEq x y = some d) : ∃ p q, x.py = some p ∧ y.py = some q ∧ p.canLay0 = true ∧ q.canLay0 = true ∧ min p.depth q.depth ≤ 50 ∧ d = .bl (PyData.eqv p q) := by
  unfold gEq at h
  rcases h1 : x.py with _ | p
  · rw [h1] at h; cases h
  · rw [h1] at h; simp only [Option.bind_some] at h
    rcases h2 : y.py with _ | q
    · rw [h2] at h; cases h
    · rw [h2] at h; simp only [Option.bind_some] at h
      split at h
      · rename_i hk
        cases h
        simp only [pyOk, Bool.and_eq_true, decide_eq_true_eq] at hk
        exact ⟨p, q, rfl, rfl, hk.1.1, hk.1.2, hk.2, rfl⟩
      · cases h
theorem gNe_some {x y d : D} (h : gNe x y = some d) : ∃ p q, x.py = some p ∧ y.py = some q ∧ p.canLay0 = true ∧ q.canLay0 = true ∧ min p.depth q.depth ≤ 50 ∧ d = .bl (!PyData.eqv p q) := by
  unfold gNe at h
  rcases h1 : x.py with _ | p
  · rw [h1] at h; cases h
  · rw [h1] at h; simp only [Option.bind_some] at h
    rcases h2 : y.py with _ | q
    · rw [h2] at h; cases h
    · rw [h2] at h; simp only [Option.bind_some] at h
      split at h
      · rename_i hk
        cases h
        simp only [pyOk, Bool.and_eq_true, decide_eq_true_eq] at hk
        exact ⟨p, q, rfl, rfl, hk.1.1, hk.1.2, hk.2, rfl⟩
      · cases h
theorem o_eq (hu : X.A.units + 64 < cLine) : OpS X (compareOp .Eq) gEq := by
  refine ⟨fun pins s σ H x y v u Q I rx ry ⟨F, dx, dy, d, w, b1, b2, eg, hw, q⟩ => ?_, fun x y d h => ?_⟩
  · obtain ⟨p, r, e1, e2, c1, c2, hd, rfl⟩ := gEq_some eg
    cases hw
    obtain ⟨as, ra⟩ := b1.reads I e1 rx
    obtain ⟨bs, rb⟩ := b2.reads I e2 ry
    exact SeqAt.eqOverData _ _ _ _ _ _ _ _ _ _ _ _ ra rb c1 c2 (by omega) ⟨.bl _, H, I, rfl, q⟩
  · obtain ⟨p, r, _, _, _, _, _, rfl⟩ := gEq_some h
    exact ⟨_, rfl⟩
theorem o_ne (hu : X.A.units + 64 < cLine) : OpS X (compareOp .NotEq) gNe := by
  refine ⟨fun pins s σ H x y v u Q I rx ry ⟨F, dx, dy, d, w, b1, b2, eg, hw, q⟩ => ?_, fun x y d h => ?_⟩
  · obtain ⟨p, r, e1, e2, c1, c2, hd, rfl⟩ := gNe_some eg
    cases hw
    obtain ⟨as, ra⟩ := b1.reads I e1 rx
    obtain ⟨bs, rb⟩ := b2.reads I e2 ry
    exact SeqAt.neOverData _ _ _ _ _ _ _ _ _ _ _ _ ra rb c1 c2 (by omega) ⟨.bl _, H, I, rfl, q⟩
  · obtain ⟨p, r, _, _, _, _, _, rfl⟩ := gNe_some h
    exact ⟨_, rfl⟩
end
/-! ### built-in functions -/
def BorL (K : PySem.W.Frag) (F : Addr → Prop) (H : Hp) : List D → List V → Prop
  | [], [] => True
  | d :: ds, v :: vs => Bor K F H d v ∧ BorL K F H ds vs
  | _, _ => False
theorem BorL.grow {K : PySem.W.Frag} {F F' : Addr → Prop} {H H' : Hp} (g : Grow F H F' H') : ∀ {ds : List D} {vs : List V}, BorL K F H ds vs → BorL K F' H' ds vs
  | [], [], _ => trivial
  | d :: ds, v :: vs, h => ⟨h.1.grow g, BorL.grow g h.2⟩
theorem BorL.of {K : PySem.W.Frag} {F : Addr → Prop} {H : Hp} {σD : DSt} {σ : St} : ∀ {ds : List D} {vs : List V} {R : Ro}, ds.length = vs.length → Rel K F H σD σ (ds.zip vs ++ R) → BorL K F H ds vs
  | [], [], _, _, _ => trivial
  | d :: ds, v :: vs, R, h, r => ⟨r.bor (by simp), BorL.of (R := R) (by simpa using h) (Rel.pop (R := ds.zip vs ++ R) r)⟩
structure CallS (X : Cx) (f : Value) (g : List D → Option D) : Prop where
  run : CallR X f (fun vs H Q => ∃ F ds d w, BorL X.K F H ds vs ∧ g ds = some d ∧ d.sc = some w ∧ Q w H)
  sc : ∀ ds d, g ds = some d → ∃ w, d.sc = some w
def evB : List DP → DSt → Option (List D)
  | [], _ => some []
  | p :: ps, σ => (p σ).bind fun d => (evB ps σ).map fun ds => d :: ds
def pCall (g : List D → Option D) (ps : List DP) : DP := fun σ => (evB ps σ).bind g
def dCallB (g : List D → Option D) (ca : DA) : DE := fun σ => (ca σ).bind fun p => (g p.1).map fun d => (d, p.2)
def rBA (K : PySem.W.Frag) (ps : List DP) : TA := fun σ H Q => ∃ F R σD ds, Rel K F H σD σ R ∧ evB ps σD = some ds ∧ ∀ F' H' vs, Grow F H F' H' → BorL K F' H' ds vs → Q vs H'
def QBA (X : Cx) (es : List Expr) (ps : List DP) : Prop := PA X es (rBA X.K ps)
section
variable {X : Cx} {e : Expr} {es : List Expr} {p : DP} {ps : List DP} {x : Str} {p1 pos : Pos} {id T : String} {g : List D → Option D} {ca : DA}
theorem qba_nil : QBA X [] [] := PA_imp pa_nil fun σ H Q ⟨F, R, σD, ds, r, ec, k⟩ => by
  cases ec; exact k F H [] Grow.refl trivial
theorem qba_cons (ha : QB X e p) (hr : QBA X es ps) (hs : starEach (e :: es) X.env = (false, eval e X.env) :: starEach es X.env := by rfl) : QBA X (e :: es) (p :: ps) := PA_imp (pa_cons ha hr hs) fun σ H Q ⟨F, R, σD, ds, r, ec, k⟩ => by
  simp only [evB] at ec
  rcases h1 : p σD with _ | d
  · rw [h1] at ec; cases ec
  · rw [h1] at ec; simp only [Option.bind_some] at ec
    rcases h2 : evB ps σD with _ | ds2
    · rw [h2] at ec; cases ec
    · rw [h2] at ec; cases ec
      refine ⟨F, R, σD, d, r, h1, fun F1 H1 v g1 b1 => ?_⟩
      exact ⟨F1, R, σD, ds2, r.grow g1, h2, fun F2 H2 vs g2 b2 => k F2 H2 (v :: vs) (g1.trans g2) ⟨b1.grow g2, b2⟩⟩
theorem pCall_of {f : Value} (hc : CallS X f g) {σ : St} {H : Hp} {Q : VK} (h : rB X.K (pCall g ps) σ H Q) : tCB (fun vs H Q => ∃ F ds d w, BorL X.K F H ds vs ∧ g ds = some d ∧ d.sc = some w ∧ Q w H) (rBA X.K ps) σ H Q := by
  obtain ⟨F, R, σD, d, r, ec, k⟩ := h
  unfold pCall at ec
  rcases h1 : evB ps σD with _ | ds
  · rw [h1] at ec; cases ec
  · rw [h1] at ec; simp only [Option.bind_some] at ec
    obtain ⟨w, hw⟩ := hc.sc _ _ ec
    exact ⟨F, R, σD, ds, r, h1, fun F1 H1 vs g1 b1 => ⟨F1, ds, d, w, b1, ec, hw, k F1 H1 w g1 ⟨[], Ow.of_sc hw⟩⟩⟩
theorem dCall_of {f : Value} (hc : CallS X f g) {σ : St} {H : Hp} {Q : VK} (h : rE X.K (dCallB g ca) σ H Q) : tCB (fun vs H Q => ∃ F ds d w, BorL X.K F H ds vs ∧ g ds = some d ∧ d.sc = some w ∧ Q w H) (rA X.K ca) σ H Q := by
  obtain ⟨F, R, σD, d, σD', r, ec, k⟩ := h
  unfold dCallB at ec
  rcases h1 : ca σD with _ | ⟨ds, σ1⟩
  · rw [h1] at ec; cases ec
  · rw [h1] at ec; simp only [Option.bind_some] at ec
    obtain ⟨z, e1, e2⟩ := map_pair ec
    cases e2
    obtain ⟨w, hw⟩ := hc.sc _ _ e1
    exact ⟨F, R, σD, ds, _, r, h1, fun F1 H1 vs x1 hl r1 => ⟨F1, ds, _, w, BorL.of hl r1, e1, hw, k F1 H1 w x1 ((r1.popN).scal hw)⟩⟩
theorem qb_fn (hc : CallS X (.builtin id) g) (hg : Gl X x) (hm : X.mg x = none) (hv : bootBuiltins x = some (.builtin id)) (ha : QBA X (e :: es) ps) (hn : x ≠ "__name__" := by decide) (hdb : (x == ("__debug__" : Str)) = false := by decide)
    (he : starEach (e :: es) X.env = (false, eval e X.env) :: starEach es X.env := by rfl) (hpl : (backTo pos (starEach es X.env)).any (·.1) = false := by rfl) : QB X (.Call (.Name x p1) (e :: es) [] pos) (pCall g ps) :=
  PE_imp (pe_callB hc.run hg hm hv ha hn hdb he hpl) fun _ _ _ h => pCall_of hc h
theorem qe_fn (hc : CallS X (.builtin id) g) (hg : Gl X x) (hm : X.mg x = none) (hv : bootBuiltins x = some (.builtin id)) (ha : QA X (e :: es) ca) (hn : x ≠ "__name__" := by decide) (hdb : (x == ("__debug__" : Str)) = false := by decide)
    (he : starEach (e :: es) X.env = (false, eval e X.env) :: starEach es X.env := by rfl) (hpl : (backTo pos (starEach es X.env)).any (·.1) = false := by rfl) : QE X (.Call (.Name x p1) (e :: es) [] pos) (dCallB g ca) :=
  PE_imp (pe_callB hc.run hg hm hv ha hn hdb he hpl) fun _ _ _ h => dCall_of hc h
theorem qb_ty (hc : CallS X (.type T) g) (hg : Gl X x) (hm : X.mg x = none) (hv : bootBuiltins x = some (.type T)) (ha : QBA X (e :: es) ps) (hn : x ≠ "__name__" := by decide) (hdb : (x == ("__debug__" : Str)) = false := by decide)
    (he : starEach (e :: es) X.env = (false, eval e X.env) :: starEach es X.env := by rfl) (hpl : (backTo pos (starEach es X.env)).any (·.1) = false := by rfl) : QB X (.Call (.Name x p1) (e :: es) [] pos) (pCall g ps) :=
  PE_imp (pe_callTy hc.run hg hm hv ha hn hdb he hpl) fun _ _ _ h => pCall_of hc h
theorem qe_ty (hc : CallS X (.type T) g) (hg : Gl X x) (hm : X.mg x = none) (hv : bootBuiltins x = some (.type T)) (ha : QA X (e :: es) ca) (hn : x ≠ "__name__" := by decide) (hdb : (x == ("__debug__" : Str)) = false := by decide)
    (he : starEach (e :: es) X.env = (false, eval e X.env) :: starEach es X.env := by rfl) (hpl : (backTo pos (starEach es X.env)).any (·.1) = false := by rfl) : QE X (.Call (.Name x p1) (e :: es) [] pos) (dCallB g ca) :=
  PE_imp (pe_callTy hc.run hg hm hv ha hn hdb he hpl) fun _ _ _ h => dCall_of hc h
/-- a built-in type as a value -/
theorem qb_tyname {T : String} (hg : Gl X x) (hm : X.mg x = none) (hv : bootBuiltins x = some (.type T)) (hn : x ≠ "__name__" := by decide) (hd : (x == ("__debug__" : Str)) = false := by decide) : QB X (.Name x pos) (pC (.ty T)) :=
  PE_imp (pe_bltn (v := .ty T) hg hm hv rfl hn hd) fun σ H Q ⟨F, R, σD, d, r, ec, k⟩ => by cases ec; exact k F H _ Grow.refl ⟨[], Ow.of_sc rfl⟩
end
end DD
namespace DD
open PySem PySem.Spec PyProof.Rows L2
section
variable {X : Cx}
theorem CallR_imp {f : Value} {r r' : List V → Hp → VK → Prop} (h : CallR X f r) (i : ∀ xs H Q, r' xs H Q → r xs H Q) : CallR X f r' := fun pins s σ H xs us Q I rv h' => h pins s σ H xs us Q I rv (i xs H Q h')
theorem BorL.one {K : PySem.W.Frag} {F : Addr → Prop} {H : Hp} {d : D} : ∀ {vs : List V}, BorL K F H [d] vs → ∃ v, vs = [v] ∧ Bor K F H d v
  | [v], h => ⟨v, rfl, h.1⟩
theorem BorL.two {K : PySem.W.Frag} {F : Addr → Prop} {H : Hp} {d e : D} : ∀ {vs : List V}, BorL K F H [d, e] vs → ∃ v w, vs = [v, w] ∧ Bor K F H d v ∧ Bor K F H e w
  | [v, w], h => ⟨v, w, rfl, h.1, h.2.1⟩
/-! ### len -/
def lenD : List D → Option D
  | [.lst _ xs] => some (.int xs.length)
  | [.tup xs] => some (.int xs.length)
  | [.str z] => if z.length ≤ sizeLine then some (.int z.length) else none
  | _ => none
theorem c_len : CallS X (.builtin "len") lenD := by
  refine ⟨CallR_imp (call_len_seq.or call_len_str) fun vs H Q ⟨F, ds, d, w, b, eg, hw, q⟩ => ?_, fun ds d h => ?_⟩
  · unfold lenD at eg
    split at eg
    · cases eg; cases hw
      obtain ⟨v, rfl, bv⟩ := b.one
      obtain ⟨a, us, rfl, sq, L, ol⟩ := bv.lst
      exact .inl ⟨a, us, rfl, .inl sq, by rw [ol.length]; exact q⟩
    · cases eg; cases hw
      obtain ⟨v, rfl, bv⟩ := b.one
      obtain ⟨a, us, rfl, sq, L, ol⟩ := bv.tup
      exact .inl ⟨a, us, rfl, .inr sq, by rw [ol.length]; exact q⟩
    · split at eg
      · rename_i hz
        cases eg; cases hw
        obtain ⟨v, rfl, bv⟩ := b.one
        exact .inr ⟨_, by rw [bv.str], hz, q⟩
      · cases eg
    · cases eg
  · unfold lenD at h
    split at h
    · cases h; exact ⟨_, rfl⟩
    · cases h; exact ⟨_, rfl⟩
    · split at h
      · cases h; exact ⟨_, rfl⟩
      · cases h
    · cases h
/-! ### int, abs, min, max -/
def intD : List D → Option D
  | [.int i] => some (.int i)
  | [.bl b] => some (.int (if b then 1 else 0))
  | _ => none
theorem c_int : CallS X (.type "int") intD := by
  refine ⟨CallR_imp call_int1 fun vs H Q ⟨F, ds, d, w, b, eg, hw, q⟩ => ?_, fun ds d h => ?_⟩
  · unfold intD at eg
    split at eg
    · cases eg; cases hw
      obtain ⟨v, rfl, bv⟩ := b.one
      exact .inl ⟨_, by rw [bv.int], q⟩
    · cases eg; cases hw
      obtain ⟨v, rfl, bv⟩ := b.one
      exact .inr ⟨_, by rw [bv.bl], q⟩
    · cases eg
  · unfold intD at h
    split at h <;> first | (cases h; exact ⟨_, rfl⟩) | cases h
def absD : List D → Option D
  | [.int i] => some (.int (if i < 0 then -i else i))
  | _ => none
theorem c_abs : CallS X (.builtin "abs") absD := by
  refine ⟨CallR_imp call_abs fun vs H Q ⟨F, ds, d, w, b, eg, hw, q⟩ => ?_, fun ds d h => ?_⟩
  · unfold absD at eg
    split at eg
    · cases eg; cases hw
      obtain ⟨v, rfl, bv⟩ := b.one
      exact ⟨_, by rw [bv.int], q⟩
    · cases eg
  · unfold absD at h
    split at h <;> first | (cases h; exact ⟨_, rfl⟩) | cases h
def max2D : List D → Option D
  | [.int i, .int j] => some (.int (if j > i then j else i))
  | _ => none
def min2D : List D → Option D
  | [.int i, .int j] => some (.int (if j < i then j else i))
  | _ => none
theorem c_max2 (hc : X.calm = true) : CallS X (.builtin "max") max2D := by
  refine ⟨CallR_imp (call_max2 hc) fun vs H Q ⟨F, ds, d, w, b, eg, hw, q⟩ => ?_, fun ds d h => ?_⟩
  · unfold max2D at eg
    split at eg
    · cases eg; cases hw
      obtain ⟨v, u, rfl, bv, bu⟩ := b.two
      exact ⟨_, _, by rw [bv.int, bu.int], q⟩
    · cases eg
  · unfold max2D at h
    split at h <;> first | (cases h; exact ⟨_, rfl⟩) | cases h
theorem c_min2 (hc : X.calm = true) : CallS X (.builtin "min") min2D := by
  refine ⟨CallR_imp (call_min2 hc) fun vs H Q ⟨F, ds, d, w, b, eg, hw, q⟩ => ?_, fun ds d h => ?_⟩
  · unfold min2D at eg
    split at eg
    · cases eg; cases hw
      obtain ⟨v, u, rfl, bv, bu⟩ := b.two
      exact ⟨_, _, by rw [bv.int, bu.int], q⟩
    · cases eg
  · unfold min2D at h
    split at h <;> first | (cases h; exact ⟨_, rfl⟩) | cases h
/-! ### isinstance -/
def kindD : D → Option Value
  | .non => some (.type "NoneType")
  | .bl _ => some (.type "bool")
  | .int _ => some (.type "int")
  | .str _ => some (.type "str")
  | .lst _ _ => some (.type "list")
  | .tup _ => some (.type "tuple")
  | _ => none
/-- by the names of the types -/
def isiT : String → String → Option Bool
  | "NoneType", "int" => some false | "NoneType", "bool" => some false | "NoneType", "str" => some false | "NoneType", "list" => some false | "NoneType", "tuple" => some false
  | "bool", "int" => some true | "bool", "bool" => some true | "bool", "str" => some false | "bool", "list" => some false | "bool", "tuple" => some false
  | "int", "int" => some true | "int", "bool" => some false | "int", "str" => some false | "int", "list" => some false | "int", "tuple" => some false
  | "str", "int" => some false | "str", "bool" => some false | "str", "str" => some true | "str", "list" => some false | "str", "tuple" => some false
  | "list", "int" => some false | "list", "bool" => some false | "list", "str" => some false | "list", "list" => some true | "list", "tuple" => some false
  | "tuple", "int" => some false | "tuple", "bool" => some false | "tuple", "str" => some false | "tuple", "list" => some false | "tuple", "tuple" => some true
  | _, _ => none
def isiD : List D → Option D
  | [.non, .ty t] => (isiT "NoneType" t).map .bl
  | [.bl _, .ty t] => (isiT "bool" t).map .bl
  | [.int _, .ty t] => (isiT "int" t).map .bl
  | [.str _, .ty t] => (isiT "str" t).map .bl
  | [.lst _ _, .ty t] => (isiT "list" t).map .bl
  | [.tup _, .ty t] => (isiT "tuple" t).map .bl
  | _ => none
theorem isiT_kit {K : PySem.W.Frag} {a b : String} {k : Bool} (h : isiT a b = some k) : PySem.W.kitOne K (.type a) (.type b) = some k := by
  unfold isiT at h
  split at h <;> first | (cases h; rfl) | cases h
theorem map_bl {o : Option Bool} {d : D} (h : o.map D.bl = some d) : ∃ k, o = some k ∧ d = .bl k := by
  cases o with
  | none => cases h
  | some k => cases h; exact ⟨k, rfl, rfl⟩
/-- the kind of a list that is read, of a tuple -/
theorem isi_run {pins : List (Addr × Obj)} {σ : St} {H : Hp} {s : Shared} {F : Addr → Prop} {x : D} {v : V} {u : Value} {t c : Value} {b : Bool} {Q : Value → Shared → Prop} {E : Value → Shared → Prop} (I : L2.Inv X pins σ H s) (bo : Bor X.K F H x v) (rv : RelV v u) (hk : kindD x = some t)
    (e : PySem.W.kitOne X.K t c = some b) (h : ∀ tk, Q (.bool b) { s with toks := tk }) : wpAny (model X.prog X.w) X.A (call (.builtin "isinstance") [u, c]) Q E s := by
  unfold kindD at hk
  split at hk
  · cases hk; rw [bo.sc (w := .non) rfl] at rv; exact isinst_ok I rv (.non) e h
  · cases hk; rw [bo.bl] at rv; exact isinst_ok I rv (.bl _) e h
  · cases hk; rw [bo.int] at rv; exact isinst_ok I rv (.int _) e h
  · cases hk; rw [bo.str] at rv; exact isinst_ok I rv (.str _) e h
  · cases hk
    obtain ⟨a, vs, rfl, sq, L, ol⟩ := bo.lst
    cases rv
    obtain ⟨its, o, n, _, e1, e2, e3⟩ := obj_list I sq
    exact PySem.W.kia_one PySem.W.kitx_list I.kIn ⟨_, e1, e2⟩ e (fun z => nomatch z) h
  · cases hk
    obtain ⟨a, vs, rfl, sq, L, ol⟩ := bo.tup
    cases rv
    obtain ⟨its, o, n, _, e1, e2, e3⟩ := obj_tup I sq
    exact PySem.W.kia_one PySem.W.kitx_tuple I.kIn ⟨_, e1, e2⟩ e (fun z => nomatch z) h
  · cases hk
theorem c_isi : CallS X (.builtin "isinstance") isiD := by
  refine ⟨fun pins s σ H vs us Q I rv ⟨F, ds, d, w, b, eg, hw, q⟩ => ?_, fun ds d h => ?_⟩
  · have key : ∀ {x : D} {a t : String}, ds = [x, .ty t] → kindD x = some (.type a) → (isiT a t).map D.bl = some d → wpAny (model X.prog X.w) X.A (call (.builtin "isinstance") us) (EP X pins σ Q) X.xe s := fun {x a t} e1 e2 e3 => by
      subst e1
      obtain ⟨k, e4, rfl⟩ := map_bl e3
      cases hw
      obtain ⟨v, u, rfl, bv, bu⟩ := b.two
      obtain ⟨u1, u2, rfl, r1, r2⟩ := vals2 rv
      have hu : u = .ty t := bu.sc rfl
      subst hu
      cases r2
      exact isi_run I bv r1 e2 (isiT_kit e4) fun tk => ⟨.bl k, H, I.tok tk, rfl, q⟩
    unfold isiD at eg
    split at eg
    · exact key rfl rfl eg
    · exact key rfl rfl eg
    · exact key rfl rfl eg
    · exact key rfl rfl eg
    · exact key rfl rfl eg
    · exact key rfl rfl eg
    · cases eg
  · unfold isiD at h
    split at h <;> first | (obtain ⟨k, _, rfl⟩ := map_bl h; exact ⟨_, rfl⟩) | cases h
/-! ### sum of a list of ints -/
def intsOf : List D → Option (List Int)
  | [] => some []
  | .int i :: xs => (intsOf xs).map fun r => i :: r
  | _ => none
def sumD : List D → Option D
  | [.lst _ xs] => (intsOf xs).map fun ns => .int ns.sum
  | _ => none
theorem intsOf_map {xs : List D} {ns : List Int} (h : intsOf xs = some ns) : xs = ns.map D.int := by
  induction xs generalizing ns with
  | nil => cases h; rfl
  | cons x xs ih =>
    cases x <;> first | (simp only [intsOf] at h; cases hh : intsOf xs with | none => rw [hh] at h; cases h | some r => rw [hh] at h; cases h; rw [ih hh]; rfl) | (simp only [intsOf] at h; cases h)
theorem OwL.ints {K : PySem.W.Frag} {F : Addr → Prop} {H : Hp} : ∀ {ns : List Int} {vs : List V} {L : List Addr}, OwL K F H (ns.map D.int) vs L → vs = ns.map V.int
  | [], vs, L, h => by simp only [List.map_nil, OwL] at h; exact h.1
  | n :: ns, vs, L, h => by
    simp only [List.map_cons, OwL] at h
    obtain ⟨v, ws, L1, L2, rfl, o, ol, _⟩ := h
    rw [(o.sc (w := .int n) rfl).1, OwL.ints ol]; rfl
theorem c_sum (hc : X.calm = true) : CallS X (.builtin "sum") sumD := by
  refine ⟨fun pins s σ H vs us Q I rv ⟨F, ds, d, w, b, eg, hw, q⟩ => ?_, fun ds d h => ?_⟩
  · unfold sumD at eg
    split at eg
    · rename_i own xs
      rcases hns : intsOf xs with _ | ns
      · rw [hns] at eg; cases eg
      · rw [hns] at eg; cases eg; cases hw
        have ex := intsOf_map hns
        subst ex
        obtain ⟨v, rfl, bv⟩ := b.one
        obtain ⟨a, ws, rfl, sq, L, ol⟩ := bv.lst
        obtain ⟨u, rfl, ru⟩ := vals1 rv
        cases ru
        obtain ⟨its, r, pl, _⟩ := I.list sq
        rw [ol.ints] at r
        have hi : IntsAre its ns := intsAre_of r
        obtain ⟨ys, hy⟩ := hi.allInts.items
        refine sum_intListG (xs := ys) (I.ok.hd hc) (by rw [← hy]; exact pl.isList) fun h' tk t' hk => ⟨.int ns.sum, H, I.kept hk, ?_, q⟩
        have : (preSum (numAt ys) ys.size) = ns.sum := by
          rw [preSum_eq, List.take_of_length_le (by simp), ← nums_intItems, ← hy]
          rw [show its.toArray.toList = its from rfl, hi.numsOf]
        rw [this]
        exact ⟨t', rfl⟩
    · cases eg
  · unfold sumD at h
    split at h
    · rcases hh : intsOf _ with _ | r
      · rw [hh] at h; cases h
      · rw [hh] at h; cases h; exact ⟨_, rfl⟩
    · cases h
end
end DD
namespace DD
open PySem PySem.Spec PyProof.Rows L2
/-! ### a place within a value -/
def getP : D → List Int → Option D
  | t, [] => some t
  | .lst _ xs, j :: js => (atI xs j).bind fun x => getP x js
  | .tup xs, j :: js => (atI xs j).bind fun x => getP x js
  | _, _ :: _ => none
def setP : D → List Int → D → D
  | _, [], d => d
  | .lst o xs, j :: js, d => match ixN xs.length j with | some k => (match xs[k]? with | some x => .lst o (xs.set k (setP x js d)) | none => .lst o xs) | none => .lst o xs
  | .tup xs, j :: js, d => match ixN xs.length j with | some k => (match xs[k]? with | some x => .tup (xs.set k (setP x js d)) | none => .tup xs) | none => .tup xs
  | t, _ :: _, _ => t
/-- where it stands -/
def Lc (H : Hp) : V → List Int → V → Prop
  | v, [], w => w = v
  | v, j :: js, w => ∃ a vs u, v = .ref a ∧ (H a = some (.lst vs) ∨ H a = some (.tup vs)) ∧ atI vs j = some u ∧ Lc H u js w
theorem atI_ix {α : Type} {xs : List α} {j : Int} {x : α} (h : atI xs j = some x) : ∃ k, ixN xs.length j = some k ∧ xs[k]? = some x := by
  unfold atI at h
  rcases hk : ixN xs.length j with _ | k
  · rw [hk] at h; cases h
  · rw [hk] at h; exact ⟨k, rfl, h⟩
section
variable {K : PySem.W.Frag} {F F' : Addr → Prop} {H H' : Hp} {σD : DSt} {σ : St} {R S S' : Ro}
theorem Lc.grow {H H' : Hp} (k : ∀ a o, H a = some o → H' a = some o) : ∀ {js : List Int} {v w : V}, Lc H v js w → Lc H' v js w
  | [], _, _, h => h
  | j :: js, _, _, ⟨a, vs, u, e, h, hu, r⟩ => ⟨a, vs, u, e, by rcases h with h | h; exact .inl (k _ _ h); exact .inr (k _ _ h), hu, Lc.grow k r⟩
theorem Lc.snoc : ∀ {js : List Int} {j : Int} {v w : V}, Lc H v (js ++ [j]) w → ∃ u, Lc H v js u ∧ Lc H u [j] w
  | [], j, v, w, h => ⟨v, rfl, h⟩
  | i :: js, j, v, w, ⟨a, vs, u, e, h, hu, r⟩ => by
    obtain ⟨z, h1, h2⟩ := Lc.snoc r
    exact ⟨z, ⟨a, vs, u, e, h, hu, h1⟩, h2⟩
/-- an owned list at a place, and how it is exchanged -/
theorem Ow.focus : ∀ {js : List Int} {t : D} {v : V} {L : List Addr} {xs : List D}, Ow K F H t v L → getP t js = some (.lst true xs) →
    ∃ l La Lx Lb, Lc H v js (.ref l) ∧ L = La ++ (l :: Lx) ++ Lb ∧ (∃ vs, H l = some (.lst vs) ∧ OwL K F H xs vs Lx) ∧
      ∀ (F' : Addr → Prop) (H' : Hp) (d' : D) (Lx' : List Addr), Ext F H F' H' → (∀ a ∈ La ++ Lb, H' a = H a) → Ow K F' H' d' (.ref l) Lx' → Ow K F' H' (setP t js d') v (La ++ Lx' ++ Lb)
  | [], t, v, L, xs, o, e => by
    simp only [getP] at e
    cases e
    simp only [Ow] at o
    obtain ⟨l, vs, L', rfl, h, ol, rfl⟩ := o
    refine ⟨l, [], L', [], rfl, by simp, ⟨vs, h, ol⟩, fun F' H' d' Lx' x k o' => ?_⟩
    simp only [setP, List.nil_append, List.append_nil]
    exact o'
  | j :: js, .lst true ys, v, L, xs, o, e => by
    simp only [getP] at e
    rcases h1 : atI ys j with _ | y
    · rw [h1] at e; cases e
    · rw [h1] at e; simp only [Option.bind_some] at e
      obtain ⟨k, hk, hy⟩ := atI_ix h1
      simp only [Ow] at o
      obtain ⟨a, vs, L', rfl, ha, ol, rfl⟩ := o
      obtain ⟨w, La, Ly, Lb, ew, rfl, oy, back⟩ := ol.kid hy
      obtain ⟨l, Ma, Mx, Mb, lc, rfl, hl, back2⟩ := Ow.focus oy e
      refine ⟨l, a :: (La ++ Ma), Mx, Mb ++ Lb, ⟨a, vs, w, rfl, .inl ha, ?_, lc⟩, by simp, hl, fun F' H' d' Lx' x kk o' => ?_⟩
      · unfold atI; rw [ol.length, hk]; exact ew
      · have o2 := back2 F' H' d' Lx' x (fun b hb => kk b (by simp at hb ⊢; rcases hb with hb | hb <;> simp [hb])) o'
        have o3 := back F' H' _ _ x (fun b hb => kk b (by simp at hb ⊢; rcases hb with hb | hb <;> simp [hb])) o2
        simp only [setP, hk, hy, Ow]
        exact ⟨a, vs, _, rfl, (kk a (by simp)).trans ha, o3, by simp⟩
  | j :: js, .lst false ys, v, L, xs, o, e => by
    exfalso
    simp only [getP] at e
    rcases h1 : atI ys j with _ | y
    · rw [h1] at e; cases e
    · rw [h1] at e; simp only [Option.bind_some] at e
      obtain ⟨k, hk, hy⟩ := atI_ix h1
      simp only [Ow] at o
      obtain ⟨a, vs, rfl, _, ol, rfl⟩ := o
      obtain ⟨w, La, Ly, Lb, ew, eL, oy, back⟩ := ol.kid hy
      obtain ⟨l, Ma, Mx, Mb, lc, rfl, hl, back2⟩ := Ow.focus oy e
      simp at eL
  | j :: js, .tup ys, v, L, xs, o, e => by
    simp only [getP] at e
    rcases h1 : atI ys j with _ | y
    · rw [h1] at e; cases e
    · rw [h1] at e; simp only [Option.bind_some] at e
      obtain ⟨k, hk, hy⟩ := atI_ix h1
      simp only [Ow] at o
      obtain ⟨a, vs, rfl, ft, ol⟩ := o
      obtain ⟨w, La, Ly, Lb, ew, rfl, oy, back⟩ := ol.kid hy
      obtain ⟨l, Ma, Mx, Mb, lc, rfl, hl, back2⟩ := Ow.focus oy e
      have ft' : F a ∧ H a = some (.tup vs) := by
        rcases ft with h | ⟨_, h⟩
        · exact h
        · simp at h
      refine ⟨l, La ++ Ma, Mx, Mb ++ Lb, ⟨a, vs, w, rfl, .inr ft'.2, ?_, lc⟩, by simp, hl, fun F' H' d' Lx' x kk o' => ?_⟩
      · unfold atI; rw [ol.length, hk]; exact ew
      · have o2 := back2 F' H' d' Lx' x (fun b hb => kk b (by simp at hb ⊢; rcases hb with hb | hb <;> simp [hb])) o'
        have o3 := back F' H' _ _ x (fun b hb => kk b (by simp at hb ⊢; rcases hb with hb | hb <;> simp [hb])) o2
        simp only [setP, hk, hy, Ow]
        exact ⟨a, vs, rfl, .inl ⟨(x a ft'.1).1, (x a ft'.1).2.trans ft'.2⟩, by simpa using o3⟩
  | _ :: _, .hole, _, _, _, _, e => by simp only [getP] at e; cases e
  | _ :: _, .cell, _, _, _, _, e => by simp only [getP] at e; cases e
  | _ :: _, .node _ _, _, _, _, _, e => by simp only [getP] at e; cases e
  | _ :: _, .non, _, _, _, _, e => by simp only [getP] at e; cases e
  | _ :: _, .bl _, _, _, _, _, e => by simp only [getP] at e; cases e
  | _ :: _, .int _, _, _, _, _, e => by simp only [getP] at e; cases e
  | _ :: _, .str _, _, _, _, _, e => by simp only [getP] at e; cases e
  | _ :: _, .ty _, _, _, _, _, e => by simp only [getP] at e; cases e
  | _ :: _, .cls _, _, _, _, _, e => by simp only [getP] at e; cases e
  | _ :: _, .obj _ _ _ _, _, _, _, _, e => by simp only [getP] at e; cases e
  | _ :: _, .dct _ _ _, _, _, _, _, e => by simp only [getP] at e; cases e
/-- the list at a place is rewritten: what it held and the roots S become what it holds and the roots S' -/
theorem Rel.listAt {t : D} {v : V} {js : List Int} {xs : List D} (r : Rel K F H σD σ ((t, v) :: (S ++ R))) (e : getP t js = some (.lst true xs)) :
    ∃ l vs, Lc H v js (.ref l) ∧ H l = some (.lst vs) ∧ xs.length = vs.length ∧ ∀ (ys : List D) (ws : List V) (S' : Ro), (xs.zip vs ++ S).Perm (ys.zip ws ++ S') → ys.length = ws.length →
      Rel K F (upd H l (.lst ws)) σD σ ((setP t js (.lst true ys), v) :: (S' ++ R)) ∧ Ext F H F (upd H l (.lst ws)) := by
  obtain ⟨L, ⟨L1, L23, o1, h23, rfl⟩, nd, nf⟩ := r.front.own
  obtain ⟨l, La, Lx, Lb, lc, rfl, ⟨vs, hl, ol⟩, back⟩ := o1.focus e
  refine ⟨l, vs, lc, hl, ol.toP.1, fun ys ws S' p hlen => ?_⟩
  have h23' : OwP K F H (S ++ (R ++ sl σD σ)) L23 := by rw [← List.append_assoc]; exact h23
  obtain ⟨L2, L3, rfl, h2, h3⟩ := h23'.split
  obtain ⟨M, pm, hM⟩ := (ol.toP.2.append h2).perm p
  obtain ⟨M1, M2, rfl, hM1, hM2⟩ := hM.split
  have all : ((La ++ (l :: Lx) ++ Lb) ++ (L2 ++ L3)).Perm (l :: (La ++ Lb ++ (Lx ++ L2) ++ L3)) := by
    have h1 : ((La ++ (l :: Lx) ++ Lb) ++ (L2 ++ L3)) = La ++ l :: (Lx ++ (Lb ++ (L2 ++ L3))) := by simp
    rw [h1]
    refine List.perm_middle.trans (.cons _ ?_)
    have h2 : La ++ Lb ++ (Lx ++ L2) ++ L3 = La ++ (Lb ++ (Lx ++ (L2 ++ L3))) := by simp
    rw [h2]
    exact (List.perm_append_comm_assoc _ _ _).append_left La
  have nd1 := all.nodup_iff.mp nd
  have nl : ∀ a ∈ La ++ Lb ++ (Lx ++ L2) ++ L3, a ≠ l := fun a ha z => (List.nodup_cons.mp nd1).1 (z ▸ ha)
  have nF : ∀ a, F a → a ≠ l := fun a fa z => nf l (all.mem_iff.mpr (by simp)) (z ▸ fa)
  have x : Ext F H F (upd H l (.lst ws)) := fun a fa => ⟨fa, upd_ne (nF a fa)⟩
  have kM : ∀ a ∈ M1 ++ M2, upd H l (.lst ws) a = H a := fun a ha => upd_ne (nl a (by
    have := pm.mem_iff.mpr ha
    simp at this ⊢
    rcases this with h | h <;> simp [h]))
  have o2 : Ow K F (upd H l (.lst ws)) (.lst true ys) (.ref l) (l :: M1) := by
    simp only [Ow]
    exact ⟨l, ws, M1, rfl, upd_same, OwL.ofP hlen (hM1.mono x fun a ha => kM a (by simp [ha])), rfl⟩
  have o3 := back F (upd H l (.lst ws)) (.lst true ys) (l :: M1) x (fun a ha => upd_ne (nl a (by simp at ha ⊢; rcases ha with h | h <;> simp [h]))) o2
  refine ⟨Rel.of r.mt ⟨⟨(La ++ (l :: M1) ++ Lb) ++ (M2 ++ L3), ⟨_, M2 ++ L3, o3, ?_, rfl⟩, ?_, ?_⟩, fun a fa => ?_⟩, x⟩
  · show OwP K F (upd H l (.lst ws)) ((S' ++ R) ++ sl σD σ) (M2 ++ L3)
    rw [List.append_assoc]
    exact (hM2.mono x fun a ha => kM a (by simp [ha])).append (h3.mono x fun a ha => upd_ne (nl a (by simp [ha])))
  · have p2 : ((La ++ (l :: M1) ++ Lb) ++ (M2 ++ L3)).Perm ((La ++ (l :: Lx) ++ Lb) ++ (L2 ++ L3)) := by
      refine List.Perm.trans ?_ all.symm
      have h1 : ((La ++ (l :: M1) ++ Lb) ++ (M2 ++ L3)) = La ++ l :: (M1 ++ (Lb ++ (M2 ++ L3))) := by simp
      rw [h1]
      refine List.perm_middle.trans (.cons _ ?_)
      have h2 : La ++ Lb ++ (Lx ++ L2) ++ L3 = La ++ (Lb ++ ((Lx ++ L2) ++ L3)) := by simp
      rw [h2]
      refine List.Perm.append_left La ?_
      refine (List.perm_append_comm_assoc _ _ _).trans (List.Perm.append_left Lb ?_)
      rw [← List.append_assoc]
      exact pm.symm.append_right L3
    exact p2.nodup_iff.mpr nd
  · intro a ha fa
    refine nf a ?_ fa
    simp only [List.mem_append, List.mem_cons] at ha ⊢
    rcases ha with ((h | h | h) | h) | h | h
    · simp [h]
    · simp [h]
    · have := pm.mem_iff.mpr (List.mem_append_left M2 h)
      rcases List.mem_append.mp this with z | z <;> simp [z]
    · simp [h]
    · have := pm.mem_iff.mpr (List.mem_append_right M1 h)
      rcases List.mem_append.mp this with z | z <;> simp [z]
    · simp [h]
  · rw [upd_ne (nF a fa)]; exact r.g.dom a fa
end
end DD
namespace DD
open PySem PySem.Spec PyProof.Rows L2
def evI : List DP → DSt → Option (List Int)
  | [], _ => some []
  | p :: ps, σ => (p σ).bind fun d => match d with | .int i => (evI ps σ).map fun r => i :: r | _ => none
theorem evI_snoc : ∀ {js : List DP} {p : DP} {σ : DSt} {path : List Int}, evI (js ++ [p]) σ = some path → ∃ pre i, path = pre ++ [i] ∧ evI js σ = some pre ∧ p σ = some (.int i)
  | [], p, σ, path, h => by
    simp only [List.nil_append, evI] at h
    rcases hp : p σ with _ | d
    · rw [hp] at h; cases h
    · rw [hp] at h
      cases d <;> first | (cases h; exact ⟨[], _, rfl, rfl, rfl⟩) | cases h
  | q :: js, p, σ, path, h => by
    simp only [List.cons_append, evI] at h
    rcases hq : q σ with _ | d
    · rw [hq] at h; cases h
    · rw [hq] at h
      simp only [Option.bind_some] at h
      cases d with
      | int i =>
        simp only at h
        rcases hr : evI (js ++ [p]) σ with _ | r
        · rw [hr] at h; cases h
        · rw [hr] at h; cases h
          obtain ⟨pre, k, rfl, h2, h3⟩ := evI_snoc hr
          refine ⟨i :: pre, k, rfl, ?_, h3⟩
          simp only [evI, hq, Option.bind_some, h2, Option.map_some]
      | _ => cases h
theorem Lc.uniq {H : Hp} : ∀ {js : List Int} {v w w' : V}, Lc H v js w → Lc H v js w' → w = w'
  | [], _, _, _, h, h' => h.trans h'.symm
  | j :: js, _, _, _, ⟨a, vs, u, e, h, hu, r⟩, ⟨a', vs', u', e', h', hu', r'⟩ => by
    subst e
    cases e'
    have ev : vs = vs' := by
      rcases h with h | h <;> rcases h' with h' | h' <;> rw [h] at h' <;> cases h' <;> rfl
    subst ev
    rw [hu] at hu'
    cases hu'
    exact Lc.uniq r r'
/-- an expression that names a place in the i-th slot's value -/
def rP (K : PySem.W.Frag) (i : Nat) (js : List DP) : TE := fun σ H Q => ∃ F R σD v0 path w, Rel K F H σD σ R ∧ σ[i]? = some (some v0) ∧ evI js σD = some path ∧ Lc H v0 path w ∧ ∀ F' H', Grow F H F' H' → Q w H'
def QP (X : Cx) (e : Expr) (i : Nat) (js : List DP) : Prop := PE X e (rP X.K i js)
section
variable {X : Cx} {e o a b : Expr} {es : List Expr} {p q : DP} {c c' : DE} {pos apos cpos : Pos} {i : Nat} {js : List DP}
theorem qp_v (i : Nat) {x : Str} {pos : Pos} (hN : X.N[i]? = some x := by rfl) (hv : Vis X.env.scope x := by first | exact Or.inl rfl | exact Or.inr (Or.inl rfl) | exact Or.inr (Or.inr rfl)) (hd : (x == ("__debug__" : Str)) = false := by decide)
    (hcd : (x == ("__classdict__" : Str)) = false := by decide) : QP X (.Name x pos) i [] := PE_imp (pe_var hN hv hd hcd) fun σ H Q ⟨F, R, σD, v0, path, w, r, hv0, ep, lc, k⟩ => by
  cases ep
  cases lc
  exact ⟨_, hv0, k F H Grow.refl⟩
theorem qp_ix (ho : QP X a i js) (hb : QB X b q) (hs : PlainIx b := by intro _ _; rfl) : QP X (.Subscript a b pos) i (js ++ [q]) := PE_imp (pe_ix ix_seq ho hb hs) fun σ H Q ⟨F, R, σD, v0, path, w, r, hv0, ep, lc, k⟩ => by
  obtain ⟨pre, j, rfl, e1, e2⟩ := evI_snoc ep
  obtain ⟨u, l1, l2⟩ := lc.snoc
  refine ⟨F, R, σD, v0, pre, u, r, hv0, e1, l1, fun F1 H1 g1 => ?_⟩
  refine ⟨F1, R, σD, _, r.grow g1, e2, fun F2 H2 y g2 b2 => ?_⟩
  obtain ⟨ad, vs, z, rfl, hh, hz, rfl⟩ := l2.grow (g1.trans g2).k
  rcases hh with hh | hh
  · exact .inl ⟨ad, vs, j, _, rfl, b2.int, .inl (.inl hh), hz, k F2 H2 (g1.trans g2)⟩
  · exact .inr (.inl ⟨ad, vs, j, _, rfl, b2.int, .inl (.inl hh), hz, k F2 H2 (g1.trans g2)⟩)
/-! ### append -/
def dApp (i : Nat) (js : List DP) (p : DP) : DE := fun σ => (dget σ i).bind fun t => (evI js σ).bind fun path => (getP t path).bind fun n => match n with
  | .lst true xs => (p σ).bind fun y => match y.sc with
    | some _ => if xs.length < sizeLine then some (.non, σ.set i (some (setP t path (.lst true (xs ++ [y]))))) else none
    | none => none
  | _ => none
/-- o.append(e), e an int, a bool, a text -/
theorem qe_appP (ho : QP X o i js) (he : QB X e p) (hbase : attributeBase o "append" X.env (eval o X.env) = eval o X.env := by rfl) (hfew : ((backTo cpos (starEach [e] X.env)).all (fun x => !x.1) && (backToKw cpos (keywordEach [] X.env)).all (fun x => x.1.isSome)
      && decide (([e] : List Expr).length + ([] : List Keyword).length + (if ([] : List Keyword).isEmpty then 0 else 1) < 30)) = true := by rfl) (hline : (apos.endLine == cpos.line) = true := by rfl)
    (hst : starEach [e] X.env = (false, eval e X.env) :: starEach [] X.env := by rfl) : QE X (.Call (.Attribute o "append" apos) [e] [] cpos) (dApp i js p) :=
  PE_imp (pe_bm PySem.F.plainAttrs_list PySem.F.slot_list_append PySem.F.type_list_append mt_append ho (pa_cons he pa_nil hst) hbase hfew hline hst rfl) fun σ H Q ⟨F, R, σD, d, σD', r, ec, k⟩ => by
    unfold dApp at ec
    rcases h1 : dget σD i with _ | t
    · rw [h1] at ec; cases ec
    · rw [h1] at ec; simp only [Option.bind_some] at ec
      rcases h2 : evI js σD with _ | path
      · rw [h2] at ec; cases ec
      · rw [h2] at ec; simp only [Option.bind_some] at ec
        rcases h3 : getP t path with _ | n
        · rw [h3] at ec; cases ec
        · rw [h3] at ec; simp only [Option.bind_some] at ec
          split at ec
          · rename_i xs
            rcases h4 : p σD with _ | y
            · rw [h4] at ec; cases ec
            · rw [h4] at ec; simp only [Option.bind_some] at ec
              rcases h5 : y.sc with _ | yw
              · rw [h5] at ec; cases ec
              · rw [h5] at ec
                simp only at ec
                split at ec
                · rename_i hz
                  cases ec
                  obtain ⟨v0, hv0, r0⟩ := r.take (dget_some h1)
                  obtain ⟨l0, vs0, lc0, hl0, _⟩ := Rel.listAt (S := []) r0 h3
                  refine ⟨F, R, σD, v0, path, .ref l0, r, hv0, h2, lc0, fun F1 H1 g1 => ⟨.inl ⟨rfl, vs0, .inl (.inl (g1.k _ _ hl0))⟩, ?_⟩⟩
                  refine ⟨F1, R, σD, y, r.grow g1, h4, fun F2 H2 u g2 b2 => ?_⟩
                  have hu : u = yw := b2.sc h5
                  subst hu
                  have g3 := g1.trans g2
                  obtain ⟨v1, hv1, r1⟩ := (r.grow g3).take (dget_some h1)
                  rw [hv0] at hv1; cases hv1
                  have r2 : Rel X.K F2 H2 (σD.set i none) σ ((t, v0) :: ([(y, u)] ++ R)) := (r1.scal (d := y) h5).perm (.swap _ _ _)
                  obtain ⟨l, vs, lc, hl, hlen, upd'⟩ := r2.listAt h3
                  have el : l0 = l := by
                    have := (lc0.grow g3.k).uniq lc
                    injection this
                  subst el
                  obtain ⟨r3, x3⟩ := upd' (xs ++ [y]) (vs ++ [u]) [] (by rw [List.zip_append hlen]; simp) (by simp [hlen])
                  refine ⟨l0, vs, u, rfl, rfl, hl, by omega, ?_⟩
                  have r4 := (Rel.put (R := R) r3 hv0)
                  rw [List.set_set] at r4
                  exact k F2 _ .non (g3.x.trans x3) (r4.scal rfl)
                · cases ec
          · cases ec
end
end DD
namespace DD
open PySem PySem.Spec PyProof.Rows L2
section
variable {X : Cx} {e o a b : Expr} {es : List Expr} {p q : DP} {c c' : DE} {pos apos cpos : Pos} {i : Nat} {js : List DP}
/-! ### x.append(e), e anything -/
def dAppV (i : Nat) (c : DE) : DE := fun σ => match dget σ i with
  | some (.lst _ _) => (c σ).bind fun p => match dget p.2 i with
    | some (.lst true xs) => if xs.length < sizeLine then some (.non, p.2.set i (some (.lst true (xs ++ [p.1])))) else none
    | _ => none
  | _ => none
theorem qe_appV (i : Nat) {x : Str} {npos : Pos} (he : QE X e c) (hN : X.N[i]? = some x := by rfl) (hv : Vis X.env.scope x := by first | exact Or.inl rfl | exact Or.inr (Or.inl rfl) | exact Or.inr (Or.inr rfl)) (hd : (x == ("__debug__" : Str)) = false := by decide)
    (hcd : (x == ("__classdict__" : Str)) = false := by decide) (hbase : attributeBase (.Name x npos) "append" X.env (eval (.Name x npos) X.env) = eval (.Name x npos) X.env := by rfl) (hfew : ((backTo cpos (starEach [e] X.env)).all (fun x => !x.1) && (backToKw cpos (keywordEach [] X.env)).all (fun x => x.1.isSome)
      && decide (([e] : List Expr).length + ([] : List Keyword).length + (if ([] : List Keyword).isEmpty then 0 else 1) < 30)) = true := by rfl) (hline : (apos.endLine == cpos.line) = true := by rfl)
    (hst : starEach [e] X.env = (false, eval e X.env) :: starEach [] X.env := by rfl) : QE X (.Call (.Attribute (.Name x npos) "append" apos) [e] [] cpos) (dAppV i c) :=
  PE_imp (pe_bm PySem.F.plainAttrs_list PySem.F.slot_list_append PySem.F.type_list_append mt_append (pe_var hN hv hd hcd) (pa_cons he pa_nil hst) hbase hfew hline hst rfl) fun σ H Q ⟨F, R, σD, d, σD', r, ec, k⟩ => by
    unfold dAppV at ec
    split at ec
    · rename_i own ys h0
      obtain ⟨v0, hv0, b0⟩ := r.get (dget_some h0)
      obtain ⟨a0, vs0, rfl, sq0, _⟩ := b0.lst
      rcases h1 : c σD with _ | ⟨y, σ1⟩
      · rw [h1] at ec; cases ec
      · rw [h1] at ec; simp only [Option.bind_some] at ec
        split at ec
        · rename_i xs h2
          split at ec
          · rename_i hz
            cases ec
            refine ⟨_, hv0, .inl ⟨rfl, vs0, sq0⟩, F, R, σD, y, σ1, r, h1, fun F1 H1 v x1 r1 => ?_⟩
            obtain ⟨v1, hv1, r2⟩ := r1.take (dget_some h2)
            rw [hv0] at hv1; cases hv1
            obtain ⟨l, vs, lc, hl, hlen, upd'⟩ := Rel.listAt (S := [(y, v)]) (js := []) (xs := xs) r2 rfl
            cases lc
            obtain ⟨r3, x3⟩ := upd' (xs ++ [y]) (vs ++ [v]) [] (by rw [List.zip_append hlen]; simp) (by simp [hlen])
            refine ⟨_, vs, v, rfl, rfl, hl, by omega, ?_⟩
            have r4 := (Rel.put (R := R) r3 hv0)
            rw [List.set_set] at r4
            exact k F1 _ .non (x1.trans x3) (r4.scal rfl)
          · cases ec
        · cases ec
    · cases ec
/-! ### x.pop() -/
def dPopV (i : Nat) : DE := fun σ => match dget σ i with
  | some (.lst true xs) => (xs[xs.length - 1]?).map fun y => (y, σ.set i (some (.lst true xs.dropLast)))
  | _ => none
theorem zip_dropLast {α β : Type} {xs : List α} {ys : List β} {x : α} {y : β} (hl : xs.length = ys.length) (hx : xs[xs.length - 1]? = some x) (hy : ys[ys.length - 1]? = some y) : xs.zip ys = xs.dropLast.zip ys.dropLast ++ [(x, y)] := by
  have nx : xs ≠ [] := by rintro rfl; simp at hx
  have ny : ys ≠ [] := by rintro rfl; simp at hy
  have ex : xs.dropLast ++ [x] = xs := by
    have := List.dropLast_concat_getLast nx
    rw [List.getLast_eq_getElem] at this
    rw [List.getElem?_eq_getElem (by have := List.length_pos_iff.mpr nx; omega)] at hx
    cases hx; exact this
  have ey : ys.dropLast ++ [y] = ys := by
    have := List.dropLast_concat_getLast ny
    rw [List.getLast_eq_getElem] at this
    rw [List.getElem?_eq_getElem (by have := List.length_pos_iff.mpr ny; omega)] at hy
    cases hy; exact this
  have : (xs.dropLast ++ [x]).zip (ys.dropLast ++ [y]) = xs.dropLast.zip ys.dropLast ++ [x].zip [y] := List.zip_append (by simp [hl])
  rw [ex, ey] at this
  exact this
theorem qe_popV (i : Nat) {x : Str} {npos : Pos} (hN : X.N[i]? = some x := by rfl) (hv : Vis X.env.scope x := by first | exact Or.inl rfl | exact Or.inr (Or.inl rfl) | exact Or.inr (Or.inr rfl)) (hd : (x == ("__debug__" : Str)) = false := by decide)
    (hcd : (x == ("__classdict__" : Str)) = false := by decide) (hbase : attributeBase (.Name x npos) "pop" X.env (eval (.Name x npos) X.env) = eval (.Name x npos) X.env := by rfl) (hline : (apos.endLine == cpos.line) = true := by rfl) :
    QE X (.Call (.Attribute (.Name x npos) "pop" apos) [] [] cpos) (dPopV i) :=
  PE_imp (pe_bm0 PySem.F.plainAttrs_list PySem.F.slot_list_pop PySem.F.type_list_pop mt_pop (pe_var hN hv hd hcd) hbase hline) fun σ H Q ⟨F, R, σD, d, σD', r, ec, k⟩ => by
    unfold dPopV at ec
    split at ec
    · rename_i xs h2
      obtain ⟨y, e1, e2⟩ := map_pair ec
      cases e2
      obtain ⟨v0, hv0, r2⟩ := r.take (dget_some h2)
      obtain ⟨l, vs, lc, hl, hlen, upd'⟩ := Rel.listAt (S := []) (js := []) (xs := xs) r2 rfl
      cases lc
      have hz : ∃ z, vs[vs.length - 1]? = some z := by
        rw [← hlen]
        have : xs.length - 1 < vs.length := by rw [← hlen]; exact (List.getElem?_eq_some_iff.mp e1).1
        exact ⟨_, List.getElem?_eq_getElem this⟩
      obtain ⟨z, hz⟩ := hz
      obtain ⟨r3, x3⟩ := upd' xs.dropLast vs.dropLast [(d, z)] (by rw [zip_dropLast hlen e1 hz]; simp) (by simp [hlen])
      refine ⟨_, hv0, .inl ⟨rfl, vs, .inl (.inl hl)⟩, _, vs, z, rfl, rfl, hl, hz, ?_⟩
      have r4 := (Rel.put (R := (d, z) :: R) r3 hv0)
      rw [List.set_set] at r4
      exact k F _ z x3 r4
    · cases ec
/-! ### o[k] = value -/
def gSet (i : Nat) (js : List DP) (q : DP) : DG := fun d σ => (dget σ i).bind fun t => (evI js σ).bind fun path => (getP t path).bind fun n => match n with
  | .lst true xs => (q σ).bind fun y => match y with
    | .int k => (ixN xs.length k).map fun j => σ.set i (some (setP t path (.lst true (xs.set j d))))
    | _ => none
  | _ => none
theorem zip_set : ∀ {xs : List D} {vs : List V} {j : Nat} {d : D} {v : V}, xs.length = vs.length → j < xs.length → ∃ x w, ((xs.zip vs) ++ [(d, v)]).Perm ((xs.set j d).zip (vs.set j v) ++ [(x, w)])
  | x :: xs, w :: vs, 0, d, v, _, _ => ⟨x, w, by
      show ((x, w) :: (xs.zip vs ++ [(d, v)])).Perm ((d, v) :: (xs.zip vs ++ [(x, w)]))
      have h1 : ((x, w) :: (xs.zip vs ++ [(d, v)])).Perm ((x, w) :: (d, v) :: xs.zip vs) := (List.perm_append_comm).cons _
      have h2 : ((d, v) :: (xs.zip vs ++ [(x, w)])).Perm ((d, v) :: (x, w) :: xs.zip vs) := (List.perm_append_comm).cons _
      exact (h1.trans (.swap _ _ _)).trans h2.symm⟩
  | x :: xs, w :: vs, j + 1, d, v, hl, hj => by
    obtain ⟨y, u, h⟩ := zip_set (xs := xs) (vs := vs) (j := j) (d := d) (v := v) (by simpa using hl) (by simpa using hj)
    exact ⟨y, u, h.cons _⟩
theorem qg_set (ho : QP X o i js) (hq : QB X a q) (ha : ∀ v, assign (.Subscript o a pos) X.env v = (do
      let ov ← holding [v] (eval o X.env)
      let iv ← holding [v, ov] (eval a X.env)
      standAt pos
      holding [v, ov, iv] (setItem ov iv v)
      release [v, ov, iv] []) := by intro _; rfl) : QG X (.Subscript o a pos) (gSet i js q) [] := PG_imp (pg_sub ho hq set_list ha) fun v σ H Q ⟨F, R, σD, d, σD', r, ec, k⟩ => by
  unfold gSet at ec
  rcases h1 : dget σD i with _ | t
  · rw [h1] at ec; cases ec
  · rw [h1] at ec; simp only [Option.bind_some] at ec
    rcases h2 : evI js σD with _ | path
    · rw [h2] at ec; cases ec
    · rw [h2] at ec; simp only [Option.bind_some] at ec
      rcases h3 : getP t path with _ | n
      · rw [h3] at ec; cases ec
      · rw [h3] at ec; simp only [Option.bind_some] at ec
        split at ec
        · rename_i xs
          rcases h4 : q σD with _ | y
          · rw [h4] at ec; cases ec
          · rw [h4] at ec; simp only [Option.bind_some] at ec
            split at ec
            · rename_i kk
              rcases h5 : ixN xs.length kk with _ | j
              · rw [h5] at ec; cases ec
              · rw [h5] at ec; cases ec
                obtain ⟨v0, hv0, r0⟩ := r.take (dget_some h1)
                obtain ⟨l0, vs0, lc0, hl0, _⟩ := Rel.listAt (S := [(d, v)]) r0 h3
                refine ⟨F, _, σD, v0, path, .ref l0, r, hv0, h2, lc0, fun F1 H1 g1 => ?_⟩
                refine ⟨F1, _, σD, _, r.grow g1, h4, fun F2 H2 u g2 b2 => ?_⟩
                have g3 := g1.trans g2
                obtain ⟨v1, hv1, r1⟩ := (r.grow g3).take (dget_some h1)
                rw [hv0] at hv1; cases hv1
                obtain ⟨l, vs, lc, hl, hlen, upd'⟩ := Rel.listAt (S := [(d, v)]) r1 h3
                have el : l0 = l := by
                  have := (lc0.grow g3.k).uniq lc
                  injection this
                subst el
                have hj : j < xs.length := (ixN_seq h5).2.1
                obtain ⟨xo, wo, pm⟩ := zip_set (d := d) (v := v) hlen hj
                obtain ⟨r3, x3⟩ := upd' (xs.set j d) (vs.set j v) [(xo, wo)] pm (by simp [hlen])
                refine ⟨l0, vs, kk, j, rfl, b2.int, hl, by rw [← hlen]; exact h5, ?_⟩
                have r4 := (Rel.put (R := (xo, wo) :: R) r3 hv0)
                rw [List.set_set] at r4
                exact k F2 _ σ (g3.x.trans x3) Kp.refl r4.pop
            · cases ec
        · cases ec
end
end DD
namespace DD
open PySem PySem.Spec PyProof.Rows L2
section
variable {K : PySem.W.Frag} {F F' : Addr → Prop} {H H' : Hp} {σD : DSt} {σ : St} {R S : Ro}
theorem OwL.drop : ∀ {n : Nat} {xs : List D} {vs : List V}, OwL K F H xs vs [] → OwL K F H (xs.drop n) (vs.drop n) []
  | 0, _, _, h => h
  | n + 1, [], vs, h => by simp only [OwL] at h; rw [h.1]; simp [OwL]
  | n + 1, x :: xs, vs, h => by
    simp only [OwL] at h
    obtain ⟨v, ws, L1, L2, rfl, h1, h2, e⟩ := h
    obtain ⟨rfl, rfl⟩ := List.append_eq_nil_iff.mp e.symm
    exact OwL.drop (n := n) h2
theorem OwL.take : ∀ {n : Nat} {xs : List D} {vs : List V}, OwL K F H xs vs [] → OwL K F H (xs.take n) (vs.take n) []
  | 0, _, _, _ => by simp [OwL]
  | n + 1, [], vs, h => by simp only [OwL] at h; rw [h.1]; simp [OwL]
  | n + 1, x :: xs, vs, h => by
    simp only [OwL] at h
    obtain ⟨v, ws, L1, L2, rfl, h1, h2, e⟩ := h
    obtain ⟨rfl, rfl⟩ := List.append_eq_nil_iff.mp e.symm
    simp only [List.take_succ_cons, OwL]
    exact ⟨v, ws.take n, [], [], rfl, h1, OwL.take (n := n) h2, rfl⟩
theorem Rel.pushL : ∀ {xs : List D} {vs : List V}, OwL K F H xs vs [] → Rel K F H σD σ R → Rel K F H σD σ (xs.zip vs ++ R)
  | [], vs, h, r => by simp only [OwL] at h; rw [h.1]; exact r
  | x :: xs, vs, h, r => by
    simp only [OwL] at h
    obtain ⟨v, ws, L1, L2, rfl, h1, h2, e⟩ := h
    obtain ⟨rfl, rfl⟩ := List.append_eq_nil_iff.mp e.symm
    exact (Rel.pushL h2 r).push h1
end
/-! ### slices -/
def cutG {α : Type} (xs : List α) (lo hi : Option Int) : List α := (xs.drop (HT.sIx xs.length 0 lo)).take (HT.sIx xs.length xs.length hi - HT.sIx xs.length 0 lo)
def evO : Option DP → DSt → Option (Option Int)
  | none, _ => some none
  | some p, σ => (p σ).bind fun d => match d with | .int i => some (some i) | _ => none
def rO (K : PySem.W.Frag) (p : Option DP) : TO := fun σ H Q => ∃ F R σD o, Rel K F H σD σ R ∧ evO p σD = some o ∧ ∀ F' H', Grow F H F' H' → Q o H'
def QO (X : Cx) (e : Option Expr) (p : Option DP) : Prop := PO X e (rO X.K p)
theorem PO_imp {X : Cx} {e : Option Expr} {t t' : TO} (h : PO X e t) (i : ∀ σ H Q, t' σ H Q → t σ H Q) : PO X e t' := fun pins s σ H Q I h' => h pins s σ H Q I (i σ H Q h')
section
variable {X : Cx} {e a b : Expr} {lo hi : Option Expr} {pl ph : Option DP} {p q : DP} {c c' : DE} {pos p2 : Pos} {i : Nat}
theorem qo_none : QO X none none := PO_imp po_none fun σ H Q ⟨F, R, σD, o, r, ec, k⟩ => by cases ec; exact k F H Grow.refl
theorem qo_some (h : QB X e p) : QO X (some e) (some p) := PO_imp (po_some h) fun σ H Q ⟨F, R, σD, o, r, ec, k⟩ => by
  simp only [evO] at ec
  rcases h1 : p σD with _ | d
  · rw [h1] at ec; cases ec
  · rw [h1] at ec; simp only [Option.bind_some] at ec
    split at ec
    · cases ec
      exact ⟨F, R, σD, _, r, h1, fun F' H' v g b => ⟨_, b.int, k F' H' g⟩⟩
    · cases ec
/-- a copy of a part; what is in it is shared -/
def dSl (c : DE) (pl ph : Option DP) : DE := fun σ => (c σ).bind fun p => match p.1 with
  | .lst _ xs => (evO pl p.2).bind fun l => (evO ph p.2).map fun h => (.lst true (cutG (D.fzL xs) l h), p.2)
  | _ => none
theorem qe_slice (he : QE X e c) (hl : QO X lo pl) (hh : QO X hi ph) : QE X (.Subscript e (.Slice lo hi none p2) pos) (dSl c pl ph) := PE_imp (pe_slice sl_list he hl hh) fun σ H Q ⟨F, R, σD, d, σD', r, ec, k⟩ => by
  unfold dSl at ec
  rcases h1 : c σD with _ | ⟨t, σ1⟩
  · rw [h1] at ec; cases ec
  · rw [h1] at ec; simp only [Option.bind_some] at ec
    refine ⟨F, R, σD, t, σ1, r, h1, fun F1 H1 v x1 r1 => ?_⟩
    split at ec
    · rename_i own xs
      rcases h2 : evO pl σ1 with _ | l
      · rw [h2] at ec; cases ec
      · rw [h2] at ec; simp only [Option.bind_some] at ec
        obtain ⟨h, h3, e3⟩ := map_pair ec
        cases e3
        refine ⟨F1, _, _, l, r1, h2, fun F2 H2 g2 => ?_⟩
        refine ⟨F2, _, _, h, r1.grow g2, h3, fun F3 H3 g3 => ?_⟩
        have r3 := (r1.grow g2).grow g3
        obtain ⟨F4, x4, r4, o4⟩ := r3.freeze
        simp only [D.fz, Ow] at o4
        obtain ⟨a, vs, rfl, fl, ol, _⟩ := o4
        refine ⟨a, vs, rfl, fl.sq, fun pp hp => ?_⟩
        have oc : OwL X.K F4 H3 (cutG (D.fzL xs) l h) (cutV vs l h) [] := by
          unfold cutG cutV
          rw [← ol.length]
          exact (ol.drop).take
        obtain ⟨r5, x5⟩ := (Rel.pushL oc r4.pop).layL oc.length.symm hp
        exact k F4 _ _ ((x1.trans (g2.x.trans g3.x)).trans (x4.trans x5)) r5
    · cases ec
/-! ### list + list (both the code's own) -/
def dCat (c c' : DE) : DE := fun σ => (c σ).bind fun p => (c' p.2).bind fun q => match p.1, q.1 with
  | .lst true xs, .lst true ys => if xs.length + ys.length ≤ sizeLine then some (.lst true (xs ++ ys), q.2) else none
  | _, _ => none
theorem qe_cat (ha : QE X a c) (hb : QE X b c') : QE X (.BinOp a .Add b pos) (dCat c c') := PE_imp (pe_op op_cat ha hb) fun σ H Q ⟨F, R, σD, d, σD', r, ec, k⟩ => by
  unfold dCat at ec
  rcases h1 : c σD with _ | ⟨x, σ1⟩
  · rw [h1] at ec; cases ec
  · rw [h1] at ec; simp only [Option.bind_some] at ec
    rcases h2 : c' σ1 with _ | ⟨y, σ2⟩
    · rw [h2] at ec; cases ec
    · rw [h2] at ec; simp only [Option.bind_some] at ec
      split at ec
      · rename_i xs ys
        split at ec
        · rename_i hz
          cases ec
          refine ⟨F, R, σD, _, σ1, r, h1, fun F1 H1 v x1 r1 => ?_⟩
          refine ⟨F1, _, σ1, _, _, r1, h2, fun F2 H2 u x2 r2 => ?_⟩
          obtain ⟨l2, ws, rfl, hw, hlw, r3⟩ := r2.openL
          have r3' := (r3.pop).perm (List.perm_middle (a := ((.lst true xs : D), v)) (l₁ := ys.zip ws) (l₂ := R))
          obtain ⟨l1, us, rfl, hu, hlu, r4⟩ := r3'.openL
          refine ⟨l1, l2, us, ws, rfl, rfl, hu, hw, by rw [← hlu, ← hlw]; exact hz, fun p hp => ?_⟩
          have r5 : Rel X.K F2 H2 σD' σ ((xs ++ ys).zip (us ++ ws) ++ R) := by
            rw [List.zip_append hlu, List.append_assoc]; exact r4.pop
          obtain ⟨r6, x6⟩ := r5.layL (by simp [hlu, hlw]) hp
          exact k F2 _ _ ((x1.trans x2).trans x6) r6
        · cases ec
      · cases ec
/-! ### [scalars] * n -/
def allSc (xs : List D) : Bool := xs.all fun d => d.sc.isSome
def dRep (c c' : DE) : DE := fun σ => (c σ).bind fun p => (c' p.2).bind fun q => match p.1, q.1 with
  | .lst true xs, .int n => if allSc xs = true ∧ -(2 ^ 63) ≤ n ∧ n < 2 ^ 63 ∧ xs.length * n.toNat ≤ sizeLine then some (.lst true (List.replicate n.toNat xs).flatten, q.2) else none
  | _, _ => none
theorem OwL.sc {K : PySem.W.Frag} {F : Addr → Prop} {H : Hp} : ∀ {xs : List D} {vs : List V} {L : List Addr}, OwL K F H xs vs L → allSc xs = true → L = [] ∧ ∀ F' H', OwL K F' H' xs vs []
  | [], vs, L, h, _ => by simp only [OwL] at h ⊢; exact ⟨h.2, fun _ _ => ⟨h.1, trivial⟩⟩
  | x :: xs, vs, L, h, s => by
    simp only [OwL] at h
    obtain ⟨v, ws, L1, L2, rfl, h1, h2, rfl⟩ := h
    simp only [allSc, List.all_cons, Bool.and_eq_true] at s
    obtain ⟨w, hw⟩ := Option.isSome_iff_exists.mp s.1
    obtain ⟨rfl, rfl⟩ := h1.sc hw
    obtain ⟨rfl, h3⟩ := OwL.sc h2 s.2
    exact ⟨rfl, fun F' H' => by simp only [OwL]; exact ⟨v, ws, [], [], rfl, Ow.of_sc hw, h3 F' H', rfl⟩⟩
theorem OwL.app {K : PySem.W.Frag} {F : Addr → Prop} {H : Hp} : ∀ {xs ys : List D} {vs ws : List V}, OwL K F H xs vs [] → OwL K F H ys ws [] → OwL K F H (xs ++ ys) (vs ++ ws) []
  | [], ys, vs, ws, h, h' => by simp only [OwL] at h; rw [h.1]; exact h'
  | x :: xs, ys, vs, ws, h, h' => by
    simp only [OwL] at h
    obtain ⟨v, us, L1, L2, rfl, h1, h2, e⟩ := h
    obtain ⟨rfl, rfl⟩ := List.append_eq_nil_iff.mp e.symm
    simp only [List.cons_append, OwL]
    exact ⟨v, us ++ ws, [], [], rfl, h1, OwL.app h2 h', rfl⟩
theorem OwL.rep {K : PySem.W.Frag} {F : Addr → Prop} {H : Hp} {xs : List D} {vs : List V} (h : OwL K F H xs vs []) : ∀ n : Nat, OwL K F H (List.replicate n xs).flatten (List.replicate n vs).flatten []
  | 0 => by simp [OwL]
  | n + 1 => by
    rw [List.replicate_succ, List.replicate_succ, List.flatten_cons, List.flatten_cons]
    exact OwL.app h (OwL.rep h n)
theorem qe_rep (ha : QE X a c) (hb : QE X b c') : QE X (.BinOp a .Mult b pos) (dRep c c') := PE_imp (pe_op op_rep ha hb) fun σ H Q ⟨F, R, σD, d, σD', r, ec, k⟩ => by
  unfold dRep at ec
  rcases h1 : c σD with _ | ⟨x, σ1⟩
  · rw [h1] at ec; cases ec
  · rw [h1] at ec; simp only [Option.bind_some] at ec
    rcases h2 : c' σ1 with _ | ⟨y, σ2⟩
    · rw [h2] at ec; cases ec
    · rw [h2] at ec; simp only [Option.bind_some] at ec
      split at ec
      · rename_i xs n
        split at ec
        · rename_i hz
          cases ec
          refine ⟨F, R, σD, _, σ1, r, h1, fun F1 H1 v x1 r1 => ?_⟩
          refine ⟨F1, _, σ1, _, _, r1, h2, fun F2 H2 u x2 r2 => ?_⟩
          have hu : u = .int n := (r2.bor (by simp)).int
          have r3 := r2.pop
          obtain ⟨l, vs, rfl, hw, hlw, r4⟩ := r3.openL
          obtain ⟨L, ⟨L1, L2, o1, h12, _⟩, _, _⟩ := r3.front.own
          simp only [Ow] at o1
          obtain ⟨l', vs', L', e1, e2, ol, _⟩ := o1
          cases e1
          rw [hw] at e2; cases e2
          have os := (ol.sc hz.1).2 F2 H2
          refine ⟨l, n, vs, rfl, hu, hw, hz.2.1, hz.2.2.1, by rw [← hlw]; exact hz.2.2.2, fun p hp => ?_⟩
          have orp := os.rep n.toNat
          obtain ⟨r6, x6⟩ := (Rel.pushL orp r3.pop).layL orp.length.symm hp
          exact k F2 _ _ ((x1.trans x2).trans x6) r6
        · cases ec
      · cases ec
/-! ### -x, and others -/
def gNeg : D → Option D
  | .int i => some (.int (-i))
  | _ => none
def pNeg (p : DP) : DP := fun σ => (p σ).bind gNeg
def dNeg (c : DE) : DE := fun σ => (c σ).bind fun p => (gNeg p.1).map fun d => (d, p.2)
theorem gNeg_some {x d : D} (h : gNeg x = some d) : ∃ i, x = .int i ∧ d = .int (-i) := by
  cases x <;> first | (cases h; exact ⟨_, rfl, rfl⟩) | cases h
theorem qb_neg (ha : QB X a p) : QB X (.UnaryOp .USub a pos) (pNeg p) := PE_imp (pe_un un_neg ha) fun σ H Q ⟨F, R, σD, d, r, ec, k⟩ => by
  unfold pNeg at ec
  rcases h1 : p σD with _ | x
  · rw [h1] at ec; cases ec
  · rw [h1] at ec; simp only [Option.bind_some] at ec
    obtain ⟨i, rfl, rfl⟩ := gNeg_some ec
    exact ⟨F, R, σD, _, r, h1, fun F1 H1 v g1 b1 => ⟨i, b1.int, k F1 H1 _ g1 ⟨[], Ow.of_sc rfl⟩⟩⟩
theorem qe_neg (ha : QE X a c) : QE X (.UnaryOp .USub a pos) (dNeg c) := PE_imp (pe_un un_neg ha) fun σ H Q ⟨F, R, σD, d, σD', r, ec, k⟩ => by
  unfold dNeg at ec
  rcases h1 : c σD with _ | ⟨x, σ1⟩
  · rw [h1] at ec; cases ec
  · rw [h1] at ec; simp only [Option.bind_some] at ec
    obtain ⟨z, e1, e2⟩ := map_pair ec
    cases e2
    obtain ⟨i, rfl, rfl⟩ := gNeg_some e1
    exact ⟨F, R, σD, _, _, r, h1, fun F1 H1 v x1 r1 => ⟨i, (r1.bor (by simp)).int, k F1 H1 _ x1 (r1.pop.scal rfl)⟩⟩
def dIfE (t : DT) (c c' : DE) : DE := fun σ => (t σ).bind fun p => if p.1 = true then c p.2 else c' p.2
theorem qe_if {t : DT} {cnd : Expr} (ht : QT X cnd t) (ha : QE X a c) (hb : QE X b c') : QE X (.IfExp cnd a b pos) (dIfE t c c') := PE_imp (pe_ifExp ht ha hb) fun σ H Q ⟨F, R, σD, d, σD', r, ec, k⟩ => by
  unfold dIfE at ec
  rcases h : t σD with _ | ⟨x, σ1⟩
  · rw [h] at ec; cases ec
  · rw [h] at ec; simp only [Option.bind_some] at ec
    refine ⟨F, R, σD, x, σ1, r, h, fun F1 H1 x1 r1 => ?_⟩
    cases x
    · simp only [Bool.false_eq_true, if_false] at ec ⊢
      exact ⟨F1, R, σ1, d, σD', r1, ec, fun F2 H2 v x2 r2 => k F2 H2 v (x1.trans x2) r2⟩
    · simp only [if_true] at ec ⊢
      exact ⟨F1, R, σ1, d, σD', r1, ec, fun F2 H2 v x2 r2 => k F2 H2 v (x1.trans x2) r2⟩
/-- and, or, not of bools as values -/
def dAndV (c c' : DE) : DE := fun σ => (c σ).bind fun p => match p.1 with | .bl true => c' p.2 | .bl false => some (.bl false, p.2) | _ => none
def dOrV (c c' : DE) : DE := fun σ => (c σ).bind fun p => match p.1 with | .bl true => some (.bl true, p.2) | .bl false => c' p.2 | _ => none
def dNotV (c : DE) : DE := fun σ => (c σ).bind fun p => match p.1 with | .bl b => some (.bl (!b), p.2) | _ => none
variable {rest : List Expr}
theorem qe_one {op} (h : QE X a c) : QE X (.BoolOp op [a] pos) c := pe_one h
theorem qe_and (ha : QE X a c) (hb : QE X (.BoolOp .And (b :: rest) pos) c') : QE X (.BoolOp .And (a :: b :: rest) pos) (dAndV c c') := PE_imp (pe_and ha hb) fun σ H Q ⟨F, R, σD, d, σD', r, ec, k⟩ => by
  unfold dAndV at ec
  rcases h : c σD with _ | ⟨x, σ1⟩
  · rw [h] at ec; cases ec
  · rw [h] at ec; simp only [Option.bind_some] at ec
    refine ⟨F, R, σD, x, σ1, r, h, fun F1 H1 v x1 r1 => ?_⟩
    split at ec
    · refine ⟨true, (r1.bor (by simp)).bl, ?_⟩
      simp only [if_true]
      exact ⟨F1, R, σ1, d, σD', r1.pop, ec, fun F2 H2 v x2 r2 => k F2 H2 v (x1.trans x2) r2⟩
    · cases ec
      refine ⟨false, (r1.bor (by simp)).bl, ?_⟩
      simp only [Bool.false_eq_true, if_false]
      exact k F1 H1 _ x1 (r1.pop.scal rfl)
    · cases ec
theorem qe_or (ha : QE X a c) (hb : QE X (.BoolOp .Or (b :: rest) pos) c') : QE X (.BoolOp .Or (a :: b :: rest) pos) (dOrV c c') := PE_imp (pe_or ha hb) fun σ H Q ⟨F, R, σD, d, σD', r, ec, k⟩ => by
  unfold dOrV at ec
  rcases h : c σD with _ | ⟨x, σ1⟩
  · rw [h] at ec; cases ec
  · rw [h] at ec; simp only [Option.bind_some] at ec
    refine ⟨F, R, σD, x, σ1, r, h, fun F1 H1 v x1 r1 => ?_⟩
    split at ec
    · cases ec
      refine ⟨true, (r1.bor (by simp)).bl, ?_⟩
      simp only [if_true]
      exact k F1 H1 _ x1 (r1.pop.scal rfl)
    · refine ⟨false, (r1.bor (by simp)).bl, ?_⟩
      simp only [Bool.false_eq_true, if_false]
      exact ⟨F1, R, σ1, d, σD', r1.pop, ec, fun F2 H2 v x2 r2 => k F2 H2 v (x1.trans x2) r2⟩
    · cases ec
theorem qe_not (ha : QE X a c) : QE X (.UnaryOp .Not a pos) (dNotV c) := PE_imp (pe_not ha) fun σ H Q ⟨F, R, σD, d, σD', r, ec, k⟩ => by
  unfold dNotV at ec
  rcases h : c σD with _ | ⟨x, σ1⟩
  · rw [h] at ec; cases ec
  · rw [h] at ec; simp only [Option.bind_some] at ec
    refine ⟨F, R, σD, x, σ1, r, h, fun F1 H1 v x1 r1 => ?_⟩
    split at ec
    · rename_i b
      cases ec
      exact ⟨b, (r1.bor (by simp)).bl, k F1 H1 _ x1 (r1.pop.scal rfl)⟩
    · cases ec
end
end DD
namespace L2
open PySem PySem.Spec PyProof.Rows
/-! ### zip of two lists -/
def Itz (K : PySem.W.Frag) (a b : Addr) : It :=
  ⟨fun i H => ∃ xs ys x y, SqL K H a xs ∧ SqL K H b ys ∧ xs[i]? = some x ∧ ys[i]? = some y,
   fun i H x H' => ∃ p u w, (∀ xs, SqL K H a xs → xs[i]? = some u) ∧ (∀ ys, SqL K H b ys → ys[i]? = some w) ∧ H p = none ∧ H' = upd H p (.tup [u, w]) ∧ x = .ref p,
   fun i H => ∃ xs ys, SqL K H a xs ∧ SqL K H b ys ∧ (xs.length ≤ i ∨ ys.length ≤ i)⟩
/-- the untracked records of an iterator turn, and a tuple is handed out -/
theorem Inv.turnT {X : Cx} {pins : List (Addr × Obj)} {σ : St} {H : Hp} {s : Shared} {h' : Heap} {ch : List Addr} {u w : V} {x y : Value} (I : Inv X pins σ H s) (hf : ∀ b ∈ ch, FpOk X pins H b) (ru : RelV u x) (rw' : RelV w y)
    (hk : ∀ c o, c ∉ ch → s.heap.get? c = some o → h'.get? c = some o) (hT : IsPair h' s.heap.objs.size x y) (hth : ∀ b ∈ ch, ∃ o, h'.get? b = some o) : Inv X pins σ (upd H s.heap.objs.size (.tup [u, w])) { s with heap := h' } := by
  have hfr : H s.heap.objs.size = none := I.fresh
  have nch : ∀ b o, H b = some o → b ∉ ch := fun b o e hb => by rw [(hf b hb).1] at e; cases e
  have ne : ∀ b o, s.heap.get? b = some o → b ≠ s.heap.objs.size := fun b o e => Nat.ne_of_lt (Heap.lt_size e)
  refine I.step (g' := s.gens) (d' := s.drawn) (t' := s.toks) (ch := ch) (fun b hb => ⟨(hf b hb).2.2.2.1, (hf b hb).2.1, (hf b hb).2.2.2.2.1, (hf b hb).2.2.2.2.2⟩) (fun b o _ _ hc e _ => hk b o hc e)
    (fun b o _ _ hc e _ => ⟨o.slots, hk b o hc e⟩) (fun b o _ e n => by rw [upd_ne (ne b o e)]; exact n) (fun b o hc e => ⟨o, hk b o hc e⟩) (fun b xs e => by rw [upd_ne (ne_of_none e hfr)]; exact e)
    (fun b o v e => by rw [upd_ne (ne_of_none e hfr)]; exact e) (fun b ps e => ⟨#[], by rw [upd_ne (ne_of_none e hfr), e]; simp⟩) (fun m hm => ?_) (fun b o e => ?_) I.bare
  · obtain ⟨o, es, ep, ho, r⟩ := hm
    exact ⟨o, es, ep, hk _ o (fun z => (hf _ z).2.1 rfl) ho, r⟩
  · by_cases hb : b = s.heap.objs.size
    · subst hb
      rw [upd_same] at e
      cases e
      refine ⟨by show 2 ≤ sizeLine; decide, [x, y], .cons ru (.cons rw' .nil), ⟨_, hT, rfl, _, rfl⟩⟩
    · rw [upd_ne hb] at e
      refine (I.hok b o e).stay (fun c v hc q => hk c v ?_ q) (fun c q => by rw [upd_ne (ne_of_none q hfr)]; exact q) fun c xs q => by rw [upd_ne (ne_of_none q hfr)]; exact q
      rcases hc with rfl | hc
      · exact nch _ _ e
      · exact nch _ _ hc
theorem Inv.turnN {X : Cx} {pins : List (Addr × Obj)} {σ : St} {H : Hp} {s : Shared} {h' : Heap} {ch : List Addr} (I : Inv X pins σ H s) (hf : ∀ b ∈ ch, FpOk X pins H b)
    (hk : ∀ c o, c ∉ ch → s.heap.get? c = some o → h'.get? c = some o) : Inv X pins σ H { s with heap := h' } := by
  have nch : ∀ b o, H b = some o → b ∉ ch := fun b o e hb => by rw [(hf b hb).1] at e; cases e
  refine I.step (g' := s.gens) (d' := s.drawn) (t' := s.toks) (ch := ch) (fun b hb => ⟨(hf b hb).2.2.2.1, (hf b hb).2.1, (hf b hb).2.2.2.2.1, (hf b hb).2.2.2.2.2⟩) (fun b o _ _ hc e _ => hk b o hc e)
    (fun b o _ _ hc e _ => ⟨o.slots, hk b o hc e⟩) (fun b o _ e n => n) (fun b o hc e => ⟨o, hk b o hc e⟩) (fun b xs e => e)
    (fun b o v e => e) (fun b ps e => ⟨#[], by rw [e]; simp⟩) (fun m hm => ?_) (fun b o e => ?_) I.bare
  · obtain ⟨o, es, ep, ho, r⟩ := hm
    exact ⟨o, es, ep, hk _ o (fun z => (hf _ z).2.1 rfl) ho, r⟩
  · refine (I.hok b o e).stay (fun c v hc q => hk c v ?_ q) (fun c q => q) fun c xs q => q
    rcases hc with rfl | hc
    · exact nch _ _ e
    · exact nch _ _ hc
theorem list_tracked {X : Cx} {pins : List (Addr × Obj)} {σ : St} {H : Hp} {s : Shared} {a b : Addr} {xs : List V} (I : Inv X pins σ H s) (h : SqL X.K H a xs) (hb : FpOk X pins H b) (hob : ∃ o, s.heap.get? b = some o ∧ o.cls ≠ .type "list") : a ≠ b := by
  rintro rfl
  obtain ⟨its, r, ⟨o, n, e, c, _⟩, _⟩ := I.list h
  obtain ⟨o', e', c'⟩ := hob
  rw [e] at e'; cases e'
  exact c' c
theorem turn_zip {P : Program} {w : World} {K : PySem.W.Frag} {elts : List Expr} {x1 : Nat} {tpos : Pos} (a b z TI TO i1 i2 : Addr) (D1 : TI ≠ z) (D2 : TO ≠ z) (D3 : i1 ≠ z) (D4 : i2 ≠ z) (D5 : TI ≠ TO) (D6 : TI ≠ i1) (D7 : TI ≠ i2) (D8 : TO ≠ i1) (D9 : TO ≠ i2) (D10 : i1 ≠ i2) :
    Turn P w K (.Tuple elts x1 tpos) (Itz K a b) [z, TI, TO, i1, i2] z (fun i h => IsZip h z TI TO .none ∧ IsPair h TI (.ref i1) (.ref i2) ∧ (∃ u v, IsPair h TO u v) ∧ h.IsListIter i1 a i ∧ h.IsListIter i2 b i) where
  mem := by simp
  obj := fun i h ⟨hz, hTI, ⟨u, v, hTO⟩, ⟨o1, e1, c1, d1⟩, ⟨o2, e2, c2, d2⟩⟩ c hc => by
    simp only [List.mem_cons, List.not_mem_nil, or_false] at hc
    rcases hc with rfl | rfl | rfl | rfl | rfl
    · exact ⟨_, hz, fun v z => nomatch z⟩
    · exact ⟨_, hTI, fun v z => nomatch z⟩
    · exact ⟨_, hTO, fun v z => nomatch z⟩
    · exact ⟨_, e1, fun v z => by rw [d1] at z; cases z⟩
    · exact ⟨_, e2, fun v z => by rw [d2] at z; cases z⟩
  keep := fun i h h' ⟨hz, hTI, ⟨u, v, hTO⟩, h1, h2⟩ k => ⟨k z (by simp) _ hz, k TI (by simp) _ hTI, ⟨u, v, k TO (by simp) _ hTO⟩, h1.at fun o e => k i1 (by simp) o e, h2.at fun o e => k i2 (by simp) o e⟩
  item := by
    intro X hP hw hK hc i pins s σ H E I hf ⟨hz, hTI, ⟨ua, ub, hTO⟩, h1, h2⟩ ⟨xs, ys, x, y, hq1, hq2, hx, hy⟩
    subst hP hw hK
    obtain ⟨its1, rv1, p1, _⟩ := I.list hq1
    obtain ⟨its2, rv2, p2, _⟩ := I.list hq2
    obtain ⟨u1, hu1, ru1⟩ := rv1.get hx
    obtain ⟨u2, hu2, ru2⟩ := rv2.get hy
    have ob : ∀ c ∈ [z, TO, i1, i2], ∃ o, s.heap.get? c = some o ∧ o.cls ≠ .type "list" := fun c hc => by
      obtain ⟨o1, e1, c1, d1⟩ := id h1
      obtain ⟨o2, e2, c2, d2⟩ := id h2
      simp only [List.mem_cons, List.not_mem_nil, or_false] at hc
      rcases hc with rfl | rfl | rfl | rfl
      · exact ⟨_, hz, by simp⟩
      · exact ⟨_, hTO, by simp⟩
      · exact ⟨_, e1, by rw [c1]; simp⟩
      · exact ⟨_, e2, by rw [c2]; simp⟩
    have na : ∀ c ∈ [z, TO, i1, i2], a ≠ c := fun c hc => list_tracked I hq1 (hf c (by simp at hc ⊢; rcases hc with h | h | h | h <;> simp [h])) (ob c hc)
    have nb : ∀ c ∈ [z, TO, i1, i2], b ≠ c := fun c hc => list_tracked I hq2 (hf c (by simp at hc ⊢; rcases hc with h | h | h | h <;> simp [h])) (ob c hc)
    have D : ZipApart z TI TO i1 i2 a b := ⟨D1, D2, D3, D4, D5, D6, D7, D8, D9, D10, na z (by simp), na TO (by simp), na i1 (by simp), na i2 (by simp), nb z (by simp), nb TO (by simp), nb i1 (by simp), nb i2 (by simp)⟩
    refine wpAny_pyNext_zip_item D hz hTI hTO h1 h2 p1.isList p2.isList (x := u1) (y := u2) (by simpa using hu1) (by simpa using hu2) fun h' a1 a2 a3 a4 a5 a6 hk => ?_
    have hf4 : ∀ c ∈ [z, TO, i1, i2], FpOk X pins H c := fun c hc => hf c (by simp at hc ⊢; rcases hc with h | h | h | h <;> simp [h])
    have hk' : ∀ c o, c ∉ [z, TO, i1, i2] → s.heap.get? c = some o → h'.get? c = some o := fun c o hc e => hk c o (fun q => hc (by simp [q])) (fun q => hc (by simp [q])) (fun q => hc (by simp [q])) (fun q => hc (by simp [q])) e
    have I1 : Inv X pins σ (upd H s.heap.objs.size (.tup [x, y])) { s with heap := h' } := I.turnT hf4 ru1 ru2 hk' a5 (fun c hc => by
      obtain ⟨o1, e1, _⟩ := id a3
      obtain ⟨o2, e2, _⟩ := id a4
      simp only [List.mem_cons, List.not_mem_nil, or_false] at hc
      rcases hc with rfl | rfl | rfl | rfl
      · exact ⟨_, a1⟩
      · exact ⟨_, a2⟩
      · exact ⟨_, e1⟩
      · exact ⟨_, e2⟩)
    have hfr : H s.heap.objs.size = none := I.fresh
    refine ⟨_, rfl, wpAny_letOwnedTupleGo_zip (s := { s with heap := h' }) a1 fun h'' z1 sb => ?_⟩
    have hf5 : ∀ c ∈ [z, TI, TO, i1, i2], (upd H s.heap.objs.size (.tup [x, y])) c = none := fun c hc => by
      have lt : c < s.heap.objs.size := by
        obtain ⟨o1, e1, _⟩ := id h1
        obtain ⟨o2, e2, _⟩ := id h2
        simp only [List.mem_cons, List.not_mem_nil, or_false] at hc
        rcases hc with rfl | rfl | rfl | rfl | rfl
        · exact Heap.lt_size hz
        · exact Heap.lt_size hTI
        · exact Heap.lt_size hTO
        · exact Heap.lt_size e1
        · exact Heap.lt_size e2
      rw [upd_ne (Nat.ne_of_lt lt)]; exact (hf c hc).1
    have I2 : Inv X pins σ (upd H s.heap.objs.size (.tup [x, y])) { s with heap := h'' } := Inv.turnN (s := { s with heap := h' }) (ch := [z]) I1 (fun c hc => by
      have : c = z := by simpa using hc
      subst this
      exact ⟨hf5 c (by simp), (hf c (by simp)).2⟩) (fun c o hc e => (sb.2 c (fun q => hc (by simp [q]))).trans e)
    refine ⟨.ref s.heap.objs.size, _, I2, rfl, ⟨_, x, y, fun zs hzs => by rw [I.list_inj hzs hq1]; exact hx, fun zs hzs => by rw [I.list_inj hzs hq2]; exact hy, hfr, rfl, rfl⟩, ⟨z1, ?_, ⟨u1, u2, ?_⟩, ?_, ?_⟩, hf5⟩
    · exact (sb.2 TI D1).trans (hk' TI _ (by simp [D1, D5, D6, D7]) hTI)
    · exact (sb.2 TO D2).trans a2
    · exact a3.at fun o e => (sb.2 i1 D3).trans e
    · exact a4.at fun o e => (sb.2 i2 D4).trans e
  done := by
    intro X hP hw hK hc i pins s σ H E I hf ⟨hz, hTI, ⟨ua, ub, hTO⟩, h1, h2⟩ ⟨xs, ys, hq1, hq2, hend⟩
    subst hP hw hK
    obtain ⟨its1, rv1, p1, _⟩ := I.list hq1
    obtain ⟨its2, rv2, p2, _⟩ := I.list hq2
    have ob : ∀ c ∈ [z, TO, i1, i2], ∃ o, s.heap.get? c = some o ∧ o.cls ≠ .type "list" := fun c hc => by
      obtain ⟨o1, e1, c1, d1⟩ := id h1
      obtain ⟨o2, e2, c2, d2⟩ := id h2
      simp only [List.mem_cons, List.not_mem_nil, or_false] at hc
      rcases hc with rfl | rfl | rfl | rfl
      · exact ⟨_, hz, by simp⟩
      · exact ⟨_, hTO, by simp⟩
      · exact ⟨_, e1, by rw [c1]; simp⟩
      · exact ⟨_, e2, by rw [c2]; simp⟩
    have hf4 : ∀ c ∈ [z, TO, i1, i2], FpOk X pins H c := fun c hc => hf c (by simp at hc ⊢; rcases hc with h | h | h | h <;> simp [h])
    have na : ∀ c ∈ [z, TO, i1, i2], a ≠ c := fun c hc => list_tracked I hq1 (hf4 c hc) (ob c hc)
    have nb : ∀ c ∈ [z, TO, i1, i2], b ≠ c := fun c hc => list_tracked I hq2 (hf4 c hc) (ob c hc)
    have D : ZipApart z TI TO i1 i2 a b := ⟨D1, D2, D3, D4, D5, D6, D7, D8, D9, D10, na z (by simp), na TO (by simp), na i1 (by simp), na i2 (by simp), nb z (by simp), nb TO (by simp), nb i1 (by simp), nb i2 (by simp)⟩
    have hl1 := rv1.length
    have hl2 := rv2.length
    refine wpAny_pyNext_zip_end (I.ok.hd hc) D hz hTI hTO h1 h2 p1.isList p2.isList (by rcases hend with h | h; (left; simp; omega); (right; simp; omega)) fun h' hk => ⟨rfl, ?_⟩
    exact I.turnN hf4 fun c o hc e => hk c o (fun q => hc (by simp [q])) (fun q => hc (by simp [q])) (fun q => hc (by simp [q])) (fun q => hc (by simp [q])) e
  self := fun _ _ _ _ _ ⟨hz, _⟩ h => wpAny_pyIter_zip hz h
end L2
namespace L2
open PySem PySem.Spec PyProof.Rows
def iZip (K : PySem.W.Frag) (ta : TA) : TI := fun σ H R => ta σ H fun vs H1 => ∃ a b, vs = [.ref a, .ref b] ∧ (∃ xs, SqL K H1 a xs) ∧ (∃ ys, SqL K H1 b ys) ∧ R (Itz K a b) H1
theorem pi_zip {X : Cx} {elts : List Expr} {x1 : Nat} {tpos : Pos} {a b : Expr} {ta : TA} {p pos : Pos} (hg : Gl X "zip") (hm : X.mg "zip" = none) (ha : PA X [a, b] ta) (hs : starEach [a, b] X.env = [(false, eval a X.env), (false, eval b X.env)] := by rfl) (hs2 : starEach [b] X.env = [(false, eval b X.env)] := by rfl) :
    PI X (.Tuple elts x1 tpos) (.Call (.Name "zip" p) [a, b] [] pos) (iZip X.K ta) := by
  intro pins s σ H R I h
  refine Call_ (ld_blt I hg hm boot_zip (PyProof.Rows.callWith_type1 (thn (ha pos pins s σ H _ I h) fun us s1 ⟨vs, H1, I1, r1, q1⟩ => ?_) (by rw [hs, hs2]) (by rw [hs2]; rfl)))
  obtain ⟨l1, l2, e, ⟨xs, hq1⟩, ⟨ys, hq2⟩, q⟩ := q1
  subst e
  cases r1 with
  | cons r rr =>
    cases rr with
    | cons r' rr =>
      cases rr
      cases r
      cases r'
      obtain ⟨its1, rv1, p1, _⟩ := I1.list hq1
      obtain ⟨its2, rv2, p2, _⟩ := I1.list hq2
      refine call_zip_2 p1.isList p2.isList fun h' hz hTI hTO h1 h2 hsz hk => ?_
      have I2 : Inv X pins σ H1 { s1 with heap := h' } := I1.kept (t' := s1.toks) hk
      refine wpAny_pyIter_zip (s := { s1 with heap := h' }) hz ?_
      have lt : ∀ k : Nat, s1.heap.objs.size ≤ s1.heap.objs.size + k := fun k => Nat.le_add_right _ _
      refine ⟨_, [s1.heap.objs.size + 4, s1.heap.objs.size + 2, s1.heap.objs.size + 3, s1.heap.objs.size, s1.heap.objs.size + 1], _, _, H1, rfl, I2,
        turn_zip l1 l2 (s1.heap.objs.size + 4) (s1.heap.objs.size + 2) (s1.heap.objs.size + 3) s1.heap.objs.size (s1.heap.objs.size + 1) ?_ ?_ ?_ ?_ ?_ ?_ ?_ ?_ ?_ ?_, ⟨hz, hTI, ⟨_, _, hTO⟩, h1, h2⟩, fun c hc => ?_, q⟩
      all_goals first
        | (show _ + _ ≠ _ + _; intro z; exact absurd (Nat.add_left_cancel z) (by decide))
        | (show _ ≠ _ + _; intro z; exact absurd z (by have := Nat.lt_add_of_pos_right (n := s1.heap.objs.size) (k := 4) (by decide); have := Nat.lt_add_of_pos_right (n := s1.heap.objs.size) (k := 1) (by decide); exact Nat.ne_of_lt (by assumption)))
        | (show _ + _ ≠ _; exact Nat.ne_of_gt (Nat.lt_add_of_pos_right (by decide)))
        | skip
      have hle : s1.heap.objs.size ≤ c := by
        simp only [List.mem_cons, List.not_mem_nil, or_false] at hc
        rcases hc with rfl | rfl | rfl | rfl | rfl
        · exact lt 4
        · exact lt 2
        · exact lt 3
        · exact Nat.le_refl _
        · exact lt 1
      obtain ⟨f0, f1, f2, f3, f4, f5⟩ := I1.fpOk hle (I1.hok.fresh hle)
      exact ⟨f0, f1, f2, f3, f4, f5⟩
end L2
namespace DD
open PySem PySem.Spec PyProof.Rows L2
def iZipD (c c' : DE) : DI := fun σ => (c σ).bind fun p => (c' p.2).bind fun q => match p.1, q.1 with
  | .lst _ xs, .lst _ ys => some (((D.fzL xs).zip (D.fzL ys)).map fun z => .tup [z.1, z.2], q.2)
  | _, _ => none
theorem itd_zip {K : PySem.W.Frag} {F : Addr → Prop} {H : Hp} {xs ys : List D} {a b : Addr} {vs ws : List V} (fl : FL K F H a vs) (ol : OwL K F H xs vs []) (fl' : FL K F H b ws) (ol' : OwL K F H ys ws []) :
    ItD K (Itz K a b) ((xs.zip ys).map fun z => .tup [z.1, z.2]) F H where
  item := fun i d F1 H1 x1 dm e => by
    rw [List.getElem?_map] at e
    rcases hz : (xs.zip ys)[i]? with _ | ⟨x, y⟩
    · rw [hz] at e; cases e
    · rw [hz] at e; cases e
      obtain ⟨hx, hy⟩ := List.getElem?_zip_eq_some.mp hz
      obtain ⟨u, La, Lx, Lb, e1, eL, o1, _⟩ := ol.kid hx
      have eLx : Lx = [] := (List.append_eq_nil_iff.mp (List.append_eq_nil_iff.mp eL.symm).1).2
      subst eLx
      obtain ⟨w, La', Lx', Lb', e2, eL', o2, _⟩ := ol'.kid hy
      have eLx' : Lx' = [] := (List.append_eq_nil_iff.mp (List.append_eq_nil_iff.mp eL'.symm).1).2
      subst eLx'
      refine ⟨⟨vs, ws, u, w, (fl.ext x1).sq, (fl'.ext x1).sq, e1, e2⟩, fun v H2 ⟨p, u', w', h1, h2, hp, hH, hv⟩ => ?_⟩
      subst hH hv
      have h1' := h1 vs (fl.ext x1).sq
      rw [e1] at h1'; cases h1'
      have h2' := h2 ws (fl'.ext x1).sq
      rw [e2] at h2'; cases h2'
      have nF : ∀ c, F1 c → c ≠ p := fun c fc z => by obtain ⟨o, h⟩ := dm c fc; rw [z, hp] at h; cases h
      have gr : Grow F1 H1 (fun c => F1 c ∨ c = p) (upd H1 p (.tup [u, w])) := by
        refine ⟨fun c fc => ⟨.inl fc, upd_ne (nF c fc)⟩, fun c o e => by rw [upd_ne (ne_of_none e hp)]; exact e, fun c fc => ?_, fun _ c fc => ?_⟩
        · rcases fc with fc | fc
          · exact .inl fc
          · exact .inr (fc ▸ hp)
        · rcases fc with fc | fc
          · rw [upd_ne (nF c fc)]; exact dm c fc
          · subst fc; exact ⟨_, upd_same⟩
      refine ⟨_, gr, ?_⟩
      simp only [Ow, OwL]
      refine ⟨p, [u, w], rfl, .inl ⟨.inr rfl, upd_same⟩, u, [w], [], [], rfl, (o1.mono x1 (fun a ha => by cases ha)).mono gr.x (fun a ha => by cases ha), ⟨w, [], [], [], rfl, (o2.mono x1 (fun a ha => by cases ha)).mono gr.x (fun a ha => by cases ha), ⟨rfl, rfl⟩, rfl⟩, rfl⟩
  done := fun F1 H1 x1 => ⟨vs, ws, (fl.ext x1).sq, (fl'.ext x1).sq, by
    have h1 := ol.length
    have h2 := ol'.length
    simp only [List.length_map, List.length_zip]
    omega⟩
section
variable {X : Cx} {a b o e : Expr} {c c' : DE} {p p1 pos1 : Pos} {elts : List Expr} {x1 : Nat} {tpos pos : Pos}
theorem qi_zip (hgl : Gl X "zip") (hm : X.mg "zip" = none) (ha : QE X a c) (hb : QE X b c') (hs : starEach [a, b] X.env = [(false, eval a X.env), (false, eval b X.env)] := by rfl) (hs2 : starEach [b] X.env = [(false, eval b X.env)] := by rfl) :
    QI X (.Tuple elts x1 tpos) (.Call (.Name "zip" p1) [a, b] [] pos1) (iZipD c c') := PI_imp (pi_zip hgl hm (pa_cons ha (pa_cons hb pa_nil hs2) (by rw [hs, hs2])) hs hs2) fun σ H R ⟨F, Ro, σD, xs, σD', r, ec, k⟩ => by
  unfold iZipD at ec
  rcases h1 : c σD with _ | ⟨x, σ1⟩
  · rw [h1] at ec; cases ec
  · rw [h1] at ec; simp only [Option.bind_some] at ec
    rcases h2 : c' σ1 with _ | ⟨y, σ2⟩
    · rw [h2] at ec; cases ec
    · rw [h2] at ec; simp only [Option.bind_some] at ec
      split at ec
      · cases ec
        refine ⟨F, Ro, σD, _, σ1, r, h1, fun F1 H1 v x1 r1 => ?_⟩
        refine ⟨F1, _, σ1, _, _, r1, h2, fun F2 H2 u x2 r2 => ?_⟩
        obtain ⟨F3, x3, r3, o3⟩ := r2.freeze
        obtain ⟨F4, x4, r4, o4⟩ := (r3.pop).freeze
        have o3' := o3.mono x4 (fun a ha => by cases ha)
        simp only [D.fz, Ow] at o3' o4
        obtain ⟨a1, vs, rfl, fl, ol, _⟩ := o4
        obtain ⟨a2, ws, rfl, fl', ol', _⟩ := o3'
        exact ⟨a1, a2, rfl, ⟨vs, fl.sq⟩, ⟨ws, fl'.sq⟩, k F4 H2 _ ((x1.trans x2).trans (x3.trans x4)) r4.pop (itd_zip fl ol fl' ol')⟩
      · cases ec
/-! ### an item of a value that is dropped -/
theorem zip_get {xs : List D} {vs : List V} {j : Nat} {x : D} {w : V} (h1 : xs[j]? = some x) (h2 : vs[j]? = some w) : (x, w) ∈ xs.zip vs := by
  have : (xs.zip vs)[j]? = some (x, w) := List.getElem?_zip_eq_some.mpr ⟨h1, h2⟩
  exact List.mem_of_getElem? this
theorem Rel.pick {K : PySem.W.Frag} {F : Addr → Prop} {H : Hp} {σD : DSt} {σ : St} {R S : Ro} {x : D} {w : V} (r : Rel K F H σD σ (S ++ R)) (h : (x, w) ∈ S) : Rel K F H σD σ ((x, w) :: R) := by
  obtain ⟨A, B, rfl⟩ := List.append_of_mem h
  have r1 : Rel K F H σD σ ((A ++ B) ++ ((x, w) :: R)) := r.perm (by
    have h1 : A ++ (x, w) :: B ++ R = A ++ ((x, w) :: (B ++ R)) := by simp
    rw [h1, List.append_assoc]
    exact (List.perm_middle.symm).append_left A)
  exact r1.popN
theorem qe_ix (ha : QE X a c) (hb : QE X b c') (hs : PlainIx b := by intro _ _; rfl) : QE X (.Subscript a b pos) (dIx c c') := PE_imp (pe_ix ix_seq ha hb hs) fun σ H Q ⟨F, R, σD, d, σD', r, ec, k⟩ => by
  unfold dIx at ec
  rcases h1 : c σD with _ | ⟨x, σ1⟩
  · rw [h1] at ec; cases ec
  · rw [h1] at ec; simp only [Option.bind_some] at ec
    rcases h2 : c' σ1 with _ | ⟨y, σ2⟩
    · rw [h2] at ec; cases ec
    · rw [h2] at ec; simp only [Option.bind_some] at ec
      obtain ⟨z, e1, e2⟩ := map_pair ec
      cases e2
      refine ⟨F, R, σD, x, σ1, r, h1, fun F1 H1 v x1 r1 => ?_⟩
      refine ⟨F1, _, σ1, y, _, r1, h2, fun F2 H2 u x2 r2 => ?_⟩
      have bu := r2.bor (d := y) (v := u) (by simp)
      have r3 := r2.pop
      unfold ixD at e1
      split at e1
      · rename_i own xs i
        obtain ⟨j, hj, hx⟩ := atI_ix e1
        cases own
        · obtain ⟨L, ⟨L1, L2, o1, h12, _⟩, _, _⟩ := r3.front.own
          simp only [Ow] at o1
          obtain ⟨a1, vs, rfl, fl, ol, _⟩ := o1
          obtain ⟨w, La, Lx, Lb, ew, eL, ox, _⟩ := ol.kid hx
          have eLx : Lx = [] := (List.append_eq_nil_iff.mp (List.append_eq_nil_iff.mp eL.symm).1).2
          subst eLx
          refine .inl ⟨a1, vs, i, w, rfl, bu.int, fl.sq, ?_, k F2 H2 w (x1.trans x2) (r3.pop.push ox)⟩
          unfold atI; rw [ol.length, hj]; exact ew
        · obtain ⟨a1, vs, rfl, hh, hl, r4⟩ := r3.openL
          have hjl : j < vs.length := by rw [← hl]; exact (List.getElem?_eq_some_iff.mp hx).1
          have ew := List.getElem?_eq_getElem hjl
          refine .inl ⟨a1, vs, i, vs[j], rfl, bu.int, .inl (.inl hh), ?_, k F2 H2 _ (x1.trans x2) (r4.pop.pick (zip_get hx ew))⟩
          unfold atI; rw [← hl, hj]; exact ew
      · rename_i xs i
        obtain ⟨j, hj, hx⟩ := atI_ix e1
        obtain ⟨a1, vs, rfl, ft, hl, r4⟩ := r3.openT
        have hjl : j < vs.length := by rw [← hl]; exact (List.getElem?_eq_some_iff.mp hx).1
        have ew := List.getElem?_eq_getElem hjl
        refine .inr (.inl ⟨a1, vs, i, vs[j], rfl, bu.int, ft.sq, ?_, k F2 H2 _ (x1.trans x2) (r4.pick (zip_get hx ew))⟩)
        unfold atI; rw [← hl, hj]; exact ew
      · split at e1
        · rename_i z2 i hz
          rcases h : atI z2.cps.toList i with _ | ch
          · rw [h] at e1; cases e1
          · rw [h] at e1; cases e1
            exact .inr (.inr ⟨z2, i, ch, (r3.bor (by simp)).str, bu.int, hz, h, k F2 H2 _ (x1.trans x2) (r3.pop.scal rfl)⟩)
        · cases e1
      · cases e1
end
end DD
namespace L2
open PySem PySem.Spec PyProof.Rows
/-- o[i] of a list, by values -/
theorem get_list {X : Cx} : PGet X (fun o i H Q => ∃ p xs k v, o = .ref p ∧ i = .int k ∧ SqL X.K H p xs ∧ atI xs k = some v ∧ Q v H) := by
  intro pins s σ H o i ov iv Q I ro ri ⟨p, xs, k, v, e1, e2, hq, he, q⟩
  subst e1 e2
  cases ro
  obtain ⟨t, rfl⟩ := ri
  obtain ⟨its, r, pl, hz⟩ := I.list hq
  obtain ⟨j, h1, h2, h3, h4, h5⟩ := atI_get he
  obtain ⟨w, ew, rw'⟩ := r.get h2
  have hl := r.length
  have hn := line63
  have fin : EP X pins σ Q w s := ⟨v, H, I, rw', q⟩
  by_cases h0 : 0 ≤ k
  · have hj : k.toNat = j := by
      rw [seqIndex_of h0 h5] at h1
      exact Option.some.inj h1
    exact wpAny_getItem_list pl.isList h0 (by omega) (by rw [hj]; simpa using ew) fin
  · have hj : (k + (its.toArray.size : Int)).toNat = j := by
      rw [seqIndex_neg (by omega) h4] at h1
      rw [List.size_toArray, ← hl]
      exact Option.some.inj h1
    exact wpAny_getItem_list_neg pl.isList (by omega) (by rw [List.size_toArray] <;> omega) (by omega) (by rw [hj]; simpa using ew) fin
end L2
namespace DD
open PySem PySem.Spec PyProof.Rows L2
section
variable {X : Cx} {o a e tg : Expr} {q p : DP} {c : DE} {g : D → D → Option D} {i : Nat} {js : List DP} {pos tpos : Pos} {op : Operator}
theorem oi_add : OpS X (inplaceOp .Add) (gI0 fun i j => i + j) := opS_I0 iop_add
theorem oi_sub : OpS X (inplaceOp .Sub) (gI0 fun i j => i - j) := opS_I0 iop_sub
/-- o[k] op= e, e pure -/
def sAugIx (g : D → D → Option D) (i : Nat) (js : List DP) (q p : DP) : DS := fun σ => (dget σ i).bind fun t => (evI js σ).bind fun path => (getP t path).bind fun n => match n with
  | .lst true xs => (q σ).bind fun kk => match kk with
    | .int k => (ixN xs.length k).bind fun j => (xs[j]?).bind fun x => match x.sc with
      | some _ => (p σ).bind fun y => (g x y).map fun z => .nx (σ.set i (some (setP t path (.lst true (xs.set j z)))))
      | none => none
    | _ => none
  | _ => none
theorem qs_augS (hop : OpS X (inplaceOp op) g) (ho : QP X o i js) (hq : QB X a q) (he : QB X e p)
    (ha : ∀ ov iv new, augStore a ov iv new = (do holding [new, ov, iv] (setItem ov iv new); release [new, ov, iv] []; pure .next) := by intros; rfl) : QS X (.AugAssign (.Subscript o a tpos) op e pos) (sAugIx g i js q p) [] :=
  PS_imp (ps_augS ho hq get_list he hop.run set_list ha) fun En σ H ⟨F, R, σD, out, r, ec, kk⟩ => by
    unfold sAugIx at ec
    rcases h1 : dget σD i with _ | t
    · rw [h1] at ec; cases ec
    · rw [h1] at ec; simp only [Option.bind_some] at ec
      rcases h2 : evI js σD with _ | path
      · rw [h2] at ec; cases ec
      · rw [h2] at ec; simp only [Option.bind_some] at ec
        rcases h3 : getP t path with _ | n
        · rw [h3] at ec; cases ec
        · rw [h3] at ec; simp only [Option.bind_some] at ec
          split at ec
          · rename_i xs
            rcases h4 : q σD with _ | ky
            · rw [h4] at ec; cases ec
            · rw [h4] at ec; simp only [Option.bind_some] at ec
              split at ec
              · rename_i k
                rcases h5 : ixN xs.length k with _ | j
                · rw [h5] at ec; cases ec
                · rw [h5] at ec; simp only [Option.bind_some] at ec
                  rcases h6 : xs[j]? with _ | x
                  · rw [h6] at ec; cases ec
                  · rw [h6] at ec; simp only [Option.bind_some] at ec
                    rcases h7 : x.sc with _ | xw
                    · rw [h7] at ec; cases ec
                    · rw [h7] at ec; simp only at ec
                      rcases h8 : p σD with _ | y
                      · rw [h8] at ec; cases ec
                      · rw [h8] at ec; simp only [Option.bind_some] at ec
                        rcases h9 : g x y with _ | z
                        · rw [h9] at ec; cases ec
                        · rw [h9] at ec; cases ec
                          obtain ⟨zw, hzw⟩ := hop.sc _ _ _ h9
                          obtain ⟨v0, hv0, r0⟩ := r.take (dget_some h1)
                          obtain ⟨l0, vs0, lc0, hl0, hlen0, _⟩ := Rel.listAt (S := []) r0 h3
                          refine ⟨F, R, σD, v0, path, .ref l0, r, hv0, h2, lc0, fun F1 H1 g1 => ?_⟩
                          refine ⟨F1, R, σD, _, r.grow g1, h4, fun F2 H2 u g2 b2 => ?_⟩
                          have g3 := g1.trans g2
                          -- what stands there
                          have look : ∀ F' H', Grow F H F' H' → ∃ vs, H' l0 = some (.lst vs) ∧ xs.length = vs.length ∧ vs[j]? = some xw ∧ ∀ (d : D) (w : V), d.sc = some w → Rel X.K F' (upd H' l0 (.lst (vs.set j w))) (σD.set i (some (setP t path (.lst true (xs.set j d))))) σ R ∧ Ext F' H' F' (upd H' l0 (.lst (vs.set j w))) := fun F' H' gr => by
                            obtain ⟨v1, hv1, r1⟩ := (r.grow gr).take (dget_some h1)
                            rw [hv0] at hv1; cases hv1
                            obtain ⟨l, vs, lc, hl, hlen, _⟩ := Rel.listAt (S := []) r1 h3
                            have el : l0 = l := by
                              have := (lc0.grow gr.k).uniq lc
                              injection this
                            subst el
                            refine ⟨vs, hl, hlen, ?_, fun d w hw => ?_⟩
                            · have hjl : j < vs.length := by rw [← hlen]; exact (List.getElem?_eq_some_iff.mp h6).1
                              obtain ⟨L, ⟨L1, L2, o1, _⟩, _⟩ := r1.front.own
                              obtain ⟨l', La, Lx, Lb, lc', _, ⟨vs', hl', ol'⟩, _⟩ := o1.focus h3
                              have el : l0 = l' := by
                                have := lc.uniq lc'
                                injection this
                              subst el
                              rw [hl] at hl'; cases hl'
                              obtain ⟨w2, e2, b2⟩ := ol'.get h6
                              rw [e2, b2.sc h7]
                            · have r2 : Rel X.K F' H' (σD.set i none) σ ((t, v0) :: ([(d, w)] ++ R)) := (r1.scal (d := d) hw).perm (.swap _ _ _)
                              obtain ⟨l2, vs2, lc2, hl2, hlen2, upd2⟩ := r2.listAt h3
                              have el : l0 = l2 := by
                                have := lc.uniq lc2
                                injection this
                              subst el
                              rw [hl] at hl2; cases hl2
                              have hj : j < xs.length := (ixN_seq h5).2.1
                              obtain ⟨xo, wo, pm⟩ := zip_set (d := d) (v := w) hlen hj
                              obtain ⟨r3, x3⟩ := upd2 (xs.set j d) (vs.set j w) [(xo, wo)] pm (by simp [hlen])
                              have r4 := (Rel.put (R := (xo, wo) :: R) r3 hv0)
                              rw [List.set_set] at r4
                              exact ⟨r4.pop, x3⟩
                          obtain ⟨vs, hl, hlen, hx, _⟩ := look F2 H2 g3
                          refine ⟨l0, vs, k, xw, rfl, b2.int, .inl (.inl hl), by unfold atI; rw [← hlen, h5]; exact hx, ?_⟩
                          refine ⟨F2, R, σD, y, r.grow g3, h8, fun F3 H3 uy g4 b4 => ?_⟩
                          refine ⟨F3, x, y, z, zw, ⟨[], Ow.of_sc h7⟩, b4, h9, hzw, ?_⟩
                          obtain ⟨vs3, hl3, hlen3, _, up3⟩ := look F3 H3 (g3.trans g4)
                          obtain ⟨r5, x5⟩ := up3 z zw hzw
                          refine ⟨l0, vs3, k, j, rfl, b2.int, hl3, by rw [← hlen3]; exact h5, ?_⟩
                          exact kk F3 _ σ ((g3.trans g4).x.trans x5) Kp.refl r5
              · cases ec
          · cases ec
/-- x op= e -/
def sAugN (g : D → D → Option D) (i : Nat) (c : DE) : DS := fun σ => (dget σ i).bind fun x => match x.sc with
  | some _ => (c σ).bind fun p => if i < p.2.length then (g x p.1).map fun z => .nx (p.2.set i (some z)) else none
  | none => none
theorem qs_augN (i : Nat) {x : Str} {pos' : Pos} (hN : X.N.Nodup) (hop : OpS X (inplaceOp op) g) (he : QE X e c) (hi : X.N[i]? = some x := by rfl) (hx : Loc X.env.scope x := by first | exact Or.inl rfl | exact Or.inr rfl) (hf : X.fn x = true ∨ X.env.scope.names.lookup x = some .local := by first | exact .inl rfl | exact .inr rfl | assumption) :
    QS X (.AugAssign (.Name x pos') op e pos) (sAugN g i c) [i] := PS_imp (ps_aug hN hi hx he hop.run hf) fun En σ H ⟨F, R, σD, out, r, ec, kk⟩ => by
  unfold sAugN at ec
  rcases h1 : dget σD i with _ | d
  · rw [h1] at ec; cases ec
  · rw [h1] at ec; simp only [Option.bind_some] at ec
    rcases h2 : d.sc with _ | dw
    · rw [h2] at ec; cases ec
    · rw [h2] at ec; simp only at ec
      rcases h3 : c σD with _ | ⟨y, σ1⟩
      · rw [h3] at ec; cases ec
      · rw [h3] at ec; simp only [Option.bind_some] at ec
        split at ec
        · rename_i hl
          rcases h4 : g d y with _ | z
          · rw [h4] at ec; cases ec
          · rw [h4] at ec; cases ec
            obtain ⟨zw, hzw⟩ := hop.sc _ _ _ h4
            obtain ⟨v0, hv0, b0⟩ := r.get (dget_some h1)
            have ev : v0 = dw := b0.sc h2
            subst ev
            refine ⟨v0, hv0, F, R, σD, y, σ1, r, h3, fun F1 H1 u x1 r1 => ?_⟩
            refine ⟨F1, d, y, z, zw, ⟨[], Ow.of_sc h2⟩, r1.bor (by simp), h4, hzw, ?_⟩
            exact kk F1 H1 _ x1 Kp.set ((r1.pop.scal hzw).store (by rw [← r1.mt.length]; exact hl))
        · cases ec
end
/-! ### for over a list whose items are handed over to the loop -/
def sForM (i : Nat) (g : DG) (b : DS) : DS := fun σ => match dget σ i with | some (.lst true xs) => dLoop g b xs (σ.set i none) | _ => none
section
variable {X : Cx} {tg : Expr} {g : DG} {s : DS} {pos : Pos} {W W' : List Nat} {body : List Stmt}
theorem turn_of2 {F0 F : Addr → Prop} {H0 H : Hp} {R R0 : Ro} {σD : DSt} {σ0 σ : St} {x : D} {v : V} {xs : List D} {En : Ends} {N : St → Hp → Prop} {o : Out} (hR : ∃ S, R = S ++ R0)
    (r : Rel X.K F H σD σ ((x, v) :: R)) (x0 : Ext F0 H0 F H) (kp : Kp (W ++ W') σ0 σ) (h : dLoop g s (x :: xs) σD = some o)
    (k : ∀ F' H' σ', Ext F0 H0 F' H' → Kp (W ++ W') σ0 σ' → Th X.K En R0 F' H' σ' o)
    (hN : ∀ F' H' σD' σ', Ext F H F' H' → Kp (W ++ W') σ0 σ' → Rel X.K F' H' σD' σ' R → dLoop g s xs σD' = some o → N σ' H') :
    rG X.K g W v σ H fun σ2 H2 => rS X.K s W' { En with nx := N, ct := N, bk := En.nx } σ2 H2 := by
  obtain ⟨S, rfl⟩ := hR
  refine turn_of (R := S ++ R0) (R0 := R0) (W := W) (W' := W') (fun F' H' _ σD' σ' S' q => ?_) r x0 kp h k hN
  have q2 : Rel X.K F' H' σD' σ' (S ++ (S' ++ R0)) := q.perm (List.perm_append_comm_assoc _ _ _)
  exact q2.popN
theorem qs_forM (i : Nat) {x : Str} {npos : Pos} (hc : X.calm = true) (hg : QG X tg g W) (hb : QSs X body s W') (hp : PassesOwn (model X.prog X.w) X.A X.env X.xe) (hN : X.N[i]? = some x := by rfl) (hv : Vis X.env.scope x := by first | exact Or.inl rfl | exact Or.inr (Or.inl rfl) | exact Or.inr (Or.inr rfl)) (hd : (x == ("__debug__" : Str)) = false := by decide)
    (hcd : (x == ("__classdict__" : Str)) = false := by decide) (hf : ∀ y, foldedSetIterable (.Name x npos) X.env y = pure y := by intro _; rfl) : QS X (.For tg (.Name x npos) body [] pos) (sForM i g s) (W ++ W') :=
  PS_imp (ps_for hp hc (pi_list (pe_var hN hv hd hcd)) hg hb hf) fun En σ H ⟨F, R, σD, o, r, ec, k⟩ => by
    unfold sForM at ec
    split at ec
    · rename_i xs h1
      obtain ⟨v0, hv0, r0⟩ := r.take (dget_some h1)
      obtain ⟨a, vs, rfl, ha, hl, r1⟩ := r0.openL
      -- the list itself is handed to the shared part
      obtain ⟨L, ⟨L1, L2, o1, h12, eL⟩, nd, nf⟩ := r1.front.own
      simp only [Ow] at o1
      obtain ⟨b, ob, eb, hb', rfl⟩ := o1
      cases eb
      subst eL
      have x1 : Ext F H (fun c => F c ∨ c = a) H := fun c fc => ⟨.inl fc, rfl⟩
      have r2 : Rel X.K (fun c => F c ∨ c = a) H (σD.set i none) σ (xs.zip vs ++ R) := by
        refine Rel.of r1.mt ⟨⟨L2, h12.mono x1 fun _ _ => rfl, (List.nodup_cons.mp nd).2, fun c hc fc => ?_⟩, fun c fc => ?_⟩
        · rcases fc with fc | fc
          · exact nf c (by simp [hc]) fc
          · subst fc; exact (List.nodup_cons.mp nd).1 hc
        · rcases fc with fc | fc
          · exact r1.g.dom c fc
          · subst fc; exact ⟨_, ha⟩
      refine ⟨_, hv0, a, rfl, ⟨vs, .inl (.inl ha)⟩, ?_⟩
      refine for_list (K := X.K) (a := a) (xs := vs) (g := rG X.K g W) (tb := rS X.K s W') (fun n σ1 H1 => ∃ F2 σD1, Ext (fun c => F c ∨ c = a) H F2 H1 ∧ Kp (W ++ W') σ σ1 ∧ Rel X.K F2 H1 σD1 σ1 ((xs.drop n).zip (vs.drop n) ++ R) ∧ dLoop g s (xs.drop n) σD1 = some o)
        ⟨_, _, Ext.refl, Kp.refl, by simpa using r2, by simpa using ec⟩ (fun n σ1 H1 _ ⟨F2, σD1, x2, _, _, _⟩ => .inl (.inl ((x2 a (.inr rfl)).2.trans ha))) ?_ ?_
      · rintro n y σ1 H1 hn ⟨F2, σD1, x2, kp1, r3, h3⟩
        have hnl : n < vs.length := (List.getElem?_eq_some_iff.mp hn).1
        have hnl' : n < xs.length := by rw [hl]; exact hnl
        rw [List.drop_eq_getElem_cons hnl', List.drop_eq_getElem_cons hnl] at r3
        rw [List.drop_eq_getElem_cons hnl'] at h3
        have ey : vs[n] = y := by rw [List.getElem?_eq_getElem hnl] at hn; exact Option.some.inj hn
        rw [ey] at r3
        exact turn_of2 (R := (xs.drop (n + 1)).zip (vs.drop (n + 1)) ++ R) (R0 := R) (W := W) (W' := W') ⟨_, rfl⟩ r3 (x1.trans x2) kp1 h3 k fun F3 H3 σD3 σ3 x3 kp3 r4 h4 => ⟨F3, σD3, x2.trans x3, kp3, r4, h4⟩
      · rintro σ1 H1 ⟨F2, σD1, x2, kp1, r3, h3⟩
        have e1 : xs.drop vs.length = [] := List.drop_eq_nil_of_le (by rw [hl]; exact Nat.le_refl _)
        rw [e1] at h3 r3
        simp only [dLoop] at h3
        cases h3
        exact k F2 H1 σ1 (x1.trans x2) kp1 (by simpa using r3)
    · cases ec
end
end DD
namespace DD
open PySem PySem.Spec PyProof.Rows L2
/-! ### names for the operators -/
abbrev gAdd : D → D → Option D := gI0 fun i j => i + j
abbrev gSub : D → D → Option D := gI0 fun i j => i - j
abbrev gAnd : D → D → Option D := gI0 Builtin.bitAnd
abbrev gOr : D → D → Option D := gI0 Builtin.bitOr
abbrev gXor : D → D → Option D := gI0 Builtin.bitXor
abbrev gMod : D → D → Option D := gI (fun _ j => decide (0 < j)) fun i j => i % j
def fdvC (_ j : Int) : Bool := decide (0 < j ∧ j.natAbs.log2 < 9000)
abbrev gFdv : D → D → Option D := gI fdvC fun i j => i / j
theorem o_fdv {X : Cx} : OpS X (binaryOp .FloorDiv) gFdv := opS_I (C := fun _ j => 0 < j ∧ j.natAbs.log2 < 9000) (opI fun i j _ _ _ _ _ hc q => by
  have h1 : (0 : Int) < j := hc.1
  exact floordiv_int (by omega) (by rw [Int.fdiv_eq_ediv_of_nonneg i (by omega)]; exact q) (.inl (PyProof.noPylong_of_log2 hc.2))) fun i j h => by simpa [fdvC] using h
abbrev gPow : D → D → Option D := gI (fun i j => decide (0 ≤ j ∧ j ≤ 1000000 ∧ i.natAbs < 2 ^ 64)) fun i j => i ^ j.toNat
abbrev gShl : D → D → Option D := gI (fun i j => decide (0 ≤ j ∧ j ≤ 1000000 ∧ i.natAbs < 2 ^ 64)) fun i j => i * 2 ^ j.toNat
abbrev gShr : D → D → Option D := gI (fun _ j => decide (0 ≤ j)) fun i j => i / 2 ^ j.toNat
def mulC (i j : Int) : Bool := decide ((-(2 ^ 64) < i ∧ i < 2 ^ 64) ∨ (-(2 ^ 64) < j ∧ j < 2 ^ 64))
abbrev gMul : D → D → Option D := gI mulC fun i j => i * j
theorem o_mul {X : Cx} : OpS X (binaryOp .Mult) gMul := opS_I op_mul fun i j h => by simpa [mulC, CMul] using h
abbrev gLt : D → D → Option D := gB0 fun i j => decide (i < j)
abbrev gLe : D → D → Option D := gB0 fun i j => decide (i ≤ j)
abbrev gGt : D → D → Option D := gB0 fun i j => decide (j < i)
abbrev gGe : D → D → Option D := gB0 fun i j => decide (j ≤ i)
/-! ### a block's names, by a check -/
def cyChk (N N' : List Str) (names : List (Str × NameKind)) (kd : Str → Option NameKind) : Bool :=
  decide ((names.map (·.1)).Nodup) && decide (N.length ≤ N'.length) && names.all (fun p => p.2 != .free || kd p.1 == some .cell || kd p.1 == some .free) &&
    (List.range N.length).all fun i => match N'[i]? with
      | none => true
      | some x => match names.lookup x with
        | none => true
        | some k => k == .free && N[i]? == some x
theorem lookup_none {α : Type} : ∀ {l : List (Str × α)} {x : Str} {k : α}, l.lookup x = none → (x, k) ∉ l := fun {l x k} h hm => by
  obtain ⟨k', e⟩ := lookup_ex hm
  rw [h] at e; cases e
theorem cy_of {X : Cx} {N' : List Str} {scope : Scope} (hk : scope.kind = .function) (h : cyChk X.N N' scope.names X.env.kindOf = true) : CyOk X N' scope := by
  unfold cyChk at h
  simp only [Bool.and_eq_true, decide_eq_true_eq] at h
  obtain ⟨⟨⟨h1, h2⟩, h3⟩, h4⟩ := h
  have look : ∀ i x, i < X.N.length → N'[i]? = some x → (∃ k, (x, k) ∈ scope.names) → (x, NameKind.free) ∈ scope.names ∧ X.N[i]? = some x := fun i x hi e ⟨k, hm⟩ => by
    have := List.all_eq_true.mp h4 i (List.mem_range.mpr hi)
    rw [e] at this
    simp only at this
    rw [lookup_mem h1 hm] at this
    simp only [Bool.and_eq_true, beq_iff_eq] at this
    obtain ⟨e1, e2⟩ := this
    subst e1
    exact ⟨hm, e2⟩
  refine ⟨hk, h1, h2, fun x hx => ?_, fun i x hi e hx => (look i x hi e ⟨_, hx⟩).2, fun i x hi e hx => (look i x hi e hx).1⟩
  have := List.all_eq_true.mp h3 _ hx
  simp at this
  exact this
/-- a global int -/
theorem qb_glob {X : Cx} {x : Str} {i : Int} {pos : Pos} (hg : Gl X x) (hm : ∃ t, X.mg x = some (.int i t)) (hd : (x == ("__debug__" : Str)) = false := by decide) : QB X (.Name x pos) (pC (.int i)) := by
  obtain ⟨t, hm⟩ := hm
  exact PE_imp (pe_glob (v := .int i) hg hm ⟨t, rfl⟩ hd) fun σ H Q ⟨F, R, σD, d, r, ec, k⟩ => by cases ec; exact k F H _ Grow.refl ⟨[], Ow.of_sc rfl⟩
theorem qt_b {X : Cx} {e : Expr} {p : DP} (h : QB X e p) (he : ∀ whole, isTrue e X.env whole = (do let v ← whole; standAt e.pos; holding [v] (truthy v)) := by intro _; rfl) : QT X e (dTest (dS p)) := qt_e (qe_s h) he
end DD
namespace DD
open PySem PySem.Spec PyProof.Rows L2
section
variable {X : Cx} {es : List Expr} {ps : List DP} {pos : Pos}
theorem OwL.ofBor {K : PySem.W.Frag} {F : Addr → Prop} {H : Hp} : ∀ {ds : List D} {vs : List V}, BorL K F H ds vs → ∃ L, OwL K F H ds vs L
  | [], [], _ => ⟨[], by simp only [OwL]; exact ⟨trivial, trivial⟩⟩
  | d :: ds, v :: vs, ⟨⟨L1, o⟩, r⟩ => by
    obtain ⟨L2, ol⟩ := OwL.ofBor r
    exact ⟨L1 ++ L2, by simp only [OwL]; exact ⟨v, vs, L1, L2, rfl, o, ol, rfl⟩⟩
def pLst (ps : List DP) : DP := fun σ => (evB ps σ).bind fun ds => if ds.length ≤ sizeLine then some (.lst true ds) else none
/-- a list display that is only looked at -/
theorem qb_lst (h : QBA X es ps) : QB X (.List es pos) (pLst ps) := PE_imp (pe_lst h) fun σ H Q ⟨F, R, σD, d, r, ec, k⟩ => by
  unfold pLst at ec
  rcases h1 : evB ps σD with _ | ds
  · rw [h1] at ec; cases ec
  · rw [h1] at ec; simp only [Option.bind_some] at ec
    split at ec
    · rename_i hz
      cases ec
      refine ⟨F, R, σD, ds, r, h1, fun F1 H1 vs g1 b1 => ?_⟩
      obtain ⟨L, ol⟩ := OwL.ofBor b1
      refine ⟨by rw [ol.length]; exact hz, fun p hp => ?_⟩
      have nF : ∀ c, F1 c → c ≠ p := fun c fc z => by
        obtain ⟨o, h⟩ := g1.dm r.g.dom c fc
        rw [z, hp] at h; cases h
      have gr : Grow F1 H1 F1 (upd H1 p (.lst vs)) := ⟨fun c fc => ⟨fc, upd_ne (nF c fc)⟩, fun c o e => by rw [upd_ne (ne_of_none e hp)]; exact e, fun c fc => .inl fc, fun dm c fc => by rw [upd_ne (nF c fc)]; exact dm c fc⟩
      refine k F1 _ _ (g1.trans gr) ⟨p :: L, ?_⟩
      simp only [Ow]
      exact ⟨p, vs, L, rfl, upd_same, ol.mono gr.x fun c hc => by
        obtain ⟨o, e⟩ := ol.dom c hc
        rw [upd_ne (ne_of_none e hp)], rfl⟩
    · cases ec
end
end DD
namespace DD
open PySem PySem.Spec PyProof.Rows L2
theorem dS_some {p : DP} {σ σ' : DSt} {d : D} (h : dS p σ = some (d, σ')) : p σ = some d ∧ σ' = σ ∧ ∃ w, d.sc = some w := by
  unfold dS at h
  rcases hp : p σ with _ | x
  · rw [hp] at h; cases h
  · rw [hp] at h
    simp only [Option.bind_some] at h
    rcases hs : x.sc with _ | w
    · rw [hs] at h; cases h
    · rw [hs] at h; cases h
      exact ⟨rfl, rfl, w, hs⟩
theorem qt_cmpB {X : Cx} {a b : Expr} {p q : DP} {pos : Pos} {op : CmpOp} {g : D → D → Option D} (o : OpS X (compareOp op) g) (ha : QB X a p) (hb : QB X b q) (hm : behindInMarks op b = false) : QT X (.Compare a [op] [b] pos) (dTest (dS (pOp g p q))) :=
  PT_imp (pt_cmpR o.run ha hb hm) fun σ H Q ⟨F, R, σD, k, σD', r, ec, kk⟩ => by
    obtain ⟨e1, e2, w, hw⟩ := dS_some (dTest_some ec)
    subst e2
    show tOp _ _ _ σ H _
    exact rOpB o ⟨F, R, _, _, r, e1, fun F' H' v g' b' => ⟨k, b'.bl, kk F' H' g'.x (r.grow g')⟩⟩
end DD
namespace DD
open PySem PySem.Spec PyProof.Rows L2
section
variable {X : Cx} {e tg elt iter : Expr} {ifs : List Expr} {g : DG} {t : DT} {c : DE} {i : DI} {pos : Pos} {W : List Nat} {scope : Scope} {k : Nat}
theorem lc_e (N' : List Str) (hi : QI X tg iter i) (hg : ∀ cl s H fp pins, QG (cyOf X N' scope cl s H fp pins) tg g W) (ht : ∀ cl s H fp pins, QIf (cyOf X N' scope cl s H fp pins) ifs t)
    (he : ∀ cl s H fp pins, QE (cyOf X N' scope cl s H fp pins) elt c) (hk : N'.length - X.N.length = k := by rfl) (hw : (W.all fun i => decide (X.N.length ≤ i)) = true := by rfl) (hc : X.calm = true := by rfl) (hkd : scope.kind = .function := by rfl) (T : cyChk X.N N' scope.names X.env.kindOf = true := by rfl) (hs : ∀ x, foldedSetIterable iter X.env x = pure x := by intro _; rfl) :
    QE X (.ListComp elt [⟨tg, iter, ifs, 0⟩] scope pos) (dLc k i g t c) := by
  subst hk
  exact qe_lc hc (cy_of hkd T) hi hg ht he (fun j hj => by simpa using List.all_eq_true.mp hw j hj) hs
theorem lc_s (ix : Nat) (N' : List Str) {y : Str} {py spos : Pos} (hN : X.N.Nodup) (hi : QI X tg iter i) (hg : ∀ cl s H fp pins, QG (cyOf X N' scope cl s H fp pins) tg g W) (ht : ∀ cl s H fp pins, QIf (cyOf X N' scope cl s H fp pins) ifs t)
    (he : ∀ cl s H fp pins, QE (cyOf X N' scope cl s H fp pins) elt c) (hk : N'.length - X.N.length = k := by rfl) (hw : (W.all fun i => decide (X.N.length ≤ i)) = true := by rfl) (hc : X.calm = true := by rfl) (hkd : scope.kind = .function := by rfl) (T : cyChk X.N N' scope.names X.env.kindOf = true := by rfl)
    (hsw : swapsWith (.ListComp elt [⟨tg, iter, ifs, 0⟩] scope pos) (some (.Name y py)) spos.line X.env = pure true := by rfl)
    (hiN : X.N[ix]? = some y := by rfl) (hx : Loc X.env.scope y := by first | exact Or.inl rfl | exact Or.inr rfl) (hs : ∀ x, foldedSetIterable iter X.env x = pure x := by intro _; rfl) (hf : X.fn y = true ∨ X.env.scope.names.lookup y = some .local := by first | exact .inl rfl | exact .inr rfl | assumption) :
    QS X (.Assign [.Name y py] (.ListComp elt [⟨tg, iter, ifs, 0⟩] scope pos) spos) (sSet ix (dLc k i g t c)) [ix] := by
  subst hk
  exact qs_set_lc ix hN hc (cy_of hkd T) hi hg ht he (fun j hj => by simpa using List.all_eq_true.mp hw j hj) hsw hiN hx hs hf
end
end DD
namespace DD
open PySem PySem.Spec PyProof.Rows L2
/-! ### a loop whose items are lent to it: each one is in the slot x through its turn, and back behind it -/
def give (x : Nat) (σ : DSt) : D × DSt := match dget σ x with
  | some d => (match d.sc with | some _ => (d, σ) | none => (d, σ.set x none))
  | none => (.hole, σ)
def Out.upd (f : DSt → DSt) : Out → Out
  | .nx σ => .nx (f σ)
  | .bk σ => .bk (f σ)
  | .ct σ => .ct (f σ)
  | .rt d σ => .rt d (f σ)
def bLoop (x : Nat) (b : DS) : List D → DSt → Option (Out × List D)
  | [], σ => some (.nx σ, [])
  | d :: ds, σ => (b (σ.set x (some d))).bind fun o => match o with
    | .nx σ2 => (bLoop x b ds (give x σ2).2).map fun r => (r.1, (give x σ2).1 :: r.2)
    | .ct σ2 => (bLoop x b ds (give x σ2).2).map fun r => (r.1, (give x σ2).1 :: r.2)
    | .bk σ2 => some (.nx (give x σ2).2, (give x σ2).1 :: ds)
    | .rt d' σ2 => some (.rt d' (give x σ2).2, (give x σ2).1 :: ds)
def sForB (i x : Nat) (b : DS) : DS := fun σ => match dget σ i with
  | some (.lst true xs) => if x < σ.length then (bLoop x b xs (σ.set i none)).map fun r => r.1.upd fun σ2 => σ2.set i (some (.lst true r.2)) else none
  | _ => none
section
variable {K : PySem.W.Frag} {F F' : Addr → Prop} {H H' : Hp}
theorem give_ok {σD : DSt} {σ : St} {R : Ro} {x : Nat} {y : V} (r : Rel K F H σD σ R) (hy : σ[x]? = some (some y)) : Rel K F H (give x σD).2 σ (((give x σD).1, y) :: R) := by
  unfold give
  rcases h : dget σD x with _ | d
  · exact r.push (by simp only [Ow])
  · simp only
    obtain ⟨v, hv, r1⟩ := r.take (dget_some h)
    rw [hy] at hv; cases hv
    rcases hs : d.sc with _ | w
    · exact r1
    · have e : y = w := (r1.bor (by simp)).sc hs
      subst e
      exact r.scal hs
end
section
variable {X : Cx} {s : DS} {pos : Pos} {W' : List Nat} {body : List Stmt}
theorem Kp.at {W : List Nat} {σ σ' : St} (h : Kp W σ σ') {i : Nat} (hi : (W.contains i) = false) : σ'[i]? = σ[i]? := h i (by simpa using hi)
theorem qs_forB (i x : Nat) {xn yn : Str} {npos tpos : Pos} (hnd : X.N.Nodup) (hb : QSs X body s W') (hp : PassesOwn (model X.prog X.w) X.A X.env X.xe) (hc : X.calm = true := by rfl) (hxi : ((x :: W').contains i) = false := by rfl) (hxw : (W'.contains x) = false := by rfl)
    (hN : X.N[i]? = some xn := by rfl) (hv : Vis X.env.scope xn := by first | exact Or.inl rfl | exact Or.inr (Or.inl rfl) | exact Or.inr (Or.inr rfl)) (hd : (xn == ("__debug__" : Str)) = false := by decide) (hcd : (xn == ("__classdict__" : Str)) = false := by decide)
    (hNx : X.N[x]? = some yn := by rfl) (hl : Loc X.env.scope yn := by first | exact Or.inl rfl | exact Or.inr rfl) (hfn : X.fn yn = true ∨ X.env.scope.names.lookup yn = some .local := by first | exact .inl rfl | exact .inr rfl | assumption)
    (hf : ∀ y, foldedSetIterable (.Name xn npos) X.env y = pure y := by intro _; rfl) : QS X (.For (.Name yn tpos) (.Name xn npos) body [] pos) (sForB i x s) (x :: W') :=
  PS_imp (ps_for hp hc (pi_list (pe_var hN hv hd hcd)) (pg_name hnd hNx hl hfn) hb hf) fun En σ H ⟨F, R, σD, o, r, ec, k⟩ => by
    have hxi' : i ≠ x := by rintro rfl; simp at hxi
    unfold sForB at ec
    split at ec
    · rename_i xs h1
      split at ec
      · rename_i hxl
        rcases hB : bLoop x s xs (σD.set i none) with _ | ⟨o1, items⟩
        · rw [hB] at ec; cases ec
        · rw [hB] at ec
          cases ec
          obtain ⟨v0, hv0, r0⟩ := r.take (dget_some h1)
          obtain ⟨a, vs, rfl, ha, hlen, r1⟩ := r0.openN
          have hlσ : x < σ.length := by rw [← r.mt.length]; exact hxl
          -- the list put together again
          have fin : ∀ {F2 H2 σD2 σ2 items2} {S : Ro}, Kp (x :: W') σ σ2 → items2.length = vs.length → Rel X.K F2 H2 σD2 σ2 ((.node a vs, .ref a) :: (items2.zip vs ++ (S ++ R))) → Rel X.K F2 H2 (σD2.set i (some (.lst true items2))) σ2 (S ++ R) := fun {F2 H2 σD2 σ2 items2 S} kp hl2 r2 =>
            (r2.formN hl2).put (by rw [kp.at hxi]; exact hv0)
          refine ⟨_, hv0, a, rfl, ⟨vs, .inl (.inl ha)⟩, ?_⟩
          refine for_list (K := X.K) (a := a) (xs := vs) (g := gName x) (tb := rS X.K s W') (fun n σ1 H1 => ∃ F2 σD1 dn r', Ext F H F2 H1 ∧ Kp (x :: W') σ σ1 ∧ x < σ1.length ∧
              Rel X.K F2 H1 σD1 σ1 ((.node a vs, .ref a) :: (dn.zip (vs.take n) ++ ((xs.drop n).zip (vs.drop n) ++ R))) ∧ dn.length = n ∧ bLoop x s (xs.drop n) σD1 = some r' ∧ r'.1 = o1 ∧ dn ++ r'.2 = items)
            ⟨F, _, [], (o1, items), Ext.refl, Kp.refl, hlσ, by simpa using r1, rfl, by simpa using hB, rfl, rfl⟩ (fun n σ1 H1 _ ⟨F2, σD1, dn, r', _, _, _, r2, _⟩ => .inl (.inl (r2.nodeAt (by simp)))) ?_ ?_
          · rintro n y σ1 H1 hn ⟨F2, σD1, dn, r', x2, kp1, hl1, r2, hdn, hB2, hr1, hr2⟩
            have hnl : n < vs.length := (List.getElem?_eq_some_iff.mp hn).1
            have hnl' : n < xs.length := by rw [hlen]; exact hnl
            have ey : vs[n] = y := by rw [List.getElem?_eq_getElem hnl] at hn; exact Option.some.inj hn
            rw [List.drop_eq_getElem_cons hnl', List.drop_eq_getElem_cons hnl, ey] at r2
            rw [List.drop_eq_getElem_cons hnl'] at hB2
            have r3 : Rel X.K F2 H1 σD1 σ1 ((xs[n], y) :: ((.node a vs, .ref a) :: (dn.zip (vs.take n) ++ ((xs.drop (n + 1)).zip (vs.drop (n + 1)) ++ R)))) := r2.perm (by
              have p1 : ((D.node a vs, V.ref a) :: (dn.zip (vs.take n) ++ ((xs[n] :: xs.drop (n + 1)).zip (y :: vs.drop (n + 1)) ++ R))).Perm ((D.node a vs, V.ref a) :: ((xs[n], y) :: (dn.zip (vs.take n) ++ ((xs.drop (n + 1)).zip (vs.drop (n + 1)) ++ R)))) := .cons _ List.perm_middle
              exact p1.trans (.swap _ _ _))
            have r4 := r3.store (i := x) hl1
            simp only [bLoop] at hB2
            rcases h2 : s (σD1.set x (some xs[n])) with _ | o2
            · rw [h2] at hB2; cases hB2
            · rw [h2] at hB2; simp only [Option.bind_some] at hB2
              refine ⟨F2, _, _, o2, r4, h2, fun F3 H3 σ3 x3 kp3 => ?_⟩
              have kp4 : Kp (x :: W') σ σ3 := fun kk hk => by
                have hkw : kk ∉ W' := fun z => hk (by simp [z])
                have hkx : x ≠ kk := fun z => hk (by simp [z])
                rw [kp3 kk hkw, List.getElem?_set_ne hkx, kp1 kk hk]
              have hx3 : σ3[x]? = some (some y) := by
                rw [kp3.at hxw]; simp [hl1]
              have l3 : x < σ3.length := (List.getElem?_eq_some_iff.mp hx3).1
              have tk : vs.take (n + 1) = vs.take n ++ [y] := by rw [List.take_succ, hn]; rfl
              -- behind a turn that goes on
              have goon : ∀ {σD3 : DSt}, (bLoop x s (xs.drop (n + 1)) (give x σD3).2).map (fun r => (r.1, (give x σD3).1 :: r.2)) = some r' → Rel X.K F3 H3 σD3 σ3 ((.node a vs, .ref a) :: (dn.zip (vs.take n) ++ ((xs.drop (n + 1)).zip (vs.drop (n + 1)) ++ R))) →
                  ∃ F2 σD1 dn r', Ext F H F2 H3 ∧ Kp (x :: W') σ σ3 ∧ x < σ3.length ∧ Rel X.K F2 H3 σD1 σ3 ((.node a vs, .ref a) :: (dn.zip (vs.take (n + 1)) ++ ((xs.drop (n + 1)).zip (vs.drop (n + 1)) ++ R))) ∧ dn.length = n + 1 ∧ bLoop x s (xs.drop (n + 1)) σD1 = some r' ∧ r'.1 = o1 ∧ dn ++ r'.2 = items := fun {σD3} hm r5 => by
                rcases h3 : bLoop x s (xs.drop (n + 1)) (give x σD3).2 with _ | r6
                · rw [h3] at hm; cases hm
                · rw [h3] at hm
                  cases hm
                  refine ⟨F3, _, dn ++ [(give x σD3).1], r6, x2.trans x3, kp4, l3, ?_, by simp [hdn], h3, hr1, by rw [← hr2]; simp⟩
                  have r7 := give_ok r5 hx3
                  rw [tk, List.zip_append (by simp [hdn]; omega)]
                  refine r7.perm ?_
                  have p1 : (((give x σD3).1, y) :: (D.node a vs, V.ref a) :: (dn.zip (vs.take n) ++ ((xs.drop (n + 1)).zip (vs.drop (n + 1)) ++ R))).Perm ((D.node a vs, V.ref a) :: ((give x σD3).1, y) :: (dn.zip (vs.take n) ++ ((xs.drop (n + 1)).zip (vs.drop (n + 1)) ++ R))) := .swap _ _ _
                  refine p1.trans (.cons _ ?_)
                  rw [List.append_assoc]
                  exact List.perm_middle.symm
              -- a turn that ends the loop
              have stop : ∀ {σD3 : DSt} {S : Ro}, Rel X.K F3 H3 σD3 σ3 (S ++ ((.node a vs, .ref a) :: (dn.zip (vs.take n) ++ ((xs.drop (n + 1)).zip (vs.drop (n + 1)) ++ R)))) → (dn ++ (give x σD3).1 :: xs.drop (n + 1)) = items → Rel X.K F3 H3 ((give x σD3).2.set i (some (.lst true items))) σ3 (S ++ R) := fun {σD3 S} r5 hit => by
                have r7 := give_ok r5 hx3
                refine fin (S := S) kp4 (by rw [← hit]; simp [hdn]; omega) ?_
                rw [← hit]
                have ez : (dn ++ (give x σD3).1 :: xs.drop (n + 1)).zip vs = dn.zip (vs.take n) ++ (((give x σD3).1, y) :: (xs.drop (n + 1)).zip (vs.drop (n + 1))) := by
                  have : vs = vs.take n ++ y :: vs.drop (n + 1) := by
                    rw [← ey, ← List.drop_eq_getElem_cons hnl, List.take_append_drop]
                  conv => lhs; rw [this]
                  rw [List.zip_append (by simp [hdn]; omega)]
                  rfl
                rw [ez]
                refine r7.perm ?_
                have p1 : (((give x σD3).1, y) :: (S ++ ((D.node a vs, V.ref a) :: (dn.zip (vs.take n) ++ ((xs.drop (n + 1)).zip (vs.drop (n + 1)) ++ R))))).Perm (((give x σD3).1, y) :: ((D.node a vs, V.ref a) :: (S ++ (dn.zip (vs.take n) ++ ((xs.drop (n + 1)).zip (vs.drop (n + 1)) ++ R))))) := .cons _ List.perm_middle
                refine p1.trans ((List.Perm.swap _ _ _).trans (.cons _ ?_))
                have p2 : (((give x σD3).1, y) :: (S ++ (dn.zip (vs.take n) ++ ((xs.drop (n + 1)).zip (vs.drop (n + 1)) ++ R)))).Perm (((give x σD3).1, y) :: (dn.zip (vs.take n) ++ ((xs.drop (n + 1)).zip (vs.drop (n + 1)) ++ (S ++ R)))) := by
                  refine .cons _ ((List.perm_append_comm_assoc _ _ _).trans (List.Perm.append_left _ ?_))
                  exact List.perm_append_comm_assoc _ _ _
                refine p2.trans ?_
                rw [List.append_assoc, List.cons_append]
                exact List.perm_middle.symm
              cases o2 with
              | nx σ4 => exact fun r5 => goon hB2 r5
              | ct σ4 => exact fun r5 => goon hB2 r5
              | bk σ4 =>
                cases hB2
                subst hr1
                exact fun r5 => k F3 H3 σ3 (x2.trans x3) kp4 (stop (S := []) r5 hr2)
              | rt d' σ4 =>
                cases hB2
                subst hr1
                exact fun v r5 => k F3 H3 σ3 (x2.trans x3) kp4 v (stop (S := [(d', v)]) r5 hr2)
          · rintro σ1 H1 ⟨F2, σD1, dn, r', x2, kp1, hl1, r2, hdn, hB2, hr1, hr2⟩
            have e1 : xs.drop vs.length = [] := List.drop_eq_nil_of_le (by rw [hlen]; exact Nat.le_refl _)
            rw [e1] at hB2 r2
            simp only [bLoop] at hB2
            cases hB2
            subst hr1
            rw [List.append_nil] at hr2
            subst hr2
            refine k F2 H1 σ1 x2 kp1 (fin (S := []) kp1 (by rw [hdn]) ?_)
            have : vs.take vs.length = vs := List.take_length
            rw [this] at r2
            simpa using r2
      · cases ec
    · cases ec
end
end DD
namespace DD
open PySem PySem.Spec PyProof.Rows L2
/-! ### a comprehension whose items are lent to it -/
def bComp (x : Nat) (t : DT) (c : DE) : List D → DSt → Option (List D × List D × DSt)
  | [], σ => some ([], [], σ)
  | d :: ds, σ => (t (σ.set x (some d))).bind fun p => if p.1 = true then
      (c p.2).bind fun q => (bComp x t c ds (give x q.2).2).map fun r => (q.1 :: r.1, (give x q.2).1 :: r.2.1, r.2.2)
    else (bComp x t c ds (give x p.2).2).map fun r => (r.1, (give x p.2).1 :: r.2.1, r.2.2)
def dLcB (i x : Nat) (t : DT) (c : DE) : DE := fun σ => match dget σ i with
  | some (.lst true xs) => if xs.length ≤ sizeLine then (bComp x t c xs (σ.set i none ++ [none])).map fun r => (.lst true r.1, (r.2.2.take σ.length).set i (some (.lst true r.2.1))) else none
  | _ => none
section
variable {X : Cx} {elt : Expr} {ifs : List Expr} {t : DT} {c : DE} {pos : Pos} {scope : Scope}
theorem lcB_go {F : Addr → Prop} {H : Hp} {R : Ro} {σD σE : DSt} {σ : St} {xs ys items : List D} {a : Addr} {vs : List V} {x : Nat} {Q : VK} (hx : x = σ.length) (hlen : xs.length = vs.length)
    (r : Rel X.K F H σD σ ((.node a vs, .ref a) :: (xs.zip vs ++ R))) (hz : xs.length ≤ sizeLine)
    (h : bComp x t c xs (σD ++ [none]) = some (ys, items, σE)) (kk : ∀ F' H' v, Ext F H F' H' → Rel X.K F' H' (σE.take σD.length) σ ((.lst true items, .ref a) :: (.lst true ys, v) :: R) → Q v H') (p : Addr) (hp : H p = none) :
    ∃ W1 : Nat → Nat → St → Hp → Prop, (∃ m, W1 0 m (σ ++ [none]) (upd H p (.lst []))) ∧ ∀ i m σ' H', W1 i m σ' H' →
      ((Itl X.K a).stop i H' ∧ Q (.ref p) H') ∨ ((Itl X.K a).go i H' ∧ ∀ y H2, (Itl X.K a).yld i H' y H2 → gName x y σ' H2 fun σ2 H3 => rT X.K t σ2 H3 fun ok H4 => if ok = true then
        rE X.K c σ2 H4 fun y H5 => ∃ ys, H5 p = some (.lst ys) ∧ ys.length < sizeLine ∧ ∃ m', m' < m ∧ W1 (i + 1) m' σ2 (upd H5 p (.lst (ys ++ [y])))
        else ∃ m', m' < m ∧ W1 (i + 1) m' σ2 H4) := by
  have hml := r.mt.length
  obtain ⟨r0, x0⟩ := (r.ext0 (k := 1)).alloc (o := .lst []) hp
  have r1 : Rel X.K F (upd H p (.lst [])) (σD ++ [none]) (σ ++ [none]) ((.lst true [], .ref p) :: ((.node a vs, .ref a) :: (xs.zip vs ++ R))) := r0.formL (xs := []) (vs := []) rfl upd_same
  refine ⟨fun n m σ1 H1 => m = xs.length - n ∧ n ≤ xs.length ∧ ∃ F1 σD1 acc dn zs ws, Ext F H F1 H1 ∧ Kp [x] (σ ++ [none]) σ1 ∧ x < σ1.length ∧
      Rel X.K F1 H1 σD1 σ1 ((.lst true acc, .ref p) :: ((.node a vs, .ref a) :: (dn.zip (vs.take n) ++ ((xs.drop n).zip (vs.drop n) ++ R)))) ∧ acc.length ≤ n ∧ dn.length = n ∧
      bComp x t c (xs.drop n) σD1 = some (zs, ws, σE) ∧ acc ++ zs = ys ∧ dn ++ ws = items,
    ⟨_, rfl, Nat.zero_le _, F, _, [], [], ys, items, x0, Kp.refl, by simp [hx], by simpa using r1, Nat.zero_le _, rfl, by simpa using h, rfl, rfl⟩, ?_⟩
  rintro n m σ1 H1 ⟨rfl, hle, F1, σD1, acc, dn, zs, ws, x1, kp1, hx1, r2, hacc, hdn, h1, hys, hit⟩
  rcases Nat.lt_or_ge n xs.length with hn | hn
  · right
    have hnl : n < vs.length := by rw [← hlen]; exact hn
    have ha1 : H1 a = some (.lst vs) := r2.nodeAt (by simp)
    refine ⟨⟨vs, vs[n], .inl (.inl ha1), List.getElem?_eq_getElem hnl⟩, fun y H2 ⟨e2, hy⟩ => ?_⟩
    subst e2
    have ey : vs[n] = y := by have := hy vs (.inl (.inl ha1)); rw [List.getElem?_eq_getElem hnl] at this; exact Option.some.inj this
    rw [List.drop_eq_getElem_cons hn, List.drop_eq_getElem_cons hnl, ey] at r2
    rw [List.drop_eq_getElem_cons hn] at h1
    have r3 : Rel X.K F1 H2 σD1 σ1 ((xs[n], y) :: ((.lst true acc, .ref p) :: ((.node a vs, .ref a) :: (dn.zip (vs.take n) ++ ((xs.drop (n + 1)).zip (vs.drop (n + 1)) ++ R))))) := r2.perm (by
      have p1 : ((D.lst true acc, V.ref p) :: ((D.node a vs, V.ref a) :: (dn.zip (vs.take n) ++ ((xs[n] :: xs.drop (n + 1)).zip (y :: vs.drop (n + 1)) ++ R)))).Perm ((D.lst true acc, V.ref p) :: ((D.node a vs, V.ref a) :: ((xs[n], y) :: (dn.zip (vs.take n) ++ ((xs.drop (n + 1)).zip (vs.drop (n + 1)) ++ R))))) := .cons _ (.cons _ List.perm_middle)
      exact p1.trans ((List.Perm.cons _ (.swap _ _ _)).trans (.swap _ _ _)))
    have r4 := r3.store (i := x) hx1
    have hy2 : (σ1.set x (some y))[x]? = some (some y) := by simp [hx1]
    have kp2 : Kp [x] (σ ++ [none]) (σ1.set x (some y)) := kp1.trans Kp.set
    have tk : vs.take (n + 1) = vs.take n ++ [y] := by rw [List.take_succ, List.getElem?_eq_getElem hnl, ey]; rfl
    have zt : ∀ d : D, (dn ++ [d]).zip (vs.take (n + 1)) = dn.zip (vs.take n) ++ [(d, y)] := fun d => by
      rw [tk, List.zip_append (by simp [hdn]; omega)]; rfl
    simp only [bComp] at h1
    rcases e2 : t (σD1.set x (some xs[n])) with _ | ⟨ok, σ5⟩
    · rw [e2] at h1; cases h1
    · rw [e2] at h1; simp only [Option.bind_some] at h1
      refine ⟨F1, _, _, ok, σ5, r4, e2, fun F4 H4 x4 r5 => ?_⟩
      cases ok with
      | false =>
        simp only [Bool.false_eq_true, if_false] at h1 ⊢
        rcases e3 : bComp x t c (xs.drop (n + 1)) (give x σ5).2 with _ | ⟨zs', ws', σE'⟩
        · rw [e3] at h1; cases h1
        · rw [e3] at h1; cases h1
          refine ⟨xs.length - (n + 1), by omega, rfl, hn, F4, _, acc, dn ++ [(give x σ5).1], _, ws', x1.trans x4, kp2, by simpa using hx1, ?_, by omega, by simp [hdn], e3, hys, by rw [← hit]; simp⟩
          have r6 := give_ok r5 hy2
          rw [zt]
          refine r6.perm ?_
          have p1 : (((give x σ5).1, y) :: ((D.lst true acc, V.ref p) :: ((D.node a vs, V.ref a) :: (dn.zip (vs.take n) ++ ((xs.drop (n + 1)).zip (vs.drop (n + 1)) ++ R))))).Perm ((D.lst true acc, V.ref p) :: ((D.node a vs, V.ref a) :: (((give x σ5).1, y) :: (dn.zip (vs.take n) ++ ((xs.drop (n + 1)).zip (vs.drop (n + 1)) ++ R))))) := (List.Perm.swap _ _ _).trans (.cons _ (.swap _ _ _))
          refine p1.trans (.cons _ (.cons _ ?_))
          rw [List.append_assoc]
          exact List.perm_middle.symm
      | true =>
        simp only [if_true] at h1 ⊢
        rcases e3 : c σ5 with _ | ⟨d, σ6⟩
        · rw [e3] at h1; cases h1
        · rw [e3] at h1; simp only [Option.bind_some] at h1
          rcases e4 : bComp x t c (xs.drop (n + 1)) (give x σ6).2 with _ | ⟨zs', ws', σE'⟩
          · rw [e4] at h1; cases h1
          · rw [e4] at h1; cases h1
            refine ⟨F4, _, σ5, d, σ6, r5, e3, fun F5 H5 v x5 r6 => ?_⟩
            have r7 := give_ok r6 hy2
            have r8 : Rel X.K F5 H5 (give x σ6).2 (σ1.set x (some y)) ((.lst true acc, .ref p) :: ((d, v) :: ((.node a vs, .ref a) :: ((dn ++ [(give x σ6).1]).zip (vs.take (n + 1)) ++ ((xs.drop (n + 1)).zip (vs.drop (n + 1)) ++ R))))) := by
              rw [zt]
              refine r7.perm ?_
              have p1 : (((give x σ6).1, y) :: ((d, v) :: ((D.lst true acc, V.ref p) :: ((D.node a vs, V.ref a) :: (dn.zip (vs.take n) ++ ((xs.drop (n + 1)).zip (vs.drop (n + 1)) ++ R)))))).Perm ((D.lst true acc, V.ref p) :: ((d, v) :: ((D.node a vs, V.ref a) :: (((give x σ6).1, y) :: (dn.zip (vs.take n) ++ ((xs.drop (n + 1)).zip (vs.drop (n + 1)) ++ R)))))) := by
                refine (List.Perm.cons _ (.swap _ _ _)).trans ?_
                refine (List.Perm.swap _ _ _).trans (.cons _ ?_)
                exact (List.Perm.swap _ _ _).trans (.cons _ (.swap _ _ _))
              refine p1.trans (.cons _ (.cons _ (.cons _ ?_)))
              rw [List.append_assoc]
              exact List.perm_middle.symm
            obtain ⟨a', us, ea, he, hl, r9⟩ := r8.openL
            cases ea
            refine ⟨us, he, by omega, xs.length - (n + 1), by omega, rfl, hn, ?_⟩
            have r10 : Rel X.K F5 H5 (give x σ6).2 (σ1.set x (some y)) ((.cell, .ref p) :: ((acc ++ [d]).zip (us ++ [v]) ++ ((.node a vs, .ref a) :: ((dn ++ [(give x σ6).1]).zip (vs.take (n + 1)) ++ ((xs.drop (n + 1)).zip (vs.drop (n + 1)) ++ R))))) := by
              refine r9.perm (.cons _ ?_)
              rw [List.zip_append hl]
              simp
            obtain ⟨r11, x11⟩ := r10.write (o := .lst (us ++ [v]))
            exact ⟨F5, _, acc ++ [d], dn ++ [(give x σ6).1], zs', ws', ((x1.trans x4).trans x5).trans x11, kp2, by simpa using hx1, r11.formL (by simp [hl]) upd_same, by simp; omega, by simp [hdn], e4, by rw [← hys]; simp, by rw [← hit]; simp⟩
  · left
    have ei : n = xs.length := Nat.le_antisymm hle hn
    subst ei
    rw [List.drop_length] at h1 r2
    simp only [bComp] at h1
    cases h1
    rw [List.append_nil] at hys hit
    subst hys
    subst hit
    have ha1 : H1 a = some (.lst vs) := r2.nodeAt (by simp)
    refine ⟨⟨vs, .inl (.inl ha1), by rw [hlen]; exact Nat.le_refl _⟩, kk F1 H1 _ x1 ?_⟩
    have et : vs.take xs.length = vs := by rw [hlen, List.take_length]
    rw [et] at r2
    have r3 : Rel X.K F1 H1 σE σ1 ((.node a vs, .ref a) :: (dn.zip vs ++ ((.lst true acc, .ref p) :: R))) := r2.perm (by
      have p0 : dn.zip vs ++ (([] : List D).zip (vs.drop xs.length) ++ R) = dn.zip vs ++ R := by simp
      rw [p0]
      exact (List.Perm.swap _ _ _).trans (.cons _ List.perm_middle.symm))
    have r4 := r3.formN (by rw [hdn, hlen])
    rw [hml]
    refine r4.cut rfl ?_
    apply List.ext_getElem?
    intro q
    rcases Nat.lt_or_ge q σ.length with hq | hq
    · rw [List.getElem?_take_of_lt hq, kp1 q (by simp; omega), List.getElem?_append_left hq]
    · rw [List.getElem?_eq_none (by simp; omega), List.getElem?_eq_none hq]
theorem lcB_e (i x : Nat) (N' : List Str) {xn yn : Str} {npos tpos : Pos} (hnd : N'.Nodup) (ht : ∀ cl s H fp pins, QIf (cyOf X N' scope cl s H fp pins) ifs t)
    (he : ∀ cl s H fp pins, QE (cyOf X N' scope cl s H fp pins) elt c) (hk : N'.length - X.N.length = 1 := by rfl) (hx : x = X.N.length := by rfl) (hc : X.calm = true := by rfl) (hkd : scope.kind = .function := by rfl) (T : cyChk X.N N' scope.names X.env.kindOf = true := by rfl) (hs : ∀ y, foldedSetIterable (.Name xn npos) X.env y = pure y := by intro _; rfl)
    (hN : X.N[i]? = some xn := by rfl) (hv : Vis X.env.scope xn := by first | exact Or.inl rfl | exact Or.inr (Or.inl rfl) | exact Or.inr (Or.inr rfl)) (hd : (xn == ("__debug__" : Str)) = false := by decide) (hcd : (xn == ("__classdict__" : Str)) = false := by decide)
    (hNx : N'[x]? = some yn := by rfl) (hl : Loc (relabel scope X.env) yn := by first | exact Or.inl rfl | exact Or.inr rfl) (hfn : (scope.names.lookup yn == some .cell) = true ∨ (relabel scope X.env).names.lookup yn = some .local := by first | exact .inl rfl | exact .inr rfl) :
    QE X (.ListComp elt [⟨.Name yn tpos, .Name xn npos, ifs, 0⟩] scope pos) (dLcB i x t c) := by
  intro pins s σ H Q I ⟨F, R, σD, d, σD', r, ec, k⟩
  have hlen : σ.length = X.N.length := I.len
  have hg : ∀ cl s H fp pins, PG (cyOf X N' scope cl s H fp pins) (.Name yn tpos) (gName x) := fun cl s H fp pins => pg_name hnd hNx hl hfn
  refine pe_lc (X := X) (N' := N') (g := gName x) (tt := rT X.K t) (te := rE X.K c) hc (cy_of hkd T) (pi_list (pe_var hN hv hd hcd)) hg ht he hs pins s σ H Q I ?_
  unfold dLcB at ec
  split at ec
  · rename_i xs h1
    split at ec
    · rename_i hz
      rcases hB : bComp x t c xs (σD.set i none ++ [none]) with _ | ⟨ys, items, σE⟩
      · rw [hB] at ec; cases ec
      · rw [hB] at ec; cases ec
        obtain ⟨v0, hv0, r0⟩ := r.take (dget_some h1)
        obtain ⟨a, vs, rfl, ha, hl2, r1⟩ := r0.openN
        refine ⟨_, hv0, a, rfl, ⟨vs, .inl (.inl ha)⟩, fun p hp => ?_⟩
        rw [hk]
        refine lcB_go (X := X) (by rw [hlen, hx]) hl2 r1 hz hB (fun F2 H2 v x2 r2 => k F2 H2 v x2 ?_) p hp
        rw [List.length_set] at r2
        exact r2.put hv0
    · cases ec
  · cases ec
end
end DD
namespace DD
open PySem PySem.Spec PyProof.Rows L2
def ownL (i : Nat) (σ : DSt) : Bool := match dget σ i with | some (.lst true _) => true | _ => false
def dSel (P : DSt → Bool) (c c' : DE) : DE := fun σ => if P σ = true then c σ else c' σ
def sSel (P : DSt → Bool) (c c' : DS) : DS := fun σ => if P σ = true then c σ else c' σ
theorem qe_sel {X : Cx} {e : Expr} {c c' : DE} (P : DSt → Bool) (h : QE X e c) (h' : QE X e c') : QE X e (dSel P c c') := by
  intro pins s σ H Q I ⟨F, R, σD, d, σD', r, ec, k⟩
  unfold dSel at ec
  split at ec
  · exact h pins s σ H Q I ⟨F, R, σD, d, σD', r, ec, k⟩
  · exact h' pins s σ H Q I ⟨F, R, σD, d, σD', r, ec, k⟩
theorem qs_sel {X : Cx} {st : Stmt} {c c' : DS} {W W' : List Nat} (P : DSt → Bool) (h : QS X st c W) (h' : QS X st c' W') : QS X st (sSel P c c') (W ++ W') := by
  intro pins s σ H En I ⟨F, R, σD, o, r, ec, k⟩
  unfold sSel at ec
  split at ec
  · exact h pins s σ H En I ⟨F, R, σD, o, r, ec, fun F' H' σ' x kp => k F' H' σ' x (kp.mono fun k hk => by simp [hk])⟩
  · exact h' pins s σ H En I ⟨F, R, σD, o, r, ec, fun F' H' σ' x kp => k F' H' σ' x (kp.mono fun k hk => by simp [hk])⟩
/-- the law's promise, from its value at data -/
theorem law_sp {K : PySem.W.Frag} {H : Hp} {a : Addr} {ns : List Int} {g : GF} {E : XK} (hg : ∃ d, g [.lst false (ns.map D.int)] = some (.bl true, [d])) (hS : SqL K H a (ns.map V.int)) : spD K 1 g [.ref a] H (fun v _ => v = .bl true) E := by
  obtain ⟨d, hd⟩ := hg
  refine ⟨rfl, fun c => ∃ o, H c = some o, [], [.lst false (ns.map D.int)], .bl true, [d], rfl, ⟨⟨[], ?_, List.nodup_nil, fun c hc => by cases hc⟩, fun c hc => hc⟩, hd, fun F' H' v x _ g => ?_⟩
  · have ol : ∀ ms : List Int, OwL K (fun c => ∃ o, H c = some o) H (ms.map D.int) (ms.map V.int) [] := by
      intro ms
      induction ms with
      | nil => simp only [List.map_nil, OwL]; exact ⟨trivial, trivial⟩
      | cons m ms ih => simp only [List.map_cons, OwL]; exact ⟨_, _, [], [], rfl, Ow.of_sc rfl, ih, rfl⟩
    refine ⟨[], [], ?_, rfl, rfl⟩
    simp only [Ow]
    refine ⟨a, ns.map V.int, rfl, ?_, ol ns, trivial⟩
    rcases hS with h | h
    · refine .inl ⟨?_, h⟩
      rcases h with h | ⟨o, h⟩ <;> exact ⟨_, h⟩
    · exact .inr fun H' => .inr h
  · exact (g.bor (d := .bl true) (v := v) (by simp)).bl
end DD
namespace LW
open PySem L2 DD
def top (i : Nat) : Stmt := PySem.Challenge.pw_telltight_k01_rows_of_groups.main.body.getD i (.Pass ⟨0, 0, 0, 0⟩)
abbrev s_all_names : Stmt := top 6
abbrev s_check_count : Stmt := top 7
abbrev s_value : Stmt := top 19
abbrev s__law_mix : Stmt := top 21
abbrev s__law_pop : Stmt := top 23
abbrev s__law_whole : Stmt := top 24
abbrev s__law_due : Stmt := top 26
abbrev s_check_group : Stmt := top 8
abbrev s_row_of_terms : Stmt := top 12
abbrev s_greatest : Stmt := top 15
abbrev s__law_draws : Stmt := top 22
abbrev s__law_wholes : Stmt := top 25
abbrev s_check_known : Stmt := top 9
abbrev s_rest_row : Stmt := top 13
abbrev s_shared_row : Stmt := top 14
abbrev s_unsure : Stmt := top 16
abbrev s_check_rest : Stmt := top 10
abbrev s_check_shared : Stmt := top 11
abbrev s_rest : Stmt := top 17
abbrev s_shared : Stmt := top 18
abbrev s_law : Stmt := top 27
theorem sc_all_names : FnScope ["n"] ["n"] (defScope s_all_names) := ⟨rfl, rfl, rfl, by decide +kernel, rfl, by decide +kernel, by decide +kernel⟩
theorem sc_check_count : FnScope ["n"] ["n"] (defScope s_check_count) := ⟨rfl, rfl, rfl, by decide +kernel, rfl, by decide +kernel, by decide +kernel⟩
theorem sc_value : FnScope ["row", "table"] ["row", "table"] (defScope s_value) := ⟨rfl, rfl, rfl, by decide +kernel, rfl, by decide +kernel, by decide +kernel⟩
theorem sc__law_mix : FnScope ["_law_cell", "_law_turn", "_law_number"] ["_law_cell", "_law_turn"] (defScope s__law_mix) := ⟨rfl, rfl, rfl, by decide +kernel, rfl, by decide +kernel, by decide +kernel⟩
theorem sc__law_pop : FnScope ["_law_draws_here"] ["_law_draws_here"] (defScope s__law_pop) := ⟨rfl, rfl, rfl, by decide +kernel, rfl, by decide +kernel, by decide +kernel⟩
theorem sc__law_whole : FnScope ["_law_found"] ["_law_found"] (defScope s__law_whole) := ⟨rfl, rfl, rfl, by decide +kernel, rfl, by decide +kernel, by decide +kernel⟩
theorem sc__law_due : FnScope ["_law_n", "_law_a", "_law_b", "_law_c", "_law_rows", "_law_group", "_law_more"] ["_law_n", "_law_a", "_law_b", "_law_c"] (defScope s__law_due) := ⟨rfl, rfl, rfl, by decide +kernel, rfl, by decide +kernel, by decide +kernel⟩
theorem sc_check_group : FnScope ["n", "group"] ["n", "group"] (defScope s_check_group) := ⟨rfl, rfl, rfl, by decide +kernel, rfl, by decide +kernel, by decide +kernel⟩
theorem sc_row_of_terms : FnScope ["n", "terms", "row", "group", "number"] ["n", "terms"] (defScope s_row_of_terms) := ⟨rfl, rfl, rfl, by decide +kernel, rfl, by decide +kernel, by decide +kernel⟩
theorem sc_greatest : FnScope ["n"] ["n"] (defScope s_greatest) := ⟨rfl, rfl, rfl, by decide +kernel, rfl, by decide +kernel, by decide +kernel⟩
theorem sc__law_draws : FnScope ["_law_script", "_law_turn", "_law_many", "_law_cells", "_law_lefts", "_law_found", "_law_k", "_law_at", "_law_number"] ["_law_script", "_law_turn", "_law_many"] (defScope s__law_draws) := ⟨rfl, rfl, rfl, by decide +kernel, rfl, by decide +kernel, by decide +kernel⟩
theorem sc__law_wholes : FnScope ["_law_found"] ["_law_found"] (defScope s__law_wholes) := ⟨rfl, rfl, rfl, by decide +kernel, rfl, by decide +kernel, by decide +kernel⟩
theorem sc_check_known : FnScope ["n", "group"] ["n", "group"] (defScope s_check_known) := ⟨rfl, rfl, rfl, by decide +kernel, rfl, by decide +kernel, by decide +kernel⟩
theorem sc_rest_row : FnScope ["n", "a", "b"] ["n", "a", "b"] (defScope s_rest_row) := ⟨rfl, rfl, rfl, by decide +kernel, rfl, by decide +kernel, by decide +kernel⟩
theorem sc_shared_row : FnScope ["n", "a", "b", "c"] ["n", "a", "b", "c"] (defScope s_shared_row) := ⟨rfl, rfl, rfl, by decide +kernel, rfl, by decide +kernel, by decide +kernel⟩
theorem sc_unsure : FnScope ["n", "a"] ["n", "a"] (defScope s_unsure) := ⟨rfl, rfl, rfl, by decide +kernel, rfl, by decide +kernel, by decide +kernel⟩
theorem sc_check_rest : FnScope ["n", "a", "b"] ["n", "a", "b"] (defScope s_check_rest) := ⟨rfl, rfl, rfl, by decide +kernel, rfl, by decide +kernel, by decide +kernel⟩
theorem sc_check_shared : FnScope ["n", "a", "b", "c"] ["n", "a", "b", "c"] (defScope s_check_shared) := ⟨rfl, rfl, rfl, by decide +kernel, rfl, by decide +kernel, by decide +kernel⟩
theorem sc_rest : FnScope ["n", "a", "b"] ["n", "a", "b"] (defScope s_rest) := ⟨rfl, rfl, rfl, by decide +kernel, rfl, by decide +kernel, by decide +kernel⟩
theorem sc_shared : FnScope ["n", "a", "b", "c"] ["n", "a", "b", "c"] (defScope s_shared) := ⟨rfl, rfl, rfl, by decide +kernel, rfl, by decide +kernel, by decide +kernel⟩
theorem sc_law : FnScope ["_law_script", "_law_draws_here", "_law_turn", "_law_n", "_law_whole_here", "_law_a", "_law_b", "_law_c", "_law_due_here", "_law_again", "_law_found", "_law_row", "_law_one", "_law_other"] ["_law_script"] (defScope s_law) := ⟨rfl, rfl, rfl, by decide +kernel, rfl, by decide +kernel, by decide +kernel⟩
/-! the defs at data -/
def c_all_names : DS := (sRet (dS (pOp gSub (pOp gShl (pC (.int 1)) (pV 0)) (pC (.int 1)))))
def g_all_names : GF := gOf 1 [] c_all_names
def c_check_count : DS := (sIf (tOrD (dTest (dOp gLt (dS (pV 0)) (dS (pC (.int 1))))) (dTest (dOp gGt (dS (pV 0)) (dS (pC (.int 4)))))) sNone sSkip)
def g_check_count : GF := gOf 1 [] c_check_count
def c_value : DS := (sRet (dCallB sumD (aCons (dLc 2 (iZipD (dCp 0) (dCp 1)) (gTupD 2 (gConsD (gNm 2) (gConsD (gNm 3) gNilD))) tTrue (dS (pOp gMul (pV 2) (pV 3)))) aNil)))
def g_value : GF := gOf 2 [] c_value
def c__law_mix : DS := (sSeq (sSet 2 (dS (pOp gMod (pOp gMul (pOp gAdd (pOp gAdd (pOp gMod (pV 0) (pC (.int 2147483647))) (pOp gMul (pOp gMul (pV 1) (pV 1)) (pC (.int 7919)))) (pC (.int 104729))) (pC (.int 48271))) (pC (.int 2147483647)))))
      (sRet (dS (pOp gMod (pOp gAdd (pOp gMul (pV 2) (pV 2)) (pOp gMul (pC (.int 69621)) (pV 1))) (pC (.int 2147483629))))))
def g__law_mix : GF := gOf 3 [2] c__law_mix
def c__law_pop : DS := (sSeq (sIf (dTest (dS (pOp gEq (pV 0) (pLst [])))) (sRet (dS (pC (.int 0)))) sSkip)
      (sRet (dPopV 0)))
def g__law_pop : GF := gOf 1 [] c__law_pop
def c__law_whole : DS := (sRet (dAndV (dS (pCall isiD [(pV 0), (pC (.ty "int"))])) (dNotV (dS (pCall isiD [(pV 0), (pC (.ty "bool"))])))))
def g__law_whole : GF := gOf 1 [] c__law_whole
def c__law_due : DS := (sSeq (sSet 4 (dLst (aCons (dLst aNil) (aCons (dLst aNil) (aCons (dLst aNil) aNil)))))
      (sSeq (sForI (iR2 (aCons (dS (pC (.int 1))) (aCons (dS (pOp gShl (pC (.int 1)) (pV 0))) aNil))) (gNm 5) (sSeq (sDrop (dApp 4 [(pC (.int 0))] (pCall intD [(pOp gEq (pV 5) (pV 1))])))
      (sSeq (sDrop (dApp 4 [(pC (.int 1))] (pOp gSub (pCall intD [(pOp gEq (pV 5) (pOp gOr (pV 1) (pV 3)))]) (pCall intD [(pOp gEq (pV 5) (pV 3))]))))
      (sSeq (sSet 6 (dS (pOp gAdd (pCall intD [(pOp gEq (pV 5) (pOp gOr (pV 1) (pV 3)))]) (pCall intD [(pOp gEq (pV 5) (pOp gOr (pV 2) (pV 3)))]))))
      (sDrop (dApp 4 [(pC (.int 2))] (pOp gSub (pOp gSub (pV 6) (pCall intD [(pOp gEq (pV 5) (pOp gOr (pOp gOr (pV 1) (pV 2)) (pV 3)))])) (pCall intD [(pOp gEq (pV 5) (pV 3))]))))))))
      (sRet (dMv 4))))
def g__law_due : GF := gOf 7 [4, 5, 6] c__law_due
def c_check_group : DS := (sIf (tOrD (dTest (dOp gLt (dS (pV 1)) (dS (pC (.int 1))))) (dTest (dOp gGt (dS (pV 1)) (dCall g_all_names [.bo 0])))) sNone sSkip)
def g_check_group : GF := gOf 2 [] c_check_group
def c_row_of_terms : DS := (sSeq (sSet 2 (dRep (dLst (aCons (dS (pC (.int 0))) aNil)) (dCall g_all_names [.bo 0])))
      (sSeq (sForI (iLst (dCp 1)) (gTupD 2 (gConsD (gNm 3) (gConsD (gNm 4) gNilD))) (sIf (dTest (dOp gNe (dS (pV 3)) (dS (pC (.int 0))))) (sAugIx gAdd 2 [] (pOp gSub (pV 3) (pC (.int 1))) (pV 4)) sSkip))
      (sRet (dMv 2))))
def g_row_of_terms : GF := gOf 5 [2, 3, 4] c_row_of_terms
def c_greatest : DS := (sSeq (sDrop (dCall g_check_count [.bo 0]))
      (sRet (dCall g_all_names [.bo 0])))
def g_greatest : GF := gOf 1 [] c_greatest
def c__law_draws : DS := (sSeq (sSet 3 (dCat (dSl (dCp 0) none (some (pC (.int 63)))) (dLst (aCons (dS (pV 1)) aNil))))
      (sSeq (sSet 4 (dLc 1 (iLst (dCp 3)) (gNm 9) tTrue (dS (pOp gFdv (pV 9) (pC (.int 100000))))))
      (sSeq (sSet 5 (dLst aNil))
      (sSeq (sForI (iR1 (aCons (dS (pOp gAdd (pV 1) (pV 2))) aNil)) (gNm 6) (sSeq (sSet 7 (dS (pOp gMod (pV 6) (pCall lenD [(pV 3)]))))
      (sSeq (sSet 8 (dCall g__law_mix [.ex (dS (pOp ixD (pV 3) (pV 7))), .bo 6]))
      (sSeq (sSet 8 (dS (pOp gMod (pOp gAdd (pOp gMul (pV 8) (pV 8)) (pOp gMul (pC (.int 7)) (pV 6))) (pC (.int 2147483587)))))
      (sSeq (sIf (tAndD (dTest (dOp gGe (dS (pOp ixD (pV 3) (pV 7))) (dS (pOp gPow (pC (.int 10)) (pC (.int 18)))))) (dTest (dOp gGt (dS (pOp ixD (pV 4) (pV 7))) (dS (pC (.int 0)))))) (sSeq (sSet 8 (dS (pOp gMod (pOp ixD (pV 4) (pV 7)) (pC (.int 2147483587)))))
      (sAsg (dS (pOp gFdv (pOp ixD (pV 4) (pV 7)) (pC (.int 2147483587)))) (gSet 4 [] (pV 7)))) sSkip)
      (sDrop (dApp 5 [] (pV 8))))))))
      (sRet (dSl (dCp 5) (some (pV 1)) none))))))
def g__law_draws : GF := gOf 9 [3, 4, 5, 6, 7, 8, 8, 8] c__law_draws
def c__law_wholes : DS := (sRet (dAndV (dS (pCall isiD [(pV 0), (pC (.ty "list"))])) (dOp gEq (dSel (ownL 0) (dLcB 0 1 (tNotD (dTest (dCall g__law_whole [.bo 1]))) (dCp 1)) (dLc 1 (iLst (dCp 0)) (gNm 1) (tNotD (dTest (dCall g__law_whole [.bo 1]))) (dCp 1))) (dLst aNil))))
def g__law_wholes : GF := gOf 1 [] c__law_wholes
def c_check_known : DS := (sIf (dTest (dOp gNe (dS (pV 1)) (dS (pC (.int 0))))) (sDrop (dCall g_check_group [.bo 0, .bo 1])) sSkip)
def g_check_known : GF := gOf 2 [] c_check_known
def c_rest_row : DS := (sRet (dCall g_row_of_terms [.bo 0, .ex (dLst (aCons (dTup (aCons (dS (pOp gOr (pV 1) (pV 2))) (aCons (dS (pC (.int 1))) aNil))) (aCons (dTup (aCons (dS (pV 2)) (aCons (dS (pNeg (pC (.int 1)))) aNil))) aNil)))]))
def g_rest_row : GF := gOf 3 [] c_rest_row
def c_shared_row : DS := (sRet (dCall g_row_of_terms [.bo 0, .ex (dLst (aCons (dTup (aCons (dS (pOp gOr (pV 1) (pV 3))) (aCons (dS (pC (.int 1))) aNil))) (aCons (dTup (aCons (dS (pOp gOr (pV 2) (pV 3))) (aCons (dS (pC (.int 1))) aNil))) (aCons (dTup (aCons (dS (pOp gOr (pOp gOr (pV 1) (pV 2)) (pV 3))) (aCons (dS (pNeg (pC (.int 1)))) aNil))) (aCons (dTup (aCons (dS (pV 3)) (aCons (dS (pNeg (pC (.int 1)))) aNil))) aNil)))))]))
def g_shared_row : GF := gOf 4 [] c_shared_row
def c_unsure : DS := (sSeq (sDrop (dCall g_check_count [.bo 0]))
      (sSeq (sDrop (dCall g_check_group [.bo 0, .bo 1]))
      (sRet (dCall g_row_of_terms [.bo 0, .ex (dLst (aCons (dTup (aCons (dS (pV 1)) (aCons (dS (pC (.int 1))) aNil))) aNil))]))))
def g_unsure : GF := gOf 2 [] c_unsure
def c_check_rest : DS := (sSeq (sDrop (dCall g_check_count [.bo 0]))
      (sSeq (sDrop (dCall g_check_group [.bo 0, .bo 1]))
      (sDrop (dCall g_check_known [.bo 0, .bo 2]))))
def g_check_rest : GF := gOf 3 [] c_check_rest
def c_check_shared : DS := (sSeq (sDrop (dCall g_check_count [.bo 0]))
      (sSeq (sDrop (dCall g_check_group [.bo 0, .bo 1]))
      (sSeq (sDrop (dCall g_check_group [.bo 0, .bo 2]))
      (sDrop (dCall g_check_known [.bo 0, .bo 3])))))
def g_check_shared : GF := gOf 4 [] c_check_shared
def c_rest : DS := (sSeq (sDrop (dCall g_check_rest [.bo 0, .bo 1, .bo 2]))
      (sRet (dCall g_rest_row [.bo 0, .bo 1, .bo 2])))
def g_rest : GF := gOf 3 [] c_rest
def c_shared : DS := (sSeq (sDrop (dCall g_check_shared [.bo 0, .bo 1, .bo 2, .bo 3]))
      (sRet (dCall g_shared_row [.bo 0, .bo 1, .bo 2, .bo 3])))
def g_shared : GF := gOf 4 [] c_shared
def c_law : DS := (sSeq (sSet 1 (dCall g__law_draws [.bo 0, .ex (dS (pC (.int 1))), .ex (dS (pC (.int 120)))]))
      (sSeq (sForI (iR1 (aCons (dS (pC (.int 8))) aNil)) (gNm 2) (sSeq (sSet 3 (dOp gAdd (dS (pC (.int 1))) (dOp gMod (dCall g__law_pop [.bo 1]) (dS (pC (.int 4))))))
      (sSeq (sSet 4 (dS (pOp gSub (pOp gShl (pC (.int 1)) (pV 3)) (pC (.int 1)))))
      (sSeq (sSet 5 (dOp gAdd (dS (pC (.int 1))) (dOp gMod (dCall g__law_pop [.bo 1]) (dS (pV 4)))))
      (sSeq (sSet 6 (dIx (dLst (aCons (dOp gAdd (dS (pC (.int 1))) (dOp gMod (dCall g__law_pop [.bo 1]) (dS (pV 4)))) (aCons (dS (pV 5)) aNil))) (dCallB intD (aCons (dOp gEq (dOp gMod (dCall g__law_pop [.bo 1]) (dS (pC (.int 5)))) (dS (pC (.int 0)))) aNil))))
      (sSeq (sSet 7 (dOp gMod (dCall g__law_pop [.bo 1]) (dS (pOp gAdd (pV 4) (pC (.int 1))))))
      (sSeq (sIf (tOrD (tNotD (dTest (dCall g__law_whole [.ex (dCall g_greatest [.bo 3])]))) (dTest (dOp gNe (dCall g_greatest [.bo 3]) (dS (pV 4))))) (sRet (dS (pC (.bl false)))) sSkip)
      (sSeq (sSet 8 (dCall g__law_due [.bo 3, .bo 5, .bo 6, .bo 7]))
      (sSeq (sForI (iR1 (aCons (dS (pC (.int 2))) aNil)) (gNm 9) (sSeq (sSet 10 (dLst (aCons (dCall g_unsure [.bo 3, .bo 5]) (aCons (dCall g_rest [.bo 3, .bo 5, .bo 7]) (aCons (dCall g_shared [.bo 3, .bo 5, .bo 6, .bo 7]) aNil)))))
      (sSeq (sIf (tOrD (dTest (dOp gNe (dSel (ownL 10) (dLcB 10 14 (tNotD (dTest (dCall g__law_wholes [.bo 14]))) (dCp 14)) (dLc 1 (iLst (dCp 10)) (gNm 14) (tNotD (dTest (dCall g__law_wholes [.bo 14]))) (dCp 14))) (dLst aNil))) (dTest (dS (pOp gNe (pV 10) (pV 8))))) (sRet (dS (pC (.bl false)))) sSkip)
      (sSel (ownL 10) (sForB 10 11 (sDrop (dApp 11 [] (pC (.int 0))))) (sForI (iLst (dCp 10)) (gNm 11) (sDrop (dApp 11 [] (pC (.int 0)))))))))
      (sSeq (sSet 12 (dLc 1 (iR1 (aCons (dS (pV 4)) aNil)) (gNm 14) tTrue (dOp gSub (dOp gMul (dCall g__law_pop [.bo 1]) (dS (pOp gPow (pC (.int 10)) (pC (.int 20))))) (dS (pOp gPow (pC (.int 10)) (pC (.int 29)))))))
      (sSeq (sSet 13 (dLc 1 (iR1 (aCons (dS (pV 4)) aNil)) (gNm 14) tTrue (dOp gSub (dOp gMod (dCall g__law_pop [.bo 1]) (dS (pC (.int 9)))) (dS (pC (.int 4))))))
      (sIf (dTest (dOp gNe (dCall g_value [.bo 12, .bo 13]) (dCallB sumD (aCons (dLc 1 (iR1 (aCons (dS (pV 4)) aNil)) (gNm 14) tTrue (dS (pOp gMul (pOp ixD (pV 12) (pV 14)) (pOp ixD (pV 13) (pV 14))))) aNil)))) (sRet (dS (pC (.bl false)))) sSkip))))))))))))
      (sRet (dS (pC (.bl true))))))
def g_law : GF := gOf 14 [1, 2, 3, 4, 5, 6, 7, 8, 9, 10, 11, 11, 12, 13] c_law
/-- what the top has made -/
structure Txt (K : PySem.W.Frag) (mg : Str → Option Value) where
  a_all_names : Addr
  d_all_names : FuncData
  a_check_count : Addr
  d_check_count : FuncData
  a_value : Addr
  d_value : FuncData
  a__law_mix : Addr
  d__law_mix : FuncData
  a__law_pop : Addr
  d__law_pop : FuncData
  a__law_whole : Addr
  d__law_whole : FuncData
  a__law_due : Addr
  d__law_due : FuncData
  a_check_group : Addr
  d_check_group : FuncData
  a_row_of_terms : Addr
  d_row_of_terms : FuncData
  a_greatest : Addr
  d_greatest : FuncData
  a__law_draws : Addr
  d__law_draws : FuncData
  a__law_wholes : Addr
  d__law_wholes : FuncData
  a_check_known : Addr
  d_check_known : FuncData
  a_rest_row : Addr
  d_rest_row : FuncData
  a_shared_row : Addr
  d_shared_row : FuncData
  a_unsure : Addr
  d_unsure : FuncData
  a_check_rest : Addr
  d_check_rest : FuncData
  a_check_shared : Addr
  d_check_shared : FuncData
  a_rest : Addr
  d_rest : FuncData
  a_shared : Addr
  d_shared : FuncData
structure Tx {K : PySem.W.Frag} {mg : Str → Option Value} (t : Txt K mg) : Prop where
  F_all_names : Fun K "all_names" "all_names" s_all_names t.a_all_names t.d_all_names
  m_all_names : mg "all_names" = some (.ref t.a_all_names)
  n_all_names : Binds K t.d_all_names ["n"] []
  F_check_count : Fun K "check_count" "check_count" s_check_count t.a_check_count t.d_check_count
  m_check_count : mg "check_count" = some (.ref t.a_check_count)
  n_check_count : Binds K t.d_check_count ["n"] []
  F_value : Fun K "value" "value" s_value t.a_value t.d_value
  m_value : mg "value" = some (.ref t.a_value)
  n_value : Binds K t.d_value ["row", "table"] []
  F__law_mix : Fun K "_law_mix" "_law_mix" s__law_mix t.a__law_mix t.d__law_mix
  m__law_mix : mg "_law_mix" = some (.ref t.a__law_mix)
  n__law_mix : Binds K t.d__law_mix ["_law_cell", "_law_turn"] []
  F__law_pop : Fun K "_law_pop" "_law_pop" s__law_pop t.a__law_pop t.d__law_pop
  m__law_pop : mg "_law_pop" = some (.ref t.a__law_pop)
  n__law_pop : Binds K t.d__law_pop ["_law_draws_here"] []
  F__law_whole : Fun K "_law_whole" "_law_whole" s__law_whole t.a__law_whole t.d__law_whole
  m__law_whole : mg "_law_whole" = some (.ref t.a__law_whole)
  n__law_whole : Binds K t.d__law_whole ["_law_found"] []
  F__law_due : Fun K "_law_due" "_law_due" s__law_due t.a__law_due t.d__law_due
  m__law_due : mg "_law_due" = some (.ref t.a__law_due)
  n__law_due : Binds K t.d__law_due ["_law_n", "_law_a", "_law_b", "_law_c"] []
  F_check_group : Fun K "check_group" "check_group" s_check_group t.a_check_group t.d_check_group
  m_check_group : mg "check_group" = some (.ref t.a_check_group)
  n_check_group : Binds K t.d_check_group ["n", "group"] []
  F_row_of_terms : Fun K "row_of_terms" "row_of_terms" s_row_of_terms t.a_row_of_terms t.d_row_of_terms
  m_row_of_terms : mg "row_of_terms" = some (.ref t.a_row_of_terms)
  n_row_of_terms : Binds K t.d_row_of_terms ["n", "terms"] []
  F_greatest : Fun K "greatest" "greatest" s_greatest t.a_greatest t.d_greatest
  m_greatest : mg "greatest" = some (.ref t.a_greatest)
  n_greatest : Binds K t.d_greatest ["n"] []
  F__law_draws : Fun K "_law_draws" "_law_draws" s__law_draws t.a__law_draws t.d__law_draws
  m__law_draws : mg "_law_draws" = some (.ref t.a__law_draws)
  n__law_draws : Binds K t.d__law_draws ["_law_script", "_law_turn", "_law_many"] []
  F__law_wholes : Fun K "_law_wholes" "_law_wholes" s__law_wholes t.a__law_wholes t.d__law_wholes
  m__law_wholes : mg "_law_wholes" = some (.ref t.a__law_wholes)
  n__law_wholes : Binds K t.d__law_wholes ["_law_found"] []
  F_check_known : Fun K "check_known" "check_known" s_check_known t.a_check_known t.d_check_known
  m_check_known : mg "check_known" = some (.ref t.a_check_known)
  n_check_known : Binds K t.d_check_known ["n", "group"] []
  F_rest_row : Fun K "rest_row" "rest_row" s_rest_row t.a_rest_row t.d_rest_row
  m_rest_row : mg "rest_row" = some (.ref t.a_rest_row)
  n_rest_row : Binds K t.d_rest_row ["n", "a", "b"] []
  F_shared_row : Fun K "shared_row" "shared_row" s_shared_row t.a_shared_row t.d_shared_row
  m_shared_row : mg "shared_row" = some (.ref t.a_shared_row)
  n_shared_row : Binds K t.d_shared_row ["n", "a", "b", "c"] []
  F_unsure : Fun K "unsure" "unsure" s_unsure t.a_unsure t.d_unsure
  m_unsure : mg "unsure" = some (.ref t.a_unsure)
  n_unsure : Binds K t.d_unsure ["n", "a"] []
  F_check_rest : Fun K "check_rest" "check_rest" s_check_rest t.a_check_rest t.d_check_rest
  m_check_rest : mg "check_rest" = some (.ref t.a_check_rest)
  n_check_rest : Binds K t.d_check_rest ["n", "a", "b"] []
  F_check_shared : Fun K "check_shared" "check_shared" s_check_shared t.a_check_shared t.d_check_shared
  m_check_shared : mg "check_shared" = some (.ref t.a_check_shared)
  n_check_shared : Binds K t.d_check_shared ["n", "a", "b", "c"] []
  F_rest : Fun K "rest" "rest" s_rest t.a_rest t.d_rest
  m_rest : mg "rest" = some (.ref t.a_rest)
  n_rest : Binds K t.d_rest ["n", "a", "b"] []
  F_shared : Fun K "shared" "shared" s_shared t.a_shared t.d_shared
  m_shared : mg "shared" = some (.ref t.a_shared)
  n_shared : Binds K t.d_shared ["n", "a", "b", "c"] []
  b_bool : mg "bool" = none
  b_int : mg "int" = none
  b_isinstance : mg "isinstance" = none
  b_len : mg "len" = none
  b_list : mg "list" = none
  b_range : mg "range" = none
  b_sum : mg "sum" = none
  b_zip : mg "zip" = none
  c_MOST_NAMES : ∃ t, mg "MOST_NAMES" = some (.int 4 t)
section
variable {P : Program} {w : World} {K : PySem.W.Frag} {mg : Str → Option Value} {base : Heap} {t : Txt K mg}
theorem ok_all_names (T : Tx t) : FnOk P w K mg base CX0 1 t.a_all_names t.d_all_names ["n"] (spD K 1 g_all_names) := by
  refine fn_D (N := ["n"]) (W := []) T.F_all_names sc_all_names (by decide) fun cdv A outer s H E hr => ?_
  have hu := hr.units
  exact (qss_one (qs_ret (qe_s (qb_op o_sub (qb_op o_shl qb_int (qb_v 0)) qb_int))))
theorem ok_check_count (T : Tx t) : FnOk P w K mg base CX0 1 t.a_check_count t.d_check_count ["n"] (spD K 1 g_check_count) := by
  refine fn_D (N := ["n"]) (W := []) T.F_check_count sc_check_count (by decide) fun cdv A outer s H E hr => ?_
  have hu := hr.units
  exact (qss_one (qs_if (qw_t (qw_or (qt_cmp o_lt (qe_s (qb_v 0)) (qe_s qb_int) (nomark _)) (qw_or1 (qt_cmp o_gt (qe_s (qb_v 0)) (qe_s (qb_glob (by rfl) T.c_MOST_NAMES)) (nomark _))))) qss_never qss_nil))
theorem ok_value (T : Tx t) : FnOk P w K mg base CX0 1 t.a_value t.d_value ["row", "table"] (spD K 2 g_value) := by
  refine fn_D (N := ["row", "table"]) (W := []) T.F_value sc_value (by decide) fun cdv A outer s H E hr => ?_
  have hu := hr.units
  exact (qss_one (qs_ret (qe_fn (id := "sum") (c_sum (by rfl)) (by rfl) T.b_sum (by decide +kernel) (qa_cons (lc_e ["row", "table", "number", "unsureness"] (qi_zip (by rfl) T.b_zip (qe_cp 0) (qe_cp 1)) (fun _ _ _ _ _ => by exact (qg_tup (by rfl) (qgs_cons (qg_name 2 (show List.Nodup (["row", "table", "number", "unsureness"] : List Str) by decide +kernel)) (qgs_cons (qg_name 3 (show List.Nodup (["row", "table", "number", "unsureness"] : List Str) by decide +kernel)) qgs_nil)))) (fun _ _ _ _ _ => by exact qif_nil) (fun _ _ _ _ _ => by exact (qe_s (qb_op o_mul (qb_v 2) (qb_v 3))))) qa_nil))))
theorem ok__law_mix (T : Tx t) : FnOk P w K mg base CX0 1 t.a__law_mix t.d__law_mix ["_law_cell", "_law_turn"] (spD K 2 g__law_mix) := by
  refine fn_D (N := ["_law_cell", "_law_turn", "_law_number"]) (W := [2]) T.F__law_mix sc__law_mix (by decide) fun cdv A outer s H E hr => ?_
  have hu := hr.units
  exact (qss_cons (qs_set 2 sc__law_mix.nd (qe_s (qb_op o_mod (qb_op o_mul (qb_op o_add (qb_op o_add (qb_op o_mod (qb_v 0) qb_int) (qb_op o_mul (qb_op o_mul (qb_v 1) (qb_v 1)) qb_int)) qb_int) qb_int) qb_int)))
      (qss_one (qs_ret (qe_s (qb_op o_mod (qb_op o_add (qb_op o_mul (qb_v 2) (qb_v 2)) (qb_op o_mul qb_int (qb_v 1))) qb_int)))))
theorem ok__law_pop (T : Tx t) : FnOk P w K mg base CX0 1 t.a__law_pop t.d__law_pop ["_law_draws_here"] (spD K 1 g__law_pop) := by
  refine fn_D (N := ["_law_draws_here"]) (W := []) T.F__law_pop sc__law_pop (by decide) fun cdv A outer s H E hr => ?_
  have hu := hr.units
  exact (qss_cons (qs_if (qt_cmpB (o_eq hu) (qb_v 0) (qb_lst qba_nil) (nomark _)) (qss_one (qs_ret (qe_s qb_int))) qss_nil)
      (qss_one (qs_ret (qe_popV 0))))
theorem ok__law_whole (T : Tx t) : FnOk P w K mg base CX0 1 t.a__law_whole t.d__law_whole ["_law_found"] (spD K 1 g__law_whole) := by
  refine fn_D (N := ["_law_found"]) (W := []) T.F__law_whole sc__law_whole (by decide) fun cdv A outer s H E hr => ?_
  have hu := hr.units
  exact (qss_one (qs_ret (qe_and (qe_s (qb_fn (id := "isinstance") c_isi (by rfl) T.b_isinstance (by decide +kernel) (qba_cons (qb_v 0) (qba_cons (qb_tyname (T := "int") (by rfl) T.b_int (by decide +kernel)) qba_nil)))) (qe_one (qe_not (qe_s (qb_fn (id := "isinstance") c_isi (by rfl) T.b_isinstance (by decide +kernel) (qba_cons (qb_v 0) (qba_cons (qb_tyname (T := "bool") (by rfl) T.b_bool (by decide +kernel)) qba_nil)))))))))
theorem ok__law_due (T : Tx t) : FnOk P w K mg base CX0 1 t.a__law_due t.d__law_due ["_law_n", "_law_a", "_law_b", "_law_c"] (spD K 4 g__law_due) := by
  refine fn_D (N := ["_law_n", "_law_a", "_law_b", "_law_c", "_law_rows", "_law_group", "_law_more"]) (W := [4, 5, 6]) T.F__law_due sc__law_due (by decide) fun cdv A outer s H E hr => ?_
  have hu := hr.units
  exact (qss_cons (qs_set 4 sc__law_due.nd (qe_lst (qa_cons (qe_lst qa_nil) (qa_cons (qe_lst qa_nil) (qa_cons (qe_lst qa_nil) qa_nil)))))
      (qss_cons (qs_forI (by rfl) (qi_r2 (by rfl) T.b_range (qa_cons (qe_s qb_int) (qa_cons (qe_s (qb_op o_shl qb_int (qb_v 0))) qa_nil))) (qg_name 5 sc__law_due.nd) (qss_cons (qs_expr (qe_appP (qp_ix (qp_v 4) qb_int) (qb_ty (T := "int") c_int (by rfl) T.b_int (by decide +kernel) (qba_cons (qb_cmp (o_eq hu) (qb_v 5) (qb_v 1) (nomark _)) qba_nil))))
      (qss_cons (qs_expr (qe_appP (qp_ix (qp_v 4) qb_int) (qb_op o_sub (qb_ty (T := "int") c_int (by rfl) T.b_int (by decide +kernel) (qba_cons (qb_cmp (o_eq hu) (qb_v 5) (qb_op o_or (qb_v 1) (qb_v 3)) (nomark _)) qba_nil)) (qb_ty (T := "int") c_int (by rfl) T.b_int (by decide +kernel) (qba_cons (qb_cmp (o_eq hu) (qb_v 5) (qb_v 3) (nomark _)) qba_nil)))))
      (qss_cons (qs_set 6 sc__law_due.nd (qe_s (qb_op o_add (qb_ty (T := "int") c_int (by rfl) T.b_int (by decide +kernel) (qba_cons (qb_cmp (o_eq hu) (qb_v 5) (qb_op o_or (qb_v 1) (qb_v 3)) (nomark _)) qba_nil)) (qb_ty (T := "int") c_int (by rfl) T.b_int (by decide +kernel) (qba_cons (qb_cmp (o_eq hu) (qb_v 5) (qb_op o_or (qb_v 2) (qb_v 3)) (nomark _)) qba_nil)))))
      (qss_one (qs_expr (qe_appP (qp_ix (qp_v 4) qb_int) (qb_op o_sub (qb_op o_sub (qb_v 6) (qb_ty (T := "int") c_int (by rfl) T.b_int (by decide +kernel) (qba_cons (qb_cmp (o_eq hu) (qb_v 5) (qb_op o_or (qb_op o_or (qb_v 1) (qb_v 2)) (qb_v 3)) (nomark _)) qba_nil))) (qb_ty (T := "int") c_int (by rfl) T.b_int (by decide +kernel) (qba_cons (qb_cmp (o_eq hu) (qb_v 5) (qb_v 3) (nomark _)) qba_nil))))))))) PassesOwn.never)
      (qss_one (qs_ret (qe_mv 4)))))
theorem ok_check_group (T : Tx t) : FnOk P w K mg base CX0 2 t.a_check_group t.d_check_group ["n", "group"] (spD K 2 g_check_group) := by
  have G_all_names := ok_all_names (P := P) (w := w) (base := base) T
  refine fn_D (N := ["n", "group"]) (W := []) T.F_check_group sc_check_group (by decide) fun cdv A outer s H E hr => ?_
  have hu := hr.units
  exact (qss_one (qs_if (qw_t (qw_or (qt_cmp o_lt (qe_s (qb_v 1)) (qe_s qb_int) (nomark _)) (qw_or1 (qt_cmp o_gt (qe_s (qb_v 1)) (qe_call G_all_names (hr.mono (by decide)) (by rfl) T.m_all_names T.F_all_names.kp T.n_all_names (qm_bo 0 qm_nil)) (nomark _))))) qss_never qss_nil))
theorem ok_row_of_terms (T : Tx t) : FnOk P w K mg base CX0 2 t.a_row_of_terms t.d_row_of_terms ["n", "terms"] (spD K 2 g_row_of_terms) := by
  have G_all_names := ok_all_names (P := P) (w := w) (base := base) T
  refine fn_D (N := ["n", "terms", "row", "group", "number"]) (W := [2, 3, 4]) T.F_row_of_terms sc_row_of_terms (by decide) fun cdv A outer s H E hr => ?_
  have hu := hr.units
  exact (qss_cons (qs_set 2 sc_row_of_terms.nd (qe_rep (qe_lst (qa_cons (qe_s qb_int) qa_nil)) (qe_call G_all_names (hr.mono (by decide)) (by rfl) T.m_all_names T.F_all_names.kp T.n_all_names (qm_bo 0 qm_nil))))
      (qss_cons (qs_forI (by rfl) (qi_lst (qe_cp 1)) (qg_tup (by rfl) (qgs_cons (qg_name 3 sc_row_of_terms.nd) (qgs_cons (qg_name 4 sc_row_of_terms.nd) qgs_nil))) (qss_one (qs_if (qt_cmp (o_ne hu) (qe_s (qb_v 3)) (qe_s qb_int) (nomark _)) (qss_one (qs_augS oi_add (qp_v 2) (qb_op o_sub (qb_v 3) qb_int) (qb_v 4))) qss_nil)) PassesOwn.never)
      (qss_one (qs_ret (qe_mv 2)))))
theorem ok_greatest (T : Tx t) : FnOk P w K mg base CX0 2 t.a_greatest t.d_greatest ["n"] (spD K 1 g_greatest) := by
  have G_all_names := ok_all_names (P := P) (w := w) (base := base) T
  have G_check_count := ok_check_count (P := P) (w := w) (base := base) T
  refine fn_D (N := ["n"]) (W := []) T.F_greatest sc_greatest (by decide) fun cdv A outer s H E hr => ?_
  have hu := hr.units
  exact (qss_cons (qs_expr (qe_call G_check_count (hr.mono (by decide)) (by rfl) T.m_check_count T.F_check_count.kp T.n_check_count (qm_bo 0 qm_nil)))
      (qss_one (qs_ret (qe_call G_all_names (hr.mono (by decide)) (by rfl) T.m_all_names T.F_all_names.kp T.n_all_names (qm_bo 0 qm_nil)))))
theorem ok__law_draws (T : Tx t) : FnOk P w K mg base CX0 2 t.a__law_draws t.d__law_draws ["_law_script", "_law_turn", "_law_many"] (spD K 3 g__law_draws) := by
  have G__law_mix := ok__law_mix (P := P) (w := w) (base := base) T
  refine fn_D (N := ["_law_script", "_law_turn", "_law_many", "_law_cells", "_law_lefts", "_law_found", "_law_k", "_law_at", "_law_number"]) (W := [3, 4, 5, 6, 7, 8, 8, 8]) T.F__law_draws sc__law_draws (by decide) fun cdv A outer s H E hr => ?_
  have hu := hr.units
  exact (qss_cons (qs_set 3 sc__law_draws.nd (qe_cat (qe_slice (qe_cp 0) qo_none (qo_some qb_int)) (qe_lst (qa_cons (qe_s (qb_v 1)) qa_nil))))
      (qss_cons (lc_s 4 ["_law_script", "_law_turn", "_law_many", "_law_cells", "_law_lefts", "_law_found", "_law_k", "_law_at", "_law_number", "_law_cell"] sc__law_draws.nd (qi_lst (qe_cp 3)) (fun _ _ _ _ _ => by exact (qg_name 9 (show List.Nodup (["_law_script", "_law_turn", "_law_many", "_law_cells", "_law_lefts", "_law_found", "_law_k", "_law_at", "_law_number", "_law_cell"] : List Str) by decide +kernel))) (fun _ _ _ _ _ => by exact qif_nil) (fun _ _ _ _ _ => by exact (qe_s (qb_op o_fdv (qb_v 9) qb_int))))
      (qss_cons (qs_set 5 sc__law_draws.nd (qe_lst qa_nil))
      (qss_cons (qs_forI (by rfl) (qi_r1 (by rfl) T.b_range (qa_cons (qe_s (qb_op o_add (qb_v 1) (qb_v 2))) qa_nil)) (qg_name 6 sc__law_draws.nd) (qss_cons (qs_set 7 sc__law_draws.nd (qe_s (qb_op o_mod (qb_v 6) (qb_fn (id := "len") c_len (by rfl) T.b_len (by decide +kernel) (qba_cons (qb_v 3) qba_nil)))))
      (qss_cons (qs_set 8 sc__law_draws.nd (qe_call G__law_mix (hr.mono (by decide)) (by rfl) T.m__law_mix T.F__law_mix.kp T.n__law_mix (qm_ex (qe_s (qb_ix (qb_v 3) (qb_v 7))) (qm_bo 6 qm_nil))))
      (qss_cons (qs_set 8 sc__law_draws.nd (qe_s (qb_op o_mod (qb_op o_add (qb_op o_mul (qb_v 8) (qb_v 8)) (qb_op o_mul qb_int (qb_v 6))) qb_int)))
      (qss_cons (qs_if (qw_t (qw_and (qt_cmp o_ge (qe_s (qb_ix (qb_v 3) (qb_v 7))) (qe_s (qb_op o_pow qb_int qb_int)) (nomark _)) (qw_and1 (qt_cmp o_gt (qe_s (qb_ix (qb_v 4) (qb_v 7))) (qe_s qb_int) (nomark _))))) (qss_cons (qs_set 8 sc__law_draws.nd (qe_s (qb_op o_mod (qb_ix (qb_v 4) (qb_v 7)) qb_int)))
      (qss_one (qs_asg (qe_s (qb_op o_fdv (qb_ix (qb_v 4) (qb_v 7)) qb_int)) (qg_set (qp_v 4) (qb_v 7))))) qss_nil)
      (qss_one (qs_expr (qe_appP (qp_v 5) (qb_v 8)))))))) PassesOwn.never)
      (qss_one (qs_ret (qe_slice (qe_cp 5) (qo_some (qb_v 1)) qo_none)))))))
theorem ok__law_wholes (T : Tx t) : FnOk P w K mg base CX0 2 t.a__law_wholes t.d__law_wholes ["_law_found"] (spD K 1 g__law_wholes) := by
  have G__law_whole := ok__law_whole (P := P) (w := w) (base := base) T
  refine fn_D (N := ["_law_found"]) (W := []) T.F__law_wholes sc__law_wholes (by decide) fun cdv A outer s H E hr => ?_
  have hu := hr.units
  exact (qss_one (qs_ret (qe_and (qe_s (qb_fn (id := "isinstance") c_isi (by rfl) T.b_isinstance (by decide +kernel) (qba_cons (qb_v 0) (qba_cons (qb_tyname (T := "list") (by rfl) T.b_list (by decide +kernel)) qba_nil)))) (qe_one (qe_cmp (o_eq hu) (qe_sel (ownL 0) (lcB_e 0 1 ["_law_found", "_law_one"] (show List.Nodup (["_law_found", "_law_one"] : List Str) by decide +kernel) (fun _ _ _ _ _ => by exact (qif_one (qt_not (qt_e (qe_call G__law_whole (hr.mono (by decide)) (by rfl) T.m__law_whole T.F__law_whole.kp T.n__law_whole (qm_bo 1 qm_nil)))))) (fun _ _ _ _ _ => by exact (qe_cp 1))) (lc_e ["_law_found", "_law_one"] (qi_lst (qe_cp 0)) (fun _ _ _ _ _ => by exact (qg_name 1 (show List.Nodup (["_law_found", "_law_one"] : List Str) by decide +kernel))) (fun _ _ _ _ _ => by exact (qif_one (qt_not (qt_e (qe_call G__law_whole (hr.mono (by decide)) (by rfl) T.m__law_whole T.F__law_whole.kp T.n__law_whole (qm_bo 1 qm_nil)))))) (fun _ _ _ _ _ => by exact (qe_cp 1)))) (qe_lst qa_nil) (nomark _))))))
theorem ok_check_known (T : Tx t) : FnOk P w K mg base CX0 3 t.a_check_known t.d_check_known ["n", "group"] (spD K 2 g_check_known) := by
  have G_check_group := ok_check_group (P := P) (w := w) (base := base) T
  refine fn_D (N := ["n", "group"]) (W := []) T.F_check_known sc_check_known (by decide) fun cdv A outer s H E hr => ?_
  have hu := hr.units
  exact (qss_one (qs_if (qt_cmp (o_ne hu) (qe_s (qb_v 1)) (qe_s qb_int) (nomark _)) (qss_one (qs_expr (qe_call G_check_group (hr.mono (by decide)) (by rfl) T.m_check_group T.F_check_group.kp T.n_check_group (qm_bo 0 (qm_bo 1 qm_nil))))) qss_nil))
theorem ok_rest_row (T : Tx t) : FnOk P w K mg base CX0 3 t.a_rest_row t.d_rest_row ["n", "a", "b"] (spD K 3 g_rest_row) := by
  have G_row_of_terms := ok_row_of_terms (P := P) (w := w) (base := base) T
  refine fn_D (N := ["n", "a", "b"]) (W := []) T.F_rest_row sc_rest_row (by decide) fun cdv A outer s H E hr => ?_
  have hu := hr.units
  exact (qss_one (qs_ret (qe_call G_row_of_terms (hr.mono (by decide)) (by rfl) T.m_row_of_terms T.F_row_of_terms.kp T.n_row_of_terms (qm_bo 0 (qm_ex (qe_lst (qa_cons (qe_tup (qa_cons (qe_s (qb_op o_or (qb_v 1) (qb_v 2))) (qa_cons (qe_s qb_int) qa_nil))) (qa_cons (qe_tup (qa_cons (qe_s (qb_v 2)) (qa_cons (qe_s (qb_neg qb_int)) qa_nil))) qa_nil))) qm_nil)))))
theorem ok_shared_row (T : Tx t) : FnOk P w K mg base CX0 3 t.a_shared_row t.d_shared_row ["n", "a", "b", "c"] (spD K 4 g_shared_row) := by
  have G_row_of_terms := ok_row_of_terms (P := P) (w := w) (base := base) T
  refine fn_D (N := ["n", "a", "b", "c"]) (W := []) T.F_shared_row sc_shared_row (by decide) fun cdv A outer s H E hr => ?_
  have hu := hr.units
  exact (qss_one (qs_ret (qe_call G_row_of_terms (hr.mono (by decide)) (by rfl) T.m_row_of_terms T.F_row_of_terms.kp T.n_row_of_terms (qm_bo 0 (qm_ex (qe_lst (qa_cons (qe_tup (qa_cons (qe_s (qb_op o_or (qb_v 1) (qb_v 3))) (qa_cons (qe_s qb_int) qa_nil))) (qa_cons (qe_tup (qa_cons (qe_s (qb_op o_or (qb_v 2) (qb_v 3))) (qa_cons (qe_s qb_int) qa_nil))) (qa_cons (qe_tup (qa_cons (qe_s (qb_op o_or (qb_op o_or (qb_v 1) (qb_v 2)) (qb_v 3))) (qa_cons (qe_s (qb_neg qb_int)) qa_nil))) (qa_cons (qe_tup (qa_cons (qe_s (qb_v 3)) (qa_cons (qe_s (qb_neg qb_int)) qa_nil))) qa_nil))))) qm_nil)))))
theorem ok_unsure (T : Tx t) : FnOk P w K mg base CX0 3 t.a_unsure t.d_unsure ["n", "a"] (spD K 2 g_unsure) := by
  have G_check_count := ok_check_count (P := P) (w := w) (base := base) T
  have G_check_group := ok_check_group (P := P) (w := w) (base := base) T
  have G_row_of_terms := ok_row_of_terms (P := P) (w := w) (base := base) T
  refine fn_D (N := ["n", "a"]) (W := []) T.F_unsure sc_unsure (by decide) fun cdv A outer s H E hr => ?_
  have hu := hr.units
  exact (qss_cons (qs_expr (qe_call G_check_count (hr.mono (by decide)) (by rfl) T.m_check_count T.F_check_count.kp T.n_check_count (qm_bo 0 qm_nil)))
      (qss_cons (qs_expr (qe_call G_check_group (hr.mono (by decide)) (by rfl) T.m_check_group T.F_check_group.kp T.n_check_group (qm_bo 0 (qm_bo 1 qm_nil))))
      (qss_one (qs_ret (qe_call G_row_of_terms (hr.mono (by decide)) (by rfl) T.m_row_of_terms T.F_row_of_terms.kp T.n_row_of_terms (qm_bo 0 (qm_ex (qe_lst (qa_cons (qe_tup (qa_cons (qe_s (qb_v 1)) (qa_cons (qe_s qb_int) qa_nil))) qa_nil)) qm_nil)))))))
theorem ok_check_rest (T : Tx t) : FnOk P w K mg base CX0 4 t.a_check_rest t.d_check_rest ["n", "a", "b"] (spD K 3 g_check_rest) := by
  have G_check_count := ok_check_count (P := P) (w := w) (base := base) T
  have G_check_group := ok_check_group (P := P) (w := w) (base := base) T
  have G_check_known := ok_check_known (P := P) (w := w) (base := base) T
  refine fn_D (N := ["n", "a", "b"]) (W := []) T.F_check_rest sc_check_rest (by decide) fun cdv A outer s H E hr => ?_
  have hu := hr.units
  exact (qss_cons (qs_expr (qe_call G_check_count (hr.mono (by decide)) (by rfl) T.m_check_count T.F_check_count.kp T.n_check_count (qm_bo 0 qm_nil)))
      (qss_cons (qs_expr (qe_call G_check_group (hr.mono (by decide)) (by rfl) T.m_check_group T.F_check_group.kp T.n_check_group (qm_bo 0 (qm_bo 1 qm_nil))))
      (qss_one (qs_expr (qe_call G_check_known (hr.mono (by decide)) (by rfl) T.m_check_known T.F_check_known.kp T.n_check_known (qm_bo 0 (qm_bo 2 qm_nil)))))))
theorem ok_check_shared (T : Tx t) : FnOk P w K mg base CX0 4 t.a_check_shared t.d_check_shared ["n", "a", "b", "c"] (spD K 4 g_check_shared) := by
  have G_check_count := ok_check_count (P := P) (w := w) (base := base) T
  have G_check_group := ok_check_group (P := P) (w := w) (base := base) T
  have G_check_known := ok_check_known (P := P) (w := w) (base := base) T
  refine fn_D (N := ["n", "a", "b", "c"]) (W := []) T.F_check_shared sc_check_shared (by decide) fun cdv A outer s H E hr => ?_
  have hu := hr.units
  exact (qss_cons (qs_expr (qe_call G_check_count (hr.mono (by decide)) (by rfl) T.m_check_count T.F_check_count.kp T.n_check_count (qm_bo 0 qm_nil)))
      (qss_cons (qs_expr (qe_call G_check_group (hr.mono (by decide)) (by rfl) T.m_check_group T.F_check_group.kp T.n_check_group (qm_bo 0 (qm_bo 1 qm_nil))))
      (qss_cons (qs_expr (qe_call G_check_group (hr.mono (by decide)) (by rfl) T.m_check_group T.F_check_group.kp T.n_check_group (qm_bo 0 (qm_bo 2 qm_nil))))
      (qss_one (qs_expr (qe_call G_check_known (hr.mono (by decide)) (by rfl) T.m_check_known T.F_check_known.kp T.n_check_known (qm_bo 0 (qm_bo 3 qm_nil))))))))
theorem ok_rest (T : Tx t) : FnOk P w K mg base CX0 5 t.a_rest t.d_rest ["n", "a", "b"] (spD K 3 g_rest) := by
  have G_check_rest := ok_check_rest (P := P) (w := w) (base := base) T
  have G_rest_row := ok_rest_row (P := P) (w := w) (base := base) T
  refine fn_D (N := ["n", "a", "b"]) (W := []) T.F_rest sc_rest (by decide) fun cdv A outer s H E hr => ?_
  have hu := hr.units
  exact (qss_cons (qs_expr (qe_call G_check_rest (hr.mono (by decide)) (by rfl) T.m_check_rest T.F_check_rest.kp T.n_check_rest (qm_bo 0 (qm_bo 1 (qm_bo 2 qm_nil)))))
      (qss_one (qs_ret (qe_call G_rest_row (hr.mono (by decide)) (by rfl) T.m_rest_row T.F_rest_row.kp T.n_rest_row (qm_bo 0 (qm_bo 1 (qm_bo 2 qm_nil)))))))
theorem ok_shared (T : Tx t) : FnOk P w K mg base CX0 5 t.a_shared t.d_shared ["n", "a", "b", "c"] (spD K 4 g_shared) := by
  have G_check_shared := ok_check_shared (P := P) (w := w) (base := base) T
  have G_shared_row := ok_shared_row (P := P) (w := w) (base := base) T
  refine fn_D (N := ["n", "a", "b", "c"]) (W := []) T.F_shared sc_shared (by decide) fun cdv A outer s H E hr => ?_
  have hu := hr.units
  exact (qss_cons (qs_expr (qe_call G_check_shared (hr.mono (by decide)) (by rfl) T.m_check_shared T.F_check_shared.kp T.n_check_shared (qm_bo 0 (qm_bo 1 (qm_bo 2 (qm_bo 3 qm_nil))))))
      (qss_one (qs_ret (qe_call G_shared_row (hr.mono (by decide)) (by rfl) T.m_shared_row T.F_shared_row.kp T.n_shared_row (qm_bo 0 (qm_bo 1 (qm_bo 2 (qm_bo 3 qm_nil))))))))
theorem ok_law (T : Tx t) {f : Addr} {fd : FuncData} (F : Fun K "law" "law" s_law f fd) : FnOk P w K mg base CX0 6 f fd ["_law_script"] (spD K 1 g_law) := by
  have G__law_draws := ok__law_draws (P := P) (w := w) (base := base) T
  have G__law_due := ok__law_due (P := P) (w := w) (base := base) T
  have G__law_pop := ok__law_pop (P := P) (w := w) (base := base) T
  have G__law_whole := ok__law_whole (P := P) (w := w) (base := base) T
  have G__law_wholes := ok__law_wholes (P := P) (w := w) (base := base) T
  have G_greatest := ok_greatest (P := P) (w := w) (base := base) T
  have G_rest := ok_rest (P := P) (w := w) (base := base) T
  have G_shared := ok_shared (P := P) (w := w) (base := base) T
  have G_unsure := ok_unsure (P := P) (w := w) (base := base) T
  have G_value := ok_value (P := P) (w := w) (base := base) T
  refine fn_D (N := ["_law_script", "_law_draws_here", "_law_turn", "_law_n", "_law_whole_here", "_law_a", "_law_b", "_law_c", "_law_due_here", "_law_again", "_law_found", "_law_row", "_law_one", "_law_other"]) (W := [1, 2, 3, 4, 5, 6, 7, 8, 9, 10, 11, 11, 12, 13]) F sc_law (by decide) fun cdv A outer s H E hr => ?_
  have hu := hr.units
  exact (qss_cons (qs_set 1 sc_law.nd (qe_call G__law_draws (hr.mono (by decide)) (by rfl) T.m__law_draws T.F__law_draws.kp T.n__law_draws (qm_bo 0 (qm_ex (qe_s qb_int) (qm_ex (qe_s qb_int) qm_nil)))))
      (qss_cons (qs_forI (by rfl) (qi_r1 (by rfl) T.b_range (qa_cons (qe_s qb_int) qa_nil)) (qg_name 2 sc_law.nd) (qss_cons (qs_set 3 sc_law.nd (qe_op o_add (qe_s qb_int) (qe_op o_mod (qe_call G__law_pop (hr.mono (by decide)) (by rfl) T.m__law_pop T.F__law_pop.kp T.n__law_pop (qm_bo 1 qm_nil)) (qe_s qb_int))))
      (qss_cons (qs_set 4 sc_law.nd (qe_s (qb_op o_sub (qb_op o_shl qb_int (qb_v 3)) qb_int)))
      (qss_cons (qs_set 5 sc_law.nd (qe_op o_add (qe_s qb_int) (qe_op o_mod (qe_call G__law_pop (hr.mono (by decide)) (by rfl) T.m__law_pop T.F__law_pop.kp T.n__law_pop (qm_bo 1 qm_nil)) (qe_s (qb_v 4)))))
      (qss_cons (qs_set 6 sc_law.nd (qe_ix (qe_lst (qa_cons (qe_op o_add (qe_s qb_int) (qe_op o_mod (qe_call G__law_pop (hr.mono (by decide)) (by rfl) T.m__law_pop T.F__law_pop.kp T.n__law_pop (qm_bo 1 qm_nil)) (qe_s (qb_v 4)))) (qa_cons (qe_s (qb_v 5)) qa_nil))) (qe_ty (T := "int") c_int (by rfl) T.b_int (by decide +kernel) (qa_cons (qe_cmp (o_eq hu) (qe_op o_mod (qe_call G__law_pop (hr.mono (by decide)) (by rfl) T.m__law_pop T.F__law_pop.kp T.n__law_pop (qm_bo 1 qm_nil)) (qe_s qb_int)) (qe_s qb_int) (nomark _)) qa_nil))))
      (qss_cons (qs_set 7 sc_law.nd (qe_op o_mod (qe_call G__law_pop (hr.mono (by decide)) (by rfl) T.m__law_pop T.F__law_pop.kp T.n__law_pop (qm_bo 1 qm_nil)) (qe_s (qb_op o_add (qb_v 4) qb_int))))
      (qss_cons (qs_if (qw_t (qw_or (qt_not (qt_e (qe_call G__law_whole (hr.mono (by decide)) (by rfl) T.m__law_whole T.F__law_whole.kp T.n__law_whole (qm_ex (qe_call G_greatest (hr.mono (by decide)) (by rfl) T.m_greatest T.F_greatest.kp T.n_greatest (qm_bo 3 qm_nil)) qm_nil)))) (qw_or1 (qt_cmp (o_ne hu) (qe_call G_greatest (hr.mono (by decide)) (by rfl) T.m_greatest T.F_greatest.kp T.n_greatest (qm_bo 3 qm_nil)) (qe_s (qb_v 4)) (nomark _))))) (qss_one (qs_ret (qe_s qb_bl))) qss_nil)
      (qss_cons (qs_set 8 sc_law.nd (qe_call G__law_due (hr.mono (by decide)) (by rfl) T.m__law_due T.F__law_due.kp T.n__law_due (qm_bo 3 (qm_bo 5 (qm_bo 6 (qm_bo 7 qm_nil))))))
      (qss_cons (qs_forI (by rfl) (qi_r1 (by rfl) T.b_range (qa_cons (qe_s qb_int) qa_nil)) (qg_name 9 sc_law.nd) (qss_cons (qs_set 10 sc_law.nd (qe_lst (qa_cons (qe_call G_unsure (hr.mono (by decide)) (by rfl) T.m_unsure T.F_unsure.kp T.n_unsure (qm_bo 3 (qm_bo 5 qm_nil))) (qa_cons (qe_call G_rest (hr.mono (by decide)) (by rfl) T.m_rest T.F_rest.kp T.n_rest (qm_bo 3 (qm_bo 5 (qm_bo 7 qm_nil)))) (qa_cons (qe_call G_shared (hr.mono (by decide)) (by rfl) T.m_shared T.F_shared.kp T.n_shared (qm_bo 3 (qm_bo 5 (qm_bo 6 (qm_bo 7 qm_nil))))) qa_nil)))))
      (qss_cons (qs_if (qw_t (qw_or (qt_cmp (o_ne hu) (qe_sel (ownL 10) (lcB_e 10 14 ["_law_script", "_law_draws_here", "_law_turn", "_law_n", "_law_whole_here", "_law_a", "_law_b", "_law_c", "_law_due_here", "_law_again", "_law_found", "%1", "_law_one", "_law_other", "_law_row"] (show List.Nodup (["_law_script", "_law_draws_here", "_law_turn", "_law_n", "_law_whole_here", "_law_a", "_law_b", "_law_c", "_law_due_here", "_law_again", "_law_found", "%1", "_law_one", "_law_other", "_law_row"] : List Str) by decide +kernel) (fun _ _ _ _ _ => by exact (qif_one (qt_not (qt_e (qe_call G__law_wholes (hr.mono (by decide)) (by rfl) T.m__law_wholes T.F__law_wholes.kp T.n__law_wholes (qm_bo 14 qm_nil)))))) (fun _ _ _ _ _ => by exact (qe_cp 14))) (lc_e ["_law_script", "_law_draws_here", "_law_turn", "_law_n", "_law_whole_here", "_law_a", "_law_b", "_law_c", "_law_due_here", "_law_again", "_law_found", "%1", "_law_one", "_law_other", "_law_row"] (qi_lst (qe_cp 10)) (fun _ _ _ _ _ => by exact (qg_name 14 (show List.Nodup (["_law_script", "_law_draws_here", "_law_turn", "_law_n", "_law_whole_here", "_law_a", "_law_b", "_law_c", "_law_due_here", "_law_again", "_law_found", "%1", "_law_one", "_law_other", "_law_row"] : List Str) by decide +kernel))) (fun _ _ _ _ _ => by exact (qif_one (qt_not (qt_e (qe_call G__law_wholes (hr.mono (by decide)) (by rfl) T.m__law_wholes T.F__law_wholes.kp T.n__law_wholes (qm_bo 14 qm_nil)))))) (fun _ _ _ _ _ => by exact (qe_cp 14)))) (qe_lst qa_nil) (nomark _)) (qw_or1 (qt_cmpB (o_ne hu) (qb_v 10) (qb_v 8) (nomark _))))) (qss_one (qs_ret (qe_s qb_bl))) qss_nil)
      (qss_one (qs_sel (ownL 10) (qs_forB 10 11 sc_law.nd (qss_one (qs_expr (qe_appP (qp_v 11) qb_int))) PassesOwn.never) (qs_forI (by rfl) (qi_lst (qe_cp 10)) (qg_name 11 sc_law.nd) (qss_one (qs_expr (qe_appP (qp_v 11) qb_int))) PassesOwn.never))))) PassesOwn.never)
      (qss_cons (qs_set 12 sc_law.nd (lc_e ["_law_script", "_law_draws_here", "_law_turn", "_law_n", "_law_whole_here", "_law_a", "_law_b", "_law_c", "_law_due_here", "_law_again", "_law_found", "_law_row", "_law_one", "_law_other", "_law_group"] (qi_r1 (by rfl) T.b_range (qa_cons (qe_s (qb_v 4)) qa_nil)) (fun _ _ _ _ _ => by exact (qg_name 14 (show List.Nodup (["_law_script", "_law_draws_here", "_law_turn", "_law_n", "_law_whole_here", "_law_a", "_law_b", "_law_c", "_law_due_here", "_law_again", "_law_found", "_law_row", "_law_one", "_law_other", "_law_group"] : List Str) by decide +kernel))) (fun _ _ _ _ _ => by exact qif_nil) (fun _ _ _ _ _ => by exact (qe_op o_sub (qe_op o_mul (qe_call G__law_pop (hr.mono (by decide)) (by rfl) T.m__law_pop T.F__law_pop.kp T.n__law_pop (qm_bo 1 qm_nil)) (qe_s (qb_op o_pow qb_int qb_int))) (qe_s (qb_op o_pow qb_int qb_int))))))
      (qss_cons (qs_set 13 sc_law.nd (lc_e ["_law_script", "_law_draws_here", "_law_turn", "_law_n", "_law_whole_here", "_law_a", "_law_b", "_law_c", "_law_due_here", "_law_again", "_law_found", "_law_row", "_law_one", "_law_other", "_law_group"] (qi_r1 (by rfl) T.b_range (qa_cons (qe_s (qb_v 4)) qa_nil)) (fun _ _ _ _ _ => by exact (qg_name 14 (show List.Nodup (["_law_script", "_law_draws_here", "_law_turn", "_law_n", "_law_whole_here", "_law_a", "_law_b", "_law_c", "_law_due_here", "_law_again", "_law_found", "_law_row", "_law_one", "_law_other", "_law_group"] : List Str) by decide +kernel))) (fun _ _ _ _ _ => by exact qif_nil) (fun _ _ _ _ _ => by exact (qe_op o_sub (qe_op o_mod (qe_call G__law_pop (hr.mono (by decide)) (by rfl) T.m__law_pop T.F__law_pop.kp T.n__law_pop (qm_bo 1 qm_nil)) (qe_s qb_int)) (qe_s qb_int)))))
      (qss_one (qs_if (qt_cmp (o_ne hu) (qe_call G_value (hr.mono (by decide)) (by rfl) T.m_value T.F_value.kp T.n_value (qm_bo 12 (qm_bo 13 qm_nil))) (qe_fn (id := "sum") (c_sum (by rfl)) (by rfl) T.b_sum (by decide +kernel) (qa_cons (lc_e ["_law_script", "_law_draws_here", "_law_turn", "_law_n", "_law_whole_here", "_law_a", "_law_b", "_law_c", "_law_due_here", "_law_again", "_law_found", "_law_row", "_law_one", "_law_other", "_law_k"] (qi_r1 (by rfl) T.b_range (qa_cons (qe_s (qb_v 4)) qa_nil)) (fun _ _ _ _ _ => by exact (qg_name 14 (show List.Nodup (["_law_script", "_law_draws_here", "_law_turn", "_law_n", "_law_whole_here", "_law_a", "_law_b", "_law_c", "_law_due_here", "_law_again", "_law_found", "_law_row", "_law_one", "_law_other", "_law_k"] : List Str) by decide +kernel))) (fun _ _ _ _ _ => by exact qif_nil) (fun _ _ _ _ _ => by exact (qe_s (qb_op o_mul (qb_ix (qb_v 12) (qb_v 14)) (qb_ix (qb_v 13) (qb_v 14)))))) qa_nil)) (nomark _)) (qss_one (qs_ret (qe_s qb_bl))) qss_nil)))))))))))) PassesOwn.never)
      (qss_one (qs_ret (qe_s qb_bl)))))
end
theorem all_mk {l : PySem.W.OpenLaw} {w : World} {K : PySem.W.Frag} {h : Heap} {mg : Str → Option Value} {fa : Addr} (X : K.In h) (G : h.Ns mainGlobals mg) (hfa : mg "law" = some (.ref fa))
    {f0 : Addr} {od0 an0 : Option Addr} {sl0 : Array (Option Value)} {oc0 kV0 dc0 pm0 cd0 ct0 : Value}
    {f1 : Addr} {od1 an1 : Option Addr} {sl1 : Array (Option Value)} {oc1 kV1 dc1 pm1 cd1 ct1 : Value}
    {f2 : Addr} {od2 an2 : Option Addr} {sl2 : Array (Option Value)} {oc2 kV2 dc2 pm2 cd2 ct2 : Value}
    {f3 : Addr} {od3 an3 : Option Addr} {sl3 : Array (Option Value)} {oc3 kV3 dc3 pm3 cd3 ct3 : Value}
    {f4 : Addr} {od4 an4 : Option Addr} {sl4 : Array (Option Value)} {oc4 kV4 dc4 pm4 cd4 ct4 : Value}
    {f5 : Addr} {od5 an5 : Option Addr} {sl5 : Array (Option Value)} {oc5 kV5 dc5 pm5 cd5 ct5 : Value}
    {f6 : Addr} {od6 an6 : Option Addr} {sl6 : Array (Option Value)} {oc6 kV6 dc6 pm6 cd6 ct6 : Value}
    {f7 : Addr} {od7 an7 : Option Addr} {sl7 : Array (Option Value)} {oc7 kV7 dc7 pm7 cd7 ct7 : Value}
    {f8 : Addr} {od8 an8 : Option Addr} {sl8 : Array (Option Value)} {oc8 kV8 dc8 pm8 cd8 ct8 : Value}
    {f9 : Addr} {od9 an9 : Option Addr} {sl9 : Array (Option Value)} {oc9 kV9 dc9 pm9 cd9 ct9 : Value}
    {f10 : Addr} {od10 an10 : Option Addr} {sl10 : Array (Option Value)} {oc10 kV10 dc10 pm10 cd10 ct10 : Value}
    {f11 : Addr} {od11 an11 : Option Addr} {sl11 : Array (Option Value)} {oc11 kV11 dc11 pm11 cd11 ct11 : Value}
    {f12 : Addr} {od12 an12 : Option Addr} {sl12 : Array (Option Value)} {oc12 kV12 dc12 pm12 cd12 ct12 : Value}
    {f13 : Addr} {od13 an13 : Option Addr} {sl13 : Array (Option Value)} {oc13 kV13 dc13 pm13 cd13 ct13 : Value}
    {f14 : Addr} {od14 an14 : Option Addr} {sl14 : Array (Option Value)} {oc14 kV14 dc14 pm14 cd14 ct14 : Value}
    {f15 : Addr} {od15 an15 : Option Addr} {sl15 : Array (Option Value)} {oc15 kV15 dc15 pm15 cd15 ct15 : Value}
    {f16 : Addr} {od16 an16 : Option Addr} {sl16 : Array (Option Value)} {oc16 kV16 dc16 pm16 cd16 ct16 : Value}
    {f17 : Addr} {od17 an17 : Option Addr} {sl17 : Array (Option Value)} {oc17 kV17 dc17 pm17 cd17 ct17 : Value}
    {f18 : Addr} {od18 an18 : Option Addr} {sl18 : Array (Option Value)} {oc18 kV18 dc18 pm18 cd18 ct18 : Value}
    {f19 : Addr} {od19 an19 : Option Addr} {sl19 : Array (Option Value)} {oc19 kV19 dc19 pm19 cd19 ct19 : Value}
    {f20 : Addr} {od20 an20 : Option Addr} {sl20 : Array (Option Value)} {oc20 kV20 dc20 pm20 cd20 ct20 : Value}
    (a0 : PySem.W.nsIn K mainGlobals "all_names" = some (some (.ref f0))) (l0 : K.lookup f0 = some ⟨oc0, od0, .func (PySem.W.fnOf "all_names" "all_names" (defArgs s_all_names) (defBody s_all_names) (defScope s_all_names) .none kV0 dc0 pm0 an0 cd0 ct0), sl0⟩) (c0 : PySem.W.codeIn K cd0 "all_names" = true) (k0 : PySem.W.keepIn K (.ref f0) = true)
    (a1 : PySem.W.nsIn K mainGlobals "check_count" = some (some (.ref f1))) (l1 : K.lookup f1 = some ⟨oc1, od1, .func (PySem.W.fnOf "check_count" "check_count" (defArgs s_check_count) (defBody s_check_count) (defScope s_check_count) .none kV1 dc1 pm1 an1 cd1 ct1), sl1⟩) (c1 : PySem.W.codeIn K cd1 "check_count" = true) (k1 : PySem.W.keepIn K (.ref f1) = true)
    (a2 : PySem.W.nsIn K mainGlobals "value" = some (some (.ref f2))) (l2 : K.lookup f2 = some ⟨oc2, od2, .func (PySem.W.fnOf "value" "value" (defArgs s_value) (defBody s_value) (defScope s_value) .none kV2 dc2 pm2 an2 cd2 ct2), sl2⟩) (c2 : PySem.W.codeIn K cd2 "value" = true) (k2 : PySem.W.keepIn K (.ref f2) = true)
    (a3 : PySem.W.nsIn K mainGlobals "_law_mix" = some (some (.ref f3))) (l3 : K.lookup f3 = some ⟨oc3, od3, .func (PySem.W.fnOf "_law_mix" "_law_mix" (defArgs s__law_mix) (defBody s__law_mix) (defScope s__law_mix) .none kV3 dc3 pm3 an3 cd3 ct3), sl3⟩) (c3 : PySem.W.codeIn K cd3 "_law_mix" = true) (k3 : PySem.W.keepIn K (.ref f3) = true)
    (a4 : PySem.W.nsIn K mainGlobals "_law_pop" = some (some (.ref f4))) (l4 : K.lookup f4 = some ⟨oc4, od4, .func (PySem.W.fnOf "_law_pop" "_law_pop" (defArgs s__law_pop) (defBody s__law_pop) (defScope s__law_pop) .none kV4 dc4 pm4 an4 cd4 ct4), sl4⟩) (c4 : PySem.W.codeIn K cd4 "_law_pop" = true) (k4 : PySem.W.keepIn K (.ref f4) = true)
    (a5 : PySem.W.nsIn K mainGlobals "_law_whole" = some (some (.ref f5))) (l5 : K.lookup f5 = some ⟨oc5, od5, .func (PySem.W.fnOf "_law_whole" "_law_whole" (defArgs s__law_whole) (defBody s__law_whole) (defScope s__law_whole) .none kV5 dc5 pm5 an5 cd5 ct5), sl5⟩) (c5 : PySem.W.codeIn K cd5 "_law_whole" = true) (k5 : PySem.W.keepIn K (.ref f5) = true)
    (a6 : PySem.W.nsIn K mainGlobals "_law_due" = some (some (.ref f6))) (l6 : K.lookup f6 = some ⟨oc6, od6, .func (PySem.W.fnOf "_law_due" "_law_due" (defArgs s__law_due) (defBody s__law_due) (defScope s__law_due) .none kV6 dc6 pm6 an6 cd6 ct6), sl6⟩) (c6 : PySem.W.codeIn K cd6 "_law_due" = true) (k6 : PySem.W.keepIn K (.ref f6) = true)
    (a7 : PySem.W.nsIn K mainGlobals "check_group" = some (some (.ref f7))) (l7 : K.lookup f7 = some ⟨oc7, od7, .func (PySem.W.fnOf "check_group" "check_group" (defArgs s_check_group) (defBody s_check_group) (defScope s_check_group) .none kV7 dc7 pm7 an7 cd7 ct7), sl7⟩) (c7 : PySem.W.codeIn K cd7 "check_group" = true) (k7 : PySem.W.keepIn K (.ref f7) = true)
    (a8 : PySem.W.nsIn K mainGlobals "row_of_terms" = some (some (.ref f8))) (l8 : K.lookup f8 = some ⟨oc8, od8, .func (PySem.W.fnOf "row_of_terms" "row_of_terms" (defArgs s_row_of_terms) (defBody s_row_of_terms) (defScope s_row_of_terms) .none kV8 dc8 pm8 an8 cd8 ct8), sl8⟩) (c8 : PySem.W.codeIn K cd8 "row_of_terms" = true) (k8 : PySem.W.keepIn K (.ref f8) = true)
    (a9 : PySem.W.nsIn K mainGlobals "greatest" = some (some (.ref f9))) (l9 : K.lookup f9 = some ⟨oc9, od9, .func (PySem.W.fnOf "greatest" "greatest" (defArgs s_greatest) (defBody s_greatest) (defScope s_greatest) .none kV9 dc9 pm9 an9 cd9 ct9), sl9⟩) (c9 : PySem.W.codeIn K cd9 "greatest" = true) (k9 : PySem.W.keepIn K (.ref f9) = true)
    (a10 : PySem.W.nsIn K mainGlobals "_law_draws" = some (some (.ref f10))) (l10 : K.lookup f10 = some ⟨oc10, od10, .func (PySem.W.fnOf "_law_draws" "_law_draws" (defArgs s__law_draws) (defBody s__law_draws) (defScope s__law_draws) .none kV10 dc10 pm10 an10 cd10 ct10), sl10⟩) (c10 : PySem.W.codeIn K cd10 "_law_draws" = true) (k10 : PySem.W.keepIn K (.ref f10) = true)
    (a11 : PySem.W.nsIn K mainGlobals "_law_wholes" = some (some (.ref f11))) (l11 : K.lookup f11 = some ⟨oc11, od11, .func (PySem.W.fnOf "_law_wholes" "_law_wholes" (defArgs s__law_wholes) (defBody s__law_wholes) (defScope s__law_wholes) .none kV11 dc11 pm11 an11 cd11 ct11), sl11⟩) (c11 : PySem.W.codeIn K cd11 "_law_wholes" = true) (k11 : PySem.W.keepIn K (.ref f11) = true)
    (a12 : PySem.W.nsIn K mainGlobals "check_known" = some (some (.ref f12))) (l12 : K.lookup f12 = some ⟨oc12, od12, .func (PySem.W.fnOf "check_known" "check_known" (defArgs s_check_known) (defBody s_check_known) (defScope s_check_known) .none kV12 dc12 pm12 an12 cd12 ct12), sl12⟩) (c12 : PySem.W.codeIn K cd12 "check_known" = true) (k12 : PySem.W.keepIn K (.ref f12) = true)
    (a13 : PySem.W.nsIn K mainGlobals "rest_row" = some (some (.ref f13))) (l13 : K.lookup f13 = some ⟨oc13, od13, .func (PySem.W.fnOf "rest_row" "rest_row" (defArgs s_rest_row) (defBody s_rest_row) (defScope s_rest_row) .none kV13 dc13 pm13 an13 cd13 ct13), sl13⟩) (c13 : PySem.W.codeIn K cd13 "rest_row" = true) (k13 : PySem.W.keepIn K (.ref f13) = true)
    (a14 : PySem.W.nsIn K mainGlobals "shared_row" = some (some (.ref f14))) (l14 : K.lookup f14 = some ⟨oc14, od14, .func (PySem.W.fnOf "shared_row" "shared_row" (defArgs s_shared_row) (defBody s_shared_row) (defScope s_shared_row) .none kV14 dc14 pm14 an14 cd14 ct14), sl14⟩) (c14 : PySem.W.codeIn K cd14 "shared_row" = true) (k14 : PySem.W.keepIn K (.ref f14) = true)
    (a15 : PySem.W.nsIn K mainGlobals "unsure" = some (some (.ref f15))) (l15 : K.lookup f15 = some ⟨oc15, od15, .func (PySem.W.fnOf "unsure" "unsure" (defArgs s_unsure) (defBody s_unsure) (defScope s_unsure) .none kV15 dc15 pm15 an15 cd15 ct15), sl15⟩) (c15 : PySem.W.codeIn K cd15 "unsure" = true) (k15 : PySem.W.keepIn K (.ref f15) = true)
    (a16 : PySem.W.nsIn K mainGlobals "check_rest" = some (some (.ref f16))) (l16 : K.lookup f16 = some ⟨oc16, od16, .func (PySem.W.fnOf "check_rest" "check_rest" (defArgs s_check_rest) (defBody s_check_rest) (defScope s_check_rest) .none kV16 dc16 pm16 an16 cd16 ct16), sl16⟩) (c16 : PySem.W.codeIn K cd16 "check_rest" = true) (k16 : PySem.W.keepIn K (.ref f16) = true)
    (a17 : PySem.W.nsIn K mainGlobals "check_shared" = some (some (.ref f17))) (l17 : K.lookup f17 = some ⟨oc17, od17, .func (PySem.W.fnOf "check_shared" "check_shared" (defArgs s_check_shared) (defBody s_check_shared) (defScope s_check_shared) .none kV17 dc17 pm17 an17 cd17 ct17), sl17⟩) (c17 : PySem.W.codeIn K cd17 "check_shared" = true) (k17 : PySem.W.keepIn K (.ref f17) = true)
    (a18 : PySem.W.nsIn K mainGlobals "rest" = some (some (.ref f18))) (l18 : K.lookup f18 = some ⟨oc18, od18, .func (PySem.W.fnOf "rest" "rest" (defArgs s_rest) (defBody s_rest) (defScope s_rest) .none kV18 dc18 pm18 an18 cd18 ct18), sl18⟩) (c18 : PySem.W.codeIn K cd18 "rest" = true) (k18 : PySem.W.keepIn K (.ref f18) = true)
    (a19 : PySem.W.nsIn K mainGlobals "shared" = some (some (.ref f19))) (l19 : K.lookup f19 = some ⟨oc19, od19, .func (PySem.W.fnOf "shared" "shared" (defArgs s_shared) (defBody s_shared) (defScope s_shared) .none kV19 dc19 pm19 an19 cd19 ct19), sl19⟩) (c19 : PySem.W.codeIn K cd19 "shared" = true) (k19 : PySem.W.keepIn K (.ref f19) = true)
    (a20 : PySem.W.nsIn K mainGlobals "law" = some (some (.ref f20))) (l20 : K.lookup f20 = some ⟨oc20, od20, .func (PySem.W.fnOf "law" "law" (defArgs s_law) (defBody s_law) (defScope s_law) .none kV20 dc20 pm20 an20 cd20 ct20), sl20⟩) (c20 : PySem.W.codeIn K cd20 "law" = true) (k20 : PySem.W.keepIn K (.ref f20) = true)
    (z_bool : PySem.W.nsIn K mainGlobals "bool" = some none)
    (z_int : PySem.W.nsIn K mainGlobals "int" = some none)
    (z_isinstance : PySem.W.nsIn K mainGlobals "isinstance" = some none)
    (z_len : PySem.W.nsIn K mainGlobals "len" = some none)
    (z_list : PySem.W.nsIn K mainGlobals "list" = some none)
    (z_range : PySem.W.nsIn K mainGlobals "range" = some none)
    (z_sum : PySem.W.nsIn K mainGlobals "sum" = some none)
    (z_zip : PySem.W.nsIn K mainGlobals "zip" = some none)
    {t_MOST_NAMES : Tok} (v_MOST_NAMES : PySem.W.nsIn K mainGlobals "MOST_NAMES" = some (some (.int 4 t_MOST_NAMES)))
    : ∃ fd : FuncData, (∀ (s : Shared) (v : Value), BindsTo s fd ⟨[v], []⟩ [("_law_script", v)]) ∧ ∀ base : Heap, K.In base → base.Ns mainGlobals mg → FnOk l.prog w K mg base CX0 6 fa fd ["_law_script"] (spD K 1 g_law) := by
  have e := hfa.symm.trans (PySem.W.mg_of X G a20)
  cases e
  have F0 := fun_mk (st := s_all_names) l0 c0 k0
  have b0 := F0.binds (ps := ["n"]) fun _ _ _ _ _ _ us hl => match us, hl with | [_], _ => rfl
  have F1 := fun_mk (st := s_check_count) l1 c1 k1
  have b1 := F1.binds (ps := ["n"]) fun _ _ _ _ _ _ us hl => match us, hl with | [_], _ => rfl
  have F2 := fun_mk (st := s_value) l2 c2 k2
  have b2 := F2.binds (ps := ["row", "table"]) fun _ _ _ _ _ _ us hl => match us, hl with | [_, _], _ => rfl
  have F3 := fun_mk (st := s__law_mix) l3 c3 k3
  have b3 := F3.binds (ps := ["_law_cell", "_law_turn"]) fun _ _ _ _ _ _ us hl => match us, hl with | [_, _], _ => rfl
  have F4 := fun_mk (st := s__law_pop) l4 c4 k4
  have b4 := F4.binds (ps := ["_law_draws_here"]) fun _ _ _ _ _ _ us hl => match us, hl with | [_], _ => rfl
  have F5 := fun_mk (st := s__law_whole) l5 c5 k5
  have b5 := F5.binds (ps := ["_law_found"]) fun _ _ _ _ _ _ us hl => match us, hl with | [_], _ => rfl
  have F6 := fun_mk (st := s__law_due) l6 c6 k6
  have b6 := F6.binds (ps := ["_law_n", "_law_a", "_law_b", "_law_c"]) fun _ _ _ _ _ _ us hl => match us, hl with | [_, _, _, _], _ => rfl
  have F7 := fun_mk (st := s_check_group) l7 c7 k7
  have b7 := F7.binds (ps := ["n", "group"]) fun _ _ _ _ _ _ us hl => match us, hl with | [_, _], _ => rfl
  have F8 := fun_mk (st := s_row_of_terms) l8 c8 k8
  have b8 := F8.binds (ps := ["n", "terms"]) fun _ _ _ _ _ _ us hl => match us, hl with | [_, _], _ => rfl
  have F9 := fun_mk (st := s_greatest) l9 c9 k9
  have b9 := F9.binds (ps := ["n"]) fun _ _ _ _ _ _ us hl => match us, hl with | [_], _ => rfl
  have F10 := fun_mk (st := s__law_draws) l10 c10 k10
  have b10 := F10.binds (ps := ["_law_script", "_law_turn", "_law_many"]) fun _ _ _ _ _ _ us hl => match us, hl with | [_, _, _], _ => rfl
  have F11 := fun_mk (st := s__law_wholes) l11 c11 k11
  have b11 := F11.binds (ps := ["_law_found"]) fun _ _ _ _ _ _ us hl => match us, hl with | [_], _ => rfl
  have F12 := fun_mk (st := s_check_known) l12 c12 k12
  have b12 := F12.binds (ps := ["n", "group"]) fun _ _ _ _ _ _ us hl => match us, hl with | [_, _], _ => rfl
  have F13 := fun_mk (st := s_rest_row) l13 c13 k13
  have b13 := F13.binds (ps := ["n", "a", "b"]) fun _ _ _ _ _ _ us hl => match us, hl with | [_, _, _], _ => rfl
  have F14 := fun_mk (st := s_shared_row) l14 c14 k14
  have b14 := F14.binds (ps := ["n", "a", "b", "c"]) fun _ _ _ _ _ _ us hl => match us, hl with | [_, _, _, _], _ => rfl
  have F15 := fun_mk (st := s_unsure) l15 c15 k15
  have b15 := F15.binds (ps := ["n", "a"]) fun _ _ _ _ _ _ us hl => match us, hl with | [_, _], _ => rfl
  have F16 := fun_mk (st := s_check_rest) l16 c16 k16
  have b16 := F16.binds (ps := ["n", "a", "b"]) fun _ _ _ _ _ _ us hl => match us, hl with | [_, _, _], _ => rfl
  have F17 := fun_mk (st := s_check_shared) l17 c17 k17
  have b17 := F17.binds (ps := ["n", "a", "b", "c"]) fun _ _ _ _ _ _ us hl => match us, hl with | [_, _, _, _], _ => rfl
  have F18 := fun_mk (st := s_rest) l18 c18 k18
  have b18 := F18.binds (ps := ["n", "a", "b"]) fun _ _ _ _ _ _ us hl => match us, hl with | [_, _, _], _ => rfl
  have F19 := fun_mk (st := s_shared) l19 c19 k19
  have b19 := F19.binds (ps := ["n", "a", "b", "c"]) fun _ _ _ _ _ _ us hl => match us, hl with | [_, _, _, _], _ => rfl
  have F20 := fun_mk (st := s_law) l20 c20 k20
  let t : Txt K mg := ⟨f0, PySem.W.fnOf "all_names" "all_names" (defArgs s_all_names) (defBody s_all_names) (defScope s_all_names) .none kV0 dc0 pm0 an0 cd0 ct0, f1, PySem.W.fnOf "check_count" "check_count" (defArgs s_check_count) (defBody s_check_count) (defScope s_check_count) .none kV1 dc1 pm1 an1 cd1 ct1, f2, PySem.W.fnOf "value" "value" (defArgs s_value) (defBody s_value) (defScope s_value) .none kV2 dc2 pm2 an2 cd2 ct2, f3, PySem.W.fnOf "_law_mix" "_law_mix" (defArgs s__law_mix) (defBody s__law_mix) (defScope s__law_mix) .none kV3 dc3 pm3 an3 cd3 ct3, f4, PySem.W.fnOf "_law_pop" "_law_pop" (defArgs s__law_pop) (defBody s__law_pop) (defScope s__law_pop) .none kV4 dc4 pm4 an4 cd4 ct4, f5, PySem.W.fnOf "_law_whole" "_law_whole" (defArgs s__law_whole) (defBody s__law_whole) (defScope s__law_whole) .none kV5 dc5 pm5 an5 cd5 ct5, f6, PySem.W.fnOf "_law_due" "_law_due" (defArgs s__law_due) (defBody s__law_due) (defScope s__law_due) .none kV6 dc6 pm6 an6 cd6 ct6, f7, PySem.W.fnOf "check_group" "check_group" (defArgs s_check_group) (defBody s_check_group) (defScope s_check_group) .none kV7 dc7 pm7 an7 cd7 ct7, f8, PySem.W.fnOf "row_of_terms" "row_of_terms" (defArgs s_row_of_terms) (defBody s_row_of_terms) (defScope s_row_of_terms) .none kV8 dc8 pm8 an8 cd8 ct8, f9, PySem.W.fnOf "greatest" "greatest" (defArgs s_greatest) (defBody s_greatest) (defScope s_greatest) .none kV9 dc9 pm9 an9 cd9 ct9, f10, PySem.W.fnOf "_law_draws" "_law_draws" (defArgs s__law_draws) (defBody s__law_draws) (defScope s__law_draws) .none kV10 dc10 pm10 an10 cd10 ct10, f11, PySem.W.fnOf "_law_wholes" "_law_wholes" (defArgs s__law_wholes) (defBody s__law_wholes) (defScope s__law_wholes) .none kV11 dc11 pm11 an11 cd11 ct11, f12, PySem.W.fnOf "check_known" "check_known" (defArgs s_check_known) (defBody s_check_known) (defScope s_check_known) .none kV12 dc12 pm12 an12 cd12 ct12, f13, PySem.W.fnOf "rest_row" "rest_row" (defArgs s_rest_row) (defBody s_rest_row) (defScope s_rest_row) .none kV13 dc13 pm13 an13 cd13 ct13, f14, PySem.W.fnOf "shared_row" "shared_row" (defArgs s_shared_row) (defBody s_shared_row) (defScope s_shared_row) .none kV14 dc14 pm14 an14 cd14 ct14, f15, PySem.W.fnOf "unsure" "unsure" (defArgs s_unsure) (defBody s_unsure) (defScope s_unsure) .none kV15 dc15 pm15 an15 cd15 ct15, f16, PySem.W.fnOf "check_rest" "check_rest" (defArgs s_check_rest) (defBody s_check_rest) (defScope s_check_rest) .none kV16 dc16 pm16 an16 cd16 ct16, f17, PySem.W.fnOf "check_shared" "check_shared" (defArgs s_check_shared) (defBody s_check_shared) (defScope s_check_shared) .none kV17 dc17 pm17 an17 cd17 ct17, f18, PySem.W.fnOf "rest" "rest" (defArgs s_rest) (defBody s_rest) (defScope s_rest) .none kV18 dc18 pm18 an18 cd18 ct18, f19, PySem.W.fnOf "shared" "shared" (defArgs s_shared) (defBody s_shared) (defScope s_shared) .none kV19 dc19 pm19 an19 cd19 ct19⟩
  have T : Tx t := ⟨F0, PySem.W.mg_of X G a0, b0, F1, PySem.W.mg_of X G a1, b1, F2, PySem.W.mg_of X G a2, b2, F3, PySem.W.mg_of X G a3, b3, F4, PySem.W.mg_of X G a4, b4, F5, PySem.W.mg_of X G a5, b5, F6, PySem.W.mg_of X G a6, b6, F7, PySem.W.mg_of X G a7, b7, F8, PySem.W.mg_of X G a8, b8, F9, PySem.W.mg_of X G a9, b9, F10, PySem.W.mg_of X G a10, b10, F11, PySem.W.mg_of X G a11, b11, F12, PySem.W.mg_of X G a12, b12, F13, PySem.W.mg_of X G a13, b13, F14, PySem.W.mg_of X G a14, b14, F15, PySem.W.mg_of X G a15, b15, F16, PySem.W.mg_of X G a16, b16, F17, PySem.W.mg_of X G a17, b17, F18, PySem.W.mg_of X G a18, b18, F19, PySem.W.mg_of X G a19, b19, PySem.W.mg_none_of X G z_bool, PySem.W.mg_none_of X G z_int, PySem.W.mg_none_of X G z_isinstance, PySem.W.mg_none_of X G z_len, PySem.W.mg_none_of X G z_list, PySem.W.mg_none_of X G z_range, PySem.W.mg_none_of X G z_sum, PySem.W.mg_none_of X G z_zip, ⟨_, PySem.W.mg_of X G v_MOST_NAMES⟩⟩
  exact ⟨PySem.W.fnOf "law" "law" (defArgs s_law) (defBody s_law) (defScope s_law) .none kV20 dc20 pm20 an20 cd20 ct20, fun s v => .of_eq rfl, fun base _ _ => ok_law T F20⟩
theorem walk {l : PySem.W.OpenLaw} {q : Program} {loose : List Str} {XP : (Str → Option Value) → Heap → Prop} {YP : World → Heap → Prop} {d : DefRec} {K : Params → PySem.W.Frag} (hn : l.most = some 63) (hdf : d.params.defaults = [])
    (hY : ∀ (w : World) (h : Heap), YP w h → (K w.params).In h) (hg : ∀ ns : List Int, ns.length ≤ 63 → ∃ d, g_law [.lst false (ns.map D.int)] = some (.bl true, [d]))
    (F : ∀ (w : World) (mg : Str → Option Value) (fa : Addr) (h : Heap), (K w.params).In h → h.Ns mainGlobals mg → mg d.name = some (.ref fa) →
      ∃ fd : FuncData, (∀ (s : Shared) (u : Value), BindsTo s fd ⟨[u], []⟩ [("_law_script", u)]) ∧ ∀ base : Heap, (K w.params).In base → base.Ns mainGlobals mg → FnOk l.prog w (K w.params) mg base CX0 6 fa fd ["_law_script"] (spD (K w.params) 1 g_law)) :
    PySem.W.WalkO q loose XP YP l.row.toRowW d [] (fun f vs => PySem.call f vs) :=
  L2.walk_of (n := 63) (k := 6) (x := "_law_script") (CX := fun _ => CX0) (sp := fun w => spD (K w.params) 1 g_law) hn (by decide) hdf ⟨rfl, by decide, by decide⟩ hY F (fun _ _ a ns hl _ hS => law_sp (hg ns hl) hS) fun _ _ _ _ _ z => z
end LW
namespace LW
open DD PySem L2
theorem pyL_ints : ∀ ns : List Int, D.pyL (ns.map D.int) = some (ns.map PyData.int)
  | [] => rfl
  | n :: ns => by simp only [List.map_cons, D.pyL, D.py, pyL_ints ns, Option.bind_some, Option.map_some]
theorem py_ints (o : Bool) (ns : List Int) : D.py (.lst o (ns.map D.int)) = some (.list (ns.map PyData.int)) := by simp only [D.py, pyL_ints, Option.map_some]
theorem lay_ints : ∀ ns : List Int, PyData.canLayAll0 (ns.map PyData.int) = true
  | [] => rfl
  | n :: ns => by simp only [List.map_cons, PyData.canLayAll0, PyData.canLay0, lay_ints ns, Bool.and_self]
theorem eqv_nil : ∀ ns : List Int, PyData.eqv (.list (ns.map PyData.int)) (.list []) = ns.isEmpty
  | [] => rfl
  | n :: ns => rfl
theorem gEq_nil (o o' : Bool) (ns : List Int) : gEq (.lst o (ns.map D.int)) (.lst o' []) = some (.bl ns.isEmpty) := by
  have h1 : D.py (.lst o' []) = some (.list []) := rfl
  have h2 : pyOk (.list (ns.map PyData.int)) (.list []) = true := by
    simp only [pyOk, PyData.canLay0, lay_ints, PyData.canLayAll0, Bool.and_self, Bool.true_and, decide_eq_true_eq]
    exact Nat.le_trans (Nat.min_le_right _ _) (by decide)
  simp only [gEq, py_ints, h1, Option.bind_some, h2, if_true, eqv_nil]
theorem pop_nil : g__law_pop [.lst true []] = some (.int 0, [.lst true []]) := by rfl
theorem pop_snoc (ms : List Int) (m : Int) : g__law_pop [.lst true ((ms ++ [m]).map D.int)] = some (.int m, [.lst true (ms.map D.int)]) := by
  have hne : (ms ++ [m]).isEmpty = false := by cases ms <;> rfl
  have hg := gEq_nil true true (ms ++ [m])
  rw [hne] at hg
  have hl : ((ms ++ [m]).map D.int)[((ms ++ [m]).map D.int).length - 1]? = some (.int m) := by simp
  have hd : ((ms ++ [m]).map D.int).dropLast = ms.map D.int := by simp
  simp only [g__law_pop, gOf, c__law_pop, inD, outD, sSeq, sIf, sSet, sRet, sRetN, sDrop, sSkip, sAsg, dTest, tAndD, tOrD, tNotD, dS, pOp, pV, pC, pNeg, gNeg, dget, pLst, evB, dOp, dCall, evM, fillM, backM, gI0, gI, gB0, gNm, gTupD, gConsD, gNilD, aNil, aCons, dLst, dTup, dCallB, pCall, D.sc, D.fz, D.fzL, dCp, dMv, dIx, ixD, intD, lenD, dAndV, dOrV, dNotV, Option.bind_some, Option.map_some, Option.bind_none, Option.map_none, Option.getD_some, Option.getD_none, List.map_cons, List.map_nil, List.length_cons, List.length_nil, List.replicate_zero, List.replicate_succ, List.append_nil, List.nil_append, List.cons_append, List.getElem?_cons_zero, List.getElem?_cons_succ, List.set_cons_zero, List.set_cons_succ, List.not_mem_nil, List.mem_cons, or_false, false_or, Nat.sub_self, Nat.zero_add, Nat.reduceAdd, Nat.reduceSub, Nat.reduceEqDiff, Nat.reduceLT, Nat.reduceLeDiff, Nat.zero_le, if_true, if_false, ite_true, ite_false, reduceIte, Bool.false_eq_true, Bool.true_eq_false, reduceCtorEq, Bool.not_true, Bool.not_false, hg, dPopV, hl, hd]
theorem mix_eq (c k : Int) (h0 : 0 ≤ k) (h1 : k < 1000) : ∃ v, g__law_mix [.int c, .int k] = some (.int v, [.int c, .int k]) ∧ 0 ≤ v ∧ v < 2147483629 := by
  have m1 : mulC k k = true := by simp only [mulC, decide_eq_true_eq]; omega
  have hr : 0 ≤ (c % 2147483647 + k * k * 7919 + 104729) * 48271 % 2147483647 := Int.emod_nonneg _ (by decide)
  have hs : (c % 2147483647 + k * k * 7919 + 104729) * 48271 % 2147483647 < 2147483647 := Int.emod_lt_of_pos _ (by decide)
  generalize hz : (c % 2147483647 + k * k * 7919 + 104729) * 48271 % 2147483647 = z at hr hs
  have m2 : mulC (k * k) 7919 = true := by simp only [mulC, decide_eq_true_eq]; omega
  have m3 : ∀ q, mulC q 48271 = true := fun q => by simp only [mulC, decide_eq_true_eq]; omega
  have m4 : mulC z z = true := by simp only [mulC, decide_eq_true_eq]; omega
  have m5 : mulC 69621 k = true := by simp only [mulC, decide_eq_true_eq]; omega
  have d1 : decide ((0 : Int) < 2147483647) = true := by decide
  have d2 : decide ((0 : Int) < 2147483629) = true := by decide
  refine ⟨(z * z + 69621 * k) % 2147483629, ?_, Int.emod_nonneg _ (by decide), Int.emod_lt_of_pos _ (by decide)⟩
  simp only [g__law_mix, gOf, c__law_mix, inD, outD, sSeq, sIf, sSet, sRet, sRetN, sDrop, sSkip, sAsg, dTest, tAndD, tOrD, tNotD, dS, pOp, pV, pC, pNeg, gNeg, dget, pLst, evB, dOp, dCall, evM, fillM, backM, gI0, gI, gB0, gNm, gTupD, gConsD, gNilD, aNil, aCons, dLst, dTup, dCallB, pCall, D.sc, D.fz, D.fzL, dCp, dMv, dIx, ixD, intD, lenD, dAndV, dOrV, dNotV, Option.bind_some, Option.map_some, Option.bind_none, Option.map_none, Option.getD_some, Option.getD_none, List.map_cons, List.map_nil, List.length_cons, List.length_nil, List.replicate_zero, List.replicate_succ, List.append_nil, List.nil_append, List.cons_append, List.getElem?_cons_zero, List.getElem?_cons_succ, List.set_cons_zero, List.set_cons_succ, List.not_mem_nil, List.mem_cons, or_false, false_or, Nat.sub_self, Nat.zero_add, Nat.reduceAdd, Nat.reduceSub, Nat.reduceEqDiff, Nat.reduceLT, Nat.reduceLeDiff, Nat.zero_le, if_true, if_false, ite_true, ite_false, reduceIte, Bool.false_eq_true, Bool.true_eq_false, reduceCtorEq, Bool.not_true, Bool.not_false, m1, m2, m3, d1, d2, hz, m4, m5]
end LW
namespace LW
open DD PySem L2
theorem fz_ints : ∀ ns : List Int, D.fzL (ns.map D.int) = ns.map D.int
  | [] => rfl
  | n :: ns => by simp only [List.map_cons, D.fzL, D.fz, fz_ints ns]
theorem gEq_int (i j : Int) : gEq (.int i) (.int j) = some (.bl (i == j)) := by
  have h : pyOk (.int i) (.int j) = true := rfl
  simp only [gEq, D.py, Option.bind_some, h, if_true, PyData.eqv]
theorem gNe_int (i j : Int) : gNe (.int i) (.int j) = some (.bl (!(i == j))) := by
  have h : pyOk (.int i) (.int j) = true := rfl
  simp only [gNe, D.py, Option.bind_some, h, if_true, PyData.eqv]
theorem set_end {σ : DSt} {o : Option D} {v : Option D} : (σ ++ [o]).set σ.length v = σ ++ [v] := by
  rw [List.set_append_right _ _ (Nat.le_refl _)]; simp
/-- a comprehension over ints whose element is an int's function -/
theorem lc_ints {σ : DSt} {c : DE} {f : Int → Int} {k : Nat} (hk : k = σ.length) (hc : ∀ i, c (σ ++ [some (.int i)]) = some (.int (f i), σ ++ [some (.int i)])) : ∀ (ns : List Int) (o : Option D), ∃ o', lcGo (gNm k) tTrue c (ns.map D.int) (σ ++ [o]) = some ((ns.map f).map D.int, σ ++ [o'])
  | [], o => ⟨o, rfl⟩
  | n :: ns, o => by
    obtain ⟨o', h⟩ := lc_ints hk hc ns (some (.int n))
    refine ⟨o', ?_⟩
    subst hk
    have hl : σ.length < (σ ++ [o]).length := by simp
    simp only [List.map_cons, lcGo, gNm, hl, if_true, set_end, Option.bind_some, tTrue, hc, h, Option.map_some]
theorem at_int {ns : List Int} {j : Nat} (h : j < ns.length) : atI (ns.map D.int) (j : Int) = some (.int ns[j]) := atI_nat (by simp [h])
theorem ix_int {n j : Nat} (h : j < n) : ixN n (j : Int) = some j := by
  unfold ixN
  rw [if_pos (by omega), if_pos (by omega)]; simp
theorem size_ok {n : Nat} (h : n ≤ 1000) : n < sizeLine := L2.small1000 h
def drBody : DS := (sSeq (sSet 7 (dS (pOp gMod (pV 6) (pCall lenD [(pV 3)]))))
      (sSeq (sSet 8 (dCall g__law_mix [.ex (dS (pOp ixD (pV 3) (pV 7))), .bo 6]))
      (sSeq (sSet 8 (dS (pOp gMod (pOp gAdd (pOp gMul (pV 8) (pV 8)) (pOp gMul (pC (.int 7)) (pV 6))) (pC (.int 2147483587)))))
      (sSeq (sIf (tAndD (dTest (dOp gGe (dS (pOp ixD (pV 3) (pV 7))) (dS (pOp gPow (pC (.int 10)) (pC (.int 18)))))) (dTest (dOp gGt (dS (pOp ixD (pV 4) (pV 7))) (dS (pC (.int 0)))))) (sSeq (sSet 8 (dS (pOp gMod (pOp ixD (pV 4) (pV 7)) (pC (.int 2147483587)))))
      (sAsg (dS (pOp gFdv (pOp ixD (pV 4) (pV 7)) (pC (.int 2147483587)))) (gSet 4 [] (pV 7)))) sSkip)
      (sDrop (dApp 5 [] (pV 8)))))))
def Bd (ns : List Int) : Prop := ∀ m ∈ ns, 0 ≤ m ∧ m < 2147483648
theorem pow_ev : ∃ E : Int, gPow (.int 10) (.int 18) = some (.int E) := by
  have d2 : decide ((0 : Int) ≤ 18 ∧ (18 : Int) ≤ 1000000 ∧ (10 : Int).natAbs < 2 ^ 64) = true := by decide
  refine ⟨10 ^ (18 : Int).toNat, ?_⟩
  unfold gPow gI
  exact if_pos d2
theorem seq_nx {a b : DS} {σ σ' : DSt} (h : a σ = some (.nx σ')) : sSeq a b σ = b σ' := by simp only [sSeq, h, Option.bind_some]
theorem e2x {g : GF} {s0 o8 : Option D} {t m : D} {A B : D} {c v : Int} {xs : List D} {k : Int} {j : Int} (a1 : atI xs j = some (.int c)) (hv : g [.int c, .int k] = some (.int v, [.int c, .int k])) :
   (sSet 8 (dCall g [.ex (dS (pOp ixD (pV 3) (pV 7))), .bo 6])) [s0, some t, some m, some (.lst false xs), some A, some B, some (.int k), some (.int j), o8] =
      some (.nx [s0, some t, some m, some (.lst false xs), some A, some B, some (.int k), some (.int j), some (.int v)]) := by
    simp only [inD, outD, sSeq, sIf, sSet, sRet, sRetN, sDrop, sSkip, sAsg, dTest, tAndD, tOrD, tNotD, dS, pOp, pV, pC, pNeg, gNeg, dget, pLst, evB, dOp, dCall, evM, fillM, backM, gI0, gI, gB0, gNm, gTupD, gConsD, gNilD, aNil, aCons, dLst, dTup, dCallB, pCall, D.sc, D.fz, D.fzL, dCp, dMv, dIx, ixD, intD, lenD, dAndV, dOrV, dNotV, Option.bind_some, Option.map_some, Option.bind_none, Option.map_none, Option.getD_some, Option.getD_none, List.map_cons, List.map_nil, List.length_cons, List.length_nil, List.replicate_zero, List.replicate_succ, List.append_nil, List.nil_append, List.cons_append, List.getElem?_cons_zero, List.getElem?_cons_succ, List.set_cons_zero, List.set_cons_succ, List.not_mem_nil, List.mem_cons, or_false, false_or, Nat.sub_self, Nat.zero_add, Nat.reduceAdd, Nat.reduceSub, Nat.reduceEqDiff, Nat.reduceLT, Nat.reduceLeDiff, Nat.zero_le, if_true, if_false, ite_true, ite_false, reduceIte, Bool.false_eq_true, Bool.true_eq_false, reduceCtorEq, Bool.not_true, Bool.not_false, a1, hv]
theorem gOf_rt {N : Nat} {W : List Nat} {c : DS} {ds ds' : List D} {σ0 σ : DSt} {d : D} (h0 : (inD W 0 ds).map some ++ List.replicate (N - ds.length) none = σ0) (h : c σ0 = some (.rt d σ)) (h1 : outD W σ 0 ds = ds') : gOf N W c ds = some (d, ds') := by
  unfold gOf
  rw [h0, h, ← h1]
  rfl
theorem gOf_nx {N : Nat} {W : List Nat} {c : DS} {ds ds' : List D} {σ0 σ : DSt} (h0 : (inD W 0 ds).map some ++ List.replicate (N - ds.length) none = σ0) (h : c σ0 = some (.nx σ)) (h1 : outD W σ 0 ds = ds') : gOf N W c ds = some (.non, ds') := by
  unfold gOf
  rw [h0, h, ← h1]
  rfl
theorem dr_turn {s0 o7 o8 : Option D} {t m : D} {cs ls fs : List Int} (hl : cs.length = ls.length) (h0 : 0 < cs.length) (hcs : cs.length ≤ 100) (k : Nat) (hk : k < 1000) (hf : fs.length ≤ 900) (hb : Bd fs) :
    ∃ (ls' : List Int) (z : Int) (o7' o8' : Option D), drBody [s0, some t, some m, some (.lst false (cs.map D.int)), some (.lst true (ls.map D.int)), some (.lst true (fs.map D.int)), some (.int k), o7, o8] =
      some (.nx [s0, some t, some m, some (.lst false (cs.map D.int)), some (.lst true (ls'.map D.int)), some (.lst true ((fs ++ [z]).map D.int)), some (.int k), o7', o8']) ∧ ls'.length = ls.length ∧ 0 ≤ z ∧ z < 2147483648 := by
  obtain ⟨j, hj, hjl⟩ : ∃ j : Nat, (k : Int) % (cs.length : Int) = (j : Int) ∧ j < cs.length := ⟨k % cs.length, by simp, Nat.mod_lt _ h0⟩
  obtain ⟨v, hv, hv0, hv1⟩ := mix_eq cs[j] k (by omega) (by omega)
  have hjl' : j < ls.length := by omega
  have m1 : mulC v v = true := by simp only [mulC, decide_eq_true_eq]; omega
  have m2 : mulC 7 (k : Int) = true := by simp only [mulC, decide_eq_true_eq]; omega
  have d0 : decide ((0 : Int) < (cs.length : Int)) = true := by simp; omega
  have d1 : decide ((0 : Int) < 2147483587) = true := by decide
  have d3 : ∀ q, fdvC q 2147483587 = true := fun q => by unfold fdvC; decide +kernel
  have a1 := at_int hjl
  have a2 := at_int hjl'
  have i1 : ixN ls.length (j : Int) = some j := ix_int hjl'
  have sz : fs.length < sizeLine := size_ok (by omega)
  obtain ⟨E, hE⟩ := pow_ev
  have z1 : ∀ q : Int, q % 2147483587 < 2147483648 := fun q => Int.lt_trans (Int.emod_lt_of_pos q (by decide)) (by decide)
  have z0 : ∀ q : Int, 0 ≤ q % 2147483587 := fun q => Int.emod_nonneg q (by decide)
  have e1 : (sSet 7 (dS (pOp gMod (pV 6) (pCall lenD [(pV 3)])))) [s0, some t, some m, some (.lst false (cs.map D.int)), some (.lst true (ls.map D.int)), some (.lst true (fs.map D.int)), some (.int k), o7, o8] =
      some (.nx [s0, some t, some m, some (.lst false (cs.map D.int)), some (.lst true (ls.map D.int)), some (.lst true (fs.map D.int)), some (.int k), some (.int j), o8]) := by
    simp only [inD, outD, sSeq, sIf, sSet, sRet, sRetN, sDrop, sSkip, sAsg, dTest, tAndD, tOrD, tNotD, dS, pOp, pV, pC, pNeg, gNeg, dget, pLst, evB, dOp, dCall, evM, fillM, backM, gI0, gI, gB0, gNm, gTupD, gConsD, gNilD, aNil, aCons, dLst, dTup, dCallB, pCall, D.sc, D.fz, D.fzL, dCp, dMv, dIx, ixD, intD, lenD, dAndV, dOrV, dNotV, Option.bind_some, Option.map_some, Option.bind_none, Option.map_none, Option.getD_some, Option.getD_none, List.map_cons, List.map_nil, List.length_cons, List.length_nil, List.replicate_zero, List.replicate_succ, List.append_nil, List.nil_append, List.cons_append, List.getElem?_cons_zero, List.getElem?_cons_succ, List.set_cons_zero, List.set_cons_succ, List.not_mem_nil, List.mem_cons, or_false, false_or, Nat.sub_self, Nat.zero_add, Nat.reduceAdd, Nat.reduceSub, Nat.reduceEqDiff, Nat.reduceLT, Nat.reduceLeDiff, Nat.zero_le, if_true, if_false, ite_true, ite_false, reduceIte, Bool.false_eq_true, Bool.true_eq_false, reduceCtorEq, Bool.not_true, Bool.not_false, List.length_map, d0, hj]
  have e2 : ∀ o8, (sSet 8 (dCall g__law_mix [.ex (dS (pOp ixD (pV 3) (pV 7))), .bo 6])) [s0, some t, some m, some (.lst false (cs.map D.int)), some (.lst true (ls.map D.int)), some (.lst true (fs.map D.int)), some (.int k), some (.int j), o8] =
      some (.nx [s0, some t, some m, some (.lst false (cs.map D.int)), some (.lst true (ls.map D.int)), some (.lst true (fs.map D.int)), some (.int k), some (.int j), some (.int v)]) := fun o8 => by
    exact e2x a1 hv
  have e3 : (sSet 8 (dS (pOp gMod (pOp gAdd (pOp gMul (pV 8) (pV 8)) (pOp gMul (pC (.int 7)) (pV 6))) (pC (.int 2147483587))))) [s0, some t, some m, some (.lst false (cs.map D.int)), some (.lst true (ls.map D.int)), some (.lst true (fs.map D.int)), some (.int k), some (.int j), some (.int v)] =
      some (.nx [s0, some t, some m, some (.lst false (cs.map D.int)), some (.lst true (ls.map D.int)), some (.lst true (fs.map D.int)), some (.int k), some (.int j), some (.int ((v * v + 7 * k) % 2147483587))]) := by
    simp only [inD, outD, sSeq, sIf, sSet, sRet, sRetN, sDrop, sSkip, sAsg, dTest, tAndD, tOrD, tNotD, dS, pOp, pV, pC, pNeg, gNeg, dget, pLst, evB, dOp, dCall, evM, fillM, backM, gI0, gI, gB0, gNm, gTupD, gConsD, gNilD, aNil, aCons, dLst, dTup, dCallB, pCall, D.sc, D.fz, D.fzL, dCp, dMv, dIx, ixD, intD, lenD, dAndV, dOrV, dNotV, Option.bind_some, Option.map_some, Option.bind_none, Option.map_none, Option.getD_some, Option.getD_none, List.map_cons, List.map_nil, List.length_cons, List.length_nil, List.replicate_zero, List.replicate_succ, List.append_nil, List.nil_append, List.cons_append, List.getElem?_cons_zero, List.getElem?_cons_succ, List.set_cons_zero, List.set_cons_succ, List.not_mem_nil, List.mem_cons, or_false, false_or, Nat.sub_self, Nat.zero_add, Nat.reduceAdd, Nat.reduceSub, Nat.reduceEqDiff, Nat.reduceLT, Nat.reduceLeDiff, Nat.zero_le, if_true, if_false, ite_true, ite_false, reduceIte, Bool.false_eq_true, Bool.true_eq_false, reduceCtorEq, Bool.not_true, Bool.not_false, m1, m2, d1]
  have hw0 := z0 (v * v + 7 * k)
  have hw1 := z1 (v * v + 7 * k)
  generalize (v * v + 7 * (k : Int)) % 2147483587 = w at e3 hw0 hw1
  have e5 : ∀ (ls' : List Int) w, (sDrop (dApp 5 [] (pV 8))) [s0, some t, some m, some (.lst false (cs.map D.int)), some (.lst true (ls'.map D.int)), some (.lst true (fs.map D.int)), some (.int k), some (.int j), some (.int w)] =
      some (.nx [s0, some t, some m, some (.lst false (cs.map D.int)), some (.lst true (ls'.map D.int)), some (.lst true ((fs ++ [w]).map D.int)), some (.int k), some (.int j), some (.int w)]) := fun ls' w => by
    simp only [inD, outD, sSeq, sIf, sSet, sRet, sRetN, sDrop, sSkip, sAsg, dTest, tAndD, tOrD, tNotD, dS, pOp, pV, pC, pNeg, gNeg, dget, pLst, evB, dOp, dCall, evM, fillM, backM, gI0, gI, gB0, gNm, gTupD, gConsD, gNilD, aNil, aCons, dLst, dTup, dCallB, pCall, D.sc, D.fz, D.fzL, dCp, dMv, dIx, ixD, intD, lenD, dAndV, dOrV, dNotV, Option.bind_some, Option.map_some, Option.bind_none, Option.map_none, Option.getD_some, Option.getD_none, List.map_cons, List.map_nil, List.length_cons, List.length_nil, List.replicate_zero, List.replicate_succ, List.append_nil, List.nil_append, List.cons_append, List.getElem?_cons_zero, List.getElem?_cons_succ, List.set_cons_zero, List.set_cons_succ, List.not_mem_nil, List.mem_cons, or_false, false_or, Nat.sub_self, Nat.zero_add, Nat.reduceAdd, Nat.reduceSub, Nat.reduceEqDiff, Nat.reduceLT, Nat.reduceLeDiff, Nat.zero_le, if_true, if_false, ite_true, ite_false, reduceIte, Bool.false_eq_true, Bool.true_eq_false, reduceCtorEq, Bool.not_true, Bool.not_false, evI, getP, setP, dApp, List.length_map, sz, List.map_append]
  have e4 : ∃ (ls' : List Int) (w' : Int), (sIf (tAndD (dTest (dOp gGe (dS (pOp ixD (pV 3) (pV 7))) (dS (pOp gPow (pC (.int 10)) (pC (.int 18)))))) (dTest (dOp gGt (dS (pOp ixD (pV 4) (pV 7))) (dS (pC (.int 0)))))) (sSeq (sSet 8 (dS (pOp gMod (pOp ixD (pV 4) (pV 7)) (pC (.int 2147483587)))))
      (sAsg (dS (pOp gFdv (pOp ixD (pV 4) (pV 7)) (pC (.int 2147483587)))) (gSet 4 [] (pV 7)))) sSkip) [s0, some t, some m, some (.lst false (cs.map D.int)), some (.lst true (ls.map D.int)), some (.lst true (fs.map D.int)), some (.int k), some (.int j), some (.int w)] =
      some (.nx [s0, some t, some m, some (.lst false (cs.map D.int)), some (.lst true (ls'.map D.int)), some (.lst true (fs.map D.int)), some (.int k), some (.int j), some (.int w')]) ∧ ls'.length = ls.length ∧ 0 ≤ w' ∧ w' < 2147483648 := by
    by_cases hc1 : E ≤ cs[j]
    · by_cases hc2 : 0 < ls[j]
      · refine ⟨ls.set j (ls[j] / 2147483587), ls[j] % 2147483587, ?_, by simp, z0 _, z1 _⟩
        simp only [inD, outD, sSeq, sIf, sSet, sRet, sRetN, sDrop, sSkip, sAsg, dTest, tAndD, tOrD, tNotD, dS, pOp, pV, pC, pNeg, gNeg, dget, pLst, evB, dOp, dCall, evM, fillM, backM, gI0, gI, gB0, gNm, gTupD, gConsD, gNilD, aNil, aCons, dLst, dTup, dCallB, pCall, D.sc, D.fz, D.fzL, dCp, dMv, dIx, ixD, intD, lenD, dAndV, dOrV, dNotV, Option.bind_some, Option.map_some, Option.bind_none, Option.map_none, Option.getD_some, Option.getD_none, List.map_cons, List.map_nil, List.length_cons, List.length_nil, List.replicate_zero, List.replicate_succ, List.append_nil, List.nil_append, List.cons_append, List.getElem?_cons_zero, List.getElem?_cons_succ, List.set_cons_zero, List.set_cons_succ, List.not_mem_nil, List.mem_cons, or_false, false_or, Nat.sub_self, Nat.zero_add, Nat.reduceAdd, Nat.reduceSub, Nat.reduceEqDiff, Nat.reduceLT, Nat.reduceLeDiff, Nat.zero_le, if_true, if_false, ite_true, ite_false, reduceIte, Bool.false_eq_true, Bool.true_eq_false, reduceCtorEq, Bool.not_true, Bool.not_false, a1, d1, ↓hE, hc1, a2, hc2, decide_true, d3, gSet, evI, getP, List.length_map, i1, setP, List.map_set]
      · refine ⟨ls, w, ?_, rfl, hw0, hw1⟩
        simp only [inD, outD, sSeq, sIf, sSet, sRet, sRetN, sDrop, sSkip, sAsg, dTest, tAndD, tOrD, tNotD, dS, pOp, pV, pC, pNeg, gNeg, dget, pLst, evB, dOp, dCall, evM, fillM, backM, gI0, gI, gB0, gNm, gTupD, gConsD, gNilD, aNil, aCons, dLst, dTup, dCallB, pCall, D.sc, D.fz, D.fzL, dCp, dMv, dIx, ixD, intD, lenD, dAndV, dOrV, dNotV, Option.bind_some, Option.map_some, Option.bind_none, Option.map_none, Option.getD_some, Option.getD_none, List.map_cons, List.map_nil, List.length_cons, List.length_nil, List.replicate_zero, List.replicate_succ, List.append_nil, List.nil_append, List.cons_append, List.getElem?_cons_zero, List.getElem?_cons_succ, List.set_cons_zero, List.set_cons_succ, List.not_mem_nil, List.mem_cons, or_false, false_or, Nat.sub_self, Nat.zero_add, Nat.reduceAdd, Nat.reduceSub, Nat.reduceEqDiff, Nat.reduceLT, Nat.reduceLeDiff, Nat.zero_le, if_true, if_false, ite_true, ite_false, reduceIte, Bool.false_eq_true, Bool.true_eq_false, reduceCtorEq, Bool.not_true, Bool.not_false, a1, ↓hE, hc1, a2, hc2, decide_true, decide_false]
    · refine ⟨ls, w, ?_, rfl, hw0, hw1⟩
      simp only [inD, outD, sSeq, sIf, sSet, sRet, sRetN, sDrop, sSkip, sAsg, dTest, tAndD, tOrD, tNotD, dS, pOp, pV, pC, pNeg, gNeg, dget, pLst, evB, dOp, dCall, evM, fillM, backM, gI0, gI, gB0, gNm, gTupD, gConsD, gNilD, aNil, aCons, dLst, dTup, dCallB, pCall, D.sc, D.fz, D.fzL, dCp, dMv, dIx, ixD, intD, lenD, dAndV, dOrV, dNotV, Option.bind_some, Option.map_some, Option.bind_none, Option.map_none, Option.getD_some, Option.getD_none, List.map_cons, List.map_nil, List.length_cons, List.length_nil, List.replicate_zero, List.replicate_succ, List.append_nil, List.nil_append, List.cons_append, List.getElem?_cons_zero, List.getElem?_cons_succ, List.set_cons_zero, List.set_cons_succ, List.not_mem_nil, List.mem_cons, or_false, false_or, Nat.sub_self, Nat.zero_add, Nat.reduceAdd, Nat.reduceSub, Nat.reduceEqDiff, Nat.reduceLT, Nat.reduceLeDiff, Nat.zero_le, if_true, if_false, ite_true, ite_false, reduceIte, Bool.false_eq_true, Bool.true_eq_false, reduceCtorEq, Bool.not_true, Bool.not_false, a1, ↓hE, hc1, a2, decide_true, decide_false]
  obtain ⟨ls', w', e4, hl', h0', h1'⟩ := e4
  refine ⟨ls', w', some (.int j), some (.int w'), ?_, hl', h0', h1'⟩
  unfold drBody
  rw [seq_nx e1, seq_nx (e2 _), seq_nx e3, seq_nx e4]
  exact e5 _ _
theorem dr_loop {s0 : Option D} {t m : D} {cs : List Int} (h0 : 0 < cs.length) (hcs : cs.length ≤ 100) : ∀ (ks : List Nat) (ls fs : List Int) (o6 o7 o8 : Option D), cs.length = ls.length → (∀ k ∈ ks, k < 1000) → fs.length + ks.length ≤ 900 → Bd fs →
    ∃ (ls' fs' : List Int) (o6' o7' o8' : Option D), dLoop (gNm 6) drBody (ks.map fun k => D.int ((0 : Int) + (k : Nat))) [s0, some t, some m, some (.lst false (cs.map D.int)), some (.lst true (ls.map D.int)), some (.lst true (fs.map D.int)), o6, o7, o8] =
      some (.nx [s0, some t, some m, some (.lst false (cs.map D.int)), some (.lst true (ls'.map D.int)), some (.lst true (fs'.map D.int)), o6', o7', o8']) ∧ Bd fs' ∧ fs'.length = fs.length + ks.length
  | [], ls, fs, o6, o7, o8, _, _, _, hb => ⟨ls, fs, o6, o7, o8, rfl, hb, rfl⟩
  | k :: ks, ls, fs, o6, o7, o8, hl, hk, hf, hb => by
    obtain ⟨ls1, z, p7, p8, e1, hl1, hz0, hz1⟩ := dr_turn (s0 := s0) (t := t) (m := m) (o7 := o7) (o8 := o8) hl h0 hcs k (hk k (by simp)) (by simp at hf; omega) hb
    have hb1 : Bd (fs ++ [z]) := fun q hq => by
      rcases List.mem_append.mp hq with h | h
      · exact hb q h
      · rw [List.mem_singleton.mp h]; exact ⟨hz0, hz1⟩
    obtain ⟨ls', fs', q6, q7, q8, e2, hb2, hlen⟩ := dr_loop h0 hcs ks ls1 (fs ++ [z]) (some (.int k)) p7 p8 (by omega) (fun q hq => hk q (by simp [hq])) (by simp at hf ⊢; omega) hb1
    refine ⟨ls', fs', q6, q7, q8, ?_, hb2, by simp at hlen ⊢; omega⟩
    simp only [List.map_cons, dLoop, gNm, List.length_cons, List.length_nil, Nat.reduceAdd, Nat.reduceLT, if_true, Option.bind_some, List.set_cons_zero, List.set_cons_succ, Int.zero_add, e1]
    simp only [Int.zero_add] at e2
    exact e2
theorem draws_eq (ns : List Int) (hn : ns.length ≤ 63) : ∃ ms : List Int, Bd ms ∧ g__law_draws [.lst false (ns.map D.int), .int 1, .int 120] = some (.lst true (ms.map D.int), [.lst false (ns.map D.int), .int 1, .int 120]) := by
  have hcut : cutG (ns.map D.int) none (some 63) = ns.map D.int := by
    unfold cutG
    have h1 : HT.sIx (ns.map D.int).length 0 none = 0 := rfl
    have h2 : HT.sIx (ns.map D.int).length (ns.map D.int).length (some 63) = ns.length := by
      have := HT.sIx_nat (ns.map D.int).length (ns.map D.int).length 63
      simp at this ⊢
      rw [this]; omega
    rw [h1, h2, List.drop_zero]
    exact List.take_of_length_le (by simp)
  have sz0 : 1 ≤ sizeLine := Nat.le_of_lt (size_ok (by decide))
  have sz1 : ns.length + 1 ≤ sizeLine := Nat.le_of_lt (size_ok (by omega))
  let cs := ns ++ [(1 : Int)]
  have hcat : ns.map D.int ++ [D.int 1] = cs.map D.int := by simp [cs]
  have hcl : cs.length = ns.length + 1 := by simp [cs]
  have szc : cs.length ≤ sizeLine := by omega
  have d3 : ∀ q, fdvC q 100000 = true := fun q => by unfold fdvC; decide +kernel
  obtain ⟨o', hlc⟩ := lc_ints (σ := [some (.lst false (ns.map D.int)), some (.int 1), some (.int 120), some (.lst false (cs.map D.int)), none, none, none, none, none]) (c := dS (pOp gFdv (pV 9) (pC (.int 100000)))) (f := fun q => q / 100000) (k := 9) rfl
    (fun i => by simp only [inD, outD, sSeq, sIf, sSet, sRet, sRetN, sDrop, sSkip, sAsg, dTest, tAndD, tOrD, tNotD, dS, pOp, pV, pC, pNeg, gNeg, dget, pLst, evB, dOp, dCall, evM, fillM, backM, gI0, gI, gB0, gNm, gTupD, gConsD, gNilD, aNil, aCons, dLst, dTup, dCallB, pCall, D.sc, D.fz, D.fzL, dCp, dMv, dIx, ixD, intD, lenD, dAndV, dOrV, dNotV, Option.bind_some, Option.map_some, Option.bind_none, Option.map_none, Option.getD_some, Option.getD_none, List.map_cons, List.map_nil, List.length_cons, List.length_nil, List.replicate_zero, List.replicate_succ, List.append_nil, List.nil_append, List.cons_append, List.getElem?_cons_zero, List.getElem?_cons_succ, List.set_cons_zero, List.set_cons_succ, List.not_mem_nil, List.mem_cons, or_false, false_or, Nat.sub_self, Nat.zero_add, Nat.reduceAdd, Nat.reduceSub, Nat.reduceEqDiff, Nat.reduceLT, Nat.reduceLeDiff, Nat.zero_le, if_true, if_false, ite_true, ite_false, reduceIte, Bool.false_eq_true, Bool.true_eq_false, reduceCtorEq, Bool.not_true, Bool.not_false, d3]) cs none
  obtain ⟨ls', fs', q6, q7, q8, e2, hb2, hlen⟩ := dr_loop (s0 := some (.lst false (ns.map D.int))) (t := .int 1) (m := .int 120) (cs := cs) (by omega) (by omega) (List.range 121) (cs.map fun q => q / 100000) [] none none none (by simp) (fun k hk => by have := List.mem_range.mp hk; omega) (by simp) (by intro q hq; cases hq)
  refine ⟨fs'.drop 1, fun q hq => hb2 q (List.mem_of_mem_drop hq), ?_⟩
  have hcut2 : cutG (fs'.map D.int) (some 1) none = (fs'.drop 1).map D.int := by
    unfold cutG
    have h1 : HT.sIx (fs'.map D.int).length 0 (some 1) = 1 := by
      have := HT.sIx_nat (fs'.map D.int).length 0 1
      simp at this ⊢
      rw [this]; simp at hlen; omega
    have h2 : HT.sIx (fs'.map D.int).length (fs'.map D.int).length none = fs'.length := by simp [HT.sIx]
    rw [h1, h2, List.map_drop]
    exact List.take_of_length_le (by simp)
  have r1 : rOk 121 = true := by decide
  have rg : rngD 0 121 = (List.range 121).map fun k => D.int ((0 : Int) + (k : Nat)) := rfl
  have a121 : (1 : Int) + 120 = 121 := rfl
  have b1 : sSet 3 (dCat (dSl (dCp 0) none (some (pC (.int 63)))) (dLst (aCons (dS (pV 1)) aNil))) [some (.lst false (ns.map D.int)), some (.int 1), some (.int 120), none, none, none, none, none, none] =
      some (.nx [some (.lst false (ns.map D.int)), some (.int 1), some (.int 120), some (.lst true (cs.map D.int)), none, none, none, none, none]) := by
    simp only [inD, outD, sSeq, sIf, sSet, sRet, sRetN, sDrop, sSkip, sAsg, dTest, tAndD, tOrD, tNotD, dS, pOp, pV, pC, pNeg, gNeg, dget, pLst, evB, dOp, dCall, evM, fillM, backM, gI0, gI, gB0, gNm, gTupD, gConsD, gNilD, aNil, aCons, dLst, dTup, dCallB, pCall, D.sc, D.fz, D.fzL, dCp, dMv, dIx, ixD, intD, lenD, dAndV, dOrV, dNotV, Option.bind_some, Option.map_some, Option.bind_none, Option.map_none, Option.getD_some, Option.getD_none, List.map_cons, List.map_nil, List.length_cons, List.length_nil, List.replicate_zero, List.replicate_succ, List.append_nil, List.nil_append, List.cons_append, List.getElem?_cons_zero, List.getElem?_cons_succ, List.set_cons_zero, List.set_cons_succ, List.not_mem_nil, List.mem_cons, or_false, false_or, Nat.sub_self, Nat.zero_add, Nat.reduceAdd, Nat.reduceSub, Nat.reduceEqDiff, Nat.reduceLT, Nat.reduceLeDiff, Nat.zero_le, if_true, if_false, ite_true, ite_false, reduceIte, Bool.false_eq_true, Bool.true_eq_false, reduceCtorEq, Bool.not_true, Bool.not_false, fz_ints, dSl, evO, hcut, dCat, List.length_map, sz0, sz1, hcat]
  have b2 : sSet 4 (dLc 1 (iLst (dCp 3)) (gNm 9) tTrue (dS (pOp gFdv (pV 9) (pC (.int 100000))))) [some (.lst false (ns.map D.int)), some (.int 1), some (.int 120), some (.lst true (cs.map D.int)), none, none, none, none, none] =
      some (.nx [some (.lst false (ns.map D.int)), some (.int 1), some (.int 120), some (.lst false (cs.map D.int)), some (.lst true ((cs.map fun q => q / 100000).map D.int)), none, none, none, none]) := by
    have hi : iLst (dCp 3) [some (.lst false (ns.map D.int)), some (.int 1), some (.int 120), some (.lst true (cs.map D.int)), none, none, none, none, none] = some (cs.map D.int, [some (.lst false (ns.map D.int)), some (.int 1), some (.int 120), some (.lst false (cs.map D.int)), none, none, none, none, none]) := by
      simp only [inD, outD, sSeq, sIf, sSet, sRet, sRetN, sDrop, sSkip, sAsg, dTest, tAndD, tOrD, tNotD, dS, pOp, pV, pC, pNeg, gNeg, dget, pLst, evB, dOp, dCall, evM, fillM, backM, gI0, gI, gB0, gNm, gTupD, gConsD, gNilD, aNil, aCons, dLst, dTup, dCallB, pCall, D.sc, D.fz, D.fzL, dCp, dMv, dIx, ixD, intD, lenD, dAndV, dOrV, dNotV, Option.bind_some, Option.map_some, Option.bind_none, Option.map_none, Option.getD_some, Option.getD_none, List.map_cons, List.map_nil, List.length_cons, List.length_nil, List.replicate_zero, List.replicate_succ, List.append_nil, List.nil_append, List.cons_append, List.getElem?_cons_zero, List.getElem?_cons_succ, List.set_cons_zero, List.set_cons_succ, List.not_mem_nil, List.mem_cons, or_false, false_or, Nat.sub_self, Nat.zero_add, Nat.reduceAdd, Nat.reduceSub, Nat.reduceEqDiff, Nat.reduceLT, Nat.reduceLeDiff, Nat.zero_le, if_true, if_false, ite_true, ite_false, reduceIte, Bool.false_eq_true, Bool.true_eq_false, reduceCtorEq, Bool.not_true, Bool.not_false, fz_ints, iLst]
    have hd : dLc 1 (iLst (dCp 3)) (gNm 9) tTrue (dS (pOp gFdv (pV 9) (pC (.int 100000)))) [some (.lst false (ns.map D.int)), some (.int 1), some (.int 120), some (.lst true (cs.map D.int)), none, none, none, none, none] = some (.lst true ((cs.map fun q => q / 100000).map D.int), [some (.lst false (ns.map D.int)), some (.int 1), some (.int 120), some (.lst false (cs.map D.int)), none, none, none, none, none]) := by
      simp only [dLc, hi, Option.bind_some, List.length_map, szc, if_true, List.replicate_succ, List.replicate_zero, hlc, Option.map_some]
      simp
    simp only [sSet, hd, Option.bind_some]
    rfl
  have b3 : sSet 5 (dLst aNil) [some (.lst false (ns.map D.int)), some (.int 1), some (.int 120), some (.lst false (cs.map D.int)), some (.lst true ((cs.map fun q => q / 100000).map D.int)), none, none, none, none] =
    some (.nx [some (.lst false (ns.map D.int)), some (.int 1), some (.int 120), some (.lst false (cs.map D.int)), some (.lst true ((cs.map fun q => q / 100000).map D.int)), some (.lst true []), none, none, none]) := by
    simp only [inD, outD, sSeq, sIf, sSet, sRet, sRetN, sDrop, sSkip, sAsg, dTest, tAndD, tOrD, tNotD, dS, pOp, pV, pC, pNeg, gNeg, dget, pLst, evB, dOp, dCall, evM, fillM, backM, gI0, gI, gB0, gNm, gTupD, gConsD, gNilD, aNil, aCons, dLst, dTup, dCallB, pCall, D.sc, D.fz, D.fzL, dCp, dMv, dIx, ixD, intD, lenD, dAndV, dOrV, dNotV, Option.bind_some, Option.map_some, Option.bind_none, Option.map_none, Option.getD_some, Option.getD_none, List.map_cons, List.map_nil, List.length_cons, List.length_nil, List.replicate_zero, List.replicate_succ, List.append_nil, List.nil_append, List.cons_append, List.getElem?_cons_zero, List.getElem?_cons_succ, List.set_cons_zero, List.set_cons_succ, List.not_mem_nil, List.mem_cons, or_false, false_or, Nat.sub_self, Nat.zero_add, Nat.reduceAdd, Nat.reduceSub, Nat.reduceEqDiff, Nat.reduceLT, Nat.reduceLeDiff, Nat.zero_le, if_true, if_false, ite_true, ite_false, reduceIte, Bool.false_eq_true, Bool.true_eq_false, reduceCtorEq, Bool.not_true, Bool.not_false]
  have b4 : sForI (iR1 (aCons (dS (pOp gAdd (pV 1) (pV 2))) aNil)) (gNm 6) drBody [some (.lst false (ns.map D.int)), some (.int 1), some (.int 120), some (.lst false (cs.map D.int)), some (.lst true ((cs.map fun q => q / 100000).map D.int)), some (.lst true []), none, none, none] = some (.nx [some (.lst false (ns.map D.int)), some (.int 1), some (.int 120), some (.lst false (cs.map D.int)), some (.lst true (ls'.map D.int)), some (.lst true (fs'.map D.int)), q6, q7, q8]) := by
    simp only [inD, outD, sSeq, sIf, sSet, sRet, sRetN, sDrop, sSkip, sAsg, dTest, tAndD, tOrD, tNotD, dS, pOp, pV, pC, pNeg, gNeg, dget, pLst, evB, dOp, dCall, evM, fillM, backM, gI0, gI, gB0, gNm, gTupD, gConsD, gNilD, aNil, aCons, dLst, dTup, dCallB, pCall, D.sc, D.fz, D.fzL, dCp, dMv, dIx, ixD, intD, lenD, dAndV, dOrV, dNotV, Option.bind_some, Option.map_some, Option.bind_none, Option.map_none, Option.getD_some, Option.getD_none, List.map_cons, List.map_nil, List.length_cons, List.length_nil, List.replicate_zero, List.replicate_succ, List.append_nil, List.nil_append, List.cons_append, List.getElem?_cons_zero, List.getElem?_cons_succ, List.set_cons_zero, List.set_cons_succ, List.not_mem_nil, List.mem_cons, or_false, false_or, Nat.sub_self, Nat.zero_add, Nat.reduceAdd, Nat.reduceSub, Nat.reduceEqDiff, Nat.reduceLT, Nat.reduceLeDiff, Nat.zero_le, if_true, if_false, ite_true, ite_false, reduceIte, Bool.false_eq_true, Bool.true_eq_false, reduceCtorEq, Bool.not_true, Bool.not_false, sForI, iR1, a121, r1]
    exact e2
  have b5 : sRet (dSl (dCp 5) (some (pV 1)) none) [some (.lst false (ns.map D.int)), some (.int 1), some (.int 120), some (.lst false (cs.map D.int)), some (.lst true (ls'.map D.int)), some (.lst true (fs'.map D.int)), q6, q7, q8] =
     some (.rt (.lst true ((fs'.drop 1).map D.int)) [some (.lst false (ns.map D.int)), some (.int 1), some (.int 120), some (.lst false (cs.map D.int)), some (.lst true (ls'.map D.int)), some (.lst false (fs'.map D.int)), q6, q7, q8]) := by
    simp only [inD, outD, sSeq, sIf, sSet, sRet, sRetN, sDrop, sSkip, sAsg, dTest, tAndD, tOrD, tNotD, dS, pOp, pV, pC, pNeg, gNeg, dget, pLst, evB, dOp, dCall, evM, fillM, backM, gI0, gI, gB0, gNm, gTupD, gConsD, gNilD, aNil, aCons, dLst, dTup, dCallB, pCall, D.sc, D.fz, D.fzL, dCp, dMv, dIx, ixD, intD, lenD, dAndV, dOrV, dNotV, Option.bind_some, Option.map_some, Option.bind_none, Option.map_none, Option.getD_some, Option.getD_none, List.map_cons, List.map_nil, List.length_cons, List.length_nil, List.replicate_zero, List.replicate_succ, List.append_nil, List.nil_append, List.cons_append, List.getElem?_cons_zero, List.getElem?_cons_succ, List.set_cons_zero, List.set_cons_succ, List.not_mem_nil, List.mem_cons, or_false, false_or, Nat.sub_self, Nat.zero_add, Nat.reduceAdd, Nat.reduceSub, Nat.reduceEqDiff, Nat.reduceLT, Nat.reduceLeDiff, Nat.zero_le, if_true, if_false, ite_true, ite_false, reduceIte, Bool.false_eq_true, Bool.true_eq_false, reduceCtorEq, Bool.not_true, Bool.not_false, fz_ints, dSl, evO, hcut2]
  have hc : c__law_draws [some (.lst false (ns.map D.int)), some (.int 1), some (.int 120), none, none, none, none, none, none] = some (.rt (.lst true ((fs'.drop 1).map D.int)) [some (.lst false (ns.map D.int)), some (.int 1), some (.int 120), some (.lst false (cs.map D.int)), some (.lst true (ls'.map D.int)), some (.lst false (fs'.map D.int)), q6, q7, q8]) := by
    unfold c__law_draws
    unfold drBody at b4
    rw [seq_nx b1, seq_nx b2, seq_nx b3, seq_nx b4]
    exact b5
  exact gOf_rt rfl hc rfl
end LW
namespace LW
open DD PySem L2
def rowF (G : Nat) (f : Nat → Int) : List Int := (List.range G).map f
theorem rowF_len {G : Nat} {f : Nat → Int} : (rowF G f).length = G := by simp [rowF]
theorem rowF_get {G : Nat} {f : Nat → Int} {j : Nat} (h : j < G) : ((rowF G f).map D.int)[j]? = some (.int (f j)) := by simp [rowF, h]
theorem rowF_set {G : Nat} {f : Nat → Int} {j : Nat} {x : Int} : ((rowF G f).map D.int).set j (.int x) = (rowF G fun k => if k = j then x else f k).map D.int := by
  apply List.ext_getElem?
  intro i
  simp only [rowF, List.getElem?_set, List.getElem?_map, List.length_map, List.length_range, List.getElem?_range']
  by_cases h : j = i
  · subst h
    by_cases h2 : j < G
    · simp [h2]
    · simp [h2]
  · by_cases h2 : i < G
    · simp [h, h2, Ne.symm h]
    · simp [h, h2]
theorem rowF_congr {G : Nat} {f g : Nat → Int} (h : ∀ k, f k = g k) : rowF G f = rowF G g := by
  have : f = g := funext h
  rw [this]
def add1 (f : Nat → Int) (g v : Int) : Nat → Int := fun k => f k + (if g = (k : Int) + 1 then v else 0)
def tm (p : Int × Int) : D := .tup [.int p.1, .int p.2]
def rtBody : DS := (sIf (dTest (dOp gNe (dS (pV 3)) (dS (pC (.int 0))))) (sAugIx gAdd 2 [] (pOp gSub (pV 3) (pC (.int 1))) (pV 4)) sSkip)
theorem rt_turn {N T : Option D} {G : Nat} {f : Nat → Int} {g v : Int} (h0 : 0 ≤ g) (h1 : g ≤ G) :
    rtBody [N, T, some (.lst true ((rowF G f).map D.int)), some (.int g), some (.int v)] = some (.nx [N, T, some (.lst true ((rowF G (add1 f g v)).map D.int)), some (.int g), some (.int v)]) := by
  by_cases hg : g = 0
  · subst hg
    have hf : rowF G (add1 f 0 v) = rowF G f := rowF_congr fun k => by
      unfold add1
      rw [if_neg (by omega)]; omega
    have hn : (!((0 : Int) == 0)) = false := by decide
    simp only [rtBody, inD, outD, sSeq, sIf, sSet, sRet, sRetN, sDrop, sSkip, sAsg, dTest, tAndD, tOrD, tNotD, dS, pOp, pV, pC, pNeg, gNeg, dget, pLst, evB, dOp, dCall, evM, fillM, backM, gI0, gI, gB0, gNm, gTupD, gConsD, gNilD, aNil, aCons, dLst, dTup, dCallB, pCall, D.sc, D.fz, D.fzL, dCp, dMv, dIx, ixD, intD, lenD, dAndV, dOrV, dNotV, Option.bind_some, Option.map_some, Option.bind_none, Option.map_none, Option.getD_some, Option.getD_none, List.map_cons, List.map_nil, List.length_cons, List.length_nil, List.replicate_zero, List.replicate_succ, List.append_nil, List.nil_append, List.cons_append, List.getElem?_cons_zero, List.getElem?_cons_succ, List.set_cons_zero, List.set_cons_succ, List.not_mem_nil, List.mem_cons, or_false, false_or, Nat.sub_self, Nat.zero_add, Nat.reduceAdd, Nat.reduceSub, Nat.reduceEqDiff, Nat.reduceLT, Nat.reduceLeDiff, Nat.zero_le, if_true, if_false, ite_true, ite_false, reduceIte, Bool.false_eq_true, Bool.true_eq_false, reduceCtorEq, Bool.not_true, Bool.not_false, gNe_int, hn, hf]
  · have hn : (!(g == 0)) = true := by simp [hg]
    obtain ⟨j, hj⟩ : ∃ j : Nat, g - 1 = (j : Int) := ⟨(g - 1).toNat, by omega⟩
    have hjG : j < G := by omega
    have hx : ixN ((rowF G f).map D.int).length (j : Int) = some j := ix_int (by rw [List.length_map, rowF_len]; exact hjG)
    have hf : rowF G (add1 f g v) = rowF G fun k => if k = j then f j + v else f k := rowF_congr fun k => by
      unfold add1
      by_cases h : k = j
      · subst h; rw [if_pos (by omega), if_pos rfl]
      · rw [if_neg (by omega), if_neg h]; omega
    simp only [rtBody, inD, outD, sSeq, sIf, sSet, sRet, sRetN, sDrop, sSkip, sAsg, dTest, tAndD, tOrD, tNotD, dS, pOp, pV, pC, pNeg, gNeg, dget, pLst, evB, dOp, dCall, evM, fillM, backM, gI0, gI, gB0, gNm, gTupD, gConsD, gNilD, aNil, aCons, dLst, dTup, dCallB, pCall, D.sc, D.fz, D.fzL, dCp, dMv, dIx, ixD, intD, lenD, dAndV, dOrV, dNotV, Option.bind_some, Option.map_some, Option.bind_none, Option.map_none, Option.getD_some, Option.getD_none, List.map_cons, List.map_nil, List.length_cons, List.length_nil, List.replicate_zero, List.replicate_succ, List.append_nil, List.nil_append, List.cons_append, List.getElem?_cons_zero, List.getElem?_cons_succ, List.set_cons_zero, List.set_cons_succ, List.not_mem_nil, List.mem_cons, or_false, false_or, Nat.sub_self, Nat.zero_add, Nat.reduceAdd, Nat.reduceSub, Nat.reduceEqDiff, Nat.reduceLT, Nat.reduceLeDiff, Nat.zero_le, if_true, if_false, ite_true, ite_false, reduceIte, Bool.false_eq_true, Bool.true_eq_false, reduceCtorEq, Bool.not_true, Bool.not_false, gNe_int, hn, sAugIx, evI, getP, hj, hx, rowF_get hjG, setP, rowF_set, hf]
theorem rt_loop {N T : Option D} {G : Nat} : ∀ (ts : List (Int × Int)) (f : Nat → Int) (o3 o4 : Option D), (∀ p ∈ ts, 0 ≤ p.1 ∧ p.1 ≤ G) → ∃ o3' o4', dLoop (gTupD 2 (gConsD (gNm 3) (gConsD (gNm 4) gNilD))) rtBody (ts.map tm) [N, T, some (.lst true ((rowF G f).map D.int)), o3, o4] =
      some (.nx [N, T, some (.lst true ((rowF G (ts.foldl (fun f p => add1 f p.1 p.2) f)).map D.int)), o3', o4'])
  | [], f, o3, o4, _ => ⟨o3, o4, rfl⟩
  | p :: ts, f, o3, o4, h => by
    obtain ⟨o3', o4', e⟩ := rt_loop (N := N) (T := T) ts (add1 f p.1 p.2) (some (.int p.1)) (some (.int p.2)) fun q hq => h q (by simp [hq])
    refine ⟨o3', o4', ?_⟩
    have ht := rt_turn (N := N) (T := T) (f := f) (v := p.2) (h p (by simp)).1 (h p (by simp)).2
    have hg : (gTupD 2 (gConsD (gNm 3) (gConsD (gNm 4) gNilD))) (tm p) [N, T, some (.lst true ((rowF G f).map D.int)), o3, o4] = some [N, T, some (.lst true ((rowF G f).map D.int)), some (.int p.1), some (.int p.2)] := rfl
    simp only [List.map_cons, dLoop, hg, Option.bind_some, ht, List.foldl_cons]
    exact e
/-- how many groups there are -/
def Cn (n : Int) (G : Nat) : Prop := (n = 1 ∧ G = 1) ∨ (n = 2 ∧ G = 3) ∨ (n = 3 ∧ G = 7) ∨ (n = 4 ∧ G = 15)
theorem all_eq {n : Int} {G : Nat} (h : Cn n G) : g_all_names [.int n] = some (.int G, [.int n]) := by
  rcases h with ⟨rfl, rfl⟩ | ⟨rfl, rfl⟩ | ⟨rfl, rfl⟩ | ⟨rfl, rfl⟩ <;> rfl
theorem fz_tm : ∀ ts : List (Int × Int), D.fzL (ts.map tm) = ts.map tm
  | [] => rfl
  | p :: ts => by simp only [List.map_cons, D.fzL, fz_tm ts]; rfl
theorem rep0 (G : Nat) : (List.replicate G [D.int 0]).flatten = (rowF G fun _ => 0).map D.int := by
  rw [List.flatten_replicate_singleton]
  exact (List.eq_replicate_iff.mpr ⟨by simp [rowF], by simp [rowF]⟩).symm
theorem Cn.le {n : Int} {G : Nat} (h : Cn n G) : 1 ≤ n ∧ n ≤ 4 ∧ 1 ≤ G ∧ G ≤ 15 := by rcases h with ⟨rfl, rfl⟩ | ⟨rfl, rfl⟩ | ⟨rfl, rfl⟩ | ⟨rfl, rfl⟩ <;> decide
theorem set_e {i : Nat} {c : DE} {σ σ' : DSt} {d : D} (h : c σ = some (d, σ')) (hi : i < σ'.length) : sSet i c σ = some (.nx (σ'.set i (some d))) := by simp only [sSet, h, Option.bind_some, hi, if_true]
theorem seq_e {a b : DS} {σ σ' : DSt} {r : Option Out} (h : a σ = some (.nx σ')) (k : b σ' = r) : sSeq a b σ = r := by rw [seq_nx h, k]
theorem call_b1 {g : GF} {σ : DSt} {i : Nat} {n : Int} {r : D} (h : dget σ i = some (.int n)) (hg : g [.int n] = some (r, [.int n])) : dCall g [.bo i] σ = some (r, σ) := by
  simp only [dCall, evM, h, Option.bind_some, Option.map_some, fillM, D.sc, hg, backM]
theorem call_b2 {g : GF} {σ : DSt} {i j : Nat} {n m : Int} {r : D} (h : dget σ i = some (.int n)) (h2 : dget σ j = some (.int m)) (hg : g [.int n, .int m] = some (r, [.int n, .int m])) : dCall g [.bo i, .bo j] σ = some (r, σ) := by
  simp only [dCall, evM, h, h2, Option.bind_some, Option.map_some, fillM, D.sc, hg, backM]
theorem call_b3 {g : GF} {σ : DSt} {i j k : Nat} {n m p : Int} {r : D} (h : dget σ i = some (.int n)) (h2 : dget σ j = some (.int m)) (h3 : dget σ k = some (.int p)) (hg : g [.int n, .int m, .int p] = some (r, [.int n, .int m, .int p])) : dCall g [.bo i, .bo j, .bo k] σ = some (r, σ) := by
  simp only [dCall, evM, h, h2, h3, Option.bind_some, Option.map_some, fillM, D.sc, hg, backM]
theorem call_b4 {g : GF} {σ : DSt} {i j k l : Nat} {n m p q : Int} {r : D} (h : dget σ i = some (.int n)) (h2 : dget σ j = some (.int m)) (h3 : dget σ k = some (.int p)) (h4 : dget σ l = some (.int q)) (hg : g [.int n, .int m, .int p, .int q] = some (r, [.int n, .int m, .int p, .int q])) : dCall g [.bo i, .bo j, .bo k, .bo l] σ = some (r, σ) := by
  simp only [dCall, evM, h, h2, h3, h4, Option.bind_some, Option.map_some, fillM, D.sc, hg, backM]
/-- a borrowed int, then what is made -/
theorem call_be {g : GF} {σ σ' : DSt} {i : Nat} {n : Int} {c : DE} {d d' r : D} (h : dget σ i = some (.int n)) (hc : c σ = some (d, σ')) (h' : dget σ' i = some (.int n)) (hg : g [.int n, d] = some (r, [.int n, d'])) : dCall g [.bo i, .ex c] σ = some (r, σ') := by
  simp only [dCall, evM, h, hc, h', Option.bind_some, Option.map_some, fillM, D.sc, hg, backM]
theorem test_e {c : DE} {σ σ' : DSt} {b : Bool} (h : c σ = some (.bl b, σ')) : dTest c σ = some (b, σ') := by simp only [dTest, h, Option.bind_some]
theorem if_t {t : DT} {a b : DS} {σ σ' : DSt} (h : t σ = some (true, σ')) : sIf t a b σ = a σ' := by simp only [sIf, h, Option.bind_some, if_true]
theorem if_f {t : DT} {a b : DS} {σ σ' : DSt} (h : t σ = some (false, σ')) : sIf t a b σ = b σ' := by simp only [sIf, h, Option.bind_some, Bool.false_eq_true, if_false]
theorem drop_e {c : DE} {σ σ' : DSt} {d : D} (h : c σ = some (d, σ')) : sDrop c σ = some (.nx σ') := by simp only [sDrop, h, Option.map_some]
theorem ret_e {c : DE} {σ σ' : DSt} {d : D} (h : c σ = some (d, σ')) : sRet c σ = some (.rt d σ') := by simp only [sRet, h, Option.map_some]
theorem op_e {g : D → D → Option D} {a b : DE} {σ σ1 σ2 : DSt} {x y z : D} (h1 : a σ = some (x, σ1)) (h2 : b σ1 = some (y, σ2)) (h3 : g x y = some z) : dOp g a b σ = some (z, σ2) := by simp only [dOp, h1, h2, h3, Option.bind_some, Option.map_some]
theorem or_t {t u : DT} {σ σ' : DSt} (h : t σ = some (true, σ')) : tOrD t u σ = some (true, σ') := by simp only [tOrD, h, Option.bind_some, if_true]
theorem or_f {t u : DT} {σ σ' : DSt} {r : Option (Bool × DSt)} (h : t σ = some (false, σ')) (hu : u σ' = r) : tOrD t u σ = r := by simp only [tOrD, h, hu, Option.bind_some, Bool.false_eq_true, if_false]
theorem not_e {t : DT} {σ σ' : DSt} {b : Bool} (h : t σ = some (b, σ')) : tNotD t σ = some (!b, σ') := by simp only [tNotD, h, Option.map_some]
end LW
namespace LW
open DD PySem L2
theorem all_c {n : Int} {G : Nat} {T : Option D} (hn : Cn n G) : dCall g_all_names [.bo 0] [some (.int n), T, none, none, none] = some (.int G, [some (.int n), T, none, none, none]) := call_b1 rfl (all_eq hn)
theorem lst0_c {n : Int} {T : Option D} (s1 : 1 ≤ sizeLine) : (dLst (aCons (dS (pC (.int 0))) aNil)) [some (.int n), T, none, none, none] = some (.lst true [.int 0], [some (.int n), T, none, none, none]) := by
      simp only [inD, outD, sSeq, sIf, sSet, sRet, sRetN, sDrop, sSkip, sAsg, dTest, tAndD, tOrD, tNotD, dS, pOp, pV, pC, pNeg, gNeg, dget, pLst, evB, dOp, dCall, evM, fillM, backM, gI0, gI, gB0, gNm, gTupD, gConsD, gNilD, aNil, aCons, dLst, dTup, dCallB, pCall, D.sc, D.fz, D.fzL, dCp, dMv, dIx, ixD, intD, lenD, dAndV, dOrV, dNotV, Option.bind_some, Option.map_some, Option.bind_none, Option.map_none, Option.getD_some, Option.getD_none, List.map_cons, List.map_nil, List.length_cons, List.length_nil, List.replicate_zero, List.replicate_succ, List.append_nil, List.nil_append, List.cons_append, List.getElem?_cons_zero, List.getElem?_cons_succ, List.set_cons_zero, List.set_cons_succ, List.not_mem_nil, List.mem_cons, or_false, false_or, Nat.sub_self, Nat.zero_add, Nat.reduceAdd, Nat.reduceSub, Nat.reduceEqDiff, Nat.reduceLT, Nat.reduceLeDiff, Nat.zero_le, if_true, if_false, ite_true, ite_false, reduceIte, Bool.false_eq_true, Bool.true_eq_false, reduceCtorEq, Bool.not_true, Bool.not_false, s1]
theorem rep_ok {G : Nat} (hG : G ≤ 15) (hs : G ≤ sizeLine) : allSc [D.int 0] = true ∧ -(2 ^ 63) ≤ (G : Int) ∧ (G : Int) < 2 ^ 63 ∧ [D.int 0].length * (G : Int).toNat ≤ sizeLine := ⟨rfl, by omega, by omega, by simpa using hs⟩
theorem rep_e {c c' : DE} {σ σ1 σ2 : DSt} {xs ys : List D} {z : Int} (hl : c σ = some (.lst true xs, σ1)) (hc : c' σ1 = some (.int z, σ2)) (hh : allSc xs = true ∧ -(2 ^ 63) ≤ z ∧ z < 2 ^ 63 ∧ xs.length * z.toNat ≤ sizeLine) (hf : (List.replicate z.toNat xs).flatten = ys) : dRep c c' σ = some (.lst true ys, σ2) := by
  simp only [dRep, hl, hc, Option.bind_some]
  rw [if_pos hh, hf]
theorem sz1 : 1 ≤ sizeLine := Nat.le_of_lt (size_ok (by decide))
theorem szG {G : Nat} (h : G ≤ 15) : G ≤ sizeLine := Nat.le_of_lt (size_ok (by omega))
theorem rep1 (G : Nat) : (List.replicate (G : Int).toNat [D.int 0]).flatten = (rowF G fun _ => 0).map D.int := by rw [Int.toNat_natCast, rep0]
theorem rt_rep {n : Int} {G : Nat} {T : Option D} (hn : Cn n G) : dRep (dLst (aCons (dS (pC (.int 0))) aNil)) (dCall g_all_names [.bo 0]) [some (.int n), T, none, none, none] = some (.lst true ((rowF G fun _ => 0).map D.int), [some (.int n), T, none, none, none]) :=
  rep_e (lst0_c sz1) (all_c hn) (rep_ok hn.le.2.2.2 (szG hn.le.2.2.2)) (rep1 G)
theorem rt_c {n : Int} {G : Nat} (hn : Cn n G) (ts : List (Int × Int)) (o : Bool) (h : ∀ p ∈ ts, 0 ≤ p.1 ∧ p.1 ≤ G) : ∃ o3 o4,
    c_row_of_terms [some (.int n), some (.lst o (ts.map tm)), none, none, none] = some (.rt (.lst true ((rowF G (ts.foldl (fun f p => add1 f p.1 p.2) fun _ => 0)).map D.int)) [some (.int n), some (.lst false (ts.map tm)), none, o3, o4]) := by
  obtain ⟨o3, o4, e⟩ := rt_loop (N := some (.int n)) (T := some (.lst false (ts.map tm))) ts (fun _ => 0) none none h
  refine ⟨o3, o4, ?_⟩
  generalize rowF G (ts.foldl (fun f p => add1 f p.1 p.2) fun _ => 0) = R at *
  have hr := rt_rep (T := some (.lst o (ts.map tm))) hn
  generalize rowF G (fun _ => 0) = R0 at *
  have b1 : sSet 2 (dRep (dLst (aCons (dS (pC (.int 0))) aNil)) (dCall g_all_names [.bo 0])) [some (.int n), some (.lst o (ts.map tm)), none, none, none] = some (.nx [some (.int n), some (.lst o (ts.map tm)), some (.lst true (R0.map D.int)), none, none]) := set_e (i := 2) hr (by simp)
  have b2 : sForI (iLst (dCp 1)) (gTupD 2 (gConsD (gNm 3) (gConsD (gNm 4) gNilD))) rtBody [some (.int n), some (.lst o (ts.map tm)), some (.lst true (R0.map D.int)), none, none] = some (.nx [some (.int n), some (.lst false (ts.map tm)), some (.lst true (R.map D.int)), o3, o4]) := by
    have hi : iLst (dCp 1) [some (.int n), some (.lst o (ts.map tm)), some (.lst true (R0.map D.int)), none, none] = some (ts.map tm, [some (.int n), some (.lst false (ts.map tm)), some (.lst true (R0.map D.int)), none, none]) := by
      simp only [inD, outD, sSeq, sIf, sSet, sRet, sRetN, sDrop, sSkip, sAsg, dTest, tAndD, tOrD, tNotD, dS, pOp, pV, pC, pNeg, gNeg, dget, pLst, evB, dOp, dCall, evM, fillM, backM, gI0, gI, gB0, gNm, gTupD, gConsD, gNilD, aNil, aCons, dLst, dTup, dCallB, pCall, D.sc, D.fz, D.fzL, dCp, dMv, dIx, ixD, intD, lenD, dAndV, dOrV, dNotV, Option.bind_some, Option.map_some, Option.bind_none, Option.map_none, Option.getD_some, Option.getD_none, List.map_cons, List.map_nil, List.length_cons, List.length_nil, List.replicate_zero, List.replicate_succ, List.append_nil, List.nil_append, List.cons_append, List.getElem?_cons_zero, List.getElem?_cons_succ, List.set_cons_zero, List.set_cons_succ, List.not_mem_nil, List.mem_cons, or_false, false_or, Nat.sub_self, Nat.zero_add, Nat.reduceAdd, Nat.reduceSub, Nat.reduceEqDiff, Nat.reduceLT, Nat.reduceLeDiff, Nat.zero_le, if_true, if_false, ite_true, ite_false, reduceIte, Bool.false_eq_true, Bool.true_eq_false, reduceCtorEq, Bool.not_true, Bool.not_false, iLst, fz_tm]
    simp only [sForI, hi, Option.bind_some]
    exact e
  have b3 : sRet (dMv 2) [some (.int n), some (.lst false (ts.map tm)), some (.lst true (R.map D.int)), o3, o4] = some (.rt (.lst true (R.map D.int)) [some (.int n), some (.lst false (ts.map tm)), none, o3, o4]) := by
    simp only [inD, outD, sSeq, sIf, sSet, sRet, sRetN, sDrop, sSkip, sAsg, dTest, tAndD, tOrD, tNotD, dS, pOp, pV, pC, pNeg, gNeg, dget, pLst, evB, dOp, dCall, evM, fillM, backM, gI0, gI, gB0, gNm, gTupD, gConsD, gNilD, aNil, aCons, dLst, dTup, dCallB, pCall, D.sc, D.fz, D.fzL, dCp, dMv, dIx, ixD, intD, lenD, dAndV, dOrV, dNotV, Option.bind_some, Option.map_some, Option.bind_none, Option.map_none, Option.getD_some, Option.getD_none, List.map_cons, List.map_nil, List.length_cons, List.length_nil, List.replicate_zero, List.replicate_succ, List.append_nil, List.nil_append, List.cons_append, List.getElem?_cons_zero, List.getElem?_cons_succ, List.set_cons_zero, List.set_cons_succ, List.not_mem_nil, List.mem_cons, or_false, false_or, Nat.sub_self, Nat.zero_add, Nat.reduceAdd, Nat.reduceSub, Nat.reduceEqDiff, Nat.reduceLT, Nat.reduceLeDiff, Nat.zero_le, if_true, if_false, ite_true, ite_false, reduceIte, Bool.false_eq_true, Bool.true_eq_false, reduceCtorEq, Bool.not_true, Bool.not_false]
  unfold rtBody at b2
  unfold c_row_of_terms
  exact seq_e b1 (seq_e b2 b3)
theorem rt_eq {n : Int} {G : Nat} (hn : Cn n G) (ts : List (Int × Int)) (o : Bool) (h : ∀ p ∈ ts, 0 ≤ p.1 ∧ p.1 ≤ G) :
    g_row_of_terms [.int n, .lst o (ts.map tm)] = some (.lst true ((rowF G (ts.foldl (fun f p => add1 f p.1 p.2) fun _ => 0)).map D.int), [.int n, .lst false (ts.map tm)]) := by
  obtain ⟨o3, o4, hc⟩ := rt_c hn ts o h
  exact gOf_rt rfl hc rfl
end LW
namespace LW
open DD PySem L2
theorem or_small : ∀ a : Fin 16, ∀ b : Fin 16, Builtin.bitOr (a.val : Int) (b.val : Int) = ((a.val ||| b.val : Nat) : Int) := by decide +kernel
theorem or_nat {a b : Nat} (ha : a < 16) (hb : b < 16) : Builtin.bitOr (a : Int) (b : Int) = ((a ||| b : Nat) : Int) := or_small ⟨a, ha⟩ ⟨b, hb⟩
theorem Cn.pow {n : Int} {G : Nat} (h : Cn n G) : ∃ k, G + 1 = 2 ^ k := by
  rcases h with ⟨rfl, rfl⟩ | ⟨rfl, rfl⟩ | ⟨rfl, rfl⟩ | ⟨rfl, rfl⟩
  · exact ⟨1, rfl⟩
  · exact ⟨2, rfl⟩
  · exact ⟨3, rfl⟩
  · exact ⟨4, rfl⟩
theorem or_le {n : Int} {G : Nat} (hn : Cn n G) {a b : Int} (ha : 0 ≤ a ∧ a ≤ G) (hb : 0 ≤ b ∧ b ≤ G) : 0 ≤ Builtin.bitOr a b ∧ Builtin.bitOr a b ≤ G := by
  obtain ⟨x, rfl⟩ : ∃ x : Nat, a = x := ⟨a.toNat, by omega⟩
  obtain ⟨y, rfl⟩ : ∃ y : Nat, b = y := ⟨b.toNat, by omega⟩
  obtain ⟨k, hk⟩ := hn.pow
  have hG := hn.le
  rw [or_nat (by omega) (by omega)]
  have := Nat.or_lt_two_pow (x := x) (y := y) (n := k) (by omega) (by omega)
  omega
theorem cnt_eq {n : Int} {G : Nat} (hn : Cn n G) : g_check_count [.int n] = some (.non, [.int n]) := by
  rcases hn with ⟨rfl, rfl⟩ | ⟨rfl, rfl⟩ | ⟨rfl, rfl⟩ | ⟨rfl, rfl⟩ <;> rfl
theorem grp_c {g : GF} {n a : Int} {G : Nat} (hg : g [.int n] = some (.int G, [.int n])) (h0 : 1 ≤ a) (h1 : a ≤ G) : gOf 2 [] (sIf (tOrD (dTest (dOp gLt (dS (pV 1)) (dS (pC (.int 1))))) (dTest (dOp gGt (dS (pV 1)) (dCall g [.bo 0])))) sNone sSkip) [.int n, .int a] = some (.non, [.int n, .int a]) := by
  have d1 : decide (a < 1) = false := by simp; omega
  have d2 : decide ((G : Int) < a) = false := by simp; omega
  simp only [gOf, inD, outD, sSeq, sIf, sSet, sRet, sRetN, sDrop, sSkip, sAsg, dTest, tAndD, tOrD, tNotD, dS, pOp, pV, pC, pNeg, gNeg, dget, pLst, evB, dOp, dCall, evM, fillM, backM, gI0, gI, gB0, gNm, gTupD, gConsD, gNilD, aNil, aCons, dLst, dTup, dCallB, pCall, D.sc, D.fz, D.fzL, dCp, dMv, dIx, ixD, intD, lenD, dAndV, dOrV, dNotV, Option.bind_some, Option.map_some, Option.bind_none, Option.map_none, Option.getD_some, Option.getD_none, List.map_cons, List.map_nil, List.length_cons, List.length_nil, List.replicate_zero, List.replicate_succ, List.append_nil, List.nil_append, List.cons_append, List.getElem?_cons_zero, List.getElem?_cons_succ, List.set_cons_zero, List.set_cons_succ, List.not_mem_nil, List.mem_cons, or_false, false_or, Nat.sub_self, Nat.zero_add, Nat.reduceAdd, Nat.reduceSub, Nat.reduceEqDiff, Nat.reduceLT, Nat.reduceLeDiff, Nat.zero_le, if_true, if_false, ite_true, ite_false, reduceIte, Bool.false_eq_true, Bool.true_eq_false, reduceCtorEq, Bool.not_true, Bool.not_false, d1, hg, d2]
theorem grp_eq {n a : Int} {G : Nat} (hn : Cn n G) (h0 : 1 ≤ a) (h1 : a ≤ G) : g_check_group [.int n, .int a] = some (.non, [.int n, .int a]) := grp_c (all_eq hn) h0 h1
theorem knw_c {g : GF} {n a : Int} (hg : a ≠ 0 → g [.int n, .int a] = some (.non, [.int n, .int a])) : gOf 2 [] (sIf (dTest (dOp gNe (dS (pV 1)) (dS (pC (.int 0))))) (sDrop (dCall g [.bo 0, .bo 1])) sSkip) [.int n, .int a] = some (.non, [.int n, .int a]) := by
  by_cases h : a = 0
  · have hn : (!(a == 0)) = false := by simp [h]
    simp only [gOf, inD, outD, sSeq, sIf, sSet, sRet, sRetN, sDrop, sSkip, sAsg, dTest, tAndD, tOrD, tNotD, dS, pOp, pV, pC, pNeg, gNeg, dget, pLst, evB, dOp, dCall, evM, fillM, backM, gI0, gI, gB0, gNm, gTupD, gConsD, gNilD, aNil, aCons, dLst, dTup, dCallB, pCall, D.sc, D.fz, D.fzL, dCp, dMv, dIx, ixD, intD, lenD, dAndV, dOrV, dNotV, Option.bind_some, Option.map_some, Option.bind_none, Option.map_none, Option.getD_some, Option.getD_none, List.map_cons, List.map_nil, List.length_cons, List.length_nil, List.replicate_zero, List.replicate_succ, List.append_nil, List.nil_append, List.cons_append, List.getElem?_cons_zero, List.getElem?_cons_succ, List.set_cons_zero, List.set_cons_succ, List.not_mem_nil, List.mem_cons, or_false, false_or, Nat.sub_self, Nat.zero_add, Nat.reduceAdd, Nat.reduceSub, Nat.reduceEqDiff, Nat.reduceLT, Nat.reduceLeDiff, Nat.zero_le, if_true, if_false, ite_true, ite_false, reduceIte, Bool.false_eq_true, Bool.true_eq_false, reduceCtorEq, Bool.not_true, Bool.not_false, gNe_int, hn]
  · have hn : (!(a == 0)) = true := by simp [h]
    simp only [gOf, inD, outD, sSeq, sIf, sSet, sRet, sRetN, sDrop, sSkip, sAsg, dTest, tAndD, tOrD, tNotD, dS, pOp, pV, pC, pNeg, gNeg, dget, pLst, evB, dOp, dCall, evM, fillM, backM, gI0, gI, gB0, gNm, gTupD, gConsD, gNilD, aNil, aCons, dLst, dTup, dCallB, pCall, D.sc, D.fz, D.fzL, dCp, dMv, dIx, ixD, intD, lenD, dAndV, dOrV, dNotV, Option.bind_some, Option.map_some, Option.bind_none, Option.map_none, Option.getD_some, Option.getD_none, List.map_cons, List.map_nil, List.length_cons, List.length_nil, List.replicate_zero, List.replicate_succ, List.append_nil, List.nil_append, List.cons_append, List.getElem?_cons_zero, List.getElem?_cons_succ, List.set_cons_zero, List.set_cons_succ, List.not_mem_nil, List.mem_cons, or_false, false_or, Nat.sub_self, Nat.zero_add, Nat.reduceAdd, Nat.reduceSub, Nat.reduceEqDiff, Nat.reduceLT, Nat.reduceLeDiff, Nat.zero_le, if_true, if_false, ite_true, ite_false, reduceIte, Bool.false_eq_true, Bool.true_eq_false, reduceCtorEq, Bool.not_true, Bool.not_false, gNe_int, hn, hg h]
theorem knw_eq {n a : Int} {G : Nat} (hn : Cn n G) (h0 : 0 ≤ a) (h1 : a ≤ G) : g_check_known [.int n, .int a] = some (.non, [.int n, .int a]) := knw_c fun h => grp_eq hn (by omega) h1
theorem gr_c {g h : GF} {n : Int} {G : Nat} (hg : g [.int n] = some (.non, [.int n])) (hh : h [.int n] = some (.int G, [.int n])) : gOf 1 [] (sSeq (sDrop (dCall g [.bo 0])) (sRet (dCall h [.bo 0]))) [.int n] = some (.int G, [.int n]) :=
  gOf_rt (σ0 := [some (.int n)]) (σ := [some (.int n)]) rfl (seq_e (drop_e (call_b1 rfl hg)) (ret_e (call_b1 rfl hh))) rfl
theorem gr_eq {n : Int} {G : Nat} (hn : Cn n G) : g_greatest [.int n] = some (.int G, [.int n]) := gr_c (cnt_eq hn) (all_eq hn)
theorem cr_c {g h k : GF} {n a c : Int} (hg : g [.int n] = some (.non, [.int n])) (hh : h [.int n, .int a] = some (.non, [.int n, .int a])) (hk : k [.int n, .int c] = some (.non, [.int n, .int c])) :
    gOf 3 [] (sSeq (sDrop (dCall g [.bo 0])) (sSeq (sDrop (dCall h [.bo 0, .bo 1])) (sDrop (dCall k [.bo 0, .bo 2])))) [.int n, .int a, .int c] = some (.non, [.int n, .int a, .int c]) :=
  gOf_nx (σ0 := [some (.int n), some (.int a), some (.int c)]) (σ := [some (.int n), some (.int a), some (.int c)]) rfl (seq_e (drop_e (call_b1 rfl hg)) (seq_e (drop_e (call_b2 rfl rfl hh)) (drop_e (call_b2 rfl rfl hk)))) rfl
theorem cr_eq {n a c : Int} {G : Nat} (hn : Cn n G) (h0 : 1 ≤ a) (h1 : a ≤ G) (k0 : 0 ≤ c) (k1 : c ≤ G) : g_check_rest [.int n, .int a, .int c] = some (.non, [.int n, .int a, .int c]) := cr_c (cnt_eq hn) (grp_eq hn h0 h1) (knw_eq hn k0 k1)
theorem cs_c {g h k : GF} {n a b c : Int} (hg : g [.int n] = some (.non, [.int n])) (hh : h [.int n, .int a] = some (.non, [.int n, .int a])) (hb : h [.int n, .int b] = some (.non, [.int n, .int b])) (hk : k [.int n, .int c] = some (.non, [.int n, .int c])) :
    gOf 4 [] (sSeq (sDrop (dCall g [.bo 0])) (sSeq (sDrop (dCall h [.bo 0, .bo 1])) (sSeq (sDrop (dCall h [.bo 0, .bo 2])) (sDrop (dCall k [.bo 0, .bo 3]))))) [.int n, .int a, .int b, .int c] = some (.non, [.int n, .int a, .int b, .int c]) :=
  gOf_nx (σ0 := [some (.int n), some (.int a), some (.int b), some (.int c)]) (σ := [some (.int n), some (.int a), some (.int b), some (.int c)]) rfl (seq_e (drop_e (call_b1 rfl hg)) (seq_e (drop_e (call_b2 rfl rfl hh)) (seq_e (drop_e (call_b2 rfl rfl hb)) (drop_e (call_b2 rfl rfl hk))))) rfl
theorem cs_eq {n a b c : Int} {G : Nat} (hn : Cn n G) (h0 : 1 ≤ a) (h1 : a ≤ G) (g0 : 1 ≤ b) (g1 : b ≤ G) (k0 : 0 ≤ c) (k1 : c ≤ G) : g_check_shared [.int n, .int a, .int b, .int c] = some (.non, [.int n, .int a, .int b, .int c]) := cs_c (cnt_eq hn) (grp_eq hn h0 h1) (grp_eq hn g0 g1) (knw_eq hn k0 k1)
theorem szS {k : Nat} (h : k ≤ 15) : k ≤ sizeLine := szG h
def uF (a : Int) : Nat → Int := [(a, (1 : Int))].foldl (fun f p => add1 f p.1 p.2) fun _ => 0
def rF (a c : Int) : Nat → Int := [(Builtin.bitOr a c, (1 : Int)), (c, -1)].foldl (fun f p => add1 f p.1 p.2) fun _ => 0
def sF (a b c : Int) : Nat → Int := [(Builtin.bitOr a c, (1 : Int)), (Builtin.bitOr b c, 1), (Builtin.bitOr (Builtin.bitOr a b) c, -1), (c, -1)].foldl (fun f p => add1 f p.1 p.2) fun _ => 0
theorem un_c {g h k : GF} {n a : Int} {r x : D} (hg : g [.int n] = some (.non, [.int n])) (hh : h [.int n, .int a] = some (.non, [.int n, .int a])) (hk : k [.int n, .lst true [tm (a, 1)]] = some (r, [.int n, x])) :
    gOf 2 [] (sSeq (sDrop (dCall g [.bo 0])) (sSeq (sDrop (dCall h [.bo 0, .bo 1])) (sRet (dCall k [.bo 0, .ex (dLst (aCons (dTup (aCons (dS (pV 1)) (aCons (dS (pC (.int 1))) aNil))) aNil))])))) [.int n, .int a] = some (r, [.int n, .int a]) := by
  have s1 : 1 ≤ sizeLine := szS (by decide)
  have s2 : 2 ≤ sizeLine := szS (by decide)
  have hl : dLst (aCons (dTup (aCons (dS (pV 1)) (aCons (dS (pC (.int 1))) aNil))) aNil) [some (.int n), some (.int a)] = some (.lst true [tm (a, 1)], [some (.int n), some (.int a)]) := by
    simp only [inD, outD, sSeq, sIf, sSet, sRet, sRetN, sDrop, sSkip, sAsg, dTest, tAndD, tOrD, tNotD, dS, pOp, pV, pC, pNeg, gNeg, dget, pLst, evB, dOp, dCall, evM, fillM, backM, gI0, gI, gB0, gNm, gTupD, gConsD, gNilD, aNil, aCons, dLst, dTup, dCallB, pCall, D.sc, D.fz, D.fzL, dCp, dMv, dIx, ixD, intD, lenD, dAndV, dOrV, dNotV, Option.bind_some, Option.map_some, Option.bind_none, Option.map_none, Option.getD_some, Option.getD_none, List.map_cons, List.map_nil, List.length_cons, List.length_nil, List.replicate_zero, List.replicate_succ, List.append_nil, List.nil_append, List.cons_append, List.getElem?_cons_zero, List.getElem?_cons_succ, List.set_cons_zero, List.set_cons_succ, List.not_mem_nil, List.mem_cons, or_false, false_or, Nat.sub_self, Nat.zero_add, Nat.reduceAdd, Nat.reduceSub, Nat.reduceEqDiff, Nat.reduceLT, Nat.reduceLeDiff, Nat.zero_le, if_true, if_false, ite_true, ite_false, reduceIte, Bool.false_eq_true, Bool.true_eq_false, reduceCtorEq, Bool.not_true, Bool.not_false, s1, s2, tm]
  exact gOf_rt (σ0 := [some (.int n), some (.int a)]) (σ := [some (.int n), some (.int a)]) rfl (seq_e (drop_e (call_b1 rfl hg)) (seq_e (drop_e (call_b2 rfl rfl hh)) (ret_e (call_be rfl hl rfl hk)))) rfl
theorem un_eq {n a : Int} {G : Nat} (hn : Cn n G) (h0 : 1 ≤ a) (h1 : a ≤ G) : g_unsure [.int n, .int a] = some (.lst true ((rowF G (uF a)).map D.int), [.int n, .int a]) :=
  un_c (cnt_eq hn) (grp_eq hn h0 h1) (rt_eq hn [(a, 1)] true fun p hp => by rw [List.mem_singleton.mp hp]; exact ⟨by show 0 ≤ a; omega, h1⟩)
theorem rr_c {k : GF} {n a c : Int} {r x : D} (hk : k [.int n, .lst true [tm (Builtin.bitOr a c, 1), tm (c, -1)]] = some (r, [.int n, x])) :
    gOf 3 [] (sRet (dCall k [.bo 0, .ex (dLst (aCons (dTup (aCons (dS (pOp gOr (pV 1) (pV 2))) (aCons (dS (pC (.int 1))) aNil))) (aCons (dTup (aCons (dS (pV 2)) (aCons (dS (pNeg (pC (.int 1)))) aNil))) aNil)))])) [.int n, .int a, .int c] = some (r, [.int n, .int a, .int c]) := by
  have s1 : 2 ≤ sizeLine := szS (by decide)
  have s2 : 2 ≤ sizeLine := szS (by decide)
  have hl : dLst (aCons (dTup (aCons (dS (pOp gOr (pV 1) (pV 2))) (aCons (dS (pC (.int 1))) aNil))) (aCons (dTup (aCons (dS (pV 2)) (aCons (dS (pNeg (pC (.int 1)))) aNil))) aNil)) [some (.int n), some (.int a), some (.int c)] = some (.lst true [tm (Builtin.bitOr a c, 1), tm (c, -1)], [some (.int n), some (.int a), some (.int c)]) := by
    simp only [inD, outD, sSeq, sIf, sSet, sRet, sRetN, sDrop, sSkip, sAsg, dTest, tAndD, tOrD, tNotD, dS, pOp, pV, pC, pNeg, gNeg, dget, pLst, evB, dOp, dCall, evM, fillM, backM, gI0, gI, gB0, gNm, gTupD, gConsD, gNilD, aNil, aCons, dLst, dTup, dCallB, pCall, D.sc, D.fz, D.fzL, dCp, dMv, dIx, ixD, intD, lenD, dAndV, dOrV, dNotV, Option.bind_some, Option.map_some, Option.bind_none, Option.map_none, Option.getD_some, Option.getD_none, List.map_cons, List.map_nil, List.length_cons, List.length_nil, List.replicate_zero, List.replicate_succ, List.append_nil, List.nil_append, List.cons_append, List.getElem?_cons_zero, List.getElem?_cons_succ, List.set_cons_zero, List.set_cons_succ, List.not_mem_nil, List.mem_cons, or_false, false_or, Nat.sub_self, Nat.zero_add, Nat.reduceAdd, Nat.reduceSub, Nat.reduceEqDiff, Nat.reduceLT, Nat.reduceLeDiff, Nat.zero_le, if_true, if_false, ite_true, ite_false, reduceIte, Bool.false_eq_true, Bool.true_eq_false, reduceCtorEq, Bool.not_true, Bool.not_false, s1, s2, tm]
  exact gOf_rt (σ0 := [some (.int n), some (.int a), some (.int c)]) (σ := [some (.int n), some (.int a), some (.int c)]) rfl (ret_e (call_be rfl hl rfl hk)) rfl
theorem rr_eq {n a c : Int} {G : Nat} (hn : Cn n G) (h0 : 1 ≤ a) (h1 : a ≤ G) (k0 : 0 ≤ c) (k1 : c ≤ G) : g_rest_row [.int n, .int a, .int c] = some (.lst true ((rowF G (rF a c)).map D.int), [.int n, .int a, .int c]) :=
  rr_c (rt_eq hn [(Builtin.bitOr a c, 1), (c, -1)] true fun p hp => by
    rcases List.mem_cons.mp hp with rfl | hp
    · exact or_le hn ⟨by omega, h1⟩ ⟨k0, k1⟩
    · rw [List.mem_singleton.mp hp]; exact ⟨k0, k1⟩)
theorem re_c {g h : GF} {n a c : Int} {r : D} (hg : g [.int n, .int a, .int c] = some (.non, [.int n, .int a, .int c])) (hh : h [.int n, .int a, .int c] = some (r, [.int n, .int a, .int c])) : gOf 3 [] (sSeq (sDrop (dCall g [.bo 0, .bo 1, .bo 2])) (sRet (dCall h [.bo 0, .bo 1, .bo 2]))) [.int n, .int a, .int c] = some (r, [.int n, .int a, .int c]) :=
  gOf_rt (σ0 := [some (.int n), some (.int a), some (.int c)]) (σ := [some (.int n), some (.int a), some (.int c)]) rfl (seq_e (drop_e (call_b3 rfl rfl rfl hg)) (ret_e (call_b3 rfl rfl rfl hh))) rfl
theorem re_eq {n a c : Int} {G : Nat} (hn : Cn n G) (h0 : 1 ≤ a) (h1 : a ≤ G) (k0 : 0 ≤ c) (k1 : c ≤ G) : g_rest [.int n, .int a, .int c] = some (.lst true ((rowF G (rF a c)).map D.int), [.int n, .int a, .int c]) := re_c (cr_eq hn h0 h1 k0 k1) (rr_eq hn h0 h1 k0 k1)
theorem sr_c {k : GF} {n a b c : Int} {r x : D} (hk : k [.int n, .lst true [tm (Builtin.bitOr a c, 1), tm (Builtin.bitOr b c, 1), tm (Builtin.bitOr (Builtin.bitOr a b) c, -1), tm (c, -1)]] = some (r, [.int n, x])) :
    gOf 4 [] (sRet (dCall k [.bo 0, .ex (dLst (aCons (dTup (aCons (dS (pOp gOr (pV 1) (pV 3))) (aCons (dS (pC (.int 1))) aNil))) (aCons (dTup (aCons (dS (pOp gOr (pV 2) (pV 3))) (aCons (dS (pC (.int 1))) aNil))) (aCons (dTup (aCons (dS (pOp gOr (pOp gOr (pV 1) (pV 2)) (pV 3))) (aCons (dS (pNeg (pC (.int 1)))) aNil))) (aCons (dTup (aCons (dS (pV 3)) (aCons (dS (pNeg (pC (.int 1)))) aNil))) aNil)))))])) [.int n, .int a, .int b, .int c] = some (r, [.int n, .int a, .int b, .int c]) := by
  have s1 : 4 ≤ sizeLine := szS (by decide)
  have s2 : 2 ≤ sizeLine := szS (by decide)
  have hl : dLst (aCons (dTup (aCons (dS (pOp gOr (pV 1) (pV 3))) (aCons (dS (pC (.int 1))) aNil))) (aCons (dTup (aCons (dS (pOp gOr (pV 2) (pV 3))) (aCons (dS (pC (.int 1))) aNil))) (aCons (dTup (aCons (dS (pOp gOr (pOp gOr (pV 1) (pV 2)) (pV 3))) (aCons (dS (pNeg (pC (.int 1)))) aNil))) (aCons (dTup (aCons (dS (pV 3)) (aCons (dS (pNeg (pC (.int 1)))) aNil))) aNil)))) [some (.int n), some (.int a), some (.int b), some (.int c)] = some (.lst true [tm (Builtin.bitOr a c, 1), tm (Builtin.bitOr b c, 1), tm (Builtin.bitOr (Builtin.bitOr a b) c, -1), tm (c, -1)], [some (.int n), some (.int a), some (.int b), some (.int c)]) := by
    simp only [inD, outD, sSeq, sIf, sSet, sRet, sRetN, sDrop, sSkip, sAsg, dTest, tAndD, tOrD, tNotD, dS, pOp, pV, pC, pNeg, gNeg, dget, pLst, evB, dOp, dCall, evM, fillM, backM, gI0, gI, gB0, gNm, gTupD, gConsD, gNilD, aNil, aCons, dLst, dTup, dCallB, pCall, D.sc, D.fz, D.fzL, dCp, dMv, dIx, ixD, intD, lenD, dAndV, dOrV, dNotV, Option.bind_some, Option.map_some, Option.bind_none, Option.map_none, Option.getD_some, Option.getD_none, List.map_cons, List.map_nil, List.length_cons, List.length_nil, List.replicate_zero, List.replicate_succ, List.append_nil, List.nil_append, List.cons_append, List.getElem?_cons_zero, List.getElem?_cons_succ, List.set_cons_zero, List.set_cons_succ, List.not_mem_nil, List.mem_cons, or_false, false_or, Nat.sub_self, Nat.zero_add, Nat.reduceAdd, Nat.reduceSub, Nat.reduceEqDiff, Nat.reduceLT, Nat.reduceLeDiff, Nat.zero_le, if_true, if_false, ite_true, ite_false, reduceIte, Bool.false_eq_true, Bool.true_eq_false, reduceCtorEq, Bool.not_true, Bool.not_false, s1, s2, tm]
  exact gOf_rt (σ0 := [some (.int n), some (.int a), some (.int b), some (.int c)]) (σ := [some (.int n), some (.int a), some (.int b), some (.int c)]) rfl (ret_e (call_be rfl hl rfl hk)) rfl
theorem sr_eq {n a b c : Int} {G : Nat} (hn : Cn n G) (h0 : 1 ≤ a) (h1 : a ≤ G) (g0 : 1 ≤ b) (g1 : b ≤ G) (k0 : 0 ≤ c) (k1 : c ≤ G) : g_shared_row [.int n, .int a, .int b, .int c] = some (.lst true ((rowF G (sF a b c)).map D.int), [.int n, .int a, .int b, .int c]) :=
  sr_c (rt_eq hn [(Builtin.bitOr a c, 1), (Builtin.bitOr b c, 1), (Builtin.bitOr (Builtin.bitOr a b) c, -1), (c, -1)] true fun p hp => by
    rcases List.mem_cons.mp hp with rfl | hp
    · exact or_le hn ⟨by omega, h1⟩ ⟨k0, k1⟩
    · rcases List.mem_cons.mp hp with rfl | hp
      · exact or_le hn ⟨by omega, g1⟩ ⟨k0, k1⟩
      · rcases List.mem_cons.mp hp with rfl | hp
        · exact or_le hn (or_le hn ⟨by omega, h1⟩ ⟨by omega, g1⟩) ⟨k0, k1⟩
        · rw [List.mem_singleton.mp hp]; exact ⟨k0, k1⟩)
theorem sh_c {g h : GF} {n a b c : Int} {r : D} (hg : g [.int n, .int a, .int b, .int c] = some (.non, [.int n, .int a, .int b, .int c])) (hh : h [.int n, .int a, .int b, .int c] = some (r, [.int n, .int a, .int b, .int c])) : gOf 4 [] (sSeq (sDrop (dCall g [.bo 0, .bo 1, .bo 2, .bo 3])) (sRet (dCall h [.bo 0, .bo 1, .bo 2, .bo 3]))) [.int n, .int a, .int b, .int c] = some (r, [.int n, .int a, .int b, .int c]) :=
  gOf_rt (σ0 := [some (.int n), some (.int a), some (.int b), some (.int c)]) (σ := [some (.int n), some (.int a), some (.int b), some (.int c)]) rfl (seq_e (drop_e (call_b4 rfl rfl rfl rfl hg)) (ret_e (call_b4 rfl rfl rfl rfl hh))) rfl
theorem sh_eq {n a b c : Int} {G : Nat} (hn : Cn n G) (h0 : 1 ≤ a) (h1 : a ≤ G) (g0 : 1 ≤ b) (g1 : b ≤ G) (k0 : 0 ≤ c) (k1 : c ≤ G) : g_shared [.int n, .int a, .int b, .int c] = some (.lst true ((rowF G (sF a b c)).map D.int), [.int n, .int a, .int b, .int c]) := sh_c (cs_eq hn h0 h1 g0 g1 k0 k1) (sr_eq hn h0 h1 g0 g1 k0 k1)
end LW
namespace LW
open DD PySem L2
def ei (x y : Int) : Int := if (x == y) = true then 1 else 0
def dA (a : Int) (k : Nat) : Int := ei (1 + k) a
def dB (a c : Int) (k : Nat) : Int := ei (1 + k) (Builtin.bitOr a c) - ei (1 + k) c
def dC (a b c : Int) (k : Nat) : Int := ei (1 + k) (Builtin.bitOr a c) + ei (1 + k) (Builtin.bitOr b c) - ei (1 + k) (Builtin.bitOr (Builtin.bitOr a b) c) - ei (1 + k) c
abbrev duS (n a b c : Int) (A B C : List Int) (o5 o6 : Option D) : DSt := [some (.int n), some (.int a), some (.int b), some (.int c), some (.lst true [.lst true (A.map D.int), .lst true (B.map D.int), .lst true (C.map D.int)]), o5, o6]
abbrev duBody : DS := (sSeq (sDrop (dApp 4 [(pC (.int 0))] (pCall intD [(pOp gEq (pV 5) (pV 1))])))
      (sSeq (sDrop (dApp 4 [(pC (.int 1))] (pOp gSub (pCall intD [(pOp gEq (pV 5) (pOp gOr (pV 1) (pV 3)))]) (pCall intD [(pOp gEq (pV 5) (pV 3))]))))
      (sSeq (sSet 6 (dS (pOp gAdd (pCall intD [(pOp gEq (pV 5) (pOp gOr (pV 1) (pV 3)))]) (pCall intD [(pOp gEq (pV 5) (pOp gOr (pV 2) (pV 3)))]))))
      (sDrop (dApp 4 [(pC (.int 2))] (pOp gSub (pOp gSub (pV 6) (pCall intD [(pOp gEq (pV 5) (pOp gOr (pOp gOr (pV 1) (pV 2)) (pV 3)))])) (pCall intD [(pOp gEq (pV 5) (pV 3))])))))))
theorem gp3_0 {x y z : D} : getP (.lst true [x, y, z]) [(0 : Int)] = some x := rfl
theorem sp3_0 {x y z w : D} : setP (.lst true [x, y, z]) [(0 : Int)] w = .lst true [w, y, z] := rfl
theorem gp3_1 {x y z : D} : getP (.lst true [x, y, z]) [(1 : Int)] = some y := rfl
theorem sp3_1 {x y z w : D} : setP (.lst true [x, y, z]) [(1 : Int)] w = .lst true [x, w, z] := rfl
theorem gp3_2 {x y z : D} : getP (.lst true [x, y, z]) [(2 : Int)] = some z := rfl
theorem sp3_2 {x y z w : D} : setP (.lst true [x, y, z]) [(2 : Int)] w = .lst true [x, y, w] := rfl
theorem app_e {i : Nat} {js : List DP} {p : DP} {σ : DSt} {t t' y : D} {path : List Int} {xs : List D} {v : V} (h1 : dget σ i = some t) (h2 : evI js σ = some path) (h3 : getP t path = some (.lst true xs)) (h4 : p σ = some y) (h5 : y.sc = some v) (h6 : xs.length < sizeLine) (h7 : setP t path (.lst true (xs ++ [y])) = t') :
    dApp i js p σ = some (.non, σ.set i (some t')) := by
  simp only [dApp, h1, h2, h3, h4, h5, h6, h7, Option.bind_some, if_true]
theorem int_eq {p q : DP} {σ : DSt} {x y : Int} (h1 : p σ = some (.int x)) (h2 : q σ = some (.int y)) : pCall intD [pOp gEq p q] σ = some (.int (ei x y)) := by
  simp only [pCall, evB, pOp, h1, h2, gEq_int, Option.bind_some, Option.map_some, intD, ei]
theorem sub_p {p q : DP} {σ : DSt} {x y : Int} (h1 : p σ = some (.int x)) (h2 : q σ = some (.int y)) : pOp gSub p q σ = some (.int (x - y)) := by
  simp only [pOp, h1, h2, Option.bind_some, gI0]
theorem add_p {p q : DP} {σ : DSt} {x y : Int} (h1 : p σ = some (.int x)) (h2 : q σ = some (.int y)) : pOp gAdd p q σ = some (.int (x + y)) := by
  simp only [pOp, h1, h2, Option.bind_some, gI0]
theorem or_p {p q : DP} {σ : DSt} {x y : Int} (h1 : p σ = some (.int x)) (h2 : q σ = some (.int y)) : pOp gOr p q σ = some (.int (Builtin.bitOr x y)) := by
  simp only [pOp, h1, h2, Option.bind_some, gI0]
theorem s_e {p : DP} {σ : DSt} {x : Int} (h : p σ = some (.int x)) : dS p σ = some (.int x, σ) := by
  simp only [dS, h, Option.bind_some, D.sc]
theorem szA {A : List Int} (h : A.length ≤ 900) : (A.map D.int).length < sizeLine := by rw [List.length_map]; exact size_ok (by omega)
theorem snoc_int {A : List Int} {x : Int} : A.map D.int ++ [D.int x] = (A ++ [x]).map D.int := by simp
theorem du_turn {n a b c : Int} {A B C : List Int} {o6 : Option D} (k : Nat) (hA : A.length ≤ 900) (hB : B.length ≤ 900) (hC : C.length ≤ 900) :
    ∃ o6', duBody (duS n a b c A B C (some (.int (1 + k))) o6) = some (.nx (duS n a b c (A ++ [dA a k]) (B ++ [dB a c k]) (C ++ [dC a b c k]) (some (.int (1 + k))) o6')) := by
  refine ⟨some (.int (ei (1 + k) (Builtin.bitOr a c) + ei (1 + k) (Builtin.bitOr b c))), ?_⟩
  refine seq_e (σ' := duS n a b c (A ++ [dA a k]) B C (some (.int (1 + k))) o6) ?_ (seq_e (σ' := duS n a b c (A ++ [dA a k]) (B ++ [dB a c k]) C (some (.int (1 + k))) o6) ?_ (seq_e (σ' := duS n a b c (A ++ [dA a k]) (B ++ [dB a c k]) C (some (.int (1 + k))) (some (.int (ei (1 + k) (Builtin.bitOr a c) + ei (1 + k) (Builtin.bitOr b c))))) ?_ ?_))
  · exact drop_e (app_e rfl rfl gp3_0 (int_eq rfl rfl) rfl (szA hA) (by rw [snoc_int]; exact sp3_0))
  · exact drop_e (app_e rfl rfl gp3_1 (sub_p (int_eq rfl (or_p rfl rfl)) (int_eq rfl rfl)) rfl (szA hB) (by rw [snoc_int]; exact sp3_1))
  · exact set_e (s_e (add_p (int_eq rfl (or_p rfl rfl)) (int_eq rfl (or_p rfl rfl)))) (by simp)
  · exact drop_e (app_e rfl rfl gp3_2 (sub_p (sub_p rfl (int_eq rfl (or_p (or_p rfl rfl) rfl))) (int_eq rfl rfl)) rfl (szA hC) (by rw [snoc_int]; exact sp3_2))
theorem du_loop {n a b c : Int} : ∀ (ks : List Nat) (A B C : List Int) (o5 o6 : Option D), A.length + ks.length ≤ 900 → B.length + ks.length ≤ 900 → C.length + ks.length ≤ 900 →
    ∃ o5' o6', dLoop (gNm 5) duBody (ks.map fun k => D.int ((1 : Int) + (k : Nat))) (duS n a b c A B C o5 o6) = some (.nx (duS n a b c (A ++ ks.map (dA a)) (B ++ ks.map (dB a c)) (C ++ ks.map (dC a b c)) o5' o6'))
  | [], A, B, C, o5, o6, _, _, _ => ⟨o5, o6, by simp [dLoop]⟩
  | k :: ks, A, B, C, o5, o6, hA, hB, hC => by
    simp only [List.length_cons] at hA hB hC
    obtain ⟨p6, e1⟩ := du_turn (n := n) (a := a) (b := b) (c := c) (A := A) (B := B) (C := C) (o6 := o6) k (by omega) (by omega) (by omega)
    obtain ⟨o5', o6', e2⟩ := du_loop (n := n) (a := a) (b := b) (c := c) ks (A ++ [dA a k]) (B ++ [dB a c k]) (C ++ [dC a b c k]) (some (.int (1 + k))) p6 (by simp; omega) (by simp; omega) (by simp; omega)
    refine ⟨o5', o6', ?_⟩
    have hg : gNm 5 (D.int ((1 : Int) + (k : Nat))) (duS n a b c A B C o5 o6) = some (duS n a b c A B C (some (.int (1 + k))) o6) := rfl
    rw [List.map_cons, dLoop, hg, Option.bind_some, e1, Option.bind_some]
    simp only [List.append_assoc, List.singleton_append] at e2
    simpa only [List.map_cons] using e2
theorem due_c {n a b c : Int} {G : Nat} (hn : Cn n G) : g__law_due [.int n, .int a, .int b, .int c] = some (.lst true [.lst true ((rowF G (dA a)).map D.int), .lst true ((rowF G (dB a c)).map D.int), .lst true ((rowF G (dC a b c)).map D.int)], [.int n, .int a, .int b, .int c]) := by
  have hG := hn.le
  obtain ⟨o5, o6, e⟩ := du_loop (n := n) (a := a) (b := b) (c := c) (List.range G) [] [] [] none none (by simp; omega) (by simp; omega) (by simp; omega)
  have b1 : sSet 4 (dLst (aCons (dLst aNil) (aCons (dLst aNil) (aCons (dLst aNil) aNil)))) [some (.int n), some (.int a), some (.int b), some (.int c), none, none, none] = some (.nx (duS n a b c [] [] [] none none)) := by
    have s0 : 0 ≤ sizeLine := Nat.zero_le _
    have s3 : 3 ≤ sizeLine := szS (by decide)
    simp only [inD, outD, sSeq, sIf, sSet, sRet, sRetN, sDrop, sSkip, sAsg, dTest, tAndD, tOrD, tNotD, dS, pOp, pV, pC, pNeg, gNeg, dget, pLst, evB, dOp, dCall, evM, fillM, backM, gI0, gI, gB0, gNm, gTupD, gConsD, gNilD, aNil, aCons, dLst, dTup, dCallB, pCall, D.sc, D.fz, D.fzL, dCp, dMv, dIx, ixD, intD, lenD, dAndV, dOrV, dNotV, Option.bind_some, Option.map_some, Option.bind_none, Option.map_none, Option.getD_some, Option.getD_none, List.map_cons, List.map_nil, List.length_cons, List.length_nil, List.replicate_zero, List.replicate_succ, List.append_nil, List.nil_append, List.cons_append, List.getElem?_cons_zero, List.getElem?_cons_succ, List.set_cons_zero, List.set_cons_succ, List.not_mem_nil, List.mem_cons, or_false, false_or, Nat.sub_self, Nat.zero_add, Nat.reduceAdd, Nat.reduceSub, Nat.reduceEqDiff, Nat.reduceLT, Nat.reduceLeDiff, Nat.zero_le, if_true, if_false, ite_true, ite_false, reduceIte, Bool.false_eq_true, Bool.true_eq_false, reduceCtorEq, Bool.not_true, Bool.not_false, s0, s3]
    rfl
  have hi : iR2 (aCons (dS (pC (.int 1))) (aCons (dS (pOp gShl (pC (.int 1)) (pV 0))) aNil)) (duS n a b c [] [] [] none none) = some ((List.range G).map fun k => D.int ((1 : Int) + (k : Nat)), duS n a b c [] [] [] none none) := by
    rcases hn with ⟨rfl, rfl⟩ | ⟨rfl, rfl⟩ | ⟨rfl, rfl⟩ | ⟨rfl, rfl⟩ <;> rfl
  have b2 : sForI (iR2 (aCons (dS (pC (.int 1))) (aCons (dS (pOp gShl (pC (.int 1)) (pV 0))) aNil))) (gNm 5) duBody (duS n a b c [] [] [] none none) = some (.nx (duS n a b c (rowF G (dA a)) (rowF G (dB a c)) (rowF G (dC a b c)) o5 o6)) := by
    simp only [sForI, hi, Option.bind_some]
    exact e
  exact gOf_rt (σ0 := [some (.int n), some (.int a), some (.int b), some (.int c), none, none, none]) (σ := [some (.int n), some (.int a), some (.int b), some (.int c), none, o5, o6]) rfl (seq_e b1 (seq_e b2 rfl)) rfl
/-- the rows are those that are due -/
theorem row_u {G : Nat} {a : Int} : rowF G (uF a) = rowF G (dA a) := rowF_congr fun k => by
  simp only [uF, dA, ei, add1, List.foldl_cons, List.foldl_nil, beq_iff_eq]
  split <;> split <;> omega
theorem row_r {G : Nat} {a c : Int} : rowF G (rF a c) = rowF G (dB a c) := rowF_congr fun k => by
  simp only [rF, dB, ei, add1, List.foldl_cons, List.foldl_nil, beq_iff_eq]
  generalize Builtin.bitOr a c = x
  split <;> split <;> split <;> split <;> omega
theorem ei_add {x y v : Int} : (if x = y + 1 then v else 0) = v * ei (1 + y) x := by
  unfold ei
  by_cases h : x = y + 1
  · rw [if_pos h, if_pos (by simp; omega)]; omega
  · rw [if_neg h, if_neg (by simp; omega)]; omega
theorem row_s {G : Nat} {a b c : Int} : rowF G (sF a b c) = rowF G (dC a b c) := rowF_congr fun k => by
  simp only [sF, dC, add1, List.foldl_cons, List.foldl_nil, ei_add]
  omega
end LW
namespace LW
open DD PySem L2
abbrev Pl (ms : List Int) : Option D := some (.lst true (ms.map D.int))
theorem pop_bd {ms : List Int} (h : Bd ms) : ∃ (m : Int) (ms' : List Int), Bd ms' ∧ (0 ≤ m ∧ m < 2147483648) ∧ g__law_pop [.lst true (ms.map D.int)] = some (.int m, [.lst true (ms'.map D.int)]) := by
  rcases List.eq_nil_or_concat ms with rfl | ⟨xs, x, rfl⟩
  · exact ⟨0, [], h, by omega, pop_nil⟩
  · rw [List.concat_eq_append] at *
    exact ⟨x, xs, fun q hq => h q (by simp [hq]), h x (by simp), pop_snoc xs x⟩
theorem call_l {g : GF} {s0 : Option D} {ρ : DSt} {xs ys : List D} {r : D} (h : g [.lst true xs] = some (r, [.lst true ys])) : dCall g [.bo 1] (s0 :: some (.lst true xs) :: ρ) = some (r, s0 :: some (.lst true ys) :: ρ) := by
  simp only [inD, outD, sSeq, sIf, sSet, sRet, sRetN, sDrop, sSkip, sAsg, dTest, tAndD, tOrD, tNotD, dS, pOp, pV, pC, pNeg, gNeg, dget, pLst, evB, dOp, dCall, evM, fillM, backM, gI0, gI, gB0, gNm, gTupD, gConsD, gNilD, aNil, aCons, dLst, dTup, dCallB, pCall, D.sc, D.fz, D.fzL, dCp, dMv, dIx, ixD, intD, lenD, dAndV, dOrV, dNotV, Option.bind_some, Option.map_some, Option.bind_none, Option.map_none, Option.getD_some, Option.getD_none, List.map_cons, List.map_nil, List.length_cons, List.length_nil, List.replicate_zero, List.replicate_succ, List.append_nil, List.nil_append, List.cons_append, List.getElem?_cons_zero, List.getElem?_cons_succ, List.set_cons_zero, List.set_cons_succ, List.not_mem_nil, List.mem_cons, or_false, false_or, Nat.sub_self, Nat.zero_add, Nat.reduceAdd, Nat.reduceSub, Nat.reduceEqDiff, Nat.reduceLT, Nat.reduceLeDiff, Nat.zero_le, if_true, if_false, ite_true, ite_false, reduceIte, Bool.false_eq_true, Bool.true_eq_false, reduceCtorEq, Bool.not_true, Bool.not_false, h]
theorem call_pop {s0 : Option D} {ρ : DSt} {ms : List Int} (h : Bd ms) : ∃ (m : Int) (ms' : List Int), Bd ms' ∧ (0 ≤ m ∧ m < 2147483648) ∧ dCall g__law_pop [.bo 1] (s0 :: Pl ms :: ρ) = some (.int m, s0 :: Pl ms' :: ρ) := by
  obtain ⟨m, ms', h1, h2, h3⟩ := pop_bd h
  exact ⟨m, ms', h1, h2, call_l h3⟩
theorem mod_i {x y : Int} (h : 0 < y) : gMod (.int x) (.int y) = some (.int (x % y)) := by
  have : decide (0 < y) = true := by simp [h]
  simp only [gI, this, if_true]
theorem add_i {x y : Int} : gAdd (.int x) (.int y) = some (.int (x + y)) := rfl
theorem sub_i {x y : Int} : gSub (.int x) (.int y) = some (.int (x - y)) := rfl
theorem c_e {σ : DSt} {x : Int} : dS (pC (.int x)) σ = some (.int x, σ) := s_e rfl
/-- 1 + pop % k -/
theorem e_n {s0 : Option D} {ρ : DSt} {ms : List Int} {p : DP} {k : Int} (h : Bd ms) (hk : 0 < k) (hp : ∀ ms', p (s0 :: Pl ms' :: ρ) = some (.int k)) : ∃ (m : Int) (ms' : List Int), Bd ms' ∧ (1 ≤ m ∧ m ≤ k) ∧
    dOp gAdd (dS (pC (.int 1))) (dOp gMod (dCall g__law_pop [.bo 1]) (dS p)) (s0 :: Pl ms :: ρ) = some (.int m, s0 :: Pl ms' :: ρ) := by
  obtain ⟨m, ms', h1, h2, h3⟩ := call_pop (s0 := s0) (ρ := ρ) h
  have hm0 := Int.emod_nonneg m (show k ≠ 0 by omega)
  have hm1 := Int.emod_lt_of_pos m hk
  exact ⟨1 + m % k, ms', h1, by omega, op_e c_e (op_e h3 (s_e (hp ms')) (mod_i hk)) add_i⟩
theorem e_m {s0 : Option D} {ρ : DSt} {ms : List Int} {p : DP} {k : Int} (h : Bd ms) (hk : 0 < k) (hp : ∀ ms', p (s0 :: Pl ms' :: ρ) = some (.int k)) : ∃ (m : Int) (ms' : List Int), Bd ms' ∧ (0 ≤ m ∧ m < k) ∧
    dOp gMod (dCall g__law_pop [.bo 1]) (dS p) (s0 :: Pl ms :: ρ) = some (.int m, s0 :: Pl ms' :: ρ) := by
  obtain ⟨m, ms', h1, h2, h3⟩ := call_pop (s0 := s0) (ρ := ρ) h
  exact ⟨m % k, ms', h1, ⟨Int.emod_nonneg m (by omega), Int.emod_lt_of_pos m hk⟩, op_e h3 (s_e (hp ms')) (mod_i hk)⟩
theorem whole_eq (i : Int) : g__law_whole [.int i] = some (.bl true, [.int i]) := rfl
theorem Cn.mk {n : Int} (h0 : 1 ≤ n) (h1 : n ≤ 4) : ∃ G, Cn n G := by
  have : n = 1 ∨ n = 2 ∨ n = 3 ∨ n = 4 := by omega
  rcases this with rfl | rfl | rfl | rfl
  · exact ⟨1, .inl ⟨rfl, rfl⟩⟩
  · exact ⟨3, .inr (.inl ⟨rfl, rfl⟩)⟩
  · exact ⟨7, .inr (.inr (.inl ⟨rfl, rfl⟩))⟩
  · exact ⟨15, .inr (.inr (.inr ⟨rfl, rfl⟩))⟩
theorem shl_p {n : Int} {G : Nat} {p : DP} {σ : DSt} (hn : Cn n G) (h : p σ = some (.int n)) : pOp gSub (pOp gShl (pC (.int 1)) p) (pC (.int 1)) σ = some (.int G) := by
  have : gShl (.int 1) (.int n) = some (.int (G + 1)) := by rcases hn with ⟨rfl, rfl⟩ | ⟨rfl, rfl⟩ | ⟨rfl, rfl⟩ | ⟨rfl, rfl⟩ <;> rfl
  have h2 : pOp gShl (pC (.int 1)) p σ = some (.int (G + 1)) := by
    simp only [pOp, h, Option.bind_some, pC]
    exact this
  rw [sub_p h2 rfl]; congr 2; omega
theorem whole_t {n : Int} : tNotD (dTest (dCall g__law_whole [.bo 1])) [none, some (.int n)] = some (false, [none, some (.int n)]) := not_e (test_e (call_b1 (i := 1) rfl (whole_eq n)))
theorem wh_comp {c : DE} : ∀ (ns : List Int) (o : Option D), ∃ o', bComp 1 (tNotD (dTest (dCall g__law_whole [.bo 1]))) c (ns.map D.int) [none, o] = some ([], ns.map D.int, [none, o'])
  | [], o => ⟨o, rfl⟩
  | n :: ns, o => by
    obtain ⟨o', h⟩ := wh_comp (c := c) ns (some (.int n))
    refine ⟨o', ?_⟩
    have hs : ([none, o] : DSt).set 1 (some (.int n)) = [none, some (.int n)] := rfl
    have hg : give 1 [none, some (D.int n)] = (.int n, [none, some (.int n)]) := rfl
    simp only [List.map_cons, bComp, hs, whole_t, Option.bind_some, Bool.false_eq_true, if_false, hg, h, Option.map_some]
theorem whs_eq (ns : List Int) (hl : ns.length ≤ 900) : g__law_wholes [.lst true (ns.map D.int)] = some (.bl true, [.lst true (ns.map D.int)]) := by
  obtain ⟨o', h⟩ := wh_comp (c := dCp 1) ns none
  have sz : (ns.map D.int).length ≤ sizeLine := Nat.le_of_lt (szA hl)
  have e1 : dLcB 0 1 (tNotD (dTest (dCall g__law_whole [.bo 1]))) (dCp 1) [some (.lst true (ns.map D.int))] = some (.lst true [], [some (.lst true (ns.map D.int))]) := by
    have h' : bComp 1 (tNotD (dTest (dCall g__law_whole [.bo 1]))) (dCp 1) (ns.map D.int) (([some (.lst true (ns.map D.int))] : DSt).set 0 none ++ [none]) = _ := h
    have hd : dget [some (D.lst true (ns.map D.int))] 0 = some (.lst true (ns.map D.int)) := rfl
    simp only [dLcB, hd, sz, if_true, h', Option.map_some]
    rfl
  have e2 : dSel (ownL 0) (dLcB 0 1 (tNotD (dTest (dCall g__law_whole [.bo 1]))) (dCp 1)) (dLc 1 (iLst (dCp 0)) (gNm 1) (tNotD (dTest (dCall g__law_whole [.bo 1]))) (dCp 1)) [some (.lst true (ns.map D.int))] = some (.lst true [], [some (.lst true (ns.map D.int))]) := by
    have hd : ownL 0 [some (D.lst true (ns.map D.int))] = true := rfl
    simp only [dSel, hd, if_true, e1]
  have e3 : dLst aNil [some (D.lst true (ns.map D.int))] = some (.lst true [], [some (.lst true (ns.map D.int))]) := by
    simp only [inD, outD, sSeq, sIf, sSet, sRet, sRetN, sDrop, sSkip, sAsg, dTest, tAndD, tOrD, tNotD, dS, pOp, pV, pC, pNeg, gNeg, dget, pLst, evB, dOp, dCall, evM, fillM, backM, gI0, gI, gB0, gNm, gTupD, gConsD, gNilD, aNil, aCons, dLst, dTup, dCallB, pCall, D.sc, D.fz, D.fzL, dCp, dMv, dIx, ixD, intD, lenD, dAndV, dOrV, dNotV, Option.bind_some, Option.map_some, Option.bind_none, Option.map_none, Option.getD_some, Option.getD_none, List.map_cons, List.map_nil, List.length_cons, List.length_nil, List.replicate_zero, List.replicate_succ, List.append_nil, List.nil_append, List.cons_append, List.getElem?_cons_zero, List.getElem?_cons_succ, List.set_cons_zero, List.set_cons_succ, List.not_mem_nil, List.mem_cons, or_false, false_or, Nat.sub_self, Nat.zero_add, Nat.reduceAdd, Nat.reduceSub, Nat.reduceEqDiff, Nat.reduceLT, Nat.reduceLeDiff, Nat.zero_le, if_true, if_false, ite_true, ite_false, reduceIte, Bool.false_eq_true, Bool.true_eq_false, reduceCtorEq, Bool.not_true, Bool.not_false]
  have e4 : dS (pCall isiD [(pV 0), (pC (.ty "list"))]) [some (D.lst true (ns.map D.int))] = some (.bl true, [some (.lst true (ns.map D.int))]) := rfl
  have e5 := op_e (g := gEq) e2 e3 (gEq_nil true true [])
  have e6 : dAndV (dS (pCall isiD [(pV 0), (pC (.ty "list"))])) (dOp gEq (dSel (ownL 0) (dLcB 0 1 (tNotD (dTest (dCall g__law_whole [.bo 1]))) (dCp 1)) (dLc 1 (iLst (dCp 0)) (gNm 1) (tNotD (dTest (dCall g__law_whole [.bo 1]))) (dCp 1))) (dLst aNil)) [some (D.lst true (ns.map D.int))] = some (.bl true, [some (.lst true (ns.map D.int))]) := by
    simp only [dAndV, e4, Option.bind_some, e5, List.isEmpty_nil]
  exact gOf_rt (σ0 := [some (D.lst true (ns.map D.int))]) (σ := [some (D.lst true (ns.map D.int))]) rfl (ret_e e6) rfl
end LW
namespace LW
open DD PySem L2
theorem acons_e {c : DE} {ca : DA} {σ σ1 σ2 : DSt} {d : D} {ds : List D} (h1 : c σ = some (d, σ1)) (h2 : ca σ1 = some (ds, σ2)) : aCons c ca σ = some (d :: ds, σ2) := by
  simp only [aCons, h1, h2, Option.bind_some, Option.map_some]
theorem lst_e {ca : DA} {σ σ' : DSt} {ds : List D} (h : ca σ = some (ds, σ')) (hl : ds.length ≤ sizeLine) : dLst ca σ = some (.lst true ds, σ') := by
  simp only [dLst, h, hl, Option.bind_some, if_true]
theorem nil_e {σ : DSt} : aNil σ = some ([], σ) := rfl
theorem call_lst {g : GF} {σ : DSt} {i : Nat} {xs : List D} {r : D} (h : dget σ i = some (.lst true xs)) (hg : g [.lst true xs] = some (r, [.lst true xs])) : dCall g [.bo i] σ = some (r, (σ.set i none).set i (some (.lst true xs))) := by
  simp only [dCall, evM, h, Option.bind_some, Option.map_some, fillM, D.sc, hg, backM]
abbrev rw3 (A B C : List Int) : List D := [.lst true (A.map D.int), .lst true (B.map D.int), .lst true (C.map D.int)]
theorem dep_ints : ∀ ns : List Int, PyData.depthAll (ns.map PyData.int) = 0
  | [] => rfl
  | n :: ns => by simp only [List.map_cons, PyData.depthAll, PyData.depth, dep_ints ns, Nat.max_self]
theorem py_rw3 (A B C : List Int) : D.py (.lst true (rw3 A B C)) = some (.list [.list (A.map PyData.int), .list (B.map PyData.int), .list (C.map PyData.int)]) := by
  simp only [D.py, D.pyL, pyL_ints, Option.map_some, Option.bind_some]
theorem gNe_rw3 (A B C : List Int) : gNe (.lst true (rw3 A B C)) (.lst true (rw3 A B C)) = some (.bl false) := by
  have h0 : PyData.canLay0 (.list [.list (A.map PyData.int), .list (B.map PyData.int), .list (C.map PyData.int)]) = true := by
    simp only [PyData.canLay0, PyData.canLayAll0, lay_ints, Bool.and_self]
  have h2 : pyOk (.list [.list (A.map PyData.int), .list (B.map PyData.int), .list (C.map PyData.int)]) (.list [.list (A.map PyData.int), .list (B.map PyData.int), .list (C.map PyData.int)]) = true := by
    simp only [pyOk, h0, PyData.depth, PyData.depthAll, dep_ints]
    decide
  simp only [gNe, py_rw3, Option.bind_some, h2, if_true, PySem.SeqAt.eqv_refl _ h0, Bool.not_true]
theorem gNe_nil : gNe (.lst true []) (.lst true []) = some (.bl false) := by
  have h0 : PyData.canLay0 (.list []) = true := rfl
  have h1 : D.py (.lst true []) = some (.list []) := rfl
  have h2 : pyOk (.list []) (.list []) = true := by decide
  simp only [gNe, h1, Option.bind_some, h2, if_true, PySem.SeqAt.eqv_refl _ h0, Bool.not_true]
abbrev lS (s0 : Option D) (ms : List Int) (o2 : Option D) (n G a b c : Int) (o8 o9 o10 o11 o12 o13 : Option D) : DSt := [s0, Pl ms, o2, some (.int n), some (.int G), some (.int a), some (.int b), some (.int c), o8, o9, o10, o11, o12, o13]
section
variable {s0 o2 o8 o9 o10 o11 o12 o13 o14 : Option D} {ms : List Int} {n a b c : Int} {G : Nat}
theorem set10 (hn : Cn n G) (h0 : 1 ≤ a) (h1 : a ≤ G) (g0 : 1 ≤ b) (g1 : b ≤ G) (k0 : 0 ≤ c) (k1 : c ≤ G) :
    sSet 10 (dLst (aCons (dCall g_unsure [.bo 3, .bo 5]) (aCons (dCall g_rest [.bo 3, .bo 5, .bo 7]) (aCons (dCall g_shared [.bo 3, .bo 5, .bo 6, .bo 7]) aNil)))) (lS s0 ms o2 n G a b c o8 o9 o10 o11 o12 o13) =
      some (.nx (lS s0 ms o2 n G a b c o8 o9 (some (.lst true (rw3 (rowF G (dA a)) (rowF G (dB a c)) (rowF G (dC a b c))))) o11 o12 o13)) := by
  have e1 := un_eq hn h0 h1
  have e2 := re_eq hn h0 h1 k0 k1
  have e3 := sh_eq hn h0 h1 g0 g1 k0 k1
  rw [row_u] at e1
  rw [row_r] at e2
  rw [row_s] at e3
  exact set_e (lst_e (acons_e (call_b2 (i := 3) (j := 5) rfl rfl e1) (acons_e (call_b3 (i := 3) (j := 5) (k := 7) rfl rfl rfl e2) (acons_e (call_b4 (i := 3) (j := 5) (k := 6) (l := 7) rfl rfl rfl rfl e3) nil_e))) (szS (by show 3 ≤ 15; decide))) (by simp)
theorem w_t {A : List Int} (hl : A.length ≤ 900) : tNotD (dTest (dCall g__law_wholes [.bo 14])) (lS s0 ms o2 n G a b c o8 o9 o10 o11 o12 o13 ++ [some (.lst true (A.map D.int))]) = some (false, lS s0 ms o2 n G a b c o8 o9 o10 o11 o12 o13 ++ [some (.lst true (A.map D.int))]) :=
  not_e (test_e (call_lst (i := 14) rfl (whs_eq A hl)))
theorem bc_nil {x : Nat} {t : DT} {cc : DE} {σ : DSt} : bComp x t cc [] σ = some ([], [], σ) := rfl
theorem bc_cons {x : Nat} {t : DT} {cc : DE} {d d' : D} {ds ys zs : List D} {σ σ1 σ2 σ3 : DSt} (h1 : t (σ.set x (some d)) = some (false, σ1)) (h2 : give x σ1 = (d', σ2)) (h3 : bComp x t cc ds σ2 = some (ys, zs, σ3)) : bComp x t cc (d :: ds) σ = some (ys, d' :: zs, σ3) := by
  simp only [bComp, h1, Option.bind_some, Bool.false_eq_true, if_false, h2, h3, Option.map_some]
theorem lcB_rows {A B C : List Int} (hA : A.length ≤ 900) (hB : B.length ≤ 900) (hC : C.length ≤ 900) : dLcB 10 14 (tNotD (dTest (dCall g__law_wholes [.bo 14]))) (dCp 14) (lS s0 ms o2 n G a b c o8 o9 (some (.lst true (rw3 A B C))) o11 o12 o13) = some (.lst true [], lS s0 ms o2 n G a b c o8 o9 (some (.lst true (rw3 A B C))) o11 o12 o13) := by
  have h : bComp 14 (tNotD (dTest (dCall g__law_wholes [.bo 14]))) (dCp 14) (rw3 A B C) ((lS s0 ms o2 n G a b c o8 o9 (some (.lst true (rw3 A B C))) o11 o12 o13).set 10 none ++ [none]) = some ([], rw3 A B C, lS s0 ms o2 n G a b c o8 o9 none o11 o12 o13 ++ [none]) :=
    bc_cons (w_t hA) rfl (bc_cons (w_t hB) rfl (bc_cons (w_t hC) rfl bc_nil))
  have hd : dget (lS s0 ms o2 n G a b c o8 o9 (some (.lst true (rw3 A B C))) o11 o12 o13) 10 = some (.lst true (rw3 A B C)) := rfl
  have s3 : (rw3 A B C).length ≤ sizeLine := szS (by show 3 ≤ 15; decide)
  simp only [dLcB, hd, s3, if_true, h, Option.map_some]
  rfl
theorem if10 {A B C : List Int} (hA : A.length ≤ 900) (hB : B.length ≤ 900) (hC : C.length ≤ 900) : (sIf (tOrD (dTest (dOp gNe (dSel (ownL 10) (dLcB 10 14 (tNotD (dTest (dCall g__law_wholes [.bo 14]))) (dCp 14)) (dLc 1 (iLst (dCp 10)) (gNm 14) (tNotD (dTest (dCall g__law_wholes [.bo 14]))) (dCp 14))) (dLst aNil))) (dTest (dS (pOp gNe (pV 10) (pV 8))))) (sRet (dS (pC (.bl false)))) sSkip)
    (lS s0 ms o2 n G a b c (some (.lst true (rw3 A B C))) o9 (some (.lst true (rw3 A B C))) o11 o12 o13) = some (.nx (lS s0 ms o2 n G a b c (some (.lst true (rw3 A B C))) o9 (some (.lst true (rw3 A B C))) o11 o12 o13)) := by
  have e1 : dSel (ownL 10) (dLcB 10 14 (tNotD (dTest (dCall g__law_wholes [.bo 14]))) (dCp 14)) (dLc 1 (iLst (dCp 10)) (gNm 14) (tNotD (dTest (dCall g__law_wholes [.bo 14]))) (dCp 14)) (lS s0 ms o2 n G a b c (some (.lst true (rw3 A B C))) o9 (some (.lst true (rw3 A B C))) o11 o12 o13) = some (.lst true [], lS s0 ms o2 n G a b c (some (.lst true (rw3 A B C))) o9 (some (.lst true (rw3 A B C))) o11 o12 o13) := by
    have hd : ownL 10 (lS s0 ms o2 n G a b c (some (.lst true (rw3 A B C))) o9 (some (.lst true (rw3 A B C))) o11 o12 o13) = true := rfl
    simp only [dSel, hd, if_true, lcB_rows hA hB hC]
  have e2 : pOp gNe (pV 10) (pV 8) (lS s0 ms o2 n G a b c (some (.lst true (rw3 A B C))) o9 (some (.lst true (rw3 A B C))) o11 o12 o13) = some (.bl false) := gNe_rw3 A B C
  have e3 : dS (pOp gNe (pV 10) (pV 8)) (lS s0 ms o2 n G a b c (some (.lst true (rw3 A B C))) o9 (some (.lst true (rw3 A B C))) o11 o12 o13) = some (.bl false, lS s0 ms o2 n G a b c (some (.lst true (rw3 A B C))) o9 (some (.lst true (rw3 A B C))) o11 o12 o13) := by
    simp only [dS, e2, Option.bind_some, D.sc]
  have hl : ([] : List D).length ≤ sizeLine := Nat.zero_le _
  exact (if_f (or_f (test_e (op_e e1 (lst_e nil_e hl) gNe_nil)) (test_e e3))).trans rfl
theorem bl_cons {x : Nat} {bb : DS} {d d' : D} {ds zs : List D} {σ σ1 σ2 : DSt} {o : Out} (h1 : bb (σ.set x (some d)) = some (.nx σ1)) (h2 : give x σ1 = (d', σ2)) (h3 : bLoop x bb ds σ2 = some (o, zs)) : bLoop x bb (d :: ds) σ = some (o, d' :: zs) := by
  simp only [bLoop, h1, Option.bind_some, h2, h3, Option.map_some]
theorem ap0 {A : List Int} (hA : A.length ≤ 900) : sDrop (dApp 11 [] (pC (.int 0))) (lS s0 ms o2 n G a b c o8 o9 o10 (some (.lst true (A.map D.int))) o12 o13) = some (.nx (lS s0 ms o2 n G a b c o8 o9 o10 (some (.lst true ((A ++ [0]).map D.int))) o12 o13)) :=
  drop_e (app_e (t' := .lst true ((A ++ [0]).map D.int)) (path := []) rfl rfl rfl rfl rfl (szA hA) (by rw [snoc_int]; rfl))
theorem for10 {A B C : List Int} (hA : A.length ≤ 900) (hB : B.length ≤ 900) (hC : C.length ≤ 900) : (sSel (ownL 10) (sForB 10 11 (sDrop (dApp 11 [] (pC (.int 0))))) (sForI (iLst (dCp 10)) (gNm 11) (sDrop (dApp 11 [] (pC (.int 0))))))
    (lS s0 ms o2 n G a b c o8 o9 (some (.lst true (rw3 A B C))) o11 o12 o13) = some (.nx (lS s0 ms o2 n G a b c o8 o9 (some (.lst true (rw3 (A ++ [0]) (B ++ [0]) (C ++ [0])))) none o12 o13)) := by
  have hd : ownL 10 (lS s0 ms o2 n G a b c o8 o9 (some (.lst true (rw3 A B C))) o11 o12 o13) = true := rfl
  have hg : dget (lS s0 ms o2 n G a b c o8 o9 (some (.lst true (rw3 A B C))) o11 o12 o13) 10 = some (.lst true (rw3 A B C)) := rfl
  have hl : 11 < (lS s0 ms o2 n G a b c o8 o9 (some (.lst true (rw3 A B C))) o11 o12 o13).length := by simp
  have h : bLoop 11 (sDrop (dApp 11 [] (pC (.int 0)))) (rw3 A B C) ((lS s0 ms o2 n G a b c o8 o9 (some (.lst true (rw3 A B C))) o11 o12 o13).set 10 none) = some (.nx (lS s0 ms o2 n G a b c o8 o9 none none o12 o13), rw3 (A ++ [0]) (B ++ [0]) (C ++ [0])) :=
    bl_cons (ap0 hA) rfl (bl_cons (ap0 hB) rfl (bl_cons (ap0 hC) rfl rfl))
  simp only [sSel, hd, if_true, sForB, hg, hl, h, Option.map_some]
  rfl
end
end LW
namespace LW
open DD PySem L2
/-- a comprehension whose element pops -/
theorem lc_pop {s0 : Option D} {ρ : DSt} {cc : DE} {P : Int → Prop} (hρ : ρ.length = 12)
    (hc : ∀ (ms : List Int) (o : Option D), Bd ms → ∃ (v : Int) (ms' : List Int), Bd ms' ∧ P v ∧ cc (s0 :: Pl ms :: (ρ ++ [o])) = some (.int v, s0 :: Pl ms' :: (ρ ++ [o]))) :
    ∀ (xs : List D) (ms : List Int) (o : Option D), Bd ms → ∃ (vs ms' : List Int) (o' : Option D), Bd ms' ∧ (∀ v ∈ vs, P v) ∧ vs.length = xs.length ∧ lcGo (gNm 14) tTrue cc xs (s0 :: Pl ms :: (ρ ++ [o])) = some (vs.map D.int, s0 :: Pl ms' :: (ρ ++ [o']))
  | [], ms, o, h => ⟨[], ms, o, h, (fun v hv => by cases hv), rfl, rfl⟩
  | x :: xs, ms, o, h => by
    obtain ⟨v, m1, h1, h2, h3⟩ := hc ms (some x) h
    obtain ⟨vs, m2, o', k1, k2, k3, k4⟩ := lc_pop hρ hc xs m1 (some x) h1
    refine ⟨v :: vs, m2, o', k1, ?_, by simp [k3], ?_⟩
    · intro w hw
      rcases List.mem_cons.mp hw with rfl | hw
      · exact h2
      · exact k2 w hw
    · have hg : gNm 14 x (s0 :: Pl ms :: (ρ ++ [o])) = some (s0 :: Pl ms :: (ρ ++ [some x])) := by
        have hl : 14 < (s0 :: Pl ms :: (ρ ++ [o])).length := by simp [hρ]
        have hs : (s0 :: Pl ms :: (ρ ++ [o])).set 14 (some x) = s0 :: Pl ms :: (ρ ++ [some x]) := by
          rw [List.set_cons_succ, List.set_cons_succ, ← hρ, set_end]
        simp only [gNm, hl, if_true, hs]
      simp only [lcGo, hg, Option.bind_some, tTrue, if_true, h3, k4, Option.map_some, List.map_cons]
theorem lc_e1 {i : DI} {g : DG} {t : DT} {cc : DE} {σ σ1 σ2 : DSt} {xs ys : List D} {o : Option D} (hi : i σ = some (xs, σ1)) (hz : xs.length ≤ sizeLine) (hg : lcGo g t cc xs (σ1 ++ [none]) = some (ys, σ2 ++ [o])) (hl : σ2.length = σ1.length) : dLc 1 i g t cc σ = some (.lst true ys, σ2) := by
  have h1 : List.replicate 1 (none : Option D) = [none] := rfl
  simp only [dLc, hi, Option.bind_some, hz, if_true, h1, hg, Option.map_some]
  rw [← hl, List.take_left]
theorem pow_any {b e : Int} (h : decide (0 ≤ e ∧ e ≤ 1000000 ∧ b.natAbs < 2 ^ 64) = true) : ∃ E : Int, ∀ σ, pOp gPow (pC (.int b)) (pC (.int e)) σ = some (.int E) := by
  refine ⟨b ^ e.toNat, fun σ => ?_⟩
  show gPow (.int b) (.int e) = _
  unfold gPow gI
  exact if_pos h
theorem mul_i {x y : Int} (h : mulC x y = true) : gMul (.int x) (.int y) = some (.int (x * y)) := by
  simp only [gI, h, if_true]
theorem e12 {s0 : Option D} {ρ : DSt} {ms : List Int} (h : Bd ms) : ∃ (v : Int) (ms' : List Int), Bd ms' ∧ True ∧ dOp gSub (dOp gMul (dCall g__law_pop [.bo 1]) (dS (pOp gPow (pC (.int 10)) (pC (.int 20))))) (dS (pOp gPow (pC (.int 10)) (pC (.int 29)))) (s0 :: Pl ms :: ρ) = some (.int v, s0 :: Pl ms' :: ρ) := by
  obtain ⟨m, ms', h1, h2, h3⟩ := call_pop (s0 := s0) (ρ := ρ) h
  obtain ⟨E, hE⟩ := pow_any (b := 10) (e := 20) (by decide)
  obtain ⟨E', hE'⟩ := pow_any (b := 10) (e := 29) (by decide)
  have hm : mulC m E = true := by simp only [mulC, decide_eq_true_eq]; omega
  exact ⟨m * E - E', ms', h1, trivial, op_e (op_e h3 (s_e (hE _)) (mul_i hm)) (s_e (hE' _)) sub_i⟩
theorem e13 {s0 : Option D} {ρ : DSt} {ms : List Int} (h : Bd ms) : ∃ (v : Int) (ms' : List Int), Bd ms' ∧ (-10 < v ∧ v < 10) ∧ dOp gSub (dOp gMod (dCall g__law_pop [.bo 1]) (dS (pC (.int 9)))) (dS (pC (.int 4))) (s0 :: Pl ms :: ρ) = some (.int v, s0 :: Pl ms' :: ρ) := by
  obtain ⟨m, ms', h1, h2, h3⟩ := e_m (s0 := s0) (ρ := ρ) (p := pC (.int 9)) h (show (0 : Int) < 9 by decide) (fun _ => rfl)
  exact ⟨m - 4, ms', h1, by omega, op_e h3 c_e sub_i⟩
theorem rng_len {G : Nat} : (rngD 0 G).length = G := by simp [rngD]
theorem rOk_small {G : Nat} (h : G ≤ 15) : rOk (G : Int) = true := by simp only [rOk, decide_eq_true_eq]; omega
theorem iR1_j {σ σ' : DSt} {ca : DA} {j : Int} (h : ca σ = some ([.int j], σ')) (hk : rOk j = true) : iR1 ca σ = some (rngD 0 j, σ') := by
  simp only [iR1, h, Option.bind_some]
  exact if_pos hk
theorem iR1_e {σ : DSt} {p : DP} {G : Nat} (h : p σ = some (.int G)) (hG : G ≤ 15) : iR1 (aCons (dS p) aNil) σ = some (rngD 0 G, σ) := iR1_j (acons_e (s_e h) nil_e) (rOk_small hG)
section
variable {s0 o2 o8 o9 o10 o11 o12 o13 o14 : Option D} {ms : List Int} {n a b c : Int} {G : Nat}
theorem set12 (hb : Bd ms) (hG : G ≤ 15) : ∃ xs ms' : List Int, Bd ms' ∧ xs.length = G ∧ sSet 12 (dLc 1 (iR1 (aCons (dS (pV 4)) aNil)) (gNm 14) tTrue (dOp gSub (dOp gMul (dCall g__law_pop [.bo 1]) (dS (pOp gPow (pC (.int 10)) (pC (.int 20))))) (dS (pOp gPow (pC (.int 10)) (pC (.int 29)))))) (lS s0 ms o2 n G a b c o8 o9 o10 o11 o12 o13) =
    some (.nx (lS s0 ms' o2 n G a b c o8 o9 o10 o11 (some (.lst true (xs.map D.int))) o13)) := by
  obtain ⟨vs, ms', o', k1, _, k3, k4⟩ := lc_pop (s0 := s0) (ρ := [o2, some (.int n), some (.int G), some (.int a), some (.int b), some (.int c), o8, o9, o10, o11, o12, o13]) (P := fun _ => True) rfl (fun ms o h => e12 h) (rngD 0 G) ms none hb
  refine ⟨vs, ms', k1, by rw [k3, rng_len], ?_⟩
  have hi : iR1 (aCons (dS (pV 4)) aNil) (lS s0 ms o2 n G a b c o8 o9 o10 o11 o12 o13) = some (rngD 0 G, lS s0 ms o2 n G a b c o8 o9 o10 o11 o12 o13) := iR1_e rfl hG
  have hz : (rngD 0 (G : Int)).length ≤ sizeLine := by rw [rng_len]; exact szG hG
  exact set_e (lc_e1 (σ2 := lS s0 ms' o2 n G a b c o8 o9 o10 o11 o12 o13) hi hz k4 rfl) (by simp)
theorem set13 (hb : Bd ms) (hG : G ≤ 15) : ∃ xs ms' : List Int, Bd ms' ∧ (∀ v ∈ xs, -10 < v ∧ v < 10) ∧ xs.length = G ∧ sSet 13 (dLc 1 (iR1 (aCons (dS (pV 4)) aNil)) (gNm 14) tTrue (dOp gSub (dOp gMod (dCall g__law_pop [.bo 1]) (dS (pC (.int 9)))) (dS (pC (.int 4))))) (lS s0 ms o2 n G a b c o8 o9 o10 o11 o12 o13) =
    some (.nx (lS s0 ms' o2 n G a b c o8 o9 o10 o11 o12 (some (.lst true (xs.map D.int))))) := by
  obtain ⟨vs, ms', o', k1, k2, k3, k4⟩ := lc_pop (s0 := s0) (ρ := [o2, some (.int n), some (.int G), some (.int a), some (.int b), some (.int c), o8, o9, o10, o11, o12, o13]) (P := fun v => -10 < v ∧ v < 10) rfl (fun ms o h => e13 h) (rngD 0 G) ms none hb
  refine ⟨vs, ms', k1, k2, by rw [k3, rng_len], ?_⟩
  have hi : iR1 (aCons (dS (pV 4)) aNil) (lS s0 ms o2 n G a b c o8 o9 o10 o11 o12 o13) = some (rngD 0 G, lS s0 ms o2 n G a b c o8 o9 o10 o11 o12 o13) := iR1_e rfl hG
  have hz : (rngD 0 (G : Int)).length ≤ sizeLine := by rw [rng_len]; exact szG hG
  exact set_e (lc_e1 (σ2 := lS s0 ms' o2 n G a b c o8 o9 o10 o11 o12 o13) hi hz k4 rfl) (by simp)
end
/-- value at lists of ints -/
theorem v_loop {A B : Option D} : ∀ (zs : List (Int × Int)) (o2 o3 : Option D), (∀ z ∈ zs, mulC z.1 z.2 = true) → ∃ o2' o3', lcGo (gTupD 2 (gConsD (gNm 2) (gConsD (gNm 3) gNilD))) tTrue (dS (pOp gMul (pV 2) (pV 3))) (zs.map tm) [A, B, o2, o3] = some ((zs.map fun z => z.1 * z.2).map D.int, [A, B, o2', o3'])
  | [], o2, o3, _ => ⟨o2, o3, rfl⟩
  | z :: zs, o2, o3, h => by
    obtain ⟨o2', o3', e⟩ := v_loop (A := A) (B := B) zs (some (.int z.1)) (some (.int z.2)) fun w hw => h w (by simp [hw])
    refine ⟨o2', o3', ?_⟩
    have hg : (gTupD 2 (gConsD (gNm 2) (gConsD (gNm 3) gNilD))) (tm z) [A, B, o2, o3] = some [A, B, some (.int z.1), some (.int z.2)] := rfl
    have hm : pOp gMul (pV 2) (pV 3) [A, B, some (.int z.1), some (.int z.2)] = some (.int (z.1 * z.2)) := mul_i (h z (by simp))
    simp only [List.map_cons, lcGo, hg, Option.bind_some, tTrue, if_true, s_e hm, e, Option.map_some]
theorem ints_map : ∀ ns : List Int, intsOf (ns.map D.int) = some ns
  | [] => rfl
  | n :: ns => by simp only [List.map_cons, intsOf, ints_map ns, Option.map_some]
theorem zip_tm (xs ys : List Int) : ((xs.map D.int).zip (ys.map D.int)).map (fun z => D.tup [z.1, z.2]) = (xs.zip ys).map tm := by
  rw [List.zip_map, List.map_map]
  rfl
theorem val_eq (xs ys : List Int) (h : ∀ z ∈ xs.zip ys, mulC z.1 z.2 = true) (hl : xs.length ≤ 900) : g_value [.lst true (xs.map D.int), .lst true (ys.map D.int)] = some (.int ((xs.zip ys).map fun z => z.1 * z.2).sum, [.lst false (xs.map D.int), .lst false (ys.map D.int)]) := by
  obtain ⟨o2', o3', e⟩ := v_loop (A := some (.lst false (xs.map D.int))) (B := some (.lst false (ys.map D.int))) (xs.zip ys) none none h
  have hi : iZipD (dCp 0) (dCp 1) [some (.lst true (xs.map D.int)), some (.lst true (ys.map D.int))] = some ((xs.zip ys).map tm, [some (.lst false (xs.map D.int)), some (.lst false (ys.map D.int))]) := by
    simp only [inD, outD, sSeq, sIf, sSet, sRet, sRetN, sDrop, sSkip, sAsg, dTest, tAndD, tOrD, tNotD, dS, pOp, pV, pC, pNeg, gNeg, dget, pLst, evB, dOp, dCall, evM, fillM, backM, gI0, gI, gB0, gNm, gTupD, gConsD, gNilD, aNil, aCons, dLst, dTup, dCallB, pCall, D.sc, D.fz, D.fzL, dCp, dMv, dIx, ixD, intD, lenD, dAndV, dOrV, dNotV, Option.bind_some, Option.map_some, Option.bind_none, Option.map_none, Option.getD_some, Option.getD_none, List.map_cons, List.map_nil, List.length_cons, List.length_nil, List.replicate_zero, List.replicate_succ, List.append_nil, List.nil_append, List.cons_append, List.getElem?_cons_zero, List.getElem?_cons_succ, List.set_cons_zero, List.set_cons_succ, List.not_mem_nil, List.mem_cons, or_false, false_or, Nat.sub_self, Nat.zero_add, Nat.reduceAdd, Nat.reduceSub, Nat.reduceEqDiff, Nat.reduceLT, Nat.reduceLeDiff, Nat.zero_le, if_true, if_false, ite_true, ite_false, reduceIte, Bool.false_eq_true, Bool.true_eq_false, reduceCtorEq, Bool.not_true, Bool.not_false, iZipD, fz_ints, zip_tm]
  have hz : ((xs.zip ys).map tm).length ≤ sizeLine := by
    refine Nat.le_of_lt (size_ok ?_)
    simp; omega
  have h2 : List.replicate 2 (none : Option D) = [none, none] := rfl
  have hd : dLc 2 (iZipD (dCp 0) (dCp 1)) (gTupD 2 (gConsD (gNm 2) (gConsD (gNm 3) gNilD))) tTrue (dS (pOp gMul (pV 2) (pV 3))) [some (.lst true (xs.map D.int)), some (.lst true (ys.map D.int))] = some (.lst true (((xs.zip ys).map fun z => z.1 * z.2).map D.int), [some (.lst false (xs.map D.int)), some (.lst false (ys.map D.int))]) := by
    simp only [dLc, hi, Option.bind_some, hz, if_true, h2, List.cons_append, List.nil_append, e, Option.map_some]
    rfl
  have hs : sumD [.lst true (((xs.zip ys).map fun z => z.1 * z.2).map D.int)] = some (.int ((xs.zip ys).map fun z => z.1 * z.2).sum) := by
    simp only [sumD, ints_map, Option.map_some]
  have hc : dCallB sumD (aCons (dLc 2 (iZipD (dCp 0) (dCp 1)) (gTupD 2 (gConsD (gNm 2) (gConsD (gNm 3) gNilD))) tTrue (dS (pOp gMul (pV 2) (pV 3)))) aNil) [some (.lst true (xs.map D.int)), some (.lst true (ys.map D.int))] = some (.int ((xs.zip ys).map fun z => z.1 * z.2).sum, [some (.lst false (xs.map D.int)), some (.lst false (ys.map D.int))]) := by
    simp only [dCallB, acons_e hd nil_e, Option.bind_some, hs, Option.map_some]
  exact gOf_rt (σ0 := [some (.lst true (xs.map D.int)), some (.lst true (ys.map D.int))]) rfl (ret_e hc) rfl
end LW
namespace LW
open DD PySem L2
theorem call_l2 {g : GF} {σ : DSt} {i j : Nat} {o o' u u' : Bool} {xs ys xs' ys' : List D} {r : D} (hi : dget σ i = some (.lst o xs)) (hj0 : dget σ j = some (.lst o' ys)) (hj : dget (σ.set i none) j = some (.lst o' ys)) (hg : g [.lst o xs, .lst o' ys] = some (r, [.lst u xs', .lst u' ys'])) :
    dCall g [.bo i, .bo j] σ = some (r, (((σ.set i none).set j none).set i (some (.lst u xs'))).set j (some (.lst u' ys'))) := by
  simp only [dCall, evM, hi, hj0, Option.bind_some, Option.map_some, fillM, D.sc, hj, hg, backM]
theorem call_ex {g : GF} {c : DE} {σ σ' : DSt} {d r x : D} (hc : c σ = some (d, σ')) (hg : g [d] = some (r, [x])) : dCall g [.ex c] σ = some (r, σ') := by
  simp only [dCall, evM, hc, Option.bind_some, Option.map_some, fillM, hg, backM]
theorem loop_cons {g : DG} {b : DS} {x : D} {xs : List D} {σ σ1 σ2 : DSt} {r : Option Out} (h1 : g x σ = some σ1) (h2 : b σ1 = some (.nx σ2)) (h3 : dLoop g b xs σ2 = r) : dLoop g b (x :: xs) σ = r := by
  simp only [dLoop, h1, Option.bind_some, h2, h3]
theorem for_e {i : DI} {g : DG} {b : DS} {σ σ1 : DSt} {xs : List D} {r : Option Out} (h1 : i σ = some (xs, σ1)) (h2 : dLoop g b xs σ1 = r) : sForI i g b σ = r := by
  simp only [sForI, h1, Option.bind_some, h2]
theorem lc_nat {σ : DSt} {c : DE} {f : Nat → Int} {k G : Nat} (hk : k = σ.length) (hc : ∀ i, i < G → c (σ ++ [some (.int (0 + (i : Nat)))]) = some (.int (f i), σ ++ [some (.int (0 + (i : Nat)))])) : ∀ (ks : List Nat) (o : Option D), (∀ i ∈ ks, i < G) → ∃ o', lcGo (gNm k) tTrue c (ks.map fun i => D.int ((0 : Int) + (i : Nat))) (σ ++ [o]) = some ((ks.map f).map D.int, σ ++ [o'])
  | [], o, _ => ⟨o, rfl⟩
  | i :: ks, o, hi => by
    obtain ⟨o', h⟩ := lc_nat hk hc ks (some (.int (0 + (i : Nat)))) fun q hq => hi q (by simp [hq])
    refine ⟨o', ?_⟩
    subst hk
    have hl : σ.length < (σ ++ [o]).length := by simp
    simp only [List.map_cons, lcGo, gNm, hl, if_true, set_end, Option.bind_some, tTrue, hc i (hi i (by simp)), h, Option.map_some]
theorem mul_p {p q : DP} {σ : DSt} {x y : Int} (h1 : p σ = some (.int x)) (h2 : q σ = some (.int y)) (h : mulC x y = true) : pOp gMul p q σ = some (.int (x * y)) := by
  simp only [pOp, h1, h2, Option.bind_some]
  exact mul_i h
theorem ix_p {p q : DP} {σ : DSt} {o : Bool} {xs : List Int} {i : Nat} (h1 : p σ = some (.lst o (xs.map D.int))) (h2 : q σ = some (.int (0 + (i : Nat)))) (h : i < xs.length) : pOp ixD p q σ = some (.int (xs.getD i 0)) := by
  have e := at_int h
  simp only [pOp, h1, h2, Option.bind_some, ixD, Int.zero_add, e]
  simp [List.getD, h]
theorem sum_zip {xs ys : List Int} {G : Nat} (hx : xs.length = G) (hy : ys.length = G) : ((xs.zip ys).map fun z => z.1 * z.2) = (List.range G).map fun i => xs.getD i 0 * ys.getD i 0 := by
  apply List.ext_getElem
  · simp [hx, hy]
  · intro i h1 h2
    have h3 : i < G := by simpa using h2
    simp [List.getD, hx, hy, h3]
theorem zip_mul {xs ys : List Int} (h : ∀ v ∈ ys, -10 < v ∧ v < 10) : ∀ z ∈ xs.zip ys, mulC z.1 z.2 = true := fun z hz => by
  have := h z.2 (List.of_mem_zip hz).2
  simp only [mulC, decide_eq_true_eq]; omega
theorem getD_mul {xs ys : List Int} (h : ∀ v ∈ ys, -10 < v ∧ v < 10) {i : Nat} (hi : i < ys.length) : mulC (xs.getD i 0) (ys.getD i 0) = true := by
  have h1 : ys.getD i 0 ∈ ys := by simp [List.getD, hi]
  have := h _ h1
  simp only [mulC, decide_eq_true_eq]; omega
section
variable {s0 o2 o3 o4 o5 o6 o7 o8 o9 o10 o11 o12 o13 o14 : Option D} {ms : List Int} {n a b c : Int} {G : Nat}
theorem ifV {xs ys : List Int} (hx : xs.length = G) (hy : ys.length = G) (hG : G ≤ 15) (h : ∀ v ∈ ys, -10 < v ∧ v < 10) :
    (sIf (dTest (dOp gNe (dCall g_value [.bo 12, .bo 13]) (dCallB sumD (aCons (dLc 1 (iR1 (aCons (dS (pV 4)) aNil)) (gNm 14) tTrue (dS (pOp gMul (pOp ixD (pV 12) (pV 14)) (pOp ixD (pV 13) (pV 14))))) aNil)))) (sRet (dS (pC (.bl false)))) sSkip)
      (lS s0 ms o2 n G a b c o8 o9 o10 o11 (some (.lst true (xs.map D.int))) (some (.lst true (ys.map D.int)))) = some (.nx (lS s0 ms o2 n G a b c o8 o9 o10 o11 (some (.lst false (xs.map D.int))) (some (.lst false (ys.map D.int))))) := by
  have e1 : dCall g_value [.bo 12, .bo 13] (lS s0 ms o2 n G a b c o8 o9 o10 o11 (some (.lst true (xs.map D.int))) (some (.lst true (ys.map D.int)))) = some (.int ((xs.zip ys).map fun z => z.1 * z.2).sum, lS s0 ms o2 n G a b c o8 o9 o10 o11 (some (.lst false (xs.map D.int))) (some (.lst false (ys.map D.int)))) :=
    call_l2 rfl rfl rfl (val_eq xs ys (zip_mul h) (by omega))
  obtain ⟨o', e2⟩ := lc_nat (σ := lS s0 ms o2 n G a b c o8 o9 o10 o11 (some (.lst false (xs.map D.int))) (some (.lst false (ys.map D.int)))) (c := dS (pOp gMul (pOp ixD (pV 12) (pV 14)) (pOp ixD (pV 13) (pV 14)))) (f := fun i => xs.getD i 0 * ys.getD i 0) (k := 14) (G := G) rfl
    (fun i hi => s_e (mul_p (ix_p (o := false) rfl rfl (by omega)) (ix_p (o := false) rfl rfl (by omega)) (getD_mul h (by omega)))) (List.range G) none (fun i hi => List.mem_range.mp hi)
  have hi : iR1 (aCons (dS (pV 4)) aNil) (lS s0 ms o2 n G a b c o8 o9 o10 o11 (some (.lst false (xs.map D.int))) (some (.lst false (ys.map D.int)))) = some (rngD 0 G, lS s0 ms o2 n G a b c o8 o9 o10 o11 (some (.lst false (xs.map D.int))) (some (.lst false (ys.map D.int)))) := iR1_e rfl hG
  have hz : (rngD 0 (G : Int)).length ≤ sizeLine := by rw [rng_len]; exact szG hG
  have hr : rngD 0 (G : Int) = (List.range G).map fun i => D.int ((0 : Int) + (i : Nat)) := by simp [rngD]
  rw [← hr] at e2
  have e3 := lc_e1 hi hz e2 rfl
  rw [← sum_zip hx hy] at e3
  generalize ((xs.zip ys).map fun z => z.1 * z.2) = zs at *
  have hs : sumD [.lst true (zs.map D.int)] = some (.int zs.sum) := by
    simp only [sumD, ints_map, Option.map_some]
  have e4 : dCallB sumD (aCons (dLc 1 (iR1 (aCons (dS (pV 4)) aNil)) (gNm 14) tTrue (dS (pOp gMul (pOp ixD (pV 12) (pV 14)) (pOp ixD (pV 13) (pV 14))))) aNil) (lS s0 ms o2 n G a b c o8 o9 o10 o11 (some (.lst false (xs.map D.int))) (some (.lst false (ys.map D.int)))) = some (.int zs.sum, lS s0 ms o2 n G a b c o8 o9 o10 o11 (some (.lst false (xs.map D.int))) (some (.lst false (ys.map D.int)))) := by
    simp only [dCallB, acons_e e3 nil_e, Option.bind_some, hs, Option.map_some]
  have e5 : gNe (.int zs.sum) (.int zs.sum) = some (.bl false) := by rw [gNe_int]; simp
  exact (if_f (test_e (op_e e1 e4 e5))).trans rfl
theorem ifG (hn : Cn n G) : (sIf (tOrD (tNotD (dTest (dCall g__law_whole [.ex (dCall g_greatest [.bo 3])]))) (dTest (dOp gNe (dCall g_greatest [.bo 3]) (dS (pV 4))))) (sRet (dS (pC (.bl false)))) sSkip) (lS s0 ms o2 n G a b c o8 o9 o10 o11 o12 o13) = some (.nx (lS s0 ms o2 n G a b c o8 o9 o10 o11 o12 o13)) := by
  have e1 : dCall g_greatest [.bo 3] (lS s0 ms o2 n G a b c o8 o9 o10 o11 o12 o13) = some (.int G, lS s0 ms o2 n G a b c o8 o9 o10 o11 o12 o13) := call_b1 rfl (gr_eq hn)
  have e5 : gNe (.int G) (.int G) = some (.bl false) := by rw [gNe_int]; simp
  exact (if_f (or_f (not_e (test_e (call_ex e1 (whole_eq G)))) (test_e (op_e e1 (s_e rfl) e5)))).trans rfl
end
end LW
namespace LW
open DD PySem L2
section
variable {s0 o2 o3 o4 o5 o6 o7 o8 o9 o10 o11 o12 o13 o14 : Option D} {ms : List Int} {n a b c : Int} {G : Nat}
theorem ix2 {x y : Int} {q : Bool} : ∃ z, (z = x ∨ z = y) ∧ ixD (.lst true [.int x, .int y]) (.int (if q = true then 1 else 0)) = some (.int z) := by
  cases q
  · exact ⟨x, .inl rfl, rfl⟩
  · exact ⟨y, .inr rfl, rfl⟩
abbrev inBody : DS := (sSeq (sSet 10 (dLst (aCons (dCall g_unsure [.bo 3, .bo 5]) (aCons (dCall g_rest [.bo 3, .bo 5, .bo 7]) (aCons (dCall g_shared [.bo 3, .bo 5, .bo 6, .bo 7]) aNil)))))
      (sSeq (sIf (tOrD (dTest (dOp gNe (dSel (ownL 10) (dLcB 10 14 (tNotD (dTest (dCall g__law_wholes [.bo 14]))) (dCp 14)) (dLc 1 (iLst (dCp 10)) (gNm 14) (tNotD (dTest (dCall g__law_wholes [.bo 14]))) (dCp 14))) (dLst aNil))) (dTest (dS (pOp gNe (pV 10) (pV 8))))) (sRet (dS (pC (.bl false)))) sSkip)
      (sSel (ownL 10) (sForB 10 11 (sDrop (dApp 11 [] (pC (.int 0))))) (sForI (iLst (dCp 10)) (gNm 11) (sDrop (dApp 11 [] (pC (.int 0))))))))
theorem rl {f : Nat → Int} (hG : G ≤ 15) : (rowF G f).length ≤ 900 := by rw [rowF_len]; omega
theorem in_turn (hn : Cn n G) (h0 : 1 ≤ a) (h1 : a ≤ G) (g0 : 1 ≤ b) (g1 : b ≤ G) (k0 : 0 ≤ c) (k1 : c ≤ G) : ∃ o10' o11', inBody (lS s0 ms o2 n G a b c (some (.lst true (rw3 (rowF G (dA a)) (rowF G (dB a c)) (rowF G (dC a b c))))) o9 o10 o11 o12 o13) =
    some (.nx (lS s0 ms o2 n G a b c (some (.lst true (rw3 (rowF G (dA a)) (rowF G (dB a c)) (rowF G (dC a b c))))) o9 o10' o11' o12 o13)) :=
  ⟨_, _, seq_e (set10 hn h0 h1 g0 g1 k0 k1) (seq_e (if10 (rl hn.le.2.2.2) (rl hn.le.2.2.2) (rl hn.le.2.2.2)) (for10 (rl hn.le.2.2.2) (rl hn.le.2.2.2) (rl hn.le.2.2.2)))⟩
theorem rOk2 : rOk 2 = true := by decide
theorem in_loop (hn : Cn n G) (h0 : 1 ≤ a) (h1 : a ≤ G) (g0 : 1 ≤ b) (g1 : b ≤ G) (k0 : 0 ≤ c) (k1 : c ≤ G) : ∃ o9' o10' o11', sForI (iR1 (aCons (dS (pC (.int 2))) aNil)) (gNm 9) inBody (lS s0 ms o2 n G a b c (some (.lst true (rw3 (rowF G (dA a)) (rowF G (dB a c)) (rowF G (dC a b c))))) o9 o10 o11 o12 o13) =
    some (.nx (lS s0 ms o2 n G a b c (some (.lst true (rw3 (rowF G (dA a)) (rowF G (dB a c)) (rowF G (dC a b c))))) o9' o10' o11' o12 o13)) := by
  obtain ⟨p10, p11, e1⟩ := in_turn (s0 := s0) (ms := ms) (o2 := o2) (o9 := some (.int 0)) (o10 := o10) (o11 := o11) (o12 := o12) (o13 := o13) hn h0 h1 g0 g1 k0 k1
  obtain ⟨q10, q11, e2⟩ := in_turn (s0 := s0) (ms := ms) (o2 := o2) (o9 := some (.int 1)) (o10 := p10) (o11 := p11) (o12 := o12) (o13 := o13) hn h0 h1 g0 g1 k0 k1
  refine ⟨some (.int 1), q10, q11, for_e (iR1_j (acons_e c_e nil_e) rOk2) ?_⟩
  have hr : rngD 0 2 = [.int 0, .int 1] := rfl
  rw [hr]
  exact loop_cons rfl e1 (loop_cons rfl e2 rfl)
abbrev lwBody : DS := (sSeq (sSet 3 (dOp gAdd (dS (pC (.int 1))) (dOp gMod (dCall g__law_pop [.bo 1]) (dS (pC (.int 4))))))
      (sSeq (sSet 4 (dS (pOp gSub (pOp gShl (pC (.int 1)) (pV 3)) (pC (.int 1)))))
      (sSeq (sSet 5 (dOp gAdd (dS (pC (.int 1))) (dOp gMod (dCall g__law_pop [.bo 1]) (dS (pV 4)))))
      (sSeq (sSet 6 (dIx (dLst (aCons (dOp gAdd (dS (pC (.int 1))) (dOp gMod (dCall g__law_pop [.bo 1]) (dS (pV 4)))) (aCons (dS (pV 5)) aNil))) (dCallB intD (aCons (dOp gEq (dOp gMod (dCall g__law_pop [.bo 1]) (dS (pC (.int 5)))) (dS (pC (.int 0)))) aNil))))
      (sSeq (sSet 7 (dOp gMod (dCall g__law_pop [.bo 1]) (dS (pOp gAdd (pV 4) (pC (.int 1))))))
      (sSeq (sIf (tOrD (tNotD (dTest (dCall g__law_whole [.ex (dCall g_greatest [.bo 3])]))) (dTest (dOp gNe (dCall g_greatest [.bo 3]) (dS (pV 4))))) (sRet (dS (pC (.bl false)))) sSkip)
      (sSeq (sSet 8 (dCall g__law_due [.bo 3, .bo 5, .bo 6, .bo 7]))
      (sSeq (sForI (iR1 (aCons (dS (pC (.int 2))) aNil)) (gNm 9) inBody)
      (sSeq (sSet 12 (dLc 1 (iR1 (aCons (dS (pV 4)) aNil)) (gNm 14) tTrue (dOp gSub (dOp gMul (dCall g__law_pop [.bo 1]) (dS (pOp gPow (pC (.int 10)) (pC (.int 20))))) (dS (pOp gPow (pC (.int 10)) (pC (.int 29)))))))
      (sSeq (sSet 13 (dLc 1 (iR1 (aCons (dS (pV 4)) aNil)) (gNm 14) tTrue (dOp gSub (dOp gMod (dCall g__law_pop [.bo 1]) (dS (pC (.int 9)))) (dS (pC (.int 4))))))
      (sIf (dTest (dOp gNe (dCall g_value [.bo 12, .bo 13]) (dCallB sumD (aCons (dLc 1 (iR1 (aCons (dS (pV 4)) aNil)) (gNm 14) tTrue (dS (pOp gMul (pOp ixD (pV 12) (pV 14)) (pOp ixD (pV 13) (pV 14))))) aNil)))) (sRet (dS (pC (.bl false)))) sSkip)))))))))))
theorem lw_turn (hb : Bd ms) : ∃ (ms' : List Int) (p3 p4 p5 p6 p7 p8 p9 p10 p11 p12 p13 : Option D), Bd ms' ∧ lwBody [s0, Pl ms, o2, o3, o4, o5, o6, o7, o8, o9, o10, o11, o12, o13] = some (.nx [s0, Pl ms', o2, p3, p4, p5, p6, p7, p8, p9, p10, p11, p12, p13]) := by
  obtain ⟨n, m1, hb, hn1, e3⟩ := e_n (s0 := s0) (ρ := [o2, o3, o4, o5, o6, o7, o8, o9, o10, o11, o12, o13]) (p := pC (.int 4)) hb (show (0 : Int) < 4 by decide) (fun _ => rfl)
  obtain ⟨G, hn⟩ := Cn.mk hn1.1 hn1.2
  have hG := hn.le
  have hG0 : (0 : Int) < (G : Int) := by omega
  have e4 := s_e (shl_p (p := pV 3) (σ := [s0, Pl m1, o2, some (.int n), o4, o5, o6, o7, o8, o9, o10, o11, o12, o13]) hn rfl)
  obtain ⟨a, m2, hb, ha, e5⟩ := e_n (s0 := s0) (ρ := [o2, some (.int n), some (.int G), o5, o6, o7, o8, o9, o10, o11, o12, o13]) (p := pV 4) hb hG0 (fun _ => rfl)
  obtain ⟨x, m3, hb, hx, e6⟩ := e_n (s0 := s0) (ρ := [o2, some (.int n), some (.int G), some (.int a), o6, o7, o8, o9, o10, o11, o12, o13]) (p := pV 4) hb hG0 (fun _ => rfl)
  obtain ⟨y, m4, hb, hy, e7⟩ := e_m (s0 := s0) (ρ := [o2, some (.int n), some (.int G), some (.int a), o6, o7, o8, o9, o10, o11, o12, o13]) (p := pC (.int 5)) hb (show (0 : Int) < 5 by decide) (fun _ => rfl)
  obtain ⟨b, hbb, e8⟩ := ix2 (x := x) (y := a) (q := y == 0)
  have hb1 : 1 ≤ b ∧ b ≤ G := by rcases hbb with rfl | rfl <;> assumption
  have f6 : dIx (dLst (aCons (dOp gAdd (dS (pC (.int 1))) (dOp gMod (dCall g__law_pop [.bo 1]) (dS (pV 4)))) (aCons (dS (pV 5)) aNil))) (dCallB intD (aCons (dOp gEq (dOp gMod (dCall g__law_pop [.bo 1]) (dS (pC (.int 5)))) (dS (pC (.int 0)))) aNil)) [s0, Pl m2, o2, some (.int n), some (.int G), some (.int a), o6, o7, o8, o9, o10, o11, o12, o13] = some (.int b, [s0, Pl m4, o2, some (.int n), some (.int G), some (.int a), o6, o7, o8, o9, o10, o11, o12, o13]) := by
    have t1 := lst_e (acons_e e6 (acons_e (s_e (p := pV 5) (x := a) rfl) nil_e)) (szS (by show 2 ≤ 15; decide))
    have t2 := acons_e (op_e e7 (c_e (x := 0)) (gEq_int y 0)) nil_e
    have t3 : intD [.bl (y == 0)] = some (.int (if (y == 0) = true then 1 else 0)) := rfl
    simp only [dIx, t1, Option.bind_some, dCallB, t2, t3, Option.map_some, e8]
  obtain ⟨c, m5, hb, hc, e9⟩ := e_m (s0 := s0) (ρ := [o2, some (.int n), some (.int G), some (.int a), some (.int b), o7, o8, o9, o10, o11, o12, o13]) (p := pOp gAdd (pV 4) (pC (.int 1))) (k := (G : Int) + 1) hb (by omega) (fun _ => rfl)
  obtain ⟨p9, p10, p11, e10⟩ := in_loop (s0 := s0) (ms := m5) (o2 := o2) (o9 := o9) (o10 := o10) (o11 := o11) (o12 := o12) (o13 := o13) (c := c) hn ha.1 ha.2 hb1.1 hb1.2 hc.1 (by omega)
  obtain ⟨xs, m6, hb, hxs, e12⟩ := set12 (s0 := s0) (o2 := o2) (n := n) (a := a) (b := b) (c := c) (o8 := some (.lst true (rw3 (rowF G (dA a)) (rowF G (dB a c)) (rowF G (dC a b c))))) (o9 := p9) (o10 := p10) (o11 := p11) (o12 := o12) (o13 := o13) hb hG.2.2.2
  obtain ⟨ys, m7, hb, hyb, hys, e13⟩ := set13 (s0 := s0) (o2 := o2) (n := n) (a := a) (b := b) (c := c) (o8 := some (.lst true (rw3 (rowF G (dA a)) (rowF G (dB a c)) (rowF G (dC a b c))))) (o9 := p9) (o10 := p10) (o11 := p11) (o12 := some (.lst true (xs.map D.int))) (o13 := o13) hb hG.2.2.2
  exact ⟨m7, _, _, _, _, _, _, _, _, _, _, _, hb, seq_e (set_e e3 (by simp)) (seq_e (set_e e4 (by simp)) (seq_e (set_e e5 (by simp)) (seq_e (set_e f6 (by simp)) (seq_e (set_e e9 (by simp)) (seq_e (ifG hn) (seq_e (set_e (call_b4 (i := 3) (j := 5) (k := 6) (l := 7) rfl rfl rfl rfl (due_c hn)) (by simp)) (seq_e e10 (seq_e e12 (seq_e e13 (ifV hxs hys hG.2.2.2 hyb))))))))))⟩
theorem lw_loop : ∀ (ds : List D) (ms : List Int) (o2 o3 o4 o5 o6 o7 o8 o9 o10 o11 o12 o13 : Option D), Bd ms → ∃ (ms' : List Int) (p2 p3 p4 p5 p6 p7 p8 p9 p10 p11 p12 p13 : Option D), dLoop (gNm 2) lwBody ds [s0, Pl ms, o2, o3, o4, o5, o6, o7, o8, o9, o10, o11, o12, o13] = some (.nx [s0, Pl ms', p2, p3, p4, p5, p6, p7, p8, p9, p10, p11, p12, p13])
  | [], ms, o2, o3, o4, o5, o6, o7, o8, o9, o10, o11, o12, o13, _ => ⟨ms, o2, o3, o4, o5, o6, o7, o8, o9, o10, o11, o12, o13, rfl⟩
  | d :: ds, ms, o2, o3, o4, o5, o6, o7, o8, o9, o10, o11, o12, o13, hb => by
    obtain ⟨ms', p3, p4, p5, p6, p7, p8, p9, p10, p11, p12, p13, hb', e1⟩ := lw_turn (s0 := s0) (o2 := some d) (o3 := o3) (o4 := o4) (o5 := o5) (o6 := o6) (o7 := o7) (o8 := o8) (o9 := o9) (o10 := o10) (o11 := o11) (o12 := o12) (o13 := o13) hb
    obtain ⟨ms2, q2, q3, q4, q5, q6, q7, q8, q9, q10, q11, q12, q13, e2⟩ := lw_loop ds ms' (some d) p3 p4 p5 p6 p7 p8 p9 p10 p11 p12 p13 hb'
    exact ⟨ms2, q2, q3, q4, q5, q6, q7, q8, q9, q10, q11, q12, q13, loop_cons rfl e1 e2⟩
end
end LW
namespace LW
open DD PySem L2
theorem call_dr {g : GF} {xs : List D} {ρ : DSt} {r : D} {t m : Int} (h : g [.lst false xs, .int t, .int m] = some (r, [.lst false xs, .int t, .int m])) : dCall g [.bo 0, .ex (dS (pC (.int t))), .ex (dS (pC (.int m)))] (some (.lst false xs) :: ρ) = some (r, some (.lst false xs) :: ρ) := by
  have hd : dget (some (D.lst false xs) :: ρ) 0 = some (.lst false xs) := rfl
  simp only [dCall, evM, hd, c_e, Option.bind_some, Option.map_some, fillM, D.sc, h, backM, List.set_cons_zero]
theorem rOk8 : rOk 8 = true := by decide
theorem holds : ∀ ns : List Int, ns.length ≤ 63 → ∃ d, g_law [.lst false (ns.map D.int)] = some (.bl true, [d]) := by
  intro ns hl
  obtain ⟨ms, hb, e⟩ := draws_eq ns hl
  have b1 : sSet 1 (dCall g__law_draws [.bo 0, .ex (dS (pC (.int 1))), .ex (dS (pC (.int 120)))]) [some (.lst false (ns.map D.int)), none, none, none, none, none, none, none, none, none, none, none, none, none] = some (.nx [some (.lst false (ns.map D.int)), Pl ms, none, none, none, none, none, none, none, none, none, none, none, none]) := set_e (call_dr e) (by simp)
  obtain ⟨m2, q2, q3, q4, q5, q6, q7, q8, q9, q10, q11, q12, q13, e2⟩ := lw_loop (s0 := some (.lst false (ns.map D.int))) (rngD 0 8) ms none none none none none none none none none none none none hb
  have b2 : sForI (iR1 (aCons (dS (pC (.int 8))) aNil)) (gNm 2) lwBody [some (.lst false (ns.map D.int)), Pl ms, none, none, none, none, none, none, none, none, none, none, none, none] = _ := for_e (iR1_j (acons_e c_e nil_e) rOk8) e2
  refine ⟨.lst false (ns.map D.int), ?_⟩
  exact gOf_rt (c := c_law) (σ0 := [some (.lst false (ns.map D.int)), none, none, none, none, none, none, none, none, none, none, none, none, none]) (σ := [some (.lst false (ns.map D.int)), Pl m2, q2, q3, q4, q5, q6, q7, q8, q9, q10, q11, q12, q13]) rfl (seq_e b1 (seq_e b2 rfl)) rfl
end LW
open PySem PySem.W PyProof.Rows
set_option maxRecDepth 100000 in
set_option maxHeartbeats 0 in
theorem PySem.Challenge.cw_telltight_k01_rows_of_groups_holds : PySem.Challenge.rw_telltight_k01_rows_of_groups.Holds := by
  w_on; o_law; k_head; (case hw => w_witness2)
  k_fill
  refine LW.walk (l := PySem.Challenge.rw_telltight_k01_rows_of_groups) rfl rfl (fun w h Y => PySem.W.kIn_of Y) LW.holds ?F
  case F =>
    intro w mg fa h KX G hmg
    refine' LW.all_mk KX G hmg ?a0 ?l0 ?c0 ?k0 ?a1 ?l1 ?c1 ?k1 ?a2 ?l2 ?c2 ?k2 ?a3 ?l3 ?c3 ?k3 ?a4 ?l4 ?c4 ?k4 ?a5 ?l5 ?c5 ?k5 ?a6 ?l6 ?c6 ?k6 ?a7 ?l7 ?c7 ?k7 ?a8 ?l8 ?c8 ?k8 ?a9 ?l9 ?c9 ?k9 ?a10 ?l10 ?c10 ?k10 ?a11 ?l11 ?c11 ?k11 ?a12 ?l12 ?c12 ?k12 ?a13 ?l13 ?c13 ?k13 ?a14 ?l14 ?c14 ?k14 ?a15 ?l15 ?c15 ?k15 ?a16 ?l16 ?c16 ?k16 ?a17 ?l17 ?c17 ?k17 ?a18 ?l18 ?c18 ?k18 ?a19 ?l19 ?c19 ?k19 ?a20 ?l20 ?c20 ?k20 ?z_bool ?z_int ?z_isinstance ?z_len ?z_list ?z_range ?z_sum ?z_zip ?v_MOST_NAMES
    (case a0 => k_is)
    (case l0 => k_is)
    (case c0 => k_is)
    (case k0 => k_is)
    (case a1 => k_is)
    (case l1 => k_is)
    (case c1 => k_is)
    (case k1 => k_is)
    (case a2 => k_is)
    (case l2 => k_is)
    (case c2 => k_is)
    (case k2 => k_is)
    (case a3 => k_is)
    (case l3 => k_is)
    (case c3 => k_is)
    (case k3 => k_is)
    (case a4 => k_is)
    (case l4 => k_is)
    (case c4 => k_is)
    (case k4 => k_is)
    (case a5 => k_is)
    (case l5 => k_is)
    (case c5 => k_is)
    (case k5 => k_is)
    (case a6 => k_is)
    (case l6 => k_is)
    (case c6 => k_is)
    (case k6 => k_is)
    (case a7 => k_is)
    (case l7 => k_is)
    (case c7 => k_is)
    (case k7 => k_is)
    (case a8 => k_is)
    (case l8 => k_is)
    (case c8 => k_is)
    (case k8 => k_is)
    (case a9 => k_is)
    (case l9 => k_is)
    (case c9 => k_is)
    (case k9 => k_is)
    (case a10 => k_is)
    (case l10 => k_is)
    (case c10 => k_is)
    (case k10 => k_is)
    (case a11 => k_is)
    (case l11 => k_is)
    (case c11 => k_is)
    (case k11 => k_is)
    (case a12 => k_is)
    (case l12 => k_is)
    (case c12 => k_is)
    (case k12 => k_is)
    (case a13 => k_is)
    (case l13 => k_is)
    (case c13 => k_is)
    (case k13 => k_is)
    (case a14 => k_is)
    (case l14 => k_is)
    (case c14 => k_is)
    (case k14 => k_is)
    (case a15 => k_is)
    (case l15 => k_is)
    (case c15 => k_is)
    (case k15 => k_is)
    (case a16 => k_is)
    (case l16 => k_is)
    (case c16 => k_is)
    (case k16 => k_is)
    (case a17 => k_is)
    (case l17 => k_is)
    (case c17 => k_is)
    (case k17 => k_is)
    (case a18 => k_is)
    (case l18 => k_is)
    (case c18 => k_is)
    (case k18 => k_is)
    (case a19 => k_is)
    (case l19 => k_is)
    (case c19 => k_is)
    (case k19 => k_is)
    (case a20 => k_is)
    (case l20 => k_is)
    (case c20 => k_is)
    (case k20 => k_is)
    (case z_bool => k_is)
    (case z_int => k_is)
    (case z_isinstance => k_is)
    (case z_len => k_is)
    (case z_list => k_is)
    (case z_range => k_is)
    (case z_sum => k_is)
    (case z_zip => k_is)
    (case v_MOST_NAMES => k_is)
#print axioms PySem.Challenge.cw_telltight_k01_rows_of_groups_holds
