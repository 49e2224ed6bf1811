import PyProof.Rows.All
import Wide.All
import OpenK.AllK
import Wide.FinOn
import Lean
import PyProof.EqAt
import PyProof.EqKinds
import PyProof.TupleCall
import PyProof.NeKinds
import PyProof.Rows.FStr
import PyProof.Rows.Range3
import PyProof.StrLawsIn
import PyProof.WalksEnum
import PyProof.EnumMake
import PyProof.Rows.EnumRows
import PyProof.Rows.StrNews2
import PyProof.StrLawsFirst
import PyProof.StrLawsChain
import PyProof.StrLawsTight
import PyProof.StrBlockH
import KE.KEqDict
import PyProof.DictWalks
import PyProof.ListRange
import PyProof.FactsAll.subtypes_5
import PyProof.Rows.SetFrom
import KE.KDictSum
import PyProof.TupleKey
import PySem.Challenge.RW_kinwords_k07_keeps_sayings_of_ties
-- CHANGE: your row's module here, as the last of these rows
set_option Elab.async false
set_option linter.all false
set_option maxRecDepth 100000
/-! THE HAND LAYER, for ints, bools, texts, own classes, LISTS and tuples (index, slices, in, append, pop ..), calls, loops. Paste it whole ahead of your own text; what your proof does not reach may be deleted. -/
namespace L2
open PySem PySem.Spec PyProof.Rows

/-- a key: an int or a str -/
abbrev Key := Sum Int Str
def keyIs : Key → Value → Bool
  | .inl k, v => Value.isInt k v
  | .inr x, v => Value.isStrOf x v
def keyH (w : World) : Key → Int
  | .inl k => hashInt k
  | .inr x => hashStr w x
theorem keyIs_shape : ∀ {k : Key} {v : Value}, keyIs k v = true → (∃ i t, k = Sum.inl i ∧ v = Value.int i t) ∨ (∃ x t, k = Sum.inr x ∧ v = Value.str x t)
  | .inl i, v, h => by
    obtain ⟨t, e⟩ := Value.isInt_shape (k := i) (v := v) h
    exact .inl ⟨i, t, rfl, e⟩
  | .inr x, v, h => by
    obtain ⟨t, e⟩ := Value.isStrOf_shape (x := x) (v := v) h
    exact .inr ⟨x, t, rfl, e⟩
theorem keyIs_int (i : Int) (t : Tok) : keyIs (.inl i) (.int i t) = true := by simp [keyIs, Value.isInt]
theorem keyIs_str (x : Str) (t : Tok) : keyIs (.inr x) (.str x t) = true := by simp [keyIs, Value.isStrOf]
theorem key_ll (a b : Int) : decide ((Sum.inl a : Key) = Sum.inl b) = (a == b) := by
  by_cases e : a = b
  · subst e; simp
  · have h : ¬ (Sum.inl a : Key) = Sum.inl b := fun q => e (Sum.inl.inj q)
    rw [decide_eq_false h]
    exact (beq_eq_false_iff_ne.mpr e).symm
theorem key_rr (a b : Str) : decide ((Sum.inr a : Key) = Sum.inr b) = decide (a = b) := by
  by_cases e : a = b
  · subst e; simp
  · have h : ¬ (Sum.inr a : Key) = Sum.inr b := fun q => e (Sum.inr.inj q)
    rw [decide_eq_false h, decide_eq_false e]
theorem key_lr (a : Int) (b : Str) : decide ((Sum.inl a : Key) = Sum.inr b) = false := decide_eq_false (fun q => nomatch q)
theorem key_rl (a : Str) (b : Int) : decide ((Sum.inr a : Key) = Sum.inl b) = false := decide_eq_false (fun q => nomatch q)

def mixKind (prog : Program) (w : World) : PySem.KeyKind prog w Key where
  is := keyIs
  hash := keyH w
  inj := fun v a b ha hb => by
    rcases keyIs_shape ha with ⟨i, t, rfl, rfl⟩ | ⟨x, t, rfl, rfl⟩
    · rcases keyIs_shape hb with ⟨j, u, rfl, e⟩ | ⟨y, u, rfl, e⟩
      · injection e with e1 _; rw [e1]
      · exact nomatch e
    · rcases keyIs_shape hb with ⟨j, u, rfl, e⟩ | ⟨y, u, rfl, e⟩
      · exact nomatch e
      · injection e with e1 _; rw [e1]
  byValue := fun k v h => by
    rcases keyIs_shape h with ⟨i, t, rfl, rfl⟩ | ⟨x, t, rfl, rfl⟩ <;> rfl
  pyHash := fun hv h => by
    rcases keyIs_shape hv with ⟨i, t, rfl, rfl⟩ | ⟨x, t, rfl, rfl⟩
    · exact wpAny_pyHash_int h
    · exact wpAny_pyHash_str h
  eqBool := fun hu hv h => by
    rcases keyIs_shape hu with ⟨i, t, rfl, rfl⟩ | ⟨x, t, rfl, rfl⟩
    · rcases keyIs_shape hv with ⟨j, u, rfl, rfl⟩ | ⟨y, u, rfl, rfl⟩
      · rw [key_ll] at h; exact wpAny_eqBool_int h
      · rw [key_lr] at h; exact SeqAt.EqAt.int_str i t y u _ _ _ _ h
    · rcases keyIs_shape hv with ⟨j, u, rfl, rfl⟩ | ⟨y, u, rfl, rfl⟩
      · rw [key_rl] at h; exact SeqAt.EqAt.str_int x t j u _ _ _ _ h
      · rw [key_rr] at h; exact wpAny_eqBool_str h
  «strs» := fun k x t v h => by
    rcases keyIs_shape h with ⟨i, u, rfl, e⟩ | ⟨y, u, rfl, e⟩
    · exact nomatch e
    · injection e with e1 _
      subst e1
      cases v <;> rfl

theorem mixKind_is (prog : Program) (w : World) (k : Key) (v : Value) : (mixKind prog w).is k v = keyIs k v := rfl
theorem mixKind_int (prog : Program) (w : World) (i : Int) (t : Tok) : (mixKind prog w).is (.inl i) (.int i t) = true := keyIs_int i t
theorem mixKind_str (prog : Program) (w : World) (x : Str) (t : Tok) : (mixKind prog w).is (.inr x) (.str x t) = true := keyIs_str x t
end L2

namespace L2
open PySem PySem.Spec PyProof.Rows

/-- a value, without the heap -/
inductive V where
  | non | bl (b : Bool) | int (i : Int) | str (x : Str) | byt (b : Array UInt8) | flt (b : UInt64) | ref (a : Addr) | ty (n : String)
  deriving DecidableEq

def RelV : V → Value → Prop
  | .non, u => u = Value.none
  | .bl b, u => u = Value.bool b
  | .int i, u => ∃ t, u = Value.int i t
  | .str x, u => ∃ t, u = Value.str x t
  | .byt b, u => ∃ t, u = Value.bytes b t
  | .flt b, u => ∃ t, u = Value.float b t
  | .ref a, u => u = Value.ref a
  | .ty n, u => u = Value.type n

abbrev Vals : List V → List Value → Prop := Paired RelV
theorem Vals.length {xs : List V} {us : List Value} (r : Vals xs us) : xs.length = us.length := Paired.length r
theorem Vals.get : ∀ {xs : List V} {us : List Value} {i : Nat} {x : V}, Vals xs us → xs[i]? = some x → ∃ u, us[i]? = some u ∧ RelV x u
  | _, _, _, _, .nil, e => by simp at e
  | _, _, 0, _, .cons r _, e => by simp at e; subst e; exact ⟨_, rfl, r⟩
  | _, _, i + 1, x, .cons _ t, e => by
    obtain ⟨u, h1, h2⟩ := Vals.get (i := i) (x := x) t (by simpa using e)
    exact ⟨u, by simpa using h1, h2⟩
theorem Vals.set {x : V} {u : Value} (r : RelV x u) : ∀ {xs : List V} {us : List Value} (i : Nat), Vals xs us → Vals (xs.set i x) (us.set i u)
  | _, _, _, .nil => .nil
  | _, _, 0, .cons _ t => .cons r t
  | _, _, i + 1, .cons q t => .cons q (Vals.set r i t)
theorem Vals.append : ∀ {xs ys : List V} {us ws : List Value}, Vals xs us → Vals ys ws → Vals (xs ++ ys) (us ++ ws)
  | _, _, _, _, .nil, s => s
  | _, _, _, _, .cons r t, s => .cons r (Vals.append t s)
theorem Vals.take : ∀ {xs : List V} {us : List Value} (n : Nat), Vals xs us → Vals (xs.take n) (us.take n)
  | _, _, 0, _ => .nil
  | _, _, _ + 1, .nil => .nil
  | _, _, n + 1, .cons r t => .cons r (Vals.take n t)
theorem Vals.drop : ∀ {xs : List V} {us : List Value} (n : Nat), Vals xs us → Vals (xs.drop n) (us.drop n)
  | _, _, 0, r => r
  | _, _, _ + 1, .nil => .nil
  | _, _, n + 1, .cons _ t => Vals.drop n t
theorem Vals.none_of : ∀ {xs : List V} {us : List Value} {i : Nat}, Vals xs us → xs[i]? = none → us[i]? = none := fun {xs us i} r e => by
  have h1 := r.length
  have h2 : xs.length ≤ i := List.getElem?_eq_none_iff.mp e
  exact List.getElem?_eq_none_iff.mpr (by omega)

def RelO : Option V → Option Value → Prop
  | some v, some u => RelV v u
  | none, none => True
  | _, _ => False
def KV {κ : Type} : List (κ × V) → List (κ × Value) → Prop := Paired fun (p : κ × V) (q : κ × Value) => p.1 = q.1 ∧ RelV p.2 q.2

/-- a key of a dict (00_mix): an int or a text -/
def kV : Key → V
  | .inl i => .int i
  | .inr x => .str x

/-- what stands at a tracked address -/
inductive HO where
  /-- a list -/
  | lst (xs : List V)
  /-- a tuple (never changes) -/
  | tup (xs : List V)
  /-- a dict whose keys are ints and texts; one whose keys are tuples of ints and texts (the empty one is both) -/
  | dK (kvs : List (Key × V)) | dT (kvs : List (List Key × V))
  /-- a set of ints: its members, its size -/
  | set (S : Int → Bool) (n : Nat)
  /-- an instance of the class at C, its dict at dx, its attributes -/
  | ins (C dx : Addr) (fs : List (Str × V))
  /-- the dict of the instance at x -/
  | own (x : Addr)
  /-- the dict of an exception -/
  | xd (fs : List (Str × V))
  /-- a bound method, f of x -/
  | met (f x : Addr)
  /-- a range object lo, lo + 1, .. below hi -/
  | rng (lo hi : Int)
  /-- a thing that is known to the object (the script; a dict while a loop walks it): read, never written while it is so -/
  | frz (o : Obj) (u : HO)
  /-- a code object's table -/
  | tbl (ps : Array Value)
  /-- any other thing, by what is true of its one object (a def of one's own: SetO a S n := HO.ext fun h => ..) -/
  | ext (φ : Heap → Prop)

abbrev Hp := Addr → Option HO
def upd (H : Hp) (a : Addr) (o : HO) : Hp := fun b => if b = a then some o else H b
theorem upd_same {H : Hp} {a : Addr} {o : HO} : upd H a o a = some o := by unfold upd; rw [if_pos rfl]
theorem upd_ne {H : Hp} {a b : Addr} {o : HO} (h : b ≠ a) : upd H a o b = H b := by unfold upd; rw [if_neg h]
theorem upd_upd {H : Hp} {a : Addr} {o u : HO} : upd (upd H a o) a u = upd H a u := by
  funext b; unfold upd; split <;> rfl
/-- two objects of different content stand apart -/
theorem ne_of {H : Hp} {a b : Addr} {o u : HO} (h : H a = some o) (h' : H b = some u) (d : o ≠ u) : a ≠ b := by
  intro e; subst e; rw [h] at h'; exact d (Option.some.inj h')
theorem ne_of_none {H : Hp} {a b : Addr} {o : HO} (h : H a = some o) (h' : H b = none) : a ≠ b := by
  intro e; subst e; rw [h] at h'; cases h'

section
variable (P : Program) (w : World)
def ObjOk (H : Hp) (h : Heap) (a : Addr) : HO → Prop
  | .lst xs => xs.length ≤ sizeLine ∧ ∃ (its : List Value) (n : Nat), Vals xs its ∧ h.get? a = some { cls := .type "list", data := .seq its.toArray n }
  | .tup xs => xs.length ≤ sizeLine ∧ ∃ its : List Value, Vals xs its ∧ IsTup h a its.toArray
  | .dK kvs => kvs.length ≤ sizeLine ∧ (a == sysModules) = false ∧ ∃ vs, KV kvs vs ∧ h.DictOf (mixKind P w) a vs
  | .dT kvs => kvs.length ≤ sizeLine ∧ (a == sysModules) = false ∧ ∃ xs : List (List Key × Addr × Value),
      Paired (fun (p : List Key × V) (q : List Key × Addr × Value) => p.1 = q.1 ∧ H q.2.1 = some (.tup (p.1.map kV)) ∧ RelV p.2 q.2.2) kvs xs ∧
      ∃ o es ep, h.get? a = some o ∧ o.ExactDict ∧ o.data = .dict es ep ∧ es.toList = xs.map (entryOfKey (tupleKind (mixKind P w))) ∧ (xs.map (·.1)).Nodup
  | .set S n => h.SetOf (intKind P w) a S n
  | .ins C dx fs => H dx = some (.own a) ∧ fs.length ≤ 1000 ∧ dx ≠ a ∧ h.get? a = some (PySem.W.instObj C dx) ∧
      ∃ mA, h.Ns1 dx mA ∧ (∀ f, RelO (fs.lookup f) (mA f)) ∧ PySem.Within mA (fs.map (·.1))
  | .own _ => ∃ o, h.get? a = some o
  | .xd fs => ∃ mA, h.Ns1 a mA ∧ ∀ f, RelO (fs.lookup f) (mA f)
  | .rng lo hi => ∃ t u v, h.get? a = some { cls := .type "range", data := .fields #[.int lo t, .int hi u, .int 1 v] }
  | .frz o u => h.get? a = some o ∧ ObjOk H h a u
  | .tbl ps => h.get? a = some { cls := .none, data := .fields ps }
  | .met f x => h.get? a = some (PySem.W.methodObj (.ref f) (.ref x))
  | .ext φ => φ h ∧ (∃ o, h.get? a = some o) ∧ ∀ h1 h2 : Heap, φ h1 → (∀ o, h1.get? a = some o → h2.get? a = some o) → φ h2
/-- the abstract heap is held -/
def HOk (H : Hp) (h : Heap) : Prop := ∀ a o, H a = some o → ObjOk P w H h a o
end

section
variable {P : Program} {w : World} {H H' : Hp} {h h' : Heap} {a : Addr} {o : HO}
theorem ObjOk.lt (x : ObjOk P w H h a o) : a < h.objs.size := by
  cases o with
  | lst xs => obtain ⟨_, _, _, _, e⟩ := x; exact Heap.lt_size e
  | tup xs => obtain ⟨_, _, _, p⟩ := x; exact p.lt
  | dK kvs => obtain ⟨_, _, _, _, o, _, _, e, _⟩ := x; exact Heap.lt_size e
  | dT kvs => obtain ⟨_, _, _, _, o, _, _, e, _⟩ := x; exact Heap.lt_size e
  | set S n => obtain ⟨o, _, _, _, e, _⟩ := x; exact Heap.lt_size e
  | ins C dx fs => obtain ⟨_, _, _, e, _⟩ := x; exact Heap.lt_size e
  | own y => obtain ⟨_, e⟩ := x; exact Heap.lt_size e
  | xd fs => obtain ⟨_, ⟨_, _, _, e, _⟩, _⟩ := x; exact Heap.lt_size e
  | rng lo hi => obtain ⟨_, _, _, e⟩ := x; exact Heap.lt_size e
  | frz ob u => obtain ⟨e, _⟩ := x; exact Heap.lt_size e
  | tbl ps => exact Heap.lt_size (show h.get? a = some _ from x)
  | met f y => exact Heap.lt_size (show h.get? a = some _ from x)
  | ext φ => obtain ⟨_, ⟨_, e⟩, _⟩ := x; exact Heap.lt_size e
theorem Paired.mapP {α β : Type} {F G : α → β → Prop} : ∀ {l₁ : List α} {l₂ : List β}, Paired F l₁ l₂ → (∀ a b, F a b → G a b) → Paired G l₁ l₂
  | _, _, .nil, _ => .nil
  | _, _, .cons r t, f => .cons (f _ _ r) (Paired.mapP t f)
theorem Paired.imp' {α β : Type} {F G : α → β → Prop} (f : ∀ a b, F a b → G a b) {l₁ : List α} {l₂ : List β} (r : Paired F l₁ l₂) : Paired G l₁ l₂ := Paired.mapP r f
/-- what an object's description leans on: its own object, its own dict, the tuples -/
theorem ObjOk.stay (x : ObjOk P w H h a o) (k : ∀ b u, (b = a ∨ H b = some (.own a)) → h.get? b = some u → h'.get? b = some u)
    (ho : ∀ b, H b = some (.own a) → H' b = some (.own a)) (ht : ∀ b xs, H b = some (.tup xs) → H' b = some (.tup xs)) : ObjOk P w H' h' a o := by
  induction o with
  | lst xs => obtain ⟨z, its, n, r, e⟩ := x; exact ⟨z, its, n, r, k _ _ (.inl rfl) e⟩
  | tup xs => obtain ⟨z, its, r, ob, e, c⟩ := x; exact ⟨z, its, r, ob, k _ _ (.inl rfl) e, c⟩
  | dK kvs => obtain ⟨z, y, vs, r, ob, es, ep, e, c⟩ := x; exact ⟨z, y, vs, r, ob, es, ep, k _ _ (.inl rfl) e, c⟩
  | dT kvs =>
    obtain ⟨z, y, xs, r, ob, es, ep, e, c⟩ := x
    exact ⟨z, y, xs, Paired.mapP r fun p q z => ⟨z.1, ht _ _ z.2.1, z.2.2⟩, ob, es, ep, k _ _ (.inl rfl) e, c⟩
  | set S n => obtain ⟨ob, es, ep, t, e, c⟩ := x; exact ⟨ob, es, ep, t, k _ _ (.inl rfl) e, c⟩
  | ins C dx fs =>
    obtain ⟨d, z, ne, e, mA, ⟨od, es, ep, e2, c⟩, r⟩ := x
    exact ⟨ho _ d, z, ne, k _ _ (.inl rfl) e, mA, ⟨od, es, ep, k _ _ (.inr d) e2, c⟩, r⟩
  | own y => obtain ⟨ob, e⟩ := x; exact ⟨ob, k _ _ (.inl rfl) e⟩
  | xd fs => obtain ⟨mA, ⟨od, es, ep, e, c⟩, r⟩ := x; exact ⟨mA, ⟨od, es, ep, k _ _ (.inl rfl) e, c⟩, r⟩
  | rng lo hi => obtain ⟨t, u, v, e⟩ := x; exact ⟨t, u, v, k _ _ (.inl rfl) e⟩
  | frz ob u ih => obtain ⟨e, q⟩ := x; exact ⟨k _ _ (.inl rfl) e, ih q⟩
  | tbl ps =>
    have e : h.get? a = some { cls := .none, data := .fields ps } := x
    show h'.get? a = some { cls := .none, data := .fields ps }
    exact k a _ (.inl rfl) e
  | met f y =>
    have e : h.get? a = some (PySem.W.methodObj (.ref f) (.ref y)) := x
    show h'.get? a = some (PySem.W.methodObj (.ref f) (.ref y))
    exact k a _ (.inl rfl) e
  | ext φ => obtain ⟨p, ⟨o, e⟩, st⟩ := x; exact ⟨st _ _ p fun o q => k _ _ (.inl rfl) q, ⟨o, k _ _ (.inl rfl) e⟩, st⟩
theorem HOk.lt (x : HOk P w H h) (e : H a = some o) : a < h.objs.size := (x a o e).lt
theorem HOk.fresh (x : HOk P w H h) (e : h.objs.size ≤ a) : H a = none := by
  cases q : H a with
  | none => rfl
  | some u => exact absurd (Nat.lt_of_lt_of_le (x.lt q) e) (Nat.lt_irrefl _)
/-- every object of the heap is kept -/
theorem HOk.kept (x : HOk P w H h) (k : ∀ b u, h.get? b = some u → h'.get? b = some u) : HOk P w H h' := fun a o e =>
  (x a o e).stay (fun b u _ q => k b u q) (fun _ q => q) fun _ _ q => q
/-- a new object is laid and tracked -/
theorem HOk.laid (x : HOk P w H h) (k : ∀ b u, h.get? b = some u → h'.get? b = some u) (hp : h.objs.size ≤ a) (new : ObjOk P w (upd H a o) h' a o) : HOk P w (upd H a o) h' := fun b u e => by
  have hn := x.fresh hp
  by_cases hb : b = a
  · subst hb; rw [upd_same] at e; cases e; exact new
  · rw [upd_ne hb] at e
    exact (x b u e).stay (fun c v _ q => k c v q) (fun c q => by rw [upd_ne (ne_of_none q hn)]; exact q) fun c xs q => by rw [upd_ne (ne_of_none q hn)]; exact q
end

/-- what may be read as u: it is u, or a known u -/
def Rd (H : Hp) (a : Addr) (u : HO) : Prop := H a = some u ∨ ∃ o, H a = some (.frz o u)
theorem Rd.of {H : Hp} {a : Addr} {u : HO} (h : H a = some u) : Rd H a u := .inl h
theorem Rd.ok {P : Program} {w : World} {H : Hp} {h : Heap} {a : Addr} {u : HO} (r : Rd H a u) (x : HOk P w H h) : ObjOk P w H h a u := by
  rcases r with r | ⟨o, r⟩
  · exact x a u r
  · obtain ⟨_, q⟩ := x a _ r
    exact q
/-- what may be written -/
def Mut : Option HO → Prop
  | some (.lst _) => True
  | some (.dK _) => True
  | some (.dT _) => True
  | some (.set _ _) => True
  | some (.ins _ _ _) => True
  | some (.ext _) => True
  | _ => False
section
variable {P : Program} {w : World} {H : Hp} {h h' : Heap} {x e : Addr} {o' : HO}
/-- the object at e is changed: x itself, or the dict of the instance x -/
theorem HOk.write (ok : HOk P w H h) (mu : Mut (H x)) (he : e = x ∨ H e = some (.own x)) (k : ∀ b u, b ≠ e → h.get? b = some u → h'.get? b = some u) (heo : ∃ u, h'.get? e = some u)
    (new : ObjOk P w (upd H x o') h' x o') : HOk P w (upd H x o') h' := fun b u q => by
  have nown : ∀ c y, H c = some (.own y) → c ≠ x := fun c y r z => by subst z; rw [r] at mu; exact mu
  have ntup : ∀ c xs, H c = some (.tup xs) → c ≠ x := fun c xs r z => by subst z; rw [r] at mu; exact mu
  by_cases hb : b = x
  · subst hb; rw [upd_same] at q; cases q; exact new
  · rw [upd_ne hb] at q
    by_cases hbe : b = e
    · have q' : H b = some (.own x) := by
        rcases he with z | z
        · exact absurd (hbe.trans z) hb
        · rw [hbe]; exact z
      rw [q] at q'; cases q'
      obtain ⟨v, hv⟩ := heo
      exact ⟨v, by rw [hbe]; exact hv⟩
    · refine (ok b u q).stay (fun c v hc r => k c v ?_ r) (fun c r => by rw [upd_ne (nown c b r)]; exact r) fun c xs r => by rw [upd_ne (ntup c xs r)]; exact r
      rcases hc with rfl | hc
      · exact hbe
      · rintro rfl
        rcases he with z | z
        · exact nown c b hc z
        · rw [hc] at z; cases z; exact hb rfl
end

/-! ### kept unless tracked; of the frames at fs (the callers') the slots may change (an exception that passes writes there); of the records at ex (iterators) nothing is said -/
structure Un (fs ex : List Addr) (H H' : Hp) (h h' : Heap) : Prop where
  keep : ∀ b o, h.get? b = some o → H b = none → b ∉ fs → b ∉ ex → h'.get? b = some o
  slot : ∀ b o, h.get? b = some o → H b = none → b ∈ fs → b ∉ ex → ∃ sl, h'.get? b = some { o with slots := sl }
  free : ∀ b o, h.get? b = some o → H b = none → b ∉ ex → H' b = none
  there : ∀ b o, h.get? b = some o → b ∉ ex → ∃ o', h'.get? b = some o'
  tups : ∀ b xs, H b = some (.tup xs) → H' b = some (.tup xs)
  frzs : ∀ b o u, H b = some (.frz o u) → H' b = some (.frz o u)
  tbls : ∀ b ps, H b = some (.tbl ps) → ∃ more, H' b = some (.tbl (ps ++ more))
section
variable {fs fs' ex ex' : List Addr} {H H1 H2 : Hp} {h h1 h2 h' : Heap} {a x e : Addr} {o : HO}
theorem Un.any (u : Un fs ex H H1 h h1) {b : Addr} {ob : Obj} (q : h.get? b = some ob) (n : H b = none) (hx : b ∉ ex) : ∃ sl, h1.get? b = some { ob with slots := sl } := by
  by_cases hb : b ∈ fs
  · exact u.slot b ob q n hb hx
  · exact ⟨ob.slots, u.keep b ob q n hb hx⟩
theorem Un.trans (a : Un fs ex H H1 h h1) (b : Un fs ex H1 H2 h1 h2) : Un fs ex H H2 h h2 where
  keep := fun c ob q n hc hx => b.keep c ob (a.keep c ob q n hc hx) (a.free c ob q n hx) hc hx
  slot := fun c ob q n hc hx => by
    obtain ⟨sl, e1⟩ := a.slot c ob q n hc hx
    obtain ⟨sl', e2⟩ := b.slot c _ e1 (a.free c ob q n hx) hc hx
    exact ⟨sl', e2⟩
  free := fun c ob q n hx => by
    obtain ⟨o', e1⟩ := a.there c ob q hx
    exact b.free c o' e1 (a.free c ob q n hx) hx
  there := fun c ob q hx => by
    obtain ⟨o', e1⟩ := a.there c ob q hx
    exact b.there c o' e1 hx
  tups := fun c xs q => b.tups c xs (a.tups c xs q)
  frzs := fun c ob xs q => b.frzs c ob xs (a.frzs c ob xs q)
  tbls := fun c ps q => by
    obtain ⟨m1, e1⟩ := a.tbls c ps q
    obtain ⟨m2, e2⟩ := b.tbls c _ e1
    exact ⟨m1 ++ m2, by rw [e2, Array.append_assoc]⟩
theorem Un.kept (k : ∀ b u, h.get? b = some u → h'.get? b = some u) : Un fs ex H H h h' :=
  ⟨fun b ob q _ _ _ => k b ob q, fun b ob q _ _ _ => ⟨ob.slots, k b ob q⟩, fun _ _ _ n _ => n, fun b ob q _ => ⟨ob, k b ob q⟩, fun _ _ q => q, fun _ _ _ q => q, fun _ ps q => ⟨#[], by rw [q]; simp⟩⟩
theorem Un.refl : Un fs ex H H h h := Un.kept fun _ _ q => q
theorem Un.laid (k : ∀ b u, h.get? b = some u → h'.get? b = some u) (hp : h.objs.size ≤ a) (hn : H a = none) : Un fs ex H (upd H a o) h h' where
  keep := fun b u q _ _ _ => k b u q
  slot := fun b u q _ _ _ => ⟨u.slots, k b u q⟩
  free := fun b u q n _ => by rw [upd_ne (Nat.ne_of_lt (Nat.lt_of_lt_of_le (Heap.lt_size q) hp))]; exact n
  there := fun b u q _ => ⟨u, k b u q⟩
  tups := fun b xs q => by rw [upd_ne (ne_of_none q hn)]; exact q
  frzs := fun b u xs q => by rw [upd_ne (ne_of_none q hn)]; exact q
  tbls := fun b ps q => ⟨#[], by rw [upd_ne (ne_of_none q hn), q]; simp⟩
theorem Un.write (mu : Mut (H x)) (he : e = x ∨ H e = some (.own x)) (k : ∀ b u, b ≠ e → h.get? b = some u → h'.get? b = some u) (heo : ∃ u, h'.get? e = some u) : Un fs ex H (upd H x o) h h' := by
  have hx : ∀ b, H b = none → b ≠ x := fun b n z => by subst z; rw [n] at mu; exact mu
  have hb : ∀ b, H b = none → b ≠ e := fun b n z => by
    subst z
    rcases he with r | r
    · exact hx b n r
    · rw [n] at r; cases r
  have hm : ∀ b u, H b = some u → ¬ Mut (some u) → b ≠ x := fun b u q nm z => by subst z; rw [q] at mu; exact nm mu
  refine ⟨fun b u q n _ _ => k b u (hb b n) q, fun b u q n _ _ => ⟨u.slots, k b u (hb b n) q⟩, fun b u q n _ => by rw [upd_ne (hx b n)]; exact n, fun b u q _ => ?_,
    fun b xs q => by rw [upd_ne (hm b _ q fun z => z)]; exact q, fun b u xs q => by rw [upd_ne (hm b _ q fun z => z)]; exact q, fun b ps q => ⟨#[], by rw [upd_ne (hm b _ q fun z => z), q]; simp⟩⟩
  by_cases hbe : b = e
  · subst hbe; exact heo
  · exact ⟨u, k b u hbe q⟩
theorem Un.mono (u : Un fs ex H H1 h h1) (hs : ∀ b ∈ fs, b ∈ fs') (hx : ∀ b ∈ ex, b ∈ ex') : Un fs' ex' H H1 h h1 :=
  ⟨fun b ob q n hb he => u.keep b ob q n (fun z => hb (hs b z)) fun z => he (hx b z), fun _ _ q n _ he => u.any q n fun z => he (hx _ z), fun b ob q n he => u.free b ob q n fun z => he (hx b z), fun b ob q he => u.there b ob q fun z => he (hx b z), u.tups, u.frzs, u.tbls⟩
end

/-! ### the heap without what is tracked -/
def trk (h : Heap) (H : Hp) : List Addr := (List.range h.objs.size).filter fun a => (H a).isSome
def hidT (h : Heap) (H : Hp) : Heap := PySem.W.hideAll h (trk h H)
theorem hidT_size (h : Heap) (H : Hp) : (hidT h H).objs.size = h.objs.size := PySem.W.hideAll_size _ _
theorem hidT_get {h : Heap} {H : Hp} {b : Addr} {o : Obj} (e : h.get? b = some o) (n : H b = none) : (hidT h H).get? b = some o :=
  PySem.W.hideAll_get _ e fun hm => by
    have q : (H b).isSome = true := (List.mem_filter.mp hm).2
    rw [n] at q; simp at q
theorem of_hidT {h : Heap} {H : Hp} {b : Addr} {o : Obj} (e : (hidT h H).get? b = some o) : h.get? b = some o ∧ H b = none := by
  have e' : h.get? b = some o := PySem.W.of_hideAll (trk h H) e
  refine ⟨e', ?_⟩
  cases q : H b with
  | none => rfl
  | some x =>
    have hm : b ∈ trk h H := List.mem_filter.mpr ⟨List.mem_range.mpr (Heap.lt_size e'), by simp [q]⟩
    have z : (hidT h H).get? b = none := PySem.W.hideAll_none (trk h H) hm
    rw [z] at e; cases e

/-! ### OpenK's ledger, filled with every new object but one -/
def allNews (g h : Heap) (L : Addr) : List (Addr × Obj) := (List.range h.objs.size).filterMap fun a => if a = L ∨ (g.get? a).isSome = true then none else (h.get? a).map fun o => (a, o)
theorem mem_allNews {g h : Heap} {L a : Addr} {o : Obj} (h1 : a ≠ L) (h2 : g.get? a = none) (h3 : h.get? a = some o) : (a, o) ∈ allNews g h L :=
  List.mem_filterMap.mpr ⟨a, List.mem_range.mpr (Heap.lt_size h3), by simp [h1, h2, h3]⟩
theorem of_mem_allNews {g h : Heap} {L : Addr} {p : Addr × Obj} (hp : p ∈ allNews g h L) : p.1 ≠ L ∧ g.get? p.1 = none ∧ h.get? p.1 = some p.2 := by
  obtain ⟨b, _, e⟩ := List.mem_filterMap.mp hp
  split at e
  · cases e
  · rename_i hn
    cases q : h.get? b with
    | none => rw [q] at e; simp at e
    | some u =>
      rw [q] at e
      simp only [Option.map_some, Option.some.injEq] at e
      subst e
      refine ⟨fun z => hn (.inl z), ?_, q⟩
      show g.get? b = none
      cases r : g.get? b with
      | none => rfl
      | some v => exact (hn (.inr (by simp [r]))).elim
def rest (g h : Heap) (L d : Addr) : List (Addr × Obj) := (allNews g h L).filter fun p => decide (p.1 ≠ d)
theorem rest_ne {g h : Heap} {L d : Addr} : ∀ p ∈ rest g h L d, p.1 ≠ d := fun p hp => of_decide_eq_true (List.mem_filter.mp hp).2
theorem mem_rest {g h : Heap} {L d a : Addr} {o : Obj} (h1 : a ≠ L) (h2 : g.get? a = none) (h3 : h.get? a = some o) (h4 : a ≠ d) : (a, o) ∈ rest g h L d :=
  List.mem_filter.mpr ⟨mem_allNews h1 h2 h3, decide_eq_true h4⟩
theorem news_all {g h : Heap} {L : Addr} : News g L h (allNews g h L) := fun p hp => let ⟨a, b, c⟩ := of_mem_allNews hp; ⟨c, a, b⟩
theorem news_at {g h : Heap} {L d : Addr} {o : Obj} (h1 : d ≠ L) (h2 : g.get? d = none) (h3 : h.get? d = some o) : News g L h ((d, o) :: rest g h L d) := fun p hp => by
  rcases List.mem_cons.mp hp with rfl | hp
  · exact ⟨h3, h1, h2⟩
  · exact news_all p (List.mem_filter.mp hp).1
/-- behind a rule that changed d alone: all else but the frame is kept -/
theorem kept_of_news {g h h' : Heap} {L d : Addr} {m : Str → Option Value} (k : ∀ b o, g.get? b = some o → h.get? b = some o) (F : Fr g L h' m) (N : News g L h' (rest g h L d)) :
    ∀ b o, b ≠ L → b ≠ d → h.get? b = some o → h'.get? b = some o := fun b o h1 h2 e => by
  cases q : g.get? b with
  | some u =>
    have := k b u q
    rw [e] at this; cases this
    exact F.keep b _ q
  | none => exact (N (b, o) (mem_rest h1 q e h2)).1
end L2

namespace L2
open PySem PySem.Spec PyProof.Rows

/-- the module's facts, over the base: the heap at the law's entry without what is tracked there -/
structure Mod (K : PySem.W.Frag) (mg : Str → Option Value) (base : Heap) : Prop where
  kin : K.In base
  glob : base.Ns mainGlobals mg
  blt : ∃ mb, base.Ns builtinsNs mb ∧ ∀ x : Str, x ≠ "__name__" → mb x = bootBuiltins x
  nolimit : base.NoLimit

/-- the context: a def's body (or a comprehension's block) running. base: fixed through the whole law; s₀, H₀: the entry; outer: the frames whose slots others may change (a def's callers); stack: all frames that run;
   ex: iterators that were made ahead of the entry and are walked here (a comprehension's); fn: the names whose cells were made at the entry (a def: all; a comprehension's block: its own); calm: not within an except suite; pn: pins that every state bears; xe: what is wanted of an exception that leaves the code -/
structure Cx where
  prog : Program
  w : World
  K : PySem.W.Frag
  mg : Str → Option Value
  base : Heap
  A : Around
  N : List Str
  s₀ : Shared
  H₀ : Hp
  env : Env
  outer : List Env
  stack : List Env
  ex : List Addr
  fn : Str → Bool
  calm : Bool
  pn : List (Addr × Obj)
  xe : Value → Shared → Prop
/-- the callers' frames -/
def frs (l : List Env) : List Addr := l.filterMap (·.frame)
abbrev Cx.fs (X : Cx) : List Addr := frs X.outer

def Vis (sc : Scope) (x : Str) : Prop := sc.names.lookup x = some .local ∨ sc.names.lookup x = some .cell ∨ sc.names.lookup x = some .free
def Loc (sc : Scope) (x : Str) : Prop := sc.names.lookup x = some .local ∨ sc.names.lookup x = some .cell
def Look (env : Env) (h : Heap) (m : Str → Option Value) (x : Str) (u : Value) : Prop :=
  (env.kindOf x = some .local ∧ m x = some u) ∨ ((env.kindOf x = some .cell ∨ env.kindOf x = some .free) ∧ ∃ c, env.cells.lookup x = some c ∧ h.IsCell c (some u))

structure Cx.Ok (X : Cx) : Prop where
  mod : Mod X.K X.mg X.base
  kind : X.env.scope.kind = .function
  glob : X.env.globals = mainGlobals
  blt : X.env.builtins = builtinsNs
  above : X.s₀.heap.objs.size ≤ X.env.locals
  inj : ∀ x y c, X.env.cells.lookup x = some c → X.env.cells.lookup y = some c → x = y
  has : ∀ x, (X.env.kindOf x = some .cell ∨ X.env.kindOf x = some .free) → ∃ c, X.env.cells.lookup x = some c
  cab : ∀ x c, X.fn x = true → X.env.cells.lookup x = some c → X.s₀.heap.objs.size ≤ c
  hd : X.calm = true → X.A.handled = none
  frames : X.A.frames = some X.stack
  stk : X.stack = X.outer ∨ (X.stack = X.env :: X.outer ∧ X.env.frame = some X.env.locals)
  exf : ∀ b ∈ X.ex, b ≠ X.env.locals ∧ ∀ x c, X.env.cells.lookup x = some c → c ≠ b
  bs : ∀ b o, X.base.get? b = some o → X.s₀.heap.get? b = some o ∧ X.H₀ b = none
  bsz : X.base.objs.size ≤ X.s₀.heap.objs.size
  noex : ∀ b o, X.base.get? b = some o → b ∉ X.ex
  exfs : ∀ b ∈ X.ex, b ∉ X.fs
  funs : X.s₀.heap.FunFrames X.base X.outer
  frf : ∀ b ∈ X.fs, X.H₀ b = none

structure Inv (X : Cx) (pins : List (Addr × Obj)) (σ : List (Option V)) (H : Hp) (s : Shared) : Prop where
  ok : X.Ok
  os : s.os = X.s₀.os
  bare : AllBare s.gens
  base : Un X.fs X.ex X.H₀ H X.s₀.heap s.heap
  loc : ∃ m, s.heap.Ns X.env.locals m ∧ ∀ (i : Nat) (x : Str) (v : V), X.N[i]? = some x → σ[i]? = some (some v) → Vis X.env.scope x → ∃ u, RelV v u ∧ Look X.env s.heap m x u
  cell : ∀ x c, X.env.cells.lookup x = some c → ∃ v, s.heap.IsCell c v
  free : H X.env.locals = none
  freeC : ∀ x c, X.env.cells.lookup x = some c → H c = none
  pin : ∀ p ∈ X.pn ++ pins, s.heap.get? p.1 = some p.2 ∧ H p.1 = none ∧ p.1 ≠ X.env.locals ∧ p.1 ∉ X.fs ∧ ∀ v, p.2.data ≠ .cell v
  hok : HOk X.prog X.w H s.heap
  len : σ.length = X.N.length

section
variable {X : Cx} {pins : List (Addr × Obj)} {σ : List (Option V)} {H H' : Hp} {s : Shared} {h' : Heap}

theorem Cx.Ok.nofr (ok : X.Ok) {b : Addr} {o : Obj} (e : X.base.get? b = some o) : b ∉ X.fs := fun hb => by
  have := (ok.funs.mem hb).1
  rw [e] at this; cases this
theorem Inv.bs (I : Inv X pins σ H s) : ∀ b o, X.base.get? b = some o → s.heap.get? b = some o ∧ H b = none := fun b o e =>
  ⟨I.base.keep b o (I.ok.bs b o e).1 (I.ok.bs b o e).2 (I.ok.nofr e) (I.ok.noex b o e), I.base.free b o (I.ok.bs b o e).1 (I.ok.bs b o e).2 (I.ok.noex b o e)⟩
theorem Inv.bk (I : Inv X pins σ H s) : ∀ b o, X.base.get? b = some o → s.heap.get? b = some o := fun b o e => (I.bs b o e).1
theorem Inv.mod (I : Inv X pins σ H s) : Mod X.K X.mg X.base := I.ok.mod
theorem Inv.kIn (I : Inv X pins σ H s) : X.K.In s.heap := I.ok.mod.kin.keeps I.bk
theorem Inv.nolimit (I : Inv X pins σ H s) : s.heap.NoLimit := I.ok.mod.nolimit.keeps I.bk
/-- the frame over the base: for OpenK's rules (K.In X.base is I.mod.kin) -/
theorem Inv.fr (I : Inv X pins σ H s) : ∃ m, Fr X.base X.env.locals s.heap m :=
  let ⟨m, hn, _⟩ := I.loc
  ⟨m, hn, I.bk, Nat.le_trans I.ok.bsz I.ok.above⟩
theorem Inv.lt (I : Inv X pins σ H s) : X.env.locals < s.heap.objs.size := let ⟨_, hn, _⟩ := I.loc; hn.lt
theorem Inv.sz (I : Inv X pins σ H s) : X.s₀.heap.objs.size ≤ s.heap.objs.size := Nat.le_trans I.ok.above (Nat.le_of_lt I.lt)
theorem Inv.nofs (I : Inv X pins σ H s) {a : Addr} (h : s.heap.objs.size ≤ a) : a ∉ X.fs := fun hb => by
  obtain ⟨_, o, ho, _⟩ := I.ok.funs.mem hb
  exact absurd (Nat.lt_of_lt_of_le (Heap.lt_size ho) (Nat.le_trans I.sz h)) (Nat.lt_irrefl _)
theorem Inv.cne (I : Inv X pins σ H s) : ∀ x c, X.env.cells.lookup x = some c → c ≠ X.env.locals := fun x c e z => by
  obtain ⟨v, o, ho, hd⟩ := I.cell x c e
  obtain ⟨m, ⟨o', es, ep, ho', hd', _⟩, _⟩ := I.loc
  rw [z, ho'] at ho; cases ho; rw [hd'] at hd; cases hd
theorem Inv.funs (I : Inv X pins σ H s) : s.heap.FunFrames X.base X.outer := by
  have all : ∀ (l : List Env), (∀ b ∈ frs l, b ∈ X.fs) → X.s₀.heap.FunFrames X.base l → s.heap.FunFrames X.base l := by
    intro l
    induction l with
    | nil => intro _ _; trivial
    | cons env r ih =>
      intro hs hl
      obtain ⟨hk, ⟨L, o, hf, hn, ho, hd⟩, hr⟩ := hl
      have hL : L ∈ X.fs := hs L (by unfold frs; rw [List.filterMap_cons, hf]; exact List.mem_cons_self)
      obtain ⟨sl, e⟩ := I.base.slot L o ho (I.ok.frf L hL) hL fun z => I.ok.exfs L z hL
      exact ⟨hk, ⟨L, _, hf, hn, e, hd⟩, ih (fun b hb => hs b (by unfold frs; rw [List.filterMap_cons, hf]; exact List.mem_cons_of_mem _ hb)) hr⟩
  exact all X.outer (fun _ hb => hb) I.ok.funs

/-- the frames that run, for a call -/
theorem Inv.stack (I : Inv X pins σ H s) : s.heap.FunFrames X.base X.stack := by
  rcases I.ok.stk with e | ⟨e, hf⟩
  · rw [e]; exact I.funs
  · rw [e]
    obtain ⟨m, hn, _⟩ := I.loc
    refine .cons (by rw [I.ok.kind]; decide) hf hn ?_ I.funs
    exact Heap.get?_none_of_le (Nat.le_trans I.ok.bsz I.ok.above)
theorem Inv.stkSub (I : Inv X pins σ H s) : ∀ b ∈ frs X.stack, b ∈ X.env.locals :: X.fs := fun b hb => by
  rcases I.ok.stk with e | ⟨e, hf⟩
  · rw [e] at hb; exact List.mem_cons_of_mem _ hb
  · rw [e] at hb
    unfold frs at hb
    rw [List.filterMap_cons, hf] at hb
    exact hb
theorem Inv.stkFree (I : Inv X pins σ H s) : ∀ b ∈ frs X.stack, H b = none := fun b hb => by
  rcases List.mem_cons.mp (I.stkSub b hb) with e | hb
  · rw [e]; exact I.free
  · obtain ⟨_, o, ho, _⟩ := I.ok.funs.mem hb
    exact I.base.free b o ho (I.ok.frf b hb) fun z => I.ok.exfs b z hb

/-- THE STEP: the untracked objects but the frame and the records at ch are kept (the callers' frames up to slots), the frame's map is kept, the new abstract heap is held -/
theorem Inv.step {g' : Array GenState} {t' : Nat} {d' : Drawn} {ch : List Addr} (I : Inv X pins σ H s)
    (hch : ∀ b ∈ ch, (b ∈ X.ex ∨ X.s₀.heap.objs.size ≤ b) ∧ b ≠ X.env.locals ∧ (∀ x c, X.env.cells.lookup x = some c → c ≠ b) ∧ ∀ p ∈ X.pn ++ pins, p.1 ≠ b)
    (keep : ∀ b o, b ≠ X.env.locals → b ∉ X.fs → b ∉ ch → s.heap.get? b = some o → H b = none → h'.get? b = some o)
    (slot : ∀ b o, b ≠ X.env.locals → b ∈ X.fs → b ∉ ch → s.heap.get? b = some o → H b = none → ∃ sl, h'.get? b = some { o with slots := sl }) (free : ∀ b o, b ∉ ch → s.heap.get? b = some o → H b = none → H' b = none)
    (there : ∀ b o, b ∉ ch → s.heap.get? b = some o → ∃ o', h'.get? b = some o')
    (tups : ∀ b xs, H b = some (.tup xs) → H' b = some (.tup xs)) (frzs : ∀ b o u, H b = some (.frz o u) → H' b = some (.frz o u)) (tbls : ∀ b ps, H b = some (.tbl ps) → ∃ more, H' b = some (.tbl (ps ++ more)))
    (ns : ∀ m, s.heap.Ns X.env.locals m → h'.Ns X.env.locals m) (hok : HOk X.prog X.w H' h') (hg : AllBare g') :
    Inv X pins σ H' { s with heap := h', gens := g', drawn := d', toks := t' } := by
  have neL : ∀ b o, X.s₀.heap.get? b = some o → b ≠ X.env.locals := fun b o e => Nat.ne_of_lt (Nat.lt_of_lt_of_le (Heap.lt_size e) I.ok.above)
  have neC : ∀ b o, X.s₀.heap.get? b = some o → b ∉ X.ex → b ∉ ch := fun b o e hx hb => by
    rcases (hch b hb).1 with z | z
    · exact hx z
    · exact absurd (Nat.lt_of_lt_of_le (Heap.lt_size e) z) (Nat.lt_irrefl _)
  have cellK : ∀ x c, X.env.cells.lookup x = some c → ∀ v, s.heap.IsCell c v → h'.IsCell c v := fun x c e v ⟨o, ho, hd⟩ => by
    have nch : c ∉ ch := fun z => (hch c z).2.2.1 x c e rfl
    by_cases hc : c ∈ X.fs
    · obtain ⟨sl, q⟩ := slot c o (I.cne x c e) hc nch ho (I.freeC x c e)
      exact ⟨_, q, hd⟩
    · exact ⟨o, keep c o (I.cne x c e) hc nch ho (I.freeC x c e), hd⟩
  refine ⟨I.ok, I.os, hg, ⟨fun b o e n hb hx => ?_, fun b o e n hb hx => ?_, fun b o e n hx => ?_, fun b o e hx => ?_, fun b xs e => tups b xs (I.base.tups b xs e), fun b o xs e => frzs b o xs (I.base.frzs b o xs e), fun b ps e => ?_⟩, ?_, fun x c e => ?_, ?_, fun x c e => ?_, fun p hp => ?_, hok, I.len⟩
  · exact keep b o (neL b o e) hb (neC b o e hx) (I.base.keep b o e n hb hx) (I.base.free b o e n hx)
  · obtain ⟨sl, e1⟩ := I.base.slot b o e n hb hx
    obtain ⟨sl', e2⟩ := slot b _ (neL b o e) hb (neC b o e hx) e1 (I.base.free b o e n hx)
    exact ⟨sl', e2⟩
  · obtain ⟨o', e1⟩ := I.base.there b o e hx
    exact free b o' (neC b o e hx) e1 (I.base.free b o e n hx)
  · obtain ⟨o', e1⟩ := I.base.there b o e hx
    exact there b o' (neC b o e hx) e1
  · obtain ⟨m1, e1⟩ := I.base.tbls b ps e
    obtain ⟨m2, e2⟩ := tbls b _ e1
    exact ⟨m1 ++ m2, by rw [e2, Array.append_assoc]⟩
  · obtain ⟨m, hn, hl⟩ := I.loc
    refine ⟨m, ns m hn, fun i x v e1 e2 e3 => ?_⟩
    obtain ⟨u, r, l⟩ := hl i x v e1 e2 e3
    refine ⟨u, r, ?_⟩
    rcases l with l | ⟨k, c, e, z⟩
    · exact .inl l
    · exact .inr ⟨k, c, e, cellK x c e _ z⟩
  · obtain ⟨v, z⟩ := I.cell x c e
    exact ⟨v, cellK x c e v z⟩
  · obtain ⟨m, ⟨o, _, _, ho, _⟩, _⟩ := I.loc
    exact free _ o (fun z => (hch _ z).2.1 rfl) ho I.free
  · obtain ⟨v, o, ho, hd⟩ := I.cell x c e
    exact free c o (fun z => (hch c z).2.2.1 x c e rfl) ho (I.freeC x c e)
  · obtain ⟨e, n, ne, nf, d⟩ := I.pin p hp
    have nch : p.1 ∉ ch := fun z => (hch p.1 z).2.2.2 p hp rfl
    exact ⟨keep p.1 p.2 ne nf nch e n, free p.1 p.2 nch e n, ne, nf, d⟩
/-- .. where the frame's own object is kept too -/
theorem Inv.un {t' : Nat} (I : Inv X pins σ H s) (u : Un X.fs [] H H' s.heap h') (hok : HOk X.prog X.w H' h') : Inv X pins σ H' { s with heap := h', toks := t' } := by
  obtain ⟨m, ⟨o, es, ep, ho, r⟩, _⟩ := id I.loc
  obtain ⟨sl, hL⟩ := u.any ho I.free (by simp)
  exact I.step (g' := s.gens) (d' := s.drawn) (ch := []) (fun _ z => nomatch z) (fun b o _ hb _ e n => u.keep b o e n hb (by simp)) (fun b o _ hb _ e n => u.slot b o e n hb (by simp)) (fun b o _ e n => u.free b o e n (by simp)) (fun b o _ e => u.there b o e (by simp)) u.tups u.frzs u.tbls (fun m' hm => by
    obtain ⟨o', es', ep', ho', r'⟩ := hm
    rw [ho] at ho'; cases ho'
    exact ⟨_, es', ep', hL, r'⟩) hok I.bare
/-- behind a call (or a comprehension's block): the slots of this frame may have changed too, the records at ch may have turned -/
theorem Inv.call {g' : Array GenState} {t' : Nat} {d' : Drawn} {ch : List Addr} (I : Inv X pins σ H s) (u : Un (frs X.stack) ch H H' s.heap h') (hok : HOk X.prog X.w H' h') (hg : AllBare g')
    (hch : ∀ b ∈ ch, (b ∈ X.ex ∨ X.s₀.heap.objs.size ≤ b) ∧ b ≠ X.env.locals ∧ (∀ x c, X.env.cells.lookup x = some c → c ≠ b) ∧ ∀ p ∈ X.pn ++ pins, p.1 ≠ b) :
    Inv X pins σ H' { s with heap := h', gens := g', drawn := d', toks := t' } := by
  obtain ⟨m, ⟨o, es, ep, ho, r⟩, _⟩ := id I.loc
  obtain ⟨sl, hL⟩ := u.any ho I.free fun z => (hch _ z).2.1 rfl
  exact I.step (ch := ch) hch (fun b o hL hb hc e n => u.keep b o e n (fun z => (List.mem_cons.mp (I.stkSub b z)).elim hL hb) hc) (fun b o _ _ hc e n => u.any e n hc) (fun b o hc e n => u.free b o e n hc) (fun b o hc e => u.there b o e hc) u.tups u.frzs u.tbls (fun m' hm => by
    obtain ⟨o', es', ep', ho', r'⟩ := hm
    rw [ho] at ho'; cases ho'
    exact ⟨_, es', ep', hL, r'⟩) hok hg
/-- an untracked record of ours (an iterator) has turned -/
theorem Inv.turned {t' : Nat} {it : Addr} (I : Inv X pins σ H s) (k : ∀ b o, b ≠ it → s.heap.get? b = some o → h'.get? b = some o) (hn : H it = none) (hL : it ≠ X.env.locals)
    (h1 : it ∈ X.ex ∨ X.s₀.heap.objs.size ≤ it) (h2 : ∀ x c, X.env.cells.lookup x = some c → c ≠ it) (h3 : ∀ p ∈ X.pn ++ pins, p.1 ≠ it) : Inv X pins σ H { s with heap := h', toks := t' } := by
  have nit : ∀ b u, H b = some u → b ≠ it := fun b u e z => by rw [z, hn] at e; cases e
  refine I.step (g' := s.gens) (d' := s.drawn) (ch := [it]) (fun b hb => ?_) (fun b o _ _ hc e _ => k b o (fun z => hc (by simp [z])) e) (fun b o _ _ hc e _ => ⟨o.slots, k b o (fun z => hc (by simp [z])) e⟩) (fun _ _ _ _ n => n)
    (fun b o hc e => ⟨o, k b o (fun z => hc (by simp [z])) e⟩) (fun _ _ e => e) (fun _ _ _ e => e) (fun b ps e => ⟨#[], by rw [e]; simp⟩) (fun m hm => ?_) (fun b u e => ?_) I.bare
  · have e : b = it := by simpa using hb
    subst e
    exact ⟨h1, hL, h2, h3⟩
  · obtain ⟨o, es, ep, ho, r⟩ := hm
    exact ⟨o, es, ep, k _ o (Ne.symm hL) ho, r⟩
  · refine (I.hok b u e).stay (fun c v hc q => k c v ?_ q) (fun _ q => q) fun _ _ q => q
    rcases hc with z | z
    · rw [z]; exact nit b u e
    · exact nit c _ z
theorem Inv.tok (I : Inv X pins σ H s) (t : Nat) : Inv X pins σ H { s with toks := t } := I.un (h' := s.heap) (t' := t) Un.refl I.hok
/-- all objects kept -/
theorem Inv.kept {t' : Nat} (I : Inv X pins σ H s) (k : ∀ b u, s.heap.get? b = some u → h'.get? b = some u) : Inv X pins σ H { s with heap := h', toks := t' } := I.un (Un.kept k) (I.hok.kept k)
/-- a new object laid and tracked -/
theorem Inv.laid {a : Addr} {o : HO} {t' : Nat} (I : Inv X pins σ H s) (k : ∀ b u, s.heap.get? b = some u → h'.get? b = some u) (hp : s.heap.objs.size ≤ a) (new : ObjOk X.prog X.w (upd H a o) h' a o) :
    Inv X pins σ (upd H a o) { s with heap := h', toks := t' } := I.un (Un.laid k hp (I.hok.fresh hp)) (I.hok.laid k hp new)
/-- an object written -/
theorem Inv.write {x e : Addr} {o : HO} {t' : Nat} (I : Inv X pins σ H s) (mu : Mut (H x)) (he : e = x ∨ H e = some (.own x)) (k : ∀ b u, b ≠ e → s.heap.get? b = some u → h'.get? b = some u) (heo : ∃ u, h'.get? e = some u)
    (new : ObjOk X.prog X.w (upd H x o) h' x o) : Inv X pins σ (upd H x o) { s with heap := h', toks := t' } := I.un (Un.write mu he k heo) (I.hok.write mu he k heo new)
/-- forgetting slots, pins -/
theorem Inv.weak {σ' : List (Option V)} (I : Inv X pins σ H s) (hl : σ'.length = σ.length) (w : ∀ (i : Nat) v, σ'[i]? = some (some v) → σ[i]? = some (some v)) : Inv X pins σ' H s :=
  ⟨I.ok, I.os, I.bare, I.base, let ⟨m, hn, hl'⟩ := I.loc; ⟨m, hn, fun i x v e1 e2 e3 => hl' i x v e1 (w i v e2) e3⟩, I.cell, I.free, I.freeC, I.pin, I.hok, hl.trans I.len⟩
theorem Inv.pins_of {pins' : List (Addr × Obj)} (I : Inv X pins σ H s) (h : ∀ p ∈ pins', s.heap.get? p.1 = some p.2 ∧ H p.1 = none ∧ p.1 ≠ X.env.locals ∧ p.1 ∉ X.fs ∧ ∀ v, p.2.data ≠ .cell v) : Inv X pins' σ H s :=
  ⟨I.ok, I.os, I.bare, I.base, I.loc, I.cell, I.free, I.freeC, fun p hp => (List.mem_append.mp hp).elim (fun z => I.pin p (List.mem_append_left _ z)) (h p), I.hok, I.len⟩

theorem nodup_ix {N : List Str} (hN : N.Nodup) {i j : Nat} {x : Str} (a : N[i]? = some x) (b : N[j]? = some x) : i = j := by
  obtain ⟨h1, e1⟩ := List.getElem?_eq_some_iff.mp a
  obtain ⟨h2, e2⟩ := List.getElem?_eq_some_iff.mp b
  exact (List.getElem_inj hN).mp (e1.trans e2.symm)

/-- a name is stored; what changed -/
theorem store_ok2 {M : Model} {A : Around} {E : Value → Shared → Prop} {i : Nat} {x : Str} {v : V} {u : Value} {Q : Unit → Shared → Prop} (I : Inv X pins σ H s) (hN : X.N.Nodup) (hi : X.N[i]? = some x) (hx : Loc X.env.scope x) (r : RelV v u)
    (h : ∀ s', Inv X pins (σ.set i (some v)) H s' → (∃ a, Heap.SameBut a s.heap s'.heap ∧ (a = X.env.locals ∨ X.env.cells.lookup x = some a)) → Q () s') (hf : X.fn x = true ∨ X.env.scope.names.lookup x = some .local := by first | exact .inl rfl | exact .inr rfl | assumption) : wpAny M A (storeName X.env x u) Q E s := by
  obtain ⟨m, hn, hl⟩ := id I.loc
  have hcls : (X.env.scope.kind == .class || (X.env.scope.kind == .module && X.env.locals != X.env.globals)) = false := by rw [I.ok.kind]; rfl
  have hiσ : i < σ.length := by rw [I.len]; exact (List.getElem?_eq_some_iff.mp hi).1
  have cne := I.cne
  have tracked : ∀ {a : Addr} {h' : Heap}, (∃ o, s.heap.get? a = some o ∧ H a = none) → Heap.SameBut a s.heap h' → HOk X.prog X.w H h' := fun {a h'} ha hs b ob e => by
    obtain ⟨_, _, hfree⟩ := ha
    refine (I.hok b ob e).stay (fun c w' hc q => (hs.2 c ?_).trans q) (fun _ q => q) fun _ _ q => q
    rintro rfl
    rcases hc with rfl | hc
    · rw [hfree] at e; cases e
    · rw [hfree] at hc; cases hc
  rcases hx with hk | hk
  · refine wpAny_storeName_local hk hn (fun h' hn' hs => ?_) hcls
    obtain ⟨oL, _, _, hoL, _⟩ := id hn
    refine h _ ⟨I.ok, I.os, I.bare, ⟨fun b o e n hb hx => ?_, fun b o e n hb hx => ?_, I.base.free, fun b o e hx => ?_, I.base.tups, I.base.frzs, I.base.tbls⟩, ⟨_, hn', fun j y v' e1 e2 e3 => ?_⟩, fun y c e => ?_, I.free, I.freeC, fun p hp => ?_, tracked ⟨oL, hoL, I.free⟩ hs, by simpa using I.len⟩ ⟨_, hs, .inl rfl⟩
    · exact (hs.2 b (Nat.ne_of_lt (Nat.lt_of_lt_of_le (Heap.lt_size e) I.ok.above))).trans (I.base.keep b o e n hb hx)
    · obtain ⟨sl, e1⟩ := I.base.slot b o e n hb hx
      exact ⟨sl, (hs.2 b (Nat.ne_of_lt (Nat.lt_of_lt_of_le (Heap.lt_size e) I.ok.above))).trans e1⟩
    · obtain ⟨o', e1⟩ := I.base.there b o e hx
      exact ⟨o', (hs.2 b (Nat.ne_of_lt (Nat.lt_of_lt_of_le (Heap.lt_size e) I.ok.above))).trans e1⟩
    · by_cases hj : j = i
      · subst hj
        rw [hi] at e1; cases e1
        rw [List.getElem?_set_self hiσ] at e2
        cases e2
        exact ⟨u, r, .inl ⟨hk, by simp⟩⟩
      · rw [List.getElem?_set_ne (Ne.symm hj)] at e2
        obtain ⟨u', r', q⟩ := hl j y v' e1 e2 e3
        refine ⟨u', r', ?_⟩
        rcases q with ⟨k, e⟩ | ⟨k, c, e, z⟩
        · refine .inl ⟨k, ?_⟩
          have : y ≠ x := fun e => hj (nodup_ix hN e1 (e ▸ hi))
          simp [this, e]
        · exact .inr ⟨k, c, e, z.sameBut hs (cne y c e)⟩
    · obtain ⟨w', z⟩ := I.cell y c e
      exact ⟨w', z.sameBut hs (cne y c e)⟩
    · obtain ⟨e, n, ne, nf, d⟩ := I.pin p hp
      exact ⟨(hs.2 p.1 ne).trans e, n, ne, nf, d⟩
  · have hfn : X.fn x = true := by
      rcases hf with z | z
      · exact z
      · rw [z] at hk; cases hk
    obtain ⟨c, hc⟩ := I.ok.has x (.inl hk)
    obtain ⟨w', z⟩ := I.cell x c hc
    refine wpAny_storeName_cell I.ok.kind hk hc z (fun h' hc' hs => ?_)
    obtain ⟨oc, hoc, hocd⟩ := id z
    refine h { s with heap := h' } ⟨I.ok, I.os, I.bare, ⟨fun b o e n hb hx => ?_, fun b o e n hb hx => ?_, I.base.free, fun b o e hx => ?_, I.base.tups, I.base.frzs, I.base.tbls⟩, ⟨m, hn.sameBut hs (Ne.symm (cne x c hc)), fun j y v' e1 e2 e3 => ?_⟩, fun y c' e => ?_, I.free, I.freeC, fun p hp => ?_, tracked ⟨oc, hoc, I.freeC x c hc⟩ hs, by simpa using I.len⟩ ⟨c, hs, .inr hc⟩
    · exact (hs.2 b (Nat.ne_of_lt (Nat.lt_of_lt_of_le (Heap.lt_size e) (I.ok.cab x c hfn hc)))).trans (I.base.keep b o e n hb hx)
    · obtain ⟨sl, e1⟩ := I.base.slot b o e n hb hx
      exact ⟨sl, (hs.2 b (Nat.ne_of_lt (Nat.lt_of_lt_of_le (Heap.lt_size e) (I.ok.cab x c hfn hc)))).trans e1⟩
    · obtain ⟨o', e1⟩ := I.base.there b o e hx
      exact ⟨o', (hs.2 b (Nat.ne_of_lt (Nat.lt_of_lt_of_le (Heap.lt_size e) (I.ok.cab x c hfn hc)))).trans e1⟩
    · by_cases hj : j = i
      · subst hj
        rw [hi] at e1; cases e1
        rw [List.getElem?_set_self hiσ] at e2
        cases e2
        exact ⟨u, r, .inr ⟨.inl hk, c, hc, hc'⟩⟩
      · rw [List.getElem?_set_ne (Ne.symm hj)] at e2
        obtain ⟨u', r', q⟩ := hl j y v' e1 e2 e3
        refine ⟨u', r', ?_⟩
        rcases q with q | ⟨k, c', e, z'⟩
        · exact .inl q
        · refine .inr ⟨k, c', e, z'.sameBut hs ?_⟩
          rintro rfl
          exact hj (nodup_ix hN e1 (I.ok.inj _ _ _ e hc ▸ hi))
    · by_cases hcc : c' = c
      · subst hcc; exact ⟨_, hc'⟩
      · obtain ⟨w2, z2⟩ := I.cell y c' e
        exact ⟨w2, z2.sameBut hs hcc⟩
    · obtain ⟨e, n, ne, nf, d⟩ := I.pin p hp
      refine ⟨(hs.2 p.1 ?_).trans e, n, ne, nf, d⟩
      intro q
      rw [q, hoc] at e
      have q' : oc = p.2 := Option.some.inj e
      exact d w' (by rw [← q']; exact hocd)
theorem store_ok {M : Model} {A : Around} {E : Value → Shared → Prop} {i : Nat} {x : Str} {v : V} {u : Value} {Q : Unit → Shared → Prop} (I : Inv X pins σ H s) (hN : X.N.Nodup) (hi : X.N[i]? = some x) (hx : Loc X.env.scope x) (r : RelV v u)
    (h : ∀ s', Inv X pins (σ.set i (some v)) H s' → Q () s') (hf : X.fn x = true ∨ X.env.scope.names.lookup x = some .local := by first | exact .inl rfl | exact .inr rfl | assumption) : wpAny M A (storeName X.env x u) Q E s :=
  store_ok2 I hN hi hx r (fun s' I' _ => h s' I') hf
/-- behind a call or a block, the state as it is -/
theorem Inv.call' {s' : Shared} {ch : List Addr} (I : Inv X pins σ H s) (ho : s'.os = s.os) (u : Un (frs X.stack) ch H H' s.heap s'.heap) (hok : HOk X.prog X.w H' s'.heap) (hg : AllBare s'.gens)
    (hch : ∀ b ∈ ch, (b ∈ X.ex ∨ X.s₀.heap.objs.size ≤ b) ∧ b ≠ X.env.locals ∧ (∀ x c, X.env.cells.lookup x = some c → c ≠ b) ∧ ∀ p ∈ X.pn ++ pins, p.1 ≠ b) : Inv X pins σ H' s' := by
  obtain ⟨h', g', d', t', o'⟩ := s'
  have e : o' = s.os := ho
  subst e
  exact I.call (g' := g') (t' := t') (d' := d') u hok hg hch
end

/-! ### the judgements -/
/-- an exception: its class, its own dict's address (where it has one), the abstract heap behind it -/
abbrev XK := Value → Option Addr → Hp → Prop
abbrev St := List (Option V)
abbrev VK := V → Hp → Prop
/-- an expression's reading; a test's; an argument list's -/
abbrev TE := St → Hp → VK → Prop
abbrev TT := St → Hp → (Bool → Hp → Prop) → Prop
abbrev TA := St → Hp → (List V → Hp → Prop) → Prop
/-- what is wanted behind a statement -/
structure Ends where
  nx : St → Hp → Prop
  rt : VK
  bk : St → Hp → Prop := fun _ _ => False
  ct : St → Hp → Prop := fun _ _ => False
abbrev TS := Ends → St → Hp → Prop

def EP (X : Cx) (pins : List (Addr × Obj)) (σ : St) (Q : VK) (u : Value) (s' : Shared) : Prop := ∃ v H', Inv X pins σ H' s' ∧ RelV v u ∧ Q v H'
def TP (X : Cx) (pins : List (Addr × Obj)) (σ : St) (Q : Bool → Hp → Prop) (b : Bool) (s' : Shared) : Prop := ∃ H', Inv X pins σ H' s' ∧ Q b H'
def AP (X : Cx) (pins : List (Addr × Obj)) (σ : St) (Q : List V → Hp → Prop) (us : List Value) (s' : Shared) : Prop := ∃ vs H', Inv X pins σ H' s' ∧ Vals vs us ∧ Q vs H'
def SP (X : Cx) (pins : List (Addr × Obj)) (D : Ends) (f : Flow) (s' : Shared) : Prop :=
  match f with
  | .next => ∃ σ' H', Inv X pins σ' H' s' ∧ D.nx σ' H'
  | .brk => ∃ σ' H', Inv X pins σ' H' s' ∧ D.bk σ' H'
  | .cont => ∃ σ' H', Inv X pins σ' H' s' ∧ D.ct σ' H'
  | .ret u => ∃ v σ' H', Inv X pins σ' H' s' ∧ RelV v u ∧ D.rt v H'

def PE (X : Cx) (e : Expr) (t : TE) : Prop :=
  ∀ (pins : List (Addr × Obj)) (s : Shared) (σ : St) (H : Hp) (Q : VK), Inv X pins σ H s → t σ H Q → wpAny (model X.prog X.w) X.A (eval e X.env) (EP X pins σ Q) X.xe s
def PT (X : Cx) (e : Expr) (t : TT) : Prop :=
  ∀ (pins : List (Addr × Obj)) (s : Shared) (σ : St) (H : Hp) (Q : Bool → Hp → Prop), Inv X pins σ H s → t σ H Q → wpAny (model X.prog X.w) X.A (isTrue e X.env (eval e X.env)) (TP X pins σ Q) X.xe s
/-- a test whatever its 'whole' is (and, or) -/
def PW (X : Cx) (e : Expr) (t : TT) : Prop :=
  ∀ (whole : Sem Value) (pins : List (Addr × Obj)) (s : Shared) (σ : St) (H : Hp) (Q : Bool → Hp → Prop), Inv X pins σ H s → t σ H Q → wpAny (model X.prog X.w) X.A (isTrue e X.env whole) (TP X pins σ Q) X.xe s
theorem PW.pt {X : Cx} {e : Expr} {t : TT} (h : PW X e t) : PT X e t := h _
/-- an argument list (no star), from the left -/
def PA (X : Cx) (es : List Expr) (t : TA) : Prop :=
  ∀ (pos : Pos) (pins : List (Addr × Obj)) (s : Shared) (σ : St) (H : Hp) (Q : List V → Hp → Prop), Inv X pins σ H s → t σ H Q → wpAny (model X.prog X.w) X.A (spliced (backTo pos (starEach es X.env))) (AP X pins σ Q) X.xe s
def PS (X : Cx) (st : Stmt) (t : TS) : Prop :=
  ∀ (pins : List (Addr × Obj)) (s : Shared) (σ : St) (H : Hp) (D : Ends), Inv X pins σ H s → t D σ H → wpAny (model X.prog X.w) X.A (exec st X.env) (SP X pins D) X.xe s
def PSs (X : Cx) (st : List Stmt) (t : TS) : Prop :=
  ∀ (pins : List (Addr × Obj)) (s : Shared) (σ : St) (H : Hp) (D : Ends), Inv X pins σ H s → t D σ H → wpAny (model X.prog X.w) X.A (execs st X.env) (SP X pins D) X.xe s
/-- weaken the end -/
theorem thn {α : Type} {t : Sem α} {Q Q' : α → Shared → Prop} {M : Model} {A : Around} {E : Value → Shared → Prop} {s : Shared} (h : wpAny M A t Q E s) (hQ : ∀ a s, Q a s → Q' a s) : wpAny M A t Q' E s := wpAny_mono h hQ fun _ _ x => x
end L2

namespace L2
open PySem PySem.Spec PyProof.Rows
section
variable {X : Cx}

/-- two expressions in a row -/
theorem bin {a b : Expr} {ta tb : TE} (ha : PE X a ta) (hb : PE X b tb) {pins : List (Addr × Obj)} {s : Shared} {σ : St} {H : Hp} {R : V → V → Hp → Prop} (I : Inv X pins σ H s) (h : ta σ H fun x H1 => tb σ H1 fun y H2 => R x y H2)
    {α : Type} {Q : α → Shared → Prop} {f : Value → Value → Sem α}
    (hf : ∀ v u s2 x y H2, Inv X pins σ H2 s2 → RelV x v → RelV y u → R x y H2 → wpAny (model X.prog X.w) X.A (f v u) Q X.xe s2) :
    wpAny (model X.prog X.w) X.A (eval a X.env) (fun v s₁ => wpAny (model X.prog X.w) X.A (eval b X.env) (fun u s₂ => wpAny (model X.prog X.w) X.A (f v u) Q X.xe s₂) X.xe s₁) X.xe s := by
  refine thn (ha pins s σ H _ I h) fun v s1 ⟨x, H1, I1, r1, q1⟩ => ?_
  refine thn (hb pins s1 σ H1 _ I1 q1) fun u s2 ⟨y, H2, I2, r2, q2⟩ => ?_
  exact hf v u s2 x y H2 I2 r1 r2 q2

/-! ### names and constants -/
def tVar (i : Nat) : TE := fun σ H Q => ∃ v, σ[i]? = some (some v) ∧ Q v H
def tC (v : V) : TE := fun _ H Q => Q v H
theorem pe_var {i : Nat} {x : Str} {pos : Pos} (hN : X.N[i]? = some x) (hv : Vis X.env.scope x) (hd : (x == ("__debug__" : Str)) = false := by decide) (hcd : (x == ("__classdict__" : Str)) = false := by decide) : PE X (.Name x pos) (tVar i) := by
  intro pins s σ H Q I h
  obtain ⟨v, e, h⟩ := h
  obtain ⟨m, hn, hl⟩ := I.loc
  obtain ⟨u, r, l⟩ := hl i x v hN e hv
  have fin : EP X pins σ Q u s := ⟨v, H, I, r, h⟩
  rcases l with ⟨hk, hm⟩ | ⟨hk, c, hc, hcell⟩
  · exact wpAny_Name (wpAny_loadName_local I.ok.kind hk hn hm fin) hd
  · rcases hk with hk | hk
    · exact wpAny_Name (wpAny_loadName_cell I.ok.kind hk hc hcell fin) hd
    · exact wpAny_Name (wpAny_loadName_free I.ok.kind hk hc hcell fin hcd) hd
theorem pe_int {i j pos} : PE X (.Constant (.int i) j pos) (tC (.int i)) := fun _ _ _ H _ I h => wpAny_Constant_int ⟨.int i, H, I.tok _, ⟨_, rfl⟩, h⟩
theorem pe_bl {b j pos} : PE X (.Constant (.bool b) j pos) (tC (.bl b)) := fun _ _ _ H _ I h => Constant_bool ⟨.bl b, H, I, rfl, h⟩
theorem pe_non {j pos} : PE X (.Constant .none j pos) (tC .non) := fun _ _ _ H _ I h => Constant_none ⟨.non, H, I, rfl, h⟩
theorem pe_str {x j pos} : PE X (.Constant (.str x) j pos) (tC (.str x)) := fun _ _ _ H _ I h => Calls.Constant_str ⟨.str x, H, I.tok _, ⟨_, rfl⟩, h⟩

/-- a global name of the def -/
def Gl (X : Cx) (x : Str) : Prop := X.env.kindOf x = some .globalImplicit
theorem ld_glob {E : Value → Shared → Prop} {pins : List (Addr × Obj)} {s : Shared} {σ : St} {H : Hp} {x : Str} {u : Value} {pos : Pos} {Q : Value → Shared → Prop} (I : Inv X pins σ H s) (hg : Gl X x) (hm : X.mg x = some u) (h : Q u s)
    (hd : (x == ("__debug__" : Str)) = false := by decide) : wpAny (model X.prog X.w) X.A (eval (.Name x pos) X.env) Q E s :=
  Calls.Name_function_global I.ok.kind hg (Calls.loadGlobal_global (by rw [I.ok.glob]; exact I.mod.glob.keeps I.bk) hm h) hd
theorem ld_blt {E : Value → Shared → Prop} {pins : List (Addr × Obj)} {s : Shared} {σ : St} {H : Hp} {x : Str} {u : Value} {pos : Pos} {Q : Value → Shared → Prop} (I : Inv X pins σ H s) (hg : Gl X x) (hm : X.mg x = none) (hv : bootBuiltins x = some u) (h : Q u s)
    (hn : x ≠ "__name__" := by decide) (hd : (x == ("__debug__" : Str)) = false := by decide) : wpAny (model X.prog X.w) X.A (eval (.Name x pos) X.env) Q E s := by
  obtain ⟨mb, h1, h2⟩ := I.mod.blt
  exact Calls.Name_function_global I.ok.kind hg (Calls.loadGlobal_builtin (by rw [I.ok.glob]; exact I.mod.glob.keeps I.bk) hm (by rw [I.ok.blt]; exact h1.keeps I.bk) ((h2 x hn).trans hv) h) hd
/-- a module's constant, a class, a function, as a value -/
theorem pe_glob {x : Str} {v : V} {u : Value} {pos : Pos} (hg : Gl X x) (hm : X.mg x = some u) (r : RelV v u) (hd : (x == ("__debug__" : Str)) = false := by decide) : PE X (.Name x pos) (tC v) :=
  fun _ _ _ H _ I h => ld_glob I hg hm ⟨v, H, I, r, h⟩ hd
theorem pe_bltn {x : Str} {v : V} {u : Value} {pos : Pos} (hg : Gl X x) (hm : X.mg x = none) (hv : bootBuiltins x = some u) (r : RelV v u) (hn : x ≠ "__name__" := by decide) (hd : (x == ("__debug__" : Str)) = false := by decide) : PE X (.Name x pos) (tC v) :=
  fun _ _ _ H _ I h => ld_blt I hg hm hv ⟨v, H, I, r, h⟩ hn hd

/-! ### arithmetic -/
/-- two ints -/
def t2I (ta tb : TE) (k : Int → Int → Hp → Prop) : St → Hp → Prop := fun σ H => ta σ H fun x H1 => tb σ H1 fun y H2 => ∃ i j, x = .int i ∧ y = .int j ∧ k i j H2
def tAdd (ta tb : TE) : TE := fun σ H Q => t2I ta tb (fun i j H2 => Q (.int (i + j)) H2) σ H
def tSub (ta tb : TE) : TE := fun σ H Q => t2I ta tb (fun i j H2 => Q (.int (i - j)) H2) σ H
/-- the left factor below 2^64 -/
def tMul (ta tb : TE) : TE := fun σ H Q => t2I ta tb (fun i j H2 => (-(2 ^ 64) < i ∧ i < 2 ^ 64) ∧ Q (.int (i * j)) H2) σ H
variable {a b : Expr} {ta tb : TE} {pos : Pos}
theorem pe_add (ha : PE X a ta) (hb : PE X b tb) : PE X (.BinOp a .Add b pos) (tAdd ta tb) := by
  intro pins s σ H Q I h
  refine wpAny_BinOp (bin ha hb I h fun v u s2 x y H2 I2 rx ry q => ?_)
  obtain ⟨i, j, rfl, rfl, q⟩ := q
  obtain ⟨t, rfl⟩ := rx
  obtain ⟨t', rfl⟩ := ry
  exact add_int ⟨.int _, H2, I2.tok _, ⟨_, rfl⟩, q⟩
theorem pe_sub (ha : PE X a ta) (hb : PE X b tb) : PE X (.BinOp a .Sub b pos) (tSub ta tb) := by
  intro pins s σ H Q I h
  refine wpAny_BinOp (bin ha hb I h fun v u s2 x y H2 I2 rx ry q => ?_)
  obtain ⟨i, j, rfl, rfl, q⟩ := q
  obtain ⟨t, rfl⟩ := rx
  obtain ⟨t', rfl⟩ := ry
  exact sub_int ⟨.int _, H2, I2.tok _, ⟨_, rfl⟩, q⟩
theorem pe_mul (ha : PE X a ta) (hb : PE X b tb) : PE X (.BinOp a .Mult b pos) (tMul ta tb) := by
  intro pins s σ H Q I h
  refine wpAny_BinOp (bin ha hb I h fun v u s2 x y H2 I2 rx ry q => ?_)
  obtain ⟨i, j, rfl, rfl, ⟨q1, q2⟩, q⟩ := q
  obtain ⟨t, rfl⟩ := rx
  obtain ⟨t', rfl⟩ := ry
  exact mul_int ⟨.int _, H2, I2.tok _, ⟨_, rfl⟩, q⟩ (.of_left (intBits_le_64 q1 q2))

/-! ### comparisons -/
def PC (X : Cx) (op : CmpOp) (a b : Expr) (t : TE) : Prop :=
  ∀ (pins : List (Addr × Obj)) (s : Shared) (σ : St) (H : Hp) (Q : VK), Inv X pins σ H s → t σ H Q →
    wpAny (model X.prog X.w) X.A (eval a X.env) (fun v s₁ => wpAny (model X.prog X.w) X.A (eval b X.env) (fun u s₂ => wpAny (model X.prog X.w) X.A (compareOp op v u) (EP X pins σ Q) X.xe s₂) X.xe s₁) X.xe s
theorem nobehind (b : Expr) {op : CmpOp} (h : op ≠ .In) (h2 : op ≠ .NotIn) : behindInMarks op b = false := by
  have e1 : (op == CmpOp.In) = false := by cases op <;> first | rfl | exact absurd rfl h
  have e2 : (op == CmpOp.NotIn) = false := by cases op <;> first | rfl | exact absurd rfl h2
  cases b <;> simp [behindInMarks, e1, e2]
def tCmp (p : Int → Int → Bool) (ta tb : TE) : TE := fun σ H Q => t2I ta tb (fun i j H2 => Q (.bl (p i j)) H2) σ H
abbrev tLt : TE → TE → TE := tCmp fun i j => decide (i < j)
abbrev tLe : TE → TE → TE := tCmp fun i j => decide (i ≤ j)
abbrev tGt : TE → TE → TE := tCmp fun i j => decide (j < i)
abbrev tGe : TE → TE → TE := tCmp fun i j => decide (j ≤ i)
abbrev tEqI : TE → TE → TE := tCmp fun i j => decide (i = j)
abbrev tNeI : TE → TE → TE := tCmp fun i j => !decide (i = j)
/-- a comparison of two ints, by its rule -/
theorem pc_int {op : CmpOp} {p : Int → Int → Bool} (ha : PE X a ta) (hb : PE X b tb)
    (rule : ∀ (i j : Int) (t u : Tok) (Q : Value → Shared → Prop) (s : Shared), Q (.bool (p i j)) s → wpAny (model X.prog X.w) X.A (compareOp op (.int i t) (.int j u)) Q X.xe s) : PC X op a b (tCmp p ta tb) := by
  intro pins s σ H Q I h
  refine bin ha hb I h fun v u s2 x y H2 I2 rx ry q => ?_
  obtain ⟨i, j, rfl, rfl, q⟩ := q
  obtain ⟨t, rfl⟩ := rx
  obtain ⟨t', rfl⟩ := ry
  exact rule i j t t' _ s2 ⟨.bl _, H2, I2, rfl, q⟩
theorem pc_lt (ha : PE X a ta) (hb : PE X b tb) : PC X .Lt a b (tLt ta tb) := pc_int ha hb fun _ _ _ _ _ _ h => lt_int h
theorem pc_le (ha : PE X a ta) (hb : PE X b tb) : PC X .LtE a b (tLe ta tb) := pc_int ha hb fun _ _ _ _ _ _ h => le_int h
theorem pc_gt (ha : PE X a ta) (hb : PE X b tb) : PC X .Gt a b (tGt ta tb) := pc_int ha hb fun _ _ _ _ _ _ h => gt_int h
theorem pc_ge (ha : PE X a ta) (hb : PE X b tb) : PC X .GtE a b (tGe ta tb) := pc_int ha hb fun _ _ _ _ _ _ h => ge_int h
theorem pc_eqI (ha : PE X a ta) (hb : PE X b tb) : PC X .Eq a b (tEqI ta tb) := pc_int ha hb fun _ _ _ _ _ _ h => eq_int (by rw [Bool.beq_eq_decide_eq]; exact h)
theorem pc_neI (ha : PE X a ta) (hb : PE X b tb) : PC X .NotEq a b (tNeI ta tb) := pc_int ha hb fun _ _ _ _ _ _ h => ne_int (by rw [bne, Bool.beq_eq_decide_eq]; exact h)
/-- is None -/
def tIsN (ta : TE) : TE := fun σ H Q => ta σ H fun x H1 => Q (.bl (decide (x = .non))) H1
def tNotN (ta : TE) : TE := fun σ H Q => ta σ H fun x H1 => Q (.bl (!decide (x = .non))) H1
theorem RelV.none_iff {x : V} {v : Value} (r : RelV x v) : (v == Value.none) = decide (x = .non) := by
  cases x with
  | non => cases r; rfl
  | bl _ => cases r; rfl
  | int _ => obtain ⟨t, rfl⟩ := r; rfl
  | str _ => obtain ⟨t, rfl⟩ := r; rfl
  | byt _ => obtain ⟨t, rfl⟩ := r; rfl
  | flt _ => obtain ⟨t, rfl⟩ := r; rfl
  | ref _ => cases r; rfl
  | ty _ => cases r; rfl
theorem pc_isN {j pos'} (ha : PE X a ta) : PC X .Is a (.Constant .none j pos') (tIsN ta) := by
  intro pins s σ H Q I h
  refine thn (ha pins s σ H _ I h) fun v s1 ⟨x, H1, I1, r1, q1⟩ => ?_
  exact Constant_none (is_none_gen ⟨.bl _, H1, I1, by rw [r1.none_iff]; rfl, q1⟩)
theorem pc_notN {j pos'} (ha : PE X a ta) : PC X .IsNot a (.Constant .none j pos') (tNotN ta) := by
  intro pins s σ H Q I h
  refine thn (ha pins s σ H _ I h) fun v s1 ⟨x, H1, I1, r1, q1⟩ => ?_
  exact Constant_none (isnot_none_gen ⟨.bl _, H1, I1, by rw [r1.none_iff]; rfl, q1⟩)
/-- a comparison as a value, as a test -/
def tB (t : TE) : TT := fun σ H Q => t σ H fun x H1 => ∃ c, x = .bl c ∧ Q c H1
theorem pe_cmp {op : CmpOp} {t : TE} (h : PC X op a b t) (h1 : behindInMarks op b = false := by first | exact nobehind _ (by decide) (by decide) | rfl) : PE X (.Compare a [op] [b] pos) t := fun pins s σ H Q I hw => wpAny_Compare1 (h pins s σ H Q I hw) h1
theorem pt_cmp {op : CmpOp} {t : TE} (h : PC X op a b t) (h1 : behindInMarks op b = false := by first | exact nobehind _ (by decide) (by decide) | rfl) : PT X (.Compare a [op] [b] pos) (tB t) := by
  intro pins s σ H Q I hw
  refine wpAny_isTrue_Compare1 (thn (h pins s σ H _ I hw) fun v s1 h1 => thn h1 fun u s2 h2 => thn h2 fun c s3 ⟨x, H1, I1, r1, q1⟩ => ?_) h1
  obtain ⟨d, rfl, q⟩ := q1
  cases r1
  exact wpAny_truthy_bool ⟨H1, I1, q⟩
/-- an expression whose value is a bool, as a test -/
theorem pt_val {e : Expr} {t : TE} (h : PE X e t) (he : ∀ whole, isTrue e X.env whole = (do let v ← whole; standAt e.pos; holding [v] (truthy v)) := by intro _; rfl) : PT X e (tB t) := by
  intro pins s σ H Q I hw
  refine isTrue_plain (thn (h pins s σ H _ I hw) fun v s1 ⟨x, H1, I1, r1, q1⟩ => ?_) (he _)
  obtain ⟨d, rfl, q⟩ := q1
  cases r1
  exact wpAny_truthy_bool ⟨H1, I1, q⟩

/-! ### and, or, not -/
variable {tA tB' : TT} {rest : List Expr}
def tAnd (t u : TT) : TT := fun σ H Q => t σ H fun c H1 => if c = true then u σ H1 Q else Q false H1
def tOr (t u : TT) : TT := fun σ H Q => t σ H fun c H1 => if c = true then Q true H1 else u σ H1 Q
def tNot (t : TT) : TT := fun σ H Q => t σ H fun c H1 => Q (!c) H1
theorem pw_and1 (ha : PT X a tA) : PW X (.BoolOp .And [a] pos) tA := by
  intro wh pins s σ H Q I h
  refine isTrue_and (thn (ha pins s σ H Q I h) fun c s1 e => ?_)
  cases c with
  | true => exact isTrue_and_nil e
  | false => exact e
theorem pw_or1 (ha : PT X a tA) : PW X (.BoolOp .Or [a] pos) tA := by
  intro wh pins s σ H Q I h
  refine isTrue_or (thn (ha pins s σ H Q I h) fun c s1 e => ?_)
  cases c with
  | false => exact isTrue_or_nil e
  | true => exact e
theorem pw_and (ha : PT X a tA) (hb : PW X (.BoolOp .And (b :: rest) pos) tB') : PW X (.BoolOp .And (a :: b :: rest) pos) (tAnd tA tB') := by
  intro wh pins s σ H Q I h
  refine isTrue_and (thn (ha pins s σ H _ I h) fun c s1 ⟨H1, I1, q1⟩ => ?_)
  cases c with
  | true => exact hb wh pins s1 σ H1 Q I1 q1
  | false => exact ⟨H1, I1, q1⟩
theorem pw_or (ha : PT X a tA) (hb : PW X (.BoolOp .Or (b :: rest) pos) tB') : PW X (.BoolOp .Or (a :: b :: rest) pos) (tOr tA tB') := by
  intro wh pins s σ H Q I h
  refine isTrue_or (thn (ha pins s σ H _ I h) fun c s1 ⟨H1, I1, q1⟩ => ?_)
  cases c with
  | true => exact ⟨H1, I1, q1⟩
  | false => exact hb wh pins s1 σ H1 Q I1 q1
theorem pt_not (ha : PT X a tA) : PT X (.UnaryOp .Not a pos) (tNot tA) := by
  intro pins s σ H Q I h
  exact isTrue_not (ha pins s σ H (fun c H1 => Q (!c) H1) I h)
/-- .. as values (bools) -/
def tAndV (ta tb : TE) : TE := fun σ H Q => ta σ H fun x H1 => ∃ c, x = .bl c ∧ if c = true then tb σ H1 Q else Q (.bl false) H1
def tOrV (ta tb : TE) : TE := fun σ H Q => ta σ H fun x H1 => ∃ c, x = .bl c ∧ if c = true then Q (.bl true) H1 else tb σ H1 Q
def tNotV (ta : TE) : TE := fun σ H Q => ta σ H fun x H1 => ∃ c, x = .bl c ∧ Q (.bl (!c)) H1
theorem pe_one {op} {t : TE} (h : PE X a t) : PE X (.BoolOp op [a] pos) t := fun pins s σ H Q I hw => BoolOp_one (h pins s σ H Q I hw)
theorem pe_and (ha : PE X a ta) (hb : PE X (.BoolOp .And (b :: rest) pos) tb) : PE X (.BoolOp .And (a :: b :: rest) pos) (tAndV ta tb) := by
  intro pins s σ H Q I h
  refine BoolOp_and (thn (ha pins s σ H _ I h) fun v s1 ⟨x, H1, I1, r1, q1⟩ => ?_)
  obtain ⟨c, rfl, q1⟩ := q1
  cases r1
  refine wpAny_truthy_bool ?_
  cases c with
  | true => exact hb pins s1 σ H1 Q I1 q1
  | false => exact ⟨.bl false, H1, I1, rfl, q1⟩
theorem pe_or (ha : PE X a ta) (hb : PE X (.BoolOp .Or (b :: rest) pos) tb) : PE X (.BoolOp .Or (a :: b :: rest) pos) (tOrV ta tb) := by
  intro pins s σ H Q I h
  refine BoolOp_or (thn (ha pins s σ H _ I h) fun v s1 ⟨x, H1, I1, r1, q1⟩ => ?_)
  obtain ⟨c, rfl, q1⟩ := q1
  cases r1
  refine wpAny_truthy_bool ?_
  cases c with
  | false => exact hb pins s1 σ H1 Q I1 q1
  | true => exact ⟨.bl true, H1, I1, rfl, q1⟩
theorem pe_not (ha : PE X a ta) : PE X (.UnaryOp .Not a pos) (tNotV ta) := by
  intro pins s σ H Q I h
  refine UnaryOp_ (thn (ha pins s σ H _ I h) fun v s1 ⟨x, H1, I1, r1, q1⟩ => ?_)
  obtain ⟨c, rfl, q1⟩ := q1
  cases r1
  exact not_of (wpAny_truthy_bool ⟨.bl (!c), H1, I1, rfl, q1⟩)
/-- a if t else b -/
def tIf (t : TT) (ta tb : TE) : TE := fun σ H Q => t σ H fun c H1 => if c = true then ta σ H1 Q else tb σ H1 Q
theorem pe_ifExp {c : Expr} (hc : PT X c tA) (ha : PE X a ta) (hb : PE X b tb) : PE X (.IfExp c a b pos) (tIf tA ta tb) := by
  intro pins s σ H Q I h
  refine wpAny_IfExp (thn (hc pins s σ H _ I h) fun d s1 ⟨H1, I1, q1⟩ => ?_)
  cases d with
  | true => exact ha pins s1 σ H1 Q I1 q1
  | false => exact hb pins s1 σ H1 Q I1 q1
end
end L2

namespace L2
open PySem PySem.Spec PyProof.Rows

/-! ### a list, a tuple that is read: tracked, frozen, or an object of the module -/
def SqL (K : PySem.W.Frag) (H : Hp) (a : Addr) (xs : List V) : Prop :=
  Rd H a (.lst xs) ∨
    ∃ (o : Obj) (its : Array Value) (n : Nat), K.lookup a = some o ∧ o.cls = .type "list" ∧ o.dict = none ∧ o.data = .seq its n ∧ its.size ≤ sizeLine ∧ Vals xs its.toList
def SqT (K : PySem.W.Frag) (H : Hp) (a : Addr) (xs : List V) : Prop :=
  Rd H a (.tup xs) ∨
    ∃ (o : Obj) (its : Array Value) (n : Nat), K.lookup a = some o ∧ o.cls = .type "tuple" ∧ o.data = .seq its n ∧ its.size ≤ sizeLine ∧ Vals xs its.toList
def absV : Value → Option V
  | .none => some .non
  | .bool b => some (.bl b)
  | .int i _ => some (.int i)
  | .str x _ => some (.str x)
  | .bytes b _ => some (.byt b)
  | .float b _ => some (.flt b)
  | .ref a => some (.ref a)
  | .type n => some (.ty n)
  | _ => none
theorem RelV.abs {x : V} {u : Value} (r : RelV x u) : absV u = some x := by
  cases x with
  | non => cases r; rfl
  | bl _ => cases r; rfl
  | int _ => obtain ⟨t, rfl⟩ := r; rfl
  | str _ => obtain ⟨t, rfl⟩ := r; rfl
  | byt _ => obtain ⟨t, rfl⟩ := r; rfl
  | flt _ => obtain ⟨t, rfl⟩ := r; rfl
  | ref _ => cases r; rfl
  | ty _ => cases r; rfl
theorem RelV.inj {x y : V} {u : Value} (r : RelV x u) (q : RelV y u) : x = y := Option.some.inj (r.abs.symm.trans q.abs)
theorem Vals.inj : ∀ {xs ys : List V} {us : List Value}, Vals xs us → Vals ys us → xs = ys
  | _, _, _, .nil, .nil => rfl
  | _, _, _, .cons r t, .cons r' t' => by rw [r.inj r', Vals.inj t t']
section
variable {X : Cx} {pins : List (Addr × Obj)} {σ : St} {H : Hp} {s : Shared} {a : Addr} {xs ys : List V}
theorem SqL.of {K : PySem.W.Frag} (h : H a = some (.lst xs)) : SqL K H a xs := .inl (.inl h)
theorem SqT.of {K : PySem.W.Frag} (h : H a = some (.tup xs)) : SqT K H a xs := .inl (.inl h)
theorem Inv.list (I : Inv X pins σ H s) (h : SqL X.K H a xs) : ∃ its : List Value, Vals xs its ∧ PlainL s.heap a its.toArray ∧ xs.length ≤ sizeLine := by
  rcases h with h | ⟨o, its, n, hk, hc, hd, hs, hz, r⟩
  · obtain ⟨z, its, n, r, e⟩ := h.ok I.hok
    exact ⟨its, r, ⟨_, n, e, rfl, rfl, rfl⟩, z⟩
  · refine ⟨its.toList, r, ⟨o, n, I.kIn a o hk, hc, hd, by simpa using hs⟩, ?_⟩
    have e := r.length
    simp only [Array.length_toList] at e
    omega
theorem Inv.tuple (I : Inv X pins σ H s) (h : SqT X.K H a xs) : ∃ its : List Value, Vals xs its ∧ IsTup s.heap a its.toArray ∧ xs.length ≤ sizeLine := by
  rcases h with h | ⟨o, its, n, hk, hc, hs, hz, r⟩
  · obtain ⟨z, its, r, p⟩ := h.ok I.hok
    exact ⟨its, r, p, z⟩
  · refine ⟨its.toList, r, ⟨o, I.kIn a o hk, hc, n, by simpa using hs⟩, ?_⟩
    have e := r.length
    simp only [Array.length_toList] at e
    omega
theorem Inv.list_inj (I : Inv X pins σ H s) (h : SqL X.K H a xs) (h' : SqL X.K H a ys) : xs = ys := by
  obtain ⟨its, r, ⟨o, n, e, _, _, d⟩, _⟩ := I.list h
  obtain ⟨its', r', ⟨o', n', e', _, _, d'⟩, _⟩ := I.list h'
  rw [e] at e'; cases e'
  rw [d] at d'
  injection d' with d1 _
  have : its = its' := by simpa using congrArg Array.toList d1
  subst this
  exact r.inj r'
theorem Inv.tuple_inj (I : Inv X pins σ H s) (h : SqT X.K H a xs) (h' : SqT X.K H a ys) : xs = ys := by
  obtain ⟨its, r, ⟨o, e, _, n, d⟩, _⟩ := I.tuple h
  obtain ⟨its', r', ⟨o', e', _, n', d'⟩, _⟩ := I.tuple h'
  rw [e] at e'; cases e'
  rw [d] at d'
  injection d' with d1 _
  have : its = its' := by simpa using congrArg Array.toList d1
  subst this
  exact r.inj r'
end

/-! ### another wish about exceptions -/
abbrev Cx.wish (X : Cx) (E : Value → Shared → Prop) : Cx := { X with xe := E }
/-- no exception leaves -/
abbrev Cx.nox (X : Cx) : Cx := X.wish fun _ _ => False
theorem Cx.Ok.wish {X : Cx} (ok : X.Ok) (E : Value → Shared → Prop) : (X.wish E).Ok :=
  ⟨ok.mod, ok.kind, ok.glob, ok.blt, ok.above, ok.inj, ok.has, ok.cab, ok.hd, ok.frames, ok.stk, ok.exf, ok.bs, ok.bsz, ok.noex, ok.exfs, ok.funs, ok.frf⟩
theorem Cx.Ok.unwish {X : Cx} {E : Value → Shared → Prop} (ok : (X.wish E).Ok) : X.Ok :=
  ⟨ok.mod, ok.kind, ok.glob, ok.blt, ok.above, ok.inj, ok.has, ok.cab, ok.hd, ok.frames, ok.stk, ok.exf, ok.bs, ok.bsz, ok.noex, ok.exfs, ok.funs, ok.frf⟩
section
variable {X : Cx} {pins : List (Addr × Obj)} {σ : St} {H : Hp} {s : Shared} {E : Value → Shared → Prop}
theorem Inv.wish (I : Inv X pins σ H s) (E : Value → Shared → Prop) : Inv (X.wish E) pins σ H s := ⟨I.ok.wish E, I.os, I.bare, I.base, I.loc, I.cell, I.free, I.freeC, I.pin, I.hok, I.len⟩
theorem Inv.unwish (I : Inv (X.wish E) pins σ H s) : Inv X pins σ H s := ⟨I.ok.unwish, I.os, I.bare, I.base, I.loc, I.cell, I.free, I.freeC, I.pin, I.hok, I.len⟩
theorem SP.unwish {D : Ends} {f : Flow} {s' : Shared} (h : SP (X.wish E) pins D f s') : SP X pins D f s' := by
  cases f with
  | next => obtain ⟨σ', H', I, q⟩ := h; exact ⟨σ', H', I.unwish, q⟩
  | brk => obtain ⟨σ', H', I, q⟩ := h; exact ⟨σ', H', I.unwish, q⟩
  | cont => obtain ⟨σ', H', I, q⟩ := h; exact ⟨σ', H', I.unwish, q⟩
  | ret u => obtain ⟨v, σ', H', I, r, q⟩ := h; exact ⟨v, σ', H', I.unwish, r, q⟩
theorem PE.nox {e : Expr} {t : TE} (h : PE X.nox e t) : PE X e t := fun pins s σ H Q I hw =>
  wpAny_mono (h pins s σ H Q (I.wish _) hw) (fun _ _ ⟨v, H', I', r, q⟩ => ⟨v, H', I'.unwish, r, q⟩) fun _ _ z => False.elim z
theorem PT.nox {e : Expr} {t : TT} (h : PT X.nox e t) : PT X e t := fun pins s σ H Q I hw =>
  wpAny_mono (h pins s σ H Q (I.wish _) hw) (fun _ _ ⟨H', I', q⟩ => ⟨H', I'.unwish, q⟩) fun _ _ z => False.elim z
theorem PSs.nox {st : List Stmt} {t : TS} (h : PSs X.nox st t) : PSs X st t := fun pins s σ H D I hw =>
  wpAny_mono (h pins s σ H D (I.wish _) hw) (fun _ _ q => q.unwish) fun _ _ z => False.elim z
end

/-! ### blocks and small statements -/
section
variable {X : Cx} {st : Stmt} {rest : List Stmt} {t u : TS} {e : Expr} {te : TE} {pos : Pos}
def tNext : TS := fun D σ H => D.nx σ H
def tSeq (t u : TS) : TS := fun D σ H => t { D with nx := u D } σ H
theorem pss_nil : PSs X [] tNext := fun _ _ σ H _ I h => wpAny_execs_nil ⟨σ, H, I, h⟩
theorem pss_cons (h1 : PS X st t) (h2 : PSs X rest u) : PSs X (st :: rest) (tSeq t u) := by
  intro pins s σ H D I h
  refine wpAny_execs_cons (thn (h1 pins s σ H { D with nx := u D } I h) fun f s1 q => ?_)
  cases f with
  | next =>
    obtain ⟨σ', H', I', q⟩ := q
    exact h2 pins s1 σ' H' D I' q
  | ret v => exact q
  | brk => exact q
  | cont => exact q
theorem pss_one (h1 : PS X st t) : PSs X [st] t := by
  intro pins s σ H D I h
  refine wpAny_execs_cons (thn (h1 pins s σ H D I h) fun f s1 q => ?_)
  cases f with
  | next => exact wpAny_execs_nil q
  | ret v => exact q
  | brk => exact q
  | cont => exact q
def tBreak : TS := fun D σ H => D.bk σ H
def tCont : TS := fun D σ H => D.ct σ H
theorem ps_pass : PS X (.Pass pos) tNext := fun _ _ σ H _ I h => wpAny_Pass ⟨σ, H, I, h⟩
theorem ps_break : PS X (.Break pos) tBreak := fun _ _ σ H _ I h => wpAny_Break ⟨σ, H, I, h⟩
theorem ps_continue : PS X (.Continue pos) tCont := fun _ _ σ H _ I h => wpAny_Continue ⟨σ, H, I, h⟩
/-- in a def's body nothing is shown -/
theorem Inv.quiet {pins : List (Addr × Obj)} {σ : St} {H : Hp} {s : Shared} (I : Inv X pins σ H s) : interactive X.env = false := by simp [interactive, I.ok.kind]
/-- a docstring -/
theorem ps_doc {x j pos pos'} : PS X (.Expr (.Constant (.str x) j pos) pos') tNext := fun _ s σ H _ I h => wpAny_Expr (Calls.Constant_str (show SP X _ _ .next { s with toks := s.toks + 1 } from ⟨σ, H, I.tok _, h⟩)) I.quiet
/-- an expression whose value is dropped -/
def tDrop (te : TE) : TS := fun D σ H => te σ H fun _ H1 => D.nx σ H1
theorem ps_expr (he : PE X e te) (hs : swapsWith e none pos.line X.env = pure false := by rfl) : PS X (.Expr e pos) (tDrop te) := by
  intro pins s σ H D I h
  exact wpAny_Expr_any (thn (he pins s σ H _ I h) fun v s1 ⟨x, H1, I1, r1, q1⟩ => ⟨σ, H1, I1, q1⟩) I.quiet hs
def tRet (te : TE) : TS := fun D σ H => te σ H D.rt
theorem ps_ret (he : PE X e te) : PS X (.Return (some e) pos) (tRet te) := by
  intro pins s σ H D I h
  exact wpAny_Return_some (thn (he pins s σ H _ I h) fun v s1 ⟨x, H1, I1, r1, q1⟩ => ⟨x, σ, H1, I1, r1, q1⟩)
def tRetN : TS := fun D _ H => D.rt .non H
theorem ps_retN : PS X (.Return none pos) tRetN := fun _ _ σ H _ I h => wpAny_Return_none ⟨.non, σ, H, I, rfl, h⟩
def tIfS (c : TT) (t u : TS) : TS := fun D σ H => c σ H fun b H1 => if b = true then t D σ H1 else u D σ H1
theorem ps_if {c : Expr} {a b : List Stmt} {tc : TT} (hc : PT X c tc) (ha : PSs X a t) (hb : PSs X b u) : PS X (.If c a b pos) (tIfS tc t u) := by
  intro pins s σ H D I h
  refine wpAny_If (thn (hc pins s σ H _ I h) fun d s1 ⟨H1, I1, q1⟩ => ?_)
  cases d with
  | true => exact ha pins s1 σ H1 D I1 q1
  | false => exact hb pins s1 σ H1 D I1 q1
/-- code that the proof never comes to -/
def tNever : TS := fun _ _ _ => False
theorem ps_never : PS X st tNever := fun _ _ _ _ _ _ h => h.elim
theorem pss_never {sts : List Stmt} : PSs X sts tNever := fun _ _ _ _ _ _ h => h.elim
end

/-! ### targets -/
abbrev TG := V → St → Hp → (St → Hp → Prop) → Prop
abbrev TGs := List V → St → Hp → (St → Hp → Prop) → Prop
def PG (X : Cx) (target : Expr) (t : TG) : Prop :=
  ∀ (pins : List (Addr × Obj)) (s : Shared) (σ : St) (H : Hp) (v : V) (u : Value) (Q : St → Hp → Prop), Inv X pins σ H s → RelV v u → t v σ H Q →
    wpAny (model X.prog X.w) X.A (assign target X.env u) (fun _ s' => ∃ σ' H', Inv X pins σ' H' s' ∧ Q σ' H') X.xe s
/-- several targets, one after another -/
def PGs (X : Cx) (ts : List Expr) (t : TGs) : Prop :=
  ∀ (pins : List (Addr × Obj)) (s : Shared) (σ : St) (H : Hp) (vs : List V) (us : List Value) (Q : St → Hp → Prop), Inv X pins σ H s → Vals vs us → t vs σ H Q →
    wpAny (model X.prog X.w) X.A (assignInOrder ((assignEach ts X.env).map (·.2)) us) (fun _ s' => ∃ σ' H', Inv X pins σ' H' s' ∧ Q σ' H') X.xe s
/-- o[i] = v, by values -/
abbrev TSet := V → V → V → Hp → (Hp → Prop) → Prop
def PSet (X : Cx) (t : TSet) : Prop :=
  ∀ (pins : List (Addr × Obj)) (s : Shared) (σ : St) (H : Hp) (o i v : V) (ov iv u : Value) (Q : Hp → Prop), Inv X pins σ H s → RelV o ov → RelV i iv → RelV v u → t o i v H Q →
    wpAny (model X.prog X.w) X.A (setItem ov iv u) (fun _ s' => ∃ H', Inv X pins σ H' s' ∧ Q H') X.xe s
/-- a op= b, by values -/
abbrev TIp := V → V → Hp → VK → Prop
def PIp (X : Cx) (op : Operator) (t : TIp) : Prop :=
  ∀ (pins : List (Addr × Obj)) (s : Shared) (σ : St) (H : Hp) (x y : V) (v u : Value) (Q : VK), Inv X pins σ H s → RelV x v → RelV y u → t x y H Q →
    wpAny (model X.prog X.w) X.A (inplaceOp op v u) (EP X pins σ Q) X.xe s
section
variable {X : Cx} {pos : Pos}
def gName (i : Nat) : TG := fun v σ H Q => Q (σ.set i (some v)) H
theorem pg_name {i : Nat} {x : Str} (hN : X.N.Nodup) (hi : X.N[i]? = some x) (hx : Loc X.env.scope x) (hf : X.fn x = true ∨ X.env.scope.names.lookup x = some .local := by first | exact .inl rfl | exact .inr rfl | assumption) : PG X (.Name x pos) (gName i) := by
  intro pins s σ H v u Q I r h
  exact wpAny_assign_Name (store_ok I hN hi hx r (fun s' I' => ⟨_, H, I', h⟩) hf)
def gNil : TGs := fun vs σ H Q => vs = [] ∧ Q σ H
def gCons (t : TG) (u : TGs) : TGs := fun vs σ H Q => ∃ v r, vs = v :: r ∧ t v σ H fun σ' H' => u r σ' H' Q
theorem pgs_nil : PGs X [] gNil := by
  intro pins s σ H vs us Q I r h
  obtain ⟨e, h⟩ := h
  subst e
  cases r
  exact assignInOrder_nil ⟨σ, H, I, h⟩
theorem pgs_cons {e : Expr} {es : List Expr} {t : TG} {u : TGs} (h1 : PG X e t) (h2 : PGs X es u)
    (hs : (assignEach (e :: es) X.env).map (·.2) = assign e X.env :: (assignEach es X.env).map (·.2) := by rfl) : PGs X (e :: es) (gCons t u) := by
  intro pins s σ H vs us Q I r h
  obtain ⟨v, vr, e1, h⟩ := h
  subst e1
  cases r with
  | cons r rr =>
    rw [hs]
    refine assignInOrder_cons (thn (h1 pins s σ H _ _ _ I r h) fun _ s1 ⟨σ1, H1, I1, q1⟩ => ?_)
    exact h2 pins s1 σ1 H1 _ _ Q I1 rr q1
/-- (a, b, ..) = a tuple of that length -/
def gTup (K : PySem.W.Frag) (n : Nat) (t : TGs) : TG := fun v σ H Q => ∃ a xs, v = .ref a ∧ SqT K H a xs ∧ xs.length = n ∧ t xs σ H Q
theorem pg_tup {es : List Expr} {k : Nat} {t : TGs} {n : Nat} (hc : X.calm = true) (h : PGs X es t)
    (hn : (assignEach es X.env).length = n := by rfl) (hst : (assignEach es X.env).findIdx? (·.1) = none := by rfl) : PG X (.Tuple es k pos) (gTup X.K n t) := by
  intro pins s σ H v u Q I r hw
  obtain ⟨a, xs, e1, hq, hl, hw⟩ := hw
  subst e1
  cases r
  obtain ⟨its, rv, ht, hz⟩ := I.tuple hq
  refine assign_Tuple_tuple (I.ok.hd hc) ht (by simp [hn, ← hl, rv.length]) hst fun h' hx => ?_
  have I1 : Inv X pins σ H { s with heap := h' } := I.kept (t' := s.toks) fun b o e => hx b o (Nat.ne_of_lt (Heap.lt_size e)) e
  exact h pins _ σ H xs _ Q I1 (by simpa using rv) hw
/-- o[i] = .. -/
def gSub (to ti : TE) (t : TSet) : TG := fun v σ H Q => to σ H fun o H1 => ti σ H1 fun i H2 => t o i v H2 fun H3 => Q σ H3
theorem pg_sub {o i : Expr} {to ti : TE} {t : TSet} (ho : PE X o to) (hi : PE X i ti) (hs : PSet X t)
    (ha : ∀ v, assign (.Subscript o i pos) X.env v = (do
      let ov ← holding [v] (eval o X.env)
      let iv ← holding [v, ov] (eval i X.env)
      standAt pos
      holding [v, ov, iv] (setItem ov iv v)
      release [v, ov, iv] []) := by intro _; rfl) : PG X (.Subscript o i pos) (gSub to ti t) := by
  intro pins s σ H v u Q I r h
  rw [ha]
  refine wpAny_bind (wpAny_holding (thn (ho pins s σ H _ I h) fun ov s1 ⟨x, H1, I1, r1, q1⟩ => ?_))
  refine wpAny_bind (wpAny_holding (thn (hi pins s1 σ H1 _ I1 q1) fun iv s2 ⟨y, H2, I2, r2, q2⟩ => ?_))
  refine wpAny_bind (wpAny_standAt (wpAny_bind (wpAny_holding (thn (hs pins s2 σ H2 x y v ov iv u _ I2 r1 r2 r q2) fun _ s3 ⟨H3, I3, q3⟩ => ?_))))
  exact wpAny_release ⟨σ, H3, I3, q3⟩
/-- target = value -/
def tAsg (te : TE) (g : TG) : TS := fun D σ H => te σ H fun x H1 => g x σ H1 D.nx
theorem ps_asg {tg e : Expr} {te : TE} {g : TG} (he : PE X e te) (hg : PG X tg g) (hs : swapsWithSole [tg] e pos.line X.env = pure false := by rfl) (hw : swappedStores [tg] e X.env = pure none := by rfl)
    (h1 : (assignEach [tg] X.env).map (·.2) = [assign tg X.env] := by rfl) : PS X (.Assign [tg] e pos) (tAsg te g) := by
  intro pins s σ H D I h
  refine wpAny_Assign_stores (thn (he pins s σ H _ I h) fun v s1 ⟨x, H1, I1, r1, q1⟩ => ?_) hs hw
  rw [h1]
  exact thn (hg pins s1 σ H1 x v _ I1 r1 q1) fun _ s2 q => q
/-- name = value -/
theorem ps_set {i : Nat} {x : Str} {e : Expr} {te : TE} {pos' : Pos} (hN : X.N.Nodup) (hi : X.N[i]? = some x) (hx : Loc X.env.scope x) (he : PE X e te) (hs : swapsWith e (some (.Name x pos')) pos.line X.env = pure false := by rfl) (hf : X.fn x = true ∨ X.env.scope.names.lookup x = some .local := by first | exact .inl rfl | exact .inr rfl | assumption) :
    PS X (.Assign [.Name x pos'] e pos) (tAsg te (gName i)) := by
  intro pins s σ H D I h
  refine wpAny_Assign_Name (thn (he pins s σ H _ I h) fun v s1 ⟨y, H1, I1, r1, q1⟩ => ?_) hs
  exact store_ok I1 hN hi hx r1 (fun s2 I2 => ⟨_, H1, I2, q1⟩) hf
/-- a, b = x, y with plain local names: stored from the right; the pair itself is not tracked (the opening rows as in PyProof/Rows/TupAssign.lean:23) -/
def tPar (i j : Nat) (ta : TA) : TS := fun D σ H => ta σ H fun vs H1 => ∃ v w, vs = [v, w] ∧ D.nx ((σ.set i (some v)).set j (some w)) H1
theorem ps_par {i j : Nat} {x y : Str} {a b : Expr} {ta : TA} {px py pt : Pos} {kt k2 pt2} (hc : X.calm = true) (hN : X.N.Nodup) (hi : X.N[i]? = some x) (hj : X.N[j]? = some y) (hij : i ≠ j)
    (hx : X.env.scope.names.lookup x = some .local) (hy : X.env.scope.names.lookup y = some .local) (ha : PA X [a, b] ta)
    (hw : swappedStores [.Tuple [.Name x px, .Name y py] kt pt] (.Tuple [a, b] k2 pt2) X.env = pure (some [x, y]))
    (hs : swapsWithSole [.Tuple [.Name x px, .Name y py] kt pt] (.Tuple [a, b] k2 pt2) pos.line X.env = pure false := by rfl) :
    PS X (.Assign [.Tuple [.Name x px, .Name y py] kt pt] (.Tuple [a, b] k2 pt2) pos) (tPar i j ta) := by
  intro pins s σ H D I h
  rw [exec_Assign_arm]
  refine wpAny_bind (wpAny_standAt ?_)
  rw [hs]
  refine wpAny_bind (wpAny_pure ?_)
  rw [if_neg (by decide)]
  refine wpAny_bind (Tuple_ (thn (ha _ pins s σ H _ I h) fun us s1 ⟨vs, H1, I1, r1, q1⟩ => ?_))
  obtain ⟨v, w, e1, q1⟩ := q1
  subst e1
  obtain ⟨u1, u2, rfl, rv, rw'⟩ : ∃ u1 u2, us = [u1, u2] ∧ RelV v u1 ∧ RelV w u2 := by
    cases r1 with
    | cons p q =>
      cases q with
      | cons p' q' =>
        cases q'
        exact ⟨_, _, rfl, p, p'⟩
  refine wpAny_newObj_type ?_ (by show 2 ≤ sizeLine; decide)
  have I2 : Inv X pins σ H1 { s1 with heap := s1.heap.push { cls := .type "tuple", data := .seq [u1, u2].toArray } } := I1.kept (t' := s1.toks) fun b o e => Heap.get?_push_of_some _ e
  rw [hw]
  refine wpAny_bind (wpAny_pure ?_)
  show wpAny (model X.prog X.w) X.A (do rule "assign.swapped-stores"; let items ← unpackItems (.ref s1.heap.objs.size) 2 none; assignInOrder [fun v => bindName X.env y v, fun v => bindName X.env x v] items.reverse; pure Flow.next) _ _ _
  refine wpAny_bind (wpAny_rule (wpAny_bind (unpackItems_tuple (items := #[u1, u2]) (I.ok.hd hc) (IsTup.new s1.heap _) fun h' hx' => ?_)))
  have I3 := I2.kept (h' := h') (t' := s1.toks) fun b o e => hx' b o (Nat.ne_of_lt (Heap.lt_size e)) e
  show wpAny _ _ (assignInOrder [fun v => bindName X.env y v, fun v => bindName X.env x v] [u2, u1] >>= fun _ => pure Flow.next) _ _ _
  refine wpAny_bind (assignInOrder_cons (wpAny_bindName (store_ok I3 hN hj (.inl hy) rw' (fun s2 I4 => ?_) (.inr hy))))
  refine assignInOrder_cons (wpAny_bindName (store_ok I4 hN hi (.inl hx) rv (fun s3 I5 => assignInOrder_nil (wpAny_pure ?_)) (.inr hx)))
  rw [List.set_comm _ _ (Ne.symm hij)] at I5
  exact ⟨_, H1, I5, q1⟩
/-- name op= e -/
def tAug (i : Nat) (te : TE) (ti : TIp) : TS := fun D σ H => ∃ x, σ[i]? = some (some x) ∧ te σ H fun y H1 => ti x y H1 fun z H2 => D.nx (σ.set i (some z)) H2
theorem ps_aug {i : Nat} {x : Str} {e : Expr} {te : TE} {op : Operator} {ti : TIp} {pos' : Pos} (hN : X.N.Nodup) (hi : X.N[i]? = some x) (hx : Loc X.env.scope x) (he : PE X e te) (ho : PIp X op ti) (hf : X.fn x = true ∨ X.env.scope.names.lookup x = some .local := by first | exact .inl rfl | exact .inr rfl | assumption) :
    PS X (.AugAssign (.Name x pos') op e pos) (tAug i te ti) := by
  intro pins s σ H D I h
  obtain ⟨v, e1, h⟩ := h
  obtain ⟨m, hn, hl⟩ := I.loc
  have vis : Vis X.env.scope x := by rcases hx with k | k; exact .inl k; exact .inr (.inl k)
  obtain ⟨u, r, l⟩ := hl i x v hi e1 vis
  refine wpAny_AugAssign_Name ?_
  have go : wpAny (model X.prog X.w) X.A (eval e X.env) (fun w s₂ => wpAny (model X.prog X.w) X.A (inplaceOp op u w) (fun r s₃ => wpAny (model X.prog X.w) X.A (storeName X.env x r) (fun _ => SP X pins D .next) X.xe s₃) X.xe s₂) X.xe s := by
    refine thn (he pins s σ H _ I h) fun w s1 ⟨y, H1, I1, r1, q1⟩ => ?_
    refine thn (ho pins s1 σ H1 v y u w _ I1 r r1 q1) fun z s2 ⟨zv, H2, I2, r2, q2⟩ => ?_
    exact store_ok I2 hN hi hx r2 (fun s3 I3 => ⟨_, H2, I3, q2⟩) hf
  rcases l with ⟨hk, hm⟩ | ⟨hk, c, hc, hcell⟩
  · exact wpAny_loadName_local I.ok.kind hk hn hm go
  · rcases hk with hk | hk
    · exact wpAny_loadName_cell I.ok.kind hk hc hcell go
    · rcases hx with k | k
      · have : X.env.scope.names.lookup x = some .free := hk
        rw [k] at this; cases this
      · have : X.env.scope.names.lookup x = some .free := hk
        rw [k] at this; cases this
/-- o[i] op= e -/
def tAugS (to ti te : TE) (tget : V → V → Hp → VK → Prop) (tip : TIp) (tset : TSet) : TS := fun D σ H => to σ H fun o H1 => ti σ H1 fun i H2 => tget o i H2 fun x H3 => te σ H3 fun y H4 => tip x y H4 fun z H5 => tset o i z H5 fun H6 => D.nx σ H6
/-- o[i], by values -/
def PGet (X : Cx) (t : V → V → Hp → VK → Prop) : Prop :=
  ∀ (pins : List (Addr × Obj)) (s : Shared) (σ : St) (H : Hp) (o i : V) (ov iv : Value) (Q : VK), Inv X pins σ H s → RelV o ov → RelV i iv → t o i H Q →
    wpAny (model X.prog X.w) X.A (getItem ov iv) (EP X pins σ Q) X.xe s
theorem ps_augS {o i e : Expr} {to ti te : TE} {tget : V → V → Hp → VK → Prop} {tip : TIp} {tset : TSet} {op : Operator} {tpos : Pos} (ho : PE X o to) (hi : PE X i ti) (hg : PGet X tget) (he : PE X e te) (hp : PIp X op tip) (hs : PSet X tset)
    (ha : ∀ ov iv new, augStore i ov iv new = (do holding [new, ov, iv] (setItem ov iv new); release [new, ov, iv] []; pure .next) := by intros; rfl) : PS X (.AugAssign (.Subscript o i tpos) op e pos) (tAugS to ti te tget tip tset) := by
  intro pins s σ H D I h
  refine wpAny_AugAssign_SubscriptAny (thn (ho pins s σ H _ I h) fun ov s1 ⟨x1, H1, I1, r1, q1⟩ => ?_) ha
  refine thn (hi pins s1 σ H1 _ I1 q1) fun iv s2 ⟨x2, H2, I2, r2, q2⟩ => ?_
  refine thn (hg pins s2 σ H2 x1 x2 ov iv _ I2 r1 r2 q2) fun old s3 ⟨x3, H3, I3, r3, q3⟩ => ?_
  refine thn (he pins s3 σ H3 _ I3 q3) fun v s4 ⟨x4, H4, I4, r4, q4⟩ => ?_
  refine thn (hp pins s4 σ H4 x3 x4 old v _ I4 r3 r4 q4) fun new s5 ⟨x5, H5, I5, r5, q5⟩ => ?_
  exact thn (hs pins s5 σ H5 x1 x2 x5 ov iv new _ I5 r1 r2 r5 q5) fun _ s6 ⟨H6, I6, q6⟩ => ⟨σ, H6, I6, q6⟩
/-- ints -/
def ipI (f : Int → Int → Int) : TIp := fun x y H Q => ∃ i j, x = .int i ∧ y = .int j ∧ Q (.int (f i j)) H
theorem ip_add : PIp X .Add (ipI fun i j => i + j) := by
  intro pins s σ H x y v u Q I r1 r2 h
  obtain ⟨i, j, e1, e2, q⟩ := h
  subst e1; subst e2
  obtain ⟨t, rfl⟩ := r1
  obtain ⟨t', rfl⟩ := r2
  exact iadd_int ⟨.int _, H, I.tok _, ⟨_, rfl⟩, q⟩
theorem ip_sub : PIp X .Sub (ipI fun i j => i - j) := by
  intro pins s σ H x y v u Q I r1 r2 h
  obtain ⟨i, j, e1, e2, q⟩ := h
  subst e1; subst e2
  obtain ⟨t, rfl⟩ := r1
  obtain ⟨t', rfl⟩ := r2
  exact isub_int ⟨.int _, H, I.tok _, ⟨_, rfl⟩, q⟩
end

/-! ### while -/
section
variable {X : Cx} {pos : Pos}
/-- the invariant W with its measure -/
def tWhile (c : TT) (tb : TS) : TS := fun D σ H => ∃ W : Nat → St → Hp → Prop, (∃ m, W m σ H) ∧ ∀ m σ H, W m σ H →
  c σ H fun b H1 => if b = true then ∃ N : St → Hp → Prop, (∀ σ' H', N σ' H' → ∃ m', m' < m ∧ W m' σ' H') ∧ tb { D with nx := N, ct := N, bk := D.nx } σ H1 else D.nx σ H1
theorem ps_while {c : Expr} {body : List Stmt} {tc : TT} {tb : TS} (hp : PassesOwn (model X.prog X.w) X.A X.env X.xe) (hc : PT X c tc) (hb : PSs X body tb) : PS X (.While c body [] pos) (tWhile tc tb) := by
  intro pins s σ H D I h
  obtain ⟨W, ⟨m0, w0⟩, turn⟩ := h
  refine wpAny_While (codeAny_whileLoop (fun n s' => ∃ σ' H', Inv X pins σ' H' s' ∧ W n σ' H') ?_ m0 ⟨σ, H, I, w0⟩)
  rintro n s1 ⟨σ1, H1, I1, w1⟩
  refine wpAny_passesOwn hp (thn (hc pins s1 σ1 H1 _ I1 (turn n σ1 H1 w1)) fun b s2 ⟨H2, I2, q2⟩ => ?_)
  cases b with
  | true =>
    obtain ⟨N, hN, q2⟩ := q2
    rw [if_pos rfl]
    refine wpAny_passesOwn hp (thn (hb pins s2 σ1 H2 _ I2 q2) fun f s3 q3 => ?_)
    cases f with
    | next =>
      obtain ⟨σ3, H3, I3, n3⟩ := q3
      obtain ⟨m', hm, w3⟩ := hN σ3 H3 n3
      exact ⟨m', hm, σ3, H3, I3, w3⟩
    | cont =>
      obtain ⟨σ3, H3, I3, n3⟩ := q3
      obtain ⟨m', hm, w3⟩ := hN σ3 H3 n3
      exact ⟨m', hm, σ3, H3, I3, w3⟩
    | brk => exact q3
    | ret v => exact q3
  | false =>
    rw [if_neg Bool.false_ne_true]
    exact wpAny_execs_nil ⟨σ1, H2, I2, q2⟩
end

/-! ### what a loop or a comprehension walks -/
/-- at turn i: it yields x (the heap may grow), or it stops -/
structure It where
  go : Nat → Hp → Prop
  yld : Nat → Hp → V → Hp → Prop
  stop : Nat → Hp → Prop
/-- the iterator's own objects may turn: they are not the frame's, not pinned, younger than the entry (or a comprehension's own) -/
def FpOk (X : Cx) (pins : List (Addr × Obj)) (H : Hp) (b : Addr) : Prop :=
  H b = none ∧ b ≠ X.env.locals ∧ b ∉ X.fs ∧ (b ∈ X.ex ∨ X.s₀.heap.objs.size ≤ b) ∧ (∀ x c, X.env.cells.lookup x = some c → c ≠ b) ∧ ∀ p ∈ X.pn ++ pins, p.1 ≠ b
theorem Inv.fpOk {X : Cx} {pins : List (Addr × Obj)} {σ : St} {H H' : Hp} {s : Shared} {b : Addr} (I : Inv X pins σ H s) (hb : s.heap.objs.size ≤ b) (hn : H' b = none) : FpOk X pins H' b := by
  refine ⟨hn, Nat.ne_of_gt (Nat.lt_of_lt_of_le I.lt hb), I.nofs hb, .inr (Nat.le_trans I.sz hb), fun x c e z => ?_, fun p hp z => ?_⟩
  · obtain ⟨v, q⟩ := I.cell x c e
    exact absurd (Nat.lt_of_lt_of_le q.lt (by rw [z]; exact hb)) (Nat.lt_irrefl _)
  · exact absurd (Nat.lt_of_lt_of_le (Heap.lt_size (I.pin p hp).1) (by rw [z]; exact hb)) (Nat.lt_irrefl _)
structure Turn (P : Program) (w : World) (K : PySem.W.Frag) (tg : Expr) (J : It) (fp : List Addr) (it : Addr) (tn : Nat → Heap → Prop) : Prop where
  mem : it ∈ fp
  obj : ∀ i h, tn i h → ∀ b ∈ fp, ∃ o, h.get? b = some o ∧ ∀ v, o.data ≠ .cell v
  keep : ∀ i h h', tn i h → (∀ b ∈ fp, ∀ o, h.get? b = some o → h'.get? b = some o) → tn i h'
  item : ∀ (X : Cx), X.prog = P → X.w = w → X.K = K → X.calm = true → ∀ (i : Nat) (pins : List (Addr × Obj)) (s : Shared) (σ : St) (H : Hp) (E : Value → Shared → Prop), Inv X pins σ H s → (∀ b ∈ fp, FpOk X pins H b) → tn i s.heap → J.go i H →
    wpAny (model P w) X.A (pyNext (.ref it)) (fun r s1 => ∃ u, r = some u ∧
      wpAny (model P w) X.A (letOwnedTupleGo tg (.ref it) u) (fun _ s2 => ∃ x H', Inv X pins σ H' s2 ∧ RelV x u ∧ J.yld i H x H' ∧ tn (i + 1) s2.heap ∧ ∀ b ∈ fp, H' b = none) E s1) E s
  done : ∀ (X : Cx), X.prog = P → X.w = w → X.K = K → X.calm = true → ∀ (i : Nat) (pins : List (Addr × Obj)) (s : Shared) (σ : St) (H : Hp) (E : Value → Shared → Prop), Inv X pins σ H s → (∀ b ∈ fp, FpOk X pins H b) → tn i s.heap → J.stop i H →
    wpAny (model P w) X.A (pyNext (.ref it)) (fun r s1 => r = none ∧ Inv X pins σ H s1) E s
  self : ∀ (A : Around) (i : Nat) (s : Shared) (Q : Value → Shared → Prop) (E : Value → Shared → Prop), tn i s.heap → Q (.ref it) s → wpAny (model P w) A (pyIter (.ref it)) Q E s
abbrev TI := St → Hp → (It → Hp → Prop) → Prop
/-- an iterator has come -/
def PIE (X : Cx) (pins : List (Addr × Obj)) (σ : St) (tg : Expr) (R : It → Hp → Prop) (itv : Value) (s2 : Shared) : Prop :=
  ∃ (it : Addr) (fp : List Addr) (tn : Nat → Heap → Prop) (J : It) (H' : Hp), itv = .ref it ∧ Inv X pins σ H' s2 ∧ Turn X.prog X.w X.K tg J fp it tn ∧ tn 0 s2.heap ∧ (∀ b ∈ fp, FpOk X pins H' b) ∧ R J H'
def PI (X : Cx) (tg iter : Expr) (wi : TI) : Prop :=
  ∀ (pins : List (Addr × Obj)) (s : Shared) (σ : St) (H : Hp) (R : It → Hp → Prop), Inv X pins σ H s → wi σ H R →
    wpAny (model X.prog X.w) X.A (eval iter X.env) (fun v s1 => wpAny (model X.prog X.w) X.A (pyIter v) (PIE X pins σ tg R) X.xe s1) X.xe s

/-- the step ahead of the store is nothing for an iterator that keeps no tuple -/
theorem go_of {M : Model} {A : Around} {E : Value → Shared → Prop} {s : Shared} {tg : Expr} {it : Addr} {u : Value} {o : Obj} {n : String} {vs : Array Value} {Q : Unit → Shared → Prop} (ho : s.heap.get? it = some o) (hc : o.cls = .type n) (hd : o.data = .fields vs)
    (hn : ["enumerate", "zip", "dict_itemiterator", "dict_reverseitemiterator", "odict_iterator", "itertools.zip_longest", "itertools.pairwise"].contains n = false) (hQ : Q () s) : wpAny M A (letOwnedTupleGo tg (.ref it) u) Q E s := by
  unfold letOwnedTupleGo
  cases tg <;> first
    | exact wpAny_pure hQ
    | (cases u <;> first
        | exact wpAny_pure hQ
        | (refine wpAny_bind (wpAny_load ho ?_)
           rw [hc, hd]
           show wpAny M A (if (["enumerate", "zip", "dict_itemiterator", "dict_reverseitemiterator", "odict_iterator", "itertools.zip_longest", "itertools.pairwise"].contains n && vs[0]? == some (rawInt _)) = true then _ else _) Q E s
           rw [if_neg (by intro h; rw [hn, Bool.false_and] at h; cases h)]
           exact wpAny_pure hQ))

/-- the list at a, as it stands at each turn (a loop may append to it) -/
def Itl (K : PySem.W.Frag) (a : Addr) : It :=
  ⟨fun i H => ∃ xs x, SqL K H a xs ∧ xs[i]? = some x, fun i H x H' => H' = H ∧ ∀ xs, SqL K H a xs → xs[i]? = some x, fun i H => ∃ xs, SqL K H a xs ∧ xs.length ≤ i⟩
def Itt (K : PySem.W.Frag) (a : Addr) : It :=
  ⟨fun i H => ∃ xs x, SqT K H a xs ∧ xs[i]? = some x, fun i H x H' => H' = H ∧ ∀ xs, SqT K H a xs → xs[i]? = some x, fun i H => ∃ xs, SqT K H a xs ∧ xs.length ≤ i⟩
/-- lo, lo + 1, .. (n of them) -/
def Itr (lo : Int) (n : Nat) : It := ⟨fun i _ => i < n, fun i H x H' => H' = H ∧ x = .int (lo + i), fun i _ => n ≤ i⟩
theorem turn_list {P : Program} {w : World} {K : PySem.W.Frag} {tg : Expr} (a it : Addr) : Turn P w K tg (Itl K a) [it] it (fun i h => h.IsListIter it a i) where
  mem := by simp
  obj := fun i h st b hb => by
    have e : b = it := by simpa using hb
    subst e
    obtain ⟨o, e, c, d⟩ := st
    exact ⟨o, e, fun v z => by rw [d] at z; cases z⟩
  keep := fun i h h' st k => st.at fun o e => k it (by simp) o e
  item := by
    intro X hP hw hK hc i pins s σ H E I hf st hg
    subst hP hw hK
    obtain ⟨xs, x, hq, hx⟩ := hg
    obtain ⟨its, rv, p, hz⟩ := I.list hq
    obtain ⟨u, hu, ru⟩ := rv.get hx
    obtain ⟨f0, f1, f2, f3, f4, f5⟩ := hf it (by simp)
    refine wpAny_pyNext_list_item st p.isList (x := u) (by simpa using hu) fun h' st' sb => ?_
    have I1 : Inv X pins σ H { s with heap := h' } := I.turned (t' := s.toks) (fun b o hb e => (sb.2 b hb).trans e) f0 f1 f3 f4 f5
    obtain ⟨o, e, c, d⟩ := id st'
    exact ⟨u, rfl, go_of (s := { s with heap := h' }) e c d (by decide) ⟨x, H, I1, ru, ⟨rfl, fun ys hy => by rw [I.list_inj hy hq]; exact hx⟩, st', fun b hb => (hf b hb).1⟩⟩
  done := by
    intro X hP hw hK hc i pins s σ H E I hf st hg
    subst hP hw hK
    obtain ⟨xs, hq, hx⟩ := hg
    obtain ⟨its, rv, p, hz⟩ := I.list hq
    obtain ⟨f0, f1, f2, f3, f4, f5⟩ := hf it (by simp)
    have hl := rv.length
    exact wpAny_pyNext_list_end (I.ok.hd hc) st p.isList (by simp; omega) fun h' eb => ⟨rfl, I.turned (t' := s.toks) (fun b o hb e => eb b o hb e) f0 f1 f3 f4 f5⟩
  self := fun _ _ _ _ _ st h => wpAny_pyIter_listiter st h
theorem turn_tuple {P : Program} {w : World} {K : PySem.W.Frag} {tg : Expr} (a it : Addr) : Turn P w K tg (Itt K a) [it] it (fun i h => h.IsTupleIter it a i) where
  mem := by simp
  obj := fun i h st b hb => by
    have e : b = it := by simpa using hb
    subst e
    obtain ⟨o, e, c, d⟩ := st
    exact ⟨o, e, fun v z => by rw [d] at z; cases z⟩
  keep := fun i h h' st k => st.at fun o e => k it (by simp) o e
  item := by
    intro X hP hw hK hc i pins s σ H E I hf st hg
    subst hP hw hK
    obtain ⟨xs, x, hq, hx⟩ := hg
    obtain ⟨its, rv, p, hz⟩ := I.tuple hq
    obtain ⟨u, hu, ru⟩ := rv.get hx
    obtain ⟨f0, f1, f2, f3, f4, f5⟩ := hf it (by simp)
    refine wpAny_pyNext_tuple_item st (show s.heap.IsTuple a its.toArray from p) (x := u) (by simpa using hu) fun h' st' sb => ?_
    have I1 : Inv X pins σ H { s with heap := h' } := I.turned (t' := s.toks) (fun b o hb e => (sb.2 b hb).trans e) f0 f1 f3 f4 f5
    obtain ⟨o, e, c, d⟩ := id st'
    exact ⟨u, rfl, go_of (s := { s with heap := h' }) e c d (by decide) ⟨x, H, I1, ru, ⟨rfl, fun ys hy => by rw [I.tuple_inj hy hq]; exact hx⟩, st', fun b hb => (hf b hb).1⟩⟩
  done := by
    intro X hP hw hK hc i pins s σ H E I hf st hg
    subst hP hw hK
    obtain ⟨xs, hq, hx⟩ := hg
    obtain ⟨its, rv, p, hz⟩ := I.tuple hq
    obtain ⟨f0, f1, f2, f3, f4, f5⟩ := hf it (by simp)
    have hl := rv.length
    exact wpAny_pyNext_tuple_end (I.ok.hd hc) st (show s.heap.IsTuple a its.toArray from p) (by simp; omega) fun h' eb => ⟨rfl, I.turned (t' := s.toks) (fun b o hb e => eb b o hb e) f0 f1 f3 f4 f5⟩
  self := fun _ _ _ _ _ st h => wpAny_pyIter_tupleiter st h
theorem turn_range {P : Program} {w : World} {K : PySem.W.Frag} {tg : Expr} (it : Addr) (lo : Int) (n : Nat) : Turn P w K tg (Itr lo n) [it] it (fun i h => IsRangeIter h it (lo + (i : Nat) * 1) ((n : Int) - (i : Nat)) 1) where
  mem := by simp
  obj := fun i h st b hb => by
    have e : b = it := by simpa using hb
    subst e
    exact ⟨_, st, fun v z => by
      have z' : Data.fields _ = Data.cell v := z
      cases z'⟩
  keep := fun i h h' st k => k it (by simp) _ st
  item := by
    intro X hP hw hK hc i pins s σ H E I hf st hg
    subst hP hw hK
    obtain ⟨f0, f1, f2, f3, f4, f5⟩ := hf it (by simp)
    have W := Walks.range (prog := X.prog) (w := X.w) (I.ok.hd hc) it lo 1 n
    refine W.item i s _ _ hg st fun v h' tk hv st' kk => ?_
    obtain ⟨t, rfl⟩ := hv
    have I1 : Inv X pins σ H { s with heap := h', toks := tk } := I.turned (fun b o hb e => kk b o (by simpa using hb) e) f0 f1 f3 f4 f5
    refine ⟨_, rfl, go_of (s := { s with heap := h', toks := tk }) (n := "range_iterator") st' rfl rfl (by decide) ⟨.int (lo + i), H, I1, ⟨t, ?_⟩, ⟨rfl, rfl⟩, st', fun b hb => (hf b hb).1⟩⟩
    rw [Int.mul_one]
  done := by
    intro X hP hw hK hc i pins s σ H E I hf st hg
    subst hP hw hK
    obtain ⟨f0, f1, f2, f3, f4, f5⟩ := hf it (by simp)
    exact wpAny_pyNext_range_end (I.ok.hd hc) st (by have : n ≤ i := hg; omega) fun h' eb => ⟨rfl, I.turned (t' := s.toks) (fun b o hb e => eb b o hb e) f0 f1 f3 f4 f5⟩
  self := fun _ _ _ _ _ st h => wpAny_pyIter_rangeiter st h
end L2

namespace L2
open PySem PySem.Spec PyProof.Rows
section
variable {X : Cx} {tg : Expr}
def iList (K : PySem.W.Frag) (tl : TE) : TI := fun σ H R => tl σ H fun x H1 => ∃ a, x = .ref a ∧ (∃ xs, SqL K H1 a xs) ∧ R (Itl K a) H1
def iTup (K : PySem.W.Frag) (tl : TE) : TI := fun σ H R => tl σ H fun x H1 => ∃ a, x = .ref a ∧ (∃ xs, SqT K H1 a xs) ∧ R (Itt K a) H1
theorem pi_list {l : Expr} {tl : TE} (hl : PE X l tl) : PI X tg l (iList X.K tl) := by
  intro pins s σ H R I h
  refine thn (hl pins s σ H _ I h) fun v s1 ⟨x, H1, I1, r1, q1⟩ => ?_
  obtain ⟨a, e, ⟨xs, hq⟩, q⟩ := q1
  subst e
  cases r1
  obtain ⟨its, rv, p, hz⟩ := I1.list hq
  refine wpAny_pyIter_list p.isList ?_
  refine ⟨s1.heap.objs.size, [s1.heap.objs.size], _, _, H1, rfl, I1.kept (t' := s1.toks) fun b o e => Heap.get?_push_of_some _ e, turn_list a _, ⟨_, Heap.get?_push_size _ rfl, rfl, rfl⟩, fun b hb => ?_, q⟩
  have e : b = s1.heap.objs.size := by simpa using hb
  subst e
  exact I1.fpOk (Nat.le_refl _) (I1.hok.fresh (Nat.le_refl _))
theorem pi_tup {l : Expr} {tl : TE} (hl : PE X l tl) : PI X tg l (iTup X.K tl) := by
  intro pins s σ H R I h
  refine thn (hl pins s σ H _ I h) fun v s1 ⟨x, H1, I1, r1, q1⟩ => ?_
  obtain ⟨a, e, ⟨xs, hq⟩, q⟩ := q1
  subst e
  cases r1
  obtain ⟨its, rv, p, hz⟩ := I1.tuple hq
  refine wpAny_pyIter_tuple (show s1.heap.IsTuple a its.toArray from p) ?_
  refine ⟨s1.heap.objs.size, [s1.heap.objs.size], _, _, H1, rfl, I1.kept (t' := s1.toks) fun b o e => Heap.get?_push_of_some _ e, turn_tuple a _, ⟨_, Heap.get?_push_size _ rfl, rfl, rfl⟩, fun b hb => ?_, q⟩
  have e : b = s1.heap.objs.size := by simpa using hb
  subst e
  exact I1.fpOk (Nat.le_refl _) (I1.hok.fresh (Nat.le_refl _))
/-- a range object just made, walked -/
theorem range_it {pins : List (Addr × Obj)} {σ : St} {H : Hp} {s : Shared} {R : It → Hp → Prop} {E : Value → Shared → Prop} {lo hi : Int} {t u v : Tok} {tk : Nat} (I : Inv X pins σ H s) (h1 : -(2 ^ 62) ≤ lo) (h2 : lo < 2 ^ 62) (h3 : -(2 ^ 62) ≤ hi) (h4 : hi < 2 ^ 62)
    (q : R (Itr lo (hi - lo).toNat) H) : wpAny (model X.prog X.w) X.A (pyIter (.ref s.heap.objs.size)) (PIE X pins σ tg R) E { s with heap := s.heap.push { cls := .type "range", data := .fields #[.int lo t, .int hi u, .int 1 v] }, toks := tk } := by
  refine wpAny_pyIter_range (IsRange.new ..) (small_one h1 h2 h3 h4) ?_
  have I1 : Inv X pins σ H { s with heap := s.heap.push { cls := .type "range", data := .fields #[.int lo t, .int hi u, .int 1 v] }, toks := tk } := I.kept fun b o e => Heap.get?_push_of_some _ e
  refine ⟨(s.heap.push { cls := .type "range", data := .fields #[.int lo t, .int hi u, .int 1 v] }).objs.size, [(s.heap.push { cls := .type "range", data := .fields #[.int lo t, .int hi u, .int 1 v] }).objs.size], _, _, H, rfl,
    I1.kept (t' := tk) fun b o e => Heap.get?_push_of_some _ e, turn_range _ lo (hi - lo).toNat, ?_, fun b hb => ?_, q⟩
  · have e1 : lo + ((0 : Nat) : Int) * 1 = lo := by simp
    have e2 : (((hi - lo).toNat : Nat) : Int) - ((0 : Nat) : Int) = Builtin.Range.rangeSize lo hi 1 := by rw [rangeSize_one]; split <;> omega
    show IsRangeIter _ _ (lo + ((0 : Nat) : Int) * 1) ((((hi - lo).toNat : Nat) : Int) - ((0 : Nat) : Int)) 1
    rw [e1, e2]
    exact Heap.get?_push_size _ rfl
  · have e : b = (s.heap.push { cls := .type "range", data := .fields #[.int lo t, .int hi u, .int 1 v] }).objs.size := by simpa using hb
    subst e
    exact I1.fpOk (Nat.le_refl _) (I1.hok.fresh (Nat.le_refl _))
def iRng1 (ta : TA) : TI := fun σ H R => ta σ H fun vs H1 => ∃ j : Int, vs = [.int j] ∧ -(2 ^ 62) ≤ j ∧ j < 2 ^ 62 ∧ R (Itr 0 j.toNat) H1
def iRng2 (ta : TA) : TI := fun σ H R => ta σ H fun vs H1 => ∃ i j : Int, vs = [.int i, .int j] ∧ (-(2 ^ 62) ≤ i ∧ i < 2 ^ 62 ∧ -(2 ^ 62) ≤ j ∧ j < 2 ^ 62) ∧ R (Itr i (j - i).toNat) H1
theorem pi_range1 {a : Expr} {ta : TA} {p pos : Pos} (hg : Gl X "range") (hm : X.mg "range" = none) (ha : PA X [a] ta) (hs : starEach [a] X.env = [(false, eval a X.env)] := by rfl) : PI X tg (.Call (.Name "range" p) [a] [] pos) (iRng1 ta) := by
  intro pins s σ H R I h
  refine Call_ (ld_blt I hg hm boot_range (PyProof.Rows.callWith_type1 (thn (ha pos pins s σ H _ I h) fun us s1 ⟨vs, H1, I1, r1, q1⟩ => ?_) hs rfl))
  obtain ⟨j, e, q1, q2, q⟩ := q1
  subst e
  cases r1 with
  | cons r rr =>
    cases rr
    obtain ⟨t, rfl⟩ := r
    exact call_range_1 (range_it I1 (by omega) (by omega) q1 q2 (by simpa using q))
theorem pi_range2 {a b : Expr} {ta : TA} {p pos : Pos} (hg : Gl X "range") (hm : X.mg "range" = none) (ha : PA X [a, b] ta) (hs : starEach [a, b] X.env = [(false, eval a X.env), (false, eval b X.env)] := by rfl) (hs2 : starEach [b] X.env = [(false, eval b X.env)] := by rfl) :
    PI X tg (.Call (.Name "range" p) [a, b] [] pos) (iRng2 ta) := by
  intro pins s σ H R I h
  refine Call_ (ld_blt I hg hm boot_range (PyProof.Rows.callWith_type1 (thn (ha pos pins s σ H _ I h) fun us s1 ⟨vs, H1, I1, r1, q1⟩ => ?_) (by rw [hs, hs2]) (by rw [hs2]; rfl)))
  obtain ⟨i, j, e, ⟨q1, q2, q3, q4⟩, q⟩ := q1
  subst e
  cases r1 with
  | cons r rr =>
    cases rr with
    | cons r' rr =>
      cases rr
      obtain ⟨t, rfl⟩ := r
      obtain ⟨t', rfl⟩ := r'
      exact call_range_2 (range_it I1 q1 q2 q3 q4 q)

/-! ### for -/
/-- W: the invariant by the turn and a measure; N: what the body is to reach -/
def tFor (wi : TI) (g : TG) (tb : TS) : TS := fun D σ H => wi σ H fun J H1 => ∃ W : Nat → Nat → St → Hp → Prop, (∃ m, W 0 m σ H1) ∧ ∀ i m σ H, W i m σ H →
  (J.stop i H ∧ D.nx σ H) ∨ (J.go i H ∧ ∃ N : St → Hp → Prop, (∀ σ' H', N σ' H' → ∃ m', m' < m ∧ W (i + 1) m' σ' H') ∧ ∀ x H', J.yld i H x H' → g x σ H' fun σ2 H2 => tb { D with nx := N, ct := N, bk := D.nx } σ2 H2)
/-- the records at fp as they stand -/
def pinsAt (fp : List Addr) (h : Heap) : List (Addr × Obj) := fp.filterMap fun b => (h.get? b).map fun o => (b, o)
theorem mem_pinsAt {fp : List Addr} {h : Heap} {b : Addr} {o : Obj} (hb : b ∈ fp) (e : h.get? b = some o) : (b, o) ∈ pinsAt fp h := List.mem_filterMap.mpr ⟨b, hb, by rw [e]; rfl⟩
theorem of_pinsAt {fp : List Addr} {h : Heap} {p : Addr × Obj} (hp : p ∈ pinsAt fp h) : p.1 ∈ fp ∧ h.get? p.1 = some p.2 := by
  obtain ⟨b, hb, e⟩ := List.mem_filterMap.mp hp
  cases q : h.get? b with
  | none => rw [q] at e; cases e
  | some o =>
    rw [q] at e
    have e' : (b, o) = p := Option.some.inj e
    subst e'
    exact ⟨hb, q⟩
theorem Inv.pinned {pins : List (Addr × Obj)} {σ : St} {H : Hp} {s : Shared} {fp : List Addr} (I : Inv X pins σ H s) (hf : ∀ b ∈ fp, FpOk X pins H b) (ho : ∀ b ∈ fp, ∃ o, s.heap.get? b = some o ∧ ∀ v, o.data ≠ .cell v) : Inv X (pins ++ pinsAt fp s.heap) σ H s :=
  I.pins_of fun p hp => (List.mem_append.mp hp).elim (fun z => I.pin p (List.mem_append_right _ z)) fun z => by
    obtain ⟨hb, e⟩ := of_pinsAt z
    obtain ⟨f0, f1, f2, _⟩ := hf p.1 hb
    obtain ⟨o, e', d⟩ := ho p.1 hb
    rw [e] at e'; cases e'
    exact ⟨e, f0, f1, f2, d⟩
theorem Inv.unpinned {pins pl : List (Addr × Obj)} {σ : St} {H : Hp} {s : Shared} (I : Inv X (pins ++ pl) σ H s) : Inv X pins σ H s := I.pins_of fun p hp => I.pin p (List.mem_append_right _ (List.mem_append_left _ hp))
theorem ps_for {iter : Expr} {body : List Stmt} {wi : TI} {g : TG} {tb : TS} {pos : Pos} (hp : PassesOwn (model X.prog X.w) X.A X.env X.xe) (hc : X.calm = true) (hi : PI X tg iter wi) (hg : PG X tg g) (hb : PSs X body tb)
    (hs : ∀ x, foldedSetIterable iter X.env x = pure x := by intro _; rfl) : PS X (.For tg iter body [] pos) (tFor wi g tb) := by
  intro pins s σ H D I h
  refine wpAny_For (thn (hi pins s σ H _ I h) fun v s1 h1 => thn h1 fun itv s2 h2 => ?_) hs
  obtain ⟨it, fp, tn, J, H2, e, I2, T, st2, f2, W, ⟨m0, w0⟩, turn⟩ := h2
  subst e
  -- what stays true of the iterator's objects through the loop
  have stat : ∀ {H' : Hp}, (∀ b ∈ fp, H' b = none) → ∀ b ∈ fp, FpOk X pins H' b := fun hn b hb => ⟨hn b hb, (f2 b hb).2⟩
  refine codeAny_forLoop_any (fun n s' => ∃ i σ' H', Inv X pins σ' H' s' ∧ tn i s'.heap ∧ (∀ b ∈ fp, H' b = none) ∧ W i n σ' H') ?_ m0 ⟨0, σ, H2, I2, st2, fun b hb => (f2 b hb).1, w0⟩
  rintro n s3 ⟨i, σ3, H3, I3, st3, fr3, w3⟩
  rcases turn i n σ3 H3 w3 with ⟨stop, qn⟩ | ⟨go, N, hN, step⟩
  · refine wpAny_passesOwn hp (thn (T.done X rfl rfl rfl hc i pins s3 σ3 H3 X.xe I3 (stat fr3) st3 stop) fun r s4 ⟨hr, I4⟩ => ?_)
    subst hr
    exact wpAny_execs_nil ⟨σ3, H3, I4, qn⟩
  · refine wpAny_passesOwn hp (thn (T.item X rfl rfl rfl hc i pins s3 σ3 H3 X.xe I3 (stat fr3) st3 go) fun r s4 ⟨u, hr, h4⟩ => ?_)
    subst hr
    refine wpAny_passesOwn hp (thn h4 fun _ s5 ⟨x, H5, I5, r5, y5, st5, fr5⟩ => ?_)
    have I5' := I5.pinned (stat fr5) (T.obj _ _ st5)
    refine wpAny_passesOwn hp (thn (hg _ s5 σ3 H5 x u _ I5' r5 (step x H5 y5)) fun _ s6 ⟨σ6, H6, I6, q6⟩ => ?_)
    refine wpAny_passesOwn hp (thn (hb _ s6 σ6 H6 _ I6 q6) fun f s7 q7 => ?_)
    have again : ∀ {σ7 : St} {H7 : Hp}, Inv X (pins ++ pinsAt fp s5.heap) σ7 H7 s7 → N σ7 H7 → ∃ m, m < n ∧ ∃ i σ' H', Inv X pins σ' H' s7 ∧ tn i s7.heap ∧ (∀ b ∈ fp, H' b = none) ∧ W i m σ' H' := fun {σ7 H7} I7 n7 => by
      obtain ⟨m', hm, w7⟩ := hN σ7 H7 n7
      refine ⟨m', hm, i + 1, σ7, H7, I7.unpinned, T.keep _ _ _ st5 fun b hb o e => (I7.pin (b, o) (List.mem_append_right _ (List.mem_append_right _ (mem_pinsAt hb e)))).1, fun b hb => ?_, w7⟩
      obtain ⟨o, e, d⟩ := T.obj _ _ st5 b hb
      exact (I7.pin (b, o) (List.mem_append_right _ (List.mem_append_right _ (mem_pinsAt hb e)))).2.1
    cases f with
    | next => obtain ⟨σ7, H7, I7, n7⟩ := q7; exact again I7 n7
    | cont => obtain ⟨σ7, H7, I7, n7⟩ := q7; exact again I7 n7
    | brk => obtain ⟨σ7, H7, I7, q7⟩ := q7; exact ⟨σ7, H7, I7.unpinned, q7⟩
    | ret v => obtain ⟨x7, σ7, H7, I7, r7, q7⟩ := q7; exact ⟨x7, σ7, H7, I7.unpinned, r7, q7⟩
end

/-! ### the forms one uses -/
/-- over a list that the body leaves as it is -/
theorem for_list {K : PySem.W.Frag} {a : Addr} {xs : List V} {g : TG} {tb : TS} {D : Ends} {σ : St} {H : Hp} (Pv : Nat → St → Hp → Prop) (h0 : Pv 0 σ H) (hl : ∀ i σ H, i ≤ xs.length → Pv i σ H → SqL K H a xs)
    (hs : ∀ i x σ H, xs[i]? = some x → Pv i σ H → g x σ H fun σ2 H2 => tb { D with nx := Pv (i + 1), ct := Pv (i + 1), bk := D.nx } σ2 H2) (hd : ∀ σ H, Pv xs.length σ H → D.nx σ H) :
    ∃ W : Nat → Nat → St → Hp → Prop, (∃ m, W 0 m σ H) ∧ ∀ i m σ H, W i m σ H →
      ((Itl K a).stop i H ∧ D.nx σ H) ∨ ((Itl K a).go i H ∧ ∃ N : St → Hp → Prop, (∀ σ' H', N σ' H' → ∃ m', m' < m ∧ W (i + 1) m' σ' H') ∧ ∀ x H', (Itl K a).yld i H x H' → g x σ H' fun σ2 H2 => tb { D with nx := N, ct := N, bk := D.nx } σ2 H2) := by
  refine ⟨fun i m σ H => m = xs.length - i ∧ i ≤ xs.length ∧ Pv i σ H, ⟨xs.length, by simp, Nat.zero_le _, h0⟩, ?_⟩
  rintro i m σ H ⟨rfl, hi, p⟩
  have q := hl i σ H hi p
  by_cases hlt : i < xs.length
  · refine .inr ⟨⟨xs, xs[i], q, by simp [hlt]⟩, Pv (i + 1), fun σ' H' p' => ⟨xs.length - (i + 1), by omega, rfl, hlt, p'⟩, fun x H' y => ?_⟩
    obtain ⟨e, y⟩ := y
    subst e
    exact hs i x σ _ (y xs q) p
  · have e : i = xs.length := by omega
    subst e
    exact .inl ⟨⟨xs, q, Nat.le_refl _⟩, hd σ H p⟩
theorem for_tup {K : PySem.W.Frag} {a : Addr} {xs : List V} {g : TG} {tb : TS} {D : Ends} {σ : St} {H : Hp} (Pv : Nat → St → Hp → Prop) (h0 : Pv 0 σ H) (hl : ∀ i σ H, i ≤ xs.length → Pv i σ H → SqT K H a xs)
    (hs : ∀ i x σ H, xs[i]? = some x → Pv i σ H → g x σ H fun σ2 H2 => tb { D with nx := Pv (i + 1), ct := Pv (i + 1), bk := D.nx } σ2 H2) (hd : ∀ σ H, Pv xs.length σ H → D.nx σ H) :
    ∃ W : Nat → Nat → St → Hp → Prop, (∃ m, W 0 m σ H) ∧ ∀ i m σ H, W i m σ H →
      ((Itt K a).stop i H ∧ D.nx σ H) ∨ ((Itt K a).go i H ∧ ∃ N : St → Hp → Prop, (∀ σ' H', N σ' H' → ∃ m', m' < m ∧ W (i + 1) m' σ' H') ∧ ∀ x H', (Itt K a).yld i H x H' → g x σ H' fun σ2 H2 => tb { D with nx := N, ct := N, bk := D.nx } σ2 H2) := by
  refine ⟨fun i m σ H => m = xs.length - i ∧ i ≤ xs.length ∧ Pv i σ H, ⟨xs.length, by simp, Nat.zero_le _, h0⟩, ?_⟩
  rintro i m σ H ⟨rfl, hi, p⟩
  have q := hl i σ H hi p
  by_cases hlt : i < xs.length
  · refine .inr ⟨⟨xs, xs[i], q, by simp [hlt]⟩, Pv (i + 1), fun σ' H' p' => ⟨xs.length - (i + 1), by omega, rfl, hlt, p'⟩, fun x H' y => ?_⟩
    obtain ⟨e, y⟩ := y
    subst e
    exact hs i x σ _ (y xs q) p
  · have e : i = xs.length := by omega
    subst e
    exact .inl ⟨⟨xs, q, Nat.le_refl _⟩, hd σ H p⟩
theorem for_range {lo : Int} {n : Nat} {g : TG} {tb : TS} {D : Ends} {σ : St} {H : Hp} (Pv : Nat → St → Hp → Prop) (h0 : Pv 0 σ H)
    (hs : ∀ i σ H, i < n → Pv i σ H → g (.int (lo + i)) σ H fun σ2 H2 => tb { D with nx := Pv (i + 1), ct := Pv (i + 1), bk := D.nx } σ2 H2) (hd : ∀ σ H, Pv n σ H → D.nx σ H) :
    ∃ W : Nat → Nat → St → Hp → Prop, (∃ m, W 0 m σ H) ∧ ∀ i m σ H, W i m σ H →
      ((Itr lo n).stop i H ∧ D.nx σ H) ∨ ((Itr lo n).go i H ∧ ∃ N : St → Hp → Prop, (∀ σ' H', N σ' H' → ∃ m', m' < m ∧ W (i + 1) m' σ' H') ∧ ∀ x H', (Itr lo n).yld i H x H' → g x σ H' fun σ2 H2 => tb { D with nx := N, ct := N, bk := D.nx } σ2 H2) := by
  refine ⟨fun i m σ H => m = n - i ∧ i ≤ n ∧ Pv i σ H, ⟨n, by simp, Nat.zero_le _, h0⟩, ?_⟩
  rintro i m σ H ⟨rfl, hi, p⟩
  by_cases hlt : i < n
  · refine .inr ⟨hlt, Pv (i + 1), fun σ' H' p' => ⟨n - (i + 1), by omega, rfl, hlt, p'⟩, fun x H' y => ?_⟩
    obtain ⟨e, y⟩ := y
    subst e y
    exact hs i σ _ hlt p
  · have e : i = n := by omega
    subst e
    exact .inl ⟨Nat.le_refl _, hd σ H p⟩
/-- while, by a word and a measure of the state -/
theorem while_by {c : TT} {tb : TS} {D : Ends} {σ : St} {H : Hp} (Pv : St → Hp → Prop) (μ : St → Hp → Nat) (h0 : Pv σ H)
    (hs : ∀ σ H, Pv σ H → c σ H fun b H1 => if b = true then tb { D with nx := fun σ' H' => Pv σ' H' ∧ μ σ' H' < μ σ H, ct := fun σ' H' => Pv σ' H' ∧ μ σ' H' < μ σ H, bk := D.nx } σ H1 else D.nx σ H1)
    (mono : ∀ σ H Q Q', (∀ b H1, Q b H1 → Q' b H1) → c σ H Q → c σ H Q') : tWhile c tb D σ H := by
  refine ⟨fun m σ H => m = μ σ H ∧ Pv σ H, ⟨_, rfl, h0⟩, ?_⟩
  rintro m σ H ⟨rfl, p⟩
  refine mono σ H _ _ (fun b H1 q => ?_) (hs σ H p)
  cases b with
  | true => exact ⟨_, fun σ' H' ⟨p', l⟩ => ⟨_, l, rfl, p'⟩, q⟩
  | false => exact q
end L2

namespace L2
open PySem PySem.Spec PyProof.Rows

abbrev R2 := V → V → Hp → VK → Prop
/-- a two-place operation on values: f is binaryOp op, inplaceOp op or compareOp op -/
def OpR (X : Cx) (f : Value → Value → Sem Value) (r : R2) : Prop :=
  ∀ (pins : List (Addr × Obj)) (s : Shared) (σ : St) (H : Hp) (x y : V) (v u : Value) (Q : VK), Inv X pins σ H s → RelV x v → RelV y u → r x y H Q →
    wpAny (model X.prog X.w) X.A (f v u) (EP X pins σ Q) X.xe s
/-- a one-place operation -/
def UnR (X : Cx) (f : Value → Sem Value) (r : V → Hp → VK → Prop) : Prop :=
  ∀ (pins : List (Addr × Obj)) (s : Shared) (σ : St) (H : Hp) (x : V) (v : Value) (Q : VK), Inv X pins σ H s → RelV x v → r x H Q →
    wpAny (model X.prog X.w) X.A (f v) (EP X pins σ Q) X.xe s
/-- a call of a value that is known (a builtin, a type) with values -/
def CallR (X : Cx) (f : Value) (r : List V → Hp → VK → Prop) : Prop :=
  ∀ (pins : List (Addr × Obj)) (s : Shared) (σ : St) (H : Hp) (xs : List V) (us : List Value) (Q : VK), Inv X pins σ H s → Vals xs us → r xs H Q →
    wpAny (model X.prog X.w) X.A (call f us) (EP X pins σ Q) X.xe s
/-- a value's truth -/
def TruR (X : Cx) (r : V → Hp → (Bool → Hp → Prop) → Prop) : Prop :=
  ∀ (pins : List (Addr × Obj)) (s : Shared) (σ : St) (H : Hp) (x : V) (v : Value) (Q : Bool → Hp → Prop), Inv X pins σ H s → RelV x v → r x H Q →
    wpAny (model X.prog X.w) X.A (truthy v) (TP X pins σ Q) X.xe s

def tOp (r : R2) (ta tb : TE) : TE := fun σ H Q => ta σ H fun x H1 => tb σ H1 fun y H2 => r x y H2 Q
def tUn (r : V → Hp → VK → Prop) (ta : TE) : TE := fun σ H Q => ta σ H fun x H1 => r x H1 Q
/-- ints in, under C, and a value out -/
def rI (C : Int → Int → Prop) (g : Int → Int → V) : R2 := fun x y H Q => ∃ i j, x = .int i ∧ y = .int j ∧ C i j ∧ Q (g i j) H
def rI0 (g : Int → Int → V) : R2 := fun x y H Q => ∃ i j, x = .int i ∧ y = .int j ∧ Q (g i j) H
def rU (g : Int → V) : V → Hp → VK → Prop := fun x H Q => ∃ i, x = .int i ∧ Q (g i) H

section
variable {X : Cx} {a b c : Expr} {ta tb tc : TE} {pos : Pos}

theorem binT (ha : PE X a ta) (hb : PE X b tb) {pins : List (Addr × Obj)} {s : Shared} {σ : St} {H : Hp} {R : V → V → Hp → Prop} (I : Inv X pins σ H s)
    (h : ta σ H fun x H1 => tb σ H1 fun y H2 => R x y H2) {Q : Value → Shared → Prop} {f : Value → Value → Sem Value}
    (hf : ∀ v u s2 x y H2, Inv X pins σ H2 s2 → RelV x v → RelV y u → R x y H2 → wpAny (model X.prog X.w) X.A (f v u) Q X.xe s2) :
    wpAny (model X.prog X.w) X.A (eval a X.env) (fun v s₁ => wpAny (model X.prog X.w) X.A (eval b X.env) (fun u s₂ => wpAny (model X.prog X.w) X.A (f v u) Q X.xe s₂) X.xe s₁) X.xe s := by
  refine thn (ha pins s σ H _ I h) fun v s1 ⟨x, H1, I1, r1, q1⟩ => ?_
  refine thn (hb pins s1 σ H1 _ I1 q1) fun u s2 ⟨y, H2, I2, r2, q2⟩ => ?_
  exact hf v u s2 x y H2 I2 r1 r2 q2

theorem pe_op {op : Operator} {r : R2} (ho : OpR X (binaryOp op) r) (ha : PE X a ta) (hb : PE X b tb) : PE X (.BinOp a op b pos) (tOp r ta tb) := by
  intro pins s σ H Q I h
  exact wpAny_BinOp (binT ha hb I h fun v u s2 x y H2 I2 rx ry q => ho pins s2 σ H2 x y v u Q I2 rx ry q)
theorem pe_un {op : UnaryOp} {r : V → Hp → VK → Prop} (ho : UnR X (unaryOp op) r) (ha : PE X a ta) : PE X (.UnaryOp op a pos) (tUn r ta) := by
  intro pins s σ H Q I h
  exact UnaryOp_ (thn (ha pins s σ H _ I h) fun v s1 ⟨x, H1, I1, r1, q1⟩ => ho pins s1 σ H1 x v Q I1 r1 q1)
/-- a op= e at a name: the name's slot i -/
theorem augR {op : Operator} {r : R2} (ho : OpR X (inplaceOp op) r) {pins : List (Addr × Obj)} {s : Shared} {σ : St} {H : Hp} {x y : V} {v u : Value} {Q : VK} (I : Inv X pins σ H s)
    (rx : RelV x v) (ry : RelV y u) (q : r x y H Q) : wpAny (model X.prog X.w) X.A (inplaceOp op v u) (EP X pins σ Q) X.xe s := ho pins s σ H x y v u Q I rx ry q

/-! ### ints -/
theorem opI {f : Value → Value → Sem Value} {C : Int → Int → Prop} {g : Int → Int → Int}
    (rule : ∀ (i j : Int) (t u : Tok) (s : Shared) (Q : Value → Shared → Prop) (E : Value → Shared → Prop), C i j → Q (.int (g i j) s.toks) { s with toks := s.toks + 1 } → wpAny (model X.prog X.w) X.A (f (.int i t) (.int j u)) Q E s) :
    OpR X f (rI C fun i j => .int (g i j)) := by
  intro pins s σ H x y v u Q I rx ry h
  obtain ⟨i, j, rfl, rfl, hc, q⟩ := h
  obtain ⟨t, rfl⟩ := rx
  obtain ⟨t', rfl⟩ := ry
  exact rule i j t t' s _ _ hc ⟨.int (g i j), H, I.tok _, ⟨_, rfl⟩, q⟩
theorem opI0 {f : Value → Value → Sem Value} {g : Int → Int → Int}
    (rule : ∀ (i j : Int) (t u : Tok) (s : Shared) (Q : Value → Shared → Prop) (E : Value → Shared → Prop), Q (.int (g i j) s.toks) { s with toks := s.toks + 1 } → wpAny (model X.prog X.w) X.A (f (.int i t) (.int j u)) Q E s) :
    OpR X f (rI0 fun i j => .int (g i j)) := by
  intro pins s σ H x y v u Q I rx ry h
  obtain ⟨i, j, rfl, rfl, q⟩ := h
  obtain ⟨t, rfl⟩ := rx
  obtain ⟨t', rfl⟩ := ry
  exact rule i j t t' s _ _ ⟨.int (g i j), H, I.tok _, ⟨_, rfl⟩, q⟩
theorem opB0 {f : Value → Value → Sem Value} {g : Int → Int → Bool}
    (rule : ∀ (i j : Int) (t u : Tok) (s : Shared) (Q : Value → Shared → Prop) (E : Value → Shared → Prop), Q (.bool (g i j)) s → wpAny (model X.prog X.w) X.A (f (.int i t) (.int j u)) Q E s) :
    OpR X f (rI0 fun i j => .bl (g i j)) := by
  intro pins s σ H x y v u Q I rx ry h
  obtain ⟨i, j, rfl, rfl, q⟩ := h
  obtain ⟨t, rfl⟩ := rx
  obtain ⟨t', rfl⟩ := ry
  exact rule i j t t' s _ _ ⟨.bl (g i j), H, I, rfl, q⟩

def CDiv (i j : Int) : Prop := 0 < j ∧ j < 1073741824
def CDivN (i j : Int) : Prop := j ≠ 0 ∧ j.natAbs < 1073741824
def CPow (i j : Int) : Prop := 0 ≤ j ∧ j ≤ 1000000 ∧ i.natAbs < 2 ^ 64
def CMul (i j : Int) : Prop := (-(2 ^ 64) < i ∧ i < 2 ^ 64) ∨ (-(2 ^ 64) < j ∧ j < 2 ^ 64)
theorem CMul.ok {i j : Int} (h : CMul i j) : IntMulOk i j := by
  rcases h with ⟨h1, h2⟩ | ⟨h1, h2⟩
  · exact .of_left (intBits_le_64 h1 h2)
  · exact .of_right (intBits_le_64 h1 h2)
theorem two_pow_nn (k : Nat) : (0 : Int) ≤ 2 ^ k := by
  rw [two_pow_cast]
  exact Int.natCast_nonneg _

theorem op_add : OpR X (binaryOp .Add) (rI0 fun i j => .int (i + j)) := opI0 fun _ _ _ _ _ _ _ q => add_int q
theorem op_sub : OpR X (binaryOp .Sub) (rI0 fun i j => .int (i - j)) := opI0 fun _ _ _ _ _ _ _ q => sub_int q
theorem op_mul : OpR X (binaryOp .Mult) (rI CMul fun i j => .int (i * j)) := opI fun _ _ _ _ _ _ _ hc q => mul_int q hc.ok
/-- // by a positive divisor -/
theorem op_fdiv : OpR X (binaryOp .FloorDiv) (rI CDiv fun i j => .int (i / j)) := opI fun i j _ _ _ _ _ hc q => by
  have h1 : (0 : Int) < j := hc.1
  have h2 : j < 1073741824 := hc.2
  exact floordiv_int (by omega) (by rw [Int.fdiv_eq_ediv_of_nonneg i (by omega)]; exact q) (.inl (PyProof.noPylong_small (by omega)))
theorem op_fdivN : OpR X (binaryOp .FloorDiv) (rI CDivN fun i j => .int (i.fdiv j)) := opI fun _ _ _ _ _ _ _ hc q => floordiv_int hc.1 q (.inl (PyProof.noPylong_small hc.2))
/-- % by a positive divisor of any size -/
theorem op_mod : OpR X (binaryOp .Mod) (rI (fun _ j => 0 < j) fun i j => .int (i % j)) := opI fun i j _ _ _ _ _ hc q => by
  have h1 : (0 : Int) < j := hc
  exact mod_int' (by omega) (by rw [Int.fmod_eq_emod_of_nonneg i (by omega)]; exact q)
theorem op_modN : OpR X (binaryOp .Mod) (rI (fun _ j => j ≠ 0) fun i j => .int (i.fmod j)) := opI fun _ _ _ _ _ _ _ hc q => mod_int' hc q
theorem op_pow : OpR X (binaryOp .Pow) (rI CPow fun i j => .int (i ^ j.toNat)) := opI fun _ _ _ _ _ _ _ hc q => pow_int_small hc.1 hc.2.1 hc.2.2 q
theorem op_shl : OpR X (binaryOp .LShift) (rI CPow fun i j => .int (i * 2 ^ j.toNat)) := opI fun _ _ _ _ _ _ _ hc q => lshift_int_small hc.1 hc.2.1 hc.2.2 q
theorem op_shr : OpR X (binaryOp .RShift) (rI (fun _ j => 0 ≤ j) fun i j => .int (i / 2 ^ j.toNat)) := opI fun i j _ _ _ _ _ hc q =>
  rshift_int hc (by rw [Int.fdiv_eq_ediv_of_nonneg i (two_pow_nn _)]; exact q)
theorem op_and : OpR X (binaryOp .BitAnd) (rI0 fun i j => .int (Builtin.bitAnd i j)) := opI0 fun _ _ _ _ _ _ _ q => and_int q
theorem op_or : OpR X (binaryOp .BitOr) (rI0 fun i j => .int (Builtin.bitOr i j)) := opI0 fun _ _ _ _ _ _ _ q => or_int q
theorem op_xor : OpR X (binaryOp .BitXor) (rI0 fun i j => .int (Builtin.bitXor i j)) := opI0 fun _ _ _ _ _ _ _ q => xor_int q

theorem iop_add : OpR X (inplaceOp .Add) (rI0 fun i j => .int (i + j)) := opI0 fun _ _ _ _ _ _ _ q => iadd_int q
theorem iop_sub : OpR X (inplaceOp .Sub) (rI0 fun i j => .int (i - j)) := opI0 fun _ _ _ _ _ _ _ q => isub_int q
theorem iop_mul : OpR X (inplaceOp .Mult) (rI CMul fun i j => .int (i * j)) := opI fun _ _ _ _ _ _ _ hc q => imul_int q hc.ok
theorem iop_fdiv : OpR X (inplaceOp .FloorDiv) (rI CDiv fun i j => .int (i / j)) := opI fun i j _ _ _ _ _ hc q => by
  have h1 : (0 : Int) < j := hc.1
  have h2 : j < 1073741824 := hc.2
  exact ifloordiv_int (by omega) (by rw [Int.fdiv_eq_ediv_of_nonneg i (by omega)]; exact q) (.inl (PyProof.noPylong_small (by omega)))
theorem iop_mod : OpR X (inplaceOp .Mod) (rI (fun _ j => 0 < j) fun i j => .int (i % j)) := opI fun i j _ _ _ _ _ hc q => by
  have h1 : (0 : Int) < j := hc
  exact imod_int (by omega) (by rw [Int.fmod_eq_emod_of_nonneg i (by omega)]; exact q)
theorem iop_shl : OpR X (inplaceOp .LShift) (rI CPow fun i j => .int (i * 2 ^ j.toNat)) := opI fun _ _ _ _ _ _ _ hc q => ilshift_int_small hc.1 hc.2.1 hc.2.2 q
theorem iop_shr : OpR X (inplaceOp .RShift) (rI (fun _ j => 0 ≤ j) fun i j => .int (i / 2 ^ j.toNat)) := opI fun i j _ _ _ _ _ hc q =>
  irshift_int hc (by rw [Int.fdiv_eq_ediv_of_nonneg i (two_pow_nn _)]; exact q)
theorem iop_and : OpR X (inplaceOp .BitAnd) (rI0 fun i j => .int (Builtin.bitAnd i j)) := opI0 fun _ _ _ _ _ _ _ q => iand_int q
theorem iop_or : OpR X (inplaceOp .BitOr) (rI0 fun i j => .int (Builtin.bitOr i j)) := opI0 fun _ _ _ _ _ _ _ q => ior_int q
theorem iop_xor : OpR X (inplaceOp .BitXor) (rI0 fun i j => .int (Builtin.bitXor i j)) := opI0 fun _ _ _ _ _ _ _ q => ixor_int q

theorem unI {f : Value → Sem Value} {g : Int → Int}
    (rule : ∀ (i : Int) (t : Tok) (s : Shared) (Q : Value → Shared → Prop) (E : Value → Shared → Prop), Q (.int (g i) s.toks) { s with toks := s.toks + 1 } → wpAny (model X.prog X.w) X.A (f (.int i t)) Q E s) :
    UnR X f (rU fun i => .int (g i)) := by
  intro pins s σ H x v Q I rx h
  obtain ⟨i, rfl, q⟩ := h
  obtain ⟨t, rfl⟩ := rx
  exact rule i t s _ _ ⟨.int (g i), H, I.tok _, ⟨_, rfl⟩, q⟩
theorem un_neg : UnR X (unaryOp .USub) (rU fun i => .int (-i)) := unI fun _ _ _ _ _ q => neg_int q
theorem un_inv : UnR X (unaryOp .Invert) (rU fun i => .int (Builtin.bitNot i)) := unI fun _ _ _ _ _ q => invert_int q

/-! ### bools among ints: n += (a < b) -/
theorem op_add_ib : OpR X (binaryOp .Add) (fun x y H Q => ∃ i k, x = .int i ∧ y = .bl k ∧ Q (.int (i + b2i k)) H) := by
  intro pins s σ H x y v u Q I rx ry h
  obtain ⟨i, k, rfl, rfl, q⟩ := h
  obtain ⟨t, rfl⟩ := rx
  cases ry
  exact add_int_bool ⟨.int (i + b2i k), H, I.tok _, ⟨_, rfl⟩, q⟩
end

/-! ### comparisons -/
/-- the scalars that == tells apart as data does -/
def scal : V → V → Bool
  | .non, .non => true | .non, .int _ => true | .int _, .non => true | .non, .bl _ => true | .bl _, .non => true | .non, .str _ => true | .str _, .non => true
  | .int _, .int _ => true | .bl _, .bl _ => true | .str _, .str _ => true | .byt _, .byt _ => true
  | .int _, .str _ => true | .str _, .int _ => true | .bl _, .str _ => true | .str _, .bl _ => true
  | _, _ => false
def rEq : R2 := fun x y H Q => scal x y = true ∧ Q (.bl (decide (x = y))) H
def rNe : R2 := fun x y H Q => scal x y = true ∧ Q (.bl (!decide (x = y))) H

theorem dec_int {i j : Int} : decide (V.int i = V.int j) = (i == j) := by
  rw [Bool.eq_iff_iff]
  simp
theorem dec_bl {i j : Bool} : decide (V.bl i = V.bl j) = (i == j) := by
  rw [Bool.eq_iff_iff]
  simp
theorem dec_str {i j : Str} : decide (V.str i = V.str j) = (i == j) := by
  rw [Bool.eq_iff_iff]
  simp
theorem dec_byt {i j : Array UInt8} : decide (V.byt i = V.byt j) = (i.toList == j.toList) := by
  rw [Bool.eq_iff_iff]
  cases i
  cases j
  simp

section
variable {X : Cx} {a b c : Expr} {ta tb tc : TE} {pos : Pos}
theorem fin_bl {pins : List (Addr × Obj)} {σ : St} {H : Hp} {s : Shared} {Q : VK} {k k' : Bool} (I : Inv X pins σ H s) (q : Q (.bl k) H) (e : k = k') : EP X pins σ Q (.bool k') s := by
  subst e
  exact ⟨.bl k, H, I, rfl, q⟩
theorem op_eq : OpR X (compareOp .Eq) rEq := by
  intro pins s σ H x y v u Q I rx ry h
  obtain ⟨hs, q⟩ := h
  cases x with
  | non =>
    cases rx
    cases y with
    | non => cases ry; exact PySem.EqNone.eq_none_none (fin_bl I q (by simp))
    | bl j => cases ry; exact PySem.EqNone.eq_none_bool (fin_bl I q (by simp))
    | int j => obtain ⟨t', rfl⟩ := ry; exact PySem.EqNone.eq_none_int (fin_bl I q (by simp))
    | str j => obtain ⟨t', rfl⟩ := ry; exact PySem.EqNone.eq_none_str (fin_bl I q (by simp))
    | _ => exact absurd (show false = true from hs) Bool.false_ne_true
  | bl i =>
    cases rx
    cases y with
    | non => cases ry; exact PySem.EqNone.eq_bool_none (fin_bl I q (by simp))
    | bl j => cases ry; exact eq_bool (fin_bl I q dec_bl)
    | str j => obtain ⟨t', rfl⟩ := ry; exact PySem.EqMixed.eq_bool_str (fin_bl I q (by simp))
    | _ => exact absurd (show false = true from hs) Bool.false_ne_true
  | int i =>
    obtain ⟨t, rfl⟩ := rx
    cases y with
    | non => cases ry; exact PySem.EqNone.eq_int_none (fin_bl I q (by simp))
    | int j => obtain ⟨t', rfl⟩ := ry; exact eq_int (fin_bl I q dec_int)
    | str j => obtain ⟨t', rfl⟩ := ry; exact PySem.EqMixed.eq_int_str (fin_bl I q (by simp))
    | _ => exact absurd (show false = true from hs) Bool.false_ne_true
  | str i =>
    obtain ⟨t, rfl⟩ := rx
    cases y with
    | non => cases ry; exact PySem.EqNone.eq_str_none (fin_bl I q (by simp))
    | bl j => cases ry; exact PySem.EqMixed.eq_str_bool (fin_bl I q (by simp))
    | int j => obtain ⟨t', rfl⟩ := ry; exact PySem.EqMixed.eq_str_int (fin_bl I q (by simp))
    | str j => obtain ⟨t', rfl⟩ := ry; exact eq_str (fin_bl I q dec_str)
    | _ => exact absurd (show false = true from hs) Bool.false_ne_true
  | byt i =>
    obtain ⟨t, rfl⟩ := rx
    cases y with
    | byt j => obtain ⟨t', rfl⟩ := ry; exact PySem.W.eq_bytes (fin_bl I q dec_byt)
    | _ => exact absurd (show false = true from hs) Bool.false_ne_true
  | _ => cases y <;> exact absurd (show false = true from hs) Bool.false_ne_true
theorem op_ne : OpR X (compareOp .NotEq) rNe := by
  intro pins s σ H x y v u Q I rx ry h
  obtain ⟨hs, q⟩ := h
  cases x with
  | non =>
    cases rx
    cases y with
    | non => cases ry; exact PySem.EqNone.ne_none_none (fin_bl I q (by simp))
    | bl j => cases ry; exact PySem.EqNone.ne_none_bool (fin_bl I q (by simp))
    | int j => obtain ⟨t', rfl⟩ := ry; exact PySem.EqNone.ne_none_int (fin_bl I q (by simp))
    | str j => obtain ⟨t', rfl⟩ := ry; exact PySem.EqNone.ne_none_str (fin_bl I q (by simp))
    | _ => exact absurd (show false = true from hs) Bool.false_ne_true
  | bl i =>
    cases rx
    cases y with
    | non => cases ry; exact PySem.EqNone.ne_bool_none (fin_bl I q (by simp))
    | bl j => cases ry; exact ne_bool (fin_bl I q (congrArg not dec_bl))
    | str j => obtain ⟨t', rfl⟩ := ry; exact PySem.EqMixed.ne_bool_str (fin_bl I q (by simp))
    | _ => exact absurd (show false = true from hs) Bool.false_ne_true
  | int i =>
    obtain ⟨t, rfl⟩ := rx
    cases y with
    | non => cases ry; exact PySem.EqNone.ne_int_none (fin_bl I q (by simp))
    | int j => obtain ⟨t', rfl⟩ := ry; exact ne_int (fin_bl I q (congrArg not dec_int))
    | str j => obtain ⟨t', rfl⟩ := ry; exact PySem.EqMixed.ne_int_str (fin_bl I q (by simp))
    | _ => exact absurd (show false = true from hs) Bool.false_ne_true
  | str i =>
    obtain ⟨t, rfl⟩ := rx
    cases y with
    | non => cases ry; exact PySem.EqNone.ne_str_none (fin_bl I q (by simp))
    | bl j => cases ry; exact PySem.EqMixed.ne_str_bool (fin_bl I q (by simp))
    | int j => obtain ⟨t', rfl⟩ := ry; exact PySem.EqMixed.ne_str_int (fin_bl I q (by simp))
    | str j => obtain ⟨t', rfl⟩ := ry; exact ne_str (fin_bl I q (congrArg not dec_str))
    | _ => exact absurd (show false = true from hs) Bool.false_ne_true
  | byt i =>
    obtain ⟨t, rfl⟩ := rx
    cases y with
    | byt j => obtain ⟨t', rfl⟩ := ry; exact PySem.W.ne_bytes (fin_bl I q (congrArg not dec_byt))
    | _ => exact absurd (show false = true from hs) Bool.false_ne_true
  | _ => cases y <;> exact absurd (show false = true from hs) Bool.false_ne_true

theorem op_lt : OpR X (compareOp .Lt) (rI0 fun i j => .bl (decide (i < j))) := opB0 fun _ _ _ _ _ _ _ q => lt_int q
theorem op_le : OpR X (compareOp .LtE) (rI0 fun i j => .bl (decide (i ≤ j))) := opB0 fun _ _ _ _ _ _ _ q => le_int q
theorem op_gt : OpR X (compareOp .Gt) (rI0 fun i j => .bl (decide (j < i))) := opB0 fun _ _ _ _ _ _ _ q => gt_int q
theorem op_ge : OpR X (compareOp .GtE) (rI0 fun i j => .bl (decide (j ≤ i))) := opB0 fun _ _ _ _ _ _ _ q => ge_int q
theorem op_lt_str : OpR X (compareOp .Lt) (fun x y H Q => ∃ i j, x = .str i ∧ y = .str j ∧ Q (.bl (decide (i.cps.toList < j.cps.toList))) H) := by
  intro pins s σ H x y v u Q I rx ry h
  obtain ⟨i, j, rfl, rfl, q⟩ := h
  obtain ⟨t, rfl⟩ := rx
  obtain ⟨t', rfl⟩ := ry
  exact lt_str (fin_bl I q rfl)
/-- the one string within the other -/
theorem op_in_str : OpR X (compareOp .In) (fun x y H Q => ∃ i j, x = .str i ∧ y = .str j ∧ Q (.bl (!(Builtin.Str.occurrences j i 0 j.length 1).isEmpty)) H) := by
  intro pins s σ H x y v u Q I rx ry h
  obtain ⟨i, j, rfl, rfl, q⟩ := h
  obtain ⟨t, rfl⟩ := rx
  obtain ⟨t', rfl⟩ := ry
  exact in_str (fin_bl I q rfl)

/-- is None, is not None: the right side a value none -/
theorem op_isN : OpR X (compareOp .Is) (fun x y H Q => y = .non ∧ Q (.bl (decide (x = .non))) H) := by
  intro pins s σ H x y v u Q I rx ry h
  obtain ⟨rfl, q⟩ := h
  cases ry
  refine is_none_gen (fin_bl I q ?_)
  cases x <;> first
    | (cases rx; rfl)
    | (obtain ⟨t, rfl⟩ := rx; rfl)
theorem op_notN : OpR X (compareOp .IsNot) (fun x y H Q => y = .non ∧ Q (.bl (!decide (x = .non))) H) := by
  intro pins s σ H x y v u Q I rx ry h
  obtain ⟨rfl, q⟩ := h
  cases ry
  refine isnot_none_gen (fin_bl I q ?_)
  cases x <;> first
    | (cases rx; rfl)
    | (obtain ⟨t, rfl⟩ := rx; rfl)

theorem op_notin_str : OpR X (compareOp .NotIn) (fun x y H Q => ∃ i j, x = .str i ∧ y = .str j ∧ Q (.bl (!(!(Builtin.Str.occurrences j i 0 j.length 1).isEmpty))) H) := by
  intro pins s σ H x y v u Q I rx ry h
  obtain ⟨i, j, rfl, rfl, q⟩ := h
  obtain ⟨t, rfl⟩ := rx
  obtain ⟨t', rfl⟩ := ry
  exact notIn_str (fin_bl I q rfl)
/-- is, is not of two objects that are tracked lists or instances -/
def isObj : HO → Bool
  | .lst _ => true
  | .ins _ _ _ => true
  | _ => false
theorem obj_there {pins : List (Addr × Obj)} {s : Shared} {σ : St} {H : Hp} {a : Addr} {o : HO} (I : Inv X pins σ H s) (h : H a = some o) (p : isObj o = true) : ∃ ob, s.heap.get? a = some ob ∧ ob.cls ≠ .type "tuple" := by
  cases o with
  | lst xs =>
    obtain ⟨_, its, n, _, e⟩ : xs.length ≤ sizeLine ∧ ∃ (its : List Value) (n : Nat), Vals xs its ∧ s.heap.get? a = some { cls := .type "list", data := .seq its.toArray n } := I.hok a _ h
    exact ⟨_, e, (by show Value.type "list" ≠ .type "tuple"; decide +kernel)⟩
  | ins C dx fs =>
    have x := I.hok a _ h
    obtain ⟨_, _, _, e, _⟩ := x
    exact ⟨_, e, (by show Value.ref C ≠ .type "tuple"; exact fun z => by cases z)⟩
  | _ => exact absurd (show false = true from p) Bool.false_ne_true
theorem op_is_ref : OpR X (compareOp .Is) (fun x y H Q => ∃ a b oa ob, x = .ref a ∧ y = .ref b ∧ H a = some oa ∧ isObj oa = true ∧ H b = some ob ∧ isObj ob = true ∧ Q (.bl (decide (a = b))) H) := by
  intro pins s σ H x y v u Q I rx ry h
  obtain ⟨a, b, oa, ob, rfl, rfl, ha, pa, hb, pb, q⟩ := h
  cases rx
  cases ry
  obtain ⟨o1, e1, n1⟩ := obj_there I ha pa
  obtain ⟨o2, e2, _⟩ := obj_there I hb pb
  by_cases z : a = b
  · subst z
    exact wpAny_is_ref_self (fin_bl I q (by simp))
  · exact wpAny_is_ref_other z e1 e2 n1 (fin_bl I q (by simp [z]))
theorem op_isnot_ref : OpR X (compareOp .IsNot) (fun x y H Q => ∃ a b oa ob, x = .ref a ∧ y = .ref b ∧ H a = some oa ∧ isObj oa = true ∧ H b = some ob ∧ isObj ob = true ∧ Q (.bl (!decide (a = b))) H) := by
  intro pins s σ H x y v u Q I rx ry h
  obtain ⟨a, b, oa, ob, rfl, rfl, ha, pa, hb, pb, q⟩ := h
  cases rx
  cases ry
  obtain ⟨o1, e1, n1⟩ := obj_there I ha pa
  obtain ⟨o2, e2, _⟩ := obj_there I hb pb
  by_cases z : a = b
  · subst z
    exact wpAny_isNot_ref_self (fin_bl I q (by simp))
  · exact wpAny_isNot_ref_other z e1 e2 n1 (fin_bl I q (by simp [z]))

/-- two rules for one operation: by cases -/
theorem OpR.or {f : Value → Value → Sem Value} {r r' : R2} (h : OpR X f r) (h' : OpR X f r') : OpR X f (fun x y H Q => r x y H Q ∨ r' x y H Q) := by
  intro pins s σ H x y v u Q I rx ry q
  rcases q with q | q
  · exact h pins s σ H x y v u Q I rx ry q
  · exact h' pins s σ H x y v u Q I rx ry q

theorem nomark (b : Expr) {op : CmpOp} (h : op ≠ .In := by decide) (h2 : op ≠ .NotIn := by decide) : behindInMarks op b = false := by
  have e1 : (op == CmpOp.In) = false := by cases op <;> first | rfl | exact absurd rfl h
  have e2 : (op == CmpOp.NotIn) = false := by cases op <;> first | rfl | exact absurd rfl h2
  cases b <;> simp [behindInMarks, e1, e2]
/-- a comparison as a value; hm: nomark b, or (for in, not in) by with_unfolding_all rfl -/
theorem pe_cmpR {op : CmpOp} {r : R2} (ho : OpR X (compareOp op) r) (ha : PE X a ta) (hb : PE X b tb) (hm : behindInMarks op b = false) : PE X (.Compare a [op] [b] pos) (tOp r ta tb) := by
  intro pins s σ H Q I h
  exact wpAny_Compare1 (binT ha hb I h fun v u s2 x y H2 I2 rx ry q => ho pins s2 σ H2 x y v u Q I2 rx ry q) hm
/-- a reading of a value as a test -/
def tTest (t : TE) : TT := fun σ H Q => t σ H fun x H' => ∃ k, x = .bl k ∧ Q k H'
theorem pt_cmpR {op : CmpOp} {r : R2} (ho : OpR X (compareOp op) r) (ha : PE X a ta) (hb : PE X b tb) (hm : behindInMarks op b = false) : PT X (.Compare a [op] [b] pos) (tTest (tOp r ta tb)) := by
  intro pins s σ H Q I h
  refine wpAny_isTrue_Compare1 (thn (ha pins s σ H _ I h) fun v s1 ⟨x, H1, I1, r1, q1⟩ => thn (hb pins s1 σ H1 _ I1 q1) fun u s2 ⟨y, H2, I2, r2, q2⟩ =>
    thn (ho pins s2 σ H2 x y v u _ I2 r1 r2 q2) fun c s3 ⟨z, H3, I3, r3, k, e, q3⟩ => ?_) hm
  subst e
  cases r3
  exact wpAny_truthy_bool ⟨H3, I3, q3⟩
/-- a op1 b op2 c -/
def tChain (r r' : R2) (ta tb tc : TE) : TE := fun σ H Q => ta σ H fun x H1 => tb σ H1 fun y H2 => r x y H2 fun z H3 => ∃ k, z = .bl k ∧
  (if k = true then tc σ H3 fun w' H4 => r' y w' H4 Q else Q (.bl false) H3)
theorem pe_chain {op op' : CmpOp} {r r' : R2} (ho : OpR X (compareOp op) r) (ho' : OpR X (compareOp op') r') (ha : PE X a ta) (hb : PE X b tb) (hc : PE X c tc)
    (hm : lastMarks [op, op'] [b, c] = false := by with_unfolding_all rfl) : PE X (.Compare a [op, op'] [b, c] pos) (tChain r r' ta tb tc) := by
  intro pins s σ H Q I h
  refine Compare_chain (thn (ha pins s σ H _ I h) fun v s1 ⟨x, H1, I1, r1, q1⟩ => chain_link (thn (hb pins s1 σ H1 _ I1 q1) fun u s2 ⟨y, H2, I2, r2, q2⟩ =>
    thn (ho pins s2 σ H2 x y v u _ I2 r1 r2 q2) fun d s3 ⟨z, H3, I3, r3, k, e, q3⟩ => ?_)) hm
  subst e
  cases r3
  refine wpAny_truthy_bool ?_
  cases k with
  | false => exact ite_ff ⟨.bl false, H3, I3, rfl, q3⟩
  | true => exact ite_tt (chain_last (thn (hc pins s3 σ H3 _ I3 q3) fun w' s4 ⟨z', H4, I4, r4, q4⟩ => ho' pins s4 σ H4 y z' u w' Q I4 r2 r4 q4))
theorem pt_chain {op op' : CmpOp} {r r' : R2} (ho : OpR X (compareOp op) r) (ho' : OpR X (compareOp op') r') (ha : PE X a ta) (hb : PE X b tb) (hc : PE X c tc)
    (hm : lastMarks [op, op'] [b, c] = false := by with_unfolding_all rfl) : PT X (.Compare a [op, op'] [b, c] pos) (tTest (tChain r r' ta tb tc)) := by
  intro pins s σ H Q I h
  refine isTrue_chain (thn (ha pins s σ H _ I h) fun v s1 ⟨x, H1, I1, r1, q1⟩ => test_link (thn (hb pins s1 σ H1 _ I1 q1) fun u s2 ⟨y, H2, I2, r2, q2⟩ =>
    thn (ho pins s2 σ H2 x y v u _ I2 r1 r2 q2) fun d s3 ⟨z, H3, I3, r3, k, e, q3⟩ => ?_)) hm
  subst e
  cases r3
  refine wpAny_truthy_bool ?_
  cases k with
  | false =>
    obtain ⟨k', e', q'⟩ := q3
    cases e'
    exact ite_ff ⟨H3, I3, q'⟩
  | true =>
    refine ite_tt (test_last (thn (hc pins s3 σ H3 _ I3 q3) fun w' s4 ⟨z', H4, I4, r4, q4⟩ => thn (ho' pins s4 σ H4 y z' u w' _ I4 r2 r4 q4) fun d' s5 ⟨z2, H5, I5, r5, k2, e2, q5⟩ => ?_))
    subst e2
    cases r5
    exact wpAny_truthy_bool ⟨H5, I5, q5⟩

/-! ### truth -/
/-- a value's truth by the abstract heap -/
def TruV (K : PySem.W.Frag) (x : V) (H : Hp) (k : Bool) : Prop :=
  match x with
  | .non => k = false
  | .bl b => k = b
  | .int i => k = (i != 0)
  | .str y => y.length ≤ sizeLine ∧ k = ((y.length : Int) != 0)
  | .byt y => y.size ≤ sizeLine ∧ k = ((y.size : Int) != 0)
  | .ref p => (∃ xs, SqL K H p xs ∧ k = !xs.isEmpty) ∨ (∃ xs, SqT K H p xs ∧ k = !xs.isEmpty) ∨ ∃ kvs, H p = some (.dK kvs) ∧ k = !kvs.isEmpty
  | _ => False
theorem isEmpty_kv {κ : Type} {kvs : List (κ × V)} {vs : List (κ × Value)} (r : KV kvs vs) : (!vs.isEmpty) = !kvs.isEmpty := by
  cases r <;> rfl
theorem isEmpty_of {xs : List V} {its : List Value} (r : Vals xs its) : (!its.toArray.isEmpty) = !xs.isEmpty := by
  cases r <;> simp
theorem line63 : (sizeLine : Nat) < 2 ^ 63 := by rw [sizeLine_eq]; decide
theorem tru_ok : TruR X (fun x H Q => ∃ k, TruV X.K x H k ∧ Q k H) := by
  intro pins s σ H x v Q I rx h
  obtain ⟨k, e, q⟩ := h
  have hl := line63
  have hs : sizeLine = 16777216 := sizeLine_eq
  cases x with
  | non =>
    cases rx
    have e' : k = false := e
    subst e'
    exact truthy_none ⟨H, I, q⟩
  | bl b =>
    cases rx
    have e' : k = b := e
    subst e'
    exact wpAny_truthy_bool ⟨H, I, q⟩
  | int i =>
    obtain ⟨t, rfl⟩ := rx
    have e' : k = (i != 0) := e
    subst e'
    exact PySem.P.truthy_int ⟨H, I, q⟩
  | str y =>
    obtain ⟨t, rfl⟩ := rx
    obtain ⟨hy, e'⟩ : y.length ≤ sizeLine ∧ k = ((y.length : Int) != 0) := e
    subst e'
    exact PySem.P.truthy_str (by omega) ⟨H, I.tok _, q⟩
  | byt y =>
    obtain ⟨t, rfl⟩ := rx
    obtain ⟨hy, e'⟩ : y.size ≤ sizeLine ∧ k = ((y.size : Int) != 0) := e
    subst e'
    exact PySem.W.truthy_bytes (by omega) ⟨H, I.tok _, q⟩
  | ref p =>
    cases rx
    have e' : (∃ xs, SqL X.K H p xs ∧ k = !xs.isEmpty) ∨ (∃ xs, SqT X.K H p xs ∧ k = !xs.isEmpty) ∨ ∃ kvs, H p = some (.dK kvs) ∧ k = !kvs.isEmpty := e
    rcases e' with ⟨xs, hx, e'⟩ | ⟨xs, hx, e'⟩ | ⟨kvs, hx, e'⟩
    · subst e'
      obtain ⟨its, r, pl, hz⟩ := I.list hx
      have hlen := r.length
      exact wpAny_truthy_list pl.isList (by simp only [List.size_toArray]; omega) ⟨H, I.tok _, by rw [isEmpty_of r]; exact q⟩
    · subst e'
      obtain ⟨its, r, pl, hz⟩ := I.tuple hx
      have hlen := r.length
      exact truthy_tuple pl (by simp only [List.size_toArray]; omega) ⟨H, I.tok _, by rw [isEmpty_of r]; exact q⟩
    · subst e'
      obtain ⟨hz, hS, vs, r, m⟩ : kvs.length ≤ sizeLine ∧ (p == sysModules) = false ∧ ∃ vs, KV kvs vs ∧ s.heap.DictOf (mixKind X.prog X.w) p vs := I.hok p _ hx
      have hlen : kvs.length = vs.length := Paired.length r
      exact wpAny_truthy_dict hS m (by omega) ⟨H, I.tok _, by rw [isEmpty_kv r]; exact q⟩
  | _ => exact (show False from e).elim
/-- any expression whose test is its value's truth (a name, a call, a subscript, a field ..: he by fun _ => rfl) -/
theorem pt_truth (ha : PE X a ta) (he : ∀ whole, isTrue a X.env whole = (do let v ← whole; standAt a.pos; holding [v] (truthy v))) :
    PT X a (fun σ H Q => ta σ H fun x H' => ∃ k, TruV X.K x H' k ∧ Q k H') := by
  intro pins s σ H Q I h
  exact isTrue_plain (thn (ha pins s σ H _ I h) fun v s1 ⟨x, H1, I1, r1, q1⟩ => tru_ok pins s1 σ H1 x v Q I1 r1 q1) (he _)

/-! ### strs and bytes -/
theorem pe_byt {x : List UInt8} {k : Nat} : PE X (.Constant (.bytes x) k pos) (fun _ H Q => Q (.byt x.toArray) H) := fun _ _ _ H _ I h => PySem.W.Constant_bytes ⟨.byt x.toArray, H, I.tok _, ⟨_, rfl⟩, h⟩
theorem op_add_str : OpR X (binaryOp .Add) (fun x y H Q => ∃ i j, x = .str i ∧ y = .str j ∧ i.length + j.length ≤ sizeLine ∧ Q (.str (i ++ j)) H) := by
  intro pins s σ H x y v u Q I rx ry h
  obtain ⟨i, j, rfl, rfl, hz, q⟩ := h
  obtain ⟨t, rfl⟩ := rx
  obtain ⟨t', rfl⟩ := ry
  exact add_str (fun t' tk => ⟨.str (i ++ j), H, I.tok _, ⟨_, rfl⟩, q⟩) hz
theorem iop_add_str : OpR X (inplaceOp .Add) (fun x y H Q => ∃ i j, x = .str i ∧ y = .str j ∧ i.length + j.length ≤ sizeLine ∧ Q (.str (i ++ j)) H) := by
  intro pins s σ H x y v u Q I rx ry h
  obtain ⟨i, j, rfl, rfl, hz, q⟩ := h
  obtain ⟨t, rfl⟩ := rx
  obtain ⟨t', rfl⟩ := ry
  exact iadd_str (fun t' tk => ⟨.str (i ++ j), H, I.tok _, ⟨_, rfl⟩, q⟩) hz
theorem op_add_byt : OpR X (binaryOp .Add) (fun x y H Q => ∃ i j, x = .byt i ∧ y = .byt j ∧ i.size + j.size ≤ 16777216 ∧ Q (.byt (i ++ j)) H) := by
  intro pins s σ H x y v u Q I rx ry h
  obtain ⟨i, j, rfl, rfl, hz, q⟩ := h
  obtain ⟨t, rfl⟩ := rx
  obtain ⟨t', rfl⟩ := ry
  exact PySem.W.KBy.add_bytes hz (fun t' tk => ⟨.byt (i ++ j), H, I.tok _, ⟨_, rfl⟩, q⟩)

def PlainIxT (b : Expr) : Prop := ∀ o i, subscripted b false o i = operate [o, i] (getItem o i)
/-- s[i], 0 ≤ i < len -/
theorem pe_item_str (ha : PE X a ta) (hb : PE X b tb) (hs : PlainIxT b) :
    PE X (.Subscript a b pos) (tOp (fun x y H Q => ∃ z i c, x = .str z ∧ y = .int i ∧ 0 ≤ i ∧ i < 2 ^ 63 ∧ i < z.length ∧ z.cps[i.toNat]? = some c ∧ Q (.str ⟨#[c]⟩) H) ta tb) := by
  intro pins s σ H Q I h
  refine Subscript_ (binT ha hb I h fun v u s2 x y H2 I2 rx ry q => ?_)
  obtain ⟨z, i, c, rfl, rfl, h0, h63, h1, hc, q⟩ := q
  obtain ⟨t, rfl⟩ := rx
  obtain ⟨t', rfl⟩ := ry
  have e : seqIndex? i z.length = some i.toNat := PySem.StrLaws.seqIndex_nonneg h0 h1
  exact tail_any (typeIs_str s2 z t) slot_str_getitem.lookup (getItem_str (c := c) (by
    have e1 : decide (i < -(2 ^ 63 : Int)) = false := decide_eq_false (by omega)
    have e2 : decide (i ≥ 2 ^ 63) = false := decide_eq_false (by omega)
    rw [e1, e2] <;> rfl) (by rw [e]; exact hc) ⟨.str ⟨#[c]⟩, H2, I2.tok _, ⟨_, rfl⟩, q⟩) (hs _ _)
/-- b[i], 0 ≤ i < len -/
theorem pe_item_byt (ha : PE X a ta) (hb : PE X b tb) (hs : PlainIxT b) :
    PE X (.Subscript a b pos) (tOp (fun x y H Q => ∃ (z : List UInt8) (i : Int), x = .byt z.toArray ∧ y = .int i ∧ z.length ≤ sizeLine ∧ 0 ≤ i ∧ i < z.length ∧ Q (.int ((z.getD i.toNat 0).toNat : Nat)) H) ta tb) := by
  intro pins s σ H Q I h
  refine Subscript_ (binT ha hb I h fun v u s2 x y H2 I2 rx ry q => ?_)
  obtain ⟨z, i, rfl, rfl, hz, h0, h1, q⟩ := q
  obtain ⟨t, rfl⟩ := rx
  obtain ⟨t', rfl⟩ := ry
  have hl : sizeLine = 16777216 := sizeLine_eq
  exact tail_any (PySem.W.typeIs_bytes s2 z.toArray t) PySem.W.FB.slot_bytes_getitem.lookup (PySem.W.getItem_bytes (by omega) h0 h1 ⟨.int ((z.getD i.toNat 0).toNat : Nat), H2, I2.tok _, ⟨_, rfl⟩, q⟩) (hs _ _)

/-! ### scalar builtins, by CallR -/
theorem vals1 {x : V} {us : List Value} (r : Vals [x] us) : ∃ u, us = [u] ∧ RelV x u := by
  cases r with
  | cons r1 r2 => cases r2; exact ⟨_, rfl, r1⟩
theorem vals2 {x y : V} {us : List Value} (r : Vals [x, y] us) : ∃ u w', us = [u, w'] ∧ RelV x u ∧ RelV y w' := by
  cases r with
  | cons r1 r2 =>
    cases r2 with
    | cons r3 r4 => cases r4; exact ⟨_, _, rfl, r1, r3⟩
theorem call_abs : CallR X (.builtin "abs") (fun xs H Q => ∃ i, xs = [.int i] ∧ Q (.int (if i < 0 then -i else i)) H) := by
  intro pins s σ H xs us Q I r h
  obtain ⟨i, rfl, q⟩ := h
  obtain ⟨u, rfl, t, rfl⟩ := vals1 r
  exact call_abs_int fun u tk => ⟨.int (if i < 0 then -i else i), H, I.tok _, ⟨_, rfl⟩, q⟩
theorem call_max2 (hc : X.calm = true) : CallR X (.builtin "max") (fun xs H Q => ∃ i j, xs = [.int i, .int j] ∧ Q (.int (if j > i then j else i)) H) := by
  intro pins s σ H xs us Q I r h
  obtain ⟨i, j, rfl, q⟩ := h
  obtain ⟨u, w', rfl, ⟨t, rfl⟩, ⟨t', rfl⟩⟩ := vals2 r
  refine max_two_ints (I.ok.hd hc) fun h' tk k => ⟨_, H, I.kept k, ?_, q⟩
  by_cases hj : j > i
  · rw [if_pos hj, if_pos hj]; exact ⟨_, rfl⟩
  · rw [if_neg hj, if_neg hj]; exact ⟨_, rfl⟩
theorem call_min2 (hc : X.calm = true) : CallR X (.builtin "min") (fun xs H Q => ∃ i j, xs = [.int i, .int j] ∧ Q (.int (if j < i then j else i)) H) := by
  intro pins s σ H xs us Q I r h
  obtain ⟨i, j, rfl, q⟩ := h
  obtain ⟨u, w', rfl, ⟨t, rfl⟩, ⟨t', rfl⟩⟩ := vals2 r
  refine min_two_ints (I.ok.hd hc) fun h' tk k => ⟨_, H, I.kept k, ?_, q⟩
  by_cases hj : j < i
  · rw [if_pos hj, if_pos hj]; exact ⟨_, rfl⟩
  · rw [if_neg hj, if_neg hj]; exact ⟨_, rfl⟩
theorem call_int1 : CallR X (.type "int") (fun xs H Q => (∃ i, xs = [.int i] ∧ Q (.int i) H) ∨ ∃ k, xs = [.bl k] ∧ Q (.int (if k then 1 else 0)) H) := by
  intro pins s σ H xs us Q I r h
  rcases h with ⟨i, rfl, q⟩ | ⟨k, rfl, q⟩
  · obtain ⟨u, rfl, t, rfl⟩ := vals1 r
    exact call_int_int ⟨.int i, H, I, ⟨_, rfl⟩, q⟩
  · obtain ⟨u, rfl, r1⟩ := vals1 r
    cases r1
    exact call_int_bool ⟨.int (if k then 1 else 0), H, I.tok _, ⟨_, rfl⟩, q⟩
theorem call_bool1 : CallR X (.type "bool") (fun xs H Q => (∃ i, xs = [.int i] ∧ Q (.bl (i != 0)) H) ∨ ∃ k, xs = [.bl k] ∧ Q (.bl k) H) := by
  intro pins s σ H xs us Q I r h
  rcases h with ⟨i, rfl, q⟩ | ⟨k, rfl, q⟩
  · obtain ⟨u, rfl, t, rfl⟩ := vals1 r
    exact call_bool_int ⟨.bl (i != 0), H, I, rfl, q⟩
  · obtain ⟨u, rfl, r1⟩ := vals1 r
    cases r1
    exact call_bool_bool ⟨.bl k, H, I, rfl, q⟩
theorem call_str_int : CallR X (.type "str") (fun xs H Q => ∃ i, xs = [.int i] ∧ i.natAbs.log2 < 1920 ∧ Q (.str (toString i)) H) := by
  intro pins s σ H xs us Q I r h
  obtain ⟨i, rfl, hz, q⟩ := h
  obtain ⟨u, rfl, t, rfl⟩ := vals1 r
  exact PySem.P.str_of_int hz ⟨.str _, H, I.tok _, ⟨_, rfl⟩, q⟩
theorem call_ord : CallR X (.builtin "ord") (fun xs H Q => ∃ x, xs = [.str x] ∧ x.length = 1 ∧ Q (.int (x.cps.getD 0 0 : Nat)) H) := by
  intro pins s σ H xs us Q I r h
  obtain ⟨x, rfl, hz, q⟩ := h
  obtain ⟨u, rfl, t, rfl⟩ := vals1 r
  exact ord_of_one hz ⟨.int _, H, I.tok _, ⟨_, rfl⟩, q⟩
theorem call_chr : CallR X (.builtin "chr") (fun xs H Q => ∃ i, xs = [.int i] ∧ 0 ≤ i ∧ i ≤ 1114111 ∧ Q (.str ⟨#[i.toNat]⟩) H) := by
  intro pins s σ H xs us Q I r h
  obtain ⟨i, rfl, h0, h1, q⟩ := h
  obtain ⟨u, rfl, t, rfl⟩ := vals1 r
  exact chr_of_range h0 h1 ⟨.str _, H, I.tok _, ⟨_, rfl⟩, q⟩
/-- len of a str, a bytes, a list, a tuple -/
def LenV (K : PySem.W.Frag) (x : V) (H : Hp) (n : Nat) : Prop :=
  match x with
  | .str y => y.length ≤ sizeLine ∧ n = y.length
  | .byt y => y.size ≤ sizeLine ∧ n = y.size
  | .ref p => (∃ xs, SqL K H p xs ∧ n = xs.length) ∨ ∃ xs, SqT K H p xs ∧ n = xs.length
  | _ => False
theorem call_len : CallR X (.builtin "len") (fun xs H Q => ∃ x n, xs = [x] ∧ LenV X.K x H n ∧ Q (.int n) H) := by
  intro pins s σ H xs us Q I r h
  obtain ⟨x, n, rfl, e, q⟩ := h
  obtain ⟨u, rfl, rx⟩ := vals1 r
  have hl := line63
  have hs : sizeLine = 16777216 := sizeLine_eq
  cases x with
  | str y =>
    obtain ⟨t, rfl⟩ := rx
    obtain ⟨hy, e'⟩ : y.length ≤ sizeLine ∧ n = y.length := e
    subst e'
    exact len_str (by omega) ⟨.int _, H, I.tok _, ⟨_, rfl⟩, q⟩
  | byt y =>
    obtain ⟨t, rfl⟩ := rx
    obtain ⟨hy, e'⟩ : y.size ≤ sizeLine ∧ n = y.size := e
    subst e'
    exact PySem.W.len_bytes (by omega) ⟨.int _, H, I.tok _, ⟨_, rfl⟩, q⟩
  | ref p =>
    cases rx
    have e' : (∃ xs, SqL X.K H p xs ∧ n = xs.length) ∨ ∃ xs, SqT X.K H p xs ∧ n = xs.length := e
    rcases e' with ⟨xs, hx, e'⟩ | ⟨xs, hx, e'⟩
    · subst e'
      obtain ⟨its, r', pl, hz⟩ := I.list hx
      have hlen := r'.length
      exact Calls.call_len_list pl.isList (by simp only [List.size_toArray]; omega) ⟨.int xs.length, H, I.tok _, ⟨_, by simp only [List.size_toArray]; rw [hlen]⟩, q⟩
    · subst e'
      obtain ⟨its, r', pl, hz⟩ := I.tuple hx
      have hlen := r'.length
      exact len_tuple pl (by simp only [List.size_toArray]; omega) ⟨.int xs.length, H, I.tok _, ⟨_, by simp only [List.size_toArray]; rw [hlen]⟩, q⟩
  | _ => exact (show False from e).elim
/-- divmod: a new tuple -/
theorem call_divmod : CallR X (.builtin "divmod") (fun xs H Q => ∃ i j, xs = [.int i, .int j] ∧ CDiv i j ∧ ∀ p, H p = none → Q (.ref p) (upd H p (.tup [.int (i / j), .int (i % j)]))) := by
  intro pins s σ H xs us Q I r h
  obtain ⟨i, j, rfl, ⟨h1, h2⟩, q⟩ := h
  obtain ⟨u, w', rfl, ⟨t, rfl⟩, ⟨t', rfl⟩⟩ := vals2 r
  refine divmod_int (by omega) ?_ (.inl (PyProof.noPylong_small (by omega)))
  rw [Int.fdiv_eq_ediv_of_nonneg i (by omega), Int.fmod_eq_emod_of_nonneg i (by omega)]
  have hn : H s.heap.objs.size = none := I.hok.fresh (Nat.le_refl _)
  refine ⟨.ref s.heap.objs.size, _, ?_, rfl, q _ hn⟩
  refine I.laid (fun b o e => Heap.get?_push_of_some _ e) (Nat.le_refl _) ⟨by simp only [List.length_cons, List.length_nil]; rw [sizeLine_eq]; decide, [.int (i / j) s.toks, .int (i % j) (s.toks + 1)], .cons ⟨_, rfl⟩ (.cons ⟨_, rfl⟩ .nil), ?_⟩
  exact ⟨_, Heap.get?_push_size s.heap rfl, rfl, 0, rfl⟩
end
end L2

namespace L2
open PySem PySem.Spec PyProof.Rows

/-! ### an instance, its attributes a map -/
structure ObjM (h : Heap) (x dx C : Addr) (mA : Str → Option Value) : Prop where
  obj : h.get? x = some (PySem.W.instObj C dx)
  ns : h.Ns1 dx mA
  ne : dx ≠ x

theorem lookIn_ns {h : Heap} {dx : Addr} {mA : Str → Option Value} (n : h.Ns1 dx mA) : ∃ od, h.get? dx = some od ∧ ∀ name, PySem.W.lookIn name od = some (mA name) := by
  obtain ⟨o, es, ep, ho, hd, hk, _, hm⟩ := n
  refine ⟨o, ho, fun name => ?_⟩
  have e := hm name
  unfold nsFind findBy at e
  rw [← Array.find?_toList] at e
  unfold PySem.W.lookIn
  rw [hd]
  dsimp only
  split
  · rename_i y q
    rw [q] at e
    exact congrArg some e
  · rename_i q
    rw [q] at e
    have a : es.toList.any (·.refKey) = false := by
      rw [List.any_eq_false]
      intro y hy
      obtain ⟨z, t, hkey⟩ := hk y (Array.mem_toList_iff.mp hy)
      simp [DictEntry.refKey, hkey]
    have a' : ¬ es.toList.any (·.refKey) = true := by rw [a]; exact Bool.false_ne_true
    rw [if_neg a']
    exact congrArg some e

theorem ObjM.look {h : Heap} {x dx C : Addr} {mA : Str → Option Value} (I : ObjM h x dx C mA) : ∃ od, PySem.W.InstAt h x (PySem.W.instObj C dx) C (some od) ∧ ∀ name, PySem.W.lookIn name od = some (mA name) :=
  let ⟨od, ho, hl⟩ := lookIn_ns I.ns
  ⟨od, ⟨I.obj, rfl, rfl, ho⟩, hl⟩

section
variable {prog : Program} {w : World} {A : Around} {E : Value → Shared → Prop} {s : Shared} {K : PySem.W.Frag} {x dx C f : Addr} {mA : Str → Option Value} {name : Str} {v : Value}

theorem get_map {expr : Bool} {Q : Value → Shared → Prop} (X : K.In s.heap) (I : ObjM s.heap x dx C mA) (hg : PySem.W.plainGet K C name = true) (hh : PySem.W.hasDictIn K C = true)
    (ha : PySem.W.findIn K (.ref C) name = some none) (hv : mA name = some v) (hv' : PySem.W.handedIn v = true) (h : Q v { s with toks := s.toks + 1 }) :
    wpAny (model prog w) A (getAttr (.ref x) name expr) Q E s := by
  obtain ⟨od, J, hl⟩ := I.look
  exact PySem.W.get_value X J (PySem.W.plainGet_of hg).1 (PySem.W.findObj_own hh ha rfl (by rw [hl, hv])) hv' h

theorem get_const {expr : Bool} {a : Value} {Q : Value → Shared → Prop} (X : K.In s.heap) (I : ObjM s.heap x dx C mA) (hg : PySem.W.plainGet K C name = true) (hh : PySem.W.hasDictIn K C = true)
    (ha : PySem.W.findIn K (.ref C) name = some (some a)) (hn : PySem.W.specialIn K a "__get__" = some none) (hc : PySem.W.copiedNames.contains name = false) (hv : mA name = none) (hv' : PySem.W.handedIn a = true)
    (h : Q a { s with toks := s.toks + 1 }) : wpAny (model prog w) A (getAttr (.ref x) name expr) Q E s := by
  obtain ⟨od, J, hl⟩ := I.look
  exact PySem.W.get_value X J (PySem.W.plainGet_of hg).1 (PySem.W.findObj_cls hh ha hn hv' hc (by rw [hl, hv])) hv' h

theorem get_meth {pl : Sem Bool} {Q : Value × List Value → Shared → Prop} (X : K.In s.heap) (I : ObjM s.heap x dx C mA) (hg : PySem.W.plainGet K C name = true)
    (hf : PySem.W.findIn K (.ref C) name = some (some (.ref f))) (ht : PySem.W.isFn K (.ref f) = true) (hv : mA name = none) (h : Q (.ref f, [.ref x]) s) :
    wpAny (model prog w) A (getMethod (.ref x) name pl) Q E s := by
  obtain ⟨od, J, hl⟩ := I.look
  exact PySem.W.method_fn X J (PySem.W.plainGet_of hg).1 (PySem.W.plainGet_of hg).2 hf (beq_iff_eq.mp ht) (by show (PySem.W.lookIn name od).map (·.isSome) = some false; rw [hl, hv]; rfl) h

theorem set_map {ns : List Str} {Q : Unit → Shared → Prop} (X : K.In s.heap) (I : ObjM s.heap x dx C mA)
    (hs : PySem.W.findIn K (.ref C) "__setattr__" = some (some (.builtin "object.__setattr__"))) (hp : PySem.W.plainOver K C = true) (ht : PySem.W.takerIn K C name = some none) (hh : PySem.W.hasDictIn K C = true)
    (hw : PySem.Within mA ns) (hsz : ns.length ≤ sizeLine)
    (h : ∀ h', ObjM h' x dx C (fun y => if y = name then some v else mA y) → Heap.SameBut dx s.heap h' → Q () { s with heap := h', toks := s.toks + 2 }) :
    wpAny (model prog w) A (setAttr (.ref x) name v) Q E s := by
  obtain ⟨od, J, hl⟩ := I.look
  refine PySem.W.set_plain X J hs (PySem.W.osa_open (s := { s with toks := s.toks + 1 }) (r := none) X J hp ht fun b => ?_)
  obtain ⟨cd, hc, hd'⟩ := PySem.W.any_some hh
  have hx : s.heap.get? x = some ⟨.ref C, some dx, .plain, #[]⟩ := I.obj
  refine wpAny_bind (wpAny_pure (wpAny_bind (wpAny_bind (wpAny_loadPart hx (wpAny_bind (PySem.W.Looks.here (s := { s with toks := s.toks + 1 }) (PySem.W.looks_clsIn X hc) ?_))))))
  rw [hd']
  refine wpAny_pure (a := some dx) (wpAny_bind (wpAny_pure (wpAny_bind ?_)))
  refine wpAny_nsSet1 (s := { s with toks := s.toks + 1 }) I.ns fun h' hn2 hs2 => ?_
  obtain ⟨oD, esD, epD, hoD, hdD, hcD⟩ := hn2.count (PySem.Within.cons name v hw)
  refine wpAny_bind (wpAny_lookBehind hoD (by rw [hdD]; exact pastItsLine_dict (Nat.le_trans hcD (by rw [List.length_cons]; omega))) ?_)
  exact wpAny_pure (h _ ⟨(hs2.2 _ (Ne.symm I.ne)).trans I.obj, hn2, I.ne⟩ hs2)

/-- C(..): the dict at the heap's end, the instance behind it; then its __init__ -/
theorem make_map {R : Result → Shared → Prop} {vs : List Value} {kw : List (Str × Value)} (X : K.In s.heap) (hm : PySem.W.makesIn K C = true)
    (hi : PySem.W.findIn K (.ref C) "__init__" = some (some (.ref f))) (hf : PySem.W.typeIn K (.ref f) = some (.type "function"))
    (h : codeAny (model prog w) (A.under (.builtin "type.__call__" ⟨.ref C :: vs, kw⟩)) (.call (.ref f) ⟨.ref (s.heap.objs.size + 1) :: vs, kw⟩) (PySem.W.InitBack (s.heap.objs.size + 1) R)
      { s with heap := (s.heap.push PySem.W.emptyDict).push (PySem.W.instObj C s.heap.objs.size) }) :
    codeAny (model prog w) A (.call (.ref C) ⟨vs, kw⟩) R s := by
  obtain ⟨hh, g, d, t, os⟩ := s
  exact PySem.W.make_core (PySem.W.makes_of X hm) (PySem.W.looks_findIn X hi) (fun self => PySem.W.bind_fn X self hf) (.inl rfl) h
/-- C() where there is no __init__ but object's -/
theorem make_map0 {R : Result → Shared → Prop} (X : K.In s.heap) (hm : PySem.W.makesIn K C = true)
    (hi : PySem.W.findIn K (.ref C) "__init__" = some (some (.builtin "object.__init__")))
    (hb : ∀ self, PySem.W.Looks (model prog w) s.heap (bindSpecial (.builtin "object.__init__") self) (.builtin "object.__init__", [self]))
    (h : codeAny (model prog w) (A.under (.builtin "type.__call__" ⟨[.ref C], []⟩)) (.call (.builtin "object.__init__") ⟨[.ref (s.heap.objs.size + 1)], []⟩) (PySem.W.InitBack (s.heap.objs.size + 1) R)
      { s with heap := (s.heap.push PySem.W.emptyDict).push (PySem.W.instObj C s.heap.objs.size) }) :
    codeAny (model prog w) A (.call (.ref C) ⟨[], []⟩) R s := by
  obtain ⟨hh, g, d, t, os⟩ := s
  exact PySem.W.make_core (PySem.W.makes_of X hm) (PySem.W.looks_findIn X hi) hb (.inr ⟨rfl, rfl⟩) h
end

/-! ### the attributes as a list of pairs -/
def putF (f : Str) (v : V) : List (Str × V) → List (Str × V)
  | [] => [(f, v)]
  | (g, x) :: r => if g = f then (g, v) :: r else (g, x) :: putF f v r
theorem lookup_putF (f g : Str) (v : V) : ∀ fs : List (Str × V), (putF f v fs).lookup g = if g = f then some v else fs.lookup g
  | [] => by
    show List.lookup g [(f, v)] = _
    by_cases h : g = f
    · have hb : (g == f) = true := beq_iff_eq.mpr h
      simp only [List.lookup, hb, if_pos h]
    · have hb : (g == f) = false := beq_eq_false_iff_ne.mpr h
      simp only [List.lookup, hb, if_neg h]
  | (k, x) :: r => by
    have ih := lookup_putF f g v r
    rw [show putF f v ((k, x) :: r) = (if k = f then (k, v) :: r else (k, x) :: putF f v r) from rfl]
    by_cases hk : k = f
    · rw [if_pos hk]
      by_cases h : g = k
      · have hb : (g == k) = true := beq_iff_eq.mpr h
        simp only [List.lookup, hb, if_pos (h.trans hk)]
      · have hb : (g == k) = false := beq_eq_false_iff_ne.mpr h
        simp only [List.lookup, hb, if_neg (fun e : g = f => h (e.trans hk.symm))]
    · rw [if_neg hk]
      by_cases h : g = k
      · have hb : (g == k) = true := beq_iff_eq.mpr h
        simp only [List.lookup, hb, if_neg (fun e : g = f => hk (h.symm.trans e))]
      · have hb : (g == k) = false := beq_eq_false_iff_ne.mpr h
        simp only [List.lookup, hb]
        exact ih
theorem keys_putF (f : Str) (v : V) : ∀ fs : List (Str × V), f ∈ (putF f v fs).map (·.1) ∧ ∀ g, g ∈ fs.map (·.1) → g ∈ (putF f v fs).map (·.1)
  | [] => ⟨by simp [putF], fun g h => by simp at h⟩
  | (k, x) :: r => by
    obtain ⟨i1, i2⟩ := keys_putF f v r
    rw [show putF f v ((k, x) :: r) = (if k = f then (k, v) :: r else (k, x) :: putF f v r) from rfl]
    by_cases hk : k = f
    · rw [if_pos hk]
      subst hk
      exact ⟨by simp, fun g h => by simpa using h⟩
    · rw [if_neg hk]
      refine ⟨?_, fun g h => ?_⟩
      · rw [List.map_cons]
        exact List.mem_cons_of_mem _ i1
      · rw [List.map_cons] at h ⊢
        rcases List.mem_cons.mp h with e | e
        · exact List.mem_cons.mpr (.inl e)
        · exact List.mem_cons_of_mem _ (i2 g e)
theorem length_putF (f : Str) (v : V) : ∀ fs : List (Str × V), (putF f v fs).length ≤ fs.length + 1
  | [] => by simp [putF]
  | (k, x) :: r => by
    have ih := length_putF f v r
    rw [show putF f v ((k, x) :: r) = (if k = f then (k, v) :: r else (k, x) :: putF f v r) from rfl]
    by_cases hk : k = f
    · rw [if_pos hk, List.length_cons, List.length_cons]; omega
    · rw [if_neg hk, List.length_cons, List.length_cons]; omega

theorem RelO.some_of {v : V} {o : Option Value} (r : RelO (some v) o) : ∃ u, o = some u ∧ RelV v u := by
  cases o with
  | none => exact (show False from r).elim
  | some u => exact ⟨u, rfl, r⟩
theorem RelO.none_of {o : Option Value} (r : RelO none o) : o = none := by
  cases o with
  | none => rfl
  | some u => exact (show False from r).elim
theorem handed_of {v : V} {u : Value} (r : RelV v u) : PySem.W.handedIn u = true := by
  cases v with
  | non => cases (show u = Value.none from r); rfl
  | bl b => cases (show u = Value.bool b from r); rfl
  | int i => obtain ⟨t, e⟩ := (show ∃ t, u = Value.int i t from r); cases e; rfl
  | str x => obtain ⟨t, e⟩ := (show ∃ t, u = Value.str x t from r); cases e; rfl
  | byt b => obtain ⟨t, e⟩ := (show ∃ t, u = Value.bytes b t from r); cases e; rfl
  | flt b => obtain ⟨t, e⟩ := (show ∃ t, u = Value.float b t from r); cases e; rfl
  | ref a => cases (show u = Value.ref a from r); rfl
  | ty n => cases (show u = Value.type n from r); rfl

section
variable {P : Program} {w : World} {H H' : Hp} {h h' : Heap} {a C dx : Addr} {fs fs' : List (Str × V)}
theorem ins_get (hok : HOk P w H h) (e : H a = some (.ins C dx fs)) : ∃ mA, ObjM h a dx C mA ∧ (∀ f, RelO (fs.lookup f) (mA f)) ∧ PySem.Within mA (fs.map (·.1)) ∧ fs.length ≤ 1000 ∧ H dx = some (.own a) := by
  obtain ⟨d, z, ne, ob, mA, n, r, q⟩ := (show ObjOk P w H h a (.ins C dx fs) from hok a _ e)
  exact ⟨mA, ⟨ob, n, ne⟩, r, q, z, d⟩
end

/-! ### what of the text a class must have -/
structure Cls (K : PySem.W.Frag) (C : Addr) : Prop where
  pg : PySem.W.plainGet K C Str.empty = true
  hd : PySem.W.hasDictIn K C = true
  po : PySem.W.plainOver K C = true
  sa : PySem.W.findIn K (.ref C) "__setattr__" = some (some (.builtin "object.__setattr__"))
theorem Cls.get {K : PySem.W.Frag} {C : Addr} (c : Cls K C) (f : Str) : PySem.W.plainGet K C f = true := c.pg
/-- no class of it has the name -/
def NoAttr (K : PySem.W.Frag) (C : Addr) (f : Str) : Prop := PySem.W.findIn K (.ref C) f = some none
theorem NoAttr.taker {K : PySem.W.Frag} {C : Addr} {f : Str} (n : NoAttr K C f) : PySem.W.takerIn K C f = some none := by
  unfold PySem.W.takerIn
  rw [show PySem.W.findIn K (.ref C) f = some none from n]
  rfl
/-- a constant of the class -/
structure Con (K : PySem.W.Frag) (C : Addr) (f : Str) (v : V) (u : Value) : Prop where
  at_ : PySem.W.findIn K (.ref C) f = some (some u)
  rel : RelV v u
  get : PySem.W.specialIn K u "__get__" = some none
  cp : PySem.W.copiedNames.contains f = false
/-- a method: a plain def of the class or of one above it -/
structure Meth (K : PySem.W.Frag) (C : Addr) (m : Str) (f : Addr) : Prop where
  at_ : PySem.W.findIn K (.ref C) m = some (some (.ref f))
  fn : PySem.W.isFn K (.ref f) = true
  kp : PySem.W.keepIn K (.ref f) = true

section
variable {X : Cx} {pins : List (Addr × Obj)} {σ : St} {H : Hp} {s : Shared} {a C dx : Addr} {fs : List (Str × V)} {f : Str} {v : V} {A : Around} {E : Value → Shared → Prop}

theorem getattr_ok {b : Bool} {Q : Value → Shared → Prop} (I : Inv X pins σ H s) (e : H a = some (.ins C dx fs)) (c : Cls X.K C) (n : NoAttr X.K C f) (l : fs.lookup f = some v)
    (h : ∀ u s', Inv X pins σ H s' → RelV v u → Q u s') : wpAny (model X.prog X.w) A (getAttr (.ref a) f b) Q E s := by
  obtain ⟨mA, O, r, _, _, _⟩ := ins_get I.hok e
  obtain ⟨u, hu, ru⟩ := RelO.some_of (v := v) (o := mA f) (by rw [← l]; exact r f)
  exact get_map I.kIn O (c.get f) c.hd n hu (handed_of ru) (h u _ (I.tok _) ru)

theorem getcon_ok {b : Bool} {u : Value} {Q : Value → Shared → Prop} (I : Inv X pins σ H s) (e : H a = some (.ins C dx fs)) (c : Cls X.K C) (k : Con X.K C f v u) (l : fs.lookup f = none)
    (h : ∀ s', Inv X pins σ H s' → Q u s') : wpAny (model X.prog X.w) A (getAttr (.ref a) f b) Q E s := by
  obtain ⟨mA, O, r, _, _, _⟩ := ins_get I.hok e
  have hn : mA f = none := RelO.none_of (by rw [← l]; exact r f)
  exact get_const I.kIn O (c.get f) c.hd k.at_ k.get k.cp hn (handed_of k.rel) (h _ (I.tok _))

theorem getmeth_ok {m : Str} {g : Addr} {pl : Sem Bool} {Q : Value × List Value → Shared → Prop} (I : Inv X pins σ H s) (e : H a = some (.ins C dx fs)) (c : Cls X.K C) (k : Meth X.K C m g) (l : fs.lookup m = none)
    (h : Q (.ref g, [.ref a]) s) : wpAny (model X.prog X.w) A (getMethod (.ref a) m pl) Q E s := by
  obtain ⟨mA, O, r, _, _, _⟩ := ins_get I.hok e
  have hn : mA m = none := RelO.none_of (by rw [← l]; exact r m)
  exact get_meth I.kIn O (c.get m) k.at_ k.fn hn h

theorem setattr_ok {y : V} {u : Value} {Q : Unit → Shared → Prop} (I : Inv X pins σ H s) (e : H a = some (.ins C dx fs)) (c : Cls X.K C) (n : NoAttr X.K C f) (hl : fs.length < 1000) (ry : RelV y u)
    (h : ∀ s', Inv X pins σ (upd H a (.ins C dx (putF f y fs))) s' → Q () s') : wpAny (model X.prog X.w) A (setAttr (.ref a) f u) Q E s := by
  obtain ⟨mA, O, r, wi, _, ho⟩ := ins_get I.hok e
  have hz : (fs.map (·.1)).length ≤ sizeLine := by rw [List.length_map, sizeLine_eq]; omega
  refine set_map I.kIn O c.sa c.po n.taker c.hd wi hz fun h' O' sb => h _ ?_
  have hd : ∃ o, h'.get? dx = some o := let ⟨o, _, _, e', _⟩ := O'.ns; ⟨o, e'⟩
  refine I.write (x := a) (e := dx) (by rw [e]; exact True.intro) (.inr ho) (fun b q hb z => (sb.2 b hb).trans z) hd ?_
  refine ⟨by rw [upd_ne O.ne]; exact ho, ?_, O.ne, O'.obj, _, O'.ns, fun g => ?_, fun g hg => ?_⟩
  · have := length_putF f y fs; omega
  · show RelO ((putF f y fs).lookup g) (if g = f then some u else mA g)
    rw [lookup_putF]
    by_cases q : g = f
    · rw [if_pos q, if_pos q]; exact ry
    · rw [if_neg q, if_neg q]; exact r g
  · by_cases q : g = f
    · rw [q]; exact (keys_putF f y fs).1
    · refine (keys_putF f y fs).2 g (wi g fun z => hg ?_)
      show (if g = f then some u else mA g) = none
      rw [if_neg q]; exact z

/-- a new instance, tracked, without attributes -/
theorem Inv.made (I : Inv X pins σ H s) : Inv X pins σ (upd (upd H s.heap.objs.size (.own (s.heap.objs.size + 1))) (s.heap.objs.size + 1) (.ins C s.heap.objs.size []))
    { s with heap := (s.heap.push PySem.W.emptyDict).push (PySem.W.instObj C s.heap.objs.size) } := by
  have e1 : (s.heap.push PySem.W.emptyDict).get? s.heap.objs.size = some PySem.W.emptyDict := Heap.get?_push_size s.heap rfl
  have e2 : ((s.heap.push PySem.W.emptyDict).push (PySem.W.instObj C s.heap.objs.size)).get? (s.heap.objs.size + 1) = some (PySem.W.instObj C s.heap.objs.size) := by
    have := Heap.get?_push_size (s.heap.push PySem.W.emptyDict) (o := PySem.W.instObj C s.heap.objs.size) rfl
    rwa [Heap.size_push] at this
  have e3 : (s.heap.push PySem.W.emptyDict).Ns s.heap.objs.size (fun _ => none) := ⟨PySem.W.emptyDict, #[], _, e1, rfl, (fun e he => absurd he (by simp)), fun _ => rfl⟩
  have I1 := I.laid (a := s.heap.objs.size) (o := .own (s.heap.objs.size + 1)) (h' := s.heap.push PySem.W.emptyDict) (t' := s.toks) (fun b u q => Heap.get?_push_of_some _ q) (Nat.le_refl _) ⟨_, e1⟩
  refine I1.laid (a := s.heap.objs.size + 1) (o := .ins C s.heap.objs.size []) (t' := s.toks) (fun b u q => Heap.get?_push_of_some _ q) (Nat.le_of_eq (Heap.size_push _ _)) ?_
  have ne : s.heap.objs.size ≠ s.heap.objs.size + 1 := Nat.ne_of_lt (Nat.lt_succ_self _)
  refine ⟨by rw [upd_ne ne, upd_same], Nat.zero_le _, ne, e2, fun _ => none, (Heap.Ns1.of_empty e3).at fun o q => Heap.get?_push_of_some _ q, fun _ => True.intro, fun y hy => absurd rfl hy⟩

/-- e.f where nothing but the object is asked: through attributeBase (super) and the last hold -/
theorem attr_of {prog : Program} {w : World} {env : Env} {e : Expr} {f : Str} {pos : Pos} {s : Shared} {Q : Value → Shared → Prop} (hb : attributeBase e f env (eval e env) = eval e env)
    (h : wpAny (model prog w) A (eval e env) (fun o s₁ => wpAny (model prog w) A (getAttr o f true) Q E s₁) E s) : wpAny (model prog w) A (eval (.Attribute e f pos) env) Q E s :=
  Attribute_any_ h (by rw [arm_eval_Attribute, hb])
end

/-! ### readings and rules -/
/-- e.f, an attribute of the instance -/
def tFld (K : PySem.W.Frag) (ta : TE) (f : Str) : TE := fun σ H Q => ta σ H fun x H1 => ∃ a C dx fs v, x = .ref a ∧ H1 a = some (.ins C dx fs) ∧ Cls K C ∧ NoAttr K C f ∧ fs.lookup f = some v ∧ Q v H1
/-- e.f, a constant of the class -/
def tCon (K : PySem.W.Frag) (ta : TE) (f : Str) : TE := fun σ H Q => ta σ H fun x H1 => ∃ a C dx fs v u, x = .ref a ∧ H1 a = some (.ins C dx fs) ∧ Cls K C ∧ Con K C f v u ∧ fs.lookup f = none ∧ Q v H1
/-- e.f = value -/
def sFld (K : PySem.W.Frag) (ta tv : TE) (f : Str) : TS := fun D σ H => tv σ H fun y H1 => ta σ H1 fun x H2 => ∃ a C dx fs, x = .ref a ∧ H2 a = some (.ins C dx fs) ∧ Cls K C ∧ NoAttr K C f ∧ fs.length < 1000 ∧
  D.nx σ (upd H2 a (.ins C dx (putF f y fs)))
/-- an augmented operator on two values -/
def InOp (X : Cx) (op : Operator) (rd : V → V → Hp → VK → Prop) : Prop :=
  ∀ (pins : List (Addr × Obj)) (s : Shared) (σ : St) (H : Hp) (x y : V) (u v : Value) (Q : VK), Inv X pins σ H s → RelV x u → RelV y v → rd x y H Q → wpAny (model X.prog X.w) X.A (inplaceOp op u v) (EP X pins σ Q) X.xe s
/-- e.f op= value -/
def sFldAug (K : PySem.W.Frag) (ta tv : TE) (rd : V → V → Hp → VK → Prop) (f : Str) : TS := fun D σ H => ta σ H fun x H1 => ∃ a C dx fs v, x = .ref a ∧ H1 a = some (.ins C dx fs) ∧ Cls K C ∧ NoAttr K C f ∧ fs.lookup f = some v ∧
  tv σ H1 fun y H2 => rd v y H2 fun z H3 => ∃ dx' fs', H3 a = some (.ins C dx' fs') ∧ fs'.length < 1000 ∧ D.nx σ (upd H3 a (.ins C dx' (putF f z fs')))

section
variable {X : Cx} {o e value : Expr} {f : Str} {pos pos' tpos : Pos} {ta tv : TE}
theorem pe_fld (he : PE X e ta) (hb : attributeBase e f X.env (eval e X.env) = eval e X.env) : PE X (.Attribute e f pos) (tFld X.K ta f) := by
  intro pins s σ H Q I h
  refine attr_of hb (thn (he pins s σ H _ I h) fun u s1 ⟨x, H1, I1, rx, a, C, dx, fs, v, ex, ea, c, n, l, q⟩ => ?_)
  subst ex
  obtain rfl : u = Value.ref a := rx
  exact getattr_ok I1 ea c n l fun u' s2 I2 ru => ⟨v, H1, I2, ru, q⟩
theorem pe_con (he : PE X e ta) (hb : attributeBase e f X.env (eval e X.env) = eval e X.env) : PE X (.Attribute e f pos) (tCon X.K ta f) := by
  intro pins s σ H Q I h
  refine attr_of hb (thn (he pins s σ H _ I h) fun u s1 ⟨x, H1, I1, rx, a, C, dx, fs, v, u0, ex, ea, c, k, l, q⟩ => ?_)
  subst ex
  obtain rfl : u = Value.ref a := rx
  exact getcon_ok I1 ea c k l fun s2 I2 => ⟨v, H1, I2, k.rel, q⟩
theorem ps_fld (ha : PE X o ta) (hv : PE X value tv) (hs : swapsWith value (some (.Attribute o f pos')) pos.line X.env = pure false) : PS X (.Assign [.Attribute o f pos'] value pos) (sFld X.K ta tv f) := by
  intro pins s σ H D I h
  refine plainObj_wpAny_Assign_Attribute (thn (hv pins s σ H _ I h) fun u s1 ⟨y, H1, I1, ry, q⟩ => thn (ha pins s1 σ H1 _ I1 q) fun ov s2 ⟨x, H2, I2, rx, a, C, dx, fs, ex, ea, c, n, l, q2⟩ => ?_) hs
  subst ex
  obtain rfl : ov = Value.ref a := rx
  exact setattr_ok I2 ea c n l ry fun s3 I3 => ⟨σ, _, I3, q2⟩
theorem ps_fldaug {op : Operator} {rd : V → V → Hp → VK → Prop} (ha : PE X o ta) (hv : PE X value tv) (hop : InOp X op rd) : PS X (.AugAssign (.Attribute o f tpos) op value pos) (sFldAug X.K ta tv rd f) := by
  intro pins s σ H D I h
  refine wpAny_AugAssign_AttributeAny (thn (ha pins s σ H _ I h) fun ov s1 ⟨x, H1, I1, rx, a, C, dx, fs, v, ex, ea, c, n, l, q⟩ => ?_)
  subst ex
  obtain rfl : ov = Value.ref a := rx
  refine getattr_ok I1 ea c n l fun u s2 I2 ru => thn (hv pins s2 σ H1 _ I2 q) fun w3 s3 ⟨y, H2, I3, ry, q3⟩ => thn (hop pins s3 σ H2 v y u w3 _ I3 ru ry q3) fun w4 s4 ⟨z, H3, I4, rz, dx', fs', ea', l', q4⟩ => ?_
  exact setattr_ok I4 ea' c n l' rz fun s5 I5 => ⟨σ, _, I5, q4⟩
def rAdd : V → V → Hp → VK → Prop := fun x y H Q => ∃ i j, x = .int i ∧ y = .int j ∧ Q (.int (i + j)) H
def rSub : V → V → Hp → VK → Prop := fun x y H Q => ∃ i j, x = .int i ∧ y = .int j ∧ Q (.int (i - j)) H
theorem in_add : InOp X .Add rAdd := by
  rintro pins s σ H x y u v Q I rx ry ⟨i, j, rfl, rfl, q⟩
  obtain ⟨t, rfl⟩ := (show ∃ t, u = Value.int i t from rx)
  obtain ⟨t', rfl⟩ := (show ∃ t', v = Value.int j t' from ry)
  exact PyProof.Rows.iadd_int ⟨.int (i + j), H, I.tok _, ⟨_, rfl⟩, q⟩
theorem in_sub : InOp X .Sub rSub := by
  rintro pins s σ H x y u v Q I rx ry ⟨i, j, rfl, rfl, q⟩
  obtain ⟨t, rfl⟩ := (show ∃ t, u = Value.int i t from rx)
  obtain ⟨t', rfl⟩ := (show ∃ t', v = Value.int j t' from ry)
  exact PyProof.Rows.isub_int ⟨.int (i - j), H, I.tok _, ⟨_, rfl⟩, q⟩

/-- what is between an instance and its method: the tree of a method call -/
theorem methcall_of {pl : Sem Bool} {m : Str} {apos : Pos} {args : List Expr} {pins : List (Addr × Obj)} {s : Shared} {σ : St} {H : Hp} {Q : Value → Shared → Prop} {te : TE} (he : PE X e te) (I : Inv X pins σ H s)
    (h : te σ H fun x H1 => ∃ a C dx fs g, x = .ref a ∧ H1 a = some (.ins C dx fs) ∧ Cls X.K C ∧ Meth X.K C m g ∧ fs.lookup m = none ∧
      ∀ s1, Inv X pins σ H1 s1 → wpAny (model X.prog X.w) X.A (callWith pos (.ref g) [.ref a] (backTo pos (starEach args X.env)) (backToKw pos (keywordEach [] X.env))) Q X.xe s1)
    (ht : eval (.Call (.Attribute e m apos) args [] pos) X.env = (do
      let ov ← eval e X.env
      standAt apos.atName
      let (f, first) ← holding [ov] (getMethod ov m pl)
      callWith pos f first (backTo pos (starEach args X.env)) (backToKw pos (keywordEach [] X.env)))) :
    wpAny (model X.prog X.w) X.A (eval (.Call (.Attribute e m apos) args [] pos) X.env) Q X.xe s := by
  refine PySem.W.methodCall_KW (pl := pl) (thn (he pins s σ H _ I h) fun u s1 ⟨x, H1, I1, rx, a, C, dx, fs, g, ex, ea, c, k, l, q⟩ => ?_) ht
  subst ex
  obtain rfl : u = Value.ref a := rx
  exact getmeth_ok I1 ea c k l (q s1 I1)
end

/-! ### isinstance -/
section
variable {X : Cx} {pins : List (Addr × Obj)} {σ : St} {H : Hp} {s : Shared} {A : Around} {E : Value → Shared → Prop} {Q : Value → Shared → Prop} {c : Value} {b : Bool}
/-- the type of a value, as the fragment's deciders take it; for an instance its class -/
inductive TyOf (K : PySem.W.Frag) (H : Hp) : V → Value → Prop where
  | non : TyOf K H .non (.type "NoneType")
  | bl (x : Bool) : TyOf K H (.bl x) (.type "bool")
  | int (i : Int) : TyOf K H (.int i) (.type "int")
  | str (x : Str) : TyOf K H (.str x) (.type "str")
  | flt (x : UInt64) : TyOf K H (.flt x) (.type "float")
  | lst {a : Addr} {xs : List V} (e : H a = some (.lst xs)) : TyOf K H (.ref a) (.type "list")
  | frz {a : Addr} {o : Obj} {xs : List V} (e : H a = some (.frz o (.lst xs))) : TyOf K H (.ref a) (.type "list")
  | tup {a : Addr} {xs : List V} (e : H a = some (.tup xs)) : TyOf K H (.ref a) (.type "tuple")
  | dK {a : Addr} {kvs : List (Key × V)} (e : H a = some (.dK kvs)) : TyOf K H (.ref a) (.type "dict")
  | dT {a : Addr} {kvs : List (List Key × V)} (e : H a = some (.dT kvs)) : TyOf K H (.ref a) (.type "dict")
  | ins {a C dx : Addr} {fs : List (Str × V)} (e : H a = some (.ins C dx fs)) (cl : Cls K C) (ha : PySem.W.findIn K (.ref C) "__class__" = some (some (.builtin "object.__class__")))
      (hn : PySem.W.specialIn K (.builtin "object.__class__") "__get__" = some (some (.builtin "getset_descriptor.__get__"))) (htk : PySem.W.takesIn K (.builtin "object.__class__") = some true)
      (hm : PySem.W.mroIn K C (.type "object") = some true) : TyOf K H (.ref a) (.ref C)
/-- isinstance(x, c) for one class c, a built-in or an own one: kitOne's answer -/
theorem isinst_ok {x : V} {u t : Value} (I : Inv X pins σ H s) (rx : RelV x u) (ty : TyOf X.K H x t) (e : PySem.W.kitOne X.K t c = some b) (h : ∀ tk, Q (.bool b) { s with toks := tk }) :
    wpAny (model X.prog X.w) A (call (.builtin "isinstance") [u, c]) Q E s := by
  cases ty with
  | non => cases (show u = Value.none from rx); exact PySem.W.kia_one PySem.W.kitx_none I.kIn True.intro e (fun z => nomatch z) h
  | bl y => cases (show u = Value.bool y from rx); exact PySem.W.kia_one PySem.W.kitx_bool I.kIn True.intro e (fun z => nomatch z) h
  | int i => obtain ⟨t, q⟩ := (show ∃ t, u = Value.int i t from rx); cases q; exact PySem.W.kia_one PySem.W.kitx_int I.kIn True.intro e (fun z => nomatch z) h
  | str y => obtain ⟨t, q⟩ := (show ∃ t, u = Value.str y t from rx); cases q; exact PySem.W.kia_one PySem.W.kitx_str I.kIn True.intro e (fun z => nomatch z) h
  | flt y => obtain ⟨t, q⟩ := (show ∃ t, u = Value.float y t from rx); cases q; exact PySem.W.kia_one PySem.W.kitx_float I.kIn True.intro e (fun z => nomatch z) h
  | @lst a xs ea =>
    cases (show u = Value.ref a from rx)
    obtain ⟨_, _, n, _, h1⟩ := (show ObjOk X.prog X.w H s.heap a (.lst xs) from I.hok a _ ea)
    exact PySem.W.kia_one PySem.W.kitx_list I.kIn ⟨_, h1, rfl⟩ e (fun z => nomatch z) h
  | @frz a ob xs ea =>
    cases (show u = Value.ref a from rx)
    obtain ⟨_, _, _, n, _, h1⟩ := (show ObjOk X.prog X.w H s.heap a (.frz ob (.lst xs)) from I.hok a _ ea)
    exact PySem.W.kia_one PySem.W.kitx_list I.kIn ⟨_, h1, rfl⟩ e (fun z => nomatch z) h
  | @tup a xs ea =>
    cases (show u = Value.ref a from rx)
    obtain ⟨_, _, _, p⟩ := (show ObjOk X.prog X.w H s.heap a (.tup xs) from I.hok a _ ea)
    obtain ⟨o, h1, h2, _⟩ := p
    exact PySem.W.kia_one PySem.W.kitx_tuple I.kIn ⟨o, h1, h2⟩ e (fun z => nomatch z) h
  | @dK a kvs ea =>
    cases (show u = Value.ref a from rx)
    obtain ⟨_, _, vs, _, p⟩ := (show ObjOk X.prog X.w H s.heap a (.dK kvs) from I.hok a _ ea)
    obtain ⟨o, es, ep, h1, h2, _⟩ := p
    exact PySem.W.kia_one PySem.W.kitx_dict I.kIn ⟨o, h1, h2.1⟩ e (fun z => nomatch z) h
  | @dT a kvs ea =>
    cases (show u = Value.ref a from rx)
    obtain ⟨_, _, xs, _, o, es, ep, h1, h2, _⟩ := (show ObjOk X.prog X.w H s.heap a (.dT kvs) from I.hok a _ ea)
    exact PySem.W.kia_one PySem.W.kitx_dict I.kIn ⟨o, h1, h2.1⟩ e (fun z => nomatch z) h
  | @ins a C dx fs ea cl ha hn htk hm =>
    cases (show u = Value.ref a from rx)
    obtain ⟨mA, O, _⟩ := ins_get I.hok ea
    obtain ⟨od, J, _⟩ := O.look
    exact PySem.W.kia_one (PySem.W.kitx_own (cl.get _) cl.hd ha hn htk hm) I.kIn J e (fun z => nomatch z) h
end
end L2

namespace L2
open PySem PySem.Spec PyProof.Rows

/-! ### room -/
structure Room (k : Nat) (A : Around) : Prop where
  hd : A.handled = none
  dp : A.depth + 3 * k + 5 < recursionLimit
  un : A.units + 16 * k + 200 < cLine
theorem Room.mono {j k : Nat} {A : Around} (r : Room k A) (h : j ≤ k) : Room j A := ⟨r.hd, by have := r.dp; omega, by have := r.un; omega⟩
theorem Room.deeper {k : Nat} {A : Around} (r : Room (k + 1) A) (env : Env) : Room k (A.deeper env) :=
  ⟨r.hd, by have := r.dp; show A.depth + 1 + 3 * k + 5 < _; omega, by have := r.un; show A.units + 3 + 16 * k + 200 < _; omega⟩
theorem Room.in1 {k : Nat} {A : Around} (r : Room (k + 1) A) : Room k A.in1 :=
  ⟨r.hd, by have := r.dp; show A.depth + 3 * k + 5 < _; omega, by have := r.un; show A.units + 1 + 16 * k + 200 < _; omega⟩
theorem make_depth {A : Around} {C : Addr} {us : List Value} {kw : List (Str × Value)} : (A.under (.builtin "type.__call__" ⟨.ref C :: us, kw⟩)).depth = A.depth + 1 := by
  first | rfl | simp [Around.under, Code.weight, Code.isCreation, Code.isGuard, Code.isCaller, Code.frames, Code.isFrame, guardIds]
theorem make_units {A : Around} {C : Addr} {us : List Value} {kw : List (Str × Value)} : (A.under (.builtin "type.__call__" ⟨.ref C :: us, kw⟩)).units = A.units + 1 := by
  first | rfl | simp [Around.under, Code.cUnits, Code.frames, Code.isFrame]
theorem Room.make {k : Nat} {A : Around} (r : Room (k + 1) A) (C : Addr) (us : List Value) (kw : List (Str × Value)) : Room k (A.under (.builtin "type.__call__" ⟨.ref C :: us, kw⟩)) :=
  ⟨r.hd, by have := r.dp; rw [make_depth]; omega, by have := r.un; rw [make_units]; omega⟩
theorem Room.depth {k : Nat} {A : Around} (r : Room k A) : A.depth < recursionLimit := by have := r.dp; omega
theorem Room.units {k : Nat} {A : Around} (r : Room k A) : A.units + 64 < cLine := by have := r.un; omega
theorem Room.units0 {k : Nat} {A : Around} (r : Room k A) : A.units < cLine := by have := r.un; omega

/-! ### argument lists and displays -/
def tNil : TA := fun _ H Q => Q [] H
def tCons (ta : TE) (tr : TA) : TA := fun σ H Q => ta σ H fun x H1 => tr σ H1 fun xs H2 => Q (x :: xs) H2
section
variable {X : Cx} {e : Expr} {es : List Expr} {te : TE} {t : TA} {pos : Pos}
theorem pa_nil : PA X [] tNil := fun _ _ _ _ H Q I h => Calls.spliced_nil ⟨[], H, I, .nil, h⟩
theorem pa_cons (ha : PE X e te) (hr : PA X es t) (hs : starEach (e :: es) X.env = (false, eval e X.env) :: starEach es X.env := by rfl) : PA X (e :: es) (tCons te t) := by
  intro pos pins s σ H Q I h
  rw [hs]
  show wpAny _ _ (spliced ((false, eval e X.env) :: backTo pos (starEach es X.env))) _ _ s
  refine Calls.spliced_cons (thn (ha pins s σ H _ I h) fun u s1 ⟨x, H1, I1, r1, q1⟩ => ?_)
  exact thn (hr pos pins s1 σ H1 _ I1 q1) fun us s2 ⟨xs, H2, I2, r2, q2⟩ => ⟨x :: xs, H2, I2, .cons r1 r2, q2⟩

/-- a tuple, a list of written items -/
def tTup (t : TA) : TE := fun σ H Q => t σ H fun xs H1 => xs.length ≤ sizeLine ∧ ∀ p, H1 p = none → Q (.ref p) (upd H1 p (.tup xs))
def tLst (t : TA) : TE := fun σ H Q => t σ H fun xs H1 => xs.length ≤ sizeLine ∧ ∀ p, H1 p = none → Q (.ref p) (upd H1 p (.lst xs))
theorem pe_tup {x1} (h : PA X es t) : PE X (.Tuple es x1 pos) (tTup t) := by
  intro pins s σ H Q I hq
  refine wpAny_Tuple_spliced (thn (h pos pins s σ H _ I hq) fun us s1 ⟨xs, H1, I1, r, z, q⟩ => ⟨by rw [← r.length]; exact z, ?_⟩)
  have hf : H1 s1.heap.objs.size = none := I1.hok.fresh (Nat.le_refl _)
  refine ⟨.ref s1.heap.objs.size, upd H1 s1.heap.objs.size (.tup xs), I1.laid (t' := s1.toks) (fun b u e => Heap.get?_push_of_some _ e) (Nat.le_refl _) ?_, rfl, q _ hf⟩
  exact ⟨z, us, r, ⟨_, Heap.get?_push_size _ rfl, rfl, _, rfl⟩⟩
theorem pe_lst (h : PA X es t) : PE X (.List es pos) (tLst t) := by
  intro pins s σ H Q I hq
  refine wpAny_List_spliced (thn (h pos pins s σ H _ I hq) fun us s1 ⟨xs, H1, I1, r, z, q⟩ => ⟨by rw [← r.length]; exact z, ?_⟩)
  have hf : H1 s1.heap.objs.size = none := I1.hok.fresh (Nat.le_refl _)
  refine ⟨.ref s1.heap.objs.size, upd H1 s1.heap.objs.size (.lst xs), I1.laid (t' := s1.toks) (fun b u e => Heap.get?_push_of_some _ e) (Nat.le_refl _) ?_, rfl, q _ hf⟩
  exact ⟨z, us, 0, r, Heap.get?_push_size _ rfl⟩
end

/-! ### what a def promises -/
/-- a def's promise: the bound arguments in the parameters' order, the heap, the wanted end, the wanted exception -/
abbrev Sp := List V → Hp → VK → XK → Prop
/-- how an exception lies behind a call (file 08 gives it): the callers' frames, abstract heap and state ahead of the call, the wish, the exception, the state -/
abbrev CXT := List Env → Hp → Shared → XK → Value → Shared → Prop

/-- the state at a call -/
structure Env0 (P : Program) (w : World) (K : PySem.W.Frag) (mg : Str → Option Value) (base : Heap) (A : Around) (outer : List Env) (s : Shared) (H : Hp) : Prop where
  frames : A.frames = some outer
  mod : Mod K mg base
  bs : ∀ b o, base.get? b = some o → s.heap.get? b = some o ∧ H b = none
  bsz : base.objs.size ≤ s.heap.objs.size
  funs : s.heap.FunFrames base outer
  frf : ∀ b ∈ frs outer, H b = none
  hok : HOk P w H s.heap
  bare : AllBare s.gens
/-- a call's end -/
def CE (outer : List Env) (P : Program) (w : World) (H : Hp) (s : Shared) (Q : VK) (u : Value) (s' : Shared) : Prop :=
  ∃ v H', s'.os = s.os ∧ AllBare s'.gens ∧ Un (frs outer) [] H H' s.heap s'.heap ∧ HOk P w H' s'.heap ∧ RelV v u ∧ Q v H'
def CR (CX : CXT) (outer : List Env) (P : Program) (w : World) (H : Hp) (s : Shared) (Q : VK) (E : XK) (r : Result) (s' : Shared) : Prop :=
  match r with
  | .ok (.ret u) => CE outer P w H s Q u s'
  | .ok _ => False
  | .error e => CX outer H s E e s'
structure FnOk (P : Program) (w : World) (K : PySem.W.Frag) (mg : Str → Option Value) (base : Heap) (CX : CXT) (k : Nat) (f : Addr) (fd : FuncData) (ps : List Str) (sp : Sp) : Prop where
  len : ∀ vs H Q E, sp vs H Q E → vs.length = ps.length
  run : ∀ (A : Around) (outer : List Env) (s : Shared) (H : Hp) (args : Args) (us : List Value) (vs : List V) (Q : VK) (E : XK), Room k A → Env0 P w K mg base A outer s H → BindsTo s fd args (ps.zip us) → Vals vs us → sp vs H Q E →
    codeAny (model P w) A (.call (.ref f) args) (CR CX outer P w H s Q E) s
theorem FnOk.mono {P : Program} {w : World} {K : PySem.W.Frag} {mg : Str → Option Value} {base : Heap} {CX : CXT} {j k : Nat} {f : Addr} {fd : FuncData} {ps : List Str} {sp : Sp} (F : FnOk P w K mg base CX j f fd ps sp) (h : j ≤ k) :
    FnOk P w K mg base CX k f fd ps sp := ⟨F.len, fun A outer s H args us vs Q E hr => F.run A outer s H args us vs Q E (hr.mono h)⟩
/-- a weaker promise -/
theorem FnOk.imp {P : Program} {w : World} {K : PySem.W.Frag} {mg : Str → Option Value} {base : Heap} {CX : CXT} {k : Nat} {f : Addr} {fd : FuncData} {ps : List Str} {sp sp' : Sp} (F : FnOk P w K mg base CX k f fd ps sp)
    (h : ∀ vs H Q E, sp' vs H Q E → sp vs H Q E) : FnOk P w K mg base CX k f fd ps sp' :=
  ⟨fun vs H Q E q => F.len vs H Q E (h _ _ _ _ q), fun A outer s H args us vs Q E hr he hb hv hs => F.run A outer s H args us vs Q E hr he hb hv (h _ _ _ _ hs)⟩

theorem Env0.make {P : Program} {w : World} {K : PySem.W.Frag} {mg : Str → Option Value} {base : Heap} {A : Around} {outer : List Env} {s : Shared} {H : Hp} (e : Env0 P w K mg base A outer s H) (C : Addr) (us : List Value) (kw : List (Str × Value)) :
    Env0 P w K mg base (A.under (.builtin "type.__call__" ⟨.ref C :: us, kw⟩)) outer s H := ⟨by first | exact e.frames | (simpa [Around.under, Code.envs, Code.isFrame, pushEnvs] using e.frames), e.mod, e.bs, e.bsz, e.funs, e.frf, e.hok, e.bare⟩
theorem Env0.in1 {P : Program} {w : World} {K : PySem.W.Frag} {mg : Str → Option Value} {base : Heap} {A : Around} {outer : List Env} {s : Shared} {H : Hp} (e : Env0 P w K mg base A outer s H) :
    Env0 P w K mg base A.in1 outer s H := ⟨e.frames, e.mod, e.bs, e.bsz, e.funs, e.frf, e.hok, e.bare⟩

section
variable {X : Cx} {pins : List (Addr × Obj)} {σ : St} {H : Hp} {s s' : Shared}
/-- from a body: what a callee wants -/
theorem Inv.env0 (I : Inv X pins σ H s) : Env0 X.prog X.w X.K X.mg X.base X.A X.stack s H :=
  ⟨I.ok.frames, I.ok.mod, I.bs, Nat.le_trans I.ok.bsz I.sz, I.stack, I.stkFree, I.hok, I.bare⟩
/-- behind a call -/
theorem Inv.after {Q : VK} {u : Value} (I : Inv X pins σ H s) (h : CE X.stack X.prog X.w H s Q u s') : EP X pins σ Q u s' := by
  obtain ⟨v, H', os, bare, un, hok, r, q⟩ := h
  obtain ⟨hh, g, d, t, os'⟩ := s'
  obtain rfl : os' = s.os := os
  exact ⟨v, H', I.call (h' := hh) (g' := g) (d' := d) (t' := t) (ch := []) un hok bare (fun b z => absurd z (by simp)), r, q⟩
end

/-! ### calls -/
/-- f(..): the written arguments, then the defaults dvs; E: what is wanted of an exception -/
def tCall (sp : Sp) (dvs : List V) (E : XK) (t : TA) : TE := fun σ H Q => t σ H fun vs H1 => sp (vs ++ dvs) H1 Q E
/-- o.m(..) of an instance of the class at C -/
def tMeth (C : Addr) (m : Str) (sp : Sp) (dvs : List V) (E : XK) (ta : TE) (t : TA) : TE := fun σ H Q => ta σ H fun x H1 => ∃ a dx fs, x = .ref a ∧ H1 a = some (.ins C dx fs) ∧ fs.lookup m = none ∧
  t σ H1 fun vs H2 => sp (x :: (vs ++ dvs)) H2 Q E
/-- C(..): a new instance and its dict, then __init__ -/
def tMake (C : Addr) (sp : Sp) (dvs : List V) (E : XK) (t : TA) : TE := fun σ H Q => t σ H fun vs H1 => ∀ x dx, H1 x = none → H1 dx = none → dx ≠ x →
  sp (.ref x :: (vs ++ dvs)) (upd (upd H1 dx (.own x)) x (.ins C dx [])) (fun v H2 => v = .non ∧ Q (.ref x) H2) E

/-- how the parameters are bound: us the positional arguments, kw the keywords' values by name, ds the defaults that fill up -/
def Binds (K : PySem.W.Frag) (fd : FuncData) (ps : List Str) (ds : List Value) : Prop :=
  ∀ (s : Shared) (us : List Value), K.In s.heap → (us ++ ds).length = ps.length → BindsTo s fd ⟨us, []⟩ (ps.zip (us ++ ds))
/-- every parameter is given -/
theorem Binds.all {K : PySem.W.Frag} {fd : FuncData} {ps : List Str} (h : ∀ us : List Value, us.length = ps.length → bindArgs fd ⟨us, []⟩ = pure (ps.zip us)) : Binds K fd ps [] := fun s us _ hl => by
  rw [List.append_nil] at hl ⊢
  exact .of_eq (h us hl)

/-- an exception of a callee reaches what this body wants of exceptions -/
def Passes (CX : CXT) (X : Cx) (E : XK) : Prop := ∀ (pins : List (Addr × Obj)) (σ : St) (H : Hp) (s : Shared) (e : Value) (s' : Shared), Inv X pins σ H s → CX X.stack H s E e s' → X.xe e s'

section
variable {X : Cx} {CX : CXT} {k : Nat} {f C : Addr} {fd : FuncData} {ps : List Str} {sp : Sp} {dvs : List V} {ds : List Value} {E : XK} {x m : Str} {p pos apos : Pos} {e o : Expr} {es : List Expr} {ta : TE} {t : TA}

/-- the callee runs -/
theorem run_fn {pins : List (Addr × Obj)} {σ : St} {H : Hp} {s : Shared} {Q : VK} {us : List Value} {vs : List V} (F : FnOk X.prog X.w X.K X.mg X.base CX k f fd ps sp) (hr : Room k X.A) (hb : Binds X.K fd ps ds) (hd : Vals dvs ds) (hx : Passes CX X E)
    (I : Inv X pins σ H s) (r : Vals vs us) (h : sp (vs ++ dvs) H Q E) : wpAny (model X.prog X.w) X.A (call (.ref f) us) (EP X pins σ Q) X.xe s := by
  have r2 : Vals (vs ++ dvs) (us ++ ds) := r.append hd
  have hl : (us ++ ds).length = ps.length := by rw [← r2.length]; exact F.len _ _ _ _ h
  refine wpAny_call (codeAny_mono (F.run X.A X.stack s H ⟨us, []⟩ (us ++ ds) (vs ++ dvs) Q E hr I.env0 (hb s us I.kIn hl) r2 h) fun r s' hq => ?_)
  cases r with
  | error e => exact hx pins σ H s e s' I hq
  | ok fl =>
    cases fl with
    | ret u => exact I.after hq
    | next => exact False.elim hq
    | brk => exact False.elim hq
    | cont => exact False.elim hq

theorem pe_call (F : FnOk X.prog X.w X.K X.mg X.base CX k f fd ps sp) (hr : Room k X.A) (hg : Gl X x) (hm : X.mg x = some (.ref f)) (hk : PySem.W.keepIn X.K (.ref f) = true) (hb : Binds X.K fd ps ds) (hd : Vals dvs ds) (hx : Passes CX X E)
    (ha : PA X (e :: es) t) (hdb : (x == ("__debug__" : Str)) = false := by decide) (he : starEach (e :: es) X.env = (false, eval e X.env) :: starEach es X.env := by rfl) (hpl : (backTo pos (starEach es X.env)).any (·.1) = false := by rfl) :
    PE X (.Call (.Name x p) (e :: es) [] pos) (tCall sp dvs E t) := by
  intro pins s σ H Q I h
  refine wpAny_Call_Name_kw (ld_glob I hg hm ?_ hdb)
  refine PySem.W.callWith_K (h₀ := X.base) I.ok.mod.kin hk (thn (ha pos pins s σ H _ I h) fun us s1 ⟨vs, H1, I1, r, q⟩ => ⟨I1.kIn, ?_⟩) he hpl
  exact run_fn F hr hb hd hx I1 r q
theorem pe_call0 (F : FnOk X.prog X.w X.K X.mg X.base CX k f fd ps sp) (hr : Room k X.A) (hg : Gl X x) (hm : X.mg x = some (.ref f)) (hk : PySem.W.keepIn X.K (.ref f) = true) (hb : Binds X.K fd ps ds) (hd : Vals dvs ds) (hx : Passes CX X E)
    (hdb : (x == ("__debug__" : Str)) = false := by decide) : PE X (.Call (.Name x p) [] [] pos) (tCall sp dvs E tNil) := by
  intro pins s σ H Q I h
  refine wpAny_Call_Name_kw (ld_glob I hg hm ?_ hdb)
  exact PySem.W.callWith_K0 I.kIn hk (run_fn (us := []) F hr hb hd hx I .nil h)

/-- o.m(e, ..) -/
theorem pe_meth {pl : Sem Bool} (he : PE X o ta) (c : Cls X.K C) (hm : Meth X.K C m f) (F : FnOk X.prog X.w X.K X.mg X.base CX k f fd ps sp) (hr : Room k X.A) (hb : Binds X.K fd ps ds) (hd : Vals dvs ds) (hx : Passes CX X E) (ha : PA X (e :: es) t)
    (hst : starEach (e :: es) X.env = (false, eval e X.env) :: starEach es X.env := by rfl) (hpl : (backTo pos (starEach es X.env)).any (·.1) = false := by rfl)
    (ht : eval (.Call (.Attribute o m apos) (e :: es) [] pos) X.env = (do
      let ov ← eval o X.env
      standAt apos.atName
      let (f, first) ← holding [ov] (getMethod ov m pl)
      callWith pos f first (backTo pos (starEach (e :: es) X.env)) (backToKw pos (keywordEach [] X.env))) := by rfl) :
    PE X (.Call (.Attribute o m apos) (e :: es) [] pos) (tMeth C m sp dvs E ta t) := by
  intro pins s σ H Q I h
  refine PySem.W.methodCall_KW (pl := pl) (thn (he pins s σ H _ I h) fun u s1 ⟨x, H1, I1, rx, a, dx, fs, ex, ea, l, q⟩ => ?_) ht
  subst ex
  obtain rfl : u = Value.ref a := rx
  refine getmeth_ok I1 ea c hm l ?_
  refine PySem.W.callWith_K (first := [.ref a]) (h₀ := X.base) I.ok.mod.kin hm.kp (thn (ha pos pins s1 σ H1 _ I1 q) fun us s2 ⟨vs, H2, I2, r, q2⟩ => ⟨I2.kIn, ?_⟩) hst hpl
  exact run_fn (us := .ref a :: us) (vs := .ref a :: vs) F hr hb hd hx I2 (.cons rfl r) q2
/-- o.m() -/
theorem pe_meth0 {pl : Sem Bool} (he : PE X o ta) (c : Cls X.K C) (hm : Meth X.K C m f) (F : FnOk X.prog X.w X.K X.mg X.base CX k f fd ps sp) (hr : Room k X.A) (hb : Binds X.K fd ps ds) (hd : Vals dvs ds) (hx : Passes CX X E)
    (ht : eval (.Call (.Attribute o m apos) [] [] pos) X.env = (do
      let ov ← eval o X.env
      standAt apos.atName
      let (f, first) ← holding [ov] (getMethod ov m pl)
      callWith pos f first (backTo pos (starEach [] X.env)) (backToKw pos (keywordEach [] X.env))) := by rfl) :
    PE X (.Call (.Attribute o m apos) [] [] pos) (tMeth C m sp dvs E ta tNil) := by
  intro pins s σ H Q I h
  refine PySem.W.methodCall_KW (pl := pl) (thn (he pins s σ H _ I h) fun u s1 ⟨x, H1, I1, rx, a, dx, fs, ex, ea, l, q⟩ => ?_) ht
  subst ex
  obtain rfl : u = Value.ref a := rx
  refine getmeth_ok I1 ea c hm l ?_
  exact PySem.W.callWith_K0 (first := [.ref a]) I1.kIn hm.kp (run_fn (us := [.ref a]) (vs := [.ref a]) F hr hb hd hx I1 (.cons rfl .nil) q)

/-- what a class must have to be made -/
structure Mk (K : PySem.W.Frag) (C f : Addr) : Prop where
  makes : PySem.W.makesIn K C = true
  init : PySem.W.findIn K (.ref C) "__init__" = some (some (.ref f))
  fn : PySem.W.isFn K (.ref f) = true
  kp : PySem.W.keepIn K (.ref C) = true

theorem run_make {pins : List (Addr × Obj)} {σ : St} {H : Hp} {s : Shared} {Q : VK} {us : List Value} {vs : List V} (M : Mk X.K C f) (F : FnOk X.prog X.w X.K X.mg X.base CX k f fd ps sp) (hr : Room (k + 1) X.A) (hb : Binds X.K fd ps ds) (hd : Vals dvs ds)
    (hx : Passes CX X E) (I : Inv X pins σ H s) (r : Vals vs us)
    (h : ∀ x dx, H x = none → H dx = none → dx ≠ x → sp (.ref x :: (vs ++ dvs)) (upd (upd H dx (.own x)) x (.ins C dx [])) (fun v H2 => v = .non ∧ Q (.ref x) H2) E) :
    wpAny (model X.prog X.w) X.A (call (.ref C) us) (EP X pins σ Q) X.xe s := by
  have hq := h (s.heap.objs.size + 1) s.heap.objs.size (I.hok.fresh (Nat.le_succ _)) (I.hok.fresh (Nat.le_refl _)) (Nat.ne_of_lt (Nat.lt_succ_self _))
  have I2 := Inv.made (C := C) I
  have r2 : Vals (V.ref (s.heap.objs.size + 1) :: (vs ++ dvs)) (Value.ref (s.heap.objs.size + 1) :: (us ++ ds)) := .cons rfl (r.append hd)
  have hl : (Value.ref (s.heap.objs.size + 1) :: us ++ ds).length = ps.length := by
    have e := r2.length
    rw [F.len _ _ _ _ hq] at e
    exact e.symm
  refine wpAny_call (make_map (f := f) I.kIn M.makes M.init (beq_iff_eq.mp M.fn) (codeAny_mono (F.run _ X.stack _ _ ⟨Value.ref (s.heap.objs.size + 1) :: us, []⟩ (Value.ref (s.heap.objs.size + 1) :: (us ++ ds)) _ _ E (hr.make C us [])
    (I2.env0.make C us []) (hb _ (Value.ref (s.heap.objs.size + 1) :: us) I2.kIn hl) r2 hq) fun r s' hq' => ?_))
  cases r with
  | error e => exact hx pins σ _ _ e s' I2 hq'
  | ok fl =>
    cases fl with
    | ret u =>
      obtain ⟨v, H', I3, rv, ev, q3⟩ := I2.after hq'
      subst ev
      exact ⟨rv, ⟨V.ref (s.heap.objs.size + 1), H', I3, rfl, q3⟩⟩
    | next => exact False.elim hq'
    | brk => exact False.elim hq'
    | cont => exact False.elim hq'
theorem pe_make (M : Mk X.K C f) (F : FnOk X.prog X.w X.K X.mg X.base CX k f fd ps sp) (hr : Room (k + 1) X.A) (hg : Gl X x) (hm : X.mg x = some (.ref C)) (hb : Binds X.K fd ps ds) (hd : Vals dvs ds) (hx : Passes CX X E)
    (ha : PA X (e :: es) t) (hdb : (x == ("__debug__" : Str)) = false := by decide) (he : starEach (e :: es) X.env = (false, eval e X.env) :: starEach es X.env := by rfl) (hpl : (backTo pos (starEach es X.env)).any (·.1) = false := by rfl) :
    PE X (.Call (.Name x p) (e :: es) [] pos) (tMake C sp dvs E t) := by
  intro pins s σ H Q I h
  refine wpAny_Call_Name_kw (ld_glob I hg hm ?_ hdb)
  refine PySem.W.callWith_K (h₀ := X.base) I.ok.mod.kin M.kp (thn (ha pos pins s σ H _ I h) fun us s1 ⟨vs, H1, I1, r, q⟩ => ⟨I1.kIn, ?_⟩) he hpl
  exact run_make M F hr hb hd hx I1 r q
theorem pe_make0 (M : Mk X.K C f) (F : FnOk X.prog X.w X.K X.mg X.base CX k f fd ps sp) (hr : Room (k + 1) X.A) (hg : Gl X x) (hm : X.mg x = some (.ref C)) (hb : Binds X.K fd ps ds) (hd : Vals dvs ds) (hx : Passes CX X E)
    (hdb : (x == ("__debug__" : Str)) = false := by decide) : PE X (.Call (.Name x p) [] [] pos) (tMake C sp dvs E tNil) := by
  intro pins s σ H Q I h
  refine wpAny_Call_Name_kw (ld_glob I hg hm ?_ hdb)
  exact PySem.W.callWith_K0 I.kIn M.kp (run_make (us := []) M F hr hb hd hx I .nil h)
end

/-! ### keywords -/
/-- the values of the keywords, from the left -/
def PK (X : Cx) (kws : List Keyword) (t : TA) : Prop :=
  ∀ (pos : Pos) (pins : List (Addr × Obj)) (s : Shared) (σ : St) (H : Hp) (Q : List V → Hp → Prop), Inv X pins σ H s → t σ H Q → wpAny (model X.prog X.w) X.A (evalAll ((backToKw pos (keywordEach kws X.env)).map (·.2))) (AP X pins σ Q) X.xe s
section
variable {X : Cx} {CX : CXT} {k : Nat} {f C : Addr} {fd : FuncData} {ps ks : List Str} {sp : Sp} {E : XK} {x m : Str} {p pos apos kpos : Pos} {e o : Expr} {es : List Expr} {kws : List Keyword} {te ta : TE} {t tk : TA} {nm : Option Str}
theorem pk_nil : PK X [] tNil := fun _ _ _ _ H Q I h => wpAny_evalAll_nil ⟨[], H, I, .nil, h⟩
theorem pk_cons (ha : PE X e te) (hr : PK X kws t) : PK X (⟨nm, e, kpos⟩ :: kws) (tCons te t) := by
  intro pos pins s σ H Q I h
  show wpAny _ _ (evalAll ((do let v ← eval e X.env; standAt pos; pure v) :: (backToKw pos (keywordEach kws X.env)).map (·.2))) _ _ s
  refine wpAny_evalAll_cons (wpAny_bind (thn (ha pins s σ H _ I h) fun u s1 ⟨x, H1, I1, r1, q1⟩ => wpAny_bind (wpAny_standAt (wpAny_pure ?_))))
  exact thn (hr pos pins s1 σ H1 _ I1 q1) fun us s2 ⟨xs, H2, I2, r2, q2⟩ => ⟨x :: xs, H2, I2, .cons r1 r2, q2⟩

/-- how a call with keywords binds: g puts the positional values us and the keywords' values ws (names ks) in the parameters' order, defaults among them -/
structure KBinds (K : PySem.W.Frag) (fd : FuncData) (ps ks : List Str) (g : List Value → List Value → List Value) (gV : List V → List V → List V) : Prop where
  to : ∀ (s : Shared) (us ws : List Value), K.In s.heap → (g us ws).length = ps.length → BindsTo s fd ⟨us, ks.zip ws⟩ (ps.zip (g us ws))
  rel : ∀ {vs : List V} {us : List Value} {zs : List V} {ws : List Value}, Vals vs us → Vals zs ws → Vals (gV vs zs) (g us ws)
def tCallK (sp : Sp) (gV : List V → List V → List V) (E : XK) (t tk : TA) : TE := fun σ H Q => t σ H fun vs H1 => tk σ H1 fun zs H2 => sp (gV vs zs) H2 Q E
variable {g : List Value → List Value → List Value} {gV : List V → List V → List V}
theorem run_fnk {pins : List (Addr × Obj)} {σ : St} {H : Hp} {s : Shared} {Q : VK} {us ws : List Value} {vs zs : List V} (F : FnOk X.prog X.w X.K X.mg X.base CX k f fd ps sp) (hr : Room k X.A) (hb : KBinds X.K fd ps ks g gV) (hx : Passes CX X E)
    (I : Inv X pins σ H s) (r : Vals vs us) (rz : Vals zs ws) (h : sp (gV vs zs) H Q E) : wpAny (model X.prog X.w) X.A (call (.ref f) us (ks.zip ws)) (EP X pins σ Q) X.xe s := by
  have r2 := hb.rel r rz
  have hl : (g us ws).length = ps.length := by rw [← r2.length]; exact F.len _ _ _ _ h
  refine wpAny_call (codeAny_mono (F.run X.A X.stack s H ⟨us, ks.zip ws⟩ (g us ws) (gV vs zs) Q E hr I.env0 (hb.to s us ws I.kIn hl) r2 h) fun r s' hq => ?_)
  cases r with
  | error e => exact hx pins σ H s e s' I hq
  | ok fl =>
    cases fl with
    | ret u => exact I.after hq
    | next => exact False.elim hq
    | brk => exact False.elim hq
    | cont => exact False.elim hq
/-- f(e, .., k = v, ..) -/
theorem pe_callK (F : FnOk X.prog X.w X.K X.mg X.base CX k f fd ps sp) (hr : Room k X.A) (hg : Gl X x) (hm : X.mg x = some (.ref f)) (hk : PySem.W.keepIn X.K (.ref f) = true) (hb : KBinds X.K fd ps ks g gV) (hx : Passes CX X E)
    (ha : PA X (e :: es) t) (hkw : PK X kws tk) (hall : (backToKw pos (keywordEach kws X.env)).all (·.1.isSome) = true := by rfl) (hks : (backToKw pos (keywordEach kws X.env)).filterMap (·.1) = ks := by rfl)
    (hdb : (x == ("__debug__" : Str)) = false := by decide) (he : starEach (e :: es) X.env = (false, eval e X.env) :: starEach es X.env := by rfl)
    (hpl : ((backTo pos (starEach (e :: es) X.env)).any (·.1) || (backToKw pos (keywordEach kws X.env)).any (·.1.isNone)) = false := by rfl) :
    PE X (.Call (.Name x p) (e :: es) kws pos) (tCallK sp gV E t tk) := by
  intro pins s σ H Q I h
  refine wpAny_Call_Name_kw (ld_glob I hg hm ?_ hdb)
  refine PySem.W.callWith_KW (h₀ := X.base) I.ok.mod.kin hk hall (thn (ha pos pins s σ H _ I h) fun us s1 ⟨vs, H1, I1, r, q⟩ => ?_) hpl he
  refine thn (hkw pos pins s1 σ H1 _ I1 q) fun ws s2 ⟨zs, H2, I2, rz, q2⟩ => ⟨I2.kIn, ?_⟩
  rw [hks]
  exact run_fnk F hr hb hx I2 r rz q2
end

/-! ### a def's body keeps its promise -/
/-- names: the parameters first -/
structure FnScope (N P : List Str) (sc : Scope) : Prop where
  kind : sc.kind = .function
  co : sc.isCoroutine = false
  gen : sc.isGenerator = false
  nd : N.Nodup
  pre : N.take P.length = P
  par : ∀ x ∈ P, sc.names.lookup x = some .local ∨ sc.names.lookup x = some .cell
  nofree : ∀ y ∈ sc.names, y.2 ≠ .free

theorem bindL_out {kindOf : Str → Option NameKind} {x : Str} : ∀ {binds : List (Str × Value)} {m : Str → Option Value}, (∀ v, (x, v) ∉ binds) → bindL kindOf binds m x = m x
  | [], _, _ => rfl
  | (n, v) :: r, m, h => by
    unfold bindL
    rw [bindL_out fun w hw => h w (List.mem_cons_of_mem _ hw)]
    split
    · have : x ≠ n := by rintro rfl; exact h v List.mem_cons_self
      simp [this]
    · rfl
theorem bindC_out {kindOf : Str → Option NameKind} {x : Str} : ∀ {binds : List (Str × Value)} {m : Str → Option Value}, (∀ v, (x, v) ∉ binds) → bindC kindOf binds m x = m x
  | [], _, _ => rfl
  | (n, v) :: r, m, h => by
    unfold bindC
    rw [bindC_out fun w hw => h w (List.mem_cons_of_mem _ hw)]
    split
    · rfl
    · have : x ≠ n := by rintro rfl; exact h v List.mem_cons_self
      simp [this]
theorem bindL_get {kindOf : Str → Option NameKind} {x : Str} {v : Value} : ∀ {P : List Str} {vs : List Value} {i : Nat} {m : Str → Option Value}, P.Nodup → P[i]? = some x → vs[i]? = some v → kindOf x = some .local →
    bindL kindOf (P.zip vs) m x = some v
  | [], _, _, _, _, h, _, _ => by simp at h
  | _ :: _, [], _, _, _, _, h, _ => by simp at h
  | p :: P, w :: vs, 0, m, nd, h1, h2, hk => by
    simp at h1 h2; subst h1; subst h2
    show bindL kindOf ((p, w) :: P.zip vs) m p = _
    unfold bindL
    rw [bindL_out fun v hv => (List.nodup_cons.mp nd).1 (List.of_mem_zip hv).1, if_pos hk]
    simp
  | p :: P, w :: vs, i + 1, m, nd, h1, h2, hk => by
    show bindL kindOf ((p, w) :: P.zip vs) m x = _
    unfold bindL
    exact bindL_get (i := i) (List.nodup_cons.mp nd).2 (by simpa using h1) (by simpa using h2) hk
theorem bindC_get {kindOf : Str → Option NameKind} {x : Str} {v : Value} : ∀ {P : List Str} {vs : List Value} {i : Nat} {m : Str → Option Value}, P.Nodup → P[i]? = some x → vs[i]? = some v → kindOf x ≠ some .local →
    bindC kindOf (P.zip vs) m x = some v
  | [], _, _, _, _, h, _, _ => by simp at h
  | _ :: _, [], _, _, _, _, h, _ => by simp at h
  | p :: P, w :: vs, 0, m, nd, h1, h2, hk => by
    simp at h1 h2; subst h1; subst h2
    show bindC kindOf ((p, w) :: P.zip vs) m p = _
    unfold bindC
    rw [bindC_out fun v hv => (List.nodup_cons.mp nd).1 (List.of_mem_zip hv).1, if_neg hk]
    simp
  | p :: P, w :: vs, i + 1, m, nd, h1, h2, hk => by
    show bindC kindOf ((p, w) :: P.zip vs) m x = _
    unfold bindC
    exact bindC_get (i := i) (List.nodup_cons.mp nd).2 (by simpa using h1) (by simpa using h2) hk

/-- the names' values at the entry -/
def start (N : List Str) (vs : List V) : St := vs.map some ++ List.replicate (N.length - vs.length) none

/-- the context of a def's body, at its entry; an exception leaves the frame, then lies as CX says -/
def cxOf (CX : CXT) (P : Program) (w : World) (K : PySem.W.Frag) (mg : Str → Option Value) (base : Heap) (N : List Str) (qual : Str) (scope : Scope) (f : Addr) (cd : Value) (A : Around) (outer : List Env) (s : Shared) (H : Hp) (E : XK) : Cx where
  prog := P
  w := w
  K := K
  mg := mg
  base := base
  A := A.deeper (envOfC qual scope s.heap.objs.size f cd)
  N := N
  s₀ := s
  H₀ := H
  env := envOfC qual scope s.heap.objs.size f cd
  outer := outer
  stack := envOfC qual scope s.heap.objs.size f cd :: outer
  ex := []
  calm := true
  fn := fun _ => true
  pn := []
  xe := fun e s' => wpAny (model P w) (A.deeper (envOfC qual scope s.heap.objs.size f cd)) (leaving (envOfC qual scope s.heap.objs.size f cd) e) (fun _ s'' => CX outer H s E e s'') (fun e' s'' => CX outer H s E e' s'') s'

theorem cell_has {sc : Scope} {n : Nat} {x : Str} (h : sc.names.lookup x = some .cell) : ∃ c, (cellsFrom n sc.names []).lookup x = some c := by
  have q := PySem.W.cellsFrom_some sc.names n [] (.inl h)
  exact Option.isSome_iff_exists.mp q

theorem inv_start {CX : CXT} {P : Program} {w : World} {K : PySem.W.Frag} {mg : Str → Option Value} {base : Heap} {N ps : List Str} {qual : Str} {scope : Scope} {f : Addr} {cd : Value} {A : Around} {outer : List Env} {s s1 : Shared} {H : Hp} {E : XK} {us : List Value} {vs : List V}
    (S : FnScope N ps scope) (hd : A.handled = none) (e0 : Env0 P w K mg base A outer s H) (hl : vs.length = ps.length) (r : Vals vs us)
    (x : InCallC s s.heap.objs.size (bindL (envOfC qual scope s.heap.objs.size f cd).kindOf (ps.zip us) fun _ => none) (cellsFrom (s.heap.objs.size + 1) scope.names []) (bindC (envOfC qual scope s.heap.objs.size f cd).kindOf (ps.zip us) fun _ => none) s1) :
    Inv (cxOf CX P w K mg base N qual scope f cd A outer s H E) [] (start N vs) H s1 := by
  have hpl : ps.length ≤ N.length := by have := congrArg List.length S.pre; rw [List.length_take] at this; omega
  obtain ⟨h1, tk, rfl, hk⟩ := x.done
  have noA : ∀ b : Addr, b ∉ (cxOf CX P w K mg base N qual scope f cd A outer s H E).ex := fun b z => absurd (show b ∈ ([] : List Addr) from z) (by simp)
  refine ⟨⟨e0.mod, S.kind, rfl, rfl, Nat.le_refl _, fun y z c h1 h2 => ?_, fun y hy => ?_, fun y c _ h => ?_, fun _ => hd, Around.frames_deeper e0.frames, .inr ⟨rfl, rfl⟩, fun b z => absurd z (noA b), e0.bs, e0.bsz, fun b _ _ => noA b, fun b z => absurd z (noA b), e0.funs, e0.frf⟩,
    rfl, e0.bare, Un.kept hk, ⟨_, x.toInCall.ns, fun i y v h1 h2 h3 => ?_⟩, fun y c h => ⟨_, x.cell y c h⟩, e0.hok.fresh (Nat.le_refl _), fun y c h => ?_, fun p hp => absurd (show p ∈ ([] : List (Addr × Obj)) from hp) (by simp), e0.hok.kept hk, ?_⟩
  · exact name_of_addr x.apart (PySem.mem_of_lookup h1) (PySem.mem_of_lookup h2)
  · have hy : scope.names.lookup y = some .cell ∨ scope.names.lookup y = some .free := hy
    rcases hy with hy | hy
    · exact cell_has hy
    · exact absurd rfl (S.nofree _ (PySem.mem_of_lookup hy))
  · exact Nat.le_of_lt (x.above y c (PySem.mem_of_lookup h))
  · have hi : i < vs.length := by
      unfold start at h2
      by_cases hi : i < vs.length
      · exact hi
      · rw [List.getElem?_append_right (by simpa using hi)] at h2
        rw [List.getElem?_replicate] at h2
        split at h2 <;> cases h2
    have ha : vs[i]? = some v := by
      unfold start at h2
      rw [List.getElem?_append_left (by simpa using hi), List.getElem?_map] at h2
      cases e : vs[i]? with
      | none => rw [e] at h2; cases h2
      | some a => rw [e] at h2; cases h2; rfl
    obtain ⟨u, hu, rv⟩ := r.get ha
    have hp : ps[i]? = some y := by
      rw [← S.pre, List.getElem?_take_of_lt (by omega)]; exact h1
    have ndP : ps.Nodup := by rw [← S.pre]; exact S.nd.sublist (List.take_sublist _ _)
    refine ⟨u, rv, ?_⟩
    rcases S.par y (List.mem_of_getElem? hp) with k | k
    · exact .inl ⟨k, bindL_get ndP hp hu k⟩
    · obtain ⟨c, e⟩ := cell_has (n := s.heap.objs.size + 1) k
      refine .inr ⟨.inl k, c, e, ?_⟩
      have q := x.cell y c e
      rw [bindC_get ndP hp hu (by show scope.names.lookup y ≠ _; rw [k]; decide)] at q
      exact q
  · exact e0.hok.fresh (Nat.le_of_lt (x.above y c (PySem.mem_of_lookup h)))
  · unfold start
    show _ = N.length
    rw [List.length_append, List.length_map, List.length_replicate]
    omega

/-- THE RULE: a def (or a method) of the text, by its body. The body's reading t is chosen for each entry; it is run at the parameters' values -/
theorem fn_of {CX : CXT} {P : Program} {w : World} {K : PySem.W.Frag} {mg : Str → Option Value} {base : Heap} {k : Nat} {f : Addr} {name qual : Str} {params : Arguments} {body : List Stmt} {scope : Scope} {dV kV doc pm cdv ct oc : Value} {an od : Option Addr}
    {osl : Array (Option Value)} {N ps : List Str} {sp : Sp} (lk : K.lookup f = some ⟨oc, od, .func (PySem.W.fnOf name qual params body scope dV kV doc pm an cdv ct), osl⟩) (hcd : PySem.W.codeIn K cdv qual = true) (S : FnScope N ps scope)
    (len : ∀ vs H Q E, sp vs H Q E → vs.length = ps.length)
    (hbody : ∀ (A : Around) (outer : List Env) (s : Shared) (H : Hp) (vs : List V) (Q : VK) (E : XK), Room k (A.deeper (envOfC qual scope s.heap.objs.size f cdv)) → sp vs H Q E →
      ∃ t, PSs (cxOf CX P w K mg base N qual scope f cdv A outer s H E) body t ∧ t { nx := fun _ H' => Q .non H', rt := Q } (start N vs) H) :
    FnOk P w K mg base CX (k + 1) f (PySem.W.fnOf name qual params body scope dV kV doc pm an cdv ct) ps sp := by
  refine ⟨len, fun A outer s H args us vs Q E hr e0 hb r hsp => ?_⟩
  have hl := len _ _ _ _ hsp
  have KX : K.In s.heap := e0.mod.kin.keeps fun b o e => (e0.bs b o e).1
  have lim : s.heap.NoLimit := e0.mod.nolimit.keeps fun b o e => (e0.bs b o e).1
  have hkind : ∀ y ∈ ps.zip us, scope.names.lookup y.1 = some .local ∨ (scope.names.lookup y.1 = some .cell ∧ ((cellsFrom (s.heap.objs.size + 1) scope.names []).lookup y.1).isSome = true) := fun ⟨n, v⟩ hy => by
    rcases S.par n (List.of_mem_zip hy).1 with q | q
    · exact .inl q
    · exact .inr ⟨q, PySem.W.cellsFrom_some _ _ _ (.inl q)⟩
  refine codeAny_call_function hr.depth (KX _ _ lk) rfl S.co S.gen rfl (PySem.W.codeRec_of KX hcd) (hb _ _ _ _ ?_)
  refine wpAny_newFunctionEnv_cells S.kind hkind fun env he s1 x => ?_
  subst he
  refine ⟨lim.keeps x.toInCall.keep, codeAny_func ?_⟩
  obtain ⟨t, ht, hq⟩ := hbody A outer s H vs Q E (hr.deeper _) hsp
  have I : Inv (cxOf CX P w K mg base N qual scope f cdv A outer s H E) [] (start N vs) H s1 := inv_start S hr.hd e0 hl r x
  refine wpAny_mono (ht [] s1 (start N vs) H _ I hq) (fun fl s' hs => ?_) fun e s' hs => hs
  have fin : ∀ {σ' : St} {H' : Hp} {v : V} {u : Value}, Inv (cxOf CX P w K mg base N qual scope f cdv A outer s H E) [] σ' H' s' → RelV v u → Q v H' → CE outer P w H s Q u s' :=
    fun {σ' H' v u} J rv q => ⟨v, H', J.os, J.bare, J.base, J.hok, rv, q⟩
  cases fl with
  | ret u =>
    obtain ⟨v, σ', H', J, rv, q⟩ := hs
    exact fin J rv q
  | next =>
    obtain ⟨σ', H', J, q⟩ := hs
    exact fin (v := V.non) (u := Value.none) J rfl q
  | brk =>
    obtain ⟨_, _, _, q⟩ := hs
    exact False.elim q
  | cont =>
    obtain ⟨_, _, _, q⟩ := hs
    exact False.elim q
end L2

namespace L2
open PySem PySem.Spec PyProof.Rows
section
variable {X : Cx} {x : Str} {p pos : Pos} {e : Expr} {es : List Expr} {t : TA} {id T : String} {r : List V → Hp → VK → Prop}

def tCB (r : List V → Hp → VK → Prop) (t : TA) : TE := fun σ H Q => t σ H fun vs H1 => r vs H1 Q
/-- f(e, ..), f a built-in function -/
theorem pe_callB (hc : CallR X (.builtin id) r) (hg : Gl X x) (hm : X.mg x = none) (hv : bootBuiltins x = some (.builtin id)) (ha : PA X (e :: es) t) (hn : x ≠ "__name__" := by decide) (hdb : (x == ("__debug__" : Str)) = false := by decide)
    (he : starEach (e :: es) X.env = (false, eval e X.env) :: starEach es X.env := by rfl) (hpl : (backTo pos (starEach es X.env)).any (·.1) = false := by rfl) : PE X (.Call (.Name x p) (e :: es) [] pos) (tCB r t) := by
  intro pins s σ H Q I h
  refine wpAny_Call_Name_kw (ld_blt I hg hm hv ?_ hn hdb)
  exact PyProof.Rows.callWith_builtin1 (thn (ha pos pins s σ H _ I h) fun us s1 ⟨vs, H1, I1, r1, q1⟩ => hc pins s1 σ H1 vs us Q I1 r1 q1) he hpl
/-- T(e, ..), T a built-in type -/
theorem pe_callTy (hc : CallR X (.type T) r) (hg : Gl X x) (hm : X.mg x = none) (hv : bootBuiltins x = some (.type T)) (ha : PA X (e :: es) t) (hn : x ≠ "__name__" := by decide) (hdb : (x == ("__debug__" : Str)) = false := by decide)
    (he : starEach (e :: es) X.env = (false, eval e X.env) :: starEach es X.env := by rfl) (hpl : (backTo pos (starEach es X.env)).any (·.1) = false := by rfl) : PE X (.Call (.Name x p) (e :: es) [] pos) (tCB r t) := by
  intro pins s σ H Q I h
  refine wpAny_Call_Name_kw (ld_blt I hg hm hv ?_ hn hdb)
  exact PyProof.Rows.callWith_type1 (thn (ha pos pins s σ H _ I h) fun us s1 ⟨vs, H1, I1, r1, q1⟩ => hc pins s1 σ H1 vs us Q I1 r1 q1) he hpl
/-- T() -/
theorem pe_callTy0 (hc : CallR X (.type T) r) (hg : Gl X x) (hm : X.mg x = none) (hv : bootBuiltins x = some (.type T)) (hn : x ≠ "__name__" := by decide) (hdb : (x == ("__debug__" : Str)) = false := by decide) :
    PE X (.Call (.Name x p) [] [] pos) (tCB r tNil) := by
  intro pins s σ H Q I h
  refine wpAny_Call_Name_kw (ld_blt I hg hm hv ?_ hn hdb)
  exact PyProof.Rows.callWith_type0 (hc pins s σ H [] [] Q I .nil h)
end
end L2

namespace HT
open PySem PyProof.Rows

/-- t < u of tuples of ints -/
def lexLt : List Int → List Int → Bool
  | [], [] => false
  | [], _ :: _ => true
  | _ :: _, [] => false
  | x :: xs, y :: ys => if x = y then lexLt xs ys else decide (x < y)
theorem lexLt_cons (x y : Int) (xs ys : List Int) : lexLt (x :: xs) (y :: ys) = if x = y then lexLt xs ys else decide (x < y) := rfl
theorem lexLt_nil_nil : lexLt [] [] = false := rfl
theorem lexLt_nil_cons (y : Int) (ys : List Int) : lexLt [] (y :: ys) = true := rfl
theorem lexLt_cons_nil (x : Int) (xs : List Int) : lexLt (x :: xs) [] = false := rfl

theorem eqAt_int (A : Around) (s : Shared) (a : Int) (t : Tok) (c : Int) (u : Tok) : ∃ e, SeqAt.EqAt A s (.int a t) (.int c u) e ∧ (e = true ↔ a = c) :=
  ⟨(a == c), SeqAt.EqAt.int_int a t c u, by simp⟩
theorem rcLt_int (A : Around) (s : Shared) (a : Int) (t : Tok) (c : Int) (u : Tok) (prog : Program) (w : World) (E : Value → Shared → Prop) (Q : Value → Shared → Prop) (h : Q (.bool (decide (a < c))) s) :
    wpAny (model prog w) A (richCompare .Lt (.int a t) (.int c u)) Q E s :=
  (PyProof.Rows.lt_int h : wpAny (model prog w) A (compareOp .Lt (.int a t) (.int c u)) Q E s)

section
open PySem.SeqAt
open PySem.AutoSeq1 (wpAny_loadPart')
open PySem.MeetsSeq PySem.MeetsSeq2 PySem.MeetsSeq3

theorem tuple_lt_ints (l b : Addr) (items items2 : Array Value) (n n2 : Nat) (dd dd2 : Option Addr) (sl sl2 : Array (Option Value)) (ns ms : List Int) (hi : IntsAre items.toList ns) (hj : IntsAre items2.toList ms) :
    Meets (Builtin.«tuple.__lt__» ⟨[.ref l, .ref b], []⟩)
      (fun _ R s => s.heap.get? l = some { cls := .type "tuple", dict := dd, data := .seq items n, slots := sl } ∧ s.heap.get? b = some { cls := .type "tuple", dict := dd2, data := .seq items2 n2, slots := sl2 } ∧
        R (.ok (.ret (.bool (lexLt ns ms)))) s) :=
  .of_wp fun prog w A R s h => by
    obtain ⟨hp, g, d, tk, os⟩ := s; obtain ⟨hl, hb, h⟩ := h
    have f2 := AutoSeq1.sub_tuple_tuple
    have z1 : items.size = ns.length := by rw [← hi.length]; simp
    have z2 : items2.size = ms.length := by rw [← hj.length]; simp
    wp_walk using wpAny_loadPart' hl, wpAny_loadPart' hb, wpAny_forIn_list _ (fun rest b s' => b.1 = none ∧ s' = ⟨hp, g, d, tk, os⟩ ∧ ∃ (vs ws : List Value) (ns' ms' : List Int), rest = vs.zip ws ∧
      IntsAre vs ns' ∧ IntsAre ws ms' ∧ ns'.length + items2.size = ms'.length + items.size ∧ R (.ok (.ret (.bool (lexLt ns' ms')))) ⟨hp, g, d, tk, os⟩) _
    case turn =>
      rintro ⟨y, x⟩ rest b s' ⟨hb', rfl, vs, ws, ns', ms', hz, hvi, hwi, hlen, hR⟩
      cases hvi with
      | nil => rw [List.zip_nil_left] at hz; cases hz
      | cons a t hvi' =>
        cases hwi with
        | nil => rw [List.zip_nil_right] at hz; cases hz
        | cons c u hwi' =>
          rw [List.zip_cons_cons] at hz
          injection hz with hyx hrest
          injection hyx with hy hx
          subst hy hx
          rw [lexLt_cons] at hR
          simp only [List.length_cons] at hlen
          obtain ⟨e, he, hiff⟩ := eqAt_int A.in1 ⟨hp, g, d, tk, os⟩ a t c u
          refine wpAny_bind (he prog w _ _ ?_)
          cases e with
          | true =>
            rw [if_pos (hiff.mp rfl)] at hR
            wp_walk
            exact ⟨rfl, rfl, _, _, _, _, hrest, hvi', hwi', by omega, hR⟩
          | false =>
            rw [if_neg (fun q => absurd (hiff.mpr q) Bool.false_ne_true)] at hR
            have hri := rcLt_int A.in1 ⟨hp, g, d, tk, os⟩ a t c u prog w
            wp_walk using hri
            exact ⟨_, rfl, by simpa using hR⟩
    case fin =>
      rintro ⟨b1, b2⟩ s' ⟨hb', rfl, vs, ws, ns', ms', hz, hvi, hwi, hlen, hR⟩
      simp only at hb'
      subst hb'
      have hv : lexLt ns' ms' = decide (items.size < items2.size) := by
        cases hvi with
        | nil =>
          cases hwi with
          | nil =>
            simp only [List.length_nil] at hlen
            rw [lexLt_nil_nil]
            exact (decide_eq_false (by omega)).symm
          | cons c u hw =>
            simp only [List.length_nil, List.length_cons] at hlen
            rw [lexLt_nil_cons]
            exact (decide_eq_true (by omega)).symm
        | cons a t hv =>
          cases hwi with
          | nil =>
            simp only [List.length_nil, List.length_cons] at hlen
            rw [lexLt_cons_nil]
            exact (decide_eq_false (by omega)).symm
          | cons c u hw =>
            rw [List.zip_cons_cons] at hz
            cases hz
      rw [hv] at hR
      wp_walk
      exact ⟨_, rfl, by simpa [Builtin.Tuple.tupleCompareSizes] using hR⟩
    case h =>
      exact ⟨rfl, rfl, items.toList, items2.toList, ns, ms, rfl, hi, hj, by omega, h⟩
end

section
variable {prog : Program} {w : World} {A : Around} {E : Value → Shared → Prop} {s : Shared}

theorem lt_tupInts {l b : Addr} {items items2 : Array Value} {ns ms : List Int} {Q : Value → Shared → Prop} (hl : IsTup s.heap l items) (hb : IsTup s.heap b items2) (hi : IntsAre items.toList ns) (hj : IntsAre items2.toList ms)
    (hu : A.units < cLine) (h : Q (.bool (lexLt ns ms)) s) : wpAny (model prog w) A (compareOp .Lt (.ref l) (.ref b)) Q E s := by
  obtain ⟨⟨cls, dd, data, sl⟩, ho, hc, n, hd⟩ := id hl
  obtain ⟨⟨cls2, dd2, data2, sl2⟩, ho2, hc2, n2, hd2⟩ := id hb
  simp only at hc hd hc2 hd2
  subst hc hd hc2 hd2
  exact richCompare_meets_room (op := .Lt) ⟨_, ho, rfl⟩ ⟨_, ho2, rfl⟩ PySem.F.slot_tuple_lt PySem.F.entry_tuple_lt (PySem.F.args_tuple_lt_2 _ _) (tuple_lt_ints l b items items2 n n2 dd dd2 sl sl2 ns ms hi hj)
    ⟨ho, ho2, show Value.bool (lexLt ns ms) ≠ Value.notImplemented ∧ Q (.bool (lexLt ns ms)) s from ⟨(fun x => nomatch x), h⟩⟩ hu

/-- t + u, t not empty -/
theorem cat_tup {t b : Addr} {vs ws : List Value} {Q : Value → Shared → Prop} (ht : IsTup s.heap t vs.toArray) (hb : IsTup s.heap b ws.toArray) (hv : vs ≠ [])
    (h1 : ws = [] → Q (.ref t) s) (h2 : ws ≠ [] → Q (.ref s.heap.objs.size) { s with heap := s.heap.push { cls := .type "tuple", data := .seq (vs ++ ws).toArray } })
    (hsz : vs.length + ws.length ≤ sizeLine) : wpAny (model prog w) A (binaryOp .Add (.ref t) (.ref b)) Q E s := by
  obtain ⟨⟨cls, dd, data, sl⟩, ho, hc, n, hd⟩ := id ht
  obtain ⟨⟨cls2, dd2, data2, sl2⟩, ho2, hc2, n2, hd2⟩ := id hb
  simp only at hc hd hc2 hd2
  subst hc hd hc2 hd2
  have e : vs.toArray ++ ws.toArray = (vs ++ ws).toArray := by simp
  by_cases hw : ws = []
  · exact concat_meets ⟨_, ho, rfl⟩ ⟨_, ho2, rfl⟩ noFill_tuple_add seq_tuple_add PySem.F.slot_tuple_add PySem.F.entry_tuple_add (PySem.F.args_tuple_add_2 _ _)
      (tuple_addW1 t b vs.toArray ws.toArray n n2 dd dd2 sl sl2 (by simpa using hv) (by simp [hw])) ⟨ho, ho2, h1 hw⟩
  · refine concat_meets ⟨_, ho, rfl⟩ ⟨_, ho2, rfl⟩ noFill_tuple_add seq_tuple_add PySem.F.slot_tuple_add PySem.F.entry_tuple_add (PySem.F.args_tuple_add_2 _ _)
      (tuple_addW2 t b vs.toArray ws.toArray n n2 dd dd2 sl sl2 (by simpa using hv) (by simpa using hw) (by rw [List.size_toArray, List.size_toArray]; exact hsz)) ⟨ho, ho2, ?_⟩
    rw [e]
    exact h2 hw

/-! ### t[a:b], not the whole -/
/-- a slice's bound as a place among n (d where it is left out) -/
def sIx (n d : Nat) : Option Int → Nat
  | none => d
  | some v => if v < 0 then (v + (n : Int)).toNat else min v.toNat n
theorem sIx_none (n d : Nat) : sIx n d none = d := rfl
theorem sIx_nat (n d k : Nat) : sIx n d (some (k : Int)) = min k n := by
  show (if (k : Int) < 0 then ((k : Int) + (n : Int)).toNat else min (k : Int).toNat n) = min k n
  rw [if_neg (by omega), Int.toNat_natCast]
theorem sIx_le (n d : Nat) (hd : d ≤ n) (o : Option Int) : sIx n d o ≤ n := by
  cases o with
  | none => exact hd
  | some v =>
    show (if v < 0 then (v + (n : Int)).toNat else min v.toNat n) ≤ n
    by_cases hv : v < 0
    · rw [if_pos hv]; omega
    · rw [if_neg hv]; exact Nat.min_le_right _ _
theorem clip_eq (v : Int) (n d : Nat) : (if v < 0 then max (v + (n : Int)) 0 else min v (n : Int)) = ((sIx n d (some v) : Nat) : Int) := by
  show (if v < 0 then max (v + (n : Int)) 0 else min v (n : Int)) = (((if v < 0 then (v + (n : Int)).toNat else min v.toNat n) : Nat) : Int)
  by_cases hv : v < 0
  · simp only [if_pos hv]; omega
  · simp only [if_neg hv]; omega
theorem adjust_gen (lo hi : Option Int) (n : Nat) : Builtin.Slice.sliceAdjust lo hi 1 (n : Int) = (((sIx n 0 lo : Nat) : Int), ((sIx n n hi : Nat) : Int)) := by
  have h1 : ¬ ((1 : Int) < 0) := by omega
  unfold Builtin.Slice.sliceAdjust
  simp only [h1, if_false]
  refine Prod.ext ?_ ?_
  · cases lo with
    | none => rfl
    | some v => exact clip_eq v n 0
  · cases hi with
    | none => rfl
    | some v => exact clip_eq v n n
theorem places_gen (i j : Nat) : Builtin.Slice.slicePlaces (i : Int) (j : Int) 1 = j - i := by
  unfold Builtin.Slice.slicePlaces
  have h1 : (1 : Int) > 0 := by omega
  simp only [h1, if_true, Int.ediv_one]
  split <;> omega
theorem slicePart_ {v : Value} {o : Option Int} {Q : Option Int → Shared → Prop} (p : IsPart v o) (h : Q o s) : wpAny (model prog w) A (Builtin.Slice.slicePartIndex v) Q E s := by
  cases p with
  | none => exact slicePart_none h
  | int i t => exact slicePart_int h
theorem sliceApplied_gen {sl : Addr} {vl vu : Value} {lo hi : Option Int} {n : Nat} {Q : Int × Int × Nat → Shared → Prop} (hs : s.heap.IsSliceOf sl vl vu .none) (pl : IsPart vl lo) (pu : IsPart vu hi)
    (h : Q (((sIx n 0 lo : Nat) : Int), 1, sIx n n hi - sIx n 0 lo) s) : wpAny (model prog w) A (Builtin.Slice.sliceApplied (.ref sl) (pure (n : Int))) Q E s := by
  obtain ⟨os, hos, hcs, hds⟩ := id hs
  unfold Builtin.Slice.sliceApplied Builtin.Slice.sliceFields
  refine wpAny_bind (wpAny_bind (wpAny_field hos hds (x := vl) rfl (wpAny_bind (wpAny_field hos hds (x := vu) rfl (wpAny_bind (wpAny_field hos hds (x := .none) rfl (wpAny_pure ?_)))))))
  refine wpAny_bind (slicePart_none ?_)
  show wpAny _ _ (if ((1 : Int) == 0) = true then _ else _) _ _ s
  rw [if_neg (by decide)]
  refine wpAny_bind (slicePart_ pl (wpAny_bind (slicePart_ pu (wpAny_bind (wpAny_pure ?_)))))
  show wpAny _ _ (match Builtin.Slice.sliceAdjust lo hi 1 (n : Int) with | (lo, hi) => pure (lo, (1 : Int), Builtin.Slice.slicePlaces lo hi 1)) _ _ s
  rw [adjust_gen lo hi n]
  show wpAny _ _ (pure (((sIx n 0 lo : Nat) : Int), (1 : Int), Builtin.Slice.slicePlaces ((sIx n 0 lo : Nat) : Int) ((sIx n n hi : Nat) : Int) 1)) _ _ s
  rw [places_gen]
  exact wpAny_pure h
theorem pick_gen (xs : Array Value) (i k : Nat) : ((List.range k).filterMap fun (m : Nat) => xs[((i : Int) + (m : Int) * 1).toNat]?).toArray = ((xs.toList.drop i).take k).toArray := by
  have e : (fun (m : Nat) => xs[((i : Int) + (m : Int) * 1).toNat]?) = fun m => xs[i + m]? := by
    funext m
    have : ((i : Int) + (m : Int) * 1).toNat = i + m := by omega
    rw [this]
  rw [e]
  have := pick_run xs i k
  rw [List.filterMap_map] at this
  have e2 : ((fun x => xs[x]?) ∘ fun x => i + x) = fun m => xs[i + m]? := rfl
  rw [e2] at this
  rw [this]

theorem getItem_tuple_cut {t sl : Addr} {items : Array Value} {vl vu : Value} {lo hi : Option Int} {Q : Value → Shared → Prop} (ht : IsTup s.heap t items) (hs : s.heap.IsSliceOf sl vl vu .none) (pl : IsPart vl lo) (pu : IsPart vu hi)
    (hw : ¬ (sIx items.size 0 lo = 0 ∧ sIx items.size items.size hi = items.size))
    (h : Q (.ref s.heap.objs.size) { s with heap := s.heap.push { cls := .type "tuple", data := .seq ((items.toList.drop (sIx items.size 0 lo)).take (sIx items.size items.size hi - sIx items.size 0 lo)).toArray } })
    (hsz : items.size ≤ sizeLine) : wpAny (model prog w) A (getItem (.ref t) (.ref sl)) Q E s := by
  have htake : sizeOk (.seq ((items.toList.drop (sIx items.size 0 lo)).take (sIx items.size items.size hi - sIx items.size 0 lo)).toArray) := by
    show ((items.toList.drop (sIx items.size 0 lo)).take (sIx items.size items.size hi - sIx items.size 0 lo)).toArray.size ≤ sizeLine
    rw [List.size_toArray, List.length_take, List.length_drop, Array.length_toList]
    omega
  have hj : sIx items.size items.size hi ≤ items.size := sIx_le _ _ (Nat.le_refl _) hi
  obtain ⟨os, hos, hcs, hds⟩ := id hs
  have hTs : s.TypeIs (.ref sl) "slice" := ⟨os, hos, hcs⟩
  unfold getItem
  try with_reducible refine wpAny_holding ?_
  first | refine wpAny_bind (wpAny_pure ?_) | skip
  refine wpAny_bind (wpAny_sequenceKey ht.typeIs (by decide) ?_)
  refine wpAny_bind (wpAny_callSpecial?_slot (name := Str.ofString "__getitem__") ht.typeIs PyProof.Rows.slot_tuple_getitem
    (wpAny_call_entry PyProof.Rows.slot_tuple_getitem ht.typeIs entry_tuple_getitem ?_ (args_tuple_getitem _ _)))
  show wpAny _ _ (Builtin.Tuple.tupleItemsOf (.ref t) >>= _) _ _ s
  refine wpAny_bind (tupleItemsOf_ ht ?_)
  refine wpAny_bind (wpAny_typeOf hTs ?_)
  rw [if_pos (by decide)]
  refine wpAny_bind (sliceApplied_gen hs pl pu ?_)
  have hno : ¬ ((((sIx items.size 0 lo : Nat) : Int) == 0 && (1 : Int) == 1 && (sIx items.size items.size hi - sIx items.size 0 lo) == items.size) = true) := by
    intro q
    rw [Bool.and_eq_true, Bool.and_eq_true] at q
    have q1 : ((sIx items.size 0 lo : Nat) : Int) = 0 := eq_of_beq q.1.1
    have q2 : sIx items.size items.size hi - sIx items.size 0 lo = items.size := eq_of_beq q.2
    exact hw ⟨by omega, by omega⟩
  show wpAny _ _ (if (((sIx items.size 0 lo : Nat) : Int) == 0 && (1 : Int) == 1 && (sIx items.size items.size hi - sIx items.size 0 lo) == items.size) = true then _ else _) _ _ s
  rw [if_neg hno, pick_gen]
  first
    | exact wpAny_bind (m := Builtin.Tuple.tupleExact _) (wpAny_newObj_type (wpAny_pure ⟨_, rfl, wpAny_pure h⟩) htake)
    | exact wpAny_bind (m := Builtin.Tuple.tupleExact _) (wpAny_newObj_type (wpAny_bind (wpAny_pure (wpAny_pure ⟨_, rfl, wpAny_pure h⟩))) htake)
    | exact wpAny_bind (wpAny_bind (m := Builtin.Tuple.tupleExact _) (wpAny_newObj_type (wpAny_pure (wpAny_pure ⟨_, rfl, wpAny_pure h⟩)) htake))
    | exact wpAny_bind (wpAny_bind (m := Builtin.Tuple.tupleExact _) (wpAny_newObj_type (wpAny_pure ⟨_, rfl, wpAny_pure h⟩) htake))
end
end HT

namespace L2
open PySem PySem.Spec PyProof.Rows

/-! ### the parts of a slice -/
abbrev TO := St → Hp → (Option Int → Hp → Prop) → Prop
/-- a slice's part (left out, or an int) -/
def PO (X : Cx) (e : Option Expr) (t : TO) : Prop :=
  ∀ (pins : List (Addr × Obj)) (s : Shared) (σ : St) (H : Hp) (Q : Option Int → Hp → Prop), Inv X pins σ H s → t σ H Q →
    wpAny (model X.prog X.w) X.A (evalPart e X.env) (fun u s' => ∃ o H', Inv X pins σ H' s' ∧ IsPart u o ∧ Q o H') X.xe s
def tNoPart : TO := fun _ H Q => Q none H
def tPart (t : TE) : TO := fun σ H Q => t σ H fun x H1 => ∃ i, x = .int i ∧ Q (some i) H1

theorem intsAre_of {ns : List Int} : ∀ {us : List Value}, Vals (ns.map V.int) us → IntsAre us ns := by
  induction ns with
  | nil => intro us r; rw [List.map_nil] at r; cases r; exact .nil
  | cons n ns ih =>
    intro us r
    rw [List.map_cons] at r
    cases r with
    | cons r1 r2 =>
      obtain ⟨t, e⟩ := r1
      subst e
      exact .cons n t (ih r2)

section
variable {X : Cx} {e : Expr} {te : TE} {lo hi : Option Expr} {tl th : TO} {pos p2 : Pos}

theorem po_none : PO X none tNoPart := by
  intro pins s σ H Q I h
  rw [evalPart_none]
  exact wpAny_pure ⟨none, H, I, .none, h⟩
theorem po_some (h : PE X e te) : PO X (some e) (tPart te) := by
  intro pins s σ H Q I hw
  rw [evalPart_some]
  refine thn (h pins s σ H _ I hw) fun u s1 ⟨x, H1, I1, r1, q1⟩ => ?_
  obtain ⟨i, rfl, q⟩ := q1
  obtain ⟨t, rfl⟩ := r1
  exact ⟨some i, H1, I1, .int i t, q⟩

/-- what a slice of a value is, by values: the slice object stands at sl -/
def SlR (X : Cx) (r : V → Option Int → Option Int → Hp → VK → Prop) : Prop :=
  ∀ (pins : List (Addr × Obj)) (s : Shared) (σ : St) (H : Hp) (x : V) (v vl vu : Value) (lo hi : Option Int) (sl : Addr) (Q : VK), Inv X pins σ H s → RelV x v → s.heap.IsSliceOf sl vl vu .none → IsPart vl lo → IsPart vu hi → r x lo hi H Q →
    ∃ T id, typeLookup (.type T) "__getitem__" = pure (some (.builtin id)) ∧ s.TypeIs v T ∧ wpAny (model X.prog X.w) X.A (getItem v (.ref sl)) (EP X pins σ Q) X.xe s
theorem SlR.or {r r' : V → Option Int → Option Int → Hp → VK → Prop} (h : SlR X r) (h' : SlR X r') : SlR X (fun x lo hi H Q => r x lo hi H Q ∨ r' x lo hi H Q) := by
  intro pins s σ H x v vl vu lo hi sl Q I rx hs pl pu q
  rcases q with q | q
  · exact h pins s σ H x v vl vu lo hi sl Q I rx hs pl pu q
  · exact h' pins s σ H x v vl vu lo hi sl Q I rx hs pl pu q
def tSl (r : V → Option Int → Option Int → Hp → VK → Prop) (te : TE) (tl th : TO) : TE := fun σ H Q => te σ H fun x H1 => tl σ H1 fun l H2 => th σ H2 fun u H3 => r x l u H3 Q
/-- a[lo:hi], any a -/
theorem pe_slice {r : V → Option Int → Option Int → Hp → VK → Prop} (hr : SlR X r) (he : PE X e te) (hl : PO X lo tl) (hu : PO X hi th) : PE X (.Subscript e (.Slice lo hi none p2) pos) (tSl r te tl th) := by
  intro pins s σ H Q I h
  refine Subscript_ (thn (he pins s σ H _ I h) fun v s1 ⟨x, H1, I1, r1, q1⟩ => ?_)
  refine wpAny_Slice (thn (hl pins s1 σ H1 _ I1 q1) fun vl s2 ⟨l, H2, I2, pl, q2⟩ => thn (hu pins s2 σ H2 _ I2 q2) fun vu s3 ⟨u, H3, I3, pu, q3⟩ => ?_)
  rw [evalPart_none]
  refine wpAny_pure ?_
  have I4 : Inv X pins σ H3 { s3 with heap := s3.heap.push { cls := .type "slice", data := .fields #[vl, vu, .none] } } := I3.kept (t' := s3.toks) fun b ob q => Heap.get?_push_of_some _ q
  obtain ⟨T, id, hT, ht, hg⟩ := hr pins { s3 with heap := s3.heap.push { cls := .type "slice", data := .fields #[vl, vu, .none] } } σ H3 x v vl vu l u s3.heap.objs.size Q I4 r1 (Heap.IsSliceOf.new ..) pl pu q3
  show wpAny (model X.prog X.w) X.A (subscriptTail e (.Slice lo hi none p2) v (.ref s3.heap.objs.size)) (EP X pins σ Q) X.xe { s3 with heap := s3.heap.push { cls := .type "slice", data := .fields #[vl, vu, .none] } }
  exact tail_any (ops := [.ref s3.heap.objs.size, v]) ht hT hg (by with_unfolding_all rfl)

/-- the items of xs[lo:hi] -/
def cutV (xs : List V) (lo hi : Option Int) : List V := (xs.drop (HT.sIx xs.length 0 lo)).take (HT.sIx xs.length xs.length hi - HT.sIx xs.length 0 lo)
theorem cutV_length (xs : List V) (lo hi : Option Int) : (cutV xs lo hi).length ≤ xs.length := by
  unfold cutV
  rw [List.length_take, List.length_drop]
  omega
/-- t[lo:hi], not the whole of it (the whole would be t itself) -/
def rSlT (K : PySem.W.Frag) : V → Option Int → Option Int → Hp → VK → Prop := fun x lo hi H Q => ∃ a xs, x = .ref a ∧ SqT K H a xs ∧
  ¬ (HT.sIx xs.length 0 lo = 0 ∧ HT.sIx xs.length xs.length hi = xs.length) ∧ ∀ p, H p = none → Q (.ref p) (upd H p (.tup (cutV xs lo hi)))
theorem sl_tup : SlR X (rSlT X.K) := by
  intro pins s σ H x v vl vu lo hi sl Q I rx hs pl pu h
  obtain ⟨a, xs, rfl, hx, hw, q⟩ := h
  cases rx
  obtain ⟨its, r, ht, hz⟩ := I.tuple hx
  have hlen : its.toArray.size = xs.length := by rw [List.size_toArray]; exact r.length.symm
  refine ⟨"tuple", _, PyProof.Rows.slot_tuple_getitem.lookup, ht.typeIs, ?_⟩
  refine HT.getItem_tuple_cut ht hs pl pu (by rw [hlen]; exact hw) ?_ (by rw [hlen]; exact hz)
  rw [hlen]
  refine ⟨.ref s.heap.objs.size, _, I.laid (t' := s.toks) (o := .tup (cutV xs lo hi)) (fun b ob q => Heap.get?_push_of_some _ q) (Nat.le_refl _) ?_, rfl, q _ (I.hok.fresh (Nat.le_refl _))⟩
  exact ⟨Nat.le_trans (cutV_length xs lo hi) hz, _, (r.drop (HT.sIx xs.length 0 lo)).take (HT.sIx xs.length xs.length hi - HT.sIx xs.length 0 lo), IsTup.new _ _⟩

/-! ### t < u, t + u -/
def rLtT (K : PySem.W.Frag) : R2 := fun x y H Q => ∃ a b ns ms, x = .ref a ∧ y = .ref b ∧ SqT K H a (ns.map V.int) ∧ SqT K H b (ms.map V.int) ∧ Q (.bl (HT.lexLt ns ms)) H
theorem op_ltT (hu : X.A.units < cLine) : OpR X (compareOp .Lt) (rLtT X.K) := by
  intro pins s σ H x y v u Q I rx ry h
  obtain ⟨a, b, ns, ms, rfl, rfl, ha, hb, q⟩ := h
  cases rx
  cases ry
  obtain ⟨its, r1, p1, _⟩ := I.tuple ha
  obtain ⟨its2, r2, p2, _⟩ := I.tuple hb
  have i1 : IntsAre its.toArray.toList ns := intsAre_of r1
  have i2 : IntsAre its2.toArray.toList ms := intsAre_of r2
  exact HT.lt_tupInts p1 p2 i1 i2 hu ⟨.bl (HT.lexLt ns ms), H, I, rfl, q⟩
/-- t + u, t not empty: u empty gives t itself -/
def rCatT (K : PySem.W.Frag) : R2 := fun x y H Q => ∃ a b xs ys, x = .ref a ∧ y = .ref b ∧ SqT K H a xs ∧ SqT K H b ys ∧ xs ≠ [] ∧ xs.length + ys.length ≤ sizeLine ∧
  (ys = [] → Q (.ref a) H) ∧ (ys ≠ [] → ∀ p, H p = none → Q (.ref p) (upd H p (.tup (xs ++ ys))))
theorem Vals.nil_iff {xs : List V} {us : List Value} (r : Vals xs us) : us = [] ↔ xs = [] := by
  cases r with
  | nil => simp
  | cons _ _ => simp
theorem op_catT : OpR X (binaryOp .Add) (rCatT X.K) := by
  intro pins s σ H x y v u Q I rx ry h
  obtain ⟨a, b, xs, ys, rfl, rfl, ha, hb, hx, hz, q1, q2⟩ := h
  cases rx
  cases ry
  obtain ⟨its, r1, p1, _⟩ := I.tuple ha
  obtain ⟨its2, r2, p2, _⟩ := I.tuple hb
  refine HT.cat_tup p1 p2 (fun z => hx (r1.nil_iff.mp z)) (fun z => ⟨.ref a, H, I, rfl, q1 (r2.nil_iff.mp z)⟩) (fun z => ?_) (by rw [← r1.length, ← r2.length]; exact hz)
  refine ⟨.ref s.heap.objs.size, _, I.laid (t' := s.toks) (o := .tup (xs ++ ys)) (fun b ob q => Heap.get?_push_of_some _ q) (Nat.le_refl _) ?_, rfl, q2 (fun w => z (r2.nil_iff.mpr w)) _ (I.hok.fresh (Nat.le_refl _))⟩
  exact ⟨by rw [List.length_append]; exact hz, _, r1.append r2, IsTup.new _ _⟩
/-- tuple(t) -/
theorem call_tupleT : CallR X (.type "tuple") (fun xs H Q => ∃ a ys, xs = [.ref a] ∧ SqT X.K H a ys ∧ Q (.ref a) H) := by
  intro pins s σ H xs us Q I r h
  obtain ⟨a, ys, rfl, ha, q⟩ := h
  obtain ⟨u, rfl, ru⟩ := vals1 r
  cases ru
  obtain ⟨its, _, p1, _⟩ := I.tuple ha
  exact call_tuple_same (items := its.toArray) p1 ⟨.ref a, H, I, rfl, q⟩
end
end L2

namespace L2
open PySem PySem.Spec PyProof.Rows

/-! ### places -/
/-- the place that an index of any sign means -/
def ixN (n : Nat) (i : Int) : Option Nat := if 0 ≤ i then (if i < n then some i.toNat else none) else if -(n : Int) ≤ i then some (i + n).toNat else none
def atI {α : Type} (xs : List α) (i : Int) : Option α := (ixN xs.length i).bind fun j => xs[j]?
theorem ixN_seq {n : Nat} {i : Int} {j : Nat} (h : ixN n i = some j) : seqIndex? i n = some j ∧ j < n ∧ -(n : Int) ≤ i ∧ i < n := by
  unfold ixN at h
  by_cases h0 : 0 ≤ i
  · rw [if_pos h0] at h
    by_cases h1 : i < n
    · rw [if_pos h1] at h
      have e : i.toNat = j := Option.some.inj h
      exact ⟨by rw [seqIndex_of h0 h1, e], by omega, by omega, h1⟩
    · rw [if_neg h1] at h; cases h
  · rw [if_neg h0] at h
    by_cases h1 : -(n : Int) ≤ i
    · rw [if_pos h1] at h
      have e : (i + n).toNat = j := Option.some.inj h
      exact ⟨by rw [seqIndex_neg (by omega) h1, e], by omega, h1, by omega⟩
    · rw [if_neg h1] at h; cases h
theorem atI_get {α : Type} {xs : List α} {i : Int} {v : α} (h : atI xs i = some v) : ∃ j, seqIndex? i xs.length = some j ∧ xs[j]? = some v ∧ j < xs.length ∧ -(xs.length : Int) ≤ i ∧ i < xs.length := by
  unfold atI at h
  cases e : ixN xs.length i with
  | none => rw [e] at h; cases h
  | some j =>
    rw [e] at h
    obtain ⟨h1, h2, h3, h4⟩ := ixN_seq e
    exact ⟨j, h1, h, h2, h3, h4⟩
theorem atI_nat {α : Type} {xs : List α} {j : Nat} {v : α} (h : xs[j]? = some v) : atI xs (j : Int) = some v := by
  have hj : j < xs.length := (List.getElem?_eq_some_iff.mp h).1
  have e : ixN xs.length (j : Int) = some j := by
    unfold ixN
    rw [if_pos (by omega), if_pos (by omega)]; simp
  unfold atI; rw [e]; exact h
theorem atI_last {α : Type} (xs : List α) (v : α) : atI (xs ++ [v]) (-1) = some v := by
  have hl : (xs ++ [v]).length = xs.length + 1 := by simp
  have e : ixN (xs ++ [v]).length (-1) = some xs.length := by
    unfold ixN
    rw [hl, if_neg (by decide), if_pos (by omega)]
    congr 1
    omega
  unfold atI
  rw [e]
  show (xs ++ [v])[xs.length]? = some v
  simp

/-! ### what may be subscripted -/
/-- what stands as an index of a plain subscript -/
def PlainIx (b : Expr) : Prop := ∀ o i, subscripted b false o i = operate [o, i] (getItem o i)
/-- a subscript by values -/
def IxR (X : Cx) (r : R2) : Prop :=
  ∀ (value slice : Expr) (pins : List (Addr × Obj)) (s : Shared) (σ : St) (H : Hp) (x y : V) (v u : Value) (Q : VK), Inv X pins σ H s → RelV x v → RelV y u → r x y H Q →
    subscripted slice false v u = operate [v, u] (getItem v u) → wpAny (model X.prog X.w) X.A (subscriptTail value slice v u) (EP X pins σ Q) X.xe s
/-- a call of a builtin's method by values: the receiver, the arguments -/
def MtR (X : Cx) (id : String) (r : V → List V → Hp → VK → Prop) : Prop :=
  ∀ (pins : List (Addr × Obj)) (s : Shared) (σ : St) (H : Hp) (x : V) (xs : List V) (v : Value) (us : List Value) (Q : VK), Inv X pins σ H s → RelV x v → Vals xs us → r x xs H Q →
    wpAny (model X.prog X.w) X.A (call (.builtin id) (v :: us)) (EP X pins σ Q) X.xe s
section
variable {X : Cx} {a b : Expr} {ta tb : TE} {pos : Pos}
theorem IxR.or {r r' : R2} (h : IxR X r) (h' : IxR X r') : IxR X (fun x y H Q => r x y H Q ∨ r' x y H Q) := by
  intro value slice pins s σ H x y v u Q I rx ry q hs
  rcases q with q | q
  · exact h value slice pins s σ H x y v u Q I rx ry q hs
  · exact h' value slice pins s σ H x y v u Q I rx ry q hs
theorem MtR.or {id : String} {r r' : V → List V → Hp → VK → Prop} (h : MtR X id r) (h' : MtR X id r') : MtR X id (fun x xs H Q => r x xs H Q ∨ r' x xs H Q) := by
  intro pins s σ H x xs v us Q I rx rs q
  rcases q with q | q
  · exact h pins s σ H x xs v us Q I rx rs q
  · exact h' pins s σ H x xs v us Q I rx rs q
/-- a[b] -/
theorem pe_ix {r : R2} (hr : IxR X r) (ha : PE X a ta) (hb : PE X b tb) (hs : PlainIx b) : PE X (.Subscript a b pos) (tOp r ta tb) := by
  intro pins s σ H Q I h
  exact Subscript_ (binT ha hb I h fun v u s2 x y H2 I2 rx ry q => hr a b pins s2 σ H2 x y v u Q I2 rx ry q (hs _ _))

def rIxL (K : PySem.W.Frag) : R2 := fun x y H Q => ∃ p xs i v, x = .ref p ∧ y = .int i ∧ SqL K H p xs ∧ atI xs i = some v ∧ Q v H
def rIxT (K : PySem.W.Frag) : R2 := fun x y H Q => ∃ p xs i v, x = .ref p ∧ y = .int i ∧ SqT K H p xs ∧ atI xs i = some v ∧ Q v H
def rIxS : R2 := fun x y H Q => ∃ z i c, x = .str z ∧ y = .int i ∧ z.length ≤ sizeLine ∧ atI z.cps.toList i = some c ∧ Q (.str ⟨#[c]⟩) H
theorem ix_list : IxR X (rIxL X.K) := by
  intro value slice pins s σ H x y v u Q I rx ry h hs
  obtain ⟨p, xs, i, z, rfl, rfl, hq, he, q⟩ := h
  cases rx
  obtain ⟨t, rfl⟩ := ry
  obtain ⟨its, r, pl, hz⟩ := I.list hq
  obtain ⟨j, h1, h2, h3, h4, h5⟩ := atI_get he
  obtain ⟨w, ew, rw'⟩ := r.get h2
  have hl := r.length
  have hn := line63
  have fin : EP X pins σ Q w s := ⟨z, H, I, rw', q⟩
  by_cases h0 : 0 ≤ i
  · have hj : i.toNat = j := by
      rw [seqIndex_of h0 h5] at h1
      exact Option.some.inj h1
    exact item_listR pl.isList h0 (by omega) (by rw [hj]; simpa using ew) fin hs
  · have hj : (i + (its.toArray.size : Int)).toNat = j := by
      rw [seqIndex_neg (by omega) h4] at h1
      rw [List.size_toArray, ← hl]
      exact Option.some.inj h1
    exact subscriptTail_builtinR (x := w) pl.isList.typeIs slot_list_getitem.lookup
      (wpAny_getItem_list_neg (Q := fun r s' => r = w ∧ EP X pins σ Q r s') pl.isList (by omega) (by rw [List.size_toArray] <;> omega) (by omega) (by rw [hj]; simpa using ew) ⟨rfl, fin⟩) hs
theorem ix_tup : IxR X (rIxT X.K) := by
  intro value slice pins s σ H x y v u Q I rx ry h hs
  obtain ⟨p, xs, i, z, rfl, rfl, hq, he, q⟩ := h
  cases rx
  obtain ⟨t, rfl⟩ := ry
  obtain ⟨its, r, pl, hz⟩ := I.tuple hq
  obtain ⟨j, h1, h2, h3, h4, h5⟩ := atI_get he
  obtain ⟨w, ew, rw'⟩ := r.get h2
  have hl := r.length
  have hn := line63
  have fin : EP X pins σ Q w s := ⟨z, H, I, rw', q⟩
  exact subscriptTail_builtinR (x := w) pl.typeIs slot_tuple_getitem.lookup
    (getItem_tuple (j := j) (Q := fun r s' => r = w ∧ EP X pins σ Q r s') pl (by omega) (by omega) (by rw [List.size_toArray, ← hl]; exact h1) (by simpa using ew) ⟨rfl, fin⟩) hs
theorem ix_str : IxR X rIxS := by
  intro value slice pins s σ H x y v u Q I rx ry h hs
  obtain ⟨z, i, c, rfl, rfl, hz, he, q⟩ := h
  obtain ⟨t, rfl⟩ := rx
  obtain ⟨t', rfl⟩ := ry
  obtain ⟨j, h1, h2, h3, h4, h5⟩ := atI_get he
  have hl : z.cps.toList.length = z.length := by simp [Str.length]
  rw [hl] at h1 h4 h5
  have hn := line63
  exact tail_any (typeIs_str s z t) slot_str_getitem.lookup (getItem_str (c := c) (by
    have e1 : decide (i < -(2 ^ 63 : Int)) = false := decide_eq_false (by omega)
    have e2 : decide (i ≥ 2 ^ 63) = false := decide_eq_false (by omega)
    rw [e1, e2, Bool.or_false]) (by rw [h1]; simpa using h2) ⟨.str ⟨#[c]⟩, H, I.tok _, ⟨_, rfl⟩, q⟩) hs
/-- list, tuple or str -/
def rIx (K : PySem.W.Frag) : R2 := fun x y H Q => rIxL K x y H Q ∨ rIxT K x y H Q ∨ rIxS x y H Q
theorem ix_seq : IxR X (rIx X.K) := ix_list.or (ix_tup.or ix_str)

/-! ### xs[i] = v, any sign -/
/-- the list's object behind a store -/
theorem mapSeq_set (its : List Value) (n j : Nat) (u : Value) : Obj.mapSeq (·.setIfInBounds j u) { cls := .type "list", data := .seq its.toArray n } = { cls := .type "list", data := .seq (its.set j u).toArray n } := by
  simp [Obj.mapSeq]
theorem Inv.lst {pins : List (Addr × Obj)} {σ : St} {H : Hp} {s : Shared} {p : Addr} {xs : List V} (I : Inv X pins σ H s) (h : H p = some (.lst xs)) :
    ∃ (its : List Value) (n : Nat), Vals xs its ∧ s.heap.get? p = some { cls := .type "list", data := .seq its.toArray n } ∧ xs.length ≤ sizeLine := by
  obtain ⟨z, its, n, r, e⟩ := I.hok p _ h
  exact ⟨its, n, r, e, z⟩
/-- the list at p is written by an update of its object -/
theorem Inv.lstUpd {pins : List (Addr × Obj)} {σ : St} {H : Hp} {s : Shared} {p : Addr} {xs ys : List V} {its its' : List Value} {n n' : Nat} {f : Obj → Obj} (I : Inv X pins σ H s) (h : H p = some (.lst xs))
    (ho : s.heap.get? p = some { cls := .type "list", data := .seq its.toArray n }) (hf : f { cls := .type "list", data := .seq its.toArray n } = { cls := .type "list", data := .seq its'.toArray n' }) (r : Vals ys its') (hz : ys.length ≤ sizeLine) (t : Nat) :
    Inv X pins σ (upd H p (.lst ys)) { s with heap := s.heap.update p f, toks := t } := by
  have e : (s.heap.update p f).get? p = some { cls := .type "list", data := .seq its'.toArray n' } := by
    rw [Heap.get?_update_self f ho (by rw [hf] <;> rfl), hf]
  refine I.write (x := p) (e := p) (by rw [h]; trivial) (.inl rfl) (fun b u hb q => (Heap.get?_update_other _ _ (Ne.symm hb)).trans q) ⟨_, e⟩ ?_
  exact ⟨hz, its', n', r, e⟩
def rSetL : V → V → V → Hp → (Hp → Prop) → Prop := fun o i v H Q => ∃ p xs k j, o = .ref p ∧ i = .int k ∧ H p = some (.lst xs) ∧ ixN xs.length k = some j ∧ Q (upd H p (.lst (xs.set j v)))
theorem set_list : PSet X rSetL := by
  intro pins s σ H o i v ov iv u Q I ro ri rv h
  obtain ⟨p, xs, k, j, rfl, rfl, hp, hj, q⟩ := h
  cases ro
  obtain ⟨t, rfl⟩ := ri
  obtain ⟨its, n, r, ho, hz⟩ := I.lst hp
  obtain ⟨h1, h2, h3, h4⟩ := ixN_seq hj
  have hl := r.length
  have hn := line63
  have I' : Inv X pins σ (upd H p (.lst (xs.set j v))) { s with heap := s.heap.update p (Obj.mapSeq (·.setIfInBounds j u)) } :=
    I.lstUpd hp ho (mapSeq_set its n j u) (r.set rv j) (by rw [List.length_set]; exact hz) s.toks
  by_cases h0 : 0 ≤ k
  · have hk : k.toNat = j := by
      rw [seqIndex_of h0 h4] at h1
      exact Option.some.inj h1
    exact PySem.W.ki_setAt ho h0 (by omega) (by rw [List.size_toArray, ← hl]; exact h4) (by rw [hk]; exact ⟨_, I', q⟩)
  · have hk : (k + (its.toArray.size : Int)).toNat = j := by
      rw [seqIndex_neg (by omega) h3] at h1
      rw [List.size_toArray, ← hl]
      exact Option.some.inj h1
    exact PySem.W.ki_setBack ho (by omega) (by rw [List.size_toArray, ← hl]; exact h3) (by omega) (by rw [hk]; exact ⟨_, I', q⟩)

/-! ### slices -/
theorem slice_bounds (lo hi : Option Int) (n : Nat) : (sliceBounds lo hi none n).1 = ((HT.sIx n 0 lo : Nat) : Int) ∧ (sliceBounds lo hi none n).2.1 = ((HT.sIx n n hi : Nat) : Int) ∧ (sliceBounds lo hi none n).2.2 = 1 := by
  refine ⟨?_, ?_, rfl⟩
  · cases lo with
    | none => simp [sliceBounds, HT.sIx]
    | some i =>
      simp only [sliceBounds, HT.sIx, Option.getD_none, show (1 : Int) > 0 by decide, if_true]
      by_cases h : i < 0
      · simp only [h, if_true] <;> omega
      · simp only [h, if_false] <;> omega
  · cases hi with
    | none => simp [sliceBounds, HT.sIx]
    | some i =>
      simp only [sliceBounds, HT.sIx, Option.getD_none, show (1 : Int) > 0 by decide, if_true]
      by_cases h : i < 0
      · simp only [h, if_true] <;> omega
      · simp only [h, if_false] <;> omega
theorem slicePick_cut (its : List Value) (lo hi : Option Int) : slicePick its.toArray lo hi none = ((its.drop (HT.sIx its.length 0 lo)).take (HT.sIx its.length its.length hi - HT.sIx its.length 0 lo)).toArray := by
  obtain ⟨h1, h2, h3⟩ := slice_bounds lo hi its.toArray.size
  unfold slicePick
  rw [h1, h2, h3]
  simp only [sliceRange_one, pick_run, List.size_toArray] <;> rfl
/-- xs[lo:hi] of a list: a new list -/
def rSlL (K : PySem.W.Frag) : V → Option Int → Option Int → Hp → VK → Prop := fun x lo hi H Q => ∃ a xs, x = .ref a ∧ SqL K H a xs ∧ ∀ p, H p = none → Q (.ref p) (upd H p (.lst (cutV xs lo hi)))
theorem sl_list : SlR X (rSlL X.K) := by
  intro pins s σ H x v vl vu lo hi sl Q I rx hs pl pu h
  obtain ⟨a, xs, rfl, hx, q⟩ := h
  cases rx
  obtain ⟨its, r, ht, hz⟩ := I.list hx
  have hlen := r.length
  refine ⟨"list", _, slot_list_getitem.lookup, ht.isList.typeIs, ?_⟩
  refine wpAny_getItem_list_slice ht.isList hs pl pu .none (by simp) ?_ (by rw [List.size_toArray] <;> omega)
  rw [slicePick_cut, ← hlen]
  refine ⟨.ref s.heap.objs.size, _, I.laid (t' := s.toks) (o := .lst (cutV xs lo hi)) (fun b ob q => Heap.get?_push_of_some _ q) (Nat.le_refl _) ?_, rfl, q _ (I.hok.fresh (Nat.le_refl _))⟩
  exact ⟨Nat.le_trans (cutV_length xs lo hi) hz, _, 0, (r.drop (HT.sIx xs.length 0 lo)).take (HT.sIx xs.length xs.length hi - HT.sIx xs.length 0 lo), Heap.get?_push_size _ rfl⟩

/-! ### in, not in: flat items -/
def flatV : V → Bool
  | .non => true
  | .bl _ => true
  | .int _ => true
  | .str _ => true
  | _ => false
/-- == of flat values -/
def eqV : V → V → Bool
  | .non, .non => true
  | .bl a, .bl b => a == b
  | .bl a, .int b => (if a then 1 else 0) == b
  | .int a, .bl b => a == (if b then 1 else 0)
  | .int a, .int b => a == b
  | .str a, .str b => a == b
  | _, _ => false
theorem eqAt_V {A : Around} {s : Shared} {y x : V} {u v : Value} (ry : RelV y u) (rx : RelV x v) (fy : flatV y = true) (fx : flatV x = true) : SeqAt.EqAt A s u v (eqV y x) := by
  cases y with
  | non =>
    cases ry
    cases x with
    | non => cases rx; exact SeqAt.EqAt.same _
    | bl b => cases rx; exact SeqAt.EqAt.none_bool b
    | int b => obtain ⟨t, rfl⟩ := rx; exact SeqAt.EqAt.none_int b t
    | str b => obtain ⟨t, rfl⟩ := rx; exact SeqAt.EqAt.none_str b t
    | _ => exact absurd (show false = true from fx) Bool.false_ne_true
  | bl a =>
    cases ry
    cases x with
    | non => cases rx; exact SeqAt.EqAt.bool_none a
    | bl b => cases rx; exact SeqAt.EqAt.bool_bool a b
    | int b => obtain ⟨t, rfl⟩ := rx; exact SeqAt.EqAt.bool_int a b t
    | str b => obtain ⟨t, rfl⟩ := rx; exact SeqAt.EqAt.bool_str a b t
    | _ => exact absurd (show false = true from fx) Bool.false_ne_true
  | int a =>
    obtain ⟨t', rfl⟩ := ry
    cases x with
    | non => cases rx; exact SeqAt.EqAt.int_none a t'
    | bl b => cases rx; exact SeqAt.EqAt.int_bool a t' b
    | int b => obtain ⟨t, rfl⟩ := rx; exact SeqAt.EqAt.int_int a t' b t
    | str b => obtain ⟨t, rfl⟩ := rx; exact SeqAt.EqAt.int_str a t' b t
    | _ => exact absurd (show false = true from fx) Bool.false_ne_true
  | str a =>
    obtain ⟨t', rfl⟩ := ry
    cases x with
    | non => cases rx; exact SeqAt.EqAt.str_none a t'
    | bl b => cases rx; exact SeqAt.EqAt.str_bool a t' b
    | int b => obtain ⟨t, rfl⟩ := rx; exact SeqAt.EqAt.str_int a t' b t
    | str b => obtain ⟨t, rfl⟩ := rx; exact SeqAt.EqAt.str_str a t' b t
    | _ => exact absurd (show false = true from fx) Bool.false_ne_true
  | _ => exact absurd (show false = true from fy) Bool.false_ne_true
/-- the items' answers, read off the values (a value's own answer does not lean on its token) -/
def eqU (x : V) (u : Value) : Bool := match u with
  | .none => eqV .non x
  | .bool b => eqV (.bl b) x
  | .int i _ => eqV (.int i) x
  | .str z _ => eqV (.str z) x
  | _ => false
theorem eqU_of {x y : V} {u : Value} (r : RelV y u) (f : flatV y = true) : eqU x u = eqV y x := by
  cases y with
  | non => cases r; rfl
  | bl b => cases r; rfl
  | int i => obtain ⟨t, rfl⟩ := r; rfl
  | str z => obtain ⟨t, rfl⟩ := r; rfl
  | _ => exact absurd (show false = true from f) Bool.false_ne_true
theorem any_eqU {x : V} : ∀ {xs : List V} {us : List Value}, Vals xs us → xs.all flatV = true → us.any (eqU x) = xs.any fun y => eqV y x
  | _, _, .nil, _ => rfl
  | y :: xs, u :: us, .cons r t, f => by
    rw [List.all_cons, Bool.and_eq_true] at f
    rw [List.any_cons, List.any_cons, eqU_of r f.1, any_eqU t f.2]
theorem mem_eqAt {A : Around} {s : Shared} {x : V} {v : Value} (rx : RelV x v) (fx : flatV x = true) : ∀ {xs : List V} {us : List Value}, Vals xs us → xs.all flatV = true → ∀ u ∈ us, SeqAt.EqAt A s u v (eqU x u)
  | _, _, .nil, _ => fun u hu => by cases hu
  | y :: xs, u :: us, .cons r t, f => fun u' hu => by
    rw [List.all_cons, Bool.and_eq_true] at f
    rcases List.mem_cons.mp hu with rfl | hu
    · rw [eqU_of r f.1]; exact eqAt_V r rx f.1 fx
    · exact mem_eqAt rx fx t f.2 u' hu
def inV (x : V) (xs : List V) : Bool := xs.any fun y => eqV y x
/-- x in a list or tuple of flat items -/
def rIn (K : PySem.W.Frag) (neg : Bool) : R2 := fun x y H Q => ∃ p xs, y = .ref p ∧ (SqL K H p xs ∨ SqT K H p xs) ∧ flatV x = true ∧ xs.all flatV = true ∧ Q (.bl (if neg then !inV x xs else inV x xs)) H
theorem op_in_seq : OpR X (compareOp .In) (rIn X.K false) := by
  intro pins s σ H x y v u Q I rx ry h
  obtain ⟨p, xs, rfl, hq, fx, fs, q⟩ := h
  cases ry
  rcases hq with hq | hq
  · obtain ⟨its, r, pl, hz⟩ := I.list hq
    refine SeqAt.in_listAt (eqU x) pl.isList (fun w hw => mem_eqAt rx fx r fs w (by simpa using hw)) ⟨.bl _, H, I, rfl, ?_⟩
    rw [show its.toArray.any (eqU x) = its.any (eqU x) by simp, any_eqU r fs]
    exact q
  · obtain ⟨its, r, pl, hz⟩ := I.tuple hq
    refine SeqAt.in_tupleAt (eqU x) pl (fun w hw => mem_eqAt rx fx r fs w (by simpa using hw)) ⟨.bl _, H, I, rfl, ?_⟩
    rw [show its.toArray.any (eqU x) = its.any (eqU x) by simp, any_eqU r fs]
    exact q
theorem op_notIn_seq : OpR X (compareOp .NotIn) (rIn X.K true) := by
  intro pins s σ H x y v u Q I rx ry h
  obtain ⟨p, xs, rfl, hq, fx, fs, q⟩ := h
  cases ry
  rcases hq with hq | hq
  · obtain ⟨its, r, pl, hz⟩ := I.list hq
    refine SeqAt.notIn_listAt (eqU x) pl.isList (fun w hw => mem_eqAt rx fx r fs w (by simpa using hw)) ⟨.bl _, H, I, rfl, ?_⟩
    rw [show its.toArray.any (eqU x) = its.any (eqU x) by simp, any_eqU r fs]
    exact q
  · obtain ⟨its, r, pl, hz⟩ := I.tuple hq
    refine SeqAt.notIn_tupleAt (eqU x) pl (fun w hw => mem_eqAt rx fx r fs w (by simpa using hw)) ⟨.bl _, H, I, rfl, ?_⟩
    rw [show its.toArray.any (eqU x) = its.any (eqU x) by simp, any_eqU r fs]
    exact q
theorem op_notIn_str : OpR X (compareOp .NotIn) (fun x y H Q => ∃ i j, x = .str i ∧ y = .str j ∧ Q (.bl (!(!(Builtin.Str.occurrences j i 0 j.length 1).isEmpty))) H) := by
  intro pins s σ H x y v u Q I rx ry h
  obtain ⟨i, j, rfl, rfl, q⟩ := h
  obtain ⟨t, rfl⟩ := rx
  obtain ⟨t', rfl⟩ := ry
  exact notIn_str ⟨.bl _, H, I, rfl, q⟩

/-! ### len, list(x), tuple(x) of any list or tuple that is read -/
theorem call_len_seq : CallR X (.builtin "len") (fun xs H Q => ∃ p ys, xs = [.ref p] ∧ (SqL X.K H p ys ∨ SqT X.K H p ys) ∧ Q (.int ys.length) H) := by
  intro pins s σ H xs us Q I r h
  obtain ⟨p, ys, rfl, hq, q⟩ := h
  obtain ⟨u, rfl, rx⟩ := vals1 r
  cases rx
  have hn := line63
  rcases hq with hq | hq
  · obtain ⟨its, r', pl, hz⟩ := I.list hq
    have hlen := r'.length
    exact Calls.call_len_list pl.isList (by simp only [List.size_toArray] <;> omega) ⟨.int ys.length, H, I.tok _, ⟨s.toks + 1, by rw [List.size_toArray, hlen]⟩, q⟩
  · obtain ⟨its, r', pl, hz⟩ := I.tuple hq
    have hlen := r'.length
    exact len_tuple pl (by simp only [List.size_toArray] <;> omega) ⟨.int ys.length, H, I.tok _, ⟨s.toks + 1, by rw [List.size_toArray, hlen]⟩, q⟩
theorem call_len_str : CallR X (.builtin "len") (fun xs H Q => ∃ z, xs = [.str z] ∧ z.length ≤ sizeLine ∧ Q (.int z.length) H) := by
  intro pins s σ H xs us Q I r h
  obtain ⟨z, rfl, hz, q⟩ := h
  obtain ⟨u, rfl, t, rfl⟩ := vals1 r
  have hn := line63
  exact len_str (by omega) ⟨.int z.length, H, I.tok _, ⟨_, rfl⟩, q⟩
theorem CallR.or {f : Value} {r r' : List V → Hp → VK → Prop} (h : CallR X f r) (h' : CallR X f r') : CallR X f (fun xs H Q => r xs H Q ∨ r' xs H Q) := by
  intro pins s σ H xs us Q I rs q
  rcases q with q | q
  · exact h pins s σ H xs us Q I rs q
  · exact h' pins s σ H xs us Q I rs q
theorem call_list_of : CallR X (.type "list") (fun xs H Q => ∃ p ys, xs = [.ref p] ∧ (SqL X.K H p ys ∨ SqT X.K H p ys) ∧ ∀ l, H l = none → Q (.ref l) (upd H l (.lst ys))) := by
  intro pins s σ H xs us Q I r h
  obtain ⟨p, ys, rfl, hq, q⟩ := h
  obtain ⟨u, rfl, rx⟩ := vals1 r
  cases rx
  have fin : ∀ (its : List Value), Vals ys its → ys.length ≤ sizeLine → ∀ (h' : Heap) (c' : Nat), (∀ b o', s.heap.get? b = some o' → h'.get? b = some o') →
      h'.get? s.heap.objs.size = some { cls := .type "list", dict := none, data := .seq its.toArray c', slots := #[] } → EP X pins σ Q (.ref s.heap.objs.size) { s with heap := h' } := fun its r' hz h' c' kp e =>
    ⟨.ref s.heap.objs.size, _, I.laid (t' := s.toks) kp (Nat.le_refl _) (show ObjOk X.prog X.w _ h' _ (.lst ys) from ⟨hz, its, c', r', e⟩), rfl, q _ (I.hok.fresh (Nat.le_refl _))⟩
  rcases hq with hq | hq
  · obtain ⟨its, r', pl, hz⟩ := I.list hq
    have hlen := r'.length
    obtain ⟨o, ho, hc, n, hd⟩ := pl.isList
    exact call_list_seq p (.inl rfl) ho hc hd (fun h' c' kp e => fin its r' hz h' c' kp e) (by simp only [List.size_toArray] <;> omega)
  · obtain ⟨its, r', pl, hz⟩ := I.tuple hq
    have hlen := r'.length
    obtain ⟨o, ho, hc, n, hd⟩ := pl
    exact call_list_seq p (.inr rfl) ho hc hd (fun h' c' kp e => fin its r' hz h' c' kp e) (by simp only [List.size_toArray] <;> omega)
theorem call_tuple_of : CallR X (.type "tuple") (fun xs H Q => ∃ p ys, xs = [.ref p] ∧ ((SqL X.K H p ys ∧ ∀ l, H l = none → Q (.ref l) (upd H l (.tup ys))) ∨ (SqT X.K H p ys ∧ Q (.ref p) H))) := by
  intro pins s σ H xs us Q I r h
  obtain ⟨p, ys, rfl, h⟩ := h
  obtain ⟨u, rfl, rx⟩ := vals1 r
  cases rx
  rcases h with ⟨hq, q⟩ | ⟨hq, q⟩
  · obtain ⟨its, r', pl, hz⟩ := I.list hq
    have hlen := r'.length
    refine call_tuple_list pl.isList (fun h' kp => ?_) (by simp only [List.size_toArray] <;> omega)
    have I1 : Inv X pins σ H { s with heap := h' } := I.kept (t' := s.toks) kp
    have I2 : Inv X pins σ (upd H h'.objs.size (.tup ys)) { s with heap := h'.push { cls := .type "tuple", data := .seq its.toArray } } :=
      I1.laid (t' := s.toks) (fun b o e => Heap.get?_push_of_some _ e) (Nat.le_refl _) (show ObjOk X.prog X.w _ _ _ (.tup ys) from ⟨hz, its, r', IsTup.new _ _⟩)
    exact ⟨.ref h'.objs.size, _, I2, rfl, q _ (I1.hok.fresh (Nat.le_refl _))⟩
  · obtain ⟨its, r', pl, hz⟩ := I.tuple hq
    exact call_tuple_same pl ⟨.ref p, H, I, rfl, q⟩

/-! ### the call of a builtin's method: o.m(..) -/
/-- the value is of that builtin type -/
def tyV (K : PySem.W.Frag) (T : String) (x : V) (H : Hp) : Prop := match x with
  | .str _ => T = "str"
  | .int _ => T = "int"
  | .ref p => (T = "list" ∧ ∃ xs, SqL K H p xs) ∨ (T = "tuple" ∧ ∃ o, K.lookup p = some o ∧ o.cls = .type "tuple" ∧ o.dict = none) ∨
      (T = "dict" ∧ ((∃ kvs, H p = some (.dK kvs)) ∨ ∃ kvs, H p = some (.dT kvs))) ∨ (T = "set" ∧ ∃ S n, H p = some (.set S n))
  | _ => False
theorem tyV_is {pins : List (Addr × Obj)} {σ : St} {H : Hp} {s : Shared} {T : String} {x : V} {v : Value} (I : Inv X pins σ H s) (r : RelV x v) (ty : tyV X.K T x H) :
    s.TypeIs v T ∧ ∀ a, v = .ref a → ∃ ob, s.heap.get? a = some ob ∧ ob.dict = none := by
  cases x with
  | str z =>
    obtain ⟨t, rfl⟩ := r
    cases (show T = "str" from ty)
    exact ⟨typeIs_str s z t, fun _ e => nomatch e⟩
  | int i =>
    obtain ⟨t, rfl⟩ := r
    cases (show T = "int" from ty)
    exact ⟨typeIs_int s i t, fun _ e => nomatch e⟩
  | ref p =>
    cases r
    rcases ty with ⟨rfl, xs, hq⟩ | ⟨rfl, o, hk, hc, hd⟩ | ⟨rfl, hk⟩ | ⟨rfl, S, n, hk⟩
    · obtain ⟨its, _, pl, _⟩ := I.list hq
      refine ⟨pl.isList.typeIs, fun a e => ?_⟩
      cases e
      obtain ⟨o, n, e, c, hd, _⟩ := pl
      exact ⟨o, e, hd⟩
    · refine ⟨⟨o, I.kIn p o hk, hc⟩, fun a e => ?_⟩
      cases e
      exact ⟨o, I.kIn _ o hk, hd⟩
    · have z : ∃ o, s.heap.get? p = some o ∧ o.ExactDict := by
        rcases hk with ⟨kvs, hk⟩ | ⟨kvs, hk⟩
        · obtain ⟨_, _, _, _, o, _, _, e, ex, _⟩ := I.hok p _ hk
          exact ⟨o, e, ex⟩
        · obtain ⟨_, _, _, _, o, _, _, e, ex, _⟩ := I.hok p _ hk
          exact ⟨o, e, ex⟩
      obtain ⟨o, e, ex⟩ := z
      refine ⟨⟨o, e, ex.1⟩, fun a e2 => ?_⟩
      cases e2
      exact ⟨o, e, ex.2.1⟩
    · obtain ⟨o, _, _, _, e, ex, _⟩ := I.hok p _ hk
      refine ⟨⟨o, e, ex.1⟩, fun a e2 => ?_⟩
      cases e2
      exact ⟨o, e, ex.2.1⟩
  | _ => exact False.elim ty
def tBM0 (K : PySem.W.Frag) (T : String) (r : V → List V → Hp → VK → Prop) (to : TE) : TE := fun σ H Q => to σ H fun x H1 => tyV K T x H1 ∧ r x [] H1 Q
def tBM (K : PySem.W.Frag) (T : String) (r : V → List V → Hp → VK → Prop) (to : TE) (t : TA) : TE := fun σ H Q => to σ H fun x H1 => tyV K T x H1 ∧ t σ H1 fun xs H2 => r x xs H2 Q
variable {o e : Expr} {es : List Expr} {to : TE} {t : TA} {name : Str} {apos cpos : Pos} {T id : String} {r : V → List V → Hp → VK → Prop}
theorem pe_bm0 (pa : PlainAttrs T) (slot : Slot T name id) (hty : typeOf (.builtin id) = pure (.type "method_descriptor")) (hm : MtR X id r) (ho : PE X o to)
    (hbase : attributeBase o name X.env (eval o X.env) = eval o X.env := by rfl) (hline : (apos.endLine == cpos.line) = true := by rfl) : PE X (.Call (.Attribute o name apos) [] [] cpos) (tBM0 X.K T r to) := by
  intro pins s σ H Q I h
  refine wpAny_Call_method0_late hbase hline (thn (ho pins s σ H _ I h) fun v s1 ⟨x, H1, I1, r1, ty, q1⟩ => ?_)
  obtain ⟨h1, h2⟩ := tyV_is I1 r1 ty
  exact ⟨T, id, pa, slot, hty, h1, h2, Calls.callWith_builtin rfl (PySem.evalArgs_none (hm pins s1 σ H1 x [] v [] Q I1 r1 .nil q1))⟩
theorem pe_bm (pa : PlainAttrs T) (slot : Slot T name id) (hty : typeOf (.builtin id) = pure (.type "method_descriptor")) (hm : MtR X id r) (ho : PE X o to) (ha : PA X (e :: es) t)
    (hbase : attributeBase o name X.env (eval o X.env) = eval o X.env := by rfl)
    (hfew : ((backTo cpos (starEach (e :: es) X.env)).all (fun x => !x.1) && (backToKw cpos (keywordEach [] X.env)).all (fun x => x.1.isSome)
      && decide ((e :: es).length + ([] : List Keyword).length + (if ([] : List Keyword).isEmpty then 0 else 1) < 30)) = true := by rfl)
    (hline : (apos.endLine == cpos.line) = true := by rfl) (hs : starEach (e :: es) X.env = (false, eval e X.env) :: starEach es X.env := by rfl) (hplain : (backTo cpos (starEach es X.env)).any (·.1) = false := by rfl) :
    PE X (.Call (.Attribute o name apos) (e :: es) [] cpos) (tBM X.K T r to t) := by
  intro pins s σ H Q I h
  refine wpAny_Call_method_late hbase hfew hline rfl (thn (ho pins s σ H _ I h) fun v s1 ⟨x, H1, I1, r1, ty, q1⟩ => ?_)
  obtain ⟨h1, h2⟩ := tyV_is I1 r1 ty
  refine ⟨T, id, pa, slot, hty, h1, h2, ?_⟩
  have hA := ha cpos pins s1 σ H1 _ I1 q1
  rw [hs] at hA ⊢
  refine Calls.callWith_builtin (by show (false || (backTo cpos (starEach es X.env)).any (·.1)) = false; rw [hplain] <;> rfl) (Calls.evalArgs_plain ?_)
  exact thn hA fun us s2 ⟨vs, H2, I2, r2, q2⟩ => hm pins s2 σ H2 x vs v us Q I2 r1 r2 q2
/- xs.append(e), list.index on a module's tuple .. are MtR facts of 06m -/
end
end L2

namespace L2
open PySem PySem.Spec PyProof.Rows

def MtM (X : Cx) (id : String) (r : V → List V → Hp → VK → Prop) : Prop :=
  ∀ (pins : List (Addr × Obj)) (s : Shared) (σ : St) (H : Hp) (x : V) (xs : List V) (v : Value) (us : List Value) (Q : VK), Inv X pins σ H s → RelV x v → Vals xs us → r x xs H Q →
    wpAny (model X.prog X.w) X.A (call (.builtin id) (v :: us)) (EP X pins σ Q) X.xe s

/-! ### lists of values -/
theorem Vals.one : ∀ {x : V} {us : List Value}, Vals [x] us → ∃ u, us = [u] ∧ RelV x u
  | _, _, .cons r .nil => ⟨_, rfl, r⟩
theorem Vals.two : ∀ {x y : V} {us : List Value}, Vals [x, y] us → ∃ u v, us = [u, v] ∧ RelV x u ∧ RelV y v
  | _, _, _, .cons r (.cons q .nil) => ⟨_, _, rfl, r, q⟩
theorem Vals.zero : ∀ {us : List Value}, Vals [] us → us = []
  | _, .nil => rfl
theorem Vals.dropLast {xs : List V} {us : List Value} (h : Vals xs us) : Vals xs.dropLast us.dropLast := by
  induction h with
  | nil => exact .nil
  | cons r t ih =>
    cases t with
    | nil => exact .nil
    | cons q t' => exact .cons r ih
theorem Vals.eraseIdx : ∀ {xs : List V} {us : List Value} (i : Nat), Vals xs us → Vals (xs.eraseIdx i) (us.eraseIdx i)
  | _, _, _, .nil => .nil
  | _, _, 0, .cons _ t => t
  | _, _, i + 1, .cons r t => .cons r (Vals.eraseIdx i t)
theorem Vals.reverse {xs : List V} {us : List Value} (h : Vals xs us) : Vals xs.reverse us.reverse := by
  induction h with
  | nil => exact .nil
  | cons r t ih => rw [List.reverse_cons, List.reverse_cons]; exact Vals.append ih (.cons r .nil)
theorem Vals.rep {xs : List V} {us : List Value} (h : Vals xs us) : ∀ k : Nat, Vals (List.replicate k xs).flatten (List.replicate k us).flatten
  | 0 => .nil
  | k + 1 => by
    rw [List.replicate_succ, List.replicate_succ, List.flatten_cons, List.flatten_cons]
    exact Vals.append h (Vals.rep h k)
theorem erase_last {α : Type} (l : List α) : l.eraseIdx (l.length - 1) = l.dropLast := by
  induction l with
  | nil => rfl
  | cons a r ih =>
    cases r with
    | nil => rfl
    | cons b r =>
      have e : (a :: b :: r).length - 1 = ((b :: r).length - 1) + 1 := by
        have h1 : (a :: b :: r).length = r.length + 2 := rfl
        have h2 : (b :: r).length = r.length + 1 := rfl
        omega
      rw [e, List.eraseIdx_cons_succ, ih]
      all_goals rfl
theorem len_erase {α : Type} : ∀ (l : List α) (i : Nat), (l.eraseIdx i).length ≤ l.length
  | [], _ => Nat.le_refl _
  | _ :: _, 0 => Nat.le_succ _
  | _ :: r, i + 1 => Nat.succ_le_succ (len_erase r i)
theorem foldl_rep (its : List Value) : ∀ (k : Nat) (acc : List Value),
    List.foldl (fun x1 x2 => x1 ++ x2) acc.toArray (List.replicate k its.toArray) = (acc ++ (List.replicate k its).flatten).toArray
  | 0, acc => by simp
  | k + 1, acc => by
    have e : acc.toArray ++ its.toArray = (acc ++ its).toArray := by simp
    have e2 : (acc ++ its) ++ (List.replicate k its).flatten = acc ++ (List.replicate (k + 1) its).flatten := by
      rw [List.replicate_succ, List.flatten_cons, List.append_assoc]
    rw [← e2, ← foldl_rep its k (acc ++ its), ← e, List.replicate_succ, List.foldl_cons]

section
variable {X : Cx} {pins : List (Addr × Obj)} {σ : St} {H : Hp} {s : Shared} {l b : Addr} {xs ys zs : List V}

/-! ### the two steps: a tracked list is rewritten, a new list is laid -/
theorem Inv.lset {its its' : List Value} {n : Nat} {f : Array Value → Array Value} {t' : Nat} (I : Inv X pins σ H s) (hH : H l = some (.lst xs))
    (e : s.heap.get? l = some { cls := .type "list", data := .seq its.toArray n }) (hf : f its.toArray = its'.toArray) (hv : Vals ys its') (hz : ys.length ≤ sizeLine) :
    Inv X pins σ (upd H l (.lst ys)) { s with heap := s.heap.update l (Obj.mapSeq f), toks := t' } := by
  have q := PySem.IsL.update e f
  rw [hf] at q
  refine I.write (x := l) (e := l) (by rw [hH]; exact trivial) (.inl rfl) (fun b' u hb hu => (Heap.get?_update_other s.heap (Obj.mapSeq f) (Ne.symm hb)).trans hu) ⟨_, q⟩ ?_
  exact ⟨hz, its', _, hv, q⟩
theorem Inv.lnew {its : List Value} {t' : Nat} (I : Inv X pins σ H s) (hv : Vals ys its) (hz : ys.length ≤ sizeLine) :
    Inv X pins σ (upd H s.heap.objs.size (.lst ys)) { s with heap := s.heap.push { cls := .type "list", data := .seq its.toArray }, toks := t' } :=
  I.laid (fun _ _ q => Heap.get?_push_of_some _ q) (Nat.le_refl _) ⟨hz, its, 0, hv, Heap.get?_push_size _ rfl⟩
theorem Inv.fresh (I : Inv X pins σ H s) : H s.heap.objs.size = none := I.hok.fresh (Nat.le_refl _)
theorem Inv.lstM (I : Inv X pins σ H s) (hH : H l = some (.lst xs)) : xs.length ≤ sizeLine ∧ ∃ (its : List Value) (n : Nat), Vals xs its ∧ xs.length = its.length ∧ s.heap.get? l = some { cls := .type "list", data := .seq its.toArray n } := by
  obtain ⟨z, its, n, r, e⟩ := I.hok l _ hH
  exact ⟨z, its, n, r, r.length, e⟩

theorem notLongL {n : Nat} (h : n ≤ sizeLine) : Builtin.List.listTooLong n = false := by
  unfold Builtin.List.listTooLong
  exact decide_eq_false (by omega)
end

section
variable {X : Cx}

/-! ### methods -/
def rAppend : V → List V → Hp → VK → Prop := fun x vs H Q => ∃ l xs y, x = .ref l ∧ vs = [y] ∧ H l = some (.lst xs) ∧ xs.length < sizeLine ∧ Q .non (upd H l (.lst (xs ++ [y])))
theorem mt_append : MtM X "list.append" rAppend := by
  intro pins s σ H x vs v us Q I rx rv h
  obtain ⟨l, xs, y, rfl, rfl, hH, hz, q⟩ := h
  cases rx
  obtain ⟨u, rfl, ru⟩ := rv.one
  obtain ⟨z, its, n, r, hl, e⟩ := I.lstM hH
  refine call_meets F.slot_list_append ⟨_, e, rfl⟩ F.entry_list_append (F.args_list_append_2 _ _) (PySem.list_append l its.toArray n u (by rw [List.size_toArray]; omega)) ⟨e, ?_⟩
  refine ⟨.non, _, I.lset (its' := its ++ [u]) hH e (by simp) (r.append (.cons ru .nil)) ?_, rfl, q⟩
  rw [List.length_append, List.length_singleton]
  omega

def rExtend : V → List V → Hp → VK → Prop := fun x vs H Q => ∃ l b xs zs, x = .ref l ∧ vs = [.ref b] ∧ H l = some (.lst xs) ∧ H b = some (.lst zs) ∧ xs.length + zs.length ≤ sizeLine ∧ Q .non (upd H l (.lst (xs ++ zs)))
theorem mt_extend : MtM X "list.extend" rExtend := by
  intro pins s σ H x vs v us Q I rx rv h
  obtain ⟨l, b, xs, zs, rfl, rfl, hH, hB, hz, q⟩ := h
  cases rx
  obtain ⟨u, rfl, ru⟩ := rv.one
  cases ru
  obtain ⟨z, its, n, r, hl, e⟩ := I.lstM hH
  obtain ⟨z2, its2, n2, r2, hl2, e2⟩ := I.lstM hB
  have hsz : its.toArray.size + its2.toArray.size ≤ sizeLine := by rw [List.size_toArray, List.size_toArray]; omega
  have hlong : ¬ (!its.toArray.isEmpty && Builtin.List.listTooLong (its.toArray.size + its2.toArray.size)) = true := by
    rw [notLongL hsz, Bool.and_false]
    exact Bool.false_ne_true
  refine call_meets F.slot_list_extend ⟨_, e, rfl⟩ F.entry_list_extend (F.args_list_extend_2 _ _)
    (AutoSeq1.list_extend_list_list_0 l its.toArray n b its2.toArray n2 hlong (by rw [List.size_toArray]; omega) (by omega)) ⟨e, e2, ?_⟩
  refine ⟨.non, _, I.lset (its' := its ++ its2) hH e (by simp) (r.append r2) ?_, rfl, q⟩
  rw [List.length_append]
  omega

def rPop : V → List V → Hp → VK → Prop := fun x vs H Q => ∃ l xs y, x = .ref l ∧ vs = [] ∧ H l = some (.lst xs) ∧ xs[xs.length - 1]? = some y ∧ Q y (upd H l (.lst xs.dropLast))
theorem mt_pop : MtM X "list.pop" rPop := by
  intro pins s σ H x vs v us Q I rx rv h
  obtain ⟨l, xs, y, rfl, rfl, hH, hy, q⟩ := h
  cases rx
  have hus := rv.zero
  subst hus
  obtain ⟨z, its, n, r, hl, e⟩ := I.lstM hH
  obtain ⟨u, hu, ru⟩ := r.get hy
  have hy' : its.toArray[its.toArray.size - 1]? = some u := by
    show its.toArray[its.length - 1]? = some u
    rw [← Array.getElem?_toList, ← hl]
    exact hu
  refine call_meets F.slot_list_pop ⟨_, e, rfl⟩ F.entry_list_pop (F.args_list_pop_1 _) (MeetsSeq.list_pop_last l its.toArray n u hy' (by rw [List.size_toArray]; omega)) ⟨e, ?_⟩
  refine ⟨y, _, I.lset (its' := its.dropLast) hH e ?_ r.dropLast ?_, ru, q⟩
  · show its.toArray.eraseIdxIfInBounds (its.toArray.size - 1) = its.dropLast.toArray
    rw [List.size_toArray, List.eraseIdxIfInBounds_toArray, erase_last]
  · rw [List.length_dropLast]
    omega

def rPopAt : V → List V → Hp → VK → Prop := fun x vs H Q => ∃ l xs i k y, x = .ref l ∧ vs = [.int i] ∧ H l = some (.lst xs) ∧ -(2 ^ 63) ≤ i ∧ i < 2 ^ 63 ∧ seqIndex? i xs.length = some k ∧ xs[k]? = some y ∧ Q y (upd H l (.lst (xs.eraseIdx k)))
theorem mt_popAt : MtM X "list.pop" rPopAt := by
  intro pins s σ H x vs v us Q I rx rv h
  obtain ⟨l, xs, i, k, y, rfl, rfl, hH, h1, h2, hk, hy, q⟩ := h
  cases rx
  obtain ⟨u, rfl, ru⟩ := rv.one
  obtain ⟨t, rfl⟩ := ru
  obtain ⟨z, its, n, r, hl, e⟩ := I.lstM hH
  obtain ⟨w, hw, rw'⟩ := r.get hy
  refine call_meets F.slot_list_pop ⟨_, e, rfl⟩ F.entry_list_pop (F.args_list_pop_2 _ _)
    (MeetsSeq.list_pop_at l its.toArray n i t k w (fitsIndex_both h1 h2) (by rw [List.size_toArray, ← hl]; exact hk) (by rw [← Array.getElem?_toList]; exact hw) (by rw [List.size_toArray]; omega)) ⟨e, ?_⟩
  refine ⟨y, _, I.lset (its' := its.eraseIdx k) hH e ?_ (r.eraseIdx k) ?_, rw', q⟩
  · show its.toArray.eraseIdxIfInBounds k = (its.eraseIdx k).toArray
    rw [List.eraseIdxIfInBounds_toArray]
  · have := len_erase xs k
    omega

def rReverse : V → List V → Hp → VK → Prop := fun x vs H Q => ∃ l xs, x = .ref l ∧ vs = [] ∧ H l = some (.lst xs) ∧ Q .non (upd H l (.lst xs.reverse))
theorem mt_reverse : MtM X "list.reverse" rReverse := by
  intro pins s σ H x vs v us Q I rx rv h
  obtain ⟨l, xs, rfl, rfl, hH, q⟩ := h
  cases rx
  have hus := rv.zero
  subst hus
  obtain ⟨z, its, n, r, hl, e⟩ := I.lstM hH
  refine call_meets F.slot_list_reverse ⟨_, e, rfl⟩ F.entry_list_reverse (F.args_list_reverse_1 _) (AutoSeq1.list_reverse_list_0 l its.toArray n (by rw [List.size_toArray]; omega)) ⟨e, ?_⟩
  refine ⟨.non, _, I.lset (its' := its.reverse) hH e (by simp) r.reverse ?_, rfl, q⟩
  rw [List.length_reverse]
  omega

def rClear : V → List V → Hp → VK → Prop := fun x vs H Q => ∃ l xs, x = .ref l ∧ vs = [] ∧ H l = some (.lst xs) ∧ Q .non (upd H l (.lst []))
theorem mt_clear : MtM X "list.clear" rClear := by
  intro pins s σ H x vs v us Q I rx rv h
  obtain ⟨l, xs, rfl, rfl, hH, q⟩ := h
  cases rx
  have hus := rv.zero
  subst hus
  obtain ⟨z, its, n, r, hl, e⟩ := I.lstM hH
  refine call_meets F.slot_list_clear ⟨_, e, rfl⟩ F.entry_list_clear (F.args_list_clear_1 _) (AutoSeq1.list_clear_list_0 l its.toArray n (by rw [List.size_toArray]; omega)) ⟨e, ?_⟩
  exact ⟨.non, _, I.lset (its' := []) (ys := []) hH e rfl .nil (Nat.zero_le _), rfl, q⟩

/-! ### list + list, list += list, list * int -/
def rCat : R2 := fun x y H Q => ∃ l b xs zs, x = .ref l ∧ y = .ref b ∧ H l = some (.lst xs) ∧ H b = some (.lst zs) ∧ xs.length + zs.length ≤ sizeLine ∧ ∀ p, H p = none → Q (.ref p) (upd H p (.lst (xs ++ zs)))
theorem op_cat : OpR X (binaryOp .Add) rCat := by
  intro pins s σ H x y v u Q I rx ry h
  obtain ⟨l, b, xs, zs, rfl, rfl, hH, hB, hz, q⟩ := h
  cases rx
  cases ry
  obtain ⟨z, its, n, r, hl, e⟩ := I.lstM hH
  obtain ⟨z2, its2, n2, r2, hl2, e2⟩ := I.lstM hB
  refine PySem.P.add_list e e2 ?_ (by rw [List.size_toArray, List.size_toArray]; omega)
  have ea : its.toArray ++ its2.toArray = (its ++ its2).toArray := by simp
  rw [ea]
  exact ⟨.ref _, _, I.lnew (t' := s.toks) (r.append r2) (by rw [List.length_append]; omega), rfl, q _ I.fresh⟩
/-- a list times an int (a negative one is nothing) -/
def rRep : R2 := fun x y H Q => ∃ l k xs, x = .ref l ∧ y = .int k ∧ H l = some (.lst xs) ∧ -(2 ^ 63) ≤ k ∧ k < 2 ^ 63 ∧ xs.length * k.toNat ≤ sizeLine ∧
  ∀ p, H p = none → Q (.ref p) (upd H p (.lst (List.replicate k.toNat xs).flatten))
theorem len_rep {α : Type} (xs : List α) (k : Nat) : (List.replicate k xs).flatten.length = k * xs.length := by
  induction k with
  | zero => simp
  | succ k ih => rw [List.replicate_succ, List.flatten_cons, List.length_append, ih, Nat.succ_mul, Nat.add_comm]
theorem op_rep : OpR X (binaryOp .Mult) rRep := by
  intro pins s σ H x y v u Q I rx ry h
  obtain ⟨l, k, xs, rfl, rfl, hH, h1, h2, hz, q⟩ := h
  cases rx
  obtain ⟨t, rfl⟩ := ry
  obtain ⟨z, its, n, r, hl, e⟩ := I.lstM hH
  have hlen : its.toArray.size * k.toNat ≤ sizeLine := by rw [List.size_toArray, ← hl]; exact hz
  have hcap : ¬ its.toArray.size * k.toNat > (2 ^ 63 - 1) / 8 := by
    have : (sizeLine : Nat) ≤ (2 ^ 63 - 1) / 8 := by decide
    omega
  have hfit : ¬ (!Builtin.List.listFitsIndex k) = true := by
    rw [fitsIndex_both h1 h2]
    exact Bool.false_ne_true
  have hlong : ¬ Builtin.List.listTooLong (its.toArray.size * k.toNat) = true := by
    rw [notLongL hlen]
    exact Bool.false_ne_true
  have hnew : List.foldl (fun x1 x2 => x1 ++ x2) #[] (List.replicate (if its.toArray.isEmpty = true then 0 else k.toNat) its.toArray) = (List.replicate k.toNat its).flatten.toArray := by
    have f0 : ∀ m : Nat, List.foldl (fun x1 x2 => x1 ++ x2) #[] (List.replicate m its.toArray) = (List.replicate m its).flatten.toArray := fun m => by
      have := foldl_rep its m []
      rw [List.nil_append] at this
      exact this
    rw [f0]
    cases its with
    | nil => simp
    | cons a r' => rw [if_neg (by simp)]
  refine wpAny_binaryOp_repeat_ref (T := "list") (U := "int") (by decide) ⟨_, e, rfl⟩ (fun s' => typeIs_int s' k t) noFill_list_mul F.fills_int_mul F.slot_int_rmul repeat_list F.slot_int_index.lookup
    (call_meets F.slot_int_rmul (typeIs_int s k t) F.entry_int_rmul (F.args_int_rmul_2 _ _) (int___rmul___int_list k t l its.toArray n)
      ⟨e, rfl, ⟨_, e, rfl⟩, call_meets F.slot_list_mul ⟨_, e, rfl⟩ F.entry_list_mul (F.args_list_mul_2 _ _) (AutoListH.list___mul___list_int_3 l its.toArray n k t hfit hcap hlong) ⟨e, ?_⟩⟩)
  rw [hnew]
  exact ⟨.ref _, _, I.lnew (t' := s.toks) (r.rep k.toNat) (by rw [len_rep, Nat.mul_comm]; exact hz), rfl, q _ I.fresh⟩

/-! ### del xs[i] -/
theorem del_list {pins : List (Addr × Obj)} {s : Shared} {σ : St} {H : Hp} {l : Addr} {xs : List V} {i : Int} {t : Tok} {k : Nat} {Q : Unit → Shared → Prop} (I : Inv X pins σ H s) (hH : H l = some (.lst xs))
    (h1 : -(2 ^ 63) ≤ i) (h2 : i < 2 ^ 63) (hk : seqIndex? i xs.length = some k) (h : ∀ s', Inv X pins σ (upd H l (.lst (xs.eraseIdx k))) s' → Q () s') :
    wpAny (model X.prog X.w) X.A (delItem (.ref l) (.int i t)) Q X.xe s := by
  obtain ⟨z, its, n, r, hl, e⟩ := I.lstM hH
  refine PySem.P.delItem_list (k := k) e (fitsIndex_both h1 h2) (by rw [List.size_toArray, ← hl]; exact hk) (h _ ?_) (by rw [List.size_toArray]; omega)
  refine I.lset (its' := its.eraseIdx k) (t' := s.toks) hH e ?_ (r.eraseIdx k) ?_
  · show its.toArray.eraseIdxIfInBounds k = (its.eraseIdx k).toArray
    rw [List.eraseIdxIfInBounds_toArray]
  · have := len_erase xs k
    omega
end

/-! ### xs[a:b] = ys -/
section
variable {prog : Program} {w : World} {A : Around} {E : Value → Shared → Prop} {s : Shared}
theorem splice_eq (its its2 : List Value) (a c : Nat) : its.toArray.extract 0 a ++ its2.toArray ++ its.toArray.extract c its.toArray.size = (its.take a ++ its2 ++ its.drop c).toArray := by
  apply Array.toList_inj.mp
  first
    | (simp
       exact List.take_of_length_le (by simp))
    | simp [List.take_of_length_le]
    | simp
theorem bounds_run {a c n : Nat} (hac : a ≤ c) (hc : c ≤ n) : sliceBounds (some (a : Int)) (some (c : Int)) none n = ((a : Int), (c : Int), 1) := by
  simp only [sliceBounds, Option.getD_none]
  have h1 : ¬ ((a : Int) < 0) := by omega
  have h2 : ¬ ((c : Int) < 0) := by omega
  simp only [h1, h2, if_false, show (1 : Int) > 0 by decide, if_true]
  congr 1
  · omega
  · congr 1; omega
set_option maxRecDepth 100000 in
/-- list.__setitem__ with a slice of step one and another list -/
theorem setItem_slice {l b sl : Addr} {items new : Array Value} {n n2 : Nat} {vl vu : Value} {a c : Nat} {Q : Unit → Shared → Prop}
    (e : s.heap.get? l = some { cls := .type "list", data := .seq items n }) (e2 : s.heap.get? b = some { cls := .type "list", data := .seq new n2 }) (hne : l ≠ b)
    (hs : s.heap.IsSliceOf sl vl vu .none) (pl : IsPart vl (some (a : Int))) (pu : IsPart vu (some (c : Int))) (hac : a ≤ c) (hc : c ≤ items.size)
    (hsz : items.size + new.size ≤ sizeLine) (h : Q () { s with heap := s.heap.update l (Obj.mapSeq fun xs => xs.extract 0 a ++ new ++ xs.extract c xs.size) }) :
    wpAny (model prog w) A (setItem (.ref l) (.ref sl) (.ref b)) Q E s := by
  have hl : s.heap.IsList l items := PySem.IsL.isList e
  have hb : s.heap.IsList b new := PySem.IsL.isList e2
  obtain ⟨os, hos, hcs, hds⟩ := id hs
  have hTs : s.TypeIs (.ref sl) "slice" := ⟨os, hos, hcs⟩
  have hstep : ¬ ((rawPart none == rawInt 0) = true) := Bool.false_ne_true
  have hsame : Builtin.List.listSameRef (.ref l) (.ref b) = false := by
    unfold Builtin.List.listSameRef
    exact beq_eq_false_iff_ne.mpr hne
  have hmax : (max (a : Int) (c : Int)).toNat = c := by omega
  have hz' : ((fun xs : Array Value => xs.extract 0 a ++ new ++ xs.extract c xs.size) items).size ≤ sizeLine + 1 := by
    simp only [Array.size_append, Array.size_extract]
    omega
  unfold setItem
  try with_reducible refine wpAny_holding ?_
  first | refine wpAny_bind (wpAny_pure ?_) | skip
  refine wpAny_bind (wpAny_sequenceKey hl.typeIs (by decide) ?_)
  refine wpAny_bind (wpAny_callSpecial?_slot (name := Str.ofString "__setitem__") hl.typeIs slot_list_setitem
    (wpAny_call_entry slot_list_setitem hl.typeIs entry_list_setitem ?_ (args_list_setitem _ _ _)))
  show wpAny _ _ (Builtin.List.listSubscript? (.ref sl) >>= _) _ _ s
  refine wpAny_bind ?_
  unfold Builtin.List.listSubscript?
  refine wpAny_bind (wpAny_specialOf hTs slice_no_index ?_)
  simp only [Option.isNone_none, if_true]
  refine wpAny_pure ?_
  show wpAny _ _ (typeOf (.ref sl) >>= _) _ _ s
  refine wpAny_bind (wpAny_typeOf hTs ?_)
  first
    | rw [if_neg (by decide)]
    | refine PySem.W.KFB.if_not (by decide) ?_
  rw [listSliceParts_eq]
  refine wpAny_bind (wpAny_bind (wpAny_field hos hds (x := .none) rfl (wpAny_bind (wpAny_listPart .none ?_))))
  rw [if_neg hstep]
  refine wpAny_bind (wpAny_field hos hds (x := vl) rfl (wpAny_bind (wpAny_listPart pl ?_)))
  refine wpAny_bind (wpAny_field hos hds (x := vu) rfl (wpAny_bind (wpAny_listPart pu (wpAny_pure ?_))))
  first
    | simp only [hsame, Bool.false_eq_true, if_false]
    | refine PySem.W.KFB.if_not hsame ?_
    | (dsimp only
       rw [if_neg (by rw [hsame]; exact Bool.false_ne_true)])
  refine wpAny_bind (m := Builtin.List.listAllItems (.ref b) "must assign iterable to extended slice") ?_
  unfold Builtin.List.listAllItems
  refine wpAny_bind (wpAny_typeOf hb.typeIs ?_)
  first
    | refine PySem.W.KFB.if_so (by decide) ?_
    | rw [if_pos (by decide)]
    | simp only [beq_self_eq_true, Bool.true_or, if_true]
  unfold Builtin.List.listItems
  refine wpAny_bind (wpAny_seqItems e2 rfl (wpAny_pure ?_))
  refine wpAny_bind (wpAny_bind (wpAny_seqItems e rfl (wpAny_pure ?_)))
  refine wpAny_bind (wpAny_of_eq ((sliceIndices_raw (some (a : Int)) (some (c : Int)) none items.size (by simp)).trans (congrArg (pure : Int × Int × Int → Sem (Int × Int × Int)) (bounds_run hac hc))) ?_)
  show wpAny _ _ (if ((1 : Int) == 1) = true then _ else _) _ _ s
  rw [if_pos (by decide)]
  refine wpAny_bind (wpAny_rule ?_)
  first
    | simp only [notLongL hsz, Bool.false_eq_true, if_false]
    | refine PySem.W.KFB.if_not (notLongL hsz) ?_
  first | refine wpAny_bind (wpAny_pure ?_) | skip
  show wpAny _ _ (updateSeq l (fun xs => xs.extract 0 ((a : Int)).toNat ++ new ++ xs.extract (max (a : Int) (c : Int)).toNat xs.size) >>= _) _ _ s
  rw [hmax, Int.toNat_natCast]
  refine wpAny_bind (wpAny_updateSeq (hz := Nat.le_trans (Nat.le_add_right _ _) hsz) (_hz' := hz') e rfl ?_)
  refine wpAny_bind (wpAny_letGo ?_)
  first
    | exact wpAny_bind (wpAny_pure (wpAny_pure ⟨.none, rfl, wpAny_pure h⟩))
    | exact wpAny_pure ⟨.none, rfl, wpAny_pure h⟩
end

section
variable {X : Cx}
/-- xs[a:c] = ys of another list, at the value level: sl is the slice object that was just made -/
theorem set_slice {pins : List (Addr × Obj)} {s : Shared} {σ : St} {H : Hp} {l b sl : Addr} {xs ys : List V} {a c : Int} {vl vu : Value} {Q : Unit → Shared → Prop} (I : Inv X pins σ H s)
    (hH : H l = some (.lst xs)) (hB : H b = some (.lst ys)) (hne : l ≠ b) (hs : s.heap.IsSliceOf sl vl vu .none) (ra : RelV (.int a) vl) (rc : RelV (.int c) vu) (h0 : 0 ≤ a) (hac : a ≤ c) (hc : c ≤ xs.length)
    (hz : xs.length + ys.length ≤ sizeLine) (h : ∀ s', Inv X pins σ (upd H l (.lst (xs.take a.toNat ++ ys ++ xs.drop c.toNat))) s' → Q () s') :
    wpAny (model X.prog X.w) X.A (setItem (.ref l) (.ref sl) (.ref b)) Q X.xe s := by
  obtain ⟨ta, rfl⟩ := ra
  obtain ⟨tc, rfl⟩ := rc
  obtain ⟨z, its, n, r, hl, e⟩ := I.lstM hH
  obtain ⟨z2, its2, n2, r2, hl2, e2⟩ := I.lstM hB
  obtain ⟨a', rfl⟩ := Int.eq_ofNat_of_zero_le h0
  obtain ⟨c', rfl⟩ := Int.eq_ofNat_of_zero_le (Int.le_trans h0 hac)
  simp only [Int.toNat_natCast] at h
  refine setItem_slice (a := a') (c := c') e e2 hne hs (.int _ _) (.int _ _) (by omega) (by rw [List.size_toArray]; omega) (by rw [List.size_toArray, List.size_toArray]; omega) (h _ ?_)
  refine I.lset (its' := its.take a' ++ its2 ++ its.drop c') (t' := s.toks) hH e ?_ (Vals.append (Vals.append (r.take _) r2) (r.drop _)) ?_
  · exact splice_eq its its2 a' c'
  · rw [List.length_append, List.length_append, List.length_take, List.length_drop]
    omega
end
end L2

namespace Att
open PySem PySem.W PySem.Calls PyProof.Rows

/-! ### the script -/
theorem ints_of_wellAll {P : Params} {h : Heap} : ∀ (ns : List Int) (vs : List Value), WellAll P h vs (ns.map WData.int) → IntsAre vs ns := by
  intro ns
  induction ns with
  | nil =>
    intro vs w
    rw [List.map_nil] at w
    cases w
    exact .nil
  | cons n ns ih =>
    intro vs w
    rw [List.map_cons] at w
    cases w with
    | cons a b =>
      cases a
      exact .cons _ _ (ih _ b)

theorem script_of {l : OpenLaw} {n : Nat} (hn : l.most = some n) {P : Params} {h : Heap} {args : List WData} {vals : List Value}
    (hpre : l.row.toRowW.claim.pre args = true) (hwl : WellAll P h vals args) :
    ∃ a vs ns, vals = [Value.ref a] ∧ args = [WData.list (ns.map WData.int)] ∧ h.get? a = some { cls := .type "list", data := .seq vs.toArray } ∧ IntsAre vs ns ∧ ns.length ≤ n := by
  have hsh : WShape.hasAll [] args [.list .int] = true := (pre_splitW hpre).1
  have hc : l.pre.holds [] { args := args } = true := (pre_splitW hpre).2
  obtain ⟨d, r, rfl, h1, h2⟩ := hasAllW_cons hsh
  obtain rfl := hasAllW_nil h2
  obtain ⟨xs, rfl, h3⟩ := hasW_list h1
  obtain ⟨ns, rfl⟩ := items_int h3
  have hlen : ns.length ≤ n := by
    unfold OpenLaw.pre at hc
    have h4 : (WTm.not (.lt (.lit (.int (n : Int))) (.len (.arg 0)))).holds [] { args := [.list (ns.map .int)] } = true := by
      have h4 := (holds_andW hc).1
      rw [hn] at h4
      exact h4
    have h5 := condW_of h4 (w_not (w_lt w_lit (w_len_list (w_arg rfl))))
    rw [List.length_map] at h5
    refine Nat.le_of_not_lt fun q => ?_
    have q' : (n : Int) < ((ns.length : Nat) : Int) := by omega
    first
      | (rw [decide_eq_true q'] at h5; exact absurd h5 (by decide))
      | (simp at h5; omega)
  cases hwl with
  | cons w1 w2 =>
    cases w2
    cases w1 with
    | list ho hall => exact ⟨_, _, ns, rfl, rfl, ho, ints_of_wellAll ns _ hall, hlen⟩

theorem post_true (l : OpenLaw) (args : List WData) : l.row.toRowW.claim.post args (.bool true) args = true :=
  postW_of (r := l.row.toRowW) (X := (true == true))
    (show WShape.has [] (.bool true) .bool = true by first | rfl | decide | simp [WShape.has, WShape.arms, WShape.armsAll])
    (show (WTm.eq .res (.lit (.bool true))).value [] { args := args, res := some (.bool true), after := args } = some (.bool (true == true)) from w_eq_bool (w_res rfl) w_lit) rfl

/-! ### the attachment: holds_open's last premise (the goal 'hc' behind k_head) from a wpAny of the law's body -/
theorem attach {l : OpenLaw} {n : Nat} {q : Program} {loose : List Str} {XP : (Str → Option Value) → Heap → Prop} {YP : World → Heap → Prop} {d : DefRec} {x : Str}
    (hn : l.most = some n) (hdf : d.params.defaults = [])
    (hbind : ∀ pm cd doc v : Value, bindArgs (docDef d.name d.params d.body d.scope pm cd doc) ⟨[v], []⟩ = pure [(x, v)])
    (hx : d.scope.names.lookup x = some .local ∨ d.scope.names.lookup x = some .cell)
    (hk : d.scope.kind = .function) (hco : d.scope.isCoroutine = false) (hgen : d.scope.isGenerator = false)
    (body : ∀ (w : World) (s₀ s₁ s : Shared) (mg mb : Str → Option Value) (fa : Addr) (o : Obj) (pm cd doc : Value) (a : Addr) (vs : List Value) (ns : List Int),
      Ground q loose [] XP w s₀ mg mb s₁.heap → YP w s₁.heap →
      s₁.heap.get? fa = some o → o.data = .func (docDef d.name d.params d.body d.scope pm cd doc) → s₁.heap.CodeRec cd d.name → mg d.name = some (.ref fa) →
      s₁.heap.get? a = some { cls := .type "list", data := .seq vs.toArray } → IntsAre vs ns → ns.length ≤ n →
      s.gens = #[] → s.os = s₁.os →
      Fr s₁.heap s₁.heap.objs.size s.heap (bindL (envOfC d.name d.scope s₁.heap.objs.size fa cd).kindOf [(x, .ref a)] fun _ => none) →
      Cl s₁.heap.objs.size (cellsFrom (s₁.heap.objs.size + 1) d.scope.names []) s.heap (bindC (envOfC d.name d.scope s₁.heap.objs.size fa cd).kindOf [(x, .ref a)] fun _ => none) →
      wpAny (model l.prog w) (callerA.deeper (envOfC d.name d.scope s₁.heap.objs.size fa cd)) (execs d.body (envOfC d.name d.scope s₁.heap.objs.size fa cd))
        (fun f s' => f = .ret (.bool true) ∧ OldK s₁.heap s'.heap ∧ s'.os = s₁.os ∧ AllBare s'.gens) (fun _ _ => False) s) :
    WalkO q loose XP YP l.row.toRowW d [] (fun f vs => PySem.call f vs) := by
  intro w s₀ s₁ mg mb G Y fa o pm cd doc dV kV ho hd hcd hD hmg hg args vals as hpre hlay hrd hwl hlo
  obtain rfl : dV = .none := Dflts.none hD hdf
  obtain rfl : kV = .none := Dflts.noKw hD
  obtain ⟨a, vs, ns, rfl, rfl, hobj, hints, hlen⟩ := script_of hn hpre hwl
  refine enter_call ?_
  refine call_cells_ret (o := o) (by rw [depth_caller]; decide) ho (fd_plain hd) G.T.nolimit hcd (hbind pm cd doc (.ref a)) (fun y hy => ?_) (fun h₁ tk F X => ?_) hco hgen hk
  · obtain rfl : y = (x, Value.ref a) := List.mem_singleton.mp hy
    rcases hx with e | e
    · exact .inl e
    · exact .inr ⟨e, cellsFrom_some _ _ _ (.inl e)⟩
  · refine wpAny_mono (body w s₀ s₁ { s₁ with heap := h₁, toks := tk } mg mb fa o pm cd doc a vs ns G Y ho (fd_plain hd) hcd hmg hobj hints hlen hg rfl F X) (fun f s' hq => ?_) (fun _ _ hq => hq)
    obtain ⟨rfl, h2, h3, h4⟩ := hq
    exact ⟨.inl ⟨.bool true, .bool true, [], rfl, fun _ => rfl, .bool true, post_true l _, fun _ => ⟨List.Pairwise.nil, fun _ hm => (nomatch hm)⟩⟩, h2, h3, h4⟩

/-- the same from a codeAny of the CALL (for a layer whose function contracts speak of calls) -/
theorem attach_call {l : OpenLaw} {n : Nat} {q : Program} {loose : List Str} {XP : (Str → Option Value) → Heap → Prop} {YP : World → Heap → Prop} {d : DefRec}
    (hn : l.most = some n) (hdf : d.params.defaults = [])
    (call : ∀ (w : World) (s₀ s₁ : Shared) (mg mb : Str → Option Value) (fa : Addr) (o : Obj) (pm cd doc : Value) (a : Addr) (vs : List Value) (ns : List Int),
      Ground q loose [] XP w s₀ mg mb s₁.heap → YP w s₁.heap →
      s₁.heap.get? fa = some o → o.data = .func (docDef d.name d.params d.body d.scope pm cd doc) → s₁.heap.CodeRec cd d.name → mg d.name = some (.ref fa) →
      s₁.heap.get? a = some { cls := .type "list", data := .seq vs.toArray } → IntsAre vs ns → ns.length ≤ n → s₁.gens = #[] →
      codeAny (model l.prog w) callerA (.call (.ref fa) ⟨[.ref a], []⟩) (fun r s' => r = .ok (.ret (.bool true)) ∧ OldK s₁.heap s'.heap ∧ s'.os = s₁.os ∧ AllBare s'.gens) s₁) :
    WalkO q loose XP YP l.row.toRowW d [] (fun f vs => PySem.call f vs) := by
  intro w s₀ s₁ mg mb G Y fa o pm cd doc dV kV ho hd hcd hD hmg hg args vals as hpre hlay hrd hwl hlo
  obtain rfl : dV = .none := Dflts.none hD hdf
  obtain rfl : kV = .none := Dflts.noKw hD
  obtain ⟨a, vs, ns, rfl, rfl, hobj, hints, hlen⟩ := script_of hn hpre hwl
  refine enter_call (codeAny_mono (call w s₀ s₁ mg mb fa o pm cd doc a vs ns G Y ho (fd_plain hd) hcd hmg hobj hints hlen hg) fun r s' hq => ?_)
  obtain ⟨rfl, h2, h3, h4⟩ := hq
  exact ⟨.inl ⟨.bool true, .bool true, [], rfl, fun _ => rfl, .bool true, post_true l _, fun _ => ⟨List.Pairwise.nil, fun _ hm => (nomatch hm)⟩⟩, h2, h3, h4⟩

/-- the same where the top left finished generators (o_head chose holds_openN): nothing may have changed at all and no generator may be left -/
theorem attachN {l : OpenLaw} {n : Nat} {q : Program} {loose : List Str} {XP : (Str → Option Value) → Heap → Prop} {YP : World → Heap → Prop} {d : DefRec} {x : Str}
    (hn : l.most = some n) (hdf : d.params.defaults = [])
    (hbind : ∀ pm cd doc v : Value, bindArgs (docDef d.name d.params d.body d.scope pm cd doc) ⟨[v], []⟩ = pure [(x, v)])
    (hx : d.scope.names.lookup x = some .local ∨ d.scope.names.lookup x = some .cell)
    (hk : d.scope.kind = .function) (hco : d.scope.isCoroutine = false) (hgen : d.scope.isGenerator = false)
    (body : ∀ (w : World) (s₀ s₁ s : Shared) (mg mb : Str → Option Value) (fa : Addr) (o : Obj) (pm cd doc : Value) (a : Addr) (vs : List Value) (ns : List Int),
      Ground q loose [] XP w s₀ mg mb s₁.heap → YP w s₁.heap →
      s₁.heap.get? fa = some o → o.data = .func (docDef d.name d.params d.body d.scope pm cd doc) → s₁.heap.CodeRec cd d.name → mg d.name = some (.ref fa) →
      s₁.heap.get? a = some { cls := .type "list", data := .seq vs.toArray } → IntsAre vs ns → ns.length ≤ n →
      s.gens = #[] → s.os = s₁.os →
      Fr s₁.heap s₁.heap.objs.size s.heap (bindL (envOfC d.name d.scope s₁.heap.objs.size fa cd).kindOf [(x, .ref a)] fun _ => none) →
      Cl s₁.heap.objs.size (cellsFrom (s₁.heap.objs.size + 1) d.scope.names []) s.heap (bindC (envOfC d.name d.scope s₁.heap.objs.size fa cd).kindOf [(x, .ref a)] fun _ => none) →
      wpAny (model l.prog w) (callerA.deeper (envOfC d.name d.scope s₁.heap.objs.size fa cd)) (execs d.body (envOfC d.name d.scope s₁.heap.objs.size fa cd))
        (fun f s' => f = .ret (.bool true) ∧ (∀ b o, s₁.heap.get? b = some o → s'.heap.get? b = some o) ∧ s'.os = s₁.os ∧ s'.gens = #[]) (fun _ _ => False) s) :
    WalkN q loose XP YP l.row.toRowW d [] (fun f vs => PySem.call f vs) := by
  intro w s₀ s₁ mg mb G Y fa o pm cd doc dV kV ho hd hcd hD hmg hg args vals as hpre hlay hrd hwl hlo
  obtain rfl : dV = .none := Dflts.none hD hdf
  obtain rfl : kV = .none := Dflts.noKw hD
  obtain ⟨a, vs, ns, rfl, rfl, hobj, hints, hlen⟩ := script_of hn hpre hwl
  refine enter_callW ?_
  refine call_cells_ret (o := o) (by rw [depth_caller]; decide) ho (fd_plain hd) G.T.nolimit hcd (hbind pm cd doc (.ref a)) (fun y hy => ?_) (fun h₁ tk F X => ?_) hco hgen hk
  · obtain rfl : y = (x, Value.ref a) := List.mem_singleton.mp hy
    rcases hx with e | e
    · exact .inl e
    · exact .inr ⟨e, cellsFrom_some _ _ _ (.inl e)⟩
  · refine wpAny_mono (body w s₀ s₁ { s₁ with heap := h₁, toks := tk } mg mb fa o pm cd doc a vs ns G Y ho (fd_plain hd) hcd hmg hobj hints hlen hg rfl F X) (fun f s' hq => ?_) (fun _ _ hq => hq)
    obtain ⟨rfl, h2, h3, h4⟩ := hq
    exact ⟨.inl ⟨.bool true, .bool true, [], rfl, fun _ => rfl, .bool true, post_true l _, fun _ => ⟨List.Pairwise.nil, fun _ hm => (nomatch hm)⟩⟩, h2, h3, h4⟩

/-! ### rules over ANY heap (no ledger) from facts about the written part K: the library's own take a ledger (News) for what they write -/
section
variable {prog : Program} {w : World} {A : Around} {E : Value → Shared → Prop} {s : Shared} {K : Frag}

/-- a def of the module, or a method (qual 'C.m'), entered: the frame is the next address; cells behind it -/
theorem call_fn {R : Result → Shared → Prop} {name qual : Str} {params : Arguments} {body : List Stmt} {scope : Scope} {dV kV doc pm cdv ct oc : Value} {an od : Option Addr} {osl : Array (Option Value)} {f : Addr} {args : Args} {binds : List (Str × Value)}
    (X : K.In s.heap) (hlim : s.heap.NoLimit) (ho : K.lookup f = some ⟨oc, od, .func (fnOf name qual params body scope dV kV doc pm an cdv ct), osl⟩) (hcd : codeIn K cdv qual = true) (hroom : A.depth < recursionLimit)
    (hbind : BindsTo s (fnOf name qual params body scope dV kV doc pm an cdv ct) args binds)
    (hkind : (binds.all fun y => scope.names.lookup y.1 == some .local || scope.names.lookup y.1 == some .cell) = true)
    (h : ∀ s₁, InCallC s s.heap.objs.size (bindL (envOfC qual scope s.heap.objs.size f cdv).kindOf binds fun _ => none) (cellsFrom (s.heap.objs.size + 1) scope.names [])
        (bindC (envOfC qual scope s.heap.objs.size f cdv).kindOf binds fun _ => none) s₁ →
      wpAny (model prog w) (A.deeper (envOfC qual scope s.heap.objs.size f cdv)) (execs body (envOfC qual scope s.heap.objs.size f cdv))
        (fun fl s' => R (.ok (.ret (match fl with | .ret v => v | _ => .none))) s')
        (fun e s' => wpAny (model prog w) (A.deeper (envOfC qual scope s.heap.objs.size f cdv)) (leaving (envOfC qual scope s.heap.objs.size f cdv) e) (fun _ s'' => R (.error e) s'') (fun e' s'' => R (.error e') s'') s') s₁)
    (hco : scope.isCoroutine = false) (hgen : scope.isGenerator = false) (hk : scope.kind = .function) : codeAny (model prog w) A (.call (.ref f) args) R s := by
  refine codeAny_call_function hroom (X _ _ ho) rfl hco hgen rfl (codeRec_of X hcd) (hbind _ _ _ _ ?_)
  refine wpAny_newFunctionEnv_cells hk (kindsX hkind _) fun env he s₁ x => ?_
  subst he
  exact ⟨hlim.keeps x.toInCall.keep, codeAny_func (h s₁ x)⟩

/-- C(..): dict at size, instance at size + 1, then __init__ -/
theorem make_obj {R : Result → Shared → Prop} {C fI : Addr} {rest : List Value} {kw : List (Str × Value)}
    (X : K.In s.heap) (hm : makesIn K C = true) (hi : findIn K (.ref C) "__init__" = some (some (.ref fI))) (hf : isFn K (.ref fI) = true)
    (h : codeAny (model prog w) (A.under (.builtin "type.__call__" ⟨.ref C :: rest, kw⟩)) (.call (.ref fI) ⟨.ref (s.heap.objs.size + 1) :: rest, kw⟩) (InitBack (s.heap.objs.size + 1) R)
      { s with heap := (s.heap.push emptyDict).push (instObj C s.heap.objs.size) }) : codeAny (model prog w) A (.call (.ref C) ⟨rest, kw⟩) R s := by
  obtain ⟨hh, g, d, t, os⟩ := s
  exact make_core (makes_of X hm) (looks_findIn X hi) (fun self => bind_fn X self (beq_iff_eq.mp hf)) (.inl rfl) h

/-- x.name where the instance's dict holds the name and the class does not -/
theorem get_field {x C : Addr} {ox : Obj} {es : List DictEntry} {n : Nat} {name : Str} {expr : Bool} {v : Value} {Q : Value → Shared → Prop}
    (X : K.In s.heap) (I : PySem.W.InstAt s.heap x ox C (some (dictOf es n))) (hg : plainGet K C name = true) (hh : hasDictIn K C = true) (ha : findIn K (.ref C) name = some none)
    (hl : getL name es = some (some v)) (hv : handedIn v = true) (h : Q v { s with toks := s.toks + 1 }) : wpAny (model prog w) A (getAttr (.ref x) name expr) Q E s :=
  get_value X I (plainGet_of hg).1 (findObj_own hh ha rfl hl) hv h

/-- x.m(..): the method found in the class -/
theorem get_method {x C f : Addr} {ox : Obj} {es : List DictEntry} {n : Nat} {name : Str} {pl : Sem Bool} {Q : Value × List Value → Shared → Prop}
    (X : K.In s.heap) (I : PySem.W.InstAt s.heap x ox C (some (dictOf es n))) (hg : plainGet K C name = true) (hf : findIn K (.ref C) name = some (some (.ref f))) (ht : isFn K (.ref f) = true)
    (hl : getL name es = some none) (h : Q (.ref f, [.ref x]) s) : wpAny (model prog w) A (getMethod (.ref x) name pl) Q E s :=
  method_fn X I (plainGet_of hg).1 (plainGet_of hg).2 hf (beq_iff_eq.mp ht) (by show (lookIn name (dictOf es n)).map _ = _; rw [lookIn_dict, hl]; rfl) h

/-! the whole heap as the ledger: makes every rule that writes through a ledger a rule over any heap -/
def noObjs (h : Heap) : Heap := { h with objs := #[] }
theorem noObjs_get (h : Heap) (b : Addr) : (noObjs h).get? b = none := by
  cases e : (noObjs h).get? b with
  | none => rfl
  | some o => exact absurd (Heap.lt_size e) (Nat.not_lt_zero _)
def ledger (h : Heap) (L d : Addr) : List (Addr × Obj) := (List.range h.objs.size).filterMap fun a => if a = L ∨ a = d then none else (h.get? a).map fun o => (a, o)
theorem mem_ledger {h : Heap} {L d a : Addr} {o : Obj} : (a, o) ∈ ledger h L d ↔ a ≠ L ∧ a ≠ d ∧ h.get? a = some o := by
  unfold ledger
  rw [List.mem_filterMap]
  constructor
  · rintro ⟨b, _, e⟩
    split at e
    · cases e
    · rename_i hb
      obtain ⟨o', ho, e'⟩ := Option.map_eq_some_iff.mp e
      cases e'
      exact ⟨fun q => hb (.inl q), fun q => hb (.inr q), ho⟩
  · rintro ⟨n1, n2, ho⟩
    refine ⟨a, List.mem_range.mpr (Heap.lt_size ho), ?_⟩
    rw [if_neg (show ¬ (a = L ∨ a = d) from fun q => q.elim n1 n2), ho] <;> rfl
theorem news_ledger {h : Heap} {L d : Addr} {od : Obj} (hne : d ≠ L) (ho : h.get? d = some od) : News (noObjs h) L h ([] ++ (d, od) :: ledger h L d) := by
  rintro ⟨a, o⟩ hp
  rcases List.mem_cons.mp hp with e | hp
  · cases e
    exact ⟨ho, hne, noObjs_get _ _⟩
  · obtain ⟨n1, n2, e⟩ := mem_ledger.mp hp
    exact ⟨e, n1, noObjs_get _ _⟩
theorem fr_all {h : Heap} {L : Addr} {m : Str → Option Value} (n : h.Ns L m) : Fr (noObjs h) L h m :=
  ⟨n, fun b o e => (by rw [noObjs_get] at e; cases e), Nat.zero_le _⟩
/-- Upd of the head entry (for append_K, setItem_K ..) -/
theorem upd_ledger {h : Heap} {L d : Addr} {o o' : Obj} : Upd d o o' ((d, o) :: ledger h L d) ((d, o') :: ledger h L d) :=
  .head fun ⟨_, _⟩ hp => (mem_ledger.mp hp).2.1

/-- x.name = v over any heap: L is any namespace of the heap (the frame's, say): its map stays, its object is not told; all else but the dict stays -/
theorem set_field {x C dx L : Addr} {ox : Obj} {m : Str → Option Value} {es es' : List DictEntry} {n n' : Nat} {name : Str} {v : Value} {Q : Unit → Shared → Prop}
    (X : K.In s.heap) (I : PySem.W.InstAt s.heap x ox C (some (dictOf es n))) (hd : ox.dict = some dx) (hL : s.heap.Ns L m) (hne : dx ≠ L)
    (hs : findIn K (.ref C) "__setattr__" = some (some (.builtin "object.__setattr__"))) (hp : plainOver K C = true) (ht : takerIn K C name = some none) (hh : hasDictIn K C = true) (hl : (getL name es).isSome = true)
    (e : (putL name (PyData.keyHash w.params name) (.str name (s.toks + 1)) v es, putN name es n) = (es', n')) (hz : es'.length ≤ 1000)
    (h : ∀ h' : Heap, h'.Ns L m → h'.get? dx = some (dictOf es' n') → (∀ b o, b ≠ dx → b ≠ L → s.heap.get? b = some o → h'.get? b = some o) → Q () { s with heap := h', toks := s.toks + 2 }) :
    wpAny (model prog w) A (setAttr (.ref x) name v) Q E s := by
  obtain ⟨e1, e2⟩ := Prod.mk.inj e
  have hdx : s.heap.get? dx = some (dictOf es n) := by
    have := I.dict
    rw [hd] at this
    exact this
  refine set_plain X I hs (osa_dict (s := { s with toks := s.toks + 1 }) (h₀ := noObjs s.heap) (L := L) (m := m) (od := dictOf es n) (od' := dictOf es' n') (es := es') (n := n') (pre := []) (post := ledger s.heap L dx)
    (fr_all hL) (news_ledger hne hdx) X I hd hp ht hh hl (fun _ q => nomatch q) (fun ⟨_, _⟩ q => (mem_ledger.mp q).2.1) (by rw [putName_dict, e1, e2]) rfl hz fun h' F' N' => ?_)
  exact h h' F'.ns (N'.get (List.Mem.head _)) fun b o n1 n2 ho => N'.get (List.Mem.tail _ (mem_ledger.mpr ⟨n2, n1, ho⟩))
end
end Att

namespace L2
open PySem PySem.Spec PyProof.Rows

theorem vals_ints : ∀ {vs : List Value} {ns : List Int}, IntsAre vs ns → Vals (ns.map V.int) vs
  | _, _, .nil => .nil
  | _, _, .cons n t h => .cons ⟨t, rfl⟩ (vals_ints h)

/-- nothing is tracked but the script, known to the object (or it is an object of the module) -/
def Only (H : Hp) : Prop := ∀ b, H b = none ∨ ∃ o xs, H b = some (.frz o (.lst xs))

/-- THE HEAD: the law's promise, at the heap behind the top. F, the promise of the law's def, may use that base is part of the heap (so K.In base, base.Ns mainGlobals mg stand in Mod) -/
theorem law_call {P : Program} {w : World} {K : PySem.W.Frag} {mg mb : Str → Option Value} {CX : CXT} {k : Nat} {fa a : Addr} {fd : FuncData} {x : Str} {sp : Sp} {s₁ : Shared} {vs : List Value} {ns : List Int}
    (KX : K.In s₁.heap) (hns : s₁.heap.Ns mainGlobals mg) (hb : s₁.heap.Ns builtinsNs mb) (hbb : ∀ x : Str, x ≠ "__name__" → mb x = bootBuiltins x) (hlim : s₁.heap.NoLimit) (hg : s₁.gens = #[])
    (ha : s₁.heap.get? a = some { cls := .type "list", data := .seq vs.toArray }) (hi : IntsAre vs ns) (hl : ns.length ≤ sizeLine) (hr : Room k callerA)
    (F : ∀ base : Heap, K.In base → base.Ns mainGlobals mg → FnOk P w K mg base CX k fa fd [x] sp) (hbind : ∀ (s : Shared) (u : Value), BindsTo s fd ⟨[u], []⟩ [(x, u)])
    (hsp : ∀ H : Hp, Only H → SqL K H a (ns.map V.int) → sp [.ref a] H (fun v _ => v = .bl true) fun _ _ _ => False)
    (hCX : ∀ H e s', CX [] H s₁ (fun _ _ _ => False) e s' → False) :
    codeAny (model P w) callerA (.call (.ref fa) ⟨[.ref a], []⟩) (fun r s' => r = .ok (.ret (.bool true)) ∧ OldK s₁.heap s'.heap ∧ s'.os = s₁.os ∧ AllBare s'.gens) s₁ := by
  have rv := vals_ints hi
  have lenV := hi.length
  -- from an abstract heap in which nothing but the script may be tracked
  have core : ∀ H : Hp, Only H → SqL K H a (ns.map V.int) → HOk P w H s₁.heap → (∀ b, H b ≠ none → b = a) → (H a ≠ none → K.lookup a = none) →
      codeAny (model P w) callerA (.call (.ref fa) ⟨[.ref a], []⟩) (fun r s' => r = .ok (.ret (.bool true)) ∧ OldK s₁.heap s'.heap ∧ s'.os = s₁.os ∧ AllBare s'.gens) s₁ := by
    intro H hO hS hok hA hK
    have base_of : ∀ {b : Addr} {o : Obj}, s₁.heap.get? b = some o → H b = none → (hidT s₁.heap H).get? b = some o := fun e n => hidT_get e n
    have noA : ∀ {b : Addr} {o : Obj} {es : Array DictEntry} {ep : Nat}, s₁.heap.get? b = some o → o.data = .dict es ep → H b = none := fun {b o es ep} e d => by
      cases q : H b with
      | none => rfl
      | some u =>
        have e' : b = a := hA b (by rw [q]; simp)
        subst e'
        rw [ha] at e; cases e
        have d' : Data.seq vs.toArray _ = Data.dict es ep := d
        cases d'
    have nsK : ∀ {b : Addr} {m : Str → Option Value}, s₁.heap.Ns b m → (hidT s₁.heap H).Ns b m := fun {b m} ⟨o, es, ep, e, d, r⟩ => ⟨o, es, ep, base_of e (noA e d), d, r⟩
    have hKb : K.In (hidT s₁.heap H) := fun b o e => base_of (KX b o e) (by
      cases q : H b with
      | none => rfl
      | some u =>
        have e' : b = a := hA b (by rw [q]; simp)
        subst e'
        rw [hK (by rw [q]; simp)] at e; cases e)
    have hM : Mod K mg (hidT s₁.heap H) := ⟨hKb, nsK hns, ⟨mb, nsK hb, hbb⟩, let ⟨mc, h1, h2⟩ := hlim; ⟨mc, nsK h1, h2⟩⟩
    have e0 : Env0 P w K mg (hidT s₁.heap H) callerA [] s₁ H := ⟨rfl, hM, fun b o e => of_hidT e, Nat.le_of_eq (hidT_size _ _), trivial, fun b hb => absurd (show b ∈ ([] : List Addr) from hb) (by simp), hok, .of_eq hg⟩
    refine codeAny_mono ((F _ hKb (nsK hns)).run callerA [] s₁ H ⟨[.ref a], []⟩ [.ref a] [.ref a] _ _ hr e0 (hbind s₁ (.ref a)) (.cons rfl .nil) (hsp H hO hS)) fun r s' h => ?_
    cases r with
    | error e => exact (hCX H e s' h).elim
    | ok fl =>
      cases fl with
      | next => exact False.elim h
      | brk => exact False.elim h
      | cont => exact False.elim h
      | ret u =>
        obtain ⟨v, H', os, bare, un, hok', r', q⟩ := h
        have q' : v = .bl true := q
        subst q'
        obtain rfl : u = Value.bool true := r'
        refine ⟨rfl, OldK.of_keep fun b o e => ?_, os, bare⟩
        cases q : H b with
        | none => exact un.keep b o e q (by intro z; exact absurd (show b ∈ ([] : List Addr) from z) (by simp)) (by simp)
        | some u =>
          rcases hO b with z | ⟨ob, xs, z⟩
          · rw [q] at z; cases z
          · have z2 := un.frzs b ob _ z
            obtain ⟨e1, _⟩ := hok b _ z
            obtain ⟨e2, _⟩ := hok' b _ z2
            rw [e] at e1; cases e1
            exact e2
  cases hk : K.lookup a with
  | some o =>
    -- the script is one of the module's own objects
    have e := KX a o hk
    rw [ha] at e
    cases e
    refine core (fun _ => none) (fun _ => .inl rfl) (.inr ⟨_, vs.toArray, _, hk, rfl, rfl, rfl, by rw [List.size_toArray, lenV]; exact hl, by simpa using rv⟩) (fun b u z => by have z' : (none : Option HO) = some u := z; cases z') (fun b z => absurd rfl z) fun z => absurd rfl z
  | none =>
    refine core (fun b => if b = a then some (.frz { cls := .type "list", data := .seq vs.toArray } (.lst (ns.map V.int))) else none) (fun b => ?_) (.inl (.inr ⟨{ cls := .type "list", data := .seq vs.toArray }, if_pos rfl⟩)) (fun b u z => ?_) (fun b z => ?_) fun _ => hk
    · by_cases hb : b = a
      · exact .inr ⟨_, _, if_pos hb⟩
      · exact .inl (if_neg hb)
    · by_cases hb : b = a
      · have z' := (if_pos hb).symm.trans z
        cases z'
        subst hb
        exact ⟨ha, by rw [List.length_map]; exact hl, vs, _, rv, ha⟩
      · have z' := (if_neg hb).symm.trans z
        cases z'
    · by_cases hb : b = a
      · exact hb
      · exact absurd (if_neg hb) z
end L2

namespace L2
open PySem PySem.Spec PyProof.Rows

abbrev KOf {K : PySem.W.Frag} {h : Heap} (_ : K.In h) : PySem.W.Frag := K

/-- the goal that k_head leaves (case hc), from the law's promise. F gives the function object fd (K's own) once, then the promise over every base -/
theorem walk_of {l : PySem.W.OpenLaw} {n k : Nat} {q : Program} {loose : List Str} {XP : (Str → Option Value) → Heap → Prop} {YP : World → Heap → Prop} {d : DefRec} {K : Params → PySem.W.Frag} {CX : World → CXT} {sp : World → Sp} {x : Str}
    (hn : l.most = some n) (hn2 : n ≤ sizeLine) (hdf : d.params.defaults = []) (hr : Room k callerA)
    (hY : ∀ (w : World) (h : Heap), YP w h → (K w.params).In h)
    (F : ∀ (w : World) (mg : Str → Option Value) (fa : Addr) (h : Heap), (K w.params).In h → h.Ns mainGlobals mg → mg d.name = some (.ref fa) →
      ∃ fd : FuncData, (∀ (s : Shared) (u : Value), BindsTo s fd ⟨[u], []⟩ [(x, u)]) ∧
        ∀ base : Heap, (K w.params).In base → base.Ns mainGlobals mg → FnOk l.prog w (K w.params) mg base (CX w) k fa fd [x] (sp w))
    (hsp : ∀ (w : World) (H : Hp) (a : Addr) (ns : List Int), ns.length ≤ n → Only H → SqL (K w.params) H a (ns.map V.int) → sp w [.ref a] H (fun v _ => v = .bl true) fun _ _ _ => False)
    (hCX : ∀ (w : World) (H : Hp) (s : Shared) (e : Value) (s' : Shared), CX w [] H s (fun _ _ _ => False) e s' → False) :
    PySem.W.WalkO q loose XP YP l.row.toRowW d [] (fun f vs => PySem.call f vs) := by
  refine Att.attach_call hn hdf fun w s₀ s₁ mg mb fa o pm cd doc a vs ns G Y ho hd hcd hmg hobj hints hlen hg => ?_
  have KX := hY w _ Y
  obtain ⟨fd, hb, hF⟩ := F w mg fa _ KX G.T.g hmg
  exact law_call KX G.T.g G.T.b G.T.builtins G.T.nolimit hg hobj hints (Nat.le_trans hlen hn2) hr hF hb (fun H hO hS => hsp w H a ns hlen hO hS) fun H e s' => hCX w H s₁ e s'
/-- the same where the promise hangs on the written part alone: (sp := My.sp_law), no hole under a binder -/
theorem walk_ofK {l : PySem.W.OpenLaw} {n k : Nat} {q : Program} {loose : List Str} {XP : (Str → Option Value) → Heap → Prop} {YP : World → Heap → Prop} {d : DefRec} {K : Params → PySem.W.Frag} {CX : CXT} {sp : PySem.W.Frag → Sp} {x : Str}
    (hn : l.most = some n) (hn2 : n ≤ sizeLine) (hdf : d.params.defaults = []) (hr : Room k callerA)
    (hY : ∀ (w : World) (h : Heap), YP w h → (K w.params).In h)
    (F : ∀ (w : World) (mg : Str → Option Value) (fa : Addr) (h : Heap), (K w.params).In h → h.Ns mainGlobals mg → mg d.name = some (.ref fa) →
      ∃ fd : FuncData, (∀ (s : Shared) (u : Value), BindsTo s fd ⟨[u], []⟩ [(x, u)]) ∧
        ∀ base : Heap, (K w.params).In base → base.Ns mainGlobals mg → FnOk l.prog w (K w.params) mg base CX k fa fd [x] (sp (K w.params)))
    (hsp : ∀ (K : PySem.W.Frag) (H : Hp) (a : Addr) (ns : List Int), ns.length ≤ n → Only H → SqL K H a (ns.map V.int) → sp K [.ref a] H (fun v _ => v = .bl true) fun _ _ _ => False)
    (hCX : ∀ (H : Hp) (s : Shared) (e : Value) (s' : Shared), CX [] H s (fun _ _ _ => False) e s' → False) :
    PySem.W.WalkO q loose XP YP l.row.toRowW d [] (fun f vs => PySem.call f vs) :=
  walk_of (K := K) (CX := fun _ => CX) (sp := fun w => sp (K w.params)) hn hn2 hdf hr hY F (fun w H a ns h1 h2 h3 => hsp (K w.params) H a ns h1 h2 h3) fun _ H s e s' => hCX H s e s'
end L2



/-! SHORT WORDS over the layer: a def of the text, its body, what a loop and a test want. -/
namespace L2
open PySem PySem.Spec PyProof.Rows

/-! ### the text by places -/
/-- the j-th statement of a class's body -/
def inClass (s : Stmt) (j : Nat) : Stmt := match s with
  | .ClassDef _ _ _ body _ _ _ _ _ _ _ => body.getD j (.Pass ⟨0, 0, 0, 0⟩)
  | _ => .Pass ⟨0, 0, 0, 0⟩
def defArgs (s : Stmt) : Arguments := match s with
  | .FunctionDef _ a _ _ _ _ _ _ _ _ => a
  | _ => { posonlyargs := [], args := [], vararg := none, kwonlyargs := [], kw_defaults := [], kwarg := none, defaults := [] }
def defBody (s : Stmt) : List Stmt := match s with
  | .FunctionDef _ _ b _ _ _ _ _ _ _ => b
  | _ => []
def defScope (s : Stmt) : Scope := match s with
  | .FunctionDef _ _ _ _ _ _ sc _ _ _ => sc
  | _ => { kind := .function, names := [], isGenerator := false, isCoroutine := false }

/-! ### no exception leaves a def -/
abbrev CX0 : CXT := fun _ _ _ _ _ _ => False
abbrev E0 : XK := fun _ _ _ => False
theorem pass0 {X : Cx} : Passes CX0 X E0 := fun _ _ _ _ _ _ _ h => h.elim

/-! ### a def (or method) of the text as it stands behind the top -/
structure Fun (K : PySem.W.Frag) (x qual : Str) (st : Stmt) (f : Addr) (fd : FuncData) : Prop where
  ex : ∃ (oc : Value) (od : Option Addr) (kV doc pm : Value) (an : Option Addr) (cdv ct : Value) (osl : Array (Option Value)),
    fd = PySem.W.fnOf x qual (defArgs st) (defBody st) (defScope st) .none kV doc pm an cdv ct ∧ K.lookup f = some ⟨oc, od, .func fd, osl⟩ ∧ PySem.W.codeIn K cdv qual = true
  kp : PySem.W.keepIn K (.ref f) = true
section
variable {P : Program} {w : World} {K : PySem.W.Frag} {mg : Str → Option Value} {base : Heap}
/-- THE RULE for a def: its body as a term of rules, and the reading of that term -/
theorem Fun.ok {x qual : Str} {st : Stmt} {f : Addr} {fd : FuncData} {N ps : List Str} {k : Nat} {sp : Sp} (F : Fun K x qual st f fd) (S : FnScope N ps (defScope st)) (len : ∀ vs H Q E, sp vs H Q E → vs.length = ps.length)
    (hbody : ∀ (cdv : Value) (A : Around) (outer : List Env) (s : Shared) (H : Hp) (vs : List V) (Q : VK) (E : XK), Room k (A.deeper (envOfC qual (defScope st) s.heap.objs.size f cdv)) → sp vs H Q E →
      ∃ t, PSs (cxOf CX0 P w K mg base N qual (defScope st) f cdv A outer s H E).nox (defBody st) t ∧ t { nx := fun _ H' => Q .non H', rt := Q } (start N vs) H) : FnOk P w K mg base CX0 (k + 1) f fd ps sp := by
  obtain ⟨oc, od, kV, doc, pm, an, cdv, ct, osl, rfl, lk, hcd⟩ := F.ex
  refine fn_of lk hcd S len fun A outer s H vs Q E hr hsp => ?_
  obtain ⟨t, h, q⟩ := hbody cdv A outer s H vs Q E hr hsp
  exact ⟨t, h.nox, q⟩
/-- how its arguments bind (no defaults): h is «fun _ _ _ _ _ _ us hl => match us, hl with | [_, _], _ => rfl», one _ a parameter -/
theorem Fun.binds {x qual : Str} {st : Stmt} {f : Addr} {fd : FuncData} {ps : List Str} (F : Fun K x qual st f fd)
    (h : ∀ (kV doc pm : Value) (an : Option Addr) (cdv ct : Value) (us : List Value), us.length = ps.length → bindArgs (PySem.W.fnOf x qual (defArgs st) (defBody st) (defScope st) .none kV doc pm an cdv ct) ⟨us, []⟩ = pure (ps.zip us)) : Binds K fd ps [] := by
  obtain ⟨oc, od, kV, doc, pm, an, cdv, ct, osl, rfl, lk, hcd⟩ := F.ex
  exact .all (h kV doc pm an cdv ct)
theorem fun_mk {x qual : Str} {st : Stmt} {f : Addr} {oc : Value} {od an : Option Addr} {osl : Array (Option Value)} {kV doc pm cdv ct : Value} (l : K.lookup f = some ⟨oc, od, .func (PySem.W.fnOf x qual (defArgs st) (defBody st) (defScope st) .none kV doc pm an cdv ct), osl⟩)
    (c : PySem.W.codeIn K cdv qual = true) (k : PySem.W.keepIn K (.ref f) = true) : Fun K x qual st f (PySem.W.fnOf x qual (defArgs st) (defBody st) (defScope st) .none kV doc pm an cdv ct) := ⟨⟨oc, od, kV, doc, pm, an, cdv, ct, osl, rfl, l, c⟩, k⟩
end
theorem hu_of {A : Around} {k : Nat} (hr : Room k A) : A.units + 1 < cLine := Nat.lt_of_le_of_lt (Nat.add_le_add_left (by decide : 1 ≤ 64) _) hr.units
theorem small1000 {n : Nat} (h : n ≤ 1000) : n < sizeLine := Nat.lt_of_le_of_lt h (by decide)

/-! ### expressions in short: the name that stands in the i-th slot -/
section
variable {X : Cx}
theorem pv (i : Nat) {x : Str} {pos : Pos} (hN : X.N[i]? = some x := by rfl) (hv : Vis X.env.scope x := by first | exact Or.inl rfl | exact Or.inr (Or.inl rfl) | exact Or.inr (Or.inr rfl)) (hd : (x == ("__debug__" : Str)) = false := by decide)
    (hcd : (x == ("__classdict__" : Str)) = false := by decide) : PE X (.Name x pos) (tVar i) := pe_var hN hv hd hcd
end

/-! ### tests -/
theorem iteF {A B : Prop} (h : B) : if false = true then A else B := by
  rw [if_neg Bool.false_ne_true]
  exact h
theorem iteT {A B : Prop} (h : A) : if true = true then A else B := by
  rw [if_pos rfl]
  exact h
theorem ite2 {c A B : Prop} [Decidable c] (h1 : c → A) (h2 : ¬ c → B) : if c then A else B := by
  by_cases h : c
  · rw [if_pos h]
    exact h1 h
  · rw [if_neg h]
    exact h2 h
theorem iteNS {c A B : Prop} [Decidable c] (hc : c) (h : B) : if (!decide c) = true then A else B := by
  rw [decide_eq_true hc]
  exact iteF h

/-! ### heaps -/
/-- all that was tracked is as it was -/
def Same (H H' : Hp) : Prop := ∀ b o, H b = some o → H' b = some o
theorem Same.refl (H : Hp) : Same H H := fun _ _ h => h
theorem Same.trans {H H1 H2 : Hp} (a : Same H H1) (b : Same H1 H2) : Same H H2 := fun c o h => b c o (a c o h)
theorem Same.free {H H' : Hp} (e : Same H H') {l : Addr} (h : H' l = Option.none) : H l = Option.none := by
  cases q : H l with
  | none => rfl
  | some o =>
    rw [e l o q] at h
    cases h
theorem Same.seq {K : PySem.W.Frag} {H H' : Hp} {a : Addr} {xs : List V} (e : Same H H') (h : SqL K H a xs) : SqL K H' a xs := by
  rcases h with (h | ⟨o, h⟩) | h
  · exact .inl (.inl (e _ _ h))
  · exact .inl (.inr ⟨o, e _ _ h⟩)
  · exact .inr h

end L2
namespace L2
open PySem PySem.Spec PyProof.Rows

/-! ### lists of pairs as tables -/
section
variable {κ : Type} [DecidableEq κ]
def valV (kvs : List (κ × V)) (k : κ) : Option V := (kvs.find? fun kv => decide (kv.1 = k)).map (·.2)
/-- in its place, or at the end -/
def putK (kvs : List (κ × V)) (k : κ) (v : V) : List (κ × V) :=
  if (kvs.any fun kv => decide (kv.1 = k)) = true then kvs.map (fun kv => if kv.1 = k then (kv.1, v) else kv) else kvs ++ [(k, v)]
def dropK (kvs : List (κ × V)) (k : κ) : List (κ × V) := kvs.filter fun kv => decide (kv.1 ≠ k)

theorem valV_nil {k : κ} : valV ([] : List (κ × V)) k = none := rfl
theorem valV_pos {p : κ × V} {r : List (κ × V)} {k : κ} (e : p.1 = k) : valV (p :: r) k = some p.2 := by simp [valV, List.find?_cons, e]
theorem valV_neg {p : κ × V} {r : List (κ × V)} {k : κ} (e : ¬ p.1 = k) : valV (p :: r) k = valV r k := by simp [valV, List.find?_cons, e]
theorem valV_any (k : κ) : ∀ kvs : List (κ × V), (kvs.any fun kv => decide (kv.1 = k)) = (valV kvs k).isSome
  | [] => rfl
  | p :: r => by
    rw [List.any_cons]
    by_cases e : p.1 = k
    · simp only [valV_pos e, decide_eq_true e, Bool.true_or, Option.isSome_some]
    · rw [valV_neg e, decide_eq_false e, Bool.false_or]; exact valV_any k r
theorem valV_map (k j : κ) (y : V) : ∀ kvs : List (κ × V), valV (kvs.map fun kv => if kv.1 = k then (kv.1, y) else kv) j = (valV kvs j).map fun x => if j = k then y else x
  | [] => rfl
  | p :: r => by
    have ih := valV_map k j y r
    rw [List.map_cons]
    by_cases h : p.1 = k
    · rw [if_pos h]
      by_cases e : p.1 = j
      · rw [valV_pos (p := (p.1, y)) e, valV_pos e, Option.map_some, if_pos (e.symm.trans h)]
      · rw [valV_neg (p := (p.1, y)) e, valV_neg e, ih]
    · rw [if_neg h]
      by_cases e : p.1 = j
      · rw [valV_pos (p := p) e, valV_pos e, Option.map_some, if_neg (fun z => h (e.trans z))]
      · rw [valV_neg (p := p) e, valV_neg e, ih]
theorem valV_snoc (k j : κ) (y : V) : ∀ kvs : List (κ × V), valV kvs k = none → valV (kvs ++ [(k, y)]) j = if j = k then some y else valV kvs j
  | [], _ => by
    by_cases e : k = j
    · rw [if_pos e.symm]; exact valV_pos (p := (k, y)) e
    · rw [if_neg (fun z => e z.symm)]; exact valV_neg (p := (k, y)) e
  | p :: r, hn => by
    rw [List.cons_append]
    have hk : ¬ p.1 = k := fun z => by rw [valV_pos z] at hn; cases hn
    rw [valV_neg hk] at hn
    have ih := valV_snoc k j y r hn
    by_cases e : p.1 = j
    · rw [valV_pos e, valV_pos e, if_neg (fun z => hk (e.trans z))]
    · rw [valV_neg e, valV_neg e, ih]
theorem valV_put (kvs : List (κ × V)) (k j : κ) (y : V) : valV (putK kvs k y) j = if j = k then some y else valV kvs j := by
  unfold putK
  by_cases a : (kvs.any fun kv => decide (kv.1 = k)) = true
  · rw [if_pos a, valV_map]
    rw [valV_any] at a
    by_cases e : j = k
    · obtain ⟨x, hx⟩ := Option.isSome_iff_exists.mp a
      rw [if_pos e, e, hx, Option.map_some, if_pos rfl]
    · rw [if_neg e]
      cases valV kvs j with
      | none => rfl
      | some x => rw [Option.map_some, if_neg e]
  · rw [if_neg a]
    refine valV_snoc k j y kvs ?_
    rw [valV_any] at a
    cases q : valV kvs k with
    | none => rfl
    | some x => rw [q] at a; exact (a rfl).elim
theorem length_putK (kvs : List (κ × V)) (k : κ) (v : V) : (putK kvs k v).length ≤ kvs.length + 1 := by
  unfold putK
  split
  · rw [List.length_map]; omega
  · rw [List.length_append, List.length_cons, List.length_nil]; omega
theorem putK_new {kvs : List (κ × V)} {k : κ} (v : V) (h : valV kvs k = none) : putK kvs k v = kvs ++ [(k, v)] := by
  unfold putK
  rw [valV_any, h]
  exact if_neg (by decide)

theorem RelO.isSome_eq {o : Option V} {u : Option Value} (r : RelO o u) : o.isSome = u.isSome := by
  cases o with
  | none => cases u with
    | none => rfl
    | some _ => exact (show False from r).elim
  | some _ => cases u with
    | none => exact (show False from r).elim
    | some _ => rfl
theorem RelO.getD {o : Option V} {u : Option Value} {d : V} {d' : Value} (r : RelO o u) (rd : RelV d d') : RelV (o.getD d) (u.getD d') := by
  cases o with
  | none => cases u with
    | none => exact rd
    | some _ => exact (show False from r).elim
  | some _ => cases u with
    | none => exact (show False from r).elim
    | some _ => exact r

/-- raw tables of the same keys -/
theorem KV.val {kvs : List (κ × V)} {vs : List (κ × Value)} (r : KV kvs vs) (k : κ) : RelO (valV kvs k) (valueAt vs k) := by
  unfold KV at r
  induction r with
  | nil => exact True.intro
  | @cons p q ps qs h t ih =>
    obtain ⟨h1, h2⟩ := h
    by_cases e : p.1 = k
    · have e' : q.1 = k := h1.symm.trans e
      have b : valueAt (q :: qs) k = some q.2 := by simp [valueAt, List.find?_cons, e']
      rw [valV_pos e, b]; exact h2
    · have e' : ¬ q.1 = k := fun z => e (h1.trans z)
      have b : valueAt (q :: qs) k = valueAt qs k := by simp [valueAt, List.find?_cons, e']
      rw [valV_neg e, b]; exact ih
theorem KV.any {kvs : List (κ × V)} {vs : List (κ × Value)} (r : KV kvs vs) (k : κ) : (kvs.any fun kv => decide (kv.1 = k)) = vs.any fun kv => decide (kv.1 = k) := by
  unfold KV at r
  induction r with
  | nil => rfl
  | cons h t ih => rw [List.any_cons, List.any_cons, ih, h.1]
theorem KV.repl {kvs : List (κ × V)} {vs : List (κ × Value)} (r : KV kvs vs) (k : κ) {y : V} {u : Value} (ry : RelV y u) :
    KV (kvs.map fun kv => if kv.1 = k then (kv.1, y) else kv) (vs.map fun kv => if kv.1 = k then (kv.1, u) else kv) := by
  unfold KV at r ⊢
  induction r with
  | nil => exact .nil
  | @cons p q ps qs h t ih =>
    rw [List.map_cons, List.map_cons]
    refine .cons ?_ ih
    obtain ⟨h1, h2⟩ := h
    by_cases e : p.1 = k
    · rw [if_pos e, if_pos (h1.symm.trans e)]; exact ⟨h1, ry⟩
    · rw [if_neg e, if_neg (fun z => e (h1.trans z))]; exact ⟨h1, h2⟩
theorem KV.put {kvs : List (κ × V)} {vs : List (κ × Value)} (r : KV kvs vs) (k : κ) {y : V} {u : Value} (ry : RelV y u) : KV (putK kvs k y) (stored vs k u) := by
  unfold putK stored
  rw [r.any k]
  by_cases e : (vs.any fun kv => decide (kv.1 = k)) = true
  · rw [if_pos e, if_pos e]; exact r.repl k ry
  · rw [if_neg e, if_neg e]; exact Paired.snoc r ⟨rfl, ry⟩
theorem KV.drop {kvs : List (κ × V)} {vs : List (κ × Value)} (r : KV kvs vs) (k : κ) : KV (dropK kvs k) (without vs k) := by
  unfold KV at r ⊢
  unfold dropK without
  induction r with
  | nil => exact .nil
  | @cons p q ps qs h t ih =>
    obtain ⟨h1, h2⟩ := h
    rw [List.filter_cons, List.filter_cons]
    by_cases e : p.1 = k
    · have a : ¬ decide (p.1 ≠ k) = true := by simp [e]
      have b : ¬ decide (q.1 ≠ k) = true := by simp [h1.symm.trans e]
      rw [if_neg a, if_neg b]; exact ih
    · have e' : ¬ q.1 = k := fun z => e (h1.trans z)
      have a : decide (p.1 ≠ k) = true := by simp [e]
      have b : decide (q.1 ≠ k) = true := by simp [e']
      rw [if_pos a, if_pos b]; exact .cons ⟨h1, h2⟩ ih
theorem KV.keys {kvs : List (κ × V)} {vs : List (κ × Value)} (r : KV kvs vs) : kvs.map (·.1) = vs.map (·.1) := by
  unfold KV at r
  induction r with
  | nil => rfl
  | cons h t ih => rw [List.map_cons, List.map_cons, ih, h.1]
theorem KV.length {kvs : List (κ × V)} {vs : List (κ × Value)} (r : KV kvs vs) : kvs.length = vs.length := Paired.length r
theorem dropK_le (kvs : List (κ × V)) (k : κ) : (dropK kvs k).length ≤ kvs.length := List.length_filter_le _ _
end


/-! ### a tracked dict, its keys ints and texts or tuples of these -/
theorem kV_is {P : Program} {w : World} {k : Key} {u : Value} (r : RelV (kV k) u) : (mixKind P w).is k u = true := by
  cases k with
  | inl i => obtain ⟨t, e⟩ := (show ∃ t, u = Value.int i t from r); subst e; exact mixKind_int P w i t
  | inr x => obtain ⟨t, e⟩ := (show ∃ t, u = Value.str x t from r); subst e; exact mixKind_str P w x t
theorem kV_inj {a b : Key} (e : kV a = kV b) : a = b := by
  cases a with
  | inl i => cases b with
    | inl j => have e' : V.int i = V.int j := e; injection e' with e'; rw [e']
    | inr y => exact nomatch (show V.int i = V.str y from e)
  | inr x => cases b with
    | inl j => exact nomatch (show V.str x = V.int j from e)
    | inr y => have e' : V.str x = V.str y := e; injection e' with e'; rw [e']
theorem kVs_inj : ∀ {a b : List Key}, a.map kV = b.map kV → a = b
  | [], [], _ => rfl
  | [], _ :: _, e => by simp at e
  | _ :: _, [], e => by simp at e
  | x :: xs, y :: ys, e => by
    rw [List.map_cons, List.map_cons] at e
    injection e with e1 e2
    rw [kV_inj e1, kVs_inj e2]
theorem items_are {P : Program} {w : World} : ∀ {ks : List Key} {us : List Value}, Vals (ks.map kV) us → ItemsAre (mixKind P w) ks us
  | [], _, r => by rw [List.map_nil] at r; cases r; exact .nil
  | k :: ks, _, r => by
    rw [List.map_cons] at r
    cases r with
    | cons h t => exact .cons (kV_is h) (items_are t)

/-- raw entries of a dict with tuple keys -/
abbrev KT (H : Hp) : List (List Key × V) → List (List Key × Addr × Value) → Prop := Paired fun p q => p.1 = q.1 ∧ H q.2.1 = some (.tup (p.1.map kV)) ∧ RelV p.2 q.2.2
theorem KT.val {H : Hp} {kvs : List (List Key × V)} {xs : List (List Key × Addr × Value)} (r : KT H kvs xs) (k : List Key) : RelO (valV kvs k) ((atKey xs k).map (·.2)) := by
  induction r with
  | nil => exact True.intro
  | @cons p q ps qs h t ih =>
    obtain ⟨h1, _, h2⟩ := h
    by_cases e : p.1 = k
    · have e' : q.1 = k := h1.symm.trans e
      have b : atKey (q :: qs) k = some q.2 := by simp [atKey, List.find?_cons, e']
      rw [valV_pos e, b]; exact h2
    · have e' : ¬ q.1 = k := fun z => e (h1.trans z)
      have b : atKey (q :: qs) k = atKey qs k := by simp [atKey, List.find?_cons, e']
      rw [valV_neg e, b]; exact ih
theorem KT.repl {H : Hp} {kvs : List (List Key × V)} {xs : List (List Key × Addr × Value)} (r : KT H kvs xs) (k : List Key) {y : V} {u : Value} (ry : RelV y u) :
    KT H (kvs.map fun kv => if kv.1 = k then (kv.1, y) else kv) (xs.map (putAt k u)) := by
  induction r with
  | nil => exact .nil
  | @cons p q ps qs h t ih =>
    rw [List.map_cons, List.map_cons]
    refine .cons ?_ ih
    obtain ⟨h1, h2, h3⟩ := h
    unfold putAt
    by_cases e : p.1 = k
    · rw [if_pos e, if_pos (h1.symm.trans e)]; exact ⟨h1, h2, ry⟩
    · rw [if_neg e, if_neg (fun z => e (h1.trans z))]; exact ⟨h1, h2, h3⟩
theorem KT.put {H : Hp} {kvs : List (List Key × V)} {xs : List (List Key × Addr × Value)} (r : KT H kvs xs) (k : List Key) {b : Addr} {y : V} {u : Value} (hb : H b = some (.tup (k.map kV))) (ry : RelV y u) :
    KT H (putK kvs k y) (storedH xs k b u) := by
  have e : (kvs.any fun kv => decide (kv.1 = k)) = (atKey xs k).isSome := by
    rw [valV_any, (r.val k).isSome_eq, Option.isSome_map]
  unfold putK storedH
  rw [e]
  by_cases q : (atKey xs k).isSome = true
  · rw [if_pos q, if_pos q]; exact r.repl k ry
  · rw [if_neg q, if_neg q]; exact Paired.snoc r ⟨rfl, hb, ry⟩
theorem KT.keeps {H H' : Hp} {kvs : List (List Key × V)} {xs : List (List Key × Addr × Value)} (r : KT H kvs xs) (ht : ∀ b ys, H b = some (.tup ys) → H' b = some (.tup ys)) : KT H' kvs xs :=
  Paired.mapP r fun _ _ z => ⟨z.1, ht _ _ z.2.1, z.2.2⟩

section
variable {P : Program} {w : World} {H : Hp} {h : Heap} {a : Addr}
theorem rd_of {u : HO} (ok : HOk P w H h) (e : Rd H a u) : ObjOk P w H h a u := e.ok ok
theorem dk_rd {kvs : List (Key × V)} (ok : HOk P w H h) (e : Rd H a (.dK kvs)) : kvs.length ≤ sizeLine ∧ (a == sysModules) = false ∧ ∃ vs, KV kvs vs ∧ h.DictOf (mixKind P w) a vs :=
  show ObjOk P w H h a (.dK kvs) from rd_of ok e
theorem dk_of {kvs : List (Key × V)} (ok : HOk P w H h) (e : H a = some (.dK kvs)) : kvs.length ≤ sizeLine ∧ (a == sysModules) = false ∧ ∃ vs, KV kvs vs ∧ h.DictOf (mixKind P w) a vs := dk_rd ok (.inl e)
/-- a tracked tuple of ints and texts is a key -/
theorem key_of {ks : List Key} (ok : HOk P w H h) (e : H a = some (.tup (ks.map kV))) : (tupleKind (mixKind P w)).is h ks a := by
  obtain ⟨_, its, r, o, h1, h2, n, h3⟩ := (show ObjOk P w H h a (.tup (ks.map kV)) from ok a _ e)
  exact ⟨o, its.toArray, n, h1, h2, h3, by simpa using items_are r⟩
theorem dt_rd {kvs : List (List Key × V)} (ok : HOk P w H h) (e : Rd H a (.dT kvs)) : kvs.length ≤ sizeLine ∧ (a == sysModules) = false ∧
    ∃ xs, KT H kvs xs ∧ h.DictOfH (tupleKind (mixKind P w)) a xs := by
  obtain ⟨z, y, xs, r, o, es, ep, h1, h2, h3, h4, h5⟩ := (show ObjOk P w H h a (.dT kvs) from rd_of ok e)
  refine ⟨z, y, xs, r, o, es, ep, h1, h2, h3, h4, fun x hx => ?_, h5⟩
  have all : ∀ {l : List (List Key × V)} {m : List (List Key × Addr × Value)}, KT H l m → ∀ x ∈ m, (tupleKind (mixKind P w)).is h x.1 x.2.1 := by
    intro l m q
    induction q with
    | nil => intro x hx; exact nomatch hx
    | @cons p q ps qs hq t ih =>
      intro x hx
      rcases List.mem_cons.mp hx with e | hx
      · subst e
        exact key_of ok (by rw [← hq.1]; exact hq.2.1)
      · exact ih x hx
  exact all r x hx
theorem dt_of {kvs : List (List Key × V)} (ok : HOk P w H h) (e : H a = some (.dT kvs)) : kvs.length ≤ sizeLine ∧ (a == sysModules) = false ∧
    ∃ xs, KT H kvs xs ∧ h.DictOfH (tupleKind (mixKind P w)) a xs := dt_rd ok (.inl e)
end

/-- what the dict at a holds at the key y -/
def DGet (H : Hp) (a : Addr) (y : V) (r : Option V) : Prop :=
  (∃ kvs k, Rd H a (.dK kvs) ∧ y = kV k ∧ r = valV kvs k) ∨ ∃ kvs k b, Rd H a (.dT kvs) ∧ y = .ref b ∧ H b = some (.tup (k.map kV)) ∧ r = valV kvs k
/-- the heap behind a[y] = v -/
def DPut (H : Hp) (a : Addr) (y v : V) (H' : Hp) : Prop :=
  (∃ kvs k, H a = some (.dK kvs) ∧ y = kV k ∧ kvs.length < sizeLine ∧ H' = upd H a (.dK (putK kvs k v))) ∨
  ∃ kvs k b, H a = some (.dT kvs) ∧ y = .ref b ∧ H b = some (.tup (k.map kV)) ∧ kvs.length < sizeLine ∧ H' = upd H a (.dT (putK kvs k v))
theorem DGet.k {H : Hp} {a : Addr} {kvs : List (Key × V)} {k : Key} (e : H a = some (.dK kvs)) : DGet H a (kV k) (valV kvs k) := .inl ⟨kvs, k, .inl e, rfl, rfl⟩
theorem DGet.t {H : Hp} {a b : Addr} {kvs : List (List Key × V)} {k : List Key} (e : H a = some (.dT kvs)) (eb : H b = some (.tup (k.map kV))) : DGet H a (.ref b) (valV kvs k) := .inr ⟨kvs, k, b, .inl e, rfl, eb, rfl⟩
theorem DPut.k {H : Hp} {a : Addr} {kvs : List (Key × V)} {k : Key} {v : V} (e : H a = some (.dK kvs)) (hl : kvs.length < sizeLine) : DPut H a (kV k) v (upd H a (.dK (putK kvs k v))) := .inl ⟨kvs, k, e, rfl, hl, rfl⟩
theorem DPut.t {H : Hp} {a b : Addr} {kvs : List (List Key × V)} {k : List Key} {v : V} (e : H a = some (.dT kvs)) (eb : H b = some (.tup (k.map kV))) (hl : kvs.length < sizeLine) :
    DPut H a (.ref b) v (upd H a (.dT (putK kvs k v))) := .inr ⟨kvs, k, b, e, rfl, eb, hl, rfl⟩


section
variable {X : Cx} {pins : List (Addr × Obj)} {σ : St} {H : Hp} {s : Shared} {a : Addr} {y v : V} {u r : Value} {o : Option V} {A : Around} {E : Value → Shared → Prop}

theorem Inv.big (I : Inv X pins σ H s) : sysModules < s.heap.objs.size := by
  have h : mainGlobals < s.heap.objs.size := (I.mod.glob.keeps I.bk).lt
  exact Nat.lt_trans (by decide) h

/-- d[y], there -/
theorem d_getItem {Q : Value → Shared → Prop} (hu : A.units + 1 < cLine) (I : Inv X pins σ H s) (g : DGet H a y (some v)) (ry : RelV y u) (h : ∀ w' s', Inv X pins σ H s' → RelV v w' → Q w' s') :
    wpAny (model X.prog X.w) A (getItem (.ref a) u) Q E s := by
  rcases g with ⟨kvs, k, e, ey, l⟩ | ⟨kvs, k, b, e, ey, eb, l⟩
  · subst ey
    obtain ⟨z, hd, vs, rel, dd⟩ := dk_rd I.hok e
    obtain ⟨w', hw, rw'⟩ := RelO.some_of (v := v) (o := valueAt vs k) (by rw [l]; exact rel.val k)
    exact wpAny_getItem_of (kV_is ry) dd.mapOf hw (h w' _ (I.tok _) rw')
  · subst ey
    cases (show u = Value.ref b from ry)
    obtain ⟨z, hd, xs, rel, dd⟩ := dt_rd I.hok e
    obtain ⟨w', hw, rw'⟩ := RelO.some_of (v := v) (o := (atKey xs k).map (·.2)) (by rw [l]; exact rel.val k)
    obtain ⟨p, hp, hp2⟩ := Option.map_eq_some_iff.mp hw
    refine wpAny_getItem_heap (tupleKind_room_in1 hu) (key_of I.hok eb) dd hp ?_
    rw [hp2]
    exact h w' _ (I.tok _) rw'
/-- y in d -/
theorem d_in {Q : Value → Shared → Prop} (hu : A.units + 1 < cLine) (I : Inv X pins σ H s) (g : DGet H a y o) (ry : RelV y u) (h : ∀ s', Inv X pins σ H s' → Q (.bool o.isSome) s') :
    wpAny (model X.prog X.w) A (compareOp .In u (.ref a)) Q E s := by
  rcases g with ⟨kvs, k, e, ey, l⟩ | ⟨kvs, k, b, e, ey, eb, l⟩
  · subst ey
    obtain ⟨z, hd, vs, rel, dd⟩ := dk_rd I.hok e
    refine wpAny_in_of (kV_is ry) hd dd.mapOf ?_
    rw [← (rel.val k).isSome_eq, ← l]
    exact h _ (I.tok _)
  · subst ey
    cases (show u = Value.ref b from ry)
    obtain ⟨z, hd, xs, rel, dd⟩ := dt_rd I.hok e
    refine wpAny_in_heap (tupleKind_room_in1 hu) (key_of I.hok eb) hd dd ?_
    have q := (rel.val k).isSome_eq
    rw [Option.isSome_map] at q
    rw [← q, ← l]
    exact h _ (I.tok _)
theorem d_notIn {Q : Value → Shared → Prop} (hu : A.units + 1 < cLine) (I : Inv X pins σ H s) (g : DGet H a y o) (ry : RelV y u) (h : ∀ s', Inv X pins σ H s' → Q (.bool (!o.isSome)) s') :
    wpAny (model X.prog X.w) A (compareOp .NotIn u (.ref a)) Q E s := by
  rcases g with ⟨kvs, k, e, ey, l⟩ | ⟨kvs, k, b, e, ey, eb, l⟩
  · subst ey
    obtain ⟨z, hd, vs, rel, dd⟩ := dk_rd I.hok e
    refine wpAny_notIn_of (kV_is ry) hd dd.mapOf ?_
    rw [← (rel.val k).isSome_eq, ← l]
    exact h _ (I.tok _)
  · subst ey
    cases (show u = Value.ref b from ry)
    obtain ⟨z, hd, xs, rel, dd⟩ := dt_rd I.hok e
    refine wpAny_notIn_heap (tupleKind_room_in1 hu) (key_of I.hok eb) hd dd ?_
    have q := (rel.val k).isSome_eq
    rw [Option.isSome_map] at q
    rw [← q, ← l]
    exact h _ (I.tok _)
/-- a dict's object is replaced -/
theorem d_write {h' : Heap} {t' : Nat} {ob : HO} (I : Inv X pins σ H s) (mu : Mut (H a)) (hs : Heap.SameBut a s.heap h') (he : ∃ q, h'.get? a = some q) (new : ObjOk X.prog X.w (upd H a ob) h' a ob) :
    Inv X pins σ (upd H a ob) { s with heap := h', toks := t' } :=
  I.write (x := a) (e := a) mu (.inl rfl) (fun b q hb z => (hs.2 b hb).trans z) he new
theorem dk_new {P : Program} {w : World} {H' : Hp} {h' : Heap} {kvs : List (Key × V)} {vs : List (Key × Value)} (z : kvs.length ≤ sizeLine) (hd : (a == sysModules) = false) (rel : KV kvs vs) (dd : h'.DictOf (mixKind P w) a vs) :
    ObjOk P w H' h' a (.dK kvs) := ⟨z, hd, vs, rel, dd⟩
/-- d[y] = v -/
theorem d_setItem {H' : Hp} {Q : Unit → Shared → Prop} (hu : A.units + 1 < cLine) (I : Inv X pins σ H s) (g : DPut H a y v H') (ry : RelV y u) (rv : RelV v r) (h : ∀ s', Inv X pins σ H' s' → Q () s') :
    wpAny (model X.prog X.w) A (setItem (.ref a) u r) Q E s := by
  rcases g with ⟨kvs, k, e, ey, l, eH⟩ | ⟨kvs, k, b, e, ey, eb, l, eH⟩
  · subst ey eH
    obtain ⟨z, hd, vs, rel, dd⟩ := dk_of I.hok e
    have hz : vs.length ≤ sizeLine := by rw [← rel.length]; exact z
    have hl : (putK kvs k v).length ≤ sizeLine := by have := length_putK kvs k v; omega
    refine wpAny_setItem_pairs (hsz := hz) (kV_is ry) dd fun h' dd' hs => h _ ?_
    have he : ∃ q, h'.get? a = some q := let ⟨q, _, _, hq, _⟩ := dd'; ⟨q, hq⟩
    exact d_write I (by rw [e]; exact True.intro) hs he (dk_new hl hd (rel.put k rv) dd')
  · subst ey eH
    cases (show u = Value.ref b from ry)
    obtain ⟨z, hd, xs, rel, dd⟩ := dt_of I.hok e
    have hz : xs.length ≤ sizeLine := by rw [← Paired.length rel]; exact z
    have hl : (putK kvs k v).length ≤ sizeLine := by have := length_putK kvs k v; omega
    refine wpAny_setItem_heap (hsz := hz) (tupleKind_room_in1 hu) (key_of I.hok eb) dd fun h' dd' hs => h _ ?_
    obtain ⟨q, es, ep, hq, h2, h3, h4, _, h5⟩ := dd'
    refine d_write I (by rw [e]; exact True.intro) hs ⟨q, hq⟩ ⟨hl, hd, _, (rel.put k eb rv).keeps fun c ys ec => ?_, q, es, ep, hq, h2, h3, h4, h5⟩
    rw [upd_ne (ne_of ec e (fun z => nomatch z))]
    exact ec
end

section
variable {X : Cx} {pins : List (Addr × Obj)} {σ : St} {H : Hp} {s : Shared} {a : Addr} {kvs : List (Key × V)} {k : Key} {u : Value} {A : Around} {E : Value → Shared → Prop}
/-- del d[k] -/
theorem d_delItem {Q : Unit → Shared → Prop} (I : Inv X pins σ H s) (e : H a = some (.dK kvs)) (ry : RelV (kV k) u) (l : (valV kvs k).isSome = true) (h : ∀ s', Inv X pins σ (upd H a (.dK (dropK kvs k))) s' → Q () s') :
    wpAny (model X.prog X.w) A (delItem (.ref a) u) Q E s := by
  obtain ⟨z, hd, vs, rel, dd⟩ := dk_of I.hok e
  refine wpAny_delItem_slot dd.typeIs (by decide) PySem.F.slot_dict_delitem
    (call_meetsIn PySem.F.slot_dict_delitem dd.typeIs PySem.F.entry_dict_delitem (PySem.F.args_dict_delitem_2 _ _) (meets_dict_delitem_pairs (mixKind X.prog X.w) a (kV_is ry)) ⟨vs, dd, by rw [← rel.length]; exact z, by rw [← (rel.val k).isSome_eq]; exact l, fun h' dd' hs => h _ ?_⟩)
  have he : ∃ q, h'.get? a = some q := let ⟨q, _, _, hq, _⟩ := dd'; ⟨q, hq⟩
  exact d_write I (by rw [e]; exact True.intro) hs he (dk_new (Nat.le_trans (dropK_le kvs k) z) hd (rel.drop k) dd')
/-- d.pop(k[, x]), there -/
theorem d_pop {v : V} {more : List Value} {Q : Value → Shared → Prop} (I : Inv X pins σ H s) (e : H a = some (.dK kvs)) (ry : RelV (kV k) u) (l : valV kvs k = some v) (hm : more = [] ∨ ∃ x, more = [x])
    (h : ∀ w' s', Inv X pins σ (upd H a (.dK (dropK kvs k))) s' → RelV v w' → Q w' s') : wpAny (model X.prog X.w) A (call (.builtin "dict.pop") (.ref a :: u :: more)) Q E s := by
  obtain ⟨z, hd, vs, rel, dd⟩ := dk_of I.hok e
  obtain ⟨w', hw, rw'⟩ := RelO.some_of (v := v) (o := valueAt vs k) (by rw [← l]; exact rel.val k)
  have hp : (keyPart u).isSome = true := by
    cases k with
    | inl i => obtain ⟨t, q⟩ := (show ∃ t, u = Value.int i t from ry); subst q; rfl
    | inr x => obtain ⟨t, q⟩ := (show ∃ t, u = Value.str x t from ry); subst q; rfl
  have ha : argsOk "dict.pop" ⟨.ref a :: u :: more, []⟩ := by
    rcases hm with q | ⟨x, q⟩
    · subst q; exact PySem.F.args_dict_pop_2 _ _
    · subst q; exact PySem.F.args_dict_pop_3 _ _ _
  refine call_meetsIn PySem.F.slot_dict_pop dd.typeIs PySem.F.entry_dict_pop ha (meets_dict_pop_there (mixKind X.prog X.w) a (kV_is ry) more hm hp)
    ⟨vs, w', dd, by rw [← rel.length]; exact z, hw, fun h' dd' hs => h w' _ ?_ rw'⟩
  have he : ∃ q, h'.get? a = some q := let ⟨q, _, _, hq, _⟩ := dd'; ⟨q, hq⟩
  exact d_write I (by rw [e]; exact True.intro) hs he (dk_new (Nat.le_trans (dropK_le kvs k) z) hd (rel.drop k) dd')
/-- d.pop(k, x), not there -/
theorem d_popD {r : Value} {Q : Value → Shared → Prop} (I : Inv X pins σ H s) (e : H a = some (.dK kvs)) (ry : RelV (kV k) u) (l : valV kvs k = none) (h : ∀ s', Inv X pins σ H s' → Q r s') :
    wpAny (model X.prog X.w) A (call (.builtin "dict.pop") [.ref a, u, r]) Q E s := by
  obtain ⟨z, hd, vs, rel, dd⟩ := dk_of I.hok e
  have hn : valueAt vs k = none := RelO.none_of (by rw [← l]; exact rel.val k)
  have hp : (keyPart u).isSome = true := by
    cases k with
    | inl i => obtain ⟨t, q⟩ := (show ∃ t, u = Value.int i t from ry); subst q; rfl
    | inr x => obtain ⟨t, q⟩ := (show ∃ t, u = Value.str x t from ry); subst q; rfl
  exact call_meetsIn PySem.F.slot_dict_pop dd.typeIs PySem.F.entry_dict_pop (PySem.F.args_dict_pop_3 _ _ _) (meets_dict_pop_default (mixKind X.prog X.w) a (kV_is ry) hd hp r) ⟨vs, dd, hn, h _ (I.tok _)⟩
/-- d.clear() -/
theorem d_clear {Q : Value → Shared → Prop} (I : Inv X pins σ H s) (e : H a = some (.dK kvs)) (h : ∀ s', Inv X pins σ (upd H a (.dK [])) s' → Q .none s') : wpAny (model X.prog X.w) A (call (.builtin "dict.clear") [.ref a]) Q E s := by
  obtain ⟨z, hd, vs, rel, dd⟩ := dk_of I.hok e
  refine call_meetsIn PySem.F.slot_dict_clear dd.typeIs PySem.F.entry_dict_clear (PySem.F.args_dict_clear_1 _) (meets_dict_clear (mixKind X.prog X.w) a) ⟨vs, dd, by rw [← rel.length]; exact z, fun h' dd' hs => h _ ?_⟩
  have he : ∃ q, h'.get? a = some q := let ⟨q, _, _, hq, _⟩ := dd'; ⟨q, hq⟩
  exact d_write (t' := s.toks) I (by rw [e]; exact True.intro) hs he (dk_new (Nat.zero_le _) hd .nil dd')
/-- len(d) -/
theorem d_len {Q : Value → Shared → Prop} (I : Inv X pins σ H s) (e : Rd H a (.dK kvs)) (h : ∀ t s', Inv X pins σ H s' → Q (.int kvs.length t) s') : wpAny (model X.prog X.w) A (call (.builtin "len") [.ref a]) Q E s := by
  obtain ⟨z, hd, vs, rel, dd⟩ := dk_rd I.hok e
  refine call_len_dict hd dd (by rw [← rel.length]; rw [sizeLine_eq] at z; omega) ?_
  rw [← rel.length]
  exact h _ _ (I.tok _)
/-- if d -/
theorem d_truth {Q : Bool → Shared → Prop} (I : Inv X pins σ H s) (e : Rd H a (.dK kvs)) (h : ∀ s', Inv X pins σ H s' → Q (!kvs.isEmpty) s') : wpAny (model X.prog X.w) A (truthy (.ref a)) Q E s := by
  obtain ⟨z, hd, vs, rel, dd⟩ := dk_rd I.hok e
  refine wpAny_truthy_dict hd dd (by rw [← rel.length]; rw [sizeLine_eq] at z; omega) ?_
  have q : kvs.isEmpty = vs.isEmpty := by cases rel <;> rfl
  rw [← q]
  exact h _ (I.tok _)
end


/-! ### readings and rules -/
/-- the element of a subscription, not a slice -/
def NoSl (i : Expr) : Prop := ∀ ov iv, subscripted i false ov iv = operate [ov, iv] (getItem ov iv)
theorem subD_of {prog : Program} {w : World} {A : Around} {E : Value → Shared → Prop} {s : Shared} {env : Env} {value slice : Expr} {pos : Pos} {T id : String} {Q : Value → Shared → Prop}
    (hl : typeLookup (.type T) "__getitem__" = pure (some (.builtin id))) (hs : NoSl slice)
    (h : wpAny (model prog w) A (eval value env) (fun o s₁ => wpAny (model prog w) A (eval slice env) (fun i s₂ => s₂.TypeIs o T ∧ wpAny (model prog w) A (getItem o i) Q E s₂) E s₁) E s) :
    wpAny (model prog w) A (eval (.Subscript value slice pos) env) Q E s := by
  refine Subscript_ (wpAny_mono h (fun o s₁ h₁ => wpAny_mono h₁ (fun i s₂ h₂ => ?_) fun _ _ x => x) fun _ _ x => x)
  obtain ⟨hT, h₂⟩ := h₂
  unfold subscriptTail
  refine wpAny_bind ?_
  rw [getitemInPython_of_ne hT.not_modules]
  refine wpAny_bind (wpAny_specialOf hT hl ?_)
  have fin : wpAny (model prog w) A (subscripted slice false o i) (fun r s₃ => wpAny (model prog w) A (letTemporaryGo value o r >>= fun _ => pure r) Q E s₃) E s₂ := by
    rw [hs o i]
    exact wpAny_operating (wpAny_mono h₂ (fun r s₃ h₃ => wpAny_bind (wpAny_letTemporaryGo (wpAny_pure h₃))) fun _ _ x => x)
  first
    | exact wpAny_pure (wpAny_bind fin)
    | exact wpAny_bind (wpAny_pure (wpAny_bind fin))
    | exact wpAny_bind fin

theorem dict_typeIs {X : Cx} {pins : List (Addr × Obj)} {σ : St} {H : Hp} {s : Shared} {a : Addr} {y : V} {o : Option V} (I : Inv X pins σ H s) (g : DGet H a y o) : s.TypeIs (.ref a) "dict" := by
  rcases g with ⟨kvs, k, e, _, _⟩ | ⟨kvs, k, b, e, _, _, _⟩
  · obtain ⟨_, _, vs, _, dd⟩ := dk_rd I.hok e
    exact dd.typeIs
  · obtain ⟨_, _, xs, _, dd⟩ := dt_rd I.hok e
    exact dd.typeIs
theorem dict_noDict {X : Cx} {pins : List (Addr × Obj)} {σ : St} {H : Hp} {s : Shared} {a : Addr} {y : V} {o : Option V} (I : Inv X pins σ H s) (g : DGet H a y o) :
    ∀ b, Value.ref a = .ref b → ∃ ob, s.heap.get? b = some ob ∧ ob.dict = none := fun b q => by
  cases q
  rcases g with ⟨kvs, k, e, _, _⟩ | ⟨kvs, k, b, e, _, _, _⟩
  · obtain ⟨_, _, vs, _, ob, _, _, h1, h2, _⟩ := dk_rd I.hok e
    exact ⟨ob, h1, h2.2.1⟩
  · obtain ⟨_, _, xs, _, ob, _, _, h1, h2, _⟩ := dt_rd I.hok e
    exact ⟨ob, h1, h2.2.1⟩

/-- d[y] -/
def tDGet (td ty : TE) : TE := fun σ H Q => td σ H fun x H1 => ty σ H1 fun y H2 => ∃ a v, x = .ref a ∧ DGet H2 a y (some v) ∧ Q v H2
/-- y in d, y not in d -/
def tDIn (ty td : TE) : TE := fun σ H Q => ty σ H fun y H1 => td σ H1 fun x H2 => ∃ a o, x = .ref a ∧ DGet H2 a y o ∧ Q (.bl o.isSome) H2
def tDNotIn (ty td : TE) : TE := fun σ H Q => ty σ H fun y H1 => td σ H1 fun x H2 => ∃ a o, x = .ref a ∧ DGet H2 a y o ∧ Q (.bl (!o.isSome)) H2
/-- d[y] = v -/
def sDPut (td ty tv : TE) : TS := fun D σ H => tv σ H fun v H1 => td σ H1 fun x H2 => ty σ H2 fun y H3 => ∃ a H4, x = .ref a ∧ DPut H3 a y v H4 ∧ D.nx σ H4
/-- d[y] op= v -/
def sDAug (td ty tv : TE) (rd : V → V → Hp → VK → Prop) : TS := fun D σ H => td σ H fun x H1 => ty σ H1 fun y H2 => ∃ a v, x = .ref a ∧ DGet H2 a y (some v) ∧
  tv σ H2 fun y2 H3 => rd v y2 H3 fun z H4 => ∃ H5, DPut H4 a y z H5 ∧ D.nx σ H5
/-- del d[y] -/
def sDDel (td ty : TE) : TS := fun D σ H => td σ H fun x H1 => ty σ H1 fun y H2 => ∃ a kvs k, x = .ref a ∧ H2 a = some (.dK kvs) ∧ y = kV k ∧ (valV kvs k).isSome = true ∧ D.nx σ (upd H2 a (.dK (dropK kvs k)))

section
variable {X : Cx} {o i e value : Expr} {pos pos' tpos : Pos} {td ty tv : TE}
theorem pe_dget (hu : X.A.units + 1 < cLine) (ho : PE X o td) (hi : PE X i ty) (hs : NoSl i) : PE X (.Subscript o i pos) (tDGet td ty) := by
  intro pins s σ H Q I h
  refine subD_of PySem.F.slot_dict_getitem.lookup hs (thn (ho pins s σ H _ I h) fun u s1 ⟨x, H1, I1, rx, q1⟩ => thn (hi pins s1 σ H1 _ I1 q1) fun iv s2 ⟨y, H2, I2, ry, a, v, ex, g, q2⟩ => ?_)
  subst ex
  obtain rfl : u = Value.ref a := rx
  exact ⟨dict_typeIs I2 g, d_getItem hu I2 g ry fun w' s3 I3 rw' => ⟨v, H2, I3, rw', q2⟩⟩
theorem pc_din (hu : X.A.units + 1 < cLine) (hi : PE X i ty) (ho : PE X o td) : PC X .In i o (tDIn ty td) := by
  intro pins s σ H Q I h
  refine thn (hi pins s σ H _ I h) fun iv s1 ⟨y, H1, I1, ry, q1⟩ => thn (ho pins s1 σ H1 _ I1 q1) fun u s2 ⟨x, H2, I2, rx, a, ov, ex, g, q2⟩ => ?_
  subst ex
  obtain rfl : u = Value.ref a := rx
  exact d_in hu I2 g ry fun s3 I3 => ⟨.bl ov.isSome, H2, I3, rfl, q2⟩
theorem pc_dnotin (hu : X.A.units + 1 < cLine) (hi : PE X i ty) (ho : PE X o td) : PC X .NotIn i o (tDNotIn ty td) := by
  intro pins s σ H Q I h
  refine thn (hi pins s σ H _ I h) fun iv s1 ⟨y, H1, I1, ry, q1⟩ => thn (ho pins s1 σ H1 _ I1 q1) fun u s2 ⟨x, H2, I2, rx, a, ov, ex, g, q2⟩ => ?_
  subst ex
  obtain rfl : u = Value.ref a := rx
  exact d_notIn hu I2 g ry fun s3 I3 => ⟨.bl (!ov.isSome), H2, I3, rfl, q2⟩
theorem ps_dput (hu : X.A.units + 1 < cLine) (ho : PE X o td) (hi : PE X i ty) (hv : PE X value tv) (hs : swapsWith value (some (.Subscript o i pos')) pos.line X.env = pure false) :
    PS X (.Assign [.Subscript o i pos'] value pos) (sDPut td ty tv) := by
  intro pins s σ H D I h
  refine wpAny_Assign_Subscript (thn (hv pins s σ H _ I h) fun r s1 ⟨v, H1, I1, rv, q1⟩ => thn (ho pins s1 σ H1 _ I1 q1) fun u s2 ⟨x, H2, I2, rx, q2⟩ => thn (hi pins s2 σ H2 _ I2 q2) fun iv s3 ⟨y, H3, I3, ry, a, H4, ex, g, q3⟩ => ?_) hs
  subst ex
  obtain rfl : u = Value.ref a := rx
  exact d_setItem hu I3 g ry rv fun s4 I4 => ⟨σ, H4, I4, q3⟩
theorem ps_daug {op : Operator} {rd : V → V → Hp → VK → Prop} (hu : X.A.units + 1 < cLine) (ho : PE X o td) (hi : PE X i ty) (hv : PE X value tv) (hop : InOp X op rd)
    (ha : ∀ ov iv new, augStore i ov iv new = (do holding [new, ov, iv] (setItem ov iv new); release [new, ov, iv] []; pure .next)) : PS X (.AugAssign (.Subscript o i tpos) op value pos) (sDAug td ty tv rd) := by
  intro pins s σ H D I h
  refine wpAny_AugAssign_SubscriptAny (thn (ho pins s σ H _ I h) fun u s1 ⟨x, H1, I1, rx, q1⟩ => thn (hi pins s1 σ H1 _ I1 q1) fun iv s2 ⟨y, H2, I2, ry, a, v, ex, g, q2⟩ => ?_) ha
  subst ex
  obtain rfl : u = Value.ref a := rx
  refine d_getItem hu I2 g ry fun w' s3 I3 rw' => thn (hv pins s3 σ H2 _ I3 q2) fun w2 s4 ⟨y2, H3, I4, ry2, q3⟩ => thn (hop pins s4 σ H3 v y2 w' w2 _ I4 rw' ry2 q3) fun w3 s5 ⟨z, H4, I5, rz, H5, g5, q4⟩ => ?_
  exact d_setItem hu I5 g5 ry rz fun s6 I6 => ⟨σ, H5, I6, q4⟩
theorem ps_ddel (ho : PE X o td) (hi : PE X i ty) : PS X (.Delete [.Subscript o i tpos] pos) (sDDel td ty) := by
  intro pins s σ H D I h
  refine wpAny_Delete (wpAny_deleteEach_cons (wpAny_delete_Subscript (thn (ho pins s σ H _ I h) fun u s1 ⟨x, H1, I1, rx, q1⟩ => thn (hi pins s1 σ H1 _ I1 q1) fun iv s2 ⟨y, H2, I2, ry, a, kvs, k, ex, e, ey, l, q2⟩ => ?_)))
  subst ex ey
  obtain rfl : u = Value.ref a := rx
  exact d_delItem I2 e ry l fun s3 I3 => wpAny_deleteEach_nil ⟨σ, _, I3, q2⟩
end


/-! ### displays -/
theorem dk_empty {P : Program} {w : World} {H : Hp} (h : Heap) (hb : sysModules < h.objs.size) : ObjOk P w H (h.push { cls := .type "dict", data := .dict #[] }) h.objs.size (.dK []) :=
  ⟨Nat.zero_le _, beq_eq_false_iff_ne.mpr (Ne.symm (Nat.ne_of_lt hb)), [], .nil, Heap.DictOf.new h⟩
theorem dt_empty {P : Program} {w : World} {H : Hp} (h : Heap) (hb : sysModules < h.objs.size) : ObjOk P w H (h.push { cls := .type "dict", data := .dict #[] }) h.objs.size (.dT []) :=
  ⟨Nat.zero_le _, beq_eq_false_iff_ne.mpr (Ne.symm (Nat.ne_of_lt hb)), [], .nil, _, #[], 0, Heap.get?_push_size _ rfl, ⟨rfl, rfl, rfl⟩, rfl, rfl, List.nodup_nil⟩
/-- {}, to be a dict of the kind that is wanted -/
def tDNewK : TE := fun _ H Q => ∀ p, H p = none → Q (.ref p) (upd H p (.dK []))
def tDNewT : TE := fun _ H Q => ∀ p, H p = none → Q (.ref p) (upd H p (.dT []))
section
variable {X : Cx} {pos : Pos}
theorem pe_dnewK : PE X (.Dict [] [] pos) tDNewK := fun pins s σ H Q I h =>
  wpAny_Dict_empty ⟨.ref s.heap.objs.size, _, I.laid (a := s.heap.objs.size) (o := .dK []) (t' := s.toks) (fun _ _ q => Heap.get?_push_of_some _ q) (Nat.le_refl _) (dk_empty s.heap I.big), rfl, h _ (I.hok.fresh (Nat.le_refl _))⟩
theorem pe_dnewT : PE X (.Dict [] [] pos) tDNewT := fun pins s σ H Q I h =>
  wpAny_Dict_empty ⟨.ref s.heap.objs.size, _, I.laid (a := s.heap.objs.size) (o := .dT []) (t' := s.toks) (fun _ _ q => Heap.get?_push_of_some _ q) (Nat.le_refl _) (dt_empty s.heap I.big), rfl, h _ (I.hok.fresh (Nat.le_refl _))⟩
end

/-- the pairs of a display, from the left -/
def tPairs : List (TE × TE) → St → Hp → (List (V × V) → Hp → Prop) → Prop
  | [], _, H, Q => Q [] H
  | (tk, tv) :: r, σ, H, Q => tk σ H fun x H1 => tv σ H1 fun y H2 => tPairs r σ H2 fun ps H3 => Q ((x, y) :: ps) H3
abbrev VV : List (V × V) → List (Value × Value) → Prop := Paired fun p q => RelV p.1 q.1 ∧ RelV p.2 q.2
def PPs (X : Cx) (pos : Pos) (keys : List (Option Expr)) (values : List Expr) (trs : List (TE × TE)) : Prop :=
  ∀ (pins : List (Addr × Obj)) (s : Shared) (σ : St) (H : Hp) (Q : List (V × V) → Hp → Prop), Inv X pins σ H s → tPairs trs σ H Q →
    wpAny (model X.prog X.w) X.A (evalPairs (pairTrees keys values X.env pos)) (fun vs s' => ∃ ps H', Inv X pins σ H' s' ∧ VV ps vs ∧ Q ps H') X.xe s
theorem pps_nil {X : Cx} {pos : Pos} : PPs X pos [] [] [] := fun pins s σ H Q I h => pairTrees_nil_walk ⟨[], H, I, .nil, h⟩
theorem pps_cons {X : Cx} {pos : Pos} {k v : Expr} {ks : List (Option Expr)} {vs : List Expr} {tk tv : TE} {trs : List (TE × TE)} (hk : PE X k tk) (hv : PE X v tv) (hr : PPs X pos ks vs trs) :
    PPs X pos (some k :: ks) (v :: vs) ((tk, tv) :: trs) := fun pins s σ H Q I h =>
  pairTrees_cons_walk (thn (hk pins s σ H _ I h) fun u s1 ⟨x, H1, I1, rx, q1⟩ => thn (hv pins s1 σ H1 _ I1 q1) fun w2 s2 ⟨y, H2, I2, ry, q2⟩ =>
    thn (hr pins s2 σ H2 _ I2 q2) fun ws s3 ⟨ps, H3, I3, rel, q3⟩ => ⟨(x, y) :: ps, H3, I3, .cons ⟨rx, ry⟩ rel, q3⟩)

def mergeK (kvs more : List (Key × V)) : List (Key × V) := more.foldl (fun acc kv => putK acc kv.1 kv.2) kvs
theorem KV.merge : ∀ {more : List (Key × V)} {rs : List (Key × Value)} {kvs : List (Key × V)} {vs : List (Key × Value)}, KV more rs → KV kvs vs → KV (mergeK kvs more) (merged vs rs) := by
  intro more rs kvs vs r
  unfold KV at r
  induction r generalizing kvs vs with
  | nil => intro q; exact q
  | @cons p q ps qs h t ih =>
    intro r0
    have e : KV (putK kvs p.1 p.2) (stored vs q.1 q.2) := by
      have := r0.put p.1 h.2
      rw [← h.1]; exact this
    exact ih e
theorem length_mergeK : ∀ (more kvs : List (Key × V)), (mergeK kvs more).length ≤ kvs.length + more.length
  | [], kvs => by show kvs.length ≤ kvs.length + 0; omega
  | p :: r, kvs => by
    have h1 := length_mergeK r (putK kvs p.1 p.2)
    have h2 := length_putK kvs p.1 p.2
    show (mergeK (putK kvs p.1 p.2) r).length ≤ _
    rw [List.length_cons]; omega
theorem carries_of {P : Program} {w : World} : ∀ {kvs : List (Key × V)} {ws : List (Value × Value)}, VV (kvs.map fun kv => (kV kv.1, kv.2)) ws → ∃ rs, Carries (mixKind P w) ws rs ∧ KV kvs rs
  | [], _, r => by rw [List.map_nil] at r; cases r; exact ⟨[], True.intro, .nil⟩
  | p :: kvs, _, r => by
    rw [List.map_cons] at r
    cases r with
    | @cons a b as bs h t =>
      obtain ⟨rs, c, q⟩ := carries_of (P := P) (w := w) t
      obtain ⟨b1, b2⟩ := b
      exact ⟨(p.1, b2) :: rs, ⟨kV_is h.1, rfl, c⟩, .cons ⟨rfl, h.2⟩ q⟩
/-- {k: v, ..} with keys ints and texts; the new dict stands empty while the pairs are made -/
def tDisp (trs : List (TE × TE)) : TE := fun σ H Q => ∀ p, H p = none → tPairs trs σ (upd H p (.dK [])) fun ps H2 => H2 p = some (.dK []) ∧ ∃ kvs : List (Key × V), ps = kvs.map (fun kv => (kV kv.1, kv.2)) ∧ kvs.length ≤ 15 ∧ Q (.ref p) (upd H2 p (.dK (mergeK [] kvs)))
theorem pe_disp {X : Cx} {pos : Pos} {keys : List (Option Expr)} {values : List Expr} {trs : List (TE × TE)} (h : PPs X pos keys values trs) (hall : keys.all (·.isSome) = true) (hl : keys.length = values.length) (h0 : keys ≠ [])
    (h15 : keys.length ≤ 15) : PE X (.Dict keys values pos) (tDisp trs) := by
  intro pins s σ H Q I q
  have hn := I.hok.fresh (Nat.le_refl s.heap.objs.size)
  have I1 := I.laid (a := s.heap.objs.size) (o := .dK []) (h' := s.heap.push { cls := .type "dict", data := .dict #[] }) (t' := s.toks) (fun _ _ q => Heap.get?_push_of_some _ q) (Nat.le_refl _) (dk_empty s.heap I.big)
  refine wpAny_Dict_walk (knd := mixKind X.prog X.w) hall hl h0 h15 (thn (h pins _ σ _ _ I1 (q _ hn)) fun ws s2 ⟨ps, H2, I2, rel, e, kvs, ep, lk, q2⟩ => ?_)
  subst ep
  obtain ⟨rs, c, rk⟩ := carries_of (P := X.prog) (w := X.w) rel
  obtain ⟨z, hd, vs0, r0, dd⟩ := dk_of I2.hok e
  cases r0
  refine ⟨rs, c, dd, fun h' dd' hs => ⟨.ref s.heap.objs.size, _, ?_, rfl, q2⟩⟩
  have hz : (mergeK [] kvs).length ≤ sizeLine := by
    have h1 := length_mergeK kvs []
    rw [List.length_nil] at h1
    rw [sizeLine_eq]; omega
  have he : ∃ q, h'.get? s.heap.objs.size = some q := let ⟨q, _, _, hq, _⟩ := dd'; ⟨q, hq⟩
  exact d_write I2 (by rw [e]; exact True.intro) hs he (dk_new hz hd (rk.merge .nil) dd')


/-! ### methods -/
/-- a method call o.m(e) of a built-in, with one argument: what must be seen of the text -/
structure M1 (X : Cx) (o : Expr) (m : Str) (apos : Pos) (e : Expr) (cpos : Pos) : Prop where
  base : attributeBase o m X.env (eval o X.env) = eval o X.env
  few : ((backTo cpos (starEach [e] X.env)).all (fun x => !x.1) && (backToKw cpos (keywordEach [] X.env)).all (fun x => x.1.isSome)
    && decide (([e] : List Expr).length + ([] : List Keyword).length + (if ([] : List Keyword).isEmpty then 0 else 1) < 30)) = true
  line : (apos.endLine == cpos.line) = true
  trees : backTo cpos (starEach [e] X.env) = [(false, eval e X.env)]
structure M2 (X : Cx) (o : Expr) (m : Str) (apos : Pos) (e f : Expr) (cpos : Pos) : Prop where
  base : attributeBase o m X.env (eval o X.env) = eval o X.env
  few : ((backTo cpos (starEach [e, f] X.env)).all (fun x => !x.1) && (backToKw cpos (keywordEach [] X.env)).all (fun x => x.1.isSome)
    && decide (([e, f] : List Expr).length + ([] : List Keyword).length + (if ([] : List Keyword).isEmpty then 0 else 1) < 30)) = true
  line : (apos.endLine == cpos.line) = true
  trees : backTo cpos (starEach [e, f] X.env) = [(false, eval e X.env), (false, eval f X.env)]

/-- a is a dict, whatever its keys -/
def IsD (H : Hp) (a : Addr) : Prop := (∃ kvs, Rd H a (.dK kvs)) ∨ ∃ kvs, Rd H a (.dT kvs)
theorem isD_at {X : Cx} {pins : List (Addr × Obj)} {σ : St} {H : Hp} {s : Shared} {a : Addr} (I : Inv X pins σ H s) (d : IsD H a) :
    s.TypeIs (.ref a) "dict" ∧ (∀ b, Value.ref a = .ref b → ∃ ob, s.heap.get? b = some ob ∧ ob.dict = none) ∧ (a == sysModules) = false := by
  rcases d with ⟨kvs, e⟩ | ⟨kvs, e⟩
  · obtain ⟨_, hd, vs, _, dd⟩ := dk_rd I.hok e
    refine ⟨dd.typeIs, fun b q => ?_, hd⟩
    cases q
    obtain ⟨ob, _, _, h1, h2, _⟩ := dd
    exact ⟨ob, h1, h2.2.1⟩
  · obtain ⟨_, hd, xs, _, dd⟩ := dt_rd I.hok e
    refine ⟨dd.typeIs, fun b q => ?_, hd⟩
    cases q
    obtain ⟨ob, _, _, h1, h2, _⟩ := dd
    exact ⟨ob, h1, h2.2.1⟩

section
variable {X : Cx} {pins : List (Addr × Obj)} {σ : St} {H : Hp} {s : Shared} {a : Addr} {y d : V} {u r : Value} {o : Option V} {A : Around} {E : Value → Shared → Prop}
/-- d.get(y) -/
theorem d_get1 {Q : Value → Shared → Prop} (hu : A.units + 1 < cLine) (I : Inv X pins σ H s) (g : DGet H a y o) (ry : RelV y u) (h : ∀ w' s', Inv X pins σ H s' → RelV (o.getD .non) w' → Q w' s') :
    wpAny (model X.prog X.w) A (call (.builtin "dict.get") [.ref a, u]) Q E s := by
  rcases g with ⟨kvs, k, e, ey, l⟩ | ⟨kvs, k, b, e, ey, eb, l⟩
  · subst ey
    obtain ⟨z, hd, vs, rel, dd⟩ := dk_rd I.hok e
    refine call_meetsIn PySem.F.slot_dict_get dd.typeIs PySem.F.entry_dict_get (PySem.F.args_dict_get_2 _ _) (meets_dict_get (mixKind X.prog X.w) a (kV_is ry) hd) ⟨_, dd.mapOf, h _ _ (I.tok _) ?_⟩
    rw [l]
    exact (rel.val k).getD rfl
  · subst ey
    cases (show u = Value.ref b from ry)
    obtain ⟨z, hd, xs, rel, dd⟩ := dt_rd I.hok e
    refine call_meetsIn PySem.F.slot_dict_get dd.typeIs PySem.F.entry_dict_get (PySem.F.args_dict_get_2 _ _) (meetsH_dict_get (tupleKind (mixKind X.prog X.w)) a b hd) ⟨tupleKind_room_in1 hu, k, xs, key_of I.hok eb, dd, h _ _ (I.tok _) ?_⟩
    rw [l]
    exact (rel.val k).getD rfl
/-- d.get(y, x) -/
theorem d_get2 {Q : Value → Shared → Prop} (hu : A.units + 1 < cLine) (I : Inv X pins σ H s) (g : DGet H a y o) (ry : RelV y u) (rd : RelV d r) (h : ∀ w' s', Inv X pins σ H s' → RelV (o.getD d) w' → Q w' s') :
    wpAny (model X.prog X.w) A (call (.builtin "dict.get") [.ref a, u, r]) Q E s := by
  rcases g with ⟨kvs, k, e, ey, l⟩ | ⟨kvs, k, b, e, ey, eb, l⟩
  · subst ey
    obtain ⟨z, hd, vs, rel, dd⟩ := dk_rd I.hok e
    refine call_meetsIn PySem.F.slot_dict_get dd.typeIs PySem.F.entry_dict_get (PySem.F.args_dict_get_3 _ _ _) (meets_dict_get_default (mixKind X.prog X.w) a (kV_is ry) hd r) ⟨_, dd.mapOf, h _ _ (I.tok _) ?_⟩
    rw [l]
    exact (rel.val k).getD rd
  · subst ey
    cases (show u = Value.ref b from ry)
    obtain ⟨z, hd, xs, rel, dd⟩ := dt_rd I.hok e
    refine call_meetsIn PySem.F.slot_dict_get dd.typeIs PySem.F.entry_dict_get (PySem.F.args_dict_get_3 _ _ _) (meetsH_dict_get_default (tupleKind (mixKind X.prog X.w)) a b hd r) ⟨tupleKind_room_in1 hu, k, xs, key_of I.hok eb, dd, h _ _ (I.tok _) ?_⟩
    rw [l]
    exact (rel.val k).getD rd
end

def tDGet1 (td ty : TE) : TE := fun σ H Q => td σ H fun x H1 => ∃ a, x = .ref a ∧ IsD H1 a ∧ ty σ H1 fun y H2 => ∃ o, DGet H2 a y o ∧ Q (o.getD .non) H2
def tDGet2 (td ty tx : TE) : TE := fun σ H Q => td σ H fun x H1 => ∃ a, x = .ref a ∧ IsD H1 a ∧ ty σ H1 fun y H2 => tx σ H2 fun z H3 => ∃ o, DGet H3 a y o ∧ Q (o.getD z) H3
/-- d.pop(k): there; d.pop(k, x): there or not -/
def tDPop1 (td ty : TE) : TE := fun σ H Q => td σ H fun x H1 => ∃ a, x = .ref a ∧ IsD H1 a ∧ ty σ H1 fun y H2 => ∃ kvs k v, H2 a = some (.dK kvs) ∧ y = kV k ∧ valV kvs k = some v ∧ Q v (upd H2 a (.dK (dropK kvs k)))
def tDPop2 (td ty tx : TE) : TE := fun σ H Q => td σ H fun x H1 => ∃ a, x = .ref a ∧ IsD H1 a ∧ ty σ H1 fun y H2 => tx σ H2 fun z H3 => ∃ kvs k, H3 a = some (.dK kvs) ∧ y = kV k ∧
  (∀ v, valV kvs k = some v → Q v (upd H3 a (.dK (dropK kvs k)))) ∧ (valV kvs k = none → Q z H3)
section
variable {X : Cx} {o e f : Expr} {apos cpos : Pos} {td ty tx : TE}
theorem pe_dget1 (hu : X.A.units + 1 < cLine) (ho : PE X o td) (he : PE X e ty) (m : M1 X o "get" apos e cpos) : PE X (.Call (.Attribute o "get" apos) [e] [] cpos) (tDGet1 td ty) := by
  intro pins s σ H Q I h
  refine wpAny_Call_method m.base m.few m.line PySem.F.plainAttrs_dict PySem.F.slot_dict_get PySem.F.type_dict_get (thn (ho pins s σ H _ I h) fun u s1 ⟨x, H1, I1, rx, a, ex, d, q1⟩ => ?_)
  subst ex
  obtain rfl : u = Value.ref a := rx
  obtain ⟨t1, t2, _⟩ := isD_at I1 d
  refine ⟨t1, t2, ?_⟩
  rw [m.trees]
  refine Calls.callWith_builtin rfl (Calls.evalArgs_plain (Calls.spliced_cons (thn (he pins s1 σ H1 _ I1 q1) fun iv s2 ⟨y, H2, I2, ry, ov, g, q2⟩ => Calls.spliced_nil ?_)))
  exact d_get1 hu I2 g ry fun w' s3 I3 rw' => ⟨_, H2, I3, rw', q2⟩
theorem pe_dget2 (hu : X.A.units + 1 < cLine) (ho : PE X o td) (he : PE X e ty) (hf : PE X f tx) (m : M2 X o "get" apos e f cpos) : PE X (.Call (.Attribute o "get" apos) [e, f] [] cpos) (tDGet2 td ty tx) := by
  intro pins s σ H Q I h
  refine wpAny_Call_method m.base m.few m.line PySem.F.plainAttrs_dict PySem.F.slot_dict_get PySem.F.type_dict_get (thn (ho pins s σ H _ I h) fun u s1 ⟨x, H1, I1, rx, a, ex, d, q1⟩ => ?_)
  subst ex
  obtain rfl : u = Value.ref a := rx
  obtain ⟨t1, t2, _⟩ := isD_at I1 d
  refine ⟨t1, t2, ?_⟩
  rw [m.trees]
  refine Calls.callWith_builtin rfl (Calls.evalArgs_plain (Calls.spliced_cons (thn (he pins s1 σ H1 _ I1 q1) fun iv s2 ⟨y, H2, I2, ry, q2⟩ =>
    Calls.spliced_cons (thn (hf pins s2 σ H2 _ I2 q2) fun fv s3 ⟨z, H3, I3, rz, ov, g, q3⟩ => Calls.spliced_nil ?_))))
  exact d_get2 hu I3 g ry rz fun w' s4 I4 rw' => ⟨_, H3, I4, rw', q3⟩
theorem pe_dpop1 (ho : PE X o td) (he : PE X e ty) (m : M1 X o "pop" apos e cpos) : PE X (.Call (.Attribute o "pop" apos) [e] [] cpos) (tDPop1 td ty) := by
  intro pins s σ H Q I h
  refine wpAny_Call_method m.base m.few m.line PySem.F.plainAttrs_dict PySem.F.slot_dict_pop PySem.F.type_dict_pop (thn (ho pins s σ H _ I h) fun u s1 ⟨x, H1, I1, rx, a, ex, d, q1⟩ => ?_)
  subst ex
  obtain rfl : u = Value.ref a := rx
  obtain ⟨t1, t2, _⟩ := isD_at I1 d
  refine ⟨t1, t2, ?_⟩
  rw [m.trees]
  refine Calls.callWith_builtin rfl (Calls.evalArgs_plain (Calls.spliced_cons (thn (he pins s1 σ H1 _ I1 q1) fun iv s2 ⟨y, H2, I2, ry, kvs, k, v, ea, ey, l, q2⟩ => Calls.spliced_nil ?_)))
  subst ey
  exact d_pop I2 ea ry l (.inl rfl) fun w' s3 I3 rw' => ⟨v, _, I3, rw', q2⟩
theorem pe_dpop2 (ho : PE X o td) (he : PE X e ty) (hf : PE X f tx) (m : M2 X o "pop" apos e f cpos) : PE X (.Call (.Attribute o "pop" apos) [e, f] [] cpos) (tDPop2 td ty tx) := by
  intro pins s σ H Q I h
  refine wpAny_Call_method m.base m.few m.line PySem.F.plainAttrs_dict PySem.F.slot_dict_pop PySem.F.type_dict_pop (thn (ho pins s σ H _ I h) fun u s1 ⟨x, H1, I1, rx, a, ex, d, q1⟩ => ?_)
  subst ex
  obtain rfl : u = Value.ref a := rx
  obtain ⟨t1, t2, _⟩ := isD_at I1 d
  refine ⟨t1, t2, ?_⟩
  rw [m.trees]
  refine Calls.callWith_builtin rfl (Calls.evalArgs_plain (Calls.spliced_cons (thn (he pins s1 σ H1 _ I1 q1) fun iv s2 ⟨y, H2, I2, ry, q2⟩ =>
    Calls.spliced_cons (thn (hf pins s2 σ H2 _ I2 q2) fun fv s3 ⟨z, H3, I3, rz, kvs, k, ea, ey, q3, q4⟩ => Calls.spliced_nil ?_))))
  subst ey
  cases l : valV kvs k with
  | some v => exact d_pop I3 ea ry l (.inr ⟨fv, rfl⟩) fun w' s4 I4 rw' => ⟨v, _, I4, rw', q3 v l⟩
  | none => exact d_popD I3 ea ry l fun s4 I4 => ⟨z, H3, I4, rz, q4 l⟩
end

/-! ### dict(d): a copy -/
section
variable {X : Cx} {pins : List (Addr × Obj)} {σ : St} {H : Hp} {s : Shared} {a : Addr} {kvs : List (Key × V)} {A : Around} {E : Value → Shared → Prop}
theorem d_copyOf {Q : Value → Shared → Prop} (I : Inv X pins σ H s) (e : Rd H a (.dK kvs)) (h : ∀ p s', H p = none → Inv X pins σ (upd H p (.dK kvs)) s' → Q (.ref p) s') : wpAny (model X.prog X.w) A (call (.type "dict") [.ref a]) Q E s := by
  obtain ⟨z, hd, vs, rel, dd⟩ := dk_rd I.hok e
  refine kt_call_dict hd dd (by rw [← rel.length]; exact z) fun h' dd' hs => ?_
  refine h _ _ (I.hok.fresh (Nat.le_refl _)) (I.laid (a := s.heap.objs.size) (o := .dK kvs) (t' := s.toks) (fun b q hq => ?_) (Nat.le_refl _) (dk_new z (beq_eq_false_iff_ne.mpr (Ne.symm (Nat.ne_of_lt I.big))) rel dd'))
  exact (hs.2 b (Nat.ne_of_lt (Heap.lt_size hq))).trans (Heap.get?_push_of_some _ hq)
end


section
variable {X : Cx} {pins : List (Addr × Obj)} {σ : St} {H : Hp} {s : Shared} {a : Addr} {y : V} {u : Value} {A : Around} {E : Value → Shared → Prop}
/-- d[y], not there: a KeyError -/
theorem d_missing {Q : Value → Shared → Prop} (hu : A.units + 1 < cLine) (hh : A.handled = none) (I : Inv X pins σ H s) (g : DGet H a y none) (ry : RelV y u)
    (h : ∀ h' e t', Heap.NewExc s.heap h' e "KeyError" → E (.ref e) { s with heap := h', toks := t' }) : wpAny (model X.prog X.w) A (getItem (.ref a) u) Q E s := by
  rcases g with ⟨kvs, k, e, ey, l⟩ | ⟨kvs, k, b, e, ey, eb, l⟩
  · subst ey
    obtain ⟨z, hd, vs, rel, dd⟩ := dk_rd I.hok e
    have hn : valueAt vs k = none := RelO.none_of (by rw [l]; exact rel.val k)
    exact wpAny_getItem_missing_of (kV_is ry) hd hh dd.mapOf hn fun h' ex ne => h h' ex _ ne
  · subst ey
    cases (show u = Value.ref b from ry)
    obtain ⟨z, hd, xs, rel, dd⟩ := dt_rd I.hok e
    have hn : (atKey xs k).map (·.2) = none := RelO.none_of (by rw [l]; exact rel.val k)
    exact wpAny_getItem_missing_heap (tupleKind_room_in1 hu) (key_of I.hok eb) hd hh dd (Option.map_eq_none_iff.mp hn) fun h' ex ne => h h' ex _ ne
end
end L2
namespace L2
open PySem PySem.Spec PyProof.Rows
/-! ### a dict's pairs: keys that differ -/
section
variable {κ : Type} [DecidableEq κ]
theorem valV_not {kvs : List (κ × V)} {k : κ} (h : valV kvs k = none) : ¬ k ∈ kvs.map (·.1) := by
  intro m
  obtain ⟨p, hp, e⟩ := List.mem_map.mp m
  have q : (kvs.any fun kv => decide (kv.1 = k)) = true := List.any_eq_true.mpr ⟨p, hp, decide_eq_true e⟩
  rw [valV_any, h] at q
  exact absurd q (by simp)
theorem valV_in {kvs : List (κ × V)} {k : κ} {v : V} (h : valV kvs k = some v) : k ∈ kvs.map (·.1) := by
  have q : (kvs.any fun kv => decide (kv.1 = k)) = true := by
    rw [valV_any, h]
    all_goals rfl
  obtain ⟨p, hp, e⟩ := List.any_eq_true.mp q
  exact List.mem_map.mpr ⟨p, hp, of_decide_eq_true e⟩
theorem nd_snoc : ∀ {l : List κ} {k : κ}, l.Nodup → ¬ k ∈ l → (l ++ [k]).Nodup
  | [], k, _, _ => by simp
  | a :: r, k, h, hk => by
    obtain ⟨h1, h2⟩ := List.nodup_cons.mp h
    show (a :: (r ++ [k])).Nodup
    refine List.nodup_cons.mpr ⟨fun m => ?_, nd_snoc h2 fun m => hk (List.mem_cons.mpr (Or.inr m))⟩
    rcases List.mem_append.mp m with q | q
    · exact h1 q
    · exact hk (List.mem_cons.mpr (Or.inl (List.mem_singleton.mp q).symm))
theorem nd_putK {kvs : List (κ × V)} {k : κ} (v : V) (hn : (kvs.map (·.1)).Nodup) (h : valV kvs k = none) : ((putK kvs k v).map (·.1)).Nodup := by
  rw [putK_new v h, List.map_append]
  exact nd_snoc hn (valV_not h)
theorem dropK_pos {p : κ × V} {r : List (κ × V)} {k : κ} (e : p.1 = k) : dropK (p :: r) k = dropK r k := by
  unfold dropK
  rw [List.filter_cons, if_neg (by simp [e])]
theorem dropK_neg {p : κ × V} {r : List (κ × V)} {k : κ} (e : ¬ p.1 = k) : dropK (p :: r) k = p :: dropK r k := by
  unfold dropK
  rw [List.filter_cons, if_pos (by simp [e])]
theorem dropK_no : ∀ {kvs : List (κ × V)} {k : κ}, ¬ k ∈ kvs.map (·.1) → dropK kvs k = kvs
  | [], _, _ => rfl
  | p :: r, k, h => by
    have h' : ¬ k ∈ r.map (·.1) := fun m => by
      obtain ⟨q, hq, e⟩ := List.mem_map.mp m
      exact h (List.mem_map.mpr ⟨q, List.mem_cons.mpr (Or.inr hq), e⟩)
    rw [dropK_neg fun e => h (List.mem_map.mpr ⟨p, List.mem_cons.mpr (Or.inl rfl), e⟩), dropK_no h']
theorem dropK_mem {kvs : List (κ × V)} {k : κ} {p : κ × V} (h : p ∈ dropK kvs k) : p ∈ kvs := (List.mem_filter.mp h).1
theorem nd_dropK : ∀ {kvs : List (κ × V)} {k : κ}, (kvs.map (·.1)).Nodup → ((dropK kvs k).map (·.1)).Nodup
  | [], _, _ => List.nodup_nil
  | p :: r, k, h => by
    have h : (p.1 :: r.map (·.1)).Nodup := h
    obtain ⟨h1, h2⟩ := List.nodup_cons.mp h
    by_cases e : p.1 = k
    · rw [dropK_pos e]
      exact nd_dropK h2
    · rw [dropK_neg e]
      show (p.1 :: (dropK r k).map (·.1)).Nodup
      refine List.nodup_cons.mpr ⟨fun m => h1 ?_, nd_dropK h2⟩
      obtain ⟨q, hq, eq⟩ := List.mem_map.mp m
      exact List.mem_map.mpr ⟨q, dropK_mem hq, eq⟩
theorem dropK_len : ∀ {kvs : List (κ × V)} {k : κ}, (kvs.map (·.1)).Nodup → k ∈ kvs.map (·.1) → (dropK kvs k).length + 1 = kvs.length
  | [], _, _, m => by simp at m
  | p :: r, k, h, m => by
    have h : (p.1 :: r.map (·.1)).Nodup := h
    have m : k = p.1 ∨ k ∈ r.map (·.1) := List.mem_cons.mp m
    obtain ⟨h1, h2⟩ := List.nodup_cons.mp h
    by_cases e : p.1 = k
    · subst e
      rw [dropK_pos rfl, dropK_no h1]
      all_goals rfl
    · have m' : k ∈ r.map (·.1) := m.resolve_left fun z => e z.symm
      have q := dropK_len h2 m'
      rw [dropK_neg e, List.length_cons, List.length_cons]
      omega
end
end L2
set_option Elab.async false
set_option linter.all false
set_option maxRecDepth 100000
set_option maxHeartbeats 4000000
/-! EXTENSION 1 over the hand layer: comprehensions of one clause, loops over texts, slices of texts, upper, all, isinstance, texts compared. -/
namespace L2
open PySem PySem.Spec PyProof.Rows

theorem same_new {H : Hp} {p : Addr} (h : H p = none) (o : HO) : Same H (upd H p o) := fun b u q => by rw [upd_ne (ne_of_none q h)]; exact q
/-- two statements, by what stands between them -/
def tMid (t u : TS) : TS := fun D σ H => ∃ M : St → Hp → Prop, t { D with nx := M } σ H ∧ ∀ σ' H', M σ' H' → u D σ' H'
theorem pss_mid {X : Cx} {st : Stmt} {rest : List Stmt} {t u : TS} (h1 : PS X st t) (h2 : PSs X rest u) : PSs X (st :: rest) (tMid t u) := by
  intro pins s σ H D I ⟨M, h, hM⟩
  refine wpAny_execs_cons (thn (h1 pins s σ H { D with nx := M } I h) fun f s1 q => ?_)
  cases f with
  | next =>
    obtain ⟨σ', H', I', q⟩ := q
    exact h2 pins s1 σ' H' D I' (hM _ _ q)
  | ret v => exact q
  | brk => exact q
  | cont => exact q
/-- an if whose outcome does not matter -/
def tIfN (c : TT) (t u : TS) : TS := fun D σ H => ∃ M : Hp → Prop, (c σ H fun _ H1 => M H1) ∧ ∀ H1, M H1 → t D σ H1 ∧ u D σ H1
theorem ps_ifN {X : Cx} {c : Expr} {a b : List Stmt} {pos : Pos} {tc : TT} {t u : TS} (hc : PT X c tc) (ha : PSs X a t) (hb : PSs X b u) : PS X (.If c a b pos) (tIfN tc t u) := by
  intro pins s σ H D I ⟨M, h, hM⟩
  refine wpAny_If (thn (hc pins s σ H _ I h) fun d s1 ⟨H1, I1, q1⟩ => ?_)
  cases d with
  | true => exact ha pins s1 σ H1 D I1 (hM H1 q1).1
  | false => exact hb pins s1 σ H1 D I1 (hM H1 q1).2
/-! ### a display of written texts, all items at once -/
def strOf : Expr → Option Str
  | .Constant (.str x) _ _ => some x
  | _ => none
def strsOf : List Expr → Option (List Str)
  | [] => some []
  | e :: r => (strOf e).bind fun x => (strsOf r).map fun xs => x :: xs
def tStrs (xs : List Str) : TA := fun _ H Q => Q (xs.map V.str) H
theorem pa_strs {X : Cx} : ∀ {es : List Expr} (xs : List Str), strsOf es = some xs → PA X es (tStrs xs)
  | [], xs, h => by
    cases h
    exact pa_nil
  | e :: r, xs, h => by
    cases he : strOf e with
    | none => rw [strsOf, he] at h; cases h
    | some x =>
      cases hr : strsOf r with
      | none => rw [strsOf, he, hr] at h; cases h
      | some ys =>
        rw [strsOf, he, hr] at h
        cases h
        have hc : ∃ k p, e = .Constant (.str x) k p := by
          unfold strOf at he
          split at he
          · cases he; exact ⟨_, _, rfl⟩
          · cases he
        obtain ⟨k, p, rfl⟩ := hc
        intro pos pins s σ H Q I q
        have z : PA X (.Constant (.str x) k p :: r) (tCons (tC (.str x)) (tStrs ys)) := pa_cons pe_str (pa_strs ys hr)
        exact z pos pins s σ H Q I q
/-! ### what a comprehension's block captures -/
def capOf (cells : List (Str × Addr)) : List (Str × NameKind) → List (Str × Addr) → List (Str × Addr)
  | [], acc => acc
  | (n, k) :: r, acc => capOf cells r (if k == .free then (n, (cells.lookup n).getD 0) :: acc else acc)
theorem capOf_loop (env : Env) : ∀ (names : List (Str × NameKind)) (acc : List (Str × Addr)), (∀ y ∈ names, y.2 = .free → ∃ c, env.cells.lookup y.1 = some c) →
    (forIn names acc (fun (x : Str × NameKind) (cs : List (Str × Addr)) => if (x.2 == NameKind.free) = true then do let a ← cellOf env x.1; pure (ForInStep.yield ((x.1, a) :: cs)) else pure (ForInStep.yield cs)) : Sem (List (Str × Addr))) = pure (capOf env.cells names acc)
  | [], acc, _ => rfl
  | (n, k) :: r, acc, h => by
    have ih := fun acc' => capOf_loop env r acc' fun y hy => h y (List.mem_cons_of_mem _ hy)
    rw [List.forIn_cons]
    cases hk : k == NameKind.free with
    | false =>
      simp only [capOf, hk, Bool.false_eq_true, if_false, pure_bind]
      exact ih acc
    | true =>
      obtain ⟨c, hc⟩ := h (n, k) List.mem_cons_self (by simpa using hk)
      have hc' : env.cells.lookup n = some c := hc
      have e : cellOf env n = pure c := by unfold cellOf; rw [hc']
      simp only [capOf, hk, if_true, e, pure_bind, hc', Option.getD_some]
      exact ih _
theorem closure_cap {scope : Scope} {env : Env} (h : ∀ y ∈ scope.names, y.2 = .free → ∃ c, env.cells.lookup y.1 = some c) : closureFor scope env = pure (capOf env.cells scope.names []) := by
  unfold closureFor
  have q := capOf_loop env scope.names [] h
  first
    | exact q
    | (simp only [bind_pure]; exact q)
    | (rw [show (forIn scope.names [] _ : Sem (List (Str × Addr))) = _ from q]; rfl)
theorem capOf_some {cells : List (Str × Addr)} {x : Str} {c : Addr} : ∀ (names : List (Str × NameKind)) (acc : List (Str × Addr)), (∀ y ∈ names, y.2 = .free → ∃ c, cells.lookup y.1 = some c) →
    (capOf cells names acc).lookup x = some c → acc.lookup x = some c ∨ cells.lookup x = some c
  | [], acc, _, h => .inl h
  | (n, k) :: r, acc, hf, h => by
    have hf' : ∀ y ∈ r, y.2 = .free → ∃ c, cells.lookup y.1 = some c := fun y hy => hf y (List.mem_cons_of_mem _ hy)
    cases hk : k == NameKind.free with
    | false =>
      simp only [capOf, hk, Bool.false_eq_true, if_false] at h
      exact capOf_some r acc hf' h
    | true =>
      simp only [capOf, hk, if_true] at h
      rcases capOf_some r _ hf' h with h | h
      · rw [List.lookup_cons] at h
        cases hx : x == n with
        | true =>
          rw [hx] at h
          obtain ⟨c', hc⟩ := hf (n, k) List.mem_cons_self (by simpa using hk)
          have hc' : cells.lookup n = some c' := hc
          have e : x = n := by simpa using hx
          simp only [hc', Option.getD_some] at h
          cases h
          exact .inr (by rw [e]; exact hc')
        | false => rw [hx] at h; exact .inl h
      · exact .inr h
theorem capOf_keep {cells : List (Str × Addr)} {x : Str} : ∀ (names : List (Str × NameKind)) (acc : List (Str × Addr)), (∃ c, acc.lookup x = some c) → ∃ c, (capOf cells names acc).lookup x = some c
  | [], _, h => h
  | (n, k) :: r, acc, h => by
    unfold capOf
    refine capOf_keep r _ ?_
    cases hk : k == NameKind.free with
    | false => simpa using h
    | true =>
      simp only [if_true]
      rw [List.lookup_cons]
      cases hx : x == n with
      | true => exact ⟨_, rfl⟩
      | false => exact h
theorem capOf_has {cells : List (Str × Addr)} {x : Str} : ∀ (names : List (Str × NameKind)) (acc : List (Str × Addr)), (x, NameKind.free) ∈ names → ∃ c, (capOf cells names acc).lookup x = some c
  | [], _, h => nomatch h
  | (n, k) :: r, acc, h => by
    rcases List.mem_cons.mp h with e | h
    · cases e
      unfold capOf
      refine capOf_keep r _ ?_
      simp only [beq_self_eq_true, if_true]
      refine ⟨(cells.lookup x).getD 0, ?_⟩
      rw [List.lookup_cons]
      simp
    · exact capOf_has r _ h

/-! ### the scope of a block: its own names are local, what it captures is a cell of the def -/
def blkOk (scope outer : Scope) : Bool :=
  (scope.kind == .function) && scope.names.all fun y => (y.2 != .cell) && (y.2 != .local || scope.names.lookup y.1 == some .local) && (y.2 != .free || (outer.names.lookup y.1 == some .cell || outer.names.lookup y.1 == some .free))
theorem blk_kind {scope outer : Scope} (h : blkOk scope outer = true) : scope.kind = .function := by
  unfold blkOk at h; rw [Bool.and_eq_true] at h; simpa using h.1
theorem blk_all {scope outer : Scope} (h : blkOk scope outer = true) : ∀ y ∈ scope.names, y.2 ≠ .cell ∧ (y.2 = .local → scope.names.lookup y.1 = some .local) ∧ (y.2 = .free → outer.names.lookup y.1 = some .cell ∨ outer.names.lookup y.1 = some .free) := by
  unfold blkOk at h; rw [Bool.and_eq_true, List.all_eq_true] at h
  intro y hy
  have q := h.2 y hy
  simp only [Bool.and_eq_true, Bool.or_eq_true, bne_iff_ne, beq_iff_eq, ne_eq] at q
  refine ⟨q.1.1, fun e => ?_, fun e => ?_⟩
  · rcases q.1.2 with z | z
    · exact absurd e z
    · exact z
  · rcases q.2 with z | z
    · exact absurd e z
    · exact z
/-- the captured names by their slots in the def -/
def capsOk (XN : List Str) (scope : Scope) : List Str → List Nat → Bool
  | [], [] => true
  | x :: r, i :: t => (XN[i]? == some x) && (scope.names.lookup x == some .free) && capsOk XN scope r t
  | _, _ => false
theorem caps_get {XN : List Str} {scope : Scope} : ∀ {cs : List Str} {caps : List Nat} {j : Nat} {x : Str}, capsOk XN scope cs caps = true → cs[j]? = some x → ∃ i, caps[j]? = some i ∧ XN[i]? = some x ∧ scope.names.lookup x = some .free
  | [], _, j, x, _, h => by simp at h
  | y :: r, [], j, x, h, _ => by simp [capsOk] at h
  | y :: r, i :: t, 0, x, h, e => by
    simp only [capsOk, Bool.and_eq_true, beq_iff_eq] at h
    simp at e; subst e
    exact ⟨i, rfl, h.1.1, h.1.2⟩
  | y :: r, i :: t, j + 1, x, h, e => by
    simp only [capsOk, Bool.and_eq_true] at h
    obtain ⟨k, h1, h2⟩ := caps_get (j := j) (x := x) h.2 (by simpa using e)
    exact ⟨k, by simpa using h1, h2⟩
theorem caps_len {XN : List Str} {scope : Scope} : ∀ {cs : List Str} {caps : List Nat}, capsOk XN scope cs caps = true → cs.length = caps.length
  | [], [], _ => rfl
  | [], _ :: _, h => by simp [capsOk] at h
  | _ :: _, [], h => by simp [capsOk] at h
  | y :: r, i :: t, h => by
    simp only [capsOk, Bool.and_eq_true] at h
    simp [caps_len h.2]

/-- the names' values at a block's entry: nl own ones, then the captured -/
def stC (nl : Nat) (caps : List Nat) (σ : St) : St := List.replicate nl none ++ caps.map fun i => (σ[i]?).getD none

/-- the context of a comprehension's block, entered at s -/
def cxC (X : Cx) (scope : Scope) (N : List Str) (s : Shared) (H : Hp) (fp : List Addr) : Cx :=
  { X with N := N, s₀ := s, H₀ := H, env := compEnvC scope (capOf X.env.cells scope.names []) (s.heap.objs.size + 1) X.env, outer := X.stack, stack := X.stack, ex := fp, fn := fun _ => false, pn := [], xe := fun _ _ => False }

section
variable {X : Cx} {pins : List (Addr × Obj)} {σ : St} {H : Hp} {s : Shared} {scope : Scope} {N : List Str} {fp : List Addr}
theorem relabel_names_lookup {env : Env} {x : Str} {k : NameKind} : ∀ {names : List (Str × NameKind)}, 
    (names.map fun (n, k) => if (k == NameKind.free && env.scope.kind == .function && env.kindOf n == some .cell) then (n, NameKind.cell) else (n, k)).lookup x = some k → (k = .cell ∨ k = .free) → (x, NameKind.cell) ∈ names ∨ (x, NameKind.free) ∈ names
  | [], h, _ => by simp at h
  | (n, k') :: r, h, hk => by
    have h' : List.lookup x ((if (k' == NameKind.free && env.scope.kind == .function && env.kindOf n == some .cell) = true then (n, NameKind.cell) else (n, k')) :: (r.map fun (n, k) => if (k == NameKind.free && env.scope.kind == .function && env.kindOf n == some .cell) then (n, NameKind.cell) else (n, k))) = some k := h
    by_cases hc : (k' == NameKind.free && env.scope.kind == .function && env.kindOf n == some .cell) = true
    · rw [if_pos hc, List.lookup_cons] at h'
      cases hx : x == n with
      | true =>
        have e : x = n := by simpa using hx
        have e2 : k' = .free := by
          rw [Bool.and_eq_true, Bool.and_eq_true] at hc
          simpa using hc.1.1
        subst e; subst e2
        exact .inr List.mem_cons_self
      | false =>
        rw [hx] at h'
        exact (relabel_names_lookup h' hk).imp (List.mem_cons_of_mem _) (List.mem_cons_of_mem _)
    · rw [if_neg hc, List.lookup_cons] at h'
      cases hx : x == n with
      | true =>
        rw [hx] at h'
        have e : x = n := by simpa using hx
        cases h'
        subst e
        rcases hk with rfl | rfl
        · exact .inl List.mem_cons_self
        · exact .inr List.mem_cons_self
      | false =>
        rw [hx] at h'
        exact (relabel_names_lookup h' hk).imp (List.mem_cons_of_mem _) (List.mem_cons_of_mem _)
theorem lookup_relabel_free {env : Env} : ∀ {names : List (Str × NameKind)} {x : Str}, names.lookup x = some .free →
    (names.map fun (n, k) => if (k == NameKind.free && env.scope.kind == .function && env.kindOf n == some .cell) then (n, NameKind.cell) else (n, k)).lookup x = some .cell ∨
    (names.map fun (n, k) => if (k == NameKind.free && env.scope.kind == .function && env.kindOf n == some .cell) then (n, NameKind.cell) else (n, k)).lookup x = some .free
  | [], _, h => by simp at h
  | (n, k) :: r, x, h => by
    have ih := @lookup_relabel_free env r x
    show List.lookup x ((if (k == NameKind.free && env.scope.kind == .function && env.kindOf n == some .cell) = true then (n, NameKind.cell) else (n, k)) :: _) = _ ∨ List.lookup x ((if (k == NameKind.free && env.scope.kind == .function && env.kindOf n == some .cell) = true then (n, NameKind.cell) else (n, k)) :: _) = _
    cases hx : x == n with
    | true =>
      simp only [List.lookup_cons, hx] at h
      cases h
      by_cases hc : (NameKind.free == NameKind.free && env.scope.kind == .function && env.kindOf n == some .cell) = true
      · rw [if_pos hc]; left; simp [List.lookup_cons, hx]
      · rw [if_neg hc]; right; simp [List.lookup_cons, hx]
    | false =>
      simp only [List.lookup_cons, hx] at h
      by_cases hc : (k == NameKind.free && env.scope.kind == .function && env.kindOf n == some .cell) = true
      · rw [if_pos hc]; simp only [List.lookup_cons, hx]; exact ih h
      · rw [if_neg hc]; simp only [List.lookup_cons, hx]; exact ih h

theorem free_cells (I : Inv X pins σ H s) (hb : blkOk scope X.env.scope = true) : ∀ y ∈ scope.names, y.2 = .free → ∃ c, X.env.cells.lookup y.1 = some c := fun y hy e =>
  I.ok.has y.1 ((blk_all hb y hy).2.2 e)

/-- the block's context is one -/
theorem cxC_ok (I : Inv X pins σ H s) (hb : blkOk scope X.env.scope = true) (hf : ∀ b ∈ fp, FpOk X pins H b) (hlt : ∀ b ∈ fp, b < s.heap.objs.size) : (cxC X scope N s H fp).Ok where
  mod := I.ok.mod
  kind := show scope.kind = .function from blk_kind (outer := X.env.scope) hb
  glob := I.ok.glob
  blt := I.ok.blt
  above := Nat.le_succ _
  inj := fun x y c h1 h2 => by
    have q1 := (capOf_some scope.names [] (free_cells I hb) h1).resolve_left (by simp)
    have q2 := (capOf_some scope.names [] (free_cells I hb) h2).resolve_left (by simp)
    exact I.ok.inj x y c q1 q2
  has := fun x hx => by
    have hx' : (relabel scope X.env).names.lookup x = some .cell ∨ (relabel scope X.env).names.lookup x = some .free := hx
    have q : (x, NameKind.cell) ∈ scope.names ∨ (x, NameKind.free) ∈ scope.names := by
      rcases hx' with z | z
      · exact relabel_names_lookup z (.inl rfl)
      · exact relabel_names_lookup z (.inr rfl)
    rcases q with q | q
    · exact absurd rfl (blk_all hb _ q).1
    · exact capOf_has scope.names [] q
  cab := fun x c h => nomatch h
  hd := I.ok.hd
  frames := I.ok.frames
  stk := .inl rfl
  exf := fun b hbm => ⟨Nat.ne_of_lt (Nat.lt_succ_of_lt (hlt b hbm)), fun x c e => by
    have q := (capOf_some scope.names [] (free_cells I hb) e).resolve_left (by simp)
    exact (hf b hbm).2.2.2.2.1 x c q⟩
  bs := I.bs
  bsz := Nat.le_trans I.ok.bsz I.sz
  noex := fun b o e hbm => by
    rcases (hf b hbm).2.2.2.1 with z | z
    · exact I.ok.noex b o e z
    · exact absurd (Nat.lt_of_lt_of_le (Heap.lt_size e) (Nat.le_trans I.ok.bsz z)) (Nat.lt_irrefl _)
  exfs := fun b hbm z => by
    rcases List.mem_cons.mp (I.stkSub b z) with e | e
    · exact (hf b hbm).2.1 e
    · exact (hf b hbm).2.2.1 e
  funs := I.stack
  frf := I.stkFree

/-- behind the block: the def goes on -/
theorem cxC_back {σ' : St} {H' : Hp} {s' : Shared} (I : Inv X pins σ H s) (hf : ∀ b ∈ fp, FpOk X pins H b) (J : Inv (cxC X scope N s H fp) [] σ' H' s') : Inv X pins σ H' s' :=
  I.call' J.os J.base J.hok J.bare fun b hb => ⟨(hf b hb).2.2.2.1, (hf b hb).2.1, (hf b hb).2.2.2.2.1, (hf b hb).2.2.2.2.2⟩
end

/-! ### the tests of a clause -/
def PTs (X : Cx) (ifs : List Expr) (t : TT) : Prop :=
  ∀ (pins : List (Addr × Obj)) (s : Shared) (σ : St) (H : Hp) (Q : Bool → Hp → Prop), Inv X pins σ H s → t σ H Q →
    wpAny (model X.prog X.w) X.A (forIn ifs true fun c r => if r = true then do let ok ← isTrue c X.env (eval c X.env); pure (ForInStep.yield ok) else pure (ForInStep.yield r)) (TP X pins σ Q) X.xe s
theorem pts_one {X : Cx} {c : Expr} {t : TT} (hc : PT X c t) : PTs X [c] t := fun pins s σ H Q I h => wpAny_tests_one (hc pins s σ H Q I h)

theorem comp_loop {prog : Program} {w : World} {A : Around} {R : Result → Shared → Prop} {s : Shared} {elt target iter : Expr} {ifs : List Expr} {scope : Scope} {pos : Pos} {it acc : Value} {env : Env} (I : Nat → Shared → Prop)
    (turn : ∀ n s, I n s → wpAny (model prog w) A (pyNext it) (fun r s₁ => match r with
      | none => R (.ok .next) s₁
      | some v => wpAny (model prog w) A (letOwnedTupleGo target it v) (fun _ s₁' => wpAny (model prog w) A (assign target env v) (fun _ s₂ =>
          wpAny (model prog w) A (forIn ifs true fun c r => if r = true then do let ok ← isTrue c env (eval c env); pure (ForInStep.yield ok) else pure (ForInStep.yield r)) (fun ok s₃ =>
            if ok = true then wpAny (model prog w) A (eval elt env) (fun x s₄ =>
              wpAny (model prog w) A (call (.builtin "list.append") [acc, x]) (fun _ s₅ => ∃ m, m < n ∧ I m s₅) (fun _ _ => False) s₄) (fun _ _ => False) s₃
            else ∃ m, m < n ∧ I m s₃) (fun _ _ => False) s₂) (fun _ _ => False) s₁') (fun _ _ => False) s₁) (fun _ _ => False) s)
    (n : Nat) (h : I n s) : codeAny (model prog w) A (.compLoop (.ListComp elt [⟨target, iter, ifs, 0⟩] scope pos) 0 it acc env) R s := by
  refine codeAny_loop rfl I (fun n s hI => ?_) n h
  show wpAny _ A ((compTurn (.ListComp elt [⟨target, iter, ifs, 0⟩] scope pos) 0 it acc env).onRaise (fun x => do noteFrame x env; theTreesLotGoes x)) _ _ s
  refine wpAny_noted ?_
  refine wpAny_noRaise ?_
  rw [compTurn_list]
  refine wpAny_bind (wpAny_standAt (wpAny_bind (wpAny_mono (turn n s hI) (fun r s₁ h₁ => ?_) fun _ _ h' => h')))
  cases r with
  | none => exact wpAny_pure h₁
  | some v =>
    refine wpAny_bind (wpAny_mono h₁ (fun _ s₁' h₁' => ?_) fun _ _ h' => h')
    refine wpAny_bind (wpAny_mono h₁' (fun _ s₂ h₂ => wpAny_bind (wpAny_mono h₂ (fun ok s₃ h₃ => ?_) fun _ _ h' => h')) fun _ _ h' => h')
    cases ok with
    | false => exact wpAny_pure ⟨rfl, h₃⟩
    | true =>
      exact wpAny_bind (wpAny_bind (wpAny_mono h₃ (fun x s₄ h₄ => wpAny_bind (wpAny_mono h₄ (fun _ s₅ h₅ => wpAny_pure (wpAny_pure ⟨rfl, h₅⟩)) fun _ _ h' => h')) fun _ _ h' => h'))

/-! ### a list comprehension -/
/-- what is wanted at the end: the new list stands at D -/
def cmpR (J : It) (g : TG) (tc : TT) (te : TE) (D : Addr) (Fin : Hp → Prop) (σ0 : St) (H0 : Hp) : Prop :=
  ∃ W : Nat → Nat → St → Hp → Prop, (∃ m, W 0 m σ0 H0) ∧ ∀ i m σ H, W i m σ H →
    (J.stop i H ∧ Fin H) ∨ (J.go i H ∧ ∃ N : St → Hp → Prop, (∀ σ' H', N σ' H' → ∃ m', m' < m ∧ W (i + 1) m' σ' H') ∧ ∀ x H1, J.yld i H x H1 → g x σ H1 fun σ2 H2 => tc σ2 H2 fun b H3 =>
      if b = true then te σ2 H3 fun v H4 => ∃ xs, H4 D = some (.lst xs) ∧ xs.length < sizeLine ∧ N σ2 (upd H4 D (.lst (xs ++ [v]))) else N σ2 H3)
/-- .. n turns, by what holds ahead of each -/
theorem cmp_by {J : It} {g : TG} {tc : TT} {te : TE} {D : Addr} {Fin : Hp → Prop} {σ0 : St} {H0 : Hp} (n : Nat) (Pv : Nat → St → Hp → Prop) (h0 : Pv 0 σ0 H0) (hend : ∀ σ H, Pv n σ H → J.stop n H ∧ Fin H)
    (hs : ∀ i σ H, i < n → Pv i σ H → J.go i H ∧ ∀ x H1, J.yld i H x H1 → g x σ H1 fun σ2 H2 => tc σ2 H2 fun b H3 =>
      if b = true then te σ2 H3 fun v H4 => ∃ xs, H4 D = some (.lst xs) ∧ xs.length < sizeLine ∧ Pv (i + 1) σ2 (upd H4 D (.lst (xs ++ [v]))) else Pv (i + 1) σ2 H3) : cmpR J g tc te D Fin σ0 H0 := by
  refine ⟨fun i m σ H => m = n - i ∧ i ≤ n ∧ Pv i σ H, ⟨n, by simp, Nat.zero_le _, h0⟩, ?_⟩
  rintro i m σ H ⟨rfl, hi, p⟩
  by_cases hlt : i < n
  · obtain ⟨q1, q2⟩ := hs i σ H hlt p
    exact .inr ⟨q1, Pv (i + 1), fun σ' H' p' => ⟨n - (i + 1), by omega, rfl, hlt, p'⟩, q2⟩
  · have e : i = n := by omega
    subst e
    exact .inl (hend σ H p)
def tComp (wi : TI) (g : TG) (tc : TT) (te : TE) (nl : Nat) (caps : List Nat) : TE := fun σ H Q =>
  wi σ H fun J H1 => ∀ D, H1 D = none → cmpR J g tc te D (fun H' => Q (.ref D) H') (stC nl caps σ) (upd H1 D (.lst []))

section
variable {X : Cx} {tg iter elt : Expr} {ifs : List Expr} {scope : Scope} {pos : Pos} {wi : TI} {g : TG} {tc : TT} {te : TE} {locs cs : List Str} {caps : List Nat}

theorem comp_block {pins : List (Addr × Obj)} {σ : St} {H : Hp} {s : Shared} {it : Addr} {fp : List Addr} {tn : Nat → Heap → Prop} {J : It} {RR : Value → Addr → Result → Shared → Prop} {E : Value → Shared → Prop} {Fin : Hp → Prop}
    (hc : X.calm = true) (hb : blkOk scope X.env.scope = true) (hcap : capsOk X.N scope cs caps = true)
    (I : Inv X pins σ H s) (T : Turn X.prog X.w X.K tg J fp it tn) (st : tn 0 s.heap) (hf : ∀ b ∈ fp, FpOk X pins H b)
    (hg : PG (cxC X scope (locs ++ cs) s H fp) tg g) (ht : PTs (cxC X scope (locs ++ cs) s H fp) ifs tc) (he : PE (cxC X scope (locs ++ cs) s H fp) elt te)
    (h : cmpR J g tc te s.heap.objs.size Fin (stC locs.length caps σ) (upd H s.heap.objs.size (.lst [])))
    (hRR : ∀ σ' H' s', Inv (cxC X scope (locs ++ cs) s H fp) [] σ' H' s' → Fin H' → RR (.ref s.heap.objs.size) (s.heap.objs.size + 1) (.ok .next) s') :
    wpAny (model X.prog X.w) X.A (newList []) (fun acc s₃ => wpAny (model X.prog X.w) X.A (newFunctionEnv scope X.env.globals (capOf X.env.cells scope.names []) [] X.env.qual none .none (some X.env)) (fun cenv s₄ =>
      codeAny (model X.prog X.w) X.A (.compStart (.ListComp elt [⟨tg, iter, ifs, 0⟩] scope pos) 0 (.ref it) acc { cenv with scope := relabel scope X.env }) (RR acc cenv.locals) s₄) E s₃) E s := by
  have hcell : ∀ y ∈ scope.names, y.2 ≠ .cell := fun y hy => (blk_all hb y hy).1
  have hkind := blk_kind hb
  have hlt : ∀ b ∈ fp, b < s.heap.objs.size := fun b hbm => by
    obtain ⟨o, e, _⟩ := T.obj 0 _ st b hbm
    exact Heap.lt_size e
  refine wpAny_newObj_type (wpAny_newFunctionEnv hcell (by intro y hy; simp at hy) (fun h₁ hns₁ hsb₁ => ?_) hkind)
  dsimp only at hns₁ hsb₁ ⊢
  generalize hH2 : s.heap.push { cls := .type "list", dict := none, data := .seq ([] : List Value).toArray } = H2 at hns₁ hsb₁ ⊢
  have hC : H2.objs.size = s.heap.objs.size + 1 := by rw [← hH2, Heap.size_push]
  rw [hC] at hns₁ hsb₁ ⊢
  have hDC : s.heap.objs.size ≠ s.heap.objs.size + 1 := Nat.ne_of_lt (Nat.lt_succ_self _)
  have below : ∀ b, b < s.heap.objs.size → b ≠ s.heap.objs.size + 1 := fun b hb => Nat.ne_of_lt (Nat.lt_succ_of_lt hb)
  have old : ∀ b o, s.heap.get? b = some o → h₁.get? b = some o := fun b o e => hsb₁.extBut b o (below b (Heap.lt_size e)) (Heap.get?_push_of_some _ (hH2 ▸ Heap.get?_push_of_some _ e))
  have hD : h₁.get? s.heap.objs.size = some { cls := .type "list", dict := none, data := .seq ([] : List Value).toArray } :=
    hsb₁.extBut _ _ hDC (Heap.get?_push_of_some _ (hH2 ▸ Heap.get?_push_size _ rfl))
  have frC : H (s.heap.objs.size + 1) = none := I.hok.fresh (Nat.le_succ _)
  have frD : H s.heap.objs.size = none := I.hok.fresh (Nat.le_refl _)
  -- the block's entry
  have J0 : Inv (cxC X scope (locs ++ cs) s H fp) [] (stC locs.length caps σ) (upd H s.heap.objs.size (.lst [])) { s with heap := h₁, toks := s.toks + ([] : List (Str × Value)).length } := by
    refine ⟨cxC_ok I hb hf hlt, rfl, I.bare, Un.laid old (Nat.le_refl _) frD, ⟨_, hns₁, fun i x v e1 e2 e3 => ?_⟩, fun x c e => ?_, ?_, fun x c e => ?_, fun p hp => absurd (show p ∈ ([] : List (Addr × Obj)) from hp) (by simp), ?_, ?_⟩
    · have e1' : (locs ++ cs)[i]? = some x := e1
      have hi : locs.length ≤ i := by
        rcases Nat.lt_or_ge i locs.length with hi | hi
        · unfold stC at e2
          rw [List.getElem?_append_left (by simpa using hi), List.getElem?_replicate] at e2
          split at e2 <;> cases e2
        · exact hi
      rw [List.getElem?_append_right hi] at e1'
      obtain ⟨k, q1, q2, q3⟩ := caps_get hcap e1'
      unfold stC at e2
      rw [List.getElem?_append_right (by simpa using hi), List.length_replicate, List.getElem?_map, q1] at e2
      have e2' : (σ[k]?).getD none = some v := by simpa using e2
      have e4 : σ[k]? = some (some v) := by
        cases z : σ[k]? with
        | none => rw [z] at e2'; cases e2'
        | some o => rw [z] at e2'; simp at e2'; rw [e2']
      have hfr := (blk_all hb _ (PySem.mem_of_lookup q3)).2.2 rfl
      obtain ⟨m, hn, hl⟩ := I.loc
      obtain ⟨u, r, l⟩ := hl k x v q2 e4 (hfr.elim (fun z => .inr (.inl z)) fun z => .inr (.inr z))
      refine ⟨u, r, .inr ⟨?_, ?_⟩⟩
      · exact lookup_relabel_free q3
      · rcases l with ⟨k1, _⟩ | ⟨_, c, ec, z⟩
        · exfalso
          have k1' : X.env.scope.names.lookup x = some .local := k1
          rcases hfr with z | z <;> (rw [k1'] at z; cases z)
        · obtain ⟨c', ec'⟩ := capOf_has (cells := X.env.cells) scope.names [] (PySem.mem_of_lookup q3)
          have q := (capOf_some scope.names [] (free_cells I hb) ec').resolve_left (by simp)
          rw [ec] at q; cases q
          obtain ⟨o, ho, hd⟩ := z
          exact ⟨c, ec', o, old _ _ ho, hd⟩
    · have q := (capOf_some scope.names [] (free_cells I hb) e).resolve_left (by simp)
      obtain ⟨v, o, ho, hd⟩ := I.cell x c q
      exact ⟨v, o, old _ _ ho, hd⟩
    · show upd H s.heap.objs.size (.lst []) (s.heap.objs.size + 1) = none
      rw [upd_ne (Ne.symm hDC)]
      exact frC
    · have q := (capOf_some scope.names [] (free_cells I hb) e).resolve_left (by simp)
      obtain ⟨v, o, ho, hd⟩ := I.cell x c q
      rw [upd_ne (Nat.ne_of_lt (Heap.lt_size ho))]
      exact I.freeC x c q
    · exact I.hok.laid old (Nat.le_refl _) ⟨Nat.zero_le _, [], 0, .nil, hD⟩
    · show (stC locs.length caps σ).length = (locs ++ cs).length
      unfold stC
      rw [List.length_append, List.length_replicate, List.length_map, List.length_append, caps_len hcap]
  obtain ⟨W, ⟨m0, w0⟩, turn⟩ := h
  have stat : ∀ {H' : Hp}, (∀ b ∈ fp, H' b = none) → ∀ b ∈ fp, FpOk (cxC X scope (locs ++ cs) s H fp) [] H' b := fun {H'} hn b hbm => by
    have q := (cxC_ok (N := locs ++ cs) I hb hf hlt)
    refine ⟨hn b hbm, (q.exf b hbm).1, q.exfs b hbm, .inl hbm, (q.exf b hbm).2, fun p hp => absurd (show p ∈ ([] : List (Addr × Obj)) from hp) (by simp)⟩
  have fr0 : ∀ b ∈ fp, upd H s.heap.objs.size (.lst []) b = none := fun b hbm => by rw [upd_ne (Nat.ne_of_lt (hlt b hbm))]; exact (hf b hbm).1
  have loop : ∀ s₃ : Shared, s₃ = { s with heap := h₁, toks := s.toks + ([] : List (Str × Value)).length } →
      codeAny (model X.prog X.w) X.A (.compLoop (.ListComp elt [⟨tg, iter, ifs, 0⟩] scope pos) 0 (.ref it) (.ref s.heap.objs.size) (cxC X scope (locs ++ cs) s H fp).env) (RR (.ref s.heap.objs.size) (s.heap.objs.size + 1)) s₃ := by
    rintro s₃ rfl
    refine comp_loop (fun n s' => ∃ i σ' H', Inv (cxC X scope (locs ++ cs) s H fp) [] σ' H' s' ∧ tn i s'.heap ∧ (∀ b ∈ fp, H' b = none) ∧ W i n σ' H') ?_ m0
      ⟨0, _, _, J0, T.keep _ _ _ st fun b _ o e => old b o e, fr0, w0⟩
    rintro n s3 ⟨i, σ3, H3, I3, st3, fr3, w3⟩
    rcases turn i n σ3 H3 w3 with ⟨stop, qn⟩ | ⟨go, Nn, hNn, step⟩
    · refine thn (T.done (cxC X scope (locs ++ cs) s H fp) rfl rfl rfl hc i [] s3 σ3 H3 _ I3 (stat fr3) st3 stop) fun r s4 ⟨hr, I4⟩ => ?_
      subst hr
      exact hRR σ3 H3 s4 I4 qn
    · refine thn (T.item (cxC X scope (locs ++ cs) s H fp) rfl rfl rfl hc i [] s3 σ3 H3 _ I3 (stat fr3) st3 go) fun r s4 ⟨u, hr, h4⟩ => ?_
      subst hr
      refine thn h4 fun _ s5 ⟨x, H5, I5, r5, y5, st5, fr5⟩ => ?_
      have I5' := I5.pinned (stat fr5) (T.obj _ _ st5)
      have again : ∀ {σ7 : St} {H7 : Hp} {s7 : Shared}, Inv (cxC X scope (locs ++ cs) s H fp) ([] ++ pinsAt fp s5.heap) σ7 H7 s7 → Nn σ7 H7 →
          ∃ m, m < n ∧ ∃ i σ' H', Inv (cxC X scope (locs ++ cs) s H fp) [] σ' H' s7 ∧ tn i s7.heap ∧ (∀ b ∈ fp, H' b = none) ∧ W i m σ' H' := fun {σ7 H7 s7} I7 n7 => by
        obtain ⟨m', hm, w7⟩ := hNn σ7 H7 n7
        refine ⟨m', hm, i + 1, σ7, H7, I7.unpinned, T.keep _ _ _ st5 fun b hb o e => (I7.pin (b, o) (List.mem_append_right _ (List.mem_append_right _ (mem_pinsAt hb e)))).1, fun b hb => ?_, w7⟩
        obtain ⟨o, e, d⟩ := T.obj _ _ st5 b hb
        exact (I7.pin (b, o) (List.mem_append_right _ (List.mem_append_right _ (mem_pinsAt hb e)))).2.1
      refine thn (hg _ s5 σ3 H5 x u _ I5' r5 (step x H5 y5)) fun _ s6 ⟨σ6, H6, I6, q6⟩ => ?_
      refine thn (ht _ s6 σ6 H6 _ I6 q6) fun b s7 ⟨H7, I7, q7⟩ => ?_
      cases b with
      | false => exact again I7 q7
      | true =>
        refine thn (he _ s7 σ6 H7 _ I7 q7) fun u8 s8 ⟨v8, H8, I8, r8, xs, e8, z8, q8⟩ => ?_
        refine thn (mt_append (X := cxC X scope (locs ++ cs) s H fp) ([] ++ pinsAt fp s5.heap) s8 σ6 H8 (.ref s.heap.objs.size) [v8] (.ref s.heap.objs.size) [u8] (fun _ H9 => Nn σ6 H9) I8 rfl (.cons r8 .nil) ⟨_, xs, v8, rfl, rfl, e8, z8, q8⟩) fun _ s9 ⟨_, H9, I9, _, q9⟩ => ?_
        exact again I9 q9
  exact codeAny_compStart_list (loop _ rfl) (T.self _ 0 _ _ _ (T.keep _ _ _ st fun b _ o e => old b o e) (loop _ rfl))

/-- [elt for tg in iter if ..] -/
theorem pe_comp (locs cs : List Str) (caps : List Nat) (hc : X.calm = true) (hi : PI X tg iter wi) (hg : ∀ s H fp, PG (cxC X scope (locs ++ cs) s H fp) tg g) (ht : ∀ s H fp, PTs (cxC X scope (locs ++ cs) s H fp) ifs tc) (he : ∀ s H fp, PE (cxC X scope (locs ++ cs) s H fp) elt te)
    (hb : blkOk scope X.env.scope = true := by rfl) (hcap : capsOk X.N scope cs caps = true := by rfl) (hs : ∀ x, foldedSetIterable iter X.env x = pure x := by intro _; rfl) :
    PE X (.ListComp elt [⟨tg, iter, ifs, 0⟩] scope pos) (tComp wi g tc te locs.length caps) := by
  intro pins s σ H Q I h
  rw [eval_ListComp]
  refine wpAny_comprehension_free (use := none) rfl hs (closure_cap (free_cells I hb)) (blk_kind hb) (fun y hy => (blk_all hb y hy).2.1) (thn (hi pins s σ H _ I h) fun v s1 h1 => thn h1 fun itv s2 h2 => ?_)
  obtain ⟨it, fp, tn, J, H2, e, I2, T, st2, f2, q⟩ := h2
  subst e
  refine comp_block (RR := fun acc C => compPost (model X.prog X.w) X.A X.xe none (EP X pins σ Q) acc C) (locs := locs) (cs := cs) (Fin := fun H' => Q (.ref s2.heap.objs.size) H') hc hb hcap I2 T st2 f2 (hg _ _ _) (ht _ _ _) (he _ _ _) (q _ (I2.hok.fresh (Nat.le_refl _))) ?_
  intro σ' H' s' J' q'
  obtain ⟨m, hn, _⟩ := J'.loc
  refine ⟨m, hn, fun h' hs' => ?_⟩
  have I3 := cxC_back I2 f2 J'
  have fr : H' (s2.heap.objs.size + 1) = none := J'.free
  refine ⟨.ref s2.heap.objs.size, H', I3.turned (t' := s'.toks) (it := s2.heap.objs.size + 1) (fun b o hb e => (hs'.2 b hb).trans e) fr ?_ (.inr (Nat.le_trans I2.sz (Nat.le_succ _))) ?_ ?_, rfl, q'⟩
  · exact Nat.ne_of_gt (Nat.lt_succ_of_lt I2.lt)
  · intro x c e z
    obtain ⟨v, hv⟩ := I2.cell x c e
    have h1 : s2.heap.objs.size + 1 < s2.heap.objs.size := z ▸ hv.lt
    exact absurd h1 (Nat.not_lt.mpr (Nat.le_succ _))
  · intro p hp z
    have h1 : s2.heap.objs.size + 1 < s2.heap.objs.size := z ▸ Heap.lt_size (I2.pin p hp).1
    exact absurd h1 (Nat.not_lt.mpr (Nat.le_succ _))
end

/-! ### loops over a text -/
section
variable {X : Cx} {tg : Expr}
end

/-! ### texts: slices, upper, <= -/
section
variable {X : Cx}
theorem part_val {u : Value} {o : Option Int} (p : IsPart u o) : ∃ l : Option (Int × Tok), u = partValue l ∧ l.map (·.1) = o := by
  cases p with
  | none => exact ⟨none, rfl, rfl⟩
  | int i t => exact ⟨some (i, t), rfl, rfl⟩
/-- x[lo:hi] of a text -/
def rSlS : V → Option Int → Option Int → Hp → VK → Prop := fun x lo hi H Q => ∃ z, x = .str z ∧ z.length ≤ sizeLine ∧ Q (.str (Txt.slice z lo hi)) H
theorem sl_str : SlR X rSlS := by
  intro pins s σ H x v vl vu lo hi sl Q I rx hs pl pu h
  obtain ⟨z, rfl, hz, q⟩ := h
  obtain ⟨t, rfl⟩ := rx
  obtain ⟨l, rfl, rfl⟩ := part_val pl
  obtain ⟨u, rfl, rfl⟩ := part_val pu
  refine ⟨"str", _, F.slot_str_getitem.lookup, typeIs_str _ _ _, wpAny_getItem_str_slice (l := l) (u := u) (st := none) hs rfl ?_⟩
  exact post_val_or_str ⟨Nat.le_trans (Txt.slice_le z _ _) hz, fun t' k => ⟨.str (Txt.slice z (l.map (·.1)) (u.map (·.1))), H, I.tok _, ⟨t', rfl⟩, q⟩⟩
theorem idx_cut (lo hi : Option Int) (n : Nat) : Builtin.Str.strSliceIndices lo hi 1 n = (List.range (HT.sIx n n hi - HT.sIx n 0 lo)).map fun k => HT.sIx n 0 lo + k := by
  have c : ∀ (v : Int) (d : Nat), max 0 (min (if v < 0 then v + (n : Int) else v) (n : Int)) = ((HT.sIx n d (some v) : Nat) : Int) := fun v d => by
    rw [← HT.clip_eq v n d]
    by_cases hv : v < 0
    · simp only [if_pos hv]; omega
    · simp only [if_neg hv]; omega
  have key : ∀ i j : Nat, sliceRange (i : Int) (j : Int) 1 = (List.range (j - i)).map fun k => i + k := fun i j => by
    unfold sliceRange
    simp only [show (1 : Int) > 0 by decide, if_true]
    have e : (if (i : Int) < (j : Int) then ((j : Int) - i + 1 - 1) / 1 else 0).toNat = j - i := by
      split <;> omega
    rw [e]
    refine List.map_congr_left fun k _ => ?_
    omega
  rw [← key]
  unfold Builtin.Str.strSliceIndices
  simp only [show (1 : Int) > 0 by decide, if_true]
  cases lo with
  | none =>
    cases hi with
    | none => rfl
    | some v => rw [← c v n]; rfl
  | some u =>
    cases hi with
    | none => rw [← c u 0]; rfl
    | some v => rw [← c v n, ← c u 0]
theorem slice_cps (x : Str) (lo hi : Option Int) : (Txt.slice x lo hi).cps.toList = (x.cps.toList.drop (HT.sIx x.length 0 lo)).take (HT.sIx x.length x.length hi - HT.sIx x.length 0 lo) := by
  have h0 := HT.sIx_le x.length 0 (Nat.zero_le _) lo
  have h1 := HT.sIx_le x.length x.length (Nat.le_refl _) hi
  have hx : x.cps.toList.length = x.length := by simp [Str.length]
  unfold Txt.slice
  rw [idx_cut]
  split
  · rename_i h
    rw [Bool.and_eq_true] at h
    have h' : HT.sIx x.length x.length hi - HT.sIx x.length 0 lo = x.length := by
      have z := h.2
      rw [List.length_map, List.length_range] at z
      exact eq_of_beq z
    have h2 : HT.sIx x.length 0 lo = 0 := by omega
    rw [h', h2, List.drop_zero, List.take_of_length_le (by omega)]
  · show (List.filterMap _ _).toArray.toList = _
    rw [List.filterMap_map]
    apply List.ext_getElem?
    intro k
    have key : (List.range (HT.sIx x.length x.length hi - HT.sIx x.length 0 lo)).filterMap ((fun i => x.cps[i]?) ∘ fun k => HT.sIx x.length 0 lo + k) = (x.cps.toList.drop (HT.sIx x.length 0 lo)).take (HT.sIx x.length x.length hi - HT.sIx x.length 0 lo) := by
      generalize HT.sIx x.length 0 lo = i at h0 ⊢
      have hj : i + (HT.sIx x.length x.length hi - i) ≤ x.length ∨ HT.sIx x.length x.length hi - i = 0 := by omega
      generalize HT.sIx x.length x.length hi - i = d at hj ⊢
      induction d with
      | zero => simp
      | succ d ih =>
        rw [List.range_succ, List.filterMap_append, ih (by omega), List.take_add_one]
        congr 1
        have hlt : i + d < x.cps.size := by simp [Str.length] at hj; omega
        simp [hlt]
    simpa using congrArg (fun l : List Nat => l[k]?) key
/-! ### all of a list of bools; isinstance -/
theorem range_all (bs : List Bool) : (List.range bs.length).all (fun i => (bs[i]?).getD true) = bs.all id := by
  rw [Bool.eq_iff_iff, List.all_eq_true, List.all_eq_true]
  constructor
  · intro h b hb
    obtain ⟨i, hi, e⟩ := List.mem_iff_getElem.mp hb
    have q := h i (List.mem_range.mpr hi)
    rw [List.getElem?_eq_getElem hi, e] at q
    exact q
  · intro h i hi
    have hi' := List.mem_range.mp hi
    rw [List.getElem?_eq_getElem hi']
    exact h _ (List.getElem_mem hi')
theorem call_isinst : CallR X (.builtin "isinstance") (fun xs H Q => ∃ x n t b, xs = [x, .ty n] ∧ TyOf X.K H x t ∧ PySem.W.kitOne X.K t (.type n) = some b ∧ Q (.bl b) H) := by
  intro pins s σ H xs us Q I r h
  obtain ⟨x, n, t, b, rfl, ty, e, q⟩ := h
  obtain ⟨u, v, rfl, ru, rv⟩ := r.two
  cases rv
  exact isinst_ok I ru ty e fun tk => ⟨.bl b, H, I.tok _, rfl, q⟩
end
end L2
set_option Elab.async false
set_option linter.all false
set_option maxRecDepth 100000
set_option maxHeartbeats 4000000
/-! EXTENSION 2: the greatest of a list of ints; kinds as data: a name, or a tuple ("both", C, D), ("some", r, C); == and in over kinds. -/
namespace L2
open PySem PySem.Spec PyProof.Rows
section
variable {X : Cx}
end

/-! ### kinds -/
inductive Kd where
  | nm (x : Str)
  | two (a b : Kd)
  | som (r : Str) (c : Kd)
  deriving DecidableEq
def Kd.nt : Kd → Nat
  | .nm _ => 0
  | .two a b => 1 + a.nt + b.nt
  | .som _ c => 1 + c.nt
def Kd.sz : Kd → Nat
  | .nm _ => 1
  | .two a b => 1 + a.sz + b.sz
  | .som _ c => 1 + c.sz
/-- the kind k stands at v -/
def IsK (H : Hp) : Kd → V → Prop
  | .nm x, v => v = .str x
  | .two a b, v => ∃ (p : Addr) (x y : V), v = .ref p ∧ H p = some (.tup [.str "both", x, y]) ∧ IsK H a x ∧ IsK H b y
  | .som r c, v => ∃ (p : Addr) (y : V), v = .ref p ∧ H p = some (.tup [.str "some", .str r, y]) ∧ IsK H c y
/-- tuples stay -/
def Tups (H H' : Hp) : Prop := ∀ b xs, H b = some (.tup xs) → H' b = some (.tup xs)
theorem Tups.refl (H : Hp) : Tups H H := fun _ _ h => h
theorem Tups.trans {H H1 H2 : Hp} (a : Tups H H1) (b : Tups H1 H2) : Tups H H2 := fun c o h => b c o (a c o h)
theorem Same.tups {H H' : Hp} (h : Same H H') : Tups H H' := fun b xs e => h b _ e
theorem tups_lst {H : Hp} {p : Addr} {o : HO} {xs : List V} (h : H p = some (.lst xs)) : Tups H (upd H p o) := fun b ys e => by
  rw [upd_ne (ne_of e h (by intro z; cases z))]
  exact e
theorem IsK.mono {H H' : Hp} (t : Tups H H') : ∀ {k : Kd} {v : V}, IsK H k v → IsK H' k v
  | .nm _, _, h => h
  | .two _ _, _, ⟨p, x, y, e, h, ha, hb⟩ => ⟨p, x, y, e, t _ _ h, IsK.mono t ha, IsK.mono t hb⟩
  | .som _ _, _, ⟨p, y, e, h, hc⟩ => ⟨p, y, e, t _ _ h, IsK.mono t hc⟩
theorem both_ne_some : (Str.ofString "both" : Str) ≠ Str.ofString "some" := by decide +kernel
theorem IsK.inj {H : Hp} : ∀ {k k' : Kd} {v : V}, IsK H k v → IsK H k' v → k = k'
  | .nm x, .nm y, _, h, h' => by cases h; cases h'; rfl
  | .nm x, .two _ _, _, h, ⟨p, _, _, e, _⟩ => by cases h; cases e
  | .nm x, .som _ _, _, h, ⟨p, _, e, _⟩ => by cases h; cases e
  | .two _ _, .nm x, _, ⟨p, _, _, e, _⟩, h => by cases h; cases e
  | .som _ _, .nm x, _, ⟨p, _, e, _⟩, h => by cases h; cases e
  | .two a b, .two a' b', _, ⟨p, x, y, e, h, ha, hb⟩, ⟨p', x', y', e', h', ha', hb'⟩ => by
    cases e; cases e'
    rw [h] at h'
    cases h'
    rw [IsK.inj ha ha', IsK.inj hb hb']
  | .two a b, .som r c, _, ⟨p, x, y, e, h, ha, hb⟩, ⟨p', y', e', h', hc'⟩ => by
    cases e; cases e'
    rw [h] at h'
    injection h' with z
    injection z with z
    injection z with z _
    injection z with z
    exact absurd z both_ne_some
  | .som r c, .two a b, _, ⟨p', y', e', h', hc'⟩, ⟨p, x, y, e, h, ha, hb⟩ => by
    cases e; cases e'
    rw [h] at h'
    injection h' with z
    injection z with z
    injection z with z _
    injection z with z
    exact absurd z both_ne_some
  | .som r c, .som r' c', _, ⟨p, y, e, h, hc⟩, ⟨p', y', e', h', hc'⟩ => by
    cases e; cases e'
    rw [h] at h'
    cases h'
    rw [IsK.inj hc hc']

/-! ### == of kinds -/
theorem vals3 {x y z : V} {us : List Value} (r : Vals [x, y, z] us) : ∃ u v w', us = [u, v, w'] ∧ RelV x u ∧ RelV y v ∧ RelV z w' := by
  cases r with
  | cons r1 r =>
    cases r with
    | cons r2 r =>
      cases r with
      | cons r3 r => cases r; exact ⟨_, _, _, rfl, r1, r2, r3⟩
section
variable {X : Cx} {pins : List (Addr × Obj)} {σ : St} {H : Hp} {s : Shared}
theorem strAt (A : Around) (s : Shared) {a b : Str} {u v : Value} (hu : RelV (.str a) u) (hv : RelV (.str b) v) : SeqAt.EqAt A s u v (a == b) := by
  obtain ⟨t, rfl⟩ := hu
  obtain ⟨t', rfl⟩ := hv
  exact SeqAt.EqAt.str_str _ _ _ _
theorem in1_units (A : Around) : A.in1.units = A.units + 1 := rfl
end

/-! ### lists of kinds -/
def KL (H : Hp) : List V → List Kd → Prop := Paired fun v k => IsK H k v
theorem KL.mono {H H' : Hp} (t : Tups H H') {xs : List V} {ks : List Kd} (h : KL H xs ks) : KL H' xs ks := Paired.imp' (fun _ _ q => IsK.mono t q) h
theorem KL.len {H : Hp} {xs : List V} {ks : List Kd} (h : KL H xs ks) : xs.length = ks.length := Paired.length h
theorem KL.app {H : Hp} : ∀ {xs ys : List V} {ks ls : List Kd}, KL H xs ks → KL H ys ls → KL H (xs ++ ys) (ks ++ ls)
  | _, _, _, _, .nil, s => s
  | _, _, _, _, .cons r t, s => .cons r (KL.app t s)
theorem KL.get {H : Hp} : ∀ {xs : List V} {ks : List Kd} {i : Nat} {v : V}, KL H xs ks → xs[i]? = some v → ∃ k, ks[i]? = some k ∧ IsK H k v
  | _, _, _, _, .nil, e => by simp at e
  | _, _, 0, _, .cons r _, e => by simp at e; subst e; exact ⟨_, rfl, r⟩
  | _, _, i + 1, v, .cons _ t, e => by
    obtain ⟨u, h1, h2⟩ := KL.get (i := i) (v := v) t (by simpa using e)
    exact ⟨u, by simpa using h1, h2⟩
theorem KL.any {H : Hp} {k : Kd} {e : Value → Bool} : ∀ {xs : List V} {ks : List Kd} {us : List Value}, KL H xs ks → Vals xs us → (∀ x k' u, RelV x u → IsK H k' x → e u = decide (k' = k)) → us.any e = decide (k ∈ ks)
  | _, _, _, .nil, .nil, _ => by simp
  | _, k1 :: _, _, .cons r t, .cons ru tu, h => by
    rw [List.any_cons, h _ _ _ ru r, KL.any t tu h]
    by_cases c : k1 = k
    · subst c; simp
    · have c' : ¬ k = k1 := fun z => c z.symm
      simp [c, c']
section
variable {X : Cx}
end
end L2
set_option Elab.async false
set_option linter.all false
set_option maxRecDepth 100000
set_option maxHeartbeats 4000000
/-! EXTENSION 3: f-strings of texts; str.count; range with a step; == and != of kinds. -/
namespace L2
open PySem PySem.Spec PyProof.Rows
section
variable {X : Cx}
/-! ### f-strings -/
/-! ### str.count of one sign -/
/-! ### range with a step -/
end
/-! ### ==, != of kinds -/
section
variable {X : Cx} {pins : List (Addr × Obj)} {σ : St} {H : Hp} {s : Shared}
def Kd.last : Kd → Kd
  | .nm x => .nm x
  | .two _ b => b
  | .som _ c => c
end
section
variable {X : Cx}
end
end L2
set_option Elab.async false
set_option linter.all false
set_option maxRecDepth 100000
set_option maxHeartbeats 4000000
/-! EXTENSION 4: enumerate of a list; partition, startswith, split; every second item. -/
namespace L2
open PySem PySem.Spec PyProof.Rows
section
variable {X : Cx} {pins : List (Addr × Obj)} {σ : St} {H : Hp} {s : Shared} {h' : Heap}
/-- untracked records of ours have turned -/
theorem Inv.turnedL {t' : Nat} {fp : List Addr} (I : Inv X pins σ H s) (hf : ∀ b ∈ fp, FpOk X pins H b) (k : ∀ b o, b ∉ fp → s.heap.get? b = some o → h'.get? b = some o) : Inv X pins σ H { s with heap := h', toks := t' } := by
  have nit : ∀ b u, H b = some u → b ∉ fp := fun b u e z => by rw [(hf b z).1] at e; cases e
  refine I.step (g' := s.gens) (d' := s.drawn) (ch := fp) (fun b hb => ?_) (fun b o _ _ hc e _ => k b o hc e) (fun b o _ _ hc e _ => ⟨o.slots, k b o hc e⟩) (fun _ _ _ _ n => n)
    (fun b o hc e => ⟨o, k b o hc e⟩) (fun _ _ e => e) (fun _ _ _ e => e) (fun b ps e => ⟨#[], by rw [e]; simp⟩) (fun m hm => ?_) (fun b u e => ?_) I.bare
  · obtain ⟨f0, f1, f2, f3, f4, f5⟩ := hf b hb
    exact ⟨f3, f1, f4, f5⟩
  · obtain ⟨o, es, ep, ho, r⟩ := hm
    exact ⟨o, es, ep, k _ o (fun z => (hf _ z).2.1 rfl) ho, r⟩
  · refine (I.hok b u e).stay (fun c v hc q => k c v ?_ q) (fun _ q => q) fun _ _ q => q
    rcases hc with z | z
    · rw [z]; exact nit b u e
    · exact nit c _ z
/-- .. and a new object is tracked -/
theorem Inv.turnedT {t' : Nat} {fp : List Addr} {T : Addr} {u : HO} (I : Inv X pins σ H s) (hf : ∀ b ∈ fp, FpOk X pins H b) (k : ∀ b o, b ∉ fp → s.heap.get? b = some o → h'.get? b = some o) (hT : s.heap.objs.size ≤ T) (new : ObjOk X.prog X.w (upd H T u) h' T u) :
    Inv X pins σ (upd H T u) { s with heap := h', toks := t' } := by
  have nit : ∀ b u, H b = some u → b ∉ fp := fun b u e z => by rw [(hf b z).1] at e; cases e
  have hn : H T = none := I.hok.fresh hT
  have nT : ∀ b o, s.heap.get? b = some o → b ≠ T := fun b o e => Nat.ne_of_lt (Nat.lt_of_lt_of_le (Heap.lt_size e) hT)
  refine I.step (g' := s.gens) (d' := s.drawn) (ch := fp) (fun b hb => ?_) (fun b o _ _ hc e _ => k b o hc e) (fun b o _ _ hc e _ => ⟨o.slots, k b o hc e⟩) (fun b o _ e n => by rw [upd_ne (nT b o e)]; exact n)
    (fun b o hc e => ⟨o, k b o hc e⟩) (fun b xs e => by rw [upd_ne (ne_of_none e hn)]; exact e) (fun b o u e => by rw [upd_ne (ne_of_none e hn)]; exact e) (fun b ps e => ⟨#[], by rw [upd_ne (ne_of_none e hn), e]; simp⟩) (fun m hm => ?_) (fun b u' e => ?_) I.bare
  · obtain ⟨f0, f1, f2, f3, f4, f5⟩ := hf b hb
    exact ⟨f3, f1, f4, f5⟩
  · obtain ⟨o, es, ep, ho, r⟩ := hm
    exact ⟨o, es, ep, k _ o (fun z => (hf _ z).2.1 rfl) ho, r⟩
  · by_cases hb : b = T
    · subst hb
      rw [upd_same] at e
      cases e
      exact new
    · rw [upd_ne hb] at e
      refine (I.hok b u' e).stay (fun c v hc q => k c v ?_ q) (fun c q => by rw [upd_ne (ne_of_none q hn)]; exact q) fun c xs q => by rw [upd_ne (ne_of_none q hn)]; exact q
      rcases hc with z | z
      · rw [z]; exact nit b u' e
      · exact nit c _ z
end
/-! ### enumerate -/
def ItE (K : PySem.W.Frag) (a : Addr) : It :=
  ⟨fun i H => ∃ xs x, SqL K H a xs ∧ xs[i]? = some x, fun i H v H' => ∃ T x, v = .ref T ∧ H T = none ∧ H' = upd H T (.tup [.int (i : Int), x]) ∧ ∀ xs, SqL K H a xs → xs[i]? = some x, fun i H => ∃ xs, SqL K H a xs ∧ xs.length ≤ i⟩
theorem turn_enum {P : Program} {w : World} {K : PySem.W.Frag} {elts : List Expr} {k : Nat} {pos : Pos} (a e it : Addr) (hei : e ≠ it) (hae : a ≠ e) (hai : a ≠ it) : Turn P w K (.Tuple elts k pos) (ItE K a) [e, it] e (fun i h => (∃ old, IsEnum h e it i old) ∧ h.IsListIter it a i) where
  mem := by simp
  obj := fun i h st b hb => by
    obtain ⟨⟨old, he⟩, o, ho, hc, hd⟩ := st
    rcases List.mem_cons.mp hb with rfl | hb
    · exact ⟨_, he, fun v z => by
        have z' : Data.fields _ = Data.cell v := z
        cases z'⟩
    · rw [List.mem_singleton.mp hb]
      exact ⟨o, ho, fun v z => by rw [hd] at z; cases z⟩
  keep := fun i h h' st kk => by
    obtain ⟨⟨old, he⟩, hit⟩ := st
    exact ⟨⟨old, kk e (by simp) _ he⟩, hit.at fun o x => kk it (by simp) o x⟩
  item := by
    intro X hP hw hK hc i pins s σ H E I hf st hg
    subst hP hw hK
    obtain ⟨xs, x, hq, hx⟩ := hg
    obtain ⟨its, rv, p, hz⟩ := I.list hq
    obtain ⟨u, hu, ru⟩ := rv.get hx
    have W := WalksT.enumerate (prog := X.prog) (w := X.w) (A := X.A) (I.ok.hd hc) e it a hei hae hai its.toArray
    have hi : i < its.toArray.size := by
      have := (List.getElem?_eq_some_iff.mp hu).1
      simpa using this
    refine W.item i s _ _ hi ⟨st.1, st.2, p.isList⟩ fun T vals h1 tk hP hT hTup hm hk => ?_
    obtain ⟨t, x', hx', rfl⟩ := hP
    have hxu : x' = u := by
      have : its[i]? = some x' := by simpa using hx'
      rw [hu] at this
      exact (Option.some.inj this).symm
    subst hxu
    have nTe := W.apart i T h1 hm
    refine ⟨_, rfl, W.go elts k pos i T _ _ _ hm fun h2 st2 hk2 => ?_⟩
    have kk : ∀ b o, b ∉ [e, it] → s.heap.get? b = some o → h2.get? b = some o := fun b o hb q => hk2 b o hb (hk b o hb q)
    have hT2 : h2.IsTuple T #[.int (i : Int) t, x'] := hTup.at fun o q => hk2 T o nTe q
    refine ⟨.ref T, upd H T (.tup [.int (i : Int), x]), I.turnedT (t' := tk) hf kk hT ?_, rfl, ⟨T, x, rfl, I.hok.fresh hT, rfl, fun ys hy => by rw [I.list_inj hy hq]; exact hx⟩, ⟨st2.1, st2.2.1⟩, fun b hb => ?_⟩
    · exact ⟨by show 2 ≤ sizeLine; exact Nat.le_of_lt (small1000 (by decide)), [.int (i : Int) t, x'], .cons ⟨t, rfl⟩ (.cons ru .nil), hT2⟩
    · have : b ≠ T := fun z => by subst z; exact nTe hb
      rw [upd_ne this]
      exact (hf b hb).1
  done := by
    intro X hP hw hK hc i pins s σ H E I hf st hg
    subst hP hw hK
    obtain ⟨xs, hq, hx⟩ := hg
    obtain ⟨its, rv, p, hz⟩ := I.list hq
    have hl := rv.length
    obtain ⟨⟨old, he⟩, hit⟩ := st
    refine wpAny_pyNext_enum_end (I.ok.hd hc) he hit p.isList (Array.getElem?_eq_none (by simp; omega)) fun h' hx => ⟨rfl, I.turnedL (t' := s.toks) hf fun b o hb y => ?_⟩
    exact hx b o (fun e' => hb (by simp [e'])) y
  self := fun _ _ _ _ _ st h => by
    obtain ⟨⟨old, he⟩, _⟩ := st
    exact wpAny_pyIter_enum he h
def iEnum (K : PySem.W.Frag) (ta : TA) : TI := fun σ H R => ta σ H fun vs H1 => ∃ a, vs = [.ref a] ∧ (∃ xs, SqL K H1 a xs) ∧ R (ItE K a) H1
theorem pi_enum {X : Cx} {elts : List Expr} {k : Nat} {tpos : Pos} {l : Expr} {ta : TA} {p pos : Pos} (hg : Gl X "enumerate") (hm : X.mg "enumerate" = none) (ha : PA X [l] ta) (hs : starEach [l] X.env = [(false, eval l X.env)] := by rfl) : PI X (.Tuple elts k tpos) (.Call (.Name "enumerate" p) [l] [] pos) (iEnum X.K ta) := by
  intro pins s σ H R I h
  refine Call_ (ld_blt I hg hm boot_enumerate (PyProof.Rows.callWith_type1 (thn (ha pos pins s σ H _ I h) fun us s1 ⟨vs, H1, I1, r1, q1⟩ => ?_) hs rfl))
  obtain ⟨a, e, ⟨xs, hq⟩, q⟩ := q1
  subst e
  cases r1 with
  | cons r rr =>
    cases rr
    cases r
    obtain ⟨its, rv, p, hz⟩ := I1.list hq
    have hlt : a < s1.heap.objs.size := by
      obtain ⟨o, ho, _⟩ := p.isList
      exact Heap.lt_size ho
    refine call_enumerate_list p.isList fun h' hE hI hsz hk => ?_
    refine wpAny_pyIter_enum hE ?_
    have I2 : Inv X pins σ H1 { s1 with heap := h' } := I1.kept (t' := s1.toks) hk
    refine ⟨s1.heap.objs.size + 1, [s1.heap.objs.size + 1, s1.heap.objs.size], _, _, H1, rfl, I2, turn_enum a _ _ (Nat.succ_ne_self _) (Nat.ne_of_lt (Nat.lt_succ_of_lt hlt)) (Nat.ne_of_lt hlt), ⟨⟨.none, hE⟩, hI⟩, fun b hb => ?_, q⟩
    have hb' : s1.heap.objs.size ≤ b := by
      rcases List.mem_cons.mp hb with rfl | hb
      · exact Nat.le_succ _
      · rw [List.mem_singleton.mp hb]; exact Nat.le_refl _
    exact I1.fpOk hb' (I1.hok.fresh hb')
section
variable {X : Cx}
/-! ### methods of texts -/
/-! ### every second item of three, of five -/
end
/-! ### what a split of words is -/
end L2
set_option Elab.async false
set_option linter.all false
set_option maxRecDepth 100000
set_option maxHeartbeats 4000000
/-! EXTENSION 5: a loop over a dict's keys (the dict stands still while it is walked); list(range(n)); dicts compared. -/
namespace L2
open PySem PySem.Spec PyProof.Rows
theorem relV_of_is {P : Program} {w : World} {k : Key} {u : Value} (h : (mixKind P w).is k u = true) : RelV (kV k) u := by
  rw [mixKind_is] at h
  rcases keyIs_shape h with ⟨i, t, rfl, rfl⟩ | ⟨x, t, rfl, rfl⟩
  · exact ⟨t, rfl⟩
  · exact ⟨t, rfl⟩
section
variable {X : Cx} {pins : List (Addr × Obj)} {σ : St} {H : Hp} {s : Shared}
/-- a dict is let stand still -/
theorem Inv.freeze {d : Addr} {kvs : List (Key × V)} (I : Inv X pins σ H s) (hd : H d = some (.dK kvs)) : ∃ o es ep vs, s.heap.get? d = some o ∧ o.data = .dict es ep ∧ KV kvs vs ∧ s.heap.DictAt (mixKind X.prog X.w) d vs ep ∧ (d == sysModules) = false ∧ Inv X pins σ (upd H d (.frz o (.dK kvs))) s := by
  obtain ⟨z, hs, vs, rel, dd⟩ := dk_of I.hok hd
  obtain ⟨o, es, ep, ho, hx, hdat, r⟩ := id dd
  refine ⟨o, es, ep, vs, ho, hdat, rel, ⟨o, es, ho, hx, hdat, r⟩, hs, ?_⟩
  exact I.write (x := d) (e := d) (t' := s.toks) (by rw [hd]; trivial) (.inl rfl) (fun b u _ q => q) ⟨o, ho⟩ ⟨ho, z, hs, vs, rel, dd⟩
/-- .. and let go again -/
theorem Inv.thaw {d : Addr} {o : Obj} {kvs : List (Key × V)} (I : Inv X pins σ H s) (hd : H d = some (.frz o (.dK kvs))) (hz : ∀ o u, X.H₀ d ≠ some (.frz o u)) : Inv X pins σ (upd H d (.dK kvs)) s := by
  have nn : ∀ b, H b = none → b ≠ d := fun b n z => by subst z; rw [hd] at n; cases n
  have nt : ∀ b xs, H b = some (.tup xs) → b ≠ d := fun b xs n z => by subst z; rw [hd] at n; cases n
  have nown : ∀ b a, H b = some (.own a) → b ≠ d := fun b xs n z => by subst z; rw [hd] at n; cases n
  refine ⟨I.ok, I.os, I.bare, ⟨I.base.keep, I.base.slot, fun b ob q n hx => ?_, I.base.there, fun b xs q => ?_, fun b ob u q => ?_, fun b ps q => ?_⟩, I.loc, I.cell, ?_, fun x c q => ?_, fun p hp => ?_, fun b u q => ?_, I.len⟩
  · have := I.base.free b ob q n hx
    rw [upd_ne (nn b this)]; exact this
  · have := I.base.tups b xs q
    rw [upd_ne (nt b xs this)]; exact this
  · have h1 := I.base.frzs b ob u q
    have : b ≠ d := fun z => by subst z; exact hz ob u q
    rw [upd_ne this]; exact h1
  · obtain ⟨more, h1⟩ := I.base.tbls b ps q
    have : b ≠ d := fun z => by subst z; rw [hd] at h1; cases h1
    exact ⟨more, by rw [upd_ne this]; exact h1⟩
  · rw [upd_ne (nn _ I.free)]; exact I.free
  · rw [upd_ne (nn _ (I.freeC x c q))]; exact I.freeC x c q
  · obtain ⟨h1, h2, h3⟩ := I.pin p hp
    exact ⟨h1, by rw [upd_ne (nn _ h2)]; exact h2, h3⟩
  · by_cases hb : b = d
    · subst hb
      rw [upd_same] at q
      cases q
      exact (show ObjOk X.prog X.w H s.heap b (.frz o (.dK kvs)) from I.hok b _ hd).2
    · rw [upd_ne hb] at q
      exact (I.hok b u q).stay (fun c v _ r => r) (fun c r => by rw [upd_ne (nown c b r)]; exact r) fun c xs r => by rw [upd_ne (nt c xs r)]; exact r
end
/-! ### for k in d -/
def ItD (d : Addr) (o : Obj) (kvs : List (Key × V)) : It :=
  ⟨fun i H => H d = some (.frz o (.dK kvs)) ∧ i < kvs.length, fun i H x H' => H' = H ∧ ∃ kv, kvs[i]? = some kv ∧ x = kV kv.1, fun i H => H d = some (.frz o (.dK kvs)) ∧ kvs.length ≤ i⟩
theorem dict_again {X : Cx} {pins : List (Addr × Obj)} {σ : St} {H : Hp} {s : Shared} {d : Addr} {o : Obj} {kvs : List (Key × V)} {es : Array DictEntry} {ep : Nat} (I : Inv X pins σ H s) (hd : H d = some (.frz o (.dK kvs))) (hdat : o.data = .dict es ep) :
    ∃ vs, KV kvs vs ∧ s.heap.DictAt (mixKind X.prog X.w) d vs ep := by
  obtain ⟨ho, _, _, vs, rel, o', es', ep', ho', hx, hdat', r⟩ := (show ObjOk X.prog X.w H s.heap d (.frz o (.dK kvs)) from I.hok d _ hd)
  rw [ho] at ho'
  cases ho'
  rw [hdat] at hdat'
  cases hdat'
  exact ⟨vs, rel, o, es, ho, hx, hdat, r⟩
theorem kv_len {kvs : List (Key × V)} {vs : List (Key × Value)} (r : KV kvs vs) : kvs.length = vs.length := KV.length r
theorem kv_get : ∀ {kvs : List (Key × V)} {vs : List (Key × Value)} {i : Nat} {kv : Key × V}, KV kvs vs → kvs[i]? = some kv → ∃ u, vs[i]? = some (kv.1, u) ∧ RelV kv.2 u
  | _, _, _, _, .nil, h => by simp at h
  | _, _, 0, kv, .cons (b := q) r _, h => by
    simp at h; subst h
    exact ⟨q.2, by rw [List.getElem?_cons_zero, r.1], r.2⟩
  | _, _, i + 1, kv, .cons _ t, h => by
    obtain ⟨u, h1, h2⟩ := kv_get (i := i) t (by simpa using h)
    exact ⟨u, by simpa using h1, h2⟩
theorem turn_dict {P : Program} {w : World} {K : PySem.W.Frag} {tg : Expr} (d it : Addr) (o : Obj) (kvs : List (Key × V)) (es : Array DictEntry) (ep : Nat) (hdat : o.data = .dict es ep) : Turn P w K tg (ItD d o kvs) [it] it (fun i h => h.IsKeyIter it d i kvs.length ep) where
  mem := by simp
  obj := fun i h st b hb => by
    have e : b = it := by simpa using hb
    subst e
    obtain ⟨o, e, c, dd⟩ := st
    exact ⟨o, e, fun v z => by rw [dd] at z; cases z⟩
  keep := fun i h h' st k => st.at fun o e => k it (by simp) o e
  item := by
    intro X hP hw hK hc i pins s σ H E I hf st hg
    subst hP hw hK
    obtain ⟨hd, hi⟩ := hg
    obtain ⟨vs, rel, da⟩ := dict_again I hd hdat
    obtain ⟨f0, f1, f2, f3, f4, f5⟩ := hf it (by simp)
    have hx : kvs[i]? = some kvs[i] := List.getElem?_eq_getElem hi
    obtain ⟨u, hu, _⟩ := kv_get rel hx
    have st' : s.heap.IsKeyIter it d i vs.length ep := by rw [← kv_len rel]; exact st
    refine wpAny_pyNext_dict_item st' da hu fun key h' hk it' sb => ?_
    have I1 : Inv X pins σ H { s with heap := h' } := I.turned (t' := s.toks) (fun b o hb e => (sb.2 b hb).trans e) f0 f1 f3 f4 f5
    rw [← kv_len rel] at it'
    obtain ⟨oi, e, c, dd⟩ := id it'
    exact ⟨key, rfl, go_of (s := { s with heap := h' }) e c dd (by decide) ⟨kV kvs[i].1, H, I1, relV_of_is hk, ⟨rfl, _, hx, rfl⟩, it', fun b hb => (hf b hb).1⟩⟩
  done := by
    intro X hP hw hK hc i pins s σ H E I hf st hg
    subst hP hw hK
    obtain ⟨hd, hi⟩ := hg
    obtain ⟨vs, rel, da⟩ := dict_again I hd hdat
    obtain ⟨f0, f1, f2, f3, f4, f5⟩ := hf it (by simp)
    have st' : s.heap.IsKeyIter it d i vs.length ep := by rw [← kv_len rel]; exact st
    exact wpAny_pyNext_dict_end (I.ok.hd hc) st' da (List.getElem?_eq_none (by rw [← kv_len rel]; exact hi)) fun h' eb => ⟨rfl, I.turned (t' := s.toks) (fun b o hb e => eb b o hb e) f0 f1 f3 f4 f5⟩
  self := fun _ _ _ _ _ st h => wpAny_pyIter_keyiter st h
def iDict (tl : TE) : TI := fun σ H R => tl σ H fun x H1 => ∃ d kvs, x = .ref d ∧ H1 d = some (.dK kvs) ∧ ∀ o, R (ItD d o kvs) (upd H1 d (.frz o (.dK kvs)))
theorem pi_dict {X : Cx} {tg l : Expr} {tl : TE} (hl : PE X l tl) : PI X tg l (iDict tl) := by
  intro pins s σ H R I h
  refine thn (hl pins s σ H _ I h) fun v s1 ⟨x, H1, I1, r1, q1⟩ => ?_
  obtain ⟨d, kvs, e, hd, q⟩ := q1
  subst e
  cases r1
  obtain ⟨o, es, ep, vs, ho, hdat, rel, da, hs, I2⟩ := I1.freeze hd
  refine wpAny_pyIter_dict hs da ?_
  refine ⟨s1.heap.objs.size, [s1.heap.objs.size], _, _, _, rfl, I2.kept (t' := s1.toks) fun b o e => Heap.get?_push_of_some _ e, turn_dict d _ o kvs es ep hdat, ?_, fun b hb => ?_, q o⟩
  · rw [kv_len rel]
    exact ⟨_, Heap.get?_push_size _ rfl, rfl, rfl⟩
  · have e : b = s1.heap.objs.size := by simpa using hb
    subst e
    exact I2.fpOk (Nat.le_refl _) (I2.hok.fresh (Nat.le_refl _))
theorem for_dict {d : Addr} {o : Obj} {kvs : List (Key × V)} {g : TG} {tb : TS} {D : Ends} {σ : St} {H : Hp} (Pv : Nat → St → Hp → Prop) (h0 : Pv 0 σ H) (hl : ∀ i σ H, i ≤ kvs.length → Pv i σ H → H d = some (.frz o (.dK kvs)))
    (hs : ∀ i kv σ H, kvs[i]? = some kv → Pv i σ H → g (kV kv.1) σ H fun σ2 H2 => tb { D with nx := Pv (i + 1), ct := Pv (i + 1), bk := D.nx } σ2 H2) (hd : ∀ σ H, Pv kvs.length σ H → D.nx σ H) :
    ∃ W : Nat → Nat → St → Hp → Prop, (∃ m, W 0 m σ H) ∧ ∀ i m σ H, W i m σ H →
      ((ItD d o kvs).stop i H ∧ D.nx σ H) ∨ ((ItD d o kvs).go i H ∧ ∃ N : St → Hp → Prop, (∀ σ' H', N σ' H' → ∃ m', m' < m ∧ W (i + 1) m' σ' H') ∧ ∀ x H', (ItD d o kvs).yld i H x H' → g x σ H' fun σ2 H2 => tb { D with nx := N, ct := N, bk := D.nx } σ2 H2) := by
  refine ⟨fun i m σ H => m = kvs.length - i ∧ i ≤ kvs.length ∧ Pv i σ H, ⟨kvs.length, by simp, Nat.zero_le _, h0⟩, ?_⟩
  rintro i m σ H ⟨rfl, hi, p⟩
  have q := hl i σ H hi p
  by_cases hlt : i < kvs.length
  · refine .inr ⟨⟨q, hlt⟩, Pv (i + 1), fun σ' H' p' => ⟨kvs.length - (i + 1), by omega, rfl, hlt, p'⟩, fun x H' y => ?_⟩
    obtain ⟨e, kv, hk, rfl⟩ := y
    subst e
    exact hs i kv σ _ hk p
  · have e : i = kvs.length := by omega
    subst e
    exact .inl ⟨⟨q, Nat.le_refl _⟩, hd σ H p⟩
/-- a statement behind which the dict at d, which its loop lets stand still, is let go -/
def tThaw (t : TS) : TS := fun D σ H => ∃ d kvs, H d = some (.dK kvs) ∧ t { D with nx := fun σ' H' => ∃ o, H' d = some (.frz o (.dK kvs)) ∧ D.nx σ' (upd H' d (.dK kvs)), rt := fun v H' => ∃ o, H' d = some (.frz o (.dK kvs)) ∧ D.rt v (upd H' d (.dK kvs)), bk := fun _ _ => False, ct := fun _ _ => False } σ H
theorem ps_thaw {X : Cx} {st : Stmt} {t : TS} (h : PS X st t) : PS X st (tThaw t) := by
  intro pins s σ H D I q
  obtain ⟨d, kvs, hd, q⟩ := q
  have hz : ∀ o u, X.H₀ d ≠ some (.frz o u) := fun o u z => by
    have := I.base.frzs d o u z
    rw [hd] at this
    cases this
  refine thn (h pins s σ H _ I q) fun f s1 q1 => ?_
  cases f with
  | next =>
    obtain ⟨σ', H', I', o, e, n⟩ := q1
    exact ⟨σ', _, I'.thaw e hz, n⟩
  | ret v =>
    obtain ⟨x, σ', H', I', r, o, e, n⟩ := q1
    exact ⟨x, σ', _, I'.thaw e hz, r, n⟩
  | brk =>
    obtain ⟨σ', H', I', n⟩ := q1
    exact n.elim
  | cont =>
    obtain ⟨σ', H', I', n⟩ := q1
    exact n.elim
/-! ### list(range(n)) -/
section
variable {X : Cx}
end
end L2
set_option Elab.async false
set_option linter.all false
set_option maxRecDepth 100000
set_option maxHeartbeats 4000000
/-! EXTENSION 6: nested data (ints, texts, tuples, lists, dicts with texts as keys), and that two copies of one data are equal. -/
namespace L2
open PySem PySem.Spec PyProof.Rows
inductive Dat where
  | int (i : Int)
  | str (x : Str)
  | tup (ds : List Dat)
  | lst (ds : List Dat)
  | dct (ks : List (Str × Dat))
mutual
def Da (H : Hp) : Dat → V → Prop
  | .int i, v => v = .int i
  | .str x, v => v = .str x
  | .tup ds, v => ∃ p xs, v = .ref p ∧ H p = some (.tup xs) ∧ Das H ds xs
  | .lst ds, v => ∃ p xs, v = .ref p ∧ H p = some (.lst xs) ∧ Das H ds xs
  | .dct ks, v => ∃ p l, v = .ref p ∧ H p = some (.dK l) ∧ Dak H ks l
def Das (H : Hp) : List Dat → List V → Prop
  | [], xs => xs = []
  | d :: ds, xs => ∃ x r, xs = x :: r ∧ Da H d x ∧ Das H ds r
def Dak (H : Hp) : List (Str × Dat) → List (Key × V) → Prop
  | [], l => l = []
  | (k, d) :: ks, l => ∃ x r, l = (.inr k, x) :: r ∧ Da H d x ∧ Dak H ks r
end
mutual
def Dat.dp : Dat → Nat
  | .int _ => 0
  | .str _ => 0
  | .tup ds => 1 + dps ds
  | .lst ds => 1 + dps ds
  | .dct ks => 1 + dpk ks
def dps : List Dat → Nat
  | [] => 0
  | d :: ds => max d.dp (dps ds)
def dpk : List (Str × Dat) → Nat
  | [] => 0
  | (_, d) :: ks => max d.dp (dpk ks)
end
example (H : Hp) (i : Int) (v : V) : Da H (.int i) v = (v = .int i) := rfl
example (H : Hp) (ds : List Dat) (v : V) : Da H (.tup ds) v = (∃ p xs, v = .ref p ∧ H p = some (.tup xs) ∧ Das H ds xs) := rfl
mutual
theorem Da.mono {H H' : Hp} (s : Same H H') : ∀ {d : Dat} {v : V}, Da H d v → Da H' d v
  | .int _, _, h => h
  | .str _, _, h => h
  | .tup _, _, ⟨p, xs, e, h, q⟩ => ⟨p, xs, e, s _ _ h, Das.mono s q⟩
  | .lst _, _, ⟨p, xs, e, h, q⟩ => ⟨p, xs, e, s _ _ h, Das.mono s q⟩
  | .dct _, _, ⟨p, l, e, h, q⟩ => ⟨p, l, e, s _ _ h, Dak.mono s q⟩
theorem Das.mono {H H' : Hp} (s : Same H H') : ∀ {ds : List Dat} {xs : List V}, Das H ds xs → Das H' ds xs
  | [], _, h => h
  | _ :: _, _, ⟨x, r, e, h, q⟩ => ⟨x, r, e, Da.mono s h, Das.mono s q⟩
theorem Dak.mono {H H' : Hp} (s : Same H H') : ∀ {ks : List (Str × Dat)} {l : List (Key × V)}, Dak H ks l → Dak H' ks l
  | [], _, h => h
  | (_, _) :: _, _, ⟨x, r, e, h, q⟩ => ⟨x, r, e, Da.mono s h, Dak.mono s q⟩
end
theorem Das.len {H : Hp} : ∀ {ds : List Dat} {xs : List V}, Das H ds xs → xs.length = ds.length
  | [], _, h => by cases h; rfl
  | _ :: _, _, ⟨x, r, e, _, q⟩ => by rw [e, List.length_cons, List.length_cons, Das.len q]
theorem Das.get {H : Hp} : ∀ {ds : List Dat} {xs : List V} {j : Nat} {x : V}, Das H ds xs → xs[j]? = some x → ∃ d, ds[j]? = some d ∧ Da H d x
  | [], _, _, _, h, e => by cases h; simp at e
  | d :: _, _, 0, x, ⟨y, r, e, h, q⟩, g => by subst e; simp at g; subst g; exact ⟨d, rfl, h⟩
  | d :: ds, _, j + 1, x, ⟨y, r, e, h, q⟩, g => by
    subst e
    obtain ⟨d', g1, g2⟩ := Das.get (j := j) q (by simpa using g)
    exact ⟨d', by simpa using g1, g2⟩
theorem Dak.len {H : Hp} : ∀ {ks : List (Str × Dat)} {l : List (Key × V)}, Dak H ks l → l.length = ks.length
  | [], _, h => by cases h; rfl
  | (_, _) :: _, _, ⟨x, r, e, _, q⟩ => by rw [e, List.length_cons, List.length_cons, Dak.len q]
theorem Dak.keys {H : Hp} : ∀ {ks : List (Str × Dat)} {l : List (Key × V)}, Dak H ks l → l.map (·.1) = ks.map fun k => Sum.inr k.1
  | [], _, h => by cases h; rfl
  | (_, _) :: _, _, ⟨x, r, e, _, q⟩ => by rw [e, List.map_cons, List.map_cons, Dak.keys q]
theorem dps_mem : ∀ {ds : List Dat} {d : Dat}, d ∈ ds → d.dp ≤ dps ds
  | e :: ds, d, h => by
    rcases List.mem_cons.mp h with rfl | h
    · exact Nat.le_max_left _ _
    · exact Nat.le_trans (dps_mem h) (Nat.le_max_right _ _)
/-- what a dict that holds ks tells at one of its keys -/
theorem Dak.val {H : Hp} : ∀ {ks : List (Str × Dat)} {l : List (Key × V)} {k : Str} {d : Dat}, (ks.map (·.1)).Nodup → Dak H ks l → (k, d) ∈ ks → ∃ x, valV l (.inr k) = some x ∧ Da H d x
  | (k0, d0) :: ks, _, k, d, nd, ⟨x, r, e, h, q⟩, hm => by
    subst e
    rw [List.map_cons, List.nodup_cons] at nd
    rcases List.mem_cons.mp hm with z | hm
    · cases z
      exact ⟨x, valV_pos rfl, h⟩
    · obtain ⟨y, g1, g2⟩ := Dak.val nd.2 q hm
      refine ⟨y, ?_, g2⟩
      rw [valV_neg]
      · exact g1
      · intro z
        have : k0 = k := Sum.inr.inj z
        subst this
        exact nd.1 (List.mem_map.mpr ⟨_, hm, rfl⟩)
theorem Dak.none {H : Hp} : ∀ {ks : List (Str × Dat)} {l : List (Key × V)} {k : Str}, Dak H ks l → k ∉ ks.map (·.1) → valV l (.inr k) = none
  | [], _, _, h, _ => by cases h; rfl
  | (k0, d0) :: ks, _, k, ⟨x, r, e, h, q⟩, hn => by
    subst e
    rw [List.map_cons, List.mem_cons, not_or] at hn
    rw [valV_neg]
    · exact Dak.none q hn.2
    · intro z
      exact hn.1 (Sum.inr.inj z).symm
mutual
/-- dicts with unlike keys, all the way down -/
def Dat.nd : Dat → Prop
  | .int _ => True
  | .str _ => True
  | .tup ds => nds ds
  | .lst ds => nds ds
  | .dct ks => (ks.map (·.1)).Nodup ∧ ndk ks
def nds : List Dat → Prop
  | [] => True
  | d :: ds => d.nd ∧ nds ds
def ndk : List (Str × Dat) → Prop
  | [] => True
  | (_, d) :: ks => d.nd ∧ ndk ks
end
section
variable {X : Cx} {pins : List (Addr × Obj)} {σ : St} {H : Hp} {s : Shared}
theorem allT (n : Nat) : (List.range n).all (fun _ => true) = true := by simp
/-- items alike, by what is known of each -/
theorem seq_eq {A : Around} {xs ys : List V} {its jts : List Value} {ds : List Dat} (hx : Das H ds xs) (hy : Das H ds ys) (r1 : Vals xs its) (r2 : Vals ys jts)
    (ih : ∀ d ∈ ds, ∀ x y u v, Da H d x → Da H d y → RelV x u → RelV y v → SeqAt.EqAt A s u v true) :
    its.toArray.size = ds.length ∧ jts.toArray.size = ds.length ∧ ∀ j (g1 : j < its.toArray.size) (g2 : j < jts.toArray.size), SeqAt.EqAt A s its.toArray[j] jts.toArray[j] ((fun _ => true) j) := by
  have l1 : its.toArray.size = ds.length := by rw [List.size_toArray, ← r1.length, hx.len]
  have l2 : jts.toArray.size = ds.length := by rw [List.size_toArray, ← r2.length, hy.len]
  refine ⟨l1, l2, fun j g1 g2 => ?_⟩
  have j1 : j < xs.length := by rw [hx.len, ← l1]; exact g1
  have j2 : j < ys.length := by rw [hy.len, ← l2]; exact g2
  obtain ⟨k1, e1, i1⟩ := hx.get (List.getElem?_eq_getElem j1)
  obtain ⟨k2, e2, i2⟩ := hy.get (List.getElem?_eq_getElem j2)
  rw [e1] at e2
  cases e2
  obtain ⟨u1, a1, b1⟩ := r1.get (List.getElem?_eq_getElem j1)
  obtain ⟨u2, a2, b2⟩ := r2.get (List.getElem?_eq_getElem j2)
  have c1 : its.toArray[j] = u1 := by
    have := (List.getElem?_eq_some_iff.mp a1).2
    simpa using this
  have c2 : jts.toArray[j] = u2 := by
    have := (List.getElem?_eq_some_iff.mp a2).2
    simpa using this
  rw [c1, c2]
  exact ih k1 (List.mem_of_getElem? e1) _ _ _ _ i1 i2 b1 b2
theorem rc_dict {A : Around} {p q : Addr} {l l' : List (Key × V)} {ks : List (Str × Dat)} (I : Inv X pins σ H s) (hp : H p = some (.dK l)) (hq : H q = some (.dK l')) (h1 : Dak H ks l) (h2 : Dak H ks l') (nd : (ks.map (·.1)).Nodup) (hu : A.units < cLine)
    (ih : ∀ k d, (k, d) ∈ ks → ∀ x y u v, Da H d x → Da H d y → RelV x u → RelV y v → SeqAt.EqAt A.in1 s u v true) :
    (∀ (Q : Value → Shared → Prop) (E : Value → Shared → Prop), Q (.bool true) s → wpAny (model X.prog X.w) A (compareOp .Eq (.ref p) (.ref q)) Q E s) ∧ (∀ (Q : Value → Shared → Prop) (E : Value → Shared → Prop), Q (.bool false) s → wpAny (model X.prog X.w) A (compareOp .NotEq (.ref p) (.ref q)) Q E s) := by
  obtain ⟨_, s1, vs, rel, dd⟩ := dk_of I.hok hp
  obtain ⟨_, s2, vs', rel', dd'⟩ := dk_of I.hok hq
  have hl : vs.length = vs'.length := by rw [← kv_len rel, ← kv_len rel', h1.len, h2.len]
  have hits : PySem.W.KeqHits A.in1 s vs' vs true := by
    have go : ∀ {ms : List (Str × Dat)} {m : List (Key × V)} {ws : List (Key × Value)}, (∀ x ∈ ms, x ∈ ks) → Dak H ms m → KV m ws → PySem.W.KeqHits A.in1 s vs' ws true := by
      intro ms
      induction ms with
      | nil =>
        intro m ws _ hm hr
        cases hm
        cases hr
        exact .nil
      | cons kd ms ihm =>
        intro m ws hsub hm hr
        obtain ⟨k, d⟩ := kd
        obtain ⟨x, r, rfl, hx, hr'⟩ := hm
        cases hr with
        | @cons a b as bs hab t =>
          obtain ⟨y, hy1, hy2⟩ := h2.val nd (hsub _ List.mem_cons_self)
          have rv := rel'.val (Sum.inr k)
          rw [hy1] at rv
          obtain ⟨w', hw, rw'⟩ := RelO.some_of rv
          obtain ⟨b1, b2⟩ := b
          have hb1 : Sum.inr k = b1 := hab.1
          subst hb1
          have := ih k d (hsub _ List.mem_cons_self) x y b2 w' hx hy2 hab.2 rw'
          have e : true = (true && true) := rfl
          rw [e]
          exact .hit hw this (ihm (fun x hx => hsub x (List.mem_cons_of_mem _ hx)) hr' t)
    exact go (fun x hx => hx) h1 rel
  refine ⟨fun Q E h => PySem.W.keq_eq s1 s2 dd dd' hu (fun _ => hits) ?_, fun Q E h => PySem.W.keq_ne s1 s2 dd dd' hu (fun _ => hits) ?_⟩
  · rw [hl, beq_self_eq_true]; exact h
  · rw [hl, beq_self_eq_true]; exact h
end
end L2
set_option Elab.async false
set_option linter.all false
set_option maxRecDepth 100000
set_option maxHeartbeats 400000
namespace L2
open PySem PySem.Spec PyProof.Rows
mutual
/-- no dict in it -/
def Dat.flat : Dat → Prop
  | .int _ => True
  | .str _ => True
  | .tup ds => flats ds
  | .lst ds => flats ds
  | .dct _ => False
def flats : List Dat → Prop
  | [] => True
  | d :: ds => d.flat ∧ flats ds
end
section
variable {X : Cx} {pins : List (Addr × Obj)} {σ : St} {H : Hp} {s : Shared}
theorem in1_u (A : Around) : A.in1.units = A.units + 1 := rfl
theorem all_and (n : Nat) : ((List.range (min n n)).all (fun _ => true) && n == n) = true := by simp
theorem flats_mem : ∀ {ds : List Dat} {d : Dat}, flats ds → d ∈ ds → d.flat
  | e :: ds, d, h, hm => by
    rcases List.mem_cons.mp hm with z | hm
    · rw [z]; exact h.1
    · exact flats_mem h.2 hm
theorem eqDa_n (I : Inv X pins σ H s) (n : Nat) : ∀ (d : Dat) (A : Around) (x y : V) (u v : Value), d.dp ≤ n → d.flat → Da H d x → Da H d y → RelV x u → RelV y v → A.units + d.dp < cLine → SeqAt.EqAt A s u v true := by
  induction n with
  | zero =>
    intro d A x y u v hn hf hx hy ru rv hl
    cases d with
    | int i =>
      have ex : x = .int i := hx
      have ey : y = .int i := hy
      subst ex; subst ey
      obtain ⟨t, rfl⟩ := ru
      obtain ⟨t', rfl⟩ := rv
      have := SeqAt.EqAt.int_int (A := A) (s := s) i t i t'
      rwa [beq_self_eq_true] at this
    | str z =>
      have ex : x = .str z := hx
      have ey : y = .str z := hy
      subst ex; subst ey
      have := strAt A s ru rv
      rwa [beq_self_eq_true] at this
    | tup ds => simp only [Dat.dp] at hn; omega
    | lst ds => simp only [Dat.dp] at hn; omega
    | dct ks => exact hf.elim
  | succ n ih =>
    intro d A x y u v hn hf hx hy ru rv hl
    cases d with
    | int i =>
      have ex : x = .int i := hx
      have ey : y = .int i := hy
      subst ex; subst ey
      obtain ⟨t, rfl⟩ := ru
      obtain ⟨t', rfl⟩ := rv
      have := SeqAt.EqAt.int_int (A := A) (s := s) i t i t'
      rwa [beq_self_eq_true] at this
    | str z =>
      have ex : x = .str z := hx
      have ey : y = .str z := hy
      subst ex; subst ey
      have := strAt A s ru rv
      rwa [beq_self_eq_true] at this
    | tup ds =>
      have hx' : ∃ p xs, x = .ref p ∧ H p = some (.tup xs) ∧ Das H ds xs := hx
      have hy' : ∃ p xs, y = .ref p ∧ H p = some (.tup xs) ∧ Das H ds xs := hy
      have hf' : flats ds := hf
      obtain ⟨p, xs, rfl, h1, q1⟩ := hx'
      obtain ⟨p', ys, rfl, h2, q2⟩ := hy'
      have e1 : u = .ref p := ru
      have e2 : v = .ref p' := rv
      subst e1; subst e2
      by_cases z : p = p'
      · subst z; exact SeqAt.EqAt.same _
      · simp only [Dat.dp] at hl hn
        obtain ⟨_, its, r1, t1⟩ := (show ObjOk X.prog X.w H s.heap p (.tup xs) from I.hok p _ h1)
        obtain ⟨_, jts, r2, t2⟩ := (show ObjOk X.prog X.w H s.heap p' (.tup ys) from I.hok p' _ h2)
        obtain ⟨l1, l2, he⟩ := seq_eq (A := A.in1) (s := s) q1 q2 r1 r2 fun d hd x y u v a b c e => ih d A.in1 x y u v (by have := dps_mem hd; omega) (flats_mem hf' hd) a b c e (by have := dps_mem hd; rw [in1_u]; omega)
        have q := SeqAt.RcAt.tuples (A := A) t1 t2 (by omega) he
        rw [l1, l2, all_and] at q
        exact SeqAt.EqAt.of_refs z q
    | lst ds =>
      have hx' : ∃ p xs, x = .ref p ∧ H p = some (.lst xs) ∧ Das H ds xs := hx
      have hy' : ∃ p xs, y = .ref p ∧ H p = some (.lst xs) ∧ Das H ds xs := hy
      have hf' : flats ds := hf
      obtain ⟨p, xs, rfl, h1, q1⟩ := hx'
      obtain ⟨p', ys, rfl, h2, q2⟩ := hy'
      have e1 : u = .ref p := ru
      have e2 : v = .ref p' := rv
      subst e1; subst e2
      by_cases z : p = p'
      · subst z; exact SeqAt.EqAt.same _
      · simp only [Dat.dp] at hl hn
        obtain ⟨its, r1, t1, _⟩ := I.list (SqL.of h1)
        obtain ⟨jts, r2, t2, _⟩ := I.list (SqL.of h2)
        obtain ⟨l1, l2, he⟩ := seq_eq (A := A.in1) (s := s) q1 q2 r1 r2 fun d hd x y u v a b c e => ih d A.in1 x y u v (by have := dps_mem hd; omega) (flats_mem hf' hd) a b c e (by have := dps_mem hd; rw [in1_u]; omega)
        have q := SeqAt.RcAt.lists (A := A) t1.isList t2.isList (by rw [l1, l2]) (by omega) he
        rw [l1, allT] at q
        exact SeqAt.EqAt.of_refs z q
    | dct ks => exact (show False from hf).elim
theorem eqDa (I : Inv X pins σ H s) {d : Dat} {A : Around} {x y : V} {u v : Value} (hf : d.flat) (hx : Da H d x) (hy : Da H d y) (ru : RelV x u) (rv : RelV y v) (hl : A.units + d.dp < cLine) : SeqAt.EqAt A s u v true :=
  eqDa_n I d.dp d A x y u v (Nat.le_refl _) hf hx hy ru rv hl
end
end L2
set_option Elab.async false
set_option linter.all false
set_option maxRecDepth 100000
set_option maxHeartbeats 400000
namespace L2
open PySem PySem.Spec PyProof.Rows
/-! ### dicts in a tuple: what is alike in this very world -/
def Alike (prog : Program) (w : World) (A : Around) (s : Shared) (y x : Value) : Prop := ∀ (E : Value → Shared → Prop) (Q : Bool → Shared → Prop), Q true s → wpAny (model prog w) A (eqBool y x) Q E s
theorem Alike.of {prog : Program} {w : World} {A : Around} {s : Shared} {y x : Value} (h : SeqAt.EqAt A s y x true) : Alike prog w A s y x := fun E Q q => h prog w E Q q
theorem Alike.refs {prog : Program} {w : World} {A : Around} {s : Shared} {a c : Addr} (h : a ≠ c → ∀ (Q : Value → Shared → Prop) (E : Value → Shared → Prop), Q (.bool true) s → wpAny (model prog w) A (compareOp .Eq (.ref a) (.ref c)) Q E s) : Alike prog w A s (.ref a) (.ref c) := fun E Q q => by
  by_cases z : a = c
  · rw [z]; exact SeqAt.EqAt.same _ prog w E Q q
  · have hb : (Value.ref a == Value.ref c) = false := beq_eq_false_iff_ne.mpr fun k => z (by injection k)
    show wpAny _ _ (eqBool (.ref a) (.ref c)) _ _ _
    unfold eqBool
    refine wpAny_holding (wpAny_ite_split (fun k => by rw [hb] at k; cases k) fun _ => wpAny_bind (h z _ _ (wpAny_truthy_bool q)))
section
variable {prog : Program} {w : World}
theorem tup_ne_alike (l b : Addr) (xs ys : Array Value) (n1 n2 : Nat) (d1 d2 : Option Addr) (sl1 sl2 : Array (Option Value)) :
    MeetsIn prog w (Builtin.«tuple.__ne__» ⟨[.ref l, .ref b], []⟩)
      (fun A R s => s.heap.get? l = some ⟨.type "tuple", d1, .seq xs n1, sl1⟩ ∧ s.heap.get? b = some ⟨.type "tuple", d2, .seq ys n2, sl2⟩ ∧ xs.size = ys.size ∧
        (∀ p ∈ xs.toList.zip ys.toList, Alike prog w A.in1 s p.1 p.2) ∧ R (.ok (.ret (.bool false))) s) :=
  MeetsIn.of_wp fun A R s h => by
    obtain ⟨sh, sg, sd, st, so⟩ := s
    obtain ⟨e1, e2, hz, hall, hR⟩ := h
    have sub := AutoSeq1.sub_tuple_tuple
    wp_walk using wpAny_loadPart' e1, wpAny_loadPart' e2, wpAny_forIn_list _ (fun rest c s' => c.1 = none ∧ s' = ⟨sh, sg, sd, st, so⟩ ∧ ∀ p ∈ rest, Alike prog w A.in1 ⟨sh, sg, sd, st, so⟩ p.1 p.2) _
    case turn =>
      rintro ⟨y, x⟩ rest c s' ⟨hc, rfl, ha⟩
      refine wpAny_bind (ha (y, x) List.mem_cons_self _ _ ?_)
      wp_walk
      exact ⟨rfl, rfl, fun p hp => ha p (List.mem_cons_of_mem _ hp)⟩
    case fin =>
      rintro ⟨c1, c2⟩ s' ⟨hc, rfl, _⟩
      simp only at hc
      subst hc
      wp_walk
      exact ⟨_, rfl, by simpa [Builtin.Tuple.tupleCompareSizes, bne, hz] using hR⟩
    case h =>
      exact ⟨rfl, rfl, hall⟩
theorem tup_eq_alike (l b : Addr) (xs ys : Array Value) (n1 n2 : Nat) (d1 d2 : Option Addr) (sl1 sl2 : Array (Option Value)) :
    MeetsIn prog w (Builtin.«tuple.__eq__» ⟨[.ref l, .ref b], []⟩)
      (fun A R s => s.heap.get? l = some ⟨.type "tuple", d1, .seq xs n1, sl1⟩ ∧ s.heap.get? b = some ⟨.type "tuple", d2, .seq ys n2, sl2⟩ ∧ xs.size = ys.size ∧
        (∀ p ∈ xs.toList.zip ys.toList, Alike prog w A.in1 s p.1 p.2) ∧ R (.ok (.ret (.bool true))) s) :=
  MeetsIn.of_wp fun A R s h => by
    obtain ⟨sh, sg, sd, st, so⟩ := s
    obtain ⟨e1, e2, hz, hall, hR⟩ := h
    have sub := AutoSeq1.sub_tuple_tuple
    wp_walk using wpAny_loadPart' e1, wpAny_loadPart' e2, wpAny_forIn_list _ (fun rest c s' => c.1 = none ∧ s' = ⟨sh, sg, sd, st, so⟩ ∧ ∀ p ∈ rest, Alike prog w A.in1 ⟨sh, sg, sd, st, so⟩ p.1 p.2) _
    case turn =>
      rintro ⟨y, x⟩ rest c s' ⟨hc, rfl, ha⟩
      refine wpAny_bind (ha (y, x) List.mem_cons_self _ _ ?_)
      wp_walk
      exact ⟨rfl, rfl, fun p hp => ha p (List.mem_cons_of_mem _ hp)⟩
    case fin =>
      rintro ⟨c1, c2⟩ s' ⟨hc, rfl, _⟩
      simp only at hc
      subst hc
      wp_walk
      exact ⟨_, rfl, by simpa [Builtin.Tuple.tupleCompareSizes, hz] using hR⟩
    case h =>
      exact ⟨rfl, rfl, hall⟩
end
end L2
set_option Elab.async false
set_option linter.all false
set_option maxRecDepth 100000
set_option maxHeartbeats 4000000
/-! EXTENSION 7: worlds as data, and that two copies of one world are equal. -/
namespace L2
open PySem PySem.Spec PyProof.Rows
structure Wd where
  many : Nat
  kinds : List (Str × List Nat)
  pairs : List (Str × List (Nat × Nat))
  homes : List (Str × Nat)
def natsD (ps : List Nat) : Dat := .lst (ps.map fun (n : Nat) => .int (n : Int))
def pairD (q : Nat × Nat) : Dat := .tup [.int (q.1 : Int), .int (q.2 : Int)]
def pairsD (qs : List (Nat × Nat)) : Dat := .lst (qs.map pairD)
def Wd.kindsK (W : Wd) : List (Str × Dat) := W.kinds.map fun x => (x.1, natsD x.2)
def Wd.pairsK (W : Wd) : List (Str × Dat) := W.pairs.map fun x => (x.1, pairsD x.2)
def Wd.homesK (W : Wd) : List (Str × Dat) := W.homes.map fun x => (x.1, .int (x.2 : Int))
structure Wd.nd (W : Wd) : Prop where
  k : (W.kinds.map (·.1)).Nodup
  p : (W.pairs.map (·.1)).Nodup
  h : (W.homes.map (·.1)).Nodup
def IsW (H : Hp) (W : Wd) (v : V) : Prop := ∃ (p dk dp dh : Addr) (lk lp lh : List (Key × V)), v = .ref p ∧ H p = some (.tup [.int (W.many : Int), .ref dk, .ref dp, .ref dh]) ∧
  H dk = some (.dK lk) ∧ Dak H W.kindsK lk ∧ H dp = some (.dK lp) ∧ Dak H W.pairsK lp ∧ H dh = some (.dK lh) ∧ Dak H W.homesK lh
theorem IsW.mono {H H' : Hp} (s : Same H H') {W : Wd} {v : V} (h : IsW H W v) : IsW H' W v := by
  obtain ⟨p, dk, dp, dh, lk, lp, lh, e, h0, h1, g1, h2, g2, h3, g3⟩ := h
  exact ⟨p, dk, dp, dh, lk, lp, lh, e, s _ _ h0, s _ _ h1, g1.mono s, s _ _ h2, g2.mono s, s _ _ h3, g3.mono s⟩
theorem flat_nats (ps : List Nat) : (natsD ps).flat := by
  show flats (ps.map fun (n : Nat) => Dat.int (n : Int))
  induction ps with
  | nil => exact trivial
  | cons a r ih => exact ⟨trivial, ih⟩
theorem flat_pairs (qs : List (Nat × Nat)) : (pairsD qs).flat := by
  show flats (qs.map pairD)
  induction qs with
  | nil => exact trivial
  | cons a r ih => exact ⟨⟨trivial, trivial, trivial⟩, ih⟩
theorem dps_le {ds : List Dat} {n : Nat} (h : ∀ d ∈ ds, d.dp ≤ n) : dps ds ≤ n := by
  induction ds with
  | nil => exact Nat.zero_le _
  | cons a r ih => exact Nat.max_le.mpr ⟨h a List.mem_cons_self, ih fun d hd => h d (List.mem_cons_of_mem _ hd)⟩
theorem dp_nats (ps : List Nat) : (natsD ps).dp ≤ 2 := by
  have : dps (ps.map fun (n : Nat) => Dat.int (n : Int)) ≤ 1 := dps_le fun d hd => by
    obtain ⟨n, _, rfl⟩ := List.mem_map.mp hd
    exact Nat.zero_le _
  show 1 + _ ≤ 2
  omega
theorem dp_pairs (qs : List (Nat × Nat)) : (pairsD qs).dp ≤ 3 := by
  have : dps (qs.map pairD) ≤ 2 := dps_le fun d hd => by
    obtain ⟨n, _, rfl⟩ := List.mem_map.mp hd
    show 1 + _ ≤ 2
    have : dps [Dat.int (n.1 : Int), Dat.int (n.2 : Int)] ≤ 1 := dps_le fun d hd => by
      simp only [List.mem_cons, List.not_mem_nil, or_false] at hd
      rcases hd with rfl | rfl <;> exact Nat.zero_le _
    omega
  show 1 + _ ≤ 3
  omega
section
variable {X : Cx} {pins : List (Addr × Obj)} {σ : St} {H : Hp} {s : Shared}
theorem keys_map {α : Type} (l : List (Str × α)) (f : α → Dat) : ((l.map fun x => (x.1, f x.2)).map (·.1)) = l.map (·.1) := by
  rw [List.map_map]; rfl
theorem vals4 {x y z a : V} {us : List Value} (r : Vals [x, y, z, a] us) : ∃ u0 u1 u2 u3, us = [u0, u1, u2, u3] ∧ RelV x u0 ∧ RelV y u1 ∧ RelV z u2 ∧ RelV a u3 := by
  cases r with
  | cons r0 r =>
    obtain ⟨u1, u2, u3, rfl, r1, r2, r3⟩ := vals3 r
    exact ⟨_, _, _, _, rfl, r0, r1, r2, r3⟩
theorem dict_alike {A : Around} {p q : Addr} {l l' : List (Key × V)} {ks : List (Str × Dat)} (I : Inv X pins σ H s) (hp : H p = some (.dK l)) (hq : H q = some (.dK l')) (h1 : Dak H ks l) (h2 : Dak H ks l') (nd : (ks.map (·.1)).Nodup) (hu : A.units + 8 < cLine)
    (hf : ∀ k d, (k, d) ∈ ks → d.flat ∧ d.dp ≤ 4) : Alike X.prog X.w A s (.ref p) (.ref q) :=
  Alike.refs fun _ => (rc_dict I hp hq h1 h2 nd (by omega) fun k d hkd x y u v a b c e => eqDa I (hf k d hkd).1 a b c e (by have := (hf k d hkd).2; rw [in1_u]; omega)).1
theorem worlds_alike {A : Around} (I : Inv X pins σ H s) {W : Wd} {x y : V} {u v : Value} (nd : W.nd) (hx : IsW H W x) (hy : IsW H W y) (ru : RelV x u) (rv : RelV y v) (hu : A.units + 16 < cLine) :
    (∀ (Q : Value → Shared → Prop) (E : Value → Shared → Prop), Q (.bool false) s → wpAny (model X.prog X.w) A (compareOp .NotEq u v) Q E s) ∧ (∀ (Q : Value → Shared → Prop) (E : Value → Shared → Prop), Q (.bool true) s → wpAny (model X.prog X.w) A (compareOp .Eq u v) Q E s) := by
  obtain ⟨p, dk, dp, dh, lk, lp, lh, rfl, h0, h1, g1, h2, g2, h3, g3⟩ := hx
  obtain ⟨p', dk', dp', dh', lk', lp', lh', rfl, h0', h1', g1', h2', g2', h3', g3'⟩ := hy
  cases ru
  cases rv
  obtain ⟨_, its, r1, t1⟩ := (show ObjOk X.prog X.w H s.heap p _ from I.hok p _ h0)
  obtain ⟨_, jts, r2, t2⟩ := (show ObjOk X.prog X.w H s.heap p' _ from I.hok p' _ h0')
  obtain ⟨a0, a1, a2, a3, rfl, ⟨ta, rfl⟩, b1, b2, b3⟩ := vals4 r1
  obtain ⟨c0, c1, c2, c3, rfl, ⟨tc, rfl⟩, d1, d2, d3⟩ := vals4 r2
  cases b1; cases b2; cases b3; cases d1; cases d2; cases d3
  have e0 : Alike X.prog X.w A.in1 s (.int (W.many : Int) ta) (.int (W.many : Int) tc) := Alike.of (by
    have := SeqAt.EqAt.int_int (A := A.in1) (s := s) (W.many : Int) ta (W.many : Int) tc
    rwa [beq_self_eq_true] at this)
  have e1 := dict_alike (A := A.in1) I h1 h1' g1 g1' (by rw [Wd.kindsK, keys_map]; exact nd.k) (by rw [in1_u]; omega) fun k d hkd => by
    obtain ⟨x, _, e⟩ := List.mem_map.mp hkd
    cases e
    exact ⟨flat_nats _, Nat.le_trans (dp_nats _) (by decide)⟩
  have e2 := dict_alike (A := A.in1) I h2 h2' g2 g2' (by rw [Wd.pairsK, keys_map]; exact nd.p) (by rw [in1_u]; omega) fun k d hkd => by
    obtain ⟨x, _, e⟩ := List.mem_map.mp hkd
    cases e
    exact ⟨flat_pairs _, Nat.le_trans (dp_pairs _) (by decide)⟩
  have e3 := dict_alike (A := A.in1) I h3 h3' g3 g3' (by rw [Wd.homesK, keys_map W.homes (fun n => Dat.int (n : Int))]; exact nd.h) (by rw [in1_u]; omega) fun k d hkd => by
    obtain ⟨x, _, e⟩ := List.mem_map.mp hkd
    cases e
    exact ⟨trivial, Nat.zero_le _⟩
  obtain ⟨o1, ho1, hc1, n1, hd1⟩ := t1
  obtain ⟨o2, ho2, hc2, n2, hd2⟩ := t2
  obtain ⟨k1, m1, q1, f1⟩ := o1
  obtain ⟨k2, m2, q2, f2⟩ := o2
  simp only at hc1 hd1 hc2 hd2
  subst hc1; subst hd1; subst hc2; subst hd2
  have al : ∀ z ∈ ([Value.int (W.many : Int) ta, .ref dk, .ref dp, .ref dh].toArray.toList.zip [Value.int (W.many : Int) tc, .ref dk', .ref dp', .ref dh'].toArray.toList), Alike X.prog X.w A.in1 s z.1 z.2 := by
    intro z hz
    have hz' : z ∈ [(Value.int (W.many : Int) ta, Value.int (W.many : Int) tc), (.ref dk, .ref dk'), (.ref dp, .ref dp'), (.ref dh, .ref dh')] := hz
    simp only [List.mem_cons, List.not_mem_nil, or_false] at hz'
    rcases hz' with rfl | rfl | rfl | rfl
    · exact e0
    · exact e1
    · exact e2
    · exact e3
  constructor
  · intro Q E hq
    refine wpAny_richCompare_same_room (op := .NotEq) (T := "tuple") ⟨_, ho1, rfl⟩ ⟨_, ho2, rfl⟩ PySem.F.slot_tuple_ne (call_meetsIn PySem.F.slot_tuple_ne ⟨_, ho1, rfl⟩ PySem.F.entry_tuple_ne (PySem.F.args_tuple_ne_2 _ _) (tup_ne_alike p p' _ _ n1 n2 m1 m2 f1 f2) ⟨ho1, ho2, rfl, al, ?_⟩) (by omega)
    exact ⟨fun z => (nomatch z), hq⟩
  · intro Q E hq
    refine wpAny_richCompare_same_room (op := .Eq) (T := "tuple") ⟨_, ho1, rfl⟩ ⟨_, ho2, rfl⟩ PySem.F.slot_tuple_eq (call_meetsIn PySem.F.slot_tuple_eq ⟨_, ho1, rfl⟩ PySem.F.entry_tuple_eq (PySem.F.args_tuple_eq_2 _ _) (tup_eq_alike p p' _ _ n1 n2 m1 m2 f1 f2) ⟨ho1, ho2, rfl, al, ?_⟩) (by omega)
    exact ⟨fun z => (nomatch z), hq⟩
end
section
variable {X : Cx}
def rEqW : R2 := fun x y H Q => ∃ W : Wd, W.nd ∧ IsW H W x ∧ IsW H W y ∧ Q (.bl true) H
theorem op_eqW (hu : X.A.units + 64 < cLine) : OpR X (compareOp .Eq) rEqW := by
  intro pins s σ H x y v u Q I rx ry h
  obtain ⟨W, nd, h1, h2, q⟩ := h
  exact (worlds_alike I nd h1 h2 rx ry (by omega)).2 _ _ ⟨.bl true, H, I, rfl, q⟩
end
end L2
set_option Elab.async false
set_option linter.all false
set_option maxRecDepth 100000
set_option maxHeartbeats 4000000
/-! EXTENSION 8c: arguments without an unfolding of what stands there (for the derivations' @-forms), a dict display of one entry. -/
namespace L2
open PySem PySem.Spec PyProof.Rows
def notStar : Expr → Bool
  | .Starred _ _ => false
  | _ => true
theorem star_ns {e : Expr} {es : List Expr} {env : Env} (h : notStar e = true) : starEach (e :: es) env = (false, eval e env) :: starEach es env := by
  cases e <;> first | (cases h; done) | (rw [starEach.eq_def])
theorem pa_consN {X : Cx} {e : Expr} {es : List Expr} {te : TE} {t : TA} (ha : PE X e te) (hr : PA X es t) (h : notStar e = true := by rfl) : PA X (e :: es) (tCons te t) := pa_cons ha hr (star_ns h)
end L2
set_option Elab.async false
set_option linter.all false
set_option maxRecDepth 100000
set_option maxHeartbeats 1000000
/-! EXTENSION 9e: a dict of the program's top, with text keys, read. -/
namespace L2
open PySem PySem.Spec PyProof.Rows
def KDict (K : PySem.W.Frag) (P : Program) (w : World) (a : Addr) (kvs : List (Key × V)) : Prop :=
  ∀ h : Heap, (∀ b o, K.lookup b = some o → h.get? b = some o) → ∃ vs, KV kvs vs ∧ h.DictOf (mixKind P w) a vs
def tKGet (K : PySem.W.Frag) (P : Program) (w : World) (td ty : TE) : TE := fun σ H Q => td σ H fun x H1 => ty σ H1 fun y H2 => ∃ a kvs k v, x = .ref a ∧ y = kV k ∧ KDict K P w a kvs ∧ valV kvs k = some v ∧ Q v H2
theorem pe_kget {X : Cx} {o i : Expr} {pos : Pos} {td ty : TE} (ho : PE X o td) (hi : PE X i ty) (hs : NoSl i) : PE X (.Subscript o i pos) (tKGet X.K X.prog X.w td ty) := by
  intro pins s σ H Q I h
  refine subD_of PySem.F.slot_dict_getitem.lookup hs (thn (ho pins s σ H _ I h) fun u s1 ⟨x, H1, I1, rx, q1⟩ => thn (hi pins s1 σ H1 _ I1 q1) fun iv s2 ⟨y, H2, I2, ry, a, kvs, k, v, ex, ey, kd, l, q2⟩ => ?_)
  subst ex ey
  obtain rfl : u = Value.ref a := rx
  obtain ⟨vs, rel, dd⟩ := kd s2.heap I2.kIn
  obtain ⟨w', hw, rw'⟩ := RelO.some_of (v := v) (o := valueAt vs k) (by rw [← l]; exact rel.val k)
  exact ⟨dd.typeIs, wpAny_getItem_of (kV_is ry) dd.mapOf hw ⟨v, H2, I2.tok _, rw', q2⟩⟩
/-- what stands in such a dict: key, token, value -/
def kdEnt (w : World) (e : Str × Tok × Value) : DictEntry := ⟨PyData.keyHash w.params e.1, .str e.1 e.2.1, e.2.2⟩
def KdRel : List (Key × V) → List (Str × Tok × Value) → Prop := Paired fun kv e => kv.1 = Sum.inr e.1 ∧ RelV kv.2 e.2.2
theorem kd_pairs {P : Program} {w : World} : ∀ l : List (Str × Tok × Value), Pairs (mixKind P w) (l.map (kdEnt w)) (l.map fun e => (Sum.inr e.1, e.2.2))
  | [] => .nil
  | e :: l => .cons (kv := (Sum.inr e.1, e.2.2)) (keyIs_str e.1 e.2.1) rfl (kd_pairs l)
theorem kd_kv : ∀ {kvs : List (Key × V)} {l : List (Str × Tok × Value)}, KdRel kvs l → KV kvs (l.map fun e => (Sum.inr e.1, e.2.2))
  | _, _, .nil => .nil
  | _, _, .cons r t => .cons ⟨r.1, r.2⟩ (kd_kv t)
theorem kdict_mk {K : PySem.W.Frag} {P : Program} {w : World} {a : Addr} {kvs : List (Key × V)} {ep : Nat} (l : List (Str × Tok × Value)) (hl : K.lookup a = some { cls := .type "dict", dict := none, data := .dict (l.map (kdEnt w)).toArray ep, slots := #[] })
    (hr : KdRel kvs l) (hn : (l.map (·.1)).Nodup) : KDict K P w a kvs := fun h hk => by
  refine ⟨_, kd_kv hr, _, _, _, hk _ _ hl, ⟨rfl, rfl, rfl⟩, rfl, fun e he => ?_, ?_, ?_⟩
  · have he' : e ∈ l.map (kdEnt w) := by simpa using he
    obtain ⟨x, _, rfl⟩ := List.mem_map.mp he'
    exact ⟨Sum.inr x.1, keyIs_str x.1 x.2.1, rfl⟩
  · exact kd_pairs l
  · rw [List.map_map]
    have : (l.map ((fun x : Key × Value => x.1) ∘ fun e => (Sum.inr e.1, e.2.2))) = (l.map (·.1)).map Sum.inr := by
      rw [List.map_map]; rfl
    rw [this]
    exact List.Pairwise.map _ (fun a b hab e => hab (Sum.inr.inj e)) hn
end L2
set_option Elab.async false
set_option linter.all false
set_option maxRecDepth 100000
set_option maxHeartbeats 4000000
/-! EXTENSION 11a: a set's table stays led and plain; an order that is picked is a rearrangement. -/
namespace L2
open PySem
theorem erase_perm {α : Type} : ∀ {l : List α} {i : Nat} (h : i < l.length), (l[i] :: l.eraseIdx i).Perm l
  | a :: l, 0, _ => List.Perm.refl _
  | a :: l, i + 1, h => by
    have hi : i < l.length := by simpa using h
    have ih := erase_perm (l := l) (i := i) hi
    show (l[i] :: a :: l.eraseIdx i).Perm (a :: l)
    exact (List.Perm.swap a l[i] _).trans (List.Perm.cons a ih)
theorem pick_go {α : Type} (next : Nat → Nat) : ∀ (fuel k : Nat) (left : List α) (out : Array α), left.length = fuel → (pickOrder.go next fuel k left out).toList.Perm (out.toList ++ left)
  | 0, k, left, out, h => by
    have : left = [] := List.eq_nil_of_length_eq_zero h
    subst this
    simp [pickOrder.go]
  | fuel + 1, k, left, out, h => by
    have hp : 0 < left.length := by omega
    have hi : next k % left.length < left.length := Nat.mod_lt _ hp
    unfold pickOrder.go
    rw [List.getElem?_eq_getElem hi]
    dsimp only
    refine (pick_go next fuel (k + 1) (left.eraseIdx (next k % left.length)) (out.push left[next k % left.length]) (by rw [List.length_eraseIdx_of_lt hi]; omega)).trans ?_
    rw [Array.toList_push, List.append_assoc]
    exact List.Perm.append_left _ (erase_perm hi)
theorem pickOrder_perm {α : Type} (next : Nat → Nat) (xs : Array α) : (pickOrder next xs).toList.Perm xs.toList := by
  have := pick_go next xs.size 0 xs.toList #[] (by simp)
  simpa [pickOrder] using this
end L2
set_option Elab.async false
set_option linter.all false
set_option maxRecDepth 100000
set_option maxHeartbeats 4000000
/-! EXTENSION 11b: a set is walked in some order. -/
namespace L2
open PySem PyProof.Rows
section
variable {prog : Program} {w : World} {A : Around} {E : Value → Shared → Prop} {s : Shared}
theorem wpAny_chooseOrder {n : Nat} {Q : Nat → Shared → Prop} (hn : n ≠ 0) (h : ∀ (i : Nat) (dr : _), i < n → Q i { s with drawn := dr }) : wpAny (model prog w) A (choose .order n) Q E s := by
  intro Γ p hΓ
  unfold choose
  rw [Sem.wp_choose]
  refine ⟨hn, ?_⟩
  have hi : (model prog w).w.draws .order (s.drawn.get .order) % n < n := Nat.mod_lt _ (Nat.pos_of_ne_zero hn)
  exact h _ _ hi
theorem wpAny_drawOrder {α : Type} : ∀ (n : Nat) (xs : List α) {s : Shared} {Q : List α → Shared → Prop}, xs.length ≤ n → (∀ (ys : List α) (dr : _), ys.Perm xs → Q ys { s with drawn := dr }) → wpAny (model prog w) A (drawOrder n xs) Q E s
  | 0, xs, s, Q, hl, h => by
    have : xs = [] := List.eq_nil_of_length_eq_zero (by omega)
    subst this
    unfold drawOrder
    exact wpAny_pure (by have := h [] s.drawn (List.Perm.refl _); exact this)
  | n + 1, [], s, Q, hl, h => by
    unfold drawOrder
    exact wpAny_pure (by have := h [] s.drawn (List.Perm.refl _); exact this)
  | n + 1, x :: xs, s, Q, hl, h => by
    unfold drawOrder
    refine wpAny_bind (wpAny_chooseOrder (by simp) fun i dr hi => ?_)
    rw [List.getElem?_eq_getElem hi]
    dsimp only
    refine wpAny_bind (wpAny_drawOrder n ((x :: xs).eraseIdx i) (by rw [List.length_eraseIdx_of_lt hi]; simp only [List.length_cons] at hl ⊢; omega) fun ys dr2 hp => ?_)
    exact wpAny_pure (h _ dr2 ((List.Perm.cons _ hp).trans (erase_perm hi)))
end
end L2
set_option Elab.async false
set_option linter.all false
set_option maxRecDepth 100000
set_option maxHeartbeats 4000000
namespace L2
open PySem PyProof.Rows
theorem setWalk_eq (a : Addr) : setWalk a = (do
    let (es, epoch, t) ← setState a
    if ← setsByText then return pickOrder ((← ask).params.setOrder a epoch) es
    if (!t.plain && es.size > 1) then return (← drawOrder es.size es.toList).toArray
    let _ ← (if (!t.led && es.size > 1) then (unsupported "set:maker-not-led" : Sem Unit) else pure ())
    return es) := by
  first | rfl | (unfold setWalk; rfl)
section
variable {prog : Program} {w : World} {A : Around} {E : Value → Shared → Prop} {s : Shared}
/-- a led set is walked in some order of its own -/
theorem wpAny_setWalk {a : Addr} {o : Obj} {es : Array (Int × Value)} {ep : Nat} {t : SetTable} {Q : Array (Int × Value) → Shared → Prop}
    (ho : s.heap.get? a = some o) (hd : o.data = .set es ep t) (hf : t.fits es.size = true) (hled : t.led = !w.params.followText "set-order")
    (h : ∀ (ys : Array (Int × Value)) (dr : _), ys.toList.Perm es.toList → Q ys { s with drawn := dr }) : wpAny (model prog w) A (setWalk a) Q E s := by
  rw [setWalk_eq]
  refine wpAny_bind (wpAny_setState_of ho hd hf ?_)
  dsimp only
  unfold setsByText
  refine wpAny_bind (wpAny_bind (wpAny_askSetting (wpAny_pure ?_)))
  dsimp only
  by_cases hb : w.params.followText "set-order" = true
  · have hb' : (model prog w).w.params.followText "set-order" = true := hb
    rw [if_pos hb']
    refine wpAny_bind (wpAny_askSetting (wpAny_pure ?_))
    exact h _ s.drawn (pickOrder_perm _ _)
  · have hb' : ¬ (model prog w).w.params.followText "set-order" = true := hb
    rw [if_neg hb']
    by_cases hp : (!t.plain && decide (es.size > 1)) = true
    · rw [if_pos hp]
      refine wpAny_bind (wpAny_drawOrder es.size es.toList (by simp) fun ys dr hy => wpAny_pure (h _ dr (by simpa using hy)))
    · rw [if_neg hp]
      have hl : t.led = true := by rw [hled]; simpa using hb
      rw [hl]
      exact wpAny_bind (wpAny_pure (wpAny_pure (h es s.drawn (List.Perm.refl _))))
end
end L2
set_option Elab.async false
set_option linter.all false
set_option maxRecDepth 100000
set_option maxHeartbeats 4000000
/-! EXTENSION 12a: the places of a set's table rise. -/
namespace L2
open PySem
/-- the places rise -/
def Rise (xs : Array Nat) : Prop := ∀ i j (hi : i < xs.size) (hj : j < xs.size), i < j → xs[i] < xs[j]
/-- every place below p is less than v, every other one is not -/
structure CutBy (xs : Array Nat) (v p : Nat) : Prop where
  le : p ≤ xs.size
  lo : ∀ i (h : i < xs.size), i < p → xs[i] < v
  hi : ∀ i (h : i < xs.size), p ≤ i → v ≤ xs[i]
theorem below_go {xs : Array Nat} {v : Nat} (hr : Rise xs) : ∀ (fuel lo hi : Nat), hi - lo ≤ fuel → lo ≤ hi → hi ≤ xs.size →
    (∀ i (h : i < xs.size), i < lo → xs[i] < v) → (∀ i (h : i < xs.size), hi ≤ i → v ≤ xs[i]) → CutBy xs v (SetTable.below.go xs v fuel lo hi)
  | 0, lo, hi, hf, hl, hh, h1, h2 => by
    have e : lo = hi := by omega
    subst e
    unfold SetTable.below.go
    exact ⟨hh, h1, h2⟩
  | fuel + 1, lo, hi, hf, hl, hh, h1, h2 => by
    unfold SetTable.below.go
    by_cases hlt : lo < hi
    · rw [if_pos hlt]
      dsimp only
      have hm1 : (lo + hi) / 2 < hi := by omega
      have hm2 : lo ≤ (lo + hi) / 2 := by omega
      have hms : (lo + hi) / 2 < xs.size := by omega
      have eg : xs.getD ((lo + hi) / 2) v = xs[(lo + hi) / 2] := by simp [Array.getD, hms]
      rw [eg]
      by_cases hc : xs[(lo + hi) / 2] < v
      · rw [if_pos hc]
        refine below_go hr fuel _ _ (by omega) (by omega) hh (fun i h hi' => ?_) h2
        by_cases e : i = (lo + hi) / 2
        · subst e; exact hc
        · exact Nat.lt_trans (hr i _ h hms (by omega)) hc
      · rw [if_neg hc]
        refine below_go hr fuel _ _ (by omega) (by omega) (by omega) h1 (fun i h hi' => ?_)
        by_cases e : i = (lo + hi) / 2
        · subst e; omega
        · have := hr _ i hms h (by omega)
          omega
    · rw [if_neg hlt]
      have e : lo = hi := by omega
      subst e
      exact ⟨hh, h1, h2⟩
theorem below_cut {xs : Array Nat} (hr : Rise xs) (v : Nat) : CutBy xs v (SetTable.below xs v) :=
  below_go hr xs.size 0 xs.size (by omega) (Nat.zero_le _) (Nat.le_refl _) (fun i _ h => absurd h (Nat.not_lt_zero _)) fun i h h' => absurd h (Nat.not_lt.mpr h')
theorem CutBy.one {xs : Array Nat} {v p q : Nat} (a : CutBy xs v p) (b : CutBy xs v q) : p = q := by
  rcases Nat.lt_trichotomy p q with h | h | h
  · have h1 : p < xs.size := Nat.lt_of_lt_of_le h b.le
    have := a.hi p h1 (Nat.le_refl _)
    have := b.lo p h1 h
    omega
  · exact h
  · have h1 : q < xs.size := Nat.lt_of_lt_of_le h a.le
    have := b.hi q h1 (Nat.le_refl _)
    have := a.lo q h1 h
    omega
theorem ins_size {α : Type} (xs : Array α) (p : Nat) (x : α) (h : p ≤ xs.size) : (SetTable.insertAt xs p x).size = xs.size + 1 := by
  unfold SetTable.insertAt
  simp only [Array.size_append, Array.size_push, Array.size_extract]
  omega
theorem ins_at {α : Type} (xs : Array α) (p : Nat) (x : α) (h : p ≤ xs.size) (i : Nat) : (SetTable.insertAt xs p x)[i]? = if i < p then xs[i]? else if i = p then some x else xs[i - 1]? := by
  unfold SetTable.insertAt
  rw [Array.getElem?_append]
  have e1 : ((xs.extract 0 p).push x).size = p + 1 := by simp; omega
  rw [e1]
  by_cases h1 : i < p
  · rw [if_pos (by omega), if_pos h1, Array.getElem?_push, if_neg (by simp; omega), Array.getElem?_extract, if_pos (by omega)]
    simp
  · rw [if_neg h1]
    by_cases h2 : i = p
    · subst h2
      rw [if_pos (by omega), if_pos rfl, Array.getElem?_push, if_pos (by simp; omega)]
    · rw [if_neg (by omega), if_neg h2, Array.getElem?_extract]
      by_cases h3 : i - 1 < xs.size
      · rw [if_pos (by omega)]
        congr 1
        omega
      · rw [if_neg (by omega), Array.getElem?_eq_none (by omega)]
theorem rise_of {xs : Array Nat} (h : ∀ (i j a b : Nat), xs[i]? = some a → xs[j]? = some b → i < j → a < b) : Rise xs := fun i j hi hj hl => h i j _ _ (by simp [hi]) (by simp [hj]) hl
theorem Rise.get {xs : Array Nat} (h : Rise xs) {i j a b : Nat} (ha : xs[i]? = some a) (hb : xs[j]? = some b) (hl : i < j) : a < b := by
  obtain ⟨h1, e1⟩ := Array.getElem?_eq_some_iff.mp ha
  obtain ⟨h2, e2⟩ := Array.getElem?_eq_some_iff.mp hb
  rw [← e1, ← e2]
  exact h i j h1 h2 hl
theorem CutBy.lo' {xs : Array Nat} {v p i a : Nat} (c : CutBy xs v p) (ha : xs[i]? = some a) (h : i < p) : a < v := by
  obtain ⟨h1, e1⟩ := Array.getElem?_eq_some_iff.mp ha
  rw [← e1]; exact c.lo i h1 h
theorem CutBy.hi' {xs : Array Nat} {v p i a : Nat} (c : CutBy xs v p) (ha : xs[i]? = some a) (h : p ≤ i) : v ≤ a := by
  obtain ⟨h1, e1⟩ := Array.getElem?_eq_some_iff.mp ha
  rw [← e1]; exact c.hi i h1 h
theorem rise_insert {xs : Array Nat} {v p : Nat} (hr : Rise xs) (c : CutBy xs v p) (hn : xs[p]? ≠ some v) : Rise (SetTable.insertAt xs p v) := by
  refine rise_of fun i j a b ha hb hl => ?_
  rw [ins_at xs p v c.le] at ha hb
  have up : ∀ k d, xs[k]? = some d → p ≤ k → v < d := fun k d hd hk => by
    have h1 := c.hi' hd hk
    by_cases e : k = p
    · subst e
      have : d ≠ v := fun z => hn (by rw [hd, z])
      omega
    · obtain ⟨hks, _⟩ := Array.getElem?_eq_some_iff.mp hd
      have hps : p < xs.size := by omega
      have h2 := hr.get (show xs[p]? = some xs[p] by simp [hps]) hd (by omega)
      have := c.hi p hps (Nat.le_refl _)
      omega
  by_cases i1 : i < p
  · rw [if_pos i1] at ha
    have h1 := c.lo' ha i1
    by_cases j1 : j < p
    · rw [if_pos j1] at hb; exact hr.get ha hb hl
    · rw [if_neg j1] at hb
      by_cases j2 : j = p
      · rw [if_pos j2] at hb; cases hb; exact h1
      · rw [if_neg j2] at hb
        have := up _ _ hb (by omega)
        omega
  · rw [if_neg i1] at ha
    rw [if_neg (by omega), if_neg (by omega)] at hb
    by_cases i2 : i = p
    · rw [if_pos i2] at ha; cases ha; exact up _ _ hb (by omega)
    · rw [if_neg i2] at ha
      exact hr.get ha hb (by omega)
/-- a table as new sets have it: nothing has been taken out, the places rise where it is plain -/
structure Tidy (t : SetTable) : Prop where
  none : t.dummies = #[]
  rise : t.plain = true → Rise t.place
theorem slot_empty {t : SetTable} (hd : t.dummies = #[]) {j : Nat} : t.slot j ≠ .dummy := by
  unfold SetTable.slot
  rw [hd]
  dsimp only
  split
  · intro h; cases h
  · simp [SetTable.has, SetTable.below, SetTable.below.go]
theorem filterMap_rise {β : Type} (f : Nat → Option β) : ∀ (n : Nat), (((List.range n).filterMap fun j => (f j).map (j, ·)).map (·.1)).Pairwise (· < ·) := fun n => by
  rw [List.map_filterMap]
  have e : (fun j => ((f j).map (j, ·)).map (·.1)) = fun j => if (f j).isSome = true then some j else none := by
    funext j
    cases f j <;> simp
  rw [e]
  have h2 : (List.range n).filterMap (fun j => if (f j).isSome = true then some j else none) = (List.range n).filter fun j => (f j).isSome := by
    rw [← List.filterMap_eq_filter]
    congr 1
  rw [h2]
  exact List.Pairwise.filter _ List.pairwise_lt_range
theorem rise_toArray {l : List Nat} (h : l.Pairwise (· < ·)) : Rise l.toArray := fun i j hi hj hl => by
  have := List.pairwise_iff_getElem.mp h i j (by simpa using hi) (by simpa using hj) hl
  simpa using this
end L2
set_option Elab.async false
set_option linter.all false
set_option maxRecDepth 100000
set_option maxHeartbeats 4000000
/-! EXTENSION 12b: a set by the list of its elements; what is added to it; how it is walked, asked. -/
namespace L2
open PySem PyProof.Rows
theorem Paired.perm {α β : Type} {R : α → β → Prop} {l l' : List α} (p : l.Perm l') : ∀ {ks : List β}, Paired R l ks → ∃ ks', Paired R l' ks' ∧ ks'.Perm ks := by
  induction p with
  | nil => intro ks h; exact ⟨ks, h, List.Perm.refl _⟩
  | cons x _ ih =>
    intro ks h
    cases h with
    | cons r t =>
      obtain ⟨ks', h1, h2⟩ := ih t
      exact ⟨_, .cons r h1, h2.cons _⟩
  | swap x y l =>
    intro ks h
    cases h with
    | cons r t =>
      cases t with
      | cons r' t' => exact ⟨_, .cons r' (.cons r t'), List.Perm.swap _ _ _⟩
  | trans _ _ ih1 ih2 =>
    intro ks h
    obtain ⟨k1, h1, p1⟩ := ih1 h
    obtain ⟨k2, h2, p2⟩ := ih2 h1
    exact ⟨k2, h2, p2.trans p1⟩
theorem Paired.app {α β : Type} {R : α → β → Prop} : ∀ {l l' : List α} {k k' : List β}, Paired R l k → Paired R l' k' → Paired R (l ++ l') (k ++ k')
  | _, _, _, _, .nil, h => h
  | _, _, _, _, .cons r t, h => .cons r (Paired.app t h)
theorem Paired.memL {α β : Type} {R : α → β → Prop} : ∀ {l : List α} {k : List β} {x : α}, Paired R l k → x ∈ l → ∃ y ∈ k, R x y
  | _, _, _, .nil, h => nomatch h
  | _, _, x, .cons r t, h => by
    rcases List.mem_cons.mp h with rfl | h
    · exact ⟨_, List.mem_cons_self, r⟩
    · obtain ⟨y, h1, h2⟩ := Paired.memL t h
      exact ⟨y, List.mem_cons_of_mem _ h1, h2⟩
theorem Paired.memR {α β : Type} {R : α → β → Prop} : ∀ {l : List α} {k : List β} {y : β}, Paired R l k → y ∈ k → ∃ x ∈ l, R x y
  | _, _, _, .nil, h => nomatch h
  | _, _, y, .cons r t, h => by
    rcases List.mem_cons.mp h with rfl | h
    · exact ⟨_, List.mem_cons_self, r⟩
    · obtain ⟨x, h1, h2⟩ := Paired.memR t h
      exact ⟨x, List.mem_cons_of_mem _ h1, h2⟩
section
variable {prog : Program} {w : World} {κ : Type} [DecidableEq κ] {knd : KeyKind prog w κ} {A : Around} {E : Value → Shared → Prop} {s : Shared}
def Ent (knd : KeyKind prog w κ) (e : Int × Value) (k : κ) : Prop := knd.is k e.2 = true ∧ e.1 = knd.hash k ∧ e.2.scannable = true
structure SetAt (knd : KeyKind prog w κ) (h : Heap) (a : Addr) (es : Array (Int × Value)) (ep : Nat) (t : SetTable) (ks : List κ) : Prop where
  obj : ∃ o, h.get? a = some o ∧ o.ExactSet ∧ o.data = .set es ep t
  ents : Paired (Ent knd) es.toList ks
  nodup : ks.Nodup
  bnd : es.size < scanBound
  fits : t.fits es.size = true
  led : t.led = !w.params.followText "set-order"
  tidy : Tidy t
/-- the set at a has just these elements -/
def SetK (knd : KeyKind prog w κ) (h : Heap) (a : Addr) (ks : List κ) : Prop := ∃ es ep t ks', SetAt knd h a es ep t ks' ∧ ks'.Perm ks
theorem Ents.elems {es : List (Int × Value)} {ks : List κ} (h : Paired (Ent knd) es ks) : ElemsOf knd es := fun e he => by
  obtain ⟨k, _, h1, h2, h3⟩ := Paired.memL h he
  exact ⟨⟨k, h1, h2⟩, h3⟩
theorem Ents.mem {es : List (Int × Value)} {ks : List κ} (h : Paired (Ent knd) es ks) (k : κ) : k ∈ ks ↔ ∃ e ∈ es, knd.is k e.2 = true := by
  constructor
  · intro hk
    obtain ⟨e, h1, h2, _⟩ := Paired.memR h hk
    exact ⟨e, h1, h2⟩
  · rintro ⟨e, h1, h2⟩
    obtain ⟨k', h3, h4, _⟩ := Paired.memL h h1
    have := knd.inj e.2 k k' h2 h4
    rw [this]; exact h3
theorem Ents.len {es : Array (Int × Value)} {ks : List κ} (h : Paired (Ent knd) es.toList ks) : es.size = ks.length := by
  have := Paired.length h
  simpa using this
theorem SetAt.setOf {h : Heap} {a : Addr} {es : Array (Int × Value)} {ep : Nat} {t : SetTable} {ks : List κ} (x : SetAt knd h a es ep t ks) : h.SetOf knd a (fun k => decide (k ∈ ks)) ks.length := by
  obtain ⟨o, ho, hex, hd⟩ := x.obj
  exact ⟨o, es, ep, t, ho, hex, hd, Ents.elems x.ents, fun k => by rw [decide_eq_true_eq]; exact Ents.mem x.ents k, x.bnd, x.fits, Ents.len x.ents⟩
theorem SetK.setOf {h : Heap} {a : Addr} {ks : List κ} (x : SetK knd h a ks) : h.SetOf knd a (fun k => decide (k ∈ ks)) ks.length := by
  obtain ⟨es, ep, t, ks', y, p⟩ := x
  have e1 : (fun k => decide (k ∈ ks')) = fun k => decide (k ∈ ks) := by
    funext k
    exact decide_eq_decide.mpr p.mem_iff
  rw [← e1, ← p.length_eq]
  exact y.setOf
theorem SetK.perm {h : Heap} {a : Addr} {ks ks' : List κ} (x : SetK knd h a ks) (p : ks.Perm ks') : SetK knd h a ks' := let ⟨es, ep, t, k, y, q⟩ := x; ⟨es, ep, t, k, y, q.trans p⟩
theorem SetK.nodup {h : Heap} {a : Addr} {ks : List κ} (x : SetK knd h a ks) : ks.Nodup := let ⟨_, _, _, _, y, q⟩ := x; q.nodup_iff.mp y.nodup
theorem SetAt.keep {h h' : Heap} {a : Addr} {es : Array (Int × Value)} {ep : Nat} {t : SetTable} {ks : List κ} (x : SetAt knd h a es ep t ks) (k : ∀ o, h.get? a = some o → h'.get? a = some o) : SetAt knd h' a es ep t ks :=
  let ⟨o, ho, r⟩ := x.obj
  ⟨⟨o, k o ho, r⟩, x.ents, x.nodup, x.bnd, x.fits, x.led, x.tidy⟩
theorem SetK.keep {h h' : Heap} {a : Addr} {ks : List κ} (x : SetK knd h a ks) (k : ∀ o, h.get? a = some o → h'.get? a = some o) : SetK knd h' a ks := let ⟨es, ep, t, ks', y, p⟩ := x; ⟨es, ep, t, ks', y.keep k, p⟩
theorem SetK.lt {h : Heap} {a : Addr} {ks : List κ} (x : SetK knd h a ks) : a < h.objs.size := let ⟨_, _, _, _, y, _⟩ := x; let ⟨_, ho, _⟩ := y.obj; Heap.lt_size ho
def addK (ks : List κ) (k : κ) : List κ := if k ∈ ks then ks else ks ++ [k]
theorem mem_addK {ks : List κ} {k x : κ} : x ∈ addK ks k ↔ x ∈ ks ∨ x = k := by
  unfold addK
  split
  · rename_i h
    exact ⟨.inl, fun z => z.elim id fun e => e ▸ h⟩
  · simp
/-- storing -/
theorem SetAt.store {h : Heap} {a : Addr} {es es' : Array (Int × Value)} {ep : Nat} {t t' : SetTable} {ks ks' : List κ} (x : SetAt knd h a es ep t ks) (he : Paired (Ent knd) es'.toList ks') (hn : ks'.Nodup) (hb : es'.size < scanBound) (hf : t'.fits es'.size = true) (hl : t'.led = t.led) (ht : Tidy t') :
    SetAt knd (h.update a (Obj.putSet es' t')) a es' (ep + 1) t' ks' := by
  obtain ⟨o, ho, hex, hd⟩ := x.obj
  refine ⟨⟨{ o with data := .set es' (ep + 1) t' }, ?_, hex, rfl⟩, he, hn, hb, hf, hl.trans x.led, ht⟩
  have := Heap.get?_update_self (Obj.putSet es' t') ho (by rw [putSet_of es' t' hd]; rfl)
  rwa [putSet_of es' t' hd] at this
end
end L2
set_option Elab.async false
set_option linter.all false
set_option maxRecDepth 100000
set_option maxHeartbeats 4000000
/-! EXTENSION 12c: sets walked where nobody sees it; what two sets share. -/
namespace L2
open PySem PyProof.Rows
theorem setWalkUnseen_eq (a : Addr) (others : List Addr) (filled : Option Addr) : setWalkUnseen a others filled = (do
    let (es, _, t) ← setState a
    let byText ← setsByText
    if byText || (t.led && t.plain) || es.size ≤ 1 then return ← setWalk a
    if !(← setsQuiet (a :: others)) then return ← setWalk a
    rule "set.walk.of-a-marked-set-that-nobody-sees"
    if let some f := filled then
      let (ef, _, tf) ← setState f
      if (tf.led && !t.led) || (tf.plain && !t.plain) then storeSet f ef { tf with led := tf.led && t.led, plain := tf.plain && t.plain }
    return es) := rfl
section
variable {prog : Program} {w : World} {κ : Type} [DecidableEq κ] {knd : KeyKind prog w κ} {A : Around} {E : Value → Shared → Prop} {s : Shared}
theorem SetK.typeIs {a : Addr} {ks : List κ} (h : SetK knd s.heap a ks) : s.TypeIs (.ref a) "set" := h.setOf.typeIs
end
end L2
set_option Elab.async false
set_option linter.all false
set_option maxRecDepth 100000
set_option maxHeartbeats 4000000
/-! EXTENSION 12d: set(list). -/
namespace L2
open PySem PySem.Spec PyProof.Rows
section
variable {prog : Program} {w : World} {A : Around} {E : Value → Shared → Prop} {s : Shared}
/-- the keys of a list, put into a set one by one -/
def gather {κ : Type} [DecidableEq κ] (ks : List κ) : List κ → List κ
  | [] => ks
  | k :: r => gather (addK ks k) r
theorem mem_gather {κ : Type} [DecidableEq κ] : ∀ {r ks : List κ} {x : κ}, x ∈ gather ks r ↔ x ∈ ks ∨ x ∈ r
  | [], ks, x => by simp [gather]
  | k :: r, ks, x => by
    rw [gather, mem_gather, mem_addK, List.mem_cons, or_assoc]
/-- a new set, made by a call of the class -/
theorem codeNewSet {x : Value} {Q₁ : Value → Shared → Prop}
    (h : Q₁ (.ref s.heap.objs.size) { s with heap := s.heap.push { cls := .type "set", dict := none, data := .set #[] 0 (.fresh 0 0 (!w.params.followText "set-order")) } }) :
    codeAny (model prog w) A (.call (.builtin "set.__new__") ⟨[.type "set", x], []⟩) (wants Q₁ E) s := by
  refine codeAny_of_tree ?_
  show wpAny _ A.in1 (do checkBuiltinCall "set.__new__" ⟨[.type "set", x], []⟩; again (.builtin "set.__new__" ⟨[.type "set", x], []⟩)) _ _ s
  refine wpAny_bind (wpAny_of_eq (PySem.F.newCall_set_1 x) (wpAny_pure ⟨plainId_quiet PySem.F.plain_set_new _, codeAny_builtin PySem.F.entry_set_new ?_⟩))
  rw [Around.under_plainId PySem.F.plain_set_new _]
  unfold Builtin.«set.__new__» Builtin.Frozenset.newClass
  have hsub := PySem.sub_set_self
  obtain ⟨hp, g, d, tk, os⟩ := s
  dsimp only
  wp_walk
  refine wpAny_askSetting (wpAny_pure ?_)
  dsimp only
  simp only [newObj]
  exact wpAny_bind (wpAny_alloc (wpAny_pure (wpAny_pure h)))
end
end L2
set_option Elab.async false
set_option linter.all false
set_option maxRecDepth 100000
set_option maxHeartbeats 4000000
/-! EXTENSION 12e: a set's iterator. -/
namespace L2
open PySem PySem.Spec PyProof.Rows
theorem setNext_eq (a : Addr) (slot given epochThen : Nat) : setNext a slot given epochThen = (do
    let (es, epoch, t) ← setState a
    if ← setsByText then
      if epoch != epochThen then unsupported "set_iterator.__next__:elements-changed"
      return ((← setWalk a)[given]?).map fun e => (e.2, slot)
    if (!t.plain && es.size > 1) then unsupported "set_iterator.__next__:the-table-is-plain-no-more"
    let _ ← (if (!t.led && !es.isEmpty) then (unsupported "set:maker-not-led" : Sem Unit) else pure ())
    let i := SetTable.below t.place slot
    return match es[i]?, t.place[i]? with
      | some (_, x), some j => some (x, j + 1)
      | _, _ => none) := rfl
end L2
set_option Elab.async false
set_option linter.all false
set_option maxRecDepth 100000
set_option maxHeartbeats 4000000
/-! EXTENSION 12f: a set's iterator walks its elements. -/
namespace L2
open PySem PySem.Spec PyProof.Rows
/-- an iterator over the set at a, at its turn i -/
def SIter (h : Heap) (it a : Addr) (first : Value) (i n ep : Nat) : Prop := ∃ o, h.get? it = some o ∧ o.cls = .type "set_iterator" ∧ o.data = .fields #[first, .int i 0, .ref a, .int n 0, .int ep 0]
theorem SIter.typeIs {s : Shared} {it a : Addr} {first : Value} {i n ep : Nat} (x : SIter s.heap it a first i n ep) : s.TypeIs (.ref it) "set_iterator" := let ⟨o, ho, hc, _⟩ := x; ⟨o, ho, hc⟩
theorem SIter.keep {h h' : Heap} {it a : Addr} {first : Value} {i n ep : Nat} (x : SIter h it a first i n ep) (k : ∀ o, h.get? it = some o → h'.get? it = some o) : SIter h' it a first i n ep := let ⟨o, ho, r⟩ := x; ⟨o, k o ho, r⟩
section
variable {prog : Program} {w : World} {κ : Type} [DecidableEq κ] {knd : KeyKind prog w κ} {A : Around} {E : Value → Shared → Prop} {s : Shared}
end
end L2
set_option Elab.async false
set_option linter.all false
set_option maxRecDepth 100000
set_option maxHeartbeats 4000000
/-! EXTENSION 12g: a set's iterator as a walk. -/
namespace L2
open PySem PySem.Spec PyProof.Rows
section
variable {prog : Program} {w : World} {κ : Type} [DecidableEq κ] {knd : KeyKind prog w κ} {A : Around} {E : Value → Shared → Prop} {s : Shared}
/-- the order of a walk by text -/
theorem next_text {a : Addr} {es : Array (Int × Value)} {ep i : Nat} {t : SetTable} {ks : List κ} (S : SetAt knd s.heap a es ep t ks) (hb : w.params.followText "set-order" = true) {Q : Option (Value × Nat) → Shared → Prop}
    (h : Q (((pickOrder (w.params.setOrder a ep) es)[i]?).map fun e => (e.2, 0)) s) : wpAny (model prog w) A (setNext a 0 i ep) Q E s := by
  obtain ⟨o, ho, hex, hd⟩ := S.obj
  rw [setNext_eq]
  refine wpAny_bind (wpAny_setState_of ho hd S.fits ?_)
  dsimp only
  unfold setsByText
  refine wpAny_bind (wpAny_bind (wpAny_askSetting (wpAny_pure ?_)))
  have hb' : (model prog w).w.params.followText "set-order" = true := hb
  rw [if_pos hb']
  simp only [bne_self_eq_false, Bool.false_eq_true, ↓reduceIte]
  rw [setWalk_eq]
  refine wpAny_bind (wpAny_bind (wpAny_setState_of ho hd S.fits ?_))
  dsimp only
  unfold setsByText
  refine wpAny_bind (wpAny_bind (wpAny_askSetting (wpAny_pure ?_)))
  rw [if_pos hb']
  refine wpAny_bind (wpAny_askSetting (wpAny_pure ?_))
  exact wpAny_pure h
/-- a walk by ints: order and slots -/
structure ByInt (prog : Program) (w : World) (a : Addr) (es : Array (Int × Value)) (ep : Nat) (t : SetTable) (ys : Array (Int × Value)) (sl : Nat → Nat) : Prop where
  perm : ys.toList.Perm es.toList
  next : ∀ {κ : Type} [DecidableEq κ] {knd : KeyKind prog w κ} {ks : List κ} (i : Nat) (s : Shared) (A : Around) (E : Value → Shared → Prop) (Q : Option (Value × Nat) → Shared → Prop), i ≤ es.size → SetAt knd s.heap a es ep t ks →
    Q (match ys[i]? with | some e => some (e.2, sl (i + 1)) | none => none) s → wpAny (model prog w) A (setNext a (sl i) i ep) Q E s
theorem byText {a : Addr} {es : Array (Int × Value)} {ep : Nat} {t : SetTable} (hb : w.params.followText "set-order" = true) : ByInt prog w a es ep t (pickOrder (w.params.setOrder a ep) es) (fun _ => 0) :=
  ⟨pickOrder_perm _ _, fun i s A E Q hi S h => next_text S hb (by
    cases e : (pickOrder (w.params.setOrder a ep) es)[i]? with
    | none => rw [e] at h; exact h
    | some x => rw [e] at h; exact h)⟩
end
end L2
set_option Elab.async false
set_option linter.all false
set_option maxRecDepth 100000
set_option maxHeartbeats 4000000
/-! EXTENSION 12h: all elements of a set, collected; sorted(set). -/
namespace L2
open PySem PySem.Spec PyProof.Rows
section
variable {prog : Program} {w : World} {κ : Type} [DecidableEq κ] {knd : KeyKind prog w κ} {A : Around} {E : Value → Shared → Prop} {s : Shared}
end
end L2
set_option Elab.async false
set_option linter.all false
set_option maxRecDepth 100000
set_option maxHeartbeats 4000000
/-! EXTENSION 12i: sets of ints in the layer. -/
namespace L2
open PySem PySem.Spec PyProof.Rows
/-- a set of ints, by the list of its elements -/
def setO (P : Program) (w : World) (a : Addr) (ks : List Int) : HO := .ext fun h => SetK (PySem.intKind P w) h a ks
section
variable {X : Cx} {pins : List (Addr × Obj)} {σ : St} {H : Hp} {s : Shared}
theorem Inv.dr (I : Inv X pins σ H s) (d : Drawn) : Inv X pins σ H { s with drawn := d } := ⟨I.ok, I.os, I.bare, I.base, I.loc, I.cell, I.free, I.freeC, I.pin, I.hok, I.len⟩
theorem setO_ok {P : Program} {w : World} {H : Hp} {h : Heap} {a : Addr} {ks : List Int} (x : SetK (PySem.intKind P w) h a ks) : ObjOk P w H h a (setO P w a ks) := by
  refine ⟨x, ?_, fun h1 h2 y k => y.keep k⟩
  obtain ⟨_, _, _, _, y, _⟩ := x
  obtain ⟨o, ho, _⟩ := y.obj
  exact ⟨o, ho⟩
theorem Inv.newSet {h' : Heap} {ks : List Int} {d : Drawn} {tk : Nat} (I : Inv X pins σ H s) (k : ∀ b u, s.heap.get? b = some u → h'.get? b = some u) (x : SetK (PySem.intKind X.prog X.w) h' s.heap.objs.size ks) :
    Inv X pins σ (upd H s.heap.objs.size (setO X.prog X.w s.heap.objs.size ks)) { s with heap := h', drawn := d, toks := tk } :=
  (I.laid (t' := tk) k (Nat.le_refl _) (setO_ok x)).dr d
end
end L2
set_option Elab.async false
set_option linter.all false
set_option maxRecDepth 100000
set_option maxHeartbeats 4000000
/-! EXTENSION 12j: set comprehensions of ints. -/
namespace L2
open PySem PySem.Spec PyProof.Rows
section
variable {X : Cx} {tg iter ex : Expr} {ifs : List Expr} {scope : Scope} {pos : Pos} {wi : TI} {g : TG} {tc : TT} {te : TE} {locs cs : List Str} {caps : List Nat}

end
end L2
set_option Elab.async false
set_option linter.all false
set_option maxRecDepth 100000
set_option maxHeartbeats 4000000
/-! EXTENSION 12k: a pair of local names as a target. -/
namespace L2
open PySem PySem.Spec PyProof.Rows
theorem pg_pair {X : Cx} {K' : PySem.W.Frag} {i j : Nat} {x y : Str} {p1 p2 pos : Pos} {k : Nat} (hK : X.K = K') (hc : X.calm = true) (hN : X.N.Nodup) (hi : X.N[i]? = some x) (hj : X.N[j]? = some y) (lx : X.env.scope.names.lookup x = some .local) (ly : X.env.scope.names.lookup y = some .local) :
    PG X (.Tuple [.Name x p1, .Name y p2] k pos) (gTup K' 2 (gCons (gName i) (gCons (gName j) gNil))) := by
  subst hK
  exact pg_tup hc (pgs_cons (pg_name hN hi (.inl lx) (.inr lx)) (pgs_cons (pg_name hN hj (.inl ly) (.inr ly)) pgs_nil))
end L2
set_option Elab.async false
set_option linter.all false
set_option maxRecDepth 100000
set_option maxHeartbeats 4000000
/-! EXTENSION 13a: elements laid anew into an empty table. -/
namespace L2
open PySem
theorem len_sub {α : Type} [DecidableEq α] : ∀ {a b : List α}, a.Nodup → (∀ x ∈ a, x ∈ b) → a.length ≤ b.length
  | [], _, _, _ => Nat.zero_le _
  | x :: a, b, nd, h => by
    rw [List.nodup_cons] at nd
    have hx := h x List.mem_cons_self
    have ih := len_sub (a := a) (b := b.erase x) nd.2 fun y hy => (List.mem_erase_of_ne fun z => nd.1 (by rw [← z]; exact hy)).mpr (h y (List.mem_cons_of_mem _ hy))
    rw [List.length_erase_of_mem hx] at ih
    have : 0 < b.length := List.length_pos_of_mem hx
    rw [List.length_cons]
    omega
/-- what a laying makes of the slots: js, one behind the other -/
structure Lay (js : List Nat) (k0 : Nat) (owner o' : Array (Option Nat)) : Prop where
  size : o'.size = owner.size
  nd : js.Nodup
  own : ∀ i (hi : i < js.length), o'[js[i]]? = some (some (k0 + i))
  rest : ∀ j, j ∉ js → o'[j]? = owner[j]?
  free : ∀ j ∈ js, owner[j]? = some none
abbrev layStep (mask : Nat) (acc : Option (Array (Option Nat) × Nat)) (h : Int) : Option (Array (Option Nat) × Nat) :=
  acc.bind fun p => (SetTable.layClean.free mask p.1 (SetTable.turns mask) (SetTable.bits h % (mask + 1)) (SetTable.bits h)).bind fun j => some (p.1.setIfInBounds j (some p.2), p.2 + 1)
theorem Lay.nil {k0 : Nat} {owner : Array (Option Nat)} : Lay [] k0 owner owner := ⟨rfl, List.nodup_nil, fun i hi => absurd hi (Nat.not_lt_zero _), fun _ _ => rfl, fun _ h => nomatch h⟩
theorem Lay.cons {j k0 : Nat} {js : List Nat} {owner o' : Array (Option Nat)} (hj : owner[j]? = some none) (L : Lay js (k0 + 1) (owner.setIfInBounds j (some k0)) o') : Lay (j :: js) k0 owner o' := by
  have hlt : j < owner.size := (Array.getElem?_eq_some_iff.mp hj).1
  have hn : j ∉ js := fun z => by
    have := L.free j z
    rw [Array.getElem?_setIfInBounds_self, if_pos hlt] at this
    cases this
  refine ⟨by rw [L.size, Array.size_setIfInBounds], List.nodup_cons.mpr ⟨hn, L.nd⟩, fun i hi => ?_, fun k hk => ?_, fun k hk => ?_⟩
  · cases i with
    | zero =>
      show o'[j]? = some (some (k0 + 0))
      rw [L.rest j hn, Array.getElem?_setIfInBounds_self, if_pos hlt]
      rfl
    | succ i =>
      have := L.own i (by simpa using hi)
      show o'[js[i]'(by simpa using hi)]? = _
      rw [this]
      congr 2
      omega
  · rw [List.mem_cons, not_or] at hk
    rw [L.rest k hk.2, Array.getElem?_setIfInBounds_ne (Ne.symm hk.1)]
  · rcases List.mem_cons.mp hk with rfl | hk
    · exact hj
    · have := L.free k hk
      have hne : j ≠ k := fun z => hn (z ▸ hk)
      rwa [Array.getElem?_setIfInBounds_ne hne] at this
theorem layStep_of {mask j k0 : Nat} {owner : Array (Option Nat)} {h : Int} (hf : SetTable.layClean.free mask owner (SetTable.turns mask) (SetTable.bits h % (mask + 1)) (SetTable.bits h) = some j) : layStep mask (some (owner, k0)) h = some (owner.setIfInBounds j (some k0), k0 + 1) := by
  unfold layStep
  rw [Option.bind_some]
  show (SetTable.layClean.free mask owner _ _ _).bind _ = _
  rw [hf]
  rfl
/-- the table of a laying -/
theorem laid_of {mask finger moves : Nat} {led plain : Bool} {hs : Array Int} {js : List Nat} {o' : Array (Option Nat)} (e1 : hs.toList.foldl (layStep mask) (some (Array.replicate (mask + 1) none, 0)) = some (o', 0 + hs.toList.length)) (L : Lay js 0 (Array.replicate (mask + 1) none) o') (hl : js.length = hs.size) :
    ∃ t o, SetTable.laid mask finger moves led plain hs = some (t, o) ∧ t.mask = mask ∧ t.led = led ∧ t.place.size = o.size ∧ o.toList.Perm (List.range hs.size) := by
  have hlc : SetTable.layClean mask hs = some o' := by
    unfold SetTable.layClean
    rw [← Array.foldl_toList]
    exact congrArg (Option.map Prod.fst) e1
  unfold SetTable.laid
  rw [hlc]
  refine ⟨_, _, rfl, rfl, rfl, by simp, ?_⟩
  show (((List.range (mask + 1)).filterMap fun j => (o'.getD j none).map (j, ·)).map (·.2)).toArray.toList.Perm _
  rw [List.toList_toArray]
  have own : ∀ j k, o'.getD j none = some k ↔ ∃ hk : k < js.length, js[k] = j := by
    intro j k
    constructor
    · intro h
      by_cases hj : j ∈ js
      · obtain ⟨i, hi, rfl⟩ := List.getElem_of_mem hj
        have := L.own i hi
        rw [Array.getD_eq_getD_getElem?, this] at h
        simp only [Option.getD_some, Option.some.injEq, Nat.zero_add] at h
        subst h
        exact ⟨hi, rfl⟩
      · have := L.rest j hj
        rw [Array.getD_eq_getD_getElem?, this] at h
        by_cases hj2 : j < mask + 1
        · simp [hj2] at h
        · simp [hj2] at h
    · rintro ⟨hk, rfl⟩
      have := L.own k hk
      rw [Array.getD_eq_getD_getElem?, this]
      simp
  refine (List.perm_ext_iff_of_nodup ?_ List.nodup_range).mpr fun k => ?_
  · unfold List.Nodup
    rw [List.map_filterMap, List.pairwise_filterMap]
    have : (List.range (mask + 1)).Pairwise (· < ·) := List.pairwise_lt_range
    refine this.imp_of_mem ?_
    intro a b _ _ hab x hx y hy z
    cases ha : o'.getD a none with
    | none => rw [ha] at hx; simp at hx
    | some k =>
      cases hb' : o'.getD b none with
      | none => rw [hb'] at hy; simp at hy
      | some k' =>
        rw [ha] at hx
        rw [hb'] at hy
        simp only [Option.map_some, Option.some.injEq] at hx hy
        subst hx hy
        subst z
        obtain ⟨_, q1⟩ := (own a k).mp ha
        obtain ⟨_, q2⟩ := (own b k).mp hb'
        omega
  · rw [List.mem_map, List.mem_range]
    constructor
    · rintro ⟨⟨j, k'⟩, hm, rfl⟩
      obtain ⟨j', _, e⟩ := List.mem_filterMap.mp hm
      cases ho : o'.getD j' none with
      | none => rw [ho] at e; simp at e
      | some k =>
        rw [ho] at e
        simp only [Option.map_some, Option.some.injEq, Prod.mk.injEq] at e
        obtain ⟨_, rfl⟩ := e
        have := ((own j' _).mp ho).1
        omega
    · intro hk
      have hk' : k < js.length := by omega
      refine ⟨(js[k], k), List.mem_filterMap.mpr ⟨js[k], ?_, ?_⟩, rfl⟩
      · have := L.free js[k] (List.getElem_mem hk')
        have := (Array.getElem?_eq_some_iff.mp this).1
        exact List.mem_range.mpr (by simpa using this)
      · rw [(own _ k).mpr ⟨hk', rfl⟩]
        rfl
end L2
set_option Elab.async false
set_option linter.all false
set_option maxRecDepth 100000
set_option maxHeartbeats 4000000
/-! EXTENSION 13b: a copy of a small set of ints. -/
namespace L2
open PySem PyProof.Rows
theorem setRelay_eq (a : Addr) (wanted : Nat) : setRelay a wanted = (do
    let (es, _, t) ← setState a
    if SetTable.sizeAbove wanted > sizeLine then unsupported "set:memory"
    let (es, t) ← (do
      let some (t, order) := t.relaid (es.map (·.1)) wanted | unsupported "internal:set-table-without-room"
      let es' := order.filterMap (es[·]?)
      if es'.size != es.size then unsupported "internal:set-table-lost-an-element"
      pure (es', t))
    storeSet a es t) := rfl
theorem setMerge_eq (s o : Addr) : setMerge s o = (do
    if s == o then return
    let (eo, epoch, to) ← setState o
    if eo.isEmpty then return
    setRoomFor s eo.size
    let (_, _, ts) ← setState s
    match ts.road to with
    | .slotForSlot => storeSet s eo { to with finger := ts.finger, led := ts.led && to.led, moves := ts.moves, plain := ts.plain && to.plain }
    | .clean =>
      let (es, t) ← (do
        let some (t, order) := SetTable.laid ts.mask ts.finger ts.moves (led := ts.led && to.led) (plain := ts.plain && to.plain) (eo.map (·.1)) | unsupported "internal:set-table-without-room"
        let es' := order.filterMap (eo[·]?)
        if es'.size != eo.size then unsupported "internal:set-table-lost-an-element"
        pure (es', t))
      storeSet s es t
    | .oneByOne =>
      for (h, x) in ← setWalkUnseen o [s] (some s) do
        let _ ← holding [x] (setAddHashed s x h)
        (pure () : Sem Unit)
        if (← setState o).2.1 != epoch then unsupported "set.changed-during-merge") := rfl
/-- a laying that hands over each index once keeps the entries -/
theorem order_perm {es : Array (Int × Value)} {o : Array Nat} (h : o.toList.Perm (List.range es.size)) : (o.filterMap (es[·]?)).toList.Perm es.toList := by
  rw [Array.toList_filterMap]
  have := h.filterMap fun i => es[i]?
  rwa [filterMap_getElem?_range] at this
section
variable {prog : Program} {w : World} {A : Around} {E : Value → Shared → Prop} {s : Shared}
end
end L2
set_option Elab.async false
set_option linter.all false
set_option maxRecDepth 100000
set_option maxHeartbeats 4000000
/-! EXTENSION 13c: what one set has and another has not; how many. -/
namespace L2
open PySem PySem.Spec PyProof.Rows
section
variable {prog : Program} {w : World} {A : Around} {E : Value → Shared → Prop} {s : Shared}
theorem erase_perm2 {α : Type} (xs : Array α) (i : Nat) : (SetTable.eraseAt xs i).toList = xs.toList.eraseIdx i := by
  unfold SetTable.eraseAt
  rw [List.eraseIdx_eq_take_drop_succ]
  simp only [Array.toList_append, Array.toList_extract, List.extract_eq_take_drop, Nat.sub_zero, List.drop_zero]
  congr 1
  exact List.take_of_length_le (by rw [List.length_drop]; simp)
end
section
variable {X : Cx}
theorem entry_set_sub : entryFor table "set.__sub__" = some Builtin.«frozenset.__sub__» :=
  entryFor_alias (id' := "frozenset.__sub__") (by kernel_rfl) rfl (by decide +kernel) (by kernel_rfl)
/-- f(e, ..), f in the slot i: whichever def stands there -/
def tCallV (P : Program) (w : World) (K : PySem.W.Frag) (mg : Str → Option Value) (base : Heap) (A : Around) (i : Nat) (t : TA) : TE := fun σ H Q => ∃ (f : Addr) (fd : FuncData) (k : Nat) (ps : List Str) (sp : Sp), σ[i]? = some (some (.ref f)) ∧ FnOk P w K mg base CX0 k f fd ps sp ∧ Room k A ∧ PySem.W.keepIn K (.ref f) = true ∧ Binds K fd ps [] ∧ t σ H fun vs H1 => sp (vs ++ []) H1 Q E0
theorem pe_callV {i : Nat} {x : Str} {p pos : Pos} {e : Expr} {es : List Expr} {t : TA} (hx : Passes CX0 X E0) (hv : PE X (.Name x p) (tVar i)) (ha : PA X (e :: es) t) (he : starEach (e :: es) X.env = (false, eval e X.env) :: starEach es X.env := by rfl) (hpl : (backTo pos (starEach es X.env)).any (·.1) = false := by rfl) :
    PE X (.Call (.Name x p) (e :: es) [] pos) (tCallV X.prog X.w X.K X.mg X.base X.A i t) := by
  intro pins s σ H Q I h
  obtain ⟨f, fd, k, ps, sp, e1, F, hr, hk, hb, h⟩ := h
  refine wpAny_Call_Name_kw (thn (hv pins s σ H (fun v H' => v = .ref f ∧ t σ H' fun vs H1 => sp (vs ++ []) H1 Q E0) I ⟨_, e1, rfl, h⟩) fun u s1 ⟨v, H1, I1, r1, ev, h1⟩ => ?_)
  subst ev
  cases r1
  refine PySem.W.callWith_K (h₀ := X.base) I.ok.mod.kin hk (thn (ha pos pins s1 σ H1 _ I1 h1) fun us s2 ⟨vs, H2, I2, r, q⟩ => ⟨I2.kIn, ?_⟩) he hpl
  exact run_fn F hr hb .nil hx I2 r q
end
end L2
set_option Elab.async false
set_option linter.all false
set_option maxRecDepth 100000
set_option maxHeartbeats 4000000
/-! EXTENSION 14: pairs of ints: ==, != of two, in a list of them. -/
namespace L2
open PySem PySem.Spec PyProof.Rows
/-- a pair of ints stands at v -/
def IsP (H : Hp) (q : Nat × Nat) (v : V) : Prop := ∃ t : Addr, v = .ref t ∧ H t = some (.tup [.int (q.1 : Int), .int (q.2 : Int)])
theorem IsP.mono {H H' : Hp} (t : Tups H H') {q : Nat × Nat} {v : V} (h : IsP H q v) : IsP H' q v := let ⟨a, e, h⟩ := h; ⟨a, e, t _ _ h⟩
theorem IsP.inj {H : Hp} {q q' : Nat × Nat} {v : V} (h : IsP H q v) (h' : IsP H q' v) : q = q' := by
  obtain ⟨t, rfl, e⟩ := h
  obtain ⟨t', e2, e'⟩ := h'
  cases e2
  rw [e] at e'
  injection e' with z
  injection z with z
  injection z with z1 z
  injection z with z2 _
  injection z1 with z1
  injection z2 with z2
  exact Prod.ext (by omega) (by omega)
def PL (H : Hp) : List V → List (Nat × Nat) → Prop := Paired fun v q => IsP H q v
theorem PL.mono {H H' : Hp} (t : Tups H H') {xs : List V} {qs : List (Nat × Nat)} (h : PL H xs qs) : PL H' xs qs := Paired.imp' (fun _ _ q => IsP.mono t q) h
theorem PL.len {H : Hp} {xs : List V} {qs : List (Nat × Nat)} (h : PL H xs qs) : xs.length = qs.length := Paired.length h
theorem PL.app {H : Hp} : ∀ {xs ys : List V} {ks ls : List (Nat × Nat)}, PL H xs ks → PL H ys ls → PL H (xs ++ ys) (ks ++ ls)
  | _, _, _, _, .nil, s => s
  | _, _, _, _, .cons r t, s => .cons r (PL.app t s)
theorem PL.get {H : Hp} : ∀ {xs : List V} {ks : List (Nat × Nat)} {i : Nat} {v : V}, PL H xs ks → xs[i]? = some v → ∃ k, ks[i]? = some k ∧ IsP H k v
  | _, _, _, _, .nil, e => by simp at e
  | _, _, 0, _, .cons r _, e => by simp at e; subst e; exact ⟨_, rfl, r⟩
  | _, _, i + 1, v, .cons _ t, e => by
    obtain ⟨u, h1, h2⟩ := PL.get (i := i) (v := v) t (by simpa using e)
    exact ⟨u, by simpa using h1, h2⟩
theorem PL.any {H : Hp} {k : Nat × Nat} {e : Value → Bool} : ∀ {xs : List V} {ks : List (Nat × Nat)} {us : List Value}, PL H xs ks → Vals xs us → (∀ x k' u, RelV x u → IsP H k' x → e u = decide (k' = k)) → us.any e = decide (k ∈ ks)
  | _, _, _, .nil, .nil, _ => by simp
  | _, k1 :: _, _, .cons r t, .cons ru tu, h => by
    rw [List.any_cons, h _ _ _ ru r, PL.any t tu h]
    by_cases c : k1 = k
    · subst c; simp
    · have c' : ¬ k = k1 := fun z => c z.symm
      simp [c, c']
/-- the data of a list of pairs -/
theorem das_pl {H : Hp} : ∀ {qs : List (Nat × Nat)} {xs : List V}, Das H (qs.map pairD) xs → PL H xs qs
  | [], _, h => by
    have e : _ = [] := h
    subst e
    exact .nil
  | q :: qs, _, ⟨y, r, e0, h, h2⟩ => by
    subst e0
    obtain ⟨p, ys, e1, h3, y1, s1, e2, h4, y2, s2, e3, h5, h6⟩ := (show ∃ p xs, y = .ref p ∧ H p = some (.tup xs) ∧ Das H [.int (q.1 : Int), .int (q.2 : Int)] xs from h)
    have e4 : y1 = .int (q.1 : Int) := h4
    have e5 : y2 = .int (q.2 : Int) := h5
    have e6 : s2 = [] := h6
    subst e3 e2 e4 e5 e6
    exact .cons ⟨p, e1, h3⟩ (das_pl h2)
theorem pl_das {H : Hp} : ∀ {qs : List (Nat × Nat)} {xs : List V}, PL H xs qs → Das H (qs.map pairD) xs
  | [], _, .nil => rfl
  | q :: qs, v :: xs, .cons ⟨t, e, h⟩ r => ⟨v, xs, rfl, (show ∃ (p : Addr) (ys : List V), v = V.ref p ∧ H p = some (.tup ys) ∧ Das H [.int (q.1 : Int), .int (q.2 : Int)] ys from ⟨t, _, e, h, ⟨_, _, rfl, rfl, _, _, rfl, rfl, rfl⟩⟩), pl_das r⟩
section
variable {X : Cx} {pins : List (Addr × Obj)} {σ : St} {H : Hp} {s : Shared}
theorem intAt (A : Around) (s : Shared) {a b : Int} {u v : Value} (hu : RelV (.int a) u) (hv : RelV (.int b) v) : SeqAt.EqAt A s u v (a == b) := by
  obtain ⟨t, rfl⟩ := hu
  obtain ⟨t', rfl⟩ := hv
  exact SeqAt.EqAt.int_int _ _ _ _
theorem tup2_at {p : Addr} {x y : V} (I : Inv X pins σ H s) (hp : H p = some (.tup [x, y])) : ∃ u0 u1, s.heap.IsTuple p #[u0, u1] ∧ RelV x u0 ∧ RelV y u1 := by
  obtain ⟨_, its, r, t⟩ := (show ObjOk X.prog X.w H s.heap p _ from I.hok p _ hp)
  cases r with
  | cons r1 r =>
    cases r with
    | cons r2 r =>
      cases r
      exact ⟨_, _, t, r1, r2⟩
theorem all2 {u0 u1 v0 v1 : Value} {b0 b1 : Bool} : ((List.range (min (#[u0, u1] : Array Value).size (#[v0, v1] : Array Value).size)).all (fun j => if j = 0 then b0 else b1) && (#[u0, u1] : Array Value).size == (#[v0, v1] : Array Value).size) = (b0 && b1) := by
  cases b0 <;> cases b1 <;> rfl
theorem pair_dec (q q' : Nat × Nat) : (((q.1 : Int) == (q'.1 : Int)) && ((q.2 : Int) == (q'.2 : Int))) = decide (q = q') := by
  rw [Bool.eq_iff_iff, Bool.and_eq_true, beq_iff_eq, beq_iff_eq, decide_eq_true_eq]
  constructor
  · rintro ⟨a, b⟩
    exact Prod.ext (by omega) (by omega)
  · rintro rfl
    exact ⟨rfl, rfl⟩
theorem rcP {A : Around} (I : Inv X pins σ H s) {q q' : Nat × Nat} {x y : V} {u v : Value} (hx : IsP H q x) (hy : IsP H q' y) (ru : RelV x u) (rv : RelV y v) (hl : A.units < cLine) :
    SeqAt.RcAt A s u v (decide (q = q')) ∧ SeqAt.RcNeAt A s u v (!decide (q = q')) := by
  obtain ⟨p, rfl, hp⟩ := hx
  obtain ⟨p', rfl, hp'⟩ := hy
  cases ru
  cases rv
  obtain ⟨u0, u1, t1, a0, a1⟩ := tup2_at I hp
  obtain ⟨v0, v1, t2, c0, c1⟩ := tup2_at I hp'
  have he : ∀ j (g1 : j < (#[u0, u1] : Array Value).size) (g2 : j < (#[v0, v1] : Array Value).size), SeqAt.EqAt A.in1 s (#[u0, u1] : Array Value)[j] (#[v0, v1] : Array Value)[j] ((fun j => if j = 0 then ((q.1 : Int) == (q'.1 : Int)) else ((q.2 : Int) == (q'.2 : Int))) j) := fun j g1 g2 => by
    have g : j < 2 := g1
    match j, g with
    | 0, _ => exact intAt A.in1 s a0 c0
    | 1, _ => exact intAt A.in1 s a1 c1
  have q1 := SeqAt.RcAt.tuples (A := A) t1 t2 hl he
  have q2 := SeqAt.RcNeAt.tuples (A := A) t1 t2 hl he
  rw [all2, pair_dec] at q1
  rw [all2, pair_dec] at q2
  exact ⟨q1, q2⟩
theorem eqP {A : Around} (I : Inv X pins σ H s) {q q' : Nat × Nat} {x y : V} {u v : Value} (hx : IsP H q x) (hy : IsP H q' y) (ru : RelV x u) (rv : RelV y v) (hl : A.units < cLine) : SeqAt.EqAt A s u v (decide (q = q')) := by
  have r := (rcP I hx hy ru rv hl).1
  obtain ⟨p, rfl, hp⟩ := hx
  obtain ⟨p', rfl, hp'⟩ := hy
  cases ru
  cases rv
  by_cases z : p = p'
  · subst z
    rw [decide_eq_true (IsP.inj (H := H) ⟨p, rfl, hp⟩ ⟨p, rfl, hp'⟩)]
    exact SeqAt.EqAt.same _
  · exact SeqAt.EqAt.of_refs z r
end
section
variable {X : Cx}
theorem op_inH (hu : X.A.units + 1 < cLine) : OpR X (compareOp .In) (fun x y H Q => ∃ a o, y = .ref a ∧ DGet H a x o ∧ Q (.bl o.isSome) H) := by
  intro pins s σ H x y v u Q I rx ry h
  obtain ⟨a, o, rfl, g, q⟩ := h
  cases ry
  exact d_in hu I g rx fun s' I' => ⟨.bl o.isSome, H, I', rfl, q⟩
theorem op_notInH (hu : X.A.units + 1 < cLine) : OpR X (compareOp .NotIn) (fun x y H Q => ∃ a o, y = .ref a ∧ DGet H a x o ∧ Q (.bl (!o.isSome)) H) := by
  intro pins s σ H x y v u Q I rx ry h
  obtain ⟨a, o, rfl, g, q⟩ := h
  cases ry
  exact d_notIn hu I g rx fun s' I' => ⟨.bl (!o.isSome), H, I', rfl, q⟩
def rNeP : R2 := fun x y H Q => ∃ q q' : Nat × Nat, IsP H q x ∧ IsP H q' y ∧ Q (.bl (!decide (q = q'))) H
theorem op_neP (hu : X.A.units + 64 < cLine) : OpR X (compareOp .NotEq) rNeP := by
  intro pins s σ H x y v u Q I rx ry h
  obtain ⟨k, k', h1, h2, q⟩ := h
  exact (rcP I h1 h2 rx ry (by omega)).2 _ _ _ _ ⟨.bl _, H, I, rfl, q⟩
/-- x in xs, pairs -/
def rInP : R2 := fun x y H Q => ∃ (p : Addr) (k : Nat × Nat) (xs : List V) (ks : List (Nat × Nat)), y = .ref p ∧ H p = some (.lst xs) ∧ IsP H k x ∧ PL H xs ks ∧ Q (.bl (decide (k ∈ ks))) H
theorem op_inP (hu : X.A.units + 64 < cLine) : OpR X (compareOp .In) rInP := by
  intro pins s σ H x y v u Q I rx ry h
  obtain ⟨p, k, xs, ks, rfl, hp, hk, hL, q⟩ := h
  cases ry
  obtain ⟨its, rv, pl, hz⟩ := I.list (SqL.of hp)
  classical
  let e : Value → Bool := fun u => decide (∃ x', RelV x' u ∧ IsP H k x')
  have he : ∀ x' k' u, RelV x' u → IsP H k' x' → e u = decide (k' = k) := fun x' k' u r i => by
    show decide (∃ x', RelV x' u ∧ IsP H k x') = _
    by_cases c : k' = k
    · subst c
      rw [decide_eq_true ⟨x', r, i⟩, decide_eq_true rfl]
    · rw [decide_eq_false c, decide_eq_false]
      rintro ⟨x2, r2, i2⟩
      rw [RelV.inj r2 r] at i2
      exact c (IsP.inj i i2)
  refine SeqAt.in_listAt (items := its.toArray) e pl.isList (fun y hy => ?_) ?_
  · have hy' : y ∈ its := by simpa using hy
    obtain ⟨i, hi, ei⟩ := List.mem_iff_getElem.mp hy'
    have hx : ∃ x', xs[i]? = some x' := by
      have := rv.length
      exact ⟨xs[i]'(by omega), List.getElem?_eq_getElem (by omega)⟩
    obtain ⟨x', hx'⟩ := hx
    obtain ⟨u', hu', ru'⟩ := rv.get hx'
    rw [List.getElem?_eq_getElem hi, ei] at hu'
    cases hu'
    obtain ⟨k', hk', ik'⟩ := hL.get hx'
    rw [he x' k' y ru' ik']
    exact eqP I ik' hk ru' rx (by rw [in1_units]; omega)
  · have ea : its.toArray.any e = decide (k ∈ ks) := by
      rw [← PL.any hL rv he]
      simp
    rw [ea]
    exact ⟨.bl (decide (k ∈ ks)), H, I, rfl, q⟩
end
end L2
set_option Elab.async false
set_option linter.all false
set_option maxRecDepth 100000
set_option maxHeartbeats 4000000
/-! EXTENSION 15a: the way of a search through a set's table: it comes to every slot. -/
namespace L2
open PySem
/-! ### x to 5x + 1, by a power of two: every number comes -/
def gg : Nat → Nat
  | 0 => 0
  | n + 1 => 5 * gg n + 1
theorem gg_pow : ∀ n, 4 * gg n + 1 = 5 ^ n
  | 0 => rfl
  | n + 1 => by
    have := gg_pow n
    rw [Nat.pow_succ, gg]
    omega
def lc (m i : Nat) : Nat → Nat
  | 0 => i
  | n + 1 => (lc m i n * 5 + 1) % m
theorem lc_eq {m i : Nat} (hi : i < m) : ∀ n, lc m i n = (5 ^ n * i + gg n) % m
  | 0 => by simp [lc, gg, Nat.mod_eq_of_lt hi]
  | n + 1 => by
    rw [lc, lc_eq hi n, Nat.add_mod, Nat.mul_mod, Nat.mod_mod, ← Nat.mul_mod, ← Nat.add_mod, Nat.pow_succ, gg]
    congr 1
    have : 5 ^ n * 5 * i = 5 ^ n * i * 5 := by rw [Nat.mul_assoc, Nat.mul_comm 5 i, ← Nat.mul_assoc]
    omega
theorem gg_add (a d : Nat) : gg (a + d) = 5 ^ a * gg d + gg a := by
  induction a with
  | zero => simp [gg]
  | succ a ih =>
    rw [show a + 1 + d = (a + d) + 1 by omega, gg, ih, gg, Nat.pow_succ]
    have : 5 ^ a * 5 * gg d = 5 * (5 ^ a * gg d) := by rw [Nat.mul_comm (5 ^ a) 5, Nat.mul_assoc]
    omega
theorem odd_dvd : ∀ (k a b : Nat), a % 2 = 1 → 2 ^ k ∣ a * b → 2 ^ k ∣ b
  | 0, _, _, _, _ => ⟨_, (Nat.one_mul _).symm⟩
  | k + 1, a, b, ha, h => by
    have h2 : (a * b) % 2 = 0 := Nat.mod_eq_zero_of_dvd (Nat.dvd_trans ⟨2 ^ k, by rw [Nat.pow_succ, Nat.mul_comm]⟩ h)
    have hb : b % 2 = 0 := by
      rw [Nat.mul_mod, ha, Nat.one_mul, Nat.mod_mod] at h2
      exact h2
    obtain ⟨c, rfl⟩ : ∃ c, b = 2 * c := ⟨b / 2, by omega⟩
    have h3 : 2 ^ k ∣ a * c := by
      obtain ⟨d, hd⟩ := h
      refine ⟨d, ?_⟩
      rw [Nat.pow_succ] at hd
      have e1 : a * (2 * c) = 2 * (a * c) := by rw [Nat.mul_left_comm]
      have e2 : 2 ^ k * 2 * d = 2 * (2 ^ k * d) := by rw [Nat.mul_comm (2 ^ k) 2, Nat.mul_assoc]
      omega
    obtain ⟨d, hd⟩ := odd_dvd k a c ha h3
    exact ⟨d, by rw [hd, Nat.pow_succ, Nat.mul_comm (2 ^ k) 2, Nat.mul_assoc]⟩
theorem pow5_odd : ∀ n, 5 ^ n % 2 = 1
  | 0 => rfl
  | n + 1 => by rw [Nat.pow_succ, Nat.mul_mod, pow5_odd n]
theorem pow_check : ∀ d, d < 512 → d ≠ 0 → ((5 ^ d - 1) / 4) % 512 ≠ 0 := by decide +kernel
theorem chk3 : ∀ d, d < 8 → d ≠ 0 → ((5 ^ d - 1) / 4) % 8 ≠ 0 := by decide +kernel
theorem chk4 : ∀ d, d < 16 → d ≠ 0 → ((5 ^ d - 1) / 4) % 16 ≠ 0 := by decide +kernel
theorem chk5 : ∀ d, d < 32 → d ≠ 0 → ((5 ^ d - 1) / 4) % 32 ≠ 0 := by decide +kernel
theorem chk6 : ∀ d, d < 64 → d ≠ 0 → ((5 ^ d - 1) / 4) % 64 ≠ 0 := by decide +kernel
theorem chk7 : ∀ d, d < 128 → d ≠ 0 → ((5 ^ d - 1) / 4) % 128 ≠ 0 := by decide +kernel
theorem chk8 : ∀ d, d < 256 → d ≠ 0 → ((5 ^ d - 1) / 4) % 256 ≠ 0 := by decide +kernel
/-- the sizes of tables that stand here -/
def Pw (m : Nat) : Prop := ∃ k, 3 ≤ k ∧ k ≤ 9 ∧ m = 2 ^ k
theorem gg_ne {k d : Nat} (h3 : 3 ≤ k) (h9 : k ≤ 9) (hd : d < 2 ^ k) (h0 : d ≠ 0) : gg d % 2 ^ k ≠ 0 := by
  have e : gg d = (5 ^ d - 1) / 4 := by have := gg_pow d; omega
  rw [e]
  obtain rfl | rfl | rfl | rfl | rfl | rfl | rfl : k = 3 ∨ k = 4 ∨ k = 5 ∨ k = 6 ∨ k = 7 ∨ k = 8 ∨ k = 9 := by omega
  · exact chk3 d hd h0
  · exact chk4 d hd h0
  · exact chk5 d hd h0
  · exact chk6 d hd h0
  · exact chk7 d hd h0
  · exact chk8 d hd h0
  · exact pow_check d hd h0
theorem lc_inj {k i a d : Nat} (h3 : 3 ≤ k) (h9 : k ≤ 9) (hi : i < 2 ^ k) (hd : d < 2 ^ k) (h0 : d ≠ 0) : lc (2 ^ k) i a ≠ lc (2 ^ k) i (a + d) := fun h => by
  rw [lc_eq hi, lc_eq hi] at h
  have e : 5 ^ (a + d) * i + gg (a + d) = 5 ^ a * (gg d * (4 * i + 1)) + (5 ^ a * i + gg a) := by
    rw [gg_add, Nat.pow_add, ← gg_pow d]
    rw [Nat.mul_assoc, Nat.add_mul, Nat.one_mul, Nat.mul_add, Nat.mul_add, Nat.mul_add, Nat.mul_one]
    have : 4 * gg d * i = gg d * (4 * i) := by rw [Nat.mul_comm 4 (gg d), Nat.mul_assoc]
    rw [this]
    omega
  have z := Nat.sub_mod_eq_zero_of_mod_eq h.symm
  rw [e, Nat.add_sub_cancel] at z
  have z2 := odd_dvd k _ _ (pow5_odd a) (Nat.dvd_of_mod_eq_zero z)
  rw [Nat.mul_comm] at z2
  have z3 := odd_dvd k _ _ (by omega) z2
  exact gg_ne h3 h9 hd h0 (Nat.mod_eq_zero_of_dvd z3)
theorem lc_lt {m i : Nat} (hi : i < m) : ∀ n, lc m i n < m
  | 0 => hi
  | n + 1 => Nat.mod_lt _ (by omega)
theorem lc_cover {m i j : Nat} (hm : Pw m) (hi : i < m) (hj : j < m) : ∃ n, n < m ∧ lc m i n = j := by
  obtain ⟨k, h3, h9, rfl⟩ := hm
  apply Classical.byContradiction
  intro hno
  have nd : ((List.range (2 ^ k)).map (lc (2 ^ k) i)).Nodup := by
    refine List.pairwise_map.mpr ((List.pairwise_lt_range (n := 2 ^ k)).imp_of_mem fun {a b} ha hb hab => ?_)
    have := lc_inj (a := a) (d := b - a) h3 h9 hi (by have := List.mem_range.mp hb; omega) (by omega)
    rwa [show a + (b - a) = b by omega] at this
  have hn : j ∉ (List.range (2 ^ k)).map (lc (2 ^ k) i) := fun z => by
    obtain ⟨n, h1, h2⟩ := List.mem_map.mp z
    exact hno ⟨n, List.mem_range.mp h1, h2⟩
  have := len_sub (a := j :: (List.range (2 ^ k)).map (lc (2 ^ k) i)) (b := List.range (2 ^ k)) (List.nodup_cons.mpr ⟨hn, nd⟩) fun x hx => by
    rcases List.mem_cons.mp hx with rfl | hx
    · exact List.mem_range.mpr hj
    · obtain ⟨n, _, rfl⟩ := List.mem_map.mp hx
      exact List.mem_range.mpr (lc_lt hi n)
  simp at this
  omega
/-! ### the way -/
def T0 (mask : Nat) : SetTable := { mask, place := #[], dummies := #[], finger := 0, led := true, moves := 0, plain := true }
theorem adv_mask (t : SetTable) (p : SetTable.Probe) : t.advance p = (T0 t.mask).advance p := rfl
def path (mask : Nat) (h : Int) : Nat → SetTable.Probe
  | 0 => (T0 mask).probeStart h
  | n + 1 => (T0 mask).advance (path mask h n)
/-- where the runs begin, and the rest of the hash -/
def lp (mask : Nat) (h : Int) : Nat → Nat × Nat
  | 0 => (SetTable.bits h % (mask + 1), SetTable.bits h)
  | k + 1 => SetTable.leap mask (lp mask h k).1 (lp mask h k).2
abbrev rn (mask i : Nat) : Nat := SetTable.runEnd mask i - i
def at' (mask : Nat) (h : Int) : Nat → Nat
  | 0 => 0
  | k + 1 => at' mask h k + rn mask (lp mask h k).1 + 1
theorem rn_le (mask i : Nat) : rn mask i ≤ 9 := by
  unfold rn SetTable.runEnd
  split <;> omega
theorem at_le (mask : Nat) (h : Int) : ∀ k, at' mask h k ≤ 10 * k
  | 0 => Nat.le_refl _
  | k + 1 => by
    have := at_le mask h k
    have := rn_le mask (lp mask h k).1
    rw [at']
    omega
theorem path_run {mask : Nat} {h : Int} {k : Nat} (h0 : path mask h (at' mask h k) = { j := (lp mask h k).1, more := rn mask (lp mask h k).1, i := (lp mask h k).1, perturb := (lp mask h k).2, dummy := none }) : ∀ r, r ≤ rn mask (lp mask h k).1 →
    path mask h (at' mask h k + r) = { j := (lp mask h k).1 + r, more := rn mask (lp mask h k).1 - r, i := (lp mask h k).1, perturb := (lp mask h k).2, dummy := none }
  | 0, _ => h0
  | r + 1, hr => by
    show (T0 mask).advance (path mask h (at' mask h k + r)) = _
    rw [path_run h0 r (by omega)]
    unfold SetTable.advance
    rw [if_pos (by show rn mask (lp mask h k).1 - r > 0; omega)]
    rfl
theorem path_at (mask : Nat) (h : Int) : ∀ k, path mask h (at' mask h k) = { j := (lp mask h k).1, more := rn mask (lp mask h k).1, i := (lp mask h k).1, perturb := (lp mask h k).2, dummy := none }
  | 0 => rfl
  | k + 1 => by
    show (T0 mask).advance (path mask h (at' mask h k + rn mask (lp mask h k).1)) = _
    rw [path_run (path_at mask h k) _ (Nat.le_refl _)]
    unfold SetTable.advance
    rw [if_neg (by show ¬ rn mask (lp mask h k).1 - rn mask (lp mask h k).1 > 0; omega)]
    rfl
theorem path_j {mask : Nat} {h : Int} {k r : Nat} (hr : r ≤ rn mask (lp mask h k).1) : (path mask h (at' mask h k + r)).j = (lp mask h k).1 + r := by rw [path_run (path_at mask h k) r hr]
theorem lp_pt (mask : Nat) (h : Int) : ∀ k, (lp mask h k).2 = SetTable.bits h / 32 ^ k
  | 0 => by simp [lp]
  | k + 1 => by
    show (lp mask h k).2 / 32 = _
    rw [lp_pt mask h k, Nat.div_div_eq_div_mul, Nat.pow_succ]
theorem bits_lt (h : Int) : SetTable.bits h < 2 ^ 64 := by
  unfold SetTable.bits
  have h1 := Int.emod_nonneg h (show (2 ^ 64 : Int) ≠ 0 by decide)
  have h2 := Int.emod_lt_of_pos h (show (0 : Int) < 2 ^ 64 by decide)
  omega
theorem lp_pt0 (mask : Nat) (h : Int) {k : Nat} (hk : 13 ≤ k) : (lp mask h k).2 = 0 := by
  rw [lp_pt]
  refine Nat.div_eq_of_lt (Nat.lt_of_lt_of_le (bits_lt h) (Nat.le_trans (show 2 ^ 64 ≤ 32 ^ 13 by decide) (Nat.pow_le_pow_right (by decide) hk)))
theorem lp_lt (mask : Nat) (h : Int) : ∀ k, (lp mask h k).1 < mask + 1
  | 0 => Nat.mod_lt _ (by omega)
  | k + 1 => Nat.mod_lt _ (by omega)
theorem lp_lc (mask : Nat) (h : Int) : ∀ n, (lp mask h (13 + n)).1 = lc (mask + 1) (lp mask h 13).1 n
  | 0 => rfl
  | n + 1 => by
    show ((lp mask h (13 + n)).1 * 5 + 1 + (lp mask h (13 + n)).2 / 32) % (mask + 1) = _
    rw [lp_pt0 mask h (by omega), lp_lc mask h n]
    rfl
/-- the runs come to every slot -/
theorem lp_cover {mask : Nat} (hm : Pw (mask + 1)) (h : Int) {j : Nat} (hj : j < mask + 1) : ∃ k, k < mask + 15 ∧ (lp mask h k).1 = j := by
  obtain ⟨n, hn, e⟩ := lc_cover hm (lp_lt mask h 13) hj
  exact ⟨13 + n, by omega, by rw [lp_lc, e]⟩
theorem path_cover {mask : Nat} (hm : Pw (mask + 1)) (h : Int) {j : Nat} (hj : j < mask + 1) : ∃ n, n < 10 * SetTable.turns mask ∧ (path mask h n).j = j := by
  obtain ⟨k, hk, e⟩ := lp_cover hm h hj
  refine ⟨at' mask h k, ?_, by rw [path_at, e]⟩
  have := at_le mask h k
  unfold SetTable.turns
  omega
theorem least {p : Nat → Prop} : ∀ {b : Nat}, (∃ n, n < b ∧ p n) → ∃ n, n < b ∧ p n ∧ ∀ m, m < n → ¬ p m := by
  intro b
  induction b with
  | zero => rintro ⟨n, h, _⟩; exact absurd h (Nat.not_lt_zero _)
  | succ b ih =>
    rintro ⟨n, h, hp⟩
    by_cases hb : ∃ n, n < b ∧ p n
    · obtain ⟨n, h1, h2, h3⟩ := ih hb
      exact ⟨n, by omega, h2, h3⟩
    · refine ⟨n, h, hp, fun m hm z => hb ⟨m, by omega, z⟩⟩
end L2
set_option Elab.async false
set_option linter.all false
set_option maxRecDepth 100000
set_option maxHeartbeats 4000000
/-! EXTENSION 15b: tables in which every entry is come to before a free slot. -/
namespace L2
open PySem
def Full (t : SetTable) (j : Nat) : Prop := (∃ i : Nat, t.place[i]? = some j) ∨ (∃ i : Nat, t.dummies[i]? = some j)
def Reach (mask : Nat) (full : Nat → Prop) (h : Int) (j : Nat) : Prop := ∃ n, (path mask h n).j = j ∧ ∀ m, m < n → full (path mask h m).j
theorem Reach.mono {mask : Nat} {f g : Nat → Prop} {h : Int} {j : Nat} (hfg : ∀ j, f j → g j) (r : Reach mask f h j) : Reach mask g h j :=
  let ⟨n, e, q⟩ := r
  ⟨n, e, fun m hm => hfg _ (q m hm)⟩
theorem below_eq {xs : Array Nat} (hr : Rise xs) {i j : Nat} (h : xs[i]? = some j) : SetTable.below xs j = i := by
  have c := below_cut hr j
  rcases Nat.lt_trichotomy i (SetTable.below xs j) with z | z | z
  · have := c.lo' h z; omega
  · exact z.symm
  · obtain ⟨h1, e1⟩ := Array.getElem?_eq_some_iff.mp h
    have hp : SetTable.below xs j < xs.size := by omega
    have h2 := hr.get (show xs[SetTable.below xs j]? = some xs[SetTable.below xs j] by simp [hp]) h z
    have := c.hi _ hp (Nat.le_refl _)
    omega
theorem has_iff {xs : Array Nat} (hr : Rise xs) {j : Nat} : SetTable.has xs j = true ↔ ∃ i : Nat, xs[i]? = some j := by
  unfold SetTable.has
  constructor
  · intro h; exact ⟨_, eq_of_beq h⟩
  · rintro ⟨i, h⟩
    rw [below_eq hr h, h]
    exact beq_self_eq_true _
theorem slot_live {t : SetTable} (hr : Rise t.place) {i j : Nat} : t.slot j = .live i ↔ t.place[i]? = some j := by
  unfold SetTable.slot
  dsimp only
  constructor
  · intro h
    split at h
    · rename_i e
      injection h with h
      rw [← h]
      exact eq_of_beq e
    · split at h <;> cases h
  · intro h
    rw [below_eq hr h, if_pos (by rw [h]; exact beq_self_eq_true _)]
theorem slot_free {t : SetTable} (hr : Rise t.place) (hd : Rise t.dummies) {j : Nat} : t.slot j = .empty ↔ ¬ Full t j := by
  unfold SetTable.slot Full
  dsimp only
  constructor
  · intro h
    split at h
    · cases h
    · rename_i e
      split at h
      · cases h
      · rename_i e2
        rintro (⟨i, z⟩ | z)
        · exact e (by rw [below_eq hr z, z]; exact beq_self_eq_true _)
        · exact e2 ((has_iff hd).mpr z)
  · intro h
    rw [if_neg (fun z => h (.inl ⟨_, eq_of_beq z⟩)), if_neg (fun z => h (.inr ((has_iff hd).mp z)))]
structure Good (t : SetTable) (es : Array (Int × Value)) : Prop where
  pw : Pw (t.mask + 1)
  rise : Rise t.place
  drise : Rise t.dummies
  size : t.place.size = es.size
  fill : t.fill ≤ t.mask
  apart : ∀ (i i' j : Nat), t.place[i]? = some j → t.dummies[i']? ≠ some j
  reach : ∀ (i : Nat) h x j, es[i]? = some (h, x) → t.place[i]? = some j → Reach t.mask (Full t) h j
theorem Good.gap {t : SetTable} {es : Array (Int × Value)} (g : Good t es) : ∃ j, j < t.mask + 1 ∧ ¬ Full t j := by
  apply Classical.byContradiction
  intro hno
  have := len_sub (a := List.range (t.mask + 1)) (b := t.place.toList ++ t.dummies.toList) List.nodup_range fun x hx => by
    have hf : Full t x := Classical.byContradiction fun z => hno ⟨x, List.mem_range.mp hx, z⟩
    rw [List.mem_append]
    rcases hf with ⟨i, h⟩ | ⟨i, h⟩
    · exact .inl (Array.mem_toList_iff.mpr (Array.mem_of_getElem? h))
    · exact .inr (Array.mem_toList_iff.mpr (Array.mem_of_getElem? h))
  have h2 := g.fill
  unfold SetTable.fill at h2
  simp at this
  omega
theorem Good.first {t : SetTable} {es : Array (Int × Value)} (g : Good t es) (h : Int) : ∃ N, N < 10 * SetTable.turns t.mask ∧ ¬ Full t (path t.mask h N).j ∧ ∀ m, m < N → Full t (path t.mask h m).j := by
  obtain ⟨j, hj, hf⟩ := g.gap
  obtain ⟨n, hn, e⟩ := path_cover g.pw h hj
  obtain ⟨N, h1, h2, h3⟩ := least (p := fun n => ¬ Full t (path t.mask h n).j) ⟨n, hn, by rw [e]; exact hf⟩
  exact ⟨N, h1, h2, fun m hm => Classical.byContradiction fun z => h3 m hm z⟩
theorem Good.before {t : SetTable} {es : Array (Int × Value)} (g : Good t es) {i : Nat} {h : Int} {x : Value} {j N : Nat} (he : es[i]? = some (h, x)) (hp : t.place[i]? = some j) (hN : ¬ Full t (path t.mask h N).j) : ∃ n, n < N ∧ (path t.mask h n).j = j := by
  obtain ⟨n, e, q⟩ := g.reach i h x j he hp
  refine ⟨n, ?_, e⟩
  rcases Nat.lt_trichotomy n N with z | z | z
  · exact z
  · subst z
    exact absurd (.inl ⟨i, by rw [e]; exact hp⟩) hN
  · exact absurd (q N z) hN
theorem adv_dummy (t : SetTable) (p : SetTable.Probe) (d : Option Nat) : t.advance { p with dummy := d } = { t.advance p with dummy := d } := by
  unfold SetTable.advance
  dsimp only
  split <;> rfl
theorem probe_out {t : SetTable} {f : Nat → Int} {h : Int} {N : Nat} (hr : Rise t.place) (hd : Rise t.dummies) (hN : ¬ Full t (path t.mask h N).j) (hlt : ∀ m, m < N → Full t (path t.mask h m).j) : ∀ (fuel n : Nat) (d : Option Nat), n ≤ N → N - n < fuel →
    (∃ m i d', n ≤ m ∧ m < N ∧ (t.dummies = #[] → d' = d) ∧ t.slot (path t.mask h m).j = .live i ∧ f i = h ∧ (∀ k, n ≤ k → k < m → ∀ i, t.slot (path t.mask h k).j = .live i → f i ≠ h) ∧ SetTable.probe.go t f h fuel { path t.mask h n with dummy := d } = some (.candidate (path t.mask h m).j i { path t.mask h (m + 1) with dummy := d' })) ∨
    (∃ d', (t.dummies = #[] → d' = d) ∧ (∀ k, n ≤ k → k < N → ∀ i, t.slot (path t.mask h k).j = .live i → f i ≠ h) ∧ SetTable.probe.go t f h fuel { path t.mask h n with dummy := d } = some (.empty (path t.mask h N).j d'))
  | 0, n, d, _, hf => absurd hf (Nat.not_lt_zero _)
  | fuel + 1, n, d, hn, hf => by
    have step : ∀ d0, (t.dummies = #[] → d0 = d) → (n < N) → (∀ i, t.slot (path t.mask h n).j = .live i → f i ≠ h) → SetTable.probe.go t f h (fuel + 1) { path t.mask h n with dummy := d } = SetTable.probe.go t f h fuel { path t.mask h (n + 1) with dummy := d0 } →
        ((∃ m i d', n ≤ m ∧ m < N ∧ (t.dummies = #[] → d' = d) ∧ t.slot (path t.mask h m).j = .live i ∧ f i = h ∧ (∀ k, n ≤ k → k < m → ∀ i, t.slot (path t.mask h k).j = .live i → f i ≠ h) ∧ SetTable.probe.go t f h (fuel + 1) { path t.mask h n with dummy := d } = some (.candidate (path t.mask h m).j i { path t.mask h (m + 1) with dummy := d' })) ∨
        (∃ d', (t.dummies = #[] → d' = d) ∧ (∀ k, n ≤ k → k < N → ∀ i, t.slot (path t.mask h k).j = .live i → f i ≠ h) ∧ SetTable.probe.go t f h (fuel + 1) { path t.mask h n with dummy := d } = some (.empty (path t.mask h N).j d'))) := fun d0 hd0 hlt' hno e => by
      have add : ∀ b, (∀ k, n + 1 ≤ k → k < b → ∀ i, t.slot (path t.mask h k).j = .live i → f i ≠ h) → ∀ k, n ≤ k → k < b → ∀ i, t.slot (path t.mask h k).j = .live i → f i ≠ h := fun b q k hk hb i hi => by
        by_cases z : k = n
        · subst z; exact hno i hi
        · exact q k (by omega) hb i hi
      rcases probe_out hr hd hN hlt fuel (n + 1) d0 (by omega) (by omega) with ⟨m, i, d2, a1, a2, a0, a3, a4, a5, a6⟩ | ⟨d2, a0, a1, a2⟩
      · exact .inl ⟨m, i, d2, by omega, a2, fun z => (a0 z).trans (hd0 z), a3, a4, add m a5, by rw [e]; exact a6⟩
      · exact .inr ⟨d2, fun z => (a0 z).trans (hd0 z), add N a1, by rw [e]; exact a2⟩
    cases hs : t.slot (path t.mask h n).j with
    | empty =>
      have e : n = N := by
        rcases Nat.lt_or_ge n N with z | z
        · exact absurd (hlt n z) ((slot_free hr hd).mp hs)
        · omega
      subst e
      refine .inr ⟨d, fun _ => rfl, fun k h1 h2 => by omega, ?_⟩
      unfold SetTable.probe.go
      rw [hs]
    | dummy =>
      have hl : n < N := by
        rcases Nat.lt_or_ge n N with z | z
        · exact z
        · have : n = N := by omega
          subst this
          rw [(slot_free hr hd).mpr hN] at hs
          cases hs
      refine step (some (path t.mask h n).j) (fun z => absurd hs (slot_empty z)) hl (fun i hi => by rw [hs] at hi; cases hi) ?_
      conv => lhs; unfold SetTable.probe.go
      rw [hs]
      show SetTable.probe.go t f h fuel (t.advance { path t.mask h n with dummy := some (path t.mask h n).j }) = _
      rw [adv_dummy]
      rfl
    | live i =>
      have hl : n < N := by
        rcases Nat.lt_or_ge n N with z | z
        · exact z
        · have : n = N := by omega
          subst this
          rw [(slot_free hr hd).mpr hN] at hs
          cases hs
      by_cases hc : f i = h
      · refine .inl ⟨n, i, d, Nat.le_refl _, hl, fun _ => rfl, hs, hc, fun k h1 h2 => by omega, ?_⟩
        unfold SetTable.probe.go
        rw [hs]
        show (if (f i == h) = true then _ else _) = _
        rw [if_pos (by rw [hc]; exact beq_self_eq_true _), adv_dummy]
        rfl
      · refine step d (fun _ => rfl) hl (fun i' hi => by rw [hs] at hi; injection hi with hi; rw [← hi]; exact hc) ?_
        conv => lhs; unfold SetTable.probe.go
        rw [hs]
        show (if (f i == h) = true then _ else _) = _
        rw [if_neg (fun z => hc (eq_of_beq z)), adv_dummy]
        rfl
/-! ### a new entry -/
theorem none_dummies {t : SetTable} (hd : t.dummies = #[]) (i : Nat) : t.dummies[i]? = none := by rw [hd]; rfl
theorem put_dummies {t : SetTable} (hd : t.dummies = #[]) (j : Nat) : (t.put j).1.dummies = #[] := by
  unfold SetTable.put
  dsimp only
  rw [hd]
  simp [SetTable.has, SetTable.below, SetTable.below.go]
theorem Good.put {t : SetTable} {es : Array (Int × Value)} (g : Good t es) (hd : t.dummies = #[]) {h : Int} {x : Value} {N : Nat} (hN : ¬ Full t (path t.mask h N).j) (hlt : ∀ m, m < N → Full t (path t.mask h m).j) (room : t.fill + 1 ≤ t.mask) :
    Good (t.put (path t.mask h N).j).1 (SetTable.insertAt es (t.put (path t.mask h N).j).2 (h, x)) := by
  have hd2 := put_dummies hd (path t.mask h N).j
  generalize hj : (path t.mask h N).j = j at *
  have c := below_cut g.rise j
  have ep : (t.put j).1.place = SetTable.insertAt t.place (SetTable.below t.place j) j := rfl
  have e2 : (t.put j).2 = SetTable.below t.place j := rfl
  have em : (t.put j).1.mask = t.mask := rfl
  have hcp := c.le
  have full : ∀ k, Full t k → Full (t.put j).1 k := by
    rintro k (⟨i, hi⟩ | ⟨i, hi⟩)
    · refine .inl ?_
      rw [ep]
      by_cases hip : i < SetTable.below t.place j
      · exact ⟨i, by rw [ins_at _ _ _ hcp, if_pos hip]; exact hi⟩
      · exact ⟨i + 1, by rw [ins_at _ _ _ hcp, if_neg (by omega), if_neg (by omega)]; exact hi⟩
    · rw [none_dummies hd] at hi; cases hi
  refine ⟨g.pw, ?_, ?_, ?_, ?_, fun i i' j' _ z => (by rw [none_dummies hd2] at z; cases z), ?_⟩
  · rw [ep]
    exact rise_insert g.rise c fun z => hN (.inl ⟨_, z⟩)
  · rw [hd2]; exact fun i j hi => by simp at hi
  · rw [ep, e2, ins_size _ _ _ hcp, ins_size _ _ _ (by rw [← g.size]; exact hcp), g.size]
  · have h1 := room
    unfold SetTable.fill at h1 ⊢
    rw [hd2, ep, ins_size _ _ _ hcp, em]
    rw [hd] at h1
    simp at h1 ⊢
    omega
  · intro i h' x' j' he hp
    rw [ep, ins_at _ _ _ hcp] at hp
    rw [e2, ins_at _ _ _ (by rw [← g.size]; exact hcp)] at he
    rw [em]
    by_cases h1 : i < SetTable.below t.place j
    · rw [if_pos h1] at hp he
      exact (g.reach i h' x' j' he hp).mono full
    · rw [if_neg h1] at hp he
      by_cases h2 : i = SetTable.below t.place j
      · rw [if_pos h2] at hp he
        injection hp with hp
        injection he with he
        injection he with z1 z2
        subst hp z1
        exact ⟨N, hj, fun m hm => full _ (hlt m hm)⟩
      · rw [if_neg h2] at hp he
        exact (g.reach _ h' x' j' he hp).mono full
end L2
set_option Elab.async false
set_option linter.all false
set_option maxRecDepth 100000
set_option maxHeartbeats 4000000
/-! EXTENSION 15c: a clean laying, and an entry taken out. -/
namespace L2
open PySem
theorem at_split (mask : Nat) (h : Int) : ∀ m, ∃ k r, r ≤ rn mask (lp mask h k).1 ∧ m = at' mask h k + r
  | 0 => ⟨0, 0, Nat.zero_le _, rfl⟩
  | m + 1 => by
    obtain ⟨k, r, h1, rfl⟩ := at_split mask h m
    by_cases z : r < rn mask (lp mask h k).1
    · exact ⟨k, r + 1, z, rfl⟩
    · refine ⟨k + 1, 0, Nat.zero_le _, ?_⟩
      rw [at']
      omega
theorem path_lt (mask : Nat) (h : Int) (m : Nat) : (path mask h m).j < mask + 1 := by
  obtain ⟨k, r, h1, rfl⟩ := at_split mask h m
  rw [path_j h1]
  have := lp_lt mask h k
  unfold rn SetTable.runEnd at h1
  split at h1 <;> omega
theorem free_path {mask : Nat} {h : Int} {owner : Array (Option Nat)} : ∀ (fuel k : Nat), (∃ k', k ≤ k' ∧ k' < k + fuel ∧ owner[(lp mask h k').1]? = some none) →
    ∃ n, at' mask h k ≤ n ∧ owner[(path mask h n).j]? = some none ∧ (∀ m, at' mask h k ≤ m → m < n → owner[(path mask h m).j]? ≠ some none) ∧ SetTable.layClean.free mask owner fuel (lp mask h k).1 (lp mask h k).2 = some (path mask h n).j
  | 0, k, ⟨k', h1, h2, _⟩ => by omega
  | fuel + 1, k, ⟨k', h1, h2, h3⟩ => by
    have isn : ∀ j, (owner.getD j (some 0)).isNone = true ↔ owner[j]? = some none := fun j => by
      rw [Array.getD_eq_getD_getElem?]
      cases hj : owner[j]? with
      | none => simp
      | some v => cases v <;> simp
    have hlen : SetTable.runEnd mask (lp mask h k).1 + 1 - (lp mask h k).1 = rn mask (lp mask h k).1 + 1 := by
      unfold rn SetTable.runEnd
      split <;> omega
    unfold SetTable.layClean.free
    rw [hlen]
    cases hf : (List.range (rn mask (lp mask h k).1 + 1)).find? (fun r => (owner.getD ((lp mask h k).1 + r) (some 0)).isNone) with
    | some r =>
      rw [List.find?_range_eq_some] at hf
      obtain ⟨p1, p2, p3⟩ := hf
      have hr : r ≤ rn mask (lp mask h k).1 := by have := List.mem_range.mp p2; omega
      refine ⟨at' mask h k + r, Nat.le_add_right _ _, by rw [path_j hr]; exact (isn _).mp p1, fun m m1 m2 => ?_, by rw [path_j hr]⟩
      obtain ⟨r', rfl⟩ : ∃ r', m = at' mask h k + r' := ⟨m - at' mask h k, by omega⟩
      rw [path_j (by omega)]
      intro z
      have := p3 r' (by omega)
      rw [(isn _).mpr z] at this
      cases this
    | none =>
      rw [List.find?_eq_none] at hf
      have hno : ∀ r, r ≤ rn mask (lp mask h k).1 → owner[(lp mask h k).1 + r]? ≠ some none := fun r hr z => hf r (List.mem_range.mpr (by omega)) ((isn _).mpr z)
      have hk : k' ≠ k := fun z => by
        subst z
        exact hno 0 (Nat.zero_le _) h3
      obtain ⟨n, q1, q2, q3, q4⟩ := free_path fuel (k + 1) ⟨k', by omega, by omega, h3⟩
      refine ⟨n, ?_, q2, fun m m1 m2 => ?_, q4⟩
      · rw [at'] at q1; omega
      · by_cases z : at' mask h (k + 1) ≤ m
        · exact q3 m z m2
        · rw [at'] at z
          obtain ⟨r, rfl⟩ : ∃ r, m = at' mask h k + r := ⟨m - at' mask h k, by omega⟩
          rw [path_j (by omega)]
          exact hno r (by omega)
/-- how many slots are taken -/
def occN (owner : Array (Option Nat)) : List Nat := (List.range owner.size).filter fun j => (owner.getD j none).isSome
theorem occN_set {owner : Array (Option Nat)} {j k : Nat} : (occN (owner.setIfInBounds j (some k))).length ≤ (occN owner).length + 1 := by
  have nd : (occN (owner.setIfInBounds j (some k))).Nodup := List.Pairwise.filter _ List.nodup_range
  have := len_sub (b := j :: occN owner) nd fun x hx => by
    unfold occN at hx
    obtain ⟨h1, h2⟩ := List.mem_filter.mp hx
    rw [Array.size_setIfInBounds] at h1
    by_cases e : x = j
    · rw [e]; exact List.mem_cons_self
    · refine List.mem_cons_of_mem _ (List.mem_filter.mpr ⟨h1, ?_⟩)
      rw [Array.getD_eq_getD_getElem?, Array.getElem?_setIfInBounds_ne (Ne.symm e)] at h2
      rw [Array.getD_eq_getD_getElem?]
      exact h2
  simpa using this
theorem occN_free {owner : Array (Option Nat)} (h : (occN owner).length < owner.size) : ∃ j, j < owner.size ∧ owner[j]? = some none := by
  apply Classical.byContradiction
  intro hno
  have := len_sub (a := List.range owner.size) (b := occN owner) List.nodup_range fun x hx => by
    refine List.mem_filter.mpr ⟨hx, ?_⟩
    have hx' := List.mem_range.mp hx
    rw [Array.getD_eq_getD_getElem?]
    cases e : owner[x]? with
    | none => rw [Array.getElem?_eq_none_iff] at e; omega
    | some v =>
      cases v with
      | none => exact absurd ⟨x, hx', e⟩ hno
      | some v => rfl
  simp at this
  omega
theorem Lay.taken {js : List Nat} {k0 : Nat} {owner o' : Array (Option Nat)} (L : Lay js k0 owner o') {j : Nat} (h : owner[j]? ≠ some none) : o'[j]? ≠ some none := by
  by_cases hj : j ∈ js
  · exact absurd (L.free j hj) h
  · rw [L.rest j hj]; exact h
theorem fold_reach {mask : Nat} (hm : Pw (mask + 1)) : ∀ (hs : List Int) (k0 : Nat) (owner : Array (Option Nat)), owner.size = mask + 1 → (occN owner).length + hs.length ≤ mask →
    ∃ o' js, hs.foldl (layStep mask) (some (owner, k0)) = some (o', k0 + hs.length) ∧ Lay js k0 owner o' ∧ js.length = hs.length ∧ ∀ (i : Nat) h j, hs[i]? = some h → js[i]? = some j → Reach mask (fun j => o'[j]? ≠ some none) h j
  | [], k0, owner, _, _ => ⟨owner, [], rfl, Lay.nil, rfl, fun i h j z => by simp at z⟩
  | h :: hs, k0, owner, hsz, ho => by
    obtain ⟨j0, hj0, hf0⟩ := occN_free (owner := owner) (by rw [hsz]; simp at ho; omega)
    obtain ⟨k, hk, ek⟩ := lp_cover hm h (j := j0) (by omega)
    obtain ⟨n, _, q2, q3, q4⟩ := free_path (mask := mask) (h := h) (owner := owner) (SetTable.turns mask) 0 ⟨k, Nat.zero_le _, by unfold SetTable.turns; omega, by rw [ek]; exact hf0⟩
    have q4' : SetTable.layClean.free mask owner (SetTable.turns mask) (SetTable.bits h % (mask + 1)) (SetTable.bits h) = some (path mask h n).j := q4
    obtain ⟨o', js, e1, L, e2, r⟩ := fold_reach hm hs (k0 + 1) (owner.setIfInBounds (path mask h n).j (some k0)) (by rw [Array.size_setIfInBounds]; exact hsz) (by
      have := occN_set (owner := owner) (j := (path mask h n).j) (k := k0)
      simp only [List.length_cons] at ho
      omega)
    have L' := Lay.cons q2 L
    refine ⟨o', (path mask h n).j :: js, ?_, L', by simp [e2], ?_⟩
    · rw [List.foldl_cons, layStep_of q4', e1]
      simp only [List.length_cons]
      congr 2
      omega
    · intro i h' j' hi hj
      cases i with
      | zero =>
        simp only [List.getElem?_cons_zero, Option.some.injEq] at hi hj
        subst hi hj
        exact ⟨n, rfl, fun m hm' => L'.taken (q3 m (Nat.zero_le _) hm')⟩
      | succ i =>
        simp only [List.getElem?_cons_succ] at hi hj
        exact r i h' j' hi hj
theorem filterMap_at {α : Type} {es : Array α} : ∀ {l : List Nat} (i : Nat), (∀ k ∈ l, k < es.size) → (l.filterMap (es[·]?))[i]? = l[i]?.bind (es[·]?)
  | [], i, _ => by simp
  | k :: l, i, h => by
    have hk := h k List.mem_cons_self
    rw [List.filterMap_cons_some (b := es[k]) (by simp [hk])]
    cases i with
    | zero => simp [hk]
    | succ i =>
      rw [List.getElem?_cons_succ, List.getElem?_cons_succ]
      exact filterMap_at i fun k' hk' => h k' (List.mem_cons_of_mem _ hk')
theorem laid_good {mask finger moves : Nat} {led plain : Bool} (hm : Pw (mask + 1)) {es : Array (Int × Value)} (hl : es.size ≤ mask) :
    ∃ t o, SetTable.laid mask finger moves led plain (es.map (·.1)) = some (t, o) ∧ t.mask = mask ∧ t.led = led ∧ t.plain = plain ∧ t.dummies = #[] ∧ (o.filterMap (es[·]?)).toList.Perm es.toList ∧ Good t (o.filterMap (es[·]?)) := by
  have hs0 : (occN (Array.replicate (mask + 1) none)).length = 0 := by
    unfold occN
    rw [List.length_eq_zero_iff, List.filter_eq_nil_iff]
    intro a ha
    rw [Array.getD_eq_getD_getElem?]
    cases e : (Array.replicate (mask + 1) (none : Option Nat))[a]? with
    | none => simp
    | some v =>
      rw [Array.getElem?_replicate] at e
      split at e
      · injection e with e; subst e; simp
      · cases e
  obtain ⟨o', js, e1, L, e2, r⟩ := fold_reach hm (es.map (·.1)).toList 0 (Array.replicate (mask + 1) none) (by simp) (by rw [hs0]; simp; omega)
  have ejs : js.length = es.size := by rw [e2]; simp
  have hlc : SetTable.layClean mask (es.map (·.1)) = some o' := by
    unfold SetTable.layClean
    rw [← Array.foldl_toList]
    exact congrArg (Option.map Prod.fst) e1
  have own : ∀ j k, o'.getD j none = some k ↔ js[k]? = some j := by
    intro j k
    constructor
    · intro h
      by_cases hj : j ∈ js
      · obtain ⟨i, hi, rfl⟩ := List.getElem_of_mem hj
        have := L.own i hi
        rw [Array.getD_eq_getD_getElem?, this] at h
        simp only [Option.getD_some, Option.some.injEq, Nat.zero_add] at h
        subst h
        simp [hi]
      · have := L.rest j hj
        rw [Array.getD_eq_getD_getElem?, this] at h
        by_cases hj2 : j < mask + 1
        · simp [hj2] at h
        · simp [hj2] at h
    · intro h
      obtain ⟨hk, rfl⟩ := List.getElem?_eq_some_iff.mp h
      have := L.own k hk
      rw [Array.getD_eq_getD_getElem?, this]
      simp
  obtain ⟨t0, o0, f1, f2, f3, f4, f5⟩ := laid_of (mask := mask) (finger := finger) (moves := moves) (led := led) (plain := plain) (hs := es.map (·.1)) (js := js) (o' := o') (by rw [e1]) L (by rw [ejs]; simp)
  unfold SetTable.laid at f1 ⊢
  rw [hlc] at f1 ⊢
  have f1' : (SetTable.mk mask (((List.range (mask + 1)).filterMap fun j => (o'.getD j none).map (j, ·)).map (·.1)).toArray #[] finger led moves plain, (((List.range (mask + 1)).filterMap fun j => (o'.getD j none).map (j, ·)).map (·.2)).toArray) = (t0, o0) := by injection f1
  refine ⟨_, _, rfl, rfl, rfl, rfl, rfl, ?_, ?_⟩
  all_goals
    have eo : (((List.range (mask + 1)).filterMap fun j => (o'.getD j none).map (j, ·)).map (·.2)).toArray = o0 := congrArg Prod.snd f1'
  · show (Array.filterMap (es[·]?) (((List.range (mask + 1)).filterMap fun j => (o'.getD j none).map (j, ·)).map (·.2)).toArray).toList.Perm es.toList
    rw [eo]
    exact order_perm (by simpa using f5)
  · have hperm : (Array.filterMap (es[·]?) (((List.range (mask + 1)).filterMap fun j => (o'.getD j none).map (j, ·)).map (·.2)).toArray).toList.Perm es.toList := by
      rw [eo]
      exact order_perm (by simpa using f5)
    have ft : (((List.range (mask + 1)).filterMap fun j => (o'.getD j none).map (j, ·)).map (·.1)).toArray.size = o0.size := by rw [← eo]; simp
    have o0s : o0.size = es.size := by
      have := f5.length_eq
      simpa using this
    have ess : (Array.filterMap (es[·]?) (((List.range (mask + 1)).filterMap fun j => (o'.getD j none).map (j, ·)).map (·.2)).toArray).size = es.size := by
      have := hperm.length_eq
      simpa using this
    refine ⟨hm, rise_toArray (filterMap_rise _ _), fun i j hi => by simp at hi, ?_, ?_, fun i i' j _ z => by simp at z, ?_⟩
    · show (((List.range (mask + 1)).filterMap fun j => (o'.getD j none).map (j, ·)).map (·.1)).toArray.size = _
      rw [ess, ft, o0s]
    · show (((List.range (mask + 1)).filterMap fun j => (o'.getD j none).map (j, ·)).map (·.1)).toArray.size + 0 ≤ mask
      rw [ft, o0s]
      exact hl
    · intro i h x j he hp
      have hp' : ((((List.range (mask + 1)).filterMap fun j => (o'.getD j none).map (j, ·)).map (·.1)))[i]? = some j := by simpa using hp
      rw [List.getElem?_map] at hp'
      obtain ⟨⟨j', k⟩, hlv, ej⟩ := Option.map_eq_some_iff.mp hp'
      have ej' : j' = j := ej
      subst ej'
      have hmem := List.mem_of_getElem? hlv
      obtain ⟨j2, hj2, e3⟩ := List.mem_filterMap.mp hmem
      obtain ⟨k2, e4, e5⟩ := Option.map_eq_some_iff.mp e3
      have e6 : j2 = j' := congrArg Prod.fst e5
      have e7 : k2 = k := congrArg Prod.snd e5
      subst e6 e7
      have hjk := (own j2 k2).mp e4
      have he' : (((((List.range (mask + 1)).filterMap fun j => (o'.getD j none).map (j, ·)).map (·.2))).filterMap (es[·]?))[i]? = some (h, x) := by
        have z : (Array.filterMap (es[·]?) (((List.range (mask + 1)).filterMap fun j => (o'.getD j none).map (j, ·)).map (·.2)).toArray).toList[i]? = some (h, x) := by
          rw [Array.getElem?_toList]; exact he
        rwa [Array.toList_filterMap] at z
      rw [filterMap_at i (fun k hk => by
        have hk' : k ∈ o0.toList := by rw [← eo]; exact hk
        have := List.mem_range.mp ((f5.mem_iff).mp hk')
        simpa using this), List.getElem?_map, hlv] at he'
      have he2 : es[k2]? = some (h, x) := he'
      have rr := r k2 h j2 (by rw [Array.toList_map, List.getElem?_map, Array.getElem?_toList, he2]; rfl) hjk
      obtain ⟨n, a1, a2⟩ := rr
      refine ⟨n, a1, fun m hm' => ?_⟩
      have a3 := a2 m hm'
      have lt := path_lt mask h m
      cases ov : o'[(path mask h m).j]? with
      | none =>
        rw [Array.getElem?_eq_none_iff, L.size] at ov
        simp at ov
        omega
      | some v =>
        cases v with
        | none => exact absurd ov a3
        | some k3 =>
          refine .inl ?_
          have hm3 : ((path mask h m).j, k3) ∈ (List.range (mask + 1)).filterMap fun j => (o'.getD j none).map (j, ·) := List.mem_filterMap.mpr ⟨_, List.mem_range.mpr lt, by rw [Array.getD_eq_getD_getElem?, ov]; rfl⟩
          obtain ⟨i3, h3, e8⟩ := List.getElem_of_mem hm3
          refine ⟨i3, ?_⟩
          show (((List.range (mask + 1)).filterMap fun j => (o'.getD j none).map (j, ·)).map (·.1)).toArray[i3]? = _
          simp only [List.getElem?_toArray, List.getElem?_map]
          rw [List.getElem?_eq_getElem h3, e8]
          rfl
end L2
set_option Elab.async false
set_option linter.all false
set_option maxRecDepth 100000
set_option maxHeartbeats 4000000
/-! EXTENSION 15d: sets of pairs of numbers: the search. -/
namespace L2
open PySem PySem.Spec PyProof.Rows
abbrev keyP (q : Nat × Nat) : List Int := [(q.1 : Int), (q.2 : Int)]
theorem keyP_inj {q q' : Nat × Nat} (h : keyP q = keyP q') : q = q' := by
  injection h with h1 h2
  injection h2 with h2 _
  exact Prod.ext (by omega) (by omega)
section
variable {prog : Program} {w : World} {D : Addr → Prop} {A : Around} {E : Value → Shared → Prop} {s : Shared}
def hashP (prog : Program) (w : World) (q : Nat × Nat) : Int := tupleKeyHash (PySem.intKind prog w) (keyP q)
abbrev TupP (prog : Program) (w : World) (h : Heap) (q : Nat × Nat) (b : Addr) : Prop := IsTupleKey (PySem.intKind prog w) h (keyP q) b
def EntP (prog : Program) (w : World) (D : Addr → Prop) (h : Heap) (e : Int × Value) (q : Nat × Nat) : Prop := ∃ b, e.2 = .ref b ∧ TupP prog w h q b ∧ e.1 = hashP prog w q ∧ D b
structure SetPA (prog : Program) (w : World) (D : Addr → Prop) (h : Heap) (a : Addr) (es : Array (Int × Value)) (ep : Nat) (t : SetTable) (qs : List (Nat × Nat)) : Prop where
  obj : ∃ o, h.get? a = some o ∧ o.ExactSet ∧ o.data = .set es ep t
  ents : Paired (EntP prog w D h) es.toList qs
  nodup : qs.Nodup
  good : Good t es
  led : t.led = !w.params.followText "set-order"
  plain : t.plain = true
theorem SetPA.fits {h : Heap} {a : Addr} {es : Array (Int × Value)} {ep : Nat} {t : SetTable} {qs : List (Nat × Nat)} (S : SetPA prog w D h a es ep t qs) : t.fits es.size = true := by
  unfold SetTable.fits
  rw [S.good.size, beq_self_eq_true, Bool.true_and, decide_eq_true_eq]
  exact S.good.fill
theorem SetPA.len {h : Heap} {a : Addr} {es : Array (Int × Value)} {ep : Nat} {t : SetTable} {qs : List (Nat × Nat)} (S : SetPA prog w D h a es ep t qs) : es.size = qs.length := by
  have := Paired.length S.ents
  simpa using this
theorem Good.noWay {t : SetTable} {es : Array (Int × Value)} (g : Good t es) : t.gaveWay = false := by
  obtain ⟨k, h3, _, e⟩ := g.pw
  unfold SetTable.gaveWay
  have : 2 ^ k % 2 = 0 := by
    obtain ⟨k', rfl⟩ : ∃ k', k = k' + 1 := ⟨k - 1, by omega⟩
    rw [Nat.pow_succ]; omega
  have : t.mask % 2 = 1 := by omega
  rw [this]
  rfl
theorem Paired.at' {α β : Type} {R : α → β → Prop} : ∀ {l : List α} {k : List β} {i : Nat} {x : α}, Paired R l k → l[i]? = some x → ∃ y, k[i]? = some y ∧ R x y
  | _, _, 0, _, .cons (b := b) r _, h => ⟨b, rfl, by simp only [List.getElem?_cons_zero, Option.some.injEq] at h; exact h ▸ r⟩
  | _, _, i + 1, _, .cons _ t, h => by
    rw [List.getElem?_cons_succ] at h
    obtain ⟨y, h1, h2⟩ := Paired.at' t h
    exact ⟨y, by rw [List.getElem?_cons_succ]; exact h1, h2⟩
  | _, _, 0, _, .nil, h => by simp at h
  | _, _, i + 1, _, .nil, h => by simp at h
theorem Paired.at2 {α β : Type} {R : α → β → Prop} : ∀ {l : List α} {k : List β} {i : Nat} {y : β}, Paired R l k → k[i]? = some y → ∃ x, l[i]? = some x ∧ R x y
  | _, _, 0, _, .cons (a := a) r _, h => ⟨a, rfl, by simp only [List.getElem?_cons_zero, Option.some.injEq] at h; exact h ▸ r⟩
  | _, _, i + 1, _, .cons _ t, h => by
    rw [List.getElem?_cons_succ] at h
    obtain ⟨y, h1, h2⟩ := Paired.at2 t h
    exact ⟨y, by rw [List.getElem?_cons_succ]; exact h1, h2⟩
  | _, _, 0, _, .nil, h => by simp at h
  | _, _, i + 1, _, .nil, h => by simp at h
theorem ofClass_byValue (n : Nat) {v : Value} (h : carriedByValue v = true) : ofAClassStatement n v = pure false := by
  cases v with
  | ref a => simp [carriedByValue] at h
  | _ => first | rfl | simp [ofAClassStatement] | (unfold ofAClassStatement; rfl)
theorem ofClassP {c : Addr} {q : Nat × Nat} {Q : Bool → Shared → Prop} (hc : TupP prog w s.heap q c) (h : Q false s) : wpAny (model prog w) A (ofAClassStatement 8 (.ref c)) Q E s := by
  have hT := hc.typeIs
  obtain ⟨o, items, n, ho, _, hd, hi⟩ := hc
  unfold ofAClassStatement
  refine wpAny_bind (wpAny_typeOf hT ?_)
  dsimp only
  rw [if_pos (by decide)]
  refine wpAny_bind (wpAny_pure ?_)
  simp only [Bool.not_true, Bool.false_eq_true, if_false]
  refine wpAny_bind (wpAny_seqItems ho hd ?_)
  refine wpAny_bind ?_
  show wpAny _ _ (forIn items _ _) _ _ s
  rw [← Array.forIn_toList]
  refine wpAny_forIn_list _ (fun rest r s' => r.1 = none ∧ s' = s ∧ ∀ v ∈ rest, carriedByValue v = true) _ ?_ ?_ _ _ ⟨rfl, rfl, hi.byValue⟩
  · rintro v rest r s' ⟨hr, rfl, hall⟩
    rw [ofClass_byValue _ (hall v List.mem_cons_self)]
    refine wpAny_bind (wpAny_pure ?_)
    simp only [Bool.false_eq_true, if_false]
    exact wpAny_pure ⟨rfl, rfl, fun u hu' => hall u (List.mem_cons_of_mem _ hu')⟩
  · rintro ⟨r1, r2⟩ s' ⟨hr, rfl, _⟩
    simp only at hr
    subst hr
    exact wpAny_pure h
theorem couldP {b : Addr} {q : Nat × Nat} {l : List Value} {Q : Bool → Shared → Prop} (hb : TupP prog w s.heap q b) (hl : ∀ v ∈ l, ∃ c q', v = .ref c ∧ TupP prog w s.heap q' c) (h : Q false s) : wpAny (model prog w) A (searchCouldBeSeen (.ref b) l) Q E s := by
  unfold searchCouldBeSeen
  refine wpAny_bind ?_
  refine wpAny_forIn_list _ (fun rest r s' => r.1 = none ∧ s' = s ∧ ∀ v ∈ rest, ∃ c q', v = .ref c ∧ TupP prog w s.heap q' c) _ ?_ ?_ _ _ ⟨rfl, rfl, hl⟩
  · rintro v rest r s' ⟨hr, rfl, hall⟩
    obtain ⟨c, q', rfl, hc⟩ := hall v List.mem_cons_self
    have rest' : ∀ v ∈ rest, ∃ c q', v = Value.ref c ∧ TupP prog w s'.heap q' c := fun u hu' => hall u (List.mem_cons_of_mem _ hu')
    dsimp only
    split
    · exact wpAny_pure ⟨rfl, rfl, rest'⟩
    · refine wpAny_bind (wpAny_eqIsQuiet_tuple hb ?_)
      simp only [Bool.not_true, Bool.false_eq_true, if_false]
      refine wpAny_bind (wpAny_eqIsQuiet_tuple hc ?_)
      simp only [Bool.not_true, Bool.false_eq_true, if_false]
      refine wpAny_bind (ofClassP hb ?_)
      simp only [Bool.false_eq_true, if_false]
      refine wpAny_bind (ofClassP hc ?_)
      simp only [Bool.false_eq_true, if_false]
      exact wpAny_pure ⟨rfl, rfl, rest'⟩
  · rintro ⟨r1, r2⟩ s' ⟨hr, rfl, _⟩
    simp only at hr
    subst hr
    exact wpAny_pure h
theorem setSearchFrom_eq (a : Addr) (x : Value) (h : Int) (adding : Bool) (fuel : Nat) (stand : Option SetTable.Probe) : setSearchFrom a x h adding (fuel + 1) stand = (do
    let (es, _, t) ← setState a
    if t.gaveWay then unsupported "set:on-a-table-that-gave-way"
    let some met := t.probe (fun i => (es[i]?.map (·.1)).getD 0) h (stand.getD (t.probeStart h)) | unsupported "internal:set-table-without-an-empty-slot"
    match met with
    | .empty j dummy =>
      match dummy with
      | none => return .free j false
      | some d =>
        if adding && t.slot d != .dummy then rule "set.search.the-dummy-was-taken"; return ← setSearchFrom a x h adding fuel none
        return .free d true
    | .candidate j i next =>
      if !t.led then
        if ← searchCouldBeSeen x ((es.filter (·.1 == h)).toList.map (·.2)) then unsupported "set:the-search-would-show-the-table"
      let some (_, y) := es[i]? | unsupported "internal:set-entry"
      let equal ← holding [y] (eqBool y x)
      let (es', _, t') ← setState a
      if adding && equal then return .there none
      let some same := t'.sameMemory t.moves t.mask | unsupported "set.changed-during-lookup:is-the-new-block-at-the-old-address"
      let still ← match (if same then t'.slot j else .empty) with
        | .live i' => match es'[i']? with
          | some (_, y') => do pure (if ← isSame y' y then some i' else none)
          | none => pure none
        | _ => pure none
      match still with
      | none => rule "set.search.anew"; setSearchFrom a x h adding fuel none
      | some i' => if equal then return .there (some i') else setSearchFrom a x h adding fuel (some next)) := rfl
theorem searchFromP {a b : Addr} {es : Array (Int × Value)} {ep : Nat} {t : SetTable} {qs : List (Nat × Nat)} {q : Nat × Nat} {adding : Bool} {Q : SetFound → Shared → Prop} (hu : A.units < cLine) (S : SetPA prog w D s.heap a es ep t qs) (hb : TupP prog w s.heap q b) (hm : adding = true → t.dummies = #[])
    {N : Nat} (hN : ¬ Full t (path t.mask (hashP prog w q) N).j) (hlt : ∀ m, m < N → Full t (path t.mask (hashP prog w q) m).j) (hNl : N < 10 * SetTable.turns t.mask)
    (hin : ∀ i : Nat, qs[i]? = some q → Q (.there (if adding then none else some i)) s) (hout : q ∉ qs → ∀ j wd, (t.dummies = #[] → j = (path t.mask (hashP prog w q) N).j ∧ wd = false) → Q (.free j wd) s) :
    ∀ (fuel n : Nat) (d : Option Nat) (stand : Option SetTable.Probe), n ≤ N → N - n < fuel → stand.getD (t.probeStart (hashP prog w q)) = { path t.mask (hashP prog w q) n with dummy := d } → (t.dummies = #[] → d = none) →
      (q ∈ qs → ∃ (m i : Nat), n ≤ m ∧ m < N ∧ t.slot (path t.mask (hashP prog w q) m).j = .live i ∧ qs[i]? = some q) → wpAny (model prog w) A (setSearchFrom a (.ref b) (hashP prog w q) adding fuel stand) Q E s
  | 0, n, d, stand, _, hf, _, _, _ => absurd hf (Nat.not_lt_zero _)
  | fuel + 1, n, d, stand, hn, hf, hst, hdn, hq => by
    obtain ⟨o, ho, hex, hd⟩ := S.obj
    have g := S.good
    rw [setSearchFrom_eq]
    refine wpAny_bind (wpAny_setState_of ho hd S.fits ?_)
    dsimp only
    rw [g.noWay]
    simp only [Bool.false_eq_true, if_false]
    rw [hst]
    have hcand : ∀ m i, t.slot (path t.mask (hashP prog w q) m).j = .live i → qs[i]? = some q → (es[i]?.map (·.1)).getD 0 = hashP prog w q := fun m i hs hi => by
      obtain ⟨e, he, bb, _, _, e3, _⟩ := Paired.at2 S.ents hi
      rw [Array.getElem?_toList] at he
      rw [he]
      exact e3
    unfold SetTable.probe
    rcases probe_out (f := fun i => (es[i]?.map (·.1)).getD 0) g.rise g.drise hN hlt (10 * SetTable.turns t.mask) n d hn (by omega) with ⟨m, i, d', m1, m2, dd, hs, hh, hno, e⟩ | ⟨d', dd, hno, e⟩
    · rw [e]
      dsimp only
      have hpl := (slot_live g.rise).mp hs
      have hi : i < es.size := by
        have := (Array.getElem?_eq_some_iff.mp hpl).1
        rw [← g.size]; exact this
      obtain ⟨q', hq', c, hc1, hc2, hc3⟩ := Paired.at' S.ents (show es.toList[i]? = some es[i] by simp [hi])
      have hes : es[i]? = some (es[i].1, .ref c) := by
        rw [Array.getElem?_eq_getElem hi, ← hc1]
      -- behind the question whether it could be seen
      have main : wpAny (model prog w) A (do
          let some (_, y) := es[i]? | unsupported "internal:set-entry"
          let equal ← holding [y] (eqBool y (.ref b))
          let (es', _, t') ← setState a
          if adding && equal then return .there none
          let some same := t'.sameMemory t.moves t.mask | unsupported "set.changed-during-lookup:is-the-new-block-at-the-old-address"
          let still ← match (if same then t'.slot (path t.mask (hashP prog w q) m).j else .empty) with
            | .live i' => match es'[i']? with
              | some (_, y') => do pure (if ← isSame y' y then some i' else none)
              | none => pure none
            | _ => pure none
          match still with
          | none => rule "set.search.anew"; setSearchFrom a (.ref b) (hashP prog w q) adding fuel none
          | some i' => if equal then return .there (some i') else setSearchFrom a (.ref b) (hashP prog w q) adding fuel (some { path t.mask (hashP prog w q) (m + 1) with dummy := d' })) Q E s := by
        rw [hes]
        dsimp only
        refine wpAny_bind (wpAny_holding (wpAny_eqBool_tuple hu hc2 hb ?_))
        refine wpAny_bind (wpAny_setState_of ho hd S.fits ?_)
        dsimp only
        have sm : t.sameMemory t.moves t.mask = some true := by
          unfold SetTable.sameMemory
          rw [if_pos (beq_self_eq_true _)]
        by_cases hqq : q' = q
        · subst hqq
          rw [decide_eq_true rfl]
          have hfound := hin i hq'
          cases adding with
          | true =>
            simp only [Bool.and_self, if_true]
            exact wpAny_pure hfound
          | false =>
            simp only [Bool.false_and, Bool.false_eq_true, if_false]
            rw [sm]
            dsimp only
            rw [if_pos rfl, hs]
            dsimp only
            rw [hes]
            dsimp only
            refine wpAny_bind (wpAny_isSame_ref_self (wpAny_bind (wpAny_pure ?_)))
            simp only [if_true]
            exact wpAny_pure hfound
        · have hk : ¬ keyP q' = keyP q := fun z => hqq (keyP_inj z)
          rw [decide_eq_false hk]
          simp only [Bool.and_false, Bool.false_eq_true, if_false]
          rw [sm]
          dsimp only
          rw [if_pos rfl, hs]
          dsimp only
          rw [hes]
          dsimp only
          refine wpAny_bind (wpAny_isSame_ref_self (wpAny_bind (wpAny_pure ?_)))
          simp only [if_true, Bool.false_eq_true, if_false]
          refine searchFromP hu S hb hm hN hlt hNl hin hout fuel (m + 1) d' _ (by omega) (by omega) rfl (fun z => (dd z).trans (hdn z)) fun hmem => ?_
          obtain ⟨m0, i0, b1, b2, b3, b4⟩ := hq hmem
          refine ⟨m0, i0, ?_, b2, b3, b4⟩
          rcases Nat.lt_trichotomy m0 m with z | z | z
          · exact absurd (hcand m0 i0 b3 b4) (hno m0 b1 z i0 b3)
          · subst z
            rw [hs] at b3
            injection b3 with b3
            subst b3
            rw [hq'] at b4
            exact absurd (by injection b4) hqq
          · exact z
      cases hled : t.led with
      | true =>
        simp only [Bool.not_true, Bool.false_eq_true, if_false]
        exact main
      | false =>
        simp only [Bool.not_false, if_true]
        refine wpAny_bind (couldP hb (fun v hv => ?_) ?_)
        · obtain ⟨e0, he0, rfl⟩ := List.mem_map.mp hv
          have he1 : e0 ∈ es.toList := by
            rw [Array.toList_filter] at he0
            exact (List.mem_filter.mp he0).1
          obtain ⟨q0, _, c0, z1, z2, _⟩ := Paired.memL S.ents he1
          exact ⟨c0, q0, z1, z2⟩
        · simp only [Bool.false_eq_true, if_false]
          exact main
    · rw [e]
      dsimp only
      have hnq : q ∉ qs := fun hmem => by
        obtain ⟨m0, i0, b1, b2, b3, b4⟩ := hq hmem
        exact hno m0 b1 b2 i0 b3 (hcand m0 i0 b3 b4)
      cases hd' : d' with
      | none =>
        dsimp only
        exact wpAny_pure (hout hnq _ false fun _ => ⟨rfl, rfl⟩)
      | some dv =>
        dsimp only
        have nd : t.dummies ≠ #[] := fun z => by
          have h1 := dd z
          rw [hdn z, hd'] at h1
          cases h1
        have ha : adding = false := by
          cases adding with
          | false => rfl
          | true => exact absurd (hm rfl) nd
        subst ha
        simp only [Bool.false_and, Bool.false_eq_true, if_false]
        exact wpAny_pure (hout hnq _ true fun z => absurd z nd)
theorem turns_le {m : Nat} (h : Pw (m + 1)) : 10 * SetTable.turns m ≤ 6000 := by
  obtain ⟨k, h3, h9, e⟩ := h
  have : 2 ^ k ≤ 2 ^ 9 := Nat.pow_le_pow_right (by decide) h9
  unfold SetTable.turns
  have e9 : (2 : Nat) ^ 9 = 512 := by decide
  omega
/-- the search in a set of pairs -/
theorem searchP {a b : Addr} {es : Array (Int × Value)} {ep : Nat} {t : SetTable} {qs : List (Nat × Nat)} {q : Nat × Nat} {adding : Bool} {Q : SetFound → Shared → Prop} (hu : A.units < cLine) (S : SetPA prog w D s.heap a es ep t qs) (hb : TupP prog w s.heap q b) (hm : adding = true → t.dummies = #[])
    (hin : ∀ i : Nat, qs[i]? = some q → Q (.there (if adding then none else some i)) s)
    (hout : q ∉ qs → ∀ j wd N, ¬ Full t (path t.mask (hashP prog w q) N).j → (∀ m, m < N → Full t (path t.mask (hashP prog w q) m).j) → (t.dummies = #[] → j = (path t.mask (hashP prog w q) N).j ∧ wd = false) → Q (.free j wd) s) :
    wpAny (model prog w) A (setSearch a (.ref b) (hashP prog w q) adding) Q E s := by
  obtain ⟨N, h1, h2, h3⟩ := S.good.first (hashP prog w q)
  have := turns_le S.good.pw
  refine searchFromP hu S hb hm h2 h3 h1 hin (fun hn j wd hj => hout hn j wd N h2 h3 hj) 100000 0 none none (Nat.zero_le _) (by omega) rfl (fun _ => rfl) fun hmem => ?_
  obtain ⟨i, hi, e⟩ := List.getElem_of_mem hmem
  obtain ⟨⟨eh, ex⟩, he, c, e1, e2, e3, _⟩ := Paired.at2 S.ents (show qs[i]? = some q by rw [List.getElem?_eq_getElem hi, e])
  rw [Array.getElem?_toList] at he
  have e3' : eh = hashP prog w q := e3
  subst e3'
  obtain ⟨hi2, _⟩ := Array.getElem?_eq_some_iff.mp he
  have hp : t.place[i]? = some (t.place[i]'(by rw [S.good.size]; exact hi2)) := Array.getElem?_eq_getElem _
  obtain ⟨n, n1, n2⟩ := S.good.before he hp h2
  exact ⟨n, i, Nat.zero_le _, n1, (slot_live S.good.rise).mpr (by rw [n2]; exact hp), by rw [List.getElem?_eq_getElem hi, e]⟩
end
end L2
set_option Elab.async false
set_option linter.all false
set_option maxRecDepth 100000
set_option maxHeartbeats 4000000
/-! EXTENSION 15e: sets of pairs: adding, asking, walking. -/
namespace L2
open PySem PySem.Spec PyProof.Rows
theorem grow_ok : ∀ n, n < 110 → ∃ k, k < 10 ∧ 3 ≤ k ∧ SetTable.sizeAbove (SetTable.grown n) = 2 ^ k ∧ n ≤ SetTable.sizeAbove (SetTable.grown n) - 1 ∧ n * 5 < (SetTable.sizeAbove (SetTable.grown n) - 1) * 3 := by decide +kernel
section
variable {prog : Program} {w : World} {D : Addr → Prop} {A : Around} {E : Value → Shared → Prop} {s : Shared}
theorem TupP.keep {h h' : Heap} {q : Nat × Nat} {b : Addr} (x : TupP prog w h q b) (k : ∀ b o, h.get? b = some o → h'.get? b = some o) : TupP prog w h' q b :=
  let ⟨o, items, n, ho, r⟩ := x
  ⟨o, items, n, k _ _ ho, r⟩
theorem TupP.but {h h' : Heap} {q : Nat × Nat} {a b : Addr} {o : Obj} {es : Array (Int × Value)} {ep : Nat} {t : SetTable} (x : TupP prog w h q b) (ho : h.get? a = some o) (hd : o.data = .set es ep t) (sb : Heap.SameBut a h h') : TupP prog w h' q b := by
  obtain ⟨o', items, n, ho', hc, hd', hi⟩ := x
  have hne : b ≠ a := by
    rintro rfl
    obtain rfl : o' = o := Option.some.inj (ho'.symm.trans ho)
    rw [hd] at hd'; exact nomatch hd'
  exact ⟨o', items, n, (sb.2 b hne).trans ho', hc, hd', hi⟩
theorem SetPA.keep {h h' : Heap} {a : Addr} {es : Array (Int × Value)} {ep : Nat} {t : SetTable} {qs : List (Nat × Nat)} (S : SetPA prog w D h a es ep t qs) (k : ∀ b o, h.get? b = some o → h'.get? b = some o) : SetPA prog w D h' a es ep t qs :=
  let ⟨o, ho, r⟩ := S.obj
  ⟨⟨o, k _ _ ho, r⟩, Paired.imp' (fun e q z => let ⟨b, z1, z2, z3⟩ := z; ⟨b, z1, z2.keep k, z3⟩) S.ents, S.nodup, S.good, S.led, S.plain⟩
/-- another set has changed -/
theorem SetPA.but {h h' : Heap} {a c : Addr} {es : Array (Int × Value)} {ep : Nat} {t : SetTable} {qs : List (Nat × Nat)} {o : Obj} {es2 : Array (Int × Value)} {ep2 : Nat} {t2 : SetTable} (S : SetPA prog w D h a es ep t qs) (ho : h.get? c = some o) (hd : o.data = .set es2 ep2 t2) (sb : Heap.SameBut c h h') (hne : a ≠ c) : SetPA prog w D h' a es ep t qs :=
  let ⟨o1, ho1, r⟩ := S.obj
  ⟨⟨o1, (sb.2 a hne).trans ho1, r⟩, Paired.imp' (fun e q z => let ⟨b, z1, z2, z3⟩ := z; ⟨b, z1, z2.but ho hd sb, z3⟩) S.ents, S.nodup, S.good, S.led, S.plain⟩
theorem SetPA.store {h : Heap} {a : Addr} {es es' : Array (Int × Value)} {ep : Nat} {t t' : SetTable} {qs qs' : List (Nat × Nat)} (S : SetPA prog w D h a es ep t qs) (he : Paired (EntP prog w D h) es'.toList qs') (hn : qs'.Nodup) (hg : Good t' es') (hl : t'.led = t.led) (hp : t'.plain = t.plain) :
    SetPA prog w D (h.update a (Obj.putSet es' t')) a es' (ep + 1) t' qs' := by
  obtain ⟨o, ho, hex, hd⟩ := S.obj
  refine ⟨⟨{ o with data := .set es' (ep + 1) t' }, ?_, hex, rfl⟩, Paired.imp' (fun e q z => let ⟨b, z1, z2, z3⟩ := z; ⟨b, z1, z2.but ho hd (Heap.SameBut.update h a _), z3⟩) he, hn, hg, hl.trans S.led, hp.trans S.plain⟩
  have := Heap.get?_update_self (Obj.putSet es' t') ho (by rw [putSet_of es' t' hd]; rfl)
  rwa [putSet_of es' t' hd] at this
/-- the set at a has just these pairs, and nothing was taken out of it -/
def SetP (prog : Program) (w : World) (D : Addr → Prop) (h : Heap) (a : Addr) (qs : List (Nat × Nat)) : Prop := ∃ es ep t qs', SetPA prog w D h a es ep t qs' ∧ t.dummies = #[] ∧ t.tooFull = false ∧ qs'.Perm qs
theorem SetP.perm {h : Heap} {a : Addr} {qs qs' : List (Nat × Nat)} (x : SetP prog w D h a qs) (p : qs.Perm qs') : SetP prog w D h a qs' := let ⟨es, ep, t, k, y, d, f, q⟩ := x; ⟨es, ep, t, k, y, d, f, q.trans p⟩
theorem SetP.nodup {h : Heap} {a : Addr} {qs : List (Nat × Nat)} (x : SetP prog w D h a qs) : qs.Nodup := let ⟨_, _, _, _, y, _, _, q⟩ := x; q.nodup_iff.mp y.nodup
theorem SetP.keep {h h' : Heap} {a : Addr} {qs : List (Nat × Nat)} (x : SetP prog w D h a qs) (k : ∀ b o, h.get? b = some o → h'.get? b = some o) : SetP prog w D h' a qs := let ⟨es, ep, t, qs', y, d, f, p⟩ := x; ⟨es, ep, t, qs', y.keep k, d, f, p⟩
theorem SetP.obj {h : Heap} {a : Addr} {qs : List (Nat × Nat)} (x : SetP prog w D h a qs) : ∃ o es ep t, h.get? a = some o ∧ o.ExactSet ∧ o.data = .set es ep t := let ⟨es, ep, t, _, y, _⟩ := x; let ⟨o, ho, hx, hd⟩ := y.obj; ⟨o, es, ep, t, ho, hx, hd⟩
theorem SetP.lt {h : Heap} {a : Addr} {qs : List (Nat × Nat)} (x : SetP prog w D h a qs) : a < h.objs.size := let ⟨_, _, _, _, ho, _⟩ := x.obj; Heap.lt_size ho
theorem SetP.typeIs {a : Addr} {qs : List (Nat × Nat)} (x : SetP prog w D s.heap a qs) : s.TypeIs (.ref a) "set" := let ⟨o, _, _, _, ho, hx, _⟩ := x.obj; ⟨o, ho, hx.1⟩
theorem SetPA.typeIs {a : Addr} {es : Array (Int × Value)} {ep : Nat} {t : SetTable} {qs : List (Nat × Nat)} (x : SetPA prog w D s.heap a es ep t qs) : s.TypeIs (.ref a) "set" := let ⟨o, ho, hx, _⟩ := x.obj; ⟨o, ho, hx.1⟩
theorem SetP.but {h h' : Heap} {a c : Addr} {qs : List (Nat × Nat)} {o : Obj} {es2 : Array (Int × Value)} {ep2 : Nat} {t2 : SetTable} (x : SetP prog w D h a qs) (ho : h.get? c = some o) (hd : o.data = .set es2 ep2 t2) (sb : Heap.SameBut c h h') (hne : a ≠ c) : SetP prog w D h' a qs := let ⟨es, ep, t, qs', y, d, f, p⟩ := x; ⟨es, ep, t, qs', y.but ho hd sb hne, d, f, p⟩
theorem hashByValueP {b : Addr} {q : Nat × Nat} {Q : Bool → Shared → Prop} (hb : TupP prog w s.heap q b) (h : Q true s) : wpAny (model prog w) A (hashByValue 8 (.ref b)) Q E s := by
  have hT := hb.typeIs
  obtain ⟨o, items, n, ho, _, hd, hi⟩ := hb
  unfold hashByValue
  refine wpAny_bind (wpAny_specialOf hT PySem.F.slot_tuple_hash.lookup ?_)
  dsimp only
  refine wpAny_bind (wpAny_seqItems ho hd ?_)
  refine wpAny_bind ?_
  show wpAny _ _ (forIn items _ _) _ _ s
  rw [← Array.forIn_toList]
  refine wpAny_forIn_list _ (fun rest r s' => r.1 = none ∧ s' = s ∧ ∀ v ∈ rest, ∃ k : Int, (PySem.intKind prog w).is k v = true) _ ?_ ?_ _ _ ⟨rfl, rfl, ?_⟩
  · rintro v rest r s' ⟨hr, rfl, hall⟩
    obtain ⟨k, hk⟩ := hall v List.mem_cons_self
    have hv : hashByValue 7 v = pure true := by
      cases v with
      | int i t => rfl
      | _ => first | rfl | exact absurd hk (by decide) | exact absurd hk (by simp [PySem.intKind, Value.isInt])
    rw [hv]
    refine wpAny_bind (wpAny_pure ?_)
    simp only [Bool.not_true, Bool.false_eq_true, if_false]
    exact wpAny_pure ⟨rfl, rfl, fun u hu' => hall u (List.mem_cons_of_mem _ hu')⟩
  · rintro ⟨r1, r2⟩ s' ⟨hr, rfl, _⟩
    simp only at hr
    subst hr
    exact wpAny_pure h
  · intro v hv
    clear h hd ho hT
    generalize keyP q = ks at hi
    generalize items.toList = l at hi hv
    induction hi with
    | nil => cases hv
    | cons h1 _ ih =>
      rcases List.mem_cons.mp hv with rfl | hv
      · exact ⟨_, h1⟩
      · exact ih hv
theorem relayP {a : Addr} {es : Array (Int × Value)} {ep : Nat} {t : SetTable} {qs : List (Nat × Nat)} {wanted : Nat} {Q : Unit → Shared → Prop} (S : SetPA prog w D s.heap a es ep t qs) (pw : Pw (SetTable.sizeAbove wanted)) (hl : es.size ≤ SetTable.sizeAbove wanted - 1)
    (h : ∀ h' es' ep' t' qs', Heap.SameBut a s.heap h' → SetPA prog w D h' a es' ep' t' qs' → t'.dummies = #[] → t'.mask = SetTable.sizeAbove wanted - 1 → es'.size = es.size → qs'.Perm qs → Q () { s with heap := h' }) :
    wpAny (model prog w) A (setRelay a wanted) Q E s := by
  obtain ⟨o, ho, hex, hd⟩ := S.obj
  obtain ⟨k, h3, h9, ek⟩ := pw
  have k9 : 2 ^ k ≤ 2 ^ 9 := Nat.pow_le_pow_right (by decide) h9
  have e9 : (2 : Nat) ^ 9 = 512 := by decide
  have k3 : 2 ^ 3 ≤ 2 ^ k := Nat.pow_le_pow_right (by decide) h3
  have e3 : (2 : Nat) ^ 3 = 8 := by decide
  rw [setRelay_eq]
  refine wpAny_bind (wpAny_setState_of ho hd S.fits ?_)
  dsimp only
  rw [if_neg (by rw [sizeLine_eq]; omega)]
  obtain ⟨t', o', e1, e2, e4, e5, e6, e7, e8⟩ := laid_good (mask := SetTable.sizeAbove wanted - 1) (finger := t.finger) (moves := t.movedTo (SetTable.sizeAbove wanted - 1)) (led := t.led) (plain := t.plain) (es := es) ⟨k, h3, h9, by omega⟩ hl
  have hrel : t.relaid (es.map (·.1)) wanted = some (t', o') := e1
  rw [hrel]
  have hsz : (o'.filterMap (es[·]?)).size = es.size := by
    have := e7.length_eq
    rwa [Array.length_toList, Array.length_toList] at this
  dsimp only
  rw [if_neg (by rw [hsz]; simp)]
  refine wpAny_bind (wpAny_pure ?_)
  dsimp only
  refine wpAny_storeSet_of ho hd ?_ (by rw [hsz, sizeLine_eq]; omega)
  obtain ⟨qs', he', p'⟩ := Paired.perm e7.symm S.ents
  exact h _ _ _ _ qs' (Heap.SameBut.update _ _ _) (S.store he' (p'.nodup_iff.mpr S.nodup) e8 e4 e5) e6 e2 hsz p'
/-- one pair added -/
theorem addP {a b : Addr} {qs : List (Nat × Nat)} {q : Nat × Nat} {Q : Bool → Shared → Prop} (hu : A.units < cLine) (hS : SetP prog w D s.heap a qs) (hb : TupP prog w s.heap q b) (hD : D b) (hroom : qs.length + 1 < 110)
    (h : ∀ h' bb, Heap.SameBut a s.heap h' → SetP prog w D h' a (addK qs q) → Q bb { s with heap := h' }) :
    wpAny (model prog w) A (setAddHashed a (.ref b) (hashP prog w q)) Q E s := by
  obtain ⟨es, ep, t, qs', S, hdm, htf, p⟩ := hS
  obtain ⟨o, ho, hex, hd⟩ := S.obj
  have hlen := S.len
  have hpl := p.length_eq
  unfold setAddHashed setAddHashedIn
  refine wpAny_holding (wpAny_bind (wpAny_setState_of ho hd S.fits ?_))
  dsimp only
  rw [show byScan (.ref b) es = false from rfl]
  simp only [Bool.false_eq_true, if_false]
  refine wpAny_bind (searchP hu S hb (fun _ => hdm) (fun i hi => ?_) fun hn j wd N hN hlt hj => ?_)
  · have hk : q ∈ qs := p.mem_iff.mp (List.mem_of_getElem? hi)
    have := h s.heap false (Heap.SameBut.refl a s.heap) (by unfold addK; rw [if_pos hk]; exact ⟨es, ep, t, qs', S, hdm, htf, p⟩)
    exact wpAny_pure this
  · obtain ⟨rfl, rfl⟩ := hj hdm
    have hk : q ∉ qs := fun z => hn (p.mem_iff.mpr z)
    dsimp only
    refine wpAny_bind (wpAny_setState_of ho hd S.fits ?_)
    dsimp only
    have htf' : ¬ t.fill * 5 ≥ t.mask * 3 := by
      intro z
      unfold SetTable.tooFull at htf
      rw [decide_eq_false_iff_not] at htf
      exact htf z
    have room : t.fill + 1 ≤ t.mask := by
      obtain ⟨k, h3, _, e⟩ := S.good.pw
      have k3 : 2 ^ 3 ≤ 2 ^ k := Nat.pow_le_pow_right (by decide) h3
      have e3 : (2 : Nat) ^ 3 = 8 := by decide
      omega
    have g1 := S.good.put (x := .ref b) hdm hN hlt room
    have dm1 := put_dummies hdm (path t.mask (hashP prog w q) N).j
    have ld1 : (t.put (path t.mask (hashP prog w q) N).j).1.led = t.led := rfl
    have mk1 : (t.put (path t.mask (hashP prog w q) N).j).1.mask = t.mask := rfl
    have pl1 : (t.put (path t.mask (hashP prog w q) N).j).1.plain = t.plain := rfl
    have hperm := SetTable.insertAt_perm es (t.put (path t.mask (hashP prog w q) N).j).2 (hashP prog w q, Value.ref b)
    rw [Array.toList_push] at hperm
    generalize t.put (path t.mask (hashP prog w q) N).j = T at g1 dm1 ld1 mk1 pl1 hperm ⊢
    obtain ⟨t1, pp⟩ := T
    dsimp only at g1 dm1 ld1 mk1 pl1 hperm ⊢
    obtain ⟨qs1, he1, p1⟩ := Paired.perm hperm.symm (Paired.app S.ents (.cons (show EntP prog w D s.heap (hashP prog w q, .ref b) q from ⟨b, rfl, hb, rfl, hD⟩) .nil))
    have hnd : qs1.Nodup := p1.nodup_iff.mpr (by
      rw [List.nodup_append]
      refine ⟨S.nodup, by simp, fun a ha b hb => ?_⟩
      rw [List.mem_singleton.mp hb]
      exact fun z => hn (z ▸ ha))
    have pe : qs1.Perm (addK qs q) := by
      unfold addK
      rw [if_neg hk]
      exact p1.trans (p.append_right _)
    have hz : (SetTable.insertAt es pp (hashP prog w q, Value.ref b)).size = es.size + 1 := by
      have := hperm.length_eq
      simp only [List.length_append, Array.length_toList, List.length_cons, List.length_nil] at this
      exact this
    have rest : wpAny (model prog w) A (do
        storeSet a (SetTable.insertAt es pp (hashP prog w q, Value.ref b)) t1
        if (!false && t1.tooFull) = true then setRelay a (SetTable.grown (es.size + 1))
        pure true) Q E s := by
      refine wpAny_bind (wpAny_storeSet_of ho hd ?_ (by rw [hz, sizeLine_eq]; omega))
      have S1 := S.store he1 hnd g1 ld1 pl1
      have sb := Heap.SameBut.update s.heap a (Obj.putSet (SetTable.insertAt es pp (hashP prog w q, Value.ref b)) t1)
      cases hf : t1.tooFull with
      | true =>
        simp only [Bool.not_false, Bool.and_self, if_true]
        obtain ⟨k, k1, k2, k3, k4, k5⟩ := grow_ok (es.size + 1) (by omega)
        refine wpAny_bind (relayP (s := { s with heap := _ }) S1 ⟨k, k2, by omega, k3⟩ (by rw [hz]; exact k4) fun h' es' ep' t' qs2 sb2 S2 dm2 mk2 sz2 p2 => ?_)
        refine wpAny_pure (h h' true (sb.trans sb2) ⟨es', ep', t', qs2, S2, dm2, ?_, p2.trans pe⟩)
        unfold SetTable.tooFull SetTable.fill
        rw [S2.good.size, dm2, mk2, sz2, hz, decide_eq_false_iff_not]
        simp only [List.size_toArray, List.length_nil, Nat.add_zero]
        omega
      | false =>
        simp only [Bool.not_false, Bool.true_and, Bool.false_eq_true, if_false]
        exact wpAny_pure (h _ true sb ⟨_, _, t1, qs1, S1, dm1, hf, pe⟩)
    split
    · refine wpAny_bind (hashByValueP hb ?_)
      simp only [if_true]
      exact rest
    · refine wpAny_bind (wpAny_pure ?_)
      simp only [if_true]
      exact rest
end
end L2
set_option Elab.async false
set_option linter.all false
set_option maxRecDepth 100000
set_option maxHeartbeats 4000000
/-! EXTENSION 15f: sets of pairs: made of a list, asked, walked, and what one has and another has not. -/
namespace L2
open PySem PySem.Spec PyProof.Rows
section
variable {prog : Program} {w : World} {D : Addr → Prop} {A : Around} {E : Value → Shared → Prop} {s : Shared}
theorem fresh_good (led : Bool) : Good (SetTable.fresh 0 0 led) #[] := by
  refine ⟨⟨3, by decide, by decide, rfl⟩, fun i j hi => by simp [SetTable.fresh] at hi, fun i j hi => by simp [SetTable.fresh] at hi, rfl, by show 0 ≤ 7; decide, fun i i' j h => by simp [SetTable.fresh] at h, fun i h x j he => by simp at he⟩
theorem freshPA {h : Heap} {a : Addr} (hg : h.get? a = some { cls := .type "set", dict := none, data := .set #[] 0 (.fresh 0 0 (!w.params.followText "set-order")) }) : SetPA prog w D h a #[] 0 (.fresh 0 0 (!w.params.followText "set-order")) [] :=
  ⟨⟨_, hg, ⟨rfl, rfl, rfl⟩, rfl⟩, .nil, List.nodup_nil, fresh_good _, rfl, rfl⟩
theorem freshP {h : Heap} {a : Addr} (hg : h.get? a = some { cls := .type "set", dict := none, data := .set #[] 0 (.fresh 0 0 (!w.params.followText "set-order")) }) : SetP prog w D h a [] :=
  ⟨_, _, _, _, freshPA hg, rfl, rfl, List.Perm.refl _⟩
theorem newSetP {Q : Value → Shared → Prop}
    (h : SetP prog w D (s.heap.push { cls := .type "set", dict := none, data := .set #[] 0 (.fresh 0 0 (!w.params.followText "set-order")) }) s.heap.objs.size [] →
      Q (.ref s.heap.objs.size) { s with heap := s.heap.push { cls := .type "set", dict := none, data := .set #[] 0 (.fresh 0 0 (!w.params.followText "set-order")) } }) :
    wpAny (model prog w) A (newSet (.type "set")) Q E s := by
  unfold newSet setsByText
  refine wpAny_bind (wpAny_bind (wpAny_askSetting (wpAny_pure ?_)))
  dsimp only
  simp only [newObj]
  exact wpAny_bind (wpAny_alloc (wpAny_pure (h (freshP (Heap.get?_push_size _ rfl)))))
theorem walkUnseenP {a : Addr} {others : List Addr} {filled : Option Addr} {es : Array (Int × Value)} {ep : Nat} {t : SetTable} {qs : List (Nat × Nat)} {Q : Array (Int × Value) → Shared → Prop} (S : SetPA prog w D s.heap a es ep t qs)
    (h : ∀ (ys : Array (Int × Value)) (ls : List (Nat × Nat)) (dr : _), Paired (EntP prog w D s.heap) ys.toList ls → ls.Perm qs → Q ys { s with drawn := dr }) : wpAny (model prog w) A (setWalkUnseen a others filled) Q E s := by
  obtain ⟨o, ho, hex, hd⟩ := S.obj
  rw [setWalkUnseen_eq]
  refine wpAny_bind (wpAny_setState_of ho hd S.fits ?_)
  dsimp only
  unfold setsByText
  refine wpAny_bind (wpAny_bind (wpAny_askSetting (wpAny_pure ?_)))
  dsimp only
  rw [if_pos (by
    rw [S.led, S.plain]
    show (w.params.followText "set-order" || !w.params.followText "set-order" && true || decide (es.size ≤ 1)) = true
    cases w.params.followText "set-order" <;> rfl)]
  refine wpAny_setWalk ho hd S.fits S.led fun ys dr hp => ?_
  obtain ⟨ls, h1, h2⟩ := Paired.perm hp.symm S.ents
  exact h ys ls dr h1 h2
theorem findP {a b : Addr} {es : Array (Int × Value)} {ep : Nat} {t : SetTable} {qs : List (Nat × Nat)} {q : Nat × Nat} {Q : Option Nat → Shared → Prop} (hu : A.units < cLine) (S : SetPA prog w D s.heap a es ep t qs) (hb : TupP prog w s.heap q b)
    (h : ∀ r : Option Nat, r.isSome = decide (q ∈ qs) → (∀ i, r = some i → qs[i]? = some q) → Q r s) : wpAny (model prog w) A (setFind a (.ref b) (hashP prog w q)) Q E s := by
  obtain ⟨o, ho, hex, hd⟩ := S.obj
  unfold setFind setFindIn
  refine wpAny_bind (wpAny_setState_of ho hd S.fits ?_)
  dsimp only
  rw [show byScan (.ref b) es = false from rfl]
  simp only [Bool.false_eq_true, if_false]
  refine wpAny_bind (searchP hu S hb (fun z => by cases z) (fun i hi => ?_) fun hn j wd N hN hlt hj => ?_)
  · simp only [Bool.false_eq_true, if_false]
    refine wpAny_pure (h (some i) ?_ fun i' e => ?_)
    · rw [decide_eq_true (List.mem_of_getElem? hi)]; rfl
    · injection e with e; rw [← e]; exact hi
  · refine wpAny_pure (h none ?_ fun i' e => by cases e)
    rw [decide_eq_false hn]; rfl
theorem sizeP {a : Addr} {es : Array (Int × Value)} {ep : Nat} {t : SetTable} {qs : List (Nat × Nat)} {Q : Nat → Shared → Prop} (S : SetPA prog w D s.heap a es ep t qs) (h : Q qs.length s) : wpAny (model prog w) A (Builtin.Frozenset.sizeOf a) Q E s := by
  obtain ⟨o, ho, hex, hd⟩ := S.obj
  unfold Builtin.Frozenset.sizeOf
  refine wpAny_bind (wpAny_setEntries_of ho hd S.fits (wpAny_pure ?_))
  rw [S.len]
  exact h
theorem epochP {a : Addr} {es : Array (Int × Value)} {ep : Nat} {t : SetTable} {qs : List (Nat × Nat)} {Q : Nat → Shared → Prop} (S : SetPA prog w D s.heap a es ep t qs) (h : Q ep s) : wpAny (model prog w) A (setEpoch a) Q E s := by
  obtain ⟨o, ho, hex, hd⟩ := S.obj
  exact wpAny_setEpoch_of ho hd S.fits h
theorem anySetP {a : Addr} {Q : Bool → Shared → Prop} (T : s.TypeIs (.ref a) "set") (h : Q true s) : wpAny (model prog w) A (Builtin.Frozenset.isAnySet (.ref a)) Q E s := by
  unfold Builtin.Frozenset.isAnySet
  refine wpAny_bind (wpAny_isInstance T PySem.sub_set_self ?_)
  exact wpAny_pure h
theorem baseOfP {a : Addr} {Q : Value → Shared → Prop} (T : s.TypeIs (.ref a) "set") (h : Q (.type "set") s) : wpAny (model prog w) A (Builtin.Frozenset.baseOf a) Q E s := by
  unfold Builtin.Frozenset.baseOf
  refine wpAny_bind (wpAny_isInstance T PySem.sub_set_self ?_)
  exact wpAny_pure h
theorem unchangedP {id : String} {a : Addr} {es : Array (Int × Value)} {ep : Nat} {t : SetTable} {qs : List (Nat × Nat)} {Q : Unit → Shared → Prop} (S : SetPA prog w D s.heap a es ep t qs) (h : Q () s) : wpAny (model prog w) A (Builtin.Frozenset.unchanged id a ep) Q E s := by
  unfold Builtin.Frozenset.unchanged
  refine wpAny_bind (epochP S ?_)
  rw [if_neg (by simp)]
  exact wpAny_pure h
theorem wpAny_notInP {a b : Addr} {qs : List (Nat × Nat)} {q : Nat × Nat} {Q : Value → Shared → Prop} (hu : A.units + 1 < cLine) (hS : SetP prog w D s.heap a qs) (hb : TupP prog w s.heap q b)
    (h : ∀ tk, Q (.bool (!decide (q ∈ qs))) { s with toks := tk }) : wpAny (model prog w) A (compareOp .NotIn (.ref b) (.ref a)) Q E s := by
  have hT := hS.typeIs
  obtain ⟨es, ep, t, qs', S, _, _, p⟩ := hS
  show wpAny _ _ (do return .bool (!(← contains (.ref a) (.ref b)))) Q E s
  refine wpAny_bind ?_
  unfold contains
  try with_reducible refine wpAny_holding ?_
  refine wpAny_bind (wpAny_specialOf hT PySem.F.slot_set_contains.lookup ?_)
  show wpAny _ _ (if (some (Value.builtin "set.__contains__") == some Value.none) = true then _ else _) _ E s
  rw [if_neg (by rw [beq_builtin_none]; exact Bool.false_ne_true)]
  refine wpAny_bind (wpAny_callSpecialUnlessNone?_slot (name := Str.ofString "__contains__") hT PySem.F.slot_set_contains
    (wpAny_call_entry PySem.F.slot_set_contains hT entry_set_contains ?_ (PySem.F.args_set_contains_2 _ _)))
  unfold Builtin.«frozenset.__contains__» Builtin.Frozenset.oneOther
  simp only [List.isEmpty_nil, bind_assoc]
  unfold Builtin.Frozenset.addrOf Builtin.Frozenset.withSetAsKey setContains
  refine wpAny_bind (wpAny_pure ?_)
  try dsimp only
  refine wpAny_bind (wpAny_pure ?_)
  try dsimp only
  refine wpAny_bind (wpAny_tryCatch ?_)
  refine wpAny_holding ?_
  refine wpAny_bind (wpAny_pyHash_tuple (by simpa using hu) hb ?_)
  refine wpAny_bind (findP (s := { s with toks := _ }) (by simpa using hu) S hb fun r hr _ => ?_)
  refine wpAny_pure ?_
  show wpAny _ _ (ret (Value.bool r.isSome)) _ _ _
  rw [hr, show decide (q ∈ qs') = decide (q ∈ qs) from decide_eq_decide.mpr p.mem_iff]
  exact wpAny_pure ⟨_, rfl, wpAny_truthy_bool (wpAny_pure (h _))⟩
theorem TupP.off {h h' : Heap} {q : Nat × Nat} {b : Addr} {wr : List Addr} (x : TupP prog w h q b) (hw : ∀ b ∈ wr, ∃ o, h.get? b = some o ∧ o.cls ≠ .type "tuple") (k : ∀ b o, b ∉ wr → h.get? b = some o → h'.get? b = some o) : TupP prog w h' q b := by
  obtain ⟨o, items, n, ho, hc, r⟩ := x
  refine ⟨o, items, n, k b o (fun z => ?_) ho, hc, r⟩
  obtain ⟨o', ho', hn⟩ := hw b z
  rw [ho] at ho'
  injection ho' with e
  exact hn (e ▸ hc)
theorem SetP.off {h h' : Heap} {a : Addr} {qs : List (Nat × Nat)} {wr : List Addr} (x : SetP prog w D h a qs) (ha : a ∉ wr) (hw : ∀ b ∈ wr, ∃ o, h.get? b = some o ∧ o.cls ≠ .type "tuple") (k : ∀ b o, b ∉ wr → h.get? b = some o → h'.get? b = some o) : SetP prog w D h' a qs :=
  let ⟨es, ep, t, qs', S, d, f, p⟩ := x
  let ⟨o, ho, r⟩ := S.obj
  ⟨es, ep, t, qs', ⟨⟨o, k a o ha ho, r⟩, Paired.imp' (fun e q z => let ⟨b, z1, z2, z3⟩ := z; ⟨b, z1, z2.off hw k, z3⟩) S.ents, S.nodup, S.good, S.led, S.plain⟩, d, f, p⟩
/-- the loop that fills a set out of an iterator -/
theorem fillLoopP {R : Result → Shared → Prop} {I S : Addr} {fp wr : List Addr} {G : Array GenState → Array GenState → Prop} {n : Nat} {P : Nat → Value → Prop} {St : Nat → Shared → Prop} (hu : A.units + 1 < cLine)
    (W : WalksS prog w A.in1 I fp wr G n P St) (hSf : S ∉ fp) (keys : List (Nat × Nat)) (hn : keys.length = n) (Dt : Nat → Addr → Prop) (hval : ∀ i v, P i v → ∃ b, v = .ref b ∧ Dt i b) (hDt : ∀ i b, Dt i b → D b) (hwr : ∀ b ∈ wr, ∀ i (s : Shared), St i s → ∃ o, s.heap.get? b = some o ∧ o.cls ≠ .type "tuple") (hb : ∀ ks : List (Nat × Nat), ks.Nodup → (∀ k ∈ ks, k ∈ keys) → ks.length + 1 < 110) :
    ∀ (left done : List (Nat × Nat)) (ks : List (Nat × Nat)) (s : Shared), done ++ left = keys → (∀ k ∈ ks, k ∈ done) → St done.length s → SetP prog w D s.heap S ks → (∀ i b, Dt i b → ∃ k, keys[i]? = some k ∧ TupP prog w s.heap k b) →
      (∀ s', Moved (S :: wr) G s s' → SetP prog w D s'.heap S (gather ks left) → R (.ok (.ret .none)) s') → codeAny (model prog w) A (.builtin "set.update.loop" ⟨[.ref S, .ref I], []⟩) R s
  | [], done, ks, s, e, hl, hst, hS, hT, hR => by
    have hSw : S ∉ wr := fun h => hSf (W.sub _ h)
    have hin : done.length = n := by rw [← hn, ← e]; simp
    refine codeAny_builtin PyProof.Rows.F.entry_set_update_loop ?_
    rw [Around.under_plainId PyProof.Rows.F.plain_set_update_loop _]
    show wpAny _ A.in1 (pyNext (.ref I) >>= _) _ _ s
    have hw := fun b hb => hwr b hb _ s hst
    rw [hin] at hst
    refine wpAny_bind (W.done s _ _ hst fun s' hm => ?_)
    show wpAny _ A.in1 (ret Value.none) _ _ s'
    exact wpAny_pure (hR s' (hm.mono fun b hb => List.mem_cons_of_mem _ hb) (hS.off hSw hw hm.heap))
  | k :: left, done, ks, s, e, hl, hst, hS, hT, hR => by
    have hSw : S ∉ wr := fun h => hSf (W.sub _ h)
    have hln : done.length + (left.length + 1) = n := by
      rw [← hn, ← e]
      simp
    have hw := fun b hb => hwr b hb _ s hst
    refine codeAny_builtin PyProof.Rows.F.entry_set_update_loop ?_
    rw [Around.under_plainId PyProof.Rows.F.plain_set_update_loop _]
    show wpAny _ A.in1 (pyNext (.ref I) >>= _) _ _ s
    refine wpAny_bind (W.item done.length s _ _ (by omega) hst fun v s' hP hst' hm => ?_)
    obtain ⟨b, rfl, hD⟩ := hval _ v hP
    obtain ⟨k', hk1, hk2⟩ := hT _ b hD
    have ek : k' = k := by
      rw [← e, List.getElem?_append_right (Nat.le_refl _), Nat.sub_self] at hk1
      simpa using hk1.symm
    subst ek
    have hS1 : SetP prog w D s'.heap S ks := hS.off hSw hw hm.heap
    have hk3 : TupP prog w s'.heap k' b := hk2.off hw hm.heap
    have hT1 : ∀ i b, Dt i b → ∃ k, keys[i]? = some k ∧ TupP prog w s'.heap k b := fun i b hd => let ⟨k, z1, z2⟩ := hT i b hd; ⟨k, z1, z2.off hw hm.heap⟩
    show wpAny _ A.in1 (holding [Value.ref b] (setAdd S (.ref b)) >>= _) _ _ s'
    refine wpAny_bind (wpAny_holding ?_)
    unfold setAdd
    refine wpAny_holding (wpAny_bind (wpAny_pyHash_tuple (by simpa using hu) hk3 ?_))
    refine addP (s := { s' with toks := _ }) (by simpa using hu) hS1 hk3 (hDt _ _ hD) (hb ks hS1.nodup fun x hx => by rw [← e]; exact List.mem_append_left _ (hl x hx)) fun h' bb sb hS2 => ?_
    refine wpAny_pure ⟨plainId_quiet PyProof.Rows.F.plain_set_update_loop _, ?_⟩
    have e2 : (done ++ [k']).length = done.length + 1 := by simp
    obtain ⟨oS, esS, epS, tS, hoS, _, hdS⟩ := hS1.obj
    refine fillLoopP hu W hSf keys hn Dt hval hDt hwr hb left (done ++ [k']) (addK ks k') _ (by rw [← e]; simp) ?_ ?_ hS2 (fun i b hd => let ⟨k, z1, z2⟩ := hT1 i b hd; ⟨k, z1, z2.but hoS hdS sb⟩) fun s'' hm'' hS'' => ?_
    · intro x hx
      rcases mem_addK.mp hx with z | z
      · exact List.mem_append_left _ (hl x z)
      · rw [z]; exact List.mem_append_right _ List.mem_cons_self
    · rw [e2]
      refine W.frame _ s' _ _ hst' (Nat.le_add_right _ _) fun b hb o e => ?_
      rw [sb.2 b fun h => hSf (h ▸ hb)]
      exact e
    · refine hR s'' (Moved.trans W.gtrans ((hm.mono fun b hb => List.mem_cons_of_mem _ hb).then_heap (Nat.le_add_right _ _) fun b o hb e => ?_) hm'') hS''
      rw [sb.2 b fun h => hb (h ▸ List.mem_cons_self)]
      exact e
end
end L2
set_option Elab.async false
set_option linter.all false
set_option maxRecDepth 100000
set_option maxHeartbeats 4000000
/-! EXTENSION 15g: set(list), of pairs. -/
namespace L2
open PySem PySem.Spec PyProof.Rows
section
variable {prog : Program} {w : World} {D : Addr → Prop} {A : Around} {E : Value → Shared → Prop} {s : Shared}
theorem call_setPairs {l : Addr} {items : Array Value} {keys : List (Nat × Nat)} {Q : Value → Shared → Prop}
    (hh : A.handled = none) (hl : s.heap.IsList l items) (hu : A.units + 9 < cLine) (hi : Paired (fun v k => ∃ b, v = .ref b ∧ TupP prog w s.heap k b ∧ D b) items.toList keys) (hb : ∀ ks : List (Nat × Nat), ks.Nodup → (∀ k ∈ ks, k ∈ keys) → ks.length + 1 < 110)
    (h : ∀ (h' : Heap) (tk : Nat), SetP prog w D h' s.heap.objs.size (gather [] keys) → (∀ b o, s.heap.get? b = some o → h'.get? b = some o) → Q (.ref s.heap.objs.size) { s with heap := h', toks := tk }) :
    wpAny (model prog w) A (call (.type "set") [.ref l]) Q E s := by
  obtain ⟨c, tl, hmro⟩ := PySem.F.called_set.mro
  have hmade := PySem.F.called_set.made
  have hsub := PySem.F.called_set.sub
  refine wpAny_call (codeAny_of_tree ?_)
  show wpAny _ _ (callAny (.type "set") _) _ _ _
  refine wpAny_pure ⟨Code.quiet_builtin _ (by decide +kernel), codeAny_builtin PySem.F.entry_type_call ?_⟩
  rw [Around.under_plain (weight_type_call_type "set" [.ref l] []) rfl]
  have h1 := PySem.F.called_set.notType
  have h2 := PySem.F.called_set.canCreate
  have hct := PySem.F.typeCall_set_1 (.ref l)
  repeat (any_goals (first | assumption | wp_step))
  generalize hnew : ({ cls := .type "set", dict := none, data := .set #[] 0 (.fresh 0 0 (!w.params.followText "set-order")) } : Obj) = ob
  refine codeAny_mono (codeNewSet (E := E) (x := .ref l) (Q₁ := fun obj s₁ => obj = .ref s.heap.objs.size ∧ s₁ = { s with heap := s.heap.push ob }) (by rw [hnew]; exact ⟨rfl, rfl⟩)) fun r s₁ hr => ?_
  cases r with
  | error e => exact hr
  | ok fl =>
    cases fl with
    | ret obj =>
      obtain ⟨rfl, rfl⟩ := hr
      have hS : (s.heap.push ob).get? s.heap.objs.size = some ob := Heap.get?_push_size _ (by rw [← hnew]; rfl)
      have hcl : ob.cls = .type "set" := by rw [← hnew]
      have hT : Shared.TypeIs { s with heap := s.heap.push ob } (.ref s.heap.objs.size) "set" := ⟨_, hS, hcl⟩
      have hli := PySem.F.called_set.init.lookup
      have hbi := PySem.F.called_set.init.bind (.ref s.heap.objs.size)
      repeat (any_goals (first | assumption | wp_step))
      refine codeAny_mono (codeAny_call_builtin (R := wants (fun r s₂ => r = .none ∧ ∃ h' tk, s₂ = { s with heap := h', toks := tk } ∧ SetP prog w D h' s.heap.objs.size (gather [] keys) ∧ (∀ b o, s.heap.get? b = some o → h'.get? b = some o)) E)
        PySem.F.called_set.init.plain PySem.F.entry_set_init (check_set_init_1 hT ?_)) fun r₂ s₂ hr₂ => ?_
      · have hSK : SetP prog w D (s.heap.push ob) s.heap.objs.size [] := by
          subst hnew
          exact freshP hS
        obtain ⟨ol, hol, hcl2, nl, hdl⟩ := hl
        obtain ⟨ocls, odict, odata, oslots⟩ := ol
        simp only at hcl2 hdl
        subst hcl2 hdl
        have hol' : (s.heap.push ob).get? l = some { cls := .type "list", dict := odict, data := .seq items nl, slots := oslots } := Heap.get?_push_of_some _ hol
        have hl1 : (s.heap.push ob).IsList l items := ⟨_, hol', rfl, nl, rfl⟩
        have hsls := PySem.F.sub_list_set
        have hslf := PySem.F.sub_list_frozenset
        have hne : (Value.type "list" == Value.type "dict") = false := by decide
        subst hnew
        unfold Builtin.«set.__init__» noKeywords Builtin.Frozenset.updateFrom
        generalize hPI : pyIter = PI
        wp_walk
        subst hPI
        generalize hnew : ({ cls := .type "set", dict := none, data := .set #[] 0 (.fresh 0 0 (!w.params.followText "set-order")) } : Obj) = ob at *
        refine wpAny_pyIter_list hl1 (wpAny_bind (wpAny_runValue ?_))
        have hlS : l < s.heap.objs.size := Heap.lt_size hol
        have hh3 : A.in1.in1.in1.handled = none := by simp [hh]
        have hneI : l ≠ (s.heap.push ob).objs.size := by
          rw [Heap.size_push]; exact Nat.ne_of_lt (Nat.lt_succ_of_lt hlS)
        have hSf : s.heap.objs.size ∉ [(s.heap.push ob).objs.size, l] := by
          rw [Heap.size_push]
          intro hm
          rcases List.mem_cons.mp hm with e | hm
          · exact absurd e (Nat.ne_of_lt (Nat.lt_succ_self _))
          · exact absurd (List.mem_singleton.mp hm) (Nat.ne_of_gt hlS)
        have hkl : keys.length = items.size := by
          have := Paired.length hi
          simpa using this.symm
        refine fillLoopP (by simp; omega) ((Walks.list hh3 _ l hneI items).toS) hSf keys hkl (fun i b => items[i]? = some (.ref b)) (fun i v hv => ?_) (fun i b hd => ?_) (fun b hb i s1 st => ?_) hb keys [] [] _ rfl (fun k hk => by cases hk) ⟨⟨_, Heap.get?_push_size _ rfl, rfl, rfl⟩, hl1.push _⟩ (hSK.keep fun b o e => Heap.get?_push_of_some _ e) (fun i b hd => ?_) fun s' hm hS' => ?_
        · have hv' : items.toList[i]? = some v := by rw [Array.getElem?_toList]; exact hv
          obtain ⟨k, _, b, z1, z2, _⟩ := Paired.at' hi hv'
          exact ⟨b, z1, by rw [← z1]; exact hv⟩
        · have hv' : items.toList[i]? = some (.ref b) := by rw [Array.getElem?_toList]; exact hd
          obtain ⟨k, h1, b', z1, z2, z3⟩ := Paired.at' hi hv'
          injection z1 with z1
          subst z1
          exact z3
        · rw [List.mem_singleton.mp hb]
          obtain ⟨oI, hoI, hcI, _⟩ := st.1
          exact ⟨oI, hoI, by rw [hcI]; decide⟩
        · have hv' : items.toList[i]? = some (.ref b) := by rw [Array.getElem?_toList]; exact hd
          obtain ⟨k, h1, b', z1, z2, _⟩ := Paired.at' hi hv'
          injection z1 with z1
          subst z1
          exact ⟨k, h1, z2.keep fun b o e => Heap.get?_push_of_some _ (Heap.get?_push_of_some _ e)⟩
        · obtain ⟨h', g', d', tk', os'⟩ := s'
          have eg : g' = s.gens := hm.gens
          have ed : d' = s.drawn := hm.drawn
          have eo : os' = s.os := hm.os
          subst eg ed eo
          show wpAny _ _ _ _ _ _
          refine wpAny_pure ?_
          show wpAny _ _ (ret Value.none) _ _ _
          refine wpAny_pure ⟨rfl, h', tk', rfl, hS', fun b o e => ?_⟩
          have hb1 : b ≠ s.heap.objs.size := Nat.ne_of_lt (Heap.lt_size e)
          have hb2 : b ≠ (s.heap.push ob).objs.size := by
            rw [Heap.size_push]; exact Nat.ne_of_lt (Nat.lt_succ_of_lt (Heap.lt_size e))
          refine hm.heap b o (fun hmem => ?_) (Heap.get?_push_of_some _ (Heap.get?_push_of_some _ e))
          rcases List.mem_cons.mp hmem with z | hmem
          · exact hb1 z
          · exact hb2 (List.mem_singleton.mp hmem)
      · cases r₂ with
        | error e => exact hr₂
        | ok fl₂ =>
          cases fl₂ with
          | ret r =>
            obtain ⟨rfl, h', tk, rfl, hS', hk'⟩ := hr₂
            repeat (any_goals (first | assumption | wp_step))
            exact h _ _ hS' hk'
          | _ => exact hr₂.elim
    | _ => exact hr.elim
end
end L2
set_option Elab.async false
set_option linter.all false
set_option maxRecDepth 100000
set_option maxHeartbeats 4000000
/-! EXTENSION 15h: what one set of pairs has and another has not: how many. -/
namespace L2
open PySem PySem.Spec PyProof.Rows
theorem er_at {α : Type} (xs : Array α) (i k : Nat) : (SetTable.eraseAt xs i)[k]? = if k < i then xs[k]? else xs[k + 1]? := by
  have : (SetTable.eraseAt xs i).toList[k]? = if k < i then xs.toList[k]? else xs.toList[k + 1]? := by
    rw [erase_perm2, List.getElem?_eraseIdx]
  simpa using this
theorem er_size {α : Type} (xs : Array α) {i : Nat} (h : i < xs.size) : (SetTable.eraseAt xs i).size = xs.size - 1 := by
  rw [← Array.length_toList, erase_perm2, List.length_eraseIdx_of_lt (by simpa using h), Array.length_toList]
theorem rise_inj {xs : Array Nat} (hr : Rise xs) {i j a : Nat} (h1 : xs[i]? = some a) (h2 : xs[j]? = some a) : i = j := by
  rcases Nat.lt_trichotomy i j with z | z | z
  · exact absurd (hr.get h1 h2 z) (Nat.lt_irrefl _)
  · exact z
  · exact absurd (hr.get h2 h1 z) (Nat.lt_irrefl _)
theorem Good.drop {t : SetTable} {es : Array (Int × Value)} (g : Good t es) {i j : Nat} (hp : t.place[i]? = some j) : Good (t.drop i) (SetTable.eraseAt es i) := by
  obtain ⟨hi, _⟩ := Array.getElem?_eq_some_iff.mp hp
  have hi2 : i < es.size := by rw [← g.size]; exact hi
  have hdrop : t.drop i = { t with place := SetTable.eraseAt t.place i, dummies := SetTable.insertAt t.dummies (SetTable.below t.dummies j) j } := by
    unfold SetTable.drop
    rw [hp]
  rw [hdrop]
  have c := below_cut g.drise j
  have hcd := c.le
  -- the old slots stay taken
  have full : ∀ x, Full t x → Full { t with place := SetTable.eraseAt t.place i, dummies := SetTable.insertAt t.dummies (SetTable.below t.dummies j) j } x := by
    rintro x (⟨k, hk⟩ | ⟨k, hk⟩)
    · rcases Nat.lt_trichotomy k i with z | z | z
      · exact .inl ⟨k, by show (SetTable.eraseAt t.place i)[k]? = _; rw [er_at, if_pos z]; exact hk⟩
      · subst z
        rw [hp] at hk
        injection hk with hk
        subst hk
        exact .inr ⟨SetTable.below t.dummies j, by show (SetTable.insertAt t.dummies (SetTable.below t.dummies j) j)[_]? = _; rw [ins_at _ _ _ hcd, if_neg (Nat.lt_irrefl _), if_pos rfl]⟩
      · exact .inl ⟨k - 1, by show (SetTable.eraseAt t.place i)[k - 1]? = _; rw [er_at, if_neg (by omega), show k - 1 + 1 = k by omega]; exact hk⟩
    · refine .inr ?_
      by_cases z : k < SetTable.below t.dummies j
      · exact ⟨k, by show (SetTable.insertAt t.dummies (SetTable.below t.dummies j) j)[k]? = _; rw [ins_at _ _ _ hcd, if_pos z]; exact hk⟩
      · exact ⟨k + 1, by show (SetTable.insertAt t.dummies (SetTable.below t.dummies j) j)[k + 1]? = _; rw [ins_at _ _ _ hcd, if_neg (by omega), if_neg (by omega)]; exact hk⟩
  refine ⟨g.pw, ?_, ?_, ?_, ?_, ?_, ?_⟩
  · refine rise_of fun a b x y ha hb hab => ?_
    have ha' : (SetTable.eraseAt t.place i)[a]? = some x := ha
    have hb' : (SetTable.eraseAt t.place i)[b]? = some y := hb
    rw [er_at] at ha' hb'
    split at ha' <;> split at hb'
    · exact g.rise.get ha' hb' hab
    · exact g.rise.get ha' hb' (by omega)
    · omega
    · exact g.rise.get ha' hb' (by omega)
  · exact rise_insert g.drise c fun z => g.apart i _ j hp z
  · show (SetTable.eraseAt t.place i).size = _
    rw [er_size _ hi, er_size _ hi2, g.size]
  · have := g.fill
    unfold SetTable.fill at this ⊢
    show (SetTable.eraseAt t.place i).size + (SetTable.insertAt t.dummies (SetTable.below t.dummies j) j).size ≤ t.mask
    rw [er_size _ hi, ins_size _ _ _ hcd]
    omega
  · intro a b x ha hb
    have ha' : (SetTable.eraseAt t.place i)[a]? = some x := ha
    have hb' : (SetTable.insertAt t.dummies (SetTable.below t.dummies j) j)[b]? = some x := hb
    rw [er_at] at ha'
    rw [ins_at _ _ _ hcd] at hb'
    have hne : x ≠ j := fun z => by
      subst z
      split at ha'
      · have := rise_inj g.rise ha' hp; omega
      · have := rise_inj g.rise ha' hp; omega
    have hpl : ∃ a' : Nat, t.place[a']? = some x := by
      split at ha'
      · exact ⟨_, ha'⟩
      · exact ⟨_, ha'⟩
    obtain ⟨a', ha2⟩ := hpl
    split at hb'
    · exact g.apart a' _ x ha2 hb'
    · split at hb'
      · injection hb' with z; exact hne z.symm
      · exact g.apart a' _ x ha2 hb'
  · intro a h x y he hpl
    have hpl' : (SetTable.eraseAt t.place i)[a]? = some y := hpl
    rw [er_at] at he hpl'
    show Reach t.mask _ h y
    by_cases z : a < i
    · rw [if_pos z] at he hpl'
      exact (g.reach a h x y he hpl').mono full
    · rw [if_neg z] at he hpl'
      exact (g.reach (a + 1) h x y he hpl').mono full
theorem room_ok : ∀ n, n < 110 → 5 ≤ n → ∃ k, k < 10 ∧ 3 ≤ k ∧ SetTable.sizeAbove (n * 2) = 2 ^ k ∧ n ≤ SetTable.sizeAbove (n * 2) - 1 := by decide +kernel
section
variable {prog : Program} {w : World} {D : Addr → Prop} {A : Around} {E : Value → Shared → Prop} {s : Shared}
theorem Paired.erase {α β : Type} {R : α → β → Prop} : ∀ {l : List α} {k : List β} (i : Nat), Paired R l k → Paired R (l.eraseIdx i) (k.eraseIdx i)
  | _, _, _, .nil => .nil
  | _, _, 0, .cons _ t => t
  | _, _, i + 1, .cons r t => .cons r (Paired.erase i t)
/-- one pair taken out, if it is there -/
theorem discardP {a b : Addr} {es : Array (Int × Value)} {ep : Nat} {t : SetTable} {qs : List (Nat × Nat)} {q : Nat × Nat} {Q : Bool → Shared → Prop} (hu : A.units < cLine) (S : SetPA prog w D s.heap a es ep t qs) (hb : TupP prog w s.heap q b) (hsz : es.size < 1000)
    (h : ∀ h' bb es' ep' t' qs', Heap.SameBut a s.heap h' → SetPA prog w D h' a es' ep' t' qs' → qs.length ≤ qs'.length + 1 → qs'.length ≤ qs.length → Q bb { s with heap := h' }) :
    wpAny (model prog w) A (setDiscardHashed a (.ref b) (hashP prog w q)) Q E s := by
  obtain ⟨o, ho, hex, hd⟩ := S.obj
  unfold setDiscardHashed
  refine wpAny_bind (findP hu S hb fun r hr hi => ?_)
  cases r with
  | none =>
    dsimp only
    exact wpAny_pure (h s.heap false es ep t qs (Heap.SameBut.refl _ _) S (Nat.le_succ _) (Nat.le_refl _))
  | some i =>
    have hqi := hi i rfl
    obtain ⟨hil, _⟩ := List.getElem?_eq_some_iff.mp hqi
    have hi2 : i < es.size := by rw [S.len]; exact hil
    have hp : t.place[i]? = some (t.place[i]'(by rw [S.good.size]; exact hi2)) := Array.getElem?_eq_getElem _
    dsimp only
    refine wpAny_bind (wpAny_setState_of ho hd S.fits ?_)
    dsimp only
    have hle : (SetTable.eraseAt es i).size ≤ es.size := by rw [er_size _ hi2]; omega
    refine wpAny_bind (wpAny_storeSet_of ho hd ?_ (by rw [sizeLine_eq]; omega))
    refine wpAny_bind (wpAny_point (wpAny_pure ?_))
    have hent : Paired (EntP prog w D s.heap) (SetTable.eraseAt es i).toList (qs.eraseIdx i) := by
      rw [erase_perm2]
      exact Paired.erase i S.ents
    have hl2 : (t.drop i).led = t.led := by unfold SetTable.drop; rw [hp]
    have hp2 : (t.drop i).plain = t.plain := by unfold SetTable.drop; rw [hp]
    refine h _ true _ _ _ (qs.eraseIdx i) (Heap.SameBut.update _ _ _) (S.store hent (S.nodup.sublist (List.eraseIdx_sublist _ _)) (S.good.drop hp) hl2 hp2) ?_ ?_
    · rw [List.length_eraseIdx_of_lt hil]; omega
    · rw [List.length_eraseIdx_of_lt hil]; omega
/-- a copy -/
theorem copyP {a : Addr} {qs : List (Nat × Nat)} {Q : Value → Shared → Prop} (hA : SetP prog w D s.heap a qs) (h4 : 4 ≤ qs.length) (h10 : qs.length < 110)
    (h : ∀ h' es ep t qs', (∀ c u, s.heap.get? c = some u → h'.get? c = some u) → SetPA prog w D h' s.heap.objs.size es ep t qs' → qs'.Perm qs → Q (.ref s.heap.objs.size) { s with heap := h' }) :
    wpAny (model prog w) A (Builtin.Frozenset.copyOf a) Q E s := by
  unfold Builtin.Frozenset.copyOf
  refine wpAny_bind (baseOfP hA.typeIs (wpAny_bind (newSetP (D := D) fun hN => ?_)))
  have na : a ≠ s.heap.objs.size := Nat.ne_of_lt hA.lt
  refine wpAny_bind (wpAny_pure ?_)
  have old : ∀ c u, s.heap.get? c = some u → (s.heap.push { cls := .type "set", dict := none, data := .set #[] 0 (.fresh 0 0 (!w.params.followText "set-order")) }).get? c = some u := fun c u e => Heap.get?_push_of_some _ e
  have hA1 := hA.keep old
  have hget : (s.heap.push { cls := .type "set", dict := none, data := .set #[] 0 (.fresh 0 0 (!w.params.followText "set-order")) }).get? s.heap.objs.size = some { cls := .type "set", dict := none, data := .set #[] 0 (.fresh 0 0 (!w.params.followText "set-order")) } := Heap.get?_push_size _ rfl
  generalize s.heap.push { cls := .type "set", dict := none, data := .set #[] 0 (.fresh 0 0 (!w.params.followText "set-order")) } = h1 at hA1 hget old ⊢
  have N : SetPA prog w D h1 s.heap.objs.size #[] 0 (.fresh 0 0 (!w.params.followText "set-order")) [] := freshPA hget
  obtain ⟨es, ep, t, qs', S, hdm, htf, p⟩ := id hA1
  obtain ⟨o, ho, hex, hd⟩ := S.obj
  have hlen := S.len
  have hpl := p.length_eq
  rw [setMerge_eq]
  rw [if_neg (by intro z; exact na (eq_of_beq z).symm)]
  refine wpAny_bind (wpAny_bind (wpAny_setState_of (s := { s with heap := h1 }) ho hd S.fits ?_))
  dsimp only
  rw [if_neg (by intro z; have := Array.isEmpty_iff_size_eq_zero.mp z; omega)]
  -- room
  refine wpAny_bind (wpAny_mono (Q := fun _ s' => ∃ h2 ep2 t2, s' = { s with heap := h2 } ∧ Heap.SameBut s.heap.objs.size h1 h2 ∧ SetPA prog w D h2 s.heap.objs.size #[] ep2 t2 [] ∧ t2.dummies = #[] ∧ es.size ≤ t2.mask) ?_ (fun _ s' hs' => ?_) fun _ _ x => x)
  · unfold setRoomFor
    obtain ⟨oN, hoN, hexN, hdN⟩ := N.obj
    refine wpAny_bind (wpAny_setState_of (s := { s with heap := h1 }) hoN hdN N.fits ?_)
    by_cases h5 : 5 ≤ es.size
    · have hr : (SetTable.fresh 0 0 (!w.params.followText "set-order")).roomFor es.size = some (es.size * 2) := by
        unfold SetTable.roomFor SetTable.fresh SetTable.fill
        simp only [List.size_toArray, List.length_nil, Nat.add_zero, Nat.zero_add]
        rw [if_pos (by omega)]
      rw [hr]
      dsimp only
      obtain ⟨k, k1, k2, k3, k4⟩ := room_ok es.size (by omega) h5
      refine relayP (s := { s with heap := h1 }) N ⟨k, k2, by omega, k3⟩ (Nat.zero_le _) fun h' es' ep' t' qs2 sb S2 dm mk sz p2 => ?_
      have e0 : es' = #[] := Array.size_eq_zero_iff.mp sz
      subst e0
      have q0 : qs2 = [] := by simpa using p2
      subst q0
      exact ⟨h', ep', t', rfl, sb, S2, dm, by rw [mk]; exact k4⟩
    · have hr : (SetTable.fresh 0 0 (!w.params.followText "set-order")).roomFor es.size = none := by
        unfold SetTable.roomFor SetTable.fresh SetTable.fill
        simp only [List.size_toArray, List.length_nil, Nat.add_zero, Nat.zero_add]
        rw [if_neg (by omega)]
      rw [hr]
      exact wpAny_pure ⟨h1, 0, _, rfl, Heap.SameBut.refl _ _, N, rfl, by show es.size ≤ 7; omega⟩
  obtain ⟨h2, ep2, t2, rfl, sb2, N2, dm2, hm2⟩ := hs'
  obtain ⟨oN, hoN, hexN, hdN⟩ := N2.obj
  have S2 : SetPA prog w D h2 a es ep t qs' := S.but hget rfl sb2 na
  refine wpAny_bind (wpAny_setState_of (s := { s with heap := h2 }) hoN hdN N2.fits ?_)
  dsimp only
  have keep2 : ∀ c u, s.heap.get? c = some u → h2.get? c = some u := fun c u e => (sb2.2 c (Nat.ne_of_lt (Heap.lt_size e))).trans (old c u e)
  have keep3 : ∀ (ee : Array (Int × Value)) (tt : SetTable) c u, s.heap.get? c = some u → (h2.update s.heap.objs.size (Obj.putSet ee tt)).get? c = some u := fun ee tt c u e => ((Heap.SameBut.update h2 s.heap.objs.size (Obj.putSet ee tt)).2 c (Nat.ne_of_lt (Heap.lt_size e))).trans (keep2 c u e)
  have hfill : t2.fill = 0 := by
    unfold SetTable.fill
    rw [dm2, N2.good.size]
    rfl
  have ledd : (t2.led && t.led) = t2.led := by
    rw [N2.led, S2.led]
    cases (!w.params.followText "set-order") <;> rfl
  have plnn : (t2.plain && t.plain) = t2.plain := by
    rw [N2.plain, S2.plain]; rfl
  have hroad : t2.road t = .slotForSlot ∨ t2.road t = .clean := by
    unfold SetTable.road
    rw [hfill]
    simp only [bne_self_eq_false, Bool.false_eq_true, if_false]
    split
    · exact .inl rfl
    · exact .inr rfl
  rcases hroad with hr | hr
  · rw [hr]
    dsimp only
    refine wpAny_storeSet_of (s := { s with heap := h2 }) (es' := es) hoN hdN ?_ (by rw [sizeLine_eq]; omega)
    have g2 : Good { t with finger := t2.finger, led := t2.led && t.led, moves := t2.moves, plain := t2.plain && t.plain } es := ⟨S.good.pw, S.good.rise, S.good.drise, S.good.size, S.good.fill, S.good.apart, S.good.reach⟩
    have S3 := N2.store S2.ents S2.nodup g2 ledd plnn
    exact wpAny_pure (h _ _ _ _ _ (keep3 _ _) S3 p)
  · rw [hr]
    dsimp only
    obtain ⟨t', o', e1, e2, e4, e5, e6, e7, e8⟩ := laid_good (mask := t2.mask) (finger := t2.finger) (moves := t2.moves) (led := t2.led && t.led) (plain := t2.plain && t.plain) (es := es) N2.good.pw hm2
    rw [e1]
    have hsz : (o'.filterMap (es[·]?)).size = es.size := by
      have := e7.length_eq
      rwa [Array.length_toList, Array.length_toList] at this
    dsimp only
    rw [if_neg (by rw [hsz]; simp)]
    refine wpAny_bind (wpAny_bind (wpAny_pure (wpAny_pure ?_)))
    refine wpAny_storeSet_of (s := { s with heap := h2 }) hoN hdN ?_ (by rw [hsz, sizeLine_eq]; omega)
    obtain ⟨qs3, he3, p3⟩ := Paired.perm e7.symm S2.ents
    have S3 := N2.store he3 (p3.nodup_iff.mpr S2.nodup) e8 (e4.trans ledd) (e5.trans plnn)
    exact wpAny_pure (h _ _ _ _ _ (keep3 _ _) S3 (p3.trans p))
end
end L2
set_option Elab.async false
set_option linter.all false
set_option maxRecDepth 100000
set_option maxHeartbeats 4000000
/-! EXTENSION 15i: what one set of pairs has and another has not: how many, going on. -/
namespace L2
open PySem PySem.Spec PyProof.Rows
section
variable {prog : Program} {w : World} {D : Addr → Prop} {A : Around} {E : Value → Shared → Prop} {s : Shared}
theorem tidyP {a : Addr} {es : Array (Int × Value)} {ep : Nat} {t : SetTable} {qs : List (Nat × Nat)} {Q : Unit → Shared → Prop} (S : SetPA prog w D s.heap a es ep t qs) (hsz : qs.length < 110)
    (h : ∀ h' es' ep' t' qs', Heap.SameBut a s.heap h' → SetPA prog w D h' a es' ep' t' qs' → qs'.length = qs.length → Q () { s with heap := h' }) : wpAny (model prog w) A (setTidy a) Q E s := by
  obtain ⟨o, ho, hex, hd⟩ := S.obj
  have hl := S.len
  unfold setTidy
  refine wpAny_bind (wpAny_setState_of ho hd S.fits ?_)
  dsimp only
  split
  · obtain ⟨k, k1, k2, k3, k4, k5⟩ := grow_ok es.size (by omega)
    exact relayP S ⟨k, k2, by omega, k3⟩ k4 fun h' es' ep' t' qs' sb S' _ _ _ p => h h' es' ep' t' qs' sb S' p.length_eq
  · exact wpAny_pure (h s.heap es ep t qs (Heap.SameBut.refl _ _) S rfl)
theorem updateP {id : String} {r b : Addr} {es : Array (Int × Value)} {ep : Nat} {t : SetTable} {qs : List (Nat × Nat)} {eb : Array (Int × Value)} {epb : Nat} {tb : SetTable} {ls : List (Nat × Nat)} {Q : Unit → Shared → Prop} (hu : A.units < cLine)
    (S : SetPA prog w D s.heap r es ep t qs) (SB : SetPA prog w D s.heap b eb epb tb ls) (hne : r ≠ b) (hlt : ls.length < qs.length) (hsz : qs.length < 110)
    (h : ∀ h' dr es' ep' t' qs', Heap.SameBut r s.heap h' → SetPA prog w D h' r es' ep' t' qs' → 1 ≤ qs'.length → qs'.length < 110 → Q () { s with heap := h', drawn := dr }) :
    wpAny (model prog w) A (Builtin.Frozenset.differenceUpdate id r (.ref b)) Q E s := by
  obtain ⟨o, ho, hex, hd⟩ := S.obj
  unfold Builtin.Frozenset.differenceUpdate
  rw [if_neg (by intro z; have z' : Value.ref b = Value.ref r := eq_of_beq z; injection z' with z'; exact hne z'.symm)]
  refine wpAny_bind (anySetP SB.typeIs ?_)
  dsimp only
  rw [if_pos rfl]
  refine wpAny_bind (wpAny_pure ?_)
  refine wpAny_bind (sizeP SB (wpAny_bind (sizeP S ?_)))
  rw [if_neg (by omega)]
  refine wpAny_bind (epochP SB (wpAny_bind (wpAny_holding (wpAny_bind (walkUnseenP SB fun ys ls' dr hy hp => ?_)))))
  have hl' := hp.length_eq
  refine wpAny_bind (MeetsSeq2.wpAny_forIn_array _ (fun rest (_ : PUnit) s' => ∃ (done : Nat) (left : List (Nat × Nat)) (h' : Heap) (es' : Array (Int × Value)) (ep' : Nat) (t' : SetTable) (qs' : List (Nat × Nat)), s' = { s with heap := h', drawn := dr } ∧ Heap.SameBut r s.heap h' ∧ Paired (EntP prog w D s.heap) rest left ∧ SetPA prog w D h' r es' ep' t' qs' ∧ qs.length ≤ qs'.length + done ∧ done + left.length = ls.length ∧ qs'.length ≤ qs.length)
    _ ?_ ?_ ys PUnit.unit ⟨0, ls', s.heap, es, ep, t, qs, rfl, Heap.SameBut.refl _ _, hy, S, Nat.le_refl _, by omega, Nat.le_refl _⟩)
  · rintro ⟨eh, ex⟩ rest ⟨⟩ s' ⟨done, left, h1, es', ep', t', qs', rfl, sb, hpr, S1, c1, c2, c3⟩
    cases hpr with
    | cons re tl =>
      rename_i q left'
      obtain ⟨c, e1, e2, e3, hD⟩ := re
      dsimp only at e1 e2 e3 ⊢
      subst e1 e3
      have hlen1 := S1.len
      refine wpAny_bind (wpAny_holding (discardP (s := { s with heap := h1, drawn := dr }) hu S1 (e2.but ho hd sb) (by omega) fun h2 bb es2 ep2 t2 qs2 sb2 S2 d1 d2 => ?_))
      refine wpAny_bind (unchangedP (s := { s with heap := h2, drawn := dr }) (SB.but ho hd (sb.trans sb2) (Ne.symm hne)) (wpAny_pure ?_))
      simp only [List.length_cons] at c2
      exact ⟨done + 1, left', h2, es2, ep2, t2, qs2, rfl, sb.trans sb2, tl, S2, by omega, by omega, by omega⟩
  · rintro ⟨⟩ s' ⟨done, left, h1, es', ep', t', qs', rfl, sb, hpr, S1, c1, c2, c3⟩
    cases hpr
    simp only [List.length_nil, Nat.add_zero] at c2
    refine wpAny_pure ?_
    exact tidyP (s := { s with heap := h1, drawn := dr }) S1 (by omega) fun h2 es2 ep2 t2 qs2 sb2 S2 e => h h2 dr es2 ep2 t2 qs2 (sb.trans sb2) S2 (by omega) (by omega)
/-- a set, by the number of its elements -/
def SetN (h : Heap) (a : Addr) (n : Nat) : Prop := ∃ o es ep t, h.get? a = some o ∧ o.ExactSet ∧ o.data = .set es ep t ∧ t.fits es.size = true ∧ es.size = n ∧ n < 1000
theorem SetPA.setN {h : Heap} {a : Addr} {es : Array (Int × Value)} {ep : Nat} {t : SetTable} {qs : List (Nat × Nat)} (S : SetPA prog w D h a es ep t qs) (hl : qs.length < 1000) : SetN h a qs.length :=
  let ⟨o, ho, hx, hd⟩ := S.obj
  ⟨o, es, ep, t, ho, hx, hd, S.fits, S.len, hl⟩
/-- what the one has and the other has not -/
theorem diffP {id : String} {a b : Addr} {ks ls : List (Nat × Nat)} {Q : Value → Shared → Prop} (hu : A.units < cLine) (hA : SetP prog w D s.heap a ks) (hB : SetP prog w D s.heap b ls) (hne : a ≠ b) (hka : ks.length + 1 < 110)
    (h : ∀ h' dr n, (∀ c u, s.heap.get? c = some u → h'.get? c = some u) → SetN h' s.heap.objs.size n → (n = 0 ↔ ∀ k ∈ ks, k ∈ ls) → Q (.ref s.heap.objs.size) { s with heap := h', drawn := dr }) :
    wpAny (model prog w) A (Builtin.Frozenset.difference id a (.ref b)) Q E s := by
  obtain ⟨ea, epa, ta, ka, SA, dA, fA, pA⟩ := _root_.id hA
  obtain ⟨eb, epb, tb, lb, SB, dB, fB, pB⟩ := _root_.id hB
  have hla := pA.length_eq
  have hlb := pB.length_eq
  unfold Builtin.Frozenset.difference
  refine wpAny_bind (anySetP hB.typeIs ?_)
  simp only [Bool.not_true, Bool.false_eq_true, ↓reduceIte, Bool.false_and]
  refine wpAny_bind (wpAny_pure ?_)
  refine wpAny_bind (sizeP SB (wpAny_bind (sizeP SA ?_)))
  have na : a ≠ s.heap.objs.size := Nat.ne_of_lt hA.lt
  have nb : b ≠ s.heap.objs.size := Nat.ne_of_lt hB.lt
  by_cases hc : ka.length / 4 > lb.length
  · rw [if_pos hc]
    refine wpAny_bind (wpAny_rule (wpAny_bind (copyP hA (by omega) (by omega) fun h' es ep t qs' old S p => ?_)))
    have hpl := p.length_eq
    refine wpAny_bind (wpAny_pure (wpAny_bind (wpAny_holding (updateP (s := { s with heap := h' }) hu S (SB.keep old) (Ne.symm nb) (by omega) (by omega) fun h2 dr es' ep' t' qs2 sb S2 h1 h110 => ?_))))
    refine wpAny_pure (h h2 dr qs2.length (fun c u e => (sb.2 c (Nat.ne_of_lt (Heap.lt_size e))).trans (old c u e)) (S2.setN (by omega)) ⟨fun z => by omega, fun hall => ?_⟩)
    have := len_sub hA.nodup hall
    omega
  · rw [if_neg hc]
    refine wpAny_bind (baseOfP hA.typeIs (wpAny_bind (newSetP (D := D) fun hN => ?_)))
    refine wpAny_bind (wpAny_pure ?_)
    have old : ∀ c u, s.heap.get? c = some u → (s.heap.push { cls := .type "set", dict := none, data := .set #[] 0 (.fresh 0 0 (!w.params.followText "set-order")) }).get? c = some u := fun c u e => Heap.get?_push_of_some _ e
    have SA1 := SA.keep old
    have SB1 := SB.keep old
    generalize s.heap.push { cls := .type "set", dict := none, data := .set #[] 0 (.fresh 0 0 (!w.params.followText "set-order")) } = h1 at hN SA1 SB1 old ⊢
    refine wpAny_bind (epochP (s := { s with heap := h1 }) SA1 ?_)
    refine wpAny_bind (wpAny_holding (wpAny_bind (walkUnseenP (s := { s with heap := h1 }) SA1 fun ys ls' dr hy hp => ?_)))
    have hl' := hp.length_eq
    obtain ⟨oN, esN, epN, tN, hoN, _, hdN⟩ := hN.obj
    refine wpAny_bind (MeetsSeq2.wpAny_forIn_array _ (fun rest (_ : PUnit) s' => ∃ (done left : List (Nat × Nat)) (h' : Heap), s' = { s with heap := h', drawn := dr } ∧ Heap.SameBut s.heap.objs.size h1 h' ∧ done ++ left = ls' ∧ Paired (EntP prog w D h1) rest left ∧ SetP prog w D h' s.heap.objs.size (done.filter fun k => !decide (k ∈ lb)))
      _ ?_ ?_ ys PUnit.unit ⟨[], ls', h1, rfl, Heap.SameBut.refl _ _, rfl, hy, hN⟩)
    · rintro ⟨eh, ex⟩ rest ⟨⟩ s' ⟨done, left, h2, rfl, sb, e0, hpr, S1⟩
      cases hpr with
      | cons re tl =>
        rename_i q left'
        obtain ⟨c, e1, e2, e3, hD⟩ := re
        dsimp only at e1 e2 e3 ⊢
        subst e1 e3
        have hk : q ∉ done := by
          intro z
          have hnd : ls'.Nodup := hp.nodup_iff.mpr SA.nodup
          rw [← e0] at hnd
          exact (List.nodup_append.mp hnd).2.2 q z q List.mem_cons_self rfl
        have hlen2 : (done ++ q :: left').length = ls'.length := by rw [e0]
        simp only [List.length_append, List.length_cons] at hlen2
        have hfl := List.length_filter_le (fun k => !decide (k ∈ lb)) done
        have tq : TupP prog w h2 q c := e2.but hoN hdN sb
        refine wpAny_bind (wpAny_holding (wpAny_bind (findP (s := { s with heap := h2, drawn := dr }) hu (SB1.but hoN hdN sb nb) tq fun res hres _ => wpAny_bind (wpAny_pure ?_))))
        rw [hres]
        by_cases hc : (!decide (q ∈ lb)) = true
        · rw [if_pos hc]
          refine wpAny_bind (addP (s := { s with heap := h2, drawn := dr }) hu S1 tq hD (by omega) fun h3 bb sb3 S3 => ?_)
          refine wpAny_pure (wpAny_bind (unchangedP (s := { s with heap := h3, drawn := dr }) (SA1.but hoN hdN (sb.trans sb3) na) (wpAny_pure ⟨done ++ [q], left', h3, rfl, sb.trans sb3, by rw [← e0]; simp, tl, ?_⟩)))
          unfold addK at S3
          rw [if_neg (fun z => hk (List.mem_filter.mp z).1)] at S3
          rw [List.filter_append]
          simpa [hc] using S3
        · rw [if_neg hc]
          refine wpAny_pure (wpAny_bind (unchangedP (s := { s with heap := h2, drawn := dr }) (SA1.but hoN hdN sb na) (wpAny_pure ⟨done ++ [q], left', h2, rfl, sb, by rw [← e0]; simp, tl, ?_⟩)))
          rw [List.filter_append]
          simpa [hc] using S1
    · rintro ⟨⟩ s' ⟨done, left, h2, rfl, sb, e0, hpr, S1⟩
      cases hpr
      rw [List.append_nil] at e0
      subst e0
      refine wpAny_pure (wpAny_pure ?_)
      have hfl := List.length_filter_le (fun k => !decide (k ∈ lb)) done
      obtain ⟨e9, ep9, t9, q9, S9, _, _, p9⟩ := S1
      have hl9 := p9.length_eq
      have sn := S9.setN (by omega)
      rw [hl9] at sn
      refine h h2 dr _ (fun c u e => (sb.2 c (Nat.ne_of_lt (Heap.lt_size e))).trans (old c u e)) sn ?_
      rw [List.length_eq_zero_iff, List.filter_eq_nil_iff]
      constructor
      · intro hall k hk
        have := hall k (hp.mem_iff.mpr (pA.mem_iff.mpr hk))
        have hm : k ∈ lb := by simpa using this
        exact pB.mem_iff.mp hm
      · intro hall k hk
        have := pB.mem_iff.mpr (hall k (pA.mem_iff.mp (hp.mem_iff.mp hk)))
        simpa using this
end
end L2
set_option Elab.async false
set_option linter.all false
set_option maxRecDepth 100000
set_option maxHeartbeats 4000000
/-! EXTENSION 15j: sets of pairs in the layer. -/
namespace L2
open PySem PySem.Spec PyProof.Rows
abbrev PrA := (Nat × Nat) × Addr
/-- a set of pairs, by its pairs and where they lie -/
def SetB (P : Program) (w : World) (h : Heap) (a : Addr) (ps : List PrA) : Prop := ∃ es ep t, (∃ o, h.get? a = some o ∧ o.ExactSet ∧ o.data = .set es ep t) ∧ Paired (fun (e : Int × Value) (p : PrA) => e.2 = .ref p.2 ∧ e.1 = hashP P w p.1) es.toList ps ∧ (ps.map (·.1)).Nodup ∧ Good t es ∧ (t.led = !w.params.followText "set-order") ∧ t.plain = true ∧ t.dummies = #[] ∧ t.tooFull = false
section
variable {P : Program} {w : World}
theorem SetB.keep {h h' : Heap} {a : Addr} {ps : List PrA} (x : SetB P w h a ps) (k : ∀ o, h.get? a = some o → h'.get? a = some o) : SetB P w h' a ps :=
  let ⟨es, ep, t, ⟨o, ho, r⟩, q⟩ := x
  ⟨es, ep, t, ⟨o, k o ho, r⟩, q⟩
theorem toP_go {D : Addr → Prop} {h : Heap} : ∀ {l : List (Int × Value)} {ps : List PrA}, Paired (fun (e : Int × Value) (p : PrA) => e.2 = .ref p.2 ∧ e.1 = hashP P w p.1) l ps → (∀ p ∈ ps, TupP P w h p.1 p.2 ∧ D p.2) → Paired (EntP P w D h) l (ps.map (·.1))
  | _, _, .nil, _ => .nil
  | _, _, .cons r t, h => .cons ⟨_, r.1, (h _ List.mem_cons_self).1, r.2, (h _ List.mem_cons_self).2⟩ (toP_go t fun p hp => h p (List.mem_cons_of_mem _ hp))
theorem SetB.toP {D : Addr → Prop} {h : Heap} {a : Addr} {ps : List PrA} (x : SetB P w h a ps) (ht : ∀ p ∈ ps, TupP P w h p.1 p.2 ∧ D p.2) : SetP P w D h a (ps.map (·.1)) :=
  let ⟨es, ep, t, ho, he, nd, g, l, pl, d, f⟩ := x
  ⟨es, ep, t, ps.map (·.1), ⟨ho, toP_go he ht, nd, g, l, pl⟩, d, f, List.Perm.refl _⟩
theorem ofP_go {D : Addr → Prop} {h : Heap} : ∀ {l : List (Int × Value)} {qs : List (Nat × Nat)}, Paired (EntP P w D h) l qs → ∃ ps : List PrA, ps.map (·.1) = qs ∧ Paired (fun (e : Int × Value) (p : PrA) => e.2 = .ref p.2 ∧ e.1 = hashP P w p.1) l ps ∧ ∀ p ∈ ps, TupP P w h p.1 p.2 ∧ D p.2
  | _, _, .nil => ⟨[], rfl, .nil, fun p h => nomatch h⟩
  | _, _, .cons (b := q) r t => by
    obtain ⟨ps, e1, e2, e3⟩ := ofP_go t
    obtain ⟨b, z1, z2, z3, z4⟩ := r
    refine ⟨(q, b) :: ps, by simp [e1], .cons ⟨z1, z3⟩ e2, fun p hp => ?_⟩
    rcases List.mem_cons.mp hp with rfl | hp
    · exact ⟨z2, z4⟩
    · exact e3 p hp
theorem SetB.ofP {D : Addr → Prop} {h : Heap} {a : Addr} {qs : List (Nat × Nat)} (x : SetP P w D h a qs) : ∃ ps, SetB P w h a ps ∧ (ps.map (·.1)).Perm qs ∧ ∀ p ∈ ps, TupP P w h p.1 p.2 ∧ D p.2 := by
  obtain ⟨es, ep, t, qs', S, d, f, p⟩ := x
  obtain ⟨ps, e1, e2, e3⟩ := ofP_go S.ents
  exact ⟨ps, ⟨es, ep, t, S.obj, e2, by rw [e1]; exact S.nodup, S.good, S.led, S.plain, d, f⟩, by rw [e1]; exact p, e3⟩
end
def setPO (P : Program) (w : World) (a : Addr) (ps : List PrA) : HO := .ext fun h => SetB P w h a ps
def lenO (a : Addr) (n : Nat) : HO := .ext fun h => SetN h a n
/-- few pairs of small numbers -/
theorem few_pairs {ks : List (Nat × Nat)} (nd : ks.Nodup) (hb : ∀ k ∈ ks, k.1 < 10 ∧ k.2 < 10) : ks.length ≤ 100 := by
  have := len_sub (b := (List.range 10).flatMap fun i => (List.range 10).map fun j => (i, j)) nd fun x hx => by
    obtain ⟨h1, h2⟩ := hb x hx
    exact List.mem_flatMap.mpr ⟨x.1, List.mem_range.mpr h1, List.mem_map.mpr ⟨x.2, List.mem_range.mpr h2, rfl⟩⟩
  have e : ((List.range 10).flatMap fun i => (List.range 10).map fun j => (i, j)).length = 100 := by decide
  omega
section
variable {X : Cx} {pins : List (Addr × Obj)} {σ : St} {H : Hp} {s : Shared}
theorem Inv.tupP (I : Inv X pins σ H s) {q : Nat × Nat} {b : Addr} (hx : IsP H q (.ref b)) : TupP X.prog X.w s.heap q b := by
  obtain ⟨p, e, hp⟩ := hx
  cases e
  obtain ⟨u0, u1, ⟨o, ho, hc, n, hd⟩, ⟨t0, rfl⟩, ⟨t1, rfl⟩⟩ := tup2_at I hp
  exact ⟨o, _, n, ho, hc, hd, .cons (intKind_is _ _ _ _) (.cons (intKind_is _ _ _ _) .nil)⟩
theorem setPO_ok {P : Program} {w : World} {H : Hp} {h : Heap} {a : Addr} {ps : List PrA} (x : SetB P w h a ps) : ObjOk P w H h a (setPO P w a ps) :=
  ⟨x, let ⟨_, _, _, ⟨o, ho, _⟩, _⟩ := x; ⟨o, ho⟩, fun h1 h2 y k => y.keep k⟩
theorem Inv.setB (I : Inv X pins σ H s) {a : Addr} {ps : List PrA} (h : H a = some (setPO X.prog X.w a ps)) : SetB X.prog X.w s.heap a ps := (I.hok a _ h).1
theorem Inv.setP (I : Inv X pins σ H s) {a : Addr} {ps : List PrA} (h : H a = some (setPO X.prog X.w a ps)) (hp : ∀ x ∈ ps, IsP H x.1 (.ref x.2)) : SetP X.prog X.w (fun _ => True) s.heap a (ps.map (·.1)) :=
  (I.setB h).toP fun p hm => ⟨I.tupP (hp p hm), trivial⟩
/-- set(xs), xs a list of pairs -/
def rSetP (P : Program) (w : World) : List V → Hp → VK → Prop := fun xs H Q => ∃ (a : Addr) (vs : List V) (qs : List (Nat × Nat)), xs = [.ref a] ∧ H a = some (.lst vs) ∧ PL H vs qs ∧ (∀ q ∈ qs, q.1 < 10 ∧ q.2 < 10) ∧
  ∀ p (ps : List PrA), H p = none → (∀ q, q ∈ ps.map (·.1) ↔ q ∈ qs) → (ps.map (·.1)).Nodup → (∀ x ∈ ps, IsP H x.1 (.ref x.2)) → Q (.ref p) (upd H p (setPO P w p ps))
theorem pl_keys {D : Addr → Prop} (I : Inv X pins σ H s) : ∀ {vs : List V} {us : List Value} {qs : List (Nat × Nat)}, (∀ q b, IsP H q (.ref b) → D b) → PL H vs qs → Vals vs us → Paired (fun v k => ∃ b, v = .ref b ∧ TupP X.prog X.w s.heap k b ∧ D b) us qs
  | _, _, _, _, .nil, .nil => .nil
  | _, _, _, hD, .cons ⟨b, e, hb⟩ t, .cons rv tv => by
    subst e
    cases rv
    exact .cons ⟨b, rfl, I.tupP ⟨b, rfl, hb⟩, hD _ b ⟨b, rfl, hb⟩⟩ (pl_keys I hD t tv)
theorem call_setP (hc : X.calm = true) (hu : X.A.units + 64 < cLine) : CallR X (.type "set") (rSetP X.prog X.w) := by
  intro pins s σ H xs us Q I r h
  obtain ⟨a, vs, qs, rfl, ha, hpl, hbd, q⟩ := h
  obtain ⟨u, rfl, ru⟩ := r.one
  cases ru
  obtain ⟨its, rv, p, hz⟩ := I.list (SqL.of ha)
  refine call_setPairs (D := fun b => ∃ q, IsP H q (.ref b)) (I.ok.hd hc) p.isList (by omega) (by rw [List.toList_toArray]; exact pl_keys I (fun q b z => ⟨q, z⟩) hpl rv) (fun ks nd hk => by have := few_pairs nd fun k hm => hbd k (hk k hm); omega) fun h' tk hS hk => ?_
  obtain ⟨ps, B, pp, ht⟩ := SetB.ofP hS
  have I2 : Inv X pins σ (upd H s.heap.objs.size (setPO X.prog X.w s.heap.objs.size ps)) { s with heap := h', toks := tk } := I.laid (t' := tk) hk (Nat.le_refl _) (setPO_ok B)
  refine ⟨.ref s.heap.objs.size, _, I2, rfl, q _ ps I.fresh (fun k => ?_) (pp.nodup_iff.mpr hS.nodup) fun x hx => ?_⟩
  · rw [pp.mem_iff, mem_gather]; simp
  · obtain ⟨z1, q', z2⟩ := ht x hx
    have z3 := (I.tupP z2).keep hk
    have : x.1 = q' := keyP_inj (IsTupleKey.inj z1 z3)
    rw [this]; exact z2
theorem binarySetP {id rid : String} {f : String → Addr → Value → Sem Value} {a b : Addr} {prog : Program} {w : World} {A : Around} {E : Value → Shared → Prop} {s : Shared} {Q : Value → Shared → Prop} (hA : s.TypeIs (.ref a) "set") (hB : s.TypeIs (.ref b) "set")
    (h : wpAny (model prog w) A (f id a (.ref b)) Q E s) :
    wpAny (model prog w) A (do
      if !(← Builtin.Frozenset.isAnySet (.ref a) <&&> Builtin.Frozenset.isAnySet (.ref b)) then rule rid; return ← ret .notImplemented
      ret (← f id (← Builtin.Frozenset.addrOf (.ref a)) (.ref b))) (fun fin s' => ∃ v, fin = .done (.ret v) ∧ Q v s') E s := by
  refine wpAny_bind (wpAny_bind (anySetP hA ?_))
  refine anySetP hB ?_
  simp only [Bool.not_true, Bool.false_eq_true, ↓reduceIte]
  refine wpAny_bind (wpAny_pure (wpAny_bind (thn h fun v s' q => ?_)))
  exact wpAny_pure ⟨v, rfl, q⟩
/-- s - t, of sets of pairs: a set of which the size is told -/
def rSubP (P : Program) (w : World) : R2 := fun x y H Q => ∃ (a b : Addr) (ps rs : List PrA), x = .ref a ∧ y = .ref b ∧ a ≠ b ∧ H a = some (setPO P w a ps) ∧ H b = some (setPO P w b rs) ∧ (∀ x ∈ ps, IsP H x.1 (.ref x.2)) ∧ (∀ x ∈ rs, IsP H x.1 (.ref x.2)) ∧ ps.length ≤ 100 ∧
  ∀ p n, H p = none → (n = 0 ↔ ∀ k ∈ ps.map (·.1), k ∈ rs.map (·.1)) → Q (.ref p) (upd H p (lenO p n))
theorem lenO_ok {P : Program} {w : World} {H : Hp} {h : Heap} {a : Addr} {n : Nat} (x : SetN h a n) : ObjOk P w H h a (lenO a n) :=
  ⟨x, let ⟨o, _, _, _, ho, _⟩ := x; ⟨o, ho⟩, fun h1 h2 y k => let ⟨o, es, ep, t, ho, r⟩ := y; ⟨o, es, ep, t, k o ho, r⟩⟩
theorem op_subP (hu : X.A.units + 64 < cLine) : OpR X (binaryOp .Sub) (rSubP X.prog X.w) := by
  intro pins s σ H x y v u Q I rx ry h
  obtain ⟨a, b, ps, rs, rfl, rfl, hne, ha, hb, ia, ib, hl, q⟩ := h
  cases rx
  cases ry
  have hA := I.setP ha ia
  have hB := I.setP hb ib
  refine wpAny_binaryOp_same (op := .Sub) hA.typeIs hB.typeIs PySem.F.fills_set_sub PySem.F.slot_set_sub (wpAny_call_entry PySem.F.slot_set_sub hA.typeIs entry_set_sub ?_ (PySem.F.args_set_sub_2 _ _))
  have key : ∀ id, wpAny (model X.prog X.w) X.A.in1 (Builtin.Frozenset.difference id a (.ref b)) (fun v s' => v ≠ .notImplemented ∧ EP X pins σ Q v s') X.xe s := fun id =>
    diffP (by show X.A.units + 1 < cLine; omega) hA hB hne (by rw [List.length_map]; omega) fun h' dr n hk hT hn => ⟨(by intro z; cases z), V.ref s.heap.objs.size, _, (I.laid (t' := s.toks) hk (Nat.le_refl _) (lenO_ok hT)).dr dr, rfl, q _ n I.fresh hn⟩
  unfold Builtin.«frozenset.__sub__»
  exact binarySetP hA.typeIs hB.typeIs (key _)
/-- len of such a set -/
theorem call_lenP : CallR X (.builtin "len") (fun xs H Q => ∃ (a : Addr) (n : Nat), xs = [V.ref a] ∧ H a = some (lenO a n) ∧ Q (.int (n : Int)) H) := by
  intro pins s σ H xs us Q I r h
  obtain ⟨a, n, rfl, ha, q⟩ := h
  obtain ⟨u, rfl, ru⟩ := r.one
  cases ru
  obtain ⟨o, es, ep, t, ho, hex, hd, hf, hn, hb⟩ := (show SetN s.heap a n from (I.hok a _ ha).1)
  exact call_len_set ho hex hd hf (by omega) ⟨.int (n : Int), H, I.tok _, ⟨_, by rw [hn]⟩, q⟩
/-- q not in s -/
def rNotInP (P : Program) (w : World) : R2 := fun x y H Q => ∃ (a : Addr) (q : Nat × Nat) (ps : List PrA), y = .ref a ∧ H a = some (setPO P w a ps) ∧ (∀ x ∈ ps, IsP H x.1 (.ref x.2)) ∧ IsP H q x ∧ Q (.bl (!decide (q ∈ ps.map (·.1)))) H
theorem op_notInSP (hu : X.A.units + 64 < cLine) : OpR X (compareOp .NotIn) (rNotInP X.prog X.w) := by
  intro pins s σ H x y v u Q I rx ry h
  obtain ⟨a, q, ps, rfl, ha, ia, hx, hq⟩ := h
  obtain ⟨b, rfl, hb⟩ := hx
  cases rx
  cases ry
  exact wpAny_notInP (by omega) (I.setP ha ia) (I.tupP ⟨b, rfl, hb⟩) fun tk => ⟨.bl _, H, I.tok _, rfl, hq⟩
end
end L2
set_option Elab.async false
set_option linter.all false
set_option maxRecDepth 100000
set_option maxHeartbeats 4000000
/-! EXTENSION 16: d.setdefault(k, x); not in, of lists of pairs. -/
namespace L2
open PySem PySem.Spec PyProof.Rows
section
variable {prog : Program} {w : World} {κ : Type} [DecidableEq κ] {knd : KeyKind prog w κ} {A : Around} {E : Value → Shared → Prop} {s : Shared}
theorem setDefault_pairs {d : Addr} {kvs : List (κ × Value)} {k : κ} {key dflt : Value} {Q : Value → Shared → Prop} (hkey : knd.is k key = true) (hm : s.heap.DictOf knd d kvs)
    (hthere : ∀ v, valueAt kvs k = some v → Q v { s with toks := s.toks + 1 })
    (hnew : valueAt kvs k = none → ∀ h', h'.DictOf knd d (stored kvs k dflt) → Heap.SameBut d s.heap h' → Q dflt { s with heap := h', toks := s.toks + 1 })
    (hsz : kvs.length ≤ sizeLine) : wpAny (model prog w) A (dictSetDefault d key dflt) Q E s := by
  have hval := hm.mapOf
  obtain ⟨o, es, ep, ho, hc, hd, hk, hp, hn⟩ := hm
  have hf : ∀ x, findBy knd.is es x = valueAt kvs x := fun x => by
    rw [← hp.find x]
    obtain ⟨l⟩ := es
    simp [findBy]
  have hes : es.size ≤ sizeLine := by
    have e1 := hp.length
    have e2 : es.toList.length = es.size := by simp
    omega
  unfold dictSetDefault
  try with_reducible refine wpAny_holding ?_
  refine wpAny_bind (knd.pyHash hkey ?_)
  refine wpAny_bind (wpAny_dictFind_of (s := { s with toks := s.toks + 1 }) hkey ho hd hk ?_)
  have hidx : (es.findIdx? fun e => knd.is k e.key) = kvs.findIdx? fun kv => decide (kv.1 = k) := by
    rw [← hp.findIdx k]; obtain ⟨l⟩ := es; simp
  cases hi : es.findIdx? fun e => knd.is k e.key with
  | some i =>
    have hfk : valueAt kvs k = (es[i]?).map (·.val) := by rw [← hf k, findBy_of_findIdx?, hi]
    refine wpAny_bind (wpAny_dictEntries (s := { s with toks := s.toks + 1 }) ho hd ?_)
    cases he : es[i]? with
    | none =>
      exfalso
      have := Array.findIdx?_eq_some_iff_findIdx_eq.mp hi
      have hlt : i < es.size := this.1
      rw [Array.getElem?_eq_getElem hlt] at he
      exact nomatch he
    | some e =>
      rw [he] at hfk
      exact wpAny_bind (wpAny_rule (wpAny_pure (hthere e.val hfk)))
  | none =>
    have hfk : valueAt kvs k = none := by rw [← hf k, findBy_of_findIdx?, hi]
    have hnot : k ∉ kvs.map (·.1) := not_mem_of_findIdx_none (hidx ▸ hi)
    have hany : ¬ (kvs.any fun kv => decide (kv.1 = k)) = true := by
      rw [List.any_eq_true]; rintro ⟨kv, hkv, he⟩
      exact hnot (List.mem_map.mpr ⟨kv, hkv, of_decide_eq_true he⟩)
    refine wpAny_bind (wpAny_rule (wpAny_bind (wpAny_updateDictKeys (hz := hes) (s := { s with toks := s.toks + 1 }) ho hd (wpAny_pure (hnew hfk _ ⟨_, _, ep + 1, Heap.get?_update_self _ ho (Obj.isFreed_of_dict (Obj.data_mapDictKeys hd _)),
      hc.mapDictKeys _, Obj.data_mapDictKeys hd _, hk.push hkey _, ?_, ?_⟩ (Heap.SameBut.update ..))))))
    · rw [stored, if_neg hany]
      have := hp.append hkey (knd.hash k) dflt
      obtain ⟨l⟩ := es
      simpa using this
    · rw [stored, if_neg hany, List.map_append, List.nodup_append]
      refine ⟨hn, by simp, ?_⟩
      intro a ha b hb
      simp only [List.map_cons, List.map_nil, List.mem_singleton] at hb
      subst hb
      exact fun e => hnot (e ▸ ha)
theorem meets_setdefault {d : Addr} {k : κ} {key : Value} (hkey : knd.is k key = true) (hd : (d == sysModules) = false) (dflt : Value) :
    MeetsIn prog w (Builtin.«dict.setdefault» ⟨[.ref d, key, dflt], []⟩) (fun _ R s => ∃ kvs, s.heap.DictOf knd d kvs ∧ kvs.length ≤ sizeLine ∧
      (∀ v, valueAt kvs k = some v → R (.ok (.ret v)) { s with toks := s.toks + 1 }) ∧
      (valueAt kvs k = none → ∀ h', h'.DictOf knd d (stored kvs k dflt) → Heap.SameBut d s.heap h' → R (.ok (.ret dflt)) { s with heap := h', toks := s.toks + 1 })) :=
  .of_wp fun A R s ⟨kvs, hm, hz, h1, h2⟩ => by
    unfold Builtin.«dict.setdefault»
    refine wpAny_bind ?_
    unfold Builtin.Dict.keyAndDefault
    refine wpAny_bind (wpAny_notOrdered_dict hm.typeIs ?_)
    show wpAny _ _ (pure (d, key, some dflt)) _ _ s
    refine wpAny_pure ?_
    show wpAny _ _ (if (d == sysModules) = true then _ else (dictSetDefault d key dflt >>= _)) _ _ s
    rw [if_neg (by rw [hd]; exact Bool.false_ne_true)]
    exact wpAny_bind (setDefault_pairs hkey hm (fun v hv => wpAny_pure ⟨v, rfl, h1 v hv⟩) (fun hn h' hm' hs' => wpAny_pure ⟨dflt, rfl, h2 hn h' hm' hs'⟩) hz)
end
section
variable {X : Cx} {o e f : Expr} {apos cpos : Pos} {td ty tx : TE}
/-- d.setdefault(y, x) -/
def tDSetD (td ty tx : TE) : TE := fun σ H Q => td σ H fun x H1 => ∃ a, x = .ref a ∧ IsD H1 a ∧ ty σ H1 fun y H2 => tx σ H2 fun z H3 => ∃ kvs k, H3 a = some (.dK kvs) ∧ y = kV k ∧ kvs.length < sizeLine ∧
  (∀ v, valV kvs k = some v → Q v H3) ∧ (valV kvs k = none → Q z (upd H3 a (.dK (putK kvs k z))))
theorem pe_dsetd (ho : PE X o td) (he : PE X e ty) (hf : PE X f tx) (m : M2 X o "setdefault" apos e f cpos) : PE X (.Call (.Attribute o "setdefault" apos) [e, f] [] cpos) (tDSetD td ty tx) := by
  intro pins s σ H Q I h
  refine wpAny_Call_method m.base m.few m.line PySem.F.plainAttrs_dict PySem.F.slot_dict_setdefault PySem.F.type_dict_setdefault (thn (ho pins s σ H _ I h) fun u s1 ⟨x, H1, I1, rx, a, ex, d, q1⟩ => ?_)
  subst ex
  obtain rfl : u = Value.ref a := rx
  obtain ⟨t1, t2, _⟩ := isD_at I1 d
  refine ⟨t1, t2, ?_⟩
  rw [m.trees]
  refine Calls.callWith_builtin rfl (Calls.evalArgs_plain (Calls.spliced_cons (thn (he pins s1 σ H1 _ I1 q1) fun iv s2 ⟨y, H2, I2, ry, q2⟩ =>
    Calls.spliced_cons (thn (hf pins s2 σ H2 _ I2 q2) fun fv s3 ⟨z, H3, I3, rz, kvs, k, e3, ey, l3, qt, qn⟩ => Calls.spliced_nil ?_))))
  subst ey
  obtain ⟨zz, hd, vs, rel, dd⟩ := dk_of I3.hok e3
  have hz : vs.length ≤ sizeLine := by rw [← rel.length]; exact zz
  refine call_meetsIn PySem.F.slot_dict_setdefault dd.typeIs PySem.F.entry_dict_setdefault (PySem.F.args_dict_setdefault_3 _ _ _) (meets_setdefault (knd := mixKind X.prog X.w) (kV_is ry) hd fv) ⟨vs, dd, hz, fun v hv => ?_, fun hv h' dd' hs => ?_⟩
  · have rv := rel.val k
    rw [hv] at rv
    cases hk : valV kvs k with
    | none => rw [hk] at rv; cases rv
    | some v' =>
      rw [hk] at rv
      exact ⟨v', H3, I3.tok _, rv, qt v' hk⟩
  · have rv := rel.val k
    rw [hv] at rv
    cases hk : valV kvs k with
    | some v' => rw [hk] at rv; cases rv
    | none =>
      have hl : (putK kvs k z).length ≤ sizeLine := by have := length_putK kvs k z; omega
      have hex : ∃ q, h'.get? a = some q := let ⟨q, _, _, hq, _⟩ := dd'; ⟨q, hq⟩
      exact ⟨z, _, d_write I3 (by rw [e3]; exact True.intro) hs hex (dk_new hl hd (rel.put k rz) dd'), rz, qn hk⟩
def rNotInLP : R2 := fun x y H Q => ∃ (p : Addr) (k : Nat × Nat) (xs : List V) (ks : List (Nat × Nat)), y = .ref p ∧ H p = some (.lst xs) ∧ IsP H k x ∧ PL H xs ks ∧ Q (.bl (!decide (k ∈ ks))) H
theorem op_notInLP (hu : X.A.units + 64 < cLine) : OpR X (compareOp .NotIn) rNotInLP := by
  intro pins s σ H x y v u Q I rx ry h
  obtain ⟨p, k, xs, ks, rfl, hp, hk, hL, q⟩ := h
  cases ry
  obtain ⟨its, rv, pl, hz⟩ := I.list (SqL.of hp)
  classical
  let e : Value → Bool := fun u => decide (∃ x', RelV x' u ∧ IsP H k x')
  have he : ∀ x' k' u, RelV x' u → IsP H k' x' → e u = decide (k' = k) := fun x' k' u r i => by
    show decide (∃ x', RelV x' u ∧ IsP H k x') = _
    by_cases c : k' = k
    · subst c
      rw [decide_eq_true ⟨x', r, i⟩, decide_eq_true rfl]
    · rw [decide_eq_false c, decide_eq_false]
      rintro ⟨x2, r2, i2⟩
      rw [RelV.inj r2 r] at i2
      exact c (IsP.inj i i2)
  refine SeqAt.notIn_listAt (items := its.toArray) e pl.isList (fun y hy => ?_) ?_
  · have hy' : y ∈ its := by simpa using hy
    obtain ⟨i, hi, ei⟩ := List.mem_iff_getElem.mp hy'
    have hx : ∃ x', xs[i]? = some x' := by
      have := rv.length
      exact ⟨xs[i]'(by omega), List.getElem?_eq_getElem (by omega)⟩
    obtain ⟨x', hx'⟩ := hx
    obtain ⟨u', hu', ru'⟩ := rv.get hx'
    rw [List.getElem?_eq_getElem hi, ei] at hu'
    cases hu'
    obtain ⟨k', hk', ik'⟩ := hL.get hx'
    rw [he x' k' y ru' ik']
    exact eqP I ik' hk ru' rx (by rw [in1_units]; omega)
  · have ea : its.toArray.any e = decide (k ∈ ks) := by
      rw [← PL.any hL rv he]
      simp
    rw [ea]
    exact ⟨.bl (!decide (k ∈ ks)), H, I, rfl, q⟩
end
end L2
set_option Elab.async false
set_option linter.all false
set_option maxRecDepth 100000
set_option maxHeartbeats 4000000
namespace K07
open PySem L2
def top (i : Nat) : Stmt := PySem.Challenge.pw_kinwords_k07_keeps_sayings_of_ties.main.body.getD i (.Pass ⟨0, 0, 0, 0⟩)
abbrev sTie : Stmt := top 1
abbrev sWithin0 : Stmt := top 7
abbrev sEnds : Stmt := top 8
abbrev sMakes : Stmt := top 9
abbrev sKeeps : Stmt := top 11
abbrev sCell : Stmt := top 13
abbrev sNext : Stmt := top 14
abbrev sNames : Stmt := top 15
abbrev sWorld : Stmt := top 16
abbrev sCopy : Stmt := top 17
abbrev sMade : Stmt := top 18
abbrev sWithin : Stmt := top 19
abbrev sRight : Stmt := top 20
abbrev sThird : Stmt := top 21
abbrev sLaw : Stmt := top 22
theorem small2 {n : Nat} (h : n ≤ 1000) : n ≤ sizeLine := Nat.le_of_lt (small1000 h)
theorem same_upd {H H' : Hp} {p : Addr} {o : HO} (h : Same H H') (hp : H p = none) : Same H (upd H' p o) := fun b u q => by
  rw [upd_ne (ne_of_none q hp)]
  exact h b u q
def spCell (K : PySem.W.Frag) : Sp := fun vs H Q _ => ∃ (a : Addr) (ns : List Int) (i : Int), vs = [.ref a, .int i] ∧ SqL K H a (ns.map V.int) ∧ 0 ≤ i ∧ ∀ r : Int, Q (.int r) H
def spNext : Sp := fun vs H Q _ => ∃ c k : Int, vs = [.int c, .int k] ∧ 0 ≤ k ∧ k ≤ 100 ∧ ∀ r : Int, 0 ≤ r → Q (.int r) H
section
variable {P : Program} {w : World} {K : PySem.W.Frag} {mg : Str → Option Value} {base : Heap} {f g e : Addr} {fd gd ed : FuncData}
theorem scCell : FnScope ["_law_script", "_law_k"] ["_law_script", "_law_k"] (defScope sCell) := ⟨rfl, rfl, rfl, by decide +kernel, rfl, by decide +kernel, by decide +kernel⟩
theorem ok_cell (F : Fun K "_law_cell" "_law_cell" sCell f fd) (ml : mg "len" = none) : FnOk P w K mg base CX0 1 f fd ["_law_script", "_law_k"] (spCell K) := by
  refine F.ok scCell (fun vs H Q E h => ?_) (fun cdv A outer s H vs Q E hr h => ?_)
  · obtain ⟨a, ns, i, rfl, _⟩ := h; rfl
  obtain ⟨a, ns, i, rfl, hS, h0, q⟩ := h
  refine ⟨_, @pss_cons _ _ _ _ _ (by exact ps_if (pt_cmpR op_lt (pv 1) (pe_callB call_len_seq rfl ml PySem.boot_len (pa_cons (pv 0) pa_nil)) (nomark _)) (pss_one (ps_ret (pe_ix ix_list (pv 0) (pv 1) (fun _ _ => rfl)))) pss_nil)
    (@pss_one _ _ _ (by exact ps_ret pe_int)), ?_⟩
  refine ⟨_, rfl, _, rfl, a, _, rfl, .inl hS, _, _, rfl, rfl, _, rfl, ite2 (fun h => ?_) (fun h => q 0)⟩
  have h' : i < ((ns.map V.int).length : Int) := of_decide_eq_true h
  rw [List.length_map] at h'
  have hi : i.toNat < ns.length := by omega
  have z : atI (ns.map V.int) ((i.toNat : Nat) : Int) = some (.int ns[i.toNat]) := atI_nat (by rw [List.getElem?_map, List.getElem?_eq_getElem hi]; rfl)
  rw [show ((i.toNat : Nat) : Int) = i by omega] at z
  exact ⟨_, rfl, _, rfl, a, _, i, _, rfl, rfl, hS, z, q _⟩
theorem scNext : FnScope ["_law_cell_here", "_law_k"] ["_law_cell_here", "_law_k"] (defScope sNext) := ⟨rfl, rfl, rfl, by decide +kernel, rfl, by decide +kernel, by decide +kernel⟩
theorem ok_next (F : Fun K "_law_next" "_law_next" sNext f fd) : FnOk P w K mg base CX0 1 f fd ["_law_cell_here", "_law_k"] spNext := by
  refine F.ok scNext (fun vs H Q E h => ?_) (fun cdv A outer s H vs Q E hr h => ?_)
  · obtain ⟨c, k, rfl, _⟩ := h; rfl
  obtain ⟨c, k, rfl, h0, h1, q⟩ := h
  refine ⟨_, @pss_one _ _ _ (by exact ps_ret (pe_op op_mod (pe_op op_add (pe_op op_add (pe_op op_mul (pv 0) (pe_op op_add pe_int (pe_op op_mul pe_int (pv 1)))) pe_int) (pv 1)) pe_int)), ?_⟩
  refine ⟨_, rfl, _, rfl, _, _, rfl, rfl, .inl ⟨by decide, by decide⟩, _, _, rfl, rfl, _, _, rfl, rfl, .inr ⟨by omega, by omega⟩, _, _, rfl, rfl, _, rfl, _, _, rfl, rfl, _, _, rfl, rfl, (show (0 : Int) < 2147483647 by decide), ?_⟩
  exact q _ (Int.emod_nonneg _ (by decide))
end
/-! ### the names that the law makes -/
def kept : List Str := ["anything", "nothing", "every", "no", "is", "tie", "within", "then", "makes", "both", "some"]
abbrev az : Str := "abcdefghijklmnopqrstuvwxyz"
/-- letters that stand in none of the kept words -/
def goodL (i : Nat) : Bool := i == 2 || i == 3 || i == 5 || i == 9 || i == 11 || i == 15 || i == 16 || i == 20 || i == 23 || i == 25
theorem good_out : ∀ w' ∈ kept, ∀ c ∈ w'.cps.toList, goodL (c - 97) = false := by decide +kernel
theorem good_not {z : Str} {c : Nat} (hc : c ∈ z.cps.toList) (hg : goodL (c - 97) = true) : inV (.str z) (kept.map V.str) = false := by
  cases e : inV (.str z) (kept.map V.str) with
  | false => rfl
  | true =>
    exfalso
    unfold inV at e
    rw [List.any_eq_true] at e
    obtain ⟨y, hy, e⟩ := e
    obtain ⟨w', hw, rfl⟩ := List.mem_map.mp hy
    have : w' = z := by simpa [eqV] using e
    subst this
    have := good_out w' hw c hc
    rw [this] at hg
    cases hg
def gd (r j : Nat) : Bool := decide (2 ≤ j) && goodL ((r + j) % 26)
def cnt (r : Nat) : Nat → Nat
  | 0 => 0
  | i + 1 => cnt r i + (if gd r i then 1 else 0)
theorem cnt_26 : ∀ r, r < 26 → 8 ≤ cnt r 26 := by decide +kernel
theorem az_at {i : Nat} (h : i < 26) : atI (az).cps.toList (i : Int) = some (97 + i) := by
  have e : (az).cps.toList = List.range' 97 26 := by decide +kernel
  rw [e]
  exact atI_nat (by rw [List.getElem?_range' h]; simp)
theorem az_len : (az).length = 26 := by decide +kernel
theorem flat_kept : (kept.map V.str).all flatV = true := by decide +kernel
def spNames : Sp := fun vs H Q _ => ∃ c m : Int, vs = [.int c, .int m] ∧ 0 < m ∧ m ≤ 8 ∧
  ∀ (p : Addr) (H' : Hp) (ws : List Str), Same H H' → H p = none → H' p = some (.lst (ws.map V.str)) → (ws.length : Int) = m → (∀ z ∈ ws, z.length ≤ 40 ∧ inV (.str z) (kept.map V.str) = false ∧ 1 ≤ z.length) → Q (.ref p) H'
theorem mem_app {a b : Str} {c : Nat} (h : c ∈ a.cps.toList ∨ c ∈ b.cps.toList) : c ∈ (a ++ b).cps.toList := by
  rw [Str.cps_append]
  simpa using h
theorem cut_last {z : Str} (h : 2 ≤ z.length) : 1 ≤ (Txt.slice z none (some (-1))).length := by
  have e := congrArg List.length (slice_cps z none (some (-1)))
  have hz : z.cps.toList.length = z.length := by simp [Str.length]
  have hs : (Txt.slice z none (some (-1))).cps.toList.length = (Txt.slice z none (some (-1))).length := by simp [Str.length]
  rw [hs, List.length_take, List.length_drop, hz] at e
  have e1 : HT.sIx z.length z.length (some (-1)) = ((-1 : Int) + (z.length : Int)).toNat := by
    unfold HT.sIx
    exact if_pos (show (-1 : Int) < 0 by decide)
  have e2 : HT.sIx z.length 0 none = 0 := rfl
  rw [e1, e2] at e
  omega
section
variable {P : Program} {w : World} {K : PySem.W.Frag} {mg : Str → Option Value} {base : Heap} {f g e : Addr} {fd gd' ed : FuncData}
theorem scNames : FnScope ["_law_cell_here", "_law_many", "_law_letters", "_law_kept", "_law_size", "_law_word", "_law_k", "_law_at", "_law_names_here", "_law_shift", "_law_sign", "_law_name"] ["_law_cell_here", "_law_many"] (defScope sNames) := ⟨rfl, rfl, rfl, by decide +kernel, rfl, by decide +kernel, by decide +kernel⟩
theorem ok_names (F : Fun K "_law_names" "_law_names" sNames f fd) (ml : mg "len" = none) (mr : mg "range" = none) (mm : mg "min" = none) : FnOk P w K mg base CX0 1 f fd ["_law_cell_here", "_law_many"] spNames := by
  refine F.ok scNames (fun vs H Q E h => ?_) (fun cdv A outer s H vs Q E hr h => ?_)
  · obtain ⟨c, m, rfl, _⟩ := h; rfl
  obtain ⟨c, m, rfl, hm0, hm8, q⟩ := h
  refine ⟨_, @pss_cons _ _ _ _ _ (by exact ps_set (i := 2) scNames.nd rfl (Or.inl rfl) pe_str)
    (@pss_cons _ _ _ _ _ (by exact @ps_set _ _ 3 _ _ _ _ scNames.nd rfl (Or.inl rfl) (@pe_lst _ _ _ _ (@pa_strs _ _ kept rfl)) rfl (.inl rfl))
    (@pss_cons _ _ _ _ _ (by exact ps_set (i := 4) scNames.nd rfl (Or.inl rfl) (pe_op op_add pe_int (pe_op op_mod (pv 0) pe_int)))
    (@pss_cons _ _ _ _ _ (by exact ps_set (i := 5) scNames.nd rfl (Or.inl rfl) pe_str)
    (@pss_mid _ _ _ _ _ (by exact ps_for PassesOwn.never rfl (pi_range1 rfl mr (pa_cons (pv 4) pa_nil)) (pg_name (i := 6) scNames.nd rfl (Or.inl rfl)) (pss_one (ps_set (i := 5) scNames.nd rfl (Or.inl rfl) (pe_op op_add_str (pv 5) (pe_ix ix_str (pv 2) (pe_op op_mod (pe_op op_add (pe_op op_fdiv (pv 0) pe_int) (pe_op op_mul (pv 6) (pe_op op_fdiv (pv 0) pe_int))) pe_int) (fun _ _ => rfl))))))
    (@pss_cons _ _ _ _ _ (by exact ps_set (i := 7) scNames.nd rfl (Or.inl rfl) (pe_op op_mod (pe_op op_fdiv (pv 0) pe_int) (pv 4)))
    (@pss_cons _ _ _ _ _ (by exact ps_set (i := 8) scNames.nd rfl (Or.inl rfl) (pe_lst pa_nil))
    (@pss_cons _ _ _ _ _ (by exact ps_for PassesOwn.never rfl (pi_range1 rfl mr (pa_cons pe_int pa_nil)) (pg_name (i := 9) scNames.nd rfl (Or.inl rfl)) (@pss_cons _ _ _ _ _ (by exact ps_set (i := 10) scNames.nd rfl (Or.inl rfl) (pe_ix ix_str (pv 2) (pe_op op_mod (pe_op op_add (pe_op op_fdiv (pv 0) pe_int) (pv 9)) pe_int) (fun _ _ => rfl))) (@pss_cons _ _ _ _ _ (by exact ps_set (i := 11) scNames.nd rfl (Or.inl rfl) (pe_op op_add_str (pe_op op_add_str (pe_slice sl_str (pv 5) po_none (po_some (pv 7))) (pv 10)) (pe_slice sl_str (pv 5) (po_some (pe_op op_add (pv 7) pe_int)) po_none))) (@pss_mid _ _ _ _ _ (by exact ps_ifN (pt_cmpR op_eq (pe_op op_mod (pe_op op_fdiv (pv 0) pe_int) pe_int) pe_int (nomark _)) (pss_one (ps_set (i := 11) scNames.nd rfl (Or.inl rfl) (pe_ix ix_list (pe_lst (pa_cons (pv 5) (pa_cons (pe_slice sl_str (pv 5) po_none (po_some (pe_un un_neg pe_int))) (pa_cons (pe_op op_add_str (pv 5) (pv 10)) pa_nil)))) (pe_callB (call_min2 rfl) rfl mm PyProof.Rows.boot_min (pa_cons (pv 9) (pa_cons pe_int pa_nil))) (fun _ _ => rfl)))) pss_nil) (@pss_one _ _ _ (by exact ps_if (PW.pt (pw_and (pt_cmpR op_lt (pe_callB call_len_seq rfl ml PySem.boot_len (pa_cons (pv 8) pa_nil)) (pv 1) (nomark _)) (pw_and1 (pt_cmpR op_notIn_seq (pv 11) (pv 3) rfl)))) (pss_one (ps_expr (pe_bm PySem.F.plainAttrs_list PySem.F.slot_list_append PySem.F.type_list_append mt_append (pv 8) (pa_cons (pv 11) pa_nil)))) pss_nil))))))
    (@pss_one _ _ _ (by exact ps_ret (pv 8)))))))))), ?_⟩
  have m10 := Int.emod_nonneg c (show (10 : Int) ≠ 0 by decide)
  have m11 := Int.emod_lt_of_pos c (show (0 : Int) < 10 by decide)
  refine ⟨(by show 11 ≤ sizeLine; exact small2 (by decide)), fun lk hlk => ?_⟩
  refine ⟨_, rfl, _, _, rfl, rfl, (show (0 : Int) < 10 by decide), _, _, rfl, rfl, ?_⟩
  refine ⟨fun σ H' => H' = upd H lk (.lst (kept.map V.str)) ∧ ∃ (z : Str) (o6 : Option V), σ = [some (.int c), some (.int m), some (.str az), some (.ref lk), some (.int (2 + c % 10)), some (.str z), o6, none, none, none, none, none] ∧ z.length ≤ 12 ∧ 2 ≤ z.length, ?_, ?_⟩
  · refine ⟨_, rfl, _, rfl, by omega, by omega, ?_⟩
    refine for_range (fun i σ H' => H' = upd H lk (.lst (kept.map V.str)) ∧ ∃ (z : Str) (o6 : Option V), σ = [some (.int c), some (.int m), some (.str az), some (.ref lk), some (.int (2 + c % 10)), some (.str z), o6, none, none, none, none, none] ∧ z.length = i) ⟨rfl, ⟨#[]⟩, none, rfl, rfl⟩ ?_ ?_
    · rintro i σ H' hi ⟨rfl, z, o6, rfl, hz⟩
      have n0 := Int.emod_nonneg (c / 10 + (0 + (i : Int)) * (c / 260)) (show (26 : Int) ≠ 0 by decide)
      have n1 := Int.emod_lt_of_pos (c / 10 + (0 + (i : Int)) * (c / 260)) (show (0 : Int) < 26 by decide)
      have za := az_at (i := ((c / 10 + (0 + (i : Int)) * (c / 260)) % 26).toNat) (by omega)
      rw [show ((((c / 10 + (0 + (i : Int)) * (c / 260)) % 26).toNat : Nat) : Int) = (c / 10 + (0 + (i : Int)) * (c / 260)) % 26 by omega] at za
      refine ⟨_, rfl, _, rfl, _, rfl, _, _, rfl, rfl, ⟨by decide, by decide⟩, _, rfl, _, rfl, _, _, rfl, rfl, ⟨by decide, by decide⟩, _, _, rfl, rfl, .inl ⟨by omega, by omega⟩, _, _, rfl, rfl, _, _, rfl, rfl, (show (0 : Int) < 26 by decide), az, _, _, rfl, rfl, small2 (by rw [az_len]; decide), za, z, _, rfl, rfl, ?_, rfl, _, _, rfl, ?_⟩
      · show z.length + 1 ≤ sizeLine
        exact small2 (by omega)
      · rw [Str.length_append, hz]; rfl
    · rintro σ H' ⟨rfl, z, o6, rfl, hz⟩
      exact ⟨rfl, z, o6, rfl, by omega, by omega⟩
  rintro σ H' ⟨rfl, z, o6, rfl, hz, hz2⟩
  refine ⟨_, rfl, _, _, rfl, rfl, ⟨by decide, by decide⟩, _, rfl, _, _, rfl, rfl, (show (0 : Int) < 2 + c % 10 by omega), Nat.zero_le _, fun ln hln => ?_⟩
  have a0 := Int.emod_nonneg (c / 3) (show (2 + c % 10 : Int) ≠ 0 by omega)
  have a1 := Int.emod_lt_of_pos (c / 3) (show (0 : Int) < 2 + c % 10 by omega)
  obtain ⟨at', hat⟩ : ∃ at' : Int, at' = c / 3 % (2 + c % 10) := ⟨_, rfl⟩
  rw [← hat] at a0 a1
  have hne : lk ≠ ln := ne_of_none (upd_same (H := H) (a := lk)) hln
  have s1 : Same H (upd (upd H lk (.lst (kept.map V.str))) ln (.lst [])) := (same_new hlk _).trans (same_new hln _)
  have hlnH : H ln = none := by rw [upd_ne (Ne.symm hne)] at hln; exact hln
  have r0 := Int.emod_nonneg (c / 10) (show (26 : Int) ≠ 0 by decide)
  have r1 := Int.emod_lt_of_pos (c / 10) (show (0 : Int) < 26 by decide)
  refine ⟨26, rfl, by decide, by decide, for_range (fun i σ H' => ∃ (ws : List Str) (o6 o9 o10 o11 : Option V), Same H H' ∧ H' lk = some (.lst (kept.map V.str)) ∧ H' ln = some (.lst (ws.map V.str)) ∧
      σ = [some (.int c), some (.int m), some (.str az), some (.ref lk), some (.int (2 + c % 10)), some (.str z), o6, some (.int at'), some (.ref ln), o9, o10, o11] ∧
      (ws.length : Int) ≤ m ∧ min m (cnt (c / 10 % 26).toNat i : Int) ≤ (ws.length : Int) ∧ ∀ z ∈ ws, z.length ≤ 40 ∧ inV (.str z) (kept.map V.str) = false ∧ 1 ≤ z.length)
    ⟨[], o6, none, none, none, s1, by rw [upd_ne hne]; exact upd_same, upd_same, by subst hat; rfl, by simp; omega, by simp [cnt]; omega, fun z hz => (nomatch hz)⟩ ?_ ?_⟩
  · rintro i σ H' hi ⟨ws, o6, o9, o10, o11, sm, ek, en, rfl, h1, h2, h3⟩
    have n0 := Int.emod_nonneg (c / 10 + (0 + (i : Int))) (show (26 : Int) ≠ 0 by decide)
    have n1 := Int.emod_lt_of_pos (c / 10 + (0 + (i : Int))) (show (0 : Int) < 26 by decide)
    obtain ⟨j, hj, ej⟩ : ∃ j : Nat, j < 26 ∧ (c / 10 + (0 + (i : Int))) % 26 = (j : Int) := ⟨((c / 10 + (0 + (i : Int))) % 26).toNat, by omega, by omega⟩
    have hjr : ((c / 10 % 26).toNat + i) % 26 = j := by omega
    have za := az_at hj
    rw [← ej] at za
    have l1 := Txt.slice_le z none (some at')
    have l2 := Txt.slice_le z (some (at' + 1)) none
    have l3 := Txt.slice_le z none (some (-1))
    have l4 := cut_last (z := z) hz2
    refine ⟨_, rfl, _, rfl, _, _, rfl, rfl, ⟨by decide, by decide⟩, _, rfl, _, _, rfl, rfl, _, _, rfl, rfl, (show (0 : Int) < 26 by decide), az, _, _, rfl, rfl, small2 (by rw [az_len]; decide), za, ?_⟩
    refine ⟨_, rfl, _, rfl, at', rfl, z, rfl, small2 (by omega), _, rfl, _, _, rfl, rfl, small2 (by show _ + 1 ≤ 1000; omega), _, rfl, _, rfl, _, _, rfl, rfl, _, rfl, z, rfl, small2 (by omega), _, _, rfl, rfl, small2 (by rw [Str.length_append]; show _ + 1 + _ ≤ 1000; omega), ?_⟩
    refine ⟨fun σ' H2 => Same H' H2 ∧ ∃ (y : Str), σ' = [some (.int c), some (.int m), some (.str az), some (.ref lk), some (.int (2 + c % 10)), some (.str z), o6, some (.int at'), some (.ref ln), some (.int (0 + (i : Int))), some (.str ⟨#[97 + j]⟩), some (.str y)] ∧ y.length ≤ 40 ∧ 1 ≤ y.length ∧ (2 ≤ i → 97 + j ∈ y.cps.toList), ?_, ?_⟩
    · refine ⟨fun H2 => H2 = H', ⟨_, rfl, _, _, rfl, rfl, ⟨by decide, by decide⟩, _, _, rfl, rfl, (show (0 : Int) < 3 by decide), rfl, _, rfl, rfl⟩, ?_⟩
      rintro H2 rfl
      refine ⟨?_, Same.refl _, _, rfl, ?_, by rw [Str.length_append, Str.length_append]; show 1 ≤ _ + 1 + _; omega, fun _ => mem_app (.inl (mem_app (.inr (by simp))))⟩
      · refine ⟨_, rfl, _, rfl, _, rfl, -1, rfl, z, rfl, small2 (by omega), _, rfl, _, rfl, z, _, rfl, rfl, small2 (by show _ + 1 ≤ 1000; omega), small2 (by show 3 ≤ 1000; decide), fun p hp => ?_⟩
        refine ⟨_, rfl, _, _, rfl, ?_⟩
        have mn : ∃ (u : Nat) (y : Str), (if (2 : Int) < 0 + (i : Int) then (2 : Int) else 0 + (i : Int)) = (u : Int) ∧ ([V.str z, V.str (Txt.slice z none (some (-1))), V.str (z ++ ⟨#[97 + j]⟩)] : List V)[u]? = some (.str y) ∧ y.length ≤ 40 ∧ 1 ≤ y.length ∧ (2 ≤ i → 97 + j ∈ y.cps.toList) := by
          rcases Nat.lt_or_ge i 2 with g | g
          · match i, g with
            | 0, _ => exact ⟨0, z, by decide, rfl, by omega, by omega, fun k => absurd k (by decide)⟩
            | 1, _ => exact ⟨1, _, by decide, rfl, by omega, by omega, fun k => absurd k (by decide)⟩
          · refine ⟨2, z ++ ⟨#[97 + j]⟩, ?_, rfl, by rw [Str.length_append]; show _ + 1 ≤ 40; omega, by rw [Str.length_append]; show 1 ≤ _ + 1; omega, fun _ => mem_app (.inr (by simp))⟩
            split <;> omega
        obtain ⟨u, y, eu, ey, ly, ly1, gy⟩ := mn
        refine ⟨p, _, _, _, rfl, rfl, SqL.of upd_same, by rw [eu]; exact atI_nat ey, same_new hp _, y, rfl, ly, ly1, gy⟩
      · rw [Str.length_append, Str.length_append]; show _ + 1 + _ ≤ 40; omega
    rintro σ' H2 ⟨sm2, y, rfl, ly, ly1, gy⟩
    have ek2 := sm2 _ _ ek
    have en2 := sm2 _ _ en
    have good : gd (c / 10 % 26).toNat i = true → inV (.str y) (kept.map V.str) = false := fun g => by
      unfold gd at g
      rw [Bool.and_eq_true, hjr] at g
      exact good_not (gy (of_decide_eq_true g.1)) (by rw [Nat.add_sub_cancel_left]; exact g.2)
    refine ⟨_, rfl, ln, _, rfl, .inl (SqL.of en2), _, rfl, _, _, rfl, rfl, _, rfl, ?_⟩
    rw [List.length_map]
    refine ite2 (fun c1 => ?_) (fun c1 => ?_)
    · have c1' : (ws.length : Int) < m := of_decide_eq_true c1
      refine ⟨_, rfl, _, rfl, lk, _, rfl, .inl (SqL.of ek2), rfl, flat_kept, _, rfl, ?_⟩
      show if (!inV (.str y) (kept.map V.str)) = true then _ else _
      refine ite2 (fun c2 => ?_) (fun c2 => ?_)
      · have c2' : inV (.str y) (kept.map V.str) = false := by simpa using c2
        refine ⟨_, rfl, .inl ⟨rfl, _, SqL.of en2⟩, _, rfl, ln, _, .str y, rfl, rfl, en2, small1000 (by rw [List.length_map]; omega), ws ++ [y], o6, _, _, _, same_upd (sm.trans sm2) hlnH, by rw [upd_ne hne]; exact ek2, by rw [upd_same, List.map_append]; rfl, rfl, ?_, ?_, ?_⟩
        · rw [List.length_append]; show ((ws.length + 1 : Nat) : Int) ≤ m; omega
        · rw [List.length_append]
          show min m ((cnt _ i + (if gd _ i then 1 else 0) : Nat) : Int) ≤ ((ws.length + 1 : Nat) : Int)
          split <;> omega
        · intro z' hz'
          rcases List.mem_append.mp hz' with k | k
          · exact h3 z' k
          · rw [List.mem_singleton.mp k]; exact ⟨ly, c2', ly1⟩
      · have c2' : inV (.str y) (kept.map V.str) = true := by simpa using c2
        refine ⟨ws, o6, _, _, _, sm.trans sm2, ek2, en2, rfl, h1, ?_, h3⟩
        have ng : gd (c / 10 % 26).toNat i = false := by
          cases g : gd (c / 10 % 26).toNat i with
          | false => rfl
          | true => rw [good g] at c2'; cases c2'
        show min m ((cnt _ i + (if gd _ i then 1 else 0) : Nat) : Int) ≤ (ws.length : Int)
        rw [ng]
        simpa using h2
    · have c1' : ¬ (ws.length : Int) < m := fun k => c1 (decide_eq_true k)
      refine iteF ⟨ws, o6, _, _, _, sm.trans sm2, ek2, en2, rfl, h1, ?_, h3⟩
      omega
  · rintro σ H' ⟨ws, o6, o9, o10, o11, sm, ek, en, rfl, h1, h2, h3⟩
    have h26 := cnt_26 (c / 10 % 26).toNat (by omega)
    have h2' : min m (cnt (c / 10 % 26).toNat 26 : Int) ≤ (ws.length : Int) := h2
    exact ⟨_, rfl, q ln H' ws sm hlnH en (by clear h2; omega) h3⟩
end
end K07
set_option Elab.async false
set_option linter.all false
set_option maxRecDepth 100000
set_option maxHeartbeats 4000000
namespace L2
open PySem PySem.Spec PyProof.Rows
theorem call_dictD {X : Cx} : CallR X (.type "dict") (fun xs H Q => ∃ a kvs, xs = [V.ref a] ∧ H a = some (.dK kvs) ∧ ∀ p, H p = none → Q (.ref p) (upd H p (.dK kvs))) := by
  intro pins s σ H xs us Q I r h
  obtain ⟨a, kvs, rfl, ha, q⟩ := h
  obtain ⟨u, rfl, ru⟩ := r.one
  cases ru
  exact d_copyOf I (.inl ha) fun p s' hp I' => ⟨.ref p, _, I', rfl, q p hp⟩
theorem das_ints {H : Hp} : ∀ {ps : List Nat} {xs : List V}, Das H (ps.map fun (n : Nat) => Dat.int (n : Int)) xs → xs = ps.map fun (n : Nat) => V.int (n : Int)
  | [], _, h => h
  | p :: ps, _, ⟨x, r, e, h, q⟩ => by
    rw [e, show x = .int (p : Int) from h, das_ints q]
    rfl
theorem ints_das {H : Hp} : ∀ (ps : List Nat), Das H (ps.map fun (n : Nat) => Dat.int (n : Int)) (ps.map fun (n : Nat) => V.int (n : Int))
  | [] => rfl
  | p :: ps => ⟨_, _, rfl, rfl, ints_das ps⟩
end L2
namespace K07
open PySem L2
theorem kit_str_str (K : PySem.W.Frag) : PySem.W.kitOne K (.type "str") (.type "str") = some true := rfl
theorem dec_ne {a b : Str} (h : a ≠ b) : decide (V.str a = V.str b) = false := by
  rw [dec_str]; exact beq_eq_false_iff_ne.mpr h
theorem none_of_same {H H' : Hp} {p : Addr} (h : Same H H') (hp : H' p = none) : H p = none := by
  cases c : H p with
  | none => rfl
  | some oo => rw [h _ _ c] at hp; cases hp
/-- d.get(x, []) of the kinds -/
theorem kinds_get {H : Hp} {W : Wd} {lk : List (Key × V)} {x : Str} (g : Dak H W.kindsK lk) (nd : W.nd) : (∃ (ms : List Nat) (a : Addr), (x, ms) ∈ W.kinds ∧ valV lk (.inr x) = some (.ref a) ∧ H a = some (.lst (ms.map fun (n : Nat) => V.int (n : Int)))) ∨ (x ∉ W.kinds.map (·.1) ∧ valV lk (.inr x) = none) := by
  by_cases h : x ∈ W.kinds.map (·.1)
  · obtain ⟨⟨k, ms⟩, hm, rfl⟩ := List.mem_map.mp h
    obtain ⟨v, h1, h2⟩ := g.val (k := k) (d := natsD ms) (by rw [Wd.kindsK, keys_map]; exact nd.k) (List.mem_map.mpr ⟨(k, ms), hm, rfl⟩)
    have h2' : ∃ p xs, v = .ref p ∧ H p = some (.lst xs) ∧ Das H (ms.map fun (n : Nat) => Dat.int (n : Int)) xs := h2
    obtain ⟨a, xs, rfl, h3, h4⟩ := h2'
    rw [das_ints h4] at h3
    exact .inl ⟨ms, a, hm, h1, h3⟩
  · exact .inr ⟨h, g.none (by rw [Wd.kindsK, keys_map]; exact h)⟩
abbrev natV (ms : List Nat) : List V := ms.map fun (n : Nat) => V.int (n : Int)
theorem flat_nat (ms : List Nat) : (natV ms).all flatV = true := by
  rw [List.all_eq_true]
  intro x hx
  obtain ⟨n, _, rfl⟩ := List.mem_map.mp hx
  rfl
theorem in_nat (n : Nat) (ms : List Nat) : inV (.int (n : Int)) (natV ms) = decide (n ∈ ms) := by
  unfold inV
  rw [Bool.eq_iff_iff, List.any_eq_true, decide_eq_true_eq]
  constructor
  · rintro ⟨y, hy, e⟩
    obtain ⟨m, hm, rfl⟩ := List.mem_map.mp hy
    have : (m : Int) = (n : Int) := by simpa [eqV] using e
    have : m = n := by omega
    subst this
    exact hm
  · intro h
    exact ⟨_, List.mem_map.mpr ⟨n, h, rfl⟩, by simp [eqV]⟩
theorem range_all {n : Nat} : (List.range n).filter (fun i => decide (i ∈ List.range n)) = List.range n := by
  rw [List.filter_eq_self]
  intro a ha
  exact decide_eq_true ha
theorem filt_nil (n : Nat) : (List.range n).filter (fun i => decide (i ∈ ([] : List Nat))) = [] := by simp
/-- all stays but what stands at d -/
def Rest (d : Addr) (H H' : Hp) : Prop := ∀ b u, b ≠ d → H b = some u → H' b = some u
theorem Rest.new {d p : Addr} {H H' : Hp} (h : Rest d H H') (hp : H' p = none) (o : HO) : Rest d H (upd H' p o) := fun b u hb q => by
  rw [upd_ne (ne_of_none (h b u hb q) hp)]
  exact h b u hb q
/-- a dict of lists -/
def Lists (H : Hp) (l : List (Key × V)) (xss : List (List V)) : Prop := Paired (fun kv xs => ∃ a, kv.2 = .ref a ∧ H a = some (.lst xs)) l xss
theorem Lists.get {H : Hp} : ∀ {l : List (Key × V)} {xss : List (List V)} {i : Nat} {kv : Key × V}, Lists H l xss → l[i]? = some kv → ∃ xs a, xss[i]? = some xs ∧ kv.2 = .ref a ∧ H a = some (.lst xs)
  | _, _, _, _, .nil, h => by simp at h
  | _, _, 0, _, .cons (b := b) r _, h => by
    simp at h; subst h
    obtain ⟨a, h1, h2⟩ := r
    exact ⟨b, a, rfl, h1, h2⟩
  | _, _, i + 1, kv, .cons _ t, h => by
    obtain ⟨xs, a, h1, h2, h3⟩ := Lists.get (i := i) t (by simpa using h)
    exact ⟨xs, a, by simpa using h1, h2, h3⟩
theorem Lists.imp {H H' : Hp} (h : ∀ a xs, H a = some (.lst xs) → H' a = some (.lst xs)) {l : List (Key × V)} {xss : List (List V)} (q : Lists H l xss) : Lists H' l xss :=
  Paired.imp' (fun _ _ ⟨a, e, z⟩ => ⟨a, e, h _ _ z⟩) q
theorem Lists.snoc {H : Hp} : ∀ {l : List (Key × V)} {xss : List (List V)} {k : Key} {a : Addr} {xs : List V}, Lists H l xss → H a = some (.lst xs) → Lists H (l ++ [(k, .ref a)]) (xss ++ [xs])
  | _, _, _, _, _, .nil, h => .cons ⟨_, rfl, h⟩ .nil
  | _, _, _, _, _, .cons r t, h => .cons r (Lists.snoc t h)
theorem Lists.len {H : Hp} {l : List (Key × V)} {xss : List (List V)} (h : Lists H l xss) : l.length = xss.length := Paired.length h
/-- what the dict of lists tells at one of its keys -/
theorem at_key : ∀ {l : List (Key × V)} {i : Nat} {kv : Key × V}, (l.map (·.1)).Nodup → l[i]? = some kv → valV l kv.1 = some kv.2
  | [], _, _, _, h => by simp at h
  | a :: l, 0, kv, _, h => by
    simp at h; subst h
    exact valV_pos rfl
  | a :: l, i + 1, kv, nd, h => by
    rw [List.map_cons, List.nodup_cons] at nd
    have h' : l[i]? = some kv := by simpa using h
    rw [valV_neg]
    · exact at_key nd.2 h'
    · intro z
      exact nd.1 (by rw [z]; exact List.mem_map.mpr ⟨kv, List.mem_of_getElem? h', rfl⟩)
theorem not_yet {l : List (Key × V)} {i : Nat} {kv : Key × V} (nd : (l.map (·.1)).Nodup) (h : l[i]? = some kv) : kv.1 ∉ (l.take i).map (·.1) := by
  have hi : i < l.length := (List.getElem?_eq_some_iff.mp h).1
  have e : l = l.take i ++ kv :: l.drop (i + 1) := by
    conv => lhs; rw [← List.take_append_drop i l]
    congr 1
    rw [List.drop_eq_getElem_cons hi]
    congr 1
    exact (List.getElem?_eq_some_iff.mp h).2
  rw [e, List.map_append, List.map_cons, List.nodup_append] at nd
  intro hm
  exact nd.2.2 _ hm _ List.mem_cons_self rfl
theorem val_none : ∀ {l : List (Key × V)} {k : Key}, k ∉ l.map (·.1) → valV l k = none
  | [], _, _ => rfl
  | a :: l, k, h => by
    rw [List.map_cons, List.mem_cons, not_or] at h
    rw [valV_neg]
    · exact val_none h.2
    · exact fun z => h.1 z.symm
/-- copies of lists tell the same data -/
theorem das_same {H H' : Hp} (t : Tups H H') : ∀ {qs : List (Nat × Nat)} {xs : List V}, Das H (qs.map pairD) xs → Das H' (qs.map pairD) xs
  | [], _, h => h
  | q :: qs, _, ⟨x, r, e, h, h2⟩ => by
    obtain ⟨p, ys, e1, h3, y, s, e2, h4, y2, s2, e3, h5, h6⟩ := (show ∃ p xs, x = .ref p ∧ H p = some (.tup xs) ∧ Das H [.int (q.1 : Int), .int (q.2 : Int)] xs from h)
    exact ⟨x, r, e, (show ∃ p xs, x = .ref p ∧ H' p = some (.tup xs) ∧ Das H' [.int (q.1 : Int), .int (q.2 : Int)] xs from ⟨p, ys, e1, t _ _ h3, y, s, e2, h4, y2, s2, e3, h5, h6⟩), das_same t h2⟩
theorem das_ints2 {H H' : Hp} {ps : List Nat} {xs : List V} (h : Das H (ps.map fun (n : Nat) => Dat.int (n : Int)) xs) : Das H' (ps.map fun (n : Nat) => Dat.int (n : Int)) xs := by
  rw [das_ints h]; exact ints_das ps
/-- a dict whose values are lists of data, its lists by themselves -/
theorem lists_of {α : Type} {H : Hp} (D : α → List Dat) : ∀ {ks : List (Str × α)} {l : List (Key × V)}, Dak H (ks.map fun x => (x.1, Dat.lst (D x.2))) l → ∃ xss, Lists H l xss ∧ Paired (fun (x : Str × α) xs => Das H (D x.2) xs) ks xss
  | [], _, h => by
    have e : _ = [] := h
    subst e
    exact ⟨[], .nil, .nil⟩
  | (k, d) :: ks, _, ⟨x, r, e, h, q⟩ => by
    subst e
    obtain ⟨a, xs, e1, h1, h2⟩ := (show ∃ p xs, x = .ref p ∧ H p = some (.lst xs) ∧ Das H (D d) xs from h)
    obtain ⟨xss, g1, g2⟩ := lists_of D q
    exact ⟨xs :: xss, .cons ⟨a, e1, h1⟩ g1, .cons h2 g2⟩
theorem of_lists {α : Type} {H H' : Hp} (D : α → List Dat) (hD : ∀ x xs, Das H (D x) xs → Das H' (D x) xs) : ∀ {ks : List (Str × α)} {l : List (Key × V)} {xss : List (List V)}, l.map (·.1) = ks.map (fun x => Sum.inr x.1) → Lists H' l xss → Paired (fun (x : Str × α) xs => Das H (D x.2) xs) ks xss → Dak H' (ks.map fun x => (x.1, Dat.lst (D x.2))) l
  | [], l, _, hk, _, _ => by
    have : l = [] := by simpa using hk
    subst this
    rfl
  | (k, d) :: ks, [], _, hk, _, _ => by simp at hk
  | (k, d) :: ks, kv :: l, _, hk, .cons r t, .cons h q => by
    simp only [List.map_cons, List.cons.injEq] at hk
    obtain ⟨a, e, ha⟩ := r
    obtain ⟨k0, v0⟩ := kv
    have e1 : k0 = Sum.inr k := hk.1
    have e2 : v0 = .ref a := e
    subst e1; subst e2
    exact ⟨.ref a, l, rfl, (show ∃ p xs, V.ref a = .ref p ∧ H' p = some (.lst xs) ∧ Das H' (D d) xs from ⟨a, _, rfl, ha, hD d _ h⟩), of_lists D hD hk.2 t q⟩
theorem keys_of {H : Hp} {ks : List (Str × Dat)} {l : List (Key × V)} (h : Dak H ks l) (nd : (ks.map (·.1)).Nodup) : (l.map (·.1)).Nodup := by
  rw [h.keys]
  have e : ks.map (fun k => (Sum.inr k.1 : Key)) = (ks.map (·.1)).map Sum.inr := by rw [List.map_map]; rfl
  rw [e]
  exact List.Pairwise.map (R := (· ≠ ·)) Sum.inr (fun a b hab => fun z => hab (Sum.inr.inj z)) nd
def spCopy : Sp := fun vs H Q _ => ∃ (v : V) (W : Wd), vs = [v] ∧ IsW H W v ∧ W.nd ∧ W.kinds.length ≤ 100 ∧ W.pairs.length ≤ 100 ∧ ∀ v' H', Same H H' → IsW H' W v' → Q v' H'
/-- what holds of a dict of lists that is copied key by key: l is the new dict's content -/
structure Cp (H : Hp) (d dn : Addr) (o : Obj) (lk : List (Key × V)) (xss : List (List V)) (i : Nat) (H' : Hp) (l : List (Key × V)) : Prop where
  rest : Rest d H H'
  fz : H' d = some (.frz o (.dK lk))
  nw : H' dn = some (.dK l)
  keys : l.map (·.1) = (lk.take i).map (·.1)
  ls : Lists H' l (xss.take i)
theorem Cp.step {H H' : Hp} {d dn : Addr} {o : Obj} {lk l : List (Key × V)} {xss : List (List V)} {i : Nat} {kv : Key × V} {r : Addr} {xs : List V} (C : Cp H d dn o lk xss i H' l) (hdn : H dn = none) (nd : (lk.map (·.1)).Nodup) (hk : lk[i]? = some kv) (hx : xss[i]? = some xs) (hr : H' r = none) :
    Cp H d dn o lk xss (i + 1) (upd (upd H' r (.lst xs)) dn (.dK (putK l kv.1 (.ref r)))) (putK l kv.1 (.ref r)) := by
  have hnd : dn ≠ d := ne_of C.nw C.fz (by intro z; cases z)
  have hdr : d ≠ r := ne_of_none C.fz hr
  have hnr : dn ≠ r := ne_of_none C.nw hr
  have hnew : putK l kv.1 (.ref r) = l ++ [(kv.1, .ref r)] := putK_new _ (val_none (by rw [C.keys]; exact not_yet nd hk))
  rw [hnew]
  refine ⟨fun b u hb q => ?_, ?_, upd_same, ?_, ?_⟩
  · have h1 : b ≠ dn := ne_of_none q hdn
    rw [upd_ne h1, upd_ne (ne_of_none (C.rest b u hb q) hr)]
    exact C.rest b u hb q
  · rw [upd_ne (Ne.symm hnd), upd_ne hdr]; exact C.fz
  · rw [List.map_append, C.keys, List.take_add_one, hk, List.map_append]; rfl
  · rw [List.take_add_one, hx]
    refine Lists.snoc (C.ls.imp fun a ys ha => ?_) ?_
    · have h1 : a ≠ dn := ne_of ha C.nw (by intro z; cases z)
      rw [upd_ne h1, upd_ne (ne_of_none ha hr)]
      exact ha
    · rw [upd_ne (Ne.symm hnr)]; exact upd_same
section
variable {P : Program} {w : World} {K : PySem.W.Frag} {mg : Str → Option Value} {base : Heap} {f g e d a1 a2 a3 a4 : Addr} {fd gd' ed dd d1 d2 d3 d4 : FuncData}
theorem scCopy : FnScope ["_law_world_here", "_law_kinds", "_law_name", "_law_pairs", "_law_tie"] ["_law_world_here"] (defScope sCopy) := ⟨rfl, rfl, rfl, by decide +kernel, rfl, by decide +kernel, by decide +kernel⟩
theorem ok_copy (F : Fun K "_law_copy" "_law_copy" sCopy f fd) (mls : mg "list" = none) (mdi : mg "dict" = none) : FnOk P w K mg base CX0 1 f fd ["_law_world_here"] spCopy := by
  refine F.ok scCopy (fun vs H Q E h => ?_) (fun cdv A outer s H vs Q E hr h => ?_)
  · obtain ⟨v, W, rfl, _⟩ := h; rfl
  obtain ⟨v, W, rfl, hW, nd, lk1, lk2, q⟩ := h
  have hu : (A.deeper (PyProof.Rows.envOfC "_law_copy" (defScope sCopy) s.heap.objs.size f cdv)).units + 1 < cLine := by have := hr.un; omega
  refine ⟨_, @pss_cons _ _ _ _ _ (by exact ps_set (i := 1) scCopy.nd rfl (Or.inl rfl) pe_dnewK)
    (@pss_cons _ _ _ _ _ (by exact ps_thaw (ps_for PassesOwn.never rfl (pi_dict (pe_ix ix_tup (pv 0) pe_int (fun _ _ => rfl))) (pg_name (i := 2) scCopy.nd rfl (Or.inl rfl)) (@pss_one _ _ _ (by exact ps_dput hu (pv 1) (pv 2) (pe_callTy call_list_of rfl mls PyProof.Rows.boot_list (pa_cons (pe_dget hu (pe_ix ix_tup (pv 0) pe_int (fun _ _ => rfl)) (pv 2) (fun _ _ => rfl)) pa_nil)) rfl))))
    (@pss_cons _ _ _ _ _ (by exact ps_set (i := 3) scCopy.nd rfl (Or.inl rfl) pe_dnewK)
    (@pss_cons _ _ _ _ _ (by exact ps_thaw (ps_for PassesOwn.never rfl (pi_dict (pe_ix ix_tup (pv 0) pe_int (fun _ _ => rfl))) (pg_name (i := 4) scCopy.nd rfl (Or.inl rfl)) (@pss_one _ _ _ (by exact ps_dput hu (pv 3) (pv 4) (pe_callTy call_list_of rfl mls PyProof.Rows.boot_list (pa_cons (pe_dget hu (pe_ix ix_tup (pv 0) pe_int (fun _ _ => rfl)) (pv 4) (fun _ _ => rfl)) pa_nil)) rfl))))
    (@pss_one _ _ _ (by exact ps_ret (pe_tup (pa_cons (pe_ix ix_tup (pv 0) pe_int (fun _ _ => rfl)) (pa_cons (pv 1) (pa_cons (pv 3) (pa_cons (pe_callTy call_dictD rfl mdi PyProof.Rows.boot_dict (pa_cons (pe_ix ix_tup (pv 0) pe_int (fun _ _ => rfl)) pa_nil)) pa_nil)))))))))), ?_⟩
  obtain ⟨p, dk, dp, dh, lk, lp, lh, rfl, h0, h1, g1, h2, g2, h3, g3⟩ := hW
  have ndk := keys_of g1 (by rw [Wd.kindsK, keys_map]; exact nd.k)
  have ndp := keys_of g2 (by rw [Wd.pairsK, keys_map]; exact nd.p)
  obtain ⟨xk, Lk, Pk⟩ := lists_of (fun ps : List Nat => ps.map fun (n : Nat) => Dat.int (n : Int)) (ks := W.kinds) g1
  obtain ⟨xp, Lp, Pp⟩ := lists_of (fun qs : List (Nat × Nat) => qs.map pairD) (ks := W.pairs) g2
  have ll1 : lk.length ≤ 100 := by rw [g1.len, Wd.kindsK, List.length_map]; exact lk1
  have ll2 : lp.length ≤ 100 := by rw [g2.len, Wd.pairsK, List.length_map]; exact lk2
  intro c1 hc1
  have s1 := same_new (H := H) hc1 (.dK [])
  have n1 : c1 ≠ dk := Ne.symm (ne_of_none h1 hc1)
  refine ⟨dk, lk, s1 _ _ h1, _, rfl, p, _, 1, _, rfl, rfl, SqT.of (s1 _ _ h0), atI_nat (j := 1) rfl, dk, lk, rfl, s1 _ _ h1, fun o => ?_⟩
  refine for_dict (fun i σ H' => ∃ (l : List (Key × V)) (o2 : Option V), σ = [some (.ref p), some (.ref c1), o2, none, none] ∧ Cp H dk c1 o lk xk i H' l) ⟨[], none, rfl, ?_⟩ ?_ ?_ ?_
  · refine ⟨fun b u hb q => ?_, upd_same, by rw [upd_ne n1]; exact upd_same, rfl, .nil⟩
    rw [upd_ne hb]; exact s1 b u q
  · rintro i σ H' hi ⟨l, o2, rfl, C⟩
    exact C.fz
  · rintro i kv σ H' hk ⟨l, o2, rfl, C⟩
    obtain ⟨xs, a, hx, e, ha⟩ := Lk.get hk
    have hne : a ≠ dk := ne_of ha h1 (by intro z; cases z)
    have hp' : H' p = some (.tup [.int (W.many : Int), .ref dk, .ref dp, .ref dh]) := C.rest _ _ (ne_of h0 h1 (by intro z; cases z)) h0
    have hv := at_key ndk hk
    rw [e] at hv
    have hl : l.length < sizeLine := by
      have := congrArg List.length C.keys
      rw [List.length_map, List.length_map, List.length_take] at this
      exact small1000 (by omega)
    refine ⟨_, rfl, p, _, 1, _, rfl, rfl, SqT.of hp', atI_nat (j := 1) rfl, _, rfl, dk, .ref a, rfl, .inl ⟨lk, kv.1, .inr ⟨o, C.fz⟩, rfl, hv.symm⟩, a, xs, rfl, .inl (SqL.of (C.rest _ _ hne ha)), fun r hr' => ?_⟩
    have nr : c1 ≠ r := ne_of_none C.nw hr'
    refine ⟨_, rfl, _, rfl, c1, _, rfl, DPut.k (k := kv.1) (by rw [upd_ne nr]; exact C.nw) hl, _, _, rfl, C.step hc1 ndk hk hx hr'⟩
  rintro σ H' ⟨l, o2, rfl, C⟩
  refine ⟨o, C.fz, ?_⟩
  have klen := C.keys
  rw [List.take_length] at klen
  have LsA := C.ls
  rw [Lk.len, List.take_length] at LsA
  have t1 : Same H (upd H' dk (.dK lk)) := fun b u hb => by
    by_cases z : b = dk
    · subst z; rw [upd_same, ← h1, hb]
    · rw [upd_ne z]; exact C.rest b u z hb
  have eA : upd H' dk (.dK lk) c1 = some (.dK l) := by rw [upd_ne n1]; exact C.nw
  have LsB : Lists (upd H' dk (.dK lk)) l xk := LsA.imp fun a ys ha => by rw [upd_ne (ne_of ha C.fz (by intro z; cases z))]; exact ha
  generalize upd H' dk (.dK lk) = H2 at t1 eA LsB ⊢
  intro c2 hc2
  have s2 := same_new (H := H2) hc2 (.dK [])
  have n2 : c2 ≠ dp := Ne.symm (ne_of_none (t1 _ _ h2) hc2)
  have hH2 : H c2 = none := none_of_same t1 hc2
  refine ⟨dp, lp, s2 _ _ (t1 _ _ h2), _, rfl, p, _, 2, _, rfl, rfl, SqT.of (s2 _ _ (t1 _ _ h0)), atI_nat (j := 2) rfl, dp, lp, rfl, s2 _ _ (t1 _ _ h2), fun o' => ?_⟩
  have Lp2 : Lists H2 lp xp := Lp.imp fun a xs ha => t1 _ _ ha
  refine for_dict (fun i σ H' => ∃ (l' : List (Key × V)) (o4 : Option V), σ = [some (.ref p), some (.ref c1), o2, some (.ref c2), o4] ∧ Cp H2 dp c2 o' lp xp i H' l') ⟨[], none, rfl, ?_⟩ ?_ ?_ ?_
  · refine ⟨fun b u hb q => ?_, upd_same, by rw [upd_ne n2]; exact upd_same, rfl, .nil⟩
    rw [upd_ne hb]; exact s2 b u q
  · rintro i σ H' hi ⟨l', o4, rfl, C⟩
    exact C.fz
  · rintro i kv σ H' hk ⟨l', o4, rfl, C⟩
    obtain ⟨xs, a, hx, e, ha⟩ := Lp2.get hk
    have hne : a ≠ dp := ne_of ha (t1 _ _ h2) (by intro z; cases z)
    have hp' : H' p = some (.tup [.int (W.many : Int), .ref dk, .ref dp, .ref dh]) := C.rest _ _ (ne_of h0 h2 (by intro z; cases z)) (t1 _ _ h0)
    have hv := at_key ndp hk
    rw [e] at hv
    have hl : l'.length < sizeLine := by
      have := congrArg List.length C.keys
      rw [List.length_map, List.length_map, List.length_take] at this
      exact small1000 (by omega)
    refine ⟨_, rfl, p, _, 2, _, rfl, rfl, SqT.of hp', atI_nat (j := 2) rfl, _, rfl, dp, .ref a, rfl, .inl ⟨lp, kv.1, .inr ⟨o', C.fz⟩, rfl, hv.symm⟩, a, xs, rfl, .inl (SqL.of (C.rest _ _ hne ha)), fun r hr' => ?_⟩
    have nr : c2 ≠ r := ne_of_none C.nw hr'
    refine ⟨_, rfl, _, rfl, c2, _, rfl, DPut.k (k := kv.1) (by rw [upd_ne nr]; exact C.nw) hl, _, _, rfl, C.step hc2 ndp hk hx hr'⟩
  rintro σ H3 ⟨l', o4, rfl, C'⟩
  refine ⟨o', C'.fz, ?_⟩
  have klen' := C'.keys
  rw [List.take_length] at klen'
  have LsA' := C'.ls
  rw [Lp.len, List.take_length] at LsA'
  have t2 : Same H2 (upd H3 dp (.dK lp)) := fun b u hb => by
    by_cases z : b = dp
    · subst z; rw [upd_same, ← t1 _ _ h2, hb]
    · rw [upd_ne z]; exact C'.rest b u z hb
  have eB : upd H3 dp (.dK lp) c2 = some (.dK l') := by rw [upd_ne n2]; exact C'.nw
  have LsC : Lists (upd H3 dp (.dK lp)) l' xp := LsA'.imp fun a ys ha => by rw [upd_ne (ne_of ha C'.fz (by intro z; cases z))]; exact ha
  generalize upd H3 dp (.dK lp) = H4 at t2 eB LsC ⊢
  have t12 := t1.trans t2
  refine ⟨_, rfl, p, _, 0, _, rfl, rfl, SqT.of (t12 _ _ h0), atI_nat (j := 0) rfl, _, rfl, _, rfl, _, rfl, p, _, 3, _, rfl, rfl, SqT.of (t12 _ _ h0), atI_nat (j := 3) rfl, dh, lh, rfl, t12 _ _ h3, fun c3 hc3 => ⟨small2 (by show 4 ≤ 1000; decide), fun t ht => ?_⟩⟩
  have s3 := same_new (H := H4) hc3 (.dK lh)
  have s4 := same_new (H := upd H4 c3 (.dK lh)) ht (.tup [.int (W.many : Int), .ref c1, .ref c2, .ref c3])
  have e3 : upd (upd H4 c3 (.dK lh)) t (.tup [.int (W.many : Int), .ref c1, .ref c2, .ref c3]) c3 = some (.dK lh) := s4 _ _ upd_same
  have s34 := s3.trans s4
  have e1 := s34 _ _ (t2 _ _ eA)
  have e2 := s34 _ _ eB
  have L1 : Lists (upd (upd H4 c3 (.dK lh)) t (.tup [.int (W.many : Int), .ref c1, .ref c2, .ref c3])) l xk := LsB.imp fun a xs ha => (t2.trans s34) _ _ ha
  have L2' : Lists (upd (upd H4 c3 (.dK lh)) t (.tup [.int (W.many : Int), .ref c1, .ref c2, .ref c3])) l' xp := LsC.imp fun a xs ha => s34 _ _ ha
  have ee : upd (upd H4 c3 (.dK lh)) t (.tup [.int (W.many : Int), .ref c1, .ref c2, .ref c3]) t = some (.tup [.int (W.many : Int), .ref c1, .ref c2, .ref c3]) := upd_same
  have sA := t12.trans s34
  generalize upd (upd H4 c3 (.dK lh)) t (.tup [.int (W.many : Int), .ref c1, .ref c2, .ref c3]) = H5 at e3 s34 e1 e2 L1 L2' ee sA ⊢
  refine q _ _ sA ⟨t, c1, c2, c3, l, l', lh, rfl, ee, e1, ?_, e2, ?_, e3, g3.mono sA⟩
  · refine of_lists (fun ps : List Nat => ps.map fun (n : Nat) => Dat.int (n : Int)) (fun x xs h => das_ints2 h) ?_ L1 Pk
    rw [klen, g1.keys, Wd.kindsK, List.map_map]; rfl
  · refine of_lists (fun qs : List (Nat × Nat) => qs.map pairD) (fun x xs h => das_same sA.tups h) ?_ L2' Pp
    rw [klen', g2.keys, Wd.pairsK, List.map_map]; rfl
end
end K07
set_option Elab.async false
set_option linter.all false
set_option maxRecDepth 100000
set_option maxHeartbeats 4000000
namespace K07
open PySem L2
/-- a tie's pairs: places of the world, not too many -/
def PairsOk (m : Nat) (qs : List (Nat × Nat)) : Prop := qs.length ≤ 1000 ∧ ∀ q ∈ qs, q.1 < m ∧ q.2 < m
def PairsW (m : Nat) (qs : List (Nat × Nat)) : Prop := qs.length ≤ 400 ∧ ∀ q ∈ qs, q.1 < m ∧ q.2 < m
structure WdOk (W : Wd) : Prop where
  nd : W.nd
  many : W.many ≤ 10
  lk : W.kinds.length ≤ 100
  lp : W.pairs.length ≤ 100
  filt : ∀ x ms, (x, ms) ∈ W.kinds → (List.range W.many).filter (fun i => decide (i ∈ ms)) = ms
  pr : ∀ x qs, (x, qs) ∈ W.pairs → PairsOk W.many qs
  hm : ∀ x n, (x, n) ∈ W.homes → n < W.many
/-- all that is no dict stays -/
def Keep (H H' : Hp) : Prop := ∀ b u, (∀ l, u ≠ .dK l) → H b = some u → H' b = some u
theorem Keep.trans {H H1 H2 : Hp} (a : Keep H H1) (b : Keep H1 H2) : Keep H H2 := fun c u n h => b c u n (a c u n h)
theorem Same.keep {H H' : Hp} (s : Same H H') : Keep H H' := fun b u _ h => s b u h
theorem keep_put {H : Hp} {d : Addr} {l l' : List (Key × V)} (h : H d = some (.dK l)) : Keep H (upd H d (.dK l')) := fun b u n q => by
  have : b ≠ d := fun z => by rw [z, h] at q; injection q with q; exact n l q.symm
  rw [upd_ne this]; exact q
mutual
theorem Da.keep {H H' : Hp} (s : Keep H H') : ∀ {d : Dat} {v : V}, d.flat → Da H d v → Da H' d v
  | .int _, _, _, h => h
  | .str _, _, _, h => h
  | .tup _, _, f, ⟨p, xs, e, h, q⟩ => ⟨p, xs, e, s _ _ (fun _ z => by cases z) h, Das.keep s f q⟩
  | .lst _, _, f, ⟨p, xs, e, h, q⟩ => ⟨p, xs, e, s _ _ (fun _ z => by cases z) h, Das.keep s f q⟩
  | .dct _, _, f, _ => f.elim
theorem Das.keep {H H' : Hp} (s : Keep H H') : ∀ {ds : List Dat} {xs : List V}, flats ds → Das H ds xs → Das H' ds xs
  | [], _, _, h => h
  | _ :: _, _, f, ⟨x, r, e, h, q⟩ => ⟨x, r, e, Da.keep s f.1 h, Das.keep s f.2 q⟩
end
theorem Dak.keep {H H' : Hp} (s : Keep H H') : ∀ {ks : List (Str × Dat)} {l : List (Key × V)}, (∀ k ∈ ks, k.2.flat) → Dak H ks l → Dak H' ks l
  | [], _, _, h => h
  | (_, _) :: _, _, f, ⟨x, r, e, h, q⟩ => ⟨x, r, e, Da.keep s (f _ (List.mem_cons_self ..)) h, Dak.keep s (fun k hk => f k (List.mem_cons_of_mem _ hk)) q⟩
/-- a put into a list of names with something each -/
def putS {α : Type} (ks : List (Str × α)) (x : Str) (a : α) : List (Str × α) :=
  if (ks.any fun k => decide (k.1 = x)) = true then ks.map (fun k => if k.1 = x then (k.1, a) else k) else ks ++ [(x, a)]
theorem dak_any {H : Hp} {x : Str} : ∀ {ks : List (Str × Dat)} {l : List (Key × V)}, Dak H ks l → (l.any fun kv => decide (kv.1 = Sum.inr x)) = ks.any fun k => decide (k.1 = x)
  | [], _, h => by cases h; rfl
  | (k, _) :: _, _, ⟨v, r, e, _, q⟩ => by
    rw [e, List.any_cons, List.any_cons, dak_any q]
    congr 1
    by_cases h : k = x
    · subst h; simp
    · rw [decide_eq_false (show ¬ (Sum.inr k : Key) = Sum.inr x from fun z => h (Sum.inr.inj z)), decide_eq_false h]
theorem dak_map {H : Hp} {x : Str} {d : Dat} {v : V} (hv : Da H d v) : ∀ {ks : List (Str × Dat)} {l : List (Key × V)}, Dak H ks l →
    Dak H (ks.map fun k => if k.1 = x then (k.1, d) else k) (l.map fun kv => if kv.1 = Sum.inr x then (kv.1, v) else kv)
  | [], _, h => by cases h; rfl
  | (k, d') :: _, _, ⟨u, r, e, h, q⟩ => by
    rw [e, List.map_cons, List.map_cons]
    by_cases hk : k = x
    · rw [if_pos (show (k, d').1 = x from hk), if_pos (show ((Sum.inr k, u) : Key × V).1 = Sum.inr x by rw [hk])]
      exact ⟨v, _, rfl, hv, dak_map hv q⟩
    · rw [if_neg (show ¬ (k, d').1 = x from hk), if_neg (show ¬ ((Sum.inr k, u) : Key × V).1 = Sum.inr x from fun z => hk (Sum.inr.inj z))]
      exact ⟨u, _, rfl, h, dak_map hv q⟩
theorem dak_snoc {H : Hp} {x : Str} {d : Dat} {v : V} (hv : Da H d v) : ∀ {ks : List (Str × Dat)} {l : List (Key × V)}, Dak H ks l → Dak H (ks ++ [(x, d)]) (l ++ [(Sum.inr x, v)])
  | [], _, h => by cases h; exact ⟨v, [], rfl, hv, rfl⟩
  | (_, _) :: _, _, ⟨u, r, e, h, q⟩ => by rw [e]; exact ⟨u, _, rfl, h, dak_snoc hv q⟩
theorem dak_put {H : Hp} {x : Str} {d : Dat} {v : V} {ks : List (Str × Dat)} {l : List (Key × V)} (h : Dak H ks l) (hv : Da H d v) : Dak H (putS ks x d) (putK l (Sum.inr x) v) := by
  unfold putS putK
  rw [dak_any h]
  split
  · exact dak_map hv h
  · exact dak_snoc hv h
theorem putS_map {α : Type} (g : α → Dat) (x : Str) (a : α) (ks : List (Str × α)) : putS (ks.map fun k => (k.1, g k.2)) x (g a) = (putS ks x a).map fun k => (k.1, g k.2) := by
  unfold putS
  rw [List.any_map]
  show (if (ks.any fun k => decide (k.1 = x)) = true then _ else _) = _
  split
  · rw [List.map_map, List.map_map]
    apply List.map_congr_left
    intro k _
    show (if k.1 = x then (k.1, g a) else (k.1, g k.2)) = (fun k : Str × α => (k.1, g k.2)) (if k.1 = x then (k.1, a) else k)
    split <;> rfl
  · rw [List.map_append]; rfl
theorem putS_keys {α : Type} (x : Str) (a : α) (ks : List (Str × α)) : (putS ks x a).map (·.1) = if (ks.any fun k => decide (k.1 = x)) = true then ks.map (·.1) else ks.map (·.1) ++ [x] := by
  unfold putS
  split
  · rw [List.map_map]
    apply List.map_congr_left
    intro k _
    show (if k.1 = x then (k.1, a) else k).1 = k.1
    split <;> rfl
  · rw [List.map_append]; rfl
theorem putS_nd {α : Type} {x : Str} {a : α} {ks : List (Str × α)} (nd : (ks.map (·.1)).Nodup) : ((putS ks x a).map (·.1)).Nodup := by
  rw [putS_keys]
  split
  · exact nd
  · rename_i h
    refine List.nodup_append.mpr ⟨nd, List.pairwise_singleton .., fun b hb c hc => ?_⟩
    rw [List.mem_singleton.mp hc]
    rintro rfl
    obtain ⟨k, hk, e⟩ := List.mem_map.mp hb
    exact h (List.any_eq_true.mpr ⟨k, hk, decide_eq_true e⟩)
theorem putS_len {α : Type} {x : Str} {a : α} {ks : List (Str × α)} : (putS ks x a).length ≤ ks.length + 1 := by
  unfold putS
  split
  · rw [List.length_map]; omega
  · rw [List.length_append]; exact Nat.le_refl _
theorem putS_mem {α : Type} {x : Str} {a : α} {ks : List (Str × α)} {y : Str × α} (h : y ∈ putS ks x a) : y ∈ ks ∨ y = (x, a) := by
  unfold putS at h
  split at h
  · obtain ⟨k, hk, e⟩ := List.mem_map.mp h
    split at e
    · rename_i hx
      exact .inr (by rw [← e, hx])
    · exact .inl (e ▸ hk)
  · rcases List.mem_append.mp h with k | k
    · exact .inl k
    · exact .inr (List.mem_singleton.mp k)
theorem flat_kinds (W : Wd) : ∀ k ∈ W.kindsK, k.2.flat := fun k hk => by
  obtain ⟨y, _, rfl⟩ := List.mem_map.mp hk
  exact flat_nats _
theorem flat_pairsK (W : Wd) : ∀ k ∈ W.pairsK, k.2.flat := fun k hk => by
  obtain ⟨y, _, rfl⟩ := List.mem_map.mp hk
  exact flat_pairs _
theorem flat_homes (W : Wd) : ∀ k ∈ W.homesK, k.2.flat := fun k hk => by
  obtain ⟨y, _, rfl⟩ := List.mem_map.mp hk
  exact trivial
/-- a world that is being made: its three dicts are new since H, i, j, n bound their sizes -/
structure Wb (H H' : Hp) (dk dp dh : Addr) (W : Wd) (i j : Nat) : Prop where
  same : Same H H'
  fk : H dk = none
  fp : H dp = none
  fh : H dh = none
  kp : dk ≠ dp
  kh : dk ≠ dh
  ph : dp ≠ dh
  ek : ∃ l, H' dk = some (.dK l) ∧ Dak H' W.kindsK l
  ep : ∃ l, H' dp = some (.dK l) ∧ Dak H' W.pairsK l
  eh : ∃ l, H' dh = some (.dK l) ∧ Dak H' W.homesK l
  nd : W.nd
  many : W.many ≤ 10
  lk : W.kinds.length ≤ i
  lp : W.pairs.length ≤ j
  filt : ∀ x ms, (x, ms) ∈ W.kinds → (List.range W.many).filter (fun i => decide (i ∈ ms)) = ms
  pr : ∀ x qs, (x, qs) ∈ W.pairs → PairsW W.many qs
  hm : ∀ x n, (x, n) ∈ W.homes → n < W.many
theorem Wb.new {H H' H2 : Hp} {dk dp dh : Addr} {W : Wd} {i j : Nat} (B : Wb H H' dk dp dh W i j) (s : Same H' H2) : Wb H H2 dk dp dh W i j := by
  obtain ⟨l1, a1, b1⟩ := B.ek
  obtain ⟨l2, a2, b2⟩ := B.ep
  obtain ⟨l3, a3, b3⟩ := B.eh
  exact ⟨B.same.trans s, B.fk, B.fp, B.fh, B.kp, B.kh, B.ph, ⟨l1, s _ _ a1, b1.mono s⟩, ⟨l2, s _ _ a2, b2.mono s⟩, ⟨l3, s _ _ a3, b3.mono s⟩, B.nd, B.many, B.lk, B.lp, B.filt, fun x qs h => ⟨Nat.le_trans (B.pr x qs h).1 (by decide), (B.pr x qs h).2⟩, B.hm⟩
theorem Wb.more {H H' : Hp} {dk dp dh : Addr} {W : Wd} {i j i' j' : Nat} (B : Wb H H' dk dp dh W i j) (hi : i ≤ i') (hj : j ≤ j') : Wb H H' dk dp dh W i' j' :=
  ⟨B.same, B.fk, B.fp, B.fh, B.kp, B.kh, B.ph, B.ek, B.ep, B.eh, B.nd, B.many, Nat.le_trans B.lk hi, Nat.le_trans B.lp hj, B.filt, fun x qs h => ⟨Nat.le_trans (B.pr x qs h).1 (by decide), (B.pr x qs h).2⟩, B.hm⟩
theorem Wb.putKind {H H' : Hp} {dk dp dh : Addr} {W : Wd} {i j : Nat} {l : List (Key × V)} {x : Str} {ms : List Nat} {v : V} (B : Wb H H' dk dp dh W i j) (hl : H' dk = some (.dK l)) (hv : Da H' (natsD ms) v) (hf : (List.range W.many).filter (fun i => decide (i ∈ ms)) = ms) :
    Wb H (upd H' dk (.dK (putK l (Sum.inr x) v))) dk dp dh { W with kinds := putS W.kinds x ms } (i + 1) j := by
  obtain ⟨l1, a1, b1⟩ := B.ek
  obtain ⟨l2, a2, b2⟩ := B.ep
  obtain ⟨l3, a3, b3⟩ := B.eh
  have el : l1 = l := by rw [a1] at hl; injection hl with hl; injection hl
  subst el
  have kk := keep_put (l' := putK l1 (Sum.inr x) v) hl
  refine ⟨same_upd B.same B.fk, B.fk, B.fp, B.fh, B.kp, B.kh, B.ph, ⟨_, upd_same, ?_⟩, ⟨l2, by rw [upd_ne (Ne.symm B.kp)]; exact a2, Dak.keep kk (flat_pairsK W) b2⟩, ⟨l3, by rw [upd_ne (Ne.symm B.kh)]; exact a3, Dak.keep kk (flat_homes W) b3⟩, ⟨putS_nd B.nd.k, B.nd.p, B.nd.h⟩, B.many, Nat.le_trans putS_len (Nat.add_le_add_right B.lk 1), B.lp, ?_, B.pr, B.hm⟩
  · have := dak_put (x := x) (Dak.keep kk (flat_kinds W) b1) (Da.keep kk (flat_nats ms) hv)
    rw [Wd.kindsK, putS_map natsD x ms W.kinds] at this
    exact this
  · intro y ns hy
    rcases putS_mem hy with k | k
    · exact B.filt y ns k
    · injection k with _ k; rw [k]; exact hf
theorem Wb.putPair {H H' : Hp} {dk dp dh : Addr} {W : Wd} {i j : Nat} {l : List (Key × V)} {x : Str} {qs : List (Nat × Nat)} {v : V} (B : Wb H H' dk dp dh W i j) (hl : H' dp = some (.dK l)) (hv : Da H' (pairsD qs) v) (hq : PairsW W.many qs) :
    Wb H (upd H' dp (.dK (putK l (Sum.inr x) v))) dk dp dh { W with pairs := putS W.pairs x qs } i (j + 1) := by
  obtain ⟨l1, a1, b1⟩ := B.ek
  obtain ⟨l2, a2, b2⟩ := B.ep
  obtain ⟨l3, a3, b3⟩ := B.eh
  have el : l2 = l := by rw [a2] at hl; injection hl with hl; injection hl
  subst el
  have kk := keep_put (l' := putK l2 (Sum.inr x) v) hl
  refine ⟨same_upd B.same B.fp, B.fk, B.fp, B.fh, B.kp, B.kh, B.ph, ⟨l1, by rw [upd_ne B.kp]; exact a1, Dak.keep kk (flat_kinds W) b1⟩, ⟨_, upd_same, ?_⟩, ⟨l3, by rw [upd_ne (Ne.symm B.ph)]; exact a3, Dak.keep kk (flat_homes W) b3⟩, ⟨B.nd.k, putS_nd B.nd.p, B.nd.h⟩, B.many, B.lk, Nat.le_trans putS_len (Nat.add_le_add_right B.lp 1), B.filt, ?_, B.hm⟩
  · have := dak_put (x := x) (Dak.keep kk (flat_pairsK W) b2) (Da.keep kk (flat_pairs qs) hv)
    rw [Wd.pairsK, putS_map pairsD x qs W.pairs] at this
    exact this
  · intro y rs hy
    rcases putS_mem hy with k | k
    · exact B.pr y rs k
    · injection k with _ k; rw [k]; exact hq
theorem Wb.putHome {H H' : Hp} {dk dp dh : Addr} {W : Wd} {i j : Nat} {l : List (Key × V)} {x : Str} {n : Nat} (B : Wb H H' dk dp dh W i j) (hl : H' dh = some (.dK l)) (hn : n < W.many) :
    Wb H (upd H' dh (.dK (putK l (Sum.inr x) (.int (n : Int))))) dk dp dh { W with homes := putS W.homes x n } i j := by
  obtain ⟨l1, a1, b1⟩ := B.ek
  obtain ⟨l2, a2, b2⟩ := B.ep
  obtain ⟨l3, a3, b3⟩ := B.eh
  have el : l3 = l := by rw [a3] at hl; injection hl with hl; injection hl
  subst el
  have kk := keep_put (l' := putK l3 (Sum.inr x) (.int (n : Int))) hl
  refine ⟨same_upd B.same B.fh, B.fk, B.fp, B.fh, B.kp, B.kh, B.ph, ⟨l1, by rw [upd_ne B.kh]; exact a1, Dak.keep kk (flat_kinds W) b1⟩, ⟨l2, by rw [upd_ne B.ph]; exact a2, Dak.keep kk (flat_pairsK W) b2⟩, ⟨_, upd_same, ?_⟩, ⟨B.nd.k, B.nd.p, putS_nd B.nd.h⟩, B.many, B.lk, B.lp, B.filt, B.pr, ?_⟩
  · have := dak_put (x := x) (d := .int (n : Int)) (Dak.keep kk (flat_homes W) b3) (v := .int (n : Int)) rfl
    rw [Wd.homesK, putS_map (fun n : Nat => Dat.int (n : Int)) x n W.homes] at this
    exact this
  · intro y m hy
    rcases putS_mem hy with k | k
    · exact B.hm y m k
    · injection k with _ k; rw [k]; exact hn
theorem Wb.done {H H' : Hp} {dk dp dh : Addr} {W : Wd} {i j : Nat} (B : Wb H H' dk dp dh W i j) (hi : i ≤ 100) (hj : j ≤ 100) : WdOk W := ⟨B.nd, B.many, Nat.le_trans B.lk hi, Nat.le_trans B.lp hj, B.filt, fun x qs h => ⟨Nat.le_trans (B.pr x qs h).1 (by decide), (B.pr x qs h).2⟩, B.hm⟩
end K07
set_option Elab.async false
set_option linter.all false
set_option maxRecDepth 100000
set_option maxHeartbeats 4000000
namespace K07
open PySem L2
theorem ndpc : ((([("_law_p" : Str)] : List Str) ++ [("_law_cell_here" : Str)]) : List Str).Nodup := by decide +kernel
theorem ndqc : ((([("_law_q" : Str)] : List Str) ++ [("_law_cell_here" : Str)]) : List Str).Nodup := by decide +kernel
theorem ndqpc : ((([("_law_q" : Str)] : List Str) ++ [("_law_p" : Str), ("_law_cell_here" : Str)]) : List Str).Nodup := by decide +kernel
/-- a list of places below k, rising, each once -/
def Flt (k : Nat) (ms : List Nat) : Prop := (List.range k).filter (fun i => decide (i ∈ ms)) = ms ∧ ∀ n ∈ ms, n < k
theorem Flt.zero : Flt 0 [] := ⟨rfl, fun n h => (nomatch h)⟩
theorem Flt.no {k : Nat} {ms : List Nat} (h : Flt k ms) : Flt (k + 1) ms := by
  refine ⟨?_, fun n hn => Nat.lt_succ_of_lt (h.2 n hn)⟩
  rw [List.range_succ, List.filter_append, h.1]
  have : ¬ k ∈ ms := fun z => Nat.lt_irrefl _ (h.2 k z)
  simp [this]
theorem Flt.yes {k : Nat} {ms : List Nat} (h : Flt k ms) : Flt (k + 1) (ms ++ [k]) := by
  refine ⟨?_, fun n hn => ?_⟩
  · rw [List.range_succ, List.filter_append]
    have e : (List.range k).filter (fun i => decide (i ∈ ms ++ [k])) = (List.range k).filter (fun i => decide (i ∈ ms)) := by
      apply List.filter_congr
      intro i hi
      have : i ≠ k := Nat.ne_of_lt (List.mem_range.mp hi)
      simp [this]
    rw [e, h.1]
    simp
  · rcases List.mem_append.mp hn with z | z
    · exact Nat.lt_succ_of_lt (h.2 n z)
    · rw [List.mem_singleton.mp z]; exact Nat.lt_succ_self _
theorem Flt.len {k : Nat} {ms : List Nat} (h : Flt k ms) : ms.length ≤ k := by
  rw [← h.1]
  have := List.length_filter_le (fun i => decide (i ∈ ms)) (List.range k)
  rwa [List.length_range] at this
theorem das_app {H : Hp} : ∀ {ds es : List Dat} {xs ys : List V}, Das H ds xs → Das H es ys → Das H (ds ++ es) (xs ++ ys)
  | [], _, _, _, h, k => by cases h; exact k
  | _ :: _, _, _, _, ⟨x, r, e, h, q⟩, k => by rw [e]; exact ⟨x, _, rfl, h, das_app q k⟩
/-- the dict of kinds is none of the two others -/
def Apart (H : Hp) (v : V) : Prop := ∃ (p : Addr) (n : V) (dk dp dh : Addr), v = .ref p ∧ H p = some (.tup [n, .ref dk, .ref dp, .ref dh]) ∧ dk ≠ dp ∧ dk ≠ dh ∧ dp ≠ dh
def spWorld : Sp := fun vs H Q _ => ∃ (c : Int) (a b d : Addr) (xs ys zs : List Str), vs = [.int c, .ref a, .ref b, .ref d] ∧ 0 ≤ c ∧ H a = some (.lst (xs.map V.str)) ∧ H b = some (.lst (ys.map V.str)) ∧ H d = some (.lst (zs.map V.str)) ∧ xs.length ≤ 8 ∧ ys.length ≤ 8 ∧ zs.length ≤ 8 ∧
  ∀ v H' W, Same H H' → IsW H' W v → WdOk W → (W.kinds.length ≤ 8 ∧ W.pairs.length ≤ 8 ∧ W.homes.length ≤ 8 ∧ ∀ x qs, (x, qs) ∈ W.pairs → qs.length ≤ 400) → Apart H' v → Q v H'
section
variable {P : Program} {w : World} {K : PySem.W.Frag} {mg : Str → Option Value} {base : Heap} {f g e d a1 a2 a3 a4 : Addr} {fd gd' ed dd d1 d2 d3 d4 : FuncData}
theorem scWorld : FnScope ["_law_cell_here", "_law_names_here", "_law_ties", "_law_things", "_law_many", "_law_kinds", "_law_pairs", "_law_homes", "_law_name", "_law_p", "_law_tie", "_law_made_here", "_law_thing"] ["_law_cell_here", "_law_names_here", "_law_ties", "_law_things"] (defScope sWorld) := ⟨rfl, rfl, rfl, by decide +kernel, rfl, by decide +kernel, by decide +kernel⟩
theorem ok_world (F : Fun K "_law_world" "_law_world" sWorld f fd) (mr : mg "range" = none)
    (Gx : FnOk P w K mg base CX0 1 a1 d1 ["_law_cell_here", "_law_k"] spNext) (bGx : Binds K d1 ["_law_cell_here", "_law_k"] []) (kGx : PySem.W.keepIn K (.ref a1) = true) (mGx : mg "_law_next" = some (.ref a1)) :
    FnOk P w K mg base CX0 2 f fd ["_law_cell_here", "_law_names_here", "_law_ties", "_law_things"] spWorld := by
  refine F.ok scWorld (fun vs H Q E h => ?_) (fun cdv A outer s H vs Q E hr h => ?_)
  · obtain ⟨c, a, b, d, xs, ys, zs, rfl, _⟩ := h; rfl
  obtain ⟨c, a, b, d, xs, ys, zs, rfl, hc, ha, hb, hd, lx, ly, lz, q⟩ := h
  have hrx := hr
  have hu : (A.deeper (PyProof.Rows.envOfC "_law_world" (defScope sWorld) s.heap.objs.size f cdv)).units + 1 < cLine := by have := hr.un; omega
  refine ⟨_, @pss_cons _ _ _ _ _ (by exact ps_set (i := 4) scWorld.nd rfl (Or.inl rfl) (pe_op op_add pe_int (pe_op op_mod (pv 0) pe_int)))
    (@pss_mid _ _ _ _ _ (by exact ps_ifN (pt_cmpR op_eq (pe_op op_mod (pe_op op_fdiv (pv 0) pe_int) pe_int) pe_int (nomark _)) (@pss_one _ _ _ (by exact ps_set (i := 4) scWorld.nd rfl (Or.inl rfl) (pe_op op_add (pv 4) pe_int))) pss_nil)
    (@pss_mid _ _ _ _ _ (by exact ps_ifN (pt_cmpR op_eq (pe_op op_mod (pe_op op_fdiv (pv 0) pe_int) pe_int) pe_int (nomark _)) (@pss_one _ _ _ (by exact ps_set (i := 4) scWorld.nd rfl (Or.inl rfl) pe_int)) pss_nil)
    (@pss_cons _ _ _ _ _ (by exact ps_set (i := 5) scWorld.nd rfl (Or.inl rfl) pe_dnewK)
    (@pss_cons _ _ _ _ _ (by exact ps_set (i := 6) scWorld.nd rfl (Or.inl rfl) pe_dnewK)
    (@pss_cons _ _ _ _ _ (by exact ps_set (i := 7) scWorld.nd rfl (Or.inl rfl) pe_dnewK)
    (@pss_mid _ _ _ _ _ (by exact ps_for PassesOwn.never rfl (pi_list (pv 1)) (pg_name (i := 8) scWorld.nd rfl (Or.inl rfl)) (@pss_cons _ _ _ _ _ (by exact ps_set (i := 0) scWorld.nd rfl (Or.inr rfl) (pe_call Gx hrx rfl mGx kGx bGx .nil pass0 (pa_cons (pv 0) (pa_cons pe_int pa_nil)))) (@pss_one _ _ _ (by exact ps_if (pt_cmpR op_gt (pe_op op_mod (pv 0) pe_int) pe_int (nomark _)) (@pss_one _ _ _ (by exact ps_dput hu (pv 5) (pv 8) (pe_comp ["_law_p"] ["_law_cell_here"] [0] rfl (pi_range1 rfl mr (pa_cons (pv 4) pa_nil)) (fun _ _ _ => pg_name (i := 0) ndpc rfl (Or.inl rfl)) (fun _ _ _ => pts_one (pt_cmpR op_eq (pe_op op_and (pe_op op_shr (pe_op op_fdiv (pv 1) pe_int) (pv 0)) pe_int) pe_int (nomark _))) (fun _ _ _ => (pv 0))) rfl)) pss_nil))))
    (@pss_mid _ _ _ _ _ (by exact ps_for PassesOwn.never rfl (pi_list (pv 2)) (pg_name (i := 10) scWorld.nd rfl (Or.inl rfl)) (@pss_cons _ _ _ _ _ (by exact ps_set (i := 0) scWorld.nd rfl (Or.inr rfl) (pe_call Gx hrx rfl mGx kGx bGx .nil pass0 (pa_cons (pv 0) (pa_cons pe_int pa_nil)))) (@pss_cons _ _ _ _ _ (by exact ps_set (i := 11) scWorld.nd rfl (Or.inl rfl) (pe_lst pa_nil)) (@pss_one _ _ _ (by exact ps_if (pt_cmpR op_gt (pe_op op_mod (pv 0) pe_int) pe_int (nomark _)) (@pss_mid _ _ _ _ _ (by exact ps_for PassesOwn.never rfl (pi_range1 rfl mr (pa_cons (pv 4) pa_nil)) (pg_name (i := 9) scWorld.nd rfl (Or.inr rfl)) (@pss_cons _ _ _ _ _ (by exact ps_set (i := 0) scWorld.nd rfl (Or.inr rfl) (pe_call Gx hrx rfl mGx kGx bGx .nil pass0 (pa_cons (pv 0) (pa_cons pe_int pa_nil)))) (@pss_one _ _ _ (by exact ps_set (i := 11) scWorld.nd rfl (Or.inl rfl) (pe_op op_cat (pe_comp ["_law_q"] ["_law_p", "_law_cell_here"] [9, 0] rfl (pi_range1 rfl mr (pa_cons (pv 4) pa_nil)) (fun _ _ _ => pg_name (i := 0) ndqpc rfl (Or.inl rfl)) (fun _ _ _ => pts_one (pt_cmpR op_eq (pe_op op_and (pe_op op_shr (pv 2) (pv 0)) pe_int) pe_int (nomark _))) (fun _ _ _ => (pe_tup (pa_cons (pv 1) (pa_cons (pv 0) pa_nil))))) (pv 11)))))) (@pss_one _ _ _ (by exact ps_dput hu (pv 6) (pv 10) (pv 11) rfl))) pss_nil)))))
    (@pss_cons _ _ _ _ _ (by exact ps_for PassesOwn.never rfl (pi_list (pv 3)) (pg_name (i := 12) scWorld.nd rfl (Or.inl rfl)) (@pss_cons _ _ _ _ _ (by exact ps_set (i := 0) scWorld.nd rfl (Or.inr rfl) (pe_call Gx hrx rfl mGx kGx bGx .nil pass0 (pa_cons (pv 0) (pa_cons pe_int pa_nil)))) (@pss_one _ _ _ (by exact ps_if (PW.pt (pw_and (pt_cmpR op_gt (pv 4) pe_int (nomark _)) (pw_and1 (pt_cmpR op_gt (pe_op op_mod (pv 0) pe_int) pe_int (nomark _))))) (@pss_one _ _ _ (by exact ps_dput hu (pv 7) (pv 12) (pe_op op_mod (pe_op op_fdiv (pv 0) pe_int) (pv 4)) rfl)) pss_nil))))
    (@pss_one _ _ _ (by exact ps_ret (pe_tup (pa_cons (pv 4) (pa_cons (pv 5) (pa_cons (pv 6) (pa_cons (pv 7) pa_nil))))))))))))))), ?_⟩
  have m0 := Int.emod_nonneg c (show (5 : Int) ≠ 0 by decide)
  have m1 := Int.emod_lt_of_pos c (show (0 : Int) < 5 by decide)
  obtain ⟨k0, hk0, ek0⟩ : ∃ k0 : Nat, k0 ≤ 5 ∧ 1 + c % 5 = (k0 : Int) := ⟨(1 + c % 5).toNat, by omega, by omega⟩
  refine ⟨_, rfl, _, _, rfl, rfl, (show (0 : Int) < 5 by decide), _, _, rfl, rfl, ?_⟩
  refine ⟨fun σ H' => H' = H ∧ ∃ m : Nat, m ≤ 10 ∧ σ = [some (.int c), some (.ref a), some (.ref b), some (.ref d), some (.int (m : Int)), none, none, none, none, none, none, none, none], ?_, ?_⟩
  · refine ⟨fun H2 => H2 = H, ⟨_, rfl, _, _, rfl, rfl, ⟨by decide, by decide⟩, _, _, rfl, rfl, (show (0 : Int) < 8 by decide), rfl, _, rfl, rfl⟩, ?_⟩
    rintro H2 rfl
    refine ⟨⟨_, rfl, _, _, rfl, rfl, rfl, k0 + 5, by omega, ?_⟩, rfl, k0, by omega, ?_⟩
    · rw [show ((k0 + 5 : Nat) : Int) = 1 + c % 5 + 5 by omega]; rfl
    · rw [← ek0]; rfl
  rintro σ H' ⟨rfl, m, hm, rfl⟩
  refine ⟨fun σ H2 => H2 = H' ∧ ∃ m : Nat, m ≤ 10 ∧ σ = [some (.int c), some (.ref a), some (.ref b), some (.ref d), some (.int (m : Int)), none, none, none, none, none, none, none, none], ?_, ?_⟩
  · refine ⟨fun H2 => H2 = H', ⟨_, rfl, _, _, rfl, rfl, ⟨by decide, by decide⟩, _, _, rfl, rfl, (show (0 : Int) < 8 by decide), rfl, _, rfl, rfl⟩, ?_⟩
    rintro H2 rfl
    exact ⟨⟨rfl, 0, by omega, rfl⟩, rfl, m, hm, rfl⟩
  rintro σ H2 ⟨rfl, m, hm, rfl⟩
  intro dk hk dp hp dh hh
  have s1 := same_new (H := H2) hk (.dK [])
  have s2 := same_new hp (.dK [])
  have s3 := same_new hh (.dK [])
  have kp : dk ≠ dp := ne_of_none upd_same hp
  have ph : dp ≠ dh := ne_of_none upd_same hh
  have kh : dk ≠ dh := ne_of_none (s2 _ _ upd_same) hh
  have B0 : Wb H2 (upd (upd (upd H2 dk (.dK [])) dp (.dK [])) dh (.dK [])) dk dp dh ⟨m, [], [], []⟩ 0 0 := ⟨s1.trans (s2.trans s3), hk, none_of_same s1 hp, none_of_same (s1.trans s2) hh, kp, kh, ph, ⟨[], s3 _ _ (s2 _ _ upd_same), rfl⟩, ⟨[], s3 _ _ upd_same, rfl⟩, ⟨[], upd_same, rfl⟩, ⟨List.nodup_nil, List.nodup_nil, List.nodup_nil⟩, hm, Nat.le_refl _, Nat.le_refl _, fun x ms h => (nomatch h), fun x qs h => (nomatch h), fun x n h => (nomatch h)⟩
  generalize upd (upd (upd H2 dk (.dK [])) dp (.dK [])) dh (.dK []) = H3 at B0 ⊢
  refine ⟨fun σ H' => ∃ (c : Int) (o8 : Option V) (W : Wd), 0 ≤ c ∧ (W.many = m ∧ W.homes = []) ∧ Wb H2 H' dk dp dh W 8 0 ∧ σ = [some (.int c), some (.ref a), some (.ref b), some (.ref d), some (.int (m : Int)), some (.ref dk), some (.ref dp), some (.ref dh), o8, none, none, none, none], ?_, ?_⟩
  · refine ⟨_, rfl, a, rfl, ⟨_, SqL.of (B0.same _ _ ha)⟩, for_list (xs := xs.map V.str) (fun i σ H' => ∃ (c : Int) (o8 : Option V) (W : Wd), 0 ≤ c ∧ (W.many = m ∧ W.homes = []) ∧ Wb H2 H' dk dp dh W i 0 ∧ σ = [some (.int c), some (.ref a), some (.ref b), some (.ref d), some (.int (m : Int)), some (.ref dk), some (.ref dp), some (.ref dh), o8, none, none, none, none]) ⟨c, none, _, hc, ⟨rfl, rfl⟩, B0, rfl⟩ (fun i σ H' _ h => by obtain ⟨_, _, _, _, _, B, _⟩ := h; exact SqL.of (B.same _ _ ha)) ?_ ?_⟩
    · rintro i x σ H1 hx ⟨c1, o8, W, hc1, hm1, B, rfl⟩
      rw [List.getElem?_map] at hx
      obtain ⟨x, hx', rfl⟩ := Option.map_eq_some_iff.mp hx
      refine ⟨_, rfl, c1, 0, rfl, by decide, by decide, fun r hr0 => ?_⟩
      refine ⟨_, rfl, _, _, rfl, rfl, (show (0 : Int) < 5 by decide), _, _, rfl, rfl, _, rfl, ite2 (fun h => ?_) (fun h => ?_)⟩
      · refine ⟨_, rfl, _, rfl, by omega, by omega, fun D hD => ?_⟩
        refine cmp_by m (fun k σ H3 => (∃ o, σ = [o, some (.int r)]) ∧ Same H1 H3 ∧ ∃ ms, Flt k ms ∧ H3 D = some (.lst (natV ms))) ⟨⟨_, rfl⟩, same_new hD _, [], Flt.zero, upd_same⟩ ?_ ?_
        · rintro σ H4 ⟨_, s4, ms, fm, e4⟩
          refine ⟨by show (m : Int).toNat ≤ m; omega, ?_⟩
          have B4 := B.new s4
          obtain ⟨l, hl, gl⟩ := B4.ek
          have ll : l.length ≤ 8 := by
            have := B4.lk
            have hi : i < xs.length := by
              have := (List.getElem?_eq_some_iff.mp hx').1
              exact this
            rw [gl.len, Wd.kindsK, List.length_map]
            omega
          refine ⟨_, rfl, _, rfl, dk, _, rfl, DPut.k (k := Sum.inr x) hl (small1000 (by omega)), r, _, { W with kinds := putS W.kinds x ms }, hr0, hm1, B4.putKind hl ⟨D, _, rfl, e4, ints_das ms⟩ (by show (List.range W.many).filter _ = _; rw [hm1.1]; exact fm.1), rfl⟩
        · rintro k σ H4 hk' ⟨⟨o, rfl⟩, s4, ms, fm, e4⟩
          refine ⟨by show k < (m : Int).toNat; omega, ?_⟩
          rintro y H5 ⟨rfl, rfl⟩
          refine ⟨_, rfl, _, _, rfl, rfl, ⟨by decide, by decide⟩, _, rfl, _, _, rfl, rfl, (by show (0 : Int) ≤ 0 + (k : Int); omega), _, _, rfl, rfl, rfl, _, rfl, ite2 (fun h5 => ?_) (fun h5 => ?_)⟩
          · refine ⟨_, rfl, _, e4, ?_, ⟨_, rfl⟩, same_upd s4 hD, ms ++ [k], fm.yes, ?_⟩
            · rw [List.length_map]; have := fm.len; exact small1000 (by omega)
            · rw [upd_same, natV, natV, List.map_append, Int.zero_add]; rfl
          · exact ⟨⟨_, rfl⟩, s4, ms, fm.no, e4⟩
      · exact ⟨r, _, W, hr0, hm1, B.more (Nat.le_succ _) (Nat.le_refl _), rfl⟩
    · rintro σ H' ⟨c1, o8, W, h1, h2, B, rfl⟩
      exact ⟨c1, o8, W, h1, h2, B.more (by rw [List.length_map]; exact lx) (Nat.le_refl _), rfl⟩
  rintro σ H4 ⟨c1, o8, W, hc1, hm1, B, rfl⟩
  refine ⟨fun σ H' => ∃ (c : Int) (o8 o9 o10 o11 : Option V) (W : Wd), 0 ≤ c ∧ (W.many = m ∧ W.homes = []) ∧ Wb H2 H' dk dp dh W 8 8 ∧ σ = [some (.int c), some (.ref a), some (.ref b), some (.ref d), some (.int (m : Int)), some (.ref dk), some (.ref dp), some (.ref dh), o8, o9, o10, o11, none], ?_, ?_⟩
  · refine ⟨_, rfl, b, rfl, ⟨_, SqL.of (B.same _ _ hb)⟩, for_list (xs := ys.map V.str) (fun i σ H' => ∃ (c : Int) (o8 o9 o10 o11 : Option V) (W : Wd), 0 ≤ c ∧ (W.many = m ∧ W.homes = []) ∧ Wb H2 H' dk dp dh W 8 i ∧ σ = [some (.int c), some (.ref a), some (.ref b), some (.ref d), some (.int (m : Int)), some (.ref dk), some (.ref dp), some (.ref dh), o8, o9, o10, o11, none]) ⟨c1, o8, none, none, none, W, hc1, hm1, B, rfl⟩ (fun i σ H' _ h => by obtain ⟨_, _, _, _, _, _, _, _, B, _⟩ := h; exact SqL.of (B.same _ _ hb)) ?_ ?_⟩
    · rintro i x σ H1 hx ⟨c2, o8, o9, o10, o11, W2, h1, h2, B2, rfl⟩
      rw [List.getElem?_map] at hx
      obtain ⟨x, hx', rfl⟩ := Option.map_eq_some_iff.mp hx
      refine ⟨_, rfl, c2, 1, rfl, by decide, by decide, fun r hr0 => ?_⟩
      refine ⟨Nat.zero_le _, fun ln hln => ?_⟩
      have B3 := B2.new (same_new hln (.lst []))
      have eln : (upd H1 ln (.lst [])) ln = some (.lst []) := upd_same
      generalize upd H1 ln (.lst []) = H5 at B3 eln ⊢
      refine ⟨_, rfl, _, _, rfl, rfl, (show (0 : Int) < 7 by decide), _, _, rfl, rfl, _, rfl, ite2 (fun h => ?_) (fun h => ?_)⟩
      · have hi : i < ys.length := (List.getElem?_eq_some_iff.mp hx').1
        refine ⟨fun σ H' => ∃ (c : Int) (ln : Addr) (qs : List (Nat × Nat)) (o9 : Option V), 0 ≤ c ∧ Wb H2 H' dk dp dh W2 8 i ∧ Da H' (pairsD qs) (.ref ln) ∧ PairsW m qs ∧ σ = [some (.int c), some (.ref a), some (.ref b), some (.ref d), some (.int (m : Int)), some (.ref dk), some (.ref dp), some (.ref dh), o8, o9, some (.str x), some (.ref ln), none], ?_, ?_⟩
        · refine ⟨_, rfl, _, rfl, by omega, by omega, for_range (fun k σ H' => ∃ (c : Int) (ln : Addr) (qs : List (Nat × Nat)) (o9 : Option V), 0 ≤ c ∧ Wb H2 H' dk dp dh W2 8 i ∧ Da H' (pairsD qs) (.ref ln) ∧ (qs.length ≤ 10 * k ∧ ∀ q ∈ qs, q.1 < m ∧ q.2 < m) ∧ σ = [some (.int c), some (.ref a), some (.ref b), some (.ref d), some (.int (m : Int)), some (.ref dk), some (.ref dp), some (.ref dh), o8, o9, some (.str x), some (.ref ln), none]) ⟨r, ln, [], o9, hr0, B3, ⟨ln, [], rfl, eln, rfl⟩, ⟨Nat.le_refl _, fun q hq => (nomatch hq)⟩, rfl⟩ ?_ ?_⟩
          · rintro k σ H6 hk' ⟨c3, l3, qs, o9', h3, B5, D5, ⟨len5, bd5⟩, rfl⟩
            have hkm : k < m := by have : k < (m : Int).toNat := hk'; omega
            refine ⟨_, rfl, c3, 2, rfl, by decide, by decide, fun r2 hr2 => ?_⟩
            obtain ⟨l3', xs3, e33, e3', d3⟩ := D5
            cases e33
            refine ⟨_, rfl, _, rfl, by omega, by omega, fun D hD => ?_⟩
            refine cmp_by m (fun j σ H7 => (∃ o, σ = [o, some (.int (0 + (k : Int))), some (.int r2)]) ∧ Same H6 H7 ∧ ∃ (qs2 : List (Nat × Nat)) (xs2 : List V), (qs2.length ≤ j ∧ ∀ q ∈ qs2, q.1 < m ∧ q.2 < m) ∧ H7 D = some (.lst xs2) ∧ Das H7 (qs2.map pairD) xs2) ⟨⟨_, rfl⟩, same_new hD _, [], [], ⟨Nat.le_refl _, fun q hq => (nomatch hq)⟩, upd_same, rfl⟩ ?_ ?_
            · rintro σ H7 ⟨_, s7, qs2, xs2, ⟨l2, b2⟩, e7, d7⟩
              have a1 := d7.len
              have a2 := d3.len
              rw [List.length_map] at a1 a2
              refine ⟨by show (m : Int).toNat ≤ m; omega, _, rfl, D, l3, _, _, rfl, rfl, e7, s7 _ _ e3', small2 (by omega), fun pa hpa => ?_⟩
              have sp := same_new hpa (.lst (xs2 ++ xs3))
              refine ⟨r2, pa, qs2 ++ qs, _, hr2, B5.new (s7.trans sp), ⟨pa, _, rfl, upd_same, ?_⟩, ?_, rfl⟩
              · rw [List.map_append]
                exact das_app (d7.mono sp) (d3.mono (s7.trans sp))
              · refine ⟨by rw [List.length_append]; omega, fun q hq => ?_⟩
                rcases List.mem_append.mp hq with z | z
                · exact b2 q z
                · exact bd5 q z
            · rintro j σ H7 hj ⟨⟨o, rfl⟩, s7, qs2, xs2, ⟨l2, b2⟩, e7, d7⟩
              refine ⟨by show j < (m : Int).toNat; omega, ?_⟩
              rintro y H8 ⟨rfl, rfl⟩
              refine ⟨_, rfl, _, rfl, _, _, rfl, rfl, (by show (0 : Int) ≤ 0 + (j : Int); omega), _, _, rfl, rfl, rfl, _, rfl, ite2 (fun h5 => ?_) (fun h5 => ?_)⟩
              · refine ⟨_, rfl, _, rfl, small2 (by show 2 ≤ 1000; decide), fun t ht => ?_⟩
                have st := same_new ht (.tup [.int (0 + (k : Int)), .int (0 + (j : Int))])
                have et : (upd H8 t (.tup [V.int (0 + (k : Int)), V.int (0 + (j : Int))])) t = some (.tup [.int (k : Int), .int (j : Int)]) := by rw [upd_same, Int.zero_add, Int.zero_add]
                have e8 := st _ _ e7
                have d8 := d7.mono st
                have s8 := s7.trans st
                generalize upd H8 t (.tup [V.int (0 + (k : Int)), V.int (0 + (j : Int))]) = H9 at st et e8 d8 s8 ⊢
                have tp := tups_lst (o := .lst (xs2 ++ [.ref t])) e8
                refine ⟨_, e8, ?_, ⟨_, rfl⟩, same_upd s8 hD, qs2 ++ [(k, j)], xs2 ++ [.ref t], ?_, upd_same, ?_⟩
                · have a1 := d7.len
                  rw [List.length_map] at a1
                  exact small1000 (by omega)
                · refine ⟨by rw [List.length_append]; exact Nat.add_le_add_right l2 1, fun q hq => ?_⟩
                  rcases List.mem_append.mp hq with z | z
                  · exact b2 q z
                  · rw [List.mem_singleton.mp z]; exact ⟨hkm, hj⟩
                · rw [List.map_append]
                  refine das_app (das_same tp d8) ⟨_, _, rfl, ⟨t, _, rfl, tp _ _ et, ⟨_, _, rfl, rfl, _, _, rfl, rfl, rfl⟩⟩, rfl⟩
              · exact ⟨⟨_, rfl⟩, s7, qs2, xs2, ⟨Nat.le_succ_of_le l2, b2⟩, e7, d7⟩
          · rintro σ H' ⟨c3, l3, qs, o9', h3, B5, D5, ⟨len5, bd5⟩, rfl⟩
            have hlen : qs.length ≤ 400 := by omega
            exact ⟨c3, l3, qs, o9', h3, B5, D5, ⟨hlen, bd5⟩, rfl⟩
        · rintro σ H' ⟨c3, l3, qs, o9', h3, B5, D5, pok, rfl⟩
          obtain ⟨l, hl, gl⟩ := B5.ep
          have ll : l.length ≤ 8 := by
            have := B5.lp
            rw [gl.len, Wd.pairsK, List.length_map]; omega
          exact ⟨_, rfl, _, rfl, _, rfl, dp, _, rfl, DPut.k (k := Sum.inr x) hl (small1000 (by omega)), c3, _, _, _, _, { W2 with pairs := putS W2.pairs x qs }, h3, h2, B5.putPair hl D5 (by show PairsW W2.many qs; rw [h2.1]; exact pok), rfl⟩
      · exact ⟨r, _, _, _, _, W2, hr0, h2, B3.more (Nat.le_refl _) (Nat.le_succ _), rfl⟩
    · rintro σ H' ⟨c1, o8, o9, o10, o11, W, h1, h2, B, rfl⟩
      exact ⟨c1, o8, o9, o10, o11, W, h1, h2, B.more (Nat.le_refl _) (by rw [List.length_map]; exact ly), rfl⟩
  rintro σ H5 ⟨c2, o8, o9, o10, o11, W, hc2, hm2, B, rfl⟩
  refine ⟨_, rfl, d, rfl, ⟨_, SqL.of (B.same _ _ hd)⟩, for_list (xs := zs.map V.str) (fun i σ H' => ∃ (c : Int) (o12 : Option V) (W : Wd), 0 ≤ c ∧ W.many = m ∧ W.homes.length ≤ i ∧ Wb H2 H' dk dp dh W 8 8 ∧ σ = [some (.int c), some (.ref a), some (.ref b), some (.ref d), some (.int (m : Int)), some (.ref dk), some (.ref dp), some (.ref dh), o8, o9, o10, o11, o12]) ?_ (fun i σ H' _ h => by obtain ⟨_, _, _, _, _, _, B, _⟩ := h; exact SqL.of (B.same _ _ hd)) ?_ ?_⟩
  · exact ⟨c2, none, W, hc2, hm2.1, by rw [hm2.2]; exact Nat.le_refl _, B, rfl⟩
  · rintro i x σ H1 hx ⟨c3, o12, W, h1, h2, h3, B, rfl⟩
    have hi : i < zs.length := by
      have := (List.getElem?_eq_some_iff.mp hx).1
      rwa [List.length_map] at this
    rw [List.getElem?_map] at hx
    obtain ⟨x, hx', rfl⟩ := Option.map_eq_some_iff.mp hx
    refine ⟨_, rfl, c3, 0, rfl, by decide, by decide, fun r hr0 => ?_⟩
    refine ⟨_, rfl, _, _, rfl, rfl, _, rfl, ite2 (fun z1 => ?_) (fun z1 => ?_)⟩
    · have z1' : (0 : Int) < (m : Int) := of_decide_eq_true z1
      refine ⟨_, rfl, _, _, rfl, rfl, (show (0 : Int) < 4 by decide), _, _, rfl, rfl, _, rfl, ite2 (fun z2 => ?_) (fun z2 => ?_)⟩
      · obtain ⟨l, hl, gl⟩ := B.eh
        have ll : l.length ≤ 8 := by
          rw [gl.len, Wd.homesK, List.length_map]; omega
        obtain ⟨n, hn⟩ : ∃ n : Nat, r / 4 % (m : Int) = (n : Int) := ⟨(r / 4 % (m : Int)).toNat, by have := Int.emod_nonneg (r / 4) (show (m : Int) ≠ 0 by omega); omega⟩
        refine ⟨_, rfl, _, _, rfl, rfl, ⟨by decide, by decide⟩, _, rfl, _, _, rfl, rfl, z1', _, rfl, _, rfl, dh, _, rfl, DPut.k (k := Sum.inr x) hl (small1000 (by omega)), r, _, { W with homes := putS W.homes x n }, hr0, h2, Nat.le_trans putS_len (Nat.add_le_add_right h3 1), ?_, rfl⟩
        show Wb H2 (upd H1 dh (.dK (putK l (Sum.inr x) (V.int (r / 4 % (m : Int)))))) dk dp dh { W with homes := putS W.homes x n } 8 8
        rw [hn]
        have hnm : n < W.many := by
          have := Int.emod_lt_of_pos (r / 4) z1'
          rw [h2]
          omega
        exact B.putHome hl hnm
      · exact ⟨r, _, W, hr0, h2, Nat.le_succ_of_le h3, B, rfl⟩
    · exact iteF ⟨r, _, W, hr0, h2, Nat.le_succ_of_le h3, B, rfl⟩
  · rintro σ H' ⟨c3, o12, W, h1, h2, h3, B, rfl⟩
    obtain ⟨l1, e1, g1⟩ := B.ek
    obtain ⟨l2, e2, g2⟩ := B.ep
    obtain ⟨l3, e3, g3⟩ := B.eh
    refine ⟨_, rfl, _, rfl, _, rfl, _, rfl, small2 (by show 4 ≤ 1000; decide), fun p hp => ?_⟩
    have sp := same_new hp (.tup [.int (m : Int), .ref dk, .ref dp, .ref dh])
    exact q _ _ W (B.same.trans sp) ⟨p, dk, dp, dh, l1, l2, l3, rfl, by rw [h2]; exact upd_same, sp _ _ e1, g1.mono sp, sp _ _ e2, g2.mono sp, sp _ _ e3, g3.mono sp⟩ (B.done (by decide) (by decide)) ⟨B.lk, B.lp, Nat.le_trans h3 (by rw [List.length_map]; exact lz), fun x qs h => (B.pr x qs h).1⟩ ⟨p, _, dk, dp, dh, rfl, upd_same, B.kp, B.kh, B.ph⟩
end
end K07
set_option Elab.async false
set_option linter.all false
set_option maxRecDepth 100000
set_option maxHeartbeats 4000000
namespace K07
open PySem L2
def look {α : Type} : List (Str × α) → Str → Option α
  | [], _ => none
  | (k, a) :: r, x => if k = x then some a else look r x
theorem look_mem {α : Type} : ∀ {l : List (Str × α)} {x : Str} {a : α}, (l.map (·.1)).Nodup → (x, a) ∈ l → look l x = some a
  | [], _, _, _, h => nomatch h
  | (k, b) :: r, x, a, nd, h => by
    rw [List.map_cons, List.nodup_cons] at nd
    rcases List.mem_cons.mp h with h | h
    · injection h with h1 h2
      subst h1 h2
      unfold look
      rw [if_pos rfl]
    · have hne : k ≠ x := fun z => nd.1 (by rw [z]; exact List.mem_map.mpr ⟨_, h, rfl⟩)
      unfold look
      rw [if_neg hne]
      exact look_mem nd.2 h
theorem look_none {α : Type} : ∀ {l : List (Str × α)} {x : Str}, x ∉ l.map (·.1) → look l x = none
  | [], _, _ => rfl
  | (k, b) :: r, x, h => by
    rw [List.map_cons, List.mem_cons, not_or] at h
    unfold look
    rw [if_neg (fun z => h.1 z.symm)]
    exact look_none h.2
theorem mem_look {α : Type} : ∀ {l : List (Str × α)} {x : Str} {a : α}, look l x = some a → (x, a) ∈ l
  | [], _, _, h => nomatch h
  | (k, b) :: r, x, a, h => by
    unfold look at h
    split at h
    · rename_i e
      injection h with h
      rw [e, h]; exact List.mem_cons_self
    · exact List.mem_cons_of_mem _ (mem_look h)
abbrev pairsAt (W : Wd) (r : Str) : List (Nat × Nat) := (look W.pairs r).getD []
theorem pairs_get {H : Hp} {W : Wd} {lp : List (Key × V)} {x : Str} (g : Dak H W.pairsK lp) (nd : W.nd) : (∃ (qs : List (Nat × Nat)) (a : Addr) (xs : List V), look W.pairs x = some qs ∧ valV lp (.inr x) = some (.ref a) ∧ H a = some (.lst xs) ∧ Das H (qs.map pairD) xs) ∨ (look W.pairs x = none ∧ valV lp (.inr x) = none) := by
  by_cases h : x ∈ W.pairs.map (·.1)
  · obtain ⟨⟨k, qs⟩, hm, rfl⟩ := List.mem_map.mp h
    obtain ⟨v, h1, h2⟩ := g.val (k := k) (d := pairsD qs) (by rw [Wd.pairsK, keys_map]; exact nd.p) (List.mem_map.mpr ⟨(k, qs), hm, rfl⟩)
    have h2' : ∃ p xs, v = .ref p ∧ H p = some (.lst xs) ∧ Das H (qs.map pairD) xs := h2
    obtain ⟨a, xs, rfl, h3, h4⟩ := h2'
    exact .inl ⟨qs, a, xs, look_mem nd.p hm, h1, h3, h4⟩
  · exact .inr ⟨look_none h, g.none (by rw [Wd.pairsK, keys_map]; exact h)⟩
theorem das_at {H : Hp} : ∀ {qs : List (Nat × Nat)} {xs : List V} {i : Nat} {x : V}, Das H (qs.map pairD) xs → xs[i]? = some x → ∃ (q : Nat × Nat) (t : Addr), qs[i]? = some q ∧ x = .ref t ∧ H t = some (.tup [.int (q.1 : Int), .int (q.2 : Int)])
  | [], _, _, _, h, e => by
    have : _ = [] := h
    subst this
    simp at e
  | q :: qs, _, i, x, ⟨y, r, e0, h, h2⟩, e => by
    subst e0
    cases i with
    | zero =>
      simp only [List.getElem?_cons_zero, Option.some.injEq] at e
      subst e
      obtain ⟨p, ys, e1, h3, y1, s1, e2, h4, y2, s2, e3, h5, h6⟩ := (show ∃ p xs, y = .ref p ∧ H p = some (.tup xs) ∧ Das H [.int (q.1 : Int), .int (q.2 : Int)] xs from h)
      have e4 : y1 = .int (q.1 : Int) := h4
      have e5 : y2 = .int (q.2 : Int) := h5
      have e6 : s2 = [] := h6
      subst e3 e2 e4 e5 e6
      exact ⟨q, p, rfl, e1, h3⟩
    | succ i =>
      obtain ⟨q', t, a1, a2, a3⟩ := das_at h2 (by simpa using e)
      exact ⟨q', t, by simpa using a1, a2, a3⟩
def spTie : Sp := fun vs H Q _ => ∃ (v : V) (W : Wd) (r : Str), vs = [v, .str r] ∧ IsW H W v ∧ W.nd ∧ ∀ (p : Addr) (H' : Hp) (xs : List V), Same H H' → H' p = some (.lst xs) → Das H' ((pairsAt W r).map pairD) xs → Q (.ref p) H'
theorem same_new' {H H' : Hp} {p : Addr} (s : Same H H') (hp : H' p = none) (o : HO) : Same H (upd H' p o) := s.trans (same_new hp o)
/-- a saying of ties -/
inductive Sy where
  | wi (r s : Str)
  | mk (r s t : Str)
def IsSy (H : Hp) : Sy → V → Prop
  | .wi r s, v => ∃ t : Addr, v = .ref t ∧ H t = some (.tup [.str "within", .str r, .str s])
  | .mk r s u, v => ∃ t : Addr, v = .ref t ∧ H t = some (.tup [.str "makes", .str r, .str s, .str u])
theorem IsSy.mono {H H' : Hp} (s : Same H H') : ∀ {x : Sy} {v : V}, IsSy H x v → IsSy H' x v
  | .wi _ _, _, ⟨t, e, h⟩ => ⟨t, e, s _ _ h⟩
  | .mk _ _ _, _, ⟨t, e, h⟩ => ⟨t, e, s _ _ h⟩
/-- what two ties make, one behind the other -/
def Comp (A B : List (Nat × Nat)) (k : Nat × Nat) : Prop := ∃ p ∈ A, ∃ q ∈ B, p.2 = q.1 ∧ k = (p.1, q.2)
open Classical in
noncomputable def keptB (W : Wd) : Sy → Bool
  | .wi r s => decide (∀ k ∈ pairsAt W r, k ∈ pairsAt W s)
  | .mk r s t => decide (∀ k, Comp (pairsAt W r) (pairsAt W s) k → k ∈ pairsAt W t)
theorem pairsAt_ok {W : Wd} (ok : WdOk W) (r : Str) : PairsOk W.many (pairsAt W r) := by
  unfold pairsAt
  cases h : look W.pairs r with
  | none => exact ⟨Nat.zero_le _, fun q h => (nomatch h)⟩
  | some qs => exact ok.pr r qs (mem_look h)
theorem pairsAt_small {W : Wd} (ok : WdOk W) (r : Str) : ∀ q ∈ pairsAt W r, q.1 < 10 ∧ q.2 < 10 := fun q hq => by
  have := (pairsAt_ok ok r).2 q hq
  have := ok.many
  omega
def spWi : Sp := fun vs H Q _ => ∃ (v s : V) (W : Wd) (r u : Str), vs = [v, s] ∧ IsW H W v ∧ WdOk W ∧ IsSy H (.wi r u) s ∧ ∀ H', Same H H' → Q (.bl (keptB W (.wi r u))) H'
section
variable {P : Program} {w : World} {K : PySem.W.Frag} {mg : Str → Option Value} {base : Heap} {f g e d a1 a2 a3 a4 : Addr} {fd gd' ed dd d1 d2 d3 d4 : FuncData}
theorem scTie : FnScope ["world", "tie"] ["world", "tie"] (defScope sTie) := ⟨rfl, rfl, rfl, by decide +kernel, rfl, by decide +kernel, by decide +kernel⟩
theorem ok_tie (F : Fun K "tie_pairs" "tie_pairs" sTie f fd) : FnOk P w K mg base CX0 1 f fd ["world", "tie"] spTie := by
  refine F.ok scTie (fun vs H Q E h => ?_) (fun cdv A outer s H vs Q E hr h => ?_)
  · obtain ⟨v, W, r, rfl, _⟩ := h; rfl
  obtain ⟨v, W, r, rfl, hW, nd, q⟩ := h
  have hu : (A.deeper (PyProof.Rows.envOfC "tie_pairs" (defScope sTie) s.heap.objs.size f cdv)).units + 1 < cLine := by have := hr.un; omega
  refine ⟨_, @pss_one _ _ _ (by exact ps_ret (pe_dget2 hu (pe_ix ix_tup (pv 0) pe_int (fun _ _ => rfl)) (pv 1) (pe_lst pa_nil) ⟨rfl, rfl, rfl, rfl⟩)), ?_⟩
  obtain ⟨p, dk, dp, dh, lk, lp, lh, rfl, h0, h1, g1, h2, g2, h3, g3⟩ := hW
  refine ⟨_, rfl, p, _, 2, _, rfl, rfl, SqT.of h0, atI_nat (j := 2) rfl, dp, rfl, .inl ⟨lp, .inl h2⟩, _, rfl, Nat.zero_le _, fun l hl => ?_⟩
  have s1 := same_new hl (.lst [])
  refine ⟨_, DGet.k (k := Sum.inr r) (s1 _ _ h2), ?_⟩
  rcases pairs_get (x := r) g2 nd with ⟨qs, a, xs, hm, e, ha, hd⟩ | ⟨hn, e⟩
  · rw [e]
    exact q a _ xs s1 (s1 _ _ ha) (by unfold pairsAt; rw [hm]; exact hd.mono s1)
  · rw [e]
    exact q l _ [] s1 upd_same (by unfold pairsAt; rw [hn]; rfl)
theorem scWi : FnScope ["world", "saying"] ["world", "saying"] (defScope sWithin0) := ⟨rfl, rfl, rfl, by decide +kernel, rfl, by decide +kernel, by decide +kernel⟩
theorem ok_wi (F : Fun K "keeps_within" "keeps_within" sWithin0 f fd) (ml : mg "len" = none) (mset : mg "set" = none)
    (Gt : FnOk P w K mg base CX0 1 a1 d1 ["world", "tie"] spTie) (bGt : Binds K d1 ["world", "tie"] []) (kGt : PySem.W.keepIn K (.ref a1) = true) (mGt : mg "tie_pairs" = some (.ref a1)) :
    FnOk P w K mg base CX0 2 f fd ["world", "saying"] spWi := by
  refine F.ok scWi (fun vs H Q E h => ?_) (fun cdv A outer s H vs Q E hr h => ?_)
  · obtain ⟨v, s, W, r, u, rfl, _⟩ := h; rfl
  obtain ⟨v, sy, W, r, u, rfl, hW, ok, hS, q⟩ := h
  have hrt := hr
  refine ⟨_, @pss_one _ _ _ (by exact ps_ret (pe_cmpR op_eq (pe_callB call_lenP rfl ml PySem.boot_len (pa_cons (pe_op (op_subP hr.units) (pe_callTy (call_setP rfl hr.units) rfl mset PyProof.Rows.boot_set (pa_cons (pe_call Gt hrt rfl mGt kGt bGt .nil pass0 (pa_cons (pv 0) (pa_cons (pe_ix ix_tup (pv 1) pe_int (fun _ _ => rfl)) pa_nil))) pa_nil)) (pe_callTy (call_setP rfl hr.units) rfl mset PyProof.Rows.boot_set (pa_cons (pe_call Gt hrt rfl mGt kGt bGt .nil pass0 (pa_cons (pv 0) (pa_cons (pe_ix ix_tup (pv 1) pe_int (fun _ _ => rfl)) pa_nil))) pa_nil))) pa_nil)) pe_int (nomark _))), ?_⟩
  obtain ⟨t, rfl, ht⟩ := hS
  refine ⟨_, rfl, _, rfl, t, _, 1, _, rfl, rfl, SqT.of ht, atI_nat (j := 1) rfl, v, W, r, rfl, hW, ok.nd, fun p1 H1 xs1 s1 e1 d1 => ?_⟩
  have pl1 := das_pl d1
  refine ⟨p1, xs1, _, rfl, e1, pl1, pairsAt_small ok r, fun q1 ps1 hq1 m1 n1 i1 => ?_⟩
  have s2 := same_new' s1 hq1 (setPO P w q1 ps1)
  have sq1 := same_new hq1 (setPO P w q1 ps1)
  refine ⟨_, rfl, _, rfl, t, _, 2, _, rfl, rfl, SqT.of (s2 _ _ ht), atI_nat (j := 2) rfl, v, W, u, rfl, hW.mono s2, ok.nd, fun p2 H2 xs2 s3 e2 d2 => ?_⟩
  have pl2 := das_pl d2
  refine ⟨p2, xs2, _, rfl, e2, pl2, pairsAt_small ok u, fun q2 ps2 hq2 m2 n2 i2 => ?_⟩
  have eq1 := s3 _ _ (upd_same (H := H1) (a := q1) (o := setPO P w q1 ps1))
  have n12 : q1 ≠ q2 := ne_of_none eq1 hq2
  have sq2 := same_new hq2 (setPO P w q2 ps2)
  have l1 : ps1.length ≤ 100 := by
    have := few_pairs n1 fun k hk => pairsAt_small ok r k ((m1 k).mp hk)
    rwa [List.length_map] at this
  refine ⟨q1, q2, ps1, ps2, rfl, rfl, n12, sq2 _ _ eq1, upd_same, fun x hx => IsP.mono ((sq1.trans s3).trans sq2).tups (i1 x hx), fun x hx => IsP.mono sq2.tups (i2 x hx), l1, fun q3 n hq3 hn => ?_⟩
  refine ⟨q3, n, rfl, upd_same, rfl, ?_⟩
  have e3 : decide ((V.int (n : Int)) = .int 0) = keptB W (.wi r u) := by
    unfold keptB
    rw [Bool.eq_iff_iff, decide_eq_true_eq, decide_eq_true_eq]
    constructor
    · intro h k hk
      have h0 : n = 0 := by injection h with h; omega
      exact (m2 k).mp (hn.mp h0 k ((m1 k).mpr hk))
    · intro h
      have h0 : n = 0 := hn.mpr fun k hk => (m2 k).mpr (h k ((m1 k).mp hk))
      rw [h0]; rfl
  rw [e3]
  exact q _ (same_new' (s2.trans (s3.trans sq2)) hq3 _)
end
end K07
set_option Elab.async false
set_option linter.all false
set_option maxRecDepth 100000
set_option maxHeartbeats 4000000
namespace K07
open PySem L2
/-- where the pairs that start at k end -/
def ends (qs : List (Nat × Nat)) (k : Nat) : List Nat := (qs.filter fun q => decide (q.1 = k)).map (·.2)
theorem ends_snoc (qs : List (Nat × Nat)) (q : Nat × Nat) (k : Nat) : ends (qs ++ [q]) k = if q.1 = k then ends qs k ++ [q.2] else ends qs k := by
  unfold ends
  rw [List.filter_append]
  by_cases h : q.1 = k
  · rw [if_pos h]; simp [h]
  · rw [if_neg h]; simp [h]
theorem mem_ends {qs : List (Nat × Nat)} {k n : Nat} : n ∈ ends qs k ↔ (k, n) ∈ qs := by
  unfold ends
  rw [List.mem_map]
  constructor
  · rintro ⟨q, h1, rfl⟩
    obtain ⟨h2, h3⟩ := List.mem_filter.mp h1
    have : q.1 = k := of_decide_eq_true h3
    rw [← this]
    exact h2
  · intro h
    exact ⟨(k, n), List.mem_filter.mpr ⟨h, decide_eq_true rfl⟩, rfl⟩
/-- the dict of the ends -/
structure Ends (H0 H : Hp) (d : Addr) (qs : List (Nat × Nat)) (l : List (Key × V)) : Prop where
  same : Same H0 H
  fd : H0 d = none
  dict : H d = some (.dK l)
  len : l.length ≤ qs.length
  at' : ∀ k : Nat, (∃ a : Addr, valV l (.inl (k : Int)) = some (.ref a) ∧ H0 a = none ∧ a ≠ d ∧ H a = some (.lst (natV (ends qs k)))) ∨ (valV l (.inl (k : Int)) = none ∧ ends qs k = [])
  inj : ∀ (k k' : Nat) (a : Addr), valV l (.inl (k : Int)) = some (.ref a) → valV l (.inl (k' : Int)) = some (.ref a) → k = k'
def spEnds : Sp := fun vs H Q _ => ∃ (a : Addr) (xs : List V) (qs : List (Nat × Nat)), vs = [.ref a] ∧ H a = some (.lst xs) ∧ PL H xs qs ∧ qs.length ≤ 1000 ∧ ∀ (d : Addr) (H' : Hp) (l : List (Key × V)), Ends H H' d qs l → Q (.ref d) H'
theorem natV_snoc (ms : List Nat) (n : Nat) : natV ms ++ [V.int (n : Int)] = natV (ms ++ [n]) := by simp [natV]
theorem Ends.more {H0 H : Hp} {d a lz : Addr} {qs : List (Nat × Nat)} {l : List (Key × V)} {q : Nat × Nat} (E : Ends H0 H d qs l) (hlz : H lz = none) (ev : valV l (.inl (q.1 : Int)) = some (.ref a)) (fa : H0 a = none) (na : a ≠ d) (ea : H a = some (.lst (natV (ends qs q.1)))) :
    Ends H0 (upd (upd H lz (.lst [])) a (.lst (natV (ends qs q.1) ++ [.int (q.2 : Int)]))) d (qs ++ [q]) l := by
  have sz := same_new hlz (.lst [])
  refine ⟨same_upd (E.same.trans sz) fa, E.fd, by rw [upd_ne (Ne.symm na)]; exact sz _ _ E.dict, by rw [List.length_append]; exact Nat.le_succ_of_le E.len, fun k => ?_, E.inj⟩
  rw [ends_snoc]
  rcases E.at' k with ⟨ak, e1, e2, e3, e4⟩ | ⟨e1, e2⟩
  · refine .inl ⟨ak, e1, e2, e3, ?_⟩
    by_cases hk : q.1 = k
    · subst hk
      have : ak = a := by rw [ev] at e1; injection e1 with e1; injection e1 with e1; exact e1.symm
      subst this
      rw [if_pos rfl, upd_same, natV_snoc]
    · have hne : ak ≠ a := fun z => hk (E.inj q.1 k a ev (by rw [← z]; exact e1))
      rw [if_neg hk, upd_ne hne]
      exact sz _ _ e4
  · have hk : ¬ q.1 = k := fun z => by subst z; rw [ev] at e1; cases e1
    rw [if_neg hk]
    exact .inr ⟨e1, e2⟩
theorem Ends.new {H0 H : Hp} {d lz : Addr} {qs : List (Nat × Nat)} {l : List (Key × V)} {q : Nat × Nat} (E : Ends H0 H d qs l) (hlz : H lz = none) (ev : valV l (.inl (q.1 : Int)) = none) :
    Ends H0 (upd (upd (upd H lz (.lst [])) d (.dK (putK l (.inl (q.1 : Int)) (.ref lz)))) lz (.lst ([] ++ [.int (q.2 : Int)]))) d (qs ++ [q]) (putK l (.inl (q.1 : Int)) (.ref lz)) := by
  have sz := same_new hlz (.lst [])
  have ndz : d ≠ lz := ne_of_none E.dict hlz
  have fz : H0 lz = none := none_of_same E.same hlz
  have old : ∀ (k : Nat) (ak : Addr), H0 ak = none → valV l (.inl (k : Int)) = some (.ref ak) → H ak = some (.lst (natV (ends qs k))) → ak ≠ d → (upd (upd (upd H lz (.lst [])) d (.dK (putK l (.inl (q.1 : Int)) (.ref lz)))) lz (.lst ([] ++ [.int (q.2 : Int)]))) ak = some (.lst (natV (ends qs k))) := fun k ak h1 h2 h3 h4 => by
    have : ak ≠ lz := ne_of_none h3 hlz
    rw [upd_ne this, upd_ne h4, upd_ne this]
    exact h3
  have ik : ∀ k : Nat, ((Sum.inl (k : Int) : Key) = .inl (q.1 : Int)) ↔ k = q.1 := fun k => ⟨fun z => by injection z with z; omega, fun z => by rw [z]⟩
  refine ⟨same_upd (same_upd (E.same.trans sz) E.fd) fz, E.fd, by rw [upd_ne ndz, upd_same], ?_, fun k => ?_, fun k k' a h1 h2 => ?_⟩
  · have := length_putK l (Sum.inl (q.1 : Int)) (V.ref lz)
    have := E.len
    rw [List.length_append]
    show _ ≤ qs.length + 1
    omega
  · rw [ends_snoc, valV_put]
    by_cases hk : k = q.1
    · rw [if_pos ((ik k).mpr hk), if_pos hk.symm]
      subst hk
      have e0 : ends qs q.1 = [] := by
        rcases E.at' q.1 with ⟨ak, e1, _⟩ | ⟨_, e2⟩
        · rw [ev] at e1; cases e1
        · exact e2
      exact .inl ⟨lz, rfl, fz, Ne.symm ndz, by rw [upd_same, e0]; rfl⟩
    · rw [if_neg (fun z => hk ((ik k).mp z)), if_neg (fun z => hk z.symm)]
      rcases E.at' k with ⟨ak, e1, e2, e3, e4⟩ | ⟨e1, e2⟩
      · exact .inl ⟨ak, e1, e2, e3, old k ak e2 e1 e4 e3⟩
      · exact .inr ⟨e1, e2⟩
  · rw [valV_put] at h1 h2
    have nz : ∀ k : Nat, valV l (.inl (k : Int)) ≠ some (.ref lz) := fun k z => by
      rcases E.at' k with ⟨ak, e1, e2, e3, e4⟩ | ⟨e1, e2⟩
      · rw [e1] at z
        injection z with z
        injection z with z
        subst z
        rw [hlz] at e4
        cases e4
      · rw [e1] at z; cases z
    by_cases hk : k = q.1
    · by_cases hk' : k' = q.1
      · rw [hk, hk']
      · rw [if_pos ((ik k).mpr hk)] at h1
        rw [if_neg (fun z => hk' ((ik k').mp z))] at h2
        injection h1 with h1
        injection h1 with h1
        subst h1
        exact absurd h2 (nz k')
    · rw [if_neg (fun z => hk ((ik k).mp z))] at h1
      by_cases hk' : k' = q.1
      · rw [if_pos ((ik k').mpr hk')] at h2
        injection h2 with h2
        injection h2 with h2
        subst h2
        exact absurd h1 (nz k)
      · rw [if_neg (fun z => hk' ((ik k').mp z))] at h2
        exact E.inj k k' a h1 h2
section
variable {P : Program} {w : World} {K : PySem.W.Frag} {mg : Str → Option Value} {base : Heap} {f g e d a1 a2 a3 a4 : Addr} {fd gd' ed dd d1 d2 d3 d4 : FuncData}
theorem scEnds : FnScope ["pairs", "ends", "start", "end"] ["pairs"] (defScope sEnds) := ⟨rfl, rfl, rfl, by decide +kernel, rfl, by decide +kernel, by decide +kernel⟩
theorem ok_ends (F : Fun K "ends_by_start" "ends_by_start" sEnds f fd) : FnOk P w K mg base CX0 1 f fd ["pairs"] spEnds := by
  refine F.ok scEnds (fun vs H Q E h => ?_) (fun cdv A outer s H vs Q E hr h => ?_)
  · obtain ⟨a, xs, qs, rfl, _⟩ := h; rfl
  obtain ⟨a, xs, qs, rfl, ha, hpl, hl, q⟩ := h
  refine ⟨_, @pss_cons _ _ _ _ _ (by exact ps_set (i := 1) scEnds.nd rfl (Or.inl rfl) pe_dnewK)
    (@pss_cons _ _ _ _ _ (by exact ps_for PassesOwn.never rfl (pi_list (pv 0)) (pg_tup rfl (pgs_cons (pg_name (i := 2) scEnds.nd rfl (Or.inl rfl)) (pgs_cons (pg_name (i := 3) scEnds.nd rfl (Or.inl rfl)) pgs_nil))) (@pss_one _ _ _ (by exact ps_expr (pe_bm PySem.F.plainAttrs_list PySem.F.slot_list_append PySem.F.type_list_append mt_append (pe_dsetd (pv 1) (pv 2) (pe_lst pa_nil) ⟨rfl, rfl, rfl, rfl⟩) (pa_cons (pv 3) pa_nil)))))
    (@pss_one _ _ _ (by exact ps_ret (pv 1)))), ?_⟩
  refine fun d hd => ?_
  have E0 : Ends H (upd H d (.dK [])) d [] [] := ⟨same_new hd _, hd, upd_same, Nat.le_refl _, fun k => .inr ⟨rfl, rfl⟩, fun k k' a h => by cases h⟩
  refine ⟨_, rfl, a, rfl, ⟨_, SqL.of (E0.same _ _ ha)⟩, for_list (xs := xs) (fun i σ H' => (∃ o2 o3 : Option V, σ = [some (.ref a), some (.ref d), o2, o3]) ∧ ∃ l, Ends H H' d (qs.take i) l) ⟨⟨_, _, rfl⟩, [], E0⟩ ?_ ?_ ?_⟩
  · rintro i σ H' _ ⟨_, l, E1⟩
    exact SqL.of (E1.same _ _ ha)
  · rintro i x σ H' hx ⟨⟨o2, o3, rfl⟩, l, E1⟩
    obtain ⟨q', hq', t, rfl, ht⟩ := PL.get hpl hx
    have tk : qs.take (i + 1) = qs.take i ++ [q'] := by rw [List.take_add_one, hq']; rfl
    have hlt : (qs.take i).length ≤ 1000 := Nat.le_trans (by rw [List.length_take]; omega) hl
    refine ⟨t, _, rfl, SqT.of (E1.same _ _ ht), rfl, _, _, rfl, _, _, rfl, rfl, ?_⟩
    refine ⟨_, rfl, d, rfl, .inl ⟨l, .inl E1.dict⟩, _, rfl, Nat.zero_le _, fun lz hlz => ?_⟩
    have sz := same_new hlz (.lst [])
    refine ⟨l, Sum.inl _, sz _ _ E1.dict, rfl, small1000 (Nat.le_trans E1.len hlt), fun v hv => ?_, fun hn => ?_⟩
    · rcases E1.at' q'.1 with ⟨ak, e1, e2, e3, e4⟩ | ⟨e1, _⟩
      · rw [e1] at hv
        injection hv with hv
        subst hv
        have e4' := sz _ _ e4
        have hel : (natV (ends (qs.take i) q'.1)).length ≤ 1000 := by
          rw [List.length_map, ends, List.length_map]
          exact Nat.le_trans (List.length_filter_le _ _) hlt
        refine ⟨.inl ⟨rfl, _, SqL.of e4'⟩, _, rfl, ak, _, .int (q'.2 : Int), rfl, rfl, e4', small1000 hel, ⟨_, _, rfl⟩, l, ?_⟩
        rw [tk]
        exact E1.more hlz e1 e2 e3 e4
      · rw [e1] at hv; cases hv
    · have ndz : d ≠ lz := ne_of_none E1.dict hlz
      have ez : (upd (upd H' lz (.lst [])) d (.dK (putK l (.inl (q'.1 : Int)) (.ref lz)))) lz = some (.lst []) := by rw [upd_ne (Ne.symm ndz)]; exact upd_same
      refine ⟨.inl ⟨rfl, _, SqL.of ez⟩, _, rfl, lz, _, .int (q'.2 : Int), rfl, rfl, ez, small1000 (Nat.zero_le _), ⟨_, _, rfl⟩, putK l (.inl (q'.1 : Int)) (.ref lz), ?_⟩
      rw [tk]
      exact E1.new hlz hn
  · rintro σ H' ⟨⟨o2, o3, rfl⟩, l, E1⟩
    have dl : xs.length = qs.length := hpl.len
    rw [dl, List.take_length] at E1
    exact ⟨_, rfl, q d H' l E1⟩
end
end K07
set_option Elab.async false
set_option linter.all false
set_option maxRecDepth 100000
set_option maxHeartbeats 4000000
namespace K07
open PySem L2
def spMk : Sp := fun vs H Q _ => ∃ (v s : V) (W : Wd) (r u y : Str), vs = [v, s] ∧ IsW H W v ∧ WdOk W ∧ IsSy H (.mk r u y) s ∧ ∀ H', Same H H' → Q (.bl (keptB W (.mk r u y))) H'
def spKeeps : Sp := fun vs H Q _ => ∃ (v s : V) (W : Wd) (x : Sy), vs = [v, s] ∧ IsW H W v ∧ WdOk W ∧ IsSy H x s ∧ ∀ H', Same H H' → Q (.bl (keptB W x)) H'
section
variable {P : Program} {w : World} {K : PySem.W.Frag} {mg : Str → Option Value} {base : Heap} {f g e d a1 a2 a3 a4 : Addr} {fd gd' ed dd d1 d2 d3 d4 : FuncData}
theorem scMk : FnScope ["world", "saying", "onward", "made", "start", "middle", "end"] ["world", "saying"] (defScope sMakes) := ⟨rfl, rfl, rfl, by decide +kernel, rfl, by decide +kernel, by decide +kernel⟩
theorem ok_mk (F : Fun K "keeps_makes" "keeps_makes" sMakes f fd) (mset : mg "set" = none)
    (Gt : FnOk P w K mg base CX0 1 a1 d1 ["world", "tie"] spTie) (bGt : Binds K d1 ["world", "tie"] []) (kGt : PySem.W.keepIn K (.ref a1) = true) (mGt : mg "tie_pairs" = some (.ref a1))
    (Ge : FnOk P w K mg base CX0 1 a2 d2 ["pairs"] spEnds) (bGe : Binds K d2 ["pairs"] []) (kGe : PySem.W.keepIn K (.ref a2) = true) (mGe : mg "ends_by_start" = some (.ref a2)) :
    FnOk P w K mg base CX0 2 f fd ["world", "saying"] spMk := by
  refine F.ok scMk (fun vs H Q E h => ?_) (fun cdv A outer s H vs Q E hr h => ?_)
  · obtain ⟨v, s, W, r, u, y, rfl, _⟩ := h; rfl
  obtain ⟨v, sy, W, r, u, y, rfl, hW, ok, hS, q⟩ := h
  have hrt := hr
  have hre := hr
  have hu : (A.deeper (PyProof.Rows.envOfC "keeps_makes" (defScope sMakes) s.heap.objs.size f cdv)).units + 1 < cLine := by have := hr.un; omega
  refine ⟨_, @pss_cons _ _ _ _ _ (by exact ps_set (i := 2) scMk.nd rfl (Or.inl rfl) (pe_call Ge hre rfl mGe kGe bGe .nil pass0 (pa_cons (pe_call Gt hrt rfl mGt kGt bGt .nil pass0 (pa_cons (pv 0) (pa_cons (pe_ix ix_tup (pv 1) pe_int (fun _ _ => rfl)) pa_nil))) pa_nil)))
    (@pss_cons _ _ _ _ _ (by exact ps_set (i := 3) scMk.nd rfl (Or.inl rfl) (pe_callTy (call_setP rfl hr.units) rfl mset PyProof.Rows.boot_set (pa_cons (pe_call Gt hrt rfl mGt kGt bGt .nil pass0 (pa_cons (pv 0) (pa_cons (pe_ix ix_tup (pv 1) pe_int (fun _ _ => rfl)) pa_nil))) pa_nil)))
    (@pss_cons _ _ _ _ _ (by exact ps_for PassesOwn.never rfl (pi_list (pe_call Gt hrt rfl mGt kGt bGt .nil pass0 (pa_cons (pv 0) (pa_cons (pe_ix ix_tup (pv 1) pe_int (fun _ _ => rfl)) pa_nil)))) (pg_tup rfl (pgs_cons (pg_name (i := 4) scMk.nd rfl (Or.inl rfl)) (pgs_cons (pg_name (i := 5) scMk.nd rfl (Or.inl rfl)) pgs_nil))) (@pss_one _ _ _ (by exact ps_for PassesOwn.never rfl (pi_list (pe_dget2 hu (pv 2) (pv 5) (pe_lst pa_nil) ⟨rfl, rfl, rfl, rfl⟩)) (pg_name (i := 6) scMk.nd rfl (Or.inl rfl)) (@pss_one _ _ _ (by exact ps_if (pt_cmpR (r := rNotInP P w) (op_notInSP hr.units) (pe_tup (pa_cons (pv 4) (pa_cons (pv 6) pa_nil))) (pv 3) rfl) (@pss_one _ _ _ (by exact ps_ret pe_bl)) pss_nil)))))
    (@pss_one _ _ _ (by exact ps_ret pe_bl)))), ?_⟩
  obtain ⟨t, rfl, ht⟩ := hS
  have lB := (pairsAt_ok ok u).1
  refine ⟨_, rfl, _, rfl, t, _, 2, _, rfl, rfl, SqT.of ht, atI_nat (j := 2) rfl, v, W, u, rfl, hW, ok.nd, fun p1 H1 xs1 s1 e1 d1 => ?_⟩
  refine ⟨p1, xs1, _, rfl, e1, das_pl d1, lB, fun d H2 l E2 => ?_⟩
  have s2 := s1.trans E2.same
  refine ⟨_, rfl, _, rfl, t, _, 3, _, rfl, rfl, SqT.of (s2 _ _ ht), atI_nat (j := 3) rfl, v, W, y, rfl, hW.mono s2, ok.nd, fun p3 H3 xs3 s3 e3 d3 => ?_⟩
  refine ⟨p3, xs3, _, rfl, e3, das_pl d3, pairsAt_small ok y, fun q3 ps3 hq3 m3 n3 i3 => ?_⟩
  have sq3 := same_new hq3 (setPO P w q3 ps3)
  have s4 := (s2.trans s3).trans sq3
  refine ⟨_, rfl, _, rfl, t, _, 1, _, rfl, rfl, SqT.of (s4 _ _ ht), atI_nat (j := 1) rfl, v, W, r, rfl, hW.mono s4, ok.nd, fun p5 H5 xs5 s5 e5 d5 => ?_⟩
  have pl5 := das_pl d5
  have s05 := s4.trans s5
  have eq3 : H5 q3 = some (setPO P w q3 ps3) := s5 _ _ upd_same
  have i5 : ∀ x ∈ ps3, IsP H5 x.1 (.ref x.2) := fun x hx => IsP.mono (sq3.trans s5).tups (i3 x hx)
  have s25 : Same H2 H5 := (s3.trans sq3).trans s5
  have ed5 := s25 _ _ E2.dict
  refine ⟨p5, rfl, ⟨_, SqL.of e5⟩, for_list (xs := xs5) (fun i σ H' => (∃ o4 o5 o6 : Option V, σ = [some v, some (.ref t), some (.ref d), some (.ref q3), o4, o5, o6]) ∧ Same H5 H' ∧ ∀ p ∈ (pairsAt W r).take i, ∀ n ∈ ends (pairsAt W u) p.2, (p.1, n) ∈ pairsAt W y) ⟨⟨_, _, _, rfl⟩, Same.refl _, fun p hp => by simp at hp⟩ ?_ ?_ ?_⟩
  · rintro i σ H' _ ⟨_, s', _⟩
    exact SqL.of (s' _ _ e5)
  · rintro i x σ H' hx ⟨⟨o4, o5, o6, rfl⟩, s', hall⟩
    obtain ⟨q', hq', tq, rfl, htq⟩ := PL.get pl5 hx
    have tk : (pairsAt W r).take (i + 1) = (pairsAt W r).take i ++ [q'] := by rw [List.take_add_one, hq']; rfl
    refine ⟨tq, _, rfl, SqT.of (s' _ _ htq), rfl, _, _, rfl, _, _, rfl, rfl, ?_⟩
    refine ⟨_, rfl, d, rfl, .inl ⟨l, .inl (s' _ _ ed5)⟩, _, rfl, Nat.zero_le _, fun lz hlz => ?_⟩
    have sz := same_new hlz (.lst [])
    have s6 := s'.trans sz
    refine ⟨_, DGet.k (k := Sum.inl (q'.2 : Int)) (s6 _ _ ed5), ?_⟩
    obtain ⟨al, el, hel⟩ : ∃ al : Addr, (valV l (Sum.inl (q'.2 : Int))).getD (.ref lz) = .ref al ∧ (upd H' lz (.lst [])) al = some (.lst (natV (ends (pairsAt W u) q'.2))) := by
      rcases E2.at' q'.2 with ⟨ak, z1, _, _, z4⟩ | ⟨z1, z2⟩
      · exact ⟨ak, by rw [z1]; rfl, s6 _ _ (s25 _ _ z4)⟩
      · exact ⟨lz, by rw [z1]; rfl, by rw [z2]; exact upd_same⟩
    rw [el]
    generalize upd H' lz (.lst []) = H6 at s6 hel ⊢
    refine ⟨al, rfl, ⟨_, SqL.of hel⟩, for_list (xs := natV (ends (pairsAt W u) q'.2)) (fun j σ H' => (∃ o6 : Option V, σ = [some v, some (.ref t), some (.ref d), some (.ref q3), some (.int (q'.1 : Int)), some (.int (q'.2 : Int)), o6]) ∧ Same H6 H' ∧ ∀ n ∈ (ends (pairsAt W u) q'.2).take j, (q'.1, n) ∈ pairsAt W y) ⟨⟨_, rfl⟩, Same.refl _, fun n hn => by simp at hn⟩ ?_ ?_ ?_⟩
    · rintro j σ H7 _ ⟨_, s7, _⟩
      exact SqL.of (s7 _ _ hel)
    · rintro j z σ H7 hz ⟨⟨o6, rfl⟩, s7, hall2⟩
      rw [List.getElem?_map] at hz
      obtain ⟨n, hn, rfl⟩ := Option.map_eq_some_iff.mp hz
      have tk2 : (ends (pairsAt W u) q'.2).take (j + 1) = (ends (pairsAt W u) q'.2).take j ++ [n] := by rw [List.take_add_one, hn]; rfl
      refine ⟨_, rfl, _, rfl, small2 (by show 2 ≤ 1000; decide), fun tp htp => ?_⟩
      have st := same_new htp (.tup [.int (q'.1 : Int), .int (n : Int)])
      have s57 := s6.trans (s7.trans st)
      refine ⟨_, rfl, q3, (q'.1, n), ps3, rfl, s57 _ _ eq3, fun x hx => IsP.mono s57.tups (i5 x hx), ⟨tp, rfl, upd_same⟩, _, rfl, ite2 (fun hc => ?_) (fun hc => ?_)⟩
      · have hc' : ¬ (q'.1, n) ∈ ps3.map (·.1) := by simpa using hc
        have hno : ¬ (q'.1, n) ∈ pairsAt W y := fun z => hc' ((m3 _).mpr z)
        have kf : keptB W (.mk r u y) = false := by
          classical
          unfold keptB
          exact decide_eq_false fun hk => hno (hk _ ⟨q', List.mem_of_getElem? hq', (q'.2, n), mem_ends.mp (List.mem_of_getElem? hn), rfl, rfl⟩)
        have := q _ (s05.trans s57)
        rw [kf] at this
        exact this
      · have hc' : (q'.1, n) ∈ ps3.map (·.1) := by
          apply Classical.byContradiction
          intro z
          exact hc (by simpa using z)
        refine ⟨⟨_, rfl⟩, s7.trans st, ?_⟩
        rw [tk2]
        intro n' hn'
        rcases List.mem_append.mp hn' with z | z
        · exact hall2 n' z
        · rw [List.mem_singleton.mp z]; exact (m3 _).mp hc'
    · rintro σ H7 ⟨⟨o6, rfl⟩, s7, hall2⟩
      rw [List.length_map, List.take_length] at hall2
      refine ⟨⟨_, _, _, rfl⟩, s6.trans s7, ?_⟩
      rw [tk]
      intro p hp
      rcases List.mem_append.mp hp with z | z
      · exact hall p z
      · rw [List.mem_singleton.mp z]; exact hall2
  · rintro σ H' ⟨_, s', hall⟩
    rw [pl5.len, List.take_length] at hall
    have kt : keptB W (.mk r u y) = true := by
      classical
      unfold keptB
      refine decide_eq_true ?_
      rintro k ⟨p, hp, q', hq', e1, rfl⟩
      exact hall p hp q'.2 (mem_ends.mpr (by rw [e1]; exact hq'))
    have := q H' (s05.trans s')
    rw [kt] at this
    exact this
theorem scKeeps : FnScope ["world", "saying", "keeper"] ["world", "saying"] (defScope sKeeps) := ⟨rfl, rfl, rfl, by decide +kernel, rfl, by decide +kernel, by decide +kernel⟩
theorem ok_keeps {aK : Addr} {o1 o2 o3 o4 : V} (F : Fun K "keeps" "keeps" sKeeps f fd) (mK0 : mg "KEEPERS" = some (.ref aK)) (hK : KDict K P w aK [(.inr "every", o1), (.inr "no", o2), (.inr "thing", o3), (.inr "tied", o4), (.inr "within", .ref a1), (.inr "makes", .ref a2)])
    (G1 : FnOk P w K mg base CX0 2 a1 d1 ["world", "saying"] spWi) (b1 : Binds K d1 ["world", "saying"] []) (k1 : PySem.W.keepIn K (.ref a1) = true)
    (G2 : FnOk P w K mg base CX0 2 a2 d2 ["world", "saying"] spMk) (b2 : Binds K d2 ["world", "saying"] []) (k2 : PySem.W.keepIn K (.ref a2) = true) :
    FnOk P w K mg base CX0 3 f fd ["world", "saying"] spKeeps := by
  refine F.ok scKeeps (fun vs H Q E h => ?_) (fun cdv A outer s H vs Q E hr h => ?_)
  · obtain ⟨v, s, W, x, rfl, _⟩ := h; rfl
  obtain ⟨v, sy, W, x, rfl, hW, ok, hS, q⟩ := h
  refine ⟨_, @pss_cons _ _ _ _ _ (by exact ps_set (i := 2) scKeeps.nd rfl (Or.inl rfl) (pe_kget (pe_glob (v := .ref aK) rfl mK0 rfl) (pe_ix ix_tup (pv 1) pe_int (fun _ _ => rfl)) (fun _ _ => rfl)))
    (@pss_one _ _ _ (by exact ps_ret (pe_callV (i := 2) pass0 (pv 2) (pa_cons (pv 0) (pa_cons (pv 1) pa_nil))))), ?_⟩
  have v3 : valV ([(.inr "every", o1), (.inr "no", o2), (.inr "thing", o3), (.inr "tied", o4), (.inr "within", .ref a1), (.inr "makes", .ref a2)] : List (Key × V)) (.inr "within") = some (.ref a1) := rfl
  have v4 : valV ([(.inr "every", o1), (.inr "no", o2), (.inr "thing", o3), (.inr "tied", o4), (.inr "within", .ref a1), (.inr "makes", .ref a2)] : List (Key × V)) (.inr "makes") = some (.ref a2) := rfl
  have hS' := hS
  cases x with
  | wi r u =>
    obtain ⟨t, rfl, ht⟩ := hS
    refine ⟨_, rfl, t, _, 0, _, rfl, rfl, SqT.of ht, atI_nat (j := 0) rfl, aK, _, Sum.inr "within", .ref a1, rfl, rfl, hK, v3, ?_⟩
    exact ⟨a1, d1, 2, _, spWi, rfl, G1, hr, k1, b1, _, rfl, _, rfl, v, .ref t, W, r, u, rfl, hW, ok, hS', q⟩
  | mk r u y =>
    obtain ⟨t, rfl, ht⟩ := hS
    refine ⟨_, rfl, t, _, 0, _, rfl, rfl, SqT.of ht, atI_nat (j := 0) rfl, aK, _, Sum.inr "makes", .ref a2, rfl, rfl, hK, v4, ?_⟩
    exact ⟨a2, d2, 2, _, spMk, rfl, G2, hr, k2, b2, _, rfl, _, rfl, v, .ref t, W, r, u, y, rfl, hW, ok, hS', q⟩
end
end K07
set_option Elab.async false
set_option linter.all false
set_option maxRecDepth 100000
set_option maxHeartbeats 4000000
namespace K07
open PySem L2
theorem kit_bool_bool (K : PySem.W.Frag) : PySem.W.kitOne K (.type "bool") (.type "bool") = some true := by
  first | rfl | decide | with_unfolding_all rfl
def Small (A : List (Nat × Nat)) : Prop := ∀ q ∈ A, q.1 < 10 ∧ q.2 < 10
theorem comp_snoc {A B : List (Nat × Nat)} {a k : Nat × Nat} : Comp (A ++ [a]) B k ↔ Comp A B k ∨ Comp [a] B k := by
  unfold Comp
  constructor
  · rintro ⟨p, hp, r⟩
    rcases List.mem_append.mp hp with z | z
    · exact .inl ⟨p, z, r⟩
    · exact .inr ⟨p, z, r⟩
  · rintro (⟨p, hp, r⟩ | ⟨p, hp, r⟩)
    · exact ⟨p, List.mem_append_left _ hp, r⟩
    · exact ⟨p, List.mem_append_right _ hp, r⟩
theorem comp_snocB {B : List (Nat × Nat)} {a b k : Nat × Nat} : Comp [a] (B ++ [b]) k ↔ Comp [a] B k ∨ (a.2 = b.1 ∧ k = (a.1, b.2)) := by
  unfold Comp
  constructor
  · rintro ⟨p, hp, q, hq, r⟩
    rcases List.mem_append.mp hq with z | z
    · exact .inl ⟨p, hp, q, z, r⟩
    · rw [List.mem_singleton.mp hp, List.mem_singleton.mp z] at r
      exact .inr r
  · rintro (⟨p, hp, q, hq, r⟩ | r)
    · exact ⟨p, hp, q, List.mem_append_left _ hq, r⟩
    · exact ⟨a, List.mem_singleton.mpr rfl, b, List.mem_append_right _ (List.mem_singleton.mpr rfl), r⟩
theorem comp_nil {B : List (Nat × Nat)} {k : Nat × Nat} : ¬ Comp [] B k := fun ⟨p, hp, _⟩ => nomatch hp
theorem comp_nilB {A : List (Nat × Nat)} {k : Nat × Nat} : ¬ Comp A [] k := fun ⟨p, hp, q, hq, _⟩ => nomatch hq
theorem comp_small {A B : List (Nat × Nat)} (ha : Small A) (hb : Small B) {k : Nat × Nat} (h : Comp A B k) : k.1 < 10 ∧ k.2 < 10 := by
  obtain ⟨p, hp, q, hq, _, rfl⟩ := h
  exact ⟨(ha p hp).1, (hb q hq).2⟩
def spMade : Sp := fun vs H Q _ => ∃ (a b : Addr) (xs ys : List V) (A B : List (Nat × Nat)), vs = [.ref a, .ref b] ∧ H a = some (.lst xs) ∧ H b = some (.lst ys) ∧ PL H xs A ∧ PL H ys B ∧ Small A ∧ Small B ∧
  ∀ (p : Addr) (H' : Hp) (zs : List V) (ms : List (Nat × Nat)), Same H H' → H p = none → H' p = some (.lst zs) → PL H' zs ms → (∀ k, k ∈ ms ↔ Comp A B k) → ms.length ≤ 100 → Q (.ref p) H'
def spWithin : Sp := fun vs H Q _ => ∃ (a b : Addr) (xs ys : List V) (A B : List (Nat × Nat)), vs = [.ref a, .ref b] ∧ H a = some (.lst xs) ∧ H b = some (.lst ys) ∧ PL H xs A ∧ PL H ys B ∧ Q (.bl (decide (∀ k ∈ A, k ∈ B))) H
def spRight : Sp := fun vs H Q _ => ∃ (v s : V) (W : Wd) (x : Sy) (b : Bool), vs = [v, s, .bl b] ∧ IsW H W v ∧ WdOk W ∧ IsSy H x s ∧ b = keptB W x ∧ ∀ H', Same H H' → Q (.bl true) H'
section
variable {P : Program} {w : World} {K : PySem.W.Frag} {mg : Str → Option Value} {base : Heap} {f g e d a1 a2 a3 a4 : Addr} {fd gd' ed dd d1 d2 d3 d4 : FuncData}
theorem scMade : FnScope ["_law_first", "_law_second", "_law_made_here", "_law_p", "_law_q", "_law_m", "_law_z"] ["_law_first", "_law_second"] (defScope sMade) := ⟨rfl, rfl, rfl, by decide +kernel, rfl, by decide +kernel, by decide +kernel⟩
theorem ok_made (F : Fun K "_law_made" "_law_made" sMade f fd) : FnOk P w K mg base CX0 1 f fd ["_law_first", "_law_second"] spMade := by
  refine F.ok scMade (fun vs H Q E h => ?_) (fun cdv A outer s H vs Q E hr h => ?_)
  · obtain ⟨a, b, xs, ys, A, B, rfl, _⟩ := h; rfl
  obtain ⟨a, b, xs, ys, LA, LB, rfl, ha, hb, pa, pb, sa, sb, q⟩ := h
  refine ⟨_, @pss_cons _ _ _ _ _ (by exact ps_set (i := 2) scMade.nd rfl (Or.inl rfl) (pe_lst pa_nil))
    (@pss_cons _ _ _ _ _ (by exact ps_for PassesOwn.never rfl (pi_list (pv 0)) (pg_tup rfl (pgs_cons (pg_name (i := 3) scMade.nd rfl (Or.inl rfl)) (pgs_cons (pg_name (i := 4) scMade.nd rfl (Or.inl rfl)) pgs_nil))) (@pss_one _ _ _ (by exact ps_for PassesOwn.never rfl (pi_list (pv 1)) (pg_tup rfl (pgs_cons (pg_name (i := 5) scMade.nd rfl (Or.inl rfl)) (pgs_cons (pg_name (i := 6) scMade.nd rfl (Or.inl rfl)) pgs_nil))) (@pss_one _ _ _ (by exact ps_if (PW.pt (pw_and (pt_cmpR op_eq (pv 4) (pv 5) (nomark _)) (pw_and1 (pt_cmpR (op_notInLP hr.units) (pe_tup (pa_cons (pv 3) (pa_cons (pv 6) pa_nil))) (pv 2) rfl)))) (@pss_one _ _ _ (by exact ps_expr (pe_bm PySem.F.plainAttrs_list PySem.F.slot_list_append PySem.F.type_list_append mt_append (pv 2) (pa_cons (pe_tup (pa_cons (pv 3) (pa_cons (pv 6) pa_nil))) pa_nil)))) pss_nil)))))
    (@pss_one _ _ _ (by exact ps_ret (pv 2)))), ?_⟩
  refine ⟨Nat.zero_le _, fun D hD => ?_⟩
  have sD := same_new hD (.lst [])
  have inv : ∀ {i : Nat} {ms : List (Nat × Nat)}, ms.Nodup → (∀ k ∈ ms, k.1 < 10 ∧ k.2 < 10) → ms.length ≤ 100 := fun nd h => few_pairs nd h
  refine ⟨_, rfl, a, rfl, ⟨_, SqL.of (sD _ _ ha)⟩, for_list (xs := xs) (fun i σ H' => (∃ o3 o4 o5 o6 : Option V, σ = [some (.ref a), some (.ref b), some (.ref D), o3, o4, o5, o6]) ∧ Same H H' ∧ ∃ zs ms, H' D = some (.lst zs) ∧ PL H' zs ms ∧ ms.Nodup ∧ ∀ k, k ∈ ms ↔ Comp (LA.take i) LB k) ⟨⟨_, _, _, _, rfl⟩, sD, [], [], upd_same, .nil, List.nodup_nil, fun k => ⟨fun z => (nomatch z), fun z => (comp_nil (by simpa using z)).elim⟩⟩ ?_ ?_ ?_⟩
  · rintro i σ H' _ ⟨_, s', _⟩
    exact SqL.of (s' _ _ ha)
  · rintro i x σ H' hx ⟨⟨o3, o4, o5, o6, rfl⟩, s', zs, ms, eD, pD, nD, hD'⟩
    obtain ⟨p', hp', tp, rfl, htp⟩ := PL.get pa hx
    have hpm := List.mem_of_getElem? hp'
    have tk : LA.take (i + 1) = LA.take i ++ [p'] := by rw [List.take_add_one, hp']; rfl
    refine ⟨tp, _, rfl, SqT.of (s' _ _ htp), rfl, _, _, rfl, _, _, rfl, rfl, ?_⟩
    refine ⟨_, rfl, b, rfl, ⟨_, SqL.of (s' _ _ hb)⟩, for_list (xs := ys) (fun j σ H' => (∃ o5 o6 : Option V, σ = [some (.ref a), some (.ref b), some (.ref D), some (.int (p'.1 : Int)), some (.int (p'.2 : Int)), o5, o6]) ∧ Same H H' ∧ ∃ zs ms, H' D = some (.lst zs) ∧ PL H' zs ms ∧ ms.Nodup ∧ ∀ k, k ∈ ms ↔ (Comp (LA.take i) LB k ∨ Comp [p'] (LB.take j) k)) ⟨⟨_, _, rfl⟩, s', zs, ms, eD, pD, nD, fun k => by rw [hD' k]; simp [comp_nilB]⟩ ?_ ?_ ?_⟩
    · rintro j σ H2 _ ⟨_, s2, _⟩
      exact SqL.of (s2 _ _ hb)
    · rintro j y σ H2 hy ⟨⟨o5, o6, rfl⟩, s2, zs2, ms2, eD2, pD2, nD2, hD2⟩
      obtain ⟨q', hq', tq, rfl, htq⟩ := PL.get pb hy
      have hqm := List.mem_of_getElem? hq'
      have tk2 : LB.take (j + 1) = LB.take j ++ [q'] := by rw [List.take_add_one, hq']; rfl
      refine ⟨tq, _, rfl, SqT.of (s2 _ _ htq), rfl, _, _, rfl, _, _, rfl, rfl, ?_⟩
      refine ⟨_, rfl, _, rfl, rfl, _, rfl, ite2 (fun hc => ?_) (fun hc => iteF ?_)⟩
      · have he : p'.2 = q'.1 := by
          have := of_decide_eq_true hc
          injection this with this
          omega
        refine ⟨_, rfl, _, rfl, small2 (by show 2 ≤ 1000; decide), fun tn htn => ?_⟩
        have st := same_new htn (.tup [.int (p'.1 : Int), .int (q'.2 : Int)])
        refine ⟨_, rfl, D, (p'.1, q'.2), zs2, ms2, rfl, st _ _ eD2, ⟨tn, rfl, upd_same⟩, PL.mono st.tups pD2, _, rfl, ite2 (fun hn => ?_) (fun hn => ?_)⟩
        · have hnot : ¬ (p'.1, q'.2) ∈ ms2 := by simpa using hn
          refine ⟨_, rfl, .inl ⟨rfl, _, SqL.of (st _ _ eD2)⟩, _, rfl, _, rfl, small2 (by show 2 ≤ 1000; decide), fun tm htm => ?_⟩
          have st2 := same_new htm (.tup [.int (p'.1 : Int), .int (q'.2 : Int)])
          have eD3 := st2 _ _ (st _ _ eD2)
          have nd3 : (ms2 ++ [(p'.1, q'.2)]).Nodup := by
            rw [List.nodup_append]
            refine ⟨nD2, by simp, fun x hx y hy => ?_⟩
            rw [List.mem_singleton.mp hy]
            exact fun z => hnot (z ▸ hx)
          have l2 : ms2.length ≤ 100 := few_pairs nD2 fun k hk => by
            rcases (hD2 k).mp hk with z | z
            · exact comp_small (fun q hq => sa q (List.mem_of_mem_take hq)) sb z
            · exact comp_small (fun q hq => by rw [List.mem_singleton.mp hq]; exact sa p' hpm) (fun q hq => sb q (List.mem_of_mem_take hq)) z
          have tp2 := tups_lst (o := .lst (zs2 ++ [.ref tm])) eD3
          refine ⟨D, zs2, .ref tm, rfl, rfl, eD3, small1000 (by rw [pD2.len]; omega), ⟨_, _, rfl⟩, same_upd (s2.trans (st.trans st2)) hD, zs2 ++ [.ref tm], ms2 ++ [(p'.1, q'.2)], upd_same, ?_, nd3, fun k => ?_⟩
          · exact PL.app (PL.mono ((st.trans st2).tups.trans tp2) pD2) (.cons ⟨tm, rfl, tp2 _ _ upd_same⟩ .nil)
          · rw [tk2, comp_snocB, List.mem_append, hD2 k, List.mem_singleton]
            constructor
            · rintro ((z | z) | z)
              · exact .inl z
              · exact .inr (.inl z)
              · exact .inr (.inr ⟨he, z⟩)
            · rintro (z | z | ⟨_, z⟩)
              · exact .inl (.inl z)
              · exact .inl (.inr z)
              · exact .inr z
        · have hin : (p'.1, q'.2) ∈ ms2 := by
            apply Classical.byContradiction
            intro z
            exact hn (by simpa using z)
          refine ⟨⟨_, _, rfl⟩, s2.trans st, zs2, ms2, st _ _ eD2, PL.mono st.tups pD2, nD2, fun k => ?_⟩
          rw [tk2, comp_snocB, hD2 k]
          constructor
          · rintro (z | z)
            · exact .inl z
            · exact .inr (.inl z)
          · rintro (z | z | ⟨_, z⟩)
            · exact .inl z
            · exact .inr z
            · rw [z]; exact (hD2 _).mp hin
      · have he : ¬ p'.2 = q'.1 := fun z => hc (decide_eq_true (by rw [z]))
        refine ⟨⟨_, _, rfl⟩, s2, zs2, ms2, eD2, pD2, nD2, fun k => ?_⟩
        rw [tk2, comp_snocB, hD2 k]
        constructor
        · rintro (z | z)
          · exact .inl z
          · exact .inr (.inl z)
        · rintro (z | z | ⟨z, _⟩)
          · exact .inl z
          · exact .inr z
          · exact absurd z he
    · rintro σ H2 ⟨⟨o5, o6, rfl⟩, s2, zs2, ms2, eD2, pD2, nD2, hD2⟩
      rw [pb.len, List.take_length] at hD2
      refine ⟨⟨_, _, _, _, rfl⟩, s2, zs2, ms2, eD2, pD2, nD2, fun k => ?_⟩
      rw [tk, comp_snoc, hD2 k]
  · rintro σ H' ⟨⟨o3, o4, o5, o6, rfl⟩, s', zs, ms, eD, pD, nD, hD'⟩
    rw [pa.len, List.take_length] at hD'
    exact ⟨_, rfl, q D H' zs ms s' hD eD pD hD' (few_pairs nD fun k hk => comp_small sa sb ((hD' k).mp hk))⟩
theorem scWithin : FnScope ["_law_some", "_law_others", "_law_pair"] ["_law_some", "_law_others"] (defScope sWithin) := ⟨rfl, rfl, rfl, by decide +kernel, rfl, by decide +kernel, by decide +kernel⟩
theorem ok_within (F : Fun K "_law_within" "_law_within" sWithin f fd) : FnOk P w K mg base CX0 1 f fd ["_law_some", "_law_others"] spWithin := by
  refine F.ok scWithin (fun vs H Q E h => ?_) (fun cdv A outer s H vs Q E hr h => ?_)
  · obtain ⟨a, b, xs, ys, A, B, rfl, _⟩ := h; rfl
  obtain ⟨a, b, xs, ys, LA, LB, rfl, ha, hb, pa, pb, q⟩ := h
  refine ⟨_, @pss_cons _ _ _ _ _ (by exact ps_for PassesOwn.never rfl (pi_list (pv 0)) (pg_name (i := 2) scWithin.nd rfl (Or.inl rfl)) (@pss_one _ _ _ (by exact ps_if (pt_cmpR (op_notInLP hr.units) (pv 2) (pv 1) rfl) (@pss_one _ _ _ (by exact ps_ret pe_bl)) pss_nil)))
    (@pss_one _ _ _ (by exact ps_ret pe_bl)), ?_⟩
  refine ⟨_, rfl, a, rfl, ⟨_, SqL.of ha⟩, for_list (xs := xs) (fun i σ H' => (∃ o2 : Option V, σ = [some (.ref a), some (.ref b), o2]) ∧ H' = H ∧ ∀ k ∈ LA.take i, k ∈ LB) ⟨⟨_, rfl⟩, rfl, fun k hk => by simp at hk⟩ ?_ ?_ ?_⟩
  · rintro i σ H' _ ⟨_, rfl, _⟩
    exact SqL.of ha
  · rintro i x σ H' hx ⟨⟨o2, rfl⟩, rfl, hall⟩
    obtain ⟨p', hp', ip⟩ := PL.get pa hx
    have tk : LA.take (i + 1) = LA.take i ++ [p'] := by rw [List.take_add_one, hp']; rfl
    refine ⟨_, rfl, _, rfl, b, p', ys, LB, rfl, hb, ip, pb, _, rfl, ite2 (fun hn => ?_) (fun hn => ?_)⟩
    · have hnot : ¬ p' ∈ LB := by simpa using hn
      have := q
      rw [decide_eq_false (fun z => hnot (z p' (List.mem_of_getElem? hp')))] at this
      exact this
    · have hin : p' ∈ LB := by
        apply Classical.byContradiction
        intro z
        exact hn (by simpa using z)
      refine ⟨⟨_, rfl⟩, rfl, ?_⟩
      rw [tk]
      intro k hk
      rcases List.mem_append.mp hk with z | z
      · exact hall k z
      · rw [List.mem_singleton.mp z]; exact hin
  · rintro σ H' ⟨_, rfl, hall⟩
    rw [pa.len, List.take_length] at hall
    rw [decide_eq_true hall] at q
    exact q
theorem scRight : FnScope ["_law_world_here", "_law_saying", "_law_due", "_law_handed", "_law_found"] ["_law_world_here", "_law_saying", "_law_due"] (defScope sRight) := ⟨rfl, rfl, rfl, by decide +kernel, rfl, by decide +kernel, by decide +kernel⟩
theorem ok_right (F : Fun K "_law_right" "_law_right" sRight f fd) (mi : mg "isinstance" = none) (mb : mg "bool" = none)
    (Gcp : FnOk P w K mg base CX0 1 a2 d2 ["_law_world_here"] spCopy) (bGcp : Binds K d2 ["_law_world_here"] []) (kGcp : PySem.W.keepIn K (.ref a2) = true) (mGcp : mg "_law_copy" = some (.ref a2))
    (Gke : FnOk P w K mg base CX0 3 a3 d3 ["world", "saying"] spKeeps) (bGke : Binds K d3 ["world", "saying"] []) (kGke : PySem.W.keepIn K (.ref a3) = true) (mGke : mg "keeps" = some (.ref a3)) :
    FnOk P w K mg base CX0 4 f fd ["_law_world_here", "_law_saying", "_law_due"] spRight := by
  refine F.ok scRight (fun vs H Q E h => ?_) (fun cdv A outer s H vs Q E hr h => ?_)
  · obtain ⟨v, s, W, x, b, rfl, _⟩ := h; rfl
  obtain ⟨v, sy, W, x, b, rfl, hW, ok, hS, hx, q⟩ := h
  have hrcp := hr.mono (show 1 ≤ 3 by decide)
  have hrke := hr
  refine ⟨_, @pss_cons _ _ _ _ _ (by exact ps_set (i := 3) scRight.nd rfl (Or.inl rfl) (pe_call Gcp hrcp rfl mGcp kGcp bGcp .nil pass0 (pa_cons (pv 0) pa_nil)))
    (@pss_cons _ _ _ _ _ (by exact ps_set (i := 4) scRight.nd rfl (Or.inl rfl) (pe_call Gke hrke rfl mGke kGke bGke .nil pass0 (pa_cons (pv 3) (pa_cons (pv 1) pa_nil))))
    (@pss_one _ _ _ (by exact ps_ret (pe_and (pe_callB call_isinst rfl mi PyProof.Rows.boot_isinstance (pa_cons (pv 4) (pa_cons (pe_bltn (v := .ty "bool") rfl mb PyProof.Rows.boot_bool rfl) pa_nil))) (pe_and (pe_cmpR op_eq (pv 4) (pv 2) (nomark _)) (pe_one (pe_cmpR (op_eqW hr.units) (pv 3) (pv 0) (nomark _)))))))), ?_⟩
  refine ⟨_, rfl, v, W, rfl, hW, ok.nd, ok.lk, ok.lp, fun v1 H1 s1 hW1 => ?_⟩
  refine ⟨_, rfl, _, rfl, v1, sy, W, x, rfl, hW1, ok, hS.mono s1, fun H2 s2 => ?_⟩
  have s12 := s1.trans s2
  refine ⟨_, rfl, _, _, _, true, rfl, TyOf.bl _, kit_bool_bool K, _, rfl, iteT ?_⟩
  refine ⟨_, rfl, _, rfl, rfl, _, rfl, ?_⟩
  subst hx
  rw [decide_eq_true rfl]
  exact iteT ⟨_, rfl, _, rfl, W, ok.nd, hW1.mono s2, hW.mono s12, q H2 s12⟩
end
end K07
set_option Elab.async false
set_option linter.all false
set_option maxRecDepth 100000
set_option maxHeartbeats 4000000
namespace K07
open PySem L2
theorem call_lenL {X : Cx} : CallR X (.builtin "len") (fun xs H Q => ∃ (a : Addr) (ys : List V), xs = [V.ref a] ∧ H a = some (.lst ys) ∧ Q (.int (ys.length : Int)) H) := by
  intro pins s σ H xs us Q I r h
  obtain ⟨a, ys, rfl, ha, q⟩ := h
  exact call_len_seq pins s σ H _ us Q I r ⟨a, ys, rfl, .inl (SqL.of ha), q⟩
theorem ndpm : ((([("_law_pair" : Str)] : List Str) ++ [("_law_made_here" : Str)]) : List Str).Nodup := by decide +kernel
theorem ndkp : ((([("_law_k" : Str), ("_law_pair" : Str)] : List Str) ++ [("_law_cell_here" : Str), ("_law_made_here" : Str)]) : List Str).Nodup := by decide +kernel
theorem getP {H : Hp} {W : Wd} {lp : List (Key × V)} {x : Str} {lo : Addr} (g : Dak H W.pairsK lp) (nd : W.nd) (hlo : H lo = none) :
    ∃ (ao : Addr) (xs : List V), (valV lp (Sum.inr x)).getD (.ref lo) = .ref ao ∧ (upd H lo (.lst [])) ao = some (.lst xs) ∧ PL (upd H lo (.lst [])) xs (pairsAt W x) := by
  have so := same_new hlo (.lst [])
  rcases pairs_get (x := x) g nd with ⟨qs, ao, xs, hm, ev, eo, hd⟩ | ⟨hn, ev⟩
  · exact ⟨ao, xs, by rw [ev]; rfl, so _ _ eo, by unfold pairsAt; rw [hm]; exact das_pl (das_same so.tups hd)⟩
  · exact ⟨lo, [], by rw [ev]; rfl, upd_same, by unfold pairsAt; rw [hn]; exact .nil⟩
def In (m : Nat) (qs : List (Nat × Nat)) : Prop := ∀ q ∈ qs, q.1 < m ∧ q.2 < m
def sp3 : Sp := fun vs H Q _ => ∃ (v : V) (pt : Addr) (c : Int) (W : Wd) (ts : List Str), vs = [v, .ref pt, .int c] ∧ IsW H W v ∧ WdOk W ∧ (∀ r, (pairsAt W r).length ≤ 400) ∧ H pt = some (.lst (ts.map V.str)) ∧ 3 ≤ ts.length ∧
  ∀ (p : Addr) (H' : Hp) (xs : List V) (qs : List (Nat × Nat)), Same H H' → H' p = some (.lst xs) → PL H' xs qs → In W.many qs → qs.length ≤ 1000 → Q (.ref p) H'
section
variable {P : Program} {w : World} {K : PySem.W.Frag} {mg : Str → Option Value} {base : Heap} {f g e d a1 a2 a3 a4 : Addr} {fd gd' ed dd d1 d2 d3 d4 : FuncData}
theorem sc3 : FnScope ["_law_world_here", "_law_ties", "_law_cell_here", "_law_first", "_law_second", "_law_made_here"] ["_law_world_here", "_law_ties", "_law_cell_here"] (defScope sThird) := ⟨rfl, rfl, rfl, by decide +kernel, rfl, by decide +kernel, by decide +kernel⟩
theorem ok_third (F : Fun K "_law_third" "_law_third" sThird f fd) (ml : mg "len" = none) (me : mg "enumerate" = none)
    (Gm : FnOk P w K mg base CX0 1 a1 d1 ["_law_first", "_law_second"] spMade) (bGm : Binds K d1 ["_law_first", "_law_second"] []) (kGm : PySem.W.keepIn K (.ref a1) = true) (mGm : mg "_law_made" = some (.ref a1)) :
    FnOk P w K mg base CX0 2 f fd ["_law_world_here", "_law_ties", "_law_cell_here"] sp3 := by
  refine F.ok sc3 (fun vs H Q E h => ?_) (fun cdv A outer s H vs Q E hr h => ?_)
  · obtain ⟨v, pt, c, W, ts, rfl, _⟩ := h; rfl
  obtain ⟨v, pt, c, W, ts, rfl, hW, ok, l4, et, lt, q⟩ := h
  have hrm := hr
  have hu : (A.deeper (PyProof.Rows.envOfC "_law_third" (defScope sThird) s.heap.objs.size f cdv)).units + 1 < cLine := by have := hr.un; omega
  refine ⟨_, @pss_cons _ _ _ _ _ (by exact ps_set (i := 3) sc3.nd rfl (Or.inl rfl) (pe_dget2 hu (pe_ix ix_tup (pv 0) pe_int (fun _ _ => rfl)) (pe_ix ix_list (pv 1) pe_int (fun _ _ => rfl)) (pe_lst pa_nil) ⟨rfl, rfl, rfl, rfl⟩))
    (@pss_cons _ _ _ _ _ (by exact ps_set (i := 4) sc3.nd rfl (Or.inl rfl) (pe_dget2 hu (pe_ix ix_tup (pv 0) pe_int (fun _ _ => rfl)) (pe_ix ix_list (pv 1) pe_int (fun _ _ => rfl)) (pe_lst pa_nil) ⟨rfl, rfl, rfl, rfl⟩))
    (@pss_cons _ _ _ _ _ (by exact ps_set (i := 5) sc3.nd rfl (Or.inr rfl) (pe_dget2 hu (pe_ix ix_tup (pv 0) pe_int (fun _ _ => rfl)) (pe_ix ix_list (pv 1) pe_int (fun _ _ => rfl)) (pe_lst pa_nil) ⟨rfl, rfl, rfl, rfl⟩))
    (@pss_mid _ _ _ _ _ (by exact ps_if (PW.pt (pw_or (pt_cmpR op_eq (pe_op op_mod (pv 2) pe_int) pe_int (nomark _)) (pw_or1 (pt_cmpR op_eq (pe_op op_mod (pv 2) pe_int) pe_int (nomark _))))) (@pss_one _ _ _ (by exact ps_set (i := 5) sc3.nd rfl (Or.inr rfl) (pe_call Gm hrm rfl mGm kGm bGm .nil pass0 (pa_cons (pv 3) (pa_cons (pv 4) pa_nil))))) pss_nil)
    (@pss_mid _ _ _ _ _ (by exact ps_if (pt_cmpR op_gt (pe_op op_mod (pv 2) pe_int) pe_int (nomark _)) (@pss_one _ _ _ (by exact ps_set (i := 5) sc3.nd rfl (Or.inr rfl) (pe_op op_cat (pv 5) (pe_comp ["_law_pair"] ["_law_made_here"] [5] rfl (pi_list (pv 3)) (fun _ _ _ => pg_name (i := 0) ndpm rfl (Or.inl rfl)) (fun _ _ _ => pts_one (pt_cmpR (op_notInLP hr.units) (pv 0) (pv 1) rfl)) (fun _ _ _ => (pv 0)))))) pss_nil)
    (@pss_mid _ _ _ _ _ (by exact ps_if (PW.pt (pw_or (pt_cmpR op_eq (pe_op op_mod (pv 2) pe_int) pe_int (nomark _)) (pw_or1 (pt_cmpR op_eq (pe_op op_mod (pv 2) pe_int) pe_int (nomark _))))) (@pss_one _ _ _ (by exact ps_set (i := 5) sc3.nd rfl (Or.inr rfl) (pe_comp ["_law_k", "_law_pair"] ["_law_cell_here", "_law_made_here"] [2, 5] rfl (pi_enum rfl me (pa_cons (pv 5) pa_nil)) (fun _ _ _ => pg_pair (K' := K) (i := 0) (j := 1) rfl rfl ndkp rfl rfl rfl rfl) (fun _ _ _ => pts_one (pt_cmpR op_ne (pv 0) (pe_op op_mod (pe_op op_fdiv (pv 2) pe_int) (pe_callB call_lenL rfl ml PySem.boot_len (pa_cons (pv 3) pa_nil))) (nomark _))) (fun _ _ _ => (pv 1))))) pss_nil)
    (@pss_one _ _ _ (by exact ps_ret (pv 5)))))))), ?_⟩
  have m10 := ok.many
  have inA : ∀ r, In W.many (pairsAt W r) := fun r => (pairsAt_ok ok r).2
  obtain ⟨p, dk, dp, dh, lk, lp, lh, rfl, h0, h1, g1, h2, g2, h3, g3⟩ := hW
  have atT : ∀ j : Nat, j < 3 → ∃ z : Str, atI (ts.map V.str) (j : Int) = some (.str z) := fun j hj => ⟨ts[j]'(by omega), atI_nat (by rw [List.getElem?_map, List.getElem?_eq_getElem (by omega)]; rfl)⟩
  obtain ⟨z0, t0⟩ := atT 0 (by decide)
  obtain ⟨z1, t1⟩ := atT 1 (by decide)
  obtain ⟨z2, t2⟩ := atT 2 (by decide)
  refine ⟨_, rfl, p, _, 2, _, rfl, rfl, SqT.of h0, atI_nat (j := 2) rfl, dp, rfl, .inl ⟨lp, .inl h2⟩, _, rfl, pt, _, 0, _, rfl, rfl, SqL.of et, t0, Nat.zero_le _, fun l0 hl0 => ?_⟩
  have s0 := same_new hl0 (.lst [])
  refine ⟨_, DGet.k (k := Sum.inr z0) (s0 _ _ h2), ?_⟩
  obtain ⟨a0, x0, eg0, ea0, pl0⟩ := getP (x := z0) g2 ok.nd hl0
  rw [eg0]
  have g2' := g2.mono s0
  generalize upd H l0 (.lst []) = H0 at s0 ea0 pl0 g2' ⊢
  refine ⟨_, rfl, p, _, 2, _, rfl, rfl, SqT.of (s0 _ _ h0), atI_nat (j := 2) rfl, dp, rfl, .inl ⟨lp, .inl (s0 _ _ h2)⟩, _, rfl, pt, _, 1, _, rfl, rfl, SqL.of (s0 _ _ et), t1, Nat.zero_le _, fun l1 hl1 => ?_⟩
  have s1 := same_new hl1 (.lst [])
  have s01 := s0.trans s1
  refine ⟨_, DGet.k (k := Sum.inr z1) (s01 _ _ h2), ?_⟩
  obtain ⟨a1', x1, eg1, ea1, pl1⟩ := getP (x := z1) g2' ok.nd hl1
  rw [eg1]
  have g2'' := g2'.mono s1
  have ea0' := s1 _ _ ea0
  have pl0' := PL.mono s1.tups pl0
  generalize upd H0 l1 (.lst []) = H1 at s1 s01 ea1 pl1 g2'' ea0' pl0' ⊢
  refine ⟨_, rfl, p, _, 2, _, rfl, rfl, SqT.of (s01 _ _ h0), atI_nat (j := 2) rfl, dp, rfl, .inl ⟨lp, .inl (s01 _ _ h2)⟩, _, rfl, pt, _, 2, _, rfl, rfl, SqL.of (s01 _ _ et), t2, Nat.zero_le _, fun l2 hl2 => ?_⟩
  have s2 := same_new hl2 (.lst [])
  have s02 := s01.trans s2
  refine ⟨_, DGet.k (k := Sum.inr z2) (s02 _ _ h2), ?_⟩
  obtain ⟨a2', x2, eg2, ea2, pl2⟩ := getP (x := z2) g2'' ok.nd hl2
  rw [eg2]
  have eA := s2 _ _ ea0'
  have pA := PL.mono s2.tups pl0'
  have eB := s2 _ _ ea1
  have pB := PL.mono s2.tups pl1
  generalize upd H1 l2 (.lst []) = H2 at s2 s02 ea2 pl2 eA pA eB pB ⊢
  have smA : Small (pairsAt W z0) := pairsAt_small ok z0
  have smB : Small (pairsAt W z1) := pairsAt_small ok z1
  -- the first if
  refine ⟨fun σ H' => ∃ (am : Addr) (xm : List V) (qm : List (Nat × Nat)), σ = [some (.ref p), some (.ref pt), some (.int c), some (.ref a0), some (.ref a1'), some (.ref am)] ∧ Same H2 H' ∧ H' am = some (.lst xm) ∧ PL H' xm qm ∧ In W.many qm ∧ qm.length ≤ 400, ?_, ?_⟩
  · have inC : ∀ ms : List (Nat × Nat), (∀ k, k ∈ ms ↔ Comp (pairsAt W z0) (pairsAt W z1) k) → In W.many ms := fun ms hm q hq => by
      obtain ⟨u, hu', v, hv, _, rfl⟩ := (hm q).mp hq
      exact ⟨(inA z0 u hu').1, (inA z1 v hv).2⟩
    refine ⟨_, rfl, _, _, rfl, rfl, (show (0 : Int) < 5 by decide), rfl, _, rfl, ite2 (fun h0 => iteT ?_) (fun h0 => ⟨_, rfl, _, _, rfl, rfl, (show (0 : Int) < 5 by decide), rfl, _, rfl, ite2 (fun h1 => ?_) (fun h1 => ?_)⟩)⟩
    · exact ⟨_, rfl, _, rfl, a0, a1', x0, x1, _, _, rfl, eA, eB, pA, pB, smA, smB, fun pm Hm zm ms sm _ em plm hm lm => ⟨pm, zm, ms, rfl, sm, em, plm, inC ms hm, by omega⟩⟩
    · exact ⟨_, rfl, _, rfl, a0, a1', x0, x1, _, _, rfl, eA, eB, pA, pB, smA, smB, fun pm Hm zm ms sm _ em plm hm lm => ⟨pm, zm, ms, rfl, sm, em, plm, inC ms hm, by omega⟩⟩
    · exact ⟨a2', x2, _, rfl, Same.refl _, ea2, pl2, inA z2, l4 z2⟩
  rintro σ H3 ⟨am, xm, qm, rfl, s3, em, plm, inm, lm⟩
  have eA3 := s3 _ _ eA
  have pA3 := PL.mono s3.tups pA
  -- the second if
  refine ⟨fun σ H' => ∃ (am : Addr) (xm : List V) (qm : List (Nat × Nat)), σ = [some (.ref p), some (.ref pt), some (.int c), some (.ref a0), some (.ref a1'), some (.ref am)] ∧ Same H3 H' ∧ H' am = some (.lst xm) ∧ PL H' xm qm ∧ In W.many qm ∧ qm.length ≤ 800, ?_, ?_⟩
  · refine ⟨_, rfl, _, _, rfl, rfl, (show (0 : Int) < 5 by decide), _, _, rfl, rfl, _, rfl, ite2 (fun hc => ?_) (fun hc => ⟨am, xm, qm, rfl, Same.refl _, em, plm, inm, by omega⟩)⟩
    refine ⟨_, rfl, _, rfl, a0, rfl, ⟨_, SqL.of eA3⟩, fun D hD => ?_⟩
    refine cmp_by x0.length (fun i σ H' => (∃ o, σ = [o, some (.ref am)]) ∧ Same H3 H' ∧ ∃ (ys : List V) (qs' : List (Nat × Nat)), PL H' ys qs' ∧ In W.many qs' ∧ qs'.length ≤ i ∧ H' D = some (.lst ys)) ⟨⟨_, rfl⟩, same_new hD _, [], [], .nil, fun q h => (nomatch h), Nat.zero_le _, upd_same⟩ ?_ ?_
    · rintro σ HD ⟨_, sD, ys, qs', pD, iD, lD, eD⟩
      have lA := l4 z0
      have lx := pA3.len
      refine ⟨⟨_, SqL.of (sD _ _ eA3), Nat.le_refl _⟩, am, D, _, _, rfl, rfl, sD _ _ em, eD, ?_, fun pn hpn => ?_⟩
      · rw [plm.len, pD.len]; exact small2 (by omega)
      · have sn := same_new hpn (.lst (xm ++ ys))
        refine ⟨pn, _, qm ++ qs', rfl, sD.trans sn, upd_same, PL.app (PL.mono (sD.trans sn).tups plm) (PL.mono sn.tups pD), fun q hq => ?_, by rw [List.length_append]; omega⟩
        rcases List.mem_append.mp hq with z | z
        · exact inm q z
        · exact iD q z
    · rintro i σ HD hi ⟨⟨o, rfl⟩, sD, ys, qs', pD, iD, lD, eD⟩
      have eoD := sD _ _ eA3
      refine ⟨⟨_, x0[i], SqL.of eoD, by simp [hi]⟩, ?_⟩
      rintro y HE ⟨rfl, hy⟩
      have hyi := hy _ (SqL.of eoD)
      obtain ⟨q', hq', ipq⟩ := PL.get pA3 hyi
      have ipq' := IsP.mono sD.tups ipq
      have lA := l4 z0
      have lx := pA3.len
      refine ⟨_, rfl, _, rfl, am, q', xm, qm, rfl, sD _ _ em, ipq', PL.mono sD.tups plm, _, rfl, ite2 (fun hne => ?_) (fun hne => ⟨⟨_, rfl⟩, sD, ys, qs', pD, iD, Nat.le_succ_of_le lD, eD⟩)⟩
      have tp := tups_lst (o := .lst (ys ++ [y])) eD
      refine ⟨_, rfl, _, eD, ?_, ⟨_, rfl⟩, same_upd sD hD, ys ++ [y], qs' ++ [q'], PL.app (PL.mono tp pD) (.cons (IsP.mono tp ipq') .nil), fun q hq => ?_, by rw [List.length_append]; exact Nat.add_le_add_right lD 1, upd_same⟩
      · rw [pD.len]; exact small1000 (by omega)
      · rcases List.mem_append.mp hq with z | z
        · exact iD q z
        · rw [List.mem_singleton.mp z]; exact inA z0 q' (List.mem_of_getElem? hq')
  rintro σ H4 ⟨am4, xm4, qm4, rfl, s4, em4, plm4, inm4, lm4⟩
  -- the third if
  refine ⟨fun σ H' => ∃ (am : Addr) (xm : List V) (qm : List (Nat × Nat)), σ = [some (.ref p), some (.ref pt), some (.int c), some (.ref a0), some (.ref a1'), some (.ref am)] ∧ Same H4 H' ∧ H' am = some (.lst xm) ∧ PL H' xm qm ∧ In W.many qm ∧ qm.length ≤ 800, ?_, ?_⟩
  · have no : ∃ (am : Addr) (xm : List V) (qm : List (Nat × Nat)), ([some (.ref p), some (.ref pt), some (.int c), some (.ref a0), some (.ref a1'), some (.ref am4)] : St) = [some (.ref p), some (.ref pt), some (.int c), some (.ref a0), some (.ref a1'), some (.ref am)] ∧ Same H4 H4 ∧ H4 am = some (.lst xm) ∧ PL H4 xm qm ∧ In W.many qm ∧ qm.length ≤ 800 := ⟨am4, xm4, qm4, rfl, Same.refl _, em4, plm4, inm4, lm4⟩
    have lx := plm4.len
    refine ⟨_, rfl, _, _, rfl, rfl, (show (0 : Int) < 5 by decide), rfl, _, rfl, ite2 (fun h0 => iteT ?_) (fun h0 => ⟨_, rfl, _, _, rfl, rfl, (show (0 : Int) < 5 by decide), rfl, _, rfl, ite2 (fun h1 => ?_) (fun h1 => no)⟩)⟩
    iterate 2
      · refine ⟨_, rfl, am4, rfl, ⟨_, SqL.of em4⟩, fun D hD => ?_⟩
        refine cmp_by xm4.length (fun i σ H' => (∃ o o', σ = [o, o', some (.int c), some (.ref am4)]) ∧ Same H4 H' ∧ ∃ (ys : List V) (qs' : List (Nat × Nat)), PL H' ys qs' ∧ In W.many qs' ∧ qs'.length ≤ i ∧ H' D = some (.lst ys)) ⟨⟨_, _, rfl⟩, same_new hD _, [], [], .nil, fun q h => (nomatch h), Nat.zero_le _, upd_same⟩ ?_ ?_
        · rintro σ HD ⟨_, sD, ys, qs', pD, iD, lD, eD⟩
          exact ⟨⟨_, SqL.of (sD _ _ em4), Nat.le_refl _⟩, D, ys, qs', rfl, sD, eD, pD, iD, by omega⟩
        · rintro i σ HD hi ⟨⟨o, o', rfl⟩, sD, ys, qs', pD, iD, lD, eD⟩
          have eoD := sD _ _ em4
          refine ⟨⟨_, xm4[i], SqL.of eoD, by simp [hi]⟩, ?_⟩
          rintro y HE ⟨T, x, rfl, hT, rfl, hy⟩
          have hyi := hy _ (SqL.of eoD)
          obtain ⟨q', hq', ipq⟩ := PL.get plm4 hyi
          have sT := same_new hT (.tup [.int (i : Int), x])
          have sDT := sD.trans sT
          have eD' := sT _ _ eD
          refine ⟨T, _, rfl, SqT.of upd_same, rfl, _, _, rfl, _, _, rfl, rfl, ?_⟩
          refine ⟨_, rfl, _, rfl, _, _, rfl, rfl, ⟨by decide, by decide⟩, _, rfl, am4, xm4, rfl, sDT _ _ em4, _, _, rfl, rfl, (by show (0 : Int) < (xm4.length : Int); omega), rfl, _, rfl, ite2 (fun hne => ?_) (fun hne => ⟨⟨_, _, rfl⟩, sDT, ys, qs', PL.mono sT.tups pD, iD, Nat.le_succ_of_le lD, eD'⟩)⟩
          have tp := tups_lst (o := .lst (ys ++ [x])) eD'
          refine ⟨_, rfl, _, eD', ?_, ⟨_, _, rfl⟩, same_upd sDT hD, ys ++ [x], qs' ++ [q'], PL.app (PL.mono (sT.tups.trans tp) pD) (.cons (IsP.mono (sDT.tups.trans tp) ipq) .nil), fun q hq => ?_, by rw [List.length_append]; exact Nat.add_le_add_right lD 1, upd_same⟩
          · rw [pD.len]; exact small1000 (by omega)
          · rcases List.mem_append.mp hq with z | z
            · exact iD q z
            · rw [List.mem_singleton.mp z]; exact inm4 q' (List.mem_of_getElem? hq')
  rintro σ H5 ⟨am5, xm5, qm5, rfl, s5, em5, plm5, inm5, lm5⟩
  exact ⟨_, rfl, q am5 H5 xm5 qm5 (s02.trans (s3.trans (s4.trans s5))) em5 plm5 inm5 (by omega)⟩
end
end K07
set_option Elab.async false
set_option linter.all false
set_option maxRecDepth 100000
set_option maxHeartbeats 4000000
namespace K07
open PySem L2
theorem cut_strs (ns : List Str) (lo hi : Option Int) : ∃ ns' : List Str, cutV (ns.map V.str) lo hi = ns'.map V.str ∧ ns'.length ≤ ns.length := by
  refine ⟨(ns.drop (HT.sIx (ns.map V.str).length 0 lo)).take (HT.sIx (ns.map V.str).length (ns.map V.str).length hi - HT.sIx (ns.map V.str).length 0 lo), ?_, ?_⟩
  · unfold cutV
    rw [List.map_take, List.map_drop]
  · rw [List.length_take, List.length_drop]; omega
theorem Keep.tups {H H' : Hp} (s : Keep H H') : Tups H H' := fun b xs h => s b _ (fun _ z => by cases z) h
theorem Keep.lst {H H' : Hp} (s : Keep H H') {a : Addr} {xs : List V} (h : H a = some (.lst xs)) : H' a = some (.lst xs) := s _ _ (fun _ z => by cases z) h
theorem Keep.tup {H H' : Hp} (s : Keep H H') {a : Addr} {xs : List V} (h : H a = some (.tup xs)) : H' a = some (.tup xs) := s _ _ (fun _ z => by cases z) h
/-- a world whose dicts are three -/
structure Wo (H : Hp) (W : Wd) (p dk dp dh : Addr) : Prop where
  h0 : H p = some (.tup [.int (W.many : Int), .ref dk, .ref dp, .ref dh])
  kp : dk ≠ dp
  kh : dk ≠ dh
  ph : dp ≠ dh
  ek : ∃ l, H dk = some (.dK l) ∧ Dak H W.kindsK l
  ep : ∃ l, H dp = some (.dK l) ∧ Dak H W.pairsK l
  eh : ∃ l, H dh = some (.dK l) ∧ Dak H W.homesK l
theorem Wo.mono {H H' : Hp} {W : Wd} {p dk dp dh : Addr} (o : Wo H W p dk dp dh) (s : Same H H') : Wo H' W p dk dp dh := by
  obtain ⟨l1, a1, b1⟩ := o.ek
  obtain ⟨l2, a2, b2⟩ := o.ep
  obtain ⟨l3, a3, b3⟩ := o.eh
  exact ⟨s _ _ o.h0, o.kp, o.kh, o.ph, ⟨l1, s _ _ a1, b1.mono s⟩, ⟨l2, s _ _ a2, b2.mono s⟩, ⟨l3, s _ _ a3, b3.mono s⟩⟩
theorem Wo.isW {H : Hp} {W : Wd} {p dk dp dh : Addr} (o : Wo H W p dk dp dh) : IsW H W (.ref p) := by
  obtain ⟨l1, a1, b1⟩ := o.ek
  obtain ⟨l2, a2, b2⟩ := o.ep
  obtain ⟨l3, a3, b3⟩ := o.eh
  exact ⟨p, dk, dp, dh, l1, l2, l3, rfl, o.h0, a1, b1, a2, b2, a3, b3⟩
theorem Wo.of {H : Hp} {W : Wd} {v : V} (h : IsW H W v) (ap : Apart H v) : ∃ p dk dp dh, v = .ref p ∧ Wo H W p dk dp dh := by
  obtain ⟨p, dk, dp, dh, lk, lp, lh, rfl, h0, h1, g1, h2, g2, h3, g3⟩ := h
  obtain ⟨p', n, dk', dp', dh', e, hp', a1, a2, a3⟩ := ap
  cases e
  rw [h0] at hp'
  injection hp' with this
  injection this with this
  injection this with _ this
  injection this with z1 this
  injection this with z2 this
  injection this with z3 this
  injection z1 with z1
  injection z2 with z2
  injection z3 with z3
  subst z1 z2 z3
  exact ⟨p, dk, dp, dh, rfl, h0, a1, a2, a3, ⟨lk, h1, g1⟩, ⟨lp, h2, g2⟩, ⟨lh, h3, g3⟩⟩
theorem Wo.putP {H : Hp} {W : Wd} {p dk dp dh : Addr} {l : List (Key × V)} {x : Str} {qs : List (Nat × Nat)} {v : V} (o : Wo H W p dk dp dh) (hl : H dp = some (.dK l)) (hv : Da H (pairsD qs) v) :
    Wo (upd H dp (.dK (putK l (Sum.inr x) v))) { W with pairs := putS W.pairs x qs } p dk dp dh := by
  obtain ⟨l1, a1, b1⟩ := o.ek
  obtain ⟨l2, a2, b2⟩ := o.ep
  obtain ⟨l3, a3, b3⟩ := o.eh
  have el : l2 = l := by rw [a2] at hl; injection hl with hl; injection hl
  subst el
  have kk := keep_put (l' := putK l2 (Sum.inr x) v) hl
  refine ⟨kk.tup o.h0, o.kp, o.kh, o.ph, ⟨l1, by rw [upd_ne o.kp]; exact a1, Dak.keep kk (flat_kinds W) b1⟩, ⟨_, upd_same, ?_⟩, ⟨l3, by rw [upd_ne (Ne.symm o.ph)]; exact a3, Dak.keep kk (flat_homes W) b3⟩⟩
  have := dak_put (x := x) (Dak.keep kk (flat_pairsK W) b2) (Da.keep kk (flat_pairs qs) hv)
  rw [Wd.pairsK, putS_map pairsD x qs W.pairs] at this
  exact this
theorem WdOk.putP {W : Wd} {x : Str} {qs : List (Nat × Nat)} (ok : WdOk W) (l : W.pairs.length ≤ 8) (hq : PairsOk W.many qs) : WdOk { W with pairs := putS W.pairs x qs } := by
  refine ⟨⟨ok.nd.k, putS_nd ok.nd.p, ok.nd.h⟩, ok.many, ok.lk, Nat.le_trans putS_len (by omega), ok.filt, ?_, ok.hm⟩
  intro y ps hy
  rcases putS_mem hy with z | z
  · exact ok.pr y ps z
  · injection z with _ z; rw [z]; exact hq
theorem Keep.seq {K : PySem.W.Frag} {H H' : Hp} (kk : Keep H H') {a : Addr} {xs : List V} (h : SqL K H a xs) : SqL K H' a xs := by
  rcases h with (h | ⟨o, h⟩) | h
  · exact .inl (.inl (kk _ _ (fun _ z => by cases z) h))
  · exact .inl (.inr ⟨o, kk _ _ (fun _ z => by cases z) h⟩)
  · exact .inr h
theorem look_put {α : Type} {ks : List (Str × α)} {x : Str} {a : α} (nd : (ks.map (·.1)).Nodup) : look (putS ks x a) x = some a := by
  refine look_mem (putS_nd nd) ?_
  unfold putS
  split
  · rename_i h
    obtain ⟨k, hk, e⟩ := List.any_eq_true.mp h
    have e' : k.1 = x := of_decide_eq_true e
    exact List.mem_map.mpr ⟨k, hk, by simp [e']⟩
  · exact List.mem_append_right _ (List.mem_singleton.mpr rfl)
theorem keptB_wi {W : Wd} {r s : Str} : decide (∀ k ∈ pairsAt W r, k ∈ pairsAt W s) = keptB W (.wi r s) := by
  unfold keptB
  rfl
theorem keptB_mk {W : Wd} {r s t : Str} {ms : List (Nat × Nat)} (h : ∀ k, k ∈ ms ↔ Comp (pairsAt W r) (pairsAt W s) k) : decide (∀ k ∈ ms, k ∈ pairsAt W t) = keptB W (.mk r s t) := by
  classical
  unfold keptB
  rw [Bool.eq_iff_iff, decide_eq_true_eq, decide_eq_true_eq]
  exact ⟨fun z k hk => z k ((h k).mpr hk), fun z k hk => z k ((h k).mp hk)⟩
def spLaw (K : PySem.W.Frag) : Sp := fun vs H Q _ => ∃ (a : Addr) (ns : List Int), vs = [.ref a] ∧ SqL K H a (ns.map V.int) ∧ ns.length ≤ 63 ∧ ∀ H', Q (.bl true) H'
section
variable {P : Program} {w : World} {K : PySem.W.Frag} {mg : Str → Option Value} {base : Heap} {f g e d a1 a2 a3 a4 a5 a6 a7 a8 : Addr} {fd gd' ed dd d1 d2 d3 d4 d5 d6 d7 d8 : FuncData}
theorem scLaw : FnScope ["_law_script", "_law_ties", "_law_world_here", "_law_third_here", "_law_r", "_law_one", "_law_s", "_law_k", "_law_cell_here", "_law_t", "_law_made_here"] ["_law_script"] (defScope sLaw) := ⟨rfl, rfl, rfl, by decide +kernel, rfl, by decide +kernel, by decide +kernel⟩
theorem ok_law (F : Fun K "law" "law" sLaw f fd) (mr : mg "range" = none)
    (Gc : FnOk P w K mg base CX0 1 a1 d1 ["_law_script", "_law_k"] (spCell K)) (bGc : Binds K d1 ["_law_script", "_law_k"] []) (kGc : PySem.W.keepIn K (.ref a1) = true) (mGc : mg "_law_cell" = some (.ref a1))
    (Gn : FnOk P w K mg base CX0 1 a2 d2 ["_law_cell_here", "_law_many"] spNames) (bGn : Binds K d2 ["_law_cell_here", "_law_many"] []) (kGn : PySem.W.keepIn K (.ref a2) = true) (mGn : mg "_law_names" = some (.ref a2))
    (Gx : FnOk P w K mg base CX0 1 a3 d3 ["_law_cell_here", "_law_k"] spNext) (bGx : Binds K d3 ["_law_cell_here", "_law_k"] []) (kGx : PySem.W.keepIn K (.ref a3) = true) (mGx : mg "_law_next" = some (.ref a3))
    (Gm : FnOk P w K mg base CX0 1 a4 d4 ["_law_first", "_law_second"] spMade) (bGm : Binds K d4 ["_law_first", "_law_second"] []) (kGm : PySem.W.keepIn K (.ref a4) = true) (mGm : mg "_law_made" = some (.ref a4))
    (Gi : FnOk P w K mg base CX0 1 a5 d5 ["_law_some", "_law_others"] spWithin) (bGi : Binds K d5 ["_law_some", "_law_others"] []) (kGi : PySem.W.keepIn K (.ref a5) = true) (mGi : mg "_law_within" = some (.ref a5))
    (Gw : FnOk P w K mg base CX0 2 a6 d6 ["_law_cell_here", "_law_names_here", "_law_ties", "_law_things"] spWorld) (bGw : Binds K d6 ["_law_cell_here", "_law_names_here", "_law_ties", "_law_things"] []) (kGw : PySem.W.keepIn K (.ref a6) = true) (mGw : mg "_law_world" = some (.ref a6))
    (Gri : FnOk P w K mg base CX0 4 a7 d7 ["_law_world_here", "_law_saying", "_law_due"] spRight) (bGri : Binds K d7 ["_law_world_here", "_law_saying", "_law_due"] []) (kGri : PySem.W.keepIn K (.ref a7) = true) (mGri : mg "_law_right" = some (.ref a7))
    (G3 : FnOk P w K mg base CX0 2 a8 d8 ["_law_world_here", "_law_ties", "_law_cell_here"] sp3) (bG3 : Binds K d8 ["_law_world_here", "_law_ties", "_law_cell_here"] []) (kG3 : PySem.W.keepIn K (.ref a8) = true) (mG3 : mg "_law_third" = some (.ref a8)) :
    FnOk P w K mg base CX0 5 f fd ["_law_script"] (spLaw K) := by
  refine F.ok scLaw (fun vs H Q E h => ?_) (fun cdv A outer s H vs Q E hr h => ?_)
  · obtain ⟨a, ns, rfl, _⟩ := h; rfl
  obtain ⟨a, ns, rfl, hS, h63, q⟩ := h
  have hrc := hr.mono (show 1 ≤ 4 by decide)
  have hrn := hrc
  have hrx := hrc
  have hrm := hrc
  have hri := hrc
  have hrw := hr.mono (show 2 ≤ 4 by decide)
  have hr3 := hrw
  have hrri := hr
  have hu : (A.deeper (PyProof.Rows.envOfC "law" (defScope sLaw) s.heap.objs.size f cdv)).units + 1 < cLine := by have := hr.un; omega
  refine ⟨_, @pss_cons _ _ _ _ _ (by exact ps_set (i := 1) scLaw.nd rfl (Or.inl rfl) (pe_call Gn hrn rfl mGn kGn bGn .nil pass0 (pa_cons (pe_call Gc hrc rfl mGc kGc bGc .nil pass0 (pa_cons (pv 0) (pa_cons pe_int pa_nil))) (pa_cons pe_int pa_nil))))
    (@pss_cons _ _ _ _ _ (by exact ps_set (i := 2) scLaw.nd rfl (Or.inl rfl) (pe_call Gw hrw rfl mGw kGw bGw .nil pass0 (pa_cons (pe_op op_mod (pe_call Gc hrc rfl mGc kGc bGc .nil pass0 (pa_cons (pv 0) (pa_cons pe_int pa_nil))) (pe_op op_pow pe_int pe_int)) (pa_cons (pe_lst pa_nil) (pa_cons (pe_slice sl_list (pv 1) po_none (po_some pe_int)) (pa_cons (pe_lst pa_nil) pa_nil))))))
    (@pss_cons _ _ _ _ _ (by exact ps_set (i := 3) scLaw.nd rfl (Or.inl rfl) (pe_call G3 hr3 rfl mG3 kG3 bG3 .nil pass0 (pa_cons (pv 2) (pa_cons (pv 1) (pa_cons (pe_call Gc hrc rfl mGc kGc bGc .nil pass0 (pa_cons (pv 0) (pa_cons pe_int pa_nil))) pa_nil)))))
    (@pss_cons _ _ _ _ _ (by exact ps_dput hu (pe_ix ix_tup (pv 2) pe_int (fun _ _ => rfl)) (pe_ix ix_list (pv 1) pe_int (fun _ _ => rfl)) (pv 3) rfl)
    (@pss_cons _ _ _ _ _ (by exact ps_for PassesOwn.never rfl (pi_list (pv 1)) (pg_name (i := 4) scLaw.nd rfl (Or.inl rfl)) (@pss_cons _ _ _ _ _ (by exact ps_set (i := 5) scLaw.nd rfl (Or.inl rfl) (pe_dget2 hu (pe_ix ix_tup (pv 2) pe_int (fun _ _ => rfl)) (pv 4) (pe_lst pa_nil) ⟨rfl, rfl, rfl, rfl⟩)) (@pss_one _ _ _ (by exact ps_for PassesOwn.never rfl (pi_list (pv 1)) (pg_name (i := 6) scLaw.nd rfl (Or.inl rfl)) (@pss_one _ _ _ (by exact ps_if (pt_not (pt_val (pe_call Gri hrri rfl mGri kGri bGri .nil pass0 (@pa_consN _ _ _ _ _ (pv 2) (@pa_consN _ _ _ _ _ (@pe_tup _ _ _ _ _ (pa_cons pe_str (pa_cons (pv 4) (pa_cons (pv 6) pa_nil)))) (@pa_consN _ _ _ _ _ (pe_call Gi hri rfl mGi kGi bGi .nil pass0 (pa_cons (pv 5) (pa_cons (pe_dget2 hu (pe_ix ix_tup (pv 2) pe_int (fun _ _ => rfl)) (pv 6) (pe_lst pa_nil) ⟨rfl, rfl, rfl, rfl⟩) pa_nil))) pa_nil rfl) rfl) rfl)))) (@pss_one _ _ _ (by exact @ps_ret _ _ _ _ pe_bl)) pss_nil))))))
    (@pss_cons _ _ _ _ _ (by exact ps_for PassesOwn.never rfl (pi_range1 rfl mr (pa_cons pe_int pa_nil)) (pg_name (i := 7) scLaw.nd rfl (Or.inl rfl)) (@pss_cons _ _ _ _ _ (by exact ps_set (i := 8) scLaw.nd rfl (Or.inl rfl) (pe_op op_add (pe_op op_fdiv (pe_call Gx hrx rfl mGx kGx bGx .nil pass0 (pa_cons (pe_call Gc hrc rfl mGc kGc bGc .nil pass0 (pa_cons (pv 0) (pa_cons pe_int pa_nil))) (pa_cons (pe_op op_mod (pv 7) pe_int) pa_nil))) pe_int) (pv 7))) (@pss_cons _ _ _ _ _ (by exact ps_set (i := 4) scLaw.nd rfl (Or.inl rfl) (pe_ix ix_list (pv 1) (pe_op op_fdiv (pv 7) pe_int) (fun _ _ => rfl))) (@pss_cons _ _ _ _ _ (by exact ps_set (i := 6) scLaw.nd rfl (Or.inl rfl) (pe_ix ix_list (pv 1) (pe_op op_mod (pv 7) pe_int) (fun _ _ => rfl))) (@pss_cons _ _ _ _ _ (by exact ps_set (i := 9) scLaw.nd rfl (Or.inl rfl) (pe_ix ix_list (pv 1) (pe_op op_mod (pv 8) pe_int) (fun _ _ => rfl))) (@pss_cons _ _ _ _ _ (by exact ps_set (i := 10) scLaw.nd rfl (Or.inl rfl) (pe_call Gm hrm rfl mGm kGm bGm .nil pass0 (pa_cons (pe_dget2 hu (pe_ix ix_tup (pv 2) pe_int (fun _ _ => rfl)) (pv 4) (pe_lst pa_nil) ⟨rfl, rfl, rfl, rfl⟩) (pa_cons (pe_dget2 hu (pe_ix ix_tup (pv 2) pe_int (fun _ _ => rfl)) (pv 6) (pe_lst pa_nil) ⟨rfl, rfl, rfl, rfl⟩) pa_nil)))) (@pss_one _ _ _ (by exact ps_if (pt_not (pt_val (pe_call Gri hrri rfl mGri kGri bGri .nil pass0 (@pa_consN _ _ _ _ _ (pv 2) (@pa_consN _ _ _ _ _ (@pe_tup _ _ _ _ _ (pa_cons pe_str (pa_cons (pv 4) (pa_cons (pv 6) (pa_cons (pv 9) pa_nil))))) (@pa_consN _ _ _ _ _ (pe_call Gi hri rfl mGi kGi bGi .nil pass0 (pa_cons (pv 10) (pa_cons (pe_dget2 hu (pe_ix ix_tup (pv 2) pe_int (fun _ _ => rfl)) (pv 9) (pe_lst pa_nil) ⟨rfl, rfl, rfl, rfl⟩) pa_nil))) pa_nil rfl) rfl) rfl)))) (@pss_one _ _ _ (by exact @ps_ret _ _ _ _ pe_bl)) pss_nil))))))))
    (@pss_cons _ _ _ _ _ (by exact ps_set (i := 10) scLaw.nd rfl (Or.inl rfl) (pe_call Gm hrm rfl mGm kGm bGm .nil pass0 (pa_cons (pe_dget2 hu (pe_ix ix_tup (pv 2) pe_int (fun _ _ => rfl)) (pe_ix ix_list (pv 1) pe_int (fun _ _ => rfl)) (pe_lst pa_nil) ⟨rfl, rfl, rfl, rfl⟩) (pa_cons (pe_dget2 hu (pe_ix ix_tup (pv 2) pe_int (fun _ _ => rfl)) (pe_ix ix_list (pv 1) pe_int (fun _ _ => rfl)) (pe_lst pa_nil) ⟨rfl, rfl, rfl, rfl⟩) pa_nil))))
    (@pss_one _ _ _ (by exact @ps_ret _ _ _ _ (pe_call Gri hrri rfl mGri kGri bGri .nil pass0 (@pa_consN _ _ _ _ _ (pv 2) (@pa_consN _ _ _ _ _ (@pe_tup _ _ _ _ _ (pa_cons pe_str (pa_cons (pe_ix ix_list (pv 1) pe_int (fun _ _ => rfl)) (pa_cons (pe_ix ix_list (pv 1) pe_int (fun _ _ => rfl)) (pa_cons (pe_ix ix_list (pv 1) pe_int (fun _ _ => rfl)) pa_nil))))) (@pa_consN _ _ _ _ _ (pe_call Gi hri rfl mGi kGi bGi .nil pass0 (pa_cons (pv 10) (pa_cons (pv 3) pa_nil))) pa_nil rfl) rfl) rfl)))))))))), ?_⟩
  have p30 : (0 : Int) < 10 ^ (30 : Int).toNat := by decide
  refine ⟨_, rfl, a, ns, 0, rfl, hS, by decide, fun r0 => ⟨r0, 4, rfl, by decide, by decide, fun pt H1 ts s1 _ et1 lt1 _ => ?_⟩⟩
  have lt4 : ts.length = 4 := by omega
  obtain ⟨tc, etc, ltc⟩ := cut_strs ts none (some 3)
  refine ⟨_, rfl, a, ns, 1, rfl, s1.seq hS, by decide, fun r1 => ⟨_, _, rfl, rfl, ⟨by decide, by decide, by decide⟩, _, _, rfl, rfl, p30, Nat.zero_le _, fun l1 hl1 => ?_⟩⟩
  have t1 := same_new hl1 (.lst [])
  refine ⟨_, rfl, 3, rfl, pt, _, rfl, SqL.of (t1 _ _ et1), fun pc hpc => ?_⟩
  rw [etc]
  have t2 := same_new hpc (.lst (tc.map V.str))
  refine ⟨Nat.zero_le _, fun l2 hl2 => ?_⟩
  have t3 := same_new hl2 (.lst [])
  have t13 := (t1.trans t2).trans t3
  refine ⟨_, l1, pc, l2, [], tc, [], rfl, Int.emod_nonneg _ (by omega), t3 _ _ (t2 _ _ upd_same), t3 _ _ upd_same, upd_same, by decide, by omega, by decide, fun v H2 W s2 hW ok lens ap => ?_⟩
  obtain ⟨p, dk, dp, dh, rfl, wo⟩ := Wo.of hW ap
  have s12 := t13.trans s2
  have s02 := s1.trans s12
  have et2 := s12 _ _ et1
  have l400 : ∀ r, (pairsAt W r).length ≤ 400 := fun r => by
    unfold pairsAt
    cases hl : look W.pairs r with
    | none => exact Nat.zero_le _
    | some qs => exact lens.2.2.2 r qs (mem_look hl)
  refine ⟨_, rfl, _, rfl, _, rfl, a, ns, 2, rfl, s02.seq hS, by decide, fun r2 => ⟨.ref p, pt, r2, W, ts, rfl, hW, ok, l400, et2, by omega, fun p3 H3 x3 q3 s3 e3 pl3 in3 l3 => ?_⟩⟩
  have s03 := s02.trans s3
  have et3 := s3 _ _ et2
  have wo3 := wo.mono s3
  have atT : ∀ j : Nat, j < 4 → ∃ z : Str, atI (ts.map V.str) (j : Int) = some (.str z) := fun j hj => ⟨ts[j]'(by omega), atI_nat (by rw [List.getElem?_map, List.getElem?_eq_getElem (by omega)]; rfl)⟩
  obtain ⟨y0, g0⟩ := atT 0 (by decide)
  obtain ⟨y1, g1⟩ := atT 1 (by decide)
  obtain ⟨y2, g2⟩ := atT 2 (by decide)
  obtain ⟨lp, hp, gp⟩ := wo3.ep
  have llp : lp.length ≤ 8 := by rw [gp.len, Wd.pairsK, List.length_map]; exact lens.2.1
  refine ⟨_, rfl, _, rfl, p, _, 2, _, rfl, rfl, SqT.of wo3.h0, atI_nat (j := 2) rfl, _, rfl, pt, _, 2, _, rfl, rfl, SqL.of et3, g2, dp, _, rfl, DPut.k (k := Sum.inr y2) hp (small1000 (by omega)), ?_⟩
  have kk := keep_put (l' := putK lp (Sum.inr y2) (.ref p3)) hp
  have wo4 := wo3.putP (x := y2) (qs := q3) hp ⟨p3, x3, rfl, e3, pl_das pl3⟩
  have ok4 : WdOk { W with pairs := putS W.pairs y2 q3 } := ok.putP lens.2.1 ⟨l3, in3⟩
  have pa2 : pairsAt { W with pairs := putS W.pairs y2 q3 } y2 = q3 := by
    unfold pairsAt
    show (look (putS W.pairs y2 q3) y2).getD [] = q3
    rw [look_put ok.nd.p]
    rfl
  have et4 := kk.lst et3
  have e34 := kk.lst e3
  have pl34 := PL.mono kk.tups pl3
  generalize ({ W with pairs := putS W.pairs y2 q3 } : Wd) = W' at wo4 ok4 pa2
  have hS4 : SqL K (upd H3 dp (.dK (putK lp (Sum.inr y2) (.ref p3)))) a (ns.map V.int) := kk.seq (s03.seq hS)
  generalize upd H3 dp (.dK (putK lp (Sum.inr y2) (.ref p3))) = H4 at wo4 et4 e34 pl34 hS4 ⊢
  obtain ⟨lp4, hp4, gp4⟩ := wo4.ep
  have sm : ∀ r, Small (pairsAt W' r) := fun r => pairsAt_small ok4 r
  -- the first loop
  refine ⟨_, rfl, pt, rfl, ⟨_, SqL.of et4⟩, for_list (xs := ts.map V.str) (fun i σ H' => (∃ o4 o5 o6 : Option V, σ = [some (.ref a), some (.ref pt), some (.ref p), some (.ref p3), o4, o5, o6, none, none, none, none]) ∧ Same H4 H') ⟨⟨_, _, _, rfl⟩, Same.refl _⟩ (fun i σ H' _ h => SqL.of (h.2 _ _ et4)) ?_ ?_⟩
  · rintro i x σ H' hx ⟨⟨o4, o5, o6, rfl⟩, s'⟩
    rw [List.getElem?_map] at hx
    obtain ⟨r, _, rfl⟩ := Option.map_eq_some_iff.mp hx
    refine ⟨_, rfl, p, _, 2, _, rfl, rfl, SqT.of (s' _ _ wo4.h0), atI_nat (j := 2) rfl, dp, rfl, .inl ⟨lp4, .inl (s' _ _ hp4)⟩, _, rfl, Nat.zero_le _, fun lo hlo => ?_⟩
    have so := same_new hlo (.lst [])
    have s5 := s'.trans so
    refine ⟨_, DGet.k (k := Sum.inr r) (s5 _ _ hp4), ?_⟩
    obtain ⟨ar, xr, egr, ear, plr⟩ := getP (x := r) (gp4.mono s') ok4.nd hlo
    rw [egr]
    generalize upd H' lo (.lst []) = H5 at so s5 ear plr ⊢
    refine ⟨_, rfl, pt, rfl, ⟨_, SqL.of (s5 _ _ et4)⟩, for_list (xs := ts.map V.str) (fun i σ H' => (∃ o6 : Option V, σ = [some (.ref a), some (.ref pt), some (.ref p), some (.ref p3), some (.str r), some (.ref ar), o6, none, none, none, none]) ∧ Same H5 H') ⟨⟨_, rfl⟩, Same.refl _⟩ (fun i σ H' _ h => SqL.of (h.2 _ _ (s5 _ _ et4))) ?_ ?_⟩
    · rintro i' x' σ H6 hx' ⟨⟨o6, rfl⟩, s6⟩
      rw [List.getElem?_map] at hx'
      obtain ⟨u, _, rfl⟩ := Option.map_eq_some_iff.mp hx'
      have s46 := s5.trans s6
      refine ⟨_, rfl, _, rfl, _, rfl, small2 (by show 3 ≤ 1000; decide), fun t ht => ?_⟩
      have st := same_new ht (.tup [.str "within", .str r, .str u])
      have s47 := s46.trans st
      refine ⟨_, rfl, _, rfl, p, _, 2, _, rfl, rfl, SqT.of (s47 _ _ wo4.h0), atI_nat (j := 2) rfl, dp, rfl, .inl ⟨lp4, .inl (s47 _ _ hp4)⟩, _, rfl, Nat.zero_le _, fun l2 hl2 => ?_⟩
      have so2 := same_new hl2 (.lst [])
      have s48 := s47.trans so2
      refine ⟨_, DGet.k (k := Sum.inr u) (s48 _ _ hp4), ?_⟩
      obtain ⟨au, xu, egu, eau, plu⟩ := getP (x := u) (gp4.mono s47) ok4.nd hl2
      rw [egu]
      have et8 := so2 _ _ (upd_same (H := H6) (a := t) (o := .tup [.str "within", .str r, .str u]))
      have s58 := (s6.trans st).trans so2
      generalize upd (upd H6 t (.tup [.str "within", .str r, .str u])) l2 (.lst []) = H8 at s48 s58 eau plu et8 ⊢
      refine ⟨ar, au, xr, xu, _, _, rfl, s58 _ _ ear, eau, PL.mono s58.tups plr, plu, ?_⟩
      exact ⟨.ref p, .ref t, W', .wi r u, _, rfl, (wo4.mono s48).isW, ok4, ⟨t, rfl, et8⟩, keptB_wi, fun H9 s9 => ⟨_, rfl, iteF ⟨⟨_, rfl⟩, s58.trans s9⟩⟩⟩
    · rintro σ H6 ⟨⟨o6, rfl⟩, s6⟩
      exact ⟨⟨_, _, _, rfl⟩, s5.trans s6⟩
  rintro σ H5 ⟨⟨o4, o5, o6, rfl⟩, s5⟩
  -- the second loop
  have atK : ∀ n : Int, 0 ≤ n → n < 4 → ∃ z : Str, atI (ts.map V.str) n = some (.str z) := fun n n0 n4 => by
    obtain ⟨z, hz⟩ := atT n.toNat (by omega)
    rw [show ((n.toNat : Nat) : Int) = n by omega] at hz
    exact ⟨z, hz⟩
  refine ⟨16, rfl, by decide, by decide, for_range (fun i σ H' => (∃ o4 o5 o6 o7 o8 o9 o10 : Option V, σ = [some (.ref a), some (.ref pt), some (.ref p), some (.ref p3), o4, o5, o6, o7, o8, o9, o10]) ∧ Same H4 H') ⟨⟨_, _, _, _, _, _, _, rfl⟩, s5⟩ ?_ ?_⟩
  · rintro i σ H6 hi ⟨⟨o4, o5, o6, o7, o8, o9, o10, rfl⟩, s6⟩
    have hi' : i < 16 := hi
    have m0 := Int.emod_nonneg (0 + (i : Int)) (show (3 : Int) ≠ 0 by decide)
    have m1 := Int.emod_lt_of_pos (0 + (i : Int)) (show (0 : Int) < 3 by decide)
    refine ⟨_, rfl, a, ns, 3, rfl, s6.seq hS4, by decide, fun r3 => ⟨_, rfl, _, _, rfl, rfl, (show (0 : Int) < 3 by decide), r3, _, rfl, m0, by omega, fun rr hrr => ⟨_, _, rfl, rfl, ⟨by decide, by decide⟩, _, rfl, _, _, rfl, rfl, ?_⟩⟩⟩
    obtain ⟨r, er⟩ := atK ((0 + (i : Int)) / 4) (by omega) (by omega)
    obtain ⟨u, eu⟩ := atK ((0 + (i : Int)) % 4) (by omega) (by omega)
    obtain ⟨y, ey⟩ := atK ((rr / 16 + (0 + (i : Int))) % 4) (Int.emod_nonneg _ (by decide)) (Int.emod_lt_of_pos _ (by decide))
    refine ⟨_, rfl, _, rfl, _, _, rfl, rfl, ⟨by decide, by decide⟩, pt, _, _, _, rfl, rfl, SqL.of (s6 _ _ et4), er, ?_⟩
    refine ⟨_, rfl, _, rfl, _, _, rfl, rfl, (show (0 : Int) < 4 by decide), pt, _, _, _, rfl, rfl, SqL.of (s6 _ _ et4), eu, ?_⟩
    refine ⟨_, rfl, _, rfl, _, _, rfl, rfl, (show (0 : Int) < 4 by decide), pt, _, _, _, rfl, rfl, SqL.of (s6 _ _ et4), ey, ?_⟩
    -- what the two make
    refine ⟨_, rfl, p, _, 2, _, rfl, rfl, SqT.of (s6 _ _ wo4.h0), atI_nat (j := 2) rfl, dp, rfl, .inl ⟨lp4, .inl (s6 _ _ hp4)⟩, _, rfl, Nat.zero_le _, fun l1 hl1 => ?_⟩
    have so1 := same_new hl1 (.lst [])
    have s7 := s6.trans so1
    refine ⟨_, DGet.k (k := Sum.inr r) (s7 _ _ hp4), ?_⟩
    obtain ⟨ar, xr, egr, ear, plr⟩ := getP (x := r) (gp4.mono s6) ok4.nd hl1
    rw [egr]
    generalize upd H6 l1 (.lst []) = H7 at so1 s7 ear plr ⊢
    refine ⟨_, rfl, p, _, 2, _, rfl, rfl, SqT.of (s7 _ _ wo4.h0), atI_nat (j := 2) rfl, dp, rfl, .inl ⟨lp4, .inl (s7 _ _ hp4)⟩, _, rfl, Nat.zero_le _, fun l2 hl2 => ?_⟩
    have so2 := same_new hl2 (.lst [])
    have s8 := s7.trans so2
    refine ⟨_, DGet.k (k := Sum.inr u) (s8 _ _ hp4), ?_⟩
    obtain ⟨au, xu, egu, eau, plu⟩ := getP (x := u) (gp4.mono s7) ok4.nd hl2
    rw [egu]
    have ear' := so2 _ _ ear
    have plr' := PL.mono so2.tups plr
    generalize upd H7 l2 (.lst []) = H8 at so2 s8 ear' plr' eau plu ⊢
    refine ⟨ar, au, xr, xu, _, _, rfl, ear', eau, plr', plu, sm r, sm u, fun pm Hm zm ms sM _ em plm hm lm => ?_⟩
    have s8m := s8.trans sM
    refine ⟨_, rfl, _, rfl, _, rfl, _, rfl, small2 (by show 4 ≤ 1000; decide), fun t ht => ?_⟩
    have st := same_new ht (.tup [.str "makes", .str r, .str u, .str y])
    have s9 := s8m.trans st
    refine ⟨_, rfl, _, rfl, p, _, 2, _, rfl, rfl, SqT.of (s9 _ _ wo4.h0), atI_nat (j := 2) rfl, dp, rfl, .inl ⟨lp4, .inl (s9 _ _ hp4)⟩, _, rfl, Nat.zero_le _, fun l3 hl3 => ?_⟩
    have so3 := same_new hl3 (.lst [])
    have s10 := s9.trans so3
    refine ⟨_, DGet.k (k := Sum.inr y) (s10 _ _ hp4), ?_⟩
    obtain ⟨ay, xy, egy, eay, ply⟩ := getP (x := y) (gp4.mono s9) ok4.nd hl3
    rw [egy]
    have et10 := so3 _ _ (upd_same (H := Hm) (a := t) (o := .tup [.str "makes", .str r, .str u, .str y]))
    have sm10 := st.trans so3
    generalize upd (upd Hm t (.tup [.str "makes", .str r, .str u, .str y])) l3 (.lst []) = H10 at s10 sm10 eay ply et10 ⊢
    refine ⟨pm, ay, zm, xy, _, _, rfl, sm10 _ _ em, eay, PL.mono sm10.tups plm, ply, ?_⟩
    exact ⟨.ref p, .ref t, W', .mk r u y, _, rfl, (wo4.mono s10).isW, ok4, ⟨t, rfl, et10⟩, keptB_mk hm, fun H11 s11 => ⟨_, rfl, iteF ⟨⟨_, _, _, _, _, _, _, rfl⟩, s10.trans s11⟩⟩⟩
  rintro σ H6 ⟨⟨o4, o5, o6, o7, o8, o9, o10, rfl⟩, s6⟩
  -- the last
  refine ⟨_, rfl, p, _, 2, _, rfl, rfl, SqT.of (s6 _ _ wo4.h0), atI_nat (j := 2) rfl, dp, rfl, .inl ⟨lp4, .inl (s6 _ _ hp4)⟩, _, rfl, pt, _, 0, _, rfl, rfl, SqL.of (s6 _ _ et4), g0, Nat.zero_le _, fun l1 hl1 => ?_⟩
  have so1 := same_new hl1 (.lst [])
  have s7 := s6.trans so1
  refine ⟨_, DGet.k (k := Sum.inr y0) (s7 _ _ hp4), ?_⟩
  obtain ⟨ar, xr, egr, ear, plr⟩ := getP (x := y0) (gp4.mono s6) ok4.nd hl1
  rw [egr]
  generalize upd H6 l1 (.lst []) = H7 at so1 s7 ear plr ⊢
  refine ⟨_, rfl, p, _, 2, _, rfl, rfl, SqT.of (s7 _ _ wo4.h0), atI_nat (j := 2) rfl, dp, rfl, .inl ⟨lp4, .inl (s7 _ _ hp4)⟩, _, rfl, pt, _, 1, _, rfl, rfl, SqL.of (s7 _ _ et4), g1, Nat.zero_le _, fun l2 hl2 => ?_⟩
  have so2 := same_new hl2 (.lst [])
  have s8 := s7.trans so2
  refine ⟨_, DGet.k (k := Sum.inr y1) (s8 _ _ hp4), ?_⟩
  obtain ⟨au, xu, egu, eau, plu⟩ := getP (x := y1) (gp4.mono s7) ok4.nd hl2
  rw [egu]
  have ear' := so2 _ _ ear
  have plr' := PL.mono so2.tups plr
  generalize upd H7 l2 (.lst []) = H8 at so2 s8 ear' plr' eau plu ⊢
  refine ⟨ar, au, xr, xu, _, _, rfl, ear', eau, plr', plu, sm y0, sm y1, fun pm Hm zm ms sM _ em plm hm lm => ?_⟩
  have s8m := s8.trans sM
  refine ⟨_, rfl, _, rfl, pt, _, 0, _, rfl, rfl, SqL.of (s8m _ _ et4), g0, _, rfl, pt, _, 1, _, rfl, rfl, SqL.of (s8m _ _ et4), g1, _, rfl, pt, _, 2, _, rfl, rfl, SqL.of (s8m _ _ et4), g2, small2 (by show 4 ≤ 1000; decide), fun t ht => ?_⟩
  have st := same_new ht (.tup [.str "makes", .str y0, .str y1, .str y2])
  have s9 := s8m.trans st
  refine ⟨_, rfl, _, rfl, pm, p3, zm, x3, _, _, rfl, st _ _ em, s9 _ _ e34, PL.mono st.tups plm, PL.mono s9.tups pl34, ?_⟩
  have hk := keptB_mk (t := y2) hm
  rw [pa2] at hk
  exact ⟨.ref p, .ref t, W', .mk y0 y1 y2, _, rfl, (wo4.mono s9).isW, ok4, ⟨t, rfl, upd_same⟩, hk, fun H11 _ => q H11⟩
end
end K07
set_option Elab.async false
set_option linter.all false
set_option maxRecDepth 100000
set_option maxHeartbeats 4000000
namespace K07
open PySem L2
/-! ### the program's top -/
theorem all_mk {l : PySem.W.OpenLaw} {w : World} {K : PySem.W.Frag} {h : Heap} {mg : Str → Option Value} {fa : Addr} (X : K.In h) (G : h.Ns mainGlobals mg) (hfa : mg "law" = some (.ref fa))
    {f1 : Addr} {od1 an1 : Option Addr} {sl1 : Array (Option Value)} {oc1 kV1 dc1 pm1 cd1 ct1 : Value}
    {f2 : Addr} {od2 an2 : Option Addr} {sl2 : Array (Option Value)} {oc2 kV2 dc2 pm2 cd2 ct2 : Value}
    {f3 : Addr} {od3 an3 : Option Addr} {sl3 : Array (Option Value)} {oc3 kV3 dc3 pm3 cd3 ct3 : Value}
    {f4 : Addr} {od4 an4 : Option Addr} {sl4 : Array (Option Value)} {oc4 kV4 dc4 pm4 cd4 ct4 : Value}
    {f5 : Addr} {od5 an5 : Option Addr} {sl5 : Array (Option Value)} {oc5 kV5 dc5 pm5 cd5 ct5 : Value}
    {f6 : Addr} {od6 an6 : Option Addr} {sl6 : Array (Option Value)} {oc6 kV6 dc6 pm6 cd6 ct6 : Value}
    {f7 : Addr} {od7 an7 : Option Addr} {sl7 : Array (Option Value)} {oc7 kV7 dc7 pm7 cd7 ct7 : Value}
    {f8 : Addr} {od8 an8 : Option Addr} {sl8 : Array (Option Value)} {oc8 kV8 dc8 pm8 cd8 ct8 : Value}
    {f9 : Addr} {od9 an9 : Option Addr} {sl9 : Array (Option Value)} {oc9 kV9 dc9 pm9 cd9 ct9 : Value}
    {f10 : Addr} {od10 an10 : Option Addr} {sl10 : Array (Option Value)} {oc10 kV10 dc10 pm10 cd10 ct10 : Value}
    {f11 : Addr} {od11 an11 : Option Addr} {sl11 : Array (Option Value)} {oc11 kV11 dc11 pm11 cd11 ct11 : Value}
    {f12 : Addr} {od12 an12 : Option Addr} {sl12 : Array (Option Value)} {oc12 kV12 dc12 pm12 cd12 ct12 : Value}
    {f13 : Addr} {od13 an13 : Option Addr} {sl13 : Array (Option Value)} {oc13 kV13 dc13 pm13 cd13 ct13 : Value}
    {f14 : Addr} {od14 an14 : Option Addr} {sl14 : Array (Option Value)} {oc14 kV14 dc14 pm14 cd14 ct14 : Value}
    {f15 : Addr} {od15 an15 : Option Addr} {sl15 : Array (Option Value)} {oc15 kV15 dc15 pm15 cd15 ct15 : Value}
    (a1 : PySem.W.nsIn K mainGlobals "tie_pairs" = some (some (.ref f1))) (l1 : K.lookup f1 = some ⟨oc1, od1, .func (PySem.W.fnOf "tie_pairs" "tie_pairs" (defArgs sTie) (defBody sTie) (defScope sTie) .none kV1 dc1 pm1 an1 cd1 ct1), sl1⟩) (c1 : PySem.W.codeIn K cd1 "tie_pairs" = true) (k1 : PySem.W.keepIn K (.ref f1) = true)
    (a2 : PySem.W.nsIn K mainGlobals "keeps_within" = some (some (.ref f2))) (l2 : K.lookup f2 = some ⟨oc2, od2, .func (PySem.W.fnOf "keeps_within" "keeps_within" (defArgs sWithin0) (defBody sWithin0) (defScope sWithin0) .none kV2 dc2 pm2 an2 cd2 ct2), sl2⟩) (c2 : PySem.W.codeIn K cd2 "keeps_within" = true) (k2 : PySem.W.keepIn K (.ref f2) = true)
    (a3 : PySem.W.nsIn K mainGlobals "ends_by_start" = some (some (.ref f3))) (l3 : K.lookup f3 = some ⟨oc3, od3, .func (PySem.W.fnOf "ends_by_start" "ends_by_start" (defArgs sEnds) (defBody sEnds) (defScope sEnds) .none kV3 dc3 pm3 an3 cd3 ct3), sl3⟩) (c3 : PySem.W.codeIn K cd3 "ends_by_start" = true) (k3 : PySem.W.keepIn K (.ref f3) = true)
    (a4 : PySem.W.nsIn K mainGlobals "keeps_makes" = some (some (.ref f4))) (l4 : K.lookup f4 = some ⟨oc4, od4, .func (PySem.W.fnOf "keeps_makes" "keeps_makes" (defArgs sMakes) (defBody sMakes) (defScope sMakes) .none kV4 dc4 pm4 an4 cd4 ct4), sl4⟩) (c4 : PySem.W.codeIn K cd4 "keeps_makes" = true) (k4 : PySem.W.keepIn K (.ref f4) = true)
    (a5 : PySem.W.nsIn K mainGlobals "keeps" = some (some (.ref f5))) (l5 : K.lookup f5 = some ⟨oc5, od5, .func (PySem.W.fnOf "keeps" "keeps" (defArgs sKeeps) (defBody sKeeps) (defScope sKeeps) .none kV5 dc5 pm5 an5 cd5 ct5), sl5⟩) (c5 : PySem.W.codeIn K cd5 "keeps" = true) (k5 : PySem.W.keepIn K (.ref f5) = true)
    (a6 : PySem.W.nsIn K mainGlobals "_law_cell" = some (some (.ref f6))) (l6 : K.lookup f6 = some ⟨oc6, od6, .func (PySem.W.fnOf "_law_cell" "_law_cell" (defArgs sCell) (defBody sCell) (defScope sCell) .none kV6 dc6 pm6 an6 cd6 ct6), sl6⟩) (c6 : PySem.W.codeIn K cd6 "_law_cell" = true) (k6 : PySem.W.keepIn K (.ref f6) = true)
    (a7 : PySem.W.nsIn K mainGlobals "_law_next" = some (some (.ref f7))) (l7 : K.lookup f7 = some ⟨oc7, od7, .func (PySem.W.fnOf "_law_next" "_law_next" (defArgs sNext) (defBody sNext) (defScope sNext) .none kV7 dc7 pm7 an7 cd7 ct7), sl7⟩) (c7 : PySem.W.codeIn K cd7 "_law_next" = true) (k7 : PySem.W.keepIn K (.ref f7) = true)
    (a8 : PySem.W.nsIn K mainGlobals "_law_names" = some (some (.ref f8))) (l8 : K.lookup f8 = some ⟨oc8, od8, .func (PySem.W.fnOf "_law_names" "_law_names" (defArgs sNames) (defBody sNames) (defScope sNames) .none kV8 dc8 pm8 an8 cd8 ct8), sl8⟩) (c8 : PySem.W.codeIn K cd8 "_law_names" = true) (k8 : PySem.W.keepIn K (.ref f8) = true)
    (a9 : PySem.W.nsIn K mainGlobals "_law_world" = some (some (.ref f9))) (l9 : K.lookup f9 = some ⟨oc9, od9, .func (PySem.W.fnOf "_law_world" "_law_world" (defArgs sWorld) (defBody sWorld) (defScope sWorld) .none kV9 dc9 pm9 an9 cd9 ct9), sl9⟩) (c9 : PySem.W.codeIn K cd9 "_law_world" = true) (k9 : PySem.W.keepIn K (.ref f9) = true)
    (a10 : PySem.W.nsIn K mainGlobals "_law_copy" = some (some (.ref f10))) (l10 : K.lookup f10 = some ⟨oc10, od10, .func (PySem.W.fnOf "_law_copy" "_law_copy" (defArgs sCopy) (defBody sCopy) (defScope sCopy) .none kV10 dc10 pm10 an10 cd10 ct10), sl10⟩) (c10 : PySem.W.codeIn K cd10 "_law_copy" = true) (k10 : PySem.W.keepIn K (.ref f10) = true)
    (a11 : PySem.W.nsIn K mainGlobals "_law_made" = some (some (.ref f11))) (l11 : K.lookup f11 = some ⟨oc11, od11, .func (PySem.W.fnOf "_law_made" "_law_made" (defArgs sMade) (defBody sMade) (defScope sMade) .none kV11 dc11 pm11 an11 cd11 ct11), sl11⟩) (c11 : PySem.W.codeIn K cd11 "_law_made" = true) (k11 : PySem.W.keepIn K (.ref f11) = true)
    (a12 : PySem.W.nsIn K mainGlobals "_law_within" = some (some (.ref f12))) (l12 : K.lookup f12 = some ⟨oc12, od12, .func (PySem.W.fnOf "_law_within" "_law_within" (defArgs sWithin) (defBody sWithin) (defScope sWithin) .none kV12 dc12 pm12 an12 cd12 ct12), sl12⟩) (c12 : PySem.W.codeIn K cd12 "_law_within" = true) (k12 : PySem.W.keepIn K (.ref f12) = true)
    (a13 : PySem.W.nsIn K mainGlobals "_law_right" = some (some (.ref f13))) (l13 : K.lookup f13 = some ⟨oc13, od13, .func (PySem.W.fnOf "_law_right" "_law_right" (defArgs sRight) (defBody sRight) (defScope sRight) .none kV13 dc13 pm13 an13 cd13 ct13), sl13⟩) (c13 : PySem.W.codeIn K cd13 "_law_right" = true) (k13 : PySem.W.keepIn K (.ref f13) = true)
    (a14 : PySem.W.nsIn K mainGlobals "_law_third" = some (some (.ref f14))) (l14 : K.lookup f14 = some ⟨oc14, od14, .func (PySem.W.fnOf "_law_third" "_law_third" (defArgs sThird) (defBody sThird) (defScope sThird) .none kV14 dc14 pm14 an14 cd14 ct14), sl14⟩) (c14 : PySem.W.codeIn K cd14 "_law_third" = true) (k14 : PySem.W.keepIn K (.ref f14) = true)
    (a15 : PySem.W.nsIn K mainGlobals "law" = some (some (.ref f15))) (l15 : K.lookup f15 = some ⟨oc15, od15, .func (PySem.W.fnOf "law" "law" (defArgs sLaw) (defBody sLaw) (defScope sLaw) .none kV15 dc15 pm15 an15 cd15 ct15), sl15⟩) (c15 : PySem.W.codeIn K cd15 "law" = true) (k15 : PySem.W.keepIn K (.ref f15) = true)
    {ga1 : Addr} {gn1 : Nat} {gt1_0 gt1_1 gt1_2 gt1_3 gt1_4 gt1_5 : Tok} {ge1_0 ge1_1 ge1_2 ge1_3 : Addr}
    (gA1 : PySem.W.nsIn K mainGlobals "KEEPERS" = some (some (.ref ga1))) (gB1 : K.lookup ga1 = some ⟨.type "dict", none, .dict #[⟨PyData.keyHash w.params "every", .str "every" gt1_0, .ref ge1_0⟩, ⟨PyData.keyHash w.params "no", .str "no" gt1_1, .ref ge1_1⟩, ⟨PyData.keyHash w.params "thing", .str "thing" gt1_2, .ref ge1_2⟩, ⟨PyData.keyHash w.params "tied", .str "tied" gt1_3, .ref ge1_3⟩, ⟨PyData.keyHash w.params "within", .str "within" gt1_4, .ref f2⟩, ⟨PyData.keyHash w.params "makes", .str "makes" gt1_5, .ref f4⟩] gn1, #[]⟩)
    (z1 : PySem.W.nsIn K mainGlobals "len" = some none)
    (z2 : PySem.W.nsIn K mainGlobals "range" = some none)
    (z3 : PySem.W.nsIn K mainGlobals "min" = some none)
    (z4 : PySem.W.nsIn K mainGlobals "list" = some none)
    (z5 : PySem.W.nsIn K mainGlobals "isinstance" = some none)
    (z6 : PySem.W.nsIn K mainGlobals "str" = some none)
    (z7 : PySem.W.nsIn K mainGlobals "int" = some none)
    (z8 : PySem.W.nsIn K mainGlobals "bool" = some none)
    (z9 : PySem.W.nsIn K mainGlobals "dict" = some none)
    (z10 : PySem.W.nsIn K mainGlobals "tuple" = some none)
    (z11 : PySem.W.nsIn K mainGlobals "set" = some none)
    (z12 : PySem.W.nsIn K mainGlobals "enumerate" = some none)
    : ∃ fd : FuncData, (∀ (s : Shared) (v : Value), BindsTo s fd ⟨[v], []⟩ [("_law_script", v)]) ∧ ∀ base : Heap, K.In base → base.Ns mainGlobals mg → FnOk l.prog w K mg base CX0 5 fa fd ["_law_script"] (spLaw K) := by
  have e := hfa.symm.trans (PySem.W.mg_of X G a15)
  cases e
  have F1 := fun_mk (st := sTie) l1 c1 k1
  have b1 := F1.binds (ps := ["world", "tie"]) fun _ _ _ _ _ _ us hl => match us, hl with | [_, _], _ => rfl
  have m1 := PySem.W.mg_of X G a1
  have F2 := fun_mk (st := sWithin0) l2 c2 k2
  have b2 := F2.binds (ps := ["world", "saying"]) fun _ _ _ _ _ _ us hl => match us, hl with | [_, _], _ => rfl
  have m2 := PySem.W.mg_of X G a2
  have F3 := fun_mk (st := sEnds) l3 c3 k3
  have b3 := F3.binds (ps := ["pairs"]) fun _ _ _ _ _ _ us hl => match us, hl with | [_], _ => rfl
  have m3 := PySem.W.mg_of X G a3
  have F4 := fun_mk (st := sMakes) l4 c4 k4
  have b4 := F4.binds (ps := ["world", "saying"]) fun _ _ _ _ _ _ us hl => match us, hl with | [_, _], _ => rfl
  have m4 := PySem.W.mg_of X G a4
  have F5 := fun_mk (st := sKeeps) l5 c5 k5
  have b5 := F5.binds (ps := ["world", "saying"]) fun _ _ _ _ _ _ us hl => match us, hl with | [_, _], _ => rfl
  have m5 := PySem.W.mg_of X G a5
  have F6 := fun_mk (st := sCell) l6 c6 k6
  have b6 := F6.binds (ps := ["_law_script", "_law_k"]) fun _ _ _ _ _ _ us hl => match us, hl with | [_, _], _ => rfl
  have m6 := PySem.W.mg_of X G a6
  have F7 := fun_mk (st := sNext) l7 c7 k7
  have b7 := F7.binds (ps := ["_law_cell_here", "_law_k"]) fun _ _ _ _ _ _ us hl => match us, hl with | [_, _], _ => rfl
  have m7 := PySem.W.mg_of X G a7
  have F8 := fun_mk (st := sNames) l8 c8 k8
  have b8 := F8.binds (ps := ["_law_cell_here", "_law_many"]) fun _ _ _ _ _ _ us hl => match us, hl with | [_, _], _ => rfl
  have m8 := PySem.W.mg_of X G a8
  have F9 := fun_mk (st := sWorld) l9 c9 k9
  have b9 := F9.binds (ps := ["_law_cell_here", "_law_names_here", "_law_ties", "_law_things"]) fun _ _ _ _ _ _ us hl => match us, hl with | [_, _, _, _], _ => rfl
  have m9 := PySem.W.mg_of X G a9
  have F10 := fun_mk (st := sCopy) l10 c10 k10
  have b10 := F10.binds (ps := ["_law_world_here"]) fun _ _ _ _ _ _ us hl => match us, hl with | [_], _ => rfl
  have m10 := PySem.W.mg_of X G a10
  have F11 := fun_mk (st := sMade) l11 c11 k11
  have b11 := F11.binds (ps := ["_law_first", "_law_second"]) fun _ _ _ _ _ _ us hl => match us, hl with | [_, _], _ => rfl
  have m11 := PySem.W.mg_of X G a11
  have F12 := fun_mk (st := sWithin) l12 c12 k12
  have b12 := F12.binds (ps := ["_law_some", "_law_others"]) fun _ _ _ _ _ _ us hl => match us, hl with | [_, _], _ => rfl
  have m12 := PySem.W.mg_of X G a12
  have F13 := fun_mk (st := sRight) l13 c13 k13
  have b13 := F13.binds (ps := ["_law_world_here", "_law_saying", "_law_due"]) fun _ _ _ _ _ _ us hl => match us, hl with | [_, _, _], _ => rfl
  have m13 := PySem.W.mg_of X G a13
  have F14 := fun_mk (st := sThird) l14 c14 k14
  have b14 := F14.binds (ps := ["_law_world_here", "_law_ties", "_law_cell_here"]) fun _ _ _ _ _ _ us hl => match us, hl with | [_, _, _], _ => rfl
  have m14 := PySem.W.mg_of X G a14
  have F15 := fun_mk (st := sLaw) l15 c15 k15
  have m15 := PySem.W.mg_of X G a15
  have mf1 := PySem.W.mg_of X G gA1
  have n1 := PySem.W.mg_none_of X G z1
  have n2 := PySem.W.mg_none_of X G z2
  have n3 := PySem.W.mg_none_of X G z3
  have n4 := PySem.W.mg_none_of X G z4
  have n5 := PySem.W.mg_none_of X G z5
  have n6 := PySem.W.mg_none_of X G z6
  have n7 := PySem.W.mg_none_of X G z7
  have n8 := PySem.W.mg_none_of X G z8
  have n9 := PySem.W.mg_none_of X G z9
  have n10 := PySem.W.mg_none_of X G z10
  have n11 := PySem.W.mg_none_of X G z11
  have n12 := PySem.W.mg_none_of X G z12
  refine ⟨PySem.W.fnOf "law" "law" (defArgs sLaw) (defBody sLaw) (defScope sLaw) .none kV15 dc15 pm15 an15 cd15 ct15, fun s v => .of_eq rfl, fun base _ _ => ?_⟩
  have kd : KDict K l.prog w ga1 [(Sum.inr "every", .ref ge1_0), (Sum.inr "no", .ref ge1_1), (Sum.inr "thing", .ref ge1_2), (Sum.inr "tied", .ref ge1_3), (Sum.inr "within", .ref f2), (Sum.inr "makes", .ref f4)] := kdict_mk [("every", gt1_0, .ref ge1_0), ("no", gt1_1, .ref ge1_1), ("thing", gt1_2, .ref ge1_2), ("tied", gt1_3, .ref ge1_3), ("within", gt1_4, .ref f2), ("makes", gt1_5, .ref f4)] gB1 (.cons ⟨rfl, rfl⟩ (.cons ⟨rfl, rfl⟩ (.cons ⟨rfl, rfl⟩ (.cons ⟨rfl, rfl⟩ (.cons ⟨rfl, rfl⟩ (.cons ⟨rfl, rfl⟩ .nil)))))) (by show (["every", "no", "thing", "tied", "within", "makes"] : List Str).Nodup; decide +kernel)
  have G1 := ok_tie (P := l.prog) (w := w) (mg := mg) (base := base) F1
  have G2 := ok_wi F2 n1 n11 G1 b1 k1 m1
  have G3 := ok_ends (P := l.prog) (w := w) (mg := mg) (base := base) F3
  have G4 := ok_mk F4 n11 G1 b1 k1 m1 G3 b3 k3 m3
  have G5 := ok_keeps F5 mf1 kd G2 b2 k2 G4 b4 k4
  have G6 := ok_cell (P := l.prog) (w := w) (mg := mg) (base := base) F6 n1
  have G7 := ok_next (P := l.prog) (w := w) (mg := mg) (base := base) F7
  have G8 := ok_names (P := l.prog) (w := w) (mg := mg) (base := base) F8 n1 n2 n3
  have G9 := ok_world F9 n2 G7 b7 k7 m7
  have G10 := ok_copy (P := l.prog) (w := w) (mg := mg) (base := base) F10 n4 n9
  have G11 := ok_made (P := l.prog) (w := w) (mg := mg) (base := base) F11
  have G12 := ok_within (P := l.prog) (w := w) (mg := mg) (base := base) F12
  have G13 := ok_right F13 n5 n8 G10 b10 k10 m10 G5 b5 k5 m5
  have G14 := ok_third F14 n1 n12 G11 b11 k11 m11
  exact ok_law F15 n2 G6 b6 k6 m6 G8 b8 k8 m8 G7 b7 k7 m7 G11 b11 k11 m11 G12 b12 k12 m12 G9 b9 k9 m9 G13 b13 k13 m13 G14 b14 k14 m14
theorem walk {l : PySem.W.OpenLaw} {q : Program} {loose : List Str} {XP : (Str → Option Value) → Heap → Prop} {YP : World → Heap → Prop} {d : DefRec} {K : Params → PySem.W.Frag} (hn : l.most = some 63) (hdf : d.params.defaults = [])
    (hY : ∀ (w : World) (h : Heap), YP w h → (K w.params).In h)
    (F : ∀ (w : World) (mg : Str → Option Value) (fa : Addr) (h : Heap), (K w.params).In h → h.Ns mainGlobals mg → mg d.name = some (.ref fa) →
      ∃ fd : FuncData, (∀ (s : Shared) (u : Value), BindsTo s fd ⟨[u], []⟩ [("_law_script", u)]) ∧ ∀ base : Heap, (K w.params).In base → base.Ns mainGlobals mg → FnOk l.prog w (K w.params) mg base CX0 5 fa fd ["_law_script"] (spLaw (K w.params))) :
    PySem.W.WalkO q loose XP YP l.row.toRowW d [] (fun f vs => PySem.call f vs) :=
  L2.walk_of (n := 63) (k := 5) (x := "_law_script") (CX := fun _ => CX0) (sp := fun w => spLaw (K w.params)) hn (by decide) hdf ⟨rfl, by decide, by decide⟩ hY F (fun _ _ a ns hl _ hS => ⟨a, ns, rfl, hS, hl, fun _ => rfl⟩) fun _ _ _ _ _ z => z
end K07
open PySem PySem.W PyProof.Rows
set_option maxRecDepth 100000 in
set_option maxHeartbeats 0 in
theorem PySem.Challenge.cw_kinwords_k07_keeps_sayings_of_ties_holds : PySem.Challenge.rw_kinwords_k07_keeps_sayings_of_ties.Holds := by
  w_on; o_law; k_head; (case hw => w_witness2)
  k_fill
  refine K07.walk (l := PySem.Challenge.rw_kinwords_k07_keeps_sayings_of_ties) rfl rfl (fun w h Y => PySem.W.kIn_of Y) ?F
  case F =>
    intro w mg fa h KX G hmg
    refine' K07.all_mk KX G hmg ?a1 ?l1 ?c1 ?k1 ?a2 ?l2 ?c2 ?k2 ?a3 ?l3 ?c3 ?k3 ?a4 ?l4 ?c4 ?k4 ?a5 ?l5 ?c5 ?k5 ?a6 ?l6 ?c6 ?k6 ?a7 ?l7 ?c7 ?k7 ?a8 ?l8 ?c8 ?k8 ?a9 ?l9 ?c9 ?k9 ?a10 ?l10 ?c10 ?k10 ?a11 ?l11 ?c11 ?k11 ?a12 ?l12 ?c12 ?k12 ?a13 ?l13 ?c13 ?k13 ?a14 ?l14 ?c14 ?k14 ?a15 ?l15 ?c15 ?k15 ?gA1 ?gB1 ?z1 ?z2 ?z3 ?z4 ?z5 ?z6 ?z7 ?z8 ?z9 ?z10 ?z11 ?z12
    (case a1 => k_is)
    (case l1 => k_is)
    (case c1 => k_is)
    (case k1 => k_is)
    (case a2 => k_is)
    (case l2 => k_is)
    (case c2 => k_is)
    (case k2 => k_is)
    (case a3 => k_is)
    (case l3 => k_is)
    (case c3 => k_is)
    (case k3 => k_is)
    (case a4 => k_is)
    (case l4 => k_is)
    (case c4 => k_is)
    (case k4 => k_is)
    (case a5 => k_is)
    (case l5 => k_is)
    (case c5 => k_is)
    (case k5 => k_is)
    (case a6 => k_is)
    (case l6 => k_is)
    (case c6 => k_is)
    (case k6 => k_is)
    (case a7 => k_is)
    (case l7 => k_is)
    (case c7 => k_is)
    (case k7 => k_is)
    (case a8 => k_is)
    (case l8 => k_is)
    (case c8 => k_is)
    (case k8 => k_is)
    (case a9 => k_is)
    (case l9 => k_is)
    (case c9 => k_is)
    (case k9 => k_is)
    (case a10 => k_is)
    (case l10 => k_is)
    (case c10 => k_is)
    (case k10 => k_is)
    (case a11 => k_is)
    (case l11 => k_is)
    (case c11 => k_is)
    (case k11 => k_is)
    (case a12 => k_is)
    (case l12 => k_is)
    (case c12 => k_is)
    (case k12 => k_is)
    (case a13 => k_is)
    (case l13 => k_is)
    (case c13 => k_is)
    (case k13 => k_is)
    (case a14 => k_is)
    (case l14 => k_is)
    (case c14 => k_is)
    (case k14 => k_is)
    (case a15 => k_is)
    (case l15 => k_is)
    (case c15 => k_is)
    (case k15 => k_is)
    (case gA1 => k_is)
    (case gB1 => k_is)
    (case z1 => k_is)
    (case z2 => k_is)
    (case z3 => k_is)
    (case z4 => k_is)
    (case z5 => k_is)
    (case z6 => k_is)
    (case z7 => k_is)
    (case z8 => k_is)
    (case z9 => k_is)
    (case z10 => k_is)
    (case z11 => k_is)
    (case z12 => k_is)
