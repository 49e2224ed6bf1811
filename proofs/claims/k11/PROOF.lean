import PyProof.Rows.All
import Wide.All
import OpenK.AllK
import Wide.FinOn
import Lean
import PyProof.EqAt
import PyProof.EqKinds
import PyProof.TupleCall
import PyProof.NeKinds
import PyProof.Rows.FStr
import PyProof.Rows.Range3
import PyProof.StrLawsIn
import PyProof.WalksEnum
import PyProof.EnumMake
import PyProof.Rows.EnumRows
import PyProof.Rows.StrNews2
import PyProof.StrLawsFirst
import PyProof.StrLawsChain
import PyProof.StrLawsTight
import PyProof.StrBlockH
import PySem.Challenge.RW_kinwords_k11_sayings_written
-- CHANGE: your row's module here, as the last of these rows
set_option Elab.async false
set_option linter.all false
set_option maxRecDepth 100000
/-! THE HAND LAYER, for ints, bools, texts, own classes, LISTS and tuples (index, slices, in, append, pop ..), calls, loops. Paste it whole ahead of your own text; what your proof does not reach may be deleted. -/
namespace L2
open PySem PySem.Spec PyProof.Rows

/-- a key: an int or a str -/
abbrev Key := Sum Int Str
def keyIs : Key → Value → Bool
  | .inl k, v => Value.isInt k v
  | .inr x, v => Value.isStrOf x v
def keyH (w : World) : Key → Int
  | .inl k => hashInt k
  | .inr x => hashStr w x
theorem keyIs_shape : ∀ {k : Key} {v : Value}, keyIs k v = true → (∃ i t, k = Sum.inl i ∧ v = Value.int i t) ∨ (∃ x t, k = Sum.inr x ∧ v = Value.str x t)
  | .inl i, v, h => by
    obtain ⟨t, e⟩ := Value.isInt_shape (k := i) (v := v) h
    exact .inl ⟨i, t, rfl, e⟩
  | .inr x, v, h => by
    obtain ⟨t, e⟩ := Value.isStrOf_shape (x := x) (v := v) h
    exact .inr ⟨x, t, rfl, e⟩
theorem keyIs_int (i : Int) (t : Tok) : keyIs (.inl i) (.int i t) = true := by simp [keyIs, Value.isInt]
theorem keyIs_str (x : Str) (t : Tok) : keyIs (.inr x) (.str x t) = true := by simp [keyIs, Value.isStrOf]
theorem key_ll (a b : Int) : decide ((Sum.inl a : Key) = Sum.inl b) = (a == b) := by
  by_cases e : a = b
  · subst e; simp
  · have h : ¬ (Sum.inl a : Key) = Sum.inl b := fun q => e (Sum.inl.inj q)
    rw [decide_eq_false h]
    exact (beq_eq_false_iff_ne.mpr e).symm
theorem key_rr (a b : Str) : decide ((Sum.inr a : Key) = Sum.inr b) = decide (a = b) := by
  by_cases e : a = b
  · subst e; simp
  · have h : ¬ (Sum.inr a : Key) = Sum.inr b := fun q => e (Sum.inr.inj q)
    rw [decide_eq_false h, decide_eq_false e]
theorem key_lr (a : Int) (b : Str) : decide ((Sum.inl a : Key) = Sum.inr b) = false := decide_eq_false (fun q => nomatch q)
theorem key_rl (a : Str) (b : Int) : decide ((Sum.inr a : Key) = Sum.inl b) = false := decide_eq_false (fun q => nomatch q)

def mixKind (prog : Program) (w : World) : PySem.KeyKind prog w Key where
  is := keyIs
  hash := keyH w
  inj := fun v a b ha hb => by
    rcases keyIs_shape ha with ⟨i, t, rfl, rfl⟩ | ⟨x, t, rfl, rfl⟩
    · rcases keyIs_shape hb with ⟨j, u, rfl, e⟩ | ⟨y, u, rfl, e⟩
      · injection e with e1 _; rw [e1]
      · exact nomatch e
    · rcases keyIs_shape hb with ⟨j, u, rfl, e⟩ | ⟨y, u, rfl, e⟩
      · exact nomatch e
      · injection e with e1 _; rw [e1]
  byValue := fun k v h => by
    rcases keyIs_shape h with ⟨i, t, rfl, rfl⟩ | ⟨x, t, rfl, rfl⟩ <;> rfl
  pyHash := fun hv h => by
    rcases keyIs_shape hv with ⟨i, t, rfl, rfl⟩ | ⟨x, t, rfl, rfl⟩
    · exact wpAny_pyHash_int h
    · exact wpAny_pyHash_str h
  eqBool := fun hu hv h => by
    rcases keyIs_shape hu with ⟨i, t, rfl, rfl⟩ | ⟨x, t, rfl, rfl⟩
    · rcases keyIs_shape hv with ⟨j, u, rfl, rfl⟩ | ⟨y, u, rfl, rfl⟩
      · rw [key_ll] at h; exact wpAny_eqBool_int h
      · rw [key_lr] at h; exact SeqAt.EqAt.int_str i t y u _ _ _ _ h
    · rcases keyIs_shape hv with ⟨j, u, rfl, rfl⟩ | ⟨y, u, rfl, rfl⟩
      · rw [key_rl] at h; exact SeqAt.EqAt.str_int x t j u _ _ _ _ h
      · rw [key_rr] at h; exact wpAny_eqBool_str h
  «strs» := fun k x t v h => by
    rcases keyIs_shape h with ⟨i, u, rfl, e⟩ | ⟨y, u, rfl, e⟩
    · exact nomatch e
    · injection e with e1 _
      subst e1
      cases v <;> rfl

theorem mixKind_is (prog : Program) (w : World) (k : Key) (v : Value) : (mixKind prog w).is k v = keyIs k v := rfl
theorem mixKind_int (prog : Program) (w : World) (i : Int) (t : Tok) : (mixKind prog w).is (.inl i) (.int i t) = true := keyIs_int i t
theorem mixKind_str (prog : Program) (w : World) (x : Str) (t : Tok) : (mixKind prog w).is (.inr x) (.str x t) = true := keyIs_str x t
end L2

namespace L2
open PySem PySem.Spec PyProof.Rows

/-- a value, without the heap -/
inductive V where
  | non | bl (b : Bool) | int (i : Int) | str (x : Str) | byt (b : Array UInt8) | flt (b : UInt64) | ref (a : Addr) | ty (n : String)
  deriving DecidableEq

def RelV : V → Value → Prop
  | .non, u => u = Value.none
  | .bl b, u => u = Value.bool b
  | .int i, u => ∃ t, u = Value.int i t
  | .str x, u => ∃ t, u = Value.str x t
  | .byt b, u => ∃ t, u = Value.bytes b t
  | .flt b, u => ∃ t, u = Value.float b t
  | .ref a, u => u = Value.ref a
  | .ty n, u => u = Value.type n

abbrev Vals : List V → List Value → Prop := Paired RelV
theorem Vals.length {xs : List V} {us : List Value} (r : Vals xs us) : xs.length = us.length := Paired.length r
theorem Vals.get : ∀ {xs : List V} {us : List Value} {i : Nat} {x : V}, Vals xs us → xs[i]? = some x → ∃ u, us[i]? = some u ∧ RelV x u
  | _, _, _, _, .nil, e => by simp at e
  | _, _, 0, _, .cons r _, e => by simp at e; subst e; exact ⟨_, rfl, r⟩
  | _, _, i + 1, x, .cons _ t, e => by
    obtain ⟨u, h1, h2⟩ := Vals.get (i := i) (x := x) t (by simpa using e)
    exact ⟨u, by simpa using h1, h2⟩
theorem Vals.set {x : V} {u : Value} (r : RelV x u) : ∀ {xs : List V} {us : List Value} (i : Nat), Vals xs us → Vals (xs.set i x) (us.set i u)
  | _, _, _, .nil => .nil
  | _, _, 0, .cons _ t => .cons r t
  | _, _, i + 1, .cons q t => .cons q (Vals.set r i t)
theorem Vals.append : ∀ {xs ys : List V} {us ws : List Value}, Vals xs us → Vals ys ws → Vals (xs ++ ys) (us ++ ws)
  | _, _, _, _, .nil, s => s
  | _, _, _, _, .cons r t, s => .cons r (Vals.append t s)
theorem Vals.take : ∀ {xs : List V} {us : List Value} (n : Nat), Vals xs us → Vals (xs.take n) (us.take n)
  | _, _, 0, _ => .nil
  | _, _, _ + 1, .nil => .nil
  | _, _, n + 1, .cons r t => .cons r (Vals.take n t)
theorem Vals.drop : ∀ {xs : List V} {us : List Value} (n : Nat), Vals xs us → Vals (xs.drop n) (us.drop n)
  | _, _, 0, r => r
  | _, _, _ + 1, .nil => .nil
  | _, _, n + 1, .cons _ t => Vals.drop n t
theorem Vals.none_of : ∀ {xs : List V} {us : List Value} {i : Nat}, Vals xs us → xs[i]? = none → us[i]? = none := fun {xs us i} r e => by
  have h1 := r.length
  have h2 : xs.length ≤ i := List.getElem?_eq_none_iff.mp e
  exact List.getElem?_eq_none_iff.mpr (by omega)

def RelO : Option V → Option Value → Prop
  | some v, some u => RelV v u
  | none, none => True
  | _, _ => False
def KV {κ : Type} : List (κ × V) → List (κ × Value) → Prop := Paired fun (p : κ × V) (q : κ × Value) => p.1 = q.1 ∧ RelV p.2 q.2

/-- a key of a dict (00_mix): an int or a text -/
def kV : Key → V
  | .inl i => .int i
  | .inr x => .str x

/-- what stands at a tracked address -/
inductive HO where
  /-- a list -/
  | lst (xs : List V)
  /-- a tuple (never changes) -/
  | tup (xs : List V)
  /-- a dict whose keys are ints and texts; one whose keys are tuples of ints and texts (the empty one is both) -/
  | dK (kvs : List (Key × V)) | dT (kvs : List (List Key × V))
  /-- a set of ints: its members, its size -/
  | set (S : Int → Bool) (n : Nat)
  /-- an instance of the class at C, its dict at dx, its attributes -/
  | ins (C dx : Addr) (fs : List (Str × V))
  /-- the dict of the instance at x -/
  | own (x : Addr)
  /-- the dict of an exception -/
  | xd (fs : List (Str × V))
  /-- a bound method, f of x -/
  | met (f x : Addr)
  /-- a range object lo, lo + 1, .. below hi -/
  | rng (lo hi : Int)
  /-- a thing that is known to the object (the script; a dict while a loop walks it): read, never written while it is so -/
  | frz (o : Obj) (u : HO)
  /-- a code object's table -/
  | tbl (ps : Array Value)
  /-- any other thing, by what is true of its one object (a def of one's own: SetO a S n := HO.ext fun h => ..) -/
  | ext (φ : Heap → Prop)

abbrev Hp := Addr → Option HO
def upd (H : Hp) (a : Addr) (o : HO) : Hp := fun b => if b = a then some o else H b
theorem upd_same {H : Hp} {a : Addr} {o : HO} : upd H a o a = some o := by unfold upd; rw [if_pos rfl]
theorem upd_ne {H : Hp} {a b : Addr} {o : HO} (h : b ≠ a) : upd H a o b = H b := by unfold upd; rw [if_neg h]
theorem upd_upd {H : Hp} {a : Addr} {o u : HO} : upd (upd H a o) a u = upd H a u := by
  funext b; unfold upd; split <;> rfl
/-- two objects of different content stand apart -/
theorem ne_of {H : Hp} {a b : Addr} {o u : HO} (h : H a = some o) (h' : H b = some u) (d : o ≠ u) : a ≠ b := by
  intro e; subst e; rw [h] at h'; exact d (Option.some.inj h')
theorem ne_of_none {H : Hp} {a b : Addr} {o : HO} (h : H a = some o) (h' : H b = none) : a ≠ b := by
  intro e; subst e; rw [h] at h'; cases h'

section
variable (P : Program) (w : World)
def ObjOk (H : Hp) (h : Heap) (a : Addr) : HO → Prop
  | .lst xs => xs.length ≤ sizeLine ∧ ∃ (its : List Value) (n : Nat), Vals xs its ∧ h.get? a = some { cls := .type "list", data := .seq its.toArray n }
  | .tup xs => xs.length ≤ sizeLine ∧ ∃ its : List Value, Vals xs its ∧ IsTup h a its.toArray
  | .dK kvs => kvs.length ≤ sizeLine ∧ (a == sysModules) = false ∧ ∃ vs, KV kvs vs ∧ h.DictOf (mixKind P w) a vs
  | .dT kvs => kvs.length ≤ sizeLine ∧ (a == sysModules) = false ∧ ∃ xs : List (List Key × Addr × Value),
      Paired (fun (p : List Key × V) (q : List Key × Addr × Value) => p.1 = q.1 ∧ H q.2.1 = some (.tup (p.1.map kV)) ∧ RelV p.2 q.2.2) kvs xs ∧
      ∃ o es ep, h.get? a = some o ∧ o.ExactDict ∧ o.data = .dict es ep ∧ es.toList = xs.map (entryOfKey (tupleKind (mixKind P w))) ∧ (xs.map (·.1)).Nodup
  | .set S n => h.SetOf (intKind P w) a S n
  | .ins C dx fs => H dx = some (.own a) ∧ fs.length ≤ 1000 ∧ dx ≠ a ∧ h.get? a = some (PySem.W.instObj C dx) ∧
      ∃ mA, h.Ns1 dx mA ∧ (∀ f, RelO (fs.lookup f) (mA f)) ∧ PySem.Within mA (fs.map (·.1))
  | .own _ => ∃ o, h.get? a = some o
  | .xd fs => ∃ mA, h.Ns1 a mA ∧ ∀ f, RelO (fs.lookup f) (mA f)
  | .rng lo hi => ∃ t u v, h.get? a = some { cls := .type "range", data := .fields #[.int lo t, .int hi u, .int 1 v] }
  | .frz o u => h.get? a = some o ∧ ObjOk H h a u
  | .tbl ps => h.get? a = some { cls := .none, data := .fields ps }
  | .met f x => h.get? a = some (PySem.W.methodObj (.ref f) (.ref x))
  | .ext φ => φ h ∧ (∃ o, h.get? a = some o) ∧ ∀ h1 h2 : Heap, φ h1 → (∀ o, h1.get? a = some o → h2.get? a = some o) → φ h2
/-- the abstract heap is held -/
def HOk (H : Hp) (h : Heap) : Prop := ∀ a o, H a = some o → ObjOk P w H h a o
end

section
variable {P : Program} {w : World} {H H' : Hp} {h h' : Heap} {a : Addr} {o : HO}
theorem ObjOk.lt (x : ObjOk P w H h a o) : a < h.objs.size := by
  cases o with
  | lst xs => obtain ⟨_, _, _, _, e⟩ := x; exact Heap.lt_size e
  | tup xs => obtain ⟨_, _, _, p⟩ := x; exact p.lt
  | dK kvs => obtain ⟨_, _, _, _, o, _, _, e, _⟩ := x; exact Heap.lt_size e
  | dT kvs => obtain ⟨_, _, _, _, o, _, _, e, _⟩ := x; exact Heap.lt_size e
  | set S n => obtain ⟨o, _, _, _, e, _⟩ := x; exact Heap.lt_size e
  | ins C dx fs => obtain ⟨_, _, _, e, _⟩ := x; exact Heap.lt_size e
  | own y => obtain ⟨_, e⟩ := x; exact Heap.lt_size e
  | xd fs => obtain ⟨_, ⟨_, _, _, e, _⟩, _⟩ := x; exact Heap.lt_size e
  | rng lo hi => obtain ⟨_, _, _, e⟩ := x; exact Heap.lt_size e
  | frz ob u => obtain ⟨e, _⟩ := x; exact Heap.lt_size e
  | tbl ps => exact Heap.lt_size (show h.get? a = some _ from x)
  | met f y => exact Heap.lt_size (show h.get? a = some _ from x)
  | ext φ => obtain ⟨_, ⟨_, e⟩, _⟩ := x; exact Heap.lt_size e
theorem Paired.mapP {α β : Type} {F G : α → β → Prop} : ∀ {l₁ : List α} {l₂ : List β}, Paired F l₁ l₂ → (∀ a b, F a b → G a b) → Paired G l₁ l₂
  | _, _, .nil, _ => .nil
  | _, _, .cons r t, f => .cons (f _ _ r) (Paired.mapP t f)
theorem Paired.imp' {α β : Type} {F G : α → β → Prop} (f : ∀ a b, F a b → G a b) {l₁ : List α} {l₂ : List β} (r : Paired F l₁ l₂) : Paired G l₁ l₂ := Paired.mapP r f
/-- what an object's description leans on: its own object, its own dict, the tuples -/
theorem ObjOk.stay (x : ObjOk P w H h a o) (k : ∀ b u, (b = a ∨ H b = some (.own a)) → h.get? b = some u → h'.get? b = some u)
    (ho : ∀ b, H b = some (.own a) → H' b = some (.own a)) (ht : ∀ b xs, H b = some (.tup xs) → H' b = some (.tup xs)) : ObjOk P w H' h' a o := by
  induction o with
  | lst xs => obtain ⟨z, its, n, r, e⟩ := x; exact ⟨z, its, n, r, k _ _ (.inl rfl) e⟩
  | tup xs => obtain ⟨z, its, r, ob, e, c⟩ := x; exact ⟨z, its, r, ob, k _ _ (.inl rfl) e, c⟩
  | dK kvs => obtain ⟨z, y, vs, r, ob, es, ep, e, c⟩ := x; exact ⟨z, y, vs, r, ob, es, ep, k _ _ (.inl rfl) e, c⟩
  | dT kvs =>
    obtain ⟨z, y, xs, r, ob, es, ep, e, c⟩ := x
    exact ⟨z, y, xs, Paired.mapP r fun p q z => ⟨z.1, ht _ _ z.2.1, z.2.2⟩, ob, es, ep, k _ _ (.inl rfl) e, c⟩
  | set S n => obtain ⟨ob, es, ep, t, e, c⟩ := x; exact ⟨ob, es, ep, t, k _ _ (.inl rfl) e, c⟩
  | ins C dx fs =>
    obtain ⟨d, z, ne, e, mA, ⟨od, es, ep, e2, c⟩, r⟩ := x
    exact ⟨ho _ d, z, ne, k _ _ (.inl rfl) e, mA, ⟨od, es, ep, k _ _ (.inr d) e2, c⟩, r⟩
  | own y => obtain ⟨ob, e⟩ := x; exact ⟨ob, k _ _ (.inl rfl) e⟩
  | xd fs => obtain ⟨mA, ⟨od, es, ep, e, c⟩, r⟩ := x; exact ⟨mA, ⟨od, es, ep, k _ _ (.inl rfl) e, c⟩, r⟩
  | rng lo hi => obtain ⟨t, u, v, e⟩ := x; exact ⟨t, u, v, k _ _ (.inl rfl) e⟩
  | frz ob u ih => obtain ⟨e, q⟩ := x; exact ⟨k _ _ (.inl rfl) e, ih q⟩
  | tbl ps =>
    have e : h.get? a = some { cls := .none, data := .fields ps } := x
    show h'.get? a = some { cls := .none, data := .fields ps }
    exact k a _ (.inl rfl) e
  | met f y =>
    have e : h.get? a = some (PySem.W.methodObj (.ref f) (.ref y)) := x
    show h'.get? a = some (PySem.W.methodObj (.ref f) (.ref y))
    exact k a _ (.inl rfl) e
  | ext φ => obtain ⟨p, ⟨o, e⟩, st⟩ := x; exact ⟨st _ _ p fun o q => k _ _ (.inl rfl) q, ⟨o, k _ _ (.inl rfl) e⟩, st⟩
theorem HOk.lt (x : HOk P w H h) (e : H a = some o) : a < h.objs.size := (x a o e).lt
theorem HOk.fresh (x : HOk P w H h) (e : h.objs.size ≤ a) : H a = none := by
  cases q : H a with
  | none => rfl
  | some u => exact absurd (Nat.lt_of_lt_of_le (x.lt q) e) (Nat.lt_irrefl _)
/-- every object of the heap is kept -/
theorem HOk.kept (x : HOk P w H h) (k : ∀ b u, h.get? b = some u → h'.get? b = some u) : HOk P w H h' := fun a o e =>
  (x a o e).stay (fun b u _ q => k b u q) (fun _ q => q) fun _ _ q => q
/-- a new object is laid and tracked -/
theorem HOk.laid (x : HOk P w H h) (k : ∀ b u, h.get? b = some u → h'.get? b = some u) (hp : h.objs.size ≤ a) (new : ObjOk P w (upd H a o) h' a o) : HOk P w (upd H a o) h' := fun b u e => by
  have hn := x.fresh hp
  by_cases hb : b = a
  · subst hb; rw [upd_same] at e; cases e; exact new
  · rw [upd_ne hb] at e
    exact (x b u e).stay (fun c v _ q => k c v q) (fun c q => by rw [upd_ne (ne_of_none q hn)]; exact q) fun c xs q => by rw [upd_ne (ne_of_none q hn)]; exact q
end

/-- what may be read as u: it is u, or a known u -/
def Rd (H : Hp) (a : Addr) (u : HO) : Prop := H a = some u ∨ ∃ o, H a = some (.frz o u)
theorem Rd.of {H : Hp} {a : Addr} {u : HO} (h : H a = some u) : Rd H a u := .inl h
theorem Rd.ok {P : Program} {w : World} {H : Hp} {h : Heap} {a : Addr} {u : HO} (r : Rd H a u) (x : HOk P w H h) : ObjOk P w H h a u := by
  rcases r with r | ⟨o, r⟩
  · exact x a u r
  · obtain ⟨_, q⟩ := x a _ r
    exact q
/-- what may be written -/
def Mut : Option HO → Prop
  | some (.lst _) => True
  | some (.dK _) => True
  | some (.dT _) => True
  | some (.set _ _) => True
  | some (.ins _ _ _) => True
  | some (.ext _) => True
  | _ => False
section
variable {P : Program} {w : World} {H : Hp} {h h' : Heap} {x e : Addr} {o' : HO}
/-- the object at e is changed: x itself, or the dict of the instance x -/
theorem HOk.write (ok : HOk P w H h) (mu : Mut (H x)) (he : e = x ∨ H e = some (.own x)) (k : ∀ b u, b ≠ e → h.get? b = some u → h'.get? b = some u) (heo : ∃ u, h'.get? e = some u)
    (new : ObjOk P w (upd H x o') h' x o') : HOk P w (upd H x o') h' := fun b u q => by
  have nown : ∀ c y, H c = some (.own y) → c ≠ x := fun c y r z => by subst z; rw [r] at mu; exact mu
  have ntup : ∀ c xs, H c = some (.tup xs) → c ≠ x := fun c xs r z => by subst z; rw [r] at mu; exact mu
  by_cases hb : b = x
  · subst hb; rw [upd_same] at q; cases q; exact new
  · rw [upd_ne hb] at q
    by_cases hbe : b = e
    · have q' : H b = some (.own x) := by
        rcases he with z | z
        · exact absurd (hbe.trans z) hb
        · rw [hbe]; exact z
      rw [q] at q'; cases q'
      obtain ⟨v, hv⟩ := heo
      exact ⟨v, by rw [hbe]; exact hv⟩
    · refine (ok b u q).stay (fun c v hc r => k c v ?_ r) (fun c r => by rw [upd_ne (nown c b r)]; exact r) fun c xs r => by rw [upd_ne (ntup c xs r)]; exact r
      rcases hc with rfl | hc
      · exact hbe
      · rintro rfl
        rcases he with z | z
        · exact nown c b hc z
        · rw [hc] at z; cases z; exact hb rfl
end

/-! ### kept unless tracked; of the frames at fs (the callers') the slots may change (an exception that passes writes there); of the records at ex (iterators) nothing is said -/
structure Un (fs ex : List Addr) (H H' : Hp) (h h' : Heap) : Prop where
  keep : ∀ b o, h.get? b = some o → H b = none → b ∉ fs → b ∉ ex → h'.get? b = some o
  slot : ∀ b o, h.get? b = some o → H b = none → b ∈ fs → b ∉ ex → ∃ sl, h'.get? b = some { o with slots := sl }
  free : ∀ b o, h.get? b = some o → H b = none → b ∉ ex → H' b = none
  there : ∀ b o, h.get? b = some o → b ∉ ex → ∃ o', h'.get? b = some o'
  tups : ∀ b xs, H b = some (.tup xs) → H' b = some (.tup xs)
  frzs : ∀ b o u, H b = some (.frz o u) → H' b = some (.frz o u)
  tbls : ∀ b ps, H b = some (.tbl ps) → ∃ more, H' b = some (.tbl (ps ++ more))
section
variable {fs fs' ex ex' : List Addr} {H H1 H2 : Hp} {h h1 h2 h' : Heap} {a x e : Addr} {o : HO}
theorem Un.any (u : Un fs ex H H1 h h1) {b : Addr} {ob : Obj} (q : h.get? b = some ob) (n : H b = none) (hx : b ∉ ex) : ∃ sl, h1.get? b = some { ob with slots := sl } := by
  by_cases hb : b ∈ fs
  · exact u.slot b ob q n hb hx
  · exact ⟨ob.slots, u.keep b ob q n hb hx⟩
theorem Un.trans (a : Un fs ex H H1 h h1) (b : Un fs ex H1 H2 h1 h2) : Un fs ex H H2 h h2 where
  keep := fun c ob q n hc hx => b.keep c ob (a.keep c ob q n hc hx) (a.free c ob q n hx) hc hx
  slot := fun c ob q n hc hx => by
    obtain ⟨sl, e1⟩ := a.slot c ob q n hc hx
    obtain ⟨sl', e2⟩ := b.slot c _ e1 (a.free c ob q n hx) hc hx
    exact ⟨sl', e2⟩
  free := fun c ob q n hx => by
    obtain ⟨o', e1⟩ := a.there c ob q hx
    exact b.free c o' e1 (a.free c ob q n hx) hx
  there := fun c ob q hx => by
    obtain ⟨o', e1⟩ := a.there c ob q hx
    exact b.there c o' e1 hx
  tups := fun c xs q => b.tups c xs (a.tups c xs q)
  frzs := fun c ob xs q => b.frzs c ob xs (a.frzs c ob xs q)
  tbls := fun c ps q => by
    obtain ⟨m1, e1⟩ := a.tbls c ps q
    obtain ⟨m2, e2⟩ := b.tbls c _ e1
    exact ⟨m1 ++ m2, by rw [e2, Array.append_assoc]⟩
theorem Un.kept (k : ∀ b u, h.get? b = some u → h'.get? b = some u) : Un fs ex H H h h' :=
  ⟨fun b ob q _ _ _ => k b ob q, fun b ob q _ _ _ => ⟨ob.slots, k b ob q⟩, fun _ _ _ n _ => n, fun b ob q _ => ⟨ob, k b ob q⟩, fun _ _ q => q, fun _ _ _ q => q, fun _ ps q => ⟨#[], by rw [q]; simp⟩⟩
theorem Un.refl : Un fs ex H H h h := Un.kept fun _ _ q => q
theorem Un.laid (k : ∀ b u, h.get? b = some u → h'.get? b = some u) (hp : h.objs.size ≤ a) (hn : H a = none) : Un fs ex H (upd H a o) h h' where
  keep := fun b u q _ _ _ => k b u q
  slot := fun b u q _ _ _ => ⟨u.slots, k b u q⟩
  free := fun b u q n _ => by rw [upd_ne (Nat.ne_of_lt (Nat.lt_of_lt_of_le (Heap.lt_size q) hp))]; exact n
  there := fun b u q _ => ⟨u, k b u q⟩
  tups := fun b xs q => by rw [upd_ne (ne_of_none q hn)]; exact q
  frzs := fun b u xs q => by rw [upd_ne (ne_of_none q hn)]; exact q
  tbls := fun b ps q => ⟨#[], by rw [upd_ne (ne_of_none q hn), q]; simp⟩
theorem Un.write (mu : Mut (H x)) (he : e = x ∨ H e = some (.own x)) (k : ∀ b u, b ≠ e → h.get? b = some u → h'.get? b = some u) (heo : ∃ u, h'.get? e = some u) : Un fs ex H (upd H x o) h h' := by
  have hx : ∀ b, H b = none → b ≠ x := fun b n z => by subst z; rw [n] at mu; exact mu
  have hb : ∀ b, H b = none → b ≠ e := fun b n z => by
    subst z
    rcases he with r | r
    · exact hx b n r
    · rw [n] at r; cases r
  have hm : ∀ b u, H b = some u → ¬ Mut (some u) → b ≠ x := fun b u q nm z => by subst z; rw [q] at mu; exact nm mu
  refine ⟨fun b u q n _ _ => k b u (hb b n) q, fun b u q n _ _ => ⟨u.slots, k b u (hb b n) q⟩, fun b u q n _ => by rw [upd_ne (hx b n)]; exact n, fun b u q _ => ?_,
    fun b xs q => by rw [upd_ne (hm b _ q fun z => z)]; exact q, fun b u xs q => by rw [upd_ne (hm b _ q fun z => z)]; exact q, fun b ps q => ⟨#[], by rw [upd_ne (hm b _ q fun z => z), q]; simp⟩⟩
  by_cases hbe : b = e
  · subst hbe; exact heo
  · exact ⟨u, k b u hbe q⟩
theorem Un.mono (u : Un fs ex H H1 h h1) (hs : ∀ b ∈ fs, b ∈ fs') (hx : ∀ b ∈ ex, b ∈ ex') : Un fs' ex' H H1 h h1 :=
  ⟨fun b ob q n hb he => u.keep b ob q n (fun z => hb (hs b z)) fun z => he (hx b z), fun _ _ q n _ he => u.any q n fun z => he (hx _ z), fun b ob q n he => u.free b ob q n fun z => he (hx b z), fun b ob q he => u.there b ob q fun z => he (hx b z), u.tups, u.frzs, u.tbls⟩
end

/-! ### the heap without what is tracked -/
def trk (h : Heap) (H : Hp) : List Addr := (List.range h.objs.size).filter fun a => (H a).isSome
def hidT (h : Heap) (H : Hp) : Heap := PySem.W.hideAll h (trk h H)
theorem hidT_size (h : Heap) (H : Hp) : (hidT h H).objs.size = h.objs.size := PySem.W.hideAll_size _ _
theorem hidT_get {h : Heap} {H : Hp} {b : Addr} {o : Obj} (e : h.get? b = some o) (n : H b = none) : (hidT h H).get? b = some o :=
  PySem.W.hideAll_get _ e fun hm => by
    have q : (H b).isSome = true := (List.mem_filter.mp hm).2
    rw [n] at q; simp at q
theorem of_hidT {h : Heap} {H : Hp} {b : Addr} {o : Obj} (e : (hidT h H).get? b = some o) : h.get? b = some o ∧ H b = none := by
  have e' : h.get? b = some o := PySem.W.of_hideAll (trk h H) e
  refine ⟨e', ?_⟩
  cases q : H b with
  | none => rfl
  | some x =>
    have hm : b ∈ trk h H := List.mem_filter.mpr ⟨List.mem_range.mpr (Heap.lt_size e'), by simp [q]⟩
    have z : (hidT h H).get? b = none := PySem.W.hideAll_none (trk h H) hm
    rw [z] at e; cases e

/-! ### OpenK's ledger, filled with every new object but one -/
def allNews (g h : Heap) (L : Addr) : List (Addr × Obj) := (List.range h.objs.size).filterMap fun a => if a = L ∨ (g.get? a).isSome = true then none else (h.get? a).map fun o => (a, o)
theorem mem_allNews {g h : Heap} {L a : Addr} {o : Obj} (h1 : a ≠ L) (h2 : g.get? a = none) (h3 : h.get? a = some o) : (a, o) ∈ allNews g h L :=
  List.mem_filterMap.mpr ⟨a, List.mem_range.mpr (Heap.lt_size h3), by simp [h1, h2, h3]⟩
theorem of_mem_allNews {g h : Heap} {L : Addr} {p : Addr × Obj} (hp : p ∈ allNews g h L) : p.1 ≠ L ∧ g.get? p.1 = none ∧ h.get? p.1 = some p.2 := by
  obtain ⟨b, _, e⟩ := List.mem_filterMap.mp hp
  split at e
  · cases e
  · rename_i hn
    cases q : h.get? b with
    | none => rw [q] at e; simp at e
    | some u =>
      rw [q] at e
      simp only [Option.map_some, Option.some.injEq] at e
      subst e
      refine ⟨fun z => hn (.inl z), ?_, q⟩
      show g.get? b = none
      cases r : g.get? b with
      | none => rfl
      | some v => exact (hn (.inr (by simp [r]))).elim
def rest (g h : Heap) (L d : Addr) : List (Addr × Obj) := (allNews g h L).filter fun p => decide (p.1 ≠ d)
theorem rest_ne {g h : Heap} {L d : Addr} : ∀ p ∈ rest g h L d, p.1 ≠ d := fun p hp => of_decide_eq_true (List.mem_filter.mp hp).2
theorem mem_rest {g h : Heap} {L d a : Addr} {o : Obj} (h1 : a ≠ L) (h2 : g.get? a = none) (h3 : h.get? a = some o) (h4 : a ≠ d) : (a, o) ∈ rest g h L d :=
  List.mem_filter.mpr ⟨mem_allNews h1 h2 h3, decide_eq_true h4⟩
theorem news_all {g h : Heap} {L : Addr} : News g L h (allNews g h L) := fun p hp => let ⟨a, b, c⟩ := of_mem_allNews hp; ⟨c, a, b⟩
theorem news_at {g h : Heap} {L d : Addr} {o : Obj} (h1 : d ≠ L) (h2 : g.get? d = none) (h3 : h.get? d = some o) : News g L h ((d, o) :: rest g h L d) := fun p hp => by
  rcases List.mem_cons.mp hp with rfl | hp
  · exact ⟨h3, h1, h2⟩
  · exact news_all p (List.mem_filter.mp hp).1
/-- behind a rule that changed d alone: all else but the frame is kept -/
theorem kept_of_news {g h h' : Heap} {L d : Addr} {m : Str → Option Value} (k : ∀ b o, g.get? b = some o → h.get? b = some o) (F : Fr g L h' m) (N : News g L h' (rest g h L d)) :
    ∀ b o, b ≠ L → b ≠ d → h.get? b = some o → h'.get? b = some o := fun b o h1 h2 e => by
  cases q : g.get? b with
  | some u =>
    have := k b u q
    rw [e] at this; cases this
    exact F.keep b _ q
  | none => exact (N (b, o) (mem_rest h1 q e h2)).1
end L2

namespace L2
open PySem PySem.Spec PyProof.Rows

/-- the module's facts, over the base: the heap at the law's entry without what is tracked there -/
structure Mod (K : PySem.W.Frag) (mg : Str → Option Value) (base : Heap) : Prop where
  kin : K.In base
  glob : base.Ns mainGlobals mg
  blt : ∃ mb, base.Ns builtinsNs mb ∧ ∀ x : Str, x ≠ "__name__" → mb x = bootBuiltins x
  nolimit : base.NoLimit

/-- the context: a def's body (or a comprehension's block) running. base: fixed through the whole law; s₀, H₀: the entry; outer: the frames whose slots others may change (a def's callers); stack: all frames that run;
   ex: iterators that were made ahead of the entry and are walked here (a comprehension's); fn: the names whose cells were made at the entry (a def: all; a comprehension's block: its own); calm: not within an except suite; pn: pins that every state bears; xe: what is wanted of an exception that leaves the code -/
structure Cx where
  prog : Program
  w : World
  K : PySem.W.Frag
  mg : Str → Option Value
  base : Heap
  A : Around
  N : List Str
  s₀ : Shared
  H₀ : Hp
  env : Env
  outer : List Env
  stack : List Env
  ex : List Addr
  fn : Str → Bool
  calm : Bool
  pn : List (Addr × Obj)
  xe : Value → Shared → Prop
/-- the callers' frames -/
def frs (l : List Env) : List Addr := l.filterMap (·.frame)
abbrev Cx.fs (X : Cx) : List Addr := frs X.outer

def Vis (sc : Scope) (x : Str) : Prop := sc.names.lookup x = some .local ∨ sc.names.lookup x = some .cell ∨ sc.names.lookup x = some .free
def Loc (sc : Scope) (x : Str) : Prop := sc.names.lookup x = some .local ∨ sc.names.lookup x = some .cell
def Look (env : Env) (h : Heap) (m : Str → Option Value) (x : Str) (u : Value) : Prop :=
  (env.kindOf x = some .local ∧ m x = some u) ∨ ((env.kindOf x = some .cell ∨ env.kindOf x = some .free) ∧ ∃ c, env.cells.lookup x = some c ∧ h.IsCell c (some u))

structure Cx.Ok (X : Cx) : Prop where
  mod : Mod X.K X.mg X.base
  kind : X.env.scope.kind = .function
  glob : X.env.globals = mainGlobals
  blt : X.env.builtins = builtinsNs
  above : X.s₀.heap.objs.size ≤ X.env.locals
  inj : ∀ x y c, X.env.cells.lookup x = some c → X.env.cells.lookup y = some c → x = y
  has : ∀ x, (X.env.kindOf x = some .cell ∨ X.env.kindOf x = some .free) → ∃ c, X.env.cells.lookup x = some c
  cab : ∀ x c, X.fn x = true → X.env.cells.lookup x = some c → X.s₀.heap.objs.size ≤ c
  hd : X.calm = true → X.A.handled = none
  frames : X.A.frames = some X.stack
  stk : X.stack = X.outer ∨ (X.stack = X.env :: X.outer ∧ X.env.frame = some X.env.locals)
  exf : ∀ b ∈ X.ex, b ≠ X.env.locals ∧ ∀ x c, X.env.cells.lookup x = some c → c ≠ b
  bs : ∀ b o, X.base.get? b = some o → X.s₀.heap.get? b = some o ∧ X.H₀ b = none
  bsz : X.base.objs.size ≤ X.s₀.heap.objs.size
  noex : ∀ b o, X.base.get? b = some o → b ∉ X.ex
  exfs : ∀ b ∈ X.ex, b ∉ X.fs
  funs : X.s₀.heap.FunFrames X.base X.outer
  frf : ∀ b ∈ X.fs, X.H₀ b = none

structure Inv (X : Cx) (pins : List (Addr × Obj)) (σ : List (Option V)) (H : Hp) (s : Shared) : Prop where
  ok : X.Ok
  os : s.os = X.s₀.os
  bare : AllBare s.gens
  base : Un X.fs X.ex X.H₀ H X.s₀.heap s.heap
  loc : ∃ m, s.heap.Ns X.env.locals m ∧ ∀ (i : Nat) (x : Str) (v : V), X.N[i]? = some x → σ[i]? = some (some v) → Vis X.env.scope x → ∃ u, RelV v u ∧ Look X.env s.heap m x u
  cell : ∀ x c, X.env.cells.lookup x = some c → ∃ v, s.heap.IsCell c v
  free : H X.env.locals = none
  freeC : ∀ x c, X.env.cells.lookup x = some c → H c = none
  pin : ∀ p ∈ X.pn ++ pins, s.heap.get? p.1 = some p.2 ∧ H p.1 = none ∧ p.1 ≠ X.env.locals ∧ p.1 ∉ X.fs ∧ ∀ v, p.2.data ≠ .cell v
  hok : HOk X.prog X.w H s.heap
  len : σ.length = X.N.length

section
variable {X : Cx} {pins : List (Addr × Obj)} {σ : List (Option V)} {H H' : Hp} {s : Shared} {h' : Heap}

theorem Cx.Ok.nofr (ok : X.Ok) {b : Addr} {o : Obj} (e : X.base.get? b = some o) : b ∉ X.fs := fun hb => by
  have := (ok.funs.mem hb).1
  rw [e] at this; cases this
theorem Inv.bs (I : Inv X pins σ H s) : ∀ b o, X.base.get? b = some o → s.heap.get? b = some o ∧ H b = none := fun b o e =>
  ⟨I.base.keep b o (I.ok.bs b o e).1 (I.ok.bs b o e).2 (I.ok.nofr e) (I.ok.noex b o e), I.base.free b o (I.ok.bs b o e).1 (I.ok.bs b o e).2 (I.ok.noex b o e)⟩
theorem Inv.bk (I : Inv X pins σ H s) : ∀ b o, X.base.get? b = some o → s.heap.get? b = some o := fun b o e => (I.bs b o e).1
theorem Inv.mod (I : Inv X pins σ H s) : Mod X.K X.mg X.base := I.ok.mod
theorem Inv.kIn (I : Inv X pins σ H s) : X.K.In s.heap := I.ok.mod.kin.keeps I.bk
theorem Inv.nolimit (I : Inv X pins σ H s) : s.heap.NoLimit := I.ok.mod.nolimit.keeps I.bk
/-- the frame over the base: for OpenK's rules (K.In X.base is I.mod.kin) -/
theorem Inv.fr (I : Inv X pins σ H s) : ∃ m, Fr X.base X.env.locals s.heap m :=
  let ⟨m, hn, _⟩ := I.loc
  ⟨m, hn, I.bk, Nat.le_trans I.ok.bsz I.ok.above⟩
theorem Inv.lt (I : Inv X pins σ H s) : X.env.locals < s.heap.objs.size := let ⟨_, hn, _⟩ := I.loc; hn.lt
theorem Inv.sz (I : Inv X pins σ H s) : X.s₀.heap.objs.size ≤ s.heap.objs.size := Nat.le_trans I.ok.above (Nat.le_of_lt I.lt)
theorem Inv.nofs (I : Inv X pins σ H s) {a : Addr} (h : s.heap.objs.size ≤ a) : a ∉ X.fs := fun hb => by
  obtain ⟨_, o, ho, _⟩ := I.ok.funs.mem hb
  exact absurd (Nat.lt_of_lt_of_le (Heap.lt_size ho) (Nat.le_trans I.sz h)) (Nat.lt_irrefl _)
theorem Inv.cne (I : Inv X pins σ H s) : ∀ x c, X.env.cells.lookup x = some c → c ≠ X.env.locals := fun x c e z => by
  obtain ⟨v, o, ho, hd⟩ := I.cell x c e
  obtain ⟨m, ⟨o', es, ep, ho', hd', _⟩, _⟩ := I.loc
  rw [z, ho'] at ho; cases ho; rw [hd'] at hd; cases hd
theorem Inv.funs (I : Inv X pins σ H s) : s.heap.FunFrames X.base X.outer := by
  have all : ∀ (l : List Env), (∀ b ∈ frs l, b ∈ X.fs) → X.s₀.heap.FunFrames X.base l → s.heap.FunFrames X.base l := by
    intro l
    induction l with
    | nil => intro _ _; trivial
    | cons env r ih =>
      intro hs hl
      obtain ⟨hk, ⟨L, o, hf, hn, ho, hd⟩, hr⟩ := hl
      have hL : L ∈ X.fs := hs L (by unfold frs; rw [List.filterMap_cons, hf]; exact List.mem_cons_self)
      obtain ⟨sl, e⟩ := I.base.slot L o ho (I.ok.frf L hL) hL fun z => I.ok.exfs L z hL
      exact ⟨hk, ⟨L, _, hf, hn, e, hd⟩, ih (fun b hb => hs b (by unfold frs; rw [List.filterMap_cons, hf]; exact List.mem_cons_of_mem _ hb)) hr⟩
  exact all X.outer (fun _ hb => hb) I.ok.funs

/-- the frames that run, for a call -/
theorem Inv.stack (I : Inv X pins σ H s) : s.heap.FunFrames X.base X.stack := by
  rcases I.ok.stk with e | ⟨e, hf⟩
  · rw [e]; exact I.funs
  · rw [e]
    obtain ⟨m, hn, _⟩ := I.loc
    refine .cons (by rw [I.ok.kind]; decide) hf hn ?_ I.funs
    exact Heap.get?_none_of_le (Nat.le_trans I.ok.bsz I.ok.above)
theorem Inv.stkSub (I : Inv X pins σ H s) : ∀ b ∈ frs X.stack, b ∈ X.env.locals :: X.fs := fun b hb => by
  rcases I.ok.stk with e | ⟨e, hf⟩
  · rw [e] at hb; exact List.mem_cons_of_mem _ hb
  · rw [e] at hb
    unfold frs at hb
    rw [List.filterMap_cons, hf] at hb
    exact hb
theorem Inv.stkFree (I : Inv X pins σ H s) : ∀ b ∈ frs X.stack, H b = none := fun b hb => by
  rcases List.mem_cons.mp (I.stkSub b hb) with e | hb
  · rw [e]; exact I.free
  · obtain ⟨_, o, ho, _⟩ := I.ok.funs.mem hb
    exact I.base.free b o ho (I.ok.frf b hb) fun z => I.ok.exfs b z hb

/-- THE STEP: the untracked objects but the frame and the records at ch are kept (the callers' frames up to slots), the frame's map is kept, the new abstract heap is held -/
theorem Inv.step {g' : Array GenState} {t' : Nat} {d' : Drawn} {ch : List Addr} (I : Inv X pins σ H s)
    (hch : ∀ b ∈ ch, (b ∈ X.ex ∨ X.s₀.heap.objs.size ≤ b) ∧ b ≠ X.env.locals ∧ (∀ x c, X.env.cells.lookup x = some c → c ≠ b) ∧ ∀ p ∈ X.pn ++ pins, p.1 ≠ b)
    (keep : ∀ b o, b ≠ X.env.locals → b ∉ X.fs → b ∉ ch → s.heap.get? b = some o → H b = none → h'.get? b = some o)
    (slot : ∀ b o, b ≠ X.env.locals → b ∈ X.fs → b ∉ ch → s.heap.get? b = some o → H b = none → ∃ sl, h'.get? b = some { o with slots := sl }) (free : ∀ b o, b ∉ ch → s.heap.get? b = some o → H b = none → H' b = none)
    (there : ∀ b o, b ∉ ch → s.heap.get? b = some o → ∃ o', h'.get? b = some o')
    (tups : ∀ b xs, H b = some (.tup xs) → H' b = some (.tup xs)) (frzs : ∀ b o u, H b = some (.frz o u) → H' b = some (.frz o u)) (tbls : ∀ b ps, H b = some (.tbl ps) → ∃ more, H' b = some (.tbl (ps ++ more)))
    (ns : ∀ m, s.heap.Ns X.env.locals m → h'.Ns X.env.locals m) (hok : HOk X.prog X.w H' h') (hg : AllBare g') :
    Inv X pins σ H' { s with heap := h', gens := g', drawn := d', toks := t' } := by
  have neL : ∀ b o, X.s₀.heap.get? b = some o → b ≠ X.env.locals := fun b o e => Nat.ne_of_lt (Nat.lt_of_lt_of_le (Heap.lt_size e) I.ok.above)
  have neC : ∀ b o, X.s₀.heap.get? b = some o → b ∉ X.ex → b ∉ ch := fun b o e hx hb => by
    rcases (hch b hb).1 with z | z
    · exact hx z
    · exact absurd (Nat.lt_of_lt_of_le (Heap.lt_size e) z) (Nat.lt_irrefl _)
  have cellK : ∀ x c, X.env.cells.lookup x = some c → ∀ v, s.heap.IsCell c v → h'.IsCell c v := fun x c e v ⟨o, ho, hd⟩ => by
    have nch : c ∉ ch := fun z => (hch c z).2.2.1 x c e rfl
    by_cases hc : c ∈ X.fs
    · obtain ⟨sl, q⟩ := slot c o (I.cne x c e) hc nch ho (I.freeC x c e)
      exact ⟨_, q, hd⟩
    · exact ⟨o, keep c o (I.cne x c e) hc nch ho (I.freeC x c e), hd⟩
  refine ⟨I.ok, I.os, hg, ⟨fun b o e n hb hx => ?_, fun b o e n hb hx => ?_, fun b o e n hx => ?_, fun b o e hx => ?_, fun b xs e => tups b xs (I.base.tups b xs e), fun b o xs e => frzs b o xs (I.base.frzs b o xs e), fun b ps e => ?_⟩, ?_, fun x c e => ?_, ?_, fun x c e => ?_, fun p hp => ?_, hok, I.len⟩
  · exact keep b o (neL b o e) hb (neC b o e hx) (I.base.keep b o e n hb hx) (I.base.free b o e n hx)
  · obtain ⟨sl, e1⟩ := I.base.slot b o e n hb hx
    obtain ⟨sl', e2⟩ := slot b _ (neL b o e) hb (neC b o e hx) e1 (I.base.free b o e n hx)
    exact ⟨sl', e2⟩
  · obtain ⟨o', e1⟩ := I.base.there b o e hx
    exact free b o' (neC b o e hx) e1 (I.base.free b o e n hx)
  · obtain ⟨o', e1⟩ := I.base.there b o e hx
    exact there b o' (neC b o e hx) e1
  · obtain ⟨m1, e1⟩ := I.base.tbls b ps e
    obtain ⟨m2, e2⟩ := tbls b _ e1
    exact ⟨m1 ++ m2, by rw [e2, Array.append_assoc]⟩
  · obtain ⟨m, hn, hl⟩ := I.loc
    refine ⟨m, ns m hn, fun i x v e1 e2 e3 => ?_⟩
    obtain ⟨u, r, l⟩ := hl i x v e1 e2 e3
    refine ⟨u, r, ?_⟩
    rcases l with l | ⟨k, c, e, z⟩
    · exact .inl l
    · exact .inr ⟨k, c, e, cellK x c e _ z⟩
  · obtain ⟨v, z⟩ := I.cell x c e
    exact ⟨v, cellK x c e v z⟩
  · obtain ⟨m, ⟨o, _, _, ho, _⟩, _⟩ := I.loc
    exact free _ o (fun z => (hch _ z).2.1 rfl) ho I.free
  · obtain ⟨v, o, ho, hd⟩ := I.cell x c e
    exact free c o (fun z => (hch c z).2.2.1 x c e rfl) ho (I.freeC x c e)
  · obtain ⟨e, n, ne, nf, d⟩ := I.pin p hp
    have nch : p.1 ∉ ch := fun z => (hch p.1 z).2.2.2 p hp rfl
    exact ⟨keep p.1 p.2 ne nf nch e n, free p.1 p.2 nch e n, ne, nf, d⟩
/-- .. where the frame's own object is kept too -/
theorem Inv.un {t' : Nat} (I : Inv X pins σ H s) (u : Un X.fs [] H H' s.heap h') (hok : HOk X.prog X.w H' h') : Inv X pins σ H' { s with heap := h', toks := t' } := by
  obtain ⟨m, ⟨o, es, ep, ho, r⟩, _⟩ := id I.loc
  obtain ⟨sl, hL⟩ := u.any ho I.free (by simp)
  exact I.step (g' := s.gens) (d' := s.drawn) (ch := []) (fun _ z => nomatch z) (fun b o _ hb _ e n => u.keep b o e n hb (by simp)) (fun b o _ hb _ e n => u.slot b o e n hb (by simp)) (fun b o _ e n => u.free b o e n (by simp)) (fun b o _ e => u.there b o e (by simp)) u.tups u.frzs u.tbls (fun m' hm => by
    obtain ⟨o', es', ep', ho', r'⟩ := hm
    rw [ho] at ho'; cases ho'
    exact ⟨_, es', ep', hL, r'⟩) hok I.bare
/-- behind a call (or a comprehension's block): the slots of this frame may have changed too, the records at ch may have turned -/
theorem Inv.call {g' : Array GenState} {t' : Nat} {d' : Drawn} {ch : List Addr} (I : Inv X pins σ H s) (u : Un (frs X.stack) ch H H' s.heap h') (hok : HOk X.prog X.w H' h') (hg : AllBare g')
    (hch : ∀ b ∈ ch, (b ∈ X.ex ∨ X.s₀.heap.objs.size ≤ b) ∧ b ≠ X.env.locals ∧ (∀ x c, X.env.cells.lookup x = some c → c ≠ b) ∧ ∀ p ∈ X.pn ++ pins, p.1 ≠ b) :
    Inv X pins σ H' { s with heap := h', gens := g', drawn := d', toks := t' } := by
  obtain ⟨m, ⟨o, es, ep, ho, r⟩, _⟩ := id I.loc
  obtain ⟨sl, hL⟩ := u.any ho I.free fun z => (hch _ z).2.1 rfl
  exact I.step (ch := ch) hch (fun b o hL hb hc e n => u.keep b o e n (fun z => (List.mem_cons.mp (I.stkSub b z)).elim hL hb) hc) (fun b o _ _ hc e n => u.any e n hc) (fun b o hc e n => u.free b o e n hc) (fun b o hc e => u.there b o e hc) u.tups u.frzs u.tbls (fun m' hm => by
    obtain ⟨o', es', ep', ho', r'⟩ := hm
    rw [ho] at ho'; cases ho'
    exact ⟨_, es', ep', hL, r'⟩) hok hg
/-- an untracked record of ours (an iterator) has turned -/
theorem Inv.turned {t' : Nat} {it : Addr} (I : Inv X pins σ H s) (k : ∀ b o, b ≠ it → s.heap.get? b = some o → h'.get? b = some o) (hn : H it = none) (hL : it ≠ X.env.locals)
    (h1 : it ∈ X.ex ∨ X.s₀.heap.objs.size ≤ it) (h2 : ∀ x c, X.env.cells.lookup x = some c → c ≠ it) (h3 : ∀ p ∈ X.pn ++ pins, p.1 ≠ it) : Inv X pins σ H { s with heap := h', toks := t' } := by
  have nit : ∀ b u, H b = some u → b ≠ it := fun b u e z => by rw [z, hn] at e; cases e
  refine I.step (g' := s.gens) (d' := s.drawn) (ch := [it]) (fun b hb => ?_) (fun b o _ _ hc e _ => k b o (fun z => hc (by simp [z])) e) (fun b o _ _ hc e _ => ⟨o.slots, k b o (fun z => hc (by simp [z])) e⟩) (fun _ _ _ _ n => n)
    (fun b o hc e => ⟨o, k b o (fun z => hc (by simp [z])) e⟩) (fun _ _ e => e) (fun _ _ _ e => e) (fun b ps e => ⟨#[], by rw [e]; simp⟩) (fun m hm => ?_) (fun b u e => ?_) I.bare
  · have e : b = it := by simpa using hb
    subst e
    exact ⟨h1, hL, h2, h3⟩
  · obtain ⟨o, es, ep, ho, r⟩ := hm
    exact ⟨o, es, ep, k _ o (Ne.symm hL) ho, r⟩
  · refine (I.hok b u e).stay (fun c v hc q => k c v ?_ q) (fun _ q => q) fun _ _ q => q
    rcases hc with z | z
    · rw [z]; exact nit b u e
    · exact nit c _ z
theorem Inv.tok (I : Inv X pins σ H s) (t : Nat) : Inv X pins σ H { s with toks := t } := I.un (h' := s.heap) (t' := t) Un.refl I.hok
/-- all objects kept -/
theorem Inv.kept {t' : Nat} (I : Inv X pins σ H s) (k : ∀ b u, s.heap.get? b = some u → h'.get? b = some u) : Inv X pins σ H { s with heap := h', toks := t' } := I.un (Un.kept k) (I.hok.kept k)
/-- a new object laid and tracked -/
theorem Inv.laid {a : Addr} {o : HO} {t' : Nat} (I : Inv X pins σ H s) (k : ∀ b u, s.heap.get? b = some u → h'.get? b = some u) (hp : s.heap.objs.size ≤ a) (new : ObjOk X.prog X.w (upd H a o) h' a o) :
    Inv X pins σ (upd H a o) { s with heap := h', toks := t' } := I.un (Un.laid k hp (I.hok.fresh hp)) (I.hok.laid k hp new)
/-- an object written -/
theorem Inv.write {x e : Addr} {o : HO} {t' : Nat} (I : Inv X pins σ H s) (mu : Mut (H x)) (he : e = x ∨ H e = some (.own x)) (k : ∀ b u, b ≠ e → s.heap.get? b = some u → h'.get? b = some u) (heo : ∃ u, h'.get? e = some u)
    (new : ObjOk X.prog X.w (upd H x o) h' x o) : Inv X pins σ (upd H x o) { s with heap := h', toks := t' } := I.un (Un.write mu he k heo) (I.hok.write mu he k heo new)
/-- forgetting slots, pins -/
theorem Inv.weak {σ' : List (Option V)} (I : Inv X pins σ H s) (hl : σ'.length = σ.length) (w : ∀ (i : Nat) v, σ'[i]? = some (some v) → σ[i]? = some (some v)) : Inv X pins σ' H s :=
  ⟨I.ok, I.os, I.bare, I.base, let ⟨m, hn, hl'⟩ := I.loc; ⟨m, hn, fun i x v e1 e2 e3 => hl' i x v e1 (w i v e2) e3⟩, I.cell, I.free, I.freeC, I.pin, I.hok, hl.trans I.len⟩
theorem Inv.pins_of {pins' : List (Addr × Obj)} (I : Inv X pins σ H s) (h : ∀ p ∈ pins', s.heap.get? p.1 = some p.2 ∧ H p.1 = none ∧ p.1 ≠ X.env.locals ∧ p.1 ∉ X.fs ∧ ∀ v, p.2.data ≠ .cell v) : Inv X pins' σ H s :=
  ⟨I.ok, I.os, I.bare, I.base, I.loc, I.cell, I.free, I.freeC, fun p hp => (List.mem_append.mp hp).elim (fun z => I.pin p (List.mem_append_left _ z)) (h p), I.hok, I.len⟩

theorem nodup_ix {N : List Str} (hN : N.Nodup) {i j : Nat} {x : Str} (a : N[i]? = some x) (b : N[j]? = some x) : i = j := by
  obtain ⟨h1, e1⟩ := List.getElem?_eq_some_iff.mp a
  obtain ⟨h2, e2⟩ := List.getElem?_eq_some_iff.mp b
  exact (List.getElem_inj hN).mp (e1.trans e2.symm)

/-- a name is stored; what changed -/
theorem store_ok2 {M : Model} {A : Around} {E : Value → Shared → Prop} {i : Nat} {x : Str} {v : V} {u : Value} {Q : Unit → Shared → Prop} (I : Inv X pins σ H s) (hN : X.N.Nodup) (hi : X.N[i]? = some x) (hx : Loc X.env.scope x) (r : RelV v u)
    (h : ∀ s', Inv X pins (σ.set i (some v)) H s' → (∃ a, Heap.SameBut a s.heap s'.heap ∧ (a = X.env.locals ∨ X.env.cells.lookup x = some a)) → Q () s') (hf : X.fn x = true ∨ X.env.scope.names.lookup x = some .local := by first | exact .inl rfl | exact .inr rfl | assumption) : wpAny M A (storeName X.env x u) Q E s := by
  obtain ⟨m, hn, hl⟩ := id I.loc
  have hcls : (X.env.scope.kind == .class || (X.env.scope.kind == .module && X.env.locals != X.env.globals)) = false := by rw [I.ok.kind]; rfl
  have hiσ : i < σ.length := by rw [I.len]; exact (List.getElem?_eq_some_iff.mp hi).1
  have cne := I.cne
  have tracked : ∀ {a : Addr} {h' : Heap}, (∃ o, s.heap.get? a = some o ∧ H a = none) → Heap.SameBut a s.heap h' → HOk X.prog X.w H h' := fun {a h'} ha hs b ob e => by
    obtain ⟨_, _, hfree⟩ := ha
    refine (I.hok b ob e).stay (fun c w' hc q => (hs.2 c ?_).trans q) (fun _ q => q) fun _ _ q => q
    rintro rfl
    rcases hc with rfl | hc
    · rw [hfree] at e; cases e
    · rw [hfree] at hc; cases hc
  rcases hx with hk | hk
  · refine wpAny_storeName_local hk hn (fun h' hn' hs => ?_) hcls
    obtain ⟨oL, _, _, hoL, _⟩ := id hn
    refine h _ ⟨I.ok, I.os, I.bare, ⟨fun b o e n hb hx => ?_, fun b o e n hb hx => ?_, I.base.free, fun b o e hx => ?_, I.base.tups, I.base.frzs, I.base.tbls⟩, ⟨_, hn', fun j y v' e1 e2 e3 => ?_⟩, fun y c e => ?_, I.free, I.freeC, fun p hp => ?_, tracked ⟨oL, hoL, I.free⟩ hs, by simpa using I.len⟩ ⟨_, hs, .inl rfl⟩
    · exact (hs.2 b (Nat.ne_of_lt (Nat.lt_of_lt_of_le (Heap.lt_size e) I.ok.above))).trans (I.base.keep b o e n hb hx)
    · obtain ⟨sl, e1⟩ := I.base.slot b o e n hb hx
      exact ⟨sl, (hs.2 b (Nat.ne_of_lt (Nat.lt_of_lt_of_le (Heap.lt_size e) I.ok.above))).trans e1⟩
    · obtain ⟨o', e1⟩ := I.base.there b o e hx
      exact ⟨o', (hs.2 b (Nat.ne_of_lt (Nat.lt_of_lt_of_le (Heap.lt_size e) I.ok.above))).trans e1⟩
    · by_cases hj : j = i
      · subst hj
        rw [hi] at e1; cases e1
        rw [List.getElem?_set_self hiσ] at e2
        cases e2
        exact ⟨u, r, .inl ⟨hk, by simp⟩⟩
      · rw [List.getElem?_set_ne (Ne.symm hj)] at e2
        obtain ⟨u', r', q⟩ := hl j y v' e1 e2 e3
        refine ⟨u', r', ?_⟩
        rcases q with ⟨k, e⟩ | ⟨k, c, e, z⟩
        · refine .inl ⟨k, ?_⟩
          have : y ≠ x := fun e => hj (nodup_ix hN e1 (e ▸ hi))
          simp [this, e]
        · exact .inr ⟨k, c, e, z.sameBut hs (cne y c e)⟩
    · obtain ⟨w', z⟩ := I.cell y c e
      exact ⟨w', z.sameBut hs (cne y c e)⟩
    · obtain ⟨e, n, ne, nf, d⟩ := I.pin p hp
      exact ⟨(hs.2 p.1 ne).trans e, n, ne, nf, d⟩
  · have hfn : X.fn x = true := by
      rcases hf with z | z
      · exact z
      · rw [z] at hk; cases hk
    obtain ⟨c, hc⟩ := I.ok.has x (.inl hk)
    obtain ⟨w', z⟩ := I.cell x c hc
    refine wpAny_storeName_cell I.ok.kind hk hc z (fun h' hc' hs => ?_)
    obtain ⟨oc, hoc, hocd⟩ := id z
    refine h { s with heap := h' } ⟨I.ok, I.os, I.bare, ⟨fun b o e n hb hx => ?_, fun b o e n hb hx => ?_, I.base.free, fun b o e hx => ?_, I.base.tups, I.base.frzs, I.base.tbls⟩, ⟨m, hn.sameBut hs (Ne.symm (cne x c hc)), fun j y v' e1 e2 e3 => ?_⟩, fun y c' e => ?_, I.free, I.freeC, fun p hp => ?_, tracked ⟨oc, hoc, I.freeC x c hc⟩ hs, by simpa using I.len⟩ ⟨c, hs, .inr hc⟩
    · exact (hs.2 b (Nat.ne_of_lt (Nat.lt_of_lt_of_le (Heap.lt_size e) (I.ok.cab x c hfn hc)))).trans (I.base.keep b o e n hb hx)
    · obtain ⟨sl, e1⟩ := I.base.slot b o e n hb hx
      exact ⟨sl, (hs.2 b (Nat.ne_of_lt (Nat.lt_of_lt_of_le (Heap.lt_size e) (I.ok.cab x c hfn hc)))).trans e1⟩
    · obtain ⟨o', e1⟩ := I.base.there b o e hx
      exact ⟨o', (hs.2 b (Nat.ne_of_lt (Nat.lt_of_lt_of_le (Heap.lt_size e) (I.ok.cab x c hfn hc)))).trans e1⟩
    · by_cases hj : j = i
      · subst hj
        rw [hi] at e1; cases e1
        rw [List.getElem?_set_self hiσ] at e2
        cases e2
        exact ⟨u, r, .inr ⟨.inl hk, c, hc, hc'⟩⟩
      · rw [List.getElem?_set_ne (Ne.symm hj)] at e2
        obtain ⟨u', r', q⟩ := hl j y v' e1 e2 e3
        refine ⟨u', r', ?_⟩
        rcases q with q | ⟨k, c', e, z'⟩
        · exact .inl q
        · refine .inr ⟨k, c', e, z'.sameBut hs ?_⟩
          rintro rfl
          exact hj (nodup_ix hN e1 (I.ok.inj _ _ _ e hc ▸ hi))
    · by_cases hcc : c' = c
      · subst hcc; exact ⟨_, hc'⟩
      · obtain ⟨w2, z2⟩ := I.cell y c' e
        exact ⟨w2, z2.sameBut hs hcc⟩
    · obtain ⟨e, n, ne, nf, d⟩ := I.pin p hp
      refine ⟨(hs.2 p.1 ?_).trans e, n, ne, nf, d⟩
      intro q
      rw [q, hoc] at e
      have q' : oc = p.2 := Option.some.inj e
      exact d w' (by rw [← q']; exact hocd)
theorem store_ok {M : Model} {A : Around} {E : Value → Shared → Prop} {i : Nat} {x : Str} {v : V} {u : Value} {Q : Unit → Shared → Prop} (I : Inv X pins σ H s) (hN : X.N.Nodup) (hi : X.N[i]? = some x) (hx : Loc X.env.scope x) (r : RelV v u)
    (h : ∀ s', Inv X pins (σ.set i (some v)) H s' → Q () s') (hf : X.fn x = true ∨ X.env.scope.names.lookup x = some .local := by first | exact .inl rfl | exact .inr rfl | assumption) : wpAny M A (storeName X.env x u) Q E s :=
  store_ok2 I hN hi hx r (fun s' I' _ => h s' I') hf
/-- behind a call or a block, the state as it is -/
theorem Inv.call' {s' : Shared} {ch : List Addr} (I : Inv X pins σ H s) (ho : s'.os = s.os) (u : Un (frs X.stack) ch H H' s.heap s'.heap) (hok : HOk X.prog X.w H' s'.heap) (hg : AllBare s'.gens)
    (hch : ∀ b ∈ ch, (b ∈ X.ex ∨ X.s₀.heap.objs.size ≤ b) ∧ b ≠ X.env.locals ∧ (∀ x c, X.env.cells.lookup x = some c → c ≠ b) ∧ ∀ p ∈ X.pn ++ pins, p.1 ≠ b) : Inv X pins σ H' s' := by
  obtain ⟨h', g', d', t', o'⟩ := s'
  have e : o' = s.os := ho
  subst e
  exact I.call (g' := g') (t' := t') (d' := d') u hok hg hch
end

/-! ### the judgements -/
/-- an exception: its class, its own dict's address (where it has one), the abstract heap behind it -/
abbrev XK := Value → Option Addr → Hp → Prop
abbrev St := List (Option V)
abbrev VK := V → Hp → Prop
/-- an expression's reading; a test's; an argument list's -/
abbrev TE := St → Hp → VK → Prop
abbrev TT := St → Hp → (Bool → Hp → Prop) → Prop
abbrev TA := St → Hp → (List V → Hp → Prop) → Prop
/-- what is wanted behind a statement -/
structure Ends where
  nx : St → Hp → Prop
  rt : VK
  bk : St → Hp → Prop := fun _ _ => False
  ct : St → Hp → Prop := fun _ _ => False
abbrev TS := Ends → St → Hp → Prop

def EP (X : Cx) (pins : List (Addr × Obj)) (σ : St) (Q : VK) (u : Value) (s' : Shared) : Prop := ∃ v H', Inv X pins σ H' s' ∧ RelV v u ∧ Q v H'
def TP (X : Cx) (pins : List (Addr × Obj)) (σ : St) (Q : Bool → Hp → Prop) (b : Bool) (s' : Shared) : Prop := ∃ H', Inv X pins σ H' s' ∧ Q b H'
def AP (X : Cx) (pins : List (Addr × Obj)) (σ : St) (Q : List V → Hp → Prop) (us : List Value) (s' : Shared) : Prop := ∃ vs H', Inv X pins σ H' s' ∧ Vals vs us ∧ Q vs H'
def SP (X : Cx) (pins : List (Addr × Obj)) (D : Ends) (f : Flow) (s' : Shared) : Prop :=
  match f with
  | .next => ∃ σ' H', Inv X pins σ' H' s' ∧ D.nx σ' H'
  | .brk => ∃ σ' H', Inv X pins σ' H' s' ∧ D.bk σ' H'
  | .cont => ∃ σ' H', Inv X pins σ' H' s' ∧ D.ct σ' H'
  | .ret u => ∃ v σ' H', Inv X pins σ' H' s' ∧ RelV v u ∧ D.rt v H'

def PE (X : Cx) (e : Expr) (t : TE) : Prop :=
  ∀ (pins : List (Addr × Obj)) (s : Shared) (σ : St) (H : Hp) (Q : VK), Inv X pins σ H s → t σ H Q → wpAny (model X.prog X.w) X.A (eval e X.env) (EP X pins σ Q) X.xe s
def PT (X : Cx) (e : Expr) (t : TT) : Prop :=
  ∀ (pins : List (Addr × Obj)) (s : Shared) (σ : St) (H : Hp) (Q : Bool → Hp → Prop), Inv X pins σ H s → t σ H Q → wpAny (model X.prog X.w) X.A (isTrue e X.env (eval e X.env)) (TP X pins σ Q) X.xe s
/-- a test whatever its 'whole' is (and, or) -/
def PW (X : Cx) (e : Expr) (t : TT) : Prop :=
  ∀ (whole : Sem Value) (pins : List (Addr × Obj)) (s : Shared) (σ : St) (H : Hp) (Q : Bool → Hp → Prop), Inv X pins σ H s → t σ H Q → wpAny (model X.prog X.w) X.A (isTrue e X.env whole) (TP X pins σ Q) X.xe s
theorem PW.pt {X : Cx} {e : Expr} {t : TT} (h : PW X e t) : PT X e t := h _
/-- an argument list (no star), from the left -/
def PA (X : Cx) (es : List Expr) (t : TA) : Prop :=
  ∀ (pos : Pos) (pins : List (Addr × Obj)) (s : Shared) (σ : St) (H : Hp) (Q : List V → Hp → Prop), Inv X pins σ H s → t σ H Q → wpAny (model X.prog X.w) X.A (spliced (backTo pos (starEach es X.env))) (AP X pins σ Q) X.xe s
def PS (X : Cx) (st : Stmt) (t : TS) : Prop :=
  ∀ (pins : List (Addr × Obj)) (s : Shared) (σ : St) (H : Hp) (D : Ends), Inv X pins σ H s → t D σ H → wpAny (model X.prog X.w) X.A (exec st X.env) (SP X pins D) X.xe s
def PSs (X : Cx) (st : List Stmt) (t : TS) : Prop :=
  ∀ (pins : List (Addr × Obj)) (s : Shared) (σ : St) (H : Hp) (D : Ends), Inv X pins σ H s → t D σ H → wpAny (model X.prog X.w) X.A (execs st X.env) (SP X pins D) X.xe s
/-- weaken the end -/
theorem thn {α : Type} {t : Sem α} {Q Q' : α → Shared → Prop} {M : Model} {A : Around} {E : Value → Shared → Prop} {s : Shared} (h : wpAny M A t Q E s) (hQ : ∀ a s, Q a s → Q' a s) : wpAny M A t Q' E s := wpAny_mono h hQ fun _ _ x => x
end L2

namespace L2
open PySem PySem.Spec PyProof.Rows
section
variable {X : Cx}

/-- two expressions in a row -/
theorem bin {a b : Expr} {ta tb : TE} (ha : PE X a ta) (hb : PE X b tb) {pins : List (Addr × Obj)} {s : Shared} {σ : St} {H : Hp} {R : V → V → Hp → Prop} (I : Inv X pins σ H s) (h : ta σ H fun x H1 => tb σ H1 fun y H2 => R x y H2)
    {α : Type} {Q : α → Shared → Prop} {f : Value → Value → Sem α}
    (hf : ∀ v u s2 x y H2, Inv X pins σ H2 s2 → RelV x v → RelV y u → R x y H2 → wpAny (model X.prog X.w) X.A (f v u) Q X.xe s2) :
    wpAny (model X.prog X.w) X.A (eval a X.env) (fun v s₁ => wpAny (model X.prog X.w) X.A (eval b X.env) (fun u s₂ => wpAny (model X.prog X.w) X.A (f v u) Q X.xe s₂) X.xe s₁) X.xe s := by
  refine thn (ha pins s σ H _ I h) fun v s1 ⟨x, H1, I1, r1, q1⟩ => ?_
  refine thn (hb pins s1 σ H1 _ I1 q1) fun u s2 ⟨y, H2, I2, r2, q2⟩ => ?_
  exact hf v u s2 x y H2 I2 r1 r2 q2

/-! ### names and constants -/
def tVar (i : Nat) : TE := fun σ H Q => ∃ v, σ[i]? = some (some v) ∧ Q v H
def tC (v : V) : TE := fun _ H Q => Q v H
theorem pe_var {i : Nat} {x : Str} {pos : Pos} (hN : X.N[i]? = some x) (hv : Vis X.env.scope x) (hd : (x == ("__debug__" : Str)) = false := by decide) (hcd : (x == ("__classdict__" : Str)) = false := by decide) : PE X (.Name x pos) (tVar i) := by
  intro pins s σ H Q I h
  obtain ⟨v, e, h⟩ := h
  obtain ⟨m, hn, hl⟩ := I.loc
  obtain ⟨u, r, l⟩ := hl i x v hN e hv
  have fin : EP X pins σ Q u s := ⟨v, H, I, r, h⟩
  rcases l with ⟨hk, hm⟩ | ⟨hk, c, hc, hcell⟩
  · exact wpAny_Name (wpAny_loadName_local I.ok.kind hk hn hm fin) hd
  · rcases hk with hk | hk
    · exact wpAny_Name (wpAny_loadName_cell I.ok.kind hk hc hcell fin) hd
    · exact wpAny_Name (wpAny_loadName_free I.ok.kind hk hc hcell fin hcd) hd
theorem pe_int {i j pos} : PE X (.Constant (.int i) j pos) (tC (.int i)) := fun _ _ _ H _ I h => wpAny_Constant_int ⟨.int i, H, I.tok _, ⟨_, rfl⟩, h⟩
theorem pe_bl {b j pos} : PE X (.Constant (.bool b) j pos) (tC (.bl b)) := fun _ _ _ H _ I h => Constant_bool ⟨.bl b, H, I, rfl, h⟩
theorem pe_non {j pos} : PE X (.Constant .none j pos) (tC .non) := fun _ _ _ H _ I h => Constant_none ⟨.non, H, I, rfl, h⟩
theorem pe_str {x j pos} : PE X (.Constant (.str x) j pos) (tC (.str x)) := fun _ _ _ H _ I h => Calls.Constant_str ⟨.str x, H, I.tok _, ⟨_, rfl⟩, h⟩

/-- a global name of the def -/
def Gl (X : Cx) (x : Str) : Prop := X.env.kindOf x = some .globalImplicit
theorem ld_glob {E : Value → Shared → Prop} {pins : List (Addr × Obj)} {s : Shared} {σ : St} {H : Hp} {x : Str} {u : Value} {pos : Pos} {Q : Value → Shared → Prop} (I : Inv X pins σ H s) (hg : Gl X x) (hm : X.mg x = some u) (h : Q u s)
    (hd : (x == ("__debug__" : Str)) = false := by decide) : wpAny (model X.prog X.w) X.A (eval (.Name x pos) X.env) Q E s :=
  Calls.Name_function_global I.ok.kind hg (Calls.loadGlobal_global (by rw [I.ok.glob]; exact I.mod.glob.keeps I.bk) hm h) hd
theorem ld_blt {E : Value → Shared → Prop} {pins : List (Addr × Obj)} {s : Shared} {σ : St} {H : Hp} {x : Str} {u : Value} {pos : Pos} {Q : Value → Shared → Prop} (I : Inv X pins σ H s) (hg : Gl X x) (hm : X.mg x = none) (hv : bootBuiltins x = some u) (h : Q u s)
    (hn : x ≠ "__name__" := by decide) (hd : (x == ("__debug__" : Str)) = false := by decide) : wpAny (model X.prog X.w) X.A (eval (.Name x pos) X.env) Q E s := by
  obtain ⟨mb, h1, h2⟩ := I.mod.blt
  exact Calls.Name_function_global I.ok.kind hg (Calls.loadGlobal_builtin (by rw [I.ok.glob]; exact I.mod.glob.keeps I.bk) hm (by rw [I.ok.blt]; exact h1.keeps I.bk) ((h2 x hn).trans hv) h) hd
/-- a module's constant, a class, a function, as a value -/
theorem pe_glob {x : Str} {v : V} {u : Value} {pos : Pos} (hg : Gl X x) (hm : X.mg x = some u) (r : RelV v u) (hd : (x == ("__debug__" : Str)) = false := by decide) : PE X (.Name x pos) (tC v) :=
  fun _ _ _ H _ I h => ld_glob I hg hm ⟨v, H, I, r, h⟩ hd
theorem pe_bltn {x : Str} {v : V} {u : Value} {pos : Pos} (hg : Gl X x) (hm : X.mg x = none) (hv : bootBuiltins x = some u) (r : RelV v u) (hn : x ≠ "__name__" := by decide) (hd : (x == ("__debug__" : Str)) = false := by decide) : PE X (.Name x pos) (tC v) :=
  fun _ _ _ H _ I h => ld_blt I hg hm hv ⟨v, H, I, r, h⟩ hn hd

/-! ### arithmetic -/
/-- two ints -/
def t2I (ta tb : TE) (k : Int → Int → Hp → Prop) : St → Hp → Prop := fun σ H => ta σ H fun x H1 => tb σ H1 fun y H2 => ∃ i j, x = .int i ∧ y = .int j ∧ k i j H2
def tAdd (ta tb : TE) : TE := fun σ H Q => t2I ta tb (fun i j H2 => Q (.int (i + j)) H2) σ H
def tSub (ta tb : TE) : TE := fun σ H Q => t2I ta tb (fun i j H2 => Q (.int (i - j)) H2) σ H
/-- the left factor below 2^64 -/
def tMul (ta tb : TE) : TE := fun σ H Q => t2I ta tb (fun i j H2 => (-(2 ^ 64) < i ∧ i < 2 ^ 64) ∧ Q (.int (i * j)) H2) σ H
variable {a b : Expr} {ta tb : TE} {pos : Pos}
theorem pe_add (ha : PE X a ta) (hb : PE X b tb) : PE X (.BinOp a .Add b pos) (tAdd ta tb) := by
  intro pins s σ H Q I h
  refine wpAny_BinOp (bin ha hb I h fun v u s2 x y H2 I2 rx ry q => ?_)
  obtain ⟨i, j, rfl, rfl, q⟩ := q
  obtain ⟨t, rfl⟩ := rx
  obtain ⟨t', rfl⟩ := ry
  exact add_int ⟨.int _, H2, I2.tok _, ⟨_, rfl⟩, q⟩
theorem pe_sub (ha : PE X a ta) (hb : PE X b tb) : PE X (.BinOp a .Sub b pos) (tSub ta tb) := by
  intro pins s σ H Q I h
  refine wpAny_BinOp (bin ha hb I h fun v u s2 x y H2 I2 rx ry q => ?_)
  obtain ⟨i, j, rfl, rfl, q⟩ := q
  obtain ⟨t, rfl⟩ := rx
  obtain ⟨t', rfl⟩ := ry
  exact sub_int ⟨.int _, H2, I2.tok _, ⟨_, rfl⟩, q⟩
theorem pe_mul (ha : PE X a ta) (hb : PE X b tb) : PE X (.BinOp a .Mult b pos) (tMul ta tb) := by
  intro pins s σ H Q I h
  refine wpAny_BinOp (bin ha hb I h fun v u s2 x y H2 I2 rx ry q => ?_)
  obtain ⟨i, j, rfl, rfl, ⟨q1, q2⟩, q⟩ := q
  obtain ⟨t, rfl⟩ := rx
  obtain ⟨t', rfl⟩ := ry
  exact mul_int ⟨.int _, H2, I2.tok _, ⟨_, rfl⟩, q⟩ (.of_left (intBits_le_64 q1 q2))

/-! ### comparisons -/
def PC (X : Cx) (op : CmpOp) (a b : Expr) (t : TE) : Prop :=
  ∀ (pins : List (Addr × Obj)) (s : Shared) (σ : St) (H : Hp) (Q : VK), Inv X pins σ H s → t σ H Q →
    wpAny (model X.prog X.w) X.A (eval a X.env) (fun v s₁ => wpAny (model X.prog X.w) X.A (eval b X.env) (fun u s₂ => wpAny (model X.prog X.w) X.A (compareOp op v u) (EP X pins σ Q) X.xe s₂) X.xe s₁) X.xe s
theorem nobehind (b : Expr) {op : CmpOp} (h : op ≠ .In) (h2 : op ≠ .NotIn) : behindInMarks op b = false := by
  have e1 : (op == CmpOp.In) = false := by cases op <;> first | rfl | exact absurd rfl h
  have e2 : (op == CmpOp.NotIn) = false := by cases op <;> first | rfl | exact absurd rfl h2
  cases b <;> simp [behindInMarks, e1, e2]
def tCmp (p : Int → Int → Bool) (ta tb : TE) : TE := fun σ H Q => t2I ta tb (fun i j H2 => Q (.bl (p i j)) H2) σ H
abbrev tLt : TE → TE → TE := tCmp fun i j => decide (i < j)
abbrev tLe : TE → TE → TE := tCmp fun i j => decide (i ≤ j)
abbrev tGt : TE → TE → TE := tCmp fun i j => decide (j < i)
abbrev tGe : TE → TE → TE := tCmp fun i j => decide (j ≤ i)
abbrev tEqI : TE → TE → TE := tCmp fun i j => decide (i = j)
abbrev tNeI : TE → TE → TE := tCmp fun i j => !decide (i = j)
/-- a comparison of two ints, by its rule -/
theorem pc_int {op : CmpOp} {p : Int → Int → Bool} (ha : PE X a ta) (hb : PE X b tb)
    (rule : ∀ (i j : Int) (t u : Tok) (Q : Value → Shared → Prop) (s : Shared), Q (.bool (p i j)) s → wpAny (model X.prog X.w) X.A (compareOp op (.int i t) (.int j u)) Q X.xe s) : PC X op a b (tCmp p ta tb) := by
  intro pins s σ H Q I h
  refine bin ha hb I h fun v u s2 x y H2 I2 rx ry q => ?_
  obtain ⟨i, j, rfl, rfl, q⟩ := q
  obtain ⟨t, rfl⟩ := rx
  obtain ⟨t', rfl⟩ := ry
  exact rule i j t t' _ s2 ⟨.bl _, H2, I2, rfl, q⟩
theorem pc_lt (ha : PE X a ta) (hb : PE X b tb) : PC X .Lt a b (tLt ta tb) := pc_int ha hb fun _ _ _ _ _ _ h => lt_int h
theorem pc_le (ha : PE X a ta) (hb : PE X b tb) : PC X .LtE a b (tLe ta tb) := pc_int ha hb fun _ _ _ _ _ _ h => le_int h
theorem pc_gt (ha : PE X a ta) (hb : PE X b tb) : PC X .Gt a b (tGt ta tb) := pc_int ha hb fun _ _ _ _ _ _ h => gt_int h
theorem pc_ge (ha : PE X a ta) (hb : PE X b tb) : PC X .GtE a b (tGe ta tb) := pc_int ha hb fun _ _ _ _ _ _ h => ge_int h
theorem pc_eqI (ha : PE X a ta) (hb : PE X b tb) : PC X .Eq a b (tEqI ta tb) := pc_int ha hb fun _ _ _ _ _ _ h => eq_int (by rw [Bool.beq_eq_decide_eq]; exact h)
theorem pc_neI (ha : PE X a ta) (hb : PE X b tb) : PC X .NotEq a b (tNeI ta tb) := pc_int ha hb fun _ _ _ _ _ _ h => ne_int (by rw [bne, Bool.beq_eq_decide_eq]; exact h)
/-- is None -/
def tIsN (ta : TE) : TE := fun σ H Q => ta σ H fun x H1 => Q (.bl (decide (x = .non))) H1
def tNotN (ta : TE) : TE := fun σ H Q => ta σ H fun x H1 => Q (.bl (!decide (x = .non))) H1
theorem RelV.none_iff {x : V} {v : Value} (r : RelV x v) : (v == Value.none) = decide (x = .non) := by
  cases x with
  | non => cases r; rfl
  | bl _ => cases r; rfl
  | int _ => obtain ⟨t, rfl⟩ := r; rfl
  | str _ => obtain ⟨t, rfl⟩ := r; rfl
  | byt _ => obtain ⟨t, rfl⟩ := r; rfl
  | flt _ => obtain ⟨t, rfl⟩ := r; rfl
  | ref _ => cases r; rfl
  | ty _ => cases r; rfl
theorem pc_isN {j pos'} (ha : PE X a ta) : PC X .Is a (.Constant .none j pos') (tIsN ta) := by
  intro pins s σ H Q I h
  refine thn (ha pins s σ H _ I h) fun v s1 ⟨x, H1, I1, r1, q1⟩ => ?_
  exact Constant_none (is_none_gen ⟨.bl _, H1, I1, by rw [r1.none_iff]; rfl, q1⟩)
theorem pc_notN {j pos'} (ha : PE X a ta) : PC X .IsNot a (.Constant .none j pos') (tNotN ta) := by
  intro pins s σ H Q I h
  refine thn (ha pins s σ H _ I h) fun v s1 ⟨x, H1, I1, r1, q1⟩ => ?_
  exact Constant_none (isnot_none_gen ⟨.bl _, H1, I1, by rw [r1.none_iff]; rfl, q1⟩)
/-- a comparison as a value, as a test -/
def tB (t : TE) : TT := fun σ H Q => t σ H fun x H1 => ∃ c, x = .bl c ∧ Q c H1
theorem pe_cmp {op : CmpOp} {t : TE} (h : PC X op a b t) (h1 : behindInMarks op b = false := by first | exact nobehind _ (by decide) (by decide) | rfl) : PE X (.Compare a [op] [b] pos) t := fun pins s σ H Q I hw => wpAny_Compare1 (h pins s σ H Q I hw) h1
theorem pt_cmp {op : CmpOp} {t : TE} (h : PC X op a b t) (h1 : behindInMarks op b = false := by first | exact nobehind _ (by decide) (by decide) | rfl) : PT X (.Compare a [op] [b] pos) (tB t) := by
  intro pins s σ H Q I hw
  refine wpAny_isTrue_Compare1 (thn (h pins s σ H _ I hw) fun v s1 h1 => thn h1 fun u s2 h2 => thn h2 fun c s3 ⟨x, H1, I1, r1, q1⟩ => ?_) h1
  obtain ⟨d, rfl, q⟩ := q1
  cases r1
  exact wpAny_truthy_bool ⟨H1, I1, q⟩
/-- an expression whose value is a bool, as a test -/
theorem pt_val {e : Expr} {t : TE} (h : PE X e t) (he : ∀ whole, isTrue e X.env whole = (do let v ← whole; standAt e.pos; holding [v] (truthy v)) := by intro _; rfl) : PT X e (tB t) := by
  intro pins s σ H Q I hw
  refine isTrue_plain (thn (h pins s σ H _ I hw) fun v s1 ⟨x, H1, I1, r1, q1⟩ => ?_) (he _)
  obtain ⟨d, rfl, q⟩ := q1
  cases r1
  exact wpAny_truthy_bool ⟨H1, I1, q⟩

/-! ### and, or, not -/
variable {tA tB' : TT} {rest : List Expr}
def tAnd (t u : TT) : TT := fun σ H Q => t σ H fun c H1 => if c = true then u σ H1 Q else Q false H1
def tOr (t u : TT) : TT := fun σ H Q => t σ H fun c H1 => if c = true then Q true H1 else u σ H1 Q
def tNot (t : TT) : TT := fun σ H Q => t σ H fun c H1 => Q (!c) H1
theorem pw_and1 (ha : PT X a tA) : PW X (.BoolOp .And [a] pos) tA := by
  intro wh pins s σ H Q I h
  refine isTrue_and (thn (ha pins s σ H Q I h) fun c s1 e => ?_)
  cases c with
  | true => exact isTrue_and_nil e
  | false => exact e
theorem pw_or1 (ha : PT X a tA) : PW X (.BoolOp .Or [a] pos) tA := by
  intro wh pins s σ H Q I h
  refine isTrue_or (thn (ha pins s σ H Q I h) fun c s1 e => ?_)
  cases c with
  | false => exact isTrue_or_nil e
  | true => exact e
theorem pw_and (ha : PT X a tA) (hb : PW X (.BoolOp .And (b :: rest) pos) tB') : PW X (.BoolOp .And (a :: b :: rest) pos) (tAnd tA tB') := by
  intro wh pins s σ H Q I h
  refine isTrue_and (thn (ha pins s σ H _ I h) fun c s1 ⟨H1, I1, q1⟩ => ?_)
  cases c with
  | true => exact hb wh pins s1 σ H1 Q I1 q1
  | false => exact ⟨H1, I1, q1⟩
theorem pw_or (ha : PT X a tA) (hb : PW X (.BoolOp .Or (b :: rest) pos) tB') : PW X (.BoolOp .Or (a :: b :: rest) pos) (tOr tA tB') := by
  intro wh pins s σ H Q I h
  refine isTrue_or (thn (ha pins s σ H _ I h) fun c s1 ⟨H1, I1, q1⟩ => ?_)
  cases c with
  | true => exact ⟨H1, I1, q1⟩
  | false => exact hb wh pins s1 σ H1 Q I1 q1
theorem pt_not (ha : PT X a tA) : PT X (.UnaryOp .Not a pos) (tNot tA) := by
  intro pins s σ H Q I h
  exact isTrue_not (ha pins s σ H (fun c H1 => Q (!c) H1) I h)
/-- .. as values (bools) -/
def tAndV (ta tb : TE) : TE := fun σ H Q => ta σ H fun x H1 => ∃ c, x = .bl c ∧ if c = true then tb σ H1 Q else Q (.bl false) H1
def tOrV (ta tb : TE) : TE := fun σ H Q => ta σ H fun x H1 => ∃ c, x = .bl c ∧ if c = true then Q (.bl true) H1 else tb σ H1 Q
def tNotV (ta : TE) : TE := fun σ H Q => ta σ H fun x H1 => ∃ c, x = .bl c ∧ Q (.bl (!c)) H1
theorem pe_one {op} {t : TE} (h : PE X a t) : PE X (.BoolOp op [a] pos) t := fun pins s σ H Q I hw => BoolOp_one (h pins s σ H Q I hw)
theorem pe_and (ha : PE X a ta) (hb : PE X (.BoolOp .And (b :: rest) pos) tb) : PE X (.BoolOp .And (a :: b :: rest) pos) (tAndV ta tb) := by
  intro pins s σ H Q I h
  refine BoolOp_and (thn (ha pins s σ H _ I h) fun v s1 ⟨x, H1, I1, r1, q1⟩ => ?_)
  obtain ⟨c, rfl, q1⟩ := q1
  cases r1
  refine wpAny_truthy_bool ?_
  cases c with
  | true => exact hb pins s1 σ H1 Q I1 q1
  | false => exact ⟨.bl false, H1, I1, rfl, q1⟩
theorem pe_or (ha : PE X a ta) (hb : PE X (.BoolOp .Or (b :: rest) pos) tb) : PE X (.BoolOp .Or (a :: b :: rest) pos) (tOrV ta tb) := by
  intro pins s σ H Q I h
  refine BoolOp_or (thn (ha pins s σ H _ I h) fun v s1 ⟨x, H1, I1, r1, q1⟩ => ?_)
  obtain ⟨c, rfl, q1⟩ := q1
  cases r1
  refine wpAny_truthy_bool ?_
  cases c with
  | false => exact hb pins s1 σ H1 Q I1 q1
  | true => exact ⟨.bl true, H1, I1, rfl, q1⟩
theorem pe_not (ha : PE X a ta) : PE X (.UnaryOp .Not a pos) (tNotV ta) := by
  intro pins s σ H Q I h
  refine UnaryOp_ (thn (ha pins s σ H _ I h) fun v s1 ⟨x, H1, I1, r1, q1⟩ => ?_)
  obtain ⟨c, rfl, q1⟩ := q1
  cases r1
  exact not_of (wpAny_truthy_bool ⟨.bl (!c), H1, I1, rfl, q1⟩)
/-- a if t else b -/
def tIf (t : TT) (ta tb : TE) : TE := fun σ H Q => t σ H fun c H1 => if c = true then ta σ H1 Q else tb σ H1 Q
theorem pe_ifExp {c : Expr} (hc : PT X c tA) (ha : PE X a ta) (hb : PE X b tb) : PE X (.IfExp c a b pos) (tIf tA ta tb) := by
  intro pins s σ H Q I h
  refine wpAny_IfExp (thn (hc pins s σ H _ I h) fun d s1 ⟨H1, I1, q1⟩ => ?_)
  cases d with
  | true => exact ha pins s1 σ H1 Q I1 q1
  | false => exact hb pins s1 σ H1 Q I1 q1
end
end L2

namespace L2
open PySem PySem.Spec PyProof.Rows

/-! ### a list, a tuple that is read: tracked, frozen, or an object of the module -/
def SqL (K : PySem.W.Frag) (H : Hp) (a : Addr) (xs : List V) : Prop :=
  Rd H a (.lst xs) ∨
    ∃ (o : Obj) (its : Array Value) (n : Nat), K.lookup a = some o ∧ o.cls = .type "list" ∧ o.dict = none ∧ o.data = .seq its n ∧ its.size ≤ sizeLine ∧ Vals xs its.toList
def SqT (K : PySem.W.Frag) (H : Hp) (a : Addr) (xs : List V) : Prop :=
  Rd H a (.tup xs) ∨
    ∃ (o : Obj) (its : Array Value) (n : Nat), K.lookup a = some o ∧ o.cls = .type "tuple" ∧ o.data = .seq its n ∧ its.size ≤ sizeLine ∧ Vals xs its.toList
def absV : Value → Option V
  | .none => some .non
  | .bool b => some (.bl b)
  | .int i _ => some (.int i)
  | .str x _ => some (.str x)
  | .bytes b _ => some (.byt b)
  | .float b _ => some (.flt b)
  | .ref a => some (.ref a)
  | .type n => some (.ty n)
  | _ => none
theorem RelV.abs {x : V} {u : Value} (r : RelV x u) : absV u = some x := by
  cases x with
  | non => cases r; rfl
  | bl _ => cases r; rfl
  | int _ => obtain ⟨t, rfl⟩ := r; rfl
  | str _ => obtain ⟨t, rfl⟩ := r; rfl
  | byt _ => obtain ⟨t, rfl⟩ := r; rfl
  | flt _ => obtain ⟨t, rfl⟩ := r; rfl
  | ref _ => cases r; rfl
  | ty _ => cases r; rfl
theorem RelV.inj {x y : V} {u : Value} (r : RelV x u) (q : RelV y u) : x = y := Option.some.inj (r.abs.symm.trans q.abs)
theorem Vals.inj : ∀ {xs ys : List V} {us : List Value}, Vals xs us → Vals ys us → xs = ys
  | _, _, _, .nil, .nil => rfl
  | _, _, _, .cons r t, .cons r' t' => by rw [r.inj r', Vals.inj t t']
section
variable {X : Cx} {pins : List (Addr × Obj)} {σ : St} {H : Hp} {s : Shared} {a : Addr} {xs ys : List V}
theorem SqL.of {K : PySem.W.Frag} (h : H a = some (.lst xs)) : SqL K H a xs := .inl (.inl h)
theorem SqT.of {K : PySem.W.Frag} (h : H a = some (.tup xs)) : SqT K H a xs := .inl (.inl h)
theorem Inv.list (I : Inv X pins σ H s) (h : SqL X.K H a xs) : ∃ its : List Value, Vals xs its ∧ PlainL s.heap a its.toArray ∧ xs.length ≤ sizeLine := by
  rcases h with h | ⟨o, its, n, hk, hc, hd, hs, hz, r⟩
  · obtain ⟨z, its, n, r, e⟩ := h.ok I.hok
    exact ⟨its, r, ⟨_, n, e, rfl, rfl, rfl⟩, z⟩
  · refine ⟨its.toList, r, ⟨o, n, I.kIn a o hk, hc, hd, by simpa using hs⟩, ?_⟩
    have e := r.length
    simp only [Array.length_toList] at e
    omega
theorem Inv.tuple (I : Inv X pins σ H s) (h : SqT X.K H a xs) : ∃ its : List Value, Vals xs its ∧ IsTup s.heap a its.toArray ∧ xs.length ≤ sizeLine := by
  rcases h with h | ⟨o, its, n, hk, hc, hs, hz, r⟩
  · obtain ⟨z, its, r, p⟩ := h.ok I.hok
    exact ⟨its, r, p, z⟩
  · refine ⟨its.toList, r, ⟨o, I.kIn a o hk, hc, n, by simpa using hs⟩, ?_⟩
    have e := r.length
    simp only [Array.length_toList] at e
    omega
theorem Inv.list_inj (I : Inv X pins σ H s) (h : SqL X.K H a xs) (h' : SqL X.K H a ys) : xs = ys := by
  obtain ⟨its, r, ⟨o, n, e, _, _, d⟩, _⟩ := I.list h
  obtain ⟨its', r', ⟨o', n', e', _, _, d'⟩, _⟩ := I.list h'
  rw [e] at e'; cases e'
  rw [d] at d'
  injection d' with d1 _
  have : its = its' := by simpa using congrArg Array.toList d1
  subst this
  exact r.inj r'
theorem Inv.tuple_inj (I : Inv X pins σ H s) (h : SqT X.K H a xs) (h' : SqT X.K H a ys) : xs = ys := by
  obtain ⟨its, r, ⟨o, e, _, n, d⟩, _⟩ := I.tuple h
  obtain ⟨its', r', ⟨o', e', _, n', d'⟩, _⟩ := I.tuple h'
  rw [e] at e'; cases e'
  rw [d] at d'
  injection d' with d1 _
  have : its = its' := by simpa using congrArg Array.toList d1
  subst this
  exact r.inj r'
end

/-! ### another wish about exceptions -/
abbrev Cx.wish (X : Cx) (E : Value → Shared → Prop) : Cx := { X with xe := E }
/-- no exception leaves -/
abbrev Cx.nox (X : Cx) : Cx := X.wish fun _ _ => False
theorem Cx.Ok.wish {X : Cx} (ok : X.Ok) (E : Value → Shared → Prop) : (X.wish E).Ok :=
  ⟨ok.mod, ok.kind, ok.glob, ok.blt, ok.above, ok.inj, ok.has, ok.cab, ok.hd, ok.frames, ok.stk, ok.exf, ok.bs, ok.bsz, ok.noex, ok.exfs, ok.funs, ok.frf⟩
theorem Cx.Ok.unwish {X : Cx} {E : Value → Shared → Prop} (ok : (X.wish E).Ok) : X.Ok :=
  ⟨ok.mod, ok.kind, ok.glob, ok.blt, ok.above, ok.inj, ok.has, ok.cab, ok.hd, ok.frames, ok.stk, ok.exf, ok.bs, ok.bsz, ok.noex, ok.exfs, ok.funs, ok.frf⟩
section
variable {X : Cx} {pins : List (Addr × Obj)} {σ : St} {H : Hp} {s : Shared} {E : Value → Shared → Prop}
theorem Inv.wish (I : Inv X pins σ H s) (E : Value → Shared → Prop) : Inv (X.wish E) pins σ H s := ⟨I.ok.wish E, I.os, I.bare, I.base, I.loc, I.cell, I.free, I.freeC, I.pin, I.hok, I.len⟩
theorem Inv.unwish (I : Inv (X.wish E) pins σ H s) : Inv X pins σ H s := ⟨I.ok.unwish, I.os, I.bare, I.base, I.loc, I.cell, I.free, I.freeC, I.pin, I.hok, I.len⟩
theorem SP.unwish {D : Ends} {f : Flow} {s' : Shared} (h : SP (X.wish E) pins D f s') : SP X pins D f s' := by
  cases f with
  | next => obtain ⟨σ', H', I, q⟩ := h; exact ⟨σ', H', I.unwish, q⟩
  | brk => obtain ⟨σ', H', I, q⟩ := h; exact ⟨σ', H', I.unwish, q⟩
  | cont => obtain ⟨σ', H', I, q⟩ := h; exact ⟨σ', H', I.unwish, q⟩
  | ret u => obtain ⟨v, σ', H', I, r, q⟩ := h; exact ⟨v, σ', H', I.unwish, r, q⟩
theorem PE.nox {e : Expr} {t : TE} (h : PE X.nox e t) : PE X e t := fun pins s σ H Q I hw =>
  wpAny_mono (h pins s σ H Q (I.wish _) hw) (fun _ _ ⟨v, H', I', r, q⟩ => ⟨v, H', I'.unwish, r, q⟩) fun _ _ z => False.elim z
theorem PT.nox {e : Expr} {t : TT} (h : PT X.nox e t) : PT X e t := fun pins s σ H Q I hw =>
  wpAny_mono (h pins s σ H Q (I.wish _) hw) (fun _ _ ⟨H', I', q⟩ => ⟨H', I'.unwish, q⟩) fun _ _ z => False.elim z
theorem PSs.nox {st : List Stmt} {t : TS} (h : PSs X.nox st t) : PSs X st t := fun pins s σ H D I hw =>
  wpAny_mono (h pins s σ H D (I.wish _) hw) (fun _ _ q => q.unwish) fun _ _ z => False.elim z
end

/-! ### blocks and small statements -/
section
variable {X : Cx} {st : Stmt} {rest : List Stmt} {t u : TS} {e : Expr} {te : TE} {pos : Pos}
def tNext : TS := fun D σ H => D.nx σ H
def tSeq (t u : TS) : TS := fun D σ H => t { D with nx := u D } σ H
theorem pss_nil : PSs X [] tNext := fun _ _ σ H _ I h => wpAny_execs_nil ⟨σ, H, I, h⟩
theorem pss_cons (h1 : PS X st t) (h2 : PSs X rest u) : PSs X (st :: rest) (tSeq t u) := by
  intro pins s σ H D I h
  refine wpAny_execs_cons (thn (h1 pins s σ H { D with nx := u D } I h) fun f s1 q => ?_)
  cases f with
  | next =>
    obtain ⟨σ', H', I', q⟩ := q
    exact h2 pins s1 σ' H' D I' q
  | ret v => exact q
  | brk => exact q
  | cont => exact q
theorem pss_one (h1 : PS X st t) : PSs X [st] t := by
  intro pins s σ H D I h
  refine wpAny_execs_cons (thn (h1 pins s σ H D I h) fun f s1 q => ?_)
  cases f with
  | next => exact wpAny_execs_nil q
  | ret v => exact q
  | brk => exact q
  | cont => exact q
def tBreak : TS := fun D σ H => D.bk σ H
def tCont : TS := fun D σ H => D.ct σ H
theorem ps_pass : PS X (.Pass pos) tNext := fun _ _ σ H _ I h => wpAny_Pass ⟨σ, H, I, h⟩
theorem ps_break : PS X (.Break pos) tBreak := fun _ _ σ H _ I h => wpAny_Break ⟨σ, H, I, h⟩
theorem ps_continue : PS X (.Continue pos) tCont := fun _ _ σ H _ I h => wpAny_Continue ⟨σ, H, I, h⟩
/-- in a def's body nothing is shown -/
theorem Inv.quiet {pins : List (Addr × Obj)} {σ : St} {H : Hp} {s : Shared} (I : Inv X pins σ H s) : interactive X.env = false := by simp [interactive, I.ok.kind]
/-- a docstring -/
theorem ps_doc {x j pos pos'} : PS X (.Expr (.Constant (.str x) j pos) pos') tNext := fun _ s σ H _ I h => wpAny_Expr (Calls.Constant_str (show SP X _ _ .next { s with toks := s.toks + 1 } from ⟨σ, H, I.tok _, h⟩)) I.quiet
/-- an expression whose value is dropped -/
def tDrop (te : TE) : TS := fun D σ H => te σ H fun _ H1 => D.nx σ H1
theorem ps_expr (he : PE X e te) (hs : swapsWith e none pos.line X.env = pure false := by rfl) : PS X (.Expr e pos) (tDrop te) := by
  intro pins s σ H D I h
  exact wpAny_Expr_any (thn (he pins s σ H _ I h) fun v s1 ⟨x, H1, I1, r1, q1⟩ => ⟨σ, H1, I1, q1⟩) I.quiet hs
def tRet (te : TE) : TS := fun D σ H => te σ H D.rt
theorem ps_ret (he : PE X e te) : PS X (.Return (some e) pos) (tRet te) := by
  intro pins s σ H D I h
  exact wpAny_Return_some (thn (he pins s σ H _ I h) fun v s1 ⟨x, H1, I1, r1, q1⟩ => ⟨x, σ, H1, I1, r1, q1⟩)
def tRetN : TS := fun D _ H => D.rt .non H
theorem ps_retN : PS X (.Return none pos) tRetN := fun _ _ σ H _ I h => wpAny_Return_none ⟨.non, σ, H, I, rfl, h⟩
def tIfS (c : TT) (t u : TS) : TS := fun D σ H => c σ H fun b H1 => if b = true then t D σ H1 else u D σ H1
theorem ps_if {c : Expr} {a b : List Stmt} {tc : TT} (hc : PT X c tc) (ha : PSs X a t) (hb : PSs X b u) : PS X (.If c a b pos) (tIfS tc t u) := by
  intro pins s σ H D I h
  refine wpAny_If (thn (hc pins s σ H _ I h) fun d s1 ⟨H1, I1, q1⟩ => ?_)
  cases d with
  | true => exact ha pins s1 σ H1 D I1 q1
  | false => exact hb pins s1 σ H1 D I1 q1
/-- code that the proof never comes to -/
def tNever : TS := fun _ _ _ => False
theorem ps_never : PS X st tNever := fun _ _ _ _ _ _ h => h.elim
theorem pss_never {sts : List Stmt} : PSs X sts tNever := fun _ _ _ _ _ _ h => h.elim
end

/-! ### targets -/
abbrev TG := V → St → Hp → (St → Hp → Prop) → Prop
abbrev TGs := List V → St → Hp → (St → Hp → Prop) → Prop
def PG (X : Cx) (target : Expr) (t : TG) : Prop :=
  ∀ (pins : List (Addr × Obj)) (s : Shared) (σ : St) (H : Hp) (v : V) (u : Value) (Q : St → Hp → Prop), Inv X pins σ H s → RelV v u → t v σ H Q →
    wpAny (model X.prog X.w) X.A (assign target X.env u) (fun _ s' => ∃ σ' H', Inv X pins σ' H' s' ∧ Q σ' H') X.xe s
/-- several targets, one after another -/
def PGs (X : Cx) (ts : List Expr) (t : TGs) : Prop :=
  ∀ (pins : List (Addr × Obj)) (s : Shared) (σ : St) (H : Hp) (vs : List V) (us : List Value) (Q : St → Hp → Prop), Inv X pins σ H s → Vals vs us → t vs σ H Q →
    wpAny (model X.prog X.w) X.A (assignInOrder ((assignEach ts X.env).map (·.2)) us) (fun _ s' => ∃ σ' H', Inv X pins σ' H' s' ∧ Q σ' H') X.xe s
/-- o[i] = v, by values -/
abbrev TSet := V → V → V → Hp → (Hp → Prop) → Prop
def PSet (X : Cx) (t : TSet) : Prop :=
  ∀ (pins : List (Addr × Obj)) (s : Shared) (σ : St) (H : Hp) (o i v : V) (ov iv u : Value) (Q : Hp → Prop), Inv X pins σ H s → RelV o ov → RelV i iv → RelV v u → t o i v H Q →
    wpAny (model X.prog X.w) X.A (setItem ov iv u) (fun _ s' => ∃ H', Inv X pins σ H' s' ∧ Q H') X.xe s
/-- a op= b, by values -/
abbrev TIp := V → V → Hp → VK → Prop
def PIp (X : Cx) (op : Operator) (t : TIp) : Prop :=
  ∀ (pins : List (Addr × Obj)) (s : Shared) (σ : St) (H : Hp) (x y : V) (v u : Value) (Q : VK), Inv X pins σ H s → RelV x v → RelV y u → t x y H Q →
    wpAny (model X.prog X.w) X.A (inplaceOp op v u) (EP X pins σ Q) X.xe s
section
variable {X : Cx} {pos : Pos}
def gName (i : Nat) : TG := fun v σ H Q => Q (σ.set i (some v)) H
theorem pg_name {i : Nat} {x : Str} (hN : X.N.Nodup) (hi : X.N[i]? = some x) (hx : Loc X.env.scope x) (hf : X.fn x = true ∨ X.env.scope.names.lookup x = some .local := by first | exact .inl rfl | exact .inr rfl | assumption) : PG X (.Name x pos) (gName i) := by
  intro pins s σ H v u Q I r h
  exact wpAny_assign_Name (store_ok I hN hi hx r (fun s' I' => ⟨_, H, I', h⟩) hf)
def gNil : TGs := fun vs σ H Q => vs = [] ∧ Q σ H
def gCons (t : TG) (u : TGs) : TGs := fun vs σ H Q => ∃ v r, vs = v :: r ∧ t v σ H fun σ' H' => u r σ' H' Q
theorem pgs_nil : PGs X [] gNil := by
  intro pins s σ H vs us Q I r h
  obtain ⟨e, h⟩ := h
  subst e
  cases r
  exact assignInOrder_nil ⟨σ, H, I, h⟩
theorem pgs_cons {e : Expr} {es : List Expr} {t : TG} {u : TGs} (h1 : PG X e t) (h2 : PGs X es u)
    (hs : (assignEach (e :: es) X.env).map (·.2) = assign e X.env :: (assignEach es X.env).map (·.2) := by rfl) : PGs X (e :: es) (gCons t u) := by
  intro pins s σ H vs us Q I r h
  obtain ⟨v, vr, e1, h⟩ := h
  subst e1
  cases r with
  | cons r rr =>
    rw [hs]
    refine assignInOrder_cons (thn (h1 pins s σ H _ _ _ I r h) fun _ s1 ⟨σ1, H1, I1, q1⟩ => ?_)
    exact h2 pins s1 σ1 H1 _ _ Q I1 rr q1
/-- (a, b, ..) = a tuple of that length -/
def gTup (K : PySem.W.Frag) (n : Nat) (t : TGs) : TG := fun v σ H Q => ∃ a xs, v = .ref a ∧ SqT K H a xs ∧ xs.length = n ∧ t xs σ H Q
theorem pg_tup {es : List Expr} {k : Nat} {t : TGs} {n : Nat} (hc : X.calm = true) (h : PGs X es t)
    (hn : (assignEach es X.env).length = n := by rfl) (hst : (assignEach es X.env).findIdx? (·.1) = none := by rfl) : PG X (.Tuple es k pos) (gTup X.K n t) := by
  intro pins s σ H v u Q I r hw
  obtain ⟨a, xs, e1, hq, hl, hw⟩ := hw
  subst e1
  cases r
  obtain ⟨its, rv, ht, hz⟩ := I.tuple hq
  refine assign_Tuple_tuple (I.ok.hd hc) ht (by simp [hn, ← hl, rv.length]) hst fun h' hx => ?_
  have I1 : Inv X pins σ H { s with heap := h' } := I.kept (t' := s.toks) fun b o e => hx b o (Nat.ne_of_lt (Heap.lt_size e)) e
  exact h pins _ σ H xs _ Q I1 (by simpa using rv) hw
/-- o[i] = .. -/
def gSub (to ti : TE) (t : TSet) : TG := fun v σ H Q => to σ H fun o H1 => ti σ H1 fun i H2 => t o i v H2 fun H3 => Q σ H3
theorem pg_sub {o i : Expr} {to ti : TE} {t : TSet} (ho : PE X o to) (hi : PE X i ti) (hs : PSet X t)
    (ha : ∀ v, assign (.Subscript o i pos) X.env v = (do
      let ov ← holding [v] (eval o X.env)
      let iv ← holding [v, ov] (eval i X.env)
      standAt pos
      holding [v, ov, iv] (setItem ov iv v)
      release [v, ov, iv] []) := by intro _; rfl) : PG X (.Subscript o i pos) (gSub to ti t) := by
  intro pins s σ H v u Q I r h
  rw [ha]
  refine wpAny_bind (wpAny_holding (thn (ho pins s σ H _ I h) fun ov s1 ⟨x, H1, I1, r1, q1⟩ => ?_))
  refine wpAny_bind (wpAny_holding (thn (hi pins s1 σ H1 _ I1 q1) fun iv s2 ⟨y, H2, I2, r2, q2⟩ => ?_))
  refine wpAny_bind (wpAny_standAt (wpAny_bind (wpAny_holding (thn (hs pins s2 σ H2 x y v ov iv u _ I2 r1 r2 r q2) fun _ s3 ⟨H3, I3, q3⟩ => ?_))))
  exact wpAny_release ⟨σ, H3, I3, q3⟩
/-- target = value -/
def tAsg (te : TE) (g : TG) : TS := fun D σ H => te σ H fun x H1 => g x σ H1 D.nx
theorem ps_asg {tg e : Expr} {te : TE} {g : TG} (he : PE X e te) (hg : PG X tg g) (hs : swapsWithSole [tg] e pos.line X.env = pure false := by rfl) (hw : swappedStores [tg] e X.env = pure none := by rfl)
    (h1 : (assignEach [tg] X.env).map (·.2) = [assign tg X.env] := by rfl) : PS X (.Assign [tg] e pos) (tAsg te g) := by
  intro pins s σ H D I h
  refine wpAny_Assign_stores (thn (he pins s σ H _ I h) fun v s1 ⟨x, H1, I1, r1, q1⟩ => ?_) hs hw
  rw [h1]
  exact thn (hg pins s1 σ H1 x v _ I1 r1 q1) fun _ s2 q => q
/-- name = value -/
theorem ps_set {i : Nat} {x : Str} {e : Expr} {te : TE} {pos' : Pos} (hN : X.N.Nodup) (hi : X.N[i]? = some x) (hx : Loc X.env.scope x) (he : PE X e te) (hs : swapsWith e (some (.Name x pos')) pos.line X.env = pure false := by rfl) (hf : X.fn x = true ∨ X.env.scope.names.lookup x = some .local := by first | exact .inl rfl | exact .inr rfl | assumption) :
    PS X (.Assign [.Name x pos'] e pos) (tAsg te (gName i)) := by
  intro pins s σ H D I h
  refine wpAny_Assign_Name (thn (he pins s σ H _ I h) fun v s1 ⟨y, H1, I1, r1, q1⟩ => ?_) hs
  exact store_ok I1 hN hi hx r1 (fun s2 I2 => ⟨_, H1, I2, q1⟩) hf
/-- a, b = x, y with plain local names: stored from the right; the pair itself is not tracked (the opening rows as in PyProof/Rows/TupAssign.lean:23) -/
def tPar (i j : Nat) (ta : TA) : TS := fun D σ H => ta σ H fun vs H1 => ∃ v w, vs = [v, w] ∧ D.nx ((σ.set i (some v)).set j (some w)) H1
theorem ps_par {i j : Nat} {x y : Str} {a b : Expr} {ta : TA} {px py pt : Pos} {kt k2 pt2} (hc : X.calm = true) (hN : X.N.Nodup) (hi : X.N[i]? = some x) (hj : X.N[j]? = some y) (hij : i ≠ j)
    (hx : X.env.scope.names.lookup x = some .local) (hy : X.env.scope.names.lookup y = some .local) (ha : PA X [a, b] ta)
    (hw : swappedStores [.Tuple [.Name x px, .Name y py] kt pt] (.Tuple [a, b] k2 pt2) X.env = pure (some [x, y]))
    (hs : swapsWithSole [.Tuple [.Name x px, .Name y py] kt pt] (.Tuple [a, b] k2 pt2) pos.line X.env = pure false := by rfl) :
    PS X (.Assign [.Tuple [.Name x px, .Name y py] kt pt] (.Tuple [a, b] k2 pt2) pos) (tPar i j ta) := by
  intro pins s σ H D I h
  rw [exec_Assign_arm]
  refine wpAny_bind (wpAny_standAt ?_)
  rw [hs]
  refine wpAny_bind (wpAny_pure ?_)
  rw [if_neg (by decide)]
  refine wpAny_bind (Tuple_ (thn (ha _ pins s σ H _ I h) fun us s1 ⟨vs, H1, I1, r1, q1⟩ => ?_))
  obtain ⟨v, w, e1, q1⟩ := q1
  subst e1
  obtain ⟨u1, u2, rfl, rv, rw'⟩ : ∃ u1 u2, us = [u1, u2] ∧ RelV v u1 ∧ RelV w u2 := by
    cases r1 with
    | cons p q =>
      cases q with
      | cons p' q' =>
        cases q'
        exact ⟨_, _, rfl, p, p'⟩
  refine wpAny_newObj_type ?_ (by show 2 ≤ sizeLine; decide)
  have I2 : Inv X pins σ H1 { s1 with heap := s1.heap.push { cls := .type "tuple", data := .seq [u1, u2].toArray } } := I1.kept (t' := s1.toks) fun b o e => Heap.get?_push_of_some _ e
  rw [hw]
  refine wpAny_bind (wpAny_pure ?_)
  show wpAny (model X.prog X.w) X.A (do rule "assign.swapped-stores"; let items ← unpackItems (.ref s1.heap.objs.size) 2 none; assignInOrder [fun v => bindName X.env y v, fun v => bindName X.env x v] items.reverse; pure Flow.next) _ _ _
  refine wpAny_bind (wpAny_rule (wpAny_bind (unpackItems_tuple (items := #[u1, u2]) (I.ok.hd hc) (IsTup.new s1.heap _) fun h' hx' => ?_)))
  have I3 := I2.kept (h' := h') (t' := s1.toks) fun b o e => hx' b o (Nat.ne_of_lt (Heap.lt_size e)) e
  show wpAny _ _ (assignInOrder [fun v => bindName X.env y v, fun v => bindName X.env x v] [u2, u1] >>= fun _ => pure Flow.next) _ _ _
  refine wpAny_bind (assignInOrder_cons (wpAny_bindName (store_ok I3 hN hj (.inl hy) rw' (fun s2 I4 => ?_) (.inr hy))))
  refine assignInOrder_cons (wpAny_bindName (store_ok I4 hN hi (.inl hx) rv (fun s3 I5 => assignInOrder_nil (wpAny_pure ?_)) (.inr hx)))
  rw [List.set_comm _ _ (Ne.symm hij)] at I5
  exact ⟨_, H1, I5, q1⟩
/-- name op= e -/
def tAug (i : Nat) (te : TE) (ti : TIp) : TS := fun D σ H => ∃ x, σ[i]? = some (some x) ∧ te σ H fun y H1 => ti x y H1 fun z H2 => D.nx (σ.set i (some z)) H2
theorem ps_aug {i : Nat} {x : Str} {e : Expr} {te : TE} {op : Operator} {ti : TIp} {pos' : Pos} (hN : X.N.Nodup) (hi : X.N[i]? = some x) (hx : Loc X.env.scope x) (he : PE X e te) (ho : PIp X op ti) (hf : X.fn x = true ∨ X.env.scope.names.lookup x = some .local := by first | exact .inl rfl | exact .inr rfl | assumption) :
    PS X (.AugAssign (.Name x pos') op e pos) (tAug i te ti) := by
  intro pins s σ H D I h
  obtain ⟨v, e1, h⟩ := h
  obtain ⟨m, hn, hl⟩ := I.loc
  have vis : Vis X.env.scope x := by rcases hx with k | k; exact .inl k; exact .inr (.inl k)
  obtain ⟨u, r, l⟩ := hl i x v hi e1 vis
  refine wpAny_AugAssign_Name ?_
  have go : wpAny (model X.prog X.w) X.A (eval e X.env) (fun w s₂ => wpAny (model X.prog X.w) X.A (inplaceOp op u w) (fun r s₃ => wpAny (model X.prog X.w) X.A (storeName X.env x r) (fun _ => SP X pins D .next) X.xe s₃) X.xe s₂) X.xe s := by
    refine thn (he pins s σ H _ I h) fun w s1 ⟨y, H1, I1, r1, q1⟩ => ?_
    refine thn (ho pins s1 σ H1 v y u w _ I1 r r1 q1) fun z s2 ⟨zv, H2, I2, r2, q2⟩ => ?_
    exact store_ok I2 hN hi hx r2 (fun s3 I3 => ⟨_, H2, I3, q2⟩) hf
  rcases l with ⟨hk, hm⟩ | ⟨hk, c, hc, hcell⟩
  · exact wpAny_loadName_local I.ok.kind hk hn hm go
  · rcases hk with hk | hk
    · exact wpAny_loadName_cell I.ok.kind hk hc hcell go
    · rcases hx with k | k
      · have : X.env.scope.names.lookup x = some .free := hk
        rw [k] at this; cases this
      · have : X.env.scope.names.lookup x = some .free := hk
        rw [k] at this; cases this
/-- o[i] op= e -/
def tAugS (to ti te : TE) (tget : V → V → Hp → VK → Prop) (tip : TIp) (tset : TSet) : TS := fun D σ H => to σ H fun o H1 => ti σ H1 fun i H2 => tget o i H2 fun x H3 => te σ H3 fun y H4 => tip x y H4 fun z H5 => tset o i z H5 fun H6 => D.nx σ H6
/-- o[i], by values -/
def PGet (X : Cx) (t : V → V → Hp → VK → Prop) : Prop :=
  ∀ (pins : List (Addr × Obj)) (s : Shared) (σ : St) (H : Hp) (o i : V) (ov iv : Value) (Q : VK), Inv X pins σ H s → RelV o ov → RelV i iv → t o i H Q →
    wpAny (model X.prog X.w) X.A (getItem ov iv) (EP X pins σ Q) X.xe s
theorem ps_augS {o i e : Expr} {to ti te : TE} {tget : V → V → Hp → VK → Prop} {tip : TIp} {tset : TSet} {op : Operator} {tpos : Pos} (ho : PE X o to) (hi : PE X i ti) (hg : PGet X tget) (he : PE X e te) (hp : PIp X op tip) (hs : PSet X tset)
    (ha : ∀ ov iv new, augStore i ov iv new = (do holding [new, ov, iv] (setItem ov iv new); release [new, ov, iv] []; pure .next) := by intros; rfl) : PS X (.AugAssign (.Subscript o i tpos) op e pos) (tAugS to ti te tget tip tset) := by
  intro pins s σ H D I h
  refine wpAny_AugAssign_SubscriptAny (thn (ho pins s σ H _ I h) fun ov s1 ⟨x1, H1, I1, r1, q1⟩ => ?_) ha
  refine thn (hi pins s1 σ H1 _ I1 q1) fun iv s2 ⟨x2, H2, I2, r2, q2⟩ => ?_
  refine thn (hg pins s2 σ H2 x1 x2 ov iv _ I2 r1 r2 q2) fun old s3 ⟨x3, H3, I3, r3, q3⟩ => ?_
  refine thn (he pins s3 σ H3 _ I3 q3) fun v s4 ⟨x4, H4, I4, r4, q4⟩ => ?_
  refine thn (hp pins s4 σ H4 x3 x4 old v _ I4 r3 r4 q4) fun new s5 ⟨x5, H5, I5, r5, q5⟩ => ?_
  exact thn (hs pins s5 σ H5 x1 x2 x5 ov iv new _ I5 r1 r2 r5 q5) fun _ s6 ⟨H6, I6, q6⟩ => ⟨σ, H6, I6, q6⟩
/-- ints -/
def ipI (f : Int → Int → Int) : TIp := fun x y H Q => ∃ i j, x = .int i ∧ y = .int j ∧ Q (.int (f i j)) H
theorem ip_add : PIp X .Add (ipI fun i j => i + j) := by
  intro pins s σ H x y v u Q I r1 r2 h
  obtain ⟨i, j, e1, e2, q⟩ := h
  subst e1; subst e2
  obtain ⟨t, rfl⟩ := r1
  obtain ⟨t', rfl⟩ := r2
  exact iadd_int ⟨.int _, H, I.tok _, ⟨_, rfl⟩, q⟩
theorem ip_sub : PIp X .Sub (ipI fun i j => i - j) := by
  intro pins s σ H x y v u Q I r1 r2 h
  obtain ⟨i, j, e1, e2, q⟩ := h
  subst e1; subst e2
  obtain ⟨t, rfl⟩ := r1
  obtain ⟨t', rfl⟩ := r2
  exact isub_int ⟨.int _, H, I.tok _, ⟨_, rfl⟩, q⟩
end

/-! ### while -/
section
variable {X : Cx} {pos : Pos}
/-- the invariant W with its measure -/
def tWhile (c : TT) (tb : TS) : TS := fun D σ H => ∃ W : Nat → St → Hp → Prop, (∃ m, W m σ H) ∧ ∀ m σ H, W m σ H →
  c σ H fun b H1 => if b = true then ∃ N : St → Hp → Prop, (∀ σ' H', N σ' H' → ∃ m', m' < m ∧ W m' σ' H') ∧ tb { D with nx := N, ct := N, bk := D.nx } σ H1 else D.nx σ H1
theorem ps_while {c : Expr} {body : List Stmt} {tc : TT} {tb : TS} (hp : PassesOwn (model X.prog X.w) X.A X.env X.xe) (hc : PT X c tc) (hb : PSs X body tb) : PS X (.While c body [] pos) (tWhile tc tb) := by
  intro pins s σ H D I h
  obtain ⟨W, ⟨m0, w0⟩, turn⟩ := h
  refine wpAny_While (codeAny_whileLoop (fun n s' => ∃ σ' H', Inv X pins σ' H' s' ∧ W n σ' H') ?_ m0 ⟨σ, H, I, w0⟩)
  rintro n s1 ⟨σ1, H1, I1, w1⟩
  refine wpAny_passesOwn hp (thn (hc pins s1 σ1 H1 _ I1 (turn n σ1 H1 w1)) fun b s2 ⟨H2, I2, q2⟩ => ?_)
  cases b with
  | true =>
    obtain ⟨N, hN, q2⟩ := q2
    rw [if_pos rfl]
    refine wpAny_passesOwn hp (thn (hb pins s2 σ1 H2 _ I2 q2) fun f s3 q3 => ?_)
    cases f with
    | next =>
      obtain ⟨σ3, H3, I3, n3⟩ := q3
      obtain ⟨m', hm, w3⟩ := hN σ3 H3 n3
      exact ⟨m', hm, σ3, H3, I3, w3⟩
    | cont =>
      obtain ⟨σ3, H3, I3, n3⟩ := q3
      obtain ⟨m', hm, w3⟩ := hN σ3 H3 n3
      exact ⟨m', hm, σ3, H3, I3, w3⟩
    | brk => exact q3
    | ret v => exact q3
  | false =>
    rw [if_neg Bool.false_ne_true]
    exact wpAny_execs_nil ⟨σ1, H2, I2, q2⟩
end

/-! ### what a loop or a comprehension walks -/
/-- at turn i: it yields x (the heap may grow), or it stops -/
structure It where
  go : Nat → Hp → Prop
  yld : Nat → Hp → V → Hp → Prop
  stop : Nat → Hp → Prop
/-- the iterator's own objects may turn: they are not the frame's, not pinned, younger than the entry (or a comprehension's own) -/
def FpOk (X : Cx) (pins : List (Addr × Obj)) (H : Hp) (b : Addr) : Prop :=
  H b = none ∧ b ≠ X.env.locals ∧ b ∉ X.fs ∧ (b ∈ X.ex ∨ X.s₀.heap.objs.size ≤ b) ∧ (∀ x c, X.env.cells.lookup x = some c → c ≠ b) ∧ ∀ p ∈ X.pn ++ pins, p.1 ≠ b
theorem Inv.fpOk {X : Cx} {pins : List (Addr × Obj)} {σ : St} {H H' : Hp} {s : Shared} {b : Addr} (I : Inv X pins σ H s) (hb : s.heap.objs.size ≤ b) (hn : H' b = none) : FpOk X pins H' b := by
  refine ⟨hn, Nat.ne_of_gt (Nat.lt_of_lt_of_le I.lt hb), I.nofs hb, .inr (Nat.le_trans I.sz hb), fun x c e z => ?_, fun p hp z => ?_⟩
  · obtain ⟨v, q⟩ := I.cell x c e
    exact absurd (Nat.lt_of_lt_of_le q.lt (by rw [z]; exact hb)) (Nat.lt_irrefl _)
  · exact absurd (Nat.lt_of_lt_of_le (Heap.lt_size (I.pin p hp).1) (by rw [z]; exact hb)) (Nat.lt_irrefl _)
structure Turn (P : Program) (w : World) (K : PySem.W.Frag) (tg : Expr) (J : It) (fp : List Addr) (it : Addr) (tn : Nat → Heap → Prop) : Prop where
  mem : it ∈ fp
  obj : ∀ i h, tn i h → ∀ b ∈ fp, ∃ o, h.get? b = some o ∧ ∀ v, o.data ≠ .cell v
  keep : ∀ i h h', tn i h → (∀ b ∈ fp, ∀ o, h.get? b = some o → h'.get? b = some o) → tn i h'
  item : ∀ (X : Cx), X.prog = P → X.w = w → X.K = K → X.calm = true → ∀ (i : Nat) (pins : List (Addr × Obj)) (s : Shared) (σ : St) (H : Hp) (E : Value → Shared → Prop), Inv X pins σ H s → (∀ b ∈ fp, FpOk X pins H b) → tn i s.heap → J.go i H →
    wpAny (model P w) X.A (pyNext (.ref it)) (fun r s1 => ∃ u, r = some u ∧
      wpAny (model P w) X.A (letOwnedTupleGo tg (.ref it) u) (fun _ s2 => ∃ x H', Inv X pins σ H' s2 ∧ RelV x u ∧ J.yld i H x H' ∧ tn (i + 1) s2.heap ∧ ∀ b ∈ fp, H' b = none) E s1) E s
  done : ∀ (X : Cx), X.prog = P → X.w = w → X.K = K → X.calm = true → ∀ (i : Nat) (pins : List (Addr × Obj)) (s : Shared) (σ : St) (H : Hp) (E : Value → Shared → Prop), Inv X pins σ H s → (∀ b ∈ fp, FpOk X pins H b) → tn i s.heap → J.stop i H →
    wpAny (model P w) X.A (pyNext (.ref it)) (fun r s1 => r = none ∧ Inv X pins σ H s1) E s
  self : ∀ (A : Around) (i : Nat) (s : Shared) (Q : Value → Shared → Prop) (E : Value → Shared → Prop), tn i s.heap → Q (.ref it) s → wpAny (model P w) A (pyIter (.ref it)) Q E s
abbrev TI := St → Hp → (It → Hp → Prop) → Prop
/-- an iterator has come -/
def PIE (X : Cx) (pins : List (Addr × Obj)) (σ : St) (tg : Expr) (R : It → Hp → Prop) (itv : Value) (s2 : Shared) : Prop :=
  ∃ (it : Addr) (fp : List Addr) (tn : Nat → Heap → Prop) (J : It) (H' : Hp), itv = .ref it ∧ Inv X pins σ H' s2 ∧ Turn X.prog X.w X.K tg J fp it tn ∧ tn 0 s2.heap ∧ (∀ b ∈ fp, FpOk X pins H' b) ∧ R J H'
def PI (X : Cx) (tg iter : Expr) (wi : TI) : Prop :=
  ∀ (pins : List (Addr × Obj)) (s : Shared) (σ : St) (H : Hp) (R : It → Hp → Prop), Inv X pins σ H s → wi σ H R →
    wpAny (model X.prog X.w) X.A (eval iter X.env) (fun v s1 => wpAny (model X.prog X.w) X.A (pyIter v) (PIE X pins σ tg R) X.xe s1) X.xe s

/-- the step ahead of the store is nothing for an iterator that keeps no tuple -/
theorem go_of {M : Model} {A : Around} {E : Value → Shared → Prop} {s : Shared} {tg : Expr} {it : Addr} {u : Value} {o : Obj} {n : String} {vs : Array Value} {Q : Unit → Shared → Prop} (ho : s.heap.get? it = some o) (hc : o.cls = .type n) (hd : o.data = .fields vs)
    (hn : ["enumerate", "zip", "dict_itemiterator", "dict_reverseitemiterator", "odict_iterator", "itertools.zip_longest", "itertools.pairwise"].contains n = false) (hQ : Q () s) : wpAny M A (letOwnedTupleGo tg (.ref it) u) Q E s := by
  unfold letOwnedTupleGo
  cases tg <;> first
    | exact wpAny_pure hQ
    | (cases u <;> first
        | exact wpAny_pure hQ
        | (refine wpAny_bind (wpAny_load ho ?_)
           rw [hc, hd]
           show wpAny M A (if (["enumerate", "zip", "dict_itemiterator", "dict_reverseitemiterator", "odict_iterator", "itertools.zip_longest", "itertools.pairwise"].contains n && vs[0]? == some (rawInt _)) = true then _ else _) Q E s
           rw [if_neg (by intro h; rw [hn, Bool.false_and] at h; cases h)]
           exact wpAny_pure hQ))

/-- the list at a, as it stands at each turn (a loop may append to it) -/
def Itl (K : PySem.W.Frag) (a : Addr) : It :=
  ⟨fun i H => ∃ xs x, SqL K H a xs ∧ xs[i]? = some x, fun i H x H' => H' = H ∧ ∀ xs, SqL K H a xs → xs[i]? = some x, fun i H => ∃ xs, SqL K H a xs ∧ xs.length ≤ i⟩
def Itt (K : PySem.W.Frag) (a : Addr) : It :=
  ⟨fun i H => ∃ xs x, SqT K H a xs ∧ xs[i]? = some x, fun i H x H' => H' = H ∧ ∀ xs, SqT K H a xs → xs[i]? = some x, fun i H => ∃ xs, SqT K H a xs ∧ xs.length ≤ i⟩
/-- lo, lo + 1, .. (n of them) -/
def Itr (lo : Int) (n : Nat) : It := ⟨fun i _ => i < n, fun i H x H' => H' = H ∧ x = .int (lo + i), fun i _ => n ≤ i⟩
theorem turn_list {P : Program} {w : World} {K : PySem.W.Frag} {tg : Expr} (a it : Addr) : Turn P w K tg (Itl K a) [it] it (fun i h => h.IsListIter it a i) where
  mem := by simp
  obj := fun i h st b hb => by
    have e : b = it := by simpa using hb
    subst e
    obtain ⟨o, e, c, d⟩ := st
    exact ⟨o, e, fun v z => by rw [d] at z; cases z⟩
  keep := fun i h h' st k => st.at fun o e => k it (by simp) o e
  item := by
    intro X hP hw hK hc i pins s σ H E I hf st hg
    subst hP hw hK
    obtain ⟨xs, x, hq, hx⟩ := hg
    obtain ⟨its, rv, p, hz⟩ := I.list hq
    obtain ⟨u, hu, ru⟩ := rv.get hx
    obtain ⟨f0, f1, f2, f3, f4, f5⟩ := hf it (by simp)
    refine wpAny_pyNext_list_item st p.isList (x := u) (by simpa using hu) fun h' st' sb => ?_
    have I1 : Inv X pins σ H { s with heap := h' } := I.turned (t' := s.toks) (fun b o hb e => (sb.2 b hb).trans e) f0 f1 f3 f4 f5
    obtain ⟨o, e, c, d⟩ := id st'
    exact ⟨u, rfl, go_of (s := { s with heap := h' }) e c d (by decide) ⟨x, H, I1, ru, ⟨rfl, fun ys hy => by rw [I.list_inj hy hq]; exact hx⟩, st', fun b hb => (hf b hb).1⟩⟩
  done := by
    intro X hP hw hK hc i pins s σ H E I hf st hg
    subst hP hw hK
    obtain ⟨xs, hq, hx⟩ := hg
    obtain ⟨its, rv, p, hz⟩ := I.list hq
    obtain ⟨f0, f1, f2, f3, f4, f5⟩ := hf it (by simp)
    have hl := rv.length
    exact wpAny_pyNext_list_end (I.ok.hd hc) st p.isList (by simp; omega) fun h' eb => ⟨rfl, I.turned (t' := s.toks) (fun b o hb e => eb b o hb e) f0 f1 f3 f4 f5⟩
  self := fun _ _ _ _ _ st h => wpAny_pyIter_listiter st h
theorem turn_tuple {P : Program} {w : World} {K : PySem.W.Frag} {tg : Expr} (a it : Addr) : Turn P w K tg (Itt K a) [it] it (fun i h => h.IsTupleIter it a i) where
  mem := by simp
  obj := fun i h st b hb => by
    have e : b = it := by simpa using hb
    subst e
    obtain ⟨o, e, c, d⟩ := st
    exact ⟨o, e, fun v z => by rw [d] at z; cases z⟩
  keep := fun i h h' st k => st.at fun o e => k it (by simp) o e
  item := by
    intro X hP hw hK hc i pins s σ H E I hf st hg
    subst hP hw hK
    obtain ⟨xs, x, hq, hx⟩ := hg
    obtain ⟨its, rv, p, hz⟩ := I.tuple hq
    obtain ⟨u, hu, ru⟩ := rv.get hx
    obtain ⟨f0, f1, f2, f3, f4, f5⟩ := hf it (by simp)
    refine wpAny_pyNext_tuple_item st (show s.heap.IsTuple a its.toArray from p) (x := u) (by simpa using hu) fun h' st' sb => ?_
    have I1 : Inv X pins σ H { s with heap := h' } := I.turned (t' := s.toks) (fun b o hb e => (sb.2 b hb).trans e) f0 f1 f3 f4 f5
    obtain ⟨o, e, c, d⟩ := id st'
    exact ⟨u, rfl, go_of (s := { s with heap := h' }) e c d (by decide) ⟨x, H, I1, ru, ⟨rfl, fun ys hy => by rw [I.tuple_inj hy hq]; exact hx⟩, st', fun b hb => (hf b hb).1⟩⟩
  done := by
    intro X hP hw hK hc i pins s σ H E I hf st hg
    subst hP hw hK
    obtain ⟨xs, hq, hx⟩ := hg
    obtain ⟨its, rv, p, hz⟩ := I.tuple hq
    obtain ⟨f0, f1, f2, f3, f4, f5⟩ := hf it (by simp)
    have hl := rv.length
    exact wpAny_pyNext_tuple_end (I.ok.hd hc) st (show s.heap.IsTuple a its.toArray from p) (by simp; omega) fun h' eb => ⟨rfl, I.turned (t' := s.toks) (fun b o hb e => eb b o hb e) f0 f1 f3 f4 f5⟩
  self := fun _ _ _ _ _ st h => wpAny_pyIter_tupleiter st h
theorem turn_range {P : Program} {w : World} {K : PySem.W.Frag} {tg : Expr} (it : Addr) (lo : Int) (n : Nat) : Turn P w K tg (Itr lo n) [it] it (fun i h => IsRangeIter h it (lo + (i : Nat) * 1) ((n : Int) - (i : Nat)) 1) where
  mem := by simp
  obj := fun i h st b hb => by
    have e : b = it := by simpa using hb
    subst e
    exact ⟨_, st, fun v z => by
      have z' : Data.fields _ = Data.cell v := z
      cases z'⟩
  keep := fun i h h' st k => k it (by simp) _ st
  item := by
    intro X hP hw hK hc i pins s σ H E I hf st hg
    subst hP hw hK
    obtain ⟨f0, f1, f2, f3, f4, f5⟩ := hf it (by simp)
    have W := Walks.range (prog := X.prog) (w := X.w) (I.ok.hd hc) it lo 1 n
    refine W.item i s _ _ hg st fun v h' tk hv st' kk => ?_
    obtain ⟨t, rfl⟩ := hv
    have I1 : Inv X pins σ H { s with heap := h', toks := tk } := I.turned (fun b o hb e => kk b o (by simpa using hb) e) f0 f1 f3 f4 f5
    refine ⟨_, rfl, go_of (s := { s with heap := h', toks := tk }) (n := "range_iterator") st' rfl rfl (by decide) ⟨.int (lo + i), H, I1, ⟨t, ?_⟩, ⟨rfl, rfl⟩, st', fun b hb => (hf b hb).1⟩⟩
    rw [Int.mul_one]
  done := by
    intro X hP hw hK hc i pins s σ H E I hf st hg
    subst hP hw hK
    obtain ⟨f0, f1, f2, f3, f4, f5⟩ := hf it (by simp)
    exact wpAny_pyNext_range_end (I.ok.hd hc) st (by have : n ≤ i := hg; omega) fun h' eb => ⟨rfl, I.turned (t' := s.toks) (fun b o hb e => eb b o hb e) f0 f1 f3 f4 f5⟩
  self := fun _ _ _ _ _ st h => wpAny_pyIter_rangeiter st h
end L2

namespace L2
open PySem PySem.Spec PyProof.Rows
section
variable {X : Cx} {tg : Expr}
def iList (K : PySem.W.Frag) (tl : TE) : TI := fun σ H R => tl σ H fun x H1 => ∃ a, x = .ref a ∧ (∃ xs, SqL K H1 a xs) ∧ R (Itl K a) H1
def iTup (K : PySem.W.Frag) (tl : TE) : TI := fun σ H R => tl σ H fun x H1 => ∃ a, x = .ref a ∧ (∃ xs, SqT K H1 a xs) ∧ R (Itt K a) H1
theorem pi_list {l : Expr} {tl : TE} (hl : PE X l tl) : PI X tg l (iList X.K tl) := by
  intro pins s σ H R I h
  refine thn (hl pins s σ H _ I h) fun v s1 ⟨x, H1, I1, r1, q1⟩ => ?_
  obtain ⟨a, e, ⟨xs, hq⟩, q⟩ := q1
  subst e
  cases r1
  obtain ⟨its, rv, p, hz⟩ := I1.list hq
  refine wpAny_pyIter_list p.isList ?_
  refine ⟨s1.heap.objs.size, [s1.heap.objs.size], _, _, H1, rfl, I1.kept (t' := s1.toks) fun b o e => Heap.get?_push_of_some _ e, turn_list a _, ⟨_, Heap.get?_push_size _ rfl, rfl, rfl⟩, fun b hb => ?_, q⟩
  have e : b = s1.heap.objs.size := by simpa using hb
  subst e
  exact I1.fpOk (Nat.le_refl _) (I1.hok.fresh (Nat.le_refl _))
theorem pi_tup {l : Expr} {tl : TE} (hl : PE X l tl) : PI X tg l (iTup X.K tl) := by
  intro pins s σ H R I h
  refine thn (hl pins s σ H _ I h) fun v s1 ⟨x, H1, I1, r1, q1⟩ => ?_
  obtain ⟨a, e, ⟨xs, hq⟩, q⟩ := q1
  subst e
  cases r1
  obtain ⟨its, rv, p, hz⟩ := I1.tuple hq
  refine wpAny_pyIter_tuple (show s1.heap.IsTuple a its.toArray from p) ?_
  refine ⟨s1.heap.objs.size, [s1.heap.objs.size], _, _, H1, rfl, I1.kept (t' := s1.toks) fun b o e => Heap.get?_push_of_some _ e, turn_tuple a _, ⟨_, Heap.get?_push_size _ rfl, rfl, rfl⟩, fun b hb => ?_, q⟩
  have e : b = s1.heap.objs.size := by simpa using hb
  subst e
  exact I1.fpOk (Nat.le_refl _) (I1.hok.fresh (Nat.le_refl _))
/-- a range object just made, walked -/
theorem range_it {pins : List (Addr × Obj)} {σ : St} {H : Hp} {s : Shared} {R : It → Hp → Prop} {E : Value → Shared → Prop} {lo hi : Int} {t u v : Tok} {tk : Nat} (I : Inv X pins σ H s) (h1 : -(2 ^ 62) ≤ lo) (h2 : lo < 2 ^ 62) (h3 : -(2 ^ 62) ≤ hi) (h4 : hi < 2 ^ 62)
    (q : R (Itr lo (hi - lo).toNat) H) : wpAny (model X.prog X.w) X.A (pyIter (.ref s.heap.objs.size)) (PIE X pins σ tg R) E { s with heap := s.heap.push { cls := .type "range", data := .fields #[.int lo t, .int hi u, .int 1 v] }, toks := tk } := by
  refine wpAny_pyIter_range (IsRange.new ..) (small_one h1 h2 h3 h4) ?_
  have I1 : Inv X pins σ H { s with heap := s.heap.push { cls := .type "range", data := .fields #[.int lo t, .int hi u, .int 1 v] }, toks := tk } := I.kept fun b o e => Heap.get?_push_of_some _ e
  refine ⟨(s.heap.push { cls := .type "range", data := .fields #[.int lo t, .int hi u, .int 1 v] }).objs.size, [(s.heap.push { cls := .type "range", data := .fields #[.int lo t, .int hi u, .int 1 v] }).objs.size], _, _, H, rfl,
    I1.kept (t' := tk) fun b o e => Heap.get?_push_of_some _ e, turn_range _ lo (hi - lo).toNat, ?_, fun b hb => ?_, q⟩
  · have e1 : lo + ((0 : Nat) : Int) * 1 = lo := by simp
    have e2 : (((hi - lo).toNat : Nat) : Int) - ((0 : Nat) : Int) = Builtin.Range.rangeSize lo hi 1 := by rw [rangeSize_one]; split <;> omega
    show IsRangeIter _ _ (lo + ((0 : Nat) : Int) * 1) ((((hi - lo).toNat : Nat) : Int) - ((0 : Nat) : Int)) 1
    rw [e1, e2]
    exact Heap.get?_push_size _ rfl
  · have e : b = (s.heap.push { cls := .type "range", data := .fields #[.int lo t, .int hi u, .int 1 v] }).objs.size := by simpa using hb
    subst e
    exact I1.fpOk (Nat.le_refl _) (I1.hok.fresh (Nat.le_refl _))
def iRng1 (ta : TA) : TI := fun σ H R => ta σ H fun vs H1 => ∃ j : Int, vs = [.int j] ∧ -(2 ^ 62) ≤ j ∧ j < 2 ^ 62 ∧ R (Itr 0 j.toNat) H1
def iRng2 (ta : TA) : TI := fun σ H R => ta σ H fun vs H1 => ∃ i j : Int, vs = [.int i, .int j] ∧ (-(2 ^ 62) ≤ i ∧ i < 2 ^ 62 ∧ -(2 ^ 62) ≤ j ∧ j < 2 ^ 62) ∧ R (Itr i (j - i).toNat) H1
theorem pi_range1 {a : Expr} {ta : TA} {p pos : Pos} (hg : Gl X "range") (hm : X.mg "range" = none) (ha : PA X [a] ta) (hs : starEach [a] X.env = [(false, eval a X.env)] := by rfl) : PI X tg (.Call (.Name "range" p) [a] [] pos) (iRng1 ta) := by
  intro pins s σ H R I h
  refine Call_ (ld_blt I hg hm boot_range (PyProof.Rows.callWith_type1 (thn (ha pos pins s σ H _ I h) fun us s1 ⟨vs, H1, I1, r1, q1⟩ => ?_) hs rfl))
  obtain ⟨j, e, q1, q2, q⟩ := q1
  subst e
  cases r1 with
  | cons r rr =>
    cases rr
    obtain ⟨t, rfl⟩ := r
    exact call_range_1 (range_it I1 (by omega) (by omega) q1 q2 (by simpa using q))
theorem pi_range2 {a b : Expr} {ta : TA} {p pos : Pos} (hg : Gl X "range") (hm : X.mg "range" = none) (ha : PA X [a, b] ta) (hs : starEach [a, b] X.env = [(false, eval a X.env), (false, eval b X.env)] := by rfl) (hs2 : starEach [b] X.env = [(false, eval b X.env)] := by rfl) :
    PI X tg (.Call (.Name "range" p) [a, b] [] pos) (iRng2 ta) := by
  intro pins s σ H R I h
  refine Call_ (ld_blt I hg hm boot_range (PyProof.Rows.callWith_type1 (thn (ha pos pins s σ H _ I h) fun us s1 ⟨vs, H1, I1, r1, q1⟩ => ?_) (by rw [hs, hs2]) (by rw [hs2]; rfl)))
  obtain ⟨i, j, e, ⟨q1, q2, q3, q4⟩, q⟩ := q1
  subst e
  cases r1 with
  | cons r rr =>
    cases rr with
    | cons r' rr =>
      cases rr
      obtain ⟨t, rfl⟩ := r
      obtain ⟨t', rfl⟩ := r'
      exact call_range_2 (range_it I1 q1 q2 q3 q4 q)

/-! ### for -/
/-- W: the invariant by the turn and a measure; N: what the body is to reach -/
def tFor (wi : TI) (g : TG) (tb : TS) : TS := fun D σ H => wi σ H fun J H1 => ∃ W : Nat → Nat → St → Hp → Prop, (∃ m, W 0 m σ H1) ∧ ∀ i m σ H, W i m σ H →
  (J.stop i H ∧ D.nx σ H) ∨ (J.go i H ∧ ∃ N : St → Hp → Prop, (∀ σ' H', N σ' H' → ∃ m', m' < m ∧ W (i + 1) m' σ' H') ∧ ∀ x H', J.yld i H x H' → g x σ H' fun σ2 H2 => tb { D with nx := N, ct := N, bk := D.nx } σ2 H2)
/-- the records at fp as they stand -/
def pinsAt (fp : List Addr) (h : Heap) : List (Addr × Obj) := fp.filterMap fun b => (h.get? b).map fun o => (b, o)
theorem mem_pinsAt {fp : List Addr} {h : Heap} {b : Addr} {o : Obj} (hb : b ∈ fp) (e : h.get? b = some o) : (b, o) ∈ pinsAt fp h := List.mem_filterMap.mpr ⟨b, hb, by rw [e]; rfl⟩
theorem of_pinsAt {fp : List Addr} {h : Heap} {p : Addr × Obj} (hp : p ∈ pinsAt fp h) : p.1 ∈ fp ∧ h.get? p.1 = some p.2 := by
  obtain ⟨b, hb, e⟩ := List.mem_filterMap.mp hp
  cases q : h.get? b with
  | none => rw [q] at e; cases e
  | some o =>
    rw [q] at e
    have e' : (b, o) = p := Option.some.inj e
    subst e'
    exact ⟨hb, q⟩
theorem Inv.pinned {pins : List (Addr × Obj)} {σ : St} {H : Hp} {s : Shared} {fp : List Addr} (I : Inv X pins σ H s) (hf : ∀ b ∈ fp, FpOk X pins H b) (ho : ∀ b ∈ fp, ∃ o, s.heap.get? b = some o ∧ ∀ v, o.data ≠ .cell v) : Inv X (pins ++ pinsAt fp s.heap) σ H s :=
  I.pins_of fun p hp => (List.mem_append.mp hp).elim (fun z => I.pin p (List.mem_append_right _ z)) fun z => by
    obtain ⟨hb, e⟩ := of_pinsAt z
    obtain ⟨f0, f1, f2, _⟩ := hf p.1 hb
    obtain ⟨o, e', d⟩ := ho p.1 hb
    rw [e] at e'; cases e'
    exact ⟨e, f0, f1, f2, d⟩
theorem Inv.unpinned {pins pl : List (Addr × Obj)} {σ : St} {H : Hp} {s : Shared} (I : Inv X (pins ++ pl) σ H s) : Inv X pins σ H s := I.pins_of fun p hp => I.pin p (List.mem_append_right _ (List.mem_append_left _ hp))
theorem ps_for {iter : Expr} {body : List Stmt} {wi : TI} {g : TG} {tb : TS} {pos : Pos} (hp : PassesOwn (model X.prog X.w) X.A X.env X.xe) (hc : X.calm = true) (hi : PI X tg iter wi) (hg : PG X tg g) (hb : PSs X body tb)
    (hs : ∀ x, foldedSetIterable iter X.env x = pure x := by intro _; rfl) : PS X (.For tg iter body [] pos) (tFor wi g tb) := by
  intro pins s σ H D I h
  refine wpAny_For (thn (hi pins s σ H _ I h) fun v s1 h1 => thn h1 fun itv s2 h2 => ?_) hs
  obtain ⟨it, fp, tn, J, H2, e, I2, T, st2, f2, W, ⟨m0, w0⟩, turn⟩ := h2
  subst e
  -- what stays true of the iterator's objects through the loop
  have stat : ∀ {H' : Hp}, (∀ b ∈ fp, H' b = none) → ∀ b ∈ fp, FpOk X pins H' b := fun hn b hb => ⟨hn b hb, (f2 b hb).2⟩
  refine codeAny_forLoop_any (fun n s' => ∃ i σ' H', Inv X pins σ' H' s' ∧ tn i s'.heap ∧ (∀ b ∈ fp, H' b = none) ∧ W i n σ' H') ?_ m0 ⟨0, σ, H2, I2, st2, fun b hb => (f2 b hb).1, w0⟩
  rintro n s3 ⟨i, σ3, H3, I3, st3, fr3, w3⟩
  rcases turn i n σ3 H3 w3 with ⟨stop, qn⟩ | ⟨go, N, hN, step⟩
  · refine wpAny_passesOwn hp (thn (T.done X rfl rfl rfl hc i pins s3 σ3 H3 X.xe I3 (stat fr3) st3 stop) fun r s4 ⟨hr, I4⟩ => ?_)
    subst hr
    exact wpAny_execs_nil ⟨σ3, H3, I4, qn⟩
  · refine wpAny_passesOwn hp (thn (T.item X rfl rfl rfl hc i pins s3 σ3 H3 X.xe I3 (stat fr3) st3 go) fun r s4 ⟨u, hr, h4⟩ => ?_)
    subst hr
    refine wpAny_passesOwn hp (thn h4 fun _ s5 ⟨x, H5, I5, r5, y5, st5, fr5⟩ => ?_)
    have I5' := I5.pinned (stat fr5) (T.obj _ _ st5)
    refine wpAny_passesOwn hp (thn (hg _ s5 σ3 H5 x u _ I5' r5 (step x H5 y5)) fun _ s6 ⟨σ6, H6, I6, q6⟩ => ?_)
    refine wpAny_passesOwn hp (thn (hb _ s6 σ6 H6 _ I6 q6) fun f s7 q7 => ?_)
    have again : ∀ {σ7 : St} {H7 : Hp}, Inv X (pins ++ pinsAt fp s5.heap) σ7 H7 s7 → N σ7 H7 → ∃ m, m < n ∧ ∃ i σ' H', Inv X pins σ' H' s7 ∧ tn i s7.heap ∧ (∀ b ∈ fp, H' b = none) ∧ W i m σ' H' := fun {σ7 H7} I7 n7 => by
      obtain ⟨m', hm, w7⟩ := hN σ7 H7 n7
      refine ⟨m', hm, i + 1, σ7, H7, I7.unpinned, T.keep _ _ _ st5 fun b hb o e => (I7.pin (b, o) (List.mem_append_right _ (List.mem_append_right _ (mem_pinsAt hb e)))).1, fun b hb => ?_, w7⟩
      obtain ⟨o, e, d⟩ := T.obj _ _ st5 b hb
      exact (I7.pin (b, o) (List.mem_append_right _ (List.mem_append_right _ (mem_pinsAt hb e)))).2.1
    cases f with
    | next => obtain ⟨σ7, H7, I7, n7⟩ := q7; exact again I7 n7
    | cont => obtain ⟨σ7, H7, I7, n7⟩ := q7; exact again I7 n7
    | brk => obtain ⟨σ7, H7, I7, q7⟩ := q7; exact ⟨σ7, H7, I7.unpinned, q7⟩
    | ret v => obtain ⟨x7, σ7, H7, I7, r7, q7⟩ := q7; exact ⟨x7, σ7, H7, I7.unpinned, r7, q7⟩
end

/-! ### the forms one uses -/
/-- over a list that the body leaves as it is -/
theorem for_list {K : PySem.W.Frag} {a : Addr} {xs : List V} {g : TG} {tb : TS} {D : Ends} {σ : St} {H : Hp} (Pv : Nat → St → Hp → Prop) (h0 : Pv 0 σ H) (hl : ∀ i σ H, i ≤ xs.length → Pv i σ H → SqL K H a xs)
    (hs : ∀ i x σ H, xs[i]? = some x → Pv i σ H → g x σ H fun σ2 H2 => tb { D with nx := Pv (i + 1), ct := Pv (i + 1), bk := D.nx } σ2 H2) (hd : ∀ σ H, Pv xs.length σ H → D.nx σ H) :
    ∃ W : Nat → Nat → St → Hp → Prop, (∃ m, W 0 m σ H) ∧ ∀ i m σ H, W i m σ H →
      ((Itl K a).stop i H ∧ D.nx σ H) ∨ ((Itl K a).go i H ∧ ∃ N : St → Hp → Prop, (∀ σ' H', N σ' H' → ∃ m', m' < m ∧ W (i + 1) m' σ' H') ∧ ∀ x H', (Itl K a).yld i H x H' → g x σ H' fun σ2 H2 => tb { D with nx := N, ct := N, bk := D.nx } σ2 H2) := by
  refine ⟨fun i m σ H => m = xs.length - i ∧ i ≤ xs.length ∧ Pv i σ H, ⟨xs.length, by simp, Nat.zero_le _, h0⟩, ?_⟩
  rintro i m σ H ⟨rfl, hi, p⟩
  have q := hl i σ H hi p
  by_cases hlt : i < xs.length
  · refine .inr ⟨⟨xs, xs[i], q, by simp [hlt]⟩, Pv (i + 1), fun σ' H' p' => ⟨xs.length - (i + 1), by omega, rfl, hlt, p'⟩, fun x H' y => ?_⟩
    obtain ⟨e, y⟩ := y
    subst e
    exact hs i x σ _ (y xs q) p
  · have e : i = xs.length := by omega
    subst e
    exact .inl ⟨⟨xs, q, Nat.le_refl _⟩, hd σ H p⟩
theorem for_tup {K : PySem.W.Frag} {a : Addr} {xs : List V} {g : TG} {tb : TS} {D : Ends} {σ : St} {H : Hp} (Pv : Nat → St → Hp → Prop) (h0 : Pv 0 σ H) (hl : ∀ i σ H, i ≤ xs.length → Pv i σ H → SqT K H a xs)
    (hs : ∀ i x σ H, xs[i]? = some x → Pv i σ H → g x σ H fun σ2 H2 => tb { D with nx := Pv (i + 1), ct := Pv (i + 1), bk := D.nx } σ2 H2) (hd : ∀ σ H, Pv xs.length σ H → D.nx σ H) :
    ∃ W : Nat → Nat → St → Hp → Prop, (∃ m, W 0 m σ H) ∧ ∀ i m σ H, W i m σ H →
      ((Itt K a).stop i H ∧ D.nx σ H) ∨ ((Itt K a).go i H ∧ ∃ N : St → Hp → Prop, (∀ σ' H', N σ' H' → ∃ m', m' < m ∧ W (i + 1) m' σ' H') ∧ ∀ x H', (Itt K a).yld i H x H' → g x σ H' fun σ2 H2 => tb { D with nx := N, ct := N, bk := D.nx } σ2 H2) := by
  refine ⟨fun i m σ H => m = xs.length - i ∧ i ≤ xs.length ∧ Pv i σ H, ⟨xs.length, by simp, Nat.zero_le _, h0⟩, ?_⟩
  rintro i m σ H ⟨rfl, hi, p⟩
  have q := hl i σ H hi p
  by_cases hlt : i < xs.length
  · refine .inr ⟨⟨xs, xs[i], q, by simp [hlt]⟩, Pv (i + 1), fun σ' H' p' => ⟨xs.length - (i + 1), by omega, rfl, hlt, p'⟩, fun x H' y => ?_⟩
    obtain ⟨e, y⟩ := y
    subst e
    exact hs i x σ _ (y xs q) p
  · have e : i = xs.length := by omega
    subst e
    exact .inl ⟨⟨xs, q, Nat.le_refl _⟩, hd σ H p⟩
theorem for_range {lo : Int} {n : Nat} {g : TG} {tb : TS} {D : Ends} {σ : St} {H : Hp} (Pv : Nat → St → Hp → Prop) (h0 : Pv 0 σ H)
    (hs : ∀ i σ H, i < n → Pv i σ H → g (.int (lo + i)) σ H fun σ2 H2 => tb { D with nx := Pv (i + 1), ct := Pv (i + 1), bk := D.nx } σ2 H2) (hd : ∀ σ H, Pv n σ H → D.nx σ H) :
    ∃ W : Nat → Nat → St → Hp → Prop, (∃ m, W 0 m σ H) ∧ ∀ i m σ H, W i m σ H →
      ((Itr lo n).stop i H ∧ D.nx σ H) ∨ ((Itr lo n).go i H ∧ ∃ N : St → Hp → Prop, (∀ σ' H', N σ' H' → ∃ m', m' < m ∧ W (i + 1) m' σ' H') ∧ ∀ x H', (Itr lo n).yld i H x H' → g x σ H' fun σ2 H2 => tb { D with nx := N, ct := N, bk := D.nx } σ2 H2) := by
  refine ⟨fun i m σ H => m = n - i ∧ i ≤ n ∧ Pv i σ H, ⟨n, by simp, Nat.zero_le _, h0⟩, ?_⟩
  rintro i m σ H ⟨rfl, hi, p⟩
  by_cases hlt : i < n
  · refine .inr ⟨hlt, Pv (i + 1), fun σ' H' p' => ⟨n - (i + 1), by omega, rfl, hlt, p'⟩, fun x H' y => ?_⟩
    obtain ⟨e, y⟩ := y
    subst e y
    exact hs i σ _ hlt p
  · have e : i = n := by omega
    subst e
    exact .inl ⟨Nat.le_refl _, hd σ H p⟩
/-- while, by a word and a measure of the state -/
theorem while_by {c : TT} {tb : TS} {D : Ends} {σ : St} {H : Hp} (Pv : St → Hp → Prop) (μ : St → Hp → Nat) (h0 : Pv σ H)
    (hs : ∀ σ H, Pv σ H → c σ H fun b H1 => if b = true then tb { D with nx := fun σ' H' => Pv σ' H' ∧ μ σ' H' < μ σ H, ct := fun σ' H' => Pv σ' H' ∧ μ σ' H' < μ σ H, bk := D.nx } σ H1 else D.nx σ H1)
    (mono : ∀ σ H Q Q', (∀ b H1, Q b H1 → Q' b H1) → c σ H Q → c σ H Q') : tWhile c tb D σ H := by
  refine ⟨fun m σ H => m = μ σ H ∧ Pv σ H, ⟨_, rfl, h0⟩, ?_⟩
  rintro m σ H ⟨rfl, p⟩
  refine mono σ H _ _ (fun b H1 q => ?_) (hs σ H p)
  cases b with
  | true => exact ⟨_, fun σ' H' ⟨p', l⟩ => ⟨_, l, rfl, p'⟩, q⟩
  | false => exact q
end L2

namespace L2
open PySem PySem.Spec PyProof.Rows

abbrev R2 := V → V → Hp → VK → Prop
/-- a two-place operation on values: f is binaryOp op, inplaceOp op or compareOp op -/
def OpR (X : Cx) (f : Value → Value → Sem Value) (r : R2) : Prop :=
  ∀ (pins : List (Addr × Obj)) (s : Shared) (σ : St) (H : Hp) (x y : V) (v u : Value) (Q : VK), Inv X pins σ H s → RelV x v → RelV y u → r x y H Q →
    wpAny (model X.prog X.w) X.A (f v u) (EP X pins σ Q) X.xe s
/-- a one-place operation -/
def UnR (X : Cx) (f : Value → Sem Value) (r : V → Hp → VK → Prop) : Prop :=
  ∀ (pins : List (Addr × Obj)) (s : Shared) (σ : St) (H : Hp) (x : V) (v : Value) (Q : VK), Inv X pins σ H s → RelV x v → r x H Q →
    wpAny (model X.prog X.w) X.A (f v) (EP X pins σ Q) X.xe s
/-- a call of a value that is known (a builtin, a type) with values -/
def CallR (X : Cx) (f : Value) (r : List V → Hp → VK → Prop) : Prop :=
  ∀ (pins : List (Addr × Obj)) (s : Shared) (σ : St) (H : Hp) (xs : List V) (us : List Value) (Q : VK), Inv X pins σ H s → Vals xs us → r xs H Q →
    wpAny (model X.prog X.w) X.A (call f us) (EP X pins σ Q) X.xe s
/-- a value's truth -/
def TruR (X : Cx) (r : V → Hp → (Bool → Hp → Prop) → Prop) : Prop :=
  ∀ (pins : List (Addr × Obj)) (s : Shared) (σ : St) (H : Hp) (x : V) (v : Value) (Q : Bool → Hp → Prop), Inv X pins σ H s → RelV x v → r x H Q →
    wpAny (model X.prog X.w) X.A (truthy v) (TP X pins σ Q) X.xe s

def tOp (r : R2) (ta tb : TE) : TE := fun σ H Q => ta σ H fun x H1 => tb σ H1 fun y H2 => r x y H2 Q
def tUn (r : V → Hp → VK → Prop) (ta : TE) : TE := fun σ H Q => ta σ H fun x H1 => r x H1 Q
/-- ints in, under C, and a value out -/
def rI (C : Int → Int → Prop) (g : Int → Int → V) : R2 := fun x y H Q => ∃ i j, x = .int i ∧ y = .int j ∧ C i j ∧ Q (g i j) H
def rI0 (g : Int → Int → V) : R2 := fun x y H Q => ∃ i j, x = .int i ∧ y = .int j ∧ Q (g i j) H
def rU (g : Int → V) : V → Hp → VK → Prop := fun x H Q => ∃ i, x = .int i ∧ Q (g i) H

section
variable {X : Cx} {a b c : Expr} {ta tb tc : TE} {pos : Pos}

theorem binT (ha : PE X a ta) (hb : PE X b tb) {pins : List (Addr × Obj)} {s : Shared} {σ : St} {H : Hp} {R : V → V → Hp → Prop} (I : Inv X pins σ H s)
    (h : ta σ H fun x H1 => tb σ H1 fun y H2 => R x y H2) {Q : Value → Shared → Prop} {f : Value → Value → Sem Value}
    (hf : ∀ v u s2 x y H2, Inv X pins σ H2 s2 → RelV x v → RelV y u → R x y H2 → wpAny (model X.prog X.w) X.A (f v u) Q X.xe s2) :
    wpAny (model X.prog X.w) X.A (eval a X.env) (fun v s₁ => wpAny (model X.prog X.w) X.A (eval b X.env) (fun u s₂ => wpAny (model X.prog X.w) X.A (f v u) Q X.xe s₂) X.xe s₁) X.xe s := by
  refine thn (ha pins s σ H _ I h) fun v s1 ⟨x, H1, I1, r1, q1⟩ => ?_
  refine thn (hb pins s1 σ H1 _ I1 q1) fun u s2 ⟨y, H2, I2, r2, q2⟩ => ?_
  exact hf v u s2 x y H2 I2 r1 r2 q2

theorem pe_op {op : Operator} {r : R2} (ho : OpR X (binaryOp op) r) (ha : PE X a ta) (hb : PE X b tb) : PE X (.BinOp a op b pos) (tOp r ta tb) := by
  intro pins s σ H Q I h
  exact wpAny_BinOp (binT ha hb I h fun v u s2 x y H2 I2 rx ry q => ho pins s2 σ H2 x y v u Q I2 rx ry q)
theorem pe_un {op : UnaryOp} {r : V → Hp → VK → Prop} (ho : UnR X (unaryOp op) r) (ha : PE X a ta) : PE X (.UnaryOp op a pos) (tUn r ta) := by
  intro pins s σ H Q I h
  exact UnaryOp_ (thn (ha pins s σ H _ I h) fun v s1 ⟨x, H1, I1, r1, q1⟩ => ho pins s1 σ H1 x v Q I1 r1 q1)
/-- a op= e at a name: the name's slot i -/
theorem augR {op : Operator} {r : R2} (ho : OpR X (inplaceOp op) r) {pins : List (Addr × Obj)} {s : Shared} {σ : St} {H : Hp} {x y : V} {v u : Value} {Q : VK} (I : Inv X pins σ H s)
    (rx : RelV x v) (ry : RelV y u) (q : r x y H Q) : wpAny (model X.prog X.w) X.A (inplaceOp op v u) (EP X pins σ Q) X.xe s := ho pins s σ H x y v u Q I rx ry q

/-! ### ints -/
theorem opI {f : Value → Value → Sem Value} {C : Int → Int → Prop} {g : Int → Int → Int}
    (rule : ∀ (i j : Int) (t u : Tok) (s : Shared) (Q : Value → Shared → Prop) (E : Value → Shared → Prop), C i j → Q (.int (g i j) s.toks) { s with toks := s.toks + 1 } → wpAny (model X.prog X.w) X.A (f (.int i t) (.int j u)) Q E s) :
    OpR X f (rI C fun i j => .int (g i j)) := by
  intro pins s σ H x y v u Q I rx ry h
  obtain ⟨i, j, rfl, rfl, hc, q⟩ := h
  obtain ⟨t, rfl⟩ := rx
  obtain ⟨t', rfl⟩ := ry
  exact rule i j t t' s _ _ hc ⟨.int (g i j), H, I.tok _, ⟨_, rfl⟩, q⟩
theorem opI0 {f : Value → Value → Sem Value} {g : Int → Int → Int}
    (rule : ∀ (i j : Int) (t u : Tok) (s : Shared) (Q : Value → Shared → Prop) (E : Value → Shared → Prop), Q (.int (g i j) s.toks) { s with toks := s.toks + 1 } → wpAny (model X.prog X.w) X.A (f (.int i t) (.int j u)) Q E s) :
    OpR X f (rI0 fun i j => .int (g i j)) := by
  intro pins s σ H x y v u Q I rx ry h
  obtain ⟨i, j, rfl, rfl, q⟩ := h
  obtain ⟨t, rfl⟩ := rx
  obtain ⟨t', rfl⟩ := ry
  exact rule i j t t' s _ _ ⟨.int (g i j), H, I.tok _, ⟨_, rfl⟩, q⟩
theorem opB0 {f : Value → Value → Sem Value} {g : Int → Int → Bool}
    (rule : ∀ (i j : Int) (t u : Tok) (s : Shared) (Q : Value → Shared → Prop) (E : Value → Shared → Prop), Q (.bool (g i j)) s → wpAny (model X.prog X.w) X.A (f (.int i t) (.int j u)) Q E s) :
    OpR X f (rI0 fun i j => .bl (g i j)) := by
  intro pins s σ H x y v u Q I rx ry h
  obtain ⟨i, j, rfl, rfl, q⟩ := h
  obtain ⟨t, rfl⟩ := rx
  obtain ⟨t', rfl⟩ := ry
  exact rule i j t t' s _ _ ⟨.bl (g i j), H, I, rfl, q⟩

def CDiv (i j : Int) : Prop := 0 < j ∧ j < 1073741824
def CDivN (i j : Int) : Prop := j ≠ 0 ∧ j.natAbs < 1073741824
def CPow (i j : Int) : Prop := 0 ≤ j ∧ j ≤ 1000000 ∧ i.natAbs < 2 ^ 64
def CMul (i j : Int) : Prop := (-(2 ^ 64) < i ∧ i < 2 ^ 64) ∨ (-(2 ^ 64) < j ∧ j < 2 ^ 64)
theorem CMul.ok {i j : Int} (h : CMul i j) : IntMulOk i j := by
  rcases h with ⟨h1, h2⟩ | ⟨h1, h2⟩
  · exact .of_left (intBits_le_64 h1 h2)
  · exact .of_right (intBits_le_64 h1 h2)
theorem two_pow_nn (k : Nat) : (0 : Int) ≤ 2 ^ k := by
  rw [two_pow_cast]
  exact Int.natCast_nonneg _

theorem op_add : OpR X (binaryOp .Add) (rI0 fun i j => .int (i + j)) := opI0 fun _ _ _ _ _ _ _ q => add_int q
theorem op_sub : OpR X (binaryOp .Sub) (rI0 fun i j => .int (i - j)) := opI0 fun _ _ _ _ _ _ _ q => sub_int q
theorem op_mul : OpR X (binaryOp .Mult) (rI CMul fun i j => .int (i * j)) := opI fun _ _ _ _ _ _ _ hc q => mul_int q hc.ok
/-- // by a positive divisor -/
theorem op_fdiv : OpR X (binaryOp .FloorDiv) (rI CDiv fun i j => .int (i / j)) := opI fun i j _ _ _ _ _ hc q => by
  have h1 : (0 : Int) < j := hc.1
  have h2 : j < 1073741824 := hc.2
  exact floordiv_int (by omega) (by rw [Int.fdiv_eq_ediv_of_nonneg i (by omega)]; exact q) (.inl (PyProof.noPylong_small (by omega)))
theorem op_fdivN : OpR X (binaryOp .FloorDiv) (rI CDivN fun i j => .int (i.fdiv j)) := opI fun _ _ _ _ _ _ _ hc q => floordiv_int hc.1 q (.inl (PyProof.noPylong_small hc.2))
/-- % by a positive divisor of any size -/
theorem op_mod : OpR X (binaryOp .Mod) (rI (fun _ j => 0 < j) fun i j => .int (i % j)) := opI fun i j _ _ _ _ _ hc q => by
  have h1 : (0 : Int) < j := hc
  exact mod_int' (by omega) (by rw [Int.fmod_eq_emod_of_nonneg i (by omega)]; exact q)
theorem op_modN : OpR X (binaryOp .Mod) (rI (fun _ j => j ≠ 0) fun i j => .int (i.fmod j)) := opI fun _ _ _ _ _ _ _ hc q => mod_int' hc q
theorem op_pow : OpR X (binaryOp .Pow) (rI CPow fun i j => .int (i ^ j.toNat)) := opI fun _ _ _ _ _ _ _ hc q => pow_int_small hc.1 hc.2.1 hc.2.2 q
theorem op_shl : OpR X (binaryOp .LShift) (rI CPow fun i j => .int (i * 2 ^ j.toNat)) := opI fun _ _ _ _ _ _ _ hc q => lshift_int_small hc.1 hc.2.1 hc.2.2 q
theorem op_shr : OpR X (binaryOp .RShift) (rI (fun _ j => 0 ≤ j) fun i j => .int (i / 2 ^ j.toNat)) := opI fun i j _ _ _ _ _ hc q =>
  rshift_int hc (by rw [Int.fdiv_eq_ediv_of_nonneg i (two_pow_nn _)]; exact q)
theorem op_and : OpR X (binaryOp .BitAnd) (rI0 fun i j => .int (Builtin.bitAnd i j)) := opI0 fun _ _ _ _ _ _ _ q => and_int q
theorem op_or : OpR X (binaryOp .BitOr) (rI0 fun i j => .int (Builtin.bitOr i j)) := opI0 fun _ _ _ _ _ _ _ q => or_int q
theorem op_xor : OpR X (binaryOp .BitXor) (rI0 fun i j => .int (Builtin.bitXor i j)) := opI0 fun _ _ _ _ _ _ _ q => xor_int q

theorem iop_add : OpR X (inplaceOp .Add) (rI0 fun i j => .int (i + j)) := opI0 fun _ _ _ _ _ _ _ q => iadd_int q
theorem iop_sub : OpR X (inplaceOp .Sub) (rI0 fun i j => .int (i - j)) := opI0 fun _ _ _ _ _ _ _ q => isub_int q
theorem iop_mul : OpR X (inplaceOp .Mult) (rI CMul fun i j => .int (i * j)) := opI fun _ _ _ _ _ _ _ hc q => imul_int q hc.ok
theorem iop_fdiv : OpR X (inplaceOp .FloorDiv) (rI CDiv fun i j => .int (i / j)) := opI fun i j _ _ _ _ _ hc q => by
  have h1 : (0 : Int) < j := hc.1
  have h2 : j < 1073741824 := hc.2
  exact ifloordiv_int (by omega) (by rw [Int.fdiv_eq_ediv_of_nonneg i (by omega)]; exact q) (.inl (PyProof.noPylong_small (by omega)))
theorem iop_mod : OpR X (inplaceOp .Mod) (rI (fun _ j => 0 < j) fun i j => .int (i % j)) := opI fun i j _ _ _ _ _ hc q => by
  have h1 : (0 : Int) < j := hc
  exact imod_int (by omega) (by rw [Int.fmod_eq_emod_of_nonneg i (by omega)]; exact q)
theorem iop_shl : OpR X (inplaceOp .LShift) (rI CPow fun i j => .int (i * 2 ^ j.toNat)) := opI fun _ _ _ _ _ _ _ hc q => ilshift_int_small hc.1 hc.2.1 hc.2.2 q
theorem iop_shr : OpR X (inplaceOp .RShift) (rI (fun _ j => 0 ≤ j) fun i j => .int (i / 2 ^ j.toNat)) := opI fun i j _ _ _ _ _ hc q =>
  irshift_int hc (by rw [Int.fdiv_eq_ediv_of_nonneg i (two_pow_nn _)]; exact q)
theorem iop_and : OpR X (inplaceOp .BitAnd) (rI0 fun i j => .int (Builtin.bitAnd i j)) := opI0 fun _ _ _ _ _ _ _ q => iand_int q
theorem iop_or : OpR X (inplaceOp .BitOr) (rI0 fun i j => .int (Builtin.bitOr i j)) := opI0 fun _ _ _ _ _ _ _ q => ior_int q
theorem iop_xor : OpR X (inplaceOp .BitXor) (rI0 fun i j => .int (Builtin.bitXor i j)) := opI0 fun _ _ _ _ _ _ _ q => ixor_int q

theorem unI {f : Value → Sem Value} {g : Int → Int}
    (rule : ∀ (i : Int) (t : Tok) (s : Shared) (Q : Value → Shared → Prop) (E : Value → Shared → Prop), Q (.int (g i) s.toks) { s with toks := s.toks + 1 } → wpAny (model X.prog X.w) X.A (f (.int i t)) Q E s) :
    UnR X f (rU fun i => .int (g i)) := by
  intro pins s σ H x v Q I rx h
  obtain ⟨i, rfl, q⟩ := h
  obtain ⟨t, rfl⟩ := rx
  exact rule i t s _ _ ⟨.int (g i), H, I.tok _, ⟨_, rfl⟩, q⟩
theorem un_neg : UnR X (unaryOp .USub) (rU fun i => .int (-i)) := unI fun _ _ _ _ _ q => neg_int q
theorem un_inv : UnR X (unaryOp .Invert) (rU fun i => .int (Builtin.bitNot i)) := unI fun _ _ _ _ _ q => invert_int q

/-! ### bools among ints: n += (a < b) -/
theorem op_add_ib : OpR X (binaryOp .Add) (fun x y H Q => ∃ i k, x = .int i ∧ y = .bl k ∧ Q (.int (i + b2i k)) H) := by
  intro pins s σ H x y v u Q I rx ry h
  obtain ⟨i, k, rfl, rfl, q⟩ := h
  obtain ⟨t, rfl⟩ := rx
  cases ry
  exact add_int_bool ⟨.int (i + b2i k), H, I.tok _, ⟨_, rfl⟩, q⟩
end

/-! ### comparisons -/
/-- the scalars that == tells apart as data does -/
def scal : V → V → Bool
  | .non, .non => true | .non, .int _ => true | .int _, .non => true | .non, .bl _ => true | .bl _, .non => true | .non, .str _ => true | .str _, .non => true
  | .int _, .int _ => true | .bl _, .bl _ => true | .str _, .str _ => true | .byt _, .byt _ => true
  | .int _, .str _ => true | .str _, .int _ => true | .bl _, .str _ => true | .str _, .bl _ => true
  | _, _ => false
def rEq : R2 := fun x y H Q => scal x y = true ∧ Q (.bl (decide (x = y))) H
def rNe : R2 := fun x y H Q => scal x y = true ∧ Q (.bl (!decide (x = y))) H

theorem dec_int {i j : Int} : decide (V.int i = V.int j) = (i == j) := by
  rw [Bool.eq_iff_iff]
  simp
theorem dec_bl {i j : Bool} : decide (V.bl i = V.bl j) = (i == j) := by
  rw [Bool.eq_iff_iff]
  simp
theorem dec_str {i j : Str} : decide (V.str i = V.str j) = (i == j) := by
  rw [Bool.eq_iff_iff]
  simp
theorem dec_byt {i j : Array UInt8} : decide (V.byt i = V.byt j) = (i.toList == j.toList) := by
  rw [Bool.eq_iff_iff]
  cases i
  cases j
  simp

section
variable {X : Cx} {a b c : Expr} {ta tb tc : TE} {pos : Pos}
theorem fin_bl {pins : List (Addr × Obj)} {σ : St} {H : Hp} {s : Shared} {Q : VK} {k k' : Bool} (I : Inv X pins σ H s) (q : Q (.bl k) H) (e : k = k') : EP X pins σ Q (.bool k') s := by
  subst e
  exact ⟨.bl k, H, I, rfl, q⟩
theorem op_eq : OpR X (compareOp .Eq) rEq := by
  intro pins s σ H x y v u Q I rx ry h
  obtain ⟨hs, q⟩ := h
  cases x with
  | non =>
    cases rx
    cases y with
    | non => cases ry; exact PySem.EqNone.eq_none_none (fin_bl I q (by simp))
    | bl j => cases ry; exact PySem.EqNone.eq_none_bool (fin_bl I q (by simp))
    | int j => obtain ⟨t', rfl⟩ := ry; exact PySem.EqNone.eq_none_int (fin_bl I q (by simp))
    | str j => obtain ⟨t', rfl⟩ := ry; exact PySem.EqNone.eq_none_str (fin_bl I q (by simp))
    | _ => exact absurd (show false = true from hs) Bool.false_ne_true
  | bl i =>
    cases rx
    cases y with
    | non => cases ry; exact PySem.EqNone.eq_bool_none (fin_bl I q (by simp))
    | bl j => cases ry; exact eq_bool (fin_bl I q dec_bl)
    | str j => obtain ⟨t', rfl⟩ := ry; exact PySem.EqMixed.eq_bool_str (fin_bl I q (by simp))
    | _ => exact absurd (show false = true from hs) Bool.false_ne_true
  | int i =>
    obtain ⟨t, rfl⟩ := rx
    cases y with
    | non => cases ry; exact PySem.EqNone.eq_int_none (fin_bl I q (by simp))
    | int j => obtain ⟨t', rfl⟩ := ry; exact eq_int (fin_bl I q dec_int)
    | str j => obtain ⟨t', rfl⟩ := ry; exact PySem.EqMixed.eq_int_str (fin_bl I q (by simp))
    | _ => exact absurd (show false = true from hs) Bool.false_ne_true
  | str i =>
    obtain ⟨t, rfl⟩ := rx
    cases y with
    | non => cases ry; exact PySem.EqNone.eq_str_none (fin_bl I q (by simp))
    | bl j => cases ry; exact PySem.EqMixed.eq_str_bool (fin_bl I q (by simp))
    | int j => obtain ⟨t', rfl⟩ := ry; exact PySem.EqMixed.eq_str_int (fin_bl I q (by simp))
    | str j => obtain ⟨t', rfl⟩ := ry; exact eq_str (fin_bl I q dec_str)
    | _ => exact absurd (show false = true from hs) Bool.false_ne_true
  | byt i =>
    obtain ⟨t, rfl⟩ := rx
    cases y with
    | byt j => obtain ⟨t', rfl⟩ := ry; exact PySem.W.eq_bytes (fin_bl I q dec_byt)
    | _ => exact absurd (show false = true from hs) Bool.false_ne_true
  | _ => cases y <;> exact absurd (show false = true from hs) Bool.false_ne_true
theorem op_ne : OpR X (compareOp .NotEq) rNe := by
  intro pins s σ H x y v u Q I rx ry h
  obtain ⟨hs, q⟩ := h
  cases x with
  | non =>
    cases rx
    cases y with
    | non => cases ry; exact PySem.EqNone.ne_none_none (fin_bl I q (by simp))
    | bl j => cases ry; exact PySem.EqNone.ne_none_bool (fin_bl I q (by simp))
    | int j => obtain ⟨t', rfl⟩ := ry; exact PySem.EqNone.ne_none_int (fin_bl I q (by simp))
    | str j => obtain ⟨t', rfl⟩ := ry; exact PySem.EqNone.ne_none_str (fin_bl I q (by simp))
    | _ => exact absurd (show false = true from hs) Bool.false_ne_true
  | bl i =>
    cases rx
    cases y with
    | non => cases ry; exact PySem.EqNone.ne_bool_none (fin_bl I q (by simp))
    | bl j => cases ry; exact ne_bool (fin_bl I q (congrArg not dec_bl))
    | str j => obtain ⟨t', rfl⟩ := ry; exact PySem.EqMixed.ne_bool_str (fin_bl I q (by simp))
    | _ => exact absurd (show false = true from hs) Bool.false_ne_true
  | int i =>
    obtain ⟨t, rfl⟩ := rx
    cases y with
    | non => cases ry; exact PySem.EqNone.ne_int_none (fin_bl I q (by simp))
    | int j => obtain ⟨t', rfl⟩ := ry; exact ne_int (fin_bl I q (congrArg not dec_int))
    | str j => obtain ⟨t', rfl⟩ := ry; exact PySem.EqMixed.ne_int_str (fin_bl I q (by simp))
    | _ => exact absurd (show false = true from hs) Bool.false_ne_true
  | str i =>
    obtain ⟨t, rfl⟩ := rx
    cases y with
    | non => cases ry; exact PySem.EqNone.ne_str_none (fin_bl I q (by simp))
    | bl j => cases ry; exact PySem.EqMixed.ne_str_bool (fin_bl I q (by simp))
    | int j => obtain ⟨t', rfl⟩ := ry; exact PySem.EqMixed.ne_str_int (fin_bl I q (by simp))
    | str j => obtain ⟨t', rfl⟩ := ry; exact ne_str (fin_bl I q (congrArg not dec_str))
    | _ => exact absurd (show false = true from hs) Bool.false_ne_true
  | byt i =>
    obtain ⟨t, rfl⟩ := rx
    cases y with
    | byt j => obtain ⟨t', rfl⟩ := ry; exact PySem.W.ne_bytes (fin_bl I q (congrArg not dec_byt))
    | _ => exact absurd (show false = true from hs) Bool.false_ne_true
  | _ => cases y <;> exact absurd (show false = true from hs) Bool.false_ne_true

theorem op_lt : OpR X (compareOp .Lt) (rI0 fun i j => .bl (decide (i < j))) := opB0 fun _ _ _ _ _ _ _ q => lt_int q
theorem op_le : OpR X (compareOp .LtE) (rI0 fun i j => .bl (decide (i ≤ j))) := opB0 fun _ _ _ _ _ _ _ q => le_int q
theorem op_gt : OpR X (compareOp .Gt) (rI0 fun i j => .bl (decide (j < i))) := opB0 fun _ _ _ _ _ _ _ q => gt_int q
theorem op_ge : OpR X (compareOp .GtE) (rI0 fun i j => .bl (decide (j ≤ i))) := opB0 fun _ _ _ _ _ _ _ q => ge_int q
theorem op_lt_str : OpR X (compareOp .Lt) (fun x y H Q => ∃ i j, x = .str i ∧ y = .str j ∧ Q (.bl (decide (i.cps.toList < j.cps.toList))) H) := by
  intro pins s σ H x y v u Q I rx ry h
  obtain ⟨i, j, rfl, rfl, q⟩ := h
  obtain ⟨t, rfl⟩ := rx
  obtain ⟨t', rfl⟩ := ry
  exact lt_str (fin_bl I q rfl)
/-- the one string within the other -/
theorem op_in_str : OpR X (compareOp .In) (fun x y H Q => ∃ i j, x = .str i ∧ y = .str j ∧ Q (.bl (!(Builtin.Str.occurrences j i 0 j.length 1).isEmpty)) H) := by
  intro pins s σ H x y v u Q I rx ry h
  obtain ⟨i, j, rfl, rfl, q⟩ := h
  obtain ⟨t, rfl⟩ := rx
  obtain ⟨t', rfl⟩ := ry
  exact in_str (fin_bl I q rfl)

/-- is None, is not None: the right side a value none -/
theorem op_isN : OpR X (compareOp .Is) (fun x y H Q => y = .non ∧ Q (.bl (decide (x = .non))) H) := by
  intro pins s σ H x y v u Q I rx ry h
  obtain ⟨rfl, q⟩ := h
  cases ry
  refine is_none_gen (fin_bl I q ?_)
  cases x <;> first
    | (cases rx; rfl)
    | (obtain ⟨t, rfl⟩ := rx; rfl)
theorem op_notN : OpR X (compareOp .IsNot) (fun x y H Q => y = .non ∧ Q (.bl (!decide (x = .non))) H) := by
  intro pins s σ H x y v u Q I rx ry h
  obtain ⟨rfl, q⟩ := h
  cases ry
  refine isnot_none_gen (fin_bl I q ?_)
  cases x <;> first
    | (cases rx; rfl)
    | (obtain ⟨t, rfl⟩ := rx; rfl)

theorem op_notin_str : OpR X (compareOp .NotIn) (fun x y H Q => ∃ i j, x = .str i ∧ y = .str j ∧ Q (.bl (!(!(Builtin.Str.occurrences j i 0 j.length 1).isEmpty))) H) := by
  intro pins s σ H x y v u Q I rx ry h
  obtain ⟨i, j, rfl, rfl, q⟩ := h
  obtain ⟨t, rfl⟩ := rx
  obtain ⟨t', rfl⟩ := ry
  exact notIn_str (fin_bl I q rfl)
/-- is, is not of two objects that are tracked lists or instances -/
def isObj : HO → Bool
  | .lst _ => true
  | .ins _ _ _ => true
  | _ => false
theorem obj_there {pins : List (Addr × Obj)} {s : Shared} {σ : St} {H : Hp} {a : Addr} {o : HO} (I : Inv X pins σ H s) (h : H a = some o) (p : isObj o = true) : ∃ ob, s.heap.get? a = some ob ∧ ob.cls ≠ .type "tuple" := by
  cases o with
  | lst xs =>
    obtain ⟨_, its, n, _, e⟩ : xs.length ≤ sizeLine ∧ ∃ (its : List Value) (n : Nat), Vals xs its ∧ s.heap.get? a = some { cls := .type "list", data := .seq its.toArray n } := I.hok a _ h
    exact ⟨_, e, (by show Value.type "list" ≠ .type "tuple"; decide +kernel)⟩
  | ins C dx fs =>
    have x := I.hok a _ h
    obtain ⟨_, _, _, e, _⟩ := x
    exact ⟨_, e, (by show Value.ref C ≠ .type "tuple"; exact fun z => by cases z)⟩
  | _ => exact absurd (show false = true from p) Bool.false_ne_true
theorem op_is_ref : OpR X (compareOp .Is) (fun x y H Q => ∃ a b oa ob, x = .ref a ∧ y = .ref b ∧ H a = some oa ∧ isObj oa = true ∧ H b = some ob ∧ isObj ob = true ∧ Q (.bl (decide (a = b))) H) := by
  intro pins s σ H x y v u Q I rx ry h
  obtain ⟨a, b, oa, ob, rfl, rfl, ha, pa, hb, pb, q⟩ := h
  cases rx
  cases ry
  obtain ⟨o1, e1, n1⟩ := obj_there I ha pa
  obtain ⟨o2, e2, _⟩ := obj_there I hb pb
  by_cases z : a = b
  · subst z
    exact wpAny_is_ref_self (fin_bl I q (by simp))
  · exact wpAny_is_ref_other z e1 e2 n1 (fin_bl I q (by simp [z]))
theorem op_isnot_ref : OpR X (compareOp .IsNot) (fun x y H Q => ∃ a b oa ob, x = .ref a ∧ y = .ref b ∧ H a = some oa ∧ isObj oa = true ∧ H b = some ob ∧ isObj ob = true ∧ Q (.bl (!decide (a = b))) H) := by
  intro pins s σ H x y v u Q I rx ry h
  obtain ⟨a, b, oa, ob, rfl, rfl, ha, pa, hb, pb, q⟩ := h
  cases rx
  cases ry
  obtain ⟨o1, e1, n1⟩ := obj_there I ha pa
  obtain ⟨o2, e2, _⟩ := obj_there I hb pb
  by_cases z : a = b
  · subst z
    exact wpAny_isNot_ref_self (fin_bl I q (by simp))
  · exact wpAny_isNot_ref_other z e1 e2 n1 (fin_bl I q (by simp [z]))

/-- two rules for one operation: by cases -/
theorem OpR.or {f : Value → Value → Sem Value} {r r' : R2} (h : OpR X f r) (h' : OpR X f r') : OpR X f (fun x y H Q => r x y H Q ∨ r' x y H Q) := by
  intro pins s σ H x y v u Q I rx ry q
  rcases q with q | q
  · exact h pins s σ H x y v u Q I rx ry q
  · exact h' pins s σ H x y v u Q I rx ry q

theorem nomark (b : Expr) {op : CmpOp} (h : op ≠ .In := by decide) (h2 : op ≠ .NotIn := by decide) : behindInMarks op b = false := by
  have e1 : (op == CmpOp.In) = false := by cases op <;> first | rfl | exact absurd rfl h
  have e2 : (op == CmpOp.NotIn) = false := by cases op <;> first | rfl | exact absurd rfl h2
  cases b <;> simp [behindInMarks, e1, e2]
/-- a comparison as a value; hm: nomark b, or (for in, not in) by with_unfolding_all rfl -/
theorem pe_cmpR {op : CmpOp} {r : R2} (ho : OpR X (compareOp op) r) (ha : PE X a ta) (hb : PE X b tb) (hm : behindInMarks op b = false) : PE X (.Compare a [op] [b] pos) (tOp r ta tb) := by
  intro pins s σ H Q I h
  exact wpAny_Compare1 (binT ha hb I h fun v u s2 x y H2 I2 rx ry q => ho pins s2 σ H2 x y v u Q I2 rx ry q) hm
/-- a reading of a value as a test -/
def tTest (t : TE) : TT := fun σ H Q => t σ H fun x H' => ∃ k, x = .bl k ∧ Q k H'
theorem pt_cmpR {op : CmpOp} {r : R2} (ho : OpR X (compareOp op) r) (ha : PE X a ta) (hb : PE X b tb) (hm : behindInMarks op b = false) : PT X (.Compare a [op] [b] pos) (tTest (tOp r ta tb)) := by
  intro pins s σ H Q I h
  refine wpAny_isTrue_Compare1 (thn (ha pins s σ H _ I h) fun v s1 ⟨x, H1, I1, r1, q1⟩ => thn (hb pins s1 σ H1 _ I1 q1) fun u s2 ⟨y, H2, I2, r2, q2⟩ =>
    thn (ho pins s2 σ H2 x y v u _ I2 r1 r2 q2) fun c s3 ⟨z, H3, I3, r3, k, e, q3⟩ => ?_) hm
  subst e
  cases r3
  exact wpAny_truthy_bool ⟨H3, I3, q3⟩
/-- a op1 b op2 c -/
def tChain (r r' : R2) (ta tb tc : TE) : TE := fun σ H Q => ta σ H fun x H1 => tb σ H1 fun y H2 => r x y H2 fun z H3 => ∃ k, z = .bl k ∧
  (if k = true then tc σ H3 fun w' H4 => r' y w' H4 Q else Q (.bl false) H3)
theorem pe_chain {op op' : CmpOp} {r r' : R2} (ho : OpR X (compareOp op) r) (ho' : OpR X (compareOp op') r') (ha : PE X a ta) (hb : PE X b tb) (hc : PE X c tc)
    (hm : lastMarks [op, op'] [b, c] = false := by with_unfolding_all rfl) : PE X (.Compare a [op, op'] [b, c] pos) (tChain r r' ta tb tc) := by
  intro pins s σ H Q I h
  refine Compare_chain (thn (ha pins s σ H _ I h) fun v s1 ⟨x, H1, I1, r1, q1⟩ => chain_link (thn (hb pins s1 σ H1 _ I1 q1) fun u s2 ⟨y, H2, I2, r2, q2⟩ =>
    thn (ho pins s2 σ H2 x y v u _ I2 r1 r2 q2) fun d s3 ⟨z, H3, I3, r3, k, e, q3⟩ => ?_)) hm
  subst e
  cases r3
  refine wpAny_truthy_bool ?_
  cases k with
  | false => exact ite_ff ⟨.bl false, H3, I3, rfl, q3⟩
  | true => exact ite_tt (chain_last (thn (hc pins s3 σ H3 _ I3 q3) fun w' s4 ⟨z', H4, I4, r4, q4⟩ => ho' pins s4 σ H4 y z' u w' Q I4 r2 r4 q4))
theorem pt_chain {op op' : CmpOp} {r r' : R2} (ho : OpR X (compareOp op) r) (ho' : OpR X (compareOp op') r') (ha : PE X a ta) (hb : PE X b tb) (hc : PE X c tc)
    (hm : lastMarks [op, op'] [b, c] = false := by with_unfolding_all rfl) : PT X (.Compare a [op, op'] [b, c] pos) (tTest (tChain r r' ta tb tc)) := by
  intro pins s σ H Q I h
  refine isTrue_chain (thn (ha pins s σ H _ I h) fun v s1 ⟨x, H1, I1, r1, q1⟩ => test_link (thn (hb pins s1 σ H1 _ I1 q1) fun u s2 ⟨y, H2, I2, r2, q2⟩ =>
    thn (ho pins s2 σ H2 x y v u _ I2 r1 r2 q2) fun d s3 ⟨z, H3, I3, r3, k, e, q3⟩ => ?_)) hm
  subst e
  cases r3
  refine wpAny_truthy_bool ?_
  cases k with
  | false =>
    obtain ⟨k', e', q'⟩ := q3
    cases e'
    exact ite_ff ⟨H3, I3, q'⟩
  | true =>
    refine ite_tt (test_last (thn (hc pins s3 σ H3 _ I3 q3) fun w' s4 ⟨z', H4, I4, r4, q4⟩ => thn (ho' pins s4 σ H4 y z' u w' _ I4 r2 r4 q4) fun d' s5 ⟨z2, H5, I5, r5, k2, e2, q5⟩ => ?_))
    subst e2
    cases r5
    exact wpAny_truthy_bool ⟨H5, I5, q5⟩

/-! ### truth -/
/-- a value's truth by the abstract heap -/
def TruV (K : PySem.W.Frag) (x : V) (H : Hp) (k : Bool) : Prop :=
  match x with
  | .non => k = false
  | .bl b => k = b
  | .int i => k = (i != 0)
  | .str y => y.length ≤ sizeLine ∧ k = ((y.length : Int) != 0)
  | .byt y => y.size ≤ sizeLine ∧ k = ((y.size : Int) != 0)
  | .ref p => (∃ xs, SqL K H p xs ∧ k = !xs.isEmpty) ∨ (∃ xs, SqT K H p xs ∧ k = !xs.isEmpty) ∨ ∃ kvs, H p = some (.dK kvs) ∧ k = !kvs.isEmpty
  | _ => False
theorem isEmpty_kv {κ : Type} {kvs : List (κ × V)} {vs : List (κ × Value)} (r : KV kvs vs) : (!vs.isEmpty) = !kvs.isEmpty := by
  cases r <;> rfl
theorem isEmpty_of {xs : List V} {its : List Value} (r : Vals xs its) : (!its.toArray.isEmpty) = !xs.isEmpty := by
  cases r <;> simp
theorem line63 : (sizeLine : Nat) < 2 ^ 63 := by rw [sizeLine_eq]; decide
theorem tru_ok : TruR X (fun x H Q => ∃ k, TruV X.K x H k ∧ Q k H) := by
  intro pins s σ H x v Q I rx h
  obtain ⟨k, e, q⟩ := h
  have hl := line63
  have hs : sizeLine = 16777216 := sizeLine_eq
  cases x with
  | non =>
    cases rx
    have e' : k = false := e
    subst e'
    exact truthy_none ⟨H, I, q⟩
  | bl b =>
    cases rx
    have e' : k = b := e
    subst e'
    exact wpAny_truthy_bool ⟨H, I, q⟩
  | int i =>
    obtain ⟨t, rfl⟩ := rx
    have e' : k = (i != 0) := e
    subst e'
    exact PySem.P.truthy_int ⟨H, I, q⟩
  | str y =>
    obtain ⟨t, rfl⟩ := rx
    obtain ⟨hy, e'⟩ : y.length ≤ sizeLine ∧ k = ((y.length : Int) != 0) := e
    subst e'
    exact PySem.P.truthy_str (by omega) ⟨H, I.tok _, q⟩
  | byt y =>
    obtain ⟨t, rfl⟩ := rx
    obtain ⟨hy, e'⟩ : y.size ≤ sizeLine ∧ k = ((y.size : Int) != 0) := e
    subst e'
    exact PySem.W.truthy_bytes (by omega) ⟨H, I.tok _, q⟩
  | ref p =>
    cases rx
    have e' : (∃ xs, SqL X.K H p xs ∧ k = !xs.isEmpty) ∨ (∃ xs, SqT X.K H p xs ∧ k = !xs.isEmpty) ∨ ∃ kvs, H p = some (.dK kvs) ∧ k = !kvs.isEmpty := e
    rcases e' with ⟨xs, hx, e'⟩ | ⟨xs, hx, e'⟩ | ⟨kvs, hx, e'⟩
    · subst e'
      obtain ⟨its, r, pl, hz⟩ := I.list hx
      have hlen := r.length
      exact wpAny_truthy_list pl.isList (by simp only [List.size_toArray]; omega) ⟨H, I.tok _, by rw [isEmpty_of r]; exact q⟩
    · subst e'
      obtain ⟨its, r, pl, hz⟩ := I.tuple hx
      have hlen := r.length
      exact truthy_tuple pl (by simp only [List.size_toArray]; omega) ⟨H, I.tok _, by rw [isEmpty_of r]; exact q⟩
    · subst e'
      obtain ⟨hz, hS, vs, r, m⟩ : kvs.length ≤ sizeLine ∧ (p == sysModules) = false ∧ ∃ vs, KV kvs vs ∧ s.heap.DictOf (mixKind X.prog X.w) p vs := I.hok p _ hx
      have hlen : kvs.length = vs.length := Paired.length r
      exact wpAny_truthy_dict hS m (by omega) ⟨H, I.tok _, by rw [isEmpty_kv r]; exact q⟩
  | _ => exact (show False from e).elim
/-- any expression whose test is its value's truth (a name, a call, a subscript, a field ..: he by fun _ => rfl) -/
theorem pt_truth (ha : PE X a ta) (he : ∀ whole, isTrue a X.env whole = (do let v ← whole; standAt a.pos; holding [v] (truthy v))) :
    PT X a (fun σ H Q => ta σ H fun x H' => ∃ k, TruV X.K x H' k ∧ Q k H') := by
  intro pins s σ H Q I h
  exact isTrue_plain (thn (ha pins s σ H _ I h) fun v s1 ⟨x, H1, I1, r1, q1⟩ => tru_ok pins s1 σ H1 x v Q I1 r1 q1) (he _)

/-! ### strs and bytes -/
theorem pe_byt {x : List UInt8} {k : Nat} : PE X (.Constant (.bytes x) k pos) (fun _ H Q => Q (.byt x.toArray) H) := fun _ _ _ H _ I h => PySem.W.Constant_bytes ⟨.byt x.toArray, H, I.tok _, ⟨_, rfl⟩, h⟩
theorem op_add_str : OpR X (binaryOp .Add) (fun x y H Q => ∃ i j, x = .str i ∧ y = .str j ∧ i.length + j.length ≤ sizeLine ∧ Q (.str (i ++ j)) H) := by
  intro pins s σ H x y v u Q I rx ry h
  obtain ⟨i, j, rfl, rfl, hz, q⟩ := h
  obtain ⟨t, rfl⟩ := rx
  obtain ⟨t', rfl⟩ := ry
  exact add_str (fun t' tk => ⟨.str (i ++ j), H, I.tok _, ⟨_, rfl⟩, q⟩) hz
theorem iop_add_str : OpR X (inplaceOp .Add) (fun x y H Q => ∃ i j, x = .str i ∧ y = .str j ∧ i.length + j.length ≤ sizeLine ∧ Q (.str (i ++ j)) H) := by
  intro pins s σ H x y v u Q I rx ry h
  obtain ⟨i, j, rfl, rfl, hz, q⟩ := h
  obtain ⟨t, rfl⟩ := rx
  obtain ⟨t', rfl⟩ := ry
  exact iadd_str (fun t' tk => ⟨.str (i ++ j), H, I.tok _, ⟨_, rfl⟩, q⟩) hz
theorem op_add_byt : OpR X (binaryOp .Add) (fun x y H Q => ∃ i j, x = .byt i ∧ y = .byt j ∧ i.size + j.size ≤ 16777216 ∧ Q (.byt (i ++ j)) H) := by
  intro pins s σ H x y v u Q I rx ry h
  obtain ⟨i, j, rfl, rfl, hz, q⟩ := h
  obtain ⟨t, rfl⟩ := rx
  obtain ⟨t', rfl⟩ := ry
  exact PySem.W.KBy.add_bytes hz (fun t' tk => ⟨.byt (i ++ j), H, I.tok _, ⟨_, rfl⟩, q⟩)

def PlainIxT (b : Expr) : Prop := ∀ o i, subscripted b false o i = operate [o, i] (getItem o i)
/-- s[i], 0 ≤ i < len -/
theorem pe_item_str (ha : PE X a ta) (hb : PE X b tb) (hs : PlainIxT b) :
    PE X (.Subscript a b pos) (tOp (fun x y H Q => ∃ z i c, x = .str z ∧ y = .int i ∧ 0 ≤ i ∧ i < 2 ^ 63 ∧ i < z.length ∧ z.cps[i.toNat]? = some c ∧ Q (.str ⟨#[c]⟩) H) ta tb) := by
  intro pins s σ H Q I h
  refine Subscript_ (binT ha hb I h fun v u s2 x y H2 I2 rx ry q => ?_)
  obtain ⟨z, i, c, rfl, rfl, h0, h63, h1, hc, q⟩ := q
  obtain ⟨t, rfl⟩ := rx
  obtain ⟨t', rfl⟩ := ry
  have e : seqIndex? i z.length = some i.toNat := PySem.StrLaws.seqIndex_nonneg h0 h1
  exact tail_any (typeIs_str s2 z t) slot_str_getitem.lookup (getItem_str (c := c) (by
    have e1 : decide (i < -(2 ^ 63 : Int)) = false := decide_eq_false (by omega)
    have e2 : decide (i ≥ 2 ^ 63) = false := decide_eq_false (by omega)
    rw [e1, e2] <;> rfl) (by rw [e]; exact hc) ⟨.str ⟨#[c]⟩, H2, I2.tok _, ⟨_, rfl⟩, q⟩) (hs _ _)
/-- b[i], 0 ≤ i < len -/
theorem pe_item_byt (ha : PE X a ta) (hb : PE X b tb) (hs : PlainIxT b) :
    PE X (.Subscript a b pos) (tOp (fun x y H Q => ∃ (z : List UInt8) (i : Int), x = .byt z.toArray ∧ y = .int i ∧ z.length ≤ sizeLine ∧ 0 ≤ i ∧ i < z.length ∧ Q (.int ((z.getD i.toNat 0).toNat : Nat)) H) ta tb) := by
  intro pins s σ H Q I h
  refine Subscript_ (binT ha hb I h fun v u s2 x y H2 I2 rx ry q => ?_)
  obtain ⟨z, i, rfl, rfl, hz, h0, h1, q⟩ := q
  obtain ⟨t, rfl⟩ := rx
  obtain ⟨t', rfl⟩ := ry
  have hl : sizeLine = 16777216 := sizeLine_eq
  exact tail_any (PySem.W.typeIs_bytes s2 z.toArray t) PySem.W.FB.slot_bytes_getitem.lookup (PySem.W.getItem_bytes (by omega) h0 h1 ⟨.int ((z.getD i.toNat 0).toNat : Nat), H2, I2.tok _, ⟨_, rfl⟩, q⟩) (hs _ _)

/-! ### scalar builtins, by CallR -/
theorem vals1 {x : V} {us : List Value} (r : Vals [x] us) : ∃ u, us = [u] ∧ RelV x u := by
  cases r with
  | cons r1 r2 => cases r2; exact ⟨_, rfl, r1⟩
theorem vals2 {x y : V} {us : List Value} (r : Vals [x, y] us) : ∃ u w', us = [u, w'] ∧ RelV x u ∧ RelV y w' := by
  cases r with
  | cons r1 r2 =>
    cases r2 with
    | cons r3 r4 => cases r4; exact ⟨_, _, rfl, r1, r3⟩
theorem call_abs : CallR X (.builtin "abs") (fun xs H Q => ∃ i, xs = [.int i] ∧ Q (.int (if i < 0 then -i else i)) H) := by
  intro pins s σ H xs us Q I r h
  obtain ⟨i, rfl, q⟩ := h
  obtain ⟨u, rfl, t, rfl⟩ := vals1 r
  exact call_abs_int fun u tk => ⟨.int (if i < 0 then -i else i), H, I.tok _, ⟨_, rfl⟩, q⟩
theorem call_max2 (hc : X.calm = true) : CallR X (.builtin "max") (fun xs H Q => ∃ i j, xs = [.int i, .int j] ∧ Q (.int (if j > i then j else i)) H) := by
  intro pins s σ H xs us Q I r h
  obtain ⟨i, j, rfl, q⟩ := h
  obtain ⟨u, w', rfl, ⟨t, rfl⟩, ⟨t', rfl⟩⟩ := vals2 r
  refine max_two_ints (I.ok.hd hc) fun h' tk k => ⟨_, H, I.kept k, ?_, q⟩
  by_cases hj : j > i
  · rw [if_pos hj, if_pos hj]; exact ⟨_, rfl⟩
  · rw [if_neg hj, if_neg hj]; exact ⟨_, rfl⟩
theorem call_min2 (hc : X.calm = true) : CallR X (.builtin "min") (fun xs H Q => ∃ i j, xs = [.int i, .int j] ∧ Q (.int (if j < i then j else i)) H) := by
  intro pins s σ H xs us Q I r h
  obtain ⟨i, j, rfl, q⟩ := h
  obtain ⟨u, w', rfl, ⟨t, rfl⟩, ⟨t', rfl⟩⟩ := vals2 r
  refine min_two_ints (I.ok.hd hc) fun h' tk k => ⟨_, H, I.kept k, ?_, q⟩
  by_cases hj : j < i
  · rw [if_pos hj, if_pos hj]; exact ⟨_, rfl⟩
  · rw [if_neg hj, if_neg hj]; exact ⟨_, rfl⟩
theorem call_int1 : CallR X (.type "int") (fun xs H Q => (∃ i, xs = [.int i] ∧ Q (.int i) H) ∨ ∃ k, xs = [.bl k] ∧ Q (.int (if k then 1 else 0)) H) := by
  intro pins s σ H xs us Q I r h
  rcases h with ⟨i, rfl, q⟩ | ⟨k, rfl, q⟩
  · obtain ⟨u, rfl, t, rfl⟩ := vals1 r
    exact call_int_int ⟨.int i, H, I, ⟨_, rfl⟩, q⟩
  · obtain ⟨u, rfl, r1⟩ := vals1 r
    cases r1
    exact call_int_bool ⟨.int (if k then 1 else 0), H, I.tok _, ⟨_, rfl⟩, q⟩
theorem call_bool1 : CallR X (.type "bool") (fun xs H Q => (∃ i, xs = [.int i] ∧ Q (.bl (i != 0)) H) ∨ ∃ k, xs = [.bl k] ∧ Q (.bl k) H) := by
  intro pins s σ H xs us Q I r h
  rcases h with ⟨i, rfl, q⟩ | ⟨k, rfl, q⟩
  · obtain ⟨u, rfl, t, rfl⟩ := vals1 r
    exact call_bool_int ⟨.bl (i != 0), H, I, rfl, q⟩
  · obtain ⟨u, rfl, r1⟩ := vals1 r
    cases r1
    exact call_bool_bool ⟨.bl k, H, I, rfl, q⟩
theorem call_str_int : CallR X (.type "str") (fun xs H Q => ∃ i, xs = [.int i] ∧ i.natAbs.log2 < 1920 ∧ Q (.str (toString i)) H) := by
  intro pins s σ H xs us Q I r h
  obtain ⟨i, rfl, hz, q⟩ := h
  obtain ⟨u, rfl, t, rfl⟩ := vals1 r
  exact PySem.P.str_of_int hz ⟨.str _, H, I.tok _, ⟨_, rfl⟩, q⟩
theorem call_ord : CallR X (.builtin "ord") (fun xs H Q => ∃ x, xs = [.str x] ∧ x.length = 1 ∧ Q (.int (x.cps.getD 0 0 : Nat)) H) := by
  intro pins s σ H xs us Q I r h
  obtain ⟨x, rfl, hz, q⟩ := h
  obtain ⟨u, rfl, t, rfl⟩ := vals1 r
  exact ord_of_one hz ⟨.int _, H, I.tok _, ⟨_, rfl⟩, q⟩
theorem call_chr : CallR X (.builtin "chr") (fun xs H Q => ∃ i, xs = [.int i] ∧ 0 ≤ i ∧ i ≤ 1114111 ∧ Q (.str ⟨#[i.toNat]⟩) H) := by
  intro pins s σ H xs us Q I r h
  obtain ⟨i, rfl, h0, h1, q⟩ := h
  obtain ⟨u, rfl, t, rfl⟩ := vals1 r
  exact chr_of_range h0 h1 ⟨.str _, H, I.tok _, ⟨_, rfl⟩, q⟩
/-- len of a str, a bytes, a list, a tuple -/
def LenV (K : PySem.W.Frag) (x : V) (H : Hp) (n : Nat) : Prop :=
  match x with
  | .str y => y.length ≤ sizeLine ∧ n = y.length
  | .byt y => y.size ≤ sizeLine ∧ n = y.size
  | .ref p => (∃ xs, SqL K H p xs ∧ n = xs.length) ∨ ∃ xs, SqT K H p xs ∧ n = xs.length
  | _ => False
theorem call_len : CallR X (.builtin "len") (fun xs H Q => ∃ x n, xs = [x] ∧ LenV X.K x H n ∧ Q (.int n) H) := by
  intro pins s σ H xs us Q I r h
  obtain ⟨x, n, rfl, e, q⟩ := h
  obtain ⟨u, rfl, rx⟩ := vals1 r
  have hl := line63
  have hs : sizeLine = 16777216 := sizeLine_eq
  cases x with
  | str y =>
    obtain ⟨t, rfl⟩ := rx
    obtain ⟨hy, e'⟩ : y.length ≤ sizeLine ∧ n = y.length := e
    subst e'
    exact len_str (by omega) ⟨.int _, H, I.tok _, ⟨_, rfl⟩, q⟩
  | byt y =>
    obtain ⟨t, rfl⟩ := rx
    obtain ⟨hy, e'⟩ : y.size ≤ sizeLine ∧ n = y.size := e
    subst e'
    exact PySem.W.len_bytes (by omega) ⟨.int _, H, I.tok _, ⟨_, rfl⟩, q⟩
  | ref p =>
    cases rx
    have e' : (∃ xs, SqL X.K H p xs ∧ n = xs.length) ∨ ∃ xs, SqT X.K H p xs ∧ n = xs.length := e
    rcases e' with ⟨xs, hx, e'⟩ | ⟨xs, hx, e'⟩
    · subst e'
      obtain ⟨its, r', pl, hz⟩ := I.list hx
      have hlen := r'.length
      exact Calls.call_len_list pl.isList (by simp only [List.size_toArray]; omega) ⟨.int xs.length, H, I.tok _, ⟨_, by simp only [List.size_toArray]; rw [hlen]⟩, q⟩
    · subst e'
      obtain ⟨its, r', pl, hz⟩ := I.tuple hx
      have hlen := r'.length
      exact len_tuple pl (by simp only [List.size_toArray]; omega) ⟨.int xs.length, H, I.tok _, ⟨_, by simp only [List.size_toArray]; rw [hlen]⟩, q⟩
  | _ => exact (show False from e).elim
/-- divmod: a new tuple -/
theorem call_divmod : CallR X (.builtin "divmod") (fun xs H Q => ∃ i j, xs = [.int i, .int j] ∧ CDiv i j ∧ ∀ p, H p = none → Q (.ref p) (upd H p (.tup [.int (i / j), .int (i % j)]))) := by
  intro pins s σ H xs us Q I r h
  obtain ⟨i, j, rfl, ⟨h1, h2⟩, q⟩ := h
  obtain ⟨u, w', rfl, ⟨t, rfl⟩, ⟨t', rfl⟩⟩ := vals2 r
  refine divmod_int (by omega) ?_ (.inl (PyProof.noPylong_small (by omega)))
  rw [Int.fdiv_eq_ediv_of_nonneg i (by omega), Int.fmod_eq_emod_of_nonneg i (by omega)]
  have hn : H s.heap.objs.size = none := I.hok.fresh (Nat.le_refl _)
  refine ⟨.ref s.heap.objs.size, _, ?_, rfl, q _ hn⟩
  refine I.laid (fun b o e => Heap.get?_push_of_some _ e) (Nat.le_refl _) ⟨by simp only [List.length_cons, List.length_nil]; rw [sizeLine_eq]; decide, [.int (i / j) s.toks, .int (i % j) (s.toks + 1)], .cons ⟨_, rfl⟩ (.cons ⟨_, rfl⟩ .nil), ?_⟩
  exact ⟨_, Heap.get?_push_size s.heap rfl, rfl, 0, rfl⟩
end
end L2

namespace L2
open PySem PySem.Spec PyProof.Rows

/-! ### an instance, its attributes a map -/
structure ObjM (h : Heap) (x dx C : Addr) (mA : Str → Option Value) : Prop where
  obj : h.get? x = some (PySem.W.instObj C dx)
  ns : h.Ns1 dx mA
  ne : dx ≠ x

theorem lookIn_ns {h : Heap} {dx : Addr} {mA : Str → Option Value} (n : h.Ns1 dx mA) : ∃ od, h.get? dx = some od ∧ ∀ name, PySem.W.lookIn name od = some (mA name) := by
  obtain ⟨o, es, ep, ho, hd, hk, _, hm⟩ := n
  refine ⟨o, ho, fun name => ?_⟩
  have e := hm name
  unfold nsFind findBy at e
  rw [← Array.find?_toList] at e
  unfold PySem.W.lookIn
  rw [hd]
  dsimp only
  split
  · rename_i y q
    rw [q] at e
    exact congrArg some e
  · rename_i q
    rw [q] at e
    have a : es.toList.any (·.refKey) = false := by
      rw [List.any_eq_false]
      intro y hy
      obtain ⟨z, t, hkey⟩ := hk y (Array.mem_toList_iff.mp hy)
      simp [DictEntry.refKey, hkey]
    have a' : ¬ es.toList.any (·.refKey) = true := by rw [a]; exact Bool.false_ne_true
    rw [if_neg a']
    exact congrArg some e

theorem ObjM.look {h : Heap} {x dx C : Addr} {mA : Str → Option Value} (I : ObjM h x dx C mA) : ∃ od, PySem.W.InstAt h x (PySem.W.instObj C dx) C (some od) ∧ ∀ name, PySem.W.lookIn name od = some (mA name) :=
  let ⟨od, ho, hl⟩ := lookIn_ns I.ns
  ⟨od, ⟨I.obj, rfl, rfl, ho⟩, hl⟩

section
variable {prog : Program} {w : World} {A : Around} {E : Value → Shared → Prop} {s : Shared} {K : PySem.W.Frag} {x dx C f : Addr} {mA : Str → Option Value} {name : Str} {v : Value}

theorem get_map {expr : Bool} {Q : Value → Shared → Prop} (X : K.In s.heap) (I : ObjM s.heap x dx C mA) (hg : PySem.W.plainGet K C name = true) (hh : PySem.W.hasDictIn K C = true)
    (ha : PySem.W.findIn K (.ref C) name = some none) (hv : mA name = some v) (hv' : PySem.W.handedIn v = true) (h : Q v { s with toks := s.toks + 1 }) :
    wpAny (model prog w) A (getAttr (.ref x) name expr) Q E s := by
  obtain ⟨od, J, hl⟩ := I.look
  exact PySem.W.get_value X J (PySem.W.plainGet_of hg).1 (PySem.W.findObj_own hh ha rfl (by rw [hl, hv])) hv' h

theorem get_const {expr : Bool} {a : Value} {Q : Value → Shared → Prop} (X : K.In s.heap) (I : ObjM s.heap x dx C mA) (hg : PySem.W.plainGet K C name = true) (hh : PySem.W.hasDictIn K C = true)
    (ha : PySem.W.findIn K (.ref C) name = some (some a)) (hn : PySem.W.specialIn K a "__get__" = some none) (hc : PySem.W.copiedNames.contains name = false) (hv : mA name = none) (hv' : PySem.W.handedIn a = true)
    (h : Q a { s with toks := s.toks + 1 }) : wpAny (model prog w) A (getAttr (.ref x) name expr) Q E s := by
  obtain ⟨od, J, hl⟩ := I.look
  exact PySem.W.get_value X J (PySem.W.plainGet_of hg).1 (PySem.W.findObj_cls hh ha hn hv' hc (by rw [hl, hv])) hv' h

theorem get_meth {pl : Sem Bool} {Q : Value × List Value → Shared → Prop} (X : K.In s.heap) (I : ObjM s.heap x dx C mA) (hg : PySem.W.plainGet K C name = true)
    (hf : PySem.W.findIn K (.ref C) name = some (some (.ref f))) (ht : PySem.W.isFn K (.ref f) = true) (hv : mA name = none) (h : Q (.ref f, [.ref x]) s) :
    wpAny (model prog w) A (getMethod (.ref x) name pl) Q E s := by
  obtain ⟨od, J, hl⟩ := I.look
  exact PySem.W.method_fn X J (PySem.W.plainGet_of hg).1 (PySem.W.plainGet_of hg).2 hf (beq_iff_eq.mp ht) (by show (PySem.W.lookIn name od).map (·.isSome) = some false; rw [hl, hv]; rfl) h

theorem set_map {ns : List Str} {Q : Unit → Shared → Prop} (X : K.In s.heap) (I : ObjM s.heap x dx C mA)
    (hs : PySem.W.findIn K (.ref C) "__setattr__" = some (some (.builtin "object.__setattr__"))) (hp : PySem.W.plainOver K C = true) (ht : PySem.W.takerIn K C name = some none) (hh : PySem.W.hasDictIn K C = true)
    (hw : PySem.Within mA ns) (hsz : ns.length ≤ sizeLine)
    (h : ∀ h', ObjM h' x dx C (fun y => if y = name then some v else mA y) → Heap.SameBut dx s.heap h' → Q () { s with heap := h', toks := s.toks + 2 }) :
    wpAny (model prog w) A (setAttr (.ref x) name v) Q E s := by
  obtain ⟨od, J, hl⟩ := I.look
  refine PySem.W.set_plain X J hs (PySem.W.osa_open (s := { s with toks := s.toks + 1 }) (r := none) X J hp ht fun b => ?_)
  obtain ⟨cd, hc, hd'⟩ := PySem.W.any_some hh
  have hx : s.heap.get? x = some ⟨.ref C, some dx, .plain, #[]⟩ := I.obj
  refine wpAny_bind (wpAny_pure (wpAny_bind (wpAny_bind (wpAny_loadPart hx (wpAny_bind (PySem.W.Looks.here (s := { s with toks := s.toks + 1 }) (PySem.W.looks_clsIn X hc) ?_))))))
  rw [hd']
  refine wpAny_pure (a := some dx) (wpAny_bind (wpAny_pure (wpAny_bind ?_)))
  refine wpAny_nsSet1 (s := { s with toks := s.toks + 1 }) I.ns fun h' hn2 hs2 => ?_
  obtain ⟨oD, esD, epD, hoD, hdD, hcD⟩ := hn2.count (PySem.Within.cons name v hw)
  refine wpAny_bind (wpAny_lookBehind hoD (by rw [hdD]; exact pastItsLine_dict (Nat.le_trans hcD (by rw [List.length_cons]; omega))) ?_)
  exact wpAny_pure (h _ ⟨(hs2.2 _ (Ne.symm I.ne)).trans I.obj, hn2, I.ne⟩ hs2)

/-- C(..): the dict at the heap's end, the instance behind it; then its __init__ -/
theorem make_map {R : Result → Shared → Prop} {vs : List Value} {kw : List (Str × Value)} (X : K.In s.heap) (hm : PySem.W.makesIn K C = true)
    (hi : PySem.W.findIn K (.ref C) "__init__" = some (some (.ref f))) (hf : PySem.W.typeIn K (.ref f) = some (.type "function"))
    (h : codeAny (model prog w) (A.under (.builtin "type.__call__" ⟨.ref C :: vs, kw⟩)) (.call (.ref f) ⟨.ref (s.heap.objs.size + 1) :: vs, kw⟩) (PySem.W.InitBack (s.heap.objs.size + 1) R)
      { s with heap := (s.heap.push PySem.W.emptyDict).push (PySem.W.instObj C s.heap.objs.size) }) :
    codeAny (model prog w) A (.call (.ref C) ⟨vs, kw⟩) R s := by
  obtain ⟨hh, g, d, t, os⟩ := s
  exact PySem.W.make_core (PySem.W.makes_of X hm) (PySem.W.looks_findIn X hi) (fun self => PySem.W.bind_fn X self hf) (.inl rfl) h
/-- C() where there is no __init__ but object's -/
theorem make_map0 {R : Result → Shared → Prop} (X : K.In s.heap) (hm : PySem.W.makesIn K C = true)
    (hi : PySem.W.findIn K (.ref C) "__init__" = some (some (.builtin "object.__init__")))
    (hb : ∀ self, PySem.W.Looks (model prog w) s.heap (bindSpecial (.builtin "object.__init__") self) (.builtin "object.__init__", [self]))
    (h : codeAny (model prog w) (A.under (.builtin "type.__call__" ⟨[.ref C], []⟩)) (.call (.builtin "object.__init__") ⟨[.ref (s.heap.objs.size + 1)], []⟩) (PySem.W.InitBack (s.heap.objs.size + 1) R)
      { s with heap := (s.heap.push PySem.W.emptyDict).push (PySem.W.instObj C s.heap.objs.size) }) :
    codeAny (model prog w) A (.call (.ref C) ⟨[], []⟩) R s := by
  obtain ⟨hh, g, d, t, os⟩ := s
  exact PySem.W.make_core (PySem.W.makes_of X hm) (PySem.W.looks_findIn X hi) hb (.inr ⟨rfl, rfl⟩) h
end

/-! ### the attributes as a list of pairs -/
def putF (f : Str) (v : V) : List (Str × V) → List (Str × V)
  | [] => [(f, v)]
  | (g, x) :: r => if g = f then (g, v) :: r else (g, x) :: putF f v r
theorem lookup_putF (f g : Str) (v : V) : ∀ fs : List (Str × V), (putF f v fs).lookup g = if g = f then some v else fs.lookup g
  | [] => by
    show List.lookup g [(f, v)] = _
    by_cases h : g = f
    · have hb : (g == f) = true := beq_iff_eq.mpr h
      simp only [List.lookup, hb, if_pos h]
    · have hb : (g == f) = false := beq_eq_false_iff_ne.mpr h
      simp only [List.lookup, hb, if_neg h]
  | (k, x) :: r => by
    have ih := lookup_putF f g v r
    rw [show putF f v ((k, x) :: r) = (if k = f then (k, v) :: r else (k, x) :: putF f v r) from rfl]
    by_cases hk : k = f
    · rw [if_pos hk]
      by_cases h : g = k
      · have hb : (g == k) = true := beq_iff_eq.mpr h
        simp only [List.lookup, hb, if_pos (h.trans hk)]
      · have hb : (g == k) = false := beq_eq_false_iff_ne.mpr h
        simp only [List.lookup, hb, if_neg (fun e : g = f => h (e.trans hk.symm))]
    · rw [if_neg hk]
      by_cases h : g = k
      · have hb : (g == k) = true := beq_iff_eq.mpr h
        simp only [List.lookup, hb, if_neg (fun e : g = f => hk (h.symm.trans e))]
      · have hb : (g == k) = false := beq_eq_false_iff_ne.mpr h
        simp only [List.lookup, hb]
        exact ih
theorem keys_putF (f : Str) (v : V) : ∀ fs : List (Str × V), f ∈ (putF f v fs).map (·.1) ∧ ∀ g, g ∈ fs.map (·.1) → g ∈ (putF f v fs).map (·.1)
  | [] => ⟨by simp [putF], fun g h => by simp at h⟩
  | (k, x) :: r => by
    obtain ⟨i1, i2⟩ := keys_putF f v r
    rw [show putF f v ((k, x) :: r) = (if k = f then (k, v) :: r else (k, x) :: putF f v r) from rfl]
    by_cases hk : k = f
    · rw [if_pos hk]
      subst hk
      exact ⟨by simp, fun g h => by simpa using h⟩
    · rw [if_neg hk]
      refine ⟨?_, fun g h => ?_⟩
      · rw [List.map_cons]
        exact List.mem_cons_of_mem _ i1
      · rw [List.map_cons] at h ⊢
        rcases List.mem_cons.mp h with e | e
        · exact List.mem_cons.mpr (.inl e)
        · exact List.mem_cons_of_mem _ (i2 g e)
theorem length_putF (f : Str) (v : V) : ∀ fs : List (Str × V), (putF f v fs).length ≤ fs.length + 1
  | [] => by simp [putF]
  | (k, x) :: r => by
    have ih := length_putF f v r
    rw [show putF f v ((k, x) :: r) = (if k = f then (k, v) :: r else (k, x) :: putF f v r) from rfl]
    by_cases hk : k = f
    · rw [if_pos hk, List.length_cons, List.length_cons]; omega
    · rw [if_neg hk, List.length_cons, List.length_cons]; omega

theorem RelO.some_of {v : V} {o : Option Value} (r : RelO (some v) o) : ∃ u, o = some u ∧ RelV v u := by
  cases o with
  | none => exact (show False from r).elim
  | some u => exact ⟨u, rfl, r⟩
theorem RelO.none_of {o : Option Value} (r : RelO none o) : o = none := by
  cases o with
  | none => rfl
  | some u => exact (show False from r).elim
theorem handed_of {v : V} {u : Value} (r : RelV v u) : PySem.W.handedIn u = true := by
  cases v with
  | non => cases (show u = Value.none from r); rfl
  | bl b => cases (show u = Value.bool b from r); rfl
  | int i => obtain ⟨t, e⟩ := (show ∃ t, u = Value.int i t from r); cases e; rfl
  | str x => obtain ⟨t, e⟩ := (show ∃ t, u = Value.str x t from r); cases e; rfl
  | byt b => obtain ⟨t, e⟩ := (show ∃ t, u = Value.bytes b t from r); cases e; rfl
  | flt b => obtain ⟨t, e⟩ := (show ∃ t, u = Value.float b t from r); cases e; rfl
  | ref a => cases (show u = Value.ref a from r); rfl
  | ty n => cases (show u = Value.type n from r); rfl

section
variable {P : Program} {w : World} {H H' : Hp} {h h' : Heap} {a C dx : Addr} {fs fs' : List (Str × V)}
theorem ins_get (hok : HOk P w H h) (e : H a = some (.ins C dx fs)) : ∃ mA, ObjM h a dx C mA ∧ (∀ f, RelO (fs.lookup f) (mA f)) ∧ PySem.Within mA (fs.map (·.1)) ∧ fs.length ≤ 1000 ∧ H dx = some (.own a) := by
  obtain ⟨d, z, ne, ob, mA, n, r, q⟩ := (show ObjOk P w H h a (.ins C dx fs) from hok a _ e)
  exact ⟨mA, ⟨ob, n, ne⟩, r, q, z, d⟩
end

/-! ### what of the text a class must have -/
structure Cls (K : PySem.W.Frag) (C : Addr) : Prop where
  pg : PySem.W.plainGet K C Str.empty = true
  hd : PySem.W.hasDictIn K C = true
  po : PySem.W.plainOver K C = true
  sa : PySem.W.findIn K (.ref C) "__setattr__" = some (some (.builtin "object.__setattr__"))
theorem Cls.get {K : PySem.W.Frag} {C : Addr} (c : Cls K C) (f : Str) : PySem.W.plainGet K C f = true := c.pg
/-- no class of it has the name -/
def NoAttr (K : PySem.W.Frag) (C : Addr) (f : Str) : Prop := PySem.W.findIn K (.ref C) f = some none
theorem NoAttr.taker {K : PySem.W.Frag} {C : Addr} {f : Str} (n : NoAttr K C f) : PySem.W.takerIn K C f = some none := by
  unfold PySem.W.takerIn
  rw [show PySem.W.findIn K (.ref C) f = some none from n]
  rfl
/-- a constant of the class -/
structure Con (K : PySem.W.Frag) (C : Addr) (f : Str) (v : V) (u : Value) : Prop where
  at_ : PySem.W.findIn K (.ref C) f = some (some u)
  rel : RelV v u
  get : PySem.W.specialIn K u "__get__" = some none
  cp : PySem.W.copiedNames.contains f = false
/-- a method: a plain def of the class or of one above it -/
structure Meth (K : PySem.W.Frag) (C : Addr) (m : Str) (f : Addr) : Prop where
  at_ : PySem.W.findIn K (.ref C) m = some (some (.ref f))
  fn : PySem.W.isFn K (.ref f) = true
  kp : PySem.W.keepIn K (.ref f) = true

section
variable {X : Cx} {pins : List (Addr × Obj)} {σ : St} {H : Hp} {s : Shared} {a C dx : Addr} {fs : List (Str × V)} {f : Str} {v : V} {A : Around} {E : Value → Shared → Prop}

theorem getattr_ok {b : Bool} {Q : Value → Shared → Prop} (I : Inv X pins σ H s) (e : H a = some (.ins C dx fs)) (c : Cls X.K C) (n : NoAttr X.K C f) (l : fs.lookup f = some v)
    (h : ∀ u s', Inv X pins σ H s' → RelV v u → Q u s') : wpAny (model X.prog X.w) A (getAttr (.ref a) f b) Q E s := by
  obtain ⟨mA, O, r, _, _, _⟩ := ins_get I.hok e
  obtain ⟨u, hu, ru⟩ := RelO.some_of (v := v) (o := mA f) (by rw [← l]; exact r f)
  exact get_map I.kIn O (c.get f) c.hd n hu (handed_of ru) (h u _ (I.tok _) ru)

theorem getcon_ok {b : Bool} {u : Value} {Q : Value → Shared → Prop} (I : Inv X pins σ H s) (e : H a = some (.ins C dx fs)) (c : Cls X.K C) (k : Con X.K C f v u) (l : fs.lookup f = none)
    (h : ∀ s', Inv X pins σ H s' → Q u s') : wpAny (model X.prog X.w) A (getAttr (.ref a) f b) Q E s := by
  obtain ⟨mA, O, r, _, _, _⟩ := ins_get I.hok e
  have hn : mA f = none := RelO.none_of (by rw [← l]; exact r f)
  exact get_const I.kIn O (c.get f) c.hd k.at_ k.get k.cp hn (handed_of k.rel) (h _ (I.tok _))

theorem getmeth_ok {m : Str} {g : Addr} {pl : Sem Bool} {Q : Value × List Value → Shared → Prop} (I : Inv X pins σ H s) (e : H a = some (.ins C dx fs)) (c : Cls X.K C) (k : Meth X.K C m g) (l : fs.lookup m = none)
    (h : Q (.ref g, [.ref a]) s) : wpAny (model X.prog X.w) A (getMethod (.ref a) m pl) Q E s := by
  obtain ⟨mA, O, r, _, _, _⟩ := ins_get I.hok e
  have hn : mA m = none := RelO.none_of (by rw [← l]; exact r m)
  exact get_meth I.kIn O (c.get m) k.at_ k.fn hn h

theorem setattr_ok {y : V} {u : Value} {Q : Unit → Shared → Prop} (I : Inv X pins σ H s) (e : H a = some (.ins C dx fs)) (c : Cls X.K C) (n : NoAttr X.K C f) (hl : fs.length < 1000) (ry : RelV y u)
    (h : ∀ s', Inv X pins σ (upd H a (.ins C dx (putF f y fs))) s' → Q () s') : wpAny (model X.prog X.w) A (setAttr (.ref a) f u) Q E s := by
  obtain ⟨mA, O, r, wi, _, ho⟩ := ins_get I.hok e
  have hz : (fs.map (·.1)).length ≤ sizeLine := by rw [List.length_map, sizeLine_eq]; omega
  refine set_map I.kIn O c.sa c.po n.taker c.hd wi hz fun h' O' sb => h _ ?_
  have hd : ∃ o, h'.get? dx = some o := let ⟨o, _, _, e', _⟩ := O'.ns; ⟨o, e'⟩
  refine I.write (x := a) (e := dx) (by rw [e]; exact True.intro) (.inr ho) (fun b q hb z => (sb.2 b hb).trans z) hd ?_
  refine ⟨by rw [upd_ne O.ne]; exact ho, ?_, O.ne, O'.obj, _, O'.ns, fun g => ?_, fun g hg => ?_⟩
  · have := length_putF f y fs; omega
  · show RelO ((putF f y fs).lookup g) (if g = f then some u else mA g)
    rw [lookup_putF]
    by_cases q : g = f
    · rw [if_pos q, if_pos q]; exact ry
    · rw [if_neg q, if_neg q]; exact r g
  · by_cases q : g = f
    · rw [q]; exact (keys_putF f y fs).1
    · refine (keys_putF f y fs).2 g (wi g fun z => hg ?_)
      show (if g = f then some u else mA g) = none
      rw [if_neg q]; exact z

/-- a new instance, tracked, without attributes -/
theorem Inv.made (I : Inv X pins σ H s) : Inv X pins σ (upd (upd H s.heap.objs.size (.own (s.heap.objs.size + 1))) (s.heap.objs.size + 1) (.ins C s.heap.objs.size []))
    { s with heap := (s.heap.push PySem.W.emptyDict).push (PySem.W.instObj C s.heap.objs.size) } := by
  have e1 : (s.heap.push PySem.W.emptyDict).get? s.heap.objs.size = some PySem.W.emptyDict := Heap.get?_push_size s.heap rfl
  have e2 : ((s.heap.push PySem.W.emptyDict).push (PySem.W.instObj C s.heap.objs.size)).get? (s.heap.objs.size + 1) = some (PySem.W.instObj C s.heap.objs.size) := by
    have := Heap.get?_push_size (s.heap.push PySem.W.emptyDict) (o := PySem.W.instObj C s.heap.objs.size) rfl
    rwa [Heap.size_push] at this
  have e3 : (s.heap.push PySem.W.emptyDict).Ns s.heap.objs.size (fun _ => none) := ⟨PySem.W.emptyDict, #[], _, e1, rfl, (fun e he => absurd he (by simp)), fun _ => rfl⟩
  have I1 := I.laid (a := s.heap.objs.size) (o := .own (s.heap.objs.size + 1)) (h' := s.heap.push PySem.W.emptyDict) (t' := s.toks) (fun b u q => Heap.get?_push_of_some _ q) (Nat.le_refl _) ⟨_, e1⟩
  refine I1.laid (a := s.heap.objs.size + 1) (o := .ins C s.heap.objs.size []) (t' := s.toks) (fun b u q => Heap.get?_push_of_some _ q) (Nat.le_of_eq (Heap.size_push _ _)) ?_
  have ne : s.heap.objs.size ≠ s.heap.objs.size + 1 := Nat.ne_of_lt (Nat.lt_succ_self _)
  refine ⟨by rw [upd_ne ne, upd_same], Nat.zero_le _, ne, e2, fun _ => none, (Heap.Ns1.of_empty e3).at fun o q => Heap.get?_push_of_some _ q, fun _ => True.intro, fun y hy => absurd rfl hy⟩

/-- e.f where nothing but the object is asked: through attributeBase (super) and the last hold -/
theorem attr_of {prog : Program} {w : World} {env : Env} {e : Expr} {f : Str} {pos : Pos} {s : Shared} {Q : Value → Shared → Prop} (hb : attributeBase e f env (eval e env) = eval e env)
    (h : wpAny (model prog w) A (eval e env) (fun o s₁ => wpAny (model prog w) A (getAttr o f true) Q E s₁) E s) : wpAny (model prog w) A (eval (.Attribute e f pos) env) Q E s :=
  Attribute_any_ h (by rw [arm_eval_Attribute, hb])
end

/-! ### readings and rules -/
/-- e.f, an attribute of the instance -/
def tFld (K : PySem.W.Frag) (ta : TE) (f : Str) : TE := fun σ H Q => ta σ H fun x H1 => ∃ a C dx fs v, x = .ref a ∧ H1 a = some (.ins C dx fs) ∧ Cls K C ∧ NoAttr K C f ∧ fs.lookup f = some v ∧ Q v H1
/-- e.f, a constant of the class -/
def tCon (K : PySem.W.Frag) (ta : TE) (f : Str) : TE := fun σ H Q => ta σ H fun x H1 => ∃ a C dx fs v u, x = .ref a ∧ H1 a = some (.ins C dx fs) ∧ Cls K C ∧ Con K C f v u ∧ fs.lookup f = none ∧ Q v H1
/-- e.f = value -/
def sFld (K : PySem.W.Frag) (ta tv : TE) (f : Str) : TS := fun D σ H => tv σ H fun y H1 => ta σ H1 fun x H2 => ∃ a C dx fs, x = .ref a ∧ H2 a = some (.ins C dx fs) ∧ Cls K C ∧ NoAttr K C f ∧ fs.length < 1000 ∧
  D.nx σ (upd H2 a (.ins C dx (putF f y fs)))
/-- an augmented operator on two values -/
def InOp (X : Cx) (op : Operator) (rd : V → V → Hp → VK → Prop) : Prop :=
  ∀ (pins : List (Addr × Obj)) (s : Shared) (σ : St) (H : Hp) (x y : V) (u v : Value) (Q : VK), Inv X pins σ H s → RelV x u → RelV y v → rd x y H Q → wpAny (model X.prog X.w) X.A (inplaceOp op u v) (EP X pins σ Q) X.xe s
/-- e.f op= value -/
def sFldAug (K : PySem.W.Frag) (ta tv : TE) (rd : V → V → Hp → VK → Prop) (f : Str) : TS := fun D σ H => ta σ H fun x H1 => ∃ a C dx fs v, x = .ref a ∧ H1 a = some (.ins C dx fs) ∧ Cls K C ∧ NoAttr K C f ∧ fs.lookup f = some v ∧
  tv σ H1 fun y H2 => rd v y H2 fun z H3 => ∃ dx' fs', H3 a = some (.ins C dx' fs') ∧ fs'.length < 1000 ∧ D.nx σ (upd H3 a (.ins C dx' (putF f z fs')))

section
variable {X : Cx} {o e value : Expr} {f : Str} {pos pos' tpos : Pos} {ta tv : TE}
theorem pe_fld (he : PE X e ta) (hb : attributeBase e f X.env (eval e X.env) = eval e X.env) : PE X (.Attribute e f pos) (tFld X.K ta f) := by
  intro pins s σ H Q I h
  refine attr_of hb (thn (he pins s σ H _ I h) fun u s1 ⟨x, H1, I1, rx, a, C, dx, fs, v, ex, ea, c, n, l, q⟩ => ?_)
  subst ex
  obtain rfl : u = Value.ref a := rx
  exact getattr_ok I1 ea c n l fun u' s2 I2 ru => ⟨v, H1, I2, ru, q⟩
theorem pe_con (he : PE X e ta) (hb : attributeBase e f X.env (eval e X.env) = eval e X.env) : PE X (.Attribute e f pos) (tCon X.K ta f) := by
  intro pins s σ H Q I h
  refine attr_of hb (thn (he pins s σ H _ I h) fun u s1 ⟨x, H1, I1, rx, a, C, dx, fs, v, u0, ex, ea, c, k, l, q⟩ => ?_)
  subst ex
  obtain rfl : u = Value.ref a := rx
  exact getcon_ok I1 ea c k l fun s2 I2 => ⟨v, H1, I2, k.rel, q⟩
theorem ps_fld (ha : PE X o ta) (hv : PE X value tv) (hs : swapsWith value (some (.Attribute o f pos')) pos.line X.env = pure false) : PS X (.Assign [.Attribute o f pos'] value pos) (sFld X.K ta tv f) := by
  intro pins s σ H D I h
  refine plainObj_wpAny_Assign_Attribute (thn (hv pins s σ H _ I h) fun u s1 ⟨y, H1, I1, ry, q⟩ => thn (ha pins s1 σ H1 _ I1 q) fun ov s2 ⟨x, H2, I2, rx, a, C, dx, fs, ex, ea, c, n, l, q2⟩ => ?_) hs
  subst ex
  obtain rfl : ov = Value.ref a := rx
  exact setattr_ok I2 ea c n l ry fun s3 I3 => ⟨σ, _, I3, q2⟩
theorem ps_fldaug {op : Operator} {rd : V → V → Hp → VK → Prop} (ha : PE X o ta) (hv : PE X value tv) (hop : InOp X op rd) : PS X (.AugAssign (.Attribute o f tpos) op value pos) (sFldAug X.K ta tv rd f) := by
  intro pins s σ H D I h
  refine wpAny_AugAssign_AttributeAny (thn (ha pins s σ H _ I h) fun ov s1 ⟨x, H1, I1, rx, a, C, dx, fs, v, ex, ea, c, n, l, q⟩ => ?_)
  subst ex
  obtain rfl : ov = Value.ref a := rx
  refine getattr_ok I1 ea c n l fun u s2 I2 ru => thn (hv pins s2 σ H1 _ I2 q) fun w3 s3 ⟨y, H2, I3, ry, q3⟩ => thn (hop pins s3 σ H2 v y u w3 _ I3 ru ry q3) fun w4 s4 ⟨z, H3, I4, rz, dx', fs', ea', l', q4⟩ => ?_
  exact setattr_ok I4 ea' c n l' rz fun s5 I5 => ⟨σ, _, I5, q4⟩
def rAdd : V → V → Hp → VK → Prop := fun x y H Q => ∃ i j, x = .int i ∧ y = .int j ∧ Q (.int (i + j)) H
def rSub : V → V → Hp → VK → Prop := fun x y H Q => ∃ i j, x = .int i ∧ y = .int j ∧ Q (.int (i - j)) H
theorem in_add : InOp X .Add rAdd := by
  rintro pins s σ H x y u v Q I rx ry ⟨i, j, rfl, rfl, q⟩
  obtain ⟨t, rfl⟩ := (show ∃ t, u = Value.int i t from rx)
  obtain ⟨t', rfl⟩ := (show ∃ t', v = Value.int j t' from ry)
  exact PyProof.Rows.iadd_int ⟨.int (i + j), H, I.tok _, ⟨_, rfl⟩, q⟩
theorem in_sub : InOp X .Sub rSub := by
  rintro pins s σ H x y u v Q I rx ry ⟨i, j, rfl, rfl, q⟩
  obtain ⟨t, rfl⟩ := (show ∃ t, u = Value.int i t from rx)
  obtain ⟨t', rfl⟩ := (show ∃ t', v = Value.int j t' from ry)
  exact PyProof.Rows.isub_int ⟨.int (i - j), H, I.tok _, ⟨_, rfl⟩, q⟩

/-- what is between an instance and its method: the tree of a method call -/
theorem methcall_of {pl : Sem Bool} {m : Str} {apos : Pos} {args : List Expr} {pins : List (Addr × Obj)} {s : Shared} {σ : St} {H : Hp} {Q : Value → Shared → Prop} {te : TE} (he : PE X e te) (I : Inv X pins σ H s)
    (h : te σ H fun x H1 => ∃ a C dx fs g, x = .ref a ∧ H1 a = some (.ins C dx fs) ∧ Cls X.K C ∧ Meth X.K C m g ∧ fs.lookup m = none ∧
      ∀ s1, Inv X pins σ H1 s1 → wpAny (model X.prog X.w) X.A (callWith pos (.ref g) [.ref a] (backTo pos (starEach args X.env)) (backToKw pos (keywordEach [] X.env))) Q X.xe s1)
    (ht : eval (.Call (.Attribute e m apos) args [] pos) X.env = (do
      let ov ← eval e X.env
      standAt apos.atName
      let (f, first) ← holding [ov] (getMethod ov m pl)
      callWith pos f first (backTo pos (starEach args X.env)) (backToKw pos (keywordEach [] X.env)))) :
    wpAny (model X.prog X.w) X.A (eval (.Call (.Attribute e m apos) args [] pos) X.env) Q X.xe s := by
  refine PySem.W.methodCall_KW (pl := pl) (thn (he pins s σ H _ I h) fun u s1 ⟨x, H1, I1, rx, a, C, dx, fs, g, ex, ea, c, k, l, q⟩ => ?_) ht
  subst ex
  obtain rfl : u = Value.ref a := rx
  exact getmeth_ok I1 ea c k l (q s1 I1)
end

/-! ### isinstance -/
section
variable {X : Cx} {pins : List (Addr × Obj)} {σ : St} {H : Hp} {s : Shared} {A : Around} {E : Value → Shared → Prop} {Q : Value → Shared → Prop} {c : Value} {b : Bool}
/-- the type of a value, as the fragment's deciders take it; for an instance its class -/
inductive TyOf (K : PySem.W.Frag) (H : Hp) : V → Value → Prop where
  | non : TyOf K H .non (.type "NoneType")
  | bl (x : Bool) : TyOf K H (.bl x) (.type "bool")
  | int (i : Int) : TyOf K H (.int i) (.type "int")
  | str (x : Str) : TyOf K H (.str x) (.type "str")
  | flt (x : UInt64) : TyOf K H (.flt x) (.type "float")
  | lst {a : Addr} {xs : List V} (e : H a = some (.lst xs)) : TyOf K H (.ref a) (.type "list")
  | frz {a : Addr} {o : Obj} {xs : List V} (e : H a = some (.frz o (.lst xs))) : TyOf K H (.ref a) (.type "list")
  | tup {a : Addr} {xs : List V} (e : H a = some (.tup xs)) : TyOf K H (.ref a) (.type "tuple")
  | dK {a : Addr} {kvs : List (Key × V)} (e : H a = some (.dK kvs)) : TyOf K H (.ref a) (.type "dict")
  | dT {a : Addr} {kvs : List (List Key × V)} (e : H a = some (.dT kvs)) : TyOf K H (.ref a) (.type "dict")
  | ins {a C dx : Addr} {fs : List (Str × V)} (e : H a = some (.ins C dx fs)) (cl : Cls K C) (ha : PySem.W.findIn K (.ref C) "__class__" = some (some (.builtin "object.__class__")))
      (hn : PySem.W.specialIn K (.builtin "object.__class__") "__get__" = some (some (.builtin "getset_descriptor.__get__"))) (htk : PySem.W.takesIn K (.builtin "object.__class__") = some true)
      (hm : PySem.W.mroIn K C (.type "object") = some true) : TyOf K H (.ref a) (.ref C)
/-- isinstance(x, c) for one class c, a built-in or an own one: kitOne's answer -/
theorem isinst_ok {x : V} {u t : Value} (I : Inv X pins σ H s) (rx : RelV x u) (ty : TyOf X.K H x t) (e : PySem.W.kitOne X.K t c = some b) (h : ∀ tk, Q (.bool b) { s with toks := tk }) :
    wpAny (model X.prog X.w) A (call (.builtin "isinstance") [u, c]) Q E s := by
  cases ty with
  | non => cases (show u = Value.none from rx); exact PySem.W.kia_one PySem.W.kitx_none I.kIn True.intro e (fun z => nomatch z) h
  | bl y => cases (show u = Value.bool y from rx); exact PySem.W.kia_one PySem.W.kitx_bool I.kIn True.intro e (fun z => nomatch z) h
  | int i => obtain ⟨t, q⟩ := (show ∃ t, u = Value.int i t from rx); cases q; exact PySem.W.kia_one PySem.W.kitx_int I.kIn True.intro e (fun z => nomatch z) h
  | str y => obtain ⟨t, q⟩ := (show ∃ t, u = Value.str y t from rx); cases q; exact PySem.W.kia_one PySem.W.kitx_str I.kIn True.intro e (fun z => nomatch z) h
  | flt y => obtain ⟨t, q⟩ := (show ∃ t, u = Value.float y t from rx); cases q; exact PySem.W.kia_one PySem.W.kitx_float I.kIn True.intro e (fun z => nomatch z) h
  | @lst a xs ea =>
    cases (show u = Value.ref a from rx)
    obtain ⟨_, _, n, _, h1⟩ := (show ObjOk X.prog X.w H s.heap a (.lst xs) from I.hok a _ ea)
    exact PySem.W.kia_one PySem.W.kitx_list I.kIn ⟨_, h1, rfl⟩ e (fun z => nomatch z) h
  | @frz a ob xs ea =>
    cases (show u = Value.ref a from rx)
    obtain ⟨_, _, _, n, _, h1⟩ := (show ObjOk X.prog X.w H s.heap a (.frz ob (.lst xs)) from I.hok a _ ea)
    exact PySem.W.kia_one PySem.W.kitx_list I.kIn ⟨_, h1, rfl⟩ e (fun z => nomatch z) h
  | @tup a xs ea =>
    cases (show u = Value.ref a from rx)
    obtain ⟨_, _, _, p⟩ := (show ObjOk X.prog X.w H s.heap a (.tup xs) from I.hok a _ ea)
    obtain ⟨o, h1, h2, _⟩ := p
    exact PySem.W.kia_one PySem.W.kitx_tuple I.kIn ⟨o, h1, h2⟩ e (fun z => nomatch z) h
  | @dK a kvs ea =>
    cases (show u = Value.ref a from rx)
    obtain ⟨_, _, vs, _, p⟩ := (show ObjOk X.prog X.w H s.heap a (.dK kvs) from I.hok a _ ea)
    obtain ⟨o, es, ep, h1, h2, _⟩ := p
    exact PySem.W.kia_one PySem.W.kitx_dict I.kIn ⟨o, h1, h2.1⟩ e (fun z => nomatch z) h
  | @dT a kvs ea =>
    cases (show u = Value.ref a from rx)
    obtain ⟨_, _, xs, _, o, es, ep, h1, h2, _⟩ := (show ObjOk X.prog X.w H s.heap a (.dT kvs) from I.hok a _ ea)
    exact PySem.W.kia_one PySem.W.kitx_dict I.kIn ⟨o, h1, h2.1⟩ e (fun z => nomatch z) h
  | @ins a C dx fs ea cl ha hn htk hm =>
    cases (show u = Value.ref a from rx)
    obtain ⟨mA, O, _⟩ := ins_get I.hok ea
    obtain ⟨od, J, _⟩ := O.look
    exact PySem.W.kia_one (PySem.W.kitx_own (cl.get _) cl.hd ha hn htk hm) I.kIn J e (fun z => nomatch z) h
end
end L2

namespace L2
open PySem PySem.Spec PyProof.Rows

/-! ### room -/
structure Room (k : Nat) (A : Around) : Prop where
  hd : A.handled = none
  dp : A.depth + 3 * k + 5 < recursionLimit
  un : A.units + 16 * k + 200 < cLine
theorem Room.mono {j k : Nat} {A : Around} (r : Room k A) (h : j ≤ k) : Room j A := ⟨r.hd, by have := r.dp; omega, by have := r.un; omega⟩
theorem Room.deeper {k : Nat} {A : Around} (r : Room (k + 1) A) (env : Env) : Room k (A.deeper env) :=
  ⟨r.hd, by have := r.dp; show A.depth + 1 + 3 * k + 5 < _; omega, by have := r.un; show A.units + 3 + 16 * k + 200 < _; omega⟩
theorem Room.in1 {k : Nat} {A : Around} (r : Room (k + 1) A) : Room k A.in1 :=
  ⟨r.hd, by have := r.dp; show A.depth + 3 * k + 5 < _; omega, by have := r.un; show A.units + 1 + 16 * k + 200 < _; omega⟩
theorem make_depth {A : Around} {C : Addr} {us : List Value} {kw : List (Str × Value)} : (A.under (.builtin "type.__call__" ⟨.ref C :: us, kw⟩)).depth = A.depth + 1 := by
  first | rfl | simp [Around.under, Code.weight, Code.isCreation, Code.isGuard, Code.isCaller, Code.frames, Code.isFrame, guardIds]
theorem make_units {A : Around} {C : Addr} {us : List Value} {kw : List (Str × Value)} : (A.under (.builtin "type.__call__" ⟨.ref C :: us, kw⟩)).units = A.units + 1 := by
  first | rfl | simp [Around.under, Code.cUnits, Code.frames, Code.isFrame]
theorem Room.make {k : Nat} {A : Around} (r : Room (k + 1) A) (C : Addr) (us : List Value) (kw : List (Str × Value)) : Room k (A.under (.builtin "type.__call__" ⟨.ref C :: us, kw⟩)) :=
  ⟨r.hd, by have := r.dp; rw [make_depth]; omega, by have := r.un; rw [make_units]; omega⟩
theorem Room.depth {k : Nat} {A : Around} (r : Room k A) : A.depth < recursionLimit := by have := r.dp; omega
theorem Room.units {k : Nat} {A : Around} (r : Room k A) : A.units + 64 < cLine := by have := r.un; omega
theorem Room.units0 {k : Nat} {A : Around} (r : Room k A) : A.units < cLine := by have := r.un; omega

/-! ### argument lists and displays -/
def tNil : TA := fun _ H Q => Q [] H
def tCons (ta : TE) (tr : TA) : TA := fun σ H Q => ta σ H fun x H1 => tr σ H1 fun xs H2 => Q (x :: xs) H2
section
variable {X : Cx} {e : Expr} {es : List Expr} {te : TE} {t : TA} {pos : Pos}
theorem pa_nil : PA X [] tNil := fun _ _ _ _ H Q I h => Calls.spliced_nil ⟨[], H, I, .nil, h⟩
theorem pa_cons (ha : PE X e te) (hr : PA X es t) (hs : starEach (e :: es) X.env = (false, eval e X.env) :: starEach es X.env := by rfl) : PA X (e :: es) (tCons te t) := by
  intro pos pins s σ H Q I h
  rw [hs]
  show wpAny _ _ (spliced ((false, eval e X.env) :: backTo pos (starEach es X.env))) _ _ s
  refine Calls.spliced_cons (thn (ha pins s σ H _ I h) fun u s1 ⟨x, H1, I1, r1, q1⟩ => ?_)
  exact thn (hr pos pins s1 σ H1 _ I1 q1) fun us s2 ⟨xs, H2, I2, r2, q2⟩ => ⟨x :: xs, H2, I2, .cons r1 r2, q2⟩

/-- a tuple, a list of written items -/
def tTup (t : TA) : TE := fun σ H Q => t σ H fun xs H1 => xs.length ≤ sizeLine ∧ ∀ p, H1 p = none → Q (.ref p) (upd H1 p (.tup xs))
def tLst (t : TA) : TE := fun σ H Q => t σ H fun xs H1 => xs.length ≤ sizeLine ∧ ∀ p, H1 p = none → Q (.ref p) (upd H1 p (.lst xs))
theorem pe_tup {x1} (h : PA X es t) : PE X (.Tuple es x1 pos) (tTup t) := by
  intro pins s σ H Q I hq
  refine wpAny_Tuple_spliced (thn (h pos pins s σ H _ I hq) fun us s1 ⟨xs, H1, I1, r, z, q⟩ => ⟨by rw [← r.length]; exact z, ?_⟩)
  have hf : H1 s1.heap.objs.size = none := I1.hok.fresh (Nat.le_refl _)
  refine ⟨.ref s1.heap.objs.size, upd H1 s1.heap.objs.size (.tup xs), I1.laid (t' := s1.toks) (fun b u e => Heap.get?_push_of_some _ e) (Nat.le_refl _) ?_, rfl, q _ hf⟩
  exact ⟨z, us, r, ⟨_, Heap.get?_push_size _ rfl, rfl, _, rfl⟩⟩
theorem pe_lst (h : PA X es t) : PE X (.List es pos) (tLst t) := by
  intro pins s σ H Q I hq
  refine wpAny_List_spliced (thn (h pos pins s σ H _ I hq) fun us s1 ⟨xs, H1, I1, r, z, q⟩ => ⟨by rw [← r.length]; exact z, ?_⟩)
  have hf : H1 s1.heap.objs.size = none := I1.hok.fresh (Nat.le_refl _)
  refine ⟨.ref s1.heap.objs.size, upd H1 s1.heap.objs.size (.lst xs), I1.laid (t' := s1.toks) (fun b u e => Heap.get?_push_of_some _ e) (Nat.le_refl _) ?_, rfl, q _ hf⟩
  exact ⟨z, us, 0, r, Heap.get?_push_size _ rfl⟩
end

/-! ### what a def promises -/
/-- a def's promise: the bound arguments in the parameters' order, the heap, the wanted end, the wanted exception -/
abbrev Sp := List V → Hp → VK → XK → Prop
/-- how an exception lies behind a call (file 08 gives it): the callers' frames, abstract heap and state ahead of the call, the wish, the exception, the state -/
abbrev CXT := List Env → Hp → Shared → XK → Value → Shared → Prop

/-- the state at a call -/
structure Env0 (P : Program) (w : World) (K : PySem.W.Frag) (mg : Str → Option Value) (base : Heap) (A : Around) (outer : List Env) (s : Shared) (H : Hp) : Prop where
  frames : A.frames = some outer
  mod : Mod K mg base
  bs : ∀ b o, base.get? b = some o → s.heap.get? b = some o ∧ H b = none
  bsz : base.objs.size ≤ s.heap.objs.size
  funs : s.heap.FunFrames base outer
  frf : ∀ b ∈ frs outer, H b = none
  hok : HOk P w H s.heap
  bare : AllBare s.gens
/-- a call's end -/
def CE (outer : List Env) (P : Program) (w : World) (H : Hp) (s : Shared) (Q : VK) (u : Value) (s' : Shared) : Prop :=
  ∃ v H', s'.os = s.os ∧ AllBare s'.gens ∧ Un (frs outer) [] H H' s.heap s'.heap ∧ HOk P w H' s'.heap ∧ RelV v u ∧ Q v H'
def CR (CX : CXT) (outer : List Env) (P : Program) (w : World) (H : Hp) (s : Shared) (Q : VK) (E : XK) (r : Result) (s' : Shared) : Prop :=
  match r with
  | .ok (.ret u) => CE outer P w H s Q u s'
  | .ok _ => False
  | .error e => CX outer H s E e s'
structure FnOk (P : Program) (w : World) (K : PySem.W.Frag) (mg : Str → Option Value) (base : Heap) (CX : CXT) (k : Nat) (f : Addr) (fd : FuncData) (ps : List Str) (sp : Sp) : Prop where
  len : ∀ vs H Q E, sp vs H Q E → vs.length = ps.length
  run : ∀ (A : Around) (outer : List Env) (s : Shared) (H : Hp) (args : Args) (us : List Value) (vs : List V) (Q : VK) (E : XK), Room k A → Env0 P w K mg base A outer s H → BindsTo s fd args (ps.zip us) → Vals vs us → sp vs H Q E →
    codeAny (model P w) A (.call (.ref f) args) (CR CX outer P w H s Q E) s
theorem FnOk.mono {P : Program} {w : World} {K : PySem.W.Frag} {mg : Str → Option Value} {base : Heap} {CX : CXT} {j k : Nat} {f : Addr} {fd : FuncData} {ps : List Str} {sp : Sp} (F : FnOk P w K mg base CX j f fd ps sp) (h : j ≤ k) :
    FnOk P w K mg base CX k f fd ps sp := ⟨F.len, fun A outer s H args us vs Q E hr => F.run A outer s H args us vs Q E (hr.mono h)⟩
/-- a weaker promise -/
theorem FnOk.imp {P : Program} {w : World} {K : PySem.W.Frag} {mg : Str → Option Value} {base : Heap} {CX : CXT} {k : Nat} {f : Addr} {fd : FuncData} {ps : List Str} {sp sp' : Sp} (F : FnOk P w K mg base CX k f fd ps sp)
    (h : ∀ vs H Q E, sp' vs H Q E → sp vs H Q E) : FnOk P w K mg base CX k f fd ps sp' :=
  ⟨fun vs H Q E q => F.len vs H Q E (h _ _ _ _ q), fun A outer s H args us vs Q E hr he hb hv hs => F.run A outer s H args us vs Q E hr he hb hv (h _ _ _ _ hs)⟩

theorem Env0.make {P : Program} {w : World} {K : PySem.W.Frag} {mg : Str → Option Value} {base : Heap} {A : Around} {outer : List Env} {s : Shared} {H : Hp} (e : Env0 P w K mg base A outer s H) (C : Addr) (us : List Value) (kw : List (Str × Value)) :
    Env0 P w K mg base (A.under (.builtin "type.__call__" ⟨.ref C :: us, kw⟩)) outer s H := ⟨by first | exact e.frames | (simpa [Around.under, Code.envs, Code.isFrame, pushEnvs] using e.frames), e.mod, e.bs, e.bsz, e.funs, e.frf, e.hok, e.bare⟩
theorem Env0.in1 {P : Program} {w : World} {K : PySem.W.Frag} {mg : Str → Option Value} {base : Heap} {A : Around} {outer : List Env} {s : Shared} {H : Hp} (e : Env0 P w K mg base A outer s H) :
    Env0 P w K mg base A.in1 outer s H := ⟨e.frames, e.mod, e.bs, e.bsz, e.funs, e.frf, e.hok, e.bare⟩

section
variable {X : Cx} {pins : List (Addr × Obj)} {σ : St} {H : Hp} {s s' : Shared}
/-- from a body: what a callee wants -/
theorem Inv.env0 (I : Inv X pins σ H s) : Env0 X.prog X.w X.K X.mg X.base X.A X.stack s H :=
  ⟨I.ok.frames, I.ok.mod, I.bs, Nat.le_trans I.ok.bsz I.sz, I.stack, I.stkFree, I.hok, I.bare⟩
/-- behind a call -/
theorem Inv.after {Q : VK} {u : Value} (I : Inv X pins σ H s) (h : CE X.stack X.prog X.w H s Q u s') : EP X pins σ Q u s' := by
  obtain ⟨v, H', os, bare, un, hok, r, q⟩ := h
  obtain ⟨hh, g, d, t, os'⟩ := s'
  obtain rfl : os' = s.os := os
  exact ⟨v, H', I.call (h' := hh) (g' := g) (d' := d) (t' := t) (ch := []) un hok bare (fun b z => absurd z (by simp)), r, q⟩
end

/-! ### calls -/
/-- f(..): the written arguments, then the defaults dvs; E: what is wanted of an exception -/
def tCall (sp : Sp) (dvs : List V) (E : XK) (t : TA) : TE := fun σ H Q => t σ H fun vs H1 => sp (vs ++ dvs) H1 Q E
/-- o.m(..) of an instance of the class at C -/
def tMeth (C : Addr) (m : Str) (sp : Sp) (dvs : List V) (E : XK) (ta : TE) (t : TA) : TE := fun σ H Q => ta σ H fun x H1 => ∃ a dx fs, x = .ref a ∧ H1 a = some (.ins C dx fs) ∧ fs.lookup m = none ∧
  t σ H1 fun vs H2 => sp (x :: (vs ++ dvs)) H2 Q E
/-- C(..): a new instance and its dict, then __init__ -/
def tMake (C : Addr) (sp : Sp) (dvs : List V) (E : XK) (t : TA) : TE := fun σ H Q => t σ H fun vs H1 => ∀ x dx, H1 x = none → H1 dx = none → dx ≠ x →
  sp (.ref x :: (vs ++ dvs)) (upd (upd H1 dx (.own x)) x (.ins C dx [])) (fun v H2 => v = .non ∧ Q (.ref x) H2) E

/-- how the parameters are bound: us the positional arguments, kw the keywords' values by name, ds the defaults that fill up -/
def Binds (K : PySem.W.Frag) (fd : FuncData) (ps : List Str) (ds : List Value) : Prop :=
  ∀ (s : Shared) (us : List Value), K.In s.heap → (us ++ ds).length = ps.length → BindsTo s fd ⟨us, []⟩ (ps.zip (us ++ ds))
/-- every parameter is given -/
theorem Binds.all {K : PySem.W.Frag} {fd : FuncData} {ps : List Str} (h : ∀ us : List Value, us.length = ps.length → bindArgs fd ⟨us, []⟩ = pure (ps.zip us)) : Binds K fd ps [] := fun s us _ hl => by
  rw [List.append_nil] at hl ⊢
  exact .of_eq (h us hl)

/-- an exception of a callee reaches what this body wants of exceptions -/
def Passes (CX : CXT) (X : Cx) (E : XK) : Prop := ∀ (pins : List (Addr × Obj)) (σ : St) (H : Hp) (s : Shared) (e : Value) (s' : Shared), Inv X pins σ H s → CX X.stack H s E e s' → X.xe e s'

section
variable {X : Cx} {CX : CXT} {k : Nat} {f C : Addr} {fd : FuncData} {ps : List Str} {sp : Sp} {dvs : List V} {ds : List Value} {E : XK} {x m : Str} {p pos apos : Pos} {e o : Expr} {es : List Expr} {ta : TE} {t : TA}

/-- the callee runs -/
theorem run_fn {pins : List (Addr × Obj)} {σ : St} {H : Hp} {s : Shared} {Q : VK} {us : List Value} {vs : List V} (F : FnOk X.prog X.w X.K X.mg X.base CX k f fd ps sp) (hr : Room k X.A) (hb : Binds X.K fd ps ds) (hd : Vals dvs ds) (hx : Passes CX X E)
    (I : Inv X pins σ H s) (r : Vals vs us) (h : sp (vs ++ dvs) H Q E) : wpAny (model X.prog X.w) X.A (call (.ref f) us) (EP X pins σ Q) X.xe s := by
  have r2 : Vals (vs ++ dvs) (us ++ ds) := r.append hd
  have hl : (us ++ ds).length = ps.length := by rw [← r2.length]; exact F.len _ _ _ _ h
  refine wpAny_call (codeAny_mono (F.run X.A X.stack s H ⟨us, []⟩ (us ++ ds) (vs ++ dvs) Q E hr I.env0 (hb s us I.kIn hl) r2 h) fun r s' hq => ?_)
  cases r with
  | error e => exact hx pins σ H s e s' I hq
  | ok fl =>
    cases fl with
    | ret u => exact I.after hq
    | next => exact False.elim hq
    | brk => exact False.elim hq
    | cont => exact False.elim hq

theorem pe_call (F : FnOk X.prog X.w X.K X.mg X.base CX k f fd ps sp) (hr : Room k X.A) (hg : Gl X x) (hm : X.mg x = some (.ref f)) (hk : PySem.W.keepIn X.K (.ref f) = true) (hb : Binds X.K fd ps ds) (hd : Vals dvs ds) (hx : Passes CX X E)
    (ha : PA X (e :: es) t) (hdb : (x == ("__debug__" : Str)) = false := by decide) (he : starEach (e :: es) X.env = (false, eval e X.env) :: starEach es X.env := by rfl) (hpl : (backTo pos (starEach es X.env)).any (·.1) = false := by rfl) :
    PE X (.Call (.Name x p) (e :: es) [] pos) (tCall sp dvs E t) := by
  intro pins s σ H Q I h
  refine wpAny_Call_Name_kw (ld_glob I hg hm ?_ hdb)
  refine PySem.W.callWith_K (h₀ := X.base) I.ok.mod.kin hk (thn (ha pos pins s σ H _ I h) fun us s1 ⟨vs, H1, I1, r, q⟩ => ⟨I1.kIn, ?_⟩) he hpl
  exact run_fn F hr hb hd hx I1 r q
theorem pe_call0 (F : FnOk X.prog X.w X.K X.mg X.base CX k f fd ps sp) (hr : Room k X.A) (hg : Gl X x) (hm : X.mg x = some (.ref f)) (hk : PySem.W.keepIn X.K (.ref f) = true) (hb : Binds X.K fd ps ds) (hd : Vals dvs ds) (hx : Passes CX X E)
    (hdb : (x == ("__debug__" : Str)) = false := by decide) : PE X (.Call (.Name x p) [] [] pos) (tCall sp dvs E tNil) := by
  intro pins s σ H Q I h
  refine wpAny_Call_Name_kw (ld_glob I hg hm ?_ hdb)
  exact PySem.W.callWith_K0 I.kIn hk (run_fn (us := []) F hr hb hd hx I .nil h)

/-- o.m(e, ..) -/
theorem pe_meth {pl : Sem Bool} (he : PE X o ta) (c : Cls X.K C) (hm : Meth X.K C m f) (F : FnOk X.prog X.w X.K X.mg X.base CX k f fd ps sp) (hr : Room k X.A) (hb : Binds X.K fd ps ds) (hd : Vals dvs ds) (hx : Passes CX X E) (ha : PA X (e :: es) t)
    (hst : starEach (e :: es) X.env = (false, eval e X.env) :: starEach es X.env := by rfl) (hpl : (backTo pos (starEach es X.env)).any (·.1) = false := by rfl)
    (ht : eval (.Call (.Attribute o m apos) (e :: es) [] pos) X.env = (do
      let ov ← eval o X.env
      standAt apos.atName
      let (f, first) ← holding [ov] (getMethod ov m pl)
      callWith pos f first (backTo pos (starEach (e :: es) X.env)) (backToKw pos (keywordEach [] X.env))) := by rfl) :
    PE X (.Call (.Attribute o m apos) (e :: es) [] pos) (tMeth C m sp dvs E ta t) := by
  intro pins s σ H Q I h
  refine PySem.W.methodCall_KW (pl := pl) (thn (he pins s σ H _ I h) fun u s1 ⟨x, H1, I1, rx, a, dx, fs, ex, ea, l, q⟩ => ?_) ht
  subst ex
  obtain rfl : u = Value.ref a := rx
  refine getmeth_ok I1 ea c hm l ?_
  refine PySem.W.callWith_K (first := [.ref a]) (h₀ := X.base) I.ok.mod.kin hm.kp (thn (ha pos pins s1 σ H1 _ I1 q) fun us s2 ⟨vs, H2, I2, r, q2⟩ => ⟨I2.kIn, ?_⟩) hst hpl
  exact run_fn (us := .ref a :: us) (vs := .ref a :: vs) F hr hb hd hx I2 (.cons rfl r) q2
/-- o.m() -/
theorem pe_meth0 {pl : Sem Bool} (he : PE X o ta) (c : Cls X.K C) (hm : Meth X.K C m f) (F : FnOk X.prog X.w X.K X.mg X.base CX k f fd ps sp) (hr : Room k X.A) (hb : Binds X.K fd ps ds) (hd : Vals dvs ds) (hx : Passes CX X E)
    (ht : eval (.Call (.Attribute o m apos) [] [] pos) X.env = (do
      let ov ← eval o X.env
      standAt apos.atName
      let (f, first) ← holding [ov] (getMethod ov m pl)
      callWith pos f first (backTo pos (starEach [] X.env)) (backToKw pos (keywordEach [] X.env))) := by rfl) :
    PE X (.Call (.Attribute o m apos) [] [] pos) (tMeth C m sp dvs E ta tNil) := by
  intro pins s σ H Q I h
  refine PySem.W.methodCall_KW (pl := pl) (thn (he pins s σ H _ I h) fun u s1 ⟨x, H1, I1, rx, a, dx, fs, ex, ea, l, q⟩ => ?_) ht
  subst ex
  obtain rfl : u = Value.ref a := rx
  refine getmeth_ok I1 ea c hm l ?_
  exact PySem.W.callWith_K0 (first := [.ref a]) I1.kIn hm.kp (run_fn (us := [.ref a]) (vs := [.ref a]) F hr hb hd hx I1 (.cons rfl .nil) q)

/-- what a class must have to be made -/
structure Mk (K : PySem.W.Frag) (C f : Addr) : Prop where
  makes : PySem.W.makesIn K C = true
  init : PySem.W.findIn K (.ref C) "__init__" = some (some (.ref f))
  fn : PySem.W.isFn K (.ref f) = true
  kp : PySem.W.keepIn K (.ref C) = true

theorem run_make {pins : List (Addr × Obj)} {σ : St} {H : Hp} {s : Shared} {Q : VK} {us : List Value} {vs : List V} (M : Mk X.K C f) (F : FnOk X.prog X.w X.K X.mg X.base CX k f fd ps sp) (hr : Room (k + 1) X.A) (hb : Binds X.K fd ps ds) (hd : Vals dvs ds)
    (hx : Passes CX X E) (I : Inv X pins σ H s) (r : Vals vs us)
    (h : ∀ x dx, H x = none → H dx = none → dx ≠ x → sp (.ref x :: (vs ++ dvs)) (upd (upd H dx (.own x)) x (.ins C dx [])) (fun v H2 => v = .non ∧ Q (.ref x) H2) E) :
    wpAny (model X.prog X.w) X.A (call (.ref C) us) (EP X pins σ Q) X.xe s := by
  have hq := h (s.heap.objs.size + 1) s.heap.objs.size (I.hok.fresh (Nat.le_succ _)) (I.hok.fresh (Nat.le_refl _)) (Nat.ne_of_lt (Nat.lt_succ_self _))
  have I2 := Inv.made (C := C) I
  have r2 : Vals (V.ref (s.heap.objs.size + 1) :: (vs ++ dvs)) (Value.ref (s.heap.objs.size + 1) :: (us ++ ds)) := .cons rfl (r.append hd)
  have hl : (Value.ref (s.heap.objs.size + 1) :: us ++ ds).length = ps.length := by
    have e := r2.length
    rw [F.len _ _ _ _ hq] at e
    exact e.symm
  refine wpAny_call (make_map (f := f) I.kIn M.makes M.init (beq_iff_eq.mp M.fn) (codeAny_mono (F.run _ X.stack _ _ ⟨Value.ref (s.heap.objs.size + 1) :: us, []⟩ (Value.ref (s.heap.objs.size + 1) :: (us ++ ds)) _ _ E (hr.make C us [])
    (I2.env0.make C us []) (hb _ (Value.ref (s.heap.objs.size + 1) :: us) I2.kIn hl) r2 hq) fun r s' hq' => ?_))
  cases r with
  | error e => exact hx pins σ _ _ e s' I2 hq'
  | ok fl =>
    cases fl with
    | ret u =>
      obtain ⟨v, H', I3, rv, ev, q3⟩ := I2.after hq'
      subst ev
      exact ⟨rv, ⟨V.ref (s.heap.objs.size + 1), H', I3, rfl, q3⟩⟩
    | next => exact False.elim hq'
    | brk => exact False.elim hq'
    | cont => exact False.elim hq'
theorem pe_make (M : Mk X.K C f) (F : FnOk X.prog X.w X.K X.mg X.base CX k f fd ps sp) (hr : Room (k + 1) X.A) (hg : Gl X x) (hm : X.mg x = some (.ref C)) (hb : Binds X.K fd ps ds) (hd : Vals dvs ds) (hx : Passes CX X E)
    (ha : PA X (e :: es) t) (hdb : (x == ("__debug__" : Str)) = false := by decide) (he : starEach (e :: es) X.env = (false, eval e X.env) :: starEach es X.env := by rfl) (hpl : (backTo pos (starEach es X.env)).any (·.1) = false := by rfl) :
    PE X (.Call (.Name x p) (e :: es) [] pos) (tMake C sp dvs E t) := by
  intro pins s σ H Q I h
  refine wpAny_Call_Name_kw (ld_glob I hg hm ?_ hdb)
  refine PySem.W.callWith_K (h₀ := X.base) I.ok.mod.kin M.kp (thn (ha pos pins s σ H _ I h) fun us s1 ⟨vs, H1, I1, r, q⟩ => ⟨I1.kIn, ?_⟩) he hpl
  exact run_make M F hr hb hd hx I1 r q
theorem pe_make0 (M : Mk X.K C f) (F : FnOk X.prog X.w X.K X.mg X.base CX k f fd ps sp) (hr : Room (k + 1) X.A) (hg : Gl X x) (hm : X.mg x = some (.ref C)) (hb : Binds X.K fd ps ds) (hd : Vals dvs ds) (hx : Passes CX X E)
    (hdb : (x == ("__debug__" : Str)) = false := by decide) : PE X (.Call (.Name x p) [] [] pos) (tMake C sp dvs E tNil) := by
  intro pins s σ H Q I h
  refine wpAny_Call_Name_kw (ld_glob I hg hm ?_ hdb)
  exact PySem.W.callWith_K0 I.kIn M.kp (run_make (us := []) M F hr hb hd hx I .nil h)
end

/-! ### keywords -/
/-- the values of the keywords, from the left -/
def PK (X : Cx) (kws : List Keyword) (t : TA) : Prop :=
  ∀ (pos : Pos) (pins : List (Addr × Obj)) (s : Shared) (σ : St) (H : Hp) (Q : List V → Hp → Prop), Inv X pins σ H s → t σ H Q → wpAny (model X.prog X.w) X.A (evalAll ((backToKw pos (keywordEach kws X.env)).map (·.2))) (AP X pins σ Q) X.xe s
section
variable {X : Cx} {CX : CXT} {k : Nat} {f C : Addr} {fd : FuncData} {ps ks : List Str} {sp : Sp} {E : XK} {x m : Str} {p pos apos kpos : Pos} {e o : Expr} {es : List Expr} {kws : List Keyword} {te ta : TE} {t tk : TA} {nm : Option Str}
theorem pk_nil : PK X [] tNil := fun _ _ _ _ H Q I h => wpAny_evalAll_nil ⟨[], H, I, .nil, h⟩
theorem pk_cons (ha : PE X e te) (hr : PK X kws t) : PK X (⟨nm, e, kpos⟩ :: kws) (tCons te t) := by
  intro pos pins s σ H Q I h
  show wpAny _ _ (evalAll ((do let v ← eval e X.env; standAt pos; pure v) :: (backToKw pos (keywordEach kws X.env)).map (·.2))) _ _ s
  refine wpAny_evalAll_cons (wpAny_bind (thn (ha pins s σ H _ I h) fun u s1 ⟨x, H1, I1, r1, q1⟩ => wpAny_bind (wpAny_standAt (wpAny_pure ?_))))
  exact thn (hr pos pins s1 σ H1 _ I1 q1) fun us s2 ⟨xs, H2, I2, r2, q2⟩ => ⟨x :: xs, H2, I2, .cons r1 r2, q2⟩

/-- how a call with keywords binds: g puts the positional values us and the keywords' values ws (names ks) in the parameters' order, defaults among them -/
structure KBinds (K : PySem.W.Frag) (fd : FuncData) (ps ks : List Str) (g : List Value → List Value → List Value) (gV : List V → List V → List V) : Prop where
  to : ∀ (s : Shared) (us ws : List Value), K.In s.heap → (g us ws).length = ps.length → BindsTo s fd ⟨us, ks.zip ws⟩ (ps.zip (g us ws))
  rel : ∀ {vs : List V} {us : List Value} {zs : List V} {ws : List Value}, Vals vs us → Vals zs ws → Vals (gV vs zs) (g us ws)
def tCallK (sp : Sp) (gV : List V → List V → List V) (E : XK) (t tk : TA) : TE := fun σ H Q => t σ H fun vs H1 => tk σ H1 fun zs H2 => sp (gV vs zs) H2 Q E
variable {g : List Value → List Value → List Value} {gV : List V → List V → List V}
theorem run_fnk {pins : List (Addr × Obj)} {σ : St} {H : Hp} {s : Shared} {Q : VK} {us ws : List Value} {vs zs : List V} (F : FnOk X.prog X.w X.K X.mg X.base CX k f fd ps sp) (hr : Room k X.A) (hb : KBinds X.K fd ps ks g gV) (hx : Passes CX X E)
    (I : Inv X pins σ H s) (r : Vals vs us) (rz : Vals zs ws) (h : sp (gV vs zs) H Q E) : wpAny (model X.prog X.w) X.A (call (.ref f) us (ks.zip ws)) (EP X pins σ Q) X.xe s := by
  have r2 := hb.rel r rz
  have hl : (g us ws).length = ps.length := by rw [← r2.length]; exact F.len _ _ _ _ h
  refine wpAny_call (codeAny_mono (F.run X.A X.stack s H ⟨us, ks.zip ws⟩ (g us ws) (gV vs zs) Q E hr I.env0 (hb.to s us ws I.kIn hl) r2 h) fun r s' hq => ?_)
  cases r with
  | error e => exact hx pins σ H s e s' I hq
  | ok fl =>
    cases fl with
    | ret u => exact I.after hq
    | next => exact False.elim hq
    | brk => exact False.elim hq
    | cont => exact False.elim hq
/-- f(e, .., k = v, ..) -/
theorem pe_callK (F : FnOk X.prog X.w X.K X.mg X.base CX k f fd ps sp) (hr : Room k X.A) (hg : Gl X x) (hm : X.mg x = some (.ref f)) (hk : PySem.W.keepIn X.K (.ref f) = true) (hb : KBinds X.K fd ps ks g gV) (hx : Passes CX X E)
    (ha : PA X (e :: es) t) (hkw : PK X kws tk) (hall : (backToKw pos (keywordEach kws X.env)).all (·.1.isSome) = true := by rfl) (hks : (backToKw pos (keywordEach kws X.env)).filterMap (·.1) = ks := by rfl)
    (hdb : (x == ("__debug__" : Str)) = false := by decide) (he : starEach (e :: es) X.env = (false, eval e X.env) :: starEach es X.env := by rfl)
    (hpl : ((backTo pos (starEach (e :: es) X.env)).any (·.1) || (backToKw pos (keywordEach kws X.env)).any (·.1.isNone)) = false := by rfl) :
    PE X (.Call (.Name x p) (e :: es) kws pos) (tCallK sp gV E t tk) := by
  intro pins s σ H Q I h
  refine wpAny_Call_Name_kw (ld_glob I hg hm ?_ hdb)
  refine PySem.W.callWith_KW (h₀ := X.base) I.ok.mod.kin hk hall (thn (ha pos pins s σ H _ I h) fun us s1 ⟨vs, H1, I1, r, q⟩ => ?_) hpl he
  refine thn (hkw pos pins s1 σ H1 _ I1 q) fun ws s2 ⟨zs, H2, I2, rz, q2⟩ => ⟨I2.kIn, ?_⟩
  rw [hks]
  exact run_fnk F hr hb hx I2 r rz q2
end

/-! ### a def's body keeps its promise -/
/-- names: the parameters first -/
structure FnScope (N P : List Str) (sc : Scope) : Prop where
  kind : sc.kind = .function
  co : sc.isCoroutine = false
  gen : sc.isGenerator = false
  nd : N.Nodup
  pre : N.take P.length = P
  par : ∀ x ∈ P, sc.names.lookup x = some .local ∨ sc.names.lookup x = some .cell
  nofree : ∀ y ∈ sc.names, y.2 ≠ .free

theorem bindL_out {kindOf : Str → Option NameKind} {x : Str} : ∀ {binds : List (Str × Value)} {m : Str → Option Value}, (∀ v, (x, v) ∉ binds) → bindL kindOf binds m x = m x
  | [], _, _ => rfl
  | (n, v) :: r, m, h => by
    unfold bindL
    rw [bindL_out fun w hw => h w (List.mem_cons_of_mem _ hw)]
    split
    · have : x ≠ n := by rintro rfl; exact h v List.mem_cons_self
      simp [this]
    · rfl
theorem bindC_out {kindOf : Str → Option NameKind} {x : Str} : ∀ {binds : List (Str × Value)} {m : Str → Option Value}, (∀ v, (x, v) ∉ binds) → bindC kindOf binds m x = m x
  | [], _, _ => rfl
  | (n, v) :: r, m, h => by
    unfold bindC
    rw [bindC_out fun w hw => h w (List.mem_cons_of_mem _ hw)]
    split
    · rfl
    · have : x ≠ n := by rintro rfl; exact h v List.mem_cons_self
      simp [this]
theorem bindL_get {kindOf : Str → Option NameKind} {x : Str} {v : Value} : ∀ {P : List Str} {vs : List Value} {i : Nat} {m : Str → Option Value}, P.Nodup → P[i]? = some x → vs[i]? = some v → kindOf x = some .local →
    bindL kindOf (P.zip vs) m x = some v
  | [], _, _, _, _, h, _, _ => by simp at h
  | _ :: _, [], _, _, _, _, h, _ => by simp at h
  | p :: P, w :: vs, 0, m, nd, h1, h2, hk => by
    simp at h1 h2; subst h1; subst h2
    show bindL kindOf ((p, w) :: P.zip vs) m p = _
    unfold bindL
    rw [bindL_out fun v hv => (List.nodup_cons.mp nd).1 (List.of_mem_zip hv).1, if_pos hk]
    simp
  | p :: P, w :: vs, i + 1, m, nd, h1, h2, hk => by
    show bindL kindOf ((p, w) :: P.zip vs) m x = _
    unfold bindL
    exact bindL_get (i := i) (List.nodup_cons.mp nd).2 (by simpa using h1) (by simpa using h2) hk
theorem bindC_get {kindOf : Str → Option NameKind} {x : Str} {v : Value} : ∀ {P : List Str} {vs : List Value} {i : Nat} {m : Str → Option Value}, P.Nodup → P[i]? = some x → vs[i]? = some v → kindOf x ≠ some .local →
    bindC kindOf (P.zip vs) m x = some v
  | [], _, _, _, _, h, _, _ => by simp at h
  | _ :: _, [], _, _, _, _, h, _ => by simp at h
  | p :: P, w :: vs, 0, m, nd, h1, h2, hk => by
    simp at h1 h2; subst h1; subst h2
    show bindC kindOf ((p, w) :: P.zip vs) m p = _
    unfold bindC
    rw [bindC_out fun v hv => (List.nodup_cons.mp nd).1 (List.of_mem_zip hv).1, if_neg hk]
    simp
  | p :: P, w :: vs, i + 1, m, nd, h1, h2, hk => by
    show bindC kindOf ((p, w) :: P.zip vs) m x = _
    unfold bindC
    exact bindC_get (i := i) (List.nodup_cons.mp nd).2 (by simpa using h1) (by simpa using h2) hk

/-- the names' values at the entry -/
def start (N : List Str) (vs : List V) : St := vs.map some ++ List.replicate (N.length - vs.length) none

/-- the context of a def's body, at its entry; an exception leaves the frame, then lies as CX says -/
def cxOf (CX : CXT) (P : Program) (w : World) (K : PySem.W.Frag) (mg : Str → Option Value) (base : Heap) (N : List Str) (qual : Str) (scope : Scope) (f : Addr) (cd : Value) (A : Around) (outer : List Env) (s : Shared) (H : Hp) (E : XK) : Cx where
  prog := P
  w := w
  K := K
  mg := mg
  base := base
  A := A.deeper (envOfC qual scope s.heap.objs.size f cd)
  N := N
  s₀ := s
  H₀ := H
  env := envOfC qual scope s.heap.objs.size f cd
  outer := outer
  stack := envOfC qual scope s.heap.objs.size f cd :: outer
  ex := []
  calm := true
  fn := fun _ => true
  pn := []
  xe := fun e s' => wpAny (model P w) (A.deeper (envOfC qual scope s.heap.objs.size f cd)) (leaving (envOfC qual scope s.heap.objs.size f cd) e) (fun _ s'' => CX outer H s E e s'') (fun e' s'' => CX outer H s E e' s'') s'

theorem cell_has {sc : Scope} {n : Nat} {x : Str} (h : sc.names.lookup x = some .cell) : ∃ c, (cellsFrom n sc.names []).lookup x = some c := by
  have q := PySem.W.cellsFrom_some sc.names n [] (.inl h)
  exact Option.isSome_iff_exists.mp q

theorem inv_start {CX : CXT} {P : Program} {w : World} {K : PySem.W.Frag} {mg : Str → Option Value} {base : Heap} {N ps : List Str} {qual : Str} {scope : Scope} {f : Addr} {cd : Value} {A : Around} {outer : List Env} {s s1 : Shared} {H : Hp} {E : XK} {us : List Value} {vs : List V}
    (S : FnScope N ps scope) (hd : A.handled = none) (e0 : Env0 P w K mg base A outer s H) (hl : vs.length = ps.length) (r : Vals vs us)
    (x : InCallC s s.heap.objs.size (bindL (envOfC qual scope s.heap.objs.size f cd).kindOf (ps.zip us) fun _ => none) (cellsFrom (s.heap.objs.size + 1) scope.names []) (bindC (envOfC qual scope s.heap.objs.size f cd).kindOf (ps.zip us) fun _ => none) s1) :
    Inv (cxOf CX P w K mg base N qual scope f cd A outer s H E) [] (start N vs) H s1 := by
  have hpl : ps.length ≤ N.length := by have := congrArg List.length S.pre; rw [List.length_take] at this; omega
  obtain ⟨h1, tk, rfl, hk⟩ := x.done
  have noA : ∀ b : Addr, b ∉ (cxOf CX P w K mg base N qual scope f cd A outer s H E).ex := fun b z => absurd (show b ∈ ([] : List Addr) from z) (by simp)
  refine ⟨⟨e0.mod, S.kind, rfl, rfl, Nat.le_refl _, fun y z c h1 h2 => ?_, fun y hy => ?_, fun y c _ h => ?_, fun _ => hd, Around.frames_deeper e0.frames, .inr ⟨rfl, rfl⟩, fun b z => absurd z (noA b), e0.bs, e0.bsz, fun b _ _ => noA b, fun b z => absurd z (noA b), e0.funs, e0.frf⟩,
    rfl, e0.bare, Un.kept hk, ⟨_, x.toInCall.ns, fun i y v h1 h2 h3 => ?_⟩, fun y c h => ⟨_, x.cell y c h⟩, e0.hok.fresh (Nat.le_refl _), fun y c h => ?_, fun p hp => absurd (show p ∈ ([] : List (Addr × Obj)) from hp) (by simp), e0.hok.kept hk, ?_⟩
  · exact name_of_addr x.apart (PySem.mem_of_lookup h1) (PySem.mem_of_lookup h2)
  · have hy : scope.names.lookup y = some .cell ∨ scope.names.lookup y = some .free := hy
    rcases hy with hy | hy
    · exact cell_has hy
    · exact absurd rfl (S.nofree _ (PySem.mem_of_lookup hy))
  · exact Nat.le_of_lt (x.above y c (PySem.mem_of_lookup h))
  · have hi : i < vs.length := by
      unfold start at h2
      by_cases hi : i < vs.length
      · exact hi
      · rw [List.getElem?_append_right (by simpa using hi)] at h2
        rw [List.getElem?_replicate] at h2
        split at h2 <;> cases h2
    have ha : vs[i]? = some v := by
      unfold start at h2
      rw [List.getElem?_append_left (by simpa using hi), List.getElem?_map] at h2
      cases e : vs[i]? with
      | none => rw [e] at h2; cases h2
      | some a => rw [e] at h2; cases h2; rfl
    obtain ⟨u, hu, rv⟩ := r.get ha
    have hp : ps[i]? = some y := by
      rw [← S.pre, List.getElem?_take_of_lt (by omega)]; exact h1
    have ndP : ps.Nodup := by rw [← S.pre]; exact S.nd.sublist (List.take_sublist _ _)
    refine ⟨u, rv, ?_⟩
    rcases S.par y (List.mem_of_getElem? hp) with k | k
    · exact .inl ⟨k, bindL_get ndP hp hu k⟩
    · obtain ⟨c, e⟩ := cell_has (n := s.heap.objs.size + 1) k
      refine .inr ⟨.inl k, c, e, ?_⟩
      have q := x.cell y c e
      rw [bindC_get ndP hp hu (by show scope.names.lookup y ≠ _; rw [k]; decide)] at q
      exact q
  · exact e0.hok.fresh (Nat.le_of_lt (x.above y c (PySem.mem_of_lookup h)))
  · unfold start
    show _ = N.length
    rw [List.length_append, List.length_map, List.length_replicate]
    omega

/-- THE RULE: a def (or a method) of the text, by its body. The body's reading t is chosen for each entry; it is run at the parameters' values -/
theorem fn_of {CX : CXT} {P : Program} {w : World} {K : PySem.W.Frag} {mg : Str → Option Value} {base : Heap} {k : Nat} {f : Addr} {name qual : Str} {params : Arguments} {body : List Stmt} {scope : Scope} {dV kV doc pm cdv ct oc : Value} {an od : Option Addr}
    {osl : Array (Option Value)} {N ps : List Str} {sp : Sp} (lk : K.lookup f = some ⟨oc, od, .func (PySem.W.fnOf name qual params body scope dV kV doc pm an cdv ct), osl⟩) (hcd : PySem.W.codeIn K cdv qual = true) (S : FnScope N ps scope)
    (len : ∀ vs H Q E, sp vs H Q E → vs.length = ps.length)
    (hbody : ∀ (A : Around) (outer : List Env) (s : Shared) (H : Hp) (vs : List V) (Q : VK) (E : XK), Room k (A.deeper (envOfC qual scope s.heap.objs.size f cdv)) → sp vs H Q E →
      ∃ t, PSs (cxOf CX P w K mg base N qual scope f cdv A outer s H E) body t ∧ t { nx := fun _ H' => Q .non H', rt := Q } (start N vs) H) :
    FnOk P w K mg base CX (k + 1) f (PySem.W.fnOf name qual params body scope dV kV doc pm an cdv ct) ps sp := by
  refine ⟨len, fun A outer s H args us vs Q E hr e0 hb r hsp => ?_⟩
  have hl := len _ _ _ _ hsp
  have KX : K.In s.heap := e0.mod.kin.keeps fun b o e => (e0.bs b o e).1
  have lim : s.heap.NoLimit := e0.mod.nolimit.keeps fun b o e => (e0.bs b o e).1
  have hkind : ∀ y ∈ ps.zip us, scope.names.lookup y.1 = some .local ∨ (scope.names.lookup y.1 = some .cell ∧ ((cellsFrom (s.heap.objs.size + 1) scope.names []).lookup y.1).isSome = true) := fun ⟨n, v⟩ hy => by
    rcases S.par n (List.of_mem_zip hy).1 with q | q
    · exact .inl q
    · exact .inr ⟨q, PySem.W.cellsFrom_some _ _ _ (.inl q)⟩
  refine codeAny_call_function hr.depth (KX _ _ lk) rfl S.co S.gen rfl (PySem.W.codeRec_of KX hcd) (hb _ _ _ _ ?_)
  refine wpAny_newFunctionEnv_cells S.kind hkind fun env he s1 x => ?_
  subst he
  refine ⟨lim.keeps x.toInCall.keep, codeAny_func ?_⟩
  obtain ⟨t, ht, hq⟩ := hbody A outer s H vs Q E (hr.deeper _) hsp
  have I : Inv (cxOf CX P w K mg base N qual scope f cdv A outer s H E) [] (start N vs) H s1 := inv_start S hr.hd e0 hl r x
  refine wpAny_mono (ht [] s1 (start N vs) H _ I hq) (fun fl s' hs => ?_) fun e s' hs => hs
  have fin : ∀ {σ' : St} {H' : Hp} {v : V} {u : Value}, Inv (cxOf CX P w K mg base N qual scope f cdv A outer s H E) [] σ' H' s' → RelV v u → Q v H' → CE outer P w H s Q u s' :=
    fun {σ' H' v u} J rv q => ⟨v, H', J.os, J.bare, J.base, J.hok, rv, q⟩
  cases fl with
  | ret u =>
    obtain ⟨v, σ', H', J, rv, q⟩ := hs
    exact fin J rv q
  | next =>
    obtain ⟨σ', H', J, q⟩ := hs
    exact fin (v := V.non) (u := Value.none) J rfl q
  | brk =>
    obtain ⟨_, _, _, q⟩ := hs
    exact False.elim q
  | cont =>
    obtain ⟨_, _, _, q⟩ := hs
    exact False.elim q
end L2

namespace L2
open PySem PySem.Spec PyProof.Rows
section
variable {X : Cx} {x : Str} {p pos : Pos} {e : Expr} {es : List Expr} {t : TA} {id T : String} {r : List V → Hp → VK → Prop}

def tCB (r : List V → Hp → VK → Prop) (t : TA) : TE := fun σ H Q => t σ H fun vs H1 => r vs H1 Q
/-- f(e, ..), f a built-in function -/
theorem pe_callB (hc : CallR X (.builtin id) r) (hg : Gl X x) (hm : X.mg x = none) (hv : bootBuiltins x = some (.builtin id)) (ha : PA X (e :: es) t) (hn : x ≠ "__name__" := by decide) (hdb : (x == ("__debug__" : Str)) = false := by decide)
    (he : starEach (e :: es) X.env = (false, eval e X.env) :: starEach es X.env := by rfl) (hpl : (backTo pos (starEach es X.env)).any (·.1) = false := by rfl) : PE X (.Call (.Name x p) (e :: es) [] pos) (tCB r t) := by
  intro pins s σ H Q I h
  refine wpAny_Call_Name_kw (ld_blt I hg hm hv ?_ hn hdb)
  exact PyProof.Rows.callWith_builtin1 (thn (ha pos pins s σ H _ I h) fun us s1 ⟨vs, H1, I1, r1, q1⟩ => hc pins s1 σ H1 vs us Q I1 r1 q1) he hpl
/-- T(e, ..), T a built-in type -/
theorem pe_callTy (hc : CallR X (.type T) r) (hg : Gl X x) (hm : X.mg x = none) (hv : bootBuiltins x = some (.type T)) (ha : PA X (e :: es) t) (hn : x ≠ "__name__" := by decide) (hdb : (x == ("__debug__" : Str)) = false := by decide)
    (he : starEach (e :: es) X.env = (false, eval e X.env) :: starEach es X.env := by rfl) (hpl : (backTo pos (starEach es X.env)).any (·.1) = false := by rfl) : PE X (.Call (.Name x p) (e :: es) [] pos) (tCB r t) := by
  intro pins s σ H Q I h
  refine wpAny_Call_Name_kw (ld_blt I hg hm hv ?_ hn hdb)
  exact PyProof.Rows.callWith_type1 (thn (ha pos pins s σ H _ I h) fun us s1 ⟨vs, H1, I1, r1, q1⟩ => hc pins s1 σ H1 vs us Q I1 r1 q1) he hpl
/-- T() -/
theorem pe_callTy0 (hc : CallR X (.type T) r) (hg : Gl X x) (hm : X.mg x = none) (hv : bootBuiltins x = some (.type T)) (hn : x ≠ "__name__" := by decide) (hdb : (x == ("__debug__" : Str)) = false := by decide) :
    PE X (.Call (.Name x p) [] [] pos) (tCB r tNil) := by
  intro pins s σ H Q I h
  refine wpAny_Call_Name_kw (ld_blt I hg hm hv ?_ hn hdb)
  exact PyProof.Rows.callWith_type0 (hc pins s σ H [] [] Q I .nil h)
end
end L2

namespace HT
open PySem PyProof.Rows

/-- t < u of tuples of ints -/
def lexLt : List Int → List Int → Bool
  | [], [] => false
  | [], _ :: _ => true
  | _ :: _, [] => false
  | x :: xs, y :: ys => if x = y then lexLt xs ys else decide (x < y)
theorem lexLt_cons (x y : Int) (xs ys : List Int) : lexLt (x :: xs) (y :: ys) = if x = y then lexLt xs ys else decide (x < y) := rfl
theorem lexLt_nil_nil : lexLt [] [] = false := rfl
theorem lexLt_nil_cons (y : Int) (ys : List Int) : lexLt [] (y :: ys) = true := rfl
theorem lexLt_cons_nil (x : Int) (xs : List Int) : lexLt (x :: xs) [] = false := rfl

theorem eqAt_int (A : Around) (s : Shared) (a : Int) (t : Tok) (c : Int) (u : Tok) : ∃ e, SeqAt.EqAt A s (.int a t) (.int c u) e ∧ (e = true ↔ a = c) :=
  ⟨(a == c), SeqAt.EqAt.int_int a t c u, by simp⟩
theorem rcLt_int (A : Around) (s : Shared) (a : Int) (t : Tok) (c : Int) (u : Tok) (prog : Program) (w : World) (E : Value → Shared → Prop) (Q : Value → Shared → Prop) (h : Q (.bool (decide (a < c))) s) :
    wpAny (model prog w) A (richCompare .Lt (.int a t) (.int c u)) Q E s :=
  (PyProof.Rows.lt_int h : wpAny (model prog w) A (compareOp .Lt (.int a t) (.int c u)) Q E s)

section
open PySem.SeqAt
open PySem.AutoSeq1 (wpAny_loadPart')
open PySem.MeetsSeq PySem.MeetsSeq2 PySem.MeetsSeq3

theorem tuple_lt_ints (l b : Addr) (items items2 : Array Value) (n n2 : Nat) (dd dd2 : Option Addr) (sl sl2 : Array (Option Value)) (ns ms : List Int) (hi : IntsAre items.toList ns) (hj : IntsAre items2.toList ms) :
    Meets (Builtin.«tuple.__lt__» ⟨[.ref l, .ref b], []⟩)
      (fun _ R s => s.heap.get? l = some { cls := .type "tuple", dict := dd, data := .seq items n, slots := sl } ∧ s.heap.get? b = some { cls := .type "tuple", dict := dd2, data := .seq items2 n2, slots := sl2 } ∧
        R (.ok (.ret (.bool (lexLt ns ms)))) s) :=
  .of_wp fun prog w A R s h => by
    obtain ⟨hp, g, d, tk, os⟩ := s; obtain ⟨hl, hb, h⟩ := h
    have f2 := AutoSeq1.sub_tuple_tuple
    have z1 : items.size = ns.length := by rw [← hi.length]; simp
    have z2 : items2.size = ms.length := by rw [← hj.length]; simp
    wp_walk using wpAny_loadPart' hl, wpAny_loadPart' hb, wpAny_forIn_list _ (fun rest b s' => b.1 = none ∧ s' = ⟨hp, g, d, tk, os⟩ ∧ ∃ (vs ws : List Value) (ns' ms' : List Int), rest = vs.zip ws ∧
      IntsAre vs ns' ∧ IntsAre ws ms' ∧ ns'.length + items2.size = ms'.length + items.size ∧ R (.ok (.ret (.bool (lexLt ns' ms')))) ⟨hp, g, d, tk, os⟩) _
    case turn =>
      rintro ⟨y, x⟩ rest b s' ⟨hb', rfl, vs, ws, ns', ms', hz, hvi, hwi, hlen, hR⟩
      cases hvi with
      | nil => rw [List.zip_nil_left] at hz; cases hz
      | cons a t hvi' =>
        cases hwi with
        | nil => rw [List.zip_nil_right] at hz; cases hz
        | cons c u hwi' =>
          rw [List.zip_cons_cons] at hz
          injection hz with hyx hrest
          injection hyx with hy hx
          subst hy hx
          rw [lexLt_cons] at hR
          simp only [List.length_cons] at hlen
          obtain ⟨e, he, hiff⟩ := eqAt_int A.in1 ⟨hp, g, d, tk, os⟩ a t c u
          refine wpAny_bind (he prog w _ _ ?_)
          cases e with
          | true =>
            rw [if_pos (hiff.mp rfl)] at hR
            wp_walk
            exact ⟨rfl, rfl, _, _, _, _, hrest, hvi', hwi', by omega, hR⟩
          | false =>
            rw [if_neg (fun q => absurd (hiff.mpr q) Bool.false_ne_true)] at hR
            have hri := rcLt_int A.in1 ⟨hp, g, d, tk, os⟩ a t c u prog w
            wp_walk using hri
            exact ⟨_, rfl, by simpa using hR⟩
    case fin =>
      rintro ⟨b1, b2⟩ s' ⟨hb', rfl, vs, ws, ns', ms', hz, hvi, hwi, hlen, hR⟩
      simp only at hb'
      subst hb'
      have hv : lexLt ns' ms' = decide (items.size < items2.size) := by
        cases hvi with
        | nil =>
          cases hwi with
          | nil =>
            simp only [List.length_nil] at hlen
            rw [lexLt_nil_nil]
            exact (decide_eq_false (by omega)).symm
          | cons c u hw =>
            simp only [List.length_nil, List.length_cons] at hlen
            rw [lexLt_nil_cons]
            exact (decide_eq_true (by omega)).symm
        | cons a t hv =>
          cases hwi with
          | nil =>
            simp only [List.length_nil, List.length_cons] at hlen
            rw [lexLt_cons_nil]
            exact (decide_eq_false (by omega)).symm
          | cons c u hw =>
            rw [List.zip_cons_cons] at hz
            cases hz
      rw [hv] at hR
      wp_walk
      exact ⟨_, rfl, by simpa [Builtin.Tuple.tupleCompareSizes] using hR⟩
    case h =>
      exact ⟨rfl, rfl, items.toList, items2.toList, ns, ms, rfl, hi, hj, by omega, h⟩
end

section
variable {prog : Program} {w : World} {A : Around} {E : Value → Shared → Prop} {s : Shared}

theorem lt_tupInts {l b : Addr} {items items2 : Array Value} {ns ms : List Int} {Q : Value → Shared → Prop} (hl : IsTup s.heap l items) (hb : IsTup s.heap b items2) (hi : IntsAre items.toList ns) (hj : IntsAre items2.toList ms)
    (hu : A.units < cLine) (h : Q (.bool (lexLt ns ms)) s) : wpAny (model prog w) A (compareOp .Lt (.ref l) (.ref b)) Q E s := by
  obtain ⟨⟨cls, dd, data, sl⟩, ho, hc, n, hd⟩ := id hl
  obtain ⟨⟨cls2, dd2, data2, sl2⟩, ho2, hc2, n2, hd2⟩ := id hb
  simp only at hc hd hc2 hd2
  subst hc hd hc2 hd2
  exact richCompare_meets_room (op := .Lt) ⟨_, ho, rfl⟩ ⟨_, ho2, rfl⟩ PySem.F.slot_tuple_lt PySem.F.entry_tuple_lt (PySem.F.args_tuple_lt_2 _ _) (tuple_lt_ints l b items items2 n n2 dd dd2 sl sl2 ns ms hi hj)
    ⟨ho, ho2, show Value.bool (lexLt ns ms) ≠ Value.notImplemented ∧ Q (.bool (lexLt ns ms)) s from ⟨(fun x => nomatch x), h⟩⟩ hu

/-- t + u, t not empty -/
theorem cat_tup {t b : Addr} {vs ws : List Value} {Q : Value → Shared → Prop} (ht : IsTup s.heap t vs.toArray) (hb : IsTup s.heap b ws.toArray) (hv : vs ≠ [])
    (h1 : ws = [] → Q (.ref t) s) (h2 : ws ≠ [] → Q (.ref s.heap.objs.size) { s with heap := s.heap.push { cls := .type "tuple", data := .seq (vs ++ ws).toArray } })
    (hsz : vs.length + ws.length ≤ sizeLine) : wpAny (model prog w) A (binaryOp .Add (.ref t) (.ref b)) Q E s := by
  obtain ⟨⟨cls, dd, data, sl⟩, ho, hc, n, hd⟩ := id ht
  obtain ⟨⟨cls2, dd2, data2, sl2⟩, ho2, hc2, n2, hd2⟩ := id hb
  simp only at hc hd hc2 hd2
  subst hc hd hc2 hd2
  have e : vs.toArray ++ ws.toArray = (vs ++ ws).toArray := by simp
  by_cases hw : ws = []
  · exact concat_meets ⟨_, ho, rfl⟩ ⟨_, ho2, rfl⟩ noFill_tuple_add seq_tuple_add PySem.F.slot_tuple_add PySem.F.entry_tuple_add (PySem.F.args_tuple_add_2 _ _)
      (tuple_addW1 t b vs.toArray ws.toArray n n2 dd dd2 sl sl2 (by simpa using hv) (by simp [hw])) ⟨ho, ho2, h1 hw⟩
  · refine concat_meets ⟨_, ho, rfl⟩ ⟨_, ho2, rfl⟩ noFill_tuple_add seq_tuple_add PySem.F.slot_tuple_add PySem.F.entry_tuple_add (PySem.F.args_tuple_add_2 _ _)
      (tuple_addW2 t b vs.toArray ws.toArray n n2 dd dd2 sl sl2 (by simpa using hv) (by simpa using hw) (by rw [List.size_toArray, List.size_toArray]; exact hsz)) ⟨ho, ho2, ?_⟩
    rw [e]
    exact h2 hw

/-! ### t[a:b], not the whole -/
/-- a slice's bound as a place among n (d where it is left out) -/
def sIx (n d : Nat) : Option Int → Nat
  | none => d
  | some v => if v < 0 then (v + (n : Int)).toNat else min v.toNat n
theorem sIx_none (n d : Nat) : sIx n d none = d := rfl
theorem sIx_nat (n d k : Nat) : sIx n d (some (k : Int)) = min k n := by
  show (if (k : Int) < 0 then ((k : Int) + (n : Int)).toNat else min (k : Int).toNat n) = min k n
  rw [if_neg (by omega), Int.toNat_natCast]
theorem sIx_le (n d : Nat) (hd : d ≤ n) (o : Option Int) : sIx n d o ≤ n := by
  cases o with
  | none => exact hd
  | some v =>
    show (if v < 0 then (v + (n : Int)).toNat else min v.toNat n) ≤ n
    by_cases hv : v < 0
    · rw [if_pos hv]; omega
    · rw [if_neg hv]; exact Nat.min_le_right _ _
theorem clip_eq (v : Int) (n d : Nat) : (if v < 0 then max (v + (n : Int)) 0 else min v (n : Int)) = ((sIx n d (some v) : Nat) : Int) := by
  show (if v < 0 then max (v + (n : Int)) 0 else min v (n : Int)) = (((if v < 0 then (v + (n : Int)).toNat else min v.toNat n) : Nat) : Int)
  by_cases hv : v < 0
  · simp only [if_pos hv]; omega
  · simp only [if_neg hv]; omega
theorem adjust_gen (lo hi : Option Int) (n : Nat) : Builtin.Slice.sliceAdjust lo hi 1 (n : Int) = (((sIx n 0 lo : Nat) : Int), ((sIx n n hi : Nat) : Int)) := by
  have h1 : ¬ ((1 : Int) < 0) := by omega
  unfold Builtin.Slice.sliceAdjust
  simp only [h1, if_false]
  refine Prod.ext ?_ ?_
  · cases lo with
    | none => rfl
    | some v => exact clip_eq v n 0
  · cases hi with
    | none => rfl
    | some v => exact clip_eq v n n
theorem places_gen (i j : Nat) : Builtin.Slice.slicePlaces (i : Int) (j : Int) 1 = j - i := by
  unfold Builtin.Slice.slicePlaces
  have h1 : (1 : Int) > 0 := by omega
  simp only [h1, if_true, Int.ediv_one]
  split <;> omega
theorem slicePart_ {v : Value} {o : Option Int} {Q : Option Int → Shared → Prop} (p : IsPart v o) (h : Q o s) : wpAny (model prog w) A (Builtin.Slice.slicePartIndex v) Q E s := by
  cases p with
  | none => exact slicePart_none h
  | int i t => exact slicePart_int h
theorem sliceApplied_gen {sl : Addr} {vl vu : Value} {lo hi : Option Int} {n : Nat} {Q : Int × Int × Nat → Shared → Prop} (hs : s.heap.IsSliceOf sl vl vu .none) (pl : IsPart vl lo) (pu : IsPart vu hi)
    (h : Q (((sIx n 0 lo : Nat) : Int), 1, sIx n n hi - sIx n 0 lo) s) : wpAny (model prog w) A (Builtin.Slice.sliceApplied (.ref sl) (pure (n : Int))) Q E s := by
  obtain ⟨os, hos, hcs, hds⟩ := id hs
  unfold Builtin.Slice.sliceApplied Builtin.Slice.sliceFields
  refine wpAny_bind (wpAny_bind (wpAny_field hos hds (x := vl) rfl (wpAny_bind (wpAny_field hos hds (x := vu) rfl (wpAny_bind (wpAny_field hos hds (x := .none) rfl (wpAny_pure ?_)))))))
  refine wpAny_bind (slicePart_none ?_)
  show wpAny _ _ (if ((1 : Int) == 0) = true then _ else _) _ _ s
  rw [if_neg (by decide)]
  refine wpAny_bind (slicePart_ pl (wpAny_bind (slicePart_ pu (wpAny_bind (wpAny_pure ?_)))))
  show wpAny _ _ (match Builtin.Slice.sliceAdjust lo hi 1 (n : Int) with | (lo, hi) => pure (lo, (1 : Int), Builtin.Slice.slicePlaces lo hi 1)) _ _ s
  rw [adjust_gen lo hi n]
  show wpAny _ _ (pure (((sIx n 0 lo : Nat) : Int), (1 : Int), Builtin.Slice.slicePlaces ((sIx n 0 lo : Nat) : Int) ((sIx n n hi : Nat) : Int) 1)) _ _ s
  rw [places_gen]
  exact wpAny_pure h
theorem pick_gen (xs : Array Value) (i k : Nat) : ((List.range k).filterMap fun (m : Nat) => xs[((i : Int) + (m : Int) * 1).toNat]?).toArray = ((xs.toList.drop i).take k).toArray := by
  have e : (fun (m : Nat) => xs[((i : Int) + (m : Int) * 1).toNat]?) = fun m => xs[i + m]? := by
    funext m
    have : ((i : Int) + (m : Int) * 1).toNat = i + m := by omega
    rw [this]
  rw [e]
  have := pick_run xs i k
  rw [List.filterMap_map] at this
  have e2 : ((fun x => xs[x]?) ∘ fun x => i + x) = fun m => xs[i + m]? := rfl
  rw [e2] at this
  rw [this]

theorem getItem_tuple_cut {t sl : Addr} {items : Array Value} {vl vu : Value} {lo hi : Option Int} {Q : Value → Shared → Prop} (ht : IsTup s.heap t items) (hs : s.heap.IsSliceOf sl vl vu .none) (pl : IsPart vl lo) (pu : IsPart vu hi)
    (hw : ¬ (sIx items.size 0 lo = 0 ∧ sIx items.size items.size hi = items.size))
    (h : Q (.ref s.heap.objs.size) { s with heap := s.heap.push { cls := .type "tuple", data := .seq ((items.toList.drop (sIx items.size 0 lo)).take (sIx items.size items.size hi - sIx items.size 0 lo)).toArray } })
    (hsz : items.size ≤ sizeLine) : wpAny (model prog w) A (getItem (.ref t) (.ref sl)) Q E s := by
  have htake : sizeOk (.seq ((items.toList.drop (sIx items.size 0 lo)).take (sIx items.size items.size hi - sIx items.size 0 lo)).toArray) := by
    show ((items.toList.drop (sIx items.size 0 lo)).take (sIx items.size items.size hi - sIx items.size 0 lo)).toArray.size ≤ sizeLine
    rw [List.size_toArray, List.length_take, List.length_drop, Array.length_toList]
    omega
  have hj : sIx items.size items.size hi ≤ items.size := sIx_le _ _ (Nat.le_refl _) hi
  obtain ⟨os, hos, hcs, hds⟩ := id hs
  have hTs : s.TypeIs (.ref sl) "slice" := ⟨os, hos, hcs⟩
  unfold getItem
  try with_reducible refine wpAny_holding ?_
  first | refine wpAny_bind (wpAny_pure ?_) | skip
  refine wpAny_bind (wpAny_sequenceKey ht.typeIs (by decide) ?_)
  refine wpAny_bind (wpAny_callSpecial?_slot (name := Str.ofString "__getitem__") ht.typeIs PyProof.Rows.slot_tuple_getitem
    (wpAny_call_entry PyProof.Rows.slot_tuple_getitem ht.typeIs entry_tuple_getitem ?_ (args_tuple_getitem _ _)))
  show wpAny _ _ (Builtin.Tuple.tupleItemsOf (.ref t) >>= _) _ _ s
  refine wpAny_bind (tupleItemsOf_ ht ?_)
  refine wpAny_bind (wpAny_typeOf hTs ?_)
  rw [if_pos (by decide)]
  refine wpAny_bind (sliceApplied_gen hs pl pu ?_)
  have hno : ¬ ((((sIx items.size 0 lo : Nat) : Int) == 0 && (1 : Int) == 1 && (sIx items.size items.size hi - sIx items.size 0 lo) == items.size) = true) := by
    intro q
    rw [Bool.and_eq_true, Bool.and_eq_true] at q
    have q1 : ((sIx items.size 0 lo : Nat) : Int) = 0 := eq_of_beq q.1.1
    have q2 : sIx items.size items.size hi - sIx items.size 0 lo = items.size := eq_of_beq q.2
    exact hw ⟨by omega, by omega⟩
  show wpAny _ _ (if (((sIx items.size 0 lo : Nat) : Int) == 0 && (1 : Int) == 1 && (sIx items.size items.size hi - sIx items.size 0 lo) == items.size) = true then _ else _) _ _ s
  rw [if_neg hno, pick_gen]
  first
    | exact wpAny_bind (m := Builtin.Tuple.tupleExact _) (wpAny_newObj_type (wpAny_pure ⟨_, rfl, wpAny_pure h⟩) htake)
    | exact wpAny_bind (m := Builtin.Tuple.tupleExact _) (wpAny_newObj_type (wpAny_bind (wpAny_pure (wpAny_pure ⟨_, rfl, wpAny_pure h⟩))) htake)
    | exact wpAny_bind (wpAny_bind (m := Builtin.Tuple.tupleExact _) (wpAny_newObj_type (wpAny_pure (wpAny_pure ⟨_, rfl, wpAny_pure h⟩)) htake))
    | exact wpAny_bind (wpAny_bind (m := Builtin.Tuple.tupleExact _) (wpAny_newObj_type (wpAny_pure ⟨_, rfl, wpAny_pure h⟩) htake))
end
end HT

namespace L2
open PySem PySem.Spec PyProof.Rows

/-! ### the parts of a slice -/
abbrev TO := St → Hp → (Option Int → Hp → Prop) → Prop
/-- a slice's part (left out, or an int) -/
def PO (X : Cx) (e : Option Expr) (t : TO) : Prop :=
  ∀ (pins : List (Addr × Obj)) (s : Shared) (σ : St) (H : Hp) (Q : Option Int → Hp → Prop), Inv X pins σ H s → t σ H Q →
    wpAny (model X.prog X.w) X.A (evalPart e X.env) (fun u s' => ∃ o H', Inv X pins σ H' s' ∧ IsPart u o ∧ Q o H') X.xe s
def tNoPart : TO := fun _ H Q => Q none H
def tPart (t : TE) : TO := fun σ H Q => t σ H fun x H1 => ∃ i, x = .int i ∧ Q (some i) H1

theorem intsAre_of {ns : List Int} : ∀ {us : List Value}, Vals (ns.map V.int) us → IntsAre us ns := by
  induction ns with
  | nil => intro us r; rw [List.map_nil] at r; cases r; exact .nil
  | cons n ns ih =>
    intro us r
    rw [List.map_cons] at r
    cases r with
    | cons r1 r2 =>
      obtain ⟨t, e⟩ := r1
      subst e
      exact .cons n t (ih r2)

section
variable {X : Cx} {e : Expr} {te : TE} {lo hi : Option Expr} {tl th : TO} {pos p2 : Pos}

theorem po_none : PO X none tNoPart := by
  intro pins s σ H Q I h
  rw [evalPart_none]
  exact wpAny_pure ⟨none, H, I, .none, h⟩
theorem po_some (h : PE X e te) : PO X (some e) (tPart te) := by
  intro pins s σ H Q I hw
  rw [evalPart_some]
  refine thn (h pins s σ H _ I hw) fun u s1 ⟨x, H1, I1, r1, q1⟩ => ?_
  obtain ⟨i, rfl, q⟩ := q1
  obtain ⟨t, rfl⟩ := r1
  exact ⟨some i, H1, I1, .int i t, q⟩

/-- what a slice of a value is, by values: the slice object stands at sl -/
def SlR (X : Cx) (r : V → Option Int → Option Int → Hp → VK → Prop) : Prop :=
  ∀ (pins : List (Addr × Obj)) (s : Shared) (σ : St) (H : Hp) (x : V) (v vl vu : Value) (lo hi : Option Int) (sl : Addr) (Q : VK), Inv X pins σ H s → RelV x v → s.heap.IsSliceOf sl vl vu .none → IsPart vl lo → IsPart vu hi → r x lo hi H Q →
    ∃ T id, typeLookup (.type T) "__getitem__" = pure (some (.builtin id)) ∧ s.TypeIs v T ∧ wpAny (model X.prog X.w) X.A (getItem v (.ref sl)) (EP X pins σ Q) X.xe s
theorem SlR.or {r r' : V → Option Int → Option Int → Hp → VK → Prop} (h : SlR X r) (h' : SlR X r') : SlR X (fun x lo hi H Q => r x lo hi H Q ∨ r' x lo hi H Q) := by
  intro pins s σ H x v vl vu lo hi sl Q I rx hs pl pu q
  rcases q with q | q
  · exact h pins s σ H x v vl vu lo hi sl Q I rx hs pl pu q
  · exact h' pins s σ H x v vl vu lo hi sl Q I rx hs pl pu q
def tSl (r : V → Option Int → Option Int → Hp → VK → Prop) (te : TE) (tl th : TO) : TE := fun σ H Q => te σ H fun x H1 => tl σ H1 fun l H2 => th σ H2 fun u H3 => r x l u H3 Q
/-- a[lo:hi], any a -/
theorem pe_slice {r : V → Option Int → Option Int → Hp → VK → Prop} (hr : SlR X r) (he : PE X e te) (hl : PO X lo tl) (hu : PO X hi th) : PE X (.Subscript e (.Slice lo hi none p2) pos) (tSl r te tl th) := by
  intro pins s σ H Q I h
  refine Subscript_ (thn (he pins s σ H _ I h) fun v s1 ⟨x, H1, I1, r1, q1⟩ => ?_)
  refine wpAny_Slice (thn (hl pins s1 σ H1 _ I1 q1) fun vl s2 ⟨l, H2, I2, pl, q2⟩ => thn (hu pins s2 σ H2 _ I2 q2) fun vu s3 ⟨u, H3, I3, pu, q3⟩ => ?_)
  rw [evalPart_none]
  refine wpAny_pure ?_
  have I4 : Inv X pins σ H3 { s3 with heap := s3.heap.push { cls := .type "slice", data := .fields #[vl, vu, .none] } } := I3.kept (t' := s3.toks) fun b ob q => Heap.get?_push_of_some _ q
  obtain ⟨T, id, hT, ht, hg⟩ := hr pins { s3 with heap := s3.heap.push { cls := .type "slice", data := .fields #[vl, vu, .none] } } σ H3 x v vl vu l u s3.heap.objs.size Q I4 r1 (Heap.IsSliceOf.new ..) pl pu q3
  show wpAny (model X.prog X.w) X.A (subscriptTail e (.Slice lo hi none p2) v (.ref s3.heap.objs.size)) (EP X pins σ Q) X.xe { s3 with heap := s3.heap.push { cls := .type "slice", data := .fields #[vl, vu, .none] } }
  exact tail_any (ops := [.ref s3.heap.objs.size, v]) ht hT hg (by with_unfolding_all rfl)

/-- the items of xs[lo:hi] -/
def cutV (xs : List V) (lo hi : Option Int) : List V := (xs.drop (HT.sIx xs.length 0 lo)).take (HT.sIx xs.length xs.length hi - HT.sIx xs.length 0 lo)
theorem cutV_length (xs : List V) (lo hi : Option Int) : (cutV xs lo hi).length ≤ xs.length := by
  unfold cutV
  rw [List.length_take, List.length_drop]
  omega
/-- t[lo:hi], not the whole of it (the whole would be t itself) -/
def rSlT (K : PySem.W.Frag) : V → Option Int → Option Int → Hp → VK → Prop := fun x lo hi H Q => ∃ a xs, x = .ref a ∧ SqT K H a xs ∧
  ¬ (HT.sIx xs.length 0 lo = 0 ∧ HT.sIx xs.length xs.length hi = xs.length) ∧ ∀ p, H p = none → Q (.ref p) (upd H p (.tup (cutV xs lo hi)))
theorem sl_tup : SlR X (rSlT X.K) := by
  intro pins s σ H x v vl vu lo hi sl Q I rx hs pl pu h
  obtain ⟨a, xs, rfl, hx, hw, q⟩ := h
  cases rx
  obtain ⟨its, r, ht, hz⟩ := I.tuple hx
  have hlen : its.toArray.size = xs.length := by rw [List.size_toArray]; exact r.length.symm
  refine ⟨"tuple", _, PyProof.Rows.slot_tuple_getitem.lookup, ht.typeIs, ?_⟩
  refine HT.getItem_tuple_cut ht hs pl pu (by rw [hlen]; exact hw) ?_ (by rw [hlen]; exact hz)
  rw [hlen]
  refine ⟨.ref s.heap.objs.size, _, I.laid (t' := s.toks) (o := .tup (cutV xs lo hi)) (fun b ob q => Heap.get?_push_of_some _ q) (Nat.le_refl _) ?_, rfl, q _ (I.hok.fresh (Nat.le_refl _))⟩
  exact ⟨Nat.le_trans (cutV_length xs lo hi) hz, _, (r.drop (HT.sIx xs.length 0 lo)).take (HT.sIx xs.length xs.length hi - HT.sIx xs.length 0 lo), IsTup.new _ _⟩

/-! ### t < u, t + u -/
def rLtT (K : PySem.W.Frag) : R2 := fun x y H Q => ∃ a b ns ms, x = .ref a ∧ y = .ref b ∧ SqT K H a (ns.map V.int) ∧ SqT K H b (ms.map V.int) ∧ Q (.bl (HT.lexLt ns ms)) H
theorem op_ltT (hu : X.A.units < cLine) : OpR X (compareOp .Lt) (rLtT X.K) := by
  intro pins s σ H x y v u Q I rx ry h
  obtain ⟨a, b, ns, ms, rfl, rfl, ha, hb, q⟩ := h
  cases rx
  cases ry
  obtain ⟨its, r1, p1, _⟩ := I.tuple ha
  obtain ⟨its2, r2, p2, _⟩ := I.tuple hb
  have i1 : IntsAre its.toArray.toList ns := intsAre_of r1
  have i2 : IntsAre its2.toArray.toList ms := intsAre_of r2
  exact HT.lt_tupInts p1 p2 i1 i2 hu ⟨.bl (HT.lexLt ns ms), H, I, rfl, q⟩
/-- t + u, t not empty: u empty gives t itself -/
def rCatT (K : PySem.W.Frag) : R2 := fun x y H Q => ∃ a b xs ys, x = .ref a ∧ y = .ref b ∧ SqT K H a xs ∧ SqT K H b ys ∧ xs ≠ [] ∧ xs.length + ys.length ≤ sizeLine ∧
  (ys = [] → Q (.ref a) H) ∧ (ys ≠ [] → ∀ p, H p = none → Q (.ref p) (upd H p (.tup (xs ++ ys))))
theorem Vals.nil_iff {xs : List V} {us : List Value} (r : Vals xs us) : us = [] ↔ xs = [] := by
  cases r with
  | nil => simp
  | cons _ _ => simp
theorem op_catT : OpR X (binaryOp .Add) (rCatT X.K) := by
  intro pins s σ H x y v u Q I rx ry h
  obtain ⟨a, b, xs, ys, rfl, rfl, ha, hb, hx, hz, q1, q2⟩ := h
  cases rx
  cases ry
  obtain ⟨its, r1, p1, _⟩ := I.tuple ha
  obtain ⟨its2, r2, p2, _⟩ := I.tuple hb
  refine HT.cat_tup p1 p2 (fun z => hx (r1.nil_iff.mp z)) (fun z => ⟨.ref a, H, I, rfl, q1 (r2.nil_iff.mp z)⟩) (fun z => ?_) (by rw [← r1.length, ← r2.length]; exact hz)
  refine ⟨.ref s.heap.objs.size, _, I.laid (t' := s.toks) (o := .tup (xs ++ ys)) (fun b ob q => Heap.get?_push_of_some _ q) (Nat.le_refl _) ?_, rfl, q2 (fun w => z (r2.nil_iff.mpr w)) _ (I.hok.fresh (Nat.le_refl _))⟩
  exact ⟨by rw [List.length_append]; exact hz, _, r1.append r2, IsTup.new _ _⟩
/-- tuple(t) -/
theorem call_tupleT : CallR X (.type "tuple") (fun xs H Q => ∃ a ys, xs = [.ref a] ∧ SqT X.K H a ys ∧ Q (.ref a) H) := by
  intro pins s σ H xs us Q I r h
  obtain ⟨a, ys, rfl, ha, q⟩ := h
  obtain ⟨u, rfl, ru⟩ := vals1 r
  cases ru
  obtain ⟨its, _, p1, _⟩ := I.tuple ha
  exact call_tuple_same (items := its.toArray) p1 ⟨.ref a, H, I, rfl, q⟩
end
end L2

namespace L2
open PySem PySem.Spec PyProof.Rows

/-! ### places -/
/-- the place that an index of any sign means -/
def ixN (n : Nat) (i : Int) : Option Nat := if 0 ≤ i then (if i < n then some i.toNat else none) else if -(n : Int) ≤ i then some (i + n).toNat else none
def atI {α : Type} (xs : List α) (i : Int) : Option α := (ixN xs.length i).bind fun j => xs[j]?
theorem ixN_seq {n : Nat} {i : Int} {j : Nat} (h : ixN n i = some j) : seqIndex? i n = some j ∧ j < n ∧ -(n : Int) ≤ i ∧ i < n := by
  unfold ixN at h
  by_cases h0 : 0 ≤ i
  · rw [if_pos h0] at h
    by_cases h1 : i < n
    · rw [if_pos h1] at h
      have e : i.toNat = j := Option.some.inj h
      exact ⟨by rw [seqIndex_of h0 h1, e], by omega, by omega, h1⟩
    · rw [if_neg h1] at h; cases h
  · rw [if_neg h0] at h
    by_cases h1 : -(n : Int) ≤ i
    · rw [if_pos h1] at h
      have e : (i + n).toNat = j := Option.some.inj h
      exact ⟨by rw [seqIndex_neg (by omega) h1, e], by omega, h1, by omega⟩
    · rw [if_neg h1] at h; cases h
theorem atI_get {α : Type} {xs : List α} {i : Int} {v : α} (h : atI xs i = some v) : ∃ j, seqIndex? i xs.length = some j ∧ xs[j]? = some v ∧ j < xs.length ∧ -(xs.length : Int) ≤ i ∧ i < xs.length := by
  unfold atI at h
  cases e : ixN xs.length i with
  | none => rw [e] at h; cases h
  | some j =>
    rw [e] at h
    obtain ⟨h1, h2, h3, h4⟩ := ixN_seq e
    exact ⟨j, h1, h, h2, h3, h4⟩
theorem atI_nat {α : Type} {xs : List α} {j : Nat} {v : α} (h : xs[j]? = some v) : atI xs (j : Int) = some v := by
  have hj : j < xs.length := (List.getElem?_eq_some_iff.mp h).1
  have e : ixN xs.length (j : Int) = some j := by
    unfold ixN
    rw [if_pos (by omega), if_pos (by omega)]; simp
  unfold atI; rw [e]; exact h
theorem atI_last {α : Type} (xs : List α) (v : α) : atI (xs ++ [v]) (-1) = some v := by
  have hl : (xs ++ [v]).length = xs.length + 1 := by simp
  have e : ixN (xs ++ [v]).length (-1) = some xs.length := by
    unfold ixN
    rw [hl, if_neg (by decide), if_pos (by omega)]
    congr 1
    omega
  unfold atI
  rw [e]
  show (xs ++ [v])[xs.length]? = some v
  simp

/-! ### what may be subscripted -/
/-- what stands as an index of a plain subscript -/
def PlainIx (b : Expr) : Prop := ∀ o i, subscripted b false o i = operate [o, i] (getItem o i)
/-- a subscript by values -/
def IxR (X : Cx) (r : R2) : Prop :=
  ∀ (value slice : Expr) (pins : List (Addr × Obj)) (s : Shared) (σ : St) (H : Hp) (x y : V) (v u : Value) (Q : VK), Inv X pins σ H s → RelV x v → RelV y u → r x y H Q →
    subscripted slice false v u = operate [v, u] (getItem v u) → wpAny (model X.prog X.w) X.A (subscriptTail value slice v u) (EP X pins σ Q) X.xe s
/-- a call of a builtin's method by values: the receiver, the arguments -/
def MtR (X : Cx) (id : String) (r : V → List V → Hp → VK → Prop) : Prop :=
  ∀ (pins : List (Addr × Obj)) (s : Shared) (σ : St) (H : Hp) (x : V) (xs : List V) (v : Value) (us : List Value) (Q : VK), Inv X pins σ H s → RelV x v → Vals xs us → r x xs H Q →
    wpAny (model X.prog X.w) X.A (call (.builtin id) (v :: us)) (EP X pins σ Q) X.xe s
section
variable {X : Cx} {a b : Expr} {ta tb : TE} {pos : Pos}
theorem IxR.or {r r' : R2} (h : IxR X r) (h' : IxR X r') : IxR X (fun x y H Q => r x y H Q ∨ r' x y H Q) := by
  intro value slice pins s σ H x y v u Q I rx ry q hs
  rcases q with q | q
  · exact h value slice pins s σ H x y v u Q I rx ry q hs
  · exact h' value slice pins s σ H x y v u Q I rx ry q hs
theorem MtR.or {id : String} {r r' : V → List V → Hp → VK → Prop} (h : MtR X id r) (h' : MtR X id r') : MtR X id (fun x xs H Q => r x xs H Q ∨ r' x xs H Q) := by
  intro pins s σ H x xs v us Q I rx rs q
  rcases q with q | q
  · exact h pins s σ H x xs v us Q I rx rs q
  · exact h' pins s σ H x xs v us Q I rx rs q
/-- a[b] -/
theorem pe_ix {r : R2} (hr : IxR X r) (ha : PE X a ta) (hb : PE X b tb) (hs : PlainIx b) : PE X (.Subscript a b pos) (tOp r ta tb) := by
  intro pins s σ H Q I h
  exact Subscript_ (binT ha hb I h fun v u s2 x y H2 I2 rx ry q => hr a b pins s2 σ H2 x y v u Q I2 rx ry q (hs _ _))

def rIxL (K : PySem.W.Frag) : R2 := fun x y H Q => ∃ p xs i v, x = .ref p ∧ y = .int i ∧ SqL K H p xs ∧ atI xs i = some v ∧ Q v H
def rIxT (K : PySem.W.Frag) : R2 := fun x y H Q => ∃ p xs i v, x = .ref p ∧ y = .int i ∧ SqT K H p xs ∧ atI xs i = some v ∧ Q v H
def rIxS : R2 := fun x y H Q => ∃ z i c, x = .str z ∧ y = .int i ∧ z.length ≤ sizeLine ∧ atI z.cps.toList i = some c ∧ Q (.str ⟨#[c]⟩) H
theorem ix_list : IxR X (rIxL X.K) := by
  intro value slice pins s σ H x y v u Q I rx ry h hs
  obtain ⟨p, xs, i, z, rfl, rfl, hq, he, q⟩ := h
  cases rx
  obtain ⟨t, rfl⟩ := ry
  obtain ⟨its, r, pl, hz⟩ := I.list hq
  obtain ⟨j, h1, h2, h3, h4, h5⟩ := atI_get he
  obtain ⟨w, ew, rw'⟩ := r.get h2
  have hl := r.length
  have hn := line63
  have fin : EP X pins σ Q w s := ⟨z, H, I, rw', q⟩
  by_cases h0 : 0 ≤ i
  · have hj : i.toNat = j := by
      rw [seqIndex_of h0 h5] at h1
      exact Option.some.inj h1
    exact item_listR pl.isList h0 (by omega) (by rw [hj]; simpa using ew) fin hs
  · have hj : (i + (its.toArray.size : Int)).toNat = j := by
      rw [seqIndex_neg (by omega) h4] at h1
      rw [List.size_toArray, ← hl]
      exact Option.some.inj h1
    exact subscriptTail_builtinR (x := w) pl.isList.typeIs slot_list_getitem.lookup
      (wpAny_getItem_list_neg (Q := fun r s' => r = w ∧ EP X pins σ Q r s') pl.isList (by omega) (by rw [List.size_toArray] <;> omega) (by omega) (by rw [hj]; simpa using ew) ⟨rfl, fin⟩) hs
theorem ix_tup : IxR X (rIxT X.K) := by
  intro value slice pins s σ H x y v u Q I rx ry h hs
  obtain ⟨p, xs, i, z, rfl, rfl, hq, he, q⟩ := h
  cases rx
  obtain ⟨t, rfl⟩ := ry
  obtain ⟨its, r, pl, hz⟩ := I.tuple hq
  obtain ⟨j, h1, h2, h3, h4, h5⟩ := atI_get he
  obtain ⟨w, ew, rw'⟩ := r.get h2
  have hl := r.length
  have hn := line63
  have fin : EP X pins σ Q w s := ⟨z, H, I, rw', q⟩
  exact subscriptTail_builtinR (x := w) pl.typeIs slot_tuple_getitem.lookup
    (getItem_tuple (j := j) (Q := fun r s' => r = w ∧ EP X pins σ Q r s') pl (by omega) (by omega) (by rw [List.size_toArray, ← hl]; exact h1) (by simpa using ew) ⟨rfl, fin⟩) hs
theorem ix_str : IxR X rIxS := by
  intro value slice pins s σ H x y v u Q I rx ry h hs
  obtain ⟨z, i, c, rfl, rfl, hz, he, q⟩ := h
  obtain ⟨t, rfl⟩ := rx
  obtain ⟨t', rfl⟩ := ry
  obtain ⟨j, h1, h2, h3, h4, h5⟩ := atI_get he
  have hl : z.cps.toList.length = z.length := by simp [Str.length]
  rw [hl] at h1 h4 h5
  have hn := line63
  exact tail_any (typeIs_str s z t) slot_str_getitem.lookup (getItem_str (c := c) (by
    have e1 : decide (i < -(2 ^ 63 : Int)) = false := decide_eq_false (by omega)
    have e2 : decide (i ≥ 2 ^ 63) = false := decide_eq_false (by omega)
    rw [e1, e2, Bool.or_false]) (by rw [h1]; simpa using h2) ⟨.str ⟨#[c]⟩, H, I.tok _, ⟨_, rfl⟩, q⟩) hs
/-- list, tuple or str -/
def rIx (K : PySem.W.Frag) : R2 := fun x y H Q => rIxL K x y H Q ∨ rIxT K x y H Q ∨ rIxS x y H Q
theorem ix_seq : IxR X (rIx X.K) := ix_list.or (ix_tup.or ix_str)

/-! ### xs[i] = v, any sign -/
/-- the list's object behind a store -/
theorem mapSeq_set (its : List Value) (n j : Nat) (u : Value) : Obj.mapSeq (·.setIfInBounds j u) { cls := .type "list", data := .seq its.toArray n } = { cls := .type "list", data := .seq (its.set j u).toArray n } := by
  simp [Obj.mapSeq]
theorem Inv.lst {pins : List (Addr × Obj)} {σ : St} {H : Hp} {s : Shared} {p : Addr} {xs : List V} (I : Inv X pins σ H s) (h : H p = some (.lst xs)) :
    ∃ (its : List Value) (n : Nat), Vals xs its ∧ s.heap.get? p = some { cls := .type "list", data := .seq its.toArray n } ∧ xs.length ≤ sizeLine := by
  obtain ⟨z, its, n, r, e⟩ := I.hok p _ h
  exact ⟨its, n, r, e, z⟩
/-- the list at p is written by an update of its object -/
theorem Inv.lstUpd {pins : List (Addr × Obj)} {σ : St} {H : Hp} {s : Shared} {p : Addr} {xs ys : List V} {its its' : List Value} {n n' : Nat} {f : Obj → Obj} (I : Inv X pins σ H s) (h : H p = some (.lst xs))
    (ho : s.heap.get? p = some { cls := .type "list", data := .seq its.toArray n }) (hf : f { cls := .type "list", data := .seq its.toArray n } = { cls := .type "list", data := .seq its'.toArray n' }) (r : Vals ys its') (hz : ys.length ≤ sizeLine) (t : Nat) :
    Inv X pins σ (upd H p (.lst ys)) { s with heap := s.heap.update p f, toks := t } := by
  have e : (s.heap.update p f).get? p = some { cls := .type "list", data := .seq its'.toArray n' } := by
    rw [Heap.get?_update_self f ho (by rw [hf] <;> rfl), hf]
  refine I.write (x := p) (e := p) (by rw [h]; trivial) (.inl rfl) (fun b u hb q => (Heap.get?_update_other _ _ (Ne.symm hb)).trans q) ⟨_, e⟩ ?_
  exact ⟨hz, its', n', r, e⟩
def rSetL : V → V → V → Hp → (Hp → Prop) → Prop := fun o i v H Q => ∃ p xs k j, o = .ref p ∧ i = .int k ∧ H p = some (.lst xs) ∧ ixN xs.length k = some j ∧ Q (upd H p (.lst (xs.set j v)))
theorem set_list : PSet X rSetL := by
  intro pins s σ H o i v ov iv u Q I ro ri rv h
  obtain ⟨p, xs, k, j, rfl, rfl, hp, hj, q⟩ := h
  cases ro
  obtain ⟨t, rfl⟩ := ri
  obtain ⟨its, n, r, ho, hz⟩ := I.lst hp
  obtain ⟨h1, h2, h3, h4⟩ := ixN_seq hj
  have hl := r.length
  have hn := line63
  have I' : Inv X pins σ (upd H p (.lst (xs.set j v))) { s with heap := s.heap.update p (Obj.mapSeq (·.setIfInBounds j u)) } :=
    I.lstUpd hp ho (mapSeq_set its n j u) (r.set rv j) (by rw [List.length_set]; exact hz) s.toks
  by_cases h0 : 0 ≤ k
  · have hk : k.toNat = j := by
      rw [seqIndex_of h0 h4] at h1
      exact Option.some.inj h1
    exact PySem.W.ki_setAt ho h0 (by omega) (by rw [List.size_toArray, ← hl]; exact h4) (by rw [hk]; exact ⟨_, I', q⟩)
  · have hk : (k + (its.toArray.size : Int)).toNat = j := by
      rw [seqIndex_neg (by omega) h3] at h1
      rw [List.size_toArray, ← hl]
      exact Option.some.inj h1
    exact PySem.W.ki_setBack ho (by omega) (by rw [List.size_toArray, ← hl]; exact h3) (by omega) (by rw [hk]; exact ⟨_, I', q⟩)

/-! ### slices -/
theorem slice_bounds (lo hi : Option Int) (n : Nat) : (sliceBounds lo hi none n).1 = ((HT.sIx n 0 lo : Nat) : Int) ∧ (sliceBounds lo hi none n).2.1 = ((HT.sIx n n hi : Nat) : Int) ∧ (sliceBounds lo hi none n).2.2 = 1 := by
  refine ⟨?_, ?_, rfl⟩
  · cases lo with
    | none => simp [sliceBounds, HT.sIx]
    | some i =>
      simp only [sliceBounds, HT.sIx, Option.getD_none, show (1 : Int) > 0 by decide, if_true]
      by_cases h : i < 0
      · simp only [h, if_true] <;> omega
      · simp only [h, if_false] <;> omega
  · cases hi with
    | none => simp [sliceBounds, HT.sIx]
    | some i =>
      simp only [sliceBounds, HT.sIx, Option.getD_none, show (1 : Int) > 0 by decide, if_true]
      by_cases h : i < 0
      · simp only [h, if_true] <;> omega
      · simp only [h, if_false] <;> omega
theorem slicePick_cut (its : List Value) (lo hi : Option Int) : slicePick its.toArray lo hi none = ((its.drop (HT.sIx its.length 0 lo)).take (HT.sIx its.length its.length hi - HT.sIx its.length 0 lo)).toArray := by
  obtain ⟨h1, h2, h3⟩ := slice_bounds lo hi its.toArray.size
  unfold slicePick
  rw [h1, h2, h3]
  simp only [sliceRange_one, pick_run, List.size_toArray] <;> rfl
/-- xs[lo:hi] of a list: a new list -/
def rSlL (K : PySem.W.Frag) : V → Option Int → Option Int → Hp → VK → Prop := fun x lo hi H Q => ∃ a xs, x = .ref a ∧ SqL K H a xs ∧ ∀ p, H p = none → Q (.ref p) (upd H p (.lst (cutV xs lo hi)))
theorem sl_list : SlR X (rSlL X.K) := by
  intro pins s σ H x v vl vu lo hi sl Q I rx hs pl pu h
  obtain ⟨a, xs, rfl, hx, q⟩ := h
  cases rx
  obtain ⟨its, r, ht, hz⟩ := I.list hx
  have hlen := r.length
  refine ⟨"list", _, slot_list_getitem.lookup, ht.isList.typeIs, ?_⟩
  refine wpAny_getItem_list_slice ht.isList hs pl pu .none (by simp) ?_ (by rw [List.size_toArray] <;> omega)
  rw [slicePick_cut, ← hlen]
  refine ⟨.ref s.heap.objs.size, _, I.laid (t' := s.toks) (o := .lst (cutV xs lo hi)) (fun b ob q => Heap.get?_push_of_some _ q) (Nat.le_refl _) ?_, rfl, q _ (I.hok.fresh (Nat.le_refl _))⟩
  exact ⟨Nat.le_trans (cutV_length xs lo hi) hz, _, 0, (r.drop (HT.sIx xs.length 0 lo)).take (HT.sIx xs.length xs.length hi - HT.sIx xs.length 0 lo), Heap.get?_push_size _ rfl⟩

/-! ### in, not in: flat items -/
def flatV : V → Bool
  | .non => true
  | .bl _ => true
  | .int _ => true
  | .str _ => true
  | _ => false
/-- == of flat values -/
def eqV : V → V → Bool
  | .non, .non => true
  | .bl a, .bl b => a == b
  | .bl a, .int b => (if a then 1 else 0) == b
  | .int a, .bl b => a == (if b then 1 else 0)
  | .int a, .int b => a == b
  | .str a, .str b => a == b
  | _, _ => false
theorem eqAt_V {A : Around} {s : Shared} {y x : V} {u v : Value} (ry : RelV y u) (rx : RelV x v) (fy : flatV y = true) (fx : flatV x = true) : SeqAt.EqAt A s u v (eqV y x) := by
  cases y with
  | non =>
    cases ry
    cases x with
    | non => cases rx; exact SeqAt.EqAt.same _
    | bl b => cases rx; exact SeqAt.EqAt.none_bool b
    | int b => obtain ⟨t, rfl⟩ := rx; exact SeqAt.EqAt.none_int b t
    | str b => obtain ⟨t, rfl⟩ := rx; exact SeqAt.EqAt.none_str b t
    | _ => exact absurd (show false = true from fx) Bool.false_ne_true
  | bl a =>
    cases ry
    cases x with
    | non => cases rx; exact SeqAt.EqAt.bool_none a
    | bl b => cases rx; exact SeqAt.EqAt.bool_bool a b
    | int b => obtain ⟨t, rfl⟩ := rx; exact SeqAt.EqAt.bool_int a b t
    | str b => obtain ⟨t, rfl⟩ := rx; exact SeqAt.EqAt.bool_str a b t
    | _ => exact absurd (show false = true from fx) Bool.false_ne_true
  | int a =>
    obtain ⟨t', rfl⟩ := ry
    cases x with
    | non => cases rx; exact SeqAt.EqAt.int_none a t'
    | bl b => cases rx; exact SeqAt.EqAt.int_bool a t' b
    | int b => obtain ⟨t, rfl⟩ := rx; exact SeqAt.EqAt.int_int a t' b t
    | str b => obtain ⟨t, rfl⟩ := rx; exact SeqAt.EqAt.int_str a t' b t
    | _ => exact absurd (show false = true from fx) Bool.false_ne_true
  | str a =>
    obtain ⟨t', rfl⟩ := ry
    cases x with
    | non => cases rx; exact SeqAt.EqAt.str_none a t'
    | bl b => cases rx; exact SeqAt.EqAt.str_bool a t' b
    | int b => obtain ⟨t, rfl⟩ := rx; exact SeqAt.EqAt.str_int a t' b t
    | str b => obtain ⟨t, rfl⟩ := rx; exact SeqAt.EqAt.str_str a t' b t
    | _ => exact absurd (show false = true from fx) Bool.false_ne_true
  | _ => exact absurd (show false = true from fy) Bool.false_ne_true
/-- the items' answers, read off the values (a value's own answer does not lean on its token) -/
def eqU (x : V) (u : Value) : Bool := match u with
  | .none => eqV .non x
  | .bool b => eqV (.bl b) x
  | .int i _ => eqV (.int i) x
  | .str z _ => eqV (.str z) x
  | _ => false
theorem eqU_of {x y : V} {u : Value} (r : RelV y u) (f : flatV y = true) : eqU x u = eqV y x := by
  cases y with
  | non => cases r; rfl
  | bl b => cases r; rfl
  | int i => obtain ⟨t, rfl⟩ := r; rfl
  | str z => obtain ⟨t, rfl⟩ := r; rfl
  | _ => exact absurd (show false = true from f) Bool.false_ne_true
theorem any_eqU {x : V} : ∀ {xs : List V} {us : List Value}, Vals xs us → xs.all flatV = true → us.any (eqU x) = xs.any fun y => eqV y x
  | _, _, .nil, _ => rfl
  | y :: xs, u :: us, .cons r t, f => by
    rw [List.all_cons, Bool.and_eq_true] at f
    rw [List.any_cons, List.any_cons, eqU_of r f.1, any_eqU t f.2]
theorem mem_eqAt {A : Around} {s : Shared} {x : V} {v : Value} (rx : RelV x v) (fx : flatV x = true) : ∀ {xs : List V} {us : List Value}, Vals xs us → xs.all flatV = true → ∀ u ∈ us, SeqAt.EqAt A s u v (eqU x u)
  | _, _, .nil, _ => fun u hu => by cases hu
  | y :: xs, u :: us, .cons r t, f => fun u' hu => by
    rw [List.all_cons, Bool.and_eq_true] at f
    rcases List.mem_cons.mp hu with rfl | hu
    · rw [eqU_of r f.1]; exact eqAt_V r rx f.1 fx
    · exact mem_eqAt rx fx t f.2 u' hu
def inV (x : V) (xs : List V) : Bool := xs.any fun y => eqV y x
/-- x in a list or tuple of flat items -/
def rIn (K : PySem.W.Frag) (neg : Bool) : R2 := fun x y H Q => ∃ p xs, y = .ref p ∧ (SqL K H p xs ∨ SqT K H p xs) ∧ flatV x = true ∧ xs.all flatV = true ∧ Q (.bl (if neg then !inV x xs else inV x xs)) H
theorem op_in_seq : OpR X (compareOp .In) (rIn X.K false) := by
  intro pins s σ H x y v u Q I rx ry h
  obtain ⟨p, xs, rfl, hq, fx, fs, q⟩ := h
  cases ry
  rcases hq with hq | hq
  · obtain ⟨its, r, pl, hz⟩ := I.list hq
    refine SeqAt.in_listAt (eqU x) pl.isList (fun w hw => mem_eqAt rx fx r fs w (by simpa using hw)) ⟨.bl _, H, I, rfl, ?_⟩
    rw [show its.toArray.any (eqU x) = its.any (eqU x) by simp, any_eqU r fs]
    exact q
  · obtain ⟨its, r, pl, hz⟩ := I.tuple hq
    refine SeqAt.in_tupleAt (eqU x) pl (fun w hw => mem_eqAt rx fx r fs w (by simpa using hw)) ⟨.bl _, H, I, rfl, ?_⟩
    rw [show its.toArray.any (eqU x) = its.any (eqU x) by simp, any_eqU r fs]
    exact q
theorem op_notIn_seq : OpR X (compareOp .NotIn) (rIn X.K true) := by
  intro pins s σ H x y v u Q I rx ry h
  obtain ⟨p, xs, rfl, hq, fx, fs, q⟩ := h
  cases ry
  rcases hq with hq | hq
  · obtain ⟨its, r, pl, hz⟩ := I.list hq
    refine SeqAt.notIn_listAt (eqU x) pl.isList (fun w hw => mem_eqAt rx fx r fs w (by simpa using hw)) ⟨.bl _, H, I, rfl, ?_⟩
    rw [show its.toArray.any (eqU x) = its.any (eqU x) by simp, any_eqU r fs]
    exact q
  · obtain ⟨its, r, pl, hz⟩ := I.tuple hq
    refine SeqAt.notIn_tupleAt (eqU x) pl (fun w hw => mem_eqAt rx fx r fs w (by simpa using hw)) ⟨.bl _, H, I, rfl, ?_⟩
    rw [show its.toArray.any (eqU x) = its.any (eqU x) by simp, any_eqU r fs]
    exact q
theorem op_notIn_str : OpR X (compareOp .NotIn) (fun x y H Q => ∃ i j, x = .str i ∧ y = .str j ∧ Q (.bl (!(!(Builtin.Str.occurrences j i 0 j.length 1).isEmpty))) H) := by
  intro pins s σ H x y v u Q I rx ry h
  obtain ⟨i, j, rfl, rfl, q⟩ := h
  obtain ⟨t, rfl⟩ := rx
  obtain ⟨t', rfl⟩ := ry
  exact notIn_str ⟨.bl _, H, I, rfl, q⟩

/-! ### len, list(x), tuple(x) of any list or tuple that is read -/
theorem call_len_seq : CallR X (.builtin "len") (fun xs H Q => ∃ p ys, xs = [.ref p] ∧ (SqL X.K H p ys ∨ SqT X.K H p ys) ∧ Q (.int ys.length) H) := by
  intro pins s σ H xs us Q I r h
  obtain ⟨p, ys, rfl, hq, q⟩ := h
  obtain ⟨u, rfl, rx⟩ := vals1 r
  cases rx
  have hn := line63
  rcases hq with hq | hq
  · obtain ⟨its, r', pl, hz⟩ := I.list hq
    have hlen := r'.length
    exact Calls.call_len_list pl.isList (by simp only [List.size_toArray] <;> omega) ⟨.int ys.length, H, I.tok _, ⟨s.toks + 1, by rw [List.size_toArray, hlen]⟩, q⟩
  · obtain ⟨its, r', pl, hz⟩ := I.tuple hq
    have hlen := r'.length
    exact len_tuple pl (by simp only [List.size_toArray] <;> omega) ⟨.int ys.length, H, I.tok _, ⟨s.toks + 1, by rw [List.size_toArray, hlen]⟩, q⟩
theorem call_len_str : CallR X (.builtin "len") (fun xs H Q => ∃ z, xs = [.str z] ∧ z.length ≤ sizeLine ∧ Q (.int z.length) H) := by
  intro pins s σ H xs us Q I r h
  obtain ⟨z, rfl, hz, q⟩ := h
  obtain ⟨u, rfl, t, rfl⟩ := vals1 r
  have hn := line63
  exact len_str (by omega) ⟨.int z.length, H, I.tok _, ⟨_, rfl⟩, q⟩
theorem CallR.or {f : Value} {r r' : List V → Hp → VK → Prop} (h : CallR X f r) (h' : CallR X f r') : CallR X f (fun xs H Q => r xs H Q ∨ r' xs H Q) := by
  intro pins s σ H xs us Q I rs q
  rcases q with q | q
  · exact h pins s σ H xs us Q I rs q
  · exact h' pins s σ H xs us Q I rs q
theorem call_list_of : CallR X (.type "list") (fun xs H Q => ∃ p ys, xs = [.ref p] ∧ (SqL X.K H p ys ∨ SqT X.K H p ys) ∧ ∀ l, H l = none → Q (.ref l) (upd H l (.lst ys))) := by
  intro pins s σ H xs us Q I r h
  obtain ⟨p, ys, rfl, hq, q⟩ := h
  obtain ⟨u, rfl, rx⟩ := vals1 r
  cases rx
  have fin : ∀ (its : List Value), Vals ys its → ys.length ≤ sizeLine → ∀ (h' : Heap) (c' : Nat), (∀ b o', s.heap.get? b = some o' → h'.get? b = some o') →
      h'.get? s.heap.objs.size = some { cls := .type "list", dict := none, data := .seq its.toArray c', slots := #[] } → EP X pins σ Q (.ref s.heap.objs.size) { s with heap := h' } := fun its r' hz h' c' kp e =>
    ⟨.ref s.heap.objs.size, _, I.laid (t' := s.toks) kp (Nat.le_refl _) (show ObjOk X.prog X.w _ h' _ (.lst ys) from ⟨hz, its, c', r', e⟩), rfl, q _ (I.hok.fresh (Nat.le_refl _))⟩
  rcases hq with hq | hq
  · obtain ⟨its, r', pl, hz⟩ := I.list hq
    have hlen := r'.length
    obtain ⟨o, ho, hc, n, hd⟩ := pl.isList
    exact call_list_seq p (.inl rfl) ho hc hd (fun h' c' kp e => fin its r' hz h' c' kp e) (by simp only [List.size_toArray] <;> omega)
  · obtain ⟨its, r', pl, hz⟩ := I.tuple hq
    have hlen := r'.length
    obtain ⟨o, ho, hc, n, hd⟩ := pl
    exact call_list_seq p (.inr rfl) ho hc hd (fun h' c' kp e => fin its r' hz h' c' kp e) (by simp only [List.size_toArray] <;> omega)
theorem call_tuple_of : CallR X (.type "tuple") (fun xs H Q => ∃ p ys, xs = [.ref p] ∧ ((SqL X.K H p ys ∧ ∀ l, H l = none → Q (.ref l) (upd H l (.tup ys))) ∨ (SqT X.K H p ys ∧ Q (.ref p) H))) := by
  intro pins s σ H xs us Q I r h
  obtain ⟨p, ys, rfl, h⟩ := h
  obtain ⟨u, rfl, rx⟩ := vals1 r
  cases rx
  rcases h with ⟨hq, q⟩ | ⟨hq, q⟩
  · obtain ⟨its, r', pl, hz⟩ := I.list hq
    have hlen := r'.length
    refine call_tuple_list pl.isList (fun h' kp => ?_) (by simp only [List.size_toArray] <;> omega)
    have I1 : Inv X pins σ H { s with heap := h' } := I.kept (t' := s.toks) kp
    have I2 : Inv X pins σ (upd H h'.objs.size (.tup ys)) { s with heap := h'.push { cls := .type "tuple", data := .seq its.toArray } } :=
      I1.laid (t' := s.toks) (fun b o e => Heap.get?_push_of_some _ e) (Nat.le_refl _) (show ObjOk X.prog X.w _ _ _ (.tup ys) from ⟨hz, its, r', IsTup.new _ _⟩)
    exact ⟨.ref h'.objs.size, _, I2, rfl, q _ (I1.hok.fresh (Nat.le_refl _))⟩
  · obtain ⟨its, r', pl, hz⟩ := I.tuple hq
    exact call_tuple_same pl ⟨.ref p, H, I, rfl, q⟩

/-! ### the call of a builtin's method: o.m(..) -/
/-- the value is of that builtin type -/
def tyV (K : PySem.W.Frag) (T : String) (x : V) (H : Hp) : Prop := match x with
  | .str _ => T = "str"
  | .int _ => T = "int"
  | .ref p => (T = "list" ∧ ∃ xs, SqL K H p xs) ∨ (T = "tuple" ∧ ∃ o, K.lookup p = some o ∧ o.cls = .type "tuple" ∧ o.dict = none) ∨
      (T = "dict" ∧ ((∃ kvs, H p = some (.dK kvs)) ∨ ∃ kvs, H p = some (.dT kvs))) ∨ (T = "set" ∧ ∃ S n, H p = some (.set S n))
  | _ => False
theorem tyV_is {pins : List (Addr × Obj)} {σ : St} {H : Hp} {s : Shared} {T : String} {x : V} {v : Value} (I : Inv X pins σ H s) (r : RelV x v) (ty : tyV X.K T x H) :
    s.TypeIs v T ∧ ∀ a, v = .ref a → ∃ ob, s.heap.get? a = some ob ∧ ob.dict = none := by
  cases x with
  | str z =>
    obtain ⟨t, rfl⟩ := r
    cases (show T = "str" from ty)
    exact ⟨typeIs_str s z t, fun _ e => nomatch e⟩
  | int i =>
    obtain ⟨t, rfl⟩ := r
    cases (show T = "int" from ty)
    exact ⟨typeIs_int s i t, fun _ e => nomatch e⟩
  | ref p =>
    cases r
    rcases ty with ⟨rfl, xs, hq⟩ | ⟨rfl, o, hk, hc, hd⟩ | ⟨rfl, hk⟩ | ⟨rfl, S, n, hk⟩
    · obtain ⟨its, _, pl, _⟩ := I.list hq
      refine ⟨pl.isList.typeIs, fun a e => ?_⟩
      cases e
      obtain ⟨o, n, e, c, hd, _⟩ := pl
      exact ⟨o, e, hd⟩
    · refine ⟨⟨o, I.kIn p o hk, hc⟩, fun a e => ?_⟩
      cases e
      exact ⟨o, I.kIn _ o hk, hd⟩
    · have z : ∃ o, s.heap.get? p = some o ∧ o.ExactDict := by
        rcases hk with ⟨kvs, hk⟩ | ⟨kvs, hk⟩
        · obtain ⟨_, _, _, _, o, _, _, e, ex, _⟩ := I.hok p _ hk
          exact ⟨o, e, ex⟩
        · obtain ⟨_, _, _, _, o, _, _, e, ex, _⟩ := I.hok p _ hk
          exact ⟨o, e, ex⟩
      obtain ⟨o, e, ex⟩ := z
      refine ⟨⟨o, e, ex.1⟩, fun a e2 => ?_⟩
      cases e2
      exact ⟨o, e, ex.2.1⟩
    · obtain ⟨o, _, _, _, e, ex, _⟩ := I.hok p _ hk
      refine ⟨⟨o, e, ex.1⟩, fun a e2 => ?_⟩
      cases e2
      exact ⟨o, e, ex.2.1⟩
  | _ => exact False.elim ty
def tBM0 (K : PySem.W.Frag) (T : String) (r : V → List V → Hp → VK → Prop) (to : TE) : TE := fun σ H Q => to σ H fun x H1 => tyV K T x H1 ∧ r x [] H1 Q
def tBM (K : PySem.W.Frag) (T : String) (r : V → List V → Hp → VK → Prop) (to : TE) (t : TA) : TE := fun σ H Q => to σ H fun x H1 => tyV K T x H1 ∧ t σ H1 fun xs H2 => r x xs H2 Q
variable {o e : Expr} {es : List Expr} {to : TE} {t : TA} {name : Str} {apos cpos : Pos} {T id : String} {r : V → List V → Hp → VK → Prop}
theorem pe_bm0 (pa : PlainAttrs T) (slot : Slot T name id) (hty : typeOf (.builtin id) = pure (.type "method_descriptor")) (hm : MtR X id r) (ho : PE X o to)
    (hbase : attributeBase o name X.env (eval o X.env) = eval o X.env := by rfl) (hline : (apos.endLine == cpos.line) = true := by rfl) : PE X (.Call (.Attribute o name apos) [] [] cpos) (tBM0 X.K T r to) := by
  intro pins s σ H Q I h
  refine wpAny_Call_method0_late hbase hline (thn (ho pins s σ H _ I h) fun v s1 ⟨x, H1, I1, r1, ty, q1⟩ => ?_)
  obtain ⟨h1, h2⟩ := tyV_is I1 r1 ty
  exact ⟨T, id, pa, slot, hty, h1, h2, Calls.callWith_builtin rfl (PySem.evalArgs_none (hm pins s1 σ H1 x [] v [] Q I1 r1 .nil q1))⟩
theorem pe_bm (pa : PlainAttrs T) (slot : Slot T name id) (hty : typeOf (.builtin id) = pure (.type "method_descriptor")) (hm : MtR X id r) (ho : PE X o to) (ha : PA X (e :: es) t)
    (hbase : attributeBase o name X.env (eval o X.env) = eval o X.env := by rfl)
    (hfew : ((backTo cpos (starEach (e :: es) X.env)).all (fun x => !x.1) && (backToKw cpos (keywordEach [] X.env)).all (fun x => x.1.isSome)
      && decide ((e :: es).length + ([] : List Keyword).length + (if ([] : List Keyword).isEmpty then 0 else 1) < 30)) = true := by rfl)
    (hline : (apos.endLine == cpos.line) = true := by rfl) (hs : starEach (e :: es) X.env = (false, eval e X.env) :: starEach es X.env := by rfl) (hplain : (backTo cpos (starEach es X.env)).any (·.1) = false := by rfl) :
    PE X (.Call (.Attribute o name apos) (e :: es) [] cpos) (tBM X.K T r to t) := by
  intro pins s σ H Q I h
  refine wpAny_Call_method_late hbase hfew hline rfl (thn (ho pins s σ H _ I h) fun v s1 ⟨x, H1, I1, r1, ty, q1⟩ => ?_)
  obtain ⟨h1, h2⟩ := tyV_is I1 r1 ty
  refine ⟨T, id, pa, slot, hty, h1, h2, ?_⟩
  have hA := ha cpos pins s1 σ H1 _ I1 q1
  rw [hs] at hA ⊢
  refine Calls.callWith_builtin (by show (false || (backTo cpos (starEach es X.env)).any (·.1)) = false; rw [hplain] <;> rfl) (Calls.evalArgs_plain ?_)
  exact thn hA fun us s2 ⟨vs, H2, I2, r2, q2⟩ => hm pins s2 σ H2 x vs v us Q I2 r1 r2 q2
/- xs.append(e), list.index on a module's tuple .. are MtR facts of 06m -/
end
end L2

namespace L2
open PySem PySem.Spec PyProof.Rows

def MtM (X : Cx) (id : String) (r : V → List V → Hp → VK → Prop) : Prop :=
  ∀ (pins : List (Addr × Obj)) (s : Shared) (σ : St) (H : Hp) (x : V) (xs : List V) (v : Value) (us : List Value) (Q : VK), Inv X pins σ H s → RelV x v → Vals xs us → r x xs H Q →
    wpAny (model X.prog X.w) X.A (call (.builtin id) (v :: us)) (EP X pins σ Q) X.xe s

/-! ### lists of values -/
theorem Vals.one : ∀ {x : V} {us : List Value}, Vals [x] us → ∃ u, us = [u] ∧ RelV x u
  | _, _, .cons r .nil => ⟨_, rfl, r⟩
theorem Vals.two : ∀ {x y : V} {us : List Value}, Vals [x, y] us → ∃ u v, us = [u, v] ∧ RelV x u ∧ RelV y v
  | _, _, _, .cons r (.cons q .nil) => ⟨_, _, rfl, r, q⟩
theorem Vals.zero : ∀ {us : List Value}, Vals [] us → us = []
  | _, .nil => rfl
theorem Vals.dropLast {xs : List V} {us : List Value} (h : Vals xs us) : Vals xs.dropLast us.dropLast := by
  induction h with
  | nil => exact .nil
  | cons r t ih =>
    cases t with
    | nil => exact .nil
    | cons q t' => exact .cons r ih
theorem Vals.eraseIdx : ∀ {xs : List V} {us : List Value} (i : Nat), Vals xs us → Vals (xs.eraseIdx i) (us.eraseIdx i)
  | _, _, _, .nil => .nil
  | _, _, 0, .cons _ t => t
  | _, _, i + 1, .cons r t => .cons r (Vals.eraseIdx i t)
theorem Vals.reverse {xs : List V} {us : List Value} (h : Vals xs us) : Vals xs.reverse us.reverse := by
  induction h with
  | nil => exact .nil
  | cons r t ih => rw [List.reverse_cons, List.reverse_cons]; exact Vals.append ih (.cons r .nil)
theorem Vals.rep {xs : List V} {us : List Value} (h : Vals xs us) : ∀ k : Nat, Vals (List.replicate k xs).flatten (List.replicate k us).flatten
  | 0 => .nil
  | k + 1 => by
    rw [List.replicate_succ, List.replicate_succ, List.flatten_cons, List.flatten_cons]
    exact Vals.append h (Vals.rep h k)
theorem erase_last {α : Type} (l : List α) : l.eraseIdx (l.length - 1) = l.dropLast := by
  induction l with
  | nil => rfl
  | cons a r ih =>
    cases r with
    | nil => rfl
    | cons b r =>
      have e : (a :: b :: r).length - 1 = ((b :: r).length - 1) + 1 := by
        have h1 : (a :: b :: r).length = r.length + 2 := rfl
        have h2 : (b :: r).length = r.length + 1 := rfl
        omega
      rw [e, List.eraseIdx_cons_succ, ih]
      all_goals rfl
theorem len_erase {α : Type} : ∀ (l : List α) (i : Nat), (l.eraseIdx i).length ≤ l.length
  | [], _ => Nat.le_refl _
  | _ :: _, 0 => Nat.le_succ _
  | _ :: r, i + 1 => Nat.succ_le_succ (len_erase r i)
theorem foldl_rep (its : List Value) : ∀ (k : Nat) (acc : List Value),
    List.foldl (fun x1 x2 => x1 ++ x2) acc.toArray (List.replicate k its.toArray) = (acc ++ (List.replicate k its).flatten).toArray
  | 0, acc => by simp
  | k + 1, acc => by
    have e : acc.toArray ++ its.toArray = (acc ++ its).toArray := by simp
    have e2 : (acc ++ its) ++ (List.replicate k its).flatten = acc ++ (List.replicate (k + 1) its).flatten := by
      rw [List.replicate_succ, List.flatten_cons, List.append_assoc]
    rw [← e2, ← foldl_rep its k (acc ++ its), ← e, List.replicate_succ, List.foldl_cons]

section
variable {X : Cx} {pins : List (Addr × Obj)} {σ : St} {H : Hp} {s : Shared} {l b : Addr} {xs ys zs : List V}

/-! ### the two steps: a tracked list is rewritten, a new list is laid -/
theorem Inv.lset {its its' : List Value} {n : Nat} {f : Array Value → Array Value} {t' : Nat} (I : Inv X pins σ H s) (hH : H l = some (.lst xs))
    (e : s.heap.get? l = some { cls := .type "list", data := .seq its.toArray n }) (hf : f its.toArray = its'.toArray) (hv : Vals ys its') (hz : ys.length ≤ sizeLine) :
    Inv X pins σ (upd H l (.lst ys)) { s with heap := s.heap.update l (Obj.mapSeq f), toks := t' } := by
  have q := PySem.IsL.update e f
  rw [hf] at q
  refine I.write (x := l) (e := l) (by rw [hH]; exact trivial) (.inl rfl) (fun b' u hb hu => (Heap.get?_update_other s.heap (Obj.mapSeq f) (Ne.symm hb)).trans hu) ⟨_, q⟩ ?_
  exact ⟨hz, its', _, hv, q⟩
theorem Inv.lnew {its : List Value} {t' : Nat} (I : Inv X pins σ H s) (hv : Vals ys its) (hz : ys.length ≤ sizeLine) :
    Inv X pins σ (upd H s.heap.objs.size (.lst ys)) { s with heap := s.heap.push { cls := .type "list", data := .seq its.toArray }, toks := t' } :=
  I.laid (fun _ _ q => Heap.get?_push_of_some _ q) (Nat.le_refl _) ⟨hz, its, 0, hv, Heap.get?_push_size _ rfl⟩
theorem Inv.fresh (I : Inv X pins σ H s) : H s.heap.objs.size = none := I.hok.fresh (Nat.le_refl _)
theorem Inv.lstM (I : Inv X pins σ H s) (hH : H l = some (.lst xs)) : xs.length ≤ sizeLine ∧ ∃ (its : List Value) (n : Nat), Vals xs its ∧ xs.length = its.length ∧ s.heap.get? l = some { cls := .type "list", data := .seq its.toArray n } := by
  obtain ⟨z, its, n, r, e⟩ := I.hok l _ hH
  exact ⟨z, its, n, r, r.length, e⟩

theorem notLongL {n : Nat} (h : n ≤ sizeLine) : Builtin.List.listTooLong n = false := by
  unfold Builtin.List.listTooLong
  exact decide_eq_false (by omega)
end

section
variable {X : Cx}

/-! ### methods -/
def rAppend : V → List V → Hp → VK → Prop := fun x vs H Q => ∃ l xs y, x = .ref l ∧ vs = [y] ∧ H l = some (.lst xs) ∧ xs.length < sizeLine ∧ Q .non (upd H l (.lst (xs ++ [y])))
theorem mt_append : MtM X "list.append" rAppend := by
  intro pins s σ H x vs v us Q I rx rv h
  obtain ⟨l, xs, y, rfl, rfl, hH, hz, q⟩ := h
  cases rx
  obtain ⟨u, rfl, ru⟩ := rv.one
  obtain ⟨z, its, n, r, hl, e⟩ := I.lstM hH
  refine call_meets F.slot_list_append ⟨_, e, rfl⟩ F.entry_list_append (F.args_list_append_2 _ _) (PySem.list_append l its.toArray n u (by rw [List.size_toArray]; omega)) ⟨e, ?_⟩
  refine ⟨.non, _, I.lset (its' := its ++ [u]) hH e (by simp) (r.append (.cons ru .nil)) ?_, rfl, q⟩
  rw [List.length_append, List.length_singleton]
  omega

def rExtend : V → List V → Hp → VK → Prop := fun x vs H Q => ∃ l b xs zs, x = .ref l ∧ vs = [.ref b] ∧ H l = some (.lst xs) ∧ H b = some (.lst zs) ∧ xs.length + zs.length ≤ sizeLine ∧ Q .non (upd H l (.lst (xs ++ zs)))
theorem mt_extend : MtM X "list.extend" rExtend := by
  intro pins s σ H x vs v us Q I rx rv h
  obtain ⟨l, b, xs, zs, rfl, rfl, hH, hB, hz, q⟩ := h
  cases rx
  obtain ⟨u, rfl, ru⟩ := rv.one
  cases ru
  obtain ⟨z, its, n, r, hl, e⟩ := I.lstM hH
  obtain ⟨z2, its2, n2, r2, hl2, e2⟩ := I.lstM hB
  have hsz : its.toArray.size + its2.toArray.size ≤ sizeLine := by rw [List.size_toArray, List.size_toArray]; omega
  have hlong : ¬ (!its.toArray.isEmpty && Builtin.List.listTooLong (its.toArray.size + its2.toArray.size)) = true := by
    rw [notLongL hsz, Bool.and_false]
    exact Bool.false_ne_true
  refine call_meets F.slot_list_extend ⟨_, e, rfl⟩ F.entry_list_extend (F.args_list_extend_2 _ _)
    (AutoSeq1.list_extend_list_list_0 l its.toArray n b its2.toArray n2 hlong (by rw [List.size_toArray]; omega) (by omega)) ⟨e, e2, ?_⟩
  refine ⟨.non, _, I.lset (its' := its ++ its2) hH e (by simp) (r.append r2) ?_, rfl, q⟩
  rw [List.length_append]
  omega

def rPop : V → List V → Hp → VK → Prop := fun x vs H Q => ∃ l xs y, x = .ref l ∧ vs = [] ∧ H l = some (.lst xs) ∧ xs[xs.length - 1]? = some y ∧ Q y (upd H l (.lst xs.dropLast))
theorem mt_pop : MtM X "list.pop" rPop := by
  intro pins s σ H x vs v us Q I rx rv h
  obtain ⟨l, xs, y, rfl, rfl, hH, hy, q⟩ := h
  cases rx
  have hus := rv.zero
  subst hus
  obtain ⟨z, its, n, r, hl, e⟩ := I.lstM hH
  obtain ⟨u, hu, ru⟩ := r.get hy
  have hy' : its.toArray[its.toArray.size - 1]? = some u := by
    show its.toArray[its.length - 1]? = some u
    rw [← Array.getElem?_toList, ← hl]
    exact hu
  refine call_meets F.slot_list_pop ⟨_, e, rfl⟩ F.entry_list_pop (F.args_list_pop_1 _) (MeetsSeq.list_pop_last l its.toArray n u hy' (by rw [List.size_toArray]; omega)) ⟨e, ?_⟩
  refine ⟨y, _, I.lset (its' := its.dropLast) hH e ?_ r.dropLast ?_, ru, q⟩
  · show its.toArray.eraseIdxIfInBounds (its.toArray.size - 1) = its.dropLast.toArray
    rw [List.size_toArray, List.eraseIdxIfInBounds_toArray, erase_last]
  · rw [List.length_dropLast]
    omega

def rPopAt : V → List V → Hp → VK → Prop := fun x vs H Q => ∃ l xs i k y, x = .ref l ∧ vs = [.int i] ∧ H l = some (.lst xs) ∧ -(2 ^ 63) ≤ i ∧ i < 2 ^ 63 ∧ seqIndex? i xs.length = some k ∧ xs[k]? = some y ∧ Q y (upd H l (.lst (xs.eraseIdx k)))
theorem mt_popAt : MtM X "list.pop" rPopAt := by
  intro pins s σ H x vs v us Q I rx rv h
  obtain ⟨l, xs, i, k, y, rfl, rfl, hH, h1, h2, hk, hy, q⟩ := h
  cases rx
  obtain ⟨u, rfl, ru⟩ := rv.one
  obtain ⟨t, rfl⟩ := ru
  obtain ⟨z, its, n, r, hl, e⟩ := I.lstM hH
  obtain ⟨w, hw, rw'⟩ := r.get hy
  refine call_meets F.slot_list_pop ⟨_, e, rfl⟩ F.entry_list_pop (F.args_list_pop_2 _ _)
    (MeetsSeq.list_pop_at l its.toArray n i t k w (fitsIndex_both h1 h2) (by rw [List.size_toArray, ← hl]; exact hk) (by rw [← Array.getElem?_toList]; exact hw) (by rw [List.size_toArray]; omega)) ⟨e, ?_⟩
  refine ⟨y, _, I.lset (its' := its.eraseIdx k) hH e ?_ (r.eraseIdx k) ?_, rw', q⟩
  · show its.toArray.eraseIdxIfInBounds k = (its.eraseIdx k).toArray
    rw [List.eraseIdxIfInBounds_toArray]
  · have := len_erase xs k
    omega

def rReverse : V → List V → Hp → VK → Prop := fun x vs H Q => ∃ l xs, x = .ref l ∧ vs = [] ∧ H l = some (.lst xs) ∧ Q .non (upd H l (.lst xs.reverse))
theorem mt_reverse : MtM X "list.reverse" rReverse := by
  intro pins s σ H x vs v us Q I rx rv h
  obtain ⟨l, xs, rfl, rfl, hH, q⟩ := h
  cases rx
  have hus := rv.zero
  subst hus
  obtain ⟨z, its, n, r, hl, e⟩ := I.lstM hH
  refine call_meets F.slot_list_reverse ⟨_, e, rfl⟩ F.entry_list_reverse (F.args_list_reverse_1 _) (AutoSeq1.list_reverse_list_0 l its.toArray n (by rw [List.size_toArray]; omega)) ⟨e, ?_⟩
  refine ⟨.non, _, I.lset (its' := its.reverse) hH e (by simp) r.reverse ?_, rfl, q⟩
  rw [List.length_reverse]
  omega

def rClear : V → List V → Hp → VK → Prop := fun x vs H Q => ∃ l xs, x = .ref l ∧ vs = [] ∧ H l = some (.lst xs) ∧ Q .non (upd H l (.lst []))
theorem mt_clear : MtM X "list.clear" rClear := by
  intro pins s σ H x vs v us Q I rx rv h
  obtain ⟨l, xs, rfl, rfl, hH, q⟩ := h
  cases rx
  have hus := rv.zero
  subst hus
  obtain ⟨z, its, n, r, hl, e⟩ := I.lstM hH
  refine call_meets F.slot_list_clear ⟨_, e, rfl⟩ F.entry_list_clear (F.args_list_clear_1 _) (AutoSeq1.list_clear_list_0 l its.toArray n (by rw [List.size_toArray]; omega)) ⟨e, ?_⟩
  exact ⟨.non, _, I.lset (its' := []) (ys := []) hH e rfl .nil (Nat.zero_le _), rfl, q⟩

/-! ### list + list, list += list, list * int -/
def rCat : R2 := fun x y H Q => ∃ l b xs zs, x = .ref l ∧ y = .ref b ∧ H l = some (.lst xs) ∧ H b = some (.lst zs) ∧ xs.length + zs.length ≤ sizeLine ∧ ∀ p, H p = none → Q (.ref p) (upd H p (.lst (xs ++ zs)))
theorem op_cat : OpR X (binaryOp .Add) rCat := by
  intro pins s σ H x y v u Q I rx ry h
  obtain ⟨l, b, xs, zs, rfl, rfl, hH, hB, hz, q⟩ := h
  cases rx
  cases ry
  obtain ⟨z, its, n, r, hl, e⟩ := I.lstM hH
  obtain ⟨z2, its2, n2, r2, hl2, e2⟩ := I.lstM hB
  refine PySem.P.add_list e e2 ?_ (by rw [List.size_toArray, List.size_toArray]; omega)
  have ea : its.toArray ++ its2.toArray = (its ++ its2).toArray := by simp
  rw [ea]
  exact ⟨.ref _, _, I.lnew (t' := s.toks) (r.append r2) (by rw [List.length_append]; omega), rfl, q _ I.fresh⟩
/-- a list times an int (a negative one is nothing) -/
def rRep : R2 := fun x y H Q => ∃ l k xs, x = .ref l ∧ y = .int k ∧ H l = some (.lst xs) ∧ -(2 ^ 63) ≤ k ∧ k < 2 ^ 63 ∧ xs.length * k.toNat ≤ sizeLine ∧
  ∀ p, H p = none → Q (.ref p) (upd H p (.lst (List.replicate k.toNat xs).flatten))
theorem len_rep {α : Type} (xs : List α) (k : Nat) : (List.replicate k xs).flatten.length = k * xs.length := by
  induction k with
  | zero => simp
  | succ k ih => rw [List.replicate_succ, List.flatten_cons, List.length_append, ih, Nat.succ_mul, Nat.add_comm]
theorem op_rep : OpR X (binaryOp .Mult) rRep := by
  intro pins s σ H x y v u Q I rx ry h
  obtain ⟨l, k, xs, rfl, rfl, hH, h1, h2, hz, q⟩ := h
  cases rx
  obtain ⟨t, rfl⟩ := ry
  obtain ⟨z, its, n, r, hl, e⟩ := I.lstM hH
  have hlen : its.toArray.size * k.toNat ≤ sizeLine := by rw [List.size_toArray, ← hl]; exact hz
  have hcap : ¬ its.toArray.size * k.toNat > (2 ^ 63 - 1) / 8 := by
    have : (sizeLine : Nat) ≤ (2 ^ 63 - 1) / 8 := by decide
    omega
  have hfit : ¬ (!Builtin.List.listFitsIndex k) = true := by
    rw [fitsIndex_both h1 h2]
    exact Bool.false_ne_true
  have hlong : ¬ Builtin.List.listTooLong (its.toArray.size * k.toNat) = true := by
    rw [notLongL hlen]
    exact Bool.false_ne_true
  have hnew : List.foldl (fun x1 x2 => x1 ++ x2) #[] (List.replicate (if its.toArray.isEmpty = true then 0 else k.toNat) its.toArray) = (List.replicate k.toNat its).flatten.toArray := by
    have f0 : ∀ m : Nat, List.foldl (fun x1 x2 => x1 ++ x2) #[] (List.replicate m its.toArray) = (List.replicate m its).flatten.toArray := fun m => by
      have := foldl_rep its m []
      rw [List.nil_append] at this
      exact this
    rw [f0]
    cases its with
    | nil => simp
    | cons a r' => rw [if_neg (by simp)]
  refine wpAny_binaryOp_repeat_ref (T := "list") (U := "int") (by decide) ⟨_, e, rfl⟩ (fun s' => typeIs_int s' k t) noFill_list_mul F.fills_int_mul F.slot_int_rmul repeat_list F.slot_int_index.lookup
    (call_meets F.slot_int_rmul (typeIs_int s k t) F.entry_int_rmul (F.args_int_rmul_2 _ _) (int___rmul___int_list k t l its.toArray n)
      ⟨e, rfl, ⟨_, e, rfl⟩, call_meets F.slot_list_mul ⟨_, e, rfl⟩ F.entry_list_mul (F.args_list_mul_2 _ _) (AutoListH.list___mul___list_int_3 l its.toArray n k t hfit hcap hlong) ⟨e, ?_⟩⟩)
  rw [hnew]
  exact ⟨.ref _, _, I.lnew (t' := s.toks) (r.rep k.toNat) (by rw [len_rep, Nat.mul_comm]; exact hz), rfl, q _ I.fresh⟩

/-! ### del xs[i] -/
theorem del_list {pins : List (Addr × Obj)} {s : Shared} {σ : St} {H : Hp} {l : Addr} {xs : List V} {i : Int} {t : Tok} {k : Nat} {Q : Unit → Shared → Prop} (I : Inv X pins σ H s) (hH : H l = some (.lst xs))
    (h1 : -(2 ^ 63) ≤ i) (h2 : i < 2 ^ 63) (hk : seqIndex? i xs.length = some k) (h : ∀ s', Inv X pins σ (upd H l (.lst (xs.eraseIdx k))) s' → Q () s') :
    wpAny (model X.prog X.w) X.A (delItem (.ref l) (.int i t)) Q X.xe s := by
  obtain ⟨z, its, n, r, hl, e⟩ := I.lstM hH
  refine PySem.P.delItem_list (k := k) e (fitsIndex_both h1 h2) (by rw [List.size_toArray, ← hl]; exact hk) (h _ ?_) (by rw [List.size_toArray]; omega)
  refine I.lset (its' := its.eraseIdx k) (t' := s.toks) hH e ?_ (r.eraseIdx k) ?_
  · show its.toArray.eraseIdxIfInBounds k = (its.eraseIdx k).toArray
    rw [List.eraseIdxIfInBounds_toArray]
  · have := len_erase xs k
    omega
end

/-! ### xs[a:b] = ys -/
section
variable {prog : Program} {w : World} {A : Around} {E : Value → Shared → Prop} {s : Shared}
theorem splice_eq (its its2 : List Value) (a c : Nat) : its.toArray.extract 0 a ++ its2.toArray ++ its.toArray.extract c its.toArray.size = (its.take a ++ its2 ++ its.drop c).toArray := by
  apply Array.toList_inj.mp
  first
    | (simp
       exact List.take_of_length_le (by simp))
    | simp [List.take_of_length_le]
    | simp
theorem bounds_run {a c n : Nat} (hac : a ≤ c) (hc : c ≤ n) : sliceBounds (some (a : Int)) (some (c : Int)) none n = ((a : Int), (c : Int), 1) := by
  simp only [sliceBounds, Option.getD_none]
  have h1 : ¬ ((a : Int) < 0) := by omega
  have h2 : ¬ ((c : Int) < 0) := by omega
  simp only [h1, h2, if_false, show (1 : Int) > 0 by decide, if_true]
  congr 1
  · omega
  · congr 1; omega
set_option maxRecDepth 100000 in
/-- list.__setitem__ with a slice of step one and another list -/
theorem setItem_slice {l b sl : Addr} {items new : Array Value} {n n2 : Nat} {vl vu : Value} {a c : Nat} {Q : Unit → Shared → Prop}
    (e : s.heap.get? l = some { cls := .type "list", data := .seq items n }) (e2 : s.heap.get? b = some { cls := .type "list", data := .seq new n2 }) (hne : l ≠ b)
    (hs : s.heap.IsSliceOf sl vl vu .none) (pl : IsPart vl (some (a : Int))) (pu : IsPart vu (some (c : Int))) (hac : a ≤ c) (hc : c ≤ items.size)
    (hsz : items.size + new.size ≤ sizeLine) (h : Q () { s with heap := s.heap.update l (Obj.mapSeq fun xs => xs.extract 0 a ++ new ++ xs.extract c xs.size) }) :
    wpAny (model prog w) A (setItem (.ref l) (.ref sl) (.ref b)) Q E s := by
  have hl : s.heap.IsList l items := PySem.IsL.isList e
  have hb : s.heap.IsList b new := PySem.IsL.isList e2
  obtain ⟨os, hos, hcs, hds⟩ := id hs
  have hTs : s.TypeIs (.ref sl) "slice" := ⟨os, hos, hcs⟩
  have hstep : ¬ ((rawPart none == rawInt 0) = true) := Bool.false_ne_true
  have hsame : Builtin.List.listSameRef (.ref l) (.ref b) = false := by
    unfold Builtin.List.listSameRef
    exact beq_eq_false_iff_ne.mpr hne
  have hmax : (max (a : Int) (c : Int)).toNat = c := by omega
  have hz' : ((fun xs : Array Value => xs.extract 0 a ++ new ++ xs.extract c xs.size) items).size ≤ sizeLine + 1 := by
    simp only [Array.size_append, Array.size_extract]
    omega
  unfold setItem
  try with_reducible refine wpAny_holding ?_
  first | refine wpAny_bind (wpAny_pure ?_) | skip
  refine wpAny_bind (wpAny_sequenceKey hl.typeIs (by decide) ?_)
  refine wpAny_bind (wpAny_callSpecial?_slot (name := Str.ofString "__setitem__") hl.typeIs slot_list_setitem
    (wpAny_call_entry slot_list_setitem hl.typeIs entry_list_setitem ?_ (args_list_setitem _ _ _)))
  show wpAny _ _ (Builtin.List.listSubscript? (.ref sl) >>= _) _ _ s
  refine wpAny_bind ?_
  unfold Builtin.List.listSubscript?
  refine wpAny_bind (wpAny_specialOf hTs slice_no_index ?_)
  simp only [Option.isNone_none, if_true]
  refine wpAny_pure ?_
  show wpAny _ _ (typeOf (.ref sl) >>= _) _ _ s
  refine wpAny_bind (wpAny_typeOf hTs ?_)
  first
    | rw [if_neg (by decide)]
    | refine PySem.W.KFB.if_not (by decide) ?_
  rw [listSliceParts_eq]
  refine wpAny_bind (wpAny_bind (wpAny_field hos hds (x := .none) rfl (wpAny_bind (wpAny_listPart .none ?_))))
  rw [if_neg hstep]
  refine wpAny_bind (wpAny_field hos hds (x := vl) rfl (wpAny_bind (wpAny_listPart pl ?_)))
  refine wpAny_bind (wpAny_field hos hds (x := vu) rfl (wpAny_bind (wpAny_listPart pu (wpAny_pure ?_))))
  first
    | simp only [hsame, Bool.false_eq_true, if_false]
    | refine PySem.W.KFB.if_not hsame ?_
    | (dsimp only
       rw [if_neg (by rw [hsame]; exact Bool.false_ne_true)])
  refine wpAny_bind (m := Builtin.List.listAllItems (.ref b) "must assign iterable to extended slice") ?_
  unfold Builtin.List.listAllItems
  refine wpAny_bind (wpAny_typeOf hb.typeIs ?_)
  first
    | refine PySem.W.KFB.if_so (by decide) ?_
    | rw [if_pos (by decide)]
    | simp only [beq_self_eq_true, Bool.true_or, if_true]
  unfold Builtin.List.listItems
  refine wpAny_bind (wpAny_seqItems e2 rfl (wpAny_pure ?_))
  refine wpAny_bind (wpAny_bind (wpAny_seqItems e rfl (wpAny_pure ?_)))
  refine wpAny_bind (wpAny_of_eq ((sliceIndices_raw (some (a : Int)) (some (c : Int)) none items.size (by simp)).trans (congrArg (pure : Int × Int × Int → Sem (Int × Int × Int)) (bounds_run hac hc))) ?_)
  show wpAny _ _ (if ((1 : Int) == 1) = true then _ else _) _ _ s
  rw [if_pos (by decide)]
  refine wpAny_bind (wpAny_rule ?_)
  first
    | simp only [notLongL hsz, Bool.false_eq_true, if_false]
    | refine PySem.W.KFB.if_not (notLongL hsz) ?_
  first | refine wpAny_bind (wpAny_pure ?_) | skip
  show wpAny _ _ (updateSeq l (fun xs => xs.extract 0 ((a : Int)).toNat ++ new ++ xs.extract (max (a : Int) (c : Int)).toNat xs.size) >>= _) _ _ s
  rw [hmax, Int.toNat_natCast]
  refine wpAny_bind (wpAny_updateSeq (hz := Nat.le_trans (Nat.le_add_right _ _) hsz) (_hz' := hz') e rfl ?_)
  refine wpAny_bind (wpAny_letGo ?_)
  first
    | exact wpAny_bind (wpAny_pure (wpAny_pure ⟨.none, rfl, wpAny_pure h⟩))
    | exact wpAny_pure ⟨.none, rfl, wpAny_pure h⟩
end

section
variable {X : Cx}
/-- xs[a:c] = ys of another list, at the value level: sl is the slice object that was just made -/
theorem set_slice {pins : List (Addr × Obj)} {s : Shared} {σ : St} {H : Hp} {l b sl : Addr} {xs ys : List V} {a c : Int} {vl vu : Value} {Q : Unit → Shared → Prop} (I : Inv X pins σ H s)
    (hH : H l = some (.lst xs)) (hB : H b = some (.lst ys)) (hne : l ≠ b) (hs : s.heap.IsSliceOf sl vl vu .none) (ra : RelV (.int a) vl) (rc : RelV (.int c) vu) (h0 : 0 ≤ a) (hac : a ≤ c) (hc : c ≤ xs.length)
    (hz : xs.length + ys.length ≤ sizeLine) (h : ∀ s', Inv X pins σ (upd H l (.lst (xs.take a.toNat ++ ys ++ xs.drop c.toNat))) s' → Q () s') :
    wpAny (model X.prog X.w) X.A (setItem (.ref l) (.ref sl) (.ref b)) Q X.xe s := by
  obtain ⟨ta, rfl⟩ := ra
  obtain ⟨tc, rfl⟩ := rc
  obtain ⟨z, its, n, r, hl, e⟩ := I.lstM hH
  obtain ⟨z2, its2, n2, r2, hl2, e2⟩ := I.lstM hB
  obtain ⟨a', rfl⟩ := Int.eq_ofNat_of_zero_le h0
  obtain ⟨c', rfl⟩ := Int.eq_ofNat_of_zero_le (Int.le_trans h0 hac)
  simp only [Int.toNat_natCast] at h
  refine setItem_slice (a := a') (c := c') e e2 hne hs (.int _ _) (.int _ _) (by omega) (by rw [List.size_toArray]; omega) (by rw [List.size_toArray, List.size_toArray]; omega) (h _ ?_)
  refine I.lset (its' := its.take a' ++ its2 ++ its.drop c') (t' := s.toks) hH e ?_ (Vals.append (Vals.append (r.take _) r2) (r.drop _)) ?_
  · exact splice_eq its its2 a' c'
  · rw [List.length_append, List.length_append, List.length_take, List.length_drop]
    omega
end
end L2

namespace Att
open PySem PySem.W PySem.Calls PyProof.Rows

/-! ### the script -/
theorem ints_of_wellAll {P : Params} {h : Heap} : ∀ (ns : List Int) (vs : List Value), WellAll P h vs (ns.map WData.int) → IntsAre vs ns := by
  intro ns
  induction ns with
  | nil =>
    intro vs w
    rw [List.map_nil] at w
    cases w
    exact .nil
  | cons n ns ih =>
    intro vs w
    rw [List.map_cons] at w
    cases w with
    | cons a b =>
      cases a
      exact .cons _ _ (ih _ b)

theorem script_of {l : OpenLaw} {n : Nat} (hn : l.most = some n) {P : Params} {h : Heap} {args : List WData} {vals : List Value}
    (hpre : l.row.toRowW.claim.pre args = true) (hwl : WellAll P h vals args) :
    ∃ a vs ns, vals = [Value.ref a] ∧ args = [WData.list (ns.map WData.int)] ∧ h.get? a = some { cls := .type "list", data := .seq vs.toArray } ∧ IntsAre vs ns ∧ ns.length ≤ n := by
  have hsh : WShape.hasAll [] args [.list .int] = true := (pre_splitW hpre).1
  have hc : l.pre.holds [] { args := args } = true := (pre_splitW hpre).2
  obtain ⟨d, r, rfl, h1, h2⟩ := hasAllW_cons hsh
  obtain rfl := hasAllW_nil h2
  obtain ⟨xs, rfl, h3⟩ := hasW_list h1
  obtain ⟨ns, rfl⟩ := items_int h3
  have hlen : ns.length ≤ n := by
    unfold OpenLaw.pre at hc
    have h4 : (WTm.not (.lt (.lit (.int (n : Int))) (.len (.arg 0)))).holds [] { args := [.list (ns.map .int)] } = true := by
      have h4 := (holds_andW hc).1
      rw [hn] at h4
      exact h4
    have h5 := condW_of h4 (w_not (w_lt w_lit (w_len_list (w_arg rfl))))
    rw [List.length_map] at h5
    refine Nat.le_of_not_lt fun q => ?_
    have q' : (n : Int) < ((ns.length : Nat) : Int) := by omega
    first
      | (rw [decide_eq_true q'] at h5; exact absurd h5 (by decide))
      | (simp at h5; omega)
  cases hwl with
  | cons w1 w2 =>
    cases w2
    cases w1 with
    | list ho hall => exact ⟨_, _, ns, rfl, rfl, ho, ints_of_wellAll ns _ hall, hlen⟩

theorem post_true (l : OpenLaw) (args : List WData) : l.row.toRowW.claim.post args (.bool true) args = true :=
  postW_of (r := l.row.toRowW) (X := (true == true))
    (show WShape.has [] (.bool true) .bool = true by first | rfl | decide | simp [WShape.has, WShape.arms, WShape.armsAll])
    (show (WTm.eq .res (.lit (.bool true))).value [] { args := args, res := some (.bool true), after := args } = some (.bool (true == true)) from w_eq_bool (w_res rfl) w_lit) rfl

/-! ### the attachment: holds_open's last premise (the goal 'hc' behind k_head) from a wpAny of the law's body -/
theorem attach {l : OpenLaw} {n : Nat} {q : Program} {loose : List Str} {XP : (Str → Option Value) → Heap → Prop} {YP : World → Heap → Prop} {d : DefRec} {x : Str}
    (hn : l.most = some n) (hdf : d.params.defaults = [])
    (hbind : ∀ pm cd doc v : Value, bindArgs (docDef d.name d.params d.body d.scope pm cd doc) ⟨[v], []⟩ = pure [(x, v)])
    (hx : d.scope.names.lookup x = some .local ∨ d.scope.names.lookup x = some .cell)
    (hk : d.scope.kind = .function) (hco : d.scope.isCoroutine = false) (hgen : d.scope.isGenerator = false)
    (body : ∀ (w : World) (s₀ s₁ s : Shared) (mg mb : Str → Option Value) (fa : Addr) (o : Obj) (pm cd doc : Value) (a : Addr) (vs : List Value) (ns : List Int),
      Ground q loose [] XP w s₀ mg mb s₁.heap → YP w s₁.heap →
      s₁.heap.get? fa = some o → o.data = .func (docDef d.name d.params d.body d.scope pm cd doc) → s₁.heap.CodeRec cd d.name → mg d.name = some (.ref fa) →
      s₁.heap.get? a = some { cls := .type "list", data := .seq vs.toArray } → IntsAre vs ns → ns.length ≤ n →
      s.gens = #[] → s.os = s₁.os →
      Fr s₁.heap s₁.heap.objs.size s.heap (bindL (envOfC d.name d.scope s₁.heap.objs.size fa cd).kindOf [(x, .ref a)] fun _ => none) →
      Cl s₁.heap.objs.size (cellsFrom (s₁.heap.objs.size + 1) d.scope.names []) s.heap (bindC (envOfC d.name d.scope s₁.heap.objs.size fa cd).kindOf [(x, .ref a)] fun _ => none) →
      wpAny (model l.prog w) (callerA.deeper (envOfC d.name d.scope s₁.heap.objs.size fa cd)) (execs d.body (envOfC d.name d.scope s₁.heap.objs.size fa cd))
        (fun f s' => f = .ret (.bool true) ∧ OldK s₁.heap s'.heap ∧ s'.os = s₁.os ∧ AllBare s'.gens) (fun _ _ => False) s) :
    WalkO q loose XP YP l.row.toRowW d [] (fun f vs => PySem.call f vs) := by
  intro w s₀ s₁ mg mb G Y fa o pm cd doc dV kV ho hd hcd hD hmg hg args vals as hpre hlay hrd hwl hlo
  obtain rfl : dV = .none := Dflts.none hD hdf
  obtain rfl : kV = .none := Dflts.noKw hD
  obtain ⟨a, vs, ns, rfl, rfl, hobj, hints, hlen⟩ := script_of hn hpre hwl
  refine enter_call ?_
  refine call_cells_ret (o := o) (by rw [depth_caller]; decide) ho (fd_plain hd) G.T.nolimit hcd (hbind pm cd doc (.ref a)) (fun y hy => ?_) (fun h₁ tk F X => ?_) hco hgen hk
  · obtain rfl : y = (x, Value.ref a) := List.mem_singleton.mp hy
    rcases hx with e | e
    · exact .inl e
    · exact .inr ⟨e, cellsFrom_some _ _ _ (.inl e)⟩
  · refine wpAny_mono (body w s₀ s₁ { s₁ with heap := h₁, toks := tk } mg mb fa o pm cd doc a vs ns G Y ho (fd_plain hd) hcd hmg hobj hints hlen hg rfl F X) (fun f s' hq => ?_) (fun _ _ hq => hq)
    obtain ⟨rfl, h2, h3, h4⟩ := hq
    exact ⟨.inl ⟨.bool true, .bool true, [], rfl, fun _ => rfl, .bool true, post_true l _, fun _ => ⟨List.Pairwise.nil, fun _ hm => (nomatch hm)⟩⟩, h2, h3, h4⟩

/-- the same from a codeAny of the CALL (for a layer whose function contracts speak of calls) -/
theorem attach_call {l : OpenLaw} {n : Nat} {q : Program} {loose : List Str} {XP : (Str → Option Value) → Heap → Prop} {YP : World → Heap → Prop} {d : DefRec}
    (hn : l.most = some n) (hdf : d.params.defaults = [])
    (call : ∀ (w : World) (s₀ s₁ : Shared) (mg mb : Str → Option Value) (fa : Addr) (o : Obj) (pm cd doc : Value) (a : Addr) (vs : List Value) (ns : List Int),
      Ground q loose [] XP w s₀ mg mb s₁.heap → YP w s₁.heap →
      s₁.heap.get? fa = some o → o.data = .func (docDef d.name d.params d.body d.scope pm cd doc) → s₁.heap.CodeRec cd d.name → mg d.name = some (.ref fa) →
      s₁.heap.get? a = some { cls := .type "list", data := .seq vs.toArray } → IntsAre vs ns → ns.length ≤ n → s₁.gens = #[] →
      codeAny (model l.prog w) callerA (.call (.ref fa) ⟨[.ref a], []⟩) (fun r s' => r = .ok (.ret (.bool true)) ∧ OldK s₁.heap s'.heap ∧ s'.os = s₁.os ∧ AllBare s'.gens) s₁) :
    WalkO q loose XP YP l.row.toRowW d [] (fun f vs => PySem.call f vs) := by
  intro w s₀ s₁ mg mb G Y fa o pm cd doc dV kV ho hd hcd hD hmg hg args vals as hpre hlay hrd hwl hlo
  obtain rfl : dV = .none := Dflts.none hD hdf
  obtain rfl : kV = .none := Dflts.noKw hD
  obtain ⟨a, vs, ns, rfl, rfl, hobj, hints, hlen⟩ := script_of hn hpre hwl
  refine enter_call (codeAny_mono (call w s₀ s₁ mg mb fa o pm cd doc a vs ns G Y ho (fd_plain hd) hcd hmg hobj hints hlen hg) fun r s' hq => ?_)
  obtain ⟨rfl, h2, h3, h4⟩ := hq
  exact ⟨.inl ⟨.bool true, .bool true, [], rfl, fun _ => rfl, .bool true, post_true l _, fun _ => ⟨List.Pairwise.nil, fun _ hm => (nomatch hm)⟩⟩, h2, h3, h4⟩

/-- the same where the top left finished generators (o_head chose holds_openN): nothing may have changed at all and no generator may be left -/
theorem attachN {l : OpenLaw} {n : Nat} {q : Program} {loose : List Str} {XP : (Str → Option Value) → Heap → Prop} {YP : World → Heap → Prop} {d : DefRec} {x : Str}
    (hn : l.most = some n) (hdf : d.params.defaults = [])
    (hbind : ∀ pm cd doc v : Value, bindArgs (docDef d.name d.params d.body d.scope pm cd doc) ⟨[v], []⟩ = pure [(x, v)])
    (hx : d.scope.names.lookup x = some .local ∨ d.scope.names.lookup x = some .cell)
    (hk : d.scope.kind = .function) (hco : d.scope.isCoroutine = false) (hgen : d.scope.isGenerator = false)
    (body : ∀ (w : World) (s₀ s₁ s : Shared) (mg mb : Str → Option Value) (fa : Addr) (o : Obj) (pm cd doc : Value) (a : Addr) (vs : List Value) (ns : List Int),
      Ground q loose [] XP w s₀ mg mb s₁.heap → YP w s₁.heap →
      s₁.heap.get? fa = some o → o.data = .func (docDef d.name d.params d.body d.scope pm cd doc) → s₁.heap.CodeRec cd d.name → mg d.name = some (.ref fa) →
      s₁.heap.get? a = some { cls := .type "list", data := .seq vs.toArray } → IntsAre vs ns → ns.length ≤ n →
      s.gens = #[] → s.os = s₁.os →
      Fr s₁.heap s₁.heap.objs.size s.heap (bindL (envOfC d.name d.scope s₁.heap.objs.size fa cd).kindOf [(x, .ref a)] fun _ => none) →
      Cl s₁.heap.objs.size (cellsFrom (s₁.heap.objs.size + 1) d.scope.names []) s.heap (bindC (envOfC d.name d.scope s₁.heap.objs.size fa cd).kindOf [(x, .ref a)] fun _ => none) →
      wpAny (model l.prog w) (callerA.deeper (envOfC d.name d.scope s₁.heap.objs.size fa cd)) (execs d.body (envOfC d.name d.scope s₁.heap.objs.size fa cd))
        (fun f s' => f = .ret (.bool true) ∧ (∀ b o, s₁.heap.get? b = some o → s'.heap.get? b = some o) ∧ s'.os = s₁.os ∧ s'.gens = #[]) (fun _ _ => False) s) :
    WalkN q loose XP YP l.row.toRowW d [] (fun f vs => PySem.call f vs) := by
  intro w s₀ s₁ mg mb G Y fa o pm cd doc dV kV ho hd hcd hD hmg hg args vals as hpre hlay hrd hwl hlo
  obtain rfl : dV = .none := Dflts.none hD hdf
  obtain rfl : kV = .none := Dflts.noKw hD
  obtain ⟨a, vs, ns, rfl, rfl, hobj, hints, hlen⟩ := script_of hn hpre hwl
  refine enter_callW ?_
  refine call_cells_ret (o := o) (by rw [depth_caller]; decide) ho (fd_plain hd) G.T.nolimit hcd (hbind pm cd doc (.ref a)) (fun y hy => ?_) (fun h₁ tk F X => ?_) hco hgen hk
  · obtain rfl : y = (x, Value.ref a) := List.mem_singleton.mp hy
    rcases hx with e | e
    · exact .inl e
    · exact .inr ⟨e, cellsFrom_some _ _ _ (.inl e)⟩
  · refine wpAny_mono (body w s₀ s₁ { s₁ with heap := h₁, toks := tk } mg mb fa o pm cd doc a vs ns G Y ho (fd_plain hd) hcd hmg hobj hints hlen hg rfl F X) (fun f s' hq => ?_) (fun _ _ hq => hq)
    obtain ⟨rfl, h2, h3, h4⟩ := hq
    exact ⟨.inl ⟨.bool true, .bool true, [], rfl, fun _ => rfl, .bool true, post_true l _, fun _ => ⟨List.Pairwise.nil, fun _ hm => (nomatch hm)⟩⟩, h2, h3, h4⟩

/-! ### rules over ANY heap (no ledger) from facts about the written part K: the library's own take a ledger (News) for what they write -/
section
variable {prog : Program} {w : World} {A : Around} {E : Value → Shared → Prop} {s : Shared} {K : Frag}

/-- a def of the module, or a method (qual 'C.m'), entered: the frame is the next address; cells behind it -/
theorem call_fn {R : Result → Shared → Prop} {name qual : Str} {params : Arguments} {body : List Stmt} {scope : Scope} {dV kV doc pm cdv ct oc : Value} {an od : Option Addr} {osl : Array (Option Value)} {f : Addr} {args : Args} {binds : List (Str × Value)}
    (X : K.In s.heap) (hlim : s.heap.NoLimit) (ho : K.lookup f = some ⟨oc, od, .func (fnOf name qual params body scope dV kV doc pm an cdv ct), osl⟩) (hcd : codeIn K cdv qual = true) (hroom : A.depth < recursionLimit)
    (hbind : BindsTo s (fnOf name qual params body scope dV kV doc pm an cdv ct) args binds)
    (hkind : (binds.all fun y => scope.names.lookup y.1 == some .local || scope.names.lookup y.1 == some .cell) = true)
    (h : ∀ s₁, InCallC s s.heap.objs.size (bindL (envOfC qual scope s.heap.objs.size f cdv).kindOf binds fun _ => none) (cellsFrom (s.heap.objs.size + 1) scope.names [])
        (bindC (envOfC qual scope s.heap.objs.size f cdv).kindOf binds fun _ => none) s₁ →
      wpAny (model prog w) (A.deeper (envOfC qual scope s.heap.objs.size f cdv)) (execs body (envOfC qual scope s.heap.objs.size f cdv))
        (fun fl s' => R (.ok (.ret (match fl with | .ret v => v | _ => .none))) s')
        (fun e s' => wpAny (model prog w) (A.deeper (envOfC qual scope s.heap.objs.size f cdv)) (leaving (envOfC qual scope s.heap.objs.size f cdv) e) (fun _ s'' => R (.error e) s'') (fun e' s'' => R (.error e') s'') s') s₁)
    (hco : scope.isCoroutine = false) (hgen : scope.isGenerator = false) (hk : scope.kind = .function) : codeAny (model prog w) A (.call (.ref f) args) R s := by
  refine codeAny_call_function hroom (X _ _ ho) rfl hco hgen rfl (codeRec_of X hcd) (hbind _ _ _ _ ?_)
  refine wpAny_newFunctionEnv_cells hk (kindsX hkind _) fun env he s₁ x => ?_
  subst he
  exact ⟨hlim.keeps x.toInCall.keep, codeAny_func (h s₁ x)⟩

/-- C(..): dict at size, instance at size + 1, then __init__ -/
theorem make_obj {R : Result → Shared → Prop} {C fI : Addr} {rest : List Value} {kw : List (Str × Value)}
    (X : K.In s.heap) (hm : makesIn K C = true) (hi : findIn K (.ref C) "__init__" = some (some (.ref fI))) (hf : isFn K (.ref fI) = true)
    (h : codeAny (model prog w) (A.under (.builtin "type.__call__" ⟨.ref C :: rest, kw⟩)) (.call (.ref fI) ⟨.ref (s.heap.objs.size + 1) :: rest, kw⟩) (InitBack (s.heap.objs.size + 1) R)
      { s with heap := (s.heap.push emptyDict).push (instObj C s.heap.objs.size) }) : codeAny (model prog w) A (.call (.ref C) ⟨rest, kw⟩) R s := by
  obtain ⟨hh, g, d, t, os⟩ := s
  exact make_core (makes_of X hm) (looks_findIn X hi) (fun self => bind_fn X self (beq_iff_eq.mp hf)) (.inl rfl) h

/-- x.name where the instance's dict holds the name and the class does not -/
theorem get_field {x C : Addr} {ox : Obj} {es : List DictEntry} {n : Nat} {name : Str} {expr : Bool} {v : Value} {Q : Value → Shared → Prop}
    (X : K.In s.heap) (I : PySem.W.InstAt s.heap x ox C (some (dictOf es n))) (hg : plainGet K C name = true) (hh : hasDictIn K C = true) (ha : findIn K (.ref C) name = some none)
    (hl : getL name es = some (some v)) (hv : handedIn v = true) (h : Q v { s with toks := s.toks + 1 }) : wpAny (model prog w) A (getAttr (.ref x) name expr) Q E s :=
  get_value X I (plainGet_of hg).1 (findObj_own hh ha rfl hl) hv h

/-- x.m(..): the method found in the class -/
theorem get_method {x C f : Addr} {ox : Obj} {es : List DictEntry} {n : Nat} {name : Str} {pl : Sem Bool} {Q : Value × List Value → Shared → Prop}
    (X : K.In s.heap) (I : PySem.W.InstAt s.heap x ox C (some (dictOf es n))) (hg : plainGet K C name = true) (hf : findIn K (.ref C) name = some (some (.ref f))) (ht : isFn K (.ref f) = true)
    (hl : getL name es = some none) (h : Q (.ref f, [.ref x]) s) : wpAny (model prog w) A (getMethod (.ref x) name pl) Q E s :=
  method_fn X I (plainGet_of hg).1 (plainGet_of hg).2 hf (beq_iff_eq.mp ht) (by show (lookIn name (dictOf es n)).map _ = _; rw [lookIn_dict, hl]; rfl) h

/-! the whole heap as the ledger: makes every rule that writes through a ledger a rule over any heap -/
def noObjs (h : Heap) : Heap := { h with objs := #[] }
theorem noObjs_get (h : Heap) (b : Addr) : (noObjs h).get? b = none := by
  cases e : (noObjs h).get? b with
  | none => rfl
  | some o => exact absurd (Heap.lt_size e) (Nat.not_lt_zero _)
def ledger (h : Heap) (L d : Addr) : List (Addr × Obj) := (List.range h.objs.size).filterMap fun a => if a = L ∨ a = d then none else (h.get? a).map fun o => (a, o)
theorem mem_ledger {h : Heap} {L d a : Addr} {o : Obj} : (a, o) ∈ ledger h L d ↔ a ≠ L ∧ a ≠ d ∧ h.get? a = some o := by
  unfold ledger
  rw [List.mem_filterMap]
  constructor
  · rintro ⟨b, _, e⟩
    split at e
    · cases e
    · rename_i hb
      obtain ⟨o', ho, e'⟩ := Option.map_eq_some_iff.mp e
      cases e'
      exact ⟨fun q => hb (.inl q), fun q => hb (.inr q), ho⟩
  · rintro ⟨n1, n2, ho⟩
    refine ⟨a, List.mem_range.mpr (Heap.lt_size ho), ?_⟩
    rw [if_neg (show ¬ (a = L ∨ a = d) from fun q => q.elim n1 n2), ho] <;> rfl
theorem news_ledger {h : Heap} {L d : Addr} {od : Obj} (hne : d ≠ L) (ho : h.get? d = some od) : News (noObjs h) L h ([] ++ (d, od) :: ledger h L d) := by
  rintro ⟨a, o⟩ hp
  rcases List.mem_cons.mp hp with e | hp
  · cases e
    exact ⟨ho, hne, noObjs_get _ _⟩
  · obtain ⟨n1, n2, e⟩ := mem_ledger.mp hp
    exact ⟨e, n1, noObjs_get _ _⟩
theorem fr_all {h : Heap} {L : Addr} {m : Str → Option Value} (n : h.Ns L m) : Fr (noObjs h) L h m :=
  ⟨n, fun b o e => (by rw [noObjs_get] at e; cases e), Nat.zero_le _⟩
/-- Upd of the head entry (for append_K, setItem_K ..) -/
theorem upd_ledger {h : Heap} {L d : Addr} {o o' : Obj} : Upd d o o' ((d, o) :: ledger h L d) ((d, o') :: ledger h L d) :=
  .head fun ⟨_, _⟩ hp => (mem_ledger.mp hp).2.1

/-- x.name = v over any heap: L is any namespace of the heap (the frame's, say): its map stays, its object is not told; all else but the dict stays -/
theorem set_field {x C dx L : Addr} {ox : Obj} {m : Str → Option Value} {es es' : List DictEntry} {n n' : Nat} {name : Str} {v : Value} {Q : Unit → Shared → Prop}
    (X : K.In s.heap) (I : PySem.W.InstAt s.heap x ox C (some (dictOf es n))) (hd : ox.dict = some dx) (hL : s.heap.Ns L m) (hne : dx ≠ L)
    (hs : findIn K (.ref C) "__setattr__" = some (some (.builtin "object.__setattr__"))) (hp : plainOver K C = true) (ht : takerIn K C name = some none) (hh : hasDictIn K C = true) (hl : (getL name es).isSome = true)
    (e : (putL name (PyData.keyHash w.params name) (.str name (s.toks + 1)) v es, putN name es n) = (es', n')) (hz : es'.length ≤ 1000)
    (h : ∀ h' : Heap, h'.Ns L m → h'.get? dx = some (dictOf es' n') → (∀ b o, b ≠ dx → b ≠ L → s.heap.get? b = some o → h'.get? b = some o) → Q () { s with heap := h', toks := s.toks + 2 }) :
    wpAny (model prog w) A (setAttr (.ref x) name v) Q E s := by
  obtain ⟨e1, e2⟩ := Prod.mk.inj e
  have hdx : s.heap.get? dx = some (dictOf es n) := by
    have := I.dict
    rw [hd] at this
    exact this
  refine set_plain X I hs (osa_dict (s := { s with toks := s.toks + 1 }) (h₀ := noObjs s.heap) (L := L) (m := m) (od := dictOf es n) (od' := dictOf es' n') (es := es') (n := n') (pre := []) (post := ledger s.heap L dx)
    (fr_all hL) (news_ledger hne hdx) X I hd hp ht hh hl (fun _ q => nomatch q) (fun ⟨_, _⟩ q => (mem_ledger.mp q).2.1) (by rw [putName_dict, e1, e2]) rfl hz fun h' F' N' => ?_)
  exact h h' F'.ns (N'.get (List.Mem.head _)) fun b o n1 n2 ho => N'.get (List.Mem.tail _ (mem_ledger.mpr ⟨n2, n1, ho⟩))
end
end Att

namespace L2
open PySem PySem.Spec PyProof.Rows

theorem vals_ints : ∀ {vs : List Value} {ns : List Int}, IntsAre vs ns → Vals (ns.map V.int) vs
  | _, _, .nil => .nil
  | _, _, .cons n t h => .cons ⟨t, rfl⟩ (vals_ints h)

/-- nothing is tracked but the script, known to the object (or it is an object of the module) -/
def Only (H : Hp) : Prop := ∀ b, H b = none ∨ ∃ o xs, H b = some (.frz o (.lst xs))

/-- THE HEAD: the law's promise, at the heap behind the top. F, the promise of the law's def, may use that base is part of the heap (so K.In base, base.Ns mainGlobals mg stand in Mod) -/
theorem law_call {P : Program} {w : World} {K : PySem.W.Frag} {mg mb : Str → Option Value} {CX : CXT} {k : Nat} {fa a : Addr} {fd : FuncData} {x : Str} {sp : Sp} {s₁ : Shared} {vs : List Value} {ns : List Int}
    (KX : K.In s₁.heap) (hns : s₁.heap.Ns mainGlobals mg) (hb : s₁.heap.Ns builtinsNs mb) (hbb : ∀ x : Str, x ≠ "__name__" → mb x = bootBuiltins x) (hlim : s₁.heap.NoLimit) (hg : s₁.gens = #[])
    (ha : s₁.heap.get? a = some { cls := .type "list", data := .seq vs.toArray }) (hi : IntsAre vs ns) (hl : ns.length ≤ sizeLine) (hr : Room k callerA)
    (F : ∀ base : Heap, K.In base → base.Ns mainGlobals mg → FnOk P w K mg base CX k fa fd [x] sp) (hbind : ∀ (s : Shared) (u : Value), BindsTo s fd ⟨[u], []⟩ [(x, u)])
    (hsp : ∀ H : Hp, Only H → SqL K H a (ns.map V.int) → sp [.ref a] H (fun v _ => v = .bl true) fun _ _ _ => False)
    (hCX : ∀ H e s', CX [] H s₁ (fun _ _ _ => False) e s' → False) :
    codeAny (model P w) callerA (.call (.ref fa) ⟨[.ref a], []⟩) (fun r s' => r = .ok (.ret (.bool true)) ∧ OldK s₁.heap s'.heap ∧ s'.os = s₁.os ∧ AllBare s'.gens) s₁ := by
  have rv := vals_ints hi
  have lenV := hi.length
  -- from an abstract heap in which nothing but the script may be tracked
  have core : ∀ H : Hp, Only H → SqL K H a (ns.map V.int) → HOk P w H s₁.heap → (∀ b, H b ≠ none → b = a) → (H a ≠ none → K.lookup a = none) →
      codeAny (model P w) callerA (.call (.ref fa) ⟨[.ref a], []⟩) (fun r s' => r = .ok (.ret (.bool true)) ∧ OldK s₁.heap s'.heap ∧ s'.os = s₁.os ∧ AllBare s'.gens) s₁ := by
    intro H hO hS hok hA hK
    have base_of : ∀ {b : Addr} {o : Obj}, s₁.heap.get? b = some o → H b = none → (hidT s₁.heap H).get? b = some o := fun e n => hidT_get e n
    have noA : ∀ {b : Addr} {o : Obj} {es : Array DictEntry} {ep : Nat}, s₁.heap.get? b = some o → o.data = .dict es ep → H b = none := fun {b o es ep} e d => by
      cases q : H b with
      | none => rfl
      | some u =>
        have e' : b = a := hA b (by rw [q]; simp)
        subst e'
        rw [ha] at e; cases e
        have d' : Data.seq vs.toArray _ = Data.dict es ep := d
        cases d'
    have nsK : ∀ {b : Addr} {m : Str → Option Value}, s₁.heap.Ns b m → (hidT s₁.heap H).Ns b m := fun {b m} ⟨o, es, ep, e, d, r⟩ => ⟨o, es, ep, base_of e (noA e d), d, r⟩
    have hKb : K.In (hidT s₁.heap H) := fun b o e => base_of (KX b o e) (by
      cases q : H b with
      | none => rfl
      | some u =>
        have e' : b = a := hA b (by rw [q]; simp)
        subst e'
        rw [hK (by rw [q]; simp)] at e; cases e)
    have hM : Mod K mg (hidT s₁.heap H) := ⟨hKb, nsK hns, ⟨mb, nsK hb, hbb⟩, let ⟨mc, h1, h2⟩ := hlim; ⟨mc, nsK h1, h2⟩⟩
    have e0 : Env0 P w K mg (hidT s₁.heap H) callerA [] s₁ H := ⟨rfl, hM, fun b o e => of_hidT e, Nat.le_of_eq (hidT_size _ _), trivial, fun b hb => absurd (show b ∈ ([] : List Addr) from hb) (by simp), hok, .of_eq hg⟩
    refine codeAny_mono ((F _ hKb (nsK hns)).run callerA [] s₁ H ⟨[.ref a], []⟩ [.ref a] [.ref a] _ _ hr e0 (hbind s₁ (.ref a)) (.cons rfl .nil) (hsp H hO hS)) fun r s' h => ?_
    cases r with
    | error e => exact (hCX H e s' h).elim
    | ok fl =>
      cases fl with
      | next => exact False.elim h
      | brk => exact False.elim h
      | cont => exact False.elim h
      | ret u =>
        obtain ⟨v, H', os, bare, un, hok', r', q⟩ := h
        have q' : v = .bl true := q
        subst q'
        obtain rfl : u = Value.bool true := r'
        refine ⟨rfl, OldK.of_keep fun b o e => ?_, os, bare⟩
        cases q : H b with
        | none => exact un.keep b o e q (by intro z; exact absurd (show b ∈ ([] : List Addr) from z) (by simp)) (by simp)
        | some u =>
          rcases hO b with z | ⟨ob, xs, z⟩
          · rw [q] at z; cases z
          · have z2 := un.frzs b ob _ z
            obtain ⟨e1, _⟩ := hok b _ z
            obtain ⟨e2, _⟩ := hok' b _ z2
            rw [e] at e1; cases e1
            exact e2
  cases hk : K.lookup a with
  | some o =>
    -- the script is one of the module's own objects
    have e := KX a o hk
    rw [ha] at e
    cases e
    refine core (fun _ => none) (fun _ => .inl rfl) (.inr ⟨_, vs.toArray, _, hk, rfl, rfl, rfl, by rw [List.size_toArray, lenV]; exact hl, by simpa using rv⟩) (fun b u z => by have z' : (none : Option HO) = some u := z; cases z') (fun b z => absurd rfl z) fun z => absurd rfl z
  | none =>
    refine core (fun b => if b = a then some (.frz { cls := .type "list", data := .seq vs.toArray } (.lst (ns.map V.int))) else none) (fun b => ?_) (.inl (.inr ⟨{ cls := .type "list", data := .seq vs.toArray }, if_pos rfl⟩)) (fun b u z => ?_) (fun b z => ?_) fun _ => hk
    · by_cases hb : b = a
      · exact .inr ⟨_, _, if_pos hb⟩
      · exact .inl (if_neg hb)
    · by_cases hb : b = a
      · have z' := (if_pos hb).symm.trans z
        cases z'
        subst hb
        exact ⟨ha, by rw [List.length_map]; exact hl, vs, _, rv, ha⟩
      · have z' := (if_neg hb).symm.trans z
        cases z'
    · by_cases hb : b = a
      · exact hb
      · exact absurd (if_neg hb) z
end L2

namespace L2
open PySem PySem.Spec PyProof.Rows

abbrev KOf {K : PySem.W.Frag} {h : Heap} (_ : K.In h) : PySem.W.Frag := K

/-- the goal that k_head leaves (case hc), from the law's promise. F gives the function object fd (K's own) once, then the promise over every base -/
theorem walk_of {l : PySem.W.OpenLaw} {n k : Nat} {q : Program} {loose : List Str} {XP : (Str → Option Value) → Heap → Prop} {YP : World → Heap → Prop} {d : DefRec} {K : Params → PySem.W.Frag} {CX : World → CXT} {sp : World → Sp} {x : Str}
    (hn : l.most = some n) (hn2 : n ≤ sizeLine) (hdf : d.params.defaults = []) (hr : Room k callerA)
    (hY : ∀ (w : World) (h : Heap), YP w h → (K w.params).In h)
    (F : ∀ (w : World) (mg : Str → Option Value) (fa : Addr) (h : Heap), (K w.params).In h → h.Ns mainGlobals mg → mg d.name = some (.ref fa) →
      ∃ fd : FuncData, (∀ (s : Shared) (u : Value), BindsTo s fd ⟨[u], []⟩ [(x, u)]) ∧
        ∀ base : Heap, (K w.params).In base → base.Ns mainGlobals mg → FnOk l.prog w (K w.params) mg base (CX w) k fa fd [x] (sp w))
    (hsp : ∀ (w : World) (H : Hp) (a : Addr) (ns : List Int), ns.length ≤ n → Only H → SqL (K w.params) H a (ns.map V.int) → sp w [.ref a] H (fun v _ => v = .bl true) fun _ _ _ => False)
    (hCX : ∀ (w : World) (H : Hp) (s : Shared) (e : Value) (s' : Shared), CX w [] H s (fun _ _ _ => False) e s' → False) :
    PySem.W.WalkO q loose XP YP l.row.toRowW d [] (fun f vs => PySem.call f vs) := by
  refine Att.attach_call hn hdf fun w s₀ s₁ mg mb fa o pm cd doc a vs ns G Y ho hd hcd hmg hobj hints hlen hg => ?_
  have KX := hY w _ Y
  obtain ⟨fd, hb, hF⟩ := F w mg fa _ KX G.T.g hmg
  exact law_call KX G.T.g G.T.b G.T.builtins G.T.nolimit hg hobj hints (Nat.le_trans hlen hn2) hr hF hb (fun H hO hS => hsp w H a ns hlen hO hS) fun H e s' => hCX w H s₁ e s'
/-- the same where the promise hangs on the written part alone: (sp := My.sp_law), no hole under a binder -/
theorem walk_ofK {l : PySem.W.OpenLaw} {n k : Nat} {q : Program} {loose : List Str} {XP : (Str → Option Value) → Heap → Prop} {YP : World → Heap → Prop} {d : DefRec} {K : Params → PySem.W.Frag} {CX : CXT} {sp : PySem.W.Frag → Sp} {x : Str}
    (hn : l.most = some n) (hn2 : n ≤ sizeLine) (hdf : d.params.defaults = []) (hr : Room k callerA)
    (hY : ∀ (w : World) (h : Heap), YP w h → (K w.params).In h)
    (F : ∀ (w : World) (mg : Str → Option Value) (fa : Addr) (h : Heap), (K w.params).In h → h.Ns mainGlobals mg → mg d.name = some (.ref fa) →
      ∃ fd : FuncData, (∀ (s : Shared) (u : Value), BindsTo s fd ⟨[u], []⟩ [(x, u)]) ∧
        ∀ base : Heap, (K w.params).In base → base.Ns mainGlobals mg → FnOk l.prog w (K w.params) mg base CX k fa fd [x] (sp (K w.params)))
    (hsp : ∀ (K : PySem.W.Frag) (H : Hp) (a : Addr) (ns : List Int), ns.length ≤ n → Only H → SqL K H a (ns.map V.int) → sp K [.ref a] H (fun v _ => v = .bl true) fun _ _ _ => False)
    (hCX : ∀ (H : Hp) (s : Shared) (e : Value) (s' : Shared), CX [] H s (fun _ _ _ => False) e s' → False) :
    PySem.W.WalkO q loose XP YP l.row.toRowW d [] (fun f vs => PySem.call f vs) :=
  walk_of (K := K) (CX := fun _ => CX) (sp := fun w => sp (K w.params)) hn hn2 hdf hr hY F (fun w H a ns h1 h2 h3 => hsp (K w.params) H a ns h1 h2 h3) fun _ H s e s' => hCX H s e s'
end L2



/-! SHORT WORDS over the layer: a def of the text, its body, what a loop and a test want. -/
namespace L2
open PySem PySem.Spec PyProof.Rows

/-! ### the text by places -/
/-- the j-th statement of a class's body -/
def inClass (s : Stmt) (j : Nat) : Stmt := match s with
  | .ClassDef _ _ _ body _ _ _ _ _ _ _ => body.getD j (.Pass ⟨0, 0, 0, 0⟩)
  | _ => .Pass ⟨0, 0, 0, 0⟩
def defArgs (s : Stmt) : Arguments := match s with
  | .FunctionDef _ a _ _ _ _ _ _ _ _ => a
  | _ => { posonlyargs := [], args := [], vararg := none, kwonlyargs := [], kw_defaults := [], kwarg := none, defaults := [] }
def defBody (s : Stmt) : List Stmt := match s with
  | .FunctionDef _ _ b _ _ _ _ _ _ _ => b
  | _ => []
def defScope (s : Stmt) : Scope := match s with
  | .FunctionDef _ _ _ _ _ _ sc _ _ _ => sc
  | _ => { kind := .function, names := [], isGenerator := false, isCoroutine := false }

/-! ### no exception leaves a def -/
abbrev CX0 : CXT := fun _ _ _ _ _ _ => False
abbrev E0 : XK := fun _ _ _ => False
theorem pass0 {X : Cx} : Passes CX0 X E0 := fun _ _ _ _ _ _ _ h => h.elim

/-! ### a def (or method) of the text as it stands behind the top -/
structure Fun (K : PySem.W.Frag) (x qual : Str) (st : Stmt) (f : Addr) (fd : FuncData) : Prop where
  ex : ∃ (oc : Value) (od : Option Addr) (kV doc pm : Value) (an : Option Addr) (cdv ct : Value) (osl : Array (Option Value)),
    fd = PySem.W.fnOf x qual (defArgs st) (defBody st) (defScope st) .none kV doc pm an cdv ct ∧ K.lookup f = some ⟨oc, od, .func fd, osl⟩ ∧ PySem.W.codeIn K cdv qual = true
  kp : PySem.W.keepIn K (.ref f) = true
section
variable {P : Program} {w : World} {K : PySem.W.Frag} {mg : Str → Option Value} {base : Heap}
/-- THE RULE for a def: its body as a term of rules, and the reading of that term -/
theorem Fun.ok {x qual : Str} {st : Stmt} {f : Addr} {fd : FuncData} {N ps : List Str} {k : Nat} {sp : Sp} (F : Fun K x qual st f fd) (S : FnScope N ps (defScope st)) (len : ∀ vs H Q E, sp vs H Q E → vs.length = ps.length)
    (hbody : ∀ (cdv : Value) (A : Around) (outer : List Env) (s : Shared) (H : Hp) (vs : List V) (Q : VK) (E : XK), Room k (A.deeper (envOfC qual (defScope st) s.heap.objs.size f cdv)) → sp vs H Q E →
      ∃ t, PSs (cxOf CX0 P w K mg base N qual (defScope st) f cdv A outer s H E).nox (defBody st) t ∧ t { nx := fun _ H' => Q .non H', rt := Q } (start N vs) H) : FnOk P w K mg base CX0 (k + 1) f fd ps sp := by
  obtain ⟨oc, od, kV, doc, pm, an, cdv, ct, osl, rfl, lk, hcd⟩ := F.ex
  refine fn_of lk hcd S len fun A outer s H vs Q E hr hsp => ?_
  obtain ⟨t, h, q⟩ := hbody cdv A outer s H vs Q E hr hsp
  exact ⟨t, h.nox, q⟩
/-- how its arguments bind (no defaults): h is «fun _ _ _ _ _ _ us hl => match us, hl with | [_, _], _ => rfl», one _ a parameter -/
theorem Fun.binds {x qual : Str} {st : Stmt} {f : Addr} {fd : FuncData} {ps : List Str} (F : Fun K x qual st f fd)
    (h : ∀ (kV doc pm : Value) (an : Option Addr) (cdv ct : Value) (us : List Value), us.length = ps.length → bindArgs (PySem.W.fnOf x qual (defArgs st) (defBody st) (defScope st) .none kV doc pm an cdv ct) ⟨us, []⟩ = pure (ps.zip us)) : Binds K fd ps [] := by
  obtain ⟨oc, od, kV, doc, pm, an, cdv, ct, osl, rfl, lk, hcd⟩ := F.ex
  exact .all (h kV doc pm an cdv ct)
theorem fun_mk {x qual : Str} {st : Stmt} {f : Addr} {oc : Value} {od an : Option Addr} {osl : Array (Option Value)} {kV doc pm cdv ct : Value} (l : K.lookup f = some ⟨oc, od, .func (PySem.W.fnOf x qual (defArgs st) (defBody st) (defScope st) .none kV doc pm an cdv ct), osl⟩)
    (c : PySem.W.codeIn K cdv qual = true) (k : PySem.W.keepIn K (.ref f) = true) : Fun K x qual st f (PySem.W.fnOf x qual (defArgs st) (defBody st) (defScope st) .none kV doc pm an cdv ct) := ⟨⟨oc, od, kV, doc, pm, an, cdv, ct, osl, rfl, l, c⟩, k⟩
end
theorem hu_of {A : Around} {k : Nat} (hr : Room k A) : A.units + 1 < cLine := Nat.lt_of_le_of_lt (Nat.add_le_add_left (by decide : 1 ≤ 64) _) hr.units
theorem small1000 {n : Nat} (h : n ≤ 1000) : n < sizeLine := Nat.lt_of_le_of_lt h (by decide)

/-! ### expressions in short: the name that stands in the i-th slot -/
section
variable {X : Cx}
theorem pv (i : Nat) {x : Str} {pos : Pos} (hN : X.N[i]? = some x := by rfl) (hv : Vis X.env.scope x := by first | exact Or.inl rfl | exact Or.inr (Or.inl rfl) | exact Or.inr (Or.inr rfl)) (hd : (x == ("__debug__" : Str)) = false := by decide)
    (hcd : (x == ("__classdict__" : Str)) = false := by decide) : PE X (.Name x pos) (tVar i) := pe_var hN hv hd hcd
end

/-! ### tests -/
theorem iteF {A B : Prop} (h : B) : if false = true then A else B := by
  rw [if_neg Bool.false_ne_true]
  exact h
theorem iteT {A B : Prop} (h : A) : if true = true then A else B := by
  rw [if_pos rfl]
  exact h
theorem ite2 {c A B : Prop} [Decidable c] (h1 : c → A) (h2 : ¬ c → B) : if c then A else B := by
  by_cases h : c
  · rw [if_pos h]
    exact h1 h
  · rw [if_neg h]
    exact h2 h
theorem iteNS {c A B : Prop} [Decidable c] (hc : c) (h : B) : if (!decide c) = true then A else B := by
  rw [decide_eq_true hc]
  exact iteF h

/-! ### heaps -/
/-- all that was tracked is as it was -/
def Same (H H' : Hp) : Prop := ∀ b o, H b = some o → H' b = some o
theorem Same.refl (H : Hp) : Same H H := fun _ _ h => h
theorem Same.trans {H H1 H2 : Hp} (a : Same H H1) (b : Same H1 H2) : Same H H2 := fun c o h => b c o (a c o h)
theorem Same.free {H H' : Hp} (e : Same H H') {l : Addr} (h : H' l = Option.none) : H l = Option.none := by
  cases q : H l with
  | none => rfl
  | some o =>
    rw [e l o q] at h
    cases h
theorem Same.seq {K : PySem.W.Frag} {H H' : Hp} {a : Addr} {xs : List V} (e : Same H H') (h : SqL K H a xs) : SqL K H' a xs := by
  rcases h with (h | ⟨o, h⟩) | h
  · exact .inl (.inl (e _ _ h))
  · exact .inl (.inr ⟨o, e _ _ h⟩)
  · exact .inr h

end L2
set_option Elab.async false
set_option linter.all false
set_option maxRecDepth 100000
set_option maxHeartbeats 4000000
/-! EXTENSION 1 over the hand layer: comprehensions of one clause, loops over texts, slices of texts, upper, all, isinstance, texts compared. -/
namespace L2
open PySem PySem.Spec PyProof.Rows

theorem same_new {H : Hp} {p : Addr} (h : H p = none) (o : HO) : Same H (upd H p o) := fun b u q => by rw [upd_ne (ne_of_none q h)]; exact q
/-- two statements, by what stands between them -/
def tMid (t u : TS) : TS := fun D σ H => ∃ M : St → Hp → Prop, t { D with nx := M } σ H ∧ ∀ σ' H', M σ' H' → u D σ' H'
theorem pss_mid {X : Cx} {st : Stmt} {rest : List Stmt} {t u : TS} (h1 : PS X st t) (h2 : PSs X rest u) : PSs X (st :: rest) (tMid t u) := by
  intro pins s σ H D I ⟨M, h, hM⟩
  refine wpAny_execs_cons (thn (h1 pins s σ H { D with nx := M } I h) fun f s1 q => ?_)
  cases f with
  | next =>
    obtain ⟨σ', H', I', q⟩ := q
    exact h2 pins s1 σ' H' D I' (hM _ _ q)
  | ret v => exact q
  | brk => exact q
  | cont => exact q
/-- an if whose outcome does not matter -/
def tIfN (c : TT) (t u : TS) : TS := fun D σ H => ∃ M : Hp → Prop, (c σ H fun _ H1 => M H1) ∧ ∀ H1, M H1 → t D σ H1 ∧ u D σ H1
theorem ps_ifN {X : Cx} {c : Expr} {a b : List Stmt} {pos : Pos} {tc : TT} {t u : TS} (hc : PT X c tc) (ha : PSs X a t) (hb : PSs X b u) : PS X (.If c a b pos) (tIfN tc t u) := by
  intro pins s σ H D I ⟨M, h, hM⟩
  refine wpAny_If (thn (hc pins s σ H _ I h) fun d s1 ⟨H1, I1, q1⟩ => ?_)
  cases d with
  | true => exact ha pins s1 σ H1 D I1 (hM H1 q1).1
  | false => exact hb pins s1 σ H1 D I1 (hM H1 q1).2
/-! ### a display of written texts, all items at once -/
def strOf : Expr → Option Str
  | .Constant (.str x) _ _ => some x
  | _ => none
def strsOf : List Expr → Option (List Str)
  | [] => some []
  | e :: r => (strOf e).bind fun x => (strsOf r).map fun xs => x :: xs
def tStrs (xs : List Str) : TA := fun _ H Q => Q (xs.map V.str) H
theorem pa_strs {X : Cx} : ∀ {es : List Expr} (xs : List Str), strsOf es = some xs → PA X es (tStrs xs)
  | [], xs, h => by
    cases h
    exact pa_nil
  | e :: r, xs, h => by
    cases he : strOf e with
    | none => rw [strsOf, he] at h; cases h
    | some x =>
      cases hr : strsOf r with
      | none => rw [strsOf, he, hr] at h; cases h
      | some ys =>
        rw [strsOf, he, hr] at h
        cases h
        have hc : ∃ k p, e = .Constant (.str x) k p := by
          unfold strOf at he
          split at he
          · cases he; exact ⟨_, _, rfl⟩
          · cases he
        obtain ⟨k, p, rfl⟩ := hc
        intro pos pins s σ H Q I q
        have z : PA X (.Constant (.str x) k p :: r) (tCons (tC (.str x)) (tStrs ys)) := pa_cons pe_str (pa_strs ys hr)
        exact z pos pins s σ H Q I q
/-! ### what a comprehension's block captures -/
def capOf (cells : List (Str × Addr)) : List (Str × NameKind) → List (Str × Addr) → List (Str × Addr)
  | [], acc => acc
  | (n, k) :: r, acc => capOf cells r (if k == .free then (n, (cells.lookup n).getD 0) :: acc else acc)
theorem capOf_loop (env : Env) : ∀ (names : List (Str × NameKind)) (acc : List (Str × Addr)), (∀ y ∈ names, y.2 = .free → ∃ c, env.cells.lookup y.1 = some c) →
    (forIn names acc (fun (x : Str × NameKind) (cs : List (Str × Addr)) => if (x.2 == NameKind.free) = true then do let a ← cellOf env x.1; pure (ForInStep.yield ((x.1, a) :: cs)) else pure (ForInStep.yield cs)) : Sem (List (Str × Addr))) = pure (capOf env.cells names acc)
  | [], acc, _ => rfl
  | (n, k) :: r, acc, h => by
    have ih := fun acc' => capOf_loop env r acc' fun y hy => h y (List.mem_cons_of_mem _ hy)
    rw [List.forIn_cons]
    cases hk : k == NameKind.free with
    | false =>
      simp only [capOf, hk, Bool.false_eq_true, if_false, pure_bind]
      exact ih acc
    | true =>
      obtain ⟨c, hc⟩ := h (n, k) List.mem_cons_self (by simpa using hk)
      have hc' : env.cells.lookup n = some c := hc
      have e : cellOf env n = pure c := by unfold cellOf; rw [hc']
      simp only [capOf, hk, if_true, e, pure_bind, hc', Option.getD_some]
      exact ih _
theorem closure_cap {scope : Scope} {env : Env} (h : ∀ y ∈ scope.names, y.2 = .free → ∃ c, env.cells.lookup y.1 = some c) : closureFor scope env = pure (capOf env.cells scope.names []) := by
  unfold closureFor
  have q := capOf_loop env scope.names [] h
  first
    | exact q
    | (simp only [bind_pure]; exact q)
    | (rw [show (forIn scope.names [] _ : Sem (List (Str × Addr))) = _ from q]; rfl)
theorem capOf_some {cells : List (Str × Addr)} {x : Str} {c : Addr} : ∀ (names : List (Str × NameKind)) (acc : List (Str × Addr)), (∀ y ∈ names, y.2 = .free → ∃ c, cells.lookup y.1 = some c) →
    (capOf cells names acc).lookup x = some c → acc.lookup x = some c ∨ cells.lookup x = some c
  | [], acc, _, h => .inl h
  | (n, k) :: r, acc, hf, h => by
    have hf' : ∀ y ∈ r, y.2 = .free → ∃ c, cells.lookup y.1 = some c := fun y hy => hf y (List.mem_cons_of_mem _ hy)
    cases hk : k == NameKind.free with
    | false =>
      simp only [capOf, hk, Bool.false_eq_true, if_false] at h
      exact capOf_some r acc hf' h
    | true =>
      simp only [capOf, hk, if_true] at h
      rcases capOf_some r _ hf' h with h | h
      · rw [List.lookup_cons] at h
        cases hx : x == n with
        | true =>
          rw [hx] at h
          obtain ⟨c', hc⟩ := hf (n, k) List.mem_cons_self (by simpa using hk)
          have hc' : cells.lookup n = some c' := hc
          have e : x = n := by simpa using hx
          simp only [hc', Option.getD_some] at h
          cases h
          exact .inr (by rw [e]; exact hc')
        | false => rw [hx] at h; exact .inl h
      · exact .inr h
theorem capOf_keep {cells : List (Str × Addr)} {x : Str} : ∀ (names : List (Str × NameKind)) (acc : List (Str × Addr)), (∃ c, acc.lookup x = some c) → ∃ c, (capOf cells names acc).lookup x = some c
  | [], _, h => h
  | (n, k) :: r, acc, h => by
    unfold capOf
    refine capOf_keep r _ ?_
    cases hk : k == NameKind.free with
    | false => simpa using h
    | true =>
      simp only [if_true]
      rw [List.lookup_cons]
      cases hx : x == n with
      | true => exact ⟨_, rfl⟩
      | false => exact h
theorem capOf_has {cells : List (Str × Addr)} {x : Str} : ∀ (names : List (Str × NameKind)) (acc : List (Str × Addr)), (x, NameKind.free) ∈ names → ∃ c, (capOf cells names acc).lookup x = some c
  | [], _, h => nomatch h
  | (n, k) :: r, acc, h => by
    rcases List.mem_cons.mp h with e | h
    · cases e
      unfold capOf
      refine capOf_keep r _ ?_
      simp only [beq_self_eq_true, if_true]
      refine ⟨(cells.lookup x).getD 0, ?_⟩
      rw [List.lookup_cons]
      simp
    · exact capOf_has r _ h

/-! ### the scope of a block: its own names are local, what it captures is a cell of the def -/
def blkOk (scope outer : Scope) : Bool :=
  (scope.kind == .function) && scope.names.all fun y => (y.2 != .cell) && (y.2 != .local || scope.names.lookup y.1 == some .local) && (y.2 != .free || (outer.names.lookup y.1 == some .cell || outer.names.lookup y.1 == some .free))
theorem blk_kind {scope outer : Scope} (h : blkOk scope outer = true) : scope.kind = .function := by
  unfold blkOk at h; rw [Bool.and_eq_true] at h; simpa using h.1
theorem blk_all {scope outer : Scope} (h : blkOk scope outer = true) : ∀ y ∈ scope.names, y.2 ≠ .cell ∧ (y.2 = .local → scope.names.lookup y.1 = some .local) ∧ (y.2 = .free → outer.names.lookup y.1 = some .cell ∨ outer.names.lookup y.1 = some .free) := by
  unfold blkOk at h; rw [Bool.and_eq_true, List.all_eq_true] at h
  intro y hy
  have q := h.2 y hy
  simp only [Bool.and_eq_true, Bool.or_eq_true, bne_iff_ne, beq_iff_eq, ne_eq] at q
  refine ⟨q.1.1, fun e => ?_, fun e => ?_⟩
  · rcases q.1.2 with z | z
    · exact absurd e z
    · exact z
  · rcases q.2 with z | z
    · exact absurd e z
    · exact z
/-- the captured names by their slots in the def -/
def capsOk (XN : List Str) (scope : Scope) : List Str → List Nat → Bool
  | [], [] => true
  | x :: r, i :: t => (XN[i]? == some x) && (scope.names.lookup x == some .free) && capsOk XN scope r t
  | _, _ => false
theorem caps_get {XN : List Str} {scope : Scope} : ∀ {cs : List Str} {caps : List Nat} {j : Nat} {x : Str}, capsOk XN scope cs caps = true → cs[j]? = some x → ∃ i, caps[j]? = some i ∧ XN[i]? = some x ∧ scope.names.lookup x = some .free
  | [], _, j, x, _, h => by simp at h
  | y :: r, [], j, x, h, _ => by simp [capsOk] at h
  | y :: r, i :: t, 0, x, h, e => by
    simp only [capsOk, Bool.and_eq_true, beq_iff_eq] at h
    simp at e; subst e
    exact ⟨i, rfl, h.1.1, h.1.2⟩
  | y :: r, i :: t, j + 1, x, h, e => by
    simp only [capsOk, Bool.and_eq_true] at h
    obtain ⟨k, h1, h2⟩ := caps_get (j := j) (x := x) h.2 (by simpa using e)
    exact ⟨k, by simpa using h1, h2⟩
theorem caps_len {XN : List Str} {scope : Scope} : ∀ {cs : List Str} {caps : List Nat}, capsOk XN scope cs caps = true → cs.length = caps.length
  | [], [], _ => rfl
  | [], _ :: _, h => by simp [capsOk] at h
  | _ :: _, [], h => by simp [capsOk] at h
  | y :: r, i :: t, h => by
    simp only [capsOk, Bool.and_eq_true] at h
    simp [caps_len h.2]

/-- the names' values at a block's entry: nl own ones, then the captured -/
def stC (nl : Nat) (caps : List Nat) (σ : St) : St := List.replicate nl none ++ caps.map fun i => (σ[i]?).getD none

/-- the context of a comprehension's block, entered at s -/
def cxC (X : Cx) (scope : Scope) (N : List Str) (s : Shared) (H : Hp) (fp : List Addr) : Cx :=
  { X with N := N, s₀ := s, H₀ := H, env := compEnvC scope (capOf X.env.cells scope.names []) (s.heap.objs.size + 1) X.env, outer := X.stack, stack := X.stack, ex := fp, fn := fun _ => false, pn := [], xe := fun _ _ => False }

section
variable {X : Cx} {pins : List (Addr × Obj)} {σ : St} {H : Hp} {s : Shared} {scope : Scope} {N : List Str} {fp : List Addr}
theorem relabel_names_lookup {env : Env} {x : Str} {k : NameKind} : ∀ {names : List (Str × NameKind)}, 
    (names.map fun (n, k) => if (k == NameKind.free && env.scope.kind == .function && env.kindOf n == some .cell) then (n, NameKind.cell) else (n, k)).lookup x = some k → (k = .cell ∨ k = .free) → (x, NameKind.cell) ∈ names ∨ (x, NameKind.free) ∈ names
  | [], h, _ => by simp at h
  | (n, k') :: r, h, hk => by
    have h' : List.lookup x ((if (k' == NameKind.free && env.scope.kind == .function && env.kindOf n == some .cell) = true then (n, NameKind.cell) else (n, k')) :: (r.map fun (n, k) => if (k == NameKind.free && env.scope.kind == .function && env.kindOf n == some .cell) then (n, NameKind.cell) else (n, k))) = some k := h
    by_cases hc : (k' == NameKind.free && env.scope.kind == .function && env.kindOf n == some .cell) = true
    · rw [if_pos hc, List.lookup_cons] at h'
      cases hx : x == n with
      | true =>
        have e : x = n := by simpa using hx
        have e2 : k' = .free := by
          rw [Bool.and_eq_true, Bool.and_eq_true] at hc
          simpa using hc.1.1
        subst e; subst e2
        exact .inr List.mem_cons_self
      | false =>
        rw [hx] at h'
        exact (relabel_names_lookup h' hk).imp (List.mem_cons_of_mem _) (List.mem_cons_of_mem _)
    · rw [if_neg hc, List.lookup_cons] at h'
      cases hx : x == n with
      | true =>
        rw [hx] at h'
        have e : x = n := by simpa using hx
        cases h'
        subst e
        rcases hk with rfl | rfl
        · exact .inl List.mem_cons_self
        · exact .inr List.mem_cons_self
      | false =>
        rw [hx] at h'
        exact (relabel_names_lookup h' hk).imp (List.mem_cons_of_mem _) (List.mem_cons_of_mem _)
theorem lookup_relabel_free {env : Env} : ∀ {names : List (Str × NameKind)} {x : Str}, names.lookup x = some .free →
    (names.map fun (n, k) => if (k == NameKind.free && env.scope.kind == .function && env.kindOf n == some .cell) then (n, NameKind.cell) else (n, k)).lookup x = some .cell ∨
    (names.map fun (n, k) => if (k == NameKind.free && env.scope.kind == .function && env.kindOf n == some .cell) then (n, NameKind.cell) else (n, k)).lookup x = some .free
  | [], _, h => by simp at h
  | (n, k) :: r, x, h => by
    have ih := @lookup_relabel_free env r x
    show List.lookup x ((if (k == NameKind.free && env.scope.kind == .function && env.kindOf n == some .cell) = true then (n, NameKind.cell) else (n, k)) :: _) = _ ∨ List.lookup x ((if (k == NameKind.free && env.scope.kind == .function && env.kindOf n == some .cell) = true then (n, NameKind.cell) else (n, k)) :: _) = _
    cases hx : x == n with
    | true =>
      simp only [List.lookup_cons, hx] at h
      cases h
      by_cases hc : (NameKind.free == NameKind.free && env.scope.kind == .function && env.kindOf n == some .cell) = true
      · rw [if_pos hc]; left; simp [List.lookup_cons, hx]
      · rw [if_neg hc]; right; simp [List.lookup_cons, hx]
    | false =>
      simp only [List.lookup_cons, hx] at h
      by_cases hc : (k == NameKind.free && env.scope.kind == .function && env.kindOf n == some .cell) = true
      · rw [if_pos hc]; simp only [List.lookup_cons, hx]; exact ih h
      · rw [if_neg hc]; simp only [List.lookup_cons, hx]; exact ih h

theorem free_cells (I : Inv X pins σ H s) (hb : blkOk scope X.env.scope = true) : ∀ y ∈ scope.names, y.2 = .free → ∃ c, X.env.cells.lookup y.1 = some c := fun y hy e =>
  I.ok.has y.1 ((blk_all hb y hy).2.2 e)

/-- the block's context is one -/
theorem cxC_ok (I : Inv X pins σ H s) (hb : blkOk scope X.env.scope = true) (hf : ∀ b ∈ fp, FpOk X pins H b) (hlt : ∀ b ∈ fp, b < s.heap.objs.size) : (cxC X scope N s H fp).Ok where
  mod := I.ok.mod
  kind := show scope.kind = .function from blk_kind (outer := X.env.scope) hb
  glob := I.ok.glob
  blt := I.ok.blt
  above := Nat.le_succ _
  inj := fun x y c h1 h2 => by
    have q1 := (capOf_some scope.names [] (free_cells I hb) h1).resolve_left (by simp)
    have q2 := (capOf_some scope.names [] (free_cells I hb) h2).resolve_left (by simp)
    exact I.ok.inj x y c q1 q2
  has := fun x hx => by
    have hx' : (relabel scope X.env).names.lookup x = some .cell ∨ (relabel scope X.env).names.lookup x = some .free := hx
    have q : (x, NameKind.cell) ∈ scope.names ∨ (x, NameKind.free) ∈ scope.names := by
      rcases hx' with z | z
      · exact relabel_names_lookup z (.inl rfl)
      · exact relabel_names_lookup z (.inr rfl)
    rcases q with q | q
    · exact absurd rfl (blk_all hb _ q).1
    · exact capOf_has scope.names [] q
  cab := fun x c h => nomatch h
  hd := I.ok.hd
  frames := I.ok.frames
  stk := .inl rfl
  exf := fun b hbm => ⟨Nat.ne_of_lt (Nat.lt_succ_of_lt (hlt b hbm)), fun x c e => by
    have q := (capOf_some scope.names [] (free_cells I hb) e).resolve_left (by simp)
    exact (hf b hbm).2.2.2.2.1 x c q⟩
  bs := I.bs
  bsz := Nat.le_trans I.ok.bsz I.sz
  noex := fun b o e hbm => by
    rcases (hf b hbm).2.2.2.1 with z | z
    · exact I.ok.noex b o e z
    · exact absurd (Nat.lt_of_lt_of_le (Heap.lt_size e) (Nat.le_trans I.ok.bsz z)) (Nat.lt_irrefl _)
  exfs := fun b hbm z => by
    rcases List.mem_cons.mp (I.stkSub b z) with e | e
    · exact (hf b hbm).2.1 e
    · exact (hf b hbm).2.2.1 e
  funs := I.stack
  frf := I.stkFree

/-- behind the block: the def goes on -/
theorem cxC_back {σ' : St} {H' : Hp} {s' : Shared} (I : Inv X pins σ H s) (hf : ∀ b ∈ fp, FpOk X pins H b) (J : Inv (cxC X scope N s H fp) [] σ' H' s') : Inv X pins σ H' s' :=
  I.call' J.os J.base J.hok J.bare fun b hb => ⟨(hf b hb).2.2.2.1, (hf b hb).2.1, (hf b hb).2.2.2.2.1, (hf b hb).2.2.2.2.2⟩
end

/-! ### the tests of a clause -/
def PTs (X : Cx) (ifs : List Expr) (t : TT) : Prop :=
  ∀ (pins : List (Addr × Obj)) (s : Shared) (σ : St) (H : Hp) (Q : Bool → Hp → Prop), Inv X pins σ H s → t σ H Q →
    wpAny (model X.prog X.w) X.A (forIn ifs true fun c r => if r = true then do let ok ← isTrue c X.env (eval c X.env); pure (ForInStep.yield ok) else pure (ForInStep.yield r)) (TP X pins σ Q) X.xe s
def tYes : TT := fun _ H Q => Q true H
theorem pts_nil {X : Cx} : PTs X [] tYes := fun _ _ _ H _ I h => wpAny_tests_nil ⟨H, I, h⟩
theorem pts_one {X : Cx} {c : Expr} {t : TT} (hc : PT X c t) : PTs X [c] t := fun pins s σ H Q I h => wpAny_tests_one (hc pins s σ H Q I h)

theorem comp_loop {prog : Program} {w : World} {A : Around} {R : Result → Shared → Prop} {s : Shared} {elt target iter : Expr} {ifs : List Expr} {scope : Scope} {pos : Pos} {it acc : Value} {env : Env} (I : Nat → Shared → Prop)
    (turn : ∀ n s, I n s → wpAny (model prog w) A (pyNext it) (fun r s₁ => match r with
      | none => R (.ok .next) s₁
      | some v => wpAny (model prog w) A (letOwnedTupleGo target it v) (fun _ s₁' => wpAny (model prog w) A (assign target env v) (fun _ s₂ =>
          wpAny (model prog w) A (forIn ifs true fun c r => if r = true then do let ok ← isTrue c env (eval c env); pure (ForInStep.yield ok) else pure (ForInStep.yield r)) (fun ok s₃ =>
            if ok = true then wpAny (model prog w) A (eval elt env) (fun x s₄ =>
              wpAny (model prog w) A (call (.builtin "list.append") [acc, x]) (fun _ s₅ => ∃ m, m < n ∧ I m s₅) (fun _ _ => False) s₄) (fun _ _ => False) s₃
            else ∃ m, m < n ∧ I m s₃) (fun _ _ => False) s₂) (fun _ _ => False) s₁') (fun _ _ => False) s₁) (fun _ _ => False) s)
    (n : Nat) (h : I n s) : codeAny (model prog w) A (.compLoop (.ListComp elt [⟨target, iter, ifs, 0⟩] scope pos) 0 it acc env) R s := by
  refine codeAny_loop rfl I (fun n s hI => ?_) n h
  show wpAny _ A ((compTurn (.ListComp elt [⟨target, iter, ifs, 0⟩] scope pos) 0 it acc env).onRaise (fun x => do noteFrame x env; theTreesLotGoes x)) _ _ s
  refine wpAny_noted ?_
  refine wpAny_noRaise ?_
  rw [compTurn_list]
  refine wpAny_bind (wpAny_standAt (wpAny_bind (wpAny_mono (turn n s hI) (fun r s₁ h₁ => ?_) fun _ _ h' => h')))
  cases r with
  | none => exact wpAny_pure h₁
  | some v =>
    refine wpAny_bind (wpAny_mono h₁ (fun _ s₁' h₁' => ?_) fun _ _ h' => h')
    refine wpAny_bind (wpAny_mono h₁' (fun _ s₂ h₂ => wpAny_bind (wpAny_mono h₂ (fun ok s₃ h₃ => ?_) fun _ _ h' => h')) fun _ _ h' => h')
    cases ok with
    | false => exact wpAny_pure ⟨rfl, h₃⟩
    | true =>
      exact wpAny_bind (wpAny_bind (wpAny_mono h₃ (fun x s₄ h₄ => wpAny_bind (wpAny_mono h₄ (fun _ s₅ h₅ => wpAny_pure (wpAny_pure ⟨rfl, h₅⟩)) fun _ _ h' => h')) fun _ _ h' => h'))

/-! ### a list comprehension -/
/-- what is wanted at the end: the new list stands at D -/
def cmpR (J : It) (g : TG) (tc : TT) (te : TE) (D : Addr) (Fin : Hp → Prop) (σ0 : St) (H0 : Hp) : Prop :=
  ∃ W : Nat → Nat → St → Hp → Prop, (∃ m, W 0 m σ0 H0) ∧ ∀ i m σ H, W i m σ H →
    (J.stop i H ∧ Fin H) ∨ (J.go i H ∧ ∃ N : St → Hp → Prop, (∀ σ' H', N σ' H' → ∃ m', m' < m ∧ W (i + 1) m' σ' H') ∧ ∀ x H1, J.yld i H x H1 → g x σ H1 fun σ2 H2 => tc σ2 H2 fun b H3 =>
      if b = true then te σ2 H3 fun v H4 => ∃ xs, H4 D = some (.lst xs) ∧ xs.length < sizeLine ∧ N σ2 (upd H4 D (.lst (xs ++ [v]))) else N σ2 H3)
/-- .. n turns, by what holds ahead of each -/
theorem cmp_by {J : It} {g : TG} {tc : TT} {te : TE} {D : Addr} {Fin : Hp → Prop} {σ0 : St} {H0 : Hp} (n : Nat) (Pv : Nat → St → Hp → Prop) (h0 : Pv 0 σ0 H0) (hend : ∀ σ H, Pv n σ H → J.stop n H ∧ Fin H)
    (hs : ∀ i σ H, i < n → Pv i σ H → J.go i H ∧ ∀ x H1, J.yld i H x H1 → g x σ H1 fun σ2 H2 => tc σ2 H2 fun b H3 =>
      if b = true then te σ2 H3 fun v H4 => ∃ xs, H4 D = some (.lst xs) ∧ xs.length < sizeLine ∧ Pv (i + 1) σ2 (upd H4 D (.lst (xs ++ [v]))) else Pv (i + 1) σ2 H3) : cmpR J g tc te D Fin σ0 H0 := by
  refine ⟨fun i m σ H => m = n - i ∧ i ≤ n ∧ Pv i σ H, ⟨n, by simp, Nat.zero_le _, h0⟩, ?_⟩
  rintro i m σ H ⟨rfl, hi, p⟩
  by_cases hlt : i < n
  · obtain ⟨q1, q2⟩ := hs i σ H hlt p
    exact .inr ⟨q1, Pv (i + 1), fun σ' H' p' => ⟨n - (i + 1), by omega, rfl, hlt, p'⟩, q2⟩
  · have e : i = n := by omega
    subst e
    exact .inl (hend σ H p)
def tComp (wi : TI) (g : TG) (tc : TT) (te : TE) (nl : Nat) (caps : List Nat) : TE := fun σ H Q =>
  wi σ H fun J H1 => ∀ D, H1 D = none → cmpR J g tc te D (fun H' => Q (.ref D) H') (stC nl caps σ) (upd H1 D (.lst []))

section
variable {X : Cx} {tg iter elt : Expr} {ifs : List Expr} {scope : Scope} {pos : Pos} {wi : TI} {g : TG} {tc : TT} {te : TE} {locs cs : List Str} {caps : List Nat}

theorem comp_block {pins : List (Addr × Obj)} {σ : St} {H : Hp} {s : Shared} {it : Addr} {fp : List Addr} {tn : Nat → Heap → Prop} {J : It} {RR : Value → Addr → Result → Shared → Prop} {E : Value → Shared → Prop} {Fin : Hp → Prop}
    (hc : X.calm = true) (hb : blkOk scope X.env.scope = true) (hcap : capsOk X.N scope cs caps = true)
    (I : Inv X pins σ H s) (T : Turn X.prog X.w X.K tg J fp it tn) (st : tn 0 s.heap) (hf : ∀ b ∈ fp, FpOk X pins H b)
    (hg : PG (cxC X scope (locs ++ cs) s H fp) tg g) (ht : PTs (cxC X scope (locs ++ cs) s H fp) ifs tc) (he : PE (cxC X scope (locs ++ cs) s H fp) elt te)
    (h : cmpR J g tc te s.heap.objs.size Fin (stC locs.length caps σ) (upd H s.heap.objs.size (.lst [])))
    (hRR : ∀ σ' H' s', Inv (cxC X scope (locs ++ cs) s H fp) [] σ' H' s' → Fin H' → RR (.ref s.heap.objs.size) (s.heap.objs.size + 1) (.ok .next) s') :
    wpAny (model X.prog X.w) X.A (newList []) (fun acc s₃ => wpAny (model X.prog X.w) X.A (newFunctionEnv scope X.env.globals (capOf X.env.cells scope.names []) [] X.env.qual none .none (some X.env)) (fun cenv s₄ =>
      codeAny (model X.prog X.w) X.A (.compStart (.ListComp elt [⟨tg, iter, ifs, 0⟩] scope pos) 0 (.ref it) acc { cenv with scope := relabel scope X.env }) (RR acc cenv.locals) s₄) E s₃) E s := by
  have hcell : ∀ y ∈ scope.names, y.2 ≠ .cell := fun y hy => (blk_all hb y hy).1
  have hkind := blk_kind hb
  have hlt : ∀ b ∈ fp, b < s.heap.objs.size := fun b hbm => by
    obtain ⟨o, e, _⟩ := T.obj 0 _ st b hbm
    exact Heap.lt_size e
  refine wpAny_newObj_type (wpAny_newFunctionEnv hcell (by intro y hy; simp at hy) (fun h₁ hns₁ hsb₁ => ?_) hkind)
  dsimp only at hns₁ hsb₁ ⊢
  generalize hH2 : s.heap.push { cls := .type "list", dict := none, data := .seq ([] : List Value).toArray } = H2 at hns₁ hsb₁ ⊢
  have hC : H2.objs.size = s.heap.objs.size + 1 := by rw [← hH2, Heap.size_push]
  rw [hC] at hns₁ hsb₁ ⊢
  have hDC : s.heap.objs.size ≠ s.heap.objs.size + 1 := Nat.ne_of_lt (Nat.lt_succ_self _)
  have below : ∀ b, b < s.heap.objs.size → b ≠ s.heap.objs.size + 1 := fun b hb => Nat.ne_of_lt (Nat.lt_succ_of_lt hb)
  have old : ∀ b o, s.heap.get? b = some o → h₁.get? b = some o := fun b o e => hsb₁.extBut b o (below b (Heap.lt_size e)) (Heap.get?_push_of_some _ (hH2 ▸ Heap.get?_push_of_some _ e))
  have hD : h₁.get? s.heap.objs.size = some { cls := .type "list", dict := none, data := .seq ([] : List Value).toArray } :=
    hsb₁.extBut _ _ hDC (Heap.get?_push_of_some _ (hH2 ▸ Heap.get?_push_size _ rfl))
  have frC : H (s.heap.objs.size + 1) = none := I.hok.fresh (Nat.le_succ _)
  have frD : H s.heap.objs.size = none := I.hok.fresh (Nat.le_refl _)
  -- the block's entry
  have J0 : Inv (cxC X scope (locs ++ cs) s H fp) [] (stC locs.length caps σ) (upd H s.heap.objs.size (.lst [])) { s with heap := h₁, toks := s.toks + ([] : List (Str × Value)).length } := by
    refine ⟨cxC_ok I hb hf hlt, rfl, I.bare, Un.laid old (Nat.le_refl _) frD, ⟨_, hns₁, fun i x v e1 e2 e3 => ?_⟩, fun x c e => ?_, ?_, fun x c e => ?_, fun p hp => absurd (show p ∈ ([] : List (Addr × Obj)) from hp) (by simp), ?_, ?_⟩
    · have e1' : (locs ++ cs)[i]? = some x := e1
      have hi : locs.length ≤ i := by
        rcases Nat.lt_or_ge i locs.length with hi | hi
        · unfold stC at e2
          rw [List.getElem?_append_left (by simpa using hi), List.getElem?_replicate] at e2
          split at e2 <;> cases e2
        · exact hi
      rw [List.getElem?_append_right hi] at e1'
      obtain ⟨k, q1, q2, q3⟩ := caps_get hcap e1'
      unfold stC at e2
      rw [List.getElem?_append_right (by simpa using hi), List.length_replicate, List.getElem?_map, q1] at e2
      have e2' : (σ[k]?).getD none = some v := by simpa using e2
      have e4 : σ[k]? = some (some v) := by
        cases z : σ[k]? with
        | none => rw [z] at e2'; cases e2'
        | some o => rw [z] at e2'; simp at e2'; rw [e2']
      have hfr := (blk_all hb _ (PySem.mem_of_lookup q3)).2.2 rfl
      obtain ⟨m, hn, hl⟩ := I.loc
      obtain ⟨u, r, l⟩ := hl k x v q2 e4 (hfr.elim (fun z => .inr (.inl z)) fun z => .inr (.inr z))
      refine ⟨u, r, .inr ⟨?_, ?_⟩⟩
      · exact lookup_relabel_free q3
      · rcases l with ⟨k1, _⟩ | ⟨_, c, ec, z⟩
        · exfalso
          have k1' : X.env.scope.names.lookup x = some .local := k1
          rcases hfr with z | z <;> (rw [k1'] at z; cases z)
        · obtain ⟨c', ec'⟩ := capOf_has (cells := X.env.cells) scope.names [] (PySem.mem_of_lookup q3)
          have q := (capOf_some scope.names [] (free_cells I hb) ec').resolve_left (by simp)
          rw [ec] at q; cases q
          obtain ⟨o, ho, hd⟩ := z
          exact ⟨c, ec', o, old _ _ ho, hd⟩
    · have q := (capOf_some scope.names [] (free_cells I hb) e).resolve_left (by simp)
      obtain ⟨v, o, ho, hd⟩ := I.cell x c q
      exact ⟨v, o, old _ _ ho, hd⟩
    · show upd H s.heap.objs.size (.lst []) (s.heap.objs.size + 1) = none
      rw [upd_ne (Ne.symm hDC)]
      exact frC
    · have q := (capOf_some scope.names [] (free_cells I hb) e).resolve_left (by simp)
      obtain ⟨v, o, ho, hd⟩ := I.cell x c q
      rw [upd_ne (Nat.ne_of_lt (Heap.lt_size ho))]
      exact I.freeC x c q
    · exact I.hok.laid old (Nat.le_refl _) ⟨Nat.zero_le _, [], 0, .nil, hD⟩
    · show (stC locs.length caps σ).length = (locs ++ cs).length
      unfold stC
      rw [List.length_append, List.length_replicate, List.length_map, List.length_append, caps_len hcap]
  obtain ⟨W, ⟨m0, w0⟩, turn⟩ := h
  have stat : ∀ {H' : Hp}, (∀ b ∈ fp, H' b = none) → ∀ b ∈ fp, FpOk (cxC X scope (locs ++ cs) s H fp) [] H' b := fun {H'} hn b hbm => by
    have q := (cxC_ok (N := locs ++ cs) I hb hf hlt)
    refine ⟨hn b hbm, (q.exf b hbm).1, q.exfs b hbm, .inl hbm, (q.exf b hbm).2, fun p hp => absurd (show p ∈ ([] : List (Addr × Obj)) from hp) (by simp)⟩
  have fr0 : ∀ b ∈ fp, upd H s.heap.objs.size (.lst []) b = none := fun b hbm => by rw [upd_ne (Nat.ne_of_lt (hlt b hbm))]; exact (hf b hbm).1
  have loop : ∀ s₃ : Shared, s₃ = { s with heap := h₁, toks := s.toks + ([] : List (Str × Value)).length } →
      codeAny (model X.prog X.w) X.A (.compLoop (.ListComp elt [⟨tg, iter, ifs, 0⟩] scope pos) 0 (.ref it) (.ref s.heap.objs.size) (cxC X scope (locs ++ cs) s H fp).env) (RR (.ref s.heap.objs.size) (s.heap.objs.size + 1)) s₃ := by
    rintro s₃ rfl
    refine comp_loop (fun n s' => ∃ i σ' H', Inv (cxC X scope (locs ++ cs) s H fp) [] σ' H' s' ∧ tn i s'.heap ∧ (∀ b ∈ fp, H' b = none) ∧ W i n σ' H') ?_ m0
      ⟨0, _, _, J0, T.keep _ _ _ st fun b _ o e => old b o e, fr0, w0⟩
    rintro n s3 ⟨i, σ3, H3, I3, st3, fr3, w3⟩
    rcases turn i n σ3 H3 w3 with ⟨stop, qn⟩ | ⟨go, Nn, hNn, step⟩
    · refine thn (T.done (cxC X scope (locs ++ cs) s H fp) rfl rfl rfl hc i [] s3 σ3 H3 _ I3 (stat fr3) st3 stop) fun r s4 ⟨hr, I4⟩ => ?_
      subst hr
      exact hRR σ3 H3 s4 I4 qn
    · refine thn (T.item (cxC X scope (locs ++ cs) s H fp) rfl rfl rfl hc i [] s3 σ3 H3 _ I3 (stat fr3) st3 go) fun r s4 ⟨u, hr, h4⟩ => ?_
      subst hr
      refine thn h4 fun _ s5 ⟨x, H5, I5, r5, y5, st5, fr5⟩ => ?_
      have I5' := I5.pinned (stat fr5) (T.obj _ _ st5)
      have again : ∀ {σ7 : St} {H7 : Hp} {s7 : Shared}, Inv (cxC X scope (locs ++ cs) s H fp) ([] ++ pinsAt fp s5.heap) σ7 H7 s7 → Nn σ7 H7 →
          ∃ m, m < n ∧ ∃ i σ' H', Inv (cxC X scope (locs ++ cs) s H fp) [] σ' H' s7 ∧ tn i s7.heap ∧ (∀ b ∈ fp, H' b = none) ∧ W i m σ' H' := fun {σ7 H7 s7} I7 n7 => by
        obtain ⟨m', hm, w7⟩ := hNn σ7 H7 n7
        refine ⟨m', hm, i + 1, σ7, H7, I7.unpinned, T.keep _ _ _ st5 fun b hb o e => (I7.pin (b, o) (List.mem_append_right _ (List.mem_append_right _ (mem_pinsAt hb e)))).1, fun b hb => ?_, w7⟩
        obtain ⟨o, e, d⟩ := T.obj _ _ st5 b hb
        exact (I7.pin (b, o) (List.mem_append_right _ (List.mem_append_right _ (mem_pinsAt hb e)))).2.1
      refine thn (hg _ s5 σ3 H5 x u _ I5' r5 (step x H5 y5)) fun _ s6 ⟨σ6, H6, I6, q6⟩ => ?_
      refine thn (ht _ s6 σ6 H6 _ I6 q6) fun b s7 ⟨H7, I7, q7⟩ => ?_
      cases b with
      | false => exact again I7 q7
      | true =>
        refine thn (he _ s7 σ6 H7 _ I7 q7) fun u8 s8 ⟨v8, H8, I8, r8, xs, e8, z8, q8⟩ => ?_
        refine thn (mt_append (X := cxC X scope (locs ++ cs) s H fp) ([] ++ pinsAt fp s5.heap) s8 σ6 H8 (.ref s.heap.objs.size) [v8] (.ref s.heap.objs.size) [u8] (fun _ H9 => Nn σ6 H9) I8 rfl (.cons r8 .nil) ⟨_, xs, v8, rfl, rfl, e8, z8, q8⟩) fun _ s9 ⟨_, H9, I9, _, q9⟩ => ?_
        exact again I9 q9
  exact codeAny_compStart_list (loop _ rfl) (T.self _ 0 _ _ _ (T.keep _ _ _ st fun b _ o e => old b o e) (loop _ rfl))

/-- [elt for tg in iter if ..] -/
theorem pe_comp (locs cs : List Str) (caps : List Nat) (hc : X.calm = true) (hi : PI X tg iter wi) (hg : ∀ s H fp, PG (cxC X scope (locs ++ cs) s H fp) tg g) (ht : ∀ s H fp, PTs (cxC X scope (locs ++ cs) s H fp) ifs tc) (he : ∀ s H fp, PE (cxC X scope (locs ++ cs) s H fp) elt te)
    (hb : blkOk scope X.env.scope = true := by rfl) (hcap : capsOk X.N scope cs caps = true := by rfl) (hs : ∀ x, foldedSetIterable iter X.env x = pure x := by intro _; rfl) :
    PE X (.ListComp elt [⟨tg, iter, ifs, 0⟩] scope pos) (tComp wi g tc te locs.length caps) := by
  intro pins s σ H Q I h
  rw [eval_ListComp]
  refine wpAny_comprehension_free (use := none) rfl hs (closure_cap (free_cells I hb)) (blk_kind hb) (fun y hy => (blk_all hb y hy).2.1) (thn (hi pins s σ H _ I h) fun v s1 h1 => thn h1 fun itv s2 h2 => ?_)
  obtain ⟨it, fp, tn, J, H2, e, I2, T, st2, f2, q⟩ := h2
  subst e
  refine comp_block (RR := fun acc C => compPost (model X.prog X.w) X.A X.xe none (EP X pins σ Q) acc C) (locs := locs) (cs := cs) (Fin := fun H' => Q (.ref s2.heap.objs.size) H') hc hb hcap I2 T st2 f2 (hg _ _ _) (ht _ _ _) (he _ _ _) (q _ (I2.hok.fresh (Nat.le_refl _))) ?_
  intro σ' H' s' J' q'
  obtain ⟨m, hn, _⟩ := J'.loc
  refine ⟨m, hn, fun h' hs' => ?_⟩
  have I3 := cxC_back I2 f2 J'
  have fr : H' (s2.heap.objs.size + 1) = none := J'.free
  refine ⟨.ref s2.heap.objs.size, H', I3.turned (t' := s'.toks) (it := s2.heap.objs.size + 1) (fun b o hb e => (hs'.2 b hb).trans e) fr ?_ (.inr (Nat.le_trans I2.sz (Nat.le_succ _))) ?_ ?_, rfl, q'⟩
  · exact Nat.ne_of_gt (Nat.lt_succ_of_lt I2.lt)
  · intro x c e z
    obtain ⟨v, hv⟩ := I2.cell x c e
    have h1 : s2.heap.objs.size + 1 < s2.heap.objs.size := z ▸ hv.lt
    exact absurd h1 (Nat.not_lt.mpr (Nat.le_succ _))
  · intro p hp z
    have h1 : s2.heap.objs.size + 1 < s2.heap.objs.size := z ▸ Heap.lt_size (I2.pin p hp).1
    exact absurd h1 (Nat.not_lt.mpr (Nat.le_succ _))
/-- x = [elt for tg in iter if ..], x a plain local: it is stored ahead of the block's end -/
theorem ps_setC {i : Nat} {y : Str} {py spos : Pos} (locs cs : List Str) (caps : List Nat) (hN : X.N.Nodup) (hiy : X.N[i]? = some y) (hc : X.calm = true) (hi : PI X tg iter wi) (hg : ∀ s H fp, PG (cxC X scope (locs ++ cs) s H fp) tg g) (ht : ∀ s H fp, PTs (cxC X scope (locs ++ cs) s H fp) ifs tc) (he : ∀ s H fp, PE (cxC X scope (locs ++ cs) s H fp) elt te)
    (hy : X.env.scope.names.lookup y = some .local := by rfl)
    (hsw : swapsWith (.ListComp elt [⟨tg, iter, ifs, 0⟩] scope pos) (some (.Name y py)) spos.line X.env = pure true := by rfl)
    (hb : blkOk scope X.env.scope = true := by rfl) (hcap : capsOk X.N scope cs caps = true := by rfl) (hs : ∀ x, foldedSetIterable iter X.env x = pure x := by intro _; rfl) :
    PS X (.Assign [.Name y py] (.ListComp elt [⟨tg, iter, ifs, 0⟩] scope pos) spos) (tAsg (tComp wi g tc te locs.length caps) (gName i)) := by
  intro pins s σ H D I h
  rw [exec_Assign_Name_used _ _ _ _ hsw]
  refine wpAny_bind (wpAny_standAt (wpAny_bind ?_))
  show wpAny _ X.A (do let _ ← comprehension (.ListComp elt [⟨tg, iter, ifs, 0⟩] scope pos) scope X.env _ (newList []) false (eval iter X.env) (some (assign (.Name y py) X.env))) _ _ s
  refine wpAny_bind (wpAny_mono (wpAny_comprehension_free (use := some (assign (.Name y py) X.env)) (Q := fun _ s' => SP X pins D .next s') rfl hs (closure_cap (free_cells I hb)) (blk_kind hb) (fun y hy => (blk_all hb y hy).2.1)
    (thn (hi pins s σ H _ I h) fun v s1 h1 => thn h1 fun itv s2 h2 => ?_)) (fun _ s' hq => wpAny_pure (wpAny_pure hq)) fun _ _ e => e)
  obtain ⟨it, fp, tn, J, H2, e, I2, T, st2, f2, q⟩ := h2
  subst e
  refine comp_block (RR := fun acc C => compPost (model X.prog X.w) X.A X.xe (some (assign (.Name y py) X.env)) (fun _ s' => SP X pins D .next s') acc C) (locs := locs) (cs := cs) (Fin := fun H' => gName i (.ref s2.heap.objs.size) σ H' D.nx) hc hb hcap I2 T st2 f2 (hg _ _ _) (ht _ _ _) (he _ _ _) (q _ (I2.hok.fresh (Nat.le_refl _))) ?_
  intro σ' H' s' J' q'
  obtain ⟨m, hn, _⟩ := J'.loc
  have I3 := cxC_back I2 f2 J'
  have fr : H' (s2.heap.objs.size + 1) = none := J'.free
  have neL : s2.heap.objs.size + 1 ≠ X.env.locals := Nat.ne_of_gt (Nat.lt_succ_of_lt I2.lt)
  have neC : ∀ x c, X.env.cells.lookup x = some c → c ≠ s2.heap.objs.size + 1 := fun x c e z => by
    obtain ⟨v, hv⟩ := I2.cell x c e
    have h1 : s2.heap.objs.size + 1 < s2.heap.objs.size := z ▸ hv.lt
    exact absurd h1 (Nat.not_lt.mpr (Nat.le_succ _))
  show wpAny _ X.A (assign (.Name y py) X.env (.ref s2.heap.objs.size)) _ _ s'
  refine wpAny_assign_Name (store_ok2 I3 hN hiy (.inl hy) (v := .ref s2.heap.objs.size) rfl (fun s4 I4 hsb => ?_) (.inr hy))
  obtain ⟨a, sb, ha⟩ := hsb
  have ane : s2.heap.objs.size + 1 ≠ a := by
    rcases ha with rfl | ha
    · exact neL
    · exact Ne.symm (neC _ _ ha)
  refine ⟨m, hn.sameBut sb ane, fun h' hs' => ?_⟩
  refine ⟨_, H', I4.turned (t' := s4.toks) (it := s2.heap.objs.size + 1) (fun b o hb e => (hs'.2 b hb).trans e) fr neL (.inr (Nat.le_trans I2.sz (Nat.le_succ _))) neC ?_, q'⟩
  intro p hp z
  have h1 : s2.heap.objs.size + 1 < s2.heap.objs.size := z ▸ Heap.lt_size (I2.pin p hp).1
  exact absurd h1 (Nat.not_lt.mpr (Nat.le_succ _))
end

/-! ### loops over a text -/
def Its (x : Str) : It := ⟨fun i _ => i < x.cps.size, fun i H v H' => H' = H ∧ ∃ c, x.cps[i]? = some c ∧ v = .str ⟨#[c]⟩, fun i _ => i = x.cps.size⟩
theorem turn_str {P : Program} {w : World} {K : PySem.W.Frag} {tg : Expr} (it : Addr) (x : Str) (t : Tok) (T : String) (hT : T = "str_ascii_iterator" ∨ T = "str_iterator")
    (W : ∀ A' : Around, A'.handled = none → Walks P w A' it [it] [it] x.cps.size (SignAt x) (fun i h => h.IsStrIter it T x t i)) : Turn P w K tg (Its x) [it] it (fun i h => h.IsStrIter it T x t i) where
  mem := by simp
  obj := fun i h st b hb => by
    have e : b = it := by simpa using hb
    subst e
    obtain ⟨o, e, c, d⟩ := st
    exact ⟨o, e, fun v z => by rw [d] at z; cases z⟩
  keep := fun i h h' st k => by
    obtain ⟨o, e, r⟩ := st
    exact ⟨o, k it (by simp) o e, r⟩
  item := by
    intro X hP hw hK hc i pins s σ H E I hf st hg
    subst hP hw hK
    obtain ⟨f0, f1, f2, f3, f4, f5⟩ := hf it (by simp)
    refine (W X.A (I.ok.hd hc)).item i s _ _ hg st fun v h' tk hv st' kk => ?_
    obtain ⟨c, u, hcx, rfl⟩ := hv
    have I1 : Inv X pins σ H { s with heap := h', toks := tk } := I.turned (fun b o hb e => kk b o (by simpa using hb) e) f0 f1 f3 f4 f5
    obtain ⟨o, e, c1, d⟩ := id st'
    refine ⟨_, rfl, go_of (s := { s with heap := h', toks := tk }) e c1 d (by rcases hT with rfl | rfl <;> decide) ⟨.str ⟨#[c]⟩, H, I1, ⟨u, rfl⟩, ⟨rfl, c, hcx, rfl⟩, st', fun b hb => (hf b hb).1⟩⟩
  done := by
    intro X hP hw hK hc i pins s σ H E I hf st hg
    subst hP hw hK
    have hg' : i = x.cps.size := hg
    subst hg'
    obtain ⟨f0, f1, f2, f3, f4, f5⟩ := hf it (by simp)
    exact (W X.A (I.ok.hd hc)).done s _ _ st fun h' tk kk => ⟨rfl, I.turned (fun b o hb e => kk b o (by simpa using hb) e) f0 f1 f3 f4 f5⟩
  self := fun A i s Q E st h => by
    rcases hT with rfl | rfl
    · exact wpAny_pyIter_striter_ascii st h
    · exact wpAny_pyIter_striter_wide st h
section
variable {X : Cx} {tg : Expr}
def iStr (tl : TE) : TI := fun σ H R => tl σ H fun x H1 => ∃ z, x = .str z ∧ R (Its z) H1
theorem pi_str {l : Expr} {tl : TE} (hl : PE X l tl) : PI X tg l (iStr tl) := by
  intro pins s σ H R I h
  refine thn (hl pins s σ H _ I h) fun v s1 ⟨x, H1, I1, r1, q1⟩ => ?_
  obtain ⟨z, rfl, q⟩ := q1
  obtain ⟨t, rfl⟩ := r1
  have fin : ∀ (T : String) (o : Obj), (T = "str_ascii_iterator" ∨ T = "str_iterator") → (∀ A' : Around, A'.handled = none → Walks X.prog X.w A' s1.heap.objs.size [s1.heap.objs.size] [s1.heap.objs.size] z.cps.size (SignAt z) (fun i h => h.IsStrIter s1.heap.objs.size T z t i)) →
      (s1.heap.push o).IsStrIter s1.heap.objs.size T z t 0 → PIE X pins σ tg R (.ref s1.heap.objs.size) { s1 with heap := s1.heap.push o } := fun T o hT W st => by
    refine ⟨s1.heap.objs.size, [s1.heap.objs.size], _, _, H1, rfl, I1.kept (t' := s1.toks) fun b o e => Heap.get?_push_of_some _ e, turn_str _ z t T hT W, st, fun b hb => ?_, q⟩
    have e : b = s1.heap.objs.size := by simpa using hb
    subst e
    exact I1.fpOk (Nat.le_refl _) (I1.hok.fresh (Nat.le_refl _))
  cases ha : z.cps.all (· < 128)
  · exact wpAny_pyIter_wide ha (fin "str_iterator" _ (.inr rfl) (fun A' hA => Walks.strWide hA _ z t) ⟨_, Heap.get?_push_size _ rfl, rfl, rfl⟩)
  · exact wpAny_pyIter_ascii ha (fin "str_ascii_iterator" _ (.inl rfl) (fun A' hA => Walks.strAscii hA _ z t) ⟨_, Heap.get?_push_size _ rfl, rfl, rfl⟩)
end

theorem for_str {z : Str} {g : TG} {tb : TS} {D : Ends} {σ : St} {H : Hp} (Pv : Nat → St → Hp → Prop) (h0 : Pv 0 σ H)
    (hs : ∀ i c σ H, z.cps[i]? = some c → Pv i σ H → g (.str ⟨#[c]⟩) σ H fun σ2 H2 => tb { D with nx := Pv (i + 1), ct := Pv (i + 1), bk := D.nx } σ2 H2) (hd : ∀ σ H, Pv z.cps.size σ H → D.nx σ H) :
    ∃ W : Nat → Nat → St → Hp → Prop, (∃ m, W 0 m σ H) ∧ ∀ i m σ H, W i m σ H →
      ((Its z).stop i H ∧ D.nx σ H) ∨ ((Its z).go i H ∧ ∃ N : St → Hp → Prop, (∀ σ' H', N σ' H' → ∃ m', m' < m ∧ W (i + 1) m' σ' H') ∧ ∀ x H', (Its z).yld i H x H' → g x σ H' fun σ2 H2 => tb { D with nx := N, ct := N, bk := D.nx } σ2 H2) := by
  refine ⟨fun i m σ H => m = z.cps.size - i ∧ i ≤ z.cps.size ∧ Pv i σ H, ⟨z.cps.size, by simp, Nat.zero_le _, h0⟩, ?_⟩
  rintro i m σ H ⟨rfl, hi, p⟩
  by_cases hlt : i < z.cps.size
  · refine .inr ⟨hlt, Pv (i + 1), fun σ' H' p' => ⟨z.cps.size - (i + 1), by omega, rfl, hlt, p'⟩, fun x H' y => ?_⟩
    obtain ⟨e, c, hc, rfl⟩ := y
    subst e
    exact hs i c σ _ hc p
  · have e : i = z.cps.size := by omega
    subst e
    exact .inl ⟨rfl, hd σ H p⟩

/-! ### texts: slices, upper, <= -/
section
variable {X : Cx}
theorem part_val {u : Value} {o : Option Int} (p : IsPart u o) : ∃ l : Option (Int × Tok), u = partValue l ∧ l.map (·.1) = o := by
  cases p with
  | none => exact ⟨none, rfl, rfl⟩
  | int i t => exact ⟨some (i, t), rfl, rfl⟩
/-- x[lo:hi] of a text -/
def rSlS : V → Option Int → Option Int → Hp → VK → Prop := fun x lo hi H Q => ∃ z, x = .str z ∧ z.length ≤ sizeLine ∧ Q (.str (Txt.slice z lo hi)) H
theorem sl_str : SlR X rSlS := by
  intro pins s σ H x v vl vu lo hi sl Q I rx hs pl pu h
  obtain ⟨z, rfl, hz, q⟩ := h
  obtain ⟨t, rfl⟩ := rx
  obtain ⟨l, rfl, rfl⟩ := part_val pl
  obtain ⟨u, rfl, rfl⟩ := part_val pu
  refine ⟨"str", _, F.slot_str_getitem.lookup, typeIs_str _ _ _, wpAny_getItem_str_slice (l := l) (u := u) (st := none) hs rfl ?_⟩
  exact post_val_or_str ⟨Nat.le_trans (Txt.slice_le z _ _) hz, fun t' k => ⟨.str (Txt.slice z (l.map (·.1)) (u.map (·.1))), H, I.tok _, ⟨t', rfl⟩, q⟩⟩
theorem idx_cut (lo hi : Option Int) (n : Nat) : Builtin.Str.strSliceIndices lo hi 1 n = (List.range (HT.sIx n n hi - HT.sIx n 0 lo)).map fun k => HT.sIx n 0 lo + k := by
  have c : ∀ (v : Int) (d : Nat), max 0 (min (if v < 0 then v + (n : Int) else v) (n : Int)) = ((HT.sIx n d (some v) : Nat) : Int) := fun v d => by
    rw [← HT.clip_eq v n d]
    by_cases hv : v < 0
    · simp only [if_pos hv]; omega
    · simp only [if_neg hv]; omega
  have key : ∀ i j : Nat, sliceRange (i : Int) (j : Int) 1 = (List.range (j - i)).map fun k => i + k := fun i j => by
    unfold sliceRange
    simp only [show (1 : Int) > 0 by decide, if_true]
    have e : (if (i : Int) < (j : Int) then ((j : Int) - i + 1 - 1) / 1 else 0).toNat = j - i := by
      split <;> omega
    rw [e]
    refine List.map_congr_left fun k _ => ?_
    omega
  rw [← key]
  unfold Builtin.Str.strSliceIndices
  simp only [show (1 : Int) > 0 by decide, if_true]
  cases lo with
  | none =>
    cases hi with
    | none => rfl
    | some v => rw [← c v n]; rfl
  | some u =>
    cases hi with
    | none => rw [← c u 0]; rfl
    | some v => rw [← c v n, ← c u 0]
theorem slice_cps (x : Str) (lo hi : Option Int) : (Txt.slice x lo hi).cps.toList = (x.cps.toList.drop (HT.sIx x.length 0 lo)).take (HT.sIx x.length x.length hi - HT.sIx x.length 0 lo) := by
  have h0 := HT.sIx_le x.length 0 (Nat.zero_le _) lo
  have h1 := HT.sIx_le x.length x.length (Nat.le_refl _) hi
  have hx : x.cps.toList.length = x.length := by simp [Str.length]
  unfold Txt.slice
  rw [idx_cut]
  split
  · rename_i h
    rw [Bool.and_eq_true] at h
    have h' : HT.sIx x.length x.length hi - HT.sIx x.length 0 lo = x.length := by
      have z := h.2
      rw [List.length_map, List.length_range] at z
      exact eq_of_beq z
    have h2 : HT.sIx x.length 0 lo = 0 := by omega
    rw [h', h2, List.drop_zero, List.take_of_length_le (by omega)]
  · show (List.filterMap _ _).toArray.toList = _
    rw [List.filterMap_map]
    apply List.ext_getElem?
    intro k
    have key : (List.range (HT.sIx x.length x.length hi - HT.sIx x.length 0 lo)).filterMap ((fun i => x.cps[i]?) ∘ fun k => HT.sIx x.length 0 lo + k) = (x.cps.toList.drop (HT.sIx x.length 0 lo)).take (HT.sIx x.length x.length hi - HT.sIx x.length 0 lo) := by
      generalize HT.sIx x.length 0 lo = i at h0 ⊢
      have hj : i + (HT.sIx x.length x.length hi - i) ≤ x.length ∨ HT.sIx x.length x.length hi - i = 0 := by omega
      generalize HT.sIx x.length x.length hi - i = d at hj ⊢
      induction d with
      | zero => simp
      | succ d ih =>
        rw [List.range_succ, List.filterMap_append, ih (by omega), List.take_add_one]
        congr 1
        have hlt : i + d < x.cps.size := by simp [Str.length] at hj; omega
        simp [hlt]
    simpa using congrArg (fun l : List Nat => l[k]?) key
def rUpper : V → List V → Hp → VK → Prop := fun x vs H Q => ∃ z, x = .str z ∧ vs = [] ∧ z.length ≤ 1000 ∧ Q (.str (Txt.upper z)) H
theorem mt_upper : MtR X "str.upper" rUpper := by
  intro pins s σ H x xs v us Q I rx rs h
  obtain ⟨z, rfl, rfl, hz, q⟩ := h
  obtain ⟨t, rfl⟩ := rx
  cases rs
  exact SCL.upper (by omega) fun _ => ⟨.str (Txt.upper z), H, I.tok _, ⟨_, rfl⟩, q⟩
theorem op_le_str : OpR X (compareOp .LtE) (fun x y H Q => ∃ i j, x = .str i ∧ y = .str j ∧ Q (.bl (!decide (j.cps.toList < i.cps.toList))) H) := by
  intro pins s σ H x y v u Q I rx ry h
  obtain ⟨i, j, rfl, rfl, q⟩ := h
  obtain ⟨t, rfl⟩ := rx
  obtain ⟨t', rfl⟩ := ry
  exact P.le_str ⟨.bl (!decide (j.cps.toList < i.cps.toList)), H, I, rfl, q⟩
/-! ### all of a list of bools; isinstance -/
theorem range_all (bs : List Bool) : (List.range bs.length).all (fun i => (bs[i]?).getD true) = bs.all id := by
  rw [Bool.eq_iff_iff, List.all_eq_true, List.all_eq_true]
  constructor
  · intro h b hb
    obtain ⟨i, hi, e⟩ := List.mem_iff_getElem.mp hb
    have q := h i (List.mem_range.mpr hi)
    rw [List.getElem?_eq_getElem hi, e] at q
    exact q
  · intro h i hi
    have hi' := List.mem_range.mp hi
    rw [List.getElem?_eq_getElem hi']
    exact h _ (List.getElem_mem hi')
theorem call_allB (hc : X.calm = true) : CallR X (.builtin "all") (fun xs H Q => ∃ (p : Addr) (bs : List Bool), xs = [.ref p] ∧ SqL X.K H p (bs.map V.bl) ∧ Q (.bl (bs.all id)) H) := by
  intro pins s σ H xs us Q I r h
  obtain ⟨p, bs, rfl, hp, q⟩ := h
  obtain ⟨u, rfl, ru⟩ := r.one
  cases ru
  obtain ⟨its, rv, pl, hz⟩ := I.list hp
  have hh : X.A.in1.handled = none := I.ok.hd hc
  have hlt : p < s.heap.objs.size := by obtain ⟨_, e, _⟩ := pl.isList; exact Heap.lt_size e
  have hlen : its.length = bs.length := by have := rv.length; simpa using this.symm
  refine call_all_walk (wpAny_pyIter_list pl.isList ⟨s.heap.objs.size, [s.heap.objs.size, p], [s.heap.objs.size], its.toArray.size, _, _, fun i => (bs[i]?).getD true, rfl, Walks.list hh _ _ (Nat.ne_of_lt hlt) its.toArray, ⟨⟨_, Heap.get?_push_size _ rfl, rfl, rfl⟩, pl.isList.push _⟩, ?_, ?_⟩)
  · intro i v s' Q' E' hv hq
    have hv' : its[i]? = some v := by simpa using hv
    cases hb : bs[i]? with
    | none =>
      have z : bs.length ≤ i := by simpa using hb
      rw [List.getElem?_eq_none (by omega)] at hv'
      cases hv'
    | some b =>
      obtain ⟨u, hu, ru⟩ := rv.get (i := i) (x := V.bl b) (by rw [List.getElem?_map, hb]; rfl)
      rw [hv'] at hu
      cases hu
      obtain rfl : v = Value.bool b := ru
      have hq' : Q' b s' := by
        have z : (fun i => (bs[i]?).getD true) i = b := by simp [hb]
        rw [z] at hq
        exact hq
      exact wpAny_truthy_bool hq'
  · intro h' tk hk
    have I1 : Inv X pins σ H { s with heap := h', toks := tk } := I.kept fun b o e => hk b o (fun z => by
      have z' : b = s.heap.objs.size := by simpa using z
      exact absurd (z' ▸ Heap.lt_size e) (Nat.lt_irrefl _)) (Heap.get?_push_of_some _ e)
    refine ⟨.bl (bs.all id), H, I1, ?_, q⟩
    show Value.bool _ = Value.bool _
    rw [List.size_toArray, hlen, range_all]
theorem call_isinst : CallR X (.builtin "isinstance") (fun xs H Q => ∃ x n t b, xs = [x, .ty n] ∧ TyOf X.K H x t ∧ PySem.W.kitOne X.K t (.type n) = some b ∧ Q (.bl b) H) := by
  intro pins s σ H xs us Q I r h
  obtain ⟨x, n, t, b, rfl, ty, e, q⟩ := h
  obtain ⟨u, v, rfl, ru, rv⟩ := r.two
  cases rv
  exact isinst_ok I ru ty e fun tk => ⟨.bl b, H, I.tok _, rfl, q⟩
end
end L2
set_option Elab.async false
set_option linter.all false
set_option maxRecDepth 100000
set_option maxHeartbeats 4000000
/-! EXTENSION 2: the greatest of a list of ints; kinds as data: a name, or a tuple ("both", C, D), ("some", r, C); == and in over kinds. -/
namespace L2
open PySem PySem.Spec PyProof.Rows
section
variable {X : Cx}
theorem call_max1 (hc : X.calm = true) : CallR X (.builtin "max") (fun xs H Q => ∃ (p : Addr) (ns : List Int), xs = [.ref p] ∧ SqL X.K H p (ns.map V.int) ∧ 0 < ns.length ∧ ∀ m : Int, m ∈ ns → (∀ a ∈ ns, a ≤ m) → Q (.int m) H) := by
  intro pins s σ H xs us Q I r h
  obtain ⟨p, ns, rfl, hp, hne, q⟩ := h
  obtain ⟨u, rfl, ru⟩ := r.one
  cases ru
  obtain ⟨its, rv, pl, hz⟩ := I.list hp
  have hi : IntsAre its ns := intsAre_of rv
  have hl := pl.isList
  obtain ⟨xs, e⟩ := hi.allInts.items
  have hns : ns = xs.toList.map (·.1) := by
    rw [← hi.numsOf, ← nums_intItems, ← e]
  have hsz : 0 < xs.size := by
    have h3 := hne; rw [hns, List.length_map, Array.length_toList] at h3; exact h3
  rw [e] at hl
  refine max_intList (I.ok.hd hc) hl hsz fun v h' tk hv hk => ?_
  obtain ⟨t, rfl⟩ := intItems_at hv
  obtain ⟨h1, h2⟩ := argBest_gt (numAt xs) (xs.size - 1)
  refine ⟨.int _, H, I.kept (t' := tk) hk, ⟨t, rfl⟩, q _ ?_ fun a ha => ?_⟩
  · rw [hns, numAt_eq]; exact getD_mem (by rw [List.length_map, Array.length_toList]; omega)
  · rw [hns] at ha
    obtain ⟨j, hj, rfl⟩ := mem_getD ha
    rw [List.length_map, Array.length_toList] at hj
    rw [← numAt_eq]; exact h2 j (by omega)
end

/-! ### kinds -/
inductive Kd where
  | nm (x : Str)
  | two (a b : Kd)
  | som (r : Str) (c : Kd)
  deriving DecidableEq
def Kd.dep : Kd → Nat
  | .nm _ => 0
  | .two a b => 1 + max a.dep b.dep
  | .som _ c => 1 + c.dep
def Kd.nt : Kd → Nat
  | .nm _ => 0
  | .two a b => 1 + a.nt + b.nt
  | .som _ c => 1 + c.nt
def Kd.sz : Kd → Nat
  | .nm _ => 1
  | .two a b => 1 + a.sz + b.sz
  | .som _ c => 1 + c.sz
def Kd.inner : Kd → List Kd
  | .nm _ => []
  | .two a b => [a, b]
  | .som _ c => [c]
def Kd.subs : Kd → List Kd
  | .nm x => [.nm x]
  | .two a b => .two a b :: (a.subs ++ b.subs)
  | .som r c => .som r c :: c.subs
theorem Kd.dep_le_nt : ∀ k : Kd, k.dep ≤ k.nt
  | .nm _ => Nat.le_refl _
  | .two a b => by
    have h1 := dep_le_nt a
    have h2 := dep_le_nt b
    simp only [Kd.dep, Kd.nt]; omega
  | .som _ c => by
    have h1 := dep_le_nt c
    simp only [Kd.dep, Kd.nt]; omega
theorem Kd.self_subs : ∀ k : Kd, k ∈ k.subs
  | .nm _ => by simp [Kd.subs]
  | .two _ _ => by simp [Kd.subs]
  | .som _ _ => by simp [Kd.subs]
theorem Kd.inner_subs : ∀ {k x y : Kd}, x ∈ k.subs → y ∈ x.inner → y ∈ k.subs
  | .nm _, x, y, h, hy => by
    simp only [Kd.subs, List.mem_singleton] at h
    subst h; simp [Kd.inner] at hy
  | .two a b, x, y, h, hy => by
    simp only [Kd.subs, List.mem_cons, List.mem_append] at h ⊢
    rcases h with rfl | h | h
    · simp only [Kd.inner, List.mem_cons, List.not_mem_nil, or_false] at hy
      rcases hy with rfl | rfl
      · exact .inr (.inl y.self_subs)
      · exact .inr (.inr y.self_subs)
    · exact .inr (.inl (Kd.inner_subs h hy))
    · exact .inr (.inr (Kd.inner_subs h hy))
  | .som r c, x, y, h, hy => by
    simp only [Kd.subs, List.mem_cons] at h ⊢
    rcases h with rfl | h
    · simp only [Kd.inner, List.mem_cons, List.not_mem_nil, or_false] at hy
      subst hy
      exact .inr y.self_subs
    · exact .inr (Kd.inner_subs h hy)
/-- what holds of a kind and goes on to what stands straight in it holds of all that stands within -/
theorem Kd.subs_ind {P : Kd → Prop} (step : ∀ x, P x → ∀ y ∈ x.inner, P y) : ∀ {k : Kd}, P k → ∀ x ∈ k.subs, P x
  | .nm _, h, x, hx => by
    simp only [Kd.subs, List.mem_singleton] at hx
    subst hx; exact h
  | .two a b, h, x, hx => by
    simp only [Kd.subs, List.mem_cons, List.mem_append] at hx
    rcases hx with rfl | hx | hx
    · exact h
    · exact Kd.subs_ind step (step _ h a (by simp [Kd.inner])) x hx
    · exact Kd.subs_ind step (step _ h b (by simp [Kd.inner])) x hx
  | .som r c, h, x, hx => by
    simp only [Kd.subs, List.mem_cons] at hx
    rcases hx with rfl | hx
    · exact h
    · exact Kd.subs_ind step (step _ h c (by simp [Kd.inner])) x hx

/-- the kind k stands at v -/
def IsK (H : Hp) : Kd → V → Prop
  | .nm x, v => v = .str x
  | .two a b, v => ∃ (p : Addr) (x y : V), v = .ref p ∧ H p = some (.tup [.str "both", x, y]) ∧ IsK H a x ∧ IsK H b y
  | .som r c, v => ∃ (p : Addr) (y : V), v = .ref p ∧ H p = some (.tup [.str "some", .str r, y]) ∧ IsK H c y
/-- tuples stay -/
def Tups (H H' : Hp) : Prop := ∀ b xs, H b = some (.tup xs) → H' b = some (.tup xs)
theorem Tups.refl (H : Hp) : Tups H H := fun _ _ h => h
theorem Tups.trans {H H1 H2 : Hp} (a : Tups H H1) (b : Tups H1 H2) : Tups H H2 := fun c o h => b c o (a c o h)
theorem Same.tups {H H' : Hp} (h : Same H H') : Tups H H' := fun b xs e => h b _ e
theorem tups_new {H : Hp} {p : Addr} {o : HO} (h : H p = none) : Tups H (upd H p o) := (same_new h o).tups
theorem tups_lst {H : Hp} {p : Addr} {o : HO} {xs : List V} (h : H p = some (.lst xs)) : Tups H (upd H p o) := fun b ys e => by
  rw [upd_ne (ne_of e h (by intro z; cases z))]
  exact e
theorem IsK.mono {H H' : Hp} (t : Tups H H') : ∀ {k : Kd} {v : V}, IsK H k v → IsK H' k v
  | .nm _, _, h => h
  | .two _ _, _, ⟨p, x, y, e, h, ha, hb⟩ => ⟨p, x, y, e, t _ _ h, IsK.mono t ha, IsK.mono t hb⟩
  | .som _ _, _, ⟨p, y, e, h, hc⟩ => ⟨p, y, e, t _ _ h, IsK.mono t hc⟩
theorem both_ne_some : (Str.ofString "both" : Str) ≠ Str.ofString "some" := by decide +kernel
theorem IsK.inj {H : Hp} : ∀ {k k' : Kd} {v : V}, IsK H k v → IsK H k' v → k = k'
  | .nm x, .nm y, _, h, h' => by cases h; cases h'; rfl
  | .nm x, .two _ _, _, h, ⟨p, _, _, e, _⟩ => by cases h; cases e
  | .nm x, .som _ _, _, h, ⟨p, _, e, _⟩ => by cases h; cases e
  | .two _ _, .nm x, _, ⟨p, _, _, e, _⟩, h => by cases h; cases e
  | .som _ _, .nm x, _, ⟨p, _, e, _⟩, h => by cases h; cases e
  | .two a b, .two a' b', _, ⟨p, x, y, e, h, ha, hb⟩, ⟨p', x', y', e', h', ha', hb'⟩ => by
    cases e; cases e'
    rw [h] at h'
    cases h'
    rw [IsK.inj ha ha', IsK.inj hb hb']
  | .two a b, .som r c, _, ⟨p, x, y, e, h, ha, hb⟩, ⟨p', y', e', h', hc'⟩ => by
    cases e; cases e'
    rw [h] at h'
    injection h' with z
    injection z with z
    injection z with z _
    injection z with z
    exact absurd z both_ne_some
  | .som r c, .two a b, _, ⟨p', y', e', h', hc'⟩, ⟨p, x, y, e, h, ha, hb⟩ => by
    cases e; cases e'
    rw [h] at h'
    injection h' with z
    injection z with z
    injection z with z _
    injection z with z
    exact absurd z both_ne_some
  | .som r c, .som r' c', _, ⟨p, y, e, h, hc⟩, ⟨p', y', e', h', hc'⟩ => by
    cases e; cases e'
    rw [h] at h'
    cases h'
    rw [IsK.inj hc hc']

/-! ### == of kinds -/
theorem vals3 {x y z : V} {us : List Value} (r : Vals [x, y, z] us) : ∃ u v w', us = [u, v, w'] ∧ RelV x u ∧ RelV y v ∧ RelV z w' := by
  cases r with
  | cons r1 r =>
    cases r with
    | cons r2 r =>
      cases r with
      | cons r3 r => cases r; exact ⟨_, _, _, rfl, r1, r2, r3⟩
section
variable {X : Cx} {pins : List (Addr × Obj)} {σ : St} {H : Hp} {s : Shared}
/-- two tuples of three -/
theorem eq_three {A : Around} {p q : Addr} {x0 x1 x2 y0 y1 y2 : V} {b0 b1 b2 : Bool} (I : Inv X pins σ H s) (hp : H p = some (.tup [x0, x1, x2])) (hq : H q = some (.tup [y0, y1, y2])) (hne : p ≠ q) (hu : A.units < cLine)
    (h0 : ∀ u v, RelV x0 u → RelV y0 v → SeqAt.EqAt A.in1 s u v b0) (h1 : ∀ u v, RelV x1 u → RelV y1 v → SeqAt.EqAt A.in1 s u v b1) (h2 : ∀ u v, RelV x2 u → RelV y2 v → SeqAt.EqAt A.in1 s u v b2) :
    SeqAt.EqAt A s (.ref p) (.ref q) (b0 && b1 && b2) := by
  obtain ⟨_, its, r1, t1⟩ := (show ObjOk X.prog X.w H s.heap p (.tup [x0, x1, x2]) from I.hok p _ hp)
  obtain ⟨_, jts, r2, t2⟩ := (show ObjOk X.prog X.w H s.heap q (.tup [y0, y1, y2]) from I.hok q _ hq)
  obtain ⟨u0, u1, u2, rfl, a0, a1, a2⟩ := vals3 r1
  obtain ⟨v0, v1, v2, rfl, c0, c1, c2⟩ := vals3 r2
  have q := SeqAt.RcAt.tuples (A := A) (e := fun j => if j = 0 then b0 else if j = 1 then b1 else b2) (show s.heap.IsTuple p #[u0, u1, u2] from t1) (show s.heap.IsTuple q #[v0, v1, v2] from t2) hu (fun j g1 g2 => by
    have g : j < 3 := g1
    match j, g with
    | 0, _ => exact h0 _ _ a0 c0
    | 1, _ => exact h1 _ _ a1 c1
    | 2, _ => exact h2 _ _ a2 c2)
  have e : ((List.range (min (#[u0, u1, u2] : Array Value).size (#[v0, v1, v2] : Array Value).size)).all (fun j => if j = 0 then b0 else if j = 1 then b1 else b2) && (#[u0, u1, u2] : Array Value).size == (#[v0, v1, v2] : Array Value).size) = (b0 && b1 && b2) := by
    cases b0 <;> cases b1 <;> cases b2 <;> rfl
  rw [e] at q
  exact SeqAt.EqAt.of_refs hne q
theorem tuple_at {p : Addr} {xs : List V} (I : Inv X pins σ H s) (hp : H p = some (.tup xs)) : ∃ its : List Value, s.heap.IsTuple p its.toArray := by
  obtain ⟨_, its, _, t⟩ := (show ObjOk X.prog X.w H s.heap p (.tup xs) from I.hok p _ hp)
  exact ⟨its, t⟩
theorem eq_word {A : Around} (I : Inv X pins σ H s) (r : Str) : ∀ {k : Kd} {y : V} {u v : Value}, IsK H k y → RelV (.str r) u → RelV y v → A.units < cLine → SeqAt.EqAt A s u v (decide (Kd.nm r = k))
  | .nm x, _, _, _, h, ⟨t, hu⟩, hv, _ => by
    cases h
    obtain ⟨t', hv⟩ := hv
    subst hu; subst hv
    have e : decide (Kd.nm r = Kd.nm x) = (r == x) := by
      by_cases h : r = x
      · subst h; simp
      · rw [decide_eq_false (by intro z; cases z; exact h rfl), beq_eq_false_iff_ne.mpr h]
    rw [e]
    exact SeqAt.EqAt.str_str _ _ _ _
  | .two a b, _, _, _, ⟨p, x, y, e, h, _⟩, ⟨t, hu⟩, hv, hl => by
    cases e; cases hv; subst hu
    obtain ⟨its, ht⟩ := tuple_at I h
    exact SeqAt.EqAt.str_tuple _ _ ht hl
  | .som r' c, _, _, _, ⟨p, y, e, h, _⟩, ⟨t, hu⟩, hv, hl => by
    cases e; cases hv; subst hu
    obtain ⟨its, ht⟩ := tuple_at I h
    exact SeqAt.EqAt.str_tuple _ _ ht hl
theorem strAt (A : Around) (s : Shared) {a b : Str} {u v : Value} (hu : RelV (.str a) u) (hv : RelV (.str b) v) : SeqAt.EqAt A s u v (a == b) := by
  obtain ⟨t, rfl⟩ := hu
  obtain ⟨t', rfl⟩ := hv
  exact SeqAt.EqAt.str_str _ _ _ _
theorem in1_units (A : Around) : A.in1.units = A.units + 1 := rfl
theorem eqK (I : Inv X pins σ H s) : ∀ {k k' : Kd} {A : Around} {x y : V} {u v : Value}, IsK H k x → IsK H k' y → RelV x u → RelV y v → A.units + k.dep < cLine → SeqAt.EqAt A s u v (decide (k = k'))
  | .nm r, k', A, x, y, u, v, hx, hy, ru, rv, hl => by
    cases hx
    exact eq_word I r hy ru rv (by simpa [Kd.dep] using hl)
  | .two a b, .nm r, A, x, y, u, v, ⟨p, _, _, e, h, _⟩, hy, ru, rv, hl => by
    cases e; cases ru; cases hy
    obtain ⟨t, rfl⟩ := rv
    obtain ⟨its, ht⟩ := tuple_at I h
    exact SeqAt.EqAt.tuple_str _ _ ht (by omega)
  | .som a b, .nm r, A, x, y, u, v, ⟨p, _, e, h, _⟩, hy, ru, rv, hl => by
    cases e; cases ru; cases hy
    obtain ⟨t, rfl⟩ := rv
    obtain ⟨its, ht⟩ := tuple_at I h
    exact SeqAt.EqAt.tuple_str _ _ ht (by omega)
  | .two a b, .two a' b', A, x, y, u, v, ⟨p, x1, x2, e, h, ha, hb⟩, ⟨p', y1, y2, e', h', ha', hb'⟩, ru, rv, hl => by
    cases e; cases ru; cases e'; cases rv
    simp only [Kd.dep] at hl
    by_cases z : p = p'
    · subst z
      have k : Kd.two a b = Kd.two a' b' := IsK.inj (H := H) ⟨p, x1, x2, rfl, h, ha, hb⟩ ⟨p, y1, y2, rfl, h', ha', hb'⟩
      rw [decide_eq_true k]
      exact SeqAt.EqAt.same _
    · have q := eq_three (A := A) I h h' z (by omega) (b0 := true) (b1 := decide (a = a')) (b2 := decide (b = b')) (fun u v g1 g2 => by have := strAt A.in1 s g1 g2; rwa [beq_self_eq_true] at this)
        (fun u v g1 g2 => eqK I ha ha' g1 g2 (by rw [in1_units]; omega)) (fun u v g1 g2 => eqK I hb hb' g1 g2 (by rw [in1_units]; omega))
      have e : (true && decide (a = a') && decide (b = b')) = decide (Kd.two a b = Kd.two a' b') := by
        by_cases c1 : a = a'
        · by_cases c2 : b = b'
          · subst c1; subst c2; simp
          · simp [c1, c2]
        · simp [c1]
      rw [e] at q
      exact q
  | .two a b, .som r' c', A, x, y, u, v, ⟨p, x1, x2, e, h, ha, hb⟩, ⟨p', y2, e', h', hc'⟩, ru, rv, hl => by
    cases e; cases ru; cases e'; cases rv
    simp only [Kd.dep] at hl
    have z : p ≠ p' := fun z => by
      subst z
      have k : Kd.two a b = Kd.som r' c' := IsK.inj (H := H) ⟨p, x1, x2, rfl, h, ha, hb⟩ ⟨p, y2, rfl, h', hc'⟩
      cases k
    have q := eq_three (A := A) I h h' z (by omega) (b0 := false) (b1 := decide (a = Kd.nm r')) (b2 := decide (b = c')) (fun u v g1 g2 => by have := strAt A.in1 s g1 g2; rwa [beq_eq_false_iff_ne.mpr both_ne_some] at this)
        (fun u v g1 g2 => eqK (k' := .nm r') I ha rfl g1 g2 (by rw [in1_units]; omega)) (fun u v g1 g2 => eqK I hb hc' g1 g2 (by rw [in1_units]; omega))
    rw [decide_eq_false (by intro k; cases k)]
    simpa using q
  | .som r c, .two a' b', A, x, y, u, v, ⟨p, x2, e, h, hc⟩, ⟨p', y1, y2, e', h', ha', hb'⟩, ru, rv, hl => by
    cases e; cases ru; cases e'; cases rv
    simp only [Kd.dep] at hl
    have z : p ≠ p' := fun z => by
      subst z
      have k : Kd.som r c = Kd.two a' b' := IsK.inj (H := H) ⟨p, x2, rfl, h, hc⟩ ⟨p, y1, y2, rfl, h', ha', hb'⟩
      cases k
    have q := eq_three (A := A) I h h' z (by omega) (b0 := false) (b1 := decide (Kd.nm r = a')) (b2 := decide (c = b')) (fun u v g1 g2 => by have := strAt A.in1 s g1 g2; rwa [beq_eq_false_iff_ne.mpr (Ne.symm both_ne_some)] at this)
        (fun u v g1 g2 => eq_word I r ha' g1 g2 (by rw [in1_units]; omega)) (fun u v g1 g2 => eqK I hc hb' g1 g2 (by rw [in1_units]; omega))
    rw [decide_eq_false (by intro k; cases k)]
    simpa using q
  | .som r c, .som r' c', A, x, y, u, v, ⟨p, x2, e, h, hc⟩, ⟨p', y2, e', h', hc'⟩, ru, rv, hl => by
    cases e; cases ru; cases e'; cases rv
    simp only [Kd.dep] at hl
    by_cases z : p = p'
    · subst z
      have k : Kd.som r c = Kd.som r' c' := IsK.inj (H := H) ⟨p, x2, rfl, h, hc⟩ ⟨p, y2, rfl, h', hc'⟩
      rw [decide_eq_true k]
      exact SeqAt.EqAt.same _
    · have q := eq_three (A := A) I h h' z (by omega) (b0 := true) (b1 := (r == r')) (b2 := decide (c = c')) (fun u v g1 g2 => by have := strAt A.in1 s g1 g2; rwa [beq_self_eq_true] at this)
        (fun u v g1 g2 => strAt A.in1 s g1 g2) (fun u v g1 g2 => eqK I hc hc' g1 g2 (by rw [in1_units]; omega))
      have e : (true && (r == r') && decide (c = c')) = decide (Kd.som r c = Kd.som r' c') := by
        by_cases c1 : r = r'
        · by_cases c2 : c = c'
          · subst c1; subst c2; simp
          · simp [c1, c2]
        · have : (r == r') = false := beq_eq_false_iff_ne.mpr c1
          simp [c1, this]
      rw [e] at q
      exact q
end

/-! ### lists of kinds -/
def KL (H : Hp) : List V → List Kd → Prop := Paired fun v k => IsK H k v
theorem KL.mono {H H' : Hp} (t : Tups H H') {xs : List V} {ks : List Kd} (h : KL H xs ks) : KL H' xs ks := Paired.imp' (fun _ _ q => IsK.mono t q) h
theorem KL.len {H : Hp} {xs : List V} {ks : List Kd} (h : KL H xs ks) : xs.length = ks.length := Paired.length h
theorem KL.app {H : Hp} : ∀ {xs ys : List V} {ks ls : List Kd}, KL H xs ks → KL H ys ls → KL H (xs ++ ys) (ks ++ ls)
  | _, _, _, _, .nil, s => s
  | _, _, _, _, .cons r t, s => .cons r (KL.app t s)
theorem KL.get {H : Hp} : ∀ {xs : List V} {ks : List Kd} {i : Nat} {v : V}, KL H xs ks → xs[i]? = some v → ∃ k, ks[i]? = some k ∧ IsK H k v
  | _, _, _, _, .nil, e => by simp at e
  | _, _, 0, _, .cons r _, e => by simp at e; subst e; exact ⟨_, rfl, r⟩
  | _, _, i + 1, v, .cons _ t, e => by
    obtain ⟨u, h1, h2⟩ := KL.get (i := i) (v := v) t (by simpa using e)
    exact ⟨u, by simpa using h1, h2⟩
theorem KL.any {H : Hp} {k : Kd} {e : Value → Bool} : ∀ {xs : List V} {ks : List Kd} {us : List Value}, KL H xs ks → Vals xs us → (∀ x k' u, RelV x u → IsK H k' x → e u = decide (k' = k)) → us.any e = decide (k ∈ ks)
  | _, _, _, .nil, .nil, _ => by simp
  | _, k1 :: _, _, .cons r t, .cons ru tu, h => by
    rw [List.any_cons, h _ _ _ ru r, KL.any t tu h]
    by_cases c : k1 = k
    · subst c; simp
    · have c' : ¬ k = k1 := fun z => c z.symm
      simp [c, c']
section
variable {X : Cx}
/-- x not in xs, kinds -/
def rNotInK : R2 := fun x y H Q => ∃ (p : Addr) (k : Kd) (xs : List V) (ks : List Kd), y = .ref p ∧ H p = some (.lst xs) ∧ IsK H k x ∧ KL H xs ks ∧ (∀ k' ∈ ks, k'.dep ≤ 50) ∧ Q (.bl (!decide (k ∈ ks))) H
theorem op_notInK (hu : X.A.units + 64 < cLine) : OpR X (compareOp .NotIn) rNotInK := by
  intro pins s σ H x y v u Q I rx ry h
  obtain ⟨p, k, xs, ks, rfl, hp, hk, hL, hd, q⟩ := h
  cases ry
  obtain ⟨its, rv, pl, hz⟩ := I.list (SqL.of hp)
  classical
  let e : Value → Bool := fun u => decide (∃ x', RelV x' u ∧ IsK H k x')
  have he : ∀ x' k' u, RelV x' u → IsK H k' x' → e u = decide (k' = k) := fun x' k' u r i => by
    show decide (∃ x', RelV x' u ∧ IsK H k x') = _
    by_cases c : k' = k
    · subst c
      rw [decide_eq_true ⟨x', r, i⟩, decide_eq_true rfl]
    · rw [decide_eq_false c, decide_eq_false]
      rintro ⟨x2, r2, i2⟩
      rw [RelV.inj r2 r] at i2
      exact c (IsK.inj i i2)
  refine SeqAt.notIn_listAt (items := its.toArray) e pl.isList (fun y hy => ?_) ?_
  · have hy' : y ∈ its := by simpa using hy
    obtain ⟨i, hi, ei⟩ := List.mem_iff_getElem.mp hy'
    have hx : ∃ x', xs[i]? = some x' := by
      have := rv.length
      exact ⟨xs[i]'(by omega), List.getElem?_eq_getElem (by omega)⟩
    obtain ⟨x', hx'⟩ := hx
    obtain ⟨u', hu', ru'⟩ := rv.get hx'
    rw [List.getElem?_eq_getElem hi, ei] at hu'
    cases hu'
    obtain ⟨k', hk', ik'⟩ := hL.get hx'
    rw [he x' k' y ru' ik']
    have hdk := hd k' (List.mem_of_getElem? hk')
    exact eqK I ik' hk ru' rx (by rw [in1_units]; omega)
  · have ea : its.toArray.any e = decide (k ∈ ks) := by
      rw [← KL.any hL rv he]
      simp
    rw [ea]
    exact ⟨.bl (!decide (k ∈ ks)), H, I, rfl, q⟩
end
end L2
set_option Elab.async false
set_option linter.all false
set_option maxRecDepth 100000
set_option maxHeartbeats 4000000
/-! EXTENSION 3: f-strings of texts; str.count; range with a step; == and != of kinds. -/
namespace L2
open PySem PySem.Spec PyProof.Rows
section
variable {X : Cx}
/-! ### f-strings -/
abbrev TF := Str → St → Hp → (Str → Hp → Prop) → Prop
def PF (X : Cx) (es : List Expr) (t : TF) : Prop :=
  ∀ (pins : List (Addr × Obj)) (s : Shared) (σ : St) (H : Hp) (out : Str) (Q : Str → Hp → Prop), Inv X pins σ H s → t out σ H Q →
    wpAny (model X.prog X.w) X.A (joinParts out (evalEach es X.env)) (fun v s' => ∃ z H', Inv X pins σ H' s' ∧ RelV (.str z) v ∧ Q z H') X.xe s
def tF0 : TF := fun out _ H Q => out.length ≤ sizeLine ∧ Q out H
def tFC (te : TE) (t : TF) : TF := fun out σ H Q => te σ H fun x H1 => ∃ y, x = .str y ∧ y.length ≤ sizeLine ∧ (out ++ y).length ≤ sizeLine ∧ t (out ++ y) σ H1 Q
theorem pf_nil : PF X [] tF0 := fun pins s σ H out Q I h => joinParts_nil ⟨out, H, I.tok _, ⟨_, rfl⟩, h.2⟩ h.1
theorem pf_str {e : Expr} {es : List Expr} {te : TE} {t : TF} (he : PE X e te) (hr : PF X es t) : PF X (e :: es) (tFC te t) := by
  intro pins s σ H out Q I h
  show wpAny _ _ (joinParts out (eval e X.env :: evalEach es X.env)) _ _ s
  refine joinParts_cons (thn (he pins s σ H _ I h) fun v s1 ⟨x, H1, I1, r1, q1⟩ => ?_)
  obtain ⟨y, rfl, _, hz, q⟩ := q1
  obtain ⟨u, rfl⟩ := r1
  exact ⟨hz, hr pins s1 σ H1 (out ++ y) Q I1 q⟩
theorem pf_val {e : Expr} {es : List Expr} {te : TE} {t : TF} {pos : Pos} (he : PE X e te) (hr : PF X es t) : PF X (.FormattedValue e (-1) none pos :: es) (tFC te t) := by
  intro pins s σ H out Q I h
  show wpAny _ _ (joinParts out (eval (.FormattedValue e (-1) none pos) X.env :: evalEach es X.env)) _ _ s
  refine joinParts_cons (FormattedValue_plain (thn (he pins s σ H _ I h) fun v s1 ⟨x, H1, I1, r1, q1⟩ => ?_))
  obtain ⟨y, rfl, hy, hz, q⟩ := q1
  obtain ⟨u, rfl⟩ := r1
  exact formatField_str (fun t' tk => ⟨hz, hr pins _ σ H1 (out ++ y) Q (I1.tok _) q⟩) hy
def tFS (t : TF) : TE := fun σ H Q => t Str.empty σ H fun z H' => Q (.str z) H'
theorem pe_fstr {v1 v2 : Expr} {rest : List Expr} {t : TF} {pos : Pos} (h : PF X (v1 :: v2 :: rest) t) : PE X (.JoinedStr (v1 :: v2 :: rest) pos) (tFS t) := by
  intro pins s σ H Q I q
  refine JoinedStr_many (thn (h pins s σ H Str.empty _ I q) fun v s1 ⟨z, H1, I1, r1, q1⟩ => ⟨.str z, H1, I1, r1, q1⟩)
/-! ### str.count of one sign -/
theorem occ_some_le (x : Str) (c hi limit : Nat) (hh : hi = x.length) : ∀ (l : List Nat) (st : Array Nat × Nat), (forIn l st (StrLaws.occBody x ⟨#[c]⟩ hi limit)).run.fst.size ≤ st.fst.size + (l.filter fun i => x.cps.toList[i]? == some c).length
  | [], st => Nat.le_refl _
  | a :: l, st => by
    subst hh
    rw [List.forIn_cons]
    unfold StrLaws.occBody
    split
    · rename_i h
      have e : x.cps.toList[a]? = some c := (StrLaws.subAt_one x c a).mp ⟨h.1.2, h.2⟩
      refine Nat.le_trans (occ_some_le x c _ limit rfl l _) ?_
      rw [List.filter_cons_of_pos (by simp [e])]
      simp only [Array.size_push, List.length_cons]; omega
    · refine Nat.le_trans (occ_some_le x c _ limit rfl l _) ?_
      have : (l.filter fun i => x.cps.toList[i]? == some c).length ≤ ((a :: l).filter fun i => x.cps.toList[i]? == some c).length := by
        rw [List.filter_cons]
        split
        · simp
        · exact Nat.le_refl _
      have e : ((st.fst, st.snd) : Array Nat × Nat).fst.size = st.fst.size := rfl
      omega
theorem places_count (c : Nat) : ∀ (l : List Nat) (k : Nat), ((List.range' k (l.length + 1)).filter fun i => l[i - k]? == some c).length = l.count c
  | [], k => by simp [List.range'_succ]
  | a :: l, k => by
    have ih := places_count c l (k + 1)
    rw [List.length_cons, List.range'_succ, List.filter_cons, Nat.sub_self, List.count_cons]
    have e : ((List.range' (k + 1) (l.length + 1)).filter fun i => (a :: l)[i - k]? == some c) = ((List.range' (k + 1) (l.length + 1)).filter fun i => l[i - (k + 1)]? == some c) := by
      apply List.filter_congr
      intro i hi
      have hk : k + 1 ≤ i := by rw [List.mem_range'_1] at hi; omega
      have : i - k = (i - (k + 1)) + 1 := by omega
      rw [this, List.getElem?_cons_succ]
    rw [e]
    simp only [List.getElem?_cons_zero]
    by_cases h : a = c
    · subst h; simp [ih]
    · have : (some a == some c) = false := by simp [h]
      simp [h, ih]
theorem count_le (x : Str) (c : Nat) : Txt.count x ⟨#[c]⟩ ≤ (x.cps.toList.count c : Int) := by
  unfold Txt.count
  rw [StrLaws.occ_eq, Array.length_toList]
  have h := occ_some_le x c x.length (x.length + 1) rfl (List.range' 0 (x.length + 1 - 0)) (#[], 0)
  have e := places_count c x.cps.toList 0
  simp only [Nat.sub_zero, Array.length_toList] at e h
  have hl : x.length = x.cps.size := rfl
  rw [hl] at h ⊢
  rw [e] at h
  simp only [List.size_toArray, List.length_nil, Nat.zero_add] at h
  exact Int.ofNat_le.mpr h
def rCount : V → List V → Hp → VK → Prop := fun x vs H Q => ∃ z y, x = .str z ∧ vs = [.str y] ∧ Q (.int (Txt.count z y)) H
theorem mt_count : MtR X "str.count" rCount := by
  intro pins s σ H x xs v us Q I rx rs h
  obtain ⟨z, y, rfl, rfl, q⟩ := h
  obtain ⟨t, rfl⟩ := rx
  obtain ⟨u, rfl, ru⟩ := rs.one
  obtain ⟨t', rfl⟩ := ru
  exact SC.count ⟨.int (Txt.count z y), H, I.tok _, ⟨_, rfl⟩, q⟩
/-! ### range with a step -/
def Itr3 (lo c : Int) (n : Nat) : It := ⟨fun i _ => i < n, fun i H x H' => H' = H ∧ x = .int (lo + i * c), fun i _ => n ≤ i⟩
theorem turn_range3 {P : Program} {w : World} {K : PySem.W.Frag} {tg : Expr} (it : Addr) (lo c : Int) (n : Nat) : Turn P w K tg (Itr3 lo c n) [it] it (fun i h => IsRangeIter h it (lo + (i : Nat) * c) ((n : Int) - (i : Nat)) c) where
  mem := by simp
  obj := fun i h st b hb => by
    have e : b = it := by simpa using hb
    subst e
    exact ⟨_, st, fun v z => by
      have z' : Data.fields _ = Data.cell v := z
      cases z'⟩
  keep := fun i h h' st k => k it (by simp) _ st
  item := by
    intro X hP hw hK hc i pins s σ H E I hf st hg
    subst hP hw hK
    obtain ⟨f0, f1, f2, f3, f4, f5⟩ := hf it (by simp)
    have W := Walks.range (prog := X.prog) (w := X.w) (I.ok.hd hc) it lo c n
    refine W.item i s _ _ hg st fun v h' tk hv st' kk => ?_
    obtain ⟨t, rfl⟩ := hv
    have I1 : Inv X pins σ H { s with heap := h', toks := tk } := I.turned (fun b o hb e => kk b o (by simpa using hb) e) f0 f1 f3 f4 f5
    exact ⟨_, rfl, go_of (s := { s with heap := h', toks := tk }) (n := "range_iterator") st' rfl rfl (by decide) ⟨.int (lo + i * c), H, I1, ⟨t, rfl⟩, ⟨rfl, rfl⟩, st', fun b hb => (hf b hb).1⟩⟩
  done := by
    intro X hP hw hK hc i pins s σ H E I hf st hg
    subst hP hw hK
    obtain ⟨f0, f1, f2, f3, f4, f5⟩ := hf it (by simp)
    exact wpAny_pyNext_range_end (I.ok.hd hc) st (by have : n ≤ i := hg; omega) fun h' eb => ⟨rfl, I.turned (t' := s.toks) (fun b o hb e => eb b o hb e) f0 f1 f3 f4 f5⟩
  self := fun _ _ _ _ _ st h => wpAny_pyIter_rangeiter st h
/-- how many steps of c from 0 on lie below j -/
def steps3 (j c : Int) : Nat := (if 0 < j then (j - 1) / c + 1 else 0).toNat
theorem rs_eq {j c : Int} (hc : 0 < c) : Builtin.Range.rangeSize 0 j c = ((steps3 j c : Nat) : Int) := by
  unfold Builtin.Range.rangeSize steps3
  rw [if_pos (show c > 0 from hc)]
  by_cases h : 0 < j
  · rw [if_pos h, if_pos h]
    have : 0 ≤ (j - 1) / c := Int.ediv_nonneg (by omega) (by omega)
    rw [show j - 0 - 1 = j - 1 by omega]
    omega
  · rw [if_neg h, if_neg h]; rfl
theorem small3 {j c : Int} (hc : 0 < c) (hc' : c < 2 ^ 30) (hj : 0 ≤ j) (hj' : j < 2 ^ 30) : Builtin.Range.small 0 j c = true := by
  have h0 : 0 ≤ (j - 1) / c + 1 ∧ (j - 1) / c + 1 ≤ j + 1 := by
    have h1 := Int.ediv_le_self (a := j) c hj
    have h2 : (j - 1) / c ≤ j / c := Int.ediv_le_ediv hc (by omega)
    by_cases hz : j = 0
    · subst hz
      have : (0 - 1) / c = -1 := by
        have h3 : (-1 : Int) / c = -1 := by
          rw [Int.ediv_eq_iff_of_pos hc]; omega
        exact h3
      omega
    · have : 0 ≤ (j - 1) / c := Int.ediv_nonneg (by omega) (by omega)
      omega
  have hs : ((steps3 j c : Nat) : Int) ≤ j + 1 := by
    unfold steps3
    split <;> omega
  unfold Builtin.Range.small
  rw [rs_eq hc]
  have fit : ∀ i : Int, -(2 ^ 62) ≤ i → i < 2 ^ 62 → Builtin.Range.rangeFitsLong i = true := fun i a b => by
    unfold Builtin.Range.rangeFitsLong
    simp only [Bool.and_eq_true, decide_eq_true_eq]
    constructor <;> omega
  rw [fit 0 (by decide) (by decide), fit j (by omega) (by omega), fit c (by omega) (by omega), fit _ (by omega) (by omega), if_pos (show c > 0 from hc), fit (j + (c - 1)) (by omega) (by omega)]
  simp
def iRng3 (ta : TA) : TI := fun σ H R => ta σ H fun vs H1 => ∃ j c : Int, vs = [.int 0, .int j, .int c] ∧ (0 < c ∧ c < 2 ^ 30 ∧ 0 ≤ j ∧ j < 2 ^ 30) ∧ R (Itr3 0 c (steps3 j c)) H1
theorem pi_range3 {tg a b c : Expr} {ta : TA} {p pos : Pos} (hg : Gl X "range") (hm : X.mg "range" = none) (ha : PA X [a, b, c] ta) (hs : starEach [a, b, c] X.env = [(false, eval a X.env), (false, eval b X.env), (false, eval c X.env)] := by rfl) (hs2 : starEach [b, c] X.env = [(false, eval b X.env), (false, eval c X.env)] := by rfl) :
    PI X tg (.Call (.Name "range" p) [a, b, c] [] pos) (iRng3 ta) := by
  intro pins s σ H R I h
  refine Call_ (ld_blt I hg hm boot_range (PyProof.Rows.callWith_type1 (thn (ha pos pins s σ H _ I h) fun us s1 ⟨vs, H1, I1, r1, q1⟩ => ?_) (by rw [hs, hs2]) (by rw [hs2]; rfl)))
  obtain ⟨j, c, e, ⟨q1, q2, q3, q4⟩, q⟩ := q1
  subst e
  obtain ⟨u0, u1, u2, rfl, ⟨t0, rfl⟩, ⟨t1, rfl⟩, ⟨t2, rfl⟩⟩ := vals3 r1
  refine call_range_3 (by omega) ?_ (Or.inl (PyProof.noPylong_small (by omega)))
  refine wpAny_pyIter_range (IsRange.new ..) (small3 q1 q2 q3 q4) ?_
  have I2 : Inv X pins σ H1 { s1 with heap := s1.heap.push { cls := .type "range", data := .fields #[.int 0 t0, .int j t1, .int c t2] }, toks := s1.toks } := I1.kept fun b o e => Heap.get?_push_of_some _ e
  refine ⟨(s1.heap.push { cls := .type "range", data := .fields #[.int 0 t0, .int j t1, .int c t2] }).objs.size, [(s1.heap.push { cls := .type "range", data := .fields #[.int 0 t0, .int j t1, .int c t2] }).objs.size], _, _, H1, rfl,
    I2.kept (t' := s1.toks) fun b o e => Heap.get?_push_of_some _ e, turn_range3 _ 0 c (steps3 j c), ?_, fun b hb => ?_, q⟩
  · show IsRangeIter _ _ (0 + ((0 : Nat) : Int) * c) (((steps3 j c : Nat) : Int) - ((0 : Nat) : Int)) c
    rw [show (0 : Int) + ((0 : Nat) : Int) * c = 0 by simp, show ((steps3 j c : Nat) : Int) - ((0 : Nat) : Int) = Builtin.Range.rangeSize 0 j c by rw [rs_eq q1]; simp]
    exact Heap.get?_push_size _ rfl
  · have e : b = (s1.heap.push { cls := .type "range", data := .fields #[.int 0 t0, .int j t1, .int c t2] }).objs.size := by simpa using hb
    subst e
    exact I2.fpOk (Nat.le_refl _) (I2.hok.fresh (Nat.le_refl _))
theorem for_range3 {lo c : Int} {n : Nat} {g : TG} {tb : TS} {D : Ends} {σ : St} {H : Hp} (Pv : Nat → St → Hp → Prop) (h0 : Pv 0 σ H)
    (hs : ∀ i σ H, i < n → Pv i σ H → g (.int (lo + i * c)) σ H fun σ2 H2 => tb { D with nx := Pv (i + 1), ct := Pv (i + 1), bk := D.nx } σ2 H2) (hd : ∀ σ H, Pv n σ H → D.nx σ H) :
    ∃ W : Nat → Nat → St → Hp → Prop, (∃ m, W 0 m σ H) ∧ ∀ i m σ H, W i m σ H →
      ((Itr3 lo c n).stop i H ∧ D.nx σ H) ∨ ((Itr3 lo c n).go i H ∧ ∃ N : St → Hp → Prop, (∀ σ' H', N σ' H' → ∃ m', m' < m ∧ W (i + 1) m' σ' H') ∧ ∀ x H', (Itr3 lo c n).yld i H x H' → g x σ H' fun σ2 H2 => tb { D with nx := N, ct := N, bk := D.nx } σ2 H2) := by
  refine ⟨fun i m σ H => m = n - i ∧ i ≤ n ∧ Pv i σ H, ⟨n, by simp, Nat.zero_le _, h0⟩, ?_⟩
  rintro i m σ H ⟨rfl, hi, p⟩
  by_cases hlt : i < n
  · refine .inr ⟨hlt, Pv (i + 1), fun σ' H' p' => ⟨n - (i + 1), by omega, rfl, hlt, p'⟩, fun x H' y => ?_⟩
    obtain ⟨e, y⟩ := y
    subst e y
    exact hs i σ _ hlt p
  · have e : i = n := by omega
    subst e
    exact .inl ⟨Nat.le_refl _, hd σ H p⟩
theorem steps3_lt {j c : Int} {i : Nat} (hc : 0 < c) (hi : i < steps3 j c) : 0 ≤ (i : Int) * c ∧ (i : Int) * c < j := by
  unfold steps3 at hi
  split at hi
  · have h1 : (i : Int) ≤ (j - 1) / c := by omega
    have h2 : (i : Int) * c ≤ j - 1 := (Int.le_ediv_iff_mul_le hc).mp h1
    exact ⟨Int.mul_nonneg (by omega) (by omega), by omega⟩
  · simp at hi
end
/-! ### ==, != of kinds -/
section
variable {X : Cx} {pins : List (Addr × Obj)} {σ : St} {H : Hp} {s : Shared}
theorem tup3_at {p : Addr} {x y z : V} (I : Inv X pins σ H s) (hp : H p = some (.tup [x, y, z])) : ∃ u v w', s.heap.IsTuple p #[u, v, w'] ∧ RelV x u ∧ RelV y v ∧ RelV z w' := by
  obtain ⟨_, its, r1, t1⟩ := (show ObjOk X.prog X.w H s.heap p (.tup [x, y, z]) from I.hok p _ hp)
  obtain ⟨u0, u1, u2, rfl, a0, a1, a2⟩ := vals3 r1
  exact ⟨u0, u1, u2, t1, a0, a1, a2⟩
theorem all3 {b0 b1 b2 : Bool} {u0 u1 u2 v0 v1 v2 : Value} : ((List.range (min (#[u0, u1, u2] : Array Value).size (#[v0, v1, v2] : Array Value).size)).all (fun j => if j = 0 then b0 else if j = 1 then b1 else b2) && (#[u0, u1, u2] : Array Value).size == (#[v0, v1, v2] : Array Value).size) = (b0 && b1 && b2) := by
  cases b0 <;> cases b1 <;> cases b2 <;> rfl
/-- the three parts of a tuple kind -/
def Kd.head : Kd → Str
  | .nm _ => ""
  | .two _ _ => "both"
  | .som _ _ => "some"
def Kd.mid : Kd → Kd
  | .nm x => .nm x
  | .two a _ => a
  | .som r _ => .nm r
def Kd.last : Kd → Kd
  | .nm x => .nm x
  | .two _ b => b
  | .som _ c => c
def Kd.isT : Kd → Bool
  | .nm _ => false
  | _ => true
theorem IsK.parts : ∀ {k : Kd} {v : V}, k.isT = true → IsK H k v → ∃ p x y, v = .ref p ∧ H p = some (.tup [.str k.head, x, y]) ∧ IsK H k.mid x ∧ IsK H k.last y
  | .two a b, _, _, ⟨p, x, y, e, h, h1, h2⟩ => ⟨p, x, y, e, h, h1, h2⟩
  | .som r c, _, _, ⟨p, y, e, h, h1⟩ => ⟨p, .str r, y, e, h, rfl, h1⟩
theorem Kd.mid_dep {k : Kd} (h : k.isT = true) : k.mid.dep < k.dep := by
  cases k with
  | nm _ => cases h
  | two a b => simp only [Kd.mid, Kd.dep]; omega
  | som r c => simp only [Kd.mid, Kd.dep]; omega
theorem Kd.last_dep {k : Kd} (h : k.isT = true) : k.last.dep < k.dep := by
  cases k with
  | nm _ => cases h
  | two a b => simp only [Kd.last, Kd.dep]; omega
  | som r c => simp only [Kd.last, Kd.dep]; omega
theorem Kd.eq_parts {k k' : Kd} (h : k.isT = true) (h' : k'.isT = true) : decide (k = k') = ((k.head == k'.head) && decide (k.mid = k'.mid) && decide (k.last = k'.last)) := by
  have e1 : ((Str.ofString "both" : Str) == Str.ofString "some") = false := beq_eq_false_iff_ne.mpr both_ne_some
  have e2 : ((Str.ofString "some" : Str) == Str.ofString "both") = false := beq_eq_false_iff_ne.mpr (Ne.symm both_ne_some)
  cases k with
  | nm _ => cases h
  | two a b =>
    cases k' with
    | nm _ => cases h'
    | two a' b' => by_cases c1 : a = a' <;> by_cases c2 : b = b' <;> simp [Kd.head, Kd.mid, Kd.last, c1, c2]
    | som r c => rw [decide_eq_false (by intro z; cases z)]; simp [Kd.head, e1]
  | som r c =>
    cases k' with
    | nm _ => cases h'
    | two a' b' => rw [decide_eq_false (by intro z; cases z)]; simp [Kd.head, e2]
    | som r' c' => by_cases c1 : r = r' <;> by_cases c2 : c = c' <;> simp [Kd.head, Kd.mid, Kd.last, c1, c2]
theorem Kd.nm_of {k : Kd} (h : ¬ k.isT = true) : ∃ x, k = .nm x := by
  cases k with
  | nm x => exact ⟨x, rfl⟩
  | _ => exact absurd rfl h
theorem nm_eq {x y : Str} : decide (Kd.nm x = Kd.nm y) = (x == y) := by
  by_cases h : x = y
  · subst h; simp
  · rw [decide_eq_false (by intro z; cases z; exact h rfl), beq_eq_false_iff_ne.mpr h]
theorem rcK {A : Around} (I : Inv X pins σ H s) {k k' : Kd} {x y : V} {u v : Value} (hx : IsK H k x) (hy : IsK H k' y) (ru : RelV x u) (rv : RelV y v) (hl : A.units + k.dep + 1 < cLine) :
    SeqAt.RcAt A s u v (decide (k = k')) ∧ SeqAt.RcNeAt A s u v (!decide (k = k')) := by
  by_cases h : k.isT = true
  · obtain ⟨p, x1, x2, rfl, hp, m1, l1⟩ := hx.parts h
    cases ru
    obtain ⟨u0, u1, u2, t1, a0, a1, a2⟩ := tup3_at I hp
    by_cases h' : k'.isT = true
    · obtain ⟨p', y1, y2, rfl, hp', m2, l2⟩ := hy.parts h'
      cases rv
      obtain ⟨v0, v1, v2, t2, c0, c1, c2⟩ := tup3_at I hp'
      have d1 := Kd.mid_dep h
      have d2 := Kd.last_dep h
      have he : ∀ j (g1 : j < (#[u0, u1, u2] : Array Value).size) (g2 : j < (#[v0, v1, v2] : Array Value).size), SeqAt.EqAt A.in1 s (#[u0, u1, u2] : Array Value)[j] (#[v0, v1, v2] : Array Value)[j] ((fun j => if j = 0 then (k.head == k'.head) else if j = 1 then decide (k.mid = k'.mid) else decide (k.last = k'.last)) j) := fun j g1 g2 => by
        have g : j < 3 := g1
        match j, g with
        | 0, _ => exact strAt A.in1 s a0 c0
        | 1, _ => exact eqK I m1 m2 a1 c1 (by rw [in1_units]; omega)
        | 2, _ => exact eqK I l1 l2 a2 c2 (by rw [in1_units]; omega)
      have q1 := SeqAt.RcAt.tuples (A := A) t1 t2 (by omega) he
      have q2 := SeqAt.RcNeAt.tuples (A := A) t1 t2 (by omega) he
      rw [all3, ← Kd.eq_parts h h'] at q1
      rw [all3, ← Kd.eq_parts h h'] at q2
      exact ⟨q1, q2⟩
    · obtain ⟨z, rfl⟩ := Kd.nm_of h'
      cases hy
      obtain ⟨t, rfl⟩ := rv
      have e : decide (k = Kd.nm z) = false := decide_eq_false (by rintro rfl; cases h)
      rw [e]
      exact ⟨SeqAt.RcAt.tuple_str _ _ t1 (by omega), SeqAt.RcNeAt.tuple_str _ _ t1 (by omega)⟩
  · obtain ⟨z, rfl⟩ := Kd.nm_of h
    cases hx
    obtain ⟨t, rfl⟩ := ru
    by_cases h' : k'.isT = true
    · obtain ⟨p', y1, y2, rfl, hp', m2, l2⟩ := hy.parts h'
      cases rv
      obtain ⟨v0, v1, v2, t2, c0, c1, c2⟩ := tup3_at I hp'
      have e : decide (Kd.nm z = k') = false := decide_eq_false (by rintro rfl; cases h')
      rw [e]
      exact ⟨SeqAt.RcAt.str_tuple _ _ t2 (by omega), SeqAt.RcNeAt.str_tuple _ _ t2 (by omega)⟩
    · obtain ⟨z', rfl⟩ := Kd.nm_of h'
      cases hy
      obtain ⟨t', rfl⟩ := rv
      rw [nm_eq]
      exact ⟨SeqAt.RcAt.str_str _ _ _ _, SeqAt.RcNeAt.str_str _ _ _ _⟩
end
section
variable {X : Cx}
def rEqK : R2 := fun x y H Q => ∃ k k' : Kd, IsK H k x ∧ IsK H k' y ∧ k.dep ≤ 60 ∧ Q (.bl (decide (k = k'))) H
def rNeK : R2 := fun x y H Q => ∃ k k' : Kd, IsK H k x ∧ IsK H k' y ∧ k.dep ≤ 60 ∧ Q (.bl (!decide (k = k'))) H
theorem op_eqK (hu : X.A.units + 64 < cLine) : OpR X (compareOp .Eq) rEqK := by
  intro pins s σ H x y v u Q I rx ry h
  obtain ⟨k, k', h1, h2, hd, q⟩ := h
  exact (rcK I h1 h2 rx ry (by omega)).1 _ _ _ _ ⟨.bl _, H, I, rfl, q⟩
theorem op_neK (hu : X.A.units + 64 < cLine) : OpR X (compareOp .NotEq) rNeK := by
  intro pins s σ H x y v u Q I rx ry h
  obtain ⟨k, k', h1, h2, hd, q⟩ := h
  exact (rcK I h1 h2 rx ry (by omega)).2 _ _ _ _ ⟨.bl _, H, I, rfl, q⟩
end
end L2
set_option Elab.async false
set_option linter.all false
set_option maxRecDepth 100000
set_option maxHeartbeats 4000000
/-! EXTENSION 4: enumerate of a list; partition, startswith, split; every second item. -/
namespace L2
open PySem PySem.Spec PyProof.Rows
section
variable {X : Cx} {pins : List (Addr × Obj)} {σ : St} {H : Hp} {s : Shared} {h' : Heap}
/-- untracked records of ours have turned -/
theorem Inv.turnedL {t' : Nat} {fp : List Addr} (I : Inv X pins σ H s) (hf : ∀ b ∈ fp, FpOk X pins H b) (k : ∀ b o, b ∉ fp → s.heap.get? b = some o → h'.get? b = some o) : Inv X pins σ H { s with heap := h', toks := t' } := by
  have nit : ∀ b u, H b = some u → b ∉ fp := fun b u e z => by rw [(hf b z).1] at e; cases e
  refine I.step (g' := s.gens) (d' := s.drawn) (ch := fp) (fun b hb => ?_) (fun b o _ _ hc e _ => k b o hc e) (fun b o _ _ hc e _ => ⟨o.slots, k b o hc e⟩) (fun _ _ _ _ n => n)
    (fun b o hc e => ⟨o, k b o hc e⟩) (fun _ _ e => e) (fun _ _ _ e => e) (fun b ps e => ⟨#[], by rw [e]; simp⟩) (fun m hm => ?_) (fun b u e => ?_) I.bare
  · obtain ⟨f0, f1, f2, f3, f4, f5⟩ := hf b hb
    exact ⟨f3, f1, f4, f5⟩
  · obtain ⟨o, es, ep, ho, r⟩ := hm
    exact ⟨o, es, ep, k _ o (fun z => (hf _ z).2.1 rfl) ho, r⟩
  · refine (I.hok b u e).stay (fun c v hc q => k c v ?_ q) (fun _ q => q) fun _ _ q => q
    rcases hc with z | z
    · rw [z]; exact nit b u e
    · exact nit c _ z
/-- .. and a new object is tracked -/
theorem Inv.turnedT {t' : Nat} {fp : List Addr} {T : Addr} {u : HO} (I : Inv X pins σ H s) (hf : ∀ b ∈ fp, FpOk X pins H b) (k : ∀ b o, b ∉ fp → s.heap.get? b = some o → h'.get? b = some o) (hT : s.heap.objs.size ≤ T) (new : ObjOk X.prog X.w (upd H T u) h' T u) :
    Inv X pins σ (upd H T u) { s with heap := h', toks := t' } := by
  have nit : ∀ b u, H b = some u → b ∉ fp := fun b u e z => by rw [(hf b z).1] at e; cases e
  have hn : H T = none := I.hok.fresh hT
  have nT : ∀ b o, s.heap.get? b = some o → b ≠ T := fun b o e => Nat.ne_of_lt (Nat.lt_of_lt_of_le (Heap.lt_size e) hT)
  refine I.step (g' := s.gens) (d' := s.drawn) (ch := fp) (fun b hb => ?_) (fun b o _ _ hc e _ => k b o hc e) (fun b o _ _ hc e _ => ⟨o.slots, k b o hc e⟩) (fun b o _ e n => by rw [upd_ne (nT b o e)]; exact n)
    (fun b o hc e => ⟨o, k b o hc e⟩) (fun b xs e => by rw [upd_ne (ne_of_none e hn)]; exact e) (fun b o u e => by rw [upd_ne (ne_of_none e hn)]; exact e) (fun b ps e => ⟨#[], by rw [upd_ne (ne_of_none e hn), e]; simp⟩) (fun m hm => ?_) (fun b u' e => ?_) I.bare
  · obtain ⟨f0, f1, f2, f3, f4, f5⟩ := hf b hb
    exact ⟨f3, f1, f4, f5⟩
  · obtain ⟨o, es, ep, ho, r⟩ := hm
    exact ⟨o, es, ep, k _ o (fun z => (hf _ z).2.1 rfl) ho, r⟩
  · by_cases hb : b = T
    · subst hb
      rw [upd_same] at e
      cases e
      exact new
    · rw [upd_ne hb] at e
      refine (I.hok b u' e).stay (fun c v hc q => k c v ?_ q) (fun c q => by rw [upd_ne (ne_of_none q hn)]; exact q) fun c xs q => by rw [upd_ne (ne_of_none q hn)]; exact q
      rcases hc with z | z
      · rw [z]; exact nit b u' e
      · exact nit c _ z
end
/-! ### enumerate -/
def ItE (K : PySem.W.Frag) (a : Addr) : It :=
  ⟨fun i H => ∃ xs x, SqL K H a xs ∧ xs[i]? = some x, fun i H v H' => ∃ T x, v = .ref T ∧ H T = none ∧ H' = upd H T (.tup [.int (i : Int), x]) ∧ ∀ xs, SqL K H a xs → xs[i]? = some x, fun i H => ∃ xs, SqL K H a xs ∧ xs.length ≤ i⟩
theorem turn_enum {P : Program} {w : World} {K : PySem.W.Frag} {elts : List Expr} {k : Nat} {pos : Pos} (a e it : Addr) (hei : e ≠ it) (hae : a ≠ e) (hai : a ≠ it) : Turn P w K (.Tuple elts k pos) (ItE K a) [e, it] e (fun i h => (∃ old, IsEnum h e it i old) ∧ h.IsListIter it a i) where
  mem := by simp
  obj := fun i h st b hb => by
    obtain ⟨⟨old, he⟩, o, ho, hc, hd⟩ := st
    rcases List.mem_cons.mp hb with rfl | hb
    · exact ⟨_, he, fun v z => by
        have z' : Data.fields _ = Data.cell v := z
        cases z'⟩
    · rw [List.mem_singleton.mp hb]
      exact ⟨o, ho, fun v z => by rw [hd] at z; cases z⟩
  keep := fun i h h' st kk => by
    obtain ⟨⟨old, he⟩, hit⟩ := st
    exact ⟨⟨old, kk e (by simp) _ he⟩, hit.at fun o x => kk it (by simp) o x⟩
  item := by
    intro X hP hw hK hc i pins s σ H E I hf st hg
    subst hP hw hK
    obtain ⟨xs, x, hq, hx⟩ := hg
    obtain ⟨its, rv, p, hz⟩ := I.list hq
    obtain ⟨u, hu, ru⟩ := rv.get hx
    have W := WalksT.enumerate (prog := X.prog) (w := X.w) (A := X.A) (I.ok.hd hc) e it a hei hae hai its.toArray
    have hi : i < its.toArray.size := by
      have := (List.getElem?_eq_some_iff.mp hu).1
      simpa using this
    refine W.item i s _ _ hi ⟨st.1, st.2, p.isList⟩ fun T vals h1 tk hP hT hTup hm hk => ?_
    obtain ⟨t, x', hx', rfl⟩ := hP
    have hxu : x' = u := by
      have : its[i]? = some x' := by simpa using hx'
      rw [hu] at this
      exact (Option.some.inj this).symm
    subst hxu
    have nTe := W.apart i T h1 hm
    refine ⟨_, rfl, W.go elts k pos i T _ _ _ hm fun h2 st2 hk2 => ?_⟩
    have kk : ∀ b o, b ∉ [e, it] → s.heap.get? b = some o → h2.get? b = some o := fun b o hb q => hk2 b o hb (hk b o hb q)
    have hT2 : h2.IsTuple T #[.int (i : Int) t, x'] := hTup.at fun o q => hk2 T o nTe q
    refine ⟨.ref T, upd H T (.tup [.int (i : Int), x]), I.turnedT (t' := tk) hf kk hT ?_, rfl, ⟨T, x, rfl, I.hok.fresh hT, rfl, fun ys hy => by rw [I.list_inj hy hq]; exact hx⟩, ⟨st2.1, st2.2.1⟩, fun b hb => ?_⟩
    · exact ⟨by show 2 ≤ sizeLine; exact Nat.le_of_lt (small1000 (by decide)), [.int (i : Int) t, x'], .cons ⟨t, rfl⟩ (.cons ru .nil), hT2⟩
    · have : b ≠ T := fun z => by subst z; exact nTe hb
      rw [upd_ne this]
      exact (hf b hb).1
  done := by
    intro X hP hw hK hc i pins s σ H E I hf st hg
    subst hP hw hK
    obtain ⟨xs, hq, hx⟩ := hg
    obtain ⟨its, rv, p, hz⟩ := I.list hq
    have hl := rv.length
    obtain ⟨⟨old, he⟩, hit⟩ := st
    refine wpAny_pyNext_enum_end (I.ok.hd hc) he hit p.isList (Array.getElem?_eq_none (by simp; omega)) fun h' hx => ⟨rfl, I.turnedL (t' := s.toks) hf fun b o hb y => ?_⟩
    exact hx b o (fun e' => hb (by simp [e'])) y
  self := fun _ _ _ _ _ st h => by
    obtain ⟨⟨old, he⟩, _⟩ := st
    exact wpAny_pyIter_enum he h
def iEnum (K : PySem.W.Frag) (ta : TA) : TI := fun σ H R => ta σ H fun vs H1 => ∃ a, vs = [.ref a] ∧ (∃ xs, SqL K H1 a xs) ∧ R (ItE K a) H1
theorem pi_enum {X : Cx} {elts : List Expr} {k : Nat} {tpos : Pos} {l : Expr} {ta : TA} {p pos : Pos} (hg : Gl X "enumerate") (hm : X.mg "enumerate" = none) (ha : PA X [l] ta) (hs : starEach [l] X.env = [(false, eval l X.env)] := by rfl) : PI X (.Tuple elts k tpos) (.Call (.Name "enumerate" p) [l] [] pos) (iEnum X.K ta) := by
  intro pins s σ H R I h
  refine Call_ (ld_blt I hg hm boot_enumerate (PyProof.Rows.callWith_type1 (thn (ha pos pins s σ H _ I h) fun us s1 ⟨vs, H1, I1, r1, q1⟩ => ?_) hs rfl))
  obtain ⟨a, e, ⟨xs, hq⟩, q⟩ := q1
  subst e
  cases r1 with
  | cons r rr =>
    cases rr
    cases r
    obtain ⟨its, rv, p, hz⟩ := I1.list hq
    have hlt : a < s1.heap.objs.size := by
      obtain ⟨o, ho, _⟩ := p.isList
      exact Heap.lt_size ho
    refine call_enumerate_list p.isList fun h' hE hI hsz hk => ?_
    refine wpAny_pyIter_enum hE ?_
    have I2 : Inv X pins σ H1 { s1 with heap := h' } := I1.kept (t' := s1.toks) hk
    refine ⟨s1.heap.objs.size + 1, [s1.heap.objs.size + 1, s1.heap.objs.size], _, _, H1, rfl, I2, turn_enum a _ _ (Nat.succ_ne_self _) (Nat.ne_of_lt (Nat.lt_succ_of_lt hlt)) (Nat.ne_of_lt hlt), ⟨⟨.none, hE⟩, hI⟩, fun b hb => ?_, q⟩
    have hb' : s1.heap.objs.size ≤ b := by
      rcases List.mem_cons.mp hb with rfl | hb
      · exact Nat.le_succ _
      · rw [List.mem_singleton.mp hb]; exact Nat.le_refl _
    exact I1.fpOk hb' (I1.hok.fresh hb')
theorem for_enum {K : PySem.W.Frag} {a : Addr} {xs : List V} {g : TG} {tb : TS} {D : Ends} {σ : St} {H : Hp} (Pv : Nat → St → Hp → Prop) (h0 : Pv 0 σ H) (hl : ∀ i σ H, i ≤ xs.length → Pv i σ H → SqL K H a xs)
    (hs : ∀ i x σ H T, xs[i]? = some x → Pv i σ H → H T = none → g (.ref T) σ (upd H T (.tup [.int (i : Int), x])) fun σ2 H2 => tb { D with nx := Pv (i + 1), ct := Pv (i + 1), bk := D.nx } σ2 H2) (hd : ∀ σ H, Pv xs.length σ H → D.nx σ H) :
    ∃ W : Nat → Nat → St → Hp → Prop, (∃ m, W 0 m σ H) ∧ ∀ i m σ H, W i m σ H →
      ((ItE K a).stop i H ∧ D.nx σ H) ∨ ((ItE K a).go i H ∧ ∃ N : St → Hp → Prop, (∀ σ' H', N σ' H' → ∃ m', m' < m ∧ W (i + 1) m' σ' H') ∧ ∀ x H', (ItE K a).yld i H x H' → g x σ H' fun σ2 H2 => tb { D with nx := N, ct := N, bk := D.nx } σ2 H2) := by
  refine ⟨fun i m σ H => m = xs.length - i ∧ i ≤ xs.length ∧ Pv i σ H, ⟨xs.length, by simp, Nat.zero_le _, h0⟩, ?_⟩
  rintro i m σ H ⟨rfl, hi, p⟩
  have q := hl i σ H hi p
  by_cases hlt : i < xs.length
  · refine .inr ⟨⟨xs, xs[i], q, by simp [hlt]⟩, Pv (i + 1), fun σ' H' p' => ⟨xs.length - (i + 1), by omega, rfl, hlt, p'⟩, fun v H' y => ?_⟩
    obtain ⟨T, x, rfl, hT, rfl, y⟩ := y
    exact hs i x σ _ T (y xs q) p hT
  · have e : i = xs.length := by omega
    subst e
    exact .inl ⟨⟨xs, q, Nat.le_refl _⟩, hd σ H p⟩
section
variable {X : Cx}
/-! ### methods of texts -/
def rPartition : V → List V → Hp → VK → Prop := fun x vs H Q => ∃ z y, x = .str z ∧ vs = [.str y] ∧ (y.length == 0) = false ∧ z.length ≤ sizeLine ∧ ∀ p, H p = none → Q (.ref p) (upd H p (.tup [.str (Txt.partition z y).1, .str (Txt.partition z y).2.1, .str (Txt.partition z y).2.2]))
theorem mt_partition : MtR X "str.partition" rPartition := by
  intro pins s σ H x xs v us Q I rx rs h
  obtain ⟨z, y, rfl, rfl, hy, hz, q⟩ := h
  obtain ⟨t, rfl⟩ := rx
  obtain ⟨u, rfl, ru⟩ := rs.one
  obtain ⟨t', rfl⟩ := ru
  refine call_meets F.slot_str_partition (typeIs_str _ _ _) F.entry_str_partition (F.args_str_partition_2 _ _) (meets_str_partition z y t t' hy hz) ?_
  have fin : ∀ (ta tb tc : Tok) (k : Nat), EP X pins σ Q (.ref s.heap.objs.size) { s with toks := k, heap := s.heap.push { cls := .type "tuple", data := .seq [.str (Txt.partition z y).1 ta, .str (Txt.partition z y).2.1 tb, .str (Txt.partition z y).2.2 tc].toArray } } := fun ta tb tc k => by
    have hf : H s.heap.objs.size = none := I.hok.fresh (Nat.le_refl _)
    refine ⟨.ref s.heap.objs.size, _, I.laid (t' := k) (o := .tup [.str (Txt.partition z y).1, .str (Txt.partition z y).2.1, .str (Txt.partition z y).2.2]) (fun b u e => Heap.get?_push_of_some _ e) (Nat.le_refl _) ?_, rfl, q _ hf⟩
    exact ⟨by show 3 ≤ sizeLine; exact Nat.le_of_lt (small1000 (by decide)), _, .cons ⟨ta, rfl⟩ (.cons ⟨tb, rfl⟩ (.cons ⟨tc, rfl⟩ .nil)), ⟨_, Heap.get?_push_size _ rfl, rfl, _, rfl⟩⟩
  have fin' := fin
  unfold Txt.partition at fin'
  revert fin'
  cases Builtin.Str.occurrences z y 0 z.length 1 with
  | nil => intro fin'; exact fin' _ _ _ _
  | cons i r => intro fin'; exact fin' _ _ _ _
def rStarts : V → List V → Hp → VK → Prop := fun x vs H Q => ∃ z y, x = .str z ∧ vs = [.str y] ∧ Q (.bl (Txt.startswith z y)) H
theorem mt_startswith : MtR X "str.startswith" rStarts := by
  intro pins s σ H x xs v us Q I rx rs h
  obtain ⟨z, y, rfl, rfl, q⟩ := h
  obtain ⟨t, rfl⟩ := rx
  obtain ⟨u, rfl, ru⟩ := rs.one
  obtain ⟨t', rfl⟩ := ru
  exact SC.startswith ⟨.bl _, H, I, rfl, q⟩
theorem vals_strs : ∀ (l : List (Str × Tok)), Vals ((l.map (·.1)).map V.str) (strValues l)
  | [] => .nil
  | p :: r => .cons ⟨p.2, rfl⟩ (vals_strs r)
theorem parts_len (x : Str) (cuts : List Nat) (n : Nat) : (Builtin.Str.partsBetween x cuts n).length = cuts.length + 1 := by
  unfold Builtin.Str.partsBetween
  simp
def rSplit : V → List V → Hp → VK → Prop := fun x vs H Q => ∃ z y, x = .str z ∧ vs = [.str y] ∧ (y.length == 0) = false ∧ z.length ≤ 1000 ∧ ∀ p, H p = none → Q (.ref p) (upd H p (.lst ((Txt.split z y).map V.str)))
theorem mt_split : MtR X "str.split" rSplit := by
  intro pins s σ H x xs v us Q I rx rs h
  obtain ⟨z, y, rfl, rfl, hy, hz, q⟩ := h
  obtain ⟨t, rfl⟩ := rx
  obtain ⟨u, rfl, ru⟩ := rs.one
  obtain ⟨t', rfl⟩ := ru
  have hz' : z.length ≤ sizeLine := Nat.le_of_lt (small1000 hz)
  have ol := StrLaws.occ_length_le_len z y 0 z.length (z.length + 1)
  have pl : (Builtin.Str.partsBetween z (Builtin.Str.occurrences z y 0 z.length (z.length + 1)) y.length).length ≤ sizeLine := by
    rw [parts_len]
    have : 1002 ≤ sizeLine := by decide
    omega
  have fin : ∀ (l : List (Str × Tok)) (k : Nat), l.map (·.1) = Txt.split z y → l.length ≤ sizeLine → EP X pins σ Q (.ref s.heap.objs.size) { s with toks := k, heap := s.heap.push { cls := .type "list", data := .seq (strValues l).toArray } } := fun l k e hl => by
    have hf : H s.heap.objs.size = none := I.hok.fresh (Nat.le_refl _)
    refine ⟨.ref s.heap.objs.size, _, I.laid (t' := k) (o := .lst ((Txt.split z y).map V.str)) (fun b u e => Heap.get?_push_of_some _ e) (Nat.le_refl _) ?_, rfl, q _ hf⟩
    rw [← e]
    exact ⟨by rw [List.length_map, List.length_map]; exact hl, strValues l, 0, vals_strs l, Heap.get?_push_size _ rfl⟩
  cases h1 : (decide (z.length < y.length) || decide (Builtin.Str.strKind z < Builtin.Str.strKind y))
  · cases hf : (Builtin.Str.occurrences z y 0 z.length (z.length + 1)).isEmpty
    · refine call_meets F.slot_str_split (typeIs_str _ _ _) F.entry_str_split (F.args_str_split_2 _ _) (meets_str_split_sep z y t t' h1 hy hf hz' pl) ?_
      show wants _ _ _ { s with toks := _, heap := s.heap.push { cls := .type "list", data := .seq (strsFrom s.toks (Builtin.Str.partsBetween z (Builtin.Str.occurrences z y 0 z.length (z.length + 1)) y.length)).toArray } }
      rw [strsFrom_eq]
      refine fin (numbered s.toks _) _ ((numbered_texts _ _).trans ((if_neg (ne_true_of_eq_false h1)).trans (if_neg (ne_true_of_eq_false hf))).symm) ?_
      have := congrArg List.length (numbered_texts s.toks (Builtin.Str.partsBetween z (Builtin.Str.occurrences z y 0 z.length (z.length + 1)) y.length))
      rw [List.length_map] at this
      rw [this]; exact pl
    · exact call_meets F.slot_str_split (typeIs_str _ _ _) F.entry_str_split (F.args_str_split_2 _ _) (meets_str_split_not_found z y t t' h1 hy hf)
        (fin [(z, t)] s.toks ((if_neg (ne_true_of_eq_false h1)).trans (if_pos hf)).symm (by show 1 ≤ sizeLine; exact Nat.le_of_lt (small1000 (by decide))))
  · exact call_meets F.slot_str_split (typeIs_str _ _ _) F.entry_str_split (F.args_str_split_2 _ _) (meets_str_split_cannot_occur z y t t' h1)
      (fin [(z, t)] s.toks (if_pos h1).symm (by show 1 ≤ sizeLine; exact Nat.le_of_lt (small1000 (by decide))))
/-! ### every second item of three, of five -/
theorem pick3 (a b c : Value) : slicePick #[a, b, c] none none (some 2) = #[a, c] := by
  have e : sliceRange (sliceBounds none none (some 2) 3).1 (sliceBounds none none (some 2) 3).2.1 (sliceBounds none none (some 2) 3).2.2 = [0, 2] := by decide +kernel
  unfold slicePick
  rw [show (#[a, b, c] : Array Value).size = 3 from rfl, e]
  rfl
theorem pick5 (a b c d e : Value) : slicePick #[a, b, c, d, e] none none (some 2) = #[a, c, e] := by
  have e5 : sliceRange (sliceBounds none none (some 2) 5).1 (sliceBounds none none (some 2) 5).2.1 (sliceBounds none none (some 2) 5).2.2 = [0, 2, 4] := by decide +kernel
  unfold slicePick
  rw [show (#[a, b, c, d, e] : Array Value).size = 5 from rfl, e5]
  rfl
def rSl2 : V → Hp → VK → Prop := fun x H Q => ∃ p xs ys, x = .ref p ∧ H p = some (.lst xs) ∧ ((∃ a b c, xs = [a, b, c] ∧ ys = [a, c]) ∨ ∃ a b c d e, xs = [a, b, c, d, e] ∧ ys = [a, c, e]) ∧ ∀ r, H r = none → Q (.ref r) (upd H r (.lst ys))
def tSl2 (te : TE) : TE := fun σ H Q => te σ H fun x H1 => rSl2 x H1 Q
theorem vals5 {x y z a b : V} {us : List Value} (r : Vals [x, y, z, a, b] us) : ∃ u0 u1 u2 u3 u4, us = [u0, u1, u2, u3, u4] ∧ RelV x u0 ∧ RelV y u1 ∧ RelV z u2 ∧ RelV a u3 ∧ RelV b u4 := by
  cases r with
  | cons r0 r =>
    cases r with
    | cons r1 r =>
      obtain ⟨u2, u3, u4, rfl, r2, r3, r4⟩ := vals3 r
      exact ⟨_, _, _, _, _, rfl, r0, r1, r2, r3, r4⟩
theorem pe_slice2 {e : Expr} {te : TE} {pos p2 p3 : Pos} {j : Nat} (he : PE X e te) : PE X (.Subscript e (.Slice none none (some (.Constant (.int 2) j p3)) p2) pos) (tSl2 te) := by
  intro pins s σ H Q I h
  refine Subscript_ (thn (he pins s σ H _ I h) fun v s1 ⟨x, H1, I1, r1, q1⟩ => ?_)
  refine wpAny_Slice ?_
  rw [evalPart_none]
  refine wpAny_pure (wpAny_pure ?_)
  rw [evalPart_some]
  refine wpAny_Constant_int ?_
  obtain ⟨p, xs, ys, rfl, hp, hx, q⟩ := q1
  cases r1
  generalize hs2 : ({ s1 with toks := s1.toks + 1 } : Shared) = s2
  have I2 : Inv X pins σ H1 s2 := by rw [← hs2]; exact I1.tok _
  have I4 : Inv X pins σ H1 { s2 with heap := s2.heap.push { cls := .type "slice", data := .fields #[.none, .none, .int 2 s1.toks] } } := I2.kept (t' := s2.toks) fun b ob q => Heap.get?_push_of_some _ q
  obtain ⟨its, r, ht, hz⟩ := I4.list (SqL.of hp)
  have hg : wpAny (model X.prog X.w) X.A (getItem (.ref p) (.ref s2.heap.objs.size)) (EP X pins σ Q) X.xe { s2 with heap := s2.heap.push { cls := .type "slice", data := .fields #[.none, .none, .int 2 s1.toks] } } := by
    refine wpAny_getItem_list_slice ht.isList (Heap.IsSliceOf.new ..) .none .none (.int 2 _) (by simp) ?_ (by rw [List.size_toArray, ← r.length]; exact hz)
    have hf := I4.hok.fresh (Nat.le_refl (s2.heap.push { cls := .type "slice", data := .fields #[.none, .none, .int 2 s1.toks] }).objs.size)
    refine ⟨.ref _, _, I4.laid (t' := s2.toks) (o := .lst ys) (fun b ob q => Heap.get?_push_of_some _ q) (Nat.le_refl _) ?_, rfl, q _ hf⟩
    rcases hx with ⟨a, b, c, rfl, rfl⟩ | ⟨a, b, c, d, f, rfl, rfl⟩
    · obtain ⟨u0, u1, u2, rfl, a0, a1, a2⟩ := vals3 r
      refine ⟨by show 2 ≤ sizeLine; exact Nat.le_of_lt (small1000 (by decide)), [u0, u2], 0, .cons a0 (.cons a2 .nil), ?_⟩
      rw [Heap.get?_push_size _ rfl]
      rw [pick3]
    · obtain ⟨u0, u1, u2, u3, u4, rfl, a0, a1, a2, a3, a4⟩ := vals5 r
      refine ⟨by show 3 ≤ sizeLine; exact Nat.le_of_lt (small1000 (by decide)), [u0, u2, u4], 0, .cons a0 (.cons a2 (.cons a4 .nil)), ?_⟩
      rw [Heap.get?_push_size _ rfl]
      rw [pick5]
  show wpAny (model X.prog X.w) X.A (subscriptTail e (.Slice none none (some (.Constant (.int 2) j p3)) p2) (.ref p) (.ref s2.heap.objs.size)) (EP X pins σ Q) X.xe { s2 with heap := s2.heap.push { cls := .type "slice", data := .fields #[.none, .none, .int 2 s1.toks] } }
  exact tail_any (ops := [.ref p, .ref s2.heap.objs.size]) ht.isList.typeIs slot_list_getitem.lookup hg (by with_unfolding_all rfl)
end
/-! ### what a split of words is -/
theorem Str.l_app (a b : Str) : (a ++ b).cps.toList = a.cps.toList ++ b.cps.toList := by rw [Str.cps_append]; simp
theorem app_sep {c : Nat} : ∀ {a b r t : List Nat}, c ∉ a → c ∉ b → a ++ c :: r = b ++ c :: t → a = b ∧ r = t
  | [], [], r, t, _, _, h => ⟨rfl, by simpa using h⟩
  | [], y :: b, r, t, _, hb, h => by
    simp only [List.nil_append, List.cons_append, List.cons.injEq] at h
    exact absurd (by rw [h.1]; exact List.mem_cons_self) hb
  | x :: a, [], r, t, ha, _, h => by
    simp only [List.nil_append, List.cons_append, List.cons.injEq] at h
    exact absurd (by rw [← h.1]; exact List.mem_cons_self) ha
  | x :: a, y :: b, r, t, ha, hb, h => by
    simp only [List.cons_append, List.cons.injEq] at h
    obtain ⟨e1, e2⟩ := app_sep (fun z => ha (List.mem_cons_of_mem _ z)) (fun z => hb (List.mem_cons_of_mem _ z)) h.2
    exact ⟨by rw [h.1, e1], e2⟩
theorem strX' {a b : Str} (h : a.cps.toList = b.cps.toList) : a = b := by
  cases a; cases b
  simp only [Str.mk.injEq]
  exact Array.toList_inj.mp h
theorem join_inj {c : Nat} : ∀ {ps qs : List Str}, ps ≠ [] → qs ≠ [] → (∀ p ∈ ps, c ∉ p.cps.toList) → (∀ q ∈ qs, c ∉ q.cps.toList) → Str.join ⟨#[c]⟩ ps = Str.join ⟨#[c]⟩ qs → ps = qs
  | [], _, h, _, _, _, _ => absurd rfl h
  | _, [], _, h, _, _, _ => absurd rfl h
  | [p], [q], _, _, _, _, h => by rw [show p = q from h]
  | [p], q :: q2 :: qs, _, _, hp, hq, h => by
    exfalso
    have h1 : p = q ++ ⟨#[c]⟩ ++ Str.join ⟨#[c]⟩ (q2 :: qs) := h
    have := hp p (by simp)
    rw [h1, Str.l_app, Str.l_app] at this
    simp at this
  | p :: p2 :: ps, [q], _, _, hp, hq, h => by
    exfalso
    have h1 : p ++ ⟨#[c]⟩ ++ Str.join ⟨#[c]⟩ (p2 :: ps) = q := h
    have := hq q (by simp)
    rw [← h1, Str.l_app, Str.l_app] at this
    simp at this
  | p :: p2 :: ps, q :: q2 :: qs, _, _, hp, hq, h => by
    have h1 : p ++ ⟨#[c]⟩ ++ Str.join ⟨#[c]⟩ (p2 :: ps) = q ++ ⟨#[c]⟩ ++ Str.join ⟨#[c]⟩ (q2 :: qs) := h
    have h2 := congrArg (fun z : Str => z.cps.toList) h1
    simp only [Str.l_app, List.append_assoc] at h2
    obtain ⟨e1, e2⟩ := app_sep (hp p (by simp)) (hq q (by simp)) (show p.cps.toList ++ c :: (Str.join ⟨#[c]⟩ (p2 :: ps)).cps.toList = q.cps.toList ++ c :: (Str.join ⟨#[c]⟩ (q2 :: qs)).cps.toList from h2)
    rw [strX' e1, join_inj (ps := p2 :: ps) (qs := q2 :: qs) (by simp) (by simp) (fun p hp' => hp p (List.mem_cons_of_mem _ hp')) (fun q hq' => hq q (List.mem_cons_of_mem _ hq')) (strX' e2)]
theorem split_join {c : Nat} {ps : List Str} (h0 : ps ≠ []) (h : ∀ p ∈ ps, c ∉ p.cps.toList) : Txt.split (Str.join ⟨#[c]⟩ ps) ⟨#[c]⟩ = ps := by
  refine join_inj (c := c) (fun z => ?_) h0 (StrLaws.split_free _ c) h (StrLaws.join_split _ _)
  have := PyProof.Rows.split_pos (Str.join ⟨#[c]⟩ ps) ⟨#[c]⟩
  rw [z] at this
  simp at this
/-- where the text is parted -/
theorem part_at {z y : Str} {i : Nat} (h : StrLaws.At z y z.length i) (hn : ∀ k, k < i → ¬ StrLaws.At z y z.length k) : Txt.partition z y = (Builtin.Str.strSub z 0 i, y, Builtin.Str.strSub z (i + y.length) z.length) := by
  unfold Txt.partition
  rcases StrLaws.occ_head z y 1 (Nat.le_refl 1) with ⟨h0, hh⟩ | ⟨j, r, h0, hj, hjn⟩
  · exact absurd h (hh i)
  · have : j = i := by
      rcases Nat.lt_trichotomy j i with g | g | g
      · exact absurd hj (hn j g)
      · exact g
      · exact absurd h (hjn i g)
    subst this
    rw [h0]
theorem at_iff (z y : Str) (i : Nat) (hy : 0 < y.length) : StrLaws.At z y z.length i ↔ ∃ r, z.cps.toList.drop i = y.cps.toList ++ r := by
  unfold StrLaws.At
  rw [StrLaws.subAt_eq]
  have hl : y.length = y.cps.toList.length := by simp [Str.length]
  have hz : z.length = z.cps.toList.length := by simp [Str.length]
  constructor
  · rintro ⟨h1, h2⟩
    refine ⟨(z.cps.toList.drop i).drop y.length, ?_⟩
    have e : (z.cps.toList.drop i).take y.length = y.cps.toList := by simpa using h2
    rw [← e]
    exact (List.take_append_drop _ _).symm
  · rintro ⟨r, h⟩
    have := congrArg List.length h
    rw [List.length_drop, List.length_append] at this
    constructor
    · omega
    · rw [h, hl]; simp
end L2
set_option Elab.async false
set_option linter.all false
set_option maxRecDepth 100000
set_option maxHeartbeats 4000000
namespace K11
open PySem L2
def top (i : Nat) : Stmt := PySem.Challenge.pw_kinwords_k11_sayings_written.main.body.getD i (.Pass ⟨0, 0, 0, 0⟩)
abbrev sSmall : Stmt := top 8
abbrev sAll : Stmt := top 9
abbrev sName : Stmt := top 10
abbrev sThing : Stmt := top 11
abbrev sShow : Stmt := top 12
abbrev sBehind : Stmt := top 13
abbrev sWordAt : Stmt := top 14
abbrev sNameAt : Stmt := top 15
abbrev sKWordAt : Stmt := top 16
abbrev sKindAt : Stmt := top 17
abbrev sRead : Stmt := top 18
abbrev sShowS : Stmt := top 20
abbrev sReadTie : Stmt := top 21
abbrev sRKinds : Stmt := top 22
abbrev sRThing : Stmt := top 23
abbrev sRTies : Stmt := top 24
abbrev sReadS : Stmt := top 25
abbrev sPick : Stmt := top 27
abbrev sLName : Stmt := top 28
abbrev sLThing : Stmt := top 29
abbrev sLKind : Stmt := top 30
abbrev sLSaying : Stmt := top 31
abbrev sLaw : Stmt := top 32
def smallC (c : Nat) : Bool := decide (97 ≤ c ∧ c ≤ 122)
def bigC (c : Nat) : Bool := decide (65 ≤ c ∧ c ≤ 90)
def words : List Str := ["anything", "nothing", "every", "no", "is", "tie", "within", "then", "makes", "both", "some"]
def fits (z : Str) : Bool := decide (1 ≤ z.length) && decide (z.length ≤ 12)
def nameB (z : Str) : Bool := fits z && z.cps.toList.all smallC && !inV (.str z) (words.map V.str)
def thingB (z : Str) : Bool := fits z && (match z.cps.toList with | [] => false | c :: r => bigC c && r.all smallC)
abbrev az : Str := "abcdefghijklmnopqrstuvwxyz"
theorem le_one (c d : Nat) : (!decide ([d] < [c])) = decide (c ≤ d) := by
  have h : ([d] < [c]) ↔ d < c := by
    simp [List.cons_lt_cons_iff]
  by_cases q : d < c
  · rw [decide_eq_true (h.mpr q), decide_eq_false (by omega)]; rfl
  · rw [decide_eq_false (fun z => q (h.mp z)), decide_eq_true (by omega)]; rfl
theorem az_small (c : Nat) : decide (c ∈ (az).cps.toList) = smallC c := by
  have e : (az).cps.toList = List.range' 97 26 := by decide +kernel
  rw [e]
  unfold smallC
  rw [decide_eq_decide, List.mem_range'_1]
  omega
def spSmall : Sp := fun vs H Q _ => ∃ c : Nat, vs = [.str ⟨#[c]⟩] ∧ Q (.bl (smallC c)) H
def spAll : Sp := fun vs H Q _ => ∃ z : Str, vs = [.str z] ∧ z.length ≤ 1000 ∧ ∀ H', Same H H' → Q (.bl (z.cps.toList.all smallC)) H'
def spName : Sp := fun vs H Q _ => ∃ z : Str, vs = [.str z] ∧ z.length ≤ 1000 ∧ ∀ H', Same H H' → Q (.bl (nameB z)) H'
def spThing : Sp := fun vs H Q _ => ∃ z : Str, vs = [.str z] ∧ z.length ≤ 1000 ∧ ∀ H', Same H H' → Q (.bl (thingB z)) H'
def spPick : Sp := fun vs H Q _ => ∃ c t m : Int, vs = [.int c, .int t, .int m] ∧ 0 < m ∧ ∀ r : Int, 0 ≤ r → r < m → Q (.int r) H
def spLaw (K : PySem.W.Frag) : Sp := fun vs H Q _ => ∃ (a : Addr) (ns : List Int), vs = [.ref a] ∧ SqL K H a (ns.map V.int) ∧ ns.length ≤ 63 ∧ ∀ H', Q (.bl true) H'
section
variable {P : Program} {w : World} {K : PySem.W.Frag} {mg : Str → Option Value} {base : Heap} {f g : Addr} {fd gd : FuncData}
theorem scSmall : FnScope ["sign"] ["sign"] (defScope sSmall) := ⟨rfl, rfl, rfl, by decide +kernel, rfl, by decide +kernel, by decide +kernel⟩
theorem ok_small (F : Fun K "is_small" "is_small" sSmall f fd) : FnOk P w K mg base CX0 1 f fd ["sign"] spSmall := by
  refine F.ok scSmall (fun vs H Q E h => ?_) (fun cdv A outer s H vs Q E hr h => ?_)
  · obtain ⟨c, rfl, _⟩ := h; rfl
  obtain ⟨c, rfl, q⟩ := h
  refine ⟨_, pss_one (ps_ret (pe_chain op_le_str op_le_str pe_str (pv 0) pe_str)), ?_⟩
  refine ⟨_, rfl, _, _, rfl, rfl, _, rfl, ?_⟩
  have e1 : (!decide (([c] : List Nat) < [97])) = decide (97 ≤ c) := le_one 97 c
  have e2 : (!decide (([122] : List Nat) < [c])) = decide (c ≤ 122) := le_one c 122
  show if (!decide (([c] : List Nat) < [97])) = true then _ else _
  rw [e1]
  refine ite2 (fun h => ?_) (fun h => ?_)
  · refine ⟨_, _, rfl, rfl, ?_⟩
    show Q (.bl (!decide (([122] : List Nat) < [c]))) H
    rw [e2]
    have h' : 97 ≤ c := of_decide_eq_true h
    have : smallC c = decide (c ≤ 122) := by unfold smallC; rw [decide_eq_decide]; omega
    rw [← this]
    exact q
  · have h' : ¬ 97 ≤ c := fun z => h (decide_eq_true z)
    have : smallC c = false := by unfold smallC; rw [decide_eq_false_iff_not]; omega
    rw [← this]
    exact q
theorem nd1 : (((["sign"] : List Str) ++ []) : List Str).Nodup := by decide +kernel
theorem scAll : FnScope ["text"] ["text"] (defScope sAll) := ⟨rfl, rfl, rfl, by decide +kernel, rfl, by decide +kernel, by decide +kernel⟩
theorem ok_all (F : Fun K "all_small" "all_small" sAll f fd) (G : FnOk P w K mg base CX0 1 g gd ["sign"] spSmall) (bG : Binds K gd ["sign"] []) (kG : PySem.W.keepIn K (.ref g) = true) (mG : mg "is_small" = some (.ref g)) (ma : mg "all" = none) :
    FnOk P w K mg base CX0 2 f fd ["text"] spAll := by
  refine F.ok scAll (fun vs H Q E h => ?_) (fun cdv A outer s H vs Q E hr h => ?_)
  · obtain ⟨c, rfl, _⟩ := h; rfl
  obtain ⟨z, rfl, hz, q⟩ := h
  refine ⟨_, pss_one (ps_ret (pe_callB (call_allB rfl) rfl ma PyProof.Rows.boot_all (pa_cons (pe_comp ["sign"] [] [] rfl (pi_str (pv 0)) (fun _ _ _ => pg_name (i := 0) nd1 rfl (Or.inl rfl)) (fun _ _ _ => pts_nil)
    (fun _ _ _ => pe_call G hr rfl mG kG bG .nil pass0 (pa_cons (pv 0) pa_nil))) pa_nil))), ?_⟩
  refine ⟨_, rfl, z, rfl, fun D hD => ?_⟩
  have hsz : z.cps.size = z.length := rfl
  refine cmp_by z.cps.size (fun i σ H' => (∃ o, σ = [o]) ∧ H' = upd H D (.lst (((z.cps.toList.take i).map smallC).map V.bl))) ⟨⟨_, rfl⟩, rfl⟩ ?_ ?_
  · rintro σ H' ⟨_, rfl⟩
    refine ⟨rfl, D, (z.cps.toList.map smallC), rfl, SqL.of ?_, ?_⟩
    · rw [upd_same, List.take_of_length_le (by simp)]
    · have e : (z.cps.toList.map smallC).all id = z.cps.toList.all smallC := by rw [List.all_map]; rfl
      rw [e]
      exact q _ (same_new hD _)
  · rintro i σ H' hi ⟨⟨o, rfl⟩, rfl⟩
    refine ⟨hi, ?_⟩
    rintro x H1 ⟨rfl, c, hc, rfl⟩
    refine ⟨_, rfl, c, rfl, _, upd_same, ?_, ⟨_, rfl⟩, ?_⟩
    · rw [List.length_map, List.length_map, List.length_take]
      exact small1000 (by omega)
    · rw [upd_upd]
      have hc' : z.cps.toList[i]? = some c := by simpa using hc
      rw [List.take_add_one, hc', List.map_append, List.map_append]
      rfl
theorem tup_of {its : Array Value} {n : Nat} {a : Addr} {od : Option Addr} {sl : Array (Option Value)} {xs : List V} {H : Hp} (l : K.lookup a = some ⟨.type "tuple", od, .seq its n, sl⟩) (hs : its.size ≤ sizeLine) (hv : Vals xs its.toList) : SqT K H a xs :=
  .inr ⟨_, its, n, l, rfl, rfl, hs, hv⟩
theorem scName : FnScope ["text"] ["text"] (defScope sName) := ⟨rfl, rfl, rfl, by decide +kernel, rfl, by decide +kernel, by decide +kernel⟩
theorem flat_words : (words.map V.str).all flatV = true := by decide +kernel
theorem ok_name {tk : Tok} {aT : Addr} (F : Fun K "is_name" "is_name" sName f fd) (G : FnOk P w K mg base CX0 2 g gd ["text"] spAll) (bG : Binds K gd ["text"] []) (kG : PySem.W.keepIn K (.ref g) = true) (mG : mg "all_small" = some (.ref g))
    (ml : mg "len" = none) (mM : mg "MOST_SIGNS" = some (.int 12 tk)) (mT : mg "TAKEN" = some (.ref aT)) (hT : ∀ H, SqT K H aT (words.map V.str)) :
    FnOk P w K mg base CX0 3 f fd ["text"] spName := by
  refine F.ok scName (fun vs H Q E h => ?_) (fun cdv A outer s H vs Q E hr h => ?_)
  · obtain ⟨c, rfl, _⟩ := h; rfl
  obtain ⟨z, rfl, hz, q⟩ := h
  refine ⟨_, pss_one (ps_ret (pe_and (pe_chain op_le op_le pe_int (pe_callB call_len_str rfl ml PySem.boot_len (pa_cons (pv 0) pa_nil)) (pe_glob (v := .int 12) rfl mM ⟨_, rfl⟩))
    (pe_and (pe_call G hr rfl mG kG bG .nil pass0 (pa_cons (pv 0) pa_nil)) (pe_one (pe_cmpR op_notIn_seq (pv 0) (pe_glob (v := .ref aT) rfl mT rfl) rfl))))), ?_⟩
  have hzl : z.length ≤ sizeLine := Nat.le_of_lt (small1000 hz)
  refine ⟨_, rfl, z, rfl, hzl, _, _, rfl, rfl, _, rfl, ?_⟩
  have e1 : decide ((1 : Int) ≤ (z.length : Int)) = decide (1 ≤ z.length) := by rw [decide_eq_decide]; omega
  have e2 : decide ((z.length : Int) ≤ 12) = decide (z.length ≤ 12) := by rw [decide_eq_decide]; omega
  have no : fits z = false → nameB z = false := fun e => by unfold nameB; rw [e, Bool.false_and, Bool.false_and]
  have sH := q H (Same.refl H)
  refine ite2 (fun h1 => ?_) (fun h1 => ?_)
  · refine ⟨_, _, rfl, rfl, _, rfl, ?_⟩
    refine ite2 (fun h2 => ?_) (fun h2 => ?_)
    · have hf : fits z = true := by unfold fits; rw [← e1, ← e2, h1, h2]; rfl
      refine ⟨_, rfl, z, rfl, hz, fun H' sm => ⟨_, rfl, ?_⟩⟩
      refine ite2 (fun h3 => ?_) (fun h3 => ?_)
      · refine ⟨_, rfl, aT, _, rfl, .inr (hT _), rfl, flat_words, ?_⟩
        have e : nameB z = !inV (.str z) (words.map V.str) := by unfold nameB; rw [hf, h3]; rfl
        show Q (.bl (!inV (.str z) (words.map V.str))) H'
        rw [← e]
        exact q H' sm
      · have e : nameB z = false := by unfold nameB; rw [hf, Bool.eq_false_iff.mpr h3]; rfl
        rw [← e]
        exact q H' sm
    · have hf : fits z = false := by
        unfold fits
        have h2' : decide (z.length ≤ 12) = false := by rw [← e2]; exact Bool.eq_false_iff.mpr h2
        rw [h2', Bool.and_false]
      rw [← no hf]
      exact sH
  · have hf : fits z = false := by
      unfold fits
      have h1' : decide (1 ≤ z.length) = false := by rw [← e1]; exact Bool.eq_false_iff.mpr h1
      rw [h1', Bool.false_and]
    refine ⟨_, rfl, iteF ?_⟩
    rw [← no hf]
    exact sH
theorem scThing : FnScope ["text"] ["text"] (defScope sThing) := ⟨rfl, rfl, rfl, by decide +kernel, rfl, by decide +kernel, by decide +kernel⟩
theorem scPick : FnScope ["_law_cell", "_law_turn", "_law_many", "_law_mixed"] ["_law_cell", "_law_turn", "_law_many"] (defScope sPick) := ⟨rfl, rfl, rfl, by decide +kernel, rfl, by decide +kernel, by decide +kernel⟩
theorem ok_pick (F : Fun K "_law_pick" "_law_pick" sPick f fd) : FnOk P w K mg base CX0 1 f fd ["_law_cell", "_law_turn", "_law_many"] spPick := by
  refine F.ok scPick (fun vs H Q E h => ?_) (fun cdv A outer s H vs Q E hr h => ?_)
  · obtain ⟨c, t, m, rfl, _⟩ := h; rfl
  obtain ⟨c, t, m, rfl, hm, q⟩ := h
  refine ⟨_, pss_cons (ps_set (i := 3) scPick.nd rfl (Or.inl rfl) (pe_op op_mod (pe_op op_mul (pe_op op_add (pe_op op_mod (pv 0) pe_int) pe_int) (pe_op op_add pe_int (pe_op op_mul pe_int (pv 1)))) pe_int))
    (pss_one (ps_ret (pe_op op_mod (pe_op op_fdiv (pe_op op_mod (pe_op op_mul (pv 3) pe_int) pe_int) pe_int) (pv 2)))), ?_⟩
  have h0 := Int.emod_nonneg c (show (2147483647 : Int) ≠ 0 by decide)
  have h1 := Int.emod_lt_of_pos c (show (0 : Int) < 2147483647 by decide)
  refine ⟨_, rfl, _, _, rfl, rfl, (show (0 : Int) < 2147483647 by decide), _, _, rfl, rfl, _, rfl, _, _, rfl, rfl, .inl ⟨by decide, by decide⟩, _, _, rfl, rfl, _, _, rfl, rfl, .inl ⟨by omega, by omega⟩, _, _, rfl, rfl, (show (0 : Int) < 2147483647 by decide), ?_⟩
  have h2 := Int.emod_nonneg ((c % 2147483647 + 7) * (48271 + 7919 * t)) (show (2147483647 : Int) ≠ 0 by decide)
  have h3 := Int.emod_lt_of_pos ((c % 2147483647 + 7) * (48271 + 7919 * t)) (show (0 : Int) < 2147483647 by decide)
  refine ⟨_, rfl, _, _, rfl, rfl, .inl ⟨by omega, by omega⟩, _, _, rfl, rfl, (show (0 : Int) < 2147483647 by decide), _, _, rfl, rfl, ⟨by decide, by decide⟩, _, rfl, _, _, rfl, rfl, hm, ?_⟩
  exact q _ (Int.emod_nonneg _ (by omega)) (Int.emod_lt_of_pos _ hm)
theorem sl1 (z : Str) : (Txt.slice z (some 1) none).cps.toList = z.cps.toList.drop 1 := by
  rw [slice_cps]
  have hx : z.cps.toList.length = z.length := by simp [Str.length]
  have e : HT.sIx z.length 0 (some 1) = min 1 z.length := HT.sIx_nat z.length 0 1
  have e2 : HT.sIx z.length z.length none = z.length := rfl
  rw [e, e2]
  rcases Nat.eq_zero_or_pos z.length with h | h
  · have : z.cps.toList = [] := List.eq_nil_of_length_eq_zero (by omega)
    rw [this]; simp
  · have : min 1 z.length = 1 := by omega
    rw [this, List.take_of_length_le (by rw [List.length_drop]; omega)]
theorem sl2 (z : Str) : (Txt.slice z none (some 1)).cps.toList = z.cps.toList.take 1 := by
  rw [slice_cps]
  have hx : z.cps.toList.length = z.length := by simp [Str.length]
  have e : HT.sIx z.length z.length (some 1) = min 1 z.length := HT.sIx_nat z.length z.length 1
  have e2 : HT.sIx z.length 0 none = 0 := rfl
  rw [e, e2, List.drop_zero, Nat.sub_zero]
  rcases Nat.eq_zero_or_pos z.length with h | h
  · have : z.cps.toList = [] := List.eq_nil_of_length_eq_zero (by omega)
    rw [this]; simp
  · have : min 1 z.length = 1 := by omega
    rw [this]
theorem ok_thing {tk : Tok} (F : Fun K "is_thing" "is_thing" sThing f fd) (G : FnOk P w K mg base CX0 2 g gd ["text"] spAll) (bG : Binds K gd ["text"] []) (kG : PySem.W.keepIn K (.ref g) = true) (mG : mg "all_small" = some (.ref g))
    (ml : mg "len" = none) (mM : mg "MOST_SIGNS" = some (.int 12 tk)) : FnOk P w K mg base CX0 3 f fd ["text"] spThing := by
  refine F.ok scThing (fun vs H Q E h => ?_) (fun cdv A outer s H vs Q E hr h => ?_)
  · obtain ⟨c, rfl, _⟩ := h; rfl
  obtain ⟨z, rfl, hz, q⟩ := h
  refine ⟨_, pss_one (ps_ret (pe_and (pe_chain op_le op_le pe_int (pe_callB call_len_str rfl ml PySem.boot_len (pa_cons (pv 0) pa_nil)) (pe_glob (v := .int 12) rfl mM ⟨_, rfl⟩))
    (pe_and (pe_chain op_le_str op_le_str pe_str (pe_ix ix_str (pv 0) pe_int (fun _ _ => rfl)) pe_str) (pe_one (pe_call G hr rfl mG kG bG .nil pass0 (pa_cons (pe_slice sl_str (pv 0) (po_some pe_int) po_none) pa_nil)))))), ?_⟩
  have hzl : z.length ≤ sizeLine := Nat.le_of_lt (small1000 hz)
  have hx : z.cps.toList.length = z.length := by simp [Str.length]
  refine ⟨_, rfl, z, rfl, hzl, _, _, rfl, rfl, _, rfl, ?_⟩
  have e1 : decide ((1 : Int) ≤ (z.length : Int)) = decide (1 ≤ z.length) := by rw [decide_eq_decide]; omega
  have e2 : decide ((z.length : Int) ≤ 12) = decide (z.length ≤ 12) := by rw [decide_eq_decide]; omega
  have no : fits z = false → thingB z = false := fun e => by unfold thingB; rw [e, Bool.false_and]
  have sH := q H (Same.refl H)
  refine ite2 (fun h1 => ?_) (fun h1 => ?_)
  · refine ⟨_, _, rfl, rfl, _, rfl, ?_⟩
    refine ite2 (fun h2 => ?_) (fun h2 => ?_)
    · have hf : fits z = true := by unfold fits; rw [← e1, ← e2, h1, h2]; rfl
      have h1' : 1 ≤ z.length := by have := of_decide_eq_true h1; omega
      obtain ⟨c, r, ecr⟩ : ∃ c r, z.cps.toList = c :: r := by
        cases e : z.cps.toList with
        | nil => rw [e] at hx; simp at hx; omega
        | cons c r => exact ⟨c, r, rfl⟩
      have et : thingB z = (bigC c && r.all smallC) := by unfold thingB; rw [hf, ecr]; rfl
      refine ⟨_, rfl, z, 0, c, rfl, rfl, hzl, ?_, _, _, rfl, rfl, _, rfl, ?_⟩
      · exact atI_nat (j := 0) (by rw [ecr]; rfl)
      have a1 : (!decide (([c] : List Nat) < [65])) = decide (65 ≤ c) := le_one 65 c
      have a2 : (!decide (([90] : List Nat) < [c])) = decide (c ≤ 90) := le_one c 90
      show if (!decide (([c] : List Nat) < [65])) = true then _ else _
      rw [a1]
      refine ite2 (fun h3 => ?_) (fun h3 => ?_)
      · have h3' : 65 ≤ c := of_decide_eq_true h3
        refine ⟨_, _, rfl, rfl, _, rfl, ?_⟩
        show if (!decide (([90] : List Nat) < [c])) = true then _ else _
        rw [a2]
        refine ite2 (fun h4 => ?_) (fun h4 => ?_)
        · have h4' : c ≤ 90 := of_decide_eq_true h4
          have hb : bigC c = true := by unfold bigC; exact decide_eq_true ⟨h3', h4'⟩
          have hl : (Txt.slice z (some 1) none).length ≤ 1000 := Nat.le_trans (Txt.slice_le z _ _) hz
          refine ⟨_, rfl, _, rfl, z, rfl, hzl, _, rfl, hl, fun H' sm => ?_⟩
          have e5 : (Txt.slice z (some 1) none).cps.toList.all smallC = thingB z := by rw [sl1, ecr, et, hb]; rfl
          rw [e5]
          exact q H' sm
        · have h4' : ¬ c ≤ 90 := fun k => h4 (decide_eq_true k)
          have hb : bigC c = false := by unfold bigC; exact decide_eq_false fun k => h4' k.2
          have e5 : thingB z = false := by rw [et, hb]; rfl
          rw [← e5]
          exact sH
      · have h3' : ¬ 65 ≤ c := fun k => h3 (decide_eq_true k)
        have hb : bigC c = false := by unfold bigC; exact decide_eq_false fun k => h3' k.1
        have e5 : thingB z = false := by rw [et, hb]; rfl
        refine ⟨_, rfl, iteF ?_⟩
        rw [← e5]
        exact sH
    · have hf : fits z = false := by
        unfold fits
        have h2' : decide (z.length ≤ 12) = false := by rw [← e2]; exact Bool.eq_false_iff.mpr h2
        rw [h2', Bool.and_false]
      rw [← no hf]
      exact sH
  · have hf : fits z = false := by
      unfold fits
      have h1' : decide (1 ≤ z.length) = false := by rw [← e1]; exact Bool.eq_false_iff.mpr h1
      rw [h1', Bool.false_and]
    refine ⟨_, rfl, iteF ?_⟩
    rw [← no hf]
    exact sH
theorem small2 {n : Nat} (h : n ≤ 1000) : n ≤ sizeLine := Nat.le_of_lt (small1000 h)
theorem at_str {z : Str} {r : Int} (h0 : 0 ≤ r) (h1 : r < (z.length : Int)) : ∃ c, atI z.cps.toList r = some c := by
  have hx : z.cps.toList.length = z.length := by simp [Str.length]
  have hr : r.toNat < z.cps.toList.length := by omega
  have q : atI z.cps.toList ((r.toNat : Nat) : Int) = some z.cps.toList[r.toNat] := atI_nat (by simp [hr])
  rw [show ((r.toNat : Nat) : Int) = r by omega] at q
  exact ⟨_, q⟩
end
end K11
set_option Elab.async false
set_option linter.all false
set_option maxRecDepth 100000
set_option maxHeartbeats 4000000
namespace K11
open PySem L2
/-! ### texts as lists of signs -/
def mkS (l : List Nat) : Str := ⟨l.toArray⟩
theorem mkS_l (l : List Nat) : (mkS l).cps.toList = l := by simp [mkS]
theorem mkS_len (l : List Nat) : (mkS l).length = l.length := by simp [mkS, Str.length]
theorem strX {a b : Str} (h : a.cps.toList = b.cps.toList) : a = b := by
  cases a; cases b
  simp only [Str.mk.injEq]
  exact Array.toList_inj.mp h
theorem mkS_of (z : Str) : mkS z.cps.toList = z := strX (mkS_l _)
theorem app_l (a b : Str) : (a ++ b).cps.toList = a.cps.toList ++ b.cps.toList := by rw [Str.cps_append]; simp
theorem len_l (z : Str) : z.length = z.cps.toList.length := by simp [Str.length]
theorem lit_both : (Str.ofString "both").cps.toList = [98, 111, 116, 104] := by decide +kernel
theorem lit_some : (Str.ofString "some").cps.toList = [115, 111, 109, 101] := by decide +kernel
theorem lit_ob : (Str.ofString "(both ").cps.toList = [40, 98, 111, 116, 104, 32] := by decide +kernel
theorem lit_os : (Str.ofString "(some ").cps.toList = [40, 115, 111, 109, 101, 32] := by decide +kernel
theorem lit_bl : (Str.ofString " ").cps.toList = [32] := by decide +kernel
theorem lit_cl : (Str.ofString ")").cps.toList = [41] := by decide +kernel
theorem lit_op : (Str.ofString "(").cps.toList = [40] := by decide +kernel
theorem lit_e : (Str.empty).cps.toList = [] := by decide +kernel
/-- a kind's writing -/
def wrL : Kd → List Nat
  | .nm x => x.cps.toList
  | .two a b => [40, 98, 111, 116, 104, 32] ++ wrL a ++ [32] ++ wrL b ++ [41]
  | .som r c => [40, 115, 111, 109, 101, 32] ++ r.cps.toList ++ [32] ++ wrL c ++ [41]
def wrS (k : Kd) : Str := mkS (wrL k)
theorem wr_parts {k : Kd} (h : k.isT = true) : wrL k = 40 :: (k.head.cps.toList ++ 32 :: (wrL k.mid ++ 32 :: (wrL k.last ++ [41]))) := by
  cases k with
  | nm _ => cases h
  | two a b => simp [wrL, Kd.head, Kd.mid, Kd.last, lit_both]
  | som r c => simp [wrL, Kd.head, Kd.mid, Kd.last, lit_some]
def wholeB (x : Str) : Bool := x == "anything" || x == "nothing"
/-- kinds with names that may stand there -/
def okK : Kd → Prop
  | .nm x => wholeB x = true ∨ nameB x = true
  | .two a b => okK a ∧ okK b
  | .som r c => nameB r = true ∧ okK c
theorem name_len {x : Str} (h : nameB x = true) : 1 ≤ x.length ∧ x.length ≤ 12 ∧ x.cps.toList.all smallC = true ∧ inV (.str x) (words.map V.str) = false := by
  unfold nameB fits at h
  simp only [Bool.and_eq_true, decide_eq_true_eq, Bool.not_eq_true'] at h
  exact ⟨h.1.1.1, h.1.1.2, h.1.2, h.2⟩
theorem whole_of {x : Str} (h : wholeB x = true) : x = "anything" ∨ x = "nothing" := by
  unfold wholeB at h
  simpa using h
theorem word_len {x : Str} (h : wholeB x = true ∨ nameB x = true) : 1 ≤ x.length ∧ x.length ≤ 12 ∧ x.cps.toList.all smallC = true := by
  rcases h with h | h
  · rcases whole_of h with rfl | rfl <;> decide +kernel
  · obtain ⟨a, b, c, _⟩ := name_len h
    exact ⟨a, b, c⟩
theorem wr_len : ∀ {k : Kd}, okK k → (wrL k).length ≤ 12 + 32 * k.nt
  | .nm x, h => by
    have := word_len h
    rw [len_l] at this
    simp only [wrL, Kd.nt]; omega
  | .two a b, h => by
    have h1 := wr_len h.1
    have h2 := wr_len h.2
    simp only [wrL, Kd.nt, List.length_append, List.length_cons, List.length_nil]; omega
  | .som r c, h => by
    have h1 := name_len h.1
    have h2 := wr_len h.2
    rw [len_l] at h1
    simp only [wrL, Kd.nt, List.length_append, List.length_cons, List.length_nil]; omega
theorem wr_pos : ∀ {k : Kd}, okK k → 1 ≤ (wrL k).length
  | .nm x, h => by
    have := word_len h
    rw [len_l] at this
    simp only [wrL]; omega
  | .two a b, h => by simp [wrL]
  | .som r c, h => by simp [wrL]
theorem small_no40 {l : List Nat} (h : l.all smallC = true) : l.count 40 = 0 := by
  rw [List.count_eq_zero]
  intro hm
  have := List.all_eq_true.mp h 40 hm
  exact absurd this (by decide)
theorem wr_count : ∀ {k : Kd}, okK k → (wrL k).count 40 = k.nt
  | .nm x, h => small_no40 (word_len h).2.2
  | .two a b, h => by
    have h1 := wr_count h.1
    have h2 := wr_count h.2
    simp only [wrL, Kd.nt, List.count_append, h1, h2]
    show 1 + _ + 0 + _ + 0 = _
    omega
  | .som r c, h => by
    have h1 := small_no40 (name_len h.1).2.2.1
    have h2 := wr_count h.2
    simp only [wrL, Kd.nt, List.count_append, h1, h2]
    show 1 + 0 + 0 + _ + 0 = _
    omega
/-- where a word ends -/
def stops : List Nat → Prop
  | [] => True
  | c :: _ => smallC c = false
theorem sIx_nat {n d m : Nat} (h : m ≤ n) : HT.sIx n d (some (m : Int)) = m := by
  simp only [HT.sIx]
  have : ¬ ((m : Int) < 0) := by omega
  simp only [this, if_false]
  omega
theorem slice_nat {z : Str} {n m : Nat} (h : n ≤ z.length) (hm : m ≤ z.length) : (Txt.slice z (some (n : Int)) (some (m : Int))).cps.toList = (z.cps.toList.drop n).take (m - n) := by
  rw [slice_cps, sIx_nat h, sIx_nat hm]
theorem slice_one {z : Str} {n c : Nat} (h : z.cps.toList[n]? = some c) : Txt.slice z (some (n : Int)) (some ((n : Int) + 1)) = ⟨#[c]⟩ := by
  have hn : n < z.cps.toList.length := (List.getElem?_eq_some_iff.mp h).1
  rw [← len_l] at hn
  apply strX
  rw [show (n : Int) + 1 = ((n + 1 : Nat) : Int) by omega, slice_nat (by omega) (by omega), Nat.add_sub_cancel_left]
  have : z.cps.toList.drop n = c :: z.cps.toList.drop (n + 1) := by
    rw [List.drop_eq_getElem_cons (by rw [← len_l]; exact hn)]
    congr 1
    exact (List.getElem?_eq_some_iff.mp h).2
  rw [this]
  rfl
theorem at_drop {l : List Nat} {n c : Nat} {r : List Nat} (h : l.drop n = c :: r) : l[n]? = some c := by
  have : (l.drop n)[0]? = some c := by rw [h]; rfl
  rw [List.getElem?_drop] at this
  simpa using this
theorem drop_app {l a r : List Nat} {n : Nat} (h : l.drop n = a ++ r) : l.drop (n + a.length) = r := by
  rw [← List.drop_drop, h, List.drop_left]
theorem drop_len {l a : List Nat} {n : Nat} {r : List Nat} (h : l.drop n = a ++ r) : a = [] ∨ n + a.length + r.length = l.length := by
  have := congrArg List.length h
  rw [List.length_drop, List.length_append] at this
  cases a with
  | nil => exact .inl rfl
  | cons x a => right; rw [List.length_cons] at this ⊢; omega
/-! ### contracts -/
def spShow (n : Nat) : Sp := fun vs H Q _ => ∃ (v : V) (k : Kd), vs = [v] ∧ IsK H k v ∧ okK k ∧ k.nt ≤ 24 ∧ k.dep < n ∧ Q (.str (wrS k)) H
def spBehind : Sp := fun vs H Q _ => ∃ (z : Str) (n c : Nat), vs = [.str z, .int (n : Int), .str ⟨#[c]⟩] ∧ z.length ≤ 1000 ∧ z.cps.toList[n]? = some c ∧ Q (.int ((n + 1 : Nat) : Int)) H
def WAt (z : Str) (n : Nat) (a rest : List Nat) : Prop := z.length ≤ 1000 ∧ n ≤ z.length ∧ z.cps.toList.drop n = a ++ rest
def spWordAt : Sp := fun vs H Q _ => ∃ (z : Str) (n : Nat) (a rest : List Nat), vs = [.str z, .int (n : Int)] ∧ WAt z n a rest ∧ a.all smallC = true ∧ stops rest ∧
  ∀ p, H p = none → Q (.ref p) (upd H p (.tup [.str (mkS a), .int ((n + a.length : Nat) : Int)]))
def spNameAt : Sp := fun vs H Q _ => ∃ (z : Str) (n : Nat) (a rest : List Nat), vs = [.str z, .int (n : Int)] ∧ WAt z n a rest ∧ nameB (mkS a) = true ∧ stops rest ∧
  ∀ p H', Same H H' → H' p = some (.tup [.str (mkS a), .int ((n + a.length : Nat) : Int)]) → Q (.ref p) H'
def spKWordAt : Sp := fun vs H Q _ => ∃ (z : Str) (n : Nat) (a rest : List Nat), vs = [.str z, .int (n : Int)] ∧ WAt z n a rest ∧ (wholeB (mkS a) = true ∨ nameB (mkS a) = true) ∧ stops rest ∧
  ∀ p H', Same H H' → H' p = some (.tup [.str (mkS a), .int ((n + a.length : Nat) : Int)]) → Q (.ref p) H'
def spKindAt (m : Nat) : Sp := fun vs H Q _ => ∃ (z : Str) (n : Nat) (k : Kd) (rest : List Nat), vs = [.str z, .int (n : Int)] ∧ WAt z n (wrL k) rest ∧ okK k ∧ stops rest ∧ k.dep < m ∧
  ∀ p H' v, Same H H' → H' p = some (.tup [v, .int ((n + (wrL k).length : Nat) : Int)]) → IsK H' k v → Q (.ref p) H'
def spRead : Sp := fun vs H Q _ => ∃ k : Kd, vs = [.str (wrS k)] ∧ okK k ∧ k.nt ≤ 24 ∧ ∀ H' v, Same H H' → IsK H' k v → Q v H'
theorem kit_str_str (K : PySem.W.Frag) : PySem.W.kitOne K (.type "str") (.type "str") = some true := rfl
theorem kit_tup_str (K : PySem.W.Frag) : PySem.W.kitOne K (.type "tuple") (.type "str") = some false := by
  first | rfl | decide | with_unfolding_all rfl
section
variable {P : Program} {w : World} {K : PySem.W.Frag} {mg : Str → Option Value} {base : Heap} {f g e d : Addr} {fd gd ed dd : FuncData}
theorem scShow : FnScope ["kind"] ["kind"] (defScope sShow) := ⟨rfl, rfl, rfl, by decide +kernel, rfl, by decide +kernel, by decide +kernel⟩
theorem show_eq_two (a b : Kd) : Str.empty ++ "(both " ++ wrS a ++ " " ++ wrS b ++ ")" = wrS (.two a b) := by
  apply strX
  simp only [app_l, lit_e, lit_ob, lit_bl, lit_cl, wrS, mkS_l, wrL, List.nil_append]
theorem show_eq_som (r : Str) (c : Kd) : Str.empty ++ "(some " ++ r ++ " " ++ wrS c ++ ")" = wrS (.som r c) := by
  apply strX
  simp only [app_l, lit_e, lit_os, lit_bl, lit_cl, wrS, mkS_l, wrL, List.nil_append]
theorem wrS_len {k : Kd} (h : okK k) : (wrS k).length ≤ 12 + 32 * k.nt := by
  rw [wrS, mkS_len]; exact wr_len h
theorem ok_show {n k0 : Nat} (F : Fun K "show_kind" "show_kind" sShow f fd) (Gsh : FnOk P w K mg base CX0 k0 f fd ["kind"] (spShow n)) (bGsh : Binds K fd ["kind"] []) (mGsh : mg "show_kind" = some (.ref f)) (mi : mg "isinstance" = none) (ms : mg "str" = none) :
    FnOk P w K mg base CX0 (k0 + 1) f fd ["kind"] (spShow (n + 1)) := by
  refine F.ok scShow (fun vs H Q E h => ?_) (fun cdv A outer s H vs Q E hr h => ?_)
  · obtain ⟨v, k, rfl, _⟩ := h; rfl
  obtain ⟨v, k, rfl, hk, ok, hnt, hd, q⟩ := h
  have hrsh := hr
  have kGsh := F.kp
  refine ⟨_, @pss_cons _ _ _ _ _ (by exact ps_if (pt_val (pe_callB call_isinst rfl mi PyProof.Rows.boot_isinstance (pa_cons (pv 0) (pa_cons (pe_bltn (v := .ty "str") rfl ms PyProof.Rows.boot_str rfl) pa_nil)))) (@pss_one _ _ _ (by exact ps_ret (pv 0))) pss_nil)
    (@pss_cons _ _ _ _ _ (by exact ps_if (pt_cmpR op_eq (pe_ix ix_tup (pv 0) pe_int (fun _ _ => rfl)) pe_str (nomark _)) (@pss_one _ _ _ (by exact ps_ret (pe_fstr (pf_str pe_str (pf_val (pe_call Gsh hrsh rfl mGsh kGsh bGsh .nil pass0 (pa_cons (pe_ix ix_tup (pv 0) pe_int (fun _ _ => rfl)) pa_nil)) (pf_str pe_str (pf_val (pe_call Gsh hrsh rfl mGsh kGsh bGsh .nil pass0 (pa_cons (pe_ix ix_tup (pv 0) pe_int (fun _ _ => rfl)) pa_nil)) (pf_str pe_str pf_nil)))))))) pss_nil)
    (@pss_one _ _ _ (by exact ps_ret (pe_fstr (pf_str pe_str (pf_val (pe_ix ix_tup (pv 0) pe_int (fun _ _ => rfl)) (pf_str pe_str (pf_val (pe_call Gsh hrsh rfl mGsh kGsh bGsh .nil pass0 (pa_cons (pe_ix ix_tup (pv 0) pe_int (fun _ _ => rfl)) pa_nil)) (pf_str pe_str pf_nil))))))))), ?_⟩
  cases k with
  | nm x =>
    obtain rfl : v = .str x := hk
    refine ⟨_, rfl, _, _, _, true, rfl, TyOf.str x, kit_str_str K, _, rfl, iteT ⟨_, rfl, ?_⟩⟩
    have : wrS (.nm x) = x := mkS_of x
    rw [this] at q
    exact q
  | two a b =>
    obtain ⟨p, x, y, rfl, hp, ha, hb⟩ := id hk
    refine ⟨_, rfl, _, _, _, false, rfl, TyOf.tup hp, kit_tup_str K, _, rfl, iteF ?_⟩
    refine ⟨_, rfl, p, _, 0, _, rfl, rfl, SqT.of hp, atI_nat (j := 0) rfl, rfl, _, rfl, ?_⟩
    rw [dec_str, beq_self_eq_true]
    simp only [Kd.nt, Kd.dep] at hnt hd
    have la := wrS_len ok.1
    have lb := wrS_len ok.2
    have l1 : (Str.ofString "(both ").length = 6 := by decide +kernel
    have l2 : (Str.ofString " ").length = 1 := by decide +kernel
    have l3 : (Str.ofString ")").length = 1 := by decide +kernel
    have l0 : Str.empty.length = 0 := by decide +kernel
    refine iteT ⟨_, rfl, small2 (by omega), small2 (by rw [Str.length_append]; omega), _, rfl, p, _, 1, _, rfl, rfl, SqT.of hp, atI_nat (j := 1) rfl, x, a, rfl, ha, ok.1, by omega, by omega, _, rfl, small2 (by omega), small2 (by simp only [Str.length_append]; omega), _, rfl, small2 (by omega), small2 (by simp only [Str.length_append]; omega),
      _, rfl, p, _, 2, _, rfl, rfl, SqT.of hp, atI_nat (j := 2) rfl, y, b, rfl, hb, ok.2, by omega, by omega, _, rfl, small2 (by omega), small2 (by simp only [Str.length_append]; omega), _, rfl, small2 (by omega), small2 (by simp only [Str.length_append]; omega), small2 (by simp only [Str.length_append]; omega), ?_⟩
    rw [show_eq_two]
    exact q
  | som r c =>
    obtain ⟨p, y, rfl, hp, hc⟩ := id hk
    refine ⟨_, rfl, _, _, _, false, rfl, TyOf.tup hp, kit_tup_str K, _, rfl, iteF ?_⟩
    refine ⟨_, rfl, p, _, 0, _, rfl, rfl, SqT.of hp, atI_nat (j := 0) rfl, rfl, _, rfl, ?_⟩
    rw [dec_str, beq_eq_false_iff_ne.mpr (Ne.symm both_ne_some)]
    simp only [Kd.nt, Kd.dep] at hnt hd
    have la := name_len ok.1
    have lb := wrS_len ok.2
    have l1 : (Str.ofString "(some ").length = 6 := by decide +kernel
    have l2 : (Str.ofString " ").length = 1 := by decide +kernel
    have l3 : (Str.ofString ")").length = 1 := by decide +kernel
    have l0 : Str.empty.length = 0 := by decide +kernel
    refine iteF ⟨_, rfl, small2 (by omega), small2 (by rw [Str.length_append]; omega), _, rfl, p, _, 1, _, rfl, rfl, SqT.of hp, atI_nat (j := 1) rfl, r, rfl, small2 (by omega), small2 (by simp only [Str.length_append]; omega), _, rfl, small2 (by omega), small2 (by simp only [Str.length_append]; omega),
      _, rfl, p, _, 2, _, rfl, rfl, SqT.of hp, atI_nat (j := 2) rfl, y, c, rfl, hc, ok.2, by omega, by omega, _, rfl, small2 (by omega), small2 (by simp only [Str.length_append]; omega), _, rfl, small2 (by omega), small2 (by simp only [Str.length_append]; omega), small2 (by simp only [Str.length_append]; omega), ?_⟩
    rw [show_eq_som]
    exact q
theorem show_none : FnOk P w K mg base CX0 0 f fd ["kind"] (spShow 0) := by
  have no : ∀ vs H Q E, ¬ spShow 0 vs H Q E := fun vs H Q E h => by
    obtain ⟨v, k, _, _, _, _, h, _⟩ := h
    omega
  exact ⟨fun vs H Q E h => absurd h (no vs H Q E), fun A outer s H args us vs Q E _ _ _ _ h => absurd h (no vs H Q E)⟩
theorem show_all (F : Fun K "show_kind" "show_kind" sShow f fd) (bGsh : Binds K fd ["kind"] []) (mGsh : mg "show_kind" = some (.ref f)) (mi : mg "isinstance" = none) (ms : mg "str" = none) : ∀ n : Nat, FnOk P w K mg base CX0 n f fd ["kind"] (spShow n)
  | 0 => show_none
  | n + 1 => ok_show F (show_all F bGsh mGsh mi ms n) bGsh mGsh mi ms
end
end K11
set_option Elab.async false
set_option linter.all false
set_option maxRecDepth 100000
set_option maxHeartbeats 4000000
namespace K11
open PySem L2
theorem dec_ne {a b : Str} (h : a ≠ b) : decide (V.str a = V.str b) = false := by
  rw [dec_str]; exact beq_eq_false_iff_ne.mpr h
theorem one_ne {c : Nat} (h : c ≠ 40) : (⟨#[c]⟩ : Str) ≠ Str.ofString "(" := by
  intro z
  have := congrArg (fun s : Str => s.cps.toList) z
  rw [lit_op] at this
  simp at this
  exact h this
theorem one_40 : (⟨#[40]⟩ : Str) = Str.ofString "(" := strX (by rw [lit_op])
theorem one_32 : (Str.ofString " ") = (⟨#[32]⟩ : Str) := strX (by rw [lit_bl])
theorem one_41 : (Str.ofString ")") = (⟨#[41]⟩ : Str) := strX (by rw [lit_cl])
theorem flat_whole : ([V.str "anything", V.str "nothing"] : List V).all flatV = true := by decide +kernel
theorem in_whole (x : Str) : inV (.str x) [V.str "anything", V.str "nothing"] = wholeB x := by
  unfold inV wholeB
  simp only [List.any_cons, List.any_nil, Bool.or_false, eqV]
  rw [Bool.beq_comm (a := Str.ofString "anything"), Bool.beq_comm (a := Str.ofString "nothing")]
section
variable {P : Program} {w : World} {K : PySem.W.Frag} {mg : Str → Option Value} {base : Heap} {f g e d a1 a2 a3 a4 : Addr} {fd gd ed dd d1 d2 d3 d4 : FuncData}
theorem scBehind : FnScope ["text", "at", "sign"] ["text", "at", "sign"] (defScope sBehind) := ⟨rfl, rfl, rfl, by decide +kernel, rfl, by decide +kernel, by decide +kernel⟩
theorem ok_behind (F : Fun K "behind" "behind" sBehind f fd) : FnOk P w K mg base CX0 1 f fd ["text", "at", "sign"] spBehind := by
  refine F.ok scBehind (fun vs H Q E h => ?_) (fun cdv A outer s H vs Q E hr h => ?_)
  · obtain ⟨z, n, c, rfl, _⟩ := h; rfl
  obtain ⟨z, n, c, rfl, hz, hc, q⟩ := h
  refine ⟨_, @pss_cons _ _ _ _ _ (by exact ps_if (pt_cmpR op_ne (pe_slice sl_str (pv 0) (po_some (pv 1)) (po_some (pe_op op_add (pv 1) pe_int))) (pv 2) (nomark _)) (@pss_one _ _ _ (by exact ps_never)) pss_nil)
    (@pss_one _ _ _ (by exact ps_ret (pe_op op_add (pv 1) pe_int))), ?_⟩
  refine ⟨_, rfl, _, rfl, n, rfl, _, rfl, _, _, rfl, rfl, _, rfl, z, rfl, small2 hz, _, rfl, rfl, _, rfl, ?_⟩
  rw [slice_one hc, decide_eq_true rfl]
  exact iteF ⟨_, rfl, _, _, rfl, rfl, q⟩
theorem scWordAt : FnScope ["text", "at", "end"] ["text", "at"] (defScope sWordAt) := ⟨rfl, rfl, rfl, by decide +kernel, rfl, by decide +kernel, by decide +kernel⟩
theorem ok_wordAt (F : Fun K "word_at" "word_at" sWordAt f fd) (Gs : FnOk P w K mg base CX0 1 g gd ["sign"] spSmall) (bGs : Binds K gd ["sign"] []) (kGs : PySem.W.keepIn K (.ref g) = true) (mGs : mg "is_small" = some (.ref g)) (ml : mg "len" = none) :
    FnOk P w K mg base CX0 2 f fd ["text", "at"] spWordAt := by
  refine F.ok scWordAt (fun vs H Q E h => ?_) (fun cdv A outer s H vs Q E hr h => ?_)
  · obtain ⟨z, n, a, rest, rfl, _⟩ := h; rfl
  obtain ⟨z, n, a, rest, rfl, ⟨hz, hn, hd⟩, hs, hst, q⟩ := h
  have hrs := hr
  refine ⟨_, @pss_cons _ _ _ _ _ (by exact ps_set (i := 2) scWordAt.nd rfl (Or.inl rfl) (pv 1))
    (@pss_cons _ _ _ _ _ (by exact ps_while PassesOwn.never (PW.pt (pw_and (pt_cmpR op_lt (pv 2) (pe_callB call_len_str rfl ml PySem.boot_len (pa_cons (pv 0) pa_nil)) (nomark _)) (pw_and1 (pt_val (pe_call Gs hrs rfl mGs kGs bGs .nil pass0 (pa_cons (pe_ix ix_str (pv 0) (pv 2) (fun _ _ => rfl)) pa_nil)))))) (@pss_one _ _ _ (by exact ps_aug (i := 2) scWordAt.nd rfl (Or.inl rfl) pe_int ip_add)))
    (@pss_one _ _ _ (by exact ps_ret (pe_tup (pa_cons (pe_slice sl_str (pv 0) (po_some (pv 1)) (po_some (pv 2))) (pa_cons (pv 2) pa_nil)))))), ?_⟩
  have hl : z.cps.toList.length = z.length := (len_l z).symm
  have htot : n + a.length + rest.length = z.length := by
    have := congrArg List.length hd
    rw [List.length_drop, List.length_append] at this
    omega
  refine ⟨_, rfl, ?_⟩
  refine ⟨fun m σ H' => ∃ j : Nat, m + j = a.length ∧ σ = [some (.str z), some (.int (n : Int)), some (.int ((n + j : Nat) : Int))] ∧ H' = H, ⟨a.length, 0, by omega, rfl, rfl⟩, ?_⟩
  rintro m σ H' ⟨j, hj, rfl, rfl⟩
  have sgn : ∀ c, z.cps.toList[n + j]? = some c → atI z.cps.toList ((n + j : Nat) : Int) = some c := fun c h => atI_nat h
  have fin : (j = a.length) → ∃ T : Prop, T := fun _ => ⟨True, trivial⟩
  refine ⟨_, rfl, _, rfl, z, rfl, small2 hz, _, _, rfl, rfl, _, rfl, ite2 (fun h => ?_) (fun h => ?_)⟩
  · have hlt : n + j < z.length := by have := of_decide_eq_true h; omega
    by_cases hja : j < a.length
    · have hc : z.cps.toList[n + j]? = some a[j] := by
        have : (z.cps.toList.drop n)[j]? = some a[j] := by rw [hd, List.getElem?_append_left hja, List.getElem?_eq_getElem hja]
        rw [List.getElem?_drop] at this
        exact this
      refine ⟨_, rfl, _, rfl, z, _, a[j], rfl, rfl, small2 hz, atI_nat hc, a[j], rfl, _, rfl, ?_⟩
      have sm : smallC a[j] = true := List.all_eq_true.mp hs _ (List.getElem_mem hja)
      rw [sm]
      refine iteT ⟨fun σ' H2 => ∃ m', m' < m ∧ ∃ j : Nat, m' + j = a.length ∧ σ' = [some (.str z), some (.int (n : Int)), some (.int ((n + j : Nat) : Int))] ∧ H2 = H', fun σ' H2 z => z, _, rfl, _, _, rfl, rfl, m - 1, by omega, j + 1, by omega, rfl, rfl⟩
    · have hja : j = a.length := by omega
      have hc : ∃ c r, rest = c :: r ∧ smallC c = false := by
        cases rest with
        | nil => simp only [List.length_nil] at htot; omega
        | cons c r => exact ⟨c, r, rfl, hst⟩
      obtain ⟨c, r, rfl, sc⟩ := hc
      have hc : z.cps.toList[n + j]? = some c := by
        have : (z.cps.toList.drop n)[j]? = some c := by rw [hd, List.getElem?_append_right (by omega), hja, Nat.sub_self]; rfl
        rw [List.getElem?_drop] at this
        exact this
      refine ⟨_, rfl, _, rfl, z, _, c, rfl, rfl, small2 hz, atI_nat hc, c, rfl, _, rfl, ?_⟩
      rw [sc]
      refine iteF ⟨_, rfl, _, rfl, n, rfl, _, rfl, _, rfl, z, rfl, small2 hz, _, rfl, small2 (by show 2 ≤ 1000; decide), fun p hp => ?_⟩
      have e : Txt.slice z (some (n : Int)) (some ((n + j : Nat) : Int)) = mkS a := by
        apply strX
        rw [slice_nat hn (by omega), mkS_l, hd, hja, Nat.add_sub_cancel_left, List.take_left]
      rw [e, hja]
      exact q p hp
  · have hge : ¬ n + j < z.length := fun z => h (decide_eq_true (by omega))
    have hja : j = a.length := by omega
    refine ⟨_, rfl, _, rfl, n, rfl, _, rfl, _, rfl, z, rfl, small2 hz, _, rfl, small2 (by show 2 ≤ 1000; decide), fun p hp => ?_⟩
    have e : Txt.slice z (some (n : Int)) (some ((n + j : Nat) : Int)) = mkS a := by
      apply strX
      rw [slice_nat hn (by omega), mkS_l, hd, hja, Nat.add_sub_cancel_left, List.take_left]
    rw [e, hja]
    exact q p hp
theorem scNameAt : FnScope ["text", "at", "word", "end"] ["text", "at"] (defScope sNameAt) := ⟨rfl, rfl, rfl, by decide +kernel, rfl, by decide +kernel, by decide +kernel⟩
theorem ok_nameAt (F : Fun K "name_at" "name_at" sNameAt f fd) (Gw : FnOk P w K mg base CX0 2 g gd ["text", "at"] spWordAt) (bGw : Binds K gd ["text", "at"] []) (kGw : PySem.W.keepIn K (.ref g) = true) (mGw : mg "word_at" = some (.ref g))
    (Gn : FnOk P w K mg base CX0 3 e ed ["text"] spName) (bGn : Binds K ed ["text"] []) (kGn : PySem.W.keepIn K (.ref e) = true) (mGn : mg "is_name" = some (.ref e)) :
    FnOk P w K mg base CX0 4 f fd ["text", "at"] spNameAt := by
  refine F.ok scNameAt (fun vs H Q E h => ?_) (fun cdv A outer s H vs Q E hr h => ?_)
  · obtain ⟨z, n, a, rest, rfl, _⟩ := h; rfl
  obtain ⟨z, n, a, rest, rfl, hW, hnm, hst, q⟩ := h
  have hrw := hr.mono (show 2 ≤ 3 by decide)
  have hrn := hr
  refine ⟨_, @pss_cons _ _ _ _ _ (by exact ps_asg (pe_call Gw hrw rfl mGw kGw bGw .nil pass0 (pa_cons (pv 0) (pa_cons (pv 1) pa_nil))) (pg_tup rfl (pgs_cons (pg_name (i := 2) scNameAt.nd rfl (Or.inl rfl)) (pgs_cons (pg_name (i := 3) scNameAt.nd rfl (Or.inl rfl)) pgs_nil))))
    (@pss_cons _ _ _ _ _ (by exact ps_if (pt_not (pt_val (pe_call Gn hrn rfl mGn kGn bGn .nil pass0 (pa_cons (pv 2) pa_nil)))) (@pss_one _ _ _ (by exact ps_never)) pss_nil)
    (@pss_one _ _ _ (by exact ps_ret (pe_tup (pa_cons (pv 2) (pa_cons (pv 3) pa_nil)))))), ?_⟩
  obtain ⟨n1, n2, n3, n4⟩ := name_len hnm
  rw [mkS_l] at n3
  refine ⟨_, rfl, _, rfl, z, n, a, rest, rfl, hW, n3, hst, fun p hp => ?_⟩
  refine ⟨p, _, rfl, SqT.of upd_same, rfl, _, _, rfl, _, _, rfl, rfl, ?_⟩
  refine ⟨_, rfl, mkS a, rfl, by omega, fun H2 s2 => ⟨_, rfl, ?_⟩⟩
  rw [hnm]
  refine iteF ⟨_, rfl, _, rfl, small2 (by show 2 ≤ 1000; decide), fun p2 hp2 => ?_⟩
  exact q p2 _ ((same_new hp _).trans (s2.trans (same_new hp2 _))) upd_same
theorem scKWordAt : FnScope ["text", "at", "word", "end"] ["text", "at"] (defScope sKWordAt) := ⟨rfl, rfl, rfl, by decide +kernel, rfl, by decide +kernel, by decide +kernel⟩
theorem ok_kWordAt {aW : Addr} (F : Fun K "kind_word_at" "kind_word_at" sKWordAt f fd) (Gw : FnOk P w K mg base CX0 2 g gd ["text", "at"] spWordAt) (bGw : Binds K gd ["text", "at"] []) (kGw : PySem.W.keepIn K (.ref g) = true) (mGw : mg "word_at" = some (.ref g))
    (Gna : FnOk P w K mg base CX0 4 e ed ["text", "at"] spNameAt) (bGna : Binds K ed ["text", "at"] []) (kGna : PySem.W.keepIn K (.ref e) = true) (mGna : mg "name_at" = some (.ref e)) (mW : mg "WHOLES" = some (.ref aW)) (hW : ∀ H, SqT K H aW [.str "anything", .str "nothing"]) :
    FnOk P w K mg base CX0 5 f fd ["text", "at"] spKWordAt := by
  refine F.ok scKWordAt (fun vs H Q E h => ?_) (fun cdv A outer s H vs Q E hr h => ?_)
  · obtain ⟨z, n, a, rest, rfl, _⟩ := h; rfl
  obtain ⟨z, n, a, rest, rfl, hz, hnm, hst, q⟩ := h
  have hrw := hr.mono (show 2 ≤ 4 by decide)
  have hrna := hr
  refine ⟨_, @pss_cons _ _ _ _ _ (by exact ps_asg (pe_call Gw hrw rfl mGw kGw bGw .nil pass0 (pa_cons (pv 0) (pa_cons (pv 1) pa_nil))) (pg_tup rfl (pgs_cons (pg_name (i := 2) scKWordAt.nd rfl (Or.inl rfl)) (pgs_cons (pg_name (i := 3) scKWordAt.nd rfl (Or.inl rfl)) pgs_nil))))
    (@pss_cons _ _ _ _ _ (by exact ps_if (pt_cmpR op_in_seq (pv 2) (pe_glob (v := .ref aW) rfl mW rfl) rfl) (@pss_one _ _ _ (by exact ps_ret (pe_tup (pa_cons (pv 2) (pa_cons (pv 3) pa_nil))))) pss_nil)
    (@pss_one _ _ _ (by exact ps_ret (pe_call Gna hrna rfl mGna kGna bGna .nil pass0 (pa_cons (pv 0) (pa_cons (pv 1) pa_nil)))))), ?_⟩
  have n3 := (word_len hnm).2.2
  rw [mkS_l] at n3
  refine ⟨_, rfl, _, rfl, z, n, a, rest, rfl, hz, n3, hst, fun p hp => ?_⟩
  refine ⟨p, _, rfl, SqT.of upd_same, rfl, _, _, rfl, _, _, rfl, rfl, ?_⟩
  refine ⟨_, rfl, aW, _, rfl, .inr (hW _), rfl, flat_whole, _, rfl, ?_⟩
  show if inV (.str (mkS a)) [V.str "anything", V.str "nothing"] = true then _ else _
  rw [in_whole]
  refine ite2 (fun h => ?_) (fun h => ?_)
  · refine ⟨_, rfl, _, rfl, small2 (by show 2 ≤ 1000; decide), fun p2 hp2 => ?_⟩
    exact q p2 _ ((same_new hp _).trans (same_new hp2 _)) upd_same
  · have hn : nameB (mkS a) = true := by
      rcases hnm with g | g
      · exact absurd g h
      · exact g
    exact ⟨_, rfl, _, rfl, z, n, a, rest, rfl, hz, hn, hst, fun p2 H2 s2 e2 => q p2 H2 ((same_new hp _).trans s2) e2⟩
theorem scKindAt : FnScope ["text", "at", "head", "end", "first", "second"] ["text", "at"] (defScope sKindAt) := ⟨rfl, rfl, rfl, by decide +kernel, rfl, by decide +kernel, by decide +kernel⟩
theorem ok_kindAt {m k0 : Nat} (hk0 : 5 ≤ k0) (F : Fun K "kind_at" "kind_at" sKindAt f fd) (Gka : FnOk P w K mg base CX0 k0 f fd ["text", "at"] (spKindAt m)) (bGka : Binds K fd ["text", "at"] []) (mGka : mg "kind_at" = some (.ref f))
    (Gw : FnOk P w K mg base CX0 2 a1 d1 ["text", "at"] spWordAt) (bGw : Binds K d1 ["text", "at"] []) (kGw : PySem.W.keepIn K (.ref a1) = true) (mGw : mg "word_at" = some (.ref a1))
    (Gna : FnOk P w K mg base CX0 4 a2 d2 ["text", "at"] spNameAt) (bGna : Binds K d2 ["text", "at"] []) (kGna : PySem.W.keepIn K (.ref a2) = true) (mGna : mg "name_at" = some (.ref a2))
    (Gkw : FnOk P w K mg base CX0 5 a3 d3 ["text", "at"] spKWordAt) (bGkw : Binds K d3 ["text", "at"] []) (kGkw : PySem.W.keepIn K (.ref a3) = true) (mGkw : mg "kind_word_at" = some (.ref a3))
    (Gb : FnOk P w K mg base CX0 1 a4 d4 ["text", "at", "sign"] spBehind) (bGb : Binds K d4 ["text", "at", "sign"] []) (kGb : PySem.W.keepIn K (.ref a4) = true) (mGb : mg "behind" = some (.ref a4)) :
    FnOk P w K mg base CX0 (k0 + 1) f fd ["text", "at"] (spKindAt (m + 1)) := by
  refine F.ok scKindAt (fun vs H Q E h => ?_) (fun cdv A outer s H vs Q E hr h => ?_)
  · obtain ⟨z, n, k, rest, rfl, _⟩ := h; rfl
  obtain ⟨z, n, k, rest, rfl, hW, ok, hst, hdp, q⟩ := h
  have hrw := hr.mono (show 2 ≤ k0 by omega)
  have hrna := hr.mono (show 4 ≤ k0 by omega)
  have hrkw := hr.mono hk0
  have hrb := hr.mono (show 1 ≤ k0 by omega)
  have hrka := hr
  have kGka := F.kp
  refine ⟨_, @pss_cons _ _ _ _ _ (by exact ps_if (pt_cmpR op_ne (pe_slice sl_str (pv 0) (po_some (pv 1)) (po_some (pe_op op_add (pv 1) pe_int))) pe_str (nomark _)) (@pss_one _ _ _ (by exact ps_ret (pe_call Gkw hrkw rfl mGkw kGkw bGkw .nil pass0 (pa_cons (pv 0) (pa_cons (pv 1) pa_nil))))) pss_nil)
    (@pss_cons _ _ _ _ _ (by exact ps_asg (pe_call Gw hrw rfl mGw kGw bGw .nil pass0 (pa_cons (pv 0) (pa_cons (pe_op op_add (pv 1) pe_int) pa_nil))) (pg_tup rfl (pgs_cons (pg_name (i := 2) scKindAt.nd rfl (Or.inl rfl)) (pgs_cons (pg_name (i := 3) scKindAt.nd rfl (Or.inl rfl)) pgs_nil))))
    (@pss_cons _ _ _ _ _ (by exact ps_set (i := 3) scKindAt.nd rfl (Or.inl rfl) (pe_call Gb hrb rfl mGb kGb bGb .nil pass0 (pa_cons (pv 0) (pa_cons (pv 3) (pa_cons pe_str pa_nil)))))
    (@pss_mid _ _ _ _ _ (by exact ps_if (pt_cmpR op_eq (pv 2) pe_str (nomark _)) (@pss_one _ _ _ (by exact ps_asg (pe_call Gka hrka rfl mGka kGka bGka .nil pass0 (pa_cons (pv 0) (pa_cons (pv 3) pa_nil))) (pg_tup rfl (pgs_cons (pg_name (i := 4) scKindAt.nd rfl (Or.inl rfl)) (pgs_cons (pg_name (i := 3) scKindAt.nd rfl (Or.inl rfl)) pgs_nil))))) (@pss_one _ _ _ (by exact ps_if (pt_cmpR op_eq (pv 2) pe_str (nomark _)) (@pss_one _ _ _ (by exact ps_asg (pe_call Gna hrna rfl mGna kGna bGna .nil pass0 (pa_cons (pv 0) (pa_cons (pv 3) pa_nil))) (pg_tup rfl (pgs_cons (pg_name (i := 4) scKindAt.nd rfl (Or.inl rfl)) (pgs_cons (pg_name (i := 3) scKindAt.nd rfl (Or.inl rfl)) pgs_nil))))) (@pss_one _ _ _ (by exact ps_never)))))
    (@pss_cons _ _ _ _ _ (by exact ps_asg (pe_call Gka hrka rfl mGka kGka bGka .nil pass0 (pa_cons (pv 0) (pa_cons (pe_call Gb hrb rfl mGb kGb bGb .nil pass0 (pa_cons (pv 0) (pa_cons (pv 3) (pa_cons pe_str pa_nil)))) pa_nil))) (pg_tup rfl (pgs_cons (pg_name (i := 5) scKindAt.nd rfl (Or.inl rfl)) (pgs_cons (pg_name (i := 3) scKindAt.nd rfl (Or.inl rfl)) pgs_nil))))
    (@pss_one _ _ _ (by exact ps_ret (pe_tup (pa_cons (pe_tup (pa_cons (pv 2) (pa_cons (pv 4) (pa_cons (pv 5) pa_nil)))) (pa_cons (pe_call Gb hrb rfl mGb kGb bGb .nil pass0 (pa_cons (pv 0) (pa_cons (pv 3) (pa_cons pe_str pa_nil)))) pa_nil))))))))), ?_⟩
  obtain ⟨hz, hn, hd⟩ := id hW
  by_cases hT : k.isT = true
  · have d0 := hd
    rw [wr_parts hT] at d0
    have c0 : z.cps.toList[n]? = some 40 := at_drop d0
    have dA : z.cps.toList.drop (n + 1) = k.head.cps.toList ++ (32 :: (wrL k.mid ++ 32 :: (wrL k.last ++ [41]))  ++ rest) := by
      have := drop_app (a := [40]) (r := k.head.cps.toList ++ 32 :: (wrL k.mid ++ 32 :: (wrL k.last ++ [41])) ++ rest) (by rw [d0]; rfl)
      rw [show n + 1 = n + [40].length from rfl, this, List.append_assoc]
    have hh : k.head.cps.toList.length = 4 ∧ k.head.cps.toList.all smallC = true := by
      cases k with
      | nm _ => cases hT
      | two _ _ => exact (by decide +kernel : (Str.ofString "both").cps.toList.length = 4 ∧ (Str.ofString "both").cps.toList.all smallC = true)
      | som _ _ => exact (by decide +kernel : (Str.ofString "some").cps.toList.length = 4 ∧ (Str.ofString "some").cps.toList.all smallC = true)
    have hlen : n + (wrL k).length + rest.length = z.length := by
      have := congrArg List.length hd
      rw [List.length_drop, List.length_append, ← len_l] at this
      omega
    have wl := congrArg List.length (wr_parts hT)
    simp only [List.length_cons, List.length_append, List.length_nil] at wl
    refine ⟨_, rfl, _, rfl, n, rfl, _, rfl, _, _, rfl, rfl, _, rfl, z, rfl, small2 hz, rfl, _, rfl, ?_⟩
    rw [slice_one c0, one_40, decide_eq_true rfl]
    refine iteF ⟨_, rfl, _, rfl, _, _, rfl, rfl, z, n + 1, k.head.cps.toList, _, rfl, ⟨hz, by omega, dA⟩, hh.2, (by show smallC 32 = false; decide), fun p hp => ?_⟩
    refine ⟨p, _, rfl, SqT.of upd_same, rfl, _, _, rfl, _, _, rfl, rfl, ?_⟩
    rw [mkS_of]
    have dB : z.cps.toList.drop (n + 5) = 32 :: (wrL k.mid ++ 32 :: (wrL k.last ++ [41])) ++ rest := by
      have := drop_app dA
      rw [hh.1] at this
      exact this
    have dC : z.cps.toList.drop (n + 6) = wrL k.mid ++ (32 :: (wrL k.last ++ [41]) ++ rest) := by
      have := drop_app (a := [32]) (r := wrL k.mid ++ 32 :: (wrL k.last ++ [41]) ++ rest) (by rw [dB]; rfl)
      rw [show n + 6 = n + 5 + [32].length from rfl, this, List.append_assoc]
    have dD : z.cps.toList.drop (n + 6 + (wrL k.mid).length) = 32 :: (wrL k.last ++ [41]) ++ rest := drop_app dC
    have dE : z.cps.toList.drop (n + 7 + (wrL k.mid).length) = wrL k.last ++ ([41] ++ rest) := by
      have := drop_app (a := [32]) (r := wrL k.last ++ [41] ++ rest) (by rw [dD]; rfl)
      rw [show n + 7 + (wrL k.mid).length = n + 6 + (wrL k.mid).length + [32].length by simp only [List.length_cons, List.length_nil]; omega, this, List.append_assoc]
    have dF : z.cps.toList.drop (n + 7 + (wrL k.mid).length + (wrL k.last).length) = [41] ++ rest := drop_app dE
    refine ⟨_, rfl, _, rfl, z, n + 5, 32, by rw [show ((n + 1 + k.head.cps.toList.length : Nat) : Int) = ((n + 5 : Nat) : Int) by rw [hh.1]]; rfl, hz, at_drop dB, ?_⟩
    have t0 := same_new (H := H) hp (.tup [.str k.head, .int ((n + 1 + k.head.cps.toList.length : Nat) : Int)])
    generalize hH1 : upd H p (.tup [.str k.head, .int ((n + 1 + k.head.cps.toList.length : Nat) : Int)]) = H1 at t0 ⊢
    have okm : okK k.mid := by
      cases k with
      | nm _ => cases hT
      | two a b => exact ok.1
      | som r c => exact .inr ok.1
    have okl : okK k.last := by
      cases k with
      | nm _ => cases hT
      | two a b => exact ok.2
      | som r c => exact ok.2
    have dm := Kd.mid_dep hT
    have dl := Kd.last_dep hT
    refine ⟨fun σ H' => ∃ v1, σ = [some (.str z), some (.int (n : Int)), some (.str k.head), some (.int ((n + 6 + (wrL k.mid).length : Nat) : Int)), some v1, none] ∧ Same H H' ∧ IsK H' k.mid v1, ?_, ?_⟩
    · cases k with
      | nm _ => cases hT
      | two a b =>
        refine ⟨_, rfl, rfl, _, rfl, ?_⟩
        rw [show decide (V.str (Kd.two a b).head = V.str "both") = true from decide_eq_true rfl]
        refine iteT ⟨_, rfl, _, rfl, z, n + 6, a, _, rfl, ⟨hz, by omega, dC⟩, okm, (by show smallC 32 = false; decide), by have : (Kd.two a b).mid.dep = a.dep := rfl; omega, fun p1 H2 v1 s2 e2 i2 => ?_⟩
        exact ⟨p1, _, rfl, SqT.of e2, rfl, _, _, rfl, _, _, rfl, rfl, v1, rfl, t0.trans s2, i2⟩
      | som r c =>
        refine ⟨_, rfl, rfl, _, rfl, ?_⟩
        rw [show decide (V.str (Kd.som r c).head = V.str "both") = false from dec_ne (Ne.symm both_ne_some)]
        refine iteF ⟨_, rfl, rfl, _, rfl, ?_⟩
        rw [show decide (V.str (Kd.som r c).head = V.str "some") = true from decide_eq_true rfl]
        refine iteT ⟨_, rfl, _, rfl, z, n + 6, r.cps.toList, _, rfl, ⟨hz, by omega, dC⟩, by rw [mkS_of]; exact ok.1, (by show smallC 32 = false; decide), fun p1 H2 s2 e2 => ?_⟩
        rw [mkS_of] at e2
        exact ⟨p1, _, rfl, SqT.of e2, rfl, _, _, rfl, _, _, rfl, rfl, .str r, rfl, t0.trans s2, rfl⟩
    rintro σ H2 ⟨v1, rfl, s2, i1⟩
    refine ⟨_, rfl, _, rfl, _, rfl, z, n + 6 + (wrL k.mid).length, 32, rfl, hz, at_drop dD, ?_⟩
    refine ⟨z, n + 7 + (wrL k.mid).length, k.last, _, by rw [show n + 6 + (wrL k.mid).length + 1 = n + 7 + (wrL k.mid).length by omega]; rfl, ⟨hz, by omega, dE⟩, okl, (by show smallC 41 = false; decide), by omega, fun p2 H3 v2 s3 e3 i2 => ?_⟩
    refine ⟨p2, _, rfl, SqT.of e3, rfl, _, _, rfl, _, _, rfl, rfl, ?_⟩
    refine ⟨_, rfl, _, rfl, _, rfl, small2 (by show 3 ≤ 1000; decide), fun p3 hp3 => ?_⟩
    refine ⟨_, rfl, _, rfl, z, n + 7 + (wrL k.mid).length + (wrL k.last).length, 41, rfl, hz, at_drop dF, small2 (by show 2 ≤ 1000; decide), fun p4 hp4 => ?_⟩
    have n34 : p3 ≠ p4 := ne_of_none (upd_same (H := H3) (a := p3)) hp4
    have tt := (tups_new (o := .tup [.str k.head, v1, v2]) hp3).trans (tups_new (o := .tup [.ref p3, .int ((n + 7 + (wrL k.mid).length + (wrL k.last).length + 1 : Nat) : Int)]) hp4)
    refine q p4 _ (.ref p3) ((s2.trans s3).trans ((same_new hp3 _).trans (same_new hp4 _))) ?_ ?_
    · rw [upd_same, show n + 7 + (wrL k.mid).length + (wrL k.last).length + 1 = n + (wrL k).length by omega]
    · have e3' : upd (upd H3 p3 (.tup [.str k.head, v1, v2])) p4 (.tup [.ref p3, .int ((n + 7 + (wrL k.mid).length + (wrL k.last).length + 1 : Nat) : Int)]) p3 = some (.tup [.str k.head, v1, v2]) := by rw [upd_ne n34]; exact upd_same
      have j1 := IsK.mono (s3.tups.trans tt) i1
      have j2 := IsK.mono tt i2
      cases k with
      | nm _ => cases hT
      | two a b => exact ⟨p3, v1, v2, rfl, e3', j1, j2⟩
      | som r c =>
        obtain rfl : v1 = .str r := i1
        exact ⟨p3, v2, rfl, e3', j2⟩
  · obtain ⟨x, rfl⟩ := Kd.nm_of hT
    have wlen := word_len ok
    have hx : ∃ c r, x.cps.toList = c :: r ∧ smallC c = true := by
      cases hc : x.cps.toList with
      | nil => rw [len_l, hc] at wlen; simp at wlen
      | cons c r =>
        refine ⟨c, r, rfl, ?_⟩
        have := wlen.2.2
        rw [hc] at this
        simp only [List.all_cons, Bool.and_eq_true] at this
        exact this.1
    obtain ⟨c, r, hc, sc⟩ := hx
    have hd' : z.cps.toList.drop n = x.cps.toList ++ rest := hd
    have c0 : z.cps.toList[n]? = some c := at_drop (r := r ++ rest) (by rw [hd', hc]; rfl)
    refine ⟨_, rfl, _, rfl, n, rfl, _, rfl, _, _, rfl, rfl, _, rfl, z, rfl, small2 hz, rfl, _, rfl, ?_⟩
    have c40 : c ≠ 40 := by rintro rfl; exact absurd sc (by decide)
    rw [slice_one c0, dec_ne (one_ne c40)]
    refine iteT ⟨_, rfl, _, rfl, z, n, x.cps.toList, rest, rfl, hW, by rw [mkS_of]; exact ok, hst, fun p H' s' e' => ?_⟩
    rw [mkS_of] at e'
    exact q p H' (.str x) s' e' rfl
theorem kindAt_none : FnOk P w K mg base CX0 5 f fd ["text", "at"] (spKindAt 0) := by
  have no : ∀ vs H Q E, ¬ spKindAt 0 vs H Q E := fun vs H Q E h => by
    obtain ⟨z, n, k, rest, _, _, _, _, h, _⟩ := h
    omega
  exact ⟨fun vs H Q E h => absurd h (no vs H Q E), fun A outer s H args us vs Q E _ _ _ _ h => absurd h (no vs H Q E)⟩
theorem kindAt_all (F : Fun K "kind_at" "kind_at" sKindAt f fd) (bGka : Binds K fd ["text", "at"] []) (mGka : mg "kind_at" = some (.ref f))
    (Gw : FnOk P w K mg base CX0 2 a1 d1 ["text", "at"] spWordAt) (bGw : Binds K d1 ["text", "at"] []) (kGw : PySem.W.keepIn K (.ref a1) = true) (mGw : mg "word_at" = some (.ref a1))
    (Gna : FnOk P w K mg base CX0 4 a2 d2 ["text", "at"] spNameAt) (bGna : Binds K d2 ["text", "at"] []) (kGna : PySem.W.keepIn K (.ref a2) = true) (mGna : mg "name_at" = some (.ref a2))
    (Gkw : FnOk P w K mg base CX0 5 a3 d3 ["text", "at"] spKWordAt) (bGkw : Binds K d3 ["text", "at"] []) (kGkw : PySem.W.keepIn K (.ref a3) = true) (mGkw : mg "kind_word_at" = some (.ref a3))
    (Gb : FnOk P w K mg base CX0 1 a4 d4 ["text", "at", "sign"] spBehind) (bGb : Binds K d4 ["text", "at", "sign"] []) (kGb : PySem.W.keepIn K (.ref a4) = true) (mGb : mg "behind" = some (.ref a4)) : ∀ m : Nat, FnOk P w K mg base CX0 (5 + m) f fd ["text", "at"] (spKindAt m)
  | 0 => kindAt_none
  | m + 1 => ok_kindAt (k0 := 5 + m) (Nat.le_add_right 5 m) F (kindAt_all F bGka mGka Gw bGw kGw mGw Gna bGna kGna mGna Gkw bGkw kGkw mGkw Gb bGb kGb mGb m) bGka mGka Gw bGw kGw mGw Gna bGna kGna mGna Gkw bGkw kGkw mGkw Gb bGb kGb mGb
theorem scRead : FnScope ["text", "kind", "end"] ["text"] (defScope sRead) := ⟨rfl, rfl, rfl, by decide +kernel, rfl, by decide +kernel, by decide +kernel⟩
theorem ok_read {tk : Tok} (F : Fun K "read_kind" "read_kind" sRead f fd) (Gka : FnOk P w K mg base CX0 30 g gd ["text", "at"] (spKindAt 25)) (bGka : Binds K gd ["text", "at"] []) (kGka : PySem.W.keepIn K (.ref g) = true) (mGka : mg "kind_at" = some (.ref g)) (ml : mg "len" = none) (mMT : mg "MOST_TUPLES" = some (.int 24 tk)) :
    FnOk P w K mg base CX0 31 f fd ["text"] spRead := by
  refine F.ok scRead (fun vs H Q E h => ?_) (fun cdv A outer s H vs Q E hr h => ?_)
  · obtain ⟨k, rfl, _⟩ := h; rfl
  obtain ⟨k, rfl, ok, hnt, q⟩ := h
  have hrka := hr
  refine ⟨_, @pss_cons _ _ _ _ _ (by exact ps_if (pt_cmpR op_gt (pe_bm PySem.F.plainAttrs_str PySem.F.slot_str_count PySem.F.type_str_count mt_count (pv 0) (pa_cons pe_str pa_nil)) (pe_glob (v := .int 24) rfl mMT ⟨_, rfl⟩) (nomark _)) (@pss_one _ _ _ (by exact ps_never)) pss_nil)
    (@pss_cons _ _ _ _ _ (by exact ps_asg (pe_call Gka hrka rfl mGka kGka bGka .nil pass0 (pa_cons (pv 0) (pa_cons pe_int pa_nil))) (pg_tup rfl (pgs_cons (pg_name (i := 1) scRead.nd rfl (Or.inl rfl)) (pgs_cons (pg_name (i := 2) scRead.nd rfl (Or.inl rfl)) pgs_nil))))
    (@pss_cons _ _ _ _ _ (by exact ps_if (pt_cmpR op_ne (pv 2) (pe_callB call_len_str rfl ml PySem.boot_len (pa_cons (pv 0) pa_nil)) (nomark _)) (@pss_one _ _ _ (by exact ps_never)) pss_nil)
    (@pss_one _ _ _ (by exact ps_ret (pv 1))))), ?_⟩
  have wl := wrS_len ok
  have cl := count_le (wrS k) 40
  have hc : (wrS k).cps.toList.count 40 = k.nt := by rw [wrS, mkS_l]; exact wr_count ok
  rw [hc] at cl
  have dn := k.dep_le_nt
  have e40 : (Str.ofString "(") = (⟨#[40]⟩ : Str) := one_40.symm
  rw [← e40] at cl
  refine ⟨_, rfl, rfl, wrS k, _, rfl, rfl, _, _, rfl, rfl, _, rfl, ?_⟩
  rw [decide_eq_false (by omega)]
  have wle : (wrS k).length = (wrL k).length := by rw [wrS, mkS_len]
  refine iteF ⟨_, rfl, wrS k, 0, k, [], rfl, ⟨by omega, Nat.zero_le _, by rw [wrS, mkS_l, List.append_nil]; rfl⟩, ok, trivial, by omega, fun p H' v s' e' i' => ?_⟩
  refine ⟨p, _, rfl, SqT.of e', rfl, _, _, rfl, _, _, rfl, rfl, ?_⟩
  refine ⟨_, rfl, _, rfl, wrS k, rfl, small2 (by omega), rfl, _, rfl, ?_⟩
  rw [show ((0 + (wrL k).length : Nat) : Int) = ((wrS k).length : Int) by rw [wle, Nat.zero_add], decide_eq_true rfl]
  exact iteF ⟨_, rfl, q H' v s' i'⟩
end
end K11
set_option Elab.async false
set_option linter.all false
set_option maxRecDepth 100000
set_option maxHeartbeats 4000000
namespace K11
open PySem L2
theorem iteW {c1 : Bool} {T A B : Prop} (hB : B) (hT : c1 = true → B → T) : if c1 = true then T else (if false = true then A else B) := by
  cases c1 with
  | true => exact hT rfl hB
  | false => exact hB
theorem iteO {c1 : Bool} {T A B : Prop} (hA : A) (hT : ¬ c1 = true → A → T) : if c1 = true then (if true = true then A else B) else T := by
  cases c1 with
  | true => exact hA
  | false => exact hT Bool.false_ne_true hA
theorem az_at {i : Nat} (h : i < 26) : atI (az).cps.toList (i : Int) = some (97 + i) := by
  have e : (az).cps.toList = List.range' 97 26 := by decide +kernel
  rw [e]
  exact atI_nat (by rw [List.getElem?_range' h]; simp)
theorem az_len : (az).length = 26 := by decide +kernel
theorem in_words {z : Str} (h : inV (.str z) (words.map V.str) = true) : z ∈ words := by
  unfold inV at h
  rw [List.any_eq_true] at h
  obtain ⟨y, hy, e⟩ := h
  obtain ⟨w', hw, rfl⟩ := List.mem_map.mp hy
  have : w' = z := by simpa [eqV] using e
  subst this
  exact hw
theorem words_x : ∀ z ∈ words, nameB (z ++ "x") = true ∧ z.length ≤ 8 := by decide +kernel
theorem name_of {z : Str} (h1 : 1 ≤ z.length) (h2 : z.length ≤ 12) (h3 : z.cps.toList.all smallC = true) (h4 : inV (.str z) (words.map V.str) = false) : nameB z = true := by
  unfold nameB fits
  rw [decide_eq_true h1, decide_eq_true h2, h3, h4]
  rfl
def spLName : Sp := fun vs H Q _ => ∃ c : Int, vs = [.int c] ∧ ∀ z H', Same H H' → nameB z = true → Q (.str z) H'
section
variable {P : Program} {w : World} {K : PySem.W.Frag} {mg : Str → Option Value} {base : Heap} {f g e d a1 a2 a3 a4 : Addr} {fd gd ed dd d1 d2 d3 d4 : FuncData}
theorem scLName : FnScope ["_law_cell", "_law_letters", "_law_size", "_law_spot", "_law_made", "_law_k", "_law_turn"] ["_law_cell"] (defScope sLName) := ⟨rfl, rfl, rfl, by decide +kernel, rfl, by decide +kernel, by decide +kernel⟩
theorem ok_lname (F : Fun K "_law_name" "_law_name" sLName f fd) (Gp : FnOk P w K mg base CX0 1 g gd ["_law_cell", "_law_turn", "_law_many"] spPick) (bGp : Binds K gd ["_law_cell", "_law_turn", "_law_many"] []) (kGp : PySem.W.keepIn K (.ref g) = true) (mGp : mg "_law_pick" = some (.ref g)) (mr : mg "range" = none) :
    FnOk P w K mg base CX0 2 f fd ["_law_cell"] spLName := by
  refine F.ok scLName (fun vs H Q E h => ?_) (fun cdv A outer s H vs Q E hr h => ?_)
  · obtain ⟨c, rfl, _⟩ := h; rfl
  obtain ⟨c, rfl, q⟩ := h
  have hrp := hr
  refine ⟨_, @pss_cons _ _ _ _ _ (by exact ps_set (i := 1) scLName.nd rfl (Or.inl rfl) pe_str)
    (@pss_cons _ _ _ _ _ (by exact ps_set (i := 2) scLName.nd rfl (Or.inl rfl) (pe_op op_add pe_int (pe_call Gp hrp rfl mGp kGp bGp .nil pass0 (pa_cons (pv 0) (pa_cons pe_int (pa_cons pe_int pa_nil))))))
    (@pss_cons _ _ _ _ _ (by exact ps_set (i := 3) scLName.nd rfl (Or.inl rfl) (pe_call Gp hrp rfl mGp kGp bGp .nil pass0 (pa_cons (pv 0) (pa_cons pe_int (pa_cons (pv 2) pa_nil)))))
    (@pss_cons _ _ _ _ _ (by exact ps_set (i := 4) scLName.nd rfl (Or.inl rfl) pe_str)
    (@pss_mid _ _ _ _ _ (by exact ps_for PassesOwn.never rfl (pi_range1 rfl mr (pa_cons (pv 2) pa_nil)) (pg_name (i := 5) scLName.nd rfl (Or.inl rfl)) (@pss_cons _ _ _ _ _ (by exact ps_set (i := 6) scLName.nd rfl (Or.inl rfl) pe_int) (@pss_mid _ _ _ _ _ (by exact ps_ifN (PW.pt (pw_or (pt_cmpR op_eq (pv 5) (pv 3) (nomark _)) (pw_or1 (pt_cmpR op_eq (pe_call Gp hrp rfl mGp kGp bGp .nil pass0 (pa_cons (pv 0) (pa_cons pe_int (pa_cons pe_int pa_nil)))) pe_int (nomark _))))) (@pss_one _ _ _ (by exact ps_set (i := 6) scLName.nd rfl (Or.inl rfl) (pe_op op_add pe_int (pv 5)))) pss_nil) (@pss_one _ _ _ (by exact ps_set (i := 4) scLName.nd rfl (Or.inl rfl) (pe_op op_add_str (pv 4) (pe_ix ix_str (pv 1) (pe_call Gp hrp rfl mGp kGp bGp .nil pass0 (pa_cons (pv 0) (pa_cons (pv 6) (pa_cons pe_int pa_nil)))) (fun _ _ => rfl))))))))
    (@pss_cons _ _ _ _ _ (by exact ps_if (pt_cmpR op_in_seq (pv 4) (@pe_lst _ _ _ _ (@pa_strs _ _ words rfl)) rfl) (@pss_one _ _ _ (by exact ps_set (i := 4) scLName.nd rfl (Or.inl rfl) (pe_op op_add_str (pv 4) pe_str))) pss_nil)
    (@pss_one _ _ _ (by exact ps_ret (pv 4)))))))), ?_⟩
  refine ⟨_, rfl, c, 1, 12, rfl, by decide, fun r1 h10 h11 => ⟨_, _, rfl, rfl, ?_⟩⟩
  refine ⟨_, rfl, _, rfl, c, 2, 1 + r1, rfl, by omega, fun r2 h20 h21 => ?_⟩
  refine ⟨fun σ H' => H' = H ∧ ∃ (z : Str) (o5 o6 : Option V), σ = [some (.int c), some (.str az), some (.int (1 + r1)), some (.int r2), some (.str z), o5, o6] ∧ (z.length : Int) = 1 + r1 ∧ z.cps.toList.all smallC = true, ?_, ?_⟩
  · refine ⟨_, rfl, _, rfl, by omega, by omega, ?_⟩
    refine for_range (fun i σ H' => H' = H ∧ ∃ (z : Str) (o5 o6 : Option V), σ = [some (.int c), some (.str az), some (.int (1 + r1)), some (.int r2), some (.str z), o5, o6] ∧ z.length = i ∧ z.cps.toList.all smallC = true) ⟨rfl, ⟨#[]⟩, none, none, rfl, rfl, rfl⟩ ?_ ?_
    · rintro i σ H' hi ⟨rfl, z, o5, o6, rfl, hz, hs⟩
      refine ⟨fun σ2 H2 => H2 = H' ∧ ∃ t : Int, σ2 = [some (.int c), some (.str az), some (.int (1 + r1)), some (.int r2), some (.str z), some (.int (0 + (i : Int))), some (.int t)], ?_, ?_⟩
      · refine ⟨fun H2 => H2 = H', ⟨_, rfl, _, rfl, rfl, _, rfl, ite2 (fun _ => rfl) (fun _ => ⟨_, rfl, c, 4, 2, rfl, by decide, fun r h0 h1 => ⟨rfl, _, rfl, rfl⟩⟩)⟩, ?_⟩
        rintro H2 rfl
        exact ⟨⟨_, rfl, _, _, rfl, rfl, rfl, _, rfl⟩, rfl, 3, rfl⟩
      rintro σ2 H2 ⟨rfl, t, rfl⟩
      refine ⟨_, rfl, _, rfl, _, rfl, _, rfl, c, t, 26, rfl, by decide, fun r h0 h1 => ?_⟩
      have za := az_at (i := r.toNat) (by omega)
      rw [show ((r.toNat : Nat) : Int) = r by omega] at za
      refine ⟨az, r, _, rfl, rfl, small2 (by rw [az_len]; decide), za, z, _, rfl, rfl, small2 (by show z.length + 1 ≤ 1000; omega), rfl, _, _, _, rfl, ?_, ?_⟩
      · rw [Str.length_append, hz]; rfl
      · rw [app_l, List.all_append, hs]
        have : smallC (97 + r.toNat) = true := by unfold smallC; exact decide_eq_true (by omega)
        simp [this]
    · rintro σ H' ⟨rfl, z, o5, o6, rfl, hz, hs⟩
      exact ⟨rfl, z, o5, o6, rfl, by omega, hs⟩
  rintro σ H' ⟨rfl, z, o5, o6, rfl, hz, hs⟩
  refine ⟨_, rfl, small2 (by show 11 ≤ 1000; decide), fun l hl => ⟨l, _, rfl, .inl (SqL.of upd_same), rfl, flat_words, _, rfl, ?_⟩⟩
  show if inV (.str z) (words.map V.str) = true then _ else _
  refine ite2 (fun h => ?_) (fun h => ?_)
  · obtain ⟨n1, n2⟩ := words_x z (in_words h)
    exact ⟨_, rfl, z, _, rfl, rfl, small2 (by show z.length + 1 ≤ 1000; omega), _, rfl, q _ _ (same_new hl _) n1⟩
  · exact ⟨_, rfl, q _ _ (same_new hl _) (name_of (by omega) (by omega) hs (Bool.eq_false_iff.mpr h))⟩
end
end K11
set_option Elab.async false
set_option linter.all false
set_option maxRecDepth 100000
set_option maxHeartbeats 4000000
/-! ### tuples of kinds: sayings -/
namespace L2
open PySem PySem.Spec PyProof.Rows
def IsS (H : Hp) (ks : List Kd) (v : V) : Prop := ∃ (p : Addr) (xs : List V), v = .ref p ∧ H p = some (.tup xs) ∧ KL H xs ks
theorem IsS.mono {H H' : Hp} (t : Tups H H') {ks : List Kd} {v : V} (h : IsS H ks v) : IsS H' ks v := by
  obtain ⟨p, xs, e1, h1, h2⟩ := h
  exact ⟨p, xs, e1, t _ _ h1, h2.mono t⟩
theorem all_eq_list : ∀ (ks ls : List Kd), ((List.range (min ks.length ls.length)).all (fun j => decide (ks[j]? = ls[j]?)) && ks.length == ls.length) = decide (ks = ls) := by
  intro ks ls
  by_cases h : ks = ls
  · subst h
    rw [decide_eq_true rfl]
    simp
  · rw [decide_eq_false h, Bool.and_eq_false_iff]
    by_cases hl : ks.length = ls.length
    · left
      rw [Bool.eq_false_iff]
      intro ha
      rw [List.all_eq_true] at ha
      apply h
      apply List.ext_getElem?
      intro j
      by_cases hj : j < ks.length
      · have := ha j (by rw [List.mem_range]; omega)
        exact of_decide_eq_true this
      · rw [List.getElem?_eq_none (by omega), List.getElem?_eq_none (by omega)]
    · right
      exact beq_eq_false_iff_ne.mpr hl
section
variable {X : Cx}
theorem rcS {A : Around} {pins : List (Addr × Obj)} {σ : St} {H : Hp} {s : Shared} (I : Inv X pins σ H s) {ks ls : List Kd} {x y : V} {u v : Value} (hx : IsS H ks x) (hy : IsS H ls y) (ru : RelV x u) (rv : RelV y v) (hd : ∀ k ∈ ks, k.dep ≤ 60) (hl : A.units + 64 < cLine) :
    SeqAt.RcAt A s u v (decide (ks = ls)) ∧ SeqAt.RcNeAt A s u v (!decide (ks = ls)) := by
  obtain ⟨p, xs, rfl, hp, h1⟩ := hx
  obtain ⟨q, ys, rfl, hq, h2⟩ := hy
  cases ru
  cases rv
  obtain ⟨_, its, r1, t1⟩ := (show ObjOk X.prog X.w H s.heap p (.tup xs) from I.hok p _ hp)
  obtain ⟨_, jts, r2, t2⟩ := (show ObjOk X.prog X.w H s.heap q (.tup ys) from I.hok q _ hq)
  have l1 : its.toArray.size = ks.length := by rw [List.size_toArray, ← r1.length, h1.len]
  have l2 : jts.toArray.size = ls.length := by rw [List.size_toArray, ← r2.length, h2.len]
  have he : ∀ j (g1 : j < its.toArray.size) (g2 : j < jts.toArray.size), SeqAt.EqAt A.in1 s its.toArray[j] jts.toArray[j] ((fun j => decide (ks[j]? = ls[j]?)) j) := fun j g1 g2 => by
    have j1 : j < xs.length := by rw [h1.len, ← l1]; exact g1
    have j2 : j < ys.length := by rw [h2.len, ← l2]; exact g2
    obtain ⟨k1, e1, i1⟩ := h1.get (List.getElem?_eq_getElem j1)
    obtain ⟨k2, e2, i2⟩ := h2.get (List.getElem?_eq_getElem j2)
    obtain ⟨u1, a1, b1⟩ := r1.get (List.getElem?_eq_getElem j1)
    obtain ⟨u2, a2, b2⟩ := r2.get (List.getElem?_eq_getElem j2)
    have c1 : its.toArray[j] = u1 := by
      have := (List.getElem?_eq_some_iff.mp a1).2
      simpa using this
    have c2 : jts.toArray[j] = u2 := by
      have := (List.getElem?_eq_some_iff.mp a2).2
      simpa using this
    rw [c1, c2]
    show SeqAt.EqAt A.in1 s u1 u2 (decide (ks[j]? = ls[j]?))
    rw [e1, e2]
    have hk := hd k1 (List.mem_of_getElem? e1)
    have q := eqK I i1 i2 b1 b2 (A := A.in1) (by rw [in1_units]; omega)
    have e : decide (some k1 = some k2) = decide (k1 = k2) := by
      by_cases c : k1 = k2
      · subst c; simp
      · simp [c]
    rw [e]
    exact q
  have q1 := SeqAt.RcAt.tuples (A := A) t1 t2 (by omega) he
  have q2 := SeqAt.RcNeAt.tuples (A := A) t1 t2 (by omega) he
  rw [l1, l2, all_eq_list] at q1 q2
  exact ⟨q1, q2⟩
def rNeS : R2 := fun x y H Q => ∃ ks ls : List Kd, IsS H ks x ∧ IsS H ls y ∧ (∀ k ∈ ks, k.dep ≤ 60) ∧ Q (.bl (!decide (ks = ls))) H
theorem op_neS (hu : X.A.units + 64 < cLine) : OpR X (compareOp .NotEq) rNeS := by
  intro pins s σ H x y v u Q I rx ry h
  obtain ⟨ks, ls, h1, h2, hd, q⟩ := h
  exact (rcS I h1 h2 rx ry hd (by omega)).2 _ _ _ _ ⟨.bl _, H, I, rfl, q⟩
end
end L2
namespace K11
open PySem L2
theorem small9 {n : Nat} (h : n ≤ 9000) : n ≤ sizeLine := Nat.le_trans h (by decide)
inductive Say where
  | every (c d : Kd)
  | no (c d : Kd)
  | thing (a : Str) (c : Kd)
  | tied (a r b : Str)
  | within (r s : Str)
  | makes (r s t : Str)
def Say.ks : Say → List Kd
  | .every c d => [.nm "every", c, d]
  | .no c d => [.nm "no", c, d]
  | .thing a c => [.nm "thing", .nm a, c]
  | .tied a r b => [.nm "tied", .nm a, .nm r, .nm b]
  | .within r s => [.nm "within", .nm r, .nm s]
  | .makes r s t => [.nm "makes", .nm r, .nm s, .nm t]
def Say.ok : Say → Prop
  | .every c d => okK c ∧ okK d ∧ c.nt ≤ 24 ∧ d.nt ≤ 24
  | .no c d => okK c ∧ okK d ∧ c.nt ≤ 24 ∧ d.nt ≤ 24
  | .thing a c => thingB a = true ∧ okK c ∧ c.nt ≤ 24
  | .tied a r b => thingB a = true ∧ nameB r = true ∧ thingB b = true
  | .within r s => nameB r = true ∧ nameB s = true
  | .makes r s t => nameB r = true ∧ nameB s = true ∧ nameB t = true
def Say.wr : Say → Str
  | .every c d => "every " ++ wrS c ++ " is " ++ wrS d
  | .no c d => "no " ++ wrS c ++ " is " ++ wrS d
  | .thing a c => a ++ " is " ++ wrS c
  | .tied a r b => a ++ " " ++ r ++ " " ++ b
  | .within r s => "tie " ++ r ++ " within " ++ s
  | .makes r s t => "tie " ++ r ++ " then " ++ s ++ " makes " ++ t
theorem lit_every : (Str.ofString "every").cps.toList = [101, 118, 101, 114, 121] := by decide +kernel
theorem lit_everyb : (Str.ofString "every ").cps.toList = [101, 118, 101, 114, 121, 32] := by decide +kernel
theorem lit_no : (Str.ofString "no").cps.toList = [110, 111] := by decide +kernel
theorem lit_nob : (Str.ofString "no ").cps.toList = [110, 111, 32] := by decide +kernel
theorem lit_is : (Str.ofString " is ").cps.toList = [32, 105, 115, 32] := by decide +kernel
theorem lit_tieb : (Str.ofString "tie ").cps.toList = [116, 105, 101, 32] := by decide +kernel
theorem thing_len {x : Str} (h : thingB x = true) : 1 ≤ x.length ∧ x.length ≤ 12 ∧ ∃ c r, x.cps.toList = c :: r ∧ bigC c = true ∧ r.all smallC = true := by
  unfold thingB fits at h
  simp only [Bool.and_eq_true, decide_eq_true_eq] at h
  refine ⟨h.1.1, h.1.2, ?_⟩
  cases hx : x.cps.toList with
  | nil => rw [hx] at h; exact absurd h.2 Bool.false_ne_true
  | cons c r =>
    rw [hx] at h
    simp only [Bool.and_eq_true] at h
    exact ⟨c, r, rfl, h.2⟩
theorem thing_no32 {x : Str} (h : thingB x = true) : 32 ∉ x.cps.toList := by
  obtain ⟨_, _, c, r, e, h1, h2⟩ := thing_len h
  rw [e]
  intro hm
  rcases List.mem_cons.mp hm with z | z
  · subst z; exact absurd h1 (by decide)
  · exact absurd (List.all_eq_true.mp h2 32 z) (by decide)
theorem small_no32 {l : List Nat} (h : l.all smallC = true) : 32 ∉ l := fun hm => absurd (List.all_eq_true.mp h 32 hm) (by decide)
theorem name_no32 {x : Str} (h : nameB x = true) : 32 ∉ x.cps.toList := small_no32 (name_len h).2.2.1
/-! ### where texts are parted -/
theorem part_at' {z y : Str} {h r : List Nat} (hy : 0 < y.length) (hz : z.cps.toList = h ++ (y.cps.toList ++ r)) (hn : ∀ k, k < h.length → ¬ ∃ t, z.cps.toList.drop k = y.cps.toList ++ t) : Txt.partition z y = (mkS h, y, mkS r) := by
  have hl : z.length = h.length + (y.length + r.length) := by rw [len_l z, hz, List.length_append, List.length_append, ← len_l y]
  rw [part_at (i := h.length) ((at_iff z y _ hy).mpr ⟨r, by rw [hz, List.drop_left]⟩) fun k hk a => hn k hk ((at_iff z y k hy).mp a)]
  have e1 : Builtin.Str.strSub z 0 h.length = mkS h := strX (by rw [StrLaws.strSub_toList, mkS_l, hz]; simp)
  have e2 : Builtin.Str.strSub z (h.length + y.length) z.length = mkS r := strX (by
    have e : h.length + y.length = (h ++ y.cps.toList).length := by rw [List.length_append, ← len_l]
    rw [StrLaws.strSub_toList, mkS_l, hz, hl, ← List.append_assoc, e, List.drop_left]
    rw [List.take_of_length_le (by simp only [List.length_append, ← len_l]; omega)])
  rw [e1, e2]
theorem part_blank {z : Str} {h r : List Nat} (hz : z.cps.toList = h ++ 32 :: r) (hh : 32 ∉ h) : Txt.partition z (Str.ofString " ") = (mkS h, Str.ofString " ", mkS r) := by
  refine part_at' (by decide +kernel) (by rw [hz, lit_bl]; rfl) fun k hk ⟨t, e⟩ => ?_
  rw [hz, lit_bl, List.drop_append_of_le_length (by omega), List.drop_eq_getElem_cons hk] at e
  simp only [List.cons_append, List.nil_append, List.cons.injEq] at e
  exact hh (by rw [← e.1]; exact List.getElem_mem hk)
/-- no sign of l begins the word is between blanks -/
def NoIs (l rest : List Nat) : Prop := ∀ k, k < l.length → ¬ ∃ t, (l ++ rest).drop k = [32, 105, 115, 32] ++ t
theorem NoIs.nil {rest : List Nat} : NoIs [] rest := fun k hk => absurd hk (Nat.not_lt_zero _)
theorem NoIs.cons {c : Nat} {l rest : List Nat} (h0 : c = 32 → ¬ ∃ t, l ++ rest = [105, 115, 32] ++ t) (h : NoIs l rest) : NoIs (c :: l) rest := fun k hk => by
  cases k with
  | zero =>
    rintro ⟨t, e⟩
    simp only [List.drop_zero, List.cons_append, List.nil_append, List.cons.injEq] at e
    exact h0 e.1 ⟨t, by rw [e.2]; rfl⟩
  | succ k =>
    rintro ⟨t, e⟩
    exact h k (by simpa using hk) ⟨t, by simpa using e⟩
theorem NoIs.app : ∀ {l m rest : List Nat}, NoIs l (m ++ rest) → NoIs m rest → NoIs (l ++ m) rest
  | [], _, _, _, h => h
  | c :: l, m, rest, h1, h2 => by
    have t : NoIs l (m ++ rest) := fun k hk ⟨t, e⟩ => h1 (k + 1) (by simpa using hk) ⟨t, by simpa using e⟩
    refine NoIs.cons (fun hc ⟨t, e⟩ => h1 0 (by simp) ⟨t, ?_⟩) (NoIs.app t h2)
    subst hc
    have e' : l ++ (m ++ rest) = [105, 115, 32] ++ t := by rw [← List.append_assoc]; exact e
    rw [List.drop_zero, List.cons_append, e']
    rfl
theorem NoIs.small : ∀ {l rest : List Nat}, 32 ∉ l → NoIs l rest
  | [], _, _ => NoIs.nil
  | c :: l, rest, h => NoIs.cons (fun hc => absurd (by rw [hc]; exact List.mem_cons_self) h) (NoIs.small fun z => h (List.mem_cons_of_mem _ z))
theorem word_is {x : Str} (h : wholeB x = true ∨ nameB x = true) : x.cps.toList ≠ [105, 115] := by
  intro e
  have : x = "is" := strX (by rw [e]; decide +kernel)
  subst this
  exact absurd h (by decide +kernel)
theorem no_is0 {k : Kd} {rest : List Nat} (ok : okK k) (hs : stops rest) : ¬ ∃ t, wrL k ++ rest = [105, 115, 32] ++ t := by
  rintro ⟨t, e⟩
  cases k with
  | nm x =>
    have w := word_len ok
    rw [len_l] at w
    have ne := word_is ok
    simp only [wrL] at e
    generalize x.cps.toList = l at w ne e
    match l, w, ne, e with
    | [], w, _, _ => simp at w
    | [c], w, _, e =>
      simp only [List.cons_append, List.nil_append, List.cons.injEq] at e
      rw [e.2] at hs
      exact absurd (show smallC 115 = false from hs) (by decide)
    | [c, d], w, ne, e =>
      simp only [List.cons_append, List.nil_append, List.cons.injEq] at e
      exact ne (by rw [e.1, e.2.1])
    | c :: d :: f :: l, w, _, e =>
      simp only [List.cons_append, List.nil_append, List.cons.injEq] at e
      have := w.2.2
      rw [e.2.2.1] at this
      simp only [List.all_cons, Bool.and_eq_true] at this
      exact absurd this.2.2.1 (by decide)
  | two a b => simp [wrL] at e
  | som r c => simp [wrL] at e
theorem no_is_parts {h a b rest : List Nat} (hh : 32 ∉ h) (ha0 : ¬ ∃ t, a ++ (32 :: (b ++ [41]) ++ rest) = [105, 115, 32] ++ t) (ha : NoIs a (32 :: (b ++ [41]) ++ rest)) (hb0 : ¬ ∃ t, b ++ ([41] ++ rest) = [105, 115, 32] ++ t) (hb : NoIs b ([41] ++ rest)) :
    NoIs (40 :: (h ++ 32 :: (a ++ 32 :: (b ++ [41])))) rest := by
  refine NoIs.cons (fun z => absurd z (by decide)) (NoIs.app (NoIs.small hh) (NoIs.cons (fun _ => ?_) (NoIs.app ha (NoIs.cons (fun _ => ?_) (NoIs.app hb (NoIs.small (by simp)))))))
  · rw [List.append_assoc]; exact ha0
  · rw [List.append_assoc]; exact hb0
theorem no_is : ∀ {k : Kd} {rest : List Nat}, okK k → stops rest → NoIs (wrL k) rest
  | .nm x, rest, ok, _ => NoIs.small (small_no32 (word_len ok).2.2)
  | .two a b, rest, ok, hs => by
    rw [wr_parts (k := .two a b) rfl]
    refine no_is_parts (by show 32 ∉ (Str.ofString "both").cps.toList; rw [lit_both]; simp) (no_is0 ok.1 ?_) (no_is ok.1 ?_) (no_is0 ok.2 ?_) (no_is ok.2 ?_)
    all_goals first | exact (by decide : smallC 32 = false) | exact (by decide : smallC 41 = false)
  | .som r c, rest, ok, hs => by
    rw [wr_parts (k := .som r c) rfl]
    refine no_is_parts (by show 32 ∉ (Str.ofString "some").cps.toList; rw [lit_some]; simp) (no_is0 (k := .nm r) (.inr ok.1) ?_) (NoIs.small (name_no32 ok.1)) (no_is0 ok.2 ?_) (no_is ok.2 ?_)
    all_goals first | exact (by decide : smallC 32 = false) | exact (by decide : smallC 41 = false)
theorem part_is {z : Str} {c : Kd} {r : List Nat} (ok : okK c) (hz : z.cps.toList = wrL c ++ ([32, 105, 115, 32] ++ r)) : Txt.partition z (Str.ofString " is ") = (wrS c, Str.ofString " is ", mkS r) := by
  refine part_at' (by decide +kernel) (by rw [hz, lit_is]) fun k hk => ?_
  rw [hz, lit_is]
  exact no_is ok (by show smallC 32 = false; decide) k hk
end K11
set_option Elab.async false
set_option linter.all false
set_option maxRecDepth 100000
set_option maxHeartbeats 4000000
namespace K11
open PySem L2
def Say.form : Say → Str
  | .every _ _ => "every"
  | .no _ _ => "no"
  | .thing _ _ => "thing"
  | .tied _ _ _ => "tied"
  | .within _ _ => "within"
  | .makes _ _ _ => "makes"
def Say.rank : Say → Nat
  | .every _ _ => 0
  | .no _ _ => 0
  | .thing _ _ => 1
  | .tied _ _ _ => 2
  | .within _ _ => 3
  | .makes _ _ _ => 4
def spShowS : Sp := fun vs H Q _ => ∃ (v : V) (S : Say), vs = [v] ∧ IsS H S.ks v ∧ S.ok ∧ ∀ H', Same H H' → Q (.str S.wr) H'
def spReadTie : Sp := fun vs H Q _ => ∃ z : Str, vs = [.str z] ∧ nameB z = true ∧ ∀ H', Same H H' → Q (.str z) H'
def spRKinds : Sp := fun vs H Q _ => ∃ (f : Str) (c d : Kd), vs = [.str f, .str (wrS c ++ " is " ++ wrS d)] ∧ okK c ∧ okK d ∧ c.nt ≤ 24 ∧ d.nt ≤ 24 ∧ ∀ H' v, Same H H' → IsS H' [.nm f, c, d] v → Q v H'
def spRThing : Sp := fun vs H Q _ => ∃ (a z : Str), vs = [.str a, .str z] ∧ ((∃ c : Kd, z = "is " ++ wrS c ∧ okK c ∧ c.nt ≤ 24 ∧ ∀ H' v, Same H H' → IsS H' [.nm "thing", .nm a, c] v → Q v H') ∨
  ∃ r b : Str, z = r ++ " " ++ b ∧ nameB r = true ∧ thingB b = true ∧ ∀ H' v, Same H H' → IsS H' [.nm "tied", .nm a, .nm r, .nm b] v → Q v H')
def spRTies : Sp := fun vs H Q _ => ∃ z : Str, vs = [.str z] ∧ ((∃ r s : Str, z = r ++ " within " ++ s ∧ nameB r = true ∧ nameB s = true ∧ ∀ H' v, Same H H' → IsS H' [.nm "within", .nm r, .nm s] v → Q v H') ∨
  ∃ r s t : Str, z = r ++ " then " ++ s ++ " makes " ++ t ∧ nameB r = true ∧ nameB s = true ∧ nameB t = true ∧ ∀ H' v, Same H H' → IsS H' [.nm "makes", .nm r, .nm s, .nm t] v → Q v H')
def spReadS : Sp := fun vs H Q _ => ∃ S : Say, vs = [.str S.wr] ∧ S.ok ∧ ∀ H' v, Same H H' → IsS H' S.ks v → Q v H'
theorem pre {a b : Str} {n : Nat} (h : (a ++ b).length ≤ n) : a.length ≤ n := by rw [Str.length_append] at h; omega
theorem suf {a b : Str} {n : Nat} (h : (a ++ b).length ≤ n) : b.length ≤ n := by rw [Str.length_append] at h; omega
theorem flat_en : ([V.str "every", V.str "no"] : List V).all flatV = true := by decide +kernel
theorem le_is : (Str.ofString " is ").length = 4 := by decide +kernel
theorem le_b : (Str.ofString " ").length = 1 := by decide +kernel
theorem le_e : Str.empty.length = 0 := by decide +kernel
theorem e_app (a : Str) : Str.empty ++ a = a := strX (by rw [app_l, lit_e]; rfl)
theorem every_eq (c d : Kd) : Str.empty ++ "every" ++ " " ++ wrS c ++ " is " ++ wrS d = (Say.every c d).wr := by
  apply strX
  simp only [Say.wr, app_l, lit_e, lit_every, lit_everyb, lit_bl, List.nil_append, List.append_assoc]
  rfl
theorem no_eq (c d : Kd) : Str.empty ++ "no" ++ " " ++ wrS c ++ " is " ++ wrS d = (Say.no c d).wr := by
  apply strX
  simp only [Say.wr, app_l, lit_e, lit_no, lit_nob, lit_bl, List.nil_append, List.append_assoc]
  rfl
section
variable {P : Program} {w : World} {K : PySem.W.Frag} {mg : Str → Option Value} {base : Heap} {f g e d a1 a2 a3 a4 : Addr} {fd gd ed dd d1 d2 d3 d4 : FuncData}
theorem kl3 {H : Hp} {xs : List V} {a b c : Kd} (h : KL H xs [a, b, c]) : ∃ x y z, xs = [x, y, z] ∧ IsK H a x ∧ IsK H b y ∧ IsK H c z := by
  cases h with
  | cons r h =>
    cases h with
    | cons r2 h =>
      cases h with
      | cons r3 h => cases h; exact ⟨_, _, _, rfl, r, r2, r3⟩
theorem kl4 {H : Hp} {xs : List V} {a b c d : Kd} (h : KL H xs [a, b, c, d]) : ∃ x y z w', xs = [x, y, z, w'] ∧ IsK H a x ∧ IsK H b y ∧ IsK H c z ∧ IsK H d w' := by
  cases h with
  | cons r h =>
    obtain ⟨x, y, z, rfl, h1, h2, h3⟩ := kl3 h
    exact ⟨_, _, _, _, rfl, r, h1, h2, h3⟩
theorem head_form {H : Hp} {S : Say} {xs : List V} (kl : KL H xs S.ks) : xs[0]? = some (.str S.form) := by
  cases S with
  | every c d => obtain ⟨x, y, z, rfl, h1, h2, h3⟩ := kl3 kl; rw [show x = .str "every" from h1]; rfl
  | no c d => obtain ⟨x, y, z, rfl, h1, h2, h3⟩ := kl3 kl; rw [show x = .str "no" from h1]; rfl
  | thing a c => obtain ⟨x, y, z, rfl, h1, h2, h3⟩ := kl3 kl; rw [show x = .str "thing" from h1]; rfl
  | tied a r b => obtain ⟨x, y, z, w', rfl, h1, h2, h3, h4⟩ := kl4 kl; rw [show x = .str "tied" from h1]; rfl
  | within r s => obtain ⟨x, y, z, rfl, h1, h2, h3⟩ := kl3 kl; rw [show x = .str "within" from h1]; rfl
  | makes r s t => obtain ⟨x, y, z, w', rfl, h1, h2, h3, h4⟩ := kl4 kl; rw [show x = .str "makes" from h1]; rfl
theorem scShowS : FnScope ["saying", "form"] ["saying"] (defScope sShowS) := ⟨rfl, rfl, rfl, by decide +kernel, rfl, by decide +kernel, by decide +kernel⟩
theorem ok_showS (F : Fun K "show" "show" sShowS f fd) (Gsh : FnOk P w K mg base CX0 25 a1 d1 ["kind"] (spShow 25)) (bGsh : Binds K d1 ["kind"] []) (kGsh : PySem.W.keepIn K (.ref a1) = true) (mGsh : mg "show_kind" = some (.ref a1)) :
    FnOk P w K mg base CX0 26 f fd ["saying"] spShowS := by
  refine F.ok scShowS (fun vs H Q E h => ?_) (fun cdv A outer s H vs Q E hr h => ?_)
  · obtain ⟨v, S, rfl, _⟩ := h; rfl
  obtain ⟨v, S, rfl, hS, ok, q⟩ := h
  have hrsh := hr
  refine ⟨_, @pss_mid _ _ _ _ _ (by exact ps_set (i := 1) scShowS.nd rfl (Or.inl rfl) (pe_ix ix_tup (pv 0) pe_int (fun _ _ => rfl)))
    (@pss_mid _ _ _ _ _ (by exact ps_if (pt_cmpR op_in_seq (pv 1) (pe_tup (pa_cons pe_str (pa_cons pe_str pa_nil))) rfl) (@pss_one _ _ _ (by exact ps_ret (pe_fstr (pf_val (pv 1) (pf_str pe_str (pf_val (pe_call Gsh hrsh rfl mGsh kGsh bGsh .nil pass0 (pa_cons (pe_ix ix_tup (pv 0) pe_int (fun _ _ => rfl)) pa_nil)) (pf_str pe_str (pf_val (pe_call Gsh hrsh rfl mGsh kGsh bGsh .nil pass0 (pa_cons (pe_ix ix_tup (pv 0) pe_int (fun _ _ => rfl)) pa_nil)) pf_nil)))))))) pss_nil)
    (@pss_mid _ _ _ _ _ (by exact ps_if (pt_cmpR op_eq (pv 1) pe_str (nomark _)) (@pss_one _ _ _ (by exact ps_ret (pe_fstr (pf_val (pe_ix ix_tup (pv 0) pe_int (fun _ _ => rfl)) (pf_str pe_str (pf_val (pe_call Gsh hrsh rfl mGsh kGsh bGsh .nil pass0 (pa_cons (pe_ix ix_tup (pv 0) pe_int (fun _ _ => rfl)) pa_nil)) pf_nil)))))) pss_nil)
    (@pss_mid _ _ _ _ _ (by exact ps_if (pt_cmpR op_eq (pv 1) pe_str (nomark _)) (@pss_one _ _ _ (by exact ps_ret (pe_fstr (pf_val (pe_ix ix_tup (pv 0) pe_int (fun _ _ => rfl)) (pf_str pe_str (pf_val (pe_ix ix_tup (pv 0) pe_int (fun _ _ => rfl)) (pf_str pe_str (pf_val (pe_ix ix_tup (pv 0) pe_int (fun _ _ => rfl)) pf_nil)))))))) pss_nil)
    (@pss_mid _ _ _ _ _ (by exact ps_if (pt_cmpR op_eq (pv 1) pe_str (nomark _)) (@pss_one _ _ _ (by exact ps_ret (pe_fstr (pf_str pe_str (pf_val (pe_ix ix_tup (pv 0) pe_int (fun _ _ => rfl)) (pf_str pe_str (pf_val (pe_ix ix_tup (pv 0) pe_int (fun _ _ => rfl)) pf_nil))))))) pss_nil)
    (@pss_one _ _ _ (by exact ps_ret (pe_fstr (pf_str pe_str (pf_val (pe_ix ix_tup (pv 0) pe_int (fun _ _ => rfl)) (pf_str pe_str (pf_val (pe_ix ix_tup (pv 0) pe_int (fun _ _ => rfl)) (pf_str pe_str (pf_val (pe_ix ix_tup (pv 0) pe_int (fun _ _ => rfl)) pf_nil))))))))))))), ?_⟩
  obtain ⟨p, xs, rfl, hp, kl⟩ := hS
  have b1 := le_is
  have b2 := le_b
  have b3 := le_e
  have w1 : (Str.ofString "every").length = 5 := by decide +kernel
  have w2 : (Str.ofString "no").length = 2 := by decide +kernel
  have w3 : (Str.ofString "tie ").length = 4 := by decide +kernel
  have w4 : (Str.ofString " within ").length = 8 := by decide +kernel
  have w5 : (Str.ofString " then ").length = 6 := by decide +kernel
  have w6 : (Str.ofString " makes ").length = 7 := by decide +kernel
  refine ⟨fun σ H' => σ = [some (.ref p), some (.str S.form)] ∧ H' = H, ⟨_, rfl, p, _, 0, _, rfl, rfl, SqT.of hp, atI_nat (j := 0) (head_form kl), rfl, rfl⟩, ?_⟩
  rintro σ H' ⟨rfl, rfl⟩
  refine ⟨fun σ H2 => σ = [some (.ref p), some (.str S.form)] ∧ Same H' H2 ∧ 1 ≤ S.rank, ?_, ?_⟩
  · refine ⟨_, rfl, small2 (by show 2 ≤ 1000; decide), fun t ht => ⟨t, _, rfl, .inr (SqT.of upd_same), rfl, flat_en, _, rfl, ?_⟩⟩
    have tt := tups_new (o := .tup [.str "every", .str "no"]) ht
    have hp' := tt _ _ hp
    cases S with
    | every c d =>
      obtain ⟨x0, x, y, rfl, i0, i1, i2⟩ := kl3 kl
      obtain rfl : x0 = .str "every" := i0
      obtain ⟨o1, o2, n1, n2⟩ := ok
      have l1 := wrS_len o1
      have l2 := wrS_len o2
      have m1 := c.dep_le_nt
      have m2 := d.dep_le_nt
      have z5 : (Str.empty ++ "every" ++ " " ++ wrS c ++ " is " ++ wrS d).length ≤ 9000 := by simp only [Str.length_append]; omega
      have z4 := pre z5
      have z3 := pre z4
      have z2 := pre z3
      have z1 := pre z2
      have u1 := suf z1
      have u2 := suf z2
      have u3 := suf z3
      have u4 := suf z4
      have u5 := suf z5
      show if inV (V.str "every") [V.str "every", V.str "no"] = true then _ else _
      rw [show inV (V.str "every") [V.str "every", V.str "no"] = true by decide +kernel]
      refine iteT ⟨_, rfl, _, rfl, small9 u1, small9 z1, _, rfl, small9 u2, small9 z2, _, rfl, p, _, 1, x, rfl, rfl, SqT.of hp', atI_nat (j := 1) rfl, x, c, rfl, IsK.mono tt i1, o1, n1, by omega, _, rfl, small9 u3, small9 z3, _, rfl, small9 u4, small9 z4, _, rfl, p, _, 2, y, rfl, rfl, SqT.of hp', atI_nat (j := 2) rfl, y, d, rfl, IsK.mono tt i2, o2, n2, by omega, _, rfl, small9 u5, small9 z5, small9 z5, ?_⟩
      have qq := q _ (same_new ht (.tup [.str "every", .str "no"]))
      rw [← every_eq] at qq
      exact qq
    | no c d =>
      obtain ⟨x0, x, y, rfl, i0, i1, i2⟩ := kl3 kl
      obtain rfl : x0 = .str "no" := i0
      obtain ⟨o1, o2, n1, n2⟩ := ok
      have l1 := wrS_len o1
      have l2 := wrS_len o2
      have m1 := c.dep_le_nt
      have m2 := d.dep_le_nt
      have z5 : (Str.empty ++ "no" ++ " " ++ wrS c ++ " is " ++ wrS d).length ≤ 9000 := by simp only [Str.length_append]; omega
      have z4 := pre z5
      have z3 := pre z4
      have z2 := pre z3
      have z1 := pre z2
      have u1 := suf z1
      have u2 := suf z2
      have u3 := suf z3
      have u4 := suf z4
      have u5 := suf z5
      show if inV (V.str "no") [V.str "every", V.str "no"] = true then _ else _
      rw [show inV (V.str "no") [V.str "every", V.str "no"] = true by decide +kernel]
      refine iteT ⟨_, rfl, _, rfl, small9 u1, small9 z1, _, rfl, small9 u2, small9 z2, _, rfl, p, _, 1, x, rfl, rfl, SqT.of hp', atI_nat (j := 1) rfl, x, c, rfl, IsK.mono tt i1, o1, n1, by omega, _, rfl, small9 u3, small9 z3, _, rfl, small9 u4, small9 z4, _, rfl, p, _, 2, y, rfl, rfl, SqT.of hp', atI_nat (j := 2) rfl, y, d, rfl, IsK.mono tt i2, o2, n2, by omega, _, rfl, small9 u5, small9 z5, small9 z5, ?_⟩
      have qq := q _ (same_new ht (.tup [.str "every", .str "no"]))
      rw [← no_eq] at qq
      exact qq
    | thing a c =>
      show if inV (V.str "thing") [V.str "every", V.str "no"] = true then _ else _
      rw [show inV (V.str "thing") [V.str "every", V.str "no"] = false by decide +kernel]
      exact iteF ⟨rfl, same_new ht _, by simp [Say.rank]⟩
    | tied a r b =>
      show if inV (V.str "tied") [V.str "every", V.str "no"] = true then _ else _
      rw [show inV (V.str "tied") [V.str "every", V.str "no"] = false by decide +kernel]
      exact iteF ⟨rfl, same_new ht _, by simp [Say.rank]⟩
    | within r s =>
      show if inV (V.str "within") [V.str "every", V.str "no"] = true then _ else _
      rw [show inV (V.str "within") [V.str "every", V.str "no"] = false by decide +kernel]
      exact iteF ⟨rfl, same_new ht _, by simp [Say.rank]⟩
    | makes r s t' =>
      show if inV (V.str "makes") [V.str "every", V.str "no"] = true then _ else _
      rw [show inV (V.str "makes") [V.str "every", V.str "no"] = false by decide +kernel]
      exact iteF ⟨rfl, same_new ht _, by simp [Say.rank]⟩
  rintro σ H2 ⟨rfl, s2, hs⟩
  have hp2 := s2 _ _ hp
  refine ⟨fun σ H3 => σ = [some (.ref p), some (.str S.form)] ∧ H3 = H2 ∧ 2 ≤ S.rank, ?_, ?_⟩
  · refine ⟨_, rfl, rfl, _, rfl, ?_⟩
    cases S with
    | every c d => exact absurd hs (by simp [Say.rank])
    | no c d => exact absurd hs (by simp [Say.rank])
    | thing a c =>
      obtain ⟨x0, x1, y, rfl, i0, i1, i2⟩ := kl3 kl
      obtain rfl : x0 = .str "thing" := i0
      obtain rfl : x1 = .str a := i1
      obtain ⟨o1, o2, n2⟩ := ok
      have l1 := thing_len o1
      have l2 := wrS_len o2
      have m2 := c.dep_le_nt
      have z3 : (Str.empty ++ a ++ " is " ++ wrS c).length ≤ 9000 := by simp only [Str.length_append]; omega
      have z2 := pre z3
      have z1 := pre z2
      have u1 := suf z1
      have u2 := suf z2
      have u3 := suf z3
      show if decide (V.str "thing" = V.str "thing") = true then _ else _
      rw [decide_eq_true rfl]
      refine iteT ⟨_, rfl, p, _, 1, _, rfl, rfl, SqT.of hp2, atI_nat (j := 1) rfl, a, rfl, small9 u1, small9 z1, _, rfl, small9 u2, small9 z2, _, rfl, p, _, 2, y, rfl, rfl, SqT.of hp2, atI_nat (j := 2) rfl, y, c, rfl, IsK.mono s2.tups i2, o2, n2, by omega, _, rfl, small9 u3, small9 z3, small9 z3, ?_⟩
      rw [e_app]
      exact q _ s2
    | tied a r b =>
      show if decide (V.str "tied" = V.str "thing") = true then _ else _
      rw [show decide (V.str "tied" = V.str "thing") = false by decide +kernel]
      exact iteF ⟨rfl, rfl, by simp [Say.rank]⟩
    | within r s =>
      show if decide (V.str "within" = V.str "thing") = true then _ else _
      rw [show decide (V.str "within" = V.str "thing") = false by decide +kernel]
      exact iteF ⟨rfl, rfl, by simp [Say.rank]⟩
    | makes r s t' =>
      show if decide (V.str "makes" = V.str "thing") = true then _ else _
      rw [show decide (V.str "makes" = V.str "thing") = false by decide +kernel]
      exact iteF ⟨rfl, rfl, by simp [Say.rank]⟩
  rintro σ H3 ⟨rfl, rfl, hs⟩
  refine ⟨fun σ H4 => σ = [some (.ref p), some (.str S.form)] ∧ H4 = H3 ∧ 3 ≤ S.rank, ?_, ?_⟩
  · refine ⟨_, rfl, rfl, _, rfl, ?_⟩
    cases S with
    | every c d => exact absurd hs (by simp [Say.rank])
    | no c d => exact absurd hs (by simp [Say.rank])
    | thing a c => exact absurd hs (by simp [Say.rank])
    | tied a r b =>
      obtain ⟨x0, x1, x2, x3, rfl, i0, i1, i2, i3⟩ := kl4 kl
      obtain rfl : x0 = .str "tied" := i0
      obtain rfl : x1 = .str a := i1
      obtain rfl : x2 = .str r := i2
      obtain rfl : x3 = .str b := i3
      obtain ⟨o1, o2, o3⟩ := ok
      have l1 := thing_len o1
      have l2 := name_len o2
      have l3 := thing_len o3
      have z5 : (Str.empty ++ a ++ " " ++ r ++ " " ++ b).length ≤ 9000 := by simp only [Str.length_append]; omega
      have z4 := pre z5
      have z3 := pre z4
      have z2 := pre z3
      have z1 := pre z2
      have u1 := suf z1
      have u2 := suf z2
      have u3 := suf z3
      have u4 := suf z4
      have u5 := suf z5
      show if decide (V.str "tied" = V.str "tied") = true then _ else _
      rw [decide_eq_true rfl]
      refine iteT ⟨_, rfl, p, _, 1, _, rfl, rfl, SqT.of hp2, atI_nat (j := 1) rfl, a, rfl, small9 u1, small9 z1, _, rfl, small9 u2, small9 z2, _, rfl, p, _, 2, _, rfl, rfl, SqT.of hp2, atI_nat (j := 2) rfl, r, rfl, small9 u3, small9 z3, _, rfl, small9 u4, small9 z4, _, rfl, p, _, 3, _, rfl, rfl, SqT.of hp2, atI_nat (j := 3) rfl, b, rfl, small9 u5, small9 z5, small9 z5, ?_⟩
      rw [e_app]
      exact q _ s2
    | within r s =>
      show if decide (V.str "within" = V.str "tied") = true then _ else _
      rw [show decide (V.str "within" = V.str "tied") = false by decide +kernel]
      exact iteF ⟨rfl, rfl, by simp [Say.rank]⟩
    | makes r s t' =>
      show if decide (V.str "makes" = V.str "tied") = true then _ else _
      rw [show decide (V.str "makes" = V.str "tied") = false by decide +kernel]
      exact iteF ⟨rfl, rfl, by simp [Say.rank]⟩
  rintro σ H3' ⟨rfl, rfl, hs⟩
  refine ⟨fun σ H4 => σ = [some (.ref p), some (.str S.form)] ∧ H4 = H3' ∧ 4 ≤ S.rank, ?_, ?_⟩
  · refine ⟨_, rfl, rfl, _, rfl, ?_⟩
    cases S with
    | every c d => exact absurd hs (by simp [Say.rank])
    | no c d => exact absurd hs (by simp [Say.rank])
    | thing a c => exact absurd hs (by simp [Say.rank])
    | tied a r b => exact absurd hs (by simp [Say.rank])
    | within r s =>
      obtain ⟨x0, x1, x2, rfl, i0, i1, i2⟩ := kl3 kl
      obtain rfl : x0 = .str "within" := i0
      obtain rfl : x1 = .str r := i1
      obtain rfl : x2 = .str s := i2
      obtain ⟨o1, o2⟩ := ok
      have l1 := name_len o1
      have l2 := name_len o2
      have z4 : (Str.empty ++ "tie " ++ r ++ " within " ++ s).length ≤ 9000 := by simp only [Str.length_append]; omega
      have z3 := pre z4
      have z2 := pre z3
      have z1 := pre z2
      have u1 := suf z1
      have u2 := suf z2
      have u3 := suf z3
      have u4 := suf z4
      show if decide (V.str "within" = V.str "within") = true then _ else _
      rw [decide_eq_true rfl]
      refine iteT ⟨_, rfl, small9 u1, small9 z1, _, rfl, p, _, 1, _, rfl, rfl, SqT.of hp2, atI_nat (j := 1) rfl, r, rfl, small9 u2, small9 z2, _, rfl, small9 u3, small9 z3, _, rfl, p, _, 2, _, rfl, rfl, SqT.of hp2, atI_nat (j := 2) rfl, s, rfl, small9 u4, small9 z4, small9 z4, ?_⟩
      rw [e_app]
      exact q _ s2
    | makes r s t' =>
      show if decide (V.str "makes" = V.str "within") = true then _ else _
      rw [show decide (V.str "makes" = V.str "within") = false by decide +kernel]
      exact iteF ⟨rfl, rfl, by simp [Say.rank]⟩
  rintro σ H4 ⟨rfl, rfl, hs⟩
  cases S with
  | every c d => exact absurd hs (by simp [Say.rank])
  | no c d => exact absurd hs (by simp [Say.rank])
  | thing a c => exact absurd hs (by simp [Say.rank])
  | tied a r b => exact absurd hs (by simp [Say.rank])
  | within r s => exact absurd hs (by simp [Say.rank])
  | makes r s t' =>
    obtain ⟨x0, x1, x2, x3, rfl, i0, i1, i2, i3⟩ := kl4 kl
    obtain rfl : x0 = .str "makes" := i0
    obtain rfl : x1 = .str r := i1
    obtain rfl : x2 = .str s := i2
    obtain rfl : x3 = .str t' := i3
    obtain ⟨o1, o2, o3⟩ := ok
    have l1 := name_len o1
    have l2 := name_len o2
    have l3 := name_len o3
    have z6 : (Str.empty ++ "tie " ++ r ++ " then " ++ s ++ " makes " ++ t').length ≤ 9000 := by simp only [Str.length_append]; omega
    have z5 := pre z6
    have z4 := pre z5
    have z3 := pre z4
    have z2 := pre z3
    have z1 := pre z2
    have u1 := suf z1
    have u2 := suf z2
    have u3 := suf z3
    have u4 := suf z4
    have u5 := suf z5
    have u6 := suf z6
    refine ⟨_, rfl, small9 u1, small9 z1, _, rfl, p, _, 1, _, rfl, rfl, SqT.of hp2, atI_nat (j := 1) rfl, r, rfl, small9 u2, small9 z2, _, rfl, small9 u3, small9 z3, _, rfl, p, _, 2, _, rfl, rfl, SqT.of hp2, atI_nat (j := 2) rfl, s, rfl, small9 u4, small9 z4, _, rfl, small9 u5, small9 z5, _, rfl, p, _, 3, _, rfl, rfl, SqT.of hp2, atI_nat (j := 3) rfl, t', rfl, small9 u6, small9 z6, small9 z6, ?_⟩
    rw [e_app]
    exact q _ s2
end
end K11
set_option Elab.async false
set_option linter.all false
set_option maxRecDepth 100000
set_option maxHeartbeats 4000000
namespace K11
open PySem L2
theorem starts_iff {z y : Str} (hy : 0 < y.length) : Txt.startswith z y = true ↔ ∃ t, z.cps.toList = y.cps.toList ++ t := by
  have := at_iff z y 0 hy
  rw [List.drop_zero] at this
  rw [← this]
  unfold Txt.startswith StrLaws.At
  simp
theorem lit_isb : (Str.ofString "is ").cps.toList = [105, 115, 32] := by decide +kernel
theorem not_en {x : Str} (h : thingB x = true) : inV (.str x) [V.str "every", V.str "no"] = false := by
  cases e : inV (.str x) [V.str "every", V.str "no"] with
  | false => rfl
  | true =>
    unfold inV at e
    rw [List.any_eq_true] at e
    obtain ⟨y, hy, e⟩ := e
    rcases List.mem_cons.mp hy with rfl | hy
    · have : Str.ofString "every" = x := by simpa [eqV] using e
      subst this
      exact absurd h (by decide +kernel)
    · rw [List.mem_singleton.mp hy] at e
      have : Str.ofString "no" = x := by simpa [eqV] using e
      subst this
      exact absurd h (by decide +kernel)
theorem not_tie {x : Str} (h : thingB x = true) : decide (V.str x = V.str "tie") = false := by
  refine dec_ne fun e => ?_
  subst e
  exact absurd h (by decide +kernel)
theorem slice3 (z : Str) (h : 3 ≤ z.length) : (Txt.slice z (some 3) none).cps.toList = z.cps.toList.drop 3 := by
  have e : (3 : Int) = ((3 : Nat) : Int) := rfl
  rw [slice_cps, e, sIx_nat h, HT.sIx_none]
  exact List.take_of_length_le (by rw [List.length_drop, ← len_l]; omega)
theorem flat2 : ([V.str "every", V.str "no"] : List V).all flatV = true := by decide +kernel
theorem same_upd {H H' : Hp} {p : Addr} {o : HO} (h : Same H H') (hp : H p = none) : Same H (upd H' p o) := fun b u q => by
  rw [upd_ne (ne_of_none q hp)]
  exact h b u q
theorem none_of_same {H H' : Hp} {p : Addr} (h : Same H H') (hp : H' p = none) : H p = none := by
  cases c : H p with
  | none => rfl
  | some oo => rw [h _ _ c] at hp; cases hp
section
variable {P : Program} {w : World} {K : PySem.W.Frag} {mg : Str → Option Value} {base : Heap} {f g e d a1 a2 a3 a4 : Addr} {fd gd ed dd d1 d2 d3 d4 : FuncData}
theorem scReadTie : FnScope ["word"] ["word"] (defScope sReadTie) := ⟨rfl, rfl, rfl, by decide +kernel, rfl, by decide +kernel, by decide +kernel⟩
theorem ok_readTie (F : Fun K "read_tie" "read_tie" sReadTie f fd) (Gn : FnOk P w K mg base CX0 3 e ed ["text"] spName) (bGn : Binds K ed ["text"] []) (kGn : PySem.W.keepIn K (.ref e) = true) (mGn : mg "is_name" = some (.ref e)) :
    FnOk P w K mg base CX0 4 f fd ["word"] spReadTie := by
  refine F.ok scReadTie (fun vs H Q E h => ?_) (fun cdv A outer s H vs Q E hr h => ?_)
  · obtain ⟨z, rfl, _⟩ := h; rfl
  obtain ⟨z, rfl, hz, q⟩ := h
  have hrn := hr
  refine ⟨_, @pss_cons _ _ _ _ _ (by exact ps_if (pt_not (pt_val (pe_call Gn hrn rfl mGn kGn bGn .nil pass0 (pa_cons (pv 0) pa_nil)))) (@pss_one _ _ _ (by exact ps_never)) pss_nil)
    (@pss_one _ _ _ (by exact ps_ret (pv 0))), ?_⟩
  have l1 := name_len hz
  refine ⟨_, rfl, z, rfl, by omega, fun H' s' => ⟨_, rfl, ?_⟩⟩
  rw [hz]
  exact iteF ⟨_, rfl, q H' s'⟩
theorem scRKinds : FnScope ["form", "rest", "first", "link", "second"] ["form", "rest"] (defScope sRKinds) := ⟨rfl, rfl, rfl, by decide +kernel, rfl, by decide +kernel, by decide +kernel⟩
theorem ok_rkinds (F : Fun K "read_of_kinds" "read_of_kinds" sRKinds f fd) (Grk : FnOk P w K mg base CX0 31 e ed ["text"] spRead) (bGrk : Binds K ed ["text"] []) (kGrk : PySem.W.keepIn K (.ref e) = true) (mGrk : mg "read_kind" = some (.ref e)) :
    FnOk P w K mg base CX0 32 f fd ["form", "rest"] spRKinds := by
  refine F.ok scRKinds (fun vs H Q E h => ?_) (fun cdv A outer s H vs Q E hr h => ?_)
  · obtain ⟨fm, c, d, rfl, _⟩ := h; rfl
  obtain ⟨fm, c, d, rfl, oc, od, nc, nd, q⟩ := h
  have hrrk := hr
  refine ⟨_, @pss_cons _ _ _ _ _ (by exact ps_asg (pe_bm PySem.F.plainAttrs_str PySem.F.slot_str_partition PySem.F.type_str_partition mt_partition (pv 1) (pa_cons pe_str pa_nil)) (pg_tup rfl (pgs_cons (pg_name (i := 2) scRKinds.nd rfl (Or.inl rfl)) (pgs_cons (pg_name (i := 3) scRKinds.nd rfl (Or.inl rfl)) (pgs_cons (pg_name (i := 4) scRKinds.nd rfl (Or.inl rfl)) pgs_nil)))))
    (@pss_one _ _ _ (by exact ps_ret (pe_tup (pa_cons (pv 0) (pa_cons (pe_call Grk hrrk rfl mGrk kGrk bGrk .nil pass0 (pa_cons (pv 2) pa_nil)) (pa_cons (pe_call Grk hrrk rfl mGrk kGrk bGrk .nil pass0 (pa_cons (pv 4) pa_nil)) pa_nil)))))), ?_⟩
  have l1 := wrS_len oc
  have l2 := wrS_len od
  have b1 := le_is
  have pe : Txt.partition (wrS c ++ " is " ++ wrS d) (Str.ofString " is ") = (wrS c, Str.ofString " is ", wrS d) :=
    part_is oc (by simp only [app_l, wrS, mkS_l, lit_is, List.append_assoc])
  refine ⟨_, rfl, rfl, _, _, rfl, rfl, by decide +kernel, small9 (by simp only [Str.length_append]; omega), fun p hp => ?_⟩
  rw [pe]
  refine ⟨p, _, rfl, SqT.of upd_same, rfl, _, _, rfl, _, _, rfl, _, _, rfl, rfl, ?_⟩
  refine ⟨_, rfl, _, rfl, c, rfl, oc, nc, fun H1 v1 s1 i1 => ⟨_, rfl, d, rfl, od, nd, fun H2 v2 s2 i2 => ⟨small2 (by show 3 ≤ 1000; decide), fun r hr' => ?_⟩⟩⟩
  exact q _ _ ((same_new hp _).trans (s1.trans (s2.trans (same_new hr' _)))) ⟨r, _, rfl, upd_same, .cons rfl (.cons (IsK.mono (s2.tups.trans (tups_new hr')) i1) (.cons (IsK.mono (tups_new hr') i2) .nil))⟩
theorem scRThing : FnScope ["thing", "rest", "words"] ["thing", "rest"] (defScope sRThing) := ⟨rfl, rfl, rfl, by decide +kernel, rfl, by decide +kernel, by decide +kernel⟩
theorem ok_rthing (F : Fun K "read_of_thing" "read_of_thing" sRThing f fd) (ml : mg "len" = none) (Grk : FnOk P w K mg base CX0 31 a1 d1 ["text"] spRead) (bGrk : Binds K d1 ["text"] []) (kGrk : PySem.W.keepIn K (.ref a1) = true) (mGrk : mg "read_kind" = some (.ref a1))
    (Gt : FnOk P w K mg base CX0 3 a2 d2 ["text"] spThing) (bGt : Binds K d2 ["text"] []) (kGt : PySem.W.keepIn K (.ref a2) = true) (mGt : mg "is_thing" = some (.ref a2))
    (Grt : FnOk P w K mg base CX0 4 a3 d3 ["word"] spReadTie) (bGrt : Binds K d3 ["word"] []) (kGrt : PySem.W.keepIn K (.ref a3) = true) (mGrt : mg "read_tie" = some (.ref a3)) :
    FnOk P w K mg base CX0 32 f fd ["thing", "rest"] spRThing := by
  refine F.ok scRThing (fun vs H Q E h => ?_) (fun cdv A outer s H vs Q E hr h => ?_)
  · obtain ⟨a, z, rfl, _⟩ := h; rfl
  obtain ⟨a, z, rfl, h⟩ := h
  have hrrk := hr
  have hrt := hr.mono (show 3 ≤ 31 by decide)
  have hrrt := hr.mono (show 4 ≤ 31 by decide)
  refine ⟨_, @pss_cons _ _ _ _ _ (by exact ps_if (pt_val (pe_bm PySem.F.plainAttrs_str PySem.F.slot_str_startswith PySem.F.type_str_startswith mt_startswith (pv 1) (pa_cons pe_str pa_nil))) (@pss_one _ _ _ (by exact ps_ret (pe_tup (pa_cons pe_str (pa_cons (pv 0) (pa_cons (pe_call Grk hrrk rfl mGrk kGrk bGrk .nil pass0 (pa_cons (pe_slice sl_str (pv 1) (po_some pe_int) po_none) pa_nil)) pa_nil)))))) pss_nil)
    (@pss_cons _ _ _ _ _ (by exact ps_set (i := 2) scRThing.nd rfl (Or.inl rfl) (pe_bm PySem.F.plainAttrs_str PySem.F.slot_str_split PySem.F.type_str_split mt_split (pv 1) (pa_cons pe_str pa_nil)))
    (@pss_cons _ _ _ _ _ (by exact ps_if (PW.pt (pw_or (pt_cmpR op_ne (pe_callB call_len_seq rfl ml PySem.boot_len (pa_cons (pv 2) pa_nil)) pe_int (nomark _)) (pw_or1 (pt_not (pt_val (pe_call Gt hrt rfl mGt kGt bGt .nil pass0 (pa_cons (pe_ix ix_list (pv 2) pe_int (fun _ _ => rfl)) pa_nil))))))) (@pss_one _ _ _ (by exact ps_never)) pss_nil)
    (@pss_one _ _ _ (by exact ps_ret (pe_tup (pa_cons pe_str (pa_cons (pv 0) (pa_cons (pe_call Grt hrrt rfl mGrt kGrt bGrt .nil pass0 (pa_cons (pe_ix ix_list (pv 2) pe_int (fun _ _ => rfl)) pa_nil)) (pa_cons (pe_ix ix_list (pv 2) pe_int (fun _ _ => rfl)) pa_nil))))))))), ?_⟩
  rcases h with ⟨c, rfl, oc, nc, q⟩ | ⟨r, b, rfl, or, ob, q⟩
  · have st : Txt.startswith ("is " ++ wrS c) (Str.ofString "is ") = true := (starts_iff (by decide +kernel)).mpr ⟨wrL c, by simp only [app_l, wrS, mkS_l]⟩
    have l1 := wrS_len oc
    have l3 : (Str.ofString "is ").length = 3 := by decide +kernel
    have sl : Txt.slice ("is " ++ wrS c) (some 3) none = wrS c := strX (by
      rw [slice3 _ (by rw [Str.length_append]; omega), app_l, lit_isb]; rfl)
    refine ⟨_, rfl, rfl, _, _, rfl, rfl, _, rfl, ?_⟩
    rw [st]
    refine iteT ⟨_, rfl, _, rfl, 3, rfl, _, rfl, small9 (by rw [Str.length_append]; omega), ?_⟩
    rw [sl]
    refine ⟨c, rfl, oc, nc, fun H1 v1 s1 i1 => ⟨small2 (by show 3 ≤ 1000; decide), fun p hp => ?_⟩⟩
    exact q _ _ (s1.trans (same_new hp _)) ⟨p, _, rfl, upd_same, .cons rfl (.cons rfl (.cons (IsK.mono (tups_new hp) i1) .nil))⟩
  · have l1 := name_len or
    have l2 := thing_len ob
    have b1 := le_b
    have st : Txt.startswith (r ++ " " ++ b) (Str.ofString "is ") = false := by
      rw [Bool.eq_false_iff]
      intro hs
      obtain ⟨t, ht⟩ := (starts_iff (by decide +kernel)).mp hs
      simp only [app_l, lit_isb, lit_bl, List.append_assoc] at ht
      have := (app_sep (c := 32) (a := r.cps.toList) (b := [105, 115]) (r := b.cps.toList) (t := t) (name_no32 or) (by simp) (by simpa using ht)).1
      exact word_is (.inr or) this
    have sp : Txt.split (r ++ " " ++ b) (Str.ofString " ") = [r, b] := by
      have := split_join (c := 32) (ps := [r, b]) (by simp) (fun p hp => by
        rcases List.mem_cons.mp hp with rfl | hp
        · exact name_no32 or
        · rw [List.mem_singleton.mp hp]; exact thing_no32 ob)
      rw [one_32]
      exact this
    refine ⟨_, rfl, rfl, _, _, rfl, rfl, _, rfl, ?_⟩
    rw [st]
    refine iteF ⟨_, rfl, rfl, _, _, rfl, rfl, by decide +kernel, by simp only [Str.length_append]; omega, fun p hp => ?_⟩
    rw [sp]
    refine ⟨_, rfl, p, _, rfl, .inl (SqL.of upd_same), rfl, _, rfl, ?_⟩
    show if (!decide (V.int 2 = V.int 2)) = true then _ else _
    rw [decide_eq_true rfl]
    refine iteF ⟨_, rfl, p, _, 1, _, rfl, rfl, SqL.of upd_same, atI_nat (j := 1) rfl, b, rfl, by omega, fun H1 s1 => ⟨_, rfl, ?_⟩⟩
    rw [ob]
    have ep1 := s1 _ _ (upd_same (H := H) (a := p) (o := .lst [.str r, .str b]))
    refine iteF ⟨_, rfl, _, rfl, p, _, 0, _, rfl, rfl, SqL.of ep1, atI_nat (j := 0) rfl, r, rfl, or, fun H2 s2 => ⟨_, rfl, p, _, 1, _, rfl, rfl, SqL.of (s2 _ _ ep1), atI_nat (j := 1) rfl, small2 (by show 4 ≤ 1000; decide), fun t ht => ?_⟩⟩
    exact q _ _ ((same_new hp _).trans (s1.trans (s2.trans (same_new ht _)))) ⟨t, _, rfl, upd_same, .cons rfl (.cons rfl (.cons rfl (.cons rfl .nil)))⟩
theorem ndw : ((([("word" : Str)] : List Str) ++ []) : List Str).Nodup := by decide +kernel
theorem scRTies : FnScope ["rest", "words", "form"] ["rest"] (defScope sRTies) := ⟨rfl, rfl, rfl, by decide +kernel, rfl, by decide +kernel, by decide +kernel⟩
theorem within_words (r s : Str) : Str.join ⟨#[32]⟩ [r, "within", s] = r ++ " within " ++ s := by
  have e : (Str.ofString " within ").cps.toList = 32 :: ((Str.ofString "within").cps.toList ++ [32]) := by decide +kernel
  apply strX
  show (r ++ ⟨#[32]⟩ ++ ("within" ++ ⟨#[32]⟩ ++ s)).cps.toList = _
  simp only [app_l, e, List.append_assoc, List.cons_append]
  rfl
theorem makes_words (r s t : Str) : Str.join ⟨#[32]⟩ [r, "then", s, "makes", t] = r ++ " then " ++ s ++ " makes " ++ t := by
  have e : (Str.ofString " then ").cps.toList = 32 :: ((Str.ofString "then").cps.toList ++ [32]) := by decide +kernel
  have e2 : (Str.ofString " makes ").cps.toList = 32 :: ((Str.ofString "makes").cps.toList ++ [32]) := by decide +kernel
  apply strX
  show (r ++ ⟨#[32]⟩ ++ ("then" ++ ⟨#[32]⟩ ++ (s ++ ⟨#[32]⟩ ++ ("makes" ++ ⟨#[32]⟩ ++ t)))).cps.toList = _
  simp only [app_l, e, e2, List.append_assoc, List.cons_append]
  rfl
theorem split_within {r s : Str} (o1 : nameB r = true) (o2 : nameB s = true) : Txt.split (r ++ " within " ++ s) (Str.ofString " ") = [r, "within", s] := by
  rw [← within_words, one_32]
  refine split_join (by simp) fun p hp => ?_
  simp only [List.mem_cons, List.not_mem_nil, or_false] at hp
  rcases hp with rfl | rfl | rfl
  · exact name_no32 o1
  · decide +kernel
  · exact name_no32 o2
theorem split_makes {r s t : Str} (o1 : nameB r = true) (o2 : nameB s = true) (o3 : nameB t = true) : Txt.split (r ++ " then " ++ s ++ " makes " ++ t) (Str.ofString " ") = [r, "then", s, "makes", t] := by
  rw [← makes_words, one_32]
  refine split_join (by simp) fun p hp => ?_
  simp only [List.mem_cons, List.not_mem_nil, or_false] at hp
  rcases hp with rfl | rfl | rfl | rfl | rfl
  · exact name_no32 o1
  · decide +kernel
  · exact name_no32 o2
  · decide +kernel
  · exact name_no32 o3
theorem ok_rties (F : Fun K "read_of_ties" "read_of_ties" sRTies f fd) (ml : mg "len" = none) (m_tuple : mg "tuple" = none)
    (Grt : FnOk P w K mg base CX0 4 a3 d3 ["word"] spReadTie) (bGrt : Binds K d3 ["word"] []) (kGrt : PySem.W.keepIn K (.ref a3) = true) (mGrt : mg "read_tie" = some (.ref a3)) :
    FnOk P w K mg base CX0 5 f fd ["rest"] spRTies := by
  refine F.ok scRTies (fun vs H Q E h => ?_) (fun cdv A outer s H vs Q E hr h => ?_)
  · obtain ⟨z, rfl, _⟩ := h; rfl
  obtain ⟨z, rfl, h⟩ := h
  have hrrt := hr
  refine ⟨_, @pss_cons _ _ _ _ _ (by exact ps_set (i := 1) scRTies.nd rfl (Or.inl rfl) (pe_bm PySem.F.plainAttrs_str PySem.F.slot_str_split PySem.F.type_str_split mt_split (pv 0) (pa_cons pe_str pa_nil)))
    (@pss_mid _ _ _ _ _ (by exact ps_if (PW.pt (pw_and (pt_cmpR op_eq (pe_callB call_len_seq rfl ml PySem.boot_len (pa_cons (pv 1) pa_nil)) pe_int (nomark _)) (pw_and1 (pt_cmpR op_eq (pe_ix ix_list (pv 1) pe_int (fun _ _ => rfl)) pe_str (nomark _))))) (@pss_one _ _ _ (by exact ps_set (i := 2) scRTies.nd rfl (Or.inl rfl) pe_str)) (@pss_one _ _ _ (by exact ps_if (PW.pt (pw_and (pt_cmpR op_eq (pe_callB call_len_seq rfl ml PySem.boot_len (pa_cons (pv 1) pa_nil)) pe_int (nomark _)) (pw_and (pt_cmpR op_eq (pe_ix ix_list (pv 1) pe_int (fun _ _ => rfl)) pe_str (nomark _)) (pw_and1 (pt_cmpR op_eq (pe_ix ix_list (pv 1) pe_int (fun _ _ => rfl)) pe_str (nomark _)))))) (@pss_one _ _ _ (by exact ps_set (i := 2) scRTies.nd rfl (Or.inl rfl) pe_str)) (@pss_one _ _ _ (by exact ps_never)))))
    (@pss_one _ _ _ (by exact ps_ret (pe_callTy call_tuple_of rfl m_tuple PyProof.Rows.boot_tuple (pa_cons (pe_op op_cat (pe_lst (pa_cons (pv 2) pa_nil)) (pe_comp ["word"] [] [] rfl (pi_list (pe_slice2 (pv 1))) (fun _ _ _ => pg_name (i := 0) ndw rfl (Or.inl rfl)) (fun _ _ _ => pts_nil) (fun _ _ _ => (pe_call Grt hrrt rfl mGrt kGrt bGrt .nil pass0 (pa_cons (pv 0) pa_nil))))) pa_nil))))), ?_⟩
  have w4 : (Str.ofString " within ").length = 8 := by decide +kernel
  have w5 : (Str.ofString " then ").length = 6 := by decide +kernel
  have w6 : (Str.ofString " makes ").length = 7 := by decide +kernel
  obtain ⟨fm, ws, ns, hsp, hz, hn, hpick, hform, q⟩ : ∃ (fm : Str) (ws ns : List Str), Txt.split z (Str.ofString " ") = ws ∧ z.length ≤ 1000 ∧ (∀ n ∈ ns, nameB n = true) ∧ ((∃ a b c : Str, ws = [a, b, c] ∧ ns = [a, c]) ∨ ∃ a b c d e : Str, ws = [a, b, c, d, e] ∧ ns = [a, c, e]) ∧
      ((fm = "within" ∧ ∃ r s : Str, ws = [r, Str.ofString "within", s]) ∨ (fm = "makes" ∧ ∃ r s t : Str, ws = [r, Str.ofString "then", s, Str.ofString "makes", t])) ∧ ∀ H' v, Same H H' → IsS H' (.nm fm :: ns.map Kd.nm) v → Q v H' := by
    rcases h with ⟨r, s, rfl, o1, o2, q⟩ | ⟨r, s, t, rfl, o1, o2, o3, q⟩
    · have l1 := name_len o1
      have l2 := name_len o2
      refine ⟨"within", [r, "within", s], [r, s], split_within o1 o2, by simp only [Str.length_append]; omega, fun n hn => ?_, .inl ⟨r, _, s, rfl, rfl⟩, .inl ⟨rfl, r, s, rfl⟩, q⟩
      simp only [List.mem_cons, List.not_mem_nil, or_false] at hn
      rcases hn with rfl | rfl
      · exact o1
      · exact o2
    · have l1 := name_len o1
      have l2 := name_len o2
      have l3 := name_len o3
      refine ⟨"makes", [r, "then", s, "makes", t], [r, s, t], split_makes o1 o2 o3, by simp only [Str.length_append]; omega, fun n hn => ?_, .inr ⟨r, _, s, _, t, rfl, rfl⟩, .inr ⟨rfl, r, s, t, rfl⟩, q⟩
      simp only [List.mem_cons, List.not_mem_nil, or_false] at hn
      rcases hn with rfl | rfl | rfl
      · exact o1
      · exact o2
      · exact o3
  refine ⟨_, rfl, rfl, _, _, rfl, rfl, by decide +kernel, hz, fun p hp => ?_⟩
  rw [hsp]
  have s0 := same_new (H := H) hp (.lst (ws.map V.str))
  have e0 : upd H p (.lst (ws.map V.str)) p = some (.lst (ws.map V.str)) := upd_same
  generalize upd H p (.lst (ws.map V.str)) = H0 at s0 e0 ⊢
  refine ⟨fun σ H' => H' = H0 ∧ σ = [some (.str z), some (.ref p), some (.str fm)], ?_, ?_⟩
  · rcases hform with ⟨rfl, r, s, rfl⟩ | ⟨rfl, r, s, t, rfl⟩
    · refine ⟨_, rfl, p, _, rfl, .inl (SqL.of e0), rfl, _, rfl, ?_⟩
      show if decide (V.int 3 = V.int 3) = true then _ else _
      rw [decide_eq_true rfl]
      refine iteT ⟨_, rfl, p, _, 1, _, rfl, rfl, SqL.of e0, atI_nat (j := 1) rfl, rfl, _, rfl, ?_⟩
      show if decide (V.str "within" = V.str "within") = true then _ else _
      rw [decide_eq_true rfl]
      exact iteT ⟨rfl, rfl⟩
    · refine ⟨_, rfl, p, _, rfl, .inl (SqL.of e0), rfl, _, rfl, ?_⟩
      show if decide (V.int 5 = V.int 3) = true then _ else _
      rw [show decide (V.int 5 = V.int 3) = false by decide]
      refine iteF (iteF ⟨_, rfl, p, _, rfl, .inl (SqL.of e0), rfl, _, rfl, ?_⟩)
      show if decide (V.int 5 = V.int 5) = true then _ else _
      rw [decide_eq_true rfl]
      refine iteT ⟨_, rfl, p, _, 1, _, rfl, rfl, SqL.of e0, atI_nat (j := 1) rfl, rfl, _, rfl, ?_⟩
      show if decide (V.str "then" = V.str "then") = true then _ else _
      rw [decide_eq_true rfl]
      refine iteT ⟨_, rfl, p, _, 3, _, rfl, rfl, SqL.of e0, atI_nat (j := 3) rfl, rfl, _, rfl, ?_⟩
      show if decide (V.str "makes" = V.str "makes") = true then _ else _
      rw [decide_eq_true rfl]
      exact iteT ⟨rfl, rfl⟩
  rintro σ H' ⟨rfl, rfl⟩
  have hns : ns.length ≤ 3 := by rcases hpick with ⟨a, b, c, _, rfl⟩ | ⟨a, b, c, d, e, _, rfl⟩ <;> simp
  refine ⟨_, rfl, small2 (by show 1 ≤ 1000; decide), fun l hl => ?_⟩
  have s1 := same_new (H := H') hl (.lst [.str fm])
  have el : upd H' l (.lst [.str fm]) l = some (.lst [.str fm]) := upd_same
  generalize upd H' l (.lst [.str fm]) = H1 at s1 el ⊢
  refine ⟨_, rfl, p, ws.map V.str, ns.map V.str, rfl, s1 _ _ e0, ?_, fun r hr' => ?_⟩
  · rcases hpick with ⟨a, b, c, rfl, rfl⟩ | ⟨a, b, c, d, e, rfl, rfl⟩
    · exact .inl ⟨_, _, _, rfl, rfl⟩
    · exact .inr ⟨_, _, _, _, _, rfl, rfl⟩
  have s2 := same_new (H := H1) hr' (.lst (ns.map V.str))
  have er : upd H1 r (.lst (ns.map V.str)) r = some (.lst (ns.map V.str)) := upd_same
  generalize upd H1 r (.lst (ns.map V.str)) = H2 at s2 er ⊢
  refine ⟨r, rfl, ⟨_, SqL.of er⟩, fun D hD => ?_⟩
  refine cmp_by (ns.map V.str).length (fun i σ H3 => (∃ o, σ = [o]) ∧ Same H2 H3 ∧ H3 D = some (.lst ((ns.take i).map V.str))) ⟨⟨_, rfl⟩, same_new hD _, upd_same⟩ ?_ ?_
  · rintro σ H3 ⟨_, s3, e3⟩
    refine ⟨⟨_, SqL.of (s3 _ _ er), Nat.le_refl _⟩, l, D, _, _, rfl, rfl, s3 _ _ (s2 _ _ el), e3, small2 (by rw [List.length_map, List.length_take]; show 1 + _ ≤ 1000; omega), fun pa hpa => ?_⟩
    have hall : (ns.take (ns.map V.str).length).map V.str = ns.map V.str := by rw [List.length_map, List.take_length]
    refine ⟨pa, _, rfl, .inl ⟨SqL.of upd_same, ?_⟩⟩
    rw [hall]
    intro t ht
    refine q _ _ (s0.trans (s1.trans (s2.trans (s3.trans ((same_new hpa _).trans (same_new ht _)))))) ⟨t, _, rfl, upd_same, ?_⟩
    refine .cons rfl ?_
    have go : ∀ (X : Hp) (l : List Str), KL X (l.map V.str) (l.map Kd.nm) := fun X l => by
      induction l with
      | nil => exact .nil
      | cons a l ih => exact .cons rfl ih
    exact go _ ns
  · rintro i σ H3 hi ⟨⟨o, rfl⟩, s3, e3⟩
    have er3 := s3 _ _ er
    refine ⟨⟨_, (ns.map V.str)[i], SqL.of er3, by simp [hi]⟩, ?_⟩
    rintro x H4 ⟨rfl, hx1⟩
    have hxi := hx1 _ (SqL.of er3)
    rw [List.getElem?_map] at hxi
    obtain ⟨n, hn', rfl⟩ := Option.map_eq_some_iff.mp hxi
    refine ⟨_, rfl, n, rfl, hn n (List.mem_of_getElem? hn'), fun H5 s5 => ⟨_, s5 _ _ e3, ?_, ⟨_, rfl⟩, ?_, ?_⟩⟩
    · rw [List.length_map, List.length_take]
      exact small1000 (by omega)
    · exact same_upd (s3.trans s5) hD
    · rw [upd_same, List.take_add_one, hn', List.map_append]
      rfl
theorem scReadS : FnScope ["text", "head", "blank", "rest"] ["text"] (defScope sReadS) := ⟨rfl, rfl, rfl, by decide +kernel, rfl, by decide +kernel, by decide +kernel⟩
theorem ok_readS (F : Fun K "read" "read" sReadS f fd)
    (Grk2 : FnOk P w K mg base CX0 32 a1 d1 ["form", "rest"] spRKinds) (bGrk2 : Binds K d1 ["form", "rest"] []) (kGrk2 : PySem.W.keepIn K (.ref a1) = true) (mGrk2 : mg "read_of_kinds" = some (.ref a1))
    (Grth : FnOk P w K mg base CX0 32 a2 d2 ["thing", "rest"] spRThing) (bGrth : Binds K d2 ["thing", "rest"] []) (kGrth : PySem.W.keepIn K (.ref a2) = true) (mGrth : mg "read_of_thing" = some (.ref a2))
    (Grti : FnOk P w K mg base CX0 5 a3 d3 ["rest"] spRTies) (bGrti : Binds K d3 ["rest"] []) (kGrti : PySem.W.keepIn K (.ref a3) = true) (mGrti : mg "read_of_ties" = some (.ref a3))
    (Gt : FnOk P w K mg base CX0 3 a4 d4 ["text"] spThing) (bGt : Binds K d4 ["text"] []) (kGt : PySem.W.keepIn K (.ref a4) = true) (mGt : mg "is_thing" = some (.ref a4)) :
    FnOk P w K mg base CX0 33 f fd ["text"] spReadS := by
  refine F.ok scReadS (fun vs H Q E h => ?_) (fun cdv A outer s H vs Q E hr h => ?_)
  · obtain ⟨S, rfl, _⟩ := h; rfl
  obtain ⟨S, rfl, ok, q⟩ := h
  have hrrk2 := hr
  have hrrth := hr
  have hrrti := hr.mono (show 5 ≤ 32 by decide)
  have hrt := hr.mono (show 3 ≤ 32 by decide)
  refine ⟨_, @pss_cons _ _ _ _ _ (by exact ps_asg (pe_bm PySem.F.plainAttrs_str PySem.F.slot_str_partition PySem.F.type_str_partition mt_partition (pv 0) (pa_cons pe_str pa_nil)) (pg_tup rfl (pgs_cons (pg_name (i := 1) scReadS.nd rfl (Or.inl rfl)) (pgs_cons (pg_name (i := 2) scReadS.nd rfl (Or.inl rfl)) (pgs_cons (pg_name (i := 3) scReadS.nd rfl (Or.inl rfl)) pgs_nil)))))
    (@pss_cons _ _ _ _ _ (by exact ps_if (pt_cmpR op_in_seq (pv 1) (pe_tup (pa_cons pe_str (pa_cons pe_str pa_nil))) rfl) (@pss_one _ _ _ (by exact ps_ret (pe_call Grk2 hrrk2 rfl mGrk2 kGrk2 bGrk2 .nil pass0 (pa_cons (pv 1) (pa_cons (pv 3) pa_nil))))) pss_nil)
    (@pss_cons _ _ _ _ _ (by exact ps_if (pt_cmpR op_eq (pv 1) pe_str (nomark _)) (@pss_one _ _ _ (by exact ps_ret (pe_call Grti hrrti rfl mGrti kGrti bGrti .nil pass0 (pa_cons (pv 3) pa_nil)))) pss_nil)
    (@pss_cons _ _ _ _ _ (by exact ps_if (pt_val (pe_call Gt hrt rfl mGt kGt bGt .nil pass0 (pa_cons (pv 1) pa_nil))) (@pss_one _ _ _ (by exact ps_ret (pe_call Grth hrrth rfl mGrth kGrth bGrth .nil pass0 (pa_cons (pv 1) (pa_cons (pv 3) pa_nil))))) pss_nil)
    (@pss_one _ _ _ (by exact ps_never))))), ?_⟩
  have b1 := le_is
  have b2 := le_b
  have w1 : (Str.ofString "every ").length = 6 := by decide +kernel
  have w2 : (Str.ofString "no ").length = 3 := by decide +kernel
  have w3 : (Str.ofString "tie ").length = 4 := by decide +kernel
  have w4 : (Str.ofString " within ").length = 8 := by decide +kernel
  have w5 : (Str.ofString " then ").length = 6 := by decide +kernel
  have w6 : (Str.ofString " makes ").length = 7 := by decide +kernel
  obtain ⟨hd, rs, hw, hl⟩ : ∃ hd rs : Str, Txt.partition S.wr (Str.ofString " ") = (hd, Str.ofString " ", rs) ∧ S.wr.length ≤ 9000 ∧
      (match S with
        | .every c d => hd = "every" ∧ rs = wrS c ++ " is " ++ wrS d
        | .no c d => hd = "no" ∧ rs = wrS c ++ " is " ++ wrS d
        | .thing a c => hd = a ∧ rs = "is " ++ wrS c
        | .tied a r b => hd = a ∧ rs = r ++ " " ++ b
        | .within r s => hd = "tie" ∧ rs = r ++ " within " ++ s
        | .makes r s t => hd = "tie" ∧ rs = r ++ " then " ++ s ++ " makes " ++ t) := by
    cases S with
    | every c d =>
      have l1 := wrS_len ok.1
      have l2 := wrS_len ok.2.1
      have n1 := ok.2.2.1
      have n2 := ok.2.2.2
      refine ⟨_, _, part_blank (h := [101, 118, 101, 114, 121]) (r := wrL c ++ ([32, 105, 115, 32] ++ wrL d)) ?_ (by simp), by simp only [Say.wr, Str.length_append]; omega, strX (by rw [mkS_l, lit_every]), strX ?_⟩
      · simp only [Say.wr, app_l, lit_everyb, lit_is, wrS, mkS_l, List.append_assoc]; rfl
      · simp only [mkS_l, app_l, lit_is, wrS, List.append_assoc]
    | no c d =>
      have l1 := wrS_len ok.1
      have l2 := wrS_len ok.2.1
      have n1 := ok.2.2.1
      have n2 := ok.2.2.2
      refine ⟨_, _, part_blank (h := [110, 111]) (r := wrL c ++ ([32, 105, 115, 32] ++ wrL d)) ?_ (by simp), by simp only [Say.wr, Str.length_append]; omega, strX (by rw [mkS_l, lit_no]), strX ?_⟩
      · simp only [Say.wr, app_l, lit_nob, lit_is, wrS, mkS_l, List.append_assoc]; rfl
      · simp only [mkS_l, app_l, lit_is, wrS, List.append_assoc]
    | thing a c =>
      have l1 := thing_len ok.1
      have l2 := wrS_len ok.2.1
      have n2 := ok.2.2
      refine ⟨_, _, part_blank (h := a.cps.toList) (r := [105, 115, 32] ++ wrL c) ?_ (thing_no32 ok.1), by simp only [Say.wr, Str.length_append]; omega, mkS_of a, strX ?_⟩
      · simp only [Say.wr, app_l, lit_is, wrS, mkS_l, List.append_assoc]; rfl
      · simp only [mkS_l, app_l, lit_isb, wrS, List.append_assoc]
    | tied a r b =>
      have l1 := thing_len ok.1
      have l2 := name_len ok.2.1
      have l3 := thing_len ok.2.2
      refine ⟨_, _, part_blank (h := a.cps.toList) (r := r.cps.toList ++ ([32] ++ b.cps.toList)) ?_ (thing_no32 ok.1), by simp only [Say.wr, Str.length_append]; omega, mkS_of a, strX ?_⟩
      · simp only [Say.wr, app_l, lit_bl, List.append_assoc]; rfl
      · simp only [mkS_l, app_l, lit_bl, List.append_assoc]
    | within r s =>
      have l1 := name_len ok.1
      have l2 := name_len ok.2
      refine ⟨_, _, part_blank (h := [116, 105, 101]) (r := r.cps.toList ++ ((Str.ofString " within ").cps.toList ++ s.cps.toList)) ?_ (by simp), by simp only [Say.wr, Str.length_append]; omega, strX (by rw [mkS_l]; decide +kernel), strX ?_⟩
      · simp only [Say.wr, app_l, lit_tieb, List.append_assoc]; rfl
      · simp only [mkS_l, app_l, List.append_assoc]
    | makes r s t =>
      have l1 := name_len ok.1
      have l2 := name_len ok.2.1
      have l3 := name_len ok.2.2
      refine ⟨_, _, part_blank (h := [116, 105, 101]) (r := r.cps.toList ++ ((Str.ofString " then ").cps.toList ++ (s.cps.toList ++ ((Str.ofString " makes ").cps.toList ++ t.cps.toList)))) ?_ (by simp), by simp only [Say.wr, Str.length_append]; omega, strX (by rw [mkS_l]; decide +kernel), strX ?_⟩
      · simp only [Say.wr, app_l, lit_tieb, List.append_assoc]; rfl
      · simp only [mkS_l, app_l, List.append_assoc]
  refine ⟨_, rfl, rfl, _, _, rfl, rfl, by decide +kernel, small9 hl.1, fun p hp => ?_⟩
  rw [hw]
  refine ⟨p, _, rfl, SqT.of upd_same, rfl, _, _, rfl, _, _, rfl, _, _, rfl, rfl, ?_⟩
  have s0 := same_new (H := H) hp (.tup [.str hd, .str (Str.ofString " "), .str rs])
  generalize upd H p (.tup [.str hd, .str (Str.ofString " "), .str rs]) = H0 at s0 ⊢
  refine ⟨_, rfl, small2 (by show 2 ≤ 1000; decide), fun t ht => ⟨t, _, rfl, .inr (SqT.of upd_same), rfl, flat2, _, rfl, ?_⟩⟩
  show if inV (V.str hd) [V.str "every", V.str "no"] = true then _ else _
  have s1 := s0.trans (same_new (H := H0) ht (.tup [.str "every", .str "no"]))
  generalize upd H0 t (.tup [.str "every", .str "no"]) = H1 at s1 ⊢
  obtain ⟨_, hl⟩ := hl
  cases S with
  | every c d =>
    obtain ⟨rfl, rfl⟩ := hl
    rw [show inV (V.str "every") [V.str "every", V.str "no"] = true by decide +kernel]
    exact iteT ⟨_, rfl, _, rfl, _, c, d, rfl, ok.1, ok.2.1, ok.2.2.1, ok.2.2.2, fun H' v s' i' => q H' v (s1.trans s') i'⟩
  | no c d =>
    obtain ⟨rfl, rfl⟩ := hl
    rw [show inV (V.str "no") [V.str "every", V.str "no"] = true by decide +kernel]
    exact iteT ⟨_, rfl, _, rfl, _, c, d, rfl, ok.1, ok.2.1, ok.2.2.1, ok.2.2.2, fun H' v s' i' => q H' v (s1.trans s') i'⟩
  | thing a c =>
    obtain ⟨rfl, rfl⟩ := hl
    have l1 := thing_len ok.1
    rw [not_en ok.1]
    refine iteF ⟨_, rfl, rfl, _, rfl, ?_⟩
    rw [not_tie ok.1]
    refine iteF ⟨_, rfl, _, rfl, Nat.le_trans l1.2.1 (by decide), fun H2 s2 => ⟨_, rfl, ?_⟩⟩
    rw [ok.1]
    exact iteT ⟨_, rfl, _, rfl, _, _, rfl, .inl ⟨c, rfl, ok.2.1, ok.2.2, fun H' v s' i' => q H' v ((s1.trans s2).trans s') i'⟩⟩
  | tied a r b =>
    obtain ⟨rfl, rfl⟩ := hl
    have l1 := thing_len ok.1
    rw [not_en ok.1]
    refine iteF ⟨_, rfl, rfl, _, rfl, ?_⟩
    rw [not_tie ok.1]
    refine iteF ⟨_, rfl, _, rfl, Nat.le_trans l1.2.1 (by decide), fun H2 s2 => ⟨_, rfl, ?_⟩⟩
    rw [ok.1]
    exact iteT ⟨_, rfl, _, rfl, _, _, rfl, .inr ⟨r, b, rfl, ok.2.1, ok.2.2, fun H' v s' i' => q H' v ((s1.trans s2).trans s') i'⟩⟩
  | within r s =>
    obtain ⟨rfl, rfl⟩ := hl
    rw [show inV (V.str "tie") [V.str "every", V.str "no"] = false by decide +kernel]
    refine iteF ⟨_, rfl, rfl, _, rfl, ?_⟩
    rw [decide_eq_true rfl]
    exact iteT ⟨_, rfl, _, rfl, .inl ⟨r, s, rfl, ok.1, ok.2, fun H' v s' i' => q H' v (s1.trans s') i'⟩⟩
  | makes r s t =>
    obtain ⟨rfl, rfl⟩ := hl
    rw [show inV (V.str "tie") [V.str "every", V.str "no"] = false by decide +kernel]
    refine iteF ⟨_, rfl, rfl, _, rfl, ?_⟩
    rw [decide_eq_true rfl]
    exact iteT ⟨_, rfl, _, rfl, .inr ⟨r, s, t, rfl, ok.1, ok.2.1, ok.2.2, fun H' v s' i' => q H' v (s1.trans s') i'⟩⟩
end
end K11
set_option Elab.async false
set_option linter.all false
set_option maxRecDepth 100000
set_option maxHeartbeats 4000000
namespace K11
open PySem L2
abbrev AZ : Str := "ABCDEFGHIJKLMNOPQRSTUVWXYZ"
def behinds : List Str := ["o", "s", "ie", "oth", "ome", "very", "othing"]
theorem AZ_at {i : Nat} (h : i < 26) : atI (AZ).cps.toList (i : Int) = some (65 + i) := by
  have e : (AZ).cps.toList = List.range' 65 26 := by decide +kernel
  rw [e]
  exact atI_nat (by rw [List.getElem?_range' h]; simp)
theorem AZ_len : (AZ).length = 26 := by decide +kernel
theorem behinds_ok : ∀ z ∈ behinds, z.length ≤ 11 ∧ z.cps.toList.all smallC = true := by decide +kernel
theorem thing_of {c : Nat} {b : Str} (hc : bigC c = true) (h1 : b.length ≤ 11) (h2 : b.cps.toList.all smallC = true) : thingB ((⟨#[c]⟩ : Str) ++ b) = true := by
  have hl : ((⟨#[c]⟩ : Str) ++ b).length = 1 + b.length := by rw [Str.length_append]; rfl
  have hc' : ((⟨#[c]⟩ : Str) ++ b).cps.toList = c :: b.cps.toList := by rw [app_l]; rfl
  unfold thingB fits
  rw [hl, hc', decide_eq_true (by omega), decide_eq_true (by omega)]
  simp [hc, h2]
def spLThing : Sp := fun vs H Q _ => ∃ c : Int, vs = [.int c] ∧ ∀ z H', Same H H' → thingB z = true → Q (.str z) H'
def IsKT (H : Hp) (k : Kd) (v : V) : Prop := ∃ (p : Addr) (x : V), v = .ref p ∧ H p = some (.tup [x, .str (wrS k)]) ∧ IsK H k x
theorem IsKT.mono {H H' : Hp} (t : Tups H H') {k : Kd} {v : V} (h : IsKT H k v) : IsKT H' k v := by
  obtain ⟨p, x, e1, h1, h2⟩ := h
  exact ⟨p, x, e1, t _ _ h1, IsK.mono t h2⟩
def spLKind : Sp := fun vs H Q _ => ∃ (a : Addr) (ns : List Int), vs = [.ref a] ∧ H a = some (.lst (ns.map V.int)) ∧ ns.length ≤ 25 ∧ ∀ v H' k, Same H H' → IsKT H' k v → okK k → k.nt ≤ 24 → Q v H'
theorem law_eq_two (a b : Kd) : "(both " ++ wrS a ++ " " ++ wrS b ++ ")" = wrS (.two a b) := by
  apply strX
  simp only [app_l, lit_ob, lit_bl, lit_cl, wrS, mkS_l, wrL]
theorem law_eq_som (r : Str) (c : Kd) : "(some " ++ r ++ " " ++ wrS c ++ ")" = wrS (.som r c) := by
  apply strX
  simp only [app_l, lit_os, lit_bl, lit_cl, wrS, mkS_l, wrL]
theorem wr_nm (x : Str) : wrS (.nm x) = x := mkS_of x
theorem l6 : (Str.ofString "(both ").length = 6 := by decide +kernel
theorem l6s : (Str.ofString "(some ").length = 6 := by decide +kernel
theorem l1b : (Str.ofString " ").length = 1 := by decide +kernel
theorem l1c : (Str.ofString ")").length = 1 := by decide +kernel
section
variable {P : Program} {w : World} {K : PySem.W.Frag} {mg : Str → Option Value} {base : Heap} {f g e d a1 a2 a3 a4 : Addr} {fd gd ed dd d1 d2 d3 d4 : FuncData}
theorem scLThing : FnScope ["_law_cell", "_law_letters", "_law_behind"] ["_law_cell"] (defScope sLThing) := ⟨rfl, rfl, rfl, by decide +kernel, rfl, by decide +kernel, by decide +kernel⟩
theorem ok_lthing (F : Fun K "_law_thing" "_law_thing" sLThing f fd) (Gln : FnOk P w K mg base CX0 2 g gd ["_law_cell"] spLName) (bGln : Binds K gd ["_law_cell"] []) (kGln : PySem.W.keepIn K (.ref g) = true) (mGln : mg "_law_name" = some (.ref g))
    (Gp : FnOk P w K mg base CX0 1 e ed ["_law_cell", "_law_turn", "_law_many"] spPick) (bGp : Binds K ed ["_law_cell", "_law_turn", "_law_many"] []) (kGp : PySem.W.keepIn K (.ref e) = true) (mGp : mg "_law_pick" = some (.ref e)) : FnOk P w K mg base CX0 3 f fd ["_law_cell"] spLThing := by
  refine F.ok scLThing (fun vs H Q E h => ?_) (fun cdv A outer s H vs Q E hr h => ?_)
  · obtain ⟨c, rfl, _⟩ := h; rfl
  obtain ⟨c, rfl, q⟩ := h
  have hrln := hr
  have hrp := hr.mono (show 1 ≤ 2 by decide)
  refine ⟨_, @pss_cons _ _ _ _ _ (by exact ps_set (i := 1) scLThing.nd rfl (Or.inl rfl) pe_str)
    (@pss_cons _ _ _ _ _ (by exact ps_set (i := 2) scLThing.nd rfl (Or.inl rfl) (pe_slice sl_str (pe_call Gln hrln rfl mGln kGln bGln .nil pass0 (pa_cons (pv 0) pa_nil)) (po_some pe_int) po_none))
    (@pss_mid _ _ _ _ _ (by exact ps_ifN (pt_cmpR op_eq (pe_op op_mod (pv 0) pe_int) pe_int (nomark _)) (@pss_one _ _ _ (by exact ps_set (i := 2) scLThing.nd rfl (Or.inl rfl) (pe_ix ix_list (@pe_lst _ _ _ _ (@pa_strs _ _ behinds rfl)) (pe_call Gp hrp rfl mGp kGp bGp .nil pass0 (pa_cons (pv 0) (pa_cons pe_int (pa_cons pe_int pa_nil)))) (fun _ _ => rfl)))) pss_nil)
    (@pss_one _ _ _ (by exact ps_ret (pe_op op_add_str (pe_ix ix_str (pv 1) (pe_call Gp hrp rfl mGp kGp bGp .nil pass0 (pa_cons (pv 0) (pa_cons pe_int (pa_cons pe_int pa_nil)))) (fun _ _ => rfl)) (pv 2)))))), ?_⟩
  refine ⟨_, rfl, c, rfl, fun z H1 s1 hz => ?_⟩
  have l1 := name_len hz
  refine ⟨1, rfl, z, rfl, small9 (by omega), ?_⟩
  refine ⟨fun σ H' => ∃ b : Str, σ = [some (.int c), some (.str AZ), some (.str b)] ∧ Same H H' ∧ b.length ≤ 11 ∧ b.cps.toList.all smallC = true, ?_, ?_⟩
  · refine ⟨fun H2 => H2 = H1, ⟨_, rfl, _, _, rfl, rfl, (show (0 : Int) < 5 by decide), rfl, _, rfl, rfl⟩, ?_⟩
    rintro H2 rfl
    refine ⟨⟨small2 (by show 7 ≤ 1000; decide), fun p hp => ⟨_, rfl, c, 18, 7, rfl, by decide, fun r h0 h1 => ?_⟩⟩, _, rfl, s1, ?_, ?_⟩
    · have hr' : r.toNat < behinds.length := by show r.toNat < 7; omega
      have za : atI (behinds.map V.str) ((r.toNat : Nat) : Int) = some (.str behinds[r.toNat]) := atI_nat (by rw [List.getElem?_map, List.getElem?_eq_getElem hr']; rfl)
      rw [show ((r.toNat : Nat) : Int) = r by omega] at za
      have bo := behinds_ok _ (List.getElem_mem hr')
      exact ⟨p, _, _, _, rfl, rfl, SqL.of upd_same, za, _, rfl, s1.trans (same_new hp _), bo.1, bo.2⟩
    · rw [len_l, sl1, List.length_drop, ← len_l]; omega
    · rw [sl1]
      exact List.all_eq_true.mpr fun x hx => List.all_eq_true.mp l1.2.2.1 x (List.mem_of_mem_drop hx)
  rintro σ H' ⟨b, rfl, s', hb1, hb2⟩
  refine ⟨_, rfl, _, rfl, c, 19, 26, rfl, by decide, fun r h0 h1 => ?_⟩
  have za := AZ_at (i := r.toNat) (by omega)
  rw [show ((r.toNat : Nat) : Int) = r by omega] at za
  refine ⟨AZ, r, _, rfl, rfl, small2 (by rw [AZ_len]; decide), za, _, rfl, _, _, rfl, rfl, small9 (by show 1 + _ ≤ 9000; omega), ?_⟩
  exact q _ _ s' (thing_of (by unfold bigC; exact decide_eq_true (by omega)) hb1 hb2)
theorem scLKind : FnScope ["_law_group", "_law_kind_here", "_law_text", "_law_k", "_law_cell", "_law_leaf", "_law_tie"] ["_law_group"] (defScope sLKind) := ⟨rfl, rfl, rfl, by decide +kernel, rfl, by decide +kernel, by decide +kernel⟩
theorem ok_lkind (F : Fun K "_law_kind" "_law_kind" sLKind f fd) (m_enumerate : mg "enumerate" = none) (Gln : FnOk P w K mg base CX0 2 g gd ["_law_cell"] spLName) (bGln : Binds K gd ["_law_cell"] []) (kGln : PySem.W.keepIn K (.ref g) = true) (mGln : mg "_law_name" = some (.ref g))
    (Gp : FnOk P w K mg base CX0 1 e ed ["_law_cell", "_law_turn", "_law_many"] spPick) (bGp : Binds K ed ["_law_cell", "_law_turn", "_law_many"] []) (kGp : PySem.W.keepIn K (.ref e) = true) (mGp : mg "_law_pick" = some (.ref e)) : FnOk P w K mg base CX0 3 f fd ["_law_group"] spLKind := by
  refine F.ok scLKind (fun vs H Q E h => ?_) (fun cdv A outer s H vs Q E hr h => ?_)
  · obtain ⟨a, ns, rfl, _⟩ := h; rfl
  obtain ⟨a, ns, rfl, ha, hn, q⟩ := h
  have hrln := hr
  have hrp := hr.mono (show 1 ≤ 2 by decide)
  refine ⟨_, @pss_cons _ _ _ _ _ (by exact ps_set (i := 1) scLKind.nd rfl (Or.inl rfl) pe_str)
    (@pss_cons _ _ _ _ _ (by exact ps_set (i := 2) scLKind.nd rfl (Or.inl rfl) pe_str)
    (@pss_cons _ _ _ _ _ (by exact ps_for PassesOwn.never rfl (pi_enum rfl m_enumerate (pa_cons (pv 0) pa_nil)) (pg_tup rfl (pgs_cons (pg_name (i := 3) scLKind.nd rfl (Or.inl rfl)) (pgs_cons (pg_name (i := 4) scLKind.nd rfl (Or.inl rfl)) pgs_nil))) (@pss_cons _ _ _ _ _ (by exact ps_set (i := 5) scLKind.nd rfl (Or.inl rfl) (pe_call Gln hrln rfl mGln kGln bGln .nil pass0 (pa_cons (pv 4) pa_nil))) (@pss_mid _ _ _ _ _ (by exact ps_ifN (pt_cmpR op_eq (pe_op op_mod (pe_op op_fdiv (pv 4) pe_int) pe_int) pe_int (nomark _)) (@pss_one _ _ _ (by exact ps_set (i := 5) scLKind.nd rfl (Or.inl rfl) (pe_ix ix_list (pe_lst (pa_cons pe_str (pa_cons pe_str pa_nil))) (pe_call Gp hrp rfl mGp kGp bGp .nil pass0 (pa_cons (pv 4) (pa_cons pe_int (pa_cons pe_int pa_nil)))) (fun _ _ => rfl)))) pss_nil) (@pss_one _ _ _ (by exact ps_if (pt_cmpR op_eq (pv 3) pe_int (nomark _)) (@pss_cons _ _ _ _ _ (by exact ps_set (i := 1) scLKind.nd rfl (Or.inl rfl) (pv 5)) (@pss_one _ _ _ (by exact ps_set (i := 2) scLKind.nd rfl (Or.inl rfl) (pv 5)))) (@pss_one _ _ _ (by exact ps_if (pt_cmpR op_eq (pe_op op_mod (pv 4) pe_int) pe_int (nomark _)) (@pss_cons _ _ _ _ _ (by exact ps_set (i := 1) scLKind.nd rfl (Or.inl rfl) (pe_tup (pa_cons pe_str (pa_cons (pv 1) (pa_cons (pv 5) pa_nil))))) (@pss_one _ _ _ (by exact ps_set (i := 2) scLKind.nd rfl (Or.inl rfl) (pe_op op_add_str (pe_op op_add_str (pe_op op_add_str (pe_op op_add_str pe_str (pv 2)) pe_str) (pv 5)) pe_str)))) (@pss_one _ _ _ (by exact ps_if (pt_cmpR op_eq (pe_op op_mod (pv 4) pe_int) pe_int (nomark _)) (@pss_cons _ _ _ _ _ (by exact ps_set (i := 1) scLKind.nd rfl (Or.inl rfl) (pe_tup (pa_cons pe_str (pa_cons (pv 5) (pa_cons (pv 1) pa_nil))))) (@pss_one _ _ _ (by exact ps_set (i := 2) scLKind.nd rfl (Or.inl rfl) (pe_op op_add_str (pe_op op_add_str (pe_op op_add_str (pe_op op_add_str pe_str (pv 5)) pe_str) (pv 2)) pe_str)))) (@pss_cons _ _ _ _ _ (by exact ps_set (i := 6) scLKind.nd rfl (Or.inl rfl) (pe_call Gln hrln rfl mGln kGln bGln .nil pass0 (pa_cons (pv 4) pa_nil))) (@pss_cons _ _ _ _ _ (by exact ps_set (i := 1) scLKind.nd rfl (Or.inl rfl) (pe_tup (pa_cons pe_str (pa_cons (pv 6) (pa_cons (pv 1) pa_nil))))) (@pss_one _ _ _ (by exact ps_set (i := 2) scLKind.nd rfl (Or.inl rfl) (pe_op op_add_str (pe_op op_add_str (pe_op op_add_str (pe_op op_add_str pe_str (pv 6)) pe_str) (pv 2)) pe_str))))))))))))))
    (@pss_one _ _ _ (by exact ps_ret (pe_tup (pa_cons (pv 1) (pa_cons (pv 2) pa_nil))))))), ?_⟩
  have w0 : wrS (.nm "anything") = Str.ofString "anything" := wr_nm _
  have c1 := l6
  have c1' := l6s
  have c2 := l1b
  have c3 := l1c
  refine ⟨_, rfl, a, rfl, ⟨_, SqL.of ha⟩, for_enum (xs := ns.map V.int) (fun i σ H' => ∃ (v : V) (k : Kd) (o3 o4 o5 o6 : Option V), σ = [some (.ref a), some v, some (.str (wrS k)), o3, o4, o5, o6] ∧ Same H H' ∧ IsK H' k v ∧ okK k ∧ k.nt ≤ i - 1)
    ⟨.str "anything", .nm "anything", none, none, none, none, by rw [w0]; rfl, Same.refl _, rfl, .inl (by decide +kernel), Nat.le_refl _⟩ ?_ ?_ ?_⟩
  · rintro i σ H' hi ⟨v, k, o3, o4, o5, o6, rfl, sm, _⟩
    exact SqL.of (sm _ _ ha)
  · rintro i x σ H' T hx ⟨v, k, o3, o4, o5, o6, rfl, sm, ik, ok, hnt⟩ hT
    have hi : i < (ns.map V.int).length := (List.getElem?_eq_some_iff.mp hx).1
    rw [List.length_map] at hi
    obtain ⟨c, rfl⟩ : ∃ c : Int, x = .int c := by
      obtain ⟨c, _, e⟩ := List.mem_map.mp (List.mem_of_getElem? hx); exact ⟨c, e.symm⟩
    have s0 := sm.trans (same_new hT (.tup [.int (i : Int), .int c]))
    have ik0 := IsK.mono (tups_new (o := .tup [.int (i : Int), .int c]) hT) ik
    refine ⟨T, _, rfl, SqT.of upd_same, rfl, _, _, rfl, _, _, rfl, rfl, ?_⟩
    generalize upd H' T (.tup [.int (i : Int), .int c]) = H0 at s0 ik0 ⊢
    refine ⟨_, rfl, c, rfl, fun z H1 s1 hz => ?_⟩
    refine ⟨fun σ2 H2 => ∃ x : Str, σ2 = [some (.ref a), some v, some (.str (wrS k)), some (.int (i : Int)), some (.int c), some (.str x), o6] ∧ Same H0 H2 ∧ (wholeB x = true ∨ nameB x = true), ?_, ?_⟩
    · refine ⟨fun H2 => H2 = H1, ⟨_, rfl, _, _, rfl, rfl, ⟨by decide, by decide⟩, _, _, rfl, rfl, (show (0 : Int) < 5 by decide), rfl, _, rfl, rfl⟩, ?_⟩
      rintro H2 rfl
      refine ⟨⟨small2 (by show 2 ≤ 1000; decide), fun p hp => ⟨_, rfl, c, 20, 2, rfl, by decide, fun r h0 h1 => ?_⟩⟩, z, rfl, s1, .inr hz⟩
      have : ∃ x : Str, atI [V.str "anything", V.str "nothing"] r = some (.str x) ∧ wholeB x = true := by
        rcases (show r = 0 ∨ r = 1 by omega) with rfl | rfl
        · exact ⟨"anything", rfl, by decide +kernel⟩
        · exact ⟨"nothing", rfl, by decide +kernel⟩
      obtain ⟨x, ex, hx⟩ := this
      exact ⟨p, _, _, _, rfl, rfl, SqL.of upd_same, ex, x, rfl, s1.trans (same_new hp _), .inl hx⟩
    rintro σ2 H2 ⟨x, rfl, s2, hx⟩
    have sH := s0.trans s2
    have ik2 := IsK.mono s2.tups ik0
    have lx := word_len hx
    have lk := wrS_len ok
    refine ⟨_, rfl, rfl, _, rfl, ite2 (fun h0 => ?_) (fun h0 => ?_)⟩
    · refine ⟨_, rfl, _, rfl, .str x, .nm x, _, _, _, _, by rw [wr_nm]; rfl, sH, rfl, hx, Nat.zero_le _⟩
    have hi0 : i ≠ 0 := by
      rintro rfl
      exact h0 (decide_eq_true rfl)
    refine ⟨_, rfl, _, _, rfl, rfl, (show (0 : Int) < 3 by decide), rfl, _, rfl, ite2 (fun h1 => ?_) (fun h1 => ?_)⟩
    · refine ⟨_, rfl, _, rfl, small2 (by show 3 ≤ 1000; decide), fun p hp => ?_⟩
      refine ⟨_, rfl, _, _, rfl, rfl, small9 (by first | omega | (simp only [Str.length_append]; omega)), _, _, rfl, rfl, small9 (by first | omega | (simp only [Str.length_append]; omega)), _, rfl, _, _, rfl, rfl, small9 (by first | omega | (simp only [Str.length_append]; omega)), _, _, rfl, rfl, small9 (by first | omega | (simp only [Str.length_append]; omega)), ?_⟩
      have e := law_eq_two k (.nm x)
      rw [wr_nm] at e
      refine ⟨.ref p, .two k (.nm x), _, _, _, _, by rw [← e]; rfl, sH.trans (same_new hp _), ⟨p, v, .str x, rfl, upd_same, IsK.mono (tups_new hp) ik2, rfl⟩, ⟨ok, hx⟩, by simp only [Kd.nt]; omega⟩
    · refine ⟨_, rfl, _, _, rfl, rfl, (show (0 : Int) < 3 by decide), rfl, _, rfl, ite2 (fun h2 => ?_) (fun h2 => ?_)⟩
      · refine ⟨_, rfl, _, rfl, small2 (by show 3 ≤ 1000; decide), fun p hp => ?_⟩
        refine ⟨_, rfl, _, _, rfl, rfl, small9 (by first | omega | (simp only [Str.length_append]; omega)), _, _, rfl, rfl, small9 (by first | omega | (simp only [Str.length_append]; omega)), _, rfl, _, _, rfl, rfl, small9 (by first | omega | (simp only [Str.length_append]; omega)), _, _, rfl, rfl, small9 (by first | omega | (simp only [Str.length_append]; omega)), ?_⟩
        have e := law_eq_two (.nm x) k
        rw [wr_nm] at e
        refine ⟨.ref p, .two (.nm x) k, _, _, _, _, by rw [← e]; rfl, sH.trans (same_new hp _), ⟨p, .str x, v, rfl, upd_same, rfl, IsK.mono (tups_new hp) ik2⟩, ⟨hx, ok⟩, by simp only [Kd.nt]; omega⟩
      · refine ⟨_, rfl, c, rfl, fun r H3 s3 hr' => ?_⟩
        have lr := name_len hr'
        refine ⟨_, rfl, _, rfl, small2 (by show 3 ≤ 1000; decide), fun p hp => ?_⟩
        refine ⟨_, rfl, _, _, rfl, rfl, small9 (by first | omega | (simp only [Str.length_append]; omega)), _, _, rfl, rfl, small9 (by first | omega | (simp only [Str.length_append]; omega)), _, rfl, _, _, rfl, rfl, small9 (by first | omega | (simp only [Str.length_append]; omega)), _, _, rfl, rfl, small9 (by first | omega | (simp only [Str.length_append]; omega)), ?_⟩
        refine ⟨.ref p, .som r k, _, _, _, _, by rw [← law_eq_som]; rfl, sH.trans (s3.trans (same_new hp _)), ⟨p, v, rfl, upd_same, IsK.mono (s3.tups.trans (tups_new hp)) ik2⟩, ⟨hr', ok⟩, by simp only [Kd.nt]; omega⟩
  · rintro σ H' ⟨v, k, o3, o4, o5, o6, rfl, sm, ik, ok, hnt⟩
    rw [List.length_map] at hnt
    refine ⟨_, rfl, _, rfl, small2 (by show 2 ≤ 1000; decide), fun p hp => ?_⟩
    exact q _ _ k (sm.trans (same_new hp _)) ⟨p, v, rfl, upd_same, IsK.mono (tups_new hp) ik⟩ ok (by omega)
end
end K11
set_option Elab.async false
set_option linter.all false
set_option maxRecDepth 100000
set_option maxHeartbeats 4000000
namespace K11
open PySem L2
def IsST (H : Hp) (S : Say) (v : V) : Prop := ∃ (p : Addr) (x : V), v = .ref p ∧ H p = some (.tup [x, .str S.wr]) ∧ IsS H S.ks x
def spLSaying : Sp := fun vs H Q _ => ∃ (a : Addr) (ns : List Int), vs = [.ref a] ∧ H a = some (.lst (ns.map V.int)) ∧ 0 < ns.length ∧ ns.length ≤ 50 ∧ ∀ v H' S, Same H H' → IsST H' S v → S.ok → Q v H'
theorem cut_ints (ns : List Int) (lo hi : Option Int) : ∃ ns' : List Int, cutV (ns.map V.int) lo hi = ns'.map V.int ∧ ns'.length ≤ ns.length := by
  refine ⟨(ns.drop (HT.sIx (ns.map V.int).length 0 lo)).take (HT.sIx (ns.map V.int).length (ns.map V.int).length hi - HT.sIx (ns.map V.int).length 0 lo), ?_, ?_⟩
  · unfold cutV
    rw [List.map_take, List.map_drop]
  · rw [List.length_take, List.length_drop]; omega
theorem cut_group {ns : List Int} {st m : Nat} (h : st < ns.length) (hm : 0 < m) : ∃ ns' : List Int, cutV (ns.map V.int) (some (st : Int)) (some ((st + m : Nat) : Int)) = ns'.map V.int ∧ 0 < ns'.length ∧ ns'.length ≤ m := by
  refine ⟨(ns.drop (HT.sIx (ns.map V.int).length 0 (some (st : Int)))).take (HT.sIx (ns.map V.int).length (ns.map V.int).length (some ((st + m : Nat) : Int)) - HT.sIx (ns.map V.int).length 0 (some (st : Int))), ?_, ?_, ?_⟩
  · unfold cutV
    rw [List.map_take, List.map_drop]
  · rw [HT.sIx_nat, HT.sIx_nat, List.length_map, List.length_take, List.length_drop]; omega
  · rw [HT.sIx_nat, HT.sIx_nat, List.length_map, List.length_take, List.length_drop]; omega
theorem cut_head {ns : List Int} {m : Nat} : ∃ ns' : List Int, cutV (ns.map V.int) none (some (m : Int)) = ns'.map V.int ∧ ns'.length ≤ m := by
  refine ⟨(ns.drop (HT.sIx (ns.map V.int).length 0 none)).take (HT.sIx (ns.map V.int).length (ns.map V.int).length (some (m : Int)) - HT.sIx (ns.map V.int).length 0 none), ?_, ?_⟩
  · unfold cutV
    rw [List.map_take, List.map_drop]
  · rw [HT.sIx_nat, HT.sIx_none, List.length_map, List.length_take, List.length_drop]; omega
theorem cut_tail {ns : List Int} {m : Nat} : ∃ ns' : List Int, cutV (ns.map V.int) (some (m : Int)) none = ns'.map V.int ∧ ns'.length ≤ ns.length - m := by
  refine ⟨(ns.drop (HT.sIx (ns.map V.int).length 0 (some (m : Int)))).take (HT.sIx (ns.map V.int).length (ns.map V.int).length none - HT.sIx (ns.map V.int).length 0 (some (m : Int))), ?_, ?_⟩
  · unfold cutV
    rw [List.map_take, List.map_drop]
  · rw [HT.sIx_nat, HT.sIx_none, List.length_map, List.length_take, List.length_drop]; omega
theorem ndk : ((([("_law_k" : Str)] : List Str) ++ [("_law_group" : Str)]) : List Str).Nodup := by decide +kernel
theorem at_end {ns : List Int} (h : 0 < ns.length) : ∃ n : Int, atI (ns.map V.int) (-1) = some (.int n) := by
  have hne : ns ≠ [] := by intro z; rw [z] at h; simp at h
  refine ⟨ns.getLast hne, ?_⟩
  have e : ns.map V.int = (ns.dropLast).map V.int ++ [V.int (ns.getLast hne)] := by
    rw [← List.map_singleton, ← List.map_append, List.dropLast_concat_getLast]
  rw [e]
  exact atI_last _ _
section
variable {P : Program} {w : World} {K : PySem.W.Frag} {mg : Str → Option Value} {base : Heap} {f g e d a1 a2 a3 a4 : Addr} {fd gd ed dd d1 d2 d3 d4 : FuncData}
theorem scLSaying : FnScope ["_law_group", "_law_head", "_law_way", "_law_middle", "_law_one", "_law_first", "_law_other", "_law_second", "_law_thing_here", "_law_ties", "_law_last", "_law_made"] ["_law_group"] (defScope sLSaying) := ⟨rfl, rfl, rfl, by decide +kernel, rfl, by decide +kernel, by decide +kernel⟩
theorem ok_lsaying (F : Fun K "_law_saying" "_law_saying" sLSaying f fd) (ml : mg "len" = none) (mr : mg "range" = none)
    (Gk : FnOk P w K mg base CX0 3 a1 d1 ["_law_group"] spLKind) (bGk : Binds K d1 ["_law_group"] []) (kGk : PySem.W.keepIn K (.ref a1) = true) (mGk : mg "_law_kind" = some (.ref a1))
    (Glt : FnOk P w K mg base CX0 3 a2 d2 ["_law_cell"] spLThing) (bGlt : Binds K d2 ["_law_cell"] []) (kGlt : PySem.W.keepIn K (.ref a2) = true) (mGlt : mg "_law_thing" = some (.ref a2))
    (Gln : FnOk P w K mg base CX0 2 a3 d3 ["_law_cell"] spLName) (bGln : Binds K d3 ["_law_cell"] []) (kGln : PySem.W.keepIn K (.ref a3) = true) (mGln : mg "_law_name" = some (.ref a3)) :
    FnOk P w K mg base CX0 4 f fd ["_law_group"] spLSaying := by
  refine F.ok scLSaying (fun vs H Q E h => ?_) (fun cdv A outer s H vs Q E hr h => ?_)
  · obtain ⟨a, ns, rfl, _⟩ := h; rfl
  obtain ⟨a, ns, rfl, ha, hn0, hn, q⟩ := h
  have hrk := hr
  have hrlt := hr
  have hrln := hr.mono (show 2 ≤ 3 by decide)
  refine ⟨_, @pss_cons _ _ _ _ _ (by exact ps_set (i := 1) scLSaying.nd rfl (Or.inl rfl) (pe_ix ix_list (pv 0) pe_int (fun _ _ => rfl)))
    (@pss_cons _ _ _ _ _ (by exact ps_set (i := 2) scLSaying.nd rfl (Or.inl rfl) (pe_op op_mod (pv 1) pe_int))
    (@pss_cons _ _ _ _ _ (by exact ps_set (i := 3) scLSaying.nd rfl (Or.inl rfl) (pe_op op_fdiv (pe_callB call_len_seq rfl ml PySem.boot_len (pa_cons (pv 0) pa_nil)) pe_int))
    (@pss_cons _ _ _ _ _ (by exact ps_asg (pe_call Gk hrk rfl mGk kGk bGk .nil pass0 (pa_cons (pe_slice sl_list (pv 0) po_none (po_some (pv 3))) pa_nil)) (pg_tup rfl (pgs_cons (pg_name (i := 4) scLSaying.nd rfl (Or.inl rfl)) (pgs_cons (pg_name (i := 5) scLSaying.nd rfl (Or.inl rfl)) pgs_nil))))
    (@pss_cons _ _ _ _ _ (by exact ps_asg (pe_call Gk hrk rfl mGk kGk bGk .nil pass0 (pa_cons (pe_slice sl_list (pv 0) (po_some (pv 3)) po_none) pa_nil)) (pg_tup rfl (pgs_cons (pg_name (i := 6) scLSaying.nd rfl (Or.inl rfl)) (pgs_cons (pg_name (i := 7) scLSaying.nd rfl (Or.inl rfl)) pgs_nil))))
    (@pss_cons _ _ _ _ _ (by exact ps_set (i := 8) scLSaying.nd rfl (Or.inl rfl) (pe_call Glt hrlt rfl mGlt kGlt bGlt .nil pass0 (pa_cons (pv 1) pa_nil)))
    (@pss_cons _ _ _ _ _ (by exact ps_setC (i := 9) ["_law_k"] ["_law_group"] [0] scLSaying.nd rfl rfl (pi_range1 rfl mr (pa_cons pe_int pa_nil)) (fun _ _ _ => pg_name (i := 0) ndk rfl (Or.inl rfl)) (fun _ _ _ => pts_nil) (fun _ _ _ => (pe_call Gln hrln rfl mGln kGln bGln .nil pass0 (pa_cons (pe_op op_add (pe_ix (r := rIxL K) ix_list (pv 1) (pe_un un_neg pe_int) (fun _ _ => rfl)) (pe_op op_mul pe_int (pv 0))) pa_nil))))
    (@pss_cons _ _ _ _ _ (by exact ps_if (pt_cmpR op_eq (pv 2) pe_int (nomark _)) (@pss_one _ _ _ (by exact ps_ret (pe_tup (pa_cons (pe_tup (pa_cons pe_str (pa_cons (pv 4) (pa_cons (pv 6) pa_nil)))) (pa_cons (pe_op op_add_str (pe_op op_add_str (pe_op op_add_str pe_str (pv 5)) pe_str) (pv 7)) pa_nil))))) pss_nil)
    (@pss_cons _ _ _ _ _ (by exact ps_if (pt_cmpR op_eq (pv 2) pe_int (nomark _)) (@pss_one _ _ _ (by exact ps_ret (pe_tup (pa_cons (pe_tup (pa_cons pe_str (pa_cons (pv 4) (pa_cons (pv 6) pa_nil)))) (pa_cons (pe_op op_add_str (pe_op op_add_str (pe_op op_add_str pe_str (pv 5)) pe_str) (pv 7)) pa_nil))))) pss_nil)
    (@pss_cons _ _ _ _ _ (by exact ps_if (pt_cmpR op_eq (pv 2) pe_int (nomark _)) (@pss_one _ _ _ (by exact ps_ret (pe_tup (pa_cons (pe_tup (pa_cons pe_str (pa_cons (pv 8) (pa_cons (pv 6) pa_nil)))) (pa_cons (pe_op op_add_str (pe_op op_add_str (pv 8) pe_str) (pv 7)) pa_nil))))) pss_nil)
    (@pss_cons _ _ _ _ _ (by exact ps_if (pt_cmpR op_eq (pv 2) pe_int (nomark _)) (@pss_cons _ _ _ _ _ (by exact ps_set (i := 10) scLSaying.nd rfl (Or.inl rfl) (pe_call Glt hrlt rfl mGlt kGlt bGlt .nil pass0 (pa_cons (pe_op op_add (pe_op op_add (pv 1) pe_int) (pe_op op_mod (pe_ix ix_list (pv 0) (pe_un un_neg pe_int) (fun _ _ => rfl)) pe_int)) pa_nil))) (@pss_one _ _ _ (by exact ps_ret (pe_tup (pa_cons (pe_tup (pa_cons pe_str (pa_cons (pv 8) (pa_cons (pe_ix ix_list (pv 9) pe_int (fun _ _ => rfl)) (pa_cons (pv 10) pa_nil))))) (pa_cons (pe_op op_add_str (pe_op op_add_str (pe_op op_add_str (pe_op op_add_str (pv 8) pe_str) (pe_ix ix_list (pv 9) pe_int (fun _ _ => rfl))) pe_str) (pv 10)) pa_nil)))))) pss_nil)
    (@pss_cons _ _ _ _ _ (by exact ps_if (pt_cmpR op_eq (pv 2) pe_int (nomark _)) (@pss_one _ _ _ (by exact ps_ret (pe_tup (pa_cons (pe_tup (pa_cons pe_str (pa_cons (pe_ix ix_list (pv 9) pe_int (fun _ _ => rfl)) (pa_cons (pe_ix ix_list (pv 9) pe_int (fun _ _ => rfl)) pa_nil)))) (pa_cons (pe_op op_add_str (pe_op op_add_str (pe_op op_add_str pe_str (pe_ix ix_list (pv 9) pe_int (fun _ _ => rfl))) pe_str) (pe_ix ix_list (pv 9) pe_int (fun _ _ => rfl))) pa_nil))))) pss_nil)
    (@pss_cons _ _ _ _ _ (by exact ps_set (i := 11) scLSaying.nd rfl (Or.inl rfl) (pe_op op_add_str (pe_op op_add_str (pe_op op_add_str (pe_op op_add_str (pe_op op_add_str pe_str (pe_ix ix_list (pv 9) pe_int (fun _ _ => rfl))) pe_str) (pe_ix ix_list (pv 9) pe_int (fun _ _ => rfl))) pe_str) (pe_ix ix_list (pv 9) pe_int (fun _ _ => rfl))))
    (@pss_one _ _ _ (by exact ps_ret (pe_tup (pa_cons (pe_tup (pa_cons pe_str (pa_cons (pe_ix ix_list (pv 9) pe_int (fun _ _ => rfl)) (pa_cons (pe_ix ix_list (pv 9) pe_int (fun _ _ => rfl)) (pa_cons (pe_ix ix_list (pv 9) pe_int (fun _ _ => rfl)) pa_nil))))) (pa_cons (pv 11) pa_nil))))))))))))))))), ?_⟩
  have g0 : atI (ns.map V.int) (0 : Int) = some (.int ns[0]) := atI_nat (j := 0) (by rw [List.getElem?_map, List.getElem?_eq_getElem hn0]; rfl)
  obtain ⟨nl, gl⟩ := at_end hn0
  generalize ns[0] = n0 at g0
  refine ⟨_, rfl, a, _, 0, _, rfl, rfl, SqL.of ha, g0, ?_⟩
  refine ⟨_, rfl, _, _, rfl, rfl, (show (0 : Int) < 6 by decide), ?_⟩
  refine ⟨_, rfl, a, _, rfl, .inl (SqL.of ha), _, _, rfl, rfl, ⟨by decide, by decide⟩, ?_⟩
  rw [List.length_map]
  obtain ⟨m, hm⟩ : ∃ m : Nat, (ns.length : Int) / 2 = (m : Int) := ⟨ns.length / 2, by omega⟩
  obtain ⟨n1, ec1, lc1⟩ := cut_head (ns := ns) (m := m)
  obtain ⟨n2, ec2, lc2⟩ := cut_tail (ns := ns) (m := m)
  refine ⟨_, rfl, _, rfl, (m : Int), congrArg V.int hm, a, _, rfl, SqL.of ha, fun p1 hp1 => ?_⟩
  rw [ec1]
  have s1 := same_new (H := H) hp1 (.lst (n1.map V.int))
  refine ⟨p1, n1, rfl, upd_same, by omega, fun v1 H1 k1 t1 ik1 ok1 nt1 => ?_⟩
  have u1 := s1.trans t1
  obtain ⟨q1, x1, rfl, hq1, ix1⟩ := ik1
  refine ⟨q1, _, rfl, SqT.of hq1, rfl, _, _, rfl, _, _, rfl, rfl, ?_⟩
  refine ⟨_, rfl, _, rfl, (m : Int), congrArg V.int hm, a, _, rfl, SqL.of (u1 _ _ ha), fun p2 hp2 => ?_⟩
  rw [ec2]
  have s2 := same_new (H := H1) hp2 (.lst (n2.map V.int))
  refine ⟨p2, n2, rfl, upd_same, by omega, fun v2 H2 k2 t2 ik2 ok2 nt2 => ?_⟩
  have u2 := u1.trans (s2.trans t2)
  obtain ⟨q2, x2, rfl, hq2, ix2⟩ := ik2
  have ix1 := IsK.mono (s2.trans t2).tups ix1
  refine ⟨q2, _, rfl, SqT.of hq2, rfl, _, _, rfl, _, _, rfl, rfl, ?_⟩
  refine ⟨_, rfl, n0, rfl, fun th H3 s3 hth => ?_⟩
  have u3 := u2.trans s3
  have ix1 := IsK.mono s3.tups ix1
  have ix2 := IsK.mono s3.tups ix2
  refine ⟨3, rfl, by decide, by decide, fun D hD => ?_⟩
  refine cmp_by 3 (fun i σ H4 => (∃ o, σ = [o, some (.ref a)]) ∧ Same H3 H4 ∧ ∃ ws : List Str, ws.length = i ∧ (∀ z ∈ ws, nameB z = true) ∧ H4 D = some (.lst (ws.map V.str))) ⟨⟨_, rfl⟩, same_new hD _, [], rfl, fun z hz => (nomatch hz), upd_same⟩ ?_ ?_
  case refine_2 =>
    rintro i σ H4 hi ⟨⟨o, rfl⟩, s4, ws, hwl, hwn, e4⟩
    refine ⟨hi, ?_⟩
    rintro x H5 ⟨rfl, rfl⟩
    refine ⟨_, rfl, _, rfl, a, _, _, _, rfl, rfl, SqL.of (s4 _ _ (u3 _ _ ha)), gl, _, rfl, _, _, rfl, rfl, .inl ⟨by decide, by decide⟩, _, _, rfl, rfl, _, rfl, fun z H6 s6 hz => ⟨_, s6 _ _ e4, ?_, ⟨_, rfl⟩, ?_, ws ++ [z], ?_, ?_, ?_⟩⟩
    · rw [List.length_map]; exact small1000 (by omega)
    · intro b o hb
      rw [upd_ne (ne_of_none hb hD)]
      exact s6 _ _ (s4 _ _ hb)
    · rw [List.length_append, hwl]; rfl
    · intro y hy
      rcases List.mem_append.mp hy with hy | hy
      · exact hwn y hy
      · rw [List.mem_singleton.mp hy]; exact hz
    · rw [upd_same, List.map_append]; rfl
  rintro σ H4 ⟨_, s4, ws, hwl, hwn, e4⟩
  match ws, hwl, hwn, e4 with
  | [r0, r1, r2], _, hwn, e4 =>
  have o0 := hwn r0 (by simp)
  have o1 := hwn r1 (by simp)
  have o2 := hwn r2 (by simp)
  have u4 := u3.trans s4
  have ix1 := IsK.mono s4.tups ix1
  have ix2 := IsK.mono s4.tups ix2
  have l1 := wrS_len ok1
  have l2 := wrS_len ok2
  have lt := thing_len hth
  have y0 := name_len o0
  have y1 := name_len o1
  have y2 := name_len o2
  have b1 := le_is
  have b2 := le_b
  have w1 : (Str.ofString "every ").length = 6 := by decide +kernel
  have w2 : (Str.ofString "no ").length = 3 := by decide +kernel
  have w3 : (Str.ofString "tie ").length = 4 := by decide +kernel
  have w4 : (Str.ofString " within ").length = 8 := by decide +kernel
  have w5 : (Str.ofString " then ").length = 6 := by decide +kernel
  have w6 : (Str.ofString " makes ").length = 7 := by decide +kernel
  refine ⟨by show (3 : Nat) ≤ 3; exact Nat.le_refl _, ?_⟩
  refine ⟨_, rfl, rfl, _, rfl, ite2 (fun _ => ?_) (fun _ => ?_)⟩
  · refine ⟨_, rfl, _, rfl, small2 (by show 3 ≤ 1000; decide), fun p hp => ?_⟩
    refine ⟨_, rfl, _, _, rfl, rfl, small9 (by first | omega | (simp only [Str.length_append]; omega)), _, _, rfl, rfl, small9 (by simp only [Str.length_append]; omega), _, rfl, _, _, rfl, rfl, small9 (by simp only [Str.length_append]; omega), small2 (by show 2 ≤ 1000; decide), fun p' hp' => ?_⟩
    have n : p ≠ p' := ne_of_none (upd_same (H := H4) (a := p)) hp'
    have tt := (tups_new (o := .tup [.str "every", x1, x2]) hp).trans (tups_new (o := .tup [.ref p, .str (Say.every k1 k2).wr]) hp')
    exact q _ _ (.every k1 k2) (u4.trans ((same_new hp _).trans (same_new hp' _))) ⟨p', .ref p, rfl, upd_same, p, _, rfl, by rw [upd_ne n]; exact upd_same, .cons rfl (.cons (IsK.mono tt ix1) (.cons (IsK.mono tt ix2) .nil))⟩ ⟨ok1, ok2, nt1, nt2⟩
  refine ⟨_, rfl, rfl, _, rfl, ite2 (fun _ => ?_) (fun _ => ?_)⟩
  · refine ⟨_, rfl, _, rfl, small2 (by show 3 ≤ 1000; decide), fun p hp => ?_⟩
    refine ⟨_, rfl, _, _, rfl, rfl, small9 (by first | omega | (simp only [Str.length_append]; omega)), _, _, rfl, rfl, small9 (by simp only [Str.length_append]; omega), _, rfl, _, _, rfl, rfl, small9 (by simp only [Str.length_append]; omega), small2 (by show 2 ≤ 1000; decide), fun p' hp' => ?_⟩
    have n : p ≠ p' := ne_of_none (upd_same (H := H4) (a := p)) hp'
    have tt := (tups_new (o := .tup [.str "no", x1, x2]) hp).trans (tups_new (o := .tup [.ref p, .str (Say.no k1 k2).wr]) hp')
    exact q _ _ (.no k1 k2) (u4.trans ((same_new hp _).trans (same_new hp' _))) ⟨p', .ref p, rfl, upd_same, p, _, rfl, by rw [upd_ne n]; exact upd_same, .cons rfl (.cons (IsK.mono tt ix1) (.cons (IsK.mono tt ix2) .nil))⟩ ⟨ok1, ok2, nt1, nt2⟩
  refine ⟨_, rfl, rfl, _, rfl, ite2 (fun _ => ?_) (fun _ => ?_)⟩
  · refine ⟨_, rfl, _, rfl, small2 (by show 3 ≤ 1000; decide), fun p hp => ?_⟩
    refine ⟨_, rfl, _, _, rfl, rfl, small9 (by first | omega | (simp only [Str.length_append]; omega)), _, rfl, _, _, rfl, rfl, small9 (by simp only [Str.length_append]; omega), small2 (by show 2 ≤ 1000; decide), fun p' hp' => ?_⟩
    have n : p ≠ p' := ne_of_none (upd_same (H := H4) (a := p)) hp'
    have tt := (tups_new (o := .tup [.str "thing", .str th, x2]) hp).trans (tups_new (o := .tup [.ref p, .str (Say.thing th k2).wr]) hp')
    exact q _ _ (.thing th k2) (u4.trans ((same_new hp _).trans (same_new hp' _))) ⟨p', .ref p, rfl, upd_same, p, _, rfl, by rw [upd_ne n]; exact upd_same, .cons rfl (.cons rfl (.cons (IsK.mono tt ix2) .nil))⟩ ⟨hth, ok2, nt2⟩
  refine ⟨_, rfl, rfl, _, rfl, ite2 (fun _ => ?_) (fun _ => ?_)⟩
  · refine ⟨_, rfl, _, _, rfl, rfl, _, rfl, _, rfl, a, _, _, _, rfl, rfl, SqL.of (u4 _ _ ha), gl, _, _, rfl, rfl, (show (0 : Int) < 3 by decide), _, _, rfl, rfl, _, rfl, fun tb H5 s5 htb => ?_⟩
    have e5 := s5 _ _ e4
    have lb := thing_len htb
    refine ⟨_, rfl, _, rfl, D, _, 0, _, rfl, rfl, SqL.of e5, atI_nat (j := 0) rfl, _, rfl, small2 (by show 4 ≤ 1000; decide), fun p hp => ?_⟩
    have npD : D ≠ p := ne_of_none e5 hp
    have e6 : upd H5 p (.tup [.str "tied", .str th, .str r0, .str tb]) D = some (.lst [.str r0, .str r1, .str r2]) := by rw [upd_ne npD]; exact e5
    refine ⟨_, rfl, _, _, rfl, rfl, small9 (by first | omega | (simp only [Str.length_append]; omega)), _, rfl, D, _, 0, _, rfl, rfl, SqL.of e6, atI_nat (j := 0) rfl, _, _, rfl, rfl, small9 (by simp only [Str.length_append]; omega), _, _, rfl, rfl, small9 (by simp only [Str.length_append]; omega), _, rfl, _, _, rfl, rfl, small9 (by simp only [Str.length_append]; omega), small2 (by show 2 ≤ 1000; decide), fun p' hp' => ?_⟩
    have n : p ≠ p' := ne_of_none (upd_same (H := H5) (a := p)) hp'
    exact q _ _ (.tied th r0 tb) (u4.trans (s5.trans ((same_new hp _).trans (same_new hp' _)))) ⟨p', .ref p, rfl, upd_same, p, _, rfl, by rw [upd_ne n]; exact upd_same, .cons rfl (.cons rfl (.cons rfl (.cons rfl .nil)))⟩ ⟨hth, o0, htb⟩
  refine ⟨_, rfl, rfl, _, rfl, ite2 (fun _ => ?_) (fun _ => ?_)⟩
  · refine ⟨_, rfl, D, _, 0, _, rfl, rfl, SqL.of e4, atI_nat (j := 0) rfl, _, rfl, D, _, 1, _, rfl, rfl, SqL.of e4, atI_nat (j := 1) rfl, small2 (by show 3 ≤ 1000; decide), fun p hp => ?_⟩
    have npD : D ≠ p := ne_of_none e4 hp
    have e6 : upd H4 p (.tup [.str "within", .str r0, .str r1]) D = some (.lst [.str r0, .str r1, .str r2]) := by rw [upd_ne npD]; exact e4
    refine ⟨_, rfl, D, _, 0, _, rfl, rfl, SqL.of e6, atI_nat (j := 0) rfl, _, _, rfl, rfl, small9 (by first | omega | (simp only [Str.length_append]; omega)), _, _, rfl, rfl, small9 (by simp only [Str.length_append]; omega), _, rfl, D, _, 1, _, rfl, rfl, SqL.of e6, atI_nat (j := 1) rfl, _, _, rfl, rfl, small9 (by simp only [Str.length_append]; omega), small2 (by show 2 ≤ 1000; decide), fun p' hp' => ?_⟩
    have n : p ≠ p' := ne_of_none (upd_same (H := H4) (a := p)) hp'
    exact q _ _ (.within r0 r1) (u4.trans ((same_new hp _).trans (same_new hp' _))) ⟨p', .ref p, rfl, upd_same, p, _, rfl, by rw [upd_ne n]; exact upd_same, .cons rfl (.cons rfl (.cons rfl .nil))⟩ ⟨o0, o1⟩
  refine ⟨_, rfl, D, _, 0, _, rfl, rfl, SqL.of e4, atI_nat (j := 0) rfl, _, _, rfl, rfl, small9 (by first | omega | (simp only [Str.length_append]; omega)), _, _, rfl, rfl, small9 (by simp only [Str.length_append]; omega), _, rfl, D, _, 1, _, rfl, rfl, SqL.of e4, atI_nat (j := 1) rfl, _, _, rfl, rfl, small9 (by simp only [Str.length_append]; omega), _, _, rfl, rfl, small9 (by simp only [Str.length_append]; omega), _, rfl, D, _, 2, _, rfl, rfl, SqL.of e4, atI_nat (j := 2) rfl, _, _, rfl, rfl, small9 (by simp only [Str.length_append]; omega), ?_⟩
  refine ⟨_, rfl, D, _, 0, _, rfl, rfl, SqL.of e4, atI_nat (j := 0) rfl, _, rfl, D, _, 1, _, rfl, rfl, SqL.of e4, atI_nat (j := 1) rfl, _, rfl, D, _, 2, _, rfl, rfl, SqL.of e4, atI_nat (j := 2) rfl, small2 (by show 4 ≤ 1000; decide), fun p hp => ⟨_, rfl, small2 (by show 2 ≤ 1000; decide), fun p' hp' => ?_⟩⟩
  have n : p ≠ p' := ne_of_none (upd_same (H := H4) (a := p)) hp'
  exact q _ _ (.makes r0 r1 r2) (u4.trans ((same_new hp _).trans (same_new hp' _))) ⟨p', .ref p, rfl, upd_same, p, _, rfl, by rw [upd_ne n]; exact upd_same, .cons rfl (.cons rfl (.cons rfl (.cons rfl .nil)))⟩ ⟨o0, o1, o2⟩
end
end K11
set_option Elab.async false
set_option linter.all false
set_option maxRecDepth 100000
set_option maxHeartbeats 4000000
namespace K11
open PySem L2
theorem say_dep {S : Say} (ok : S.ok) : ∀ k ∈ S.ks, k.dep ≤ 60 := by
  have nm : ∀ x : Str, (Kd.nm x).dep ≤ 60 := fun x => by simp [Kd.dep]
  intro k hk
  cases S with
  | every c d =>
    have h1 := c.dep_le_nt
    have h2 := d.dep_le_nt
    obtain ⟨_, _, n1, n2⟩ := ok
    simp only [Say.ks, List.mem_cons, List.not_mem_nil, or_false] at hk
    rcases hk with rfl | rfl | rfl
    · exact nm _
    · omega
    · omega
  | no c d =>
    have h1 := c.dep_le_nt
    have h2 := d.dep_le_nt
    obtain ⟨_, _, n1, n2⟩ := ok
    simp only [Say.ks, List.mem_cons, List.not_mem_nil, or_false] at hk
    rcases hk with rfl | rfl | rfl
    · exact nm _
    · omega
    · omega
  | thing a c =>
    have h1 := c.dep_le_nt
    obtain ⟨_, _, n1⟩ := ok
    simp only [Say.ks, List.mem_cons, List.not_mem_nil, or_false] at hk
    rcases hk with rfl | rfl | rfl
    · exact nm _
    · exact nm _
    · omega
  | tied a r b =>
    simp only [Say.ks, List.mem_cons, List.not_mem_nil, or_false] at hk
    rcases hk with rfl | rfl | rfl | rfl <;> exact nm _
  | within r s =>
    simp only [Say.ks, List.mem_cons, List.not_mem_nil, or_false] at hk
    rcases hk with rfl | rfl | rfl <;> exact nm _
  | makes r s t =>
    simp only [Say.ks, List.mem_cons, List.not_mem_nil, or_false] at hk
    rcases hk with rfl | rfl | rfl | rfl <;> exact nm _
section
variable {P : Program} {w : World} {K : PySem.W.Frag} {mg : Str → Option Value} {base : Heap} {f g e d a1 a2 a3 a4 : Addr} {fd gd ed dd d1 d2 d3 d4 : FuncData}
theorem scLaw : FnScope ["_law_script", "_law_cells", "_law_size", "_law_start", "_law_saying_here", "_law_text", "_law_found"] ["_law_script"] (defScope sLaw) := ⟨rfl, rfl, rfl, by decide +kernel, rfl, by decide +kernel, by decide +kernel⟩
theorem ok_law (F : Fun K "law" "law" sLaw f fd) (ml : mg "len" = none) (mr : mg "range" = none) (mi : mg "isinstance" = none) (ms : mg "str" = none)
    (Gls : FnOk P w K mg base CX0 4 a1 d1 ["_law_group"] spLSaying) (bGls : Binds K d1 ["_law_group"] []) (kGls : PySem.W.keepIn K (.ref a1) = true) (mGls : mg "_law_saying" = some (.ref a1))
    (Gss : FnOk P w K mg base CX0 26 a2 d2 ["saying"] spShowS) (bGss : Binds K d2 ["saying"] []) (kGss : PySem.W.keepIn K (.ref a2) = true) (mGss : mg "show" = some (.ref a2))
    (Grd : FnOk P w K mg base CX0 33 a3 d3 ["text"] spReadS) (bGrd : Binds K d3 ["text"] []) (kGrd : PySem.W.keepIn K (.ref a3) = true) (mGrd : mg "read" = some (.ref a3)) :
    FnOk P w K mg base CX0 34 f fd ["_law_script"] (spLaw K) := by
  refine F.ok scLaw (fun vs H Q E h => ?_) (fun cdv A outer s H vs Q E hr h => ?_)
  · obtain ⟨a, ns, rfl, _⟩ := h; rfl
  obtain ⟨a, ns0, rfl, hS, h63, q⟩ := h
  have hrls := hr.mono (show 4 ≤ 33 by decide)
  have hrss := hr.mono (show 26 ≤ 33 by decide)
  have hrrd := hr
  refine ⟨_, @pss_cons _ _ _ _ _ (by exact ps_set (i := 1) scLaw.nd rfl (Or.inl rfl) (pe_slice sl_list (pv 0) po_none (po_some pe_int)))
    (@pss_cons _ _ _ _ _ (by exact ps_set (i := 2) scLaw.nd rfl (Or.inl rfl) pe_int)
    (@pss_mid _ _ _ _ _ (by exact ps_if (pt_cmpR op_gt (pe_callB call_len_seq rfl ml PySem.boot_len (pa_cons (pv 1) pa_nil)) pe_int (nomark _)) (@pss_one _ _ _ (by exact ps_set (i := 2) scLaw.nd rfl (Or.inl rfl) (pe_op op_add pe_int (pe_op op_mod (pe_ix ix_list (pv 1) pe_int (fun _ _ => rfl)) pe_int)))) pss_nil)
    (@pss_cons _ _ _ _ _ (by exact ps_for PassesOwn.never rfl (pi_range3 rfl mr (pa_cons pe_int (pa_cons (pe_callB call_len_seq rfl ml PySem.boot_len (pa_cons (pv 1) pa_nil)) (pa_cons (pv 2) pa_nil)))) (pg_name (i := 3) scLaw.nd rfl (Or.inl rfl)) (@pss_cons _ _ _ _ _ (by exact ps_asg (pe_call Gls hrls rfl mGls kGls bGls .nil pass0 (pa_cons (pe_slice sl_list (pv 1) (po_some (pv 3)) (po_some (pe_op op_add (pv 3) (pv 2)))) pa_nil)) (pg_tup rfl (pgs_cons (pg_name (i := 4) scLaw.nd rfl (Or.inl rfl)) (pgs_cons (pg_name (i := 5) scLaw.nd rfl (Or.inl rfl)) pgs_nil)))) (@pss_cons _ _ _ _ _ (by exact ps_set (i := 6) scLaw.nd rfl (Or.inl rfl) (pe_call Gss hrss rfl mGss kGss bGss .nil pass0 (pa_cons (pv 4) pa_nil))) (@pss_cons _ _ _ _ _ (by exact ps_if (PW.pt (pw_or (pt_not (pt_val (pe_callB call_isinst rfl mi PyProof.Rows.boot_isinstance (pa_cons (pv 6) (pa_cons (pe_bltn (v := .ty "str") rfl ms PyProof.Rows.boot_str rfl) pa_nil))))) (pw_or1 (pt_cmpR op_ne (pv 6) (pv 5) (nomark _))))) (@pss_one _ _ _ (by exact ps_ret pe_bl)) pss_nil) (@pss_one _ _ _ (by exact ps_if (pt_cmpR (op_neS hr.units) (pe_call Grd hrrd rfl mGrd kGrd bGrd .nil pass0 (pa_cons (pv 5) pa_nil)) (pv 4) (nomark _)) (@pss_one _ _ _ (by exact ps_ret pe_bl)) pss_nil))))))
    (@pss_one _ _ _ (by exact ps_ret pe_bl))))), ?_⟩
  obtain ⟨ns, ec, lc⟩ := cut_ints ns0 none (some 400)
  refine ⟨_, rfl, 400, rfl, a, _, rfl, hS, fun pc hpc => ?_⟩
  rw [ec]
  have s0 := same_new hpc (.lst (ns.map V.int))
  have e0 : upd H pc (.lst (ns.map V.int)) pc = some (.lst (ns.map V.int)) := upd_same
  generalize upd H pc (.lst (ns.map V.int)) = H0 at s0 e0 ⊢
  refine ⟨fun σ H' => H' = H0 ∧ ∃ m : Nat, 0 < m ∧ m ≤ 50 ∧ σ = [some (.ref a), some (.ref pc), some (.int (m : Int)), none, none, none, none], ?_, ?_⟩
  · refine ⟨_, rfl, pc, _, rfl, .inl (SqL.of e0), _, _, rfl, rfl, _, rfl, ite2 (fun h => ?_) (fun h => ⟨rfl, 1, by decide, by decide, rfl⟩)⟩
    have hlen : 0 < ns.length := by
      have := of_decide_eq_true h
      rw [List.length_map] at this
      omega
    have g0 : atI (ns.map V.int) (0 : Int) = some (.int ns[0]) := atI_nat (j := 0) (by rw [List.getElem?_map, List.getElem?_eq_getElem hlen]; rfl)
    have m0 := Int.emod_nonneg ns[0] (show (50 : Int) ≠ 0 by decide)
    have m1 := Int.emod_lt_of_pos ns[0] (show (0 : Int) < 50 by decide)
    refine ⟨_, rfl, pc, _, 0, _, rfl, rfl, SqL.of e0, g0, _, _, rfl, rfl, (show (0 : Int) < 50 by decide), _, _, rfl, rfl, rfl, (1 + ns[0] % 50).toNat, by omega, by omega, ?_⟩
    rw [show (((1 + ns[0] % 50).toNat : Nat) : Int) = 1 + ns[0] % 50 by omega]
    rfl
  rintro σ H' ⟨rfl, m, hm0, hm25, rfl⟩
  refine ⟨_, rfl, pc, _, rfl, .inl (SqL.of e0), _, rfl, _, _, rfl, ⟨by omega, by omega, by omega, by rw [List.length_map]; omega⟩, ?_⟩
  rw [List.length_map]
  refine for_range3 (fun i σ H2 => ∃ o3 o4 o5 o6 : Option V, σ = [some (.ref a), some (.ref pc), some (.int (m : Int)), o3, o4, o5, o6] ∧ Same H' H2) ⟨none, none, none, none, rfl, Same.refl _⟩ ?_ ?_
  · rintro i σ H2 hi ⟨o3, o4, o5, o6, rfl, sm⟩
    obtain ⟨b0, b1⟩ := steps3_lt (by omega) hi
    obtain ⟨st, hst⟩ : ∃ st : Nat, (st : Int) = (i : Int) * (m : Int) := ⟨((i : Int) * (m : Int)).toNat, by omega⟩
    obtain ⟨ns', ec', g1, g2⟩ := cut_group (ns := ns) (st := st) (m := m) (by omega) hm0
    refine ⟨_, rfl, _, rfl, st, by rw [show (0 : Int) + (i : Int) * (m : Int) = (st : Int) by omega], _, rfl, _, rfl, _, _, rfl, rfl, ((st + m : Nat) : Int), by rw [show (0 : Int) + (i : Int) * (m : Int) = (st : Int) by omega]; rfl, pc, _, rfl, SqL.of (sm _ _ e0), fun pg hpg => ?_⟩
    rw [ec']
    refine ⟨pg, ns', rfl, upd_same, g1, by omega, fun v H3 S s3 ik ok => ?_⟩
    obtain ⟨pt, x, rfl, ht, ix⟩ := ik
    refine ⟨pt, _, rfl, SqT.of ht, rfl, _, _, rfl, _, _, rfl, rfl, ?_⟩
    refine ⟨_, rfl, x, S, rfl, ix, ok, fun H4 s4 => ?_⟩
    refine ⟨_, rfl, _, _, _, true, rfl, TyOf.str _, kit_str_str K, _, rfl, iteF ⟨_, rfl, _, rfl, rfl, _, rfl, ?_⟩⟩
    rw [decide_eq_true rfl]
    refine iteF ⟨_, rfl, S, rfl, ok, fun H5 v5 s5 i5 => ⟨_, rfl, S.ks, S.ks, i5, ix.mono (s4.trans s5).tups, say_dep ok, _, rfl, ?_⟩⟩
    rw [decide_eq_true rfl]
    exact iteF ⟨_, _, _, _, rfl, (sm.trans (same_new hpg _)).trans (s3.trans (s4.trans s5))⟩
  · rintro σ H2 ⟨o3, o4, o5, o6, rfl, sm⟩
    exact q _
end
end K11
set_option Elab.async false
set_option linter.all false
set_option maxRecDepth 100000
set_option maxHeartbeats 4000000
namespace K11
open PySem L2
/-! ### the program's top -/
theorem all_mk {l : PySem.W.OpenLaw} {w : World} {K : PySem.W.Frag} {h : Heap} {mg : Str → Option Value} {fa : Addr} (X : K.In h) (G : h.Ns mainGlobals mg) (hfa : mg "law" = some (.ref fa))
    {f1 : Addr} {od1 an1 : Option Addr} {sl1 : Array (Option Value)} {oc1 kV1 dc1 pm1 cd1 ct1 : Value}
    {f2 : Addr} {od2 an2 : Option Addr} {sl2 : Array (Option Value)} {oc2 kV2 dc2 pm2 cd2 ct2 : Value}
    {f3 : Addr} {od3 an3 : Option Addr} {sl3 : Array (Option Value)} {oc3 kV3 dc3 pm3 cd3 ct3 : Value}
    {f4 : Addr} {od4 an4 : Option Addr} {sl4 : Array (Option Value)} {oc4 kV4 dc4 pm4 cd4 ct4 : Value}
    {f5 : Addr} {od5 an5 : Option Addr} {sl5 : Array (Option Value)} {oc5 kV5 dc5 pm5 cd5 ct5 : Value}
    {f6 : Addr} {od6 an6 : Option Addr} {sl6 : Array (Option Value)} {oc6 kV6 dc6 pm6 cd6 ct6 : Value}
    {f7 : Addr} {od7 an7 : Option Addr} {sl7 : Array (Option Value)} {oc7 kV7 dc7 pm7 cd7 ct7 : Value}
    {f8 : Addr} {od8 an8 : Option Addr} {sl8 : Array (Option Value)} {oc8 kV8 dc8 pm8 cd8 ct8 : Value}
    {f9 : Addr} {od9 an9 : Option Addr} {sl9 : Array (Option Value)} {oc9 kV9 dc9 pm9 cd9 ct9 : Value}
    {f10 : Addr} {od10 an10 : Option Addr} {sl10 : Array (Option Value)} {oc10 kV10 dc10 pm10 cd10 ct10 : Value}
    {f11 : Addr} {od11 an11 : Option Addr} {sl11 : Array (Option Value)} {oc11 kV11 dc11 pm11 cd11 ct11 : Value}
    {f12 : Addr} {od12 an12 : Option Addr} {sl12 : Array (Option Value)} {oc12 kV12 dc12 pm12 cd12 ct12 : Value}
    {f13 : Addr} {od13 an13 : Option Addr} {sl13 : Array (Option Value)} {oc13 kV13 dc13 pm13 cd13 ct13 : Value}
    {f14 : Addr} {od14 an14 : Option Addr} {sl14 : Array (Option Value)} {oc14 kV14 dc14 pm14 cd14 ct14 : Value}
    {f15 : Addr} {od15 an15 : Option Addr} {sl15 : Array (Option Value)} {oc15 kV15 dc15 pm15 cd15 ct15 : Value}
    {f16 : Addr} {od16 an16 : Option Addr} {sl16 : Array (Option Value)} {oc16 kV16 dc16 pm16 cd16 ct16 : Value}
    {f17 : Addr} {od17 an17 : Option Addr} {sl17 : Array (Option Value)} {oc17 kV17 dc17 pm17 cd17 ct17 : Value}
    {f18 : Addr} {od18 an18 : Option Addr} {sl18 : Array (Option Value)} {oc18 kV18 dc18 pm18 cd18 ct18 : Value}
    {f19 : Addr} {od19 an19 : Option Addr} {sl19 : Array (Option Value)} {oc19 kV19 dc19 pm19 cd19 ct19 : Value}
    {f20 : Addr} {od20 an20 : Option Addr} {sl20 : Array (Option Value)} {oc20 kV20 dc20 pm20 cd20 ct20 : Value}
    {f21 : Addr} {od21 an21 : Option Addr} {sl21 : Array (Option Value)} {oc21 kV21 dc21 pm21 cd21 ct21 : Value}
    {f22 : Addr} {od22 an22 : Option Addr} {sl22 : Array (Option Value)} {oc22 kV22 dc22 pm22 cd22 ct22 : Value}
    {f23 : Addr} {od23 an23 : Option Addr} {sl23 : Array (Option Value)} {oc23 kV23 dc23 pm23 cd23 ct23 : Value}
    (a1 : PySem.W.nsIn K mainGlobals "is_small" = some (some (.ref f1))) (l1 : K.lookup f1 = some ⟨oc1, od1, .func (PySem.W.fnOf "is_small" "is_small" (defArgs sSmall) (defBody sSmall) (defScope sSmall) .none kV1 dc1 pm1 an1 cd1 ct1), sl1⟩) (c1 : PySem.W.codeIn K cd1 "is_small" = true) (k1 : PySem.W.keepIn K (.ref f1) = true)
    (a2 : PySem.W.nsIn K mainGlobals "all_small" = some (some (.ref f2))) (l2 : K.lookup f2 = some ⟨oc2, od2, .func (PySem.W.fnOf "all_small" "all_small" (defArgs sAll) (defBody sAll) (defScope sAll) .none kV2 dc2 pm2 an2 cd2 ct2), sl2⟩) (c2 : PySem.W.codeIn K cd2 "all_small" = true) (k2 : PySem.W.keepIn K (.ref f2) = true)
    (a3 : PySem.W.nsIn K mainGlobals "is_name" = some (some (.ref f3))) (l3 : K.lookup f3 = some ⟨oc3, od3, .func (PySem.W.fnOf "is_name" "is_name" (defArgs sName) (defBody sName) (defScope sName) .none kV3 dc3 pm3 an3 cd3 ct3), sl3⟩) (c3 : PySem.W.codeIn K cd3 "is_name" = true) (k3 : PySem.W.keepIn K (.ref f3) = true)
    (a4 : PySem.W.nsIn K mainGlobals "show_kind" = some (some (.ref f4))) (l4 : K.lookup f4 = some ⟨oc4, od4, .func (PySem.W.fnOf "show_kind" "show_kind" (defArgs sShow) (defBody sShow) (defScope sShow) .none kV4 dc4 pm4 an4 cd4 ct4), sl4⟩) (c4 : PySem.W.codeIn K cd4 "show_kind" = true) (k4 : PySem.W.keepIn K (.ref f4) = true)
    (a5 : PySem.W.nsIn K mainGlobals "behind" = some (some (.ref f5))) (l5 : K.lookup f5 = some ⟨oc5, od5, .func (PySem.W.fnOf "behind" "behind" (defArgs sBehind) (defBody sBehind) (defScope sBehind) .none kV5 dc5 pm5 an5 cd5 ct5), sl5⟩) (c5 : PySem.W.codeIn K cd5 "behind" = true) (k5 : PySem.W.keepIn K (.ref f5) = true)
    (a6 : PySem.W.nsIn K mainGlobals "word_at" = some (some (.ref f6))) (l6 : K.lookup f6 = some ⟨oc6, od6, .func (PySem.W.fnOf "word_at" "word_at" (defArgs sWordAt) (defBody sWordAt) (defScope sWordAt) .none kV6 dc6 pm6 an6 cd6 ct6), sl6⟩) (c6 : PySem.W.codeIn K cd6 "word_at" = true) (k6 : PySem.W.keepIn K (.ref f6) = true)
    (a7 : PySem.W.nsIn K mainGlobals "name_at" = some (some (.ref f7))) (l7 : K.lookup f7 = some ⟨oc7, od7, .func (PySem.W.fnOf "name_at" "name_at" (defArgs sNameAt) (defBody sNameAt) (defScope sNameAt) .none kV7 dc7 pm7 an7 cd7 ct7), sl7⟩) (c7 : PySem.W.codeIn K cd7 "name_at" = true) (k7 : PySem.W.keepIn K (.ref f7) = true)
    (a8 : PySem.W.nsIn K mainGlobals "kind_word_at" = some (some (.ref f8))) (l8 : K.lookup f8 = some ⟨oc8, od8, .func (PySem.W.fnOf "kind_word_at" "kind_word_at" (defArgs sKWordAt) (defBody sKWordAt) (defScope sKWordAt) .none kV8 dc8 pm8 an8 cd8 ct8), sl8⟩) (c8 : PySem.W.codeIn K cd8 "kind_word_at" = true) (k8 : PySem.W.keepIn K (.ref f8) = true)
    (a9 : PySem.W.nsIn K mainGlobals "kind_at" = some (some (.ref f9))) (l9 : K.lookup f9 = some ⟨oc9, od9, .func (PySem.W.fnOf "kind_at" "kind_at" (defArgs sKindAt) (defBody sKindAt) (defScope sKindAt) .none kV9 dc9 pm9 an9 cd9 ct9), sl9⟩) (c9 : PySem.W.codeIn K cd9 "kind_at" = true) (k9 : PySem.W.keepIn K (.ref f9) = true)
    (a10 : PySem.W.nsIn K mainGlobals "read_kind" = some (some (.ref f10))) (l10 : K.lookup f10 = some ⟨oc10, od10, .func (PySem.W.fnOf "read_kind" "read_kind" (defArgs sRead) (defBody sRead) (defScope sRead) .none kV10 dc10 pm10 an10 cd10 ct10), sl10⟩) (c10 : PySem.W.codeIn K cd10 "read_kind" = true) (k10 : PySem.W.keepIn K (.ref f10) = true)
    (a11 : PySem.W.nsIn K mainGlobals "_law_pick" = some (some (.ref f11))) (l11 : K.lookup f11 = some ⟨oc11, od11, .func (PySem.W.fnOf "_law_pick" "_law_pick" (defArgs sPick) (defBody sPick) (defScope sPick) .none kV11 dc11 pm11 an11 cd11 ct11), sl11⟩) (c11 : PySem.W.codeIn K cd11 "_law_pick" = true) (k11 : PySem.W.keepIn K (.ref f11) = true)
    (a12 : PySem.W.nsIn K mainGlobals "_law_name" = some (some (.ref f12))) (l12 : K.lookup f12 = some ⟨oc12, od12, .func (PySem.W.fnOf "_law_name" "_law_name" (defArgs sLName) (defBody sLName) (defScope sLName) .none kV12 dc12 pm12 an12 cd12 ct12), sl12⟩) (c12 : PySem.W.codeIn K cd12 "_law_name" = true) (k12 : PySem.W.keepIn K (.ref f12) = true)
    (a13 : PySem.W.nsIn K mainGlobals "is_thing" = some (some (.ref f13))) (l13 : K.lookup f13 = some ⟨oc13, od13, .func (PySem.W.fnOf "is_thing" "is_thing" (defArgs sThing) (defBody sThing) (defScope sThing) .none kV13 dc13 pm13 an13 cd13 ct13), sl13⟩) (c13 : PySem.W.codeIn K cd13 "is_thing" = true) (k13 : PySem.W.keepIn K (.ref f13) = true)
    (a14 : PySem.W.nsIn K mainGlobals "show" = some (some (.ref f14))) (l14 : K.lookup f14 = some ⟨oc14, od14, .func (PySem.W.fnOf "show" "show" (defArgs sShowS) (defBody sShowS) (defScope sShowS) .none kV14 dc14 pm14 an14 cd14 ct14), sl14⟩) (c14 : PySem.W.codeIn K cd14 "show" = true) (k14 : PySem.W.keepIn K (.ref f14) = true)
    (a15 : PySem.W.nsIn K mainGlobals "read_tie" = some (some (.ref f15))) (l15 : K.lookup f15 = some ⟨oc15, od15, .func (PySem.W.fnOf "read_tie" "read_tie" (defArgs sReadTie) (defBody sReadTie) (defScope sReadTie) .none kV15 dc15 pm15 an15 cd15 ct15), sl15⟩) (c15 : PySem.W.codeIn K cd15 "read_tie" = true) (k15 : PySem.W.keepIn K (.ref f15) = true)
    (a16 : PySem.W.nsIn K mainGlobals "read_of_kinds" = some (some (.ref f16))) (l16 : K.lookup f16 = some ⟨oc16, od16, .func (PySem.W.fnOf "read_of_kinds" "read_of_kinds" (defArgs sRKinds) (defBody sRKinds) (defScope sRKinds) .none kV16 dc16 pm16 an16 cd16 ct16), sl16⟩) (c16 : PySem.W.codeIn K cd16 "read_of_kinds" = true) (k16 : PySem.W.keepIn K (.ref f16) = true)
    (a17 : PySem.W.nsIn K mainGlobals "read_of_thing" = some (some (.ref f17))) (l17 : K.lookup f17 = some ⟨oc17, od17, .func (PySem.W.fnOf "read_of_thing" "read_of_thing" (defArgs sRThing) (defBody sRThing) (defScope sRThing) .none kV17 dc17 pm17 an17 cd17 ct17), sl17⟩) (c17 : PySem.W.codeIn K cd17 "read_of_thing" = true) (k17 : PySem.W.keepIn K (.ref f17) = true)
    (a18 : PySem.W.nsIn K mainGlobals "read_of_ties" = some (some (.ref f18))) (l18 : K.lookup f18 = some ⟨oc18, od18, .func (PySem.W.fnOf "read_of_ties" "read_of_ties" (defArgs sRTies) (defBody sRTies) (defScope sRTies) .none kV18 dc18 pm18 an18 cd18 ct18), sl18⟩) (c18 : PySem.W.codeIn K cd18 "read_of_ties" = true) (k18 : PySem.W.keepIn K (.ref f18) = true)
    (a19 : PySem.W.nsIn K mainGlobals "read" = some (some (.ref f19))) (l19 : K.lookup f19 = some ⟨oc19, od19, .func (PySem.W.fnOf "read" "read" (defArgs sReadS) (defBody sReadS) (defScope sReadS) .none kV19 dc19 pm19 an19 cd19 ct19), sl19⟩) (c19 : PySem.W.codeIn K cd19 "read" = true) (k19 : PySem.W.keepIn K (.ref f19) = true)
    (a20 : PySem.W.nsIn K mainGlobals "_law_thing" = some (some (.ref f20))) (l20 : K.lookup f20 = some ⟨oc20, od20, .func (PySem.W.fnOf "_law_thing" "_law_thing" (defArgs sLThing) (defBody sLThing) (defScope sLThing) .none kV20 dc20 pm20 an20 cd20 ct20), sl20⟩) (c20 : PySem.W.codeIn K cd20 "_law_thing" = true) (k20 : PySem.W.keepIn K (.ref f20) = true)
    (a21 : PySem.W.nsIn K mainGlobals "_law_kind" = some (some (.ref f21))) (l21 : K.lookup f21 = some ⟨oc21, od21, .func (PySem.W.fnOf "_law_kind" "_law_kind" (defArgs sLKind) (defBody sLKind) (defScope sLKind) .none kV21 dc21 pm21 an21 cd21 ct21), sl21⟩) (c21 : PySem.W.codeIn K cd21 "_law_kind" = true) (k21 : PySem.W.keepIn K (.ref f21) = true)
    (a22 : PySem.W.nsIn K mainGlobals "_law_saying" = some (some (.ref f22))) (l22 : K.lookup f22 = some ⟨oc22, od22, .func (PySem.W.fnOf "_law_saying" "_law_saying" (defArgs sLSaying) (defBody sLSaying) (defScope sLSaying) .none kV22 dc22 pm22 an22 cd22 ct22), sl22⟩) (c22 : PySem.W.codeIn K cd22 "_law_saying" = true) (k22 : PySem.W.keepIn K (.ref f22) = true)
    (a23 : PySem.W.nsIn K mainGlobals "law" = some (some (.ref f23))) (l23 : K.lookup f23 = some ⟨oc23, od23, .func (PySem.W.fnOf "law" "law" (defArgs sLaw) (defBody sLaw) (defScope sLaw) .none kV23 dc23 pm23 an23 cd23 ct23), sl23⟩) (c23 : PySem.W.codeIn K cd23 "law" = true) (k23 : PySem.W.keepIn K (.ref f23) = true)
    {it1 : Tok} (ia1 : PySem.W.nsIn K mainGlobals "MOST_SIGNS" = some (some (.int 12 it1)))
    {it2 : Tok} (ia2 : PySem.W.nsIn K mainGlobals "MOST_TUPLES" = some (some (.int 24 it2)))
    {ta1 : Addr} {tod1 : Option Addr} {tn1 : Nat} {tsl1 : Array (Option Value)} {tt1_0 tt1_1 : Tok}
    (sa1 : PySem.W.nsIn K mainGlobals "WHOLES" = some (some (.ref ta1))) (sb1 : K.lookup ta1 = some ⟨.type "tuple", tod1, .seq #[.str "anything" tt1_0, .str "nothing" tt1_1] tn1, tsl1⟩)
    {ta2 : Addr} {tod2 : Option Addr} {tn2 : Nat} {tsl2 : Array (Option Value)} {tt2_0 tt2_1 tt2_2 tt2_3 tt2_4 tt2_5 tt2_6 tt2_7 tt2_8 tt2_9 tt2_10 : Tok}
    (sa2 : PySem.W.nsIn K mainGlobals "TAKEN" = some (some (.ref ta2))) (sb2 : K.lookup ta2 = some ⟨.type "tuple", tod2, .seq #[.str "anything" tt2_0, .str "nothing" tt2_1, .str "every" tt2_2, .str "no" tt2_3, .str "is" tt2_4, .str "tie" tt2_5, .str "within" tt2_6, .str "then" tt2_7, .str "makes" tt2_8, .str "both" tt2_9, .str "some" tt2_10] tn2, tsl2⟩)
    (z1 : PySem.W.nsIn K mainGlobals "len" = some none)
    (z2 : PySem.W.nsIn K mainGlobals "all" = some none)
    (z3 : PySem.W.nsIn K mainGlobals "range" = some none)
    (z4 : PySem.W.nsIn K mainGlobals "isinstance" = some none)
    (z5 : PySem.W.nsIn K mainGlobals "str" = some none)
    (z6 : PySem.W.nsIn K mainGlobals "tuple" = some none)
    (z7 : PySem.W.nsIn K mainGlobals "enumerate" = some none)
    : ∃ fd : FuncData, (∀ (s : Shared) (v : Value), BindsTo s fd ⟨[v], []⟩ [("_law_script", v)]) ∧ ∀ base : Heap, K.In base → base.Ns mainGlobals mg → FnOk l.prog w K mg base CX0 34 fa fd ["_law_script"] (spLaw K) := by
  have e := hfa.symm.trans (PySem.W.mg_of X G a23)
  cases e
  have F1 := fun_mk (st := sSmall) l1 c1 k1
  have b1 := F1.binds (ps := ["sign"]) fun _ _ _ _ _ _ us hl => match us, hl with | [_], _ => rfl
  have m1 := PySem.W.mg_of X G a1
  have F2 := fun_mk (st := sAll) l2 c2 k2
  have b2 := F2.binds (ps := ["text"]) fun _ _ _ _ _ _ us hl => match us, hl with | [_], _ => rfl
  have m2 := PySem.W.mg_of X G a2
  have F3 := fun_mk (st := sName) l3 c3 k3
  have b3 := F3.binds (ps := ["text"]) fun _ _ _ _ _ _ us hl => match us, hl with | [_], _ => rfl
  have m3 := PySem.W.mg_of X G a3
  have F4 := fun_mk (st := sShow) l4 c4 k4
  have b4 := F4.binds (ps := ["kind"]) fun _ _ _ _ _ _ us hl => match us, hl with | [_], _ => rfl
  have m4 := PySem.W.mg_of X G a4
  have F5 := fun_mk (st := sBehind) l5 c5 k5
  have b5 := F5.binds (ps := ["text", "at", "sign"]) fun _ _ _ _ _ _ us hl => match us, hl with | [_, _, _], _ => rfl
  have m5 := PySem.W.mg_of X G a5
  have F6 := fun_mk (st := sWordAt) l6 c6 k6
  have b6 := F6.binds (ps := ["text", "at"]) fun _ _ _ _ _ _ us hl => match us, hl with | [_, _], _ => rfl
  have m6 := PySem.W.mg_of X G a6
  have F7 := fun_mk (st := sNameAt) l7 c7 k7
  have b7 := F7.binds (ps := ["text", "at"]) fun _ _ _ _ _ _ us hl => match us, hl with | [_, _], _ => rfl
  have m7 := PySem.W.mg_of X G a7
  have F8 := fun_mk (st := sKWordAt) l8 c8 k8
  have b8 := F8.binds (ps := ["text", "at"]) fun _ _ _ _ _ _ us hl => match us, hl with | [_, _], _ => rfl
  have m8 := PySem.W.mg_of X G a8
  have F9 := fun_mk (st := sKindAt) l9 c9 k9
  have b9 := F9.binds (ps := ["text", "at"]) fun _ _ _ _ _ _ us hl => match us, hl with | [_, _], _ => rfl
  have m9 := PySem.W.mg_of X G a9
  have F10 := fun_mk (st := sRead) l10 c10 k10
  have b10 := F10.binds (ps := ["text"]) fun _ _ _ _ _ _ us hl => match us, hl with | [_], _ => rfl
  have m10 := PySem.W.mg_of X G a10
  have F11 := fun_mk (st := sPick) l11 c11 k11
  have b11 := F11.binds (ps := ["_law_cell", "_law_turn", "_law_many"]) fun _ _ _ _ _ _ us hl => match us, hl with | [_, _, _], _ => rfl
  have m11 := PySem.W.mg_of X G a11
  have F12 := fun_mk (st := sLName) l12 c12 k12
  have b12 := F12.binds (ps := ["_law_cell"]) fun _ _ _ _ _ _ us hl => match us, hl with | [_], _ => rfl
  have m12 := PySem.W.mg_of X G a12
  have F13 := fun_mk (st := sThing) l13 c13 k13
  have b13 := F13.binds (ps := ["text"]) fun _ _ _ _ _ _ us hl => match us, hl with | [_], _ => rfl
  have m13 := PySem.W.mg_of X G a13
  have F14 := fun_mk (st := sShowS) l14 c14 k14
  have b14 := F14.binds (ps := ["saying"]) fun _ _ _ _ _ _ us hl => match us, hl with | [_], _ => rfl
  have m14 := PySem.W.mg_of X G a14
  have F15 := fun_mk (st := sReadTie) l15 c15 k15
  have b15 := F15.binds (ps := ["word"]) fun _ _ _ _ _ _ us hl => match us, hl with | [_], _ => rfl
  have m15 := PySem.W.mg_of X G a15
  have F16 := fun_mk (st := sRKinds) l16 c16 k16
  have b16 := F16.binds (ps := ["form", "rest"]) fun _ _ _ _ _ _ us hl => match us, hl with | [_, _], _ => rfl
  have m16 := PySem.W.mg_of X G a16
  have F17 := fun_mk (st := sRThing) l17 c17 k17
  have b17 := F17.binds (ps := ["thing", "rest"]) fun _ _ _ _ _ _ us hl => match us, hl with | [_, _], _ => rfl
  have m17 := PySem.W.mg_of X G a17
  have F18 := fun_mk (st := sRTies) l18 c18 k18
  have b18 := F18.binds (ps := ["rest"]) fun _ _ _ _ _ _ us hl => match us, hl with | [_], _ => rfl
  have m18 := PySem.W.mg_of X G a18
  have F19 := fun_mk (st := sReadS) l19 c19 k19
  have b19 := F19.binds (ps := ["text"]) fun _ _ _ _ _ _ us hl => match us, hl with | [_], _ => rfl
  have m19 := PySem.W.mg_of X G a19
  have F20 := fun_mk (st := sLThing) l20 c20 k20
  have b20 := F20.binds (ps := ["_law_cell"]) fun _ _ _ _ _ _ us hl => match us, hl with | [_], _ => rfl
  have m20 := PySem.W.mg_of X G a20
  have F21 := fun_mk (st := sLKind) l21 c21 k21
  have b21 := F21.binds (ps := ["_law_group"]) fun _ _ _ _ _ _ us hl => match us, hl with | [_], _ => rfl
  have m21 := PySem.W.mg_of X G a21
  have F22 := fun_mk (st := sLSaying) l22 c22 k22
  have b22 := F22.binds (ps := ["_law_group"]) fun _ _ _ _ _ _ us hl => match us, hl with | [_], _ => rfl
  have m22 := PySem.W.mg_of X G a22
  have F23 := fun_mk (st := sLaw) l23 c23 k23
  have m23 := PySem.W.mg_of X G a23
  have mi1 := PySem.W.mg_of X G ia1
  have mi2 := PySem.W.mg_of X G ia2
  have ms1 := PySem.W.mg_of X G sa1
  have ms2 := PySem.W.mg_of X G sa2
  have n1 := PySem.W.mg_none_of X G z1
  have n2 := PySem.W.mg_none_of X G z2
  have n3 := PySem.W.mg_none_of X G z3
  have n4 := PySem.W.mg_none_of X G z4
  have n5 := PySem.W.mg_none_of X G z5
  have n6 := PySem.W.mg_none_of X G z6
  have n7 := PySem.W.mg_none_of X G z7
  refine ⟨PySem.W.fnOf "law" "law" (defArgs sLaw) (defBody sLaw) (defScope sLaw) .none kV23 dc23 pm23 an23 cd23 ct23, fun s v => .of_eq rfl, fun base _ _ => ?_⟩
  have hW : ∀ H, SqT K H ta1 [.str "anything", .str "nothing"] := fun H => tup_of sb1 (by show 2 ≤ sizeLine; exact small2 (by decide)) (.cons ⟨_, rfl⟩ (.cons ⟨_, rfl⟩ .nil))
  have hT : ∀ H, SqT K H ta2 (words.map V.str) := fun H => tup_of sb2 (by show 11 ≤ sizeLine; exact small2 (by decide)) (.cons ⟨_, rfl⟩ (.cons ⟨_, rfl⟩ (.cons ⟨_, rfl⟩ (.cons ⟨_, rfl⟩ (.cons ⟨_, rfl⟩ (.cons ⟨_, rfl⟩ (.cons ⟨_, rfl⟩ (.cons ⟨_, rfl⟩ (.cons ⟨_, rfl⟩ (.cons ⟨_, rfl⟩ (.cons ⟨_, rfl⟩ .nil)))))))))))
  have G1 := ok_small (P := l.prog) (w := w) (mg := mg) (base := base) F1
  have G2 := ok_all F2 G1 b1 k1 m1 n2
  have G3 := ok_name F3 G2 b2 k2 m2 n1 mi1 ms2 hT
  have G4 := show_all (P := l.prog) (w := w) (mg := mg) (base := base) F4 b4 m4 n4 n5 25
  have G5 := ok_behind (P := l.prog) (w := w) (mg := mg) (base := base) F5
  have G6 := ok_wordAt F6 G1 b1 k1 m1 n1
  have G7 := ok_nameAt F7 G6 b6 k6 m6 G3 b3 k3 m3
  have G8 := ok_kWordAt F8 G6 b6 k6 m6 G7 b7 k7 m7 ms1 hW
  have G9 := kindAt_all F9 b9 m9 G6 b6 k6 m6 G7 b7 k7 m7 G8 b8 k8 m8 G5 b5 k5 m5 25
  have G10 := ok_read F10 G9 b9 k9 m9 n1 mi2
  have G11 := ok_pick (P := l.prog) (w := w) (mg := mg) (base := base) F11
  have G12 := ok_lname F12 G11 b11 k11 m11 n3
  have G13 := ok_thing F13 G2 b2 k2 m2 n1 mi1
  have G14 := ok_showS F14 G4 b4 k4 m4
  have G15 := ok_readTie F15 G3 b3 k3 m3
  have G16 := ok_rkinds F16 G10 b10 k10 m10
  have G17 := ok_rthing F17 n1 G10 b10 k10 m10 G13 b13 k13 m13 G15 b15 k15 m15
  have G18 := ok_rties F18 n1 n6 G15 b15 k15 m15
  have G19 := ok_readS F19 G16 b16 k16 m16 G17 b17 k17 m17 G18 b18 k18 m18 G13 b13 k13 m13
  have G20 := ok_lthing F20 G12 b12 k12 m12 G11 b11 k11 m11
  have G21 := ok_lkind F21 n7 G12 b12 k12 m12 G11 b11 k11 m11
  have G22 := ok_lsaying F22 n1 n3 G21 b21 k21 m21 G20 b20 k20 m20 G12 b12 k12 m12
  exact ok_law F23 n1 n3 n4 n5 G22 b22 k22 m22 G14 b14 k14 m14 G19 b19 k19 m19
theorem walk {l : PySem.W.OpenLaw} {q : Program} {loose : List Str} {XP : (Str → Option Value) → Heap → Prop} {YP : World → Heap → Prop} {d : DefRec} {K : Params → PySem.W.Frag} (hn : l.most = some 63) (hdf : d.params.defaults = [])
    (hY : ∀ (w : World) (h : Heap), YP w h → (K w.params).In h)
    (F : ∀ (w : World) (mg : Str → Option Value) (fa : Addr) (h : Heap), (K w.params).In h → h.Ns mainGlobals mg → mg d.name = some (.ref fa) →
      ∃ fd : FuncData, (∀ (s : Shared) (u : Value), BindsTo s fd ⟨[u], []⟩ [("_law_script", u)]) ∧ ∀ base : Heap, (K w.params).In base → base.Ns mainGlobals mg → FnOk l.prog w (K w.params) mg base CX0 34 fa fd ["_law_script"] (spLaw (K w.params))) :
    PySem.W.WalkO q loose XP YP l.row.toRowW d [] (fun f vs => PySem.call f vs) :=
  L2.walk_of (n := 63) (k := 34) (x := "_law_script") (CX := fun _ => CX0) (sp := fun w => spLaw (K w.params)) hn (by decide) hdf ⟨rfl, by decide, by decide⟩ hY F (fun _ _ a ns hl _ hS => ⟨a, ns, rfl, hS, hl, fun _ => rfl⟩) fun _ _ _ _ _ z => z
end K11
open PySem PySem.W PyProof.Rows
set_option maxRecDepth 100000 in
set_option maxHeartbeats 0 in
theorem PySem.Challenge.cw_kinwords_k11_sayings_written_holds : PySem.Challenge.rw_kinwords_k11_sayings_written.Holds := by
  w_on; o_law; k_head; (case hw => w_witness2)
  k_fill
  refine K11.walk (l := PySem.Challenge.rw_kinwords_k11_sayings_written) rfl rfl (fun w h Y => PySem.W.kIn_of Y) ?F
  case F =>
    intro w mg fa h KX G hmg
    refine' K11.all_mk KX G hmg ?a1 ?l1 ?c1 ?k1 ?a2 ?l2 ?c2 ?k2 ?a3 ?l3 ?c3 ?k3 ?a4 ?l4 ?c4 ?k4 ?a5 ?l5 ?c5 ?k5 ?a6 ?l6 ?c6 ?k6 ?a7 ?l7 ?c7 ?k7 ?a8 ?l8 ?c8 ?k8 ?a9 ?l9 ?c9 ?k9 ?a10 ?l10 ?c10 ?k10 ?a11 ?l11 ?c11 ?k11 ?a12 ?l12 ?c12 ?k12 ?a13 ?l13 ?c13 ?k13 ?a14 ?l14 ?c14 ?k14 ?a15 ?l15 ?c15 ?k15 ?a16 ?l16 ?c16 ?k16 ?a17 ?l17 ?c17 ?k17 ?a18 ?l18 ?c18 ?k18 ?a19 ?l19 ?c19 ?k19 ?a20 ?l20 ?c20 ?k20 ?a21 ?l21 ?c21 ?k21 ?a22 ?l22 ?c22 ?k22 ?a23 ?l23 ?c23 ?k23 ?ia1 ?ia2 ?sa1 ?sb1 ?sa2 ?sb2 ?z1 ?z2 ?z3 ?z4 ?z5 ?z6 ?z7
    (case a1 => k_is)
    (case l1 => k_is)
    (case c1 => k_is)
    (case k1 => k_is)
    (case a2 => k_is)
    (case l2 => k_is)
    (case c2 => k_is)
    (case k2 => k_is)
    (case a3 => k_is)
    (case l3 => k_is)
    (case c3 => k_is)
    (case k3 => k_is)
    (case a4 => k_is)
    (case l4 => k_is)
    (case c4 => k_is)
    (case k4 => k_is)
    (case a5 => k_is)
    (case l5 => k_is)
    (case c5 => k_is)
    (case k5 => k_is)
    (case a6 => k_is)
    (case l6 => k_is)
    (case c6 => k_is)
    (case k6 => k_is)
    (case a7 => k_is)
    (case l7 => k_is)
    (case c7 => k_is)
    (case k7 => k_is)
    (case a8 => k_is)
    (case l8 => k_is)
    (case c8 => k_is)
    (case k8 => k_is)
    (case a9 => k_is)
    (case l9 => k_is)
    (case c9 => k_is)
    (case k9 => k_is)
    (case a10 => k_is)
    (case l10 => k_is)
    (case c10 => k_is)
    (case k10 => k_is)
    (case a11 => k_is)
    (case l11 => k_is)
    (case c11 => k_is)
    (case k11 => k_is)
    (case a12 => k_is)
    (case l12 => k_is)
    (case c12 => k_is)
    (case k12 => k_is)
    (case a13 => k_is)
    (case l13 => k_is)
    (case c13 => k_is)
    (case k13 => k_is)
    (case a14 => k_is)
    (case l14 => k_is)
    (case c14 => k_is)
    (case k14 => k_is)
    (case a15 => k_is)
    (case l15 => k_is)
    (case c15 => k_is)
    (case k15 => k_is)
    (case a16 => k_is)
    (case l16 => k_is)
    (case c16 => k_is)
    (case k16 => k_is)
    (case a17 => k_is)
    (case l17 => k_is)
    (case c17 => k_is)
    (case k17 => k_is)
    (case a18 => k_is)
    (case l18 => k_is)
    (case c18 => k_is)
    (case k18 => k_is)
    (case a19 => k_is)
    (case l19 => k_is)
    (case c19 => k_is)
    (case k19 => k_is)
    (case a20 => k_is)
    (case l20 => k_is)
    (case c20 => k_is)
    (case k20 => k_is)
    (case a21 => k_is)
    (case l21 => k_is)
    (case c21 => k_is)
    (case k21 => k_is)
    (case a22 => k_is)
    (case l22 => k_is)
    (case c22 => k_is)
    (case k22 => k_is)
    (case a23 => k_is)
    (case l23 => k_is)
    (case c23 => k_is)
    (case k23 => k_is)
    (case ia1 => k_is)
    (case ia2 => k_is)
    (case sa1 => k_is)
    (case sb1 => k_is)
    (case sa2 => k_is)
    (case sb2 => k_is)
    (case z1 => k_is)
    (case z2 => k_is)
    (case z3 => k_is)
    (case z4 => k_is)
    (case z5 => k_is)
    (case z6 => k_is)
    (case z7 => k_is)
