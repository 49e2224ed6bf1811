import PyProof.Rows.All
import Wide.All
import OpenK.AllK
import Wide.FinOn
import Lean
import PyProof.EqAt
import PyProof.EqKinds
import PyProof.TupleCall
import PyProof.NeKinds
import PyProof.Rows.FStr
import PyProof.Rows.Range3
import PyProof.StrLawsIn
import PyProof.WalksEnum
import PyProof.EnumMake
import PyProof.Rows.EnumRows
import PyProof.Rows.StrNews2
import PyProof.StrLawsFirst
import PyProof.StrLawsChain
import PyProof.StrLawsTight
import PyProof.StrBlockH
import KE.KEqDict
import PyProof.DictWalks
import PyProof.ListRange
import PyProof.FactsAll.subtypes_5
import PyProof.Rows.SetFrom
import KE.KDictSum
import PyProof.TupleKey
import KE.KSortedM
import PySem.Challenge.RW_kinwords_k08_lists_of_sayings
set_option Elab.async false
set_option linter.all false
set_option maxRecDepth 100000
namespace L2
open PySem PySem.Spec PyProof.Rows
noncomputable abbrev Key := Sum Int Str
noncomputable def keyIs : Key → Value → Bool
  | .inl k, v => Value.isInt k v
  | .inr x, v => Value.isStrOf x v
noncomputable def keyH (w : World) : Key → Int
  | .inl k => hashInt k
  | .inr x => hashStr w x
theorem keyIs_shape : ∀ {k : Key} {v : Value}, keyIs k v = true → (∃ i t, k = Sum.inl i ∧ v = Value.int i t) ∨ (∃ x t, k = Sum.inr x ∧ v = Value.str x t)
  | .inl i, v, h => by
    obtain ⟨t, e⟩ := Value.isInt_shape (k := i) (v := v) h
    exact .inl ⟨i, t, rfl, e⟩
  | .inr x, v, h => by
    obtain ⟨t, e⟩ := Value.isStrOf_shape (x := x) (v := v) h
    exact .inr ⟨x, t, rfl, e⟩
theorem keyIs_int (i : Int) (t : Tok) : keyIs (.inl i) (.int i t) = true := by simp [keyIs, Value.isInt]
theorem keyIs_str (x : Str) (t : Tok) : keyIs (.inr x) (.str x t) = true := by simp [keyIs, Value.isStrOf]
theorem key_ll (a b : Int) : decide ((Sum.inl a : Key) = Sum.inl b) = (a == b) := by
  by_cases e : a = b
  · subst e; simp
  · have h : ¬ (Sum.inl a : Key) = Sum.inl b := fun q => e (Sum.inl.inj q)
    rw [decide_eq_false h]
    exact (beq_eq_false_iff_ne.mpr e).symm
theorem key_rr (a b : Str) : decide ((Sum.inr a : Key) = Sum.inr b) = decide (a = b) := by
  by_cases e : a = b
  · subst e; simp
  · have h : ¬ (Sum.inr a : Key) = Sum.inr b := fun q => e (Sum.inr.inj q)
    rw [decide_eq_false h, decide_eq_false e]
theorem key_lr (a : Int) (b : Str) : decide ((Sum.inl a : Key) = Sum.inr b) = false := decide_eq_false (fun q => nomatch q)
theorem key_rl (a : Str) (b : Int) : decide ((Sum.inr a : Key) = Sum.inl b) = false := decide_eq_false (fun q => nomatch q)
noncomputable def mixKind (prog : Program) (w : World) : PySem.KeyKind prog w Key where
  is := keyIs
  hash := keyH w
  inj := fun v a b ha hb => by
    rcases keyIs_shape ha with ⟨i, t, rfl, rfl⟩ | ⟨x, t, rfl, rfl⟩
    · rcases keyIs_shape hb with ⟨j, u, rfl, e⟩ | ⟨y, u, rfl, e⟩
      · injection e with e1 _; rw [e1]
      · exact nomatch e
    · rcases keyIs_shape hb with ⟨j, u, rfl, e⟩ | ⟨y, u, rfl, e⟩
      · exact nomatch e
      · injection e with e1 _; rw [e1]
  byValue := fun k v h => by
    rcases keyIs_shape h with ⟨i, t, rfl, rfl⟩ | ⟨x, t, rfl, rfl⟩ <;> rfl
  pyHash := fun hv h => by
    rcases keyIs_shape hv with ⟨i, t, rfl, rfl⟩ | ⟨x, t, rfl, rfl⟩
    · exact wpAny_pyHash_int h
    · exact wpAny_pyHash_str h
  eqBool := fun hu hv h => by
    rcases keyIs_shape hu with ⟨i, t, rfl, rfl⟩ | ⟨x, t, rfl, rfl⟩
    · rcases keyIs_shape hv with ⟨j, u, rfl, rfl⟩ | ⟨y, u, rfl, rfl⟩
      · rw [key_ll] at h; exact wpAny_eqBool_int h
      · rw [key_lr] at h; exact SeqAt.EqAt.int_str i t y u _ _ _ _ h
    · rcases keyIs_shape hv with ⟨j, u, rfl, rfl⟩ | ⟨y, u, rfl, rfl⟩
      · rw [key_rl] at h; exact SeqAt.EqAt.str_int x t j u _ _ _ _ h
      · rw [key_rr] at h; exact wpAny_eqBool_str h
  «strs» := fun k x t v h => by
    rcases keyIs_shape h with ⟨i, u, rfl, e⟩ | ⟨y, u, rfl, e⟩
    · exact nomatch e
    · injection e with e1 _
      subst e1
      cases v <;> rfl
theorem mixKind_is (prog : Program) (w : World) (k : Key) (v : Value) : (mixKind prog w).is k v = keyIs k v := rfl
theorem mixKind_int (prog : Program) (w : World) (i : Int) (t : Tok) : (mixKind prog w).is (.inl i) (.int i t) = true := keyIs_int i t
theorem mixKind_str (prog : Program) (w : World) (x : Str) (t : Tok) : (mixKind prog w).is (.inr x) (.str x t) = true := keyIs_str x t
end L2
namespace L2
open PySem PySem.Spec PyProof.Rows
inductive V where
  | non | bl (b : Bool) | int (i : Int) | str (x : Str) | byt (b : Array UInt8) | flt (b : UInt64) | ref (a : Addr) | ty (n : String)
  deriving DecidableEq
noncomputable def RelV : V → Value → Prop
  | .non, u => u = Value.none
  | .bl b, u => u = Value.bool b
  | .int i, u => ∃ t, u = Value.int i t
  | .str x, u => ∃ t, u = Value.str x t
  | .byt b, u => ∃ t, u = Value.bytes b t
  | .flt b, u => ∃ t, u = Value.float b t
  | .ref a, u => u = Value.ref a
  | .ty n, u => u = Value.type n
noncomputable abbrev Vals : List V → List Value → Prop := Paired RelV
theorem Vals.length {xs : List V} {us : List Value} (r : Vals xs us) : xs.length = us.length := Paired.length r
theorem Vals.get : ∀ {xs : List V} {us : List Value} {i : Nat} {x : V}, Vals xs us → xs[i]? = some x → ∃ u, us[i]? = some u ∧ RelV x u
  | _, _, _, _, .nil, e => by simp at e
  | _, _, 0, _, .cons r _, e => by simp at e; subst e; exact ⟨_, rfl, r⟩
  | _, _, i + 1, x, .cons _ t, e => by
    obtain ⟨u, h1, h2⟩ := Vals.get (i := i) (x := x) t (by simpa using e)
    exact ⟨u, by simpa using h1, h2⟩
theorem Vals.set {x : V} {u : Value} (r : RelV x u) : ∀ {xs : List V} {us : List Value} (i : Nat), Vals xs us → Vals (xs.set i x) (us.set i u)
  | _, _, _, .nil => .nil
  | _, _, 0, .cons _ t => .cons r t
  | _, _, i + 1, .cons q t => .cons q (Vals.set r i t)
theorem Vals.append : ∀ {xs ys : List V} {us ws : List Value}, Vals xs us → Vals ys ws → Vals (xs ++ ys) (us ++ ws)
  | _, _, _, _, .nil, s => s
  | _, _, _, _, .cons r t, s => .cons r (Vals.append t s)
theorem Vals.take : ∀ {xs : List V} {us : List Value} (n : Nat), Vals xs us → Vals (xs.take n) (us.take n)
  | _, _, 0, _ => .nil
  | _, _, _ + 1, .nil => .nil
  | _, _, n + 1, .cons r t => .cons r (Vals.take n t)
theorem Vals.drop : ∀ {xs : List V} {us : List Value} (n : Nat), Vals xs us → Vals (xs.drop n) (us.drop n)
  | _, _, 0, r => r
  | _, _, _ + 1, .nil => .nil
  | _, _, n + 1, .cons _ t => Vals.drop n t
noncomputable def RelO : Option V → Option Value → Prop
  | some v, some u => RelV v u
  | none, none => True
  | _, _ => False
noncomputable def KV {κ : Type} : List (κ × V) → List (κ × Value) → Prop := Paired fun (p : κ × V) (q : κ × Value) => p.1 = q.1 ∧ RelV p.2 q.2
noncomputable def kV : Key → V
  | .inl i => .int i
  | .inr x => .str x
inductive HO where
  /-- a list -/
  | lst (xs : List V)
  /-- a tuple (never changes) -/
  | tup (xs : List V)
  /-- a dict whose keys are ints and texts; one whose keys are tuples of ints and texts (the empty one is both) -/
  | dK (kvs : List (Key × V)) | dT (kvs : List (List Key × V))
  /-- a set of ints: its members, its size -/
  | set (S : Int → Bool) (n : Nat)
  /-- an instance of the class at C, its dict at dx, its attributes -/
  | ins (C dx : Addr) (fs : List (Str × V))
  /-- the dict of the instance at x -/
  | own (x : Addr)
  /-- the dict of an exception -/
  | xd (fs : List (Str × V))
  /-- a bound method, f of x -/
  | met (f x : Addr)
  /-- a range object lo, lo + 1, .. below hi -/
  | rng (lo hi : Int)
  /-- a thing that is known to the object (the script; a dict while a loop walks it): read, never written while it is so -/
  | frz (o : Obj) (u : HO)
  /-- a code object's table -/
  | tbl (ps : Array Value)
  /-- any other thing, by what is true of its one object (a def of one's own: SetO a S n := HO.ext fun h => ..) -/
  | ext (φ : Heap → Prop)
noncomputable abbrev Hp := Addr → Option HO
noncomputable def upd (H : Hp) (a : Addr) (o : HO) : Hp := fun b => if b = a then some o else H b
theorem upd_same {H : Hp} {a : Addr} {o : HO} : upd H a o a = some o := by unfold upd; rw [if_pos rfl]
theorem upd_ne {H : Hp} {a b : Addr} {o : HO} (h : b ≠ a) : upd H a o b = H b := by unfold upd; rw [if_neg h]
theorem ne_of {H : Hp} {a b : Addr} {o u : HO} (h : H a = some o) (h' : H b = some u) (d : o ≠ u) : a ≠ b := by
  intro e; subst e; rw [h] at h'; exact d (Option.some.inj h')
theorem ne_of_none {H : Hp} {a b : Addr} {o : HO} (h : H a = some o) (h' : H b = none) : a ≠ b := by
  intro e; subst e; rw [h] at h'; cases h'
section
variable (P : Program) (w : World)
noncomputable def ObjOk (H : Hp) (h : Heap) (a : Addr) : HO → Prop
  | .lst xs => xs.length ≤ sizeLine ∧ ∃ (its : List Value) (n : Nat), Vals xs its ∧ h.get? a = some { cls := .type "list", data := .seq its.toArray n }
  | .tup xs => xs.length ≤ sizeLine ∧ ∃ its : List Value, Vals xs its ∧ IsTup h a its.toArray
  | .dK kvs => kvs.length ≤ sizeLine ∧ (a == sysModules) = false ∧ ∃ vs, KV kvs vs ∧ h.DictOf (mixKind P w) a vs
  | .dT kvs => kvs.length ≤ sizeLine ∧ (a == sysModules) = false ∧ ∃ xs : List (List Key × Addr × Value),
      Paired (fun (p : List Key × V) (q : List Key × Addr × Value) => p.1 = q.1 ∧ H q.2.1 = some (.tup (p.1.map kV)) ∧ RelV p.2 q.2.2) kvs xs ∧
      ∃ o es ep, h.get? a = some o ∧ o.ExactDict ∧ o.data = .dict es ep ∧ es.toList = xs.map (entryOfKey (tupleKind (mixKind P w))) ∧ (xs.map (·.1)).Nodup
  | .set S n => h.SetOf (intKind P w) a S n
  | .ins C dx fs => H dx = some (.own a) ∧ fs.length ≤ 1000 ∧ dx ≠ a ∧ h.get? a = some (PySem.W.instObj C dx) ∧
      ∃ mA, h.Ns1 dx mA ∧ (∀ f, RelO (fs.lookup f) (mA f)) ∧ PySem.Within mA (fs.map (·.1))
  | .own _ => ∃ o, h.get? a = some o
  | .xd fs => ∃ mA, h.Ns1 a mA ∧ ∀ f, RelO (fs.lookup f) (mA f)
  | .rng lo hi => ∃ t u v, h.get? a = some { cls := .type "range", data := .fields #[.int lo t, .int hi u, .int 1 v] }
  | .frz o u => h.get? a = some o ∧ ObjOk H h a u
  | .tbl ps => h.get? a = some { cls := .none, data := .fields ps }
  | .met f x => h.get? a = some (PySem.W.methodObj (.ref f) (.ref x))
  | .ext φ => φ h ∧ (∃ o, h.get? a = some o) ∧ ∀ h1 h2 : Heap, φ h1 → (∀ o, h1.get? a = some o → h2.get? a = some o) → φ h2
noncomputable def HOk (H : Hp) (h : Heap) : Prop := ∀ a o, H a = some o → ObjOk P w H h a o
end
section
variable {P : Program} {w : World} {H H' : Hp} {h h' : Heap} {a : Addr} {o : HO}
theorem ObjOk.lt (x : ObjOk P w H h a o) : a < h.objs.size := by
  cases o with
  | lst xs => obtain ⟨_, _, _, _, e⟩ := x; exact Heap.lt_size e
  | tup xs => obtain ⟨_, _, _, p⟩ := x; exact p.lt
  | dK kvs => obtain ⟨_, _, _, _, o, _, _, e, _⟩ := x; exact Heap.lt_size e
  | dT kvs => obtain ⟨_, _, _, _, o, _, _, e, _⟩ := x; exact Heap.lt_size e
  | set S n => obtain ⟨o, _, _, _, e, _⟩ := x; exact Heap.lt_size e
  | ins C dx fs => obtain ⟨_, _, _, e, _⟩ := x; exact Heap.lt_size e
  | own y => obtain ⟨_, e⟩ := x; exact Heap.lt_size e
  | xd fs => obtain ⟨_, ⟨_, _, _, e, _⟩, _⟩ := x; exact Heap.lt_size e
  | rng lo hi => obtain ⟨_, _, _, e⟩ := x; exact Heap.lt_size e
  | frz ob u => obtain ⟨e, _⟩ := x; exact Heap.lt_size e
  | tbl ps => exact Heap.lt_size (show h.get? a = some _ from x)
  | met f y => exact Heap.lt_size (show h.get? a = some _ from x)
  | ext φ => obtain ⟨_, ⟨_, e⟩, _⟩ := x; exact Heap.lt_size e
theorem Paired.mapP {α β : Type} {F G : α → β → Prop} : ∀ {l₁ : List α} {l₂ : List β}, Paired F l₁ l₂ → (∀ a b, F a b → G a b) → Paired G l₁ l₂
  | _, _, .nil, _ => .nil
  | _, _, .cons r t, f => .cons (f _ _ r) (Paired.mapP t f)
theorem Paired.imp' {α β : Type} {F G : α → β → Prop} (f : ∀ a b, F a b → G a b) {l₁ : List α} {l₂ : List β} (r : Paired F l₁ l₂) : Paired G l₁ l₂ := Paired.mapP r f
theorem ObjOk.stay (x : ObjOk P w H h a o) (k : ∀ b u, (b = a ∨ H b = some (.own a)) → h.get? b = some u → h'.get? b = some u)
    (ho : ∀ b, H b = some (.own a) → H' b = some (.own a)) (ht : ∀ b xs, H b = some (.tup xs) → H' b = some (.tup xs)) : ObjOk P w H' h' a o := by
  induction o with
  | lst xs => obtain ⟨z, its, n, r, e⟩ := x; exact ⟨z, its, n, r, k _ _ (.inl rfl) e⟩
  | tup xs => obtain ⟨z, its, r, ob, e, c⟩ := x; exact ⟨z, its, r, ob, k _ _ (.inl rfl) e, c⟩
  | dK kvs => obtain ⟨z, y, vs, r, ob, es, ep, e, c⟩ := x; exact ⟨z, y, vs, r, ob, es, ep, k _ _ (.inl rfl) e, c⟩
  | dT kvs =>
    obtain ⟨z, y, xs, r, ob, es, ep, e, c⟩ := x
    exact ⟨z, y, xs, Paired.mapP r fun p q z => ⟨z.1, ht _ _ z.2.1, z.2.2⟩, ob, es, ep, k _ _ (.inl rfl) e, c⟩
  | set S n => obtain ⟨ob, es, ep, t, e, c⟩ := x; exact ⟨ob, es, ep, t, k _ _ (.inl rfl) e, c⟩
  | ins C dx fs =>
    obtain ⟨d, z, ne, e, mA, ⟨od, es, ep, e2, c⟩, r⟩ := x
    exact ⟨ho _ d, z, ne, k _ _ (.inl rfl) e, mA, ⟨od, es, ep, k _ _ (.inr d) e2, c⟩, r⟩
  | own y => obtain ⟨ob, e⟩ := x; exact ⟨ob, k _ _ (.inl rfl) e⟩
  | xd fs => obtain ⟨mA, ⟨od, es, ep, e, c⟩, r⟩ := x; exact ⟨mA, ⟨od, es, ep, k _ _ (.inl rfl) e, c⟩, r⟩
  | rng lo hi => obtain ⟨t, u, v, e⟩ := x; exact ⟨t, u, v, k _ _ (.inl rfl) e⟩
  | frz ob u ih => obtain ⟨e, q⟩ := x; exact ⟨k _ _ (.inl rfl) e, ih q⟩
  | tbl ps =>
    have e : h.get? a = some { cls := .none, data := .fields ps } := x
    show h'.get? a = some { cls := .none, data := .fields ps }
    exact k a _ (.inl rfl) e
  | met f y =>
    have e : h.get? a = some (PySem.W.methodObj (.ref f) (.ref y)) := x
    show h'.get? a = some (PySem.W.methodObj (.ref f) (.ref y))
    exact k a _ (.inl rfl) e
  | ext φ => obtain ⟨p, ⟨o, e⟩, st⟩ := x; exact ⟨st _ _ p fun o q => k _ _ (.inl rfl) q, ⟨o, k _ _ (.inl rfl) e⟩, st⟩
theorem HOk.lt (x : HOk P w H h) (e : H a = some o) : a < h.objs.size := (x a o e).lt
theorem HOk.fresh (x : HOk P w H h) (e : h.objs.size ≤ a) : H a = none := by
  cases q : H a with
  | none => rfl
  | some u => exact absurd (Nat.lt_of_lt_of_le (x.lt q) e) (Nat.lt_irrefl _)
theorem HOk.kept (x : HOk P w H h) (k : ∀ b u, h.get? b = some u → h'.get? b = some u) : HOk P w H h' := fun a o e =>
  (x a o e).stay (fun b u _ q => k b u q) (fun _ q => q) fun _ _ q => q
theorem HOk.laid (x : HOk P w H h) (k : ∀ b u, h.get? b = some u → h'.get? b = some u) (hp : h.objs.size ≤ a) (new : ObjOk P w (upd H a o) h' a o) : HOk P w (upd H a o) h' := fun b u e => by
  have hn := x.fresh hp
  by_cases hb : b = a
  · subst hb; rw [upd_same] at e; cases e; exact new
  · rw [upd_ne hb] at e
    exact (x b u e).stay (fun c v _ q => k c v q) (fun c q => by rw [upd_ne (ne_of_none q hn)]; exact q) fun c xs q => by rw [upd_ne (ne_of_none q hn)]; exact q
end
noncomputable def Rd (H : Hp) (a : Addr) (u : HO) : Prop := H a = some u ∨ ∃ o, H a = some (.frz o u)
theorem Rd.ok {P : Program} {w : World} {H : Hp} {h : Heap} {a : Addr} {u : HO} (r : Rd H a u) (x : HOk P w H h) : ObjOk P w H h a u := by
  rcases r with r | ⟨o, r⟩
  · exact x a u r
  · obtain ⟨_, q⟩ := x a _ r
    exact q
noncomputable def Mut : Option HO → Prop
  | some (.lst _) => True
  | some (.dK _) => True
  | some (.dT _) => True
  | some (.set _ _) => True
  | some (.ins _ _ _) => True
  | some (.ext _) => True
  | _ => False
section
variable {P : Program} {w : World} {H : Hp} {h h' : Heap} {x e : Addr} {o' : HO}
theorem HOk.write (ok : HOk P w H h) (mu : Mut (H x)) (he : e = x ∨ H e = some (.own x)) (k : ∀ b u, b ≠ e → h.get? b = some u → h'.get? b = some u) (heo : ∃ u, h'.get? e = some u)
    (new : ObjOk P w (upd H x o') h' x o') : HOk P w (upd H x o') h' := fun b u q => by
  have nown : ∀ c y, H c = some (.own y) → c ≠ x := fun c y r z => by subst z; rw [r] at mu; exact mu
  have ntup : ∀ c xs, H c = some (.tup xs) → c ≠ x := fun c xs r z => by subst z; rw [r] at mu; exact mu
  by_cases hb : b = x
  · subst hb; rw [upd_same] at q; cases q; exact new
  · rw [upd_ne hb] at q
    by_cases hbe : b = e
    · have q' : H b = some (.own x) := by
        rcases he with z | z
        · exact absurd (hbe.trans z) hb
        · rw [hbe]; exact z
      rw [q] at q'; cases q'
      obtain ⟨v, hv⟩ := heo
      exact ⟨v, by rw [hbe]; exact hv⟩
    · refine (ok b u q).stay (fun c v hc r => k c v ?_ r) (fun c r => by rw [upd_ne (nown c b r)]; exact r) fun c xs r => by rw [upd_ne (ntup c xs r)]; exact r
      rcases hc with rfl | hc
      · exact hbe
      · rintro rfl
        rcases he with z | z
        · exact nown c b hc z
        · rw [hc] at z; cases z; exact hb rfl
end
structure Un (fs ex : List Addr) (H H' : Hp) (h h' : Heap) : Prop where
  keep : ∀ b o, h.get? b = some o → H b = none → b ∉ fs → b ∉ ex → h'.get? b = some o
  slot : ∀ b o, h.get? b = some o → H b = none → b ∈ fs → b ∉ ex → ∃ sl, h'.get? b = some { o with slots := sl }
  free : ∀ b o, h.get? b = some o → H b = none → b ∉ ex → H' b = none
  there : ∀ b o, h.get? b = some o → b ∉ ex → ∃ o', h'.get? b = some o'
  tups : ∀ b xs, H b = some (.tup xs) → H' b = some (.tup xs)
  frzs : ∀ b o u, H b = some (.frz o u) → H' b = some (.frz o u)
  tbls : ∀ b ps, H b = some (.tbl ps) → ∃ more, H' b = some (.tbl (ps ++ more))
section
variable {fs fs' ex ex' : List Addr} {H H1 H2 : Hp} {h h1 h2 h' : Heap} {a x e : Addr} {o : HO}
theorem Un.any (u : Un fs ex H H1 h h1) {b : Addr} {ob : Obj} (q : h.get? b = some ob) (n : H b = none) (hx : b ∉ ex) : ∃ sl, h1.get? b = some { ob with slots := sl } := by
  by_cases hb : b ∈ fs
  · exact u.slot b ob q n hb hx
  · exact ⟨ob.slots, u.keep b ob q n hb hx⟩
theorem Un.kept (k : ∀ b u, h.get? b = some u → h'.get? b = some u) : Un fs ex H H h h' :=
  ⟨fun b ob q _ _ _ => k b ob q, fun b ob q _ _ _ => ⟨ob.slots, k b ob q⟩, fun _ _ _ n _ => n, fun b ob q _ => ⟨ob, k b ob q⟩, fun _ _ q => q, fun _ _ _ q => q, fun _ ps q => ⟨#[], by rw [q]; simp⟩⟩
theorem Un.refl : Un fs ex H H h h := Un.kept fun _ _ q => q
theorem Un.laid (k : ∀ b u, h.get? b = some u → h'.get? b = some u) (hp : h.objs.size ≤ a) (hn : H a = none) : Un fs ex H (upd H a o) h h' where
  keep := fun b u q _ _ _ => k b u q
  slot := fun b u q _ _ _ => ⟨u.slots, k b u q⟩
  free := fun b u q n _ => by rw [upd_ne (Nat.ne_of_lt (Nat.lt_of_lt_of_le (Heap.lt_size q) hp))]; exact n
  there := fun b u q _ => ⟨u, k b u q⟩
  tups := fun b xs q => by rw [upd_ne (ne_of_none q hn)]; exact q
  frzs := fun b u xs q => by rw [upd_ne (ne_of_none q hn)]; exact q
  tbls := fun b ps q => ⟨#[], by rw [upd_ne (ne_of_none q hn), q]; simp⟩
theorem Un.write (mu : Mut (H x)) (he : e = x ∨ H e = some (.own x)) (k : ∀ b u, b ≠ e → h.get? b = some u → h'.get? b = some u) (heo : ∃ u, h'.get? e = some u) : Un fs ex H (upd H x o) h h' := by
  have hx : ∀ b, H b = none → b ≠ x := fun b n z => by subst z; rw [n] at mu; exact mu
  have hb : ∀ b, H b = none → b ≠ e := fun b n z => by
    subst z
    rcases he with r | r
    · exact hx b n r
    · rw [n] at r; cases r
  have hm : ∀ b u, H b = some u → ¬ Mut (some u) → b ≠ x := fun b u q nm z => by subst z; rw [q] at mu; exact nm mu
  refine ⟨fun b u q n _ _ => k b u (hb b n) q, fun b u q n _ _ => ⟨u.slots, k b u (hb b n) q⟩, fun b u q n _ => by rw [upd_ne (hx b n)]; exact n, fun b u q _ => ?_,
    fun b xs q => by rw [upd_ne (hm b _ q fun z => z)]; exact q, fun b u xs q => by rw [upd_ne (hm b _ q fun z => z)]; exact q, fun b ps q => ⟨#[], by rw [upd_ne (hm b _ q fun z => z), q]; simp⟩⟩
  by_cases hbe : b = e
  · subst hbe; exact heo
  · exact ⟨u, k b u hbe q⟩
end
noncomputable def trk (h : Heap) (H : Hp) : List Addr := (List.range h.objs.size).filter fun a => (H a).isSome
noncomputable def hidT (h : Heap) (H : Hp) : Heap := PySem.W.hideAll h (trk h H)
theorem hidT_size (h : Heap) (H : Hp) : (hidT h H).objs.size = h.objs.size := PySem.W.hideAll_size _ _
theorem hidT_get {h : Heap} {H : Hp} {b : Addr} {o : Obj} (e : h.get? b = some o) (n : H b = none) : (hidT h H).get? b = some o :=
  PySem.W.hideAll_get _ e fun hm => by
    have q : (H b).isSome = true := (List.mem_filter.mp hm).2
    rw [n] at q; simp at q
theorem of_hidT {h : Heap} {H : Hp} {b : Addr} {o : Obj} (e : (hidT h H).get? b = some o) : h.get? b = some o ∧ H b = none := by
  have e' : h.get? b = some o := PySem.W.of_hideAll (trk h H) e
  refine ⟨e', ?_⟩
  cases q : H b with
  | none => rfl
  | some x =>
    have hm : b ∈ trk h H := List.mem_filter.mpr ⟨List.mem_range.mpr (Heap.lt_size e'), by simp [q]⟩
    have z : (hidT h H).get? b = none := PySem.W.hideAll_none (trk h H) hm
    rw [z] at e; cases e
noncomputable def allNews (g h : Heap) (L : Addr) : List (Addr × Obj) := (List.range h.objs.size).filterMap fun a => if a = L ∨ (g.get? a).isSome = true then none else (h.get? a).map fun o => (a, o)
noncomputable def rest (g h : Heap) (L d : Addr) : List (Addr × Obj) := (allNews g h L).filter fun p => decide (p.1 ≠ d)
end L2
namespace L2
open PySem PySem.Spec PyProof.Rows
structure Mod (K : PySem.W.Frag) (mg : Str → Option Value) (base : Heap) : Prop where
  kin : K.In base
  glob : base.Ns mainGlobals mg
  blt : ∃ mb, base.Ns builtinsNs mb ∧ ∀ x : Str, x ≠ "__name__" → mb x = bootBuiltins x
  nolimit : base.NoLimit
/-- the context: a def's body (or a comprehension's block) running. base: fixed through the whole law; s₀, H₀: the entry; outer: the frames whose slots others may change (a def's callers); stack: all frames that run;
   ex: iterators that were made ahead of the entry and are walked here (a comprehension's); fn: the names whose cells were made at the entry (a def: all; a comprehension's block: its own); calm: not within an except suite; pn: pins that every state bears; xe: what is wanted of an exception that leaves the code -/
structure Cx where
  prog : Program
  w : World
  K : PySem.W.Frag
  mg : Str → Option Value
  base : Heap
  A : Around
  N : List Str
  s₀ : Shared
  H₀ : Hp
  env : Env
  outer : List Env
  stack : List Env
  ex : List Addr
  fn : Str → Bool
  calm : Bool
  pn : List (Addr × Obj)
  xe : Value → Shared → Prop
noncomputable def frs (l : List Env) : List Addr := l.filterMap (·.frame)
noncomputable abbrev Cx.fs (X : Cx) : List Addr := frs X.outer
noncomputable def Vis (sc : Scope) (x : Str) : Prop := sc.names.lookup x = some .local ∨ sc.names.lookup x = some .cell ∨ sc.names.lookup x = some .free
noncomputable def Loc (sc : Scope) (x : Str) : Prop := sc.names.lookup x = some .local ∨ sc.names.lookup x = some .cell
noncomputable def Look (env : Env) (h : Heap) (m : Str → Option Value) (x : Str) (u : Value) : Prop :=
  (env.kindOf x = some .local ∧ m x = some u) ∨ ((env.kindOf x = some .cell ∨ env.kindOf x = some .free) ∧ ∃ c, env.cells.lookup x = some c ∧ h.IsCell c (some u))
structure Cx.Ok (X : Cx) : Prop where
  mod : Mod X.K X.mg X.base
  kind : X.env.scope.kind = .function
  glob : X.env.globals = mainGlobals
  blt : X.env.builtins = builtinsNs
  above : X.s₀.heap.objs.size ≤ X.env.locals
  inj : ∀ x y c, X.env.cells.lookup x = some c → X.env.cells.lookup y = some c → x = y
  has : ∀ x, (X.env.kindOf x = some .cell ∨ X.env.kindOf x = some .free) → ∃ c, X.env.cells.lookup x = some c
  cab : ∀ x c, X.fn x = true → X.env.cells.lookup x = some c → X.s₀.heap.objs.size ≤ c
  hd : X.calm = true → X.A.handled = none
  frames : X.A.frames = some X.stack
  stk : X.stack = X.outer ∨ (X.stack = X.env :: X.outer ∧ X.env.frame = some X.env.locals)
  exf : ∀ b ∈ X.ex, b ≠ X.env.locals ∧ ∀ x c, X.env.cells.lookup x = some c → c ≠ b
  bs : ∀ b o, X.base.get? b = some o → X.s₀.heap.get? b = some o ∧ X.H₀ b = none
  bsz : X.base.objs.size ≤ X.s₀.heap.objs.size
  noex : ∀ b o, X.base.get? b = some o → b ∉ X.ex
  exfs : ∀ b ∈ X.ex, b ∉ X.fs
  funs : X.s₀.heap.FunFrames X.base X.outer
  frf : ∀ b ∈ X.fs, X.H₀ b = none
structure Inv (X : Cx) (pins : List (Addr × Obj)) (σ : List (Option V)) (H : Hp) (s : Shared) : Prop where
  ok : X.Ok
  os : s.os = X.s₀.os
  bare : AllBare s.gens
  base : Un X.fs X.ex X.H₀ H X.s₀.heap s.heap
  loc : ∃ m, s.heap.Ns X.env.locals m ∧ ∀ (i : Nat) (x : Str) (v : V), X.N[i]? = some x → σ[i]? = some (some v) → Vis X.env.scope x → ∃ u, RelV v u ∧ Look X.env s.heap m x u
  cell : ∀ x c, X.env.cells.lookup x = some c → ∃ v, s.heap.IsCell c v
  free : H X.env.locals = none
  freeC : ∀ x c, X.env.cells.lookup x = some c → H c = none
  pin : ∀ p ∈ X.pn ++ pins, s.heap.get? p.1 = some p.2 ∧ H p.1 = none ∧ p.1 ≠ X.env.locals ∧ p.1 ∉ X.fs ∧ ∀ v, p.2.data ≠ .cell v
  hok : HOk X.prog X.w H s.heap
  len : σ.length = X.N.length
section
variable {X : Cx} {pins : List (Addr × Obj)} {σ : List (Option V)} {H H' : Hp} {s : Shared} {h' : Heap}
theorem Cx.Ok.nofr (ok : X.Ok) {b : Addr} {o : Obj} (e : X.base.get? b = some o) : b ∉ X.fs := fun hb => by
  have := (ok.funs.mem hb).1
  rw [e] at this; cases this
theorem Inv.bs (I : Inv X pins σ H s) : ∀ b o, X.base.get? b = some o → s.heap.get? b = some o ∧ H b = none := fun b o e =>
  ⟨I.base.keep b o (I.ok.bs b o e).1 (I.ok.bs b o e).2 (I.ok.nofr e) (I.ok.noex b o e), I.base.free b o (I.ok.bs b o e).1 (I.ok.bs b o e).2 (I.ok.noex b o e)⟩
theorem Inv.bk (I : Inv X pins σ H s) : ∀ b o, X.base.get? b = some o → s.heap.get? b = some o := fun b o e => (I.bs b o e).1
theorem Inv.mod (I : Inv X pins σ H s) : Mod X.K X.mg X.base := I.ok.mod
theorem Inv.kIn (I : Inv X pins σ H s) : X.K.In s.heap := I.ok.mod.kin.keeps I.bk
theorem Inv.lt (I : Inv X pins σ H s) : X.env.locals < s.heap.objs.size := let ⟨_, hn, _⟩ := I.loc; hn.lt
theorem Inv.sz (I : Inv X pins σ H s) : X.s₀.heap.objs.size ≤ s.heap.objs.size := Nat.le_trans I.ok.above (Nat.le_of_lt I.lt)
theorem Inv.nofs (I : Inv X pins σ H s) {a : Addr} (h : s.heap.objs.size ≤ a) : a ∉ X.fs := fun hb => by
  obtain ⟨_, o, ho, _⟩ := I.ok.funs.mem hb
  exact absurd (Nat.lt_of_lt_of_le (Heap.lt_size ho) (Nat.le_trans I.sz h)) (Nat.lt_irrefl _)
theorem Inv.cne (I : Inv X pins σ H s) : ∀ x c, X.env.cells.lookup x = some c → c ≠ X.env.locals := fun x c e z => by
  obtain ⟨v, o, ho, hd⟩ := I.cell x c e
  obtain ⟨m, ⟨o', es, ep, ho', hd', _⟩, _⟩ := I.loc
  rw [z, ho'] at ho; cases ho; rw [hd'] at hd; cases hd
theorem Inv.funs (I : Inv X pins σ H s) : s.heap.FunFrames X.base X.outer := by
  have all : ∀ (l : List Env), (∀ b ∈ frs l, b ∈ X.fs) → X.s₀.heap.FunFrames X.base l → s.heap.FunFrames X.base l := by
    intro l
    induction l with
    | nil => intro _ _; trivial
    | cons env r ih =>
      intro hs hl
      obtain ⟨hk, ⟨L, o, hf, hn, ho, hd⟩, hr⟩ := hl
      have hL : L ∈ X.fs := hs L (by unfold frs; rw [List.filterMap_cons, hf]; exact List.mem_cons_self)
      obtain ⟨sl, e⟩ := I.base.slot L o ho (I.ok.frf L hL) hL fun z => I.ok.exfs L z hL
      exact ⟨hk, ⟨L, _, hf, hn, e, hd⟩, ih (fun b hb => hs b (by unfold frs; rw [List.filterMap_cons, hf]; exact List.mem_cons_of_mem _ hb)) hr⟩
  exact all X.outer (fun _ hb => hb) I.ok.funs
theorem Inv.stack (I : Inv X pins σ H s) : s.heap.FunFrames X.base X.stack := by
  rcases I.ok.stk with e | ⟨e, hf⟩
  · rw [e]; exact I.funs
  · rw [e]
    obtain ⟨m, hn, _⟩ := I.loc
    refine .cons (by rw [I.ok.kind]; decide) hf hn ?_ I.funs
    exact Heap.get?_none_of_le (Nat.le_trans I.ok.bsz I.ok.above)
theorem Inv.stkSub (I : Inv X pins σ H s) : ∀ b ∈ frs X.stack, b ∈ X.env.locals :: X.fs := fun b hb => by
  rcases I.ok.stk with e | ⟨e, hf⟩
  · rw [e] at hb; exact List.mem_cons_of_mem _ hb
  · rw [e] at hb
    unfold frs at hb
    rw [List.filterMap_cons, hf] at hb
    exact hb
theorem Inv.stkFree (I : Inv X pins σ H s) : ∀ b ∈ frs X.stack, H b = none := fun b hb => by
  rcases List.mem_cons.mp (I.stkSub b hb) with e | hb
  · rw [e]; exact I.free
  · obtain ⟨_, o, ho, _⟩ := I.ok.funs.mem hb
    exact I.base.free b o ho (I.ok.frf b hb) fun z => I.ok.exfs b z hb
theorem Inv.step {g' : Array GenState} {t' : Nat} {d' : Drawn} {ch : List Addr} (I : Inv X pins σ H s)
    (hch : ∀ b ∈ ch, (b ∈ X.ex ∨ X.s₀.heap.objs.size ≤ b) ∧ b ≠ X.env.locals ∧ (∀ x c, X.env.cells.lookup x = some c → c ≠ b) ∧ ∀ p ∈ X.pn ++ pins, p.1 ≠ b)
    (keep : ∀ b o, b ≠ X.env.locals → b ∉ X.fs → b ∉ ch → s.heap.get? b = some o → H b = none → h'.get? b = some o)
    (slot : ∀ b o, b ≠ X.env.locals → b ∈ X.fs → b ∉ ch → s.heap.get? b = some o → H b = none → ∃ sl, h'.get? b = some { o with slots := sl }) (free : ∀ b o, b ∉ ch → s.heap.get? b = some o → H b = none → H' b = none)
    (there : ∀ b o, b ∉ ch → s.heap.get? b = some o → ∃ o', h'.get? b = some o')
    (tups : ∀ b xs, H b = some (.tup xs) → H' b = some (.tup xs)) (frzs : ∀ b o u, H b = some (.frz o u) → H' b = some (.frz o u)) (tbls : ∀ b ps, H b = some (.tbl ps) → ∃ more, H' b = some (.tbl (ps ++ more)))
    (ns : ∀ m, s.heap.Ns X.env.locals m → h'.Ns X.env.locals m) (hok : HOk X.prog X.w H' h') (hg : AllBare g') :
    Inv X pins σ H' { s with heap := h', gens := g', drawn := d', toks := t' } := by
  have neL : ∀ b o, X.s₀.heap.get? b = some o → b ≠ X.env.locals := fun b o e => Nat.ne_of_lt (Nat.lt_of_lt_of_le (Heap.lt_size e) I.ok.above)
  have neC : ∀ b o, X.s₀.heap.get? b = some o → b ∉ X.ex → b ∉ ch := fun b o e hx hb => by
    rcases (hch b hb).1 with z | z
    · exact hx z
    · exact absurd (Nat.lt_of_lt_of_le (Heap.lt_size e) z) (Nat.lt_irrefl _)
  have cellK : ∀ x c, X.env.cells.lookup x = some c → ∀ v, s.heap.IsCell c v → h'.IsCell c v := fun x c e v ⟨o, ho, hd⟩ => by
    have nch : c ∉ ch := fun z => (hch c z).2.2.1 x c e rfl
    by_cases hc : c ∈ X.fs
    · obtain ⟨sl, q⟩ := slot c o (I.cne x c e) hc nch ho (I.freeC x c e)
      exact ⟨_, q, hd⟩
    · exact ⟨o, keep c o (I.cne x c e) hc nch ho (I.freeC x c e), hd⟩
  refine ⟨I.ok, I.os, hg, ⟨fun b o e n hb hx => ?_, fun b o e n hb hx => ?_, fun b o e n hx => ?_, fun b o e hx => ?_, fun b xs e => tups b xs (I.base.tups b xs e), fun b o xs e => frzs b o xs (I.base.frzs b o xs e), fun b ps e => ?_⟩, ?_, fun x c e => ?_, ?_, fun x c e => ?_, fun p hp => ?_, hok, I.len⟩
  · exact keep b o (neL b o e) hb (neC b o e hx) (I.base.keep b o e n hb hx) (I.base.free b o e n hx)
  · obtain ⟨sl, e1⟩ := I.base.slot b o e n hb hx
    obtain ⟨sl', e2⟩ := slot b _ (neL b o e) hb (neC b o e hx) e1 (I.base.free b o e n hx)
    exact ⟨sl', e2⟩
  · obtain ⟨o', e1⟩ := I.base.there b o e hx
    exact free b o' (neC b o e hx) e1 (I.base.free b o e n hx)
  · obtain ⟨o', e1⟩ := I.base.there b o e hx
    exact there b o' (neC b o e hx) e1
  · obtain ⟨m1, e1⟩ := I.base.tbls b ps e
    obtain ⟨m2, e2⟩ := tbls b _ e1
    exact ⟨m1 ++ m2, by rw [e2, Array.append_assoc]⟩
  · obtain ⟨m, hn, hl⟩ := I.loc
    refine ⟨m, ns m hn, fun i x v e1 e2 e3 => ?_⟩
    obtain ⟨u, r, l⟩ := hl i x v e1 e2 e3
    refine ⟨u, r, ?_⟩
    rcases l with l | ⟨k, c, e, z⟩
    · exact .inl l
    · exact .inr ⟨k, c, e, cellK x c e _ z⟩
  · obtain ⟨v, z⟩ := I.cell x c e
    exact ⟨v, cellK x c e v z⟩
  · obtain ⟨m, ⟨o, _, _, ho, _⟩, _⟩ := I.loc
    exact free _ o (fun z => (hch _ z).2.1 rfl) ho I.free
  · obtain ⟨v, o, ho, hd⟩ := I.cell x c e
    exact free c o (fun z => (hch c z).2.2.1 x c e rfl) ho (I.freeC x c e)
  · obtain ⟨e, n, ne, nf, d⟩ := I.pin p hp
    have nch : p.1 ∉ ch := fun z => (hch p.1 z).2.2.2 p hp rfl
    exact ⟨keep p.1 p.2 ne nf nch e n, free p.1 p.2 nch e n, ne, nf, d⟩
theorem Inv.un {t' : Nat} (I : Inv X pins σ H s) (u : Un X.fs [] H H' s.heap h') (hok : HOk X.prog X.w H' h') : Inv X pins σ H' { s with heap := h', toks := t' } := by
  obtain ⟨m, ⟨o, es, ep, ho, r⟩, _⟩ := id I.loc
  obtain ⟨sl, hL⟩ := u.any ho I.free (by simp)
  exact I.step (g' := s.gens) (d' := s.drawn) (ch := []) (fun _ z => nomatch z) (fun b o _ hb _ e n => u.keep b o e n hb (by simp)) (fun b o _ hb _ e n => u.slot b o e n hb (by simp)) (fun b o _ e n => u.free b o e n (by simp)) (fun b o _ e => u.there b o e (by simp)) u.tups u.frzs u.tbls (fun m' hm => by
    obtain ⟨o', es', ep', ho', r'⟩ := hm
    rw [ho] at ho'; cases ho'
    exact ⟨_, es', ep', hL, r'⟩) hok I.bare
theorem Inv.call {g' : Array GenState} {t' : Nat} {d' : Drawn} {ch : List Addr} (I : Inv X pins σ H s) (u : Un (frs X.stack) ch H H' s.heap h') (hok : HOk X.prog X.w H' h') (hg : AllBare g')
    (hch : ∀ b ∈ ch, (b ∈ X.ex ∨ X.s₀.heap.objs.size ≤ b) ∧ b ≠ X.env.locals ∧ (∀ x c, X.env.cells.lookup x = some c → c ≠ b) ∧ ∀ p ∈ X.pn ++ pins, p.1 ≠ b) :
    Inv X pins σ H' { s with heap := h', gens := g', drawn := d', toks := t' } := by
  obtain ⟨m, ⟨o, es, ep, ho, r⟩, _⟩ := id I.loc
  obtain ⟨sl, hL⟩ := u.any ho I.free fun z => (hch _ z).2.1 rfl
  exact I.step (ch := ch) hch (fun b o hL hb hc e n => u.keep b o e n (fun z => (List.mem_cons.mp (I.stkSub b z)).elim hL hb) hc) (fun b o _ _ hc e n => u.any e n hc) (fun b o hc e n => u.free b o e n hc) (fun b o hc e => u.there b o e hc) u.tups u.frzs u.tbls (fun m' hm => by
    obtain ⟨o', es', ep', ho', r'⟩ := hm
    rw [ho] at ho'; cases ho'
    exact ⟨_, es', ep', hL, r'⟩) hok hg
theorem Inv.turned {t' : Nat} {it : Addr} (I : Inv X pins σ H s) (k : ∀ b o, b ≠ it → s.heap.get? b = some o → h'.get? b = some o) (hn : H it = none) (hL : it ≠ X.env.locals)
    (h1 : it ∈ X.ex ∨ X.s₀.heap.objs.size ≤ it) (h2 : ∀ x c, X.env.cells.lookup x = some c → c ≠ it) (h3 : ∀ p ∈ X.pn ++ pins, p.1 ≠ it) : Inv X pins σ H { s with heap := h', toks := t' } := by
  have nit : ∀ b u, H b = some u → b ≠ it := fun b u e z => by rw [z, hn] at e; cases e
  refine I.step (g' := s.gens) (d' := s.drawn) (ch := [it]) (fun b hb => ?_) (fun b o _ _ hc e _ => k b o (fun z => hc (by simp [z])) e) (fun b o _ _ hc e _ => ⟨o.slots, k b o (fun z => hc (by simp [z])) e⟩) (fun _ _ _ _ n => n)
    (fun b o hc e => ⟨o, k b o (fun z => hc (by simp [z])) e⟩) (fun _ _ e => e) (fun _ _ _ e => e) (fun b ps e => ⟨#[], by rw [e]; simp⟩) (fun m hm => ?_) (fun b u e => ?_) I.bare
  · have e : b = it := by simpa using hb
    subst e
    exact ⟨h1, hL, h2, h3⟩
  · obtain ⟨o, es, ep, ho, r⟩ := hm
    exact ⟨o, es, ep, k _ o (Ne.symm hL) ho, r⟩
  · refine (I.hok b u e).stay (fun c v hc q => k c v ?_ q) (fun _ q => q) fun _ _ q => q
    rcases hc with z | z
    · rw [z]; exact nit b u e
    · exact nit c _ z
theorem Inv.tok (I : Inv X pins σ H s) (t : Nat) : Inv X pins σ H { s with toks := t } := I.un (h' := s.heap) (t' := t) Un.refl I.hok
theorem Inv.kept {t' : Nat} (I : Inv X pins σ H s) (k : ∀ b u, s.heap.get? b = some u → h'.get? b = some u) : Inv X pins σ H { s with heap := h', toks := t' } := I.un (Un.kept k) (I.hok.kept k)
theorem Inv.laid {a : Addr} {o : HO} {t' : Nat} (I : Inv X pins σ H s) (k : ∀ b u, s.heap.get? b = some u → h'.get? b = some u) (hp : s.heap.objs.size ≤ a) (new : ObjOk X.prog X.w (upd H a o) h' a o) :
    Inv X pins σ (upd H a o) { s with heap := h', toks := t' } := I.un (Un.laid k hp (I.hok.fresh hp)) (I.hok.laid k hp new)
theorem Inv.write {x e : Addr} {o : HO} {t' : Nat} (I : Inv X pins σ H s) (mu : Mut (H x)) (he : e = x ∨ H e = some (.own x)) (k : ∀ b u, b ≠ e → s.heap.get? b = some u → h'.get? b = some u) (heo : ∃ u, h'.get? e = some u)
    (new : ObjOk X.prog X.w (upd H x o) h' x o) : Inv X pins σ (upd H x o) { s with heap := h', toks := t' } := I.un (Un.write mu he k heo) (I.hok.write mu he k heo new)
theorem Inv.pins_of {pins' : List (Addr × Obj)} (I : Inv X pins σ H s) (h : ∀ p ∈ pins', s.heap.get? p.1 = some p.2 ∧ H p.1 = none ∧ p.1 ≠ X.env.locals ∧ p.1 ∉ X.fs ∧ ∀ v, p.2.data ≠ .cell v) : Inv X pins' σ H s :=
  ⟨I.ok, I.os, I.bare, I.base, I.loc, I.cell, I.free, I.freeC, fun p hp => (List.mem_append.mp hp).elim (fun z => I.pin p (List.mem_append_left _ z)) (h p), I.hok, I.len⟩
theorem nodup_ix {N : List Str} (hN : N.Nodup) {i j : Nat} {x : Str} (a : N[i]? = some x) (b : N[j]? = some x) : i = j := by
  obtain ⟨h1, e1⟩ := List.getElem?_eq_some_iff.mp a
  obtain ⟨h2, e2⟩ := List.getElem?_eq_some_iff.mp b
  exact (List.getElem_inj hN).mp (e1.trans e2.symm)
theorem store_ok2 {M : Model} {A : Around} {E : Value → Shared → Prop} {i : Nat} {x : Str} {v : V} {u : Value} {Q : Unit → Shared → Prop} (I : Inv X pins σ H s) (hN : X.N.Nodup) (hi : X.N[i]? = some x) (hx : Loc X.env.scope x) (r : RelV v u)
    (h : ∀ s', Inv X pins (σ.set i (some v)) H s' → (∃ a, Heap.SameBut a s.heap s'.heap ∧ (a = X.env.locals ∨ X.env.cells.lookup x = some a)) → Q () s') (hf : X.fn x = true ∨ X.env.scope.names.lookup x = some .local := by first | exact .inl rfl | exact .inr rfl | assumption) : wpAny M A (storeName X.env x u) Q E s := by
  obtain ⟨m, hn, hl⟩ := id I.loc
  have hcls : (X.env.scope.kind == .class || (X.env.scope.kind == .module && X.env.locals != X.env.globals)) = false := by rw [I.ok.kind]; rfl
  have hiσ : i < σ.length := by rw [I.len]; exact (List.getElem?_eq_some_iff.mp hi).1
  have cne := I.cne
  have tracked : ∀ {a : Addr} {h' : Heap}, (∃ o, s.heap.get? a = some o ∧ H a = none) → Heap.SameBut a s.heap h' → HOk X.prog X.w H h' := fun {a h'} ha hs b ob e => by
    obtain ⟨_, _, hfree⟩ := ha
    refine (I.hok b ob e).stay (fun c w' hc q => (hs.2 c ?_).trans q) (fun _ q => q) fun _ _ q => q
    rintro rfl
    rcases hc with rfl | hc
    · rw [hfree] at e; cases e
    · rw [hfree] at hc; cases hc
  rcases hx with hk | hk
  · refine wpAny_storeName_local hk hn (fun h' hn' hs => ?_) hcls
    obtain ⟨oL, _, _, hoL, _⟩ := id hn
    refine h _ ⟨I.ok, I.os, I.bare, ⟨fun b o e n hb hx => ?_, fun b o e n hb hx => ?_, I.base.free, fun b o e hx => ?_, I.base.tups, I.base.frzs, I.base.tbls⟩, ⟨_, hn', fun j y v' e1 e2 e3 => ?_⟩, fun y c e => ?_, I.free, I.freeC, fun p hp => ?_, tracked ⟨oL, hoL, I.free⟩ hs, by simpa using I.len⟩ ⟨_, hs, .inl rfl⟩
    · exact (hs.2 b (Nat.ne_of_lt (Nat.lt_of_lt_of_le (Heap.lt_size e) I.ok.above))).trans (I.base.keep b o e n hb hx)
    · obtain ⟨sl, e1⟩ := I.base.slot b o e n hb hx
      exact ⟨sl, (hs.2 b (Nat.ne_of_lt (Nat.lt_of_lt_of_le (Heap.lt_size e) I.ok.above))).trans e1⟩
    · obtain ⟨o', e1⟩ := I.base.there b o e hx
      exact ⟨o', (hs.2 b (Nat.ne_of_lt (Nat.lt_of_lt_of_le (Heap.lt_size e) I.ok.above))).trans e1⟩
    · by_cases hj : j = i
      · subst hj
        rw [hi] at e1; cases e1
        rw [List.getElem?_set_self hiσ] at e2
        cases e2
        exact ⟨u, r, .inl ⟨hk, by simp⟩⟩
      · rw [List.getElem?_set_ne (Ne.symm hj)] at e2
        obtain ⟨u', r', q⟩ := hl j y v' e1 e2 e3
        refine ⟨u', r', ?_⟩
        rcases q with ⟨k, e⟩ | ⟨k, c, e, z⟩
        · refine .inl ⟨k, ?_⟩
          have : y ≠ x := fun e => hj (nodup_ix hN e1 (e ▸ hi))
          simp [this, e]
        · exact .inr ⟨k, c, e, z.sameBut hs (cne y c e)⟩
    · obtain ⟨w', z⟩ := I.cell y c e
      exact ⟨w', z.sameBut hs (cne y c e)⟩
    · obtain ⟨e, n, ne, nf, d⟩ := I.pin p hp
      exact ⟨(hs.2 p.1 ne).trans e, n, ne, nf, d⟩
  · have hfn : X.fn x = true := by
      rcases hf with z | z
      · exact z
      · rw [z] at hk; cases hk
    obtain ⟨c, hc⟩ := I.ok.has x (.inl hk)
    obtain ⟨w', z⟩ := I.cell x c hc
    refine wpAny_storeName_cell I.ok.kind hk hc z (fun h' hc' hs => ?_)
    obtain ⟨oc, hoc, hocd⟩ := id z
    refine h { s with heap := h' } ⟨I.ok, I.os, I.bare, ⟨fun b o e n hb hx => ?_, fun b o e n hb hx => ?_, I.base.free, fun b o e hx => ?_, I.base.tups, I.base.frzs, I.base.tbls⟩, ⟨m, hn.sameBut hs (Ne.symm (cne x c hc)), fun j y v' e1 e2 e3 => ?_⟩, fun y c' e => ?_, I.free, I.freeC, fun p hp => ?_, tracked ⟨oc, hoc, I.freeC x c hc⟩ hs, by simpa using I.len⟩ ⟨c, hs, .inr hc⟩
    · exact (hs.2 b (Nat.ne_of_lt (Nat.lt_of_lt_of_le (Heap.lt_size e) (I.ok.cab x c hfn hc)))).trans (I.base.keep b o e n hb hx)
    · obtain ⟨sl, e1⟩ := I.base.slot b o e n hb hx
      exact ⟨sl, (hs.2 b (Nat.ne_of_lt (Nat.lt_of_lt_of_le (Heap.lt_size e) (I.ok.cab x c hfn hc)))).trans e1⟩
    · obtain ⟨o', e1⟩ := I.base.there b o e hx
      exact ⟨o', (hs.2 b (Nat.ne_of_lt (Nat.lt_of_lt_of_le (Heap.lt_size e) (I.ok.cab x c hfn hc)))).trans e1⟩
    · by_cases hj : j = i
      · subst hj
        rw [hi] at e1; cases e1
        rw [List.getElem?_set_self hiσ] at e2
        cases e2
        exact ⟨u, r, .inr ⟨.inl hk, c, hc, hc'⟩⟩
      · rw [List.getElem?_set_ne (Ne.symm hj)] at e2
        obtain ⟨u', r', q⟩ := hl j y v' e1 e2 e3
        refine ⟨u', r', ?_⟩
        rcases q with q | ⟨k, c', e, z'⟩
        · exact .inl q
        · refine .inr ⟨k, c', e, z'.sameBut hs ?_⟩
          rintro rfl
          exact hj (nodup_ix hN e1 (I.ok.inj _ _ _ e hc ▸ hi))
    · by_cases hcc : c' = c
      · subst hcc; exact ⟨_, hc'⟩
      · obtain ⟨w2, z2⟩ := I.cell y c' e
        exact ⟨w2, z2.sameBut hs hcc⟩
    · obtain ⟨e, n, ne, nf, d⟩ := I.pin p hp
      refine ⟨(hs.2 p.1 ?_).trans e, n, ne, nf, d⟩
      intro q
      rw [q, hoc] at e
      have q' : oc = p.2 := Option.some.inj e
      exact d w' (by rw [← q']; exact hocd)
theorem store_ok {M : Model} {A : Around} {E : Value → Shared → Prop} {i : Nat} {x : Str} {v : V} {u : Value} {Q : Unit → Shared → Prop} (I : Inv X pins σ H s) (hN : X.N.Nodup) (hi : X.N[i]? = some x) (hx : Loc X.env.scope x) (r : RelV v u)
    (h : ∀ s', Inv X pins (σ.set i (some v)) H s' → Q () s') (hf : X.fn x = true ∨ X.env.scope.names.lookup x = some .local := by first | exact .inl rfl | exact .inr rfl | assumption) : wpAny M A (storeName X.env x u) Q E s :=
  store_ok2 I hN hi hx r (fun s' I' _ => h s' I') hf
theorem Inv.call' {s' : Shared} {ch : List Addr} (I : Inv X pins σ H s) (ho : s'.os = s.os) (u : Un (frs X.stack) ch H H' s.heap s'.heap) (hok : HOk X.prog X.w H' s'.heap) (hg : AllBare s'.gens)
    (hch : ∀ b ∈ ch, (b ∈ X.ex ∨ X.s₀.heap.objs.size ≤ b) ∧ b ≠ X.env.locals ∧ (∀ x c, X.env.cells.lookup x = some c → c ≠ b) ∧ ∀ p ∈ X.pn ++ pins, p.1 ≠ b) : Inv X pins σ H' s' := by
  obtain ⟨h', g', d', t', o'⟩ := s'
  have e : o' = s.os := ho
  subst e
  exact I.call (g' := g') (t' := t') (d' := d') u hok hg hch
end
noncomputable abbrev XK := Value → Option Addr → Hp → Prop
noncomputable abbrev St := List (Option V)
noncomputable abbrev VK := V → Hp → Prop
noncomputable abbrev TE := St → Hp → VK → Prop
noncomputable abbrev TT := St → Hp → (Bool → Hp → Prop) → Prop
noncomputable abbrev TA := St → Hp → (List V → Hp → Prop) → Prop
structure Ends where
  nx : St → Hp → Prop
  rt : VK
  bk : St → Hp → Prop := fun _ _ => False
  ct : St → Hp → Prop := fun _ _ => False
noncomputable abbrev TS := Ends → St → Hp → Prop
noncomputable def EP (X : Cx) (pins : List (Addr × Obj)) (σ : St) (Q : VK) (u : Value) (s' : Shared) : Prop := ∃ v H', Inv X pins σ H' s' ∧ RelV v u ∧ Q v H'
noncomputable def TP (X : Cx) (pins : List (Addr × Obj)) (σ : St) (Q : Bool → Hp → Prop) (b : Bool) (s' : Shared) : Prop := ∃ H', Inv X pins σ H' s' ∧ Q b H'
noncomputable def AP (X : Cx) (pins : List (Addr × Obj)) (σ : St) (Q : List V → Hp → Prop) (us : List Value) (s' : Shared) : Prop := ∃ vs H', Inv X pins σ H' s' ∧ Vals vs us ∧ Q vs H'
noncomputable def SP (X : Cx) (pins : List (Addr × Obj)) (D : Ends) (f : Flow) (s' : Shared) : Prop :=
  match f with
  | .next => ∃ σ' H', Inv X pins σ' H' s' ∧ D.nx σ' H'
  | .brk => ∃ σ' H', Inv X pins σ' H' s' ∧ D.bk σ' H'
  | .cont => ∃ σ' H', Inv X pins σ' H' s' ∧ D.ct σ' H'
  | .ret u => ∃ v σ' H', Inv X pins σ' H' s' ∧ RelV v u ∧ D.rt v H'
noncomputable def PE (X : Cx) (e : Expr) (t : TE) : Prop :=
  ∀ (pins : List (Addr × Obj)) (s : Shared) (σ : St) (H : Hp) (Q : VK), Inv X pins σ H s → t σ H Q → wpAny (model X.prog X.w) X.A (eval e X.env) (EP X pins σ Q) X.xe s
noncomputable def PT (X : Cx) (e : Expr) (t : TT) : Prop :=
  ∀ (pins : List (Addr × Obj)) (s : Shared) (σ : St) (H : Hp) (Q : Bool → Hp → Prop), Inv X pins σ H s → t σ H Q → wpAny (model X.prog X.w) X.A (isTrue e X.env (eval e X.env)) (TP X pins σ Q) X.xe s
noncomputable def PW (X : Cx) (e : Expr) (t : TT) : Prop :=
  ∀ (whole : Sem Value) (pins : List (Addr × Obj)) (s : Shared) (σ : St) (H : Hp) (Q : Bool → Hp → Prop), Inv X pins σ H s → t σ H Q → wpAny (model X.prog X.w) X.A (isTrue e X.env whole) (TP X pins σ Q) X.xe s
theorem PW.pt {X : Cx} {e : Expr} {t : TT} (h : PW X e t) : PT X e t := h _
noncomputable def PA (X : Cx) (es : List Expr) (t : TA) : Prop :=
  ∀ (pos : Pos) (pins : List (Addr × Obj)) (s : Shared) (σ : St) (H : Hp) (Q : List V → Hp → Prop), Inv X pins σ H s → t σ H Q → wpAny (model X.prog X.w) X.A (spliced (backTo pos (starEach es X.env))) (AP X pins σ Q) X.xe s
noncomputable def PS (X : Cx) (st : Stmt) (t : TS) : Prop :=
  ∀ (pins : List (Addr × Obj)) (s : Shared) (σ : St) (H : Hp) (D : Ends), Inv X pins σ H s → t D σ H → wpAny (model X.prog X.w) X.A (exec st X.env) (SP X pins D) X.xe s
noncomputable def PSs (X : Cx) (st : List Stmt) (t : TS) : Prop :=
  ∀ (pins : List (Addr × Obj)) (s : Shared) (σ : St) (H : Hp) (D : Ends), Inv X pins σ H s → t D σ H → wpAny (model X.prog X.w) X.A (execs st X.env) (SP X pins D) X.xe s
theorem thn {α : Type} {t : Sem α} {Q Q' : α → Shared → Prop} {M : Model} {A : Around} {E : Value → Shared → Prop} {s : Shared} (h : wpAny M A t Q E s) (hQ : ∀ a s, Q a s → Q' a s) : wpAny M A t Q' E s := wpAny_mono h hQ fun _ _ x => x
end L2
namespace L2
open PySem PySem.Spec PyProof.Rows
section
variable {X : Cx}
noncomputable def tVar (i : Nat) : TE := fun σ H Q => ∃ v, σ[i]? = some (some v) ∧ Q v H
noncomputable def tC (v : V) : TE := fun _ H Q => Q v H
theorem pe_var {i : Nat} {x : Str} {pos : Pos} (hN : X.N[i]? = some x) (hv : Vis X.env.scope x) (hd : (x == ("__debug__" : Str)) = false := by decide) (hcd : (x == ("__classdict__" : Str)) = false := by decide) : PE X (.Name x pos) (tVar i) := by
  intro pins s σ H Q I h
  obtain ⟨v, e, h⟩ := h
  obtain ⟨m, hn, hl⟩ := I.loc
  obtain ⟨u, r, l⟩ := hl i x v hN e hv
  have fin : EP X pins σ Q u s := ⟨v, H, I, r, h⟩
  rcases l with ⟨hk, hm⟩ | ⟨hk, c, hc, hcell⟩
  · exact wpAny_Name (wpAny_loadName_local I.ok.kind hk hn hm fin) hd
  · rcases hk with hk | hk
    · exact wpAny_Name (wpAny_loadName_cell I.ok.kind hk hc hcell fin) hd
    · exact wpAny_Name (wpAny_loadName_free I.ok.kind hk hc hcell fin hcd) hd
theorem pe_int {i j pos} : PE X (.Constant (.int i) j pos) (tC (.int i)) := fun _ _ _ H _ I h => wpAny_Constant_int ⟨.int i, H, I.tok _, ⟨_, rfl⟩, h⟩
theorem pe_bl {b j pos} : PE X (.Constant (.bool b) j pos) (tC (.bl b)) := fun _ _ _ H _ I h => Constant_bool ⟨.bl b, H, I, rfl, h⟩
theorem pe_str {x j pos} : PE X (.Constant (.str x) j pos) (tC (.str x)) := fun _ _ _ H _ I h => Calls.Constant_str ⟨.str x, H, I.tok _, ⟨_, rfl⟩, h⟩
noncomputable def Gl (X : Cx) (x : Str) : Prop := X.env.kindOf x = some .globalImplicit
theorem ld_glob {E : Value → Shared → Prop} {pins : List (Addr × Obj)} {s : Shared} {σ : St} {H : Hp} {x : Str} {u : Value} {pos : Pos} {Q : Value → Shared → Prop} (I : Inv X pins σ H s) (hg : Gl X x) (hm : X.mg x = some u) (h : Q u s)
    (hd : (x == ("__debug__" : Str)) = false := by decide) : wpAny (model X.prog X.w) X.A (eval (.Name x pos) X.env) Q E s :=
  Calls.Name_function_global I.ok.kind hg (Calls.loadGlobal_global (by rw [I.ok.glob]; exact I.mod.glob.keeps I.bk) hm h) hd
theorem ld_blt {E : Value → Shared → Prop} {pins : List (Addr × Obj)} {s : Shared} {σ : St} {H : Hp} {x : Str} {u : Value} {pos : Pos} {Q : Value → Shared → Prop} (I : Inv X pins σ H s) (hg : Gl X x) (hm : X.mg x = none) (hv : bootBuiltins x = some u) (h : Q u s)
    (hn : x ≠ "__name__" := by decide) (hd : (x == ("__debug__" : Str)) = false := by decide) : wpAny (model X.prog X.w) X.A (eval (.Name x pos) X.env) Q E s := by
  obtain ⟨mb, h1, h2⟩ := I.mod.blt
  exact Calls.Name_function_global I.ok.kind hg (Calls.loadGlobal_builtin (by rw [I.ok.glob]; exact I.mod.glob.keeps I.bk) hm (by rw [I.ok.blt]; exact h1.keeps I.bk) ((h2 x hn).trans hv) h) hd
theorem pe_glob {x : Str} {v : V} {u : Value} {pos : Pos} (hg : Gl X x) (hm : X.mg x = some u) (r : RelV v u) (hd : (x == ("__debug__" : Str)) = false := by decide) : PE X (.Name x pos) (tC v) :=
  fun _ _ _ H _ I h => ld_glob I hg hm ⟨v, H, I, r, h⟩ hd
theorem pe_bltn {x : Str} {v : V} {u : Value} {pos : Pos} (hg : Gl X x) (hm : X.mg x = none) (hv : bootBuiltins x = some u) (r : RelV v u) (hn : x ≠ "__name__" := by decide) (hd : (x == ("__debug__" : Str)) = false := by decide) : PE X (.Name x pos) (tC v) :=
  fun _ _ _ H _ I h => ld_blt I hg hm hv ⟨v, H, I, r, h⟩ hn hd
variable {a b : Expr} {ta tb : TE} {pos : Pos}
noncomputable def tB (t : TE) : TT := fun σ H Q => t σ H fun x H1 => ∃ c, x = .bl c ∧ Q c H1
theorem pt_val {e : Expr} {t : TE} (h : PE X e t) (he : ∀ whole, isTrue e X.env whole = (do let v ← whole; standAt e.pos; holding [v] (truthy v)) := by intro _; rfl) : PT X e (tB t) := by
  intro pins s σ H Q I hw
  refine isTrue_plain (thn (h pins s σ H _ I hw) fun v s1 ⟨x, H1, I1, r1, q1⟩ => ?_) (he _)
  obtain ⟨d, rfl, q⟩ := q1
  cases r1
  exact wpAny_truthy_bool ⟨H1, I1, q⟩
variable {tA tB' : TT} {rest : List Expr}
noncomputable def tAnd (t u : TT) : TT := fun σ H Q => t σ H fun c H1 => if c = true then u σ H1 Q else Q false H1
noncomputable def tOr (t u : TT) : TT := fun σ H Q => t σ H fun c H1 => if c = true then Q true H1 else u σ H1 Q
noncomputable def tNot (t : TT) : TT := fun σ H Q => t σ H fun c H1 => Q (!c) H1
theorem pw_and1 (ha : PT X a tA) : PW X (.BoolOp .And [a] pos) tA := by
  intro wh pins s σ H Q I h
  refine isTrue_and (thn (ha pins s σ H Q I h) fun c s1 e => ?_)
  cases c with
  | true => exact isTrue_and_nil e
  | false => exact e
theorem pw_or1 (ha : PT X a tA) : PW X (.BoolOp .Or [a] pos) tA := by
  intro wh pins s σ H Q I h
  refine isTrue_or (thn (ha pins s σ H Q I h) fun c s1 e => ?_)
  cases c with
  | false => exact isTrue_or_nil e
  | true => exact e
theorem pw_and (ha : PT X a tA) (hb : PW X (.BoolOp .And (b :: rest) pos) tB') : PW X (.BoolOp .And (a :: b :: rest) pos) (tAnd tA tB') := by
  intro wh pins s σ H Q I h
  refine isTrue_and (thn (ha pins s σ H _ I h) fun c s1 ⟨H1, I1, q1⟩ => ?_)
  cases c with
  | true => exact hb wh pins s1 σ H1 Q I1 q1
  | false => exact ⟨H1, I1, q1⟩
theorem pw_or (ha : PT X a tA) (hb : PW X (.BoolOp .Or (b :: rest) pos) tB') : PW X (.BoolOp .Or (a :: b :: rest) pos) (tOr tA tB') := by
  intro wh pins s σ H Q I h
  refine isTrue_or (thn (ha pins s σ H _ I h) fun c s1 ⟨H1, I1, q1⟩ => ?_)
  cases c with
  | true => exact ⟨H1, I1, q1⟩
  | false => exact hb wh pins s1 σ H1 Q I1 q1
theorem pt_not (ha : PT X a tA) : PT X (.UnaryOp .Not a pos) (tNot tA) := by
  intro pins s σ H Q I h
  exact isTrue_not (ha pins s σ H (fun c H1 => Q (!c) H1) I h)
noncomputable def tAndV (ta tb : TE) : TE := fun σ H Q => ta σ H fun x H1 => ∃ c, x = .bl c ∧ if c = true then tb σ H1 Q else Q (.bl false) H1
noncomputable def tOrV (ta tb : TE) : TE := fun σ H Q => ta σ H fun x H1 => ∃ c, x = .bl c ∧ if c = true then Q (.bl true) H1 else tb σ H1 Q
theorem pe_one {op} {t : TE} (h : PE X a t) : PE X (.BoolOp op [a] pos) t := fun pins s σ H Q I hw => BoolOp_one (h pins s σ H Q I hw)
theorem pe_and (ha : PE X a ta) (hb : PE X (.BoolOp .And (b :: rest) pos) tb) : PE X (.BoolOp .And (a :: b :: rest) pos) (tAndV ta tb) := by
  intro pins s σ H Q I h
  refine BoolOp_and (thn (ha pins s σ H _ I h) fun v s1 ⟨x, H1, I1, r1, q1⟩ => ?_)
  obtain ⟨c, rfl, q1⟩ := q1
  cases r1
  refine wpAny_truthy_bool ?_
  cases c with
  | true => exact hb pins s1 σ H1 Q I1 q1
  | false => exact ⟨.bl false, H1, I1, rfl, q1⟩
theorem pe_or (ha : PE X a ta) (hb : PE X (.BoolOp .Or (b :: rest) pos) tb) : PE X (.BoolOp .Or (a :: b :: rest) pos) (tOrV ta tb) := by
  intro pins s σ H Q I h
  refine BoolOp_or (thn (ha pins s σ H _ I h) fun v s1 ⟨x, H1, I1, r1, q1⟩ => ?_)
  obtain ⟨c, rfl, q1⟩ := q1
  cases r1
  refine wpAny_truthy_bool ?_
  cases c with
  | false => exact hb pins s1 σ H1 Q I1 q1
  | true => exact ⟨.bl true, H1, I1, rfl, q1⟩
end
end L2
namespace L2
open PySem PySem.Spec PyProof.Rows
noncomputable def SqL (K : PySem.W.Frag) (H : Hp) (a : Addr) (xs : List V) : Prop :=
  Rd H a (.lst xs) ∨
    ∃ (o : Obj) (its : Array Value) (n : Nat), K.lookup a = some o ∧ o.cls = .type "list" ∧ o.dict = none ∧ o.data = .seq its n ∧ its.size ≤ sizeLine ∧ Vals xs its.toList
noncomputable def SqT (K : PySem.W.Frag) (H : Hp) (a : Addr) (xs : List V) : Prop :=
  Rd H a (.tup xs) ∨
    ∃ (o : Obj) (its : Array Value) (n : Nat), K.lookup a = some o ∧ o.cls = .type "tuple" ∧ o.data = .seq its n ∧ its.size ≤ sizeLine ∧ Vals xs its.toList
noncomputable def absV : Value → Option V
  | .none => some .non
  | .bool b => some (.bl b)
  | .int i _ => some (.int i)
  | .str x _ => some (.str x)
  | .bytes b _ => some (.byt b)
  | .float b _ => some (.flt b)
  | .ref a => some (.ref a)
  | .type n => some (.ty n)
  | _ => none
theorem RelV.abs {x : V} {u : Value} (r : RelV x u) : absV u = some x := by
  cases x with
  | non => cases r; rfl
  | bl _ => cases r; rfl
  | int _ => obtain ⟨t, rfl⟩ := r; rfl
  | str _ => obtain ⟨t, rfl⟩ := r; rfl
  | byt _ => obtain ⟨t, rfl⟩ := r; rfl
  | flt _ => obtain ⟨t, rfl⟩ := r; rfl
  | ref _ => cases r; rfl
  | ty _ => cases r; rfl
theorem RelV.inj {x y : V} {u : Value} (r : RelV x u) (q : RelV y u) : x = y := Option.some.inj (r.abs.symm.trans q.abs)
theorem Vals.inj : ∀ {xs ys : List V} {us : List Value}, Vals xs us → Vals ys us → xs = ys
  | _, _, _, .nil, .nil => rfl
  | _, _, _, .cons r t, .cons r' t' => by rw [r.inj r', Vals.inj t t']
section
variable {X : Cx} {pins : List (Addr × Obj)} {σ : St} {H : Hp} {s : Shared} {a : Addr} {xs ys : List V}
theorem SqL.of {K : PySem.W.Frag} (h : H a = some (.lst xs)) : SqL K H a xs := .inl (.inl h)
theorem SqT.of {K : PySem.W.Frag} (h : H a = some (.tup xs)) : SqT K H a xs := .inl (.inl h)
theorem Inv.list (I : Inv X pins σ H s) (h : SqL X.K H a xs) : ∃ its : List Value, Vals xs its ∧ PlainL s.heap a its.toArray ∧ xs.length ≤ sizeLine := by
  rcases h with h | ⟨o, its, n, hk, hc, hd, hs, hz, r⟩
  · obtain ⟨z, its, n, r, e⟩ := h.ok I.hok
    exact ⟨its, r, ⟨_, n, e, rfl, rfl, rfl⟩, z⟩
  · refine ⟨its.toList, r, ⟨o, n, I.kIn a o hk, hc, hd, by simpa using hs⟩, ?_⟩
    have e := r.length
    simp only [Array.length_toList] at e
    omega
theorem Inv.tuple (I : Inv X pins σ H s) (h : SqT X.K H a xs) : ∃ its : List Value, Vals xs its ∧ IsTup s.heap a its.toArray ∧ xs.length ≤ sizeLine := by
  rcases h with h | ⟨o, its, n, hk, hc, hs, hz, r⟩
  · obtain ⟨z, its, r, p⟩ := h.ok I.hok
    exact ⟨its, r, p, z⟩
  · refine ⟨its.toList, r, ⟨o, I.kIn a o hk, hc, n, by simpa using hs⟩, ?_⟩
    have e := r.length
    simp only [Array.length_toList] at e
    omega
theorem Inv.list_inj (I : Inv X pins σ H s) (h : SqL X.K H a xs) (h' : SqL X.K H a ys) : xs = ys := by
  obtain ⟨its, r, ⟨o, n, e, _, _, d⟩, _⟩ := I.list h
  obtain ⟨its', r', ⟨o', n', e', _, _, d'⟩, _⟩ := I.list h'
  rw [e] at e'; cases e'
  rw [d] at d'
  injection d' with d1 _
  have : its = its' := by simpa using congrArg Array.toList d1
  subst this
  exact r.inj r'
end
noncomputable abbrev Cx.wish (X : Cx) (E : Value → Shared → Prop) : Cx := { X with xe := E }
noncomputable abbrev Cx.nox (X : Cx) : Cx := X.wish fun _ _ => False
theorem Cx.Ok.wish {X : Cx} (ok : X.Ok) (E : Value → Shared → Prop) : (X.wish E).Ok :=
  ⟨ok.mod, ok.kind, ok.glob, ok.blt, ok.above, ok.inj, ok.has, ok.cab, ok.hd, ok.frames, ok.stk, ok.exf, ok.bs, ok.bsz, ok.noex, ok.exfs, ok.funs, ok.frf⟩
theorem Cx.Ok.unwish {X : Cx} {E : Value → Shared → Prop} (ok : (X.wish E).Ok) : X.Ok :=
  ⟨ok.mod, ok.kind, ok.glob, ok.blt, ok.above, ok.inj, ok.has, ok.cab, ok.hd, ok.frames, ok.stk, ok.exf, ok.bs, ok.bsz, ok.noex, ok.exfs, ok.funs, ok.frf⟩
section
variable {X : Cx} {pins : List (Addr × Obj)} {σ : St} {H : Hp} {s : Shared} {E : Value → Shared → Prop}
theorem Inv.wish (I : Inv X pins σ H s) (E : Value → Shared → Prop) : Inv (X.wish E) pins σ H s := ⟨I.ok.wish E, I.os, I.bare, I.base, I.loc, I.cell, I.free, I.freeC, I.pin, I.hok, I.len⟩
theorem Inv.unwish (I : Inv (X.wish E) pins σ H s) : Inv X pins σ H s := ⟨I.ok.unwish, I.os, I.bare, I.base, I.loc, I.cell, I.free, I.freeC, I.pin, I.hok, I.len⟩
theorem SP.unwish {D : Ends} {f : Flow} {s' : Shared} (h : SP (X.wish E) pins D f s') : SP X pins D f s' := by
  cases f with
  | next => obtain ⟨σ', H', I, q⟩ := h; exact ⟨σ', H', I.unwish, q⟩
  | brk => obtain ⟨σ', H', I, q⟩ := h; exact ⟨σ', H', I.unwish, q⟩
  | cont => obtain ⟨σ', H', I, q⟩ := h; exact ⟨σ', H', I.unwish, q⟩
  | ret u => obtain ⟨v, σ', H', I, r, q⟩ := h; exact ⟨v, σ', H', I.unwish, r, q⟩
theorem PSs.nox {st : List Stmt} {t : TS} (h : PSs X.nox st t) : PSs X st t := fun pins s σ H D I hw =>
  wpAny_mono (h pins s σ H D (I.wish _) hw) (fun _ _ q => q.unwish) fun _ _ z => False.elim z
end
section
variable {X : Cx} {st : Stmt} {rest : List Stmt} {t u : TS} {e : Expr} {te : TE} {pos : Pos}
noncomputable def tNext : TS := fun D σ H => D.nx σ H
noncomputable def tSeq (t u : TS) : TS := fun D σ H => t { D with nx := u D } σ H
theorem pss_nil : PSs X [] tNext := fun _ _ σ H _ I h => wpAny_execs_nil ⟨σ, H, I, h⟩
theorem pss_cons (h1 : PS X st t) (h2 : PSs X rest u) : PSs X (st :: rest) (tSeq t u) := by
  intro pins s σ H D I h
  refine wpAny_execs_cons (thn (h1 pins s σ H { D with nx := u D } I h) fun f s1 q => ?_)
  cases f with
  | next =>
    obtain ⟨σ', H', I', q⟩ := q
    exact h2 pins s1 σ' H' D I' q
  | ret v => exact q
  | brk => exact q
  | cont => exact q
theorem pss_one (h1 : PS X st t) : PSs X [st] t := by
  intro pins s σ H D I h
  refine wpAny_execs_cons (thn (h1 pins s σ H D I h) fun f s1 q => ?_)
  cases f with
  | next => exact wpAny_execs_nil q
  | ret v => exact q
  | brk => exact q
  | cont => exact q
theorem Inv.quiet {pins : List (Addr × Obj)} {σ : St} {H : Hp} {s : Shared} (I : Inv X pins σ H s) : interactive X.env = false := by simp [interactive, I.ok.kind]
noncomputable def tDrop (te : TE) : TS := fun D σ H => te σ H fun _ H1 => D.nx σ H1
theorem ps_expr (he : PE X e te) (hs : swapsWith e none pos.line X.env = pure false := by rfl) : PS X (.Expr e pos) (tDrop te) := by
  intro pins s σ H D I h
  exact wpAny_Expr_any (thn (he pins s σ H _ I h) fun v s1 ⟨x, H1, I1, r1, q1⟩ => ⟨σ, H1, I1, q1⟩) I.quiet hs
noncomputable def tRet (te : TE) : TS := fun D σ H => te σ H D.rt
theorem ps_ret (he : PE X e te) : PS X (.Return (some e) pos) (tRet te) := by
  intro pins s σ H D I h
  exact wpAny_Return_some (thn (he pins s σ H _ I h) fun v s1 ⟨x, H1, I1, r1, q1⟩ => ⟨x, σ, H1, I1, r1, q1⟩)
noncomputable def tIfS (c : TT) (t u : TS) : TS := fun D σ H => c σ H fun b H1 => if b = true then t D σ H1 else u D σ H1
theorem ps_if {c : Expr} {a b : List Stmt} {tc : TT} (hc : PT X c tc) (ha : PSs X a t) (hb : PSs X b u) : PS X (.If c a b pos) (tIfS tc t u) := by
  intro pins s σ H D I h
  refine wpAny_If (thn (hc pins s σ H _ I h) fun d s1 ⟨H1, I1, q1⟩ => ?_)
  cases d with
  | true => exact ha pins s1 σ H1 D I1 q1
  | false => exact hb pins s1 σ H1 D I1 q1
end
noncomputable abbrev TG := V → St → Hp → (St → Hp → Prop) → Prop
noncomputable abbrev TGs := List V → St → Hp → (St → Hp → Prop) → Prop
noncomputable def PG (X : Cx) (target : Expr) (t : TG) : Prop :=
  ∀ (pins : List (Addr × Obj)) (s : Shared) (σ : St) (H : Hp) (v : V) (u : Value) (Q : St → Hp → Prop), Inv X pins σ H s → RelV v u → t v σ H Q →
    wpAny (model X.prog X.w) X.A (assign target X.env u) (fun _ s' => ∃ σ' H', Inv X pins σ' H' s' ∧ Q σ' H') X.xe s
noncomputable def PGs (X : Cx) (ts : List Expr) (t : TGs) : Prop :=
  ∀ (pins : List (Addr × Obj)) (s : Shared) (σ : St) (H : Hp) (vs : List V) (us : List Value) (Q : St → Hp → Prop), Inv X pins σ H s → Vals vs us → t vs σ H Q →
    wpAny (model X.prog X.w) X.A (assignInOrder ((assignEach ts X.env).map (·.2)) us) (fun _ s' => ∃ σ' H', Inv X pins σ' H' s' ∧ Q σ' H') X.xe s
noncomputable abbrev TSet := V → V → V → Hp → (Hp → Prop) → Prop
noncomputable def PSet (X : Cx) (t : TSet) : Prop :=
  ∀ (pins : List (Addr × Obj)) (s : Shared) (σ : St) (H : Hp) (o i v : V) (ov iv u : Value) (Q : Hp → Prop), Inv X pins σ H s → RelV o ov → RelV i iv → RelV v u → t o i v H Q →
    wpAny (model X.prog X.w) X.A (setItem ov iv u) (fun _ s' => ∃ H', Inv X pins σ H' s' ∧ Q H') X.xe s
section
variable {X : Cx} {pos : Pos}
noncomputable def gName (i : Nat) : TG := fun v σ H Q => Q (σ.set i (some v)) H
theorem pg_name {i : Nat} {x : Str} (hN : X.N.Nodup) (hi : X.N[i]? = some x) (hx : Loc X.env.scope x) (hf : X.fn x = true ∨ X.env.scope.names.lookup x = some .local := by first | exact .inl rfl | exact .inr rfl | assumption) : PG X (.Name x pos) (gName i) := by
  intro pins s σ H v u Q I r h
  exact wpAny_assign_Name (store_ok I hN hi hx r (fun s' I' => ⟨_, H, I', h⟩) hf)
noncomputable def gNil : TGs := fun vs σ H Q => vs = [] ∧ Q σ H
noncomputable def gCons (t : TG) (u : TGs) : TGs := fun vs σ H Q => ∃ v r, vs = v :: r ∧ t v σ H fun σ' H' => u r σ' H' Q
theorem pgs_nil : PGs X [] gNil := by
  intro pins s σ H vs us Q I r h
  obtain ⟨e, h⟩ := h
  subst e
  cases r
  exact assignInOrder_nil ⟨σ, H, I, h⟩
theorem pgs_cons {e : Expr} {es : List Expr} {t : TG} {u : TGs} (h1 : PG X e t) (h2 : PGs X es u)
    (hs : (assignEach (e :: es) X.env).map (·.2) = assign e X.env :: (assignEach es X.env).map (·.2) := by rfl) : PGs X (e :: es) (gCons t u) := by
  intro pins s σ H vs us Q I r h
  obtain ⟨v, vr, e1, h⟩ := h
  subst e1
  cases r with
  | cons r rr =>
    rw [hs]
    refine assignInOrder_cons (thn (h1 pins s σ H _ _ _ I r h) fun _ s1 ⟨σ1, H1, I1, q1⟩ => ?_)
    exact h2 pins s1 σ1 H1 _ _ Q I1 rr q1
noncomputable def gTup (K : PySem.W.Frag) (n : Nat) (t : TGs) : TG := fun v σ H Q => ∃ a xs, v = .ref a ∧ SqT K H a xs ∧ xs.length = n ∧ t xs σ H Q
theorem pg_tup {es : List Expr} {k : Nat} {t : TGs} {n : Nat} (hc : X.calm = true) (h : PGs X es t)
    (hn : (assignEach es X.env).length = n := by rfl) (hst : (assignEach es X.env).findIdx? (·.1) = none := by rfl) : PG X (.Tuple es k pos) (gTup X.K n t) := by
  intro pins s σ H v u Q I r hw
  obtain ⟨a, xs, e1, hq, hl, hw⟩ := hw
  subst e1
  cases r
  obtain ⟨its, rv, ht, hz⟩ := I.tuple hq
  refine assign_Tuple_tuple (I.ok.hd hc) ht (by simp [hn, ← hl, rv.length]) hst fun h' hx => ?_
  have I1 : Inv X pins σ H { s with heap := h' } := I.kept (t' := s.toks) fun b o e => hx b o (Nat.ne_of_lt (Heap.lt_size e)) e
  exact h pins _ σ H xs _ Q I1 (by simpa using rv) hw
noncomputable def gSub (to ti : TE) (t : TSet) : TG := fun v σ H Q => to σ H fun o H1 => ti σ H1 fun i H2 => t o i v H2 fun H3 => Q σ H3
theorem pg_sub {o i : Expr} {to ti : TE} {t : TSet} (ho : PE X o to) (hi : PE X i ti) (hs : PSet X t)
    (ha : ∀ v, assign (.Subscript o i pos) X.env v = (do
      let ov ← holding [v] (eval o X.env)
      let iv ← holding [v, ov] (eval i X.env)
      standAt pos
      holding [v, ov, iv] (setItem ov iv v)
      release [v, ov, iv] []) := by intro _; rfl) : PG X (.Subscript o i pos) (gSub to ti t) := by
  intro pins s σ H v u Q I r h
  rw [ha]
  refine wpAny_bind (wpAny_holding (thn (ho pins s σ H _ I h) fun ov s1 ⟨x, H1, I1, r1, q1⟩ => ?_))
  refine wpAny_bind (wpAny_holding (thn (hi pins s1 σ H1 _ I1 q1) fun iv s2 ⟨y, H2, I2, r2, q2⟩ => ?_))
  refine wpAny_bind (wpAny_standAt (wpAny_bind (wpAny_holding (thn (hs pins s2 σ H2 x y v ov iv u _ I2 r1 r2 r q2) fun _ s3 ⟨H3, I3, q3⟩ => ?_))))
  exact wpAny_release ⟨σ, H3, I3, q3⟩
noncomputable def tAsg (te : TE) (g : TG) : TS := fun D σ H => te σ H fun x H1 => g x σ H1 D.nx
theorem ps_asg {tg e : Expr} {te : TE} {g : TG} (he : PE X e te) (hg : PG X tg g) (hs : swapsWithSole [tg] e pos.line X.env = pure false := by rfl) (hw : swappedStores [tg] e X.env = pure none := by rfl)
    (h1 : (assignEach [tg] X.env).map (·.2) = [assign tg X.env] := by rfl) : PS X (.Assign [tg] e pos) (tAsg te g) := by
  intro pins s σ H D I h
  refine wpAny_Assign_stores (thn (he pins s σ H _ I h) fun v s1 ⟨x, H1, I1, r1, q1⟩ => ?_) hs hw
  rw [h1]
  exact thn (hg pins s1 σ H1 x v _ I1 r1 q1) fun _ s2 q => q
theorem ps_set {i : Nat} {x : Str} {e : Expr} {te : TE} {pos' : Pos} (hN : X.N.Nodup) (hi : X.N[i]? = some x) (hx : Loc X.env.scope x) (he : PE X e te) (hs : swapsWith e (some (.Name x pos')) pos.line X.env = pure false := by rfl) (hf : X.fn x = true ∨ X.env.scope.names.lookup x = some .local := by first | exact .inl rfl | exact .inr rfl | assumption) :
    PS X (.Assign [.Name x pos'] e pos) (tAsg te (gName i)) := by
  intro pins s σ H D I h
  refine wpAny_Assign_Name (thn (he pins s σ H _ I h) fun v s1 ⟨y, H1, I1, r1, q1⟩ => ?_) hs
  exact store_ok I1 hN hi hx r1 (fun s2 I2 => ⟨_, H1, I2, q1⟩) hf
end
section
variable {X : Cx} {pos : Pos}
end
structure It where
  go : Nat → Hp → Prop
  yld : Nat → Hp → V → Hp → Prop
  stop : Nat → Hp → Prop
noncomputable def FpOk (X : Cx) (pins : List (Addr × Obj)) (H : Hp) (b : Addr) : Prop :=
  H b = none ∧ b ≠ X.env.locals ∧ b ∉ X.fs ∧ (b ∈ X.ex ∨ X.s₀.heap.objs.size ≤ b) ∧ (∀ x c, X.env.cells.lookup x = some c → c ≠ b) ∧ ∀ p ∈ X.pn ++ pins, p.1 ≠ b
theorem Inv.fpOk {X : Cx} {pins : List (Addr × Obj)} {σ : St} {H H' : Hp} {s : Shared} {b : Addr} (I : Inv X pins σ H s) (hb : s.heap.objs.size ≤ b) (hn : H' b = none) : FpOk X pins H' b := by
  refine ⟨hn, Nat.ne_of_gt (Nat.lt_of_lt_of_le I.lt hb), I.nofs hb, .inr (Nat.le_trans I.sz hb), fun x c e z => ?_, fun p hp z => ?_⟩
  · obtain ⟨v, q⟩ := I.cell x c e
    exact absurd (Nat.lt_of_lt_of_le q.lt (by rw [z]; exact hb)) (Nat.lt_irrefl _)
  · exact absurd (Nat.lt_of_lt_of_le (Heap.lt_size (I.pin p hp).1) (by rw [z]; exact hb)) (Nat.lt_irrefl _)
structure Turn (P : Program) (w : World) (K : PySem.W.Frag) (tg : Expr) (J : It) (fp : List Addr) (it : Addr) (tn : Nat → Heap → Prop) : Prop where
  mem : it ∈ fp
  obj : ∀ i h, tn i h → ∀ b ∈ fp, ∃ o, h.get? b = some o ∧ ∀ v, o.data ≠ .cell v
  keep : ∀ i h h', tn i h → (∀ b ∈ fp, ∀ o, h.get? b = some o → h'.get? b = some o) → tn i h'
  item : ∀ (X : Cx), X.prog = P → X.w = w → X.K = K → X.calm = true → ∀ (i : Nat) (pins : List (Addr × Obj)) (s : Shared) (σ : St) (H : Hp) (E : Value → Shared → Prop), Inv X pins σ H s → (∀ b ∈ fp, FpOk X pins H b) → tn i s.heap → J.go i H →
    wpAny (model P w) X.A (pyNext (.ref it)) (fun r s1 => ∃ u, r = some u ∧
      wpAny (model P w) X.A (letOwnedTupleGo tg (.ref it) u) (fun _ s2 => ∃ x H', Inv X pins σ H' s2 ∧ RelV x u ∧ J.yld i H x H' ∧ tn (i + 1) s2.heap ∧ ∀ b ∈ fp, H' b = none) E s1) E s
  done : ∀ (X : Cx), X.prog = P → X.w = w → X.K = K → X.calm = true → ∀ (i : Nat) (pins : List (Addr × Obj)) (s : Shared) (σ : St) (H : Hp) (E : Value → Shared → Prop), Inv X pins σ H s → (∀ b ∈ fp, FpOk X pins H b) → tn i s.heap → J.stop i H →
    wpAny (model P w) X.A (pyNext (.ref it)) (fun r s1 => r = none ∧ Inv X pins σ H s1) E s
  self : ∀ (A : Around) (i : Nat) (s : Shared) (Q : Value → Shared → Prop) (E : Value → Shared → Prop), tn i s.heap → Q (.ref it) s → wpAny (model P w) A (pyIter (.ref it)) Q E s
noncomputable abbrev TI := St → Hp → (It → Hp → Prop) → Prop
noncomputable def PIE (X : Cx) (pins : List (Addr × Obj)) (σ : St) (tg : Expr) (R : It → Hp → Prop) (itv : Value) (s2 : Shared) : Prop :=
  ∃ (it : Addr) (fp : List Addr) (tn : Nat → Heap → Prop) (J : It) (H' : Hp), itv = .ref it ∧ Inv X pins σ H' s2 ∧ Turn X.prog X.w X.K tg J fp it tn ∧ tn 0 s2.heap ∧ (∀ b ∈ fp, FpOk X pins H' b) ∧ R J H'
noncomputable def PI (X : Cx) (tg iter : Expr) (wi : TI) : Prop :=
  ∀ (pins : List (Addr × Obj)) (s : Shared) (σ : St) (H : Hp) (R : It → Hp → Prop), Inv X pins σ H s → wi σ H R →
    wpAny (model X.prog X.w) X.A (eval iter X.env) (fun v s1 => wpAny (model X.prog X.w) X.A (pyIter v) (PIE X pins σ tg R) X.xe s1) X.xe s
theorem go_of {M : Model} {A : Around} {E : Value → Shared → Prop} {s : Shared} {tg : Expr} {it : Addr} {u : Value} {o : Obj} {n : String} {vs : Array Value} {Q : Unit → Shared → Prop} (ho : s.heap.get? it = some o) (hc : o.cls = .type n) (hd : o.data = .fields vs)
    (hn : ["enumerate", "zip", "dict_itemiterator", "dict_reverseitemiterator", "odict_iterator", "itertools.zip_longest", "itertools.pairwise"].contains n = false) (hQ : Q () s) : wpAny M A (letOwnedTupleGo tg (.ref it) u) Q E s := by
  unfold letOwnedTupleGo
  cases tg <;> first
    | exact wpAny_pure hQ
    | (cases u <;> first
        | exact wpAny_pure hQ
        | (refine wpAny_bind (wpAny_load ho ?_)
           rw [hc, hd]
           show wpAny M A (if (["enumerate", "zip", "dict_itemiterator", "dict_reverseitemiterator", "odict_iterator", "itertools.zip_longest", "itertools.pairwise"].contains n && vs[0]? == some (rawInt _)) = true then _ else _) Q E s
           rw [if_neg (by intro h; rw [hn, Bool.false_and] at h; cases h)]
           exact wpAny_pure hQ))
noncomputable def Itl (K : PySem.W.Frag) (a : Addr) : It :=
  ⟨fun i H => ∃ xs x, SqL K H a xs ∧ xs[i]? = some x, fun i H x H' => H' = H ∧ ∀ xs, SqL K H a xs → xs[i]? = some x, fun i H => ∃ xs, SqL K H a xs ∧ xs.length ≤ i⟩
noncomputable def Itr (lo : Int) (n : Nat) : It := ⟨fun i _ => i < n, fun i H x H' => H' = H ∧ x = .int (lo + i), fun i _ => n ≤ i⟩
theorem turn_list {P : Program} {w : World} {K : PySem.W.Frag} {tg : Expr} (a it : Addr) : Turn P w K tg (Itl K a) [it] it (fun i h => h.IsListIter it a i) where
  mem := by simp
  obj := fun i h st b hb => by
    have e : b = it := by simpa using hb
    subst e
    obtain ⟨o, e, c, d⟩ := st
    exact ⟨o, e, fun v z => by rw [d] at z; cases z⟩
  keep := fun i h h' st k => st.at fun o e => k it (by simp) o e
  item := by
    intro X hP hw hK hc i pins s σ H E I hf st hg
    subst hP hw hK
    obtain ⟨xs, x, hq, hx⟩ := hg
    obtain ⟨its, rv, p, hz⟩ := I.list hq
    obtain ⟨u, hu, ru⟩ := rv.get hx
    obtain ⟨f0, f1, f2, f3, f4, f5⟩ := hf it (by simp)
    refine wpAny_pyNext_list_item st p.isList (x := u) (by simpa using hu) fun h' st' sb => ?_
    have I1 : Inv X pins σ H { s with heap := h' } := I.turned (t' := s.toks) (fun b o hb e => (sb.2 b hb).trans e) f0 f1 f3 f4 f5
    obtain ⟨o, e, c, d⟩ := id st'
    exact ⟨u, rfl, go_of (s := { s with heap := h' }) e c d (by decide) ⟨x, H, I1, ru, ⟨rfl, fun ys hy => by rw [I.list_inj hy hq]; exact hx⟩, st', fun b hb => (hf b hb).1⟩⟩
  done := by
    intro X hP hw hK hc i pins s σ H E I hf st hg
    subst hP hw hK
    obtain ⟨xs, hq, hx⟩ := hg
    obtain ⟨its, rv, p, hz⟩ := I.list hq
    obtain ⟨f0, f1, f2, f3, f4, f5⟩ := hf it (by simp)
    have hl := rv.length
    exact wpAny_pyNext_list_end (I.ok.hd hc) st p.isList (by simp; omega) fun h' eb => ⟨rfl, I.turned (t' := s.toks) (fun b o hb e => eb b o hb e) f0 f1 f3 f4 f5⟩
  self := fun _ _ _ _ _ st h => wpAny_pyIter_listiter st h
theorem turn_range {P : Program} {w : World} {K : PySem.W.Frag} {tg : Expr} (it : Addr) (lo : Int) (n : Nat) : Turn P w K tg (Itr lo n) [it] it (fun i h => IsRangeIter h it (lo + (i : Nat) * 1) ((n : Int) - (i : Nat)) 1) where
  mem := by simp
  obj := fun i h st b hb => by
    have e : b = it := by simpa using hb
    subst e
    exact ⟨_, st, fun v z => by
      have z' : Data.fields _ = Data.cell v := z
      cases z'⟩
  keep := fun i h h' st k => k it (by simp) _ st
  item := by
    intro X hP hw hK hc i pins s σ H E I hf st hg
    subst hP hw hK
    obtain ⟨f0, f1, f2, f3, f4, f5⟩ := hf it (by simp)
    have W := Walks.range (prog := X.prog) (w := X.w) (I.ok.hd hc) it lo 1 n
    refine W.item i s _ _ hg st fun v h' tk hv st' kk => ?_
    obtain ⟨t, rfl⟩ := hv
    have I1 : Inv X pins σ H { s with heap := h', toks := tk } := I.turned (fun b o hb e => kk b o (by simpa using hb) e) f0 f1 f3 f4 f5
    refine ⟨_, rfl, go_of (s := { s with heap := h', toks := tk }) (n := "range_iterator") st' rfl rfl (by decide) ⟨.int (lo + i), H, I1, ⟨t, ?_⟩, ⟨rfl, rfl⟩, st', fun b hb => (hf b hb).1⟩⟩
    rw [Int.mul_one]
  done := by
    intro X hP hw hK hc i pins s σ H E I hf st hg
    subst hP hw hK
    obtain ⟨f0, f1, f2, f3, f4, f5⟩ := hf it (by simp)
    exact wpAny_pyNext_range_end (I.ok.hd hc) st (by have : n ≤ i := hg; omega) fun h' eb => ⟨rfl, I.turned (t' := s.toks) (fun b o hb e => eb b o hb e) f0 f1 f3 f4 f5⟩
  self := fun _ _ _ _ _ st h => wpAny_pyIter_rangeiter st h
end L2
namespace L2
open PySem PySem.Spec PyProof.Rows
section
variable {X : Cx} {tg : Expr}
noncomputable def iList (K : PySem.W.Frag) (tl : TE) : TI := fun σ H R => tl σ H fun x H1 => ∃ a, x = .ref a ∧ (∃ xs, SqL K H1 a xs) ∧ R (Itl K a) H1
theorem pi_list {l : Expr} {tl : TE} (hl : PE X l tl) : PI X tg l (iList X.K tl) := by
  intro pins s σ H R I h
  refine thn (hl pins s σ H _ I h) fun v s1 ⟨x, H1, I1, r1, q1⟩ => ?_
  obtain ⟨a, e, ⟨xs, hq⟩, q⟩ := q1
  subst e
  cases r1
  obtain ⟨its, rv, p, hz⟩ := I1.list hq
  refine wpAny_pyIter_list p.isList ?_
  refine ⟨s1.heap.objs.size, [s1.heap.objs.size], _, _, H1, rfl, I1.kept (t' := s1.toks) fun b o e => Heap.get?_push_of_some _ e, turn_list a _, ⟨_, Heap.get?_push_size _ rfl, rfl, rfl⟩, fun b hb => ?_, q⟩
  have e : b = s1.heap.objs.size := by simpa using hb
  subst e
  exact I1.fpOk (Nat.le_refl _) (I1.hok.fresh (Nat.le_refl _))
theorem range_it {pins : List (Addr × Obj)} {σ : St} {H : Hp} {s : Shared} {R : It → Hp → Prop} {E : Value → Shared → Prop} {lo hi : Int} {t u v : Tok} {tk : Nat} (I : Inv X pins σ H s) (h1 : -(2 ^ 62) ≤ lo) (h2 : lo < 2 ^ 62) (h3 : -(2 ^ 62) ≤ hi) (h4 : hi < 2 ^ 62)
    (q : R (Itr lo (hi - lo).toNat) H) : wpAny (model X.prog X.w) X.A (pyIter (.ref s.heap.objs.size)) (PIE X pins σ tg R) E { s with heap := s.heap.push { cls := .type "range", data := .fields #[.int lo t, .int hi u, .int 1 v] }, toks := tk } := by
  refine wpAny_pyIter_range (IsRange.new ..) (small_one h1 h2 h3 h4) ?_
  have I1 : Inv X pins σ H { s with heap := s.heap.push { cls := .type "range", data := .fields #[.int lo t, .int hi u, .int 1 v] }, toks := tk } := I.kept fun b o e => Heap.get?_push_of_some _ e
  refine ⟨(s.heap.push { cls := .type "range", data := .fields #[.int lo t, .int hi u, .int 1 v] }).objs.size, [(s.heap.push { cls := .type "range", data := .fields #[.int lo t, .int hi u, .int 1 v] }).objs.size], _, _, H, rfl,
    I1.kept (t' := tk) fun b o e => Heap.get?_push_of_some _ e, turn_range _ lo (hi - lo).toNat, ?_, fun b hb => ?_, q⟩
  · have e1 : lo + ((0 : Nat) : Int) * 1 = lo := by simp
    have e2 : (((hi - lo).toNat : Nat) : Int) - ((0 : Nat) : Int) = Builtin.Range.rangeSize lo hi 1 := by rw [rangeSize_one]; split <;> omega
    show IsRangeIter _ _ (lo + ((0 : Nat) : Int) * 1) ((((hi - lo).toNat : Nat) : Int) - ((0 : Nat) : Int)) 1
    rw [e1, e2]
    exact Heap.get?_push_size _ rfl
  · have e : b = (s.heap.push { cls := .type "range", data := .fields #[.int lo t, .int hi u, .int 1 v] }).objs.size := by simpa using hb
    subst e
    exact I1.fpOk (Nat.le_refl _) (I1.hok.fresh (Nat.le_refl _))
noncomputable def iRng1 (ta : TA) : TI := fun σ H R => ta σ H fun vs H1 => ∃ j : Int, vs = [.int j] ∧ -(2 ^ 62) ≤ j ∧ j < 2 ^ 62 ∧ R (Itr 0 j.toNat) H1
theorem pi_range1 {a : Expr} {ta : TA} {p pos : Pos} (hg : Gl X "range") (hm : X.mg "range" = none) (ha : PA X [a] ta) (hs : starEach [a] X.env = [(false, eval a X.env)] := by rfl) : PI X tg (.Call (.Name "range" p) [a] [] pos) (iRng1 ta) := by
  intro pins s σ H R I h
  refine Call_ (ld_blt I hg hm boot_range (PyProof.Rows.callWith_type1 (thn (ha pos pins s σ H _ I h) fun us s1 ⟨vs, H1, I1, r1, q1⟩ => ?_) hs rfl))
  obtain ⟨j, e, q1, q2, q⟩ := q1
  subst e
  cases r1 with
  | cons r rr =>
    cases rr
    obtain ⟨t, rfl⟩ := r
    exact call_range_1 (range_it I1 (by omega) (by omega) q1 q2 (by simpa using q))
noncomputable def tFor (wi : TI) (g : TG) (tb : TS) : TS := fun D σ H => wi σ H fun J H1 => ∃ W : Nat → Nat → St → Hp → Prop, (∃ m, W 0 m σ H1) ∧ ∀ i m σ H, W i m σ H →
  (J.stop i H ∧ D.nx σ H) ∨ (J.go i H ∧ ∃ N : St → Hp → Prop, (∀ σ' H', N σ' H' → ∃ m', m' < m ∧ W (i + 1) m' σ' H') ∧ ∀ x H', J.yld i H x H' → g x σ H' fun σ2 H2 => tb { D with nx := N, ct := N, bk := D.nx } σ2 H2)
noncomputable def pinsAt (fp : List Addr) (h : Heap) : List (Addr × Obj) := fp.filterMap fun b => (h.get? b).map fun o => (b, o)
theorem mem_pinsAt {fp : List Addr} {h : Heap} {b : Addr} {o : Obj} (hb : b ∈ fp) (e : h.get? b = some o) : (b, o) ∈ pinsAt fp h := List.mem_filterMap.mpr ⟨b, hb, by rw [e]; rfl⟩
theorem of_pinsAt {fp : List Addr} {h : Heap} {p : Addr × Obj} (hp : p ∈ pinsAt fp h) : p.1 ∈ fp ∧ h.get? p.1 = some p.2 := by
  obtain ⟨b, hb, e⟩ := List.mem_filterMap.mp hp
  cases q : h.get? b with
  | none => rw [q] at e; cases e
  | some o =>
    rw [q] at e
    have e' : (b, o) = p := Option.some.inj e
    subst e'
    exact ⟨hb, q⟩
theorem Inv.pinned {pins : List (Addr × Obj)} {σ : St} {H : Hp} {s : Shared} {fp : List Addr} (I : Inv X pins σ H s) (hf : ∀ b ∈ fp, FpOk X pins H b) (ho : ∀ b ∈ fp, ∃ o, s.heap.get? b = some o ∧ ∀ v, o.data ≠ .cell v) : Inv X (pins ++ pinsAt fp s.heap) σ H s :=
  I.pins_of fun p hp => (List.mem_append.mp hp).elim (fun z => I.pin p (List.mem_append_right _ z)) fun z => by
    obtain ⟨hb, e⟩ := of_pinsAt z
    obtain ⟨f0, f1, f2, _⟩ := hf p.1 hb
    obtain ⟨o, e', d⟩ := ho p.1 hb
    rw [e] at e'; cases e'
    exact ⟨e, f0, f1, f2, d⟩
theorem Inv.unpinned {pins pl : List (Addr × Obj)} {σ : St} {H : Hp} {s : Shared} (I : Inv X (pins ++ pl) σ H s) : Inv X pins σ H s := I.pins_of fun p hp => I.pin p (List.mem_append_right _ (List.mem_append_left _ hp))
theorem ps_for {iter : Expr} {body : List Stmt} {wi : TI} {g : TG} {tb : TS} {pos : Pos} (hp : PassesOwn (model X.prog X.w) X.A X.env X.xe) (hc : X.calm = true) (hi : PI X tg iter wi) (hg : PG X tg g) (hb : PSs X body tb)
    (hs : ∀ x, foldedSetIterable iter X.env x = pure x := by intro _; rfl) : PS X (.For tg iter body [] pos) (tFor wi g tb) := by
  intro pins s σ H D I h
  refine wpAny_For (thn (hi pins s σ H _ I h) fun v s1 h1 => thn h1 fun itv s2 h2 => ?_) hs
  obtain ⟨it, fp, tn, J, H2, e, I2, T, st2, f2, W, ⟨m0, w0⟩, turn⟩ := h2
  subst e
  have stat : ∀ {H' : Hp}, (∀ b ∈ fp, H' b = none) → ∀ b ∈ fp, FpOk X pins H' b := fun hn b hb => ⟨hn b hb, (f2 b hb).2⟩
  refine codeAny_forLoop_any (fun n s' => ∃ i σ' H', Inv X pins σ' H' s' ∧ tn i s'.heap ∧ (∀ b ∈ fp, H' b = none) ∧ W i n σ' H') ?_ m0 ⟨0, σ, H2, I2, st2, fun b hb => (f2 b hb).1, w0⟩
  rintro n s3 ⟨i, σ3, H3, I3, st3, fr3, w3⟩
  rcases turn i n σ3 H3 w3 with ⟨stop, qn⟩ | ⟨go, N, hN, step⟩
  · refine wpAny_passesOwn hp (thn (T.done X rfl rfl rfl hc i pins s3 σ3 H3 X.xe I3 (stat fr3) st3 stop) fun r s4 ⟨hr, I4⟩ => ?_)
    subst hr
    exact wpAny_execs_nil ⟨σ3, H3, I4, qn⟩
  · refine wpAny_passesOwn hp (thn (T.item X rfl rfl rfl hc i pins s3 σ3 H3 X.xe I3 (stat fr3) st3 go) fun r s4 ⟨u, hr, h4⟩ => ?_)
    subst hr
    refine wpAny_passesOwn hp (thn h4 fun _ s5 ⟨x, H5, I5, r5, y5, st5, fr5⟩ => ?_)
    have I5' := I5.pinned (stat fr5) (T.obj _ _ st5)
    refine wpAny_passesOwn hp (thn (hg _ s5 σ3 H5 x u _ I5' r5 (step x H5 y5)) fun _ s6 ⟨σ6, H6, I6, q6⟩ => ?_)
    refine wpAny_passesOwn hp (thn (hb _ s6 σ6 H6 _ I6 q6) fun f s7 q7 => ?_)
    have again : ∀ {σ7 : St} {H7 : Hp}, Inv X (pins ++ pinsAt fp s5.heap) σ7 H7 s7 → N σ7 H7 → ∃ m, m < n ∧ ∃ i σ' H', Inv X pins σ' H' s7 ∧ tn i s7.heap ∧ (∀ b ∈ fp, H' b = none) ∧ W i m σ' H' := fun {σ7 H7} I7 n7 => by
      obtain ⟨m', hm, w7⟩ := hN σ7 H7 n7
      refine ⟨m', hm, i + 1, σ7, H7, I7.unpinned, T.keep _ _ _ st5 fun b hb o e => (I7.pin (b, o) (List.mem_append_right _ (List.mem_append_right _ (mem_pinsAt hb e)))).1, fun b hb => ?_, w7⟩
      obtain ⟨o, e, d⟩ := T.obj _ _ st5 b hb
      exact (I7.pin (b, o) (List.mem_append_right _ (List.mem_append_right _ (mem_pinsAt hb e)))).2.1
    cases f with
    | next => obtain ⟨σ7, H7, I7, n7⟩ := q7; exact again I7 n7
    | cont => obtain ⟨σ7, H7, I7, n7⟩ := q7; exact again I7 n7
    | brk => obtain ⟨σ7, H7, I7, q7⟩ := q7; exact ⟨σ7, H7, I7.unpinned, q7⟩
    | ret v => obtain ⟨x7, σ7, H7, I7, r7, q7⟩ := q7; exact ⟨x7, σ7, H7, I7.unpinned, r7, q7⟩
end
theorem for_list {K : PySem.W.Frag} {a : Addr} {xs : List V} {g : TG} {tb : TS} {D : Ends} {σ : St} {H : Hp} (Pv : Nat → St → Hp → Prop) (h0 : Pv 0 σ H) (hl : ∀ i σ H, i ≤ xs.length → Pv i σ H → SqL K H a xs)
    (hs : ∀ i x σ H, xs[i]? = some x → Pv i σ H → g x σ H fun σ2 H2 => tb { D with nx := Pv (i + 1), ct := Pv (i + 1), bk := D.nx } σ2 H2) (hd : ∀ σ H, Pv xs.length σ H → D.nx σ H) :
    ∃ W : Nat → Nat → St → Hp → Prop, (∃ m, W 0 m σ H) ∧ ∀ i m σ H, W i m σ H →
      ((Itl K a).stop i H ∧ D.nx σ H) ∨ ((Itl K a).go i H ∧ ∃ N : St → Hp → Prop, (∀ σ' H', N σ' H' → ∃ m', m' < m ∧ W (i + 1) m' σ' H') ∧ ∀ x H', (Itl K a).yld i H x H' → g x σ H' fun σ2 H2 => tb { D with nx := N, ct := N, bk := D.nx } σ2 H2) := by
  refine ⟨fun i m σ H => m = xs.length - i ∧ i ≤ xs.length ∧ Pv i σ H, ⟨xs.length, by simp, Nat.zero_le _, h0⟩, ?_⟩
  rintro i m σ H ⟨rfl, hi, p⟩
  have q := hl i σ H hi p
  by_cases hlt : i < xs.length
  · refine .inr ⟨⟨xs, xs[i], q, by simp [hlt]⟩, Pv (i + 1), fun σ' H' p' => ⟨xs.length - (i + 1), by omega, rfl, hlt, p'⟩, fun x H' y => ?_⟩
    obtain ⟨e, y⟩ := y
    subst e
    exact hs i x σ _ (y xs q) p
  · have e : i = xs.length := by omega
    subst e
    exact .inl ⟨⟨xs, q, Nat.le_refl _⟩, hd σ H p⟩
theorem for_range {lo : Int} {n : Nat} {g : TG} {tb : TS} {D : Ends} {σ : St} {H : Hp} (Pv : Nat → St → Hp → Prop) (h0 : Pv 0 σ H)
    (hs : ∀ i σ H, i < n → Pv i σ H → g (.int (lo + i)) σ H fun σ2 H2 => tb { D with nx := Pv (i + 1), ct := Pv (i + 1), bk := D.nx } σ2 H2) (hd : ∀ σ H, Pv n σ H → D.nx σ H) :
    ∃ W : Nat → Nat → St → Hp → Prop, (∃ m, W 0 m σ H) ∧ ∀ i m σ H, W i m σ H →
      ((Itr lo n).stop i H ∧ D.nx σ H) ∨ ((Itr lo n).go i H ∧ ∃ N : St → Hp → Prop, (∀ σ' H', N σ' H' → ∃ m', m' < m ∧ W (i + 1) m' σ' H') ∧ ∀ x H', (Itr lo n).yld i H x H' → g x σ H' fun σ2 H2 => tb { D with nx := N, ct := N, bk := D.nx } σ2 H2) := by
  refine ⟨fun i m σ H => m = n - i ∧ i ≤ n ∧ Pv i σ H, ⟨n, by simp, Nat.zero_le _, h0⟩, ?_⟩
  rintro i m σ H ⟨rfl, hi, p⟩
  by_cases hlt : i < n
  · refine .inr ⟨hlt, Pv (i + 1), fun σ' H' p' => ⟨n - (i + 1), by omega, rfl, hlt, p'⟩, fun x H' y => ?_⟩
    obtain ⟨e, y⟩ := y
    subst e y
    exact hs i σ _ hlt p
  · have e : i = n := by omega
    subst e
    exact .inl ⟨Nat.le_refl _, hd σ H p⟩
end L2
namespace L2
open PySem PySem.Spec PyProof.Rows
noncomputable abbrev R2 := V → V → Hp → VK → Prop
noncomputable def OpR (X : Cx) (f : Value → Value → Sem Value) (r : R2) : Prop :=
  ∀ (pins : List (Addr × Obj)) (s : Shared) (σ : St) (H : Hp) (x y : V) (v u : Value) (Q : VK), Inv X pins σ H s → RelV x v → RelV y u → r x y H Q →
    wpAny (model X.prog X.w) X.A (f v u) (EP X pins σ Q) X.xe s
noncomputable def UnR (X : Cx) (f : Value → Sem Value) (r : V → Hp → VK → Prop) : Prop :=
  ∀ (pins : List (Addr × Obj)) (s : Shared) (σ : St) (H : Hp) (x : V) (v : Value) (Q : VK), Inv X pins σ H s → RelV x v → r x H Q →
    wpAny (model X.prog X.w) X.A (f v) (EP X pins σ Q) X.xe s
noncomputable def CallR (X : Cx) (f : Value) (r : List V → Hp → VK → Prop) : Prop :=
  ∀ (pins : List (Addr × Obj)) (s : Shared) (σ : St) (H : Hp) (xs : List V) (us : List Value) (Q : VK), Inv X pins σ H s → Vals xs us → r xs H Q →
    wpAny (model X.prog X.w) X.A (call f us) (EP X pins σ Q) X.xe s
noncomputable def tOp (r : R2) (ta tb : TE) : TE := fun σ H Q => ta σ H fun x H1 => tb σ H1 fun y H2 => r x y H2 Q
noncomputable def tUn (r : V → Hp → VK → Prop) (ta : TE) : TE := fun σ H Q => ta σ H fun x H1 => r x H1 Q
noncomputable def rI (C : Int → Int → Prop) (g : Int → Int → V) : R2 := fun x y H Q => ∃ i j, x = .int i ∧ y = .int j ∧ C i j ∧ Q (g i j) H
noncomputable def rI0 (g : Int → Int → V) : R2 := fun x y H Q => ∃ i j, x = .int i ∧ y = .int j ∧ Q (g i j) H
noncomputable def rU (g : Int → V) : V → Hp → VK → Prop := fun x H Q => ∃ i, x = .int i ∧ Q (g i) H
section
variable {X : Cx} {a b c : Expr} {ta tb tc : TE} {pos : Pos}
theorem binT (ha : PE X a ta) (hb : PE X b tb) {pins : List (Addr × Obj)} {s : Shared} {σ : St} {H : Hp} {R : V → V → Hp → Prop} (I : Inv X pins σ H s)
    (h : ta σ H fun x H1 => tb σ H1 fun y H2 => R x y H2) {Q : Value → Shared → Prop} {f : Value → Value → Sem Value}
    (hf : ∀ v u s2 x y H2, Inv X pins σ H2 s2 → RelV x v → RelV y u → R x y H2 → wpAny (model X.prog X.w) X.A (f v u) Q X.xe s2) :
    wpAny (model X.prog X.w) X.A (eval a X.env) (fun v s₁ => wpAny (model X.prog X.w) X.A (eval b X.env) (fun u s₂ => wpAny (model X.prog X.w) X.A (f v u) Q X.xe s₂) X.xe s₁) X.xe s := by
  refine thn (ha pins s σ H _ I h) fun v s1 ⟨x, H1, I1, r1, q1⟩ => ?_
  refine thn (hb pins s1 σ H1 _ I1 q1) fun u s2 ⟨y, H2, I2, r2, q2⟩ => ?_
  exact hf v u s2 x y H2 I2 r1 r2 q2
theorem pe_op {op : Operator} {r : R2} (ho : OpR X (binaryOp op) r) (ha : PE X a ta) (hb : PE X b tb) : PE X (.BinOp a op b pos) (tOp r ta tb) := by
  intro pins s σ H Q I h
  exact wpAny_BinOp (binT ha hb I h fun v u s2 x y H2 I2 rx ry q => ho pins s2 σ H2 x y v u Q I2 rx ry q)
theorem pe_un {op : UnaryOp} {r : V → Hp → VK → Prop} (ho : UnR X (unaryOp op) r) (ha : PE X a ta) : PE X (.UnaryOp op a pos) (tUn r ta) := by
  intro pins s σ H Q I h
  exact UnaryOp_ (thn (ha pins s σ H _ I h) fun v s1 ⟨x, H1, I1, r1, q1⟩ => ho pins s1 σ H1 x v Q I1 r1 q1)
theorem opI {f : Value → Value → Sem Value} {C : Int → Int → Prop} {g : Int → Int → Int}
    (rule : ∀ (i j : Int) (t u : Tok) (s : Shared) (Q : Value → Shared → Prop) (E : Value → Shared → Prop), C i j → Q (.int (g i j) s.toks) { s with toks := s.toks + 1 } → wpAny (model X.prog X.w) X.A (f (.int i t) (.int j u)) Q E s) :
    OpR X f (rI C fun i j => .int (g i j)) := by
  intro pins s σ H x y v u Q I rx ry h
  obtain ⟨i, j, rfl, rfl, hc, q⟩ := h
  obtain ⟨t, rfl⟩ := rx
  obtain ⟨t', rfl⟩ := ry
  exact rule i j t t' s _ _ hc ⟨.int (g i j), H, I.tok _, ⟨_, rfl⟩, q⟩
theorem opI0 {f : Value → Value → Sem Value} {g : Int → Int → Int}
    (rule : ∀ (i j : Int) (t u : Tok) (s : Shared) (Q : Value → Shared → Prop) (E : Value → Shared → Prop), Q (.int (g i j) s.toks) { s with toks := s.toks + 1 } → wpAny (model X.prog X.w) X.A (f (.int i t) (.int j u)) Q E s) :
    OpR X f (rI0 fun i j => .int (g i j)) := by
  intro pins s σ H x y v u Q I rx ry h
  obtain ⟨i, j, rfl, rfl, q⟩ := h
  obtain ⟨t, rfl⟩ := rx
  obtain ⟨t', rfl⟩ := ry
  exact rule i j t t' s _ _ ⟨.int (g i j), H, I.tok _, ⟨_, rfl⟩, q⟩
theorem opB0 {f : Value → Value → Sem Value} {g : Int → Int → Bool}
    (rule : ∀ (i j : Int) (t u : Tok) (s : Shared) (Q : Value → Shared → Prop) (E : Value → Shared → Prop), Q (.bool (g i j)) s → wpAny (model X.prog X.w) X.A (f (.int i t) (.int j u)) Q E s) :
    OpR X f (rI0 fun i j => .bl (g i j)) := by
  intro pins s σ H x y v u Q I rx ry h
  obtain ⟨i, j, rfl, rfl, q⟩ := h
  obtain ⟨t, rfl⟩ := rx
  obtain ⟨t', rfl⟩ := ry
  exact rule i j t t' s _ _ ⟨.bl (g i j), H, I, rfl, q⟩
noncomputable def CDiv (i j : Int) : Prop := 0 < j ∧ j < 1073741824
noncomputable def CPow (i j : Int) : Prop := 0 ≤ j ∧ j ≤ 1000000 ∧ i.natAbs < 2 ^ 64
noncomputable def CMul (i j : Int) : Prop := (-(2 ^ 64) < i ∧ i < 2 ^ 64) ∨ (-(2 ^ 64) < j ∧ j < 2 ^ 64)
theorem CMul.ok {i j : Int} (h : CMul i j) : IntMulOk i j := by
  rcases h with ⟨h1, h2⟩ | ⟨h1, h2⟩
  · exact .of_left (intBits_le_64 h1 h2)
  · exact .of_right (intBits_le_64 h1 h2)
theorem two_pow_nn (k : Nat) : (0 : Int) ≤ 2 ^ k := by
  rw [two_pow_cast]
  exact Int.natCast_nonneg _
theorem op_add : OpR X (binaryOp .Add) (rI0 fun i j => .int (i + j)) := opI0 fun _ _ _ _ _ _ _ q => add_int q
theorem op_sub : OpR X (binaryOp .Sub) (rI0 fun i j => .int (i - j)) := opI0 fun _ _ _ _ _ _ _ q => sub_int q
theorem op_mul : OpR X (binaryOp .Mult) (rI CMul fun i j => .int (i * j)) := opI fun _ _ _ _ _ _ _ hc q => mul_int q hc.ok
theorem op_fdiv : OpR X (binaryOp .FloorDiv) (rI CDiv fun i j => .int (i / j)) := opI fun i j _ _ _ _ _ hc q => by
  have h1 : (0 : Int) < j := hc.1
  have h2 : j < 1073741824 := hc.2
  exact floordiv_int (by omega) (by rw [Int.fdiv_eq_ediv_of_nonneg i (by omega)]; exact q) (.inl (PyProof.noPylong_small (by omega)))
theorem op_mod : OpR X (binaryOp .Mod) (rI (fun _ j => 0 < j) fun i j => .int (i % j)) := opI fun i j _ _ _ _ _ hc q => by
  have h1 : (0 : Int) < j := hc
  exact mod_int' (by omega) (by rw [Int.fmod_eq_emod_of_nonneg i (by omega)]; exact q)
theorem op_pow : OpR X (binaryOp .Pow) (rI CPow fun i j => .int (i ^ j.toNat)) := opI fun _ _ _ _ _ _ _ hc q => pow_int_small hc.1 hc.2.1 hc.2.2 q
theorem op_shr : OpR X (binaryOp .RShift) (rI (fun _ j => 0 ≤ j) fun i j => .int (i / 2 ^ j.toNat)) := opI fun i j _ _ _ _ _ hc q =>
  rshift_int hc (by rw [Int.fdiv_eq_ediv_of_nonneg i (two_pow_nn _)]; exact q)
theorem op_and : OpR X (binaryOp .BitAnd) (rI0 fun i j => .int (Builtin.bitAnd i j)) := opI0 fun _ _ _ _ _ _ _ q => and_int q
theorem unI {f : Value → Sem Value} {g : Int → Int}
    (rule : ∀ (i : Int) (t : Tok) (s : Shared) (Q : Value → Shared → Prop) (E : Value → Shared → Prop), Q (.int (g i) s.toks) { s with toks := s.toks + 1 } → wpAny (model X.prog X.w) X.A (f (.int i t)) Q E s) :
    UnR X f (rU fun i => .int (g i)) := by
  intro pins s σ H x v Q I rx h
  obtain ⟨i, rfl, q⟩ := h
  obtain ⟨t, rfl⟩ := rx
  exact rule i t s _ _ ⟨.int (g i), H, I.tok _, ⟨_, rfl⟩, q⟩
theorem un_neg : UnR X (unaryOp .USub) (rU fun i => .int (-i)) := unI fun _ _ _ _ _ q => neg_int q
end
noncomputable def scal : V → V → Bool
  | .non, .non => true | .non, .int _ => true | .int _, .non => true | .non, .bl _ => true | .bl _, .non => true | .non, .str _ => true | .str _, .non => true
  | .int _, .int _ => true | .bl _, .bl _ => true | .str _, .str _ => true | .byt _, .byt _ => true
  | .int _, .str _ => true | .str _, .int _ => true | .bl _, .str _ => true | .str _, .bl _ => true
  | _, _ => false
noncomputable def rEq : R2 := fun x y H Q => scal x y = true ∧ Q (.bl (decide (x = y))) H
noncomputable def rNe : R2 := fun x y H Q => scal x y = true ∧ Q (.bl (!decide (x = y))) H
theorem dec_int {i j : Int} : decide (V.int i = V.int j) = (i == j) := by
  rw [Bool.eq_iff_iff]
  simp
theorem dec_bl {i j : Bool} : decide (V.bl i = V.bl j) = (i == j) := by
  rw [Bool.eq_iff_iff]
  simp
theorem dec_str {i j : Str} : decide (V.str i = V.str j) = (i == j) := by
  rw [Bool.eq_iff_iff]
  simp
theorem dec_byt {i j : Array UInt8} : decide (V.byt i = V.byt j) = (i.toList == j.toList) := by
  rw [Bool.eq_iff_iff]
  cases i
  cases j
  simp
section
variable {X : Cx} {a b c : Expr} {ta tb tc : TE} {pos : Pos}
theorem fin_bl {pins : List (Addr × Obj)} {σ : St} {H : Hp} {s : Shared} {Q : VK} {k k' : Bool} (I : Inv X pins σ H s) (q : Q (.bl k) H) (e : k = k') : EP X pins σ Q (.bool k') s := by
  subst e
  exact ⟨.bl k, H, I, rfl, q⟩
theorem op_eq : OpR X (compareOp .Eq) rEq := by
  intro pins s σ H x y v u Q I rx ry h
  obtain ⟨hs, q⟩ := h
  cases x with
  | non =>
    cases rx
    cases y with
    | non => cases ry; exact PySem.EqNone.eq_none_none (fin_bl I q (by simp))
    | bl j => cases ry; exact PySem.EqNone.eq_none_bool (fin_bl I q (by simp))
    | int j => obtain ⟨t', rfl⟩ := ry; exact PySem.EqNone.eq_none_int (fin_bl I q (by simp))
    | str j => obtain ⟨t', rfl⟩ := ry; exact PySem.EqNone.eq_none_str (fin_bl I q (by simp))
    | _ => exact absurd (show false = true from hs) Bool.false_ne_true
  | bl i =>
    cases rx
    cases y with
    | non => cases ry; exact PySem.EqNone.eq_bool_none (fin_bl I q (by simp))
    | bl j => cases ry; exact eq_bool (fin_bl I q dec_bl)
    | str j => obtain ⟨t', rfl⟩ := ry; exact PySem.EqMixed.eq_bool_str (fin_bl I q (by simp))
    | _ => exact absurd (show false = true from hs) Bool.false_ne_true
  | int i =>
    obtain ⟨t, rfl⟩ := rx
    cases y with
    | non => cases ry; exact PySem.EqNone.eq_int_none (fin_bl I q (by simp))
    | int j => obtain ⟨t', rfl⟩ := ry; exact eq_int (fin_bl I q dec_int)
    | str j => obtain ⟨t', rfl⟩ := ry; exact PySem.EqMixed.eq_int_str (fin_bl I q (by simp))
    | _ => exact absurd (show false = true from hs) Bool.false_ne_true
  | str i =>
    obtain ⟨t, rfl⟩ := rx
    cases y with
    | non => cases ry; exact PySem.EqNone.eq_str_none (fin_bl I q (by simp))
    | bl j => cases ry; exact PySem.EqMixed.eq_str_bool (fin_bl I q (by simp))
    | int j => obtain ⟨t', rfl⟩ := ry; exact PySem.EqMixed.eq_str_int (fin_bl I q (by simp))
    | str j => obtain ⟨t', rfl⟩ := ry; exact eq_str (fin_bl I q dec_str)
    | _ => exact absurd (show false = true from hs) Bool.false_ne_true
  | byt i =>
    obtain ⟨t, rfl⟩ := rx
    cases y with
    | byt j => obtain ⟨t', rfl⟩ := ry; exact PySem.W.eq_bytes (fin_bl I q dec_byt)
    | _ => exact absurd (show false = true from hs) Bool.false_ne_true
  | _ => cases y <;> exact absurd (show false = true from hs) Bool.false_ne_true
theorem op_ne : OpR X (compareOp .NotEq) rNe := by
  intro pins s σ H x y v u Q I rx ry h
  obtain ⟨hs, q⟩ := h
  cases x with
  | non =>
    cases rx
    cases y with
    | non => cases ry; exact PySem.EqNone.ne_none_none (fin_bl I q (by simp))
    | bl j => cases ry; exact PySem.EqNone.ne_none_bool (fin_bl I q (by simp))
    | int j => obtain ⟨t', rfl⟩ := ry; exact PySem.EqNone.ne_none_int (fin_bl I q (by simp))
    | str j => obtain ⟨t', rfl⟩ := ry; exact PySem.EqNone.ne_none_str (fin_bl I q (by simp))
    | _ => exact absurd (show false = true from hs) Bool.false_ne_true
  | bl i =>
    cases rx
    cases y with
    | non => cases ry; exact PySem.EqNone.ne_bool_none (fin_bl I q (by simp))
    | bl j => cases ry; exact ne_bool (fin_bl I q (congrArg not dec_bl))
    | str j => obtain ⟨t', rfl⟩ := ry; exact PySem.EqMixed.ne_bool_str (fin_bl I q (by simp))
    | _ => exact absurd (show false = true from hs) Bool.false_ne_true
  | int i =>
    obtain ⟨t, rfl⟩ := rx
    cases y with
    | non => cases ry; exact PySem.EqNone.ne_int_none (fin_bl I q (by simp))
    | int j => obtain ⟨t', rfl⟩ := ry; exact ne_int (fin_bl I q (congrArg not dec_int))
    | str j => obtain ⟨t', rfl⟩ := ry; exact PySem.EqMixed.ne_int_str (fin_bl I q (by simp))
    | _ => exact absurd (show false = true from hs) Bool.false_ne_true
  | str i =>
    obtain ⟨t, rfl⟩ := rx
    cases y with
    | non => cases ry; exact PySem.EqNone.ne_str_none (fin_bl I q (by simp))
    | bl j => cases ry; exact PySem.EqMixed.ne_str_bool (fin_bl I q (by simp))
    | int j => obtain ⟨t', rfl⟩ := ry; exact PySem.EqMixed.ne_str_int (fin_bl I q (by simp))
    | str j => obtain ⟨t', rfl⟩ := ry; exact ne_str (fin_bl I q (congrArg not dec_str))
    | _ => exact absurd (show false = true from hs) Bool.false_ne_true
  | byt i =>
    obtain ⟨t, rfl⟩ := rx
    cases y with
    | byt j => obtain ⟨t', rfl⟩ := ry; exact PySem.W.ne_bytes (fin_bl I q (congrArg not dec_byt))
    | _ => exact absurd (show false = true from hs) Bool.false_ne_true
  | _ => cases y <;> exact absurd (show false = true from hs) Bool.false_ne_true
theorem op_lt : OpR X (compareOp .Lt) (rI0 fun i j => .bl (decide (i < j))) := opB0 fun _ _ _ _ _ _ _ q => lt_int q
theorem op_gt : OpR X (compareOp .Gt) (rI0 fun i j => .bl (decide (j < i))) := opB0 fun _ _ _ _ _ _ _ q => gt_int q
theorem nomark (b : Expr) {op : CmpOp} (h : op ≠ .In := by decide) (h2 : op ≠ .NotIn := by decide) : behindInMarks op b = false := by
  have e1 : (op == CmpOp.In) = false := by cases op <;> first | rfl | exact absurd rfl h
  have e2 : (op == CmpOp.NotIn) = false := by cases op <;> first | rfl | exact absurd rfl h2
  cases b <;> simp [behindInMarks, e1, e2]
theorem pe_cmpR {op : CmpOp} {r : R2} (ho : OpR X (compareOp op) r) (ha : PE X a ta) (hb : PE X b tb) (hm : behindInMarks op b = false) : PE X (.Compare a [op] [b] pos) (tOp r ta tb) := by
  intro pins s σ H Q I h
  exact wpAny_Compare1 (binT ha hb I h fun v u s2 x y H2 I2 rx ry q => ho pins s2 σ H2 x y v u Q I2 rx ry q) hm
noncomputable def tTest (t : TE) : TT := fun σ H Q => t σ H fun x H' => ∃ k, x = .bl k ∧ Q k H'
theorem pt_cmpR {op : CmpOp} {r : R2} (ho : OpR X (compareOp op) r) (ha : PE X a ta) (hb : PE X b tb) (hm : behindInMarks op b = false) : PT X (.Compare a [op] [b] pos) (tTest (tOp r ta tb)) := by
  intro pins s σ H Q I h
  refine wpAny_isTrue_Compare1 (thn (ha pins s σ H _ I h) fun v s1 ⟨x, H1, I1, r1, q1⟩ => thn (hb pins s1 σ H1 _ I1 q1) fun u s2 ⟨y, H2, I2, r2, q2⟩ =>
    thn (ho pins s2 σ H2 x y v u _ I2 r1 r2 q2) fun c s3 ⟨z, H3, I3, r3, k, e, q3⟩ => ?_) hm
  subst e
  cases r3
  exact wpAny_truthy_bool ⟨H3, I3, q3⟩
theorem line63 : (sizeLine : Nat) < 2 ^ 63 := by rw [sizeLine_eq]; decide
theorem op_add_str : OpR X (binaryOp .Add) (fun x y H Q => ∃ i j, x = .str i ∧ y = .str j ∧ i.length + j.length ≤ sizeLine ∧ Q (.str (i ++ j)) H) := by
  intro pins s σ H x y v u Q I rx ry h
  obtain ⟨i, j, rfl, rfl, hz, q⟩ := h
  obtain ⟨t, rfl⟩ := rx
  obtain ⟨t', rfl⟩ := ry
  exact add_str (fun t' tk => ⟨.str (i ++ j), H, I.tok _, ⟨_, rfl⟩, q⟩) hz
theorem vals1 {x : V} {us : List Value} (r : Vals [x] us) : ∃ u, us = [u] ∧ RelV x u := by
  cases r with
  | cons r1 r2 => cases r2; exact ⟨_, rfl, r1⟩
theorem vals2 {x y : V} {us : List Value} (r : Vals [x, y] us) : ∃ u w', us = [u, w'] ∧ RelV x u ∧ RelV y w' := by
  cases r with
  | cons r1 r2 =>
    cases r2 with
    | cons r3 r4 => cases r4; exact ⟨_, _, rfl, r1, r3⟩
theorem call_min2 (hc : X.calm = true) : CallR X (.builtin "min") (fun xs H Q => ∃ i j, xs = [.int i, .int j] ∧ Q (.int (if j < i then j else i)) H) := by
  intro pins s σ H xs us Q I r h
  obtain ⟨i, j, rfl, q⟩ := h
  obtain ⟨u, w', rfl, ⟨t, rfl⟩, ⟨t', rfl⟩⟩ := vals2 r
  refine min_two_ints (I.ok.hd hc) fun h' tk k => ⟨_, H, I.kept k, ?_, q⟩
  by_cases hj : j < i
  · rw [if_pos hj, if_pos hj]; exact ⟨_, rfl⟩
  · rw [if_neg hj, if_neg hj]; exact ⟨_, rfl⟩
end
end L2
namespace L2
open PySem PySem.Spec PyProof.Rows
structure ObjM (h : Heap) (x dx C : Addr) (mA : Str → Option Value) : Prop where
  obj : h.get? x = some (PySem.W.instObj C dx)
  ns : h.Ns1 dx mA
  ne : dx ≠ x
theorem lookIn_ns {h : Heap} {dx : Addr} {mA : Str → Option Value} (n : h.Ns1 dx mA) : ∃ od, h.get? dx = some od ∧ ∀ name, PySem.W.lookIn name od = some (mA name) := by
  obtain ⟨o, es, ep, ho, hd, hk, _, hm⟩ := n
  refine ⟨o, ho, fun name => ?_⟩
  have e := hm name
  unfold nsFind findBy at e
  rw [← Array.find?_toList] at e
  unfold PySem.W.lookIn
  rw [hd]
  dsimp only
  split
  · rename_i y q
    rw [q] at e
    exact congrArg some e
  · rename_i q
    rw [q] at e
    have a : es.toList.any (·.refKey) = false := by
      rw [List.any_eq_false]
      intro y hy
      obtain ⟨z, t, hkey⟩ := hk y (Array.mem_toList_iff.mp hy)
      simp [DictEntry.refKey, hkey]
    have a' : ¬ es.toList.any (·.refKey) = true := by rw [a]; exact Bool.false_ne_true
    rw [if_neg a']
    exact congrArg some e
theorem ObjM.look {h : Heap} {x dx C : Addr} {mA : Str → Option Value} (I : ObjM h x dx C mA) : ∃ od, PySem.W.InstAt h x (PySem.W.instObj C dx) C (some od) ∧ ∀ name, PySem.W.lookIn name od = some (mA name) :=
  let ⟨od, ho, hl⟩ := lookIn_ns I.ns
  ⟨od, ⟨I.obj, rfl, rfl, ho⟩, hl⟩
section
variable {prog : Program} {w : World} {A : Around} {E : Value → Shared → Prop} {s : Shared} {K : PySem.W.Frag} {x dx C f : Addr} {mA : Str → Option Value} {name : Str} {v : Value}
end
theorem RelO.some_of {v : V} {o : Option Value} (r : RelO (some v) o) : ∃ u, o = some u ∧ RelV v u := by
  cases o with
  | none => exact (show False from r).elim
  | some u => exact ⟨u, rfl, r⟩
section
variable {P : Program} {w : World} {H H' : Hp} {h h' : Heap} {a C dx : Addr} {fs fs' : List (Str × V)}
theorem ins_get (hok : HOk P w H h) (e : H a = some (.ins C dx fs)) : ∃ mA, ObjM h a dx C mA ∧ (∀ f, RelO (fs.lookup f) (mA f)) ∧ PySem.Within mA (fs.map (·.1)) ∧ fs.length ≤ 1000 ∧ H dx = some (.own a) := by
  obtain ⟨d, z, ne, ob, mA, n, r, q⟩ := (show ObjOk P w H h a (.ins C dx fs) from hok a _ e)
  exact ⟨mA, ⟨ob, n, ne⟩, r, q, z, d⟩
end
structure Cls (K : PySem.W.Frag) (C : Addr) : Prop where
  pg : PySem.W.plainGet K C Str.empty = true
  hd : PySem.W.hasDictIn K C = true
  po : PySem.W.plainOver K C = true
  sa : PySem.W.findIn K (.ref C) "__setattr__" = some (some (.builtin "object.__setattr__"))
theorem Cls.get {K : PySem.W.Frag} {C : Addr} (c : Cls K C) (f : Str) : PySem.W.plainGet K C f = true := c.pg
section
variable {X : Cx} {pins : List (Addr × Obj)} {σ : St} {H : Hp} {s : Shared} {a C dx : Addr} {fs : List (Str × V)} {f : Str} {v : V} {A : Around} {E : Value → Shared → Prop}
end
section
variable {X : Cx} {o e value : Expr} {f : Str} {pos pos' tpos : Pos} {ta tv : TE}
end
section
variable {X : Cx} {pins : List (Addr × Obj)} {σ : St} {H : Hp} {s : Shared} {A : Around} {E : Value → Shared → Prop} {Q : Value → Shared → Prop} {c : Value} {b : Bool}
inductive TyOf (K : PySem.W.Frag) (H : Hp) : V → Value → Prop where
  | non : TyOf K H .non (.type "NoneType")
  | bl (x : Bool) : TyOf K H (.bl x) (.type "bool")
  | int (i : Int) : TyOf K H (.int i) (.type "int")
  | str (x : Str) : TyOf K H (.str x) (.type "str")
  | flt (x : UInt64) : TyOf K H (.flt x) (.type "float")
  | lst {a : Addr} {xs : List V} (e : H a = some (.lst xs)) : TyOf K H (.ref a) (.type "list")
  | frz {a : Addr} {o : Obj} {xs : List V} (e : H a = some (.frz o (.lst xs))) : TyOf K H (.ref a) (.type "list")
  | tup {a : Addr} {xs : List V} (e : H a = some (.tup xs)) : TyOf K H (.ref a) (.type "tuple")
  | dK {a : Addr} {kvs : List (Key × V)} (e : H a = some (.dK kvs)) : TyOf K H (.ref a) (.type "dict")
  | dT {a : Addr} {kvs : List (List Key × V)} (e : H a = some (.dT kvs)) : TyOf K H (.ref a) (.type "dict")
  | ins {a C dx : Addr} {fs : List (Str × V)} (e : H a = some (.ins C dx fs)) (cl : Cls K C) (ha : PySem.W.findIn K (.ref C) "__class__" = some (some (.builtin "object.__class__")))
      (hn : PySem.W.specialIn K (.builtin "object.__class__") "__get__" = some (some (.builtin "getset_descriptor.__get__"))) (htk : PySem.W.takesIn K (.builtin "object.__class__") = some true)
      (hm : PySem.W.mroIn K C (.type "object") = some true) : TyOf K H (.ref a) (.ref C)
theorem isinst_ok {x : V} {u t : Value} (I : Inv X pins σ H s) (rx : RelV x u) (ty : TyOf X.K H x t) (e : PySem.W.kitOne X.K t c = some b) (h : ∀ tk, Q (.bool b) { s with toks := tk }) :
    wpAny (model X.prog X.w) A (call (.builtin "isinstance") [u, c]) Q E s := by
  cases ty with
  | non => cases (show u = Value.none from rx); exact PySem.W.kia_one PySem.W.kitx_none I.kIn True.intro e (fun z => nomatch z) h
  | bl y => cases (show u = Value.bool y from rx); exact PySem.W.kia_one PySem.W.kitx_bool I.kIn True.intro e (fun z => nomatch z) h
  | int i => obtain ⟨t, q⟩ := (show ∃ t, u = Value.int i t from rx); cases q; exact PySem.W.kia_one PySem.W.kitx_int I.kIn True.intro e (fun z => nomatch z) h
  | str y => obtain ⟨t, q⟩ := (show ∃ t, u = Value.str y t from rx); cases q; exact PySem.W.kia_one PySem.W.kitx_str I.kIn True.intro e (fun z => nomatch z) h
  | flt y => obtain ⟨t, q⟩ := (show ∃ t, u = Value.float y t from rx); cases q; exact PySem.W.kia_one PySem.W.kitx_float I.kIn True.intro e (fun z => nomatch z) h
  | @lst a xs ea =>
    cases (show u = Value.ref a from rx)
    obtain ⟨_, _, n, _, h1⟩ := (show ObjOk X.prog X.w H s.heap a (.lst xs) from I.hok a _ ea)
    exact PySem.W.kia_one PySem.W.kitx_list I.kIn ⟨_, h1, rfl⟩ e (fun z => nomatch z) h
  | @frz a ob xs ea =>
    cases (show u = Value.ref a from rx)
    obtain ⟨_, _, _, n, _, h1⟩ := (show ObjOk X.prog X.w H s.heap a (.frz ob (.lst xs)) from I.hok a _ ea)
    exact PySem.W.kia_one PySem.W.kitx_list I.kIn ⟨_, h1, rfl⟩ e (fun z => nomatch z) h
  | @tup a xs ea =>
    cases (show u = Value.ref a from rx)
    obtain ⟨_, _, _, p⟩ := (show ObjOk X.prog X.w H s.heap a (.tup xs) from I.hok a _ ea)
    obtain ⟨o, h1, h2, _⟩ := p
    exact PySem.W.kia_one PySem.W.kitx_tuple I.kIn ⟨o, h1, h2⟩ e (fun z => nomatch z) h
  | @dK a kvs ea =>
    cases (show u = Value.ref a from rx)
    obtain ⟨_, _, vs, _, p⟩ := (show ObjOk X.prog X.w H s.heap a (.dK kvs) from I.hok a _ ea)
    obtain ⟨o, es, ep, h1, h2, _⟩ := p
    exact PySem.W.kia_one PySem.W.kitx_dict I.kIn ⟨o, h1, h2.1⟩ e (fun z => nomatch z) h
  | @dT a kvs ea =>
    cases (show u = Value.ref a from rx)
    obtain ⟨_, _, xs, _, o, es, ep, h1, h2, _⟩ := (show ObjOk X.prog X.w H s.heap a (.dT kvs) from I.hok a _ ea)
    exact PySem.W.kia_one PySem.W.kitx_dict I.kIn ⟨o, h1, h2.1⟩ e (fun z => nomatch z) h
  | @ins a C dx fs ea cl ha hn htk hm =>
    cases (show u = Value.ref a from rx)
    obtain ⟨mA, O, _⟩ := ins_get I.hok ea
    obtain ⟨od, J, _⟩ := O.look
    exact PySem.W.kia_one (PySem.W.kitx_own (cl.get _) cl.hd ha hn htk hm) I.kIn J e (fun z => nomatch z) h
end
end L2
namespace L2
open PySem PySem.Spec PyProof.Rows
structure Room (k : Nat) (A : Around) : Prop where
  hd : A.handled = none
  dp : A.depth + 3 * k + 5 < recursionLimit
  un : A.units + 16 * k + 200 < cLine
theorem Room.mono {j k : Nat} {A : Around} (r : Room k A) (h : j ≤ k) : Room j A := ⟨r.hd, by have := r.dp; omega, by have := r.un; omega⟩
theorem Room.deeper {k : Nat} {A : Around} (r : Room (k + 1) A) (env : Env) : Room k (A.deeper env) :=
  ⟨r.hd, by have := r.dp; show A.depth + 1 + 3 * k + 5 < _; omega, by have := r.un; show A.units + 3 + 16 * k + 200 < _; omega⟩
theorem Room.depth {k : Nat} {A : Around} (r : Room k A) : A.depth < recursionLimit := by have := r.dp; omega
theorem Room.units {k : Nat} {A : Around} (r : Room k A) : A.units + 64 < cLine := by have := r.un; omega
noncomputable def tNil : TA := fun _ H Q => Q [] H
noncomputable def tCons (ta : TE) (tr : TA) : TA := fun σ H Q => ta σ H fun x H1 => tr σ H1 fun xs H2 => Q (x :: xs) H2
section
variable {X : Cx} {e : Expr} {es : List Expr} {te : TE} {t : TA} {pos : Pos}
theorem pa_nil : PA X [] tNil := fun _ _ _ _ H Q I h => Calls.spliced_nil ⟨[], H, I, .nil, h⟩
theorem pa_cons (ha : PE X e te) (hr : PA X es t) (hs : starEach (e :: es) X.env = (false, eval e X.env) :: starEach es X.env := by rfl) : PA X (e :: es) (tCons te t) := by
  intro pos pins s σ H Q I h
  rw [hs]
  show wpAny _ _ (spliced ((false, eval e X.env) :: backTo pos (starEach es X.env))) _ _ s
  refine Calls.spliced_cons (thn (ha pins s σ H _ I h) fun u s1 ⟨x, H1, I1, r1, q1⟩ => ?_)
  exact thn (hr pos pins s1 σ H1 _ I1 q1) fun us s2 ⟨xs, H2, I2, r2, q2⟩ => ⟨x :: xs, H2, I2, .cons r1 r2, q2⟩
noncomputable def tTup (t : TA) : TE := fun σ H Q => t σ H fun xs H1 => xs.length ≤ sizeLine ∧ ∀ p, H1 p = none → Q (.ref p) (upd H1 p (.tup xs))
noncomputable def tLst (t : TA) : TE := fun σ H Q => t σ H fun xs H1 => xs.length ≤ sizeLine ∧ ∀ p, H1 p = none → Q (.ref p) (upd H1 p (.lst xs))
theorem pe_tup {x1} (h : PA X es t) : PE X (.Tuple es x1 pos) (tTup t) := by
  intro pins s σ H Q I hq
  refine wpAny_Tuple_spliced (thn (h pos pins s σ H _ I hq) fun us s1 ⟨xs, H1, I1, r, z, q⟩ => ⟨by rw [← r.length]; exact z, ?_⟩)
  have hf : H1 s1.heap.objs.size = none := I1.hok.fresh (Nat.le_refl _)
  refine ⟨.ref s1.heap.objs.size, upd H1 s1.heap.objs.size (.tup xs), I1.laid (t' := s1.toks) (fun b u e => Heap.get?_push_of_some _ e) (Nat.le_refl _) ?_, rfl, q _ hf⟩
  exact ⟨z, us, r, ⟨_, Heap.get?_push_size _ rfl, rfl, _, rfl⟩⟩
theorem pe_lst (h : PA X es t) : PE X (.List es pos) (tLst t) := by
  intro pins s σ H Q I hq
  refine wpAny_List_spliced (thn (h pos pins s σ H _ I hq) fun us s1 ⟨xs, H1, I1, r, z, q⟩ => ⟨by rw [← r.length]; exact z, ?_⟩)
  have hf : H1 s1.heap.objs.size = none := I1.hok.fresh (Nat.le_refl _)
  refine ⟨.ref s1.heap.objs.size, upd H1 s1.heap.objs.size (.lst xs), I1.laid (t' := s1.toks) (fun b u e => Heap.get?_push_of_some _ e) (Nat.le_refl _) ?_, rfl, q _ hf⟩
  exact ⟨z, us, 0, r, Heap.get?_push_size _ rfl⟩
end
noncomputable abbrev Sp := List V → Hp → VK → XK → Prop
noncomputable abbrev CXT := List Env → Hp → Shared → XK → Value → Shared → Prop
structure Env0 (P : Program) (w : World) (K : PySem.W.Frag) (mg : Str → Option Value) (base : Heap) (A : Around) (outer : List Env) (s : Shared) (H : Hp) : Prop where
  frames : A.frames = some outer
  mod : Mod K mg base
  bs : ∀ b o, base.get? b = some o → s.heap.get? b = some o ∧ H b = none
  bsz : base.objs.size ≤ s.heap.objs.size
  funs : s.heap.FunFrames base outer
  frf : ∀ b ∈ frs outer, H b = none
  hok : HOk P w H s.heap
  bare : AllBare s.gens
noncomputable def CE (outer : List Env) (P : Program) (w : World) (H : Hp) (s : Shared) (Q : VK) (u : Value) (s' : Shared) : Prop :=
  ∃ v H', s'.os = s.os ∧ AllBare s'.gens ∧ Un (frs outer) [] H H' s.heap s'.heap ∧ HOk P w H' s'.heap ∧ RelV v u ∧ Q v H'
noncomputable def CR (CX : CXT) (outer : List Env) (P : Program) (w : World) (H : Hp) (s : Shared) (Q : VK) (E : XK) (r : Result) (s' : Shared) : Prop :=
  match r with
  | .ok (.ret u) => CE outer P w H s Q u s'
  | .ok _ => False
  | .error e => CX outer H s E e s'
structure FnOk (P : Program) (w : World) (K : PySem.W.Frag) (mg : Str → Option Value) (base : Heap) (CX : CXT) (k : Nat) (f : Addr) (fd : FuncData) (ps : List Str) (sp : Sp) : Prop where
  len : ∀ vs H Q E, sp vs H Q E → vs.length = ps.length
  run : ∀ (A : Around) (outer : List Env) (s : Shared) (H : Hp) (args : Args) (us : List Value) (vs : List V) (Q : VK) (E : XK), Room k A → Env0 P w K mg base A outer s H → BindsTo s fd args (ps.zip us) → Vals vs us → sp vs H Q E →
    codeAny (model P w) A (.call (.ref f) args) (CR CX outer P w H s Q E) s
theorem FnOk.mono {P : Program} {w : World} {K : PySem.W.Frag} {mg : Str → Option Value} {base : Heap} {CX : CXT} {j k : Nat} {f : Addr} {fd : FuncData} {ps : List Str} {sp : Sp} (F : FnOk P w K mg base CX j f fd ps sp) (h : j ≤ k) :
    FnOk P w K mg base CX k f fd ps sp := ⟨F.len, fun A outer s H args us vs Q E hr => F.run A outer s H args us vs Q E (hr.mono h)⟩
section
variable {X : Cx} {pins : List (Addr × Obj)} {σ : St} {H : Hp} {s s' : Shared}
theorem Inv.env0 (I : Inv X pins σ H s) : Env0 X.prog X.w X.K X.mg X.base X.A X.stack s H :=
  ⟨I.ok.frames, I.ok.mod, I.bs, Nat.le_trans I.ok.bsz I.sz, I.stack, I.stkFree, I.hok, I.bare⟩
theorem Inv.after {Q : VK} {u : Value} (I : Inv X pins σ H s) (h : CE X.stack X.prog X.w H s Q u s') : EP X pins σ Q u s' := by
  obtain ⟨v, H', os, bare, un, hok, r, q⟩ := h
  obtain ⟨hh, g, d, t, os'⟩ := s'
  obtain rfl : os' = s.os := os
  exact ⟨v, H', I.call (h' := hh) (g' := g) (d' := d) (t' := t) (ch := []) un hok bare (fun b z => absurd z (by simp)), r, q⟩
end
noncomputable def tCall (sp : Sp) (dvs : List V) (E : XK) (t : TA) : TE := fun σ H Q => t σ H fun vs H1 => sp (vs ++ dvs) H1 Q E
noncomputable def Binds (K : PySem.W.Frag) (fd : FuncData) (ps : List Str) (ds : List Value) : Prop :=
  ∀ (s : Shared) (us : List Value), K.In s.heap → (us ++ ds).length = ps.length → BindsTo s fd ⟨us, []⟩ (ps.zip (us ++ ds))
theorem Binds.all {K : PySem.W.Frag} {fd : FuncData} {ps : List Str} (h : ∀ us : List Value, us.length = ps.length → bindArgs fd ⟨us, []⟩ = pure (ps.zip us)) : Binds K fd ps [] := fun s us _ hl => by
  rw [List.append_nil] at hl ⊢
  exact .of_eq (h us hl)
noncomputable def Passes (CX : CXT) (X : Cx) (E : XK) : Prop := ∀ (pins : List (Addr × Obj)) (σ : St) (H : Hp) (s : Shared) (e : Value) (s' : Shared), Inv X pins σ H s → CX X.stack H s E e s' → X.xe e s'
section
variable {X : Cx} {CX : CXT} {k : Nat} {f C : Addr} {fd : FuncData} {ps : List Str} {sp : Sp} {dvs : List V} {ds : List Value} {E : XK} {x m : Str} {p pos apos : Pos} {e o : Expr} {es : List Expr} {ta : TE} {t : TA}
theorem run_fn {pins : List (Addr × Obj)} {σ : St} {H : Hp} {s : Shared} {Q : VK} {us : List Value} {vs : List V} (F : FnOk X.prog X.w X.K X.mg X.base CX k f fd ps sp) (hr : Room k X.A) (hb : Binds X.K fd ps ds) (hd : Vals dvs ds) (hx : Passes CX X E)
    (I : Inv X pins σ H s) (r : Vals vs us) (h : sp (vs ++ dvs) H Q E) : wpAny (model X.prog X.w) X.A (call (.ref f) us) (EP X pins σ Q) X.xe s := by
  have r2 : Vals (vs ++ dvs) (us ++ ds) := r.append hd
  have hl : (us ++ ds).length = ps.length := by rw [← r2.length]; exact F.len _ _ _ _ h
  refine wpAny_call (codeAny_mono (F.run X.A X.stack s H ⟨us, []⟩ (us ++ ds) (vs ++ dvs) Q E hr I.env0 (hb s us I.kIn hl) r2 h) fun r s' hq => ?_)
  cases r with
  | error e => exact hx pins σ H s e s' I hq
  | ok fl =>
    cases fl with
    | ret u => exact I.after hq
    | next => exact False.elim hq
    | brk => exact False.elim hq
    | cont => exact False.elim hq
theorem pe_call (F : FnOk X.prog X.w X.K X.mg X.base CX k f fd ps sp) (hr : Room k X.A) (hg : Gl X x) (hm : X.mg x = some (.ref f)) (hk : PySem.W.keepIn X.K (.ref f) = true) (hb : Binds X.K fd ps ds) (hd : Vals dvs ds) (hx : Passes CX X E)
    (ha : PA X (e :: es) t) (hdb : (x == ("__debug__" : Str)) = false := by decide) (he : starEach (e :: es) X.env = (false, eval e X.env) :: starEach es X.env := by rfl) (hpl : (backTo pos (starEach es X.env)).any (·.1) = false := by rfl) :
    PE X (.Call (.Name x p) (e :: es) [] pos) (tCall sp dvs E t) := by
  intro pins s σ H Q I h
  refine wpAny_Call_Name_kw (ld_glob I hg hm ?_ hdb)
  refine PySem.W.callWith_K (h₀ := X.base) I.ok.mod.kin hk (thn (ha pos pins s σ H _ I h) fun us s1 ⟨vs, H1, I1, r, q⟩ => ⟨I1.kIn, ?_⟩) he hpl
  exact run_fn F hr hb hd hx I1 r q
end
section
variable {X : Cx} {CX : CXT} {k : Nat} {f C : Addr} {fd : FuncData} {ps ks : List Str} {sp : Sp} {E : XK} {x m : Str} {p pos apos kpos : Pos} {e o : Expr} {es : List Expr} {kws : List Keyword} {te ta : TE} {t tk : TA} {nm : Option Str}
variable {g : List Value → List Value → List Value} {gV : List V → List V → List V}
end
structure FnScope (N P : List Str) (sc : Scope) : Prop where
  kind : sc.kind = .function
  co : sc.isCoroutine = false
  gen : sc.isGenerator = false
  nd : N.Nodup
  pre : N.take P.length = P
  par : ∀ x ∈ P, sc.names.lookup x = some .local ∨ sc.names.lookup x = some .cell
  nofree : ∀ y ∈ sc.names, y.2 ≠ .free
theorem bindL_out {kindOf : Str → Option NameKind} {x : Str} : ∀ {binds : List (Str × Value)} {m : Str → Option Value}, (∀ v, (x, v) ∉ binds) → bindL kindOf binds m x = m x
  | [], _, _ => rfl
  | (n, v) :: r, m, h => by
    unfold bindL
    rw [bindL_out fun w hw => h w (List.mem_cons_of_mem _ hw)]
    split
    · have : x ≠ n := by rintro rfl; exact h v List.mem_cons_self
      simp [this]
    · rfl
theorem bindC_out {kindOf : Str → Option NameKind} {x : Str} : ∀ {binds : List (Str × Value)} {m : Str → Option Value}, (∀ v, (x, v) ∉ binds) → bindC kindOf binds m x = m x
  | [], _, _ => rfl
  | (n, v) :: r, m, h => by
    unfold bindC
    rw [bindC_out fun w hw => h w (List.mem_cons_of_mem _ hw)]
    split
    · rfl
    · have : x ≠ n := by rintro rfl; exact h v List.mem_cons_self
      simp [this]
theorem bindL_get {kindOf : Str → Option NameKind} {x : Str} {v : Value} : ∀ {P : List Str} {vs : List Value} {i : Nat} {m : Str → Option Value}, P.Nodup → P[i]? = some x → vs[i]? = some v → kindOf x = some .local →
    bindL kindOf (P.zip vs) m x = some v
  | [], _, _, _, _, h, _, _ => by simp at h
  | _ :: _, [], _, _, _, _, h, _ => by simp at h
  | p :: P, w :: vs, 0, m, nd, h1, h2, hk => by
    simp at h1 h2; subst h1; subst h2
    show bindL kindOf ((p, w) :: P.zip vs) m p = _
    unfold bindL
    rw [bindL_out fun v hv => (List.nodup_cons.mp nd).1 (List.of_mem_zip hv).1, if_pos hk]
    simp
  | p :: P, w :: vs, i + 1, m, nd, h1, h2, hk => by
    show bindL kindOf ((p, w) :: P.zip vs) m x = _
    unfold bindL
    exact bindL_get (i := i) (List.nodup_cons.mp nd).2 (by simpa using h1) (by simpa using h2) hk
theorem bindC_get {kindOf : Str → Option NameKind} {x : Str} {v : Value} : ∀ {P : List Str} {vs : List Value} {i : Nat} {m : Str → Option Value}, P.Nodup → P[i]? = some x → vs[i]? = some v → kindOf x ≠ some .local →
    bindC kindOf (P.zip vs) m x = some v
  | [], _, _, _, _, h, _, _ => by simp at h
  | _ :: _, [], _, _, _, _, h, _ => by simp at h
  | p :: P, w :: vs, 0, m, nd, h1, h2, hk => by
    simp at h1 h2; subst h1; subst h2
    show bindC kindOf ((p, w) :: P.zip vs) m p = _
    unfold bindC
    rw [bindC_out fun v hv => (List.nodup_cons.mp nd).1 (List.of_mem_zip hv).1, if_neg hk]
    simp
  | p :: P, w :: vs, i + 1, m, nd, h1, h2, hk => by
    show bindC kindOf ((p, w) :: P.zip vs) m x = _
    unfold bindC
    exact bindC_get (i := i) (List.nodup_cons.mp nd).2 (by simpa using h1) (by simpa using h2) hk
noncomputable def start (N : List Str) (vs : List V) : St := vs.map some ++ List.replicate (N.length - vs.length) none
noncomputable def cxOf (CX : CXT) (P : Program) (w : World) (K : PySem.W.Frag) (mg : Str → Option Value) (base : Heap) (N : List Str) (qual : Str) (scope : Scope) (f : Addr) (cd : Value) (A : Around) (outer : List Env) (s : Shared) (H : Hp) (E : XK) : Cx where
  prog := P
  w := w
  K := K
  mg := mg
  base := base
  A := A.deeper (envOfC qual scope s.heap.objs.size f cd)
  N := N
  s₀ := s
  H₀ := H
  env := envOfC qual scope s.heap.objs.size f cd
  outer := outer
  stack := envOfC qual scope s.heap.objs.size f cd :: outer
  ex := []
  calm := true
  fn := fun _ => true
  pn := []
  xe := fun e s' => wpAny (model P w) (A.deeper (envOfC qual scope s.heap.objs.size f cd)) (leaving (envOfC qual scope s.heap.objs.size f cd) e) (fun _ s'' => CX outer H s E e s'') (fun e' s'' => CX outer H s E e' s'') s'
theorem cell_has {sc : Scope} {n : Nat} {x : Str} (h : sc.names.lookup x = some .cell) : ∃ c, (cellsFrom n sc.names []).lookup x = some c := by
  have q := PySem.W.cellsFrom_some sc.names n [] (.inl h)
  exact Option.isSome_iff_exists.mp q
theorem inv_start {CX : CXT} {P : Program} {w : World} {K : PySem.W.Frag} {mg : Str → Option Value} {base : Heap} {N ps : List Str} {qual : Str} {scope : Scope} {f : Addr} {cd : Value} {A : Around} {outer : List Env} {s s1 : Shared} {H : Hp} {E : XK} {us : List Value} {vs : List V}
    (S : FnScope N ps scope) (hd : A.handled = none) (e0 : Env0 P w K mg base A outer s H) (hl : vs.length = ps.length) (r : Vals vs us)
    (x : InCallC s s.heap.objs.size (bindL (envOfC qual scope s.heap.objs.size f cd).kindOf (ps.zip us) fun _ => none) (cellsFrom (s.heap.objs.size + 1) scope.names []) (bindC (envOfC qual scope s.heap.objs.size f cd).kindOf (ps.zip us) fun _ => none) s1) :
    Inv (cxOf CX P w K mg base N qual scope f cd A outer s H E) [] (start N vs) H s1 := by
  have hpl : ps.length ≤ N.length := by have := congrArg List.length S.pre; rw [List.length_take] at this; omega
  obtain ⟨h1, tk, rfl, hk⟩ := x.done
  have noA : ∀ b : Addr, b ∉ (cxOf CX P w K mg base N qual scope f cd A outer s H E).ex := fun b z => absurd (show b ∈ ([] : List Addr) from z) (by simp)
  refine ⟨⟨e0.mod, S.kind, rfl, rfl, Nat.le_refl _, fun y z c h1 h2 => ?_, fun y hy => ?_, fun y c _ h => ?_, fun _ => hd, Around.frames_deeper e0.frames, .inr ⟨rfl, rfl⟩, fun b z => absurd z (noA b), e0.bs, e0.bsz, fun b _ _ => noA b, fun b z => absurd z (noA b), e0.funs, e0.frf⟩,
    rfl, e0.bare, Un.kept hk, ⟨_, x.toInCall.ns, fun i y v h1 h2 h3 => ?_⟩, fun y c h => ⟨_, x.cell y c h⟩, e0.hok.fresh (Nat.le_refl _), fun y c h => ?_, fun p hp => absurd (show p ∈ ([] : List (Addr × Obj)) from hp) (by simp), e0.hok.kept hk, ?_⟩
  · exact name_of_addr x.apart (PySem.mem_of_lookup h1) (PySem.mem_of_lookup h2)
  · have hy : scope.names.lookup y = some .cell ∨ scope.names.lookup y = some .free := hy
    rcases hy with hy | hy
    · exact cell_has hy
    · exact absurd rfl (S.nofree _ (PySem.mem_of_lookup hy))
  · exact Nat.le_of_lt (x.above y c (PySem.mem_of_lookup h))
  · have hi : i < vs.length := by
      unfold start at h2
      by_cases hi : i < vs.length
      · exact hi
      · rw [List.getElem?_append_right (by simpa using hi)] at h2
        rw [List.getElem?_replicate] at h2
        split at h2 <;> cases h2
    have ha : vs[i]? = some v := by
      unfold start at h2
      rw [List.getElem?_append_left (by simpa using hi), List.getElem?_map] at h2
      cases e : vs[i]? with
      | none => rw [e] at h2; cases h2
      | some a => rw [e] at h2; cases h2; rfl
    obtain ⟨u, hu, rv⟩ := r.get ha
    have hp : ps[i]? = some y := by
      rw [← S.pre, List.getElem?_take_of_lt (by omega)]; exact h1
    have ndP : ps.Nodup := by rw [← S.pre]; exact S.nd.sublist (List.take_sublist _ _)
    refine ⟨u, rv, ?_⟩
    rcases S.par y (List.mem_of_getElem? hp) with k | k
    · exact .inl ⟨k, bindL_get ndP hp hu k⟩
    · obtain ⟨c, e⟩ := cell_has (n := s.heap.objs.size + 1) k
      refine .inr ⟨.inl k, c, e, ?_⟩
      have q := x.cell y c e
      rw [bindC_get ndP hp hu (by show scope.names.lookup y ≠ _; rw [k]; decide)] at q
      exact q
  · exact e0.hok.fresh (Nat.le_of_lt (x.above y c (PySem.mem_of_lookup h)))
  · unfold start
    show _ = N.length
    rw [List.length_append, List.length_map, List.length_replicate]
    omega
theorem fn_of {CX : CXT} {P : Program} {w : World} {K : PySem.W.Frag} {mg : Str → Option Value} {base : Heap} {k : Nat} {f : Addr} {name qual : Str} {params : Arguments} {body : List Stmt} {scope : Scope} {dV kV doc pm cdv ct oc : Value} {an od : Option Addr}
    {osl : Array (Option Value)} {N ps : List Str} {sp : Sp} (lk : K.lookup f = some ⟨oc, od, .func (PySem.W.fnOf name qual params body scope dV kV doc pm an cdv ct), osl⟩) (hcd : PySem.W.codeIn K cdv qual = true) (S : FnScope N ps scope)
    (len : ∀ vs H Q E, sp vs H Q E → vs.length = ps.length)
    (hbody : ∀ (A : Around) (outer : List Env) (s : Shared) (H : Hp) (vs : List V) (Q : VK) (E : XK), Room k (A.deeper (envOfC qual scope s.heap.objs.size f cdv)) → sp vs H Q E →
      ∃ t, PSs (cxOf CX P w K mg base N qual scope f cdv A outer s H E) body t ∧ t { nx := fun _ H' => Q .non H', rt := Q } (start N vs) H) :
    FnOk P w K mg base CX (k + 1) f (PySem.W.fnOf name qual params body scope dV kV doc pm an cdv ct) ps sp := by
  refine ⟨len, fun A outer s H args us vs Q E hr e0 hb r hsp => ?_⟩
  have hl := len _ _ _ _ hsp
  have KX : K.In s.heap := e0.mod.kin.keeps fun b o e => (e0.bs b o e).1
  have lim : s.heap.NoLimit := e0.mod.nolimit.keeps fun b o e => (e0.bs b o e).1
  have hkind : ∀ y ∈ ps.zip us, scope.names.lookup y.1 = some .local ∨ (scope.names.lookup y.1 = some .cell ∧ ((cellsFrom (s.heap.objs.size + 1) scope.names []).lookup y.1).isSome = true) := fun ⟨n, v⟩ hy => by
    rcases S.par n (List.of_mem_zip hy).1 with q | q
    · exact .inl q
    · exact .inr ⟨q, PySem.W.cellsFrom_some _ _ _ (.inl q)⟩
  refine codeAny_call_function hr.depth (KX _ _ lk) rfl S.co S.gen rfl (PySem.W.codeRec_of KX hcd) (hb _ _ _ _ ?_)
  refine wpAny_newFunctionEnv_cells S.kind hkind fun env he s1 x => ?_
  subst he
  refine ⟨lim.keeps x.toInCall.keep, codeAny_func ?_⟩
  obtain ⟨t, ht, hq⟩ := hbody A outer s H vs Q E (hr.deeper _) hsp
  have I : Inv (cxOf CX P w K mg base N qual scope f cdv A outer s H E) [] (start N vs) H s1 := inv_start S hr.hd e0 hl r x
  refine wpAny_mono (ht [] s1 (start N vs) H _ I hq) (fun fl s' hs => ?_) fun e s' hs => hs
  have fin : ∀ {σ' : St} {H' : Hp} {v : V} {u : Value}, Inv (cxOf CX P w K mg base N qual scope f cdv A outer s H E) [] σ' H' s' → RelV v u → Q v H' → CE outer P w H s Q u s' :=
    fun {σ' H' v u} J rv q => ⟨v, H', J.os, J.bare, J.base, J.hok, rv, q⟩
  cases fl with
  | ret u =>
    obtain ⟨v, σ', H', J, rv, q⟩ := hs
    exact fin J rv q
  | next =>
    obtain ⟨σ', H', J, q⟩ := hs
    exact fin (v := V.non) (u := Value.none) J rfl q
  | brk =>
    obtain ⟨_, _, _, q⟩ := hs
    exact False.elim q
  | cont =>
    obtain ⟨_, _, _, q⟩ := hs
    exact False.elim q
end L2
namespace L2
open PySem PySem.Spec PyProof.Rows
section
variable {X : Cx} {x : Str} {p pos : Pos} {e : Expr} {es : List Expr} {t : TA} {id T : String} {r : List V → Hp → VK → Prop}
noncomputable def tCB (r : List V → Hp → VK → Prop) (t : TA) : TE := fun σ H Q => t σ H fun vs H1 => r vs H1 Q
theorem pe_callB (hc : CallR X (.builtin id) r) (hg : Gl X x) (hm : X.mg x = none) (hv : bootBuiltins x = some (.builtin id)) (ha : PA X (e :: es) t) (hn : x ≠ "__name__" := by decide) (hdb : (x == ("__debug__" : Str)) = false := by decide)
    (he : starEach (e :: es) X.env = (false, eval e X.env) :: starEach es X.env := by rfl) (hpl : (backTo pos (starEach es X.env)).any (·.1) = false := by rfl) : PE X (.Call (.Name x p) (e :: es) [] pos) (tCB r t) := by
  intro pins s σ H Q I h
  refine wpAny_Call_Name_kw (ld_blt I hg hm hv ?_ hn hdb)
  exact PyProof.Rows.callWith_builtin1 (thn (ha pos pins s σ H _ I h) fun us s1 ⟨vs, H1, I1, r1, q1⟩ => hc pins s1 σ H1 vs us Q I1 r1 q1) he hpl
theorem pe_callTy (hc : CallR X (.type T) r) (hg : Gl X x) (hm : X.mg x = none) (hv : bootBuiltins x = some (.type T)) (ha : PA X (e :: es) t) (hn : x ≠ "__name__" := by decide) (hdb : (x == ("__debug__" : Str)) = false := by decide)
    (he : starEach (e :: es) X.env = (false, eval e X.env) :: starEach es X.env := by rfl) (hpl : (backTo pos (starEach es X.env)).any (·.1) = false := by rfl) : PE X (.Call (.Name x p) (e :: es) [] pos) (tCB r t) := by
  intro pins s σ H Q I h
  refine wpAny_Call_Name_kw (ld_blt I hg hm hv ?_ hn hdb)
  exact PyProof.Rows.callWith_type1 (thn (ha pos pins s σ H _ I h) fun us s1 ⟨vs, H1, I1, r1, q1⟩ => hc pins s1 σ H1 vs us Q I1 r1 q1) he hpl
end
end L2
namespace HT
open PySem PyProof.Rows
section
open PySem.SeqAt
open PySem.AutoSeq1 (wpAny_loadPart')
open PySem.MeetsSeq PySem.MeetsSeq2 PySem.MeetsSeq3
end
section
variable {prog : Program} {w : World} {A : Around} {E : Value → Shared → Prop} {s : Shared}
noncomputable def sIx (n d : Nat) : Option Int → Nat
  | none => d
  | some v => if v < 0 then (v + (n : Int)).toNat else min v.toNat n
theorem sIx_le (n d : Nat) (hd : d ≤ n) (o : Option Int) : sIx n d o ≤ n := by
  cases o with
  | none => exact hd
  | some v =>
    show (if v < 0 then (v + (n : Int)).toNat else min v.toNat n) ≤ n
    by_cases hv : v < 0
    · rw [if_pos hv]; omega
    · rw [if_neg hv]; exact Nat.min_le_right _ _
theorem clip_eq (v : Int) (n d : Nat) : (if v < 0 then max (v + (n : Int)) 0 else min v (n : Int)) = ((sIx n d (some v) : Nat) : Int) := by
  show (if v < 0 then max (v + (n : Int)) 0 else min v (n : Int)) = (((if v < 0 then (v + (n : Int)).toNat else min v.toNat n) : Nat) : Int)
  by_cases hv : v < 0
  · simp only [if_pos hv]; omega
  · simp only [if_neg hv]; omega
end
end HT
namespace L2
open PySem PySem.Spec PyProof.Rows
noncomputable abbrev TO := St → Hp → (Option Int → Hp → Prop) → Prop
noncomputable def PO (X : Cx) (e : Option Expr) (t : TO) : Prop :=
  ∀ (pins : List (Addr × Obj)) (s : Shared) (σ : St) (H : Hp) (Q : Option Int → Hp → Prop), Inv X pins σ H s → t σ H Q →
    wpAny (model X.prog X.w) X.A (evalPart e X.env) (fun u s' => ∃ o H', Inv X pins σ H' s' ∧ IsPart u o ∧ Q o H') X.xe s
noncomputable def tNoPart : TO := fun _ H Q => Q none H
noncomputable def tPart (t : TE) : TO := fun σ H Q => t σ H fun x H1 => ∃ i, x = .int i ∧ Q (some i) H1
section
variable {X : Cx} {e : Expr} {te : TE} {lo hi : Option Expr} {tl th : TO} {pos p2 : Pos}
theorem po_none : PO X none tNoPart := by
  intro pins s σ H Q I h
  rw [evalPart_none]
  exact wpAny_pure ⟨none, H, I, .none, h⟩
theorem po_some (h : PE X e te) : PO X (some e) (tPart te) := by
  intro pins s σ H Q I hw
  rw [evalPart_some]
  refine thn (h pins s σ H _ I hw) fun u s1 ⟨x, H1, I1, r1, q1⟩ => ?_
  obtain ⟨i, rfl, q⟩ := q1
  obtain ⟨t, rfl⟩ := r1
  exact ⟨some i, H1, I1, .int i t, q⟩
noncomputable def SlR (X : Cx) (r : V → Option Int → Option Int → Hp → VK → Prop) : Prop :=
  ∀ (pins : List (Addr × Obj)) (s : Shared) (σ : St) (H : Hp) (x : V) (v vl vu : Value) (lo hi : Option Int) (sl : Addr) (Q : VK), Inv X pins σ H s → RelV x v → s.heap.IsSliceOf sl vl vu .none → IsPart vl lo → IsPart vu hi → r x lo hi H Q →
    ∃ T id, typeLookup (.type T) "__getitem__" = pure (some (.builtin id)) ∧ s.TypeIs v T ∧ wpAny (model X.prog X.w) X.A (getItem v (.ref sl)) (EP X pins σ Q) X.xe s
noncomputable def tSl (r : V → Option Int → Option Int → Hp → VK → Prop) (te : TE) (tl th : TO) : TE := fun σ H Q => te σ H fun x H1 => tl σ H1 fun l H2 => th σ H2 fun u H3 => r x l u H3 Q
theorem pe_slice {r : V → Option Int → Option Int → Hp → VK → Prop} (hr : SlR X r) (he : PE X e te) (hl : PO X lo tl) (hu : PO X hi th) : PE X (.Subscript e (.Slice lo hi none p2) pos) (tSl r te tl th) := by
  intro pins s σ H Q I h
  refine Subscript_ (thn (he pins s σ H _ I h) fun v s1 ⟨x, H1, I1, r1, q1⟩ => ?_)
  refine wpAny_Slice (thn (hl pins s1 σ H1 _ I1 q1) fun vl s2 ⟨l, H2, I2, pl, q2⟩ => thn (hu pins s2 σ H2 _ I2 q2) fun vu s3 ⟨u, H3, I3, pu, q3⟩ => ?_)
  rw [evalPart_none]
  refine wpAny_pure ?_
  have I4 : Inv X pins σ H3 { s3 with heap := s3.heap.push { cls := .type "slice", data := .fields #[vl, vu, .none] } } := I3.kept (t' := s3.toks) fun b ob q => Heap.get?_push_of_some _ q
  obtain ⟨T, id, hT, ht, hg⟩ := hr pins { s3 with heap := s3.heap.push { cls := .type "slice", data := .fields #[vl, vu, .none] } } σ H3 x v vl vu l u s3.heap.objs.size Q I4 r1 (Heap.IsSliceOf.new ..) pl pu q3
  show wpAny (model X.prog X.w) X.A (subscriptTail e (.Slice lo hi none p2) v (.ref s3.heap.objs.size)) (EP X pins σ Q) X.xe { s3 with heap := s3.heap.push { cls := .type "slice", data := .fields #[vl, vu, .none] } }
  exact tail_any (ops := [.ref s3.heap.objs.size, v]) ht hT hg (by with_unfolding_all rfl)
noncomputable def cutV (xs : List V) (lo hi : Option Int) : List V := (xs.drop (HT.sIx xs.length 0 lo)).take (HT.sIx xs.length xs.length hi - HT.sIx xs.length 0 lo)
theorem cutV_length (xs : List V) (lo hi : Option Int) : (cutV xs lo hi).length ≤ xs.length := by
  unfold cutV
  rw [List.length_take, List.length_drop]
  omega
end
end L2
namespace L2
open PySem PySem.Spec PyProof.Rows
noncomputable def ixN (n : Nat) (i : Int) : Option Nat := if 0 ≤ i then (if i < n then some i.toNat else none) else if -(n : Int) ≤ i then some (i + n).toNat else none
noncomputable def atI {α : Type} (xs : List α) (i : Int) : Option α := (ixN xs.length i).bind fun j => xs[j]?
theorem ixN_seq {n : Nat} {i : Int} {j : Nat} (h : ixN n i = some j) : seqIndex? i n = some j ∧ j < n ∧ -(n : Int) ≤ i ∧ i < n := by
  unfold ixN at h
  by_cases h0 : 0 ≤ i
  · rw [if_pos h0] at h
    by_cases h1 : i < n
    · rw [if_pos h1] at h
      have e : i.toNat = j := Option.some.inj h
      exact ⟨by rw [seqIndex_of h0 h1, e], by omega, by omega, h1⟩
    · rw [if_neg h1] at h; cases h
  · rw [if_neg h0] at h
    by_cases h1 : -(n : Int) ≤ i
    · rw [if_pos h1] at h
      have e : (i + n).toNat = j := Option.some.inj h
      exact ⟨by rw [seqIndex_neg (by omega) h1, e], by omega, h1, by omega⟩
    · rw [if_neg h1] at h; cases h
theorem atI_get {α : Type} {xs : List α} {i : Int} {v : α} (h : atI xs i = some v) : ∃ j, seqIndex? i xs.length = some j ∧ xs[j]? = some v ∧ j < xs.length ∧ -(xs.length : Int) ≤ i ∧ i < xs.length := by
  unfold atI at h
  cases e : ixN xs.length i with
  | none => rw [e] at h; cases h
  | some j =>
    rw [e] at h
    obtain ⟨h1, h2, h3, h4⟩ := ixN_seq e
    exact ⟨j, h1, h, h2, h3, h4⟩
theorem atI_nat {α : Type} {xs : List α} {j : Nat} {v : α} (h : xs[j]? = some v) : atI xs (j : Int) = some v := by
  have hj : j < xs.length := (List.getElem?_eq_some_iff.mp h).1
  have e : ixN xs.length (j : Int) = some j := by
    unfold ixN
    rw [if_pos (by omega), if_pos (by omega)]; simp
  unfold atI; rw [e]; exact h
noncomputable def PlainIx (b : Expr) : Prop := ∀ o i, subscripted b false o i = operate [o, i] (getItem o i)
noncomputable def IxR (X : Cx) (r : R2) : Prop :=
  ∀ (value slice : Expr) (pins : List (Addr × Obj)) (s : Shared) (σ : St) (H : Hp) (x y : V) (v u : Value) (Q : VK), Inv X pins σ H s → RelV x v → RelV y u → r x y H Q →
    subscripted slice false v u = operate [v, u] (getItem v u) → wpAny (model X.prog X.w) X.A (subscriptTail value slice v u) (EP X pins σ Q) X.xe s
noncomputable def MtR (X : Cx) (id : String) (r : V → List V → Hp → VK → Prop) : Prop :=
  ∀ (pins : List (Addr × Obj)) (s : Shared) (σ : St) (H : Hp) (x : V) (xs : List V) (v : Value) (us : List Value) (Q : VK), Inv X pins σ H s → RelV x v → Vals xs us → r x xs H Q →
    wpAny (model X.prog X.w) X.A (call (.builtin id) (v :: us)) (EP X pins σ Q) X.xe s
section
variable {X : Cx} {a b : Expr} {ta tb : TE} {pos : Pos}
theorem pe_ix {r : R2} (hr : IxR X r) (ha : PE X a ta) (hb : PE X b tb) (hs : PlainIx b) : PE X (.Subscript a b pos) (tOp r ta tb) := by
  intro pins s σ H Q I h
  exact Subscript_ (binT ha hb I h fun v u s2 x y H2 I2 rx ry q => hr a b pins s2 σ H2 x y v u Q I2 rx ry q (hs _ _))
noncomputable def rIxL (K : PySem.W.Frag) : R2 := fun x y H Q => ∃ p xs i v, x = .ref p ∧ y = .int i ∧ SqL K H p xs ∧ atI xs i = some v ∧ Q v H
noncomputable def rIxT (K : PySem.W.Frag) : R2 := fun x y H Q => ∃ p xs i v, x = .ref p ∧ y = .int i ∧ SqT K H p xs ∧ atI xs i = some v ∧ Q v H
noncomputable def rIxS : R2 := fun x y H Q => ∃ z i c, x = .str z ∧ y = .int i ∧ z.length ≤ sizeLine ∧ atI z.cps.toList i = some c ∧ Q (.str ⟨#[c]⟩) H
theorem ix_list : IxR X (rIxL X.K) := by
  intro value slice pins s σ H x y v u Q I rx ry h hs
  obtain ⟨p, xs, i, z, rfl, rfl, hq, he, q⟩ := h
  cases rx
  obtain ⟨t, rfl⟩ := ry
  obtain ⟨its, r, pl, hz⟩ := I.list hq
  obtain ⟨j, h1, h2, h3, h4, h5⟩ := atI_get he
  obtain ⟨w, ew, rw'⟩ := r.get h2
  have hl := r.length
  have hn := line63
  have fin : EP X pins σ Q w s := ⟨z, H, I, rw', q⟩
  by_cases h0 : 0 ≤ i
  · have hj : i.toNat = j := by
      rw [seqIndex_of h0 h5] at h1
      exact Option.some.inj h1
    exact item_listR pl.isList h0 (by omega) (by rw [hj]; simpa using ew) fin hs
  · have hj : (i + (its.toArray.size : Int)).toNat = j := by
      rw [seqIndex_neg (by omega) h4] at h1
      rw [List.size_toArray, ← hl]
      exact Option.some.inj h1
    exact subscriptTail_builtinR (x := w) pl.isList.typeIs slot_list_getitem.lookup
      (wpAny_getItem_list_neg (Q := fun r s' => r = w ∧ EP X pins σ Q r s') pl.isList (by omega) (by rw [List.size_toArray] <;> omega) (by omega) (by rw [hj]; simpa using ew) ⟨rfl, fin⟩) hs
theorem ix_tup : IxR X (rIxT X.K) := by
  intro value slice pins s σ H x y v u Q I rx ry h hs
  obtain ⟨p, xs, i, z, rfl, rfl, hq, he, q⟩ := h
  cases rx
  obtain ⟨t, rfl⟩ := ry
  obtain ⟨its, r, pl, hz⟩ := I.tuple hq
  obtain ⟨j, h1, h2, h3, h4, h5⟩ := atI_get he
  obtain ⟨w, ew, rw'⟩ := r.get h2
  have hl := r.length
  have hn := line63
  have fin : EP X pins σ Q w s := ⟨z, H, I, rw', q⟩
  exact subscriptTail_builtinR (x := w) pl.typeIs slot_tuple_getitem.lookup
    (getItem_tuple (j := j) (Q := fun r s' => r = w ∧ EP X pins σ Q r s') pl (by omega) (by omega) (by rw [List.size_toArray, ← hl]; exact h1) (by simpa using ew) ⟨rfl, fin⟩) hs
theorem ix_str : IxR X rIxS := by
  intro value slice pins s σ H x y v u Q I rx ry h hs
  obtain ⟨z, i, c, rfl, rfl, hz, he, q⟩ := h
  obtain ⟨t, rfl⟩ := rx
  obtain ⟨t', rfl⟩ := ry
  obtain ⟨j, h1, h2, h3, h4, h5⟩ := atI_get he
  have hl : z.cps.toList.length = z.length := by simp [Str.length]
  rw [hl] at h1 h4 h5
  have hn := line63
  exact tail_any (typeIs_str s z t) slot_str_getitem.lookup (getItem_str (c := c) (by
    have e1 : decide (i < -(2 ^ 63 : Int)) = false := decide_eq_false (by omega)
    have e2 : decide (i ≥ 2 ^ 63) = false := decide_eq_false (by omega)
    rw [e1, e2, Bool.or_false]) (by rw [h1]; simpa using h2) ⟨.str ⟨#[c]⟩, H, I.tok _, ⟨_, rfl⟩, q⟩) hs
theorem mapSeq_set (its : List Value) (n j : Nat) (u : Value) : Obj.mapSeq (·.setIfInBounds j u) { cls := .type "list", data := .seq its.toArray n } = { cls := .type "list", data := .seq (its.set j u).toArray n } := by
  simp [Obj.mapSeq]
theorem Inv.lst {pins : List (Addr × Obj)} {σ : St} {H : Hp} {s : Shared} {p : Addr} {xs : List V} (I : Inv X pins σ H s) (h : H p = some (.lst xs)) :
    ∃ (its : List Value) (n : Nat), Vals xs its ∧ s.heap.get? p = some { cls := .type "list", data := .seq its.toArray n } ∧ xs.length ≤ sizeLine := by
  obtain ⟨z, its, n, r, e⟩ := I.hok p _ h
  exact ⟨its, n, r, e, z⟩
theorem Inv.lstUpd {pins : List (Addr × Obj)} {σ : St} {H : Hp} {s : Shared} {p : Addr} {xs ys : List V} {its its' : List Value} {n n' : Nat} {f : Obj → Obj} (I : Inv X pins σ H s) (h : H p = some (.lst xs))
    (ho : s.heap.get? p = some { cls := .type "list", data := .seq its.toArray n }) (hf : f { cls := .type "list", data := .seq its.toArray n } = { cls := .type "list", data := .seq its'.toArray n' }) (r : Vals ys its') (hz : ys.length ≤ sizeLine) (t : Nat) :
    Inv X pins σ (upd H p (.lst ys)) { s with heap := s.heap.update p f, toks := t } := by
  have e : (s.heap.update p f).get? p = some { cls := .type "list", data := .seq its'.toArray n' } := by
    rw [Heap.get?_update_self f ho (by rw [hf] <;> rfl), hf]
  refine I.write (x := p) (e := p) (by rw [h]; trivial) (.inl rfl) (fun b u hb q => (Heap.get?_update_other _ _ (Ne.symm hb)).trans q) ⟨_, e⟩ ?_
  exact ⟨hz, its', n', r, e⟩
noncomputable def rSetL : V → V → V → Hp → (Hp → Prop) → Prop := fun o i v H Q => ∃ p xs k j, o = .ref p ∧ i = .int k ∧ H p = some (.lst xs) ∧ ixN xs.length k = some j ∧ Q (upd H p (.lst (xs.set j v)))
theorem set_list : PSet X rSetL := by
  intro pins s σ H o i v ov iv u Q I ro ri rv h
  obtain ⟨p, xs, k, j, rfl, rfl, hp, hj, q⟩ := h
  cases ro
  obtain ⟨t, rfl⟩ := ri
  obtain ⟨its, n, r, ho, hz⟩ := I.lst hp
  obtain ⟨h1, h2, h3, h4⟩ := ixN_seq hj
  have hl := r.length
  have hn := line63
  have I' : Inv X pins σ (upd H p (.lst (xs.set j v))) { s with heap := s.heap.update p (Obj.mapSeq (·.setIfInBounds j u)) } :=
    I.lstUpd hp ho (mapSeq_set its n j u) (r.set rv j) (by rw [List.length_set]; exact hz) s.toks
  by_cases h0 : 0 ≤ k
  · have hk : k.toNat = j := by
      rw [seqIndex_of h0 h4] at h1
      exact Option.some.inj h1
    exact PySem.W.ki_setAt ho h0 (by omega) (by rw [List.size_toArray, ← hl]; exact h4) (by rw [hk]; exact ⟨_, I', q⟩)
  · have hk : (k + (its.toArray.size : Int)).toNat = j := by
      rw [seqIndex_neg (by omega) h3] at h1
      rw [List.size_toArray, ← hl]
      exact Option.some.inj h1
    exact PySem.W.ki_setBack ho (by omega) (by rw [List.size_toArray, ← hl]; exact h3) (by omega) (by rw [hk]; exact ⟨_, I', q⟩)
theorem slice_bounds (lo hi : Option Int) (n : Nat) : (sliceBounds lo hi none n).1 = ((HT.sIx n 0 lo : Nat) : Int) ∧ (sliceBounds lo hi none n).2.1 = ((HT.sIx n n hi : Nat) : Int) ∧ (sliceBounds lo hi none n).2.2 = 1 := by
  refine ⟨?_, ?_, rfl⟩
  · cases lo with
    | none => simp [sliceBounds, HT.sIx]
    | some i =>
      simp only [sliceBounds, HT.sIx, Option.getD_none, show (1 : Int) > 0 by decide, if_true]
      by_cases h : i < 0
      · simp only [h, if_true] <;> omega
      · simp only [h, if_false] <;> omega
  · cases hi with
    | none => simp [sliceBounds, HT.sIx]
    | some i =>
      simp only [sliceBounds, HT.sIx, Option.getD_none, show (1 : Int) > 0 by decide, if_true]
      by_cases h : i < 0
      · simp only [h, if_true] <;> omega
      · simp only [h, if_false] <;> omega
theorem slicePick_cut (its : List Value) (lo hi : Option Int) : slicePick its.toArray lo hi none = ((its.drop (HT.sIx its.length 0 lo)).take (HT.sIx its.length its.length hi - HT.sIx its.length 0 lo)).toArray := by
  obtain ⟨h1, h2, h3⟩ := slice_bounds lo hi its.toArray.size
  unfold slicePick
  rw [h1, h2, h3]
  simp only [sliceRange_one, pick_run, List.size_toArray] <;> rfl
noncomputable def rSlL (K : PySem.W.Frag) : V → Option Int → Option Int → Hp → VK → Prop := fun x lo hi H Q => ∃ a xs, x = .ref a ∧ SqL K H a xs ∧ ∀ p, H p = none → Q (.ref p) (upd H p (.lst (cutV xs lo hi)))
theorem sl_list : SlR X (rSlL X.K) := by
  intro pins s σ H x v vl vu lo hi sl Q I rx hs pl pu h
  obtain ⟨a, xs, rfl, hx, q⟩ := h
  cases rx
  obtain ⟨its, r, ht, hz⟩ := I.list hx
  have hlen := r.length
  refine ⟨"list", _, slot_list_getitem.lookup, ht.isList.typeIs, ?_⟩
  refine wpAny_getItem_list_slice ht.isList hs pl pu .none (by simp) ?_ (by rw [List.size_toArray] <;> omega)
  rw [slicePick_cut, ← hlen]
  refine ⟨.ref s.heap.objs.size, _, I.laid (t' := s.toks) (o := .lst (cutV xs lo hi)) (fun b ob q => Heap.get?_push_of_some _ q) (Nat.le_refl _) ?_, rfl, q _ (I.hok.fresh (Nat.le_refl _))⟩
  exact ⟨Nat.le_trans (cutV_length xs lo hi) hz, _, 0, (r.drop (HT.sIx xs.length 0 lo)).take (HT.sIx xs.length xs.length hi - HT.sIx xs.length 0 lo), Heap.get?_push_size _ rfl⟩
noncomputable def flatV : V → Bool
  | .non => true
  | .bl _ => true
  | .int _ => true
  | .str _ => true
  | _ => false
noncomputable def eqV : V → V → Bool
  | .non, .non => true
  | .bl a, .bl b => a == b
  | .bl a, .int b => (if a then 1 else 0) == b
  | .int a, .bl b => a == (if b then 1 else 0)
  | .int a, .int b => a == b
  | .str a, .str b => a == b
  | _, _ => false
theorem eqAt_V {A : Around} {s : Shared} {y x : V} {u v : Value} (ry : RelV y u) (rx : RelV x v) (fy : flatV y = true) (fx : flatV x = true) : SeqAt.EqAt A s u v (eqV y x) := by
  cases y with
  | non =>
    cases ry
    cases x with
    | non => cases rx; exact SeqAt.EqAt.same _
    | bl b => cases rx; exact SeqAt.EqAt.none_bool b
    | int b => obtain ⟨t, rfl⟩ := rx; exact SeqAt.EqAt.none_int b t
    | str b => obtain ⟨t, rfl⟩ := rx; exact SeqAt.EqAt.none_str b t
    | _ => exact absurd (show false = true from fx) Bool.false_ne_true
  | bl a =>
    cases ry
    cases x with
    | non => cases rx; exact SeqAt.EqAt.bool_none a
    | bl b => cases rx; exact SeqAt.EqAt.bool_bool a b
    | int b => obtain ⟨t, rfl⟩ := rx; exact SeqAt.EqAt.bool_int a b t
    | str b => obtain ⟨t, rfl⟩ := rx; exact SeqAt.EqAt.bool_str a b t
    | _ => exact absurd (show false = true from fx) Bool.false_ne_true
  | int a =>
    obtain ⟨t', rfl⟩ := ry
    cases x with
    | non => cases rx; exact SeqAt.EqAt.int_none a t'
    | bl b => cases rx; exact SeqAt.EqAt.int_bool a t' b
    | int b => obtain ⟨t, rfl⟩ := rx; exact SeqAt.EqAt.int_int a t' b t
    | str b => obtain ⟨t, rfl⟩ := rx; exact SeqAt.EqAt.int_str a t' b t
    | _ => exact absurd (show false = true from fx) Bool.false_ne_true
  | str a =>
    obtain ⟨t', rfl⟩ := ry
    cases x with
    | non => cases rx; exact SeqAt.EqAt.str_none a t'
    | bl b => cases rx; exact SeqAt.EqAt.str_bool a t' b
    | int b => obtain ⟨t, rfl⟩ := rx; exact SeqAt.EqAt.str_int a t' b t
    | str b => obtain ⟨t, rfl⟩ := rx; exact SeqAt.EqAt.str_str a t' b t
    | _ => exact absurd (show false = true from fx) Bool.false_ne_true
  | _ => exact absurd (show false = true from fy) Bool.false_ne_true
noncomputable def eqU (x : V) (u : Value) : Bool := match u with
  | .none => eqV .non x
  | .bool b => eqV (.bl b) x
  | .int i _ => eqV (.int i) x
  | .str z _ => eqV (.str z) x
  | _ => false
theorem eqU_of {x y : V} {u : Value} (r : RelV y u) (f : flatV y = true) : eqU x u = eqV y x := by
  cases y with
  | non => cases r; rfl
  | bl b => cases r; rfl
  | int i => obtain ⟨t, rfl⟩ := r; rfl
  | str z => obtain ⟨t, rfl⟩ := r; rfl
  | _ => exact absurd (show false = true from f) Bool.false_ne_true
theorem any_eqU {x : V} : ∀ {xs : List V} {us : List Value}, Vals xs us → xs.all flatV = true → us.any (eqU x) = xs.any fun y => eqV y x
  | _, _, .nil, _ => rfl
  | y :: xs, u :: us, .cons r t, f => by
    rw [List.all_cons, Bool.and_eq_true] at f
    rw [List.any_cons, List.any_cons, eqU_of r f.1, any_eqU t f.2]
theorem mem_eqAt {A : Around} {s : Shared} {x : V} {v : Value} (rx : RelV x v) (fx : flatV x = true) : ∀ {xs : List V} {us : List Value}, Vals xs us → xs.all flatV = true → ∀ u ∈ us, SeqAt.EqAt A s u v (eqU x u)
  | _, _, .nil, _ => fun u hu => by cases hu
  | y :: xs, u :: us, .cons r t, f => fun u' hu => by
    rw [List.all_cons, Bool.and_eq_true] at f
    rcases List.mem_cons.mp hu with rfl | hu
    · rw [eqU_of r f.1]; exact eqAt_V r rx f.1 fx
    · exact mem_eqAt rx fx t f.2 u' hu
noncomputable def inV (x : V) (xs : List V) : Bool := xs.any fun y => eqV y x
noncomputable def rIn (K : PySem.W.Frag) (neg : Bool) : R2 := fun x y H Q => ∃ p xs, y = .ref p ∧ (SqL K H p xs ∨ SqT K H p xs) ∧ flatV x = true ∧ xs.all flatV = true ∧ Q (.bl (if neg then !inV x xs else inV x xs)) H
theorem op_in_seq : OpR X (compareOp .In) (rIn X.K false) := by
  intro pins s σ H x y v u Q I rx ry h
  obtain ⟨p, xs, rfl, hq, fx, fs, q⟩ := h
  cases ry
  rcases hq with hq | hq
  · obtain ⟨its, r, pl, hz⟩ := I.list hq
    refine SeqAt.in_listAt (eqU x) pl.isList (fun w hw => mem_eqAt rx fx r fs w (by simpa using hw)) ⟨.bl _, H, I, rfl, ?_⟩
    rw [show its.toArray.any (eqU x) = its.any (eqU x) by simp, any_eqU r fs]
    exact q
  · obtain ⟨its, r, pl, hz⟩ := I.tuple hq
    refine SeqAt.in_tupleAt (eqU x) pl (fun w hw => mem_eqAt rx fx r fs w (by simpa using hw)) ⟨.bl _, H, I, rfl, ?_⟩
    rw [show its.toArray.any (eqU x) = its.any (eqU x) by simp, any_eqU r fs]
    exact q
theorem op_notIn_seq : OpR X (compareOp .NotIn) (rIn X.K true) := by
  intro pins s σ H x y v u Q I rx ry h
  obtain ⟨p, xs, rfl, hq, fx, fs, q⟩ := h
  cases ry
  rcases hq with hq | hq
  · obtain ⟨its, r, pl, hz⟩ := I.list hq
    refine SeqAt.notIn_listAt (eqU x) pl.isList (fun w hw => mem_eqAt rx fx r fs w (by simpa using hw)) ⟨.bl _, H, I, rfl, ?_⟩
    rw [show its.toArray.any (eqU x) = its.any (eqU x) by simp, any_eqU r fs]
    exact q
  · obtain ⟨its, r, pl, hz⟩ := I.tuple hq
    refine SeqAt.notIn_tupleAt (eqU x) pl (fun w hw => mem_eqAt rx fx r fs w (by simpa using hw)) ⟨.bl _, H, I, rfl, ?_⟩
    rw [show its.toArray.any (eqU x) = its.any (eqU x) by simp, any_eqU r fs]
    exact q
theorem call_len_seq : CallR X (.builtin "len") (fun xs H Q => ∃ p ys, xs = [.ref p] ∧ (SqL X.K H p ys ∨ SqT X.K H p ys) ∧ Q (.int ys.length) H) := by
  intro pins s σ H xs us Q I r h
  obtain ⟨p, ys, rfl, hq, q⟩ := h
  obtain ⟨u, rfl, rx⟩ := vals1 r
  cases rx
  have hn := line63
  rcases hq with hq | hq
  · obtain ⟨its, r', pl, hz⟩ := I.list hq
    have hlen := r'.length
    exact Calls.call_len_list pl.isList (by simp only [List.size_toArray] <;> omega) ⟨.int ys.length, H, I.tok _, ⟨s.toks + 1, by rw [List.size_toArray, hlen]⟩, q⟩
  · obtain ⟨its, r', pl, hz⟩ := I.tuple hq
    have hlen := r'.length
    exact len_tuple pl (by simp only [List.size_toArray] <;> omega) ⟨.int ys.length, H, I.tok _, ⟨s.toks + 1, by rw [List.size_toArray, hlen]⟩, q⟩
theorem call_list_of : CallR X (.type "list") (fun xs H Q => ∃ p ys, xs = [.ref p] ∧ (SqL X.K H p ys ∨ SqT X.K H p ys) ∧ ∀ l, H l = none → Q (.ref l) (upd H l (.lst ys))) := by
  intro pins s σ H xs us Q I r h
  obtain ⟨p, ys, rfl, hq, q⟩ := h
  obtain ⟨u, rfl, rx⟩ := vals1 r
  cases rx
  have fin : ∀ (its : List Value), Vals ys its → ys.length ≤ sizeLine → ∀ (h' : Heap) (c' : Nat), (∀ b o', s.heap.get? b = some o' → h'.get? b = some o') →
      h'.get? s.heap.objs.size = some { cls := .type "list", dict := none, data := .seq its.toArray c', slots := #[] } → EP X pins σ Q (.ref s.heap.objs.size) { s with heap := h' } := fun its r' hz h' c' kp e =>
    ⟨.ref s.heap.objs.size, _, I.laid (t' := s.toks) kp (Nat.le_refl _) (show ObjOk X.prog X.w _ h' _ (.lst ys) from ⟨hz, its, c', r', e⟩), rfl, q _ (I.hok.fresh (Nat.le_refl _))⟩
  rcases hq with hq | hq
  · obtain ⟨its, r', pl, hz⟩ := I.list hq
    have hlen := r'.length
    obtain ⟨o, ho, hc, n, hd⟩ := pl.isList
    exact call_list_seq p (.inl rfl) ho hc hd (fun h' c' kp e => fin its r' hz h' c' kp e) (by simp only [List.size_toArray] <;> omega)
  · obtain ⟨its, r', pl, hz⟩ := I.tuple hq
    have hlen := r'.length
    obtain ⟨o, ho, hc, n, hd⟩ := pl
    exact call_list_seq p (.inr rfl) ho hc hd (fun h' c' kp e => fin its r' hz h' c' kp e) (by simp only [List.size_toArray] <;> omega)
noncomputable def tyV (K : PySem.W.Frag) (T : String) (x : V) (H : Hp) : Prop := match x with
  | .str _ => T = "str"
  | .int _ => T = "int"
  | .ref p => (T = "list" ∧ ∃ xs, SqL K H p xs) ∨ (T = "tuple" ∧ ∃ o, K.lookup p = some o ∧ o.cls = .type "tuple" ∧ o.dict = none) ∨
      (T = "dict" ∧ ((∃ kvs, H p = some (.dK kvs)) ∨ ∃ kvs, H p = some (.dT kvs))) ∨ (T = "set" ∧ ∃ S n, H p = some (.set S n))
  | _ => False
theorem tyV_is {pins : List (Addr × Obj)} {σ : St} {H : Hp} {s : Shared} {T : String} {x : V} {v : Value} (I : Inv X pins σ H s) (r : RelV x v) (ty : tyV X.K T x H) :
    s.TypeIs v T ∧ ∀ a, v = .ref a → ∃ ob, s.heap.get? a = some ob ∧ ob.dict = none := by
  cases x with
  | str z =>
    obtain ⟨t, rfl⟩ := r
    cases (show T = "str" from ty)
    exact ⟨typeIs_str s z t, fun _ e => nomatch e⟩
  | int i =>
    obtain ⟨t, rfl⟩ := r
    cases (show T = "int" from ty)
    exact ⟨typeIs_int s i t, fun _ e => nomatch e⟩
  | ref p =>
    cases r
    rcases ty with ⟨rfl, xs, hq⟩ | ⟨rfl, o, hk, hc, hd⟩ | ⟨rfl, hk⟩ | ⟨rfl, S, n, hk⟩
    · obtain ⟨its, _, pl, _⟩ := I.list hq
      refine ⟨pl.isList.typeIs, fun a e => ?_⟩
      cases e
      obtain ⟨o, n, e, c, hd, _⟩ := pl
      exact ⟨o, e, hd⟩
    · refine ⟨⟨o, I.kIn p o hk, hc⟩, fun a e => ?_⟩
      cases e
      exact ⟨o, I.kIn _ o hk, hd⟩
    · have z : ∃ o, s.heap.get? p = some o ∧ o.ExactDict := by
        rcases hk with ⟨kvs, hk⟩ | ⟨kvs, hk⟩
        · obtain ⟨_, _, _, _, o, _, _, e, ex, _⟩ := I.hok p _ hk
          exact ⟨o, e, ex⟩
        · obtain ⟨_, _, _, _, o, _, _, e, ex, _⟩ := I.hok p _ hk
          exact ⟨o, e, ex⟩
      obtain ⟨o, e, ex⟩ := z
      refine ⟨⟨o, e, ex.1⟩, fun a e2 => ?_⟩
      cases e2
      exact ⟨o, e, ex.2.1⟩
    · obtain ⟨o, _, _, _, e, ex, _⟩ := I.hok p _ hk
      refine ⟨⟨o, e, ex.1⟩, fun a e2 => ?_⟩
      cases e2
      exact ⟨o, e, ex.2.1⟩
  | _ => exact False.elim ty
noncomputable def tBM0 (K : PySem.W.Frag) (T : String) (r : V → List V → Hp → VK → Prop) (to : TE) : TE := fun σ H Q => to σ H fun x H1 => tyV K T x H1 ∧ r x [] H1 Q
noncomputable def tBM (K : PySem.W.Frag) (T : String) (r : V → List V → Hp → VK → Prop) (to : TE) (t : TA) : TE := fun σ H Q => to σ H fun x H1 => tyV K T x H1 ∧ t σ H1 fun xs H2 => r x xs H2 Q
variable {o e : Expr} {es : List Expr} {to : TE} {t : TA} {name : Str} {apos cpos : Pos} {T id : String} {r : V → List V → Hp → VK → Prop}
theorem pe_bm0 (pa : PlainAttrs T) (slot : Slot T name id) (hty : typeOf (.builtin id) = pure (.type "method_descriptor")) (hm : MtR X id r) (ho : PE X o to)
    (hbase : attributeBase o name X.env (eval o X.env) = eval o X.env := by rfl) (hline : (apos.endLine == cpos.line) = true := by rfl) : PE X (.Call (.Attribute o name apos) [] [] cpos) (tBM0 X.K T r to) := by
  intro pins s σ H Q I h
  refine wpAny_Call_method0_late hbase hline (thn (ho pins s σ H _ I h) fun v s1 ⟨x, H1, I1, r1, ty, q1⟩ => ?_)
  obtain ⟨h1, h2⟩ := tyV_is I1 r1 ty
  exact ⟨T, id, pa, slot, hty, h1, h2, Calls.callWith_builtin rfl (PySem.evalArgs_none (hm pins s1 σ H1 x [] v [] Q I1 r1 .nil q1))⟩
theorem pe_bm (pa : PlainAttrs T) (slot : Slot T name id) (hty : typeOf (.builtin id) = pure (.type "method_descriptor")) (hm : MtR X id r) (ho : PE X o to) (ha : PA X (e :: es) t)
    (hbase : attributeBase o name X.env (eval o X.env) = eval o X.env := by rfl)
    (hfew : ((backTo cpos (starEach (e :: es) X.env)).all (fun x => !x.1) && (backToKw cpos (keywordEach [] X.env)).all (fun x => x.1.isSome)
      && decide ((e :: es).length + ([] : List Keyword).length + (if ([] : List Keyword).isEmpty then 0 else 1) < 30)) = true := by rfl)
    (hline : (apos.endLine == cpos.line) = true := by rfl) (hs : starEach (e :: es) X.env = (false, eval e X.env) :: starEach es X.env := by rfl) (hplain : (backTo cpos (starEach es X.env)).any (·.1) = false := by rfl) :
    PE X (.Call (.Attribute o name apos) (e :: es) [] cpos) (tBM X.K T r to t) := by
  intro pins s σ H Q I h
  refine wpAny_Call_method_late hbase hfew hline rfl (thn (ho pins s σ H _ I h) fun v s1 ⟨x, H1, I1, r1, ty, q1⟩ => ?_)
  obtain ⟨h1, h2⟩ := tyV_is I1 r1 ty
  refine ⟨T, id, pa, slot, hty, h1, h2, ?_⟩
  have hA := ha cpos pins s1 σ H1 _ I1 q1
  rw [hs] at hA ⊢
  refine Calls.callWith_builtin (by show (false || (backTo cpos (starEach es X.env)).any (·.1)) = false; rw [hplain] <;> rfl) (Calls.evalArgs_plain ?_)
  exact thn hA fun us s2 ⟨vs, H2, I2, r2, q2⟩ => hm pins s2 σ H2 x vs v us Q I2 r1 r2 q2
/- xs.append(e), list.index on a module's tuple .. are MtR facts of 06m -/
end
end L2
namespace L2
open PySem PySem.Spec PyProof.Rows
noncomputable def MtM (X : Cx) (id : String) (r : V → List V → Hp → VK → Prop) : Prop :=
  ∀ (pins : List (Addr × Obj)) (s : Shared) (σ : St) (H : Hp) (x : V) (xs : List V) (v : Value) (us : List Value) (Q : VK), Inv X pins σ H s → RelV x v → Vals xs us → r x xs H Q →
    wpAny (model X.prog X.w) X.A (call (.builtin id) (v :: us)) (EP X pins σ Q) X.xe s
theorem Vals.one : ∀ {x : V} {us : List Value}, Vals [x] us → ∃ u, us = [u] ∧ RelV x u
  | _, _, .cons r .nil => ⟨_, rfl, r⟩
theorem Vals.two : ∀ {x y : V} {us : List Value}, Vals [x, y] us → ∃ u v, us = [u, v] ∧ RelV x u ∧ RelV y v
  | _, _, _, .cons r (.cons q .nil) => ⟨_, _, rfl, r, q⟩
section
variable {X : Cx} {pins : List (Addr × Obj)} {σ : St} {H : Hp} {s : Shared} {l b : Addr} {xs ys zs : List V}
theorem Inv.lset {its its' : List Value} {n : Nat} {f : Array Value → Array Value} {t' : Nat} (I : Inv X pins σ H s) (hH : H l = some (.lst xs))
    (e : s.heap.get? l = some { cls := .type "list", data := .seq its.toArray n }) (hf : f its.toArray = its'.toArray) (hv : Vals ys its') (hz : ys.length ≤ sizeLine) :
    Inv X pins σ (upd H l (.lst ys)) { s with heap := s.heap.update l (Obj.mapSeq f), toks := t' } := by
  have q := PySem.IsL.update e f
  rw [hf] at q
  refine I.write (x := l) (e := l) (by rw [hH]; exact trivial) (.inl rfl) (fun b' u hb hu => (Heap.get?_update_other s.heap (Obj.mapSeq f) (Ne.symm hb)).trans hu) ⟨_, q⟩ ?_
  exact ⟨hz, its', _, hv, q⟩
theorem Inv.lnew {its : List Value} {t' : Nat} (I : Inv X pins σ H s) (hv : Vals ys its) (hz : ys.length ≤ sizeLine) :
    Inv X pins σ (upd H s.heap.objs.size (.lst ys)) { s with heap := s.heap.push { cls := .type "list", data := .seq its.toArray }, toks := t' } :=
  I.laid (fun _ _ q => Heap.get?_push_of_some _ q) (Nat.le_refl _) ⟨hz, its, 0, hv, Heap.get?_push_size _ rfl⟩
theorem Inv.fresh (I : Inv X pins σ H s) : H s.heap.objs.size = none := I.hok.fresh (Nat.le_refl _)
theorem Inv.lstM (I : Inv X pins σ H s) (hH : H l = some (.lst xs)) : xs.length ≤ sizeLine ∧ ∃ (its : List Value) (n : Nat), Vals xs its ∧ xs.length = its.length ∧ s.heap.get? l = some { cls := .type "list", data := .seq its.toArray n } := by
  obtain ⟨z, its, n, r, e⟩ := I.hok l _ hH
  exact ⟨z, its, n, r, r.length, e⟩
end
section
variable {X : Cx}
noncomputable def rAppend : V → List V → Hp → VK → Prop := fun x vs H Q => ∃ l xs y, x = .ref l ∧ vs = [y] ∧ H l = some (.lst xs) ∧ xs.length < sizeLine ∧ Q .non (upd H l (.lst (xs ++ [y])))
theorem mt_append : MtM X "list.append" rAppend := by
  intro pins s σ H x vs v us Q I rx rv h
  obtain ⟨l, xs, y, rfl, rfl, hH, hz, q⟩ := h
  cases rx
  obtain ⟨u, rfl, ru⟩ := rv.one
  obtain ⟨z, its, n, r, hl, e⟩ := I.lstM hH
  refine call_meets F.slot_list_append ⟨_, e, rfl⟩ F.entry_list_append (F.args_list_append_2 _ _) (PySem.list_append l its.toArray n u (by rw [List.size_toArray]; omega)) ⟨e, ?_⟩
  refine ⟨.non, _, I.lset (its' := its ++ [u]) hH e (by simp) (r.append (.cons ru .nil)) ?_, rfl, q⟩
  rw [List.length_append, List.length_singleton]
  omega
noncomputable def rCat : R2 := fun x y H Q => ∃ l b xs zs, x = .ref l ∧ y = .ref b ∧ H l = some (.lst xs) ∧ H b = some (.lst zs) ∧ xs.length + zs.length ≤ sizeLine ∧ ∀ p, H p = none → Q (.ref p) (upd H p (.lst (xs ++ zs)))
theorem op_cat : OpR X (binaryOp .Add) rCat := by
  intro pins s σ H x y v u Q I rx ry h
  obtain ⟨l, b, xs, zs, rfl, rfl, hH, hB, hz, q⟩ := h
  cases rx
  cases ry
  obtain ⟨z, its, n, r, hl, e⟩ := I.lstM hH
  obtain ⟨z2, its2, n2, r2, hl2, e2⟩ := I.lstM hB
  refine PySem.P.add_list e e2 ?_ (by rw [List.size_toArray, List.size_toArray]; omega)
  have ea : its.toArray ++ its2.toArray = (its ++ its2).toArray := by simp
  rw [ea]
  exact ⟨.ref _, _, I.lnew (t' := s.toks) (r.append r2) (by rw [List.length_append]; omega), rfl, q _ I.fresh⟩
end
section
variable {prog : Program} {w : World} {A : Around} {E : Value → Shared → Prop} {s : Shared}
set_option maxRecDepth 100000 in
end
section
variable {X : Cx}
end
end L2
namespace Att
open PySem PySem.W PySem.Calls PyProof.Rows
theorem ints_of_wellAll {P : Params} {h : Heap} : ∀ (ns : List Int) (vs : List Value), WellAll P h vs (ns.map WData.int) → IntsAre vs ns := by
  intro ns
  induction ns with
  | nil =>
    intro vs w
    rw [List.map_nil] at w
    cases w
    exact .nil
  | cons n ns ih =>
    intro vs w
    rw [List.map_cons] at w
    cases w with
    | cons a b =>
      cases a
      exact .cons _ _ (ih _ b)
theorem script_of {l : OpenLaw} {n : Nat} (hn : l.most = some n) {P : Params} {h : Heap} {args : List WData} {vals : List Value}
    (hpre : l.row.toRowW.claim.pre args = true) (hwl : WellAll P h vals args) :
    ∃ a vs ns, vals = [Value.ref a] ∧ args = [WData.list (ns.map WData.int)] ∧ h.get? a = some { cls := .type "list", data := .seq vs.toArray } ∧ IntsAre vs ns ∧ ns.length ≤ n := by
  have hsh : WShape.hasAll [] args [.list .int] = true := (pre_splitW hpre).1
  have hc : l.pre.holds [] { args := args } = true := (pre_splitW hpre).2
  obtain ⟨d, r, rfl, h1, h2⟩ := hasAllW_cons hsh
  obtain rfl := hasAllW_nil h2
  obtain ⟨xs, rfl, h3⟩ := hasW_list h1
  obtain ⟨ns, rfl⟩ := items_int h3
  have hlen : ns.length ≤ n := by
    unfold OpenLaw.pre at hc
    have h4 : (WTm.not (.lt (.lit (.int (n : Int))) (.len (.arg 0)))).holds [] { args := [.list (ns.map .int)] } = true := by
      have h4 := (holds_andW hc).1
      rw [hn] at h4
      exact h4
    have h5 := condW_of h4 (w_not (w_lt w_lit (w_len_list (w_arg rfl))))
    rw [List.length_map] at h5
    refine Nat.le_of_not_lt fun q => ?_
    have q' : (n : Int) < ((ns.length : Nat) : Int) := by omega
    first
      | (rw [decide_eq_true q'] at h5; exact absurd h5 (by decide))
      | (simp at h5; omega)
  cases hwl with
  | cons w1 w2 =>
    cases w2
    cases w1 with
    | list ho hall => exact ⟨_, _, ns, rfl, rfl, ho, ints_of_wellAll ns _ hall, hlen⟩
theorem post_true (l : OpenLaw) (args : List WData) : l.row.toRowW.claim.post args (.bool true) args = true :=
  postW_of (r := l.row.toRowW) (X := (true == true))
    (show WShape.has [] (.bool true) .bool = true by first | rfl | decide | simp [WShape.has, WShape.arms, WShape.armsAll])
    (show (WTm.eq .res (.lit (.bool true))).value [] { args := args, res := some (.bool true), after := args } = some (.bool (true == true)) from w_eq_bool (w_res rfl) w_lit) rfl
theorem attach_call {l : OpenLaw} {n : Nat} {q : Program} {loose : List Str} {XP : (Str → Option Value) → Heap → Prop} {YP : World → Heap → Prop} {d : DefRec}
    (hn : l.most = some n) (hdf : d.params.defaults = [])
    (call : ∀ (w : World) (s₀ s₁ : Shared) (mg mb : Str → Option Value) (fa : Addr) (o : Obj) (pm cd doc : Value) (a : Addr) (vs : List Value) (ns : List Int),
      Ground q loose [] XP w s₀ mg mb s₁.heap → YP w s₁.heap →
      s₁.heap.get? fa = some o → o.data = .func (docDef d.name d.params d.body d.scope pm cd doc) → s₁.heap.CodeRec cd d.name → mg d.name = some (.ref fa) →
      s₁.heap.get? a = some { cls := .type "list", data := .seq vs.toArray } → IntsAre vs ns → ns.length ≤ n → s₁.gens = #[] →
      codeAny (model l.prog w) callerA (.call (.ref fa) ⟨[.ref a], []⟩) (fun r s' => r = .ok (.ret (.bool true)) ∧ OldK s₁.heap s'.heap ∧ s'.os = s₁.os ∧ AllBare s'.gens) s₁) :
    WalkO q loose XP YP l.row.toRowW d [] (fun f vs => PySem.call f vs) := by
  intro w s₀ s₁ mg mb G Y fa o pm cd doc dV kV ho hd hcd hD hmg hg args vals as hpre hlay hrd hwl hlo
  obtain rfl : dV = .none := Dflts.none hD hdf
  obtain rfl : kV = .none := Dflts.noKw hD
  obtain ⟨a, vs, ns, rfl, rfl, hobj, hints, hlen⟩ := script_of hn hpre hwl
  refine enter_call (codeAny_mono (call w s₀ s₁ mg mb fa o pm cd doc a vs ns G Y ho (fd_plain hd) hcd hmg hobj hints hlen hg) fun r s' hq => ?_)
  obtain ⟨rfl, h2, h3, h4⟩ := hq
  exact ⟨.inl ⟨.bool true, .bool true, [], rfl, fun _ => rfl, .bool true, post_true l _, fun _ => ⟨List.Pairwise.nil, fun _ hm => (nomatch hm)⟩⟩, h2, h3, h4⟩
section
variable {prog : Program} {w : World} {A : Around} {E : Value → Shared → Prop} {s : Shared} {K : Frag}
end
end Att
namespace L2
open PySem PySem.Spec PyProof.Rows
theorem vals_ints : ∀ {vs : List Value} {ns : List Int}, IntsAre vs ns → Vals (ns.map V.int) vs
  | _, _, .nil => .nil
  | _, _, .cons n t h => .cons ⟨t, rfl⟩ (vals_ints h)
noncomputable def Only (H : Hp) : Prop := ∀ b, H b = none ∨ ∃ o xs, H b = some (.frz o (.lst xs))
theorem law_call {P : Program} {w : World} {K : PySem.W.Frag} {mg mb : Str → Option Value} {CX : CXT} {k : Nat} {fa a : Addr} {fd : FuncData} {x : Str} {sp : Sp} {s₁ : Shared} {vs : List Value} {ns : List Int}
    (KX : K.In s₁.heap) (hns : s₁.heap.Ns mainGlobals mg) (hb : s₁.heap.Ns builtinsNs mb) (hbb : ∀ x : Str, x ≠ "__name__" → mb x = bootBuiltins x) (hlim : s₁.heap.NoLimit) (hg : s₁.gens = #[])
    (ha : s₁.heap.get? a = some { cls := .type "list", data := .seq vs.toArray }) (hi : IntsAre vs ns) (hl : ns.length ≤ sizeLine) (hr : Room k callerA)
    (F : ∀ base : Heap, K.In base → base.Ns mainGlobals mg → FnOk P w K mg base CX k fa fd [x] sp) (hbind : ∀ (s : Shared) (u : Value), BindsTo s fd ⟨[u], []⟩ [(x, u)])
    (hsp : ∀ H : Hp, Only H → SqL K H a (ns.map V.int) → sp [.ref a] H (fun v _ => v = .bl true) fun _ _ _ => False)
    (hCX : ∀ H e s', CX [] H s₁ (fun _ _ _ => False) e s' → False) :
    codeAny (model P w) callerA (.call (.ref fa) ⟨[.ref a], []⟩) (fun r s' => r = .ok (.ret (.bool true)) ∧ OldK s₁.heap s'.heap ∧ s'.os = s₁.os ∧ AllBare s'.gens) s₁ := by
  have rv := vals_ints hi
  have lenV := hi.length
  have core : ∀ H : Hp, Only H → SqL K H a (ns.map V.int) → HOk P w H s₁.heap → (∀ b, H b ≠ none → b = a) → (H a ≠ none → K.lookup a = none) →
      codeAny (model P w) callerA (.call (.ref fa) ⟨[.ref a], []⟩) (fun r s' => r = .ok (.ret (.bool true)) ∧ OldK s₁.heap s'.heap ∧ s'.os = s₁.os ∧ AllBare s'.gens) s₁ := by
    intro H hO hS hok hA hK
    have base_of : ∀ {b : Addr} {o : Obj}, s₁.heap.get? b = some o → H b = none → (hidT s₁.heap H).get? b = some o := fun e n => hidT_get e n
    have noA : ∀ {b : Addr} {o : Obj} {es : Array DictEntry} {ep : Nat}, s₁.heap.get? b = some o → o.data = .dict es ep → H b = none := fun {b o es ep} e d => by
      cases q : H b with
      | none => rfl
      | some u =>
        have e' : b = a := hA b (by rw [q]; simp)
        subst e'
        rw [ha] at e; cases e
        have d' : Data.seq vs.toArray _ = Data.dict es ep := d
        cases d'
    have nsK : ∀ {b : Addr} {m : Str → Option Value}, s₁.heap.Ns b m → (hidT s₁.heap H).Ns b m := fun {b m} ⟨o, es, ep, e, d, r⟩ => ⟨o, es, ep, base_of e (noA e d), d, r⟩
    have hKb : K.In (hidT s₁.heap H) := fun b o e => base_of (KX b o e) (by
      cases q : H b with
      | none => rfl
      | some u =>
        have e' : b = a := hA b (by rw [q]; simp)
        subst e'
        rw [hK (by rw [q]; simp)] at e; cases e)
    have hM : Mod K mg (hidT s₁.heap H) := ⟨hKb, nsK hns, ⟨mb, nsK hb, hbb⟩, let ⟨mc, h1, h2⟩ := hlim; ⟨mc, nsK h1, h2⟩⟩
    have e0 : Env0 P w K mg (hidT s₁.heap H) callerA [] s₁ H := ⟨rfl, hM, fun b o e => of_hidT e, Nat.le_of_eq (hidT_size _ _), trivial, fun b hb => absurd (show b ∈ ([] : List Addr) from hb) (by simp), hok, .of_eq hg⟩
    refine codeAny_mono ((F _ hKb (nsK hns)).run callerA [] s₁ H ⟨[.ref a], []⟩ [.ref a] [.ref a] _ _ hr e0 (hbind s₁ (.ref a)) (.cons rfl .nil) (hsp H hO hS)) fun r s' h => ?_
    cases r with
    | error e => exact (hCX H e s' h).elim
    | ok fl =>
      cases fl with
      | next => exact False.elim h
      | brk => exact False.elim h
      | cont => exact False.elim h
      | ret u =>
        obtain ⟨v, H', os, bare, un, hok', r', q⟩ := h
        have q' : v = .bl true := q
        subst q'
        obtain rfl : u = Value.bool true := r'
        refine ⟨rfl, OldK.of_keep fun b o e => ?_, os, bare⟩
        cases q : H b with
        | none => exact un.keep b o e q (by intro z; exact absurd (show b ∈ ([] : List Addr) from z) (by simp)) (by simp)
        | some u =>
          rcases hO b with z | ⟨ob, xs, z⟩
          · rw [q] at z; cases z
          · have z2 := un.frzs b ob _ z
            obtain ⟨e1, _⟩ := hok b _ z
            obtain ⟨e2, _⟩ := hok' b _ z2
            rw [e] at e1; cases e1
            exact e2
  cases hk : K.lookup a with
  | some o =>
    have e := KX a o hk
    rw [ha] at e
    cases e
    refine core (fun _ => none) (fun _ => .inl rfl) (.inr ⟨_, vs.toArray, _, hk, rfl, rfl, rfl, by rw [List.size_toArray, lenV]; exact hl, by simpa using rv⟩) (fun b u z => by have z' : (none : Option HO) = some u := z; cases z') (fun b z => absurd rfl z) fun z => absurd rfl z
  | none =>
    refine core (fun b => if b = a then some (.frz { cls := .type "list", data := .seq vs.toArray } (.lst (ns.map V.int))) else none) (fun b => ?_) (.inl (.inr ⟨{ cls := .type "list", data := .seq vs.toArray }, if_pos rfl⟩)) (fun b u z => ?_) (fun b z => ?_) fun _ => hk
    · by_cases hb : b = a
      · exact .inr ⟨_, _, if_pos hb⟩
      · exact .inl (if_neg hb)
    · by_cases hb : b = a
      · have z' := (if_pos hb).symm.trans z
        cases z'
        subst hb
        exact ⟨ha, by rw [List.length_map]; exact hl, vs, _, rv, ha⟩
      · have z' := (if_neg hb).symm.trans z
        cases z'
    · by_cases hb : b = a
      · exact hb
      · exact absurd (if_neg hb) z
end L2
namespace L2
open PySem PySem.Spec PyProof.Rows
theorem walk_of {l : PySem.W.OpenLaw} {n k : Nat} {q : Program} {loose : List Str} {XP : (Str → Option Value) → Heap → Prop} {YP : World → Heap → Prop} {d : DefRec} {K : Params → PySem.W.Frag} {CX : World → CXT} {sp : World → Sp} {x : Str}
    (hn : l.most = some n) (hn2 : n ≤ sizeLine) (hdf : d.params.defaults = []) (hr : Room k callerA)
    (hY : ∀ (w : World) (h : Heap), YP w h → (K w.params).In h)
    (F : ∀ (w : World) (mg : Str → Option Value) (fa : Addr) (h : Heap), (K w.params).In h → h.Ns mainGlobals mg → mg d.name = some (.ref fa) →
      ∃ fd : FuncData, (∀ (s : Shared) (u : Value), BindsTo s fd ⟨[u], []⟩ [(x, u)]) ∧
        ∀ base : Heap, (K w.params).In base → base.Ns mainGlobals mg → FnOk l.prog w (K w.params) mg base (CX w) k fa fd [x] (sp w))
    (hsp : ∀ (w : World) (H : Hp) (a : Addr) (ns : List Int), ns.length ≤ n → Only H → SqL (K w.params) H a (ns.map V.int) → sp w [.ref a] H (fun v _ => v = .bl true) fun _ _ _ => False)
    (hCX : ∀ (w : World) (H : Hp) (s : Shared) (e : Value) (s' : Shared), CX w [] H s (fun _ _ _ => False) e s' → False) :
    PySem.W.WalkO q loose XP YP l.row.toRowW d [] (fun f vs => PySem.call f vs) := by
  refine Att.attach_call hn hdf fun w s₀ s₁ mg mb fa o pm cd doc a vs ns G Y ho hd hcd hmg hobj hints hlen hg => ?_
  have KX := hY w _ Y
  obtain ⟨fd, hb, hF⟩ := F w mg fa _ KX G.T.g hmg
  exact law_call KX G.T.g G.T.b G.T.builtins G.T.nolimit hg hobj hints (Nat.le_trans hlen hn2) hr hF hb (fun H hO hS => hsp w H a ns hlen hO hS) fun H e s' => hCX w H s₁ e s'
end L2
namespace L2
open PySem PySem.Spec PyProof.Rows
noncomputable def defArgs (s : Stmt) : Arguments := match s with
  | .FunctionDef _ a _ _ _ _ _ _ _ _ => a
  | _ => { posonlyargs := [], args := [], vararg := none, kwonlyargs := [], kw_defaults := [], kwarg := none, defaults := [] }
noncomputable def defBody (s : Stmt) : List Stmt := match s with
  | .FunctionDef _ _ b _ _ _ _ _ _ _ => b
  | _ => []
noncomputable def defScope (s : Stmt) : Scope := match s with
  | .FunctionDef _ _ _ _ _ _ sc _ _ _ => sc
  | _ => { kind := .function, names := [], isGenerator := false, isCoroutine := false }
noncomputable abbrev CX0 : CXT := fun _ _ _ _ _ _ => False
noncomputable abbrev E0 : XK := fun _ _ _ => False
theorem pass0 {X : Cx} : Passes CX0 X E0 := fun _ _ _ _ _ _ _ h => h.elim
structure Fun (K : PySem.W.Frag) (x qual : Str) (st : Stmt) (f : Addr) (fd : FuncData) : Prop where
  ex : ∃ (oc : Value) (od : Option Addr) (kV doc pm : Value) (an : Option Addr) (cdv ct : Value) (osl : Array (Option Value)),
    fd = PySem.W.fnOf x qual (defArgs st) (defBody st) (defScope st) .none kV doc pm an cdv ct ∧ K.lookup f = some ⟨oc, od, .func fd, osl⟩ ∧ PySem.W.codeIn K cdv qual = true
  kp : PySem.W.keepIn K (.ref f) = true
section
variable {P : Program} {w : World} {K : PySem.W.Frag} {mg : Str → Option Value} {base : Heap}
theorem Fun.ok {x qual : Str} {st : Stmt} {f : Addr} {fd : FuncData} {N ps : List Str} {k : Nat} {sp : Sp} (F : Fun K x qual st f fd) (S : FnScope N ps (defScope st)) (len : ∀ vs H Q E, sp vs H Q E → vs.length = ps.length)
    (hbody : ∀ (cdv : Value) (A : Around) (outer : List Env) (s : Shared) (H : Hp) (vs : List V) (Q : VK) (E : XK), Room k (A.deeper (envOfC qual (defScope st) s.heap.objs.size f cdv)) → sp vs H Q E →
      ∃ t, PSs (cxOf CX0 P w K mg base N qual (defScope st) f cdv A outer s H E).nox (defBody st) t ∧ t { nx := fun _ H' => Q .non H', rt := Q } (start N vs) H) : FnOk P w K mg base CX0 (k + 1) f fd ps sp := by
  obtain ⟨oc, od, kV, doc, pm, an, cdv, ct, osl, rfl, lk, hcd⟩ := F.ex
  refine fn_of lk hcd S len fun A outer s H vs Q E hr hsp => ?_
  obtain ⟨t, h, q⟩ := hbody cdv A outer s H vs Q E hr hsp
  exact ⟨t, h.nox, q⟩
theorem Fun.binds {x qual : Str} {st : Stmt} {f : Addr} {fd : FuncData} {ps : List Str} (F : Fun K x qual st f fd)
    (h : ∀ (kV doc pm : Value) (an : Option Addr) (cdv ct : Value) (us : List Value), us.length = ps.length → bindArgs (PySem.W.fnOf x qual (defArgs st) (defBody st) (defScope st) .none kV doc pm an cdv ct) ⟨us, []⟩ = pure (ps.zip us)) : Binds K fd ps [] := by
  obtain ⟨oc, od, kV, doc, pm, an, cdv, ct, osl, rfl, lk, hcd⟩ := F.ex
  exact .all (h kV doc pm an cdv ct)
theorem fun_mk {x qual : Str} {st : Stmt} {f : Addr} {oc : Value} {od an : Option Addr} {osl : Array (Option Value)} {kV doc pm cdv ct : Value} (l : K.lookup f = some ⟨oc, od, .func (PySem.W.fnOf x qual (defArgs st) (defBody st) (defScope st) .none kV doc pm an cdv ct), osl⟩)
    (c : PySem.W.codeIn K cdv qual = true) (k : PySem.W.keepIn K (.ref f) = true) : Fun K x qual st f (PySem.W.fnOf x qual (defArgs st) (defBody st) (defScope st) .none kV doc pm an cdv ct) := ⟨⟨oc, od, kV, doc, pm, an, cdv, ct, osl, rfl, l, c⟩, k⟩
end
theorem small1000 {n : Nat} (h : n ≤ 1000) : n < sizeLine := Nat.lt_of_le_of_lt h (by decide)
section
variable {X : Cx}
theorem pv (i : Nat) {x : Str} {pos : Pos} (hN : X.N[i]? = some x := by rfl) (hv : Vis X.env.scope x := by first | exact Or.inl rfl | exact Or.inr (Or.inl rfl) | exact Or.inr (Or.inr rfl)) (hd : (x == ("__debug__" : Str)) = false := by decide)
    (hcd : (x == ("__classdict__" : Str)) = false := by decide) : PE X (.Name x pos) (tVar i) := pe_var hN hv hd hcd
end
theorem iteF {A B : Prop} (h : B) : if false = true then A else B := by
  rw [if_neg Bool.false_ne_true]
  exact h
theorem iteT {A B : Prop} (h : A) : if true = true then A else B := by
  rw [if_pos rfl]
  exact h
theorem ite2 {c A B : Prop} [Decidable c] (h1 : c → A) (h2 : ¬ c → B) : if c then A else B := by
  by_cases h : c
  · rw [if_pos h]
    exact h1 h
  · rw [if_neg h]
    exact h2 h
noncomputable def Same (H H' : Hp) : Prop := ∀ b o, H b = some o → H' b = some o
theorem Same.refl (H : Hp) : Same H H := fun _ _ h => h
theorem Same.trans {H H1 H2 : Hp} (a : Same H H1) (b : Same H1 H2) : Same H H2 := fun c o h => b c o (a c o h)
theorem Same.seq {K : PySem.W.Frag} {H H' : Hp} {a : Addr} {xs : List V} (e : Same H H') (h : SqL K H a xs) : SqL K H' a xs := by
  rcases h with (h | ⟨o, h⟩) | h
  · exact .inl (.inl (e _ _ h))
  · exact .inl (.inr ⟨o, e _ _ h⟩)
  · exact .inr h
end L2
namespace L2
open PySem PySem.Spec PyProof.Rows
section
variable {κ : Type} [DecidableEq κ]
noncomputable def valV (kvs : List (κ × V)) (k : κ) : Option V := (kvs.find? fun kv => decide (kv.1 = k)).map (·.2)
noncomputable def putK (kvs : List (κ × V)) (k : κ) (v : V) : List (κ × V) :=
  if (kvs.any fun kv => decide (kv.1 = k)) = true then kvs.map (fun kv => if kv.1 = k then (kv.1, v) else kv) else kvs ++ [(k, v)]
theorem valV_pos {p : κ × V} {r : List (κ × V)} {k : κ} (e : p.1 = k) : valV (p :: r) k = some p.2 := by simp [valV, List.find?_cons, e]
theorem valV_neg {p : κ × V} {r : List (κ × V)} {k : κ} (e : ¬ p.1 = k) : valV (p :: r) k = valV r k := by simp [valV, List.find?_cons, e]
theorem valV_any (k : κ) : ∀ kvs : List (κ × V), (kvs.any fun kv => decide (kv.1 = k)) = (valV kvs k).isSome
  | [] => rfl
  | p :: r => by
    rw [List.any_cons]
    by_cases e : p.1 = k
    · simp only [valV_pos e, decide_eq_true e, Bool.true_or, Option.isSome_some]
    · rw [valV_neg e, decide_eq_false e, Bool.false_or]; exact valV_any k r
theorem valV_map (k j : κ) (y : V) : ∀ kvs : List (κ × V), valV (kvs.map fun kv => if kv.1 = k then (kv.1, y) else kv) j = (valV kvs j).map fun x => if j = k then y else x
  | [] => rfl
  | p :: r => by
    have ih := valV_map k j y r
    rw [List.map_cons]
    by_cases h : p.1 = k
    · rw [if_pos h]
      by_cases e : p.1 = j
      · rw [valV_pos (p := (p.1, y)) e, valV_pos e, Option.map_some, if_pos (e.symm.trans h)]
      · rw [valV_neg (p := (p.1, y)) e, valV_neg e, ih]
    · rw [if_neg h]
      by_cases e : p.1 = j
      · rw [valV_pos (p := p) e, valV_pos e, Option.map_some, if_neg (fun z => h (e.trans z))]
      · rw [valV_neg (p := p) e, valV_neg e, ih]
theorem valV_snoc (k j : κ) (y : V) : ∀ kvs : List (κ × V), valV kvs k = none → valV (kvs ++ [(k, y)]) j = if j = k then some y else valV kvs j
  | [], _ => by
    by_cases e : k = j
    · rw [if_pos e.symm]; exact valV_pos (p := (k, y)) e
    · rw [if_neg (fun z => e z.symm)]; exact valV_neg (p := (k, y)) e
  | p :: r, hn => by
    rw [List.cons_append]
    have hk : ¬ p.1 = k := fun z => by rw [valV_pos z] at hn; cases hn
    rw [valV_neg hk] at hn
    have ih := valV_snoc k j y r hn
    by_cases e : p.1 = j
    · rw [valV_pos e, valV_pos e, if_neg (fun z => hk (e.trans z))]
    · rw [valV_neg e, valV_neg e, ih]
theorem valV_put (kvs : List (κ × V)) (k j : κ) (y : V) : valV (putK kvs k y) j = if j = k then some y else valV kvs j := by
  unfold putK
  by_cases a : (kvs.any fun kv => decide (kv.1 = k)) = true
  · rw [if_pos a, valV_map]
    rw [valV_any] at a
    by_cases e : j = k
    · obtain ⟨x, hx⟩ := Option.isSome_iff_exists.mp a
      rw [if_pos e, e, hx, Option.map_some, if_pos rfl]
    · rw [if_neg e]
      cases valV kvs j with
      | none => rfl
      | some x => rw [Option.map_some, if_neg e]
  · rw [if_neg a]
    refine valV_snoc k j y kvs ?_
    rw [valV_any] at a
    cases q : valV kvs k with
    | none => rfl
    | some x => rw [q] at a; exact (a rfl).elim
theorem length_putK (kvs : List (κ × V)) (k : κ) (v : V) : (putK kvs k v).length ≤ kvs.length + 1 := by
  unfold putK
  split
  · rw [List.length_map]; omega
  · rw [List.length_append, List.length_cons, List.length_nil]; omega
theorem putK_new {kvs : List (κ × V)} {k : κ} (v : V) (h : valV kvs k = none) : putK kvs k v = kvs ++ [(k, v)] := by
  unfold putK
  rw [valV_any, h]
  exact if_neg (by decide)
theorem RelO.isSome_eq {o : Option V} {u : Option Value} (r : RelO o u) : o.isSome = u.isSome := by
  cases o with
  | none => cases u with
    | none => rfl
    | some _ => exact (show False from r).elim
  | some _ => cases u with
    | none => exact (show False from r).elim
    | some _ => rfl
theorem RelO.getD {o : Option V} {u : Option Value} {d : V} {d' : Value} (r : RelO o u) (rd : RelV d d') : RelV (o.getD d) (u.getD d') := by
  cases o with
  | none => cases u with
    | none => exact rd
    | some _ => exact (show False from r).elim
  | some _ => cases u with
    | none => exact (show False from r).elim
    | some _ => exact r
theorem KV.val {kvs : List (κ × V)} {vs : List (κ × Value)} (r : KV kvs vs) (k : κ) : RelO (valV kvs k) (valueAt vs k) := by
  unfold KV at r
  induction r with
  | nil => exact True.intro
  | @cons p q ps qs h t ih =>
    obtain ⟨h1, h2⟩ := h
    by_cases e : p.1 = k
    · have e' : q.1 = k := h1.symm.trans e
      have b : valueAt (q :: qs) k = some q.2 := by simp [valueAt, List.find?_cons, e']
      rw [valV_pos e, b]; exact h2
    · have e' : ¬ q.1 = k := fun z => e (h1.trans z)
      have b : valueAt (q :: qs) k = valueAt qs k := by simp [valueAt, List.find?_cons, e']
      rw [valV_neg e, b]; exact ih
theorem KV.any {kvs : List (κ × V)} {vs : List (κ × Value)} (r : KV kvs vs) (k : κ) : (kvs.any fun kv => decide (kv.1 = k)) = vs.any fun kv => decide (kv.1 = k) := by
  unfold KV at r
  induction r with
  | nil => rfl
  | cons h t ih => rw [List.any_cons, List.any_cons, ih, h.1]
theorem KV.repl {kvs : List (κ × V)} {vs : List (κ × Value)} (r : KV kvs vs) (k : κ) {y : V} {u : Value} (ry : RelV y u) :
    KV (kvs.map fun kv => if kv.1 = k then (kv.1, y) else kv) (vs.map fun kv => if kv.1 = k then (kv.1, u) else kv) := by
  unfold KV at r ⊢
  induction r with
  | nil => exact .nil
  | @cons p q ps qs h t ih =>
    rw [List.map_cons, List.map_cons]
    refine .cons ?_ ih
    obtain ⟨h1, h2⟩ := h
    by_cases e : p.1 = k
    · rw [if_pos e, if_pos (h1.symm.trans e)]; exact ⟨h1, ry⟩
    · rw [if_neg e, if_neg (fun z => e (h1.trans z))]; exact ⟨h1, h2⟩
theorem KV.put {kvs : List (κ × V)} {vs : List (κ × Value)} (r : KV kvs vs) (k : κ) {y : V} {u : Value} (ry : RelV y u) : KV (putK kvs k y) (stored vs k u) := by
  unfold putK stored
  rw [r.any k]
  by_cases e : (vs.any fun kv => decide (kv.1 = k)) = true
  · rw [if_pos e, if_pos e]; exact r.repl k ry
  · rw [if_neg e, if_neg e]; exact Paired.snoc r ⟨rfl, ry⟩
theorem KV.length {kvs : List (κ × V)} {vs : List (κ × Value)} (r : KV kvs vs) : kvs.length = vs.length := Paired.length r
end
theorem kV_is {P : Program} {w : World} {k : Key} {u : Value} (r : RelV (kV k) u) : (mixKind P w).is k u = true := by
  cases k with
  | inl i => obtain ⟨t, e⟩ := (show ∃ t, u = Value.int i t from r); subst e; exact mixKind_int P w i t
  | inr x => obtain ⟨t, e⟩ := (show ∃ t, u = Value.str x t from r); subst e; exact mixKind_str P w x t
theorem items_are {P : Program} {w : World} : ∀ {ks : List Key} {us : List Value}, Vals (ks.map kV) us → ItemsAre (mixKind P w) ks us
  | [], _, r => by rw [List.map_nil] at r; cases r; exact .nil
  | k :: ks, _, r => by
    rw [List.map_cons] at r
    cases r with
    | cons h t => exact .cons (kV_is h) (items_are t)
noncomputable abbrev KT (H : Hp) : List (List Key × V) → List (List Key × Addr × Value) → Prop := Paired fun p q => p.1 = q.1 ∧ H q.2.1 = some (.tup (p.1.map kV)) ∧ RelV p.2 q.2.2
theorem KT.val {H : Hp} {kvs : List (List Key × V)} {xs : List (List Key × Addr × Value)} (r : KT H kvs xs) (k : List Key) : RelO (valV kvs k) ((atKey xs k).map (·.2)) := by
  induction r with
  | nil => exact True.intro
  | @cons p q ps qs h t ih =>
    obtain ⟨h1, _, h2⟩ := h
    by_cases e : p.1 = k
    · have e' : q.1 = k := h1.symm.trans e
      have b : atKey (q :: qs) k = some q.2 := by simp [atKey, List.find?_cons, e']
      rw [valV_pos e, b]; exact h2
    · have e' : ¬ q.1 = k := fun z => e (h1.trans z)
      have b : atKey (q :: qs) k = atKey qs k := by simp [atKey, List.find?_cons, e']
      rw [valV_neg e, b]; exact ih
theorem KT.repl {H : Hp} {kvs : List (List Key × V)} {xs : List (List Key × Addr × Value)} (r : KT H kvs xs) (k : List Key) {y : V} {u : Value} (ry : RelV y u) :
    KT H (kvs.map fun kv => if kv.1 = k then (kv.1, y) else kv) (xs.map (putAt k u)) := by
  induction r with
  | nil => exact .nil
  | @cons p q ps qs h t ih =>
    rw [List.map_cons, List.map_cons]
    refine .cons ?_ ih
    obtain ⟨h1, h2, h3⟩ := h
    unfold putAt
    by_cases e : p.1 = k
    · rw [if_pos e, if_pos (h1.symm.trans e)]; exact ⟨h1, h2, ry⟩
    · rw [if_neg e, if_neg (fun z => e (h1.trans z))]; exact ⟨h1, h2, h3⟩
theorem KT.put {H : Hp} {kvs : List (List Key × V)} {xs : List (List Key × Addr × Value)} (r : KT H kvs xs) (k : List Key) {b : Addr} {y : V} {u : Value} (hb : H b = some (.tup (k.map kV))) (ry : RelV y u) :
    KT H (putK kvs k y) (storedH xs k b u) := by
  have e : (kvs.any fun kv => decide (kv.1 = k)) = (atKey xs k).isSome := by
    rw [valV_any, (r.val k).isSome_eq, Option.isSome_map]
  unfold putK storedH
  rw [e]
  by_cases q : (atKey xs k).isSome = true
  · rw [if_pos q, if_pos q]; exact r.repl k ry
  · rw [if_neg q, if_neg q]; exact Paired.snoc r ⟨rfl, hb, ry⟩
theorem KT.keeps {H H' : Hp} {kvs : List (List Key × V)} {xs : List (List Key × Addr × Value)} (r : KT H kvs xs) (ht : ∀ b ys, H b = some (.tup ys) → H' b = some (.tup ys)) : KT H' kvs xs :=
  Paired.mapP r fun _ _ z => ⟨z.1, ht _ _ z.2.1, z.2.2⟩
section
variable {P : Program} {w : World} {H : Hp} {h : Heap} {a : Addr}
theorem rd_of {u : HO} (ok : HOk P w H h) (e : Rd H a u) : ObjOk P w H h a u := e.ok ok
theorem dk_rd {kvs : List (Key × V)} (ok : HOk P w H h) (e : Rd H a (.dK kvs)) : kvs.length ≤ sizeLine ∧ (a == sysModules) = false ∧ ∃ vs, KV kvs vs ∧ h.DictOf (mixKind P w) a vs :=
  show ObjOk P w H h a (.dK kvs) from rd_of ok e
theorem dk_of {kvs : List (Key × V)} (ok : HOk P w H h) (e : H a = some (.dK kvs)) : kvs.length ≤ sizeLine ∧ (a == sysModules) = false ∧ ∃ vs, KV kvs vs ∧ h.DictOf (mixKind P w) a vs := dk_rd ok (.inl e)
theorem key_of {ks : List Key} (ok : HOk P w H h) (e : H a = some (.tup (ks.map kV))) : (tupleKind (mixKind P w)).is h ks a := by
  obtain ⟨_, its, r, o, h1, h2, n, h3⟩ := (show ObjOk P w H h a (.tup (ks.map kV)) from ok a _ e)
  exact ⟨o, its.toArray, n, h1, h2, h3, by simpa using items_are r⟩
theorem dt_rd {kvs : List (List Key × V)} (ok : HOk P w H h) (e : Rd H a (.dT kvs)) : kvs.length ≤ sizeLine ∧ (a == sysModules) = false ∧
    ∃ xs, KT H kvs xs ∧ h.DictOfH (tupleKind (mixKind P w)) a xs := by
  obtain ⟨z, y, xs, r, o, es, ep, h1, h2, h3, h4, h5⟩ := (show ObjOk P w H h a (.dT kvs) from rd_of ok e)
  refine ⟨z, y, xs, r, o, es, ep, h1, h2, h3, h4, fun x hx => ?_, h5⟩
  have all : ∀ {l : List (List Key × V)} {m : List (List Key × Addr × Value)}, KT H l m → ∀ x ∈ m, (tupleKind (mixKind P w)).is h x.1 x.2.1 := by
    intro l m q
    induction q with
    | nil => intro x hx; exact nomatch hx
    | @cons p q ps qs hq t ih =>
      intro x hx
      rcases List.mem_cons.mp hx with e | hx
      · subst e
        exact key_of ok (by rw [← hq.1]; exact hq.2.1)
      · exact ih x hx
  exact all r x hx
theorem dt_of {kvs : List (List Key × V)} (ok : HOk P w H h) (e : H a = some (.dT kvs)) : kvs.length ≤ sizeLine ∧ (a == sysModules) = false ∧
    ∃ xs, KT H kvs xs ∧ h.DictOfH (tupleKind (mixKind P w)) a xs := dt_rd ok (.inl e)
end
noncomputable def DGet (H : Hp) (a : Addr) (y : V) (r : Option V) : Prop :=
  (∃ kvs k, Rd H a (.dK kvs) ∧ y = kV k ∧ r = valV kvs k) ∨ ∃ kvs k b, Rd H a (.dT kvs) ∧ y = .ref b ∧ H b = some (.tup (k.map kV)) ∧ r = valV kvs k
noncomputable def DPut (H : Hp) (a : Addr) (y v : V) (H' : Hp) : Prop :=
  (∃ kvs k, H a = some (.dK kvs) ∧ y = kV k ∧ kvs.length < sizeLine ∧ H' = upd H a (.dK (putK kvs k v))) ∨
  ∃ kvs k b, H a = some (.dT kvs) ∧ y = .ref b ∧ H b = some (.tup (k.map kV)) ∧ kvs.length < sizeLine ∧ H' = upd H a (.dT (putK kvs k v))
theorem DGet.k {H : Hp} {a : Addr} {kvs : List (Key × V)} {k : Key} (e : H a = some (.dK kvs)) : DGet H a (kV k) (valV kvs k) := .inl ⟨kvs, k, .inl e, rfl, rfl⟩
theorem DPut.k {H : Hp} {a : Addr} {kvs : List (Key × V)} {k : Key} {v : V} (e : H a = some (.dK kvs)) (hl : kvs.length < sizeLine) : DPut H a (kV k) v (upd H a (.dK (putK kvs k v))) := .inl ⟨kvs, k, e, rfl, hl, rfl⟩
section
variable {X : Cx} {pins : List (Addr × Obj)} {σ : St} {H : Hp} {s : Shared} {a : Addr} {y v : V} {u r : Value} {o : Option V} {A : Around} {E : Value → Shared → Prop}
theorem Inv.big (I : Inv X pins σ H s) : sysModules < s.heap.objs.size := by
  have h : mainGlobals < s.heap.objs.size := (I.mod.glob.keeps I.bk).lt
  exact Nat.lt_trans (by decide) h
theorem d_getItem {Q : Value → Shared → Prop} (hu : A.units + 1 < cLine) (I : Inv X pins σ H s) (g : DGet H a y (some v)) (ry : RelV y u) (h : ∀ w' s', Inv X pins σ H s' → RelV v w' → Q w' s') :
    wpAny (model X.prog X.w) A (getItem (.ref a) u) Q E s := by
  rcases g with ⟨kvs, k, e, ey, l⟩ | ⟨kvs, k, b, e, ey, eb, l⟩
  · subst ey
    obtain ⟨z, hd, vs, rel, dd⟩ := dk_rd I.hok e
    obtain ⟨w', hw, rw'⟩ := RelO.some_of (v := v) (o := valueAt vs k) (by rw [l]; exact rel.val k)
    exact wpAny_getItem_of (kV_is ry) dd.mapOf hw (h w' _ (I.tok _) rw')
  · subst ey
    cases (show u = Value.ref b from ry)
    obtain ⟨z, hd, xs, rel, dd⟩ := dt_rd I.hok e
    obtain ⟨w', hw, rw'⟩ := RelO.some_of (v := v) (o := (atKey xs k).map (·.2)) (by rw [l]; exact rel.val k)
    obtain ⟨p, hp, hp2⟩ := Option.map_eq_some_iff.mp hw
    refine wpAny_getItem_heap (tupleKind_room_in1 hu) (key_of I.hok eb) dd hp ?_
    rw [hp2]
    exact h w' _ (I.tok _) rw'
theorem d_in {Q : Value → Shared → Prop} (hu : A.units + 1 < cLine) (I : Inv X pins σ H s) (g : DGet H a y o) (ry : RelV y u) (h : ∀ s', Inv X pins σ H s' → Q (.bool o.isSome) s') :
    wpAny (model X.prog X.w) A (compareOp .In u (.ref a)) Q E s := by
  rcases g with ⟨kvs, k, e, ey, l⟩ | ⟨kvs, k, b, e, ey, eb, l⟩
  · subst ey
    obtain ⟨z, hd, vs, rel, dd⟩ := dk_rd I.hok e
    refine wpAny_in_of (kV_is ry) hd dd.mapOf ?_
    rw [← (rel.val k).isSome_eq, ← l]
    exact h _ (I.tok _)
  · subst ey
    cases (show u = Value.ref b from ry)
    obtain ⟨z, hd, xs, rel, dd⟩ := dt_rd I.hok e
    refine wpAny_in_heap (tupleKind_room_in1 hu) (key_of I.hok eb) hd dd ?_
    have q := (rel.val k).isSome_eq
    rw [Option.isSome_map] at q
    rw [← q, ← l]
    exact h _ (I.tok _)
theorem d_notIn {Q : Value → Shared → Prop} (hu : A.units + 1 < cLine) (I : Inv X pins σ H s) (g : DGet H a y o) (ry : RelV y u) (h : ∀ s', Inv X pins σ H s' → Q (.bool (!o.isSome)) s') :
    wpAny (model X.prog X.w) A (compareOp .NotIn u (.ref a)) Q E s := by
  rcases g with ⟨kvs, k, e, ey, l⟩ | ⟨kvs, k, b, e, ey, eb, l⟩
  · subst ey
    obtain ⟨z, hd, vs, rel, dd⟩ := dk_rd I.hok e
    refine wpAny_notIn_of (kV_is ry) hd dd.mapOf ?_
    rw [← (rel.val k).isSome_eq, ← l]
    exact h _ (I.tok _)
  · subst ey
    cases (show u = Value.ref b from ry)
    obtain ⟨z, hd, xs, rel, dd⟩ := dt_rd I.hok e
    refine wpAny_notIn_heap (tupleKind_room_in1 hu) (key_of I.hok eb) hd dd ?_
    have q := (rel.val k).isSome_eq
    rw [Option.isSome_map] at q
    rw [← q, ← l]
    exact h _ (I.tok _)
theorem d_write {h' : Heap} {t' : Nat} {ob : HO} (I : Inv X pins σ H s) (mu : Mut (H a)) (hs : Heap.SameBut a s.heap h') (he : ∃ q, h'.get? a = some q) (new : ObjOk X.prog X.w (upd H a ob) h' a ob) :
    Inv X pins σ (upd H a ob) { s with heap := h', toks := t' } :=
  I.write (x := a) (e := a) mu (.inl rfl) (fun b q hb z => (hs.2 b hb).trans z) he new
theorem dk_new {P : Program} {w : World} {H' : Hp} {h' : Heap} {kvs : List (Key × V)} {vs : List (Key × Value)} (z : kvs.length ≤ sizeLine) (hd : (a == sysModules) = false) (rel : KV kvs vs) (dd : h'.DictOf (mixKind P w) a vs) :
    ObjOk P w H' h' a (.dK kvs) := ⟨z, hd, vs, rel, dd⟩
theorem d_setItem {H' : Hp} {Q : Unit → Shared → Prop} (hu : A.units + 1 < cLine) (I : Inv X pins σ H s) (g : DPut H a y v H') (ry : RelV y u) (rv : RelV v r) (h : ∀ s', Inv X pins σ H' s' → Q () s') :
    wpAny (model X.prog X.w) A (setItem (.ref a) u r) Q E s := by
  rcases g with ⟨kvs, k, e, ey, l, eH⟩ | ⟨kvs, k, b, e, ey, eb, l, eH⟩
  · subst ey eH
    obtain ⟨z, hd, vs, rel, dd⟩ := dk_of I.hok e
    have hz : vs.length ≤ sizeLine := by rw [← rel.length]; exact z
    have hl : (putK kvs k v).length ≤ sizeLine := by have := length_putK kvs k v; omega
    refine wpAny_setItem_pairs (hsz := hz) (kV_is ry) dd fun h' dd' hs => h _ ?_
    have he : ∃ q, h'.get? a = some q := let ⟨q, _, _, hq, _⟩ := dd'; ⟨q, hq⟩
    exact d_write I (by rw [e]; exact True.intro) hs he (dk_new hl hd (rel.put k rv) dd')
  · subst ey eH
    cases (show u = Value.ref b from ry)
    obtain ⟨z, hd, xs, rel, dd⟩ := dt_of I.hok e
    have hz : xs.length ≤ sizeLine := by rw [← Paired.length rel]; exact z
    have hl : (putK kvs k v).length ≤ sizeLine := by have := length_putK kvs k v; omega
    refine wpAny_setItem_heap (hsz := hz) (tupleKind_room_in1 hu) (key_of I.hok eb) dd fun h' dd' hs => h _ ?_
    obtain ⟨q, es, ep, hq, h2, h3, h4, _, h5⟩ := dd'
    refine d_write I (by rw [e]; exact True.intro) hs ⟨q, hq⟩ ⟨hl, hd, _, (rel.put k eb rv).keeps fun c ys ec => ?_, q, es, ep, hq, h2, h3, h4, h5⟩
    rw [upd_ne (ne_of ec e (fun z => nomatch z))]
    exact ec
end
section
variable {X : Cx} {pins : List (Addr × Obj)} {σ : St} {H : Hp} {s : Shared} {a : Addr} {kvs : List (Key × V)} {k : Key} {u : Value} {A : Around} {E : Value → Shared → Prop}
end
noncomputable def NoSl (i : Expr) : Prop := ∀ ov iv, subscripted i false ov iv = operate [ov, iv] (getItem ov iv)
theorem subD_of {prog : Program} {w : World} {A : Around} {E : Value → Shared → Prop} {s : Shared} {env : Env} {value slice : Expr} {pos : Pos} {T id : String} {Q : Value → Shared → Prop}
    (hl : typeLookup (.type T) "__getitem__" = pure (some (.builtin id))) (hs : NoSl slice)
    (h : wpAny (model prog w) A (eval value env) (fun o s₁ => wpAny (model prog w) A (eval slice env) (fun i s₂ => s₂.TypeIs o T ∧ wpAny (model prog w) A (getItem o i) Q E s₂) E s₁) E s) :
    wpAny (model prog w) A (eval (.Subscript value slice pos) env) Q E s := by
  refine Subscript_ (wpAny_mono h (fun o s₁ h₁ => wpAny_mono h₁ (fun i s₂ h₂ => ?_) fun _ _ x => x) fun _ _ x => x)
  obtain ⟨hT, h₂⟩ := h₂
  unfold subscriptTail
  refine wpAny_bind ?_
  rw [getitemInPython_of_ne hT.not_modules]
  refine wpAny_bind (wpAny_specialOf hT hl ?_)
  have fin : wpAny (model prog w) A (subscripted slice false o i) (fun r s₃ => wpAny (model prog w) A (letTemporaryGo value o r >>= fun _ => pure r) Q E s₃) E s₂ := by
    rw [hs o i]
    exact wpAny_operating (wpAny_mono h₂ (fun r s₃ h₃ => wpAny_bind (wpAny_letTemporaryGo (wpAny_pure h₃))) fun _ _ x => x)
  first
    | exact wpAny_pure (wpAny_bind fin)
    | exact wpAny_bind (wpAny_pure (wpAny_bind fin))
    | exact wpAny_bind fin
theorem dict_typeIs {X : Cx} {pins : List (Addr × Obj)} {σ : St} {H : Hp} {s : Shared} {a : Addr} {y : V} {o : Option V} (I : Inv X pins σ H s) (g : DGet H a y o) : s.TypeIs (.ref a) "dict" := by
  rcases g with ⟨kvs, k, e, _, _⟩ | ⟨kvs, k, b, e, _, _, _⟩
  · obtain ⟨_, _, vs, _, dd⟩ := dk_rd I.hok e
    exact dd.typeIs
  · obtain ⟨_, _, xs, _, dd⟩ := dt_rd I.hok e
    exact dd.typeIs
noncomputable def tDGet (td ty : TE) : TE := fun σ H Q => td σ H fun x H1 => ty σ H1 fun y H2 => ∃ a v, x = .ref a ∧ DGet H2 a y (some v) ∧ Q v H2
noncomputable def sDPut (td ty tv : TE) : TS := fun D σ H => tv σ H fun v H1 => td σ H1 fun x H2 => ty σ H2 fun y H3 => ∃ a H4, x = .ref a ∧ DPut H3 a y v H4 ∧ D.nx σ H4
section
variable {X : Cx} {o i e value : Expr} {pos pos' tpos : Pos} {td ty tv : TE}
theorem pe_dget (hu : X.A.units + 1 < cLine) (ho : PE X o td) (hi : PE X i ty) (hs : NoSl i) : PE X (.Subscript o i pos) (tDGet td ty) := by
  intro pins s σ H Q I h
  refine subD_of PySem.F.slot_dict_getitem.lookup hs (thn (ho pins s σ H _ I h) fun u s1 ⟨x, H1, I1, rx, q1⟩ => thn (hi pins s1 σ H1 _ I1 q1) fun iv s2 ⟨y, H2, I2, ry, a, v, ex, g, q2⟩ => ?_)
  subst ex
  obtain rfl : u = Value.ref a := rx
  exact ⟨dict_typeIs I2 g, d_getItem hu I2 g ry fun w' s3 I3 rw' => ⟨v, H2, I3, rw', q2⟩⟩
theorem ps_dput (hu : X.A.units + 1 < cLine) (ho : PE X o td) (hi : PE X i ty) (hv : PE X value tv) (hs : swapsWith value (some (.Subscript o i pos')) pos.line X.env = pure false) :
    PS X (.Assign [.Subscript o i pos'] value pos) (sDPut td ty tv) := by
  intro pins s σ H D I h
  refine wpAny_Assign_Subscript (thn (hv pins s σ H _ I h) fun r s1 ⟨v, H1, I1, rv, q1⟩ => thn (ho pins s1 σ H1 _ I1 q1) fun u s2 ⟨x, H2, I2, rx, q2⟩ => thn (hi pins s2 σ H2 _ I2 q2) fun iv s3 ⟨y, H3, I3, ry, a, H4, ex, g, q3⟩ => ?_) hs
  subst ex
  obtain rfl : u = Value.ref a := rx
  exact d_setItem hu I3 g ry rv fun s4 I4 => ⟨σ, H4, I4, q3⟩
end
theorem dk_empty {P : Program} {w : World} {H : Hp} (h : Heap) (hb : sysModules < h.objs.size) : ObjOk P w H (h.push { cls := .type "dict", data := .dict #[] }) h.objs.size (.dK []) :=
  ⟨Nat.zero_le _, beq_eq_false_iff_ne.mpr (Ne.symm (Nat.ne_of_lt hb)), [], .nil, Heap.DictOf.new h⟩
noncomputable def tDNewK : TE := fun _ H Q => ∀ p, H p = none → Q (.ref p) (upd H p (.dK []))
section
variable {X : Cx} {pos : Pos}
theorem pe_dnewK : PE X (.Dict [] [] pos) tDNewK := fun pins s σ H Q I h =>
  wpAny_Dict_empty ⟨.ref s.heap.objs.size, _, I.laid (a := s.heap.objs.size) (o := .dK []) (t' := s.toks) (fun _ _ q => Heap.get?_push_of_some _ q) (Nat.le_refl _) (dk_empty s.heap I.big), rfl, h _ (I.hok.fresh (Nat.le_refl _))⟩
end
structure M2 (X : Cx) (o : Expr) (m : Str) (apos : Pos) (e f : Expr) (cpos : Pos) : Prop where
  base : attributeBase o m X.env (eval o X.env) = eval o X.env
  few : ((backTo cpos (starEach [e, f] X.env)).all (fun x => !x.1) && (backToKw cpos (keywordEach [] X.env)).all (fun x => x.1.isSome)
    && decide (([e, f] : List Expr).length + ([] : List Keyword).length + (if ([] : List Keyword).isEmpty then 0 else 1) < 30)) = true
  line : (apos.endLine == cpos.line) = true
  trees : backTo cpos (starEach [e, f] X.env) = [(false, eval e X.env), (false, eval f X.env)]
noncomputable def IsD (H : Hp) (a : Addr) : Prop := (∃ kvs, Rd H a (.dK kvs)) ∨ ∃ kvs, Rd H a (.dT kvs)
theorem isD_at {X : Cx} {pins : List (Addr × Obj)} {σ : St} {H : Hp} {s : Shared} {a : Addr} (I : Inv X pins σ H s) (d : IsD H a) :
    s.TypeIs (.ref a) "dict" ∧ (∀ b, Value.ref a = .ref b → ∃ ob, s.heap.get? b = some ob ∧ ob.dict = none) ∧ (a == sysModules) = false := by
  rcases d with ⟨kvs, e⟩ | ⟨kvs, e⟩
  · obtain ⟨_, hd, vs, _, dd⟩ := dk_rd I.hok e
    refine ⟨dd.typeIs, fun b q => ?_, hd⟩
    cases q
    obtain ⟨ob, _, _, h1, h2, _⟩ := dd
    exact ⟨ob, h1, h2.2.1⟩
  · obtain ⟨_, hd, xs, _, dd⟩ := dt_rd I.hok e
    refine ⟨dd.typeIs, fun b q => ?_, hd⟩
    cases q
    obtain ⟨ob, _, _, h1, h2, _⟩ := dd
    exact ⟨ob, h1, h2.2.1⟩
section
variable {X : Cx} {pins : List (Addr × Obj)} {σ : St} {H : Hp} {s : Shared} {a : Addr} {y d : V} {u r : Value} {o : Option V} {A : Around} {E : Value → Shared → Prop}
theorem d_get2 {Q : Value → Shared → Prop} (hu : A.units + 1 < cLine) (I : Inv X pins σ H s) (g : DGet H a y o) (ry : RelV y u) (rd : RelV d r) (h : ∀ w' s', Inv X pins σ H s' → RelV (o.getD d) w' → Q w' s') :
    wpAny (model X.prog X.w) A (call (.builtin "dict.get") [.ref a, u, r]) Q E s := by
  rcases g with ⟨kvs, k, e, ey, l⟩ | ⟨kvs, k, b, e, ey, eb, l⟩
  · subst ey
    obtain ⟨z, hd, vs, rel, dd⟩ := dk_rd I.hok e
    refine call_meetsIn PySem.F.slot_dict_get dd.typeIs PySem.F.entry_dict_get (PySem.F.args_dict_get_3 _ _ _) (meets_dict_get_default (mixKind X.prog X.w) a (kV_is ry) hd r) ⟨_, dd.mapOf, h _ _ (I.tok _) ?_⟩
    rw [l]
    exact (rel.val k).getD rd
  · subst ey
    cases (show u = Value.ref b from ry)
    obtain ⟨z, hd, xs, rel, dd⟩ := dt_rd I.hok e
    refine call_meetsIn PySem.F.slot_dict_get dd.typeIs PySem.F.entry_dict_get (PySem.F.args_dict_get_3 _ _ _) (meetsH_dict_get_default (tupleKind (mixKind X.prog X.w)) a b hd r) ⟨tupleKind_room_in1 hu, k, xs, key_of I.hok eb, dd, h _ _ (I.tok _) ?_⟩
    rw [l]
    exact (rel.val k).getD rd
end
noncomputable def tDGet2 (td ty tx : TE) : TE := fun σ H Q => td σ H fun x H1 => ∃ a, x = .ref a ∧ IsD H1 a ∧ ty σ H1 fun y H2 => tx σ H2 fun z H3 => ∃ o, DGet H3 a y o ∧ Q (o.getD z) H3
section
variable {X : Cx} {o e f : Expr} {apos cpos : Pos} {td ty tx : TE}
theorem pe_dget2 (hu : X.A.units + 1 < cLine) (ho : PE X o td) (he : PE X e ty) (hf : PE X f tx) (m : M2 X o "get" apos e f cpos) : PE X (.Call (.Attribute o "get" apos) [e, f] [] cpos) (tDGet2 td ty tx) := by
  intro pins s σ H Q I h
  refine wpAny_Call_method m.base m.few m.line PySem.F.plainAttrs_dict PySem.F.slot_dict_get PySem.F.type_dict_get (thn (ho pins s σ H _ I h) fun u s1 ⟨x, H1, I1, rx, a, ex, d, q1⟩ => ?_)
  subst ex
  obtain rfl : u = Value.ref a := rx
  obtain ⟨t1, t2, _⟩ := isD_at I1 d
  refine ⟨t1, t2, ?_⟩
  rw [m.trees]
  refine Calls.callWith_builtin rfl (Calls.evalArgs_plain (Calls.spliced_cons (thn (he pins s1 σ H1 _ I1 q1) fun iv s2 ⟨y, H2, I2, ry, q2⟩ =>
    Calls.spliced_cons (thn (hf pins s2 σ H2 _ I2 q2) fun fv s3 ⟨z, H3, I3, rz, ov, g, q3⟩ => Calls.spliced_nil ?_))))
  exact d_get2 hu I3 g ry rz fun w' s4 I4 rw' => ⟨_, H3, I4, rw', q3⟩
end
section
variable {X : Cx} {pins : List (Addr × Obj)} {σ : St} {H : Hp} {s : Shared} {a : Addr} {kvs : List (Key × V)} {A : Around} {E : Value → Shared → Prop}
theorem d_copyOf {Q : Value → Shared → Prop} (I : Inv X pins σ H s) (e : Rd H a (.dK kvs)) (h : ∀ p s', H p = none → Inv X pins σ (upd H p (.dK kvs)) s' → Q (.ref p) s') : wpAny (model X.prog X.w) A (call (.type "dict") [.ref a]) Q E s := by
  obtain ⟨z, hd, vs, rel, dd⟩ := dk_rd I.hok e
  refine kt_call_dict hd dd (by rw [← rel.length]; exact z) fun h' dd' hs => ?_
  refine h _ _ (I.hok.fresh (Nat.le_refl _)) (I.laid (a := s.heap.objs.size) (o := .dK kvs) (t' := s.toks) (fun b q hq => ?_) (Nat.le_refl _) (dk_new z (beq_eq_false_iff_ne.mpr (Ne.symm (Nat.ne_of_lt I.big))) rel dd'))
  exact (hs.2 b (Nat.ne_of_lt (Heap.lt_size hq))).trans (Heap.get?_push_of_some _ hq)
end
section
variable {X : Cx} {pins : List (Addr × Obj)} {σ : St} {H : Hp} {s : Shared} {a : Addr} {y : V} {u : Value} {A : Around} {E : Value → Shared → Prop}
end
end L2
namespace L2
open PySem PySem.Spec PyProof.Rows
section
variable {κ : Type} [DecidableEq κ]
end
end L2
set_option maxHeartbeats 4000000
namespace L2
open PySem PySem.Spec PyProof.Rows
theorem same_new {H : Hp} {p : Addr} (h : H p = none) (o : HO) : Same H (upd H p o) := fun b u q => by rw [upd_ne (ne_of_none q h)]; exact q
noncomputable def tMid (t u : TS) : TS := fun D σ H => ∃ M : St → Hp → Prop, t { D with nx := M } σ H ∧ ∀ σ' H', M σ' H' → u D σ' H'
theorem pss_mid {X : Cx} {st : Stmt} {rest : List Stmt} {t u : TS} (h1 : PS X st t) (h2 : PSs X rest u) : PSs X (st :: rest) (tMid t u) := by
  intro pins s σ H D I ⟨M, h, hM⟩
  refine wpAny_execs_cons (thn (h1 pins s σ H { D with nx := M } I h) fun f s1 q => ?_)
  cases f with
  | next =>
    obtain ⟨σ', H', I', q⟩ := q
    exact h2 pins s1 σ' H' D I' (hM _ _ q)
  | ret v => exact q
  | brk => exact q
  | cont => exact q
noncomputable def tIfN (c : TT) (t u : TS) : TS := fun D σ H => ∃ M : Hp → Prop, (c σ H fun _ H1 => M H1) ∧ ∀ H1, M H1 → t D σ H1 ∧ u D σ H1
theorem ps_ifN {X : Cx} {c : Expr} {a b : List Stmt} {pos : Pos} {tc : TT} {t u : TS} (hc : PT X c tc) (ha : PSs X a t) (hb : PSs X b u) : PS X (.If c a b pos) (tIfN tc t u) := by
  intro pins s σ H D I ⟨M, h, hM⟩
  refine wpAny_If (thn (hc pins s σ H _ I h) fun d s1 ⟨H1, I1, q1⟩ => ?_)
  cases d with
  | true => exact ha pins s1 σ H1 D I1 (hM H1 q1).1
  | false => exact hb pins s1 σ H1 D I1 (hM H1 q1).2
noncomputable def strOf : Expr → Option Str
  | .Constant (.str x) _ _ => some x
  | _ => none
noncomputable def strsOf : List Expr → Option (List Str)
  | [] => some []
  | e :: r => (strOf e).bind fun x => (strsOf r).map fun xs => x :: xs
noncomputable def tStrs (xs : List Str) : TA := fun _ H Q => Q (xs.map V.str) H
theorem pa_strs {X : Cx} : ∀ {es : List Expr} (xs : List Str), strsOf es = some xs → PA X es (tStrs xs)
  | [], xs, h => by
    cases h
    exact pa_nil
  | e :: r, xs, h => by
    cases he : strOf e with
    | none => rw [strsOf, he] at h; cases h
    | some x =>
      cases hr : strsOf r with
      | none => rw [strsOf, he, hr] at h; cases h
      | some ys =>
        rw [strsOf, he, hr] at h
        cases h
        have hc : ∃ k p, e = .Constant (.str x) k p := by
          unfold strOf at he
          split at he
          · cases he; exact ⟨_, _, rfl⟩
          · cases he
        obtain ⟨k, p, rfl⟩ := hc
        intro pos pins s σ H Q I q
        have z : PA X (.Constant (.str x) k p :: r) (tCons (tC (.str x)) (tStrs ys)) := pa_cons pe_str (pa_strs ys hr)
        exact z pos pins s σ H Q I q
noncomputable def capOf (cells : List (Str × Addr)) : List (Str × NameKind) → List (Str × Addr) → List (Str × Addr)
  | [], acc => acc
  | (n, k) :: r, acc => capOf cells r (if k == .free then (n, (cells.lookup n).getD 0) :: acc else acc)
theorem capOf_loop (env : Env) : ∀ (names : List (Str × NameKind)) (acc : List (Str × Addr)), (∀ y ∈ names, y.2 = .free → ∃ c, env.cells.lookup y.1 = some c) →
    (forIn names acc (fun (x : Str × NameKind) (cs : List (Str × Addr)) => if (x.2 == NameKind.free) = true then do let a ← cellOf env x.1; pure (ForInStep.yield ((x.1, a) :: cs)) else pure (ForInStep.yield cs)) : Sem (List (Str × Addr))) = pure (capOf env.cells names acc)
  | [], acc, _ => rfl
  | (n, k) :: r, acc, h => by
    have ih := fun acc' => capOf_loop env r acc' fun y hy => h y (List.mem_cons_of_mem _ hy)
    rw [List.forIn_cons]
    cases hk : k == NameKind.free with
    | false =>
      simp only [capOf, hk, Bool.false_eq_true, if_false, pure_bind]
      exact ih acc
    | true =>
      obtain ⟨c, hc⟩ := h (n, k) List.mem_cons_self (by simpa using hk)
      have hc' : env.cells.lookup n = some c := hc
      have e : cellOf env n = pure c := by unfold cellOf; rw [hc']
      simp only [capOf, hk, if_true, e, pure_bind, hc', Option.getD_some]
      exact ih _
theorem closure_cap {scope : Scope} {env : Env} (h : ∀ y ∈ scope.names, y.2 = .free → ∃ c, env.cells.lookup y.1 = some c) : closureFor scope env = pure (capOf env.cells scope.names []) := by
  unfold closureFor
  have q := capOf_loop env scope.names [] h
  first
    | exact q
    | (simp only [bind_pure]; exact q)
    | (rw [show (forIn scope.names [] _ : Sem (List (Str × Addr))) = _ from q]; rfl)
theorem capOf_some {cells : List (Str × Addr)} {x : Str} {c : Addr} : ∀ (names : List (Str × NameKind)) (acc : List (Str × Addr)), (∀ y ∈ names, y.2 = .free → ∃ c, cells.lookup y.1 = some c) →
    (capOf cells names acc).lookup x = some c → acc.lookup x = some c ∨ cells.lookup x = some c
  | [], acc, _, h => .inl h
  | (n, k) :: r, acc, hf, h => by
    have hf' : ∀ y ∈ r, y.2 = .free → ∃ c, cells.lookup y.1 = some c := fun y hy => hf y (List.mem_cons_of_mem _ hy)
    cases hk : k == NameKind.free with
    | false =>
      simp only [capOf, hk, Bool.false_eq_true, if_false] at h
      exact capOf_some r acc hf' h
    | true =>
      simp only [capOf, hk, if_true] at h
      rcases capOf_some r _ hf' h with h | h
      · rw [List.lookup_cons] at h
        cases hx : x == n with
        | true =>
          rw [hx] at h
          obtain ⟨c', hc⟩ := hf (n, k) List.mem_cons_self (by simpa using hk)
          have hc' : cells.lookup n = some c' := hc
          have e : x = n := by simpa using hx
          simp only [hc', Option.getD_some] at h
          cases h
          exact .inr (by rw [e]; exact hc')
        | false => rw [hx] at h; exact .inl h
      · exact .inr h
theorem capOf_keep {cells : List (Str × Addr)} {x : Str} : ∀ (names : List (Str × NameKind)) (acc : List (Str × Addr)), (∃ c, acc.lookup x = some c) → ∃ c, (capOf cells names acc).lookup x = some c
  | [], _, h => h
  | (n, k) :: r, acc, h => by
    unfold capOf
    refine capOf_keep r _ ?_
    cases hk : k == NameKind.free with
    | false => simpa using h
    | true =>
      simp only [if_true]
      rw [List.lookup_cons]
      cases hx : x == n with
      | true => exact ⟨_, rfl⟩
      | false => exact h
theorem capOf_has {cells : List (Str × Addr)} {x : Str} : ∀ (names : List (Str × NameKind)) (acc : List (Str × Addr)), (x, NameKind.free) ∈ names → ∃ c, (capOf cells names acc).lookup x = some c
  | [], _, h => nomatch h
  | (n, k) :: r, acc, h => by
    rcases List.mem_cons.mp h with e | h
    · cases e
      unfold capOf
      refine capOf_keep r _ ?_
      simp only [beq_self_eq_true, if_true]
      refine ⟨(cells.lookup x).getD 0, ?_⟩
      rw [List.lookup_cons]
      simp
    · exact capOf_has r _ h
noncomputable def blkOk (scope outer : Scope) : Bool :=
  (scope.kind == .function) && scope.names.all fun y => (y.2 != .cell) && (y.2 != .local || scope.names.lookup y.1 == some .local) && (y.2 != .free || (outer.names.lookup y.1 == some .cell || outer.names.lookup y.1 == some .free))
theorem blk_kind {scope outer : Scope} (h : blkOk scope outer = true) : scope.kind = .function := by
  unfold blkOk at h; rw [Bool.and_eq_true] at h; simpa using h.1
theorem blk_all {scope outer : Scope} (h : blkOk scope outer = true) : ∀ y ∈ scope.names, y.2 ≠ .cell ∧ (y.2 = .local → scope.names.lookup y.1 = some .local) ∧ (y.2 = .free → outer.names.lookup y.1 = some .cell ∨ outer.names.lookup y.1 = some .free) := by
  unfold blkOk at h; rw [Bool.and_eq_true, List.all_eq_true] at h
  intro y hy
  have q := h.2 y hy
  simp only [Bool.and_eq_true, Bool.or_eq_true, bne_iff_ne, beq_iff_eq, ne_eq] at q
  refine ⟨q.1.1, fun e => ?_, fun e => ?_⟩
  · rcases q.1.2 with z | z
    · exact absurd e z
    · exact z
  · rcases q.2 with z | z
    · exact absurd e z
    · exact z
noncomputable def capsOk (XN : List Str) (scope : Scope) : List Str → List Nat → Bool
  | [], [] => true
  | x :: r, i :: t => (XN[i]? == some x) && (scope.names.lookup x == some .free) && capsOk XN scope r t
  | _, _ => false
theorem caps_get {XN : List Str} {scope : Scope} : ∀ {cs : List Str} {caps : List Nat} {j : Nat} {x : Str}, capsOk XN scope cs caps = true → cs[j]? = some x → ∃ i, caps[j]? = some i ∧ XN[i]? = some x ∧ scope.names.lookup x = some .free
  | [], _, j, x, _, h => by simp at h
  | y :: r, [], j, x, h, _ => by simp [capsOk] at h
  | y :: r, i :: t, 0, x, h, e => by
    simp only [capsOk, Bool.and_eq_true, beq_iff_eq] at h
    simp at e; subst e
    exact ⟨i, rfl, h.1.1, h.1.2⟩
  | y :: r, i :: t, j + 1, x, h, e => by
    simp only [capsOk, Bool.and_eq_true] at h
    obtain ⟨k, h1, h2⟩ := caps_get (j := j) (x := x) h.2 (by simpa using e)
    exact ⟨k, by simpa using h1, h2⟩
theorem caps_len {XN : List Str} {scope : Scope} : ∀ {cs : List Str} {caps : List Nat}, capsOk XN scope cs caps = true → cs.length = caps.length
  | [], [], _ => rfl
  | [], _ :: _, h => by simp [capsOk] at h
  | _ :: _, [], h => by simp [capsOk] at h
  | y :: r, i :: t, h => by
    simp only [capsOk, Bool.and_eq_true] at h
    simp [caps_len h.2]
noncomputable def stC (nl : Nat) (caps : List Nat) (σ : St) : St := List.replicate nl none ++ caps.map fun i => (σ[i]?).getD none
noncomputable def cxC (X : Cx) (scope : Scope) (N : List Str) (s : Shared) (H : Hp) (fp : List Addr) : Cx :=
  { X with N := N, s₀ := s, H₀ := H, env := compEnvC scope (capOf X.env.cells scope.names []) (s.heap.objs.size + 1) X.env, outer := X.stack, stack := X.stack, ex := fp, fn := fun _ => false, pn := [], xe := fun _ _ => False }
section
variable {X : Cx} {pins : List (Addr × Obj)} {σ : St} {H : Hp} {s : Shared} {scope : Scope} {N : List Str} {fp : List Addr}
theorem relabel_names_lookup {env : Env} {x : Str} {k : NameKind} : ∀ {names : List (Str × NameKind)}, 
    (names.map fun (n, k) => if (k == NameKind.free && env.scope.kind == .function && env.kindOf n == some .cell) then (n, NameKind.cell) else (n, k)).lookup x = some k → (k = .cell ∨ k = .free) → (x, NameKind.cell) ∈ names ∨ (x, NameKind.free) ∈ names
  | [], h, _ => by simp at h
  | (n, k') :: r, h, hk => by
    have h' : List.lookup x ((if (k' == NameKind.free && env.scope.kind == .function && env.kindOf n == some .cell) = true then (n, NameKind.cell) else (n, k')) :: (r.map fun (n, k) => if (k == NameKind.free && env.scope.kind == .function && env.kindOf n == some .cell) then (n, NameKind.cell) else (n, k))) = some k := h
    by_cases hc : (k' == NameKind.free && env.scope.kind == .function && env.kindOf n == some .cell) = true
    · rw [if_pos hc, List.lookup_cons] at h'
      cases hx : x == n with
      | true =>
        have e : x = n := by simpa using hx
        have e2 : k' = .free := by
          rw [Bool.and_eq_true, Bool.and_eq_true] at hc
          simpa using hc.1.1
        subst e; subst e2
        exact .inr List.mem_cons_self
      | false =>
        rw [hx] at h'
        exact (relabel_names_lookup h' hk).imp (List.mem_cons_of_mem _) (List.mem_cons_of_mem _)
    · rw [if_neg hc, List.lookup_cons] at h'
      cases hx : x == n with
      | true =>
        rw [hx] at h'
        have e : x = n := by simpa using hx
        cases h'
        subst e
        rcases hk with rfl | rfl
        · exact .inl List.mem_cons_self
        · exact .inr List.mem_cons_self
      | false =>
        rw [hx] at h'
        exact (relabel_names_lookup h' hk).imp (List.mem_cons_of_mem _) (List.mem_cons_of_mem _)
theorem lookup_relabel_free {env : Env} : ∀ {names : List (Str × NameKind)} {x : Str}, names.lookup x = some .free →
    (names.map fun (n, k) => if (k == NameKind.free && env.scope.kind == .function && env.kindOf n == some .cell) then (n, NameKind.cell) else (n, k)).lookup x = some .cell ∨
    (names.map fun (n, k) => if (k == NameKind.free && env.scope.kind == .function && env.kindOf n == some .cell) then (n, NameKind.cell) else (n, k)).lookup x = some .free
  | [], _, h => by simp at h
  | (n, k) :: r, x, h => by
    have ih := @lookup_relabel_free env r x
    show List.lookup x ((if (k == NameKind.free && env.scope.kind == .function && env.kindOf n == some .cell) = true then (n, NameKind.cell) else (n, k)) :: _) = _ ∨ List.lookup x ((if (k == NameKind.free && env.scope.kind == .function && env.kindOf n == some .cell) = true then (n, NameKind.cell) else (n, k)) :: _) = _
    cases hx : x == n with
    | true =>
      simp only [List.lookup_cons, hx] at h
      cases h
      by_cases hc : (NameKind.free == NameKind.free && env.scope.kind == .function && env.kindOf n == some .cell) = true
      · rw [if_pos hc]; left; simp [List.lookup_cons, hx]
      · rw [if_neg hc]; right; simp [List.lookup_cons, hx]
    | false =>
      simp only [List.lookup_cons, hx] at h
      by_cases hc : (k == NameKind.free && env.scope.kind == .function && env.kindOf n == some .cell) = true
      · rw [if_pos hc]; simp only [List.lookup_cons, hx]; exact ih h
      · rw [if_neg hc]; simp only [List.lookup_cons, hx]; exact ih h
theorem free_cells (I : Inv X pins σ H s) (hb : blkOk scope X.env.scope = true) : ∀ y ∈ scope.names, y.2 = .free → ∃ c, X.env.cells.lookup y.1 = some c := fun y hy e =>
  I.ok.has y.1 ((blk_all hb y hy).2.2 e)
theorem cxC_ok (I : Inv X pins σ H s) (hb : blkOk scope X.env.scope = true) (hf : ∀ b ∈ fp, FpOk X pins H b) (hlt : ∀ b ∈ fp, b < s.heap.objs.size) : (cxC X scope N s H fp).Ok where
  mod := I.ok.mod
  kind := show scope.kind = .function from blk_kind (outer := X.env.scope) hb
  glob := I.ok.glob
  blt := I.ok.blt
  above := Nat.le_succ _
  inj := fun x y c h1 h2 => by
    have q1 := (capOf_some scope.names [] (free_cells I hb) h1).resolve_left (by simp)
    have q2 := (capOf_some scope.names [] (free_cells I hb) h2).resolve_left (by simp)
    exact I.ok.inj x y c q1 q2
  has := fun x hx => by
    have hx' : (relabel scope X.env).names.lookup x = some .cell ∨ (relabel scope X.env).names.lookup x = some .free := hx
    have q : (x, NameKind.cell) ∈ scope.names ∨ (x, NameKind.free) ∈ scope.names := by
      rcases hx' with z | z
      · exact relabel_names_lookup z (.inl rfl)
      · exact relabel_names_lookup z (.inr rfl)
    rcases q with q | q
    · exact absurd rfl (blk_all hb _ q).1
    · exact capOf_has scope.names [] q
  cab := fun x c h => nomatch h
  hd := I.ok.hd
  frames := I.ok.frames
  stk := .inl rfl
  exf := fun b hbm => ⟨Nat.ne_of_lt (Nat.lt_succ_of_lt (hlt b hbm)), fun x c e => by
    have q := (capOf_some scope.names [] (free_cells I hb) e).resolve_left (by simp)
    exact (hf b hbm).2.2.2.2.1 x c q⟩
  bs := I.bs
  bsz := Nat.le_trans I.ok.bsz I.sz
  noex := fun b o e hbm => by
    rcases (hf b hbm).2.2.2.1 with z | z
    · exact I.ok.noex b o e z
    · exact absurd (Nat.lt_of_lt_of_le (Heap.lt_size e) (Nat.le_trans I.ok.bsz z)) (Nat.lt_irrefl _)
  exfs := fun b hbm z => by
    rcases List.mem_cons.mp (I.stkSub b z) with e | e
    · exact (hf b hbm).2.1 e
    · exact (hf b hbm).2.2.1 e
  funs := I.stack
  frf := I.stkFree
theorem cxC_back {σ' : St} {H' : Hp} {s' : Shared} (I : Inv X pins σ H s) (hf : ∀ b ∈ fp, FpOk X pins H b) (J : Inv (cxC X scope N s H fp) [] σ' H' s') : Inv X pins σ H' s' :=
  I.call' J.os J.base J.hok J.bare fun b hb => ⟨(hf b hb).2.2.2.1, (hf b hb).2.1, (hf b hb).2.2.2.2.1, (hf b hb).2.2.2.2.2⟩
end
noncomputable def PTs (X : Cx) (ifs : List Expr) (t : TT) : Prop :=
  ∀ (pins : List (Addr × Obj)) (s : Shared) (σ : St) (H : Hp) (Q : Bool → Hp → Prop), Inv X pins σ H s → t σ H Q →
    wpAny (model X.prog X.w) X.A (forIn ifs true fun c r => if r = true then do let ok ← isTrue c X.env (eval c X.env); pure (ForInStep.yield ok) else pure (ForInStep.yield r)) (TP X pins σ Q) X.xe s
noncomputable def tYes : TT := fun _ H Q => Q true H
theorem pts_nil {X : Cx} : PTs X [] tYes := fun _ _ _ H _ I h => wpAny_tests_nil ⟨H, I, h⟩
theorem pts_one {X : Cx} {c : Expr} {t : TT} (hc : PT X c t) : PTs X [c] t := fun pins s σ H Q I h => wpAny_tests_one (hc pins s σ H Q I h)
theorem comp_loop {prog : Program} {w : World} {A : Around} {R : Result → Shared → Prop} {s : Shared} {elt target iter : Expr} {ifs : List Expr} {scope : Scope} {pos : Pos} {it acc : Value} {env : Env} (I : Nat → Shared → Prop)
    (turn : ∀ n s, I n s → wpAny (model prog w) A (pyNext it) (fun r s₁ => match r with
      | none => R (.ok .next) s₁
      | some v => wpAny (model prog w) A (letOwnedTupleGo target it v) (fun _ s₁' => wpAny (model prog w) A (assign target env v) (fun _ s₂ =>
          wpAny (model prog w) A (forIn ifs true fun c r => if r = true then do let ok ← isTrue c env (eval c env); pure (ForInStep.yield ok) else pure (ForInStep.yield r)) (fun ok s₃ =>
            if ok = true then wpAny (model prog w) A (eval elt env) (fun x s₄ =>
              wpAny (model prog w) A (call (.builtin "list.append") [acc, x]) (fun _ s₅ => ∃ m, m < n ∧ I m s₅) (fun _ _ => False) s₄) (fun _ _ => False) s₃
            else ∃ m, m < n ∧ I m s₃) (fun _ _ => False) s₂) (fun _ _ => False) s₁') (fun _ _ => False) s₁) (fun _ _ => False) s)
    (n : Nat) (h : I n s) : codeAny (model prog w) A (.compLoop (.ListComp elt [⟨target, iter, ifs, 0⟩] scope pos) 0 it acc env) R s := by
  refine codeAny_loop rfl I (fun n s hI => ?_) n h
  show wpAny _ A ((compTurn (.ListComp elt [⟨target, iter, ifs, 0⟩] scope pos) 0 it acc env).onRaise (fun x => do noteFrame x env; theTreesLotGoes x)) _ _ s
  refine wpAny_noted ?_
  refine wpAny_noRaise ?_
  rw [compTurn_list]
  refine wpAny_bind (wpAny_standAt (wpAny_bind (wpAny_mono (turn n s hI) (fun r s₁ h₁ => ?_) fun _ _ h' => h')))
  cases r with
  | none => exact wpAny_pure h₁
  | some v =>
    refine wpAny_bind (wpAny_mono h₁ (fun _ s₁' h₁' => ?_) fun _ _ h' => h')
    refine wpAny_bind (wpAny_mono h₁' (fun _ s₂ h₂ => wpAny_bind (wpAny_mono h₂ (fun ok s₃ h₃ => ?_) fun _ _ h' => h')) fun _ _ h' => h')
    cases ok with
    | false => exact wpAny_pure ⟨rfl, h₃⟩
    | true =>
      exact wpAny_bind (wpAny_bind (wpAny_mono h₃ (fun x s₄ h₄ => wpAny_bind (wpAny_mono h₄ (fun _ s₅ h₅ => wpAny_pure (wpAny_pure ⟨rfl, h₅⟩)) fun _ _ h' => h')) fun _ _ h' => h'))
noncomputable def cmpR (J : It) (g : TG) (tc : TT) (te : TE) (D : Addr) (Fin : Hp → Prop) (σ0 : St) (H0 : Hp) : Prop :=
  ∃ W : Nat → Nat → St → Hp → Prop, (∃ m, W 0 m σ0 H0) ∧ ∀ i m σ H, W i m σ H →
    (J.stop i H ∧ Fin H) ∨ (J.go i H ∧ ∃ N : St → Hp → Prop, (∀ σ' H', N σ' H' → ∃ m', m' < m ∧ W (i + 1) m' σ' H') ∧ ∀ x H1, J.yld i H x H1 → g x σ H1 fun σ2 H2 => tc σ2 H2 fun b H3 =>
      if b = true then te σ2 H3 fun v H4 => ∃ xs, H4 D = some (.lst xs) ∧ xs.length < sizeLine ∧ N σ2 (upd H4 D (.lst (xs ++ [v]))) else N σ2 H3)
theorem cmp_by {J : It} {g : TG} {tc : TT} {te : TE} {D : Addr} {Fin : Hp → Prop} {σ0 : St} {H0 : Hp} (n : Nat) (Pv : Nat → St → Hp → Prop) (h0 : Pv 0 σ0 H0) (hend : ∀ σ H, Pv n σ H → J.stop n H ∧ Fin H)
    (hs : ∀ i σ H, i < n → Pv i σ H → J.go i H ∧ ∀ x H1, J.yld i H x H1 → g x σ H1 fun σ2 H2 => tc σ2 H2 fun b H3 =>
      if b = true then te σ2 H3 fun v H4 => ∃ xs, H4 D = some (.lst xs) ∧ xs.length < sizeLine ∧ Pv (i + 1) σ2 (upd H4 D (.lst (xs ++ [v]))) else Pv (i + 1) σ2 H3) : cmpR J g tc te D Fin σ0 H0 := by
  refine ⟨fun i m σ H => m = n - i ∧ i ≤ n ∧ Pv i σ H, ⟨n, by simp, Nat.zero_le _, h0⟩, ?_⟩
  rintro i m σ H ⟨rfl, hi, p⟩
  by_cases hlt : i < n
  · obtain ⟨q1, q2⟩ := hs i σ H hlt p
    exact .inr ⟨q1, Pv (i + 1), fun σ' H' p' => ⟨n - (i + 1), by omega, rfl, hlt, p'⟩, q2⟩
  · have e : i = n := by omega
    subst e
    exact .inl (hend σ H p)
noncomputable def tComp (wi : TI) (g : TG) (tc : TT) (te : TE) (nl : Nat) (caps : List Nat) : TE := fun σ H Q =>
  wi σ H fun J H1 => ∀ D, H1 D = none → cmpR J g tc te D (fun H' => Q (.ref D) H') (stC nl caps σ) (upd H1 D (.lst []))
section
variable {X : Cx} {tg iter elt : Expr} {ifs : List Expr} {scope : Scope} {pos : Pos} {wi : TI} {g : TG} {tc : TT} {te : TE} {locs cs : List Str} {caps : List Nat}
theorem comp_block {pins : List (Addr × Obj)} {σ : St} {H : Hp} {s : Shared} {it : Addr} {fp : List Addr} {tn : Nat → Heap → Prop} {J : It} {RR : Value → Addr → Result → Shared → Prop} {E : Value → Shared → Prop} {Fin : Hp → Prop}
    (hc : X.calm = true) (hb : blkOk scope X.env.scope = true) (hcap : capsOk X.N scope cs caps = true)
    (I : Inv X pins σ H s) (T : Turn X.prog X.w X.K tg J fp it tn) (st : tn 0 s.heap) (hf : ∀ b ∈ fp, FpOk X pins H b)
    (hg : PG (cxC X scope (locs ++ cs) s H fp) tg g) (ht : PTs (cxC X scope (locs ++ cs) s H fp) ifs tc) (he : PE (cxC X scope (locs ++ cs) s H fp) elt te)
    (h : cmpR J g tc te s.heap.objs.size Fin (stC locs.length caps σ) (upd H s.heap.objs.size (.lst [])))
    (hRR : ∀ σ' H' s', Inv (cxC X scope (locs ++ cs) s H fp) [] σ' H' s' → Fin H' → RR (.ref s.heap.objs.size) (s.heap.objs.size + 1) (.ok .next) s') :
    wpAny (model X.prog X.w) X.A (newList []) (fun acc s₃ => wpAny (model X.prog X.w) X.A (newFunctionEnv scope X.env.globals (capOf X.env.cells scope.names []) [] X.env.qual none .none (some X.env)) (fun cenv s₄ =>
      codeAny (model X.prog X.w) X.A (.compStart (.ListComp elt [⟨tg, iter, ifs, 0⟩] scope pos) 0 (.ref it) acc { cenv with scope := relabel scope X.env }) (RR acc cenv.locals) s₄) E s₃) E s := by
  have hcell : ∀ y ∈ scope.names, y.2 ≠ .cell := fun y hy => (blk_all hb y hy).1
  have hkind := blk_kind hb
  have hlt : ∀ b ∈ fp, b < s.heap.objs.size := fun b hbm => by
    obtain ⟨o, e, _⟩ := T.obj 0 _ st b hbm
    exact Heap.lt_size e
  refine wpAny_newObj_type (wpAny_newFunctionEnv hcell (by intro y hy; simp at hy) (fun h₁ hns₁ hsb₁ => ?_) hkind)
  dsimp only at hns₁ hsb₁ ⊢
  generalize hH2 : s.heap.push { cls := .type "list", dict := none, data := .seq ([] : List Value).toArray } = H2 at hns₁ hsb₁ ⊢
  have hC : H2.objs.size = s.heap.objs.size + 1 := by rw [← hH2, Heap.size_push]
  rw [hC] at hns₁ hsb₁ ⊢
  have hDC : s.heap.objs.size ≠ s.heap.objs.size + 1 := Nat.ne_of_lt (Nat.lt_succ_self _)
  have below : ∀ b, b < s.heap.objs.size → b ≠ s.heap.objs.size + 1 := fun b hb => Nat.ne_of_lt (Nat.lt_succ_of_lt hb)
  have old : ∀ b o, s.heap.get? b = some o → h₁.get? b = some o := fun b o e => hsb₁.extBut b o (below b (Heap.lt_size e)) (Heap.get?_push_of_some _ (hH2 ▸ Heap.get?_push_of_some _ e))
  have hD : h₁.get? s.heap.objs.size = some { cls := .type "list", dict := none, data := .seq ([] : List Value).toArray } :=
    hsb₁.extBut _ _ hDC (Heap.get?_push_of_some _ (hH2 ▸ Heap.get?_push_size _ rfl))
  have frC : H (s.heap.objs.size + 1) = none := I.hok.fresh (Nat.le_succ _)
  have frD : H s.heap.objs.size = none := I.hok.fresh (Nat.le_refl _)
  have J0 : Inv (cxC X scope (locs ++ cs) s H fp) [] (stC locs.length caps σ) (upd H s.heap.objs.size (.lst [])) { s with heap := h₁, toks := s.toks + ([] : List (Str × Value)).length } := by
    refine ⟨cxC_ok I hb hf hlt, rfl, I.bare, Un.laid old (Nat.le_refl _) frD, ⟨_, hns₁, fun i x v e1 e2 e3 => ?_⟩, fun x c e => ?_, ?_, fun x c e => ?_, fun p hp => absurd (show p ∈ ([] : List (Addr × Obj)) from hp) (by simp), ?_, ?_⟩
    · have e1' : (locs ++ cs)[i]? = some x := e1
      have hi : locs.length ≤ i := by
        rcases Nat.lt_or_ge i locs.length with hi | hi
        · unfold stC at e2
          rw [List.getElem?_append_left (by simpa using hi), List.getElem?_replicate] at e2
          split at e2 <;> cases e2
        · exact hi
      rw [List.getElem?_append_right hi] at e1'
      obtain ⟨k, q1, q2, q3⟩ := caps_get hcap e1'
      unfold stC at e2
      rw [List.getElem?_append_right (by simpa using hi), List.length_replicate, List.getElem?_map, q1] at e2
      have e2' : (σ[k]?).getD none = some v := by simpa using e2
      have e4 : σ[k]? = some (some v) := by
        cases z : σ[k]? with
        | none => rw [z] at e2'; cases e2'
        | some o => rw [z] at e2'; simp at e2'; rw [e2']
      have hfr := (blk_all hb _ (PySem.mem_of_lookup q3)).2.2 rfl
      obtain ⟨m, hn, hl⟩ := I.loc
      obtain ⟨u, r, l⟩ := hl k x v q2 e4 (hfr.elim (fun z => .inr (.inl z)) fun z => .inr (.inr z))
      refine ⟨u, r, .inr ⟨?_, ?_⟩⟩
      · exact lookup_relabel_free q3
      · rcases l with ⟨k1, _⟩ | ⟨_, c, ec, z⟩
        · exfalso
          have k1' : X.env.scope.names.lookup x = some .local := k1
          rcases hfr with z | z <;> (rw [k1'] at z; cases z)
        · obtain ⟨c', ec'⟩ := capOf_has (cells := X.env.cells) scope.names [] (PySem.mem_of_lookup q3)
          have q := (capOf_some scope.names [] (free_cells I hb) ec').resolve_left (by simp)
          rw [ec] at q; cases q
          obtain ⟨o, ho, hd⟩ := z
          exact ⟨c, ec', o, old _ _ ho, hd⟩
    · have q := (capOf_some scope.names [] (free_cells I hb) e).resolve_left (by simp)
      obtain ⟨v, o, ho, hd⟩ := I.cell x c q
      exact ⟨v, o, old _ _ ho, hd⟩
    · show upd H s.heap.objs.size (.lst []) (s.heap.objs.size + 1) = none
      rw [upd_ne (Ne.symm hDC)]
      exact frC
    · have q := (capOf_some scope.names [] (free_cells I hb) e).resolve_left (by simp)
      obtain ⟨v, o, ho, hd⟩ := I.cell x c q
      rw [upd_ne (Nat.ne_of_lt (Heap.lt_size ho))]
      exact I.freeC x c q
    · exact I.hok.laid old (Nat.le_refl _) ⟨Nat.zero_le _, [], 0, .nil, hD⟩
    · show (stC locs.length caps σ).length = (locs ++ cs).length
      unfold stC
      rw [List.length_append, List.length_replicate, List.length_map, List.length_append, caps_len hcap]
  obtain ⟨W, ⟨m0, w0⟩, turn⟩ := h
  have stat : ∀ {H' : Hp}, (∀ b ∈ fp, H' b = none) → ∀ b ∈ fp, FpOk (cxC X scope (locs ++ cs) s H fp) [] H' b := fun {H'} hn b hbm => by
    have q := (cxC_ok (N := locs ++ cs) I hb hf hlt)
    refine ⟨hn b hbm, (q.exf b hbm).1, q.exfs b hbm, .inl hbm, (q.exf b hbm).2, fun p hp => absurd (show p ∈ ([] : List (Addr × Obj)) from hp) (by simp)⟩
  have fr0 : ∀ b ∈ fp, upd H s.heap.objs.size (.lst []) b = none := fun b hbm => by rw [upd_ne (Nat.ne_of_lt (hlt b hbm))]; exact (hf b hbm).1
  have loop : ∀ s₃ : Shared, s₃ = { s with heap := h₁, toks := s.toks + ([] : List (Str × Value)).length } →
      codeAny (model X.prog X.w) X.A (.compLoop (.ListComp elt [⟨tg, iter, ifs, 0⟩] scope pos) 0 (.ref it) (.ref s.heap.objs.size) (cxC X scope (locs ++ cs) s H fp).env) (RR (.ref s.heap.objs.size) (s.heap.objs.size + 1)) s₃ := by
    rintro s₃ rfl
    refine comp_loop (fun n s' => ∃ i σ' H', Inv (cxC X scope (locs ++ cs) s H fp) [] σ' H' s' ∧ tn i s'.heap ∧ (∀ b ∈ fp, H' b = none) ∧ W i n σ' H') ?_ m0
      ⟨0, _, _, J0, T.keep _ _ _ st fun b _ o e => old b o e, fr0, w0⟩
    rintro n s3 ⟨i, σ3, H3, I3, st3, fr3, w3⟩
    rcases turn i n σ3 H3 w3 with ⟨stop, qn⟩ | ⟨go, Nn, hNn, step⟩
    · refine thn (T.done (cxC X scope (locs ++ cs) s H fp) rfl rfl rfl hc i [] s3 σ3 H3 _ I3 (stat fr3) st3 stop) fun r s4 ⟨hr, I4⟩ => ?_
      subst hr
      exact hRR σ3 H3 s4 I4 qn
    · refine thn (T.item (cxC X scope (locs ++ cs) s H fp) rfl rfl rfl hc i [] s3 σ3 H3 _ I3 (stat fr3) st3 go) fun r s4 ⟨u, hr, h4⟩ => ?_
      subst hr
      refine thn h4 fun _ s5 ⟨x, H5, I5, r5, y5, st5, fr5⟩ => ?_
      have I5' := I5.pinned (stat fr5) (T.obj _ _ st5)
      have again : ∀ {σ7 : St} {H7 : Hp} {s7 : Shared}, Inv (cxC X scope (locs ++ cs) s H fp) ([] ++ pinsAt fp s5.heap) σ7 H7 s7 → Nn σ7 H7 →
          ∃ m, m < n ∧ ∃ i σ' H', Inv (cxC X scope (locs ++ cs) s H fp) [] σ' H' s7 ∧ tn i s7.heap ∧ (∀ b ∈ fp, H' b = none) ∧ W i m σ' H' := fun {σ7 H7 s7} I7 n7 => by
        obtain ⟨m', hm, w7⟩ := hNn σ7 H7 n7
        refine ⟨m', hm, i + 1, σ7, H7, I7.unpinned, T.keep _ _ _ st5 fun b hb o e => (I7.pin (b, o) (List.mem_append_right _ (List.mem_append_right _ (mem_pinsAt hb e)))).1, fun b hb => ?_, w7⟩
        obtain ⟨o, e, d⟩ := T.obj _ _ st5 b hb
        exact (I7.pin (b, o) (List.mem_append_right _ (List.mem_append_right _ (mem_pinsAt hb e)))).2.1
      refine thn (hg _ s5 σ3 H5 x u _ I5' r5 (step x H5 y5)) fun _ s6 ⟨σ6, H6, I6, q6⟩ => ?_
      refine thn (ht _ s6 σ6 H6 _ I6 q6) fun b s7 ⟨H7, I7, q7⟩ => ?_
      cases b with
      | false => exact again I7 q7
      | true =>
        refine thn (he _ s7 σ6 H7 _ I7 q7) fun u8 s8 ⟨v8, H8, I8, r8, xs, e8, z8, q8⟩ => ?_
        refine thn (mt_append (X := cxC X scope (locs ++ cs) s H fp) ([] ++ pinsAt fp s5.heap) s8 σ6 H8 (.ref s.heap.objs.size) [v8] (.ref s.heap.objs.size) [u8] (fun _ H9 => Nn σ6 H9) I8 rfl (.cons r8 .nil) ⟨_, xs, v8, rfl, rfl, e8, z8, q8⟩) fun _ s9 ⟨_, H9, I9, _, q9⟩ => ?_
        exact again I9 q9
  exact codeAny_compStart_list (loop _ rfl) (T.self _ 0 _ _ _ (T.keep _ _ _ st fun b _ o e => old b o e) (loop _ rfl))
theorem pe_comp (locs cs : List Str) (caps : List Nat) (hc : X.calm = true) (hi : PI X tg iter wi) (hg : ∀ s H fp, PG (cxC X scope (locs ++ cs) s H fp) tg g) (ht : ∀ s H fp, PTs (cxC X scope (locs ++ cs) s H fp) ifs tc) (he : ∀ s H fp, PE (cxC X scope (locs ++ cs) s H fp) elt te)
    (hb : blkOk scope X.env.scope = true := by rfl) (hcap : capsOk X.N scope cs caps = true := by rfl) (hs : ∀ x, foldedSetIterable iter X.env x = pure x := by intro _; rfl) :
    PE X (.ListComp elt [⟨tg, iter, ifs, 0⟩] scope pos) (tComp wi g tc te locs.length caps) := by
  intro pins s σ H Q I h
  rw [eval_ListComp]
  refine wpAny_comprehension_free (use := none) rfl hs (closure_cap (free_cells I hb)) (blk_kind hb) (fun y hy => (blk_all hb y hy).2.1) (thn (hi pins s σ H _ I h) fun v s1 h1 => thn h1 fun itv s2 h2 => ?_)
  obtain ⟨it, fp, tn, J, H2, e, I2, T, st2, f2, q⟩ := h2
  subst e
  refine comp_block (RR := fun acc C => compPost (model X.prog X.w) X.A X.xe none (EP X pins σ Q) acc C) (locs := locs) (cs := cs) (Fin := fun H' => Q (.ref s2.heap.objs.size) H') hc hb hcap I2 T st2 f2 (hg _ _ _) (ht _ _ _) (he _ _ _) (q _ (I2.hok.fresh (Nat.le_refl _))) ?_
  intro σ' H' s' J' q'
  obtain ⟨m, hn, _⟩ := J'.loc
  refine ⟨m, hn, fun h' hs' => ?_⟩
  have I3 := cxC_back I2 f2 J'
  have fr : H' (s2.heap.objs.size + 1) = none := J'.free
  refine ⟨.ref s2.heap.objs.size, H', I3.turned (t' := s'.toks) (it := s2.heap.objs.size + 1) (fun b o hb e => (hs'.2 b hb).trans e) fr ?_ (.inr (Nat.le_trans I2.sz (Nat.le_succ _))) ?_ ?_, rfl, q'⟩
  · exact Nat.ne_of_gt (Nat.lt_succ_of_lt I2.lt)
  · intro x c e z
    obtain ⟨v, hv⟩ := I2.cell x c e
    have h1 : s2.heap.objs.size + 1 < s2.heap.objs.size := z ▸ hv.lt
    exact absurd h1 (Nat.not_lt.mpr (Nat.le_succ _))
  · intro p hp z
    have h1 : s2.heap.objs.size + 1 < s2.heap.objs.size := z ▸ Heap.lt_size (I2.pin p hp).1
    exact absurd h1 (Nat.not_lt.mpr (Nat.le_succ _))
theorem ps_setC {i : Nat} {y : Str} {py spos : Pos} (locs cs : List Str) (caps : List Nat) (hN : X.N.Nodup) (hiy : X.N[i]? = some y) (hc : X.calm = true) (hi : PI X tg iter wi) (hg : ∀ s H fp, PG (cxC X scope (locs ++ cs) s H fp) tg g) (ht : ∀ s H fp, PTs (cxC X scope (locs ++ cs) s H fp) ifs tc) (he : ∀ s H fp, PE (cxC X scope (locs ++ cs) s H fp) elt te)
    (hy : X.env.scope.names.lookup y = some .local := by rfl)
    (hsw : swapsWith (.ListComp elt [⟨tg, iter, ifs, 0⟩] scope pos) (some (.Name y py)) spos.line X.env = pure true := by rfl)
    (hb : blkOk scope X.env.scope = true := by rfl) (hcap : capsOk X.N scope cs caps = true := by rfl) (hs : ∀ x, foldedSetIterable iter X.env x = pure x := by intro _; rfl) :
    PS X (.Assign [.Name y py] (.ListComp elt [⟨tg, iter, ifs, 0⟩] scope pos) spos) (tAsg (tComp wi g tc te locs.length caps) (gName i)) := by
  intro pins s σ H D I h
  rw [exec_Assign_Name_used _ _ _ _ hsw]
  refine wpAny_bind (wpAny_standAt (wpAny_bind ?_))
  show wpAny _ X.A (do let _ ← comprehension (.ListComp elt [⟨tg, iter, ifs, 0⟩] scope pos) scope X.env _ (newList []) false (eval iter X.env) (some (assign (.Name y py) X.env))) _ _ s
  refine wpAny_bind (wpAny_mono (wpAny_comprehension_free (use := some (assign (.Name y py) X.env)) (Q := fun _ s' => SP X pins D .next s') rfl hs (closure_cap (free_cells I hb)) (blk_kind hb) (fun y hy => (blk_all hb y hy).2.1)
    (thn (hi pins s σ H _ I h) fun v s1 h1 => thn h1 fun itv s2 h2 => ?_)) (fun _ s' hq => wpAny_pure (wpAny_pure hq)) fun _ _ e => e)
  obtain ⟨it, fp, tn, J, H2, e, I2, T, st2, f2, q⟩ := h2
  subst e
  refine comp_block (RR := fun acc C => compPost (model X.prog X.w) X.A X.xe (some (assign (.Name y py) X.env)) (fun _ s' => SP X pins D .next s') acc C) (locs := locs) (cs := cs) (Fin := fun H' => gName i (.ref s2.heap.objs.size) σ H' D.nx) hc hb hcap I2 T st2 f2 (hg _ _ _) (ht _ _ _) (he _ _ _) (q _ (I2.hok.fresh (Nat.le_refl _))) ?_
  intro σ' H' s' J' q'
  obtain ⟨m, hn, _⟩ := J'.loc
  have I3 := cxC_back I2 f2 J'
  have fr : H' (s2.heap.objs.size + 1) = none := J'.free
  have neL : s2.heap.objs.size + 1 ≠ X.env.locals := Nat.ne_of_gt (Nat.lt_succ_of_lt I2.lt)
  have neC : ∀ x c, X.env.cells.lookup x = some c → c ≠ s2.heap.objs.size + 1 := fun x c e z => by
    obtain ⟨v, hv⟩ := I2.cell x c e
    have h1 : s2.heap.objs.size + 1 < s2.heap.objs.size := z ▸ hv.lt
    exact absurd h1 (Nat.not_lt.mpr (Nat.le_succ _))
  show wpAny _ X.A (assign (.Name y py) X.env (.ref s2.heap.objs.size)) _ _ s'
  refine wpAny_assign_Name (store_ok2 I3 hN hiy (.inl hy) (v := .ref s2.heap.objs.size) rfl (fun s4 I4 hsb => ?_) (.inr hy))
  obtain ⟨a, sb, ha⟩ := hsb
  have ane : s2.heap.objs.size + 1 ≠ a := by
    rcases ha with rfl | ha
    · exact neL
    · exact Ne.symm (neC _ _ ha)
  refine ⟨m, hn.sameBut sb ane, fun h' hs' => ?_⟩
  refine ⟨_, H', I4.turned (t' := s4.toks) (it := s2.heap.objs.size + 1) (fun b o hb e => (hs'.2 b hb).trans e) fr neL (.inr (Nat.le_trans I2.sz (Nat.le_succ _))) neC ?_, q'⟩
  intro p hp z
  have h1 : s2.heap.objs.size + 1 < s2.heap.objs.size := z ▸ Heap.lt_size (I2.pin p hp).1
  exact absurd h1 (Nat.not_lt.mpr (Nat.le_succ _))
end
section
variable {X : Cx} {tg : Expr}
end
section
variable {X : Cx}
theorem part_val {u : Value} {o : Option Int} (p : IsPart u o) : ∃ l : Option (Int × Tok), u = partValue l ∧ l.map (·.1) = o := by
  cases p with
  | none => exact ⟨none, rfl, rfl⟩
  | int i t => exact ⟨some (i, t), rfl, rfl⟩
noncomputable def rSlS : V → Option Int → Option Int → Hp → VK → Prop := fun x lo hi H Q => ∃ z, x = .str z ∧ z.length ≤ sizeLine ∧ Q (.str (Txt.slice z lo hi)) H
theorem sl_str : SlR X rSlS := by
  intro pins s σ H x v vl vu lo hi sl Q I rx hs pl pu h
  obtain ⟨z, rfl, hz, q⟩ := h
  obtain ⟨t, rfl⟩ := rx
  obtain ⟨l, rfl, rfl⟩ := part_val pl
  obtain ⟨u, rfl, rfl⟩ := part_val pu
  refine ⟨"str", _, F.slot_str_getitem.lookup, typeIs_str _ _ _, wpAny_getItem_str_slice (l := l) (u := u) (st := none) hs rfl ?_⟩
  exact post_val_or_str ⟨Nat.le_trans (Txt.slice_le z _ _) hz, fun t' k => ⟨.str (Txt.slice z (l.map (·.1)) (u.map (·.1))), H, I.tok _, ⟨t', rfl⟩, q⟩⟩
theorem idx_cut (lo hi : Option Int) (n : Nat) : Builtin.Str.strSliceIndices lo hi 1 n = (List.range (HT.sIx n n hi - HT.sIx n 0 lo)).map fun k => HT.sIx n 0 lo + k := by
  have c : ∀ (v : Int) (d : Nat), max 0 (min (if v < 0 then v + (n : Int) else v) (n : Int)) = ((HT.sIx n d (some v) : Nat) : Int) := fun v d => by
    rw [← HT.clip_eq v n d]
    by_cases hv : v < 0
    · simp only [if_pos hv]; omega
    · simp only [if_neg hv]; omega
  have key : ∀ i j : Nat, sliceRange (i : Int) (j : Int) 1 = (List.range (j - i)).map fun k => i + k := fun i j => by
    unfold sliceRange
    simp only [show (1 : Int) > 0 by decide, if_true]
    have e : (if (i : Int) < (j : Int) then ((j : Int) - i + 1 - 1) / 1 else 0).toNat = j - i := by
      split <;> omega
    rw [e]
    refine List.map_congr_left fun k _ => ?_
    omega
  rw [← key]
  unfold Builtin.Str.strSliceIndices
  simp only [show (1 : Int) > 0 by decide, if_true]
  cases lo with
  | none =>
    cases hi with
    | none => rfl
    | some v => rw [← c v n]; rfl
  | some u =>
    cases hi with
    | none => rw [← c u 0]; rfl
    | some v => rw [← c v n, ← c u 0]
theorem slice_cps (x : Str) (lo hi : Option Int) : (Txt.slice x lo hi).cps.toList = (x.cps.toList.drop (HT.sIx x.length 0 lo)).take (HT.sIx x.length x.length hi - HT.sIx x.length 0 lo) := by
  have h0 := HT.sIx_le x.length 0 (Nat.zero_le _) lo
  have h1 := HT.sIx_le x.length x.length (Nat.le_refl _) hi
  have hx : x.cps.toList.length = x.length := by simp [Str.length]
  unfold Txt.slice
  rw [idx_cut]
  split
  · rename_i h
    rw [Bool.and_eq_true] at h
    have h' : HT.sIx x.length x.length hi - HT.sIx x.length 0 lo = x.length := by
      have z := h.2
      rw [List.length_map, List.length_range] at z
      exact eq_of_beq z
    have h2 : HT.sIx x.length 0 lo = 0 := by omega
    rw [h', h2, List.drop_zero, List.take_of_length_le (by omega)]
  · show (List.filterMap _ _).toArray.toList = _
    rw [List.filterMap_map]
    apply List.ext_getElem?
    intro k
    have key : (List.range (HT.sIx x.length x.length hi - HT.sIx x.length 0 lo)).filterMap ((fun i => x.cps[i]?) ∘ fun k => HT.sIx x.length 0 lo + k) = (x.cps.toList.drop (HT.sIx x.length 0 lo)).take (HT.sIx x.length x.length hi - HT.sIx x.length 0 lo) := by
      generalize HT.sIx x.length 0 lo = i at h0 ⊢
      have hj : i + (HT.sIx x.length x.length hi - i) ≤ x.length ∨ HT.sIx x.length x.length hi - i = 0 := by omega
      generalize HT.sIx x.length x.length hi - i = d at hj ⊢
      induction d with
      | zero => simp
      | succ d ih =>
        rw [List.range_succ, List.filterMap_append, ih (by omega), List.take_add_one]
        congr 1
        have hlt : i + d < x.cps.size := by simp [Str.length] at hj; omega
        simp [hlt]
    simpa using congrArg (fun l : List Nat => l[k]?) key
noncomputable def rUpper : V → List V → Hp → VK → Prop := fun x vs H Q => ∃ z, x = .str z ∧ vs = [] ∧ z.length ≤ 1000 ∧ Q (.str (Txt.upper z)) H
theorem mt_upper : MtR X "str.upper" rUpper := by
  intro pins s σ H x xs v us Q I rx rs h
  obtain ⟨z, rfl, rfl, hz, q⟩ := h
  obtain ⟨t, rfl⟩ := rx
  cases rs
  exact SCL.upper (by omega) fun _ => ⟨.str (Txt.upper z), H, I.tok _, ⟨_, rfl⟩, q⟩
theorem call_isinst : CallR X (.builtin "isinstance") (fun xs H Q => ∃ x n t b, xs = [x, .ty n] ∧ TyOf X.K H x t ∧ PySem.W.kitOne X.K t (.type n) = some b ∧ Q (.bl b) H) := by
  intro pins s σ H xs us Q I r h
  obtain ⟨x, n, t, b, rfl, ty, e, q⟩ := h
  obtain ⟨u, v, rfl, ru, rv⟩ := r.two
  cases rv
  exact isinst_ok I ru ty e fun tk => ⟨.bl b, H, I.tok _, rfl, q⟩
end
end L2
namespace L2
open PySem PySem.Spec PyProof.Rows
section
variable {X : Cx}
end
inductive Kd where
  | nm (x : Str)
  | two (a b : Kd)
  | som (r : Str) (c : Kd)
  deriving DecidableEq
noncomputable def Kd.dep : Kd → Nat
  | .nm _ => 0
  | .two a b => 1 + max a.dep b.dep
  | .som _ c => 1 + c.dep
noncomputable def Kd.nt : Kd → Nat
  | .nm _ => 0
  | .two a b => 1 + a.nt + b.nt
  | .som _ c => 1 + c.nt
theorem Kd.dep_le_nt : ∀ k : Kd, k.dep ≤ k.nt
  | .nm _ => Nat.le_refl _
  | .two a b => by
    have h1 := dep_le_nt a
    have h2 := dep_le_nt b
    simp only [Kd.dep, Kd.nt]; omega
  | .som _ c => by
    have h1 := dep_le_nt c
    simp only [Kd.dep, Kd.nt]; omega
noncomputable def IsK (H : Hp) : Kd → V → Prop
  | .nm x, v => v = .str x
  | .two a b, v => ∃ (p : Addr) (x y : V), v = .ref p ∧ H p = some (.tup [.str "both", x, y]) ∧ IsK H a x ∧ IsK H b y
  | .som r c, v => ∃ (p : Addr) (y : V), v = .ref p ∧ H p = some (.tup [.str "some", .str r, y]) ∧ IsK H c y
noncomputable def Tups (H H' : Hp) : Prop := ∀ b xs, H b = some (.tup xs) → H' b = some (.tup xs)
theorem Tups.refl (H : Hp) : Tups H H := fun _ _ h => h
theorem Tups.trans {H H1 H2 : Hp} (a : Tups H H1) (b : Tups H1 H2) : Tups H H2 := fun c o h => b c o (a c o h)
theorem Same.tups {H H' : Hp} (h : Same H H') : Tups H H' := fun b xs e => h b _ e
theorem tups_new {H : Hp} {p : Addr} {o : HO} (h : H p = none) : Tups H (upd H p o) := (same_new h o).tups
theorem tups_lst {H : Hp} {p : Addr} {o : HO} {xs : List V} (h : H p = some (.lst xs)) : Tups H (upd H p o) := fun b ys e => by
  rw [upd_ne (ne_of e h (by intro z; cases z))]
  exact e
theorem IsK.mono {H H' : Hp} (t : Tups H H') : ∀ {k : Kd} {v : V}, IsK H k v → IsK H' k v
  | .nm _, _, h => h
  | .two _ _, _, ⟨p, x, y, e, h, ha, hb⟩ => ⟨p, x, y, e, t _ _ h, IsK.mono t ha, IsK.mono t hb⟩
  | .som _ _, _, ⟨p, y, e, h, hc⟩ => ⟨p, y, e, t _ _ h, IsK.mono t hc⟩
theorem both_ne_some : (Str.ofString "both" : Str) ≠ Str.ofString "some" := by decide +kernel
theorem IsK.inj {H : Hp} : ∀ {k k' : Kd} {v : V}, IsK H k v → IsK H k' v → k = k'
  | .nm x, .nm y, _, h, h' => by cases h; cases h'; rfl
  | .nm x, .two _ _, _, h, ⟨p, _, _, e, _⟩ => by cases h; cases e
  | .nm x, .som _ _, _, h, ⟨p, _, e, _⟩ => by cases h; cases e
  | .two _ _, .nm x, _, ⟨p, _, _, e, _⟩, h => by cases h; cases e
  | .som _ _, .nm x, _, ⟨p, _, e, _⟩, h => by cases h; cases e
  | .two a b, .two a' b', _, ⟨p, x, y, e, h, ha, hb⟩, ⟨p', x', y', e', h', ha', hb'⟩ => by
    cases e; cases e'
    rw [h] at h'
    cases h'
    rw [IsK.inj ha ha', IsK.inj hb hb']
  | .two a b, .som r c, _, ⟨p, x, y, e, h, ha, hb⟩, ⟨p', y', e', h', hc'⟩ => by
    cases e; cases e'
    rw [h] at h'
    injection h' with z
    injection z with z
    injection z with z _
    injection z with z
    exact absurd z both_ne_some
  | .som r c, .two a b, _, ⟨p', y', e', h', hc'⟩, ⟨p, x, y, e, h, ha, hb⟩ => by
    cases e; cases e'
    rw [h] at h'
    injection h' with z
    injection z with z
    injection z with z _
    injection z with z
    exact absurd z both_ne_some
  | .som r c, .som r' c', _, ⟨p, y, e, h, hc⟩, ⟨p', y', e', h', hc'⟩ => by
    cases e; cases e'
    rw [h] at h'
    cases h'
    rw [IsK.inj hc hc']
theorem vals3 {x y z : V} {us : List Value} (r : Vals [x, y, z] us) : ∃ u v w', us = [u, v, w'] ∧ RelV x u ∧ RelV y v ∧ RelV z w' := by
  cases r with
  | cons r1 r =>
    cases r with
    | cons r2 r =>
      cases r with
      | cons r3 r => cases r; exact ⟨_, _, _, rfl, r1, r2, r3⟩
section
variable {X : Cx} {pins : List (Addr × Obj)} {σ : St} {H : Hp} {s : Shared}
theorem eq_three {A : Around} {p q : Addr} {x0 x1 x2 y0 y1 y2 : V} {b0 b1 b2 : Bool} (I : Inv X pins σ H s) (hp : H p = some (.tup [x0, x1, x2])) (hq : H q = some (.tup [y0, y1, y2])) (hne : p ≠ q) (hu : A.units < cLine)
    (h0 : ∀ u v, RelV x0 u → RelV y0 v → SeqAt.EqAt A.in1 s u v b0) (h1 : ∀ u v, RelV x1 u → RelV y1 v → SeqAt.EqAt A.in1 s u v b1) (h2 : ∀ u v, RelV x2 u → RelV y2 v → SeqAt.EqAt A.in1 s u v b2) :
    SeqAt.EqAt A s (.ref p) (.ref q) (b0 && b1 && b2) := by
  obtain ⟨_, its, r1, t1⟩ := (show ObjOk X.prog X.w H s.heap p (.tup [x0, x1, x2]) from I.hok p _ hp)
  obtain ⟨_, jts, r2, t2⟩ := (show ObjOk X.prog X.w H s.heap q (.tup [y0, y1, y2]) from I.hok q _ hq)
  obtain ⟨u0, u1, u2, rfl, a0, a1, a2⟩ := vals3 r1
  obtain ⟨v0, v1, v2, rfl, c0, c1, c2⟩ := vals3 r2
  have q := SeqAt.RcAt.tuples (A := A) (e := fun j => if j = 0 then b0 else if j = 1 then b1 else b2) (show s.heap.IsTuple p #[u0, u1, u2] from t1) (show s.heap.IsTuple q #[v0, v1, v2] from t2) hu (fun j g1 g2 => by
    have g : j < 3 := g1
    match j, g with
    | 0, _ => exact h0 _ _ a0 c0
    | 1, _ => exact h1 _ _ a1 c1
    | 2, _ => exact h2 _ _ a2 c2)
  have e : ((List.range (min (#[u0, u1, u2] : Array Value).size (#[v0, v1, v2] : Array Value).size)).all (fun j => if j = 0 then b0 else if j = 1 then b1 else b2) && (#[u0, u1, u2] : Array Value).size == (#[v0, v1, v2] : Array Value).size) = (b0 && b1 && b2) := by
    cases b0 <;> cases b1 <;> cases b2 <;> rfl
  rw [e] at q
  exact SeqAt.EqAt.of_refs hne q
theorem tuple_at {p : Addr} {xs : List V} (I : Inv X pins σ H s) (hp : H p = some (.tup xs)) : ∃ its : List Value, s.heap.IsTuple p its.toArray := by
  obtain ⟨_, its, _, t⟩ := (show ObjOk X.prog X.w H s.heap p (.tup xs) from I.hok p _ hp)
  exact ⟨its, t⟩
theorem eq_word {A : Around} (I : Inv X pins σ H s) (r : Str) : ∀ {k : Kd} {y : V} {u v : Value}, IsK H k y → RelV (.str r) u → RelV y v → A.units < cLine → SeqAt.EqAt A s u v (decide (Kd.nm r = k))
  | .nm x, _, _, _, h, ⟨t, hu⟩, hv, _ => by
    cases h
    obtain ⟨t', hv⟩ := hv
    subst hu; subst hv
    have e : decide (Kd.nm r = Kd.nm x) = (r == x) := by
      by_cases h : r = x
      · subst h; simp
      · rw [decide_eq_false (by intro z; cases z; exact h rfl), beq_eq_false_iff_ne.mpr h]
    rw [e]
    exact SeqAt.EqAt.str_str _ _ _ _
  | .two a b, _, _, _, ⟨p, x, y, e, h, _⟩, ⟨t, hu⟩, hv, hl => by
    cases e; cases hv; subst hu
    obtain ⟨its, ht⟩ := tuple_at I h
    exact SeqAt.EqAt.str_tuple _ _ ht hl
  | .som r' c, _, _, _, ⟨p, y, e, h, _⟩, ⟨t, hu⟩, hv, hl => by
    cases e; cases hv; subst hu
    obtain ⟨its, ht⟩ := tuple_at I h
    exact SeqAt.EqAt.str_tuple _ _ ht hl
theorem strAt (A : Around) (s : Shared) {a b : Str} {u v : Value} (hu : RelV (.str a) u) (hv : RelV (.str b) v) : SeqAt.EqAt A s u v (a == b) := by
  obtain ⟨t, rfl⟩ := hu
  obtain ⟨t', rfl⟩ := hv
  exact SeqAt.EqAt.str_str _ _ _ _
theorem in1_units (A : Around) : A.in1.units = A.units + 1 := rfl
theorem eqK (I : Inv X pins σ H s) : ∀ {k k' : Kd} {A : Around} {x y : V} {u v : Value}, IsK H k x → IsK H k' y → RelV x u → RelV y v → A.units + k.dep < cLine → SeqAt.EqAt A s u v (decide (k = k'))
  | .nm r, k', A, x, y, u, v, hx, hy, ru, rv, hl => by
    cases hx
    exact eq_word I r hy ru rv (by simpa [Kd.dep] using hl)
  | .two a b, .nm r, A, x, y, u, v, ⟨p, _, _, e, h, _⟩, hy, ru, rv, hl => by
    cases e; cases ru; cases hy
    obtain ⟨t, rfl⟩ := rv
    obtain ⟨its, ht⟩ := tuple_at I h
    exact SeqAt.EqAt.tuple_str _ _ ht (by omega)
  | .som a b, .nm r, A, x, y, u, v, ⟨p, _, e, h, _⟩, hy, ru, rv, hl => by
    cases e; cases ru; cases hy
    obtain ⟨t, rfl⟩ := rv
    obtain ⟨its, ht⟩ := tuple_at I h
    exact SeqAt.EqAt.tuple_str _ _ ht (by omega)
  | .two a b, .two a' b', A, x, y, u, v, ⟨p, x1, x2, e, h, ha, hb⟩, ⟨p', y1, y2, e', h', ha', hb'⟩, ru, rv, hl => by
    cases e; cases ru; cases e'; cases rv
    simp only [Kd.dep] at hl
    by_cases z : p = p'
    · subst z
      have k : Kd.two a b = Kd.two a' b' := IsK.inj (H := H) ⟨p, x1, x2, rfl, h, ha, hb⟩ ⟨p, y1, y2, rfl, h', ha', hb'⟩
      rw [decide_eq_true k]
      exact SeqAt.EqAt.same _
    · have q := eq_three (A := A) I h h' z (by omega) (b0 := true) (b1 := decide (a = a')) (b2 := decide (b = b')) (fun u v g1 g2 => by have := strAt A.in1 s g1 g2; rwa [beq_self_eq_true] at this)
        (fun u v g1 g2 => eqK I ha ha' g1 g2 (by rw [in1_units]; omega)) (fun u v g1 g2 => eqK I hb hb' g1 g2 (by rw [in1_units]; omega))
      have e : (true && decide (a = a') && decide (b = b')) = decide (Kd.two a b = Kd.two a' b') := by
        by_cases c1 : a = a'
        · by_cases c2 : b = b'
          · subst c1; subst c2; simp
          · simp [c1, c2]
        · simp [c1]
      rw [e] at q
      exact q
  | .two a b, .som r' c', A, x, y, u, v, ⟨p, x1, x2, e, h, ha, hb⟩, ⟨p', y2, e', h', hc'⟩, ru, rv, hl => by
    cases e; cases ru; cases e'; cases rv
    simp only [Kd.dep] at hl
    have z : p ≠ p' := fun z => by
      subst z
      have k : Kd.two a b = Kd.som r' c' := IsK.inj (H := H) ⟨p, x1, x2, rfl, h, ha, hb⟩ ⟨p, y2, rfl, h', hc'⟩
      cases k
    have q := eq_three (A := A) I h h' z (by omega) (b0 := false) (b1 := decide (a = Kd.nm r')) (b2 := decide (b = c')) (fun u v g1 g2 => by have := strAt A.in1 s g1 g2; rwa [beq_eq_false_iff_ne.mpr both_ne_some] at this)
        (fun u v g1 g2 => eqK (k' := .nm r') I ha rfl g1 g2 (by rw [in1_units]; omega)) (fun u v g1 g2 => eqK I hb hc' g1 g2 (by rw [in1_units]; omega))
    rw [decide_eq_false (by intro k; cases k)]
    simpa using q
  | .som r c, .two a' b', A, x, y, u, v, ⟨p, x2, e, h, hc⟩, ⟨p', y1, y2, e', h', ha', hb'⟩, ru, rv, hl => by
    cases e; cases ru; cases e'; cases rv
    simp only [Kd.dep] at hl
    have z : p ≠ p' := fun z => by
      subst z
      have k : Kd.som r c = Kd.two a' b' := IsK.inj (H := H) ⟨p, x2, rfl, h, hc⟩ ⟨p, y1, y2, rfl, h', ha', hb'⟩
      cases k
    have q := eq_three (A := A) I h h' z (by omega) (b0 := false) (b1 := decide (Kd.nm r = a')) (b2 := decide (c = b')) (fun u v g1 g2 => by have := strAt A.in1 s g1 g2; rwa [beq_eq_false_iff_ne.mpr (Ne.symm both_ne_some)] at this)
        (fun u v g1 g2 => eq_word I r ha' g1 g2 (by rw [in1_units]; omega)) (fun u v g1 g2 => eqK I hc hb' g1 g2 (by rw [in1_units]; omega))
    rw [decide_eq_false (by intro k; cases k)]
    simpa using q
  | .som r c, .som r' c', A, x, y, u, v, ⟨p, x2, e, h, hc⟩, ⟨p', y2, e', h', hc'⟩, ru, rv, hl => by
    cases e; cases ru; cases e'; cases rv
    simp only [Kd.dep] at hl
    by_cases z : p = p'
    · subst z
      have k : Kd.som r c = Kd.som r' c' := IsK.inj (H := H) ⟨p, x2, rfl, h, hc⟩ ⟨p, y2, rfl, h', hc'⟩
      rw [decide_eq_true k]
      exact SeqAt.EqAt.same _
    · have q := eq_three (A := A) I h h' z (by omega) (b0 := true) (b1 := (r == r')) (b2 := decide (c = c')) (fun u v g1 g2 => by have := strAt A.in1 s g1 g2; rwa [beq_self_eq_true] at this)
        (fun u v g1 g2 => strAt A.in1 s g1 g2) (fun u v g1 g2 => eqK I hc hc' g1 g2 (by rw [in1_units]; omega))
      have e : (true && (r == r') && decide (c = c')) = decide (Kd.som r c = Kd.som r' c') := by
        by_cases c1 : r = r'
        · by_cases c2 : c = c'
          · subst c1; subst c2; simp
          · simp [c1, c2]
        · have : (r == r') = false := beq_eq_false_iff_ne.mpr c1
          simp [c1, this]
      rw [e] at q
      exact q
end
section
variable {X : Cx}
end
end L2
namespace L2
open PySem PySem.Spec PyProof.Rows
section
variable {X : Cx}
end
section
variable {X : Cx} {pins : List (Addr × Obj)} {σ : St} {H : Hp} {s : Shared}
theorem tup3_at {p : Addr} {x y z : V} (I : Inv X pins σ H s) (hp : H p = some (.tup [x, y, z])) : ∃ u v w', s.heap.IsTuple p #[u, v, w'] ∧ RelV x u ∧ RelV y v ∧ RelV z w' := by
  obtain ⟨_, its, r1, t1⟩ := (show ObjOk X.prog X.w H s.heap p (.tup [x, y, z]) from I.hok p _ hp)
  obtain ⟨u0, u1, u2, rfl, a0, a1, a2⟩ := vals3 r1
  exact ⟨u0, u1, u2, t1, a0, a1, a2⟩
theorem all3 {b0 b1 b2 : Bool} {u0 u1 u2 v0 v1 v2 : Value} : ((List.range (min (#[u0, u1, u2] : Array Value).size (#[v0, v1, v2] : Array Value).size)).all (fun j => if j = 0 then b0 else if j = 1 then b1 else b2) && (#[u0, u1, u2] : Array Value).size == (#[v0, v1, v2] : Array Value).size) = (b0 && b1 && b2) := by
  cases b0 <;> cases b1 <;> cases b2 <;> rfl
noncomputable def Kd.head : Kd → Str
  | .nm _ => ""
  | .two _ _ => "both"
  | .som _ _ => "some"
noncomputable def Kd.mid : Kd → Kd
  | .nm x => .nm x
  | .two a _ => a
  | .som r _ => .nm r
noncomputable def Kd.last : Kd → Kd
  | .nm x => .nm x
  | .two _ b => b
  | .som _ c => c
noncomputable def Kd.isT : Kd → Bool
  | .nm _ => false
  | _ => true
theorem IsK.parts : ∀ {k : Kd} {v : V}, k.isT = true → IsK H k v → ∃ p x y, v = .ref p ∧ H p = some (.tup [.str k.head, x, y]) ∧ IsK H k.mid x ∧ IsK H k.last y
  | .two a b, _, _, ⟨p, x, y, e, h, h1, h2⟩ => ⟨p, x, y, e, h, h1, h2⟩
  | .som r c, _, _, ⟨p, y, e, h, h1⟩ => ⟨p, .str r, y, e, h, rfl, h1⟩
theorem Kd.mid_dep {k : Kd} (h : k.isT = true) : k.mid.dep < k.dep := by
  cases k with
  | nm _ => cases h
  | two a b => simp only [Kd.mid, Kd.dep]; omega
  | som r c => simp only [Kd.mid, Kd.dep]; omega
theorem Kd.last_dep {k : Kd} (h : k.isT = true) : k.last.dep < k.dep := by
  cases k with
  | nm _ => cases h
  | two a b => simp only [Kd.last, Kd.dep]; omega
  | som r c => simp only [Kd.last, Kd.dep]; omega
theorem Kd.eq_parts {k k' : Kd} (h : k.isT = true) (h' : k'.isT = true) : decide (k = k') = ((k.head == k'.head) && decide (k.mid = k'.mid) && decide (k.last = k'.last)) := by
  have e1 : ((Str.ofString "both" : Str) == Str.ofString "some") = false := beq_eq_false_iff_ne.mpr both_ne_some
  have e2 : ((Str.ofString "some" : Str) == Str.ofString "both") = false := beq_eq_false_iff_ne.mpr (Ne.symm both_ne_some)
  cases k with
  | nm _ => cases h
  | two a b =>
    cases k' with
    | nm _ => cases h'
    | two a' b' => by_cases c1 : a = a' <;> by_cases c2 : b = b' <;> simp [Kd.head, Kd.mid, Kd.last, c1, c2]
    | som r c => rw [decide_eq_false (by intro z; cases z)]; simp [Kd.head, e1]
  | som r c =>
    cases k' with
    | nm _ => cases h'
    | two a' b' => rw [decide_eq_false (by intro z; cases z)]; simp [Kd.head, e2]
    | som r' c' => by_cases c1 : r = r' <;> by_cases c2 : c = c' <;> simp [Kd.head, Kd.mid, Kd.last, c1, c2]
theorem Kd.nm_of {k : Kd} (h : ¬ k.isT = true) : ∃ x, k = .nm x := by
  cases k with
  | nm x => exact ⟨x, rfl⟩
  | _ => exact absurd rfl h
theorem nm_eq {x y : Str} : decide (Kd.nm x = Kd.nm y) = (x == y) := by
  by_cases h : x = y
  · subst h; simp
  · rw [decide_eq_false (by intro z; cases z; exact h rfl), beq_eq_false_iff_ne.mpr h]
theorem rcK {A : Around} (I : Inv X pins σ H s) {k k' : Kd} {x y : V} {u v : Value} (hx : IsK H k x) (hy : IsK H k' y) (ru : RelV x u) (rv : RelV y v) (hl : A.units + k.dep + 1 < cLine) :
    SeqAt.RcAt A s u v (decide (k = k')) ∧ SeqAt.RcNeAt A s u v (!decide (k = k')) := by
  by_cases h : k.isT = true
  · obtain ⟨p, x1, x2, rfl, hp, m1, l1⟩ := hx.parts h
    cases ru
    obtain ⟨u0, u1, u2, t1, a0, a1, a2⟩ := tup3_at I hp
    by_cases h' : k'.isT = true
    · obtain ⟨p', y1, y2, rfl, hp', m2, l2⟩ := hy.parts h'
      cases rv
      obtain ⟨v0, v1, v2, t2, c0, c1, c2⟩ := tup3_at I hp'
      have d1 := Kd.mid_dep h
      have d2 := Kd.last_dep h
      have he : ∀ j (g1 : j < (#[u0, u1, u2] : Array Value).size) (g2 : j < (#[v0, v1, v2] : Array Value).size), SeqAt.EqAt A.in1 s (#[u0, u1, u2] : Array Value)[j] (#[v0, v1, v2] : Array Value)[j] ((fun j => if j = 0 then (k.head == k'.head) else if j = 1 then decide (k.mid = k'.mid) else decide (k.last = k'.last)) j) := fun j g1 g2 => by
        have g : j < 3 := g1
        match j, g with
        | 0, _ => exact strAt A.in1 s a0 c0
        | 1, _ => exact eqK I m1 m2 a1 c1 (by rw [in1_units]; omega)
        | 2, _ => exact eqK I l1 l2 a2 c2 (by rw [in1_units]; omega)
      have q1 := SeqAt.RcAt.tuples (A := A) t1 t2 (by omega) he
      have q2 := SeqAt.RcNeAt.tuples (A := A) t1 t2 (by omega) he
      rw [all3, ← Kd.eq_parts h h'] at q1
      rw [all3, ← Kd.eq_parts h h'] at q2
      exact ⟨q1, q2⟩
    · obtain ⟨z, rfl⟩ := Kd.nm_of h'
      cases hy
      obtain ⟨t, rfl⟩ := rv
      have e : decide (k = Kd.nm z) = false := decide_eq_false (by rintro rfl; cases h)
      rw [e]
      exact ⟨SeqAt.RcAt.tuple_str _ _ t1 (by omega), SeqAt.RcNeAt.tuple_str _ _ t1 (by omega)⟩
  · obtain ⟨z, rfl⟩ := Kd.nm_of h
    cases hx
    obtain ⟨t, rfl⟩ := ru
    by_cases h' : k'.isT = true
    · obtain ⟨p', y1, y2, rfl, hp', m2, l2⟩ := hy.parts h'
      cases rv
      obtain ⟨v0, v1, v2, t2, c0, c1, c2⟩ := tup3_at I hp'
      have e : decide (Kd.nm z = k') = false := decide_eq_false (by rintro rfl; cases h')
      rw [e]
      exact ⟨SeqAt.RcAt.str_tuple _ _ t2 (by omega), SeqAt.RcNeAt.str_tuple _ _ t2 (by omega)⟩
    · obtain ⟨z', rfl⟩ := Kd.nm_of h'
      cases hy
      obtain ⟨t', rfl⟩ := rv
      rw [nm_eq]
      exact ⟨SeqAt.RcAt.str_str _ _ _ _, SeqAt.RcNeAt.str_str _ _ _ _⟩
end
section
variable {X : Cx}
noncomputable def rEqK : R2 := fun x y H Q => ∃ k k' : Kd, IsK H k x ∧ IsK H k' y ∧ k.dep ≤ 60 ∧ Q (.bl (decide (k = k'))) H
theorem op_eqK (hu : X.A.units + 64 < cLine) : OpR X (compareOp .Eq) rEqK := by
  intro pins s σ H x y v u Q I rx ry h
  obtain ⟨k, k', h1, h2, hd, q⟩ := h
  exact (rcK I h1 h2 rx ry (by omega)).1 _ _ _ _ ⟨.bl _, H, I, rfl, q⟩
end
end L2
namespace L2
open PySem PySem.Spec PyProof.Rows
section
variable {X : Cx} {pins : List (Addr × Obj)} {σ : St} {H : Hp} {s : Shared} {h' : Heap}
theorem Inv.turnedL {t' : Nat} {fp : List Addr} (I : Inv X pins σ H s) (hf : ∀ b ∈ fp, FpOk X pins H b) (k : ∀ b o, b ∉ fp → s.heap.get? b = some o → h'.get? b = some o) : Inv X pins σ H { s with heap := h', toks := t' } := by
  have nit : ∀ b u, H b = some u → b ∉ fp := fun b u e z => by rw [(hf b z).1] at e; cases e
  refine I.step (g' := s.gens) (d' := s.drawn) (ch := fp) (fun b hb => ?_) (fun b o _ _ hc e _ => k b o hc e) (fun b o _ _ hc e _ => ⟨o.slots, k b o hc e⟩) (fun _ _ _ _ n => n)
    (fun b o hc e => ⟨o, k b o hc e⟩) (fun _ _ e => e) (fun _ _ _ e => e) (fun b ps e => ⟨#[], by rw [e]; simp⟩) (fun m hm => ?_) (fun b u e => ?_) I.bare
  · obtain ⟨f0, f1, f2, f3, f4, f5⟩ := hf b hb
    exact ⟨f3, f1, f4, f5⟩
  · obtain ⟨o, es, ep, ho, r⟩ := hm
    exact ⟨o, es, ep, k _ o (fun z => (hf _ z).2.1 rfl) ho, r⟩
  · refine (I.hok b u e).stay (fun c v hc q => k c v ?_ q) (fun _ q => q) fun _ _ q => q
    rcases hc with z | z
    · rw [z]; exact nit b u e
    · exact nit c _ z
theorem Inv.turnedT {t' : Nat} {fp : List Addr} {T : Addr} {u : HO} (I : Inv X pins σ H s) (hf : ∀ b ∈ fp, FpOk X pins H b) (k : ∀ b o, b ∉ fp → s.heap.get? b = some o → h'.get? b = some o) (hT : s.heap.objs.size ≤ T) (new : ObjOk X.prog X.w (upd H T u) h' T u) :
    Inv X pins σ (upd H T u) { s with heap := h', toks := t' } := by
  have nit : ∀ b u, H b = some u → b ∉ fp := fun b u e z => by rw [(hf b z).1] at e; cases e
  have hn : H T = none := I.hok.fresh hT
  have nT : ∀ b o, s.heap.get? b = some o → b ≠ T := fun b o e => Nat.ne_of_lt (Nat.lt_of_lt_of_le (Heap.lt_size e) hT)
  refine I.step (g' := s.gens) (d' := s.drawn) (ch := fp) (fun b hb => ?_) (fun b o _ _ hc e _ => k b o hc e) (fun b o _ _ hc e _ => ⟨o.slots, k b o hc e⟩) (fun b o _ e n => by rw [upd_ne (nT b o e)]; exact n)
    (fun b o hc e => ⟨o, k b o hc e⟩) (fun b xs e => by rw [upd_ne (ne_of_none e hn)]; exact e) (fun b o u e => by rw [upd_ne (ne_of_none e hn)]; exact e) (fun b ps e => ⟨#[], by rw [upd_ne (ne_of_none e hn), e]; simp⟩) (fun m hm => ?_) (fun b u' e => ?_) I.bare
  · obtain ⟨f0, f1, f2, f3, f4, f5⟩ := hf b hb
    exact ⟨f3, f1, f4, f5⟩
  · obtain ⟨o, es, ep, ho, r⟩ := hm
    exact ⟨o, es, ep, k _ o (fun z => (hf _ z).2.1 rfl) ho, r⟩
  · by_cases hb : b = T
    · subst hb
      rw [upd_same] at e
      cases e
      exact new
    · rw [upd_ne hb] at e
      refine (I.hok b u' e).stay (fun c v hc q => k c v ?_ q) (fun c q => by rw [upd_ne (ne_of_none q hn)]; exact q) fun c xs q => by rw [upd_ne (ne_of_none q hn)]; exact q
      rcases hc with z | z
      · rw [z]; exact nit b u' e
      · exact nit c _ z
end
noncomputable def ItE (K : PySem.W.Frag) (a : Addr) : It :=
  ⟨fun i H => ∃ xs x, SqL K H a xs ∧ xs[i]? = some x, fun i H v H' => ∃ T x, v = .ref T ∧ H T = none ∧ H' = upd H T (.tup [.int (i : Int), x]) ∧ ∀ xs, SqL K H a xs → xs[i]? = some x, fun i H => ∃ xs, SqL K H a xs ∧ xs.length ≤ i⟩
theorem turn_enum {P : Program} {w : World} {K : PySem.W.Frag} {elts : List Expr} {k : Nat} {pos : Pos} (a e it : Addr) (hei : e ≠ it) (hae : a ≠ e) (hai : a ≠ it) : Turn P w K (.Tuple elts k pos) (ItE K a) [e, it] e (fun i h => (∃ old, IsEnum h e it i old) ∧ h.IsListIter it a i) where
  mem := by simp
  obj := fun i h st b hb => by
    obtain ⟨⟨old, he⟩, o, ho, hc, hd⟩ := st
    rcases List.mem_cons.mp hb with rfl | hb
    · exact ⟨_, he, fun v z => by
        have z' : Data.fields _ = Data.cell v := z
        cases z'⟩
    · rw [List.mem_singleton.mp hb]
      exact ⟨o, ho, fun v z => by rw [hd] at z; cases z⟩
  keep := fun i h h' st kk => by
    obtain ⟨⟨old, he⟩, hit⟩ := st
    exact ⟨⟨old, kk e (by simp) _ he⟩, hit.at fun o x => kk it (by simp) o x⟩
  item := by
    intro X hP hw hK hc i pins s σ H E I hf st hg
    subst hP hw hK
    obtain ⟨xs, x, hq, hx⟩ := hg
    obtain ⟨its, rv, p, hz⟩ := I.list hq
    obtain ⟨u, hu, ru⟩ := rv.get hx
    have W := WalksT.enumerate (prog := X.prog) (w := X.w) (A := X.A) (I.ok.hd hc) e it a hei hae hai its.toArray
    have hi : i < its.toArray.size := by
      have := (List.getElem?_eq_some_iff.mp hu).1
      simpa using this
    refine W.item i s _ _ hi ⟨st.1, st.2, p.isList⟩ fun T vals h1 tk hP hT hTup hm hk => ?_
    obtain ⟨t, x', hx', rfl⟩ := hP
    have hxu : x' = u := by
      have : its[i]? = some x' := by simpa using hx'
      rw [hu] at this
      exact (Option.some.inj this).symm
    subst hxu
    have nTe := W.apart i T h1 hm
    refine ⟨_, rfl, W.go elts k pos i T _ _ _ hm fun h2 st2 hk2 => ?_⟩
    have kk : ∀ b o, b ∉ [e, it] → s.heap.get? b = some o → h2.get? b = some o := fun b o hb q => hk2 b o hb (hk b o hb q)
    have hT2 : h2.IsTuple T #[.int (i : Int) t, x'] := hTup.at fun o q => hk2 T o nTe q
    refine ⟨.ref T, upd H T (.tup [.int (i : Int), x]), I.turnedT (t' := tk) hf kk hT ?_, rfl, ⟨T, x, rfl, I.hok.fresh hT, rfl, fun ys hy => by rw [I.list_inj hy hq]; exact hx⟩, ⟨st2.1, st2.2.1⟩, fun b hb => ?_⟩
    · exact ⟨by show 2 ≤ sizeLine; exact Nat.le_of_lt (small1000 (by decide)), [.int (i : Int) t, x'], .cons ⟨t, rfl⟩ (.cons ru .nil), hT2⟩
    · have : b ≠ T := fun z => by subst z; exact nTe hb
      rw [upd_ne this]
      exact (hf b hb).1
  done := by
    intro X hP hw hK hc i pins s σ H E I hf st hg
    subst hP hw hK
    obtain ⟨xs, hq, hx⟩ := hg
    obtain ⟨its, rv, p, hz⟩ := I.list hq
    have hl := rv.length
    obtain ⟨⟨old, he⟩, hit⟩ := st
    refine wpAny_pyNext_enum_end (I.ok.hd hc) he hit p.isList (Array.getElem?_eq_none (by simp; omega)) fun h' hx => ⟨rfl, I.turnedL (t' := s.toks) hf fun b o hb y => ?_⟩
    exact hx b o (fun e' => hb (by simp [e'])) y
  self := fun _ _ _ _ _ st h => by
    obtain ⟨⟨old, he⟩, _⟩ := st
    exact wpAny_pyIter_enum he h
noncomputable def iEnum (K : PySem.W.Frag) (ta : TA) : TI := fun σ H R => ta σ H fun vs H1 => ∃ a, vs = [.ref a] ∧ (∃ xs, SqL K H1 a xs) ∧ R (ItE K a) H1
theorem pi_enum {X : Cx} {elts : List Expr} {k : Nat} {tpos : Pos} {l : Expr} {ta : TA} {p pos : Pos} (hg : Gl X "enumerate") (hm : X.mg "enumerate" = none) (ha : PA X [l] ta) (hs : starEach [l] X.env = [(false, eval l X.env)] := by rfl) : PI X (.Tuple elts k tpos) (.Call (.Name "enumerate" p) [l] [] pos) (iEnum X.K ta) := by
  intro pins s σ H R I h
  refine Call_ (ld_blt I hg hm boot_enumerate (PyProof.Rows.callWith_type1 (thn (ha pos pins s σ H _ I h) fun us s1 ⟨vs, H1, I1, r1, q1⟩ => ?_) hs rfl))
  obtain ⟨a, e, ⟨xs, hq⟩, q⟩ := q1
  subst e
  cases r1 with
  | cons r rr =>
    cases rr
    cases r
    obtain ⟨its, rv, p, hz⟩ := I1.list hq
    have hlt : a < s1.heap.objs.size := by
      obtain ⟨o, ho, _⟩ := p.isList
      exact Heap.lt_size ho
    refine call_enumerate_list p.isList fun h' hE hI hsz hk => ?_
    refine wpAny_pyIter_enum hE ?_
    have I2 : Inv X pins σ H1 { s1 with heap := h' } := I1.kept (t' := s1.toks) hk
    refine ⟨s1.heap.objs.size + 1, [s1.heap.objs.size + 1, s1.heap.objs.size], _, _, H1, rfl, I2, turn_enum a _ _ (Nat.succ_ne_self _) (Nat.ne_of_lt (Nat.lt_succ_of_lt hlt)) (Nat.ne_of_lt hlt), ⟨⟨.none, hE⟩, hI⟩, fun b hb => ?_, q⟩
    have hb' : s1.heap.objs.size ≤ b := by
      rcases List.mem_cons.mp hb with rfl | hb
      · exact Nat.le_succ _
      · rw [List.mem_singleton.mp hb]; exact Nat.le_refl _
    exact I1.fpOk hb' (I1.hok.fresh hb')
section
variable {X : Cx}
end
end L2
namespace L2
open PySem PySem.Spec PyProof.Rows
theorem relV_of_is {P : Program} {w : World} {k : Key} {u : Value} (h : (mixKind P w).is k u = true) : RelV (kV k) u := by
  rw [mixKind_is] at h
  rcases keyIs_shape h with ⟨i, t, rfl, rfl⟩ | ⟨x, t, rfl, rfl⟩
  · exact ⟨t, rfl⟩
  · exact ⟨t, rfl⟩
section
variable {X : Cx} {pins : List (Addr × Obj)} {σ : St} {H : Hp} {s : Shared}
theorem Inv.freeze {d : Addr} {kvs : List (Key × V)} (I : Inv X pins σ H s) (hd : H d = some (.dK kvs)) : ∃ o es ep vs, s.heap.get? d = some o ∧ o.data = .dict es ep ∧ KV kvs vs ∧ s.heap.DictAt (mixKind X.prog X.w) d vs ep ∧ (d == sysModules) = false ∧ Inv X pins σ (upd H d (.frz o (.dK kvs))) s := by
  obtain ⟨z, hs, vs, rel, dd⟩ := dk_of I.hok hd
  obtain ⟨o, es, ep, ho, hx, hdat, r⟩ := id dd
  refine ⟨o, es, ep, vs, ho, hdat, rel, ⟨o, es, ho, hx, hdat, r⟩, hs, ?_⟩
  exact I.write (x := d) (e := d) (t' := s.toks) (by rw [hd]; trivial) (.inl rfl) (fun b u _ q => q) ⟨o, ho⟩ ⟨ho, z, hs, vs, rel, dd⟩
theorem Inv.thaw {d : Addr} {o : Obj} {kvs : List (Key × V)} (I : Inv X pins σ H s) (hd : H d = some (.frz o (.dK kvs))) (hz : ∀ o u, X.H₀ d ≠ some (.frz o u)) : Inv X pins σ (upd H d (.dK kvs)) s := by
  have nn : ∀ b, H b = none → b ≠ d := fun b n z => by subst z; rw [hd] at n; cases n
  have nt : ∀ b xs, H b = some (.tup xs) → b ≠ d := fun b xs n z => by subst z; rw [hd] at n; cases n
  have nown : ∀ b a, H b = some (.own a) → b ≠ d := fun b xs n z => by subst z; rw [hd] at n; cases n
  refine ⟨I.ok, I.os, I.bare, ⟨I.base.keep, I.base.slot, fun b ob q n hx => ?_, I.base.there, fun b xs q => ?_, fun b ob u q => ?_, fun b ps q => ?_⟩, I.loc, I.cell, ?_, fun x c q => ?_, fun p hp => ?_, fun b u q => ?_, I.len⟩
  · have := I.base.free b ob q n hx
    rw [upd_ne (nn b this)]; exact this
  · have := I.base.tups b xs q
    rw [upd_ne (nt b xs this)]; exact this
  · have h1 := I.base.frzs b ob u q
    have : b ≠ d := fun z => by subst z; exact hz ob u q
    rw [upd_ne this]; exact h1
  · obtain ⟨more, h1⟩ := I.base.tbls b ps q
    have : b ≠ d := fun z => by subst z; rw [hd] at h1; cases h1
    exact ⟨more, by rw [upd_ne this]; exact h1⟩
  · rw [upd_ne (nn _ I.free)]; exact I.free
  · rw [upd_ne (nn _ (I.freeC x c q))]; exact I.freeC x c q
  · obtain ⟨h1, h2, h3⟩ := I.pin p hp
    exact ⟨h1, by rw [upd_ne (nn _ h2)]; exact h2, h3⟩
  · by_cases hb : b = d
    · subst hb
      rw [upd_same] at q
      cases q
      exact (show ObjOk X.prog X.w H s.heap b (.frz o (.dK kvs)) from I.hok b _ hd).2
    · rw [upd_ne hb] at q
      exact (I.hok b u q).stay (fun c v _ r => r) (fun c r => by rw [upd_ne (nown c b r)]; exact r) fun c xs r => by rw [upd_ne (nt c xs r)]; exact r
end
noncomputable def ItD (d : Addr) (o : Obj) (kvs : List (Key × V)) : It :=
  ⟨fun i H => H d = some (.frz o (.dK kvs)) ∧ i < kvs.length, fun i H x H' => H' = H ∧ ∃ kv, kvs[i]? = some kv ∧ x = kV kv.1, fun i H => H d = some (.frz o (.dK kvs)) ∧ kvs.length ≤ i⟩
theorem dict_again {X : Cx} {pins : List (Addr × Obj)} {σ : St} {H : Hp} {s : Shared} {d : Addr} {o : Obj} {kvs : List (Key × V)} {es : Array DictEntry} {ep : Nat} (I : Inv X pins σ H s) (hd : H d = some (.frz o (.dK kvs))) (hdat : o.data = .dict es ep) :
    ∃ vs, KV kvs vs ∧ s.heap.DictAt (mixKind X.prog X.w) d vs ep := by
  obtain ⟨ho, _, _, vs, rel, o', es', ep', ho', hx, hdat', r⟩ := (show ObjOk X.prog X.w H s.heap d (.frz o (.dK kvs)) from I.hok d _ hd)
  rw [ho] at ho'
  cases ho'
  rw [hdat] at hdat'
  cases hdat'
  exact ⟨vs, rel, o, es, ho, hx, hdat, r⟩
theorem kv_len {kvs : List (Key × V)} {vs : List (Key × Value)} (r : KV kvs vs) : kvs.length = vs.length := KV.length r
theorem kv_get : ∀ {kvs : List (Key × V)} {vs : List (Key × Value)} {i : Nat} {kv : Key × V}, KV kvs vs → kvs[i]? = some kv → ∃ u, vs[i]? = some (kv.1, u) ∧ RelV kv.2 u
  | _, _, _, _, .nil, h => by simp at h
  | _, _, 0, kv, .cons (b := q) r _, h => by
    simp at h; subst h
    exact ⟨q.2, by rw [List.getElem?_cons_zero, r.1], r.2⟩
  | _, _, i + 1, kv, .cons _ t, h => by
    obtain ⟨u, h1, h2⟩ := kv_get (i := i) t (by simpa using h)
    exact ⟨u, by simpa using h1, h2⟩
theorem turn_dict {P : Program} {w : World} {K : PySem.W.Frag} {tg : Expr} (d it : Addr) (o : Obj) (kvs : List (Key × V)) (es : Array DictEntry) (ep : Nat) (hdat : o.data = .dict es ep) : Turn P w K tg (ItD d o kvs) [it] it (fun i h => h.IsKeyIter it d i kvs.length ep) where
  mem := by simp
  obj := fun i h st b hb => by
    have e : b = it := by simpa using hb
    subst e
    obtain ⟨o, e, c, dd⟩ := st
    exact ⟨o, e, fun v z => by rw [dd] at z; cases z⟩
  keep := fun i h h' st k => st.at fun o e => k it (by simp) o e
  item := by
    intro X hP hw hK hc i pins s σ H E I hf st hg
    subst hP hw hK
    obtain ⟨hd, hi⟩ := hg
    obtain ⟨vs, rel, da⟩ := dict_again I hd hdat
    obtain ⟨f0, f1, f2, f3, f4, f5⟩ := hf it (by simp)
    have hx : kvs[i]? = some kvs[i] := List.getElem?_eq_getElem hi
    obtain ⟨u, hu, _⟩ := kv_get rel hx
    have st' : s.heap.IsKeyIter it d i vs.length ep := by rw [← kv_len rel]; exact st
    refine wpAny_pyNext_dict_item st' da hu fun key h' hk it' sb => ?_
    have I1 : Inv X pins σ H { s with heap := h' } := I.turned (t' := s.toks) (fun b o hb e => (sb.2 b hb).trans e) f0 f1 f3 f4 f5
    rw [← kv_len rel] at it'
    obtain ⟨oi, e, c, dd⟩ := id it'
    exact ⟨key, rfl, go_of (s := { s with heap := h' }) e c dd (by decide) ⟨kV kvs[i].1, H, I1, relV_of_is hk, ⟨rfl, _, hx, rfl⟩, it', fun b hb => (hf b hb).1⟩⟩
  done := by
    intro X hP hw hK hc i pins s σ H E I hf st hg
    subst hP hw hK
    obtain ⟨hd, hi⟩ := hg
    obtain ⟨vs, rel, da⟩ := dict_again I hd hdat
    obtain ⟨f0, f1, f2, f3, f4, f5⟩ := hf it (by simp)
    have st' : s.heap.IsKeyIter it d i vs.length ep := by rw [← kv_len rel]; exact st
    exact wpAny_pyNext_dict_end (I.ok.hd hc) st' da (List.getElem?_eq_none (by rw [← kv_len rel]; exact hi)) fun h' eb => ⟨rfl, I.turned (t' := s.toks) (fun b o hb e => eb b o hb e) f0 f1 f3 f4 f5⟩
  self := fun _ _ _ _ _ st h => wpAny_pyIter_keyiter st h
noncomputable def iDict (tl : TE) : TI := fun σ H R => tl σ H fun x H1 => ∃ d kvs, x = .ref d ∧ H1 d = some (.dK kvs) ∧ ∀ o, R (ItD d o kvs) (upd H1 d (.frz o (.dK kvs)))
theorem pi_dict {X : Cx} {tg l : Expr} {tl : TE} (hl : PE X l tl) : PI X tg l (iDict tl) := by
  intro pins s σ H R I h
  refine thn (hl pins s σ H _ I h) fun v s1 ⟨x, H1, I1, r1, q1⟩ => ?_
  obtain ⟨d, kvs, e, hd, q⟩ := q1
  subst e
  cases r1
  obtain ⟨o, es, ep, vs, ho, hdat, rel, da, hs, I2⟩ := I1.freeze hd
  refine wpAny_pyIter_dict hs da ?_
  refine ⟨s1.heap.objs.size, [s1.heap.objs.size], _, _, _, rfl, I2.kept (t' := s1.toks) fun b o e => Heap.get?_push_of_some _ e, turn_dict d _ o kvs es ep hdat, ?_, fun b hb => ?_, q o⟩
  · rw [kv_len rel]
    exact ⟨_, Heap.get?_push_size _ rfl, rfl, rfl⟩
  · have e : b = s1.heap.objs.size := by simpa using hb
    subst e
    exact I2.fpOk (Nat.le_refl _) (I2.hok.fresh (Nat.le_refl _))
theorem for_dict {d : Addr} {o : Obj} {kvs : List (Key × V)} {g : TG} {tb : TS} {D : Ends} {σ : St} {H : Hp} (Pv : Nat → St → Hp → Prop) (h0 : Pv 0 σ H) (hl : ∀ i σ H, i ≤ kvs.length → Pv i σ H → H d = some (.frz o (.dK kvs)))
    (hs : ∀ i kv σ H, kvs[i]? = some kv → Pv i σ H → g (kV kv.1) σ H fun σ2 H2 => tb { D with nx := Pv (i + 1), ct := Pv (i + 1), bk := D.nx } σ2 H2) (hd : ∀ σ H, Pv kvs.length σ H → D.nx σ H) :
    ∃ W : Nat → Nat → St → Hp → Prop, (∃ m, W 0 m σ H) ∧ ∀ i m σ H, W i m σ H →
      ((ItD d o kvs).stop i H ∧ D.nx σ H) ∨ ((ItD d o kvs).go i H ∧ ∃ N : St → Hp → Prop, (∀ σ' H', N σ' H' → ∃ m', m' < m ∧ W (i + 1) m' σ' H') ∧ ∀ x H', (ItD d o kvs).yld i H x H' → g x σ H' fun σ2 H2 => tb { D with nx := N, ct := N, bk := D.nx } σ2 H2) := by
  refine ⟨fun i m σ H => m = kvs.length - i ∧ i ≤ kvs.length ∧ Pv i σ H, ⟨kvs.length, by simp, Nat.zero_le _, h0⟩, ?_⟩
  rintro i m σ H ⟨rfl, hi, p⟩
  have q := hl i σ H hi p
  by_cases hlt : i < kvs.length
  · refine .inr ⟨⟨q, hlt⟩, Pv (i + 1), fun σ' H' p' => ⟨kvs.length - (i + 1), by omega, rfl, hlt, p'⟩, fun x H' y => ?_⟩
    obtain ⟨e, kv, hk, rfl⟩ := y
    subst e
    exact hs i kv σ _ hk p
  · have e : i = kvs.length := by omega
    subst e
    exact .inl ⟨⟨q, Nat.le_refl _⟩, hd σ H p⟩
noncomputable def tThaw (t : TS) : TS := fun D σ H => ∃ d kvs, H d = some (.dK kvs) ∧ t { D with nx := fun σ' H' => ∃ o, H' d = some (.frz o (.dK kvs)) ∧ D.nx σ' (upd H' d (.dK kvs)), rt := fun v H' => ∃ o, H' d = some (.frz o (.dK kvs)) ∧ D.rt v (upd H' d (.dK kvs)), bk := fun _ _ => False, ct := fun _ _ => False } σ H
theorem ps_thaw {X : Cx} {st : Stmt} {t : TS} (h : PS X st t) : PS X st (tThaw t) := by
  intro pins s σ H D I q
  obtain ⟨d, kvs, hd, q⟩ := q
  have hz : ∀ o u, X.H₀ d ≠ some (.frz o u) := fun o u z => by
    have := I.base.frzs d o u z
    rw [hd] at this
    cases this
  refine thn (h pins s σ H _ I q) fun f s1 q1 => ?_
  cases f with
  | next =>
    obtain ⟨σ', H', I', o, e, n⟩ := q1
    exact ⟨σ', _, I'.thaw e hz, n⟩
  | ret v =>
    obtain ⟨x, σ', H', I', r, o, e, n⟩ := q1
    exact ⟨x, σ', _, I'.thaw e hz, r, n⟩
  | brk =>
    obtain ⟨σ', H', I', n⟩ := q1
    exact n.elim
  | cont =>
    obtain ⟨σ', H', I', n⟩ := q1
    exact n.elim
theorem vals_of : ∀ {xs : List V} {us : List Value}, xs.length = us.length → (∀ (j : Nat) (v : Value), us[j]? = some v → ∃ x, xs[j]? = some x ∧ RelV x v) → Vals xs us
  | [], [], _, _ => .nil
  | x :: xs, u :: us, hl, h => by
    obtain ⟨y, h1, h2⟩ := h 0 u rfl
    simp at h1; subst h1
    exact .cons h2 (vals_of (by simpa using hl) fun j v hv => by
      obtain ⟨y, g1, g2⟩ := h (j + 1) v (by simpa using hv)
      exact ⟨y, by simpa using g1, g2⟩)
section
variable {X : Cx}
noncomputable def tLRng (te : TE) : TE := fun σ H Q => te σ H fun x H1 => ∃ n : Nat, x = .int (n : Int) ∧ n ≤ 1000 ∧ ∀ p, H1 p = none → Q (.ref p) (upd H1 p (.lst ((List.range n).map fun (i : Nat) => V.int (i : Int))))
theorem pe_listRange {a : Expr} {te : TE} {p1 p2 p3 pos : Pos} (hcalm : X.calm = true) (hg : Gl X "range") (hm : X.mg "range" = none) (hgl : Gl X "list") (hml : X.mg "list" = none) (ha : PE X a te)
    (hs : starEach [a] X.env = [(false, eval a X.env)] := by rfl) (hs2 : starEach [.Call (.Name "range" p2) [a] [] p3] X.env = [(false, eval (.Call (.Name "range" p2) [a] [] p3) X.env)] := by rfl) :
    PE X (.Call (.Name "list" p1) [.Call (.Name "range" p2) [a] [] p3] [] pos) (tLRng te) := by
  intro pins s σ H Q I h
  refine Call_ (ld_blt I hgl hml boot_list (PyProof.Rows.callWith_type1 ?_ hs2 rfl))
  rw [hs2]
  refine Calls.spliced_cons ?_
  refine Call_ (ld_blt I hg hm boot_range (PyProof.Rows.callWith_type1 ?_ hs rfl))
  rw [hs]
  refine Calls.spliced_cons (thn (ha pins s σ H _ I h) fun u s1 ⟨x, H1, I1, r1, q1⟩ => Calls.spliced_nil ?_)
  obtain ⟨n, rfl, hn, q⟩ := q1
  obtain ⟨t, rfl⟩ := r1
  refine call_range_1 (Calls.spliced_nil ?_)
  have I2 : Inv X pins σ H1 { s1 with heap := s1.heap.push { cls := .type "range", data := .fields #[.int 0 s1.toks, .int (n : Int) t, .int 1 (s1.toks + 1)] }, toks := s1.toks + 1 + 1 } := I1.kept fun b o e => Heap.get?_push_of_some _ e
  refine call_list_range (n := n) (I1.ok.hd hcalm) (IsRange.new ..) (small_one (by omega) (by omega) (by omega) (by omega)) (by rw [rangeSize_one]; split <;> omega) (by omega) fun h' tk acc' c' hk hS hacc => ?_
  have hf := I2.hok.fresh (Nat.le_refl _)
  refine ⟨.ref _, _, I2.laid (t' := tk) (o := .lst ((List.range n).map fun (i : Nat) => V.int (i : Int))) hk (Nat.le_refl _) ?_, rfl, q _ hf⟩
  obtain ⟨hsz, hit⟩ := hacc
  refine ⟨by rw [List.length_map, List.length_range]; exact Nat.le_of_lt (small1000 hn), acc'.toList, c', ?_, by rw [hS]⟩
  refine vals_of (by rw [List.length_map, List.length_range, Array.length_toList, hsz]) fun j v hv => ?_
  have hv' : acc'[j]? = some v := by simpa using hv
  obtain ⟨t', e⟩ := hit j v hv'
  have hj : j < n := by
    have := (Array.getElem?_eq_some_iff.mp hv').1
    omega
  refine ⟨.int (j : Int), by rw [List.getElem?_map, List.getElem?_range hj]; rfl, t', ?_⟩
  rw [e]
  congr 1
  omega
end
end L2
namespace L2
open PySem PySem.Spec PyProof.Rows
inductive Dat where
  | int (i : Int)
  | str (x : Str)
  | tup (ds : List Dat)
  | lst (ds : List Dat)
  | dct (ks : List (Str × Dat))
mutual
noncomputable def Da (H : Hp) : Dat → V → Prop
  | .int i, v => v = .int i
  | .str x, v => v = .str x
  | .tup ds, v => ∃ p xs, v = .ref p ∧ H p = some (.tup xs) ∧ Das H ds xs
  | .lst ds, v => ∃ p xs, v = .ref p ∧ H p = some (.lst xs) ∧ Das H ds xs
  | .dct ks, v => ∃ p l, v = .ref p ∧ H p = some (.dK l) ∧ Dak H ks l
noncomputable def Das (H : Hp) : List Dat → List V → Prop
  | [], xs => xs = []
  | d :: ds, xs => ∃ x r, xs = x :: r ∧ Da H d x ∧ Das H ds r
noncomputable def Dak (H : Hp) : List (Str × Dat) → List (Key × V) → Prop
  | [], l => l = []
  | (k, d) :: ks, l => ∃ x r, l = (.inr k, x) :: r ∧ Da H d x ∧ Dak H ks r
end
mutual
noncomputable def Dat.dp : Dat → Nat
  | .int _ => 0
  | .str _ => 0
  | .tup ds => 1 + dps ds
  | .lst ds => 1 + dps ds
  | .dct ks => 1 + dpk ks
noncomputable def dps : List Dat → Nat
  | [] => 0
  | d :: ds => max d.dp (dps ds)
noncomputable def dpk : List (Str × Dat) → Nat
  | [] => 0
  | (_, d) :: ks => max d.dp (dpk ks)
end
example (H : Hp) (i : Int) (v : V) : Da H (.int i) v = (v = .int i) := rfl
example (H : Hp) (ds : List Dat) (v : V) : Da H (.tup ds) v = (∃ p xs, v = .ref p ∧ H p = some (.tup xs) ∧ Das H ds xs) := rfl
mutual
theorem Da.mono {H H' : Hp} (s : Same H H') : ∀ {d : Dat} {v : V}, Da H d v → Da H' d v
  | .int _, _, h => h
  | .str _, _, h => h
  | .tup _, _, ⟨p, xs, e, h, q⟩ => ⟨p, xs, e, s _ _ h, Das.mono s q⟩
  | .lst _, _, ⟨p, xs, e, h, q⟩ => ⟨p, xs, e, s _ _ h, Das.mono s q⟩
  | .dct _, _, ⟨p, l, e, h, q⟩ => ⟨p, l, e, s _ _ h, Dak.mono s q⟩
theorem Das.mono {H H' : Hp} (s : Same H H') : ∀ {ds : List Dat} {xs : List V}, Das H ds xs → Das H' ds xs
  | [], _, h => h
  | _ :: _, _, ⟨x, r, e, h, q⟩ => ⟨x, r, e, Da.mono s h, Das.mono s q⟩
theorem Dak.mono {H H' : Hp} (s : Same H H') : ∀ {ks : List (Str × Dat)} {l : List (Key × V)}, Dak H ks l → Dak H' ks l
  | [], _, h => h
  | (_, _) :: _, _, ⟨x, r, e, h, q⟩ => ⟨x, r, e, Da.mono s h, Dak.mono s q⟩
end
theorem Das.len {H : Hp} : ∀ {ds : List Dat} {xs : List V}, Das H ds xs → xs.length = ds.length
  | [], _, h => by cases h; rfl
  | _ :: _, _, ⟨x, r, e, _, q⟩ => by rw [e, List.length_cons, List.length_cons, Das.len q]
theorem Das.get {H : Hp} : ∀ {ds : List Dat} {xs : List V} {j : Nat} {x : V}, Das H ds xs → xs[j]? = some x → ∃ d, ds[j]? = some d ∧ Da H d x
  | [], _, _, _, h, e => by cases h; simp at e
  | d :: _, _, 0, x, ⟨y, r, e, h, q⟩, g => by subst e; simp at g; subst g; exact ⟨d, rfl, h⟩
  | d :: ds, _, j + 1, x, ⟨y, r, e, h, q⟩, g => by
    subst e
    obtain ⟨d', g1, g2⟩ := Das.get (j := j) q (by simpa using g)
    exact ⟨d', by simpa using g1, g2⟩
theorem Dak.len {H : Hp} : ∀ {ks : List (Str × Dat)} {l : List (Key × V)}, Dak H ks l → l.length = ks.length
  | [], _, h => by cases h; rfl
  | (_, _) :: _, _, ⟨x, r, e, _, q⟩ => by rw [e, List.length_cons, List.length_cons, Dak.len q]
theorem Dak.keys {H : Hp} : ∀ {ks : List (Str × Dat)} {l : List (Key × V)}, Dak H ks l → l.map (·.1) = ks.map fun k => Sum.inr k.1
  | [], _, h => by cases h; rfl
  | (_, _) :: _, _, ⟨x, r, e, _, q⟩ => by rw [e, List.map_cons, List.map_cons, Dak.keys q]
theorem dps_mem : ∀ {ds : List Dat} {d : Dat}, d ∈ ds → d.dp ≤ dps ds
  | e :: ds, d, h => by
    rcases List.mem_cons.mp h with rfl | h
    · exact Nat.le_max_left _ _
    · exact Nat.le_trans (dps_mem h) (Nat.le_max_right _ _)
theorem Dak.val {H : Hp} : ∀ {ks : List (Str × Dat)} {l : List (Key × V)} {k : Str} {d : Dat}, (ks.map (·.1)).Nodup → Dak H ks l → (k, d) ∈ ks → ∃ x, valV l (.inr k) = some x ∧ Da H d x
  | (k0, d0) :: ks, _, k, d, nd, ⟨x, r, e, h, q⟩, hm => by
    subst e
    rw [List.map_cons, List.nodup_cons] at nd
    rcases List.mem_cons.mp hm with z | hm
    · cases z
      exact ⟨x, valV_pos rfl, h⟩
    · obtain ⟨y, g1, g2⟩ := Dak.val nd.2 q hm
      refine ⟨y, ?_, g2⟩
      rw [valV_neg]
      · exact g1
      · intro z
        have : k0 = k := Sum.inr.inj z
        subst this
        exact nd.1 (List.mem_map.mpr ⟨_, hm, rfl⟩)
theorem Dak.none {H : Hp} : ∀ {ks : List (Str × Dat)} {l : List (Key × V)} {k : Str}, Dak H ks l → k ∉ ks.map (·.1) → valV l (.inr k) = none
  | [], _, _, h, _ => by cases h; rfl
  | (k0, d0) :: ks, _, k, ⟨x, r, e, h, q⟩, hn => by
    subst e
    rw [List.map_cons, List.mem_cons, not_or] at hn
    rw [valV_neg]
    · exact Dak.none q hn.2
    · intro z
      exact hn.1 (Sum.inr.inj z).symm
mutual
noncomputable def Dat.nd : Dat → Prop
  | .int _ => True
  | .str _ => True
  | .tup ds => nds ds
  | .lst ds => nds ds
  | .dct ks => (ks.map (·.1)).Nodup ∧ ndk ks
noncomputable def nds : List Dat → Prop
  | [] => True
  | d :: ds => d.nd ∧ nds ds
noncomputable def ndk : List (Str × Dat) → Prop
  | [] => True
  | (_, d) :: ks => d.nd ∧ ndk ks
end
section
variable {X : Cx} {pins : List (Addr × Obj)} {σ : St} {H : Hp} {s : Shared}
theorem allT (n : Nat) : (List.range n).all (fun _ => true) = true := by simp
theorem seq_eq {A : Around} {xs ys : List V} {its jts : List Value} {ds : List Dat} (hx : Das H ds xs) (hy : Das H ds ys) (r1 : Vals xs its) (r2 : Vals ys jts)
    (ih : ∀ d ∈ ds, ∀ x y u v, Da H d x → Da H d y → RelV x u → RelV y v → SeqAt.EqAt A s u v true) :
    its.toArray.size = ds.length ∧ jts.toArray.size = ds.length ∧ ∀ j (g1 : j < its.toArray.size) (g2 : j < jts.toArray.size), SeqAt.EqAt A s its.toArray[j] jts.toArray[j] ((fun _ => true) j) := by
  have l1 : its.toArray.size = ds.length := by rw [List.size_toArray, ← r1.length, hx.len]
  have l2 : jts.toArray.size = ds.length := by rw [List.size_toArray, ← r2.length, hy.len]
  refine ⟨l1, l2, fun j g1 g2 => ?_⟩
  have j1 : j < xs.length := by rw [hx.len, ← l1]; exact g1
  have j2 : j < ys.length := by rw [hy.len, ← l2]; exact g2
  obtain ⟨k1, e1, i1⟩ := hx.get (List.getElem?_eq_getElem j1)
  obtain ⟨k2, e2, i2⟩ := hy.get (List.getElem?_eq_getElem j2)
  rw [e1] at e2
  cases e2
  obtain ⟨u1, a1, b1⟩ := r1.get (List.getElem?_eq_getElem j1)
  obtain ⟨u2, a2, b2⟩ := r2.get (List.getElem?_eq_getElem j2)
  have c1 : its.toArray[j] = u1 := by
    have := (List.getElem?_eq_some_iff.mp a1).2
    simpa using this
  have c2 : jts.toArray[j] = u2 := by
    have := (List.getElem?_eq_some_iff.mp a2).2
    simpa using this
  rw [c1, c2]
  exact ih k1 (List.mem_of_getElem? e1) _ _ _ _ i1 i2 b1 b2
theorem rc_dict {A : Around} {p q : Addr} {l l' : List (Key × V)} {ks : List (Str × Dat)} (I : Inv X pins σ H s) (hp : H p = some (.dK l)) (hq : H q = some (.dK l')) (h1 : Dak H ks l) (h2 : Dak H ks l') (nd : (ks.map (·.1)).Nodup) (hu : A.units < cLine)
    (ih : ∀ k d, (k, d) ∈ ks → ∀ x y u v, Da H d x → Da H d y → RelV x u → RelV y v → SeqAt.EqAt A.in1 s u v true) :
    (∀ (Q : Value → Shared → Prop) (E : Value → Shared → Prop), Q (.bool true) s → wpAny (model X.prog X.w) A (compareOp .Eq (.ref p) (.ref q)) Q E s) ∧ (∀ (Q : Value → Shared → Prop) (E : Value → Shared → Prop), Q (.bool false) s → wpAny (model X.prog X.w) A (compareOp .NotEq (.ref p) (.ref q)) Q E s) := by
  obtain ⟨_, s1, vs, rel, dd⟩ := dk_of I.hok hp
  obtain ⟨_, s2, vs', rel', dd'⟩ := dk_of I.hok hq
  have hl : vs.length = vs'.length := by rw [← kv_len rel, ← kv_len rel', h1.len, h2.len]
  have hits : PySem.W.KeqHits A.in1 s vs' vs true := by
    have go : ∀ {ms : List (Str × Dat)} {m : List (Key × V)} {ws : List (Key × Value)}, (∀ x ∈ ms, x ∈ ks) → Dak H ms m → KV m ws → PySem.W.KeqHits A.in1 s vs' ws true := by
      intro ms
      induction ms with
      | nil =>
        intro m ws _ hm hr
        cases hm
        cases hr
        exact .nil
      | cons kd ms ihm =>
        intro m ws hsub hm hr
        obtain ⟨k, d⟩ := kd
        obtain ⟨x, r, rfl, hx, hr'⟩ := hm
        cases hr with
        | @cons a b as bs hab t =>
          obtain ⟨y, hy1, hy2⟩ := h2.val nd (hsub _ List.mem_cons_self)
          have rv := rel'.val (Sum.inr k)
          rw [hy1] at rv
          obtain ⟨w', hw, rw'⟩ := RelO.some_of rv
          obtain ⟨b1, b2⟩ := b
          have hb1 : Sum.inr k = b1 := hab.1
          subst hb1
          have := ih k d (hsub _ List.mem_cons_self) x y b2 w' hx hy2 hab.2 rw'
          have e : true = (true && true) := rfl
          rw [e]
          exact .hit hw this (ihm (fun x hx => hsub x (List.mem_cons_of_mem _ hx)) hr' t)
    exact go (fun x hx => hx) h1 rel
  refine ⟨fun Q E h => PySem.W.keq_eq s1 s2 dd dd' hu (fun _ => hits) ?_, fun Q E h => PySem.W.keq_ne s1 s2 dd dd' hu (fun _ => hits) ?_⟩
  · rw [hl, beq_self_eq_true]; exact h
  · rw [hl, beq_self_eq_true]; exact h
end
end L2
set_option maxHeartbeats 400000
namespace L2
open PySem PySem.Spec PyProof.Rows
mutual
noncomputable def Dat.flat : Dat → Prop
  | .int _ => True
  | .str _ => True
  | .tup ds => flats ds
  | .lst ds => flats ds
  | .dct _ => False
noncomputable def flats : List Dat → Prop
  | [] => True
  | d :: ds => d.flat ∧ flats ds
end
section
variable {X : Cx} {pins : List (Addr × Obj)} {σ : St} {H : Hp} {s : Shared}
theorem in1_u (A : Around) : A.in1.units = A.units + 1 := rfl
theorem all_and (n : Nat) : ((List.range (min n n)).all (fun _ => true) && n == n) = true := by simp
theorem flats_mem : ∀ {ds : List Dat} {d : Dat}, flats ds → d ∈ ds → d.flat
  | e :: ds, d, h, hm => by
    rcases List.mem_cons.mp hm with z | hm
    · rw [z]; exact h.1
    · exact flats_mem h.2 hm
theorem eqDa_n (I : Inv X pins σ H s) (n : Nat) : ∀ (d : Dat) (A : Around) (x y : V) (u v : Value), d.dp ≤ n → d.flat → Da H d x → Da H d y → RelV x u → RelV y v → A.units + d.dp < cLine → SeqAt.EqAt A s u v true := by
  induction n with
  | zero =>
    intro d A x y u v hn hf hx hy ru rv hl
    cases d with
    | int i =>
      have ex : x = .int i := hx
      have ey : y = .int i := hy
      subst ex; subst ey
      obtain ⟨t, rfl⟩ := ru
      obtain ⟨t', rfl⟩ := rv
      have := SeqAt.EqAt.int_int (A := A) (s := s) i t i t'
      rwa [beq_self_eq_true] at this
    | str z =>
      have ex : x = .str z := hx
      have ey : y = .str z := hy
      subst ex; subst ey
      have := strAt A s ru rv
      rwa [beq_self_eq_true] at this
    | tup ds => simp only [Dat.dp] at hn; omega
    | lst ds => simp only [Dat.dp] at hn; omega
    | dct ks => exact hf.elim
  | succ n ih =>
    intro d A x y u v hn hf hx hy ru rv hl
    cases d with
    | int i =>
      have ex : x = .int i := hx
      have ey : y = .int i := hy
      subst ex; subst ey
      obtain ⟨t, rfl⟩ := ru
      obtain ⟨t', rfl⟩ := rv
      have := SeqAt.EqAt.int_int (A := A) (s := s) i t i t'
      rwa [beq_self_eq_true] at this
    | str z =>
      have ex : x = .str z := hx
      have ey : y = .str z := hy
      subst ex; subst ey
      have := strAt A s ru rv
      rwa [beq_self_eq_true] at this
    | tup ds =>
      have hx' : ∃ p xs, x = .ref p ∧ H p = some (.tup xs) ∧ Das H ds xs := hx
      have hy' : ∃ p xs, y = .ref p ∧ H p = some (.tup xs) ∧ Das H ds xs := hy
      have hf' : flats ds := hf
      obtain ⟨p, xs, rfl, h1, q1⟩ := hx'
      obtain ⟨p', ys, rfl, h2, q2⟩ := hy'
      have e1 : u = .ref p := ru
      have e2 : v = .ref p' := rv
      subst e1; subst e2
      by_cases z : p = p'
      · subst z; exact SeqAt.EqAt.same _
      · simp only [Dat.dp] at hl hn
        obtain ⟨_, its, r1, t1⟩ := (show ObjOk X.prog X.w H s.heap p (.tup xs) from I.hok p _ h1)
        obtain ⟨_, jts, r2, t2⟩ := (show ObjOk X.prog X.w H s.heap p' (.tup ys) from I.hok p' _ h2)
        obtain ⟨l1, l2, he⟩ := seq_eq (A := A.in1) (s := s) q1 q2 r1 r2 fun d hd x y u v a b c e => ih d A.in1 x y u v (by have := dps_mem hd; omega) (flats_mem hf' hd) a b c e (by have := dps_mem hd; rw [in1_u]; omega)
        have q := SeqAt.RcAt.tuples (A := A) t1 t2 (by omega) he
        rw [l1, l2, all_and] at q
        exact SeqAt.EqAt.of_refs z q
    | lst ds =>
      have hx' : ∃ p xs, x = .ref p ∧ H p = some (.lst xs) ∧ Das H ds xs := hx
      have hy' : ∃ p xs, y = .ref p ∧ H p = some (.lst xs) ∧ Das H ds xs := hy
      have hf' : flats ds := hf
      obtain ⟨p, xs, rfl, h1, q1⟩ := hx'
      obtain ⟨p', ys, rfl, h2, q2⟩ := hy'
      have e1 : u = .ref p := ru
      have e2 : v = .ref p' := rv
      subst e1; subst e2
      by_cases z : p = p'
      · subst z; exact SeqAt.EqAt.same _
      · simp only [Dat.dp] at hl hn
        obtain ⟨its, r1, t1, _⟩ := I.list (SqL.of h1)
        obtain ⟨jts, r2, t2, _⟩ := I.list (SqL.of h2)
        obtain ⟨l1, l2, he⟩ := seq_eq (A := A.in1) (s := s) q1 q2 r1 r2 fun d hd x y u v a b c e => ih d A.in1 x y u v (by have := dps_mem hd; omega) (flats_mem hf' hd) a b c e (by have := dps_mem hd; rw [in1_u]; omega)
        have q := SeqAt.RcAt.lists (A := A) t1.isList t2.isList (by rw [l1, l2]) (by omega) he
        rw [l1, allT] at q
        exact SeqAt.EqAt.of_refs z q
    | dct ks => exact (show False from hf).elim
theorem eqDa (I : Inv X pins σ H s) {d : Dat} {A : Around} {x y : V} {u v : Value} (hf : d.flat) (hx : Da H d x) (hy : Da H d y) (ru : RelV x u) (rv : RelV y v) (hl : A.units + d.dp < cLine) : SeqAt.EqAt A s u v true :=
  eqDa_n I d.dp d A x y u v (Nat.le_refl _) hf hx hy ru rv hl
end
end L2
namespace L2
open PySem PySem.Spec PyProof.Rows
noncomputable def Alike (prog : Program) (w : World) (A : Around) (s : Shared) (y x : Value) : Prop := ∀ (E : Value → Shared → Prop) (Q : Bool → Shared → Prop), Q true s → wpAny (model prog w) A (eqBool y x) Q E s
theorem Alike.of {prog : Program} {w : World} {A : Around} {s : Shared} {y x : Value} (h : SeqAt.EqAt A s y x true) : Alike prog w A s y x := fun E Q q => h prog w E Q q
theorem Alike.refs {prog : Program} {w : World} {A : Around} {s : Shared} {a c : Addr} (h : a ≠ c → ∀ (Q : Value → Shared → Prop) (E : Value → Shared → Prop), Q (.bool true) s → wpAny (model prog w) A (compareOp .Eq (.ref a) (.ref c)) Q E s) : Alike prog w A s (.ref a) (.ref c) := fun E Q q => by
  by_cases z : a = c
  · rw [z]; exact SeqAt.EqAt.same _ prog w E Q q
  · have hb : (Value.ref a == Value.ref c) = false := beq_eq_false_iff_ne.mpr fun k => z (by injection k)
    show wpAny _ _ (eqBool (.ref a) (.ref c)) _ _ _
    unfold eqBool
    refine wpAny_holding (wpAny_ite_split (fun k => by rw [hb] at k; cases k) fun _ => wpAny_bind (h z _ _ (wpAny_truthy_bool q)))
section
variable {prog : Program} {w : World}
theorem tup_ne_alike (l b : Addr) (xs ys : Array Value) (n1 n2 : Nat) (d1 d2 : Option Addr) (sl1 sl2 : Array (Option Value)) :
    MeetsIn prog w (Builtin.«tuple.__ne__» ⟨[.ref l, .ref b], []⟩)
      (fun A R s => s.heap.get? l = some ⟨.type "tuple", d1, .seq xs n1, sl1⟩ ∧ s.heap.get? b = some ⟨.type "tuple", d2, .seq ys n2, sl2⟩ ∧ xs.size = ys.size ∧
        (∀ p ∈ xs.toList.zip ys.toList, Alike prog w A.in1 s p.1 p.2) ∧ R (.ok (.ret (.bool false))) s) :=
  MeetsIn.of_wp fun A R s h => by
    obtain ⟨sh, sg, sd, st, so⟩ := s
    obtain ⟨e1, e2, hz, hall, hR⟩ := h
    have sub := AutoSeq1.sub_tuple_tuple
    wp_walk using wpAny_loadPart' e1, wpAny_loadPart' e2, wpAny_forIn_list _ (fun rest c s' => c.1 = none ∧ s' = ⟨sh, sg, sd, st, so⟩ ∧ ∀ p ∈ rest, Alike prog w A.in1 ⟨sh, sg, sd, st, so⟩ p.1 p.2) _
    case turn =>
      rintro ⟨y, x⟩ rest c s' ⟨hc, rfl, ha⟩
      refine wpAny_bind (ha (y, x) List.mem_cons_self _ _ ?_)
      wp_walk
      exact ⟨rfl, rfl, fun p hp => ha p (List.mem_cons_of_mem _ hp)⟩
    case fin =>
      rintro ⟨c1, c2⟩ s' ⟨hc, rfl, _⟩
      simp only at hc
      subst hc
      wp_walk
      exact ⟨_, rfl, by simpa [Builtin.Tuple.tupleCompareSizes, bne, hz] using hR⟩
    case h =>
      exact ⟨rfl, rfl, hall⟩
theorem tup_eq_alike (l b : Addr) (xs ys : Array Value) (n1 n2 : Nat) (d1 d2 : Option Addr) (sl1 sl2 : Array (Option Value)) :
    MeetsIn prog w (Builtin.«tuple.__eq__» ⟨[.ref l, .ref b], []⟩)
      (fun A R s => s.heap.get? l = some ⟨.type "tuple", d1, .seq xs n1, sl1⟩ ∧ s.heap.get? b = some ⟨.type "tuple", d2, .seq ys n2, sl2⟩ ∧ xs.size = ys.size ∧
        (∀ p ∈ xs.toList.zip ys.toList, Alike prog w A.in1 s p.1 p.2) ∧ R (.ok (.ret (.bool true))) s) :=
  MeetsIn.of_wp fun A R s h => by
    obtain ⟨sh, sg, sd, st, so⟩ := s
    obtain ⟨e1, e2, hz, hall, hR⟩ := h
    have sub := AutoSeq1.sub_tuple_tuple
    wp_walk using wpAny_loadPart' e1, wpAny_loadPart' e2, wpAny_forIn_list _ (fun rest c s' => c.1 = none ∧ s' = ⟨sh, sg, sd, st, so⟩ ∧ ∀ p ∈ rest, Alike prog w A.in1 ⟨sh, sg, sd, st, so⟩ p.1 p.2) _
    case turn =>
      rintro ⟨y, x⟩ rest c s' ⟨hc, rfl, ha⟩
      refine wpAny_bind (ha (y, x) List.mem_cons_self _ _ ?_)
      wp_walk
      exact ⟨rfl, rfl, fun p hp => ha p (List.mem_cons_of_mem _ hp)⟩
    case fin =>
      rintro ⟨c1, c2⟩ s' ⟨hc, rfl, _⟩
      simp only at hc
      subst hc
      wp_walk
      exact ⟨_, rfl, by simpa [Builtin.Tuple.tupleCompareSizes, hz] using hR⟩
    case h =>
      exact ⟨rfl, rfl, hall⟩
end
end L2
namespace L2
open PySem PySem.Spec PyProof.Rows
structure Wd where
  many : Nat
  kinds : List (Str × List Nat)
  pairs : List (Str × List (Nat × Nat))
  homes : List (Str × Nat)
noncomputable def natsD (ps : List Nat) : Dat := .lst (ps.map fun (n : Nat) => .int (n : Int))
noncomputable def pairD (q : Nat × Nat) : Dat := .tup [.int (q.1 : Int), .int (q.2 : Int)]
noncomputable def pairsD (qs : List (Nat × Nat)) : Dat := .lst (qs.map pairD)
noncomputable def Wd.kindsK (W : Wd) : List (Str × Dat) := W.kinds.map fun x => (x.1, natsD x.2)
noncomputable def Wd.pairsK (W : Wd) : List (Str × Dat) := W.pairs.map fun x => (x.1, pairsD x.2)
noncomputable def Wd.homesK (W : Wd) : List (Str × Dat) := W.homes.map fun x => (x.1, .int (x.2 : Int))
structure Wd.nd (W : Wd) : Prop where
  k : (W.kinds.map (·.1)).Nodup
  p : (W.pairs.map (·.1)).Nodup
  h : (W.homes.map (·.1)).Nodup
noncomputable def IsW (H : Hp) (W : Wd) (v : V) : Prop := ∃ (p dk dp dh : Addr) (lk lp lh : List (Key × V)), v = .ref p ∧ H p = some (.tup [.int (W.many : Int), .ref dk, .ref dp, .ref dh]) ∧
  H dk = some (.dK lk) ∧ Dak H W.kindsK lk ∧ H dp = some (.dK lp) ∧ Dak H W.pairsK lp ∧ H dh = some (.dK lh) ∧ Dak H W.homesK lh
theorem IsW.mono {H H' : Hp} (s : Same H H') {W : Wd} {v : V} (h : IsW H W v) : IsW H' W v := by
  obtain ⟨p, dk, dp, dh, lk, lp, lh, e, h0, h1, g1, h2, g2, h3, g3⟩ := h
  exact ⟨p, dk, dp, dh, lk, lp, lh, e, s _ _ h0, s _ _ h1, g1.mono s, s _ _ h2, g2.mono s, s _ _ h3, g3.mono s⟩
theorem flat_nats (ps : List Nat) : (natsD ps).flat := by
  show flats (ps.map fun (n : Nat) => Dat.int (n : Int))
  induction ps with
  | nil => exact trivial
  | cons a r ih => exact ⟨trivial, ih⟩
theorem flat_pairs (qs : List (Nat × Nat)) : (pairsD qs).flat := by
  show flats (qs.map pairD)
  induction qs with
  | nil => exact trivial
  | cons a r ih => exact ⟨⟨trivial, trivial, trivial⟩, ih⟩
theorem dps_le {ds : List Dat} {n : Nat} (h : ∀ d ∈ ds, d.dp ≤ n) : dps ds ≤ n := by
  induction ds with
  | nil => exact Nat.zero_le _
  | cons a r ih => exact Nat.max_le.mpr ⟨h a List.mem_cons_self, ih fun d hd => h d (List.mem_cons_of_mem _ hd)⟩
theorem dp_nats (ps : List Nat) : (natsD ps).dp ≤ 2 := by
  have : dps (ps.map fun (n : Nat) => Dat.int (n : Int)) ≤ 1 := dps_le fun d hd => by
    obtain ⟨n, _, rfl⟩ := List.mem_map.mp hd
    exact Nat.zero_le _
  show 1 + _ ≤ 2
  omega
theorem dp_pairs (qs : List (Nat × Nat)) : (pairsD qs).dp ≤ 3 := by
  have : dps (qs.map pairD) ≤ 2 := dps_le fun d hd => by
    obtain ⟨n, _, rfl⟩ := List.mem_map.mp hd
    show 1 + _ ≤ 2
    have : dps [Dat.int (n.1 : Int), Dat.int (n.2 : Int)] ≤ 1 := dps_le fun d hd => by
      simp only [List.mem_cons, List.not_mem_nil, or_false] at hd
      rcases hd with rfl | rfl <;> exact Nat.zero_le _
    omega
  show 1 + _ ≤ 3
  omega
section
variable {X : Cx} {pins : List (Addr × Obj)} {σ : St} {H : Hp} {s : Shared}
theorem keys_map {α : Type} (l : List (Str × α)) (f : α → Dat) : ((l.map fun x => (x.1, f x.2)).map (·.1)) = l.map (·.1) := by
  rw [List.map_map]; rfl
theorem vals4 {x y z a : V} {us : List Value} (r : Vals [x, y, z, a] us) : ∃ u0 u1 u2 u3, us = [u0, u1, u2, u3] ∧ RelV x u0 ∧ RelV y u1 ∧ RelV z u2 ∧ RelV a u3 := by
  cases r with
  | cons r0 r =>
    obtain ⟨u1, u2, u3, rfl, r1, r2, r3⟩ := vals3 r
    exact ⟨_, _, _, _, rfl, r0, r1, r2, r3⟩
theorem dict_alike {A : Around} {p q : Addr} {l l' : List (Key × V)} {ks : List (Str × Dat)} (I : Inv X pins σ H s) (hp : H p = some (.dK l)) (hq : H q = some (.dK l')) (h1 : Dak H ks l) (h2 : Dak H ks l') (nd : (ks.map (·.1)).Nodup) (hu : A.units + 8 < cLine)
    (hf : ∀ k d, (k, d) ∈ ks → d.flat ∧ d.dp ≤ 4) : Alike X.prog X.w A s (.ref p) (.ref q) :=
  Alike.refs fun _ => (rc_dict I hp hq h1 h2 nd (by omega) fun k d hkd x y u v a b c e => eqDa I (hf k d hkd).1 a b c e (by have := (hf k d hkd).2; rw [in1_u]; omega)).1
theorem worlds_alike {A : Around} (I : Inv X pins σ H s) {W : Wd} {x y : V} {u v : Value} (nd : W.nd) (hx : IsW H W x) (hy : IsW H W y) (ru : RelV x u) (rv : RelV y v) (hu : A.units + 16 < cLine) :
    (∀ (Q : Value → Shared → Prop) (E : Value → Shared → Prop), Q (.bool false) s → wpAny (model X.prog X.w) A (compareOp .NotEq u v) Q E s) ∧ (∀ (Q : Value → Shared → Prop) (E : Value → Shared → Prop), Q (.bool true) s → wpAny (model X.prog X.w) A (compareOp .Eq u v) Q E s) := by
  obtain ⟨p, dk, dp, dh, lk, lp, lh, rfl, h0, h1, g1, h2, g2, h3, g3⟩ := hx
  obtain ⟨p', dk', dp', dh', lk', lp', lh', rfl, h0', h1', g1', h2', g2', h3', g3'⟩ := hy
  cases ru
  cases rv
  obtain ⟨_, its, r1, t1⟩ := (show ObjOk X.prog X.w H s.heap p _ from I.hok p _ h0)
  obtain ⟨_, jts, r2, t2⟩ := (show ObjOk X.prog X.w H s.heap p' _ from I.hok p' _ h0')
  obtain ⟨a0, a1, a2, a3, rfl, ⟨ta, rfl⟩, b1, b2, b3⟩ := vals4 r1
  obtain ⟨c0, c1, c2, c3, rfl, ⟨tc, rfl⟩, d1, d2, d3⟩ := vals4 r2
  cases b1; cases b2; cases b3; cases d1; cases d2; cases d3
  have e0 : Alike X.prog X.w A.in1 s (.int (W.many : Int) ta) (.int (W.many : Int) tc) := Alike.of (by
    have := SeqAt.EqAt.int_int (A := A.in1) (s := s) (W.many : Int) ta (W.many : Int) tc
    rwa [beq_self_eq_true] at this)
  have e1 := dict_alike (A := A.in1) I h1 h1' g1 g1' (by rw [Wd.kindsK, keys_map]; exact nd.k) (by rw [in1_u]; omega) fun k d hkd => by
    obtain ⟨x, _, e⟩ := List.mem_map.mp hkd
    cases e
    exact ⟨flat_nats _, Nat.le_trans (dp_nats _) (by decide)⟩
  have e2 := dict_alike (A := A.in1) I h2 h2' g2 g2' (by rw [Wd.pairsK, keys_map]; exact nd.p) (by rw [in1_u]; omega) fun k d hkd => by
    obtain ⟨x, _, e⟩ := List.mem_map.mp hkd
    cases e
    exact ⟨flat_pairs _, Nat.le_trans (dp_pairs _) (by decide)⟩
  have e3 := dict_alike (A := A.in1) I h3 h3' g3 g3' (by rw [Wd.homesK, keys_map W.homes (fun n => Dat.int (n : Int))]; exact nd.h) (by rw [in1_u]; omega) fun k d hkd => by
    obtain ⟨x, _, e⟩ := List.mem_map.mp hkd
    cases e
    exact ⟨trivial, Nat.zero_le _⟩
  obtain ⟨o1, ho1, hc1, n1, hd1⟩ := t1
  obtain ⟨o2, ho2, hc2, n2, hd2⟩ := t2
  obtain ⟨k1, m1, q1, f1⟩ := o1
  obtain ⟨k2, m2, q2, f2⟩ := o2
  simp only at hc1 hd1 hc2 hd2
  subst hc1; subst hd1; subst hc2; subst hd2
  have al : ∀ z ∈ ([Value.int (W.many : Int) ta, .ref dk, .ref dp, .ref dh].toArray.toList.zip [Value.int (W.many : Int) tc, .ref dk', .ref dp', .ref dh'].toArray.toList), Alike X.prog X.w A.in1 s z.1 z.2 := by
    intro z hz
    have hz' : z ∈ [(Value.int (W.many : Int) ta, Value.int (W.many : Int) tc), (.ref dk, .ref dk'), (.ref dp, .ref dp'), (.ref dh, .ref dh')] := hz
    simp only [List.mem_cons, List.not_mem_nil, or_false] at hz'
    rcases hz' with rfl | rfl | rfl | rfl
    · exact e0
    · exact e1
    · exact e2
    · exact e3
  constructor
  · intro Q E hq
    refine wpAny_richCompare_same_room (op := .NotEq) (T := "tuple") ⟨_, ho1, rfl⟩ ⟨_, ho2, rfl⟩ PySem.F.slot_tuple_ne (call_meetsIn PySem.F.slot_tuple_ne ⟨_, ho1, rfl⟩ PySem.F.entry_tuple_ne (PySem.F.args_tuple_ne_2 _ _) (tup_ne_alike p p' _ _ n1 n2 m1 m2 f1 f2) ⟨ho1, ho2, rfl, al, ?_⟩) (by omega)
    exact ⟨fun z => (nomatch z), hq⟩
  · intro Q E hq
    refine wpAny_richCompare_same_room (op := .Eq) (T := "tuple") ⟨_, ho1, rfl⟩ ⟨_, ho2, rfl⟩ PySem.F.slot_tuple_eq (call_meetsIn PySem.F.slot_tuple_eq ⟨_, ho1, rfl⟩ PySem.F.entry_tuple_eq (PySem.F.args_tuple_eq_2 _ _) (tup_eq_alike p p' _ _ n1 n2 m1 m2 f1 f2) ⟨ho1, ho2, rfl, al, ?_⟩) (by omega)
    exact ⟨fun z => (nomatch z), hq⟩
end
section
variable {X : Cx}
noncomputable def rEqW : R2 := fun x y H Q => ∃ W : Wd, W.nd ∧ IsW H W x ∧ IsW H W y ∧ Q (.bl true) H
theorem op_eqW (hu : X.A.units + 64 < cLine) : OpR X (compareOp .Eq) rEqW := by
  intro pins s σ H x y v u Q I rx ry h
  obtain ⟨W, nd, h1, h2, q⟩ := h
  exact (worlds_alike I nd h1 h2 rx ry (by omega)).2 _ _ ⟨.bl true, H, I, rfl, q⟩
end
end L2
namespace L2
open PySem PySem.Spec PyProof.Rows
noncomputable def notStar : Expr → Bool
  | .Starred _ _ => false
  | _ => true
theorem star_ns {e : Expr} {es : List Expr} {env : Env} (h : notStar e = true) : starEach (e :: es) env = (false, eval e env) :: starEach es env := by
  cases e <;> first | (cases h; done) | (rw [starEach.eq_def])
theorem pa_consN {X : Cx} {e : Expr} {es : List Expr} {te : TE} {t : TA} (ha : PE X e te) (hr : PA X es t) (h : notStar e = true := by rfl) : PA X (e :: es) (tCons te t) := pa_cons ha hr (star_ns h)
end L2
set_option maxHeartbeats 1000000
namespace L2
open PySem PySem.Spec PyProof.Rows
noncomputable def KDict (K : PySem.W.Frag) (P : Program) (w : World) (a : Addr) (kvs : List (Key × V)) : Prop :=
  ∀ h : Heap, (∀ b o, K.lookup b = some o → h.get? b = some o) → ∃ vs, KV kvs vs ∧ h.DictOf (mixKind P w) a vs
noncomputable def tKGet (K : PySem.W.Frag) (P : Program) (w : World) (td ty : TE) : TE := fun σ H Q => td σ H fun x H1 => ty σ H1 fun y H2 => ∃ a kvs k v, x = .ref a ∧ y = kV k ∧ KDict K P w a kvs ∧ valV kvs k = some v ∧ Q v H2
theorem pe_kget {X : Cx} {o i : Expr} {pos : Pos} {td ty : TE} (ho : PE X o td) (hi : PE X i ty) (hs : NoSl i) : PE X (.Subscript o i pos) (tKGet X.K X.prog X.w td ty) := by
  intro pins s σ H Q I h
  refine subD_of PySem.F.slot_dict_getitem.lookup hs (thn (ho pins s σ H _ I h) fun u s1 ⟨x, H1, I1, rx, q1⟩ => thn (hi pins s1 σ H1 _ I1 q1) fun iv s2 ⟨y, H2, I2, ry, a, kvs, k, v, ex, ey, kd, l, q2⟩ => ?_)
  subst ex ey
  obtain rfl : u = Value.ref a := rx
  obtain ⟨vs, rel, dd⟩ := kd s2.heap I2.kIn
  obtain ⟨w', hw, rw'⟩ := RelO.some_of (v := v) (o := valueAt vs k) (by rw [← l]; exact rel.val k)
  exact ⟨dd.typeIs, wpAny_getItem_of (kV_is ry) dd.mapOf hw ⟨v, H2, I2.tok _, rw', q2⟩⟩
noncomputable def kdEnt (w : World) (e : Str × Tok × Value) : DictEntry := ⟨PyData.keyHash w.params e.1, .str e.1 e.2.1, e.2.2⟩
noncomputable def KdRel : List (Key × V) → List (Str × Tok × Value) → Prop := Paired fun kv e => kv.1 = Sum.inr e.1 ∧ RelV kv.2 e.2.2
theorem kd_pairs {P : Program} {w : World} : ∀ l : List (Str × Tok × Value), Pairs (mixKind P w) (l.map (kdEnt w)) (l.map fun e => (Sum.inr e.1, e.2.2))
  | [] => .nil
  | e :: l => .cons (kv := (Sum.inr e.1, e.2.2)) (keyIs_str e.1 e.2.1) rfl (kd_pairs l)
theorem kd_kv : ∀ {kvs : List (Key × V)} {l : List (Str × Tok × Value)}, KdRel kvs l → KV kvs (l.map fun e => (Sum.inr e.1, e.2.2))
  | _, _, .nil => .nil
  | _, _, .cons r t => .cons ⟨r.1, r.2⟩ (kd_kv t)
theorem kdict_mk {K : PySem.W.Frag} {P : Program} {w : World} {a : Addr} {kvs : List (Key × V)} {ep : Nat} (l : List (Str × Tok × Value)) (hl : K.lookup a = some { cls := .type "dict", dict := none, data := .dict (l.map (kdEnt w)).toArray ep, slots := #[] })
    (hr : KdRel kvs l) (hn : (l.map (·.1)).Nodup) : KDict K P w a kvs := fun h hk => by
  refine ⟨_, kd_kv hr, _, _, _, hk _ _ hl, ⟨rfl, rfl, rfl⟩, rfl, fun e he => ?_, ?_, ?_⟩
  · have he' : e ∈ l.map (kdEnt w) := by simpa using he
    obtain ⟨x, _, rfl⟩ := List.mem_map.mp he'
    exact ⟨Sum.inr x.1, keyIs_str x.1 x.2.1, rfl⟩
  · exact kd_pairs l
  · rw [List.map_map]
    have : (l.map ((fun x : Key × Value => x.1) ∘ fun e => (Sum.inr e.1, e.2.2))) = (l.map (·.1)).map Sum.inr := by
      rw [List.map_map]; rfl
    rw [this]
    exact List.Pairwise.map _ (fun a b hab e => hab (Sum.inr.inj e)) hn
end L2
namespace L2
open PySem
theorem standIn_led (t : SetTable) (n : Nat) : (t.standIn n).led = t.led := rfl
theorem orStandIn_led (t : SetTable) (n : Nat) : (t.orStandIn n).led = t.led := by
  unfold SetTable.orStandIn
  split
  · rfl
  · exact standIn_led t n
theorem layNew_led (t : SetTable) (es : Array (Int × Value)) (h : Int) (x : Value) : (layNew t es h x).2.1.led = t.led := by
  unfold layNew
  split
  · exact orStandIn_led _ _
  · exact standIn_led _ _
theorem relayAll_led (t : SetTable) (es : Array (Int × Value)) (n : Nat) : (relayAll t es n).2.1.led = t.led := by
  unfold relayAll
  split
  · rename_i t' order e
    have h : t'.led = t.led := by
      unfold SetTable.relaid SetTable.laid at e
      cases hl : SetTable.layClean (SetTable.sizeAbove n - 1) (es.map (·.1)) with
      | none => rw [hl] at e; cases e
      | some owner =>
        rw [hl] at e
        cases e
        rfl
    dsimp only
    split
    · exact h
    · exact standIn_led _ _
  · exact standIn_led _ _
theorem erase_perm {α : Type} : ∀ {l : List α} {i : Nat} (h : i < l.length), (l[i] :: l.eraseIdx i).Perm l
  | a :: l, 0, _ => List.Perm.refl _
  | a :: l, i + 1, h => by
    have hi : i < l.length := by simpa using h
    have ih := erase_perm (l := l) (i := i) hi
    show (l[i] :: a :: l.eraseIdx i).Perm (a :: l)
    exact (List.Perm.swap a l[i] _).trans (List.Perm.cons a ih)
theorem pick_go {α : Type} (next : Nat → Nat) : ∀ (fuel k : Nat) (left : List α) (out : Array α), left.length = fuel → (pickOrder.go next fuel k left out).toList.Perm (out.toList ++ left)
  | 0, k, left, out, h => by
    have : left = [] := List.eq_nil_of_length_eq_zero h
    subst this
    simp [pickOrder.go]
  | fuel + 1, k, left, out, h => by
    have hp : 0 < left.length := by omega
    have hi : next k % left.length < left.length := Nat.mod_lt _ hp
    unfold pickOrder.go
    rw [List.getElem?_eq_getElem hi]
    dsimp only
    refine (pick_go next fuel (k + 1) (left.eraseIdx (next k % left.length)) (out.push left[next k % left.length]) (by rw [List.length_eraseIdx_of_lt hi]; omega)).trans ?_
    rw [Array.toList_push, List.append_assoc]
    exact List.Perm.append_left _ (erase_perm hi)
theorem pickOrder_perm {α : Type} (next : Nat → Nat) (xs : Array α) : (pickOrder next xs).toList.Perm xs.toList := by
  have := pick_go next xs.size 0 xs.toList #[] (by simp)
  simpa [pickOrder] using this
end L2
namespace L2
open PySem PyProof.Rows
section
variable {prog : Program} {w : World} {A : Around} {E : Value → Shared → Prop} {s : Shared}
theorem wpAny_chooseOrder {n : Nat} {Q : Nat → Shared → Prop} (hn : n ≠ 0) (h : ∀ (i : Nat) (dr : _), i < n → Q i { s with drawn := dr }) : wpAny (model prog w) A (choose .order n) Q E s := by
  intro Γ p hΓ
  unfold choose
  rw [Sem.wp_choose]
  refine ⟨hn, ?_⟩
  have hi : (model prog w).w.draws .order (s.drawn.get .order) % n < n := Nat.mod_lt _ (Nat.pos_of_ne_zero hn)
  exact h _ _ hi
theorem wpAny_drawOrder {α : Type} : ∀ (n : Nat) (xs : List α) {s : Shared} {Q : List α → Shared → Prop}, xs.length ≤ n → (∀ (ys : List α) (dr : _), ys.Perm xs → Q ys { s with drawn := dr }) → wpAny (model prog w) A (drawOrder n xs) Q E s
  | 0, xs, s, Q, hl, h => by
    have : xs = [] := List.eq_nil_of_length_eq_zero (by omega)
    subst this
    unfold drawOrder
    exact wpAny_pure (by have := h [] s.drawn (List.Perm.refl _); exact this)
  | n + 1, [], s, Q, hl, h => by
    unfold drawOrder
    exact wpAny_pure (by have := h [] s.drawn (List.Perm.refl _); exact this)
  | n + 1, x :: xs, s, Q, hl, h => by
    unfold drawOrder
    refine wpAny_bind (wpAny_chooseOrder (by simp) fun i dr hi => ?_)
    rw [List.getElem?_eq_getElem hi]
    dsimp only
    refine wpAny_bind (wpAny_drawOrder n ((x :: xs).eraseIdx i) (by rw [List.length_eraseIdx_of_lt hi]; simp only [List.length_cons] at hl ⊢; omega) fun ys dr2 hp => ?_)
    exact wpAny_pure (h _ dr2 ((List.Perm.cons _ hp).trans (erase_perm hi)))
end
end L2
namespace L2
open PySem PyProof.Rows
theorem setWalk_eq (a : Addr) : setWalk a = (do
    let (es, epoch, t) ← setState a
    if ← setsByText then return pickOrder ((← ask).params.setOrder a epoch) es
    if (!t.plain && es.size > 1) then return (← drawOrder es.size es.toList).toArray
    let _ ← (if (!t.led && es.size > 1) then (unsupported "set:maker-not-led" : Sem Unit) else pure ())
    return es) := by
  first | rfl | (unfold setWalk; rfl)
section
variable {prog : Program} {w : World} {A : Around} {E : Value → Shared → Prop} {s : Shared}
theorem wpAny_setWalk {a : Addr} {o : Obj} {es : Array (Int × Value)} {ep : Nat} {t : SetTable} {Q : Array (Int × Value) → Shared → Prop}
    (ho : s.heap.get? a = some o) (hd : o.data = .set es ep t) (hf : t.fits es.size = true) (hled : t.led = !w.params.followText "set-order")
    (h : ∀ (ys : Array (Int × Value)) (dr : _), ys.toList.Perm es.toList → Q ys { s with drawn := dr }) : wpAny (model prog w) A (setWalk a) Q E s := by
  rw [setWalk_eq]
  refine wpAny_bind (wpAny_setState_of ho hd hf ?_)
  dsimp only
  unfold setsByText
  refine wpAny_bind (wpAny_bind (wpAny_askSetting (wpAny_pure ?_)))
  dsimp only
  by_cases hb : w.params.followText "set-order" = true
  · have hb' : (model prog w).w.params.followText "set-order" = true := hb
    rw [if_pos hb']
    refine wpAny_bind (wpAny_askSetting (wpAny_pure ?_))
    exact h _ s.drawn (pickOrder_perm _ _)
  · have hb' : ¬ (model prog w).w.params.followText "set-order" = true := hb
    rw [if_neg hb']
    by_cases hp : (!t.plain && decide (es.size > 1)) = true
    · rw [if_pos hp]
      refine wpAny_bind (wpAny_drawOrder es.size es.toList (by simp) fun ys dr hy => wpAny_pure (h _ dr (by simpa using hy)))
    · rw [if_neg hp]
      have hl : t.led = true := by rw [hled]; simpa using hb
      rw [hl]
      exact wpAny_bind (wpAny_pure (wpAny_pure (h es s.drawn (List.Perm.refl _))))
end
end L2
namespace L2
open PySem
noncomputable def Rise (xs : Array Nat) : Prop := ∀ i j (hi : i < xs.size) (hj : j < xs.size), i < j → xs[i] < xs[j]
structure CutBy (xs : Array Nat) (v p : Nat) : Prop where
  le : p ≤ xs.size
  lo : ∀ i (h : i < xs.size), i < p → xs[i] < v
  hi : ∀ i (h : i < xs.size), p ≤ i → v ≤ xs[i]
theorem below_go {xs : Array Nat} {v : Nat} (hr : Rise xs) : ∀ (fuel lo hi : Nat), hi - lo ≤ fuel → lo ≤ hi → hi ≤ xs.size →
    (∀ i (h : i < xs.size), i < lo → xs[i] < v) → (∀ i (h : i < xs.size), hi ≤ i → v ≤ xs[i]) → CutBy xs v (SetTable.below.go xs v fuel lo hi)
  | 0, lo, hi, hf, hl, hh, h1, h2 => by
    have e : lo = hi := by omega
    subst e
    unfold SetTable.below.go
    exact ⟨hh, h1, h2⟩
  | fuel + 1, lo, hi, hf, hl, hh, h1, h2 => by
    unfold SetTable.below.go
    by_cases hlt : lo < hi
    · rw [if_pos hlt]
      dsimp only
      have hm1 : (lo + hi) / 2 < hi := by omega
      have hm2 : lo ≤ (lo + hi) / 2 := by omega
      have hms : (lo + hi) / 2 < xs.size := by omega
      have eg : xs.getD ((lo + hi) / 2) v = xs[(lo + hi) / 2] := by simp [Array.getD, hms]
      rw [eg]
      by_cases hc : xs[(lo + hi) / 2] < v
      · rw [if_pos hc]
        refine below_go hr fuel _ _ (by omega) (by omega) hh (fun i h hi' => ?_) h2
        by_cases e : i = (lo + hi) / 2
        · subst e; exact hc
        · exact Nat.lt_trans (hr i _ h hms (by omega)) hc
      · rw [if_neg hc]
        refine below_go hr fuel _ _ (by omega) (by omega) (by omega) h1 (fun i h hi' => ?_)
        by_cases e : i = (lo + hi) / 2
        · subst e; omega
        · have := hr _ i hms h (by omega)
          omega
    · rw [if_neg hlt]
      have e : lo = hi := by omega
      subst e
      exact ⟨hh, h1, h2⟩
theorem below_cut {xs : Array Nat} (hr : Rise xs) (v : Nat) : CutBy xs v (SetTable.below xs v) :=
  below_go hr xs.size 0 xs.size (by omega) (Nat.zero_le _) (Nat.le_refl _) (fun i _ h => absurd h (Nat.not_lt_zero _)) fun i h h' => absurd h (Nat.not_lt.mpr h')
theorem CutBy.one {xs : Array Nat} {v p q : Nat} (a : CutBy xs v p) (b : CutBy xs v q) : p = q := by
  rcases Nat.lt_trichotomy p q with h | h | h
  · have h1 : p < xs.size := Nat.lt_of_lt_of_le h b.le
    have := a.hi p h1 (Nat.le_refl _)
    have := b.lo p h1 h
    omega
  · exact h
  · have h1 : q < xs.size := Nat.lt_of_lt_of_le h a.le
    have := b.hi q h1 (Nat.le_refl _)
    have := a.lo q h1 h
    omega
theorem ins_size {α : Type} (xs : Array α) (p : Nat) (x : α) (h : p ≤ xs.size) : (SetTable.insertAt xs p x).size = xs.size + 1 := by
  unfold SetTable.insertAt
  simp only [Array.size_append, Array.size_push, Array.size_extract]
  omega
theorem ins_at {α : Type} (xs : Array α) (p : Nat) (x : α) (h : p ≤ xs.size) (i : Nat) : (SetTable.insertAt xs p x)[i]? = if i < p then xs[i]? else if i = p then some x else xs[i - 1]? := by
  unfold SetTable.insertAt
  rw [Array.getElem?_append]
  have e1 : ((xs.extract 0 p).push x).size = p + 1 := by simp; omega
  rw [e1]
  by_cases h1 : i < p
  · rw [if_pos (by omega), if_pos h1, Array.getElem?_push, if_neg (by simp; omega), Array.getElem?_extract, if_pos (by omega)]
    simp
  · rw [if_neg h1]
    by_cases h2 : i = p
    · subst h2
      rw [if_pos (by omega), if_pos rfl, Array.getElem?_push, if_pos (by simp; omega)]
    · rw [if_neg (by omega), if_neg h2, Array.getElem?_extract]
      by_cases h3 : i - 1 < xs.size
      · rw [if_pos (by omega)]
        congr 1
        omega
      · rw [if_neg (by omega), Array.getElem?_eq_none (by omega)]
theorem rise_of {xs : Array Nat} (h : ∀ (i j a b : Nat), xs[i]? = some a → xs[j]? = some b → i < j → a < b) : Rise xs := fun i j hi hj hl => h i j _ _ (by simp [hi]) (by simp [hj]) hl
theorem Rise.get {xs : Array Nat} (h : Rise xs) {i j a b : Nat} (ha : xs[i]? = some a) (hb : xs[j]? = some b) (hl : i < j) : a < b := by
  obtain ⟨h1, e1⟩ := Array.getElem?_eq_some_iff.mp ha
  obtain ⟨h2, e2⟩ := Array.getElem?_eq_some_iff.mp hb
  rw [← e1, ← e2]
  exact h i j h1 h2 hl
theorem CutBy.lo' {xs : Array Nat} {v p i a : Nat} (c : CutBy xs v p) (ha : xs[i]? = some a) (h : i < p) : a < v := by
  obtain ⟨h1, e1⟩ := Array.getElem?_eq_some_iff.mp ha
  rw [← e1]; exact c.lo i h1 h
theorem CutBy.hi' {xs : Array Nat} {v p i a : Nat} (c : CutBy xs v p) (ha : xs[i]? = some a) (h : p ≤ i) : v ≤ a := by
  obtain ⟨h1, e1⟩ := Array.getElem?_eq_some_iff.mp ha
  rw [← e1]; exact c.hi i h1 h
theorem rise_insert {xs : Array Nat} {v p : Nat} (hr : Rise xs) (c : CutBy xs v p) (hn : xs[p]? ≠ some v) : Rise (SetTable.insertAt xs p v) := by
  refine rise_of fun i j a b ha hb hl => ?_
  rw [ins_at xs p v c.le] at ha hb
  have up : ∀ k d, xs[k]? = some d → p ≤ k → v < d := fun k d hd hk => by
    have h1 := c.hi' hd hk
    by_cases e : k = p
    · subst e
      have : d ≠ v := fun z => hn (by rw [hd, z])
      omega
    · obtain ⟨hks, _⟩ := Array.getElem?_eq_some_iff.mp hd
      have hps : p < xs.size := by omega
      have h2 := hr.get (show xs[p]? = some xs[p] by simp [hps]) hd (by omega)
      have := c.hi p hps (Nat.le_refl _)
      omega
  by_cases i1 : i < p
  · rw [if_pos i1] at ha
    have h1 := c.lo' ha i1
    by_cases j1 : j < p
    · rw [if_pos j1] at hb; exact hr.get ha hb hl
    · rw [if_neg j1] at hb
      by_cases j2 : j = p
      · rw [if_pos j2] at hb; cases hb; exact h1
      · rw [if_neg j2] at hb
        have := up _ _ hb (by omega)
        omega
  · rw [if_neg i1] at ha
    rw [if_neg (by omega), if_neg (by omega)] at hb
    by_cases i2 : i = p
    · rw [if_pos i2] at ha; cases ha; exact up _ _ hb (by omega)
    · rw [if_neg i2] at ha
      exact hr.get ha hb (by omega)
structure Tidy (t : SetTable) : Prop where
  none : t.dummies = #[]
  rise : t.plain = true → Rise t.place
theorem slot_empty {t : SetTable} (hd : t.dummies = #[]) {j : Nat} : t.slot j ≠ .dummy := by
  unfold SetTable.slot
  rw [hd]
  dsimp only
  split
  · intro h; cases h
  · simp [SetTable.has, SetTable.below, SetTable.below.go]
theorem probe_go {t : SetTable} (hd : t.dummies = #[]) (f : Nat → Int) (h : Int) : ∀ (fuel : Nat) (p : SetTable.Probe) (j : Nat) (d : Option Nat), p.dummy = none → SetTable.probe.go t f h fuel p = some (.empty j d) → d = none ∧ t.slot j = .empty
  | 0, p, j, d, _, e => by simp [SetTable.probe.go] at e
  | fuel + 1, p, j, d, hp, e => by
    have adv : ∀ p : SetTable.Probe, p.dummy = none → (t.advance p).dummy = none := fun p hp => by
      unfold SetTable.advance
      split <;> exact hp
    unfold SetTable.probe.go at e
    cases hs : t.slot p.j with
    | empty =>
      rw [hs] at e
      simp only [Option.some.injEq, SetTable.Met.empty.injEq] at e
      obtain ⟨rfl, rfl⟩ := e
      exact ⟨hp, hs⟩
    | dummy => exact absurd hs (slot_empty hd)
    | live i =>
      rw [hs] at e
      dsimp only at e
      split at e
      · cases e
      · exact probe_go hd f h fuel _ j d (adv p hp) e
theorem freeSlot_of {t : SetTable} (hd : t.dummies = #[]) {h : Int} {j : Nat} {b : Bool} (e : t.freeSlot h = some (j, b)) : t.slot j = .empty := by
  unfold SetTable.freeSlot at e
  split at e
  · rename_i k d he
    obtain ⟨h1, h2⟩ := probe_go hd _ _ _ _ k d rfl he
    subst h1
    simp only [Option.getD_none, Option.some.injEq, Prod.mk.injEq] at e
    obtain ⟨rfl, _⟩ := e
    exact h2
  · cases e
theorem put_tidy {t : SetTable} (T : Tidy t) {j : Nat} (he : t.slot j = .empty) : Tidy (t.put j).1 := by
  unfold SetTable.put
  refine ⟨?_, fun hp => ?_⟩
  · dsimp only
    rw [T.none]
    simp [SetTable.has, SetTable.below, SetTable.below.go]
  · dsimp only at hp ⊢
    have hr := T.rise hp
    refine rise_insert hr (below_cut hr j) fun z => ?_
    unfold SetTable.slot at he
    dsimp only at he
    rw [if_pos (by rw [z]; exact beq_self_eq_true _)] at he
    cases he
theorem standIn_tidy (t : SetTable) (n : Nat) : Tidy (t.standIn n) := ⟨rfl, fun h => by cases h⟩
theorem orStandIn_tidy {t : SetTable} (T : Tidy t) (n : Nat) : Tidy (t.orStandIn n) := by
  unfold SetTable.orStandIn
  split
  · exact T
  · exact standIn_tidy t n
theorem layNew_tidy {t : SetTable} (T : Tidy t) (es : Array (Int × Value)) (h : Int) (x : Value) : Tidy (layNew t es h x).2.1 := by
  unfold layNew
  split
  · rename_i j b e
    exact orStandIn_tidy (put_tidy T (freeSlot_of T.none e)) _
  · exact standIn_tidy _ _
theorem filterMap_rise {β : Type} (f : Nat → Option β) : ∀ (n : Nat), (((List.range n).filterMap fun j => (f j).map (j, ·)).map (·.1)).Pairwise (· < ·) := fun n => by
  rw [List.map_filterMap]
  have e : (fun j => ((f j).map (j, ·)).map (·.1)) = fun j => if (f j).isSome = true then some j else none := by
    funext j
    cases f j <;> simp
  rw [e]
  have h2 : (List.range n).filterMap (fun j => if (f j).isSome = true then some j else none) = (List.range n).filter fun j => (f j).isSome := by
    rw [← List.filterMap_eq_filter]
    congr 1
  rw [h2]
  exact List.Pairwise.filter _ List.pairwise_lt_range
theorem rise_toArray {l : List Nat} (h : l.Pairwise (· < ·)) : Rise l.toArray := fun i j hi hj hl => by
  have := List.pairwise_iff_getElem.mp h i j (by simpa using hi) (by simpa using hj) hl
  simpa using this
theorem laid_tidy {mask finger moves : Nat} {led plain : Bool} {hs : Array Int} {t : SetTable} {o : Array Nat} (e : SetTable.laid mask finger moves led plain hs = some (t, o)) : Tidy t := by
  unfold SetTable.laid at e
  cases hl : SetTable.layClean mask hs with
  | none => rw [hl] at e; cases e
  | some owner =>
    rw [hl] at e
    cases e
    exact ⟨rfl, fun _ => rise_toArray (filterMap_rise _ _)⟩
theorem relayAll_tidy (t : SetTable) (es : Array (Int × Value)) (n : Nat) : Tidy (relayAll t es n).2.1 := by
  unfold relayAll
  split
  · rename_i t' order e
    have h := laid_tidy e
    dsimp only
    split
    · exact h
    · exact standIn_tidy _ _
  · exact standIn_tidy _ _
theorem fresh_tidy (a b : Nat) (c : Bool) : Tidy (SetTable.fresh a b c) := ⟨rfl, fun _ i j hi => by simp [SetTable.fresh] at hi⟩
theorem plainOff_tidy {t : SetTable} (T : Tidy t) : Tidy { t with plain := false } := ⟨T.none, fun h => by cases h⟩
end L2
namespace L2
open PySem PyProof.Rows
theorem Paired.perm {α β : Type} {R : α → β → Prop} {l l' : List α} (p : l.Perm l') : ∀ {ks : List β}, Paired R l ks → ∃ ks', Paired R l' ks' ∧ ks'.Perm ks := by
  induction p with
  | nil => intro ks h; exact ⟨ks, h, List.Perm.refl _⟩
  | cons x _ ih =>
    intro ks h
    cases h with
    | cons r t =>
      obtain ⟨ks', h1, h2⟩ := ih t
      exact ⟨_, .cons r h1, h2.cons _⟩
  | swap x y l =>
    intro ks h
    cases h with
    | cons r t =>
      cases t with
      | cons r' t' => exact ⟨_, .cons r' (.cons r t'), List.Perm.swap _ _ _⟩
  | trans _ _ ih1 ih2 =>
    intro ks h
    obtain ⟨k1, h1, p1⟩ := ih1 h
    obtain ⟨k2, h2, p2⟩ := ih2 h1
    exact ⟨k2, h2, p2.trans p1⟩
theorem Paired.app {α β : Type} {R : α → β → Prop} : ∀ {l l' : List α} {k k' : List β}, Paired R l k → Paired R l' k' → Paired R (l ++ l') (k ++ k')
  | _, _, _, _, .nil, h => h
  | _, _, _, _, .cons r t, h => .cons r (Paired.app t h)
theorem Paired.memL {α β : Type} {R : α → β → Prop} : ∀ {l : List α} {k : List β} {x : α}, Paired R l k → x ∈ l → ∃ y ∈ k, R x y
  | _, _, _, .nil, h => nomatch h
  | _, _, x, .cons r t, h => by
    rcases List.mem_cons.mp h with rfl | h
    · exact ⟨_, List.mem_cons_self, r⟩
    · obtain ⟨y, h1, h2⟩ := Paired.memL t h
      exact ⟨y, List.mem_cons_of_mem _ h1, h2⟩
theorem Paired.memR {α β : Type} {R : α → β → Prop} : ∀ {l : List α} {k : List β} {y : β}, Paired R l k → y ∈ k → ∃ x ∈ l, R x y
  | _, _, _, .nil, h => nomatch h
  | _, _, y, .cons r t, h => by
    rcases List.mem_cons.mp h with rfl | h
    · exact ⟨_, List.mem_cons_self, r⟩
    · obtain ⟨x, h1, h2⟩ := Paired.memR t h
      exact ⟨x, List.mem_cons_of_mem _ h1, h2⟩
section
variable {prog : Program} {w : World} {κ : Type} [DecidableEq κ] {knd : KeyKind prog w κ} {A : Around} {E : Value → Shared → Prop} {s : Shared}
noncomputable def Ent (knd : KeyKind prog w κ) (e : Int × Value) (k : κ) : Prop := knd.is k e.2 = true ∧ e.1 = knd.hash k ∧ e.2.scannable = true
structure SetAt (knd : KeyKind prog w κ) (h : Heap) (a : Addr) (es : Array (Int × Value)) (ep : Nat) (t : SetTable) (ks : List κ) : Prop where
  obj : ∃ o, h.get? a = some o ∧ o.ExactSet ∧ o.data = .set es ep t
  ents : Paired (Ent knd) es.toList ks
  nodup : ks.Nodup
  bnd : es.size < scanBound
  fits : t.fits es.size = true
  led : t.led = !w.params.followText "set-order"
  tidy : Tidy t
noncomputable def SetK (knd : KeyKind prog w κ) (h : Heap) (a : Addr) (ks : List κ) : Prop := ∃ es ep t ks', SetAt knd h a es ep t ks' ∧ ks'.Perm ks
theorem Ents.elems {es : List (Int × Value)} {ks : List κ} (h : Paired (Ent knd) es ks) : ElemsOf knd es := fun e he => by
  obtain ⟨k, _, h1, h2, h3⟩ := Paired.memL h he
  exact ⟨⟨k, h1, h2⟩, h3⟩
theorem Ents.mem {es : List (Int × Value)} {ks : List κ} (h : Paired (Ent knd) es ks) (k : κ) : k ∈ ks ↔ ∃ e ∈ es, knd.is k e.2 = true := by
  constructor
  · intro hk
    obtain ⟨e, h1, h2, _⟩ := Paired.memR h hk
    exact ⟨e, h1, h2⟩
  · rintro ⟨e, h1, h2⟩
    obtain ⟨k', h3, h4, _⟩ := Paired.memL h h1
    have := knd.inj e.2 k k' h2 h4
    rw [this]; exact h3
theorem Ents.len {es : Array (Int × Value)} {ks : List κ} (h : Paired (Ent knd) es.toList ks) : es.size = ks.length := by
  have := Paired.length h
  simpa using this
theorem SetAt.setOf {h : Heap} {a : Addr} {es : Array (Int × Value)} {ep : Nat} {t : SetTable} {ks : List κ} (x : SetAt knd h a es ep t ks) : h.SetOf knd a (fun k => decide (k ∈ ks)) ks.length := by
  obtain ⟨o, ho, hex, hd⟩ := x.obj
  exact ⟨o, es, ep, t, ho, hex, hd, Ents.elems x.ents, fun k => by rw [decide_eq_true_eq]; exact Ents.mem x.ents k, x.bnd, x.fits, Ents.len x.ents⟩
theorem SetK.setOf {h : Heap} {a : Addr} {ks : List κ} (x : SetK knd h a ks) : h.SetOf knd a (fun k => decide (k ∈ ks)) ks.length := by
  obtain ⟨es, ep, t, ks', y, p⟩ := x
  have e1 : (fun k => decide (k ∈ ks')) = fun k => decide (k ∈ ks) := by
    funext k
    exact decide_eq_decide.mpr p.mem_iff
  rw [← e1, ← p.length_eq]
  exact y.setOf
theorem SetK.perm {h : Heap} {a : Addr} {ks ks' : List κ} (x : SetK knd h a ks) (p : ks.Perm ks') : SetK knd h a ks' := let ⟨es, ep, t, k, y, q⟩ := x; ⟨es, ep, t, k, y, q.trans p⟩
theorem SetK.nodup {h : Heap} {a : Addr} {ks : List κ} (x : SetK knd h a ks) : ks.Nodup := let ⟨_, _, _, _, y, q⟩ := x; q.nodup_iff.mp y.nodup
theorem SetAt.keep {h h' : Heap} {a : Addr} {es : Array (Int × Value)} {ep : Nat} {t : SetTable} {ks : List κ} (x : SetAt knd h a es ep t ks) (k : ∀ o, h.get? a = some o → h'.get? a = some o) : SetAt knd h' a es ep t ks :=
  let ⟨o, ho, r⟩ := x.obj
  ⟨⟨o, k o ho, r⟩, x.ents, x.nodup, x.bnd, x.fits, x.led, x.tidy⟩
theorem SetK.keep {h h' : Heap} {a : Addr} {ks : List κ} (x : SetK knd h a ks) (k : ∀ o, h.get? a = some o → h'.get? a = some o) : SetK knd h' a ks := let ⟨es, ep, t, ks', y, p⟩ := x; ⟨es, ep, t, ks', y.keep k, p⟩
theorem SetK.lt {h : Heap} {a : Addr} {ks : List κ} (x : SetK knd h a ks) : a < h.objs.size := let ⟨_, _, _, _, y, _⟩ := x; let ⟨_, ho, _⟩ := y.obj; Heap.lt_size ho
noncomputable def addK (ks : List κ) (k : κ) : List κ := if k ∈ ks then ks else ks ++ [k]
theorem mem_addK {ks : List κ} {k x : κ} : x ∈ addK ks k ↔ x ∈ ks ∨ x = k := by
  unfold addK
  split
  · rename_i h
    exact ⟨.inl, fun z => z.elim id fun e => e ▸ h⟩
  · simp
theorem addK_len {ks : List κ} {k : κ} : (addK ks k).length ≤ ks.length + 1 := by
  unfold addK
  split <;> simp
theorem SetAt.store {h : Heap} {a : Addr} {es es' : Array (Int × Value)} {ep : Nat} {t t' : SetTable} {ks ks' : List κ} (x : SetAt knd h a es ep t ks) (he : Paired (Ent knd) es'.toList ks') (hn : ks'.Nodup) (hb : es'.size < scanBound) (hf : t'.fits es'.size = true) (hl : t'.led = t.led) (ht : Tidy t') :
    SetAt knd (h.update a (Obj.putSet es' t')) a es' (ep + 1) t' ks' := by
  obtain ⟨o, ho, hex, hd⟩ := x.obj
  refine ⟨⟨{ o with data := .set es' (ep + 1) t' }, ?_, hex, rfl⟩, he, hn, hb, hf, hl.trans x.led, ht⟩
  have := Heap.get?_update_self (Obj.putSet es' t') ho (by rw [putSet_of es' t' hd]; rfl)
  rwa [putSet_of es' t' hd] at this
theorem tailK {g : Bool → Sem Unit} (hg : ∀ (c : Bool) (s₁ : Shared) (Q' : Unit → Shared → Prop), Q' () s₁ → wpAny (model prog w) A (g c) Q' E s₁)
    {a : Addr} {es es1 : Array (Int × Value)} {ep : Nat} {t t2 : SetTable} {ks ks1 : List κ} {wasD : Bool} (x : SetAt knd s.heap a es ep t ks) (he : Paired (Ent knd) es1.toList ks1) (hn : ks1.Nodup) (hb1 : es1.size < scanBound) (hf : t2.fits es1.size = true) (h2 : t2.led = t.led) (ht : Tidy t2)
    {R : Option Bool → Shared → Prop} (h : ∀ h' : Heap, Heap.SameBut a s.heap h' → SetK knd h' a ks1 → R (some true) { s with heap := h' }) :
    wpAny (model prog w) A (do
        storeSet a es1 t2
        if (!wasD && t2.tooFull) = true then do
            g (relayAll t2 es1 (SetTable.grown es1.size)).2.2
            storeSet a (relayAll t2 es1 (SetTable.grown es1.size)).1 (relayAll t2 es1 (SetTable.grown es1.size)).2.1
            pure (some true)
          else pure (some true)) R E s := by
  obtain ⟨o, ho, hex, hd⟩ := x.obj
  refine wpAny_bind (wpAny_storeSet_of ho hd ?_ (fits_of_scanBound hb1))
  have x1 := x.store he hn hb1 hf h2 ht
  have sb := Heap.SameBut.update s.heap a (Obj.putSet es1 t2)
  by_cases hc : (!wasD && t2.tooFull) = true
  · rw [if_pos hc]
    have hl3 := relayAll_led t2 es1 (SetTable.grown es1.size)
    have hp := relayAll_perm t2 es1 (SetTable.grown es1.size)
    have hff := relayAll_fits t2 es1 (SetTable.grown es1.size)
    have hty := relayAll_tidy t2 es1 (SetTable.grown es1.size)
    generalize relayAll t2 es1 (SetTable.grown es1.size) = Z at hl3 hp hff hty ⊢
    obtain ⟨es2, t3, gave⟩ := Z
    dsimp only at hl3 hp hff hty ⊢
    have hz : es2.size = es1.size := by
      have := hp.length_eq
      simpa using this
    obtain ⟨o1, ho1, hex1, hd1⟩ := x1.obj
    refine wpAny_bind (hg _ _ _ (wpAny_bind (wpAny_storeSet_of ho1 hd1 ?_ (fits_of_scanBound (by omega)))))
    obtain ⟨ks2, he2, p2⟩ := Paired.perm hp.symm he
    have x2 := x1.store (es' := es2) (t' := t3) he2 (p2.nodup_iff.mpr hn) (by omega) hff hl3 hty
    exact wpAny_pure (h _ (sb.trans (Heap.SameBut.update _ a _)) ⟨_, _, _, _, x2, p2⟩)
  · rw [if_neg hc]
    exact wpAny_pure (h _ sb ⟨_, _, _, _, x1, List.Perm.refl _⟩)
theorem addHashed {a : Addr} {ks : List κ} {k : κ} {x : Value} {Q : Bool → Shared → Prop} (hkey : knd.is k x = true) (hsc : x.scannable = true) (hS : SetK knd s.heap a ks) (hroom : ks.length + 1 < scanBound)
    (h : ∀ h' b, Heap.SameBut a s.heap h' → SetK knd h' a (addK ks k) → Q b { s with heap := h' }) :
    wpAny (model prog w) A (setAddHashed a x (knd.hash k)) Q E s := by
  obtain ⟨es, ep, t, ks', S, p⟩ := hS
  obtain ⟨o, ho, hex, hd⟩ := S.obj
  have hel := Ents.elems S.ents
  have hlen := Ents.len S.ents
  have hpl := p.length_eq
  unfold setAddHashed setAddHashedIn
  refine wpAny_holding (wpAny_bind (wpAny_setState_of ho hd S.fits ?_))
  dsimp only
  rw [byScan_of hsc S.bnd hel]
  simp only [↓reduceIte]
  unfold setAddByScan
  refine wpAny_bind (wpAny_bind (wpAny_rule (wpAny_bind (wpAny_setScan_of hkey ho hd S.fits hel ?_))))
  cases hr : List.findIdx? (fun e => knd.is k e.2) es.toList with
  | some j =>
    obtain ⟨hj, hpj, _⟩ := List.findIdx?_eq_some_iff_getElem.mp hr
    have hk : k ∈ ks := p.mem_iff.mp ((Ents.mem S.ents k).mpr ⟨es.toList[j], List.getElem_mem hj, hpj⟩)
    have q := h s.heap false (Heap.SameBut.refl a s.heap) (by unfold addK; rw [if_pos hk]; exact ⟨es, ep, t, ks', S, p⟩)
    exact wpAny_pure (wpAny_pure q)
  | none =>
    have hk : k ∉ ks' := fun z => by
      obtain ⟨e, he, hp⟩ := (Ents.mem S.ents k).mp z
      have := List.findIdx?_eq_none_iff.mp hr e he
      rw [hp] at this
      cases this
    have hk2 : k ∉ ks := fun z => hk (p.mem_iff.mpr z)
    dsimp only
    have hg : ∀ (c : Bool) (s₁ : Shared) (Q' : Unit → Shared → Prop), Q' () s₁ → wpAny (model prog w) A (match c with | true => rule "set.scan.the-table-gave-way" | false => pure ()) Q' E s₁ :=
      fun c s₁ Q' hq => by cases c <;> first | exact wpAny_pure hq | exact wpAny_rule hq
    have hp := layNew_perm t es (knd.hash k) x
    have hft := layNew_fits t es (knd.hash k) x
    have hled := layNew_led t es (knd.hash k) x
    have hty := layNew_tidy S.tidy es (knd.hash k) x
    generalize layNew t es (knd.hash k) x = L at hp hft hled hty ⊢
    obtain ⟨es1, t1, wasD, gave⟩ := L
    dsimp only at hp hft hled hty ⊢
    rw [Array.toList_push] at hp
    have hz : es1.size = es.size + 1 := by
      have := hp.length_eq
      simp only [List.length_append, Array.length_toList, List.length_cons, List.length_nil] at this
      omega
    have hb1 : es1.size < scanBound := by omega
    obtain ⟨ks1, he1, p1⟩ := Paired.perm hp.symm (Paired.app S.ents (.cons (show Ent knd (knd.hash k, x) k from ⟨hkey, rfl, hsc⟩) .nil))
    have hnd : ks1.Nodup := p1.nodup_iff.mpr (by
      rw [List.nodup_append]
      refine ⟨S.nodup, by simp, fun a ha b hb => ?_⟩
      rw [List.mem_singleton.mp hb]
      exact fun z => hk (z ▸ ha))
    have pe : ks1.Perm (addK ks k) := by
      unfold addK
      rw [if_neg hk2]
      exact p1.trans (p.append_right _)
    have fin : ∀ h', Heap.SameBut a s.heap h' → SetK knd h' a ks1 → Q true { s with heap := h' } := fun h' sb q1 => h h' true sb (q1.perm pe)
    refine wpAny_bind (hg _ _ _ ?_)
    split
    · refine wpAny_bind ?_
      rw [hashByValue_scannable 8 hsc]
      refine wpAny_pure ?_
      refine tailK hg S he1 hnd hb1 ?_ ?_ ?_ fun h' sb q1 => wpAny_pure (fin h' sb q1)
      · split
        · exact hft
        · exact SetTable.fits_plain_off hft
      · split
        · exact hled
        · show t1.led = _
          exact hled
      · split
        · exact hty
        · exact plainOff_tidy hty
    · refine wpAny_bind (wpAny_pure ?_)
      simp only [↓reduceIte]
      exact tailK hg S he1 hnd hb1 hft hled hty fun h' sb q1 => wpAny_pure (fin h' sb q1)
theorem newSetK {Q : Value → Shared → Prop}
    (h : SetK knd (s.heap.push { cls := .type "set", dict := none, data := .set #[] 0 (.fresh 0 0 (!w.params.followText "set-order")) }) s.heap.objs.size [] →
      Q (.ref s.heap.objs.size) { s with heap := s.heap.push { cls := .type "set", dict := none, data := .set #[] 0 (.fresh 0 0 (!w.params.followText "set-order")) } }) :
    wpAny (model prog w) A (newSet (.type "set")) Q E s := by
  unfold newSet setsByText
  refine wpAny_bind (wpAny_bind (wpAny_askSetting (wpAny_pure ?_)))
  dsimp only
  simp only [newObj]
  refine wpAny_bind (wpAny_alloc (wpAny_pure (h ⟨#[], 0, _, [], ⟨⟨_, Heap.get?_push_size _ rfl, ⟨rfl, rfl, rfl⟩, rfl⟩, .nil, List.nodup_nil, by decide, rfl, rfl, fresh_tidy _ _ _⟩, List.Perm.refl _⟩)))
theorem walkK {a : Addr} {ks : List κ} {Q : Array (Int × Value) → Shared → Prop} (hS : SetK knd s.heap a ks)
    (h : ∀ (ys : Array (Int × Value)) (ls : List κ) (dr : _), Paired (Ent knd) ys.toList ls → ls.Perm ks → Q ys { s with drawn := dr }) : wpAny (model prog w) A (setWalk a) Q E s := by
  obtain ⟨es, ep, t, ks', S, p⟩ := hS
  obtain ⟨o, ho, hex, hd⟩ := S.obj
  refine wpAny_setWalk ho hd S.fits S.led fun ys dr hp => ?_
  obtain ⟨ls, h1, h2⟩ := Paired.perm hp.symm S.ents
  exact h ys ls dr h1 (h2.trans p)
theorem findK {a : Addr} {ks : List κ} {k : κ} {x : Value} {Q : Option Nat → Shared → Prop} (hkey : knd.is k x = true) (hsc : x.scannable = true) (hS : SetK knd s.heap a ks)
    (h : ∀ r : Option Nat, r.isSome = decide (k ∈ ks) → Q r s) : wpAny (model prog w) A (setFind a x (knd.hash k)) Q E s := wpAny_setFind_of hkey hsc hS.setOf h
theorem sizeK {a : Addr} {ks : List κ} {Q : Nat → Shared → Prop} (hS : SetK knd s.heap a ks) (h : Q ks.length s) : wpAny (model prog w) A (Builtin.Frozenset.sizeOf a) Q E s := by
  obtain ⟨es, ep, t, ks', S, p⟩ := hS
  obtain ⟨o, ho, hex, hd⟩ := S.obj
  unfold Builtin.Frozenset.sizeOf
  refine wpAny_bind (wpAny_setEntries_of ho hd S.fits (wpAny_pure ?_))
  rw [Ents.len S.ents, p.length_eq]
  exact h
end
end L2
namespace L2
open PySem PyProof.Rows
theorem setWalkUnseen_eq (a : Addr) (others : List Addr) (filled : Option Addr) : setWalkUnseen a others filled = (do
    let (es, _, t) ← setState a
    let byText ← setsByText
    if byText || (t.led && t.plain) || es.size ≤ 1 then return ← setWalk a
    if !(← setsQuiet (a :: others)) then return ← setWalk a
    rule "set.walk.of-a-marked-set-that-nobody-sees"
    if let some f := filled then
      let (ef, _, tf) ← setState f
      if (tf.led && !t.led) || (tf.plain && !t.plain) then storeSet f ef { tf with led := tf.led && t.led, plain := tf.plain && t.plain }
    return es) := rfl
section
variable {prog : Program} {w : World} {κ : Type} [DecidableEq κ] {knd : KeyKind prog w κ} {A : Around} {E : Value → Shared → Prop} {s : Shared}
theorem SetK.typeIs {a : Addr} {ks : List κ} (h : SetK knd s.heap a ks) : s.TypeIs (.ref a) "set" := h.setOf.typeIs
theorem quietK {l : List Addr} {Q : Bool → Shared → Prop} (hS : ∀ a ∈ l, ∃ ks, SetK knd s.heap a ks) (h : Q true s) : wpAny (model prog w) A (setsQuiet l) Q E s := by
  unfold setsQuiet
  refine wpAny_bind (wpAny_forIn_list _ (fun rest b s' => s' = s ∧ b.1 = none ∧ ∀ a ∈ rest, ∃ ks, SetK knd s.heap a ks) _ ?_ ?_ l _ ⟨rfl, rfl, hS⟩)
  · rintro a rest b s' ⟨rfl, hb, hr⟩
    obtain ⟨ks, es, ep, t, ks', S, p⟩ := hr a List.mem_cons_self
    obtain ⟨o, ho, hex, hd⟩ := S.obj
    refine wpAny_bind (wpAny_setEntries_of ho hd S.fits ?_)
    refine wpAny_bind (MeetsSeq2.wpAny_forIn_array _ (fun r2 b2 s2 => s2 = s' ∧ b2.1 = none ∧ ∀ e ∈ r2, e.2.scannable = true) _ ?_ ?_ es _ ⟨rfl, rfl, fun e he => (Ents.elems S.ents e he).2⟩)
    · rintro ⟨hh, x⟩ r2 b2 s2 ⟨rfl, hb2, hsc⟩
      have hx := hsc _ List.mem_cons_self
      cases x <;> first
        | exact wpAny_pure ⟨rfl, rfl, fun e he => hsc e (List.mem_cons_of_mem _ he)⟩
        | exact absurd hx Bool.false_ne_true
    · rintro b2 s2 ⟨rfl, hb2, _⟩
      obtain ⟨b21, b22⟩ := b2
      dsimp only at hb2
      subst hb2
      exact wpAny_pure ⟨rfl, rfl, fun a ha => hr a (List.mem_cons_of_mem _ ha)⟩
  · rintro b s' ⟨rfl, hb, _⟩
    obtain ⟨b1, b2⟩ := b
    dsimp only at hb
    subst hb
    exact wpAny_pure h
theorem walkUnseenK {a r : Addr} {others : List Addr} {ks rs : List κ} {Q : Array (Int × Value) → Shared → Prop} (hS : SetK knd s.heap a ks) (hR : SetK knd s.heap r rs) (hne : r ≠ a) (hO : ∀ b ∈ others, ∃ ks, SetK knd s.heap b ks)
    (h : ∀ (ys : Array (Int × Value)) (ls : List κ) (dr : _) (h' : Heap), Paired (Ent knd) ys.toList ls → ls.Perm ks → Heap.SameBut r s.heap h' → SetK knd h' r rs → Q ys { s with heap := h', drawn := dr }) :
    wpAny (model prog w) A (setWalkUnseen a others (some r)) Q E s := by
  obtain ⟨es, ep, t, ks', S, p⟩ := id hS
  obtain ⟨o, ho, hex, hd⟩ := S.obj
  rw [setWalkUnseen_eq]
  refine wpAny_bind (wpAny_setState_of ho hd S.fits ?_)
  dsimp only
  unfold setsByText
  refine wpAny_bind (wpAny_bind (wpAny_askSetting (wpAny_pure ?_)))
  dsimp only
  have walk : wpAny (model prog w) A (setWalk a) Q E s := walkK hS fun ys ls dr h1 h2 => h ys ls dr s.heap h1 h2 (Heap.SameBut.refl r s.heap) hR
  split
  · exact walk
  · rename_i hc
    refine wpAny_bind (quietK (knd := knd) (l := a :: others) (fun b hb => (List.mem_cons.mp hb).elim (fun z => z ▸ ⟨ks, hS⟩) (hO b)) ?_)
    simp only [Bool.not_true, Bool.false_eq_true, ↓reduceIte]
    refine wpAny_bind (wpAny_rule ?_)
    obtain ⟨er, epr, tr, rs', R, pr⟩ := id hR
    obtain ⟨o2, ho2, hex2, hd2⟩ := R.obj
    refine wpAny_bind (wpAny_setState_of ho2 hd2 R.fits ?_)
    dsimp only
    split
    · refine wpAny_bind (wpAny_storeSet_of ho2 hd2 ?_ (fits_of_scanBound R.bnd))
      refine wpAny_pure (h es ks' s.drawn _ S.ents p (Heap.SameBut.update s.heap r _) ?_)
      refine ⟨_, _, _, _, R.store (es' := er) R.ents R.nodup R.bnd ?_ ?_ ?_, pr⟩
      · have := R.fits
        unfold SetTable.fits SetTable.fill at this ⊢
        exact this
      · show (tr.led && t.led) = tr.led
        rw [R.led, S.led]
        cases (!w.params.followText "set-order") <;> rfl
      · exact ⟨R.tidy.none, fun hp => R.tidy.rise (by
          have hp' : (tr.plain && t.plain) = true := hp
          cases h1 : tr.plain with
          | true => rfl
          | false => rw [h1] at hp'; cases hp')⟩
    · exact wpAny_pure ((h es ks' s.drawn s.heap S.ents p (Heap.SameBut.refl r s.heap) hR))
theorem epochK {a : Addr} {es : Array (Int × Value)} {ep : Nat} {t : SetTable} {ks : List κ} {Q : Nat → Shared → Prop} (S : SetAt knd s.heap a es ep t ks) (h : Q ep s) : wpAny (model prog w) A (setEpoch a) Q E s := by
  obtain ⟨o, ho, hex, hd⟩ := S.obj
  exact wpAny_setEpoch_of ho hd S.fits h
theorem anySetK {a : Addr} {ks : List κ} {Q : Bool → Shared → Prop} (S : SetK knd s.heap a ks) (h : Q true s) : wpAny (model prog w) A (Builtin.Frozenset.isAnySet (.ref a)) Q E s := by
  unfold Builtin.Frozenset.isAnySet
  refine wpAny_bind (wpAny_isInstance S.typeIs PySem.sub_set_self ?_)
  exact wpAny_pure h
theorem baseOfK {a : Addr} {ks : List κ} {Q : Value → Shared → Prop} (S : SetK knd s.heap a ks) (h : Q (.type "set") s) : wpAny (model prog w) A (Builtin.Frozenset.baseOf a) Q E s := by
  unfold Builtin.Frozenset.baseOf
  refine wpAny_bind (wpAny_isInstance S.typeIs PySem.sub_set_self ?_)
  exact wpAny_pure h
theorem unchangedK {id : String} {a : Addr} {es : Array (Int × Value)} {ep : Nat} {t : SetTable} {ks : List κ} {Q : Unit → Shared → Prop} (S : SetAt knd s.heap a es ep t ks) (h : Q () s) : wpAny (model prog w) A (Builtin.Frozenset.unchanged id a ep) Q E s := by
  unfold Builtin.Frozenset.unchanged
  refine wpAny_bind (epochK S ?_)
  rw [if_neg (by simp)]
  exact wpAny_pure h
theorem shareLoop {id : String} {asked walked r : Addr} {aks : List κ} {we : Array (Int × Value)} {wep : Nat} {wt : SetTable} {wks : List κ} (keepIf : κ → Bool) (body : Int × Value → PUnit → Sem (ForInStep PUnit))
    (hbody : ∀ (k : κ) (e : Int × Value) (rs : List κ) (s' : Shared) (Q : ForInStep PUnit → Shared → Prop), Ent knd e k → SetK knd s'.heap r rs → rs.length + 1 < scanBound → SetK knd s'.heap asked aks → SetAt knd s'.heap walked we wep wt wks →
      (∀ h', Heap.SameBut r s'.heap h' → SetK knd h' r (if keepIf k then addK rs k else rs) → Q (.yield ⟨⟩) { s' with heap := h' }) → wpAny (model prog w) A (body e ⟨⟩) Q E s')
    (hra : r ≠ asked) (hrw : r ≠ walked) {ys : Array (Int × Value)} {ls : List κ} (hy : Paired (Ent knd) ys.toList ls) (hl : ls.Nodup) (hlen : ls.length + 1 < scanBound)
    (hr : SetK knd s.heap r []) (ha : SetK knd s.heap asked aks) (hw : SetAt knd s.heap walked we wep wt wks) {Q : PUnit → Shared → Prop}
    (h : ∀ h', Heap.SameBut r s.heap h' → SetK knd h' r (ls.filter keepIf) → Q ⟨⟩ { s with heap := h' }) : wpAny (model prog w) A (forIn ys ⟨⟩ body) Q E s := by
  refine MeetsSeq2.wpAny_forIn_array body (fun rest _ s' => ∃ (done left : List κ) (h' : Heap), s' = { s with heap := h' } ∧ Heap.SameBut r s.heap h' ∧ done ++ left = ls ∧ Paired (Ent knd) rest left ∧ SetK knd h' r (done.filter keepIf)) Q ?_ ?_ ys ⟨⟩ ⟨[], ls, s.heap, rfl, Heap.SameBut.refl _ _, rfl, hy, hr⟩
  · rintro e rest ⟨⟩ s' ⟨done, left, h1, rfl, sb, e1, hp, hS⟩
    cases hp with
    | cons re tl =>
      rename_i k left'
      have hk : k ∉ done := by
        intro z
        rw [← e1] at hl
        exact (List.nodup_append.mp hl).2.2 k z k List.mem_cons_self rfl
      refine hbody k e _ _ _ re hS ?_ (ha.keep fun o ho => (sb.2 asked (Ne.symm hra)).trans ho) (hw.keep fun o ho => (sb.2 walked (Ne.symm hrw)).trans ho) fun h' sb' hS' => ?_
      · have := List.length_filter_le keepIf done
        have e2 : (done ++ k :: left').length = ls.length := by rw [e1]
        simp only [List.length_append, List.length_cons] at e2
        omega
      · refine ⟨done ++ [k], left', h', rfl, sb.trans sb', by rw [← e1]; simp, tl, ?_⟩
        rw [List.filter_append]
        by_cases hc : keepIf k = true
        · rw [if_pos hc] at hS'
          unfold addK at hS'
          rw [if_neg (fun z => hk (List.mem_filter.mp z).1)] at hS'
          simpa [hc] using hS'
        · rw [if_neg hc] at hS'
          simpa [hc] using hS'
  · rintro ⟨⟩ s' ⟨done, left, h', rfl, sb, e1, hp, hS⟩
    cases hp
    rw [List.append_nil] at e1
    subst e1
    exact h h' sb hS
theorem interK {id : String} {a b : Addr} {ks ls : List κ} {Q : Value → Shared → Prop} (hA : SetK knd s.heap a ks) (hB : SetK knd s.heap b ls) (hne : a ≠ b) (hka : ks.length + 1 < scanBound) (hkb : ls.length + 1 < scanBound)
    (h : ∀ h' dr ms, (∀ c u, s.heap.get? c = some u → h'.get? c = some u) → SetK knd h' s.heap.objs.size ms → (∀ k, k ∈ ms ↔ k ∈ ks ∧ k ∈ ls) → Q (.ref s.heap.objs.size) { s with heap := h', drawn := dr }) :
    wpAny (model prog w) A (Builtin.Frozenset.intersection id a (.ref b)) Q E s := by
  unfold Builtin.Frozenset.intersection
  rw [if_neg (by intro z; have z' : Value.ref b = Value.ref a := eq_of_beq z; injection z' with z'; exact hne z'.symm)]
  refine wpAny_bind (baseOfK hA (wpAny_bind (newSetK (knd := knd) fun hN => ?_)))
  have na : a ≠ s.heap.objs.size := Nat.ne_of_lt hA.lt
  have nb : b ≠ s.heap.objs.size := Nat.ne_of_lt hB.lt
  refine wpAny_bind (wpAny_pure ?_)
  refine wpAny_bind (wpAny_holding ?_)
  have hA1 := hA.keep (h' := s.heap.push { cls := .type "set", dict := none, data := .set #[] 0 (.fresh 0 0 (!w.params.followText "set-order")) }) fun o e => Heap.get?_push_of_some _ e
  have hB1 := hB.keep (h' := s.heap.push { cls := .type "set", dict := none, data := .set #[] 0 (.fresh 0 0 (!w.params.followText "set-order")) }) fun o e => Heap.get?_push_of_some _ e
  generalize hh : s.heap.push { cls := .type "set", dict := none, data := .set #[] 0 (.fresh 0 0 (!w.params.followText "set-order")) } = h1 at hN hA1 hB1 ⊢
  refine wpAny_bind (anySetK (s := { s with heap := h1 }) hB1 ?_)
  simp only [↓reduceIte]
  refine wpAny_bind (wpAny_pure ?_)
  refine wpAny_bind (sizeK (s := { s with heap := h1 }) hB1 ?_)
  refine wpAny_bind (sizeK (s := { s with heap := h1 }) hA1 ?_)
  have main : ∀ (asked walked : Addr) (aks wks : List κ), SetK knd h1 asked aks → SetK knd h1 walked wks → asked ≠ s.heap.objs.size → walked ≠ s.heap.objs.size → wks.length + 1 < scanBound → (∀ k, (k ∈ wks ∧ k ∈ aks) ↔ k ∈ ks ∧ k ∈ ls) →
      wpAny (model prog w) A (do
        let was ← setEpoch walked
        for (h, x) in ← setWalkUnseen walked [asked, s.heap.objs.size] (some s.heap.objs.size) do
          holding [x] do
            if (← setFind asked x h).isSome then
              let _ ← setAddHashed s.heap.objs.size x h
          Builtin.Frozenset.unchanged id walked was) (fun _ s₁ => wpAny (model prog w) A (pure (Value.ref s.heap.objs.size)) Q E s₁) E { s with heap := h1 } := by
    intro asked walked aks wks hq hw n1 n2 hl hm
    obtain ⟨we, wep, wt, wks', W, wp⟩ := hw.perm (List.Perm.refl _)
    refine wpAny_bind (epochK (s := { s with heap := h1 }) W ?_)
    refine wpAny_bind (walkUnseenK (knd := knd) (s := { s with heap := h1 }) hw hN (Ne.symm n2) (fun c hc => ?_) fun ys ls' dr h' hy hp sb hN' => ?_)
    · rcases List.mem_cons.mp hc with rfl | hc
      · exact ⟨_, hq⟩
      · rw [List.mem_singleton.mp hc]; exact ⟨_, hN⟩
    · refine wpAny_bind (shareLoop (id := id) (knd := knd) (s := { s with heap := h', drawn := dr }) (asked := asked) (walked := walked) (r := s.heap.objs.size) (aks := aks) (fun k => decide (k ∈ aks)) _ ?_ (Ne.symm n1) (Ne.symm n2) hy (hp.nodup_iff.mpr hw.nodup) (by rw [hp.length_eq]; exact hl) hN'
        (hq.keep fun o e => (sb.2 asked n1).trans e) (W.keep fun o e => (sb.2 walked n2).trans e) fun h2 sb2 hf => ?_)
      · rintro k ⟨eh, ex⟩ rs s' Q' ⟨he1, he2, he3⟩ hr hrl hq' hw' hQ
        dsimp only at he1 he2 he3 ⊢
        subst he2
        refine wpAny_bind (wpAny_holding (wpAny_bind (findK he1 he3 hq' fun res hres => ?_)))
        rw [hres]
        by_cases hc : decide (k ∈ aks) = true
        · rw [if_pos hc]
          refine wpAny_bind (addHashed he1 he3 hr hrl fun h3 bb sb3 hs3 => ?_)
          refine wpAny_pure (wpAny_bind (unchangedK (s := { s' with heap := h3 }) (hw'.keep fun o e => (sb3.2 walked n2).trans e) (wpAny_pure (hQ h3 sb3 ?_))))
          rw [if_pos hc]; exact hs3
        · rw [if_neg hc]
          refine wpAny_pure (wpAny_bind (unchangedK hw' (wpAny_pure ?_)))
          have := hQ s'.heap (Heap.SameBut.refl _ _) (by rw [if_neg hc]; exact hr)
          exact this
      · refine wpAny_pure (wpAny_pure (h h2 dr _ (fun c u e => ?_) hf fun k => ?_))
        · have e1 : h1.get? c = some u := by rw [← hh]; exact Heap.get?_push_of_some _ e
          have nc : c ≠ s.heap.objs.size := Nat.ne_of_lt (Heap.lt_size e)
          exact (sb2.2 c nc).trans ((sb.2 c nc).trans e1)
        · rw [List.mem_filter, decide_eq_true_eq, hp.mem_iff]
          exact hm k
  split
  · exact main b a ls ks hB1 hA1 nb na hka fun k => Iff.rfl
  · exact main a b ks ls hA1 hB1 na nb hkb fun k => And.comm
end
end L2
namespace L2
open PySem PySem.Spec PyProof.Rows
section
variable {prog : Program} {w : World} {A : Around} {E : Value → Shared → Prop} {s : Shared}
noncomputable def gather {κ : Type} [DecidableEq κ] (ks : List κ) : List κ → List κ
  | [] => ks
  | k :: r => gather (addK ks k) r
theorem mem_gather {κ : Type} [DecidableEq κ] : ∀ {r ks : List κ} {x : κ}, x ∈ gather ks r ↔ x ∈ ks ∨ x ∈ r
  | [], ks, x => by simp [gather]
  | k :: r, ks, x => by
    rw [gather, mem_gather, mem_addK, List.mem_cons, or_assoc]
theorem gather_len {κ : Type} [DecidableEq κ] : ∀ {r ks : List κ}, (gather ks r).length ≤ ks.length + r.length
  | [], ks => by simp [gather]
  | k :: r, ks => by
    rw [gather]
    have h1 := gather_len (r := r) (ks := addK ks k)
    have h2 := addK_len (ks := ks) (k := k)
    rw [List.length_cons]
    omega
theorem fillLoop {κ : Type} [DecidableEq κ] {knd : KeyKind prog w κ} {R : Result → Shared → Prop} {I S : Addr} {fp wr : List Addr} {G : Array GenState → Array GenState → Prop} {n : Nat} {P : Nat → Value → Prop} {St : Nat → Shared → Prop}
    (W : WalksS prog w A.in1 I fp wr G n P St) (hSf : S ∉ fp) (keys : List κ) (hn : keys.length = n) (hval : ∀ i v, P i v → ∃ k, keys[i]? = some k ∧ knd.is k v = true ∧ v.scannable = true) (hb : n + 1 < scanBound) :
    ∀ (left done : List κ) (ks : List κ) (s : Shared), done ++ left = keys → ks.length ≤ done.length → St done.length s → SetK knd s.heap S ks →
      (∀ s', Moved (S :: wr) G s s' → SetK knd s'.heap S (gather ks left) → R (.ok (.ret .none)) s') → codeAny (model prog w) A (.builtin "set.update.loop" ⟨[.ref S, .ref I], []⟩) R s
  | [], done, ks, s, e, hl, hst, hS, hR => by
    have hSw : S ∉ wr := fun h => hSf (W.sub _ h)
    have hin : done.length = n := by rw [← hn, ← e]; simp
    refine codeAny_builtin PyProof.Rows.F.entry_set_update_loop ?_
    rw [Around.under_plainId PyProof.Rows.F.plain_set_update_loop _]
    show wpAny _ A.in1 (pyNext (.ref I) >>= _) _ _ s
    rw [hin] at hst
    refine wpAny_bind (W.done s _ _ hst fun s' hm => ?_)
    show wpAny _ A.in1 (ret Value.none) _ _ s'
    exact wpAny_pure (hR s' (hm.mono fun b hb => List.mem_cons_of_mem _ hb) (hS.keep fun o e => hm.heap S _ hSw e))
  | k :: left, done, ks, s, e, hl, hst, hS, hR => by
    have hSw : S ∉ wr := fun h => hSf (W.sub _ h)
    have hln : done.length + (left.length + 1) = n := by
      rw [← hn, ← e]
      simp
    refine codeAny_builtin PyProof.Rows.F.entry_set_update_loop ?_
    rw [Around.under_plainId PyProof.Rows.F.plain_set_update_loop _]
    show wpAny _ A.in1 (pyNext (.ref I) >>= _) _ _ s
    refine wpAny_bind (W.item done.length s _ _ (by omega) hst fun v s' hP hst' hm => ?_)
    obtain ⟨k', hk1, hk2, hk3⟩ := hval _ v hP
    have ek : k' = k := by
      rw [← e, List.getElem?_append_right (Nat.le_refl _), Nat.sub_self] at hk1
      simpa using hk1.symm
    subst ek
    have hS1 : SetK knd s'.heap S ks := hS.keep fun o e => hm.heap S _ hSw e
    show wpAny _ A.in1 (holding [v] (setAdd S v) >>= _) _ _ s'
    refine wpAny_bind (wpAny_holding ?_)
    unfold setAdd
    refine wpAny_holding (wpAny_bind (knd.pyHash hk2 ?_))
    refine addHashed (s := { s' with toks := s'.toks + 1 }) hk2 hk3 hS1 (by omega) fun h' bb sb hS2 => ?_
    refine wpAny_pure ⟨plainId_quiet PyProof.Rows.F.plain_set_update_loop _, ?_⟩
    have e2 : (done ++ [k']).length = done.length + 1 := by simp
    refine fillLoop W hSf keys hn hval hb left (done ++ [k']) (addK ks k') _ (by rw [← e]; simp) ?_ ?_ hS2 fun s'' hm'' hS'' => ?_
    · have := addK_len (ks := ks) (k := k')
      rw [e2]
      omega
    · rw [e2]
      refine W.frame _ s' _ _ hst' (Nat.le_succ _) fun b hb o e => ?_
      rw [sb.2 b fun h => hSf (h ▸ hb)]
      exact e
    · refine hR s'' (Moved.trans W.gtrans ((hm.mono fun b hb => List.mem_cons_of_mem _ hb).then_heap (Nat.le_succ _) fun b o hb e => ?_) hm'') hS''
      rw [sb.2 b fun h => hb (h ▸ List.mem_cons_self)]
      exact e
theorem codeNewSet {x : Value} {Q₁ : Value → Shared → Prop}
    (h : Q₁ (.ref s.heap.objs.size) { s with heap := s.heap.push { cls := .type "set", dict := none, data := .set #[] 0 (.fresh 0 0 (!w.params.followText "set-order")) } }) :
    codeAny (model prog w) A (.call (.builtin "set.__new__") ⟨[.type "set", x], []⟩) (wants Q₁ E) s := by
  refine codeAny_of_tree ?_
  show wpAny _ A.in1 (do checkBuiltinCall "set.__new__" ⟨[.type "set", x], []⟩; again (.builtin "set.__new__" ⟨[.type "set", x], []⟩)) _ _ s
  refine wpAny_bind (wpAny_of_eq (PySem.F.newCall_set_1 x) (wpAny_pure ⟨plainId_quiet PySem.F.plain_set_new _, codeAny_builtin PySem.F.entry_set_new ?_⟩))
  rw [Around.under_plainId PySem.F.plain_set_new _]
  unfold Builtin.«set.__new__» Builtin.Frozenset.newClass
  have hsub := PySem.sub_set_self
  obtain ⟨hp, g, d, tk, os⟩ := s
  dsimp only
  wp_walk
  refine wpAny_askSetting (wpAny_pure ?_)
  dsimp only
  simp only [newObj]
  exact wpAny_bind (wpAny_alloc (wpAny_pure (wpAny_pure h)))
theorem call_setList {κ : Type} [DecidableEq κ] (knd : KeyKind prog w κ) {l : Addr} {items : Array Value} {keys : List κ} {Q : Value → Shared → Prop}
    (hh : A.handled = none) (hl : s.heap.IsList l items) (hi : Paired (fun v k => knd.is k v = true ∧ v.scannable = true) items.toList keys) (hb : keys.length + 1 < scanBound)
    (h : ∀ (h' : Heap) (tk : Nat), SetK knd h' s.heap.objs.size (gather [] keys) → (∀ b o, s.heap.get? b = some o → h'.get? b = some o) → Q (.ref s.heap.objs.size) { s with heap := h', toks := tk }) :
    wpAny (model prog w) A (call (.type "set") [.ref l]) Q E s := by
  obtain ⟨c, tl, hmro⟩ := PySem.F.called_set.mro
  have hmade := PySem.F.called_set.made
  have hsub := PySem.F.called_set.sub
  refine wpAny_call (codeAny_of_tree ?_)
  show wpAny _ _ (callAny (.type "set") _) _ _ _
  refine wpAny_pure ⟨Code.quiet_builtin _ (by decide +kernel), codeAny_builtin PySem.F.entry_type_call ?_⟩
  rw [Around.under_plain (weight_type_call_type "set" [.ref l] []) rfl]
  have h1 := PySem.F.called_set.notType
  have h2 := PySem.F.called_set.canCreate
  have hct := PySem.F.typeCall_set_1 (.ref l)
  repeat (any_goals (first | assumption | wp_step))
  generalize hnew : ({ cls := .type "set", dict := none, data := .set #[] 0 (.fresh 0 0 (!w.params.followText "set-order")) } : Obj) = ob
  refine codeAny_mono (codeNewSet (E := E) (x := .ref l) (Q₁ := fun obj s₁ => obj = .ref s.heap.objs.size ∧ s₁ = { s with heap := s.heap.push ob }) (by rw [hnew]; exact ⟨rfl, rfl⟩)) fun r s₁ hr => ?_
  cases r with
  | error e => exact hr
  | ok fl =>
    cases fl with
    | ret obj =>
      obtain ⟨rfl, rfl⟩ := hr
      have hS : (s.heap.push ob).get? s.heap.objs.size = some ob := Heap.get?_push_size _ (by rw [← hnew]; rfl)
      have hcl : ob.cls = .type "set" := by rw [← hnew]
      have hT : Shared.TypeIs { s with heap := s.heap.push ob } (.ref s.heap.objs.size) "set" := ⟨_, hS, hcl⟩
      have hli := PySem.F.called_set.init.lookup
      have hbi := PySem.F.called_set.init.bind (.ref s.heap.objs.size)
      repeat (any_goals (first | assumption | wp_step))
      refine codeAny_mono (codeAny_call_builtin (R := wants (fun r s₂ => r = .none ∧ ∃ h' tk, s₂ = { s with heap := h', toks := tk } ∧ SetK knd h' s.heap.objs.size (gather [] keys) ∧ (∀ b o, s.heap.get? b = some o → h'.get? b = some o)) E)
        PySem.F.called_set.init.plain PySem.F.entry_set_init (check_set_init_1 hT ?_)) fun r₂ s₂ hr₂ => ?_
      · have hSK : SetK knd (s.heap.push ob) s.heap.objs.size [] := ⟨#[], 0, .fresh 0 0 (!w.params.followText "set-order"), [], ⟨⟨_, hS, by rw [← hnew]; exact ⟨rfl, rfl, rfl⟩, by rw [← hnew]⟩, .nil, List.nodup_nil, by decide, rfl, rfl, fresh_tidy _ _ _⟩, List.Perm.refl _⟩
        obtain ⟨ol, hol, hcl2, nl, hdl⟩ := hl
        obtain ⟨ocls, odict, odata, oslots⟩ := ol
        simp only at hcl2 hdl
        subst hcl2 hdl
        have hol' : (s.heap.push ob).get? l = some { cls := .type "list", dict := odict, data := .seq items nl, slots := oslots } := Heap.get?_push_of_some _ hol
        have hl1 : (s.heap.push ob).IsList l items := ⟨_, hol', rfl, nl, rfl⟩
        have hsls := PySem.F.sub_list_set
        have hslf := PySem.F.sub_list_frozenset
        have hne : (Value.type "list" == Value.type "dict") = false := by decide
        subst hnew
        unfold Builtin.«set.__init__» noKeywords Builtin.Frozenset.updateFrom
        generalize hPI : pyIter = PI
        wp_walk
        subst hPI
        generalize hnew : ({ cls := .type "set", dict := none, data := .set #[] 0 (.fresh 0 0 (!w.params.followText "set-order")) } : Obj) = ob at *
        refine wpAny_pyIter_list hl1 (wpAny_bind (wpAny_runValue ?_))
        have hlS : l < s.heap.objs.size := Heap.lt_size hol
        have hh3 : A.in1.in1.in1.handled = none := by simp [hh]
        have hneI : l ≠ (s.heap.push ob).objs.size := by
          rw [Heap.size_push]; exact Nat.ne_of_lt (Nat.lt_succ_of_lt hlS)
        have hSf : s.heap.objs.size ∉ [(s.heap.push ob).objs.size, l] := by
          rw [Heap.size_push]
          intro hm
          rcases List.mem_cons.mp hm with e | hm
          · exact absurd e (Nat.ne_of_lt (Nat.lt_succ_self _))
          · exact absurd (List.mem_singleton.mp hm) (Nat.ne_of_gt hlS)
        have hkl : keys.length = items.size := by
          have := Paired.length hi
          simpa using this.symm
        refine fillLoop (knd := knd) ((Walks.list hh3 _ l hneI items).toS) hSf keys hkl (fun i v hv => ?_) (by omega) keys [] [] _ rfl (Nat.le_refl _) ⟨⟨_, Heap.get?_push_size _ rfl, rfl, rfl⟩, hl1.push _⟩ (hSK.keep fun o e => Heap.get?_push_of_some _ e) fun s' hm hS' => ?_
        · have hv' : items.toList[i]? = some v := by rw [Array.getElem?_toList]; exact hv
          have hi1 : i < items.toList.length := (List.getElem?_eq_some_iff.mp hv').1
          have hi2 : i < keys.length := by rw [← Paired.length hi]; exact hi1
          have gen : ∀ {l1 : List Value} {l2 : List κ} {j : Nat} {u : Value}, Paired (fun v k => knd.is k v = true ∧ v.scannable = true) l1 l2 → l1[j]? = some u → ∃ k, l2[j]? = some k ∧ knd.is k u = true ∧ u.scannable = true := by
            intro l1 l2 j u hp
            induction hp generalizing j with
            | nil => intro z; simp at z
            | cons r t ih =>
              intro z
              cases j with
              | zero => simp at z; subst z; exact ⟨_, rfl, r⟩
              | succ j => simpa using ih (by simpa using z)
          exact gen hi hv'
        · obtain ⟨h', g', d', tk', os'⟩ := s'
          have eg : g' = s.gens := hm.gens
          have ed : d' = s.drawn := hm.drawn
          have eo : os' = s.os := hm.os
          subst eg ed eo
          show wpAny _ _ _ _ _ _
          refine wpAny_pure ?_
          show wpAny _ _ (ret Value.none) _ _ _
          refine wpAny_pure ⟨rfl, h', tk', rfl, hS', fun b o e => ?_⟩
          have hb1 : b ≠ s.heap.objs.size := Nat.ne_of_lt (Heap.lt_size e)
          have hb2 : b ≠ (s.heap.push ob).objs.size := by
            rw [Heap.size_push]; exact Nat.ne_of_lt (Nat.lt_succ_of_lt (Heap.lt_size e))
          refine hm.heap b o (fun hmem => ?_) (Heap.get?_push_of_some _ (Heap.get?_push_of_some _ e))
          rcases List.mem_cons.mp hmem with z | hmem
          · exact hb1 z
          · exact hb2 (List.mem_singleton.mp hmem)
      · cases r₂ with
        | error e => exact hr₂
        | ok fl₂ =>
          cases fl₂ with
          | ret r =>
            obtain ⟨rfl, h', tk, rfl, hS', hk'⟩ := hr₂
            repeat (any_goals (first | assumption | wp_step))
            exact h _ _ hS' hk'
          | _ => exact hr₂.elim
    | _ => exact hr.elim
end
end L2
namespace L2
open PySem PySem.Spec PyProof.Rows
theorem entry_set_iter : entryFor table "set.__iter__" = some Builtin.«frozenset.__iter__» :=
  entryFor_alias (id' := "frozenset.__iter__") (by kernel_rfl) rfl (by decide +kernel) (by kernel_rfl)
theorem slot_siter_next : Slot "set_iterator" "__next__" "set_iterator.__next__" :=
  .of (owner := "set_iterator") (n := "__next__") (by rw [typeLookup_type, builtinLookup_eq_fast]; kernel_rfl) (by decide +kernel) (by decide +kernel) (by decide +kernel)
    (by first | exact .inl (by decide +kernel) | exact .inr (by decide +kernel)) (by rw [isSubtype_type]; kernel_rfl)
theorem entry_siter_next : entryFor table "set_iterator.__next__" = some Builtin.«set_iterator.__next__» := entryFor_of_tree (by kernel_rfl)
theorem owner_siter : Manifest.owners.lookup (String.ofList ['r', 'o', 't', 'a', 'r', 'e', 't', 'i', '_', 't', 'e', 's'].reverse) = some Manifest.sig_set_iterator := by kernel_rfl
theorem args_siter_next (a : Value) : argsOk "set_iterator.__next__" ⟨[a], []⟩ := by
  unfold argsOk; rw [signature?_of (id := "set_iterator.__next__") (n := ['_', '_', 't', 'x', 'e', 'n', '_', '_']) (o := ['r', 'o', 't', 'a', 'r', 'e', 't', 'i', '_', 't', 'e', 's']) (by kernel_rfl) owner_siter]; kernel_rfl
theorem slot_siter_iter : Slot "set_iterator" "__iter__" "set_iterator.__iter__" :=
  .of (owner := "set_iterator") (n := "__iter__") (by rw [typeLookup_type, builtinLookup_eq_fast]; kernel_rfl) (by decide +kernel) (by decide +kernel) (by decide +kernel)
    (by first | exact .inl (by decide +kernel) | exact .inr (by decide +kernel)) (by rw [isSubtype_type]; kernel_rfl)
theorem entry_siter_iter : entryFor table "set_iterator.__iter__" = some Builtin.«dict_keyiterator.__iter__» :=
  entryFor_alias (id' := "dict_keyiterator.__iter__") (by kernel_rfl) rfl (by decide +kernel) (by kernel_rfl)
theorem args_siter_iter (a : Value) : argsOk "set_iterator.__iter__" ⟨[a], []⟩ := by
  unfold argsOk; rw [signature?_of (id := "set_iterator.__iter__") (n := ['_', '_', 'r', 'e', 't', 'i', '_', '_']) (o := ['r', 'o', 't', 'a', 'r', 'e', 't', 'i', '_', 't', 'e', 's']) (by kernel_rfl) owner_siter]; kernel_rfl
theorem setNext_eq (a : Addr) (slot given epochThen : Nat) : setNext a slot given epochThen = (do
    let (es, epoch, t) ← setState a
    if ← setsByText then
      if epoch != epochThen then unsupported "set_iterator.__next__:elements-changed"
      return ((← setWalk a)[given]?).map fun e => (e.2, slot)
    if (!t.plain && es.size > 1) then unsupported "set_iterator.__next__:the-table-is-plain-no-more"
    let _ ← (if (!t.led && !es.isEmpty) then (unsupported "set:maker-not-led" : Sem Unit) else pure ())
    let i := SetTable.below t.place slot
    return match es[i]?, t.place[i]? with
      | some (_, x), some j => some (x, j + 1)
      | _, _ => none) := rfl
theorem setDrawn_eq (a : Addr) : setDrawn a = (do
    let (es, _, t) ← setState a
    let byText ← setsByText
    return !byText && (!t.plain && es.size > 1)) := rfl
end L2
namespace L2
open PySem PySem.Spec PyProof.Rows
noncomputable def SIter (h : Heap) (it a : Addr) (first : Value) (i n ep : Nat) : Prop := ∃ o, h.get? it = some o ∧ o.cls = .type "set_iterator" ∧ o.data = .fields #[first, .int i 0, .ref a, .int n 0, .int ep 0]
theorem SIter.typeIs {s : Shared} {it a : Addr} {first : Value} {i n ep : Nat} (x : SIter s.heap it a first i n ep) : s.TypeIs (.ref it) "set_iterator" := let ⟨o, ho, hc, _⟩ := x; ⟨o, ho, hc⟩
theorem SIter.keep {h h' : Heap} {it a : Addr} {first : Value} {i n ep : Nat} (x : SIter h it a first i n ep) (k : ∀ o, h.get? it = some o → h'.get? it = some o) : SIter h' it a first i n ep := let ⟨o, ho, r⟩ := x; ⟨o, k o ho, r⟩
section
variable {prog : Program} {w : World} {κ : Type} [DecidableEq κ] {knd : KeyKind prog w κ} {A : Around} {E : Value → Shared → Prop} {s : Shared}
theorem siter_self {it a : Addr} {first : Value} {i n ep : Nat} {Q : Value → Shared → Prop} (x : SIter s.heap it a first i n ep) (h : Q (.ref it) s) : wpAny (model prog w) A (pyIter (.ref it)) Q E s := by
  refine wpAny_pyIter_slot x.typeIs slot_siter_iter (wpAny_call_entry slot_siter_iter x.typeIs entry_siter_iter ?_ (args_siter_iter _))
  show wpAny _ _ (ret (.ref it)) _ _ s
  exact wpAny_pure ⟨_, rfl, "set_iterator", _, x.typeIs, slot_siter_next.lookup, h⟩
theorem siter_int {it a : Addr} {slot i : Nat} {es : Array (Int × Value)} {ep : Nat} {t : SetTable} {ks : List κ} {v : Value} {nx : Nat} {Q : Option Value → Shared → Prop} (x : SIter s.heap it a (.int slot 0) i es.size ep) (S : SetAt knd s.heap a es ep t ks)
    (hn : ∀ (A' : Around) (E' : Value → Shared → Prop) (Q' : Option (Value × Nat) → Shared → Prop), Q' (some (v, nx)) s → wpAny (model prog w) A' (setNext a slot i ep) Q' E' s)
    (hQ : ∀ h', SIter h' it a (.int nx 0) (i + 1) es.size ep → Heap.SameBut it s.heap h' → Q (some v) { s with heap := h' }) : wpAny (model prog w) A (pyNext (.ref it)) Q E s := by
  obtain ⟨o, ho, hc, hd⟩ := id x
  obtain ⟨os, hos, hex, hds⟩ := S.obj
  unfold pyNext
  refine wpAny_bind (wpAny_attempt (wpAny_callSpecial?_slot (name := Str.ofString "__next__") x.typeIs slot_siter_next (wpAny_call_entry slot_siter_next x.typeIs entry_siter_next ?_ (args_siter_next _))))
  unfold Builtin.«set_iterator.__next__»
  refine wpAny_bind (wpAny_pure ?_)
  refine wpAny_bind (wpAny_fieldsOf ho hd ?_)
  dsimp only
  refine wpAny_bind (wpAny_setEntries_of hos hds S.fits ?_)
  rw [if_neg (by simp)]
  refine wpAny_bind ?_
  simp only [Int.toNat_natCast]
  refine hn _ _ _ ?_
  dsimp only
  refine wpAny_bind (wpAny_setField ho hd (by simp) ?_)
  have h1 := Heap.get?_update_self (Obj.mapFields (·.setIfInBounds 0 (rawInt (nx : Int)))) ho (Obj.isFreed_of_fields (Obj.data_mapFields hd _))
  have d1 := Obj.data_mapFields hd (·.setIfInBounds 0 (rawInt (nx : Int)))
  refine wpAny_bind (wpAny_setField h1 d1 (by simp) ?_)
  have h2 := Heap.get?_update_self (Obj.mapFields (·.setIfInBounds 1 (rawInt ((i : Int) + 1)))) h1 (Obj.isFreed_of_fields (Obj.data_mapFields d1 _))
  have d2 := Obj.data_mapFields d1 (·.setIfInBounds 1 (rawInt ((i : Int) + 1)))
  refine wpAny_pure ⟨_, rfl, wpAny_pure (hQ _ ⟨_, h2, ?_, ?_⟩ ((Heap.SameBut.update ..).trans (Heap.SameBut.update ..)))⟩
  · exact (Obj.cls_mapFields ..).trans ((Obj.cls_mapFields ..).trans hc)
  · rw [d2]; simp [rawInt]
theorem siter_tup {it a tp : Addr} {i p : Nat} {pl : Array Value} {tk : Tok} {es : Array (Int × Value)} {ep : Nat} {t : SetTable} {ks : List κ} {e : Int × Value} {Q : Option Value → Shared → Prop} (x : SIter s.heap it a (.ref tp) i es.size ep) (S : SetAt knd s.heap a es ep t ks)
    (ht : s.heap.IsTuple tp pl) (hp : pl[i]? = some (.int p tk)) (he : es[p]? = some e)
    (hQ : ∀ h', SIter h' it a (.ref tp) (i + 1) es.size ep → Heap.SameBut it s.heap h' → Q (some e.2) { s with heap := h' }) : wpAny (model prog w) A (pyNext (.ref it)) Q E s := by
  obtain ⟨o, ho, hc, hd⟩ := id x
  obtain ⟨os, hos, hex, hds⟩ := S.obj
  obtain ⟨ot, hot, hct, nt, hdt⟩ := id ht
  unfold pyNext
  refine wpAny_bind (wpAny_attempt (wpAny_callSpecial?_slot (name := Str.ofString "__next__") x.typeIs slot_siter_next (wpAny_call_entry slot_siter_next x.typeIs entry_siter_next ?_ (args_siter_next _))))
  unfold Builtin.«set_iterator.__next__»
  refine wpAny_bind (wpAny_pure ?_)
  refine wpAny_bind (wpAny_fieldsOf ho hd ?_)
  dsimp only
  refine wpAny_bind (wpAny_setEntries_of hos hds S.fits ?_)
  rw [if_neg (by simp)]
  refine wpAny_bind (wpAny_seqItems hot hdt ?_)
  dsimp only
  simp only [Int.toNat_natCast]
  rw [hp]
  dsimp only
  refine wpAny_bind ?_
  unfold setNextDrawn
  refine wpAny_bind (wpAny_setState_of hos hds S.fits ?_)
  dsimp only
  simp only [Int.toNat_natCast, bne_self_eq_false, Bool.false_eq_true, ↓reduceIte]
  rw [he]
  refine wpAny_pure ?_
  refine wpAny_bind (wpAny_setField ho hd (by simp) ?_)
  have h2 := Heap.get?_update_self (Obj.mapFields (·.setIfInBounds 1 (rawInt ((i : Int) + 1)))) ho (Obj.isFreed_of_fields (Obj.data_mapFields hd _))
  have d2 := Obj.data_mapFields hd (·.setIfInBounds 1 (rawInt ((i : Int) + 1)))
  refine wpAny_pure ⟨_, rfl, wpAny_pure (hQ _ ⟨_, h2, (Obj.cls_mapFields ..).trans hc, ?_⟩ (Heap.SameBut.update ..))⟩
  rw [d2]; simp [rawInt]
theorem stop_raise {it : Addr} {h0 h1 : Heap} {Q : Option Value → Shared → Prop} (hh : A.handled = none) (sb : Heap.SameBut it h0 h1) (hs : s.heap = h1) (hQ : ∀ h', Heap.ExtBut it h0 h' → Q none { s with heap := h' }) :
    wpAny (model prog w) A (newExc (.type "StopIteration") [] >>= fun e => raiseNew (α := Fin) e) (fun fin s' => ∃ v, fin = .done (.ret v) ∧ False)
      (fun e s' => wpAny (model prog w) A (do if ← isInstance e (.type "StopIteration") then pure (none : Option Value) else throw e) Q E s') s := by
  subst hs
  refine wpAny_bind ?_
  simp only [newExc, newTuple]
  refine wpAny_bind (wpAny_newObj_type ?_ (by size_fits))
  refine wpAny_bind (m := firstArgMember _ _) (wpAny_of_eq (a := Value.none) (by first | rfl | (simp only [firstArgMember]; rfl)) ?_)
  refine wpAny_newObj_type ?_ (by size_fits)
  simp only [raiseNew]
  refine wpAny_bind (wpAny_handled ?_)
  rw [hh]
  refine wpAny_bind (wpAny_pure (wpAny_throw ?_))
  refine wpAny_bind (wpAny_isInstance (T := "StopIteration") (b := true) ⟨_, Heap.get?_push_size _ rfl, rfl⟩ isSubtype_stop ?_)
  exact wpAny_pure (hQ _ ((sb.extBut.push _).push _))
end
end L2
namespace L2
open PySem PySem.Spec PyProof.Rows
section
variable {prog : Program} {w : World} {κ : Type} [DecidableEq κ] {knd : KeyKind prog w κ} {A : Around} {E : Value → Shared → Prop} {s : Shared}
theorem siter_int_end {it a : Addr} {slot i : Nat} {es : Array (Int × Value)} {ep : Nat} {t : SetTable} {ks : List κ} {Q : Option Value → Shared → Prop} (hh : A.handled = none) (x : SIter s.heap it a (.int slot 0) i es.size ep) (S : SetAt knd s.heap a es ep t ks)
    (hn : ∀ (A' : Around) (E' : Value → Shared → Prop) (Q' : Option (Value × Nat) → Shared → Prop), Q' none s → wpAny (model prog w) A' (setNext a slot i ep) Q' E' s)
    (hQ : ∀ h', Heap.ExtBut it s.heap h' → Q none { s with heap := h' }) : wpAny (model prog w) A (pyNext (.ref it)) Q E s := by
  obtain ⟨o, ho, hc, hd⟩ := id x
  obtain ⟨os, hos, hex, hds⟩ := S.obj
  unfold pyNext
  refine wpAny_bind (wpAny_attempt (wpAny_callSpecial?_slot (name := Str.ofString "__next__") x.typeIs slot_siter_next (wpAny_call_entry slot_siter_next x.typeIs entry_siter_next ?_ (args_siter_next _))))
  unfold Builtin.«set_iterator.__next__»
  refine wpAny_bind (wpAny_pure ?_)
  refine wpAny_bind (wpAny_fieldsOf ho hd ?_)
  dsimp only
  refine wpAny_bind (wpAny_setEntries_of hos hds S.fits ?_)
  rw [if_neg (by simp)]
  refine wpAny_bind ?_
  simp only [Int.toNat_natCast]
  refine hn _ _ _ ?_
  dsimp only
  refine wpAny_bind (wpAny_setField ho hd (by simp) ?_)
  exact wpAny_mono (stop_raise (A := A.in1) (s := { s with heap := _ }) hh (Heap.SameBut.update ..) rfl fun h' eb => hQ h' eb) (fun _ _ h => let ⟨_, _, f⟩ := h; f.elim) fun _ _ h => wpAny_of_in1 h
theorem siter_tup_end {it a tp : Addr} {i : Nat} {pl : Array Value} {es : Array (Int × Value)} {ep : Nat} {t : SetTable} {ks : List κ} {Q : Option Value → Shared → Prop} (hh : A.handled = none) (x : SIter s.heap it a (.ref tp) i es.size ep) (S : SetAt knd s.heap a es ep t ks)
    (ht : s.heap.IsTuple tp pl) (hp : pl[i]? = none)
    (hQ : ∀ h', Heap.ExtBut it s.heap h' → Q none { s with heap := h' }) : wpAny (model prog w) A (pyNext (.ref it)) Q E s := by
  obtain ⟨o, ho, hc, hd⟩ := id x
  obtain ⟨os, hos, hex, hds⟩ := S.obj
  obtain ⟨ot, hot, hct, nt, hdt⟩ := id ht
  unfold pyNext
  refine wpAny_bind (wpAny_attempt (wpAny_callSpecial?_slot (name := Str.ofString "__next__") x.typeIs slot_siter_next (wpAny_call_entry slot_siter_next x.typeIs entry_siter_next ?_ (args_siter_next _))))
  unfold Builtin.«set_iterator.__next__»
  refine wpAny_bind (wpAny_pure ?_)
  refine wpAny_bind (wpAny_fieldsOf ho hd ?_)
  dsimp only
  refine wpAny_bind (wpAny_setEntries_of hos hds S.fits ?_)
  rw [if_neg (by simp)]
  refine wpAny_bind (wpAny_seqItems hot hdt ?_)
  dsimp only
  simp only [Int.toNat_natCast]
  rw [hp]
  dsimp only
  refine wpAny_bind (wpAny_setField ho hd (by simp) ?_)
  have h1 := Heap.get?_update_self (Obj.mapFields (·.setIfInBounds 0 (rawInt 0))) ho (Obj.isFreed_of_fields (Obj.data_mapFields hd _))
  have d1 := Obj.data_mapFields hd (·.setIfInBounds 0 (rawInt 0))
  refine wpAny_bind (wpAny_setField h1 d1 (by simp) ?_)
  exact wpAny_mono (stop_raise (A := A.in1) (s := { s with heap := _ }) hh ((Heap.SameBut.update ..).trans (Heap.SameBut.update ..)) rfl fun h' eb => hQ h' eb) (fun _ _ h => let ⟨_, _, f⟩ := h; f.elim) fun _ _ h => wpAny_of_in1 h
theorem next_text {a : Addr} {es : Array (Int × Value)} {ep i : Nat} {t : SetTable} {ks : List κ} (S : SetAt knd s.heap a es ep t ks) (hb : w.params.followText "set-order" = true) {Q : Option (Value × Nat) → Shared → Prop}
    (h : Q (((pickOrder (w.params.setOrder a ep) es)[i]?).map fun e => (e.2, 0)) s) : wpAny (model prog w) A (setNext a 0 i ep) Q E s := by
  obtain ⟨o, ho, hex, hd⟩ := S.obj
  rw [setNext_eq]
  refine wpAny_bind (wpAny_setState_of ho hd S.fits ?_)
  dsimp only
  unfold setsByText
  refine wpAny_bind (wpAny_bind (wpAny_askSetting (wpAny_pure ?_)))
  have hb' : (model prog w).w.params.followText "set-order" = true := hb
  rw [if_pos hb']
  simp only [bne_self_eq_false, Bool.false_eq_true, ↓reduceIte]
  rw [setWalk_eq]
  refine wpAny_bind (wpAny_bind (wpAny_setState_of ho hd S.fits ?_))
  dsimp only
  unfold setsByText
  refine wpAny_bind (wpAny_bind (wpAny_askSetting (wpAny_pure ?_)))
  rw [if_pos hb']
  refine wpAny_bind (wpAny_askSetting (wpAny_pure ?_))
  exact wpAny_pure h
theorem next_slot {a : Addr} {es : Array (Int × Value)} {ep slot i : Nat} {t : SetTable} {ks : List κ} (S : SetAt knd s.heap a es ep t ks) (hb : w.params.followText "set-order" = false) (hp : (!t.plain && decide (es.size > 1)) = false) {Q : Option (Value × Nat) → Shared → Prop}
    (h : Q (match es[SetTable.below t.place slot]?, t.place[SetTable.below t.place slot]? with | some (_, x), some j => some (x, j + 1) | _, _ => none) s) : wpAny (model prog w) A (setNext a slot i ep) Q E s := by
  obtain ⟨o, ho, hex, hd⟩ := S.obj
  rw [setNext_eq]
  refine wpAny_bind (wpAny_setState_of ho hd S.fits ?_)
  dsimp only
  unfold setsByText
  refine wpAny_bind (wpAny_bind (wpAny_askSetting (wpAny_pure ?_)))
  have hb' : ¬ (model prog w).w.params.followText "set-order" = true := by
    show ¬ w.params.followText "set-order" = true
    rw [hb]; exact Bool.false_ne_true
  rw [if_neg hb']
  rw [if_neg (by rw [hp]; exact Bool.false_ne_true)]
  have hl : t.led = true := by rw [S.led, hb]; rfl
  rw [hl]
  exact wpAny_bind (wpAny_pure (wpAny_pure h))
noncomputable def slotAt (t : SetTable) : Nat → Nat
  | 0 => 0
  | i + 1 => t.place.getD i 0 + 1
theorem below_slotAt {t : SetTable} (hr : Rise t.place) {i : Nat} (hi : i ≤ t.place.size) : SetTable.below t.place (slotAt t i) = i := by
  refine (below_cut hr _).one ⟨hi, fun j hj hl => ?_, fun j hj hl => ?_⟩
  · cases i with
    | zero => exact absurd hl (Nat.not_lt_zero _)
    | succ i =>
      show t.place[j] < t.place.getD i 0 + 1
      have hi' : i < t.place.size := by omega
      have eg : t.place.getD i 0 = t.place[i] := by simp [Array.getD, hi']
      rw [eg]
      by_cases e : j = i
      · subst e; omega
      · have := hr j i hj hi' (by omega)
        omega
  · cases i with
    | zero => exact Nat.zero_le _
    | succ i =>
      show t.place.getD i 0 + 1 ≤ t.place[j]
      have hi' : i < t.place.size := by omega
      have eg : t.place.getD i 0 = t.place[i] := by simp [Array.getD, hi']
      rw [eg]
      have := hr i j hi' hj (by omega)
      omega
theorem SetAt.psize {h : Heap} {a : Addr} {es : Array (Int × Value)} {ep : Nat} {t : SetTable} {ks : List κ} (S : SetAt knd h a es ep t ks) : t.place.size = es.size := by
  have := S.fits
  unfold SetTable.fits at this
  rw [Bool.and_eq_true] at this
  exact eq_of_beq this.1
theorem pair_small {t : SetTable} (h : t.place.size ≤ 1) : Rise t.place := fun i j hi hj hl => by omega
structure ByInt (prog : Program) (w : World) (a : Addr) (es : Array (Int × Value)) (ep : Nat) (t : SetTable) (ys : Array (Int × Value)) (sl : Nat → Nat) : Prop where
  perm : ys.toList.Perm es.toList
  next : ∀ {κ : Type} [DecidableEq κ] {knd : KeyKind prog w κ} {ks : List κ} (i : Nat) (s : Shared) (A : Around) (E : Value → Shared → Prop) (Q : Option (Value × Nat) → Shared → Prop), i ≤ es.size → SetAt knd s.heap a es ep t ks →
    Q (match ys[i]? with | some e => some (e.2, sl (i + 1)) | none => none) s → wpAny (model prog w) A (setNext a (sl i) i ep) Q E s
theorem byText {a : Addr} {es : Array (Int × Value)} {ep : Nat} {t : SetTable} (hb : w.params.followText "set-order" = true) : ByInt prog w a es ep t (pickOrder (w.params.setOrder a ep) es) (fun _ => 0) :=
  ⟨pickOrder_perm _ _, fun i s A E Q hi S h => next_text S hb (by
    cases e : (pickOrder (w.params.setOrder a ep) es)[i]? with
    | none => rw [e] at h; exact h
    | some x => rw [e] at h; exact h)⟩
theorem bySlot {h0 : Heap} {a : Addr} {es : Array (Int × Value)} {ep : Nat} {t : SetTable} {ks0 : List κ} (S0 : SetAt knd h0 a es ep t ks0) (hb : w.params.followText "set-order" = false) (hp : (!t.plain && decide (es.size > 1)) = false) : ByInt prog w a es ep t es (slotAt t) :=
  ⟨List.Perm.refl _, fun i s A E Q hi S h => next_slot S hb hp (by
    have hsz := S0.psize
    have hr : Rise t.place := by
      cases hpl : t.plain with
      | true => exact S0.tidy.rise hpl
      | false =>
        rw [hpl] at hp
        have : ¬ es.size > 1 := by simpa using hp
        exact pair_small (by omega)
    rw [below_slotAt hr (by omega)]
    by_cases hl : i < es.size
    · have e1 : es[i]? = some es[i] := by simp [hl]
      have e2 : t.place[i]? = some (t.place[i]'(by omega)) := by simp [hsz, hl]
      rw [e1] at h
      rw [e1, e2]
      have e3 : slotAt t (i + 1) = (t.place[i]'(by omega)) + 1 := by
        show t.place.getD i 0 + 1 = _
        simp [Array.getD, hsz, hl]
      rw [e3] at h
      exact h
    · have e1 : es[i]? = none := by simp; omega
      rw [e1] at h
      rw [e1]
      exact h)⟩
theorem walks_int {I a : Addr} {es ys : Array (Int × Value)} {ep : Nat} {t : SetTable} {ks : List κ} {sl : Nat → Nat} (hh : A.handled = none) (hne : a ≠ I) (B : ByInt prog w a es ep t ys sl) :
    Walks prog w A I [I, a] [I] es.size (fun i v => ∃ e, ys[i]? = some e ∧ e.2 = v) (fun i h => SIter h I a (.int (sl i) 0) i es.size ep ∧ SetAt knd h a es ep t ks) where
  sub := fun b hb => by simp at hb; simp [hb]
  frame := fun _ _ _ st hk => ⟨st.1.keep fun o e => hk I (by simp) o e, st.2.keep fun o e => hk a (by simp) o e⟩
  item := fun i s Q E hi st hQ => by
    have hy : ys.size = es.size := by have := B.perm.length_eq; simpa using this
    have e1 : ys[i]? = some (ys[i]'(by omega)) := by simp [hy, hi]
    refine siter_int (v := (ys[i]'(by omega)).2) (nx := sl (i + 1)) st.1 st.2 (fun A' E' Q' hq => B.next i s A' E' Q' (Nat.le_of_lt hi) st.2 (by rw [e1]; exact hq)) fun h' hit' sb => ?_
    exact hQ _ h' s.toks ⟨_, e1, rfl⟩ ⟨hit', st.2.keep fun o e => (sb.2 a hne).trans e⟩ fun b o hb e => (sb.2 b fun z => hb (by simp [z])).trans e
  done := fun s Q E st hQ => by
    have hy : ys.size = es.size := by have := B.perm.length_eq; simpa using this
    have e1 : ys[es.size]? = none := by simp [hy]
    exact siter_int_end hh st.1 st.2 (fun A' E' Q' hq => B.next _ s A' E' Q' (Nat.le_refl _) st.2 (by rw [e1]; exact hq)) fun h' eb => hQ h' s.toks fun b o hb e => eb b o (fun z => hb (by simp [z])) e
  self := fun _ _ _ _ st hQ => siter_self st.1 hQ
theorem walks_tup {I a tp : Addr} {es : Array (Int × Value)} {ep : Nat} {t : SetTable} {ks : List κ} {pl : List Nat} (hh : A.handled = none) (hne : a ≠ I) (hnt : tp ≠ I) (hp : pl.Perm (List.range es.size)) :
    Walks prog w A I [I, a, tp] [I] es.size (fun i v => ∃ p e, pl[i]? = some p ∧ es[p]? = some e ∧ e.2 = v) (fun i h => SIter h I a (.ref tp) i es.size ep ∧ SetAt knd h a es ep t ks ∧ h.IsTuple tp (pl.map fun (p : Nat) => Value.int p 0).toArray) where
  sub := fun b hb => by simp at hb; simp [hb]
  frame := fun _ _ _ st hk => ⟨st.1.keep fun o e => hk I (by simp) o e, st.2.1.keep fun o e => hk a (by simp) o e, let ⟨o, ho, r⟩ := st.2.2; ⟨o, hk tp (by simp) o ho, r⟩⟩
  item := fun i s Q E hi st hQ => by
    have hl : pl.length = es.size := by have := hp.length_eq; simpa using this
    have e1 : pl[i]? = some (pl[i]'(by omega)) := by simp [hl, hi]
    have hm : pl[i]'(by omega) < es.size := List.mem_range.mp (hp.mem_iff.mp (List.getElem_mem _))
    have e2 : es[pl[i]'(by omega)]? = some (es[pl[i]'(by omega)]) := by simp [hm]
    refine siter_tup (p := pl[i]'(by omega)) (tk := 0) (e := es[pl[i]'(by omega)]) st.1 st.2.1 st.2.2 (by simp [e1]) e2 fun h' hit' sb => ?_
    exact hQ _ h' s.toks ⟨_, _, e1, e2, rfl⟩ ⟨hit', st.2.1.keep fun o e => (sb.2 a hne).trans e, let ⟨o, ho, r⟩ := st.2.2; ⟨o, (sb.2 tp hnt).trans ho, r⟩⟩ fun b o hb e => (sb.2 b fun z => hb (by simp [z])).trans e
  done := fun s Q E st hQ => by
    have hl : pl.length = es.size := by have := hp.length_eq; simpa using this
    exact siter_tup_end hh st.1 st.2.1 st.2.2 (by simp [hl]) fun h' eb => hQ h' s.toks fun b o hb e => eb b o (fun z => hb (by simp [z])) e
  self := fun _ _ _ _ st hQ => siter_self st.1 hQ
end
end L2
namespace L2
open PySem PySem.Spec PyProof.Rows
section
variable {prog : Program} {w : World} {κ : Type} [DecidableEq κ] {knd : KeyKind prog w κ} {A : Around} {E : Value → Shared → Prop} {s : Shared}
theorem Walks.weaken {I : Addr} {fp wr : List Addr} {n : Nat} {P P' : Nat → Value → Prop} {St : Nat → Heap → Prop} (W : Walks prog w A I fp wr n P St) (hp : ∀ i v, P i v → P' i v) : Walks prog w A I fp wr n P' St :=
  ⟨W.sub, W.frame, fun i s Q E hi st hQ => W.item i s Q E hi st fun v h' tk p => hQ v h' tk (hp i v p), W.done, W.self⟩
theorem pyIterK {a : Addr} {ks : List κ} {Q : Value → Shared → Prop} (hS : SetK knd s.heap a ks)
    (h : ∀ (I : Addr) (h' : Heap) (dr : _) (fp : List Addr) (ys : List (Int × Value)) (ls : List κ) (St : Nat → Heap → Prop), (∀ b o, s.heap.get? b = some o → h'.get? b = some o) → (∀ b ∈ fp, b = a ∨ s.heap.objs.size ≤ b) → s.heap.objs.size ≤ I →
      Paired (Ent knd) ys ls → ls.Perm ks → (∀ A' : Around, A'.handled = none → Walks prog w A' I fp [I] ys.length (fun i v => ∃ e, ys[i]? = some e ∧ e.2 = v) St) → St 0 h' → Q (.ref I) { s with heap := h', drawn := dr }) :
    wpAny (model prog w) A (pyIter (.ref a)) Q E s := by
  obtain ⟨es, ep, t, ks', S, p⟩ := id hS
  obtain ⟨o, ho, hex, hd⟩ := S.obj
  have hlt : a < s.heap.objs.size := Heap.lt_size ho
  refine wpAny_pyIter_slot hS.typeIs PySem.F.slot_set_iter (wpAny_call_entry PySem.F.slot_set_iter hS.typeIs entry_set_iter ?_ (PySem.F.args_set_iter_1 _))
  unfold Builtin.«frozenset.__iter__»
  refine wpAny_bind (wpAny_pure ?_)
  refine wpAny_bind ?_
  unfold Builtin.Frozenset.sizeOf
  refine wpAny_bind (wpAny_setEntries_of ho hd S.fits (wpAny_pure ?_))
  refine wpAny_bind ?_
  rw [setDrawn_eq]
  refine wpAny_bind (wpAny_setState_of ho hd S.fits ?_)
  dsimp only
  unfold setsByText
  refine wpAny_bind (wpAny_bind (wpAny_askSetting (wpAny_pure (wpAny_pure ?_))))
  by_cases hdr : (!(model prog w).w.params.followText "set-order" && (!t.plain && decide (es.size > 1))) = true
  · rw [if_pos hdr]
    refine wpAny_bind (wpAny_drawOrder es.size (List.range es.size) (by simp) fun pl dr hpl => ?_)
    have hpll : pl.length = es.size := by have := hpl.length_eq; simpa using this
    simp only [newTuple]
    refine wpAny_bind (wpAny_newObj_type ?_ ?_)
    · refine wpAny_bind (epochK (knd := knd) (s := { s with heap := _, drawn := dr }) (S.keep fun o e => Heap.get?_push_of_some _ e) ?_)
      refine wpAny_bind (wpAny_newObj_type (wpAny_pure ⟨_, rfl, "set_iterator", _, ⟨_, Heap.get?_push_size _ rfl, rfl⟩, slot_siter_next.lookup, ?_⟩))
      have hP2 : (pl.map fun p => es.getD p default).Perm es.toList := by
        have e1 : es.toList = (List.range es.size).map fun p => es.getD p default := by
          refine List.ext_getElem (by simp) fun i h1 h2 => ?_
          have h3 : i < es.size := by simpa using h1
          simp [Array.getD, h3]
        have e2 := hpl.map fun p => es.getD p default
        rw [← e1] at e2
        exact e2
      obtain ⟨ls, q1, q2⟩ := Paired.perm hP2.symm S.ents
      refine h (s.heap.push { cls := .type "tuple", data := .seq (pl.map fun (i : Nat) => rawInt i).toArray }).objs.size _ dr [(s.heap.push { cls := .type "tuple", data := .seq (pl.map fun (i : Nat) => rawInt i).toArray }).objs.size, a, s.heap.objs.size] (pl.map fun p => es.getD p default) ls
        (fun i h => SIter h (s.heap.push { cls := .type "tuple", data := .seq (pl.map fun (i : Nat) => rawInt i).toArray }).objs.size a (.ref s.heap.objs.size) i es.size ep ∧ SetAt knd h a es ep t ks' ∧ h.IsTuple s.heap.objs.size (pl.map fun (p : Nat) => Value.int p 0).toArray) (fun b o e => Heap.get?_push_of_some _ (Heap.get?_push_of_some _ e)) (fun b hb => ?_) ?_ q1 (q2.trans p) (fun A' hh' => ?_) ?_
      · rcases List.mem_cons.mp hb with e | hb
        · right; rw [e, Heap.size_push]; exact Nat.le_succ _
        · rcases List.mem_cons.mp hb with e | hb
          · exact .inl e
          · right; rw [List.mem_singleton.mp hb]; exact Nat.le_refl _
      · rw [Heap.size_push]; exact Nat.le_succ _
      · have W := walks_tup (prog := prog) (w := w) (knd := knd) (A := A') (ep := ep) (t := t) (ks := ks') (es := es) (pl := pl) (I := (s.heap.push { cls := .type "tuple", data := .seq (pl.map fun (i : Nat) => rawInt i).toArray }).objs.size) (a := a) (tp := s.heap.objs.size) hh'
          (by rw [Heap.size_push]; exact Nat.ne_of_lt (Nat.lt_succ_of_lt hlt)) (by rw [Heap.size_push]; exact Nat.ne_of_lt (Nat.lt_succ_self _)) hpl
        rw [List.length_map, hpll]
        refine Walks.weaken W fun i v hv => ?_
        obtain ⟨p, e, h1, h2, h3⟩ := hv
        refine ⟨e, ?_, h3⟩
        rw [List.getElem?_map, h1]
        obtain ⟨h4, h5⟩ := Array.getElem?_eq_some_iff.mp h2
        simp [Array.getD, h4, h5]
      · refine ⟨⟨_, Heap.get?_push_size _ rfl, rfl, rfl⟩, S.keep fun o e => Heap.get?_push_of_some _ (Heap.get?_push_of_some _ e), ⟨_, Heap.get?_push_of_some _ (Heap.get?_push_size _ rfl), rfl, 0, rfl⟩⟩
    · have hb := S.bnd
      have h0 : scanBound = 4096 := rfl
      have hz := sizeLine_eq
      show (pl.map fun (i : Nat) => rawInt i).toArray.size ≤ sizeLine
      rw [hz]
      simp [hpll]
      omega
  · rw [if_neg hdr]
    refine wpAny_bind (wpAny_pure (wpAny_bind (epochK (knd := knd) S ?_)))
    refine wpAny_bind (wpAny_newObj_type (wpAny_pure ⟨_, rfl, "set_iterator", _, ⟨_, Heap.get?_push_size _ rfl, rfl⟩, slot_siter_next.lookup, ?_⟩))
    have hB : ∃ ys sl, ByInt prog w a es ep t ys sl ∧ sl 0 = 0 := by
      by_cases hb : w.params.followText "set-order" = true
      · exact ⟨_, _, byText hb, rfl⟩
      · have hb' : w.params.followText "set-order" = false := by simpa using hb
        refine ⟨_, _, bySlot S hb' ?_, rfl⟩
        have hdr' : (!w.params.followText "set-order" && (!t.plain && decide (es.size > 1))) ≠ true := hdr
        rw [hb'] at hdr'
        simpa using hdr'
    obtain ⟨ys, sl, B, hz⟩ := hB
    obtain ⟨ls, q1, q2⟩ := Paired.perm B.perm.symm S.ents
    have hy : ys.toList.length = es.size := by have := B.perm.length_eq; simpa using this
    refine h s.heap.objs.size _ s.drawn [s.heap.objs.size, a] ys.toList ls (fun i h => SIter h s.heap.objs.size a (.int (sl i) 0) i es.size ep ∧ SetAt knd h a es ep t ks') (fun b o e => Heap.get?_push_of_some _ e) (fun b hb => ?_) (Nat.le_refl _) q1 (q2.trans p) (fun A' hh' => ?_) ?_
    · rcases List.mem_cons.mp hb with e | hb
      · right; rw [e]; exact Nat.le_refl _
      · exact .inl (List.mem_singleton.mp hb)
    · have W := walks_int (prog := prog) (w := w) (knd := knd) (A := A') (ks := ks') (I := s.heap.objs.size) (a := a) hh' (Nat.ne_of_lt hlt) B
      rw [hy]
      refine Walks.weaken W fun i v hv => ?_
      obtain ⟨e, h1, h2⟩ := hv
      exact ⟨e, by rw [Array.getElem?_toList]; exact h1, h2⟩
    · refine ⟨⟨_, Heap.get?_push_size _ rfl, rfl, ?_⟩, S.keep fun o e => Heap.get?_push_of_some _ e⟩
      rw [hz]; rfl
theorem silent_set {a : Addr} (hS : ∃ ks, SetK knd s.heap a ks) {Q : Bool → Shared → Prop} (h : Q false s) : wpAny (model prog w) A (Builtin.List.listLengthHint (.ref a)) Q E s := by
  obtain ⟨ks, hS⟩ := hS
  have hT := hS.typeIs
  unfold Builtin.List.listLengthHint
  refine wpAny_bind (wpAny_specialOf hT PySem.F.slot_set_len.lookup ?_)
  generalize hid : ("set.__len__" : String) = id0
  wp_delta
  rw [show splitId id0 = some ("set", "__len__") from by subst hid; decide +kernel]
  subst hid
  refine wpAny_bind (wpAny_isInstance (T := "set") (b := true) hT PySem.sub_set_self ?_)
  refine wpAny_ite_split (fun hab => absurd hab (by decide)) (fun _ => ?_)
  refine wpAny_ite_split (fun _ => ?_) (fun hab => absurd (by decide +kernel) hab)
  refine wpAny_bind (wpAny_typeOf hT ?_)
  exact wpAny_pure h
theorem extendK {R : Result → Shared → Prop} {a S : Addr} {ks : List κ} (hh : A.handled = none) (hS : SetK knd s.heap a ks) (hne : S ≠ a) (hO : s.heap.get? S = some { cls := .type "list", data := .seq #[] 0 })
    (hR : ∀ h' tk dr (acc : Array Value) c (ls : List κ), (∀ b o, b ≠ S → s.heap.get? b = some o → h'.get? b = some o) → h'.get? S = some { cls := .type "list", dict := none, data := .seq acc c, slots := #[] } → Paired (fun v k => knd.is k v = true ∧ v.scannable = true) acc.toList ls → ls.Perm ks →
      R (.ok (.ret (.ref S))) { s with heap := h', toks := tk, drawn := dr }) :
    wpAny (model prog w) A.in1 (Builtin.List.listExtendWith (.ref S) (.ref a) (.ref S))
      (fun fin s' => match fin with | .done f => R (.ok f) s' | .again c' => c'.quiet = true ∧ codeAny (model prog w) A c' R s') (fun e s' => R (.error e) s') s := by
  unfold Builtin.List.listExtendWith
  refine wpAny_bind (wpAny_typeOf (T := "set") hS.typeIs ?_)
  have h1 : Builtin.List.listSameRef (.ref S) (.ref a) = false := by simp [Builtin.List.listSameRef, hne]
  have h2 : (Value.type "set" == Value.type "list") = false := by decide
  have h3 : (Value.type "set" == Value.type "tuple") = false := by decide
  simp only [h1, h2, h3, Bool.or_false, Bool.false_eq_true, if_false]
  have hSl := Heap.lt_size hO
  refine wpAny_bind (pyIterK hS fun I h' dr fp ys ls St hk hfp hI hy hp W st => ?_)
  have hO' := hk _ _ hO
  have hbnd : ys.length ≤ sizeLine := by
    obtain ⟨es, ep, t, ks', S', p⟩ := hS
    have e1 := S'.bnd
    have e2 := Ents.len S'.ents
    have e3 := Paired.length hy
    have e4 := hp.length_eq
    have e5 := p.length_eq
    have e6 : scanBound = 4096 := rfl
    rw [sizeLine_eq]
    omega
  have hSf : S ∉ fp := fun hm => by
    rcases hfp S hm with e | e
    · exact hne e
    · exact absurd hSl (Nat.not_lt.mpr e)
  refine wpAny_bind (wpAny_holding (silent_set (knd := knd) (s := { s with heap := h', drawn := dr }) ⟨ks, hS.keep fun o e => hk _ _ e⟩ ?_))
  have key : ∀ (h1 : Heap) (c₁ tk : Nat), St 0 h1 → (∀ b o, b ≠ S → h'.get? b = some o → h1.get? b = some o) → h1.get? S = some { cls := .type "list", data := .seq #[] c₁ } →
      codeAny (model prog w) A (.builtin "list.extend.loop" ⟨[.ref S, .ref I, .ref S], []⟩) R { s with heap := h1, toks := tk, drawn := dr } := by
    intro h1 c₁ tk st1 hk1 hS1
    refine codeAny_extend_loopS (W A.in1 hh).toS hbnd S hSf (.ref S) ys.length 0 _ #[] c₁ rfl (Nat.zero_le _) st1 hS1 (ItemsOf.nil _) fun s' acc' c' hm hS' hacc => ?_
    rw [Moved.eq_with hm]
    refine hR s'.heap s'.toks dr acc' c' ls (fun b o hb e => hm.heap b o (fun hmem => ?_) (hk1 b o hb (hk b o e))) hS' ?_ hp
    · rcases List.mem_cons.mp hmem with e' | hmem
      · exact hb e'
      · have := Heap.lt_size e
        rw [List.mem_singleton.mp hmem] at this
        exact absurd this (Nat.not_lt.mpr hI)
    · have gen : ∀ (ys : List (Int × Value)) (ls : List κ) (acc : List Value), Paired (Ent knd) ys ls → acc.length = ys.length → (∀ (j : Nat) (v : Value), acc[j]? = some v → ∃ e, ys[j]? = some e ∧ e.2 = v) → Paired (fun v k => knd.is k v = true ∧ v.scannable = true) acc ls := by
        intro ys ls acc hy
        induction hy generalizing acc with
        | nil =>
          intro hl _
          cases acc with
          | nil => exact .nil
          | cons _ _ => simp at hl
        | cons r t ih =>
          intro hl hv
          cases acc with
          | nil => simp at hl
          | cons v acc =>
            obtain ⟨e, e1, e2⟩ := hv 0 v rfl
            simp only [List.getElem?_cons_zero, Option.some.injEq] at e1
            subst e1 e2
            exact .cons ⟨r.1, r.2.2⟩ (ih acc (by simpa using hl) fun j u hu => by simpa using hv (j + 1) u (by simpa using hu))
      exact gen ys ls acc'.toList hy (by rw [Array.length_toList]; exact hacc.1) fun j v e => hacc.2 j v (by rw [← Array.getElem?_toList]; exact e)
  refine wpAny_ite_split (fun _ => ?_) (fun _ => wpAny_pure ⟨plainId_quiet PySem.F.plain_extend_loop _, key _ 0 _ st (fun b o _ e => e) hO'⟩)
  refine wpAny_bind (wpAny_rule ?_)
  refine wpAny_bind ?_
  show wpAny _ _ (updateSeq S (·.push .none) >>= fun _ => updateSeq S (·.pop)) _ _ _
  refine wpAny_bind (wpAny_updateSeq hO' rfl ?_)
  have hS₂ := Heap.get?_update_self (Obj.mapSeq (·.push Value.none)) hO' rfl
  refine wpAny_updateSeq (hz := by seq_fits) hS₂ rfl ?_
  have hS₃ := Heap.get?_update_self (Obj.mapSeq (·.pop)) hS₂ rfl
  refine wpAny_pure ⟨plainId_quiet PySem.F.plain_extend_loop _, key _ _ _ ?_ (fun b o hb e => ?_) hS₃⟩
  · refine (W A.in1 hh).frame 0 _ _ st fun b hb o e => ?_
    have hbS : b ≠ S := fun h => hSf (h ▸ hb)
    exact (Heap.get?_update_other _ _ (Ne.symm hbS)).trans ((Heap.get?_update_other _ _ (Ne.symm hbS)).trans e)
  · exact (Heap.get?_update_other _ _ (Ne.symm hb)).trans ((Heap.get?_update_other _ _ (Ne.symm hb)).trans e)
theorem collectK {R : List Value → Shared → Prop} {a : Addr} {ks : List κ} (hh : A.handled = none) (hS : SetK knd s.heap a ks)
    (h : ∀ h' tk dr (acc : List Value) (ls : List κ), (∀ b o, s.heap.get? b = some o → h'.get? b = some o) → Paired (fun v k => knd.is k v = true ∧ v.scannable = true) acc ls → ls.Perm ks → R acc { s with heap := h', toks := tk, drawn := dr }) :
    wpAny (model prog w) A (collect (.ref a)) R E s := by
  have hlt := hS.lt
  unfold collect
  refine wpAny_bind (wpAny_runValue (codeAny_builtin entry_proto_collect' ?_))
  rw [Around.under_plainId PySem.F.plain_proto_collect _]
  show wpAny _ A.in1 (newList [] >>= fun l => again (.builtin "list.__iadd__" ⟨[l, .ref a], []⟩)) _ _ s
  refine wpAny_bind (wpAny_newObj_type ?_)
  refine wpAny_pure ⟨plainId_quiet PySem.F.plain_list_iadd _, codeAny_builtin entry_list_iadd' ?_⟩
  rw [Around.under_plainId PySem.F.plain_list_iadd _]
  have hS₁ : (s.heap.push { cls := .type "list", data := .seq ([] : List Value).toArray }).get? s.heap.objs.size = some { cls := .type "list", data := .seq #[] } := Heap.get?_push_size _ rfl
  show wpAny _ A.in1 (Builtin.List.listExtendWith (.ref s.heap.objs.size) (.ref a) (.ref s.heap.objs.size)) _ _ _
  have key := extendK (A := A) (knd := knd) (s := { s with heap := s.heap.push { cls := .type "list", data := .seq ([] : List Value).toArray } })
    (R := fun (q : Result) (s' : Shared) => ∃ (h' : Heap) (tk : Nat) (dr : _) (acc' : Array Value) (c' : Nat) (ls : List κ), q = .ok (.ret (.ref s.heap.objs.size)) ∧ s' = { s with heap := h', toks := tk, drawn := dr } ∧
      (∀ b o, s.heap.get? b = some o → h'.get? b = some o) ∧ h'.get? s.heap.objs.size = some { cls := .type "list", dict := none, data := .seq acc' c', slots := #[] } ∧ Paired (fun v k => knd.is k v = true ∧ v.scannable = true) acc'.toList ls ∧ ls.Perm ks)
    hh (hS.keep fun o e => Heap.get?_push_of_some _ e) (Nat.ne_of_gt hlt) hS₁
    (fun h' tk dr acc' c' ls hk hS' hacc hp => ⟨h', tk, dr, acc', c', ls, rfl, rfl, fun b o e => hk b o (Nat.ne_of_lt (Heap.lt_size e)) (Heap.get?_push_of_some _ e), hS', hacc, hp⟩)
  refine wpAny_mono key (fun fin s' x => ?_) fun e s' x => ?_
  · cases fin with
    | done f =>
      obtain ⟨h', tk, dr, acc', c', ls, e, rfl, hk, hS', hacc, hp⟩ := x
      cases e
      show wpAny _ A (load s.heap.objs.size >>= _) _ _ _
      refine wpAny_bind (wpAny_load hS' ?_)
      exact wpAny_pure (h h' tk dr acc'.toList ls hk hacc hp)
    | again c₁ =>
      refine ⟨x.1, codeAny_mono x.2 fun q s₂ y => ?_⟩
      obtain ⟨h', tk, dr, acc', c', ls, rfl, rfl, hk, hS', hacc, hp⟩ := y
      show wpAny _ A (load s.heap.objs.size >>= _) _ _ _
      refine wpAny_bind (wpAny_load hS' ?_)
      exact wpAny_pure (h h' tk dr acc'.toList ls hk hacc hp)
  · obtain ⟨_, _, _, _, _, _, e', _⟩ := x
    cases e'
end
end L2
namespace L2
open PySem PySem.Spec PyProof.Rows
noncomputable def setO (P : Program) (w : World) (a : Addr) (ks : List Int) : HO := .ext fun h => SetK (PySem.intKind P w) h a ks
section
variable {X : Cx} {pins : List (Addr × Obj)} {σ : St} {H : Hp} {s : Shared}
theorem Inv.dr (I : Inv X pins σ H s) (d : Drawn) : Inv X pins σ H { s with drawn := d } := ⟨I.ok, I.os, I.bare, I.base, I.loc, I.cell, I.free, I.freeC, I.pin, I.hok, I.len⟩
theorem setO_ok {P : Program} {w : World} {H : Hp} {h : Heap} {a : Addr} {ks : List Int} (x : SetK (PySem.intKind P w) h a ks) : ObjOk P w H h a (setO P w a ks) := by
  refine ⟨x, ?_, fun h1 h2 y k => y.keep k⟩
  obtain ⟨_, _, _, _, y, _⟩ := x
  obtain ⟨o, ho, _⟩ := y.obj
  exact ⟨o, ho⟩
theorem Inv.setK (I : Inv X pins σ H s) {a : Addr} {ks : List Int} (h : H a = some (setO X.prog X.w a ks)) : SetK (PySem.intKind X.prog X.w) s.heap a ks := (I.hok a _ h).1
theorem Inv.newSet {h' : Heap} {ks : List Int} {d : Drawn} {tk : Nat} (I : Inv X pins σ H s) (k : ∀ b u, s.heap.get? b = some u → h'.get? b = some u) (x : SetK (PySem.intKind X.prog X.w) h' s.heap.objs.size ks) :
    Inv X pins σ (upd H s.heap.objs.size (setO X.prog X.w s.heap.objs.size ks)) { s with heap := h', drawn := d, toks := tk } :=
  (I.laid (t' := tk) k (Nat.le_refl _) (setO_ok x)).dr d
theorem ints_keys {P : Program} {w : World} : ∀ {ns : List Int} {us : List Value}, Vals (ns.map V.int) us → Paired (fun v k => (PySem.intKind P w).is k v = true ∧ v.scannable = true) us ns
  | [], _, .nil => .nil
  | n :: ns, _, .cons r t => by
    obtain ⟨tk, rfl⟩ := r
    exact .cons ⟨intKind_is _ _ _ _, rfl⟩ (ints_keys t)
theorem keys_ints {P : Program} {w : World} : ∀ {ns : List Int} {us : List Value}, Paired (fun v k => (PySem.intKind P w).is k v = true ∧ v.scannable = true) us ns → IntsAre us ns
  | _, _, .nil => .nil
  | n :: ns, _, .cons r t => by
    obtain ⟨tk, e⟩ := Value.isInt_shape r.1
    rw [e]
    exact .cons _ _ (keys_ints t)
theorem ints_vals : ∀ {ns : List Int} {us : List Value}, IntsAre us ns → Vals (ns.map V.int) us
  | _, _, .nil => .nil
  | _, _, .cons n t r => .cons ⟨t, rfl⟩ (ints_vals r)
noncomputable def rSet (P : Program) (w : World) (K : PySem.W.Frag) : List V → Hp → VK → Prop := fun xs H Q => ∃ (a : Addr) (ns : List Int), xs = [.ref a] ∧ SqL K H a (ns.map V.int) ∧ ns.length < 1000 ∧ ∀ p, H p = none → Q (.ref p) (upd H p (setO P w p (gather [] ns)))
theorem call_set (hc : X.calm = true) : CallR X (.type "set") (rSet X.prog X.w X.K) := by
  intro pins s σ H xs us Q I r h
  obtain ⟨a, ns, rfl, ha, hl, q⟩ := h
  obtain ⟨u, rfl, ru⟩ := r.one
  cases ru
  obtain ⟨its, rv, p, hz⟩ := I.list ha
  refine call_setList (PySem.intKind X.prog X.w) (I.ok.hd hc) p.isList (by simpa using ints_keys rv) (by have h0 : scanBound = 4096 := rfl; omega) fun h' tk hS hk => ?_
  exact ⟨.ref s.heap.objs.size, _, I.newSet (d := s.drawn) hk hS, rfl, q _ I.fresh⟩
noncomputable def rAndS (P : Program) (w : World) : R2 := fun x y H Q => ∃ (a b : Addr) (ks ls : List Int), x = .ref a ∧ y = .ref b ∧ a ≠ b ∧ H a = some (setO P w a ks) ∧ H b = some (setO P w b ls) ∧ ks.length < 1000 ∧ ls.length < 1000 ∧
  ∀ p ms, H p = none → ms.Nodup → (∀ k, k ∈ ms ↔ k ∈ ks ∧ k ∈ ls) → Q (.ref p) (upd H p (setO P w p ms))
theorem entry_set_and : entryFor table "set.__and__" = some Builtin.«frozenset.__and__» :=
  entryFor_alias (id' := "frozenset.__and__") (by kernel_rfl) rfl (by decide +kernel) (by kernel_rfl)
theorem binarySet {id rid : String} {f : String → Addr → Value → Sem Value} {a b : Addr} {prog : Program} {w : World} {ks ls : List Int} {A : Around} {E : Value → Shared → Prop} {s : Shared} {Q : Value → Shared → Prop} (hA : SetK (PySem.intKind prog w) s.heap a ks) (hB : SetK (PySem.intKind prog w) s.heap b ls)
    (h : wpAny (model prog w) A (f id a (.ref b)) Q E s) :
    wpAny (model prog w) A (do
      if !(← Builtin.Frozenset.isAnySet (.ref a) <&&> Builtin.Frozenset.isAnySet (.ref b)) then rule rid; return ← ret .notImplemented
      ret (← f id (← Builtin.Frozenset.addrOf (.ref a)) (.ref b))) (fun fin s' => ∃ v, fin = .done (.ret v) ∧ Q v s') E s := by
  refine wpAny_bind (wpAny_bind (anySetK hA ?_))
  refine anySetK hB ?_
  simp only [Bool.not_true, Bool.false_eq_true, ↓reduceIte]
  refine wpAny_bind (wpAny_pure (wpAny_bind (thn h fun v s' q => ?_)))
  exact wpAny_pure ⟨v, rfl, q⟩
theorem op_andS : OpR X (binaryOp .BitAnd) (rAndS X.prog X.w) := by
  intro pins s σ H x y v u Q I rx ry h
  obtain ⟨a, b, ks, ls, rfl, rfl, hne, ha, hb, la, lb, q⟩ := h
  cases rx
  cases ry
  have hA := I.setK ha
  have hB := I.setK hb
  have h0 : scanBound = 4096 := rfl
  refine wpAny_binaryOp_same (op := .BitAnd) hA.typeIs hB.typeIs PySem.F.fills_set_and PySem.F.slot_set_and (wpAny_call_entry PySem.F.slot_set_and hA.typeIs entry_set_and ?_ (PySem.F.args_set_and_2 _ _))
  have key : ∀ id, wpAny (model X.prog X.w) X.A.in1 (Builtin.Frozenset.intersection id a (.ref b)) (fun v s' => v ≠ .notImplemented ∧ EP X pins σ Q v s') X.xe s := fun id =>
    interK hA hB hne (by omega) (by omega) fun h' dr ms hk hS hm => ⟨(by intro z; cases z), V.ref s.heap.objs.size, _, I.newSet (tk := s.toks) (d := dr) hk hS, rfl, q _ ms I.fresh hS.nodup hm⟩
  unfold Builtin.«frozenset.__and__»
  exact binarySet hA hB (key _)
noncomputable def rSortS (P : Program) (w : World) : List V → Hp → VK → Prop := fun xs H Q => ∃ (a : Addr) (ks : List Int), xs = [.ref a] ∧ H a = some (setO P w a ks) ∧ ks.length < 64 ∧
  ∀ (p : Addr) (ns : List Int), H p = none → ns.Perm ks → ns.Pairwise (· ≤ ·) → Q (.ref p) (upd H p (.lst (ns.map V.int)))
theorem call_sortedS (hc : X.calm = true) : CallR X (.builtin "sorted") (rSortS X.prog X.w) := by
  intro pins s σ H xs us Q I r h
  obtain ⟨a, ks, rfl, ha, hl, q⟩ := h
  obtain ⟨u, rfl, ru⟩ := r.one
  cases ru
  have hA := I.setK ha
  refine Calls.call_function_entry kind_sorted plain_sorted entry_sorted (args_sorted1 _) ?_
  show wpAny _ _ (do
    checkCount "sorted" 1 1 1
    let __do_lift ← collect (.ref a)
    let l ← newList __do_lift
    let _ ← holding [l] (call (.builtin "list.sort") [l] [])
    ret l) _ _ _
  refine wpAny_bind (wpAny_mono (Q := fun _ s' => s' = s) ?_ (fun _ s' e => ?_) fun _ _ h => h)
  · exact wpAny_pure rfl
  subst e
  refine wpAny_bind (collectK (I.ok.hd hc) hA fun h' tk dr acc ls hk' hacc hp => ?_)
  have hS := keys_ints hacc
  have hal : acc.length = ks.length := by rw [← hp.length_eq]; exact Paired.length hacc
  refine wpAny_bind (wpAny_newList ?_ (by rw [sizeLine_eq]; omega))
  refine wpAny_bind (wpAny_holding ?_)
  refine wpAny_call_entry slot_list_sort ⟨_, Heap.get?_push_size _ rfl, rfl⟩ entry_list_sort ?_ (args_list_sort _)
  refine list_sort_tree (vs := acc) (n := 0) (Heap.get?_push_size _ rfl) hS (by omega) fun out ns' h1 h2 h3 => ?_
  refine ⟨_, rfl, ?_⟩
  refine wpAny_pure ⟨_, rfl, ?_⟩
  have I1 : Inv X pins σ H { s' with heap := h', toks := tk } := I.kept (t' := tk) hk'
  obtain ⟨e, he⟩ := sortedHeap_at (h := h'.push { cls := .type "list", data := .seq acc.toArray }) (a := h'.objs.size) (vs := acc) (n := 0) (out := out) (Heap.get?_push_size _ rfl)
  have hfr : H h'.objs.size = none := I1.hok.fresh (Nat.le_refl _)
  have hsl : (ns'.map V.int).length ≤ sizeLine := by
    have e1 := h2.length_eq
    have e2 := hp.length_eq
    rw [List.length_map, sizeLine_eq]
    omega
  refine ⟨.ref h'.objs.size, upd H h'.objs.size (.lst (ns'.map V.int)), (I1.laid (t' := tk) (fun b o e => ?_) (Nat.le_refl _) (show ObjOk X.prog X.w _ _ _ (.lst (ns'.map V.int)) from ⟨hsl, _, e, ints_vals h1, he⟩)).dr dr, rfl, q _ _ hfr (h2.trans hp) h3⟩
  rw [sortedHeap_old (Nat.ne_of_lt (Heap.lt_size e)) (by rw [Heap.size_push]; exact Nat.lt_succ_of_lt (Heap.lt_size e))]
  exact Heap.get?_push_of_some _ e
noncomputable def rInS (P : Program) (w : World) : R2 := fun x y H Q => ∃ (k : Int) (a : Addr) (ks : List Int), x = .int k ∧ y = .ref a ∧ H a = some (setO P w a ks) ∧ Q (.bl (decide (k ∈ ks))) H
theorem op_inS : OpR X (compareOp .In) (rInS X.prog X.w) := by
  intro pins s σ H x y v u Q I rx ry h
  obtain ⟨k, a, ks, rfl, rfl, ha, q⟩ := h
  obtain ⟨t, rfl⟩ := rx
  cases ry
  exact wpAny_inSet_of (intKind_is _ _ _ _) rfl (I.setK ha).setOf ⟨.bl _, H, I.tok _, rfl, q⟩
theorem call_lenS : CallR X (.builtin "len") (fun xs H Q => ∃ (a : Addr) (ks : List Int), xs = [V.ref a] ∧ H a = some (setO X.prog X.w a ks) ∧ Q (.int (ks.length : Int)) H) := by
  intro pins s σ H xs us Q I r h
  obtain ⟨a, ks, rfl, ha, q⟩ := h
  obtain ⟨u, rfl, ru⟩ := r.one
  cases ru
  obtain ⟨es, ep, t, ks', S, p⟩ := I.setK ha
  obtain ⟨o, ho, hex, hd⟩ := S.obj
  have hl := Ents.len S.ents
  have hl2 := p.length_eq
  have hb := S.bnd
  have h0 : scanBound = 4096 := rfl
  refine call_len_set ho hex hd S.fits (by omega) ⟨.int (ks.length : Int), H, I.tok _, ⟨_, by rw [hl, hl2]⟩, q⟩
end
end L2
namespace L2
open PySem PySem.Spec PyProof.Rows
theorem compTurn_set (ex target iter : Expr) (ifs : List Expr) (scope : Scope) (pos : Pos) (it : Value) (D : Addr) (env : Env) :
    compTurn (.SetComp ex [⟨target, iter, ifs, 0⟩] scope pos) 0 it (.ref D) env = (do
      standAt iter.pos
      match ← pyNext it with
      | none => pure (.done .next)
      | some v =>
        letOwnedTupleGo target it v
        assign target env v
        let mut ok := true
        for c in ifs do
          if ok then ok ← isTrue c env (eval c env)
        if ok then
          (do
            let v ← eval ex env
            standAt ex.pos
            let _ ← call (.builtin "set.add") [.ref D, v])
        again (.compLoop (.SetComp ex [⟨target, iter, ifs, 0⟩] scope pos) 0 it (.ref D) env)) := by rfl
theorem compStart_set {prog : Program} {w : World} {A : Around} {R : Result → Shared → Prop} {s : Shared} {ex target iter : Expr} {ifs : List Expr} {rest : List Comprehension} {scope : Scope} {pos : Pos} {it acc : Value} {env : Env}
    (h0 : codeAny (model prog w) A (.compLoop (.SetComp ex (⟨target, iter, ifs, 0⟩ :: rest) scope pos) 0 it acc env) R s)
    (h : wpAny (model prog w) A (pyIter it) (fun it' s' => codeAny (model prog w) A (.compLoop (.SetComp ex (⟨target, iter, ifs, 0⟩ :: rest) scope pos) 0 it' acc env) R s')
      (notedBy (model prog w) A env fun x s' => R (.error x) s') s) :
    codeAny (model prog w) A (.compStart (.SetComp ex (⟨target, iter, ifs, 0⟩ :: rest) scope pos) 0 it acc env) R s := by
  refine codeAny_of_tree ?_
  show wpAny _ A ((compStart (.SetComp ex (⟨target, iter, ifs, 0⟩ :: rest) scope pos) 0 it acc env).onRaise (fun x => do noteFrame x env; standAt theWindowsPlace)) _ _ s
  refine wpAny_notedAt ?_
  unfold compStart
  show wpAny _ A (ask >>= _) _ _ s
  refine wpAny_bind (wpAny_askSetting (wpAny_ite ?_))
  split
  · first
      | exact wpAny_bind (wpAny_pure (wpAny_pure (And.intro rfl h0)))
      | exact wpAny_pure (And.intro rfl h0)
  · first
      | exact wpAny_bind (wpAny_rule (wpAny_bind (wpAny_standAt (wpAny_bind (wpAny_mono h (fun it' s' h' => wpAny_pure (And.intro rfl h')) fun _ _ x => x)))))
      | (refine wpAny_bind (wpAny_rule ?_); show wpAny _ _ (standAt iter.pos >>= _) _ _ s; exact wpAny_bind (wpAny_standAt (wpAny_bind (wpAny_mono h (fun it' s' h' => wpAny_pure (And.intro rfl h')) fun _ _ x => x))))
theorem scomp_loop {prog : Program} {w : World} {A : Around} {R : Result → Shared → Prop} {s : Shared} {ex target iter : Expr} {ifs : List Expr} {scope : Scope} {pos : Pos} {it : Value} {D : Addr} {env : Env} (I : Nat → Shared → Prop)
    (turn : ∀ n s, I n s → wpAny (model prog w) A (pyNext it) (fun r s₁ => match r with
      | none => R (.ok .next) s₁
      | some v => wpAny (model prog w) A (letOwnedTupleGo target it v) (fun _ s₁' => wpAny (model prog w) A (assign target env v) (fun _ s₂ =>
          wpAny (model prog w) A (forIn ifs true fun c r => if r = true then do let ok ← isTrue c env (eval c env); pure (ForInStep.yield ok) else pure (ForInStep.yield r)) (fun ok s₃ =>
            if ok = true then wpAny (model prog w) A (eval ex env) (fun x s₄ => wpAny (model prog w) A (call (.builtin "set.add") [.ref D, x]) (fun _ s₅ => ∃ m, m < n ∧ I m s₅) (fun _ _ => False) s₄) (fun _ _ => False) s₃
            else ∃ m, m < n ∧ I m s₃) (fun _ _ => False) s₂) (fun _ _ => False) s₁') (fun _ _ => False) s₁) (fun _ _ => False) s)
    (n : Nat) (h : I n s) : codeAny (model prog w) A (.compLoop (.SetComp ex [⟨target, iter, ifs, 0⟩] scope pos) 0 it (.ref D) env) R s := by
  refine codeAny_loop rfl I (fun n s hI => ?_) n h
  show wpAny _ A ((compTurn (.SetComp ex [⟨target, iter, ifs, 0⟩] scope pos) 0 it (.ref D) env).onRaise (fun x => do noteFrame x env; theTreesLotGoes x)) _ _ s
  refine wpAny_noted ?_
  refine wpAny_noRaise ?_
  rw [compTurn_set]
  refine wpAny_bind (wpAny_standAt (wpAny_bind (wpAny_mono (turn n s hI) (fun r s₁ h₁ => ?_) fun _ _ h' => h')))
  cases r with
  | none => exact wpAny_pure h₁
  | some v =>
    refine wpAny_bind (wpAny_mono h₁ (fun _ s₁' h₁' => ?_) fun _ _ h' => h')
    refine wpAny_bind (wpAny_mono h₁' (fun _ s₂ h₂ => wpAny_bind (wpAny_mono h₂ (fun ok s₃ h₃ => ?_) fun _ _ h' => h')) fun _ _ h' => h')
    cases ok with
    | false => exact wpAny_pure ⟨rfl, h₃⟩
    | true =>
      exact wpAny_bind (wpAny_bind (wpAny_mono h₃ (fun x s₄ h₄ => wpAny_bind (wpAny_standAt (wpAny_bind (wpAny_mono h₄ (fun _ s₅ h₅ => wpAny_pure (wpAny_pure ⟨rfl, h₅⟩)) fun _ _ h' => h')))) fun _ _ h' => h'))
noncomputable def scmpR (P : Program) (w : World) (J : It) (g : TG) (tc : TT) (te : TE) (D : Addr) (Fin : Hp → Prop) (σ0 : St) (H0 : Hp) : Prop :=
  ∃ W : Nat → Nat → St → Hp → Prop, (∃ m, W 0 m σ0 H0) ∧ ∀ i m σ H, W i m σ H →
    (J.stop i H ∧ Fin H) ∨ (J.go i H ∧ ∃ N : St → Hp → Prop, (∀ σ' H', N σ' H' → ∃ m', m' < m ∧ W (i + 1) m' σ' H') ∧ ∀ x H1, J.yld i H x H1 → g x σ H1 fun σ2 H2 => tc σ2 H2 fun b H3 =>
      if b = true then te σ2 H3 fun y H4 => ∃ ks k, y = .int k ∧ H4 D = some (setO P w D ks) ∧ ks.length < 1000 ∧ N σ2 (upd H4 D (setO P w D (addK ks k))) else N σ2 H3)
theorem scmp_by {P : Program} {w : World} {J : It} {g : TG} {tc : TT} {te : TE} {D : Addr} {Fin : Hp → Prop} {σ0 : St} {H0 : Hp} (n : Nat) (Pv : Nat → St → Hp → Prop) (h0 : Pv 0 σ0 H0) (hend : ∀ σ H, Pv n σ H → J.stop n H ∧ Fin H)
    (hs : ∀ i σ H, i < n → Pv i σ H → J.go i H ∧ ∀ x H1, J.yld i H x H1 → g x σ H1 fun σ2 H2 => tc σ2 H2 fun b H3 =>
      if b = true then te σ2 H3 fun y H4 => ∃ ks k, y = .int k ∧ H4 D = some (setO P w D ks) ∧ ks.length < 1000 ∧ Pv (i + 1) σ2 (upd H4 D (setO P w D (addK ks k))) else Pv (i + 1) σ2 H3) : scmpR P w J g tc te D Fin σ0 H0 := by
  refine ⟨fun i m σ H => m = n - i ∧ i ≤ n ∧ Pv i σ H, ⟨n, by simp, Nat.zero_le _, h0⟩, ?_⟩
  rintro i m σ H ⟨rfl, hi, p⟩
  by_cases hlt : i < n
  · obtain ⟨q1, q2⟩ := hs i σ H hlt p
    exact .inr ⟨q1, Pv (i + 1), fun σ' H' p' => ⟨n - (i + 1), by omega, rfl, hlt, p'⟩, q2⟩
  · have e : i = n := by omega
    subst e
    exact .inl (hend σ H p)
noncomputable def tCompS (wi : TI) (g : TG) (P : Program) (w : World) (tc : TT) (te : TE) (nl : Nat) (caps : List Nat) : TE := fun σ H Q =>
  wi σ H fun J H1 => ∀ D, H1 D = none → scmpR P w J g tc te D (fun H' => Q (.ref D) H') (stC nl caps σ) (upd H1 D (setO P w D []))
theorem s_setAdd {X : Cx} {pins : List (Addr × Obj)} {σ : St} {H : Hp} {s : Shared} {a : Addr} {k : Int} {u : Value} {A : Around} {E : Value → Shared → Prop} {ks : List Int} {Q : Value → Shared → Prop} (I : Inv X pins σ H s) (e : H a = some (setO X.prog X.w a ks)) (l : ks.length < 1000)
    (ry : RelV (.int k) u) (h : ∀ s', Inv X pins σ (upd H a (setO X.prog X.w a (addK ks k))) s' → Q .none s') : wpAny (model X.prog X.w) A (call (.builtin "set.add") [.ref a, u]) Q E s := by
  obtain ⟨t, rfl⟩ := ry
  have hS := I.setK e
  refine wpAny_call_entry PySem.F.slot_set_add hS.typeIs PySem.F.entry_set_add ?_ (PySem.F.args_set_add_2 _ _)
  show wpAny _ _ (do
    let __x ← Builtin.Frozenset.oneOther "add" ⟨[.ref a, .int k t], []⟩
    let _ ← setAdd __x.1 __x.2
    ret .none) _ _ _
  refine wpAny_bind (wpAny_pure ?_)
  dsimp only
  unfold setAdd
  refine wpAny_bind (wpAny_holding (wpAny_bind ((PySem.intKind X.prog X.w).pyHash (k := k) (intKind_is _ _ _ _) ?_)))
  refine addHashed (knd := PySem.intKind X.prog X.w) (s := { s with toks := s.toks + 1 }) (intKind_is _ _ _ _) rfl hS (by have h0 : scanBound = 4096 := rfl; omega) fun h' b sb hS' => ?_
  refine wpAny_pure ⟨_, rfl, h _ ?_⟩
  obtain ⟨es, ep, tt, ks', S', p'⟩ := id hS'
  obtain ⟨o, ho, _⟩ := S'.obj
  exact I.write (t' := s.toks + 1) (by rw [e]; exact True.intro) (.inl rfl) (fun b u hb q => (sb.2 b hb).trans q) ⟨o, ho⟩ (setO_ok hS')
section
variable {X : Cx} {tg iter ex : Expr} {ifs : List Expr} {scope : Scope} {pos : Pos} {wi : TI} {g : TG} {tc : TT} {te : TE} {locs cs : List Str} {caps : List Nat}
theorem scomp_block {pins : List (Addr × Obj)} {σ : St} {H : Hp} {s : Shared} {it : Addr} {fp : List Addr} {tn : Nat → Heap → Prop} {J : It} {RR : Value → Addr → Result → Shared → Prop} {E : Value → Shared → Prop} {Fin : Hp → Prop}
    (hc : X.calm = true) (hb : blkOk scope X.env.scope = true) (hcap : capsOk X.N scope cs caps = true)
    (I : Inv X pins σ H s) (T : Turn X.prog X.w X.K tg J fp it tn) (st : tn 0 s.heap) (hf : ∀ b ∈ fp, FpOk X pins H b)
    (hg : PG (cxC X scope (locs ++ cs) s H fp) tg g) (ht : PTs (cxC X scope (locs ++ cs) s H fp) ifs tc) (hk : PE (cxC X scope (locs ++ cs) s H fp) ex te)
    (h : scmpR X.prog X.w J g tc te s.heap.objs.size Fin (stC locs.length caps σ) (upd H s.heap.objs.size (setO X.prog X.w s.heap.objs.size [])))
    (hRR : ∀ σ' H' s', Inv (cxC X scope (locs ++ cs) s H fp) [] σ' H' s' → Fin H' → RR (.ref s.heap.objs.size) (s.heap.objs.size + 1) (.ok .next) s') :
    wpAny (model X.prog X.w) X.A (newSet (.type "set")) (fun acc s₃ => wpAny (model X.prog X.w) X.A (newFunctionEnv scope X.env.globals (capOf X.env.cells scope.names []) [] X.env.qual none .none (some X.env)) (fun cenv s₄ =>
      codeAny (model X.prog X.w) X.A (.compStart (.SetComp ex [⟨tg, iter, ifs, 0⟩] scope pos) 0 (.ref it) acc { cenv with scope := relabel scope X.env }) (RR acc cenv.locals) s₄) E s₃) E s := by
  have hcell : ∀ y ∈ scope.names, y.2 ≠ .cell := fun y hy => (blk_all hb y hy).1
  have hkind := blk_kind hb
  have hlt : ∀ b ∈ fp, b < s.heap.objs.size := fun b hbm => by
    obtain ⟨o, e, _⟩ := T.obj 0 _ st b hbm
    exact Heap.lt_size e
  refine newSetK (knd := PySem.intKind X.prog X.w) fun hN0 => (wpAny_newFunctionEnv hcell (by intro y hy; simp at hy) (fun h₁ hns₁ hsb₁ => ?_) hkind)
  dsimp only at hns₁ hsb₁ ⊢
  generalize hH2 : s.heap.push { cls := .type "set", dict := none, data := .set #[] 0 (.fresh 0 0 (!X.w.params.followText "set-order")) } = H2 at hns₁ hsb₁ ⊢
  have hC : H2.objs.size = s.heap.objs.size + 1 := by rw [← hH2, Heap.size_push]
  rw [hC] at hns₁ hsb₁ ⊢
  have hDC : s.heap.objs.size ≠ s.heap.objs.size + 1 := Nat.ne_of_lt (Nat.lt_succ_self _)
  have below : ∀ b, b < s.heap.objs.size → b ≠ s.heap.objs.size + 1 := fun b hb => Nat.ne_of_lt (Nat.lt_succ_of_lt hb)
  have old : ∀ b o, s.heap.get? b = some o → h₁.get? b = some o := fun b o e => hsb₁.extBut b o (below b (Heap.lt_size e)) (Heap.get?_push_of_some _ (hH2 ▸ Heap.get?_push_of_some _ e))
  have hD : h₁.get? s.heap.objs.size = some { cls := .type "set", dict := none, data := .set #[] 0 (.fresh 0 0 (!X.w.params.followText "set-order")) } :=
    hsb₁.extBut _ _ hDC (Heap.get?_push_of_some _ (hH2 ▸ Heap.get?_push_size _ rfl))
  have frC : H (s.heap.objs.size + 1) = none := I.hok.fresh (Nat.le_succ _)
  have frD : H s.heap.objs.size = none := I.hok.fresh (Nat.le_refl _)
  have J0 : Inv (cxC X scope (locs ++ cs) s H fp) [] (stC locs.length caps σ) (upd H s.heap.objs.size (setO X.prog X.w s.heap.objs.size [])) { s with heap := h₁, toks := s.toks + ([] : List (Str × Value)).length } := by
    refine ⟨cxC_ok I hb hf hlt, rfl, I.bare, Un.laid old (Nat.le_refl _) frD, ⟨_, hns₁, fun i x v e1 e2 e3 => ?_⟩, fun x c e => ?_, ?_, fun x c e => ?_, fun p hp => absurd (show p ∈ ([] : List (Addr × Obj)) from hp) (by simp), ?_, ?_⟩
    · have e1' : (locs ++ cs)[i]? = some x := e1
      have hi : locs.length ≤ i := by
        rcases Nat.lt_or_ge i locs.length with hi | hi
        · unfold stC at e2
          rw [List.getElem?_append_left (by simpa using hi), List.getElem?_replicate] at e2
          split at e2 <;> cases e2
        · exact hi
      rw [List.getElem?_append_right hi] at e1'
      obtain ⟨k, q1, q2, q3⟩ := caps_get hcap e1'
      unfold stC at e2
      rw [List.getElem?_append_right (by simpa using hi), List.length_replicate, List.getElem?_map, q1] at e2
      have e2' : (σ[k]?).getD none = some v := by simpa using e2
      have e4 : σ[k]? = some (some v) := by
        cases z : σ[k]? with
        | none => rw [z] at e2'; cases e2'
        | some o => rw [z] at e2'; simp at e2'; rw [e2']
      have hfr := (blk_all hb _ (PySem.mem_of_lookup q3)).2.2 rfl
      obtain ⟨m, hn, hl⟩ := I.loc
      obtain ⟨u, r, l⟩ := hl k x v q2 e4 (hfr.elim (fun z => .inr (.inl z)) fun z => .inr (.inr z))
      refine ⟨u, r, .inr ⟨?_, ?_⟩⟩
      · exact lookup_relabel_free q3
      · rcases l with ⟨k1, _⟩ | ⟨_, c, ec, z⟩
        · exfalso
          have k1' : X.env.scope.names.lookup x = some .local := k1
          rcases hfr with z | z <;> (rw [k1'] at z; cases z)
        · obtain ⟨c', ec'⟩ := capOf_has (cells := X.env.cells) scope.names [] (PySem.mem_of_lookup q3)
          have q := (capOf_some scope.names [] (free_cells I hb) ec').resolve_left (by simp)
          rw [ec] at q; cases q
          obtain ⟨o, ho, hd⟩ := z
          exact ⟨c, ec', o, old _ _ ho, hd⟩
    · have q := (capOf_some scope.names [] (free_cells I hb) e).resolve_left (by simp)
      obtain ⟨v, o, ho, hd⟩ := I.cell x c q
      exact ⟨v, o, old _ _ ho, hd⟩
    · show upd H s.heap.objs.size (setO X.prog X.w s.heap.objs.size []) (s.heap.objs.size + 1) = none
      rw [upd_ne (Ne.symm hDC)]
      exact frC
    · have q := (capOf_some scope.names [] (free_cells I hb) e).resolve_left (by simp)
      obtain ⟨v, o, ho, hd⟩ := I.cell x c q
      rw [upd_ne (Nat.ne_of_lt (Heap.lt_size ho))]
      exact I.freeC x c q
    · refine I.hok.laid old (Nat.le_refl _) ?_
      exact setO_ok (hN0.keep fun o e => by
        rw [hH2] at e
        exact hsb₁.extBut _ _ hDC (Heap.get?_push_of_some _ e))
    · show (stC locs.length caps σ).length = (locs ++ cs).length
      unfold stC
      rw [List.length_append, List.length_replicate, List.length_map, List.length_append, caps_len hcap]
  obtain ⟨W, ⟨m0, w0⟩, turn⟩ := h
  have stat : ∀ {H' : Hp}, (∀ b ∈ fp, H' b = none) → ∀ b ∈ fp, FpOk (cxC X scope (locs ++ cs) s H fp) [] H' b := fun {H'} hn b hbm => by
    have q := (cxC_ok (N := locs ++ cs) I hb hf hlt)
    refine ⟨hn b hbm, (q.exf b hbm).1, q.exfs b hbm, .inl hbm, (q.exf b hbm).2, fun p hp => absurd (show p ∈ ([] : List (Addr × Obj)) from hp) (by simp)⟩
  have fr0 : ∀ b ∈ fp, upd H s.heap.objs.size (setO X.prog X.w s.heap.objs.size []) b = none := fun b hbm => by rw [upd_ne (Nat.ne_of_lt (hlt b hbm))]; exact (hf b hbm).1
  have loop : ∀ s₃ : Shared, s₃ = { s with heap := h₁, toks := s.toks + ([] : List (Str × Value)).length } →
      codeAny (model X.prog X.w) X.A (.compLoop (.SetComp ex [⟨tg, iter, ifs, 0⟩] scope pos) 0 (.ref it) (.ref s.heap.objs.size) (cxC X scope (locs ++ cs) s H fp).env) (RR (.ref s.heap.objs.size) (s.heap.objs.size + 1)) s₃ := by
    rintro s₃ rfl
    refine scomp_loop (fun n s' => ∃ i σ' H', Inv (cxC X scope (locs ++ cs) s H fp) [] σ' H' s' ∧ tn i s'.heap ∧ (∀ b ∈ fp, H' b = none) ∧ W i n σ' H') ?_ m0
      ⟨0, _, _, J0, T.keep _ _ _ st fun b _ o e => old b o e, fr0, w0⟩
    rintro n s3 ⟨i, σ3, H3, I3, st3, fr3, w3⟩
    rcases turn i n σ3 H3 w3 with ⟨stop, qn⟩ | ⟨go, Nn, hNn, step⟩
    · refine thn (T.done (cxC X scope (locs ++ cs) s H fp) rfl rfl rfl hc i [] s3 σ3 H3 _ I3 (stat fr3) st3 stop) fun r s4 ⟨hr, I4⟩ => ?_
      subst hr
      exact hRR σ3 H3 s4 I4 qn
    · refine thn (T.item (cxC X scope (locs ++ cs) s H fp) rfl rfl rfl hc i [] s3 σ3 H3 _ I3 (stat fr3) st3 go) fun r s4 ⟨u, hr, h4⟩ => ?_
      subst hr
      refine thn h4 fun _ s5 ⟨x, H5, I5, r5, y5, st5, fr5⟩ => ?_
      have I5' := I5.pinned (stat fr5) (T.obj _ _ st5)
      have again : ∀ {σ7 : St} {H7 : Hp} {s7 : Shared}, Inv (cxC X scope (locs ++ cs) s H fp) ([] ++ pinsAt fp s5.heap) σ7 H7 s7 → Nn σ7 H7 →
          ∃ m, m < n ∧ ∃ i σ' H', Inv (cxC X scope (locs ++ cs) s H fp) [] σ' H' s7 ∧ tn i s7.heap ∧ (∀ b ∈ fp, H' b = none) ∧ W i m σ' H' := fun {σ7 H7 s7} I7 n7 => by
        obtain ⟨m', hm, w7⟩ := hNn σ7 H7 n7
        refine ⟨m', hm, i + 1, σ7, H7, I7.unpinned, T.keep _ _ _ st5 fun b hb o e => (I7.pin (b, o) (List.mem_append_right _ (List.mem_append_right _ (mem_pinsAt hb e)))).1, fun b hb => ?_, w7⟩
        obtain ⟨o, e, d⟩ := T.obj _ _ st5 b hb
        exact (I7.pin (b, o) (List.mem_append_right _ (List.mem_append_right _ (mem_pinsAt hb e)))).2.1
      refine thn (hg _ s5 σ3 H5 x u _ I5' r5 (step x H5 y5)) fun _ s6 ⟨σ6, H6, I6, q6⟩ => ?_
      refine thn (ht _ s6 σ6 H6 _ I6 q6) fun b s7 ⟨H7, I7, q7⟩ => ?_
      cases b with
      | false => exact again I7 q7
      | true =>
        refine thn (hk _ s7 σ6 H7 _ I7 q7) fun u8 s8 ⟨v8, H8, I8, r8, ks, k, e8, f8, z8, q8⟩ => ?_
        subst e8
        exact s_setAdd (X := cxC X scope (locs ++ cs) s H fp) I8 f8 z8 r8 fun s' I' => again I' q8
  exact compStart_set (loop _ rfl) (T.self _ 0 _ _ _ (T.keep _ _ _ st fun b _ o e => old b o e) (loop _ rfl))
theorem pe_compS (locs cs : List Str) (caps : List Nat) (hc : X.calm = true) (hi : PI X tg iter wi) (hg : ∀ s H fp, PG (cxC X scope (locs ++ cs) s H fp) tg g) (ht : ∀ s H fp, PTs (cxC X scope (locs ++ cs) s H fp) ifs tc)
    (hk : ∀ s H fp, PE (cxC X scope (locs ++ cs) s H fp) ex te)
    (hb : blkOk scope X.env.scope = true := by rfl) (hcap : capsOk X.N scope cs caps = true := by rfl) (hs : ∀ x, foldedSetIterable iter X.env x = pure x := by intro _; rfl) :
    PE X (.SetComp ex [⟨tg, iter, ifs, 0⟩] scope pos) (tCompS wi g X.prog X.w tc te locs.length caps) := by
  intro pins s σ H Q I h
  rw [arm_eval_SetComp]
  refine wpAny_comprehension_free (use := none) rfl hs (closure_cap (free_cells I hb)) (blk_kind hb) (fun y hy => (blk_all hb y hy).2.1) (thn (hi pins s σ H _ I h) fun v s1 h1 => thn h1 fun itv s2 h2 => ?_)
  obtain ⟨it, fp, tn, J, H2, e, I2, T, st2, f2, q⟩ := h2
  subst e
  refine scomp_block (RR := fun acc C => compPost (model X.prog X.w) X.A X.xe none (EP X pins σ Q) acc C) (locs := locs) (cs := cs) (Fin := fun H' => Q (.ref s2.heap.objs.size) H') hc hb hcap I2 T st2 f2 (hg _ _ _) (ht _ _ _) (hk _ _ _) (q _ (I2.hok.fresh (Nat.le_refl _))) ?_
  intro σ' H' s' J' q'
  obtain ⟨m, hn, _⟩ := J'.loc
  refine ⟨m, hn, fun h' hs' => ?_⟩
  have I3 := cxC_back I2 f2 J'
  have fr : H' (s2.heap.objs.size + 1) = none := J'.free
  refine ⟨.ref s2.heap.objs.size, H', I3.turned (t' := s'.toks) (it := s2.heap.objs.size + 1) (fun b o hb e => (hs'.2 b hb).trans e) fr ?_ (.inr (Nat.le_trans I2.sz (Nat.le_succ _))) ?_ ?_, rfl, q'⟩
  · exact Nat.ne_of_gt (Nat.lt_succ_of_lt I2.lt)
  · intro x c e z
    obtain ⟨v, hv⟩ := I2.cell x c e
    have h1 : s2.heap.objs.size + 1 < s2.heap.objs.size := z ▸ hv.lt
    exact absurd h1 (Nat.not_lt.mpr (Nat.le_succ _))
  · intro p hp z
    have h1 : s2.heap.objs.size + 1 < s2.heap.objs.size := z ▸ Heap.lt_size (I2.pin p hp).1
    exact absurd h1 (Nat.not_lt.mpr (Nat.le_succ _))
end
end L2
namespace L2
open PySem PySem.Spec PyProof.Rows
theorem pg_pair {X : Cx} {K' : PySem.W.Frag} {i j : Nat} {x y : Str} {p1 p2 pos : Pos} {k : Nat} (hK : X.K = K') (hc : X.calm = true) (hN : X.N.Nodup) (hi : X.N[i]? = some x) (hj : X.N[j]? = some y) (lx : X.env.scope.names.lookup x = some .local) (ly : X.env.scope.names.lookup y = some .local) :
    PG X (.Tuple [.Name x p1, .Name y p2] k pos) (gTup K' 2 (gCons (gName i) (gCons (gName j) gNil))) := by
  subst hK
  exact pg_tup hc (pgs_cons (pg_name hN hi (.inl lx) (.inr lx)) (pgs_cons (pg_name hN hj (.inl ly) (.inr ly)) pgs_nil))
end L2
namespace L2
open PySem
theorem bits_small {h : Int} (h0 : 0 ≤ h) (h1 : h < 1000) : SetTable.bits h = h.toNat := by
  unfold SetTable.bits
  rw [Int.emod_eq_of_lt h0 (Int.lt_of_lt_of_le h1 (by decide))]
theorem free_here {mask i pt fuel : Nat} {owner : Array (Option Nat)} (h : owner[i]? = some none) : SetTable.layClean.free mask owner (fuel + 1) i pt = some i := by
  unfold SetTable.layClean.free
  have hr : SetTable.runEnd mask i + 1 - i = (SetTable.runEnd mask i - i) + 1 := by
    unfold SetTable.runEnd
    split <;> omega
  have hg : (owner.getD (i + 0) (some 0)).isNone = true := by
    rw [Nat.add_zero]
    obtain ⟨h1, h2⟩ := Array.getElem?_eq_some_iff.mp h
    simp [Array.getD, h1, h2]
  rw [hr, List.range_succ_eq_map, List.find?_cons_of_pos (p := fun k => (owner.getD (i + k) (some 0)).isNone) (a := 0) hg]
  rfl
theorem free_next {i pt fuel v : Nat} {owner : Array (Option Nat)} (hp : pt < 32) (h : owner[i]? = some (some v)) : SetTable.layClean.free 7 owner (fuel + 1) i pt = SetTable.layClean.free 7 owner fuel ((i * 5 + 1) % 8) 0 := by
  conv => lhs; unfold SetTable.layClean.free
  have hr : SetTable.runEnd 7 i + 1 - i = 1 := by
    unfold SetTable.runEnd
    rw [if_neg (by omega)]
    omega
  have hg : (owner.getD (i + 0) (some 0)).isNone = false := by
    rw [Nat.add_zero]
    obtain ⟨h1, h2⟩ := Array.getElem?_eq_some_iff.mp h
    simp [Array.getD, h1, h2]
  have hf : (List.range 1).find? (fun k => (owner.getD (i + k) (some 0)).isNone) = none := by
    rw [List.range_succ_eq_map, List.find?_cons_of_neg (p := fun k => (owner.getD (i + k) (some 0)).isNone) (a := 0) (by rw [hg]; exact Bool.false_ne_true)]
    rfl
  rw [hr, hf]
  have e1 : pt / 32 = 0 := Nat.div_eq_of_lt hp
  show SetTable.layClean.free 7 owner fuel ((i * 5 + 1 + pt / 32) % (7 + 1)) (pt / 32) = _
  rw [e1]
noncomputable def occ (owner : Array (Option Nat)) : List Nat := (List.range 8).filter fun j => (owner.getD j none).isSome
theorem len_sub {α : Type} [DecidableEq α] : ∀ {a b : List α}, a.Nodup → (∀ x ∈ a, x ∈ b) → a.length ≤ b.length
  | [], _, _, _ => Nat.zero_le _
  | x :: a, b, nd, h => by
    rw [List.nodup_cons] at nd
    have hx := h x List.mem_cons_self
    have ih := len_sub (a := a) (b := b.erase x) nd.2 fun y hy => (List.mem_erase_of_ne fun z => nd.1 (by rw [← z]; exact hy)).mpr (h y (List.mem_cons_of_mem _ hy))
    rw [List.length_erase_of_mem hx] at ih
    have : 0 < b.length := List.length_pos_of_mem hx
    rw [List.length_cons]
    omega
theorem four_differ : ∀ i, i < 8 → [i, (i * 5 + 1) % 8, ((i * 5 + 1) % 8 * 5 + 1) % 8, (((i * 5 + 1) % 8 * 5 + 1) % 8 * 5 + 1) % 8].Nodup := by decide
theorem free7 {owner : Array (Option Nat)} (hsz : owner.size = 8) (ho : (occ owner).length ≤ 3) {i pt : Nat} (hi : i < 8) (hp : pt < 32) : ∃ j, owner[j]? = some none ∧ SetTable.layClean.free 7 owner (SetTable.turns 7) i pt = some j := by
  have cell : ∀ k, k < 8 → owner[k]? = some none ∨ ∃ v, owner[k]? = some (some v) := fun k hk => by
    have : owner[k]? = some (owner[k]'(by omega)) := by simp [hsz, hk]
    cases e : owner[k]'(by omega) with
    | none => exact .inl (by rw [this, e])
    | some v => exact .inr ⟨v, by rw [this, e]⟩
  have inocc : ∀ k v, k < 8 → owner[k]? = some (some v) → k ∈ occ owner := fun k v hk e => by
    refine List.mem_filter.mpr ⟨List.mem_range.mpr hk, ?_⟩
    rw [Array.getD_eq_getD_getElem?, e]
    rfl
  show ∃ j, owner[j]? = some none ∧ SetTable.layClean.free 7 owner (18 + 4) i pt = some j
  have m1 : (i * 5 + 1) % 8 < 8 := Nat.mod_lt _ (by decide)
  have m2 : ((i * 5 + 1) % 8 * 5 + 1) % 8 < 8 := Nat.mod_lt _ (by decide)
  have m3 : (((i * 5 + 1) % 8 * 5 + 1) % 8 * 5 + 1) % 8 < 8 := Nat.mod_lt _ (by decide)
  have nd := four_differ i hi
  rcases cell i hi with e0 | ⟨v0, e0⟩
  · exact ⟨i, e0, free_here e0⟩
  rw [free_next hp e0]
  rcases cell _ m1 with e1 | ⟨v1, e1⟩
  · exact ⟨_, e1, free_here e1⟩
  rw [free_next (by decide) e1]
  rcases cell _ m2 with e2 | ⟨v2, e2⟩
  · exact ⟨_, e2, free_here e2⟩
  rw [free_next (by decide) e2]
  rcases cell _ m3 with e3 | ⟨v3, e3⟩
  · exact ⟨_, e3, free_here e3⟩
  exfalso
  have := len_sub nd (b := occ owner) fun x hx => by
    simp only [List.mem_cons, List.not_mem_nil, or_false] at hx
    rcases hx with rfl | rfl | rfl | rfl
    · exact inocc _ _ hi e0
    · exact inocc _ _ m1 e1
    · exact inocc _ _ m2 e2
    · exact inocc _ _ m3 e3
  simp only [List.length_cons, List.length_nil] at this
  omega
structure Lay (js : List Nat) (k0 : Nat) (owner o' : Array (Option Nat)) : Prop where
  size : o'.size = owner.size
  nd : js.Nodup
  own : ∀ i (hi : i < js.length), o'[js[i]]? = some (some (k0 + i))
  rest : ∀ j, j ∉ js → o'[j]? = owner[j]?
  free : ∀ j ∈ js, owner[j]? = some none
noncomputable abbrev layStep (mask : Nat) (acc : Option (Array (Option Nat) × Nat)) (h : Int) : Option (Array (Option Nat) × Nat) :=
  acc.bind fun p => (SetTable.layClean.free mask p.1 (SetTable.turns mask) (SetTable.bits h % (mask + 1)) (SetTable.bits h)).bind fun j => some (p.1.setIfInBounds j (some p.2), p.2 + 1)
theorem Lay.nil {k0 : Nat} {owner : Array (Option Nat)} : Lay [] k0 owner owner := ⟨rfl, List.nodup_nil, fun i hi => absurd hi (Nat.not_lt_zero _), fun _ _ => rfl, fun _ h => nomatch h⟩
theorem Lay.cons {j k0 : Nat} {js : List Nat} {owner o' : Array (Option Nat)} (hj : owner[j]? = some none) (L : Lay js (k0 + 1) (owner.setIfInBounds j (some k0)) o') : Lay (j :: js) k0 owner o' := by
  have hlt : j < owner.size := (Array.getElem?_eq_some_iff.mp hj).1
  have hn : j ∉ js := fun z => by
    have := L.free j z
    rw [Array.getElem?_setIfInBounds_self, if_pos hlt] at this
    cases this
  refine ⟨by rw [L.size, Array.size_setIfInBounds], List.nodup_cons.mpr ⟨hn, L.nd⟩, fun i hi => ?_, fun k hk => ?_, fun k hk => ?_⟩
  · cases i with
    | zero =>
      show o'[j]? = some (some (k0 + 0))
      rw [L.rest j hn, Array.getElem?_setIfInBounds_self, if_pos hlt]
      rfl
    | succ i =>
      have := L.own i (by simpa using hi)
      show o'[js[i]'(by simpa using hi)]? = _
      rw [this]
      congr 2
      omega
  · rw [List.mem_cons, not_or] at hk
    rw [L.rest k hk.2, Array.getElem?_setIfInBounds_ne (Ne.symm hk.1)]
  · rcases List.mem_cons.mp hk with rfl | hk
    · exact hj
    · have := L.free k hk
      have hne : j ≠ k := fun z => hn (z ▸ hk)
      rwa [Array.getElem?_setIfInBounds_ne hne] at this
theorem layStep_of {mask j k0 : Nat} {owner : Array (Option Nat)} {h : Int} (hf : SetTable.layClean.free mask owner (SetTable.turns mask) (SetTable.bits h % (mask + 1)) (SetTable.bits h) = some j) : layStep mask (some (owner, k0)) h = some (owner.setIfInBounds j (some k0), k0 + 1) := by
  unfold layStep
  rw [Option.bind_some]
  show (SetTable.layClean.free mask owner _ _ _).bind _ = _
  rw [hf]
  rfl
theorem fold_own {mask : Nat} : ∀ (hs : List Int) (k0 : Nat) (owner : Array (Option Nat)), hs.Nodup → (∀ h ∈ hs, 0 ≤ h ∧ h < 1000 ∧ h ≤ (mask : Int)) → (∀ h ∈ hs, owner[h.toNat]? = some none) →
    ∃ o', hs.foldl (layStep mask) (some (owner, k0)) = some (o', k0 + hs.length) ∧ Lay (hs.map Int.toNat) k0 owner o'
  | [], k0, owner, _, _, _ => ⟨owner, rfl, Lay.nil⟩
  | h :: hs, k0, owner, nd, hb, hf => by
    rw [List.nodup_cons] at nd
    obtain ⟨b0, b1, b2⟩ := hb h List.mem_cons_self
    have hj : SetTable.bits h % (mask + 1) = h.toNat := by
      rw [bits_small b0 b1]
      exact Nat.mod_eq_of_lt (by omega)
    have hfr : SetTable.layClean.free mask owner (SetTable.turns mask) (SetTable.bits h % (mask + 1)) (SetTable.bits h) = some h.toNat := by
      rw [hj]
      exact free_here (fuel := mask + 14) (hf h List.mem_cons_self)
    have ne : ∀ x ∈ hs, x.toNat ≠ h.toNat := fun x hx z => by
      obtain ⟨c0, _, _⟩ := hb x (List.mem_cons_of_mem _ hx)
      have : x = h := by omega
      exact nd.1 (this ▸ hx)
    obtain ⟨o', e1, L⟩ := fold_own (mask := mask) hs (k0 + 1) (owner.setIfInBounds h.toNat (some k0)) nd.2 (fun x hx => hb x (List.mem_cons_of_mem _ hx)) fun x hx => by
      rw [Array.getElem?_setIfInBounds_ne (Ne.symm (ne x hx))]
      exact hf x (List.mem_cons_of_mem _ hx)
    refine ⟨o', ?_, Lay.cons (hf h List.mem_cons_self) L⟩
    rw [List.foldl_cons, layStep_of hfr, e1, List.length_cons]
    congr 2
    omega
theorem occ_set {owner : Array (Option Nat)} {j k : Nat} : (occ (owner.setIfInBounds j (some k))).length ≤ (occ owner).length + 1 := by
  have h : ∀ x ∈ occ (owner.setIfInBounds j (some k)), x ∈ j :: occ owner := fun x hx => by
    obtain ⟨h1, h2⟩ := List.mem_filter.mp hx
    by_cases e : x = j
    · rw [e]; exact List.mem_cons_self
    · refine List.mem_cons_of_mem _ (List.mem_filter.mpr ⟨h1, ?_⟩)
      rw [Array.getD_eq_getD_getElem?, Array.getElem?_setIfInBounds_ne (Ne.symm e)] at h2
      rw [Array.getD_eq_getD_getElem?]
      exact h2
  have := len_sub (a := occ (owner.setIfInBounds j (some k))) (List.Pairwise.filter _ List.nodup_range) h
  rw [List.length_cons] at this
  exact this
theorem fold_7 : ∀ (hs : List Int) (k0 : Nat) (owner : Array (Option Nat)), owner.size = 8 → (occ owner).length + hs.length ≤ 4 → (∀ h ∈ hs, 0 ≤ h ∧ h < 32) →
    ∃ o' js, hs.foldl (layStep 7) (some (owner, k0)) = some (o', k0 + hs.length) ∧ Lay js k0 owner o' ∧ js.length = hs.length
  | [], k0, owner, _, _, _ => ⟨owner, [], rfl, Lay.nil, rfl⟩
  | h :: hs, k0, owner, hsz, ho, hb => by
    obtain ⟨b0, b1⟩ := hb h List.mem_cons_self
    have hbits := bits_small b0 (show h < 1000 by omega)
    rw [List.length_cons] at ho
    obtain ⟨j, hj, hf⟩ := free7 (owner := owner) hsz (by omega) (i := SetTable.bits h % 8) (pt := SetTable.bits h) (Nat.mod_lt _ (by decide)) (by rw [hbits]; omega)
    have oc := occ_set (owner := owner) (j := j) (k := k0)
    obtain ⟨o', js, e1, L, e2⟩ := fold_7 hs (k0 + 1) (owner.setIfInBounds j (some k0)) (by rw [Array.size_setIfInBounds]; exact hsz) (by omega) fun x hx => hb x (List.mem_cons_of_mem _ hx)
    refine ⟨o', j :: js, ?_, Lay.cons hj L, by rw [List.length_cons, List.length_cons, e2]⟩
    rw [List.foldl_cons, layStep_of hf, e1, List.length_cons]
    congr 2
    omega
theorem laid_of {mask finger moves : Nat} {led plain : Bool} {hs : Array Int} {js : List Nat} {o' : Array (Option Nat)} (e1 : hs.toList.foldl (layStep mask) (some (Array.replicate (mask + 1) none, 0)) = some (o', 0 + hs.toList.length)) (L : Lay js 0 (Array.replicate (mask + 1) none) o') (hl : js.length = hs.size) :
    ∃ t o, SetTable.laid mask finger moves led plain hs = some (t, o) ∧ t.mask = mask ∧ t.led = led ∧ t.place.size = o.size ∧ o.toList.Perm (List.range hs.size) := by
  have hlc : SetTable.layClean mask hs = some o' := by
    unfold SetTable.layClean
    rw [← Array.foldl_toList]
    exact congrArg (Option.map Prod.fst) e1
  unfold SetTable.laid
  rw [hlc]
  refine ⟨_, _, rfl, rfl, rfl, by simp, ?_⟩
  show (((List.range (mask + 1)).filterMap fun j => (o'.getD j none).map (j, ·)).map (·.2)).toArray.toList.Perm _
  rw [List.toList_toArray]
  have own : ∀ j k, o'.getD j none = some k ↔ ∃ hk : k < js.length, js[k] = j := by
    intro j k
    constructor
    · intro h
      by_cases hj : j ∈ js
      · obtain ⟨i, hi, rfl⟩ := List.getElem_of_mem hj
        have := L.own i hi
        rw [Array.getD_eq_getD_getElem?, this] at h
        simp only [Option.getD_some, Option.some.injEq, Nat.zero_add] at h
        subst h
        exact ⟨hi, rfl⟩
      · have := L.rest j hj
        rw [Array.getD_eq_getD_getElem?, this] at h
        by_cases hj2 : j < mask + 1
        · simp [hj2] at h
        · simp [hj2] at h
    · rintro ⟨hk, rfl⟩
      have := L.own k hk
      rw [Array.getD_eq_getD_getElem?, this]
      simp
  refine (List.perm_ext_iff_of_nodup ?_ List.nodup_range).mpr fun k => ?_
  · unfold List.Nodup
    rw [List.map_filterMap, List.pairwise_filterMap]
    have : (List.range (mask + 1)).Pairwise (· < ·) := List.pairwise_lt_range
    refine this.imp_of_mem ?_
    intro a b _ _ hab x hx y hy z
    cases ha : o'.getD a none with
    | none => rw [ha] at hx; simp at hx
    | some k =>
      cases hb' : o'.getD b none with
      | none => rw [hb'] at hy; simp at hy
      | some k' =>
        rw [ha] at hx
        rw [hb'] at hy
        simp only [Option.map_some, Option.some.injEq] at hx hy
        subst hx hy
        subst z
        obtain ⟨_, q1⟩ := (own a k).mp ha
        obtain ⟨_, q2⟩ := (own b k).mp hb'
        omega
  · rw [List.mem_map, List.mem_range]
    constructor
    · rintro ⟨⟨j, k'⟩, hm, rfl⟩
      obtain ⟨j', _, e⟩ := List.mem_filterMap.mp hm
      cases ho : o'.getD j' none with
      | none => rw [ho] at e; simp at e
      | some k =>
        rw [ho] at e
        simp only [Option.map_some, Option.some.injEq, Prod.mk.injEq] at e
        obtain ⟨_, rfl⟩ := e
        have := ((own j' _).mp ho).1
        omega
    · intro hk
      have hk' : k < js.length := by omega
      refine ⟨(js[k], k), List.mem_filterMap.mpr ⟨js[k], ?_, ?_⟩, rfl⟩
      · have := L.free js[k] (List.getElem_mem hk')
        have := (Array.getElem?_eq_some_iff.mp this).1
        exact List.mem_range.mpr (by simpa using this)
      · rw [(own _ k).mpr ⟨hk', rfl⟩]
        rfl
theorem laid_small {mask finger moves : Nat} {led plain : Bool} {hs : Array Int} (nd : hs.toList.Nodup) (hb : ∀ h ∈ hs.toList, 0 ≤ h ∧ h < 16) (hm : 15 ≤ mask ∨ (mask = 7 ∧ hs.size ≤ 4)) :
    ∃ t o, SetTable.laid mask finger moves led plain hs = some (t, o) ∧ t.mask = mask ∧ t.led = led ∧ t.place.size = o.size ∧ o.toList.Perm (List.range hs.size) := by
  rcases hm with hm | ⟨rfl, h4⟩
  · obtain ⟨o', e1, L⟩ := fold_own (mask := mask) hs.toList 0 (Array.replicate (mask + 1) none) nd (fun h hh => by have := hb h hh; omega) fun h hh => by
      obtain ⟨c0, c2⟩ := hb h hh
      have : h.toNat < mask + 1 := by omega
      simp [this]
    exact laid_of e1 L (by simp)
  · have oc : occ (Array.replicate 8 none) = [] := by decide
    obtain ⟨o', js, e1, L, e2⟩ := fold_7 hs.toList 0 (Array.replicate 8 none) (by simp) (by rw [oc]; simpa using h4) fun h hh => by have := hb h hh; omega
    exact laid_of e1 L (by rw [e2]; simp)
end L2
namespace L2
open PySem PyProof.Rows
theorem setRelay_eq (a : Addr) (wanted : Nat) : setRelay a wanted = (do
    let (es, _, t) ← setState a
    if SetTable.sizeAbove wanted > sizeLine then unsupported "set:memory"
    let (es, t) ← (do
      let some (t, order) := t.relaid (es.map (·.1)) wanted | unsupported "internal:set-table-without-room"
      let es' := order.filterMap (es[·]?)
      if es'.size != es.size then unsupported "internal:set-table-lost-an-element"
      pure (es', t))
    storeSet a es t) := rfl
theorem setMerge_eq (s o : Addr) : setMerge s o = (do
    if s == o then return
    let (eo, epoch, to) ← setState o
    if eo.isEmpty then return
    setRoomFor s eo.size
    let (_, _, ts) ← setState s
    match ts.road to with
    | .slotForSlot => storeSet s eo { to with finger := ts.finger, led := ts.led && to.led, moves := ts.moves, plain := ts.plain && to.plain }
    | .clean =>
      let (es, t) ← (do
        let some (t, order) := SetTable.laid ts.mask ts.finger ts.moves (led := ts.led && to.led) (plain := ts.plain && to.plain) (eo.map (·.1)) | unsupported "internal:set-table-without-room"
        let es' := order.filterMap (eo[·]?)
        if es'.size != eo.size then unsupported "internal:set-table-lost-an-element"
        pure (es', t))
      storeSet s es t
    | .oneByOne =>
      for (h, x) in ← setWalkUnseen o [s] (some s) do
        let _ ← holding [x] (setAddHashed s x h)
        (pure () : Sem Unit)
        if (← setState o).2.1 != epoch then unsupported "set.changed-during-merge") := rfl
theorem laid_empty (mask finger moves : Nat) (led plain : Bool) : SetTable.laid mask finger moves led plain #[] = some ({ mask := mask, place := #[], dummies := #[], finger := finger, led := led, moves := moves, plain := plain }, #[]) := by
  have h : (List.range (mask + 1)).filterMap (fun j => ((Array.replicate (mask + 1) (none : Option Nat)).getD j none).map (j, ·)) = [] := by
    rw [List.filterMap_eq_nil_iff]
    intro j hj
    have : j < mask + 1 := List.mem_range.mp hj
    simp [Array.getD, this]
  unfold SetTable.laid
  show (some (Array.replicate (mask + 1) none) >>= _) = _
  rw [Option.bind_eq_bind, Option.bind_some]
  rw [h]
  rfl
theorem above_small : ∀ n, n ≤ 10 → SetTable.sizeAbove (2 * n) ≤ 32 ∧ 8 ≤ SetTable.sizeAbove (2 * n) ∧ (5 ≤ n → 16 ≤ SetTable.sizeAbove (2 * n)) := by decide
theorem order_perm {es : Array (Int × Value)} {o : Array Nat} (h : o.toList.Perm (List.range es.size)) : (o.filterMap (es[·]?)).toList.Perm es.toList := by
  rw [Array.toList_filterMap]
  have := h.filterMap fun i => es[i]?
  rwa [filterMap_getElem?_range] at this
section
variable {prog : Program} {w : World} {A : Around} {E : Value → Shared → Prop} {s : Shared}
theorem small_hash {k : Int} (h0 : 0 ≤ k) (h1 : k < 10) : (PySem.intKind prog w).hash k = k := by
  have : ∀ n : Nat, n < 10 → hashInt (n : Int) = (n : Int) := by decide
  have e := this k.toNat (by omega)
  rw [show ((k.toNat : Nat) : Int) = k by omega] at e
  exact e
theorem ents_hash {es : Array (Int × Value)} {ks : List Int} (h : Paired (Ent (PySem.intKind prog w)) es.toList ks) (hb : ∀ k ∈ ks, 0 ≤ k ∧ k < 10) : (es.map (·.1)).toList = ks := by
  rw [Array.toList_map]
  revert h
  generalize es.toList = l
  intro h
  induction h with
  | nil => rfl
  | cons r t ih =>
    rw [List.map_cons, ih fun k hk => hb k (List.mem_cons_of_mem _ hk), r.2.1]
    obtain ⟨h0, h1⟩ := hb _ List.mem_cons_self
    rw [small_hash h0 h1]
theorem copyK {a : Addr} {ks : List Int} {Q : Value → Shared → Prop} (hA : SetK (PySem.intKind prog w) s.heap a ks) (hb : ∀ k ∈ ks, 0 ≤ k ∧ k < 10) (h4 : 4 ≤ ks.length) (h10 : ks.length ≤ 10)
    (h : ∀ h' es ep t ks', (∀ c u, s.heap.get? c = some u → h'.get? c = some u) → SetAt (PySem.intKind prog w) h' s.heap.objs.size es ep t ks' → ks'.Perm ks → 7 ≤ t.mask → Q (.ref s.heap.objs.size) { s with heap := h' }) :
    wpAny (model prog w) A (Builtin.Frozenset.copyOf a) Q E s := by
  unfold Builtin.Frozenset.copyOf
  refine wpAny_bind (baseOfK hA (wpAny_bind (newSetK (knd := PySem.intKind prog w) fun hN => ?_)))
  have na : a ≠ s.heap.objs.size := Nat.ne_of_lt hA.lt
  refine wpAny_bind (wpAny_pure ?_)
  have hA1 := hA.keep (h' := s.heap.push { cls := .type "set", dict := none, data := .set #[] 0 (.fresh 0 0 (!w.params.followText "set-order")) }) fun o e => Heap.get?_push_of_some _ e
  have hget : (s.heap.push { cls := .type "set", dict := none, data := .set #[] 0 (.fresh 0 0 (!w.params.followText "set-order")) }).get? s.heap.objs.size = some { cls := .type "set", dict := none, data := .set #[] 0 (.fresh 0 0 (!w.params.followText "set-order")) } := Heap.get?_push_size _ rfl
  have old : ∀ c u, s.heap.get? c = some u → (s.heap.push { cls := .type "set", dict := none, data := .set #[] 0 (.fresh 0 0 (!w.params.followText "set-order")) }).get? c = some u := fun c u e => Heap.get?_push_of_some _ e
  generalize s.heap.push { cls := .type "set", dict := none, data := .set #[] 0 (.fresh 0 0 (!w.params.followText "set-order")) } = h1 at hA1 hget old ⊢
  have N : SetAt (PySem.intKind prog w) h1 s.heap.objs.size #[] 0 (.fresh 0 0 (!w.params.followText "set-order")) [] := ⟨⟨_, hget, ⟨rfl, rfl, rfl⟩, rfl⟩, .nil, List.nodup_nil, by decide, rfl, rfl, fresh_tidy _ _ _⟩
  obtain ⟨es, ep, t, ks', S, p⟩ := id hA1
  obtain ⟨o, ho, hex, hd⟩ := S.obj
  have hlen := Ents.len S.ents
  have hpl := p.length_eq
  have hb' : ∀ k ∈ ks', 0 ≤ k ∧ k < 10 := fun k hk => hb k (p.mem_iff.mp hk)
  have hhash := ents_hash S.ents hb'
  rw [setMerge_eq]
  rw [if_neg (by intro z; exact na (eq_of_beq z).symm)]
  refine wpAny_bind (wpAny_bind (wpAny_setState_of (s := { s with heap := h1 }) ho hd S.fits ?_))
  dsimp only
  rw [if_neg (by intro z; have := Array.isEmpty_iff_size_eq_zero.mp z; omega)]
  refine wpAny_bind (wpAny_mono (Q := fun _ s' => ∃ h2 ep2 t2, s' = { s with heap := h2 } ∧ Heap.SameBut s.heap.objs.size h1 h2 ∧ SetAt (PySem.intKind prog w) h2 s.heap.objs.size #[] ep2 t2 [] ∧ t2.place = #[] ∧ (15 ≤ t2.mask ∨ (t2.mask = 7 ∧ es.size ≤ 4)) ∧ 7 ≤ t2.mask) ?_ (fun _ s' hs' => ?_) fun _ _ x => x)
  · unfold setRoomFor
    obtain ⟨oN, hoN, hexN, hdN⟩ := N.obj
    refine wpAny_bind (wpAny_setState_of (s := { s with heap := h1 }) hoN hdN N.fits ?_)
    by_cases h5 : 5 ≤ es.size
    · have hr : (SetTable.fresh 0 0 (!w.params.followText "set-order")).roomFor es.size = some (2 * es.size) := by
        unfold SetTable.roomFor SetTable.fresh SetTable.fill
        simp only [List.size_toArray, List.length_nil, Nat.add_zero, Nat.zero_add]
        rw [if_pos (by omega), Nat.mul_comm]
      rw [hr]
      dsimp only
      rw [setRelay_eq]
      obtain ⟨z1, z2, z3⟩ := above_small es.size (by omega)
      refine wpAny_bind (wpAny_setState_of (s := { s with heap := h1 }) hoN hdN N.fits ?_)
      dsimp only
      rw [if_neg (by rw [sizeLine_eq]; omega)]
      have hrel : (SetTable.fresh 0 0 (!w.params.followText "set-order")).relaid ((#[] : Array (Int × Value)).map (·.1)) (2 * es.size) = some ({ mask := SetTable.sizeAbove (2 * es.size) - 1, place := #[], dummies := #[], finger := 0, led := !w.params.followText "set-order", moves := (SetTable.fresh 0 0 (!w.params.followText "set-order")).movedTo (SetTable.sizeAbove (2 * es.size) - 1), plain := true }, #[]) := by
        rw [show (#[] : Array (Int × Value)).map (·.1) = #[] by simp]
        exact laid_empty _ _ _ _ _
      rw [hrel]
      refine wpAny_bind (wpAny_pure ?_)
      dsimp only
      refine wpAny_storeSet_of (s := { s with heap := h1 }) hoN hdN ?_ (by show 0 ≤ sizeLine; exact Nat.zero_le _)
      refine ⟨_, _, _, rfl, Heap.SameBut.update _ _ _, N.store (es' := #[]) .nil List.nodup_nil (by decide) rfl rfl ⟨rfl, fun _ i j hi => by simp at hi⟩, rfl, .inl ?_, ?_⟩
      · have := z3 h5
        show 15 ≤ SetTable.sizeAbove (2 * es.size) - 1
        omega
      · show 7 ≤ SetTable.sizeAbove (2 * es.size) - 1
        omega
    · have hr : (SetTable.fresh 0 0 (!w.params.followText "set-order")).roomFor es.size = none := by
        unfold SetTable.roomFor SetTable.fresh SetTable.fill
        simp only [List.size_toArray, List.length_nil, Nat.add_zero, Nat.zero_add]
        rw [if_neg (by omega)]
      rw [hr]
      exact wpAny_pure ⟨h1, 0, _, rfl, Heap.SameBut.refl _ _, N, rfl, .inr ⟨rfl, by omega⟩, Nat.le_refl _⟩
  obtain ⟨h2, ep2, t2, rfl, sb2, N2, pl2, hm2, hm7⟩ := hs'
  obtain ⟨oN, hoN, hexN, hdN⟩ := N2.obj
  refine wpAny_bind (wpAny_setState_of (s := { s with heap := h2 }) hoN hdN N2.fits ?_)
  dsimp only
  have keep2 : ∀ c u, s.heap.get? c = some u → h2.get? c = some u := fun c u e => (sb2.2 c (Nat.ne_of_lt (Heap.lt_size e))).trans (old c u e)
  have keep3 : ∀ (ee : Array (Int × Value)) (tt : SetTable) c u, s.heap.get? c = some u → (h2.update s.heap.objs.size (Obj.putSet ee tt)).get? c = some u := fun ee tt c u e => ((Heap.SameBut.update h2 s.heap.objs.size (Obj.putSet ee tt)).2 c (Nat.ne_of_lt (Heap.lt_size e))).trans (keep2 c u e)
  have hfill : t2.fill = 0 := by
    unfold SetTable.fill
    rw [pl2, N2.tidy.none]
    rfl
  have hled : (t2.led && t.led) = t2.led := by
    rw [N2.led, S.led]
    cases (!w.params.followText "set-order") <;> rfl
  have hroad : t2.road t = .slotForSlot ∨ t2.road t = .clean := by
    unfold SetTable.road
    rw [hfill]
    simp only [bne_self_eq_false, Bool.false_eq_true, ↓reduceIte]
    split
    · exact .inl rfl
    · exact .inr rfl
  rcases hroad with hroad | hroad
  · have hmask : t2.mask = t.mask := by
      unfold SetTable.road at hroad
      rw [hfill] at hroad
      simp only [bne_self_eq_false, Bool.false_eq_true, ↓reduceIte] at hroad
      split at hroad
      · rename_i hc
        rw [Bool.and_eq_true] at hc
        exact eq_of_beq hc.1
      · cases hroad
    rw [hroad]
    dsimp only
    refine wpAny_storeSet_of (s := { s with heap := h2 }) hoN hdN (wpAny_pure ?_) (fits_of_scanBound S.bnd)
    refine h _ es _ _ ks' (keep3 _ _) (N2.store S.ents S.nodup S.bnd ?_ hled ?_) p (by show 7 ≤ t.mask; omega)
    · have := S.fits
      unfold SetTable.fits SetTable.fill at this ⊢
      exact this
    · exact ⟨S.tidy.none, fun hp => S.tidy.rise (by
        have hp' : (t2.plain && t.plain) = true := hp
        cases h3 : t.plain with
        | true => rfl
        | false => rw [h3, Bool.and_false] at hp'; cases hp')⟩
  · rw [hroad]
    dsimp only
    obtain ⟨t3, od, e1, e2, e3, e4, e5⟩ := laid_small (mask := t2.mask) (finger := t2.finger) (moves := t2.moves) (led := t2.led && t.led) (plain := t2.plain && t.plain) (hs := es.map (·.1)) (by rw [hhash]; exact S.nodup) (by rw [hhash]; exact fun k hk => by have := hb' k hk; omega) (by rw [Array.size_map]; exact hm2)
    rw [Array.size_map] at e5
    rw [e1]
    have hp3 := order_perm e5
    have hsz : (od.filterMap (es[·]?)).size = es.size := by
      have := hp3.length_eq
      rw [Array.length_toList, Array.length_toList] at this
      exact this
    refine wpAny_bind ?_
    dsimp only
    rw [if_neg (by rw [hsz]; simp)]
    refine wpAny_pure ?_
    dsimp only
    refine wpAny_storeSet_of (s := { s with heap := h2 }) hoN hdN (wpAny_pure ?_) (fits_of_scanBound (by rw [hsz]; exact S.bnd))
    obtain ⟨ks3, q1, q2⟩ := Paired.perm hp3.symm S.ents
    refine h _ _ _ _ ks3 (keep3 _ _) (N2.store q1 (q2.nodup_iff.mpr S.nodup) (by rw [hsz]; exact S.bnd) ?_ (by rw [e3, hled]) (laid_tidy e1)) (q2.trans p) (by rw [e2]; exact hm7)
    have hod : od.size = es.size := by
      have := e5.length_eq
      simpa using this
    have T := laid_tidy e1
    have hsz2 := hsz
    generalize (od.filterMap (es[·]?)).size = q at hsz2
    unfold SetTable.fits SetTable.fill
    rw [hsz2, T.none, e4, hod, e2, beq_self_eq_true, Bool.true_and, decide_eq_true_eq]
    simp only [List.size_toArray, List.length_nil, Nat.add_zero]
    omega
end
end L2
namespace L2
open PySem PySem.Spec PyProof.Rows
section
variable {prog : Program} {w : World} {A : Around} {E : Value → Shared → Prop} {s : Shared}
theorem erase_perm2 {α : Type} (xs : Array α) (i : Nat) : (SetTable.eraseAt xs i).toList = xs.toList.eraseIdx i := by
  unfold SetTable.eraseAt
  rw [List.eraseIdx_eq_take_drop_succ]
  simp only [Array.toList_append, Array.toList_extract, List.extract_eq_take_drop, Nat.sub_zero, List.drop_zero]
  congr 1
  exact List.take_of_length_le (by rw [List.length_drop]; simp)
theorem discardK {a : Addr} {es : Array (Int × Value)} {ep : Nat} {t : SetTable} {ks : List Int} {k : Int} {x : Value} {Q : Bool → Shared → Prop} (hkey : (PySem.intKind prog w).is k x = true) (hsc : x.scannable = true) (S : SetAt (PySem.intKind prog w) s.heap a es ep t ks) (hm : 7 ≤ t.mask) (h2 : 2 ≤ es.size)
    (h : ∀ h' b T n t' es' ep', Heap.SameBut a s.heap h' → h'.SetOf (PySem.intKind prog w) a T n → 1 ≤ n → (∃ o, h'.get? a = some o ∧ o.data = .set es' ep' t' ∧ t'.fits es'.size = true ∧ t'.tooManyDummies = false) → Q b { s with heap := h' }) :
    wpAny (model prog w) A (setDiscardHashed a x ((PySem.intKind prog w).hash k)) Q E s := by
  obtain ⟨o, ho, hex, hd⟩ := S.obj
  have hel := Ents.elems S.ents
  have hlen := Ents.len S.ents
  have few : t.tooManyDummies = false := by
    unfold SetTable.tooManyDummies
    rw [S.tidy.none]
    simp
  unfold setDiscardHashed setFind setFindIn
  refine wpAny_bind (wpAny_bind (wpAny_setState_of ho hd S.fits ?_))
  dsimp only
  rw [byScan_of hsc S.bnd hel]
  simp only [↓reduceIte]
  refine wpAny_bind (wpAny_rule (wpAny_bind (wpAny_setScan_of hkey ho hd S.fits hel ?_)))
  cases hr : List.findIdx? (fun e => (PySem.intKind prog w).is k e.2) es.toList with
  | none =>
    dsimp only
    refine wpAny_pure (wpAny_pure ?_)
    have := h s.heap false _ _ t es ep (Heap.SameBut.refl a s.heap) S.setOf (by omega) ⟨o, ho, hd, S.fits, few⟩
    exact this
  | some j =>
    obtain ⟨hj, hpj, _⟩ := List.findIdx?_eq_some_iff_getElem.mp hr
    have hj' : j < es.size := by simpa using hj
    dsimp only
    refine wpAny_pure ?_
    dsimp only
    refine wpAny_bind (wpAny_setState_of ho hd S.fits ?_)
    dsimp only
    rw [Nat.zero_add]
    have hpz := S.psize
    obtain ⟨pj, hpl⟩ : ∃ pj, t.place[j]? = some pj := ⟨t.place[j]'(by omega), by simp [hpz, hj']⟩
    have hes : (SetTable.eraseAt es j).size = es.size - 1 := by
      rw [← Array.length_toList, erase_perm2, List.length_eraseIdx_of_lt (by simpa using hj'), Array.length_toList]
    have hdrop : t.drop j = { t with place := SetTable.eraseAt t.place j, dummies := SetTable.insertAt t.dummies (SetTable.below t.dummies pj) pj } := by
      unfold SetTable.drop
      rw [hpl]
    have hps : (SetTable.eraseAt t.place j).size = t.place.size - 1 := by
      rw [← Array.length_toList, erase_perm2, List.length_eraseIdx_of_lt (by simp [hpz, hj']), Array.length_toList]
    have hds : (SetTable.insertAt t.dummies (SetTable.below t.dummies pj) pj).size = 1 := by
      rw [S.tidy.none]
      simp [SetTable.insertAt, SetTable.below, SetTable.below.go]
    have hfit := S.fits
    unfold SetTable.fits SetTable.fill at hfit
    rw [Bool.and_eq_true, decide_eq_true_eq] at hfit
    have hf' : (t.drop j).fits (SetTable.eraseAt es j).size = true := by
      rw [hdrop]
      unfold SetTable.fits SetTable.fill
      dsimp only
      rw [hps, hds, hes, hpz, beq_self_eq_true, Bool.true_and, decide_eq_true_eq]
      have := hfit.2
      omega
    refine wpAny_bind (wpAny_storeSet_of ho hd ?_ (fits_of_scanBound (by rw [hes]; have := S.bnd; omega)))
    refine wpAny_bind (wpAny_point (wpAny_pure ?_))
    have hsub : ∀ e ∈ (SetTable.eraseAt es j).toList, e ∈ es.toList := fun e he => by
      rw [erase_perm2] at he
      exact List.mem_of_mem_eraseIdx he
    obtain ⟨e1, w1⟩ := SetOf_store (knd := PySem.intKind prog w) (S' := fun k' => (SetTable.eraseAt es j).toList.any fun e => (PySem.intKind prog w).is k' e.2) ho hex hd (es' := SetTable.eraseAt es j) (t' := t.drop j) (fun e he => hel e (hsub e he)) (fun k' => by rw [List.any_eq_true]) (by rw [hes]; have := S.bnd; omega) hf'
    refine h _ true _ _ (t.drop j) _ _ (Heap.SameBut.update _ _ _) w1 (by rw [hes]; omega) ⟨_, e1, rfl, hf', ?_⟩
    rw [hdrop]
    unfold SetTable.tooManyDummies
    dsimp only
    rw [hds, decide_eq_false_iff_not]
    omega
theorem tidyNow {a : Addr} {o : Obj} {es : Array (Int × Value)} {ep : Nat} {t : SetTable} {Q : Unit → Shared → Prop} (ho : s.heap.get? a = some o) (hd : o.data = .set es ep t) (hf : t.fits es.size = true) (hn : t.tooManyDummies = false) (h : Q () s) : wpAny (model prog w) A (setTidy a) Q E s := by
  unfold setTidy
  refine wpAny_bind (wpAny_setState_of ho hd hf ?_)
  dsimp only
  rw [hn]
  exact wpAny_pure h
theorem walkUnseen0 {κ : Type} [DecidableEq κ] {knd : KeyKind prog w κ} {a : Addr} {others : List Addr} {ks : List κ} {Q : Array (Int × Value) → Shared → Prop} (hS : SetK knd s.heap a ks) (hO : ∀ b ∈ others, ∃ ks, SetK knd s.heap b ks)
    (h : ∀ (ys : Array (Int × Value)) (ls : List κ) (dr : _), Paired (Ent knd) ys.toList ls → ls.Perm ks → Q ys { s with drawn := dr }) :
    wpAny (model prog w) A (setWalkUnseen a others none) Q E s := by
  obtain ⟨es, ep, t, ks', S, p⟩ := id hS
  obtain ⟨o, ho, hex, hd⟩ := S.obj
  rw [setWalkUnseen_eq]
  refine wpAny_bind (wpAny_setState_of ho hd S.fits ?_)
  dsimp only
  unfold setsByText
  refine wpAny_bind (wpAny_bind (wpAny_askSetting (wpAny_pure ?_)))
  dsimp only
  split
  · exact walkK hS fun ys ls dr h1 h2 => h ys ls dr h1 h2
  · refine wpAny_bind (quietK (knd := knd) (l := a :: others) (fun b hb => (List.mem_cons.mp hb).elim (fun z => z ▸ ⟨ks, hS⟩) (hO b)) ?_)
    simp only [Bool.not_true, Bool.false_eq_true, ↓reduceIte]
    refine wpAny_bind (wpAny_rule ?_)
    exact wpAny_pure (h es ks' s.drawn S.ents p)
theorem updateK {id : String} {r b : Addr} {es : Array (Int × Value)} {ep : Nat} {t : SetTable} {ks ls : List Int} {Q : Unit → Shared → Prop} (S : SetAt (PySem.intKind prog w) s.heap r es ep t ks) (hB : SetK (PySem.intKind prog w) s.heap b ls) (hne : r ≠ b) (hm : 7 ≤ t.mask) (h4 : 4 ≤ es.size) (h1 : ls.length ≤ 1)
    (h : ∀ h' dr T n, Heap.SameBut r s.heap h' → h'.SetOf (PySem.intKind prog w) r T n → 1 ≤ n → Q () { s with heap := h', drawn := dr }) :
    wpAny (model prog w) A (Builtin.Frozenset.differenceUpdate id r (.ref b)) Q E s := by
  have hR : SetK (PySem.intKind prog w) s.heap r ks := ⟨_, _, _, _, S, List.Perm.refl _⟩
  obtain ⟨o, ho, hex, hd⟩ := S.obj
  have few : t.tooManyDummies = false := by
    unfold SetTable.tooManyDummies
    rw [S.tidy.none]
    simp
  have hlen := Ents.len S.ents
  unfold Builtin.Frozenset.differenceUpdate
  rw [if_neg (by intro z; have z' : Value.ref b = Value.ref r := eq_of_beq z; injection z' with z'; exact hne z'.symm)]
  refine wpAny_bind (anySetK hB ?_)
  dsimp only
  rw [if_pos rfl]
  refine wpAny_bind (wpAny_pure ?_)
  refine wpAny_bind (sizeK hB (wpAny_bind (sizeK hR ?_)))
  rw [if_neg (by omega)]
  obtain ⟨eb, epb, tb, lb, SB, pb⟩ := hB.perm (List.Perm.refl _)
  refine wpAny_bind (epochK SB (wpAny_bind (wpAny_holding (wpAny_bind (walkUnseen0 hB (fun c hc => by rw [List.mem_singleton.mp hc]; exact ⟨_, hR⟩) fun ys ls' dr hy hp => ?_)))))
  have hl' : ls'.length ≤ 1 := by rw [hp.length_eq]; exact h1
  have hyl : ys.toList.length = ls'.length := Paired.length hy
  have fin : ∀ (h' : Heap) T n t' es' ep', Heap.SameBut r s.heap h' → h'.SetOf (PySem.intKind prog w) r T n → 1 ≤ n → (∃ o, h'.get? r = some o ∧ o.data = .set es' ep' t' ∧ t'.fits es'.size = true ∧ t'.tooManyDummies = false) →
      wpAny (model prog w) A (setTidy r) Q E { s with heap := h', drawn := dr } := by
    rintro h' T n t' es' ep' sb hT hn ⟨o', ho', hd', hf', hm'⟩
    exact tidyNow (s := { s with heap := h', drawn := dr }) ho' hd' hf' hm' (h h' dr T n sb hT hn)
  rw [← Array.forIn_toList]
  match ls', hl', hy, hyl with
  | [], _, hy, _ =>
    have e0 : ys.toList = [] := by
      generalize ys.toList = l at hy
      cases hy
      rfl
    rw [e0, List.forIn_nil]
    refine wpAny_bind (wpAny_pure (wpAny_pure ?_))
    exact fin s.heap _ _ t es ep (Heap.SameBut.refl _ _) S.setOf (by omega) ⟨o, ho, hd, S.fits, few⟩
  | [k], _, hy, _ =>
    obtain ⟨e, ee, re⟩ : ∃ e, ys.toList = [e] ∧ Ent (PySem.intKind prog w) e k := by
      generalize ys.toList = l at hy
      cases hy with
      | cons re t => cases t; exact ⟨_, rfl, re⟩
    obtain ⟨eh, ex⟩ := e
    obtain ⟨he1, he2, he3⟩ := re
    dsimp only at he1 he2 he3
    subst he2
    rw [ee, List.forIn_cons]
    refine wpAny_bind (wpAny_bind (wpAny_bind (wpAny_holding (discardK (s := { s with drawn := dr }) he1 he3 S hm (by omega) fun h' bb T n t' es' ep' sb hT hn ho' => ?_))))
    refine wpAny_bind (unchangedK (s := { s with heap := h', drawn := dr }) (SB.keep fun o e => (sb.2 b (Ne.symm hne)).trans e) (wpAny_pure ?_))
    dsimp only
    rw [List.forIn_nil]
    refine wpAny_pure (wpAny_pure ?_)
    exact fin h' T n t' es' ep' sb hT hn ho'
  | _ :: _ :: _, hl, _, _ => simp at hl
theorem diffK {id : String} {a b : Addr} {ks ls : List Int} {Q : Value → Shared → Prop} (hA : SetK (PySem.intKind prog w) s.heap a ks) (hB : SetK (PySem.intKind prog w) s.heap b ls) (hne : a ≠ b) (hs : ∀ k ∈ ks, 0 ≤ k ∧ k < 10) (h10 : ks.length ≤ 10)
    (h : ∀ h' dr T n, (∀ c u, s.heap.get? c = some u → h'.get? c = some u) → h'.SetOf (PySem.intKind prog w) s.heap.objs.size T n → (n = 0 ↔ ∀ k ∈ ks, k ∈ ls) → Q (.ref s.heap.objs.size) { s with heap := h', drawn := dr }) :
    wpAny (model prog w) A (Builtin.Frozenset.difference id a (.ref b)) Q E s := by
  have h0 : scanBound = 4096 := rfl
  unfold Builtin.Frozenset.difference
  refine wpAny_bind (anySetK hB ?_)
  simp only [Bool.not_true, Bool.false_eq_true, ↓reduceIte, Bool.false_and]
  refine wpAny_bind (wpAny_pure ?_)
  refine wpAny_bind (sizeK hB (wpAny_bind (sizeK hA ?_)))
  have na : a ≠ s.heap.objs.size := Nat.ne_of_lt hA.lt
  have nb : b ≠ s.heap.objs.size := Nat.ne_of_lt hB.lt
  by_cases hc : ks.length / 4 > ls.length
  · rw [if_pos hc]
    refine wpAny_bind (wpAny_rule (wpAny_bind (copyK hA hs (by omega) h10 fun h' es ep t ks' old S p hm => ?_)))
    have hlen := Ents.len S.ents
    have hpl := p.length_eq
    refine wpAny_bind (wpAny_pure (wpAny_bind (wpAny_holding (updateK (s := { s with heap := h' }) S (hB.keep fun o e => old _ _ e) (Ne.symm nb) hm (by omega) (by omega) fun h2 dr T n sb hT hn => ?_))))
    refine wpAny_pure (h h2 dr T n (fun c u e => (sb.2 c (Nat.ne_of_lt (Heap.lt_size e))).trans (old c u e)) hT ⟨fun z => by omega, fun hall => ?_⟩)
    have := len_sub hA.nodup hall
    omega
  · rw [if_neg hc]
    refine wpAny_bind (baseOfK hA (wpAny_bind (newSetK (knd := PySem.intKind prog w) fun hN => ?_)))
    refine wpAny_bind (wpAny_pure ?_)
    have hA1 := hA.keep (h' := s.heap.push { cls := .type "set", dict := none, data := .set #[] 0 (.fresh 0 0 (!w.params.followText "set-order")) }) fun o e => Heap.get?_push_of_some _ e
    have hB1 := hB.keep (h' := s.heap.push { cls := .type "set", dict := none, data := .set #[] 0 (.fresh 0 0 (!w.params.followText "set-order")) }) fun o e => Heap.get?_push_of_some _ e
    have old : ∀ c u, s.heap.get? c = some u → (s.heap.push { cls := .type "set", dict := none, data := .set #[] 0 (.fresh 0 0 (!w.params.followText "set-order")) }).get? c = some u := fun c u e => Heap.get?_push_of_some _ e
    generalize s.heap.push { cls := .type "set", dict := none, data := .set #[] 0 (.fresh 0 0 (!w.params.followText "set-order")) } = h1 at hN hA1 hB1 old ⊢
    obtain ⟨we, wep, wt, wks', W, wp⟩ := hA1.perm (List.Perm.refl _)
    refine wpAny_bind (epochK (s := { s with heap := h1 }) W ?_)
    refine wpAny_bind (wpAny_holding (wpAny_bind (walkUnseenK (knd := PySem.intKind prog w) (s := { s with heap := h1 }) hA1 hN (Ne.symm na) (fun c hc => ?_) fun ys ls' dr h' hy hp sb hN' => ?_)))
    · rcases List.mem_cons.mp hc with rfl | hc
      · exact ⟨_, hB1⟩
      · rw [List.mem_singleton.mp hc]; exact ⟨_, hN⟩
    · refine wpAny_bind (shareLoop (id := id) (knd := PySem.intKind prog w) (s := { s with heap := h', drawn := dr }) (asked := b) (walked := a) (r := s.heap.objs.size) (aks := ls) (fun k => !decide (k ∈ ls)) _ ?_ (Ne.symm nb) (Ne.symm na) hy (hp.nodup_iff.mpr hA.nodup) (by rw [hp.length_eq]; omega) hN'
        (hB1.keep fun o e => (sb.2 b nb).trans e) (W.keep fun o e => (sb.2 a na).trans e) fun h2 sb2 hf => ?_)
      · rintro k ⟨eh, ex⟩ rs s' Q' ⟨he1, he2, he3⟩ hr hrl hq' hw' hQ
        dsimp only at he1 he2 he3 ⊢
        subst he2
        refine wpAny_bind (wpAny_holding (wpAny_bind (findK he1 he3 hq' fun res hres => wpAny_bind (wpAny_pure ?_))))
        rw [hres]
        by_cases hc : (!decide (k ∈ ls)) = true
        · rw [if_pos hc]
          refine wpAny_bind (addHashed he1 he3 hr hrl fun h3 bb sb3 hs3 => ?_)
          refine wpAny_pure (wpAny_bind (unchangedK (s := { s' with heap := h3 }) (hw'.keep fun o e => (sb3.2 a na).trans e) (wpAny_pure (hQ h3 sb3 ?_))))
          rw [if_pos hc]; exact hs3
        · rw [if_neg hc]
          refine wpAny_pure (wpAny_bind (unchangedK hw' (wpAny_pure ?_)))
          have := hQ s'.heap (Heap.SameBut.refl _ _) (by rw [if_neg hc]; exact hr)
          exact this
      · refine wpAny_pure (wpAny_pure (h h2 dr _ _ (fun c u e => ?_) hf.setOf ?_))
        · have nc : c ≠ s.heap.objs.size := Nat.ne_of_lt (Heap.lt_size e)
          exact (sb2.2 c nc).trans ((sb.2 c nc).trans (old c u e))
        · rw [List.length_eq_zero_iff, List.filter_eq_nil_iff]
          constructor
          · intro hall k hk
            have := hall k (hp.mem_iff.mpr hk)
            simpa using this
          · intro hall k hk
            have := hall k (hp.mem_iff.mp hk)
            simpa using this
end
section
variable {X : Cx}
theorem entry_set_sub : entryFor table "set.__sub__" = some Builtin.«frozenset.__sub__» :=
  entryFor_alias (id' := "frozenset.__sub__") (by kernel_rfl) rfl (by decide +kernel) (by kernel_rfl)
noncomputable def rSubS (P : Program) (w : World) : R2 := fun x y H Q => ∃ (a b : Addr) (ks ls : List Int), x = .ref a ∧ y = .ref b ∧ a ≠ b ∧ H a = some (setO P w a ks) ∧ H b = some (setO P w b ls) ∧ (∀ k ∈ ks, 0 ≤ k ∧ k < 10) ∧ ks.length ≤ 10 ∧
  ∀ p T n, H p = none → (n = 0 ↔ ∀ k ∈ ks, k ∈ ls) → Q (.ref p) (upd H p (.set T n))
theorem op_subS : OpR X (binaryOp .Sub) (rSubS X.prog X.w) := by
  intro pins s σ H x y v u Q I rx ry h
  obtain ⟨a, b, ks, ls, rfl, rfl, hne, ha, hb, hsm, h10, q⟩ := h
  cases rx
  cases ry
  have hA := I.setK ha
  have hB := I.setK hb
  refine wpAny_binaryOp_same (op := .Sub) hA.typeIs hB.typeIs PySem.F.fills_set_sub PySem.F.slot_set_sub (wpAny_call_entry PySem.F.slot_set_sub hA.typeIs entry_set_sub ?_ (PySem.F.args_set_sub_2 _ _))
  have key : ∀ id, wpAny (model X.prog X.w) X.A.in1 (Builtin.Frozenset.difference id a (.ref b)) (fun v s' => v ≠ .notImplemented ∧ EP X pins σ Q v s') X.xe s := fun id =>
    diffK hA hB hne hsm h10 fun h' dr T n hk hT hn => ⟨(by intro z; cases z), V.ref s.heap.objs.size, _, (I.laid (t' := s.toks) hk (Nat.le_refl _) (show ObjOk X.prog X.w _ _ _ (.set T n) from hT)).dr dr, rfl, q _ T n I.fresh hn⟩
  unfold Builtin.«frozenset.__sub__»
  exact binarySet hA hB (key _)
theorem call_lenN : CallR X (.builtin "len") (fun xs H Q => ∃ (a : Addr) (T : Int → Bool) (n : Nat), xs = [V.ref a] ∧ H a = some (.set T n) ∧ Q (.int (n : Int)) H) := by
  intro pins s σ H xs us Q I r h
  obtain ⟨a, T, n, rfl, ha, q⟩ := h
  obtain ⟨u, rfl, ru⟩ := r.one
  cases ru
  obtain ⟨o, es, ep, t, ho, hex, hd, hel, hmem, hb, hf, hn⟩ := (show s.heap.SetOf (PySem.intKind X.prog X.w) a T n from I.hok a _ ha)
  have h0 : scanBound = 4096 := rfl
  exact call_len_set ho hex hd hf (by omega) ⟨.int (n : Int), H, I.tok _, ⟨_, by rw [hn]⟩, q⟩
noncomputable def tCallV (P : Program) (w : World) (K : PySem.W.Frag) (mg : Str → Option Value) (base : Heap) (A : Around) (i : Nat) (t : TA) : TE := fun σ H Q => ∃ (f : Addr) (fd : FuncData) (k : Nat) (ps : List Str) (sp : Sp), σ[i]? = some (some (.ref f)) ∧ FnOk P w K mg base CX0 k f fd ps sp ∧ Room k A ∧ PySem.W.keepIn K (.ref f) = true ∧ Binds K fd ps [] ∧ t σ H fun vs H1 => sp (vs ++ []) H1 Q E0
theorem pe_callV {i : Nat} {x : Str} {p pos : Pos} {e : Expr} {es : List Expr} {t : TA} (hx : Passes CX0 X E0) (hv : PE X (.Name x p) (tVar i)) (ha : PA X (e :: es) t) (he : starEach (e :: es) X.env = (false, eval e X.env) :: starEach es X.env := by rfl) (hpl : (backTo pos (starEach es X.env)).any (·.1) = false := by rfl) :
    PE X (.Call (.Name x p) (e :: es) [] pos) (tCallV X.prog X.w X.K X.mg X.base X.A i t) := by
  intro pins s σ H Q I h
  obtain ⟨f, fd, k, ps, sp, e1, F, hr, hk, hb, h⟩ := h
  refine wpAny_Call_Name_kw (thn (hv pins s σ H (fun v H' => v = .ref f ∧ t σ H' fun vs H1 => sp (vs ++ []) H1 Q E0) I ⟨_, e1, rfl, h⟩) fun u s1 ⟨v, H1, I1, r1, ev, h1⟩ => ?_)
  subst ev
  cases r1
  refine PySem.W.callWith_K (h₀ := X.base) I.ok.mod.kin hk (thn (ha pos pins s1 σ H1 _ I1 h1) fun us s2 ⟨vs, H2, I2, r, q⟩ => ⟨I2.kIn, ?_⟩) he hpl
  exact run_fn F hr hb .nil hx I2 r q
end
end L2
namespace L2
open PySem PySem.Spec PyProof.Rows
noncomputable def IsP (H : Hp) (q : Nat × Nat) (v : V) : Prop := ∃ t : Addr, v = .ref t ∧ H t = some (.tup [.int (q.1 : Int), .int (q.2 : Int)])
theorem IsP.mono {H H' : Hp} (t : Tups H H') {q : Nat × Nat} {v : V} (h : IsP H q v) : IsP H' q v := let ⟨a, e, h⟩ := h; ⟨a, e, t _ _ h⟩
theorem IsP.inj {H : Hp} {q q' : Nat × Nat} {v : V} (h : IsP H q v) (h' : IsP H q' v) : q = q' := by
  obtain ⟨t, rfl, e⟩ := h
  obtain ⟨t', e2, e'⟩ := h'
  cases e2
  rw [e] at e'
  injection e' with z
  injection z with z
  injection z with z1 z
  injection z with z2 _
  injection z1 with z1
  injection z2 with z2
  exact Prod.ext (by omega) (by omega)
noncomputable def PL (H : Hp) : List V → List (Nat × Nat) → Prop := Paired fun v q => IsP H q v
theorem PL.mono {H H' : Hp} (t : Tups H H') {xs : List V} {qs : List (Nat × Nat)} (h : PL H xs qs) : PL H' xs qs := Paired.imp' (fun _ _ q => IsP.mono t q) h
theorem PL.len {H : Hp} {xs : List V} {qs : List (Nat × Nat)} (h : PL H xs qs) : xs.length = qs.length := Paired.length h
theorem PL.get {H : Hp} : ∀ {xs : List V} {ks : List (Nat × Nat)} {i : Nat} {v : V}, PL H xs ks → xs[i]? = some v → ∃ k, ks[i]? = some k ∧ IsP H k v
  | _, _, _, _, .nil, e => by simp at e
  | _, _, 0, _, .cons r _, e => by simp at e; subst e; exact ⟨_, rfl, r⟩
  | _, _, i + 1, v, .cons _ t, e => by
    obtain ⟨u, h1, h2⟩ := PL.get (i := i) (v := v) t (by simpa using e)
    exact ⟨u, by simpa using h1, h2⟩
theorem PL.any {H : Hp} {k : Nat × Nat} {e : Value → Bool} : ∀ {xs : List V} {ks : List (Nat × Nat)} {us : List Value}, PL H xs ks → Vals xs us → (∀ x k' u, RelV x u → IsP H k' x → e u = decide (k' = k)) → us.any e = decide (k ∈ ks)
  | _, _, _, .nil, .nil, _ => by simp
  | _, k1 :: _, _, .cons r t, .cons ru tu, h => by
    rw [List.any_cons, h _ _ _ ru r, PL.any t tu h]
    by_cases c : k1 = k
    · subst c; simp
    · have c' : ¬ k = k1 := fun z => c z.symm
      simp [c, c']
theorem das_pl {H : Hp} : ∀ {qs : List (Nat × Nat)} {xs : List V}, Das H (qs.map pairD) xs → PL H xs qs
  | [], _, h => by
    have e : _ = [] := h
    subst e
    exact .nil
  | q :: qs, _, ⟨y, r, e0, h, h2⟩ => by
    subst e0
    obtain ⟨p, ys, e1, h3, y1, s1, e2, h4, y2, s2, e3, h5, h6⟩ := (show ∃ p xs, y = .ref p ∧ H p = some (.tup xs) ∧ Das H [.int (q.1 : Int), .int (q.2 : Int)] xs from h)
    have e4 : y1 = .int (q.1 : Int) := h4
    have e5 : y2 = .int (q.2 : Int) := h5
    have e6 : s2 = [] := h6
    subst e3 e2 e4 e5 e6
    exact .cons ⟨p, e1, h3⟩ (das_pl h2)
section
variable {X : Cx} {pins : List (Addr × Obj)} {σ : St} {H : Hp} {s : Shared}
theorem intAt (A : Around) (s : Shared) {a b : Int} {u v : Value} (hu : RelV (.int a) u) (hv : RelV (.int b) v) : SeqAt.EqAt A s u v (a == b) := by
  obtain ⟨t, rfl⟩ := hu
  obtain ⟨t', rfl⟩ := hv
  exact SeqAt.EqAt.int_int _ _ _ _
theorem tup2_at {p : Addr} {x y : V} (I : Inv X pins σ H s) (hp : H p = some (.tup [x, y])) : ∃ u0 u1, s.heap.IsTuple p #[u0, u1] ∧ RelV x u0 ∧ RelV y u1 := by
  obtain ⟨_, its, r, t⟩ := (show ObjOk X.prog X.w H s.heap p _ from I.hok p _ hp)
  cases r with
  | cons r1 r =>
    cases r with
    | cons r2 r =>
      cases r
      exact ⟨_, _, t, r1, r2⟩
theorem all2 {u0 u1 v0 v1 : Value} {b0 b1 : Bool} : ((List.range (min (#[u0, u1] : Array Value).size (#[v0, v1] : Array Value).size)).all (fun j => if j = 0 then b0 else b1) && (#[u0, u1] : Array Value).size == (#[v0, v1] : Array Value).size) = (b0 && b1) := by
  cases b0 <;> cases b1 <;> rfl
theorem pair_dec (q q' : Nat × Nat) : (((q.1 : Int) == (q'.1 : Int)) && ((q.2 : Int) == (q'.2 : Int))) = decide (q = q') := by
  rw [Bool.eq_iff_iff, Bool.and_eq_true, beq_iff_eq, beq_iff_eq, decide_eq_true_eq]
  constructor
  · rintro ⟨a, b⟩
    exact Prod.ext (by omega) (by omega)
  · rintro rfl
    exact ⟨rfl, rfl⟩
theorem rcP {A : Around} (I : Inv X pins σ H s) {q q' : Nat × Nat} {x y : V} {u v : Value} (hx : IsP H q x) (hy : IsP H q' y) (ru : RelV x u) (rv : RelV y v) (hl : A.units < cLine) :
    SeqAt.RcAt A s u v (decide (q = q')) ∧ SeqAt.RcNeAt A s u v (!decide (q = q')) := by
  obtain ⟨p, rfl, hp⟩ := hx
  obtain ⟨p', rfl, hp'⟩ := hy
  cases ru
  cases rv
  obtain ⟨u0, u1, t1, a0, a1⟩ := tup2_at I hp
  obtain ⟨v0, v1, t2, c0, c1⟩ := tup2_at I hp'
  have he : ∀ j (g1 : j < (#[u0, u1] : Array Value).size) (g2 : j < (#[v0, v1] : Array Value).size), SeqAt.EqAt A.in1 s (#[u0, u1] : Array Value)[j] (#[v0, v1] : Array Value)[j] ((fun j => if j = 0 then ((q.1 : Int) == (q'.1 : Int)) else ((q.2 : Int) == (q'.2 : Int))) j) := fun j g1 g2 => by
    have g : j < 2 := g1
    match j, g with
    | 0, _ => exact intAt A.in1 s a0 c0
    | 1, _ => exact intAt A.in1 s a1 c1
  have q1 := SeqAt.RcAt.tuples (A := A) t1 t2 hl he
  have q2 := SeqAt.RcNeAt.tuples (A := A) t1 t2 hl he
  rw [all2, pair_dec] at q1
  rw [all2, pair_dec] at q2
  exact ⟨q1, q2⟩
theorem eqP {A : Around} (I : Inv X pins σ H s) {q q' : Nat × Nat} {x y : V} {u v : Value} (hx : IsP H q x) (hy : IsP H q' y) (ru : RelV x u) (rv : RelV y v) (hl : A.units < cLine) : SeqAt.EqAt A s u v (decide (q = q')) := by
  have r := (rcP I hx hy ru rv hl).1
  obtain ⟨p, rfl, hp⟩ := hx
  obtain ⟨p', rfl, hp'⟩ := hy
  cases ru
  cases rv
  by_cases z : p = p'
  · subst z
    rw [decide_eq_true (IsP.inj (H := H) ⟨p, rfl, hp⟩ ⟨p, rfl, hp'⟩)]
    exact SeqAt.EqAt.same _
  · exact SeqAt.EqAt.of_refs z r
end
section
variable {X : Cx}
theorem op_inH (hu : X.A.units + 1 < cLine) : OpR X (compareOp .In) (fun x y H Q => ∃ a o, y = .ref a ∧ DGet H a x o ∧ Q (.bl o.isSome) H) := by
  intro pins s σ H x y v u Q I rx ry h
  obtain ⟨a, o, rfl, g, q⟩ := h
  cases ry
  exact d_in hu I g rx fun s' I' => ⟨.bl o.isSome, H, I', rfl, q⟩
theorem op_notInH (hu : X.A.units + 1 < cLine) : OpR X (compareOp .NotIn) (fun x y H Q => ∃ a o, y = .ref a ∧ DGet H a x o ∧ Q (.bl (!o.isSome)) H) := by
  intro pins s σ H x y v u Q I rx ry h
  obtain ⟨a, o, rfl, g, q⟩ := h
  cases ry
  exact d_notIn hu I g rx fun s' I' => ⟨.bl (!o.isSome), H, I', rfl, q⟩
noncomputable def rInP : R2 := fun x y H Q => ∃ (p : Addr) (k : Nat × Nat) (xs : List V) (ks : List (Nat × Nat)), y = .ref p ∧ H p = some (.lst xs) ∧ IsP H k x ∧ PL H xs ks ∧ Q (.bl (decide (k ∈ ks))) H
theorem op_inP (hu : X.A.units + 64 < cLine) : OpR X (compareOp .In) rInP := by
  intro pins s σ H x y v u Q I rx ry h
  obtain ⟨p, k, xs, ks, rfl, hp, hk, hL, q⟩ := h
  cases ry
  obtain ⟨its, rv, pl, hz⟩ := I.list (SqL.of hp)
  classical
  let e : Value → Bool := fun u => decide (∃ x', RelV x' u ∧ IsP H k x')
  have he : ∀ x' k' u, RelV x' u → IsP H k' x' → e u = decide (k' = k) := fun x' k' u r i => by
    show decide (∃ x', RelV x' u ∧ IsP H k x') = _
    by_cases c : k' = k
    · subst c
      rw [decide_eq_true ⟨x', r, i⟩, decide_eq_true rfl]
    · rw [decide_eq_false c, decide_eq_false]
      rintro ⟨x2, r2, i2⟩
      rw [RelV.inj r2 r] at i2
      exact c (IsP.inj i i2)
  refine SeqAt.in_listAt (items := its.toArray) e pl.isList (fun y hy => ?_) ?_
  · have hy' : y ∈ its := by simpa using hy
    obtain ⟨i, hi, ei⟩ := List.mem_iff_getElem.mp hy'
    have hx : ∃ x', xs[i]? = some x' := by
      have := rv.length
      exact ⟨xs[i]'(by omega), List.getElem?_eq_getElem (by omega)⟩
    obtain ⟨x', hx'⟩ := hx
    obtain ⟨u', hu', ru'⟩ := rv.get hx'
    rw [List.getElem?_eq_getElem hi, ei] at hu'
    cases hu'
    obtain ⟨k', hk', ik'⟩ := hL.get hx'
    rw [he x' k' y ru' ik']
    exact eqP I ik' hk ru' rx (by rw [in1_units]; omega)
  · have ea : its.toArray.any e = decide (k ∈ ks) := by
      rw [← PL.any hL rv he]
      simp
    rw [ea]
    exact ⟨.bl (decide (k ∈ ks)), H, I, rfl, q⟩
end
end L2
namespace L2
open PySem
noncomputable def gg : Nat → Nat
  | 0 => 0
  | n + 1 => 5 * gg n + 1
theorem gg_pow : ∀ n, 4 * gg n + 1 = 5 ^ n
  | 0 => rfl
  | n + 1 => by
    have := gg_pow n
    rw [Nat.pow_succ, gg]
    omega
noncomputable def lc (m i : Nat) : Nat → Nat
  | 0 => i
  | n + 1 => (lc m i n * 5 + 1) % m
theorem lc_eq {m i : Nat} (hi : i < m) : ∀ n, lc m i n = (5 ^ n * i + gg n) % m
  | 0 => by simp [lc, gg, Nat.mod_eq_of_lt hi]
  | n + 1 => by
    rw [lc, lc_eq hi n, Nat.add_mod, Nat.mul_mod, Nat.mod_mod, ← Nat.mul_mod, ← Nat.add_mod, Nat.pow_succ, gg]
    congr 1
    have : 5 ^ n * 5 * i = 5 ^ n * i * 5 := by rw [Nat.mul_assoc, Nat.mul_comm 5 i, ← Nat.mul_assoc]
    omega
theorem gg_add (a d : Nat) : gg (a + d) = 5 ^ a * gg d + gg a := by
  induction a with
  | zero => simp [gg]
  | succ a ih =>
    rw [show a + 1 + d = (a + d) + 1 by omega, gg, ih, gg, Nat.pow_succ]
    have : 5 ^ a * 5 * gg d = 5 * (5 ^ a * gg d) := by rw [Nat.mul_comm (5 ^ a) 5, Nat.mul_assoc]
    omega
theorem odd_dvd : ∀ (k a b : Nat), a % 2 = 1 → 2 ^ k ∣ a * b → 2 ^ k ∣ b
  | 0, _, _, _, _ => ⟨_, (Nat.one_mul _).symm⟩
  | k + 1, a, b, ha, h => by
    have h2 : (a * b) % 2 = 0 := Nat.mod_eq_zero_of_dvd (Nat.dvd_trans ⟨2 ^ k, by rw [Nat.pow_succ, Nat.mul_comm]⟩ h)
    have hb : b % 2 = 0 := by
      rw [Nat.mul_mod, ha, Nat.one_mul, Nat.mod_mod] at h2
      exact h2
    obtain ⟨c, rfl⟩ : ∃ c, b = 2 * c := ⟨b / 2, by omega⟩
    have h3 : 2 ^ k ∣ a * c := by
      obtain ⟨d, hd⟩ := h
      refine ⟨d, ?_⟩
      rw [Nat.pow_succ] at hd
      have e1 : a * (2 * c) = 2 * (a * c) := by rw [Nat.mul_left_comm]
      have e2 : 2 ^ k * 2 * d = 2 * (2 ^ k * d) := by rw [Nat.mul_comm (2 ^ k) 2, Nat.mul_assoc]
      omega
    obtain ⟨d, hd⟩ := odd_dvd k a c ha h3
    exact ⟨d, by rw [hd, Nat.pow_succ, Nat.mul_comm (2 ^ k) 2, Nat.mul_assoc]⟩
theorem pow5_odd : ∀ n, 5 ^ n % 2 = 1
  | 0 => rfl
  | n + 1 => by rw [Nat.pow_succ, Nat.mul_mod, pow5_odd n]
theorem pow_check : ∀ d, d < 512 → d ≠ 0 → ((5 ^ d - 1) / 4) % 512 ≠ 0 := by decide +kernel
theorem chk3 : ∀ d, d < 8 → d ≠ 0 → ((5 ^ d - 1) / 4) % 8 ≠ 0 := by decide +kernel
theorem chk4 : ∀ d, d < 16 → d ≠ 0 → ((5 ^ d - 1) / 4) % 16 ≠ 0 := by decide +kernel
theorem chk5 : ∀ d, d < 32 → d ≠ 0 → ((5 ^ d - 1) / 4) % 32 ≠ 0 := by decide +kernel
theorem chk6 : ∀ d, d < 64 → d ≠ 0 → ((5 ^ d - 1) / 4) % 64 ≠ 0 := by decide +kernel
theorem chk7 : ∀ d, d < 128 → d ≠ 0 → ((5 ^ d - 1) / 4) % 128 ≠ 0 := by decide +kernel
theorem chk8 : ∀ d, d < 256 → d ≠ 0 → ((5 ^ d - 1) / 4) % 256 ≠ 0 := by decide +kernel
noncomputable def Pw (m : Nat) : Prop := ∃ k, 3 ≤ k ∧ k ≤ 9 ∧ m = 2 ^ k
theorem gg_ne {k d : Nat} (h3 : 3 ≤ k) (h9 : k ≤ 9) (hd : d < 2 ^ k) (h0 : d ≠ 0) : gg d % 2 ^ k ≠ 0 := by
  have e : gg d = (5 ^ d - 1) / 4 := by have := gg_pow d; omega
  rw [e]
  obtain rfl | rfl | rfl | rfl | rfl | rfl | rfl : k = 3 ∨ k = 4 ∨ k = 5 ∨ k = 6 ∨ k = 7 ∨ k = 8 ∨ k = 9 := by omega
  · exact chk3 d hd h0
  · exact chk4 d hd h0
  · exact chk5 d hd h0
  · exact chk6 d hd h0
  · exact chk7 d hd h0
  · exact chk8 d hd h0
  · exact pow_check d hd h0
theorem lc_inj {k i a d : Nat} (h3 : 3 ≤ k) (h9 : k ≤ 9) (hi : i < 2 ^ k) (hd : d < 2 ^ k) (h0 : d ≠ 0) : lc (2 ^ k) i a ≠ lc (2 ^ k) i (a + d) := fun h => by
  rw [lc_eq hi, lc_eq hi] at h
  have e : 5 ^ (a + d) * i + gg (a + d) = 5 ^ a * (gg d * (4 * i + 1)) + (5 ^ a * i + gg a) := by
    rw [gg_add, Nat.pow_add, ← gg_pow d]
    rw [Nat.mul_assoc, Nat.add_mul, Nat.one_mul, Nat.mul_add, Nat.mul_add, Nat.mul_add, Nat.mul_one]
    have : 4 * gg d * i = gg d * (4 * i) := by rw [Nat.mul_comm 4 (gg d), Nat.mul_assoc]
    rw [this]
    omega
  have z := Nat.sub_mod_eq_zero_of_mod_eq h.symm
  rw [e, Nat.add_sub_cancel] at z
  have z2 := odd_dvd k _ _ (pow5_odd a) (Nat.dvd_of_mod_eq_zero z)
  rw [Nat.mul_comm] at z2
  have z3 := odd_dvd k _ _ (by omega) z2
  exact gg_ne h3 h9 hd h0 (Nat.mod_eq_zero_of_dvd z3)
theorem lc_lt {m i : Nat} (hi : i < m) : ∀ n, lc m i n < m
  | 0 => hi
  | n + 1 => Nat.mod_lt _ (by omega)
theorem lc_cover {m i j : Nat} (hm : Pw m) (hi : i < m) (hj : j < m) : ∃ n, n < m ∧ lc m i n = j := by
  obtain ⟨k, h3, h9, rfl⟩ := hm
  apply Classical.byContradiction
  intro hno
  have nd : ((List.range (2 ^ k)).map (lc (2 ^ k) i)).Nodup := by
    refine List.pairwise_map.mpr ((List.pairwise_lt_range (n := 2 ^ k)).imp_of_mem fun {a b} ha hb hab => ?_)
    have := lc_inj (a := a) (d := b - a) h3 h9 hi (by have := List.mem_range.mp hb; omega) (by omega)
    rwa [show a + (b - a) = b by omega] at this
  have hn : j ∉ (List.range (2 ^ k)).map (lc (2 ^ k) i) := fun z => by
    obtain ⟨n, h1, h2⟩ := List.mem_map.mp z
    exact hno ⟨n, List.mem_range.mp h1, h2⟩
  have := len_sub (a := j :: (List.range (2 ^ k)).map (lc (2 ^ k) i)) (b := List.range (2 ^ k)) (List.nodup_cons.mpr ⟨hn, nd⟩) fun x hx => by
    rcases List.mem_cons.mp hx with rfl | hx
    · exact List.mem_range.mpr hj
    · obtain ⟨n, _, rfl⟩ := List.mem_map.mp hx
      exact List.mem_range.mpr (lc_lt hi n)
  simp at this
  omega
noncomputable def T0 (mask : Nat) : SetTable := { mask, place := #[], dummies := #[], finger := 0, led := true, moves := 0, plain := true }
noncomputable def path (mask : Nat) (h : Int) : Nat → SetTable.Probe
  | 0 => (T0 mask).probeStart h
  | n + 1 => (T0 mask).advance (path mask h n)
noncomputable def lp (mask : Nat) (h : Int) : Nat → Nat × Nat
  | 0 => (SetTable.bits h % (mask + 1), SetTable.bits h)
  | k + 1 => SetTable.leap mask (lp mask h k).1 (lp mask h k).2
noncomputable abbrev rn (mask i : Nat) : Nat := SetTable.runEnd mask i - i
noncomputable def at' (mask : Nat) (h : Int) : Nat → Nat
  | 0 => 0
  | k + 1 => at' mask h k + rn mask (lp mask h k).1 + 1
theorem rn_le (mask i : Nat) : rn mask i ≤ 9 := by
  unfold rn SetTable.runEnd
  split <;> omega
theorem at_le (mask : Nat) (h : Int) : ∀ k, at' mask h k ≤ 10 * k
  | 0 => Nat.le_refl _
  | k + 1 => by
    have := at_le mask h k
    have := rn_le mask (lp mask h k).1
    rw [at']
    omega
theorem path_run {mask : Nat} {h : Int} {k : Nat} (h0 : path mask h (at' mask h k) = { j := (lp mask h k).1, more := rn mask (lp mask h k).1, i := (lp mask h k).1, perturb := (lp mask h k).2, dummy := none }) : ∀ r, r ≤ rn mask (lp mask h k).1 →
    path mask h (at' mask h k + r) = { j := (lp mask h k).1 + r, more := rn mask (lp mask h k).1 - r, i := (lp mask h k).1, perturb := (lp mask h k).2, dummy := none }
  | 0, _ => h0
  | r + 1, hr => by
    show (T0 mask).advance (path mask h (at' mask h k + r)) = _
    rw [path_run h0 r (by omega)]
    unfold SetTable.advance
    rw [if_pos (by show rn mask (lp mask h k).1 - r > 0; omega)]
    rfl
theorem path_at (mask : Nat) (h : Int) : ∀ k, path mask h (at' mask h k) = { j := (lp mask h k).1, more := rn mask (lp mask h k).1, i := (lp mask h k).1, perturb := (lp mask h k).2, dummy := none }
  | 0 => rfl
  | k + 1 => by
    show (T0 mask).advance (path mask h (at' mask h k + rn mask (lp mask h k).1)) = _
    rw [path_run (path_at mask h k) _ (Nat.le_refl _)]
    unfold SetTable.advance
    rw [if_neg (by show ¬ rn mask (lp mask h k).1 - rn mask (lp mask h k).1 > 0; omega)]
    rfl
theorem path_j {mask : Nat} {h : Int} {k r : Nat} (hr : r ≤ rn mask (lp mask h k).1) : (path mask h (at' mask h k + r)).j = (lp mask h k).1 + r := by rw [path_run (path_at mask h k) r hr]
theorem lp_pt (mask : Nat) (h : Int) : ∀ k, (lp mask h k).2 = SetTable.bits h / 32 ^ k
  | 0 => by simp [lp]
  | k + 1 => by
    show (lp mask h k).2 / 32 = _
    rw [lp_pt mask h k, Nat.div_div_eq_div_mul, Nat.pow_succ]
theorem bits_lt (h : Int) : SetTable.bits h < 2 ^ 64 := by
  unfold SetTable.bits
  have h1 := Int.emod_nonneg h (show (2 ^ 64 : Int) ≠ 0 by decide)
  have h2 := Int.emod_lt_of_pos h (show (0 : Int) < 2 ^ 64 by decide)
  omega
theorem lp_pt0 (mask : Nat) (h : Int) {k : Nat} (hk : 13 ≤ k) : (lp mask h k).2 = 0 := by
  rw [lp_pt]
  refine Nat.div_eq_of_lt (Nat.lt_of_lt_of_le (bits_lt h) (Nat.le_trans (show 2 ^ 64 ≤ 32 ^ 13 by decide) (Nat.pow_le_pow_right (by decide) hk)))
theorem lp_lt (mask : Nat) (h : Int) : ∀ k, (lp mask h k).1 < mask + 1
  | 0 => Nat.mod_lt _ (by omega)
  | k + 1 => Nat.mod_lt _ (by omega)
theorem lp_lc (mask : Nat) (h : Int) : ∀ n, (lp mask h (13 + n)).1 = lc (mask + 1) (lp mask h 13).1 n
  | 0 => rfl
  | n + 1 => by
    show ((lp mask h (13 + n)).1 * 5 + 1 + (lp mask h (13 + n)).2 / 32) % (mask + 1) = _
    rw [lp_pt0 mask h (by omega), lp_lc mask h n]
    rfl
theorem lp_cover {mask : Nat} (hm : Pw (mask + 1)) (h : Int) {j : Nat} (hj : j < mask + 1) : ∃ k, k < mask + 15 ∧ (lp mask h k).1 = j := by
  obtain ⟨n, hn, e⟩ := lc_cover hm (lp_lt mask h 13) hj
  exact ⟨13 + n, by omega, by rw [lp_lc, e]⟩
theorem path_cover {mask : Nat} (hm : Pw (mask + 1)) (h : Int) {j : Nat} (hj : j < mask + 1) : ∃ n, n < 10 * SetTable.turns mask ∧ (path mask h n).j = j := by
  obtain ⟨k, hk, e⟩ := lp_cover hm h hj
  refine ⟨at' mask h k, ?_, by rw [path_at, e]⟩
  have := at_le mask h k
  unfold SetTable.turns
  omega
theorem least {p : Nat → Prop} : ∀ {b : Nat}, (∃ n, n < b ∧ p n) → ∃ n, n < b ∧ p n ∧ ∀ m, m < n → ¬ p m := by
  intro b
  induction b with
  | zero => rintro ⟨n, h, _⟩; exact absurd h (Nat.not_lt_zero _)
  | succ b ih =>
    rintro ⟨n, h, hp⟩
    by_cases hb : ∃ n, n < b ∧ p n
    · obtain ⟨n, h1, h2, h3⟩ := ih hb
      exact ⟨n, by omega, h2, h3⟩
    · refine ⟨n, h, hp, fun m hm z => hb ⟨m, by omega, z⟩⟩
end L2
namespace L2
open PySem
noncomputable def Full (t : SetTable) (j : Nat) : Prop := (∃ i : Nat, t.place[i]? = some j) ∨ (∃ i : Nat, t.dummies[i]? = some j)
noncomputable def Reach (mask : Nat) (full : Nat → Prop) (h : Int) (j : Nat) : Prop := ∃ n, (path mask h n).j = j ∧ ∀ m, m < n → full (path mask h m).j
theorem Reach.mono {mask : Nat} {f g : Nat → Prop} {h : Int} {j : Nat} (hfg : ∀ j, f j → g j) (r : Reach mask f h j) : Reach mask g h j :=
  let ⟨n, e, q⟩ := r
  ⟨n, e, fun m hm => hfg _ (q m hm)⟩
theorem below_eq {xs : Array Nat} (hr : Rise xs) {i j : Nat} (h : xs[i]? = some j) : SetTable.below xs j = i := by
  have c := below_cut hr j
  rcases Nat.lt_trichotomy i (SetTable.below xs j) with z | z | z
  · have := c.lo' h z; omega
  · exact z.symm
  · obtain ⟨h1, e1⟩ := Array.getElem?_eq_some_iff.mp h
    have hp : SetTable.below xs j < xs.size := by omega
    have h2 := hr.get (show xs[SetTable.below xs j]? = some xs[SetTable.below xs j] by simp [hp]) h z
    have := c.hi _ hp (Nat.le_refl _)
    omega
theorem has_iff {xs : Array Nat} (hr : Rise xs) {j : Nat} : SetTable.has xs j = true ↔ ∃ i : Nat, xs[i]? = some j := by
  unfold SetTable.has
  constructor
  · intro h; exact ⟨_, eq_of_beq h⟩
  · rintro ⟨i, h⟩
    rw [below_eq hr h, h]
    exact beq_self_eq_true _
theorem slot_live {t : SetTable} (hr : Rise t.place) {i j : Nat} : t.slot j = .live i ↔ t.place[i]? = some j := by
  unfold SetTable.slot
  dsimp only
  constructor
  · intro h
    split at h
    · rename_i e
      injection h with h
      rw [← h]
      exact eq_of_beq e
    · split at h <;> cases h
  · intro h
    rw [below_eq hr h, if_pos (by rw [h]; exact beq_self_eq_true _)]
theorem slot_free {t : SetTable} (hr : Rise t.place) (hd : Rise t.dummies) {j : Nat} : t.slot j = .empty ↔ ¬ Full t j := by
  unfold SetTable.slot Full
  dsimp only
  constructor
  · intro h
    split at h
    · cases h
    · rename_i e
      split at h
      · cases h
      · rename_i e2
        rintro (⟨i, z⟩ | z)
        · exact e (by rw [below_eq hr z, z]; exact beq_self_eq_true _)
        · exact e2 ((has_iff hd).mpr z)
  · intro h
    rw [if_neg (fun z => h (.inl ⟨_, eq_of_beq z⟩)), if_neg (fun z => h (.inr ((has_iff hd).mp z)))]
structure Good (t : SetTable) (es : Array (Int × Value)) : Prop where
  pw : Pw (t.mask + 1)
  rise : Rise t.place
  drise : Rise t.dummies
  size : t.place.size = es.size
  fill : t.fill ≤ t.mask
  apart : ∀ (i i' j : Nat), t.place[i]? = some j → t.dummies[i']? ≠ some j
  reach : ∀ (i : Nat) h x j, es[i]? = some (h, x) → t.place[i]? = some j → Reach t.mask (Full t) h j
theorem Good.gap {t : SetTable} {es : Array (Int × Value)} (g : Good t es) : ∃ j, j < t.mask + 1 ∧ ¬ Full t j := by
  apply Classical.byContradiction
  intro hno
  have := len_sub (a := List.range (t.mask + 1)) (b := t.place.toList ++ t.dummies.toList) List.nodup_range fun x hx => by
    have hf : Full t x := Classical.byContradiction fun z => hno ⟨x, List.mem_range.mp hx, z⟩
    rw [List.mem_append]
    rcases hf with ⟨i, h⟩ | ⟨i, h⟩
    · exact .inl (Array.mem_toList_iff.mpr (Array.mem_of_getElem? h))
    · exact .inr (Array.mem_toList_iff.mpr (Array.mem_of_getElem? h))
  have h2 := g.fill
  unfold SetTable.fill at h2
  simp at this
  omega
theorem Good.first {t : SetTable} {es : Array (Int × Value)} (g : Good t es) (h : Int) : ∃ N, N < 10 * SetTable.turns t.mask ∧ ¬ Full t (path t.mask h N).j ∧ ∀ m, m < N → Full t (path t.mask h m).j := by
  obtain ⟨j, hj, hf⟩ := g.gap
  obtain ⟨n, hn, e⟩ := path_cover g.pw h hj
  obtain ⟨N, h1, h2, h3⟩ := least (p := fun n => ¬ Full t (path t.mask h n).j) ⟨n, hn, by rw [e]; exact hf⟩
  exact ⟨N, h1, h2, fun m hm => Classical.byContradiction fun z => h3 m hm z⟩
theorem Good.before {t : SetTable} {es : Array (Int × Value)} (g : Good t es) {i : Nat} {h : Int} {x : Value} {j N : Nat} (he : es[i]? = some (h, x)) (hp : t.place[i]? = some j) (hN : ¬ Full t (path t.mask h N).j) : ∃ n, n < N ∧ (path t.mask h n).j = j := by
  obtain ⟨n, e, q⟩ := g.reach i h x j he hp
  refine ⟨n, ?_, e⟩
  rcases Nat.lt_trichotomy n N with z | z | z
  · exact z
  · subst z
    exact absurd (.inl ⟨i, by rw [e]; exact hp⟩) hN
  · exact absurd (q N z) hN
theorem adv_dummy (t : SetTable) (p : SetTable.Probe) (d : Option Nat) : t.advance { p with dummy := d } = { t.advance p with dummy := d } := by
  unfold SetTable.advance
  dsimp only
  split <;> rfl
theorem probe_out {t : SetTable} {f : Nat → Int} {h : Int} {N : Nat} (hr : Rise t.place) (hd : Rise t.dummies) (hN : ¬ Full t (path t.mask h N).j) (hlt : ∀ m, m < N → Full t (path t.mask h m).j) : ∀ (fuel n : Nat) (d : Option Nat), n ≤ N → N - n < fuel →
    (∃ m i d', n ≤ m ∧ m < N ∧ (t.dummies = #[] → d' = d) ∧ t.slot (path t.mask h m).j = .live i ∧ f i = h ∧ (∀ k, n ≤ k → k < m → ∀ i, t.slot (path t.mask h k).j = .live i → f i ≠ h) ∧ SetTable.probe.go t f h fuel { path t.mask h n with dummy := d } = some (.candidate (path t.mask h m).j i { path t.mask h (m + 1) with dummy := d' })) ∨
    (∃ d', (t.dummies = #[] → d' = d) ∧ (∀ k, n ≤ k → k < N → ∀ i, t.slot (path t.mask h k).j = .live i → f i ≠ h) ∧ SetTable.probe.go t f h fuel { path t.mask h n with dummy := d } = some (.empty (path t.mask h N).j d'))
  | 0, n, d, _, hf => absurd hf (Nat.not_lt_zero _)
  | fuel + 1, n, d, hn, hf => by
    have step : ∀ d0, (t.dummies = #[] → d0 = d) → (n < N) → (∀ i, t.slot (path t.mask h n).j = .live i → f i ≠ h) → SetTable.probe.go t f h (fuel + 1) { path t.mask h n with dummy := d } = SetTable.probe.go t f h fuel { path t.mask h (n + 1) with dummy := d0 } →
        ((∃ m i d', n ≤ m ∧ m < N ∧ (t.dummies = #[] → d' = d) ∧ t.slot (path t.mask h m).j = .live i ∧ f i = h ∧ (∀ k, n ≤ k → k < m → ∀ i, t.slot (path t.mask h k).j = .live i → f i ≠ h) ∧ SetTable.probe.go t f h (fuel + 1) { path t.mask h n with dummy := d } = some (.candidate (path t.mask h m).j i { path t.mask h (m + 1) with dummy := d' })) ∨
        (∃ d', (t.dummies = #[] → d' = d) ∧ (∀ k, n ≤ k → k < N → ∀ i, t.slot (path t.mask h k).j = .live i → f i ≠ h) ∧ SetTable.probe.go t f h (fuel + 1) { path t.mask h n with dummy := d } = some (.empty (path t.mask h N).j d'))) := fun d0 hd0 hlt' hno e => by
      have add : ∀ b, (∀ k, n + 1 ≤ k → k < b → ∀ i, t.slot (path t.mask h k).j = .live i → f i ≠ h) → ∀ k, n ≤ k → k < b → ∀ i, t.slot (path t.mask h k).j = .live i → f i ≠ h := fun b q k hk hb i hi => by
        by_cases z : k = n
        · subst z; exact hno i hi
        · exact q k (by omega) hb i hi
      rcases probe_out hr hd hN hlt fuel (n + 1) d0 (by omega) (by omega) with ⟨m, i, d2, a1, a2, a0, a3, a4, a5, a6⟩ | ⟨d2, a0, a1, a2⟩
      · exact .inl ⟨m, i, d2, by omega, a2, fun z => (a0 z).trans (hd0 z), a3, a4, add m a5, by rw [e]; exact a6⟩
      · exact .inr ⟨d2, fun z => (a0 z).trans (hd0 z), add N a1, by rw [e]; exact a2⟩
    cases hs : t.slot (path t.mask h n).j with
    | empty =>
      have e : n = N := by
        rcases Nat.lt_or_ge n N with z | z
        · exact absurd (hlt n z) ((slot_free hr hd).mp hs)
        · omega
      subst e
      refine .inr ⟨d, fun _ => rfl, fun k h1 h2 => by omega, ?_⟩
      unfold SetTable.probe.go
      rw [hs]
    | dummy =>
      have hl : n < N := by
        rcases Nat.lt_or_ge n N with z | z
        · exact z
        · have : n = N := by omega
          subst this
          rw [(slot_free hr hd).mpr hN] at hs
          cases hs
      refine step (some (path t.mask h n).j) (fun z => absurd hs (slot_empty z)) hl (fun i hi => by rw [hs] at hi; cases hi) ?_
      conv => lhs; unfold SetTable.probe.go
      rw [hs]
      show SetTable.probe.go t f h fuel (t.advance { path t.mask h n with dummy := some (path t.mask h n).j }) = _
      rw [adv_dummy]
      rfl
    | live i =>
      have hl : n < N := by
        rcases Nat.lt_or_ge n N with z | z
        · exact z
        · have : n = N := by omega
          subst this
          rw [(slot_free hr hd).mpr hN] at hs
          cases hs
      by_cases hc : f i = h
      · refine .inl ⟨n, i, d, Nat.le_refl _, hl, fun _ => rfl, hs, hc, fun k h1 h2 => by omega, ?_⟩
        unfold SetTable.probe.go
        rw [hs]
        show (if (f i == h) = true then _ else _) = _
        rw [if_pos (by rw [hc]; exact beq_self_eq_true _), adv_dummy]
        rfl
      · refine step d (fun _ => rfl) hl (fun i' hi => by rw [hs] at hi; injection hi with hi; rw [← hi]; exact hc) ?_
        conv => lhs; unfold SetTable.probe.go
        rw [hs]
        show (if (f i == h) = true then _ else _) = _
        rw [if_neg (fun z => hc (eq_of_beq z)), adv_dummy]
        rfl
theorem none_dummies {t : SetTable} (hd : t.dummies = #[]) (i : Nat) : t.dummies[i]? = none := by rw [hd]; rfl
theorem put_dummies {t : SetTable} (hd : t.dummies = #[]) (j : Nat) : (t.put j).1.dummies = #[] := by
  unfold SetTable.put
  dsimp only
  rw [hd]
  simp [SetTable.has, SetTable.below, SetTable.below.go]
theorem Good.put {t : SetTable} {es : Array (Int × Value)} (g : Good t es) (hd : t.dummies = #[]) {h : Int} {x : Value} {N : Nat} (hN : ¬ Full t (path t.mask h N).j) (hlt : ∀ m, m < N → Full t (path t.mask h m).j) (room : t.fill + 1 ≤ t.mask) :
    Good (t.put (path t.mask h N).j).1 (SetTable.insertAt es (t.put (path t.mask h N).j).2 (h, x)) := by
  have hd2 := put_dummies hd (path t.mask h N).j
  generalize hj : (path t.mask h N).j = j at *
  have c := below_cut g.rise j
  have ep : (t.put j).1.place = SetTable.insertAt t.place (SetTable.below t.place j) j := rfl
  have e2 : (t.put j).2 = SetTable.below t.place j := rfl
  have em : (t.put j).1.mask = t.mask := rfl
  have hcp := c.le
  have full : ∀ k, Full t k → Full (t.put j).1 k := by
    rintro k (⟨i, hi⟩ | ⟨i, hi⟩)
    · refine .inl ?_
      rw [ep]
      by_cases hip : i < SetTable.below t.place j
      · exact ⟨i, by rw [ins_at _ _ _ hcp, if_pos hip]; exact hi⟩
      · exact ⟨i + 1, by rw [ins_at _ _ _ hcp, if_neg (by omega), if_neg (by omega)]; exact hi⟩
    · rw [none_dummies hd] at hi; cases hi
  refine ⟨g.pw, ?_, ?_, ?_, ?_, fun i i' j' _ z => (by rw [none_dummies hd2] at z; cases z), ?_⟩
  · rw [ep]
    exact rise_insert g.rise c fun z => hN (.inl ⟨_, z⟩)
  · rw [hd2]; exact fun i j hi => by simp at hi
  · rw [ep, e2, ins_size _ _ _ hcp, ins_size _ _ _ (by rw [← g.size]; exact hcp), g.size]
  · have h1 := room
    unfold SetTable.fill at h1 ⊢
    rw [hd2, ep, ins_size _ _ _ hcp, em]
    rw [hd] at h1
    simp at h1 ⊢
    omega
  · intro i h' x' j' he hp
    rw [ep, ins_at _ _ _ hcp] at hp
    rw [e2, ins_at _ _ _ (by rw [← g.size]; exact hcp)] at he
    rw [em]
    by_cases h1 : i < SetTable.below t.place j
    · rw [if_pos h1] at hp he
      exact (g.reach i h' x' j' he hp).mono full
    · rw [if_neg h1] at hp he
      by_cases h2 : i = SetTable.below t.place j
      · rw [if_pos h2] at hp he
        injection hp with hp
        injection he with he
        injection he with z1 z2
        subst hp z1
        exact ⟨N, hj, fun m hm => full _ (hlt m hm)⟩
      · rw [if_neg h2] at hp he
        exact (g.reach _ h' x' j' he hp).mono full
end L2
namespace L2
open PySem
theorem at_split (mask : Nat) (h : Int) : ∀ m, ∃ k r, r ≤ rn mask (lp mask h k).1 ∧ m = at' mask h k + r
  | 0 => ⟨0, 0, Nat.zero_le _, rfl⟩
  | m + 1 => by
    obtain ⟨k, r, h1, rfl⟩ := at_split mask h m
    by_cases z : r < rn mask (lp mask h k).1
    · exact ⟨k, r + 1, z, rfl⟩
    · refine ⟨k + 1, 0, Nat.zero_le _, ?_⟩
      rw [at']
      omega
theorem path_lt (mask : Nat) (h : Int) (m : Nat) : (path mask h m).j < mask + 1 := by
  obtain ⟨k, r, h1, rfl⟩ := at_split mask h m
  rw [path_j h1]
  have := lp_lt mask h k
  unfold rn SetTable.runEnd at h1
  split at h1 <;> omega
theorem free_path {mask : Nat} {h : Int} {owner : Array (Option Nat)} : ∀ (fuel k : Nat), (∃ k', k ≤ k' ∧ k' < k + fuel ∧ owner[(lp mask h k').1]? = some none) →
    ∃ n, at' mask h k ≤ n ∧ owner[(path mask h n).j]? = some none ∧ (∀ m, at' mask h k ≤ m → m < n → owner[(path mask h m).j]? ≠ some none) ∧ SetTable.layClean.free mask owner fuel (lp mask h k).1 (lp mask h k).2 = some (path mask h n).j
  | 0, k, ⟨k', h1, h2, _⟩ => by omega
  | fuel + 1, k, ⟨k', h1, h2, h3⟩ => by
    have isn : ∀ j, (owner.getD j (some 0)).isNone = true ↔ owner[j]? = some none := fun j => by
      rw [Array.getD_eq_getD_getElem?]
      cases hj : owner[j]? with
      | none => simp
      | some v => cases v <;> simp
    have hlen : SetTable.runEnd mask (lp mask h k).1 + 1 - (lp mask h k).1 = rn mask (lp mask h k).1 + 1 := by
      unfold rn SetTable.runEnd
      split <;> omega
    unfold SetTable.layClean.free
    rw [hlen]
    cases hf : (List.range (rn mask (lp mask h k).1 + 1)).find? (fun r => (owner.getD ((lp mask h k).1 + r) (some 0)).isNone) with
    | some r =>
      rw [List.find?_range_eq_some] at hf
      obtain ⟨p1, p2, p3⟩ := hf
      have hr : r ≤ rn mask (lp mask h k).1 := by have := List.mem_range.mp p2; omega
      refine ⟨at' mask h k + r, Nat.le_add_right _ _, by rw [path_j hr]; exact (isn _).mp p1, fun m m1 m2 => ?_, by rw [path_j hr]⟩
      obtain ⟨r', rfl⟩ : ∃ r', m = at' mask h k + r' := ⟨m - at' mask h k, by omega⟩
      rw [path_j (by omega)]
      intro z
      have := p3 r' (by omega)
      rw [(isn _).mpr z] at this
      cases this
    | none =>
      rw [List.find?_eq_none] at hf
      have hno : ∀ r, r ≤ rn mask (lp mask h k).1 → owner[(lp mask h k).1 + r]? ≠ some none := fun r hr z => hf r (List.mem_range.mpr (by omega)) ((isn _).mpr z)
      have hk : k' ≠ k := fun z => by
        subst z
        exact hno 0 (Nat.zero_le _) h3
      obtain ⟨n, q1, q2, q3, q4⟩ := free_path fuel (k + 1) ⟨k', by omega, by omega, h3⟩
      refine ⟨n, ?_, q2, fun m m1 m2 => ?_, q4⟩
      · rw [at'] at q1; omega
      · by_cases z : at' mask h (k + 1) ≤ m
        · exact q3 m z m2
        · rw [at'] at z
          obtain ⟨r, rfl⟩ : ∃ r, m = at' mask h k + r := ⟨m - at' mask h k, by omega⟩
          rw [path_j (by omega)]
          exact hno r (by omega)
noncomputable def occN (owner : Array (Option Nat)) : List Nat := (List.range owner.size).filter fun j => (owner.getD j none).isSome
theorem occN_set {owner : Array (Option Nat)} {j k : Nat} : (occN (owner.setIfInBounds j (some k))).length ≤ (occN owner).length + 1 := by
  have nd : (occN (owner.setIfInBounds j (some k))).Nodup := List.Pairwise.filter _ List.nodup_range
  have := len_sub (b := j :: occN owner) nd fun x hx => by
    unfold occN at hx
    obtain ⟨h1, h2⟩ := List.mem_filter.mp hx
    rw [Array.size_setIfInBounds] at h1
    by_cases e : x = j
    · rw [e]; exact List.mem_cons_self
    · refine List.mem_cons_of_mem _ (List.mem_filter.mpr ⟨h1, ?_⟩)
      rw [Array.getD_eq_getD_getElem?, Array.getElem?_setIfInBounds_ne (Ne.symm e)] at h2
      rw [Array.getD_eq_getD_getElem?]
      exact h2
  simpa using this
theorem occN_free {owner : Array (Option Nat)} (h : (occN owner).length < owner.size) : ∃ j, j < owner.size ∧ owner[j]? = some none := by
  apply Classical.byContradiction
  intro hno
  have := len_sub (a := List.range owner.size) (b := occN owner) List.nodup_range fun x hx => by
    refine List.mem_filter.mpr ⟨hx, ?_⟩
    have hx' := List.mem_range.mp hx
    rw [Array.getD_eq_getD_getElem?]
    cases e : owner[x]? with
    | none => rw [Array.getElem?_eq_none_iff] at e; omega
    | some v =>
      cases v with
      | none => exact absurd ⟨x, hx', e⟩ hno
      | some v => rfl
  simp at this
  omega
theorem Lay.taken {js : List Nat} {k0 : Nat} {owner o' : Array (Option Nat)} (L : Lay js k0 owner o') {j : Nat} (h : owner[j]? ≠ some none) : o'[j]? ≠ some none := by
  by_cases hj : j ∈ js
  · exact absurd (L.free j hj) h
  · rw [L.rest j hj]; exact h
theorem fold_reach {mask : Nat} (hm : Pw (mask + 1)) : ∀ (hs : List Int) (k0 : Nat) (owner : Array (Option Nat)), owner.size = mask + 1 → (occN owner).length + hs.length ≤ mask →
    ∃ o' js, hs.foldl (layStep mask) (some (owner, k0)) = some (o', k0 + hs.length) ∧ Lay js k0 owner o' ∧ js.length = hs.length ∧ ∀ (i : Nat) h j, hs[i]? = some h → js[i]? = some j → Reach mask (fun j => o'[j]? ≠ some none) h j
  | [], k0, owner, _, _ => ⟨owner, [], rfl, Lay.nil, rfl, fun i h j z => by simp at z⟩
  | h :: hs, k0, owner, hsz, ho => by
    obtain ⟨j0, hj0, hf0⟩ := occN_free (owner := owner) (by rw [hsz]; simp at ho; omega)
    obtain ⟨k, hk, ek⟩ := lp_cover hm h (j := j0) (by omega)
    obtain ⟨n, _, q2, q3, q4⟩ := free_path (mask := mask) (h := h) (owner := owner) (SetTable.turns mask) 0 ⟨k, Nat.zero_le _, by unfold SetTable.turns; omega, by rw [ek]; exact hf0⟩
    have q4' : SetTable.layClean.free mask owner (SetTable.turns mask) (SetTable.bits h % (mask + 1)) (SetTable.bits h) = some (path mask h n).j := q4
    obtain ⟨o', js, e1, L, e2, r⟩ := fold_reach hm hs (k0 + 1) (owner.setIfInBounds (path mask h n).j (some k0)) (by rw [Array.size_setIfInBounds]; exact hsz) (by
      have := occN_set (owner := owner) (j := (path mask h n).j) (k := k0)
      simp only [List.length_cons] at ho
      omega)
    have L' := Lay.cons q2 L
    refine ⟨o', (path mask h n).j :: js, ?_, L', by simp [e2], ?_⟩
    · rw [List.foldl_cons, layStep_of q4', e1]
      simp only [List.length_cons]
      congr 2
      omega
    · intro i h' j' hi hj
      cases i with
      | zero =>
        simp only [List.getElem?_cons_zero, Option.some.injEq] at hi hj
        subst hi hj
        exact ⟨n, rfl, fun m hm' => L'.taken (q3 m (Nat.zero_le _) hm')⟩
      | succ i =>
        simp only [List.getElem?_cons_succ] at hi hj
        exact r i h' j' hi hj
theorem filterMap_at {α : Type} {es : Array α} : ∀ {l : List Nat} (i : Nat), (∀ k ∈ l, k < es.size) → (l.filterMap (es[·]?))[i]? = l[i]?.bind (es[·]?)
  | [], i, _ => by simp
  | k :: l, i, h => by
    have hk := h k List.mem_cons_self
    rw [List.filterMap_cons_some (b := es[k]) (by simp [hk])]
    cases i with
    | zero => simp [hk]
    | succ i =>
      rw [List.getElem?_cons_succ, List.getElem?_cons_succ]
      exact filterMap_at i fun k' hk' => h k' (List.mem_cons_of_mem _ hk')
theorem laid_good {mask finger moves : Nat} {led plain : Bool} (hm : Pw (mask + 1)) {es : Array (Int × Value)} (hl : es.size ≤ mask) :
    ∃ t o, SetTable.laid mask finger moves led plain (es.map (·.1)) = some (t, o) ∧ t.mask = mask ∧ t.led = led ∧ t.plain = plain ∧ t.dummies = #[] ∧ (o.filterMap (es[·]?)).toList.Perm es.toList ∧ Good t (o.filterMap (es[·]?)) := by
  have hs0 : (occN (Array.replicate (mask + 1) none)).length = 0 := by
    unfold occN
    rw [List.length_eq_zero_iff, List.filter_eq_nil_iff]
    intro a ha
    rw [Array.getD_eq_getD_getElem?]
    cases e : (Array.replicate (mask + 1) (none : Option Nat))[a]? with
    | none => simp
    | some v =>
      rw [Array.getElem?_replicate] at e
      split at e
      · injection e with e; subst e; simp
      · cases e
  obtain ⟨o', js, e1, L, e2, r⟩ := fold_reach hm (es.map (·.1)).toList 0 (Array.replicate (mask + 1) none) (by simp) (by rw [hs0]; simp; omega)
  have ejs : js.length = es.size := by rw [e2]; simp
  have hlc : SetTable.layClean mask (es.map (·.1)) = some o' := by
    unfold SetTable.layClean
    rw [← Array.foldl_toList]
    exact congrArg (Option.map Prod.fst) e1
  have own : ∀ j k, o'.getD j none = some k ↔ js[k]? = some j := by
    intro j k
    constructor
    · intro h
      by_cases hj : j ∈ js
      · obtain ⟨i, hi, rfl⟩ := List.getElem_of_mem hj
        have := L.own i hi
        rw [Array.getD_eq_getD_getElem?, this] at h
        simp only [Option.getD_some, Option.some.injEq, Nat.zero_add] at h
        subst h
        simp [hi]
      · have := L.rest j hj
        rw [Array.getD_eq_getD_getElem?, this] at h
        by_cases hj2 : j < mask + 1
        · simp [hj2] at h
        · simp [hj2] at h
    · intro h
      obtain ⟨hk, rfl⟩ := List.getElem?_eq_some_iff.mp h
      have := L.own k hk
      rw [Array.getD_eq_getD_getElem?, this]
      simp
  obtain ⟨t0, o0, f1, f2, f3, f4, f5⟩ := laid_of (mask := mask) (finger := finger) (moves := moves) (led := led) (plain := plain) (hs := es.map (·.1)) (js := js) (o' := o') (by rw [e1]) L (by rw [ejs]; simp)
  unfold SetTable.laid at f1 ⊢
  rw [hlc] at f1 ⊢
  have f1' : (SetTable.mk mask (((List.range (mask + 1)).filterMap fun j => (o'.getD j none).map (j, ·)).map (·.1)).toArray #[] finger led moves plain, (((List.range (mask + 1)).filterMap fun j => (o'.getD j none).map (j, ·)).map (·.2)).toArray) = (t0, o0) := by injection f1
  refine ⟨_, _, rfl, rfl, rfl, rfl, rfl, ?_, ?_⟩
  all_goals
    have eo : (((List.range (mask + 1)).filterMap fun j => (o'.getD j none).map (j, ·)).map (·.2)).toArray = o0 := congrArg Prod.snd f1'
  · show (Array.filterMap (es[·]?) (((List.range (mask + 1)).filterMap fun j => (o'.getD j none).map (j, ·)).map (·.2)).toArray).toList.Perm es.toList
    rw [eo]
    exact order_perm (by simpa using f5)
  · have hperm : (Array.filterMap (es[·]?) (((List.range (mask + 1)).filterMap fun j => (o'.getD j none).map (j, ·)).map (·.2)).toArray).toList.Perm es.toList := by
      rw [eo]
      exact order_perm (by simpa using f5)
    have ft : (((List.range (mask + 1)).filterMap fun j => (o'.getD j none).map (j, ·)).map (·.1)).toArray.size = o0.size := by rw [← eo]; simp
    have o0s : o0.size = es.size := by
      have := f5.length_eq
      simpa using this
    have ess : (Array.filterMap (es[·]?) (((List.range (mask + 1)).filterMap fun j => (o'.getD j none).map (j, ·)).map (·.2)).toArray).size = es.size := by
      have := hperm.length_eq
      simpa using this
    refine ⟨hm, rise_toArray (filterMap_rise _ _), fun i j hi => by simp at hi, ?_, ?_, fun i i' j _ z => by simp at z, ?_⟩
    · show (((List.range (mask + 1)).filterMap fun j => (o'.getD j none).map (j, ·)).map (·.1)).toArray.size = _
      rw [ess, ft, o0s]
    · show (((List.range (mask + 1)).filterMap fun j => (o'.getD j none).map (j, ·)).map (·.1)).toArray.size + 0 ≤ mask
      rw [ft, o0s]
      exact hl
    · intro i h x j he hp
      have hp' : ((((List.range (mask + 1)).filterMap fun j => (o'.getD j none).map (j, ·)).map (·.1)))[i]? = some j := by simpa using hp
      rw [List.getElem?_map] at hp'
      obtain ⟨⟨j', k⟩, hlv, ej⟩ := Option.map_eq_some_iff.mp hp'
      have ej' : j' = j := ej
      subst ej'
      have hmem := List.mem_of_getElem? hlv
      obtain ⟨j2, hj2, e3⟩ := List.mem_filterMap.mp hmem
      obtain ⟨k2, e4, e5⟩ := Option.map_eq_some_iff.mp e3
      have e6 : j2 = j' := congrArg Prod.fst e5
      have e7 : k2 = k := congrArg Prod.snd e5
      subst e6 e7
      have hjk := (own j2 k2).mp e4
      have he' : (((((List.range (mask + 1)).filterMap fun j => (o'.getD j none).map (j, ·)).map (·.2))).filterMap (es[·]?))[i]? = some (h, x) := by
        have z : (Array.filterMap (es[·]?) (((List.range (mask + 1)).filterMap fun j => (o'.getD j none).map (j, ·)).map (·.2)).toArray).toList[i]? = some (h, x) := by
          rw [Array.getElem?_toList]; exact he
        rwa [Array.toList_filterMap] at z
      rw [filterMap_at i (fun k hk => by
        have hk' : k ∈ o0.toList := by rw [← eo]; exact hk
        have := List.mem_range.mp ((f5.mem_iff).mp hk')
        simpa using this), List.getElem?_map, hlv] at he'
      have he2 : es[k2]? = some (h, x) := he'
      have rr := r k2 h j2 (by rw [Array.toList_map, List.getElem?_map, Array.getElem?_toList, he2]; rfl) hjk
      obtain ⟨n, a1, a2⟩ := rr
      refine ⟨n, a1, fun m hm' => ?_⟩
      have a3 := a2 m hm'
      have lt := path_lt mask h m
      cases ov : o'[(path mask h m).j]? with
      | none =>
        rw [Array.getElem?_eq_none_iff, L.size] at ov
        simp at ov
        omega
      | some v =>
        cases v with
        | none => exact absurd ov a3
        | some k3 =>
          refine .inl ?_
          have hm3 : ((path mask h m).j, k3) ∈ (List.range (mask + 1)).filterMap fun j => (o'.getD j none).map (j, ·) := List.mem_filterMap.mpr ⟨_, List.mem_range.mpr lt, by rw [Array.getD_eq_getD_getElem?, ov]; rfl⟩
          obtain ⟨i3, h3, e8⟩ := List.getElem_of_mem hm3
          refine ⟨i3, ?_⟩
          show (((List.range (mask + 1)).filterMap fun j => (o'.getD j none).map (j, ·)).map (·.1)).toArray[i3]? = _
          simp only [List.getElem?_toArray, List.getElem?_map]
          rw [List.getElem?_eq_getElem h3, e8]
          rfl
end L2
namespace L2
open PySem PySem.Spec PyProof.Rows
noncomputable abbrev keyP (q : Nat × Nat) : List Int := [(q.1 : Int), (q.2 : Int)]
theorem keyP_inj {q q' : Nat × Nat} (h : keyP q = keyP q') : q = q' := by
  injection h with h1 h2
  injection h2 with h2 _
  exact Prod.ext (by omega) (by omega)
section
variable {prog : Program} {w : World} {D : Addr → Prop} {A : Around} {E : Value → Shared → Prop} {s : Shared}
noncomputable def hashP (prog : Program) (w : World) (q : Nat × Nat) : Int := tupleKeyHash (PySem.intKind prog w) (keyP q)
noncomputable abbrev TupP (prog : Program) (w : World) (h : Heap) (q : Nat × Nat) (b : Addr) : Prop := IsTupleKey (PySem.intKind prog w) h (keyP q) b
noncomputable def EntP (prog : Program) (w : World) (D : Addr → Prop) (h : Heap) (e : Int × Value) (q : Nat × Nat) : Prop := ∃ b, e.2 = .ref b ∧ TupP prog w h q b ∧ e.1 = hashP prog w q ∧ D b
structure SetPA (prog : Program) (w : World) (D : Addr → Prop) (h : Heap) (a : Addr) (es : Array (Int × Value)) (ep : Nat) (t : SetTable) (qs : List (Nat × Nat)) : Prop where
  obj : ∃ o, h.get? a = some o ∧ o.ExactSet ∧ o.data = .set es ep t
  ents : Paired (EntP prog w D h) es.toList qs
  nodup : qs.Nodup
  good : Good t es
  led : t.led = !w.params.followText "set-order"
  plain : t.plain = true
theorem SetPA.fits {h : Heap} {a : Addr} {es : Array (Int × Value)} {ep : Nat} {t : SetTable} {qs : List (Nat × Nat)} (S : SetPA prog w D h a es ep t qs) : t.fits es.size = true := by
  unfold SetTable.fits
  rw [S.good.size, beq_self_eq_true, Bool.true_and, decide_eq_true_eq]
  exact S.good.fill
theorem SetPA.len {h : Heap} {a : Addr} {es : Array (Int × Value)} {ep : Nat} {t : SetTable} {qs : List (Nat × Nat)} (S : SetPA prog w D h a es ep t qs) : es.size = qs.length := by
  have := Paired.length S.ents
  simpa using this
theorem Good.noWay {t : SetTable} {es : Array (Int × Value)} (g : Good t es) : t.gaveWay = false := by
  obtain ⟨k, h3, _, e⟩ := g.pw
  unfold SetTable.gaveWay
  have : 2 ^ k % 2 = 0 := by
    obtain ⟨k', rfl⟩ : ∃ k', k = k' + 1 := ⟨k - 1, by omega⟩
    rw [Nat.pow_succ]; omega
  have : t.mask % 2 = 1 := by omega
  rw [this]
  rfl
theorem Paired.at' {α β : Type} {R : α → β → Prop} : ∀ {l : List α} {k : List β} {i : Nat} {x : α}, Paired R l k → l[i]? = some x → ∃ y, k[i]? = some y ∧ R x y
  | _, _, 0, _, .cons (b := b) r _, h => ⟨b, rfl, by simp only [List.getElem?_cons_zero, Option.some.injEq] at h; exact h ▸ r⟩
  | _, _, i + 1, _, .cons _ t, h => by
    rw [List.getElem?_cons_succ] at h
    obtain ⟨y, h1, h2⟩ := Paired.at' t h
    exact ⟨y, by rw [List.getElem?_cons_succ]; exact h1, h2⟩
  | _, _, 0, _, .nil, h => by simp at h
  | _, _, i + 1, _, .nil, h => by simp at h
theorem Paired.at2 {α β : Type} {R : α → β → Prop} : ∀ {l : List α} {k : List β} {i : Nat} {y : β}, Paired R l k → k[i]? = some y → ∃ x, l[i]? = some x ∧ R x y
  | _, _, 0, _, .cons (a := a) r _, h => ⟨a, rfl, by simp only [List.getElem?_cons_zero, Option.some.injEq] at h; exact h ▸ r⟩
  | _, _, i + 1, _, .cons _ t, h => by
    rw [List.getElem?_cons_succ] at h
    obtain ⟨y, h1, h2⟩ := Paired.at2 t h
    exact ⟨y, by rw [List.getElem?_cons_succ]; exact h1, h2⟩
  | _, _, 0, _, .nil, h => by simp at h
  | _, _, i + 1, _, .nil, h => by simp at h
theorem ofClass_byValue (n : Nat) {v : Value} (h : carriedByValue v = true) : ofAClassStatement n v = pure false := by
  cases v with
  | ref a => simp [carriedByValue] at h
  | _ => first | rfl | simp [ofAClassStatement] | (unfold ofAClassStatement; rfl)
theorem ofClassP {c : Addr} {q : Nat × Nat} {Q : Bool → Shared → Prop} (hc : TupP prog w s.heap q c) (h : Q false s) : wpAny (model prog w) A (ofAClassStatement 8 (.ref c)) Q E s := by
  have hT := hc.typeIs
  obtain ⟨o, items, n, ho, _, hd, hi⟩ := hc
  unfold ofAClassStatement
  refine wpAny_bind (wpAny_typeOf hT ?_)
  dsimp only
  rw [if_pos (by decide)]
  refine wpAny_bind (wpAny_pure ?_)
  simp only [Bool.not_true, Bool.false_eq_true, if_false]
  refine wpAny_bind (wpAny_seqItems ho hd ?_)
  refine wpAny_bind ?_
  show wpAny _ _ (forIn items _ _) _ _ s
  rw [← Array.forIn_toList]
  refine wpAny_forIn_list _ (fun rest r s' => r.1 = none ∧ s' = s ∧ ∀ v ∈ rest, carriedByValue v = true) _ ?_ ?_ _ _ ⟨rfl, rfl, hi.byValue⟩
  · rintro v rest r s' ⟨hr, rfl, hall⟩
    rw [ofClass_byValue _ (hall v List.mem_cons_self)]
    refine wpAny_bind (wpAny_pure ?_)
    simp only [Bool.false_eq_true, if_false]
    exact wpAny_pure ⟨rfl, rfl, fun u hu' => hall u (List.mem_cons_of_mem _ hu')⟩
  · rintro ⟨r1, r2⟩ s' ⟨hr, rfl, _⟩
    simp only at hr
    subst hr
    exact wpAny_pure h
theorem couldP {b : Addr} {q : Nat × Nat} {l : List Value} {Q : Bool → Shared → Prop} (hb : TupP prog w s.heap q b) (hl : ∀ v ∈ l, ∃ c q', v = .ref c ∧ TupP prog w s.heap q' c) (h : Q false s) : wpAny (model prog w) A (searchCouldBeSeen (.ref b) l) Q E s := by
  unfold searchCouldBeSeen
  refine wpAny_bind ?_
  refine wpAny_forIn_list _ (fun rest r s' => r.1 = none ∧ s' = s ∧ ∀ v ∈ rest, ∃ c q', v = .ref c ∧ TupP prog w s.heap q' c) _ ?_ ?_ _ _ ⟨rfl, rfl, hl⟩
  · rintro v rest r s' ⟨hr, rfl, hall⟩
    obtain ⟨c, q', rfl, hc⟩ := hall v List.mem_cons_self
    have rest' : ∀ v ∈ rest, ∃ c q', v = Value.ref c ∧ TupP prog w s'.heap q' c := fun u hu' => hall u (List.mem_cons_of_mem _ hu')
    dsimp only
    split
    · exact wpAny_pure ⟨rfl, rfl, rest'⟩
    · refine wpAny_bind (wpAny_eqIsQuiet_tuple hb ?_)
      simp only [Bool.not_true, Bool.false_eq_true, if_false]
      refine wpAny_bind (wpAny_eqIsQuiet_tuple hc ?_)
      simp only [Bool.not_true, Bool.false_eq_true, if_false]
      refine wpAny_bind (ofClassP hb ?_)
      simp only [Bool.false_eq_true, if_false]
      refine wpAny_bind (ofClassP hc ?_)
      simp only [Bool.false_eq_true, if_false]
      exact wpAny_pure ⟨rfl, rfl, rest'⟩
  · rintro ⟨r1, r2⟩ s' ⟨hr, rfl, _⟩
    simp only at hr
    subst hr
    exact wpAny_pure h
theorem setSearchFrom_eq (a : Addr) (x : Value) (h : Int) (adding : Bool) (fuel : Nat) (stand : Option SetTable.Probe) : setSearchFrom a x h adding (fuel + 1) stand = (do
    let (es, _, t) ← setState a
    if t.gaveWay then unsupported "set:on-a-table-that-gave-way"
    let some met := t.probe (fun i => (es[i]?.map (·.1)).getD 0) h (stand.getD (t.probeStart h)) | unsupported "internal:set-table-without-an-empty-slot"
    match met with
    | .empty j dummy =>
      match dummy with
      | none => return .free j false
      | some d =>
        if adding && t.slot d != .dummy then rule "set.search.the-dummy-was-taken"; return ← setSearchFrom a x h adding fuel none
        return .free d true
    | .candidate j i next =>
      if !t.led then
        if ← searchCouldBeSeen x ((es.filter (·.1 == h)).toList.map (·.2)) then unsupported "set:the-search-would-show-the-table"
      let some (_, y) := es[i]? | unsupported "internal:set-entry"
      let equal ← holding [y] (eqBool y x)
      let (es', _, t') ← setState a
      if adding && equal then return .there none
      let some same := t'.sameMemory t.moves t.mask | unsupported "set.changed-during-lookup:is-the-new-block-at-the-old-address"
      let still ← match (if same then t'.slot j else .empty) with
        | .live i' => match es'[i']? with
          | some (_, y') => do pure (if ← isSame y' y then some i' else none)
          | none => pure none
        | _ => pure none
      match still with
      | none => rule "set.search.anew"; setSearchFrom a x h adding fuel none
      | some i' => if equal then return .there (some i') else setSearchFrom a x h adding fuel (some next)) := rfl
theorem searchFromP {a b : Addr} {es : Array (Int × Value)} {ep : Nat} {t : SetTable} {qs : List (Nat × Nat)} {q : Nat × Nat} {adding : Bool} {Q : SetFound → Shared → Prop} (hu : A.units < cLine) (S : SetPA prog w D s.heap a es ep t qs) (hb : TupP prog w s.heap q b) (hm : adding = true → t.dummies = #[])
    {N : Nat} (hN : ¬ Full t (path t.mask (hashP prog w q) N).j) (hlt : ∀ m, m < N → Full t (path t.mask (hashP prog w q) m).j) (hNl : N < 10 * SetTable.turns t.mask)
    (hin : ∀ i : Nat, qs[i]? = some q → Q (.there (if adding then none else some i)) s) (hout : q ∉ qs → ∀ j wd, (t.dummies = #[] → j = (path t.mask (hashP prog w q) N).j ∧ wd = false) → Q (.free j wd) s) :
    ∀ (fuel n : Nat) (d : Option Nat) (stand : Option SetTable.Probe), n ≤ N → N - n < fuel → stand.getD (t.probeStart (hashP prog w q)) = { path t.mask (hashP prog w q) n with dummy := d } → (t.dummies = #[] → d = none) →
      (q ∈ qs → ∃ (m i : Nat), n ≤ m ∧ m < N ∧ t.slot (path t.mask (hashP prog w q) m).j = .live i ∧ qs[i]? = some q) → wpAny (model prog w) A (setSearchFrom a (.ref b) (hashP prog w q) adding fuel stand) Q E s
  | 0, n, d, stand, _, hf, _, _, _ => absurd hf (Nat.not_lt_zero _)
  | fuel + 1, n, d, stand, hn, hf, hst, hdn, hq => by
    obtain ⟨o, ho, hex, hd⟩ := S.obj
    have g := S.good
    rw [setSearchFrom_eq]
    refine wpAny_bind (wpAny_setState_of ho hd S.fits ?_)
    dsimp only
    rw [g.noWay]
    simp only [Bool.false_eq_true, if_false]
    rw [hst]
    have hcand : ∀ m i, t.slot (path t.mask (hashP prog w q) m).j = .live i → qs[i]? = some q → (es[i]?.map (·.1)).getD 0 = hashP prog w q := fun m i hs hi => by
      obtain ⟨e, he, bb, _, _, e3, _⟩ := Paired.at2 S.ents hi
      rw [Array.getElem?_toList] at he
      rw [he]
      exact e3
    unfold SetTable.probe
    rcases probe_out (f := fun i => (es[i]?.map (·.1)).getD 0) g.rise g.drise hN hlt (10 * SetTable.turns t.mask) n d hn (by omega) with ⟨m, i, d', m1, m2, dd, hs, hh, hno, e⟩ | ⟨d', dd, hno, e⟩
    · rw [e]
      dsimp only
      have hpl := (slot_live g.rise).mp hs
      have hi : i < es.size := by
        have := (Array.getElem?_eq_some_iff.mp hpl).1
        rw [← g.size]; exact this
      obtain ⟨q', hq', c, hc1, hc2, hc3⟩ := Paired.at' S.ents (show es.toList[i]? = some es[i] by simp [hi])
      have hes : es[i]? = some (es[i].1, .ref c) := by
        rw [Array.getElem?_eq_getElem hi, ← hc1]
      have main : wpAny (model prog w) A (do
          let some (_, y) := es[i]? | unsupported "internal:set-entry"
          let equal ← holding [y] (eqBool y (.ref b))
          let (es', _, t') ← setState a
          if adding && equal then return .there none
          let some same := t'.sameMemory t.moves t.mask | unsupported "set.changed-during-lookup:is-the-new-block-at-the-old-address"
          let still ← match (if same then t'.slot (path t.mask (hashP prog w q) m).j else .empty) with
            | .live i' => match es'[i']? with
              | some (_, y') => do pure (if ← isSame y' y then some i' else none)
              | none => pure none
            | _ => pure none
          match still with
          | none => rule "set.search.anew"; setSearchFrom a (.ref b) (hashP prog w q) adding fuel none
          | some i' => if equal then return .there (some i') else setSearchFrom a (.ref b) (hashP prog w q) adding fuel (some { path t.mask (hashP prog w q) (m + 1) with dummy := d' })) Q E s := by
        rw [hes]
        dsimp only
        refine wpAny_bind (wpAny_holding (wpAny_eqBool_tuple hu hc2 hb ?_))
        refine wpAny_bind (wpAny_setState_of ho hd S.fits ?_)
        dsimp only
        have sm : t.sameMemory t.moves t.mask = some true := by
          unfold SetTable.sameMemory
          rw [if_pos (beq_self_eq_true _)]
        by_cases hqq : q' = q
        · subst hqq
          rw [decide_eq_true rfl]
          have hfound := hin i hq'
          cases adding with
          | true =>
            simp only [Bool.and_self, if_true]
            exact wpAny_pure hfound
          | false =>
            simp only [Bool.false_and, Bool.false_eq_true, if_false]
            rw [sm]
            dsimp only
            rw [if_pos rfl, hs]
            dsimp only
            rw [hes]
            dsimp only
            refine wpAny_bind (wpAny_isSame_ref_self (wpAny_bind (wpAny_pure ?_)))
            simp only [if_true]
            exact wpAny_pure hfound
        · have hk : ¬ keyP q' = keyP q := fun z => hqq (keyP_inj z)
          rw [decide_eq_false hk]
          simp only [Bool.and_false, Bool.false_eq_true, if_false]
          rw [sm]
          dsimp only
          rw [if_pos rfl, hs]
          dsimp only
          rw [hes]
          dsimp only
          refine wpAny_bind (wpAny_isSame_ref_self (wpAny_bind (wpAny_pure ?_)))
          simp only [if_true, Bool.false_eq_true, if_false]
          refine searchFromP hu S hb hm hN hlt hNl hin hout fuel (m + 1) d' _ (by omega) (by omega) rfl (fun z => (dd z).trans (hdn z)) fun hmem => ?_
          obtain ⟨m0, i0, b1, b2, b3, b4⟩ := hq hmem
          refine ⟨m0, i0, ?_, b2, b3, b4⟩
          rcases Nat.lt_trichotomy m0 m with z | z | z
          · exact absurd (hcand m0 i0 b3 b4) (hno m0 b1 z i0 b3)
          · subst z
            rw [hs] at b3
            injection b3 with b3
            subst b3
            rw [hq'] at b4
            exact absurd (by injection b4) hqq
          · exact z
      cases hled : t.led with
      | true =>
        simp only [Bool.not_true, Bool.false_eq_true, if_false]
        exact main
      | false =>
        simp only [Bool.not_false, if_true]
        refine wpAny_bind (couldP hb (fun v hv => ?_) ?_)
        · obtain ⟨e0, he0, rfl⟩ := List.mem_map.mp hv
          have he1 : e0 ∈ es.toList := by
            rw [Array.toList_filter] at he0
            exact (List.mem_filter.mp he0).1
          obtain ⟨q0, _, c0, z1, z2, _⟩ := Paired.memL S.ents he1
          exact ⟨c0, q0, z1, z2⟩
        · simp only [Bool.false_eq_true, if_false]
          exact main
    · rw [e]
      dsimp only
      have hnq : q ∉ qs := fun hmem => by
        obtain ⟨m0, i0, b1, b2, b3, b4⟩ := hq hmem
        exact hno m0 b1 b2 i0 b3 (hcand m0 i0 b3 b4)
      cases hd' : d' with
      | none =>
        dsimp only
        exact wpAny_pure (hout hnq _ false fun _ => ⟨rfl, rfl⟩)
      | some dv =>
        dsimp only
        have nd : t.dummies ≠ #[] := fun z => by
          have h1 := dd z
          rw [hdn z, hd'] at h1
          cases h1
        have ha : adding = false := by
          cases adding with
          | false => rfl
          | true => exact absurd (hm rfl) nd
        subst ha
        simp only [Bool.false_and, Bool.false_eq_true, if_false]
        exact wpAny_pure (hout hnq _ true fun z => absurd z nd)
theorem turns_le {m : Nat} (h : Pw (m + 1)) : 10 * SetTable.turns m ≤ 6000 := by
  obtain ⟨k, h3, h9, e⟩ := h
  have : 2 ^ k ≤ 2 ^ 9 := Nat.pow_le_pow_right (by decide) h9
  unfold SetTable.turns
  have e9 : (2 : Nat) ^ 9 = 512 := by decide
  omega
theorem searchP {a b : Addr} {es : Array (Int × Value)} {ep : Nat} {t : SetTable} {qs : List (Nat × Nat)} {q : Nat × Nat} {adding : Bool} {Q : SetFound → Shared → Prop} (hu : A.units < cLine) (S : SetPA prog w D s.heap a es ep t qs) (hb : TupP prog w s.heap q b) (hm : adding = true → t.dummies = #[])
    (hin : ∀ i : Nat, qs[i]? = some q → Q (.there (if adding then none else some i)) s)
    (hout : q ∉ qs → ∀ j wd N, ¬ Full t (path t.mask (hashP prog w q) N).j → (∀ m, m < N → Full t (path t.mask (hashP prog w q) m).j) → (t.dummies = #[] → j = (path t.mask (hashP prog w q) N).j ∧ wd = false) → Q (.free j wd) s) :
    wpAny (model prog w) A (setSearch a (.ref b) (hashP prog w q) adding) Q E s := by
  obtain ⟨N, h1, h2, h3⟩ := S.good.first (hashP prog w q)
  have := turns_le S.good.pw
  refine searchFromP hu S hb hm h2 h3 h1 hin (fun hn j wd hj => hout hn j wd N h2 h3 hj) 100000 0 none none (Nat.zero_le _) (by omega) rfl (fun _ => rfl) fun hmem => ?_
  obtain ⟨i, hi, e⟩ := List.getElem_of_mem hmem
  obtain ⟨⟨eh, ex⟩, he, c, e1, e2, e3, _⟩ := Paired.at2 S.ents (show qs[i]? = some q by rw [List.getElem?_eq_getElem hi, e])
  rw [Array.getElem?_toList] at he
  have e3' : eh = hashP prog w q := e3
  subst e3'
  obtain ⟨hi2, _⟩ := Array.getElem?_eq_some_iff.mp he
  have hp : t.place[i]? = some (t.place[i]'(by rw [S.good.size]; exact hi2)) := Array.getElem?_eq_getElem _
  obtain ⟨n, n1, n2⟩ := S.good.before he hp h2
  exact ⟨n, i, Nat.zero_le _, n1, (slot_live S.good.rise).mpr (by rw [n2]; exact hp), by rw [List.getElem?_eq_getElem hi, e]⟩
end
end L2
namespace L2
open PySem PySem.Spec PyProof.Rows
theorem grow_ok : ∀ n, n < 110 → ∃ k, k < 10 ∧ 3 ≤ k ∧ SetTable.sizeAbove (SetTable.grown n) = 2 ^ k ∧ n ≤ SetTable.sizeAbove (SetTable.grown n) - 1 ∧ n * 5 < (SetTable.sizeAbove (SetTable.grown n) - 1) * 3 := by decide +kernel
section
variable {prog : Program} {w : World} {D : Addr → Prop} {A : Around} {E : Value → Shared → Prop} {s : Shared}
theorem TupP.keep {h h' : Heap} {q : Nat × Nat} {b : Addr} (x : TupP prog w h q b) (k : ∀ b o, h.get? b = some o → h'.get? b = some o) : TupP prog w h' q b :=
  let ⟨o, items, n, ho, r⟩ := x
  ⟨o, items, n, k _ _ ho, r⟩
theorem TupP.but {h h' : Heap} {q : Nat × Nat} {a b : Addr} {o : Obj} {es : Array (Int × Value)} {ep : Nat} {t : SetTable} (x : TupP prog w h q b) (ho : h.get? a = some o) (hd : o.data = .set es ep t) (sb : Heap.SameBut a h h') : TupP prog w h' q b := by
  obtain ⟨o', items, n, ho', hc, hd', hi⟩ := x
  have hne : b ≠ a := by
    rintro rfl
    obtain rfl : o' = o := Option.some.inj (ho'.symm.trans ho)
    rw [hd] at hd'; exact nomatch hd'
  exact ⟨o', items, n, (sb.2 b hne).trans ho', hc, hd', hi⟩
theorem SetPA.keep {h h' : Heap} {a : Addr} {es : Array (Int × Value)} {ep : Nat} {t : SetTable} {qs : List (Nat × Nat)} (S : SetPA prog w D h a es ep t qs) (k : ∀ b o, h.get? b = some o → h'.get? b = some o) : SetPA prog w D h' a es ep t qs :=
  let ⟨o, ho, r⟩ := S.obj
  ⟨⟨o, k _ _ ho, r⟩, Paired.imp' (fun e q z => let ⟨b, z1, z2, z3⟩ := z; ⟨b, z1, z2.keep k, z3⟩) S.ents, S.nodup, S.good, S.led, S.plain⟩
theorem SetPA.but {h h' : Heap} {a c : Addr} {es : Array (Int × Value)} {ep : Nat} {t : SetTable} {qs : List (Nat × Nat)} {o : Obj} {es2 : Array (Int × Value)} {ep2 : Nat} {t2 : SetTable} (S : SetPA prog w D h a es ep t qs) (ho : h.get? c = some o) (hd : o.data = .set es2 ep2 t2) (sb : Heap.SameBut c h h') (hne : a ≠ c) : SetPA prog w D h' a es ep t qs :=
  let ⟨o1, ho1, r⟩ := S.obj
  ⟨⟨o1, (sb.2 a hne).trans ho1, r⟩, Paired.imp' (fun e q z => let ⟨b, z1, z2, z3⟩ := z; ⟨b, z1, z2.but ho hd sb, z3⟩) S.ents, S.nodup, S.good, S.led, S.plain⟩
theorem SetPA.store {h : Heap} {a : Addr} {es es' : Array (Int × Value)} {ep : Nat} {t t' : SetTable} {qs qs' : List (Nat × Nat)} (S : SetPA prog w D h a es ep t qs) (he : Paired (EntP prog w D h) es'.toList qs') (hn : qs'.Nodup) (hg : Good t' es') (hl : t'.led = t.led) (hp : t'.plain = t.plain) :
    SetPA prog w D (h.update a (Obj.putSet es' t')) a es' (ep + 1) t' qs' := by
  obtain ⟨o, ho, hex, hd⟩ := S.obj
  refine ⟨⟨{ o with data := .set es' (ep + 1) t' }, ?_, hex, rfl⟩, Paired.imp' (fun e q z => let ⟨b, z1, z2, z3⟩ := z; ⟨b, z1, z2.but ho hd (Heap.SameBut.update h a _), z3⟩) he, hn, hg, hl.trans S.led, hp.trans S.plain⟩
  have := Heap.get?_update_self (Obj.putSet es' t') ho (by rw [putSet_of es' t' hd]; rfl)
  rwa [putSet_of es' t' hd] at this
noncomputable def SetP (prog : Program) (w : World) (D : Addr → Prop) (h : Heap) (a : Addr) (qs : List (Nat × Nat)) : Prop := ∃ es ep t qs', SetPA prog w D h a es ep t qs' ∧ t.dummies = #[] ∧ t.tooFull = false ∧ qs'.Perm qs
theorem SetP.perm {h : Heap} {a : Addr} {qs qs' : List (Nat × Nat)} (x : SetP prog w D h a qs) (p : qs.Perm qs') : SetP prog w D h a qs' := let ⟨es, ep, t, k, y, d, f, q⟩ := x; ⟨es, ep, t, k, y, d, f, q.trans p⟩
theorem SetP.nodup {h : Heap} {a : Addr} {qs : List (Nat × Nat)} (x : SetP prog w D h a qs) : qs.Nodup := let ⟨_, _, _, _, y, _, _, q⟩ := x; q.nodup_iff.mp y.nodup
theorem SetP.keep {h h' : Heap} {a : Addr} {qs : List (Nat × Nat)} (x : SetP prog w D h a qs) (k : ∀ b o, h.get? b = some o → h'.get? b = some o) : SetP prog w D h' a qs := let ⟨es, ep, t, qs', y, d, f, p⟩ := x; ⟨es, ep, t, qs', y.keep k, d, f, p⟩
theorem SetP.obj {h : Heap} {a : Addr} {qs : List (Nat × Nat)} (x : SetP prog w D h a qs) : ∃ o es ep t, h.get? a = some o ∧ o.ExactSet ∧ o.data = .set es ep t := let ⟨es, ep, t, _, y, _⟩ := x; let ⟨o, ho, hx, hd⟩ := y.obj; ⟨o, es, ep, t, ho, hx, hd⟩
theorem SetP.lt {h : Heap} {a : Addr} {qs : List (Nat × Nat)} (x : SetP prog w D h a qs) : a < h.objs.size := let ⟨_, _, _, _, ho, _⟩ := x.obj; Heap.lt_size ho
theorem SetP.typeIs {a : Addr} {qs : List (Nat × Nat)} (x : SetP prog w D s.heap a qs) : s.TypeIs (.ref a) "set" := let ⟨o, _, _, _, ho, hx, _⟩ := x.obj; ⟨o, ho, hx.1⟩
theorem SetPA.typeIs {a : Addr} {es : Array (Int × Value)} {ep : Nat} {t : SetTable} {qs : List (Nat × Nat)} (x : SetPA prog w D s.heap a es ep t qs) : s.TypeIs (.ref a) "set" := let ⟨o, ho, hx, _⟩ := x.obj; ⟨o, ho, hx.1⟩
theorem hashByValueP {b : Addr} {q : Nat × Nat} {Q : Bool → Shared → Prop} (hb : TupP prog w s.heap q b) (h : Q true s) : wpAny (model prog w) A (hashByValue 8 (.ref b)) Q E s := by
  have hT := hb.typeIs
  obtain ⟨o, items, n, ho, _, hd, hi⟩ := hb
  unfold hashByValue
  refine wpAny_bind (wpAny_specialOf hT PySem.F.slot_tuple_hash.lookup ?_)
  dsimp only
  refine wpAny_bind (wpAny_seqItems ho hd ?_)
  refine wpAny_bind ?_
  show wpAny _ _ (forIn items _ _) _ _ s
  rw [← Array.forIn_toList]
  refine wpAny_forIn_list _ (fun rest r s' => r.1 = none ∧ s' = s ∧ ∀ v ∈ rest, ∃ k : Int, (PySem.intKind prog w).is k v = true) _ ?_ ?_ _ _ ⟨rfl, rfl, ?_⟩
  · rintro v rest r s' ⟨hr, rfl, hall⟩
    obtain ⟨k, hk⟩ := hall v List.mem_cons_self
    have hv : hashByValue 7 v = pure true := by
      cases v with
      | int i t => rfl
      | _ => first | rfl | exact absurd hk (by decide) | exact absurd hk (by simp [PySem.intKind, Value.isInt])
    rw [hv]
    refine wpAny_bind (wpAny_pure ?_)
    simp only [Bool.not_true, Bool.false_eq_true, if_false]
    exact wpAny_pure ⟨rfl, rfl, fun u hu' => hall u (List.mem_cons_of_mem _ hu')⟩
  · rintro ⟨r1, r2⟩ s' ⟨hr, rfl, _⟩
    simp only at hr
    subst hr
    exact wpAny_pure h
  · intro v hv
    clear h hd ho hT
    generalize keyP q = ks at hi
    generalize items.toList = l at hi hv
    induction hi with
    | nil => cases hv
    | cons h1 _ ih =>
      rcases List.mem_cons.mp hv with rfl | hv
      · exact ⟨_, h1⟩
      · exact ih hv
theorem relayP {a : Addr} {es : Array (Int × Value)} {ep : Nat} {t : SetTable} {qs : List (Nat × Nat)} {wanted : Nat} {Q : Unit → Shared → Prop} (S : SetPA prog w D s.heap a es ep t qs) (pw : Pw (SetTable.sizeAbove wanted)) (hl : es.size ≤ SetTable.sizeAbove wanted - 1)
    (h : ∀ h' es' ep' t' qs', Heap.SameBut a s.heap h' → SetPA prog w D h' a es' ep' t' qs' → t'.dummies = #[] → t'.mask = SetTable.sizeAbove wanted - 1 → es'.size = es.size → qs'.Perm qs → Q () { s with heap := h' }) :
    wpAny (model prog w) A (setRelay a wanted) Q E s := by
  obtain ⟨o, ho, hex, hd⟩ := S.obj
  obtain ⟨k, h3, h9, ek⟩ := pw
  have k9 : 2 ^ k ≤ 2 ^ 9 := Nat.pow_le_pow_right (by decide) h9
  have e9 : (2 : Nat) ^ 9 = 512 := by decide
  have k3 : 2 ^ 3 ≤ 2 ^ k := Nat.pow_le_pow_right (by decide) h3
  have e3 : (2 : Nat) ^ 3 = 8 := by decide
  rw [setRelay_eq]
  refine wpAny_bind (wpAny_setState_of ho hd S.fits ?_)
  dsimp only
  rw [if_neg (by rw [sizeLine_eq]; omega)]
  obtain ⟨t', o', e1, e2, e4, e5, e6, e7, e8⟩ := laid_good (mask := SetTable.sizeAbove wanted - 1) (finger := t.finger) (moves := t.movedTo (SetTable.sizeAbove wanted - 1)) (led := t.led) (plain := t.plain) (es := es) ⟨k, h3, h9, by omega⟩ hl
  have hrel : t.relaid (es.map (·.1)) wanted = some (t', o') := e1
  rw [hrel]
  have hsz : (o'.filterMap (es[·]?)).size = es.size := by
    have := e7.length_eq
    rwa [Array.length_toList, Array.length_toList] at this
  dsimp only
  rw [if_neg (by rw [hsz]; simp)]
  refine wpAny_bind (wpAny_pure ?_)
  dsimp only
  refine wpAny_storeSet_of ho hd ?_ (by rw [hsz, sizeLine_eq]; omega)
  obtain ⟨qs', he', p'⟩ := Paired.perm e7.symm S.ents
  exact h _ _ _ _ qs' (Heap.SameBut.update _ _ _) (S.store he' (p'.nodup_iff.mpr S.nodup) e8 e4 e5) e6 e2 hsz p'
theorem addP {a b : Addr} {qs : List (Nat × Nat)} {q : Nat × Nat} {Q : Bool → Shared → Prop} (hu : A.units < cLine) (hS : SetP prog w D s.heap a qs) (hb : TupP prog w s.heap q b) (hD : D b) (hroom : qs.length + 1 < 110)
    (h : ∀ h' bb, Heap.SameBut a s.heap h' → SetP prog w D h' a (addK qs q) → Q bb { s with heap := h' }) :
    wpAny (model prog w) A (setAddHashed a (.ref b) (hashP prog w q)) Q E s := by
  obtain ⟨es, ep, t, qs', S, hdm, htf, p⟩ := hS
  obtain ⟨o, ho, hex, hd⟩ := S.obj
  have hlen := S.len
  have hpl := p.length_eq
  unfold setAddHashed setAddHashedIn
  refine wpAny_holding (wpAny_bind (wpAny_setState_of ho hd S.fits ?_))
  dsimp only
  rw [show byScan (.ref b) es = false from rfl]
  simp only [Bool.false_eq_true, if_false]
  refine wpAny_bind (searchP hu S hb (fun _ => hdm) (fun i hi => ?_) fun hn j wd N hN hlt hj => ?_)
  · have hk : q ∈ qs := p.mem_iff.mp (List.mem_of_getElem? hi)
    have := h s.heap false (Heap.SameBut.refl a s.heap) (by unfold addK; rw [if_pos hk]; exact ⟨es, ep, t, qs', S, hdm, htf, p⟩)
    exact wpAny_pure this
  · obtain ⟨rfl, rfl⟩ := hj hdm
    have hk : q ∉ qs := fun z => hn (p.mem_iff.mpr z)
    dsimp only
    refine wpAny_bind (wpAny_setState_of ho hd S.fits ?_)
    dsimp only
    have htf' : ¬ t.fill * 5 ≥ t.mask * 3 := by
      intro z
      unfold SetTable.tooFull at htf
      rw [decide_eq_false_iff_not] at htf
      exact htf z
    have room : t.fill + 1 ≤ t.mask := by
      obtain ⟨k, h3, _, e⟩ := S.good.pw
      have k3 : 2 ^ 3 ≤ 2 ^ k := Nat.pow_le_pow_right (by decide) h3
      have e3 : (2 : Nat) ^ 3 = 8 := by decide
      omega
    have g1 := S.good.put (x := .ref b) hdm hN hlt room
    have dm1 := put_dummies hdm (path t.mask (hashP prog w q) N).j
    have ld1 : (t.put (path t.mask (hashP prog w q) N).j).1.led = t.led := rfl
    have mk1 : (t.put (path t.mask (hashP prog w q) N).j).1.mask = t.mask := rfl
    have pl1 : (t.put (path t.mask (hashP prog w q) N).j).1.plain = t.plain := rfl
    have hperm := SetTable.insertAt_perm es (t.put (path t.mask (hashP prog w q) N).j).2 (hashP prog w q, Value.ref b)
    rw [Array.toList_push] at hperm
    generalize t.put (path t.mask (hashP prog w q) N).j = T at g1 dm1 ld1 mk1 pl1 hperm ⊢
    obtain ⟨t1, pp⟩ := T
    dsimp only at g1 dm1 ld1 mk1 pl1 hperm ⊢
    obtain ⟨qs1, he1, p1⟩ := Paired.perm hperm.symm (Paired.app S.ents (.cons (show EntP prog w D s.heap (hashP prog w q, .ref b) q from ⟨b, rfl, hb, rfl, hD⟩) .nil))
    have hnd : qs1.Nodup := p1.nodup_iff.mpr (by
      rw [List.nodup_append]
      refine ⟨S.nodup, by simp, fun a ha b hb => ?_⟩
      rw [List.mem_singleton.mp hb]
      exact fun z => hn (z ▸ ha))
    have pe : qs1.Perm (addK qs q) := by
      unfold addK
      rw [if_neg hk]
      exact p1.trans (p.append_right _)
    have hz : (SetTable.insertAt es pp (hashP prog w q, Value.ref b)).size = es.size + 1 := by
      have := hperm.length_eq
      simp only [List.length_append, Array.length_toList, List.length_cons, List.length_nil] at this
      exact this
    have rest : wpAny (model prog w) A (do
        storeSet a (SetTable.insertAt es pp (hashP prog w q, Value.ref b)) t1
        if (!false && t1.tooFull) = true then setRelay a (SetTable.grown (es.size + 1))
        pure true) Q E s := by
      refine wpAny_bind (wpAny_storeSet_of ho hd ?_ (by rw [hz, sizeLine_eq]; omega))
      have S1 := S.store he1 hnd g1 ld1 pl1
      have sb := Heap.SameBut.update s.heap a (Obj.putSet (SetTable.insertAt es pp (hashP prog w q, Value.ref b)) t1)
      cases hf : t1.tooFull with
      | true =>
        simp only [Bool.not_false, Bool.and_self, if_true]
        obtain ⟨k, k1, k2, k3, k4, k5⟩ := grow_ok (es.size + 1) (by omega)
        refine wpAny_bind (relayP (s := { s with heap := _ }) S1 ⟨k, k2, by omega, k3⟩ (by rw [hz]; exact k4) fun h' es' ep' t' qs2 sb2 S2 dm2 mk2 sz2 p2 => ?_)
        refine wpAny_pure (h h' true (sb.trans sb2) ⟨es', ep', t', qs2, S2, dm2, ?_, p2.trans pe⟩)
        unfold SetTable.tooFull SetTable.fill
        rw [S2.good.size, dm2, mk2, sz2, hz, decide_eq_false_iff_not]
        simp only [List.size_toArray, List.length_nil, Nat.add_zero]
        omega
      | false =>
        simp only [Bool.not_false, Bool.true_and, Bool.false_eq_true, if_false]
        exact wpAny_pure (h _ true sb ⟨_, _, t1, qs1, S1, dm1, hf, pe⟩)
    split
    · refine wpAny_bind (hashByValueP hb ?_)
      simp only [if_true]
      exact rest
    · refine wpAny_bind (wpAny_pure ?_)
      simp only [if_true]
      exact rest
end
end L2
namespace L2
open PySem PySem.Spec PyProof.Rows
section
variable {prog : Program} {w : World} {D : Addr → Prop} {A : Around} {E : Value → Shared → Prop} {s : Shared}
theorem fresh_good (led : Bool) : Good (SetTable.fresh 0 0 led) #[] := by
  refine ⟨⟨3, by decide, by decide, rfl⟩, fun i j hi => by simp [SetTable.fresh] at hi, fun i j hi => by simp [SetTable.fresh] at hi, rfl, by show 0 ≤ 7; decide, fun i i' j h => by simp [SetTable.fresh] at h, fun i h x j he => by simp at he⟩
theorem freshPA {h : Heap} {a : Addr} (hg : h.get? a = some { cls := .type "set", dict := none, data := .set #[] 0 (.fresh 0 0 (!w.params.followText "set-order")) }) : SetPA prog w D h a #[] 0 (.fresh 0 0 (!w.params.followText "set-order")) [] :=
  ⟨⟨_, hg, ⟨rfl, rfl, rfl⟩, rfl⟩, .nil, List.nodup_nil, fresh_good _, rfl, rfl⟩
theorem freshP {h : Heap} {a : Addr} (hg : h.get? a = some { cls := .type "set", dict := none, data := .set #[] 0 (.fresh 0 0 (!w.params.followText "set-order")) }) : SetP prog w D h a [] :=
  ⟨_, _, _, _, freshPA hg, rfl, rfl, List.Perm.refl _⟩
theorem newSetP {Q : Value → Shared → Prop}
    (h : SetP prog w D (s.heap.push { cls := .type "set", dict := none, data := .set #[] 0 (.fresh 0 0 (!w.params.followText "set-order")) }) s.heap.objs.size [] →
      Q (.ref s.heap.objs.size) { s with heap := s.heap.push { cls := .type "set", dict := none, data := .set #[] 0 (.fresh 0 0 (!w.params.followText "set-order")) } }) :
    wpAny (model prog w) A (newSet (.type "set")) Q E s := by
  unfold newSet setsByText
  refine wpAny_bind (wpAny_bind (wpAny_askSetting (wpAny_pure ?_)))
  dsimp only
  simp only [newObj]
  exact wpAny_bind (wpAny_alloc (wpAny_pure (h (freshP (Heap.get?_push_size _ rfl)))))
theorem walkUnseenP {a : Addr} {others : List Addr} {filled : Option Addr} {es : Array (Int × Value)} {ep : Nat} {t : SetTable} {qs : List (Nat × Nat)} {Q : Array (Int × Value) → Shared → Prop} (S : SetPA prog w D s.heap a es ep t qs)
    (h : ∀ (ys : Array (Int × Value)) (ls : List (Nat × Nat)) (dr : _), Paired (EntP prog w D s.heap) ys.toList ls → ls.Perm qs → Q ys { s with drawn := dr }) : wpAny (model prog w) A (setWalkUnseen a others filled) Q E s := by
  obtain ⟨o, ho, hex, hd⟩ := S.obj
  rw [setWalkUnseen_eq]
  refine wpAny_bind (wpAny_setState_of ho hd S.fits ?_)
  dsimp only
  unfold setsByText
  refine wpAny_bind (wpAny_bind (wpAny_askSetting (wpAny_pure ?_)))
  dsimp only
  rw [if_pos (by
    rw [S.led, S.plain]
    show (w.params.followText "set-order" || !w.params.followText "set-order" && true || decide (es.size ≤ 1)) = true
    cases w.params.followText "set-order" <;> rfl)]
  refine wpAny_setWalk ho hd S.fits S.led fun ys dr hp => ?_
  obtain ⟨ls, h1, h2⟩ := Paired.perm hp.symm S.ents
  exact h ys ls dr h1 h2
theorem findP {a b : Addr} {es : Array (Int × Value)} {ep : Nat} {t : SetTable} {qs : List (Nat × Nat)} {q : Nat × Nat} {Q : Option Nat → Shared → Prop} (hu : A.units < cLine) (S : SetPA prog w D s.heap a es ep t qs) (hb : TupP prog w s.heap q b)
    (h : ∀ r : Option Nat, r.isSome = decide (q ∈ qs) → (∀ i, r = some i → qs[i]? = some q) → Q r s) : wpAny (model prog w) A (setFind a (.ref b) (hashP prog w q)) Q E s := by
  obtain ⟨o, ho, hex, hd⟩ := S.obj
  unfold setFind setFindIn
  refine wpAny_bind (wpAny_setState_of ho hd S.fits ?_)
  dsimp only
  rw [show byScan (.ref b) es = false from rfl]
  simp only [Bool.false_eq_true, if_false]
  refine wpAny_bind (searchP hu S hb (fun z => by cases z) (fun i hi => ?_) fun hn j wd N hN hlt hj => ?_)
  · simp only [Bool.false_eq_true, if_false]
    refine wpAny_pure (h (some i) ?_ fun i' e => ?_)
    · rw [decide_eq_true (List.mem_of_getElem? hi)]; rfl
    · injection e with e; rw [← e]; exact hi
  · refine wpAny_pure (h none ?_ fun i' e => by cases e)
    rw [decide_eq_false hn]; rfl
theorem sizeP {a : Addr} {es : Array (Int × Value)} {ep : Nat} {t : SetTable} {qs : List (Nat × Nat)} {Q : Nat → Shared → Prop} (S : SetPA prog w D s.heap a es ep t qs) (h : Q qs.length s) : wpAny (model prog w) A (Builtin.Frozenset.sizeOf a) Q E s := by
  obtain ⟨o, ho, hex, hd⟩ := S.obj
  unfold Builtin.Frozenset.sizeOf
  refine wpAny_bind (wpAny_setEntries_of ho hd S.fits (wpAny_pure ?_))
  rw [S.len]
  exact h
theorem epochP {a : Addr} {es : Array (Int × Value)} {ep : Nat} {t : SetTable} {qs : List (Nat × Nat)} {Q : Nat → Shared → Prop} (S : SetPA prog w D s.heap a es ep t qs) (h : Q ep s) : wpAny (model prog w) A (setEpoch a) Q E s := by
  obtain ⟨o, ho, hex, hd⟩ := S.obj
  exact wpAny_setEpoch_of ho hd S.fits h
theorem anySetP {a : Addr} {Q : Bool → Shared → Prop} (T : s.TypeIs (.ref a) "set") (h : Q true s) : wpAny (model prog w) A (Builtin.Frozenset.isAnySet (.ref a)) Q E s := by
  unfold Builtin.Frozenset.isAnySet
  refine wpAny_bind (wpAny_isInstance T PySem.sub_set_self ?_)
  exact wpAny_pure h
theorem baseOfP {a : Addr} {Q : Value → Shared → Prop} (T : s.TypeIs (.ref a) "set") (h : Q (.type "set") s) : wpAny (model prog w) A (Builtin.Frozenset.baseOf a) Q E s := by
  unfold Builtin.Frozenset.baseOf
  refine wpAny_bind (wpAny_isInstance T PySem.sub_set_self ?_)
  exact wpAny_pure h
theorem unchangedP {id : String} {a : Addr} {es : Array (Int × Value)} {ep : Nat} {t : SetTable} {qs : List (Nat × Nat)} {Q : Unit → Shared → Prop} (S : SetPA prog w D s.heap a es ep t qs) (h : Q () s) : wpAny (model prog w) A (Builtin.Frozenset.unchanged id a ep) Q E s := by
  unfold Builtin.Frozenset.unchanged
  refine wpAny_bind (epochP S ?_)
  rw [if_neg (by simp)]
  exact wpAny_pure h
theorem wpAny_notInP {a b : Addr} {qs : List (Nat × Nat)} {q : Nat × Nat} {Q : Value → Shared → Prop} (hu : A.units + 1 < cLine) (hS : SetP prog w D s.heap a qs) (hb : TupP prog w s.heap q b)
    (h : ∀ tk, Q (.bool (!decide (q ∈ qs))) { s with toks := tk }) : wpAny (model prog w) A (compareOp .NotIn (.ref b) (.ref a)) Q E s := by
  have hT := hS.typeIs
  obtain ⟨es, ep, t, qs', S, _, _, p⟩ := hS
  show wpAny _ _ (do return .bool (!(← contains (.ref a) (.ref b)))) Q E s
  refine wpAny_bind ?_
  unfold contains
  try with_reducible refine wpAny_holding ?_
  refine wpAny_bind (wpAny_specialOf hT PySem.F.slot_set_contains.lookup ?_)
  show wpAny _ _ (if (some (Value.builtin "set.__contains__") == some Value.none) = true then _ else _) _ E s
  rw [if_neg (by rw [beq_builtin_none]; exact Bool.false_ne_true)]
  refine wpAny_bind (wpAny_callSpecialUnlessNone?_slot (name := Str.ofString "__contains__") hT PySem.F.slot_set_contains
    (wpAny_call_entry PySem.F.slot_set_contains hT entry_set_contains ?_ (PySem.F.args_set_contains_2 _ _)))
  unfold Builtin.«frozenset.__contains__» Builtin.Frozenset.oneOther
  simp only [List.isEmpty_nil, bind_assoc]
  unfold Builtin.Frozenset.addrOf Builtin.Frozenset.withSetAsKey setContains
  refine wpAny_bind (wpAny_pure ?_)
  try dsimp only
  refine wpAny_bind (wpAny_pure ?_)
  try dsimp only
  refine wpAny_bind (wpAny_tryCatch ?_)
  refine wpAny_holding ?_
  refine wpAny_bind (wpAny_pyHash_tuple (by simpa using hu) hb ?_)
  refine wpAny_bind (findP (s := { s with toks := _ }) (by simpa using hu) S hb fun r hr _ => ?_)
  refine wpAny_pure ?_
  show wpAny _ _ (ret (Value.bool r.isSome)) _ _ _
  rw [hr, show decide (q ∈ qs') = decide (q ∈ qs) from decide_eq_decide.mpr p.mem_iff]
  exact wpAny_pure ⟨_, rfl, wpAny_truthy_bool (wpAny_pure (h _))⟩
theorem TupP.off {h h' : Heap} {q : Nat × Nat} {b : Addr} {wr : List Addr} (x : TupP prog w h q b) (hw : ∀ b ∈ wr, ∃ o, h.get? b = some o ∧ o.cls ≠ .type "tuple") (k : ∀ b o, b ∉ wr → h.get? b = some o → h'.get? b = some o) : TupP prog w h' q b := by
  obtain ⟨o, items, n, ho, hc, r⟩ := x
  refine ⟨o, items, n, k b o (fun z => ?_) ho, hc, r⟩
  obtain ⟨o', ho', hn⟩ := hw b z
  rw [ho] at ho'
  injection ho' with e
  exact hn (e ▸ hc)
theorem SetP.off {h h' : Heap} {a : Addr} {qs : List (Nat × Nat)} {wr : List Addr} (x : SetP prog w D h a qs) (ha : a ∉ wr) (hw : ∀ b ∈ wr, ∃ o, h.get? b = some o ∧ o.cls ≠ .type "tuple") (k : ∀ b o, b ∉ wr → h.get? b = some o → h'.get? b = some o) : SetP prog w D h' a qs :=
  let ⟨es, ep, t, qs', S, d, f, p⟩ := x
  let ⟨o, ho, r⟩ := S.obj
  ⟨es, ep, t, qs', ⟨⟨o, k a o ha ho, r⟩, Paired.imp' (fun e q z => let ⟨b, z1, z2, z3⟩ := z; ⟨b, z1, z2.off hw k, z3⟩) S.ents, S.nodup, S.good, S.led, S.plain⟩, d, f, p⟩
theorem fillLoopP {R : Result → Shared → Prop} {I S : Addr} {fp wr : List Addr} {G : Array GenState → Array GenState → Prop} {n : Nat} {P : Nat → Value → Prop} {St : Nat → Shared → Prop} (hu : A.units + 1 < cLine)
    (W : WalksS prog w A.in1 I fp wr G n P St) (hSf : S ∉ fp) (keys : List (Nat × Nat)) (hn : keys.length = n) (Dt : Nat → Addr → Prop) (hval : ∀ i v, P i v → ∃ b, v = .ref b ∧ Dt i b) (hDt : ∀ i b, Dt i b → D b) (hwr : ∀ b ∈ wr, ∀ i (s : Shared), St i s → ∃ o, s.heap.get? b = some o ∧ o.cls ≠ .type "tuple") (hb : ∀ ks : List (Nat × Nat), ks.Nodup → (∀ k ∈ ks, k ∈ keys) → ks.length + 1 < 110) :
    ∀ (left done : List (Nat × Nat)) (ks : List (Nat × Nat)) (s : Shared), done ++ left = keys → (∀ k ∈ ks, k ∈ done) → St done.length s → SetP prog w D s.heap S ks → (∀ i b, Dt i b → ∃ k, keys[i]? = some k ∧ TupP prog w s.heap k b) →
      (∀ s', Moved (S :: wr) G s s' → SetP prog w D s'.heap S (gather ks left) → R (.ok (.ret .none)) s') → codeAny (model prog w) A (.builtin "set.update.loop" ⟨[.ref S, .ref I], []⟩) R s
  | [], done, ks, s, e, hl, hst, hS, hT, hR => by
    have hSw : S ∉ wr := fun h => hSf (W.sub _ h)
    have hin : done.length = n := by rw [← hn, ← e]; simp
    refine codeAny_builtin PyProof.Rows.F.entry_set_update_loop ?_
    rw [Around.under_plainId PyProof.Rows.F.plain_set_update_loop _]
    show wpAny _ A.in1 (pyNext (.ref I) >>= _) _ _ s
    have hw := fun b hb => hwr b hb _ s hst
    rw [hin] at hst
    refine wpAny_bind (W.done s _ _ hst fun s' hm => ?_)
    show wpAny _ A.in1 (ret Value.none) _ _ s'
    exact wpAny_pure (hR s' (hm.mono fun b hb => List.mem_cons_of_mem _ hb) (hS.off hSw hw hm.heap))
  | k :: left, done, ks, s, e, hl, hst, hS, hT, hR => by
    have hSw : S ∉ wr := fun h => hSf (W.sub _ h)
    have hln : done.length + (left.length + 1) = n := by
      rw [← hn, ← e]
      simp
    have hw := fun b hb => hwr b hb _ s hst
    refine codeAny_builtin PyProof.Rows.F.entry_set_update_loop ?_
    rw [Around.under_plainId PyProof.Rows.F.plain_set_update_loop _]
    show wpAny _ A.in1 (pyNext (.ref I) >>= _) _ _ s
    refine wpAny_bind (W.item done.length s _ _ (by omega) hst fun v s' hP hst' hm => ?_)
    obtain ⟨b, rfl, hD⟩ := hval _ v hP
    obtain ⟨k', hk1, hk2⟩ := hT _ b hD
    have ek : k' = k := by
      rw [← e, List.getElem?_append_right (Nat.le_refl _), Nat.sub_self] at hk1
      simpa using hk1.symm
    subst ek
    have hS1 : SetP prog w D s'.heap S ks := hS.off hSw hw hm.heap
    have hk3 : TupP prog w s'.heap k' b := hk2.off hw hm.heap
    have hT1 : ∀ i b, Dt i b → ∃ k, keys[i]? = some k ∧ TupP prog w s'.heap k b := fun i b hd => let ⟨k, z1, z2⟩ := hT i b hd; ⟨k, z1, z2.off hw hm.heap⟩
    show wpAny _ A.in1 (holding [Value.ref b] (setAdd S (.ref b)) >>= _) _ _ s'
    refine wpAny_bind (wpAny_holding ?_)
    unfold setAdd
    refine wpAny_holding (wpAny_bind (wpAny_pyHash_tuple (by simpa using hu) hk3 ?_))
    refine addP (s := { s' with toks := _ }) (by simpa using hu) hS1 hk3 (hDt _ _ hD) (hb ks hS1.nodup fun x hx => by rw [← e]; exact List.mem_append_left _ (hl x hx)) fun h' bb sb hS2 => ?_
    refine wpAny_pure ⟨plainId_quiet PyProof.Rows.F.plain_set_update_loop _, ?_⟩
    have e2 : (done ++ [k']).length = done.length + 1 := by simp
    obtain ⟨oS, esS, epS, tS, hoS, _, hdS⟩ := hS1.obj
    refine fillLoopP hu W hSf keys hn Dt hval hDt hwr hb left (done ++ [k']) (addK ks k') _ (by rw [← e]; simp) ?_ ?_ hS2 (fun i b hd => let ⟨k, z1, z2⟩ := hT1 i b hd; ⟨k, z1, z2.but hoS hdS sb⟩) fun s'' hm'' hS'' => ?_
    · intro x hx
      rcases mem_addK.mp hx with z | z
      · exact List.mem_append_left _ (hl x z)
      · rw [z]; exact List.mem_append_right _ List.mem_cons_self
    · rw [e2]
      refine W.frame _ s' _ _ hst' (Nat.le_add_right _ _) fun b hb o e => ?_
      rw [sb.2 b fun h => hSf (h ▸ hb)]
      exact e
    · refine hR s'' (Moved.trans W.gtrans ((hm.mono fun b hb => List.mem_cons_of_mem _ hb).then_heap (Nat.le_add_right _ _) fun b o hb e => ?_) hm'') hS''
      rw [sb.2 b fun h => hb (h ▸ List.mem_cons_self)]
      exact e
end
end L2
namespace L2
open PySem PySem.Spec PyProof.Rows
section
variable {prog : Program} {w : World} {D : Addr → Prop} {A : Around} {E : Value → Shared → Prop} {s : Shared}
theorem call_setPairs {l : Addr} {items : Array Value} {keys : List (Nat × Nat)} {Q : Value → Shared → Prop}
    (hh : A.handled = none) (hl : s.heap.IsList l items) (hu : A.units + 9 < cLine) (hi : Paired (fun v k => ∃ b, v = .ref b ∧ TupP prog w s.heap k b ∧ D b) items.toList keys) (hb : ∀ ks : List (Nat × Nat), ks.Nodup → (∀ k ∈ ks, k ∈ keys) → ks.length + 1 < 110)
    (h : ∀ (h' : Heap) (tk : Nat), SetP prog w D h' s.heap.objs.size (gather [] keys) → (∀ b o, s.heap.get? b = some o → h'.get? b = some o) → Q (.ref s.heap.objs.size) { s with heap := h', toks := tk }) :
    wpAny (model prog w) A (call (.type "set") [.ref l]) Q E s := by
  obtain ⟨c, tl, hmro⟩ := PySem.F.called_set.mro
  have hmade := PySem.F.called_set.made
  have hsub := PySem.F.called_set.sub
  refine wpAny_call (codeAny_of_tree ?_)
  show wpAny _ _ (callAny (.type "set") _) _ _ _
  refine wpAny_pure ⟨Code.quiet_builtin _ (by decide +kernel), codeAny_builtin PySem.F.entry_type_call ?_⟩
  rw [Around.under_plain (weight_type_call_type "set" [.ref l] []) rfl]
  have h1 := PySem.F.called_set.notType
  have h2 := PySem.F.called_set.canCreate
  have hct := PySem.F.typeCall_set_1 (.ref l)
  repeat (any_goals (first | assumption | wp_step))
  generalize hnew : ({ cls := .type "set", dict := none, data := .set #[] 0 (.fresh 0 0 (!w.params.followText "set-order")) } : Obj) = ob
  refine codeAny_mono (codeNewSet (E := E) (x := .ref l) (Q₁ := fun obj s₁ => obj = .ref s.heap.objs.size ∧ s₁ = { s with heap := s.heap.push ob }) (by rw [hnew]; exact ⟨rfl, rfl⟩)) fun r s₁ hr => ?_
  cases r with
  | error e => exact hr
  | ok fl =>
    cases fl with
    | ret obj =>
      obtain ⟨rfl, rfl⟩ := hr
      have hS : (s.heap.push ob).get? s.heap.objs.size = some ob := Heap.get?_push_size _ (by rw [← hnew]; rfl)
      have hcl : ob.cls = .type "set" := by rw [← hnew]
      have hT : Shared.TypeIs { s with heap := s.heap.push ob } (.ref s.heap.objs.size) "set" := ⟨_, hS, hcl⟩
      have hli := PySem.F.called_set.init.lookup
      have hbi := PySem.F.called_set.init.bind (.ref s.heap.objs.size)
      repeat (any_goals (first | assumption | wp_step))
      refine codeAny_mono (codeAny_call_builtin (R := wants (fun r s₂ => r = .none ∧ ∃ h' tk, s₂ = { s with heap := h', toks := tk } ∧ SetP prog w D h' s.heap.objs.size (gather [] keys) ∧ (∀ b o, s.heap.get? b = some o → h'.get? b = some o)) E)
        PySem.F.called_set.init.plain PySem.F.entry_set_init (check_set_init_1 hT ?_)) fun r₂ s₂ hr₂ => ?_
      · have hSK : SetP prog w D (s.heap.push ob) s.heap.objs.size [] := by
          subst hnew
          exact freshP hS
        obtain ⟨ol, hol, hcl2, nl, hdl⟩ := hl
        obtain ⟨ocls, odict, odata, oslots⟩ := ol
        simp only at hcl2 hdl
        subst hcl2 hdl
        have hol' : (s.heap.push ob).get? l = some { cls := .type "list", dict := odict, data := .seq items nl, slots := oslots } := Heap.get?_push_of_some _ hol
        have hl1 : (s.heap.push ob).IsList l items := ⟨_, hol', rfl, nl, rfl⟩
        have hsls := PySem.F.sub_list_set
        have hslf := PySem.F.sub_list_frozenset
        have hne : (Value.type "list" == Value.type "dict") = false := by decide
        subst hnew
        unfold Builtin.«set.__init__» noKeywords Builtin.Frozenset.updateFrom
        generalize hPI : pyIter = PI
        wp_walk
        subst hPI
        generalize hnew : ({ cls := .type "set", dict := none, data := .set #[] 0 (.fresh 0 0 (!w.params.followText "set-order")) } : Obj) = ob at *
        refine wpAny_pyIter_list hl1 (wpAny_bind (wpAny_runValue ?_))
        have hlS : l < s.heap.objs.size := Heap.lt_size hol
        have hh3 : A.in1.in1.in1.handled = none := by simp [hh]
        have hneI : l ≠ (s.heap.push ob).objs.size := by
          rw [Heap.size_push]; exact Nat.ne_of_lt (Nat.lt_succ_of_lt hlS)
        have hSf : s.heap.objs.size ∉ [(s.heap.push ob).objs.size, l] := by
          rw [Heap.size_push]
          intro hm
          rcases List.mem_cons.mp hm with e | hm
          · exact absurd e (Nat.ne_of_lt (Nat.lt_succ_self _))
          · exact absurd (List.mem_singleton.mp hm) (Nat.ne_of_gt hlS)
        have hkl : keys.length = items.size := by
          have := Paired.length hi
          simpa using this.symm
        refine fillLoopP (by simp; omega) ((Walks.list hh3 _ l hneI items).toS) hSf keys hkl (fun i b => items[i]? = some (.ref b)) (fun i v hv => ?_) (fun i b hd => ?_) (fun b hb i s1 st => ?_) hb keys [] [] _ rfl (fun k hk => by cases hk) ⟨⟨_, Heap.get?_push_size _ rfl, rfl, rfl⟩, hl1.push _⟩ (hSK.keep fun b o e => Heap.get?_push_of_some _ e) (fun i b hd => ?_) fun s' hm hS' => ?_
        · have hv' : items.toList[i]? = some v := by rw [Array.getElem?_toList]; exact hv
          obtain ⟨k, _, b, z1, z2, _⟩ := Paired.at' hi hv'
          exact ⟨b, z1, by rw [← z1]; exact hv⟩
        · have hv' : items.toList[i]? = some (.ref b) := by rw [Array.getElem?_toList]; exact hd
          obtain ⟨k, h1, b', z1, z2, z3⟩ := Paired.at' hi hv'
          injection z1 with z1
          subst z1
          exact z3
        · rw [List.mem_singleton.mp hb]
          obtain ⟨oI, hoI, hcI, _⟩ := st.1
          exact ⟨oI, hoI, by rw [hcI]; decide⟩
        · have hv' : items.toList[i]? = some (.ref b) := by rw [Array.getElem?_toList]; exact hd
          obtain ⟨k, h1, b', z1, z2, _⟩ := Paired.at' hi hv'
          injection z1 with z1
          subst z1
          exact ⟨k, h1, z2.keep fun b o e => Heap.get?_push_of_some _ (Heap.get?_push_of_some _ e)⟩
        · obtain ⟨h', g', d', tk', os'⟩ := s'
          have eg : g' = s.gens := hm.gens
          have ed : d' = s.drawn := hm.drawn
          have eo : os' = s.os := hm.os
          subst eg ed eo
          show wpAny _ _ _ _ _ _
          refine wpAny_pure ?_
          show wpAny _ _ (ret Value.none) _ _ _
          refine wpAny_pure ⟨rfl, h', tk', rfl, hS', fun b o e => ?_⟩
          have hb1 : b ≠ s.heap.objs.size := Nat.ne_of_lt (Heap.lt_size e)
          have hb2 : b ≠ (s.heap.push ob).objs.size := by
            rw [Heap.size_push]; exact Nat.ne_of_lt (Nat.lt_succ_of_lt (Heap.lt_size e))
          refine hm.heap b o (fun hmem => ?_) (Heap.get?_push_of_some _ (Heap.get?_push_of_some _ e))
          rcases List.mem_cons.mp hmem with z | hmem
          · exact hb1 z
          · exact hb2 (List.mem_singleton.mp hmem)
      · cases r₂ with
        | error e => exact hr₂
        | ok fl₂ =>
          cases fl₂ with
          | ret r =>
            obtain ⟨rfl, h', tk, rfl, hS', hk'⟩ := hr₂
            repeat (any_goals (first | assumption | wp_step))
            exact h _ _ hS' hk'
          | _ => exact hr₂.elim
    | _ => exact hr.elim
end
end L2
namespace L2
open PySem PySem.Spec PyProof.Rows
theorem er_at {α : Type} (xs : Array α) (i k : Nat) : (SetTable.eraseAt xs i)[k]? = if k < i then xs[k]? else xs[k + 1]? := by
  have : (SetTable.eraseAt xs i).toList[k]? = if k < i then xs.toList[k]? else xs.toList[k + 1]? := by
    rw [erase_perm2, List.getElem?_eraseIdx]
  simpa using this
theorem er_size {α : Type} (xs : Array α) {i : Nat} (h : i < xs.size) : (SetTable.eraseAt xs i).size = xs.size - 1 := by
  rw [← Array.length_toList, erase_perm2, List.length_eraseIdx_of_lt (by simpa using h), Array.length_toList]
theorem rise_inj {xs : Array Nat} (hr : Rise xs) {i j a : Nat} (h1 : xs[i]? = some a) (h2 : xs[j]? = some a) : i = j := by
  rcases Nat.lt_trichotomy i j with z | z | z
  · exact absurd (hr.get h1 h2 z) (Nat.lt_irrefl _)
  · exact z
  · exact absurd (hr.get h2 h1 z) (Nat.lt_irrefl _)
theorem Good.drop {t : SetTable} {es : Array (Int × Value)} (g : Good t es) {i j : Nat} (hp : t.place[i]? = some j) : Good (t.drop i) (SetTable.eraseAt es i) := by
  obtain ⟨hi, _⟩ := Array.getElem?_eq_some_iff.mp hp
  have hi2 : i < es.size := by rw [← g.size]; exact hi
  have hdrop : t.drop i = { t with place := SetTable.eraseAt t.place i, dummies := SetTable.insertAt t.dummies (SetTable.below t.dummies j) j } := by
    unfold SetTable.drop
    rw [hp]
  rw [hdrop]
  have c := below_cut g.drise j
  have hcd := c.le
  have full : ∀ x, Full t x → Full { t with place := SetTable.eraseAt t.place i, dummies := SetTable.insertAt t.dummies (SetTable.below t.dummies j) j } x := by
    rintro x (⟨k, hk⟩ | ⟨k, hk⟩)
    · rcases Nat.lt_trichotomy k i with z | z | z
      · exact .inl ⟨k, by show (SetTable.eraseAt t.place i)[k]? = _; rw [er_at, if_pos z]; exact hk⟩
      · subst z
        rw [hp] at hk
        injection hk with hk
        subst hk
        exact .inr ⟨SetTable.below t.dummies j, by show (SetTable.insertAt t.dummies (SetTable.below t.dummies j) j)[_]? = _; rw [ins_at _ _ _ hcd, if_neg (Nat.lt_irrefl _), if_pos rfl]⟩
      · exact .inl ⟨k - 1, by show (SetTable.eraseAt t.place i)[k - 1]? = _; rw [er_at, if_neg (by omega), show k - 1 + 1 = k by omega]; exact hk⟩
    · refine .inr ?_
      by_cases z : k < SetTable.below t.dummies j
      · exact ⟨k, by show (SetTable.insertAt t.dummies (SetTable.below t.dummies j) j)[k]? = _; rw [ins_at _ _ _ hcd, if_pos z]; exact hk⟩
      · exact ⟨k + 1, by show (SetTable.insertAt t.dummies (SetTable.below t.dummies j) j)[k + 1]? = _; rw [ins_at _ _ _ hcd, if_neg (by omega), if_neg (by omega)]; exact hk⟩
  refine ⟨g.pw, ?_, ?_, ?_, ?_, ?_, ?_⟩
  · refine rise_of fun a b x y ha hb hab => ?_
    have ha' : (SetTable.eraseAt t.place i)[a]? = some x := ha
    have hb' : (SetTable.eraseAt t.place i)[b]? = some y := hb
    rw [er_at] at ha' hb'
    split at ha' <;> split at hb'
    · exact g.rise.get ha' hb' hab
    · exact g.rise.get ha' hb' (by omega)
    · omega
    · exact g.rise.get ha' hb' (by omega)
  · exact rise_insert g.drise c fun z => g.apart i _ j hp z
  · show (SetTable.eraseAt t.place i).size = _
    rw [er_size _ hi, er_size _ hi2, g.size]
  · have := g.fill
    unfold SetTable.fill at this ⊢
    show (SetTable.eraseAt t.place i).size + (SetTable.insertAt t.dummies (SetTable.below t.dummies j) j).size ≤ t.mask
    rw [er_size _ hi, ins_size _ _ _ hcd]
    omega
  · intro a b x ha hb
    have ha' : (SetTable.eraseAt t.place i)[a]? = some x := ha
    have hb' : (SetTable.insertAt t.dummies (SetTable.below t.dummies j) j)[b]? = some x := hb
    rw [er_at] at ha'
    rw [ins_at _ _ _ hcd] at hb'
    have hne : x ≠ j := fun z => by
      subst z
      split at ha'
      · have := rise_inj g.rise ha' hp; omega
      · have := rise_inj g.rise ha' hp; omega
    have hpl : ∃ a' : Nat, t.place[a']? = some x := by
      split at ha'
      · exact ⟨_, ha'⟩
      · exact ⟨_, ha'⟩
    obtain ⟨a', ha2⟩ := hpl
    split at hb'
    · exact g.apart a' _ x ha2 hb'
    · split at hb'
      · injection hb' with z; exact hne z.symm
      · exact g.apart a' _ x ha2 hb'
  · intro a h x y he hpl
    have hpl' : (SetTable.eraseAt t.place i)[a]? = some y := hpl
    rw [er_at] at he hpl'
    show Reach t.mask _ h y
    by_cases z : a < i
    · rw [if_pos z] at he hpl'
      exact (g.reach a h x y he hpl').mono full
    · rw [if_neg z] at he hpl'
      exact (g.reach (a + 1) h x y he hpl').mono full
theorem room_ok : ∀ n, n < 110 → 5 ≤ n → ∃ k, k < 10 ∧ 3 ≤ k ∧ SetTable.sizeAbove (n * 2) = 2 ^ k ∧ n ≤ SetTable.sizeAbove (n * 2) - 1 := by decide +kernel
section
variable {prog : Program} {w : World} {D : Addr → Prop} {A : Around} {E : Value → Shared → Prop} {s : Shared}
theorem Paired.erase {α β : Type} {R : α → β → Prop} : ∀ {l : List α} {k : List β} (i : Nat), Paired R l k → Paired R (l.eraseIdx i) (k.eraseIdx i)
  | _, _, _, .nil => .nil
  | _, _, 0, .cons _ t => t
  | _, _, i + 1, .cons r t => .cons r (Paired.erase i t)
theorem discardP {a b : Addr} {es : Array (Int × Value)} {ep : Nat} {t : SetTable} {qs : List (Nat × Nat)} {q : Nat × Nat} {Q : Bool → Shared → Prop} (hu : A.units < cLine) (S : SetPA prog w D s.heap a es ep t qs) (hb : TupP prog w s.heap q b) (hsz : es.size < 1000)
    (h : ∀ h' bb es' ep' t' qs', Heap.SameBut a s.heap h' → SetPA prog w D h' a es' ep' t' qs' → qs.length ≤ qs'.length + 1 → qs'.length ≤ qs.length → Q bb { s with heap := h' }) :
    wpAny (model prog w) A (setDiscardHashed a (.ref b) (hashP prog w q)) Q E s := by
  obtain ⟨o, ho, hex, hd⟩ := S.obj
  unfold setDiscardHashed
  refine wpAny_bind (findP hu S hb fun r hr hi => ?_)
  cases r with
  | none =>
    dsimp only
    exact wpAny_pure (h s.heap false es ep t qs (Heap.SameBut.refl _ _) S (Nat.le_succ _) (Nat.le_refl _))
  | some i =>
    have hqi := hi i rfl
    obtain ⟨hil, _⟩ := List.getElem?_eq_some_iff.mp hqi
    have hi2 : i < es.size := by rw [S.len]; exact hil
    have hp : t.place[i]? = some (t.place[i]'(by rw [S.good.size]; exact hi2)) := Array.getElem?_eq_getElem _
    dsimp only
    refine wpAny_bind (wpAny_setState_of ho hd S.fits ?_)
    dsimp only
    have hle : (SetTable.eraseAt es i).size ≤ es.size := by rw [er_size _ hi2]; omega
    refine wpAny_bind (wpAny_storeSet_of ho hd ?_ (by rw [sizeLine_eq]; omega))
    refine wpAny_bind (wpAny_point (wpAny_pure ?_))
    have hent : Paired (EntP prog w D s.heap) (SetTable.eraseAt es i).toList (qs.eraseIdx i) := by
      rw [erase_perm2]
      exact Paired.erase i S.ents
    have hl2 : (t.drop i).led = t.led := by unfold SetTable.drop; rw [hp]
    have hp2 : (t.drop i).plain = t.plain := by unfold SetTable.drop; rw [hp]
    refine h _ true _ _ _ (qs.eraseIdx i) (Heap.SameBut.update _ _ _) (S.store hent (S.nodup.sublist (List.eraseIdx_sublist _ _)) (S.good.drop hp) hl2 hp2) ?_ ?_
    · rw [List.length_eraseIdx_of_lt hil]; omega
    · rw [List.length_eraseIdx_of_lt hil]; omega
theorem copyP {a : Addr} {qs : List (Nat × Nat)} {Q : Value → Shared → Prop} (hA : SetP prog w D s.heap a qs) (h4 : 4 ≤ qs.length) (h10 : qs.length < 110)
    (h : ∀ h' es ep t qs', (∀ c u, s.heap.get? c = some u → h'.get? c = some u) → SetPA prog w D h' s.heap.objs.size es ep t qs' → qs'.Perm qs → Q (.ref s.heap.objs.size) { s with heap := h' }) :
    wpAny (model prog w) A (Builtin.Frozenset.copyOf a) Q E s := by
  unfold Builtin.Frozenset.copyOf
  refine wpAny_bind (baseOfP hA.typeIs (wpAny_bind (newSetP (D := D) fun hN => ?_)))
  have na : a ≠ s.heap.objs.size := Nat.ne_of_lt hA.lt
  refine wpAny_bind (wpAny_pure ?_)
  have old : ∀ c u, s.heap.get? c = some u → (s.heap.push { cls := .type "set", dict := none, data := .set #[] 0 (.fresh 0 0 (!w.params.followText "set-order")) }).get? c = some u := fun c u e => Heap.get?_push_of_some _ e
  have hA1 := hA.keep old
  have hget : (s.heap.push { cls := .type "set", dict := none, data := .set #[] 0 (.fresh 0 0 (!w.params.followText "set-order")) }).get? s.heap.objs.size = some { cls := .type "set", dict := none, data := .set #[] 0 (.fresh 0 0 (!w.params.followText "set-order")) } := Heap.get?_push_size _ rfl
  generalize s.heap.push { cls := .type "set", dict := none, data := .set #[] 0 (.fresh 0 0 (!w.params.followText "set-order")) } = h1 at hA1 hget old ⊢
  have N : SetPA prog w D h1 s.heap.objs.size #[] 0 (.fresh 0 0 (!w.params.followText "set-order")) [] := freshPA hget
  obtain ⟨es, ep, t, qs', S, hdm, htf, p⟩ := id hA1
  obtain ⟨o, ho, hex, hd⟩ := S.obj
  have hlen := S.len
  have hpl := p.length_eq
  rw [setMerge_eq]
  rw [if_neg (by intro z; exact na (eq_of_beq z).symm)]
  refine wpAny_bind (wpAny_bind (wpAny_setState_of (s := { s with heap := h1 }) ho hd S.fits ?_))
  dsimp only
  rw [if_neg (by intro z; have := Array.isEmpty_iff_size_eq_zero.mp z; omega)]
  refine wpAny_bind (wpAny_mono (Q := fun _ s' => ∃ h2 ep2 t2, s' = { s with heap := h2 } ∧ Heap.SameBut s.heap.objs.size h1 h2 ∧ SetPA prog w D h2 s.heap.objs.size #[] ep2 t2 [] ∧ t2.dummies = #[] ∧ es.size ≤ t2.mask) ?_ (fun _ s' hs' => ?_) fun _ _ x => x)
  · unfold setRoomFor
    obtain ⟨oN, hoN, hexN, hdN⟩ := N.obj
    refine wpAny_bind (wpAny_setState_of (s := { s with heap := h1 }) hoN hdN N.fits ?_)
    by_cases h5 : 5 ≤ es.size
    · have hr : (SetTable.fresh 0 0 (!w.params.followText "set-order")).roomFor es.size = some (es.size * 2) := by
        unfold SetTable.roomFor SetTable.fresh SetTable.fill
        simp only [List.size_toArray, List.length_nil, Nat.add_zero, Nat.zero_add]
        rw [if_pos (by omega)]
      rw [hr]
      dsimp only
      obtain ⟨k, k1, k2, k3, k4⟩ := room_ok es.size (by omega) h5
      refine relayP (s := { s with heap := h1 }) N ⟨k, k2, by omega, k3⟩ (Nat.zero_le _) fun h' es' ep' t' qs2 sb S2 dm mk sz p2 => ?_
      have e0 : es' = #[] := Array.size_eq_zero_iff.mp sz
      subst e0
      have q0 : qs2 = [] := by simpa using p2
      subst q0
      exact ⟨h', ep', t', rfl, sb, S2, dm, by rw [mk]; exact k4⟩
    · have hr : (SetTable.fresh 0 0 (!w.params.followText "set-order")).roomFor es.size = none := by
        unfold SetTable.roomFor SetTable.fresh SetTable.fill
        simp only [List.size_toArray, List.length_nil, Nat.add_zero, Nat.zero_add]
        rw [if_neg (by omega)]
      rw [hr]
      exact wpAny_pure ⟨h1, 0, _, rfl, Heap.SameBut.refl _ _, N, rfl, by show es.size ≤ 7; omega⟩
  obtain ⟨h2, ep2, t2, rfl, sb2, N2, dm2, hm2⟩ := hs'
  obtain ⟨oN, hoN, hexN, hdN⟩ := N2.obj
  have S2 : SetPA prog w D h2 a es ep t qs' := S.but hget rfl sb2 na
  refine wpAny_bind (wpAny_setState_of (s := { s with heap := h2 }) hoN hdN N2.fits ?_)
  dsimp only
  have keep2 : ∀ c u, s.heap.get? c = some u → h2.get? c = some u := fun c u e => (sb2.2 c (Nat.ne_of_lt (Heap.lt_size e))).trans (old c u e)
  have keep3 : ∀ (ee : Array (Int × Value)) (tt : SetTable) c u, s.heap.get? c = some u → (h2.update s.heap.objs.size (Obj.putSet ee tt)).get? c = some u := fun ee tt c u e => ((Heap.SameBut.update h2 s.heap.objs.size (Obj.putSet ee tt)).2 c (Nat.ne_of_lt (Heap.lt_size e))).trans (keep2 c u e)
  have hfill : t2.fill = 0 := by
    unfold SetTable.fill
    rw [dm2, N2.good.size]
    rfl
  have ledd : (t2.led && t.led) = t2.led := by
    rw [N2.led, S2.led]
    cases (!w.params.followText "set-order") <;> rfl
  have plnn : (t2.plain && t.plain) = t2.plain := by
    rw [N2.plain, S2.plain]; rfl
  have hroad : t2.road t = .slotForSlot ∨ t2.road t = .clean := by
    unfold SetTable.road
    rw [hfill]
    simp only [bne_self_eq_false, Bool.false_eq_true, if_false]
    split
    · exact .inl rfl
    · exact .inr rfl
  rcases hroad with hr | hr
  · rw [hr]
    dsimp only
    refine wpAny_storeSet_of (s := { s with heap := h2 }) (es' := es) hoN hdN ?_ (by rw [sizeLine_eq]; omega)
    have g2 : Good { t with finger := t2.finger, led := t2.led && t.led, moves := t2.moves, plain := t2.plain && t.plain } es := ⟨S.good.pw, S.good.rise, S.good.drise, S.good.size, S.good.fill, S.good.apart, S.good.reach⟩
    have S3 := N2.store S2.ents S2.nodup g2 ledd plnn
    exact wpAny_pure (h _ _ _ _ _ (keep3 _ _) S3 p)
  · rw [hr]
    dsimp only
    obtain ⟨t', o', e1, e2, e4, e5, e6, e7, e8⟩ := laid_good (mask := t2.mask) (finger := t2.finger) (moves := t2.moves) (led := t2.led && t.led) (plain := t2.plain && t.plain) (es := es) N2.good.pw hm2
    rw [e1]
    have hsz : (o'.filterMap (es[·]?)).size = es.size := by
      have := e7.length_eq
      rwa [Array.length_toList, Array.length_toList] at this
    dsimp only
    rw [if_neg (by rw [hsz]; simp)]
    refine wpAny_bind (wpAny_bind (wpAny_pure (wpAny_pure ?_)))
    refine wpAny_storeSet_of (s := { s with heap := h2 }) hoN hdN ?_ (by rw [hsz, sizeLine_eq]; omega)
    obtain ⟨qs3, he3, p3⟩ := Paired.perm e7.symm S2.ents
    have S3 := N2.store he3 (p3.nodup_iff.mpr S2.nodup) e8 (e4.trans ledd) (e5.trans plnn)
    exact wpAny_pure (h _ _ _ _ _ (keep3 _ _) S3 (p3.trans p))
end
end L2
namespace L2
open PySem PySem.Spec PyProof.Rows
section
variable {prog : Program} {w : World} {D : Addr → Prop} {A : Around} {E : Value → Shared → Prop} {s : Shared}
theorem tidyP {a : Addr} {es : Array (Int × Value)} {ep : Nat} {t : SetTable} {qs : List (Nat × Nat)} {Q : Unit → Shared → Prop} (S : SetPA prog w D s.heap a es ep t qs) (hsz : qs.length < 110)
    (h : ∀ h' es' ep' t' qs', Heap.SameBut a s.heap h' → SetPA prog w D h' a es' ep' t' qs' → qs'.length = qs.length → Q () { s with heap := h' }) : wpAny (model prog w) A (setTidy a) Q E s := by
  obtain ⟨o, ho, hex, hd⟩ := S.obj
  have hl := S.len
  unfold setTidy
  refine wpAny_bind (wpAny_setState_of ho hd S.fits ?_)
  dsimp only
  split
  · obtain ⟨k, k1, k2, k3, k4, k5⟩ := grow_ok es.size (by omega)
    exact relayP S ⟨k, k2, by omega, k3⟩ k4 fun h' es' ep' t' qs' sb S' _ _ _ p => h h' es' ep' t' qs' sb S' p.length_eq
  · exact wpAny_pure (h s.heap es ep t qs (Heap.SameBut.refl _ _) S rfl)
theorem updateP {id : String} {r b : Addr} {es : Array (Int × Value)} {ep : Nat} {t : SetTable} {qs : List (Nat × Nat)} {eb : Array (Int × Value)} {epb : Nat} {tb : SetTable} {ls : List (Nat × Nat)} {Q : Unit → Shared → Prop} (hu : A.units < cLine)
    (S : SetPA prog w D s.heap r es ep t qs) (SB : SetPA prog w D s.heap b eb epb tb ls) (hne : r ≠ b) (hlt : ls.length < qs.length) (hsz : qs.length < 110)
    (h : ∀ h' dr es' ep' t' qs', Heap.SameBut r s.heap h' → SetPA prog w D h' r es' ep' t' qs' → 1 ≤ qs'.length → qs'.length < 110 → Q () { s with heap := h', drawn := dr }) :
    wpAny (model prog w) A (Builtin.Frozenset.differenceUpdate id r (.ref b)) Q E s := by
  obtain ⟨o, ho, hex, hd⟩ := S.obj
  unfold Builtin.Frozenset.differenceUpdate
  rw [if_neg (by intro z; have z' : Value.ref b = Value.ref r := eq_of_beq z; injection z' with z'; exact hne z'.symm)]
  refine wpAny_bind (anySetP SB.typeIs ?_)
  dsimp only
  rw [if_pos rfl]
  refine wpAny_bind (wpAny_pure ?_)
  refine wpAny_bind (sizeP SB (wpAny_bind (sizeP S ?_)))
  rw [if_neg (by omega)]
  refine wpAny_bind (epochP SB (wpAny_bind (wpAny_holding (wpAny_bind (walkUnseenP SB fun ys ls' dr hy hp => ?_)))))
  have hl' := hp.length_eq
  refine wpAny_bind (MeetsSeq2.wpAny_forIn_array _ (fun rest (_ : PUnit) s' => ∃ (done : Nat) (left : List (Nat × Nat)) (h' : Heap) (es' : Array (Int × Value)) (ep' : Nat) (t' : SetTable) (qs' : List (Nat × Nat)), s' = { s with heap := h', drawn := dr } ∧ Heap.SameBut r s.heap h' ∧ Paired (EntP prog w D s.heap) rest left ∧ SetPA prog w D h' r es' ep' t' qs' ∧ qs.length ≤ qs'.length + done ∧ done + left.length = ls.length ∧ qs'.length ≤ qs.length)
    _ ?_ ?_ ys PUnit.unit ⟨0, ls', s.heap, es, ep, t, qs, rfl, Heap.SameBut.refl _ _, hy, S, Nat.le_refl _, by omega, Nat.le_refl _⟩)
  · rintro ⟨eh, ex⟩ rest ⟨⟩ s' ⟨done, left, h1, es', ep', t', qs', rfl, sb, hpr, S1, c1, c2, c3⟩
    cases hpr with
    | cons re tl =>
      rename_i q left'
      obtain ⟨c, e1, e2, e3, hD⟩ := re
      dsimp only at e1 e2 e3 ⊢
      subst e1 e3
      have hlen1 := S1.len
      refine wpAny_bind (wpAny_holding (discardP (s := { s with heap := h1, drawn := dr }) hu S1 (e2.but ho hd sb) (by omega) fun h2 bb es2 ep2 t2 qs2 sb2 S2 d1 d2 => ?_))
      refine wpAny_bind (unchangedP (s := { s with heap := h2, drawn := dr }) (SB.but ho hd (sb.trans sb2) (Ne.symm hne)) (wpAny_pure ?_))
      simp only [List.length_cons] at c2
      exact ⟨done + 1, left', h2, es2, ep2, t2, qs2, rfl, sb.trans sb2, tl, S2, by omega, by omega, by omega⟩
  · rintro ⟨⟩ s' ⟨done, left, h1, es', ep', t', qs', rfl, sb, hpr, S1, c1, c2, c3⟩
    cases hpr
    simp only [List.length_nil, Nat.add_zero] at c2
    refine wpAny_pure ?_
    exact tidyP (s := { s with heap := h1, drawn := dr }) S1 (by omega) fun h2 es2 ep2 t2 qs2 sb2 S2 e => h h2 dr es2 ep2 t2 qs2 (sb.trans sb2) S2 (by omega) (by omega)
noncomputable def SetN (h : Heap) (a : Addr) (n : Nat) : Prop := ∃ o es ep t, h.get? a = some o ∧ o.ExactSet ∧ o.data = .set es ep t ∧ t.fits es.size = true ∧ es.size = n ∧ n < 1000
theorem SetPA.setN {h : Heap} {a : Addr} {es : Array (Int × Value)} {ep : Nat} {t : SetTable} {qs : List (Nat × Nat)} (S : SetPA prog w D h a es ep t qs) (hl : qs.length < 1000) : SetN h a qs.length :=
  let ⟨o, ho, hx, hd⟩ := S.obj
  ⟨o, es, ep, t, ho, hx, hd, S.fits, S.len, hl⟩
theorem diffP {id : String} {a b : Addr} {ks ls : List (Nat × Nat)} {Q : Value → Shared → Prop} (hu : A.units < cLine) (hA : SetP prog w D s.heap a ks) (hB : SetP prog w D s.heap b ls) (hne : a ≠ b) (hka : ks.length + 1 < 110)
    (h : ∀ h' dr n, (∀ c u, s.heap.get? c = some u → h'.get? c = some u) → SetN h' s.heap.objs.size n → (n = 0 ↔ ∀ k ∈ ks, k ∈ ls) → Q (.ref s.heap.objs.size) { s with heap := h', drawn := dr }) :
    wpAny (model prog w) A (Builtin.Frozenset.difference id a (.ref b)) Q E s := by
  obtain ⟨ea, epa, ta, ka, SA, dA, fA, pA⟩ := _root_.id hA
  obtain ⟨eb, epb, tb, lb, SB, dB, fB, pB⟩ := _root_.id hB
  have hla := pA.length_eq
  have hlb := pB.length_eq
  unfold Builtin.Frozenset.difference
  refine wpAny_bind (anySetP hB.typeIs ?_)
  simp only [Bool.not_true, Bool.false_eq_true, ↓reduceIte, Bool.false_and]
  refine wpAny_bind (wpAny_pure ?_)
  refine wpAny_bind (sizeP SB (wpAny_bind (sizeP SA ?_)))
  have na : a ≠ s.heap.objs.size := Nat.ne_of_lt hA.lt
  have nb : b ≠ s.heap.objs.size := Nat.ne_of_lt hB.lt
  by_cases hc : ka.length / 4 > lb.length
  · rw [if_pos hc]
    refine wpAny_bind (wpAny_rule (wpAny_bind (copyP hA (by omega) (by omega) fun h' es ep t qs' old S p => ?_)))
    have hpl := p.length_eq
    refine wpAny_bind (wpAny_pure (wpAny_bind (wpAny_holding (updateP (s := { s with heap := h' }) hu S (SB.keep old) (Ne.symm nb) (by omega) (by omega) fun h2 dr es' ep' t' qs2 sb S2 h1 h110 => ?_))))
    refine wpAny_pure (h h2 dr qs2.length (fun c u e => (sb.2 c (Nat.ne_of_lt (Heap.lt_size e))).trans (old c u e)) (S2.setN (by omega)) ⟨fun z => by omega, fun hall => ?_⟩)
    have := len_sub hA.nodup hall
    omega
  · rw [if_neg hc]
    refine wpAny_bind (baseOfP hA.typeIs (wpAny_bind (newSetP (D := D) fun hN => ?_)))
    refine wpAny_bind (wpAny_pure ?_)
    have old : ∀ c u, s.heap.get? c = some u → (s.heap.push { cls := .type "set", dict := none, data := .set #[] 0 (.fresh 0 0 (!w.params.followText "set-order")) }).get? c = some u := fun c u e => Heap.get?_push_of_some _ e
    have SA1 := SA.keep old
    have SB1 := SB.keep old
    generalize s.heap.push { cls := .type "set", dict := none, data := .set #[] 0 (.fresh 0 0 (!w.params.followText "set-order")) } = h1 at hN SA1 SB1 old ⊢
    refine wpAny_bind (epochP (s := { s with heap := h1 }) SA1 ?_)
    refine wpAny_bind (wpAny_holding (wpAny_bind (walkUnseenP (s := { s with heap := h1 }) SA1 fun ys ls' dr hy hp => ?_)))
    have hl' := hp.length_eq
    obtain ⟨oN, esN, epN, tN, hoN, _, hdN⟩ := hN.obj
    refine wpAny_bind (MeetsSeq2.wpAny_forIn_array _ (fun rest (_ : PUnit) s' => ∃ (done left : List (Nat × Nat)) (h' : Heap), s' = { s with heap := h', drawn := dr } ∧ Heap.SameBut s.heap.objs.size h1 h' ∧ done ++ left = ls' ∧ Paired (EntP prog w D h1) rest left ∧ SetP prog w D h' s.heap.objs.size (done.filter fun k => !decide (k ∈ lb)))
      _ ?_ ?_ ys PUnit.unit ⟨[], ls', h1, rfl, Heap.SameBut.refl _ _, rfl, hy, hN⟩)
    · rintro ⟨eh, ex⟩ rest ⟨⟩ s' ⟨done, left, h2, rfl, sb, e0, hpr, S1⟩
      cases hpr with
      | cons re tl =>
        rename_i q left'
        obtain ⟨c, e1, e2, e3, hD⟩ := re
        dsimp only at e1 e2 e3 ⊢
        subst e1 e3
        have hk : q ∉ done := by
          intro z
          have hnd : ls'.Nodup := hp.nodup_iff.mpr SA.nodup
          rw [← e0] at hnd
          exact (List.nodup_append.mp hnd).2.2 q z q List.mem_cons_self rfl
        have hlen2 : (done ++ q :: left').length = ls'.length := by rw [e0]
        simp only [List.length_append, List.length_cons] at hlen2
        have hfl := List.length_filter_le (fun k => !decide (k ∈ lb)) done
        have tq : TupP prog w h2 q c := e2.but hoN hdN sb
        refine wpAny_bind (wpAny_holding (wpAny_bind (findP (s := { s with heap := h2, drawn := dr }) hu (SB1.but hoN hdN sb nb) tq fun res hres _ => wpAny_bind (wpAny_pure ?_))))
        rw [hres]
        by_cases hc : (!decide (q ∈ lb)) = true
        · rw [if_pos hc]
          refine wpAny_bind (addP (s := { s with heap := h2, drawn := dr }) hu S1 tq hD (by omega) fun h3 bb sb3 S3 => ?_)
          refine wpAny_pure (wpAny_bind (unchangedP (s := { s with heap := h3, drawn := dr }) (SA1.but hoN hdN (sb.trans sb3) na) (wpAny_pure ⟨done ++ [q], left', h3, rfl, sb.trans sb3, by rw [← e0]; simp, tl, ?_⟩)))
          unfold addK at S3
          rw [if_neg (fun z => hk (List.mem_filter.mp z).1)] at S3
          rw [List.filter_append]
          simpa [hc] using S3
        · rw [if_neg hc]
          refine wpAny_pure (wpAny_bind (unchangedP (s := { s with heap := h2, drawn := dr }) (SA1.but hoN hdN sb na) (wpAny_pure ⟨done ++ [q], left', h2, rfl, sb, by rw [← e0]; simp, tl, ?_⟩)))
          rw [List.filter_append]
          simpa [hc] using S1
    · rintro ⟨⟩ s' ⟨done, left, h2, rfl, sb, e0, hpr, S1⟩
      cases hpr
      rw [List.append_nil] at e0
      subst e0
      refine wpAny_pure (wpAny_pure ?_)
      have hfl := List.length_filter_le (fun k => !decide (k ∈ lb)) done
      obtain ⟨e9, ep9, t9, q9, S9, _, _, p9⟩ := S1
      have hl9 := p9.length_eq
      have sn := S9.setN (by omega)
      rw [hl9] at sn
      refine h h2 dr _ (fun c u e => (sb.2 c (Nat.ne_of_lt (Heap.lt_size e))).trans (old c u e)) sn ?_
      rw [List.length_eq_zero_iff, List.filter_eq_nil_iff]
      constructor
      · intro hall k hk
        have := hall k (hp.mem_iff.mpr (pA.mem_iff.mpr hk))
        have hm : k ∈ lb := by simpa using this
        exact pB.mem_iff.mp hm
      · intro hall k hk
        have := pB.mem_iff.mpr (hall k (pA.mem_iff.mp (hp.mem_iff.mp hk)))
        simpa using this
end
end L2
namespace L2
open PySem PySem.Spec PyProof.Rows
noncomputable abbrev PrA := (Nat × Nat) × Addr
noncomputable def SetB (P : Program) (w : World) (h : Heap) (a : Addr) (ps : List PrA) : Prop := ∃ es ep t, (∃ o, h.get? a = some o ∧ o.ExactSet ∧ o.data = .set es ep t) ∧ Paired (fun (e : Int × Value) (p : PrA) => e.2 = .ref p.2 ∧ e.1 = hashP P w p.1) es.toList ps ∧ (ps.map (·.1)).Nodup ∧ Good t es ∧ (t.led = !w.params.followText "set-order") ∧ t.plain = true ∧ t.dummies = #[] ∧ t.tooFull = false
section
variable {P : Program} {w : World}
theorem SetB.keep {h h' : Heap} {a : Addr} {ps : List PrA} (x : SetB P w h a ps) (k : ∀ o, h.get? a = some o → h'.get? a = some o) : SetB P w h' a ps :=
  let ⟨es, ep, t, ⟨o, ho, r⟩, q⟩ := x
  ⟨es, ep, t, ⟨o, k o ho, r⟩, q⟩
theorem toP_go {D : Addr → Prop} {h : Heap} : ∀ {l : List (Int × Value)} {ps : List PrA}, Paired (fun (e : Int × Value) (p : PrA) => e.2 = .ref p.2 ∧ e.1 = hashP P w p.1) l ps → (∀ p ∈ ps, TupP P w h p.1 p.2 ∧ D p.2) → Paired (EntP P w D h) l (ps.map (·.1))
  | _, _, .nil, _ => .nil
  | _, _, .cons r t, h => .cons ⟨_, r.1, (h _ List.mem_cons_self).1, r.2, (h _ List.mem_cons_self).2⟩ (toP_go t fun p hp => h p (List.mem_cons_of_mem _ hp))
theorem SetB.toP {D : Addr → Prop} {h : Heap} {a : Addr} {ps : List PrA} (x : SetB P w h a ps) (ht : ∀ p ∈ ps, TupP P w h p.1 p.2 ∧ D p.2) : SetP P w D h a (ps.map (·.1)) :=
  let ⟨es, ep, t, ho, he, nd, g, l, pl, d, f⟩ := x
  ⟨es, ep, t, ps.map (·.1), ⟨ho, toP_go he ht, nd, g, l, pl⟩, d, f, List.Perm.refl _⟩
theorem ofP_go {D : Addr → Prop} {h : Heap} : ∀ {l : List (Int × Value)} {qs : List (Nat × Nat)}, Paired (EntP P w D h) l qs → ∃ ps : List PrA, ps.map (·.1) = qs ∧ Paired (fun (e : Int × Value) (p : PrA) => e.2 = .ref p.2 ∧ e.1 = hashP P w p.1) l ps ∧ ∀ p ∈ ps, TupP P w h p.1 p.2 ∧ D p.2
  | _, _, .nil => ⟨[], rfl, .nil, fun p h => nomatch h⟩
  | _, _, .cons (b := q) r t => by
    obtain ⟨ps, e1, e2, e3⟩ := ofP_go t
    obtain ⟨b, z1, z2, z3, z4⟩ := r
    refine ⟨(q, b) :: ps, by simp [e1], .cons ⟨z1, z3⟩ e2, fun p hp => ?_⟩
    rcases List.mem_cons.mp hp with rfl | hp
    · exact ⟨z2, z4⟩
    · exact e3 p hp
theorem SetB.ofP {D : Addr → Prop} {h : Heap} {a : Addr} {qs : List (Nat × Nat)} (x : SetP P w D h a qs) : ∃ ps, SetB P w h a ps ∧ (ps.map (·.1)).Perm qs ∧ ∀ p ∈ ps, TupP P w h p.1 p.2 ∧ D p.2 := by
  obtain ⟨es, ep, t, qs', S, d, f, p⟩ := x
  obtain ⟨ps, e1, e2, e3⟩ := ofP_go S.ents
  exact ⟨ps, ⟨es, ep, t, S.obj, e2, by rw [e1]; exact S.nodup, S.good, S.led, S.plain, d, f⟩, by rw [e1]; exact p, e3⟩
end
noncomputable def setPO (P : Program) (w : World) (a : Addr) (ps : List PrA) : HO := .ext fun h => SetB P w h a ps
noncomputable def lenO (a : Addr) (n : Nat) : HO := .ext fun h => SetN h a n
theorem few_pairs {ks : List (Nat × Nat)} (nd : ks.Nodup) (hb : ∀ k ∈ ks, k.1 < 10 ∧ k.2 < 10) : ks.length ≤ 100 := by
  have := len_sub (b := (List.range 10).flatMap fun i => (List.range 10).map fun j => (i, j)) nd fun x hx => by
    obtain ⟨h1, h2⟩ := hb x hx
    exact List.mem_flatMap.mpr ⟨x.1, List.mem_range.mpr h1, List.mem_map.mpr ⟨x.2, List.mem_range.mpr h2, rfl⟩⟩
  have e : ((List.range 10).flatMap fun i => (List.range 10).map fun j => (i, j)).length = 100 := by decide
  omega
section
variable {X : Cx} {pins : List (Addr × Obj)} {σ : St} {H : Hp} {s : Shared}
theorem Inv.tupP (I : Inv X pins σ H s) {q : Nat × Nat} {b : Addr} (hx : IsP H q (.ref b)) : TupP X.prog X.w s.heap q b := by
  obtain ⟨p, e, hp⟩ := hx
  cases e
  obtain ⟨u0, u1, ⟨o, ho, hc, n, hd⟩, ⟨t0, rfl⟩, ⟨t1, rfl⟩⟩ := tup2_at I hp
  exact ⟨o, _, n, ho, hc, hd, .cons (intKind_is _ _ _ _) (.cons (intKind_is _ _ _ _) .nil)⟩
theorem setPO_ok {P : Program} {w : World} {H : Hp} {h : Heap} {a : Addr} {ps : List PrA} (x : SetB P w h a ps) : ObjOk P w H h a (setPO P w a ps) :=
  ⟨x, let ⟨_, _, _, ⟨o, ho, _⟩, _⟩ := x; ⟨o, ho⟩, fun h1 h2 y k => y.keep k⟩
theorem Inv.setB (I : Inv X pins σ H s) {a : Addr} {ps : List PrA} (h : H a = some (setPO X.prog X.w a ps)) : SetB X.prog X.w s.heap a ps := (I.hok a _ h).1
theorem Inv.setP (I : Inv X pins σ H s) {a : Addr} {ps : List PrA} (h : H a = some (setPO X.prog X.w a ps)) (hp : ∀ x ∈ ps, IsP H x.1 (.ref x.2)) : SetP X.prog X.w (fun _ => True) s.heap a (ps.map (·.1)) :=
  (I.setB h).toP fun p hm => ⟨I.tupP (hp p hm), trivial⟩
noncomputable def rSetP (P : Program) (w : World) : List V → Hp → VK → Prop := fun xs H Q => ∃ (a : Addr) (vs : List V) (qs : List (Nat × Nat)), xs = [.ref a] ∧ H a = some (.lst vs) ∧ PL H vs qs ∧ (∀ q ∈ qs, q.1 < 10 ∧ q.2 < 10) ∧
  ∀ p (ps : List PrA), H p = none → (∀ q, q ∈ ps.map (·.1) ↔ q ∈ qs) → (ps.map (·.1)).Nodup → (∀ x ∈ ps, IsP H x.1 (.ref x.2)) → Q (.ref p) (upd H p (setPO P w p ps))
theorem pl_keys {D : Addr → Prop} (I : Inv X pins σ H s) : ∀ {vs : List V} {us : List Value} {qs : List (Nat × Nat)}, (∀ q b, IsP H q (.ref b) → D b) → PL H vs qs → Vals vs us → Paired (fun v k => ∃ b, v = .ref b ∧ TupP X.prog X.w s.heap k b ∧ D b) us qs
  | _, _, _, _, .nil, .nil => .nil
  | _, _, _, hD, .cons ⟨b, e, hb⟩ t, .cons rv tv => by
    subst e
    cases rv
    exact .cons ⟨b, rfl, I.tupP ⟨b, rfl, hb⟩, hD _ b ⟨b, rfl, hb⟩⟩ (pl_keys I hD t tv)
theorem call_setP (hc : X.calm = true) (hu : X.A.units + 64 < cLine) : CallR X (.type "set") (rSetP X.prog X.w) := by
  intro pins s σ H xs us Q I r h
  obtain ⟨a, vs, qs, rfl, ha, hpl, hbd, q⟩ := h
  obtain ⟨u, rfl, ru⟩ := r.one
  cases ru
  obtain ⟨its, rv, p, hz⟩ := I.list (SqL.of ha)
  refine call_setPairs (D := fun b => ∃ q, IsP H q (.ref b)) (I.ok.hd hc) p.isList (by omega) (by rw [List.toList_toArray]; exact pl_keys I (fun q b z => ⟨q, z⟩) hpl rv) (fun ks nd hk => by have := few_pairs nd fun k hm => hbd k (hk k hm); omega) fun h' tk hS hk => ?_
  obtain ⟨ps, B, pp, ht⟩ := SetB.ofP hS
  have I2 : Inv X pins σ (upd H s.heap.objs.size (setPO X.prog X.w s.heap.objs.size ps)) { s with heap := h', toks := tk } := I.laid (t' := tk) hk (Nat.le_refl _) (setPO_ok B)
  refine ⟨.ref s.heap.objs.size, _, I2, rfl, q _ ps I.fresh (fun k => ?_) (pp.nodup_iff.mpr hS.nodup) fun x hx => ?_⟩
  · rw [pp.mem_iff, mem_gather]; simp
  · obtain ⟨z1, q', z2⟩ := ht x hx
    have z3 := (I.tupP z2).keep hk
    have : x.1 = q' := keyP_inj (IsTupleKey.inj z1 z3)
    rw [this]; exact z2
theorem binarySetP {id rid : String} {f : String → Addr → Value → Sem Value} {a b : Addr} {prog : Program} {w : World} {A : Around} {E : Value → Shared → Prop} {s : Shared} {Q : Value → Shared → Prop} (hA : s.TypeIs (.ref a) "set") (hB : s.TypeIs (.ref b) "set")
    (h : wpAny (model prog w) A (f id a (.ref b)) Q E s) :
    wpAny (model prog w) A (do
      if !(← Builtin.Frozenset.isAnySet (.ref a) <&&> Builtin.Frozenset.isAnySet (.ref b)) then rule rid; return ← ret .notImplemented
      ret (← f id (← Builtin.Frozenset.addrOf (.ref a)) (.ref b))) (fun fin s' => ∃ v, fin = .done (.ret v) ∧ Q v s') E s := by
  refine wpAny_bind (wpAny_bind (anySetP hA ?_))
  refine anySetP hB ?_
  simp only [Bool.not_true, Bool.false_eq_true, ↓reduceIte]
  refine wpAny_bind (wpAny_pure (wpAny_bind (thn h fun v s' q => ?_)))
  exact wpAny_pure ⟨v, rfl, q⟩
noncomputable def rSubP (P : Program) (w : World) : R2 := fun x y H Q => ∃ (a b : Addr) (ps rs : List PrA), x = .ref a ∧ y = .ref b ∧ a ≠ b ∧ H a = some (setPO P w a ps) ∧ H b = some (setPO P w b rs) ∧ (∀ x ∈ ps, IsP H x.1 (.ref x.2)) ∧ (∀ x ∈ rs, IsP H x.1 (.ref x.2)) ∧ ps.length ≤ 100 ∧
  ∀ p n, H p = none → (n = 0 ↔ ∀ k ∈ ps.map (·.1), k ∈ rs.map (·.1)) → Q (.ref p) (upd H p (lenO p n))
theorem lenO_ok {P : Program} {w : World} {H : Hp} {h : Heap} {a : Addr} {n : Nat} (x : SetN h a n) : ObjOk P w H h a (lenO a n) :=
  ⟨x, let ⟨o, _, _, _, ho, _⟩ := x; ⟨o, ho⟩, fun h1 h2 y k => let ⟨o, es, ep, t, ho, r⟩ := y; ⟨o, es, ep, t, k o ho, r⟩⟩
theorem op_subP (hu : X.A.units + 64 < cLine) : OpR X (binaryOp .Sub) (rSubP X.prog X.w) := by
  intro pins s σ H x y v u Q I rx ry h
  obtain ⟨a, b, ps, rs, rfl, rfl, hne, ha, hb, ia, ib, hl, q⟩ := h
  cases rx
  cases ry
  have hA := I.setP ha ia
  have hB := I.setP hb ib
  refine wpAny_binaryOp_same (op := .Sub) hA.typeIs hB.typeIs PySem.F.fills_set_sub PySem.F.slot_set_sub (wpAny_call_entry PySem.F.slot_set_sub hA.typeIs entry_set_sub ?_ (PySem.F.args_set_sub_2 _ _))
  have key : ∀ id, wpAny (model X.prog X.w) X.A.in1 (Builtin.Frozenset.difference id a (.ref b)) (fun v s' => v ≠ .notImplemented ∧ EP X pins σ Q v s') X.xe s := fun id =>
    diffP (by show X.A.units + 1 < cLine; omega) hA hB hne (by rw [List.length_map]; omega) fun h' dr n hk hT hn => ⟨(by intro z; cases z), V.ref s.heap.objs.size, _, (I.laid (t' := s.toks) hk (Nat.le_refl _) (lenO_ok hT)).dr dr, rfl, q _ n I.fresh hn⟩
  unfold Builtin.«frozenset.__sub__»
  exact binarySetP hA.typeIs hB.typeIs (key _)
theorem call_lenP : CallR X (.builtin "len") (fun xs H Q => ∃ (a : Addr) (n : Nat), xs = [V.ref a] ∧ H a = some (lenO a n) ∧ Q (.int (n : Int)) H) := by
  intro pins s σ H xs us Q I r h
  obtain ⟨a, n, rfl, ha, q⟩ := h
  obtain ⟨u, rfl, ru⟩ := r.one
  cases ru
  obtain ⟨o, es, ep, t, ho, hex, hd, hf, hn, hb⟩ := (show SetN s.heap a n from (I.hok a _ ha).1)
  exact call_len_set ho hex hd hf (by omega) ⟨.int (n : Int), H, I.tok _, ⟨_, by rw [hn]⟩, q⟩
noncomputable def rNotInP (P : Program) (w : World) : R2 := fun x y H Q => ∃ (a : Addr) (q : Nat × Nat) (ps : List PrA), y = .ref a ∧ H a = some (setPO P w a ps) ∧ (∀ x ∈ ps, IsP H x.1 (.ref x.2)) ∧ IsP H q x ∧ Q (.bl (!decide (q ∈ ps.map (·.1)))) H
theorem op_notInSP (hu : X.A.units + 64 < cLine) : OpR X (compareOp .NotIn) (rNotInP X.prog X.w) := by
  intro pins s σ H x y v u Q I rx ry h
  obtain ⟨a, q, ps, rfl, ha, ia, hx, hq⟩ := h
  obtain ⟨b, rfl, hb⟩ := hx
  cases rx
  cases ry
  exact wpAny_notInP (by omega) (I.setP ha ia) (I.tupP ⟨b, rfl, hb⟩) fun tk => ⟨.bl _, H, I.tok _, rfl, hq⟩
end
end L2
namespace L2
open PySem PySem.Spec PyProof.Rows
section
variable {prog : Program} {w : World} {κ : Type} [DecidableEq κ] {knd : KeyKind prog w κ} {A : Around} {E : Value → Shared → Prop} {s : Shared}
theorem setDefault_pairs {d : Addr} {kvs : List (κ × Value)} {k : κ} {key dflt : Value} {Q : Value → Shared → Prop} (hkey : knd.is k key = true) (hm : s.heap.DictOf knd d kvs)
    (hthere : ∀ v, valueAt kvs k = some v → Q v { s with toks := s.toks + 1 })
    (hnew : valueAt kvs k = none → ∀ h', h'.DictOf knd d (stored kvs k dflt) → Heap.SameBut d s.heap h' → Q dflt { s with heap := h', toks := s.toks + 1 })
    (hsz : kvs.length ≤ sizeLine) : wpAny (model prog w) A (dictSetDefault d key dflt) Q E s := by
  have hval := hm.mapOf
  obtain ⟨o, es, ep, ho, hc, hd, hk, hp, hn⟩ := hm
  have hf : ∀ x, findBy knd.is es x = valueAt kvs x := fun x => by
    rw [← hp.find x]
    obtain ⟨l⟩ := es
    simp [findBy]
  have hes : es.size ≤ sizeLine := by
    have e1 := hp.length
    have e2 : es.toList.length = es.size := by simp
    omega
  unfold dictSetDefault
  try with_reducible refine wpAny_holding ?_
  refine wpAny_bind (knd.pyHash hkey ?_)
  refine wpAny_bind (wpAny_dictFind_of (s := { s with toks := s.toks + 1 }) hkey ho hd hk ?_)
  have hidx : (es.findIdx? fun e => knd.is k e.key) = kvs.findIdx? fun kv => decide (kv.1 = k) := by
    rw [← hp.findIdx k]; obtain ⟨l⟩ := es; simp
  cases hi : es.findIdx? fun e => knd.is k e.key with
  | some i =>
    have hfk : valueAt kvs k = (es[i]?).map (·.val) := by rw [← hf k, findBy_of_findIdx?, hi]
    refine wpAny_bind (wpAny_dictEntries (s := { s with toks := s.toks + 1 }) ho hd ?_)
    cases he : es[i]? with
    | none =>
      exfalso
      have := Array.findIdx?_eq_some_iff_findIdx_eq.mp hi
      have hlt : i < es.size := this.1
      rw [Array.getElem?_eq_getElem hlt] at he
      exact nomatch he
    | some e =>
      rw [he] at hfk
      exact wpAny_bind (wpAny_rule (wpAny_pure (hthere e.val hfk)))
  | none =>
    have hfk : valueAt kvs k = none := by rw [← hf k, findBy_of_findIdx?, hi]
    have hnot : k ∉ kvs.map (·.1) := not_mem_of_findIdx_none (hidx ▸ hi)
    have hany : ¬ (kvs.any fun kv => decide (kv.1 = k)) = true := by
      rw [List.any_eq_true]; rintro ⟨kv, hkv, he⟩
      exact hnot (List.mem_map.mpr ⟨kv, hkv, of_decide_eq_true he⟩)
    refine wpAny_bind (wpAny_rule (wpAny_bind (wpAny_updateDictKeys (hz := hes) (s := { s with toks := s.toks + 1 }) ho hd (wpAny_pure (hnew hfk _ ⟨_, _, ep + 1, Heap.get?_update_self _ ho (Obj.isFreed_of_dict (Obj.data_mapDictKeys hd _)),
      hc.mapDictKeys _, Obj.data_mapDictKeys hd _, hk.push hkey _, ?_, ?_⟩ (Heap.SameBut.update ..))))))
    · rw [stored, if_neg hany]
      have := hp.append hkey (knd.hash k) dflt
      obtain ⟨l⟩ := es
      simpa using this
    · rw [stored, if_neg hany, List.map_append, List.nodup_append]
      refine ⟨hn, by simp, ?_⟩
      intro a ha b hb
      simp only [List.map_cons, List.map_nil, List.mem_singleton] at hb
      subst hb
      exact fun e => hnot (e ▸ ha)
theorem meets_setdefault {d : Addr} {k : κ} {key : Value} (hkey : knd.is k key = true) (hd : (d == sysModules) = false) (dflt : Value) :
    MeetsIn prog w (Builtin.«dict.setdefault» ⟨[.ref d, key, dflt], []⟩) (fun _ R s => ∃ kvs, s.heap.DictOf knd d kvs ∧ kvs.length ≤ sizeLine ∧
      (∀ v, valueAt kvs k = some v → R (.ok (.ret v)) { s with toks := s.toks + 1 }) ∧
      (valueAt kvs k = none → ∀ h', h'.DictOf knd d (stored kvs k dflt) → Heap.SameBut d s.heap h' → R (.ok (.ret dflt)) { s with heap := h', toks := s.toks + 1 })) :=
  .of_wp fun A R s ⟨kvs, hm, hz, h1, h2⟩ => by
    unfold Builtin.«dict.setdefault»
    refine wpAny_bind ?_
    unfold Builtin.Dict.keyAndDefault
    refine wpAny_bind (wpAny_notOrdered_dict hm.typeIs ?_)
    show wpAny _ _ (pure (d, key, some dflt)) _ _ s
    refine wpAny_pure ?_
    show wpAny _ _ (if (d == sysModules) = true then _ else (dictSetDefault d key dflt >>= _)) _ _ s
    rw [if_neg (by rw [hd]; exact Bool.false_ne_true)]
    exact wpAny_bind (setDefault_pairs hkey hm (fun v hv => wpAny_pure ⟨v, rfl, h1 v hv⟩) (fun hn h' hm' hs' => wpAny_pure ⟨dflt, rfl, h2 hn h' hm' hs'⟩) hz)
end
section
variable {X : Cx} {o e f : Expr} {apos cpos : Pos} {td ty tx : TE}
noncomputable def tDSetD (td ty tx : TE) : TE := fun σ H Q => td σ H fun x H1 => ∃ a, x = .ref a ∧ IsD H1 a ∧ ty σ H1 fun y H2 => tx σ H2 fun z H3 => ∃ kvs k, H3 a = some (.dK kvs) ∧ y = kV k ∧ kvs.length < sizeLine ∧
  (∀ v, valV kvs k = some v → Q v H3) ∧ (valV kvs k = none → Q z (upd H3 a (.dK (putK kvs k z))))
theorem pe_dsetd (ho : PE X o td) (he : PE X e ty) (hf : PE X f tx) (m : M2 X o "setdefault" apos e f cpos) : PE X (.Call (.Attribute o "setdefault" apos) [e, f] [] cpos) (tDSetD td ty tx) := by
  intro pins s σ H Q I h
  refine wpAny_Call_method m.base m.few m.line PySem.F.plainAttrs_dict PySem.F.slot_dict_setdefault PySem.F.type_dict_setdefault (thn (ho pins s σ H _ I h) fun u s1 ⟨x, H1, I1, rx, a, ex, d, q1⟩ => ?_)
  subst ex
  obtain rfl : u = Value.ref a := rx
  obtain ⟨t1, t2, _⟩ := isD_at I1 d
  refine ⟨t1, t2, ?_⟩
  rw [m.trees]
  refine Calls.callWith_builtin rfl (Calls.evalArgs_plain (Calls.spliced_cons (thn (he pins s1 σ H1 _ I1 q1) fun iv s2 ⟨y, H2, I2, ry, q2⟩ =>
    Calls.spliced_cons (thn (hf pins s2 σ H2 _ I2 q2) fun fv s3 ⟨z, H3, I3, rz, kvs, k, e3, ey, l3, qt, qn⟩ => Calls.spliced_nil ?_))))
  subst ey
  obtain ⟨zz, hd, vs, rel, dd⟩ := dk_of I3.hok e3
  have hz : vs.length ≤ sizeLine := by rw [← rel.length]; exact zz
  refine call_meetsIn PySem.F.slot_dict_setdefault dd.typeIs PySem.F.entry_dict_setdefault (PySem.F.args_dict_setdefault_3 _ _ _) (meets_setdefault (knd := mixKind X.prog X.w) (kV_is ry) hd fv) ⟨vs, dd, hz, fun v hv => ?_, fun hv h' dd' hs => ?_⟩
  · have rv := rel.val k
    rw [hv] at rv
    cases hk : valV kvs k with
    | none => rw [hk] at rv; cases rv
    | some v' =>
      rw [hk] at rv
      exact ⟨v', H3, I3.tok _, rv, qt v' hk⟩
  · have rv := rel.val k
    rw [hv] at rv
    cases hk : valV kvs k with
    | some v' => rw [hk] at rv; cases rv
    | none =>
      have hl : (putK kvs k z).length ≤ sizeLine := by have := length_putK kvs k z; omega
      have hex : ∃ q, h'.get? a = some q := let ⟨q, _, _, hq, _⟩ := dd'; ⟨q, hq⟩
      exact ⟨z, _, d_write I3 (by rw [e3]; exact True.intro) hs hex (dk_new hl hd (rel.put k rz) dd'), rz, qn hk⟩
noncomputable def rNotInLP : R2 := fun x y H Q => ∃ (p : Addr) (k : Nat × Nat) (xs : List V) (ks : List (Nat × Nat)), y = .ref p ∧ H p = some (.lst xs) ∧ IsP H k x ∧ PL H xs ks ∧ Q (.bl (!decide (k ∈ ks))) H
theorem op_notInLP (hu : X.A.units + 64 < cLine) : OpR X (compareOp .NotIn) rNotInLP := by
  intro pins s σ H x y v u Q I rx ry h
  obtain ⟨p, k, xs, ks, rfl, hp, hk, hL, q⟩ := h
  cases ry
  obtain ⟨its, rv, pl, hz⟩ := I.list (SqL.of hp)
  classical
  let e : Value → Bool := fun u => decide (∃ x', RelV x' u ∧ IsP H k x')
  have he : ∀ x' k' u, RelV x' u → IsP H k' x' → e u = decide (k' = k) := fun x' k' u r i => by
    show decide (∃ x', RelV x' u ∧ IsP H k x') = _
    by_cases c : k' = k
    · subst c
      rw [decide_eq_true ⟨x', r, i⟩, decide_eq_true rfl]
    · rw [decide_eq_false c, decide_eq_false]
      rintro ⟨x2, r2, i2⟩
      rw [RelV.inj r2 r] at i2
      exact c (IsP.inj i i2)
  refine SeqAt.notIn_listAt (items := its.toArray) e pl.isList (fun y hy => ?_) ?_
  · have hy' : y ∈ its := by simpa using hy
    obtain ⟨i, hi, ei⟩ := List.mem_iff_getElem.mp hy'
    have hx : ∃ x', xs[i]? = some x' := by
      have := rv.length
      exact ⟨xs[i]'(by omega), List.getElem?_eq_getElem (by omega)⟩
    obtain ⟨x', hx'⟩ := hx
    obtain ⟨u', hu', ru'⟩ := rv.get hx'
    rw [List.getElem?_eq_getElem hi, ei] at hu'
    cases hu'
    obtain ⟨k', hk', ik'⟩ := hL.get hx'
    rw [he x' k' y ru' ik']
    exact eqP I ik' hk ru' rx (by rw [in1_units]; omega)
  · have ea : its.toArray.any e = decide (k ∈ ks) := by
      rw [← PL.any hL rv he]
      simp
    rw [ea]
    exact ⟨.bl (!decide (k ∈ ks)), H, I, rfl, q⟩
end
end L2
namespace K08
open PySem L2
noncomputable def top (i : Nat) : Stmt := PySem.Challenge.pw_kinwords_k08_lists_of_sayings.main.body.getD i (.Pass ⟨0, 0, 0, 0⟩)
noncomputable abbrev sTie : Stmt := top 1
noncomputable abbrev sMembers : Stmt := top 2
noncomputable abbrev sKEvery : Stmt := top 3
noncomputable abbrev sKNo : Stmt := top 4
noncomputable abbrev sKThing : Stmt := top 5
noncomputable abbrev sKTied : Stmt := top 6
noncomputable abbrev sWithin0 : Stmt := top 7
noncomputable abbrev sEnds : Stmt := top 8
noncomputable abbrev sMakes : Stmt := top 9
noncomputable abbrev sKeeps : Stmt := top 11
noncomputable abbrev sBroken : Stmt := top 12
noncomputable abbrev sCell : Stmt := top 14
noncomputable abbrev sNext : Stmt := top 15
noncomputable abbrev sNames : Stmt := top 16
noncomputable abbrev sThings : Stmt := top 17
noncomputable abbrev sKind : Stmt := top 18
noncomputable abbrev sWorld : Stmt := top 19
noncomputable abbrev sCopy : Stmt := top 20
noncomputable abbrev sRow : Stmt := top 21
noncomputable abbrev sAlike : Stmt := top 22
noncomputable abbrev sPairsKept : Stmt := top 23
noncomputable abbrev sKept : Stmt := top 24
noncomputable abbrev sSaying : Stmt := top 25
noncomputable abbrev sLaw : Stmt := top 26
theorem small2 {n : Nat} (h : n ≤ 1000) : n ≤ sizeLine := Nat.le_of_lt (small1000 h)
theorem same_upd {H H' : Hp} {p : Addr} {o : HO} (h : Same H H') (hp : H p = none) : Same H (upd H' p o) := fun b u q => by
  rw [upd_ne (ne_of_none q hp)]
  exact h b u q
noncomputable def spCell (K : PySem.W.Frag) : Sp := fun vs H Q _ => ∃ (a : Addr) (ns : List Int) (i : Int), vs = [.ref a, .int i] ∧ SqL K H a (ns.map V.int) ∧ 0 ≤ i ∧ ∀ r : Int, Q (.int r) H
noncomputable def spNext : Sp := fun vs H Q _ => ∃ c k : Int, vs = [.int c, .int k] ∧ 0 ≤ k ∧ k ≤ 100 ∧ ∀ r : Int, 0 ≤ r → Q (.int r) H
section
variable {P : Program} {w : World} {K : PySem.W.Frag} {mg : Str → Option Value} {base : Heap} {f g e : Addr} {fd gd ed : FuncData}
theorem scCell : FnScope ["_law_script", "_law_k"] ["_law_script", "_law_k"] (defScope sCell) := ⟨rfl, rfl, rfl, by decide +kernel, rfl, by decide +kernel, by decide +kernel⟩
theorem ok_cell (F : Fun K "_law_cell" "_law_cell" sCell f fd) (ml : mg "len" = none) : FnOk P w K mg base CX0 1 f fd ["_law_script", "_law_k"] (spCell K) := by
  refine F.ok scCell (fun vs H Q E h => ?_) (fun cdv A outer s H vs Q E hr h => ?_)
  · obtain ⟨a, ns, i, rfl, _⟩ := h; rfl
  obtain ⟨a, ns, i, rfl, hS, h0, q⟩ := h
  refine ⟨_, @pss_cons _ _ _ _ _ (by exact ps_if (pt_cmpR op_lt (pv 1) (pe_callB call_len_seq rfl ml PySem.boot_len (pa_cons (pv 0) pa_nil)) (nomark _)) (pss_one (ps_ret (pe_ix ix_list (pv 0) (pv 1) (fun _ _ => rfl)))) pss_nil)
    (@pss_one _ _ _ (by exact ps_ret pe_int)), ?_⟩
  refine ⟨_, rfl, _, rfl, a, _, rfl, .inl hS, _, _, rfl, rfl, _, rfl, ite2 (fun h => ?_) (fun h => q 0)⟩
  have h' : i < ((ns.map V.int).length : Int) := of_decide_eq_true h
  rw [List.length_map] at h'
  have hi : i.toNat < ns.length := by omega
  have z : atI (ns.map V.int) ((i.toNat : Nat) : Int) = some (.int ns[i.toNat]) := atI_nat (by rw [List.getElem?_map, List.getElem?_eq_getElem hi]; rfl)
  rw [show ((i.toNat : Nat) : Int) = i by omega] at z
  exact ⟨_, rfl, _, rfl, a, _, i, _, rfl, rfl, hS, z, q _⟩
theorem scNext : FnScope ["_law_cell_here", "_law_k"] ["_law_cell_here", "_law_k"] (defScope sNext) := ⟨rfl, rfl, rfl, by decide +kernel, rfl, by decide +kernel, by decide +kernel⟩
theorem ok_next (F : Fun K "_law_next" "_law_next" sNext f fd) : FnOk P w K mg base CX0 1 f fd ["_law_cell_here", "_law_k"] spNext := by
  refine F.ok scNext (fun vs H Q E h => ?_) (fun cdv A outer s H vs Q E hr h => ?_)
  · obtain ⟨c, k, rfl, _⟩ := h; rfl
  obtain ⟨c, k, rfl, h0, h1, q⟩ := h
  refine ⟨_, @pss_one _ _ _ (by exact ps_ret (pe_op op_mod (pe_op op_add (pe_op op_add (pe_op op_mul (pv 0) (pe_op op_add pe_int (pe_op op_mul pe_int (pv 1)))) pe_int) (pv 1)) pe_int)), ?_⟩
  refine ⟨_, rfl, _, rfl, _, _, rfl, rfl, .inl ⟨by decide, by decide⟩, _, _, rfl, rfl, _, _, rfl, rfl, .inr ⟨by omega, by omega⟩, _, _, rfl, rfl, _, rfl, _, _, rfl, rfl, _, _, rfl, rfl, (show (0 : Int) < 2147483647 by decide), ?_⟩
  exact q _ (Int.emod_nonneg _ (by decide))
end
noncomputable def kept : List Str := ["anything", "nothing", "every", "no", "is", "tie", "within", "then", "makes", "both", "some"]
noncomputable abbrev az : Str := "abcdefghijklmnopqrstuvwxyz"
noncomputable def goodL (i : Nat) : Bool := i == 2 || i == 3 || i == 5 || i == 9 || i == 11 || i == 15 || i == 16 || i == 20 || i == 23 || i == 25
theorem good_out : ∀ w' ∈ kept, ∀ c ∈ w'.cps.toList, goodL (c - 97) = false := by decide +kernel
theorem good_not {z : Str} {c : Nat} (hc : c ∈ z.cps.toList) (hg : goodL (c - 97) = true) : inV (.str z) (kept.map V.str) = false := by
  cases e : inV (.str z) (kept.map V.str) with
  | false => rfl
  | true =>
    exfalso
    unfold inV at e
    rw [List.any_eq_true] at e
    obtain ⟨y, hy, e⟩ := e
    obtain ⟨w', hw, rfl⟩ := List.mem_map.mp hy
    have : w' = z := by simpa [eqV] using e
    subst this
    have := good_out w' hw c hc
    rw [this] at hg
    cases hg
noncomputable def gd (r j : Nat) : Bool := decide (2 ≤ j) && goodL ((r + j) % 26)
noncomputable def cnt (r : Nat) : Nat → Nat
  | 0 => 0
  | i + 1 => cnt r i + (if gd r i then 1 else 0)
theorem cnt_26 : ∀ r, r < 26 → 8 ≤ cnt r 26 := by decide +kernel
theorem az_at {i : Nat} (h : i < 26) : atI (az).cps.toList (i : Int) = some (97 + i) := by
  have e : (az).cps.toList = List.range' 97 26 := by decide +kernel
  rw [e]
  exact atI_nat (by rw [List.getElem?_range' h]; simp)
theorem az_len : (az).length = 26 := by decide +kernel
theorem flat_kept : (kept.map V.str).all flatV = true := by decide +kernel
noncomputable def spNames : Sp := fun vs H Q _ => ∃ c m : Int, vs = [.int c, .int m] ∧ 0 < m ∧ m ≤ 8 ∧
  ∀ (p : Addr) (H' : Hp) (ws : List Str), Same H H' → H p = none → H' p = some (.lst (ws.map V.str)) → (ws.length : Int) = m → (∀ z ∈ ws, z.length ≤ 40 ∧ inV (.str z) (kept.map V.str) = false ∧ 1 ≤ z.length) → Q (.ref p) H'
theorem mem_app {a b : Str} {c : Nat} (h : c ∈ a.cps.toList ∨ c ∈ b.cps.toList) : c ∈ (a ++ b).cps.toList := by
  rw [Str.cps_append]
  simpa using h
theorem cut_last {z : Str} (h : 2 ≤ z.length) : 1 ≤ (Txt.slice z none (some (-1))).length := by
  have e := congrArg List.length (slice_cps z none (some (-1)))
  have hz : z.cps.toList.length = z.length := by simp [Str.length]
  have hs : (Txt.slice z none (some (-1))).cps.toList.length = (Txt.slice z none (some (-1))).length := by simp [Str.length]
  rw [hs, List.length_take, List.length_drop, hz] at e
  have e1 : HT.sIx z.length z.length (some (-1)) = ((-1 : Int) + (z.length : Int)).toNat := by
    unfold HT.sIx
    exact if_pos (show (-1 : Int) < 0 by decide)
  have e2 : HT.sIx z.length 0 none = 0 := rfl
  rw [e1, e2] at e
  omega
section
variable {P : Program} {w : World} {K : PySem.W.Frag} {mg : Str → Option Value} {base : Heap} {f g e : Addr} {fd gd' ed : FuncData}
theorem scNames : FnScope ["_law_cell_here", "_law_many", "_law_letters", "_law_kept_here", "_law_size", "_law_word", "_law_k", "_law_at", "_law_names_here", "_law_shift", "_law_sign", "_law_name"] ["_law_cell_here", "_law_many"] (defScope sNames) := ⟨rfl, rfl, rfl, by decide +kernel, rfl, by decide +kernel, by decide +kernel⟩
theorem ok_names (F : Fun K "_law_names" "_law_names" sNames f fd) (ml : mg "len" = none) (mr : mg "range" = none) (mm : mg "min" = none) : FnOk P w K mg base CX0 1 f fd ["_law_cell_here", "_law_many"] spNames := by
  refine F.ok scNames (fun vs H Q E h => ?_) (fun cdv A outer s H vs Q E hr h => ?_)
  · obtain ⟨c, m, rfl, _⟩ := h; rfl
  obtain ⟨c, m, rfl, hm0, hm8, q⟩ := h
  refine ⟨_, @pss_cons _ _ _ _ _ (by exact ps_set (i := 2) scNames.nd rfl (Or.inl rfl) pe_str)
    (@pss_cons _ _ _ _ _ (by exact @ps_set _ _ 3 _ _ _ _ scNames.nd rfl (Or.inl rfl) (@pe_lst _ _ _ _ (@pa_strs _ _ kept rfl)) rfl (.inl rfl))
    (@pss_cons _ _ _ _ _ (by exact ps_set (i := 4) scNames.nd rfl (Or.inl rfl) (pe_op op_add pe_int (pe_op op_mod (pv 0) pe_int)))
    (@pss_cons _ _ _ _ _ (by exact ps_set (i := 5) scNames.nd rfl (Or.inl rfl) pe_str)
    (@pss_mid _ _ _ _ _ (by exact ps_for PassesOwn.never rfl (pi_range1 rfl mr (pa_cons (pv 4) pa_nil)) (pg_name (i := 6) scNames.nd rfl (Or.inl rfl)) (pss_one (ps_set (i := 5) scNames.nd rfl (Or.inl rfl) (pe_op op_add_str (pv 5) (pe_ix ix_str (pv 2) (pe_op op_mod (pe_op op_add (pe_op op_fdiv (pv 0) pe_int) (pe_op op_mul (pv 6) (pe_op op_fdiv (pv 0) pe_int))) pe_int) (fun _ _ => rfl))))))
    (@pss_cons _ _ _ _ _ (by exact ps_set (i := 7) scNames.nd rfl (Or.inl rfl) (pe_op op_mod (pe_op op_fdiv (pv 0) pe_int) (pv 4)))
    (@pss_cons _ _ _ _ _ (by exact ps_set (i := 8) scNames.nd rfl (Or.inl rfl) (pe_lst pa_nil))
    (@pss_cons _ _ _ _ _ (by exact ps_for PassesOwn.never rfl (pi_range1 rfl mr (pa_cons pe_int pa_nil)) (pg_name (i := 9) scNames.nd rfl (Or.inl rfl)) (@pss_cons _ _ _ _ _ (by exact ps_set (i := 10) scNames.nd rfl (Or.inl rfl) (pe_ix ix_str (pv 2) (pe_op op_mod (pe_op op_add (pe_op op_fdiv (pv 0) pe_int) (pv 9)) pe_int) (fun _ _ => rfl))) (@pss_cons _ _ _ _ _ (by exact ps_set (i := 11) scNames.nd rfl (Or.inl rfl) (pe_op op_add_str (pe_op op_add_str (pe_slice sl_str (pv 5) po_none (po_some (pv 7))) (pv 10)) (pe_slice sl_str (pv 5) (po_some (pe_op op_add (pv 7) pe_int)) po_none))) (@pss_mid _ _ _ _ _ (by exact ps_ifN (pt_cmpR op_eq (pe_op op_mod (pe_op op_fdiv (pv 0) pe_int) pe_int) pe_int (nomark _)) (pss_one (ps_set (i := 11) scNames.nd rfl (Or.inl rfl) (pe_ix ix_list (pe_lst (pa_cons (pv 5) (pa_cons (pe_slice sl_str (pv 5) po_none (po_some (pe_un un_neg pe_int))) (pa_cons (pe_op op_add_str (pv 5) (pv 10)) pa_nil)))) (pe_callB (call_min2 rfl) rfl mm PyProof.Rows.boot_min (pa_cons (pv 9) (pa_cons pe_int pa_nil))) (fun _ _ => rfl)))) pss_nil) (@pss_one _ _ _ (by exact ps_if (PW.pt (pw_and (pt_cmpR op_lt (pe_callB call_len_seq rfl ml PySem.boot_len (pa_cons (pv 8) pa_nil)) (pv 1) (nomark _)) (pw_and1 (pt_cmpR op_notIn_seq (pv 11) (pv 3) rfl)))) (pss_one (ps_expr (pe_bm PySem.F.plainAttrs_list PySem.F.slot_list_append PySem.F.type_list_append mt_append (pv 8) (pa_cons (pv 11) pa_nil)))) pss_nil))))))
    (@pss_one _ _ _ (by exact ps_ret (pv 8)))))))))), ?_⟩
  have m10 := Int.emod_nonneg c (show (10 : Int) ≠ 0 by decide)
  have m11 := Int.emod_lt_of_pos c (show (0 : Int) < 10 by decide)
  refine ⟨(by show 11 ≤ sizeLine; exact small2 (by decide)), fun lk hlk => ?_⟩
  refine ⟨_, rfl, _, _, rfl, rfl, (show (0 : Int) < 10 by decide), _, _, rfl, rfl, ?_⟩
  refine ⟨fun σ H' => H' = upd H lk (.lst (kept.map V.str)) ∧ ∃ (z : Str) (o6 : Option V), σ = [some (.int c), some (.int m), some (.str az), some (.ref lk), some (.int (2 + c % 10)), some (.str z), o6, none, none, none, none, none] ∧ z.length ≤ 12 ∧ 2 ≤ z.length, ?_, ?_⟩
  · refine ⟨_, rfl, _, rfl, by omega, by omega, ?_⟩
    refine for_range (fun i σ H' => H' = upd H lk (.lst (kept.map V.str)) ∧ ∃ (z : Str) (o6 : Option V), σ = [some (.int c), some (.int m), some (.str az), some (.ref lk), some (.int (2 + c % 10)), some (.str z), o6, none, none, none, none, none] ∧ z.length = i) ⟨rfl, ⟨#[]⟩, none, rfl, rfl⟩ ?_ ?_
    · rintro i σ H' hi ⟨rfl, z, o6, rfl, hz⟩
      have n0 := Int.emod_nonneg (c / 10 + (0 + (i : Int)) * (c / 260)) (show (26 : Int) ≠ 0 by decide)
      have n1 := Int.emod_lt_of_pos (c / 10 + (0 + (i : Int)) * (c / 260)) (show (0 : Int) < 26 by decide)
      have za := az_at (i := ((c / 10 + (0 + (i : Int)) * (c / 260)) % 26).toNat) (by omega)
      rw [show ((((c / 10 + (0 + (i : Int)) * (c / 260)) % 26).toNat : Nat) : Int) = (c / 10 + (0 + (i : Int)) * (c / 260)) % 26 by omega] at za
      refine ⟨_, rfl, _, rfl, _, rfl, _, _, rfl, rfl, ⟨by decide, by decide⟩, _, rfl, _, rfl, _, _, rfl, rfl, ⟨by decide, by decide⟩, _, _, rfl, rfl, .inl ⟨by omega, by omega⟩, _, _, rfl, rfl, _, _, rfl, rfl, (show (0 : Int) < 26 by decide), az, _, _, rfl, rfl, small2 (by rw [az_len]; decide), za, z, _, rfl, rfl, ?_, rfl, _, _, rfl, ?_⟩
      · show z.length + 1 ≤ sizeLine
        exact small2 (by omega)
      · rw [Str.length_append, hz]; rfl
    · rintro σ H' ⟨rfl, z, o6, rfl, hz⟩
      exact ⟨rfl, z, o6, rfl, by omega, by omega⟩
  rintro σ H' ⟨rfl, z, o6, rfl, hz, hz2⟩
  refine ⟨_, rfl, _, _, rfl, rfl, ⟨by decide, by decide⟩, _, rfl, _, _, rfl, rfl, (show (0 : Int) < 2 + c % 10 by omega), Nat.zero_le _, fun ln hln => ?_⟩
  have a0 := Int.emod_nonneg (c / 3) (show (2 + c % 10 : Int) ≠ 0 by omega)
  have a1 := Int.emod_lt_of_pos (c / 3) (show (0 : Int) < 2 + c % 10 by omega)
  obtain ⟨at', hat⟩ : ∃ at' : Int, at' = c / 3 % (2 + c % 10) := ⟨_, rfl⟩
  rw [← hat] at a0 a1
  have hne : lk ≠ ln := ne_of_none (upd_same (H := H) (a := lk)) hln
  have s1 : Same H (upd (upd H lk (.lst (kept.map V.str))) ln (.lst [])) := (same_new hlk _).trans (same_new hln _)
  have hlnH : H ln = none := by rw [upd_ne (Ne.symm hne)] at hln; exact hln
  have r0 := Int.emod_nonneg (c / 10) (show (26 : Int) ≠ 0 by decide)
  have r1 := Int.emod_lt_of_pos (c / 10) (show (0 : Int) < 26 by decide)
  refine ⟨26, rfl, by decide, by decide, for_range (fun i σ H' => ∃ (ws : List Str) (o6 o9 o10 o11 : Option V), Same H H' ∧ H' lk = some (.lst (kept.map V.str)) ∧ H' ln = some (.lst (ws.map V.str)) ∧
      σ = [some (.int c), some (.int m), some (.str az), some (.ref lk), some (.int (2 + c % 10)), some (.str z), o6, some (.int at'), some (.ref ln), o9, o10, o11] ∧
      (ws.length : Int) ≤ m ∧ min m (cnt (c / 10 % 26).toNat i : Int) ≤ (ws.length : Int) ∧ ∀ z ∈ ws, z.length ≤ 40 ∧ inV (.str z) (kept.map V.str) = false ∧ 1 ≤ z.length)
    ⟨[], o6, none, none, none, s1, by rw [upd_ne hne]; exact upd_same, upd_same, by subst hat; rfl, by simp; omega, by simp [cnt]; omega, fun z hz => (nomatch hz)⟩ ?_ ?_⟩
  · rintro i σ H' hi ⟨ws, o6, o9, o10, o11, sm, ek, en, rfl, h1, h2, h3⟩
    have n0 := Int.emod_nonneg (c / 10 + (0 + (i : Int))) (show (26 : Int) ≠ 0 by decide)
    have n1 := Int.emod_lt_of_pos (c / 10 + (0 + (i : Int))) (show (0 : Int) < 26 by decide)
    obtain ⟨j, hj, ej⟩ : ∃ j : Nat, j < 26 ∧ (c / 10 + (0 + (i : Int))) % 26 = (j : Int) := ⟨((c / 10 + (0 + (i : Int))) % 26).toNat, by omega, by omega⟩
    have hjr : ((c / 10 % 26).toNat + i) % 26 = j := by omega
    have za := az_at hj
    rw [← ej] at za
    have l1 := Txt.slice_le z none (some at')
    have l2 := Txt.slice_le z (some (at' + 1)) none
    have l3 := Txt.slice_le z none (some (-1))
    have l4 := cut_last (z := z) hz2
    refine ⟨_, rfl, _, rfl, _, _, rfl, rfl, ⟨by decide, by decide⟩, _, rfl, _, _, rfl, rfl, _, _, rfl, rfl, (show (0 : Int) < 26 by decide), az, _, _, rfl, rfl, small2 (by rw [az_len]; decide), za, ?_⟩
    refine ⟨_, rfl, _, rfl, at', rfl, z, rfl, small2 (by omega), _, rfl, _, _, rfl, rfl, small2 (by show _ + 1 ≤ 1000; omega), _, rfl, _, rfl, _, _, rfl, rfl, _, rfl, z, rfl, small2 (by omega), _, _, rfl, rfl, small2 (by rw [Str.length_append]; show _ + 1 + _ ≤ 1000; omega), ?_⟩
    refine ⟨fun σ' H2 => Same H' H2 ∧ ∃ (y : Str), σ' = [some (.int c), some (.int m), some (.str az), some (.ref lk), some (.int (2 + c % 10)), some (.str z), o6, some (.int at'), some (.ref ln), some (.int (0 + (i : Int))), some (.str ⟨#[97 + j]⟩), some (.str y)] ∧ y.length ≤ 40 ∧ 1 ≤ y.length ∧ (2 ≤ i → 97 + j ∈ y.cps.toList), ?_, ?_⟩
    · refine ⟨fun H2 => H2 = H', ⟨_, rfl, _, _, rfl, rfl, ⟨by decide, by decide⟩, _, _, rfl, rfl, (show (0 : Int) < 3 by decide), rfl, _, rfl, rfl⟩, ?_⟩
      rintro H2 rfl
      refine ⟨?_, Same.refl _, _, rfl, ?_, by rw [Str.length_append, Str.length_append]; show 1 ≤ _ + 1 + _; omega, fun _ => mem_app (.inl (mem_app (.inr (by simp))))⟩
      · refine ⟨_, rfl, _, rfl, _, rfl, -1, rfl, z, rfl, small2 (by omega), _, rfl, _, rfl, z, _, rfl, rfl, small2 (by show _ + 1 ≤ 1000; omega), small2 (by show 3 ≤ 1000; decide), fun p hp => ?_⟩
        refine ⟨_, rfl, _, _, rfl, ?_⟩
        have mn : ∃ (u : Nat) (y : Str), (if (2 : Int) < 0 + (i : Int) then (2 : Int) else 0 + (i : Int)) = (u : Int) ∧ ([V.str z, V.str (Txt.slice z none (some (-1))), V.str (z ++ ⟨#[97 + j]⟩)] : List V)[u]? = some (.str y) ∧ y.length ≤ 40 ∧ 1 ≤ y.length ∧ (2 ≤ i → 97 + j ∈ y.cps.toList) := by
          rcases Nat.lt_or_ge i 2 with g | g
          · match i, g with
            | 0, _ => exact ⟨0, z, by decide, rfl, by omega, by omega, fun k => absurd k (by decide)⟩
            | 1, _ => exact ⟨1, _, by decide, rfl, by omega, by omega, fun k => absurd k (by decide)⟩
          · refine ⟨2, z ++ ⟨#[97 + j]⟩, ?_, rfl, by rw [Str.length_append]; show _ + 1 ≤ 40; omega, by rw [Str.length_append]; show 1 ≤ _ + 1; omega, fun _ => mem_app (.inr (by simp))⟩
            split <;> omega
        obtain ⟨u, y, eu, ey, ly, ly1, gy⟩ := mn
        refine ⟨p, _, _, _, rfl, rfl, SqL.of upd_same, by rw [eu]; exact atI_nat ey, same_new hp _, y, rfl, ly, ly1, gy⟩
      · rw [Str.length_append, Str.length_append]; show _ + 1 + _ ≤ 40; omega
    rintro σ' H2 ⟨sm2, y, rfl, ly, ly1, gy⟩
    have ek2 := sm2 _ _ ek
    have en2 := sm2 _ _ en
    have good : gd (c / 10 % 26).toNat i = true → inV (.str y) (kept.map V.str) = false := fun g => by
      unfold gd at g
      rw [Bool.and_eq_true, hjr] at g
      exact good_not (gy (of_decide_eq_true g.1)) (by rw [Nat.add_sub_cancel_left]; exact g.2)
    refine ⟨_, rfl, ln, _, rfl, .inl (SqL.of en2), _, rfl, _, _, rfl, rfl, _, rfl, ?_⟩
    rw [List.length_map]
    refine ite2 (fun c1 => ?_) (fun c1 => ?_)
    · have c1' : (ws.length : Int) < m := of_decide_eq_true c1
      refine ⟨_, rfl, _, rfl, lk, _, rfl, .inl (SqL.of ek2), rfl, flat_kept, _, rfl, ?_⟩
      show if (!inV (.str y) (kept.map V.str)) = true then _ else _
      refine ite2 (fun c2 => ?_) (fun c2 => ?_)
      · have c2' : inV (.str y) (kept.map V.str) = false := by simpa using c2
        refine ⟨_, rfl, .inl ⟨rfl, _, SqL.of en2⟩, _, rfl, ln, _, .str y, rfl, rfl, en2, small1000 (by rw [List.length_map]; omega), ws ++ [y], o6, _, _, _, same_upd (sm.trans sm2) hlnH, by rw [upd_ne hne]; exact ek2, by rw [upd_same, List.map_append]; rfl, rfl, ?_, ?_, ?_⟩
        · rw [List.length_append]; show ((ws.length + 1 : Nat) : Int) ≤ m; omega
        · rw [List.length_append]
          show min m ((cnt _ i + (if gd _ i then 1 else 0) : Nat) : Int) ≤ ((ws.length + 1 : Nat) : Int)
          split <;> omega
        · intro z' hz'
          rcases List.mem_append.mp hz' with k | k
          · exact h3 z' k
          · rw [List.mem_singleton.mp k]; exact ⟨ly, c2', ly1⟩
      · have c2' : inV (.str y) (kept.map V.str) = true := by simpa using c2
        refine ⟨ws, o6, _, _, _, sm.trans sm2, ek2, en2, rfl, h1, ?_, h3⟩
        have ng : gd (c / 10 % 26).toNat i = false := by
          cases g : gd (c / 10 % 26).toNat i with
          | false => rfl
          | true => rw [good g] at c2'; cases c2'
        show min m ((cnt _ i + (if gd _ i then 1 else 0) : Nat) : Int) ≤ (ws.length : Int)
        rw [ng]
        simpa using h2
    · have c1' : ¬ (ws.length : Int) < m := fun k => c1 (decide_eq_true k)
      refine iteF ⟨ws, o6, _, _, _, sm.trans sm2, ek2, en2, rfl, h1, ?_, h3⟩
      omega
  · rintro σ H' ⟨ws, o6, o9, o10, o11, sm, ek, en, rfl, h1, h2, h3⟩
    have h26 := cnt_26 (c / 10 % 26).toNat (by omega)
    have h2' : min m (cnt (c / 10 % 26).toNat 26 : Int) ≤ (ws.length : Int) := h2
    exact ⟨_, rfl, q ln H' ws sm hlnH en (by clear h2; omega) h3⟩
end
end K08
namespace L2
open PySem PySem.Spec PyProof.Rows
theorem call_dictD {X : Cx} : CallR X (.type "dict") (fun xs H Q => ∃ a kvs, xs = [V.ref a] ∧ H a = some (.dK kvs) ∧ ∀ p, H p = none → Q (.ref p) (upd H p (.dK kvs))) := by
  intro pins s σ H xs us Q I r h
  obtain ⟨a, kvs, rfl, ha, q⟩ := h
  obtain ⟨u, rfl, ru⟩ := r.one
  cases ru
  exact d_copyOf I (.inl ha) fun p s' hp I' => ⟨.ref p, _, I', rfl, q p hp⟩
theorem das_ints {H : Hp} : ∀ {ps : List Nat} {xs : List V}, Das H (ps.map fun (n : Nat) => Dat.int (n : Int)) xs → xs = ps.map fun (n : Nat) => V.int (n : Int)
  | [], _, h => h
  | p :: ps, _, ⟨x, r, e, h, q⟩ => by
    rw [e, show x = .int (p : Int) from h, das_ints q]
    rfl
theorem ints_das {H : Hp} : ∀ (ps : List Nat), Das H (ps.map fun (n : Nat) => Dat.int (n : Int)) (ps.map fun (n : Nat) => V.int (n : Int))
  | [] => rfl
  | p :: ps => ⟨_, _, rfl, rfl, ints_das ps⟩
end L2
namespace K08
open PySem L2
theorem kit_str_str (K : PySem.W.Frag) : PySem.W.kitOne K (.type "str") (.type "str") = some true := rfl
theorem dec_ne {a b : Str} (h : a ≠ b) : decide (V.str a = V.str b) = false := by
  rw [dec_str]; exact beq_eq_false_iff_ne.mpr h
theorem none_of_same {H H' : Hp} {p : Addr} (h : Same H H') (hp : H' p = none) : H p = none := by
  cases c : H p with
  | none => rfl
  | some oo => rw [h _ _ c] at hp; cases hp
theorem kinds_get {H : Hp} {W : Wd} {lk : List (Key × V)} {x : Str} (g : Dak H W.kindsK lk) (nd : W.nd) : (∃ (ms : List Nat) (a : Addr), (x, ms) ∈ W.kinds ∧ valV lk (.inr x) = some (.ref a) ∧ H a = some (.lst (ms.map fun (n : Nat) => V.int (n : Int)))) ∨ (x ∉ W.kinds.map (·.1) ∧ valV lk (.inr x) = none) := by
  by_cases h : x ∈ W.kinds.map (·.1)
  · obtain ⟨⟨k, ms⟩, hm, rfl⟩ := List.mem_map.mp h
    obtain ⟨v, h1, h2⟩ := g.val (k := k) (d := natsD ms) (by rw [Wd.kindsK, keys_map]; exact nd.k) (List.mem_map.mpr ⟨(k, ms), hm, rfl⟩)
    have h2' : ∃ p xs, v = .ref p ∧ H p = some (.lst xs) ∧ Das H (ms.map fun (n : Nat) => Dat.int (n : Int)) xs := h2
    obtain ⟨a, xs, rfl, h3, h4⟩ := h2'
    rw [das_ints h4] at h3
    exact .inl ⟨ms, a, hm, h1, h3⟩
  · exact .inr ⟨h, g.none (by rw [Wd.kindsK, keys_map]; exact h)⟩
noncomputable abbrev natV (ms : List Nat) : List V := ms.map fun (n : Nat) => V.int (n : Int)
theorem flat_nat (ms : List Nat) : (natV ms).all flatV = true := by
  rw [List.all_eq_true]
  intro x hx
  obtain ⟨n, _, rfl⟩ := List.mem_map.mp hx
  rfl
theorem in_nat (n : Nat) (ms : List Nat) : inV (.int (n : Int)) (natV ms) = decide (n ∈ ms) := by
  unfold inV
  rw [Bool.eq_iff_iff, List.any_eq_true, decide_eq_true_eq]
  constructor
  · rintro ⟨y, hy, e⟩
    obtain ⟨m, hm, rfl⟩ := List.mem_map.mp hy
    have : (m : Int) = (n : Int) := by simpa [eqV] using e
    have : m = n := by omega
    subst this
    exact hm
  · intro h
    exact ⟨_, List.mem_map.mpr ⟨n, h, rfl⟩, by simp [eqV]⟩
noncomputable def Rest (d : Addr) (H H' : Hp) : Prop := ∀ b u, b ≠ d → H b = some u → H' b = some u
noncomputable def Lists (H : Hp) (l : List (Key × V)) (xss : List (List V)) : Prop := Paired (fun kv xs => ∃ a, kv.2 = .ref a ∧ H a = some (.lst xs)) l xss
theorem Lists.get {H : Hp} : ∀ {l : List (Key × V)} {xss : List (List V)} {i : Nat} {kv : Key × V}, Lists H l xss → l[i]? = some kv → ∃ xs a, xss[i]? = some xs ∧ kv.2 = .ref a ∧ H a = some (.lst xs)
  | _, _, _, _, .nil, h => by simp at h
  | _, _, 0, _, .cons (b := b) r _, h => by
    simp at h; subst h
    obtain ⟨a, h1, h2⟩ := r
    exact ⟨b, a, rfl, h1, h2⟩
  | _, _, i + 1, kv, .cons _ t, h => by
    obtain ⟨xs, a, h1, h2, h3⟩ := Lists.get (i := i) t (by simpa using h)
    exact ⟨xs, a, by simpa using h1, h2, h3⟩
theorem Lists.imp {H H' : Hp} (h : ∀ a xs, H a = some (.lst xs) → H' a = some (.lst xs)) {l : List (Key × V)} {xss : List (List V)} (q : Lists H l xss) : Lists H' l xss :=
  Paired.imp' (fun _ _ ⟨a, e, z⟩ => ⟨a, e, h _ _ z⟩) q
theorem Lists.snoc {H : Hp} : ∀ {l : List (Key × V)} {xss : List (List V)} {k : Key} {a : Addr} {xs : List V}, Lists H l xss → H a = some (.lst xs) → Lists H (l ++ [(k, .ref a)]) (xss ++ [xs])
  | _, _, _, _, _, .nil, h => .cons ⟨_, rfl, h⟩ .nil
  | _, _, _, _, _, .cons r t, h => .cons r (Lists.snoc t h)
theorem Lists.len {H : Hp} {l : List (Key × V)} {xss : List (List V)} (h : Lists H l xss) : l.length = xss.length := Paired.length h
theorem at_key : ∀ {l : List (Key × V)} {i : Nat} {kv : Key × V}, (l.map (·.1)).Nodup → l[i]? = some kv → valV l kv.1 = some kv.2
  | [], _, _, _, h => by simp at h
  | a :: l, 0, kv, _, h => by
    simp at h; subst h
    exact valV_pos rfl
  | a :: l, i + 1, kv, nd, h => by
    rw [List.map_cons, List.nodup_cons] at nd
    have h' : l[i]? = some kv := by simpa using h
    rw [valV_neg]
    · exact at_key nd.2 h'
    · intro z
      exact nd.1 (by rw [z]; exact List.mem_map.mpr ⟨kv, List.mem_of_getElem? h', rfl⟩)
theorem not_yet {l : List (Key × V)} {i : Nat} {kv : Key × V} (nd : (l.map (·.1)).Nodup) (h : l[i]? = some kv) : kv.1 ∉ (l.take i).map (·.1) := by
  have hi : i < l.length := (List.getElem?_eq_some_iff.mp h).1
  have e : l = l.take i ++ kv :: l.drop (i + 1) := by
    conv => lhs; rw [← List.take_append_drop i l]
    congr 1
    rw [List.drop_eq_getElem_cons hi]
    congr 1
    exact (List.getElem?_eq_some_iff.mp h).2
  rw [e, List.map_append, List.map_cons, List.nodup_append] at nd
  intro hm
  exact nd.2.2 _ hm _ List.mem_cons_self rfl
theorem val_none : ∀ {l : List (Key × V)} {k : Key}, k ∉ l.map (·.1) → valV l k = none
  | [], _, _ => rfl
  | a :: l, k, h => by
    rw [List.map_cons, List.mem_cons, not_or] at h
    rw [valV_neg]
    · exact val_none h.2
    · exact fun z => h.1 z.symm
theorem das_same {H H' : Hp} (t : Tups H H') : ∀ {qs : List (Nat × Nat)} {xs : List V}, Das H (qs.map pairD) xs → Das H' (qs.map pairD) xs
  | [], _, h => h
  | q :: qs, _, ⟨x, r, e, h, h2⟩ => by
    obtain ⟨p, ys, e1, h3, y, s, e2, h4, y2, s2, e3, h5, h6⟩ := (show ∃ p xs, x = .ref p ∧ H p = some (.tup xs) ∧ Das H [.int (q.1 : Int), .int (q.2 : Int)] xs from h)
    exact ⟨x, r, e, (show ∃ p xs, x = .ref p ∧ H' p = some (.tup xs) ∧ Das H' [.int (q.1 : Int), .int (q.2 : Int)] xs from ⟨p, ys, e1, t _ _ h3, y, s, e2, h4, y2, s2, e3, h5, h6⟩), das_same t h2⟩
theorem das_ints2 {H H' : Hp} {ps : List Nat} {xs : List V} (h : Das H (ps.map fun (n : Nat) => Dat.int (n : Int)) xs) : Das H' (ps.map fun (n : Nat) => Dat.int (n : Int)) xs := by
  rw [das_ints h]; exact ints_das ps
theorem lists_of {α : Type} {H : Hp} (D : α → List Dat) : ∀ {ks : List (Str × α)} {l : List (Key × V)}, Dak H (ks.map fun x => (x.1, Dat.lst (D x.2))) l → ∃ xss, Lists H l xss ∧ Paired (fun (x : Str × α) xs => Das H (D x.2) xs) ks xss
  | [], _, h => by
    have e : _ = [] := h
    subst e
    exact ⟨[], .nil, .nil⟩
  | (k, d) :: ks, _, ⟨x, r, e, h, q⟩ => by
    subst e
    obtain ⟨a, xs, e1, h1, h2⟩ := (show ∃ p xs, x = .ref p ∧ H p = some (.lst xs) ∧ Das H (D d) xs from h)
    obtain ⟨xss, g1, g2⟩ := lists_of D q
    exact ⟨xs :: xss, .cons ⟨a, e1, h1⟩ g1, .cons h2 g2⟩
theorem of_lists {α : Type} {H H' : Hp} (D : α → List Dat) (hD : ∀ x xs, Das H (D x) xs → Das H' (D x) xs) : ∀ {ks : List (Str × α)} {l : List (Key × V)} {xss : List (List V)}, l.map (·.1) = ks.map (fun x => Sum.inr x.1) → Lists H' l xss → Paired (fun (x : Str × α) xs => Das H (D x.2) xs) ks xss → Dak H' (ks.map fun x => (x.1, Dat.lst (D x.2))) l
  | [], l, _, hk, _, _ => by
    have : l = [] := by simpa using hk
    subst this
    rfl
  | (k, d) :: ks, [], _, hk, _, _ => by simp at hk
  | (k, d) :: ks, kv :: l, _, hk, .cons r t, .cons h q => by
    simp only [List.map_cons, List.cons.injEq] at hk
    obtain ⟨a, e, ha⟩ := r
    obtain ⟨k0, v0⟩ := kv
    have e1 : k0 = Sum.inr k := hk.1
    have e2 : v0 = .ref a := e
    subst e1; subst e2
    exact ⟨.ref a, l, rfl, (show ∃ p xs, V.ref a = .ref p ∧ H' p = some (.lst xs) ∧ Das H' (D d) xs from ⟨a, _, rfl, ha, hD d _ h⟩), of_lists D hD hk.2 t q⟩
theorem keys_of {H : Hp} {ks : List (Str × Dat)} {l : List (Key × V)} (h : Dak H ks l) (nd : (ks.map (·.1)).Nodup) : (l.map (·.1)).Nodup := by
  rw [h.keys]
  have e : ks.map (fun k => (Sum.inr k.1 : Key)) = (ks.map (·.1)).map Sum.inr := by rw [List.map_map]; rfl
  rw [e]
  exact List.Pairwise.map (R := (· ≠ ·)) Sum.inr (fun a b hab => fun z => hab (Sum.inr.inj z)) nd
noncomputable def spCopy : Sp := fun vs H Q _ => ∃ (v : V) (W : Wd), vs = [v] ∧ IsW H W v ∧ W.nd ∧ W.kinds.length ≤ 100 ∧ W.pairs.length ≤ 100 ∧ ∀ v' H', Same H H' → IsW H' W v' → Q v' H'
structure Cp (H : Hp) (d dn : Addr) (o : Obj) (lk : List (Key × V)) (xss : List (List V)) (i : Nat) (H' : Hp) (l : List (Key × V)) : Prop where
  rest : Rest d H H'
  fz : H' d = some (.frz o (.dK lk))
  nw : H' dn = some (.dK l)
  keys : l.map (·.1) = (lk.take i).map (·.1)
  ls : Lists H' l (xss.take i)
theorem Cp.step {H H' : Hp} {d dn : Addr} {o : Obj} {lk l : List (Key × V)} {xss : List (List V)} {i : Nat} {kv : Key × V} {r : Addr} {xs : List V} (C : Cp H d dn o lk xss i H' l) (hdn : H dn = none) (nd : (lk.map (·.1)).Nodup) (hk : lk[i]? = some kv) (hx : xss[i]? = some xs) (hr : H' r = none) :
    Cp H d dn o lk xss (i + 1) (upd (upd H' r (.lst xs)) dn (.dK (putK l kv.1 (.ref r)))) (putK l kv.1 (.ref r)) := by
  have hnd : dn ≠ d := ne_of C.nw C.fz (by intro z; cases z)
  have hdr : d ≠ r := ne_of_none C.fz hr
  have hnr : dn ≠ r := ne_of_none C.nw hr
  have hnew : putK l kv.1 (.ref r) = l ++ [(kv.1, .ref r)] := putK_new _ (val_none (by rw [C.keys]; exact not_yet nd hk))
  rw [hnew]
  refine ⟨fun b u hb q => ?_, ?_, upd_same, ?_, ?_⟩
  · have h1 : b ≠ dn := ne_of_none q hdn
    rw [upd_ne h1, upd_ne (ne_of_none (C.rest b u hb q) hr)]
    exact C.rest b u hb q
  · rw [upd_ne (Ne.symm hnd), upd_ne hdr]; exact C.fz
  · rw [List.map_append, C.keys, List.take_add_one, hk, List.map_append]; rfl
  · rw [List.take_add_one, hx]
    refine Lists.snoc (C.ls.imp fun a ys ha => ?_) ?_
    · have h1 : a ≠ dn := ne_of ha C.nw (by intro z; cases z)
      rw [upd_ne h1, upd_ne (ne_of_none ha hr)]
      exact ha
    · rw [upd_ne (Ne.symm hnr)]; exact upd_same
section
variable {P : Program} {w : World} {K : PySem.W.Frag} {mg : Str → Option Value} {base : Heap} {f g e d a1 a2 a3 a4 : Addr} {fd gd' ed dd d1 d2 d3 d4 : FuncData}
theorem scCopy : FnScope ["_law_world_here", "_law_kinds", "_law_name", "_law_pairs", "_law_tie"] ["_law_world_here"] (defScope sCopy) := ⟨rfl, rfl, rfl, by decide +kernel, rfl, by decide +kernel, by decide +kernel⟩
theorem ok_copy (F : Fun K "_law_copy" "_law_copy" sCopy f fd) (mls : mg "list" = none) (mdi : mg "dict" = none) : FnOk P w K mg base CX0 1 f fd ["_law_world_here"] spCopy := by
  refine F.ok scCopy (fun vs H Q E h => ?_) (fun cdv A outer s H vs Q E hr h => ?_)
  · obtain ⟨v, W, rfl, _⟩ := h; rfl
  obtain ⟨v, W, rfl, hW, nd, lk1, lk2, q⟩ := h
  have hu : (A.deeper (PyProof.Rows.envOfC "_law_copy" (defScope sCopy) s.heap.objs.size f cdv)).units + 1 < cLine := by have := hr.un; omega
  refine ⟨_, @pss_cons _ _ _ _ _ (by exact ps_set (i := 1) scCopy.nd rfl (Or.inl rfl) pe_dnewK)
    (@pss_cons _ _ _ _ _ (by exact ps_thaw (ps_for PassesOwn.never rfl (pi_dict (pe_ix ix_tup (pv 0) pe_int (fun _ _ => rfl))) (pg_name (i := 2) scCopy.nd rfl (Or.inl rfl)) (@pss_one _ _ _ (by exact ps_dput hu (pv 1) (pv 2) (pe_callTy call_list_of rfl mls PyProof.Rows.boot_list (pa_cons (pe_dget hu (pe_ix ix_tup (pv 0) pe_int (fun _ _ => rfl)) (pv 2) (fun _ _ => rfl)) pa_nil)) rfl))))
    (@pss_cons _ _ _ _ _ (by exact ps_set (i := 3) scCopy.nd rfl (Or.inl rfl) pe_dnewK)
    (@pss_cons _ _ _ _ _ (by exact ps_thaw (ps_for PassesOwn.never rfl (pi_dict (pe_ix ix_tup (pv 0) pe_int (fun _ _ => rfl))) (pg_name (i := 4) scCopy.nd rfl (Or.inl rfl)) (@pss_one _ _ _ (by exact ps_dput hu (pv 3) (pv 4) (pe_callTy call_list_of rfl mls PyProof.Rows.boot_list (pa_cons (pe_dget hu (pe_ix ix_tup (pv 0) pe_int (fun _ _ => rfl)) (pv 4) (fun _ _ => rfl)) pa_nil)) rfl))))
    (@pss_one _ _ _ (by exact ps_ret (pe_tup (pa_cons (pe_ix ix_tup (pv 0) pe_int (fun _ _ => rfl)) (pa_cons (pv 1) (pa_cons (pv 3) (pa_cons (pe_callTy call_dictD rfl mdi PyProof.Rows.boot_dict (pa_cons (pe_ix ix_tup (pv 0) pe_int (fun _ _ => rfl)) pa_nil)) pa_nil)))))))))), ?_⟩
  obtain ⟨p, dk, dp, dh, lk, lp, lh, rfl, h0, h1, g1, h2, g2, h3, g3⟩ := hW
  have ndk := keys_of g1 (by rw [Wd.kindsK, keys_map]; exact nd.k)
  have ndp := keys_of g2 (by rw [Wd.pairsK, keys_map]; exact nd.p)
  obtain ⟨xk, Lk, Pk⟩ := lists_of (fun ps : List Nat => ps.map fun (n : Nat) => Dat.int (n : Int)) (ks := W.kinds) g1
  obtain ⟨xp, Lp, Pp⟩ := lists_of (fun qs : List (Nat × Nat) => qs.map pairD) (ks := W.pairs) g2
  have ll1 : lk.length ≤ 100 := by rw [g1.len, Wd.kindsK, List.length_map]; exact lk1
  have ll2 : lp.length ≤ 100 := by rw [g2.len, Wd.pairsK, List.length_map]; exact lk2
  intro c1 hc1
  have s1 := same_new (H := H) hc1 (.dK [])
  have n1 : c1 ≠ dk := Ne.symm (ne_of_none h1 hc1)
  refine ⟨dk, lk, s1 _ _ h1, _, rfl, p, _, 1, _, rfl, rfl, SqT.of (s1 _ _ h0), atI_nat (j := 1) rfl, dk, lk, rfl, s1 _ _ h1, fun o => ?_⟩
  refine for_dict (fun i σ H' => ∃ (l : List (Key × V)) (o2 : Option V), σ = [some (.ref p), some (.ref c1), o2, none, none] ∧ Cp H dk c1 o lk xk i H' l) ⟨[], none, rfl, ?_⟩ ?_ ?_ ?_
  · refine ⟨fun b u hb q => ?_, upd_same, by rw [upd_ne n1]; exact upd_same, rfl, .nil⟩
    rw [upd_ne hb]; exact s1 b u q
  · rintro i σ H' hi ⟨l, o2, rfl, C⟩
    exact C.fz
  · rintro i kv σ H' hk ⟨l, o2, rfl, C⟩
    obtain ⟨xs, a, hx, e, ha⟩ := Lk.get hk
    have hne : a ≠ dk := ne_of ha h1 (by intro z; cases z)
    have hp' : H' p = some (.tup [.int (W.many : Int), .ref dk, .ref dp, .ref dh]) := C.rest _ _ (ne_of h0 h1 (by intro z; cases z)) h0
    have hv := at_key ndk hk
    rw [e] at hv
    have hl : l.length < sizeLine := by
      have := congrArg List.length C.keys
      rw [List.length_map, List.length_map, List.length_take] at this
      exact small1000 (by omega)
    refine ⟨_, rfl, p, _, 1, _, rfl, rfl, SqT.of hp', atI_nat (j := 1) rfl, _, rfl, dk, .ref a, rfl, .inl ⟨lk, kv.1, .inr ⟨o, C.fz⟩, rfl, hv.symm⟩, a, xs, rfl, .inl (SqL.of (C.rest _ _ hne ha)), fun r hr' => ?_⟩
    have nr : c1 ≠ r := ne_of_none C.nw hr'
    refine ⟨_, rfl, _, rfl, c1, _, rfl, DPut.k (k := kv.1) (by rw [upd_ne nr]; exact C.nw) hl, _, _, rfl, C.step hc1 ndk hk hx hr'⟩
  rintro σ H' ⟨l, o2, rfl, C⟩
  refine ⟨o, C.fz, ?_⟩
  have klen := C.keys
  rw [List.take_length] at klen
  have LsA := C.ls
  rw [Lk.len, List.take_length] at LsA
  have t1 : Same H (upd H' dk (.dK lk)) := fun b u hb => by
    by_cases z : b = dk
    · subst z; rw [upd_same, ← h1, hb]
    · rw [upd_ne z]; exact C.rest b u z hb
  have eA : upd H' dk (.dK lk) c1 = some (.dK l) := by rw [upd_ne n1]; exact C.nw
  have LsB : Lists (upd H' dk (.dK lk)) l xk := LsA.imp fun a ys ha => by rw [upd_ne (ne_of ha C.fz (by intro z; cases z))]; exact ha
  generalize upd H' dk (.dK lk) = H2 at t1 eA LsB ⊢
  intro c2 hc2
  have s2 := same_new (H := H2) hc2 (.dK [])
  have n2 : c2 ≠ dp := Ne.symm (ne_of_none (t1 _ _ h2) hc2)
  have hH2 : H c2 = none := none_of_same t1 hc2
  refine ⟨dp, lp, s2 _ _ (t1 _ _ h2), _, rfl, p, _, 2, _, rfl, rfl, SqT.of (s2 _ _ (t1 _ _ h0)), atI_nat (j := 2) rfl, dp, lp, rfl, s2 _ _ (t1 _ _ h2), fun o' => ?_⟩
  have Lp2 : Lists H2 lp xp := Lp.imp fun a xs ha => t1 _ _ ha
  refine for_dict (fun i σ H' => ∃ (l' : List (Key × V)) (o4 : Option V), σ = [some (.ref p), some (.ref c1), o2, some (.ref c2), o4] ∧ Cp H2 dp c2 o' lp xp i H' l') ⟨[], none, rfl, ?_⟩ ?_ ?_ ?_
  · refine ⟨fun b u hb q => ?_, upd_same, by rw [upd_ne n2]; exact upd_same, rfl, .nil⟩
    rw [upd_ne hb]; exact s2 b u q
  · rintro i σ H' hi ⟨l', o4, rfl, C⟩
    exact C.fz
  · rintro i kv σ H' hk ⟨l', o4, rfl, C⟩
    obtain ⟨xs, a, hx, e, ha⟩ := Lp2.get hk
    have hne : a ≠ dp := ne_of ha (t1 _ _ h2) (by intro z; cases z)
    have hp' : H' p = some (.tup [.int (W.many : Int), .ref dk, .ref dp, .ref dh]) := C.rest _ _ (ne_of h0 h2 (by intro z; cases z)) (t1 _ _ h0)
    have hv := at_key ndp hk
    rw [e] at hv
    have hl : l'.length < sizeLine := by
      have := congrArg List.length C.keys
      rw [List.length_map, List.length_map, List.length_take] at this
      exact small1000 (by omega)
    refine ⟨_, rfl, p, _, 2, _, rfl, rfl, SqT.of hp', atI_nat (j := 2) rfl, _, rfl, dp, .ref a, rfl, .inl ⟨lp, kv.1, .inr ⟨o', C.fz⟩, rfl, hv.symm⟩, a, xs, rfl, .inl (SqL.of (C.rest _ _ hne ha)), fun r hr' => ?_⟩
    have nr : c2 ≠ r := ne_of_none C.nw hr'
    refine ⟨_, rfl, _, rfl, c2, _, rfl, DPut.k (k := kv.1) (by rw [upd_ne nr]; exact C.nw) hl, _, _, rfl, C.step hc2 ndp hk hx hr'⟩
  rintro σ H3 ⟨l', o4, rfl, C'⟩
  refine ⟨o', C'.fz, ?_⟩
  have klen' := C'.keys
  rw [List.take_length] at klen'
  have LsA' := C'.ls
  rw [Lp.len, List.take_length] at LsA'
  have t2 : Same H2 (upd H3 dp (.dK lp)) := fun b u hb => by
    by_cases z : b = dp
    · subst z; rw [upd_same, ← t1 _ _ h2, hb]
    · rw [upd_ne z]; exact C'.rest b u z hb
  have eB : upd H3 dp (.dK lp) c2 = some (.dK l') := by rw [upd_ne n2]; exact C'.nw
  have LsC : Lists (upd H3 dp (.dK lp)) l' xp := LsA'.imp fun a ys ha => by rw [upd_ne (ne_of ha C'.fz (by intro z; cases z))]; exact ha
  generalize upd H3 dp (.dK lp) = H4 at t2 eB LsC ⊢
  have t12 := t1.trans t2
  refine ⟨_, rfl, p, _, 0, _, rfl, rfl, SqT.of (t12 _ _ h0), atI_nat (j := 0) rfl, _, rfl, _, rfl, _, rfl, p, _, 3, _, rfl, rfl, SqT.of (t12 _ _ h0), atI_nat (j := 3) rfl, dh, lh, rfl, t12 _ _ h3, fun c3 hc3 => ⟨small2 (by show 4 ≤ 1000; decide), fun t ht => ?_⟩⟩
  have s3 := same_new (H := H4) hc3 (.dK lh)
  have s4 := same_new (H := upd H4 c3 (.dK lh)) ht (.tup [.int (W.many : Int), .ref c1, .ref c2, .ref c3])
  have e3 : upd (upd H4 c3 (.dK lh)) t (.tup [.int (W.many : Int), .ref c1, .ref c2, .ref c3]) c3 = some (.dK lh) := s4 _ _ upd_same
  have s34 := s3.trans s4
  have e1 := s34 _ _ (t2 _ _ eA)
  have e2 := s34 _ _ eB
  have L1 : Lists (upd (upd H4 c3 (.dK lh)) t (.tup [.int (W.many : Int), .ref c1, .ref c2, .ref c3])) l xk := LsB.imp fun a xs ha => (t2.trans s34) _ _ ha
  have L2' : Lists (upd (upd H4 c3 (.dK lh)) t (.tup [.int (W.many : Int), .ref c1, .ref c2, .ref c3])) l' xp := LsC.imp fun a xs ha => s34 _ _ ha
  have ee : upd (upd H4 c3 (.dK lh)) t (.tup [.int (W.many : Int), .ref c1, .ref c2, .ref c3]) t = some (.tup [.int (W.many : Int), .ref c1, .ref c2, .ref c3]) := upd_same
  have sA := t12.trans s34
  generalize upd (upd H4 c3 (.dK lh)) t (.tup [.int (W.many : Int), .ref c1, .ref c2, .ref c3]) = H5 at e3 s34 e1 e2 L1 L2' ee sA ⊢
  refine q _ _ sA ⟨t, c1, c2, c3, l, l', lh, rfl, ee, e1, ?_, e2, ?_, e3, g3.mono sA⟩
  · refine of_lists (fun ps : List Nat => ps.map fun (n : Nat) => Dat.int (n : Int)) (fun x xs h => das_ints2 h) ?_ L1 Pk
    rw [klen, g1.keys, Wd.kindsK, List.map_map]; rfl
  · refine of_lists (fun qs : List (Nat × Nat) => qs.map pairD) (fun x xs h => das_same sA.tups h) ?_ L2' Pp
    rw [klen', g2.keys, Wd.pairsK, List.map_map]; rfl
end
end K08
namespace K08
open PySem L2
noncomputable def PairsOk (m : Nat) (qs : List (Nat × Nat)) : Prop := qs.length ≤ 500 ∧ ∀ q ∈ qs, q.1 < m ∧ q.2 < m
noncomputable def PairsW (m : Nat) (qs : List (Nat × Nat)) : Prop := qs.length ≤ 400 ∧ ∀ q ∈ qs, q.1 < m ∧ q.2 < m
structure WdOk (W : Wd) : Prop where
  nd : W.nd
  many : W.many ≤ 10
  lk : W.kinds.length ≤ 100
  lp : W.pairs.length ≤ 100
  filt : ∀ x ms, (x, ms) ∈ W.kinds → (List.range W.many).filter (fun i => decide (i ∈ ms)) = ms
  pr : ∀ x qs, (x, qs) ∈ W.pairs → PairsOk W.many qs
  hm : ∀ x n, (x, n) ∈ W.homes → n < W.many
noncomputable def Keep (H H' : Hp) : Prop := ∀ b u, (∀ l, u ≠ .dK l) → H b = some u → H' b = some u
theorem keep_put {H : Hp} {d : Addr} {l l' : List (Key × V)} (h : H d = some (.dK l)) : Keep H (upd H d (.dK l')) := fun b u n q => by
  have : b ≠ d := fun z => by rw [z, h] at q; injection q with q; exact n l q.symm
  rw [upd_ne this]; exact q
mutual
theorem Da.keep {H H' : Hp} (s : Keep H H') : ∀ {d : Dat} {v : V}, d.flat → Da H d v → Da H' d v
  | .int _, _, _, h => h
  | .str _, _, _, h => h
  | .tup _, _, f, ⟨p, xs, e, h, q⟩ => ⟨p, xs, e, s _ _ (fun _ z => by cases z) h, Das.keep s f q⟩
  | .lst _, _, f, ⟨p, xs, e, h, q⟩ => ⟨p, xs, e, s _ _ (fun _ z => by cases z) h, Das.keep s f q⟩
  | .dct _, _, f, _ => f.elim
theorem Das.keep {H H' : Hp} (s : Keep H H') : ∀ {ds : List Dat} {xs : List V}, flats ds → Das H ds xs → Das H' ds xs
  | [], _, _, h => h
  | _ :: _, _, f, ⟨x, r, e, h, q⟩ => ⟨x, r, e, Da.keep s f.1 h, Das.keep s f.2 q⟩
end
theorem Dak.keep {H H' : Hp} (s : Keep H H') : ∀ {ks : List (Str × Dat)} {l : List (Key × V)}, (∀ k ∈ ks, k.2.flat) → Dak H ks l → Dak H' ks l
  | [], _, _, h => h
  | (_, _) :: _, _, f, ⟨x, r, e, h, q⟩ => ⟨x, r, e, Da.keep s (f _ (List.mem_cons_self ..)) h, Dak.keep s (fun k hk => f k (List.mem_cons_of_mem _ hk)) q⟩
noncomputable def putS {α : Type} (ks : List (Str × α)) (x : Str) (a : α) : List (Str × α) :=
  if (ks.any fun k => decide (k.1 = x)) = true then ks.map (fun k => if k.1 = x then (k.1, a) else k) else ks ++ [(x, a)]
theorem dak_any {H : Hp} {x : Str} : ∀ {ks : List (Str × Dat)} {l : List (Key × V)}, Dak H ks l → (l.any fun kv => decide (kv.1 = Sum.inr x)) = ks.any fun k => decide (k.1 = x)
  | [], _, h => by cases h; rfl
  | (k, _) :: _, _, ⟨v, r, e, _, q⟩ => by
    rw [e, List.any_cons, List.any_cons, dak_any q]
    congr 1
    by_cases h : k = x
    · subst h; simp
    · rw [decide_eq_false (show ¬ (Sum.inr k : Key) = Sum.inr x from fun z => h (Sum.inr.inj z)), decide_eq_false h]
theorem dak_map {H : Hp} {x : Str} {d : Dat} {v : V} (hv : Da H d v) : ∀ {ks : List (Str × Dat)} {l : List (Key × V)}, Dak H ks l →
    Dak H (ks.map fun k => if k.1 = x then (k.1, d) else k) (l.map fun kv => if kv.1 = Sum.inr x then (kv.1, v) else kv)
  | [], _, h => by cases h; rfl
  | (k, d') :: _, _, ⟨u, r, e, h, q⟩ => by
    rw [e, List.map_cons, List.map_cons]
    by_cases hk : k = x
    · rw [if_pos (show (k, d').1 = x from hk), if_pos (show ((Sum.inr k, u) : Key × V).1 = Sum.inr x by rw [hk])]
      exact ⟨v, _, rfl, hv, dak_map hv q⟩
    · rw [if_neg (show ¬ (k, d').1 = x from hk), if_neg (show ¬ ((Sum.inr k, u) : Key × V).1 = Sum.inr x from fun z => hk (Sum.inr.inj z))]
      exact ⟨u, _, rfl, h, dak_map hv q⟩
theorem dak_snoc {H : Hp} {x : Str} {d : Dat} {v : V} (hv : Da H d v) : ∀ {ks : List (Str × Dat)} {l : List (Key × V)}, Dak H ks l → Dak H (ks ++ [(x, d)]) (l ++ [(Sum.inr x, v)])
  | [], _, h => by cases h; exact ⟨v, [], rfl, hv, rfl⟩
  | (_, _) :: _, _, ⟨u, r, e, h, q⟩ => by rw [e]; exact ⟨u, _, rfl, h, dak_snoc hv q⟩
theorem dak_put {H : Hp} {x : Str} {d : Dat} {v : V} {ks : List (Str × Dat)} {l : List (Key × V)} (h : Dak H ks l) (hv : Da H d v) : Dak H (putS ks x d) (putK l (Sum.inr x) v) := by
  unfold putS putK
  rw [dak_any h]
  split
  · exact dak_map hv h
  · exact dak_snoc hv h
theorem putS_map {α : Type} (g : α → Dat) (x : Str) (a : α) (ks : List (Str × α)) : putS (ks.map fun k => (k.1, g k.2)) x (g a) = (putS ks x a).map fun k => (k.1, g k.2) := by
  unfold putS
  rw [List.any_map]
  show (if (ks.any fun k => decide (k.1 = x)) = true then _ else _) = _
  split
  · rw [List.map_map, List.map_map]
    apply List.map_congr_left
    intro k _
    show (if k.1 = x then (k.1, g a) else (k.1, g k.2)) = (fun k : Str × α => (k.1, g k.2)) (if k.1 = x then (k.1, a) else k)
    split <;> rfl
  · rw [List.map_append]; rfl
theorem putS_keys {α : Type} (x : Str) (a : α) (ks : List (Str × α)) : (putS ks x a).map (·.1) = if (ks.any fun k => decide (k.1 = x)) = true then ks.map (·.1) else ks.map (·.1) ++ [x] := by
  unfold putS
  split
  · rw [List.map_map]
    apply List.map_congr_left
    intro k _
    show (if k.1 = x then (k.1, a) else k).1 = k.1
    split <;> rfl
  · rw [List.map_append]; rfl
theorem putS_nd {α : Type} {x : Str} {a : α} {ks : List (Str × α)} (nd : (ks.map (·.1)).Nodup) : ((putS ks x a).map (·.1)).Nodup := by
  rw [putS_keys]
  split
  · exact nd
  · rename_i h
    refine List.nodup_append.mpr ⟨nd, List.pairwise_singleton .., fun b hb c hc => ?_⟩
    rw [List.mem_singleton.mp hc]
    rintro rfl
    obtain ⟨k, hk, e⟩ := List.mem_map.mp hb
    exact h (List.any_eq_true.mpr ⟨k, hk, decide_eq_true e⟩)
theorem putS_len {α : Type} {x : Str} {a : α} {ks : List (Str × α)} : (putS ks x a).length ≤ ks.length + 1 := by
  unfold putS
  split
  · rw [List.length_map]; omega
  · rw [List.length_append]; exact Nat.le_refl _
theorem putS_mem {α : Type} {x : Str} {a : α} {ks : List (Str × α)} {y : Str × α} (h : y ∈ putS ks x a) : y ∈ ks ∨ y = (x, a) := by
  unfold putS at h
  split at h
  · obtain ⟨k, hk, e⟩ := List.mem_map.mp h
    split at e
    · rename_i hx
      exact .inr (by rw [← e, hx])
    · exact .inl (e ▸ hk)
  · rcases List.mem_append.mp h with k | k
    · exact .inl k
    · exact .inr (List.mem_singleton.mp k)
theorem flat_kinds (W : Wd) : ∀ k ∈ W.kindsK, k.2.flat := fun k hk => by
  obtain ⟨y, _, rfl⟩ := List.mem_map.mp hk
  exact flat_nats _
theorem flat_pairsK (W : Wd) : ∀ k ∈ W.pairsK, k.2.flat := fun k hk => by
  obtain ⟨y, _, rfl⟩ := List.mem_map.mp hk
  exact flat_pairs _
theorem flat_homes (W : Wd) : ∀ k ∈ W.homesK, k.2.flat := fun k hk => by
  obtain ⟨y, _, rfl⟩ := List.mem_map.mp hk
  exact trivial
structure Wb (H H' : Hp) (dk dp dh : Addr) (W : Wd) (i j : Nat) : Prop where
  same : Same H H'
  fk : H dk = none
  fp : H dp = none
  fh : H dh = none
  kp : dk ≠ dp
  kh : dk ≠ dh
  ph : dp ≠ dh
  ek : ∃ l, H' dk = some (.dK l) ∧ Dak H' W.kindsK l
  ep : ∃ l, H' dp = some (.dK l) ∧ Dak H' W.pairsK l
  eh : ∃ l, H' dh = some (.dK l) ∧ Dak H' W.homesK l
  nd : W.nd
  many : W.many ≤ 10
  lk : W.kinds.length ≤ i
  lp : W.pairs.length ≤ j
  filt : ∀ x ms, (x, ms) ∈ W.kinds → (List.range W.many).filter (fun i => decide (i ∈ ms)) = ms
  pr : ∀ x qs, (x, qs) ∈ W.pairs → PairsW W.many qs
  hm : ∀ x n, (x, n) ∈ W.homes → n < W.many
theorem Wb.new {H H' H2 : Hp} {dk dp dh : Addr} {W : Wd} {i j : Nat} (B : Wb H H' dk dp dh W i j) (s : Same H' H2) : Wb H H2 dk dp dh W i j := by
  obtain ⟨l1, a1, b1⟩ := B.ek
  obtain ⟨l2, a2, b2⟩ := B.ep
  obtain ⟨l3, a3, b3⟩ := B.eh
  exact ⟨B.same.trans s, B.fk, B.fp, B.fh, B.kp, B.kh, B.ph, ⟨l1, s _ _ a1, b1.mono s⟩, ⟨l2, s _ _ a2, b2.mono s⟩, ⟨l3, s _ _ a3, b3.mono s⟩, B.nd, B.many, B.lk, B.lp, B.filt, fun x qs h => ⟨Nat.le_trans (B.pr x qs h).1 (by decide), (B.pr x qs h).2⟩, B.hm⟩
theorem Wb.more {H H' : Hp} {dk dp dh : Addr} {W : Wd} {i j i' j' : Nat} (B : Wb H H' dk dp dh W i j) (hi : i ≤ i') (hj : j ≤ j') : Wb H H' dk dp dh W i' j' :=
  ⟨B.same, B.fk, B.fp, B.fh, B.kp, B.kh, B.ph, B.ek, B.ep, B.eh, B.nd, B.many, Nat.le_trans B.lk hi, Nat.le_trans B.lp hj, B.filt, fun x qs h => ⟨Nat.le_trans (B.pr x qs h).1 (by decide), (B.pr x qs h).2⟩, B.hm⟩
theorem Wb.putKind {H H' : Hp} {dk dp dh : Addr} {W : Wd} {i j : Nat} {l : List (Key × V)} {x : Str} {ms : List Nat} {v : V} (B : Wb H H' dk dp dh W i j) (hl : H' dk = some (.dK l)) (hv : Da H' (natsD ms) v) (hf : (List.range W.many).filter (fun i => decide (i ∈ ms)) = ms) :
    Wb H (upd H' dk (.dK (putK l (Sum.inr x) v))) dk dp dh { W with kinds := putS W.kinds x ms } (i + 1) j := by
  obtain ⟨l1, a1, b1⟩ := B.ek
  obtain ⟨l2, a2, b2⟩ := B.ep
  obtain ⟨l3, a3, b3⟩ := B.eh
  have el : l1 = l := by rw [a1] at hl; injection hl with hl; injection hl
  subst el
  have kk := keep_put (l' := putK l1 (Sum.inr x) v) hl
  refine ⟨same_upd B.same B.fk, B.fk, B.fp, B.fh, B.kp, B.kh, B.ph, ⟨_, upd_same, ?_⟩, ⟨l2, by rw [upd_ne (Ne.symm B.kp)]; exact a2, Dak.keep kk (flat_pairsK W) b2⟩, ⟨l3, by rw [upd_ne (Ne.symm B.kh)]; exact a3, Dak.keep kk (flat_homes W) b3⟩, ⟨putS_nd B.nd.k, B.nd.p, B.nd.h⟩, B.many, Nat.le_trans putS_len (Nat.add_le_add_right B.lk 1), B.lp, ?_, B.pr, B.hm⟩
  · have := dak_put (x := x) (Dak.keep kk (flat_kinds W) b1) (Da.keep kk (flat_nats ms) hv)
    rw [Wd.kindsK, putS_map natsD x ms W.kinds] at this
    exact this
  · intro y ns hy
    rcases putS_mem hy with k | k
    · exact B.filt y ns k
    · injection k with _ k; rw [k]; exact hf
theorem Wb.putPair {H H' : Hp} {dk dp dh : Addr} {W : Wd} {i j : Nat} {l : List (Key × V)} {x : Str} {qs : List (Nat × Nat)} {v : V} (B : Wb H H' dk dp dh W i j) (hl : H' dp = some (.dK l)) (hv : Da H' (pairsD qs) v) (hq : PairsW W.many qs) :
    Wb H (upd H' dp (.dK (putK l (Sum.inr x) v))) dk dp dh { W with pairs := putS W.pairs x qs } i (j + 1) := by
  obtain ⟨l1, a1, b1⟩ := B.ek
  obtain ⟨l2, a2, b2⟩ := B.ep
  obtain ⟨l3, a3, b3⟩ := B.eh
  have el : l2 = l := by rw [a2] at hl; injection hl with hl; injection hl
  subst el
  have kk := keep_put (l' := putK l2 (Sum.inr x) v) hl
  refine ⟨same_upd B.same B.fp, B.fk, B.fp, B.fh, B.kp, B.kh, B.ph, ⟨l1, by rw [upd_ne B.kp]; exact a1, Dak.keep kk (flat_kinds W) b1⟩, ⟨_, upd_same, ?_⟩, ⟨l3, by rw [upd_ne (Ne.symm B.ph)]; exact a3, Dak.keep kk (flat_homes W) b3⟩, ⟨B.nd.k, putS_nd B.nd.p, B.nd.h⟩, B.many, B.lk, Nat.le_trans putS_len (Nat.add_le_add_right B.lp 1), B.filt, ?_, B.hm⟩
  · have := dak_put (x := x) (Dak.keep kk (flat_pairsK W) b2) (Da.keep kk (flat_pairs qs) hv)
    rw [Wd.pairsK, putS_map pairsD x qs W.pairs] at this
    exact this
  · intro y rs hy
    rcases putS_mem hy with k | k
    · exact B.pr y rs k
    · injection k with _ k; rw [k]; exact hq
theorem Wb.putHome {H H' : Hp} {dk dp dh : Addr} {W : Wd} {i j : Nat} {l : List (Key × V)} {x : Str} {n : Nat} (B : Wb H H' dk dp dh W i j) (hl : H' dh = some (.dK l)) (hn : n < W.many) :
    Wb H (upd H' dh (.dK (putK l (Sum.inr x) (.int (n : Int))))) dk dp dh { W with homes := putS W.homes x n } i j := by
  obtain ⟨l1, a1, b1⟩ := B.ek
  obtain ⟨l2, a2, b2⟩ := B.ep
  obtain ⟨l3, a3, b3⟩ := B.eh
  have el : l3 = l := by rw [a3] at hl; injection hl with hl; injection hl
  subst el
  have kk := keep_put (l' := putK l3 (Sum.inr x) (.int (n : Int))) hl
  refine ⟨same_upd B.same B.fh, B.fk, B.fp, B.fh, B.kp, B.kh, B.ph, ⟨l1, by rw [upd_ne B.kh]; exact a1, Dak.keep kk (flat_kinds W) b1⟩, ⟨l2, by rw [upd_ne B.ph]; exact a2, Dak.keep kk (flat_pairsK W) b2⟩, ⟨_, upd_same, ?_⟩, ⟨B.nd.k, B.nd.p, putS_nd B.nd.h⟩, B.many, B.lk, B.lp, B.filt, B.pr, ?_⟩
  · have := dak_put (x := x) (d := .int (n : Int)) (Dak.keep kk (flat_homes W) b3) (v := .int (n : Int)) rfl
    rw [Wd.homesK, putS_map (fun n : Nat => Dat.int (n : Int)) x n W.homes] at this
    exact this
  · intro y m hy
    rcases putS_mem hy with k | k
    · exact B.hm y m k
    · injection k with _ k; rw [k]; exact hn
theorem Wb.done {H H' : Hp} {dk dp dh : Addr} {W : Wd} {i j : Nat} (B : Wb H H' dk dp dh W i j) (hi : i ≤ 100) (hj : j ≤ 100) : WdOk W := ⟨B.nd, B.many, Nat.le_trans B.lk hi, Nat.le_trans B.lp hj, B.filt, fun x qs h => ⟨Nat.le_trans (B.pr x qs h).1 (by decide), (B.pr x qs h).2⟩, B.hm⟩
end K08
namespace K08
open PySem L2
theorem ndpc : ((([("_law_p" : Str)] : List Str) ++ [("_law_cell_here" : Str)]) : List Str).Nodup := by decide +kernel
theorem ndqpc : ((([("_law_q" : Str)] : List Str) ++ [("_law_p" : Str), ("_law_cell_here" : Str)]) : List Str).Nodup := by decide +kernel
noncomputable def Flt (k : Nat) (ms : List Nat) : Prop := (List.range k).filter (fun i => decide (i ∈ ms)) = ms ∧ ∀ n ∈ ms, n < k
theorem Flt.zero : Flt 0 [] := ⟨rfl, fun n h => (nomatch h)⟩
theorem Flt.no {k : Nat} {ms : List Nat} (h : Flt k ms) : Flt (k + 1) ms := by
  refine ⟨?_, fun n hn => Nat.lt_succ_of_lt (h.2 n hn)⟩
  rw [List.range_succ, List.filter_append, h.1]
  have : ¬ k ∈ ms := fun z => Nat.lt_irrefl _ (h.2 k z)
  simp [this]
theorem Flt.yes {k : Nat} {ms : List Nat} (h : Flt k ms) : Flt (k + 1) (ms ++ [k]) := by
  refine ⟨?_, fun n hn => ?_⟩
  · rw [List.range_succ, List.filter_append]
    have e : (List.range k).filter (fun i => decide (i ∈ ms ++ [k])) = (List.range k).filter (fun i => decide (i ∈ ms)) := by
      apply List.filter_congr
      intro i hi
      have : i ≠ k := Nat.ne_of_lt (List.mem_range.mp hi)
      simp [this]
    rw [e, h.1]
    simp
  · rcases List.mem_append.mp hn with z | z
    · exact Nat.lt_succ_of_lt (h.2 n z)
    · rw [List.mem_singleton.mp z]; exact Nat.lt_succ_self _
theorem Flt.len {k : Nat} {ms : List Nat} (h : Flt k ms) : ms.length ≤ k := by
  rw [← h.1]
  have := List.length_filter_le (fun i => decide (i ∈ ms)) (List.range k)
  rwa [List.length_range] at this
theorem das_app {H : Hp} : ∀ {ds es : List Dat} {xs ys : List V}, Das H ds xs → Das H es ys → Das H (ds ++ es) (xs ++ ys)
  | [], _, _, _, h, k => by cases h; exact k
  | _ :: _, _, _, _, ⟨x, r, e, h, q⟩, k => by rw [e]; exact ⟨x, _, rfl, h, das_app q k⟩
noncomputable def Apart (H : Hp) (v : V) : Prop := ∃ (p : Addr) (n : V) (dk dp dh : Addr), v = .ref p ∧ H p = some (.tup [n, .ref dk, .ref dp, .ref dh]) ∧ dk ≠ dp ∧ dk ≠ dh ∧ dp ≠ dh
noncomputable def spWorld : Sp := fun vs H Q _ => ∃ (c : Int) (a b d : Addr) (xs ys zs : List Str), vs = [.int c, .ref a, .ref b, .ref d] ∧ 0 ≤ c ∧ H a = some (.lst (xs.map V.str)) ∧ H b = some (.lst (ys.map V.str)) ∧ H d = some (.lst (zs.map V.str)) ∧ xs.length ≤ 8 ∧ ys.length ≤ 8 ∧ zs.length ≤ 8 ∧
  ∀ v H' W, Same H H' → IsW H' W v → WdOk W → (W.kinds.length ≤ 8 ∧ W.pairs.length ≤ 8 ∧ W.homes.length ≤ 8 ∧ ∀ x qs, (x, qs) ∈ W.pairs → qs.length ≤ 400) → Apart H' v → Q v H'
section
variable {P : Program} {w : World} {K : PySem.W.Frag} {mg : Str → Option Value} {base : Heap} {f g e d a1 a2 a3 a4 : Addr} {fd gd' ed dd d1 d2 d3 d4 : FuncData}
theorem scWorld : FnScope ["_law_cell_here", "_law_names_here", "_law_ties", "_law_things_here", "_law_many", "_law_kinds", "_law_pairs", "_law_homes", "_law_name", "_law_p", "_law_tie", "_law_made", "_law_thing"] ["_law_cell_here", "_law_names_here", "_law_ties", "_law_things_here"] (defScope sWorld) := ⟨rfl, rfl, rfl, by decide +kernel, rfl, by decide +kernel, by decide +kernel⟩
theorem ok_world (F : Fun K "_law_world" "_law_world" sWorld f fd) (mr : mg "range" = none)
    (Gx : FnOk P w K mg base CX0 1 a1 d1 ["_law_cell_here", "_law_k"] spNext) (bGx : Binds K d1 ["_law_cell_here", "_law_k"] []) (kGx : PySem.W.keepIn K (.ref a1) = true) (mGx : mg "_law_next" = some (.ref a1)) :
    FnOk P w K mg base CX0 2 f fd ["_law_cell_here", "_law_names_here", "_law_ties", "_law_things_here"] spWorld := by
  refine F.ok scWorld (fun vs H Q E h => ?_) (fun cdv A outer s H vs Q E hr h => ?_)
  · obtain ⟨c, a, b, d, xs, ys, zs, rfl, _⟩ := h; rfl
  obtain ⟨c, a, b, d, xs, ys, zs, rfl, hc, ha, hb, hd, lx, ly, lz, q⟩ := h
  have hrx := hr
  have hu : (A.deeper (PyProof.Rows.envOfC "_law_world" (defScope sWorld) s.heap.objs.size f cdv)).units + 1 < cLine := by have := hr.un; omega
  refine ⟨_, @pss_cons _ _ _ _ _ (by exact ps_set (i := 4) scWorld.nd rfl (Or.inl rfl) (pe_op op_add pe_int (pe_op op_mod (pv 0) pe_int)))
    (@pss_mid _ _ _ _ _ (by exact ps_ifN (pt_cmpR op_eq (pe_op op_mod (pe_op op_fdiv (pv 0) pe_int) pe_int) pe_int (nomark _)) (@pss_one _ _ _ (by exact ps_set (i := 4) scWorld.nd rfl (Or.inl rfl) (pe_op op_add (pv 4) pe_int))) pss_nil)
    (@pss_mid _ _ _ _ _ (by exact ps_ifN (pt_cmpR op_eq (pe_op op_mod (pe_op op_fdiv (pv 0) pe_int) pe_int) pe_int (nomark _)) (@pss_one _ _ _ (by exact ps_set (i := 4) scWorld.nd rfl (Or.inl rfl) pe_int)) pss_nil)
    (@pss_cons _ _ _ _ _ (by exact ps_set (i := 5) scWorld.nd rfl (Or.inl rfl) pe_dnewK)
    (@pss_cons _ _ _ _ _ (by exact ps_set (i := 6) scWorld.nd rfl (Or.inl rfl) pe_dnewK)
    (@pss_cons _ _ _ _ _ (by exact ps_set (i := 7) scWorld.nd rfl (Or.inl rfl) pe_dnewK)
    (@pss_mid _ _ _ _ _ (by exact ps_for PassesOwn.never rfl (pi_list (pv 1)) (pg_name (i := 8) scWorld.nd rfl (Or.inl rfl)) (@pss_cons _ _ _ _ _ (by exact ps_set (i := 0) scWorld.nd rfl (Or.inr rfl) (pe_call Gx hrx rfl mGx kGx bGx .nil pass0 (pa_cons (pv 0) (pa_cons pe_int pa_nil)))) (@pss_one _ _ _ (by exact ps_if (pt_cmpR op_gt (pe_op op_mod (pv 0) pe_int) pe_int (nomark _)) (@pss_one _ _ _ (by exact ps_dput hu (pv 5) (pv 8) (pe_comp ["_law_p"] ["_law_cell_here"] [0] rfl (pi_range1 rfl mr (pa_cons (pv 4) pa_nil)) (fun _ _ _ => pg_name (i := 0) ndpc rfl (Or.inl rfl)) (fun _ _ _ => pts_one (pt_cmpR op_eq (pe_op op_and (pe_op op_shr (pe_op op_fdiv (pv 1) pe_int) (pv 0)) pe_int) pe_int (nomark _))) (fun _ _ _ => (pv 0))) rfl)) pss_nil))))
    (@pss_mid _ _ _ _ _ (by exact ps_for PassesOwn.never rfl (pi_list (pv 2)) (pg_name (i := 10) scWorld.nd rfl (Or.inl rfl)) (@pss_cons _ _ _ _ _ (by exact ps_set (i := 0) scWorld.nd rfl (Or.inr rfl) (pe_call Gx hrx rfl mGx kGx bGx .nil pass0 (pa_cons (pv 0) (pa_cons pe_int pa_nil)))) (@pss_cons _ _ _ _ _ (by exact ps_set (i := 11) scWorld.nd rfl (Or.inl rfl) (pe_lst pa_nil)) (@pss_one _ _ _ (by exact ps_if (pt_cmpR op_gt (pe_op op_mod (pv 0) pe_int) pe_int (nomark _)) (@pss_mid _ _ _ _ _ (by exact ps_for PassesOwn.never rfl (pi_range1 rfl mr (pa_cons (pv 4) pa_nil)) (pg_name (i := 9) scWorld.nd rfl (Or.inr rfl)) (@pss_cons _ _ _ _ _ (by exact ps_set (i := 0) scWorld.nd rfl (Or.inr rfl) (pe_call Gx hrx rfl mGx kGx bGx .nil pass0 (pa_cons (pv 0) (pa_cons pe_int pa_nil)))) (@pss_one _ _ _ (by exact ps_set (i := 11) scWorld.nd rfl (Or.inl rfl) (pe_op op_cat (pe_comp ["_law_q"] ["_law_p", "_law_cell_here"] [9, 0] rfl (pi_range1 rfl mr (pa_cons (pv 4) pa_nil)) (fun _ _ _ => pg_name (i := 0) ndqpc rfl (Or.inl rfl)) (fun _ _ _ => pts_one (pt_cmpR op_eq (pe_op op_and (pe_op op_shr (pv 2) (pv 0)) pe_int) pe_int (nomark _))) (fun _ _ _ => (pe_tup (pa_cons (pv 1) (pa_cons (pv 0) pa_nil))))) (pv 11)))))) (@pss_one _ _ _ (by exact ps_dput hu (pv 6) (pv 10) (pv 11) rfl))) pss_nil)))))
    (@pss_cons _ _ _ _ _ (by exact ps_for PassesOwn.never rfl (pi_list (pv 3)) (pg_name (i := 12) scWorld.nd rfl (Or.inl rfl)) (@pss_cons _ _ _ _ _ (by exact ps_set (i := 0) scWorld.nd rfl (Or.inr rfl) (pe_call Gx hrx rfl mGx kGx bGx .nil pass0 (pa_cons (pv 0) (pa_cons pe_int pa_nil)))) (@pss_one _ _ _ (by exact ps_if (PW.pt (pw_and (pt_cmpR op_gt (pv 4) pe_int (nomark _)) (pw_and1 (pt_cmpR op_gt (pe_op op_mod (pv 0) pe_int) pe_int (nomark _))))) (@pss_one _ _ _ (by exact ps_dput hu (pv 7) (pv 12) (pe_op op_mod (pe_op op_fdiv (pv 0) pe_int) (pv 4)) rfl)) pss_nil))))
    (@pss_one _ _ _ (by exact ps_ret (pe_tup (pa_cons (pv 4) (pa_cons (pv 5) (pa_cons (pv 6) (pa_cons (pv 7) pa_nil))))))))))))))), ?_⟩
  have m0 := Int.emod_nonneg c (show (5 : Int) ≠ 0 by decide)
  have m1 := Int.emod_lt_of_pos c (show (0 : Int) < 5 by decide)
  obtain ⟨k0, hk0, ek0⟩ : ∃ k0 : Nat, k0 ≤ 5 ∧ 1 + c % 5 = (k0 : Int) := ⟨(1 + c % 5).toNat, by omega, by omega⟩
  refine ⟨_, rfl, _, _, rfl, rfl, (show (0 : Int) < 5 by decide), _, _, rfl, rfl, ?_⟩
  refine ⟨fun σ H' => H' = H ∧ ∃ m : Nat, m ≤ 10 ∧ σ = [some (.int c), some (.ref a), some (.ref b), some (.ref d), some (.int (m : Int)), none, none, none, none, none, none, none, none], ?_, ?_⟩
  · refine ⟨fun H2 => H2 = H, ⟨_, rfl, _, _, rfl, rfl, ⟨by decide, by decide⟩, _, _, rfl, rfl, (show (0 : Int) < 8 by decide), rfl, _, rfl, rfl⟩, ?_⟩
    rintro H2 rfl
    refine ⟨⟨_, rfl, _, _, rfl, rfl, rfl, k0 + 5, by omega, ?_⟩, rfl, k0, by omega, ?_⟩
    · rw [show ((k0 + 5 : Nat) : Int) = 1 + c % 5 + 5 by omega]; rfl
    · rw [← ek0]; rfl
  rintro σ H' ⟨rfl, m, hm, rfl⟩
  refine ⟨fun σ H2 => H2 = H' ∧ ∃ m : Nat, m ≤ 10 ∧ σ = [some (.int c), some (.ref a), some (.ref b), some (.ref d), some (.int (m : Int)), none, none, none, none, none, none, none, none], ?_, ?_⟩
  · refine ⟨fun H2 => H2 = H', ⟨_, rfl, _, _, rfl, rfl, ⟨by decide, by decide⟩, _, _, rfl, rfl, (show (0 : Int) < 8 by decide), rfl, _, rfl, rfl⟩, ?_⟩
    rintro H2 rfl
    exact ⟨⟨rfl, 0, by omega, rfl⟩, rfl, m, hm, rfl⟩
  rintro σ H2 ⟨rfl, m, hm, rfl⟩
  intro dk hk dp hp dh hh
  have s1 := same_new (H := H2) hk (.dK [])
  have s2 := same_new hp (.dK [])
  have s3 := same_new hh (.dK [])
  have kp : dk ≠ dp := ne_of_none upd_same hp
  have ph : dp ≠ dh := ne_of_none upd_same hh
  have kh : dk ≠ dh := ne_of_none (s2 _ _ upd_same) hh
  have B0 : Wb H2 (upd (upd (upd H2 dk (.dK [])) dp (.dK [])) dh (.dK [])) dk dp dh ⟨m, [], [], []⟩ 0 0 := ⟨s1.trans (s2.trans s3), hk, none_of_same s1 hp, none_of_same (s1.trans s2) hh, kp, kh, ph, ⟨[], s3 _ _ (s2 _ _ upd_same), rfl⟩, ⟨[], s3 _ _ upd_same, rfl⟩, ⟨[], upd_same, rfl⟩, ⟨List.nodup_nil, List.nodup_nil, List.nodup_nil⟩, hm, Nat.le_refl _, Nat.le_refl _, fun x ms h => (nomatch h), fun x qs h => (nomatch h), fun x n h => (nomatch h)⟩
  generalize upd (upd (upd H2 dk (.dK [])) dp (.dK [])) dh (.dK []) = H3 at B0 ⊢
  refine ⟨fun σ H' => ∃ (c : Int) (o8 : Option V) (W : Wd), 0 ≤ c ∧ (W.many = m ∧ W.homes = []) ∧ Wb H2 H' dk dp dh W 8 0 ∧ σ = [some (.int c), some (.ref a), some (.ref b), some (.ref d), some (.int (m : Int)), some (.ref dk), some (.ref dp), some (.ref dh), o8, none, none, none, none], ?_, ?_⟩
  · refine ⟨_, rfl, a, rfl, ⟨_, SqL.of (B0.same _ _ ha)⟩, for_list (xs := xs.map V.str) (fun i σ H' => ∃ (c : Int) (o8 : Option V) (W : Wd), 0 ≤ c ∧ (W.many = m ∧ W.homes = []) ∧ Wb H2 H' dk dp dh W i 0 ∧ σ = [some (.int c), some (.ref a), some (.ref b), some (.ref d), some (.int (m : Int)), some (.ref dk), some (.ref dp), some (.ref dh), o8, none, none, none, none]) ⟨c, none, _, hc, ⟨rfl, rfl⟩, B0, rfl⟩ (fun i σ H' _ h => by obtain ⟨_, _, _, _, _, B, _⟩ := h; exact SqL.of (B.same _ _ ha)) ?_ ?_⟩
    · rintro i x σ H1 hx ⟨c1, o8, W, hc1, hm1, B, rfl⟩
      rw [List.getElem?_map] at hx
      obtain ⟨x, hx', rfl⟩ := Option.map_eq_some_iff.mp hx
      refine ⟨_, rfl, c1, 0, rfl, by decide, by decide, fun r hr0 => ?_⟩
      refine ⟨_, rfl, _, _, rfl, rfl, (show (0 : Int) < 5 by decide), _, _, rfl, rfl, _, rfl, ite2 (fun h => ?_) (fun h => ?_)⟩
      · refine ⟨_, rfl, _, rfl, by omega, by omega, fun D hD => ?_⟩
        refine cmp_by m (fun k σ H3 => (∃ o, σ = [o, some (.int r)]) ∧ Same H1 H3 ∧ ∃ ms, Flt k ms ∧ H3 D = some (.lst (natV ms))) ⟨⟨_, rfl⟩, same_new hD _, [], Flt.zero, upd_same⟩ ?_ ?_
        · rintro σ H4 ⟨_, s4, ms, fm, e4⟩
          refine ⟨by show (m : Int).toNat ≤ m; omega, ?_⟩
          have B4 := B.new s4
          obtain ⟨l, hl, gl⟩ := B4.ek
          have ll : l.length ≤ 8 := by
            have := B4.lk
            have hi : i < xs.length := by
              have := (List.getElem?_eq_some_iff.mp hx').1
              exact this
            rw [gl.len, Wd.kindsK, List.length_map]
            omega
          refine ⟨_, rfl, _, rfl, dk, _, rfl, DPut.k (k := Sum.inr x) hl (small1000 (by omega)), r, _, { W with kinds := putS W.kinds x ms }, hr0, hm1, B4.putKind hl ⟨D, _, rfl, e4, ints_das ms⟩ (by show (List.range W.many).filter _ = _; rw [hm1.1]; exact fm.1), rfl⟩
        · rintro k σ H4 hk' ⟨⟨o, rfl⟩, s4, ms, fm, e4⟩
          refine ⟨by show k < (m : Int).toNat; omega, ?_⟩
          rintro y H5 ⟨rfl, rfl⟩
          refine ⟨_, rfl, _, _, rfl, rfl, ⟨by decide, by decide⟩, _, rfl, _, _, rfl, rfl, (by show (0 : Int) ≤ 0 + (k : Int); omega), _, _, rfl, rfl, rfl, _, rfl, ite2 (fun h5 => ?_) (fun h5 => ?_)⟩
          · refine ⟨_, rfl, _, e4, ?_, ⟨_, rfl⟩, same_upd s4 hD, ms ++ [k], fm.yes, ?_⟩
            · rw [List.length_map]; have := fm.len; exact small1000 (by omega)
            · rw [upd_same, natV, natV, List.map_append, Int.zero_add]; rfl
          · exact ⟨⟨_, rfl⟩, s4, ms, fm.no, e4⟩
      · exact ⟨r, _, W, hr0, hm1, B.more (Nat.le_succ _) (Nat.le_refl _), rfl⟩
    · rintro σ H' ⟨c1, o8, W, h1, h2, B, rfl⟩
      exact ⟨c1, o8, W, h1, h2, B.more (by rw [List.length_map]; exact lx) (Nat.le_refl _), rfl⟩
  rintro σ H4 ⟨c1, o8, W, hc1, hm1, B, rfl⟩
  refine ⟨fun σ H' => ∃ (c : Int) (o8 o9 o10 o11 : Option V) (W : Wd), 0 ≤ c ∧ (W.many = m ∧ W.homes = []) ∧ Wb H2 H' dk dp dh W 8 8 ∧ σ = [some (.int c), some (.ref a), some (.ref b), some (.ref d), some (.int (m : Int)), some (.ref dk), some (.ref dp), some (.ref dh), o8, o9, o10, o11, none], ?_, ?_⟩
  · refine ⟨_, rfl, b, rfl, ⟨_, SqL.of (B.same _ _ hb)⟩, for_list (xs := ys.map V.str) (fun i σ H' => ∃ (c : Int) (o8 o9 o10 o11 : Option V) (W : Wd), 0 ≤ c ∧ (W.many = m ∧ W.homes = []) ∧ Wb H2 H' dk dp dh W 8 i ∧ σ = [some (.int c), some (.ref a), some (.ref b), some (.ref d), some (.int (m : Int)), some (.ref dk), some (.ref dp), some (.ref dh), o8, o9, o10, o11, none]) ⟨c1, o8, none, none, none, W, hc1, hm1, B, rfl⟩ (fun i σ H' _ h => by obtain ⟨_, _, _, _, _, _, _, _, B, _⟩ := h; exact SqL.of (B.same _ _ hb)) ?_ ?_⟩
    · rintro i x σ H1 hx ⟨c2, o8, o9, o10, o11, W2, h1, h2, B2, rfl⟩
      rw [List.getElem?_map] at hx
      obtain ⟨x, hx', rfl⟩ := Option.map_eq_some_iff.mp hx
      refine ⟨_, rfl, c2, 1, rfl, by decide, by decide, fun r hr0 => ?_⟩
      refine ⟨Nat.zero_le _, fun ln hln => ?_⟩
      have B3 := B2.new (same_new hln (.lst []))
      have eln : (upd H1 ln (.lst [])) ln = some (.lst []) := upd_same
      generalize upd H1 ln (.lst []) = H5 at B3 eln ⊢
      refine ⟨_, rfl, _, _, rfl, rfl, (show (0 : Int) < 7 by decide), _, _, rfl, rfl, _, rfl, ite2 (fun h => ?_) (fun h => ?_)⟩
      · have hi : i < ys.length := (List.getElem?_eq_some_iff.mp hx').1
        refine ⟨fun σ H' => ∃ (c : Int) (ln : Addr) (qs : List (Nat × Nat)) (o9 : Option V), 0 ≤ c ∧ Wb H2 H' dk dp dh W2 8 i ∧ Da H' (pairsD qs) (.ref ln) ∧ PairsW m qs ∧ σ = [some (.int c), some (.ref a), some (.ref b), some (.ref d), some (.int (m : Int)), some (.ref dk), some (.ref dp), some (.ref dh), o8, o9, some (.str x), some (.ref ln), none], ?_, ?_⟩
        · refine ⟨_, rfl, _, rfl, by omega, by omega, for_range (fun k σ H' => ∃ (c : Int) (ln : Addr) (qs : List (Nat × Nat)) (o9 : Option V), 0 ≤ c ∧ Wb H2 H' dk dp dh W2 8 i ∧ Da H' (pairsD qs) (.ref ln) ∧ (qs.length ≤ 10 * k ∧ ∀ q ∈ qs, q.1 < m ∧ q.2 < m) ∧ σ = [some (.int c), some (.ref a), some (.ref b), some (.ref d), some (.int (m : Int)), some (.ref dk), some (.ref dp), some (.ref dh), o8, o9, some (.str x), some (.ref ln), none]) ⟨r, ln, [], o9, hr0, B3, ⟨ln, [], rfl, eln, rfl⟩, ⟨Nat.le_refl _, fun q hq => (nomatch hq)⟩, rfl⟩ ?_ ?_⟩
          · rintro k σ H6 hk' ⟨c3, l3, qs, o9', h3, B5, D5, ⟨len5, bd5⟩, rfl⟩
            have hkm : k < m := by have : k < (m : Int).toNat := hk'; omega
            refine ⟨_, rfl, c3, 2, rfl, by decide, by decide, fun r2 hr2 => ?_⟩
            obtain ⟨l3', xs3, e33, e3', d3⟩ := D5
            cases e33
            refine ⟨_, rfl, _, rfl, by omega, by omega, fun D hD => ?_⟩
            refine cmp_by m (fun j σ H7 => (∃ o, σ = [o, some (.int (0 + (k : Int))), some (.int r2)]) ∧ Same H6 H7 ∧ ∃ (qs2 : List (Nat × Nat)) (xs2 : List V), (qs2.length ≤ j ∧ ∀ q ∈ qs2, q.1 < m ∧ q.2 < m) ∧ H7 D = some (.lst xs2) ∧ Das H7 (qs2.map pairD) xs2) ⟨⟨_, rfl⟩, same_new hD _, [], [], ⟨Nat.le_refl _, fun q hq => (nomatch hq)⟩, upd_same, rfl⟩ ?_ ?_
            · rintro σ H7 ⟨_, s7, qs2, xs2, ⟨l2, b2⟩, e7, d7⟩
              have a1 := d7.len
              have a2 := d3.len
              rw [List.length_map] at a1 a2
              refine ⟨by show (m : Int).toNat ≤ m; omega, _, rfl, D, l3, _, _, rfl, rfl, e7, s7 _ _ e3', small2 (by omega), fun pa hpa => ?_⟩
              have sp := same_new hpa (.lst (xs2 ++ xs3))
              refine ⟨r2, pa, qs2 ++ qs, _, hr2, B5.new (s7.trans sp), ⟨pa, _, rfl, upd_same, ?_⟩, ?_, rfl⟩
              · rw [List.map_append]
                exact das_app (d7.mono sp) (d3.mono (s7.trans sp))
              · refine ⟨by rw [List.length_append]; omega, fun q hq => ?_⟩
                rcases List.mem_append.mp hq with z | z
                · exact b2 q z
                · exact bd5 q z
            · rintro j σ H7 hj ⟨⟨o, rfl⟩, s7, qs2, xs2, ⟨l2, b2⟩, e7, d7⟩
              refine ⟨by show j < (m : Int).toNat; omega, ?_⟩
              rintro y H8 ⟨rfl, rfl⟩
              refine ⟨_, rfl, _, rfl, _, _, rfl, rfl, (by show (0 : Int) ≤ 0 + (j : Int); omega), _, _, rfl, rfl, rfl, _, rfl, ite2 (fun h5 => ?_) (fun h5 => ?_)⟩
              · refine ⟨_, rfl, _, rfl, small2 (by show 2 ≤ 1000; decide), fun t ht => ?_⟩
                have st := same_new ht (.tup [.int (0 + (k : Int)), .int (0 + (j : Int))])
                have et : (upd H8 t (.tup [V.int (0 + (k : Int)), V.int (0 + (j : Int))])) t = some (.tup [.int (k : Int), .int (j : Int)]) := by rw [upd_same, Int.zero_add, Int.zero_add]
                have e8 := st _ _ e7
                have d8 := d7.mono st
                have s8 := s7.trans st
                generalize upd H8 t (.tup [V.int (0 + (k : Int)), V.int (0 + (j : Int))]) = H9 at st et e8 d8 s8 ⊢
                have tp := tups_lst (o := .lst (xs2 ++ [.ref t])) e8
                refine ⟨_, e8, ?_, ⟨_, rfl⟩, same_upd s8 hD, qs2 ++ [(k, j)], xs2 ++ [.ref t], ?_, upd_same, ?_⟩
                · have a1 := d7.len
                  rw [List.length_map] at a1
                  exact small1000 (by omega)
                · refine ⟨by rw [List.length_append]; exact Nat.add_le_add_right l2 1, fun q hq => ?_⟩
                  rcases List.mem_append.mp hq with z | z
                  · exact b2 q z
                  · rw [List.mem_singleton.mp z]; exact ⟨hkm, hj⟩
                · rw [List.map_append]
                  refine das_app (das_same tp d8) ⟨_, _, rfl, ⟨t, _, rfl, tp _ _ et, ⟨_, _, rfl, rfl, _, _, rfl, rfl, rfl⟩⟩, rfl⟩
              · exact ⟨⟨_, rfl⟩, s7, qs2, xs2, ⟨Nat.le_succ_of_le l2, b2⟩, e7, d7⟩
          · rintro σ H' ⟨c3, l3, qs, o9', h3, B5, D5, ⟨len5, bd5⟩, rfl⟩
            have hlen : qs.length ≤ 400 := by omega
            exact ⟨c3, l3, qs, o9', h3, B5, D5, ⟨hlen, bd5⟩, rfl⟩
        · rintro σ H' ⟨c3, l3, qs, o9', h3, B5, D5, pok, rfl⟩
          obtain ⟨l, hl, gl⟩ := B5.ep
          have ll : l.length ≤ 8 := by
            have := B5.lp
            rw [gl.len, Wd.pairsK, List.length_map]; omega
          exact ⟨_, rfl, _, rfl, _, rfl, dp, _, rfl, DPut.k (k := Sum.inr x) hl (small1000 (by omega)), c3, _, _, _, _, { W2 with pairs := putS W2.pairs x qs }, h3, h2, B5.putPair hl D5 (by show PairsW W2.many qs; rw [h2.1]; exact pok), rfl⟩
      · exact ⟨r, _, _, _, _, W2, hr0, h2, B3.more (Nat.le_refl _) (Nat.le_succ _), rfl⟩
    · rintro σ H' ⟨c1, o8, o9, o10, o11, W, h1, h2, B, rfl⟩
      exact ⟨c1, o8, o9, o10, o11, W, h1, h2, B.more (Nat.le_refl _) (by rw [List.length_map]; exact ly), rfl⟩
  rintro σ H5 ⟨c2, o8, o9, o10, o11, W, hc2, hm2, B, rfl⟩
  refine ⟨_, rfl, d, rfl, ⟨_, SqL.of (B.same _ _ hd)⟩, for_list (xs := zs.map V.str) (fun i σ H' => ∃ (c : Int) (o12 : Option V) (W : Wd), 0 ≤ c ∧ W.many = m ∧ W.homes.length ≤ i ∧ Wb H2 H' dk dp dh W 8 8 ∧ σ = [some (.int c), some (.ref a), some (.ref b), some (.ref d), some (.int (m : Int)), some (.ref dk), some (.ref dp), some (.ref dh), o8, o9, o10, o11, o12]) ?_ (fun i σ H' _ h => by obtain ⟨_, _, _, _, _, _, B, _⟩ := h; exact SqL.of (B.same _ _ hd)) ?_ ?_⟩
  · exact ⟨c2, none, W, hc2, hm2.1, by rw [hm2.2]; exact Nat.le_refl _, B, rfl⟩
  · rintro i x σ H1 hx ⟨c3, o12, W, h1, h2, h3, B, rfl⟩
    have hi : i < zs.length := by
      have := (List.getElem?_eq_some_iff.mp hx).1
      rwa [List.length_map] at this
    rw [List.getElem?_map] at hx
    obtain ⟨x, hx', rfl⟩ := Option.map_eq_some_iff.mp hx
    refine ⟨_, rfl, c3, 0, rfl, by decide, by decide, fun r hr0 => ?_⟩
    refine ⟨_, rfl, _, _, rfl, rfl, _, rfl, ite2 (fun z1 => ?_) (fun z1 => ?_)⟩
    · have z1' : (0 : Int) < (m : Int) := of_decide_eq_true z1
      refine ⟨_, rfl, _, _, rfl, rfl, (show (0 : Int) < 4 by decide), _, _, rfl, rfl, _, rfl, ite2 (fun z2 => ?_) (fun z2 => ?_)⟩
      · obtain ⟨l, hl, gl⟩ := B.eh
        have ll : l.length ≤ 8 := by
          rw [gl.len, Wd.homesK, List.length_map]; omega
        obtain ⟨n, hn⟩ : ∃ n : Nat, r / 4 % (m : Int) = (n : Int) := ⟨(r / 4 % (m : Int)).toNat, by have := Int.emod_nonneg (r / 4) (show (m : Int) ≠ 0 by omega); omega⟩
        refine ⟨_, rfl, _, _, rfl, rfl, ⟨by decide, by decide⟩, _, rfl, _, _, rfl, rfl, z1', _, rfl, _, rfl, dh, _, rfl, DPut.k (k := Sum.inr x) hl (small1000 (by omega)), r, _, { W with homes := putS W.homes x n }, hr0, h2, Nat.le_trans putS_len (Nat.add_le_add_right h3 1), ?_, rfl⟩
        show Wb H2 (upd H1 dh (.dK (putK l (Sum.inr x) (V.int (r / 4 % (m : Int)))))) dk dp dh { W with homes := putS W.homes x n } 8 8
        rw [hn]
        have hnm : n < W.many := by
          have := Int.emod_lt_of_pos (r / 4) z1'
          rw [h2]
          omega
        exact B.putHome hl hnm
      · exact ⟨r, _, W, hr0, h2, Nat.le_succ_of_le h3, B, rfl⟩
    · exact iteF ⟨r, _, W, hr0, h2, Nat.le_succ_of_le h3, B, rfl⟩
  · rintro σ H' ⟨c3, o12, W, h1, h2, h3, B, rfl⟩
    obtain ⟨l1, e1, g1⟩ := B.ek
    obtain ⟨l2, e2, g2⟩ := B.ep
    obtain ⟨l3, e3, g3⟩ := B.eh
    refine ⟨_, rfl, _, rfl, _, rfl, _, rfl, small2 (by show 4 ≤ 1000; decide), fun p hp => ?_⟩
    have sp := same_new hp (.tup [.int (m : Int), .ref dk, .ref dp, .ref dh])
    exact q _ _ W (B.same.trans sp) ⟨p, dk, dp, dh, l1, l2, l3, rfl, by rw [h2]; exact upd_same, sp _ _ e1, g1.mono sp, sp _ _ e2, g2.mono sp, sp _ _ e3, g3.mono sp⟩ (B.done (by decide) (by decide)) ⟨B.lk, B.lp, Nat.le_trans h3 (by rw [List.length_map]; exact lz), fun x qs h => (B.pr x qs h).1⟩ ⟨p, _, dk, dp, dh, rfl, upd_same, B.kp, B.kh, B.ph⟩
end
end K08
namespace K08
open PySem L2
theorem at_mod {xs : List V} (h : 0 < xs.length) (i : Int) : ∃ v ∈ xs, atI xs (i % (xs.length : Int)) = some v := by
  have n0 := Int.emod_nonneg i (show (xs.length : Int) ≠ 0 by omega)
  have n1 := Int.emod_lt_of_pos i (show (0 : Int) < (xs.length : Int) by omega)
  have hj : (i % (xs.length : Int)).toNat < xs.length := by omega
  refine ⟨xs[(i % (xs.length : Int)).toNat], List.getElem_mem hj, ?_⟩
  have z : atI xs (((i % (xs.length : Int)).toNat : Nat) : Int) = some xs[(i % (xs.length : Int)).toNat] := atI_nat (List.getElem?_eq_getElem hj)
  rw [show (((i % (xs.length : Int)).toNat : Nat) : Int) = i % (xs.length : Int) by omega] at z
  exact z
theorem at_strs {ws : List Str} (h : 0 < ws.length) (i : Int) : ∃ z ∈ ws, atI (ws.map V.str) (i % (ws.length : Int)) = some (.str z) := by
  obtain ⟨v, hv, e⟩ := at_mod (xs := ws.map V.str) (by rw [List.length_map]; exact h) i
  rw [List.length_map] at e
  obtain ⟨z, hz, rfl⟩ := List.mem_map.mp hv
  exact ⟨z, hz, e⟩
noncomputable def spKind (n : Nat) : Sp := fun vs H Q _ => ∃ (c : Int) (a b : Addr) (ws rs : List Str) (d : Nat), vs = [.int c, .ref a, .ref b, .int (d : Int)] ∧ H a = some (.lst (ws.map V.str)) ∧ H b = some (.lst (rs.map V.str)) ∧
  0 < ws.length ∧ ws.length ≤ 8 ∧ 0 < rs.length ∧ d < n ∧ ∀ (v : V) (H' : Hp) (k : Kd), Same H H' → IsK H' k v → k.nt + 1 ≤ 2 ^ d → Q v H'
section
variable {P : Program} {w : World} {K : PySem.W.Frag} {mg : Str → Option Value} {base : Heap} {f g e : Addr} {fd gd' ed : FuncData}
theorem scKind : FnScope ["_law_cell_here", "_law_names_here", "_law_ties", "_law_deep", "_law_row_here", "_law_one"] ["_law_cell_here", "_law_names_here", "_law_ties", "_law_deep"] (defScope sKind) := ⟨rfl, rfl, rfl, by decide +kernel, rfl, by decide +kernel, by decide +kernel⟩
theorem ok_kind {n k0 : Nat} (hk0 : 1 ≤ k0) (F : Fun K "_law_kind" "_law_kind" sKind f fd) (G : FnOk P w K mg base CX0 k0 f fd ["_law_cell_here", "_law_names_here", "_law_ties", "_law_deep"] (spKind n)) (bF : Binds K fd ["_law_cell_here", "_law_names_here", "_law_ties", "_law_deep"] []) (mF : mg "_law_kind" = some (.ref f))
    (Gn : FnOk P w K mg base CX0 1 g gd' ["_law_cell_here", "_law_k"] spNext) (bG : Binds K gd' ["_law_cell_here", "_law_k"] []) (kG : PySem.W.keepIn K (.ref g) = true) (mG : mg "_law_next" = some (.ref g)) (ml : mg "len" = none) :
    FnOk P w K mg base CX0 (k0 + 1) f fd ["_law_cell_here", "_law_names_here", "_law_ties", "_law_deep"] (spKind (n + 1)) := by
  refine F.ok scKind (fun vs H Q E h => ?_) (fun cdv A outer s H vs Q E hr h => ?_)
  · obtain ⟨c, a, b, ws, rs, d, rfl, _⟩ := h; rfl
  obtain ⟨c, a, b, ws, rs, d, rfl, ha, hb, hw0, hw8, hr0, hd, q⟩ := h
  refine ⟨_, @pss_cons _ _ _ _ _ (by exact ps_if (PW.pt (pw_or (pt_cmpR op_eq (pv 3) pe_int (nomark _)) (pw_or1 (pt_cmpR op_lt (pe_op op_mod (pv 0) pe_int) pe_int (nomark _))))) (@pss_cons _ _ _ _ _ (by exact ps_set (i := 4) scKind.nd rfl (Or.inl rfl) (pe_op op_cat (pe_op op_cat (pv 1) (pv 1)) (pe_lst (pa_cons pe_str (pa_cons pe_str pa_nil))))) (@pss_one _ _ _ (by exact ps_ret (pe_ix ix_list (pv 4) (pe_op op_mod (pe_op op_fdiv (pv 0) pe_int) (pe_callB call_len_seq rfl ml PySem.boot_len (pa_cons (pv 4) pa_nil))) (fun _ _ => rfl))))) pss_nil)
    (@pss_cons _ _ _ _ _ (by exact ps_set (i := 5) scKind.nd rfl (Or.inl rfl) (pe_call G hr rfl mF F.kp bF .nil pass0 (pa_cons (pe_call Gn (hr.mono hk0) rfl mG kG bG .nil pass0 (pa_cons (pv 0) (pa_cons pe_int pa_nil))) (pa_cons (pv 1) (pa_cons (pv 2) (pa_cons (pe_op op_sub (pv 3) pe_int) pa_nil))))))
    (@pss_cons _ _ _ _ _ (by exact ps_if (pt_cmpR op_lt (pe_op op_mod (pv 0) pe_int) pe_int (nomark _)) (@pss_one _ _ _ (by exact ps_ret (pe_tup (pa_cons pe_str (pa_cons (pe_ix ix_list (pv 2) (pe_op op_mod (pe_op op_fdiv (pv 0) pe_int) (pe_callB call_len_seq rfl ml PySem.boot_len (pa_cons (pv 2) pa_nil))) (fun _ _ => rfl)) (pa_cons (pv 5) pa_nil)))))) pss_nil)
    (@pss_one _ _ _ (by exact ps_ret (pe_tup (pa_cons pe_str (pa_cons (pv 5) (pa_cons (pe_call G hr rfl mF F.kp bF .nil pass0 (pa_cons (pe_call Gn (hr.mono hk0) rfl mG kG bG .nil pass0 (pa_cons (pv 0) (pa_cons pe_int pa_nil))) (pa_cons (pv 1) (pa_cons (pv 2) (pa_cons (pe_op op_sub (pv 3) pe_int) pa_nil))))) pa_nil)))))))), ?_⟩
  refine ⟨_, rfl, rfl, _, rfl, ite2 (fun h0 => iteT ?_) (fun h0 => ⟨_, rfl, _, _, rfl, rfl, (show (0 : Int) < 7 by decide), _, _, rfl, rfl, _, rfl, ite2 (fun h1 => ?_) (fun h1 => ?_)⟩)⟩
  iterate 2
    · refine ⟨_, rfl, _, rfl, a, a, _, _, rfl, rfl, ha, ha, small2 (by rw [List.length_map]; omega), fun p1 hp1 => ?_⟩
      refine ⟨small2 (by show 2 ≤ 1000; decide), fun p2 hp2 => ?_⟩
      have h12 : p1 ≠ p2 := ne_of_none (upd_same (H := H) (a := p1)) hp2
      refine ⟨p1, p2, _, _, rfl, rfl, by rw [upd_ne h12]; exact upd_same, upd_same, small2 (by rw [List.length_append, List.length_map]; show _ + 2 ≤ 1000; omega), fun p3 hp3 => ?_⟩
      have sm := ((same_new hp1 (.lst (ws.map V.str ++ ws.map V.str))).trans (same_new hp2 (.lst [.str "anything", .str "nothing"]))).trans (same_new hp3 (.lst ((ws.map V.str ++ ws.map V.str) ++ [.str "anything", .str "nothing"])))
      obtain ⟨v, hv, ev⟩ := at_mod (xs := (ws.map V.str ++ ws.map V.str) ++ [V.str "anything", V.str "nothing"]) (by simp <;> omega) (c / 7)
      refine ⟨_, rfl, _, rfl, _, _, rfl, rfl, ⟨by decide, by decide⟩, _, rfl, p3, _, rfl, .inl (SqL.of upd_same), _, _, rfl, rfl, (by show (0 : Int) < ((_ ++ [_, _] : List V).length : Int); rw [List.length_append]; show (0 : Int) < ((_ + 2 : Nat) : Int); omega), p3, _, _, v, rfl, rfl, SqL.of upd_same, ev, ?_⟩
      have hz : ∃ z : Str, v = .str z := by
        rcases List.mem_append.mp hv with hv | hv
        · rcases List.mem_append.mp hv with hv | hv
          · obtain ⟨z, _, rfl⟩ := List.mem_map.mp hv; exact ⟨z, rfl⟩
          · obtain ⟨z, _, rfl⟩ := List.mem_map.mp hv; exact ⟨z, rfl⟩
        · rcases List.mem_cons.mp hv with rfl | hv
          · exact ⟨_, rfl⟩
          · rw [List.mem_singleton.mp hv]; exact ⟨_, rfl⟩
      obtain ⟨z, rfl⟩ := hz
      exact q _ _ (.nm z) sm rfl (Nat.one_le_two_pow)
  have hd0 : d ≠ 0 := by
    rintro rfl
    exact h0 (decide_eq_true rfl)
  obtain ⟨d', rfl⟩ : ∃ d', d = d' + 1 := ⟨d - 1, by omega⟩
  refine ⟨_, rfl, c, 0, rfl, by decide, by decide, fun r hr0' => ⟨_, rfl, _, rfl, _, rfl, _, _, rfl, rfl, r, a, b, ws, rs, d', by show [V.int r, V.ref a, V.ref b, V.int (((d' + 1 : Nat) : Int) - 1)] = _; rw [show ((d' + 1 : Nat) : Int) - 1 = (d' : Int) by omega], ha, hb, hw0, hw8, hr0, by omega, fun v H' k sm ik nt => ?_⟩⟩
  refine ⟨_, rfl, _, _, rfl, rfl, (show (0 : Int) < 7 by decide), _, _, rfl, rfl, _, rfl, ite2 (fun h2 => ?_) (fun h2 => ?_)⟩
  · obtain ⟨z, hz, ez⟩ := at_strs hr0 (c / 7)
    refine ⟨_, rfl, _, rfl, _, _, rfl, rfl, ⟨by decide, by decide⟩, _, rfl, b, _, rfl, .inl (SqL.of (sm _ _ hb)), _, _, rfl, rfl, by rw [List.length_map]; omega, b, _, _, .str z, rfl, rfl, SqL.of (sm _ _ hb), by rw [List.length_map]; exact ez, _, rfl, small2 (by show 3 ≤ 1000; decide), fun p hp => ?_⟩
    refine q _ _ (.som z k) (sm.trans (same_new hp _)) ⟨p, v, rfl, upd_same, IsK.mono (tups_new hp) ik⟩ ?_
    simp only [Kd.nt, Nat.pow_succ]; omega
  · refine ⟨_, rfl, _, rfl, c, 1, rfl, by decide, by decide, fun r' hr1' => ⟨_, rfl, _, rfl, _, rfl, _, _, rfl, rfl, r', a, b, ws, rs, d', by show [V.int r', V.ref a, V.ref b, V.int (((d' + 1 : Nat) : Int) - 1)] = _; rw [show ((d' + 1 : Nat) : Int) - 1 = (d' : Int) by omega], sm _ _ ha, sm _ _ hb, hw0, hw8, hr0, by omega, fun v2 H2 k2 sm2 ik2 nt2 => ?_⟩⟩
    refine ⟨small2 (by show 3 ≤ 1000; decide), fun p hp => ?_⟩
    refine q _ _ (.two k k2) ((sm.trans sm2).trans (same_new hp _)) ⟨p, v, v2, rfl, upd_same, IsK.mono (sm2.tups.trans (tups_new hp)) ik, IsK.mono (tups_new hp) ik2⟩ ?_
    simp only [Kd.nt, Nat.pow_succ]; omega
theorem kind_none : FnOk P w K mg base CX0 0 f fd ["_law_cell_here", "_law_names_here", "_law_ties", "_law_deep"] (spKind 0) := by
  have no : ∀ vs H Q E, ¬ spKind 0 vs H Q E := fun vs H Q E h => by
    obtain ⟨c, a, b, ws, rs, d, _, _, _, _, _, _, h, _⟩ := h
    omega
  exact ⟨fun vs H Q E h => absurd h (no vs H Q E), fun A outer s H args us vs Q E _ _ _ _ h => absurd h (no vs H Q E)⟩
theorem kind_all (F : Fun K "_law_kind" "_law_kind" sKind f fd) (bF : Binds K fd ["_law_cell_here", "_law_names_here", "_law_ties", "_law_deep"] []) (mF : mg "_law_kind" = some (.ref f))
    (Gn : FnOk P w K mg base CX0 1 g gd' ["_law_cell_here", "_law_k"] spNext) (bG : Binds K gd' ["_law_cell_here", "_law_k"] []) (kG : PySem.W.keepIn K (.ref g) = true) (mG : mg "_law_next" = some (.ref g)) (ml : mg "len" = none) : ∀ n : Nat, FnOk P w K mg base CX0 (n + 1) f fd ["_law_cell_here", "_law_names_here", "_law_ties", "_law_deep"] (spKind n)
  | 0 => kind_none.mono (by decide)
  | n + 1 => ok_kind (by omega) F (kind_all F bF mF Gn bG kG mG ml n) bF mF Gn bG kG mG ml
end
theorem pe_bm0K {X : Cx} {K' : PySem.W.Frag} {T id : String} {name : Str} {r : V → List V → Hp → VK → Prop} {o : Expr} {to : TE} {apos cpos : Pos} (hK : X.K = K') (pa : PlainAttrs T) (slot : Slot T name id) (hty : typeOf (.builtin id) = pure (.type "method_descriptor")) (hm : MtR X id r) (ho : PE X o to)
    (hbase : attributeBase o name X.env (eval o X.env) = eval o X.env := by rfl) (hline : (apos.endLine == cpos.line) = true := by rfl) : PE X (.Call (.Attribute o name apos) [] [] cpos) (tBM0 K' T r to) := by
  subst hK; exact pe_bm0 pa slot hty hm ho hbase hline
theorem ndn : ((([("_law_name" : Str)] : List Str) ++ []) : List Str).Nodup := by decide +kernel
noncomputable def spThings : Sp := fun vs H Q _ => ∃ c m : Int, vs = [.int c, .int m] ∧ 0 < m ∧ m ≤ 8 ∧
  ∀ (p : Addr) (H' : Hp) (ws : List Str), Same H H' → H p = none → H' p = some (.lst (ws.map V.str)) → (ws.length : Int) = m → (∀ z ∈ ws, z.length ≤ 100) → Q (.ref p) H'
section
variable {P : Program} {w : World} {K : PySem.W.Frag} {mg : Str → Option Value} {base : Heap} {f g e d a1 a2 a3 a4 : Addr} {fd gd' ed dd d1 d2 d3 d4 : FuncData}
theorem scThings : FnScope ["_law_cell_here", "_law_many"] ["_law_cell_here", "_law_many"] (defScope sThings) := ⟨rfl, rfl, rfl, by decide +kernel, rfl, by decide +kernel, by decide +kernel⟩
theorem ok_things (F : Fun K "_law_things" "_law_things" sThings f fd) (Gn : FnOk P w K mg base CX0 1 a1 d1 ["_law_cell_here", "_law_many"] spNames) (bGn : Binds K d1 ["_law_cell_here", "_law_many"] []) (kGn : PySem.W.keepIn K (.ref a1) = true) (mGn : mg "_law_names" = some (.ref a1)) :
    FnOk P w K mg base CX0 2 f fd ["_law_cell_here", "_law_many"] spThings := by
  refine F.ok scThings (fun vs H Q E h => ?_) (fun cdv A outer s H vs Q E hr h => ?_)
  · obtain ⟨c, m, rfl, _⟩ := h; rfl
  obtain ⟨c, m, rfl, m0, m8, q⟩ := h
  have hrn := hr
  refine ⟨_, @pss_one _ _ _ (by exact ps_ret (pe_comp ["_law_name"] [] [] rfl (pi_list (pe_call Gn hrn rfl mGn kGn bGn .nil pass0 (pa_cons (pv 0) (pa_cons (pv 1) pa_nil)))) (fun _ _ _ => pg_name (i := 0) ndn rfl (Or.inl rfl)) (fun _ _ _ => pts_nil) (fun _ _ _ => (pe_op op_add_str (pe_bm0K (K' := K) rfl PySem.F.plainAttrs_str PySem.F.slot_str_upper PySem.F.type_str_upper mt_upper (pe_ix ix_str (pv 0) pe_int (fun _ _ => rfl))) (pe_slice sl_str (pv 0) (po_some pe_int) po_none))))), ?_⟩
  refine ⟨_, rfl, _, rfl, c, m, rfl, m0, m8, fun r H1 ws s1 hr' e1 hl hw => ⟨r, rfl, ⟨_, SqL.of e1⟩, fun D hD => ?_⟩⟩
  refine cmp_by (ws.map V.str).length (fun i σ H3 => (∃ o, σ = [o]) ∧ Same H1 H3 ∧ ∃ ys : List Str, ys.length = i ∧ (∀ z ∈ ys, z.length ≤ 100) ∧ H3 D = some (.lst (ys.map V.str))) ⟨⟨_, rfl⟩, same_new hD _, [], rfl, fun z hz => (nomatch hz), upd_same⟩ ?_ ?_
  · rintro σ H3 ⟨_, s3, ys, hy, hz, e3⟩
    refine ⟨⟨_, SqL.of (s3 _ _ e1), Nat.le_refl _⟩, ?_⟩
    exact q D H3 ys (s1.trans s3) (none_of_same s1 hD) e3 (by rw [hy, List.length_map]; exact hl) hz
  · rintro i σ H3 hi ⟨⟨o, rfl⟩, s3, ys, hy, hz, e3⟩
    have e13 := s3 _ _ e1
    refine ⟨⟨_, (ws.map V.str)[i], SqL.of e13, by simp [hi]⟩, ?_⟩
    rintro x H4 ⟨rfl, hx1⟩
    have hxi := hx1 _ (SqL.of e13)
    rw [List.getElem?_map] at hxi
    obtain ⟨n, hn', rfl⟩ := Option.map_eq_some_iff.mp hxi
    obtain ⟨l1, _, l2⟩ := hw n (List.mem_of_getElem? hn')
    have hc : 0 < n.cps.toList.length := by
      have : n.cps.toList.length = n.length := by simp [Str.length]
      omega
    have l3 := Txt.slice_le n (some 1) none
    have l4 := PyProof.Rows.len_upper ⟨#[n.cps.toList[0]]⟩
    have l5 : (Txt.upper ⟨#[n.cps.toList[0]]⟩).length ≤ 3 := l4
    rw [List.length_map] at hi
    refine ⟨_, rfl, n, 0, n.cps.toList[0], rfl, rfl, small2 (by omega), atI_nat (j := 0) (List.getElem?_eq_getElem hc), rfl, _, rfl, rfl, (by show 1 ≤ 1000; decide), _, rfl, _, rfl, n, rfl, small2 (by omega), _, _, rfl, rfl, small2 (by omega), ?_⟩
    refine ⟨_, e3, ?_, ⟨_, rfl⟩, same_upd s3 hD, ys ++ [Txt.upper ⟨#[n.cps.toList[0]]⟩ ++ Txt.slice n (some 1) none], ?_, ?_, ?_⟩
    · rw [List.length_map]; exact small1000 (by omega)
    · rw [List.length_append, hy]; rfl
    · intro z hz'
      rcases List.mem_append.mp hz' with k | k
      · exact hz z k
      · rw [List.mem_singleton.mp k, Str.length_append]; omega
    · rw [upd_same, List.map_append]; rfl
end
end K08
namespace K08
open PySem L2
noncomputable def look {α : Type} : List (Str × α) → Str → Option α
  | [], _ => none
  | (k, a) :: r, x => if k = x then some a else look r x
theorem look_mem {α : Type} : ∀ {l : List (Str × α)} {x : Str} {a : α}, (l.map (·.1)).Nodup → (x, a) ∈ l → look l x = some a
  | [], _, _, _, h => nomatch h
  | (k, b) :: r, x, a, nd, h => by
    rw [List.map_cons, List.nodup_cons] at nd
    rcases List.mem_cons.mp h with h | h
    · injection h with h1 h2
      subst h1 h2
      unfold look
      rw [if_pos rfl]
    · have hne : k ≠ x := fun z => nd.1 (by rw [z]; exact List.mem_map.mpr ⟨_, h, rfl⟩)
      unfold look
      rw [if_neg hne]
      exact look_mem nd.2 h
theorem look_none {α : Type} : ∀ {l : List (Str × α)} {x : Str}, x ∉ l.map (·.1) → look l x = none
  | [], _, _ => rfl
  | (k, b) :: r, x, h => by
    rw [List.map_cons, List.mem_cons, not_or] at h
    unfold look
    rw [if_neg (fun z => h.1 z.symm)]
    exact look_none h.2
theorem mem_look {α : Type} : ∀ {l : List (Str × α)} {x : Str} {a : α}, look l x = some a → (x, a) ∈ l
  | [], _, _, h => nomatch h
  | (k, b) :: r, x, a, h => by
    unfold look at h
    split at h
    · rename_i e
      injection h with h
      rw [e, h]; exact List.mem_cons_self
    · exact List.mem_cons_of_mem _ (mem_look h)
noncomputable abbrev pairsAt (W : Wd) (r : Str) : List (Nat × Nat) := (look W.pairs r).getD []
noncomputable abbrev anyt : Kd := .nm "anything"
noncomputable abbrev noth : Kd := .nm "nothing"
noncomputable def memb (W : Wd) : Kd → List Nat
  | .nm x => if x = "anything" then List.range W.many else if x = "nothing" then [] else (look W.kinds x).getD []
  | .two a b => (List.range W.many).filter fun i => decide (i ∈ memb W a) && decide (i ∈ memb W b)
  | .som r c => (List.range W.many).filter fun i => (pairsAt W r).any fun q => decide (q.1 = i) && decide (q.2 ∈ memb W c)
theorem flt_filter (n : Nat) (p : Nat → Bool) : Flt n ((List.range n).filter p) := by
  refine ⟨List.filter_congr fun i hi => ?_, fun i hi => List.mem_range.mp (List.mem_filter.mp hi).1⟩
  cases h : p i with
  | true => exact decide_eq_true (List.mem_filter.mpr ⟨hi, h⟩)
  | false => exact decide_eq_false fun z => by rw [(List.mem_filter.mp z).2] at h; cases h
theorem memb_flt {W : Wd} (ok : WdOk W) : ∀ k : Kd, Flt W.many (memb W k)
  | .nm x => by
    unfold memb
    split
    · have := flt_filter W.many fun _ => true
      rwa [List.filter_eq_self.mpr fun _ _ => rfl] at this
    · split
      · have := flt_filter W.many fun _ => false
        rwa [List.filter_eq_nil_iff.mpr fun _ _ => Bool.false_ne_true] at this
      · cases h : look W.kinds x with
        | none =>
          have := flt_filter W.many fun _ => false
          rwa [List.filter_eq_nil_iff.mpr fun _ _ => Bool.false_ne_true] at this
        | some ms =>
          have e := ok.filt x ms (mem_look h)
          refine ⟨e, fun n hn => ?_⟩
          have hn' : n ∈ ms := hn
          rw [← e] at hn'
          exact List.mem_range.mp (List.mem_filter.mp hn').1
  | .two a b => flt_filter _ _
  | .som r c => flt_filter _ _
theorem Flt.lt {n : Nat} {ms : List Nat} (h : Flt n ms) : ms.Pairwise (· < ·) := by
  rw [← h.1]
  exact List.Pairwise.filter _ List.pairwise_lt_range
noncomputable abbrev intsOf (ms : List Nat) : List Int := ms.map fun (n : Nat) => (n : Int)
theorem natV_ints (ms : List Nat) : natV ms = (intsOf ms).map V.int := by rw [List.map_map]; rfl
theorem mem_ints {ms : List Nat} {k : Int} : k ∈ intsOf ms ↔ ∃ i ∈ ms, k = (i : Int) := by
  rw [List.mem_map]
  exact ⟨fun ⟨i, h, e⟩ => ⟨i, h, e.symm⟩, fun ⟨i, h, e⟩ => ⟨i, h, e.symm⟩⟩
theorem mem_ints' {ms : List Nat} {i : Nat} : (i : Int) ∈ intsOf ms ↔ i ∈ ms := by
  rw [mem_ints]
  exact ⟨fun ⟨j, h, e⟩ => by have : i = j := by omega
                             rw [this]; exact h, fun h => ⟨i, h, rfl⟩⟩
theorem ints_pw {ms : List Nat} (h : ms.Pairwise (· < ·)) : (intsOf ms).Pairwise (· ≤ ·) := by
  rw [List.pairwise_map]
  exact h.imp fun hab => by omega
theorem ints_nd {ms : List Nat} (h : ms.Pairwise (· < ·)) : (intsOf ms).Nodup := by
  unfold List.Nodup
  rw [List.pairwise_map]
  exact h.imp fun hab => by omega
theorem sorted_one {ns ks : List Int} {ms : List Nat} (hp : ns.Perm ks) (nd : ks.Nodup) (hs : ns.Pairwise (· ≤ ·)) (hm : ∀ k, k ∈ ks ↔ k ∈ intsOf ms) (h : ms.Pairwise (· < ·)) : ns = intsOf ms := by
  refine PySem.W.ksm_same ?_ hs (ints_pw h)
  refine (List.perm_ext_iff_of_nodup (hp.nodup_iff.mpr nd) (ints_nd h)).mpr fun a => ?_
  rw [hp.mem_iff, hm]
theorem le_of_sub {α : Type} [DecidableEq α] : ∀ {a b : List α}, a.Nodup → (∀ x ∈ a, x ∈ b) → a.length ≤ b.length
  | [], _, _, _ => Nat.zero_le _
  | x :: a, b, nd, h => by
    rw [List.nodup_cons] at nd
    have hx := h x List.mem_cons_self
    have ih := le_of_sub (a := a) (b := b.erase x) nd.2 fun y hy => (List.mem_erase_of_ne fun z => nd.1 (by rw [← z]; exact hy)).mpr (h y (List.mem_cons_of_mem _ hy))
    rw [List.length_erase_of_mem hx] at ih
    have : 0 < b.length := List.length_pos_of_mem hx
    rw [List.length_cons]
    omega
theorem addK_nd {ks : List Int} {k : Int} (h : ks.Nodup) : (addK ks k).Nodup := by
  unfold addK
  split
  · exact h
  · rename_i hk
    rw [List.nodup_append]
    refine ⟨h, by simp, fun a ha b hb => ?_⟩
    rw [List.mem_singleton.mp hb]
    exact fun z => hk (z ▸ ha)
theorem pairs_get {H : Hp} {W : Wd} {lp : List (Key × V)} {x : Str} (g : Dak H W.pairsK lp) (nd : W.nd) : (∃ (qs : List (Nat × Nat)) (a : Addr) (xs : List V), look W.pairs x = some qs ∧ valV lp (.inr x) = some (.ref a) ∧ H a = some (.lst xs) ∧ Das H (qs.map pairD) xs) ∨ (look W.pairs x = none ∧ valV lp (.inr x) = none) := by
  by_cases h : x ∈ W.pairs.map (·.1)
  · obtain ⟨⟨k, qs⟩, hm, rfl⟩ := List.mem_map.mp h
    obtain ⟨v, h1, h2⟩ := g.val (k := k) (d := pairsD qs) (by rw [Wd.pairsK, keys_map]; exact nd.p) (List.mem_map.mpr ⟨(k, qs), hm, rfl⟩)
    have h2' : ∃ p xs, v = .ref p ∧ H p = some (.lst xs) ∧ Das H (qs.map pairD) xs := h2
    obtain ⟨a, xs, rfl, h3, h4⟩ := h2'
    exact .inl ⟨qs, a, xs, look_mem nd.p hm, h1, h3, h4⟩
  · exact .inr ⟨look_none h, g.none (by rw [Wd.pairsK, keys_map]; exact h)⟩
theorem das_at {H : Hp} : ∀ {qs : List (Nat × Nat)} {xs : List V} {i : Nat} {x : V}, Das H (qs.map pairD) xs → xs[i]? = some x → ∃ (q : Nat × Nat) (t : Addr), qs[i]? = some q ∧ x = .ref t ∧ H t = some (.tup [.int (q.1 : Int), .int (q.2 : Int)])
  | [], _, _, _, h, e => by
    have : _ = [] := h
    subst this
    simp at e
  | q :: qs, _, i, x, ⟨y, r, e0, h, h2⟩, e => by
    subst e0
    cases i with
    | zero =>
      simp only [List.getElem?_cons_zero, Option.some.injEq] at e
      subst e
      obtain ⟨p, ys, e1, h3, y1, s1, e2, h4, y2, s2, e3, h5, h6⟩ := (show ∃ p xs, y = .ref p ∧ H p = some (.tup xs) ∧ Das H [.int (q.1 : Int), .int (q.2 : Int)] xs from h)
      have e4 : y1 = .int (q.1 : Int) := h4
      have e5 : y2 = .int (q.2 : Int) := h5
      have e6 : s2 = [] := h6
      subst e3 e2 e4 e5 e6
      exact ⟨q, p, rfl, e1, h3⟩
    | succ i =>
      obtain ⟨q', t, a1, a2, a3⟩ := das_at h2 (by simpa using e)
      exact ⟨q', t, by simpa using a1, a2, a3⟩
theorem ndser : ((([("start" : Str), ("end" : Str)] : List Str) ++ [("reached" : Str)]) : List Str).Nodup := by decide +kernel
noncomputable def spTie : Sp := fun vs H Q _ => ∃ (v : V) (W : Wd) (r : Str), vs = [v, .str r] ∧ IsW H W v ∧ W.nd ∧ ∀ (p : Addr) (H' : Hp) (xs : List V), Same H H' → H' p = some (.lst xs) → Das H' ((pairsAt W r).map pairD) xs → Q (.ref p) H'
noncomputable def spMembers (n : Nat) : Sp := fun vs H Q _ => ∃ (v u : V) (W : Wd) (k : Kd), vs = [v, u] ∧ IsW H W v ∧ WdOk W ∧ IsK H k u ∧ k.dep < n ∧ k.dep ≤ 50 ∧
  ∀ (p : Addr) (H' : Hp), Same H H' → H p = none → H' p = some (.lst (natV (memb W k))) → Q (.ref p) H'
theorem kit_tup_str (K : PySem.W.Frag) : PySem.W.kitOne K (.type "tuple") (.type "str") = some false := by
  first | rfl | decide | with_unfolding_all rfl
section
variable {P : Program} {w : World} {K : PySem.W.Frag} {mg : Str → Option Value} {base : Heap} {f g e d a1 a2 a3 a4 : Addr} {fd gd' ed dd d1 d2 d3 d4 : FuncData}
theorem scTie : FnScope ["world", "tie"] ["world", "tie"] (defScope sTie) := ⟨rfl, rfl, rfl, by decide +kernel, rfl, by decide +kernel, by decide +kernel⟩
theorem ok_tie (F : Fun K "tie_pairs" "tie_pairs" sTie f fd) : FnOk P w K mg base CX0 1 f fd ["world", "tie"] spTie := by
  refine F.ok scTie (fun vs H Q E h => ?_) (fun cdv A outer s H vs Q E hr h => ?_)
  · obtain ⟨v, W, r, rfl, _⟩ := h; rfl
  obtain ⟨v, W, r, rfl, hW, nd, q⟩ := h
  have hu : (A.deeper (PyProof.Rows.envOfC "tie_pairs" (defScope sTie) s.heap.objs.size f cdv)).units + 1 < cLine := by have := hr.un; omega
  refine ⟨_, @pss_one _ _ _ (by exact ps_ret (pe_dget2 hu (pe_ix ix_tup (pv 0) pe_int (fun _ _ => rfl)) (pv 1) (pe_lst pa_nil) ⟨rfl, rfl, rfl, rfl⟩)), ?_⟩
  obtain ⟨p, dk, dp, dh, lk, lp, lh, rfl, h0, h1, g1, h2, g2, h3, g3⟩ := hW
  refine ⟨_, rfl, p, _, 2, _, rfl, rfl, SqT.of h0, atI_nat (j := 2) rfl, dp, rfl, .inl ⟨lp, .inl h2⟩, _, rfl, Nat.zero_le _, fun l hl => ?_⟩
  have s1 := same_new hl (.lst [])
  refine ⟨_, DGet.k (k := Sum.inr r) (s1 _ _ h2), ?_⟩
  rcases pairs_get (x := r) g2 nd with ⟨qs, a, xs, hm, e, ha, hd⟩ | ⟨hn, e⟩
  · rw [e]
    exact q a _ xs s1 (s1 _ _ ha) (by unfold pairsAt; rw [hm]; exact hd.mono s1)
  · rw [e]
    exact q l _ [] s1 upd_same (by unfold pairsAt; rw [hn]; rfl)
end
end K08
namespace K08
open PySem L2
theorem same_new' {H H' : Hp} {p : Addr} (s : Same H H') (hp : H' p = none) (o : HO) : Same H (upd H' p o) := s.trans (same_new hp o)
section
variable {P : Program} {w : World} {K : PySem.W.Frag} {mg : Str → Option Value} {base : Heap} {f g e d a1 a2 a3 a4 : Addr} {fd gd' ed dd d1 d2 d3 d4 : FuncData}
theorem scMembers : FnScope ["world", "kind", "reached"] ["world", "kind"] (defScope sMembers) := ⟨rfl, rfl, rfl, by decide +kernel, rfl, by decide +kernel, by decide +kernel⟩
theorem ok_members {n k0 : Nat} (hk0 : 1 ≤ k0) (F : Fun K "members" "members" sMembers f fd) (Gm : FnOk P w K mg base CX0 k0 f fd ["world", "kind"] (spMembers n)) (bGm : Binds K fd ["world", "kind"] []) (mGm : mg "members" = some (.ref f))
    (Gt : FnOk P w K mg base CX0 1 a1 d1 ["world", "tie"] spTie) (bGt : Binds K d1 ["world", "tie"] []) (kGt : PySem.W.keepIn K (.ref a1) = true) (mGt : mg "tie_pairs" = some (.ref a1))
    (mr : mg "range" = none) (mls : mg "list" = none) (mi : mg "isinstance" = none) (ms : mg "str" = none) (mset : mg "set" = none) (mso : mg "sorted" = none) :
    FnOk P w K mg base CX0 (k0 + 1) f fd ["world", "kind"] (spMembers (n + 1)) := by
  refine F.ok scMembers (fun vs H Q E h => ?_) (fun cdv A outer s H vs Q E hr h => ?_)
  · obtain ⟨v, u, W, k, rfl, _⟩ := h; rfl
  obtain ⟨v, u, W, k, rfl, hW, ok, hk, hd, hd50, q⟩ := h
  have hrm := hr
  have hrt := hr.mono hk0
  have kGm := F.kp
  have hu : (A.deeper (PyProof.Rows.envOfC "members" (defScope sMembers) s.heap.objs.size f cdv)).units + 1 < cLine := by have := hr.un; omega
  refine ⟨_, @pss_cons _ _ _ _ _ (by exact ps_if (pt_cmpR (op_eqK hr.units) (pv 1) pe_str (nomark _)) (@pss_one _ _ _ (by exact ps_ret (pe_listRange rfl rfl mr rfl mls (pe_ix ix_tup (pv 0) pe_int (fun _ _ => rfl))))) pss_nil)
    (@pss_cons _ _ _ _ _ (by exact ps_if (pt_cmpR (op_eqK hr.units) (pv 1) pe_str (nomark _)) (@pss_one _ _ _ (by exact ps_ret (pe_lst pa_nil))) pss_nil)
    (@pss_cons _ _ _ _ _ (by exact ps_if (pt_val (pe_callB call_isinst rfl mi PyProof.Rows.boot_isinstance (pa_cons (pv 1) (pa_cons (pe_bltn (v := .ty "str") rfl ms PyProof.Rows.boot_str rfl) pa_nil)))) (@pss_one _ _ _ (by exact ps_ret (pe_callTy call_list_of rfl mls PyProof.Rows.boot_list (pa_cons (pe_dget2 hu (pe_ix ix_tup (pv 0) pe_int (fun _ _ => rfl)) (pv 1) (pe_lst pa_nil) ⟨rfl, rfl, rfl, rfl⟩) pa_nil)))) pss_nil)
    (@pss_cons _ _ _ _ _ (by exact ps_if (pt_cmpR op_eq (pe_ix ix_tup (pv 1) pe_int (fun _ _ => rfl)) pe_str (nomark _)) (@pss_one _ _ _ (by exact ps_ret (pe_callB (call_sortedS rfl) rfl mso PyProof.Rows.boot_sorted (pa_cons (pe_op op_andS (pe_callTy (call_set rfl) rfl mset PyProof.Rows.boot_set (pa_cons (pe_call Gm hrm rfl mGm kGm bGm .nil pass0 (pa_cons (pv 0) (pa_cons (pe_ix ix_tup (pv 1) pe_int (fun _ _ => rfl)) pa_nil))) pa_nil)) (pe_callTy (call_set rfl) rfl mset PyProof.Rows.boot_set (pa_cons (pe_call Gm hrm rfl mGm kGm bGm .nil pass0 (pa_cons (pv 0) (pa_cons (pe_ix ix_tup (pv 1) pe_int (fun _ _ => rfl)) pa_nil))) pa_nil))) pa_nil)))) pss_nil)
    (@pss_cons _ _ _ _ _ (by exact ps_set (i := 2) scMembers.nd rfl (Or.inr rfl) (pe_callTy (call_set rfl) rfl mset PyProof.Rows.boot_set (pa_cons (pe_call Gm hrm rfl mGm kGm bGm .nil pass0 (pa_cons (pv 0) (pa_cons (pe_ix ix_tup (pv 1) pe_int (fun _ _ => rfl)) pa_nil))) pa_nil)))
    (@pss_one _ _ _ (by exact ps_ret (pe_callB (call_sortedS rfl) rfl mso PyProof.Rows.boot_sorted (pa_cons (pe_compS ["start", "end"] ["reached"] [2] rfl (pi_list (pe_call Gt hrt rfl mGt kGt bGt .nil pass0 (pa_cons (pv 0) (pa_cons (pe_ix ix_tup (pv 1) pe_int (fun _ _ => rfl)) pa_nil)))) (fun _ _ _ => pg_pair (K' := K) (i := 0) (j := 1) rfl rfl ndser rfl rfl rfl rfl) (fun _ _ _ => pts_one (pt_cmpR (r := rInS P w) op_inS (pv 1) (pv 2) rfl)) (fun _ _ _ => (pv 0))) pa_nil)))))))), ?_⟩
  have hW' := hW
  obtain ⟨p, dk, dp, dh, lk, lp, lh, rfl, h0, h1, g1, h2, g2, h3, g3⟩ := hW
  have m10 := ok.many
  refine ⟨_, rfl, k, anyt, hk, rfl, by omega, _, rfl, ite2 (fun e1 => ?_) (fun e1 => ?_)⟩
  · have ek : k = anyt := of_decide_eq_true e1
    subst ek
    refine ⟨_, rfl, p, _, 0, _, rfl, rfl, SqT.of h0, atI_nat (j := 0) rfl, W.many, rfl, by omega, fun r hr' => ?_⟩
    exact q r _ (same_new hr' _) hr' (by rw [upd_same, memb, if_pos rfl])
  have hx1 : k ≠ anyt := fun z => e1 (decide_eq_true z)
  refine ⟨_, rfl, k, noth, hk, rfl, by omega, _, rfl, ite2 (fun e2 => ?_) (fun e2 => ?_)⟩
  · have ek : k = noth := of_decide_eq_true e2
    subst ek
    refine ⟨Nat.zero_le _, fun r hr' => ?_⟩
    exact q r _ (same_new hr' _) hr' (by rw [upd_same, memb, if_neg (by decide +kernel), if_pos rfl]; rfl)
  have hx2 : k ≠ noth := fun z => e2 (decide_eq_true z)
  cases k with
  | nm x =>
    obtain rfl : u = .str x := hk
    have n1 : x ≠ "anything" := fun z => hx1 (by rw [z])
    have n2 : x ≠ "nothing" := fun z => hx2 (by rw [z])
    refine ⟨_, rfl, _, _, _, true, rfl, TyOf.str x, kit_str_str K, _, rfl, iteT ?_⟩
    refine ⟨_, rfl, p, _, 1, _, rfl, rfl, SqT.of h0, atI_nat (j := 1) rfl, dk, rfl, .inl ⟨lk, .inl h1⟩, _, rfl, Nat.zero_le _, fun l hl => ?_⟩
    have s1 := same_new hl (.lst [])
    refine ⟨_, DGet.k (k := Sum.inr x) (s1 _ _ h1), ?_⟩
    rcases kinds_get (x := x) g1 ok.nd with ⟨ms, a, hm, e, ha⟩ | ⟨hn, e⟩
    · rw [e]
      refine ⟨a, _, rfl, .inl (SqL.of (s1 _ _ ha)), fun r hr' => ?_⟩
      exact q r _ (s1.trans (same_new hr' _)) (none_of_same s1 hr') (by rw [upd_same, memb, if_neg n1, if_neg n2, look_mem ok.nd.k hm]; rfl)
    · rw [e]
      refine ⟨l, [], rfl, .inl (SqL.of upd_same), fun r hr' => ?_⟩
      exact q r _ (s1.trans (same_new hr' _)) (none_of_same s1 hr') (by rw [upd_same, memb, if_neg n1, if_neg n2, look_none hn]; rfl)
  | two a b =>
    obtain ⟨pk, x, y, rfl, hp, ha, hb⟩ := id hk
    simp only [Kd.dep] at hd hd50
    have fa := memb_flt ok a
    have fb := memb_flt ok b
    have la := fa.len
    have lb := fb.len
    refine ⟨_, rfl, _, _, _, false, rfl, TyOf.tup hp, kit_tup_str K, _, rfl, iteF ?_⟩
    refine ⟨_, rfl, pk, _, 0, _, rfl, rfl, SqT.of hp, atI_nat (j := 0) rfl, rfl, _, rfl, ?_⟩
    rw [dec_str, beq_self_eq_true]
    refine iteT ⟨_, rfl, _, rfl, pk, _, 1, _, rfl, rfl, SqT.of hp, atI_nat (j := 1) rfl, _, x, W, a, rfl, hW', ok, ha, by omega, by omega, fun p1 H1 s1 n1 e1 => ?_⟩
    refine ⟨p1, intsOf (memb W a), rfl, SqL.of (by rw [← natV_ints]; exact e1), by rw [List.length_map]; omega, fun q1 hq1 => ?_⟩
    have s2 := same_new' s1 hq1 (setO P w q1 (gather [] (intsOf (memb W a))))
    have eq1 : (upd H1 q1 (setO P w q1 (gather [] (intsOf (memb W a))))) q1 = some (setO P w q1 (gather [] (intsOf (memb W a)))) := upd_same
    have hp2 := s2 _ _ hp
    have h02 := hW'.mono s2
    have hb2 := IsK.mono s2.tups hb
    refine ⟨_, rfl, _, rfl, pk, _, 2, _, rfl, rfl, SqT.of hp2, atI_nat (j := 2) rfl, _, y, W, b, rfl, h02, ok, hb2, by omega, by omega, fun p2 H2 s3 n2 e2 => ?_⟩
    refine ⟨p2, intsOf (memb W b), rfl, SqL.of (by rw [← natV_ints]; exact e2), by rw [List.length_map]; omega, fun q2 hq2 => ?_⟩
    have s4 := same_new' s3 hq2 (setO P w q2 (gather [] (intsOf (memb W b))))
    have eq1' := s3 _ _ eq1
    have n12 : q1 ≠ q2 := ne_of_none eq1' hq2
    have ga := gather_len (r := intsOf (memb W a)) (ks := ([] : List Int))
    have gb := gather_len (r := intsOf (memb W b)) (ks := ([] : List Int))
    rw [List.length_map] at ga gb
    refine ⟨q1, q2, _, _, rfl, rfl, n12, by rw [upd_ne n12]; exact eq1', upd_same, by simp at ga; omega, by simp at gb; omega, fun q3 ms hq3 nd3 hm3 => ?_⟩
    have sub : ∀ k ∈ ms, k ∈ intsOf (memb W a) := fun k hk => by
      have := ((hm3 k).mp hk).1
      rw [mem_gather] at this
      exact this.resolve_left (by simp)
    have l3 := le_of_sub nd3 sub
    rw [List.length_map] at l3
    refine ⟨q3, ms, rfl, upd_same, by omega, fun q4 ns hq4 hp4 hs4 => ?_⟩
    have s5 := same_new' (same_new' (s2.trans s4) hq3 (setO P w q3 ms)) hq4 (.lst (ns.map V.int))
    refine q q4 _ s5 (none_of_same (same_new' (s2.trans s4) hq3 (setO P w q3 ms)) hq4) ?_
    rw [upd_same, natV_ints, sorted_one (ms := memb W (.two a b)) hp4 nd3 hs4 (fun k => ?_) (memb_flt ok (.two a b)).lt]
    rw [hm3, mem_gather, mem_gather, mem_ints, mem_ints, mem_ints]
    constructor
    · rintro ⟨(z | ⟨i, hi, rfl⟩), (z | ⟨j, hj, e⟩)⟩
      · cases z
      · cases z
      · cases z
      · have : i = j := by omega
        subst this
        exact ⟨i, List.mem_filter.mpr ⟨List.mem_range.mpr (fa.2 i hi), by rw [decide_eq_true hi, decide_eq_true hj]; rfl⟩, rfl⟩
    · rintro ⟨i, hi, rfl⟩
      have hi2 := (List.mem_filter.mp hi).2
      rw [Bool.and_eq_true] at hi2
      exact ⟨.inr ⟨i, of_decide_eq_true hi2.1, rfl⟩, .inr ⟨i, of_decide_eq_true hi2.2, rfl⟩⟩
  | som r c =>
    obtain ⟨pk, y, rfl, hp, hc⟩ := id hk
    simp only [Kd.dep] at hd hd50
    have fc := memb_flt ok c
    have lc := fc.len
    refine ⟨_, rfl, _, _, _, false, rfl, TyOf.tup hp, kit_tup_str K, _, rfl, iteF ?_⟩
    refine ⟨_, rfl, pk, _, 0, _, rfl, rfl, SqT.of hp, atI_nat (j := 0) rfl, rfl, _, rfl, ?_⟩
    rw [dec_ne (Ne.symm both_ne_some)]
    refine iteF ⟨_, rfl, _, rfl, pk, _, 2, _, rfl, rfl, SqT.of hp, atI_nat (j := 2) rfl, _, y, W, c, rfl, hW', ok, hc, by omega, by omega, fun p1 H1 s1 n1 e1 => ?_⟩
    refine ⟨p1, intsOf (memb W c), rfl, SqL.of (by rw [← natV_ints]; exact e1), by rw [List.length_map]; omega, fun q1 hq1 => ?_⟩
    have s2 := same_new' s1 hq1 (setO P w q1 (gather [] (intsOf (memb W c))))
    have eq1 : (upd H1 q1 (setO P w q1 (gather [] (intsOf (memb W c))))) q1 = some (setO P w q1 (gather [] (intsOf (memb W c)))) := upd_same
    refine ⟨_, rfl, _, rfl, pk, _, 1, _, rfl, rfl, SqT.of (s2 _ _ hp), atI_nat (j := 1) rfl, _, W, r, rfl, hW'.mono s2, ok.nd, fun pl H3 xs s3 e3 d3 => ?_⟩
    have hqs : PairsOk W.many (pairsAt W r) := by
      cases h : look W.pairs r with
      | none => unfold pairsAt; rw [h]; exact ⟨Nat.zero_le _, fun q hq => (nomatch hq)⟩
      | some qs => unfold pairsAt; rw [h]; exact ok.pr r qs (mem_look h)
    have dl := d3.len
    rw [List.length_map] at dl
    refine ⟨pl, rfl, ⟨xs, SqL.of e3⟩, fun D hD => ?_⟩
    have good : ∀ (ks : List Int) (i : Nat), (∀ k, k ∈ ks ↔ ∃ q ∈ (pairsAt W r).take i, k = (q.1 : Int) ∧ q.2 ∈ memb W c) → ks.Nodup → ks.length ≤ 10 := fun ks i hk nd => by
      have := le_of_sub nd (b := intsOf (List.range W.many)) fun k hk' => by
        obtain ⟨q, hq, e, _⟩ := (hk k).mp hk'
        rw [e]
        exact mem_ints'.mpr (List.mem_range.mpr (hqs.2 q (List.mem_of_mem_take hq)).1)
      rw [List.length_map, List.length_range] at this
      omega
    refine scmp_by xs.length (fun i σ H' => (∃ o1 o2, σ = [o1, o2, some (.ref q1)]) ∧ Same H3 H' ∧ ∃ ks : List Int, H' D = some (setO P w D ks) ∧ ks.Nodup ∧ ∀ k, k ∈ ks ↔ ∃ q ∈ (pairsAt W r).take i, k = (q.1 : Int) ∧ q.2 ∈ memb W c) ⟨⟨_, _, rfl⟩, same_new hD _, [], upd_same, List.nodup_nil, fun k => by simp⟩ ?_ ?_
    · rintro σ H' ⟨_, s4, ks, e4, nd4, hm4⟩
      refine ⟨⟨xs, SqL.of (s4 _ _ e3), Nat.le_refl _⟩, ?_⟩
      have g4 := good ks xs.length hm4 nd4
      refine ⟨D, ks, rfl, e4, by omega, fun q4 ns hq4 hp4 hs4 => ?_⟩
      have s34 := s2.trans (s3.trans s4)
      refine q q4 _ (same_new' s34 hq4 _) (none_of_same s34 hq4) ?_
      rw [upd_same, natV_ints, sorted_one (ms := memb W (.som r c)) hp4 nd4 hs4 (fun k => ?_) (memb_flt ok (.som r c)).lt]
      rw [hm4, mem_ints, dl, List.take_length]
      constructor
      · rintro ⟨q, hq, rfl, hc'⟩
        refine ⟨q.1, List.mem_filter.mpr ⟨List.mem_range.mpr (hqs.2 q hq).1, ?_⟩, rfl⟩
        rw [List.any_eq_true]
        exact ⟨q, hq, by rw [decide_eq_true rfl, decide_eq_true hc']; rfl⟩
      · rintro ⟨i, hi, rfl⟩
        obtain ⟨q, hq, h5⟩ := List.any_eq_true.mp (List.mem_filter.mp hi).2
        rw [Bool.and_eq_true] at h5
        exact ⟨q, hq, by rw [of_decide_eq_true h5.1], of_decide_eq_true h5.2⟩
    · rintro i σ H' hi ⟨⟨o1, o2, rfl⟩, s4, ks, e4, nd4, hm4⟩
      refine ⟨⟨xs, xs[i], SqL.of (s4 _ _ e3), by simp [hi]⟩, ?_⟩
      rintro x H5 ⟨rfl, hx5⟩
      obtain ⟨q, t, a1, rfl, a3⟩ := das_at (d3.mono s4) (hx5 _ (SqL.of (s4 _ _ e3)))
      have tk : (pairsAt W r).take (i + 1) = (pairsAt W r).take i ++ [q] := by rw [List.take_add_one, a1]; rfl
      refine ⟨t, _, rfl, SqT.of a3, rfl, _, _, rfl, _, _, rfl, rfl, ?_⟩
      refine ⟨_, rfl, _, rfl, _, q1, _, rfl, rfl, s4 _ _ (s3 _ _ eq1), _, rfl, ?_⟩
      have hin : ((q.2 : Nat) : Int) ∈ gather [] (intsOf (memb W c)) ↔ q.2 ∈ memb W c := by
        rw [mem_gather, mem_ints']
        simp
      refine ite2 (fun h5 => ?_) (fun h5 => ?_)
      · have h5' := hin.mp (of_decide_eq_true h5)
        have g4 := good ks i hm4 nd4
        refine ⟨_, rfl, ks, _, rfl, e4, by omega, ⟨_, _, rfl⟩, same_upd s4 hD, addK ks (q.1 : Int), upd_same, addK_nd nd4, fun k => ?_⟩
        rw [mem_addK, hm4, tk]
        constructor
        · rintro (⟨q', hq', e⟩ | rfl)
          · exact ⟨q', List.mem_append_left _ hq', e⟩
          · exact ⟨q, List.mem_append_right _ (by simp), rfl, h5'⟩
        · rintro ⟨q', hq', e1, e2⟩
          rcases List.mem_append.mp hq' with z | z
          · exact .inl ⟨q', z, e1, e2⟩
          · rw [List.mem_singleton.mp z] at e1; exact .inr e1
      · have h5' : q.2 ∉ memb W c := fun z => h5 (decide_eq_true (hin.mpr z))
        refine ⟨⟨_, _, rfl⟩, s4, ks, e4, nd4, fun k => ?_⟩
        rw [hm4, tk]
        constructor
        · rintro ⟨q', hq', e⟩
          exact ⟨q', List.mem_append_left _ hq', e⟩
        · rintro ⟨q', hq', e1, e2⟩
          rcases List.mem_append.mp hq' with z | z
          · exact ⟨q', z, e1, e2⟩
          · rw [List.mem_singleton.mp z] at e2; exact absurd e2 h5'
theorem members_none : FnOk P w K mg base CX0 0 f fd ["world", "kind"] (spMembers 0) := by
  have no : ∀ vs H Q E, ¬ spMembers 0 vs H Q E := fun vs H Q E h => by
    obtain ⟨v, u, W, k, _, _, _, _, h, _⟩ := h
    omega
  exact ⟨fun vs H Q E h => absurd h (no vs H Q E), fun A outer s H args us vs Q E _ _ _ _ h => absurd h (no vs H Q E)⟩
theorem members_all (F : Fun K "members" "members" sMembers f fd) (bGm : Binds K fd ["world", "kind"] []) (mGm : mg "members" = some (.ref f))
    (Gt : FnOk P w K mg base CX0 1 a1 d1 ["world", "tie"] spTie) (bGt : Binds K d1 ["world", "tie"] []) (kGt : PySem.W.keepIn K (.ref a1) = true) (mGt : mg "tie_pairs" = some (.ref a1))
    (mr : mg "range" = none) (mls : mg "list" = none) (mi : mg "isinstance" = none) (ms : mg "str" = none) (mset : mg "set" = none) (mso : mg "sorted" = none) : ∀ n : Nat, FnOk P w K mg base CX0 (n + 1) f fd ["world", "kind"] (spMembers n)
  | 0 => members_none.mono (by decide)
  | n + 1 => ok_members (by omega) F (members_all F bGm mGm Gt bGt kGt mGt mr mls mi ms mset mso n) bGm mGm Gt bGt kGt mGt mr mls mi ms mset mso
end
end K08
namespace K08
open PySem L2
theorem kit_tup_tup (K : PySem.W.Frag) : PySem.W.kitOne K (.type "tuple") (.type "tuple") = some true := by
  first | rfl | decide | with_unfolding_all rfl
theorem kit_str_tup (K : PySem.W.Frag) : PySem.W.kitOne K (.type "str") (.type "tuple") = some false := by
  first | rfl | decide | with_unfolding_all rfl
theorem ndp : ((([("_law_p" : Str)] : List Str) ++ []) : List Str).Nodup := by decide +kernel
theorem ndpnf : ((([("_law_p" : Str)] : List Str) ++ [("_law_near" : Str), ("_law_far" : Str)]) : List Str).Nodup := by decide +kernel
theorem ndpk : ((([("_law_p" : Str)] : List Str) ++ [("_law_kind_here" : Str)]) : List Str).Nodup := by decide +kernel
theorem ndpkw : ((([("_law_p" : Str)] : List Str) ++ [("_law_kind_here" : Str), ("_law_world_here" : Str)]) : List Str).Nodup := by decide +kernel
noncomputable def rowV (m : Nat) (f : Nat → Bool) : List V := (List.range m).map fun i => V.bl (f i)
theorem rowV_len (m : Nat) (f : Nat → Bool) : (rowV m f).length = m := by simp [rowV]
theorem rowV_at {m : Nat} {f : Nat → Bool} {i : Nat} (h : i < m) : (rowV m f)[i]? = some (.bl (f i)) := by simp [rowV, h]
theorem rowV_atI {m : Nat} {f : Nat → Bool} {i : Nat} (h : i < m) : atI (rowV m f) (i : Int) = some (.bl (f i)) := atI_nat (rowV_at h)
theorem rowV_ix {m : Nat} {f : Nat → Bool} {i : Nat} (h : i < m) : ixN (rowV m f).length (i : Int) = some i := by
  unfold ixN
  rw [rowV_len, if_pos (by omega), if_pos (by omega)]
  simp
theorem rowV_set {m : Nat} {f : Nat → Bool} {p : Nat} {b : Bool} : (rowV m f).set p (.bl b) = rowV m fun i => if i = p then b else f i := by
  refine List.ext_getElem? fun i => ?_
  rw [List.getElem?_set]
  by_cases h : i < m
  · by_cases e : p = i
    · subst e
      rw [if_pos rfl, if_pos (by rw [rowV_len]; exact h), rowV_at h, if_pos rfl]
    · rw [if_neg e, rowV_at h, rowV_at h, if_neg (Ne.symm e)]
  · have e1 : (rowV m fun i => if i = p then b else f i)[i]? = none := List.getElem?_eq_none (by rw [rowV_len]; omega)
    have e2 : (rowV m f)[i]? = none := List.getElem?_eq_none (by rw [rowV_len]; omega)
    rw [e1]
    by_cases e : p = i
    · subst e
      rw [if_pos rfl, if_neg (by rw [rowV_len]; exact h)]
    · rw [if_neg e, e2]
theorem rowV_succ (m : Nat) (f : Nat → Bool) : rowV (m + 1) f = rowV m f ++ [.bl (f m)] := by simp [rowV, List.range_succ]
noncomputable abbrev inM (W : Wd) (k : Kd) (i : Nat) : Bool := decide (i ∈ memb W k)
noncomputable def spRow (n : Nat) : Sp := fun vs H Q _ => ∃ (v u : V) (W : Wd) (k : Kd), vs = [v, u] ∧ IsW H W v ∧ WdOk W ∧ IsK H k u ∧ k.dep < n ∧ k.dep ≤ 50 ∧
  ∀ (p : Addr) (H' : Hp), Same H H' → H p = none → H' p = some (.lst (rowV W.many (inM W k))) → Q (.ref p) H'
theorem rowV_congr {m : Nat} {f g : Nat → Bool} (h : ∀ i, i < m → f i = g i) : rowV m f = rowV m g := by
  unfold rowV
  exact List.map_congr_left fun i hi => by rw [h i (List.mem_range.mp hi)]
section
variable {P : Program} {w : World} {K : PySem.W.Frag} {mg : Str → Option Value} {base : Heap} {f g e d a1 a2 a3 a4 : Addr} {fd gd' ed dd d1 d2 d3 d4 : FuncData}
theorem scRow : FnScope ["_law_world_here", "_law_kind_here", "_law_many", "_law_far", "_law_near", "_law_p", "_law_row_here", "_law_q"] ["_law_world_here", "_law_kind_here"] (defScope sRow) := ⟨rfl, rfl, rfl, by decide +kernel, rfl, by decide +kernel, by decide +kernel⟩
theorem ok_row {n k0 : Nat} (F : Fun K "_law_row" "_law_row" sRow f fd) (Gr : FnOk P w K mg base CX0 k0 f fd ["_law_world_here", "_law_kind_here"] (spRow n)) (bGr : Binds K fd ["_law_world_here", "_law_kind_here"] []) (mGr : mg "_law_row" = some (.ref f))
    (mr : mg "range" = none) (mi : mg "isinstance" = none) (mt : mg "tuple" = none) :
    FnOk P w K mg base CX0 (k0 + 1) f fd ["_law_world_here", "_law_kind_here"] (spRow (n + 1)) := by
  refine F.ok scRow (fun vs H Q E h => ?_) (fun cdv A outer s H vs Q E hr h => ?_)
  · obtain ⟨v, u, W, k, rfl, _⟩ := h; rfl
  obtain ⟨v, u, W, k, rfl, hW, ok, hk, hd, hd50, q⟩ := h
  have hrr := hr
  have kGr := F.kp
  have hu : (A.deeper (PyProof.Rows.envOfC "_law_row" (defScope sRow) s.heap.objs.size f cdv)).units + 1 < cLine := by have := hr.un; omega
  refine ⟨_, @pss_cons _ _ _ _ _ (by exact ps_set (i := 2) scRow.nd rfl (Or.inl rfl) (pe_ix ix_tup (pv 0) pe_int (fun _ _ => rfl)))
    (@pss_cons _ _ _ _ _ (by exact ps_if (pt_val (pe_callB call_isinst rfl mi PyProof.Rows.boot_isinstance (pa_cons (pv 1) (pa_cons (pe_bltn (v := .ty "tuple") rfl mt PyProof.Rows.boot_tuple rfl) pa_nil)))) (@pss_cons _ _ _ _ _ (by exact ps_set (i := 3) scRow.nd rfl (Or.inr rfl) (pe_call Gr hrr rfl mGr kGr bGr .nil pass0 (pa_cons (pv 0) (pa_cons (pe_ix ix_tup (pv 1) pe_int (fun _ _ => rfl)) pa_nil)))) (@pss_cons _ _ _ _ _ (by exact ps_if (pt_cmpR op_eq (pe_ix ix_tup (pv 1) pe_int (fun _ _ => rfl)) pe_str (nomark _)) (@pss_cons _ _ _ _ _ (by exact ps_set (i := 4) scRow.nd rfl (Or.inr rfl) (pe_call Gr hrr rfl mGr kGr bGr .nil pass0 (pa_cons (pv 0) (pa_cons (pe_ix ix_tup (pv 1) pe_int (fun _ _ => rfl)) pa_nil)))) (@pss_one _ _ _ (by exact ps_ret (pe_comp ["_law_p"] ["_law_near", "_law_far"] [4, 3] rfl (pi_range1 rfl mr (pa_cons (pv 2) pa_nil)) (fun _ _ _ => pg_name (i := 0) ndpnf rfl (Or.inl rfl)) (fun _ _ _ => pts_nil) (fun _ _ _ => (pe_and (pe_ix (r := rIxL K) ix_list (pv 1) (pv 0) (fun _ _ => rfl)) (pe_one (pe_ix (r := rIxL K) ix_list (pv 2) (pv 0) (fun _ _ => rfl))))))))) pss_nil) (@pss_cons _ _ _ _ _ (by exact ps_setC (i := 6) ["_law_p"] [] [] scRow.nd rfl rfl (pi_range1 rfl mr (pa_cons (pv 2) pa_nil)) (fun _ _ _ => pg_name (i := 0) ndp rfl (Or.inl rfl)) (fun _ _ _ => pts_nil) (fun _ _ _ => pe_bl)) (@pss_cons _ _ _ _ _ (by exact ps_for PassesOwn.never rfl (pi_list (pe_dget2 hu (pe_ix ix_tup (pv 0) pe_int (fun _ _ => rfl)) (pe_ix ix_tup (pv 1) pe_int (fun _ _ => rfl)) (pe_lst pa_nil) ⟨rfl, rfl, rfl, rfl⟩)) (pg_tup rfl (pgs_cons (pg_name (i := 5) scRow.nd rfl (Or.inl rfl)) (pgs_cons (pg_name (i := 7) scRow.nd rfl (Or.inl rfl)) pgs_nil))) (@pss_one _ _ _ (by exact ps_asg (pe_or (pe_ix ix_list (pv 6) (pv 5) (fun _ _ => rfl)) (pe_one (pe_ix ix_list (pv 3) (pv 7) (fun _ _ => rfl)))) (pg_sub (pv 6) (pv 5) set_list)))) (@pss_one _ _ _ (by exact ps_ret (pv 6))))))) pss_nil)
    (@pss_cons _ _ _ _ _ (by exact ps_if (PW.pt (pw_or (pt_cmpR (op_eqK hr.units) (pv 1) pe_str (nomark _)) (pw_or1 (pt_cmpR (op_eqK hr.units) (pv 1) pe_str (nomark _))))) (@pss_one _ _ _ (by exact ps_ret (pe_comp ["_law_p"] ["_law_kind_here"] [1] rfl (pi_range1 rfl mr (pa_cons (pv 2) pa_nil)) (fun _ _ _ => pg_name (i := 0) ndpk rfl (Or.inl rfl)) (fun _ _ _ => pts_nil) (fun _ _ _ => (pe_cmpR (op_eqK hr.units) (pv 1) pe_str (nomark _)))))) pss_nil)
    (@pss_one _ _ _ (by exact ps_ret (pe_comp ["_law_p"] ["_law_kind_here", "_law_world_here"] [1, 0] rfl (pi_range1 rfl mr (pa_cons (pv 2) pa_nil)) (fun _ _ _ => pg_name (i := 0) ndpkw rfl (Or.inl rfl)) (fun _ _ _ => pts_nil) (fun _ _ _ => (pe_cmpR (r := rIn K false) op_in_seq (pv 0) (pe_dget2 hu (pe_ix (r := rIxT K) ix_tup (pv 2) pe_int (fun _ _ => rfl)) (pv 1) (pe_lst pa_nil) ⟨rfl, rfl, rfl, rfl⟩) rfl))))))), ?_⟩
  have hW' := hW
  obtain ⟨p, dk, dp, dh, lk, lp, lh, rfl, h0, h1, g1, h2, g2, h3, g3⟩ := hW
  have m10 := ok.many
  refine ⟨_, rfl, p, _, 0, _, rfl, rfl, SqT.of h0, atI_nat (j := 0) rfl, ?_⟩
  cases k with
  | nm x =>
    obtain rfl : u = .str x := hk
    refine ⟨_, rfl, _, _, _, false, rfl, TyOf.str x, kit_str_tup K, _, rfl, iteF ?_⟩
    have wa : Kd.nm x = anyt → ∀ i, i < W.many → decide (Kd.nm x = anyt) = inM W (.nm x) i := fun e i hi => by
      have e1 : x = "anything" := by injection e
      unfold inM memb
      rw [if_pos e1, decide_eq_true e, decide_eq_true (List.mem_range.mpr hi)]
    have wn : Kd.nm x = noth → ∀ i, i < W.many → decide (Kd.nm x = anyt) = inM W (.nm x) i := fun e i hi => by
      have e2 : x = "nothing" := by injection e
      subst e2
      have e1 : ¬ ("nothing" : Str) = "anything" := by decide +kernel
      unfold inM memb
      rw [if_neg e1, if_pos rfl, decide_eq_false (fun z => e1 (by injection z))]
      rfl
    refine ⟨_, rfl, .nm x, anyt, rfl, rfl, by show 0 ≤ 60; omega, _, rfl, ite2 (fun c0 => iteT ?_) (fun c0 => ⟨_, rfl, .nm x, noth, rfl, rfl, by show 0 ≤ 60; omega, _, rfl, ite2 (fun c1 => ?_) (fun c1 => ?_)⟩)⟩
    iterate 2
      · have hm : ∀ i, i < W.many → decide (Kd.nm x = anyt) = inM W (.nm x) i := by first | exact wa (of_decide_eq_true c0) | exact wn (of_decide_eq_true c1)
        refine ⟨_, rfl, _, rfl, by omega, by omega, fun D hD => ?_⟩
        refine cmp_by W.many (fun i σ H' => (∃ o, σ = [o, some (.str x)]) ∧ Same H H' ∧ H' D = some (.lst (rowV i (inM W (.nm x))))) ⟨⟨_, rfl⟩, same_new hD _, upd_same⟩ ?_ ?_
        · rintro σ H' ⟨_, s', e'⟩
          exact ⟨by show (W.many : Int).toNat ≤ W.many; omega, q D H' s' hD e'⟩
        · rintro i σ H' hi ⟨⟨o, rfl⟩, s', e'⟩
          refine ⟨by show i < (W.many : Int).toNat; omega, ?_⟩
          rintro y H1 ⟨rfl, rfl⟩
          refine ⟨_, rfl, .nm x, anyt, rfl, rfl, by show 0 ≤ 60; omega, _, e', by rw [rowV_len]; exact small1000 (by omega), ⟨_, rfl⟩, same_upd s' hD, ?_⟩
          rw [upd_same, rowV_succ, hm i hi]
    have n1 : x ≠ "anything" := fun z => c0 (decide_eq_true (by rw [z]))
    have n2 : x ≠ "nothing" := fun z => c1 (decide_eq_true (by rw [z]))
    refine ⟨_, rfl, _, rfl, by omega, by omega, fun D hD => ?_⟩
    refine cmp_by W.many (fun i σ H' => (∃ o, σ = [o, some (.str x), some (.ref p)]) ∧ Same H H' ∧ H' D = some (.lst (rowV i (inM W (.nm x))))) ⟨⟨_, rfl⟩, same_new hD _, upd_same⟩ ?_ ?_
    · rintro σ H' ⟨_, s', e'⟩
      exact ⟨by show (W.many : Int).toNat ≤ W.many; omega, q D H' s' hD e'⟩
    · rintro i σ H' hi ⟨⟨o, rfl⟩, s', e'⟩
      refine ⟨by show i < (W.many : Int).toNat; omega, ?_⟩
      rintro y H1 ⟨rfl, rfl⟩
      refine ⟨_, rfl, _, rfl, p, _, 1, _, rfl, rfl, SqT.of (s' _ _ h0), atI_nat (j := 1) rfl, dk, rfl, .inl ⟨lk, .inl (s' _ _ h1)⟩, _, rfl, Nat.zero_le _, fun l hl => ?_⟩
      have s2 := same_new (H := H1) hl (.lst [])
      have e2 := s2 _ _ e'
      refine ⟨_, DGet.k (k := Sum.inr x) (s2 _ _ (s' _ _ h1)), ?_⟩
      have fin : ∀ (a : Addr) (ms : List Nat), (upd H1 l (.lst [])) a = some (.lst (natV ms)) → memb W (.nm x) = ms → ∃ (pp : Addr) (ys : List V), (V.ref a) = .ref pp ∧ (SqL K (upd H1 l (.lst [])) pp ys ∨ SqT K (upd H1 l (.lst [])) pp ys) ∧ flatV (.int (0 + (i : Int))) = true ∧ ys.all flatV = true ∧ inV (.int (0 + (i : Int))) ys = inM W (.nm x) i := fun a ms ha em =>
        ⟨a, _, rfl, .inl (SqL.of ha), rfl, flat_nat ms, by rw [Int.zero_add, in_nat i ms, inM, em]⟩
      have done : ∃ xs, (upd H1 l (.lst [])) D = some (.lst xs) ∧ xs.length < sizeLine ∧ ((∃ o, ([some (V.int (0 + (i : Int))), some (.str x), some (.ref p)] : St) = [o, some (.str x), some (.ref p)]) ∧ Same H (upd (upd H1 l (.lst [])) D (.lst (xs ++ [.bl (inM W (.nm x) i)]))) ∧ upd (upd H1 l (.lst [])) D (.lst (xs ++ [.bl (inM W (.nm x) i)])) D = some (.lst (rowV (i + 1) (inM W (.nm x))))) :=
        ⟨_, e2, by rw [rowV_len]; exact small1000 (by omega), ⟨_, rfl⟩, same_upd (s'.trans s2) hD, by rw [upd_same, rowV_succ]⟩
      rcases kinds_get (x := x) g1 ok.nd with ⟨ms, a, hm, e, ha⟩ | ⟨hn, e⟩
      · rw [e]
        obtain ⟨pp, ys, h5, h6, h7, h8, h9⟩ := fin a ms (s2 _ _ (s' _ _ ha)) (by unfold memb; rw [if_neg n1, if_neg n2, look_mem ok.nd.k hm]; rfl)
        refine ⟨pp, ys, h5, h6, h7, h8, ?_⟩
        rw [h9]
        exact done
      · rw [e]
        obtain ⟨pp, ys, h5, h6, h7, h8, h9⟩ := fin l [] upd_same (by unfold memb; rw [if_neg n1, if_neg n2, look_none hn]; rfl)
        refine ⟨pp, ys, h5, h6, h7, h8, ?_⟩
        rw [h9]
        exact done
  | two a b =>
    obtain ⟨pk, x, y, rfl, hp, ha, hb⟩ := id hk
    simp only [Kd.dep] at hd hd50
    refine ⟨_, rfl, _, _, _, true, rfl, TyOf.tup hp, kit_tup_tup K, _, rfl, iteT ?_⟩
    refine ⟨_, rfl, _, rfl, pk, _, 2, _, rfl, rfl, SqT.of hp, atI_nat (j := 2) rfl, _, y, W, b, rfl, hW', ok, hb, by omega, by omega, fun p1 H1 s1 n1 e1 => ?_⟩
    refine ⟨_, rfl, pk, _, 0, _, rfl, rfl, SqT.of (s1 _ _ hp), atI_nat (j := 0) rfl, rfl, _, rfl, ?_⟩
    rw [dec_str, beq_self_eq_true]
    refine iteT ⟨_, rfl, _, rfl, pk, _, 1, _, rfl, rfl, SqT.of (s1 _ _ hp), atI_nat (j := 1) rfl, _, x, W, a, rfl, hW'.mono s1, ok, IsK.mono s1.tups ha, by omega, by omega, fun p2 H2 s2 n2 e2 => ?_⟩
    refine ⟨_, rfl, _, rfl, by omega, by omega, fun D hD => ?_⟩
    have s12 := s1.trans s2
    refine cmp_by W.many (fun i σ H' => (∃ o, σ = [o, some (.ref p2), some (.ref p1)]) ∧ Same H2 H' ∧ H' D = some (.lst (rowV i (inM W (.two a b))))) ⟨⟨_, rfl⟩, same_new hD _, upd_same⟩ ?_ ?_
    · rintro σ H' ⟨_, s', e'⟩
      exact ⟨by show (W.many : Int).toNat ≤ W.many; omega, q D H' (s12.trans s') (none_of_same s12 hD) e'⟩
    · rintro i σ H' hi ⟨⟨o, rfl⟩, s', e'⟩
      refine ⟨by show i < (W.many : Int).toNat; omega, ?_⟩
      rintro z H3 ⟨rfl, rfl⟩
      have both : inM W (.two a b) i = (inM W a i && inM W b i) := by
        unfold inM
        rw [memb]
        by_cases c1 : decide (i ∈ memb W a) && decide (i ∈ memb W b)
        · rw [c1]
          exact decide_eq_true (List.mem_filter.mpr ⟨List.mem_range.mpr hi, c1⟩)
        · rw [Bool.not_eq_true] at c1
          rw [c1]
          exact decide_eq_false fun z => by
            have := (List.mem_filter.mp z).2
            rw [c1] at this
            cases this
      have tail : ∃ xs, H3 D = some (.lst xs) ∧ xs.length < sizeLine ∧ ((∃ o, ([some (V.int (0 + (i : Int))), some (.ref p2), some (.ref p1)] : St) = [o, some (.ref p2), some (.ref p1)]) ∧ Same H2 (upd H3 D (.lst (xs ++ [.bl (inM W a i && inM W b i)]))) ∧ upd H3 D (.lst (xs ++ [.bl (inM W a i && inM W b i)])) D = some (.lst (rowV (i + 1) (inM W (.two a b))))) :=
        ⟨_, e', by rw [rowV_len]; exact small1000 (by omega), ⟨_, rfl⟩, same_upd s' hD, by rw [upd_same, rowV_succ, both]⟩
      refine ⟨_, rfl, _, rfl, p2, _, _, _, rfl, rfl, SqL.of (s' _ _ e2), by rw [Int.zero_add]; exact rowV_atI hi, _, rfl, ?_⟩
      cases ca : inM W a i with
      | true =>
        rw [ca] at tail
        exact iteT ⟨_, rfl, _, rfl, p1, _, _, _, rfl, rfl, SqL.of (s' _ _ (s2 _ _ e1)), by rw [Int.zero_add]; exact rowV_atI hi, tail⟩
      | false =>
        rw [ca] at tail
        exact iteF tail
  | som r c =>
    obtain ⟨pk, y, rfl, hp, hc⟩ := id hk
    simp only [Kd.dep] at hd hd50
    refine ⟨_, rfl, _, _, _, true, rfl, TyOf.tup hp, kit_tup_tup K, _, rfl, iteT ?_⟩
    refine ⟨_, rfl, _, rfl, pk, _, 2, _, rfl, rfl, SqT.of hp, atI_nat (j := 2) rfl, _, y, W, c, rfl, hW', ok, hc, by omega, by omega, fun p1 H1 s1 n1 e1 => ?_⟩
    refine ⟨_, rfl, pk, _, 0, _, rfl, rfl, SqT.of (s1 _ _ hp), atI_nat (j := 0) rfl, rfl, _, rfl, ?_⟩
    rw [dec_ne (Ne.symm both_ne_some)]
    refine iteF ⟨_, rfl, _, rfl, by omega, by omega, fun D hD => ?_⟩
    refine cmp_by W.many (fun i σ H' => (∃ o, σ = [o]) ∧ Same H1 H' ∧ H' D = some (.lst (rowV i fun _ => false))) ⟨⟨_, rfl⟩, same_new hD _, upd_same⟩ ?_ ?_
    · rintro σ H2 ⟨_, s2, e2⟩
      refine ⟨by show (W.many : Int).toNat ≤ W.many; omega, ?_⟩
      have s12 := s1.trans s2
      have hDH : H D = none := none_of_same s1 hD
      refine ⟨_, rfl, p, _, 2, _, rfl, rfl, SqT.of (s12 _ _ h0), atI_nat (j := 2) rfl, dp, rfl, .inl ⟨lp, .inl (s12 _ _ h2)⟩, _, rfl, pk, _, 1, _, rfl, rfl, SqT.of (s12 _ _ hp), atI_nat (j := 1) rfl, Nat.zero_le _, fun l hl => ?_⟩
      have s3 := same_new hl (.lst [])
      refine ⟨_, DGet.k (k := Sum.inr r) (s3 _ _ (s12 _ _ h2)), ?_⟩
      have hqs : PairsOk W.many (pairsAt W r) := by
        cases h : look W.pairs r with
        | none => unfold pairsAt; rw [h]; exact ⟨Nat.zero_le _, fun q hq => (nomatch hq)⟩
        | some qs => unfold pairsAt; rw [h]; exact ok.pr r qs (mem_look h)
      obtain ⟨a, xs, ea, ha, hd3, naD⟩ : ∃ (a : Addr) (xs : List V), (valV lp (Sum.inr r)).getD (.ref l) = .ref a ∧ (upd H2 l (.lst [])) a = some (.lst xs) ∧ Das (upd H2 l (.lst [])) ((pairsAt W r).map pairD) xs ∧ a ≠ D := by
        rcases pairs_get (x := r) g2 ok.nd with ⟨qs, a, xs, hm, e, ha, hd⟩ | ⟨hn, e⟩
        · exact ⟨a, xs, by rw [e]; rfl, s3 _ _ (s12 _ _ ha), by unfold pairsAt; rw [hm]; exact (hd.mono s12).mono s3, ne_of_none (s1 _ _ ha) hD⟩
        · exact ⟨l, [], by rw [e]; rfl, upd_same, by unfold pairsAt; rw [hn]; rfl, Ne.symm (ne_of_none e2 hl)⟩
      rw [ea]
      have e3 := s3 _ _ e2
      have s23 := s2.trans s3
      have s13 := s12.trans s3
      have e13 := s23 _ _ e1
      generalize upd H2 l (.lst []) = H3 at ha hd3 e3 s13 e13 ⊢
      refine ⟨a, rfl, ⟨xs, SqL.of ha⟩, for_list (xs := xs) (fun i σ H' => ∃ o5 o7 : Option V, σ = [some (.ref p), some (.ref pk), some (.int (W.many : Int)), some (.ref p1), none, o5, some (.ref D), o7] ∧ Same H H' ∧ Tups H3 H' ∧ H' a = some (.lst xs) ∧ H' p1 = some (.lst (rowV W.many (inM W c))) ∧
        H' D = some (.lst (rowV W.many fun i' => ((pairsAt W r).take i).any fun q => decide (q.1 = i') && inM W c q.2))) ⟨_, _, rfl, s13, Tups.refl _, ha, e13, by rw [e3]; simp⟩ ?_ ?_ ?_⟩
      · rintro i σ H' _ ⟨o5, o7, _, _, _, h4, _⟩
        exact SqL.of h4
      · rintro i x σ H' hx ⟨o5, o7, rfl, s4, t4, ha4, e4, eD4⟩
        obtain ⟨q', t, a1, rfl, a3⟩ := das_at hd3 hx
        have b := hqs.2 q' (List.mem_of_getElem? a1)
        have tk : (pairsAt W r).take (i + 1) = (pairsAt W r).take i ++ [q'] := by rw [List.take_add_one, a1]; rfl
        have nDp1 : p1 ≠ D := ne_of_none e1 hD
        have hDp : ∀ (v : Bool), v = ((((pairsAt W r).take i).any fun q => decide (q.1 = q'.1) && inM W c q.2) || inM W c q'.2) →
            Same H (upd H' D (.lst ((rowV W.many fun i' => ((pairsAt W r).take i).any fun q => decide (q.1 = i') && inM W c q.2).set q'.1 (.bl v)))) ∧ Tups H3 (upd H' D (.lst ((rowV W.many fun i' => ((pairsAt W r).take i).any fun q => decide (q.1 = i') && inM W c q.2).set q'.1 (.bl v)))) ∧ (upd H' D (.lst ((rowV W.many fun i' => ((pairsAt W r).take i).any fun q => decide (q.1 = i') && inM W c q.2).set q'.1 (.bl v)))) a = some (.lst xs) ∧ (upd H' D (.lst ((rowV W.many fun i' => ((pairsAt W r).take i).any fun q => decide (q.1 = i') && inM W c q.2).set q'.1 (.bl v)))) p1 = some (.lst (rowV W.many (inM W c))) ∧
            (upd H' D (.lst ((rowV W.many fun i' => ((pairsAt W r).take i).any fun q => decide (q.1 = i') && inM W c q.2).set q'.1 (.bl v)))) D = some (.lst (rowV W.many fun i' => ((pairsAt W r).take (i + 1)).any fun q => decide (q.1 = i') && inM W c q.2)) := by
          rintro v rfl
          refine ⟨same_upd s4 hDH, t4.trans (tups_lst eD4), by rw [upd_ne naD]; exact ha4, by rw [upd_ne nDp1]; exact e4, ?_⟩
          rw [upd_same, rowV_set, tk]
          congr 2
          refine rowV_congr fun i' _ => ?_
          rw [List.any_append]
          by_cases ei : i' = q'.1
          · subst ei
            rw [if_pos rfl]
            simp
          · rw [if_neg ei]
            have : decide (q'.1 = i') = false := decide_eq_false (Ne.symm ei)
            simp [this]
        refine ⟨t, _, rfl, SqT.of (t4 _ _ a3), rfl, _, _, rfl, _, _, rfl, rfl, ?_⟩
        refine ⟨_, rfl, _, rfl, D, _, _, _, rfl, rfl, SqL.of eD4, rowV_atI b.1, _, rfl, ?_⟩
        cases cv : (((pairsAt W r).take i).any fun q => decide (q.1 = q'.1) && inM W c q.2) with
        | true =>
          rw [cv] at hDp
          refine iteT ⟨_, rfl, _, rfl, D, _, _, _, rfl, rfl, eD4, rowV_ix b.1, _, _, rfl, hDp true rfl⟩
        | false =>
          rw [cv] at hDp
          refine iteF ⟨_, rfl, _, rfl, p1, _, _, _, rfl, rfl, SqL.of e4, rowV_atI b.2, _, rfl, _, rfl, D, _, _, _, rfl, rfl, eD4, rowV_ix b.1, _, _, rfl, hDp _ rfl⟩
      · rintro σ H' ⟨o5, o7, rfl, s4, t4, ha4, e4, eD4⟩
        refine ⟨_, rfl, q D H' s4 hDH ?_⟩
        rw [eD4]
        congr 2
        have dl := hd3.len
        rw [List.length_map] at dl
        rw [dl, List.take_length]
        refine rowV_congr fun i hi => ?_
        unfold inM
        rw [memb]
        cases cv : ((pairsAt W r).any fun q => decide (q.1 = i) && decide (q.2 ∈ memb W c)) with
        | true => exact (decide_eq_true (List.mem_filter.mpr ⟨List.mem_range.mpr hi, cv⟩)).symm
        | false => exact (decide_eq_false fun z => by
            have := (List.mem_filter.mp z).2
            rw [cv] at this
            cases this).symm
    · rintro i σ H' hi ⟨⟨o, rfl⟩, s', e'⟩
      refine ⟨by show i < (W.many : Int).toNat; omega, ?_⟩
      rintro z H3 ⟨rfl, rfl⟩
      exact ⟨_, e', by rw [rowV_len]; exact small1000 (by omega), ⟨_, rfl⟩, same_upd s' hD, by rw [upd_same, rowV_succ]⟩
theorem row_none : FnOk P w K mg base CX0 0 f fd ["_law_world_here", "_law_kind_here"] (spRow 0) := by
  have no : ∀ vs H Q E, ¬ spRow 0 vs H Q E := fun vs H Q E h => by
    obtain ⟨v, u, W, k, _, _, _, _, h, _⟩ := h
    omega
  exact ⟨fun vs H Q E h => absurd h (no vs H Q E), fun A outer s H args us vs Q E _ _ _ _ h => absurd h (no vs H Q E)⟩
theorem row_all (F : Fun K "_law_row" "_law_row" sRow f fd) (bGr : Binds K fd ["_law_world_here", "_law_kind_here"] []) (mGr : mg "_law_row" = some (.ref f))
    (mr : mg "range" = none) (mi : mg "isinstance" = none) (mt : mg "tuple" = none) : ∀ n : Nat, FnOk P w K mg base CX0 (n + 1) f fd ["_law_world_here", "_law_kind_here"] (spRow n)
  | 0 => row_none.mono (by decide)
  | n + 1 => ok_row F (row_all F bGr mGr mr mi mt n) bGr mGr mr mi mt
end
end K08
namespace K08
open PySem L2
noncomputable def IsS (H : Hp) (x : Str) (a b : Kd) (v : V) : Prop := ∃ (t : Addr) (y z : V), v = .ref t ∧ H t = some (.tup [.str x, y, z]) ∧ IsK H a y ∧ IsK H b z
theorem IsS.mono {H H' : Hp} (s : Same H H') {x : Str} {a b : Kd} {v : V} (h : IsS H x a b v) : IsS H' x a b v := by
  obtain ⟨t, y, z, e, h1, h2, h3⟩ := h
  exact ⟨t, y, z, e, s _ _ h1, IsK.mono s.tups h2, IsK.mono s.tups h3⟩
noncomputable def everyB (W : Wd) (a b : Kd) : Bool := (memb W a).all fun i => decide (i ∈ memb W b)
noncomputable def noB (W : Wd) (a b : Kd) : Bool := (memb W a).all fun i => !decide (i ∈ memb W b)
noncomputable def keptK (W : Wd) (x : Str) (a b : Kd) : Bool := if x = "every" then everyB W a b else noB W a b
noncomputable def spKE : Sp := fun vs H Q _ => ∃ (v s : V) (W : Wd) (x : Str) (a b : Kd), vs = [v, s] ∧ IsW H W v ∧ WdOk W ∧ IsS H x a b s ∧ a.dep ≤ 24 ∧ b.dep ≤ 24 ∧ ∀ H', Same H H' → Q (.bl (everyB W a b)) H'
noncomputable def spKN : Sp := fun vs H Q _ => ∃ (v s : V) (W : Wd) (x : Str) (a b : Kd), vs = [v, s] ∧ IsW H W v ∧ WdOk W ∧ IsS H x a b s ∧ a.dep ≤ 24 ∧ b.dep ≤ 24 ∧ ∀ H', Same H H' → Q (.bl (noB W a b)) H'
theorem small_ints {W : Wd} (ok : WdOk W) (k : Kd) : ∀ i ∈ gather [] (intsOf (memb W k)), 0 ≤ i ∧ i < 10 := fun i hi => by
  rw [mem_gather, mem_ints] at hi
  rcases hi with z | ⟨j, hj, rfl⟩
  · cases z
  · have := (memb_flt ok k).2 j hj
    have := ok.many
    omega
theorem g_len {W : Wd} (ok : WdOk W) (k : Kd) : (gather [] (intsOf (memb W k))).length ≤ 10 := by
  have h1 := gather_len (r := intsOf (memb W k)) (ks := ([] : List Int))
  have h2 := (memb_flt ok k).len
  have h3 := ok.many
  rw [List.length_map] at h1
  simp at h1
  omega
theorem g_mem {W : Wd} {k : Kd} {i : Int} : i ∈ gather [] (intsOf (memb W k)) ↔ ∃ j ∈ memb W k, i = (j : Int) := by
  rw [mem_gather, mem_ints]
  simp
section
variable {P : Program} {w : World} {K : PySem.W.Frag} {mg : Str → Option Value} {base : Heap} {f g e d a1 a2 a3 a4 : Addr} {fd gd' ed dd d1 d2 d3 d4 : FuncData}
theorem scKE : FnScope ["world", "saying"] ["world", "saying"] (defScope sKEvery) := ⟨rfl, rfl, rfl, by decide +kernel, rfl, by decide +kernel, by decide +kernel⟩
theorem ok_kevery (F : Fun K "keeps_every" "keeps_every" sKEvery f fd) (ml : mg "len" = none) (mset : mg "set" = none)
    (Gm : FnOk P w K mg base CX0 27 a4 d4 ["world", "kind"] (spMembers 26)) (bGm : Binds K d4 ["world", "kind"] []) (kGm : PySem.W.keepIn K (.ref a4) = true) (mGm : mg "members" = some (.ref a4)) :
    FnOk P w K mg base CX0 28 f fd ["world", "saying"] spKE := by
  refine F.ok scKE (fun vs H Q E h => ?_) (fun cdv A outer s H vs Q E hr h => ?_)
  · obtain ⟨v, s, W, x, a, b, rfl, _⟩ := h; rfl
  obtain ⟨v, sy, W, x, a, b, rfl, hW, ok, hS, ha, hb, q⟩ := h
  have hrm := hr
  refine ⟨_, @pss_one _ _ _ (by exact ps_ret (pe_cmpR op_eq (pe_callB call_lenN rfl ml PySem.boot_len (pa_cons (pe_op op_subS (pe_callTy (call_set rfl) rfl mset PyProof.Rows.boot_set (pa_cons (pe_call Gm hrm rfl mGm kGm bGm .nil pass0 (pa_cons (pv 0) (pa_cons (pe_ix ix_tup (pv 1) pe_int (fun _ _ => rfl)) pa_nil))) pa_nil)) (pe_callTy (call_set rfl) rfl mset PyProof.Rows.boot_set (pa_cons (pe_call Gm hrm rfl mGm kGm bGm .nil pass0 (pa_cons (pv 0) (pa_cons (pe_ix ix_tup (pv 1) pe_int (fun _ _ => rfl)) pa_nil))) pa_nil))) pa_nil)) pe_int (nomark _))), ?_⟩
  obtain ⟨t, y, z, rfl, ht, ka, kb⟩ := hS
  have la := (memb_flt ok a).len
  have lb := (memb_flt ok b).len
  have m10 := ok.many
  refine ⟨_, rfl, _, rfl, t, _, 1, _, rfl, rfl, SqT.of ht, atI_nat (j := 1) rfl, v, y, W, a, rfl, hW, ok, ka, by omega, by omega, fun p1 H1 s1 n1 e1 => ?_⟩
  refine ⟨p1, intsOf (memb W a), rfl, SqL.of (by rw [← natV_ints]; exact e1), by rw [List.length_map]; omega, fun q1 hq1 => ?_⟩
  have s2 := same_new' s1 hq1 (setO P w q1 (gather [] (intsOf (memb W a))))
  have eq1 : (upd H1 q1 (setO P w q1 (gather [] (intsOf (memb W a))))) q1 = some (setO P w q1 (gather [] (intsOf (memb W a)))) := upd_same
  refine ⟨_, rfl, _, rfl, t, _, 2, _, rfl, rfl, SqT.of (s2 _ _ ht), atI_nat (j := 2) rfl, v, z, W, b, rfl, hW.mono s2, ok, IsK.mono s2.tups kb, by omega, by omega, fun p2 H2 s3 n2 e2 => ?_⟩
  refine ⟨p2, intsOf (memb W b), rfl, SqL.of (by rw [← natV_ints]; exact e2), by rw [List.length_map]; omega, fun q2 hq2 => ?_⟩
  have s4 := same_new' s3 hq2 (setO P w q2 (gather [] (intsOf (memb W b))))
  have eq1' := s3 _ _ eq1
  have n12 : q1 ≠ q2 := ne_of_none eq1' hq2
  refine ⟨q1, q2, _, _, rfl, rfl, n12, by rw [upd_ne n12]; exact eq1', upd_same, small_ints ok a, g_len ok a, fun q3 T n hq3 hn => ?_⟩
  refine ⟨q3, T, n, rfl, upd_same, rfl, ?_⟩
  have e3 : decide ((V.int (n : Int)) = .int 0) = everyB W a b := by
    unfold everyB
    rw [Bool.eq_iff_iff, decide_eq_true_eq, List.all_eq_true]
    constructor
    · intro h i hi
      have h0 : n = 0 := by injection h with h; omega
      have := (hn.mp h0) (i : Int) (g_mem.mpr ⟨i, hi, rfl⟩)
      obtain ⟨j, hj, e⟩ := g_mem.mp this
      have : i = j := by omega
      exact decide_eq_true (this ▸ hj)
    · intro h
      have h0 : n = 0 := hn.mpr fun k hk => by
        obtain ⟨i, hi, rfl⟩ := g_mem.mp hk
        exact g_mem.mpr ⟨i, of_decide_eq_true (h i hi), rfl⟩
      rw [h0]; rfl
  rw [e3]
  exact q _ (same_new' (s2.trans s4) hq3 _)
theorem scKN : FnScope ["world", "saying"] ["world", "saying"] (defScope sKNo) := ⟨rfl, rfl, rfl, by decide +kernel, rfl, by decide +kernel, by decide +kernel⟩
theorem ok_kno (F : Fun K "keeps_no" "keeps_no" sKNo f fd) (ml : mg "len" = none) (mset : mg "set" = none)
    (Gm : FnOk P w K mg base CX0 27 a4 d4 ["world", "kind"] (spMembers 26)) (bGm : Binds K d4 ["world", "kind"] []) (kGm : PySem.W.keepIn K (.ref a4) = true) (mGm : mg "members" = some (.ref a4)) :
    FnOk P w K mg base CX0 28 f fd ["world", "saying"] spKN := by
  refine F.ok scKN (fun vs H Q E h => ?_) (fun cdv A outer s H vs Q E hr h => ?_)
  · obtain ⟨v, s, W, x, a, b, rfl, _⟩ := h; rfl
  obtain ⟨v, sy, W, x, a, b, rfl, hW, ok, hS, ha, hb, q⟩ := h
  have hrm := hr
  refine ⟨_, @pss_one _ _ _ (by exact ps_ret (pe_cmpR op_eq (pe_callB call_lenS rfl ml PySem.boot_len (pa_cons (pe_op op_andS (pe_callTy (call_set rfl) rfl mset PyProof.Rows.boot_set (pa_cons (pe_call Gm hrm rfl mGm kGm bGm .nil pass0 (pa_cons (pv 0) (pa_cons (pe_ix ix_tup (pv 1) pe_int (fun _ _ => rfl)) pa_nil))) pa_nil)) (pe_callTy (call_set rfl) rfl mset PyProof.Rows.boot_set (pa_cons (pe_call Gm hrm rfl mGm kGm bGm .nil pass0 (pa_cons (pv 0) (pa_cons (pe_ix ix_tup (pv 1) pe_int (fun _ _ => rfl)) pa_nil))) pa_nil))) pa_nil)) pe_int (nomark _))), ?_⟩
  obtain ⟨t, y, z, rfl, ht, ka, kb⟩ := hS
  have la := (memb_flt ok a).len
  have lb := (memb_flt ok b).len
  have ga := g_len ok a
  have gb := g_len ok b
  have m10 := ok.many
  refine ⟨_, rfl, _, rfl, t, _, 1, _, rfl, rfl, SqT.of ht, atI_nat (j := 1) rfl, v, y, W, a, rfl, hW, ok, ka, by omega, by omega, fun p1 H1 s1 n1 e1 => ?_⟩
  refine ⟨p1, intsOf (memb W a), rfl, SqL.of (by rw [← natV_ints]; exact e1), by rw [List.length_map]; omega, fun q1 hq1 => ?_⟩
  have s2 := same_new' s1 hq1 (setO P w q1 (gather [] (intsOf (memb W a))))
  have eq1 : (upd H1 q1 (setO P w q1 (gather [] (intsOf (memb W a))))) q1 = some (setO P w q1 (gather [] (intsOf (memb W a)))) := upd_same
  refine ⟨_, rfl, _, rfl, t, _, 2, _, rfl, rfl, SqT.of (s2 _ _ ht), atI_nat (j := 2) rfl, v, z, W, b, rfl, hW.mono s2, ok, IsK.mono s2.tups kb, by omega, by omega, fun p2 H2 s3 n2 e2 => ?_⟩
  refine ⟨p2, intsOf (memb W b), rfl, SqL.of (by rw [← natV_ints]; exact e2), by rw [List.length_map]; omega, fun q2 hq2 => ?_⟩
  have s4 := same_new' s3 hq2 (setO P w q2 (gather [] (intsOf (memb W b))))
  have eq1' := s3 _ _ eq1
  have n12 : q1 ≠ q2 := ne_of_none eq1' hq2
  refine ⟨q1, q2, _, _, rfl, rfl, n12, by rw [upd_ne n12]; exact eq1', upd_same, by omega, by omega, fun q3 ms hq3 nd3 hm3 => ?_⟩
  refine ⟨q3, ms, rfl, upd_same, rfl, ?_⟩
  have e3 : decide ((V.int (ms.length : Int)) = .int 0) = noB W a b := by
    unfold noB
    rw [Bool.eq_iff_iff, decide_eq_true_eq, List.all_eq_true]
    constructor
    · intro h i hi
      have h0 : ms = [] := List.eq_nil_of_length_eq_zero (by injection h with h; omega)
      have hno : ¬ i ∈ memb W b := fun z => by
        have := (hm3 (i : Int)).mpr ⟨g_mem.mpr ⟨i, hi, rfl⟩, g_mem.mpr ⟨i, z, rfl⟩⟩
        rw [h0] at this
        cases this
      rw [decide_eq_false hno]; rfl
    · intro h
      have h0 : ms = [] := List.eq_nil_iff_forall_not_mem.mpr fun k hk => by
        obtain ⟨k1, k2⟩ := (hm3 k).mp hk
        obtain ⟨i, hi, rfl⟩ := g_mem.mp k1
        obtain ⟨j, hj, e⟩ := g_mem.mp k2
        have : i = j := by omega
        subst this
        have := h i hi
        rw [decide_eq_true hj] at this
        cases this
      rw [h0]; rfl
  rw [e3]
  exact q _ (same_new' (s2.trans s4) hq3 _)
end
end K08
namespace K08
open PySem L2
inductive SyT where
  | th (a : Str) (k : Kd)
  | ti (a r b : Str)
noncomputable def SyT.ok : SyT → Prop
  | .th _ k => k.dep ≤ 24
  | .ti _ _ _ => True
noncomputable def IsSyT (H : Hp) : SyT → V → Prop
  | .th a k, v => ∃ (t : Addr) (y : V), v = .ref t ∧ H t = some (.tup [.str "thing", .str a, y]) ∧ IsK H k y
  | .ti a r b, v => ∃ t : Addr, v = .ref t ∧ H t = some (.tup [.str "tied", .str a, .str r, .str b])
theorem IsSyT.mono {H H' : Hp} (s : Same H H') : ∀ {x : SyT} {v : V}, IsSyT H x v → IsSyT H' x v
  | .th _ _, _, ⟨t, y, e, h, k⟩ => ⟨t, y, e, s _ _ h, IsK.mono s.tups k⟩
  | .ti _ _ _, _, ⟨t, e, h⟩ => ⟨t, e, s _ _ h⟩
noncomputable def keptT (W : Wd) : SyT → Bool
  | .th a k => match look W.homes a with | some n => decide (n ∈ memb W k) | none => false
  | .ti a r b => match look W.homes a with | some n => (match look W.homes b with | some m => decide ((n, m) ∈ pairsAt W r) | none => false) | none => false
theorem keptT_th {W : Wd} {a : Str} {k : Kd} {n : Nat} (e : look W.homes a = some n) : keptT W (.th a k) = decide (n ∈ memb W k) := by simp only [keptT, e]
theorem keptT_th0 {W : Wd} {a : Str} {k : Kd} (e : look W.homes a = none) : keptT W (.th a k) = false := by simp only [keptT, e]
theorem keptT_ti {W : Wd} {a r b : Str} {n m : Nat} (e : look W.homes a = some n) (f : look W.homes b = some m) : keptT W (.ti a r b) = decide ((n, m) ∈ pairsAt W r) := by simp only [keptT, e, f]
theorem keptT_ti1 {W : Wd} {a r b : Str} {n : Nat} (e : look W.homes a = some n) (f : look W.homes b = none) : keptT W (.ti a r b) = false := by simp only [keptT, e, f]
theorem keptT_ti0 {W : Wd} {a r b : Str} (e : look W.homes a = none) : keptT W (.ti a r b) = false := by simp only [keptT, e]
theorem homes_get {H : Hp} {W : Wd} {lh : List (Key × V)} (x : Str) (g : Dak H W.homesK lh) (nd : W.nd) : (∃ n : Nat, look W.homes x = some n ∧ valV lh (.inr x) = some (.int (n : Int))) ∨ (look W.homes x = none ∧ valV lh (.inr x) = none) := by
  by_cases h : x ∈ W.homes.map (·.1)
  · obtain ⟨⟨k, n⟩, hm, rfl⟩ := List.mem_map.mp h
    obtain ⟨v, h1, h2⟩ := g.val (k := k) (d := .int (n : Int)) (by rw [Wd.homesK, keys_map W.homes (fun n => Dat.int (n : Int))]; exact nd.h) (List.mem_map.mpr ⟨(k, n), hm, rfl⟩)
    have h2' : v = .int (n : Int) := h2
    subst h2'
    exact .inl ⟨n, look_mem nd.h hm, h1⟩
  · exact .inr ⟨look_none h, g.none (by rw [Wd.homesK, keys_map W.homes (fun n => Dat.int (n : Int))]; exact h)⟩
theorem dg {H : Hp} {d : Addr} {l : List (Key × V)} {x : Str} {o : Option V} (h : H d = some (.dK l)) (e : valV l (.inr x) = o) : DGet H d (.str x) o := e ▸ DGet.k (k := Sum.inr x) h
noncomputable def spKT : Sp := fun vs H Q _ => ∃ (v s : V) (W : Wd) (a : Str) (k : Kd), vs = [v, s] ∧ IsW H W v ∧ WdOk W ∧ IsSyT H (.th a k) s ∧ k.dep ≤ 24 ∧ ∀ H', Same H H' → Q (.bl (keptT W (.th a k))) H'
noncomputable def spKTi : Sp := fun vs H Q _ => ∃ (v s : V) (W : Wd) (a r b : Str), vs = [v, s] ∧ IsW H W v ∧ WdOk W ∧ IsSyT H (.ti a r b) s ∧ ∀ H', Same H H' → Q (.bl (keptT W (.ti a r b))) H'
section
variable {P : Program} {w : World} {K : PySem.W.Frag} {mg : Str → Option Value} {base : Heap} {f g e d a1 a2 a3 a4 : Addr} {fd gd' ed dd d1 d2 d3 d4 : FuncData}
theorem scKT : FnScope ["world", "saying", "things"] ["world", "saying"] (defScope sKThing) := ⟨rfl, rfl, rfl, by decide +kernel, rfl, by decide +kernel, by decide +kernel⟩
theorem ok_kthing (F : Fun K "keeps_thing" "keeps_thing" sKThing f fd)
    (Gm : FnOk P w K mg base CX0 27 a4 d4 ["world", "kind"] (spMembers 26)) (bGm : Binds K d4 ["world", "kind"] []) (kGm : PySem.W.keepIn K (.ref a4) = true) (mGm : mg "members" = some (.ref a4)) :
    FnOk P w K mg base CX0 28 f fd ["world", "saying"] spKT := by
  refine F.ok scKT (fun vs H Q E h => ?_) (fun cdv A outer s H vs Q E hr h => ?_)
  · obtain ⟨v, s, W, a, k, rfl, _⟩ := h; rfl
  obtain ⟨v, sy, W, a, k, rfl, hW, ok, hS, hd, q⟩ := h
  have hrm := hr
  have hu : (A.deeper (PyProof.Rows.envOfC "keeps_thing" (defScope sKThing) s.heap.objs.size f cdv)).units + 1 < cLine := by have := hr.un; omega
  refine ⟨_, @pss_cons _ _ _ _ _ (by exact ps_set (i := 2) scKT.nd rfl (Or.inl rfl) (pe_ix ix_tup (pv 0) pe_int (fun _ _ => rfl)))
    (@pss_one _ _ _ (by exact ps_ret (pe_and (pe_cmpR (op_inH hu) (pe_ix ix_tup (pv 1) pe_int (fun _ _ => rfl)) (pv 2) rfl) (pe_one (pe_cmpR op_in_seq (pe_dget hu (pv 2) (pe_ix ix_tup (pv 1) pe_int (fun _ _ => rfl)) (fun _ _ => rfl)) (pe_call Gm hrm rfl mGm kGm bGm .nil pass0 (pa_cons (pv 0) (pa_cons (pe_ix ix_tup (pv 1) pe_int (fun _ _ => rfl)) pa_nil))) rfl))))), ?_⟩
  obtain ⟨t, y, rfl, ht, ky⟩ := hS
  have hW' := hW
  obtain ⟨p, dk, dp, dh, lk, lp, lh, rfl, h0, h1, g1, h2, g2, h3, g3⟩ := hW
  refine ⟨_, rfl, p, _, 3, _, rfl, rfl, SqT.of h0, atI_nat (j := 3) rfl, ?_⟩
  refine ⟨_, rfl, t, _, 1, _, rfl, rfl, SqT.of ht, atI_nat (j := 1) rfl, _, rfl, dh, _, rfl, DGet.k (k := Sum.inr a) h3, ?_⟩
  rcases homes_get a g3 ok.nd with ⟨n, e1, e2⟩ | ⟨e1, e2⟩
  · rw [e2]
    refine ⟨_, rfl, iteT ⟨_, rfl, _, rfl, t, _, 1, _, rfl, rfl, SqT.of ht, atI_nat (j := 1) rfl, dh, _, rfl, dg h3 e2, _, rfl, _, rfl, t, _, 2, _, rfl, rfl, SqT.of ht, atI_nat (j := 2) rfl, _, y, W, k, rfl, hW', ok, ky, by omega, by omega, fun p1 H1 s1 n1 ep1 => ?_⟩⟩
    refine ⟨p1, _, rfl, .inl (SqL.of ep1), rfl, flat_nat _, ?_⟩
    rw [in_nat]
    have := q H1 s1
    rw [keptT_th e1] at this
    exact this
  · rw [e2]
    refine ⟨_, rfl, iteF ?_⟩
    have := q H (Same.refl _)
    rw [keptT_th0 e1] at this
    exact this
theorem scKTi : FnScope ["world", "saying", "things"] ["world", "saying"] (defScope sKTied) := ⟨rfl, rfl, rfl, by decide +kernel, rfl, by decide +kernel, by decide +kernel⟩
theorem ok_ktied (F : Fun K "keeps_tied" "keeps_tied" sKTied f fd)
    (Gt : FnOk P w K mg base CX0 1 a1 d1 ["world", "tie"] spTie) (bGt : Binds K d1 ["world", "tie"] []) (kGt : PySem.W.keepIn K (.ref a1) = true) (mGt : mg "tie_pairs" = some (.ref a1)) :
    FnOk P w K mg base CX0 2 f fd ["world", "saying"] spKTi := by
  refine F.ok scKTi (fun vs H Q E h => ?_) (fun cdv A outer s H vs Q E hr h => ?_)
  · obtain ⟨v, s, W, a, r, b, rfl, _⟩ := h; rfl
  obtain ⟨v, sy, W, a, r, b, rfl, hW, ok, hS, q⟩ := h
  have hrt := hr
  have hu : (A.deeper (PyProof.Rows.envOfC "keeps_tied" (defScope sKTied) s.heap.objs.size f cdv)).units + 1 < cLine := by have := hr.un; omega
  refine ⟨_, @pss_cons _ _ _ _ _ (by exact ps_set (i := 2) scKTi.nd rfl (Or.inl rfl) (pe_ix ix_tup (pv 0) pe_int (fun _ _ => rfl)))
    (@pss_cons _ _ _ _ _ (by exact ps_if (PW.pt (pw_or (pt_cmpR (op_notInH hu) (pe_ix ix_tup (pv 1) pe_int (fun _ _ => rfl)) (pv 2) rfl) (pw_or1 (pt_cmpR (op_notInH hu) (pe_ix ix_tup (pv 1) pe_int (fun _ _ => rfl)) (pv 2) rfl)))) (@pss_one _ _ _ (by exact @ps_ret _ _ _ _ pe_bl)) pss_nil)
    (@pss_one _ _ _ (by exact @ps_ret _ _ _ _ (pe_cmpR (op_inP hr.units) (@pe_tup _ _ _ _ _ (pa_cons (pe_dget hu (pv 2) (pe_ix ix_tup (pv 1) pe_int (fun _ _ => rfl)) (fun _ _ => rfl)) (pa_cons (pe_dget hu (pv 2) (pe_ix ix_tup (pv 1) pe_int (fun _ _ => rfl)) (fun _ _ => rfl)) pa_nil))) (pe_call Gt hrt rfl mGt kGt bGt .nil pass0 (pa_cons (pv 0) (pa_cons (pe_ix ix_tup (pv 1) pe_int (fun _ _ => rfl)) pa_nil))) rfl)))), ?_⟩
  obtain ⟨t, rfl, ht⟩ := hS
  have hW' := hW
  obtain ⟨p, dk, dp, dh, lk, lp, lh, rfl, h0, h1, g1, h2, g2, h3, g3⟩ := hW
  have no : keptT W (.ti a r b) = false → Q (.bl false) H := fun e => by
    have := q H (Same.refl _)
    rw [e] at this
    exact this
  refine ⟨_, rfl, p, _, 3, _, rfl, rfl, SqT.of h0, atI_nat (j := 3) rfl, ?_⟩
  refine ⟨_, rfl, t, _, 1, _, rfl, rfl, SqT.of ht, atI_nat (j := 1) rfl, _, rfl, dh, _, rfl, DGet.k (k := Sum.inr a) h3, _, rfl, ?_⟩
  rcases homes_get a g3 ok.nd with ⟨n, e1, e2⟩ | ⟨e1, e2⟩
  · rw [e2]
    refine iteF ⟨_, rfl, t, _, 3, _, rfl, rfl, SqT.of ht, atI_nat (j := 3) rfl, _, rfl, dh, _, rfl, DGet.k (k := Sum.inr b) h3, _, rfl, ?_⟩
    rcases homes_get b g3 ok.nd with ⟨m, f1, f2⟩ | ⟨f1, f2⟩
    · rw [f2]
      refine iteF ?_
      refine ⟨_, rfl, _, rfl, t, _, 1, _, rfl, rfl, SqT.of ht, atI_nat (j := 1) rfl, dh, _, rfl, dg h3 e2, _, rfl, _, rfl, t, _, 3, _, rfl, rfl, SqT.of ht, atI_nat (j := 3) rfl, dh, _, rfl, dg h3 f2, small2 (by show 2 ≤ 1000; decide), fun tp htp => ?_⟩
      have st := same_new htp (.tup [.int (n : Int), .int (m : Int)])
      refine ⟨_, rfl, _, rfl, t, _, 2, _, rfl, rfl, SqT.of (st _ _ ht), atI_nat (j := 2) rfl, _, W, r, rfl, hW'.mono st, ok.nd, fun pl H3 xs s3 e3 d3 => ?_⟩
      have ip : IsP H3 (n, m) (.ref tp) := ⟨tp, rfl, s3 _ _ upd_same⟩
      refine ⟨pl, (n, m), xs, _, rfl, e3, ip, das_pl d3, ?_⟩
      have := q H3 (st.trans s3)
      rw [keptT_ti e1 f1] at this
      exact this
    · rw [f2]
      exact iteT (no (keptT_ti1 e1 f1))
  · rw [e2]
    exact iteT (iteT (no (keptT_ti0 e1)))
end
end K08
namespace K08
open PySem L2
inductive SyR where
  | wi (r s : Str)
  | mk (r s t : Str)
noncomputable def IsSyR (H : Hp) : SyR → V → Prop
  | .wi r s, v => ∃ t : Addr, v = .ref t ∧ H t = some (.tup [.str "within", .str r, .str s])
  | .mk r s u, v => ∃ t : Addr, v = .ref t ∧ H t = some (.tup [.str "makes", .str r, .str s, .str u])
theorem IsSyR.mono {H H' : Hp} (s : Same H H') : ∀ {x : SyR} {v : V}, IsSyR H x v → IsSyR H' x v
  | .wi _ _, _, ⟨t, e, h⟩ => ⟨t, e, s _ _ h⟩
  | .mk _ _ _, _, ⟨t, e, h⟩ => ⟨t, e, s _ _ h⟩
noncomputable def Comp (A B : List (Nat × Nat)) (k : Nat × Nat) : Prop := ∃ p ∈ A, ∃ q ∈ B, p.2 = q.1 ∧ k = (p.1, q.2)
open Classical in
noncomputable def keptR (W : Wd) : SyR → Bool
  | .wi r s => decide (∀ k ∈ pairsAt W r, k ∈ pairsAt W s)
  | .mk r s t => decide (∀ k, Comp (pairsAt W r) (pairsAt W s) k → k ∈ pairsAt W t)
theorem pairsAt_ok {W : Wd} (ok : WdOk W) (r : Str) : PairsOk W.many (pairsAt W r) := by
  unfold pairsAt
  cases h : look W.pairs r with
  | none => exact ⟨Nat.zero_le _, fun q h => (nomatch h)⟩
  | some qs => exact ok.pr r qs (mem_look h)
theorem pairsAt_small {W : Wd} (ok : WdOk W) (r : Str) : ∀ q ∈ pairsAt W r, q.1 < 10 ∧ q.2 < 10 := fun q hq => by
  have := (pairsAt_ok ok r).2 q hq
  have := ok.many
  omega
noncomputable def spWi : Sp := fun vs H Q _ => ∃ (v s : V) (W : Wd) (r u : Str), vs = [v, s] ∧ IsW H W v ∧ WdOk W ∧ IsSyR H (.wi r u) s ∧ ∀ H', Same H H' → Q (.bl (keptR W (.wi r u))) H'
section
variable {P : Program} {w : World} {K : PySem.W.Frag} {mg : Str → Option Value} {base : Heap} {f g e d a1 a2 a3 a4 : Addr} {fd gd' ed dd d1 d2 d3 d4 : FuncData}
theorem scWi : FnScope ["world", "saying"] ["world", "saying"] (defScope sWithin0) := ⟨rfl, rfl, rfl, by decide +kernel, rfl, by decide +kernel, by decide +kernel⟩
theorem ok_wi (F : Fun K "keeps_within" "keeps_within" sWithin0 f fd) (ml : mg "len" = none) (mset : mg "set" = none)
    (Gt : FnOk P w K mg base CX0 1 a1 d1 ["world", "tie"] spTie) (bGt : Binds K d1 ["world", "tie"] []) (kGt : PySem.W.keepIn K (.ref a1) = true) (mGt : mg "tie_pairs" = some (.ref a1)) :
    FnOk P w K mg base CX0 2 f fd ["world", "saying"] spWi := by
  refine F.ok scWi (fun vs H Q E h => ?_) (fun cdv A outer s H vs Q E hr h => ?_)
  · obtain ⟨v, s, W, r, u, rfl, _⟩ := h; rfl
  obtain ⟨v, sy, W, r, u, rfl, hW, ok, hS, q⟩ := h
  have hrt := hr
  refine ⟨_, @pss_one _ _ _ (by exact ps_ret (pe_cmpR op_eq (pe_callB call_lenP rfl ml PySem.boot_len (pa_cons (pe_op (op_subP hr.units) (pe_callTy (call_setP rfl hr.units) rfl mset PyProof.Rows.boot_set (pa_cons (pe_call Gt hrt rfl mGt kGt bGt .nil pass0 (pa_cons (pv 0) (pa_cons (pe_ix ix_tup (pv 1) pe_int (fun _ _ => rfl)) pa_nil))) pa_nil)) (pe_callTy (call_setP rfl hr.units) rfl mset PyProof.Rows.boot_set (pa_cons (pe_call Gt hrt rfl mGt kGt bGt .nil pass0 (pa_cons (pv 0) (pa_cons (pe_ix ix_tup (pv 1) pe_int (fun _ _ => rfl)) pa_nil))) pa_nil))) pa_nil)) pe_int (nomark _))), ?_⟩
  obtain ⟨t, rfl, ht⟩ := hS
  refine ⟨_, rfl, _, rfl, t, _, 1, _, rfl, rfl, SqT.of ht, atI_nat (j := 1) rfl, v, W, r, rfl, hW, ok.nd, fun p1 H1 xs1 s1 e1 d1 => ?_⟩
  have pl1 := das_pl d1
  refine ⟨p1, xs1, _, rfl, e1, pl1, pairsAt_small ok r, fun q1 ps1 hq1 m1 n1 i1 => ?_⟩
  have s2 := same_new' s1 hq1 (setPO P w q1 ps1)
  have sq1 := same_new hq1 (setPO P w q1 ps1)
  refine ⟨_, rfl, _, rfl, t, _, 2, _, rfl, rfl, SqT.of (s2 _ _ ht), atI_nat (j := 2) rfl, v, W, u, rfl, hW.mono s2, ok.nd, fun p2 H2 xs2 s3 e2 d2 => ?_⟩
  have pl2 := das_pl d2
  refine ⟨p2, xs2, _, rfl, e2, pl2, pairsAt_small ok u, fun q2 ps2 hq2 m2 n2 i2 => ?_⟩
  have eq1 := s3 _ _ (upd_same (H := H1) (a := q1) (o := setPO P w q1 ps1))
  have n12 : q1 ≠ q2 := ne_of_none eq1 hq2
  have sq2 := same_new hq2 (setPO P w q2 ps2)
  have l1 : ps1.length ≤ 100 := by
    have := few_pairs n1 fun k hk => pairsAt_small ok r k ((m1 k).mp hk)
    rwa [List.length_map] at this
  refine ⟨q1, q2, ps1, ps2, rfl, rfl, n12, sq2 _ _ eq1, upd_same, fun x hx => IsP.mono ((sq1.trans s3).trans sq2).tups (i1 x hx), fun x hx => IsP.mono sq2.tups (i2 x hx), l1, fun q3 n hq3 hn => ?_⟩
  refine ⟨q3, n, rfl, upd_same, rfl, ?_⟩
  have e3 : decide ((V.int (n : Int)) = .int 0) = keptR W (.wi r u) := by
    unfold keptR
    rw [Bool.eq_iff_iff, decide_eq_true_eq, decide_eq_true_eq]
    constructor
    · intro h k hk
      have h0 : n = 0 := by injection h with h; omega
      exact (m2 k).mp (hn.mp h0 k ((m1 k).mpr hk))
    · intro h
      have h0 : n = 0 := hn.mpr fun k hk => (m2 k).mpr (h k ((m1 k).mp hk))
      rw [h0]; rfl
  rw [e3]
  exact q _ (same_new' (s2.trans (s3.trans sq2)) hq3 _)
end
end K08
namespace K08
open PySem L2
noncomputable def ends (qs : List (Nat × Nat)) (k : Nat) : List Nat := (qs.filter fun q => decide (q.1 = k)).map (·.2)
theorem ends_snoc (qs : List (Nat × Nat)) (q : Nat × Nat) (k : Nat) : ends (qs ++ [q]) k = if q.1 = k then ends qs k ++ [q.2] else ends qs k := by
  unfold ends
  rw [List.filter_append]
  by_cases h : q.1 = k
  · rw [if_pos h]; simp [h]
  · rw [if_neg h]; simp [h]
theorem mem_ends {qs : List (Nat × Nat)} {k n : Nat} : n ∈ ends qs k ↔ (k, n) ∈ qs := by
  unfold ends
  rw [List.mem_map]
  constructor
  · rintro ⟨q, h1, rfl⟩
    obtain ⟨h2, h3⟩ := List.mem_filter.mp h1
    have : q.1 = k := of_decide_eq_true h3
    rw [← this]
    exact h2
  · intro h
    exact ⟨(k, n), List.mem_filter.mpr ⟨h, decide_eq_true rfl⟩, rfl⟩
structure Ends (H0 H : Hp) (d : Addr) (qs : List (Nat × Nat)) (l : List (Key × V)) : Prop where
  same : Same H0 H
  fd : H0 d = none
  dict : H d = some (.dK l)
  len : l.length ≤ qs.length
  at' : ∀ k : Nat, (∃ a : Addr, valV l (.inl (k : Int)) = some (.ref a) ∧ H0 a = none ∧ a ≠ d ∧ H a = some (.lst (natV (ends qs k)))) ∨ (valV l (.inl (k : Int)) = none ∧ ends qs k = [])
  inj : ∀ (k k' : Nat) (a : Addr), valV l (.inl (k : Int)) = some (.ref a) → valV l (.inl (k' : Int)) = some (.ref a) → k = k'
noncomputable def spEnds : Sp := fun vs H Q _ => ∃ (a : Addr) (xs : List V) (qs : List (Nat × Nat)), vs = [.ref a] ∧ H a = some (.lst xs) ∧ PL H xs qs ∧ qs.length ≤ 1000 ∧ ∀ (d : Addr) (H' : Hp) (l : List (Key × V)), Ends H H' d qs l → Q (.ref d) H'
theorem natV_snoc (ms : List Nat) (n : Nat) : natV ms ++ [V.int (n : Int)] = natV (ms ++ [n]) := by simp [natV]
theorem Ends.more {H0 H : Hp} {d a lz : Addr} {qs : List (Nat × Nat)} {l : List (Key × V)} {q : Nat × Nat} (E : Ends H0 H d qs l) (hlz : H lz = none) (ev : valV l (.inl (q.1 : Int)) = some (.ref a)) (fa : H0 a = none) (na : a ≠ d) (ea : H a = some (.lst (natV (ends qs q.1)))) :
    Ends H0 (upd (upd H lz (.lst [])) a (.lst (natV (ends qs q.1) ++ [.int (q.2 : Int)]))) d (qs ++ [q]) l := by
  have sz := same_new hlz (.lst [])
  refine ⟨same_upd (E.same.trans sz) fa, E.fd, by rw [upd_ne (Ne.symm na)]; exact sz _ _ E.dict, by rw [List.length_append]; exact Nat.le_succ_of_le E.len, fun k => ?_, E.inj⟩
  rw [ends_snoc]
  rcases E.at' k with ⟨ak, e1, e2, e3, e4⟩ | ⟨e1, e2⟩
  · refine .inl ⟨ak, e1, e2, e3, ?_⟩
    by_cases hk : q.1 = k
    · subst hk
      have : ak = a := by rw [ev] at e1; injection e1 with e1; injection e1 with e1; exact e1.symm
      subst this
      rw [if_pos rfl, upd_same, natV_snoc]
    · have hne : ak ≠ a := fun z => hk (E.inj q.1 k a ev (by rw [← z]; exact e1))
      rw [if_neg hk, upd_ne hne]
      exact sz _ _ e4
  · have hk : ¬ q.1 = k := fun z => by subst z; rw [ev] at e1; cases e1
    rw [if_neg hk]
    exact .inr ⟨e1, e2⟩
theorem Ends.new {H0 H : Hp} {d lz : Addr} {qs : List (Nat × Nat)} {l : List (Key × V)} {q : Nat × Nat} (E : Ends H0 H d qs l) (hlz : H lz = none) (ev : valV l (.inl (q.1 : Int)) = none) :
    Ends H0 (upd (upd (upd H lz (.lst [])) d (.dK (putK l (.inl (q.1 : Int)) (.ref lz)))) lz (.lst ([] ++ [.int (q.2 : Int)]))) d (qs ++ [q]) (putK l (.inl (q.1 : Int)) (.ref lz)) := by
  have sz := same_new hlz (.lst [])
  have ndz : d ≠ lz := ne_of_none E.dict hlz
  have fz : H0 lz = none := none_of_same E.same hlz
  have old : ∀ (k : Nat) (ak : Addr), H0 ak = none → valV l (.inl (k : Int)) = some (.ref ak) → H ak = some (.lst (natV (ends qs k))) → ak ≠ d → (upd (upd (upd H lz (.lst [])) d (.dK (putK l (.inl (q.1 : Int)) (.ref lz)))) lz (.lst ([] ++ [.int (q.2 : Int)]))) ak = some (.lst (natV (ends qs k))) := fun k ak h1 h2 h3 h4 => by
    have : ak ≠ lz := ne_of_none h3 hlz
    rw [upd_ne this, upd_ne h4, upd_ne this]
    exact h3
  have ik : ∀ k : Nat, ((Sum.inl (k : Int) : Key) = .inl (q.1 : Int)) ↔ k = q.1 := fun k => ⟨fun z => by injection z with z; omega, fun z => by rw [z]⟩
  refine ⟨same_upd (same_upd (E.same.trans sz) E.fd) fz, E.fd, by rw [upd_ne ndz, upd_same], ?_, fun k => ?_, fun k k' a h1 h2 => ?_⟩
  · have := length_putK l (Sum.inl (q.1 : Int)) (V.ref lz)
    have := E.len
    rw [List.length_append]
    show _ ≤ qs.length + 1
    omega
  · rw [ends_snoc, valV_put]
    by_cases hk : k = q.1
    · rw [if_pos ((ik k).mpr hk), if_pos hk.symm]
      subst hk
      have e0 : ends qs q.1 = [] := by
        rcases E.at' q.1 with ⟨ak, e1, _⟩ | ⟨_, e2⟩
        · rw [ev] at e1; cases e1
        · exact e2
      exact .inl ⟨lz, rfl, fz, Ne.symm ndz, by rw [upd_same, e0]; rfl⟩
    · rw [if_neg (fun z => hk ((ik k).mp z)), if_neg (fun z => hk z.symm)]
      rcases E.at' k with ⟨ak, e1, e2, e3, e4⟩ | ⟨e1, e2⟩
      · exact .inl ⟨ak, e1, e2, e3, old k ak e2 e1 e4 e3⟩
      · exact .inr ⟨e1, e2⟩
  · rw [valV_put] at h1 h2
    have nz : ∀ k : Nat, valV l (.inl (k : Int)) ≠ some (.ref lz) := fun k z => by
      rcases E.at' k with ⟨ak, e1, e2, e3, e4⟩ | ⟨e1, e2⟩
      · rw [e1] at z
        injection z with z
        injection z with z
        subst z
        rw [hlz] at e4
        cases e4
      · rw [e1] at z; cases z
    by_cases hk : k = q.1
    · by_cases hk' : k' = q.1
      · rw [hk, hk']
      · rw [if_pos ((ik k).mpr hk)] at h1
        rw [if_neg (fun z => hk' ((ik k').mp z))] at h2
        injection h1 with h1
        injection h1 with h1
        subst h1
        exact absurd h2 (nz k')
    · rw [if_neg (fun z => hk ((ik k).mp z))] at h1
      by_cases hk' : k' = q.1
      · rw [if_pos ((ik k').mpr hk')] at h2
        injection h2 with h2
        injection h2 with h2
        subst h2
        exact absurd h1 (nz k)
      · rw [if_neg (fun z => hk' ((ik k').mp z))] at h2
        exact E.inj k k' a h1 h2
section
variable {P : Program} {w : World} {K : PySem.W.Frag} {mg : Str → Option Value} {base : Heap} {f g e d a1 a2 a3 a4 : Addr} {fd gd' ed dd d1 d2 d3 d4 : FuncData}
theorem scEnds : FnScope ["pairs", "ends", "start", "end"] ["pairs"] (defScope sEnds) := ⟨rfl, rfl, rfl, by decide +kernel, rfl, by decide +kernel, by decide +kernel⟩
theorem ok_ends (F : Fun K "ends_by_start" "ends_by_start" sEnds f fd) : FnOk P w K mg base CX0 1 f fd ["pairs"] spEnds := by
  refine F.ok scEnds (fun vs H Q E h => ?_) (fun cdv A outer s H vs Q E hr h => ?_)
  · obtain ⟨a, xs, qs, rfl, _⟩ := h; rfl
  obtain ⟨a, xs, qs, rfl, ha, hpl, hl, q⟩ := h
  refine ⟨_, @pss_cons _ _ _ _ _ (by exact ps_set (i := 1) scEnds.nd rfl (Or.inl rfl) pe_dnewK)
    (@pss_cons _ _ _ _ _ (by exact ps_for PassesOwn.never rfl (pi_list (pv 0)) (pg_tup rfl (pgs_cons (pg_name (i := 2) scEnds.nd rfl (Or.inl rfl)) (pgs_cons (pg_name (i := 3) scEnds.nd rfl (Or.inl rfl)) pgs_nil))) (@pss_one _ _ _ (by exact ps_expr (pe_bm PySem.F.plainAttrs_list PySem.F.slot_list_append PySem.F.type_list_append mt_append (pe_dsetd (pv 1) (pv 2) (pe_lst pa_nil) ⟨rfl, rfl, rfl, rfl⟩) (pa_cons (pv 3) pa_nil)))))
    (@pss_one _ _ _ (by exact ps_ret (pv 1)))), ?_⟩
  refine fun d hd => ?_
  have E0 : Ends H (upd H d (.dK [])) d [] [] := ⟨same_new hd _, hd, upd_same, Nat.le_refl _, fun k => .inr ⟨rfl, rfl⟩, fun k k' a h => by cases h⟩
  refine ⟨_, rfl, a, rfl, ⟨_, SqL.of (E0.same _ _ ha)⟩, for_list (xs := xs) (fun i σ H' => (∃ o2 o3 : Option V, σ = [some (.ref a), some (.ref d), o2, o3]) ∧ ∃ l, Ends H H' d (qs.take i) l) ⟨⟨_, _, rfl⟩, [], E0⟩ ?_ ?_ ?_⟩
  · rintro i σ H' _ ⟨_, l, E1⟩
    exact SqL.of (E1.same _ _ ha)
  · rintro i x σ H' hx ⟨⟨o2, o3, rfl⟩, l, E1⟩
    obtain ⟨q', hq', t, rfl, ht⟩ := PL.get hpl hx
    have tk : qs.take (i + 1) = qs.take i ++ [q'] := by rw [List.take_add_one, hq']; rfl
    have hlt : (qs.take i).length ≤ 1000 := Nat.le_trans (by rw [List.length_take]; omega) hl
    refine ⟨t, _, rfl, SqT.of (E1.same _ _ ht), rfl, _, _, rfl, _, _, rfl, rfl, ?_⟩
    refine ⟨_, rfl, d, rfl, .inl ⟨l, .inl E1.dict⟩, _, rfl, Nat.zero_le _, fun lz hlz => ?_⟩
    have sz := same_new hlz (.lst [])
    refine ⟨l, Sum.inl _, sz _ _ E1.dict, rfl, small1000 (Nat.le_trans E1.len hlt), fun v hv => ?_, fun hn => ?_⟩
    · rcases E1.at' q'.1 with ⟨ak, e1, e2, e3, e4⟩ | ⟨e1, _⟩
      · rw [e1] at hv
        injection hv with hv
        subst hv
        have e4' := sz _ _ e4
        have hel : (natV (ends (qs.take i) q'.1)).length ≤ 1000 := by
          rw [List.length_map, ends, List.length_map]
          exact Nat.le_trans (List.length_filter_le _ _) hlt
        refine ⟨.inl ⟨rfl, _, SqL.of e4'⟩, _, rfl, ak, _, .int (q'.2 : Int), rfl, rfl, e4', small1000 hel, ⟨_, _, rfl⟩, l, ?_⟩
        rw [tk]
        exact E1.more hlz e1 e2 e3 e4
      · rw [e1] at hv; cases hv
    · have ndz : d ≠ lz := ne_of_none E1.dict hlz
      have ez : (upd (upd H' lz (.lst [])) d (.dK (putK l (.inl (q'.1 : Int)) (.ref lz)))) lz = some (.lst []) := by rw [upd_ne (Ne.symm ndz)]; exact upd_same
      refine ⟨.inl ⟨rfl, _, SqL.of ez⟩, _, rfl, lz, _, .int (q'.2 : Int), rfl, rfl, ez, small1000 (Nat.zero_le _), ⟨_, _, rfl⟩, putK l (.inl (q'.1 : Int)) (.ref lz), ?_⟩
      rw [tk]
      exact E1.new hlz hn
  · rintro σ H' ⟨⟨o2, o3, rfl⟩, l, E1⟩
    have dl : xs.length = qs.length := hpl.len
    rw [dl, List.take_length] at E1
    exact ⟨_, rfl, q d H' l E1⟩
end
end K08
namespace K08
open PySem L2
noncomputable def spMk : Sp := fun vs H Q _ => ∃ (v s : V) (W : Wd) (r u y : Str), vs = [v, s] ∧ IsW H W v ∧ WdOk W ∧ IsSyR H (.mk r u y) s ∧ ∀ H', Same H H' → Q (.bl (keptR W (.mk r u y))) H'
section
variable {P : Program} {w : World} {K : PySem.W.Frag} {mg : Str → Option Value} {base : Heap} {f g e d a1 a2 a3 a4 : Addr} {fd gd' ed dd d1 d2 d3 d4 : FuncData}
theorem scMk : FnScope ["world", "saying", "onward", "made", "start", "middle", "end"] ["world", "saying"] (defScope sMakes) := ⟨rfl, rfl, rfl, by decide +kernel, rfl, by decide +kernel, by decide +kernel⟩
theorem ok_mk (F : Fun K "keeps_makes" "keeps_makes" sMakes f fd) (mset : mg "set" = none)
    (Gt : FnOk P w K mg base CX0 1 a1 d1 ["world", "tie"] spTie) (bGt : Binds K d1 ["world", "tie"] []) (kGt : PySem.W.keepIn K (.ref a1) = true) (mGt : mg "tie_pairs" = some (.ref a1))
    (Ge : FnOk P w K mg base CX0 1 a2 d2 ["pairs"] spEnds) (bGe : Binds K d2 ["pairs"] []) (kGe : PySem.W.keepIn K (.ref a2) = true) (mGe : mg "ends_by_start" = some (.ref a2)) :
    FnOk P w K mg base CX0 2 f fd ["world", "saying"] spMk := by
  refine F.ok scMk (fun vs H Q E h => ?_) (fun cdv A outer s H vs Q E hr h => ?_)
  · obtain ⟨v, s, W, r, u, y, rfl, _⟩ := h; rfl
  obtain ⟨v, sy, W, r, u, y, rfl, hW, ok, hS, q⟩ := h
  have hrt := hr
  have hre := hr
  have hu : (A.deeper (PyProof.Rows.envOfC "keeps_makes" (defScope sMakes) s.heap.objs.size f cdv)).units + 1 < cLine := by have := hr.un; omega
  refine ⟨_, @pss_cons _ _ _ _ _ (by exact ps_set (i := 2) scMk.nd rfl (Or.inl rfl) (pe_call Ge hre rfl mGe kGe bGe .nil pass0 (pa_cons (pe_call Gt hrt rfl mGt kGt bGt .nil pass0 (pa_cons (pv 0) (pa_cons (pe_ix ix_tup (pv 1) pe_int (fun _ _ => rfl)) pa_nil))) pa_nil)))
    (@pss_cons _ _ _ _ _ (by exact ps_set (i := 3) scMk.nd rfl (Or.inl rfl) (pe_callTy (call_setP rfl hr.units) rfl mset PyProof.Rows.boot_set (pa_cons (pe_call Gt hrt rfl mGt kGt bGt .nil pass0 (pa_cons (pv 0) (pa_cons (pe_ix ix_tup (pv 1) pe_int (fun _ _ => rfl)) pa_nil))) pa_nil)))
    (@pss_cons _ _ _ _ _ (by exact ps_for PassesOwn.never rfl (pi_list (pe_call Gt hrt rfl mGt kGt bGt .nil pass0 (pa_cons (pv 0) (pa_cons (pe_ix ix_tup (pv 1) pe_int (fun _ _ => rfl)) pa_nil)))) (pg_tup rfl (pgs_cons (pg_name (i := 4) scMk.nd rfl (Or.inl rfl)) (pgs_cons (pg_name (i := 5) scMk.nd rfl (Or.inl rfl)) pgs_nil))) (@pss_one _ _ _ (by exact ps_for PassesOwn.never rfl (pi_list (pe_dget2 hu (pv 2) (pv 5) (pe_lst pa_nil) ⟨rfl, rfl, rfl, rfl⟩)) (pg_name (i := 6) scMk.nd rfl (Or.inl rfl)) (@pss_one _ _ _ (by exact ps_if (pt_cmpR (r := rNotInP P w) (op_notInSP hr.units) (pe_tup (pa_cons (pv 4) (pa_cons (pv 6) pa_nil))) (pv 3) rfl) (@pss_one _ _ _ (by exact ps_ret pe_bl)) pss_nil)))))
    (@pss_one _ _ _ (by exact ps_ret pe_bl)))), ?_⟩
  obtain ⟨t, rfl, ht⟩ := hS
  have lB := (pairsAt_ok ok u).1
  refine ⟨_, rfl, _, rfl, t, _, 2, _, rfl, rfl, SqT.of ht, atI_nat (j := 2) rfl, v, W, u, rfl, hW, ok.nd, fun p1 H1 xs1 s1 e1 d1 => ?_⟩
  refine ⟨p1, xs1, _, rfl, e1, das_pl d1, Nat.le_trans lB (by decide), fun d H2 l E2 => ?_⟩
  have s2 := s1.trans E2.same
  refine ⟨_, rfl, _, rfl, t, _, 3, _, rfl, rfl, SqT.of (s2 _ _ ht), atI_nat (j := 3) rfl, v, W, y, rfl, hW.mono s2, ok.nd, fun p3 H3 xs3 s3 e3 d3 => ?_⟩
  refine ⟨p3, xs3, _, rfl, e3, das_pl d3, pairsAt_small ok y, fun q3 ps3 hq3 m3 n3 i3 => ?_⟩
  have sq3 := same_new hq3 (setPO P w q3 ps3)
  have s4 := (s2.trans s3).trans sq3
  refine ⟨_, rfl, _, rfl, t, _, 1, _, rfl, rfl, SqT.of (s4 _ _ ht), atI_nat (j := 1) rfl, v, W, r, rfl, hW.mono s4, ok.nd, fun p5 H5 xs5 s5 e5 d5 => ?_⟩
  have pl5 := das_pl d5
  have s05 := s4.trans s5
  have eq3 : H5 q3 = some (setPO P w q3 ps3) := s5 _ _ upd_same
  have i5 : ∀ x ∈ ps3, IsP H5 x.1 (.ref x.2) := fun x hx => IsP.mono (sq3.trans s5).tups (i3 x hx)
  have s25 : Same H2 H5 := (s3.trans sq3).trans s5
  have ed5 := s25 _ _ E2.dict
  refine ⟨p5, rfl, ⟨_, SqL.of e5⟩, for_list (xs := xs5) (fun i σ H' => (∃ o4 o5 o6 : Option V, σ = [some v, some (.ref t), some (.ref d), some (.ref q3), o4, o5, o6]) ∧ Same H5 H' ∧ ∀ p ∈ (pairsAt W r).take i, ∀ n ∈ ends (pairsAt W u) p.2, (p.1, n) ∈ pairsAt W y) ⟨⟨_, _, _, rfl⟩, Same.refl _, fun p hp => by simp at hp⟩ ?_ ?_ ?_⟩
  · rintro i σ H' _ ⟨_, s', _⟩
    exact SqL.of (s' _ _ e5)
  · rintro i x σ H' hx ⟨⟨o4, o5, o6, rfl⟩, s', hall⟩
    obtain ⟨q', hq', tq, rfl, htq⟩ := PL.get pl5 hx
    have tk : (pairsAt W r).take (i + 1) = (pairsAt W r).take i ++ [q'] := by rw [List.take_add_one, hq']; rfl
    refine ⟨tq, _, rfl, SqT.of (s' _ _ htq), rfl, _, _, rfl, _, _, rfl, rfl, ?_⟩
    refine ⟨_, rfl, d, rfl, .inl ⟨l, .inl (s' _ _ ed5)⟩, _, rfl, Nat.zero_le _, fun lz hlz => ?_⟩
    have sz := same_new hlz (.lst [])
    have s6 := s'.trans sz
    refine ⟨_, DGet.k (k := Sum.inl (q'.2 : Int)) (s6 _ _ ed5), ?_⟩
    obtain ⟨al, el, hel⟩ : ∃ al : Addr, (valV l (Sum.inl (q'.2 : Int))).getD (.ref lz) = .ref al ∧ (upd H' lz (.lst [])) al = some (.lst (natV (ends (pairsAt W u) q'.2))) := by
      rcases E2.at' q'.2 with ⟨ak, z1, _, _, z4⟩ | ⟨z1, z2⟩
      · exact ⟨ak, by rw [z1]; rfl, s6 _ _ (s25 _ _ z4)⟩
      · exact ⟨lz, by rw [z1]; rfl, by rw [z2]; exact upd_same⟩
    rw [el]
    generalize upd H' lz (.lst []) = H6 at s6 hel ⊢
    refine ⟨al, rfl, ⟨_, SqL.of hel⟩, for_list (xs := natV (ends (pairsAt W u) q'.2)) (fun j σ H' => (∃ o6 : Option V, σ = [some v, some (.ref t), some (.ref d), some (.ref q3), some (.int (q'.1 : Int)), some (.int (q'.2 : Int)), o6]) ∧ Same H6 H' ∧ ∀ n ∈ (ends (pairsAt W u) q'.2).take j, (q'.1, n) ∈ pairsAt W y) ⟨⟨_, rfl⟩, Same.refl _, fun n hn => by simp at hn⟩ ?_ ?_ ?_⟩
    · rintro j σ H7 _ ⟨_, s7, _⟩
      exact SqL.of (s7 _ _ hel)
    · rintro j z σ H7 hz ⟨⟨o6, rfl⟩, s7, hall2⟩
      rw [List.getElem?_map] at hz
      obtain ⟨n, hn, rfl⟩ := Option.map_eq_some_iff.mp hz
      have tk2 : (ends (pairsAt W u) q'.2).take (j + 1) = (ends (pairsAt W u) q'.2).take j ++ [n] := by rw [List.take_add_one, hn]; rfl
      refine ⟨_, rfl, _, rfl, small2 (by show 2 ≤ 1000; decide), fun tp htp => ?_⟩
      have st := same_new htp (.tup [.int (q'.1 : Int), .int (n : Int)])
      have s57 := s6.trans (s7.trans st)
      refine ⟨_, rfl, q3, (q'.1, n), ps3, rfl, s57 _ _ eq3, fun x hx => IsP.mono s57.tups (i5 x hx), ⟨tp, rfl, upd_same⟩, _, rfl, ite2 (fun hc => ?_) (fun hc => ?_)⟩
      · have hc' : ¬ (q'.1, n) ∈ ps3.map (·.1) := by simpa using hc
        have hno : ¬ (q'.1, n) ∈ pairsAt W y := fun z => hc' ((m3 _).mpr z)
        have kf : keptR W (.mk r u y) = false := by
          classical
          unfold keptR
          exact decide_eq_false fun hk => hno (hk _ ⟨q', List.mem_of_getElem? hq', (q'.2, n), mem_ends.mp (List.mem_of_getElem? hn), rfl, rfl⟩)
        have := q _ (s05.trans s57)
        rw [kf] at this
        exact this
      · have hc' : (q'.1, n) ∈ ps3.map (·.1) := by
          apply Classical.byContradiction
          intro z
          exact hc (by simpa using z)
        refine ⟨⟨_, rfl⟩, s7.trans st, ?_⟩
        rw [tk2]
        intro n' hn'
        rcases List.mem_append.mp hn' with z | z
        · exact hall2 n' z
        · rw [List.mem_singleton.mp z]; exact (m3 _).mp hc'
    · rintro σ H7 ⟨⟨o6, rfl⟩, s7, hall2⟩
      rw [List.length_map, List.take_length] at hall2
      refine ⟨⟨_, _, _, rfl⟩, s6.trans s7, ?_⟩
      rw [tk]
      intro p hp
      rcases List.mem_append.mp hp with z | z
      · exact hall p z
      · rw [List.mem_singleton.mp z]; exact hall2
  · rintro σ H' ⟨_, s', hall⟩
    rw [pl5.len, List.take_length] at hall
    have kt : keptR W (.mk r u y) = true := by
      classical
      unfold keptR
      refine decide_eq_true ?_
      rintro k ⟨p, hp, q', hq', e1, rfl⟩
      exact hall p hp q'.2 (mem_ends.mpr (by rw [e1]; exact hq'))
    have := q H' (s05.trans s')
    rw [kt] at this
    exact this
end
end K08
namespace K08
open PySem L2
inductive Sy where
  | kk (x : Str) (a b : Kd)
  | tt (x : SyT)
  | rr (x : SyR)
noncomputable def Sy.ok : Sy → Prop
  | .kk x a b => (x = "every" ∨ x = "no") ∧ a.dep ≤ 24 ∧ b.dep ≤ 24
  | .tt x => x.ok
  | .rr _ => True
noncomputable def IsSy (H : Hp) : Sy → V → Prop
  | .kk x a b, v => IsS H x a b v
  | .tt x, v => IsSyT H x v
  | .rr x, v => IsSyR H x v
theorem IsSy.mono {H H' : Hp} (s : Same H H') : ∀ {x : Sy} {v : V}, IsSy H x v → IsSy H' x v
  | .kk _ _ _, _, h => IsS.mono s h
  | .tt _, _, h => IsSyT.mono s h
  | .rr _, _, h => IsSyR.mono s h
noncomputable def keptB (W : Wd) : Sy → Bool
  | .kk x a b => keptK W x a b
  | .tt x => keptT W x
  | .rr x => keptR W x
theorem keptB_every {W : Wd} {a b : Kd} : keptB W (.kk "every" a b) = everyB W a b := by
  show (if ("every" : Str) = "every" then everyB W a b else noB W a b) = _
  exact if_pos rfl
theorem keptB_no {W : Wd} {a b : Kd} : keptB W (.kk "no" a b) = noB W a b := by
  show (if ("no" : Str) = "every" then everyB W a b else noB W a b) = _
  exact if_neg (by decide +kernel)
noncomputable def spKeeps : Sp := fun vs H Q _ => ∃ (v s : V) (W : Wd) (x : Sy), vs = [v, s] ∧ IsW H W v ∧ WdOk W ∧ IsSy H x s ∧ x.ok ∧ ∀ H', Same H H' → Q (.bl (keptB W x)) H'
section
variable {P : Program} {w : World} {K : PySem.W.Frag} {mg : Str → Option Value} {base : Heap} {f g e d a1 a2 a3 a4 a5 a6 : Addr} {fd gd' ed dd d1 d2 d3 d4 d5 d6 : FuncData}
theorem scKeeps : FnScope ["world", "saying", "keeper"] ["world", "saying"] (defScope sKeeps) := ⟨rfl, rfl, rfl, by decide +kernel, rfl, by decide +kernel, by decide +kernel⟩
theorem ok_keeps {aK : Addr} (F : Fun K "keeps" "keeps" sKeeps f fd) (mK0 : mg "KEEPERS" = some (.ref aK)) (hK : KDict K P w aK [(.inr "every", .ref a1), (.inr "no", .ref a2), (.inr "thing", .ref a3), (.inr "tied", .ref a4), (.inr "within", .ref a5), (.inr "makes", .ref a6)])
    (G1 : FnOk P w K mg base CX0 28 a1 d1 ["world", "saying"] spKE) (b1 : Binds K d1 ["world", "saying"] []) (k1 : PySem.W.keepIn K (.ref a1) = true)
    (G2 : FnOk P w K mg base CX0 28 a2 d2 ["world", "saying"] spKN) (b2 : Binds K d2 ["world", "saying"] []) (k2 : PySem.W.keepIn K (.ref a2) = true)
    (G3 : FnOk P w K mg base CX0 28 a3 d3 ["world", "saying"] spKT) (b3 : Binds K d3 ["world", "saying"] []) (k3 : PySem.W.keepIn K (.ref a3) = true)
    (G4 : FnOk P w K mg base CX0 2 a4 d4 ["world", "saying"] spKTi) (b4 : Binds K d4 ["world", "saying"] []) (k4 : PySem.W.keepIn K (.ref a4) = true)
    (G5 : FnOk P w K mg base CX0 2 a5 d5 ["world", "saying"] spWi) (b5 : Binds K d5 ["world", "saying"] []) (k5 : PySem.W.keepIn K (.ref a5) = true)
    (G6 : FnOk P w K mg base CX0 2 a6 d6 ["world", "saying"] spMk) (b6 : Binds K d6 ["world", "saying"] []) (k6 : PySem.W.keepIn K (.ref a6) = true) :
    FnOk P w K mg base CX0 29 f fd ["world", "saying"] spKeeps := by
  refine F.ok scKeeps (fun vs H Q E h => ?_) (fun cdv A outer s H vs Q E hr h => ?_)
  · obtain ⟨v, s, W, x, rfl, _⟩ := h; rfl
  obtain ⟨v, sy, W, x, rfl, hW, ok, hS, hx, q⟩ := h
  refine ⟨_, @pss_cons _ _ _ _ _ (by exact ps_set (i := 2) scKeeps.nd rfl (Or.inl rfl) (pe_kget (pe_glob (v := .ref aK) rfl mK0 rfl) (pe_ix ix_tup (pv 1) pe_int (fun _ _ => rfl)) (fun _ _ => rfl)))
    (@pss_one _ _ _ (by exact ps_ret (pe_callV (i := 2) pass0 (pv 2) (pa_cons (pv 0) (pa_cons (pv 1) pa_nil))))), ?_⟩
  have hr2 := hr.mono (show 2 ≤ 28 by decide)
  have val : ∀ (x : Str) (u : V), valV ([(.inr "every", .ref a1), (.inr "no", .ref a2), (.inr "thing", .ref a3), (.inr "tied", .ref a4), (.inr "within", .ref a5), (.inr "makes", .ref a6)] : List (Key × V)) (.inr x) = some u → valV ([(.inr "every", .ref a1), (.inr "no", .ref a2), (.inr "thing", .ref a3), (.inr "tied", .ref a4), (.inr "within", .ref a5), (.inr "makes", .ref a6)] : List (Key × V)) (.inr x) = some u := fun _ _ h => h
  have v1 := val "every" (.ref a1) rfl
  have v2 := val "no" (.ref a2) rfl
  have v3 := val "thing" (.ref a3) rfl
  have v4 := val "tied" (.ref a4) rfl
  have v5 := val "within" (.ref a5) rfl
  have v6 := val "makes" (.ref a6) rfl
  have hS' := hS
  cases x with
  | kk x a b =>
    obtain ⟨hx, ha, hb⟩ := hx
    obtain ⟨t, y, z, rfl, ht, ka, kb⟩ := hS
    rcases hx with rfl | rfl
    · refine ⟨_, rfl, t, _, 0, _, rfl, rfl, SqT.of ht, atI_nat (j := 0) rfl, aK, _, Sum.inr "every", .ref a1, rfl, rfl, hK, v1, ?_⟩
      refine ⟨a1, d1, 28, _, spKE, rfl, G1, hr, k1, b1, _, rfl, _, rfl, v, .ref t, W, _, a, b, rfl, hW, ok, hS', ha, hb, fun H' s' => ?_⟩
      have := q H' s'
      rw [keptB_every] at this
      exact this
    · have ne : ¬ ("no" : Str) = "every" := by decide +kernel
      refine ⟨_, rfl, t, _, 0, _, rfl, rfl, SqT.of ht, atI_nat (j := 0) rfl, aK, _, Sum.inr "no", .ref a2, rfl, rfl, hK, v2, ?_⟩
      refine ⟨a2, d2, 28, _, spKN, rfl, G2, hr, k2, b2, _, rfl, _, rfl, v, .ref t, W, _, a, b, rfl, hW, ok, hS', ha, hb, fun H' s' => ?_⟩
      have := q H' s'
      rw [keptB_no] at this
      exact this
  | tt x =>
    cases x with
    | th a k =>
      obtain ⟨t, y, rfl, ht, ky⟩ := hS
      refine ⟨_, rfl, t, _, 0, _, rfl, rfl, SqT.of ht, atI_nat (j := 0) rfl, aK, _, Sum.inr "thing", .ref a3, rfl, rfl, hK, v3, ?_⟩
      exact ⟨a3, d3, 28, _, spKT, rfl, G3, hr, k3, b3, _, rfl, _, rfl, v, .ref t, W, a, k, rfl, hW, ok, hS', hx, q⟩
    | ti a r b =>
      obtain ⟨t, rfl, ht⟩ := hS
      refine ⟨_, rfl, t, _, 0, _, rfl, rfl, SqT.of ht, atI_nat (j := 0) rfl, aK, _, Sum.inr "tied", .ref a4, rfl, rfl, hK, v4, ?_⟩
      exact ⟨a4, d4, 2, _, spKTi, rfl, G4, hr2, k4, b4, _, rfl, _, rfl, v, .ref t, W, a, r, b, rfl, hW, ok, hS', q⟩
  | rr x =>
    cases x with
    | wi r u =>
      obtain ⟨t, rfl, ht⟩ := hS
      refine ⟨_, rfl, t, _, 0, _, rfl, rfl, SqT.of ht, atI_nat (j := 0) rfl, aK, _, Sum.inr "within", .ref a5, rfl, rfl, hK, v5, ?_⟩
      exact ⟨a5, d5, 2, _, spWi, rfl, G5, hr2, k5, b5, _, rfl, _, rfl, v, .ref t, W, r, u, rfl, hW, ok, hS', q⟩
    | mk r u y =>
      obtain ⟨t, rfl, ht⟩ := hS
      refine ⟨_, rfl, t, _, 0, _, rfl, rfl, SqT.of ht, atI_nat (j := 0) rfl, aK, _, Sum.inr "makes", .ref a6, rfl, rfl, hK, v6, ?_⟩
      exact ⟨a6, d6, 2, _, spMk, rfl, G6, hr2, k6, b6, _, rfl, _, rfl, v, .ref t, W, r, u, y, rfl, hW, ok, hS', q⟩
end
noncomputable def Sys (H : Hp) : List V → List Sy → Prop := Paired fun v x => IsSy H x v
theorem Sys.mono {H H' : Hp} (s : Same H H') {xs : List V} {ss : List Sy} (h : Sys H xs ss) : Sys H' xs ss := Paired.imp' (fun _ _ q => IsSy.mono s q) h
noncomputable def brk (W : Wd) (ss : List Sy) : Nat → List Nat
  | 0 => []
  | n + 1 => match ss[n]? with | some x => if keptB W x then brk W ss n else brk W ss n ++ [n] | none => brk W ss n
theorem brk_len (W : Wd) (ss : List Sy) : ∀ n, (brk W ss n).length ≤ n
  | 0 => Nat.le_refl _
  | n + 1 => by
    have := brk_len W ss n
    unfold brk
    split
    · split
      · omega
      · rw [List.length_append]; show _ + 1 ≤ _; omega
    · omega
theorem ndasw : ((([("at" : Str), ("saying" : Str)] : List Str) ++ [("world" : Str)]) : List Str).Nodup := by decide +kernel
noncomputable def spBroken : Sp := fun vs H Q _ => ∃ (v : V) (l : Addr) (W : Wd) (xs : List V) (ss : List Sy), vs = [v, .ref l] ∧ IsW H W v ∧ WdOk W ∧ H l = some (.lst xs) ∧ Sys H xs ss ∧ (∀ x ∈ ss, x.ok) ∧ ss.length ≤ 100 ∧
  ∀ (p : Addr) (H' : Hp), Same H H' → H p = none → H' p = some (.lst (natV (brk W ss ss.length))) → Q (.ref p) H'
section
variable {P : Program} {w : World} {K : PySem.W.Frag} {mg : Str → Option Value} {base : Heap} {f g e d a1 a2 a3 a4 a5 a6 : Addr} {fd gd' ed dd d1 d2 d3 d4 d5 d6 : FuncData}
theorem scBr : FnScope ["world", "sayings"] ["world", "sayings"] (defScope sBroken) := ⟨rfl, rfl, rfl, by decide +kernel, rfl, by decide +kernel, by decide +kernel⟩
theorem ok_broken (F : Fun K "broken" "broken" sBroken f fd) (me : mg "enumerate" = none)
    (Gke : FnOk P w K mg base CX0 29 a3 d3 ["world", "saying"] spKeeps) (bGke : Binds K d3 ["world", "saying"] []) (kGke : PySem.W.keepIn K (.ref a3) = true) (mGke : mg "keeps" = some (.ref a3)) :
    FnOk P w K mg base CX0 30 f fd ["world", "sayings"] spBroken := by
  refine F.ok scBr (fun vs H Q E h => ?_) (fun cdv A outer s H vs Q E hr h => ?_)
  · obtain ⟨v, l, W, xs, ss, rfl, _⟩ := h; rfl
  obtain ⟨v, l, W, xs, ss, rfl, hW, ok, hl, hs, hk, h100, q⟩ := h
  have hrke := hr
  refine ⟨_, @pss_one _ _ _ (by exact ps_ret (pe_comp ["at", "saying"] ["world"] [0] rfl (pi_enum rfl me (pa_cons (pv 1) pa_nil)) (fun _ _ _ => pg_pair (K' := K) (i := 0) (j := 1) rfl rfl ndasw rfl rfl rfl rfl) (fun _ _ _ => pts_one (pt_not (pt_val (pe_call Gke hrke rfl mGke kGke bGke .nil pass0 (pa_cons (pv 2) (pa_cons (pv 1) pa_nil)))))) (fun _ _ _ => (pv 0)))), ?_⟩
  have lx : xs.length = ss.length := Paired.length hs
  refine ⟨_, rfl, l, rfl, ⟨_, SqL.of hl⟩, fun D hD => ?_⟩
  refine cmp_by xs.length (fun i σ H' => (∃ o o', σ = [o, o', some v]) ∧ Same H H' ∧ H' D = some (.lst (natV (brk W ss i)))) ⟨⟨_, _, rfl⟩, same_new hD _, upd_same⟩ ?_ ?_
  · rintro σ HD ⟨_, sD, eD⟩
    rw [lx] at eD
    exact ⟨⟨_, SqL.of (sD _ _ hl), Nat.le_refl _⟩, q D HD sD hD eD⟩
  · rintro i σ HD hi ⟨⟨o, o', rfl⟩, sD, eD⟩
    have eoD := sD _ _ hl
    refine ⟨⟨_, xs[i], SqL.of eoD, by simp [hi]⟩, ?_⟩
    rintro y HE ⟨T, x, rfl, hT, rfl, hy⟩
    have hyi := hy _ (SqL.of eoD)
    obtain ⟨sy, hsy, isy⟩ := Paired.at' hs hyi
    have sT := same_new hT (.tup [.int (i : Int), x])
    have sDT := sD.trans sT
    refine ⟨T, _, rfl, SqT.of upd_same, rfl, _, _, rfl, _, _, rfl, rfl, ?_⟩
    refine ⟨_, rfl, _, rfl, v, x, W, sy, rfl, hW.mono sDT, ok, IsSy.mono sDT isy, hk sy (List.mem_of_getElem? hsy), fun H2 s2 => ?_⟩
    have eD2 := (sT.trans s2) _ _ eD
    have sH2 := sDT.trans s2
    have bl := brk_len W ss i
    have e1 : brk W ss (i + 1) = if keptB W sy then brk W ss i else brk W ss i ++ [i] := by
      rw [brk, hsy]
    refine ⟨_, rfl, ?_⟩
    cases hc : keptB W sy with
    | true =>
      rw [hc, if_pos rfl] at e1
      exact iteF ⟨⟨_, _, rfl⟩, sH2, by rw [e1]; exact eD2⟩
    | false =>
      rw [hc, if_neg (by decide)] at e1
      refine iteT ⟨_, rfl, _, eD2, by rw [List.length_map]; exact small1000 (by omega), ⟨_, _, rfl⟩, same_upd sH2 hD, ?_⟩
      rw [upd_same, e1]
      simp [natV]
end
end K08
namespace K08
open PySem L2
theorem getP {H : Hp} {W : Wd} {lp : List (Key × V)} {x : Str} {lo : Addr} (g : Dak H W.pairsK lp) (nd : W.nd) (hlo : H lo = none) :
    ∃ (ao : Addr) (xs : List V), (valV lp (Sum.inr x)).getD (.ref lo) = .ref ao ∧ (upd H lo (.lst [])) ao = some (.lst xs) ∧ PL (upd H lo (.lst [])) xs (pairsAt W x) := by
  have so := same_new hlo (.lst [])
  rcases pairs_get (x := x) g nd with ⟨qs, ao, xs, hm, ev, eo, hd⟩ | ⟨hn, ev⟩
  · exact ⟨ao, xs, by rw [ev]; rfl, so _ _ eo, by unfold pairsAt; rw [hm]; exact das_pl (das_same so.tups hd)⟩
  · exact ⟨lo, [], by rw [ev]; rfl, upd_same, by unfold pairsAt; rw [hn]; exact .nil⟩
theorem kit_int_int (K : PySem.W.Frag) : PySem.W.kitOne K (.type "int") (.type "int") = some true := by
  first | rfl | decide | with_unfolding_all rfl
theorem kit_int_bool (K : PySem.W.Frag) : PySem.W.kitOne K (.type "int") (.type "bool") = some false := by
  first | rfl | decide | with_unfolding_all rfl
theorem kit_list_list (K : PySem.W.Frag) : PySem.W.kitOne K (.type "list") (.type "list") = some true := by
  first | rfl | decide | with_unfolding_all rfl
noncomputable def spAlike : Sp := fun vs H Q _ => ∃ (a b : Addr) (ns : List Int), vs = [.ref a, .ref b] ∧ H a = some (.lst (ns.map V.int)) ∧ H b = some (.lst (ns.map V.int)) ∧ ns.length ≤ 1000 ∧ Q (.bl true) H
section
variable {P : Program} {w : World} {K : PySem.W.Frag} {mg : Str → Option Value} {base : Heap} {f g e d a1 a2 a3 a4 : Addr} {fd gd' ed dd d1 d2 d3 d4 : FuncData}
theorem scAlike : FnScope ["_law_found", "_law_due", "_law_k"] ["_law_found", "_law_due"] (defScope sAlike) := ⟨rfl, rfl, rfl, by decide +kernel, rfl, by decide +kernel, by decide +kernel⟩
theorem ok_alike (F : Fun K "_law_alike" "_law_alike" sAlike f fd) (ml : mg "len" = none) (mr : mg "range" = none) (mls : mg "list" = none) (mi : mg "isinstance" = none) (mint : mg "int" = none) (mb : mg "bool" = none) :
    FnOk P w K mg base CX0 1 f fd ["_law_found", "_law_due"] spAlike := by
  refine F.ok scAlike (fun vs H Q E h => ?_) (fun cdv A outer s H vs Q E hr h => ?_)
  · obtain ⟨a, b, ns, rfl, _⟩ := h; rfl
  obtain ⟨a, b, ns, rfl, ha, hb, hl, q⟩ := h
  refine ⟨_, @pss_cons _ _ _ _ _ (by exact ps_if (PW.pt (pw_or (pt_not (pt_val (pe_callB call_isinst rfl mi PyProof.Rows.boot_isinstance (pa_cons (pv 0) (pa_cons (pe_bltn (v := .ty "list") rfl mls PyProof.Rows.boot_list rfl) pa_nil))))) (pw_or1 (pt_cmpR op_ne (pe_callB call_len_seq rfl ml PySem.boot_len (pa_cons (pv 0) pa_nil)) (pe_callB call_len_seq rfl ml PySem.boot_len (pa_cons (pv 1) pa_nil)) (nomark _))))) (@pss_one _ _ _ (by exact ps_ret pe_bl)) pss_nil)
    (@pss_cons _ _ _ _ _ (by exact ps_for PassesOwn.never rfl (pi_range1 rfl mr (pa_cons (pe_callB call_len_seq rfl ml PySem.boot_len (pa_cons (pv 1) pa_nil)) pa_nil)) (pg_name (i := 2) scAlike.nd rfl (Or.inl rfl)) (@pss_one _ _ _ (by exact ps_if (PW.pt (pw_or (pt_not (pt_val (pe_callB call_isinst rfl mi PyProof.Rows.boot_isinstance (pa_cons (pe_ix ix_list (pv 0) (pv 2) (fun _ _ => rfl)) (pa_cons (pe_bltn (v := .ty "int") rfl mint PyProof.Rows.boot_int rfl) pa_nil))))) (pw_or (pt_val (pe_callB call_isinst rfl mi PyProof.Rows.boot_isinstance (pa_cons (pe_ix ix_list (pv 0) (pv 2) (fun _ _ => rfl)) (pa_cons (pe_bltn (v := .ty "bool") rfl mb PyProof.Rows.boot_bool rfl) pa_nil)))) (pw_or1 (pt_cmpR op_ne (pe_ix ix_list (pv 0) (pv 2) (fun _ _ => rfl)) (pe_ix ix_list (pv 1) (pv 2) (fun _ _ => rfl)) (nomark _)))))) (@pss_one _ _ _ (by exact ps_ret pe_bl)) pss_nil)))
    (@pss_one _ _ _ (by exact ps_ret pe_bl))), ?_⟩
  refine ⟨_, rfl, _, _, _, true, rfl, TyOf.lst ha, kit_list_list K, _, rfl, iteF ⟨_, rfl, a, _, rfl, .inl (SqL.of ha), _, rfl, b, _, rfl, .inl (SqL.of hb), rfl, _, rfl, ?_⟩⟩
  rw [decide_eq_true rfl]
  refine iteF ⟨_, rfl, b, _, rfl, .inl (SqL.of hb), _, rfl, by omega, by rw [List.length_map]; omega, ?_⟩
  refine for_range (fun i σ H' => H' = H ∧ ∃ o2 : Option V, σ = [some (.ref a), some (.ref b), o2]) ⟨rfl, none, rfl⟩ ?_ ?_
  · rintro i σ H' hi ⟨rfl, o2, rfl⟩
    have hi' : i < ns.length := by rw [List.length_map] at hi; simpa using hi
    have gi : atI (ns.map V.int) (0 + (i : Int)) = some (.int ns[i]) := by
      rw [Int.zero_add]
      exact atI_nat (by rw [List.getElem?_map, List.getElem?_eq_getElem hi']; rfl)
    refine ⟨_, rfl, _, rfl, a, _, _, _, rfl, rfl, SqL.of ha, gi, _, _, _, true, rfl, TyOf.int _, kit_int_int K, _, rfl, iteF ⟨_, rfl, _, rfl, a, _, _, _, rfl, rfl, SqL.of ha, gi, _, _, _, false, rfl, TyOf.int _, kit_int_bool K, _, rfl, iteF ⟨_, rfl, _, rfl, a, _, _, _, rfl, rfl, SqL.of ha, gi, _, rfl, _, rfl, b, _, _, _, rfl, rfl, SqL.of hb, gi, rfl, _, rfl, ?_⟩⟩⟩
    rw [decide_eq_true rfl]
    exact iteF ⟨rfl, _, rfl⟩
  · rintro σ H' ⟨rfl, o2, rfl⟩
    exact q
end
theorem ndpo : ((([("_law_pair" : Str)] : List Str) ++ [("_law_other" : Str)]) : List Str).Nodup := by decide +kernel
theorem ndpqlp : ((([("_law_pair" : Str)] : List Str) ++ [("_law_q" : Str), ("_law_last" : Str), ("_law_p" : Str)]) : List Str).Nodup := by decide +kernel
noncomputable def spPk : Sp := fun vs H Q _ => ∃ (v s : V) (W : Wd) (x : SyR), vs = [v, s] ∧ IsW H W v ∧ WdOk W ∧ IsSyR H x s ∧ ∀ H', Same H H' → Q (.bl (keptR W x)) H'
section
variable {P : Program} {w : World} {K : PySem.W.Frag} {mg : Str → Option Value} {base : Heap} {f g e d a1 a2 a3 a4 : Addr} {fd gd' ed dd d1 d2 d3 d4 : FuncData}
theorem scPk : FnScope ["_law_world_here", "_law_saying_here", "_law_one", "_law_other", "_law_last", "_law_p", "_law_q"] ["_law_world_here", "_law_saying_here"] (defScope sPairsKept) := ⟨rfl, rfl, rfl, by decide +kernel, rfl, by decide +kernel, by decide +kernel⟩
theorem ok_pk (F : Fun K "_law_pairs_kept" "_law_pairs_kept" sPairsKept f fd) (ml : mg "len" = none) : FnOk P w K mg base CX0 1 f fd ["_law_world_here", "_law_saying_here"] spPk := by
  refine F.ok scPk (fun vs H Q E h => ?_) (fun cdv A outer s H vs Q E hr h => ?_)
  · obtain ⟨v, s, W, x, rfl, _⟩ := h; rfl
  obtain ⟨v, sy, W, x, rfl, hW, ok, hS, q⟩ := h
  have hu : (A.deeper (PyProof.Rows.envOfC "_law_pairs_kept" (defScope sPairsKept) s.heap.objs.size f cdv)).units + 1 < cLine := by have := hr.un; omega
  refine ⟨_, @pss_cons _ _ _ _ _ (by exact ps_set (i := 2) scPk.nd rfl (Or.inl rfl) (pe_dget2 hu (pe_ix ix_tup (pv 0) pe_int (fun _ _ => rfl)) (pe_ix ix_tup (pv 1) pe_int (fun _ _ => rfl)) (pe_lst pa_nil) ⟨rfl, rfl, rfl, rfl⟩))
    (@pss_cons _ _ _ _ _ (by exact ps_set (i := 3) scPk.nd rfl (Or.inr rfl) (pe_dget2 hu (pe_ix ix_tup (pv 0) pe_int (fun _ _ => rfl)) (pe_ix ix_tup (pv 1) pe_int (fun _ _ => rfl)) (pe_lst pa_nil) ⟨rfl, rfl, rfl, rfl⟩))
    (@pss_cons _ _ _ _ _ (by exact ps_if (pt_cmpR op_eq (pe_ix ix_tup (pv 1) pe_int (fun _ _ => rfl)) pe_str (nomark _)) (@pss_one _ _ _ (by exact ps_ret (pe_cmpR op_eq (pe_callB call_len_seq rfl ml PySem.boot_len (pa_cons (pe_comp ["_law_pair"] ["_law_other"] [3] rfl (pi_list (pv 2)) (fun _ _ _ => pg_name (i := 0) ndpo rfl (Or.inl rfl)) (fun _ _ _ => pts_one (pt_cmpR (op_notInLP hr.units) (pv 0) (pv 1) rfl)) (fun _ _ _ => (pv 0))) pa_nil)) pe_int (nomark _)))) pss_nil)
    (@pss_cons _ _ _ _ _ (by exact ps_set (i := 4) scPk.nd rfl (Or.inr rfl) (pe_dget2 hu (pe_ix ix_tup (pv 0) pe_int (fun _ _ => rfl)) (pe_ix ix_tup (pv 1) pe_int (fun _ _ => rfl)) (pe_lst pa_nil) ⟨rfl, rfl, rfl, rfl⟩))
    (@pss_cons _ _ _ _ _ (by exact ps_for PassesOwn.never rfl (pi_list (pv 2)) (pg_tup rfl (pgs_cons (pg_name (i := 5) scPk.nd rfl (Or.inr rfl)) (pgs_cons (pg_name (i := 6) scPk.nd rfl (Or.inr rfl)) pgs_nil))) (@pss_one _ _ _ (by exact ps_if (pt_cmpR op_gt (pe_callB call_len_seq rfl ml PySem.boot_len (pa_cons (pe_comp ["_law_pair"] ["_law_q", "_law_last", "_law_p"] [6, 4, 5] rfl (pi_list (pv 3)) (fun _ _ _ => pg_name (i := 0) ndpqlp rfl (Or.inl rfl)) (fun _ _ _ => pts_one (PW.pt (pw_and (pt_cmpR op_eq (pe_ix (r := rIxT K) ix_tup (pv 0) pe_int (fun _ _ => rfl)) (pv 1) (nomark _)) (pw_and1 (pt_cmpR (op_notInLP hr.units) (pe_tup (pa_cons (pv 3) (pa_cons (pe_ix (r := rIxT K) ix_tup (pv 0) pe_int (fun _ _ => rfl)) pa_nil))) (pv 2) rfl))))) (fun _ _ _ => (pv 0))) pa_nil)) pe_int (nomark _)) (@pss_one _ _ _ (by exact ps_ret pe_bl)) pss_nil)))
    (@pss_one _ _ _ (by exact ps_ret pe_bl)))))), ?_⟩
  obtain ⟨p, dk, dp, dh, lk, lp, lh, rfl, h0, h1, g1, h2, g2, h3, g3⟩ := hW
  obtain ⟨t, r, u, tail, rfl, ht, hx⟩ : ∃ (t : Addr) (r u : Str) (tail : List V), sy = .ref t ∧ H t = some (.tup ((match x with | .wi _ _ => V.str "within" | .mk _ _ _ => .str "makes") :: .str r :: .str u :: tail)) ∧ (match x with | .wi a b => r = a ∧ u = b ∧ tail = [] | .mk a b c => r = a ∧ u = b ∧ tail = [.str c]) := by
    cases x with
    | wi a b => obtain ⟨t, rfl, ht⟩ := hS; exact ⟨t, a, b, [], rfl, ht, rfl, rfl, rfl⟩
    | mk a b c => obtain ⟨t, rfl, ht⟩ := hS; exact ⟨t, a, b, [.str c], rfl, ht, rfl, rfl, rfl⟩
  refine ⟨_, rfl, p, _, 2, _, rfl, rfl, SqT.of h0, atI_nat (j := 2) rfl, dp, rfl, .inl ⟨lp, .inl h2⟩, _, rfl, t, _, 1, _, rfl, rfl, SqT.of ht, atI_nat (j := 1) rfl, Nat.zero_le _, fun l0 hl0 => ?_⟩
  have s0 := same_new hl0 (.lst [])
  refine ⟨_, DGet.k (k := Sum.inr r) (s0 _ _ h2), ?_⟩
  obtain ⟨aA, xA, egA, eA, pA⟩ := getP (x := r) g2 ok.nd hl0
  rw [egA]
  have g2' := g2.mono s0
  generalize upd H l0 (.lst []) = H0 at s0 eA pA g2' ⊢
  refine ⟨_, rfl, p, _, 2, _, rfl, rfl, SqT.of (s0 _ _ h0), atI_nat (j := 2) rfl, dp, rfl, .inl ⟨lp, .inl (s0 _ _ h2)⟩, _, rfl, t, _, 2, _, rfl, rfl, SqT.of (s0 _ _ ht), atI_nat (j := 2) rfl, Nat.zero_le _, fun l1 hl1 => ?_⟩
  have s1 := same_new hl1 (.lst [])
  have s01 := s0.trans s1
  refine ⟨_, DGet.k (k := Sum.inr u) (s01 _ _ h2), ?_⟩
  obtain ⟨aB, xB, egB, eB, pB⟩ := getP (x := u) g2' ok.nd hl1
  rw [egB]
  have g2'' := g2'.mono s1
  have eA1 := s1 _ _ eA
  have pA1 := PL.mono s1.tups pA
  generalize upd H0 l1 (.lst []) = H1 at s1 s01 eB pB g2'' eA1 pA1 ⊢
  have lA := (pairsAt_ok ok r).1
  have lB := (pairsAt_ok ok u).1
  cases x with
  | wi a b =>
    obtain ⟨rfl, rfl, rfl⟩ := hx
    refine ⟨_, rfl, t, _, 0, _, rfl, rfl, SqT.of (s01 _ _ ht), atI_nat (j := 0) rfl, rfl, _, rfl, iteT ?_⟩
    refine ⟨_, rfl, aA, rfl, ⟨_, SqL.of eA1⟩, fun D hD => ?_⟩
    refine cmp_by xA.length (fun i σ H' => (∃ o, σ = [o, some (.ref aB)]) ∧ Same H1 H' ∧ ∃ ys : List V, H' D = some (.lst ys) ∧ ys.length ≤ i ∧ (ys = [] ↔ ∀ k ∈ (pairsAt W r).take i, k ∈ pairsAt W u)) ⟨⟨_, rfl⟩, same_new hD _, [], upd_same, Nat.le_refl _, by simp⟩ ?_ ?_
    · rintro σ HD ⟨_, sD, ys, eD, lD, iD⟩
      rw [pA1.len, List.take_length] at iD
      refine ⟨⟨_, SqL.of (sD _ _ eA1), Nat.le_refl _⟩, D, ys, rfl, .inl (SqL.of eD), rfl, ?_⟩
      have e3 : decide ((V.int (ys.length : Int)) = .int 0) = keptR W (.wi r u) := by
        unfold keptR
        rw [Bool.eq_iff_iff, decide_eq_true_eq, decide_eq_true_eq, ← iD]
        constructor
        · intro h
          exact List.eq_nil_of_length_eq_zero (by injection h with h; omega)
        · intro h
          rw [h]; rfl
      rw [e3]
      exact q HD (s01.trans sD)
    · rintro i σ HD hi ⟨⟨o, rfl⟩, sD, ys, eD, lD, iD⟩
      have eoD := sD _ _ eA1
      refine ⟨⟨_, xA[i], SqL.of eoD, by simp [hi]⟩, ?_⟩
      rintro y HE ⟨rfl, hy⟩
      have hyi := hy _ (SqL.of eoD)
      obtain ⟨q', hq', ipq⟩ := PL.get pA1 hyi
      have tk : (pairsAt W r).take (i + 1) = (pairsAt W r).take i ++ [q'] := by rw [List.take_add_one, hq']; rfl
      have lx := pA1.len
      refine ⟨_, rfl, _, rfl, aB, q', xB, _, rfl, sD _ _ eB, IsP.mono sD.tups ipq, PL.mono sD.tups pB, _, rfl, ite2 (fun hne => ?_) (fun hne => ?_)⟩
      · have hnot : ¬ q' ∈ pairsAt W u := by simpa using hne
        refine ⟨_, rfl, _, eD, small1000 (by omega), ⟨_, rfl⟩, same_upd sD hD, ys ++ [y], upd_same, by rw [List.length_append]; exact Nat.add_le_add_right lD 1, ?_⟩
        rw [tk]
        constructor
        · intro z; simp at z
        · intro z; exact absurd (z q' (List.mem_append_right _ (List.mem_singleton.mpr rfl))) hnot
      · have hin : q' ∈ pairsAt W u := by
          apply Classical.byContradiction
          intro z
          exact hne (by simpa using z)
        refine ⟨⟨_, rfl⟩, sD, ys, eD, Nat.le_succ_of_le lD, ?_⟩
        rw [tk, iD]
        constructor
        · intro z k hk
          rcases List.mem_append.mp hk with h | h
          · exact z k h
          · rw [List.mem_singleton.mp h]; exact hin
        · intro z k hk
          exact z k (List.mem_append_left _ hk)
  | mk a b c =>
    obtain ⟨rfl, rfl, rfl⟩ := hx
    have net : decide (V.str "makes" = V.str "within") = false := dec_ne (by decide +kernel)
    refine ⟨_, rfl, t, _, 0, _, rfl, rfl, SqT.of (s01 _ _ ht), atI_nat (j := 0) rfl, rfl, _, rfl, ?_⟩
    rw [net]
    refine iteF ?_
    refine ⟨_, rfl, p, _, 2, _, rfl, rfl, SqT.of (s01 _ _ h0), atI_nat (j := 2) rfl, dp, rfl, .inl ⟨lp, .inl (s01 _ _ h2)⟩, _, rfl, t, _, 3, _, rfl, rfl, SqT.of (s01 _ _ ht), atI_nat (j := 3) rfl, Nat.zero_le _, fun l2 hl2 => ?_⟩
    have s2 := same_new hl2 (.lst [])
    have s02 := s01.trans s2
    refine ⟨_, DGet.k (k := Sum.inr c) (s02 _ _ h2), ?_⟩
    obtain ⟨aC, xC, egC, eC, pC⟩ := getP (x := c) g2'' ok.nd hl2
    rw [egC]
    have eA2 := s2 _ _ eA1
    have pA2 := PL.mono s2.tups pA1
    have eB2 := s2 _ _ eB
    have pB2 := PL.mono s2.tups pB
    generalize upd H1 l2 (.lst []) = H2 at s2 s02 eC pC eA2 pA2 eB2 pB2 ⊢
    refine ⟨_, rfl, aA, rfl, ⟨_, SqL.of eA2⟩, for_list (xs := xA) (fun i σ H' => (∃ o5 o6 : Option V, σ = [some (.ref p), some (.ref t), some (.ref aA), some (.ref aB), some (.ref aC), o5, o6]) ∧ Same H2 H' ∧ ∀ p' ∈ (pairsAt W r).take i, ∀ q' ∈ pairsAt W u, p'.2 = q'.1 → (p'.1, q'.2) ∈ pairsAt W c) ⟨⟨_, _, rfl⟩, Same.refl _, fun p' hp' => by simp at hp'⟩ ?_ ?_ ?_⟩
    · rintro i σ H' _ ⟨_, s', _⟩
      exact SqL.of (s' _ _ eA2)
    · rintro i x σ H' hx' ⟨⟨o5, o6, rfl⟩, s', hall⟩
      obtain ⟨p', hp', tp, rfl, htp⟩ := PL.get pA2 hx'
      have tk : (pairsAt W r).take (i + 1) = (pairsAt W r).take i ++ [p'] := by rw [List.take_add_one, hp']; rfl
      refine ⟨tp, _, rfl, SqT.of (s' _ _ htp), rfl, _, _, rfl, _, _, rfl, rfl, ?_⟩
      have eB3 := s' _ _ eB2
      refine ⟨_, rfl, aB, rfl, ⟨_, SqL.of eB3⟩, fun D hD => ?_⟩
      refine cmp_by xB.length (fun j σ H3 => (∃ o, σ = [o, some (.int (p'.2 : Int)), some (.ref aC), some (.int (p'.1 : Int))]) ∧ Same H' H3 ∧ ∃ ys : List V, H3 D = some (.lst ys) ∧ ys.length ≤ j ∧ (ys = [] ↔ ∀ q' ∈ (pairsAt W u).take j, p'.2 = q'.1 → (p'.1, q'.2) ∈ pairsAt W c)) ⟨⟨_, rfl⟩, same_new hD _, [], upd_same, Nat.le_refl _, by simp⟩ ?_ ?_
      · rintro σ HD ⟨_, sD, ys, eD, lD, iD⟩
        rw [pB2.len, List.take_length] at iD
        refine ⟨⟨_, SqL.of (sD _ _ eB3), Nat.le_refl _⟩, D, ys, rfl, .inl (SqL.of eD), _, _, rfl, rfl, _, rfl, ite2 (fun hc => ?_) (fun hc => ?_)⟩
        · have hne : ¬ ys = [] := fun z => by
            have := of_decide_eq_true hc
            rw [z] at this
            exact absurd this (by decide)
          have kf : keptR W (.mk r u c) = false := by
            classical
            unfold keptR
            refine decide_eq_false fun hk => hne (iD.mpr fun q' hq' e => hk _ ⟨p', List.mem_of_getElem? hp', q', hq', e, rfl⟩)
          have := q HD (s02.trans (s'.trans sD))
          rw [kf] at this
          exact this
        · have hnil : ys = [] := by
            apply List.eq_nil_of_length_eq_zero
            apply Classical.byContradiction
            intro z
            exact hc (decide_eq_true (by show (ys.length : Int) > 0; omega))
          refine ⟨⟨_, _, rfl⟩, s'.trans sD, ?_⟩
          rw [tk]
          intro p2 hp2
          rcases List.mem_append.mp hp2 with z | z
          · exact hall p2 z
          · rw [List.mem_singleton.mp z]; exact iD.mp hnil
      · rintro j σ HD hj ⟨⟨o, rfl⟩, sD, ys, eD, lD, iD⟩
        have eoD := sD _ _ eB3
        refine ⟨⟨_, xB[j], SqL.of eoD, by simp [hj]⟩, ?_⟩
        rintro y HE ⟨rfl, hy⟩
        have hyi := hy _ (SqL.of eoD)
        obtain ⟨q', hq', tq, rfl, htq⟩ := PL.get pB2 hyi
        have tk2 : (pairsAt W u).take (j + 1) = (pairsAt W u).take j ++ [q'] := by rw [List.take_add_one, hq']; rfl
        have lx := pB2.len
        have htq' := (s'.trans sD) _ _ htq
        have add : ∀ (P1 : Prop), (P1 ↔ (p'.2 = q'.1 → (p'.1, q'.2) ∈ pairsAt W c)) → ((∀ q2 ∈ (pairsAt W u).take (j + 1), p'.2 = q2.1 → (p'.1, q2.2) ∈ pairsAt W c) ↔ (∀ q2 ∈ (pairsAt W u).take j, p'.2 = q2.1 → (p'.1, q2.2) ∈ pairsAt W c) ∧ P1) := fun P1 hP => by
          rw [tk2, hP]
          constructor
          · intro z
            exact ⟨fun q2 h2 => z q2 (List.mem_append_left _ h2), z q' (List.mem_append_right _ (List.mem_singleton.mpr rfl))⟩
          · rintro ⟨z1, z2⟩ q2 h2
            rcases List.mem_append.mp h2 with h | h
            · exact z1 q2 h
            · rw [List.mem_singleton.mp h]; exact z2
        refine ⟨_, rfl, tq, _, 0, _, rfl, rfl, SqT.of htq', atI_nat (j := 0) rfl, _, rfl, rfl, _, rfl, ite2 (fun hc => ?_) (fun hc => iteF ?_)⟩
        · have he : p'.2 = q'.1 := by
            have := of_decide_eq_true hc
            injection this with this
            omega
          refine ⟨_, rfl, _, rfl, tq, _, 1, _, rfl, rfl, SqT.of htq', atI_nat (j := 1) rfl, small2 (by show 2 ≤ 1000; decide), fun tn htn => ?_⟩
          have st := same_new htn (.tup [.int (p'.1 : Int), .int (q'.2 : Int)])
          have sDt := sD.trans st
          have s2t := s'.trans sDt
          refine ⟨_, rfl, aC, (p'.1, q'.2), xC, _, rfl, s2t _ _ eC, ⟨tn, rfl, upd_same⟩, PL.mono s2t.tups pC, _, rfl, ite2 (fun hn => ?_) (fun hn => ?_)⟩
          · have hnot : ¬ (p'.1, q'.2) ∈ pairsAt W c := by simpa using hn
            refine ⟨_, rfl, _, st _ _ eD, small1000 (by omega), ⟨_, rfl⟩, same_upd sDt hD, ys ++ [.ref tq], upd_same, by rw [List.length_append]; exact Nat.add_le_add_right lD 1, ?_⟩
            rw [add False ⟨fun z => z.elim, fun z => hnot (z he)⟩]
            simp
          · have hin : (p'.1, q'.2) ∈ pairsAt W c := by
              apply Classical.byContradiction
              intro z
              exact hn (by simpa using z)
            refine ⟨⟨_, rfl⟩, sDt, ys, st _ _ eD, Nat.le_succ_of_le lD, ?_⟩
            rw [add True ⟨fun _ _ => hin, fun _ => trivial⟩, iD]
            simp
        · have he : ¬ p'.2 = q'.1 := fun z => hc (decide_eq_true (by show V.int (q'.1 : Int) = V.int (p'.2 : Int); rw [z]))
          refine ⟨⟨_, rfl⟩, sD, ys, eD, Nat.le_succ_of_le lD, ?_⟩
          rw [add True ⟨fun _ z => absurd z he, fun _ => trivial⟩, iD]
          simp
    · rintro σ H' ⟨⟨o5, o6, rfl⟩, s', hall⟩
      rw [pA2.len, List.take_length] at hall
      have kt : keptR W (.mk r u c) = true := by
        classical
        unfold keptR
        refine decide_eq_true ?_
        rintro k ⟨p', hp', q', hq', e1, rfl⟩
        exact hall p' hp' q' hq' e1
      have := q H' (s02.trans s')
      rw [kt] at this
      exact this
end
end K08
namespace K08
open PySem L2
theorem dec_str (a b : Str) : decide (V.str a = V.str b) = decide (a = b) := by
  by_cases h : a = b
  · rw [h, decide_eq_true rfl, decide_eq_true rfl]
  · rw [decide_eq_false h, decide_eq_false fun z => h (by injection z)]
noncomputable abbrev badAt (W : Wd) (x : Str) (a b : Kd) (i : Nat) : Bool := inM W a i && (inM W b i != decide (x = "every"))
theorem kept_iff {W : Wd} (ok : WdOk W) {x : Str} {a b : Kd} : keptK W x a b = true ↔ ∀ i, i < W.many → badAt W x a b i = false := by
  have fa := memb_flt ok a
  unfold keptK badAt inM
  by_cases hx : x = "every"
  · rw [if_pos hx, decide_eq_true hx]
    unfold everyB
    rw [List.all_eq_true]
    constructor
    · intro h i _
      by_cases hi : i ∈ memb W a
      · rw [h i hi, decide_eq_true hi]; rfl
      · rw [decide_eq_false hi]; rfl
    · intro h i hi
      have := h i (fa.2 i hi)
      rw [decide_eq_true hi] at this
      simpa using this
  · rw [if_neg hx, decide_eq_false hx]
    unfold noB
    rw [List.all_eq_true]
    constructor
    · intro h i _
      by_cases hi : i ∈ memb W a
      · have := h i hi
        rw [decide_eq_true hi]
        simpa using this
      · rw [decide_eq_false hi]; rfl
    · intro h i hi
      have := h i (fa.2 i hi)
      rw [decide_eq_true hi] at this
      simpa using this
noncomputable def spKept : Sp := fun vs H Q _ => ∃ (v s : V) (W : Wd) (x : Sy), vs = [v, s] ∧ IsW H W v ∧ WdOk W ∧ IsSy H x s ∧ x.ok ∧ ∀ H', Same H H' → Q (.bl (keptB W x)) H'
section
variable {P : Program} {w : World} {K : PySem.W.Frag} {mg : Str → Option Value} {base : Heap} {f g e d a1 a2 a3 a4 : Addr} {fd gd' ed dd d1 d2 d3 d4 : FuncData}
theorem scKp : FnScope ["_law_world_here", "_law_saying_here", "_law_homes", "_law_left", "_law_far", "_law_p", "_law_pair"] ["_law_world_here", "_law_saying_here"] (defScope sKept) := ⟨rfl, rfl, rfl, by decide +kernel, rfl, by decide +kernel, by decide +kernel⟩
theorem ok_kept (F : Fun K "_law_kept" "_law_kept" sKept f fd) (mr : mg "range" = none)
    (Gr : FnOk P w K mg base CX0 27 a1 d1 ["_law_world_here", "_law_kind_here"] (spRow 26)) (bGr : Binds K d1 ["_law_world_here", "_law_kind_here"] []) (kGr : PySem.W.keepIn K (.ref a1) = true) (mGr : mg "_law_row" = some (.ref a1))
    (Gpk : FnOk P w K mg base CX0 1 a2 d2 ["_law_world_here", "_law_saying_here"] spPk) (bGpk : Binds K d2 ["_law_world_here", "_law_saying_here"] []) (kGpk : PySem.W.keepIn K (.ref a2) = true) (mGpk : mg "_law_pairs_kept" = some (.ref a2)) :
    FnOk P w K mg base CX0 28 f fd ["_law_world_here", "_law_saying_here"] spKept := by
  refine F.ok scKp (fun vs H Q E h => ?_) (fun cdv A outer s H vs Q E hr h => ?_)
  · obtain ⟨v, s, W, x, rfl, _⟩ := h; rfl
  obtain ⟨v, sy, W, x, rfl, hW, ok, hS, hx, q⟩ := h
  have hrr := hr
  have hrpk := hr.mono (show 1 ≤ 27 by decide)
  have hu : (A.deeper (PyProof.Rows.envOfC "_law_kept" (defScope sKept) s.heap.objs.size f cdv)).units + 1 < cLine := by have := hr.un; omega
  refine ⟨_, @pss_cons _ _ _ _ _ (by exact ps_set (i := 2) scKp.nd rfl (Or.inl rfl) (pe_ix ix_tup (pv 0) pe_int (fun _ _ => rfl)))
    (@pss_cons _ _ _ _ _ (by exact ps_if (PW.pt (pw_or (pt_cmpR op_eq (pe_ix ix_tup (pv 1) pe_int (fun _ _ => rfl)) pe_str (nomark _)) (pw_or1 (pt_cmpR op_eq (pe_ix ix_tup (pv 1) pe_int (fun _ _ => rfl)) pe_str (nomark _))))) (@pss_cons _ _ _ _ _ (by exact ps_set (i := 3) scKp.nd rfl (Or.inl rfl) (pe_call Gr hrr rfl mGr kGr bGr .nil pass0 (pa_cons (pv 0) (pa_cons (pe_ix ix_tup (pv 1) pe_int (fun _ _ => rfl)) pa_nil)))) (@pss_cons _ _ _ _ _ (by exact ps_set (i := 4) scKp.nd rfl (Or.inl rfl) (pe_call Gr hrr rfl mGr kGr bGr .nil pass0 (pa_cons (pv 0) (pa_cons (pe_ix ix_tup (pv 1) pe_int (fun _ _ => rfl)) pa_nil)))) (@pss_cons _ _ _ _ _ (by exact ps_for PassesOwn.never rfl (pi_range1 rfl mr (pa_cons (pe_ix ix_tup (pv 0) pe_int (fun _ _ => rfl)) pa_nil)) (pg_name (i := 5) scKp.nd rfl (Or.inl rfl)) (@pss_one _ _ _ (by exact ps_if (PW.pt (pw_and (pt_val (pe_ix ix_list (pv 3) (pv 5) (fun _ _ => rfl))) (pw_and1 (pt_cmpR op_ne (pe_ix ix_list (pv 4) (pv 5) (fun _ _ => rfl)) (pe_cmpR op_eq (pe_ix ix_tup (pv 1) pe_int (fun _ _ => rfl)) pe_str (nomark _)) (nomark _))))) (@pss_one _ _ _ (by exact ps_ret pe_bl)) pss_nil))) (@pss_one _ _ _ (by exact ps_ret pe_bl))))) pss_nil)
    (@pss_cons _ _ _ _ _ (by exact ps_if (pt_cmpR op_eq (pe_ix ix_tup (pv 1) pe_int (fun _ _ => rfl)) pe_str (nomark _)) (@pss_one _ _ _ (by exact ps_ret (pe_and (pe_cmpR (op_inH hu) (pe_ix ix_tup (pv 1) pe_int (fun _ _ => rfl)) (pv 2) rfl) (pe_one (pe_ix ix_list (pe_call Gr hrr rfl mGr kGr bGr .nil pass0 (pa_cons (pv 0) (pa_cons (pe_ix ix_tup (pv 1) pe_int (fun _ _ => rfl)) pa_nil))) (pe_dget hu (pv 2) (pe_ix ix_tup (pv 1) pe_int (fun _ _ => rfl)) (fun _ _ => rfl)) (fun _ _ => rfl)))))) pss_nil)
    (@pss_cons _ _ _ _ _ (by exact ps_if (pt_cmpR op_eq (pe_ix ix_tup (pv 1) pe_int (fun _ _ => rfl)) pe_str (nomark _)) (@pss_cons _ _ _ _ _ (by exact ps_if (PW.pt (pw_or (pt_cmpR (op_notInH hu) (pe_ix ix_tup (pv 1) pe_int (fun _ _ => rfl)) (pv 2) rfl) (pw_or1 (pt_cmpR (op_notInH hu) (pe_ix ix_tup (pv 1) pe_int (fun _ _ => rfl)) (pv 2) rfl)))) (@pss_one _ _ _ (by exact ps_ret pe_bl)) pss_nil) (@pss_cons _ _ _ _ _ (by exact ps_set (i := 6) scKp.nd rfl (Or.inl rfl) (pe_tup (pa_cons (pe_dget hu (pv 2) (pe_ix ix_tup (pv 1) pe_int (fun _ _ => rfl)) (fun _ _ => rfl)) (pa_cons (pe_dget hu (pv 2) (pe_ix ix_tup (pv 1) pe_int (fun _ _ => rfl)) (fun _ _ => rfl)) pa_nil)))) (@pss_one _ _ _ (by exact ps_ret (pe_cmpR (op_inP hr.units) (pv 6) (pe_dget2 hu (pe_ix ix_tup (pv 0) pe_int (fun _ _ => rfl)) (pe_ix ix_tup (pv 1) pe_int (fun _ _ => rfl)) (pe_lst pa_nil) ⟨rfl, rfl, rfl, rfl⟩) rfl))))) pss_nil)
    (@pss_one _ _ _ (by exact ps_ret (pe_call Gpk hrpk rfl mGpk kGpk bGpk .nil pass0 (pa_cons (pv 0) (pa_cons (pv 1) pa_nil)))))))), ?_⟩
  have m10 := ok.many
  have no : keptB W x = false → Q (.bl false) H := fun e => by
    have := q H (Same.refl _)
    rw [e] at this
    exact this
  have hW' := hW
  obtain ⟨p, dk, dp, dh, lk, lp, lh, rfl, h0, h1, g1, h2, g2, h3, g3⟩ := hW'
  refine ⟨_, rfl, p, _, 3, _, rfl, rfl, SqT.of h0, atI_nat (j := 3) rfl, ?_⟩
  have hS' := hS
  cases x with
  | kk x a b =>
    obtain ⟨hx, ha, hb⟩ := hx
    obtain ⟨t, y, z, rfl, ht, ka, kb⟩ := hS
    refine ⟨_, rfl, t, _, 0, _, rfl, rfl, SqT.of ht, atI_nat (j := 0) rfl, rfl, _, rfl, ite2 (fun c0 => iteT ?_) (fun c0 => ⟨_, rfl, t, _, 0, _, rfl, rfl, SqT.of ht, atI_nat (j := 0) rfl, rfl, _, rfl, ite2 (fun c1 => ?_) (fun c1 => ?_)⟩)⟩
    iterate 2
      · refine ⟨_, rfl, _, rfl, t, _, 1, _, rfl, rfl, SqT.of ht, atI_nat (j := 1) rfl, _, y, W, a, rfl, hW, ok, ka, by omega, by omega, fun p1 H1 s1 n1 e1 => ?_⟩
        refine ⟨_, rfl, _, rfl, t, _, 2, _, rfl, rfl, SqT.of (s1 _ _ ht), atI_nat (j := 2) rfl, _, z, W, b, rfl, hW.mono s1, ok, IsK.mono s1.tups kb, by omega, by omega, fun p2 H2 s2 n2 e2 => ?_⟩
        have s12 := s1.trans s2
        have e1' := s2 _ _ e1
        refine ⟨_, rfl, p, _, 0, _, rfl, rfl, SqT.of (s12 _ _ h0), atI_nat (j := 0) rfl, _, rfl, by omega, by omega, ?_⟩
        refine for_range (fun i σ H' => H' = H2 ∧ (∃ o, σ = [some (.ref p), some (.ref t), some (.ref dh), some (.ref p1), some (.ref p2), o, none]) ∧ ∀ j, j < i → badAt W x a b j = false) ⟨rfl, ⟨_, rfl⟩, fun j hj => absurd hj (Nat.not_lt_zero _)⟩ ?_ ?_
        · rintro i σ H' hi ⟨rfl, ⟨o, rfl⟩, hj⟩
          have hi' : i < W.many := by have : i < (W.many : Int).toNat := hi; omega
          have gi : ∀ g : Nat → Bool, atI (rowV W.many g) (0 + (i : Int)) = some (.bl (g i)) := fun g => by rw [Int.zero_add]; exact rowV_atI hi'
          refine ⟨_, rfl, _, rfl, p1, _, _, _, rfl, rfl, SqL.of e1', gi _, _, rfl, ?_⟩
          have yes : (inM W a i = true) → ((inM W b i != decide (x = "every")) = true) → Q (.bl false) H' := fun h1 h2 => by
            have hk : keptK W x a b = false := by
              cases hk : keptK W x a b with
              | false => rfl
              | true =>
                have := (kept_iff ok).mp hk i hi'
                unfold badAt at this
                rw [h1, h2] at this
                cases this
            have := q H' s12
            rw [show keptB W (.kk x a b) = keptK W x a b from rfl, hk] at this
            exact this
          have next : badAt W x a b i = false → ∀ j, j < i + 1 → badAt W x a b j = false := fun hb' j hj' => by
            rcases Nat.lt_succ_iff_lt_or_eq.mp hj' with z | rfl
            · exact hj j z
            · exact hb'
          cases ca : inM W a i with
          | false => exact iteF (iteF ⟨rfl, ⟨_, rfl⟩, next (by unfold badAt; rw [ca]; rfl)⟩)
          | true =>
            refine iteT ⟨_, rfl, _, rfl, p2, _, _, _, rfl, rfl, SqL.of e2, gi _, _, rfl, t, _, 0, _, rfl, rfl, SqT.of (s12 _ _ ht), atI_nat (j := 0) rfl, rfl, rfl, _, rfl, ?_⟩
            have ec : (!decide (V.bl (inM W b i) = V.bl (decide (V.str x = V.str "every")))) = (inM W b i != decide (x = "every")) := by
              rw [dec_str]
              cases inM W b i <;> cases decide (x = "every") <;> rfl
            rw [ec]
            cases cb : (inM W b i != decide (x = "every")) with
            | true => exact iteT (yes ca cb)
            | false => exact iteF ⟨rfl, ⟨_, rfl⟩, next (by unfold badAt; rw [ca, cb]; rfl)⟩
        · rintro σ H' ⟨rfl, ⟨o, rfl⟩, hj⟩
          have hk : keptK W x a b = true := (kept_iff ok).mpr fun i hi => hj i (by show i < (W.many : Int).toNat; omega)
          have := q H' s12
          rw [show keptB W (.kk x a b) = keptK W x a b from rfl, hk] at this
          exact this
    · exfalso
      rcases hx with rfl | rfl
      · exact c0 (decide_eq_true rfl)
      · exact c1 (decide_eq_true rfl)
  | tt x =>
    cases x with
    | th a k =>
      obtain ⟨t, y, rfl, ht, ky⟩ := hS
      have hk : k.dep ≤ 24 := hx
      refine ⟨_, rfl, t, _, 0, _, rfl, rfl, SqT.of ht, atI_nat (j := 0) rfl, rfl, _, rfl, ?_⟩
      rw [dec_ne (a := "thing") (b := "every") (by decide +kernel)]
      refine iteF ⟨_, rfl, t, _, 0, _, rfl, rfl, SqT.of ht, atI_nat (j := 0) rfl, rfl, _, rfl, ?_⟩
      rw [dec_ne (a := "thing") (b := "no") (by decide +kernel)]
      refine iteF ?_
      refine ⟨_, rfl, t, _, 0, _, rfl, rfl, SqT.of ht, atI_nat (j := 0) rfl, rfl, _, rfl, iteT ?_⟩
      refine ⟨_, rfl, t, _, 1, _, rfl, rfl, SqT.of ht, atI_nat (j := 1) rfl, _, rfl, dh, _, rfl, DGet.k (k := Sum.inr a) h3, ?_⟩
      rcases homes_get a g3 ok.nd with ⟨n, e1, e2⟩ | ⟨e1, e2⟩
      · rw [e2]
        refine ⟨_, rfl, iteT ?_⟩
        refine ⟨_, rfl, _, rfl, t, _, 2, _, rfl, rfl, SqT.of ht, atI_nat (j := 2) rfl, _, y, W, k, rfl, hW, ok, ky, by omega, by omega, fun p1 H1 s1 n1 ep1 => ?_⟩
        refine ⟨_, rfl, _, rfl, t, _, 1, _, rfl, rfl, SqT.of (s1 _ _ ht), atI_nat (j := 1) rfl, dh, _, rfl, dg (s1 _ _ h3) e2, p1, _, _, _, rfl, rfl, SqL.of ep1, rowV_atI (ok.hm a n (mem_look e1)), ?_⟩
        have := q H1 s1
        rw [show keptB W (.tt (.th a k)) = keptT W (.th a k) from rfl, keptT_th e1] at this
        exact this
      · rw [e2]
        exact ⟨_, rfl, iteF (no (keptT_th0 e1))⟩
    | ti a r b =>
      obtain ⟨t, rfl, ht⟩ := hS
      refine ⟨_, rfl, t, _, 0, _, rfl, rfl, SqT.of ht, atI_nat (j := 0) rfl, rfl, _, rfl, ?_⟩
      rw [dec_ne (a := "tied") (b := "every") (by decide +kernel)]
      refine iteF ⟨_, rfl, t, _, 0, _, rfl, rfl, SqT.of ht, atI_nat (j := 0) rfl, rfl, _, rfl, ?_⟩
      rw [dec_ne (a := "tied") (b := "no") (by decide +kernel)]
      refine iteF ?_
      refine ⟨_, rfl, t, _, 0, _, rfl, rfl, SqT.of ht, atI_nat (j := 0) rfl, rfl, _, rfl, ?_⟩
      rw [dec_ne (a := "tied") (b := "thing") (by decide +kernel)]
      refine iteF ?_
      refine ⟨_, rfl, t, _, 0, _, rfl, rfl, SqT.of ht, atI_nat (j := 0) rfl, rfl, _, rfl, iteT ?_⟩
      refine ⟨_, rfl, t, _, 1, _, rfl, rfl, SqT.of ht, atI_nat (j := 1) rfl, _, rfl, dh, _, rfl, DGet.k (k := Sum.inr a) h3, _, rfl, ?_⟩
      rcases homes_get a g3 ok.nd with ⟨n, e1, e2⟩ | ⟨e1, e2⟩
      · rw [e2]
        refine iteF ⟨_, rfl, t, _, 3, _, rfl, rfl, SqT.of ht, atI_nat (j := 3) rfl, _, rfl, dh, _, rfl, DGet.k (k := Sum.inr b) h3, _, rfl, ?_⟩
        rcases homes_get b g3 ok.nd with ⟨m, f1, f2⟩ | ⟨f1, f2⟩
        · rw [f2]
          refine iteF ?_
          refine ⟨_, rfl, _, rfl, t, _, 1, _, rfl, rfl, SqT.of ht, atI_nat (j := 1) rfl, dh, _, rfl, dg h3 e2, _, rfl, _, rfl, t, _, 3, _, rfl, rfl, SqT.of ht, atI_nat (j := 3) rfl, dh, _, rfl, dg h3 f2, small2 (by show 2 ≤ 1000; decide), fun tp htp => ?_⟩
          have st := same_new htp (.tup [.int (n : Int), .int (m : Int)])
          refine ⟨_, rfl, _, rfl, p, _, 2, _, rfl, rfl, SqT.of (st _ _ h0), atI_nat (j := 2) rfl, dp, rfl, .inl ⟨lp, .inl (st _ _ h2)⟩, _, rfl, t, _, 2, _, rfl, rfl, SqT.of (st _ _ ht), atI_nat (j := 2) rfl, Nat.zero_le _, fun l hl => ?_⟩
          have s2 := same_new hl (.lst [])
          have s3 := st.trans s2
          have ip : IsP (upd (upd H tp (.tup [.int (n : Int), .int (m : Int)])) l (.lst [])) (n, m) (.ref tp) := ⟨tp, rfl, s2 _ _ upd_same⟩
          refine ⟨_, DGet.k (k := Sum.inr r) (s3 _ _ h2), ?_⟩
          obtain ⟨ar, xr, egr, ear, plr⟩ := getP (x := r) (g2.mono st) ok.nd hl
          rw [egr]
          have fin := q _ s3
          rw [show keptB W (.tt (.ti a r b)) = keptT W (.ti a r b) from rfl, keptT_ti e1 f1] at fin
          exact ⟨ar, (n, m), xr, _, rfl, ear, ip, plr, fin⟩
        · rw [f2]
          exact iteT (no (keptT_ti1 e1 f1))
      · rw [e2]
        exact iteT (iteT (no (keptT_ti0 e1)))
  | rr x =>
    cases x with
    | wi r u =>
      obtain ⟨t, rfl, ht⟩ := hS
      refine ⟨_, rfl, t, _, 0, _, rfl, rfl, SqT.of ht, atI_nat (j := 0) rfl, rfl, _, rfl, ?_⟩
      rw [dec_ne (a := "within") (b := "every") (by decide +kernel)]
      refine iteF ⟨_, rfl, t, _, 0, _, rfl, rfl, SqT.of ht, atI_nat (j := 0) rfl, rfl, _, rfl, ?_⟩
      rw [dec_ne (a := "within") (b := "no") (by decide +kernel)]
      refine iteF ?_
      refine ⟨_, rfl, t, _, 0, _, rfl, rfl, SqT.of ht, atI_nat (j := 0) rfl, rfl, _, rfl, ?_⟩
      rw [dec_ne (a := "within") (b := "thing") (by decide +kernel)]
      refine iteF ?_
      refine ⟨_, rfl, t, _, 0, _, rfl, rfl, SqT.of ht, atI_nat (j := 0) rfl, rfl, _, rfl, ?_⟩
      rw [dec_ne (a := "within") (b := "tied") (by decide +kernel)]
      refine iteF ?_
      exact ⟨_, rfl, _, rfl, _, _, W, .wi r u, rfl, hW, ok, hS', q⟩
    | mk r u y =>
      obtain ⟨t, rfl, ht⟩ := hS
      refine ⟨_, rfl, t, _, 0, _, rfl, rfl, SqT.of ht, atI_nat (j := 0) rfl, rfl, _, rfl, ?_⟩
      rw [dec_ne (a := "makes") (b := "every") (by decide +kernel)]
      refine iteF ⟨_, rfl, t, _, 0, _, rfl, rfl, SqT.of ht, atI_nat (j := 0) rfl, rfl, _, rfl, ?_⟩
      rw [dec_ne (a := "makes") (b := "no") (by decide +kernel)]
      refine iteF ?_
      refine ⟨_, rfl, t, _, 0, _, rfl, rfl, SqT.of ht, atI_nat (j := 0) rfl, rfl, _, rfl, ?_⟩
      rw [dec_ne (a := "makes") (b := "thing") (by decide +kernel)]
      refine iteF ?_
      refine ⟨_, rfl, t, _, 0, _, rfl, rfl, SqT.of ht, atI_nat (j := 0) rfl, rfl, _, rfl, ?_⟩
      rw [dec_ne (a := "makes") (b := "tied") (by decide +kernel)]
      refine iteF ?_
      exact ⟨_, rfl, _, rfl, _, _, W, .mk r u y, rfl, hW, ok, hS', q⟩
end
end K08
namespace K08
open PySem L2
theorem at2 {hs : List Str} (h : hs.length = 2) (i : Int) : ∃ z : Str, atI (hs.map V.str) (i % 2) = some (.str z) := by
  obtain ⟨y, _, ey⟩ := at_strs (ws := hs) (by omega) i
  rw [h] at ey
  exact ⟨y, ey⟩
noncomputable def spSaying : Sp := fun vs H Q _ => ∃ (c : Int) (pn pt ph : Addr) (ws ts hs : List Str), vs = [.int c, .ref pn, .ref pt, .ref ph] ∧ H pn = some (.lst (ws.map V.str)) ∧ H pt = some (.lst (ts.map V.str)) ∧ H ph = some (.lst (hs.map V.str)) ∧ ws.length = 3 ∧ ts.length = 2 ∧ hs.length = 2 ∧
  ∀ (v : V) (H' : Hp) (x : Sy), Same H H' → IsSy H' x v → x.ok → Q v H'
section
variable {P : Program} {w : World} {K : PySem.W.Frag} {mg : Str → Option Value} {base : Heap} {f g e d a1 a2 a3 a4 : Addr} {fd gd' ed dd d1 d2 d3 d4 : FuncData}
theorem scSy : FnScope ["_law_cell_here", "_law_names_here", "_law_ties", "_law_things_here", "_law_one", "_law_other", "_law_a", "_law_b", "_law_r", "_law_s", "_law_some"] ["_law_cell_here", "_law_names_here", "_law_ties", "_law_things_here"] (defScope sSaying) := ⟨rfl, rfl, rfl, by decide +kernel, rfl, by decide +kernel, by decide +kernel⟩
theorem ok_saying (F : Fun K "_law_saying" "_law_saying" sSaying f fd)
    (Gk : FnOk P w K mg base CX0 6 a1 d1 ["_law_cell_here", "_law_names_here", "_law_ties", "_law_deep"] (spKind 5)) (bGk : Binds K d1 ["_law_cell_here", "_law_names_here", "_law_ties", "_law_deep"] []) (kGk : PySem.W.keepIn K (.ref a1) = true) (mGk : mg "_law_kind" = some (.ref a1))
    (Gx : FnOk P w K mg base CX0 1 a2 d2 ["_law_cell_here", "_law_k"] spNext) (bGx : Binds K d2 ["_law_cell_here", "_law_k"] []) (kGx : PySem.W.keepIn K (.ref a2) = true) (mGx : mg "_law_next" = some (.ref a2)) :
    FnOk P w K mg base CX0 7 f fd ["_law_cell_here", "_law_names_here", "_law_ties", "_law_things_here"] spSaying := by
  refine F.ok scSy (fun vs H Q E h => ?_) (fun cdv A outer s H vs Q E hr h => ?_)
  · obtain ⟨c, pn, pt, ph, ws, ts, hs, rfl, _⟩ := h; rfl
  obtain ⟨c, pn, pt, ph, ws, ts, hs, rfl, en, et, eh, lw, lt, lh, q⟩ := h
  have hrk := hr
  have hrx := hr.mono (show 1 ≤ 6 by decide)
  refine ⟨_, @pss_cons _ _ _ _ _ (by exact ps_set (i := 4) scSy.nd rfl (Or.inl rfl) (pe_call Gk hrk rfl mGk kGk bGk .nil pass0 (pa_cons (pv 0) (pa_cons (pv 1) (pa_cons (pv 2) (pa_cons pe_int pa_nil))))))
    (@pss_cons _ _ _ _ _ (by exact ps_set (i := 5) scSy.nd rfl (Or.inl rfl) (pe_call Gk hrk rfl mGk kGk bGk .nil pass0 (pa_cons (pe_call Gx hrx rfl mGx kGx bGx .nil pass0 (pa_cons (pv 0) (pa_cons pe_int pa_nil))) (pa_cons (pv 1) (pa_cons (pv 2) (pa_cons pe_int pa_nil))))))
    (@pss_cons _ _ _ _ _ (by exact ps_set (i := 6) scSy.nd rfl (Or.inl rfl) (pe_ix ix_list (pv 3) (pe_op op_mod (pe_op op_fdiv (pv 0) pe_int) pe_int) (fun _ _ => rfl)))
    (@pss_cons _ _ _ _ _ (by exact ps_set (i := 7) scSy.nd rfl (Or.inl rfl) (pe_ix ix_list (pv 3) (pe_op op_mod (pe_op op_fdiv (pv 0) pe_int) pe_int) (fun _ _ => rfl)))
    (@pss_cons _ _ _ _ _ (by exact ps_set (i := 8) scSy.nd rfl (Or.inl rfl) (pe_ix ix_list (pv 2) (pe_op op_mod (pe_op op_fdiv (pv 0) pe_int) pe_int) (fun _ _ => rfl)))
    (@pss_cons _ _ _ _ _ (by exact ps_set (i := 9) scSy.nd rfl (Or.inl rfl) (pe_ix ix_list (pv 2) (pe_op op_mod (pe_op op_fdiv (pv 0) pe_int) pe_int) (fun _ _ => rfl)))
    (@pss_cons _ _ _ _ _ (by exact ps_set (i := 10) scSy.nd rfl (Or.inl rfl) (pe_lst (@pa_consN _ _ _ _ _ (@pe_tup _ _ _ _ _ (pa_cons pe_str (pa_cons (pv 4) (pa_cons (pv 5) pa_nil)))) (@pa_consN _ _ _ _ _ (@pe_tup _ _ _ _ _ (pa_cons pe_str (pa_cons (pv 4) (pa_cons (pv 5) pa_nil)))) (@pa_consN _ _ _ _ _ (@pe_tup _ _ _ _ _ (pa_cons pe_str (pa_cons (pv 6) (pa_cons (pv 4) pa_nil)))) pa_nil rfl) rfl) rfl)))
    (@pss_cons _ _ _ _ _ (by exact ps_set (i := 10) scSy.nd rfl (Or.inl rfl) (pe_op op_cat (pv 10) (pe_lst (@pa_consN _ _ _ _ _ (@pe_tup _ _ _ _ _ (pa_cons pe_str (pa_cons (pv 6) (pa_cons (pv 8) (pa_cons (pv 7) pa_nil))))) (@pa_consN _ _ _ _ _ (@pe_tup _ _ _ _ _ (pa_cons pe_str (pa_cons (pv 8) (pa_cons (pv 9) pa_nil)))) (@pa_consN _ _ _ _ _ (@pe_tup _ _ _ _ _ (pa_cons pe_str (pa_cons (pv 8) (pa_cons (pv 9) (pa_cons (pe_ix ix_list (pv 2) (pe_op op_mod (pe_op op_fdiv (pv 0) pe_int) pe_int) (fun _ _ => rfl)) pa_nil))))) pa_nil rfl) rfl) rfl))))
    (@pss_one _ _ _ (by exact @ps_ret _ _ _ _ (pe_ix ix_list (pv 10) (pe_op op_mod (pe_call Gx hrx rfl mGx kGx bGx .nil pass0 (pa_cons (pv 0) (pa_cons pe_int pa_nil))) pe_int) (fun _ _ => rfl))))))))))), ?_⟩
  refine ⟨_, rfl, _, rfl, _, rfl, c, pn, pt, ws, ts, 2, rfl, en, et, by omega, by omega, by omega, by decide, fun u1 H1 k1 s1 ik1 nt1 => ?_⟩
  refine ⟨_, rfl, c, 2, rfl, by decide, by decide, fun r1 _ => ⟨_, rfl, _, rfl, r1, pn, pt, ws, ts, 2, rfl, s1 _ _ en, s1 _ _ et, by omega, by omega, by omega, by decide, fun u2 H2 k2 s2 ik2 nt2 => ?_⟩⟩
  have n1 : k1.nt + 1 ≤ 4 := nt1
  have n2 : k2.nt + 1 ≤ 4 := nt2
  have dp1 := Kd.dep_le_nt k1
  have dp2 := Kd.dep_le_nt k2
  have s02 := s1.trans s2
  have ik1' := IsK.mono s2.tups ik1
  have et2 := s02 _ _ et
  have eh2 := s02 _ _ eh
  obtain ⟨za, ga⟩ := at2 lh (c / 7)
  obtain ⟨zb, gb⟩ := at2 lh (c / 14)
  obtain ⟨zr, gr⟩ := at2 lt (c / 28)
  obtain ⟨zs, gs⟩ := at2 lt (c / 56)
  obtain ⟨zt, gt⟩ := at2 lt (c / 112)
  refine ⟨_, rfl, _, rfl, _, _, rfl, rfl, ⟨by decide, by decide⟩, _, _, rfl, rfl, (show (0 : Int) < 2 by decide), ph, _, _, _, rfl, rfl, SqL.of eh2, ga, ?_⟩
  refine ⟨_, rfl, _, rfl, _, _, rfl, rfl, ⟨by decide, by decide⟩, _, _, rfl, rfl, (show (0 : Int) < 2 by decide), ph, _, _, _, rfl, rfl, SqL.of eh2, gb, ?_⟩
  refine ⟨_, rfl, _, rfl, _, _, rfl, rfl, ⟨by decide, by decide⟩, _, _, rfl, rfl, (show (0 : Int) < 2 by decide), pt, _, _, _, rfl, rfl, SqL.of et2, gr, ?_⟩
  refine ⟨_, rfl, _, rfl, _, _, rfl, rfl, ⟨by decide, by decide⟩, _, _, rfl, rfl, (show (0 : Int) < 2 by decide), pt, _, _, _, rfl, rfl, SqL.of et2, gs, ?_⟩
  refine ⟨_, rfl, _, rfl, small2 (by show 3 ≤ 1000; decide), fun t1 ht1 => ?_⟩
  have q1 := same_new ht1 (.tup [.str "every", u1, u2])
  refine ⟨_, rfl, _, rfl, small2 (by show 3 ≤ 1000; decide), fun t2 ht2 => ?_⟩
  have q2 := same_new ht2 (.tup [.str "no", u1, u2])
  refine ⟨_, rfl, _, rfl, small2 (by show 3 ≤ 1000; decide), fun t3 ht3 => ?_⟩
  have q3 := same_new ht3 (.tup [.str "thing", .str za, u1])
  refine ⟨small2 (by show 3 ≤ 1000; decide), fun l1 hl1 => ?_⟩
  have q4 := same_new hl1 (.lst [.ref t1, .ref t2, .ref t3])
  have q14 := ((q1.trans q2).trans q3).trans q4
  have e1 := ((q2.trans q3).trans q4) _ _ (upd_same (H := H2) (a := t1) (o := .tup [.str "every", u1, u2]))
  have e2 := (q3.trans q4) _ _ (upd_same (a := t2) (o := .tup [.str "no", u1, u2]))
  have e3 := q4 _ _ (upd_same (a := t3) (o := .tup [.str "thing", .str za, u1]))
  have el := upd_same (H := upd (upd (upd H2 t1 (.tup [.str "every", u1, u2])) t2 (.tup [.str "no", u1, u2])) t3 (.tup [.str "thing", .str za, u1])) (a := l1) (o := HO.lst [.ref t1, .ref t2, .ref t3])
  generalize upd (upd (upd (upd H2 t1 (.tup [.str "every", u1, u2])) t2 (.tup [.str "no", u1, u2])) t3 (.tup [.str "thing", .str za, u1])) l1 (.lst [.ref t1, .ref t2, .ref t3]) = H3 at q14 e1 e2 e3 el ⊢
  refine ⟨_, rfl, _, rfl, _, rfl, _, rfl, small2 (by show 4 ≤ 1000; decide), fun t4 ht4 => ?_⟩
  have r1' := same_new ht4 (.tup [.str "tied", .str za, .str zr, .str zb])
  refine ⟨_, rfl, _, rfl, small2 (by show 3 ≤ 1000; decide), fun t5 ht5 => ?_⟩
  have r2' := same_new ht5 (.tup [.str "within", .str zr, .str zs])
  have q16 := (q14.trans r1').trans r2'
  refine ⟨_, rfl, _, rfl, _, rfl, _, rfl, _, _, rfl, rfl, ⟨by decide, by decide⟩, _, _, rfl, rfl, (show (0 : Int) < 2 by decide), pt, _, _, _, rfl, rfl, SqL.of (q16 _ _ et2), gt, small2 (by show 4 ≤ 1000; decide), fun t6 ht6 => ?_⟩
  have r3' := same_new ht6 (.tup [.str "makes", .str zr, .str zs, .str zt])
  refine ⟨small2 (by show 3 ≤ 1000; decide), fun l2 hl2 => ?_⟩
  have r4' := same_new hl2 (.lst [.ref t4, .ref t5, .ref t6])
  have r14 := ((r1'.trans r2').trans r3').trans r4'
  have e4 := ((r2'.trans r3').trans r4') _ _ (upd_same (H := H3) (a := t4) (o := .tup [.str "tied", .str za, .str zr, .str zb]))
  have e5 := (r3'.trans r4') _ _ (upd_same (a := t5) (o := .tup [.str "within", .str zr, .str zs]))
  have e6 := r4' _ _ (upd_same (a := t6) (o := .tup [.str "makes", .str zr, .str zs, .str zt]))
  have el2 := upd_same (H := upd (upd (upd H3 t4 (.tup [.str "tied", .str za, .str zr, .str zb])) t5 (.tup [.str "within", .str zr, .str zs])) t6 (.tup [.str "makes", .str zr, .str zs, .str zt])) (a := l2) (o := HO.lst [.ref t4, .ref t5, .ref t6])
  generalize upd (upd (upd (upd H3 t4 (.tup [.str "tied", .str za, .str zr, .str zb])) t5 (.tup [.str "within", .str zr, .str zs])) t6 (.tup [.str "makes", .str zr, .str zs, .str zt])) l2 (.lst [.ref t4, .ref t5, .ref t6]) = H4 at r14 e4 e5 e6 el2 ⊢
  refine ⟨l1, l2, _, _, rfl, rfl, r14 _ _ el, el2, small2 (by show 3 + 3 ≤ 1000; decide), fun l3 hl3 => ?_⟩
  have w1 := same_new hl3 (.lst ([.ref t1, .ref t2, .ref t3] ++ [.ref t4, .ref t5, .ref t6]))
  have sAll := s02.trans (q14.trans (r14.trans w1))
  have k24 := (q14.trans (r14.trans w1)).tups
  refine ⟨_, rfl, _, rfl, c, 1, rfl, by decide, by decide, fun r6 _ => ?_⟩
  obtain ⟨v, hv, ev⟩ := at_mod (xs := [V.ref t1, .ref t2, .ref t3] ++ [.ref t4, .ref t5, .ref t6]) (by show 0 < 6; decide) r6
  refine ⟨_, _, rfl, rfl, (show (0 : Int) < 6 by decide), l3, _, _, v, rfl, rfl, SqL.of upd_same, ev, ?_⟩
  have ka := IsK.mono k24 ik1'
  have kb := IsK.mono k24 ik2
  have m := fun a o (h : H3 a = some o) => (r14.trans w1) a o h
  simp only [List.cons_append, List.nil_append, List.mem_cons, List.not_mem_nil, or_false] at hv
  rcases hv with rfl | rfl | rfl | rfl | rfl | rfl
  · exact q _ _ (.kk "every" k1 k2) sAll ⟨t1, u1, u2, rfl, m _ _ e1, ka, kb⟩ ⟨.inl rfl, by omega, by omega⟩
  · exact q _ _ (.kk "no" k1 k2) sAll ⟨t2, u1, u2, rfl, m _ _ e2, ka, kb⟩ ⟨.inr rfl, by omega, by omega⟩
  · exact q _ _ (.tt (.th za k1)) sAll ⟨t3, u1, rfl, m _ _ e3, ka⟩ (by show k1.dep ≤ 24; omega)
  · exact q _ _ (.tt (.ti za zr zb)) sAll ⟨t4, rfl, w1 _ _ e4⟩ trivial
  · exact q _ _ (.rr (.wi zr zs)) sAll ⟨t5, rfl, w1 _ _ e5⟩ trivial
  · exact q _ _ (.rr (.mk zr zs zt)) sAll ⟨t6, rfl, w1 _ _ e6⟩ trivial
end
end K08
namespace K08
open PySem L2
noncomputable def rIns0 : V → List V → Hp → VK → Prop := fun x vs H Q => ∃ l xs y, x = .ref l ∧ vs = [.int 0, y] ∧ H l = some (.lst xs) ∧ xs.length < sizeLine ∧ Q .non (upd H l (.lst (y :: xs)))
theorem mt_insert {X : Cx} : MtM X "list.insert" rIns0 := by
  intro pins s σ H x vs v us Q I rx rv h
  obtain ⟨l, xs, y, rfl, rfl, hH, hz, q⟩ := h
  cases rx
  cases rv with
  | cons r0 rv =>
    cases rv with
    | cons ru rv =>
      cases rv
      obtain ⟨t, rfl⟩ := r0
      obtain ⟨z, its, n, r, hl, e⟩ := I.lstM hH
      have hzl := r.length
      refine call_meets PySem.F.slot_list_insert ⟨_, e, rfl⟩ PySem.F.entry_list_insert (PySem.F.args_list_insert_3 _ _ _) (PySem.AutoListH.list_insert_list_int_val_1 l its.toArray n 0 t _ (by decide) (by rw [List.size_toArray]; omega)) ⟨e, ?_⟩
      refine ⟨.non, _, I.lset (its' := _ :: its) hH e (by simp) (.cons ru r) ?_, rfl, q⟩
      rw [List.length_cons]
      omega
theorem vals_refs : ∀ {xs : List V} {us vs : List Value}, (∀ x ∈ xs, ∃ t : Addr, x = .ref t) → Vals xs us → Vals xs vs → us = vs
  | [], _, _, _, .nil, .nil => rfl
  | x :: xs, _, _, h, .cons r1 t1, .cons r2 t2 => by
    obtain ⟨t, rfl⟩ := h x List.mem_cons_self
    cases r1
    cases r2
    rw [vals_refs (fun y hy => h y (List.mem_cons_of_mem _ hy)) t1 t2]
theorem op_eqLL {X : Cx} (hu : X.A.units + 64 < cLine) : OpR X (compareOp .Eq) (fun x y H Q => ∃ (a b : Addr) (xs : List V), x = .ref a ∧ y = .ref b ∧ H a = some (.lst xs) ∧ H b = some (.lst xs) ∧ (∀ x ∈ xs, ∃ t : Addr, x = .ref t) ∧ Q (.bl true) H) := by
  intro pins s σ H x y v u Q I rx ry h
  obtain ⟨a, b, xs, rfl, rfl, ha, hb, hx, q⟩ := h
  cases rx
  cases ry
  obtain ⟨its, rv, p, _⟩ := I.list (SqL.of ha)
  obtain ⟨its2, rv2, p2, _⟩ := I.list (SqL.of hb)
  have e : its = its2 := vals_refs hx rv rv2
  subst e
  refine SeqAt.eq_listAt (e := fun _ => true) p.isList p2.isList rfl (by omega) (fun j _ _ => SeqAt.EqAt.same _) ?_
  have ea : ((List.range its.toArray.size).all fun _ => true) = true := by simp
  rw [ea]
  exact ⟨.bl true, H, I, rfl, q⟩
theorem ndaws : ((([("_law_at" : Str)] : List Str) ++ [("_law_world_here" : Str), ("_law_sayings" : Str)]) : List Str).Nodup := by decide +kernel
theorem IsSy.isRef {H : Hp} : ∀ {x : Sy} {v : V}, IsSy H x v → ∃ t : Addr, v = .ref t
  | .kk _ _ _, _, ⟨t, _, _, e, _⟩ => ⟨t, e⟩
  | .tt (.th _ _), _, ⟨t, _, e, _⟩ => ⟨t, e⟩
  | .tt (.ti _ _ _), _, ⟨t, e, _⟩ => ⟨t, e⟩
  | .rr (.wi _ _), _, ⟨t, e, _⟩ => ⟨t, e⟩
  | .rr (.mk _ _ _), _, ⟨t, e, _⟩ => ⟨t, e⟩
theorem Sys.refs {H : Hp} {xs : List V} {ss : List Sy} (h : Sys H xs ss) : ∀ x ∈ xs, ∃ t : Addr, x = .ref t := fun x hx => by
  obtain ⟨y, _, r⟩ := Paired.memL h hx
  exact IsSy.isRef r
theorem cut_ints (ns : List Int) (lo hi : Option Int) : ∃ ns' : List Int, cutV (ns.map V.int) lo hi = ns'.map V.int ∧ ns'.length ≤ ns.length := by
  refine ⟨(ns.drop (HT.sIx (ns.map V.int).length 0 lo)).take (HT.sIx (ns.map V.int).length (ns.map V.int).length hi - HT.sIx (ns.map V.int).length 0 lo), ?_, ?_⟩
  · unfold cutV
    rw [List.map_take, List.map_drop]
  · rw [List.length_take, List.length_drop]; omega
theorem cut_tail {ws : List Str} (h : ws.length = 3) : cutV (ws.map V.str) (some 1) none = (ws.drop 1).map V.str := by
  match ws, h with
  | [x, y, z], _ => rfl
theorem at_last {xs : List V} (h : xs ≠ []) : ∃ x, atI xs (-1) = some x ∧ xs[xs.length - 1]? = some x := by
  have hl : 0 < xs.length := List.length_pos_iff.mpr h
  refine ⟨xs[xs.length - 1]'(by omega), ?_, List.getElem?_eq_getElem (by omega)⟩
  unfold atI ixN
  rw [if_neg (by decide), if_pos (by omega)]
  show xs[((-1 : Int) + (xs.length : Int)).toNat]? = _
  rw [show ((-1 : Int) + (xs.length : Int)).toNat = xs.length - 1 by omega]
  exact List.getElem?_eq_getElem (by omega)
noncomputable def spLaw (K : PySem.W.Frag) : Sp := fun vs H Q _ => ∃ (a : Addr) (ns : List Int), vs = [.ref a] ∧ SqL K H a (ns.map V.int) ∧ ns.length ≤ 63 ∧ ∀ H', Q (.bl true) H'
section
variable {P : Program} {w : World} {K : PySem.W.Frag} {mg : Str → Option Value} {base : Heap} {f g e d a1 a2 a3 a4 a5 a6 a7 a8 a9 : Addr} {fd gd' ed dd d1 d2 d3 d4 d5 d6 d7 d8 d9 : FuncData}
theorem scLaw : FnScope ["_law_script", "_law_names_here", "_law_ties", "_law_things_here", "_law_world_here", "_law_sayings", "_law_cell_here", "_law_due", "_law_handed", "_law_given_list", "_law_found"] ["_law_script"] (defScope sLaw) := ⟨rfl, rfl, rfl, by decide +kernel, rfl, by decide +kernel, by decide +kernel⟩
theorem ok_law (F : Fun K "law" "law" sLaw f fd) (ml : mg "len" = none) (mr : mg "range" = none) (mls : mg "list" = none)
    (Gc : FnOk P w K mg base CX0 1 a1 d1 ["_law_script", "_law_k"] (spCell K)) (bGc : Binds K d1 ["_law_script", "_law_k"] []) (kGc : PySem.W.keepIn K (.ref a1) = true) (mGc : mg "_law_cell" = some (.ref a1))
    (Gn : FnOk P w K mg base CX0 1 a2 d2 ["_law_cell_here", "_law_many"] spNames) (bGn : Binds K d2 ["_law_cell_here", "_law_many"] []) (kGn : PySem.W.keepIn K (.ref a2) = true) (mGn : mg "_law_names" = some (.ref a2))
    (Gth : FnOk P w K mg base CX0 2 a3 d3 ["_law_cell_here", "_law_many"] spThings) (bGth : Binds K d3 ["_law_cell_here", "_law_many"] []) (kGth : PySem.W.keepIn K (.ref a3) = true) (mGth : mg "_law_things" = some (.ref a3))
    (Gw : FnOk P w K mg base CX0 2 a4 d4 ["_law_cell_here", "_law_names_here", "_law_ties", "_law_things_here"] spWorld) (bGw : Binds K d4 ["_law_cell_here", "_law_names_here", "_law_ties", "_law_things_here"] []) (kGw : PySem.W.keepIn K (.ref a4) = true) (mGw : mg "_law_world" = some (.ref a4))
    (Gsy : FnOk P w K mg base CX0 7 a5 d5 ["_law_cell_here", "_law_names_here", "_law_ties", "_law_things_here"] spSaying) (bGsy : Binds K d5 ["_law_cell_here", "_law_names_here", "_law_ties", "_law_things_here"] []) (kGsy : PySem.W.keepIn K (.ref a5) = true) (mGsy : mg "_law_saying" = some (.ref a5))
    (Gkp : FnOk P w K mg base CX0 28 a6 d6 ["_law_world_here", "_law_saying_here"] spKept) (bGkp : Binds K d6 ["_law_world_here", "_law_saying_here"] []) (kGkp : PySem.W.keepIn K (.ref a6) = true) (mGkp : mg "_law_kept" = some (.ref a6))
    (Gcp : FnOk P w K mg base CX0 1 a7 d7 ["_law_world_here"] spCopy) (bGcp : Binds K d7 ["_law_world_here"] []) (kGcp : PySem.W.keepIn K (.ref a7) = true) (mGcp : mg "_law_copy" = some (.ref a7))
    (Gb : FnOk P w K mg base CX0 30 a8 d8 ["world", "sayings"] spBroken) (bGb : Binds K d8 ["world", "sayings"] []) (kGb : PySem.W.keepIn K (.ref a8) = true) (mGb : mg "broken" = some (.ref a8))
    (Gal : FnOk P w K mg base CX0 1 a9 d9 ["_law_found", "_law_due"] spAlike) (bGal : Binds K d9 ["_law_found", "_law_due"] []) (kGal : PySem.W.keepIn K (.ref a9) = true) (mGal : mg "_law_alike" = some (.ref a9)) :
    FnOk P w K mg base CX0 31 f fd ["_law_script"] (spLaw K) := by
  refine F.ok scLaw (fun vs H Q E h => ?_) (fun cdv A outer s H vs Q E hr h => ?_)
  · obtain ⟨a, ns, rfl, _⟩ := h; rfl
  obtain ⟨a, ns, rfl, hS, h63, q⟩ := h
  have hrc := hr.mono (show 1 ≤ 30 by decide)
  have hrn := hrc
  have hrcp := hrc
  have hral := hrc
  have hrth := hr.mono (show 2 ≤ 30 by decide)
  have hrw := hrth
  have hrsy := hr.mono (show 7 ≤ 30 by decide)
  have hrkp := hr.mono (show 28 ≤ 30 by decide)
  have hrb := hr
  refine ⟨_, @pss_cons _ _ _ _ _ (by exact ps_set (i := 1) scLaw.nd rfl (Or.inl rfl) (pe_call Gn hrn rfl mGn kGn bGn .nil pass0 (pa_cons (pe_call Gc hrc rfl mGc kGc bGc .nil pass0 (pa_cons (pv 0) (pa_cons pe_int pa_nil))) (pa_cons pe_int pa_nil))))
    (@pss_cons _ _ _ _ _ (by exact ps_set (i := 2) scLaw.nd rfl (Or.inl rfl) (pe_call Gn hrn rfl mGn kGn bGn .nil pass0 (pa_cons (pe_call Gc hrc rfl mGc kGc bGc .nil pass0 (pa_cons (pv 0) (pa_cons pe_int pa_nil))) (pa_cons pe_int pa_nil))))
    (@pss_mid _ _ _ _ _ (by exact ps_if (pt_cmpR op_eq (pe_op op_mod (pe_call Gc hrc rfl mGc kGc bGc .nil pass0 (pa_cons (pv 0) (pa_cons pe_int pa_nil))) pe_int) pe_int (nomark _)) (@pss_one _ _ _ (by exact ps_set (i := 2) scLaw.nd rfl (Or.inl rfl) (pe_slice sl_list (pv 1) (po_some pe_int) po_none))) pss_nil)
    (@pss_cons _ _ _ _ _ (by exact ps_set (i := 3) scLaw.nd rfl (Or.inl rfl) (pe_call Gth hrth rfl mGth kGth bGth .nil pass0 (pa_cons (pe_call Gc hrc rfl mGc kGc bGc .nil pass0 (pa_cons (pv 0) (pa_cons pe_int pa_nil))) (pa_cons pe_int pa_nil))))
    (@pss_cons _ _ _ _ _ (by exact ps_set (i := 4) scLaw.nd rfl (Or.inr rfl) (pe_call Gw hrw rfl mGw kGw bGw .nil pass0 (pa_cons (pe_op op_mod (pe_call Gc hrc rfl mGc kGc bGc .nil pass0 (pa_cons (pv 0) (pa_cons pe_int pa_nil))) (pe_op op_pow pe_int pe_int)) (pa_cons (pv 1) (pa_cons (pv 2) (pa_cons (pv 3) pa_nil))))))
    (@pss_cons _ _ _ _ _ (by exact ps_set (i := 5) scLaw.nd rfl (Or.inr rfl) (pe_lst pa_nil))
    (@pss_cons _ _ _ _ _ (by exact ps_for PassesOwn.never rfl (pi_list (pe_slice sl_list (pv 0) (po_some pe_int) (po_some pe_int))) (pg_name (i := 6) scLaw.nd rfl (Or.inl rfl)) (@pss_one _ _ _ (by exact ps_if (PW.pt (pw_and (pt_cmpR op_eq (pe_op op_mod (pv 6) pe_int) pe_int (nomark _)) (pw_and1 (pt_cmpR op_gt (pe_callB call_len_seq rfl ml PySem.boot_len (pa_cons (pv 5) pa_nil)) pe_int (nomark _))))) (@pss_one _ _ _ (by exact ps_expr (pe_bm PySem.F.plainAttrs_list PySem.F.slot_list_append PySem.F.type_list_append mt_append (pv 5) (pa_cons (pe_ix ix_list (pv 5) (pe_un un_neg pe_int) (fun _ _ => rfl)) pa_nil)))) (@pss_one _ _ _ (by exact ps_expr (pe_bm PySem.F.plainAttrs_list PySem.F.slot_list_append PySem.F.type_list_append mt_append (pv 5) (pa_cons (pe_call Gsy hrsy rfl mGsy kGsy bGsy .nil pass0 (pa_cons (pe_op op_mod (pv 6) (pe_op op_pow pe_int pe_int)) (pa_cons (pv 1) (pa_cons (pv 2) (pa_cons (pv 3) pa_nil))))) pa_nil)))))))
    (@pss_cons _ _ _ _ _ (by exact ps_setC (i := 7) ["_law_at"] ["_law_world_here", "_law_sayings"] [4, 5] scLaw.nd rfl rfl (pi_range1 rfl mr (pa_cons (pe_callB call_len_seq rfl ml PySem.boot_len (pa_cons (pv 5) pa_nil)) pa_nil)) (fun _ _ _ => pg_name (i := 0) ndaws rfl (Or.inl rfl)) (fun _ _ _ => pts_one (pt_not (pt_val (pe_call Gkp hrkp rfl mGkp kGkp bGkp .nil pass0 (pa_cons (pv 1) (pa_cons (pe_ix (r := rIxL K) ix_list (pv 2) (pv 0) (fun _ _ => rfl)) pa_nil)))))) (fun _ _ _ => (pv 0)))
    (@pss_cons _ _ _ _ _ (by exact ps_set (i := 8) scLaw.nd rfl (Or.inl rfl) (pe_call Gcp hrcp rfl mGcp kGcp bGcp .nil pass0 (pa_cons (pv 4) pa_nil)))
    (@pss_cons _ _ _ _ _ (by exact ps_set (i := 9) scLaw.nd rfl (Or.inl rfl) (pe_callTy call_list_of rfl mls PyProof.Rows.boot_list (pa_cons (pv 5) pa_nil)))
    (@pss_cons _ _ _ _ _ (by exact ps_set (i := 10) scLaw.nd rfl (Or.inl rfl) (pe_call Gb hrb rfl mGb kGb bGb .nil pass0 (pa_cons (pv 8) (pa_cons (pv 9) pa_nil))))
    (@pss_cons _ _ _ _ _ (by exact ps_if (pt_not (pt_val (pe_call Gal hral rfl mGal kGal bGal .nil pass0 (pa_cons (pv 10) (pa_cons (pv 7) pa_nil))))) (@pss_one _ _ _ (by exact @ps_ret _ _ _ _ pe_bl)) pss_nil)
    (@pss_cons _ _ _ _ _ (by exact ps_expr (pe_bm PySem.F.plainAttrs_list PySem.F.slot_list_insert PySem.F.type_list_insert mt_insert (pv 10) (pa_cons pe_int (pa_cons pe_int pa_nil))))
    (@pss_one _ _ _ (by exact @ps_ret _ _ _ _ (pe_and (pe_cmpR (op_eqW hr.units) (pv 8) (pv 4) (nomark _)) (pe_and (pe_cmpR (op_eqLL hr.units) (pv 9) (pv 5) (nomark _)) (pe_one (pe_call Gal hral rfl mGal kGal bGal .nil pass0 (pa_cons (pe_call Gb hrb rfl mGb kGb bGb .nil pass0 (pa_cons (pv 8) (pa_cons (pv 9) pa_nil))) (pa_cons (pv 7) pa_nil)))))))))))))))))))), ?_⟩
  have p30 : (0 : Int) < 10 ^ (30 : Int).toNat := by decide
  refine ⟨_, rfl, a, ns, 0, rfl, hS, by decide, fun r0 => ⟨r0, 3, rfl, by decide, by decide, fun pn H1 ws s1 _ en1 lw1 _ => ?_⟩⟩
  have lw3 : ws.length = 3 := by omega
  refine ⟨_, rfl, a, ns, 1, rfl, s1.seq hS, by decide, fun r1 => ⟨r1, 2, rfl, by decide, by decide, fun pt0 H2 ts0 s2 _ et0 lt0 _ => ?_⟩⟩
  have s02 := s1.trans s2
  have en2 := s2 _ _ en1
  refine ⟨fun σ H' => ∃ (pt : Addr) (ts : List Str), σ = [some (.ref a), some (.ref pn), some (.ref pt), none, none, none, none, none, none, none, none] ∧ Same H2 H' ∧ H' pt = some (.lst (ts.map V.str)) ∧ ts.length = 2, ?_, ?_⟩
  · refine ⟨_, rfl, a, ns, 1, rfl, s02.seq hS, by decide, fun r2 => ⟨_, _, rfl, rfl, (show (0 : Int) < 3 by decide), rfl, _, rfl, ite2 (fun hc => ?_) (fun hc => ?_)⟩⟩
    · refine ⟨_, rfl, 1, rfl, pn, _, rfl, SqL.of en2, fun pc hpc => ?_⟩
      rw [cut_tail lw3]
      exact ⟨pc, ws.drop 1, rfl, same_new hpc _, upd_same, by rw [List.length_drop, lw3]⟩
    · exact ⟨pt0, ts0, rfl, Same.refl _, et0, by omega⟩
  rintro σ H3 ⟨pt, ts, rfl, s3, et, lt⟩
  have s03 := s02.trans s3
  refine ⟨_, rfl, a, ns, 2, rfl, s03.seq hS, by decide, fun r2 => ⟨r2, 2, rfl, by decide, by decide, fun ph H4 hs s4 _ eh lh _ => ?_⟩⟩
  have s04 := s03.trans s4
  refine ⟨_, rfl, a, ns, 3, rfl, s04.seq hS, by decide, fun r3 => ⟨_, _, rfl, rfl, ⟨by decide, by decide, by decide⟩, _, _, rfl, rfl, p30, _, rfl, _, rfl, _, rfl, _, pn, pt, ph, ws, ts, hs, rfl, Int.emod_nonneg _ (by omega), (s3.trans s4) _ _ en2, s4 _ _ et, eh, by omega, by omega, by omega, fun v H5 W s5 hW ok _ _ => ?_⟩⟩
  have s05 := s04.trans s5
  have en5 := (s3.trans (s4.trans s5)) _ _ en2
  have et5 := (s4.trans s5) _ _ et
  have eh5 := s5 _ _ eh
  refine ⟨Nat.zero_le _, fun ps hps => ?_⟩
  have sp := same_new hps (.lst [])
  obtain ⟨nc, ec, lc⟩ := cut_ints ns (some 4) (some 24)
  refine ⟨_, rfl, 4, rfl, 24, rfl, a, _, rfl, (s05.trans sp).seq hS, fun pc hpc => ?_⟩
  rw [ec]
  have sc := same_new hpc (.lst (nc.map V.int))
  have spc := sp.trans sc
  have ps5 : H5 ps = none := hps
  have nps : ps ≠ pc := ne_of_none (upd_same (H := H5) (a := ps)) hpc
  refine ⟨pc, rfl, ⟨_, SqL.of upd_same⟩, for_list (xs := nc.map V.int) (fun i σ H' => (∃ o6 : Option V, σ = [some (.ref a), some (.ref pn), some (.ref pt), some (.ref ph), some v, some (.ref ps), o6, none, none, none, none]) ∧ Same H5 H' ∧ H' pc = some (.lst (nc.map V.int)) ∧ ∃ (xs : List V) (ss : List Sy), H' ps = some (.lst xs) ∧ Sys H' xs ss ∧ (∀ x ∈ ss, x.ok) ∧ ss.length ≤ i) ⟨⟨_, rfl⟩, spc, upd_same, [], [], by rw [upd_ne nps]; exact upd_same, .nil, fun x hx => (nomatch hx), Nat.le_refl _⟩ ?_ ?_ ?_⟩
  · rintro i σ H' _ ⟨_, _, e', _⟩
    exact SqL.of e'
  · rintro i x σ H' hx ⟨⟨o6, rfl⟩, s', e', xs, ss, es, hs', oks, ls⟩
    have hi : i < nc.length := by
      have := (List.getElem?_eq_some_iff.mp hx).1
      rwa [List.length_map] at this
    rw [List.getElem?_map] at hx
    obtain ⟨cn, _, rfl⟩ := Option.map_eq_some_iff.mp hx
    have lxs : xs.length = ss.length := Paired.length hs'
    have put : ∀ (H2 : Hp) (v2 : V) (x2 : Sy), Same H' H2 → IsSy H2 x2 v2 → x2.ok → Same H5 (upd H2 ps (.lst (xs ++ [v2]))) ∧ (upd H2 ps (.lst (xs ++ [v2]))) pc = some (.lst (nc.map V.int)) ∧ ∃ (xs' : List V) (ss' : List Sy), (upd H2 ps (.lst (xs ++ [v2]))) ps = some (.lst xs') ∧ Sys (upd H2 ps (.lst (xs ++ [v2]))) xs' ss' ∧ (∀ x ∈ ss', x.ok) ∧ ss'.length ≤ i + 1 := fun H2 v2 x2 s2 is2 ok2 => by
      have sa := same_upd (o := .lst (xs ++ [v2])) (s'.trans s2) ps5
      have tp := tups_lst (o := .lst (xs ++ [v2])) (s2 _ _ es)
      have up : ∀ (x : Sy) (v : V), IsSy H2 x v → IsSy (upd H2 ps (.lst (xs ++ [v2]))) x v := fun x v h => by
        cases x with
        | kk x a b => obtain ⟨t, y, z, e, h1, h2, h3⟩ := h; exact ⟨t, y, z, e, tp _ _ h1, IsK.mono tp h2, IsK.mono tp h3⟩
        | tt x =>
          cases x with
          | th a k => obtain ⟨t, y, e, h1, h2⟩ := h; exact ⟨t, y, e, tp _ _ h1, IsK.mono tp h2⟩
          | ti a r b => obtain ⟨t, e, h1⟩ := h; exact ⟨t, e, tp _ _ h1⟩
        | rr x =>
          cases x with
          | wi r u => obtain ⟨t, e, h1⟩ := h; exact ⟨t, e, tp _ _ h1⟩
          | mk r u y => obtain ⟨t, e, h1⟩ := h; exact ⟨t, e, tp _ _ h1⟩
      refine ⟨sa, by rw [upd_ne (Ne.symm nps)]; exact s2 _ _ e', xs ++ [v2], ss ++ [x2], upd_same, ?_, fun x hx => ?_, by rw [List.length_append]; exact Nat.add_le_add_right ls 1⟩
      · exact Paired.app (Paired.imp' (fun v x h => up x v (IsSy.mono s2 h)) hs') (.cons (up x2 v2 is2) .nil)
      · rcases List.mem_append.mp hx with z | z
        · exact oks x z
        · rw [List.mem_singleton.mp z]; exact ok2
    refine ⟨_, rfl, _, _, rfl, rfl, (show (0 : Int) < 5 by decide), rfl, _, rfl, ite2 (fun c0 => ⟨_, rfl, ps, xs, rfl, .inl (SqL.of es), _, _, rfl, rfl, _, rfl, ite2 (fun c1 => ?_) (fun c1 => ?_)⟩) (fun c0 => iteF ?_)⟩
    · have hne : xs ≠ [] := fun z => by
        have := of_decide_eq_true c1
        rw [z] at this
        exact absurd this (by decide)
      obtain ⟨xl, a1, a2⟩ := at_last hne
      obtain ⟨sl, b1, b2⟩ := Paired.at' hs' a2
      refine ⟨_, rfl, .inl ⟨rfl, _, SqL.of es⟩, _, rfl, 1, rfl, ps, xs, _, xl, rfl, rfl, SqL.of es, a1, ps, xs, xl, rfl, rfl, es, small1000 (by omega), ⟨_, rfl⟩, ?_⟩
      exact put H' xl sl (Same.refl _) b2 (oks sl (List.mem_of_getElem? b1))
    · refine ⟨_, rfl, .inl ⟨rfl, _, SqL.of es⟩, _, rfl, _, _, rfl, rfl, ⟨by decide, by decide, by decide⟩, _, _, rfl, rfl, p30, _, rfl, _, rfl, _, rfl, _, pn, pt, ph, ws, ts, hs, rfl, s' _ _ en5, s' _ _ et5, s' _ _ eh5, lw3, lt, by omega, fun v2 H2 x2 s2 is2 ok2 => ?_⟩
      exact ⟨ps, xs, v2, rfl, rfl, s2 _ _ es, small1000 (by omega), ⟨_, rfl⟩, put H2 v2 x2 s2 is2 ok2⟩
    · refine ⟨_, rfl, .inl ⟨rfl, _, SqL.of es⟩, _, rfl, _, _, rfl, rfl, ⟨by decide, by decide, by decide⟩, _, _, rfl, rfl, p30, _, rfl, _, rfl, _, rfl, _, pn, pt, ph, ws, ts, hs, rfl, s' _ _ en5, s' _ _ et5, s' _ _ eh5, lw3, lt, by omega, fun v2 H2 x2 s2 is2 ok2 => ?_⟩
      exact ⟨ps, xs, v2, rfl, rfl, s2 _ _ es, small1000 (by omega), ⟨_, rfl⟩, put H2 v2 x2 s2 is2 ok2⟩
  · rintro σ H6 ⟨⟨o6, rfl⟩, s6, _, xs, ss, es, hs', oks, ls⟩
    rw [List.length_map] at ls
    have lxs : xs.length = ss.length := Paired.length hs'
    have hW6 := hW.mono s6
    have l100 : ss.length ≤ 100 := by omega
    refine ⟨_, rfl, ps, xs, rfl, .inl (SqL.of es), _, rfl, by omega, by omega, fun D hD => ?_⟩
    refine cmp_by xs.length (fun i σ H' => (∃ o, σ = [o, some v, some (.ref ps)]) ∧ Same H6 H' ∧ H' D = some (.lst (natV (brk W ss i)))) ⟨⟨_, rfl⟩, same_new hD _, upd_same⟩ ?_ ?_
    · rintro σ HD ⟨_, sD, eD⟩
      refine ⟨by show ((xs.length : Int)).toNat ≤ xs.length; omega, ?_⟩
      rw [lxs] at eD
      have esD := sD _ _ es
      have hsD := Sys.mono sD hs'
      have hWD := hW6.mono sD
      refine ⟨_, rfl, v, W, rfl, hWD, ok.nd, ok.lk, ok.lp, fun v1 H7 s7 hW7 => ?_⟩
      refine ⟨_, rfl, ps, xs, rfl, .inl (SqL.of (s7 _ _ esD)), fun gl hgl => ?_⟩
      have sg := same_new hgl (.lst xs)
      have s8 := s7.trans sg
      have eg : (upd H7 gl (.lst xs)) gl = some (.lst xs) := upd_same
      have hW8 := hW7.mono sg
      have hWw8 := hWD.mono s8
      have hs8 := Sys.mono s8 hsD
      have es8 := s8 _ _ esD
      have eD8 := s8 _ _ eD
      generalize upd H7 gl (.lst xs) = H8 at sg s8 eg hW8 hWw8 hs8 es8 eD8 ⊢
      have bl := brk_len W ss ss.length
      refine ⟨_, rfl, _, rfl, v1, gl, W, xs, ss, rfl, hW8, ok, eg, hs8, oks, l100, fun pf H9 s9 nf ef => ?_⟩
      have eD9 := s9 _ _ eD8
      refine ⟨_, rfl, _, rfl, pf, D, intsOf (brk W ss ss.length), rfl, by rw [← natV_ints]; exact ef, by rw [← natV_ints]; exact eD9, by rw [List.length_map]; omega, _, rfl, iteF ?_⟩
      refine ⟨_, rfl, .inl ⟨rfl, _, SqL.of ef⟩, pf, _, .int 0, rfl, rfl, ef, by rw [List.length_map]; exact small1000 (by omega), ?_⟩
      have s10 : Same H8 (upd H9 pf (.lst (.int 0 :: natV (brk W ss ss.length)))) := same_upd s9 nf
      generalize upd H9 pf (.lst (.int 0 :: natV (brk W ss ss.length))) = H10 at s10 ⊢
      refine ⟨_, rfl, _, rfl, W, ok.nd, hW8.mono s10, hWw8.mono s10, _, rfl, iteT ⟨_, rfl, _, rfl, gl, ps, xs, rfl, rfl, s10 _ _ eg, s10 _ _ es8, Sys.refs hs8, _, rfl, iteT ?_⟩⟩
      refine ⟨_, rfl, _, rfl, v1, gl, W, xs, ss, rfl, hW8.mono s10, ok, s10 _ _ eg, Sys.mono s10 hs8, oks, l100, fun pf2 H11 s11 _ ef2 => ?_⟩
      exact ⟨_, rfl, pf2, D, intsOf (brk W ss ss.length), rfl, by rw [← natV_ints]; exact ef2, by rw [← natV_ints]; exact (s10.trans s11) _ _ eD8, by rw [List.length_map]; omega, q H11⟩
    · rintro i σ HD hi ⟨⟨o, rfl⟩, sD, eD⟩
      refine ⟨by show i < ((xs.length : Int)).toNat; omega, ?_⟩
      rintro y HE ⟨rfl, rfl⟩
      obtain ⟨sy, hsy, isy⟩ := Paired.at' hs' (show xs[i]? = some xs[i] by simp [hi])
      have esD := sD _ _ es
      refine ⟨_, rfl, _, rfl, _, rfl, ps, xs, _, xs[i], rfl, rfl, SqL.of esD, by rw [Int.zero_add]; exact atI_nat (by simp [hi]), v, xs[i], W, sy, rfl, hW6.mono sD, ok, IsSy.mono sD isy, oks sy (List.mem_of_getElem? hsy), fun H2 s2 => ?_⟩
      have eD2 := s2 _ _ eD
      have sH2 := sD.trans s2
      have bl := brk_len W ss i
      have e1 : brk W ss (i + 1) = if keptB W sy then brk W ss i else brk W ss i ++ [i] := by
        rw [brk, hsy]
      refine ⟨_, rfl, ?_⟩
      cases hc : keptB W sy with
      | true =>
        rw [hc, if_pos rfl] at e1
        exact iteF ⟨⟨_, rfl⟩, sH2, by rw [e1]; exact eD2⟩
      | false =>
        rw [hc, if_neg (by decide)] at e1
        refine iteT ⟨_, rfl, _, eD2, by rw [List.length_map]; exact small1000 (by omega), ⟨_, rfl⟩, same_upd sH2 hD, ?_⟩
        rw [upd_same, e1, Int.zero_add]
        simp [natV]
end
end K08
namespace K08
open PySem L2
theorem all_mk {l : PySem.W.OpenLaw} {w : World} {K : PySem.W.Frag} {h : Heap} {mg : Str → Option Value} {fa : Addr} (X : K.In h) (G : h.Ns mainGlobals mg) (hfa : mg "law" = some (.ref fa))
    {f1 : Addr} {od1 an1 : Option Addr} {sl1 : Array (Option Value)} {oc1 kV1 dc1 pm1 cd1 ct1 : Value}
    {f2 : Addr} {od2 an2 : Option Addr} {sl2 : Array (Option Value)} {oc2 kV2 dc2 pm2 cd2 ct2 : Value}
    {f3 : Addr} {od3 an3 : Option Addr} {sl3 : Array (Option Value)} {oc3 kV3 dc3 pm3 cd3 ct3 : Value}
    {f4 : Addr} {od4 an4 : Option Addr} {sl4 : Array (Option Value)} {oc4 kV4 dc4 pm4 cd4 ct4 : Value}
    {f5 : Addr} {od5 an5 : Option Addr} {sl5 : Array (Option Value)} {oc5 kV5 dc5 pm5 cd5 ct5 : Value}
    {f6 : Addr} {od6 an6 : Option Addr} {sl6 : Array (Option Value)} {oc6 kV6 dc6 pm6 cd6 ct6 : Value}
    {f7 : Addr} {od7 an7 : Option Addr} {sl7 : Array (Option Value)} {oc7 kV7 dc7 pm7 cd7 ct7 : Value}
    {f8 : Addr} {od8 an8 : Option Addr} {sl8 : Array (Option Value)} {oc8 kV8 dc8 pm8 cd8 ct8 : Value}
    {f9 : Addr} {od9 an9 : Option Addr} {sl9 : Array (Option Value)} {oc9 kV9 dc9 pm9 cd9 ct9 : Value}
    {f10 : Addr} {od10 an10 : Option Addr} {sl10 : Array (Option Value)} {oc10 kV10 dc10 pm10 cd10 ct10 : Value}
    {f11 : Addr} {od11 an11 : Option Addr} {sl11 : Array (Option Value)} {oc11 kV11 dc11 pm11 cd11 ct11 : Value}
    {f12 : Addr} {od12 an12 : Option Addr} {sl12 : Array (Option Value)} {oc12 kV12 dc12 pm12 cd12 ct12 : Value}
    {f13 : Addr} {od13 an13 : Option Addr} {sl13 : Array (Option Value)} {oc13 kV13 dc13 pm13 cd13 ct13 : Value}
    {f14 : Addr} {od14 an14 : Option Addr} {sl14 : Array (Option Value)} {oc14 kV14 dc14 pm14 cd14 ct14 : Value}
    {f15 : Addr} {od15 an15 : Option Addr} {sl15 : Array (Option Value)} {oc15 kV15 dc15 pm15 cd15 ct15 : Value}
    {f16 : Addr} {od16 an16 : Option Addr} {sl16 : Array (Option Value)} {oc16 kV16 dc16 pm16 cd16 ct16 : Value}
    {f17 : Addr} {od17 an17 : Option Addr} {sl17 : Array (Option Value)} {oc17 kV17 dc17 pm17 cd17 ct17 : Value}
    {f18 : Addr} {od18 an18 : Option Addr} {sl18 : Array (Option Value)} {oc18 kV18 dc18 pm18 cd18 ct18 : Value}
    {f19 : Addr} {od19 an19 : Option Addr} {sl19 : Array (Option Value)} {oc19 kV19 dc19 pm19 cd19 ct19 : Value}
    {f20 : Addr} {od20 an20 : Option Addr} {sl20 : Array (Option Value)} {oc20 kV20 dc20 pm20 cd20 ct20 : Value}
    {f21 : Addr} {od21 an21 : Option Addr} {sl21 : Array (Option Value)} {oc21 kV21 dc21 pm21 cd21 ct21 : Value}
    {f22 : Addr} {od22 an22 : Option Addr} {sl22 : Array (Option Value)} {oc22 kV22 dc22 pm22 cd22 ct22 : Value}
    {f23 : Addr} {od23 an23 : Option Addr} {sl23 : Array (Option Value)} {oc23 kV23 dc23 pm23 cd23 ct23 : Value}
    {f24 : Addr} {od24 an24 : Option Addr} {sl24 : Array (Option Value)} {oc24 kV24 dc24 pm24 cd24 ct24 : Value}
    (a1 : PySem.W.nsIn K mainGlobals "tie_pairs" = some (some (.ref f1))) (l1 : K.lookup f1 = some ⟨oc1, od1, .func (PySem.W.fnOf "tie_pairs" "tie_pairs" (defArgs sTie) (defBody sTie) (defScope sTie) .none kV1 dc1 pm1 an1 cd1 ct1), sl1⟩) (c1 : PySem.W.codeIn K cd1 "tie_pairs" = true) (k1 : PySem.W.keepIn K (.ref f1) = true)
    (a2 : PySem.W.nsIn K mainGlobals "members" = some (some (.ref f2))) (l2 : K.lookup f2 = some ⟨oc2, od2, .func (PySem.W.fnOf "members" "members" (defArgs sMembers) (defBody sMembers) (defScope sMembers) .none kV2 dc2 pm2 an2 cd2 ct2), sl2⟩) (c2 : PySem.W.codeIn K cd2 "members" = true) (k2 : PySem.W.keepIn K (.ref f2) = true)
    (a3 : PySem.W.nsIn K mainGlobals "keeps_every" = some (some (.ref f3))) (l3 : K.lookup f3 = some ⟨oc3, od3, .func (PySem.W.fnOf "keeps_every" "keeps_every" (defArgs sKEvery) (defBody sKEvery) (defScope sKEvery) .none kV3 dc3 pm3 an3 cd3 ct3), sl3⟩) (c3 : PySem.W.codeIn K cd3 "keeps_every" = true) (k3 : PySem.W.keepIn K (.ref f3) = true)
    (a4 : PySem.W.nsIn K mainGlobals "keeps_no" = some (some (.ref f4))) (l4 : K.lookup f4 = some ⟨oc4, od4, .func (PySem.W.fnOf "keeps_no" "keeps_no" (defArgs sKNo) (defBody sKNo) (defScope sKNo) .none kV4 dc4 pm4 an4 cd4 ct4), sl4⟩) (c4 : PySem.W.codeIn K cd4 "keeps_no" = true) (k4 : PySem.W.keepIn K (.ref f4) = true)
    (a5 : PySem.W.nsIn K mainGlobals "keeps_thing" = some (some (.ref f5))) (l5 : K.lookup f5 = some ⟨oc5, od5, .func (PySem.W.fnOf "keeps_thing" "keeps_thing" (defArgs sKThing) (defBody sKThing) (defScope sKThing) .none kV5 dc5 pm5 an5 cd5 ct5), sl5⟩) (c5 : PySem.W.codeIn K cd5 "keeps_thing" = true) (k5 : PySem.W.keepIn K (.ref f5) = true)
    (a6 : PySem.W.nsIn K mainGlobals "keeps_tied" = some (some (.ref f6))) (l6 : K.lookup f6 = some ⟨oc6, od6, .func (PySem.W.fnOf "keeps_tied" "keeps_tied" (defArgs sKTied) (defBody sKTied) (defScope sKTied) .none kV6 dc6 pm6 an6 cd6 ct6), sl6⟩) (c6 : PySem.W.codeIn K cd6 "keeps_tied" = true) (k6 : PySem.W.keepIn K (.ref f6) = true)
    (a7 : PySem.W.nsIn K mainGlobals "keeps_within" = some (some (.ref f7))) (l7 : K.lookup f7 = some ⟨oc7, od7, .func (PySem.W.fnOf "keeps_within" "keeps_within" (defArgs sWithin0) (defBody sWithin0) (defScope sWithin0) .none kV7 dc7 pm7 an7 cd7 ct7), sl7⟩) (c7 : PySem.W.codeIn K cd7 "keeps_within" = true) (k7 : PySem.W.keepIn K (.ref f7) = true)
    (a8 : PySem.W.nsIn K mainGlobals "ends_by_start" = some (some (.ref f8))) (l8 : K.lookup f8 = some ⟨oc8, od8, .func (PySem.W.fnOf "ends_by_start" "ends_by_start" (defArgs sEnds) (defBody sEnds) (defScope sEnds) .none kV8 dc8 pm8 an8 cd8 ct8), sl8⟩) (c8 : PySem.W.codeIn K cd8 "ends_by_start" = true) (k8 : PySem.W.keepIn K (.ref f8) = true)
    (a9 : PySem.W.nsIn K mainGlobals "keeps_makes" = some (some (.ref f9))) (l9 : K.lookup f9 = some ⟨oc9, od9, .func (PySem.W.fnOf "keeps_makes" "keeps_makes" (defArgs sMakes) (defBody sMakes) (defScope sMakes) .none kV9 dc9 pm9 an9 cd9 ct9), sl9⟩) (c9 : PySem.W.codeIn K cd9 "keeps_makes" = true) (k9 : PySem.W.keepIn K (.ref f9) = true)
    (a10 : PySem.W.nsIn K mainGlobals "keeps" = some (some (.ref f10))) (l10 : K.lookup f10 = some ⟨oc10, od10, .func (PySem.W.fnOf "keeps" "keeps" (defArgs sKeeps) (defBody sKeeps) (defScope sKeeps) .none kV10 dc10 pm10 an10 cd10 ct10), sl10⟩) (c10 : PySem.W.codeIn K cd10 "keeps" = true) (k10 : PySem.W.keepIn K (.ref f10) = true)
    (a11 : PySem.W.nsIn K mainGlobals "broken" = some (some (.ref f11))) (l11 : K.lookup f11 = some ⟨oc11, od11, .func (PySem.W.fnOf "broken" "broken" (defArgs sBroken) (defBody sBroken) (defScope sBroken) .none kV11 dc11 pm11 an11 cd11 ct11), sl11⟩) (c11 : PySem.W.codeIn K cd11 "broken" = true) (k11 : PySem.W.keepIn K (.ref f11) = true)
    (a12 : PySem.W.nsIn K mainGlobals "_law_cell" = some (some (.ref f12))) (l12 : K.lookup f12 = some ⟨oc12, od12, .func (PySem.W.fnOf "_law_cell" "_law_cell" (defArgs sCell) (defBody sCell) (defScope sCell) .none kV12 dc12 pm12 an12 cd12 ct12), sl12⟩) (c12 : PySem.W.codeIn K cd12 "_law_cell" = true) (k12 : PySem.W.keepIn K (.ref f12) = true)
    (a13 : PySem.W.nsIn K mainGlobals "_law_next" = some (some (.ref f13))) (l13 : K.lookup f13 = some ⟨oc13, od13, .func (PySem.W.fnOf "_law_next" "_law_next" (defArgs sNext) (defBody sNext) (defScope sNext) .none kV13 dc13 pm13 an13 cd13 ct13), sl13⟩) (c13 : PySem.W.codeIn K cd13 "_law_next" = true) (k13 : PySem.W.keepIn K (.ref f13) = true)
    (a14 : PySem.W.nsIn K mainGlobals "_law_names" = some (some (.ref f14))) (l14 : K.lookup f14 = some ⟨oc14, od14, .func (PySem.W.fnOf "_law_names" "_law_names" (defArgs sNames) (defBody sNames) (defScope sNames) .none kV14 dc14 pm14 an14 cd14 ct14), sl14⟩) (c14 : PySem.W.codeIn K cd14 "_law_names" = true) (k14 : PySem.W.keepIn K (.ref f14) = true)
    (a15 : PySem.W.nsIn K mainGlobals "_law_things" = some (some (.ref f15))) (l15 : K.lookup f15 = some ⟨oc15, od15, .func (PySem.W.fnOf "_law_things" "_law_things" (defArgs sThings) (defBody sThings) (defScope sThings) .none kV15 dc15 pm15 an15 cd15 ct15), sl15⟩) (c15 : PySem.W.codeIn K cd15 "_law_things" = true) (k15 : PySem.W.keepIn K (.ref f15) = true)
    (a16 : PySem.W.nsIn K mainGlobals "_law_kind" = some (some (.ref f16))) (l16 : K.lookup f16 = some ⟨oc16, od16, .func (PySem.W.fnOf "_law_kind" "_law_kind" (defArgs sKind) (defBody sKind) (defScope sKind) .none kV16 dc16 pm16 an16 cd16 ct16), sl16⟩) (c16 : PySem.W.codeIn K cd16 "_law_kind" = true) (k16 : PySem.W.keepIn K (.ref f16) = true)
    (a17 : PySem.W.nsIn K mainGlobals "_law_world" = some (some (.ref f17))) (l17 : K.lookup f17 = some ⟨oc17, od17, .func (PySem.W.fnOf "_law_world" "_law_world" (defArgs sWorld) (defBody sWorld) (defScope sWorld) .none kV17 dc17 pm17 an17 cd17 ct17), sl17⟩) (c17 : PySem.W.codeIn K cd17 "_law_world" = true) (k17 : PySem.W.keepIn K (.ref f17) = true)
    (a18 : PySem.W.nsIn K mainGlobals "_law_copy" = some (some (.ref f18))) (l18 : K.lookup f18 = some ⟨oc18, od18, .func (PySem.W.fnOf "_law_copy" "_law_copy" (defArgs sCopy) (defBody sCopy) (defScope sCopy) .none kV18 dc18 pm18 an18 cd18 ct18), sl18⟩) (c18 : PySem.W.codeIn K cd18 "_law_copy" = true) (k18 : PySem.W.keepIn K (.ref f18) = true)
    (a19 : PySem.W.nsIn K mainGlobals "_law_row" = some (some (.ref f19))) (l19 : K.lookup f19 = some ⟨oc19, od19, .func (PySem.W.fnOf "_law_row" "_law_row" (defArgs sRow) (defBody sRow) (defScope sRow) .none kV19 dc19 pm19 an19 cd19 ct19), sl19⟩) (c19 : PySem.W.codeIn K cd19 "_law_row" = true) (k19 : PySem.W.keepIn K (.ref f19) = true)
    (a20 : PySem.W.nsIn K mainGlobals "_law_alike" = some (some (.ref f20))) (l20 : K.lookup f20 = some ⟨oc20, od20, .func (PySem.W.fnOf "_law_alike" "_law_alike" (defArgs sAlike) (defBody sAlike) (defScope sAlike) .none kV20 dc20 pm20 an20 cd20 ct20), sl20⟩) (c20 : PySem.W.codeIn K cd20 "_law_alike" = true) (k20 : PySem.W.keepIn K (.ref f20) = true)
    (a21 : PySem.W.nsIn K mainGlobals "_law_pairs_kept" = some (some (.ref f21))) (l21 : K.lookup f21 = some ⟨oc21, od21, .func (PySem.W.fnOf "_law_pairs_kept" "_law_pairs_kept" (defArgs sPairsKept) (defBody sPairsKept) (defScope sPairsKept) .none kV21 dc21 pm21 an21 cd21 ct21), sl21⟩) (c21 : PySem.W.codeIn K cd21 "_law_pairs_kept" = true) (k21 : PySem.W.keepIn K (.ref f21) = true)
    (a22 : PySem.W.nsIn K mainGlobals "_law_kept" = some (some (.ref f22))) (l22 : K.lookup f22 = some ⟨oc22, od22, .func (PySem.W.fnOf "_law_kept" "_law_kept" (defArgs sKept) (defBody sKept) (defScope sKept) .none kV22 dc22 pm22 an22 cd22 ct22), sl22⟩) (c22 : PySem.W.codeIn K cd22 "_law_kept" = true) (k22 : PySem.W.keepIn K (.ref f22) = true)
    (a23 : PySem.W.nsIn K mainGlobals "_law_saying" = some (some (.ref f23))) (l23 : K.lookup f23 = some ⟨oc23, od23, .func (PySem.W.fnOf "_law_saying" "_law_saying" (defArgs sSaying) (defBody sSaying) (defScope sSaying) .none kV23 dc23 pm23 an23 cd23 ct23), sl23⟩) (c23 : PySem.W.codeIn K cd23 "_law_saying" = true) (k23 : PySem.W.keepIn K (.ref f23) = true)
    (a24 : PySem.W.nsIn K mainGlobals "law" = some (some (.ref f24))) (l24 : K.lookup f24 = some ⟨oc24, od24, .func (PySem.W.fnOf "law" "law" (defArgs sLaw) (defBody sLaw) (defScope sLaw) .none kV24 dc24 pm24 an24 cd24 ct24), sl24⟩) (c24 : PySem.W.codeIn K cd24 "law" = true) (k24 : PySem.W.keepIn K (.ref f24) = true)
    {ga1 : Addr} {gn1 : Nat} {gt1_0 gt1_1 gt1_2 gt1_3 gt1_4 gt1_5 : Tok} 
    (gA1 : PySem.W.nsIn K mainGlobals "KEEPERS" = some (some (.ref ga1))) (gB1 : K.lookup ga1 = some ⟨.type "dict", none, .dict #[⟨PyData.keyHash w.params "every", .str "every" gt1_0, .ref f3⟩, ⟨PyData.keyHash w.params "no", .str "no" gt1_1, .ref f4⟩, ⟨PyData.keyHash w.params "thing", .str "thing" gt1_2, .ref f5⟩, ⟨PyData.keyHash w.params "tied", .str "tied" gt1_3, .ref f6⟩, ⟨PyData.keyHash w.params "within", .str "within" gt1_4, .ref f7⟩, ⟨PyData.keyHash w.params "makes", .str "makes" gt1_5, .ref f9⟩] gn1, #[]⟩)
    (z1 : PySem.W.nsIn K mainGlobals "len" = some none)
    (z2 : PySem.W.nsIn K mainGlobals "range" = some none)
    (z3 : PySem.W.nsIn K mainGlobals "min" = some none)
    (z4 : PySem.W.nsIn K mainGlobals "list" = some none)
    (z5 : PySem.W.nsIn K mainGlobals "isinstance" = some none)
    (z6 : PySem.W.nsIn K mainGlobals "str" = some none)
    (z7 : PySem.W.nsIn K mainGlobals "int" = some none)
    (z8 : PySem.W.nsIn K mainGlobals "bool" = some none)
    (z9 : PySem.W.nsIn K mainGlobals "dict" = some none)
    (z10 : PySem.W.nsIn K mainGlobals "tuple" = some none)
    (z11 : PySem.W.nsIn K mainGlobals "set" = some none)
    (z12 : PySem.W.nsIn K mainGlobals "sorted" = some none)
    (z13 : PySem.W.nsIn K mainGlobals "enumerate" = some none)
    : ∃ fd : FuncData, (∀ (s : Shared) (v : Value), BindsTo s fd ⟨[v], []⟩ [("_law_script", v)]) ∧ ∀ base : Heap, K.In base → base.Ns mainGlobals mg → FnOk l.prog w K mg base CX0 31 fa fd ["_law_script"] (spLaw K) := by
  have e := hfa.symm.trans (PySem.W.mg_of X G a24)
  cases e
  have F1 := fun_mk (st := sTie) l1 c1 k1
  have b1 := F1.binds (ps := ["world", "tie"]) fun _ _ _ _ _ _ us hl => match us, hl with | [_, _], _ => rfl
  have m1 := PySem.W.mg_of X G a1
  have F2 := fun_mk (st := sMembers) l2 c2 k2
  have b2 := F2.binds (ps := ["world", "kind"]) fun _ _ _ _ _ _ us hl => match us, hl with | [_, _], _ => rfl
  have m2 := PySem.W.mg_of X G a2
  have F3 := fun_mk (st := sKEvery) l3 c3 k3
  have b3 := F3.binds (ps := ["world", "saying"]) fun _ _ _ _ _ _ us hl => match us, hl with | [_, _], _ => rfl
  have m3 := PySem.W.mg_of X G a3
  have F4 := fun_mk (st := sKNo) l4 c4 k4
  have b4 := F4.binds (ps := ["world", "saying"]) fun _ _ _ _ _ _ us hl => match us, hl with | [_, _], _ => rfl
  have m4 := PySem.W.mg_of X G a4
  have F5 := fun_mk (st := sKThing) l5 c5 k5
  have b5 := F5.binds (ps := ["world", "saying"]) fun _ _ _ _ _ _ us hl => match us, hl with | [_, _], _ => rfl
  have m5 := PySem.W.mg_of X G a5
  have F6 := fun_mk (st := sKTied) l6 c6 k6
  have b6 := F6.binds (ps := ["world", "saying"]) fun _ _ _ _ _ _ us hl => match us, hl with | [_, _], _ => rfl
  have m6 := PySem.W.mg_of X G a6
  have F7 := fun_mk (st := sWithin0) l7 c7 k7
  have b7 := F7.binds (ps := ["world", "saying"]) fun _ _ _ _ _ _ us hl => match us, hl with | [_, _], _ => rfl
  have m7 := PySem.W.mg_of X G a7
  have F8 := fun_mk (st := sEnds) l8 c8 k8
  have b8 := F8.binds (ps := ["pairs"]) fun _ _ _ _ _ _ us hl => match us, hl with | [_], _ => rfl
  have m8 := PySem.W.mg_of X G a8
  have F9 := fun_mk (st := sMakes) l9 c9 k9
  have b9 := F9.binds (ps := ["world", "saying"]) fun _ _ _ _ _ _ us hl => match us, hl with | [_, _], _ => rfl
  have m9 := PySem.W.mg_of X G a9
  have F10 := fun_mk (st := sKeeps) l10 c10 k10
  have b10 := F10.binds (ps := ["world", "saying"]) fun _ _ _ _ _ _ us hl => match us, hl with | [_, _], _ => rfl
  have m10 := PySem.W.mg_of X G a10
  have F11 := fun_mk (st := sBroken) l11 c11 k11
  have b11 := F11.binds (ps := ["world", "sayings"]) fun _ _ _ _ _ _ us hl => match us, hl with | [_, _], _ => rfl
  have m11 := PySem.W.mg_of X G a11
  have F12 := fun_mk (st := sCell) l12 c12 k12
  have b12 := F12.binds (ps := ["_law_script", "_law_k"]) fun _ _ _ _ _ _ us hl => match us, hl with | [_, _], _ => rfl
  have m12 := PySem.W.mg_of X G a12
  have F13 := fun_mk (st := sNext) l13 c13 k13
  have b13 := F13.binds (ps := ["_law_cell_here", "_law_k"]) fun _ _ _ _ _ _ us hl => match us, hl with | [_, _], _ => rfl
  have m13 := PySem.W.mg_of X G a13
  have F14 := fun_mk (st := sNames) l14 c14 k14
  have b14 := F14.binds (ps := ["_law_cell_here", "_law_many"]) fun _ _ _ _ _ _ us hl => match us, hl with | [_, _], _ => rfl
  have m14 := PySem.W.mg_of X G a14
  have F15 := fun_mk (st := sThings) l15 c15 k15
  have b15 := F15.binds (ps := ["_law_cell_here", "_law_many"]) fun _ _ _ _ _ _ us hl => match us, hl with | [_, _], _ => rfl
  have m15 := PySem.W.mg_of X G a15
  have F16 := fun_mk (st := sKind) l16 c16 k16
  have b16 := F16.binds (ps := ["_law_cell_here", "_law_names_here", "_law_ties", "_law_deep"]) fun _ _ _ _ _ _ us hl => match us, hl with | [_, _, _, _], _ => rfl
  have m16 := PySem.W.mg_of X G a16
  have F17 := fun_mk (st := sWorld) l17 c17 k17
  have b17 := F17.binds (ps := ["_law_cell_here", "_law_names_here", "_law_ties", "_law_things_here"]) fun _ _ _ _ _ _ us hl => match us, hl with | [_, _, _, _], _ => rfl
  have m17 := PySem.W.mg_of X G a17
  have F18 := fun_mk (st := sCopy) l18 c18 k18
  have b18 := F18.binds (ps := ["_law_world_here"]) fun _ _ _ _ _ _ us hl => match us, hl with | [_], _ => rfl
  have m18 := PySem.W.mg_of X G a18
  have F19 := fun_mk (st := sRow) l19 c19 k19
  have b19 := F19.binds (ps := ["_law_world_here", "_law_kind_here"]) fun _ _ _ _ _ _ us hl => match us, hl with | [_, _], _ => rfl
  have m19 := PySem.W.mg_of X G a19
  have F20 := fun_mk (st := sAlike) l20 c20 k20
  have b20 := F20.binds (ps := ["_law_found", "_law_due"]) fun _ _ _ _ _ _ us hl => match us, hl with | [_, _], _ => rfl
  have m20 := PySem.W.mg_of X G a20
  have F21 := fun_mk (st := sPairsKept) l21 c21 k21
  have b21 := F21.binds (ps := ["_law_world_here", "_law_saying_here"]) fun _ _ _ _ _ _ us hl => match us, hl with | [_, _], _ => rfl
  have m21 := PySem.W.mg_of X G a21
  have F22 := fun_mk (st := sKept) l22 c22 k22
  have b22 := F22.binds (ps := ["_law_world_here", "_law_saying_here"]) fun _ _ _ _ _ _ us hl => match us, hl with | [_, _], _ => rfl
  have m22 := PySem.W.mg_of X G a22
  have F23 := fun_mk (st := sSaying) l23 c23 k23
  have b23 := F23.binds (ps := ["_law_cell_here", "_law_names_here", "_law_ties", "_law_things_here"]) fun _ _ _ _ _ _ us hl => match us, hl with | [_, _, _, _], _ => rfl
  have m23 := PySem.W.mg_of X G a23
  have F24 := fun_mk (st := sLaw) l24 c24 k24
  have m24 := PySem.W.mg_of X G a24
  have mf1 := PySem.W.mg_of X G gA1
  have n1 := PySem.W.mg_none_of X G z1
  have n2 := PySem.W.mg_none_of X G z2
  have n3 := PySem.W.mg_none_of X G z3
  have n4 := PySem.W.mg_none_of X G z4
  have n5 := PySem.W.mg_none_of X G z5
  have n6 := PySem.W.mg_none_of X G z6
  have n7 := PySem.W.mg_none_of X G z7
  have n8 := PySem.W.mg_none_of X G z8
  have n9 := PySem.W.mg_none_of X G z9
  have n10 := PySem.W.mg_none_of X G z10
  have n11 := PySem.W.mg_none_of X G z11
  have n12 := PySem.W.mg_none_of X G z12
  have n13 := PySem.W.mg_none_of X G z13
  refine ⟨PySem.W.fnOf "law" "law" (defArgs sLaw) (defBody sLaw) (defScope sLaw) .none kV24 dc24 pm24 an24 cd24 ct24, fun s v => .of_eq rfl, fun base _ _ => ?_⟩
  have kd : KDict K l.prog w ga1 [(Sum.inr "every", .ref f3), (Sum.inr "no", .ref f4), (Sum.inr "thing", .ref f5), (Sum.inr "tied", .ref f6), (Sum.inr "within", .ref f7), (Sum.inr "makes", .ref f9)] := kdict_mk [("every", gt1_0, .ref f3), ("no", gt1_1, .ref f4), ("thing", gt1_2, .ref f5), ("tied", gt1_3, .ref f6), ("within", gt1_4, .ref f7), ("makes", gt1_5, .ref f9)] gB1 (.cons ⟨rfl, rfl⟩ (.cons ⟨rfl, rfl⟩ (.cons ⟨rfl, rfl⟩ (.cons ⟨rfl, rfl⟩ (.cons ⟨rfl, rfl⟩ (.cons ⟨rfl, rfl⟩ .nil)))))) (by show (["every", "no", "thing", "tied", "within", "makes"] : List Str).Nodup; decide +kernel)
  have G1 := ok_tie (P := l.prog) (w := w) (mg := mg) (base := base) F1
  have G2 := members_all (P := l.prog) (w := w) (mg := mg) (base := base) F2 b2 m2 G1 b1 k1 m1 n2 n4 n5 n6 n11 n12 26
  have G3 := ok_kevery F3 n1 n11 G2 b2 k2 m2
  have G4 := ok_kno F4 n1 n11 G2 b2 k2 m2
  have G5 := ok_kthing F5 G2 b2 k2 m2
  have G6 := ok_ktied F6 G1 b1 k1 m1
  have G7 := ok_wi F7 n1 n11 G1 b1 k1 m1
  have G8 := ok_ends (P := l.prog) (w := w) (mg := mg) (base := base) F8
  have G9 := ok_mk F9 n11 G1 b1 k1 m1 G8 b8 k8 m8
  have G10 := ok_keeps F10 mf1 kd G3 b3 k3 G4 b4 k4 G5 b5 k5 G6 b6 k6 G7 b7 k7 G9 b9 k9
  have G11 := ok_broken F11 n13 G10 b10 k10 m10
  have G12 := ok_cell (P := l.prog) (w := w) (mg := mg) (base := base) F12 n1
  have G13 := ok_next (P := l.prog) (w := w) (mg := mg) (base := base) F13
  have G14 := ok_names (P := l.prog) (w := w) (mg := mg) (base := base) F14 n1 n2 n3
  have G15 := ok_things F15 G14 b14 k14 m14
  have G16 := kind_all F16 b16 m16 G13 b13 k13 m13 n1 5
  have G17 := ok_world F17 n2 G13 b13 k13 m13
  have G18 := ok_copy (P := l.prog) (w := w) (mg := mg) (base := base) F18 n4 n9
  have G19 := row_all (P := l.prog) (w := w) (mg := mg) (base := base) F19 b19 m19 n2 n5 n10 26
  have G20 := ok_alike (P := l.prog) (w := w) (mg := mg) (base := base) F20 n1 n2 n4 n5 n7 n8
  have G21 := ok_pk (P := l.prog) (w := w) (mg := mg) (base := base) F21 n1
  have G22 := ok_kept F22 n2 G19 b19 k19 m19 G21 b21 k21 m21
  have G23 := ok_saying F23 G16 b16 k16 m16 G13 b13 k13 m13
  exact ok_law F24 n1 n2 n4 G12 b12 k12 m12 G14 b14 k14 m14 G15 b15 k15 m15 G17 b17 k17 m17 G23 b23 k23 m23 G22 b22 k22 m22 G18 b18 k18 m18 G11 b11 k11 m11 G20 b20 k20 m20
theorem walk {l : PySem.W.OpenLaw} {q : Program} {loose : List Str} {XP : (Str → Option Value) → Heap → Prop} {YP : World → Heap → Prop} {d : DefRec} {K : Params → PySem.W.Frag} (hn : l.most = some 63) (hdf : d.params.defaults = [])
    (hY : ∀ (w : World) (h : Heap), YP w h → (K w.params).In h)
    (F : ∀ (w : World) (mg : Str → Option Value) (fa : Addr) (h : Heap), (K w.params).In h → h.Ns mainGlobals mg → mg d.name = some (.ref fa) →
      ∃ fd : FuncData, (∀ (s : Shared) (u : Value), BindsTo s fd ⟨[u], []⟩ [("_law_script", u)]) ∧ ∀ base : Heap, (K w.params).In base → base.Ns mainGlobals mg → FnOk l.prog w (K w.params) mg base CX0 31 fa fd ["_law_script"] (spLaw (K w.params))) :
    PySem.W.WalkO q loose XP YP l.row.toRowW d [] (fun f vs => PySem.call f vs) :=
  L2.walk_of (n := 63) (k := 31) (x := "_law_script") (CX := fun _ => CX0) (sp := fun w => spLaw (K w.params)) hn (by decide) hdf ⟨rfl, by decide, by decide⟩ hY F (fun _ _ a ns hl _ hS => ⟨a, ns, rfl, hS, hl, fun _ => rfl⟩) fun _ _ _ _ _ z => z
end K08
open PySem PySem.W PyProof.Rows
set_option maxRecDepth 100000 in
set_option maxHeartbeats 0 in
theorem PySem.Challenge.cw_kinwords_k08_lists_of_sayings_holds : PySem.Challenge.rw_kinwords_k08_lists_of_sayings.Holds := by
  w_on; o_law; k_head; (case hw => w_witness2)
  k_fill
  refine K08.walk (l := PySem.Challenge.rw_kinwords_k08_lists_of_sayings) rfl rfl (fun w h Y => PySem.W.kIn_of Y) ?F
  case F =>
    intro w mg fa h KX G hmg
    refine' K08.all_mk KX G hmg ?a1 ?l1 ?c1 ?k1 ?a2 ?l2 ?c2 ?k2 ?a3 ?l3 ?c3 ?k3 ?a4 ?l4 ?c4 ?k4 ?a5 ?l5 ?c5 ?k5 ?a6 ?l6 ?c6 ?k6 ?a7 ?l7 ?c7 ?k7 ?a8 ?l8 ?c8 ?k8 ?a9 ?l9 ?c9 ?k9 ?a10 ?l10 ?c10 ?k10 ?a11 ?l11 ?c11 ?k11 ?a12 ?l12 ?c12 ?k12 ?a13 ?l13 ?c13 ?k13 ?a14 ?l14 ?c14 ?k14 ?a15 ?l15 ?c15 ?k15 ?a16 ?l16 ?c16 ?k16 ?a17 ?l17 ?c17 ?k17 ?a18 ?l18 ?c18 ?k18 ?a19 ?l19 ?c19 ?k19 ?a20 ?l20 ?c20 ?k20 ?a21 ?l21 ?c21 ?k21 ?a22 ?l22 ?c22 ?k22 ?a23 ?l23 ?c23 ?k23 ?a24 ?l24 ?c24 ?k24 ?gA1 ?gB1 ?z1 ?z2 ?z3 ?z4 ?z5 ?z6 ?z7 ?z8 ?z9 ?z10 ?z11 ?z12 ?z13
    (case a1 => k_is)
    (case l1 => k_is)
    (case c1 => k_is)
    (case k1 => k_is)
    (case a2 => k_is)
    (case l2 => k_is)
    (case c2 => k_is)
    (case k2 => k_is)
    (case a3 => k_is)
    (case l3 => k_is)
    (case c3 => k_is)
    (case k3 => k_is)
    (case a4 => k_is)
    (case l4 => k_is)
    (case c4 => k_is)
    (case k4 => k_is)
    (case a5 => k_is)
    (case l5 => k_is)
    (case c5 => k_is)
    (case k5 => k_is)
    (case a6 => k_is)
    (case l6 => k_is)
    (case c6 => k_is)
    (case k6 => k_is)
    (case a7 => k_is)
    (case l7 => k_is)
    (case c7 => k_is)
    (case k7 => k_is)
    (case a8 => k_is)
    (case l8 => k_is)
    (case c8 => k_is)
    (case k8 => k_is)
    (case a9 => k_is)
    (case l9 => k_is)
    (case c9 => k_is)
    (case k9 => k_is)
    (case a10 => k_is)
    (case l10 => k_is)
    (case c10 => k_is)
    (case k10 => k_is)
    (case a11 => k_is)
    (case l11 => k_is)
    (case c11 => k_is)
    (case k11 => k_is)
    (case a12 => k_is)
    (case l12 => k_is)
    (case c12 => k_is)
    (case k12 => k_is)
    (case a13 => k_is)
    (case l13 => k_is)
    (case c13 => k_is)
    (case k13 => k_is)
    (case a14 => k_is)
    (case l14 => k_is)
    (case c14 => k_is)
    (case k14 => k_is)
    (case a15 => k_is)
    (case l15 => k_is)
    (case c15 => k_is)
    (case k15 => k_is)
    (case a16 => k_is)
    (case l16 => k_is)
    (case c16 => k_is)
    (case k16 => k_is)
    (case a17 => k_is)
    (case l17 => k_is)
    (case c17 => k_is)
    (case k17 => k_is)
    (case a18 => k_is)
    (case l18 => k_is)
    (case c18 => k_is)
    (case k18 => k_is)
    (case a19 => k_is)
    (case l19 => k_is)
    (case c19 => k_is)
    (case k19 => k_is)
    (case a20 => k_is)
    (case l20 => k_is)
    (case c20 => k_is)
    (case k20 => k_is)
    (case a21 => k_is)
    (case l21 => k_is)
    (case c21 => k_is)
    (case k21 => k_is)
    (case a22 => k_is)
    (case l22 => k_is)
    (case c22 => k_is)
    (case k22 => k_is)
    (case a23 => k_is)
    (case l23 => k_is)
    (case c23 => k_is)
    (case k23 => k_is)
    (case a24 => k_is)
    (case l24 => k_is)
    (case c24 => k_is)
    (case k24 => k_is)
    (case gA1 => k_is)
    (case gB1 => k_is)
    (case z1 => k_is)
    (case z2 => k_is)
    (case z3 => k_is)
    (case z4 => k_is)
    (case z5 => k_is)
    (case z6 => k_is)
    (case z7 => k_is)
    (case z8 => k_is)
    (case z9 => k_is)
    (case z10 => k_is)
    (case z11 => k_is)
    (case z12 => k_is)
    (case z13 => k_is)
