import PyProof.Rows.All
import Wide.All
import OpenK.AllK
import Wide.FinOn
import Lean
import PyProof.EqAt
import PyProof.EqKinds
import PyProof.TupleCall
import PyProof.NeKinds
import PyProof.Rows.FStr
import PyProof.Rows.Range3
import PyProof.StrLawsIn
import PyProof.WalksEnum
import PyProof.EnumMake
import PyProof.Rows.EnumRows
import PyProof.Rows.StrNews2
import PyProof.StrLawsFirst
import PyProof.StrLawsChain
import PyProof.StrLawsTight
import PyProof.StrBlockH
import KE.KEqDict
import PyProof.DictWalks
import PyProof.ListRange
import PyProof.ZipIter
import PyProof.Rows.SortRev
import PyProof.AttrMiss
import PyProof.IsiH_list
import KE.KDictOf
import PyProof.FactsAll.NoneType_1
import PyProof.StrCalls
import PySem.Challenge.RW_kinwords_k23_papers
set_option Elab.async false
set_option linter.all false
set_option maxRecDepth 100000
namespace L2
open PySem PySem.Spec PyProof.Rows
abbrev Key := Sum Int Str
def keyIs : Key → Value → Bool
  | .inl k, v => Value.isInt k v
  | .inr x, v => Value.isStrOf x v
def keyH (w : World) : Key → Int
  | .inl k => hashInt k
  | .inr x => hashStr w x
theorem keyIs_shape : ∀ {k : Key} {v : Value}, keyIs k v = true → (∃ i t, k = Sum.inl i ∧ v = Value.int i t) ∨ (∃ x t, k = Sum.inr x ∧ v = Value.str x t)
  | .inl i, v, h => by
    obtain ⟨t, e⟩ := Value.isInt_shape (k := i) (v := v) h
    exact .inl ⟨i, t, rfl, e⟩
  | .inr x, v, h => by
    obtain ⟨t, e⟩ := Value.isStrOf_shape (x := x) (v := v) h
    exact .inr ⟨x, t, rfl, e⟩
theorem keyIs_int (i : Int) (t : Tok) : keyIs (.inl i) (.int i t) = true := by simp [keyIs, Value.isInt]
theorem keyIs_str (x : Str) (t : Tok) : keyIs (.inr x) (.str x t) = true := by simp [keyIs, Value.isStrOf]
theorem key_ll (a b : Int) : decide ((Sum.inl a : Key) = Sum.inl b) = (a == b) := by
  by_cases e : a = b
  · subst e; simp
  · have h : ¬ (Sum.inl a : Key) = Sum.inl b := fun q => e (Sum.inl.inj q)
    rw [decide_eq_false h]
    exact (beq_eq_false_iff_ne.mpr e).symm
theorem key_rr (a b : Str) : decide ((Sum.inr a : Key) = Sum.inr b) = decide (a = b) := by
  by_cases e : a = b
  · subst e; simp
  · have h : ¬ (Sum.inr a : Key) = Sum.inr b := fun q => e (Sum.inr.inj q)
    rw [decide_eq_false h, decide_eq_false e]
theorem key_lr (a : Int) (b : Str) : decide ((Sum.inl a : Key) = Sum.inr b) = false := decide_eq_false (fun q => nomatch q)
theorem key_rl (a : Str) (b : Int) : decide ((Sum.inr a : Key) = Sum.inl b) = false := decide_eq_false (fun q => nomatch q)
def mixKind (prog : Program) (w : World) : PySem.KeyKind prog w Key where
  is := keyIs
  hash := keyH w
  inj := fun v a b ha hb => by
    rcases keyIs_shape ha with ⟨i, t, rfl, rfl⟩ | ⟨x, t, rfl, rfl⟩
    · rcases keyIs_shape hb with ⟨j, u, rfl, e⟩ | ⟨y, u, rfl, e⟩
      · injection e with e1 _; rw [e1]
      · exact nomatch e
    · rcases keyIs_shape hb with ⟨j, u, rfl, e⟩ | ⟨y, u, rfl, e⟩
      · exact nomatch e
      · injection e with e1 _; rw [e1]
  byValue := fun k v h => by
    rcases keyIs_shape h with ⟨i, t, rfl, rfl⟩ | ⟨x, t, rfl, rfl⟩ <;> rfl
  pyHash := fun hv h => by
    rcases keyIs_shape hv with ⟨i, t, rfl, rfl⟩ | ⟨x, t, rfl, rfl⟩
    · exact wpAny_pyHash_int h
    · exact wpAny_pyHash_str h
  eqBool := fun hu hv h => by
    rcases keyIs_shape hu with ⟨i, t, rfl, rfl⟩ | ⟨x, t, rfl, rfl⟩
    · rcases keyIs_shape hv with ⟨j, u, rfl, rfl⟩ | ⟨y, u, rfl, rfl⟩
      · rw [key_ll] at h; exact wpAny_eqBool_int h
      · rw [key_lr] at h; exact SeqAt.EqAt.int_str i t y u _ _ _ _ h
    · rcases keyIs_shape hv with ⟨j, u, rfl, rfl⟩ | ⟨y, u, rfl, rfl⟩
      · rw [key_rl] at h; exact SeqAt.EqAt.str_int x t j u _ _ _ _ h
      · rw [key_rr] at h; exact wpAny_eqBool_str h
  «strs» := fun k x t v h => by
    rcases keyIs_shape h with ⟨i, u, rfl, e⟩ | ⟨y, u, rfl, e⟩
    · exact nomatch e
    · injection e with e1 _
      subst e1
      cases v <;> rfl
theorem mixKind_is (prog : Program) (w : World) (k : Key) (v : Value) : (mixKind prog w).is k v = keyIs k v := rfl
theorem mixKind_int (prog : Program) (w : World) (i : Int) (t : Tok) : (mixKind prog w).is (.inl i) (.int i t) = true := keyIs_int i t
theorem mixKind_str (prog : Program) (w : World) (x : Str) (t : Tok) : (mixKind prog w).is (.inr x) (.str x t) = true := keyIs_str x t
end L2
namespace L2
open PySem PySem.Spec PyProof.Rows
inductive V where
  | non | bl (b : Bool) | int (i : Int) | str (x : Str) | byt (b : Array UInt8) | flt (b : UInt64) | ref (a : Addr) | ty (n : String)
  deriving DecidableEq
def RelV : V → Value → Prop
  | .non, u => u = Value.none
  | .bl b, u => u = Value.bool b
  | .int i, u => ∃ t, u = Value.int i t
  | .str x, u => ∃ t, u = Value.str x t
  | .byt b, u => ∃ t, u = Value.bytes b t
  | .flt b, u => ∃ t, u = Value.float b t
  | .ref a, u => u = Value.ref a
  | .ty n, u => u = Value.type n
abbrev Vals : List V → List Value → Prop := Paired RelV
theorem Vals.length {xs : List V} {us : List Value} (r : Vals xs us) : xs.length = us.length := Paired.length r
theorem Vals.get : ∀ {xs : List V} {us : List Value} {i : Nat} {x : V}, Vals xs us → xs[i]? = some x → ∃ u, us[i]? = some u ∧ RelV x u
  | _, _, _, _, .nil, e => by simp at e
  | _, _, 0, _, .cons r _, e => by simp at e; subst e; exact ⟨_, rfl, r⟩
  | _, _, i + 1, x, .cons _ t, e => by
    obtain ⟨u, h1, h2⟩ := Vals.get (i := i) (x := x) t (by simpa using e)
    exact ⟨u, by simpa using h1, h2⟩
theorem Vals.set {x : V} {u : Value} (r : RelV x u) : ∀ {xs : List V} {us : List Value} (i : Nat), Vals xs us → Vals (xs.set i x) (us.set i u)
  | _, _, _, .nil => .nil
  | _, _, 0, .cons _ t => .cons r t
  | _, _, i + 1, .cons q t => .cons q (Vals.set r i t)
theorem Vals.append : ∀ {xs ys : List V} {us ws : List Value}, Vals xs us → Vals ys ws → Vals (xs ++ ys) (us ++ ws)
  | _, _, _, _, .nil, s => s
  | _, _, _, _, .cons r t, s => .cons r (Vals.append t s)
theorem Vals.take : ∀ {xs : List V} {us : List Value} (n : Nat), Vals xs us → Vals (xs.take n) (us.take n)
  | _, _, 0, _ => .nil
  | _, _, _ + 1, .nil => .nil
  | _, _, n + 1, .cons r t => .cons r (Vals.take n t)
theorem Vals.drop : ∀ {xs : List V} {us : List Value} (n : Nat), Vals xs us → Vals (xs.drop n) (us.drop n)
  | _, _, 0, r => r
  | _, _, _ + 1, .nil => .nil
  | _, _, n + 1, .cons _ t => Vals.drop n t
theorem Vals.none_of : ∀ {xs : List V} {us : List Value} {i : Nat}, Vals xs us → xs[i]? = none → us[i]? = none := fun {xs us i} r e => by
  have h1 := r.length
  have h2 : xs.length ≤ i := List.getElem?_eq_none_iff.mp e
  exact List.getElem?_eq_none_iff.mpr (by omega)
def RelO : Option V → Option Value → Prop
  | some v, some u => RelV v u
  | none, none => True
  | _, _ => False
def KV {κ : Type} : List (κ × V) → List (κ × Value) → Prop := Paired fun (p : κ × V) (q : κ × Value) => p.1 = q.1 ∧ RelV p.2 q.2
def kV : Key → V
  | .inl i => .int i
  | .inr x => .str x
inductive HO where
  /-- a list -/
  | lst (xs : List V)
  /-- a tuple (never changes) -/
  | tup (xs : List V)
  /-- a dict whose keys are ints and texts; one whose keys are tuples of ints and texts (the empty one is both) -/
  | dK (kvs : List (Key × V)) | dT (kvs : List (List Key × V))
  /-- a set of ints: its members, its size -/
  | set (S : Int → Bool) (n : Nat)
  /-- an instance of the class at C, its dict at dx, its attributes -/
  | ins (C dx : Addr) (fs : List (Str × V))
  /-- the dict of the instance at x -/
  | own (x : Addr)
  /-- the dict of an exception -/
  | xd (fs : List (Str × V))
  /-- a bound method, f of x -/
  | met (f x : Addr)
  /-- a range object lo, lo + 1, .. below hi -/
  | rng (lo hi : Int)
  /-- a thing that is known to the object (the script; a dict while a loop walks it): read, never written while it is so -/
  | frz (o : Obj) (u : HO)
  /-- a code object's table -/
  | tbl (ps : Array Value)
  /-- any other thing, by what is true of its one object (a def of one's own: SetO a S n := HO.ext fun h => ..) -/
  | ext (φ : Heap → Prop)
abbrev Hp := Addr → Option HO
def upd (H : Hp) (a : Addr) (o : HO) : Hp := fun b => if b = a then some o else H b
theorem upd_same {H : Hp} {a : Addr} {o : HO} : upd H a o a = some o := by unfold upd; rw [if_pos rfl]
theorem upd_ne {H : Hp} {a b : Addr} {o : HO} (h : b ≠ a) : upd H a o b = H b := by unfold upd; rw [if_neg h]
theorem ne_of {H : Hp} {a b : Addr} {o u : HO} (h : H a = some o) (h' : H b = some u) (d : o ≠ u) : a ≠ b := by
  intro e; subst e; rw [h] at h'; exact d (Option.some.inj h')
theorem ne_of_none {H : Hp} {a b : Addr} {o : HO} (h : H a = some o) (h' : H b = none) : a ≠ b := by
  intro e; subst e; rw [h] at h'; cases h'
section
variable (P : Program) (w : World)
def ObjOk (H : Hp) (h : Heap) (a : Addr) : HO → Prop
  | .lst xs => xs.length ≤ sizeLine ∧ ∃ (its : List Value) (n : Nat), Vals xs its ∧ h.get? a = some { cls := .type "list", data := .seq its.toArray n }
  | .tup xs => xs.length ≤ sizeLine ∧ ∃ its : List Value, Vals xs its ∧ IsTup h a its.toArray
  | .dK kvs => kvs.length ≤ sizeLine ∧ (a == sysModules) = false ∧ ∃ vs, KV kvs vs ∧ h.DictOf (mixKind P w) a vs
  | .dT kvs => kvs.length ≤ sizeLine ∧ (a == sysModules) = false ∧ ∃ xs : List (List Key × Addr × Value),
      Paired (fun (p : List Key × V) (q : List Key × Addr × Value) => p.1 = q.1 ∧ H q.2.1 = some (.tup (p.1.map kV)) ∧ RelV p.2 q.2.2) kvs xs ∧
      ∃ o es ep, h.get? a = some o ∧ o.ExactDict ∧ o.data = .dict es ep ∧ es.toList = xs.map (entryOfKey (tupleKind (mixKind P w))) ∧ (xs.map (·.1)).Nodup
  | .set S n => h.SetOf (intKind P w) a S n
  | .ins C dx fs => H dx = some (.own a) ∧ fs.length ≤ 1000 ∧ dx ≠ a ∧ h.get? a = some (PySem.W.instObj C dx) ∧
      ∃ mA, h.Ns1 dx mA ∧ (∀ f, RelO (fs.lookup f) (mA f)) ∧ PySem.Within mA (fs.map (·.1))
  | .own _ => ∃ o, h.get? a = some o
  | .xd fs => ∃ mA, h.Ns1 a mA ∧ ∀ f, RelO (fs.lookup f) (mA f)
  | .rng lo hi => ∃ t u v, h.get? a = some { cls := .type "range", data := .fields #[.int lo t, .int hi u, .int 1 v] }
  | .frz o u => h.get? a = some o ∧ ObjOk H h a u
  | .tbl ps => h.get? a = some { cls := .none, data := .fields ps }
  | .met f x => h.get? a = some (PySem.W.methodObj (.ref f) (.ref x))
  | .ext φ => φ h ∧ (∃ o, h.get? a = some o) ∧ ∀ h1 h2 : Heap, φ h1 → (∀ o, h1.get? a = some o → h2.get? a = some o) → φ h2
def HOk (H : Hp) (h : Heap) : Prop := ∀ a o, H a = some o → ObjOk P w H h a o
end
section
variable {P : Program} {w : World} {H H' : Hp} {h h' : Heap} {a : Addr} {o : HO}
theorem ObjOk.lt (x : ObjOk P w H h a o) : a < h.objs.size := by
  cases o with
  | lst xs => obtain ⟨_, _, _, _, e⟩ := x; exact Heap.lt_size e
  | tup xs => obtain ⟨_, _, _, p⟩ := x; exact p.lt
  | dK kvs => obtain ⟨_, _, _, _, o, _, _, e, _⟩ := x; exact Heap.lt_size e
  | dT kvs => obtain ⟨_, _, _, _, o, _, _, e, _⟩ := x; exact Heap.lt_size e
  | set S n => obtain ⟨o, _, _, _, e, _⟩ := x; exact Heap.lt_size e
  | ins C dx fs => obtain ⟨_, _, _, e, _⟩ := x; exact Heap.lt_size e
  | own y => obtain ⟨_, e⟩ := x; exact Heap.lt_size e
  | xd fs => obtain ⟨_, ⟨_, _, _, e, _⟩, _⟩ := x; exact Heap.lt_size e
  | rng lo hi => obtain ⟨_, _, _, e⟩ := x; exact Heap.lt_size e
  | frz ob u => obtain ⟨e, _⟩ := x; exact Heap.lt_size e
  | tbl ps => exact Heap.lt_size (show h.get? a = some _ from x)
  | met f y => exact Heap.lt_size (show h.get? a = some _ from x)
  | ext φ => obtain ⟨_, ⟨_, e⟩, _⟩ := x; exact Heap.lt_size e
theorem Paired.mapP {α β : Type} {F G : α → β → Prop} : ∀ {l₁ : List α} {l₂ : List β}, Paired F l₁ l₂ → (∀ a b, F a b → G a b) → Paired G l₁ l₂
  | _, _, .nil, _ => .nil
  | _, _, .cons r t, f => .cons (f _ _ r) (Paired.mapP t f)
theorem Paired.imp' {α β : Type} {F G : α → β → Prop} (f : ∀ a b, F a b → G a b) {l₁ : List α} {l₂ : List β} (r : Paired F l₁ l₂) : Paired G l₁ l₂ := Paired.mapP r f
theorem ObjOk.stay (x : ObjOk P w H h a o) (k : ∀ b u, (b = a ∨ H b = some (.own a)) → h.get? b = some u → h'.get? b = some u)
    (ho : ∀ b, H b = some (.own a) → H' b = some (.own a)) (ht : ∀ b xs, H b = some (.tup xs) → H' b = some (.tup xs)) : ObjOk P w H' h' a o := by
  induction o with
  | lst xs => obtain ⟨z, its, n, r, e⟩ := x; exact ⟨z, its, n, r, k _ _ (.inl rfl) e⟩
  | tup xs => obtain ⟨z, its, r, ob, e, c⟩ := x; exact ⟨z, its, r, ob, k _ _ (.inl rfl) e, c⟩
  | dK kvs => obtain ⟨z, y, vs, r, ob, es, ep, e, c⟩ := x; exact ⟨z, y, vs, r, ob, es, ep, k _ _ (.inl rfl) e, c⟩
  | dT kvs =>
    obtain ⟨z, y, xs, r, ob, es, ep, e, c⟩ := x
    exact ⟨z, y, xs, Paired.mapP r fun p q z => ⟨z.1, ht _ _ z.2.1, z.2.2⟩, ob, es, ep, k _ _ (.inl rfl) e, c⟩
  | set S n => obtain ⟨ob, es, ep, t, e, c⟩ := x; exact ⟨ob, es, ep, t, k _ _ (.inl rfl) e, c⟩
  | ins C dx fs =>
    obtain ⟨d, z, ne, e, mA, ⟨od, es, ep, e2, c⟩, r⟩ := x
    exact ⟨ho _ d, z, ne, k _ _ (.inl rfl) e, mA, ⟨od, es, ep, k _ _ (.inr d) e2, c⟩, r⟩
  | own y => obtain ⟨ob, e⟩ := x; exact ⟨ob, k _ _ (.inl rfl) e⟩
  | xd fs => obtain ⟨mA, ⟨od, es, ep, e, c⟩, r⟩ := x; exact ⟨mA, ⟨od, es, ep, k _ _ (.inl rfl) e, c⟩, r⟩
  | rng lo hi => obtain ⟨t, u, v, e⟩ := x; exact ⟨t, u, v, k _ _ (.inl rfl) e⟩
  | frz ob u ih => obtain ⟨e, q⟩ := x; exact ⟨k _ _ (.inl rfl) e, ih q⟩
  | tbl ps =>
    have e : h.get? a = some { cls := .none, data := .fields ps } := x
    show h'.get? a = some { cls := .none, data := .fields ps }
    exact k a _ (.inl rfl) e
  | met f y =>
    have e : h.get? a = some (PySem.W.methodObj (.ref f) (.ref y)) := x
    show h'.get? a = some (PySem.W.methodObj (.ref f) (.ref y))
    exact k a _ (.inl rfl) e
  | ext φ => obtain ⟨p, ⟨o, e⟩, st⟩ := x; exact ⟨st _ _ p fun o q => k _ _ (.inl rfl) q, ⟨o, k _ _ (.inl rfl) e⟩, st⟩
theorem HOk.lt (x : HOk P w H h) (e : H a = some o) : a < h.objs.size := (x a o e).lt
theorem HOk.fresh (x : HOk P w H h) (e : h.objs.size ≤ a) : H a = none := by
  cases q : H a with
  | none => rfl
  | some u => exact absurd (Nat.lt_of_lt_of_le (x.lt q) e) (Nat.lt_irrefl _)
theorem HOk.kept (x : HOk P w H h) (k : ∀ b u, h.get? b = some u → h'.get? b = some u) : HOk P w H h' := fun a o e =>
  (x a o e).stay (fun b u _ q => k b u q) (fun _ q => q) fun _ _ q => q
theorem HOk.laid (x : HOk P w H h) (k : ∀ b u, h.get? b = some u → h'.get? b = some u) (hp : h.objs.size ≤ a) (new : ObjOk P w (upd H a o) h' a o) : HOk P w (upd H a o) h' := fun b u e => by
  have hn := x.fresh hp
  by_cases hb : b = a
  · subst hb; rw [upd_same] at e; cases e; exact new
  · rw [upd_ne hb] at e
    exact (x b u e).stay (fun c v _ q => k c v q) (fun c q => by rw [upd_ne (ne_of_none q hn)]; exact q) fun c xs q => by rw [upd_ne (ne_of_none q hn)]; exact q
end
def Rd (H : Hp) (a : Addr) (u : HO) : Prop := H a = some u ∨ ∃ o, H a = some (.frz o u)
theorem Rd.ok {P : Program} {w : World} {H : Hp} {h : Heap} {a : Addr} {u : HO} (r : Rd H a u) (x : HOk P w H h) : ObjOk P w H h a u := by
  rcases r with r | ⟨o, r⟩
  · exact x a u r
  · obtain ⟨_, q⟩ := x a _ r
    exact q
def Mut : Option HO → Prop
  | some (.lst _) => True
  | some (.dK _) => True
  | some (.dT _) => True
  | some (.set _ _) => True
  | some (.ins _ _ _) => True
  | some (.ext _) => True
  | _ => False
section
variable {P : Program} {w : World} {H : Hp} {h h' : Heap} {x e : Addr} {o' : HO}
theorem HOk.write (ok : HOk P w H h) (mu : Mut (H x)) (he : e = x ∨ H e = some (.own x)) (k : ∀ b u, b ≠ e → h.get? b = some u → h'.get? b = some u) (heo : ∃ u, h'.get? e = some u)
    (new : ObjOk P w (upd H x o') h' x o') : HOk P w (upd H x o') h' := fun b u q => by
  have nown : ∀ c y, H c = some (.own y) → c ≠ x := fun c y r z => by subst z; rw [r] at mu; exact mu
  have ntup : ∀ c xs, H c = some (.tup xs) → c ≠ x := fun c xs r z => by subst z; rw [r] at mu; exact mu
  by_cases hb : b = x
  · subst hb; rw [upd_same] at q; cases q; exact new
  · rw [upd_ne hb] at q
    by_cases hbe : b = e
    · have q' : H b = some (.own x) := by
        rcases he with z | z
        · exact absurd (hbe.trans z) hb
        · rw [hbe]; exact z
      rw [q] at q'; cases q'
      obtain ⟨v, hv⟩ := heo
      exact ⟨v, by rw [hbe]; exact hv⟩
    · refine (ok b u q).stay (fun c v hc r => k c v ?_ r) (fun c r => by rw [upd_ne (nown c b r)]; exact r) fun c xs r => by rw [upd_ne (ntup c xs r)]; exact r
      rcases hc with rfl | hc
      · exact hbe
      · rintro rfl
        rcases he with z | z
        · exact nown c b hc z
        · rw [hc] at z; cases z; exact hb rfl
end
structure Un (fs ex : List Addr) (H H' : Hp) (h h' : Heap) : Prop where
  keep : ∀ b o, h.get? b = some o → H b = none → b ∉ fs → b ∉ ex → h'.get? b = some o
  slot : ∀ b o, h.get? b = some o → H b = none → b ∈ fs → b ∉ ex → ∃ sl, h'.get? b = some { o with slots := sl }
  free : ∀ b o, h.get? b = some o → H b = none → b ∉ ex → H' b = none
  there : ∀ b o, h.get? b = some o → b ∉ ex → ∃ o', h'.get? b = some o'
  tups : ∀ b xs, H b = some (.tup xs) → H' b = some (.tup xs)
  frzs : ∀ b o u, H b = some (.frz o u) → H' b = some (.frz o u)
  tbls : ∀ b ps, H b = some (.tbl ps) → ∃ more, H' b = some (.tbl (ps ++ more))
section
variable {fs fs' ex ex' : List Addr} {H H1 H2 : Hp} {h h1 h2 h' : Heap} {a x e : Addr} {o : HO}
theorem Un.any (u : Un fs ex H H1 h h1) {b : Addr} {ob : Obj} (q : h.get? b = some ob) (n : H b = none) (hx : b ∉ ex) : ∃ sl, h1.get? b = some { ob with slots := sl } := by
  by_cases hb : b ∈ fs
  · exact u.slot b ob q n hb hx
  · exact ⟨ob.slots, u.keep b ob q n hb hx⟩
theorem Un.kept (k : ∀ b u, h.get? b = some u → h'.get? b = some u) : Un fs ex H H h h' :=
  ⟨fun b ob q _ _ _ => k b ob q, fun b ob q _ _ _ => ⟨ob.slots, k b ob q⟩, fun _ _ _ n _ => n, fun b ob q _ => ⟨ob, k b ob q⟩, fun _ _ q => q, fun _ _ _ q => q, fun _ ps q => ⟨#[], by rw [q]; simp⟩⟩
theorem Un.refl : Un fs ex H H h h := Un.kept fun _ _ q => q
theorem Un.laid (k : ∀ b u, h.get? b = some u → h'.get? b = some u) (hp : h.objs.size ≤ a) (hn : H a = none) : Un fs ex H (upd H a o) h h' where
  keep := fun b u q _ _ _ => k b u q
  slot := fun b u q _ _ _ => ⟨u.slots, k b u q⟩
  free := fun b u q n _ => by rw [upd_ne (Nat.ne_of_lt (Nat.lt_of_lt_of_le (Heap.lt_size q) hp))]; exact n
  there := fun b u q _ => ⟨u, k b u q⟩
  tups := fun b xs q => by rw [upd_ne (ne_of_none q hn)]; exact q
  frzs := fun b u xs q => by rw [upd_ne (ne_of_none q hn)]; exact q
  tbls := fun b ps q => ⟨#[], by rw [upd_ne (ne_of_none q hn), q]; simp⟩
theorem Un.write (mu : Mut (H x)) (he : e = x ∨ H e = some (.own x)) (k : ∀ b u, b ≠ e → h.get? b = some u → h'.get? b = some u) (heo : ∃ u, h'.get? e = some u) : Un fs ex H (upd H x o) h h' := by
  have hx : ∀ b, H b = none → b ≠ x := fun b n z => by subst z; rw [n] at mu; exact mu
  have hb : ∀ b, H b = none → b ≠ e := fun b n z => by
    subst z
    rcases he with r | r
    · exact hx b n r
    · rw [n] at r; cases r
  have hm : ∀ b u, H b = some u → ¬ Mut (some u) → b ≠ x := fun b u q nm z => by subst z; rw [q] at mu; exact nm mu
  refine ⟨fun b u q n _ _ => k b u (hb b n) q, fun b u q n _ _ => ⟨u.slots, k b u (hb b n) q⟩, fun b u q n _ => by rw [upd_ne (hx b n)]; exact n, fun b u q _ => ?_,
    fun b xs q => by rw [upd_ne (hm b _ q fun z => z)]; exact q, fun b u xs q => by rw [upd_ne (hm b _ q fun z => z)]; exact q, fun b ps q => ⟨#[], by rw [upd_ne (hm b _ q fun z => z), q]; simp⟩⟩
  by_cases hbe : b = e
  · subst hbe; exact heo
  · exact ⟨u, k b u hbe q⟩
end
def trk (h : Heap) (H : Hp) : List Addr := (List.range h.objs.size).filter fun a => (H a).isSome
def hidT (h : Heap) (H : Hp) : Heap := PySem.W.hideAll h (trk h H)
theorem hidT_size (h : Heap) (H : Hp) : (hidT h H).objs.size = h.objs.size := PySem.W.hideAll_size _ _
theorem hidT_get {h : Heap} {H : Hp} {b : Addr} {o : Obj} (e : h.get? b = some o) (n : H b = none) : (hidT h H).get? b = some o :=
  PySem.W.hideAll_get _ e fun hm => by
    have q : (H b).isSome = true := (List.mem_filter.mp hm).2
    rw [n] at q; simp at q
theorem of_hidT {h : Heap} {H : Hp} {b : Addr} {o : Obj} (e : (hidT h H).get? b = some o) : h.get? b = some o ∧ H b = none := by
  have e' : h.get? b = some o := PySem.W.of_hideAll (trk h H) e
  refine ⟨e', ?_⟩
  cases q : H b with
  | none => rfl
  | some x =>
    have hm : b ∈ trk h H := List.mem_filter.mpr ⟨List.mem_range.mpr (Heap.lt_size e'), by simp [q]⟩
    have z : (hidT h H).get? b = none := PySem.W.hideAll_none (trk h H) hm
    rw [z] at e; cases e
def allNews (g h : Heap) (L : Addr) : List (Addr × Obj) := (List.range h.objs.size).filterMap fun a => if a = L ∨ (g.get? a).isSome = true then none else (h.get? a).map fun o => (a, o)
def rest (g h : Heap) (L d : Addr) : List (Addr × Obj) := (allNews g h L).filter fun p => decide (p.1 ≠ d)
end L2
namespace L2
open PySem PySem.Spec PyProof.Rows
structure Mod (K : PySem.W.Frag) (mg : Str → Option Value) (base : Heap) : Prop where
  kin : K.In base
  glob : base.Ns mainGlobals mg
  blt : ∃ mb, base.Ns builtinsNs mb ∧ ∀ x : Str, x ≠ "__name__" → mb x = bootBuiltins x
  nolimit : base.NoLimit
/-- the context: a def's body (or a comprehension's block) running. base: fixed through the whole law; s₀, H₀: the entry; outer: the frames whose slots others may change (a def's callers); stack: all frames that run;
   ex: iterators that were made ahead of the entry and are walked here (a comprehension's); fn: the names whose cells were made at the entry (a def: all; a comprehension's block: its own); calm: not within an except suite; pn: pins that every state bears; xe: what is wanted of an exception that leaves the code -/
structure Cx where
  prog : Program
  w : World
  K : PySem.W.Frag
  mg : Str → Option Value
  base : Heap
  A : Around
  N : List Str
  s₀ : Shared
  H₀ : Hp
  env : Env
  outer : List Env
  stack : List Env
  ex : List Addr
  fn : Str → Bool
  calm : Bool
  pn : List (Addr × Obj)
  xe : Value → Shared → Prop
def frs (l : List Env) : List Addr := l.filterMap (·.frame)
abbrev Cx.fs (X : Cx) : List Addr := frs X.outer
def Vis (sc : Scope) (x : Str) : Prop := sc.names.lookup x = some .local ∨ sc.names.lookup x = some .cell ∨ sc.names.lookup x = some .free
def Loc (sc : Scope) (x : Str) : Prop := sc.names.lookup x = some .local ∨ sc.names.lookup x = some .cell
def Look (env : Env) (h : Heap) (m : Str → Option Value) (x : Str) (u : Value) : Prop :=
  (env.kindOf x = some .local ∧ m x = some u) ∨ ((env.kindOf x = some .cell ∨ env.kindOf x = some .free) ∧ ∃ c, env.cells.lookup x = some c ∧ h.IsCell c (some u))
structure Cx.Ok (X : Cx) : Prop where
  mod : Mod X.K X.mg X.base
  kind : X.env.scope.kind = .function
  glob : X.env.globals = mainGlobals
  blt : X.env.builtins = builtinsNs
  above : X.s₀.heap.objs.size ≤ X.env.locals
  inj : ∀ x y c, X.env.cells.lookup x = some c → X.env.cells.lookup y = some c → x = y
  has : ∀ x, (X.env.kindOf x = some .cell ∨ X.env.kindOf x = some .free) → ∃ c, X.env.cells.lookup x = some c
  cab : ∀ x c, X.fn x = true → X.env.cells.lookup x = some c → X.s₀.heap.objs.size ≤ c
  hd : X.calm = true → X.A.handled = none
  frames : X.A.frames = some X.stack
  stk : X.stack = X.outer ∨ (X.stack = X.env :: X.outer ∧ X.env.frame = some X.env.locals)
  exf : ∀ b ∈ X.ex, b ≠ X.env.locals ∧ ∀ x c, X.env.cells.lookup x = some c → c ≠ b
  bs : ∀ b o, X.base.get? b = some o → X.s₀.heap.get? b = some o ∧ X.H₀ b = none
  bsz : X.base.objs.size ≤ X.s₀.heap.objs.size
  noex : ∀ b o, X.base.get? b = some o → b ∉ X.ex
  exfs : ∀ b ∈ X.ex, b ∉ X.fs
  funs : X.s₀.heap.FunFrames X.base X.outer
  frf : ∀ b ∈ X.fs, X.H₀ b = none
structure Inv (X : Cx) (pins : List (Addr × Obj)) (σ : List (Option V)) (H : Hp) (s : Shared) : Prop where
  ok : X.Ok
  os : s.os = X.s₀.os
  bare : AllBare s.gens
  base : Un X.fs X.ex X.H₀ H X.s₀.heap s.heap
  loc : ∃ m, s.heap.Ns X.env.locals m ∧ ∀ (i : Nat) (x : Str) (v : V), X.N[i]? = some x → σ[i]? = some (some v) → Vis X.env.scope x → ∃ u, RelV v u ∧ Look X.env s.heap m x u
  cell : ∀ x c, X.env.cells.lookup x = some c → ∃ v, s.heap.IsCell c v
  free : H X.env.locals = none
  freeC : ∀ x c, X.env.cells.lookup x = some c → H c = none
  pin : ∀ p ∈ X.pn ++ pins, s.heap.get? p.1 = some p.2 ∧ H p.1 = none ∧ p.1 ≠ X.env.locals ∧ p.1 ∉ X.fs ∧ ∀ v, p.2.data ≠ .cell v
  hok : HOk X.prog X.w H s.heap
  len : σ.length = X.N.length
section
variable {X : Cx} {pins : List (Addr × Obj)} {σ : List (Option V)} {H H' : Hp} {s : Shared} {h' : Heap}
theorem Cx.Ok.nofr (ok : X.Ok) {b : Addr} {o : Obj} (e : X.base.get? b = some o) : b ∉ X.fs := fun hb => by
  have := (ok.funs.mem hb).1
  rw [e] at this; cases this
theorem Inv.bs (I : Inv X pins σ H s) : ∀ b o, X.base.get? b = some o → s.heap.get? b = some o ∧ H b = none := fun b o e =>
  ⟨I.base.keep b o (I.ok.bs b o e).1 (I.ok.bs b o e).2 (I.ok.nofr e) (I.ok.noex b o e), I.base.free b o (I.ok.bs b o e).1 (I.ok.bs b o e).2 (I.ok.noex b o e)⟩
theorem Inv.bk (I : Inv X pins σ H s) : ∀ b o, X.base.get? b = some o → s.heap.get? b = some o := fun b o e => (I.bs b o e).1
theorem Inv.mod (I : Inv X pins σ H s) : Mod X.K X.mg X.base := I.ok.mod
theorem Inv.kIn (I : Inv X pins σ H s) : X.K.In s.heap := I.ok.mod.kin.keeps I.bk
theorem Inv.lt (I : Inv X pins σ H s) : X.env.locals < s.heap.objs.size := let ⟨_, hn, _⟩ := I.loc; hn.lt
theorem Inv.sz (I : Inv X pins σ H s) : X.s₀.heap.objs.size ≤ s.heap.objs.size := Nat.le_trans I.ok.above (Nat.le_of_lt I.lt)
theorem Inv.nofs (I : Inv X pins σ H s) {a : Addr} (h : s.heap.objs.size ≤ a) : a ∉ X.fs := fun hb => by
  obtain ⟨_, o, ho, _⟩ := I.ok.funs.mem hb
  exact absurd (Nat.lt_of_lt_of_le (Heap.lt_size ho) (Nat.le_trans I.sz h)) (Nat.lt_irrefl _)
theorem Inv.cne (I : Inv X pins σ H s) : ∀ x c, X.env.cells.lookup x = some c → c ≠ X.env.locals := fun x c e z => by
  obtain ⟨v, o, ho, hd⟩ := I.cell x c e
  obtain ⟨m, ⟨o', es, ep, ho', hd', _⟩, _⟩ := I.loc
  rw [z, ho'] at ho; cases ho; rw [hd'] at hd; cases hd
theorem Inv.funs (I : Inv X pins σ H s) : s.heap.FunFrames X.base X.outer := by
  have all : ∀ (l : List Env), (∀ b ∈ frs l, b ∈ X.fs) → X.s₀.heap.FunFrames X.base l → s.heap.FunFrames X.base l := by
    intro l
    induction l with
    | nil => intro _ _; trivial
    | cons env r ih =>
      intro hs hl
      obtain ⟨hk, ⟨L, o, hf, hn, ho, hd⟩, hr⟩ := hl
      have hL : L ∈ X.fs := hs L (by unfold frs; rw [List.filterMap_cons, hf]; exact List.mem_cons_self)
      obtain ⟨sl, e⟩ := I.base.slot L o ho (I.ok.frf L hL) hL fun z => I.ok.exfs L z hL
      exact ⟨hk, ⟨L, _, hf, hn, e, hd⟩, ih (fun b hb => hs b (by unfold frs; rw [List.filterMap_cons, hf]; exact List.mem_cons_of_mem _ hb)) hr⟩
  exact all X.outer (fun _ hb => hb) I.ok.funs
theorem Inv.stack (I : Inv X pins σ H s) : s.heap.FunFrames X.base X.stack := by
  rcases I.ok.stk with e | ⟨e, hf⟩
  · rw [e]; exact I.funs
  · rw [e]
    obtain ⟨m, hn, _⟩ := I.loc
    refine .cons (by rw [I.ok.kind]; decide) hf hn ?_ I.funs
    exact Heap.get?_none_of_le (Nat.le_trans I.ok.bsz I.ok.above)
theorem Inv.stkSub (I : Inv X pins σ H s) : ∀ b ∈ frs X.stack, b ∈ X.env.locals :: X.fs := fun b hb => by
  rcases I.ok.stk with e | ⟨e, hf⟩
  · rw [e] at hb; exact List.mem_cons_of_mem _ hb
  · rw [e] at hb
    unfold frs at hb
    rw [List.filterMap_cons, hf] at hb
    exact hb
theorem Inv.stkFree (I : Inv X pins σ H s) : ∀ b ∈ frs X.stack, H b = none := fun b hb => by
  rcases List.mem_cons.mp (I.stkSub b hb) with e | hb
  · rw [e]; exact I.free
  · obtain ⟨_, o, ho, _⟩ := I.ok.funs.mem hb
    exact I.base.free b o ho (I.ok.frf b hb) fun z => I.ok.exfs b z hb
theorem Inv.step {g' : Array GenState} {t' : Nat} {d' : Drawn} {ch : List Addr} (I : Inv X pins σ H s)
    (hch : ∀ b ∈ ch, (b ∈ X.ex ∨ X.s₀.heap.objs.size ≤ b) ∧ b ≠ X.env.locals ∧ (∀ x c, X.env.cells.lookup x = some c → c ≠ b) ∧ ∀ p ∈ X.pn ++ pins, p.1 ≠ b)
    (keep : ∀ b o, b ≠ X.env.locals → b ∉ X.fs → b ∉ ch → s.heap.get? b = some o → H b = none → h'.get? b = some o)
    (slot : ∀ b o, b ≠ X.env.locals → b ∈ X.fs → b ∉ ch → s.heap.get? b = some o → H b = none → ∃ sl, h'.get? b = some { o with slots := sl }) (free : ∀ b o, b ∉ ch → s.heap.get? b = some o → H b = none → H' b = none)
    (there : ∀ b o, b ∉ ch → s.heap.get? b = some o → ∃ o', h'.get? b = some o')
    (tups : ∀ b xs, H b = some (.tup xs) → H' b = some (.tup xs)) (frzs : ∀ b o u, H b = some (.frz o u) → H' b = some (.frz o u)) (tbls : ∀ b ps, H b = some (.tbl ps) → ∃ more, H' b = some (.tbl (ps ++ more)))
    (ns : ∀ m, s.heap.Ns X.env.locals m → h'.Ns X.env.locals m) (hok : HOk X.prog X.w H' h') (hg : AllBare g') :
    Inv X pins σ H' { s with heap := h', gens := g', drawn := d', toks := t' } := by
  have neL : ∀ b o, X.s₀.heap.get? b = some o → b ≠ X.env.locals := fun b o e => Nat.ne_of_lt (Nat.lt_of_lt_of_le (Heap.lt_size e) I.ok.above)
  have neC : ∀ b o, X.s₀.heap.get? b = some o → b ∉ X.ex → b ∉ ch := fun b o e hx hb => by
    rcases (hch b hb).1 with z | z
    · exact hx z
    · exact absurd (Nat.lt_of_lt_of_le (Heap.lt_size e) z) (Nat.lt_irrefl _)
  have cellK : ∀ x c, X.env.cells.lookup x = some c → ∀ v, s.heap.IsCell c v → h'.IsCell c v := fun x c e v ⟨o, ho, hd⟩ => by
    have nch : c ∉ ch := fun z => (hch c z).2.2.1 x c e rfl
    by_cases hc : c ∈ X.fs
    · obtain ⟨sl, q⟩ := slot c o (I.cne x c e) hc nch ho (I.freeC x c e)
      exact ⟨_, q, hd⟩
    · exact ⟨o, keep c o (I.cne x c e) hc nch ho (I.freeC x c e), hd⟩
  refine ⟨I.ok, I.os, hg, ⟨fun b o e n hb hx => ?_, fun b o e n hb hx => ?_, fun b o e n hx => ?_, fun b o e hx => ?_, fun b xs e => tups b xs (I.base.tups b xs e), fun b o xs e => frzs b o xs (I.base.frzs b o xs e), fun b ps e => ?_⟩, ?_, fun x c e => ?_, ?_, fun x c e => ?_, fun p hp => ?_, hok, I.len⟩
  · exact keep b o (neL b o e) hb (neC b o e hx) (I.base.keep b o e n hb hx) (I.base.free b o e n hx)
  · obtain ⟨sl, e1⟩ := I.base.slot b o e n hb hx
    obtain ⟨sl', e2⟩ := slot b _ (neL b o e) hb (neC b o e hx) e1 (I.base.free b o e n hx)
    exact ⟨sl', e2⟩
  · obtain ⟨o', e1⟩ := I.base.there b o e hx
    exact free b o' (neC b o e hx) e1 (I.base.free b o e n hx)
  · obtain ⟨o', e1⟩ := I.base.there b o e hx
    exact there b o' (neC b o e hx) e1
  · obtain ⟨m1, e1⟩ := I.base.tbls b ps e
    obtain ⟨m2, e2⟩ := tbls b _ e1
    exact ⟨m1 ++ m2, by rw [e2, Array.append_assoc]⟩
  · obtain ⟨m, hn, hl⟩ := I.loc
    refine ⟨m, ns m hn, fun i x v e1 e2 e3 => ?_⟩
    obtain ⟨u, r, l⟩ := hl i x v e1 e2 e3
    refine ⟨u, r, ?_⟩
    rcases l with l | ⟨k, c, e, z⟩
    · exact .inl l
    · exact .inr ⟨k, c, e, cellK x c e _ z⟩
  · obtain ⟨v, z⟩ := I.cell x c e
    exact ⟨v, cellK x c e v z⟩
  · obtain ⟨m, ⟨o, _, _, ho, _⟩, _⟩ := I.loc
    exact free _ o (fun z => (hch _ z).2.1 rfl) ho I.free
  · obtain ⟨v, o, ho, hd⟩ := I.cell x c e
    exact free c o (fun z => (hch c z).2.2.1 x c e rfl) ho (I.freeC x c e)
  · obtain ⟨e, n, ne, nf, d⟩ := I.pin p hp
    have nch : p.1 ∉ ch := fun z => (hch p.1 z).2.2.2 p hp rfl
    exact ⟨keep p.1 p.2 ne nf nch e n, free p.1 p.2 nch e n, ne, nf, d⟩
theorem Inv.un {t' : Nat} (I : Inv X pins σ H s) (u : Un X.fs [] H H' s.heap h') (hok : HOk X.prog X.w H' h') : Inv X pins σ H' { s with heap := h', toks := t' } := by
  obtain ⟨m, ⟨o, es, ep, ho, r⟩, _⟩ := id I.loc
  obtain ⟨sl, hL⟩ := u.any ho I.free (by simp)
  exact I.step (g' := s.gens) (d' := s.drawn) (ch := []) (fun _ z => nomatch z) (fun b o _ hb _ e n => u.keep b o e n hb (by simp)) (fun b o _ hb _ e n => u.slot b o e n hb (by simp)) (fun b o _ e n => u.free b o e n (by simp)) (fun b o _ e => u.there b o e (by simp)) u.tups u.frzs u.tbls (fun m' hm => by
    obtain ⟨o', es', ep', ho', r'⟩ := hm
    rw [ho] at ho'; cases ho'
    exact ⟨_, es', ep', hL, r'⟩) hok I.bare
theorem Inv.call {g' : Array GenState} {t' : Nat} {d' : Drawn} {ch : List Addr} (I : Inv X pins σ H s) (u : Un (frs X.stack) ch H H' s.heap h') (hok : HOk X.prog X.w H' h') (hg : AllBare g')
    (hch : ∀ b ∈ ch, (b ∈ X.ex ∨ X.s₀.heap.objs.size ≤ b) ∧ b ≠ X.env.locals ∧ (∀ x c, X.env.cells.lookup x = some c → c ≠ b) ∧ ∀ p ∈ X.pn ++ pins, p.1 ≠ b) :
    Inv X pins σ H' { s with heap := h', gens := g', drawn := d', toks := t' } := by
  obtain ⟨m, ⟨o, es, ep, ho, r⟩, _⟩ := id I.loc
  obtain ⟨sl, hL⟩ := u.any ho I.free fun z => (hch _ z).2.1 rfl
  exact I.step (ch := ch) hch (fun b o hL hb hc e n => u.keep b o e n (fun z => (List.mem_cons.mp (I.stkSub b z)).elim hL hb) hc) (fun b o _ _ hc e n => u.any e n hc) (fun b o hc e n => u.free b o e n hc) (fun b o hc e => u.there b o e hc) u.tups u.frzs u.tbls (fun m' hm => by
    obtain ⟨o', es', ep', ho', r'⟩ := hm
    rw [ho] at ho'; cases ho'
    exact ⟨_, es', ep', hL, r'⟩) hok hg
theorem Inv.turned {t' : Nat} {it : Addr} (I : Inv X pins σ H s) (k : ∀ b o, b ≠ it → s.heap.get? b = some o → h'.get? b = some o) (hn : H it = none) (hL : it ≠ X.env.locals)
    (h1 : it ∈ X.ex ∨ X.s₀.heap.objs.size ≤ it) (h2 : ∀ x c, X.env.cells.lookup x = some c → c ≠ it) (h3 : ∀ p ∈ X.pn ++ pins, p.1 ≠ it) : Inv X pins σ H { s with heap := h', toks := t' } := by
  have nit : ∀ b u, H b = some u → b ≠ it := fun b u e z => by rw [z, hn] at e; cases e
  refine I.step (g' := s.gens) (d' := s.drawn) (ch := [it]) (fun b hb => ?_) (fun b o _ _ hc e _ => k b o (fun z => hc (by simp [z])) e) (fun b o _ _ hc e _ => ⟨o.slots, k b o (fun z => hc (by simp [z])) e⟩) (fun _ _ _ _ n => n)
    (fun b o hc e => ⟨o, k b o (fun z => hc (by simp [z])) e⟩) (fun _ _ e => e) (fun _ _ _ e => e) (fun b ps e => ⟨#[], by rw [e]; simp⟩) (fun m hm => ?_) (fun b u e => ?_) I.bare
  · have e : b = it := by simpa using hb
    subst e
    exact ⟨h1, hL, h2, h3⟩
  · obtain ⟨o, es, ep, ho, r⟩ := hm
    exact ⟨o, es, ep, k _ o (Ne.symm hL) ho, r⟩
  · refine (I.hok b u e).stay (fun c v hc q => k c v ?_ q) (fun _ q => q) fun _ _ q => q
    rcases hc with z | z
    · rw [z]; exact nit b u e
    · exact nit c _ z
theorem Inv.tok (I : Inv X pins σ H s) (t : Nat) : Inv X pins σ H { s with toks := t } := I.un (h' := s.heap) (t' := t) Un.refl I.hok
theorem Inv.kept {t' : Nat} (I : Inv X pins σ H s) (k : ∀ b u, s.heap.get? b = some u → h'.get? b = some u) : Inv X pins σ H { s with heap := h', toks := t' } := I.un (Un.kept k) (I.hok.kept k)
theorem Inv.laid {a : Addr} {o : HO} {t' : Nat} (I : Inv X pins σ H s) (k : ∀ b u, s.heap.get? b = some u → h'.get? b = some u) (hp : s.heap.objs.size ≤ a) (new : ObjOk X.prog X.w (upd H a o) h' a o) :
    Inv X pins σ (upd H a o) { s with heap := h', toks := t' } := I.un (Un.laid k hp (I.hok.fresh hp)) (I.hok.laid k hp new)
theorem Inv.write {x e : Addr} {o : HO} {t' : Nat} (I : Inv X pins σ H s) (mu : Mut (H x)) (he : e = x ∨ H e = some (.own x)) (k : ∀ b u, b ≠ e → s.heap.get? b = some u → h'.get? b = some u) (heo : ∃ u, h'.get? e = some u)
    (new : ObjOk X.prog X.w (upd H x o) h' x o) : Inv X pins σ (upd H x o) { s with heap := h', toks := t' } := I.un (Un.write mu he k heo) (I.hok.write mu he k heo new)
theorem Inv.pins_of {pins' : List (Addr × Obj)} (I : Inv X pins σ H s) (h : ∀ p ∈ pins', s.heap.get? p.1 = some p.2 ∧ H p.1 = none ∧ p.1 ≠ X.env.locals ∧ p.1 ∉ X.fs ∧ ∀ v, p.2.data ≠ .cell v) : Inv X pins' σ H s :=
  ⟨I.ok, I.os, I.bare, I.base, I.loc, I.cell, I.free, I.freeC, fun p hp => (List.mem_append.mp hp).elim (fun z => I.pin p (List.mem_append_left _ z)) (h p), I.hok, I.len⟩
theorem nodup_ix {N : List Str} (hN : N.Nodup) {i j : Nat} {x : Str} (a : N[i]? = some x) (b : N[j]? = some x) : i = j := by
  obtain ⟨h1, e1⟩ := List.getElem?_eq_some_iff.mp a
  obtain ⟨h2, e2⟩ := List.getElem?_eq_some_iff.mp b
  exact (List.getElem_inj hN).mp (e1.trans e2.symm)
theorem store_ok2 {M : Model} {A : Around} {E : Value → Shared → Prop} {i : Nat} {x : Str} {v : V} {u : Value} {Q : Unit → Shared → Prop} (I : Inv X pins σ H s) (hN : X.N.Nodup) (hi : X.N[i]? = some x) (hx : Loc X.env.scope x) (r : RelV v u)
    (h : ∀ s', Inv X pins (σ.set i (some v)) H s' → (∃ a, Heap.SameBut a s.heap s'.heap ∧ (a = X.env.locals ∨ X.env.cells.lookup x = some a)) → Q () s') (hf : X.fn x = true ∨ X.env.scope.names.lookup x = some .local := by first | exact .inl rfl | exact .inr rfl | assumption) : wpAny M A (storeName X.env x u) Q E s := by
  obtain ⟨m, hn, hl⟩ := id I.loc
  have hcls : (X.env.scope.kind == .class || (X.env.scope.kind == .module && X.env.locals != X.env.globals)) = false := by rw [I.ok.kind]; rfl
  have hiσ : i < σ.length := by rw [I.len]; exact (List.getElem?_eq_some_iff.mp hi).1
  have cne := I.cne
  have tracked : ∀ {a : Addr} {h' : Heap}, (∃ o, s.heap.get? a = some o ∧ H a = none) → Heap.SameBut a s.heap h' → HOk X.prog X.w H h' := fun {a h'} ha hs b ob e => by
    obtain ⟨_, _, hfree⟩ := ha
    refine (I.hok b ob e).stay (fun c w' hc q => (hs.2 c ?_).trans q) (fun _ q => q) fun _ _ q => q
    rintro rfl
    rcases hc with rfl | hc
    · rw [hfree] at e; cases e
    · rw [hfree] at hc; cases hc
  rcases hx with hk | hk
  · refine wpAny_storeName_local hk hn (fun h' hn' hs => ?_) hcls
    obtain ⟨oL, _, _, hoL, _⟩ := id hn
    refine h _ ⟨I.ok, I.os, I.bare, ⟨fun b o e n hb hx => ?_, fun b o e n hb hx => ?_, I.base.free, fun b o e hx => ?_, I.base.tups, I.base.frzs, I.base.tbls⟩, ⟨_, hn', fun j y v' e1 e2 e3 => ?_⟩, fun y c e => ?_, I.free, I.freeC, fun p hp => ?_, tracked ⟨oL, hoL, I.free⟩ hs, by simpa using I.len⟩ ⟨_, hs, .inl rfl⟩
    · exact (hs.2 b (Nat.ne_of_lt (Nat.lt_of_lt_of_le (Heap.lt_size e) I.ok.above))).trans (I.base.keep b o e n hb hx)
    · obtain ⟨sl, e1⟩ := I.base.slot b o e n hb hx
      exact ⟨sl, (hs.2 b (Nat.ne_of_lt (Nat.lt_of_lt_of_le (Heap.lt_size e) I.ok.above))).trans e1⟩
    · obtain ⟨o', e1⟩ := I.base.there b o e hx
      exact ⟨o', (hs.2 b (Nat.ne_of_lt (Nat.lt_of_lt_of_le (Heap.lt_size e) I.ok.above))).trans e1⟩
    · by_cases hj : j = i
      · subst hj
        rw [hi] at e1; cases e1
        rw [List.getElem?_set_self hiσ] at e2
        cases e2
        exact ⟨u, r, .inl ⟨hk, by simp⟩⟩
      · rw [List.getElem?_set_ne (Ne.symm hj)] at e2
        obtain ⟨u', r', q⟩ := hl j y v' e1 e2 e3
        refine ⟨u', r', ?_⟩
        rcases q with ⟨k, e⟩ | ⟨k, c, e, z⟩
        · refine .inl ⟨k, ?_⟩
          have : y ≠ x := fun e => hj (nodup_ix hN e1 (e ▸ hi))
          simp [this, e]
        · exact .inr ⟨k, c, e, z.sameBut hs (cne y c e)⟩
    · obtain ⟨w', z⟩ := I.cell y c e
      exact ⟨w', z.sameBut hs (cne y c e)⟩
    · obtain ⟨e, n, ne, nf, d⟩ := I.pin p hp
      exact ⟨(hs.2 p.1 ne).trans e, n, ne, nf, d⟩
  · have hfn : X.fn x = true := by
      rcases hf with z | z
      · exact z
      · rw [z] at hk; cases hk
    obtain ⟨c, hc⟩ := I.ok.has x (.inl hk)
    obtain ⟨w', z⟩ := I.cell x c hc
    refine wpAny_storeName_cell I.ok.kind hk hc z (fun h' hc' hs => ?_)
    obtain ⟨oc, hoc, hocd⟩ := id z
    refine h { s with heap := h' } ⟨I.ok, I.os, I.bare, ⟨fun b o e n hb hx => ?_, fun b o e n hb hx => ?_, I.base.free, fun b o e hx => ?_, I.base.tups, I.base.frzs, I.base.tbls⟩, ⟨m, hn.sameBut hs (Ne.symm (cne x c hc)), fun j y v' e1 e2 e3 => ?_⟩, fun y c' e => ?_, I.free, I.freeC, fun p hp => ?_, tracked ⟨oc, hoc, I.freeC x c hc⟩ hs, by simpa using I.len⟩ ⟨c, hs, .inr hc⟩
    · exact (hs.2 b (Nat.ne_of_lt (Nat.lt_of_lt_of_le (Heap.lt_size e) (I.ok.cab x c hfn hc)))).trans (I.base.keep b o e n hb hx)
    · obtain ⟨sl, e1⟩ := I.base.slot b o e n hb hx
      exact ⟨sl, (hs.2 b (Nat.ne_of_lt (Nat.lt_of_lt_of_le (Heap.lt_size e) (I.ok.cab x c hfn hc)))).trans e1⟩
    · obtain ⟨o', e1⟩ := I.base.there b o e hx
      exact ⟨o', (hs.2 b (Nat.ne_of_lt (Nat.lt_of_lt_of_le (Heap.lt_size e) (I.ok.cab x c hfn hc)))).trans e1⟩
    · by_cases hj : j = i
      · subst hj
        rw [hi] at e1; cases e1
        rw [List.getElem?_set_self hiσ] at e2
        cases e2
        exact ⟨u, r, .inr ⟨.inl hk, c, hc, hc'⟩⟩
      · rw [List.getElem?_set_ne (Ne.symm hj)] at e2
        obtain ⟨u', r', q⟩ := hl j y v' e1 e2 e3
        refine ⟨u', r', ?_⟩
        rcases q with q | ⟨k, c', e, z'⟩
        · exact .inl q
        · refine .inr ⟨k, c', e, z'.sameBut hs ?_⟩
          rintro rfl
          exact hj (nodup_ix hN e1 (I.ok.inj _ _ _ e hc ▸ hi))
    · by_cases hcc : c' = c
      · subst hcc; exact ⟨_, hc'⟩
      · obtain ⟨w2, z2⟩ := I.cell y c' e
        exact ⟨w2, z2.sameBut hs hcc⟩
    · obtain ⟨e, n, ne, nf, d⟩ := I.pin p hp
      refine ⟨(hs.2 p.1 ?_).trans e, n, ne, nf, d⟩
      intro q
      rw [q, hoc] at e
      have q' : oc = p.2 := Option.some.inj e
      exact d w' (by rw [← q']; exact hocd)
theorem store_ok {M : Model} {A : Around} {E : Value → Shared → Prop} {i : Nat} {x : Str} {v : V} {u : Value} {Q : Unit → Shared → Prop} (I : Inv X pins σ H s) (hN : X.N.Nodup) (hi : X.N[i]? = some x) (hx : Loc X.env.scope x) (r : RelV v u)
    (h : ∀ s', Inv X pins (σ.set i (some v)) H s' → Q () s') (hf : X.fn x = true ∨ X.env.scope.names.lookup x = some .local := by first | exact .inl rfl | exact .inr rfl | assumption) : wpAny M A (storeName X.env x u) Q E s :=
  store_ok2 I hN hi hx r (fun s' I' _ => h s' I') hf
theorem Inv.call' {s' : Shared} {ch : List Addr} (I : Inv X pins σ H s) (ho : s'.os = s.os) (u : Un (frs X.stack) ch H H' s.heap s'.heap) (hok : HOk X.prog X.w H' s'.heap) (hg : AllBare s'.gens)
    (hch : ∀ b ∈ ch, (b ∈ X.ex ∨ X.s₀.heap.objs.size ≤ b) ∧ b ≠ X.env.locals ∧ (∀ x c, X.env.cells.lookup x = some c → c ≠ b) ∧ ∀ p ∈ X.pn ++ pins, p.1 ≠ b) : Inv X pins σ H' s' := by
  obtain ⟨h', g', d', t', o'⟩ := s'
  have e : o' = s.os := ho
  subst e
  exact I.call (g' := g') (t' := t') (d' := d') u hok hg hch
end
abbrev XK := Value → Option Addr → Hp → Prop
abbrev St := List (Option V)
abbrev VK := V → Hp → Prop
abbrev TE := St → Hp → VK → Prop
abbrev TT := St → Hp → (Bool → Hp → Prop) → Prop
abbrev TA := St → Hp → (List V → Hp → Prop) → Prop
structure Ends where
  nx : St → Hp → Prop
  rt : VK
  bk : St → Hp → Prop := fun _ _ => False
  ct : St → Hp → Prop := fun _ _ => False
abbrev TS := Ends → St → Hp → Prop
def EP (X : Cx) (pins : List (Addr × Obj)) (σ : St) (Q : VK) (u : Value) (s' : Shared) : Prop := ∃ v H', Inv X pins σ H' s' ∧ RelV v u ∧ Q v H'
def TP (X : Cx) (pins : List (Addr × Obj)) (σ : St) (Q : Bool → Hp → Prop) (b : Bool) (s' : Shared) : Prop := ∃ H', Inv X pins σ H' s' ∧ Q b H'
def AP (X : Cx) (pins : List (Addr × Obj)) (σ : St) (Q : List V → Hp → Prop) (us : List Value) (s' : Shared) : Prop := ∃ vs H', Inv X pins σ H' s' ∧ Vals vs us ∧ Q vs H'
def SP (X : Cx) (pins : List (Addr × Obj)) (D : Ends) (f : Flow) (s' : Shared) : Prop :=
  match f with
  | .next => ∃ σ' H', Inv X pins σ' H' s' ∧ D.nx σ' H'
  | .brk => ∃ σ' H', Inv X pins σ' H' s' ∧ D.bk σ' H'
  | .cont => ∃ σ' H', Inv X pins σ' H' s' ∧ D.ct σ' H'
  | .ret u => ∃ v σ' H', Inv X pins σ' H' s' ∧ RelV v u ∧ D.rt v H'
def PE (X : Cx) (e : Expr) (t : TE) : Prop :=
  ∀ (pins : List (Addr × Obj)) (s : Shared) (σ : St) (H : Hp) (Q : VK), Inv X pins σ H s → t σ H Q → wpAny (model X.prog X.w) X.A (eval e X.env) (EP X pins σ Q) X.xe s
def PT (X : Cx) (e : Expr) (t : TT) : Prop :=
  ∀ (pins : List (Addr × Obj)) (s : Shared) (σ : St) (H : Hp) (Q : Bool → Hp → Prop), Inv X pins σ H s → t σ H Q → wpAny (model X.prog X.w) X.A (isTrue e X.env (eval e X.env)) (TP X pins σ Q) X.xe s
def PW (X : Cx) (e : Expr) (t : TT) : Prop :=
  ∀ (whole : Sem Value) (pins : List (Addr × Obj)) (s : Shared) (σ : St) (H : Hp) (Q : Bool → Hp → Prop), Inv X pins σ H s → t σ H Q → wpAny (model X.prog X.w) X.A (isTrue e X.env whole) (TP X pins σ Q) X.xe s
theorem PW.pt {X : Cx} {e : Expr} {t : TT} (h : PW X e t) : PT X e t := h _
def PA (X : Cx) (es : List Expr) (t : TA) : Prop :=
  ∀ (pos : Pos) (pins : List (Addr × Obj)) (s : Shared) (σ : St) (H : Hp) (Q : List V → Hp → Prop), Inv X pins σ H s → t σ H Q → wpAny (model X.prog X.w) X.A (spliced (backTo pos (starEach es X.env))) (AP X pins σ Q) X.xe s
def PS (X : Cx) (st : Stmt) (t : TS) : Prop :=
  ∀ (pins : List (Addr × Obj)) (s : Shared) (σ : St) (H : Hp) (D : Ends), Inv X pins σ H s → t D σ H → wpAny (model X.prog X.w) X.A (exec st X.env) (SP X pins D) X.xe s
def PSs (X : Cx) (st : List Stmt) (t : TS) : Prop :=
  ∀ (pins : List (Addr × Obj)) (s : Shared) (σ : St) (H : Hp) (D : Ends), Inv X pins σ H s → t D σ H → wpAny (model X.prog X.w) X.A (execs st X.env) (SP X pins D) X.xe s
theorem thn {α : Type} {t : Sem α} {Q Q' : α → Shared → Prop} {M : Model} {A : Around} {E : Value → Shared → Prop} {s : Shared} (h : wpAny M A t Q E s) (hQ : ∀ a s, Q a s → Q' a s) : wpAny M A t Q' E s := wpAny_mono h hQ fun _ _ x => x
end L2
namespace L2
open PySem PySem.Spec PyProof.Rows
section
variable {X : Cx}
def tVar (i : Nat) : TE := fun σ H Q => ∃ v, σ[i]? = some (some v) ∧ Q v H
def tC (v : V) : TE := fun _ H Q => Q v H
theorem pe_var {i : Nat} {x : Str} {pos : Pos} (hN : X.N[i]? = some x) (hv : Vis X.env.scope x) (hd : (x == ("__debug__" : Str)) = false := by decide) (hcd : (x == ("__classdict__" : Str)) = false := by decide) : PE X (.Name x pos) (tVar i) := by
  intro pins s σ H Q I h
  obtain ⟨v, e, h⟩ := h
  obtain ⟨m, hn, hl⟩ := I.loc
  obtain ⟨u, r, l⟩ := hl i x v hN e hv
  have fin : EP X pins σ Q u s := ⟨v, H, I, r, h⟩
  rcases l with ⟨hk, hm⟩ | ⟨hk, c, hc, hcell⟩
  · exact wpAny_Name (wpAny_loadName_local I.ok.kind hk hn hm fin) hd
  · rcases hk with hk | hk
    · exact wpAny_Name (wpAny_loadName_cell I.ok.kind hk hc hcell fin) hd
    · exact wpAny_Name (wpAny_loadName_free I.ok.kind hk hc hcell fin hcd) hd
theorem pe_int {i j pos} : PE X (.Constant (.int i) j pos) (tC (.int i)) := fun _ _ _ H _ I h => wpAny_Constant_int ⟨.int i, H, I.tok _, ⟨_, rfl⟩, h⟩
theorem pe_bl {b j pos} : PE X (.Constant (.bool b) j pos) (tC (.bl b)) := fun _ _ _ H _ I h => Constant_bool ⟨.bl b, H, I, rfl, h⟩
theorem pe_non {j pos} : PE X (.Constant .none j pos) (tC .non) := fun _ _ _ H _ I h => Constant_none ⟨.non, H, I, rfl, h⟩
theorem pe_str {x j pos} : PE X (.Constant (.str x) j pos) (tC (.str x)) := fun _ _ _ H _ I h => Calls.Constant_str ⟨.str x, H, I.tok _, ⟨_, rfl⟩, h⟩
def Gl (X : Cx) (x : Str) : Prop := X.env.kindOf x = some .globalImplicit
theorem ld_glob {E : Value → Shared → Prop} {pins : List (Addr × Obj)} {s : Shared} {σ : St} {H : Hp} {x : Str} {u : Value} {pos : Pos} {Q : Value → Shared → Prop} (I : Inv X pins σ H s) (hg : Gl X x) (hm : X.mg x = some u) (h : Q u s)
    (hd : (x == ("__debug__" : Str)) = false := by decide) : wpAny (model X.prog X.w) X.A (eval (.Name x pos) X.env) Q E s :=
  Calls.Name_function_global I.ok.kind hg (Calls.loadGlobal_global (by rw [I.ok.glob]; exact I.mod.glob.keeps I.bk) hm h) hd
theorem ld_blt {E : Value → Shared → Prop} {pins : List (Addr × Obj)} {s : Shared} {σ : St} {H : Hp} {x : Str} {u : Value} {pos : Pos} {Q : Value → Shared → Prop} (I : Inv X pins σ H s) (hg : Gl X x) (hm : X.mg x = none) (hv : bootBuiltins x = some u) (h : Q u s)
    (hn : x ≠ "__name__" := by decide) (hd : (x == ("__debug__" : Str)) = false := by decide) : wpAny (model X.prog X.w) X.A (eval (.Name x pos) X.env) Q E s := by
  obtain ⟨mb, h1, h2⟩ := I.mod.blt
  exact Calls.Name_function_global I.ok.kind hg (Calls.loadGlobal_builtin (by rw [I.ok.glob]; exact I.mod.glob.keeps I.bk) hm (by rw [I.ok.blt]; exact h1.keeps I.bk) ((h2 x hn).trans hv) h) hd
theorem pe_glob {x : Str} {v : V} {u : Value} {pos : Pos} (hg : Gl X x) (hm : X.mg x = some u) (r : RelV v u) (hd : (x == ("__debug__" : Str)) = false := by decide) : PE X (.Name x pos) (tC v) :=
  fun _ _ _ H _ I h => ld_glob I hg hm ⟨v, H, I, r, h⟩ hd
theorem pe_bltn {x : Str} {v : V} {u : Value} {pos : Pos} (hg : Gl X x) (hm : X.mg x = none) (hv : bootBuiltins x = some u) (r : RelV v u) (hn : x ≠ "__name__" := by decide) (hd : (x == ("__debug__" : Str)) = false := by decide) : PE X (.Name x pos) (tC v) :=
  fun _ _ _ H _ I h => ld_blt I hg hm hv ⟨v, H, I, r, h⟩ hn hd
variable {a b : Expr} {ta tb : TE} {pos : Pos}
def tB (t : TE) : TT := fun σ H Q => t σ H fun x H1 => ∃ c, x = .bl c ∧ Q c H1
theorem pt_val {e : Expr} {t : TE} (h : PE X e t) (he : ∀ whole, isTrue e X.env whole = (do let v ← whole; standAt e.pos; holding [v] (truthy v)) := by intro _; rfl) : PT X e (tB t) := by
  intro pins s σ H Q I hw
  refine isTrue_plain (thn (h pins s σ H _ I hw) fun v s1 ⟨x, H1, I1, r1, q1⟩ => ?_) (he _)
  obtain ⟨d, rfl, q⟩ := q1
  cases r1
  exact wpAny_truthy_bool ⟨H1, I1, q⟩
variable {tA tB' : TT} {rest : List Expr}
def tAnd (t u : TT) : TT := fun σ H Q => t σ H fun c H1 => if c = true then u σ H1 Q else Q false H1
def tOr (t u : TT) : TT := fun σ H Q => t σ H fun c H1 => if c = true then Q true H1 else u σ H1 Q
def tNot (t : TT) : TT := fun σ H Q => t σ H fun c H1 => Q (!c) H1
theorem pw_and1 (ha : PT X a tA) : PW X (.BoolOp .And [a] pos) tA := by
  intro wh pins s σ H Q I h
  refine isTrue_and (thn (ha pins s σ H Q I h) fun c s1 e => ?_)
  cases c with
  | true => exact isTrue_and_nil e
  | false => exact e
theorem pw_or1 (ha : PT X a tA) : PW X (.BoolOp .Or [a] pos) tA := by
  intro wh pins s σ H Q I h
  refine isTrue_or (thn (ha pins s σ H Q I h) fun c s1 e => ?_)
  cases c with
  | false => exact isTrue_or_nil e
  | true => exact e
theorem pw_and (ha : PT X a tA) (hb : PW X (.BoolOp .And (b :: rest) pos) tB') : PW X (.BoolOp .And (a :: b :: rest) pos) (tAnd tA tB') := by
  intro wh pins s σ H Q I h
  refine isTrue_and (thn (ha pins s σ H _ I h) fun c s1 ⟨H1, I1, q1⟩ => ?_)
  cases c with
  | true => exact hb wh pins s1 σ H1 Q I1 q1
  | false => exact ⟨H1, I1, q1⟩
theorem pw_or (ha : PT X a tA) (hb : PW X (.BoolOp .Or (b :: rest) pos) tB') : PW X (.BoolOp .Or (a :: b :: rest) pos) (tOr tA tB') := by
  intro wh pins s σ H Q I h
  refine isTrue_or (thn (ha pins s σ H _ I h) fun c s1 ⟨H1, I1, q1⟩ => ?_)
  cases c with
  | true => exact ⟨H1, I1, q1⟩
  | false => exact hb wh pins s1 σ H1 Q I1 q1
theorem pt_not (ha : PT X a tA) : PT X (.UnaryOp .Not a pos) (tNot tA) := by
  intro pins s σ H Q I h
  exact isTrue_not (ha pins s σ H (fun c H1 => Q (!c) H1) I h)
def tAndV (ta tb : TE) : TE := fun σ H Q => ta σ H fun x H1 => ∃ c, x = .bl c ∧ if c = true then tb σ H1 Q else Q (.bl false) H1
def tNotV (ta : TE) : TE := fun σ H Q => ta σ H fun x H1 => ∃ c, x = .bl c ∧ Q (.bl (!c)) H1
theorem pe_one {op} {t : TE} (h : PE X a t) : PE X (.BoolOp op [a] pos) t := fun pins s σ H Q I hw => BoolOp_one (h pins s σ H Q I hw)
theorem pe_and (ha : PE X a ta) (hb : PE X (.BoolOp .And (b :: rest) pos) tb) : PE X (.BoolOp .And (a :: b :: rest) pos) (tAndV ta tb) := by
  intro pins s σ H Q I h
  refine BoolOp_and (thn (ha pins s σ H _ I h) fun v s1 ⟨x, H1, I1, r1, q1⟩ => ?_)
  obtain ⟨c, rfl, q1⟩ := q1
  cases r1
  refine wpAny_truthy_bool ?_
  cases c with
  | true => exact hb pins s1 σ H1 Q I1 q1
  | false => exact ⟨.bl false, H1, I1, rfl, q1⟩
theorem pe_not (ha : PE X a ta) : PE X (.UnaryOp .Not a pos) (tNotV ta) := by
  intro pins s σ H Q I h
  refine UnaryOp_ (thn (ha pins s σ H _ I h) fun v s1 ⟨x, H1, I1, r1, q1⟩ => ?_)
  obtain ⟨c, rfl, q1⟩ := q1
  cases r1
  exact not_of (wpAny_truthy_bool ⟨.bl (!c), H1, I1, rfl, q1⟩)
end
end L2
namespace L2
open PySem PySem.Spec PyProof.Rows
def SqL (K : PySem.W.Frag) (H : Hp) (a : Addr) (xs : List V) : Prop :=
  Rd H a (.lst xs) ∨
    ∃ (o : Obj) (its : Array Value) (n : Nat), K.lookup a = some o ∧ o.cls = .type "list" ∧ o.dict = none ∧ o.data = .seq its n ∧ its.size ≤ sizeLine ∧ Vals xs its.toList
def SqT (K : PySem.W.Frag) (H : Hp) (a : Addr) (xs : List V) : Prop :=
  Rd H a (.tup xs) ∨
    ∃ (o : Obj) (its : Array Value) (n : Nat), K.lookup a = some o ∧ o.cls = .type "tuple" ∧ o.data = .seq its n ∧ its.size ≤ sizeLine ∧ Vals xs its.toList
def absV : Value → Option V
  | .none => some .non
  | .bool b => some (.bl b)
  | .int i _ => some (.int i)
  | .str x _ => some (.str x)
  | .bytes b _ => some (.byt b)
  | .float b _ => some (.flt b)
  | .ref a => some (.ref a)
  | .type n => some (.ty n)
  | _ => none
theorem RelV.abs {x : V} {u : Value} (r : RelV x u) : absV u = some x := by
  cases x with
  | non => cases r; rfl
  | bl _ => cases r; rfl
  | int _ => obtain ⟨t, rfl⟩ := r; rfl
  | str _ => obtain ⟨t, rfl⟩ := r; rfl
  | byt _ => obtain ⟨t, rfl⟩ := r; rfl
  | flt _ => obtain ⟨t, rfl⟩ := r; rfl
  | ref _ => cases r; rfl
  | ty _ => cases r; rfl
theorem RelV.inj {x y : V} {u : Value} (r : RelV x u) (q : RelV y u) : x = y := Option.some.inj (r.abs.symm.trans q.abs)
theorem Vals.inj : ∀ {xs ys : List V} {us : List Value}, Vals xs us → Vals ys us → xs = ys
  | _, _, _, .nil, .nil => rfl
  | _, _, _, .cons r t, .cons r' t' => by rw [r.inj r', Vals.inj t t']
section
variable {X : Cx} {pins : List (Addr × Obj)} {σ : St} {H : Hp} {s : Shared} {a : Addr} {xs ys : List V}
theorem SqL.of {K : PySem.W.Frag} (h : H a = some (.lst xs)) : SqL K H a xs := .inl (.inl h)
theorem SqT.of {K : PySem.W.Frag} (h : H a = some (.tup xs)) : SqT K H a xs := .inl (.inl h)
theorem Inv.list (I : Inv X pins σ H s) (h : SqL X.K H a xs) : ∃ its : List Value, Vals xs its ∧ PlainL s.heap a its.toArray ∧ xs.length ≤ sizeLine := by
  rcases h with h | ⟨o, its, n, hk, hc, hd, hs, hz, r⟩
  · obtain ⟨z, its, n, r, e⟩ := h.ok I.hok
    exact ⟨its, r, ⟨_, n, e, rfl, rfl, rfl⟩, z⟩
  · refine ⟨its.toList, r, ⟨o, n, I.kIn a o hk, hc, hd, by simpa using hs⟩, ?_⟩
    have e := r.length
    simp only [Array.length_toList] at e
    omega
theorem Inv.tuple (I : Inv X pins σ H s) (h : SqT X.K H a xs) : ∃ its : List Value, Vals xs its ∧ IsTup s.heap a its.toArray ∧ xs.length ≤ sizeLine := by
  rcases h with h | ⟨o, its, n, hk, hc, hs, hz, r⟩
  · obtain ⟨z, its, r, p⟩ := h.ok I.hok
    exact ⟨its, r, p, z⟩
  · refine ⟨its.toList, r, ⟨o, I.kIn a o hk, hc, n, by simpa using hs⟩, ?_⟩
    have e := r.length
    simp only [Array.length_toList] at e
    omega
theorem Inv.list_inj (I : Inv X pins σ H s) (h : SqL X.K H a xs) (h' : SqL X.K H a ys) : xs = ys := by
  obtain ⟨its, r, ⟨o, n, e, _, _, d⟩, _⟩ := I.list h
  obtain ⟨its', r', ⟨o', n', e', _, _, d'⟩, _⟩ := I.list h'
  rw [e] at e'; cases e'
  rw [d] at d'
  injection d' with d1 _
  have : its = its' := by simpa using congrArg Array.toList d1
  subst this
  exact r.inj r'
end
abbrev Cx.wish (X : Cx) (E : Value → Shared → Prop) : Cx := { X with xe := E }
abbrev Cx.nox (X : Cx) : Cx := X.wish fun _ _ => False
theorem Cx.Ok.wish {X : Cx} (ok : X.Ok) (E : Value → Shared → Prop) : (X.wish E).Ok :=
  ⟨ok.mod, ok.kind, ok.glob, ok.blt, ok.above, ok.inj, ok.has, ok.cab, ok.hd, ok.frames, ok.stk, ok.exf, ok.bs, ok.bsz, ok.noex, ok.exfs, ok.funs, ok.frf⟩
theorem Cx.Ok.unwish {X : Cx} {E : Value → Shared → Prop} (ok : (X.wish E).Ok) : X.Ok :=
  ⟨ok.mod, ok.kind, ok.glob, ok.blt, ok.above, ok.inj, ok.has, ok.cab, ok.hd, ok.frames, ok.stk, ok.exf, ok.bs, ok.bsz, ok.noex, ok.exfs, ok.funs, ok.frf⟩
section
variable {X : Cx} {pins : List (Addr × Obj)} {σ : St} {H : Hp} {s : Shared} {E : Value → Shared → Prop}
theorem Inv.wish (I : Inv X pins σ H s) (E : Value → Shared → Prop) : Inv (X.wish E) pins σ H s := ⟨I.ok.wish E, I.os, I.bare, I.base, I.loc, I.cell, I.free, I.freeC, I.pin, I.hok, I.len⟩
theorem Inv.unwish (I : Inv (X.wish E) pins σ H s) : Inv X pins σ H s := ⟨I.ok.unwish, I.os, I.bare, I.base, I.loc, I.cell, I.free, I.freeC, I.pin, I.hok, I.len⟩
theorem SP.unwish {D : Ends} {f : Flow} {s' : Shared} (h : SP (X.wish E) pins D f s') : SP X pins D f s' := by
  cases f with
  | next => obtain ⟨σ', H', I, q⟩ := h; exact ⟨σ', H', I.unwish, q⟩
  | brk => obtain ⟨σ', H', I, q⟩ := h; exact ⟨σ', H', I.unwish, q⟩
  | cont => obtain ⟨σ', H', I, q⟩ := h; exact ⟨σ', H', I.unwish, q⟩
  | ret u => obtain ⟨v, σ', H', I, r, q⟩ := h; exact ⟨v, σ', H', I.unwish, r, q⟩
theorem PSs.nox {st : List Stmt} {t : TS} (h : PSs X.nox st t) : PSs X st t := fun pins s σ H D I hw =>
  wpAny_mono (h pins s σ H D (I.wish _) hw) (fun _ _ q => q.unwish) fun _ _ z => False.elim z
end
section
variable {X : Cx} {st : Stmt} {rest : List Stmt} {t u : TS} {e : Expr} {te : TE} {pos : Pos}
def tNext : TS := fun D σ H => D.nx σ H
def tSeq (t u : TS) : TS := fun D σ H => t { D with nx := u D } σ H
theorem pss_nil : PSs X [] tNext := fun _ _ σ H _ I h => wpAny_execs_nil ⟨σ, H, I, h⟩
theorem pss_cons (h1 : PS X st t) (h2 : PSs X rest u) : PSs X (st :: rest) (tSeq t u) := by
  intro pins s σ H D I h
  refine wpAny_execs_cons (thn (h1 pins s σ H { D with nx := u D } I h) fun f s1 q => ?_)
  cases f with
  | next =>
    obtain ⟨σ', H', I', q⟩ := q
    exact h2 pins s1 σ' H' D I' q
  | ret v => exact q
  | brk => exact q
  | cont => exact q
theorem pss_one (h1 : PS X st t) : PSs X [st] t := by
  intro pins s σ H D I h
  refine wpAny_execs_cons (thn (h1 pins s σ H D I h) fun f s1 q => ?_)
  cases f with
  | next => exact wpAny_execs_nil q
  | ret v => exact q
  | brk => exact q
  | cont => exact q
theorem Inv.quiet {pins : List (Addr × Obj)} {σ : St} {H : Hp} {s : Shared} (I : Inv X pins σ H s) : interactive X.env = false := by simp [interactive, I.ok.kind]
def tDrop (te : TE) : TS := fun D σ H => te σ H fun _ H1 => D.nx σ H1
theorem ps_expr (he : PE X e te) (hs : swapsWith e none pos.line X.env = pure false := by rfl) : PS X (.Expr e pos) (tDrop te) := by
  intro pins s σ H D I h
  exact wpAny_Expr_any (thn (he pins s σ H _ I h) fun v s1 ⟨x, H1, I1, r1, q1⟩ => ⟨σ, H1, I1, q1⟩) I.quiet hs
def tRet (te : TE) : TS := fun D σ H => te σ H D.rt
theorem ps_ret (he : PE X e te) : PS X (.Return (some e) pos) (tRet te) := by
  intro pins s σ H D I h
  exact wpAny_Return_some (thn (he pins s σ H _ I h) fun v s1 ⟨x, H1, I1, r1, q1⟩ => ⟨x, σ, H1, I1, r1, q1⟩)
def tIfS (c : TT) (t u : TS) : TS := fun D σ H => c σ H fun b H1 => if b = true then t D σ H1 else u D σ H1
theorem ps_if {c : Expr} {a b : List Stmt} {tc : TT} (hc : PT X c tc) (ha : PSs X a t) (hb : PSs X b u) : PS X (.If c a b pos) (tIfS tc t u) := by
  intro pins s σ H D I h
  refine wpAny_If (thn (hc pins s σ H _ I h) fun d s1 ⟨H1, I1, q1⟩ => ?_)
  cases d with
  | true => exact ha pins s1 σ H1 D I1 q1
  | false => exact hb pins s1 σ H1 D I1 q1
end
abbrev TG := V → St → Hp → (St → Hp → Prop) → Prop
abbrev TGs := List V → St → Hp → (St → Hp → Prop) → Prop
def PG (X : Cx) (target : Expr) (t : TG) : Prop :=
  ∀ (pins : List (Addr × Obj)) (s : Shared) (σ : St) (H : Hp) (v : V) (u : Value) (Q : St → Hp → Prop), Inv X pins σ H s → RelV v u → t v σ H Q →
    wpAny (model X.prog X.w) X.A (assign target X.env u) (fun _ s' => ∃ σ' H', Inv X pins σ' H' s' ∧ Q σ' H') X.xe s
def PGs (X : Cx) (ts : List Expr) (t : TGs) : Prop :=
  ∀ (pins : List (Addr × Obj)) (s : Shared) (σ : St) (H : Hp) (vs : List V) (us : List Value) (Q : St → Hp → Prop), Inv X pins σ H s → Vals vs us → t vs σ H Q →
    wpAny (model X.prog X.w) X.A (assignInOrder ((assignEach ts X.env).map (·.2)) us) (fun _ s' => ∃ σ' H', Inv X pins σ' H' s' ∧ Q σ' H') X.xe s
abbrev TSet := V → V → V → Hp → (Hp → Prop) → Prop
def PSet (X : Cx) (t : TSet) : Prop :=
  ∀ (pins : List (Addr × Obj)) (s : Shared) (σ : St) (H : Hp) (o i v : V) (ov iv u : Value) (Q : Hp → Prop), Inv X pins σ H s → RelV o ov → RelV i iv → RelV v u → t o i v H Q →
    wpAny (model X.prog X.w) X.A (setItem ov iv u) (fun _ s' => ∃ H', Inv X pins σ H' s' ∧ Q H') X.xe s
abbrev TIp := V → V → Hp → VK → Prop
def PIp (X : Cx) (op : Operator) (t : TIp) : Prop :=
  ∀ (pins : List (Addr × Obj)) (s : Shared) (σ : St) (H : Hp) (x y : V) (v u : Value) (Q : VK), Inv X pins σ H s → RelV x v → RelV y u → t x y H Q →
    wpAny (model X.prog X.w) X.A (inplaceOp op v u) (EP X pins σ Q) X.xe s
section
variable {X : Cx} {pos : Pos}
def gName (i : Nat) : TG := fun v σ H Q => Q (σ.set i (some v)) H
theorem pg_name {i : Nat} {x : Str} (hN : X.N.Nodup) (hi : X.N[i]? = some x) (hx : Loc X.env.scope x) (hf : X.fn x = true ∨ X.env.scope.names.lookup x = some .local := by first | exact .inl rfl | exact .inr rfl | assumption) : PG X (.Name x pos) (gName i) := by
  intro pins s σ H v u Q I r h
  exact wpAny_assign_Name (store_ok I hN hi hx r (fun s' I' => ⟨_, H, I', h⟩) hf)
def gNil : TGs := fun vs σ H Q => vs = [] ∧ Q σ H
def gCons (t : TG) (u : TGs) : TGs := fun vs σ H Q => ∃ v r, vs = v :: r ∧ t v σ H fun σ' H' => u r σ' H' Q
theorem pgs_nil : PGs X [] gNil := by
  intro pins s σ H vs us Q I r h
  obtain ⟨e, h⟩ := h
  subst e
  cases r
  exact assignInOrder_nil ⟨σ, H, I, h⟩
theorem pgs_cons {e : Expr} {es : List Expr} {t : TG} {u : TGs} (h1 : PG X e t) (h2 : PGs X es u)
    (hs : (assignEach (e :: es) X.env).map (·.2) = assign e X.env :: (assignEach es X.env).map (·.2) := by rfl) : PGs X (e :: es) (gCons t u) := by
  intro pins s σ H vs us Q I r h
  obtain ⟨v, vr, e1, h⟩ := h
  subst e1
  cases r with
  | cons r rr =>
    rw [hs]
    refine assignInOrder_cons (thn (h1 pins s σ H _ _ _ I r h) fun _ s1 ⟨σ1, H1, I1, q1⟩ => ?_)
    exact h2 pins s1 σ1 H1 _ _ Q I1 rr q1
def gTup (K : PySem.W.Frag) (n : Nat) (t : TGs) : TG := fun v σ H Q => ∃ a xs, v = .ref a ∧ SqT K H a xs ∧ xs.length = n ∧ t xs σ H Q
theorem pg_tup {es : List Expr} {k : Nat} {t : TGs} {n : Nat} (hc : X.calm = true) (h : PGs X es t)
    (hn : (assignEach es X.env).length = n := by rfl) (hst : (assignEach es X.env).findIdx? (·.1) = none := by rfl) : PG X (.Tuple es k pos) (gTup X.K n t) := by
  intro pins s σ H v u Q I r hw
  obtain ⟨a, xs, e1, hq, hl, hw⟩ := hw
  subst e1
  cases r
  obtain ⟨its, rv, ht, hz⟩ := I.tuple hq
  refine assign_Tuple_tuple (I.ok.hd hc) ht (by simp [hn, ← hl, rv.length]) hst fun h' hx => ?_
  have I1 : Inv X pins σ H { s with heap := h' } := I.kept (t' := s.toks) fun b o e => hx b o (Nat.ne_of_lt (Heap.lt_size e)) e
  exact h pins _ σ H xs _ Q I1 (by simpa using rv) hw
def gSub (to ti : TE) (t : TSet) : TG := fun v σ H Q => to σ H fun o H1 => ti σ H1 fun i H2 => t o i v H2 fun H3 => Q σ H3
theorem pg_sub {o i : Expr} {to ti : TE} {t : TSet} (ho : PE X o to) (hi : PE X i ti) (hs : PSet X t)
    (ha : ∀ v, assign (.Subscript o i pos) X.env v = (do
      let ov ← holding [v] (eval o X.env)
      let iv ← holding [v, ov] (eval i X.env)
      standAt pos
      holding [v, ov, iv] (setItem ov iv v)
      release [v, ov, iv] []) := by intro _; rfl) : PG X (.Subscript o i pos) (gSub to ti t) := by
  intro pins s σ H v u Q I r h
  rw [ha]
  refine wpAny_bind (wpAny_holding (thn (ho pins s σ H _ I h) fun ov s1 ⟨x, H1, I1, r1, q1⟩ => ?_))
  refine wpAny_bind (wpAny_holding (thn (hi pins s1 σ H1 _ I1 q1) fun iv s2 ⟨y, H2, I2, r2, q2⟩ => ?_))
  refine wpAny_bind (wpAny_standAt (wpAny_bind (wpAny_holding (thn (hs pins s2 σ H2 x y v ov iv u _ I2 r1 r2 r q2) fun _ s3 ⟨H3, I3, q3⟩ => ?_))))
  exact wpAny_release ⟨σ, H3, I3, q3⟩
def tAsg (te : TE) (g : TG) : TS := fun D σ H => te σ H fun x H1 => g x σ H1 D.nx
theorem ps_asg {tg e : Expr} {te : TE} {g : TG} (he : PE X e te) (hg : PG X tg g) (hs : swapsWithSole [tg] e pos.line X.env = pure false := by rfl) (hw : swappedStores [tg] e X.env = pure none := by rfl)
    (h1 : (assignEach [tg] X.env).map (·.2) = [assign tg X.env] := by rfl) : PS X (.Assign [tg] e pos) (tAsg te g) := by
  intro pins s σ H D I h
  refine wpAny_Assign_stores (thn (he pins s σ H _ I h) fun v s1 ⟨x, H1, I1, r1, q1⟩ => ?_) hs hw
  rw [h1]
  exact thn (hg pins s1 σ H1 x v _ I1 r1 q1) fun _ s2 q => q
theorem ps_set {i : Nat} {x : Str} {e : Expr} {te : TE} {pos' : Pos} (hN : X.N.Nodup) (hi : X.N[i]? = some x) (hx : Loc X.env.scope x) (he : PE X e te) (hs : swapsWith e (some (.Name x pos')) pos.line X.env = pure false := by rfl) (hf : X.fn x = true ∨ X.env.scope.names.lookup x = some .local := by first | exact .inl rfl | exact .inr rfl | assumption) :
    PS X (.Assign [.Name x pos'] e pos) (tAsg te (gName i)) := by
  intro pins s σ H D I h
  refine wpAny_Assign_Name (thn (he pins s σ H _ I h) fun v s1 ⟨y, H1, I1, r1, q1⟩ => ?_) hs
  exact store_ok I1 hN hi hx r1 (fun s2 I2 => ⟨_, H1, I2, q1⟩) hf
def tAug (i : Nat) (te : TE) (ti : TIp) : TS := fun D σ H => ∃ x, σ[i]? = some (some x) ∧ te σ H fun y H1 => ti x y H1 fun z H2 => D.nx (σ.set i (some z)) H2
theorem ps_aug {i : Nat} {x : Str} {e : Expr} {te : TE} {op : Operator} {ti : TIp} {pos' : Pos} (hN : X.N.Nodup) (hi : X.N[i]? = some x) (hx : Loc X.env.scope x) (he : PE X e te) (ho : PIp X op ti) (hf : X.fn x = true ∨ X.env.scope.names.lookup x = some .local := by first | exact .inl rfl | exact .inr rfl | assumption) :
    PS X (.AugAssign (.Name x pos') op e pos) (tAug i te ti) := by
  intro pins s σ H D I h
  obtain ⟨v, e1, h⟩ := h
  obtain ⟨m, hn, hl⟩ := I.loc
  have vis : Vis X.env.scope x := by rcases hx with k | k; exact .inl k; exact .inr (.inl k)
  obtain ⟨u, r, l⟩ := hl i x v hi e1 vis
  refine wpAny_AugAssign_Name ?_
  have go : wpAny (model X.prog X.w) X.A (eval e X.env) (fun w s₂ => wpAny (model X.prog X.w) X.A (inplaceOp op u w) (fun r s₃ => wpAny (model X.prog X.w) X.A (storeName X.env x r) (fun _ => SP X pins D .next) X.xe s₃) X.xe s₂) X.xe s := by
    refine thn (he pins s σ H _ I h) fun w s1 ⟨y, H1, I1, r1, q1⟩ => ?_
    refine thn (ho pins s1 σ H1 v y u w _ I1 r r1 q1) fun z s2 ⟨zv, H2, I2, r2, q2⟩ => ?_
    exact store_ok I2 hN hi hx r2 (fun s3 I3 => ⟨_, H2, I3, q2⟩) hf
  rcases l with ⟨hk, hm⟩ | ⟨hk, c, hc, hcell⟩
  · exact wpAny_loadName_local I.ok.kind hk hn hm go
  · rcases hk with hk | hk
    · exact wpAny_loadName_cell I.ok.kind hk hc hcell go
    · rcases hx with k | k
      · have : X.env.scope.names.lookup x = some .free := hk
        rw [k] at this; cases this
      · have : X.env.scope.names.lookup x = some .free := hk
        rw [k] at this; cases this
def ipI (f : Int → Int → Int) : TIp := fun x y H Q => ∃ i j, x = .int i ∧ y = .int j ∧ Q (.int (f i j)) H
theorem ip_add : PIp X .Add (ipI fun i j => i + j) := by
  intro pins s σ H x y v u Q I r1 r2 h
  obtain ⟨i, j, e1, e2, q⟩ := h
  subst e1; subst e2
  obtain ⟨t, rfl⟩ := r1
  obtain ⟨t', rfl⟩ := r2
  exact iadd_int ⟨.int _, H, I.tok _, ⟨_, rfl⟩, q⟩
end
section
variable {X : Cx} {pos : Pos}
def tWhile (c : TT) (tb : TS) : TS := fun D σ H => ∃ W : Nat → St → Hp → Prop, (∃ m, W m σ H) ∧ ∀ m σ H, W m σ H →
  c σ H fun b H1 => if b = true then ∃ N : St → Hp → Prop, (∀ σ' H', N σ' H' → ∃ m', m' < m ∧ W m' σ' H') ∧ tb { D with nx := N, ct := N, bk := D.nx } σ H1 else D.nx σ H1
theorem ps_while {c : Expr} {body : List Stmt} {tc : TT} {tb : TS} (hp : PassesOwn (model X.prog X.w) X.A X.env X.xe) (hc : PT X c tc) (hb : PSs X body tb) : PS X (.While c body [] pos) (tWhile tc tb) := by
  intro pins s σ H D I h
  obtain ⟨W, ⟨m0, w0⟩, turn⟩ := h
  refine wpAny_While (codeAny_whileLoop (fun n s' => ∃ σ' H', Inv X pins σ' H' s' ∧ W n σ' H') ?_ m0 ⟨σ, H, I, w0⟩)
  rintro n s1 ⟨σ1, H1, I1, w1⟩
  refine wpAny_passesOwn hp (thn (hc pins s1 σ1 H1 _ I1 (turn n σ1 H1 w1)) fun b s2 ⟨H2, I2, q2⟩ => ?_)
  cases b with
  | true =>
    obtain ⟨N, hN, q2⟩ := q2
    rw [if_pos rfl]
    refine wpAny_passesOwn hp (thn (hb pins s2 σ1 H2 _ I2 q2) fun f s3 q3 => ?_)
    cases f with
    | next =>
      obtain ⟨σ3, H3, I3, n3⟩ := q3
      obtain ⟨m', hm, w3⟩ := hN σ3 H3 n3
      exact ⟨m', hm, σ3, H3, I3, w3⟩
    | cont =>
      obtain ⟨σ3, H3, I3, n3⟩ := q3
      obtain ⟨m', hm, w3⟩ := hN σ3 H3 n3
      exact ⟨m', hm, σ3, H3, I3, w3⟩
    | brk => exact q3
    | ret v => exact q3
  | false =>
    rw [if_neg Bool.false_ne_true]
    exact wpAny_execs_nil ⟨σ1, H2, I2, q2⟩
end
structure It where
  go : Nat → Hp → Prop
  yld : Nat → Hp → V → Hp → Prop
  stop : Nat → Hp → Prop
def FpOk (X : Cx) (pins : List (Addr × Obj)) (H : Hp) (b : Addr) : Prop :=
  H b = none ∧ b ≠ X.env.locals ∧ b ∉ X.fs ∧ (b ∈ X.ex ∨ X.s₀.heap.objs.size ≤ b) ∧ (∀ x c, X.env.cells.lookup x = some c → c ≠ b) ∧ ∀ p ∈ X.pn ++ pins, p.1 ≠ b
theorem Inv.fpOk {X : Cx} {pins : List (Addr × Obj)} {σ : St} {H H' : Hp} {s : Shared} {b : Addr} (I : Inv X pins σ H s) (hb : s.heap.objs.size ≤ b) (hn : H' b = none) : FpOk X pins H' b := by
  refine ⟨hn, Nat.ne_of_gt (Nat.lt_of_lt_of_le I.lt hb), I.nofs hb, .inr (Nat.le_trans I.sz hb), fun x c e z => ?_, fun p hp z => ?_⟩
  · obtain ⟨v, q⟩ := I.cell x c e
    exact absurd (Nat.lt_of_lt_of_le q.lt (by rw [z]; exact hb)) (Nat.lt_irrefl _)
  · exact absurd (Nat.lt_of_lt_of_le (Heap.lt_size (I.pin p hp).1) (by rw [z]; exact hb)) (Nat.lt_irrefl _)
structure Turn (P : Program) (w : World) (K : PySem.W.Frag) (tg : Expr) (J : It) (fp : List Addr) (it : Addr) (tn : Nat → Heap → Prop) : Prop where
  mem : it ∈ fp
  obj : ∀ i h, tn i h → ∀ b ∈ fp, ∃ o, h.get? b = some o ∧ ∀ v, o.data ≠ .cell v
  keep : ∀ i h h', tn i h → (∀ b ∈ fp, ∀ o, h.get? b = some o → h'.get? b = some o) → tn i h'
  item : ∀ (X : Cx), X.prog = P → X.w = w → X.K = K → X.calm = true → ∀ (i : Nat) (pins : List (Addr × Obj)) (s : Shared) (σ : St) (H : Hp) (E : Value → Shared → Prop), Inv X pins σ H s → (∀ b ∈ fp, FpOk X pins H b) → tn i s.heap → J.go i H →
    wpAny (model P w) X.A (pyNext (.ref it)) (fun r s1 => ∃ u, r = some u ∧
      wpAny (model P w) X.A (letOwnedTupleGo tg (.ref it) u) (fun _ s2 => ∃ x H', Inv X pins σ H' s2 ∧ RelV x u ∧ J.yld i H x H' ∧ tn (i + 1) s2.heap ∧ ∀ b ∈ fp, H' b = none) E s1) E s
  done : ∀ (X : Cx), X.prog = P → X.w = w → X.K = K → X.calm = true → ∀ (i : Nat) (pins : List (Addr × Obj)) (s : Shared) (σ : St) (H : Hp) (E : Value → Shared → Prop), Inv X pins σ H s → (∀ b ∈ fp, FpOk X pins H b) → tn i s.heap → J.stop i H →
    wpAny (model P w) X.A (pyNext (.ref it)) (fun r s1 => r = none ∧ Inv X pins σ H s1) E s
  self : ∀ (A : Around) (i : Nat) (s : Shared) (Q : Value → Shared → Prop) (E : Value → Shared → Prop), tn i s.heap → Q (.ref it) s → wpAny (model P w) A (pyIter (.ref it)) Q E s
abbrev TI := St → Hp → (It → Hp → Prop) → Prop
def PIE (X : Cx) (pins : List (Addr × Obj)) (σ : St) (tg : Expr) (R : It → Hp → Prop) (itv : Value) (s2 : Shared) : Prop :=
  ∃ (it : Addr) (fp : List Addr) (tn : Nat → Heap → Prop) (J : It) (H' : Hp), itv = .ref it ∧ Inv X pins σ H' s2 ∧ Turn X.prog X.w X.K tg J fp it tn ∧ tn 0 s2.heap ∧ (∀ b ∈ fp, FpOk X pins H' b) ∧ R J H'
def PI (X : Cx) (tg iter : Expr) (wi : TI) : Prop :=
  ∀ (pins : List (Addr × Obj)) (s : Shared) (σ : St) (H : Hp) (R : It → Hp → Prop), Inv X pins σ H s → wi σ H R →
    wpAny (model X.prog X.w) X.A (eval iter X.env) (fun v s1 => wpAny (model X.prog X.w) X.A (pyIter v) (PIE X pins σ tg R) X.xe s1) X.xe s
theorem go_of {M : Model} {A : Around} {E : Value → Shared → Prop} {s : Shared} {tg : Expr} {it : Addr} {u : Value} {o : Obj} {n : String} {vs : Array Value} {Q : Unit → Shared → Prop} (ho : s.heap.get? it = some o) (hc : o.cls = .type n) (hd : o.data = .fields vs)
    (hn : ["enumerate", "zip", "dict_itemiterator", "dict_reverseitemiterator", "odict_iterator", "itertools.zip_longest", "itertools.pairwise"].contains n = false) (hQ : Q () s) : wpAny M A (letOwnedTupleGo tg (.ref it) u) Q E s := by
  unfold letOwnedTupleGo
  cases tg <;> first
    | exact wpAny_pure hQ
    | (cases u <;> first
        | exact wpAny_pure hQ
        | (refine wpAny_bind (wpAny_load ho ?_)
           rw [hc, hd]
           show wpAny M A (if (["enumerate", "zip", "dict_itemiterator", "dict_reverseitemiterator", "odict_iterator", "itertools.zip_longest", "itertools.pairwise"].contains n && vs[0]? == some (rawInt _)) = true then _ else _) Q E s
           rw [if_neg (by intro h; rw [hn, Bool.false_and] at h; cases h)]
           exact wpAny_pure hQ))
def Itl (K : PySem.W.Frag) (a : Addr) : It :=
  ⟨fun i H => ∃ xs x, SqL K H a xs ∧ xs[i]? = some x, fun i H x H' => H' = H ∧ ∀ xs, SqL K H a xs → xs[i]? = some x, fun i H => ∃ xs, SqL K H a xs ∧ xs.length ≤ i⟩
def Itr (lo : Int) (n : Nat) : It := ⟨fun i _ => i < n, fun i H x H' => H' = H ∧ x = .int (lo + i), fun i _ => n ≤ i⟩
theorem turn_list {P : Program} {w : World} {K : PySem.W.Frag} {tg : Expr} (a it : Addr) : Turn P w K tg (Itl K a) [it] it (fun i h => h.IsListIter it a i) where
  mem := by simp
  obj := fun i h st b hb => by
    have e : b = it := by simpa using hb
    subst e
    obtain ⟨o, e, c, d⟩ := st
    exact ⟨o, e, fun v z => by rw [d] at z; cases z⟩
  keep := fun i h h' st k => st.at fun o e => k it (by simp) o e
  item := by
    intro X hP hw hK hc i pins s σ H E I hf st hg
    subst hP hw hK
    obtain ⟨xs, x, hq, hx⟩ := hg
    obtain ⟨its, rv, p, hz⟩ := I.list hq
    obtain ⟨u, hu, ru⟩ := rv.get hx
    obtain ⟨f0, f1, f2, f3, f4, f5⟩ := hf it (by simp)
    refine wpAny_pyNext_list_item st p.isList (x := u) (by simpa using hu) fun h' st' sb => ?_
    have I1 : Inv X pins σ H { s with heap := h' } := I.turned (t' := s.toks) (fun b o hb e => (sb.2 b hb).trans e) f0 f1 f3 f4 f5
    obtain ⟨o, e, c, d⟩ := id st'
    exact ⟨u, rfl, go_of (s := { s with heap := h' }) e c d (by decide) ⟨x, H, I1, ru, ⟨rfl, fun ys hy => by rw [I.list_inj hy hq]; exact hx⟩, st', fun b hb => (hf b hb).1⟩⟩
  done := by
    intro X hP hw hK hc i pins s σ H E I hf st hg
    subst hP hw hK
    obtain ⟨xs, hq, hx⟩ := hg
    obtain ⟨its, rv, p, hz⟩ := I.list hq
    obtain ⟨f0, f1, f2, f3, f4, f5⟩ := hf it (by simp)
    have hl := rv.length
    exact wpAny_pyNext_list_end (I.ok.hd hc) st p.isList (by simp; omega) fun h' eb => ⟨rfl, I.turned (t' := s.toks) (fun b o hb e => eb b o hb e) f0 f1 f3 f4 f5⟩
  self := fun _ _ _ _ _ st h => wpAny_pyIter_listiter st h
theorem turn_range {P : Program} {w : World} {K : PySem.W.Frag} {tg : Expr} (it : Addr) (lo : Int) (n : Nat) : Turn P w K tg (Itr lo n) [it] it (fun i h => IsRangeIter h it (lo + (i : Nat) * 1) ((n : Int) - (i : Nat)) 1) where
  mem := by simp
  obj := fun i h st b hb => by
    have e : b = it := by simpa using hb
    subst e
    exact ⟨_, st, fun v z => by
      have z' : Data.fields _ = Data.cell v := z
      cases z'⟩
  keep := fun i h h' st k => k it (by simp) _ st
  item := by
    intro X hP hw hK hc i pins s σ H E I hf st hg
    subst hP hw hK
    obtain ⟨f0, f1, f2, f3, f4, f5⟩ := hf it (by simp)
    have W := Walks.range (prog := X.prog) (w := X.w) (I.ok.hd hc) it lo 1 n
    refine W.item i s _ _ hg st fun v h' tk hv st' kk => ?_
    obtain ⟨t, rfl⟩ := hv
    have I1 : Inv X pins σ H { s with heap := h', toks := tk } := I.turned (fun b o hb e => kk b o (by simpa using hb) e) f0 f1 f3 f4 f5
    refine ⟨_, rfl, go_of (s := { s with heap := h', toks := tk }) (n := "range_iterator") st' rfl rfl (by decide) ⟨.int (lo + i), H, I1, ⟨t, ?_⟩, ⟨rfl, rfl⟩, st', fun b hb => (hf b hb).1⟩⟩
    rw [Int.mul_one]
  done := by
    intro X hP hw hK hc i pins s σ H E I hf st hg
    subst hP hw hK
    obtain ⟨f0, f1, f2, f3, f4, f5⟩ := hf it (by simp)
    exact wpAny_pyNext_range_end (I.ok.hd hc) st (by have : n ≤ i := hg; omega) fun h' eb => ⟨rfl, I.turned (t' := s.toks) (fun b o hb e => eb b o hb e) f0 f1 f3 f4 f5⟩
  self := fun _ _ _ _ _ st h => wpAny_pyIter_rangeiter st h
end L2
namespace L2
open PySem PySem.Spec PyProof.Rows
section
variable {X : Cx} {tg : Expr}
def iList (K : PySem.W.Frag) (tl : TE) : TI := fun σ H R => tl σ H fun x H1 => ∃ a, x = .ref a ∧ (∃ xs, SqL K H1 a xs) ∧ R (Itl K a) H1
theorem pi_list {l : Expr} {tl : TE} (hl : PE X l tl) : PI X tg l (iList X.K tl) := by
  intro pins s σ H R I h
  refine thn (hl pins s σ H _ I h) fun v s1 ⟨x, H1, I1, r1, q1⟩ => ?_
  obtain ⟨a, e, ⟨xs, hq⟩, q⟩ := q1
  subst e
  cases r1
  obtain ⟨its, rv, p, hz⟩ := I1.list hq
  refine wpAny_pyIter_list p.isList ?_
  refine ⟨s1.heap.objs.size, [s1.heap.objs.size], _, _, H1, rfl, I1.kept (t' := s1.toks) fun b o e => Heap.get?_push_of_some _ e, turn_list a _, ⟨_, Heap.get?_push_size _ rfl, rfl, rfl⟩, fun b hb => ?_, q⟩
  have e : b = s1.heap.objs.size := by simpa using hb
  subst e
  exact I1.fpOk (Nat.le_refl _) (I1.hok.fresh (Nat.le_refl _))
theorem range_it {pins : List (Addr × Obj)} {σ : St} {H : Hp} {s : Shared} {R : It → Hp → Prop} {E : Value → Shared → Prop} {lo hi : Int} {t u v : Tok} {tk : Nat} (I : Inv X pins σ H s) (h1 : -(2 ^ 62) ≤ lo) (h2 : lo < 2 ^ 62) (h3 : -(2 ^ 62) ≤ hi) (h4 : hi < 2 ^ 62)
    (q : R (Itr lo (hi - lo).toNat) H) : wpAny (model X.prog X.w) X.A (pyIter (.ref s.heap.objs.size)) (PIE X pins σ tg R) E { s with heap := s.heap.push { cls := .type "range", data := .fields #[.int lo t, .int hi u, .int 1 v] }, toks := tk } := by
  refine wpAny_pyIter_range (IsRange.new ..) (small_one h1 h2 h3 h4) ?_
  have I1 : Inv X pins σ H { s with heap := s.heap.push { cls := .type "range", data := .fields #[.int lo t, .int hi u, .int 1 v] }, toks := tk } := I.kept fun b o e => Heap.get?_push_of_some _ e
  refine ⟨(s.heap.push { cls := .type "range", data := .fields #[.int lo t, .int hi u, .int 1 v] }).objs.size, [(s.heap.push { cls := .type "range", data := .fields #[.int lo t, .int hi u, .int 1 v] }).objs.size], _, _, H, rfl,
    I1.kept (t' := tk) fun b o e => Heap.get?_push_of_some _ e, turn_range _ lo (hi - lo).toNat, ?_, fun b hb => ?_, q⟩
  · have e1 : lo + ((0 : Nat) : Int) * 1 = lo := by simp
    have e2 : (((hi - lo).toNat : Nat) : Int) - ((0 : Nat) : Int) = Builtin.Range.rangeSize lo hi 1 := by rw [rangeSize_one]; split <;> omega
    show IsRangeIter _ _ (lo + ((0 : Nat) : Int) * 1) ((((hi - lo).toNat : Nat) : Int) - ((0 : Nat) : Int)) 1
    rw [e1, e2]
    exact Heap.get?_push_size _ rfl
  · have e : b = (s.heap.push { cls := .type "range", data := .fields #[.int lo t, .int hi u, .int 1 v] }).objs.size := by simpa using hb
    subst e
    exact I1.fpOk (Nat.le_refl _) (I1.hok.fresh (Nat.le_refl _))
def iRng1 (ta : TA) : TI := fun σ H R => ta σ H fun vs H1 => ∃ j : Int, vs = [.int j] ∧ -(2 ^ 62) ≤ j ∧ j < 2 ^ 62 ∧ R (Itr 0 j.toNat) H1
def iRng2 (ta : TA) : TI := fun σ H R => ta σ H fun vs H1 => ∃ i j : Int, vs = [.int i, .int j] ∧ (-(2 ^ 62) ≤ i ∧ i < 2 ^ 62 ∧ -(2 ^ 62) ≤ j ∧ j < 2 ^ 62) ∧ R (Itr i (j - i).toNat) H1
theorem pi_range1 {a : Expr} {ta : TA} {p pos : Pos} (hg : Gl X "range") (hm : X.mg "range" = none) (ha : PA X [a] ta) (hs : starEach [a] X.env = [(false, eval a X.env)] := by rfl) : PI X tg (.Call (.Name "range" p) [a] [] pos) (iRng1 ta) := by
  intro pins s σ H R I h
  refine Call_ (ld_blt I hg hm boot_range (PyProof.Rows.callWith_type1 (thn (ha pos pins s σ H _ I h) fun us s1 ⟨vs, H1, I1, r1, q1⟩ => ?_) hs rfl))
  obtain ⟨j, e, q1, q2, q⟩ := q1
  subst e
  cases r1 with
  | cons r rr =>
    cases rr
    obtain ⟨t, rfl⟩ := r
    exact call_range_1 (range_it I1 (by omega) (by omega) q1 q2 (by simpa using q))
theorem pi_range2 {a b : Expr} {ta : TA} {p pos : Pos} (hg : Gl X "range") (hm : X.mg "range" = none) (ha : PA X [a, b] ta) (hs : starEach [a, b] X.env = [(false, eval a X.env), (false, eval b X.env)] := by rfl) (hs2 : starEach [b] X.env = [(false, eval b X.env)] := by rfl) :
    PI X tg (.Call (.Name "range" p) [a, b] [] pos) (iRng2 ta) := by
  intro pins s σ H R I h
  refine Call_ (ld_blt I hg hm boot_range (PyProof.Rows.callWith_type1 (thn (ha pos pins s σ H _ I h) fun us s1 ⟨vs, H1, I1, r1, q1⟩ => ?_) (by rw [hs, hs2]) (by rw [hs2]; rfl)))
  obtain ⟨i, j, e, ⟨q1, q2, q3, q4⟩, q⟩ := q1
  subst e
  cases r1 with
  | cons r rr =>
    cases rr with
    | cons r' rr =>
      cases rr
      obtain ⟨t, rfl⟩ := r
      obtain ⟨t', rfl⟩ := r'
      exact call_range_2 (range_it I1 q1 q2 q3 q4 q)
def tFor (wi : TI) (g : TG) (tb : TS) : TS := fun D σ H => wi σ H fun J H1 => ∃ W : Nat → Nat → St → Hp → Prop, (∃ m, W 0 m σ H1) ∧ ∀ i m σ H, W i m σ H →
  (J.stop i H ∧ D.nx σ H) ∨ (J.go i H ∧ ∃ N : St → Hp → Prop, (∀ σ' H', N σ' H' → ∃ m', m' < m ∧ W (i + 1) m' σ' H') ∧ ∀ x H', J.yld i H x H' → g x σ H' fun σ2 H2 => tb { D with nx := N, ct := N, bk := D.nx } σ2 H2)
def pinsAt (fp : List Addr) (h : Heap) : List (Addr × Obj) := fp.filterMap fun b => (h.get? b).map fun o => (b, o)
theorem mem_pinsAt {fp : List Addr} {h : Heap} {b : Addr} {o : Obj} (hb : b ∈ fp) (e : h.get? b = some o) : (b, o) ∈ pinsAt fp h := List.mem_filterMap.mpr ⟨b, hb, by rw [e]; rfl⟩
theorem of_pinsAt {fp : List Addr} {h : Heap} {p : Addr × Obj} (hp : p ∈ pinsAt fp h) : p.1 ∈ fp ∧ h.get? p.1 = some p.2 := by
  obtain ⟨b, hb, e⟩ := List.mem_filterMap.mp hp
  cases q : h.get? b with
  | none => rw [q] at e; cases e
  | some o =>
    rw [q] at e
    have e' : (b, o) = p := Option.some.inj e
    subst e'
    exact ⟨hb, q⟩
theorem Inv.pinned {pins : List (Addr × Obj)} {σ : St} {H : Hp} {s : Shared} {fp : List Addr} (I : Inv X pins σ H s) (hf : ∀ b ∈ fp, FpOk X pins H b) (ho : ∀ b ∈ fp, ∃ o, s.heap.get? b = some o ∧ ∀ v, o.data ≠ .cell v) : Inv X (pins ++ pinsAt fp s.heap) σ H s :=
  I.pins_of fun p hp => (List.mem_append.mp hp).elim (fun z => I.pin p (List.mem_append_right _ z)) fun z => by
    obtain ⟨hb, e⟩ := of_pinsAt z
    obtain ⟨f0, f1, f2, _⟩ := hf p.1 hb
    obtain ⟨o, e', d⟩ := ho p.1 hb
    rw [e] at e'; cases e'
    exact ⟨e, f0, f1, f2, d⟩
theorem Inv.unpinned {pins pl : List (Addr × Obj)} {σ : St} {H : Hp} {s : Shared} (I : Inv X (pins ++ pl) σ H s) : Inv X pins σ H s := I.pins_of fun p hp => I.pin p (List.mem_append_right _ (List.mem_append_left _ hp))
theorem ps_for {iter : Expr} {body : List Stmt} {wi : TI} {g : TG} {tb : TS} {pos : Pos} (hp : PassesOwn (model X.prog X.w) X.A X.env X.xe) (hc : X.calm = true) (hi : PI X tg iter wi) (hg : PG X tg g) (hb : PSs X body tb)
    (hs : ∀ x, foldedSetIterable iter X.env x = pure x := by intro _; rfl) : PS X (.For tg iter body [] pos) (tFor wi g tb) := by
  intro pins s σ H D I h
  refine wpAny_For (thn (hi pins s σ H _ I h) fun v s1 h1 => thn h1 fun itv s2 h2 => ?_) hs
  obtain ⟨it, fp, tn, J, H2, e, I2, T, st2, f2, W, ⟨m0, w0⟩, turn⟩ := h2
  subst e
  have stat : ∀ {H' : Hp}, (∀ b ∈ fp, H' b = none) → ∀ b ∈ fp, FpOk X pins H' b := fun hn b hb => ⟨hn b hb, (f2 b hb).2⟩
  refine codeAny_forLoop_any (fun n s' => ∃ i σ' H', Inv X pins σ' H' s' ∧ tn i s'.heap ∧ (∀ b ∈ fp, H' b = none) ∧ W i n σ' H') ?_ m0 ⟨0, σ, H2, I2, st2, fun b hb => (f2 b hb).1, w0⟩
  rintro n s3 ⟨i, σ3, H3, I3, st3, fr3, w3⟩
  rcases turn i n σ3 H3 w3 with ⟨stop, qn⟩ | ⟨go, N, hN, step⟩
  · refine wpAny_passesOwn hp (thn (T.done X rfl rfl rfl hc i pins s3 σ3 H3 X.xe I3 (stat fr3) st3 stop) fun r s4 ⟨hr, I4⟩ => ?_)
    subst hr
    exact wpAny_execs_nil ⟨σ3, H3, I4, qn⟩
  · refine wpAny_passesOwn hp (thn (T.item X rfl rfl rfl hc i pins s3 σ3 H3 X.xe I3 (stat fr3) st3 go) fun r s4 ⟨u, hr, h4⟩ => ?_)
    subst hr
    refine wpAny_passesOwn hp (thn h4 fun _ s5 ⟨x, H5, I5, r5, y5, st5, fr5⟩ => ?_)
    have I5' := I5.pinned (stat fr5) (T.obj _ _ st5)
    refine wpAny_passesOwn hp (thn (hg _ s5 σ3 H5 x u _ I5' r5 (step x H5 y5)) fun _ s6 ⟨σ6, H6, I6, q6⟩ => ?_)
    refine wpAny_passesOwn hp (thn (hb _ s6 σ6 H6 _ I6 q6) fun f s7 q7 => ?_)
    have again : ∀ {σ7 : St} {H7 : Hp}, Inv X (pins ++ pinsAt fp s5.heap) σ7 H7 s7 → N σ7 H7 → ∃ m, m < n ∧ ∃ i σ' H', Inv X pins σ' H' s7 ∧ tn i s7.heap ∧ (∀ b ∈ fp, H' b = none) ∧ W i m σ' H' := fun {σ7 H7} I7 n7 => by
      obtain ⟨m', hm, w7⟩ := hN σ7 H7 n7
      refine ⟨m', hm, i + 1, σ7, H7, I7.unpinned, T.keep _ _ _ st5 fun b hb o e => (I7.pin (b, o) (List.mem_append_right _ (List.mem_append_right _ (mem_pinsAt hb e)))).1, fun b hb => ?_, w7⟩
      obtain ⟨o, e, d⟩ := T.obj _ _ st5 b hb
      exact (I7.pin (b, o) (List.mem_append_right _ (List.mem_append_right _ (mem_pinsAt hb e)))).2.1
    cases f with
    | next => obtain ⟨σ7, H7, I7, n7⟩ := q7; exact again I7 n7
    | cont => obtain ⟨σ7, H7, I7, n7⟩ := q7; exact again I7 n7
    | brk => obtain ⟨σ7, H7, I7, q7⟩ := q7; exact ⟨σ7, H7, I7.unpinned, q7⟩
    | ret v => obtain ⟨x7, σ7, H7, I7, r7, q7⟩ := q7; exact ⟨x7, σ7, H7, I7.unpinned, r7, q7⟩
end
theorem for_list {K : PySem.W.Frag} {a : Addr} {xs : List V} {g : TG} {tb : TS} {D : Ends} {σ : St} {H : Hp} (Pv : Nat → St → Hp → Prop) (h0 : Pv 0 σ H) (hl : ∀ i σ H, i ≤ xs.length → Pv i σ H → SqL K H a xs)
    (hs : ∀ i x σ H, xs[i]? = some x → Pv i σ H → g x σ H fun σ2 H2 => tb { D with nx := Pv (i + 1), ct := Pv (i + 1), bk := D.nx } σ2 H2) (hd : ∀ σ H, Pv xs.length σ H → D.nx σ H) :
    ∃ W : Nat → Nat → St → Hp → Prop, (∃ m, W 0 m σ H) ∧ ∀ i m σ H, W i m σ H →
      ((Itl K a).stop i H ∧ D.nx σ H) ∨ ((Itl K a).go i H ∧ ∃ N : St → Hp → Prop, (∀ σ' H', N σ' H' → ∃ m', m' < m ∧ W (i + 1) m' σ' H') ∧ ∀ x H', (Itl K a).yld i H x H' → g x σ H' fun σ2 H2 => tb { D with nx := N, ct := N, bk := D.nx } σ2 H2) := by
  refine ⟨fun i m σ H => m = xs.length - i ∧ i ≤ xs.length ∧ Pv i σ H, ⟨xs.length, by simp, Nat.zero_le _, h0⟩, ?_⟩
  rintro i m σ H ⟨rfl, hi, p⟩
  have q := hl i σ H hi p
  by_cases hlt : i < xs.length
  · refine .inr ⟨⟨xs, xs[i], q, by simp [hlt]⟩, Pv (i + 1), fun σ' H' p' => ⟨xs.length - (i + 1), by omega, rfl, hlt, p'⟩, fun x H' y => ?_⟩
    obtain ⟨e, y⟩ := y
    subst e
    exact hs i x σ _ (y xs q) p
  · have e : i = xs.length := by omega
    subst e
    exact .inl ⟨⟨xs, q, Nat.le_refl _⟩, hd σ H p⟩
theorem for_range {lo : Int} {n : Nat} {g : TG} {tb : TS} {D : Ends} {σ : St} {H : Hp} (Pv : Nat → St → Hp → Prop) (h0 : Pv 0 σ H)
    (hs : ∀ i σ H, i < n → Pv i σ H → g (.int (lo + i)) σ H fun σ2 H2 => tb { D with nx := Pv (i + 1), ct := Pv (i + 1), bk := D.nx } σ2 H2) (hd : ∀ σ H, Pv n σ H → D.nx σ H) :
    ∃ W : Nat → Nat → St → Hp → Prop, (∃ m, W 0 m σ H) ∧ ∀ i m σ H, W i m σ H →
      ((Itr lo n).stop i H ∧ D.nx σ H) ∨ ((Itr lo n).go i H ∧ ∃ N : St → Hp → Prop, (∀ σ' H', N σ' H' → ∃ m', m' < m ∧ W (i + 1) m' σ' H') ∧ ∀ x H', (Itr lo n).yld i H x H' → g x σ H' fun σ2 H2 => tb { D with nx := N, ct := N, bk := D.nx } σ2 H2) := by
  refine ⟨fun i m σ H => m = n - i ∧ i ≤ n ∧ Pv i σ H, ⟨n, by simp, Nat.zero_le _, h0⟩, ?_⟩
  rintro i m σ H ⟨rfl, hi, p⟩
  by_cases hlt : i < n
  · refine .inr ⟨hlt, Pv (i + 1), fun σ' H' p' => ⟨n - (i + 1), by omega, rfl, hlt, p'⟩, fun x H' y => ?_⟩
    obtain ⟨e, y⟩ := y
    subst e y
    exact hs i σ _ hlt p
  · have e : i = n := by omega
    subst e
    exact .inl ⟨Nat.le_refl _, hd σ H p⟩
theorem while_by {c : TT} {tb : TS} {D : Ends} {σ : St} {H : Hp} (Pv : St → Hp → Prop) (μ : St → Hp → Nat) (h0 : Pv σ H)
    (hs : ∀ σ H, Pv σ H → c σ H fun b H1 => if b = true then tb { D with nx := fun σ' H' => Pv σ' H' ∧ μ σ' H' < μ σ H, ct := fun σ' H' => Pv σ' H' ∧ μ σ' H' < μ σ H, bk := D.nx } σ H1 else D.nx σ H1)
    (mono : ∀ σ H Q Q', (∀ b H1, Q b H1 → Q' b H1) → c σ H Q → c σ H Q') : tWhile c tb D σ H := by
  refine ⟨fun m σ H => m = μ σ H ∧ Pv σ H, ⟨_, rfl, h0⟩, ?_⟩
  rintro m σ H ⟨rfl, p⟩
  refine mono σ H _ _ (fun b H1 q => ?_) (hs σ H p)
  cases b with
  | true => exact ⟨_, fun σ' H' ⟨p', l⟩ => ⟨_, l, rfl, p'⟩, q⟩
  | false => exact q
end L2
namespace L2
open PySem PySem.Spec PyProof.Rows
abbrev R2 := V → V → Hp → VK → Prop
def OpR (X : Cx) (f : Value → Value → Sem Value) (r : R2) : Prop :=
  ∀ (pins : List (Addr × Obj)) (s : Shared) (σ : St) (H : Hp) (x y : V) (v u : Value) (Q : VK), Inv X pins σ H s → RelV x v → RelV y u → r x y H Q →
    wpAny (model X.prog X.w) X.A (f v u) (EP X pins σ Q) X.xe s
def UnR (X : Cx) (f : Value → Sem Value) (r : V → Hp → VK → Prop) : Prop :=
  ∀ (pins : List (Addr × Obj)) (s : Shared) (σ : St) (H : Hp) (x : V) (v : Value) (Q : VK), Inv X pins σ H s → RelV x v → r x H Q →
    wpAny (model X.prog X.w) X.A (f v) (EP X pins σ Q) X.xe s
def CallR (X : Cx) (f : Value) (r : List V → Hp → VK → Prop) : Prop :=
  ∀ (pins : List (Addr × Obj)) (s : Shared) (σ : St) (H : Hp) (xs : List V) (us : List Value) (Q : VK), Inv X pins σ H s → Vals xs us → r xs H Q →
    wpAny (model X.prog X.w) X.A (call f us) (EP X pins σ Q) X.xe s
def TruR (X : Cx) (r : V → Hp → (Bool → Hp → Prop) → Prop) : Prop :=
  ∀ (pins : List (Addr × Obj)) (s : Shared) (σ : St) (H : Hp) (x : V) (v : Value) (Q : Bool → Hp → Prop), Inv X pins σ H s → RelV x v → r x H Q →
    wpAny (model X.prog X.w) X.A (truthy v) (TP X pins σ Q) X.xe s
def tOp (r : R2) (ta tb : TE) : TE := fun σ H Q => ta σ H fun x H1 => tb σ H1 fun y H2 => r x y H2 Q
def tUn (r : V → Hp → VK → Prop) (ta : TE) : TE := fun σ H Q => ta σ H fun x H1 => r x H1 Q
def rI (C : Int → Int → Prop) (g : Int → Int → V) : R2 := fun x y H Q => ∃ i j, x = .int i ∧ y = .int j ∧ C i j ∧ Q (g i j) H
def rI0 (g : Int → Int → V) : R2 := fun x y H Q => ∃ i j, x = .int i ∧ y = .int j ∧ Q (g i j) H
def rU (g : Int → V) : V → Hp → VK → Prop := fun x H Q => ∃ i, x = .int i ∧ Q (g i) H
section
variable {X : Cx} {a b c : Expr} {ta tb tc : TE} {pos : Pos}
theorem binT (ha : PE X a ta) (hb : PE X b tb) {pins : List (Addr × Obj)} {s : Shared} {σ : St} {H : Hp} {R : V → V → Hp → Prop} (I : Inv X pins σ H s)
    (h : ta σ H fun x H1 => tb σ H1 fun y H2 => R x y H2) {Q : Value → Shared → Prop} {f : Value → Value → Sem Value}
    (hf : ∀ v u s2 x y H2, Inv X pins σ H2 s2 → RelV x v → RelV y u → R x y H2 → wpAny (model X.prog X.w) X.A (f v u) Q X.xe s2) :
    wpAny (model X.prog X.w) X.A (eval a X.env) (fun v s₁ => wpAny (model X.prog X.w) X.A (eval b X.env) (fun u s₂ => wpAny (model X.prog X.w) X.A (f v u) Q X.xe s₂) X.xe s₁) X.xe s := by
  refine thn (ha pins s σ H _ I h) fun v s1 ⟨x, H1, I1, r1, q1⟩ => ?_
  refine thn (hb pins s1 σ H1 _ I1 q1) fun u s2 ⟨y, H2, I2, r2, q2⟩ => ?_
  exact hf v u s2 x y H2 I2 r1 r2 q2
theorem pe_op {op : Operator} {r : R2} (ho : OpR X (binaryOp op) r) (ha : PE X a ta) (hb : PE X b tb) : PE X (.BinOp a op b pos) (tOp r ta tb) := by
  intro pins s σ H Q I h
  exact wpAny_BinOp (binT ha hb I h fun v u s2 x y H2 I2 rx ry q => ho pins s2 σ H2 x y v u Q I2 rx ry q)
theorem pe_un {op : UnaryOp} {r : V → Hp → VK → Prop} (ho : UnR X (unaryOp op) r) (ha : PE X a ta) : PE X (.UnaryOp op a pos) (tUn r ta) := by
  intro pins s σ H Q I h
  exact UnaryOp_ (thn (ha pins s σ H _ I h) fun v s1 ⟨x, H1, I1, r1, q1⟩ => ho pins s1 σ H1 x v Q I1 r1 q1)
theorem opI {f : Value → Value → Sem Value} {C : Int → Int → Prop} {g : Int → Int → Int}
    (rule : ∀ (i j : Int) (t u : Tok) (s : Shared) (Q : Value → Shared → Prop) (E : Value → Shared → Prop), C i j → Q (.int (g i j) s.toks) { s with toks := s.toks + 1 } → wpAny (model X.prog X.w) X.A (f (.int i t) (.int j u)) Q E s) :
    OpR X f (rI C fun i j => .int (g i j)) := by
  intro pins s σ H x y v u Q I rx ry h
  obtain ⟨i, j, rfl, rfl, hc, q⟩ := h
  obtain ⟨t, rfl⟩ := rx
  obtain ⟨t', rfl⟩ := ry
  exact rule i j t t' s _ _ hc ⟨.int (g i j), H, I.tok _, ⟨_, rfl⟩, q⟩
theorem opI0 {f : Value → Value → Sem Value} {g : Int → Int → Int}
    (rule : ∀ (i j : Int) (t u : Tok) (s : Shared) (Q : Value → Shared → Prop) (E : Value → Shared → Prop), Q (.int (g i j) s.toks) { s with toks := s.toks + 1 } → wpAny (model X.prog X.w) X.A (f (.int i t) (.int j u)) Q E s) :
    OpR X f (rI0 fun i j => .int (g i j)) := by
  intro pins s σ H x y v u Q I rx ry h
  obtain ⟨i, j, rfl, rfl, q⟩ := h
  obtain ⟨t, rfl⟩ := rx
  obtain ⟨t', rfl⟩ := ry
  exact rule i j t t' s _ _ ⟨.int (g i j), H, I.tok _, ⟨_, rfl⟩, q⟩
theorem opB0 {f : Value → Value → Sem Value} {g : Int → Int → Bool}
    (rule : ∀ (i j : Int) (t u : Tok) (s : Shared) (Q : Value → Shared → Prop) (E : Value → Shared → Prop), Q (.bool (g i j)) s → wpAny (model X.prog X.w) X.A (f (.int i t) (.int j u)) Q E s) :
    OpR X f (rI0 fun i j => .bl (g i j)) := by
  intro pins s σ H x y v u Q I rx ry h
  obtain ⟨i, j, rfl, rfl, q⟩ := h
  obtain ⟨t, rfl⟩ := rx
  obtain ⟨t', rfl⟩ := ry
  exact rule i j t t' s _ _ ⟨.bl (g i j), H, I, rfl, q⟩
def CDiv (i j : Int) : Prop := 0 < j ∧ j < 1073741824
def CPow (i j : Int) : Prop := 0 ≤ j ∧ j ≤ 1000000 ∧ i.natAbs < 2 ^ 64
def CMul (i j : Int) : Prop := (-(2 ^ 64) < i ∧ i < 2 ^ 64) ∨ (-(2 ^ 64) < j ∧ j < 2 ^ 64)
theorem CMul.ok {i j : Int} (h : CMul i j) : IntMulOk i j := by
  rcases h with ⟨h1, h2⟩ | ⟨h1, h2⟩
  · exact .of_left (intBits_le_64 h1 h2)
  · exact .of_right (intBits_le_64 h1 h2)
theorem op_add : OpR X (binaryOp .Add) (rI0 fun i j => .int (i + j)) := opI0 fun _ _ _ _ _ _ _ q => add_int q
theorem op_sub : OpR X (binaryOp .Sub) (rI0 fun i j => .int (i - j)) := opI0 fun _ _ _ _ _ _ _ q => sub_int q
theorem op_mul : OpR X (binaryOp .Mult) (rI CMul fun i j => .int (i * j)) := opI fun _ _ _ _ _ _ _ hc q => mul_int q hc.ok
theorem op_fdiv : OpR X (binaryOp .FloorDiv) (rI CDiv fun i j => .int (i / j)) := opI fun i j _ _ _ _ _ hc q => by
  have h1 : (0 : Int) < j := hc.1
  have h2 : j < 1073741824 := hc.2
  exact floordiv_int (by omega) (by rw [Int.fdiv_eq_ediv_of_nonneg i (by omega)]; exact q) (.inl (PyProof.noPylong_small (by omega)))
theorem op_mod : OpR X (binaryOp .Mod) (rI (fun _ j => 0 < j) fun i j => .int (i % j)) := opI fun i j _ _ _ _ _ hc q => by
  have h1 : (0 : Int) < j := hc
  exact mod_int' (by omega) (by rw [Int.fmod_eq_emod_of_nonneg i (by omega)]; exact q)
theorem op_pow : OpR X (binaryOp .Pow) (rI CPow fun i j => .int (i ^ j.toNat)) := opI fun _ _ _ _ _ _ _ hc q => pow_int_small hc.1 hc.2.1 hc.2.2 q
theorem unI {f : Value → Sem Value} {g : Int → Int}
    (rule : ∀ (i : Int) (t : Tok) (s : Shared) (Q : Value → Shared → Prop) (E : Value → Shared → Prop), Q (.int (g i) s.toks) { s with toks := s.toks + 1 } → wpAny (model X.prog X.w) X.A (f (.int i t)) Q E s) :
    UnR X f (rU fun i => .int (g i)) := by
  intro pins s σ H x v Q I rx h
  obtain ⟨i, rfl, q⟩ := h
  obtain ⟨t, rfl⟩ := rx
  exact rule i t s _ _ ⟨.int (g i), H, I.tok _, ⟨_, rfl⟩, q⟩
theorem un_neg : UnR X (unaryOp .USub) (rU fun i => .int (-i)) := unI fun _ _ _ _ _ q => neg_int q
end
def scal : V → V → Bool
  | .non, .non => true | .non, .int _ => true | .int _, .non => true | .non, .bl _ => true | .bl _, .non => true | .non, .str _ => true | .str _, .non => true
  | .int _, .int _ => true | .bl _, .bl _ => true | .str _, .str _ => true | .byt _, .byt _ => true
  | .int _, .str _ => true | .str _, .int _ => true | .bl _, .str _ => true | .str _, .bl _ => true
  | _, _ => false
def rEq : R2 := fun x y H Q => scal x y = true ∧ Q (.bl (decide (x = y))) H
def rNe : R2 := fun x y H Q => scal x y = true ∧ Q (.bl (!decide (x = y))) H
theorem dec_int {i j : Int} : decide (V.int i = V.int j) = (i == j) := by
  rw [Bool.eq_iff_iff]
  simp
theorem dec_bl {i j : Bool} : decide (V.bl i = V.bl j) = (i == j) := by
  rw [Bool.eq_iff_iff]
  simp
theorem dec_str {i j : Str} : decide (V.str i = V.str j) = (i == j) := by
  rw [Bool.eq_iff_iff]
  simp
theorem dec_byt {i j : Array UInt8} : decide (V.byt i = V.byt j) = (i.toList == j.toList) := by
  rw [Bool.eq_iff_iff]
  cases i
  cases j
  simp
section
variable {X : Cx} {a b c : Expr} {ta tb tc : TE} {pos : Pos}
theorem fin_bl {pins : List (Addr × Obj)} {σ : St} {H : Hp} {s : Shared} {Q : VK} {k k' : Bool} (I : Inv X pins σ H s) (q : Q (.bl k) H) (e : k = k') : EP X pins σ Q (.bool k') s := by
  subst e
  exact ⟨.bl k, H, I, rfl, q⟩
theorem op_eq : OpR X (compareOp .Eq) rEq := by
  intro pins s σ H x y v u Q I rx ry h
  obtain ⟨hs, q⟩ := h
  cases x with
  | non =>
    cases rx
    cases y with
    | non => cases ry; exact PySem.EqNone.eq_none_none (fin_bl I q (by simp))
    | bl j => cases ry; exact PySem.EqNone.eq_none_bool (fin_bl I q (by simp))
    | int j => obtain ⟨t', rfl⟩ := ry; exact PySem.EqNone.eq_none_int (fin_bl I q (by simp))
    | str j => obtain ⟨t', rfl⟩ := ry; exact PySem.EqNone.eq_none_str (fin_bl I q (by simp))
    | _ => exact absurd (show false = true from hs) Bool.false_ne_true
  | bl i =>
    cases rx
    cases y with
    | non => cases ry; exact PySem.EqNone.eq_bool_none (fin_bl I q (by simp))
    | bl j => cases ry; exact eq_bool (fin_bl I q dec_bl)
    | str j => obtain ⟨t', rfl⟩ := ry; exact PySem.EqMixed.eq_bool_str (fin_bl I q (by simp))
    | _ => exact absurd (show false = true from hs) Bool.false_ne_true
  | int i =>
    obtain ⟨t, rfl⟩ := rx
    cases y with
    | non => cases ry; exact PySem.EqNone.eq_int_none (fin_bl I q (by simp))
    | int j => obtain ⟨t', rfl⟩ := ry; exact eq_int (fin_bl I q dec_int)
    | str j => obtain ⟨t', rfl⟩ := ry; exact PySem.EqMixed.eq_int_str (fin_bl I q (by simp))
    | _ => exact absurd (show false = true from hs) Bool.false_ne_true
  | str i =>
    obtain ⟨t, rfl⟩ := rx
    cases y with
    | non => cases ry; exact PySem.EqNone.eq_str_none (fin_bl I q (by simp))
    | bl j => cases ry; exact PySem.EqMixed.eq_str_bool (fin_bl I q (by simp))
    | int j => obtain ⟨t', rfl⟩ := ry; exact PySem.EqMixed.eq_str_int (fin_bl I q (by simp))
    | str j => obtain ⟨t', rfl⟩ := ry; exact eq_str (fin_bl I q dec_str)
    | _ => exact absurd (show false = true from hs) Bool.false_ne_true
  | byt i =>
    obtain ⟨t, rfl⟩ := rx
    cases y with
    | byt j => obtain ⟨t', rfl⟩ := ry; exact PySem.W.eq_bytes (fin_bl I q dec_byt)
    | _ => exact absurd (show false = true from hs) Bool.false_ne_true
  | _ => cases y <;> exact absurd (show false = true from hs) Bool.false_ne_true
theorem op_ne : OpR X (compareOp .NotEq) rNe := by
  intro pins s σ H x y v u Q I rx ry h
  obtain ⟨hs, q⟩ := h
  cases x with
  | non =>
    cases rx
    cases y with
    | non => cases ry; exact PySem.EqNone.ne_none_none (fin_bl I q (by simp))
    | bl j => cases ry; exact PySem.EqNone.ne_none_bool (fin_bl I q (by simp))
    | int j => obtain ⟨t', rfl⟩ := ry; exact PySem.EqNone.ne_none_int (fin_bl I q (by simp))
    | str j => obtain ⟨t', rfl⟩ := ry; exact PySem.EqNone.ne_none_str (fin_bl I q (by simp))
    | _ => exact absurd (show false = true from hs) Bool.false_ne_true
  | bl i =>
    cases rx
    cases y with
    | non => cases ry; exact PySem.EqNone.ne_bool_none (fin_bl I q (by simp))
    | bl j => cases ry; exact ne_bool (fin_bl I q (congrArg not dec_bl))
    | str j => obtain ⟨t', rfl⟩ := ry; exact PySem.EqMixed.ne_bool_str (fin_bl I q (by simp))
    | _ => exact absurd (show false = true from hs) Bool.false_ne_true
  | int i =>
    obtain ⟨t, rfl⟩ := rx
    cases y with
    | non => cases ry; exact PySem.EqNone.ne_int_none (fin_bl I q (by simp))
    | int j => obtain ⟨t', rfl⟩ := ry; exact ne_int (fin_bl I q (congrArg not dec_int))
    | str j => obtain ⟨t', rfl⟩ := ry; exact PySem.EqMixed.ne_int_str (fin_bl I q (by simp))
    | _ => exact absurd (show false = true from hs) Bool.false_ne_true
  | str i =>
    obtain ⟨t, rfl⟩ := rx
    cases y with
    | non => cases ry; exact PySem.EqNone.ne_str_none (fin_bl I q (by simp))
    | bl j => cases ry; exact PySem.EqMixed.ne_str_bool (fin_bl I q (by simp))
    | int j => obtain ⟨t', rfl⟩ := ry; exact PySem.EqMixed.ne_str_int (fin_bl I q (by simp))
    | str j => obtain ⟨t', rfl⟩ := ry; exact ne_str (fin_bl I q (congrArg not dec_str))
    | _ => exact absurd (show false = true from hs) Bool.false_ne_true
  | byt i =>
    obtain ⟨t, rfl⟩ := rx
    cases y with
    | byt j => obtain ⟨t', rfl⟩ := ry; exact PySem.W.ne_bytes (fin_bl I q (congrArg not dec_byt))
    | _ => exact absurd (show false = true from hs) Bool.false_ne_true
  | _ => cases y <;> exact absurd (show false = true from hs) Bool.false_ne_true
theorem op_lt : OpR X (compareOp .Lt) (rI0 fun i j => .bl (decide (i < j))) := opB0 fun _ _ _ _ _ _ _ q => lt_int q
theorem op_gt : OpR X (compareOp .Gt) (rI0 fun i j => .bl (decide (j < i))) := opB0 fun _ _ _ _ _ _ _ q => gt_int q
theorem op_notN : OpR X (compareOp .IsNot) (fun x y H Q => y = .non ∧ Q (.bl (!decide (x = .non))) H) := by
  intro pins s σ H x y v u Q I rx ry h
  obtain ⟨rfl, q⟩ := h
  cases ry
  refine isnot_none_gen (fin_bl I q ?_)
  cases x <;> first
    | (cases rx; rfl)
    | (obtain ⟨t, rfl⟩ := rx; rfl)
theorem nomark (b : Expr) {op : CmpOp} (h : op ≠ .In := by decide) (h2 : op ≠ .NotIn := by decide) : behindInMarks op b = false := by
  have e1 : (op == CmpOp.In) = false := by cases op <;> first | rfl | exact absurd rfl h
  have e2 : (op == CmpOp.NotIn) = false := by cases op <;> first | rfl | exact absurd rfl h2
  cases b <;> simp [behindInMarks, e1, e2]
theorem pe_cmpR {op : CmpOp} {r : R2} (ho : OpR X (compareOp op) r) (ha : PE X a ta) (hb : PE X b tb) (hm : behindInMarks op b = false) : PE X (.Compare a [op] [b] pos) (tOp r ta tb) := by
  intro pins s σ H Q I h
  exact wpAny_Compare1 (binT ha hb I h fun v u s2 x y H2 I2 rx ry q => ho pins s2 σ H2 x y v u Q I2 rx ry q) hm
def tTest (t : TE) : TT := fun σ H Q => t σ H fun x H' => ∃ k, x = .bl k ∧ Q k H'
theorem pt_cmpR {op : CmpOp} {r : R2} (ho : OpR X (compareOp op) r) (ha : PE X a ta) (hb : PE X b tb) (hm : behindInMarks op b = false) : PT X (.Compare a [op] [b] pos) (tTest (tOp r ta tb)) := by
  intro pins s σ H Q I h
  refine wpAny_isTrue_Compare1 (thn (ha pins s σ H _ I h) fun v s1 ⟨x, H1, I1, r1, q1⟩ => thn (hb pins s1 σ H1 _ I1 q1) fun u s2 ⟨y, H2, I2, r2, q2⟩ =>
    thn (ho pins s2 σ H2 x y v u _ I2 r1 r2 q2) fun c s3 ⟨z, H3, I3, r3, k, e, q3⟩ => ?_) hm
  subst e
  cases r3
  exact wpAny_truthy_bool ⟨H3, I3, q3⟩
def TruV (K : PySem.W.Frag) (x : V) (H : Hp) (k : Bool) : Prop :=
  match x with
  | .non => k = false
  | .bl b => k = b
  | .int i => k = (i != 0)
  | .str y => y.length ≤ sizeLine ∧ k = ((y.length : Int) != 0)
  | .byt y => y.size ≤ sizeLine ∧ k = ((y.size : Int) != 0)
  | .ref p => (∃ xs, SqL K H p xs ∧ k = !xs.isEmpty) ∨ (∃ xs, SqT K H p xs ∧ k = !xs.isEmpty) ∨ ∃ kvs, H p = some (.dK kvs) ∧ k = !kvs.isEmpty
  | _ => False
theorem isEmpty_kv {κ : Type} {kvs : List (κ × V)} {vs : List (κ × Value)} (r : KV kvs vs) : (!vs.isEmpty) = !kvs.isEmpty := by
  cases r <;> rfl
theorem isEmpty_of {xs : List V} {its : List Value} (r : Vals xs its) : (!its.toArray.isEmpty) = !xs.isEmpty := by
  cases r <;> simp
theorem line63 : (sizeLine : Nat) < 2 ^ 63 := by rw [sizeLine_eq]; decide
theorem tru_ok : TruR X (fun x H Q => ∃ k, TruV X.K x H k ∧ Q k H) := by
  intro pins s σ H x v Q I rx h
  obtain ⟨k, e, q⟩ := h
  have hl := line63
  have hs : sizeLine = 16777216 := sizeLine_eq
  cases x with
  | non =>
    cases rx
    have e' : k = false := e
    subst e'
    exact truthy_none ⟨H, I, q⟩
  | bl b =>
    cases rx
    have e' : k = b := e
    subst e'
    exact wpAny_truthy_bool ⟨H, I, q⟩
  | int i =>
    obtain ⟨t, rfl⟩ := rx
    have e' : k = (i != 0) := e
    subst e'
    exact PySem.P.truthy_int ⟨H, I, q⟩
  | str y =>
    obtain ⟨t, rfl⟩ := rx
    obtain ⟨hy, e'⟩ : y.length ≤ sizeLine ∧ k = ((y.length : Int) != 0) := e
    subst e'
    exact PySem.P.truthy_str (by omega) ⟨H, I.tok _, q⟩
  | byt y =>
    obtain ⟨t, rfl⟩ := rx
    obtain ⟨hy, e'⟩ : y.size ≤ sizeLine ∧ k = ((y.size : Int) != 0) := e
    subst e'
    exact PySem.W.truthy_bytes (by omega) ⟨H, I.tok _, q⟩
  | ref p =>
    cases rx
    have e' : (∃ xs, SqL X.K H p xs ∧ k = !xs.isEmpty) ∨ (∃ xs, SqT X.K H p xs ∧ k = !xs.isEmpty) ∨ ∃ kvs, H p = some (.dK kvs) ∧ k = !kvs.isEmpty := e
    rcases e' with ⟨xs, hx, e'⟩ | ⟨xs, hx, e'⟩ | ⟨kvs, hx, e'⟩
    · subst e'
      obtain ⟨its, r, pl, hz⟩ := I.list hx
      have hlen := r.length
      exact wpAny_truthy_list pl.isList (by simp only [List.size_toArray]; omega) ⟨H, I.tok _, by rw [isEmpty_of r]; exact q⟩
    · subst e'
      obtain ⟨its, r, pl, hz⟩ := I.tuple hx
      have hlen := r.length
      exact truthy_tuple pl (by simp only [List.size_toArray]; omega) ⟨H, I.tok _, by rw [isEmpty_of r]; exact q⟩
    · subst e'
      obtain ⟨hz, hS, vs, r, m⟩ : kvs.length ≤ sizeLine ∧ (p == sysModules) = false ∧ ∃ vs, KV kvs vs ∧ s.heap.DictOf (mixKind X.prog X.w) p vs := I.hok p _ hx
      have hlen : kvs.length = vs.length := Paired.length r
      exact wpAny_truthy_dict hS m (by omega) ⟨H, I.tok _, by rw [isEmpty_kv r]; exact q⟩
  | _ => exact (show False from e).elim
theorem pt_truth (ha : PE X a ta) (he : ∀ whole, isTrue a X.env whole = (do let v ← whole; standAt a.pos; holding [v] (truthy v))) :
    PT X a (fun σ H Q => ta σ H fun x H' => ∃ k, TruV X.K x H' k ∧ Q k H') := by
  intro pins s σ H Q I h
  exact isTrue_plain (thn (ha pins s σ H _ I h) fun v s1 ⟨x, H1, I1, r1, q1⟩ => tru_ok pins s1 σ H1 x v Q I1 r1 q1) (he _)
theorem op_add_str : OpR X (binaryOp .Add) (fun x y H Q => ∃ i j, x = .str i ∧ y = .str j ∧ i.length + j.length ≤ sizeLine ∧ Q (.str (i ++ j)) H) := by
  intro pins s σ H x y v u Q I rx ry h
  obtain ⟨i, j, rfl, rfl, hz, q⟩ := h
  obtain ⟨t, rfl⟩ := rx
  obtain ⟨t', rfl⟩ := ry
  exact add_str (fun t' tk => ⟨.str (i ++ j), H, I.tok _, ⟨_, rfl⟩, q⟩) hz
theorem vals1 {x : V} {us : List Value} (r : Vals [x] us) : ∃ u, us = [u] ∧ RelV x u := by
  cases r with
  | cons r1 r2 => cases r2; exact ⟨_, rfl, r1⟩
end
end L2
namespace L2
open PySem PySem.Spec PyProof.Rows
structure ObjM (h : Heap) (x dx C : Addr) (mA : Str → Option Value) : Prop where
  obj : h.get? x = some (PySem.W.instObj C dx)
  ns : h.Ns1 dx mA
  ne : dx ≠ x
theorem lookIn_ns {h : Heap} {dx : Addr} {mA : Str → Option Value} (n : h.Ns1 dx mA) : ∃ od, h.get? dx = some od ∧ ∀ name, PySem.W.lookIn name od = some (mA name) := by
  obtain ⟨o, es, ep, ho, hd, hk, _, hm⟩ := n
  refine ⟨o, ho, fun name => ?_⟩
  have e := hm name
  unfold nsFind findBy at e
  rw [← Array.find?_toList] at e
  unfold PySem.W.lookIn
  rw [hd]
  dsimp only
  split
  · rename_i y q
    rw [q] at e
    exact congrArg some e
  · rename_i q
    rw [q] at e
    have a : es.toList.any (·.refKey) = false := by
      rw [List.any_eq_false]
      intro y hy
      obtain ⟨z, t, hkey⟩ := hk y (Array.mem_toList_iff.mp hy)
      simp [DictEntry.refKey, hkey]
    have a' : ¬ es.toList.any (·.refKey) = true := by rw [a]; exact Bool.false_ne_true
    rw [if_neg a']
    exact congrArg some e
theorem ObjM.look {h : Heap} {x dx C : Addr} {mA : Str → Option Value} (I : ObjM h x dx C mA) : ∃ od, PySem.W.InstAt h x (PySem.W.instObj C dx) C (some od) ∧ ∀ name, PySem.W.lookIn name od = some (mA name) :=
  let ⟨od, ho, hl⟩ := lookIn_ns I.ns
  ⟨od, ⟨I.obj, rfl, rfl, ho⟩, hl⟩
section
variable {prog : Program} {w : World} {A : Around} {E : Value → Shared → Prop} {s : Shared} {K : PySem.W.Frag} {x dx C f : Addr} {mA : Str → Option Value} {name : Str} {v : Value}
end
theorem RelO.some_of {v : V} {o : Option Value} (r : RelO (some v) o) : ∃ u, o = some u ∧ RelV v u := by
  cases o with
  | none => exact (show False from r).elim
  | some u => exact ⟨u, rfl, r⟩
theorem handed_of {v : V} {u : Value} (r : RelV v u) : PySem.W.handedIn u = true := by
  cases v with
  | non => cases (show u = Value.none from r); rfl
  | bl b => cases (show u = Value.bool b from r); rfl
  | int i => obtain ⟨t, e⟩ := (show ∃ t, u = Value.int i t from r); cases e; rfl
  | str x => obtain ⟨t, e⟩ := (show ∃ t, u = Value.str x t from r); cases e; rfl
  | byt b => obtain ⟨t, e⟩ := (show ∃ t, u = Value.bytes b t from r); cases e; rfl
  | flt b => obtain ⟨t, e⟩ := (show ∃ t, u = Value.float b t from r); cases e; rfl
  | ref a => cases (show u = Value.ref a from r); rfl
  | ty n => cases (show u = Value.type n from r); rfl
section
variable {P : Program} {w : World} {H H' : Hp} {h h' : Heap} {a C dx : Addr} {fs fs' : List (Str × V)}
theorem ins_get (hok : HOk P w H h) (e : H a = some (.ins C dx fs)) : ∃ mA, ObjM h a dx C mA ∧ (∀ f, RelO (fs.lookup f) (mA f)) ∧ PySem.Within mA (fs.map (·.1)) ∧ fs.length ≤ 1000 ∧ H dx = some (.own a) := by
  obtain ⟨d, z, ne, ob, mA, n, r, q⟩ := (show ObjOk P w H h a (.ins C dx fs) from hok a _ e)
  exact ⟨mA, ⟨ob, n, ne⟩, r, q, z, d⟩
end
structure Cls (K : PySem.W.Frag) (C : Addr) : Prop where
  pg : PySem.W.plainGet K C Str.empty = true
  hd : PySem.W.hasDictIn K C = true
  po : PySem.W.plainOver K C = true
  sa : PySem.W.findIn K (.ref C) "__setattr__" = some (some (.builtin "object.__setattr__"))
theorem Cls.get {K : PySem.W.Frag} {C : Addr} (c : Cls K C) (f : Str) : PySem.W.plainGet K C f = true := c.pg
def NoAttr (K : PySem.W.Frag) (C : Addr) (f : Str) : Prop := PySem.W.findIn K (.ref C) f = some none
section
variable {X : Cx} {pins : List (Addr × Obj)} {σ : St} {H : Hp} {s : Shared} {a C dx : Addr} {fs : List (Str × V)} {f : Str} {v : V} {A : Around} {E : Value → Shared → Prop}
theorem attr_of {prog : Program} {w : World} {env : Env} {e : Expr} {f : Str} {pos : Pos} {s : Shared} {Q : Value → Shared → Prop} (hb : attributeBase e f env (eval e env) = eval e env)
    (h : wpAny (model prog w) A (eval e env) (fun o s₁ => wpAny (model prog w) A (getAttr o f true) Q E s₁) E s) : wpAny (model prog w) A (eval (.Attribute e f pos) env) Q E s :=
  Attribute_any_ h (by rw [arm_eval_Attribute, hb])
end
section
variable {X : Cx} {o e value : Expr} {f : Str} {pos pos' tpos : Pos} {ta tv : TE}
end
section
variable {X : Cx} {pins : List (Addr × Obj)} {σ : St} {H : Hp} {s : Shared} {A : Around} {E : Value → Shared → Prop} {Q : Value → Shared → Prop} {c : Value} {b : Bool}
inductive TyOf (K : PySem.W.Frag) (H : Hp) : V → Value → Prop where
  | non : TyOf K H .non (.type "NoneType")
  | bl (x : Bool) : TyOf K H (.bl x) (.type "bool")
  | int (i : Int) : TyOf K H (.int i) (.type "int")
  | str (x : Str) : TyOf K H (.str x) (.type "str")
  | flt (x : UInt64) : TyOf K H (.flt x) (.type "float")
  | lst {a : Addr} {xs : List V} (e : H a = some (.lst xs)) : TyOf K H (.ref a) (.type "list")
  | frz {a : Addr} {o : Obj} {xs : List V} (e : H a = some (.frz o (.lst xs))) : TyOf K H (.ref a) (.type "list")
  | tup {a : Addr} {xs : List V} (e : H a = some (.tup xs)) : TyOf K H (.ref a) (.type "tuple")
  | dK {a : Addr} {kvs : List (Key × V)} (e : H a = some (.dK kvs)) : TyOf K H (.ref a) (.type "dict")
  | dT {a : Addr} {kvs : List (List Key × V)} (e : H a = some (.dT kvs)) : TyOf K H (.ref a) (.type "dict")
  | ins {a C dx : Addr} {fs : List (Str × V)} (e : H a = some (.ins C dx fs)) (cl : Cls K C) (ha : PySem.W.findIn K (.ref C) "__class__" = some (some (.builtin "object.__class__")))
      (hn : PySem.W.specialIn K (.builtin "object.__class__") "__get__" = some (some (.builtin "getset_descriptor.__get__"))) (htk : PySem.W.takesIn K (.builtin "object.__class__") = some true)
      (hm : PySem.W.mroIn K C (.type "object") = some true) : TyOf K H (.ref a) (.ref C)
theorem isinst_ok {x : V} {u t : Value} (I : Inv X pins σ H s) (rx : RelV x u) (ty : TyOf X.K H x t) (e : PySem.W.kitOne X.K t c = some b) (h : ∀ tk, Q (.bool b) { s with toks := tk }) :
    wpAny (model X.prog X.w) A (call (.builtin "isinstance") [u, c]) Q E s := by
  cases ty with
  | non => cases (show u = Value.none from rx); exact PySem.W.kia_one PySem.W.kitx_none I.kIn True.intro e (fun z => nomatch z) h
  | bl y => cases (show u = Value.bool y from rx); exact PySem.W.kia_one PySem.W.kitx_bool I.kIn True.intro e (fun z => nomatch z) h
  | int i => obtain ⟨t, q⟩ := (show ∃ t, u = Value.int i t from rx); cases q; exact PySem.W.kia_one PySem.W.kitx_int I.kIn True.intro e (fun z => nomatch z) h
  | str y => obtain ⟨t, q⟩ := (show ∃ t, u = Value.str y t from rx); cases q; exact PySem.W.kia_one PySem.W.kitx_str I.kIn True.intro e (fun z => nomatch z) h
  | flt y => obtain ⟨t, q⟩ := (show ∃ t, u = Value.float y t from rx); cases q; exact PySem.W.kia_one PySem.W.kitx_float I.kIn True.intro e (fun z => nomatch z) h
  | @lst a xs ea =>
    cases (show u = Value.ref a from rx)
    obtain ⟨_, _, n, _, h1⟩ := (show ObjOk X.prog X.w H s.heap a (.lst xs) from I.hok a _ ea)
    exact PySem.W.kia_one PySem.W.kitx_list I.kIn ⟨_, h1, rfl⟩ e (fun z => nomatch z) h
  | @frz a ob xs ea =>
    cases (show u = Value.ref a from rx)
    obtain ⟨_, _, _, n, _, h1⟩ := (show ObjOk X.prog X.w H s.heap a (.frz ob (.lst xs)) from I.hok a _ ea)
    exact PySem.W.kia_one PySem.W.kitx_list I.kIn ⟨_, h1, rfl⟩ e (fun z => nomatch z) h
  | @tup a xs ea =>
    cases (show u = Value.ref a from rx)
    obtain ⟨_, _, _, p⟩ := (show ObjOk X.prog X.w H s.heap a (.tup xs) from I.hok a _ ea)
    obtain ⟨o, h1, h2, _⟩ := p
    exact PySem.W.kia_one PySem.W.kitx_tuple I.kIn ⟨o, h1, h2⟩ e (fun z => nomatch z) h
  | @dK a kvs ea =>
    cases (show u = Value.ref a from rx)
    obtain ⟨_, _, vs, _, p⟩ := (show ObjOk X.prog X.w H s.heap a (.dK kvs) from I.hok a _ ea)
    obtain ⟨o, es, ep, h1, h2, _⟩ := p
    exact PySem.W.kia_one PySem.W.kitx_dict I.kIn ⟨o, h1, h2.1⟩ e (fun z => nomatch z) h
  | @dT a kvs ea =>
    cases (show u = Value.ref a from rx)
    obtain ⟨_, _, xs, _, o, es, ep, h1, h2, _⟩ := (show ObjOk X.prog X.w H s.heap a (.dT kvs) from I.hok a _ ea)
    exact PySem.W.kia_one PySem.W.kitx_dict I.kIn ⟨o, h1, h2.1⟩ e (fun z => nomatch z) h
  | @ins a C dx fs ea cl ha hn htk hm =>
    cases (show u = Value.ref a from rx)
    obtain ⟨mA, O, _⟩ := ins_get I.hok ea
    obtain ⟨od, J, _⟩ := O.look
    exact PySem.W.kia_one (PySem.W.kitx_own (cl.get _) cl.hd ha hn htk hm) I.kIn J e (fun z => nomatch z) h
end
end L2
namespace L2
open PySem PySem.Spec PyProof.Rows
structure Room (k : Nat) (A : Around) : Prop where
  hd : A.handled = none
  dp : A.depth + 3 * k + 5 < recursionLimit
  un : A.units + 16 * k + 200 < cLine
theorem Room.mono {j k : Nat} {A : Around} (r : Room k A) (h : j ≤ k) : Room j A := ⟨r.hd, by have := r.dp; omega, by have := r.un; omega⟩
theorem Room.deeper {k : Nat} {A : Around} (r : Room (k + 1) A) (env : Env) : Room k (A.deeper env) :=
  ⟨r.hd, by have := r.dp; show A.depth + 1 + 3 * k + 5 < _; omega, by have := r.un; show A.units + 3 + 16 * k + 200 < _; omega⟩
theorem make_depth {A : Around} {C : Addr} {us : List Value} {kw : List (Str × Value)} : (A.under (.builtin "type.__call__" ⟨.ref C :: us, kw⟩)).depth = A.depth + 1 := by
  first | rfl | simp [Around.under, Code.weight, Code.isCreation, Code.isGuard, Code.isCaller, Code.frames, Code.isFrame, guardIds]
theorem make_units {A : Around} {C : Addr} {us : List Value} {kw : List (Str × Value)} : (A.under (.builtin "type.__call__" ⟨.ref C :: us, kw⟩)).units = A.units + 1 := by
  first | rfl | simp [Around.under, Code.cUnits, Code.frames, Code.isFrame]
theorem Room.make {k : Nat} {A : Around} (r : Room (k + 1) A) (C : Addr) (us : List Value) (kw : List (Str × Value)) : Room k (A.under (.builtin "type.__call__" ⟨.ref C :: us, kw⟩)) :=
  ⟨r.hd, by have := r.dp; rw [make_depth]; omega, by have := r.un; rw [make_units]; omega⟩
theorem Room.depth {k : Nat} {A : Around} (r : Room k A) : A.depth < recursionLimit := by have := r.dp; omega
theorem Room.units {k : Nat} {A : Around} (r : Room k A) : A.units + 64 < cLine := by have := r.un; omega
def tNil : TA := fun _ H Q => Q [] H
def tCons (ta : TE) (tr : TA) : TA := fun σ H Q => ta σ H fun x H1 => tr σ H1 fun xs H2 => Q (x :: xs) H2
section
variable {X : Cx} {e : Expr} {es : List Expr} {te : TE} {t : TA} {pos : Pos}
theorem pa_nil : PA X [] tNil := fun _ _ _ _ H Q I h => Calls.spliced_nil ⟨[], H, I, .nil, h⟩
theorem pa_cons (ha : PE X e te) (hr : PA X es t) (hs : starEach (e :: es) X.env = (false, eval e X.env) :: starEach es X.env := by rfl) : PA X (e :: es) (tCons te t) := by
  intro pos pins s σ H Q I h
  rw [hs]
  show wpAny _ _ (spliced ((false, eval e X.env) :: backTo pos (starEach es X.env))) _ _ s
  refine Calls.spliced_cons (thn (ha pins s σ H _ I h) fun u s1 ⟨x, H1, I1, r1, q1⟩ => ?_)
  exact thn (hr pos pins s1 σ H1 _ I1 q1) fun us s2 ⟨xs, H2, I2, r2, q2⟩ => ⟨x :: xs, H2, I2, .cons r1 r2, q2⟩
def tTup (t : TA) : TE := fun σ H Q => t σ H fun xs H1 => xs.length ≤ sizeLine ∧ ∀ p, H1 p = none → Q (.ref p) (upd H1 p (.tup xs))
def tLst (t : TA) : TE := fun σ H Q => t σ H fun xs H1 => xs.length ≤ sizeLine ∧ ∀ p, H1 p = none → Q (.ref p) (upd H1 p (.lst xs))
theorem pe_tup {x1} (h : PA X es t) : PE X (.Tuple es x1 pos) (tTup t) := by
  intro pins s σ H Q I hq
  refine wpAny_Tuple_spliced (thn (h pos pins s σ H _ I hq) fun us s1 ⟨xs, H1, I1, r, z, q⟩ => ⟨by rw [← r.length]; exact z, ?_⟩)
  have hf : H1 s1.heap.objs.size = none := I1.hok.fresh (Nat.le_refl _)
  refine ⟨.ref s1.heap.objs.size, upd H1 s1.heap.objs.size (.tup xs), I1.laid (t' := s1.toks) (fun b u e => Heap.get?_push_of_some _ e) (Nat.le_refl _) ?_, rfl, q _ hf⟩
  exact ⟨z, us, r, ⟨_, Heap.get?_push_size _ rfl, rfl, _, rfl⟩⟩
theorem pe_lst (h : PA X es t) : PE X (.List es pos) (tLst t) := by
  intro pins s σ H Q I hq
  refine wpAny_List_spliced (thn (h pos pins s σ H _ I hq) fun us s1 ⟨xs, H1, I1, r, z, q⟩ => ⟨by rw [← r.length]; exact z, ?_⟩)
  have hf : H1 s1.heap.objs.size = none := I1.hok.fresh (Nat.le_refl _)
  refine ⟨.ref s1.heap.objs.size, upd H1 s1.heap.objs.size (.lst xs), I1.laid (t' := s1.toks) (fun b u e => Heap.get?_push_of_some _ e) (Nat.le_refl _) ?_, rfl, q _ hf⟩
  exact ⟨z, us, 0, r, Heap.get?_push_size _ rfl⟩
end
abbrev Sp := List V → Hp → VK → XK → Prop
abbrev CXT := List Env → Hp → Shared → XK → Value → Shared → Prop
structure Env0 (P : Program) (w : World) (K : PySem.W.Frag) (mg : Str → Option Value) (base : Heap) (A : Around) (outer : List Env) (s : Shared) (H : Hp) : Prop where
  frames : A.frames = some outer
  mod : Mod K mg base
  bs : ∀ b o, base.get? b = some o → s.heap.get? b = some o ∧ H b = none
  bsz : base.objs.size ≤ s.heap.objs.size
  funs : s.heap.FunFrames base outer
  frf : ∀ b ∈ frs outer, H b = none
  hok : HOk P w H s.heap
  bare : AllBare s.gens
def CE (outer : List Env) (P : Program) (w : World) (H : Hp) (s : Shared) (Q : VK) (u : Value) (s' : Shared) : Prop :=
  ∃ v H', s'.os = s.os ∧ AllBare s'.gens ∧ Un (frs outer) [] H H' s.heap s'.heap ∧ HOk P w H' s'.heap ∧ RelV v u ∧ Q v H'
def CR (CX : CXT) (outer : List Env) (P : Program) (w : World) (H : Hp) (s : Shared) (Q : VK) (E : XK) (r : Result) (s' : Shared) : Prop :=
  match r with
  | .ok (.ret u) => CE outer P w H s Q u s'
  | .ok _ => False
  | .error e => CX outer H s E e s'
structure FnOk (P : Program) (w : World) (K : PySem.W.Frag) (mg : Str → Option Value) (base : Heap) (CX : CXT) (k : Nat) (f : Addr) (fd : FuncData) (ps : List Str) (sp : Sp) : Prop where
  len : ∀ vs H Q E, sp vs H Q E → vs.length = ps.length
  run : ∀ (A : Around) (outer : List Env) (s : Shared) (H : Hp) (args : Args) (us : List Value) (vs : List V) (Q : VK) (E : XK), Room k A → Env0 P w K mg base A outer s H → BindsTo s fd args (ps.zip us) → Vals vs us → sp vs H Q E →
    codeAny (model P w) A (.call (.ref f) args) (CR CX outer P w H s Q E) s
theorem Env0.make {P : Program} {w : World} {K : PySem.W.Frag} {mg : Str → Option Value} {base : Heap} {A : Around} {outer : List Env} {s : Shared} {H : Hp} (e : Env0 P w K mg base A outer s H) (C : Addr) (us : List Value) (kw : List (Str × Value)) :
    Env0 P w K mg base (A.under (.builtin "type.__call__" ⟨.ref C :: us, kw⟩)) outer s H := ⟨by first | exact e.frames | (simpa [Around.under, Code.envs, Code.isFrame, pushEnvs] using e.frames), e.mod, e.bs, e.bsz, e.funs, e.frf, e.hok, e.bare⟩
section
variable {X : Cx} {pins : List (Addr × Obj)} {σ : St} {H : Hp} {s s' : Shared}
theorem Inv.env0 (I : Inv X pins σ H s) : Env0 X.prog X.w X.K X.mg X.base X.A X.stack s H :=
  ⟨I.ok.frames, I.ok.mod, I.bs, Nat.le_trans I.ok.bsz I.sz, I.stack, I.stkFree, I.hok, I.bare⟩
theorem Inv.after {Q : VK} {u : Value} (I : Inv X pins σ H s) (h : CE X.stack X.prog X.w H s Q u s') : EP X pins σ Q u s' := by
  obtain ⟨v, H', os, bare, un, hok, r, q⟩ := h
  obtain ⟨hh, g, d, t, os'⟩ := s'
  obtain rfl : os' = s.os := os
  exact ⟨v, H', I.call (h' := hh) (g' := g) (d' := d) (t' := t) (ch := []) un hok bare (fun b z => absurd z (by simp)), r, q⟩
end
def tCall (sp : Sp) (dvs : List V) (E : XK) (t : TA) : TE := fun σ H Q => t σ H fun vs H1 => sp (vs ++ dvs) H1 Q E
def Binds (K : PySem.W.Frag) (fd : FuncData) (ps : List Str) (ds : List Value) : Prop :=
  ∀ (s : Shared) (us : List Value), K.In s.heap → (us ++ ds).length = ps.length → BindsTo s fd ⟨us, []⟩ (ps.zip (us ++ ds))
theorem Binds.all {K : PySem.W.Frag} {fd : FuncData} {ps : List Str} (h : ∀ us : List Value, us.length = ps.length → bindArgs fd ⟨us, []⟩ = pure (ps.zip us)) : Binds K fd ps [] := fun s us _ hl => by
  rw [List.append_nil] at hl ⊢
  exact .of_eq (h us hl)
def Passes (CX : CXT) (X : Cx) (E : XK) : Prop := ∀ (pins : List (Addr × Obj)) (σ : St) (H : Hp) (s : Shared) (e : Value) (s' : Shared), Inv X pins σ H s → CX X.stack H s E e s' → X.xe e s'
section
variable {X : Cx} {CX : CXT} {k : Nat} {f C : Addr} {fd : FuncData} {ps : List Str} {sp : Sp} {dvs : List V} {ds : List Value} {E : XK} {x m : Str} {p pos apos : Pos} {e o : Expr} {es : List Expr} {ta : TE} {t : TA}
theorem run_fn {pins : List (Addr × Obj)} {σ : St} {H : Hp} {s : Shared} {Q : VK} {us : List Value} {vs : List V} (F : FnOk X.prog X.w X.K X.mg X.base CX k f fd ps sp) (hr : Room k X.A) (hb : Binds X.K fd ps ds) (hd : Vals dvs ds) (hx : Passes CX X E)
    (I : Inv X pins σ H s) (r : Vals vs us) (h : sp (vs ++ dvs) H Q E) : wpAny (model X.prog X.w) X.A (call (.ref f) us) (EP X pins σ Q) X.xe s := by
  have r2 : Vals (vs ++ dvs) (us ++ ds) := r.append hd
  have hl : (us ++ ds).length = ps.length := by rw [← r2.length]; exact F.len _ _ _ _ h
  refine wpAny_call (codeAny_mono (F.run X.A X.stack s H ⟨us, []⟩ (us ++ ds) (vs ++ dvs) Q E hr I.env0 (hb s us I.kIn hl) r2 h) fun r s' hq => ?_)
  cases r with
  | error e => exact hx pins σ H s e s' I hq
  | ok fl =>
    cases fl with
    | ret u => exact I.after hq
    | next => exact False.elim hq
    | brk => exact False.elim hq
    | cont => exact False.elim hq
theorem pe_call (F : FnOk X.prog X.w X.K X.mg X.base CX k f fd ps sp) (hr : Room k X.A) (hg : Gl X x) (hm : X.mg x = some (.ref f)) (hk : PySem.W.keepIn X.K (.ref f) = true) (hb : Binds X.K fd ps ds) (hd : Vals dvs ds) (hx : Passes CX X E)
    (ha : PA X (e :: es) t) (hdb : (x == ("__debug__" : Str)) = false := by decide) (he : starEach (e :: es) X.env = (false, eval e X.env) :: starEach es X.env := by rfl) (hpl : (backTo pos (starEach es X.env)).any (·.1) = false := by rfl) :
    PE X (.Call (.Name x p) (e :: es) [] pos) (tCall sp dvs E t) := by
  intro pins s σ H Q I h
  refine wpAny_Call_Name_kw (ld_glob I hg hm ?_ hdb)
  refine PySem.W.callWith_K (h₀ := X.base) I.ok.mod.kin hk (thn (ha pos pins s σ H _ I h) fun us s1 ⟨vs, H1, I1, r, q⟩ => ⟨I1.kIn, ?_⟩) he hpl
  exact run_fn F hr hb hd hx I1 r q
structure Mk (K : PySem.W.Frag) (C f : Addr) : Prop where
  makes : PySem.W.makesIn K C = true
  init : PySem.W.findIn K (.ref C) "__init__" = some (some (.ref f))
  fn : PySem.W.isFn K (.ref f) = true
  kp : PySem.W.keepIn K (.ref C) = true
end
section
variable {X : Cx} {CX : CXT} {k : Nat} {f C : Addr} {fd : FuncData} {ps ks : List Str} {sp : Sp} {E : XK} {x m : Str} {p pos apos kpos : Pos} {e o : Expr} {es : List Expr} {kws : List Keyword} {te ta : TE} {t tk : TA} {nm : Option Str}
variable {g : List Value → List Value → List Value} {gV : List V → List V → List V}
end
structure FnScope (N P : List Str) (sc : Scope) : Prop where
  kind : sc.kind = .function
  co : sc.isCoroutine = false
  gen : sc.isGenerator = false
  nd : N.Nodup
  pre : N.take P.length = P
  par : ∀ x ∈ P, sc.names.lookup x = some .local ∨ sc.names.lookup x = some .cell
  nofree : ∀ y ∈ sc.names, y.2 ≠ .free
theorem bindL_out {kindOf : Str → Option NameKind} {x : Str} : ∀ {binds : List (Str × Value)} {m : Str → Option Value}, (∀ v, (x, v) ∉ binds) → bindL kindOf binds m x = m x
  | [], _, _ => rfl
  | (n, v) :: r, m, h => by
    unfold bindL
    rw [bindL_out fun w hw => h w (List.mem_cons_of_mem _ hw)]
    split
    · have : x ≠ n := by rintro rfl; exact h v List.mem_cons_self
      simp [this]
    · rfl
theorem bindC_out {kindOf : Str → Option NameKind} {x : Str} : ∀ {binds : List (Str × Value)} {m : Str → Option Value}, (∀ v, (x, v) ∉ binds) → bindC kindOf binds m x = m x
  | [], _, _ => rfl
  | (n, v) :: r, m, h => by
    unfold bindC
    rw [bindC_out fun w hw => h w (List.mem_cons_of_mem _ hw)]
    split
    · rfl
    · have : x ≠ n := by rintro rfl; exact h v List.mem_cons_self
      simp [this]
theorem bindL_get {kindOf : Str → Option NameKind} {x : Str} {v : Value} : ∀ {P : List Str} {vs : List Value} {i : Nat} {m : Str → Option Value}, P.Nodup → P[i]? = some x → vs[i]? = some v → kindOf x = some .local →
    bindL kindOf (P.zip vs) m x = some v
  | [], _, _, _, _, h, _, _ => by simp at h
  | _ :: _, [], _, _, _, _, h, _ => by simp at h
  | p :: P, w :: vs, 0, m, nd, h1, h2, hk => by
    simp at h1 h2; subst h1; subst h2
    show bindL kindOf ((p, w) :: P.zip vs) m p = _
    unfold bindL
    rw [bindL_out fun v hv => (List.nodup_cons.mp nd).1 (List.of_mem_zip hv).1, if_pos hk]
    simp
  | p :: P, w :: vs, i + 1, m, nd, h1, h2, hk => by
    show bindL kindOf ((p, w) :: P.zip vs) m x = _
    unfold bindL
    exact bindL_get (i := i) (List.nodup_cons.mp nd).2 (by simpa using h1) (by simpa using h2) hk
theorem bindC_get {kindOf : Str → Option NameKind} {x : Str} {v : Value} : ∀ {P : List Str} {vs : List Value} {i : Nat} {m : Str → Option Value}, P.Nodup → P[i]? = some x → vs[i]? = some v → kindOf x ≠ some .local →
    bindC kindOf (P.zip vs) m x = some v
  | [], _, _, _, _, h, _, _ => by simp at h
  | _ :: _, [], _, _, _, _, h, _ => by simp at h
  | p :: P, w :: vs, 0, m, nd, h1, h2, hk => by
    simp at h1 h2; subst h1; subst h2
    show bindC kindOf ((p, w) :: P.zip vs) m p = _
    unfold bindC
    rw [bindC_out fun v hv => (List.nodup_cons.mp nd).1 (List.of_mem_zip hv).1, if_neg hk]
    simp
  | p :: P, w :: vs, i + 1, m, nd, h1, h2, hk => by
    show bindC kindOf ((p, w) :: P.zip vs) m x = _
    unfold bindC
    exact bindC_get (i := i) (List.nodup_cons.mp nd).2 (by simpa using h1) (by simpa using h2) hk
def start (N : List Str) (vs : List V) : St := vs.map some ++ List.replicate (N.length - vs.length) none
def cxOf (CX : CXT) (P : Program) (w : World) (K : PySem.W.Frag) (mg : Str → Option Value) (base : Heap) (N : List Str) (qual : Str) (scope : Scope) (f : Addr) (cd : Value) (A : Around) (outer : List Env) (s : Shared) (H : Hp) (E : XK) : Cx where
  prog := P
  w := w
  K := K
  mg := mg
  base := base
  A := A.deeper (envOfC qual scope s.heap.objs.size f cd)
  N := N
  s₀ := s
  H₀ := H
  env := envOfC qual scope s.heap.objs.size f cd
  outer := outer
  stack := envOfC qual scope s.heap.objs.size f cd :: outer
  ex := []
  calm := true
  fn := fun _ => true
  pn := []
  xe := fun e s' => wpAny (model P w) (A.deeper (envOfC qual scope s.heap.objs.size f cd)) (leaving (envOfC qual scope s.heap.objs.size f cd) e) (fun _ s'' => CX outer H s E e s'') (fun e' s'' => CX outer H s E e' s'') s'
theorem cell_has {sc : Scope} {n : Nat} {x : Str} (h : sc.names.lookup x = some .cell) : ∃ c, (cellsFrom n sc.names []).lookup x = some c := by
  have q := PySem.W.cellsFrom_some sc.names n [] (.inl h)
  exact Option.isSome_iff_exists.mp q
theorem inv_start {CX : CXT} {P : Program} {w : World} {K : PySem.W.Frag} {mg : Str → Option Value} {base : Heap} {N ps : List Str} {qual : Str} {scope : Scope} {f : Addr} {cd : Value} {A : Around} {outer : List Env} {s s1 : Shared} {H : Hp} {E : XK} {us : List Value} {vs : List V}
    (S : FnScope N ps scope) (hd : A.handled = none) (e0 : Env0 P w K mg base A outer s H) (hl : vs.length = ps.length) (r : Vals vs us)
    (x : InCallC s s.heap.objs.size (bindL (envOfC qual scope s.heap.objs.size f cd).kindOf (ps.zip us) fun _ => none) (cellsFrom (s.heap.objs.size + 1) scope.names []) (bindC (envOfC qual scope s.heap.objs.size f cd).kindOf (ps.zip us) fun _ => none) s1) :
    Inv (cxOf CX P w K mg base N qual scope f cd A outer s H E) [] (start N vs) H s1 := by
  have hpl : ps.length ≤ N.length := by have := congrArg List.length S.pre; rw [List.length_take] at this; omega
  obtain ⟨h1, tk, rfl, hk⟩ := x.done
  have noA : ∀ b : Addr, b ∉ (cxOf CX P w K mg base N qual scope f cd A outer s H E).ex := fun b z => absurd (show b ∈ ([] : List Addr) from z) (by simp)
  refine ⟨⟨e0.mod, S.kind, rfl, rfl, Nat.le_refl _, fun y z c h1 h2 => ?_, fun y hy => ?_, fun y c _ h => ?_, fun _ => hd, Around.frames_deeper e0.frames, .inr ⟨rfl, rfl⟩, fun b z => absurd z (noA b), e0.bs, e0.bsz, fun b _ _ => noA b, fun b z => absurd z (noA b), e0.funs, e0.frf⟩,
    rfl, e0.bare, Un.kept hk, ⟨_, x.toInCall.ns, fun i y v h1 h2 h3 => ?_⟩, fun y c h => ⟨_, x.cell y c h⟩, e0.hok.fresh (Nat.le_refl _), fun y c h => ?_, fun p hp => absurd (show p ∈ ([] : List (Addr × Obj)) from hp) (by simp), e0.hok.kept hk, ?_⟩
  · exact name_of_addr x.apart (PySem.mem_of_lookup h1) (PySem.mem_of_lookup h2)
  · have hy : scope.names.lookup y = some .cell ∨ scope.names.lookup y = some .free := hy
    rcases hy with hy | hy
    · exact cell_has hy
    · exact absurd rfl (S.nofree _ (PySem.mem_of_lookup hy))
  · exact Nat.le_of_lt (x.above y c (PySem.mem_of_lookup h))
  · have hi : i < vs.length := by
      unfold start at h2
      by_cases hi : i < vs.length
      · exact hi
      · rw [List.getElem?_append_right (by simpa using hi)] at h2
        rw [List.getElem?_replicate] at h2
        split at h2 <;> cases h2
    have ha : vs[i]? = some v := by
      unfold start at h2
      rw [List.getElem?_append_left (by simpa using hi), List.getElem?_map] at h2
      cases e : vs[i]? with
      | none => rw [e] at h2; cases h2
      | some a => rw [e] at h2; cases h2; rfl
    obtain ⟨u, hu, rv⟩ := r.get ha
    have hp : ps[i]? = some y := by
      rw [← S.pre, List.getElem?_take_of_lt (by omega)]; exact h1
    have ndP : ps.Nodup := by rw [← S.pre]; exact S.nd.sublist (List.take_sublist _ _)
    refine ⟨u, rv, ?_⟩
    rcases S.par y (List.mem_of_getElem? hp) with k | k
    · exact .inl ⟨k, bindL_get ndP hp hu k⟩
    · obtain ⟨c, e⟩ := cell_has (n := s.heap.objs.size + 1) k
      refine .inr ⟨.inl k, c, e, ?_⟩
      have q := x.cell y c e
      rw [bindC_get ndP hp hu (by show scope.names.lookup y ≠ _; rw [k]; decide)] at q
      exact q
  · exact e0.hok.fresh (Nat.le_of_lt (x.above y c (PySem.mem_of_lookup h)))
  · unfold start
    show _ = N.length
    rw [List.length_append, List.length_map, List.length_replicate]
    omega
theorem fn_of {CX : CXT} {P : Program} {w : World} {K : PySem.W.Frag} {mg : Str → Option Value} {base : Heap} {k : Nat} {f : Addr} {name qual : Str} {params : Arguments} {body : List Stmt} {scope : Scope} {dV kV doc pm cdv ct oc : Value} {an od : Option Addr}
    {osl : Array (Option Value)} {N ps : List Str} {sp : Sp} (lk : K.lookup f = some ⟨oc, od, .func (PySem.W.fnOf name qual params body scope dV kV doc pm an cdv ct), osl⟩) (hcd : PySem.W.codeIn K cdv qual = true) (S : FnScope N ps scope)
    (len : ∀ vs H Q E, sp vs H Q E → vs.length = ps.length)
    (hbody : ∀ (A : Around) (outer : List Env) (s : Shared) (H : Hp) (vs : List V) (Q : VK) (E : XK), Room k (A.deeper (envOfC qual scope s.heap.objs.size f cdv)) → sp vs H Q E →
      ∃ t, PSs (cxOf CX P w K mg base N qual scope f cdv A outer s H E) body t ∧ t { nx := fun _ H' => Q .non H', rt := Q } (start N vs) H) :
    FnOk P w K mg base CX (k + 1) f (PySem.W.fnOf name qual params body scope dV kV doc pm an cdv ct) ps sp := by
  refine ⟨len, fun A outer s H args us vs Q E hr e0 hb r hsp => ?_⟩
  have hl := len _ _ _ _ hsp
  have KX : K.In s.heap := e0.mod.kin.keeps fun b o e => (e0.bs b o e).1
  have lim : s.heap.NoLimit := e0.mod.nolimit.keeps fun b o e => (e0.bs b o e).1
  have hkind : ∀ y ∈ ps.zip us, scope.names.lookup y.1 = some .local ∨ (scope.names.lookup y.1 = some .cell ∧ ((cellsFrom (s.heap.objs.size + 1) scope.names []).lookup y.1).isSome = true) := fun ⟨n, v⟩ hy => by
    rcases S.par n (List.of_mem_zip hy).1 with q | q
    · exact .inl q
    · exact .inr ⟨q, PySem.W.cellsFrom_some _ _ _ (.inl q)⟩
  refine codeAny_call_function hr.depth (KX _ _ lk) rfl S.co S.gen rfl (PySem.W.codeRec_of KX hcd) (hb _ _ _ _ ?_)
  refine wpAny_newFunctionEnv_cells S.kind hkind fun env he s1 x => ?_
  subst he
  refine ⟨lim.keeps x.toInCall.keep, codeAny_func ?_⟩
  obtain ⟨t, ht, hq⟩ := hbody A outer s H vs Q E (hr.deeper _) hsp
  have I : Inv (cxOf CX P w K mg base N qual scope f cdv A outer s H E) [] (start N vs) H s1 := inv_start S hr.hd e0 hl r x
  refine wpAny_mono (ht [] s1 (start N vs) H _ I hq) (fun fl s' hs => ?_) fun e s' hs => hs
  have fin : ∀ {σ' : St} {H' : Hp} {v : V} {u : Value}, Inv (cxOf CX P w K mg base N qual scope f cdv A outer s H E) [] σ' H' s' → RelV v u → Q v H' → CE outer P w H s Q u s' :=
    fun {σ' H' v u} J rv q => ⟨v, H', J.os, J.bare, J.base, J.hok, rv, q⟩
  cases fl with
  | ret u =>
    obtain ⟨v, σ', H', J, rv, q⟩ := hs
    exact fin J rv q
  | next =>
    obtain ⟨σ', H', J, q⟩ := hs
    exact fin (v := V.non) (u := Value.none) J rfl q
  | brk =>
    obtain ⟨_, _, _, q⟩ := hs
    exact False.elim q
  | cont =>
    obtain ⟨_, _, _, q⟩ := hs
    exact False.elim q
end L2
namespace L2
open PySem PySem.Spec PyProof.Rows
section
variable {X : Cx} {x : Str} {p pos : Pos} {e : Expr} {es : List Expr} {t : TA} {id T : String} {r : List V → Hp → VK → Prop}
def tCB (r : List V → Hp → VK → Prop) (t : TA) : TE := fun σ H Q => t σ H fun vs H1 => r vs H1 Q
theorem pe_callB (hc : CallR X (.builtin id) r) (hg : Gl X x) (hm : X.mg x = none) (hv : bootBuiltins x = some (.builtin id)) (ha : PA X (e :: es) t) (hn : x ≠ "__name__" := by decide) (hdb : (x == ("__debug__" : Str)) = false := by decide)
    (he : starEach (e :: es) X.env = (false, eval e X.env) :: starEach es X.env := by rfl) (hpl : (backTo pos (starEach es X.env)).any (·.1) = false := by rfl) : PE X (.Call (.Name x p) (e :: es) [] pos) (tCB r t) := by
  intro pins s σ H Q I h
  refine wpAny_Call_Name_kw (ld_blt I hg hm hv ?_ hn hdb)
  exact PyProof.Rows.callWith_builtin1 (thn (ha pos pins s σ H _ I h) fun us s1 ⟨vs, H1, I1, r1, q1⟩ => hc pins s1 σ H1 vs us Q I1 r1 q1) he hpl
theorem pe_callTy (hc : CallR X (.type T) r) (hg : Gl X x) (hm : X.mg x = none) (hv : bootBuiltins x = some (.type T)) (ha : PA X (e :: es) t) (hn : x ≠ "__name__" := by decide) (hdb : (x == ("__debug__" : Str)) = false := by decide)
    (he : starEach (e :: es) X.env = (false, eval e X.env) :: starEach es X.env := by rfl) (hpl : (backTo pos (starEach es X.env)).any (·.1) = false := by rfl) : PE X (.Call (.Name x p) (e :: es) [] pos) (tCB r t) := by
  intro pins s σ H Q I h
  refine wpAny_Call_Name_kw (ld_blt I hg hm hv ?_ hn hdb)
  exact PyProof.Rows.callWith_type1 (thn (ha pos pins s σ H _ I h) fun us s1 ⟨vs, H1, I1, r1, q1⟩ => hc pins s1 σ H1 vs us Q I1 r1 q1) he hpl
end
end L2
namespace HT
open PySem PyProof.Rows
section
open PySem.SeqAt
open PySem.AutoSeq1 (wpAny_loadPart')
open PySem.MeetsSeq PySem.MeetsSeq2 PySem.MeetsSeq3
end
section
variable {prog : Program} {w : World} {A : Around} {E : Value → Shared → Prop} {s : Shared}
theorem cat_tup {t b : Addr} {vs ws : List Value} {Q : Value → Shared → Prop} (ht : IsTup s.heap t vs.toArray) (hb : IsTup s.heap b ws.toArray) (hv : vs ≠ [])
    (h1 : ws = [] → Q (.ref t) s) (h2 : ws ≠ [] → Q (.ref s.heap.objs.size) { s with heap := s.heap.push { cls := .type "tuple", data := .seq (vs ++ ws).toArray } })
    (hsz : vs.length + ws.length ≤ sizeLine) : wpAny (model prog w) A (binaryOp .Add (.ref t) (.ref b)) Q E s := by
  obtain ⟨⟨cls, dd, data, sl⟩, ho, hc, n, hd⟩ := id ht
  obtain ⟨⟨cls2, dd2, data2, sl2⟩, ho2, hc2, n2, hd2⟩ := id hb
  simp only at hc hd hc2 hd2
  subst hc hd hc2 hd2
  have e : vs.toArray ++ ws.toArray = (vs ++ ws).toArray := by simp
  by_cases hw : ws = []
  · exact concat_meets ⟨_, ho, rfl⟩ ⟨_, ho2, rfl⟩ noFill_tuple_add seq_tuple_add PySem.F.slot_tuple_add PySem.F.entry_tuple_add (PySem.F.args_tuple_add_2 _ _)
      (tuple_addW1 t b vs.toArray ws.toArray n n2 dd dd2 sl sl2 (by simpa using hv) (by simp [hw])) ⟨ho, ho2, h1 hw⟩
  · refine concat_meets ⟨_, ho, rfl⟩ ⟨_, ho2, rfl⟩ noFill_tuple_add seq_tuple_add PySem.F.slot_tuple_add PySem.F.entry_tuple_add (PySem.F.args_tuple_add_2 _ _)
      (tuple_addW2 t b vs.toArray ws.toArray n n2 dd dd2 sl sl2 (by simpa using hv) (by simpa using hw) (by rw [List.size_toArray, List.size_toArray]; exact hsz)) ⟨ho, ho2, ?_⟩
    rw [e]
    exact h2 hw
def sIx (n d : Nat) : Option Int → Nat
  | none => d
  | some v => if v < 0 then (v + (n : Int)).toNat else min v.toNat n
theorem sIx_nat (n d k : Nat) : sIx n d (some (k : Int)) = min k n := by
  show (if (k : Int) < 0 then ((k : Int) + (n : Int)).toNat else min (k : Int).toNat n) = min k n
  rw [if_neg (by omega), Int.toNat_natCast]
theorem sIx_le (n d : Nat) (hd : d ≤ n) (o : Option Int) : sIx n d o ≤ n := by
  cases o with
  | none => exact hd
  | some v =>
    show (if v < 0 then (v + (n : Int)).toNat else min v.toNat n) ≤ n
    by_cases hv : v < 0
    · rw [if_pos hv]; omega
    · rw [if_neg hv]; exact Nat.min_le_right _ _
theorem clip_eq (v : Int) (n d : Nat) : (if v < 0 then max (v + (n : Int)) 0 else min v (n : Int)) = ((sIx n d (some v) : Nat) : Int) := by
  show (if v < 0 then max (v + (n : Int)) 0 else min v (n : Int)) = (((if v < 0 then (v + (n : Int)).toNat else min v.toNat n) : Nat) : Int)
  by_cases hv : v < 0
  · simp only [if_pos hv]; omega
  · simp only [if_neg hv]; omega
theorem adjust_gen (lo hi : Option Int) (n : Nat) : Builtin.Slice.sliceAdjust lo hi 1 (n : Int) = (((sIx n 0 lo : Nat) : Int), ((sIx n n hi : Nat) : Int)) := by
  have h1 : ¬ ((1 : Int) < 0) := by omega
  unfold Builtin.Slice.sliceAdjust
  simp only [h1, if_false]
  refine Prod.ext ?_ ?_
  · cases lo with
    | none => rfl
    | some v => exact clip_eq v n 0
  · cases hi with
    | none => rfl
    | some v => exact clip_eq v n n
theorem places_gen (i j : Nat) : Builtin.Slice.slicePlaces (i : Int) (j : Int) 1 = j - i := by
  unfold Builtin.Slice.slicePlaces
  have h1 : (1 : Int) > 0 := by omega
  simp only [h1, if_true, Int.ediv_one]
  split <;> omega
theorem slicePart_ {v : Value} {o : Option Int} {Q : Option Int → Shared → Prop} (p : IsPart v o) (h : Q o s) : wpAny (model prog w) A (Builtin.Slice.slicePartIndex v) Q E s := by
  cases p with
  | none => exact slicePart_none h
  | int i t => exact slicePart_int h
theorem sliceApplied_gen {sl : Addr} {vl vu : Value} {lo hi : Option Int} {n : Nat} {Q : Int × Int × Nat → Shared → Prop} (hs : s.heap.IsSliceOf sl vl vu .none) (pl : IsPart vl lo) (pu : IsPart vu hi)
    (h : Q (((sIx n 0 lo : Nat) : Int), 1, sIx n n hi - sIx n 0 lo) s) : wpAny (model prog w) A (Builtin.Slice.sliceApplied (.ref sl) (pure (n : Int))) Q E s := by
  obtain ⟨os, hos, hcs, hds⟩ := id hs
  unfold Builtin.Slice.sliceApplied Builtin.Slice.sliceFields
  refine wpAny_bind (wpAny_bind (wpAny_field hos hds (x := vl) rfl (wpAny_bind (wpAny_field hos hds (x := vu) rfl (wpAny_bind (wpAny_field hos hds (x := .none) rfl (wpAny_pure ?_)))))))
  refine wpAny_bind (slicePart_none ?_)
  show wpAny _ _ (if ((1 : Int) == 0) = true then _ else _) _ _ s
  rw [if_neg (by decide)]
  refine wpAny_bind (slicePart_ pl (wpAny_bind (slicePart_ pu (wpAny_bind (wpAny_pure ?_)))))
  show wpAny _ _ (match Builtin.Slice.sliceAdjust lo hi 1 (n : Int) with | (lo, hi) => pure (lo, (1 : Int), Builtin.Slice.slicePlaces lo hi 1)) _ _ s
  rw [adjust_gen lo hi n]
  show wpAny _ _ (pure (((sIx n 0 lo : Nat) : Int), (1 : Int), Builtin.Slice.slicePlaces ((sIx n 0 lo : Nat) : Int) ((sIx n n hi : Nat) : Int) 1)) _ _ s
  rw [places_gen]
  exact wpAny_pure h
theorem pick_gen (xs : Array Value) (i k : Nat) : ((List.range k).filterMap fun (m : Nat) => xs[((i : Int) + (m : Int) * 1).toNat]?).toArray = ((xs.toList.drop i).take k).toArray := by
  have e : (fun (m : Nat) => xs[((i : Int) + (m : Int) * 1).toNat]?) = fun m => xs[i + m]? := by
    funext m
    have : ((i : Int) + (m : Int) * 1).toNat = i + m := by omega
    rw [this]
  rw [e]
  have := pick_run xs i k
  rw [List.filterMap_map] at this
  have e2 : ((fun x => xs[x]?) ∘ fun x => i + x) = fun m => xs[i + m]? := rfl
  rw [e2] at this
  rw [this]
theorem getItem_tuple_cut {t sl : Addr} {items : Array Value} {vl vu : Value} {lo hi : Option Int} {Q : Value → Shared → Prop} (ht : IsTup s.heap t items) (hs : s.heap.IsSliceOf sl vl vu .none) (pl : IsPart vl lo) (pu : IsPart vu hi)
    (hw : ¬ (sIx items.size 0 lo = 0 ∧ sIx items.size items.size hi = items.size))
    (h : Q (.ref s.heap.objs.size) { s with heap := s.heap.push { cls := .type "tuple", data := .seq ((items.toList.drop (sIx items.size 0 lo)).take (sIx items.size items.size hi - sIx items.size 0 lo)).toArray } })
    (hsz : items.size ≤ sizeLine) : wpAny (model prog w) A (getItem (.ref t) (.ref sl)) Q E s := by
  have htake : sizeOk (.seq ((items.toList.drop (sIx items.size 0 lo)).take (sIx items.size items.size hi - sIx items.size 0 lo)).toArray) := by
    show ((items.toList.drop (sIx items.size 0 lo)).take (sIx items.size items.size hi - sIx items.size 0 lo)).toArray.size ≤ sizeLine
    rw [List.size_toArray, List.length_take, List.length_drop, Array.length_toList]
    omega
  have hj : sIx items.size items.size hi ≤ items.size := sIx_le _ _ (Nat.le_refl _) hi
  obtain ⟨os, hos, hcs, hds⟩ := id hs
  have hTs : s.TypeIs (.ref sl) "slice" := ⟨os, hos, hcs⟩
  unfold getItem
  try with_reducible refine wpAny_holding ?_
  first | refine wpAny_bind (wpAny_pure ?_) | skip
  refine wpAny_bind (wpAny_sequenceKey ht.typeIs (by decide) ?_)
  refine wpAny_bind (wpAny_callSpecial?_slot (name := Str.ofString "__getitem__") ht.typeIs PyProof.Rows.slot_tuple_getitem
    (wpAny_call_entry PyProof.Rows.slot_tuple_getitem ht.typeIs entry_tuple_getitem ?_ (args_tuple_getitem _ _)))
  show wpAny _ _ (Builtin.Tuple.tupleItemsOf (.ref t) >>= _) _ _ s
  refine wpAny_bind (tupleItemsOf_ ht ?_)
  refine wpAny_bind (wpAny_typeOf hTs ?_)
  rw [if_pos (by decide)]
  refine wpAny_bind (sliceApplied_gen hs pl pu ?_)
  have hno : ¬ ((((sIx items.size 0 lo : Nat) : Int) == 0 && (1 : Int) == 1 && (sIx items.size items.size hi - sIx items.size 0 lo) == items.size) = true) := by
    intro q
    rw [Bool.and_eq_true, Bool.and_eq_true] at q
    have q1 : ((sIx items.size 0 lo : Nat) : Int) = 0 := eq_of_beq q.1.1
    have q2 : sIx items.size items.size hi - sIx items.size 0 lo = items.size := eq_of_beq q.2
    exact hw ⟨by omega, by omega⟩
  show wpAny _ _ (if (((sIx items.size 0 lo : Nat) : Int) == 0 && (1 : Int) == 1 && (sIx items.size items.size hi - sIx items.size 0 lo) == items.size) = true then _ else _) _ _ s
  rw [if_neg hno, pick_gen]
  first
    | exact wpAny_bind (m := Builtin.Tuple.tupleExact _) (wpAny_newObj_type (wpAny_pure ⟨_, rfl, wpAny_pure h⟩) htake)
    | exact wpAny_bind (m := Builtin.Tuple.tupleExact _) (wpAny_newObj_type (wpAny_bind (wpAny_pure (wpAny_pure ⟨_, rfl, wpAny_pure h⟩))) htake)
    | exact wpAny_bind (wpAny_bind (m := Builtin.Tuple.tupleExact _) (wpAny_newObj_type (wpAny_pure (wpAny_pure ⟨_, rfl, wpAny_pure h⟩)) htake))
    | exact wpAny_bind (wpAny_bind (m := Builtin.Tuple.tupleExact _) (wpAny_newObj_type (wpAny_pure ⟨_, rfl, wpAny_pure h⟩) htake))
end
end HT
namespace L2
open PySem PySem.Spec PyProof.Rows
abbrev TO := St → Hp → (Option Int → Hp → Prop) → Prop
def PO (X : Cx) (e : Option Expr) (t : TO) : Prop :=
  ∀ (pins : List (Addr × Obj)) (s : Shared) (σ : St) (H : Hp) (Q : Option Int → Hp → Prop), Inv X pins σ H s → t σ H Q →
    wpAny (model X.prog X.w) X.A (evalPart e X.env) (fun u s' => ∃ o H', Inv X pins σ H' s' ∧ IsPart u o ∧ Q o H') X.xe s
def tNoPart : TO := fun _ H Q => Q none H
def tPart (t : TE) : TO := fun σ H Q => t σ H fun x H1 => ∃ i, x = .int i ∧ Q (some i) H1
section
variable {X : Cx} {e : Expr} {te : TE} {lo hi : Option Expr} {tl th : TO} {pos p2 : Pos}
theorem po_none : PO X none tNoPart := by
  intro pins s σ H Q I h
  rw [evalPart_none]
  exact wpAny_pure ⟨none, H, I, .none, h⟩
theorem po_some (h : PE X e te) : PO X (some e) (tPart te) := by
  intro pins s σ H Q I hw
  rw [evalPart_some]
  refine thn (h pins s σ H _ I hw) fun u s1 ⟨x, H1, I1, r1, q1⟩ => ?_
  obtain ⟨i, rfl, q⟩ := q1
  obtain ⟨t, rfl⟩ := r1
  exact ⟨some i, H1, I1, .int i t, q⟩
def SlR (X : Cx) (r : V → Option Int → Option Int → Hp → VK → Prop) : Prop :=
  ∀ (pins : List (Addr × Obj)) (s : Shared) (σ : St) (H : Hp) (x : V) (v vl vu : Value) (lo hi : Option Int) (sl : Addr) (Q : VK), Inv X pins σ H s → RelV x v → s.heap.IsSliceOf sl vl vu .none → IsPart vl lo → IsPart vu hi → r x lo hi H Q →
    ∃ T id, typeLookup (.type T) "__getitem__" = pure (some (.builtin id)) ∧ s.TypeIs v T ∧ wpAny (model X.prog X.w) X.A (getItem v (.ref sl)) (EP X pins σ Q) X.xe s
def tSl (r : V → Option Int → Option Int → Hp → VK → Prop) (te : TE) (tl th : TO) : TE := fun σ H Q => te σ H fun x H1 => tl σ H1 fun l H2 => th σ H2 fun u H3 => r x l u H3 Q
theorem pe_slice {r : V → Option Int → Option Int → Hp → VK → Prop} (hr : SlR X r) (he : PE X e te) (hl : PO X lo tl) (hu : PO X hi th) : PE X (.Subscript e (.Slice lo hi none p2) pos) (tSl r te tl th) := by
  intro pins s σ H Q I h
  refine Subscript_ (thn (he pins s σ H _ I h) fun v s1 ⟨x, H1, I1, r1, q1⟩ => ?_)
  refine wpAny_Slice (thn (hl pins s1 σ H1 _ I1 q1) fun vl s2 ⟨l, H2, I2, pl, q2⟩ => thn (hu pins s2 σ H2 _ I2 q2) fun vu s3 ⟨u, H3, I3, pu, q3⟩ => ?_)
  rw [evalPart_none]
  refine wpAny_pure ?_
  have I4 : Inv X pins σ H3 { s3 with heap := s3.heap.push { cls := .type "slice", data := .fields #[vl, vu, .none] } } := I3.kept (t' := s3.toks) fun b ob q => Heap.get?_push_of_some _ q
  obtain ⟨T, id, hT, ht, hg⟩ := hr pins { s3 with heap := s3.heap.push { cls := .type "slice", data := .fields #[vl, vu, .none] } } σ H3 x v vl vu l u s3.heap.objs.size Q I4 r1 (Heap.IsSliceOf.new ..) pl pu q3
  show wpAny (model X.prog X.w) X.A (subscriptTail e (.Slice lo hi none p2) v (.ref s3.heap.objs.size)) (EP X pins σ Q) X.xe { s3 with heap := s3.heap.push { cls := .type "slice", data := .fields #[vl, vu, .none] } }
  exact tail_any (ops := [.ref s3.heap.objs.size, v]) ht hT hg (by with_unfolding_all rfl)
def cutV (xs : List V) (lo hi : Option Int) : List V := (xs.drop (HT.sIx xs.length 0 lo)).take (HT.sIx xs.length xs.length hi - HT.sIx xs.length 0 lo)
theorem cutV_length (xs : List V) (lo hi : Option Int) : (cutV xs lo hi).length ≤ xs.length := by
  unfold cutV
  rw [List.length_take, List.length_drop]
  omega
def rSlT (K : PySem.W.Frag) : V → Option Int → Option Int → Hp → VK → Prop := fun x lo hi H Q => ∃ a xs, x = .ref a ∧ SqT K H a xs ∧
  ¬ (HT.sIx xs.length 0 lo = 0 ∧ HT.sIx xs.length xs.length hi = xs.length) ∧ ∀ p, H p = none → Q (.ref p) (upd H p (.tup (cutV xs lo hi)))
theorem sl_tup : SlR X (rSlT X.K) := by
  intro pins s σ H x v vl vu lo hi sl Q I rx hs pl pu h
  obtain ⟨a, xs, rfl, hx, hw, q⟩ := h
  cases rx
  obtain ⟨its, r, ht, hz⟩ := I.tuple hx
  have hlen : its.toArray.size = xs.length := by rw [List.size_toArray]; exact r.length.symm
  refine ⟨"tuple", _, PyProof.Rows.slot_tuple_getitem.lookup, ht.typeIs, ?_⟩
  refine HT.getItem_tuple_cut ht hs pl pu (by rw [hlen]; exact hw) ?_ (by rw [hlen]; exact hz)
  rw [hlen]
  refine ⟨.ref s.heap.objs.size, _, I.laid (t' := s.toks) (o := .tup (cutV xs lo hi)) (fun b ob q => Heap.get?_push_of_some _ q) (Nat.le_refl _) ?_, rfl, q _ (I.hok.fresh (Nat.le_refl _))⟩
  exact ⟨Nat.le_trans (cutV_length xs lo hi) hz, _, (r.drop (HT.sIx xs.length 0 lo)).take (HT.sIx xs.length xs.length hi - HT.sIx xs.length 0 lo), IsTup.new _ _⟩
def rCatT (K : PySem.W.Frag) : R2 := fun x y H Q => ∃ a b xs ys, x = .ref a ∧ y = .ref b ∧ SqT K H a xs ∧ SqT K H b ys ∧ xs ≠ [] ∧ xs.length + ys.length ≤ sizeLine ∧
  (ys = [] → Q (.ref a) H) ∧ (ys ≠ [] → ∀ p, H p = none → Q (.ref p) (upd H p (.tup (xs ++ ys))))
theorem Vals.nil_iff {xs : List V} {us : List Value} (r : Vals xs us) : us = [] ↔ xs = [] := by
  cases r with
  | nil => simp
  | cons _ _ => simp
theorem op_catT : OpR X (binaryOp .Add) (rCatT X.K) := by
  intro pins s σ H x y v u Q I rx ry h
  obtain ⟨a, b, xs, ys, rfl, rfl, ha, hb, hx, hz, q1, q2⟩ := h
  cases rx
  cases ry
  obtain ⟨its, r1, p1, _⟩ := I.tuple ha
  obtain ⟨its2, r2, p2, _⟩ := I.tuple hb
  refine HT.cat_tup p1 p2 (fun z => hx (r1.nil_iff.mp z)) (fun z => ⟨.ref a, H, I, rfl, q1 (r2.nil_iff.mp z)⟩) (fun z => ?_) (by rw [← r1.length, ← r2.length]; exact hz)
  refine ⟨.ref s.heap.objs.size, _, I.laid (t' := s.toks) (o := .tup (xs ++ ys)) (fun b ob q => Heap.get?_push_of_some _ q) (Nat.le_refl _) ?_, rfl, q2 (fun w => z (r2.nil_iff.mpr w)) _ (I.hok.fresh (Nat.le_refl _))⟩
  exact ⟨by rw [List.length_append]; exact hz, _, r1.append r2, IsTup.new _ _⟩
end
end L2
namespace L2
open PySem PySem.Spec PyProof.Rows
def ixN (n : Nat) (i : Int) : Option Nat := if 0 ≤ i then (if i < n then some i.toNat else none) else if -(n : Int) ≤ i then some (i + n).toNat else none
def atI {α : Type} (xs : List α) (i : Int) : Option α := (ixN xs.length i).bind fun j => xs[j]?
theorem ixN_seq {n : Nat} {i : Int} {j : Nat} (h : ixN n i = some j) : seqIndex? i n = some j ∧ j < n ∧ -(n : Int) ≤ i ∧ i < n := by
  unfold ixN at h
  by_cases h0 : 0 ≤ i
  · rw [if_pos h0] at h
    by_cases h1 : i < n
    · rw [if_pos h1] at h
      have e : i.toNat = j := Option.some.inj h
      exact ⟨by rw [seqIndex_of h0 h1, e], by omega, by omega, h1⟩
    · rw [if_neg h1] at h; cases h
  · rw [if_neg h0] at h
    by_cases h1 : -(n : Int) ≤ i
    · rw [if_pos h1] at h
      have e : (i + n).toNat = j := Option.some.inj h
      exact ⟨by rw [seqIndex_neg (by omega) h1, e], by omega, h1, by omega⟩
    · rw [if_neg h1] at h; cases h
theorem atI_get {α : Type} {xs : List α} {i : Int} {v : α} (h : atI xs i = some v) : ∃ j, seqIndex? i xs.length = some j ∧ xs[j]? = some v ∧ j < xs.length ∧ -(xs.length : Int) ≤ i ∧ i < xs.length := by
  unfold atI at h
  cases e : ixN xs.length i with
  | none => rw [e] at h; cases h
  | some j =>
    rw [e] at h
    obtain ⟨h1, h2, h3, h4⟩ := ixN_seq e
    exact ⟨j, h1, h, h2, h3, h4⟩
theorem atI_nat {α : Type} {xs : List α} {j : Nat} {v : α} (h : xs[j]? = some v) : atI xs (j : Int) = some v := by
  have hj : j < xs.length := (List.getElem?_eq_some_iff.mp h).1
  have e : ixN xs.length (j : Int) = some j := by
    unfold ixN
    rw [if_pos (by omega), if_pos (by omega)]; simp
  unfold atI; rw [e]; exact h
def PlainIx (b : Expr) : Prop := ∀ o i, subscripted b false o i = operate [o, i] (getItem o i)
def IxR (X : Cx) (r : R2) : Prop :=
  ∀ (value slice : Expr) (pins : List (Addr × Obj)) (s : Shared) (σ : St) (H : Hp) (x y : V) (v u : Value) (Q : VK), Inv X pins σ H s → RelV x v → RelV y u → r x y H Q →
    subscripted slice false v u = operate [v, u] (getItem v u) → wpAny (model X.prog X.w) X.A (subscriptTail value slice v u) (EP X pins σ Q) X.xe s
def MtR (X : Cx) (id : String) (r : V → List V → Hp → VK → Prop) : Prop :=
  ∀ (pins : List (Addr × Obj)) (s : Shared) (σ : St) (H : Hp) (x : V) (xs : List V) (v : Value) (us : List Value) (Q : VK), Inv X pins σ H s → RelV x v → Vals xs us → r x xs H Q →
    wpAny (model X.prog X.w) X.A (call (.builtin id) (v :: us)) (EP X pins σ Q) X.xe s
section
variable {X : Cx} {a b : Expr} {ta tb : TE} {pos : Pos}
theorem pe_ix {r : R2} (hr : IxR X r) (ha : PE X a ta) (hb : PE X b tb) (hs : PlainIx b) : PE X (.Subscript a b pos) (tOp r ta tb) := by
  intro pins s σ H Q I h
  exact Subscript_ (binT ha hb I h fun v u s2 x y H2 I2 rx ry q => hr a b pins s2 σ H2 x y v u Q I2 rx ry q (hs _ _))
def rIxL (K : PySem.W.Frag) : R2 := fun x y H Q => ∃ p xs i v, x = .ref p ∧ y = .int i ∧ SqL K H p xs ∧ atI xs i = some v ∧ Q v H
def rIxT (K : PySem.W.Frag) : R2 := fun x y H Q => ∃ p xs i v, x = .ref p ∧ y = .int i ∧ SqT K H p xs ∧ atI xs i = some v ∧ Q v H
def rIxS : R2 := fun x y H Q => ∃ z i c, x = .str z ∧ y = .int i ∧ z.length ≤ sizeLine ∧ atI z.cps.toList i = some c ∧ Q (.str ⟨#[c]⟩) H
theorem ix_list : IxR X (rIxL X.K) := by
  intro value slice pins s σ H x y v u Q I rx ry h hs
  obtain ⟨p, xs, i, z, rfl, rfl, hq, he, q⟩ := h
  cases rx
  obtain ⟨t, rfl⟩ := ry
  obtain ⟨its, r, pl, hz⟩ := I.list hq
  obtain ⟨j, h1, h2, h3, h4, h5⟩ := atI_get he
  obtain ⟨w, ew, rw'⟩ := r.get h2
  have hl := r.length
  have hn := line63
  have fin : EP X pins σ Q w s := ⟨z, H, I, rw', q⟩
  by_cases h0 : 0 ≤ i
  · have hj : i.toNat = j := by
      rw [seqIndex_of h0 h5] at h1
      exact Option.some.inj h1
    exact item_listR pl.isList h0 (by omega) (by rw [hj]; simpa using ew) fin hs
  · have hj : (i + (its.toArray.size : Int)).toNat = j := by
      rw [seqIndex_neg (by omega) h4] at h1
      rw [List.size_toArray, ← hl]
      exact Option.some.inj h1
    exact subscriptTail_builtinR (x := w) pl.isList.typeIs slot_list_getitem.lookup
      (wpAny_getItem_list_neg (Q := fun r s' => r = w ∧ EP X pins σ Q r s') pl.isList (by omega) (by rw [List.size_toArray] <;> omega) (by omega) (by rw [hj]; simpa using ew) ⟨rfl, fin⟩) hs
theorem ix_tup : IxR X (rIxT X.K) := by
  intro value slice pins s σ H x y v u Q I rx ry h hs
  obtain ⟨p, xs, i, z, rfl, rfl, hq, he, q⟩ := h
  cases rx
  obtain ⟨t, rfl⟩ := ry
  obtain ⟨its, r, pl, hz⟩ := I.tuple hq
  obtain ⟨j, h1, h2, h3, h4, h5⟩ := atI_get he
  obtain ⟨w, ew, rw'⟩ := r.get h2
  have hl := r.length
  have hn := line63
  have fin : EP X pins σ Q w s := ⟨z, H, I, rw', q⟩
  exact subscriptTail_builtinR (x := w) pl.typeIs slot_tuple_getitem.lookup
    (getItem_tuple (j := j) (Q := fun r s' => r = w ∧ EP X pins σ Q r s') pl (by omega) (by omega) (by rw [List.size_toArray, ← hl]; exact h1) (by simpa using ew) ⟨rfl, fin⟩) hs
theorem ix_str : IxR X rIxS := by
  intro value slice pins s σ H x y v u Q I rx ry h hs
  obtain ⟨z, i, c, rfl, rfl, hz, he, q⟩ := h
  obtain ⟨t, rfl⟩ := rx
  obtain ⟨t', rfl⟩ := ry
  obtain ⟨j, h1, h2, h3, h4, h5⟩ := atI_get he
  have hl : z.cps.toList.length = z.length := by simp [Str.length]
  rw [hl] at h1 h4 h5
  have hn := line63
  exact tail_any (typeIs_str s z t) slot_str_getitem.lookup (getItem_str (c := c) (by
    have e1 : decide (i < -(2 ^ 63 : Int)) = false := decide_eq_false (by omega)
    have e2 : decide (i ≥ 2 ^ 63) = false := decide_eq_false (by omega)
    rw [e1, e2, Bool.or_false]) (by rw [h1]; simpa using h2) ⟨.str ⟨#[c]⟩, H, I.tok _, ⟨_, rfl⟩, q⟩) hs
theorem mapSeq_set (its : List Value) (n j : Nat) (u : Value) : Obj.mapSeq (·.setIfInBounds j u) { cls := .type "list", data := .seq its.toArray n } = { cls := .type "list", data := .seq (its.set j u).toArray n } := by
  simp [Obj.mapSeq]
theorem Inv.lst {pins : List (Addr × Obj)} {σ : St} {H : Hp} {s : Shared} {p : Addr} {xs : List V} (I : Inv X pins σ H s) (h : H p = some (.lst xs)) :
    ∃ (its : List Value) (n : Nat), Vals xs its ∧ s.heap.get? p = some { cls := .type "list", data := .seq its.toArray n } ∧ xs.length ≤ sizeLine := by
  obtain ⟨z, its, n, r, e⟩ := I.hok p _ h
  exact ⟨its, n, r, e, z⟩
theorem Inv.lstUpd {pins : List (Addr × Obj)} {σ : St} {H : Hp} {s : Shared} {p : Addr} {xs ys : List V} {its its' : List Value} {n n' : Nat} {f : Obj → Obj} (I : Inv X pins σ H s) (h : H p = some (.lst xs))
    (ho : s.heap.get? p = some { cls := .type "list", data := .seq its.toArray n }) (hf : f { cls := .type "list", data := .seq its.toArray n } = { cls := .type "list", data := .seq its'.toArray n' }) (r : Vals ys its') (hz : ys.length ≤ sizeLine) (t : Nat) :
    Inv X pins σ (upd H p (.lst ys)) { s with heap := s.heap.update p f, toks := t } := by
  have e : (s.heap.update p f).get? p = some { cls := .type "list", data := .seq its'.toArray n' } := by
    rw [Heap.get?_update_self f ho (by rw [hf] <;> rfl), hf]
  refine I.write (x := p) (e := p) (by rw [h]; trivial) (.inl rfl) (fun b u hb q => (Heap.get?_update_other _ _ (Ne.symm hb)).trans q) ⟨_, e⟩ ?_
  exact ⟨hz, its', n', r, e⟩
def rSetL : V → V → V → Hp → (Hp → Prop) → Prop := fun o i v H Q => ∃ p xs k j, o = .ref p ∧ i = .int k ∧ H p = some (.lst xs) ∧ ixN xs.length k = some j ∧ Q (upd H p (.lst (xs.set j v)))
theorem set_list : PSet X rSetL := by
  intro pins s σ H o i v ov iv u Q I ro ri rv h
  obtain ⟨p, xs, k, j, rfl, rfl, hp, hj, q⟩ := h
  cases ro
  obtain ⟨t, rfl⟩ := ri
  obtain ⟨its, n, r, ho, hz⟩ := I.lst hp
  obtain ⟨h1, h2, h3, h4⟩ := ixN_seq hj
  have hl := r.length
  have hn := line63
  have I' : Inv X pins σ (upd H p (.lst (xs.set j v))) { s with heap := s.heap.update p (Obj.mapSeq (·.setIfInBounds j u)) } :=
    I.lstUpd hp ho (mapSeq_set its n j u) (r.set rv j) (by rw [List.length_set]; exact hz) s.toks
  by_cases h0 : 0 ≤ k
  · have hk : k.toNat = j := by
      rw [seqIndex_of h0 h4] at h1
      exact Option.some.inj h1
    exact PySem.W.ki_setAt ho h0 (by omega) (by rw [List.size_toArray, ← hl]; exact h4) (by rw [hk]; exact ⟨_, I', q⟩)
  · have hk : (k + (its.toArray.size : Int)).toNat = j := by
      rw [seqIndex_neg (by omega) h3] at h1
      rw [List.size_toArray, ← hl]
      exact Option.some.inj h1
    exact PySem.W.ki_setBack ho (by omega) (by rw [List.size_toArray, ← hl]; exact h3) (by omega) (by rw [hk]; exact ⟨_, I', q⟩)
theorem slice_bounds (lo hi : Option Int) (n : Nat) : (sliceBounds lo hi none n).1 = ((HT.sIx n 0 lo : Nat) : Int) ∧ (sliceBounds lo hi none n).2.1 = ((HT.sIx n n hi : Nat) : Int) ∧ (sliceBounds lo hi none n).2.2 = 1 := by
  refine ⟨?_, ?_, rfl⟩
  · cases lo with
    | none => simp [sliceBounds, HT.sIx]
    | some i =>
      simp only [sliceBounds, HT.sIx, Option.getD_none, show (1 : Int) > 0 by decide, if_true]
      by_cases h : i < 0
      · simp only [h, if_true] <;> omega
      · simp only [h, if_false] <;> omega
  · cases hi with
    | none => simp [sliceBounds, HT.sIx]
    | some i =>
      simp only [sliceBounds, HT.sIx, Option.getD_none, show (1 : Int) > 0 by decide, if_true]
      by_cases h : i < 0
      · simp only [h, if_true] <;> omega
      · simp only [h, if_false] <;> omega
theorem slicePick_cut (its : List Value) (lo hi : Option Int) : slicePick its.toArray lo hi none = ((its.drop (HT.sIx its.length 0 lo)).take (HT.sIx its.length its.length hi - HT.sIx its.length 0 lo)).toArray := by
  obtain ⟨h1, h2, h3⟩ := slice_bounds lo hi its.toArray.size
  unfold slicePick
  rw [h1, h2, h3]
  simp only [sliceRange_one, pick_run, List.size_toArray] <;> rfl
def rSlL (K : PySem.W.Frag) : V → Option Int → Option Int → Hp → VK → Prop := fun x lo hi H Q => ∃ a xs, x = .ref a ∧ SqL K H a xs ∧ ∀ p, H p = none → Q (.ref p) (upd H p (.lst (cutV xs lo hi)))
theorem sl_list : SlR X (rSlL X.K) := by
  intro pins s σ H x v vl vu lo hi sl Q I rx hs pl pu h
  obtain ⟨a, xs, rfl, hx, q⟩ := h
  cases rx
  obtain ⟨its, r, ht, hz⟩ := I.list hx
  have hlen := r.length
  refine ⟨"list", _, slot_list_getitem.lookup, ht.isList.typeIs, ?_⟩
  refine wpAny_getItem_list_slice ht.isList hs pl pu .none (by simp) ?_ (by rw [List.size_toArray] <;> omega)
  rw [slicePick_cut, ← hlen]
  refine ⟨.ref s.heap.objs.size, _, I.laid (t' := s.toks) (o := .lst (cutV xs lo hi)) (fun b ob q => Heap.get?_push_of_some _ q) (Nat.le_refl _) ?_, rfl, q _ (I.hok.fresh (Nat.le_refl _))⟩
  exact ⟨Nat.le_trans (cutV_length xs lo hi) hz, _, 0, (r.drop (HT.sIx xs.length 0 lo)).take (HT.sIx xs.length xs.length hi - HT.sIx xs.length 0 lo), Heap.get?_push_size _ rfl⟩
def flatV : V → Bool
  | .non => true
  | .bl _ => true
  | .int _ => true
  | .str _ => true
  | _ => false
def eqV : V → V → Bool
  | .non, .non => true
  | .bl a, .bl b => a == b
  | .bl a, .int b => (if a then 1 else 0) == b
  | .int a, .bl b => a == (if b then 1 else 0)
  | .int a, .int b => a == b
  | .str a, .str b => a == b
  | _, _ => false
theorem eqAt_V {A : Around} {s : Shared} {y x : V} {u v : Value} (ry : RelV y u) (rx : RelV x v) (fy : flatV y = true) (fx : flatV x = true) : SeqAt.EqAt A s u v (eqV y x) := by
  cases y with
  | non =>
    cases ry
    cases x with
    | non => cases rx; exact SeqAt.EqAt.same _
    | bl b => cases rx; exact SeqAt.EqAt.none_bool b
    | int b => obtain ⟨t, rfl⟩ := rx; exact SeqAt.EqAt.none_int b t
    | str b => obtain ⟨t, rfl⟩ := rx; exact SeqAt.EqAt.none_str b t
    | _ => exact absurd (show false = true from fx) Bool.false_ne_true
  | bl a =>
    cases ry
    cases x with
    | non => cases rx; exact SeqAt.EqAt.bool_none a
    | bl b => cases rx; exact SeqAt.EqAt.bool_bool a b
    | int b => obtain ⟨t, rfl⟩ := rx; exact SeqAt.EqAt.bool_int a b t
    | str b => obtain ⟨t, rfl⟩ := rx; exact SeqAt.EqAt.bool_str a b t
    | _ => exact absurd (show false = true from fx) Bool.false_ne_true
  | int a =>
    obtain ⟨t', rfl⟩ := ry
    cases x with
    | non => cases rx; exact SeqAt.EqAt.int_none a t'
    | bl b => cases rx; exact SeqAt.EqAt.int_bool a t' b
    | int b => obtain ⟨t, rfl⟩ := rx; exact SeqAt.EqAt.int_int a t' b t
    | str b => obtain ⟨t, rfl⟩ := rx; exact SeqAt.EqAt.int_str a t' b t
    | _ => exact absurd (show false = true from fx) Bool.false_ne_true
  | str a =>
    obtain ⟨t', rfl⟩ := ry
    cases x with
    | non => cases rx; exact SeqAt.EqAt.str_none a t'
    | bl b => cases rx; exact SeqAt.EqAt.str_bool a t' b
    | int b => obtain ⟨t, rfl⟩ := rx; exact SeqAt.EqAt.str_int a t' b t
    | str b => obtain ⟨t, rfl⟩ := rx; exact SeqAt.EqAt.str_str a t' b t
    | _ => exact absurd (show false = true from fx) Bool.false_ne_true
  | _ => exact absurd (show false = true from fy) Bool.false_ne_true
def eqU (x : V) (u : Value) : Bool := match u with
  | .none => eqV .non x
  | .bool b => eqV (.bl b) x
  | .int i _ => eqV (.int i) x
  | .str z _ => eqV (.str z) x
  | _ => false
theorem eqU_of {x y : V} {u : Value} (r : RelV y u) (f : flatV y = true) : eqU x u = eqV y x := by
  cases y with
  | non => cases r; rfl
  | bl b => cases r; rfl
  | int i => obtain ⟨t, rfl⟩ := r; rfl
  | str z => obtain ⟨t, rfl⟩ := r; rfl
  | _ => exact absurd (show false = true from f) Bool.false_ne_true
theorem any_eqU {x : V} : ∀ {xs : List V} {us : List Value}, Vals xs us → xs.all flatV = true → us.any (eqU x) = xs.any fun y => eqV y x
  | _, _, .nil, _ => rfl
  | y :: xs, u :: us, .cons r t, f => by
    rw [List.all_cons, Bool.and_eq_true] at f
    rw [List.any_cons, List.any_cons, eqU_of r f.1, any_eqU t f.2]
theorem mem_eqAt {A : Around} {s : Shared} {x : V} {v : Value} (rx : RelV x v) (fx : flatV x = true) : ∀ {xs : List V} {us : List Value}, Vals xs us → xs.all flatV = true → ∀ u ∈ us, SeqAt.EqAt A s u v (eqU x u)
  | _, _, .nil, _ => fun u hu => by cases hu
  | y :: xs, u :: us, .cons r t, f => fun u' hu => by
    rw [List.all_cons, Bool.and_eq_true] at f
    rcases List.mem_cons.mp hu with rfl | hu
    · rw [eqU_of r f.1]; exact eqAt_V r rx f.1 fx
    · exact mem_eqAt rx fx t f.2 u' hu
def inV (x : V) (xs : List V) : Bool := xs.any fun y => eqV y x
def rIn (K : PySem.W.Frag) (neg : Bool) : R2 := fun x y H Q => ∃ p xs, y = .ref p ∧ (SqL K H p xs ∨ SqT K H p xs) ∧ flatV x = true ∧ xs.all flatV = true ∧ Q (.bl (if neg then !inV x xs else inV x xs)) H
theorem op_notIn_seq : OpR X (compareOp .NotIn) (rIn X.K true) := by
  intro pins s σ H x y v u Q I rx ry h
  obtain ⟨p, xs, rfl, hq, fx, fs, q⟩ := h
  cases ry
  rcases hq with hq | hq
  · obtain ⟨its, r, pl, hz⟩ := I.list hq
    refine SeqAt.notIn_listAt (eqU x) pl.isList (fun w hw => mem_eqAt rx fx r fs w (by simpa using hw)) ⟨.bl _, H, I, rfl, ?_⟩
    rw [show its.toArray.any (eqU x) = its.any (eqU x) by simp, any_eqU r fs]
    exact q
  · obtain ⟨its, r, pl, hz⟩ := I.tuple hq
    refine SeqAt.notIn_tupleAt (eqU x) pl (fun w hw => mem_eqAt rx fx r fs w (by simpa using hw)) ⟨.bl _, H, I, rfl, ?_⟩
    rw [show its.toArray.any (eqU x) = its.any (eqU x) by simp, any_eqU r fs]
    exact q
theorem call_len_seq : CallR X (.builtin "len") (fun xs H Q => ∃ p ys, xs = [.ref p] ∧ (SqL X.K H p ys ∨ SqT X.K H p ys) ∧ Q (.int ys.length) H) := by
  intro pins s σ H xs us Q I r h
  obtain ⟨p, ys, rfl, hq, q⟩ := h
  obtain ⟨u, rfl, rx⟩ := vals1 r
  cases rx
  have hn := line63
  rcases hq with hq | hq
  · obtain ⟨its, r', pl, hz⟩ := I.list hq
    have hlen := r'.length
    exact Calls.call_len_list pl.isList (by simp only [List.size_toArray] <;> omega) ⟨.int ys.length, H, I.tok _, ⟨s.toks + 1, by rw [List.size_toArray, hlen]⟩, q⟩
  · obtain ⟨its, r', pl, hz⟩ := I.tuple hq
    have hlen := r'.length
    exact len_tuple pl (by simp only [List.size_toArray] <;> omega) ⟨.int ys.length, H, I.tok _, ⟨s.toks + 1, by rw [List.size_toArray, hlen]⟩, q⟩
theorem call_list_of : CallR X (.type "list") (fun xs H Q => ∃ p ys, xs = [.ref p] ∧ (SqL X.K H p ys ∨ SqT X.K H p ys) ∧ ∀ l, H l = none → Q (.ref l) (upd H l (.lst ys))) := by
  intro pins s σ H xs us Q I r h
  obtain ⟨p, ys, rfl, hq, q⟩ := h
  obtain ⟨u, rfl, rx⟩ := vals1 r
  cases rx
  have fin : ∀ (its : List Value), Vals ys its → ys.length ≤ sizeLine → ∀ (h' : Heap) (c' : Nat), (∀ b o', s.heap.get? b = some o' → h'.get? b = some o') →
      h'.get? s.heap.objs.size = some { cls := .type "list", dict := none, data := .seq its.toArray c', slots := #[] } → EP X pins σ Q (.ref s.heap.objs.size) { s with heap := h' } := fun its r' hz h' c' kp e =>
    ⟨.ref s.heap.objs.size, _, I.laid (t' := s.toks) kp (Nat.le_refl _) (show ObjOk X.prog X.w _ h' _ (.lst ys) from ⟨hz, its, c', r', e⟩), rfl, q _ (I.hok.fresh (Nat.le_refl _))⟩
  rcases hq with hq | hq
  · obtain ⟨its, r', pl, hz⟩ := I.list hq
    have hlen := r'.length
    obtain ⟨o, ho, hc, n, hd⟩ := pl.isList
    exact call_list_seq p (.inl rfl) ho hc hd (fun h' c' kp e => fin its r' hz h' c' kp e) (by simp only [List.size_toArray] <;> omega)
  · obtain ⟨its, r', pl, hz⟩ := I.tuple hq
    have hlen := r'.length
    obtain ⟨o, ho, hc, n, hd⟩ := pl
    exact call_list_seq p (.inr rfl) ho hc hd (fun h' c' kp e => fin its r' hz h' c' kp e) (by simp only [List.size_toArray] <;> omega)
def tyV (K : PySem.W.Frag) (T : String) (x : V) (H : Hp) : Prop := match x with
  | .str _ => T = "str"
  | .int _ => T = "int"
  | .ref p => (T = "list" ∧ ∃ xs, SqL K H p xs) ∨ (T = "tuple" ∧ ∃ o, K.lookup p = some o ∧ o.cls = .type "tuple" ∧ o.dict = none) ∨
      (T = "dict" ∧ ((∃ kvs, H p = some (.dK kvs)) ∨ ∃ kvs, H p = some (.dT kvs))) ∨ (T = "set" ∧ ∃ S n, H p = some (.set S n))
  | _ => False
theorem tyV_is {pins : List (Addr × Obj)} {σ : St} {H : Hp} {s : Shared} {T : String} {x : V} {v : Value} (I : Inv X pins σ H s) (r : RelV x v) (ty : tyV X.K T x H) :
    s.TypeIs v T ∧ ∀ a, v = .ref a → ∃ ob, s.heap.get? a = some ob ∧ ob.dict = none := by
  cases x with
  | str z =>
    obtain ⟨t, rfl⟩ := r
    cases (show T = "str" from ty)
    exact ⟨typeIs_str s z t, fun _ e => nomatch e⟩
  | int i =>
    obtain ⟨t, rfl⟩ := r
    cases (show T = "int" from ty)
    exact ⟨typeIs_int s i t, fun _ e => nomatch e⟩
  | ref p =>
    cases r
    rcases ty with ⟨rfl, xs, hq⟩ | ⟨rfl, o, hk, hc, hd⟩ | ⟨rfl, hk⟩ | ⟨rfl, S, n, hk⟩
    · obtain ⟨its, _, pl, _⟩ := I.list hq
      refine ⟨pl.isList.typeIs, fun a e => ?_⟩
      cases e
      obtain ⟨o, n, e, c, hd, _⟩ := pl
      exact ⟨o, e, hd⟩
    · refine ⟨⟨o, I.kIn p o hk, hc⟩, fun a e => ?_⟩
      cases e
      exact ⟨o, I.kIn _ o hk, hd⟩
    · have z : ∃ o, s.heap.get? p = some o ∧ o.ExactDict := by
        rcases hk with ⟨kvs, hk⟩ | ⟨kvs, hk⟩
        · obtain ⟨_, _, _, _, o, _, _, e, ex, _⟩ := I.hok p _ hk
          exact ⟨o, e, ex⟩
        · obtain ⟨_, _, _, _, o, _, _, e, ex, _⟩ := I.hok p _ hk
          exact ⟨o, e, ex⟩
      obtain ⟨o, e, ex⟩ := z
      refine ⟨⟨o, e, ex.1⟩, fun a e2 => ?_⟩
      cases e2
      exact ⟨o, e, ex.2.1⟩
    · obtain ⟨o, _, _, _, e, ex, _⟩ := I.hok p _ hk
      refine ⟨⟨o, e, ex.1⟩, fun a e2 => ?_⟩
      cases e2
      exact ⟨o, e, ex.2.1⟩
  | _ => exact False.elim ty
def tBM0 (K : PySem.W.Frag) (T : String) (r : V → List V → Hp → VK → Prop) (to : TE) : TE := fun σ H Q => to σ H fun x H1 => tyV K T x H1 ∧ r x [] H1 Q
def tBM (K : PySem.W.Frag) (T : String) (r : V → List V → Hp → VK → Prop) (to : TE) (t : TA) : TE := fun σ H Q => to σ H fun x H1 => tyV K T x H1 ∧ t σ H1 fun xs H2 => r x xs H2 Q
variable {o e : Expr} {es : List Expr} {to : TE} {t : TA} {name : Str} {apos cpos : Pos} {T id : String} {r : V → List V → Hp → VK → Prop}
theorem pe_bm0 (pa : PlainAttrs T) (slot : Slot T name id) (hty : typeOf (.builtin id) = pure (.type "method_descriptor")) (hm : MtR X id r) (ho : PE X o to)
    (hbase : attributeBase o name X.env (eval o X.env) = eval o X.env := by rfl) (hline : (apos.endLine == cpos.line) = true := by rfl) : PE X (.Call (.Attribute o name apos) [] [] cpos) (tBM0 X.K T r to) := by
  intro pins s σ H Q I h
  refine wpAny_Call_method0_late hbase hline (thn (ho pins s σ H _ I h) fun v s1 ⟨x, H1, I1, r1, ty, q1⟩ => ?_)
  obtain ⟨h1, h2⟩ := tyV_is I1 r1 ty
  exact ⟨T, id, pa, slot, hty, h1, h2, Calls.callWith_builtin rfl (PySem.evalArgs_none (hm pins s1 σ H1 x [] v [] Q I1 r1 .nil q1))⟩
theorem pe_bm (pa : PlainAttrs T) (slot : Slot T name id) (hty : typeOf (.builtin id) = pure (.type "method_descriptor")) (hm : MtR X id r) (ho : PE X o to) (ha : PA X (e :: es) t)
    (hbase : attributeBase o name X.env (eval o X.env) = eval o X.env := by rfl)
    (hfew : ((backTo cpos (starEach (e :: es) X.env)).all (fun x => !x.1) && (backToKw cpos (keywordEach [] X.env)).all (fun x => x.1.isSome)
      && decide ((e :: es).length + ([] : List Keyword).length + (if ([] : List Keyword).isEmpty then 0 else 1) < 30)) = true := by rfl)
    (hline : (apos.endLine == cpos.line) = true := by rfl) (hs : starEach (e :: es) X.env = (false, eval e X.env) :: starEach es X.env := by rfl) (hplain : (backTo cpos (starEach es X.env)).any (·.1) = false := by rfl) :
    PE X (.Call (.Attribute o name apos) (e :: es) [] cpos) (tBM X.K T r to t) := by
  intro pins s σ H Q I h
  refine wpAny_Call_method_late hbase hfew hline rfl (thn (ho pins s σ H _ I h) fun v s1 ⟨x, H1, I1, r1, ty, q1⟩ => ?_)
  obtain ⟨h1, h2⟩ := tyV_is I1 r1 ty
  refine ⟨T, id, pa, slot, hty, h1, h2, ?_⟩
  have hA := ha cpos pins s1 σ H1 _ I1 q1
  rw [hs] at hA ⊢
  refine Calls.callWith_builtin (by show (false || (backTo cpos (starEach es X.env)).any (·.1)) = false; rw [hplain] <;> rfl) (Calls.evalArgs_plain ?_)
  exact thn hA fun us s2 ⟨vs, H2, I2, r2, q2⟩ => hm pins s2 σ H2 x vs v us Q I2 r1 r2 q2
/- xs.append(e), list.index on a module's tuple .. are MtR facts of 06m -/
end
end L2
namespace L2
open PySem PySem.Spec PyProof.Rows
def MtM (X : Cx) (id : String) (r : V → List V → Hp → VK → Prop) : Prop :=
  ∀ (pins : List (Addr × Obj)) (s : Shared) (σ : St) (H : Hp) (x : V) (xs : List V) (v : Value) (us : List Value) (Q : VK), Inv X pins σ H s → RelV x v → Vals xs us → r x xs H Q →
    wpAny (model X.prog X.w) X.A (call (.builtin id) (v :: us)) (EP X pins σ Q) X.xe s
theorem Vals.one : ∀ {x : V} {us : List Value}, Vals [x] us → ∃ u, us = [u] ∧ RelV x u
  | _, _, .cons r .nil => ⟨_, rfl, r⟩
theorem Vals.two : ∀ {x y : V} {us : List Value}, Vals [x, y] us → ∃ u v, us = [u, v] ∧ RelV x u ∧ RelV y v
  | _, _, _, .cons r (.cons q .nil) => ⟨_, _, rfl, r, q⟩
theorem Vals.zero : ∀ {us : List Value}, Vals [] us → us = []
  | _, .nil => rfl
theorem Vals.dropLast {xs : List V} {us : List Value} (h : Vals xs us) : Vals xs.dropLast us.dropLast := by
  induction h with
  | nil => exact .nil
  | cons r t ih =>
    cases t with
    | nil => exact .nil
    | cons q t' => exact .cons r ih
theorem erase_last {α : Type} (l : List α) : l.eraseIdx (l.length - 1) = l.dropLast := by
  induction l with
  | nil => rfl
  | cons a r ih =>
    cases r with
    | nil => rfl
    | cons b r =>
      have e : (a :: b :: r).length - 1 = ((b :: r).length - 1) + 1 := by
        have h1 : (a :: b :: r).length = r.length + 2 := rfl
        have h2 : (b :: r).length = r.length + 1 := rfl
        omega
      rw [e, List.eraseIdx_cons_succ, ih]
      all_goals rfl
section
variable {X : Cx} {pins : List (Addr × Obj)} {σ : St} {H : Hp} {s : Shared} {l b : Addr} {xs ys zs : List V}
theorem Inv.lset {its its' : List Value} {n : Nat} {f : Array Value → Array Value} {t' : Nat} (I : Inv X pins σ H s) (hH : H l = some (.lst xs))
    (e : s.heap.get? l = some { cls := .type "list", data := .seq its.toArray n }) (hf : f its.toArray = its'.toArray) (hv : Vals ys its') (hz : ys.length ≤ sizeLine) :
    Inv X pins σ (upd H l (.lst ys)) { s with heap := s.heap.update l (Obj.mapSeq f), toks := t' } := by
  have q := PySem.IsL.update e f
  rw [hf] at q
  refine I.write (x := l) (e := l) (by rw [hH]; exact trivial) (.inl rfl) (fun b' u hb hu => (Heap.get?_update_other s.heap (Obj.mapSeq f) (Ne.symm hb)).trans hu) ⟨_, q⟩ ?_
  exact ⟨hz, its', _, hv, q⟩
theorem Inv.lnew {its : List Value} {t' : Nat} (I : Inv X pins σ H s) (hv : Vals ys its) (hz : ys.length ≤ sizeLine) :
    Inv X pins σ (upd H s.heap.objs.size (.lst ys)) { s with heap := s.heap.push { cls := .type "list", data := .seq its.toArray }, toks := t' } :=
  I.laid (fun _ _ q => Heap.get?_push_of_some _ q) (Nat.le_refl _) ⟨hz, its, 0, hv, Heap.get?_push_size _ rfl⟩
theorem Inv.fresh (I : Inv X pins σ H s) : H s.heap.objs.size = none := I.hok.fresh (Nat.le_refl _)
theorem Inv.lstM (I : Inv X pins σ H s) (hH : H l = some (.lst xs)) : xs.length ≤ sizeLine ∧ ∃ (its : List Value) (n : Nat), Vals xs its ∧ xs.length = its.length ∧ s.heap.get? l = some { cls := .type "list", data := .seq its.toArray n } := by
  obtain ⟨z, its, n, r, e⟩ := I.hok l _ hH
  exact ⟨z, its, n, r, r.length, e⟩
end
section
variable {X : Cx}
def rAppend : V → List V → Hp → VK → Prop := fun x vs H Q => ∃ l xs y, x = .ref l ∧ vs = [y] ∧ H l = some (.lst xs) ∧ xs.length < sizeLine ∧ Q .non (upd H l (.lst (xs ++ [y])))
theorem mt_append : MtM X "list.append" rAppend := by
  intro pins s σ H x vs v us Q I rx rv h
  obtain ⟨l, xs, y, rfl, rfl, hH, hz, q⟩ := h
  cases rx
  obtain ⟨u, rfl, ru⟩ := rv.one
  obtain ⟨z, its, n, r, hl, e⟩ := I.lstM hH
  refine call_meets F.slot_list_append ⟨_, e, rfl⟩ F.entry_list_append (F.args_list_append_2 _ _) (PySem.list_append l its.toArray n u (by rw [List.size_toArray]; omega)) ⟨e, ?_⟩
  refine ⟨.non, _, I.lset (its' := its ++ [u]) hH e (by simp) (r.append (.cons ru .nil)) ?_, rfl, q⟩
  rw [List.length_append, List.length_singleton]
  omega
def rPop : V → List V → Hp → VK → Prop := fun x vs H Q => ∃ l xs y, x = .ref l ∧ vs = [] ∧ H l = some (.lst xs) ∧ xs[xs.length - 1]? = some y ∧ Q y (upd H l (.lst xs.dropLast))
theorem mt_pop : MtM X "list.pop" rPop := by
  intro pins s σ H x vs v us Q I rx rv h
  obtain ⟨l, xs, y, rfl, rfl, hH, hy, q⟩ := h
  cases rx
  have hus := rv.zero
  subst hus
  obtain ⟨z, its, n, r, hl, e⟩ := I.lstM hH
  obtain ⟨u, hu, ru⟩ := r.get hy
  have hy' : its.toArray[its.toArray.size - 1]? = some u := by
    show its.toArray[its.length - 1]? = some u
    rw [← Array.getElem?_toList, ← hl]
    exact hu
  refine call_meets F.slot_list_pop ⟨_, e, rfl⟩ F.entry_list_pop (F.args_list_pop_1 _) (MeetsSeq.list_pop_last l its.toArray n u hy' (by rw [List.size_toArray]; omega)) ⟨e, ?_⟩
  refine ⟨y, _, I.lset (its' := its.dropLast) hH e ?_ r.dropLast ?_, ru, q⟩
  · show its.toArray.eraseIdxIfInBounds (its.toArray.size - 1) = its.dropLast.toArray
    rw [List.size_toArray, List.eraseIdxIfInBounds_toArray, erase_last]
  · rw [List.length_dropLast]
    omega
def rCat : R2 := fun x y H Q => ∃ l b xs zs, x = .ref l ∧ y = .ref b ∧ H l = some (.lst xs) ∧ H b = some (.lst zs) ∧ xs.length + zs.length ≤ sizeLine ∧ ∀ p, H p = none → Q (.ref p) (upd H p (.lst (xs ++ zs)))
theorem op_cat : OpR X (binaryOp .Add) rCat := by
  intro pins s σ H x y v u Q I rx ry h
  obtain ⟨l, b, xs, zs, rfl, rfl, hH, hB, hz, q⟩ := h
  cases rx
  cases ry
  obtain ⟨z, its, n, r, hl, e⟩ := I.lstM hH
  obtain ⟨z2, its2, n2, r2, hl2, e2⟩ := I.lstM hB
  refine PySem.P.add_list e e2 ?_ (by rw [List.size_toArray, List.size_toArray]; omega)
  have ea : its.toArray ++ its2.toArray = (its ++ its2).toArray := by simp
  rw [ea]
  exact ⟨.ref _, _, I.lnew (t' := s.toks) (r.append r2) (by rw [List.length_append]; omega), rfl, q _ I.fresh⟩
end
section
variable {prog : Program} {w : World} {A : Around} {E : Value → Shared → Prop} {s : Shared}
set_option maxRecDepth 100000 in
end
section
variable {X : Cx}
end
end L2
namespace Att
open PySem PySem.W PySem.Calls PyProof.Rows
theorem ints_of_wellAll {P : Params} {h : Heap} : ∀ (ns : List Int) (vs : List Value), WellAll P h vs (ns.map WData.int) → IntsAre vs ns := by
  intro ns
  induction ns with
  | nil =>
    intro vs w
    rw [List.map_nil] at w
    cases w
    exact .nil
  | cons n ns ih =>
    intro vs w
    rw [List.map_cons] at w
    cases w with
    | cons a b =>
      cases a
      exact .cons _ _ (ih _ b)
theorem script_of {l : OpenLaw} {n : Nat} (hn : l.most = some n) {P : Params} {h : Heap} {args : List WData} {vals : List Value}
    (hpre : l.row.toRowW.claim.pre args = true) (hwl : WellAll P h vals args) :
    ∃ a vs ns, vals = [Value.ref a] ∧ args = [WData.list (ns.map WData.int)] ∧ h.get? a = some { cls := .type "list", data := .seq vs.toArray } ∧ IntsAre vs ns ∧ ns.length ≤ n := by
  have hsh : WShape.hasAll [] args [.list .int] = true := (pre_splitW hpre).1
  have hc : l.pre.holds [] { args := args } = true := (pre_splitW hpre).2
  obtain ⟨d, r, rfl, h1, h2⟩ := hasAllW_cons hsh
  obtain rfl := hasAllW_nil h2
  obtain ⟨xs, rfl, h3⟩ := hasW_list h1
  obtain ⟨ns, rfl⟩ := items_int h3
  have hlen : ns.length ≤ n := by
    unfold OpenLaw.pre at hc
    have h4 : (WTm.not (.lt (.lit (.int (n : Int))) (.len (.arg 0)))).holds [] { args := [.list (ns.map .int)] } = true := by
      have h4 := (holds_andW hc).1
      rw [hn] at h4
      exact h4
    have h5 := condW_of h4 (w_not (w_lt w_lit (w_len_list (w_arg rfl))))
    rw [List.length_map] at h5
    refine Nat.le_of_not_lt fun q => ?_
    have q' : (n : Int) < ((ns.length : Nat) : Int) := by omega
    first
      | (rw [decide_eq_true q'] at h5; exact absurd h5 (by decide))
      | (simp at h5; omega)
  cases hwl with
  | cons w1 w2 =>
    cases w2
    cases w1 with
    | list ho hall => exact ⟨_, _, ns, rfl, rfl, ho, ints_of_wellAll ns _ hall, hlen⟩
theorem post_true (l : OpenLaw) (args : List WData) : l.row.toRowW.claim.post args (.bool true) args = true :=
  postW_of (r := l.row.toRowW) (X := (true == true))
    (show WShape.has [] (.bool true) .bool = true by first | rfl | decide | simp [WShape.has, WShape.arms, WShape.armsAll])
    (show (WTm.eq .res (.lit (.bool true))).value [] { args := args, res := some (.bool true), after := args } = some (.bool (true == true)) from w_eq_bool (w_res rfl) w_lit) rfl
theorem attach_call {l : OpenLaw} {n : Nat} {q : Program} {loose : List Str} {XP : (Str → Option Value) → Heap → Prop} {YP : World → Heap → Prop} {d : DefRec}
    (hn : l.most = some n) (hdf : d.params.defaults = [])
    (call : ∀ (w : World) (s₀ s₁ : Shared) (mg mb : Str → Option Value) (fa : Addr) (o : Obj) (pm cd doc : Value) (a : Addr) (vs : List Value) (ns : List Int),
      Ground q loose [] XP w s₀ mg mb s₁.heap → YP w s₁.heap →
      s₁.heap.get? fa = some o → o.data = .func (docDef d.name d.params d.body d.scope pm cd doc) → s₁.heap.CodeRec cd d.name → mg d.name = some (.ref fa) →
      s₁.heap.get? a = some { cls := .type "list", data := .seq vs.toArray } → IntsAre vs ns → ns.length ≤ n → s₁.gens = #[] →
      codeAny (model l.prog w) callerA (.call (.ref fa) ⟨[.ref a], []⟩) (fun r s' => r = .ok (.ret (.bool true)) ∧ OldK s₁.heap s'.heap ∧ s'.os = s₁.os ∧ AllBare s'.gens) s₁) :
    WalkO q loose XP YP l.row.toRowW d [] (fun f vs => PySem.call f vs) := by
  intro w s₀ s₁ mg mb G Y fa o pm cd doc dV kV ho hd hcd hD hmg hg args vals as hpre hlay hrd hwl hlo
  obtain rfl : dV = .none := Dflts.none hD hdf
  obtain rfl : kV = .none := Dflts.noKw hD
  obtain ⟨a, vs, ns, rfl, rfl, hobj, hints, hlen⟩ := script_of hn hpre hwl
  refine enter_call (codeAny_mono (call w s₀ s₁ mg mb fa o pm cd doc a vs ns G Y ho (fd_plain hd) hcd hmg hobj hints hlen hg) fun r s' hq => ?_)
  obtain ⟨rfl, h2, h3, h4⟩ := hq
  exact ⟨.inl ⟨.bool true, .bool true, [], rfl, fun _ => rfl, .bool true, post_true l _, fun _ => ⟨List.Pairwise.nil, fun _ hm => (nomatch hm)⟩⟩, h2, h3, h4⟩
section
variable {prog : Program} {w : World} {A : Around} {E : Value → Shared → Prop} {s : Shared} {K : Frag}
end
end Att
namespace L2
open PySem PySem.Spec PyProof.Rows
theorem vals_ints : ∀ {vs : List Value} {ns : List Int}, IntsAre vs ns → Vals (ns.map V.int) vs
  | _, _, .nil => .nil
  | _, _, .cons n t h => .cons ⟨t, rfl⟩ (vals_ints h)
def Only (H : Hp) : Prop := ∀ b, H b = none ∨ ∃ o xs, H b = some (.frz o (.lst xs))
theorem law_call {P : Program} {w : World} {K : PySem.W.Frag} {mg mb : Str → Option Value} {CX : CXT} {k : Nat} {fa a : Addr} {fd : FuncData} {x : Str} {sp : Sp} {s₁ : Shared} {vs : List Value} {ns : List Int}
    (KX : K.In s₁.heap) (hns : s₁.heap.Ns mainGlobals mg) (hb : s₁.heap.Ns builtinsNs mb) (hbb : ∀ x : Str, x ≠ "__name__" → mb x = bootBuiltins x) (hlim : s₁.heap.NoLimit) (hg : s₁.gens = #[])
    (ha : s₁.heap.get? a = some { cls := .type "list", data := .seq vs.toArray }) (hi : IntsAre vs ns) (hl : ns.length ≤ sizeLine) (hr : Room k callerA)
    (F : ∀ base : Heap, K.In base → base.Ns mainGlobals mg → FnOk P w K mg base CX k fa fd [x] sp) (hbind : ∀ (s : Shared) (u : Value), BindsTo s fd ⟨[u], []⟩ [(x, u)])
    (hsp : ∀ H : Hp, Only H → SqL K H a (ns.map V.int) → sp [.ref a] H (fun v _ => v = .bl true) fun _ _ _ => False)
    (hCX : ∀ H e s', CX [] H s₁ (fun _ _ _ => False) e s' → False) :
    codeAny (model P w) callerA (.call (.ref fa) ⟨[.ref a], []⟩) (fun r s' => r = .ok (.ret (.bool true)) ∧ OldK s₁.heap s'.heap ∧ s'.os = s₁.os ∧ AllBare s'.gens) s₁ := by
  have rv := vals_ints hi
  have lenV := hi.length
  have core : ∀ H : Hp, Only H → SqL K H a (ns.map V.int) → HOk P w H s₁.heap → (∀ b, H b ≠ none → b = a) → (H a ≠ none → K.lookup a = none) →
      codeAny (model P w) callerA (.call (.ref fa) ⟨[.ref a], []⟩) (fun r s' => r = .ok (.ret (.bool true)) ∧ OldK s₁.heap s'.heap ∧ s'.os = s₁.os ∧ AllBare s'.gens) s₁ := by
    intro H hO hS hok hA hK
    have base_of : ∀ {b : Addr} {o : Obj}, s₁.heap.get? b = some o → H b = none → (hidT s₁.heap H).get? b = some o := fun e n => hidT_get e n
    have noA : ∀ {b : Addr} {o : Obj} {es : Array DictEntry} {ep : Nat}, s₁.heap.get? b = some o → o.data = .dict es ep → H b = none := fun {b o es ep} e d => by
      cases q : H b with
      | none => rfl
      | some u =>
        have e' : b = a := hA b (by rw [q]; simp)
        subst e'
        rw [ha] at e; cases e
        have d' : Data.seq vs.toArray _ = Data.dict es ep := d
        cases d'
    have nsK : ∀ {b : Addr} {m : Str → Option Value}, s₁.heap.Ns b m → (hidT s₁.heap H).Ns b m := fun {b m} ⟨o, es, ep, e, d, r⟩ => ⟨o, es, ep, base_of e (noA e d), d, r⟩
    have hKb : K.In (hidT s₁.heap H) := fun b o e => base_of (KX b o e) (by
      cases q : H b with
      | none => rfl
      | some u =>
        have e' : b = a := hA b (by rw [q]; simp)
        subst e'
        rw [hK (by rw [q]; simp)] at e; cases e)
    have hM : Mod K mg (hidT s₁.heap H) := ⟨hKb, nsK hns, ⟨mb, nsK hb, hbb⟩, let ⟨mc, h1, h2⟩ := hlim; ⟨mc, nsK h1, h2⟩⟩
    have e0 : Env0 P w K mg (hidT s₁.heap H) callerA [] s₁ H := ⟨rfl, hM, fun b o e => of_hidT e, Nat.le_of_eq (hidT_size _ _), trivial, fun b hb => absurd (show b ∈ ([] : List Addr) from hb) (by simp), hok, .of_eq hg⟩
    refine codeAny_mono ((F _ hKb (nsK hns)).run callerA [] s₁ H ⟨[.ref a], []⟩ [.ref a] [.ref a] _ _ hr e0 (hbind s₁ (.ref a)) (.cons rfl .nil) (hsp H hO hS)) fun r s' h => ?_
    cases r with
    | error e => exact (hCX H e s' h).elim
    | ok fl =>
      cases fl with
      | next => exact False.elim h
      | brk => exact False.elim h
      | cont => exact False.elim h
      | ret u =>
        obtain ⟨v, H', os, bare, un, hok', r', q⟩ := h
        have q' : v = .bl true := q
        subst q'
        obtain rfl : u = Value.bool true := r'
        refine ⟨rfl, OldK.of_keep fun b o e => ?_, os, bare⟩
        cases q : H b with
        | none => exact un.keep b o e q (by intro z; exact absurd (show b ∈ ([] : List Addr) from z) (by simp)) (by simp)
        | some u =>
          rcases hO b with z | ⟨ob, xs, z⟩
          · rw [q] at z; cases z
          · have z2 := un.frzs b ob _ z
            obtain ⟨e1, _⟩ := hok b _ z
            obtain ⟨e2, _⟩ := hok' b _ z2
            rw [e] at e1; cases e1
            exact e2
  cases hk : K.lookup a with
  | some o =>
    have e := KX a o hk
    rw [ha] at e
    cases e
    refine core (fun _ => none) (fun _ => .inl rfl) (.inr ⟨_, vs.toArray, _, hk, rfl, rfl, rfl, by rw [List.size_toArray, lenV]; exact hl, by simpa using rv⟩) (fun b u z => by have z' : (none : Option HO) = some u := z; cases z') (fun b z => absurd rfl z) fun z => absurd rfl z
  | none =>
    refine core (fun b => if b = a then some (.frz { cls := .type "list", data := .seq vs.toArray } (.lst (ns.map V.int))) else none) (fun b => ?_) (.inl (.inr ⟨{ cls := .type "list", data := .seq vs.toArray }, if_pos rfl⟩)) (fun b u z => ?_) (fun b z => ?_) fun _ => hk
    · by_cases hb : b = a
      · exact .inr ⟨_, _, if_pos hb⟩
      · exact .inl (if_neg hb)
    · by_cases hb : b = a
      · have z' := (if_pos hb).symm.trans z
        cases z'
        subst hb
        exact ⟨ha, by rw [List.length_map]; exact hl, vs, _, rv, ha⟩
      · have z' := (if_neg hb).symm.trans z
        cases z'
    · by_cases hb : b = a
      · exact hb
      · exact absurd (if_neg hb) z
end L2
namespace L2
open PySem PySem.Spec PyProof.Rows
theorem walk_of {l : PySem.W.OpenLaw} {n k : Nat} {q : Program} {loose : List Str} {XP : (Str → Option Value) → Heap → Prop} {YP : World → Heap → Prop} {d : DefRec} {K : Params → PySem.W.Frag} {CX : World → CXT} {sp : World → Sp} {x : Str}
    (hn : l.most = some n) (hn2 : n ≤ sizeLine) (hdf : d.params.defaults = []) (hr : Room k callerA)
    (hY : ∀ (w : World) (h : Heap), YP w h → (K w.params).In h)
    (F : ∀ (w : World) (mg : Str → Option Value) (fa : Addr) (h : Heap), (K w.params).In h → h.Ns mainGlobals mg → mg d.name = some (.ref fa) →
      ∃ fd : FuncData, (∀ (s : Shared) (u : Value), BindsTo s fd ⟨[u], []⟩ [(x, u)]) ∧
        ∀ base : Heap, (K w.params).In base → base.Ns mainGlobals mg → FnOk l.prog w (K w.params) mg base (CX w) k fa fd [x] (sp w))
    (hsp : ∀ (w : World) (H : Hp) (a : Addr) (ns : List Int), ns.length ≤ n → Only H → SqL (K w.params) H a (ns.map V.int) → sp w [.ref a] H (fun v _ => v = .bl true) fun _ _ _ => False)
    (hCX : ∀ (w : World) (H : Hp) (s : Shared) (e : Value) (s' : Shared), CX w [] H s (fun _ _ _ => False) e s' → False) :
    PySem.W.WalkO q loose XP YP l.row.toRowW d [] (fun f vs => PySem.call f vs) := by
  refine Att.attach_call hn hdf fun w s₀ s₁ mg mb fa o pm cd doc a vs ns G Y ho hd hcd hmg hobj hints hlen hg => ?_
  have KX := hY w _ Y
  obtain ⟨fd, hb, hF⟩ := F w mg fa _ KX G.T.g hmg
  exact law_call KX G.T.g G.T.b G.T.builtins G.T.nolimit hg hobj hints (Nat.le_trans hlen hn2) hr hF hb (fun H hO hS => hsp w H a ns hlen hO hS) fun H e s' => hCX w H s₁ e s'
end L2
namespace L2
open PySem PySem.Spec PyProof.Rows
def inClass (s : Stmt) (j : Nat) : Stmt := match s with
  | .ClassDef _ _ _ body _ _ _ _ _ _ _ => body.getD j (.Pass ⟨0, 0, 0, 0⟩)
  | _ => .Pass ⟨0, 0, 0, 0⟩
def defArgs (s : Stmt) : Arguments := match s with
  | .FunctionDef _ a _ _ _ _ _ _ _ _ => a
  | _ => { posonlyargs := [], args := [], vararg := none, kwonlyargs := [], kw_defaults := [], kwarg := none, defaults := [] }
def defBody (s : Stmt) : List Stmt := match s with
  | .FunctionDef _ _ b _ _ _ _ _ _ _ => b
  | _ => []
def defScope (s : Stmt) : Scope := match s with
  | .FunctionDef _ _ _ _ _ _ sc _ _ _ => sc
  | _ => { kind := .function, names := [], isGenerator := false, isCoroutine := false }
abbrev CX0 : CXT := fun _ _ _ _ _ _ => False
abbrev E0 : XK := fun _ _ _ => False
theorem pass0 {X : Cx} : Passes CX0 X E0 := fun _ _ _ _ _ _ _ h => h.elim
structure Fun (K : PySem.W.Frag) (x qual : Str) (st : Stmt) (f : Addr) (fd : FuncData) : Prop where
  ex : ∃ (oc : Value) (od : Option Addr) (kV doc pm : Value) (an : Option Addr) (cdv ct : Value) (osl : Array (Option Value)),
    fd = PySem.W.fnOf x qual (defArgs st) (defBody st) (defScope st) .none kV doc pm an cdv ct ∧ K.lookup f = some ⟨oc, od, .func fd, osl⟩ ∧ PySem.W.codeIn K cdv qual = true
  kp : PySem.W.keepIn K (.ref f) = true
section
variable {P : Program} {w : World} {K : PySem.W.Frag} {mg : Str → Option Value} {base : Heap}
theorem Fun.ok {x qual : Str} {st : Stmt} {f : Addr} {fd : FuncData} {N ps : List Str} {k : Nat} {sp : Sp} (F : Fun K x qual st f fd) (S : FnScope N ps (defScope st)) (len : ∀ vs H Q E, sp vs H Q E → vs.length = ps.length)
    (hbody : ∀ (cdv : Value) (A : Around) (outer : List Env) (s : Shared) (H : Hp) (vs : List V) (Q : VK) (E : XK), Room k (A.deeper (envOfC qual (defScope st) s.heap.objs.size f cdv)) → sp vs H Q E →
      ∃ t, PSs (cxOf CX0 P w K mg base N qual (defScope st) f cdv A outer s H E).nox (defBody st) t ∧ t { nx := fun _ H' => Q .non H', rt := Q } (start N vs) H) : FnOk P w K mg base CX0 (k + 1) f fd ps sp := by
  obtain ⟨oc, od, kV, doc, pm, an, cdv, ct, osl, rfl, lk, hcd⟩ := F.ex
  refine fn_of lk hcd S len fun A outer s H vs Q E hr hsp => ?_
  obtain ⟨t, h, q⟩ := hbody cdv A outer s H vs Q E hr hsp
  exact ⟨t, h.nox, q⟩
theorem Fun.binds {x qual : Str} {st : Stmt} {f : Addr} {fd : FuncData} {ps : List Str} (F : Fun K x qual st f fd)
    (h : ∀ (kV doc pm : Value) (an : Option Addr) (cdv ct : Value) (us : List Value), us.length = ps.length → bindArgs (PySem.W.fnOf x qual (defArgs st) (defBody st) (defScope st) .none kV doc pm an cdv ct) ⟨us, []⟩ = pure (ps.zip us)) : Binds K fd ps [] := by
  obtain ⟨oc, od, kV, doc, pm, an, cdv, ct, osl, rfl, lk, hcd⟩ := F.ex
  exact .all (h kV doc pm an cdv ct)
theorem fun_mk {x qual : Str} {st : Stmt} {f : Addr} {oc : Value} {od an : Option Addr} {osl : Array (Option Value)} {kV doc pm cdv ct : Value} (l : K.lookup f = some ⟨oc, od, .func (PySem.W.fnOf x qual (defArgs st) (defBody st) (defScope st) .none kV doc pm an cdv ct), osl⟩)
    (c : PySem.W.codeIn K cdv qual = true) (k : PySem.W.keepIn K (.ref f) = true) : Fun K x qual st f (PySem.W.fnOf x qual (defArgs st) (defBody st) (defScope st) .none kV doc pm an cdv ct) := ⟨⟨oc, od, kV, doc, pm, an, cdv, ct, osl, rfl, l, c⟩, k⟩
end
theorem hu_of {A : Around} {k : Nat} (hr : Room k A) : A.units + 1 < cLine := Nat.lt_of_le_of_lt (Nat.add_le_add_left (by decide : 1 ≤ 64) _) hr.units
theorem small1000 {n : Nat} (h : n ≤ 1000) : n < sizeLine := Nat.lt_of_le_of_lt h (by decide)
section
variable {X : Cx}
theorem pv (i : Nat) {x : Str} {pos : Pos} (hN : X.N[i]? = some x := by rfl) (hv : Vis X.env.scope x := by first | exact Or.inl rfl | exact Or.inr (Or.inl rfl) | exact Or.inr (Or.inr rfl)) (hd : (x == ("__debug__" : Str)) = false := by decide)
    (hcd : (x == ("__classdict__" : Str)) = false := by decide) : PE X (.Name x pos) (tVar i) := pe_var hN hv hd hcd
end
theorem iteF {A B : Prop} (h : B) : if false = true then A else B := by
  rw [if_neg Bool.false_ne_true]
  exact h
theorem iteT {A B : Prop} (h : A) : if true = true then A else B := by
  rw [if_pos rfl]
  exact h
theorem ite2 {c A B : Prop} [Decidable c] (h1 : c → A) (h2 : ¬ c → B) : if c then A else B := by
  by_cases h : c
  · rw [if_pos h]
    exact h1 h
  · rw [if_neg h]
    exact h2 h
def Same (H H' : Hp) : Prop := ∀ b o, H b = some o → H' b = some o
theorem Same.refl (H : Hp) : Same H H := fun _ _ h => h
theorem Same.trans {H H1 H2 : Hp} (a : Same H H1) (b : Same H1 H2) : Same H H2 := fun c o h => b c o (a c o h)
theorem Same.seq {K : PySem.W.Frag} {H H' : Hp} {a : Addr} {xs : List V} (e : Same H H') (h : SqL K H a xs) : SqL K H' a xs := by
  rcases h with (h | ⟨o, h⟩) | h
  · exact .inl (.inl (e _ _ h))
  · exact .inl (.inr ⟨o, e _ _ h⟩)
  · exact .inr h
end L2
set_option maxHeartbeats 4000000
namespace L2
open PySem PySem.Spec PyProof.Rows
theorem same_new {H : Hp} {p : Addr} (h : H p = none) (o : HO) : Same H (upd H p o) := fun b u q => by rw [upd_ne (ne_of_none q h)]; exact q
def tMid (t u : TS) : TS := fun D σ H => ∃ M : St → Hp → Prop, t { D with nx := M } σ H ∧ ∀ σ' H', M σ' H' → u D σ' H'
theorem pss_mid {X : Cx} {st : Stmt} {rest : List Stmt} {t u : TS} (h1 : PS X st t) (h2 : PSs X rest u) : PSs X (st :: rest) (tMid t u) := by
  intro pins s σ H D I ⟨M, h, hM⟩
  refine wpAny_execs_cons (thn (h1 pins s σ H { D with nx := M } I h) fun f s1 q => ?_)
  cases f with
  | next =>
    obtain ⟨σ', H', I', q⟩ := q
    exact h2 pins s1 σ' H' D I' (hM _ _ q)
  | ret v => exact q
  | brk => exact q
  | cont => exact q
def strOf : Expr → Option Str
  | .Constant (.str x) _ _ => some x
  | _ => none
def strsOf : List Expr → Option (List Str)
  | [] => some []
  | e :: r => (strOf e).bind fun x => (strsOf r).map fun xs => x :: xs
def tStrs (xs : List Str) : TA := fun _ H Q => Q (xs.map V.str) H
theorem pa_strs {X : Cx} : ∀ {es : List Expr} (xs : List Str), strsOf es = some xs → PA X es (tStrs xs)
  | [], xs, h => by
    cases h
    exact pa_nil
  | e :: r, xs, h => by
    cases he : strOf e with
    | none => rw [strsOf, he] at h; cases h
    | some x =>
      cases hr : strsOf r with
      | none => rw [strsOf, he, hr] at h; cases h
      | some ys =>
        rw [strsOf, he, hr] at h
        cases h
        have hc : ∃ k p, e = .Constant (.str x) k p := by
          unfold strOf at he
          split at he
          · cases he; exact ⟨_, _, rfl⟩
          · cases he
        obtain ⟨k, p, rfl⟩ := hc
        intro pos pins s σ H Q I q
        have z : PA X (.Constant (.str x) k p :: r) (tCons (tC (.str x)) (tStrs ys)) := pa_cons pe_str (pa_strs ys hr)
        exact z pos pins s σ H Q I q
def capOf (cells : List (Str × Addr)) : List (Str × NameKind) → List (Str × Addr) → List (Str × Addr)
  | [], acc => acc
  | (n, k) :: r, acc => capOf cells r (if k == .free then (n, (cells.lookup n).getD 0) :: acc else acc)
theorem capOf_loop (env : Env) : ∀ (names : List (Str × NameKind)) (acc : List (Str × Addr)), (∀ y ∈ names, y.2 = .free → ∃ c, env.cells.lookup y.1 = some c) →
    (forIn names acc (fun (x : Str × NameKind) (cs : List (Str × Addr)) => if (x.2 == NameKind.free) = true then do let a ← cellOf env x.1; pure (ForInStep.yield ((x.1, a) :: cs)) else pure (ForInStep.yield cs)) : Sem (List (Str × Addr))) = pure (capOf env.cells names acc)
  | [], acc, _ => rfl
  | (n, k) :: r, acc, h => by
    have ih := fun acc' => capOf_loop env r acc' fun y hy => h y (List.mem_cons_of_mem _ hy)
    rw [List.forIn_cons]
    cases hk : k == NameKind.free with
    | false =>
      simp only [capOf, hk, Bool.false_eq_true, if_false, pure_bind]
      exact ih acc
    | true =>
      obtain ⟨c, hc⟩ := h (n, k) List.mem_cons_self (by simpa using hk)
      have hc' : env.cells.lookup n = some c := hc
      have e : cellOf env n = pure c := by unfold cellOf; rw [hc']
      simp only [capOf, hk, if_true, e, pure_bind, hc', Option.getD_some]
      exact ih _
theorem closure_cap {scope : Scope} {env : Env} (h : ∀ y ∈ scope.names, y.2 = .free → ∃ c, env.cells.lookup y.1 = some c) : closureFor scope env = pure (capOf env.cells scope.names []) := by
  unfold closureFor
  have q := capOf_loop env scope.names [] h
  first
    | exact q
    | (simp only [bind_pure]; exact q)
    | (rw [show (forIn scope.names [] _ : Sem (List (Str × Addr))) = _ from q]; rfl)
theorem capOf_some {cells : List (Str × Addr)} {x : Str} {c : Addr} : ∀ (names : List (Str × NameKind)) (acc : List (Str × Addr)), (∀ y ∈ names, y.2 = .free → ∃ c, cells.lookup y.1 = some c) →
    (capOf cells names acc).lookup x = some c → acc.lookup x = some c ∨ cells.lookup x = some c
  | [], acc, _, h => .inl h
  | (n, k) :: r, acc, hf, h => by
    have hf' : ∀ y ∈ r, y.2 = .free → ∃ c, cells.lookup y.1 = some c := fun y hy => hf y (List.mem_cons_of_mem _ hy)
    cases hk : k == NameKind.free with
    | false =>
      simp only [capOf, hk, Bool.false_eq_true, if_false] at h
      exact capOf_some r acc hf' h
    | true =>
      simp only [capOf, hk, if_true] at h
      rcases capOf_some r _ hf' h with h | h
      · rw [List.lookup_cons] at h
        cases hx : x == n with
        | true =>
          rw [hx] at h
          obtain ⟨c', hc⟩ := hf (n, k) List.mem_cons_self (by simpa using hk)
          have hc' : cells.lookup n = some c' := hc
          have e : x = n := by simpa using hx
          simp only [hc', Option.getD_some] at h
          cases h
          exact .inr (by rw [e]; exact hc')
        | false => rw [hx] at h; exact .inl h
      · exact .inr h
theorem capOf_keep {cells : List (Str × Addr)} {x : Str} : ∀ (names : List (Str × NameKind)) (acc : List (Str × Addr)), (∃ c, acc.lookup x = some c) → ∃ c, (capOf cells names acc).lookup x = some c
  | [], _, h => h
  | (n, k) :: r, acc, h => by
    unfold capOf
    refine capOf_keep r _ ?_
    cases hk : k == NameKind.free with
    | false => simpa using h
    | true =>
      simp only [if_true]
      rw [List.lookup_cons]
      cases hx : x == n with
      | true => exact ⟨_, rfl⟩
      | false => exact h
theorem capOf_has {cells : List (Str × Addr)} {x : Str} : ∀ (names : List (Str × NameKind)) (acc : List (Str × Addr)), (x, NameKind.free) ∈ names → ∃ c, (capOf cells names acc).lookup x = some c
  | [], _, h => nomatch h
  | (n, k) :: r, acc, h => by
    rcases List.mem_cons.mp h with e | h
    · cases e
      unfold capOf
      refine capOf_keep r _ ?_
      simp only [beq_self_eq_true, if_true]
      refine ⟨(cells.lookup x).getD 0, ?_⟩
      rw [List.lookup_cons]
      simp
    · exact capOf_has r _ h
def blkOk (scope outer : Scope) : Bool :=
  (scope.kind == .function) && scope.names.all fun y => (y.2 != .cell) && (y.2 != .local || scope.names.lookup y.1 == some .local) && (y.2 != .free || (outer.names.lookup y.1 == some .cell || outer.names.lookup y.1 == some .free))
theorem blk_kind {scope outer : Scope} (h : blkOk scope outer = true) : scope.kind = .function := by
  unfold blkOk at h; rw [Bool.and_eq_true] at h; simpa using h.1
theorem blk_all {scope outer : Scope} (h : blkOk scope outer = true) : ∀ y ∈ scope.names, y.2 ≠ .cell ∧ (y.2 = .local → scope.names.lookup y.1 = some .local) ∧ (y.2 = .free → outer.names.lookup y.1 = some .cell ∨ outer.names.lookup y.1 = some .free) := by
  unfold blkOk at h; rw [Bool.and_eq_true, List.all_eq_true] at h
  intro y hy
  have q := h.2 y hy
  simp only [Bool.and_eq_true, Bool.or_eq_true, bne_iff_ne, beq_iff_eq, ne_eq] at q
  refine ⟨q.1.1, fun e => ?_, fun e => ?_⟩
  · rcases q.1.2 with z | z
    · exact absurd e z
    · exact z
  · rcases q.2 with z | z
    · exact absurd e z
    · exact z
def capsOk (XN : List Str) (scope : Scope) : List Str → List Nat → Bool
  | [], [] => true
  | x :: r, i :: t => (XN[i]? == some x) && (scope.names.lookup x == some .free) && capsOk XN scope r t
  | _, _ => false
theorem caps_get {XN : List Str} {scope : Scope} : ∀ {cs : List Str} {caps : List Nat} {j : Nat} {x : Str}, capsOk XN scope cs caps = true → cs[j]? = some x → ∃ i, caps[j]? = some i ∧ XN[i]? = some x ∧ scope.names.lookup x = some .free
  | [], _, j, x, _, h => by simp at h
  | y :: r, [], j, x, h, _ => by simp [capsOk] at h
  | y :: r, i :: t, 0, x, h, e => by
    simp only [capsOk, Bool.and_eq_true, beq_iff_eq] at h
    simp at e; subst e
    exact ⟨i, rfl, h.1.1, h.1.2⟩
  | y :: r, i :: t, j + 1, x, h, e => by
    simp only [capsOk, Bool.and_eq_true] at h
    obtain ⟨k, h1, h2⟩ := caps_get (j := j) (x := x) h.2 (by simpa using e)
    exact ⟨k, by simpa using h1, h2⟩
theorem caps_len {XN : List Str} {scope : Scope} : ∀ {cs : List Str} {caps : List Nat}, capsOk XN scope cs caps = true → cs.length = caps.length
  | [], [], _ => rfl
  | [], _ :: _, h => by simp [capsOk] at h
  | _ :: _, [], h => by simp [capsOk] at h
  | y :: r, i :: t, h => by
    simp only [capsOk, Bool.and_eq_true] at h
    simp [caps_len h.2]
def stC (nl : Nat) (caps : List Nat) (σ : St) : St := List.replicate nl none ++ caps.map fun i => (σ[i]?).getD none
def cxC (X : Cx) (scope : Scope) (N : List Str) (s : Shared) (H : Hp) (fp : List Addr) : Cx :=
  { X with N := N, s₀ := s, H₀ := H, env := compEnvC scope (capOf X.env.cells scope.names []) (s.heap.objs.size + 1) X.env, outer := X.stack, stack := X.stack, ex := fp, fn := fun _ => false, pn := [], xe := fun _ _ => False }
section
variable {X : Cx} {pins : List (Addr × Obj)} {σ : St} {H : Hp} {s : Shared} {scope : Scope} {N : List Str} {fp : List Addr}
theorem relabel_names_lookup {env : Env} {x : Str} {k : NameKind} : ∀ {names : List (Str × NameKind)}, 
    (names.map fun (n, k) => if (k == NameKind.free && env.scope.kind == .function && env.kindOf n == some .cell) then (n, NameKind.cell) else (n, k)).lookup x = some k → (k = .cell ∨ k = .free) → (x, NameKind.cell) ∈ names ∨ (x, NameKind.free) ∈ names
  | [], h, _ => by simp at h
  | (n, k') :: r, h, hk => by
    have h' : List.lookup x ((if (k' == NameKind.free && env.scope.kind == .function && env.kindOf n == some .cell) = true then (n, NameKind.cell) else (n, k')) :: (r.map fun (n, k) => if (k == NameKind.free && env.scope.kind == .function && env.kindOf n == some .cell) then (n, NameKind.cell) else (n, k))) = some k := h
    by_cases hc : (k' == NameKind.free && env.scope.kind == .function && env.kindOf n == some .cell) = true
    · rw [if_pos hc, List.lookup_cons] at h'
      cases hx : x == n with
      | true =>
        have e : x = n := by simpa using hx
        have e2 : k' = .free := by
          rw [Bool.and_eq_true, Bool.and_eq_true] at hc
          simpa using hc.1.1
        subst e; subst e2
        exact .inr List.mem_cons_self
      | false =>
        rw [hx] at h'
        exact (relabel_names_lookup h' hk).imp (List.mem_cons_of_mem _) (List.mem_cons_of_mem _)
    · rw [if_neg hc, List.lookup_cons] at h'
      cases hx : x == n with
      | true =>
        rw [hx] at h'
        have e : x = n := by simpa using hx
        cases h'
        subst e
        rcases hk with rfl | rfl
        · exact .inl List.mem_cons_self
        · exact .inr List.mem_cons_self
      | false =>
        rw [hx] at h'
        exact (relabel_names_lookup h' hk).imp (List.mem_cons_of_mem _) (List.mem_cons_of_mem _)
theorem lookup_relabel_free {env : Env} : ∀ {names : List (Str × NameKind)} {x : Str}, names.lookup x = some .free →
    (names.map fun (n, k) => if (k == NameKind.free && env.scope.kind == .function && env.kindOf n == some .cell) then (n, NameKind.cell) else (n, k)).lookup x = some .cell ∨
    (names.map fun (n, k) => if (k == NameKind.free && env.scope.kind == .function && env.kindOf n == some .cell) then (n, NameKind.cell) else (n, k)).lookup x = some .free
  | [], _, h => by simp at h
  | (n, k) :: r, x, h => by
    have ih := @lookup_relabel_free env r x
    show List.lookup x ((if (k == NameKind.free && env.scope.kind == .function && env.kindOf n == some .cell) = true then (n, NameKind.cell) else (n, k)) :: _) = _ ∨ List.lookup x ((if (k == NameKind.free && env.scope.kind == .function && env.kindOf n == some .cell) = true then (n, NameKind.cell) else (n, k)) :: _) = _
    cases hx : x == n with
    | true =>
      simp only [List.lookup_cons, hx] at h
      cases h
      by_cases hc : (NameKind.free == NameKind.free && env.scope.kind == .function && env.kindOf n == some .cell) = true
      · rw [if_pos hc]; left; simp [List.lookup_cons, hx]
      · rw [if_neg hc]; right; simp [List.lookup_cons, hx]
    | false =>
      simp only [List.lookup_cons, hx] at h
      by_cases hc : (k == NameKind.free && env.scope.kind == .function && env.kindOf n == some .cell) = true
      · rw [if_pos hc]; simp only [List.lookup_cons, hx]; exact ih h
      · rw [if_neg hc]; simp only [List.lookup_cons, hx]; exact ih h
theorem free_cells (I : Inv X pins σ H s) (hb : blkOk scope X.env.scope = true) : ∀ y ∈ scope.names, y.2 = .free → ∃ c, X.env.cells.lookup y.1 = some c := fun y hy e =>
  I.ok.has y.1 ((blk_all hb y hy).2.2 e)
theorem cxC_ok (I : Inv X pins σ H s) (hb : blkOk scope X.env.scope = true) (hf : ∀ b ∈ fp, FpOk X pins H b) (hlt : ∀ b ∈ fp, b < s.heap.objs.size) : (cxC X scope N s H fp).Ok where
  mod := I.ok.mod
  kind := show scope.kind = .function from blk_kind (outer := X.env.scope) hb
  glob := I.ok.glob
  blt := I.ok.blt
  above := Nat.le_succ _
  inj := fun x y c h1 h2 => by
    have q1 := (capOf_some scope.names [] (free_cells I hb) h1).resolve_left (by simp)
    have q2 := (capOf_some scope.names [] (free_cells I hb) h2).resolve_left (by simp)
    exact I.ok.inj x y c q1 q2
  has := fun x hx => by
    have hx' : (relabel scope X.env).names.lookup x = some .cell ∨ (relabel scope X.env).names.lookup x = some .free := hx
    have q : (x, NameKind.cell) ∈ scope.names ∨ (x, NameKind.free) ∈ scope.names := by
      rcases hx' with z | z
      · exact relabel_names_lookup z (.inl rfl)
      · exact relabel_names_lookup z (.inr rfl)
    rcases q with q | q
    · exact absurd rfl (blk_all hb _ q).1
    · exact capOf_has scope.names [] q
  cab := fun x c h => nomatch h
  hd := I.ok.hd
  frames := I.ok.frames
  stk := .inl rfl
  exf := fun b hbm => ⟨Nat.ne_of_lt (Nat.lt_succ_of_lt (hlt b hbm)), fun x c e => by
    have q := (capOf_some scope.names [] (free_cells I hb) e).resolve_left (by simp)
    exact (hf b hbm).2.2.2.2.1 x c q⟩
  bs := I.bs
  bsz := Nat.le_trans I.ok.bsz I.sz
  noex := fun b o e hbm => by
    rcases (hf b hbm).2.2.2.1 with z | z
    · exact I.ok.noex b o e z
    · exact absurd (Nat.lt_of_lt_of_le (Heap.lt_size e) (Nat.le_trans I.ok.bsz z)) (Nat.lt_irrefl _)
  exfs := fun b hbm z => by
    rcases List.mem_cons.mp (I.stkSub b z) with e | e
    · exact (hf b hbm).2.1 e
    · exact (hf b hbm).2.2.1 e
  funs := I.stack
  frf := I.stkFree
theorem cxC_back {σ' : St} {H' : Hp} {s' : Shared} (I : Inv X pins σ H s) (hf : ∀ b ∈ fp, FpOk X pins H b) (J : Inv (cxC X scope N s H fp) [] σ' H' s') : Inv X pins σ H' s' :=
  I.call' J.os J.base J.hok J.bare fun b hb => ⟨(hf b hb).2.2.2.1, (hf b hb).2.1, (hf b hb).2.2.2.2.1, (hf b hb).2.2.2.2.2⟩
end
def PTs (X : Cx) (ifs : List Expr) (t : TT) : Prop :=
  ∀ (pins : List (Addr × Obj)) (s : Shared) (σ : St) (H : Hp) (Q : Bool → Hp → Prop), Inv X pins σ H s → t σ H Q →
    wpAny (model X.prog X.w) X.A (forIn ifs true fun c r => if r = true then do let ok ← isTrue c X.env (eval c X.env); pure (ForInStep.yield ok) else pure (ForInStep.yield r)) (TP X pins σ Q) X.xe s
def tYes : TT := fun _ H Q => Q true H
theorem pts_nil {X : Cx} : PTs X [] tYes := fun _ _ _ H _ I h => wpAny_tests_nil ⟨H, I, h⟩
theorem pts_one {X : Cx} {c : Expr} {t : TT} (hc : PT X c t) : PTs X [c] t := fun pins s σ H Q I h => wpAny_tests_one (hc pins s σ H Q I h)
theorem comp_loop {prog : Program} {w : World} {A : Around} {R : Result → Shared → Prop} {s : Shared} {elt target iter : Expr} {ifs : List Expr} {scope : Scope} {pos : Pos} {it acc : Value} {env : Env} (I : Nat → Shared → Prop)
    (turn : ∀ n s, I n s → wpAny (model prog w) A (pyNext it) (fun r s₁ => match r with
      | none => R (.ok .next) s₁
      | some v => wpAny (model prog w) A (letOwnedTupleGo target it v) (fun _ s₁' => wpAny (model prog w) A (assign target env v) (fun _ s₂ =>
          wpAny (model prog w) A (forIn ifs true fun c r => if r = true then do let ok ← isTrue c env (eval c env); pure (ForInStep.yield ok) else pure (ForInStep.yield r)) (fun ok s₃ =>
            if ok = true then wpAny (model prog w) A (eval elt env) (fun x s₄ =>
              wpAny (model prog w) A (call (.builtin "list.append") [acc, x]) (fun _ s₅ => ∃ m, m < n ∧ I m s₅) (fun _ _ => False) s₄) (fun _ _ => False) s₃
            else ∃ m, m < n ∧ I m s₃) (fun _ _ => False) s₂) (fun _ _ => False) s₁') (fun _ _ => False) s₁) (fun _ _ => False) s)
    (n : Nat) (h : I n s) : codeAny (model prog w) A (.compLoop (.ListComp elt [⟨target, iter, ifs, 0⟩] scope pos) 0 it acc env) R s := by
  refine codeAny_loop rfl I (fun n s hI => ?_) n h
  show wpAny _ A ((compTurn (.ListComp elt [⟨target, iter, ifs, 0⟩] scope pos) 0 it acc env).onRaise (fun x => do noteFrame x env; theTreesLotGoes x)) _ _ s
  refine wpAny_noted ?_
  refine wpAny_noRaise ?_
  rw [compTurn_list]
  refine wpAny_bind (wpAny_standAt (wpAny_bind (wpAny_mono (turn n s hI) (fun r s₁ h₁ => ?_) fun _ _ h' => h')))
  cases r with
  | none => exact wpAny_pure h₁
  | some v =>
    refine wpAny_bind (wpAny_mono h₁ (fun _ s₁' h₁' => ?_) fun _ _ h' => h')
    refine wpAny_bind (wpAny_mono h₁' (fun _ s₂ h₂ => wpAny_bind (wpAny_mono h₂ (fun ok s₃ h₃ => ?_) fun _ _ h' => h')) fun _ _ h' => h')
    cases ok with
    | false => exact wpAny_pure ⟨rfl, h₃⟩
    | true =>
      exact wpAny_bind (wpAny_bind (wpAny_mono h₃ (fun x s₄ h₄ => wpAny_bind (wpAny_mono h₄ (fun _ s₅ h₅ => wpAny_pure (wpAny_pure ⟨rfl, h₅⟩)) fun _ _ h' => h')) fun _ _ h' => h'))
def cmpR (J : It) (g : TG) (tc : TT) (te : TE) (D : Addr) (Fin : Hp → Prop) (σ0 : St) (H0 : Hp) : Prop :=
  ∃ W : Nat → Nat → St → Hp → Prop, (∃ m, W 0 m σ0 H0) ∧ ∀ i m σ H, W i m σ H →
    (J.stop i H ∧ Fin H) ∨ (J.go i H ∧ ∃ N : St → Hp → Prop, (∀ σ' H', N σ' H' → ∃ m', m' < m ∧ W (i + 1) m' σ' H') ∧ ∀ x H1, J.yld i H x H1 → g x σ H1 fun σ2 H2 => tc σ2 H2 fun b H3 =>
      if b = true then te σ2 H3 fun v H4 => ∃ xs, H4 D = some (.lst xs) ∧ xs.length < sizeLine ∧ N σ2 (upd H4 D (.lst (xs ++ [v]))) else N σ2 H3)
theorem cmp_by {J : It} {g : TG} {tc : TT} {te : TE} {D : Addr} {Fin : Hp → Prop} {σ0 : St} {H0 : Hp} (n : Nat) (Pv : Nat → St → Hp → Prop) (h0 : Pv 0 σ0 H0) (hend : ∀ σ H, Pv n σ H → J.stop n H ∧ Fin H)
    (hs : ∀ i σ H, i < n → Pv i σ H → J.go i H ∧ ∀ x H1, J.yld i H x H1 → g x σ H1 fun σ2 H2 => tc σ2 H2 fun b H3 =>
      if b = true then te σ2 H3 fun v H4 => ∃ xs, H4 D = some (.lst xs) ∧ xs.length < sizeLine ∧ Pv (i + 1) σ2 (upd H4 D (.lst (xs ++ [v]))) else Pv (i + 1) σ2 H3) : cmpR J g tc te D Fin σ0 H0 := by
  refine ⟨fun i m σ H => m = n - i ∧ i ≤ n ∧ Pv i σ H, ⟨n, by simp, Nat.zero_le _, h0⟩, ?_⟩
  rintro i m σ H ⟨rfl, hi, p⟩
  by_cases hlt : i < n
  · obtain ⟨q1, q2⟩ := hs i σ H hlt p
    exact .inr ⟨q1, Pv (i + 1), fun σ' H' p' => ⟨n - (i + 1), by omega, rfl, hlt, p'⟩, q2⟩
  · have e : i = n := by omega
    subst e
    exact .inl (hend σ H p)
def tComp (wi : TI) (g : TG) (tc : TT) (te : TE) (nl : Nat) (caps : List Nat) : TE := fun σ H Q =>
  wi σ H fun J H1 => ∀ D, H1 D = none → cmpR J g tc te D (fun H' => Q (.ref D) H') (stC nl caps σ) (upd H1 D (.lst []))
section
variable {X : Cx} {tg iter elt : Expr} {ifs : List Expr} {scope : Scope} {pos : Pos} {wi : TI} {g : TG} {tc : TT} {te : TE} {locs cs : List Str} {caps : List Nat}
theorem comp_block {pins : List (Addr × Obj)} {σ : St} {H : Hp} {s : Shared} {it : Addr} {fp : List Addr} {tn : Nat → Heap → Prop} {J : It} {RR : Value → Addr → Result → Shared → Prop} {E : Value → Shared → Prop} {Fin : Hp → Prop}
    (hc : X.calm = true) (hb : blkOk scope X.env.scope = true) (hcap : capsOk X.N scope cs caps = true)
    (I : Inv X pins σ H s) (T : Turn X.prog X.w X.K tg J fp it tn) (st : tn 0 s.heap) (hf : ∀ b ∈ fp, FpOk X pins H b)
    (hg : PG (cxC X scope (locs ++ cs) s H fp) tg g) (ht : PTs (cxC X scope (locs ++ cs) s H fp) ifs tc) (he : PE (cxC X scope (locs ++ cs) s H fp) elt te)
    (h : cmpR J g tc te s.heap.objs.size Fin (stC locs.length caps σ) (upd H s.heap.objs.size (.lst [])))
    (hRR : ∀ σ' H' s', Inv (cxC X scope (locs ++ cs) s H fp) [] σ' H' s' → Fin H' → RR (.ref s.heap.objs.size) (s.heap.objs.size + 1) (.ok .next) s') :
    wpAny (model X.prog X.w) X.A (newList []) (fun acc s₃ => wpAny (model X.prog X.w) X.A (newFunctionEnv scope X.env.globals (capOf X.env.cells scope.names []) [] X.env.qual none .none (some X.env)) (fun cenv s₄ =>
      codeAny (model X.prog X.w) X.A (.compStart (.ListComp elt [⟨tg, iter, ifs, 0⟩] scope pos) 0 (.ref it) acc { cenv with scope := relabel scope X.env }) (RR acc cenv.locals) s₄) E s₃) E s := by
  have hcell : ∀ y ∈ scope.names, y.2 ≠ .cell := fun y hy => (blk_all hb y hy).1
  have hkind := blk_kind hb
  have hlt : ∀ b ∈ fp, b < s.heap.objs.size := fun b hbm => by
    obtain ⟨o, e, _⟩ := T.obj 0 _ st b hbm
    exact Heap.lt_size e
  refine wpAny_newObj_type (wpAny_newFunctionEnv hcell (by intro y hy; simp at hy) (fun h₁ hns₁ hsb₁ => ?_) hkind)
  dsimp only at hns₁ hsb₁ ⊢
  generalize hH2 : s.heap.push { cls := .type "list", dict := none, data := .seq ([] : List Value).toArray } = H2 at hns₁ hsb₁ ⊢
  have hC : H2.objs.size = s.heap.objs.size + 1 := by rw [← hH2, Heap.size_push]
  rw [hC] at hns₁ hsb₁ ⊢
  have hDC : s.heap.objs.size ≠ s.heap.objs.size + 1 := Nat.ne_of_lt (Nat.lt_succ_self _)
  have below : ∀ b, b < s.heap.objs.size → b ≠ s.heap.objs.size + 1 := fun b hb => Nat.ne_of_lt (Nat.lt_succ_of_lt hb)
  have old : ∀ b o, s.heap.get? b = some o → h₁.get? b = some o := fun b o e => hsb₁.extBut b o (below b (Heap.lt_size e)) (Heap.get?_push_of_some _ (hH2 ▸ Heap.get?_push_of_some _ e))
  have hD : h₁.get? s.heap.objs.size = some { cls := .type "list", dict := none, data := .seq ([] : List Value).toArray } :=
    hsb₁.extBut _ _ hDC (Heap.get?_push_of_some _ (hH2 ▸ Heap.get?_push_size _ rfl))
  have frC : H (s.heap.objs.size + 1) = none := I.hok.fresh (Nat.le_succ _)
  have frD : H s.heap.objs.size = none := I.hok.fresh (Nat.le_refl _)
  have J0 : Inv (cxC X scope (locs ++ cs) s H fp) [] (stC locs.length caps σ) (upd H s.heap.objs.size (.lst [])) { s with heap := h₁, toks := s.toks + ([] : List (Str × Value)).length } := by
    refine ⟨cxC_ok I hb hf hlt, rfl, I.bare, Un.laid old (Nat.le_refl _) frD, ⟨_, hns₁, fun i x v e1 e2 e3 => ?_⟩, fun x c e => ?_, ?_, fun x c e => ?_, fun p hp => absurd (show p ∈ ([] : List (Addr × Obj)) from hp) (by simp), ?_, ?_⟩
    · have e1' : (locs ++ cs)[i]? = some x := e1
      have hi : locs.length ≤ i := by
        rcases Nat.lt_or_ge i locs.length with hi | hi
        · unfold stC at e2
          rw [List.getElem?_append_left (by simpa using hi), List.getElem?_replicate] at e2
          split at e2 <;> cases e2
        · exact hi
      rw [List.getElem?_append_right hi] at e1'
      obtain ⟨k, q1, q2, q3⟩ := caps_get hcap e1'
      unfold stC at e2
      rw [List.getElem?_append_right (by simpa using hi), List.length_replicate, List.getElem?_map, q1] at e2
      have e2' : (σ[k]?).getD none = some v := by simpa using e2
      have e4 : σ[k]? = some (some v) := by
        cases z : σ[k]? with
        | none => rw [z] at e2'; cases e2'
        | some o => rw [z] at e2'; simp at e2'; rw [e2']
      have hfr := (blk_all hb _ (PySem.mem_of_lookup q3)).2.2 rfl
      obtain ⟨m, hn, hl⟩ := I.loc
      obtain ⟨u, r, l⟩ := hl k x v q2 e4 (hfr.elim (fun z => .inr (.inl z)) fun z => .inr (.inr z))
      refine ⟨u, r, .inr ⟨?_, ?_⟩⟩
      · exact lookup_relabel_free q3
      · rcases l with ⟨k1, _⟩ | ⟨_, c, ec, z⟩
        · exfalso
          have k1' : X.env.scope.names.lookup x = some .local := k1
          rcases hfr with z | z <;> (rw [k1'] at z; cases z)
        · obtain ⟨c', ec'⟩ := capOf_has (cells := X.env.cells) scope.names [] (PySem.mem_of_lookup q3)
          have q := (capOf_some scope.names [] (free_cells I hb) ec').resolve_left (by simp)
          rw [ec] at q; cases q
          obtain ⟨o, ho, hd⟩ := z
          exact ⟨c, ec', o, old _ _ ho, hd⟩
    · have q := (capOf_some scope.names [] (free_cells I hb) e).resolve_left (by simp)
      obtain ⟨v, o, ho, hd⟩ := I.cell x c q
      exact ⟨v, o, old _ _ ho, hd⟩
    · show upd H s.heap.objs.size (.lst []) (s.heap.objs.size + 1) = none
      rw [upd_ne (Ne.symm hDC)]
      exact frC
    · have q := (capOf_some scope.names [] (free_cells I hb) e).resolve_left (by simp)
      obtain ⟨v, o, ho, hd⟩ := I.cell x c q
      rw [upd_ne (Nat.ne_of_lt (Heap.lt_size ho))]
      exact I.freeC x c q
    · exact I.hok.laid old (Nat.le_refl _) ⟨Nat.zero_le _, [], 0, .nil, hD⟩
    · show (stC locs.length caps σ).length = (locs ++ cs).length
      unfold stC
      rw [List.length_append, List.length_replicate, List.length_map, List.length_append, caps_len hcap]
  obtain ⟨W, ⟨m0, w0⟩, turn⟩ := h
  have stat : ∀ {H' : Hp}, (∀ b ∈ fp, H' b = none) → ∀ b ∈ fp, FpOk (cxC X scope (locs ++ cs) s H fp) [] H' b := fun {H'} hn b hbm => by
    have q := (cxC_ok (N := locs ++ cs) I hb hf hlt)
    refine ⟨hn b hbm, (q.exf b hbm).1, q.exfs b hbm, .inl hbm, (q.exf b hbm).2, fun p hp => absurd (show p ∈ ([] : List (Addr × Obj)) from hp) (by simp)⟩
  have fr0 : ∀ b ∈ fp, upd H s.heap.objs.size (.lst []) b = none := fun b hbm => by rw [upd_ne (Nat.ne_of_lt (hlt b hbm))]; exact (hf b hbm).1
  have loop : ∀ s₃ : Shared, s₃ = { s with heap := h₁, toks := s.toks + ([] : List (Str × Value)).length } →
      codeAny (model X.prog X.w) X.A (.compLoop (.ListComp elt [⟨tg, iter, ifs, 0⟩] scope pos) 0 (.ref it) (.ref s.heap.objs.size) (cxC X scope (locs ++ cs) s H fp).env) (RR (.ref s.heap.objs.size) (s.heap.objs.size + 1)) s₃ := by
    rintro s₃ rfl
    refine comp_loop (fun n s' => ∃ i σ' H', Inv (cxC X scope (locs ++ cs) s H fp) [] σ' H' s' ∧ tn i s'.heap ∧ (∀ b ∈ fp, H' b = none) ∧ W i n σ' H') ?_ m0
      ⟨0, _, _, J0, T.keep _ _ _ st fun b _ o e => old b o e, fr0, w0⟩
    rintro n s3 ⟨i, σ3, H3, I3, st3, fr3, w3⟩
    rcases turn i n σ3 H3 w3 with ⟨stop, qn⟩ | ⟨go, Nn, hNn, step⟩
    · refine thn (T.done (cxC X scope (locs ++ cs) s H fp) rfl rfl rfl hc i [] s3 σ3 H3 _ I3 (stat fr3) st3 stop) fun r s4 ⟨hr, I4⟩ => ?_
      subst hr
      exact hRR σ3 H3 s4 I4 qn
    · refine thn (T.item (cxC X scope (locs ++ cs) s H fp) rfl rfl rfl hc i [] s3 σ3 H3 _ I3 (stat fr3) st3 go) fun r s4 ⟨u, hr, h4⟩ => ?_
      subst hr
      refine thn h4 fun _ s5 ⟨x, H5, I5, r5, y5, st5, fr5⟩ => ?_
      have I5' := I5.pinned (stat fr5) (T.obj _ _ st5)
      have again : ∀ {σ7 : St} {H7 : Hp} {s7 : Shared}, Inv (cxC X scope (locs ++ cs) s H fp) ([] ++ pinsAt fp s5.heap) σ7 H7 s7 → Nn σ7 H7 →
          ∃ m, m < n ∧ ∃ i σ' H', Inv (cxC X scope (locs ++ cs) s H fp) [] σ' H' s7 ∧ tn i s7.heap ∧ (∀ b ∈ fp, H' b = none) ∧ W i m σ' H' := fun {σ7 H7 s7} I7 n7 => by
        obtain ⟨m', hm, w7⟩ := hNn σ7 H7 n7
        refine ⟨m', hm, i + 1, σ7, H7, I7.unpinned, T.keep _ _ _ st5 fun b hb o e => (I7.pin (b, o) (List.mem_append_right _ (List.mem_append_right _ (mem_pinsAt hb e)))).1, fun b hb => ?_, w7⟩
        obtain ⟨o, e, d⟩ := T.obj _ _ st5 b hb
        exact (I7.pin (b, o) (List.mem_append_right _ (List.mem_append_right _ (mem_pinsAt hb e)))).2.1
      refine thn (hg _ s5 σ3 H5 x u _ I5' r5 (step x H5 y5)) fun _ s6 ⟨σ6, H6, I6, q6⟩ => ?_
      refine thn (ht _ s6 σ6 H6 _ I6 q6) fun b s7 ⟨H7, I7, q7⟩ => ?_
      cases b with
      | false => exact again I7 q7
      | true =>
        refine thn (he _ s7 σ6 H7 _ I7 q7) fun u8 s8 ⟨v8, H8, I8, r8, xs, e8, z8, q8⟩ => ?_
        refine thn (mt_append (X := cxC X scope (locs ++ cs) s H fp) ([] ++ pinsAt fp s5.heap) s8 σ6 H8 (.ref s.heap.objs.size) [v8] (.ref s.heap.objs.size) [u8] (fun _ H9 => Nn σ6 H9) I8 rfl (.cons r8 .nil) ⟨_, xs, v8, rfl, rfl, e8, z8, q8⟩) fun _ s9 ⟨_, H9, I9, _, q9⟩ => ?_
        exact again I9 q9
  exact codeAny_compStart_list (loop _ rfl) (T.self _ 0 _ _ _ (T.keep _ _ _ st fun b _ o e => old b o e) (loop _ rfl))
theorem pe_comp (locs cs : List Str) (caps : List Nat) (hc : X.calm = true) (hi : PI X tg iter wi) (hg : ∀ s H fp, PG (cxC X scope (locs ++ cs) s H fp) tg g) (ht : ∀ s H fp, PTs (cxC X scope (locs ++ cs) s H fp) ifs tc) (he : ∀ s H fp, PE (cxC X scope (locs ++ cs) s H fp) elt te)
    (hb : blkOk scope X.env.scope = true := by rfl) (hcap : capsOk X.N scope cs caps = true := by rfl) (hs : ∀ x, foldedSetIterable iter X.env x = pure x := by intro _; rfl) :
    PE X (.ListComp elt [⟨tg, iter, ifs, 0⟩] scope pos) (tComp wi g tc te locs.length caps) := by
  intro pins s σ H Q I h
  rw [eval_ListComp]
  refine wpAny_comprehension_free (use := none) rfl hs (closure_cap (free_cells I hb)) (blk_kind hb) (fun y hy => (blk_all hb y hy).2.1) (thn (hi pins s σ H _ I h) fun v s1 h1 => thn h1 fun itv s2 h2 => ?_)
  obtain ⟨it, fp, tn, J, H2, e, I2, T, st2, f2, q⟩ := h2
  subst e
  refine comp_block (RR := fun acc C => compPost (model X.prog X.w) X.A X.xe none (EP X pins σ Q) acc C) (locs := locs) (cs := cs) (Fin := fun H' => Q (.ref s2.heap.objs.size) H') hc hb hcap I2 T st2 f2 (hg _ _ _) (ht _ _ _) (he _ _ _) (q _ (I2.hok.fresh (Nat.le_refl _))) ?_
  intro σ' H' s' J' q'
  obtain ⟨m, hn, _⟩ := J'.loc
  refine ⟨m, hn, fun h' hs' => ?_⟩
  have I3 := cxC_back I2 f2 J'
  have fr : H' (s2.heap.objs.size + 1) = none := J'.free
  refine ⟨.ref s2.heap.objs.size, H', I3.turned (t' := s'.toks) (it := s2.heap.objs.size + 1) (fun b o hb e => (hs'.2 b hb).trans e) fr ?_ (.inr (Nat.le_trans I2.sz (Nat.le_succ _))) ?_ ?_, rfl, q'⟩
  · exact Nat.ne_of_gt (Nat.lt_succ_of_lt I2.lt)
  · intro x c e z
    obtain ⟨v, hv⟩ := I2.cell x c e
    have h1 : s2.heap.objs.size + 1 < s2.heap.objs.size := z ▸ hv.lt
    exact absurd h1 (Nat.not_lt.mpr (Nat.le_succ _))
  · intro p hp z
    have h1 : s2.heap.objs.size + 1 < s2.heap.objs.size := z ▸ Heap.lt_size (I2.pin p hp).1
    exact absurd h1 (Nat.not_lt.mpr (Nat.le_succ _))
theorem ps_setC {i : Nat} {y : Str} {py spos : Pos} (locs cs : List Str) (caps : List Nat) (hN : X.N.Nodup) (hiy : X.N[i]? = some y) (hc : X.calm = true) (hi : PI X tg iter wi) (hg : ∀ s H fp, PG (cxC X scope (locs ++ cs) s H fp) tg g) (ht : ∀ s H fp, PTs (cxC X scope (locs ++ cs) s H fp) ifs tc) (he : ∀ s H fp, PE (cxC X scope (locs ++ cs) s H fp) elt te)
    (hy : X.env.scope.names.lookup y = some .local := by rfl)
    (hsw : swapsWith (.ListComp elt [⟨tg, iter, ifs, 0⟩] scope pos) (some (.Name y py)) spos.line X.env = pure true := by rfl)
    (hb : blkOk scope X.env.scope = true := by rfl) (hcap : capsOk X.N scope cs caps = true := by rfl) (hs : ∀ x, foldedSetIterable iter X.env x = pure x := by intro _; rfl) :
    PS X (.Assign [.Name y py] (.ListComp elt [⟨tg, iter, ifs, 0⟩] scope pos) spos) (tAsg (tComp wi g tc te locs.length caps) (gName i)) := by
  intro pins s σ H D I h
  rw [exec_Assign_Name_used _ _ _ _ hsw]
  refine wpAny_bind (wpAny_standAt (wpAny_bind ?_))
  show wpAny _ X.A (do let _ ← comprehension (.ListComp elt [⟨tg, iter, ifs, 0⟩] scope pos) scope X.env _ (newList []) false (eval iter X.env) (some (assign (.Name y py) X.env))) _ _ s
  refine wpAny_bind (wpAny_mono (wpAny_comprehension_free (use := some (assign (.Name y py) X.env)) (Q := fun _ s' => SP X pins D .next s') rfl hs (closure_cap (free_cells I hb)) (blk_kind hb) (fun y hy => (blk_all hb y hy).2.1)
    (thn (hi pins s σ H _ I h) fun v s1 h1 => thn h1 fun itv s2 h2 => ?_)) (fun _ s' hq => wpAny_pure (wpAny_pure hq)) fun _ _ e => e)
  obtain ⟨it, fp, tn, J, H2, e, I2, T, st2, f2, q⟩ := h2
  subst e
  refine comp_block (RR := fun acc C => compPost (model X.prog X.w) X.A X.xe (some (assign (.Name y py) X.env)) (fun _ s' => SP X pins D .next s') acc C) (locs := locs) (cs := cs) (Fin := fun H' => gName i (.ref s2.heap.objs.size) σ H' D.nx) hc hb hcap I2 T st2 f2 (hg _ _ _) (ht _ _ _) (he _ _ _) (q _ (I2.hok.fresh (Nat.le_refl _))) ?_
  intro σ' H' s' J' q'
  obtain ⟨m, hn, _⟩ := J'.loc
  have I3 := cxC_back I2 f2 J'
  have fr : H' (s2.heap.objs.size + 1) = none := J'.free
  have neL : s2.heap.objs.size + 1 ≠ X.env.locals := Nat.ne_of_gt (Nat.lt_succ_of_lt I2.lt)
  have neC : ∀ x c, X.env.cells.lookup x = some c → c ≠ s2.heap.objs.size + 1 := fun x c e z => by
    obtain ⟨v, hv⟩ := I2.cell x c e
    have h1 : s2.heap.objs.size + 1 < s2.heap.objs.size := z ▸ hv.lt
    exact absurd h1 (Nat.not_lt.mpr (Nat.le_succ _))
  show wpAny _ X.A (assign (.Name y py) X.env (.ref s2.heap.objs.size)) _ _ s'
  refine wpAny_assign_Name (store_ok2 I3 hN hiy (.inl hy) (v := .ref s2.heap.objs.size) rfl (fun s4 I4 hsb => ?_) (.inr hy))
  obtain ⟨a, sb, ha⟩ := hsb
  have ane : s2.heap.objs.size + 1 ≠ a := by
    rcases ha with rfl | ha
    · exact neL
    · exact Ne.symm (neC _ _ ha)
  refine ⟨m, hn.sameBut sb ane, fun h' hs' => ?_⟩
  refine ⟨_, H', I4.turned (t' := s4.toks) (it := s2.heap.objs.size + 1) (fun b o hb e => (hs'.2 b hb).trans e) fr neL (.inr (Nat.le_trans I2.sz (Nat.le_succ _))) neC ?_, q'⟩
  intro p hp z
  have h1 : s2.heap.objs.size + 1 < s2.heap.objs.size := z ▸ Heap.lt_size (I2.pin p hp).1
  exact absurd h1 (Nat.not_lt.mpr (Nat.le_succ _))
end
def Its (x : Str) : It := ⟨fun i _ => i < x.cps.size, fun i H v H' => H' = H ∧ ∃ c, x.cps[i]? = some c ∧ v = .str ⟨#[c]⟩, fun i _ => i = x.cps.size⟩
theorem turn_str {P : Program} {w : World} {K : PySem.W.Frag} {tg : Expr} (it : Addr) (x : Str) (t : Tok) (T : String) (hT : T = "str_ascii_iterator" ∨ T = "str_iterator")
    (W : ∀ A' : Around, A'.handled = none → Walks P w A' it [it] [it] x.cps.size (SignAt x) (fun i h => h.IsStrIter it T x t i)) : Turn P w K tg (Its x) [it] it (fun i h => h.IsStrIter it T x t i) where
  mem := by simp
  obj := fun i h st b hb => by
    have e : b = it := by simpa using hb
    subst e
    obtain ⟨o, e, c, d⟩ := st
    exact ⟨o, e, fun v z => by rw [d] at z; cases z⟩
  keep := fun i h h' st k => by
    obtain ⟨o, e, r⟩ := st
    exact ⟨o, k it (by simp) o e, r⟩
  item := by
    intro X hP hw hK hc i pins s σ H E I hf st hg
    subst hP hw hK
    obtain ⟨f0, f1, f2, f3, f4, f5⟩ := hf it (by simp)
    refine (W X.A (I.ok.hd hc)).item i s _ _ hg st fun v h' tk hv st' kk => ?_
    obtain ⟨c, u, hcx, rfl⟩ := hv
    have I1 : Inv X pins σ H { s with heap := h', toks := tk } := I.turned (fun b o hb e => kk b o (by simpa using hb) e) f0 f1 f3 f4 f5
    obtain ⟨o, e, c1, d⟩ := id st'
    refine ⟨_, rfl, go_of (s := { s with heap := h', toks := tk }) e c1 d (by rcases hT with rfl | rfl <;> decide) ⟨.str ⟨#[c]⟩, H, I1, ⟨u, rfl⟩, ⟨rfl, c, hcx, rfl⟩, st', fun b hb => (hf b hb).1⟩⟩
  done := by
    intro X hP hw hK hc i pins s σ H E I hf st hg
    subst hP hw hK
    have hg' : i = x.cps.size := hg
    subst hg'
    obtain ⟨f0, f1, f2, f3, f4, f5⟩ := hf it (by simp)
    exact (W X.A (I.ok.hd hc)).done s _ _ st fun h' tk kk => ⟨rfl, I.turned (fun b o hb e => kk b o (by simpa using hb) e) f0 f1 f3 f4 f5⟩
  self := fun A i s Q E st h => by
    rcases hT with rfl | rfl
    · exact wpAny_pyIter_striter_ascii st h
    · exact wpAny_pyIter_striter_wide st h
section
variable {X : Cx} {tg : Expr}
def iStr (tl : TE) : TI := fun σ H R => tl σ H fun x H1 => ∃ z, x = .str z ∧ R (Its z) H1
theorem pi_str {l : Expr} {tl : TE} (hl : PE X l tl) : PI X tg l (iStr tl) := by
  intro pins s σ H R I h
  refine thn (hl pins s σ H _ I h) fun v s1 ⟨x, H1, I1, r1, q1⟩ => ?_
  obtain ⟨z, rfl, q⟩ := q1
  obtain ⟨t, rfl⟩ := r1
  have fin : ∀ (T : String) (o : Obj), (T = "str_ascii_iterator" ∨ T = "str_iterator") → (∀ A' : Around, A'.handled = none → Walks X.prog X.w A' s1.heap.objs.size [s1.heap.objs.size] [s1.heap.objs.size] z.cps.size (SignAt z) (fun i h => h.IsStrIter s1.heap.objs.size T z t i)) →
      (s1.heap.push o).IsStrIter s1.heap.objs.size T z t 0 → PIE X pins σ tg R (.ref s1.heap.objs.size) { s1 with heap := s1.heap.push o } := fun T o hT W st => by
    refine ⟨s1.heap.objs.size, [s1.heap.objs.size], _, _, H1, rfl, I1.kept (t' := s1.toks) fun b o e => Heap.get?_push_of_some _ e, turn_str _ z t T hT W, st, fun b hb => ?_, q⟩
    have e : b = s1.heap.objs.size := by simpa using hb
    subst e
    exact I1.fpOk (Nat.le_refl _) (I1.hok.fresh (Nat.le_refl _))
  cases ha : z.cps.all (· < 128)
  · exact wpAny_pyIter_wide ha (fin "str_iterator" _ (.inr rfl) (fun A' hA => Walks.strWide hA _ z t) ⟨_, Heap.get?_push_size _ rfl, rfl, rfl⟩)
  · exact wpAny_pyIter_ascii ha (fin "str_ascii_iterator" _ (.inl rfl) (fun A' hA => Walks.strAscii hA _ z t) ⟨_, Heap.get?_push_size _ rfl, rfl, rfl⟩)
end
theorem for_str {z : Str} {g : TG} {tb : TS} {D : Ends} {σ : St} {H : Hp} (Pv : Nat → St → Hp → Prop) (h0 : Pv 0 σ H)
    (hs : ∀ i c σ H, z.cps[i]? = some c → Pv i σ H → g (.str ⟨#[c]⟩) σ H fun σ2 H2 => tb { D with nx := Pv (i + 1), ct := Pv (i + 1), bk := D.nx } σ2 H2) (hd : ∀ σ H, Pv z.cps.size σ H → D.nx σ H) :
    ∃ W : Nat → Nat → St → Hp → Prop, (∃ m, W 0 m σ H) ∧ ∀ i m σ H, W i m σ H →
      ((Its z).stop i H ∧ D.nx σ H) ∨ ((Its z).go i H ∧ ∃ N : St → Hp → Prop, (∀ σ' H', N σ' H' → ∃ m', m' < m ∧ W (i + 1) m' σ' H') ∧ ∀ x H', (Its z).yld i H x H' → g x σ H' fun σ2 H2 => tb { D with nx := N, ct := N, bk := D.nx } σ2 H2) := by
  refine ⟨fun i m σ H => m = z.cps.size - i ∧ i ≤ z.cps.size ∧ Pv i σ H, ⟨z.cps.size, by simp, Nat.zero_le _, h0⟩, ?_⟩
  rintro i m σ H ⟨rfl, hi, p⟩
  by_cases hlt : i < z.cps.size
  · refine .inr ⟨hlt, Pv (i + 1), fun σ' H' p' => ⟨z.cps.size - (i + 1), by omega, rfl, hlt, p'⟩, fun x H' y => ?_⟩
    obtain ⟨e, c, hc, rfl⟩ := y
    subst e
    exact hs i c σ _ hc p
  · have e : i = z.cps.size := by omega
    subst e
    exact .inl ⟨rfl, hd σ H p⟩
section
variable {X : Cx}
theorem part_val {u : Value} {o : Option Int} (p : IsPart u o) : ∃ l : Option (Int × Tok), u = partValue l ∧ l.map (·.1) = o := by
  cases p with
  | none => exact ⟨none, rfl, rfl⟩
  | int i t => exact ⟨some (i, t), rfl, rfl⟩
def rSlS : V → Option Int → Option Int → Hp → VK → Prop := fun x lo hi H Q => ∃ z, x = .str z ∧ z.length ≤ sizeLine ∧ Q (.str (Txt.slice z lo hi)) H
theorem sl_str : SlR X rSlS := by
  intro pins s σ H x v vl vu lo hi sl Q I rx hs pl pu h
  obtain ⟨z, rfl, hz, q⟩ := h
  obtain ⟨t, rfl⟩ := rx
  obtain ⟨l, rfl, rfl⟩ := part_val pl
  obtain ⟨u, rfl, rfl⟩ := part_val pu
  refine ⟨"str", _, F.slot_str_getitem.lookup, typeIs_str _ _ _, wpAny_getItem_str_slice (l := l) (u := u) (st := none) hs rfl ?_⟩
  exact post_val_or_str ⟨Nat.le_trans (Txt.slice_le z _ _) hz, fun t' k => ⟨.str (Txt.slice z (l.map (·.1)) (u.map (·.1))), H, I.tok _, ⟨t', rfl⟩, q⟩⟩
theorem idx_cut (lo hi : Option Int) (n : Nat) : Builtin.Str.strSliceIndices lo hi 1 n = (List.range (HT.sIx n n hi - HT.sIx n 0 lo)).map fun k => HT.sIx n 0 lo + k := by
  have c : ∀ (v : Int) (d : Nat), max 0 (min (if v < 0 then v + (n : Int) else v) (n : Int)) = ((HT.sIx n d (some v) : Nat) : Int) := fun v d => by
    rw [← HT.clip_eq v n d]
    by_cases hv : v < 0
    · simp only [if_pos hv]; omega
    · simp only [if_neg hv]; omega
  have key : ∀ i j : Nat, sliceRange (i : Int) (j : Int) 1 = (List.range (j - i)).map fun k => i + k := fun i j => by
    unfold sliceRange
    simp only [show (1 : Int) > 0 by decide, if_true]
    have e : (if (i : Int) < (j : Int) then ((j : Int) - i + 1 - 1) / 1 else 0).toNat = j - i := by
      split <;> omega
    rw [e]
    refine List.map_congr_left fun k _ => ?_
    omega
  rw [← key]
  unfold Builtin.Str.strSliceIndices
  simp only [show (1 : Int) > 0 by decide, if_true]
  cases lo with
  | none =>
    cases hi with
    | none => rfl
    | some v => rw [← c v n]; rfl
  | some u =>
    cases hi with
    | none => rw [← c u 0]; rfl
    | some v => rw [← c v n, ← c u 0]
theorem slice_cps (x : Str) (lo hi : Option Int) : (Txt.slice x lo hi).cps.toList = (x.cps.toList.drop (HT.sIx x.length 0 lo)).take (HT.sIx x.length x.length hi - HT.sIx x.length 0 lo) := by
  have h0 := HT.sIx_le x.length 0 (Nat.zero_le _) lo
  have h1 := HT.sIx_le x.length x.length (Nat.le_refl _) hi
  have hx : x.cps.toList.length = x.length := by simp [Str.length]
  unfold Txt.slice
  rw [idx_cut]
  split
  · rename_i h
    rw [Bool.and_eq_true] at h
    have h' : HT.sIx x.length x.length hi - HT.sIx x.length 0 lo = x.length := by
      have z := h.2
      rw [List.length_map, List.length_range] at z
      exact eq_of_beq z
    have h2 : HT.sIx x.length 0 lo = 0 := by omega
    rw [h', h2, List.drop_zero, List.take_of_length_le (by omega)]
  · show (List.filterMap _ _).toArray.toList = _
    rw [List.filterMap_map]
    apply List.ext_getElem?
    intro k
    have key : (List.range (HT.sIx x.length x.length hi - HT.sIx x.length 0 lo)).filterMap ((fun i => x.cps[i]?) ∘ fun k => HT.sIx x.length 0 lo + k) = (x.cps.toList.drop (HT.sIx x.length 0 lo)).take (HT.sIx x.length x.length hi - HT.sIx x.length 0 lo) := by
      generalize HT.sIx x.length 0 lo = i at h0 ⊢
      have hj : i + (HT.sIx x.length x.length hi - i) ≤ x.length ∨ HT.sIx x.length x.length hi - i = 0 := by omega
      generalize HT.sIx x.length x.length hi - i = d at hj ⊢
      induction d with
      | zero => simp
      | succ d ih =>
        rw [List.range_succ, List.filterMap_append, ih (by omega), List.take_add_one]
        congr 1
        have hlt : i + d < x.cps.size := by simp [Str.length] at hj; omega
        simp [hlt]
    simpa using congrArg (fun l : List Nat => l[k]?) key
theorem range_all (bs : List Bool) : (List.range bs.length).all (fun i => (bs[i]?).getD true) = bs.all id := by
  rw [Bool.eq_iff_iff, List.all_eq_true, List.all_eq_true]
  constructor
  · intro h b hb
    obtain ⟨i, hi, e⟩ := List.mem_iff_getElem.mp hb
    have q := h i (List.mem_range.mpr hi)
    rw [List.getElem?_eq_getElem hi, e] at q
    exact q
  · intro h i hi
    have hi' := List.mem_range.mp hi
    rw [List.getElem?_eq_getElem hi']
    exact h _ (List.getElem_mem hi')
theorem call_allB (hc : X.calm = true) : CallR X (.builtin "all") (fun xs H Q => ∃ (p : Addr) (bs : List Bool), xs = [.ref p] ∧ SqL X.K H p (bs.map V.bl) ∧ Q (.bl (bs.all id)) H) := by
  intro pins s σ H xs us Q I r h
  obtain ⟨p, bs, rfl, hp, q⟩ := h
  obtain ⟨u, rfl, ru⟩ := r.one
  cases ru
  obtain ⟨its, rv, pl, hz⟩ := I.list hp
  have hh : X.A.in1.handled = none := I.ok.hd hc
  have hlt : p < s.heap.objs.size := by obtain ⟨_, e, _⟩ := pl.isList; exact Heap.lt_size e
  have hlen : its.length = bs.length := by have := rv.length; simpa using this.symm
  refine call_all_walk (wpAny_pyIter_list pl.isList ⟨s.heap.objs.size, [s.heap.objs.size, p], [s.heap.objs.size], its.toArray.size, _, _, fun i => (bs[i]?).getD true, rfl, Walks.list hh _ _ (Nat.ne_of_lt hlt) its.toArray, ⟨⟨_, Heap.get?_push_size _ rfl, rfl, rfl⟩, pl.isList.push _⟩, ?_, ?_⟩)
  · intro i v s' Q' E' hv hq
    have hv' : its[i]? = some v := by simpa using hv
    cases hb : bs[i]? with
    | none =>
      have z : bs.length ≤ i := by simpa using hb
      rw [List.getElem?_eq_none (by omega)] at hv'
      cases hv'
    | some b =>
      obtain ⟨u, hu, ru⟩ := rv.get (i := i) (x := V.bl b) (by rw [List.getElem?_map, hb]; rfl)
      rw [hv'] at hu
      cases hu
      obtain rfl : v = Value.bool b := ru
      have hq' : Q' b s' := by
        have z : (fun i => (bs[i]?).getD true) i = b := by simp [hb]
        rw [z] at hq
        exact hq
      exact wpAny_truthy_bool hq'
  · intro h' tk hk
    have I1 : Inv X pins σ H { s with heap := h', toks := tk } := I.kept fun b o e => hk b o (fun z => by
      have z' : b = s.heap.objs.size := by simpa using z
      exact absurd (z' ▸ Heap.lt_size e) (Nat.lt_irrefl _)) (Heap.get?_push_of_some _ e)
    refine ⟨.bl (bs.all id), H, I1, ?_, q⟩
    show Value.bool _ = Value.bool _
    rw [List.size_toArray, hlen, range_all]
theorem call_isinst : CallR X (.builtin "isinstance") (fun xs H Q => ∃ x n t b, xs = [x, .ty n] ∧ TyOf X.K H x t ∧ PySem.W.kitOne X.K t (.type n) = some b ∧ Q (.bl b) H) := by
  intro pins s σ H xs us Q I r h
  obtain ⟨x, n, t, b, rfl, ty, e, q⟩ := h
  obtain ⟨u, v, rfl, ru, rv⟩ := r.two
  cases rv
  exact isinst_ok I ru ty e fun tk => ⟨.bl b, H, I.tok _, rfl, q⟩
end
end L2
namespace L2
open PySem PySem.Spec PyProof.Rows
section
variable {X : Cx}
end
inductive Kd where
  | nm (x : Str)
  | two (a b : Kd)
  | som (r : Str) (c : Kd)
  deriving DecidableEq
def Kd.dep : Kd → Nat
  | .nm _ => 0
  | .two a b => 1 + max a.dep b.dep
  | .som _ c => 1 + c.dep
def Kd.nt : Kd → Nat
  | .nm _ => 0
  | .two a b => 1 + a.nt + b.nt
  | .som _ c => 1 + c.nt
def Kd.sz : Kd → Nat
  | .nm _ => 1
  | .two a b => 1 + a.sz + b.sz
  | .som _ c => 1 + c.sz
def IsK (H : Hp) : Kd → V → Prop
  | .nm x, v => v = .str x
  | .two a b, v => ∃ (p : Addr) (x y : V), v = .ref p ∧ H p = some (.tup [.str "both", x, y]) ∧ IsK H a x ∧ IsK H b y
  | .som r c, v => ∃ (p : Addr) (y : V), v = .ref p ∧ H p = some (.tup [.str "some", .str r, y]) ∧ IsK H c y
def Tups (H H' : Hp) : Prop := ∀ b xs, H b = some (.tup xs) → H' b = some (.tup xs)
theorem Tups.refl (H : Hp) : Tups H H := fun _ _ h => h
theorem Tups.trans {H H1 H2 : Hp} (a : Tups H H1) (b : Tups H1 H2) : Tups H H2 := fun c o h => b c o (a c o h)
theorem Same.tups {H H' : Hp} (h : Same H H') : Tups H H' := fun b xs e => h b _ e
theorem tups_new {H : Hp} {p : Addr} {o : HO} (h : H p = none) : Tups H (upd H p o) := (same_new h o).tups
theorem tups_lst {H : Hp} {p : Addr} {o : HO} {xs : List V} (h : H p = some (.lst xs)) : Tups H (upd H p o) := fun b ys e => by
  rw [upd_ne (ne_of e h (by intro z; cases z))]
  exact e
theorem IsK.mono {H H' : Hp} (t : Tups H H') : ∀ {k : Kd} {v : V}, IsK H k v → IsK H' k v
  | .nm _, _, h => h
  | .two _ _, _, ⟨p, x, y, e, h, ha, hb⟩ => ⟨p, x, y, e, t _ _ h, IsK.mono t ha, IsK.mono t hb⟩
  | .som _ _, _, ⟨p, y, e, h, hc⟩ => ⟨p, y, e, t _ _ h, IsK.mono t hc⟩
theorem both_ne_some : (Str.ofString "both" : Str) ≠ Str.ofString "some" := by decide +kernel
section
variable {X : Cx} {pins : List (Addr × Obj)} {σ : St} {H : Hp} {s : Shared}
theorem in1_units (A : Around) : A.in1.units = A.units + 1 := rfl
end
def KL (H : Hp) : List V → List Kd → Prop := Paired fun v k => IsK H k v
theorem KL.mono {H H' : Hp} (t : Tups H H') {xs : List V} {ks : List Kd} (h : KL H xs ks) : KL H' xs ks := Paired.imp' (fun _ _ q => IsK.mono t q) h
theorem KL.len {H : Hp} {xs : List V} {ks : List Kd} (h : KL H xs ks) : xs.length = ks.length := Paired.length h
section
variable {X : Cx}
end
end L2
namespace L2
open PySem PySem.Spec PyProof.Rows
section
variable {X : Cx}
end
section
variable {X : Cx} {pins : List (Addr × Obj)} {σ : St} {H : Hp} {s : Shared}
end
section
variable {X : Cx}
end
end L2
namespace L2
open PySem PySem.Spec PyProof.Rows
section
variable {X : Cx} {pins : List (Addr × Obj)} {σ : St} {H : Hp} {s : Shared} {h' : Heap}
theorem Inv.turnedL {t' : Nat} {fp : List Addr} (I : Inv X pins σ H s) (hf : ∀ b ∈ fp, FpOk X pins H b) (k : ∀ b o, b ∉ fp → s.heap.get? b = some o → h'.get? b = some o) : Inv X pins σ H { s with heap := h', toks := t' } := by
  have nit : ∀ b u, H b = some u → b ∉ fp := fun b u e z => by rw [(hf b z).1] at e; cases e
  refine I.step (g' := s.gens) (d' := s.drawn) (ch := fp) (fun b hb => ?_) (fun b o _ _ hc e _ => k b o hc e) (fun b o _ _ hc e _ => ⟨o.slots, k b o hc e⟩) (fun _ _ _ _ n => n)
    (fun b o hc e => ⟨o, k b o hc e⟩) (fun _ _ e => e) (fun _ _ _ e => e) (fun b ps e => ⟨#[], by rw [e]; simp⟩) (fun m hm => ?_) (fun b u e => ?_) I.bare
  · obtain ⟨f0, f1, f2, f3, f4, f5⟩ := hf b hb
    exact ⟨f3, f1, f4, f5⟩
  · obtain ⟨o, es, ep, ho, r⟩ := hm
    exact ⟨o, es, ep, k _ o (fun z => (hf _ z).2.1 rfl) ho, r⟩
  · refine (I.hok b u e).stay (fun c v hc q => k c v ?_ q) (fun _ q => q) fun _ _ q => q
    rcases hc with z | z
    · rw [z]; exact nit b u e
    · exact nit c _ z
theorem Inv.turnedT {t' : Nat} {fp : List Addr} {T : Addr} {u : HO} (I : Inv X pins σ H s) (hf : ∀ b ∈ fp, FpOk X pins H b) (k : ∀ b o, b ∉ fp → s.heap.get? b = some o → h'.get? b = some o) (hT : s.heap.objs.size ≤ T) (new : ObjOk X.prog X.w (upd H T u) h' T u) :
    Inv X pins σ (upd H T u) { s with heap := h', toks := t' } := by
  have nit : ∀ b u, H b = some u → b ∉ fp := fun b u e z => by rw [(hf b z).1] at e; cases e
  have hn : H T = none := I.hok.fresh hT
  have nT : ∀ b o, s.heap.get? b = some o → b ≠ T := fun b o e => Nat.ne_of_lt (Nat.lt_of_lt_of_le (Heap.lt_size e) hT)
  refine I.step (g' := s.gens) (d' := s.drawn) (ch := fp) (fun b hb => ?_) (fun b o _ _ hc e _ => k b o hc e) (fun b o _ _ hc e _ => ⟨o.slots, k b o hc e⟩) (fun b o _ e n => by rw [upd_ne (nT b o e)]; exact n)
    (fun b o hc e => ⟨o, k b o hc e⟩) (fun b xs e => by rw [upd_ne (ne_of_none e hn)]; exact e) (fun b o u e => by rw [upd_ne (ne_of_none e hn)]; exact e) (fun b ps e => ⟨#[], by rw [upd_ne (ne_of_none e hn), e]; simp⟩) (fun m hm => ?_) (fun b u' e => ?_) I.bare
  · obtain ⟨f0, f1, f2, f3, f4, f5⟩ := hf b hb
    exact ⟨f3, f1, f4, f5⟩
  · obtain ⟨o, es, ep, ho, r⟩ := hm
    exact ⟨o, es, ep, k _ o (fun z => (hf _ z).2.1 rfl) ho, r⟩
  · by_cases hb : b = T
    · subst hb
      rw [upd_same] at e
      cases e
      exact new
    · rw [upd_ne hb] at e
      refine (I.hok b u' e).stay (fun c v hc q => k c v ?_ q) (fun c q => by rw [upd_ne (ne_of_none q hn)]; exact q) fun c xs q => by rw [upd_ne (ne_of_none q hn)]; exact q
      rcases hc with z | z
      · rw [z]; exact nit b u' e
      · exact nit c _ z
end
def ItE (K : PySem.W.Frag) (a : Addr) : It :=
  ⟨fun i H => ∃ xs x, SqL K H a xs ∧ xs[i]? = some x, fun i H v H' => ∃ T x, v = .ref T ∧ H T = none ∧ H' = upd H T (.tup [.int (i : Int), x]) ∧ ∀ xs, SqL K H a xs → xs[i]? = some x, fun i H => ∃ xs, SqL K H a xs ∧ xs.length ≤ i⟩
theorem turn_enum {P : Program} {w : World} {K : PySem.W.Frag} {elts : List Expr} {k : Nat} {pos : Pos} (a e it : Addr) (hei : e ≠ it) (hae : a ≠ e) (hai : a ≠ it) : Turn P w K (.Tuple elts k pos) (ItE K a) [e, it] e (fun i h => (∃ old, IsEnum h e it i old) ∧ h.IsListIter it a i) where
  mem := by simp
  obj := fun i h st b hb => by
    obtain ⟨⟨old, he⟩, o, ho, hc, hd⟩ := st
    rcases List.mem_cons.mp hb with rfl | hb
    · exact ⟨_, he, fun v z => by
        have z' : Data.fields _ = Data.cell v := z
        cases z'⟩
    · rw [List.mem_singleton.mp hb]
      exact ⟨o, ho, fun v z => by rw [hd] at z; cases z⟩
  keep := fun i h h' st kk => by
    obtain ⟨⟨old, he⟩, hit⟩ := st
    exact ⟨⟨old, kk e (by simp) _ he⟩, hit.at fun o x => kk it (by simp) o x⟩
  item := by
    intro X hP hw hK hc i pins s σ H E I hf st hg
    subst hP hw hK
    obtain ⟨xs, x, hq, hx⟩ := hg
    obtain ⟨its, rv, p, hz⟩ := I.list hq
    obtain ⟨u, hu, ru⟩ := rv.get hx
    have W := WalksT.enumerate (prog := X.prog) (w := X.w) (A := X.A) (I.ok.hd hc) e it a hei hae hai its.toArray
    have hi : i < its.toArray.size := by
      have := (List.getElem?_eq_some_iff.mp hu).1
      simpa using this
    refine W.item i s _ _ hi ⟨st.1, st.2, p.isList⟩ fun T vals h1 tk hP hT hTup hm hk => ?_
    obtain ⟨t, x', hx', rfl⟩ := hP
    have hxu : x' = u := by
      have : its[i]? = some x' := by simpa using hx'
      rw [hu] at this
      exact (Option.some.inj this).symm
    subst hxu
    have nTe := W.apart i T h1 hm
    refine ⟨_, rfl, W.go elts k pos i T _ _ _ hm fun h2 st2 hk2 => ?_⟩
    have kk : ∀ b o, b ∉ [e, it] → s.heap.get? b = some o → h2.get? b = some o := fun b o hb q => hk2 b o hb (hk b o hb q)
    have hT2 : h2.IsTuple T #[.int (i : Int) t, x'] := hTup.at fun o q => hk2 T o nTe q
    refine ⟨.ref T, upd H T (.tup [.int (i : Int), x]), I.turnedT (t' := tk) hf kk hT ?_, rfl, ⟨T, x, rfl, I.hok.fresh hT, rfl, fun ys hy => by rw [I.list_inj hy hq]; exact hx⟩, ⟨st2.1, st2.2.1⟩, fun b hb => ?_⟩
    · exact ⟨by show 2 ≤ sizeLine; exact Nat.le_of_lt (small1000 (by decide)), [.int (i : Int) t, x'], .cons ⟨t, rfl⟩ (.cons ru .nil), hT2⟩
    · have : b ≠ T := fun z => by subst z; exact nTe hb
      rw [upd_ne this]
      exact (hf b hb).1
  done := by
    intro X hP hw hK hc i pins s σ H E I hf st hg
    subst hP hw hK
    obtain ⟨xs, hq, hx⟩ := hg
    obtain ⟨its, rv, p, hz⟩ := I.list hq
    have hl := rv.length
    obtain ⟨⟨old, he⟩, hit⟩ := st
    refine wpAny_pyNext_enum_end (I.ok.hd hc) he hit p.isList (Array.getElem?_eq_none (by simp; omega)) fun h' hx => ⟨rfl, I.turnedL (t' := s.toks) hf fun b o hb y => ?_⟩
    exact hx b o (fun e' => hb (by simp [e'])) y
  self := fun _ _ _ _ _ st h => by
    obtain ⟨⟨old, he⟩, _⟩ := st
    exact wpAny_pyIter_enum he h
def iEnum (K : PySem.W.Frag) (ta : TA) : TI := fun σ H R => ta σ H fun vs H1 => ∃ a, vs = [.ref a] ∧ (∃ xs, SqL K H1 a xs) ∧ R (ItE K a) H1
theorem pi_enum {X : Cx} {elts : List Expr} {k : Nat} {tpos : Pos} {l : Expr} {ta : TA} {p pos : Pos} (hg : Gl X "enumerate") (hm : X.mg "enumerate" = none) (ha : PA X [l] ta) (hs : starEach [l] X.env = [(false, eval l X.env)] := by rfl) : PI X (.Tuple elts k tpos) (.Call (.Name "enumerate" p) [l] [] pos) (iEnum X.K ta) := by
  intro pins s σ H R I h
  refine Call_ (ld_blt I hg hm boot_enumerate (PyProof.Rows.callWith_type1 (thn (ha pos pins s σ H _ I h) fun us s1 ⟨vs, H1, I1, r1, q1⟩ => ?_) hs rfl))
  obtain ⟨a, e, ⟨xs, hq⟩, q⟩ := q1
  subst e
  cases r1 with
  | cons r rr =>
    cases rr
    cases r
    obtain ⟨its, rv, p, hz⟩ := I1.list hq
    have hlt : a < s1.heap.objs.size := by
      obtain ⟨o, ho, _⟩ := p.isList
      exact Heap.lt_size ho
    refine call_enumerate_list p.isList fun h' hE hI hsz hk => ?_
    refine wpAny_pyIter_enum hE ?_
    have I2 : Inv X pins σ H1 { s1 with heap := h' } := I1.kept (t' := s1.toks) hk
    refine ⟨s1.heap.objs.size + 1, [s1.heap.objs.size + 1, s1.heap.objs.size], _, _, H1, rfl, I2, turn_enum a _ _ (Nat.succ_ne_self _) (Nat.ne_of_lt (Nat.lt_succ_of_lt hlt)) (Nat.ne_of_lt hlt), ⟨⟨.none, hE⟩, hI⟩, fun b hb => ?_, q⟩
    have hb' : s1.heap.objs.size ≤ b := by
      rcases List.mem_cons.mp hb with rfl | hb
      · exact Nat.le_succ _
      · rw [List.mem_singleton.mp hb]; exact Nat.le_refl _
    exact I1.fpOk hb' (I1.hok.fresh hb')
theorem for_enum {K : PySem.W.Frag} {a : Addr} {xs : List V} {g : TG} {tb : TS} {D : Ends} {σ : St} {H : Hp} (Pv : Nat → St → Hp → Prop) (h0 : Pv 0 σ H) (hl : ∀ i σ H, i ≤ xs.length → Pv i σ H → SqL K H a xs)
    (hs : ∀ i x σ H T, xs[i]? = some x → Pv i σ H → H T = none → g (.ref T) σ (upd H T (.tup [.int (i : Int), x])) fun σ2 H2 => tb { D with nx := Pv (i + 1), ct := Pv (i + 1), bk := D.nx } σ2 H2) (hd : ∀ σ H, Pv xs.length σ H → D.nx σ H) :
    ∃ W : Nat → Nat → St → Hp → Prop, (∃ m, W 0 m σ H) ∧ ∀ i m σ H, W i m σ H →
      ((ItE K a).stop i H ∧ D.nx σ H) ∨ ((ItE K a).go i H ∧ ∃ N : St → Hp → Prop, (∀ σ' H', N σ' H' → ∃ m', m' < m ∧ W (i + 1) m' σ' H') ∧ ∀ x H', (ItE K a).yld i H x H' → g x σ H' fun σ2 H2 => tb { D with nx := N, ct := N, bk := D.nx } σ2 H2) := by
  refine ⟨fun i m σ H => m = xs.length - i ∧ i ≤ xs.length ∧ Pv i σ H, ⟨xs.length, by simp, Nat.zero_le _, h0⟩, ?_⟩
  rintro i m σ H ⟨rfl, hi, p⟩
  have q := hl i σ H hi p
  by_cases hlt : i < xs.length
  · refine .inr ⟨⟨xs, xs[i], q, by simp [hlt]⟩, Pv (i + 1), fun σ' H' p' => ⟨xs.length - (i + 1), by omega, rfl, hlt, p'⟩, fun v H' y => ?_⟩
    obtain ⟨T, x, rfl, hT, rfl, y⟩ := y
    exact hs i x σ _ T (y xs q) p hT
  · have e : i = xs.length := by omega
    subst e
    exact .inl ⟨⟨xs, q, Nat.le_refl _⟩, hd σ H p⟩
section
variable {X : Cx}
end
end L2
namespace L2
open PySem PySem.Spec PyProof.Rows
section
variable {κ : Type} [DecidableEq κ]
def valV (kvs : List (κ × V)) (k : κ) : Option V := (kvs.find? fun kv => decide (kv.1 = k)).map (·.2)
def putK (kvs : List (κ × V)) (k : κ) (v : V) : List (κ × V) :=
  if (kvs.any fun kv => decide (kv.1 = k)) = true then kvs.map (fun kv => if kv.1 = k then (kv.1, v) else kv) else kvs ++ [(k, v)]
theorem valV_pos {p : κ × V} {r : List (κ × V)} {k : κ} (e : p.1 = k) : valV (p :: r) k = some p.2 := by simp [valV, List.find?_cons, e]
theorem valV_neg {p : κ × V} {r : List (κ × V)} {k : κ} (e : ¬ p.1 = k) : valV (p :: r) k = valV r k := by simp [valV, List.find?_cons, e]
theorem valV_any (k : κ) : ∀ kvs : List (κ × V), (kvs.any fun kv => decide (kv.1 = k)) = (valV kvs k).isSome
  | [] => rfl
  | p :: r => by
    rw [List.any_cons]
    by_cases e : p.1 = k
    · simp only [valV_pos e, decide_eq_true e, Bool.true_or, Option.isSome_some]
    · rw [valV_neg e, decide_eq_false e, Bool.false_or]; exact valV_any k r
theorem valV_map (k j : κ) (y : V) : ∀ kvs : List (κ × V), valV (kvs.map fun kv => if kv.1 = k then (kv.1, y) else kv) j = (valV kvs j).map fun x => if j = k then y else x
  | [] => rfl
  | p :: r => by
    have ih := valV_map k j y r
    rw [List.map_cons]
    by_cases h : p.1 = k
    · rw [if_pos h]
      by_cases e : p.1 = j
      · rw [valV_pos (p := (p.1, y)) e, valV_pos e, Option.map_some, if_pos (e.symm.trans h)]
      · rw [valV_neg (p := (p.1, y)) e, valV_neg e, ih]
    · rw [if_neg h]
      by_cases e : p.1 = j
      · rw [valV_pos (p := p) e, valV_pos e, Option.map_some, if_neg (fun z => h (e.trans z))]
      · rw [valV_neg (p := p) e, valV_neg e, ih]
theorem valV_snoc (k j : κ) (y : V) : ∀ kvs : List (κ × V), valV kvs k = none → valV (kvs ++ [(k, y)]) j = if j = k then some y else valV kvs j
  | [], _ => by
    by_cases e : k = j
    · rw [if_pos e.symm]; exact valV_pos (p := (k, y)) e
    · rw [if_neg (fun z => e z.symm)]; exact valV_neg (p := (k, y)) e
  | p :: r, hn => by
    rw [List.cons_append]
    have hk : ¬ p.1 = k := fun z => by rw [valV_pos z] at hn; cases hn
    rw [valV_neg hk] at hn
    have ih := valV_snoc k j y r hn
    by_cases e : p.1 = j
    · rw [valV_pos e, valV_pos e, if_neg (fun z => hk (e.trans z))]
    · rw [valV_neg e, valV_neg e, ih]
theorem valV_put (kvs : List (κ × V)) (k j : κ) (y : V) : valV (putK kvs k y) j = if j = k then some y else valV kvs j := by
  unfold putK
  by_cases a : (kvs.any fun kv => decide (kv.1 = k)) = true
  · rw [if_pos a, valV_map]
    rw [valV_any] at a
    by_cases e : j = k
    · obtain ⟨x, hx⟩ := Option.isSome_iff_exists.mp a
      rw [if_pos e, e, hx, Option.map_some, if_pos rfl]
    · rw [if_neg e]
      cases valV kvs j with
      | none => rfl
      | some x => rw [Option.map_some, if_neg e]
  · rw [if_neg a]
    refine valV_snoc k j y kvs ?_
    rw [valV_any] at a
    cases q : valV kvs k with
    | none => rfl
    | some x => rw [q] at a; exact (a rfl).elim
theorem length_putK (kvs : List (κ × V)) (k : κ) (v : V) : (putK kvs k v).length ≤ kvs.length + 1 := by
  unfold putK
  split
  · rw [List.length_map]; omega
  · rw [List.length_append, List.length_cons, List.length_nil]; omega
theorem RelO.isSome_eq {o : Option V} {u : Option Value} (r : RelO o u) : o.isSome = u.isSome := by
  cases o with
  | none => cases u with
    | none => rfl
    | some _ => exact (show False from r).elim
  | some _ => cases u with
    | none => exact (show False from r).elim
    | some _ => rfl
theorem KV.val {kvs : List (κ × V)} {vs : List (κ × Value)} (r : KV kvs vs) (k : κ) : RelO (valV kvs k) (valueAt vs k) := by
  unfold KV at r
  induction r with
  | nil => exact True.intro
  | @cons p q ps qs h t ih =>
    obtain ⟨h1, h2⟩ := h
    by_cases e : p.1 = k
    · have e' : q.1 = k := h1.symm.trans e
      have b : valueAt (q :: qs) k = some q.2 := by simp [valueAt, List.find?_cons, e']
      rw [valV_pos e, b]; exact h2
    · have e' : ¬ q.1 = k := fun z => e (h1.trans z)
      have b : valueAt (q :: qs) k = valueAt qs k := by simp [valueAt, List.find?_cons, e']
      rw [valV_neg e, b]; exact ih
theorem KV.any {kvs : List (κ × V)} {vs : List (κ × Value)} (r : KV kvs vs) (k : κ) : (kvs.any fun kv => decide (kv.1 = k)) = vs.any fun kv => decide (kv.1 = k) := by
  unfold KV at r
  induction r with
  | nil => rfl
  | cons h t ih => rw [List.any_cons, List.any_cons, ih, h.1]
theorem KV.repl {kvs : List (κ × V)} {vs : List (κ × Value)} (r : KV kvs vs) (k : κ) {y : V} {u : Value} (ry : RelV y u) :
    KV (kvs.map fun kv => if kv.1 = k then (kv.1, y) else kv) (vs.map fun kv => if kv.1 = k then (kv.1, u) else kv) := by
  unfold KV at r ⊢
  induction r with
  | nil => exact .nil
  | @cons p q ps qs h t ih =>
    rw [List.map_cons, List.map_cons]
    refine .cons ?_ ih
    obtain ⟨h1, h2⟩ := h
    by_cases e : p.1 = k
    · rw [if_pos e, if_pos (h1.symm.trans e)]; exact ⟨h1, ry⟩
    · rw [if_neg e, if_neg (fun z => e (h1.trans z))]; exact ⟨h1, h2⟩
theorem KV.put {kvs : List (κ × V)} {vs : List (κ × Value)} (r : KV kvs vs) (k : κ) {y : V} {u : Value} (ry : RelV y u) : KV (putK kvs k y) (stored vs k u) := by
  unfold putK stored
  rw [r.any k]
  by_cases e : (vs.any fun kv => decide (kv.1 = k)) = true
  · rw [if_pos e, if_pos e]; exact r.repl k ry
  · rw [if_neg e, if_neg e]; exact Paired.snoc r ⟨rfl, ry⟩
theorem KV.length {kvs : List (κ × V)} {vs : List (κ × Value)} (r : KV kvs vs) : kvs.length = vs.length := Paired.length r
end
theorem kV_is {P : Program} {w : World} {k : Key} {u : Value} (r : RelV (kV k) u) : (mixKind P w).is k u = true := by
  cases k with
  | inl i => obtain ⟨t, e⟩ := (show ∃ t, u = Value.int i t from r); subst e; exact mixKind_int P w i t
  | inr x => obtain ⟨t, e⟩ := (show ∃ t, u = Value.str x t from r); subst e; exact mixKind_str P w x t
theorem items_are {P : Program} {w : World} : ∀ {ks : List Key} {us : List Value}, Vals (ks.map kV) us → ItemsAre (mixKind P w) ks us
  | [], _, r => by rw [List.map_nil] at r; cases r; exact .nil
  | k :: ks, _, r => by
    rw [List.map_cons] at r
    cases r with
    | cons h t => exact .cons (kV_is h) (items_are t)
abbrev KT (H : Hp) : List (List Key × V) → List (List Key × Addr × Value) → Prop := Paired fun p q => p.1 = q.1 ∧ H q.2.1 = some (.tup (p.1.map kV)) ∧ RelV p.2 q.2.2
theorem KT.val {H : Hp} {kvs : List (List Key × V)} {xs : List (List Key × Addr × Value)} (r : KT H kvs xs) (k : List Key) : RelO (valV kvs k) ((atKey xs k).map (·.2)) := by
  induction r with
  | nil => exact True.intro
  | @cons p q ps qs h t ih =>
    obtain ⟨h1, _, h2⟩ := h
    by_cases e : p.1 = k
    · have e' : q.1 = k := h1.symm.trans e
      have b : atKey (q :: qs) k = some q.2 := by simp [atKey, List.find?_cons, e']
      rw [valV_pos e, b]; exact h2
    · have e' : ¬ q.1 = k := fun z => e (h1.trans z)
      have b : atKey (q :: qs) k = atKey qs k := by simp [atKey, List.find?_cons, e']
      rw [valV_neg e, b]; exact ih
theorem KT.repl {H : Hp} {kvs : List (List Key × V)} {xs : List (List Key × Addr × Value)} (r : KT H kvs xs) (k : List Key) {y : V} {u : Value} (ry : RelV y u) :
    KT H (kvs.map fun kv => if kv.1 = k then (kv.1, y) else kv) (xs.map (putAt k u)) := by
  induction r with
  | nil => exact .nil
  | @cons p q ps qs h t ih =>
    rw [List.map_cons, List.map_cons]
    refine .cons ?_ ih
    obtain ⟨h1, h2, h3⟩ := h
    unfold putAt
    by_cases e : p.1 = k
    · rw [if_pos e, if_pos (h1.symm.trans e)]; exact ⟨h1, h2, ry⟩
    · rw [if_neg e, if_neg (fun z => e (h1.trans z))]; exact ⟨h1, h2, h3⟩
theorem KT.put {H : Hp} {kvs : List (List Key × V)} {xs : List (List Key × Addr × Value)} (r : KT H kvs xs) (k : List Key) {b : Addr} {y : V} {u : Value} (hb : H b = some (.tup (k.map kV))) (ry : RelV y u) :
    KT H (putK kvs k y) (storedH xs k b u) := by
  have e : (kvs.any fun kv => decide (kv.1 = k)) = (atKey xs k).isSome := by
    rw [valV_any, (r.val k).isSome_eq, Option.isSome_map]
  unfold putK storedH
  rw [e]
  by_cases q : (atKey xs k).isSome = true
  · rw [if_pos q, if_pos q]; exact r.repl k ry
  · rw [if_neg q, if_neg q]; exact Paired.snoc r ⟨rfl, hb, ry⟩
theorem KT.keeps {H H' : Hp} {kvs : List (List Key × V)} {xs : List (List Key × Addr × Value)} (r : KT H kvs xs) (ht : ∀ b ys, H b = some (.tup ys) → H' b = some (.tup ys)) : KT H' kvs xs :=
  Paired.mapP r fun _ _ z => ⟨z.1, ht _ _ z.2.1, z.2.2⟩
section
variable {P : Program} {w : World} {H : Hp} {h : Heap} {a : Addr}
theorem rd_of {u : HO} (ok : HOk P w H h) (e : Rd H a u) : ObjOk P w H h a u := e.ok ok
theorem dk_rd {kvs : List (Key × V)} (ok : HOk P w H h) (e : Rd H a (.dK kvs)) : kvs.length ≤ sizeLine ∧ (a == sysModules) = false ∧ ∃ vs, KV kvs vs ∧ h.DictOf (mixKind P w) a vs :=
  show ObjOk P w H h a (.dK kvs) from rd_of ok e
theorem dk_of {kvs : List (Key × V)} (ok : HOk P w H h) (e : H a = some (.dK kvs)) : kvs.length ≤ sizeLine ∧ (a == sysModules) = false ∧ ∃ vs, KV kvs vs ∧ h.DictOf (mixKind P w) a vs := dk_rd ok (.inl e)
theorem key_of {ks : List Key} (ok : HOk P w H h) (e : H a = some (.tup (ks.map kV))) : (tupleKind (mixKind P w)).is h ks a := by
  obtain ⟨_, its, r, o, h1, h2, n, h3⟩ := (show ObjOk P w H h a (.tup (ks.map kV)) from ok a _ e)
  exact ⟨o, its.toArray, n, h1, h2, h3, by simpa using items_are r⟩
theorem dt_rd {kvs : List (List Key × V)} (ok : HOk P w H h) (e : Rd H a (.dT kvs)) : kvs.length ≤ sizeLine ∧ (a == sysModules) = false ∧
    ∃ xs, KT H kvs xs ∧ h.DictOfH (tupleKind (mixKind P w)) a xs := by
  obtain ⟨z, y, xs, r, o, es, ep, h1, h2, h3, h4, h5⟩ := (show ObjOk P w H h a (.dT kvs) from rd_of ok e)
  refine ⟨z, y, xs, r, o, es, ep, h1, h2, h3, h4, fun x hx => ?_, h5⟩
  have all : ∀ {l : List (List Key × V)} {m : List (List Key × Addr × Value)}, KT H l m → ∀ x ∈ m, (tupleKind (mixKind P w)).is h x.1 x.2.1 := by
    intro l m q
    induction q with
    | nil => intro x hx; exact nomatch hx
    | @cons p q ps qs hq t ih =>
      intro x hx
      rcases List.mem_cons.mp hx with e | hx
      · subst e
        exact key_of ok (by rw [← hq.1]; exact hq.2.1)
      · exact ih x hx
  exact all r x hx
theorem dt_of {kvs : List (List Key × V)} (ok : HOk P w H h) (e : H a = some (.dT kvs)) : kvs.length ≤ sizeLine ∧ (a == sysModules) = false ∧
    ∃ xs, KT H kvs xs ∧ h.DictOfH (tupleKind (mixKind P w)) a xs := dt_rd ok (.inl e)
end
def DGet (H : Hp) (a : Addr) (y : V) (r : Option V) : Prop :=
  (∃ kvs k, Rd H a (.dK kvs) ∧ y = kV k ∧ r = valV kvs k) ∨ ∃ kvs k b, Rd H a (.dT kvs) ∧ y = .ref b ∧ H b = some (.tup (k.map kV)) ∧ r = valV kvs k
def DPut (H : Hp) (a : Addr) (y v : V) (H' : Hp) : Prop :=
  (∃ kvs k, H a = some (.dK kvs) ∧ y = kV k ∧ kvs.length < sizeLine ∧ H' = upd H a (.dK (putK kvs k v))) ∨
  ∃ kvs k b, H a = some (.dT kvs) ∧ y = .ref b ∧ H b = some (.tup (k.map kV)) ∧ kvs.length < sizeLine ∧ H' = upd H a (.dT (putK kvs k v))
theorem DGet.k {H : Hp} {a : Addr} {kvs : List (Key × V)} {k : Key} (e : H a = some (.dK kvs)) : DGet H a (kV k) (valV kvs k) := .inl ⟨kvs, k, .inl e, rfl, rfl⟩
theorem DPut.k {H : Hp} {a : Addr} {kvs : List (Key × V)} {k : Key} {v : V} (e : H a = some (.dK kvs)) (hl : kvs.length < sizeLine) : DPut H a (kV k) v (upd H a (.dK (putK kvs k v))) := .inl ⟨kvs, k, e, rfl, hl, rfl⟩
section
variable {X : Cx} {pins : List (Addr × Obj)} {σ : St} {H : Hp} {s : Shared} {a : Addr} {y v : V} {u r : Value} {o : Option V} {A : Around} {E : Value → Shared → Prop}
theorem Inv.big (I : Inv X pins σ H s) : sysModules < s.heap.objs.size := by
  have h : mainGlobals < s.heap.objs.size := (I.mod.glob.keeps I.bk).lt
  exact Nat.lt_trans (by decide) h
theorem d_getItem {Q : Value → Shared → Prop} (hu : A.units + 1 < cLine) (I : Inv X pins σ H s) (g : DGet H a y (some v)) (ry : RelV y u) (h : ∀ w' s', Inv X pins σ H s' → RelV v w' → Q w' s') :
    wpAny (model X.prog X.w) A (getItem (.ref a) u) Q E s := by
  rcases g with ⟨kvs, k, e, ey, l⟩ | ⟨kvs, k, b, e, ey, eb, l⟩
  · subst ey
    obtain ⟨z, hd, vs, rel, dd⟩ := dk_rd I.hok e
    obtain ⟨w', hw, rw'⟩ := RelO.some_of (v := v) (o := valueAt vs k) (by rw [l]; exact rel.val k)
    exact wpAny_getItem_of (kV_is ry) dd.mapOf hw (h w' _ (I.tok _) rw')
  · subst ey
    cases (show u = Value.ref b from ry)
    obtain ⟨z, hd, xs, rel, dd⟩ := dt_rd I.hok e
    obtain ⟨w', hw, rw'⟩ := RelO.some_of (v := v) (o := (atKey xs k).map (·.2)) (by rw [l]; exact rel.val k)
    obtain ⟨p, hp, hp2⟩ := Option.map_eq_some_iff.mp hw
    refine wpAny_getItem_heap (tupleKind_room_in1 hu) (key_of I.hok eb) dd hp ?_
    rw [hp2]
    exact h w' _ (I.tok _) rw'
theorem d_notIn {Q : Value → Shared → Prop} (hu : A.units + 1 < cLine) (I : Inv X pins σ H s) (g : DGet H a y o) (ry : RelV y u) (h : ∀ s', Inv X pins σ H s' → Q (.bool (!o.isSome)) s') :
    wpAny (model X.prog X.w) A (compareOp .NotIn u (.ref a)) Q E s := by
  rcases g with ⟨kvs, k, e, ey, l⟩ | ⟨kvs, k, b, e, ey, eb, l⟩
  · subst ey
    obtain ⟨z, hd, vs, rel, dd⟩ := dk_rd I.hok e
    refine wpAny_notIn_of (kV_is ry) hd dd.mapOf ?_
    rw [← (rel.val k).isSome_eq, ← l]
    exact h _ (I.tok _)
  · subst ey
    cases (show u = Value.ref b from ry)
    obtain ⟨z, hd, xs, rel, dd⟩ := dt_rd I.hok e
    refine wpAny_notIn_heap (tupleKind_room_in1 hu) (key_of I.hok eb) hd dd ?_
    have q := (rel.val k).isSome_eq
    rw [Option.isSome_map] at q
    rw [← q, ← l]
    exact h _ (I.tok _)
theorem d_write {h' : Heap} {t' : Nat} {ob : HO} (I : Inv X pins σ H s) (mu : Mut (H a)) (hs : Heap.SameBut a s.heap h') (he : ∃ q, h'.get? a = some q) (new : ObjOk X.prog X.w (upd H a ob) h' a ob) :
    Inv X pins σ (upd H a ob) { s with heap := h', toks := t' } :=
  I.write (x := a) (e := a) mu (.inl rfl) (fun b q hb z => (hs.2 b hb).trans z) he new
theorem dk_new {P : Program} {w : World} {H' : Hp} {h' : Heap} {kvs : List (Key × V)} {vs : List (Key × Value)} (z : kvs.length ≤ sizeLine) (hd : (a == sysModules) = false) (rel : KV kvs vs) (dd : h'.DictOf (mixKind P w) a vs) :
    ObjOk P w H' h' a (.dK kvs) := ⟨z, hd, vs, rel, dd⟩
theorem d_setItem {H' : Hp} {Q : Unit → Shared → Prop} (hu : A.units + 1 < cLine) (I : Inv X pins σ H s) (g : DPut H a y v H') (ry : RelV y u) (rv : RelV v r) (h : ∀ s', Inv X pins σ H' s' → Q () s') :
    wpAny (model X.prog X.w) A (setItem (.ref a) u r) Q E s := by
  rcases g with ⟨kvs, k, e, ey, l, eH⟩ | ⟨kvs, k, b, e, ey, eb, l, eH⟩
  · subst ey eH
    obtain ⟨z, hd, vs, rel, dd⟩ := dk_of I.hok e
    have hz : vs.length ≤ sizeLine := by rw [← rel.length]; exact z
    have hl : (putK kvs k v).length ≤ sizeLine := by have := length_putK kvs k v; omega
    refine wpAny_setItem_pairs (hsz := hz) (kV_is ry) dd fun h' dd' hs => h _ ?_
    have he : ∃ q, h'.get? a = some q := let ⟨q, _, _, hq, _⟩ := dd'; ⟨q, hq⟩
    exact d_write I (by rw [e]; exact True.intro) hs he (dk_new hl hd (rel.put k rv) dd')
  · subst ey eH
    cases (show u = Value.ref b from ry)
    obtain ⟨z, hd, xs, rel, dd⟩ := dt_of I.hok e
    have hz : xs.length ≤ sizeLine := by rw [← Paired.length rel]; exact z
    have hl : (putK kvs k v).length ≤ sizeLine := by have := length_putK kvs k v; omega
    refine wpAny_setItem_heap (hsz := hz) (tupleKind_room_in1 hu) (key_of I.hok eb) dd fun h' dd' hs => h _ ?_
    obtain ⟨q, es, ep, hq, h2, h3, h4, _, h5⟩ := dd'
    refine d_write I (by rw [e]; exact True.intro) hs ⟨q, hq⟩ ⟨hl, hd, _, (rel.put k eb rv).keeps fun c ys ec => ?_, q, es, ep, hq, h2, h3, h4, h5⟩
    rw [upd_ne (ne_of ec e (fun z => nomatch z))]
    exact ec
end
section
variable {X : Cx} {pins : List (Addr × Obj)} {σ : St} {H : Hp} {s : Shared} {a : Addr} {kvs : List (Key × V)} {k : Key} {u : Value} {A : Around} {E : Value → Shared → Prop}
end
def NoSl (i : Expr) : Prop := ∀ ov iv, subscripted i false ov iv = operate [ov, iv] (getItem ov iv)
theorem subD_of {prog : Program} {w : World} {A : Around} {E : Value → Shared → Prop} {s : Shared} {env : Env} {value slice : Expr} {pos : Pos} {T id : String} {Q : Value → Shared → Prop}
    (hl : typeLookup (.type T) "__getitem__" = pure (some (.builtin id))) (hs : NoSl slice)
    (h : wpAny (model prog w) A (eval value env) (fun o s₁ => wpAny (model prog w) A (eval slice env) (fun i s₂ => s₂.TypeIs o T ∧ wpAny (model prog w) A (getItem o i) Q E s₂) E s₁) E s) :
    wpAny (model prog w) A (eval (.Subscript value slice pos) env) Q E s := by
  refine Subscript_ (wpAny_mono h (fun o s₁ h₁ => wpAny_mono h₁ (fun i s₂ h₂ => ?_) fun _ _ x => x) fun _ _ x => x)
  obtain ⟨hT, h₂⟩ := h₂
  unfold subscriptTail
  refine wpAny_bind ?_
  rw [getitemInPython_of_ne hT.not_modules]
  refine wpAny_bind (wpAny_specialOf hT hl ?_)
  have fin : wpAny (model prog w) A (subscripted slice false o i) (fun r s₃ => wpAny (model prog w) A (letTemporaryGo value o r >>= fun _ => pure r) Q E s₃) E s₂ := by
    rw [hs o i]
    exact wpAny_operating (wpAny_mono h₂ (fun r s₃ h₃ => wpAny_bind (wpAny_letTemporaryGo (wpAny_pure h₃))) fun _ _ x => x)
  first
    | exact wpAny_pure (wpAny_bind fin)
    | exact wpAny_bind (wpAny_pure (wpAny_bind fin))
    | exact wpAny_bind fin
theorem dict_typeIs {X : Cx} {pins : List (Addr × Obj)} {σ : St} {H : Hp} {s : Shared} {a : Addr} {y : V} {o : Option V} (I : Inv X pins σ H s) (g : DGet H a y o) : s.TypeIs (.ref a) "dict" := by
  rcases g with ⟨kvs, k, e, _, _⟩ | ⟨kvs, k, b, e, _, _, _⟩
  · obtain ⟨_, _, vs, _, dd⟩ := dk_rd I.hok e
    exact dd.typeIs
  · obtain ⟨_, _, xs, _, dd⟩ := dt_rd I.hok e
    exact dd.typeIs
def tDGet (td ty : TE) : TE := fun σ H Q => td σ H fun x H1 => ty σ H1 fun y H2 => ∃ a v, x = .ref a ∧ DGet H2 a y (some v) ∧ Q v H2
def sDPut (td ty tv : TE) : TS := fun D σ H => tv σ H fun v H1 => td σ H1 fun x H2 => ty σ H2 fun y H3 => ∃ a H4, x = .ref a ∧ DPut H3 a y v H4 ∧ D.nx σ H4
section
variable {X : Cx} {o i e value : Expr} {pos pos' tpos : Pos} {td ty tv : TE}
theorem pe_dget (hu : X.A.units + 1 < cLine) (ho : PE X o td) (hi : PE X i ty) (hs : NoSl i) : PE X (.Subscript o i pos) (tDGet td ty) := by
  intro pins s σ H Q I h
  refine subD_of PySem.F.slot_dict_getitem.lookup hs (thn (ho pins s σ H _ I h) fun u s1 ⟨x, H1, I1, rx, q1⟩ => thn (hi pins s1 σ H1 _ I1 q1) fun iv s2 ⟨y, H2, I2, ry, a, v, ex, g, q2⟩ => ?_)
  subst ex
  obtain rfl : u = Value.ref a := rx
  exact ⟨dict_typeIs I2 g, d_getItem hu I2 g ry fun w' s3 I3 rw' => ⟨v, H2, I3, rw', q2⟩⟩
theorem ps_dput (hu : X.A.units + 1 < cLine) (ho : PE X o td) (hi : PE X i ty) (hv : PE X value tv) (hs : swapsWith value (some (.Subscript o i pos')) pos.line X.env = pure false) :
    PS X (.Assign [.Subscript o i pos'] value pos) (sDPut td ty tv) := by
  intro pins s σ H D I h
  refine wpAny_Assign_Subscript (thn (hv pins s σ H _ I h) fun r s1 ⟨v, H1, I1, rv, q1⟩ => thn (ho pins s1 σ H1 _ I1 q1) fun u s2 ⟨x, H2, I2, rx, q2⟩ => thn (hi pins s2 σ H2 _ I2 q2) fun iv s3 ⟨y, H3, I3, ry, a, H4, ex, g, q3⟩ => ?_) hs
  subst ex
  obtain rfl : u = Value.ref a := rx
  exact d_setItem hu I3 g ry rv fun s4 I4 => ⟨σ, H4, I4, q3⟩
end
theorem dk_empty {P : Program} {w : World} {H : Hp} (h : Heap) (hb : sysModules < h.objs.size) : ObjOk P w H (h.push { cls := .type "dict", data := .dict #[] }) h.objs.size (.dK []) :=
  ⟨Nat.zero_le _, beq_eq_false_iff_ne.mpr (Ne.symm (Nat.ne_of_lt hb)), [], .nil, Heap.DictOf.new h⟩
section
variable {X : Cx} {pos : Pos}
end
def tPairs : List (TE × TE) → St → Hp → (List (V × V) → Hp → Prop) → Prop
  | [], _, H, Q => Q [] H
  | (tk, tv) :: r, σ, H, Q => tk σ H fun x H1 => tv σ H1 fun y H2 => tPairs r σ H2 fun ps H3 => Q ((x, y) :: ps) H3
abbrev VV : List (V × V) → List (Value × Value) → Prop := Paired fun p q => RelV p.1 q.1 ∧ RelV p.2 q.2
def PPs (X : Cx) (pos : Pos) (keys : List (Option Expr)) (values : List Expr) (trs : List (TE × TE)) : Prop :=
  ∀ (pins : List (Addr × Obj)) (s : Shared) (σ : St) (H : Hp) (Q : List (V × V) → Hp → Prop), Inv X pins σ H s → tPairs trs σ H Q →
    wpAny (model X.prog X.w) X.A (evalPairs (pairTrees keys values X.env pos)) (fun vs s' => ∃ ps H', Inv X pins σ H' s' ∧ VV ps vs ∧ Q ps H') X.xe s
theorem pps_nil {X : Cx} {pos : Pos} : PPs X pos [] [] [] := fun pins s σ H Q I h => pairTrees_nil_walk ⟨[], H, I, .nil, h⟩
theorem pps_cons {X : Cx} {pos : Pos} {k v : Expr} {ks : List (Option Expr)} {vs : List Expr} {tk tv : TE} {trs : List (TE × TE)} (hk : PE X k tk) (hv : PE X v tv) (hr : PPs X pos ks vs trs) :
    PPs X pos (some k :: ks) (v :: vs) ((tk, tv) :: trs) := fun pins s σ H Q I h =>
  pairTrees_cons_walk (thn (hk pins s σ H _ I h) fun u s1 ⟨x, H1, I1, rx, q1⟩ => thn (hv pins s1 σ H1 _ I1 q1) fun w2 s2 ⟨y, H2, I2, ry, q2⟩ =>
    thn (hr pins s2 σ H2 _ I2 q2) fun ws s3 ⟨ps, H3, I3, rel, q3⟩ => ⟨(x, y) :: ps, H3, I3, .cons ⟨rx, ry⟩ rel, q3⟩)
def mergeK (kvs more : List (Key × V)) : List (Key × V) := more.foldl (fun acc kv => putK acc kv.1 kv.2) kvs
theorem KV.merge : ∀ {more : List (Key × V)} {rs : List (Key × Value)} {kvs : List (Key × V)} {vs : List (Key × Value)}, KV more rs → KV kvs vs → KV (mergeK kvs more) (merged vs rs) := by
  intro more rs kvs vs r
  unfold KV at r
  induction r generalizing kvs vs with
  | nil => intro q; exact q
  | @cons p q ps qs h t ih =>
    intro r0
    have e : KV (putK kvs p.1 p.2) (stored vs q.1 q.2) := by
      have := r0.put p.1 h.2
      rw [← h.1]; exact this
    exact ih e
theorem length_mergeK : ∀ (more kvs : List (Key × V)), (mergeK kvs more).length ≤ kvs.length + more.length
  | [], kvs => by show kvs.length ≤ kvs.length + 0; omega
  | p :: r, kvs => by
    have h1 := length_mergeK r (putK kvs p.1 p.2)
    have h2 := length_putK kvs p.1 p.2
    show (mergeK (putK kvs p.1 p.2) r).length ≤ _
    rw [List.length_cons]; omega
theorem carries_of {P : Program} {w : World} : ∀ {kvs : List (Key × V)} {ws : List (Value × Value)}, VV (kvs.map fun kv => (kV kv.1, kv.2)) ws → ∃ rs, Carries (mixKind P w) ws rs ∧ KV kvs rs
  | [], _, r => by rw [List.map_nil] at r; cases r; exact ⟨[], True.intro, .nil⟩
  | p :: kvs, _, r => by
    rw [List.map_cons] at r
    cases r with
    | @cons a b as bs h t =>
      obtain ⟨rs, c, q⟩ := carries_of (P := P) (w := w) t
      obtain ⟨b1, b2⟩ := b
      exact ⟨(p.1, b2) :: rs, ⟨kV_is h.1, rfl, c⟩, .cons ⟨rfl, h.2⟩ q⟩
def tDisp (trs : List (TE × TE)) : TE := fun σ H Q => ∀ p, H p = none → tPairs trs σ (upd H p (.dK [])) fun ps H2 => H2 p = some (.dK []) ∧ ∃ kvs : List (Key × V), ps = kvs.map (fun kv => (kV kv.1, kv.2)) ∧ kvs.length ≤ 15 ∧ Q (.ref p) (upd H2 p (.dK (mergeK [] kvs)))
theorem pe_disp {X : Cx} {pos : Pos} {keys : List (Option Expr)} {values : List Expr} {trs : List (TE × TE)} (h : PPs X pos keys values trs) (hall : keys.all (·.isSome) = true) (hl : keys.length = values.length) (h0 : keys ≠ [])
    (h15 : keys.length ≤ 15) : PE X (.Dict keys values pos) (tDisp trs) := by
  intro pins s σ H Q I q
  have hn := I.hok.fresh (Nat.le_refl s.heap.objs.size)
  have I1 := I.laid (a := s.heap.objs.size) (o := .dK []) (h' := s.heap.push { cls := .type "dict", data := .dict #[] }) (t' := s.toks) (fun _ _ q => Heap.get?_push_of_some _ q) (Nat.le_refl _) (dk_empty s.heap I.big)
  refine wpAny_Dict_walk (knd := mixKind X.prog X.w) hall hl h0 h15 (thn (h pins _ σ _ _ I1 (q _ hn)) fun ws s2 ⟨ps, H2, I2, rel, e, kvs, ep, lk, q2⟩ => ?_)
  subst ep
  obtain ⟨rs, c, rk⟩ := carries_of (P := X.prog) (w := X.w) rel
  obtain ⟨z, hd, vs0, r0, dd⟩ := dk_of I2.hok e
  cases r0
  refine ⟨rs, c, dd, fun h' dd' hs => ⟨.ref s.heap.objs.size, _, ?_, rfl, q2⟩⟩
  have hz : (mergeK [] kvs).length ≤ sizeLine := by
    have h1 := length_mergeK kvs []
    rw [List.length_nil] at h1
    rw [sizeLine_eq]; omega
  have he : ∃ q, h'.get? s.heap.objs.size = some q := let ⟨q, _, _, hq, _⟩ := dd'; ⟨q, hq⟩
  exact d_write I2 (by rw [e]; exact True.intro) hs he (dk_new hz hd (rk.merge .nil) dd')
section
variable {X : Cx} {pins : List (Addr × Obj)} {σ : St} {H : Hp} {s : Shared} {a : Addr} {y d : V} {u r : Value} {o : Option V} {A : Around} {E : Value → Shared → Prop}
end
section
variable {X : Cx} {o e f : Expr} {apos cpos : Pos} {td ty tx : TE}
end
section
variable {X : Cx} {pins : List (Addr × Obj)} {σ : St} {H : Hp} {s : Shared} {a : Addr} {kvs : List (Key × V)} {A : Around} {E : Value → Shared → Prop}
end
section
variable {X : Cx} {pins : List (Addr × Obj)} {σ : St} {H : Hp} {s : Shared} {a : Addr} {y : V} {u : Value} {A : Around} {E : Value → Shared → Prop}
end
end L2
namespace L2
open PySem PySem.Spec PyProof.Rows
section
variable {κ : Type} [DecidableEq κ]
theorem nd_snoc : ∀ {l : List κ} {k : κ}, l.Nodup → ¬ k ∈ l → (l ++ [k]).Nodup
  | [], k, _, _ => by simp
  | a :: r, k, h, hk => by
    obtain ⟨h1, h2⟩ := List.nodup_cons.mp h
    show (a :: (r ++ [k])).Nodup
    refine List.nodup_cons.mpr ⟨fun m => ?_, nd_snoc h2 fun m => hk (List.mem_cons.mpr (Or.inr m))⟩
    rcases List.mem_append.mp m with q | q
    · exact h1 q
    · exact hk (List.mem_cons.mpr (Or.inl (List.mem_singleton.mp q).symm))
end
end L2
namespace L2
open PySem PySem.Spec PyProof.Rows
theorem relV_of_is {P : Program} {w : World} {k : Key} {u : Value} (h : (mixKind P w).is k u = true) : RelV (kV k) u := by
  rw [mixKind_is] at h
  rcases keyIs_shape h with ⟨i, t, rfl, rfl⟩ | ⟨x, t, rfl, rfl⟩
  · exact ⟨t, rfl⟩
  · exact ⟨t, rfl⟩
section
variable {X : Cx} {pins : List (Addr × Obj)} {σ : St} {H : Hp} {s : Shared}
end
section
variable {X : Cx}
end
end L2
namespace L2
open PySem PySem.Spec PyProof.Rows
inductive Dat where
  | int (i : Int)
  | str (x : Str)
  | tup (ds : List Dat)
  | lst (ds : List Dat)
  | dct (ks : List (Str × Dat))
mutual
def Da (H : Hp) : Dat → V → Prop
  | .int i, v => v = .int i
  | .str x, v => v = .str x
  | .tup ds, v => ∃ p xs, v = .ref p ∧ H p = some (.tup xs) ∧ Das H ds xs
  | .lst ds, v => ∃ p xs, v = .ref p ∧ H p = some (.lst xs) ∧ Das H ds xs
  | .dct ks, v => ∃ p l, v = .ref p ∧ H p = some (.dK l) ∧ Dak H ks l
def Das (H : Hp) : List Dat → List V → Prop
  | [], xs => xs = []
  | d :: ds, xs => ∃ x r, xs = x :: r ∧ Da H d x ∧ Das H ds r
def Dak (H : Hp) : List (Str × Dat) → List (Key × V) → Prop
  | [], l => l = []
  | (k, d) :: ks, l => ∃ x r, l = (.inr k, x) :: r ∧ Da H d x ∧ Dak H ks r
end
example (H : Hp) (i : Int) (v : V) : Da H (.int i) v = (v = .int i) := rfl
example (H : Hp) (ds : List Dat) (v : V) : Da H (.tup ds) v = (∃ p xs, v = .ref p ∧ H p = some (.tup xs) ∧ Das H ds xs) := rfl
mutual
def Dat.nd : Dat → Prop
  | .int _ => True
  | .str _ => True
  | .tup ds => nds ds
  | .lst ds => nds ds
  | .dct ks => (ks.map (·.1)).Nodup ∧ ndk ks
def nds : List Dat → Prop
  | [] => True
  | d :: ds => d.nd ∧ nds ds
def ndk : List (Str × Dat) → Prop
  | [] => True
  | (_, d) :: ks => d.nd ∧ ndk ks
end
section
variable {X : Cx} {pins : List (Addr × Obj)} {σ : St} {H : Hp} {s : Shared}
end
end L2
set_option maxHeartbeats 400000
namespace L2
open PySem PySem.Spec PyProof.Rows
section
variable {X : Cx} {pins : List (Addr × Obj)} {σ : St} {H : Hp} {s : Shared}
end
end L2
namespace L2
open PySem PySem.Spec PyProof.Rows
section
variable {prog : Program} {w : World}
end
end L2
namespace L2
open PySem PySem.Spec PyProof.Rows
section
variable {X : Cx} {pins : List (Addr × Obj)} {σ : St} {H : Hp} {s : Shared}
end
section
variable {X : Cx}
end
end L2
namespace L2
open PySem PySem.Spec PyProof.Rows
theorem dcomp_loop {prog : Program} {w : World} {A : Around} {R : Result → Shared → Prop} {s : Shared} {kx vx target iter : Expr} {ifs : List Expr} {scope : Scope} {pos : Pos} {it : Value} {D : Addr} {env : Env} (I : Nat → Shared → Prop)
    (turn : ∀ n s, I n s → wpAny (model prog w) A (pyNext it) (fun r s₁ => match r with
      | none => R (.ok .next) s₁
      | some v => wpAny (model prog w) A (letOwnedTupleGo target it v) (fun _ s₁' => wpAny (model prog w) A (assign target env v) (fun _ s₂ =>
          wpAny (model prog w) A (forIn ifs true fun c r => if r = true then do let ok ← isTrue c env (eval c env); pure (ForInStep.yield ok) else pure (ForInStep.yield r)) (fun ok s₃ =>
            if ok = true then wpAny (model prog w) A (eval kx env) (fun x s₄ => wpAny (model prog w) A (eval vx env) (fun y s₅ =>
              wpAny (model prog w) A (dictSet D x y) (fun _ s₆ => ∃ m, m < n ∧ I m s₆) (fun _ _ => False) s₅) (fun _ _ => False) s₄) (fun _ _ => False) s₃
            else ∃ m, m < n ∧ I m s₃) (fun _ _ => False) s₂) (fun _ _ => False) s₁') (fun _ _ => False) s₁) (fun _ _ => False) s)
    (n : Nat) (h : I n s) : codeAny (model prog w) A (.compLoop (.DictComp kx vx [⟨target, iter, ifs, 0⟩] scope pos) 0 it (.ref D) env) R s := by
  refine codeAny_loop rfl I (fun n s hI => ?_) n h
  show wpAny _ A ((compTurn (.DictComp kx vx [⟨target, iter, ifs, 0⟩] scope pos) 0 it (.ref D) env).onRaise (fun x => do noteFrame x env; theTreesLotGoes x)) _ _ s
  refine wpAny_noted ?_
  refine wpAny_noRaise ?_
  rw [compTurn_dict]
  refine wpAny_bind (wpAny_standAt (wpAny_bind (wpAny_mono (turn n s hI) (fun r s₁ h₁ => ?_) fun _ _ h' => h')))
  cases r with
  | none => exact wpAny_pure h₁
  | some v =>
    refine wpAny_bind (wpAny_mono h₁ (fun _ s₁' h₁' => ?_) fun _ _ h' => h')
    refine wpAny_bind (wpAny_mono h₁' (fun _ s₂ h₂ => wpAny_bind (wpAny_mono h₂ (fun ok s₃ h₃ => ?_) fun _ _ h' => h')) fun _ _ h' => h')
    cases ok with
    | false => exact wpAny_pure ⟨rfl, h₃⟩
    | true =>
      exact wpAny_bind (wpAny_bind (wpAny_mono h₃ (fun x s₄ h₄ => wpAny_bind (wpAny_holding (wpAny_mono h₄ (fun y s₅ h₅ => wpAny_bind (wpAny_standAt (wpAny_holding (wpAny_mono h₅ (fun _ s₆ h₆ => wpAny_pure ⟨rfl, h₆⟩) fun _ _ h' => h')))) fun _ _ h' => h'))) fun _ _ h' => h'))
def dcmpR (J : It) (g : TG) (tc : TT) (tk tv : TE) (D : Addr) (Fin : Hp → Prop) (σ0 : St) (H0 : Hp) : Prop :=
  ∃ W : Nat → Nat → St → Hp → Prop, (∃ m, W 0 m σ0 H0) ∧ ∀ i m σ H, W i m σ H →
    (J.stop i H ∧ Fin H) ∨ (J.go i H ∧ ∃ N : St → Hp → Prop, (∀ σ' H', N σ' H' → ∃ m', m' < m ∧ W (i + 1) m' σ' H') ∧ ∀ x H1, J.yld i H x H1 → g x σ H1 fun σ2 H2 => tc σ2 H2 fun b H3 =>
      if b = true then tk σ2 H3 fun y H4 => tv σ2 H4 fun v H5 => ∃ kvs k, y = kV k ∧ H5 D = some (.dK kvs) ∧ kvs.length < sizeLine ∧ N σ2 (upd H5 D (.dK (putK kvs k v))) else N σ2 H3)
theorem dcmp_by {J : It} {g : TG} {tc : TT} {tk tv : TE} {D : Addr} {Fin : Hp → Prop} {σ0 : St} {H0 : Hp} (n : Nat) (Pv : Nat → St → Hp → Prop) (h0 : Pv 0 σ0 H0) (hend : ∀ σ H, Pv n σ H → J.stop n H ∧ Fin H)
    (hs : ∀ i σ H, i < n → Pv i σ H → J.go i H ∧ ∀ x H1, J.yld i H x H1 → g x σ H1 fun σ2 H2 => tc σ2 H2 fun b H3 =>
      if b = true then tk σ2 H3 fun y H4 => tv σ2 H4 fun v H5 => ∃ kvs k, y = kV k ∧ H5 D = some (.dK kvs) ∧ kvs.length < sizeLine ∧ Pv (i + 1) σ2 (upd H5 D (.dK (putK kvs k v))) else Pv (i + 1) σ2 H3) : dcmpR J g tc tk tv D Fin σ0 H0 := by
  refine ⟨fun i m σ H => m = n - i ∧ i ≤ n ∧ Pv i σ H, ⟨n, by simp, Nat.zero_le _, h0⟩, ?_⟩
  rintro i m σ H ⟨rfl, hi, p⟩
  by_cases hlt : i < n
  · obtain ⟨q1, q2⟩ := hs i σ H hlt p
    exact .inr ⟨q1, Pv (i + 1), fun σ' H' p' => ⟨n - (i + 1), by omega, rfl, hlt, p'⟩, q2⟩
  · have e : i = n := by omega
    subst e
    exact .inl (hend σ H p)
def tCompD (wi : TI) (g : TG) (tc : TT) (tk tv : TE) (nl : Nat) (caps : List Nat) : TE := fun σ H Q =>
  wi σ H fun J H1 => ∀ D, H1 D = none → dcmpR J g tc tk tv D (fun H' => Q (.ref D) H') (stC nl caps σ) (upd H1 D (.dK []))
theorem d_dictSet {X : Cx} {pins : List (Addr × Obj)} {σ : St} {H : Hp} {s : Shared} {a : Addr} {k : Key} {v : V} {u r : Value} {A : Around} {E : Value → Shared → Prop} {kvs : List (Key × V)} {Q : Unit → Shared → Prop} (I : Inv X pins σ H s) (e : H a = some (.dK kvs)) (l : kvs.length < sizeLine)
    (ry : RelV (kV k) u) (rv : RelV v r) (h : ∀ s', Inv X pins σ (upd H a (.dK (putK kvs k v))) s' → Q () s') : wpAny (model X.prog X.w) A (dictSet a u r) Q E s := by
  obtain ⟨z, hd, vs, rel, dd⟩ := dk_of I.hok e
  have hz : vs.length ≤ sizeLine := by rw [← rel.length]; exact z
  have hl : (putK kvs k v).length ≤ sizeLine := by have := length_putK kvs k v; omega
  refine wpAny_dictSet_pairs (kV_is ry) dd (fun h' dd' hs => h _ ?_) hz
  have he : ∃ q, h'.get? a = some q := let ⟨q, _, _, hq, _⟩ := dd'; ⟨q, hq⟩
  exact d_write I (by rw [e]; exact True.intro) hs he (dk_new hl hd (rel.put k rv) dd')
section
variable {X : Cx} {tg iter kx vx : Expr} {ifs : List Expr} {scope : Scope} {pos : Pos} {wi : TI} {g : TG} {tc : TT} {tk tv : TE} {locs cs : List Str} {caps : List Nat}
theorem dcomp_block {pins : List (Addr × Obj)} {σ : St} {H : Hp} {s : Shared} {it : Addr} {fp : List Addr} {tn : Nat → Heap → Prop} {J : It} {RR : Value → Addr → Result → Shared → Prop} {E : Value → Shared → Prop} {Fin : Hp → Prop}
    (hc : X.calm = true) (hb : blkOk scope X.env.scope = true) (hcap : capsOk X.N scope cs caps = true)
    (I : Inv X pins σ H s) (T : Turn X.prog X.w X.K tg J fp it tn) (st : tn 0 s.heap) (hf : ∀ b ∈ fp, FpOk X pins H b)
    (hg : PG (cxC X scope (locs ++ cs) s H fp) tg g) (ht : PTs (cxC X scope (locs ++ cs) s H fp) ifs tc) (hk : PE (cxC X scope (locs ++ cs) s H fp) kx tk) (hv : PE (cxC X scope (locs ++ cs) s H fp) vx tv)
    (h : dcmpR J g tc tk tv s.heap.objs.size Fin (stC locs.length caps σ) (upd H s.heap.objs.size (.dK [])))
    (hRR : ∀ σ' H' s', Inv (cxC X scope (locs ++ cs) s H fp) [] σ' H' s' → Fin H' → RR (.ref s.heap.objs.size) (s.heap.objs.size + 1) (.ok .next) s') :
    wpAny (model X.prog X.w) X.A newDict (fun acc s₃ => wpAny (model X.prog X.w) X.A (newFunctionEnv scope X.env.globals (capOf X.env.cells scope.names []) [] X.env.qual none .none (some X.env)) (fun cenv s₄ =>
      codeAny (model X.prog X.w) X.A (.compStart (.DictComp kx vx [⟨tg, iter, ifs, 0⟩] scope pos) 0 (.ref it) acc { cenv with scope := relabel scope X.env }) (RR acc cenv.locals) s₄) E s₃) E s := by
  have hcell : ∀ y ∈ scope.names, y.2 ≠ .cell := fun y hy => (blk_all hb y hy).1
  have hkind := blk_kind hb
  have hlt : ∀ b ∈ fp, b < s.heap.objs.size := fun b hbm => by
    obtain ⟨o, e, _⟩ := T.obj 0 _ st b hbm
    exact Heap.lt_size e
  refine wpAny_newObj_type (wpAny_newFunctionEnv hcell (by intro y hy; simp at hy) (fun h₁ hns₁ hsb₁ => ?_) hkind)
  dsimp only at hns₁ hsb₁ ⊢
  generalize hH2 : s.heap.push { cls := .type "dict", dict := none, data := .dict #[] } = H2 at hns₁ hsb₁ ⊢
  have hC : H2.objs.size = s.heap.objs.size + 1 := by rw [← hH2, Heap.size_push]
  rw [hC] at hns₁ hsb₁ ⊢
  have hDC : s.heap.objs.size ≠ s.heap.objs.size + 1 := Nat.ne_of_lt (Nat.lt_succ_self _)
  have below : ∀ b, b < s.heap.objs.size → b ≠ s.heap.objs.size + 1 := fun b hb => Nat.ne_of_lt (Nat.lt_succ_of_lt hb)
  have old : ∀ b o, s.heap.get? b = some o → h₁.get? b = some o := fun b o e => hsb₁.extBut b o (below b (Heap.lt_size e)) (Heap.get?_push_of_some _ (hH2 ▸ Heap.get?_push_of_some _ e))
  have hD : h₁.get? s.heap.objs.size = some { cls := .type "dict", dict := none, data := .dict #[] } :=
    hsb₁.extBut _ _ hDC (Heap.get?_push_of_some _ (hH2 ▸ Heap.get?_push_size _ rfl))
  have frC : H (s.heap.objs.size + 1) = none := I.hok.fresh (Nat.le_succ _)
  have frD : H s.heap.objs.size = none := I.hok.fresh (Nat.le_refl _)
  have J0 : Inv (cxC X scope (locs ++ cs) s H fp) [] (stC locs.length caps σ) (upd H s.heap.objs.size (.dK [])) { s with heap := h₁, toks := s.toks + ([] : List (Str × Value)).length } := by
    refine ⟨cxC_ok I hb hf hlt, rfl, I.bare, Un.laid old (Nat.le_refl _) frD, ⟨_, hns₁, fun i x v e1 e2 e3 => ?_⟩, fun x c e => ?_, ?_, fun x c e => ?_, fun p hp => absurd (show p ∈ ([] : List (Addr × Obj)) from hp) (by simp), ?_, ?_⟩
    · have e1' : (locs ++ cs)[i]? = some x := e1
      have hi : locs.length ≤ i := by
        rcases Nat.lt_or_ge i locs.length with hi | hi
        · unfold stC at e2
          rw [List.getElem?_append_left (by simpa using hi), List.getElem?_replicate] at e2
          split at e2 <;> cases e2
        · exact hi
      rw [List.getElem?_append_right hi] at e1'
      obtain ⟨k, q1, q2, q3⟩ := caps_get hcap e1'
      unfold stC at e2
      rw [List.getElem?_append_right (by simpa using hi), List.length_replicate, List.getElem?_map, q1] at e2
      have e2' : (σ[k]?).getD none = some v := by simpa using e2
      have e4 : σ[k]? = some (some v) := by
        cases z : σ[k]? with
        | none => rw [z] at e2'; cases e2'
        | some o => rw [z] at e2'; simp at e2'; rw [e2']
      have hfr := (blk_all hb _ (PySem.mem_of_lookup q3)).2.2 rfl
      obtain ⟨m, hn, hl⟩ := I.loc
      obtain ⟨u, r, l⟩ := hl k x v q2 e4 (hfr.elim (fun z => .inr (.inl z)) fun z => .inr (.inr z))
      refine ⟨u, r, .inr ⟨?_, ?_⟩⟩
      · exact lookup_relabel_free q3
      · rcases l with ⟨k1, _⟩ | ⟨_, c, ec, z⟩
        · exfalso
          have k1' : X.env.scope.names.lookup x = some .local := k1
          rcases hfr with z | z <;> (rw [k1'] at z; cases z)
        · obtain ⟨c', ec'⟩ := capOf_has (cells := X.env.cells) scope.names [] (PySem.mem_of_lookup q3)
          have q := (capOf_some scope.names [] (free_cells I hb) ec').resolve_left (by simp)
          rw [ec] at q; cases q
          obtain ⟨o, ho, hd⟩ := z
          exact ⟨c, ec', o, old _ _ ho, hd⟩
    · have q := (capOf_some scope.names [] (free_cells I hb) e).resolve_left (by simp)
      obtain ⟨v, o, ho, hd⟩ := I.cell x c q
      exact ⟨v, o, old _ _ ho, hd⟩
    · show upd H s.heap.objs.size (.dK []) (s.heap.objs.size + 1) = none
      rw [upd_ne (Ne.symm hDC)]
      exact frC
    · have q := (capOf_some scope.names [] (free_cells I hb) e).resolve_left (by simp)
      obtain ⟨v, o, ho, hd⟩ := I.cell x c q
      rw [upd_ne (Nat.ne_of_lt (Heap.lt_size ho))]
      exact I.freeC x c q
    · refine I.hok.laid old (Nat.le_refl _) ?_
      have hb' := I.big
      obtain ⟨z1, z2, z3⟩ := dk_empty (P := X.prog) (w := X.w) (H := upd H s.heap.objs.size (.dK [])) s.heap hb'
      obtain ⟨vs, rel, o, es, ep, ho, hr⟩ := z3
      rw [Heap.get?_push_size _ rfl] at ho
      cases ho
      exact ⟨z1, z2, vs, rel, _, es, ep, hD, hr⟩
    · show (stC locs.length caps σ).length = (locs ++ cs).length
      unfold stC
      rw [List.length_append, List.length_replicate, List.length_map, List.length_append, caps_len hcap]
  obtain ⟨W, ⟨m0, w0⟩, turn⟩ := h
  have stat : ∀ {H' : Hp}, (∀ b ∈ fp, H' b = none) → ∀ b ∈ fp, FpOk (cxC X scope (locs ++ cs) s H fp) [] H' b := fun {H'} hn b hbm => by
    have q := (cxC_ok (N := locs ++ cs) I hb hf hlt)
    refine ⟨hn b hbm, (q.exf b hbm).1, q.exfs b hbm, .inl hbm, (q.exf b hbm).2, fun p hp => absurd (show p ∈ ([] : List (Addr × Obj)) from hp) (by simp)⟩
  have fr0 : ∀ b ∈ fp, upd H s.heap.objs.size (.dK []) b = none := fun b hbm => by rw [upd_ne (Nat.ne_of_lt (hlt b hbm))]; exact (hf b hbm).1
  have loop : ∀ s₃ : Shared, s₃ = { s with heap := h₁, toks := s.toks + ([] : List (Str × Value)).length } →
      codeAny (model X.prog X.w) X.A (.compLoop (.DictComp kx vx [⟨tg, iter, ifs, 0⟩] scope pos) 0 (.ref it) (.ref s.heap.objs.size) (cxC X scope (locs ++ cs) s H fp).env) (RR (.ref s.heap.objs.size) (s.heap.objs.size + 1)) s₃ := by
    rintro s₃ rfl
    refine dcomp_loop (fun n s' => ∃ i σ' H', Inv (cxC X scope (locs ++ cs) s H fp) [] σ' H' s' ∧ tn i s'.heap ∧ (∀ b ∈ fp, H' b = none) ∧ W i n σ' H') ?_ m0
      ⟨0, _, _, J0, T.keep _ _ _ st fun b _ o e => old b o e, fr0, w0⟩
    rintro n s3 ⟨i, σ3, H3, I3, st3, fr3, w3⟩
    rcases turn i n σ3 H3 w3 with ⟨stop, qn⟩ | ⟨go, Nn, hNn, step⟩
    · refine thn (T.done (cxC X scope (locs ++ cs) s H fp) rfl rfl rfl hc i [] s3 σ3 H3 _ I3 (stat fr3) st3 stop) fun r s4 ⟨hr, I4⟩ => ?_
      subst hr
      exact hRR σ3 H3 s4 I4 qn
    · refine thn (T.item (cxC X scope (locs ++ cs) s H fp) rfl rfl rfl hc i [] s3 σ3 H3 _ I3 (stat fr3) st3 go) fun r s4 ⟨u, hr, h4⟩ => ?_
      subst hr
      refine thn h4 fun _ s5 ⟨x, H5, I5, r5, y5, st5, fr5⟩ => ?_
      have I5' := I5.pinned (stat fr5) (T.obj _ _ st5)
      have again : ∀ {σ7 : St} {H7 : Hp} {s7 : Shared}, Inv (cxC X scope (locs ++ cs) s H fp) ([] ++ pinsAt fp s5.heap) σ7 H7 s7 → Nn σ7 H7 →
          ∃ m, m < n ∧ ∃ i σ' H', Inv (cxC X scope (locs ++ cs) s H fp) [] σ' H' s7 ∧ tn i s7.heap ∧ (∀ b ∈ fp, H' b = none) ∧ W i m σ' H' := fun {σ7 H7 s7} I7 n7 => by
        obtain ⟨m', hm, w7⟩ := hNn σ7 H7 n7
        refine ⟨m', hm, i + 1, σ7, H7, I7.unpinned, T.keep _ _ _ st5 fun b hb o e => (I7.pin (b, o) (List.mem_append_right _ (List.mem_append_right _ (mem_pinsAt hb e)))).1, fun b hb => ?_, w7⟩
        obtain ⟨o, e, d⟩ := T.obj _ _ st5 b hb
        exact (I7.pin (b, o) (List.mem_append_right _ (List.mem_append_right _ (mem_pinsAt hb e)))).2.1
      refine thn (hg _ s5 σ3 H5 x u _ I5' r5 (step x H5 y5)) fun _ s6 ⟨σ6, H6, I6, q6⟩ => ?_
      refine thn (ht _ s6 σ6 H6 _ I6 q6) fun b s7 ⟨H7, I7, q7⟩ => ?_
      cases b with
      | false => exact again I7 q7
      | true =>
        refine thn (hk _ s7 σ6 H7 _ I7 q7) fun u8 s8 ⟨v8, H8, I8, r8, q8⟩ => ?_
        refine thn (hv _ s8 σ6 H8 _ I8 q8) fun u9 s9 ⟨v9, H9, I9, r9, kvs, k, e9, f9, z9, q9⟩ => ?_
        subst e9
        exact d_dictSet (X := cxC X scope (locs ++ cs) s H fp) I9 f9 z9 r8 r9 fun s' I' => again I' q9
  exact codeAny_compStart_dict (loop _ rfl) (T.self _ 0 _ _ _ (T.keep _ _ _ st fun b _ o e => old b o e) (loop _ rfl))
theorem pe_compD (locs cs : List Str) (caps : List Nat) (hc : X.calm = true) (hi : PI X tg iter wi) (hg : ∀ s H fp, PG (cxC X scope (locs ++ cs) s H fp) tg g) (ht : ∀ s H fp, PTs (cxC X scope (locs ++ cs) s H fp) ifs tc)
    (hk : ∀ s H fp, PE (cxC X scope (locs ++ cs) s H fp) kx tk) (hv : ∀ s H fp, PE (cxC X scope (locs ++ cs) s H fp) vx tv)
    (hb : blkOk scope X.env.scope = true := by rfl) (hcap : capsOk X.N scope cs caps = true := by rfl) (hs : ∀ x, foldedSetIterable iter X.env x = pure x := by intro _; rfl) :
    PE X (.DictComp kx vx [⟨tg, iter, ifs, 0⟩] scope pos) (tCompD wi g tc tk tv locs.length caps) := by
  intro pins s σ H Q I h
  rw [arm_eval_DictComp]
  refine wpAny_comprehension_free (use := none) rfl hs (closure_cap (free_cells I hb)) (blk_kind hb) (fun y hy => (blk_all hb y hy).2.1) (thn (hi pins s σ H _ I h) fun v s1 h1 => thn h1 fun itv s2 h2 => ?_)
  obtain ⟨it, fp, tn, J, H2, e, I2, T, st2, f2, q⟩ := h2
  subst e
  refine dcomp_block (RR := fun acc C => compPost (model X.prog X.w) X.A X.xe none (EP X pins σ Q) acc C) (locs := locs) (cs := cs) (Fin := fun H' => Q (.ref s2.heap.objs.size) H') hc hb hcap I2 T st2 f2 (hg _ _ _) (ht _ _ _) (hk _ _ _) (hv _ _ _) (q _ (I2.hok.fresh (Nat.le_refl _))) ?_
  intro σ' H' s' J' q'
  obtain ⟨m, hn, _⟩ := J'.loc
  refine ⟨m, hn, fun h' hs' => ?_⟩
  have I3 := cxC_back I2 f2 J'
  have fr : H' (s2.heap.objs.size + 1) = none := J'.free
  refine ⟨.ref s2.heap.objs.size, H', I3.turned (t' := s'.toks) (it := s2.heap.objs.size + 1) (fun b o hb e => (hs'.2 b hb).trans e) fr ?_ (.inr (Nat.le_trans I2.sz (Nat.le_succ _))) ?_ ?_, rfl, q'⟩
  · exact Nat.ne_of_gt (Nat.lt_succ_of_lt I2.lt)
  · intro x c e z
    obtain ⟨v, hv⟩ := I2.cell x c e
    have h1 : s2.heap.objs.size + 1 < s2.heap.objs.size := z ▸ hv.lt
    exact absurd h1 (Nat.not_lt.mpr (Nat.le_succ _))
  · intro p hp z
    have h1 : s2.heap.objs.size + 1 < s2.heap.objs.size := z ▸ Heap.lt_size (I2.pin p hp).1
    exact absurd h1 (Nat.not_lt.mpr (Nat.le_succ _))
end
end L2
namespace L2
open PySem PySem.Spec PyProof.Rows
section
variable {X : Cx}
theorem op_notInD (hu : X.A.units + 1 < cLine) : OpR X (compareOp .NotIn) (fun x y H Q => ∃ a o, y = .ref a ∧ DGet H a x o ∧ Q (.bl (!o.isSome)) H) := by
  intro pins s σ H x y v u Q I rx ry h
  obtain ⟨a, o, rfl, g, q⟩ := h
  cases ry
  exact d_notIn hu I g rx fun s' I' => ⟨.bl (!o.isSome), H, I', rfl, q⟩
end
end L2
set_option maxHeartbeats 1000000
namespace L2
open PySem PySem.Spec PyProof.Rows
section
variable {prog : Program} {w : World} {A : Around} {E : Value → Shared → Prop} {s : Shared}
end
end L2
namespace L2
open PySem PySem.Spec PyProof.Rows
section
variable {prog : Program} {w : World} {A : Around} {E : Value → Shared → Prop} {s : Shared} {z TI TO i1 i2 l1 l2 : Addr} {k1 k2 : Nat} {xs ys : Array Value} {x y a b : Value}
end
end L2
namespace L2
open PySem PySem.Spec PyProof.Rows
section
variable {prog : Program} {w : World} {A : Around} {E : Value → Shared → Prop} {s : Shared} {z TI TO i1 i2 l1 l2 : Addr} {k1 k2 : Nat} {xs ys : Array Value} {x y a b : Value}
end
end L2
namespace L2
open PySem PySem.Spec PyProof.Rows
end L2
namespace L2
open PySem PySem.Spec PyProof.Rows
end L2
namespace L2
open PySem PySem.Spec PyProof.Rows
section
variable {prog : Program} {w : World} {A : Around} {E : Value → Shared → Prop} {s : Shared}
end
section
variable {X : Cx}
end
end L2
namespace L2
open PySem PySem.Spec PyProof.Rows
section
variable {X : Cx}
end
end L2
namespace L2
open PySem PySem.Spec PyProof.Rows
theorem pe_disp1 {X : Cx} {pos : Pos} {k v : Expr} {tk tv : TE} (hk : PE X k tk) (hv : PE X v tv) : PE X (.Dict [some k] [v] pos) (tDisp [(tk, tv)]) :=
  pe_disp (pps_cons hk hv pps_nil) rfl rfl (List.cons_ne_nil _ _) (by show 1 ≤ 15; decide)
def notStar : Expr → Bool
  | .Starred _ _ => false
  | _ => true
theorem star_ns {e : Expr} {es : List Expr} {env : Env} (h : notStar e = true) : starEach (e :: es) env = (false, eval e env) :: starEach es env := by
  cases e <;> first | (cases h; done) | (rw [starEach.eq_def])
theorem pa_consN {X : Cx} {e : Expr} {es : List Expr} {te : TE} {t : TA} (ha : PE X e te) (hr : PA X es t) (h : notStar e = true := by rfl) : PA X (e :: es) (tCons te t) := pa_cons ha hr (star_ns h)
end L2
namespace L2
open PySem PySem.Spec PyProof.Rows
section
variable {X : Cx}
end
end L2
namespace L2
open PySem PySem.Spec PyProof.Rows
inductive Tx where
  | non
  | int (i : Int)
  | str (x : Str)
  | tup (ds : List Tx)
  | lst (ds : List Tx)
noncomputable instance : DecidableEq Tx := fun a b => Classical.propDecidable (a = b)
mutual
def Xa (H : Hp) : Tx → V → Prop
  | .non, v => v = .non
  | .int i, v => v = .int i
  | .str x, v => v = .str x
  | .tup ds, v => ∃ p xs, v = .ref p ∧ H p = some (.tup xs) ∧ Xas H ds xs
  | .lst ds, v => ∃ p xs, v = .ref p ∧ H p = some (.lst xs) ∧ Xas H ds xs
def Xas (H : Hp) : List Tx → List V → Prop
  | [], xs => xs = []
  | d :: ds, xs => ∃ x r, xs = x :: r ∧ Xa H d x ∧ Xas H ds r
end
mutual
def Tx.dp : Tx → Nat
  | .non => 0
  | .int _ => 0
  | .str _ => 0
  | .tup ds => 1 + xdps ds
  | .lst ds => 1 + xdps ds
def xdps : List Tx → Nat
  | [] => 0
  | d :: ds => max d.dp (xdps ds)
end
theorem Xas.len {H : Hp} : ∀ {ds : List Tx} {xs : List V}, Xas H ds xs → xs.length = ds.length
  | [], _, h => by cases h; rfl
  | _ :: _, _, ⟨x, r, e, _, q⟩ => by rw [e, List.length_cons, List.length_cons, Xas.len q]
theorem Xas.get {H : Hp} : ∀ {ds : List Tx} {xs : List V} {j : Nat} {x : V}, Xas H ds xs → xs[j]? = some x → ∃ d, ds[j]? = some d ∧ Xa H d x
  | [], _, _, _, h, e => by cases h; simp at e
  | d :: _, _, 0, x, ⟨y, r, e, h, q⟩, g => by subst e; simp at g; subst g; exact ⟨d, rfl, h⟩
  | d :: ds, _, j + 1, x, ⟨y, r, e, h, q⟩, g => by
    subst e
    obtain ⟨d', g1, g2⟩ := Xas.get (j := j) q (by simpa using g)
    exact ⟨d', by simpa using g1, g2⟩
theorem xdps_mem : ∀ {ds : List Tx} {d : Tx}, d ∈ ds → d.dp ≤ xdps ds
  | e :: ds, d, h => by
    rcases List.mem_cons.mp h with rfl | h
    · exact Nat.le_max_left _ _
    · exact Nat.le_trans (xdps_mem h) (Nat.le_max_right _ _)
theorem xdps_le {ds : List Tx} {n : Nat} (h : ∀ d ∈ ds, d.dp ≤ n) : xdps ds ≤ n := by
  induction ds with
  | nil => exact Nat.zero_le _
  | cons a r ih => exact Nat.max_le.mpr ⟨h a List.mem_cons_self, ih fun d hd => h d (List.mem_cons_of_mem _ hd)⟩
theorem Xas.inj {H : Hp} {n : Nat} (ih : ∀ d d' v, d.dp ≤ n → Xa H d v → Xa H d' v → d = d') : ∀ {ds es : List Tx} {xs : List V}, xdps ds ≤ n → Xas H ds xs → Xas H es xs → ds = es
  | [], [], _, _, _, _ => rfl
  | [], _ :: _, _, _, h, ⟨x, r, e, _⟩ => by have h' : _ = [] := h; rw [h'] at e; cases e
  | _ :: _, [], _, _, ⟨x, r, e, _⟩, h => by have h' : _ = [] := h; rw [h'] at e; cases e
  | d :: ds, e :: es, _, hn, ⟨x, r, e1, h1, q1⟩, ⟨y, r', e2, h2, q2⟩ => by
    rw [e1] at e2
    cases e2
    have m : max d.dp (xdps ds) ≤ n := hn
    rw [ih d e x (by omega) h1 h2, Xas.inj ih (by omega) q1 q2]
theorem Xa.inj_n {H : Hp} (n : Nat) : ∀ (d d' : Tx) (v : V), d.dp ≤ n → Xa H d v → Xa H d' v → d = d' := by
  induction n with
  | zero =>
    intro d d' v hn h h'
    cases d with
    | tup ds => simp only [Tx.dp] at hn; omega
    | lst ds => simp only [Tx.dp] at hn; omega
    | non => 
      have e : v = .non := h
      subst e
      cases d' with
      | non => rfl
      | int i => exact absurd (show V.non = .int i from h') (by intro z; cases z)
      | str i => exact absurd (show V.non = .str i from h') (by intro z; cases z)
      | tup es => obtain ⟨p, xs, e, _⟩ := (show ∃ p xs, V.non = .ref p ∧ H p = some (.tup xs) ∧ Xas H es xs from h'); cases e
      | lst es => obtain ⟨p, xs, e, _⟩ := (show ∃ p xs, V.non = .ref p ∧ H p = some (.lst xs) ∧ Xas H es xs from h'); cases e
    | int j => 
      have e : v = .int j := h
      subst e
      cases d' with
      | non => exact absurd (show V.int j = .non from h') (by intro z; cases z)
      | int i => have z : V.int j = .int i := h'; cases z; rfl
      | str i => exact absurd (show V.int j = .str i from h') (by intro z; cases z)
      | tup es => obtain ⟨p, xs, e, _⟩ := (show ∃ p xs, V.int j = .ref p ∧ H p = some (.tup xs) ∧ Xas H es xs from h'); cases e
      | lst es => obtain ⟨p, xs, e, _⟩ := (show ∃ p xs, V.int j = .ref p ∧ H p = some (.lst xs) ∧ Xas H es xs from h'); cases e
    | str j => 
      have e : v = .str j := h
      subst e
      cases d' with
      | non => exact absurd (show V.str j = .non from h') (by intro z; cases z)
      | int i => exact absurd (show V.str j = .int i from h') (by intro z; cases z)
      | str i => have z : V.str j = .str i := h'; cases z; rfl
      | tup es => obtain ⟨p, xs, e, _⟩ := (show ∃ p xs, V.str j = .ref p ∧ H p = some (.tup xs) ∧ Xas H es xs from h'); cases e
      | lst es => obtain ⟨p, xs, e, _⟩ := (show ∃ p xs, V.str j = .ref p ∧ H p = some (.lst xs) ∧ Xas H es xs from h'); cases e
  | succ n ih =>
    intro d d' v hn h h'
    by_cases hz : d.dp ≤ n
    · exact ih d d' v hz h h'
    cases d with
    | non => exact absurd (Nat.zero_le n) hz
    | int _ => exact absurd (Nat.zero_le n) hz
    | str _ => exact absurd (Nat.zero_le n) hz
    | tup ds =>
      obtain ⟨p, xs, rfl, e1, q1⟩ := (show ∃ p xs, v = .ref p ∧ H p = some (.tup xs) ∧ Xas H ds xs from h)
      simp only [Tx.dp] at hn
      cases d' with
      | non => exact absurd (show V.ref p = .non from h') (by intro z; cases z)
      | int i => exact absurd (show V.ref p = .int i from h') (by intro z; cases z)
      | str i => exact absurd (show V.ref p = .str i from h') (by intro z; cases z)
      | tup es =>
        obtain ⟨p', ys, e, e2, q2⟩ := (show ∃ p' xs, V.ref p = .ref p' ∧ H p' = some (.tup xs) ∧ Xas H es xs from h')
        cases e
        rw [e1] at e2
        cases e2
        rw [Xas.inj ih (by omega) q1 q2]
      | lst es =>
        obtain ⟨p', ys, e, e2, q2⟩ := (show ∃ p' xs, V.ref p = .ref p' ∧ H p' = some (.lst xs) ∧ Xas H es xs from h')
        cases e
        rw [e1] at e2
        cases e2
    | lst ds =>
      obtain ⟨p, xs, rfl, e1, q1⟩ := (show ∃ p xs, v = .ref p ∧ H p = some (.lst xs) ∧ Xas H ds xs from h)
      simp only [Tx.dp] at hn
      cases d' with
      | non => exact absurd (show V.ref p = .non from h') (by intro z; cases z)
      | int i => exact absurd (show V.ref p = .int i from h') (by intro z; cases z)
      | str i => exact absurd (show V.ref p = .str i from h') (by intro z; cases z)
      | lst es =>
        obtain ⟨p', ys, e, e2, q2⟩ := (show ∃ p' xs, V.ref p = .ref p' ∧ H p' = some (.lst xs) ∧ Xas H es xs from h')
        cases e
        rw [e1] at e2
        cases e2
        rw [Xas.inj ih (by omega) q1 q2]
      | tup es =>
        obtain ⟨p', ys, e, e2, q2⟩ := (show ∃ p' xs, V.ref p = .ref p' ∧ H p' = some (.tup xs) ∧ Xas H es xs from h')
        cases e
        rw [e1] at e2
        cases e2
theorem Xa.inj {H : Hp} {d d' : Tx} {v : V} (h : Xa H d v) (h' : Xa H d' v) : d = d' := Xa.inj_n d.dp d d' v (Nat.le_refl _) h h'
theorem all_dec (ds es : List Tx) : ((List.range (min ds.length es.length)).all (fun j => decide (ds[j]? = es[j]?)) && ds.length == es.length) = decide (ds = es) := by
  by_cases h : ds = es
  · subst h; simp
  · rw [decide_eq_false h]
    by_cases hl : ds.length = es.length
    · have : ¬ (List.range (min ds.length es.length)).all (fun j => decide (ds[j]? = es[j]?)) = true := by
        intro ha
        apply h
        apply List.ext_getElem?
        intro j
        by_cases hj : j < ds.length
        · have := (List.all_eq_true.mp ha) j (List.mem_range.mpr (by omega))
          simpa using this
        · rw [List.getElem?_eq_none (by omega), List.getElem?_eq_none (by omega)]
      rw [Bool.eq_false_iff.mpr this]; rfl
    · rw [beq_eq_false_iff_ne.mpr hl, Bool.and_false]
theorem dec_tup (ds es : List Tx) : decide (Tx.tup ds = Tx.tup es) = decide (ds = es) := by
  by_cases h : ds = es
  · subst h; simp
  · rw [decide_eq_false h, decide_eq_false (by intro z; cases z; exact h rfl)]
theorem dec_lst (ds es : List Tx) : decide (Tx.lst ds = Tx.lst es) = decide (ds = es) := by
  by_cases h : ds = es
  · subst h; simp
  · rw [decide_eq_false h, decide_eq_false (by intro z; cases z; exact h rfl)]
section
variable {X : Cx} {pins : List (Addr × Obj)} {σ : St} {H : Hp} {s : Shared}
theorem eq_of_rcX {A : Around} {d d' : Tx} {x y : V} {u v : Value} (hx : Xa H d x) (hy : Xa H d' y) (ru : RelV x u) (rv : RelV y v) (h : SeqAt.RcAt A s u v (decide (d = d'))) : SeqAt.EqAt A s u v (decide (d = d')) := by
  by_cases z : u = v
  · subst z
    have e : x = y := RelV.inj ru rv
    subst e
    rw [decide_eq_true (Xa.inj hx hy)]
    exact SeqAt.EqAt.same _
  · intro prog w E Q hq
    unfold eqBool
    refine wpAny_holding ?_
    refine wpAny_ite_split (fun hab => absurd (eq_of_beq hab) z) (fun _ => ?_)
    have nf : ∀ b t, u ≠ .float b t := by
      rintro b t rfl
      cases d with
      | non => have e : x = .non := hx; subst e; cases ru
      | int i => have e : x = .int i := hx; subst e; obtain ⟨_, e⟩ := ru; cases e
      | str i => have e : x = .str i := hx; subst e; obtain ⟨_, e⟩ := ru; cases e
      | tup ds => obtain ⟨p, xs, rfl, _⟩ := (show ∃ p xs, x = .ref p ∧ H p = some (.tup xs) ∧ Xas H ds xs from hx); cases ru
      | lst ds => obtain ⟨p, xs, rfl, _⟩ := (show ∃ p xs, x = .ref p ∧ H p = some (.lst xs) ∧ Xas H ds xs from hx); cases ru
    cases u with
    | float b t => exact absurd rfl (nf b t)
    | _ => exact wpAny_bind (h prog w E _ (wpAny_truthy_bool hq))
theorem seqX {A : Around} {n : Nat} {xs ys : List V} {its jts : List Value} {ds es : List Tx} (hx : Xas H ds xs) (hy : Xas H es ys) (r1 : Vals xs its) (r2 : Vals ys jts) (hn : xdps ds ≤ n)
    (ih : ∀ d d' x y u v, d.dp ≤ n → Xa H d x → Xa H d' y → RelV x u → RelV y v → SeqAt.EqAt A s u v (decide (d = d'))) :
    its.toArray.size = ds.length ∧ jts.toArray.size = es.length ∧ ∀ j (g1 : j < its.toArray.size) (g2 : j < jts.toArray.size), SeqAt.EqAt A s its.toArray[j] jts.toArray[j] ((fun j => decide (ds[j]? = es[j]?)) j) := by
  have l1 : its.toArray.size = ds.length := by rw [List.size_toArray, ← r1.length, hx.len]
  have l2 : jts.toArray.size = es.length := by rw [List.size_toArray, ← r2.length, hy.len]
  refine ⟨l1, l2, fun j g1 g2 => ?_⟩
  have j1 : j < xs.length := by rw [hx.len, ← l1]; exact g1
  have j2 : j < ys.length := by rw [hy.len, ← l2]; exact g2
  obtain ⟨k1, e1, i1⟩ := hx.get (List.getElem?_eq_getElem j1)
  obtain ⟨k2, e2, i2⟩ := hy.get (List.getElem?_eq_getElem j2)
  obtain ⟨u1, a1, b1⟩ := r1.get (List.getElem?_eq_getElem j1)
  obtain ⟨u2, a2, b2⟩ := r2.get (List.getElem?_eq_getElem j2)
  have c1 : its.toArray[j] = u1 := by
    have := (List.getElem?_eq_some_iff.mp a1).2
    simpa using this
  have c2 : jts.toArray[j] = u2 := by
    have := (List.getElem?_eq_some_iff.mp a2).2
    simpa using this
  rw [c1, c2]
  show SeqAt.EqAt A s u1 u2 (decide (ds[j]? = es[j]?))
  rw [e1, e2]
  have : decide (some k1 = some k2) = decide (k1 = k2) := by
    by_cases h : k1 = k2
    · subst h; simp
    · rw [decide_eq_false h, decide_eq_false (by intro z; cases z; exact h rfl)]
  rw [this]
  exact ih k1 k2 _ _ _ _ (Nat.le_trans (xdps_mem (List.mem_of_getElem? e1)) hn) i1 i2 b1 b2
theorem rcX_n (I : Inv X pins σ H s) (n : Nat) : ∀ (d d' : Tx) (A : Around) (x y : V) (u v : Value), d.dp ≤ n → Xa H d x → Xa H d' y → RelV x u → RelV y v → A.units + d.dp < cLine →
    SeqAt.RcAt A s u v (decide (d = d')) ∧ SeqAt.RcNeAt A s u v (!decide (d = d')) := by
  have tupA : ∀ {es : List Tx} {y : V} {v : Value}, Xa H (.tup es) y → RelV y v → ∃ p ys jts, y = .ref p ∧ v = .ref p ∧ Xas H es ys ∧ Vals ys jts ∧ s.heap.IsTuple p jts.toArray := by
    intro es y v h r
    obtain ⟨p, ys, rfl, e, q⟩ := (show ∃ p xs, y = .ref p ∧ H p = some (.tup xs) ∧ Xas H es xs from h)
    obtain ⟨_, its, r1, t1⟩ := (show ObjOk X.prog X.w H s.heap p (.tup ys) from I.hok p _ e)
    exact ⟨p, ys, its, rfl, r, q, r1, t1⟩
  have lstA : ∀ {es : List Tx} {y : V} {v : Value}, Xa H (.lst es) y → RelV y v → ∃ p ys jts, y = .ref p ∧ v = .ref p ∧ Xas H es ys ∧ Vals ys jts ∧ s.heap.IsList p jts.toArray := by
    intro es y v h r
    obtain ⟨p, ys, rfl, e, q⟩ := (show ∃ p xs, y = .ref p ∧ H p = some (.lst xs) ∧ Xas H es xs from h)
    obtain ⟨its, r1, t1, _⟩ := I.list (SqL.of e)
    exact ⟨p, ys, its, rfl, r, q, r1, t1.isList⟩
  have base : ∀ (d d' : Tx) (A : Around) (x y : V) (u v : Value), d.dp ≤ 0 → Xa H d x → Xa H d' y → RelV x u → RelV y v → A.units + d.dp < cLine → SeqAt.RcAt A s u v (decide (d = d')) ∧ SeqAt.RcNeAt A s u v (!decide (d = d')) := by
    intro d d' A x y u v hn hx hy ru rv hl
    have hl0 : A.units < cLine := by omega
    cases d with
    | tup ds => simp only [Tx.dp] at hn; omega
    | lst ds => simp only [Tx.dp] at hn; omega
    | non =>
      have ex : x = .non := hx
      subst ex
      have eu : u = .none := ru
      subst eu
      cases d' with
      | non =>
        have ey : y = .non := hy
        subst ey
        have ev : v = .none := rv
        subst ev
        rw [decide_eq_true rfl]
        exact ⟨SeqAt.RcAt.none_none, SeqAt.RcNeAt.none_none⟩
      | int i =>
        have ey : y = .int i := hy
        subst ey
        obtain ⟨t, rfl⟩ := rv
        rw [decide_eq_false (by intro z; cases z)]
        exact ⟨SeqAt.RcAt.none_int _ _, SeqAt.RcNeAt.none_int _ _⟩
      | str i =>
        have ey : y = .str i := hy
        subst ey
        obtain ⟨t, rfl⟩ := rv
        rw [decide_eq_false (by intro z; cases z)]
        exact ⟨SeqAt.RcAt.none_str _ _, SeqAt.RcNeAt.none_str _ _⟩
      | tup es =>
        obtain ⟨p, ys, jts, rfl, rfl, _, _, t⟩ := tupA hy rv
        rw [decide_eq_false (by intro z; cases z)]
        exact ⟨SeqAt.RcAt.none_tuple t hl0, SeqAt.RcNeAt.none_tuple t hl0⟩
      | lst es =>
        obtain ⟨p, ys, jts, rfl, rfl, _, _, t⟩ := lstA hy rv
        rw [decide_eq_false (by intro z; cases z)]
        exact ⟨SeqAt.RcAt.none_list t hl0, SeqAt.RcNeAt.none_list t hl0⟩
    | int j =>
      have ex : x = .int j := hx
      subst ex
      obtain ⟨t0, rfl⟩ := ru
      cases d' with
      | non =>
        have ey : y = .non := hy
        subst ey
        have ev : v = .none := rv
        subst ev
        rw [decide_eq_false (by intro z; cases z)]
        exact ⟨SeqAt.RcAt.int_none _ _, SeqAt.RcNeAt.int_none _ _⟩
      | int i =>
        have ey : y = .int i := hy
        subst ey
        obtain ⟨t, rfl⟩ := rv
        have e : decide (Tx.int j = Tx.int i) = (j == i) := by
          by_cases h : j = i
          · subst h; simp
          · rw [decide_eq_false (by intro z; cases z; exact h rfl), beq_eq_false_iff_ne.mpr h]
        rw [e]
        exact ⟨SeqAt.RcAt.int_int _ _ _ _, SeqAt.RcNeAt.int_int _ _ _ _⟩
      | str i =>
        have ey : y = .str i := hy
        subst ey
        obtain ⟨t, rfl⟩ := rv
        rw [decide_eq_false (by intro z; cases z)]
        exact ⟨SeqAt.RcAt.int_str _ _ _ _, SeqAt.RcNeAt.int_str _ _ _ _⟩
      | tup es =>
        obtain ⟨p, ys, jts, rfl, rfl, _, _, t⟩ := tupA hy rv
        rw [decide_eq_false (by intro z; cases z)]
        exact ⟨SeqAt.RcAt.int_tuple _ _ t hl0, SeqAt.RcNeAt.int_tuple _ _ t hl0⟩
      | lst es =>
        obtain ⟨p, ys, jts, rfl, rfl, _, _, t⟩ := lstA hy rv
        rw [decide_eq_false (by intro z; cases z)]
        exact ⟨SeqAt.RcAt.int_list _ _ t hl0, SeqAt.RcNeAt.int_list _ _ t hl0⟩
    | str j =>
      have ex : x = .str j := hx
      subst ex
      obtain ⟨t0, rfl⟩ := ru
      cases d' with
      | non =>
        have ey : y = .non := hy
        subst ey
        have ev : v = .none := rv
        subst ev
        rw [decide_eq_false (by intro z; cases z)]
        exact ⟨SeqAt.RcAt.str_none _ _, SeqAt.RcNeAt.str_none _ _⟩
      | int i =>
        have ey : y = .int i := hy
        subst ey
        obtain ⟨t, rfl⟩ := rv
        rw [decide_eq_false (by intro z; cases z)]
        exact ⟨SeqAt.RcAt.str_int _ _ _ _, SeqAt.RcNeAt.str_int _ _ _ _⟩
      | str i =>
        have ey : y = .str i := hy
        subst ey
        obtain ⟨t, rfl⟩ := rv
        have e : decide (Tx.str j = Tx.str i) = (j == i) := by
          by_cases h : j = i
          · subst h; simp
          · rw [decide_eq_false (by intro z; cases z; exact h rfl), beq_eq_false_iff_ne.mpr h]
        rw [e]
        exact ⟨SeqAt.RcAt.str_str _ _ _ _, SeqAt.RcNeAt.str_str _ _ _ _⟩
      | tup es =>
        obtain ⟨p, ys, jts, rfl, rfl, _, _, t⟩ := tupA hy rv
        rw [decide_eq_false (by intro z; cases z)]
        exact ⟨SeqAt.RcAt.str_tuple _ _ t hl0, SeqAt.RcNeAt.str_tuple _ _ t hl0⟩
      | lst es =>
        obtain ⟨p, ys, jts, rfl, rfl, _, _, t⟩ := lstA hy rv
        rw [decide_eq_false (by intro z; cases z)]
        exact ⟨SeqAt.RcAt.str_list _ _ t hl0, SeqAt.RcNeAt.str_list _ _ t hl0⟩
  induction n with
  | zero => exact fun d d' A x y u v hn => base d d' A x y u v (by omega)
  | succ n ih =>
    intro d d' A x y u v hn hx hy ru rv hl
    have hl0 : A.units < cLine := by omega
    cases d with
    | non => exact base _ d' A x y u v (Nat.le_refl _) hx hy ru rv hl
    | int _ => exact base _ d' A x y u v (Nat.le_refl _) hx hy ru rv hl
    | str _ => exact base _ d' A x y u v (Nat.le_refl _) hx hy ru rv hl
    | tup ds =>
      obtain ⟨p0, xs, its, rfl, rfl, q1, r1, t1⟩ := tupA hx ru
      simp only [Tx.dp] at hn hl
      cases d' with
      | non =>
        have ey : y = .non := hy
        subst ey
        have ev : v = .none := rv
        subst ev
        rw [decide_eq_false (by intro z; cases z)]
        exact ⟨SeqAt.RcAt.tuple_none t1 hl0, SeqAt.RcNeAt.tuple_none t1 hl0⟩
      | int i =>
        have ey : y = .int i := hy
        subst ey
        obtain ⟨t, rfl⟩ := rv
        rw [decide_eq_false (by intro z; cases z)]
        exact ⟨SeqAt.RcAt.tuple_int _ _ t1 hl0, SeqAt.RcNeAt.tuple_int _ _ t1 hl0⟩
      | str i =>
        have ey : y = .str i := hy
        subst ey
        obtain ⟨t, rfl⟩ := rv
        rw [decide_eq_false (by intro z; cases z)]
        exact ⟨SeqAt.RcAt.tuple_str _ _ t1 hl0, SeqAt.RcNeAt.tuple_str _ _ t1 hl0⟩
      | tup es =>
        obtain ⟨p, ys, jts, rfl, rfl, q2, r2, t2⟩ := tupA hy rv
        obtain ⟨l1, l2, he⟩ := seqX (A := A.in1) (s := s) (n := min n (xdps ds)) q1 q2 r1 r2 (by omega) fun d d' x y u v hd a b c e =>
          eq_of_rcX a b c e (ih d d' A.in1 x y u v (by omega) a b c e (by rw [in1_units]; omega)).1
        have g1 := SeqAt.RcAt.tuples (A := A) t1 t2 hl0 he
        have g2 := SeqAt.RcNeAt.tuples (A := A) t1 t2 hl0 he
        rw [l1, l2, all_dec, ← dec_tup] at g1
        rw [l1, l2, all_dec, ← dec_tup] at g2
        exact ⟨g1, g2⟩
      | lst es =>
        obtain ⟨p, ys, jts, rfl, rfl, _, _, t⟩ := lstA hy rv
        rw [decide_eq_false (by intro z; cases z)]
        exact ⟨SeqAt.RcAt.tuple_list t1 t hl0, SeqAt.RcNeAt.tuple_list t1 t hl0⟩
    | lst ds =>
      obtain ⟨p0, xs, its, rfl, rfl, q1, r1, t1⟩ := lstA hx ru
      simp only [Tx.dp] at hn hl
      cases d' with
      | non =>
        have ey : y = .non := hy
        subst ey
        have ev : v = .none := rv
        subst ev
        rw [decide_eq_false (by intro z; cases z)]
        exact ⟨SeqAt.RcAt.list_none t1 hl0, SeqAt.RcNeAt.list_none t1 hl0⟩
      | int i =>
        have ey : y = .int i := hy
        subst ey
        obtain ⟨t, rfl⟩ := rv
        rw [decide_eq_false (by intro z; cases z)]
        exact ⟨SeqAt.RcAt.list_int _ _ t1 hl0, SeqAt.RcNeAt.list_int _ _ t1 hl0⟩
      | str i =>
        have ey : y = .str i := hy
        subst ey
        obtain ⟨t, rfl⟩ := rv
        rw [decide_eq_false (by intro z; cases z)]
        exact ⟨SeqAt.RcAt.list_str _ _ t1 hl0, SeqAt.RcNeAt.list_str _ _ t1 hl0⟩
      | tup es =>
        obtain ⟨p, ys, jts, rfl, rfl, _, _, t⟩ := tupA hy rv
        rw [decide_eq_false (by intro z; cases z)]
        exact ⟨SeqAt.RcAt.list_tuple t1 t hl0, SeqAt.RcNeAt.list_tuple t1 t hl0⟩
      | lst es =>
        obtain ⟨p, ys, jts, rfl, rfl, q2, r2, t2⟩ := lstA hy rv
        obtain ⟨l1, l2, he⟩ := seqX (A := A.in1) (s := s) (n := min n (xdps ds)) q1 q2 r1 r2 (by omega) fun d d' x y u v hd a b c e =>
          eq_of_rcX a b c e (ih d d' A.in1 x y u v (by omega) a b c e (by rw [in1_units]; omega)).1
        by_cases hz : ds.length = es.length
        · have g1 := SeqAt.RcAt.lists (A := A) t1 t2 (by rw [l1, l2, hz]) hl0 he
          have g2 := SeqAt.RcNeAt.lists (A := A) t1 t2 (by rw [l1, l2, hz]) hl0 he
          have e : (List.range its.toArray.size).all (fun j => decide (ds[j]? = es[j]?)) = decide (Tx.lst ds = Tx.lst es) := by
            have := all_dec ds es
            rw [hz, Nat.min_self, beq_self_eq_true, Bool.and_true] at this
            rw [l1, hz, this, dec_lst]
          rw [e] at g1
          rw [e] at g2
          exact ⟨g1, g2⟩
        · have hz' : (its.toArray.size != jts.toArray.size) = true := by rw [l1, l2]; simp [hz]
          rw [decide_eq_false (by intro z; cases z; exact hz rfl)]
          exact ⟨SeqAt.RcAt.lists_lengths t1 t2 hz' hl0, SeqAt.RcNeAt.lists_lengths t1 t2 hz' hl0⟩
theorem eqX (I : Inv X pins σ H s) {d d' : Tx} {A : Around} {x y : V} {u v : Value} (hx : Xa H d x) (hy : Xa H d' y) (ru : RelV x u) (rv : RelV y v) (hl : A.units + d.dp < cLine) : SeqAt.EqAt A s u v (decide (d = d')) :=
  eq_of_rcX hx hy ru rv (rcX_n I d.dp d d' A x y u v (Nat.le_refl _) hx hy ru rv hl).1
end
section
variable {X : Cx}
def rEqX : R2 := fun x y H Q => ∃ k k' : Tx, Xa H k x ∧ Xa H k' y ∧ k.dp ≤ 60 ∧ Q (.bl (decide (k = k'))) H
def rNeX : R2 := fun x y H Q => ∃ k k' : Tx, Xa H k x ∧ Xa H k' y ∧ k.dp ≤ 60 ∧ Q (.bl (!decide (k = k'))) H
theorem op_eqX (hu : X.A.units + 64 < cLine) : OpR X (compareOp .Eq) rEqX := by
  intro pins s σ H x y v u Q I rx ry h
  obtain ⟨k, k', h1, h2, hd, q⟩ := h
  exact (rcX_n I k.dp k k' X.A x y v u (Nat.le_refl _) h1 h2 rx ry (by omega)).1 _ _ _ _ ⟨.bl _, H, I, rfl, q⟩
theorem op_neX (hu : X.A.units + 64 < cLine) : OpR X (compareOp .NotEq) rNeX := by
  intro pins s σ H x y v u Q I rx ry h
  obtain ⟨k, k', h1, h2, hd, q⟩ := h
  exact (rcX_n I k.dp k k' X.A x y v u (Nat.le_refl _) h1 h2 rx ry (by omega)).2 _ _ _ _ ⟨.bl _, H, I, rfl, q⟩
end
def Kd.tx : Kd → Tx
  | .nm x => .str x
  | .two a b => .tup [.str "both", a.tx, b.tx]
  | .som r c => .tup [.str "some", .str r, c.tx]
theorem IsK.xa {H : Hp} : ∀ {k : Kd} {v : V}, IsK H k v → Xa H k.tx v
  | .nm _, _, h => h
  | .two _ _, _, ⟨p, x, y, e, h, ha, hb⟩ => ⟨p, _, e, h, _, _, rfl, rfl, _, _, rfl, ha.xa, _, _, rfl, hb.xa, rfl⟩
  | .som _ _, _, ⟨p, y, e, h, hc⟩ => ⟨p, _, e, h, _, _, rfl, rfl, _, _, rfl, rfl, _, _, rfl, hc.xa, rfl⟩
theorem Kd.tx_inj : ∀ {a b : Kd}, a.tx = b.tx → a = b
  | .nm _, .nm _, h => by injection h with h; rw [h]
  | .nm _, .two _ _, h => by cases h
  | .nm _, .som _ _, h => by cases h
  | .two _ _, .nm _, h => by cases h
  | .som _ _, .nm _, h => by cases h
  | .two _ _, .two _ _, h => by
    injection h with h
    injection h with _ h
    injection h with h1 h
    injection h with h2 _
    rw [Kd.tx_inj h1, Kd.tx_inj h2]
  | .two _ _, .som _ _, h => by
    injection h with h
    injection h with h _
    injection h with h
    exact absurd h both_ne_some
  | .som _ _, .two _ _, h => by
    injection h with h
    injection h with h _
    injection h with h
    exact absurd h.symm both_ne_some
  | .som _ _, .som _ _, h => by
    injection h with h
    injection h with _ h
    injection h with h1 h
    injection h with h2 _
    injection h1 with h1
    rw [h1, Kd.tx_inj h2]
theorem Kd.tx_dp : ∀ k : Kd, k.tx.dp = k.dep
  | .nm _ => rfl
  | .two a b => by
    show 1 + max 0 (max a.tx.dp (max b.tx.dp 0)) = 1 + max a.dep b.dep
    rw [tx_dp a, tx_dp b]; omega
  | .som _ c => by
    show 1 + max 0 (max 0 (max c.tx.dp 0)) = 1 + c.dep
    rw [tx_dp c]; omega
end L2
namespace L2
open PySem PySem.Spec PyProof.Rows
theorem pg_pair {X : Cx} {K' : PySem.W.Frag} {i j : Nat} {x y : Str} {p1 p2 pos : Pos} {k : Nat} (hK : X.K = K') (hc : X.calm = true) (hN : X.N.Nodup) (hi : X.N[i]? = some x) (hj : X.N[j]? = some y) (lx : X.env.scope.names.lookup x = some .local) (ly : X.env.scope.names.lookup y = some .local) :
    PG X (.Tuple [.Name x p1, .Name y p2] k pos) (gTup K' 2 (gCons (gName i) (gCons (gName j) gNil))) := by
  subst hK
  exact pg_tup hc (pgs_cons (pg_name hN hi (.inl lx) (.inr lx)) (pgs_cons (pg_name hN hj (.inl ly) (.inr ly)) pgs_nil))
end L2
namespace L2
open PySem PySem.Spec PyProof.Rows
section
variable {X : Cx} {pins : List (Addr × Obj)} {σ : St} {H : Hp} {s : Shared}
end
section
variable {X : Cx}
end
end L2
namespace L2
open PySem PySem.Spec PyProof.Rows
section
variable {prog : Program} {w : World} {A : Around} {E : Value → Shared → Prop} {s : Shared}
end
section
variable {prog : Program} {w : World} {κ : Type} [DecidableEq κ] {knd : KeyKind prog w κ}
end
section
variable {X : Cx}
end
end L2
namespace L2
open PySem PySem.Spec PyProof.Rows
section
variable {prog : Program} {w : World}
end
section
variable {X : Cx} {o e f : Expr} {apos cpos : Pos} {td ty tx : TE}
def rIsUpper : V → List V → Hp → VK → Prop := fun x vs H Q => ∃ z, x = .str z ∧ vs = [] ∧ Q (.bl (Txt.isupper z)) H
theorem mt_isupper : MtR X "str.isupper" rIsUpper := by
  intro pins s σ H x xs v us Q I rx rs h
  obtain ⟨z, rfl, rfl, q⟩ := h
  obtain ⟨t, rfl⟩ := rx
  cases rs
  exact SC.isupper ⟨.bl (Txt.isupper z), H, I, rfl, q⟩
end
section
variable {prog : Program} {w : World} {A : Around} {E : Value → Shared → Prop}
end
section
variable {X : Cx}
end
end L2
namespace L2
open PySem PySem.Spec PyProof.Rows
section
variable {X : Cx} {tg iter kx vx tg2 iter2 : Expr} {ifs ifs2 : List Expr} {scope : Scope} {pos : Pos} {wi wi2 : TI} {g g2 : TG} {tc tc2 : TT} {tk tv : TE} {locs cs : List Str} {caps : List Nat}
end
end L2
namespace L2
open PySem PySem.Spec PyProof.Rows
section
variable {prog : Program} {w : World} {A : Around} {E : Value → Shared → Prop} {s : Shared}
theorem getItem_tuple_whole {t sl : Addr} {items : Array Value} {vl vu : Value} {lo hi : Option Int} {Q : Value → Shared → Prop} (ht : IsTup s.heap t items) (hs : s.heap.IsSliceOf sl vl vu .none) (pl : IsPart vl lo) (pu : IsPart vu hi)
    (hw : HT.sIx items.size 0 lo = 0 ∧ HT.sIx items.size items.size hi = items.size) (h : Q (.ref t) s) : wpAny (model prog w) A (getItem (.ref t) (.ref sl)) Q E s := by
  obtain ⟨os, hos, hcs, hds⟩ := id hs
  have hTs : s.TypeIs (.ref sl) "slice" := ⟨os, hos, hcs⟩
  unfold getItem
  try with_reducible refine wpAny_holding ?_
  first | refine wpAny_bind (wpAny_pure ?_) | skip
  refine wpAny_bind (wpAny_sequenceKey ht.typeIs (by decide) ?_)
  refine wpAny_bind (wpAny_callSpecial?_slot (name := Str.ofString "__getitem__") ht.typeIs PyProof.Rows.slot_tuple_getitem
    (wpAny_call_entry PyProof.Rows.slot_tuple_getitem ht.typeIs entry_tuple_getitem ?_ (args_tuple_getitem _ _)))
  show wpAny _ _ (Builtin.Tuple.tupleItemsOf (.ref t) >>= _) _ _ s
  refine wpAny_bind (tupleItemsOf_ ht ?_)
  refine wpAny_bind (wpAny_typeOf hTs ?_)
  rw [if_pos (by decide)]
  refine wpAny_bind (HT.sliceApplied_gen hs pl pu ?_)
  have hyes : ((((HT.sIx items.size 0 lo : Nat) : Int) == 0 && (1 : Int) == 1 && (HT.sIx items.size items.size hi - HT.sIx items.size 0 lo) == items.size) = true) := by
    rw [hw.1, hw.2]; simp
  show wpAny _ _ (if (((HT.sIx items.size 0 lo : Nat) : Int) == 0 && (1 : Int) == 1 && (HT.sIx items.size items.size hi - HT.sIx items.size 0 lo) == items.size) = true then _ else _) _ _ s
  rw [if_pos hyes]
  obtain ⟨o, ho, hc, r⟩ := id ht
  have hT : s.TypeIs (.ref t) "tuple" := ht.typeIs
  repeat (any_goals (first | assumption | wp_step))
  exact ⟨_, rfl, wpAny_pure h⟩
end
section
variable {X : Cx}
def rSlW (K : PySem.W.Frag) : V → Option Int → Option Int → Hp → VK → Prop := fun x lo hi H Q => ∃ a xs, x = .ref a ∧ SqT K H a xs ∧
  ((HT.sIx xs.length 0 lo = 0 ∧ HT.sIx xs.length xs.length hi = xs.length) → Q (.ref a) H) ∧
  (¬ (HT.sIx xs.length 0 lo = 0 ∧ HT.sIx xs.length xs.length hi = xs.length) → ∀ p, H p = none → Q (.ref p) (upd H p (.tup (cutV xs lo hi))))
theorem sl_tupW : SlR X (rSlW X.K) := by
  intro pins s σ H x v vl vu lo hi sl Q I rx hs pl pu h
  obtain ⟨a, xs, rfl, hx, q1, q2⟩ := h
  by_cases hw : HT.sIx xs.length 0 lo = 0 ∧ HT.sIx xs.length xs.length hi = xs.length
  · cases rx
    obtain ⟨its, r, ht, hz⟩ := I.tuple hx
    have hlen : its.toArray.size = xs.length := by rw [List.size_toArray]; exact r.length.symm
    refine ⟨"tuple", _, PyProof.Rows.slot_tuple_getitem.lookup, ht.typeIs, ?_⟩
    exact getItem_tuple_whole ht hs pl pu (by rw [hlen]; exact hw) ⟨.ref a, H, I, rfl, q1 hw⟩
  · exact sl_tup pins s σ H _ v vl vu lo hi sl Q I rx hs pl pu ⟨a, xs, rfl, hx, hw, q2 hw⟩
end
end L2
namespace L2
open PySem PySem.Spec PyProof.Rows
theorem vals_pick {xs : List V} {its : List Value} (r : Vals xs its) : ∀ idx : List Nat, ∃ ys, Vals ys (idx.filterMap (its.toArray[·]?)) ∧ ∀ y ∈ ys, y ∈ xs
  | [] => ⟨[], .nil, fun _ h => (List.not_mem_nil h).elim⟩
  | i :: idx => by
    obtain ⟨ys, v, m⟩ := vals_pick r idx
    cases c : xs[i]? with
    | none =>
      have e := Vals.none_of r c
      refine ⟨ys, ?_, m⟩
      rw [List.filterMap_cons, show its.toArray[i]? = none by rw [List.getElem?_toArray]; exact e]
      exact v
    | some x =>
      obtain ⟨u, eu, ru⟩ := Vals.get r c
      refine ⟨x :: ys, ?_, fun y hy => ?_⟩
      · rw [List.filterMap_cons, show its.toArray[i]? = some u by rw [List.getElem?_toArray]; exact eu]
        exact .cons ru v
      · rcases List.mem_cons.mp hy with rfl | hy
        · exact List.mem_of_getElem? c
        · exact m y hy
section
variable {X : Cx}
end
end L2
namespace K23
open PySem L2
def top (i : Nat) : Stmt := PySem.Challenge.pw_kinwords_k23_papers.main.body.getD i (.Pass ⟨0, 0, 0, 0⟩)
abbrev sCell : Stmt := top 13
abbrev sDraw : Stmt := top 14
abbrev sWords : Stmt := top 15
abbrev sThings : Stmt := top 16
abbrev sKind : Stmt := top 17
abbrev sSaying : Stmt := top 18
abbrev sNumbered : Stmt := top 19
abbrev sSingle : Stmt := top 20
abbrev sSize : Stmt := top 21
abbrev sWaysK : Stmt := top 22
abbrev sWaysT : Stmt := top 23
abbrev sPlain : Stmt := top 24
abbrev sGrown : Stmt := top 25
abbrev sCopy : Stmt := top 30
abbrev sPlace : Stmt := top 9
abbrev sNeeded : Stmt := top 10
abbrev sPaper : Stmt := top 11
abbrev sWhole : Stmt := top 26
abbrev sKindly : Stmt := top 27
abbrev sClaim : Stmt := top 28
abbrev sAre : Stmt := top 29
abbrev sNeed : Stmt := top 31
abbrev sDue : Stmt := top 32
abbrev sRefused : Stmt := top 33
abbrev sStrange : Stmt := top 34
abbrev sLaw : Stmt := top 35
abbrev sInit : Stmt := inClass (top 3) 0
theorem small2 {n : Nat} (h : n ≤ 1000) : n ≤ sizeLine := Nat.le_of_lt (small1000 h)
theorem same_upd {H H' : Hp} {p : Addr} {o : HO} (h : Same H H') (hp : H p = none) : Same H (upd H' p o) := fun b u q => by
  rw [upd_ne (ne_of_none q hp)]
  exact h b u q
theorem none_of_same {H H' : Hp} {p : Addr} (h : Same H H') (hp : H' p = none) : H p = none := by
  cases c : H p with
  | none => rfl
  | some oo => rw [h _ _ c] at hp; cases hp
structure Kp (L : List Addr) (H H' : Hp) : Prop where
  but : ∀ c o, c ∉ L → H c = some o → H' c = some o
  tups : Tups H H'
theorem Kp.refl (L : List Addr) (H : Hp) : Kp L H H := ⟨fun _ _ _ h => h, Tups.refl H⟩
theorem Kp.trans {L : List Addr} {H H1 H2 : Hp} (a : Kp L H H1) (b : Kp L H1 H2) : Kp L H H2 := ⟨fun c o h e => b.but c o h (a.but c o h e), a.tups.trans b.tups⟩
theorem Kp.of {L : List Addr} {H H1 : Hp} (s : Same H H1) : Kp L H H1 := ⟨fun c o _ e => s c o e, s.tups⟩
theorem Kp.lst {L : List Addr} {H : Hp} {l : Addr} {xs : List V} {o : HO} (hl : l ∈ L) (e : H l = some (.lst xs)) : Kp L H (upd H l o) :=
  ⟨fun c u hc h => by rw [upd_ne (show c ≠ l from fun z => hc (by rw [z]; exact hl))]; exact h, tups_lst e⟩
theorem Kp.mono {L L' : List Addr} {H H1 : Hp} (a : Kp L H H1) (h : ∀ x ∈ L, x ∈ L') : Kp L' H H1 := ⟨fun c o hc e => a.but c o (fun z => hc (h c z)) e, a.tups⟩
inductive Fa where
  | is (x k : Kd)
  | has (x : Kd) (t : Str) (y : Kd)
  deriving DecidableEq
def Fa.x : Fa → Kd
  | .is x _ => x
  | .has x _ _ => x
def Fa.tx : Fa → Tx
  | .is x k => .tup [.str "is", x.tx, k.tx]
  | .has x t y => .tup [.str "has", x.tx, .str t, y.tx]
def IsF (H : Hp) : Fa → V → Prop
  | .is x k, v => ∃ (p : Addr) (a b : V), v = .ref p ∧ H p = some (.tup [.str "is", a, b]) ∧ IsK H x a ∧ IsK H k b
  | .has x t y, v => ∃ (p : Addr) (a b : V), v = .ref p ∧ H p = some (.tup [.str "has", a, .str t, b]) ∧ IsK H x a ∧ IsK H y b
theorem IsF.mono {H H' : Hp} (t : Tups H H') : ∀ {f : Fa} {v : V}, IsF H f v → IsF H' f v
  | .is _ _, _, ⟨p, a, b, e, h, ha, hb⟩ => ⟨p, a, b, e, t _ _ h, ha.mono t, hb.mono t⟩
  | .has _ _ _, _, ⟨p, a, b, e, h, ha, hb⟩ => ⟨p, a, b, e, t _ _ h, ha.mono t, hb.mono t⟩
theorem IsF.xa {H : Hp} : ∀ {f : Fa} {v : V}, IsF H f v → Xa H f.tx v
  | .is _ _, _, ⟨p, a, b, e, h, ha, hb⟩ => ⟨p, _, e, h, _, _, rfl, rfl, _, _, rfl, ha.xa, _, _, rfl, hb.xa, rfl⟩
  | .has _ _ _, _, ⟨p, a, b, e, h, ha, hb⟩ => ⟨p, _, e, h, _, _, rfl, rfl, _, _, rfl, ha.xa, _, _, rfl, rfl, _, _, rfl, hb.xa, rfl⟩
theorem Fa.tx_inj : ∀ {a b : Fa}, a.tx = b.tx → a = b
  | .is _ _, .is _ _, h => by
    injection h with h
    injection h with _ h
    injection h with h1 h
    injection h with h2 _
    rw [Kd.tx_inj h1, Kd.tx_inj h2]
  | .is _ _, .has _ _ _, h => by
    injection h with h
    injection h with _ h
    injection h with _ h
    injection h with _ h
    cases h
  | .has _ _ _, .is _ _, h => by
    injection h with h
    injection h with _ h
    injection h with _ h
    injection h with _ h
    cases h
  | .has _ _ _, .has _ _ _, h => by
    injection h with h
    injection h with _ h
    injection h with h1 h
    injection h with h2 h
    injection h with h3 _
    injection h2 with h2
    rw [Kd.tx_inj h1, h2, Kd.tx_inj h3]
def Fa.lo (n : Nat) : Fa → Prop
  | .is x k => x.dep ≤ n ∧ k.dep ≤ n
  | .has x _ y => x.dep ≤ n ∧ y.dep ≤ n
theorem Fa.dp {n : Nat} : ∀ {f : Fa}, f.lo n → f.tx.dp ≤ n + 1
  | .is x k, h => by
    have h1 : x.dep ≤ n ∧ k.dep ≤ n := h
    show 1 + max 0 (max x.tx.dp (max k.tx.dp 0)) ≤ n + 1
    rw [Kd.tx_dp, Kd.tx_dp]; omega
  | .has x t y, h => by
    have h1 : x.dep ≤ n ∧ y.dep ≤ n := h
    show 1 + max 0 (max x.tx.dp (max 0 (max y.tx.dp 0))) ≤ n + 1
    rw [Kd.tx_dp, Kd.tx_dp]; omega
theorem Fa.dp60 {f : Fa} (h : f.lo 8) : f.tx.dp ≤ 60 := Nat.le_trans (Fa.dp h) (by decide)
inductive Ru where
  | self | all | thing | tied | every | first | second | some | within | no | both | tie | none | makes | oth
  deriving DecidableEq
def ruS : Ru → Str
  | .self => "self" | .all => "all" | .thing => "thing" | .tied => "tied" | .every => "every" | .first => "first" | .second => "second" | .some => "some"
  | .within => "within" | .no => "no" | .both => "both" | .tie => "tie" | .none => "none" | .makes => "makes" | .oth => ""
def ruL : List Ru := [.self, .all, .thing, .tied, .every, .first, .second, .some, .within, .no, .both, .tie, .none, .makes]
theorem ruL_all : ∀ r : Ru, r ≠ .oth → r ∈ ruL := by intro r h; cases r <;> first | exact absurd rfl h | decide
theorem ruS_inj : ∀ a ∈ ruL, ∀ b ∈ ruL, ruS a = ruS b → a = b := by decide +kernel
def IsRu (r : Ru) (z : Str) : Prop := (r ≠ .oth ∧ z = ruS r) ∨ (r = .oth ∧ ∀ q ∈ ruL, z ≠ ruS q)
theorem IsRu.dec {r q : Ru} {z : Str} (h : IsRu r z) (hq : q ≠ .oth) : decide (V.str z = V.str (ruS q)) = decide (r = q) := by
  have hl := ruL_all q hq
  rcases h with ⟨hr, rfl⟩ | ⟨rfl, hn⟩
  · by_cases e : r = q
    · subst e; simp
    · rw [decide_eq_false e, decide_eq_false]
      intro z
      injection z with z
      exact e (ruS_inj _ (ruL_all r hr) _ hl z)
  · rw [decide_eq_false (show ¬ V.str z = V.str (ruS q) from fun y => by injection y with y; exact hn q hl y), decide_eq_false (show ¬ Ru.oth = q from fun y => hq y.symm)]
theorem IsRu.of {r : Ru} (h : r ≠ .oth) : IsRu r (ruS r) := .inl ⟨h, rfl⟩
inductive Sy where
  | every (a b : Kd) | no (a b : Kd) | thing (x : Str) (k : Kd) | tied (x t y : Str) | within (r s : Str) | makes (r s t : Str)
  deriving DecidableEq
def Sy.hd : Sy → Ru
  | .every _ _ => .every | .no _ _ => .no | .thing _ _ => .thing | .tied _ _ _ => .tied | .within _ _ => .within | .makes _ _ _ => .makes
theorem Sy.hd_ne (s : Sy) : s.hd ≠ .oth := by cases s <;> (intro z; cases z)
def Sy.parts : Sy → List Kd
  | .every a b => [a, b] | .no a b => [a, b] | .thing x k => [.nm x, k] | .tied x t y => [.nm x, .nm t, .nm y] | .within r s => [.nm r, .nm s] | .makes r s t => [.nm r, .nm s, .nm t]
def IsSy (H : Hp) (s : Sy) (v : V) : Prop := ∃ (p : Addr) (xs : List V), v = .ref p ∧ H p = some (.tup (.str (ruS s.hd) :: xs)) ∧ KL H xs s.parts
theorem IsSy.mono {H H' : Hp} (t : Tups H H') {s : Sy} {v : V} (h : IsSy H s v) : IsSy H' s v := by
  obtain ⟨p, xs, e, h1, h2⟩ := h
  exact ⟨p, xs, e, t _ _ h1, KL.mono t h2⟩
def Sy.tx (s : Sy) : Tx := .tup (.str (ruS s.hd) :: s.parts.map Kd.tx)
theorem KL.xas {H : Hp} : ∀ {xs : List V} {ks : List Kd}, KL H xs ks → Xas H (ks.map Kd.tx) xs
  | _, _, .nil => rfl
  | _, _, .cons r t => ⟨_, _, rfl, r.xa, KL.xas t⟩
theorem IsSy.xa {H : Hp} {s : Sy} {v : V} (h : IsSy H s v) : Xa H s.tx v := by
  obtain ⟨p, xs, e, h1, h2⟩ := h
  exact ⟨p, _, e, h1, _, _, rfl, rfl, KL.xas h2⟩
def Sy.lo (n : Nat) (s : Sy) : Prop := ∀ k ∈ s.parts, k.dep ≤ n
theorem Sy.dp60 {s : Sy} (h : s.lo 8) : s.tx.dp ≤ 60 := by
  have : xdps (Tx.str (ruS s.hd) :: s.parts.map Kd.tx) ≤ 8 := xdps_le fun d hd => by
    rcases List.mem_cons.mp hd with rfl | hd
    · exact Nat.zero_le _
    · obtain ⟨k, hk, rfl⟩ := List.mem_map.mp hd
      rw [Kd.tx_dp]
      exact h k hk
  show 1 + _ ≤ 60
  omega
structure Stp where
  f : Fa
  r : Str
  fr : List Int
  n : Option Int
def numV : Option Int → V
  | none => .non
  | some i => .int i
def IsStp (L : List Addr) (H : Hp) (s : Stp) (v : V) : Prop := ∃ (p pf : Addr) (vf : V), v = .ref p ∧ H p = some (.tup [vf, .str s.r, .ref pf, numV s.n]) ∧ IsF H s.f vf ∧ H pf = some (.lst (s.fr.map V.int)) ∧ pf ∉ L
theorem IsStp.keep {L : List Addr} {H H' : Hp} (k : Kp L H H') {s : Stp} {v : V} (h : IsStp L H s v) : IsStp L H' s v := by
  obtain ⟨p, pf, vf, e, h1, h2, h3, h4⟩ := h
  exact ⟨p, pf, vf, e, k.tups _ _ h1, h2.mono k.tups, k.but _ _ h4 h3, h4⟩
theorem IsStp.loose {L : List Addr} {H : Hp} {s : Stp} {v : V} (h : IsStp L H s v) : IsStp [] H s v := by
  obtain ⟨p, pf, vf, e, h1, h2, h3, h4⟩ := h
  exact ⟨p, pf, vf, e, h1, h2, h3, by simp⟩
def numX : Option Int → Tx
  | none => .non
  | some i => .int i
theorem numX_xa {H : Hp} : ∀ n : Option Int, Xa H (numX n) (numV n)
  | none => rfl
  | some _ => rfl
def Stp.tx (s : Stp) : Tx := .tup [s.f.tx, .str s.r, .lst (s.fr.map Tx.int), numX s.n]
theorem ints_xas {H : Hp} : ∀ l : List Int, Xas H (l.map Tx.int) (l.map V.int)
  | [] => rfl
  | _ :: l => ⟨_, _, rfl, rfl, ints_xas l⟩
theorem IsStp.xa {L : List Addr} {H : Hp} {s : Stp} {v : V} (h : IsStp L H s v) : Xa H s.tx v := by
  obtain ⟨p, pf, vf, e, h1, h2, h3, h4⟩ := h
  exact ⟨p, _, e, h1, _, _, rfl, h2.xa, _, _, rfl, rfl, _, _, rfl, ⟨pf, _, rfl, h3, ints_xas _⟩, _, _, rfl, numX_xa _, rfl⟩
def StL (L : List Addr) (H : Hp) : List V → List Stp → Prop := Paired fun v s => IsStp L H s v
theorem StL.keep {L : List Addr} {H H' : Hp} (k : Kp L H H') {xs : List V} {ss : List Stp} (h : StL L H xs ss) : StL L H' xs ss := Paired.imp' (fun _ _ q => IsStp.keep k q) h
theorem StL.loose {L : List Addr} {H : Hp} {xs : List V} {ss : List Stp} (h : StL L H xs ss) : StL [] H xs ss := Paired.imp' (fun _ _ q => IsStp.loose q) h
theorem StL.len {L : List Addr} {H : Hp} {xs : List V} {ss : List Stp} (h : StL L H xs ss) : xs.length = ss.length := Paired.length h
theorem paired_app {α β : Type} {R : α → β → Prop} : ∀ {xs ys : List α} {ks ls : List β}, Paired R xs ks → Paired R ys ls → Paired R (xs ++ ys) (ks ++ ls)
  | _, _, _, _, .nil, s => s
  | _, _, _, _, .cons r t, s => .cons r (paired_app t s)
theorem paired_get {α β : Type} {R : α → β → Prop} : ∀ {xs : List α} {ks : List β} {i : Nat} {v : α}, Paired R xs ks → xs[i]? = some v → ∃ k, ks[i]? = some k ∧ R v k
  | _, _, _, _, .nil, e => by simp at e
  | _, _, 0, _, .cons r _, e => by simp at e; subst e; exact ⟨_, rfl, r⟩
  | _, _, i + 1, v, .cons _ t, e => by
    obtain ⟨u, h1, h2⟩ := paired_get (i := i) (v := v) t (by simpa using e)
    exact ⟨u, by simpa using h1, h2⟩
theorem paired_get2 {α β : Type} {R : α → β → Prop} : ∀ {xs : List α} {ks : List β} {i : Nat} {k : β}, Paired R xs ks → ks[i]? = some k → ∃ v, xs[i]? = some v ∧ R v k
  | _, _, _, _, .nil, e => by simp at e
  | _, _, 0, _, .cons r _, e => by simp at e; subst e; exact ⟨_, rfl, r⟩
  | _, _, i + 1, v, .cons _ t, e => by
    obtain ⟨u, h1, h2⟩ := paired_get2 (i := i) (k := v) t (by simpa using e)
    exact ⟨u, by simpa using h1, h2⟩
theorem StL.xas {L : List Addr} {H : Hp} : ∀ {xs : List V} {ss : List Stp}, StL L H xs ss → Xas H (ss.map Stp.tx) xs
  | _, _, .nil => rfl
  | _, _, .cons r t => ⟨_, _, rfl, r.xa, StL.xas t⟩
def IsPr (H : Hp) (q : Int × Sy) (v : V) : Prop := ∃ (p : Addr) (vs : V), v = .ref p ∧ H p = some (.tup [.int q.1, vs]) ∧ IsSy H q.2 vs
theorem IsPr.mono {H H' : Hp} (t : Tups H H') {q : Int × Sy} {v : V} (h : IsPr H q v) : IsPr H' q v := by
  obtain ⟨p, vs, e, h1, h2⟩ := h
  exact ⟨p, vs, e, t _ _ h1, h2.mono t⟩
def PrL (H : Hp) : List V → List (Int × Sy) → Prop := Paired fun v q => IsPr H q v
theorem PrL.mono {H H' : Hp} (t : Tups H H') {xs : List V} {qs : List (Int × Sy)} (h : PrL H xs qs) : PrL H' xs qs := Paired.imp' (fun _ _ q => IsPr.mono t q) h
end K23
namespace K23
open PySem L2
theorem kit_str_str (K : PySem.W.Frag) : PySem.W.kitOne K (.type "str") (.type "str") = some true := rfl
theorem kit_tup_str (K : PySem.W.Frag) : PySem.W.kitOne K (.type "tuple") (.type "str") = some false := by
  first | rfl | decide | with_unfolding_all rfl
section
variable {P : Program} {w : World} {K : PySem.W.Frag} {mg : Str → Option Value} {base : Heap} {f g e : Addr} {fd gd ed : FuncData}
end
end K23
namespace L2
open PySem PySem.Spec PyProof.Rows
end L2
namespace K23
open PySem L2
section
variable {P : Program} {w : World} {K : PySem.W.Frag} {mg : Str → Option Value} {base : Heap} {f g e d a1 a2 a3 a4 aW aF : Addr} {fd gd' ed dd d1 d2 d3 d4 : FuncData}
end
end K23
namespace K23
open PySem L2
theorem cut1 (x : V) (xs : List V) : cutV (x :: xs) (some 1) none = xs := by
  have h1 : HT.sIx (x :: xs).length 0 (some ((1 : Nat) : Int)) = 1 := by rw [HT.sIx_nat]; simp only [List.length_cons]; omega
  have h2 : HT.sIx (x :: xs).length (x :: xs).length none = (x :: xs).length := rfl
  unfold cutV
  rw [show (some 1 : Option Int) = some ((1 : Nat) : Int) from rfl, h1, h2]
  simp
theorem sIx1 (x : V) (xs : List V) : ¬ (HT.sIx (x :: xs).length 0 (some 1) = 0 ∧ HT.sIx (x :: xs).length (x :: xs).length none = (x :: xs).length) := by
  have h1 : HT.sIx (x :: xs).length 0 (some ((1 : Nat) : Int)) = 1 := by rw [HT.sIx_nat]; simp only [List.length_cons]; omega
  rw [show (some 1 : Option Int) = some ((1 : Nat) : Int) from rfl, h1]
  omega
section
variable {P : Program} {w : World} {K : PySem.W.Frag} {mg : Str → Option Value} {base : Heap} {f g e d a1 a2 a3 a4 aW aF : Addr} {fd gd' ed dd d1 d2 d3 d4 : FuncData}
end
end K23
namespace K23
open PySem L2
def smallC (c : Nat) : Bool := decide (97 ≤ c ∧ c ≤ 122)
def bigC (c : Nat) : Bool := decide (65 ≤ c ∧ c ≤ 90)
def fits (z : Str) : Bool := decide (1 ≤ z.length) && decide (z.length ≤ 12)
def thingB (z : Str) : Bool := fits z && (match z.cps.toList with | [] => false | c :: r => bigC c && r.all smallC)
section
variable {P : Program} {w : World} {K : PySem.W.Frag} {mg : Str → Option Value} {base : Heap} {f g : Addr} {fd gd : FuncData}
end
end K23
namespace K23
open PySem L2
def nothK : Kd := .nm "nothing"
def mThing : Option Sy → Option Fa
  | some (.thing x k) => some (.is (.nm x) k)
  | _ => none
def mTied : Option Sy → Option Fa
  | some (.tied x t y) => some (.has (.nm x) t (.nm y))
  | _ => none
def mEvery1 (f : Fa) : Option Sy → Option Fa
  | some (.every a b) => if f = .is f.x a then some (.is f.x b) else none
  | _ => none
def mFirst1 : Fa → Option Fa
  | .is x (.two a _) => some (.is x a)
  | _ => none
def mSecond1 : Fa → Option Fa
  | .is x (.two _ b) => some (.is x b)
  | _ => none
def mSome1 : Fa → Option Fa
  | .is x (.som r c) => some (.has x r c)
  | _ => none
def mWithin1 : Fa → Option Sy → Option Fa
  | .has x t y, some (.within r s) => if t = r then some (.has x s y) else none
  | _, _ => none
def mNo2 (f g : Fa) : Option Sy → Option Fa
  | some (.no a b) => if f = .is f.x a ∧ g = .is f.x b then some (.is f.x nothK) else none
  | _ => none
def mBoth2 : Fa → Fa → Option Fa
  | .is x k, .is y l => if x = y then some (.is x (.two k l)) else none
  | _, _ => none
def mTie2 : Fa → Fa → Option Fa
  | .has x t y, .is z k => if y = z then some (.is x (.som t k)) else none
  | _, _ => none
def mNone2 : Fa → Fa → Option Fa
  | .has x _ y, g => if g = .is y nothK then some (.is x nothK) else none
  | _, _ => none
def mMakes2 : Fa → Fa → Option Sy → Option Fa
  | .has x t y, .has z u v, some (.makes r s q) => if y = z then (if t = r ∧ u = s then some (.has x q v) else none) else none
  | _, _, _ => none
def made1 (r : Ru) (f : Fa) (sy : Option Sy) : Option Fa :=
  match r with
  | .every => mEvery1 f sy | .first => mFirst1 f | .second => mSecond1 f | .some => mSome1 f | .within => mWithin1 f sy | _ => none
def made2 (r : Ru) (f g : Fa) (sy : Option Sy) : Option Fa :=
  match r with
  | .no => mNo2 f g sy | .both => mBoth2 f g | .tie => mTie2 f g | .none => mNone2 f g | .makes => mMakes2 f g sy | _ => none
def made0 (r : Ru) (sy : Option Sy) : Option Fa :=
  match r with
  | .thing => mThing sy | .tied => mTied sy | _ => none
def made (r : Ru) (fs : List Fa) (sy : Option Sy) : Option Fa :=
  match fs with
  | [] => made0 r sy
  | [f] => made1 r f sy
  | [f, g] => made2 r f g sy
  | _ => none
theorem hd_every {s : Sy} (h : s.hd = .every) : ∃ a b, s = .every a b := by
  cases s <;> first | exact ⟨_, _, rfl⟩ | (simp only [Sy.hd] at h; cases h)
theorem hd_thing {s : Sy} (h : s.hd = .thing) : ∃ a b, s = .thing a b := by
  cases s <;> first | exact ⟨_, _, rfl⟩ | (simp only [Sy.hd] at h; cases h)
theorem hd_tied {s : Sy} (h : s.hd = .tied) : ∃ a b c, s = .tied a b c := by
  cases s <;> first | exact ⟨_, _, _, rfl⟩ | (simp only [Sy.hd] at h; cases h)
theorem hd_within {s : Sy} (h : s.hd = .within) : ∃ a b, s = .within a b := by
  cases s <;> first | exact ⟨_, _, rfl⟩ | (simp only [Sy.hd] at h; cases h)
theorem hd_makes {s : Sy} (h : s.hd = .makes) : ∃ a b c, s = .makes a b c := by
  cases s <;> first | exact ⟨_, _, _, rfl⟩ | (simp only [Sy.hd] at h; cases h)
def Fa.hs : Fa → Str
  | .is _ _ => "is"
  | .has _ _ _ => "has"
theorem IsF.sh {H : Hp} : ∀ {f : Fa} {v : V}, IsF H f v → ∃ (p : Addr) (xs : List V) (a : V), v = .ref p ∧ H p = some (.tup xs) ∧ xs[0]? = some (.str f.hs) ∧ xs[1]? = some a ∧ IsK H f.x a
  | .is _ _, _, ⟨p, a, b, e, h, ha, hb⟩ => ⟨p, _, a, e, h, rfl, rfl, ha⟩
  | .has _ _ _, _, ⟨p, a, b, e, h, ha, hb⟩ => ⟨p, _, a, e, h, rfl, rfl, ha⟩
theorem kl_two {H : Hp} {xs : List V} {a b : Kd} (h : KL H xs [a, b]) : ∃ x y, xs = [x, y] ∧ IsK H a x ∧ IsK H b y := by
  cases h with
  | cons r t =>
    cases t with
    | cons r2 t2 => cases t2; exact ⟨_, _, rfl, r, r2⟩
theorem kl_three {H : Hp} {xs : List V} {a b c : Kd} (h : KL H xs [a, b, c]) : ∃ x y z, xs = [x, y, z] ∧ IsK H a x ∧ IsK H b y ∧ IsK H c z := by
  cases h with
  | cons r t =>
    obtain ⟨y, z, rfl, h1, h2⟩ := kl_two t
    exact ⟨_, y, z, rfl, r, h1, h2⟩
theorem isF_new {H : Hp} {x k : Kd} {a b : V} {p : Addr} (hp : H p = none) (ha : IsK H x a) (hb : IsK H k b) : IsF (upd H p (.tup [.str "is", a, b])) (.is x k) (.ref p) :=
  ⟨p, a, b, rfl, upd_same, ha.mono (tups_new hp), hb.mono (tups_new hp)⟩
theorem hasF_new {H : Hp} {x y : Kd} {t : Str} {a b : V} {p : Addr} (hp : H p = none) (ha : IsK H x a) (hb : IsK H y b) : IsF (upd H p (.tup [.str "has", a, .str t, b])) (.has x t y) (.ref p) :=
  ⟨p, a, b, rfl, upd_same, ha.mono (tups_new hp), hb.mono (tups_new hp)⟩
theorem hs_is (f : Fa) : decide (V.str f.hs = V.str "is") = (match f with | .is _ _ => true | _ => false) := by
  cases f with
  | is x k => exact decide_eq_true rfl
  | has x t y => rw [dec_str]; exact beq_eq_false_iff_ne.mpr (by show (Str.ofString "has" : Str) ≠ Str.ofString "is"; decide +kernel)
section
variable {P : Program} {w : World} {K : PySem.W.Frag} {mg : Str → Option Value} {base : Heap} {f g e d a1 a2 a3 a4 aW aF : Addr} {fd gd' ed dd d1 d2 d3 d4 : FuncData}
end
end K23
namespace K23
open PySem L2
def standsB : Kd → Bool
  | .nm t => thingB t
  | _ => false
def lenK : Kd → Prop
  | .nm t => t.length ≤ 1000
  | .two a b => lenK a ∧ lenK b
  | .som _ c => lenK c
theorem kit_ii (K : PySem.W.Frag) : PySem.W.kitOne K (.type "int") (.type "int") = some true := by first | rfl | decide | with_unfolding_all rfl
theorem kit_ib (K : PySem.W.Frag) : PySem.W.kitOne K (.type "int") (.type "bool") = some false := by first | rfl | decide | with_unfolding_all rfl
section
variable {P : Program} {w : World} {K : PySem.W.Frag} {mg : Str → Option Value} {base : Heap} {f g e d a1 a2 a3 a4 aW aF : Addr} {fd gd' ed dd d1 d2 d3 d4 : FuncData}
end
end K23
namespace K23
open PySem L2
section
variable {P : Program} {w : World} {K : PySem.W.Frag} {mg : Str → Option Value} {base : Heap} {f g e d a1 a2 a3 a4 aW aF aB : Addr} {fd gd' ed dd d1 d2 d3 d4 : FuncData}
end
def Sy.okS (s : Sy) : Prop := (∀ k ∈ s.parts, k.sz ≤ 60) ∧ s.lo 8
section
variable {P : Program} {w : World} {K : PySem.W.Frag} {mg : Str → Option Value} {base : Heap} {f g e d a1 a2 a3 a4 aW aF aB : Addr} {fd gd' ed dd d1 d2 d3 d4 : FuncData}
end
end K23
namespace K23
open PySem L2
section
variable {P : Program} {w : World} {K : PySem.W.Frag} {mg : Str → Option Value} {base : Heap} {f g e d a1 a2 a3 a4 a5 aW aF aB aR aM : Addr} {fd gd' ed dd d1 d2 d3 d4 d5 : FuncData}
end
end K23
namespace K23
open PySem L2
def upB (t : Str) : Bool := Txt.isupper (Txt.slice t none (some 1))
def singleB : Kd → Bool
  | .nm t => upB t
  | _ => false
def spSingle : Sp := fun vs H Q _ => ∃ (v : V) (k : Kd), vs = [v] ∧ IsK H k v ∧ lenK k ∧ Q (.bl (singleB k)) H
section
variable {P : Program} {w : World} {K : PySem.W.Frag} {mg : Str → Option Value} {base : Heap} {f g e d a1 a2 a3 a4 a5 aW aF aB aR aM : Addr} {fd gd' ed dd d1 d2 d3 d4 d5 : FuncData}
theorem scSingle : FnScope ["_law_x"] ["_law_x"] (defScope sSingle) := ⟨rfl, rfl, rfl, by decide +kernel, rfl, by decide +kernel, by decide +kernel⟩
theorem ok_single (F : Fun K "_law_single" "_law_single" sSingle f fd) (mi : mg "isinstance" = none) (ms : mg "str" = none) : FnOk P w K mg base CX0 1 f fd ["_law_x"] spSingle := by
  refine F.ok scSingle (fun vs H Q E h => ?_) (fun cdv A outer s H vs Q E hr h => ?_)
  · obtain ⟨v, k, rfl, _⟩ := h; rfl
  obtain ⟨v, k, rfl, hk, hl, q⟩ := h
  refine ⟨_, @pss_one _ _ _ (by exact @ps_ret _ _ _ _ (pe_and (pe_callB call_isinst rfl mi PyProof.Rows.boot_isinstance (pa_cons (pv 0) (pa_cons (pe_bltn (v := .ty "str") rfl ms PyProof.Rows.boot_str rfl) pa_nil))) (pe_one (pe_bm0 PySem.F.plainAttrs_str PySem.F.slot_str_isupper PySem.F.type_str_isupper mt_isupper (pe_slice sl_str (pv 0) po_none (po_some pe_int)))))), ?_⟩
  cases k with
  | nm x =>
    obtain rfl : v = .str x := hk
    have hx : x.length ≤ sizeLine := small2 hl
    refine ⟨_, rfl, _, _, _, true, rfl, TyOf.str x, kit_str_str K, _, rfl, iteT ?_⟩
    exact ⟨_, rfl, 1, rfl, x, rfl, hx, rfl, _, rfl, rfl, q⟩
  | two a b =>
    obtain ⟨p, x, y, rfl, hp, _, _⟩ := hk
    exact ⟨_, rfl, _, _, _, false, rfl, TyOf.tup hp, kit_tup_str K, _, rfl, iteF q⟩
  | som r c =>
    obtain ⟨p, y, rfl, hp, _⟩ := hk
    exact ⟨_, rfl, _, _, _, false, rfl, TyOf.tup hp, kit_tup_str K, _, rfl, iteF q⟩
end
end K23
namespace K23
open PySem L2
theorem ru_dec {r : Ru} {z : Str} (h : IsRu r z) (q : Ru) (y : Str) (e : y = ruS q) (hq : q ≠ .oth) : decide (V.str z = V.str y) = decide (r = q) := by subst e; exact h.dec hq
theorem hd_dec (s : Sy) (q : Ru) (y : Str) (e : y = ruS q) (hq : q ≠ .oth) : decide (V.str (ruS s.hd) = V.str y) = decide (s.hd = q) := ru_dec (.of s.hd_ne) q y e hq
theorem sx1 (x : V) (xs : List V) : ¬ (HT.sIx (x :: xs).length 0 (some 1) = 0 ∧ HT.sIx (x :: xs).length (x :: xs).length none = (x :: xs).length) := sIx1 x xs
theorem flat_strs : ∀ l : List Str, (l.map V.str).all flatV = true
  | [] => rfl
  | _ :: l => by rw [List.map_cons, List.all_cons, flat_strs l]; rfl
theorem in_strs (x : Str) : ∀ l : List Str, inV (.str x) (l.map V.str) = decide (x ∈ l)
  | [] => by simp [inV]
  | y :: l => by
    have ih := in_strs x l
    unfold inV at ih ⊢
    rw [List.map_cons, List.any_cons, ih]
    by_cases c : y = x
    · subst c; simp [eqV]
    · have c' : ¬ x = y := fun z => c z.symm
      simp [eqV, c, c']
theorem kit_tt (K : PySem.W.Frag) : PySem.W.kitOne K (.type "tuple") (.type "tuple") = some true := by first | rfl | decide | with_unfolding_all rfl
theorem kit_st (K : PySem.W.Frag) : PySem.W.kitOne K (.type "str") (.type "tuple") = some false := by first | rfl | decide | with_unfolding_all rfl
section
variable {P : Program} {w : World} {K : PySem.W.Frag} {mg : Str → Option Value} {base : Heap} {f g e d a1 a2 a3 a4 a5 aW aF aB aR aM : Addr} {fd gd' ed dd d1 d2 d3 d4 d5 : FuncData}
end
end K23
namespace K23
open PySem L2
theorem Xa.mono_n {H H' : Hp} (s : Same H H') (n : Nat) : ∀ (d : Tx) (v : V), d.dp ≤ n → Xa H d v → Xa H' d v := by
  induction n with
  | zero =>
    intro d v hn h
    cases d with
    | tup ds => simp only [Tx.dp] at hn; omega
    | lst ds => simp only [Tx.dp] at hn; omega
    | non => exact h
    | int i => exact h
    | str i => exact h
  | succ n ih =>
    have many : ∀ (ds : List Tx) (xs : List V), xdps ds ≤ n → Xas H ds xs → Xas H' ds xs := by
      intro ds
      induction ds with
      | nil => intro xs _ h; exact h
      | cons d ds ihd =>
        rintro xs hn ⟨x, r, e, h1, h2⟩
        have m : max d.dp (xdps ds) ≤ n := hn
        exact ⟨x, r, e, ih d x (by omega) h1, ihd r (by omega) h2⟩
    intro d v hn h
    cases d with
    | non => exact h
    | int i => exact h
    | str i => exact h
    | tup ds =>
      simp only [Tx.dp] at hn
      obtain ⟨p, xs, e, h1, h2⟩ := (show ∃ p xs, v = .ref p ∧ H p = some (.tup xs) ∧ Xas H ds xs from h)
      exact ⟨p, xs, e, s _ _ h1, many ds xs (by omega) h2⟩
    | lst ds =>
      simp only [Tx.dp] at hn
      obtain ⟨p, xs, e, h1, h2⟩ := (show ∃ p xs, v = .ref p ∧ H p = some (.lst xs) ∧ Xas H ds xs from h)
      exact ⟨p, xs, e, s _ _ h1, many ds xs (by omega) h2⟩
theorem xaMono {H H' : Hp} {d : Tx} {v : V} (h : Xa H d v) (s : Same H H') : Xa H' d v := Xa.mono_n s d.dp d v (Nat.le_refl _) h
def pre3 (s : Sy) : Tx := .tup (.str (ruS s.hd) :: (s.parts.take 2).map Kd.tx)
theorem pre3_dec (s : Sy) (t u : Str) : decide (pre3 s = .tup [.str "makes", .str t, .str u]) = (match s with | .makes a b _ => decide (a = t ∧ b = u) | _ => false) := by
  by_cases h : s.hd = .makes
  · obtain ⟨a, b, c, rfl⟩ := hd_makes h
    show _ = decide (a = t ∧ b = u)
    rw [decide_eq_decide]
    constructor
    · intro e
      injection e with e
      injection e with _ e
      injection e with e1 e
      injection e with e2 _
      have e1' : Tx.str a = Tx.str t := e1
      have e2' : Tx.str b = Tx.str u := e2
      injection e1' with e1'
      injection e2' with e2'
      exact ⟨e1', e2'⟩
    · rintro ⟨rfl, rfl⟩
      rfl
  · have e : ¬ pre3 s = .tup [.str "makes", .str t, .str u] := by
      intro e
      injection e with e
      injection e with e _
      injection e with e
      exact h (ruS_inj _ (ruL_all _ s.hd_ne) _ (ruL_all .makes (by intro z; cases z)) e)
    rw [decide_eq_false e]
    cases s with
    | makes a b c => exact absurd rfl h
    | _ => rfl
theorem pre3_dp {s : Sy} (h : s.lo 8) : (pre3 s).dp ≤ 60 := by
  have : xdps (Tx.str (ruS s.hd) :: (s.parts.take 2).map Kd.tx) ≤ 8 := xdps_le fun d hd => by
    rcases List.mem_cons.mp hd with rfl | hd
    · exact Nat.zero_le _
    · obtain ⟨k, hk, rfl⟩ := List.mem_map.mp hd
      rw [Kd.tx_dp]
      exact h k (List.mem_of_mem_take hk)
  show 1 + _ ≤ 60
  omega
theorem cut3 (x a b c : V) : cutV [x, a, b, c] none (some 3) = [x, a, b] := by
  have h1 : HT.sIx 4 4 (some ((3 : Nat) : Int)) = 3 := by rw [HT.sIx_nat]; rfl
  have h2 : HT.sIx 4 0 none = 0 := rfl
  show ([x, a, b, c].drop (HT.sIx 4 0 none)).take (HT.sIx 4 4 (some 3) - HT.sIx 4 0 none) = _
  rw [show (some 3 : Option Int) = some ((3 : Nat) : Int) from rfl, h1, h2]
  rfl
theorem six43 : ¬ (HT.sIx 4 0 none = 0 ∧ HT.sIx 4 4 (some 3) = 4) := by
  have h1 : HT.sIx 4 4 (some ((3 : Nat) : Int)) = 3 := by rw [HT.sIx_nat]; rfl
  rw [show (some 3 : Option Int) = some ((3 : Nat) : Int) from rfl, h1]
  omega
theorem six33 : HT.sIx 3 0 none = 0 ∧ HT.sIx 3 3 (some 3) = 3 := by
  have h1 : HT.sIx 3 3 (some ((3 : Nat) : Int)) = 3 := by rw [HT.sIx_nat]; rfl
  exact ⟨rfl, h1⟩
theorem pre3_cut {H : Hp} {s : Sy} {p : Addr} {xs : List V} {Q : VK} {K : PySem.W.Frag} (hp : H p = some (.tup (.str (ruS s.hd) :: xs))) (hk : KL H xs s.parts) (q : ∀ v H', Same H H' → Xa H' (pre3 s) v → Q v H') : rSlW K (.ref p) none (some 3) H Q := by
  refine ⟨p, _, rfl, SqT.of hp, ?_, ?_⟩
  · intro hw
    refine q _ H (Same.refl H) ?_
    have l2 : s.parts.length ≤ 2 := by
      have := KL.len hk
      rcases Nat.lt_or_ge 2 s.parts.length with h | h
      · exfalso
        have h3 : s.parts.length = 3 := by cases s <;> simp [Sy.parts] at h ⊢
        have : (V.str (ruS s.hd) :: xs).length = 4 := by rw [List.length_cons]; omega
        rw [this] at hw
        exact six43 hw
      · exact h
    have e : pre3 s = s.tx := by unfold pre3 Sy.tx; rw [List.take_of_length_le l2]
    rw [e]
    exact IsSy.xa ⟨p, xs, rfl, hp, hk⟩
  · intro hw t ht
    have s1 := same_new ht (.tup (cutV (.str (ruS s.hd) :: xs) none (some 3)))
    refine q _ _ s1 ?_
    have l3 : s.parts.length = 3 := by
      have := KL.len hk
      rcases Nat.lt_or_ge 2 s.parts.length with h | h
      · cases s <;> simp [Sy.parts] at h ⊢
      · exfalso
        have h2 : s.parts.length = 2 := by cases s <;> simp [Sy.parts] at h ⊢
        have : (V.str (ruS s.hd) :: xs).length = 3 := by rw [List.length_cons]; omega
        rw [this] at hw
        exact hw six33
    obtain ⟨k1, k2, k3, ek⟩ : ∃ k1 k2 k3, s.parts = [k1, k2, k3] := by
      cases s <;> simp [Sy.parts] at l3 ⊢
    rw [ek] at hk
    obtain ⟨v1, v2, v3, rfl, i1, i2, i3⟩ := kl_three hk
    rw [cut3] at s1 ⊢
    unfold pre3
    rw [ek]
    exact ⟨t, _, rfl, upd_same, _, _, rfl, rfl, _, _, rfl, (i1.mono s1.tups).xa, _, _, rfl, (i2.mono s1.tups).xa, rfl⟩
section
variable {P : Program} {w : World} {K : PySem.W.Frag} {mg : Str → Option Value} {base : Heap} {f g e d a1 a2 a3 a4 a5 aW aF aB aR aM : Addr} {fd gd' ed dd d1 d2 d3 d4 d5 : FuncData}
end
end K23
namespace K23
open PySem L2
section
variable {P : Program} {w : World} {K : PySem.W.Frag} {mg : Str → Option Value} {base : Heap} {f g e d a1 a2 a3 a4 a5 aW aF aB aR aM : Addr} {fd gd' ed dd d1 d2 d3 d4 d5 : FuncData}
end
end K23
namespace K23
open PySem L2
def spCell (K : PySem.W.Frag) : Sp := fun vs H Q _ => ∃ (a : Addr) (ns : List Int) (i : Int), vs = [.ref a, .int i] ∧ SqL K H a (ns.map V.int) ∧ 0 ≤ i ∧ ∀ r : Int, Q (.int r) H
section
variable {P : Program} {w : World} {K : PySem.W.Frag} {mg : Str → Option Value} {base : Heap} {f g e : Addr} {fd gd ed : FuncData}
theorem scCell : FnScope ["_law_script", "_law_k"] ["_law_script", "_law_k"] (defScope sCell) := ⟨rfl, rfl, rfl, by decide +kernel, rfl, by decide +kernel, by decide +kernel⟩
theorem ok_cell (F : Fun K "_law_cell" "_law_cell" sCell f fd) (ml : mg "len" = none) : FnOk P w K mg base CX0 1 f fd ["_law_script", "_law_k"] (spCell K) := by
  refine F.ok scCell (fun vs H Q E h => ?_) (fun cdv A outer s H vs Q E hr h => ?_)
  · obtain ⟨a, ns, i, rfl, _⟩ := h; rfl
  obtain ⟨a, ns, i, rfl, hS, h0, q⟩ := h
  refine ⟨_, @pss_cons _ _ _ _ _ (by exact ps_if (pt_cmpR op_lt (pv 1) (pe_callB call_len_seq rfl ml PySem.boot_len (pa_cons (pv 0) pa_nil)) (nomark _)) (pss_one (ps_ret (pe_ix ix_list (pv 0) (pv 1) (fun _ _ => rfl)))) pss_nil)
    (@pss_one _ _ _ (by exact ps_ret pe_int)), ?_⟩
  refine ⟨_, rfl, _, rfl, a, _, rfl, .inl hS, _, _, rfl, rfl, _, rfl, ite2 (fun h => ?_) (fun h => q 0)⟩
  have h' : i < ((ns.map V.int).length : Int) := of_decide_eq_true h
  rw [List.length_map] at h'
  have hi : i.toNat < ns.length := by omega
  have z : atI (ns.map V.int) ((i.toNat : Nat) : Int) = some (.int ns[i.toNat]) := atI_nat (by rw [List.getElem?_map, List.getElem?_eq_getElem hi]; rfl)
  rw [show ((i.toNat : Nat) : Int) = i by omega] at z
  exact ⟨_, rfl, _, rfl, a, _, i, _, rfl, rfl, hS, z, q _⟩
end
def kept : List Str := ["anything", "nothing", "every", "no", "is", "tie", "within", "then", "makes", "both", "some"]
abbrev az : Str := "abcdefghijklmnopqrstuvwxyz"
def goodL (i : Nat) : Bool := i == 2 || i == 3 || i == 5 || i == 9 || i == 11 || i == 15 || i == 16 || i == 20 || i == 23 || i == 25
theorem good_out : ∀ w' ∈ kept, ∀ c ∈ w'.cps.toList, goodL (c - 97) = false := by decide +kernel
theorem good_not {z : Str} {c : Nat} (hc : c ∈ z.cps.toList) (hg : goodL (c - 97) = true) : inV (.str z) (kept.map V.str) = false := by
  cases e : inV (.str z) (kept.map V.str) with
  | false => rfl
  | true =>
    exfalso
    unfold inV at e
    rw [List.any_eq_true] at e
    obtain ⟨y, hy, e⟩ := e
    obtain ⟨w', hw, rfl⟩ := List.mem_map.mp hy
    have : w' = z := by simpa [eqV] using e
    subst this
    have := good_out w' hw c hc
    rw [this] at hg
    cases hg
theorem az_at {i : Nat} (h : i < 26) : atI (az).cps.toList (i : Int) = some (97 + i) := by
  have e : (az).cps.toList = List.range' 97 26 := by decide +kernel
  rw [e]
  exact atI_nat (by rw [List.getElem?_range' h]; simp)
theorem az_len : (az).length = 26 := by decide +kernel
theorem flat_kept : (kept.map V.str).all flatV = true := by decide +kernel
def smA (z : Str) : Prop := ∀ c ∈ z.cps.toList, 97 ≤ c ∧ c ≤ 122
theorem smA_nil : smA ⟨#[]⟩ := fun c h => by simp at h
theorem smA_app {a b : Str} (ha : smA a) (hb : smA b) : smA (a ++ b) := fun c h => by
  rw [Str.cps_append] at h
  simp only [Array.toList_append, List.mem_append] at h
  exact h.elim (ha c) (hb c)
theorem smA_slice {z : Str} {lo hi : Option Int} (h : smA z) : smA (Txt.slice z lo hi) := fun c hc => by
  rw [slice_cps] at hc
  exact h c (List.mem_of_mem_drop (List.mem_of_mem_take hc))
theorem smA_sign {j : Nat} (h : j < 26) : smA ⟨#[97 + j]⟩ := fun c hc => by
  have : c = 97 + j := by simpa using hc
  omega
theorem mem_app {a b : Str} {c : Nat} (h : c ∈ a.cps.toList ∨ c ∈ b.cps.toList) : c ∈ (a ++ b).cps.toList := by
  rw [Str.cps_append]
  simpa using h
def wd (z : Str) : Prop := 1 ≤ z.length ∧ z.length ≤ 12 ∧ smA z
theorem ixN0 (n : Nat) : ixN (n + 1) 0 = some 0 := by
  unfold ixN
  simp
def spDraw : Sp := fun vs H Q _ => ∃ (b : Addr) (x m : Int) (rest : List V), vs = [.ref b, .int m] ∧ H b = some (.lst (.int x :: rest)) ∧ 0 < m ∧ ∀ (x' r : Int), 0 ≤ r → r < m → Q (.int r) (upd H b (.lst (.int x' :: rest)))
def spWords : Sp := fun vs H Q _ => ∃ c m : Int, vs = [.int c, .int m] ∧ 0 < m ∧ m ≤ 3 ∧
  ∀ (p : Addr) (H' : Hp) (ws : List Str), Same H H' → H p = none → H' p = some (.lst (ws.map V.str)) → (ws.length : Int) = m → (∀ z ∈ ws, wd z) → Q (.ref p) H'
theorem ndkwt : ((([("_law_k" : Str)] : List Str) ++ [("_law_word" : Str), ("_law_taken" : Str)]) : List Str).Nodup := by decide +kernel
theorem ndw : ((([("_law_word" : Str)] : List Str) ++ []) : List Str).Nodup := by decide +kernel
theorem slice_len0 (z : Str) (k : Nat) : (Txt.slice z none (some (k : Int))).length = min k z.length := by
  have e := congrArg List.length (slice_cps z none (some (k : Int)))
  have hz : z.cps.toList.length = z.length := by simp [Str.length]
  have hs : (Txt.slice z none (some (k : Int))).cps.toList.length = (Txt.slice z none (some (k : Int))).length := by simp [Str.length]
  rw [hs, List.length_take, List.length_drop, hz, HT.sIx_nat] at e
  have e2 : HT.sIx z.length 0 none = 0 := rfl
  rw [e2] at e
  omega
theorem slice_len1 (z : Str) (k : Nat) : (Txt.slice z (some (k : Int)) none).length = z.length - k := by
  have e := congrArg List.length (slice_cps z (some (k : Int)) none)
  have hz : z.cps.toList.length = z.length := by simp [Str.length]
  have hs : (Txt.slice z (some (k : Int)) none).cps.toList.length = (Txt.slice z (some (k : Int)) none).length := by simp [Str.length]
  rw [hs, List.length_take, List.length_drop, hz, HT.sIx_nat] at e
  have e2 : HT.sIx z.length z.length none = z.length := rfl
  rw [e2] at e
  omega
def nameAt (z : Str) (k : Nat) (c : Nat) : Str := Txt.slice z none (some (k : Int)) ++ ⟨#[c]⟩ ++ Txt.slice z (some ((k : Int) + 1)) none
theorem nameAt_wd {z : Str} {k c : Nat} (hz : smA z) (hl : z.length ≤ 12) (hk : k < z.length) (h1 : 97 ≤ c) (h2 : c ≤ 122) : wd (nameAt z k c) := by
  have e1 := slice_len0 z k
  have e2 := slice_len1 z (k + 1)
  rw [show (((k + 1 : Nat) : Int)) = (k : Int) + 1 by omega] at e2
  have e3 : (nameAt z k c).length = (Txt.slice z none (some (k : Int))).length + 1 + (Txt.slice z (some ((k : Int) + 1)) none).length := by
    unfold nameAt
    rw [Str.length_append, Str.length_append]; rfl
  refine ⟨by omega, by omega, smA_app (smA_app (smA_slice hz) ?_) (smA_slice hz)⟩
  intro d hd
  have : d = c := by simpa using hd
  omega
theorem cut_strs (ws : List Str) {m : Int} (h : 0 ≤ m) : cutV (ws.map V.str) none (some m) = (ws.take m.toNat).map V.str := by
  have h1 : HT.sIx (ws.map V.str).length (ws.map V.str).length (some ((m.toNat : Nat) : Int)) = min m.toNat (ws.map V.str).length := HT.sIx_nat _ _ _
  have h2 : HT.sIx (ws.map V.str).length 0 none = 0 := rfl
  rw [show ((m.toNat : Nat) : Int) = m by omega] at h1
  unfold cutV
  rw [h1, h2, List.drop_zero, Nat.sub_zero, List.map_take]
  rcases Nat.le_total m.toNat (ws.map V.str).length with g | g
  · rw [Nat.min_eq_left g]
  · rw [Nat.min_eq_right g, List.take_of_length_le (Nat.le_refl _), List.take_of_length_le g]
theorem three_in {ws : List Str} {a b c : Str} (ha : a ∈ ws) (hb : b ∈ ws) (hc : c ∈ ws) (ab : a ≠ b) (ac : a ≠ c) (bc : b ≠ c) : 3 ≤ ws.length := by
  match ws with
  | [] => simp at ha
  | [x] =>
    simp only [List.mem_singleton] at ha hb
    exact absurd (ha.trans hb.symm) ab
  | [x, y] =>
    simp only [List.mem_cons, List.not_mem_nil, or_false] at ha hb hc
    rcases ha with rfl | rfl <;> rcases hb with rfl | rfl <;> rcases hc with rfl | rfl <;> first | exact absurd rfl ab | exact absurd rfl ac | exact absurd rfl bc
  | _ :: _ :: _ :: r => simp only [List.length_cons]; omega
theorem az_get {i c : Nat} (h : (az).cps[i]? = some c) : i < 26 ∧ c = 97 + i := by
  have e : (az).cps.toList = List.range' 97 26 := by decide +kernel
  have h' : (az).cps.toList[i]? = some c := by simpa using h
  rw [e] at h'
  obtain ⟨h1, h2⟩ := List.getElem?_eq_some_iff.mp h'
  rw [List.length_range'] at h1
  rw [List.getElem_range'] at h2
  exact ⟨h1, by omega⟩
theorem nameAt_mem (z : Str) (k c : Nat) : c ∈ (nameAt z k c).cps.toList := mem_app (.inl (mem_app (.inr (by simp))))
theorem nameAt_inj {z : Str} {k c d : Nat} (h : nameAt z k c = nameAt z k d) : c = d := by
  unfold nameAt at h
  have h' := congrArg (fun s : Str => s.cps.toList) h
  simp only [Str.cps_append, Array.toList_append] at h'
  have h2 := List.append_cancel_right h'
  have h3 := List.append_cancel_left h2
  simpa using h3
section
variable {P : Program} {w : World} {K : PySem.W.Frag} {mg : Str → Option Value} {base : Heap} {f g e a1 : Addr} {fd gd' ed d1 : FuncData}
theorem scDraw : FnScope ["_law_bag", "_law_many"] ["_law_bag", "_law_many"] (defScope sDraw) := ⟨rfl, rfl, rfl, by decide +kernel, rfl, by decide +kernel, by decide +kernel⟩
theorem ok_draw (F : Fun K "_law_draw" "_law_draw" sDraw f fd) : FnOk P w K mg base CX0 1 f fd ["_law_bag", "_law_many"] spDraw := by
  refine F.ok scDraw (fun vs H Q E h => ?_) (fun cdv A outer s H vs Q E hr h => ?_)
  · obtain ⟨b, x, m, rest, rfl, _⟩ := h; rfl
  obtain ⟨b, x, m, rest, rfl, hb, hm, q⟩ := h
  refine ⟨_, @pss_cons _ _ _ _ _ (by exact ps_asg (pe_op op_mod (pe_op op_add (pe_op op_mul (pe_ix ix_list (pv 0) pe_int (fun _ _ => rfl)) pe_int) pe_int) pe_int) (pg_sub (pv 0) pe_int set_list))
    (@pss_one _ _ _ (by exact @ps_ret _ _ _ _ (pe_op op_mod (pe_op op_fdiv (pe_ix ix_list (pv 0) pe_int (fun _ _ => rfl)) pe_int) (pv 1)))), ?_⟩
  refine ⟨_, rfl, b, _, 0, _, rfl, rfl, SqL.of hb, atI_nat (j := 0) rfl, _, _, rfl, rfl, .inr ⟨by decide, by decide⟩, _, _, rfl, rfl, _, _, rfl, rfl, (show (0 : Int) < 2147483647 by decide), _, rfl, b, _, 0, 0, rfl, rfl, hb, ixN0 _, ?_⟩
  refine ⟨_, rfl, b, _, 0, _, rfl, rfl, SqL.of upd_same, atI_nat (j := 0) rfl, _, _, rfl, rfl, ⟨by decide, by decide⟩, _, rfl, _, _, rfl, rfl, hm, ?_⟩
  exact q _ _ (Int.emod_nonneg _ (by omega)) (Int.emod_lt_of_pos _ hm)
theorem scWords : FnScope ["_law_cell_here", "_law_many", "_law_letters", "_law_taken", "_law_size_here", "_law_rest", "_law_word", "_law_k", "_law_made", "_law_spot", "_law_letter", "_law_name"] ["_law_cell_here", "_law_many"] (defScope sWords) := ⟨rfl, rfl, rfl, by decide +kernel, rfl, by decide +kernel, by decide +kernel⟩
theorem ok_words (F : Fun K "_law_words" "_law_words" sWords f fd) (ml : mg "len" = none) (mr : mg "range" = none) : FnOk P w K mg base CX0 1 f fd ["_law_cell_here", "_law_many"] spWords := by
  refine F.ok scWords (fun vs H Q E h => ?_) (fun cdv A outer s H vs Q E hr h => ?_)
  · obtain ⟨c, m, rfl, _⟩ := h; rfl
  obtain ⟨c, m, rfl, hm0, hm3, q⟩ := h
  refine ⟨_, @pss_cons _ _ _ _ _ (by exact ps_set (i := 2) scWords.nd rfl (Or.inl rfl) pe_str)
    (@pss_cons _ _ _ _ _ (by exact @ps_set _ _ 3 _ _ _ _ scWords.nd rfl (Or.inr rfl) (@pe_lst _ _ _ _ (@pa_strs _ _ kept rfl)) rfl (.inl rfl))
    (@pss_cons _ _ _ _ _ (by exact ps_set (i := 4) scWords.nd rfl (Or.inl rfl) (pe_op op_add pe_int (pe_op op_mod (pv 0) pe_int)))
    (@pss_cons _ _ _ _ _ (by exact ps_set (i := 5) scWords.nd rfl (Or.inl rfl) (pe_op op_mod (pe_op op_fdiv (pv 0) pe_int) (pe_op op_pow pe_int pe_int)))
    (@pss_cons _ _ _ _ _ (by exact ps_set (i := 6) scWords.nd rfl (Or.inr rfl) pe_str)
    (@pss_mid _ _ _ _ _ (by exact ps_for PassesOwn.never rfl (pi_range1 rfl mr (pa_cons (pv 4) pa_nil)) (pg_name (i := 7) scWords.nd rfl (Or.inl rfl)) (@pss_cons _ _ _ _ _ (by exact ps_set (i := 6) scWords.nd rfl (Or.inr rfl) (pe_op op_add_str (pv 6) (pe_ix ix_str (pv 2) (pe_op op_mod (pv 5) pe_int) (fun _ _ => rfl)))) (@pss_one _ _ _ (by exact ps_set (i := 5) scWords.nd rfl (Or.inl rfl) (pe_op op_add (pe_op op_fdiv (pv 5) pe_int) (pe_op op_mul pe_int (pv 7)))))))
    (@pss_cons _ _ _ _ _ (by exact ps_set (i := 8) scWords.nd rfl (Or.inl rfl) (pe_lst pa_nil))
    (@pss_mid _ _ _ _ _ (by exact ps_if (pt_cmpR op_eq (pe_op op_mod (pe_op op_fdiv (pv 0) pe_int) pe_int) pe_int (nomark _)) (@pss_one _ _ _ (by exact ps_set (i := 8) scWords.nd rfl (Or.inl rfl) (pe_slice sl_list (pe_comp ["_law_k"] ["_law_word", "_law_taken"] [6, 3] rfl (pi_range2 rfl mr (pa_cons pe_int (pa_cons (pe_op op_add (pv 4) pe_int) pa_nil))) (fun _ _ _ => pg_name (i := 0) ndkwt rfl (Or.inl rfl)) (fun _ _ _ => pts_one (pt_cmpR (r := rIn K true) op_notIn_seq (pe_slice sl_str (pv 1) po_none (po_some (pv 0))) (pv 2) rfl)) (fun _ _ _ => (pe_slice sl_str (pv 1) po_none (po_some (pv 0))))) po_none (po_some (pv 1))))) pss_nil)
    (@pss_cons _ _ _ _ _ (by exact ps_set (i := 9) scWords.nd rfl (Or.inl rfl) (pe_op op_mod (pe_op op_fdiv (pv 0) pe_int) (pv 4)))
    (@pss_cons _ _ _ _ _ (by exact ps_for PassesOwn.never rfl (pi_str (pv 2)) (pg_name (i := 10) scWords.nd rfl (Or.inl rfl)) (@pss_cons _ _ _ _ _ (by exact ps_set (i := 11) scWords.nd rfl (Or.inl rfl) (pe_op op_add_str (pe_op op_add_str (pe_slice sl_str (pv 6) po_none (po_some (pv 9))) (pv 10)) (pe_slice sl_str (pv 6) (po_some (pe_op op_add (pv 9) pe_int)) po_none))) (@pss_one _ _ _ (by exact ps_if (PW.pt (pw_and (pt_cmpR op_lt (pe_callB call_len_seq rfl ml PySem.boot_len (pa_cons (pv 8) pa_nil)) (pv 1) (nomark _)) (pw_and (pt_cmpR op_notIn_seq (pv 11) (pv 3) rfl) (pw_and1 (pt_cmpR op_notIn_seq (pv 11) (pv 8) rfl))))) (@pss_one _ _ _ (by exact ps_expr (pe_bm PySem.F.plainAttrs_list PySem.F.slot_list_append PySem.F.type_list_append mt_append (pv 8) (pa_cons (pv 11) pa_nil)))) pss_nil))))
    (@pss_one _ _ _ (by exact @ps_ret _ _ _ _ (pv 8)))))))))))), ?_⟩
  have m0 := Int.emod_nonneg c (show (12 : Int) ≠ 0 by decide)
  have m1 := Int.emod_lt_of_pos c (show (0 : Int) < 12 by decide)
  refine ⟨(by show 11 ≤ sizeLine; exact small2 (by decide)), fun lk hlk => ?_⟩
  refine ⟨_, rfl, _, _, rfl, rfl, (show (0 : Int) < 12 by decide), _, _, rfl, rfl, ?_⟩
  obtain ⟨n, hn, hn1, hn2⟩ : ∃ n : Nat, (n : Int) = 1 + c % 12 ∧ 1 ≤ n ∧ n ≤ 12 := ⟨(1 + c % 12).toNat, by omega, by omega, by omega⟩
  refine ⟨_, rfl, _, _, rfl, rfl, ⟨by decide, by decide⟩, _, _, rfl, rfl, ⟨by decide, by decide, by decide⟩, _, _, rfl, rfl, (show (0 : Int) < 10 ^ 20 by decide), ?_⟩
  have s0 := same_new hlk (.lst (kept.map V.str))
  refine ⟨fun σ H' => H' = upd H lk (.lst (kept.map V.str)) ∧ ∃ (z : Str) (o5 o7 : Option V), σ = [some (.int c), some (.int m), some (.str az), some (.ref lk), some (.int (1 + c % 12)), o5, some (.str z), o7, none, none, none, none] ∧ z.length = n ∧ smA z, ?_, ?_⟩
  · refine ⟨_, rfl, _, rfl, by omega, by omega, ?_⟩
    refine for_range (fun i σ H' => H' = upd H lk (.lst (kept.map V.str)) ∧ ∃ (z : Str) (x : Int) (o7 : Option V), σ = [some (.int c), some (.int m), some (.str az), some (.ref lk), some (.int (1 + c % 12)), some (.int x), some (.str z), o7, none, none, none, none] ∧ z.length = i ∧ smA z) ⟨rfl, ⟨#[]⟩, _, none, rfl, rfl, smA_nil⟩ ?_ ?_
    · rintro i σ H' hi ⟨rfl, z, x, o7, rfl, hz, hsm⟩
      have n0 := Int.emod_nonneg x (show (26 : Int) ≠ 0 by decide)
      have n1 := Int.emod_lt_of_pos x (show (0 : Int) < 26 by decide)
      have za := az_at (i := (x % 26).toNat) (by omega)
      rw [show (((x % 26).toNat : Nat) : Int) = x % 26 by omega] at za
      have hi' : i < n := by omega
      refine ⟨_, rfl, _, rfl, _, rfl, _, _, rfl, rfl, (show (0 : Int) < 26 by decide), az, _, _, rfl, rfl, small2 (by rw [az_len]; decide), za, z, _, rfl, rfl, ?_, ?_⟩
      · show z.length + 1 ≤ sizeLine
        exact small2 (by omega)
      · refine ⟨_, rfl, _, _, rfl, rfl, ⟨by decide, by decide⟩, _, rfl, _, _, rfl, rfl, .inl ⟨by decide, by decide⟩, _, _, rfl, rfl, rfl, _, _, _, rfl, ?_, smA_app hsm (smA_sign (by omega))⟩
        rw [Str.length_append, hz]; rfl
    · rintro σ H' ⟨rfl, z, x, o7, rfl, hz, hsm⟩
      exact ⟨rfl, z, _, o7, rfl, by omega, hsm⟩
  rintro σ H' ⟨rfl, z, o5, o7, rfl, hz, hsm⟩
  refine ⟨Nat.zero_le _, fun ln hln => ?_⟩
  have s1 := s0.trans (same_new hln (.lst []))
  have hlnH : H ln = none := none_of_same s0 hln
  have nkl : lk ≠ ln := ne_of_none upd_same hln
  refine ⟨fun σ H' => ∃ (pm : Addr) (ws : List Str), σ = [some (.int c), some (.int m), some (.str az), some (.ref lk), some (.int (1 + c % 12)), o5, some (.str z), o7, some (.ref pm), none, none, none] ∧ Same H H' ∧ H pm = none ∧ pm ≠ lk ∧ H' lk = some (.lst (kept.map V.str)) ∧ H' pm = some (.lst (ws.map V.str)) ∧ (ws.length : Int) ≤ m ∧ ∀ y ∈ ws, wd y, ?_, ?_⟩
  · refine ⟨_, rfl, _, _, rfl, rfl, ⟨by decide, by decide⟩, _, _, rfl, rfl, (show (0 : Int) < 2 by decide), rfl, _, rfl, ?_⟩
    have ek : (upd (upd H lk (.lst (kept.map V.str))) ln (.lst [])) lk = some (.lst (kept.map V.str)) := by rw [upd_ne nkl]; exact upd_same
    refine ite2 (fun _ => ?_) (fun _ => ?_)
    · refine ⟨_, rfl, _, _, rfl, rfl, 1, 1 + c % 12 + 1, rfl, ⟨by omega, by omega, by omega, by omega⟩, fun D hD => ?_⟩
      have sD := same_new hD (.lst [])
      have nD : lk ≠ D := ne_of_none ek hD
      refine cmp_by (1 + c % 12 + 1 - 1).toNat (fun i σ H' => (∃ o, σ = [o, some (.str z), some (.ref lk)]) ∧ Same H H' ∧ H' lk = some (.lst (kept.map V.str)) ∧ ∃ ws : List Str, H' D = some (.lst (ws.map V.str)) ∧ ws.length ≤ i ∧ ∀ y ∈ ws, wd y) ⟨⟨_, rfl⟩, s1.trans sD, by rw [upd_ne nD]; exact ek, [], upd_same, Nat.zero_le _, fun y hy => (nomatch hy)⟩ ?_ ?_
      · rintro σ H' ⟨_, sm, ek', ws, eD, hl, hw⟩
        refine ⟨Nat.le_refl _, _, rfl, m, rfl, D, _, rfl, SqL.of eD, fun p hp => ?_⟩
        rw [cut_strs ws (by omega)]
        have sp := same_new hp (.lst ((ws.take m.toNat).map V.str))
        refine ⟨p, ws.take m.toNat, rfl, sm.trans sp, none_of_same sm hp, ?_, sp _ _ ek', upd_same, ?_, fun y hy => hw y (List.mem_of_mem_take hy)⟩
        · intro e; rw [e, ek'] at hp; cases hp
        · rw [List.length_take]; omega
      · rintro i σ H' hi ⟨⟨o, rfl⟩, sm, ek', ws, eD, hl, hw⟩
        refine ⟨hi, ?_⟩
        rintro y H2 ⟨rfl, rfl⟩
        have hik : i + 1 ≤ n := by omega
        have ls := slice_len0 z (i + 1)
        rw [show (((i + 1 : Nat) : Int)) = 1 + (i : Int) by omega] at ls
        have hDn : D ≠ lk := Ne.symm nD
        refine ⟨_, rfl, _, rfl, 1 + (i : Int), rfl, z, rfl, small2 (by omega), _, rfl, lk, _, rfl, .inl (SqL.of ek'), rfl, flat_kept, _, rfl, ?_⟩
        refine ite2 (fun _ => ?_) (fun _ => ?_)
        · refine ⟨_, rfl, _, rfl, 1 + (i : Int), rfl, z, rfl, small2 (by omega), _, eD, small1000 (by rw [List.length_map]; omega), ⟨_, rfl⟩, ?_, by rw [upd_ne nD]; exact ek', ws ++ [Txt.slice z none (some (1 + (i : Int)))], ?_, by rw [List.length_append]; show _ + 1 ≤ _; omega, fun y hy => ?_⟩
          · exact same_upd sm (none_of_same s1 hD)
          · rw [upd_same, List.map_append]; rfl
          · rcases List.mem_append.mp hy with hy | hy
            · exact hw y hy
            · have : y = _ := List.mem_singleton.mp hy
              subst this
              exact ⟨by omega, by omega, smA_slice hsm⟩
        · exact ⟨⟨_, rfl⟩, sm, ek', ws, eD, by omega, hw⟩
    · exact ⟨ln, [], rfl, s1, hlnH, Ne.symm nkl, ek, upd_same, by simp; omega, fun y hy => (nomatch hy)⟩
  rintro σ H' ⟨pm, ws, rfl, sm, hpm, npk, ek, epm, hlm, hw⟩
  have k0 := Int.emod_nonneg (c / 7) (show (1 + c % 12 : Int) ≠ 0 by omega)
  have k1 := Int.emod_lt_of_pos (c / 7) (show (0 : Int) < 1 + c % 12 by omega)
  obtain ⟨k, hk, hkn⟩ : ∃ k : Nat, (k : Int) = c / 7 % (1 + c % 12) ∧ k < n := ⟨(c / 7 % (1 + c % 12)).toNat, by omega, by omega⟩
  refine ⟨_, rfl, _, _, rfl, rfl, ⟨by decide, by decide⟩, _, rfl, _, _, rfl, rfl, (show (0 : Int) < 1 + c % 12 by omega), ?_⟩
  refine ⟨_, rfl, az, rfl, for_str (fun i σ H' => ∃ (ws : List Str) (o10 o11 : Option V), σ = [some (.int c), some (.int m), some (.str az), some (.ref lk), some (.int (1 + c % 12)), o5, some (.str z), o7, some (.ref pm), some (.int (c / 7 % (1 + c % 12))), o10, o11] ∧ Same H H' ∧ H' lk = some (.lst (kept.map V.str)) ∧ H' pm = some (.lst (ws.map V.str)) ∧ (ws.length : Int) ≤ m ∧ (∀ y ∈ ws, wd y) ∧ ((ws.length : Int) = m ∨ ∀ j, j < i → goodL j = true → nameAt z k (97 + j) ∈ ws))
    ⟨ws, none, none, rfl, sm, ek, epm, hlm, hw, .inr fun j hj => absurd hj (Nat.not_lt_zero _)⟩ ?_ ?_⟩
  · rintro i cc σ H2 hc ⟨ws, o10, o11, rfl, sm2, ek2, ep2, hl2, hw2, hg2⟩
    obtain ⟨hi, rfl⟩ := az_get hc
    have e1 := slice_len0 z k
    have e2 := slice_len1 z (k + 1)
    rw [hk] at e1
    rw [show (((k + 1 : Nat) : Int)) = c / 7 % (1 + c % 12) + 1 by omega] at e2
    have nm : (Txt.slice z none (some (c / 7 % (1 + c % 12))) ++ ⟨#[97 + i]⟩ ++ Txt.slice z (some (c / 7 % (1 + c % 12) + 1)) none : Str) = nameAt z k (97 + i) := by
      unfold nameAt
      rw [hk]
    have wn := nameAt_wd (c := 97 + i) hsm (by omega) (show k < z.length by omega) (by omega) (by omega)
    refine ⟨_, rfl, _, rfl, _, rfl, z, rfl, small2 (by omega), _, rfl, _, _, rfl, rfl, small2 (by show _ + 1 ≤ 1000; omega), _, rfl, _, rfl, _, _, rfl, rfl, _, rfl, z, rfl, small2 (by omega), _, _, rfl, rfl, small2 (by rw [Str.length_append]; show _ + 1 + _ ≤ 1000; omega), ?_⟩
    rw [nm]
    refine ⟨_, rfl, pm, _, rfl, .inl (SqL.of ep2), _, rfl, _, _, rfl, rfl, _, rfl, ?_⟩
    rw [List.length_map]
    refine ite2 (fun c1 => ?_) (fun c1 => ?_)
    · have c1' := of_decide_eq_true c1
      refine ⟨_, rfl, _, rfl, lk, _, rfl, .inl (SqL.of ek2), rfl, flat_kept, _, rfl, ?_⟩
      show if (!inV (.str (nameAt z k (97 + i))) (kept.map V.str)) = true then _ else _
      cases c2 : inV (.str (nameAt z k (97 + i))) (kept.map V.str) with
      | true =>
        refine iteF (iteF ⟨ws, _, _, rfl, sm2, ek2, ep2, hl2, hw2, ?_⟩)
        rcases hg2 with h | h
        · exact .inl h
        · refine .inr fun j hj hgj => ?_
          rcases Nat.lt_or_ge j i with hji | hji
          · exact h j hji hgj
          · have : j = i := by omega
            subst this
            have := good_not (nameAt_mem z k (97 + j)) (by rw [Nat.add_sub_cancel_left]; exact hgj)
            rw [this] at c2; cases c2
      | false =>
        refine iteT ⟨_, rfl, _, rfl, pm, _, rfl, .inl (SqL.of ep2), rfl, flat_strs ws, _, rfl, ?_⟩
        show if (!inV (.str (nameAt z k (97 + i))) (ws.map V.str)) = true then _ else _
        rw [in_strs]
        by_cases c3 : nameAt z k (97 + i) ∈ ws
        · rw [decide_eq_true c3]
          refine iteF ⟨ws, _, _, rfl, sm2, ek2, ep2, hl2, hw2, ?_⟩
          rcases hg2 with h | h
          · exact .inl h
          · refine .inr fun j hj hgj => ?_
            rcases Nat.lt_or_ge j i with hji | hji
            · exact h j hji hgj
            · have : j = i := by omega
              subst this
              exact c3
        · rw [decide_eq_false c3]
          refine iteT ⟨_, rfl, .inl ⟨rfl, _, SqL.of ep2⟩, _, rfl, pm, _, _, rfl, rfl, ep2, small1000 (by rw [List.length_map]; omega), ws ++ [nameAt z k (97 + i)], _, _, rfl, same_upd sm2 hpm, by rw [upd_ne (Ne.symm npk)]; exact ek2, ?_, by rw [List.length_append]; show ((ws.length + 1 : Nat) : Int) ≤ m; omega, fun y hy => ?_, ?_⟩
          · rw [upd_same, List.map_append]; rfl
          · rcases List.mem_append.mp hy with hy | hy
            · exact hw2 y hy
            · have : y = _ := List.mem_singleton.mp hy
              subst this
              exact wn
          · rcases hg2 with h | h
            · omega
            · refine .inr fun j hj hgj => ?_
              rcases Nat.lt_or_ge j i with hji | hji
              · exact List.mem_append_left _ (h j hji hgj)
              · have : j = i := by omega
                subst this
                exact List.mem_append_right _ (by simp)
    · have c1' : ¬ (ws.length : Int) < m := fun y => c1 (decide_eq_true y)
      exact iteF ⟨ws, _, _, rfl, sm2, ek2, ep2, hl2, hw2, .inl (by omega)⟩
  · rintro σ H2 ⟨ws, o10, o11, rfl, sm2, ek2, ep2, hl2, hw2, hg2⟩
    refine ⟨_, rfl, q pm H2 ws sm2 hpm ep2 ?_ hw2⟩
    rcases hg2 with h | h
    · exact h
    · have sz : (az).cps.size = 26 := by decide +kernel
      rw [sz] at h
      have t3 := three_in (h 2 (by decide) (by decide)) (h 3 (by decide) (by decide)) (h 5 (by decide) (by decide)) (fun y => by have := nameAt_inj y; omega) (fun y => by have := nameAt_inj y; omega) (fun y => by have := nameAt_inj y; omega)
      omega
end
end K23
namespace K23
open PySem L2
abbrev AZ : Str := "ABCDEFGHIJKLMNOPQRSTUVWXYZ"
theorem AZ_at {i : Nat} (h : i < 26) : atI (AZ).cps.toList (i : Int) = some (65 + i) := by
  have e : (AZ).cps.toList = List.range' 65 26 := by decide +kernel
  rw [e]
  exact atI_nat (by rw [List.getElem?_range' h]; simp)
theorem AZ_mod (i : Int) : ∃ c, atI (AZ).cps.toList (i % 26) = some c ∧ 65 ≤ c ∧ c ≤ 90 := by
  have n0 := Int.emod_nonneg i (show (26 : Int) ≠ 0 by decide)
  have n1 := Int.emod_lt_of_pos i (show (0 : Int) < 26 by decide)
  have := AZ_at (i := (i % 26).toNat) (by omega)
  rw [show (((i % 26).toNat : Nat) : Int) = i % 26 by omega] at this
  exact ⟨_, this, by omega, by omega⟩
theorem AZ_len : (AZ).length = 26 := by decide +kernel
def thg (z : Str) : Prop := z.length ≤ 12 ∧ ∃ c r, z.cps.toList = c :: r ∧ 65 ≤ c ∧ c ≤ 90 ∧ ∀ d ∈ r, 97 ≤ d ∧ d ≤ 122
theorem thg_of {c : Nat} {e : Str} (h1 : 65 ≤ c) (h2 : c ≤ 90) (hl : e.length ≤ 11) (hs : smA e) : thg ((⟨#[c]⟩ : Str) ++ e) := by
  refine ⟨?_, c, e.cps.toList, ?_, h1, h2, fun d hd => hs d hd⟩
  · rw [Str.length_append]; show 1 + _ ≤ 12; omega
  · rw [Str.cps_append]; simp
def spThings : Sp := fun vs H Q _ => ∃ c m : Int, vs = [.int c, .int m] ∧ 0 < m ∧ m ≤ 3 ∧
  ∀ (p : Addr) (H' : Hp) (ws : List Str), Same H H' → H p = none → H' p = some (.lst (ws.map V.str)) → (ws.length : Int) = m → (∀ z ∈ ws, thg z) → Q (.ref p) H'
theorem ndegc : ((([("_law_end" : Str)] : List Str) ++ [("_law_great" : Str), ("_law_cell_here" : Str)]) : List Str).Nodup := by decide +kernel
theorem ndkgec : ((([("_law_k" : Str)] : List Str) ++ [("_law_great" : Str), ("_law_ends" : Str), ("_law_cell_here" : Str)]) : List Str).Nodup := by decide +kernel
section
variable {P : Program} {w : World} {K : PySem.W.Frag} {mg : Str → Option Value} {base : Heap} {f g e a1 a2 : Addr} {fd gd' ed d1 d2 : FuncData}
theorem scThings : FnScope ["_law_cell_here", "_law_many", "_law_great", "_law_ends"] ["_law_cell_here", "_law_many"] (defScope sThings) := ⟨rfl, rfl, rfl, by decide +kernel, rfl, by decide +kernel, by decide +kernel⟩
theorem ok_things (F : Fun K "_law_things" "_law_things" sThings f fd) (mr : mg "range" = none) (Gw : FnOk P w K mg base CX0 1 a1 d1 ["_law_cell_here", "_law_many"] spWords) (bGw : Binds K d1 ["_law_cell_here", "_law_many"] []) (kGw : PySem.W.keepIn K (.ref a1) = true) (mGw : mg "_law_words" = some (.ref a1)) :
    FnOk P w K mg base CX0 2 f fd ["_law_cell_here", "_law_many"] spThings := by
  refine F.ok scThings (fun vs H Q E h => ?_) (fun cdv A outer s H vs Q E hr h => ?_)
  · obtain ⟨c, m, rfl, _⟩ := h; rfl
  obtain ⟨c, m, rfl, hm0, hm3, q⟩ := h
  have hrw := hr
  refine ⟨_, @pss_cons _ _ _ _ _ (by exact ps_set (i := 2) scThings.nd rfl (Or.inr rfl) pe_str)
    (@pss_cons _ _ _ _ _ (by exact ps_set (i := 3) scThings.nd rfl (Or.inr rfl) (pe_comp ["_law_word"] [] [] rfl (pi_list (pe_call Gw hrw rfl mGw kGw bGw .nil pass0 (pa_cons (pv 0) (pa_cons (pv 1) pa_nil)))) (fun _ _ _ => pg_name (i := 0) ndw rfl (Or.inl rfl)) (fun _ _ _ => pts_nil) (fun _ _ _ => (pe_slice sl_str (pv 0) po_none (po_some pe_int)))))
    (@pss_cons _ _ _ _ _ (by exact ps_if (pt_cmpR op_eq (pe_op op_mod (pe_op op_fdiv (pv 0) pe_int) pe_int) pe_int (nomark _)) (@pss_one _ _ _ (by exact @ps_ret _ _ _ _ (pe_comp ["_law_end"] ["_law_great", "_law_cell_here"] [2, 0] rfl (pi_list (pv 3)) (fun _ _ _ => pg_name (i := 0) ndegc rfl (Or.inl rfl)) (fun _ _ _ => pts_nil) (fun _ _ _ => (pe_op op_add_str (pe_ix ix_str (pv 1) (pe_op op_mod (pe_op op_fdiv (pv 2) pe_int) pe_int) (fun _ _ => rfl)) (pv 0)))))) pss_nil)
    (@pss_one _ _ _ (by exact @ps_ret _ _ _ _ (pe_comp ["_law_k"] ["_law_great", "_law_ends", "_law_cell_here"] [2, 3, 0] rfl (pi_range1 rfl mr (pa_cons (pv 1) pa_nil)) (fun _ _ _ => pg_name (i := 0) ndkgec rfl (Or.inl rfl)) (fun _ _ _ => pts_nil) (fun _ _ _ => (pe_op op_add_str (pe_ix ix_str (pv 1) (pe_op op_mod (pe_op op_add (pe_op op_fdiv (pv 3) pe_int) (pe_op op_mul pe_int (pv 0))) pe_int) (fun _ _ => rfl)) (pe_slice sl_str (pe_ix (r := rIxL K) ix_list (pv 2) pe_int (fun _ _ => rfl)) (po_some pe_int) po_none)))))))), ?_⟩
  refine ⟨_, rfl, _, rfl, c, m, rfl, hm0, hm3, fun p H1 ws s1 hp e1 l1 w1 => ⟨p, rfl, ⟨_, SqL.of e1⟩, fun D hD => ?_⟩⟩
  have sD := same_new hD (.lst [])
  have npD : p ≠ D := ne_of_none e1 hD
  refine cmp_by (ws.map V.str).length (fun i σ H' => (∃ o, σ = [o]) ∧ Same H H' ∧ H' p = some (.lst (ws.map V.str)) ∧ ∃ es : List Str, H' D = some (.lst (es.map V.str)) ∧ es.length = i ∧ ∀ y ∈ es, y.length ≤ 11 ∧ smA y) ⟨⟨_, rfl⟩, s1.trans sD, by rw [upd_ne npD]; exact e1, [], upd_same, rfl, fun y hy => (nomatch hy)⟩ ?_ ?_
  · rintro σ H2 ⟨_, s2, e2, es, eD, le, we⟩
    rw [List.length_map] at le
    refine ⟨⟨_, SqL.of e2, Nat.le_refl _⟩, ?_⟩
    refine ⟨_, rfl, _, _, rfl, rfl, ⟨by decide, by decide⟩, _, _, rfl, rfl, (show (0 : Int) < 2 by decide), rfl, _, rfl, ?_⟩
    refine ite2 (fun _ => ?_) (fun _ => ?_)
    · refine ⟨_, rfl, D, rfl, ⟨_, SqL.of eD⟩, fun D2 hD2 => ?_⟩
      have sD2 := same_new hD2 (.lst [])
      have nD2 : D ≠ D2 := ne_of_none eD hD2
      refine cmp_by (es.map V.str).length (fun i σ H' => (∃ o, σ = [o, some (.str AZ), some (.int c)]) ∧ Same H H' ∧ H' D = some (.lst (es.map V.str)) ∧ ∃ ts : List Str, H' D2 = some (.lst (ts.map V.str)) ∧ ts.length = i ∧ ∀ y ∈ ts, thg y) ⟨⟨_, rfl⟩, s2.trans sD2, by rw [upd_ne nD2]; exact eD, [], upd_same, rfl, fun y hy => (nomatch hy)⟩ ?_ ?_
      · rintro σ H3 ⟨_, s3, e3, ts, eT, lt, wt⟩
        rw [List.length_map] at lt
        exact ⟨⟨_, SqL.of e3, Nat.le_refl _⟩, q D2 H3 ts s3 (none_of_same s2 hD2) eT (by omega) wt⟩
      · rintro i σ H3 hi ⟨⟨o, rfl⟩, s3, e3, ts, eT, lt, wt⟩
        have hi' : i < es.length := by simpa using hi
        refine ⟨⟨_, .str es[i], SqL.of e3, by simp [hi']⟩, ?_⟩
        rintro y H4 ⟨rfl, hy⟩
        have hyi := hy _ (SqL.of e3)
        rw [List.getElem?_map, List.getElem?_eq_getElem hi'] at hyi
        cases hyi
        obtain ⟨cc, ec, c1, c2⟩ := AZ_mod (c / 4)
        obtain ⟨b1, b2⟩ := we _ (List.getElem_mem hi')
        refine ⟨_, rfl, _, rfl, _, _, rfl, rfl, ⟨by decide, by decide⟩, _, _, rfl, rfl, (show (0 : Int) < 26 by decide), AZ, _, cc, rfl, rfl, small2 (by rw [AZ_len]; decide), ec, _, rfl, _, _, rfl, rfl, small2 (by show 1 + _ ≤ 1000; omega), _, eT, small1000 (by rw [List.length_map]; omega), ⟨_, rfl⟩, same_upd s3 (none_of_same s2 hD2), by rw [upd_ne nD2]; exact e3, ts ++ [(⟨#[cc]⟩ : Str) ++ es[i]], ?_, by rw [List.length_append, lt]; rfl, fun y hy => ?_⟩
        · rw [upd_same, List.map_append]; rfl
        · rcases List.mem_append.mp hy with hy | hy
          · exact wt y hy
          · have : y = _ := List.mem_singleton.mp hy
            subst this
            exact thg_of c1 c2 b1 b2
    · refine ⟨_, rfl, m, rfl, by omega, by omega, fun D2 hD2 => ?_⟩
      have sD2 := same_new hD2 (.lst [])
      have nD2 : D ≠ D2 := ne_of_none eD hD2
      have h0 : 0 < es.length := by omega
      refine cmp_by m.toNat (fun i σ H' => (∃ o, σ = [o, some (.str AZ), some (.ref D), some (.int c)]) ∧ Same H H' ∧ H' D = some (.lst (es.map V.str)) ∧ ∃ ts : List Str, H' D2 = some (.lst (ts.map V.str)) ∧ ts.length = i ∧ ∀ y ∈ ts, thg y) ⟨⟨_, rfl⟩, s2.trans sD2, by rw [upd_ne nD2]; exact eD, [], upd_same, rfl, fun y hy => (nomatch hy)⟩ ?_ ?_
      · rintro σ H3 ⟨_, s3, e3, ts, eT, lt, wt⟩
        exact ⟨Nat.le_refl _, q D2 H3 ts s3 (none_of_same s2 hD2) eT (by omega) wt⟩
      · rintro i σ H3 hi ⟨⟨o, rfl⟩, s3, e3, ts, eT, lt, wt⟩
        refine ⟨hi, ?_⟩
        rintro y H4 ⟨rfl, rfl⟩
        obtain ⟨cc, ec, c1, c2⟩ := AZ_mod (c / 4 + 7 * (0 + (i : Int)))
        obtain ⟨b1, b2⟩ := we _ (List.getElem_mem h0)
        have l1 := Txt.slice_le es[0] (some 1) none
        have at0 : atI (es.map V.str) 0 = some (.str es[0]) := atI_nat (j := 0) (by rw [List.getElem?_map, List.getElem?_eq_getElem h0]; rfl)
        refine ⟨_, rfl, _, rfl, _, _, rfl, rfl, ⟨by decide, by decide⟩, _, rfl, _, _, rfl, rfl, .inl ⟨by decide, by decide⟩, _, _, rfl, rfl, _, _, rfl, rfl, (show (0 : Int) < 26 by decide), AZ, _, cc, rfl, rfl, small2 (by rw [AZ_len]; decide), ec, _, rfl, D, _, 0, _, rfl, rfl, SqL.of e3, at0, 1, rfl, es[0], rfl, small2 (by omega), _, _, rfl, rfl, small2 (by show 1 + _ ≤ 1000; omega), _, eT, small1000 (by rw [List.length_map]; omega), ⟨_, rfl⟩, same_upd s3 (none_of_same s2 hD2), by rw [upd_ne nD2]; exact e3, ts ++ [(⟨#[cc]⟩ : Str) ++ Txt.slice es[0] (some 1) none], ?_, by rw [List.length_append, lt]; rfl, fun y hy => ?_⟩
        · rw [upd_same, List.map_append]; rfl
        · rcases List.mem_append.mp hy with hy | hy
          · exact wt y hy
          · have : y = _ := List.mem_singleton.mp hy
            subst this
            exact thg_of c1 c2 (by omega) (smA_slice b2)
  · rintro i σ H2 hi ⟨⟨o, rfl⟩, s2, e2, es, eD, le, we⟩
    have hi' : i < ws.length := by simpa using hi
    refine ⟨⟨_, .str ws[i], SqL.of e2, by simp [hi']⟩, ?_⟩
    rintro y H4 ⟨rfl, hy⟩
    have hyi := hy _ (SqL.of e2)
    rw [List.getElem?_map, List.getElem?_eq_getElem hi'] at hyi
    cases hyi
    obtain ⟨b1, b2, b3⟩ := w1 _ (List.getElem_mem hi')
    have ls := slice_len0 ws[i] 11
    refine ⟨_, rfl, 11, rfl, ws[i], rfl, small2 (by omega), _, eD, small1000 (by rw [List.length_map]; omega), ⟨_, rfl⟩, same_upd s2 (none_of_same s1 hD), by rw [upd_ne npD]; exact e2, es ++ [Txt.slice ws[i] none (some 11)], ?_, by rw [List.length_append, le]; rfl, fun y hy => ?_⟩
    · rw [upd_same, List.map_append]; rfl
    · rcases List.mem_append.mp hy with hy | hy
      · exact we y hy
      · have : y = _ := List.mem_singleton.mp hy
        subst this
        have ls' : (Txt.slice ws[i] none (some 11)).length = min 11 ws[i].length := ls
        exact ⟨by omega, smA_slice b3⟩
end
def NmIn (ws : List Str) : Kd → Prop
  | .nm t => t ∈ ws ∨ t = "anything" ∨ t = "nothing"
  | .two a b => NmIn ws a ∧ NmIn ws b
  | .som _ c => NmIn ws c
def spKind (n : Nat) : Sp := fun vs H Q _ => ∃ (b lk lt : Addr) (x y u : Int) (ws ts : List Str) (d : Nat), vs = [.ref b, .ref lk, .ref lt, .int (d : Int)] ∧ H b = some (.lst [.int x, .int y]) ∧ H lk = some (.lst (ws.map V.str)) ∧ H lt = some (.lst (ts.map V.str)) ∧
  lk ≠ b ∧ lt ≠ b ∧ 0 < ws.length ∧ ws.length ≤ 100 ∧ 0 < ts.length ∧ ts.length ≤ 100 ∧ d < n ∧
  ∀ (v : V) (H' : Hp) (k : Kd) (x' y' : Int), Kp [b] H H' → H' b = some (.lst [.int x', .int y']) → IsK H' k v → k.nt + 1 ≤ 2 ^ d → k.dep ≤ d → NmIn ws k → Q v H'
section
variable {P : Program} {w : World} {K : PySem.W.Frag} {mg : Str → Option Value} {base : Heap} {f g e a1 a2 : Addr} {fd gd' ed d1 d2 : FuncData}
theorem strs_at {ws : List Str} {r : Int} (h0 : 0 ≤ r) (h1 : r < (ws.length : Int)) : ∃ z ∈ ws, atI (ws.map V.str) r = some (.str z) := by
  have hj : r.toNat < ws.length := by omega
  refine ⟨ws[r.toNat], List.getElem_mem hj, ?_⟩
  have z : atI (ws.map V.str) ((r.toNat : Nat) : Int) = some (.str ws[r.toNat]) := atI_nat (by rw [List.getElem?_map, List.getElem?_eq_getElem hj]; rfl)
  rwa [show ((r.toNat : Nat) : Int) = r by omega] at z
theorem scKind : FnScope ["_law_bag", "_law_kin", "_law_ties", "_law_deep", "_law_way", "_law_one"] ["_law_bag", "_law_kin", "_law_ties", "_law_deep"] (defScope sKind) := ⟨rfl, rfl, rfl, by decide +kernel, rfl, by decide +kernel, by decide +kernel⟩
theorem ok_kind {n k0 : Nat} (hk0 : 1 ≤ k0) (F : Fun K "_law_kind" "_law_kind" sKind f fd) (Gk : FnOk P w K mg base CX0 k0 f fd ["_law_bag", "_law_kin", "_law_ties", "_law_deep"] (spKind n)) (bGk : Binds K fd ["_law_bag", "_law_kin", "_law_ties", "_law_deep"] []) (mGk : mg "_law_kind" = some (.ref f)) (ml : mg "len" = none)
    (Gdr : FnOk P w K mg base CX0 1 a1 d1 ["_law_bag", "_law_many"] spDraw) (bGdr : Binds K d1 ["_law_bag", "_law_many"] []) (kGdr : PySem.W.keepIn K (.ref a1) = true) (mGdr : mg "_law_draw" = some (.ref a1)) :
    FnOk P w K mg base CX0 (k0 + 1) f fd ["_law_bag", "_law_kin", "_law_ties", "_law_deep"] (spKind (n + 1)) := by
  refine F.ok scKind (fun vs H Q E h => ?_) (fun cdv A outer s H vs Q E hr h => ?_)
  · obtain ⟨b, lk, lt, x, y, u, ws, ts, d, rfl, _⟩ := h; rfl
  obtain ⟨b, lk, lt, x, y, u, ws, ts, d, rfl, hb, hlk, hlt, nk, nt, w0, w1, t0, t1, hd, q⟩ := h
  have hrk := hr
  have hrdr := hr.mono hk0
  have kGk := F.kp
  refine ⟨_, @pss_cons _ _ _ _ _ (by exact ps_set (i := 4) scKind.nd rfl (Or.inl rfl) (pe_call Gdr hrdr rfl mGdr kGdr bGdr .nil pass0 (pa_cons (pv 0) (pa_cons pe_int pa_nil))))
    (@pss_cons _ _ _ _ _ (by exact ps_if (PW.pt (pw_or (pt_cmpR op_eq (pv 3) pe_int (nomark _)) (pw_or (pt_cmpR op_eq (pe_ix ix_list (pv 0) pe_int (fun _ _ => rfl)) pe_int (nomark _)) (pw_or1 (pt_cmpR op_gt (pv 4) pe_int (nomark _)))))) (@pss_cons _ _ _ _ _ (by exact ps_if (pt_cmpR op_eq (pv 4) pe_int (nomark _)) (@pss_one _ _ _ (by exact @ps_ret _ _ _ _ (pe_ix ix_list (pe_lst (pa_cons pe_str (pa_cons pe_str pa_nil))) (pe_op op_fdiv (pe_call Gdr hrdr rfl mGdr kGdr bGdr .nil pass0 (pa_cons (pv 0) (pa_cons pe_int pa_nil))) pe_int) (fun _ _ => rfl)))) pss_nil) (@pss_one _ _ _ (by exact @ps_ret _ _ _ _ (pe_ix ix_list (pv 1) (pe_call Gdr hrdr rfl mGdr kGdr bGdr .nil pass0 (pa_cons (pv 0) (pa_cons (pe_callB call_len_seq rfl ml PySem.boot_len (pa_cons (pv 1) pa_nil)) pa_nil))) (fun _ _ => rfl))))) pss_nil)
    (@pss_cons _ _ _ _ _ (by exact ps_asg (pe_op op_sub (pe_ix ix_list (pv 0) pe_int (fun _ _ => rfl)) pe_int) (pg_sub (pv 0) pe_int set_list))
    (@pss_cons _ _ _ _ _ (by exact ps_if (pt_cmpR op_lt (pv 4) pe_int (nomark _)) (@pss_one _ _ _ (by exact @ps_ret _ _ _ _ (@pe_tup _ _ _ _ _ (pa_cons pe_str (pa_cons (pe_ix ix_list (pv 2) (pe_call Gdr hrdr rfl mGdr kGdr bGdr .nil pass0 (pa_cons (pv 0) (pa_cons (pe_callB call_len_seq rfl ml PySem.boot_len (pa_cons (pv 2) pa_nil)) pa_nil))) (fun _ _ => rfl)) (pa_cons (pe_call Gk hrk rfl mGk kGk bGk .nil pass0 (pa_cons (pv 0) (pa_cons (pv 1) (pa_cons (pv 2) (pa_cons (pe_op op_sub (pv 3) pe_int) pa_nil))))) pa_nil)))))) pss_nil)
    (@pss_cons _ _ _ _ _ (by exact ps_set (i := 5) scKind.nd rfl (Or.inl rfl) (pe_call Gk hrk rfl mGk kGk bGk .nil pass0 (pa_cons (pv 0) (pa_cons (pv 1) (pa_cons (pv 2) (pa_cons (pe_op op_sub (pv 3) pe_int) pa_nil))))))
    (@pss_one _ _ _ (by exact @ps_ret _ _ _ _ (@pe_tup _ _ _ _ _ (pa_cons pe_str (pa_cons (pv 5) (pa_cons (pe_call Gk hrk rfl mGk kGk bGk .nil pass0 (pa_cons (pv 0) (pa_cons (pv 1) (pa_cons (pv 2) (pa_cons (pe_op op_sub (pv 3) pe_int) pa_nil))))) pa_nil)))))))))), ?_⟩
  have bm : b ∈ [b] := List.mem_singleton.mpr rfl
  have nk' : lk ∉ [b] := fun z => nk (List.mem_singleton.mp z)
  have nt' : lt ∉ [b] := fun z => nt (List.mem_singleton.mp z)
  refine ⟨_, rfl, b, x, 9, _, rfl, hb, by decide, fun x1 way y0 y1 => ?_⟩
  have k1 : Kp [b] H (upd H b (.lst [.int x1, .int y])) := Kp.lst bm hb
  have b1 : upd H b (.lst [.int x1, .int y]) b = some (.lst [.int x1, .int y]) := upd_same
  generalize upd H b (.lst [.int x1, .int y]) = H1 at k1 b1 ⊢
  have lk1 := k1.but _ _ nk' hlk
  have lt1 := k1.but _ _ nt' hlt
  have leaf : ∀ (H2 : Hp) (v : V) (t : Str) (x2 : Int), Kp [b] H1 H2 → H2 b = some (.lst [.int x2, .int y]) → v = .str t → (t ∈ ws ∨ t = "anything" ∨ t = "nothing") → Q v H2 := fun H2 v t x2 k2 b2 e ht =>
    q v H2 (.nm t) x2 y (k1.trans k2) b2 e (Nat.one_le_two_pow) (Nat.zero_le _) ht
  refine ⟨_, rfl, rfl, _, rfl, ?_⟩
  by_cases hd0 : d = 0
  · subst hd0
    rw [show decide (V.int ((0 : Nat) : Int) = V.int 0) = true from rfl]
    refine iteT (iteT ?_)
    refine ⟨_, rfl, rfl, _, rfl, ite2 (fun _ => ?_) (fun _ => ?_)⟩
    · refine ⟨small2 (by show 2 ≤ 1000; decide), fun l hl => ?_⟩
      have sl := same_new hl (.lst [.str "anything", .str "nothing"])
      have nlb : l ≠ b := fun z => by rw [z, b1] at hl; cases hl
      refine ⟨_, rfl, b, x1, 5, _, rfl, sl _ _ b1, by decide, fun x2 r2 r0 r1 => ?_⟩
      have k2 : Kp [b] H1 (upd (upd H1 l (.lst [.str "anything", .str "nothing"])) b (.lst [.int x2, .int y])) := (Kp.of sl).trans (Kp.lst bm (sl _ _ b1))
      have el : upd (upd H1 l (.lst [.str "anything", .str "nothing"])) b (.lst [.int x2, .int y]) l = some (.lst [.str "anything", .str "nothing"]) := by rw [upd_ne nlb]; exact upd_same
      have e01 : r2 / 4 = 0 ∨ r2 / 4 = 1 := by omega
      rcases e01 with e01 | e01
      · refine ⟨_, _, rfl, rfl, ⟨by decide, by decide⟩, l, _, _, .str "anything", rfl, rfl, SqL.of el, ?_, leaf _ _ "anything" x2 k2 upd_same rfl (.inr (.inl rfl))⟩
        rw [e01]; exact atI_nat (j := 0) rfl
      · refine ⟨_, _, rfl, rfl, ⟨by decide, by decide⟩, l, _, _, .str "nothing", rfl, rfl, SqL.of el, ?_, leaf _ _ "nothing" x2 k2 upd_same rfl (.inr (.inr rfl))⟩
        rw [e01]; exact atI_nat (j := 1) rfl
    · refine ⟨_, rfl, _, rfl, _, rfl, lk, _, rfl, .inl (SqL.of lk1), b, x1, _, _, rfl, b1, ?_, fun x2 r2 r0 r1 => ?_⟩
      · rw [List.length_map]; omega
      rw [List.length_map] at r1
      obtain ⟨z, hz, ez⟩ := strs_at r0 r1
      have k2 : Kp [b] H1 (upd H1 b (.lst [.int x2, .int y])) := Kp.lst bm b1
      exact ⟨lk, _, _, _, rfl, rfl, SqL.of (k2.but _ _ nk' lk1), ez, leaf _ _ z x2 k2 upd_same rfl (.inl hz)⟩
  rw [decide_eq_false (show ¬ V.int (d : Int) = V.int 0 from fun z => hd0 (by injection z with z; omega))]
  refine iteF ⟨_, rfl, b, _, 1, _, rfl, rfl, SqL.of b1, atI_nat (j := 1) rfl, rfl, _, rfl, ite2 (fun _ => iteT ?_) (fun _ => ?_)⟩
  · refine ⟨_, rfl, rfl, _, rfl, ite2 (fun _ => ?_) (fun _ => ?_)⟩
    · refine ⟨small2 (by show 2 ≤ 1000; decide), fun l hl => ?_⟩
      have sl := same_new hl (.lst [.str "anything", .str "nothing"])
      have nlb : l ≠ b := fun z => by rw [z, b1] at hl; cases hl
      refine ⟨_, rfl, b, x1, 5, _, rfl, sl _ _ b1, by decide, fun x2 r2 r0 r1 => ?_⟩
      have k2 : Kp [b] H1 (upd (upd H1 l (.lst [.str "anything", .str "nothing"])) b (.lst [.int x2, .int y])) := (Kp.of sl).trans (Kp.lst bm (sl _ _ b1))
      have el : upd (upd H1 l (.lst [.str "anything", .str "nothing"])) b (.lst [.int x2, .int y]) l = some (.lst [.str "anything", .str "nothing"]) := by rw [upd_ne nlb]; exact upd_same
      have e01 : r2 / 4 = 0 ∨ r2 / 4 = 1 := by omega
      rcases e01 with e01 | e01
      · refine ⟨_, _, rfl, rfl, ⟨by decide, by decide⟩, l, _, _, .str "anything", rfl, rfl, SqL.of el, ?_, leaf _ _ "anything" x2 k2 upd_same rfl (.inr (.inl rfl))⟩
        rw [e01]; exact atI_nat (j := 0) rfl
      · refine ⟨_, _, rfl, rfl, ⟨by decide, by decide⟩, l, _, _, .str "nothing", rfl, rfl, SqL.of el, ?_, leaf _ _ "nothing" x2 k2 upd_same rfl (.inr (.inr rfl))⟩
        rw [e01]; exact atI_nat (j := 1) rfl
    · refine ⟨_, rfl, _, rfl, _, rfl, lk, _, rfl, .inl (SqL.of lk1), b, x1, _, _, rfl, b1, ?_, fun x2 r2 r0 r1 => ?_⟩
      · rw [List.length_map]; omega
      rw [List.length_map] at r1
      obtain ⟨z, hz, ez⟩ := strs_at r0 r1
      have k2 : Kp [b] H1 (upd H1 b (.lst [.int x2, .int y])) := Kp.lst bm b1
      exact ⟨lk, _, _, _, rfl, rfl, SqL.of (k2.but _ _ nk' lk1), ez, leaf _ _ z x2 k2 upd_same rfl (.inl hz)⟩
  refine ⟨_, rfl, _, _, rfl, rfl, _, rfl, ite2 (fun _ => ?_) (fun _ => ?_)⟩
  · refine ⟨_, rfl, rfl, _, rfl, ite2 (fun _ => ?_) (fun _ => ?_)⟩
    · refine ⟨small2 (by show 2 ≤ 1000; decide), fun l hl => ?_⟩
      have sl := same_new hl (.lst [.str "anything", .str "nothing"])
      have nlb : l ≠ b := fun z => by rw [z, b1] at hl; cases hl
      refine ⟨_, rfl, b, x1, 5, _, rfl, sl _ _ b1, by decide, fun x2 r2 r0 r1 => ?_⟩
      have k2 : Kp [b] H1 (upd (upd H1 l (.lst [.str "anything", .str "nothing"])) b (.lst [.int x2, .int y])) := (Kp.of sl).trans (Kp.lst bm (sl _ _ b1))
      have el : upd (upd H1 l (.lst [.str "anything", .str "nothing"])) b (.lst [.int x2, .int y]) l = some (.lst [.str "anything", .str "nothing"]) := by rw [upd_ne nlb]; exact upd_same
      have e01 : r2 / 4 = 0 ∨ r2 / 4 = 1 := by omega
      rcases e01 with e01 | e01
      · refine ⟨_, _, rfl, rfl, ⟨by decide, by decide⟩, l, _, _, .str "anything", rfl, rfl, SqL.of el, ?_, leaf _ _ "anything" x2 k2 upd_same rfl (.inr (.inl rfl))⟩
        rw [e01]; exact atI_nat (j := 0) rfl
      · refine ⟨_, _, rfl, rfl, ⟨by decide, by decide⟩, l, _, _, .str "nothing", rfl, rfl, SqL.of el, ?_, leaf _ _ "nothing" x2 k2 upd_same rfl (.inr (.inr rfl))⟩
        rw [e01]; exact atI_nat (j := 1) rfl
    · refine ⟨_, rfl, _, rfl, _, rfl, lk, _, rfl, .inl (SqL.of lk1), b, x1, _, _, rfl, b1, ?_, fun x2 r2 r0 r1 => ?_⟩
      · rw [List.length_map]; omega
      rw [List.length_map] at r1
      obtain ⟨z, hz, ez⟩ := strs_at r0 r1
      have k2 : Kp [b] H1 (upd H1 b (.lst [.int x2, .int y])) := Kp.lst bm b1
      exact ⟨lk, _, _, _, rfl, rfl, SqL.of (k2.but _ _ nk' lk1), ez, leaf _ _ z x2 k2 upd_same rfl (.inl hz)⟩
  obtain ⟨e, rfl⟩ : ∃ e, d = e + 1 := ⟨d - 1, by omega⟩
  refine ⟨_, rfl, b, _, 1, _, rfl, rfl, SqL.of b1, atI_nat (j := 1) rfl, _, _, rfl, rfl, _, rfl, b, _, 1, 1, rfl, rfl, b1, rfl, ?_⟩
  have k2 : Kp [b] H1 (upd H1 b (.lst [.int x1, .int (y - 1)])) := Kp.lst bm b1
  have b2 : upd H1 b (.lst [.int x1, .int (y - 1)]) b = some (.lst [.int x1, .int (y - 1)]) := upd_same
  have lk2 := k2.but _ _ nk' lk1
  have lt2 := k2.but _ _ nt' lt1
  have ed : ((e + 1 : Nat) : Int) - 1 = (e : Int) := by omega
  have p2 : 2 ^ (e + 1) = 2 * 2 ^ e := by rw [Nat.pow_succ]; omega
  refine ⟨_, rfl, _, _, rfl, rfl, _, rfl, ite2 (fun _ => ?_) (fun _ => ?_)⟩
  · refine ⟨_, rfl, _, rfl, _, rfl, lt, _, rfl, .inl (SqL.of lt2), b, x1, _, _, rfl, b2, ?_, fun x3 r3 r0 r1 => ?_⟩
    · rw [List.length_map]; omega
    rw [List.length_map] at r1
    obtain ⟨z, hz, ez⟩ := strs_at r0 r1
    have k3 : Kp [b] (upd H1 b (.lst [.int x1, .int (y - 1)])) (upd (upd H1 b (.lst [.int x1, .int (y - 1)])) b (.lst [.int x3, .int (y - 1)])) := Kp.lst bm b2
    refine ⟨lt, _, _, _, rfl, rfl, SqL.of (k3.but _ _ nt' lt2), ez, ?_⟩
    refine ⟨_, rfl, _, rfl, _, rfl, _, rfl, _, _, rfl, rfl, b, lk, lt, x3, y - 1, u, ws, ts, e, by rw [← ed]; rfl, upd_same, k3.but _ _ nk' lk2, k3.but _ _ nt' lt2, nk, nt, w0, w1, t0, t1, by omega, fun v4 H4 kd x4 y4 k4 b4 i4 n4 dp4 nm4 => ?_⟩
    refine ⟨small2 (by show 3 ≤ 1000; decide), fun t ht => ?_⟩
    have s5 := same_new ht (.tup [.str "some", .str z, v4])
    refine q (.ref t) _ (.som z kd) x4 y4 ((k1.trans k2).trans ((k3.trans k4).trans (.of s5))) (s5 _ _ b4) ⟨t, v4, rfl, upd_same, i4.mono s5.tups⟩ ?_ (by show 1 + kd.dep ≤ _; omega) nm4
    show 1 + kd.nt + 1 ≤ _
    omega
  · refine ⟨_, rfl, _, rfl, _, rfl, _, rfl, _, _, rfl, rfl, b, lk, lt, x1, y - 1, u, ws, ts, e, by rw [← ed]; rfl, b2, lk2, lt2, nk, nt, w0, w1, t0, t1, by omega, fun v4 H4 kd x4 y4 k4 b4 i4 n4 dp4 nm4 => ?_⟩
    refine ⟨_, rfl, _, rfl, _, rfl, _, rfl, _, rfl, _, _, rfl, rfl, b, lk, lt, x4, y4, u, ws, ts, e, by rw [← ed]; rfl, b4, k4.but _ _ nk' lk2, k4.but _ _ nt' lt2, nk, nt, w0, w1, t0, t1, by omega, fun v5 H5 kd2 x5 y5 k5 b5 i5 n5 dp5 nm5 => ?_⟩
    refine ⟨small2 (by show 3 ≤ 1000; decide), fun t ht => ?_⟩
    have s6 := same_new ht (.tup [.str "both", v4, v5])
    refine q (.ref t) _ (.two kd kd2) x5 y5 ((k1.trans k2).trans ((k4.trans k5).trans (.of s6))) (s6 _ _ b5) ⟨t, v4, v5, rfl, upd_same, (i4.mono k5.tups).mono s6.tups, i5.mono s6.tups⟩ ?_ (by show 1 + max kd.dep kd2.dep ≤ _; omega) ⟨nm4, nm5⟩
    show 1 + kd.nt + kd2.nt + 1 ≤ _
    omega
theorem kind_none : FnOk P w K mg base CX0 1 f fd ["_law_bag", "_law_kin", "_law_ties", "_law_deep"] (spKind 0) := by
  have no : ∀ vs H Q E, ¬ spKind 0 vs H Q E := fun vs H Q E h => by
    obtain ⟨b, lk, lt, x, y, u, ws, ts, d, _, _, _, _, _, _, _, _, _, _, h, _⟩ := h
    omega
  exact ⟨fun vs H Q E h => absurd h (no vs H Q E), fun A outer s H args us vs Q E _ _ _ _ h => absurd h (no vs H Q E)⟩
theorem kind_all (F : Fun K "_law_kind" "_law_kind" sKind f fd) (bGk : Binds K fd ["_law_bag", "_law_kin", "_law_ties", "_law_deep"] []) (mGk : mg "_law_kind" = some (.ref f)) (ml : mg "len" = none)
    (Gdr : FnOk P w K mg base CX0 1 a1 d1 ["_law_bag", "_law_many"] spDraw) (bGdr : Binds K d1 ["_law_bag", "_law_many"] []) (kGdr : PySem.W.keepIn K (.ref a1) = true) (mGdr : mg "_law_draw" = some (.ref a1)) :
    ∀ n : Nat, FnOk P w K mg base CX0 (n + 1) f fd ["_law_bag", "_law_kin", "_law_ties", "_law_deep"] (spKind n)
  | 0 => kind_none
  | n + 1 => ok_kind (by omega) F (kind_all F bGk mGk ml Gdr bGdr kGdr mGdr n) bGk mGk ml Gdr bGdr kGdr mGdr
end
end K23
namespace K23
open PySem L2
section
variable {P : Program} {w : World} {K : PySem.W.Frag} {mg : Str → Option Value} {base : Heap} {f g e d a1 a2 a3 a4 a5 aW aF aB aR aM : Addr} {fd gd' ed dd d1 d2 d3 d4 d5 : FuncData}
end
end K23
namespace K23
open PySem L2
def dk (k : Kd) : Prop := k.dep ≤ 2 ∧ k.sz ≤ 7 ∧ lenK k ∧ standsB k = singleB k
theorem okS_of {s : Sy} (h : ∀ k ∈ s.parts, k.dep ≤ 2 ∧ k.sz ≤ 7) : s.okS := ⟨fun k hk => Nat.le_trans (h k hk).2 (by decide), fun k hk => Nat.le_trans (h k hk).1 (by decide)⟩
theorem okS_every {a b : Kd} (ha : dk a) (hb : dk b) : (Sy.every a b).okS := okS_of fun k hk => by
  simp only [Sy.parts, List.mem_cons, List.not_mem_nil, or_false] at hk
  rcases hk with rfl | rfl
  · exact ⟨ha.1, ha.2.1⟩
  · exact ⟨hb.1, hb.2.1⟩
theorem okS_no {a b : Kd} (ha : dk a) (hb : dk b) : (Sy.no a b).okS := okS_of fun k hk => by
  simp only [Sy.parts, List.mem_cons, List.not_mem_nil, or_false] at hk
  rcases hk with rfl | rfl
  · exact ⟨ha.1, ha.2.1⟩
  · exact ⟨hb.1, hb.2.1⟩
theorem nm_ok (x : Str) : (Kd.nm x).dep ≤ 2 ∧ (Kd.nm x).sz ≤ 7 := ⟨Nat.zero_le _, by show 1 ≤ 7; decide⟩
theorem okS_thing {x : Str} {b : Kd} (hb : dk b) : (Sy.thing x b).okS := okS_of fun k hk => by
  simp only [Sy.parts, List.mem_cons, List.not_mem_nil, or_false] at hk
  rcases hk with rfl | rfl
  · exact nm_ok _
  · exact ⟨hb.1, hb.2.1⟩
theorem okS_nms {s : Sy} (h : ∀ k ∈ s.parts, ∃ x, k = .nm x) : s.okS := okS_of fun k hk => by
  obtain ⟨x, rfl⟩ := h k hk
  exact nm_ok x
theorem okS_tied (x t y : Str) : (Sy.tied x t y).okS := okS_nms fun k hk => by
  simp only [Sy.parts, List.mem_cons, List.not_mem_nil, or_false] at hk
  rcases hk with rfl | rfl | rfl <;> exact ⟨_, rfl⟩
theorem okS_within (x t : Str) : (Sy.within x t).okS := okS_nms fun k hk => by
  simp only [Sy.parts, List.mem_cons, List.not_mem_nil, or_false] at hk
  rcases hk with rfl | rfl <;> exact ⟨_, rfl⟩
theorem okS_makes (x t y : Str) : (Sy.makes x t y).okS := okS_nms fun k hk => by
  simp only [Sy.parts, List.mem_cons, List.not_mem_nil, or_false] at hk
  rcases hk with rfl | rfl | rfl <;> exact ⟨_, rfl⟩
theorem call_listH {X : Cx} : CallR X (.type "list") (fun xs H Q => ∃ p ys, xs = [V.ref p] ∧ H p = some (.lst ys) ∧ ∀ l, H l = none → Q (.ref l) (upd H l (.lst ys))) := by
  intro pins s σ H xs us Q I r h
  obtain ⟨p, ys, e, hp, q⟩ := h
  exact call_list_of pins s σ H xs us Q I r ⟨p, ys, e, .inl (SqL.of hp), q⟩
theorem ndst : ((([("_law_step" : Str)] : List Str) ++ []) : List Str).Nodup := by decide +kernel
theorem sl2 (z : Str) : (Txt.slice z none (some 1)).cps.toList = z.cps.toList.take 1 := by
  rw [slice_cps]
  have hz : z.cps.toList.length = z.length := by simp [Str.length]
  have e : HT.sIx z.length z.length (some 1) = min 1 z.length := HT.sIx_nat z.length z.length 1
  have e2 : HT.sIx z.length 0 none = 0 := rfl
  rw [e, e2, List.drop_zero, Nat.sub_zero]
  rcases Nat.eq_zero_or_pos z.length with h | h
  · have : z.cps.toList = [] := List.eq_nil_of_length_eq_zero (by omega)
    rw [this]; simp
  · have : min 1 z.length = 1 := by omega
    rw [this]
theorem upB_of {t : Str} {c : Nat} {r : List Nat} (h : t.cps.toList = c :: r) (hc : c < 128) : upB t = decide (65 ≤ c ∧ c ≤ 90) := by
  have e : Txt.slice t none (some 1) = ⟨#[c]⟩ := by
    have := sl2 t
    rw [h] at this
    have e2 : (Txt.slice t none (some 1)).cps.toList = [c] := this
    cases hs : Txt.slice t none (some 1) with
    | mk a =>
      rw [hs] at e2
      congr 1
      exact Array.toList_inj.mp e2
  have big : ∀ c, c < 128 → Txt.isupper ⟨#[c]⟩ = decide (65 ≤ c ∧ c ≤ 90) := by decide +kernel
  unfold upB
  rw [e, big c hc]
theorem len_cps (t : Str) : t.cps.toList.length = t.length := by simp [Str.length]
theorem dk_anyK : dk (.nm "anything") := ⟨Nat.zero_le _, by show 1 ≤ 7; decide, by show (Str.ofString "anything").length ≤ 1000; decide +kernel, by
  show thingB "anything" = upB "anything"
  rw [upB_of (c := 97) (r := [110, 121, 116, 104, 105, 110, 103]) (by decide +kernel) (by decide)]
  decide +kernel⟩
theorem dk_nothK : dk (.nm "nothing") := ⟨Nat.zero_le _, by show 1 ≤ 7; decide, by show (Str.ofString "nothing").length ≤ 1000; decide +kernel, by
  show thingB "nothing" = upB "nothing"
  rw [upB_of (c := 110) (r := [111, 116, 104, 105, 110, 103]) (by decide +kernel) (by decide)]
  decide +kernel⟩
theorem sz_le_nt : ∀ k : Kd, k.sz ≤ 2 * k.nt + 1
  | .nm _ => by simp [Kd.nt, Kd.sz]
  | .two a b => by have := sz_le_nt a; have := sz_le_nt b; simp only [Kd.nt, Kd.sz]; omega
  | .som _ c => by have := sz_le_nt c; simp only [Kd.nt, Kd.sz]; omega
theorem len_of {ws : List Str} (hw : ∀ z ∈ ws, dk (.nm z)) : ∀ (k : Kd), NmIn ws k → lenK k
  | .nm t, h => by
    rcases h with h | h | h
    · exact (hw t h).2.2.1
    · rw [h]; exact dk_anyK.2.2.1
    · rw [h]; exact dk_nothK.2.2.1
  | .two a b, h => ⟨len_of hw a h.1, len_of hw b h.2⟩
  | .som _ c, h => len_of hw c h
theorem dk_kind {k : Kd} {ws : List Str} (hn : k.nt + 1 ≤ 2 ^ 2) (hd : k.dep ≤ 2) (hi : NmIn ws k) (hw : ∀ z ∈ ws, dk (.nm z)) : dk k := by
  have := sz_le_nt k
  have hs : k.sz ≤ 7 := by omega
  cases k with
  | nm t =>
    rcases hi with h | h | h
    · exact hw t h
    · rw [h]; exact dk_anyK
    · rw [h]; exact dk_nothK
  | two a b => exact ⟨hd, hs, len_of hw (.two a b) hi, rfl⟩
  | som r c => exact ⟨hd, hs, len_of hw (.som r c) hi, rfl⟩
theorem StL.weak {L L' : List Addr} {H : Hp} {xs : List V} {ss : List Stp} (h : StL L H xs ss) (hl : ∀ a ∈ L', a ∈ L) : StL L' H xs ss := Paired.imp' (fun _ _ q => by
  obtain ⟨p, pf, vf, e, h1, h2, h3, h4⟩ := q
  exact ⟨p, pf, vf, e, h1, h2, h3, fun z => h4 (hl _ z)⟩) h
theorem list3 {ts : List Str} (e : ts.length = 3) : ∃ a b c, ts = [a, b, c] := by
  match ts, e with
  | [a, b, c], _ => exact ⟨a, b, c, rfl⟩
theorem list2 {ts : List Str} (e : ts.length = 2) : ∃ a b, ts = [a, b] := by
  match ts, e with
  | [a, b], _ => exact ⟨a, b, rfl⟩
theorem ints_dp (l : List Int) : xdps (l.map Tx.int) ≤ 0 := xdps_le fun d hd => by
  obtain ⟨c, _, rfl⟩ := List.mem_map.mp hd
  exact Nat.le_refl _
theorem num_dp : ∀ n : Option Int, (numX n).dp ≤ 0
  | none => Nat.le_refl _
  | some _ => Nat.le_refl _
theorem steps_dp {ss : List Stp} (h : ∀ s ∈ ss, s.f.lo 8) : (Tx.lst (ss.map Stp.tx)).dp ≤ 60 := by
  have : xdps (ss.map Stp.tx) ≤ 11 := xdps_le fun d hd => by
    obtain ⟨s, hs, rfl⟩ := List.mem_map.mp hd
    have h1 := Fa.dp (h s hs)
    have h2 := ints_dp s.fr
    have h3 := num_dp s.n
    show 1 + max s.f.tx.dp (max 0 (max (1 + xdps (s.fr.map Tx.int)) (max (numX s.n).dp 0))) ≤ 11
    omega
  show 1 + xdps _ ≤ 60
  omega
section
variable {P : Program} {w : World} {K : PySem.W.Frag} {mg : Str → Option Value} {base : Heap} {f g e a1 a2 a3 a4 a5 a6 a7 a8 : Addr} {fd gd' ed d1 d2 d3 d4 d5 d6 d7 d8 : FuncData}
theorem scCopy : FnScope ["_law_steps"] ["_law_steps"] (defScope sCopy) := ⟨rfl, rfl, rfl, by decide +kernel, rfl, by decide +kernel, by decide +kernel⟩
end
end K23
namespace K23
open PySem L2
def dn (k : Kd) : Prop := dk k ∧ k.nt ≤ 3
theorem dn_kind {k : Kd} {ws : List Str} (hn : k.nt + 1 ≤ 2 ^ 2) (hd : k.dep ≤ 2) (hi : NmIn ws k) (hw : ∀ z ∈ ws, dk (.nm z)) : dn k := ⟨dk_kind hn hd hi hw, by omega⟩
def dS : Sy → Prop
  | .every a b => dn a ∧ dn b
  | .no a b => dn a ∧ dn b
  | .thing x k => dk (.nm x) ∧ dn k
  | .tied x _ y => dk (.nm x) ∧ dk (.nm y)
  | .within _ _ => True
  | .makes _ _ _ => True
theorem dS.okS : ∀ {s : Sy}, dS s → s.okS
  | .every _ _, h => okS_every h.1.1 h.2.1
  | .no _ _, h => okS_no h.1.1 h.2.1
  | .thing _ _, h => okS_thing h.2.1
  | .tied _ _ _, _ => okS_tied _ _ _
  | .within _ _, _ => okS_within _ _
  | .makes _ _ _, _ => okS_makes _ _ _
structure Env (H : Hp) (b lk lt lh : Addr) (ws ts hs : List Str) : Prop where
  hk : H lk = some (.lst (ws.map V.str))
  lw : ws.length = 3
  dw : ∀ z ∈ ws, dk (.nm z)
  ht : H lt = some (.lst (ts.map V.str))
  lt' : ts.length = 2
  hh : H lh = some (.lst (hs.map V.str))
  lh' : hs.length = 2
  dh : ∀ z ∈ hs, dk (.nm z)
  nk : lk ≠ b
  nt : lt ≠ b
  nh : lh ≠ b
theorem one_not {a b : Addr} (h : a ≠ b) : a ∉ [b] := fun z => h (List.mem_singleton.mp z)
theorem Env.kp {H H' : Hp} {b lk lt lh : Addr} {ws ts hs : List Str} (e : Env H b lk lt lh ws ts hs) (k : Kp [b] H H') : Env H' b lk lt lh ws ts hs :=
  ⟨k.but _ _ (one_not e.nk) e.hk, e.lw, e.dw, k.but _ _ (one_not e.nt) e.ht, e.lt', k.but _ _ (one_not e.nh) e.hh, e.lh', e.dh, e.nk, e.nt, e.nh⟩
def spSaying : Sp := fun vs H Q _ => ∃ (b lk lt lh : Addr) (x y : Int) (ws ts hs : List Str), vs = [.ref b, .ref lk, .ref lt, .ref lh] ∧ H b = some (.lst [.int x, .int y]) ∧ Env H b lk lt lh ws ts hs ∧
  ∀ (v : V) (H' : Hp) (s : Sy) (x' y' : Int), Kp [b] H H' → H' b = some (.lst [.int x', .int y']) → IsSy H' s v → dS s → Q v H'
theorem ndktb : ((([("_law_k" : Str)] : List Str) ++ [("_law_ties" : Str), ("_law_bag" : Str)]) : List Str).Nodup := by decide +kernel
theorem call_lenH {X : Cx} : CallR X (.builtin "len") (fun xs H Q => ∃ p ys, xs = [V.ref p] ∧ H p = some (.lst ys) ∧ Q (.int (ys.length : Int)) H) := fun pins s σ H xs us Q I r ⟨p, ys, e, h, q⟩ =>
  call_len_seq pins s σ H xs us Q I r ⟨p, ys, e, .inl (SqL.of h), q⟩
theorem Env.p1 {H : Hp} {b lk lt lh : Addr} {ws ts hs : List Str} (e : Env H b lk lt lh ws ts hs) : 0 < ws.length := by have := e.lw; omega
theorem Env.p2 {H : Hp} {b lk lt lh : Addr} {ws ts hs : List Str} (e : Env H b lk lt lh ws ts hs) : ws.length ≤ 100 := by have := e.lw; omega
theorem Env.p3 {H : Hp} {b lk lt lh : Addr} {ws ts hs : List Str} (e : Env H b lk lt lh ws ts hs) : 0 < ts.length := by have := e.lt'; omega
theorem Env.p4 {H : Hp} {b lk lt lh : Addr} {ws ts hs : List Str} (e : Env H b lk lt lh ws ts hs) : ts.length ≤ 100 := by have := e.lt'; omega
theorem bag {H : Hp} {b : Addr} {x y : Int} (x1 : Int) (hb : H b = some (.lst [.int x, .int y])) : Kp [b] H (upd H b (.lst [.int x1, .int y])) ∧ upd H b (.lst [.int x1, .int y]) b = some (.lst [.int x1, .int y]) := ⟨Kp.lst (List.mem_singleton.mpr rfl) hb, upd_same⟩
theorem say_new {H : Hp} {t : Addr} {xs : List V} {s : Sy} (ht : H t = none) (k : KL H xs s.parts) : IsSy (upd H t (.tup (.str (ruS s.hd) :: xs))) s (.ref t) := ⟨t, xs, rfl, upd_same, KL.mono (same_new ht _).tups k⟩
section
variable {P : Program} {w : World} {K : PySem.W.Frag} {mg : Str → Option Value} {base : Heap} {f g e a1 a2 a3 a4 a5 a6 a7 a8 : Addr} {fd gd' ed d1 d2 d3 d4 d5 d6 d7 d8 : FuncData}
theorem scSaying : FnScope ["_law_bag", "_law_kin", "_law_ties", "_law_things_here", "_law_way", "_law_form", "_law_one", "_law_thing", "_law_some"] ["_law_bag", "_law_kin", "_law_ties", "_law_things_here"] (defScope sSaying) := ⟨rfl, rfl, rfl, by decide +kernel, rfl, by decide +kernel, by decide +kernel⟩
theorem ok_saying (F : Fun K "_law_saying" "_law_saying" sSaying f fd) (ml : mg "len" = none) (mr : mg "range" = none)
    (Gdr : FnOk P w K mg base CX0 1 a1 d1 ["_law_bag", "_law_many"] spDraw) (bGdr : Binds K d1 ["_law_bag", "_law_many"] []) (kGdr : PySem.W.keepIn K (.ref a1) = true) (mGdr : mg "_law_draw" = some (.ref a1))
    (Gk : FnOk P w K mg base CX0 4 a2 d2 ["_law_bag", "_law_kin", "_law_ties", "_law_deep"] (spKind 3)) (bGk : Binds K d2 ["_law_bag", "_law_kin", "_law_ties", "_law_deep"] []) (kGk : PySem.W.keepIn K (.ref a2) = true) (mGk : mg "_law_kind" = some (.ref a2)) :
    FnOk P w K mg base CX0 5 f fd ["_law_bag", "_law_kin", "_law_ties", "_law_things_here"] spSaying := by
  refine F.ok scSaying (fun vs H Q E h => ?_) (fun cdv A outer s H vs Q E hr h => ?_)
  · obtain ⟨b, lk, lt, lh, x, y, ws, ts, hs, rfl, _⟩ := h; rfl
  obtain ⟨b, lk, lt, lh, x, y, ws, ts, hs, rfl, hb, en, q⟩ := h
  have hrdr := hr.mono (show 1 ≤ 4 by decide)
  have hrk := hr
  refine ⟨_, @pss_cons _ _ _ _ _ (by exact ps_set (i := 4) scSaying.nd rfl (Or.inl rfl) (pe_call Gdr hrdr rfl mGdr kGdr bGdr .nil pass0 (pa_cons (pv 0) (pa_cons pe_int pa_nil))))
    (@pss_cons _ _ _ _ _ (by exact ps_if (pt_cmpR op_lt (pv 4) pe_int (nomark _)) (@pss_cons _ _ _ _ _ (by exact ps_set (i := 5) scSaying.nd rfl (Or.inl rfl) pe_str) (@pss_mid _ _ _ _ _ (by exact ps_if (pt_cmpR op_eq (pv 4) pe_int (nomark _)) (@pss_one _ _ _ (by exact ps_set (i := 5) scSaying.nd rfl (Or.inl rfl) pe_str)) pss_nil) (@pss_cons _ _ _ _ _ (by exact ps_set (i := 6) scSaying.nd rfl (Or.inl rfl) (pe_call Gk hrk rfl mGk kGk bGk .nil pass0 (pa_cons (pv 0) (pa_cons (pv 1) (pa_cons (pv 2) (pa_cons pe_int pa_nil)))))) (@pss_one _ _ _ (by exact @ps_ret _ _ _ _ (@pe_tup _ _ _ _ _ (pa_cons (pv 5) (pa_cons (pv 6) (pa_cons (pe_call Gk hrk rfl mGk kGk bGk .nil pass0 (pa_cons (pv 0) (pa_cons (pv 1) (pa_cons (pv 2) (pa_cons pe_int pa_nil))))) pa_nil))))))))) pss_nil)
    (@pss_cons _ _ _ _ _ (by exact ps_set (i := 7) scSaying.nd rfl (Or.inl rfl) (pe_ix ix_list (pv 3) (pe_call Gdr hrdr rfl mGdr kGdr bGdr .nil pass0 (pa_cons (pv 0) (pa_cons (pe_callB call_len_seq rfl ml PySem.boot_len (pa_cons (pv 3) pa_nil)) pa_nil))) (fun _ _ => rfl)))
    (@pss_cons _ _ _ _ _ (by exact ps_if (pt_cmpR op_lt (pv 4) pe_int (nomark _)) (@pss_one _ _ _ (by exact @ps_ret _ _ _ _ (@pe_tup _ _ _ _ _ (pa_cons pe_str (pa_cons (pv 7) (pa_cons (pe_call Gk hrk rfl mGk kGk bGk .nil pass0 (pa_cons (pv 0) (pa_cons (pv 1) (pa_cons (pv 2) (pa_cons pe_int pa_nil))))) pa_nil)))))) pss_nil)
    (@pss_cons _ _ _ _ _ (by exact ps_setC (i := 8) ["_law_k"] ["_law_ties", "_law_bag"] [2, 0] scSaying.nd rfl rfl (pi_range1 rfl mr (pa_cons pe_int pa_nil)) (fun _ _ _ => pg_name (i := 0) ndktb rfl (Or.inl rfl)) (fun _ _ _ => pts_nil) (fun _ _ _ => (pe_ix (r := rIxL K) ix_list (pv 1) (pe_call Gdr hrdr rfl mGdr kGdr bGdr .nil pass0 (pa_cons (pv 2) (pa_cons (pe_callB call_lenH rfl ml PySem.boot_len (pa_cons (pv 1) pa_nil)) pa_nil))) (fun _ _ => rfl))))
    (@pss_cons _ _ _ _ _ (by exact ps_if (pt_cmpR op_lt (pv 4) pe_int (nomark _)) (@pss_one _ _ _ (by exact @ps_ret _ _ _ _ (@pe_tup _ _ _ _ _ (pa_cons pe_str (pa_cons (pv 7) (pa_cons (pe_ix ix_list (pv 8) pe_int (fun _ _ => rfl)) (pa_cons (pe_ix ix_list (pv 3) (pe_call Gdr hrdr rfl mGdr kGdr bGdr .nil pass0 (pa_cons (pv 0) (pa_cons (pe_callB call_len_seq rfl ml PySem.boot_len (pa_cons (pv 3) pa_nil)) pa_nil))) (fun _ _ => rfl)) pa_nil))))))) pss_nil)
    (@pss_cons _ _ _ _ _ (by exact ps_if (pt_cmpR op_eq (pv 4) pe_int (nomark _)) (@pss_one _ _ _ (by exact @ps_ret _ _ _ _ (@pe_tup _ _ _ _ _ (pa_cons pe_str (pa_cons (pe_ix ix_list (pv 8) pe_int (fun _ _ => rfl)) (pa_cons (pe_ix ix_list (pv 8) pe_int (fun _ _ => rfl)) pa_nil)))))) pss_nil)
    (@pss_one _ _ _ (by exact @ps_ret _ _ _ _ (@pe_tup _ _ _ _ _ (pa_cons pe_str (pa_cons (pe_ix ix_list (pv 8) pe_int (fun _ _ => rfl)) (pa_cons (pe_ix ix_list (pv 8) pe_int (fun _ _ => rfl)) (pa_cons (pe_ix ix_list (pv 8) pe_int (fun _ _ => rfl)) pa_nil))))))))))))), ?_⟩
  have fin : ∀ {H' : Hp} {x' y' : Int} {t : Addr} {xs : List V} (s : Sy), Kp [b] H H' → H' b = some (.lst [.int x', .int y']) → H' t = none → KL H' xs s.parts → dS s → Q (.ref t) (upd H' t (.tup (.str (ruS s.hd) :: xs))) :=
    fun s k b' ht kl ds => q _ _ s _ _ (k.trans (.of (same_new ht _))) ((same_new ht _) _ _ b') (say_new ht kl) ds
  have lhs := en.lh'
  have lts := en.lt'
  refine ⟨_, rfl, b, x, 12, [.int y], rfl, hb, by decide, fun x1 way _ _ => ?_⟩
  obtain ⟨k1, b1⟩ := bag x1 hb
  generalize upd H b (.lst [.int x1, .int y]) = H1 at k1 b1 ⊢
  have e1 := en.kp k1
  refine ⟨_, rfl, _, _, rfl, rfl, _, rfl, ite2 (fun _ => ?_) (fun _ => ?_)⟩
  · refine ⟨fun σ H' => ∃ fo : Str, (fo = "every" ∨ fo = "no") ∧ σ = [some (.ref b), some (.ref lk), some (.ref lt), some (.ref lh), some (.int way), some (.str fo), none, none, none] ∧ H' = H1, ?_, ?_⟩
    · refine ⟨_, rfl, rfl, _, rfl, ite2 (fun _ => ?_) (fun _ => ?_)⟩
      · exact ⟨"no", .inr rfl, rfl, rfl⟩
      · exact ⟨"every", .inl rfl, rfl, rfl⟩
    rintro σ H' ⟨fo, hfo, rfl, rfl⟩
    refine ⟨_, rfl, _, rfl, _, rfl, b, lk, lt, x1, y, 0, ws, ts, 2, rfl, b1, e1.hk, e1.ht, e1.nk, e1.nt, e1.p1, e1.p2, e1.p3, e1.p4, by decide, fun v1 H2 q1 x2 y2 k2 b2 i1 nt1 dp1 nm1 => ?_⟩
    have e2 := e1.kp k2
    refine ⟨_, rfl, _, rfl, _, rfl, _, rfl, _, rfl, b, lk, lt, x2, y2, 0, ws, ts, 2, rfl, b2, e2.hk, e2.ht, e2.nk, e2.nt, e2.p1, e2.p2, e2.p3, e2.p4, by decide, fun v2 H3 q2 x3 y3 k3 b3 i2 nt2 dp2 nm2 => ?_⟩
    refine ⟨small2 (by show 3 ≤ 1000; decide), fun t ht => ?_⟩
    have k03 := (k1.trans k2).trans k3
    have kl : KL H3 [v1, v2] [q1, q2] := .cons (i1.mono k3.tups) (.cons i2 .nil)
    have n1 := dn_kind nt1 dp1 nm1 en.dw
    have n2 := dn_kind nt2 dp2 nm2 en.dw
    rcases hfo with rfl | rfl
    · exact fin (.every q1 q2) k03 b3 ht kl ⟨n1, n2⟩
    · exact fin (.no q1 q2) k03 b3 ht kl ⟨n1, n2⟩
  refine ⟨_, rfl, _, rfl, _, rfl, lh, _, rfl, .inl (SqL.of e1.hh), b, x1, _, [.int y], rfl, b1, by rw [List.length_map, lhs]; decide, fun x2 r r0 rm => ?_⟩
  obtain ⟨k2, b2⟩ := bag x2 b1
  generalize upd H1 b (.lst [.int x2, .int y]) = H2 at k2 b2 ⊢
  have e2 := e1.kp k2
  obtain ⟨z, hz, ez⟩ := strs_at (ws := hs) r0 (by rw [List.length_map] at rm; exact rm)
  refine ⟨lh, _, _, _, rfl, rfl, SqL.of e2.hh, ez, ?_⟩
  have k02 := k1.trans k2
  have dz := en.dh z hz
  refine ⟨_, rfl, _, _, rfl, rfl, _, rfl, ite2 (fun _ => ?_) (fun _ => ?_)⟩
  · refine ⟨_, rfl, _, rfl, _, rfl, _, rfl, b, lk, lt, x2, y, 0, ws, ts, 2, rfl, b2, e2.hk, e2.ht, e2.nk, e2.nt, e2.p1, e2.p2, e2.p3, e2.p4, by decide, fun v2 H3 q2 x3 y3 k3 b3 i2 nt2 dp2 nm2 => ?_⟩
    refine ⟨small2 (by show 3 ≤ 1000; decide), fun t ht => ?_⟩
    exact fin (.thing z q2) (k02.trans k3) b3 ht (.cons rfl (.cons i2 .nil)) ⟨dz, dn_kind nt2 dp2 nm2 en.dw⟩
  refine ⟨3, rfl, by decide, by decide, fun D hD => ?_⟩
  have nDb : D ≠ b := fun z => by rw [z, b2] at hD; cases hD
  have ntD : lt ≠ D := ne_of_none e2.ht hD
  refine cmp_by 3 (fun i σ H' => (∃ o, σ = [o, some (.ref lt), some (.ref b)]) ∧ Kp [b, D] H2 H' ∧ (∃ x' y', H' b = some (.lst [.int x', .int y'])) ∧ ∃ us : List Str, H' D = some (.lst (us.map V.str)) ∧ us.length = i) ⟨⟨_, rfl⟩, .of (same_new hD _), ⟨_, _, (same_new hD _) _ _ b2⟩, [], upd_same, rfl⟩ ?_ ?_
  · rintro σ H3 ⟨_, kD, ⟨x3, y3, b3⟩, us, eD, lus⟩
    have k3 : Kp [b] H2 H3 := ⟨fun c o hc hco => kD.but c o (by
      simp only [List.mem_cons, List.not_mem_nil, or_false, not_or]
      exact ⟨fun z => hc (by rw [z]; exact List.mem_singleton.mpr rfl), fun z => by rw [z, hD] at hco; cases hco⟩) hco, kD.tups⟩
    have e3 := e2.kp k3
    have k03 := k02.trans k3
    obtain ⟨u0, u1, u2, rfl⟩ := list3 lus
    refine ⟨Nat.le_refl _, ?_⟩
    have s0 : SqL K H3 D [.str u0, .str u1, .str u2] := SqL.of eD
    refine ⟨_, rfl, _, _, rfl, rfl, _, rfl, ite2 (fun _ => ?_) (fun _ => ?_)⟩
    · refine ⟨_, rfl, _, rfl, D, _, _, _, rfl, rfl, s0, rfl, _, rfl, _, rfl, _, rfl, lh, _, rfl, .inl (SqL.of e3.hh), b, x3, _, [.int y3], rfl, b3, by rw [List.length_map, lhs]; decide, fun x4 r' r0' rm' => ?_⟩
      obtain ⟨k4, b4⟩ := bag x4 b3
      generalize upd H3 b (.lst [.int x4, .int y3]) = H4 at k4 b4 ⊢
      obtain ⟨z', hz', ez'⟩ := strs_at (ws := hs) r0' (by rw [List.length_map] at rm'; exact rm')
      refine ⟨lh, _, _, _, rfl, rfl, SqL.of (e3.kp k4).hh, ez', small2 (by show 4 ≤ 1000; decide), fun t ht => ?_⟩
      exact fin (.tied z u0 z') (k03.trans k4) b4 ht (.cons rfl (.cons rfl (.cons rfl .nil))) ⟨dz, en.dh z' hz'⟩
    refine ⟨_, rfl, rfl, _, rfl, ite2 (fun _ => ?_) (fun _ => ?_)⟩
    · refine ⟨_, rfl, D, _, _, _, rfl, rfl, s0, rfl, _, rfl, D, _, _, _, rfl, rfl, s0, rfl, small2 (by show 3 ≤ 1000; decide), fun t ht => ?_⟩
      exact fin (.within u0 u1) k03 b3 ht (.cons rfl (.cons rfl .nil)) trivial
    · refine ⟨_, rfl, D, _, _, _, rfl, rfl, s0, rfl, _, rfl, D, _, _, _, rfl, rfl, s0, rfl, _, rfl, D, _, _, _, rfl, rfl, s0, rfl, small2 (by show 4 ≤ 1000; decide), fun t ht => ?_⟩
      exact fin (.makes u0 u1 u2) k03 b3 ht (.cons rfl (.cons rfl (.cons rfl .nil))) trivial
  · rintro i σ H' hi ⟨⟨o, rfl⟩, kD, ⟨x', y', b'⟩, us, eD, lus⟩
    refine ⟨hi, ?_⟩
    rintro v H4 ⟨rfl, rfl⟩
    have ntL : lt ∉ [b, D] := by simp only [List.mem_cons, List.not_mem_nil, or_false, not_or]; exact ⟨en.nt, ntD⟩
    refine ⟨_, rfl, _, rfl, _, rfl, lt, _, rfl, kD.but _ _ ntL e2.ht, b, x', _, [.int y'], rfl, b', by rw [List.length_map, lts]; decide, fun x4 r2 r0 r3 => ?_⟩
    have kb2 : Kp [b, D] H4 (upd H4 b (.lst [.int x4, .int y'])) := Kp.lst (by simp) b'
    have kD2 := kD.trans kb2
    obtain ⟨z, hz, ez⟩ := strs_at (ws := ts) r0 (by rw [List.length_map] at r3; exact r3)
    have eD2 : upd H4 b (.lst [.int x4, .int y']) D = some (.lst (us.map V.str)) := by rw [upd_ne nDb]; exact eD
    have kD3 : Kp [b, D] (upd H4 b (.lst [.int x4, .int y'])) (upd (upd H4 b (.lst [.int x4, .int y'])) D (.lst (us.map V.str ++ [.str z]))) := Kp.lst (by simp) eD2
    have hi3 : i < 3 := hi
    refine ⟨lt, _, _, _, rfl, rfl, SqL.of (kD2.but _ _ ntL e2.ht), ez, _, eD2, small1000 (by rw [List.length_map]; omega), ⟨_, rfl⟩, kD2.trans kD3, ⟨x4, y', by rw [upd_ne (Ne.symm nDb)]; exact upd_same⟩, us ++ [z], ?_, by rw [List.length_append, lus]; rfl⟩
    rw [upd_same, List.map_append]; rfl
end
end K23
namespace K23
open PySem L2
def spNumbered : Sp := fun vs H Q _ => ∃ (lc b lk lt lh : Addr) (x y : Int) (cs : List Int) (ws ts hs : List Str), vs = [.ref lc, .ref b, .ref lk, .ref lt, .ref lh] ∧ H lc = some (.lst (cs.map V.int)) ∧ lc ≠ b ∧ cs.length ≤ 90 ∧ H b = some (.lst [.int x, .int y]) ∧ Env H b lk lt lh ws ts hs ∧
  ∀ (l : Addr) (H' : Hp) (ys : List V) (ps : List (Int × Sy)) (x' y' : Int), Kp [b] H H' → H l = none → H' l = some (.lst ys) → PrL H' ys ps → ps.length = cs.length → (∀ q ∈ ps, dS q.2) → H' b = some (.lst [.int x', .int y']) → Q (.ref l) H'
theorem Kp.drop {b l : Addr} {H H1 : Hp} (hl : H l = none) (k : Kp [b, l] H H1) : Kp [b] H H1 := ⟨fun c o hc hco => k.but c o (by
  simp only [List.mem_cons, List.not_mem_nil, or_false, not_or]
  exact ⟨fun z => hc (by rw [z]; exact List.mem_singleton.mpr rfl), fun z => by rw [z, hl] at hco; cases hco⟩) hco, k.tups⟩
theorem two_not {a b l : Addr} (h : a ≠ b) (h' : a ≠ l) : a ∉ [b, l] := by
  simp only [List.mem_cons, List.not_mem_nil, or_false, not_or]; exact ⟨h, h'⟩
section
variable {P : Program} {w : World} {K : PySem.W.Frag} {mg : Str → Option Value} {base : Heap} {f g e a1 a2 a3 a4 a5 a6 a7 a8 : Addr} {fd gd' ed d1 d2 d3 d4 d5 d6 d7 d8 : FuncData}
theorem scNumbered : FnScope ["_law_cells", "_law_bag", "_law_kin", "_law_ties", "_law_things_here", "_law_pairs", "_law_number", "_law_cell_here"] ["_law_cells", "_law_bag", "_law_kin", "_law_ties", "_law_things_here"] (defScope sNumbered) := ⟨rfl, rfl, rfl, by decide +kernel, rfl, by decide +kernel, by decide +kernel⟩
theorem ok_numbered (F : Fun K "_law_numbered" "_law_numbered" sNumbered f fd)
    (Gdr : FnOk P w K mg base CX0 1 a1 d1 ["_law_bag", "_law_many"] spDraw) (bGdr : Binds K d1 ["_law_bag", "_law_many"] []) (kGdr : PySem.W.keepIn K (.ref a1) = true) (mGdr : mg "_law_draw" = some (.ref a1))
    (Gsy : FnOk P w K mg base CX0 5 a2 d2 ["_law_bag", "_law_kin", "_law_ties", "_law_things_here"] spSaying) (bGsy : Binds K d2 ["_law_bag", "_law_kin", "_law_ties", "_law_things_here"] []) (kGsy : PySem.W.keepIn K (.ref a2) = true) (mGsy : mg "_law_saying" = some (.ref a2)) :
    FnOk P w K mg base CX0 6 f fd ["_law_cells", "_law_bag", "_law_kin", "_law_ties", "_law_things_here"] spNumbered := by
  refine F.ok scNumbered (fun vs H Q E h => ?_) (fun cdv A outer s H vs Q E hr h => ?_)
  · obtain ⟨lc, b, lk, lt, lh, x, y, cs, ws, ts, hs, rfl, _⟩ := h; rfl
  obtain ⟨lc, b, lk, lt, lh, x, y, cs, ws, ts, hs, rfl, hc, ncb, hz, hb, en, q⟩ := h
  have hrdr := hr.mono (show 1 ≤ 5 by decide)
  have hrsy := hr
  refine ⟨_, @pss_cons _ _ _ _ _ (by exact ps_set (i := 5) scNumbered.nd rfl (Or.inl rfl) (pe_lst pa_nil))
    (@pss_cons _ _ _ _ _ (by exact ps_set (i := 6) scNumbered.nd rfl (Or.inl rfl) pe_int)
    (@pss_cons _ _ _ _ _ (by exact ps_for PassesOwn.never rfl (pi_list (pv 0)) (pg_name (i := 7) scNumbered.nd rfl (Or.inl rfl)) (@pss_cons _ _ _ _ _ (by exact ps_asg (pe_op op_mod (pe_op op_add (pe_ix ix_list (pv 1) pe_int (fun _ _ => rfl)) (pv 7)) pe_int) (pg_sub (pv 1) pe_int set_list)) (@pss_cons _ _ _ _ _ (by exact ps_set (i := 6) scNumbered.nd rfl (Or.inl rfl) (pe_op op_add (pe_op op_add (pv 6) pe_int) (pe_call Gdr hrdr rfl mGdr kGdr bGdr .nil pass0 (pa_cons (pv 1) (pa_cons pe_int pa_nil))))) (@pss_mid _ _ _ _ _ (by exact ps_if (pt_cmpR op_eq (pe_call Gdr hrdr rfl mGdr kGdr bGdr .nil pass0 (pa_cons (pv 1) (pa_cons pe_int pa_nil))) pe_int (nomark _)) (@pss_one _ _ _ (by exact ps_set (i := 6) scNumbered.nd rfl (Or.inl rfl) (pe_op op_add (pv 6) (pe_op op_mod (pv 7) (pe_op op_pow pe_int pe_int))))) pss_nil) (@pss_one _ _ _ (by exact ps_expr (pe_bm PySem.F.plainAttrs_list PySem.F.slot_list_append PySem.F.type_list_append mt_append (pv 5) (@pa_consN _ _ _ _ _ (@pe_tup _ _ _ _ _ (pa_cons (pv 6) (pa_cons (pe_call Gsy hrsy rfl mGsy kGsy bGsy .nil pass0 (pa_cons (pv 1) (pa_cons (pv 2) (pa_cons (pv 3) (pa_cons (pv 4) pa_nil))))) pa_nil))) pa_nil rfl))))))))
    (@pss_one _ _ _ (by exact @ps_ret _ _ _ _ (pv 5))))), ?_⟩
  have cpow : CPow 10 20 := ⟨by decide, by decide, by decide⟩
  refine ⟨Nat.zero_le _, fun l hl => ?_⟩
  have s1 := same_new hl (.lst [])
  have nlb : l ≠ b := fun z => by rw [z, hb] at hl; cases hl
  have ncl := ne_of_none hc hl
  refine ⟨_, rfl, lc, rfl, ⟨_, SqL.of (s1 _ _ hc)⟩, for_list (xs := cs.map V.int) (fun i σ H' => (∃ (n : Int) (o : Option V), σ = [some (.ref lc), some (.ref b), some (.ref lk), some (.ref lt), some (.ref lh), some (.ref l), some (.int n), o]) ∧ Kp [b, l] H H' ∧ (∃ x' y', H' b = some (.lst [.int x', .int y'])) ∧ ∃ ys ps, H' l = some (.lst ys) ∧ PrL H' ys ps ∧ ps.length = i ∧ ∀ q ∈ ps, dS q.2)
    ⟨⟨_, _, rfl⟩, .of s1, ⟨_, _, s1 _ _ hb⟩, [], [], upd_same, .nil, rfl, fun _ h => (List.not_mem_nil h).elim⟩ ?_ ?_ ?_⟩
  · rintro i σ H' hi ⟨_, k, _⟩
    exact SqL.of (k.but _ _ (two_not ncb ncl) hc)
  · rintro i v σ H' hx ⟨⟨n, o, rfl⟩, k, ⟨x', y', b'⟩, ys, ps, el, pr, lps, dps⟩
    have hi : i < cs.length := by have := (List.getElem?_eq_some_iff.mp hx).1; rwa [List.length_map] at this
    obtain ⟨c, rfl⟩ : ∃ c : Int, v = .int c := by
      obtain ⟨c, _, e⟩ := List.mem_map.mp (List.mem_of_getElem? hx)
      exact ⟨c, e.symm⟩
    refine ⟨_, rfl, b, _, 0, _, rfl, rfl, SqL.of b', atI_nat (j := 0) rfl, _, rfl, _, _, rfl, rfl, _, _, rfl, rfl, (show (0 : Int) < 2147483647 by decide), _, rfl, b, _, 0, 0, rfl, rfl, b', ixN0 _, ?_⟩
    have kb : Kp [b, l] H (upd H' b (.lst [.int ((x' + c) % 2147483647), .int y'])) := k.trans (Kp.lst (by simp) b')
    have el2 : upd H' b (.lst [.int ((x' + c) % 2147483647), .int y']) l = some (.lst ys) := by rw [upd_ne nlb]; exact el
    have b2 : upd H' b (.lst [.int ((x' + c) % 2147483647), .int y']) b = some (.lst [.int ((x' + c) % 2147483647), .int y']) := upd_same
    have pr2 := PrL.mono (Kp.lst (L := [b]) (o := .lst [.int ((x' + c) % 2147483647), .int y']) (by simp) b').tups pr
    show tSeq _ _ _ _ (upd H' b (.lst [.int ((x' + c) % 2147483647), .int y']))
    generalize upd H' b (.lst [.int ((x' + c) % 2147483647), .int y']) = H2 at kb el2 b2 pr2 ⊢
    generalize (x' + c) % 2147483647 = x2 at b2
    refine ⟨_, rfl, _, _, rfl, rfl, _, rfl, b, x2, 3, [.int y'], rfl, b2, by decide, fun x3 r _ _ => ?_⟩
    obtain ⟨k3, b3⟩ := bag x3 b2
    generalize upd H2 b (.lst [.int x3, .int y']) = H3 at k3 b3 ⊢
    refine ⟨_, _, rfl, rfl, ?_⟩
    refine ⟨fun σ H' => ∃ (n' x4 : Int), σ = [some (.ref lc), some (.ref b), some (.ref lk), some (.ref lt), some (.ref lh), some (.ref l), some (.int n'), some (.int c)] ∧ Kp [b] H2 H' ∧ H' b = some (.lst [.int x4, .int y']), ?_, ?_⟩
    · refine ⟨_, rfl, b, x3, 12, [.int y'], rfl, b3, by decide, fun x4 r' _ _ => ?_⟩
      obtain ⟨k4, b4⟩ := bag x4 b3
      generalize upd H3 b (.lst [.int x4, .int y']) = H4 at k4 b4 ⊢
      refine ⟨rfl, _, rfl, ite2 (fun _ => ?_) (fun _ => ?_)⟩
      · exact ⟨_, rfl, _, rfl, 10, 20, rfl, rfl, cpow, c, _, rfl, rfl, (show (0 : Int) < 10 ^ (20 : Int).toNat by decide), _, _, rfl, rfl, _, x4, rfl, k3.trans k4, b4⟩
      · exact ⟨_, x4, rfl, k3.trans k4, b4⟩
    rintro σ H4 ⟨n', x4, rfl, k4, b4⟩
    have nlb1 : l ∉ [b] := one_not nlb
    have el4 := k4.but _ _ nlb1 el2
    have en4 := (en.kp (kb.drop hl)).kp k4
    refine ⟨_, rfl, .inl ⟨rfl, _, SqL.of el4⟩, _, rfl, _, rfl, _, rfl, _, rfl, _, rfl, b, lk, lt, lh, x4, y', ws, ts, hs, rfl, b4, en4, fun v H5 sy x5 y5 k5 b5 is ds => ?_⟩
    have el5 := k5.but _ _ nlb1 el4
    refine ⟨small2 (by show 2 ≤ 1000; decide), fun t ht => ?_⟩
    have st := same_new ht (.tup [.int n', v])
    have el6 := st _ _ el5
    have lys : ys.length = i := by rw [Paired.length pr]; exact lps
    have k46 : Kp [b, l] H2 (upd H5 t (.tup [.int n', v])) := ((k4.trans k5).trans (.of st)).mono (by simp)
    have k67 : Kp [b, l] (upd H5 t (.tup [.int n', v])) (upd (upd H5 t (.tup [.int n', v])) l (.lst (ys ++ [.ref t]))) := Kp.lst (by simp) el6
    have pr6 : PrL (upd (upd H5 t (.tup [.int n', v])) l (.lst (ys ++ [.ref t]))) (ys ++ [.ref t]) (ps ++ [(n', sy)]) := by
      refine paired_app (PrL.mono (k46.trans k67).tups pr2) (.cons ?_ .nil)
      exact ⟨t, v, rfl, k67.tups _ _ upd_same, IsSy.mono (st.tups.trans k67.tups) is⟩
    refine ⟨l, ys, _, rfl, rfl, el6, small1000 (by omega), ⟨_, _, rfl⟩, (kb.trans k46).trans k67, ⟨x5, y5, by rw [upd_ne (Ne.symm nlb)]; exact st _ _ b5⟩, _, _, upd_same, pr6, by rw [List.length_append, lps]; rfl, fun q hq => ?_⟩
    rcases List.mem_append.mp hq with hq | hq
    · exact dps q hq
    · rw [List.mem_singleton.mp hq]; exact ds
  · rintro σ H' ⟨⟨n, o, rfl⟩, k, ⟨x', y', b'⟩, ys, ps, el, pr, lps, dps⟩
    rw [List.length_map] at lps
    exact ⟨_, rfl, q l H' ys ps x' y' (k.drop hl) hl el pr lps dps b'⟩
end
end K23
namespace K23
open PySem L2
def spSize (n : Nat) : Sp := fun vs H Q _ => ∃ (v : V) (k : Kd), vs = [v] ∧ IsK H k v ∧ k.dep < n ∧ Q (.int (k.nt : Int)) H
theorem both_some : decide (V.str (Str.ofString "both") = V.str (Str.ofString "some")) = false := by rw [dec_str]; decide +kernel
theorem some_some : decide (V.str (Str.ofString "some") = V.str (Str.ofString "some")) = true := decide_eq_true rfl
section
variable {P : Program} {w : World} {K : PySem.W.Frag} {mg : Str → Option Value} {base : Heap} {f g e a1 a2 a3 a4 a5 a6 a7 a8 : Addr} {fd gd' ed d1 d2 d3 d4 d5 d6 d7 d8 : FuncData}
theorem scSize : FnScope ["_law_kind_here"] ["_law_kind_here"] (defScope sSize) := ⟨rfl, rfl, rfl, by decide +kernel, rfl, by decide +kernel, by decide +kernel⟩
theorem ok_size {n k0 : Nat} (F : Fun K "_law_size" "_law_size" sSize f fd) (Gsz : FnOk P w K mg base CX0 k0 f fd ["_law_kind_here"] (spSize n)) (bGsz : Binds K fd ["_law_kind_here"] []) (mGsz : mg "_law_size" = some (.ref f)) (mi : mg "isinstance" = none) (mt : mg "tuple" = none) :
    FnOk P w K mg base CX0 (k0 + 1) f fd ["_law_kind_here"] (spSize (n + 1)) := by
  refine F.ok scSize (fun vs H Q E h => ?_) (fun cdv A outer s H vs Q E hr h => ?_)
  · obtain ⟨v, k, rfl, _⟩ := h; rfl
  obtain ⟨v, k, rfl, ik, hd, q⟩ := h
  have kGsz := F.kp
  have hrsz := hr
  refine ⟨_, @pss_cons _ _ _ _ _ (by exact ps_if (pt_not (pt_val (pe_callB call_isinst rfl mi PyProof.Rows.boot_isinstance (pa_cons (pv 0) (pa_cons (pe_bltn (v := .ty "tuple") rfl mt PyProof.Rows.boot_tuple rfl) pa_nil))))) (@pss_one _ _ _ (by exact @ps_ret _ _ _ _ pe_int)) pss_nil)
    (@pss_cons _ _ _ _ _ (by exact ps_if (pt_cmpR op_eq (pe_ix ix_tup (pv 0) pe_int (fun _ _ => rfl)) pe_str (nomark _)) (@pss_one _ _ _ (by exact @ps_ret _ _ _ _ (pe_op op_add pe_int (pe_call Gsz hrsz rfl mGsz kGsz bGsz .nil pass0 (pa_cons (pe_ix ix_tup (pv 0) pe_int (fun _ _ => rfl)) pa_nil))))) pss_nil)
    (@pss_one _ _ _ (by exact @ps_ret _ _ _ _ (pe_op op_add (pe_op op_add pe_int (pe_call Gsz hrsz rfl mGsz kGsz bGsz .nil pass0 (pa_cons (pe_ix ix_tup (pv 0) pe_int (fun _ _ => rfl)) pa_nil))) (pe_call Gsz hrsz rfl mGsz kGsz bGsz .nil pass0 (pa_cons (pe_ix ix_tup (pv 0) pe_int (fun _ _ => rfl)) pa_nil)))))), ?_⟩
  cases k with
  | nm x =>
    cases ik
    exact ⟨_, rfl, _, _, _, false, rfl, TyOf.str x, kit_st K, _, rfl, iteT q⟩
  | two a b =>
    obtain ⟨p, x, y, rfl, hp, ia, ib⟩ := ik
    have hd' : 1 + max a.dep b.dep < n + 1 := hd
    refine ⟨_, rfl, _, _, _, true, rfl, TyOf.tup hp, kit_tt K, _, rfl, iteF ⟨_, rfl, p, _, _, _, rfl, rfl, SqT.of hp, rfl, rfl, _, rfl, ?_⟩⟩
    rw [both_some]
    refine iteF ⟨_, rfl, p, _, _, _, rfl, rfl, SqT.of hp, rfl, x, a, rfl, ia, by omega, _, _, rfl, rfl, _, rfl, p, _, _, _, rfl, rfl, SqT.of hp, rfl, y, b, rfl, ib, by omega, _, _, rfl, rfl, ?_⟩
    have e : ((1 : Int) + (a.nt : Int) + (b.nt : Int)) = ((Kd.two a b).nt : Int) := by show _ = ((1 + a.nt + b.nt : Nat) : Int); omega
    show Q (.int ((1 : Int) + (a.nt : Int) + (b.nt : Int))) H
    rw [e]
    exact q
  | som r c =>
    obtain ⟨p, y, rfl, hp, ic⟩ := ik
    have hd' : 1 + c.dep < n + 1 := hd
    refine ⟨_, rfl, _, _, _, true, rfl, TyOf.tup hp, kit_tt K, _, rfl, iteF ⟨_, rfl, p, _, _, _, rfl, rfl, SqT.of hp, rfl, rfl, _, rfl, ?_⟩⟩
    rw [some_some]
    refine iteT ⟨_, rfl, p, _, _, _, rfl, rfl, SqT.of hp, rfl, y, c, rfl, ic, by omega, _, _, rfl, rfl, ?_⟩
    have e : ((1 : Int) + (c.nt : Int)) = ((Kd.som r c).nt : Int) := by show _ = ((1 + c.nt : Nat) : Int); omega
    show Q (.int ((1 : Int) + (c.nt : Int))) H
    rw [e]
    exact q
theorem size_none : FnOk P w K mg base CX0 1 f fd ["_law_kind_here"] (spSize 0) := by
  have no : ∀ vs H Q E, ¬ spSize 0 vs H Q E := fun vs H Q E h => by
    obtain ⟨v, k, _, _, h, _⟩ := h
    omega
  exact ⟨fun vs H Q E h => absurd h (no vs H Q E), fun A outer s H args us vs Q E _ _ _ _ h => absurd h (no vs H Q E)⟩
theorem size_all (F : Fun K "_law_size" "_law_size" sSize f fd) (bGsz : Binds K fd ["_law_kind_here"] []) (mGsz : mg "_law_size" = some (.ref f)) (mi : mg "isinstance" = none) (mt : mg "tuple" = none) : ∀ n : Nat, FnOk P w K mg base CX0 (n + 1) f fd ["_law_kind_here"] (spSize n)
  | 0 => size_none
  | n + 1 => ok_size F (size_all F bGsz mGsz mi mt n) bGsz mGsz mi mt
end
end K23
namespace K23
open PySem L2
theorem dep_le_nt : ∀ k : Kd, k.dep ≤ k.nt
  | .nm _ => Nat.le_refl _
  | .two a b => by have := dep_le_nt a; have := dep_le_nt b; show 1 + max a.dep b.dep ≤ 1 + a.nt + b.nt; omega
  | .som _ c => by have := dep_le_nt c; show 1 + c.dep ≤ 1 + c.nt; omega
def okE : Fa → Prop
  | .is x k => dk x ∧ k.nt ≤ 4 ∧ lenK k
  | .has x _ y => dk x ∧ y.nt ≤ 4 ∧ lenK y
def okFr (N : Nat) (fr : List Int) : Prop := fr.length ≤ 2 ∧ ∀ z ∈ fr, 0 ≤ z ∧ z < (N : Int)
theorem okFr0 {N : Nat} : okFr N [] := ⟨Nat.zero_le _, fun _ h => (List.not_mem_nil h).elim⟩
theorem okFr1 {N i : Nat} (h : i < N) : okFr N [(i : Int)] := ⟨by show 1 ≤ 2; decide, fun z hz => by rw [List.mem_singleton.mp hz]; omega⟩
theorem okFr2 {N i j : Nat} (h : i < N) (h' : j < N) : okFr N [(i : Int), (j : Int)] := ⟨Nat.le_refl _, fun z hz => by
  rcases List.mem_cons.mp hz with e | hz
  · rw [e]; omega
  · rw [List.mem_singleton.mp hz]; omega⟩
structure Md (N : Nat) (L : List Addr) (l : Addr) (H0 H' : Hp) (c : Nat) (mv : List V) (ms : List Stp) : Prop where
  k : Kp [l] H0 H'
  e : H' l = some (.lst mv)
  st : StL (l :: L) H' mv ms
  ok : ∀ m ∈ ms, okE m.f ∧ okFr N m.fr
  len : ms.length ≤ c
theorem Md.le {N : Nat} {L : List Addr} {l : Addr} {H0 H' : Hp} {c d : Nat} {mv : List V} {ms : List Stp} (h : Md N L l H0 H' c mv ms) (hd : c ≤ d) : Md N L l H0 H' d mv ms := ⟨h.k, h.e, h.st, h.ok, Nat.le_trans h.len hd⟩
theorem Md.add {N : Nat} {L : List Addr} {l : Addr} {H0 H' H1 : Hp} {c : Nat} {mv : List V} {ms : List Stp} {t p : Addr} {vf : V} {f : Fa} {r : Str} {fr : List Int} {n : Option Int} (h : Md N L l H0 H' c mv ms) (hl : ∀ a ∈ L, H0 a ≠ none)
    (s : Same H' H1) (h2 : H1 t = some (.tup [vf, .str r, .ref p, numV n])) (hp : H1 p = some (.lst (fr.map V.int))) (np : H' p = none) (hf : IsF H1 f vf) (of : okE f) (lf : okFr N fr) :
    Md N L l H0 (upd H1 l (.lst (mv ++ [.ref t]))) (c + 1) (mv ++ [.ref t]) (ms ++ [⟨f, r, fr, n⟩]) := by
  have e1 := s _ _ h.e
  have k1 : Kp [l] H' (upd H1 l (.lst (mv ++ [.ref t]))) := (Kp.of s).trans (Kp.lst (List.mem_singleton.mpr rfl) e1)
  have npl : p ≠ l := fun z => by rw [z, h.e] at np; cases np
  have kl : Kp [l] H1 (upd H1 l (.lst (mv ++ [.ref t]))) := Kp.lst (List.mem_singleton.mpr rfl) e1
  refine ⟨h.k.trans k1, upd_same, paired_app ?_ (.cons ?_ .nil), ?_, ?_⟩
  · exact StL.keep (k1.mono (by simp)) h.st
  · refine ⟨t, p, vf, rfl, kl.tups _ _ h2, hf.mono kl.tups, by rw [upd_ne npl]; exact hp, fun z => ?_⟩
    rcases List.mem_cons.mp z with z | z
    · exact npl z
    · cases c : H0 p with
      | none => exact hl p z c
      | some o => rw [h.k.but p o (one_not npl) c] at np; cases np
  · intro m hm
    rcases List.mem_append.mp hm with hm | hm
    · exact h.ok m hm
    · rw [List.mem_singleton.mp hm]; exact ⟨of, lf⟩
  · rw [List.length_append]; exact Nat.add_le_add_right h.len 1
def endMd (N : Nat) (L : List Addr) (H : Hp) (Q : VK) : Prop := ∀ (l : Addr) (H' : Hp) (mv : List V) (ms : List Stp), Same H H' → H l = none → H' l = some (.lst mv) → StL L H' mv ms → (∀ m ∈ ms, okE m.f ∧ okFr N m.fr) → ms.length ≤ 6 → Q (.ref l) H'
theorem Md.fin {N : Nat} {L : List Addr} {l : Addr} {H H' : Hp} {mv : List V} {ms : List Stp} {Q : VK} (hl : H l = none) (q : endMd N L H Q) (h : Md N L l (upd H l (.lst [])) H' 6 mv ms) : Q (.ref l) H' := by
  refine q l H' mv ms (fun a o ha => ?_) hl h.e (h.st.weak fun _ z => List.mem_cons_of_mem _ z) h.ok h.len
  have : a ≠ l := fun z => by rw [z, hl] at ha; cases ha
  exact h.k.but a o (one_not this) (by rw [upd_ne this]; exact ha)
theorem Md.new {N : Nat} {L : List Addr} {l : Addr} {H : Hp} (hl : H l = none) : Md N L l (upd H l (.lst [])) (upd H l (.lst [])) 0 [] [] := ⟨Kp.refl _ _, upd_same, .nil, fun _ h => (List.not_mem_nil h).elim, Nat.zero_le _⟩
theorem Md.keep {L : List Addr} {l : Addr} {H : Hp} (hl : H l = none) (h : ∀ a ∈ L, H a ≠ none) : ∀ a ∈ L, upd H l (.lst []) a ≠ none := fun a ha e => by
  by_cases z : a = l
  · exact h a ha (by rw [z]; exact hl)
  · rw [upd_ne z] at e; exact h a ha e
def spWaysK : Sp := fun vs H Q _ => ∃ (L : List Addr) (ls : Addr) (i j : Nat) (n : Int) (vy : V) (xs : List V) (ss : List Stp) (si sj : Stp) (x k : Kd) (sy : Sy), vs = [.ref ls, .int (i : Int), .int (j : Int), .int n, vy] ∧ (∀ a ∈ L, H a ≠ none) ∧ H ls = some (.lst xs) ∧ StL [] H xs ss ∧
  ss[i]? = some si ∧ ss[j]? = some sj ∧ si.f = .is x k ∧ okE si.f ∧ okE sj.f ∧ IsSy H sy vy ∧ dS sy ∧ endMd ss.length L H Q
theorem both_both : decide (V.str (Str.ofString "both") = V.str (Str.ofString "both")) = true := decide_eq_true rfl
theorem some_both : decide (V.str (Str.ofString "some") = V.str (Str.ofString "both")) = false := by rw [dec_str]; decide +kernel
theorem is_is : decide (V.str (Str.ofString "is") = V.str (Str.ofString "is")) = true := decide_eq_true rfl
theorem has_is' : decide (V.str (Str.ofString "has") = V.str (Str.ofString "is")) = false := by rw [dec_str]; decide +kernel
theorem Md.same {N : Nat} {L : List Addr} {l : Addr} {H0 H' H1 : Hp} {c : Nat} {mv : List V} {ms : List Stp} (h : Md N L l H0 H' c mv ms) (s : Same H' H1) : Md N L l H0 H1 c mv ms := ⟨h.k.trans (.of s), s _ _ h.e, StL.keep (.of s) h.st, h.ok, h.len⟩
theorem three {H' : Hp} {t1 p1 t2 : Addr} {T1 T2 xs : List V} (h1 : H' t1 = none) (h2 : upd H' t1 (.tup T1) p1 = none) (h3 : upd (upd H' t1 (.tup T1)) p1 (.lst xs) t2 = none) :
    Same H' (upd (upd (upd H' t1 (.tup T1)) p1 (.lst xs)) t2 (.tup T2)) ∧ Same (upd H' t1 (.tup T1)) (upd (upd (upd H' t1 (.tup T1)) p1 (.lst xs)) t2 (.tup T2)) ∧ upd (upd (upd H' t1 (.tup T1)) p1 (.lst xs)) t2 (.tup T2) p1 = some (.lst xs) ∧ upd (upd (upd H' t1 (.tup T1)) p1 (.lst xs)) t2 (.tup T2) t2 = some (.tup T2) ∧ H' p1 = none := by
  have s1 := same_new h1 (.tup T1)
  have s2 := same_new h2 (.lst xs)
  have s3 := same_new h3 (.tup T2)
  exact ⟨(s1.trans s2).trans s3, s2.trans s3, s3 _ _ upd_same, upd_same, none_of_same s1 h2⟩
section
variable {P : Program} {w : World} {K : PySem.W.Frag} {mg : Str → Option Value} {base : Heap} {f g e a1 a2 a3 a4 a5 a6 a7 a8 : Addr} {fd gd' ed d1 d2 d3 d4 d5 d6 d7 d8 : FuncData}
theorem scWaysK : FnScope ["_law_steps", "_law_i", "_law_j", "_law_number", "_law_saying_here", "_law_x", "_law_kind_here", "_law_two", "_law_made"] ["_law_steps", "_law_i", "_law_j", "_law_number", "_law_saying_here"] (defScope sWaysK) := ⟨rfl, rfl, rfl, by decide +kernel, rfl, by decide +kernel, by decide +kernel⟩
theorem ok_waysK (F : Fun K "_law_ways_of_kind" "_law_ways_of_kind" sWaysK f fd) (mi : mg "isinstance" = none) (mt : mg "tuple" = none)
    (Gsz : FnOk P w K mg base CX0 6 a1 d1 ["_law_kind_here"] (spSize 5)) (bGsz : Binds K d1 ["_law_kind_here"] []) (kGsz : PySem.W.keepIn K (.ref a1) = true) (mGsz : mg "_law_size" = some (.ref a1)) :
    FnOk P w K mg base CX0 7 f fd ["_law_steps", "_law_i", "_law_j", "_law_number", "_law_saying_here"] spWaysK := by
  refine F.ok scWaysK (fun vs H Q E h => ?_) (fun cdv A outer s H vs Q E hr h => ?_)
  · obtain ⟨L, ls, i, j, n, vy, xs, ss, si, sj, x, k, sy, rfl, _⟩ := h; rfl
  obtain ⟨L, ls, i, j, n, vy, xs, ss, si, sj, x, k, sy, rfl, hL, hls, hst, hi, hj, ef, oi, oj, isy, ds, q⟩ := h
  have hrsz := hr
  have hin := (List.getElem?_eq_some_iff.mp hi).1
  have hjn := (List.getElem?_eq_some_iff.mp hj).1
  refine ⟨_, @pss_cons _ _ _ _ _ (by exact ps_set (i := 5) scWaysK.nd rfl (Or.inl rfl) (pe_ix ix_tup (pe_ix ix_tup (pe_ix ix_list (pv 0) (pv 1) (fun _ _ => rfl)) pe_int (fun _ _ => rfl)) pe_int (fun _ _ => rfl)))
    (@pss_cons _ _ _ _ _ (by exact ps_set (i := 6) scWaysK.nd rfl (Or.inl rfl) (pe_ix ix_tup (pe_ix ix_tup (pe_ix ix_list (pv 0) (pv 1) (fun _ _ => rfl)) pe_int (fun _ _ => rfl)) pe_int (fun _ _ => rfl)))
    (@pss_cons _ _ _ _ _ (by exact ps_set (i := 7) scWaysK.nd rfl (Or.inl rfl) (pe_ix ix_tup (pe_ix ix_list (pv 0) (pv 2) (fun _ _ => rfl)) pe_int (fun _ _ => rfl)))
    (@pss_cons _ _ _ _ _ (by exact ps_set (i := 8) scWaysK.nd rfl (Or.inl rfl) (pe_lst pa_nil))
    (@pss_mid _ _ _ _ _ (by exact ps_if (PW.pt (pw_and (pt_val (pe_callB call_isinst rfl mi PyProof.Rows.boot_isinstance (pa_cons (pv 6) (pa_cons (pe_bltn (v := .ty "tuple") rfl mt PyProof.Rows.boot_tuple rfl) pa_nil)))) (pw_and1 (pt_cmpR op_eq (pe_ix ix_tup (pv 6) pe_int (fun _ _ => rfl)) pe_str (nomark _))))) (@pss_cons _ _ _ _ _ (by exact ps_expr (pe_bm PySem.F.plainAttrs_list PySem.F.slot_list_append PySem.F.type_list_append mt_append (pv 8) (@pa_consN _ _ _ _ _ (@pe_tup _ _ _ _ _ (@pa_consN _ _ _ _ _ (@pe_tup _ _ _ _ _ (pa_cons pe_str (pa_cons (pv 5) (pa_cons (pe_ix ix_tup (pv 6) pe_int (fun _ _ => rfl)) pa_nil)))) (@pa_consN _ _ _ _ _ pe_str (@pa_consN _ _ _ _ _ (pe_lst (pa_cons (pv 1) pa_nil)) (@pa_consN _ _ _ _ _ pe_non pa_nil rfl) rfl) rfl) rfl)) pa_nil rfl))) (@pss_one _ _ _ (by exact ps_expr (pe_bm PySem.F.plainAttrs_list PySem.F.slot_list_append PySem.F.type_list_append mt_append (pv 8) (@pa_consN _ _ _ _ _ (@pe_tup _ _ _ _ _ (@pa_consN _ _ _ _ _ (@pe_tup _ _ _ _ _ (pa_cons pe_str (pa_cons (pv 5) (pa_cons (pe_ix ix_tup (pv 6) pe_int (fun _ _ => rfl)) pa_nil)))) (@pa_consN _ _ _ _ _ pe_str (@pa_consN _ _ _ _ _ (pe_lst (pa_cons (pv 1) pa_nil)) (@pa_consN _ _ _ _ _ pe_non pa_nil rfl) rfl) rfl) rfl)) pa_nil rfl))))) pss_nil)
    (@pss_mid _ _ _ _ _ (by exact ps_if (PW.pt (pw_and (pt_val (pe_callB call_isinst rfl mi PyProof.Rows.boot_isinstance (pa_cons (pv 6) (pa_cons (pe_bltn (v := .ty "tuple") rfl mt PyProof.Rows.boot_tuple rfl) pa_nil)))) (pw_and1 (pt_cmpR op_eq (pe_ix ix_tup (pv 6) pe_int (fun _ _ => rfl)) pe_str (nomark _))))) (@pss_one _ _ _ (by exact ps_expr (pe_bm PySem.F.plainAttrs_list PySem.F.slot_list_append PySem.F.type_list_append mt_append (pv 8) (@pa_consN _ _ _ _ _ (@pe_tup _ _ _ _ _ (@pa_consN _ _ _ _ _ (@pe_tup _ _ _ _ _ (pa_cons pe_str (pa_cons (pv 5) (pa_cons (pe_ix ix_tup (pv 6) pe_int (fun _ _ => rfl)) (pa_cons (pe_ix ix_tup (pv 6) pe_int (fun _ _ => rfl)) pa_nil))))) (@pa_consN _ _ _ _ _ pe_str (@pa_consN _ _ _ _ _ (pe_lst (pa_cons (pv 1) pa_nil)) (@pa_consN _ _ _ _ _ pe_non pa_nil rfl) rfl) rfl) rfl)) pa_nil rfl)))) pss_nil)
    (@pss_mid _ _ _ _ _ (by exact ps_if (PW.pt (pw_and (pt_cmpR op_eq (pe_ix ix_tup (pv 4) pe_int (fun _ _ => rfl)) pe_str (nomark _)) (pw_and1 (pt_cmpR (op_eqX hr.units) (pe_ix ix_tup (pv 4) pe_int (fun _ _ => rfl)) (pv 6) (nomark _))))) (@pss_one _ _ _ (by exact ps_expr (pe_bm PySem.F.plainAttrs_list PySem.F.slot_list_append PySem.F.type_list_append mt_append (pv 8) (@pa_consN _ _ _ _ _ (@pe_tup _ _ _ _ _ (@pa_consN _ _ _ _ _ (@pe_tup _ _ _ _ _ (pa_cons pe_str (pa_cons (pv 5) (pa_cons (pe_ix ix_tup (pv 4) pe_int (fun _ _ => rfl)) pa_nil)))) (@pa_consN _ _ _ _ _ pe_str (@pa_consN _ _ _ _ _ (pe_lst (pa_cons (pv 1) pa_nil)) (@pa_consN _ _ _ _ _ (pv 3) pa_nil rfl) rfl) rfl) rfl)) pa_nil rfl)))) pss_nil)
    (@pss_mid _ _ _ _ _ (by exact ps_if (PW.pt (pw_and (pt_cmpR op_eq (pe_ix ix_tup (pv 7) pe_int (fun _ _ => rfl)) pe_str (nomark _)) (pw_and1 (pt_cmpR (op_eqX hr.units) (pe_ix ix_tup (pv 7) pe_int (fun _ _ => rfl)) (pv 5) (nomark _))))) (@pss_mid _ _ _ _ _ (by exact ps_if (pt_cmpR op_lt (pe_op op_add (pe_call Gsz hrsz rfl mGsz kGsz bGsz .nil pass0 (pa_cons (pv 6) pa_nil)) (pe_call Gsz hrsz rfl mGsz kGsz bGsz .nil pass0 (pa_cons (pe_ix ix_tup (pv 7) pe_int (fun _ _ => rfl)) pa_nil))) pe_int (nomark _)) (@pss_one _ _ _ (by exact ps_expr (pe_bm PySem.F.plainAttrs_list PySem.F.slot_list_append PySem.F.type_list_append mt_append (pv 8) (@pa_consN _ _ _ _ _ (@pe_tup _ _ _ _ _ (@pa_consN _ _ _ _ _ (@pe_tup _ _ _ _ _ (@pa_consN _ _ _ _ _ pe_str (@pa_consN _ _ _ _ _ (pv 5) (@pa_consN _ _ _ _ _ (@pe_tup _ _ _ _ _ (pa_cons pe_str (pa_cons (pv 6) (pa_cons (pe_ix ix_tup (pv 7) pe_int (fun _ _ => rfl)) pa_nil)))) pa_nil rfl) rfl) rfl)) (@pa_consN _ _ _ _ _ pe_str (@pa_consN _ _ _ _ _ (pe_lst (pa_cons (pv 1) (pa_cons (pv 2) pa_nil))) (@pa_consN _ _ _ _ _ pe_non pa_nil rfl) rfl) rfl) rfl)) pa_nil rfl)))) pss_nil) (@pss_one _ _ _ (by exact ps_if (pt_cmpR (op_eqX hr.units) (pv 4) (@pe_tup _ _ _ _ _ (pa_cons pe_str (pa_cons (pv 6) (pa_cons (pe_ix ix_tup (pv 7) pe_int (fun _ _ => rfl)) pa_nil)))) (nomark _)) (@pss_one _ _ _ (by exact ps_expr (pe_bm PySem.F.plainAttrs_list PySem.F.slot_list_append PySem.F.type_list_append mt_append (pv 8) (@pa_consN _ _ _ _ _ (@pe_tup _ _ _ _ _ (@pa_consN _ _ _ _ _ (@pe_tup _ _ _ _ _ (pa_cons pe_str (pa_cons (pv 5) (pa_cons pe_str pa_nil)))) (@pa_consN _ _ _ _ _ pe_str (@pa_consN _ _ _ _ _ (pe_lst (pa_cons (pv 1) (pa_cons (pv 2) pa_nil))) (@pa_consN _ _ _ _ _ (pv 3) pa_nil rfl) rfl) rfl) rfl)) pa_nil rfl)))) pss_nil))) pss_nil)
    (@pss_one _ _ _ (by exact @ps_ret _ _ _ _ (pv 8)))))))))), ?_⟩
  obtain ⟨vi, ei, pi, fi, fvi, rfl, hpi, ifi, _, _⟩ := paired_get2 hst hi
  rw [ef] at ifi oi
  obtain ⟨pf, vx, vk, rfl, hpf, ix, ik⟩ := ifi
  obtain ⟨vj, ej, pj, fj, fvj, rfl, hpj, ifj, _, _⟩ := paired_get2 hst hj
  obtain ⟨py, vs', rfl, hpy, kly⟩ := isy
  obtain ⟨dx, nk, nkl⟩ : dk x ∧ k.nt ≤ 4 ∧ lenK k := oi
  refine ⟨_, rfl, _, rfl, ls, _, _, _, rfl, rfl, SqL.of hls, atI_nat ei, pi, _, _, _, rfl, rfl, SqT.of hpi, rfl, pf, _, _, _, rfl, rfl, SqT.of hpf, rfl, ?_⟩
  refine ⟨_, rfl, _, rfl, ls, _, _, _, rfl, rfl, SqL.of hls, atI_nat ei, pi, _, _, _, rfl, rfl, SqT.of hpi, rfl, pf, _, _, _, rfl, rfl, SqT.of hpf, rfl, ?_⟩
  refine ⟨_, rfl, _, rfl, ls, _, _, _, rfl, rfl, SqL.of hls, atI_nat ej, pj, _, _, _, rfl, rfl, SqT.of hpj, rfl, ?_⟩
  refine ⟨Nat.zero_le _, fun l hl => ?_⟩
  have hL0 := Md.keep hl hL
  have t0 : Tups H (upd H l (.lst [])) := (same_new hl _).tups
  have m0 : Md ss.length L l (upd H l (.lst [])) (upd H l (.lst [])) 0 [] [] := Md.new hl
  generalize hH0 : upd H l (.lst []) = H0 at t0 hL0 m0 ⊢
  have fin : ∀ {H' mv ms}, Md ss.length L l H0 H' 6 mv ms → Q (.ref l) H' := fun m => Md.fin hl q (by rw [hH0]; exact m)
  have sz : ∀ {H' mv ms c}, c ≤ 6 → Md ss.length L l H0 H' c mv ms → mv.length < sizeLine := fun hc m => small1000 (by have := m.len; have := StL.len m.st; omega)
  refine ⟨fun σ H' => ∃ mv ms, σ = [some (.ref ls), some (.int (i : Int)), some (.int (j : Int)), some (.int n), some (.ref py), some vx, some vk, some fvj, some (.ref l)] ∧ Md ss.length L l H0 H' 2 mv ms, ?_, ?_⟩
  · cases k with
    | nm t =>
      cases ik
      exact ⟨_, rfl, _, _, _, false, rfl, TyOf.str _, kit_st K, _, rfl, iteF (iteF ⟨_, _, rfl, m0.le (by decide)⟩)⟩
    | som r c =>
      obtain ⟨pk, vc, rfl, hpk, ic⟩ := ik
      refine ⟨_, rfl, _, _, _, true, rfl, TyOf.tup (t0 _ _ hpk), kit_tt K, _, rfl, iteT ⟨_, rfl, pk, _, _, _, rfl, rfl, SqT.of (t0 _ _ hpk), rfl, rfl, _, rfl, ?_⟩⟩
      rw [some_both]
      exact iteF ⟨_, _, rfl, m0.le (by decide)⟩
    | two a b =>
      obtain ⟨pk, va, vb, rfl, hpk, ia, ib⟩ := ik
      have n4 : 1 + a.nt + b.nt ≤ 4 := nk
      refine ⟨_, rfl, _, _, _, true, rfl, TyOf.tup (t0 _ _ hpk), kit_tt K, _, rfl, iteT ⟨_, rfl, pk, _, _, _, rfl, rfl, SqT.of (t0 _ _ hpk), rfl, rfl, _, rfl, ?_⟩⟩
      rw [both_both]
      refine iteT ⟨_, rfl, .inl ⟨rfl, _, SqL.of m0.e⟩, _, rfl, _, rfl, pk, _, _, _, rfl, rfl, SqT.of (t0 _ _ hpk), rfl, small2 (by show 3 ≤ 1000; decide), fun t1 h1 => ⟨_, rfl, small2 (by show 1 ≤ 1000; decide), fun p1 h2 => ⟨small2 (by show 4 ≤ 1000; decide), fun t2 h3 => ?_⟩⟩⟩
      obtain ⟨s1, s2, g1, g2, g3⟩ := three (T2 := [.ref t1, .str "first", .ref p1, .non]) h1 h2 h3
      have f1 := (isF_new h1 (ix.mono t0) (ia.mono t0)).mono s2.tups
      have m1 := m0.add (n := none) (fr := [(i : Int)]) hL0 s1 g2 g1 g3 f1 ⟨dx, by omega, nkl.1⟩ (okFr1 hin)
      refine ⟨l, _, _, rfl, rfl, s1 _ _ m0.e, sz (by decide) m0, ?_⟩
      generalize upd (upd (upd (upd H0 t1 _) p1 _) t2 _) l _ = H1 at m1 ⊢
      have t1' := t0.trans m1.k.tups
      refine ⟨_, rfl, .inl ⟨rfl, _, SqL.of m1.e⟩, _, rfl, _, rfl, pk, _, _, _, rfl, rfl, SqT.of (t1' _ _ hpk), rfl, small2 (by show 3 ≤ 1000; decide), fun t3 h4 => ⟨_, rfl, small2 (by show 1 ≤ 1000; decide), fun p2 h5 => ⟨small2 (by show 4 ≤ 1000; decide), fun t4 h6 => ?_⟩⟩⟩
      obtain ⟨s3, s4, g4, g5, g6⟩ := three (T2 := [.ref t3, .str "second", .ref p2, .non]) h4 h5 h6
      have f2 := (isF_new h4 (ix.mono t1') (ib.mono t1')).mono s4.tups
      have m2 := m1.add (n := none) (fr := [(i : Int)]) hL0 s3 g5 g4 g6 f2 ⟨dx, by omega, nkl.2⟩ (okFr1 hin)
      exact ⟨l, _, _, rfl, rfl, s3 _ _ m1.e, sz (by decide) m1, _, _, rfl, m2⟩
  rintro σ H1 ⟨mv1, ms1, rfl, m1⟩
  have t1 := t0.trans m1.k.tups
  refine ⟨fun σ H' => ∃ mv ms, σ = [some (.ref ls), some (.int (i : Int)), some (.int (j : Int)), some (.int n), some (.ref py), some vx, some vk, some fvj, some (.ref l)] ∧ Md ss.length L l H0 H' 3 mv ms, ?_, ?_⟩
  · cases k with
    | nm t =>
      cases ik
      exact ⟨_, rfl, _, _, _, false, rfl, TyOf.str _, kit_st K, _, rfl, iteF (iteF ⟨_, _, rfl, m1.le (by decide)⟩)⟩
    | two a b =>
      obtain ⟨pk, va, vb, rfl, hpk, ia, ib⟩ := ik
      refine ⟨_, rfl, _, _, _, true, rfl, TyOf.tup (t1 _ _ hpk), kit_tt K, _, rfl, iteT ⟨_, rfl, pk, _, _, _, rfl, rfl, SqT.of (t1 _ _ hpk), rfl, rfl, _, rfl, ?_⟩⟩
      rw [both_some]
      exact iteF ⟨_, _, rfl, m1.le (by decide)⟩
    | som r c =>
      obtain ⟨pk, vc, rfl, hpk, ic⟩ := ik
      have n4 : 1 + c.nt ≤ 4 := nk
      refine ⟨_, rfl, _, _, _, true, rfl, TyOf.tup (t1 _ _ hpk), kit_tt K, _, rfl, iteT ⟨_, rfl, pk, _, _, _, rfl, rfl, SqT.of (t1 _ _ hpk), rfl, rfl, _, rfl, ?_⟩⟩
      rw [some_some]
      refine iteT ⟨_, rfl, .inl ⟨rfl, _, SqL.of m1.e⟩, _, rfl, _, rfl, pk, _, _, _, rfl, rfl, SqT.of (t1 _ _ hpk), rfl, _, rfl, pk, _, _, _, rfl, rfl, SqT.of (t1 _ _ hpk), rfl, small2 (by show 4 ≤ 1000; decide), fun q1 h1 => ⟨_, rfl, small2 (by show 1 ≤ 1000; decide), fun p1 h2 => ⟨small2 (by show 4 ≤ 1000; decide), fun q2 h3 => ?_⟩⟩⟩
      obtain ⟨s1, s2, g1, g2, g3⟩ := three (T2 := [.ref q1, .str "some", .ref p1, .non]) h1 h2 h3
      have f1 := (hasF_new h1 (ix.mono t1) (ic.mono t1)).mono s2.tups
      have m2 := m1.add (n := none) (fr := [(i : Int)]) hL0 s1 g2 g1 g3 f1 ⟨dx, by omega, nkl⟩ (okFr1 hin)
      exact ⟨l, _, _, rfl, rfl, s1 _ _ m1.e, sz (by decide) m1, _, _, rfl, m2⟩
  rintro σ H2 ⟨mv2, ms2, rfl, m2⟩
  have t2 := t0.trans m2.k.tups
  have dk4 : k.dep ≤ 4 := Nat.le_trans (dep_le_nt k) nk
  refine ⟨fun σ H' => ∃ mv ms, σ = [some (.ref ls), some (.int (i : Int)), some (.int (j : Int)), some (.int n), some (.ref py), some vx, some vk, some fvj, some (.ref l)] ∧ Md ss.length L l H0 H' 4 mv ms, ?_, ?_⟩
  · refine ⟨_, rfl, py, _, 0, _, rfl, rfl, SqT.of (t2 _ _ hpy), atI_nat (j := 0) rfl, rfl, _, rfl, ?_⟩
    rw [hd_dec sy .every "every" rfl (by decide)]
    refine ite2 (fun c => ?_) (fun c => iteF ⟨_, _, rfl, m2.le (by decide)⟩)
    obtain ⟨a, b, rfl⟩ := hd_every (of_decide_eq_true c)
    obtain ⟨va, vb, rfl, ia, ib⟩ := kl_two kly
    obtain ⟨da, db⟩ : dn a ∧ dn b := ds
    refine ⟨_, rfl, py, _, _, _, rfl, rfl, SqT.of (t2 _ _ hpy), rfl, _, rfl, a.tx, k.tx, (ia.mono t2).xa, (ik.mono t2).xa, by rw [Kd.tx_dp]; have := da.1.1; omega, _, rfl, ite2 (fun _ => ?_) (fun _ => ⟨_, _, rfl, m2.le (by decide)⟩)⟩
    refine ⟨_, rfl, .inl ⟨rfl, _, SqL.of m2.e⟩, _, rfl, _, rfl, py, _, _, _, rfl, rfl, SqT.of (t2 _ _ hpy), rfl, small2 (by show 3 ≤ 1000; decide), fun q1 h1 => ⟨_, rfl, small2 (by show 1 ≤ 1000; decide), fun p1 h2 => ⟨_, rfl, small2 (by show 4 ≤ 1000; decide), fun q2 h3 => ?_⟩⟩⟩
    obtain ⟨s1, s2, g1, g2, g3⟩ := three (T2 := [.ref q1, .str "every", .ref p1, .int n]) h1 h2 h3
    have f1 := (isF_new h1 (ix.mono t2) (ib.mono t2)).mono s2.tups
    have m3 := m2.add (n := some n) (fr := [(i : Int)]) hL0 s1 g2 g1 g3 f1 ⟨dx, by have := db.2; omega, db.1.2.2.1⟩ (okFr1 hin)
    exact ⟨l, _, _, rfl, rfl, s1 _ _ m2.e, sz (by decide) m2, _, _, rfl, m3⟩
  rintro σ H3 ⟨mv3, ms3, rfl, m3⟩
  have t3 := t0.trans m3.k.tups
  refine ⟨fun σ H' => ∃ mv ms, σ = [some (.ref ls), some (.int (i : Int)), some (.int (j : Int)), some (.int n), some (.ref py), some vx, some vk, some fvj, some (.ref l)] ∧ Md ss.length L l H0 H' 6 mv ms, ?_, ?_⟩
  · cases hfj : sj.f with
    | has x2 r2 y2 =>
      rw [hfj] at ifj
      obtain ⟨pj2, vx2, vy2, rfl, hpj2, ix2, iy2⟩ := ifj
      refine ⟨_, rfl, pj2, _, _, _, rfl, rfl, SqT.of (t3 _ _ hpj2), rfl, rfl, _, rfl, ?_⟩
      rw [has_is']
      exact iteF (iteF ⟨_, _, rfl, m3.le (by decide)⟩)
    | is x2 k2 =>
      rw [hfj] at ifj oj
      obtain ⟨pj2, vx2, vk2, rfl, hpj2, ix2, ik2⟩ := ifj
      obtain ⟨dx2, nk2, nkl2⟩ : dk x2 ∧ k2.nt ≤ 4 ∧ lenK k2 := oj
      have dk24 : k2.dep ≤ 4 := Nat.le_trans (dep_le_nt k2) nk2
      refine ⟨_, rfl, pj2, _, _, _, rfl, rfl, SqT.of (t3 _ _ hpj2), rfl, rfl, _, rfl, ?_⟩
      rw [is_is]
      refine iteT ⟨_, rfl, pj2, _, _, _, rfl, rfl, SqT.of (t3 _ _ hpj2), rfl, _, rfl, x2.tx, x.tx, (ix2.mono t3).xa, (ix.mono t3).xa, by rw [Kd.tx_dp]; have := dx2.1; omega, _, rfl, ite2 (fun _ => ?_) (fun _ => ⟨_, _, rfl, m3.le (by decide)⟩)⟩
      refine ⟨fun σ H' => ∃ mv ms, σ = [some (.ref ls), some (.int (i : Int)), some (.int (j : Int)), some (.int n), some (.ref py), some vx, some vk, some (.ref pj2), some (.ref l)] ∧ Md ss.length L l H0 H' 5 mv ms, ?_, ?_⟩
      · refine ⟨_, rfl, vk, k, rfl, ik.mono t3, by omega, _, rfl, pj2, _, _, _, rfl, rfl, SqT.of (t3 _ _ hpj2), rfl, vk2, k2, rfl, ik2.mono t3, by omega, _, _, rfl, rfl, _, _, rfl, rfl, _, rfl, ite2 (fun c => ?_) (fun _ => ⟨_, _, rfl, m3.le (by decide)⟩)⟩
        have c4 : (k.nt : Int) + (k2.nt : Int) < 4 := of_decide_eq_true c
        refine ⟨_, rfl, .inl ⟨rfl, _, SqL.of m3.e⟩, _, rfl, _, rfl, _, rfl, pj2, _, _, _, rfl, rfl, SqT.of (t3 _ _ hpj2), rfl, small2 (by show 3 ≤ 1000; decide), fun q0 h0 => ⟨small2 (by show 3 ≤ 1000; decide), fun q1 h1 => ⟨_, rfl, _, rfl, small2 (by show 2 ≤ 1000; decide), fun p1 h2 => ⟨small2 (by show 4 ≤ 1000; decide), fun q2 h3 => ?_⟩⟩⟩⟩
        have s0 := same_new h0 (.tup [.str "both", vk, vk2])
        have t4 := t3.trans s0.tups
        obtain ⟨s1, s2, g1, g2, g3⟩ := three (T2 := [.ref q1, .str "both", .ref p1, .non]) h1 h2 h3
        have kb : IsK (upd H3 q0 (.tup [.str "both", vk, vk2])) (.two k k2) (.ref q0) := ⟨q0, vk, vk2, rfl, upd_same, ik.mono t4, ik2.mono t4⟩
        have f1 := (isF_new h1 (ix.mono t4) kb).mono s2.tups
        have m4 := (m3.same s0).add (n := none) (fr := [(i : Int), (j : Int)]) hL0 s1 g2 g1 g3 f1 ⟨dx, by show 1 + k.nt + k2.nt ≤ 4; omega, nkl, nkl2⟩ (okFr2 hin hjn)
        exact ⟨l, _, _, rfl, rfl, s1 _ _ (s0 _ _ m3.e), sz (by decide) m3, _, _, rfl, m4⟩
      rintro σ H4 ⟨mv4, ms4, rfl, m4⟩
      have t4 := t0.trans m4.k.tups
      refine ⟨_, rfl, _, rfl, _, rfl, pj2, _, _, _, rfl, rfl, SqT.of (t4 _ _ hpj2), rfl, small2 (by show 3 ≤ 1000; decide), fun q0 h0 => ?_⟩
      have s0 := same_new h0 (.tup [.str "no", vk, vk2])
      have t5 := t4.trans s0.tups
      have m5 := m4.same s0
      refine ⟨sy.tx, .tup [.str "no", k.tx, k2.tx], IsSy.xa (s := sy) ⟨py, vs', rfl, t5 _ _ hpy, KL.mono t5 kly⟩, ⟨q0, _, rfl, upd_same, _, _, rfl, rfl, _, _, rfl, (ik.mono t5).xa, _, _, rfl, (ik2.mono t5).xa, rfl⟩, Sy.dp60 (dS.okS ds).2, _, rfl, ite2 (fun _ => ?_) (fun _ => ⟨_, _, rfl, m5.le (by decide)⟩)⟩
      refine ⟨_, rfl, .inl ⟨rfl, _, SqL.of m5.e⟩, _, rfl, small2 (by show 3 ≤ 1000; decide), fun q1 h1 => ⟨_, rfl, _, rfl, small2 (by show 2 ≤ 1000; decide), fun p1 h2 => ⟨_, rfl, small2 (by show 4 ≤ 1000; decide), fun q2 h3 => ?_⟩⟩⟩
      obtain ⟨s1, s2, g1, g2, g3⟩ := three (T2 := [.ref q1, .str "no", .ref p1, .int n]) h1 h2 h3
      have f1 := (isF_new h1 (ix.mono t5) (show IsK _ (.nm "nothing") (.str "nothing") from rfl)).mono s2.tups
      have m6 := m5.add (n := some n) (fr := [(i : Int), (j : Int)]) hL0 s1 g2 g1 g3 f1 ⟨dx, Nat.zero_le _, dk_nothK.2.2.1⟩ (okFr2 hin hjn)
      exact ⟨l, _, _, rfl, rfl, s1 _ _ m5.e, sz (by decide) m5, _, _, rfl, m6⟩
  rintro σ H5 ⟨mv5, ms5, rfl, m5⟩
  exact ⟨_, rfl, fin m5⟩
end
end K23
namespace K23
open PySem L2
def spWaysT : Sp := fun vs H Q _ => ∃ (L : List Addr) (ls : Addr) (i j : Nat) (n : Int) (vy : V) (xs : List V) (ss : List Stp) (si sj : Stp) (x : Kd) (r : Str) (y : Kd) (sy : Sy), vs = [.ref ls, .int (i : Int), .int (j : Int), .int n, vy] ∧ (∀ a ∈ L, H a ≠ none) ∧ H ls = some (.lst xs) ∧ StL [] H xs ss ∧
  ss[i]? = some si ∧ ss[j]? = some sj ∧ si.f = .has x r y ∧ okE si.f ∧ okE sj.f ∧ IsSy H sy vy ∧ dS sy ∧ endMd ss.length L H Q
theorem is_has' : decide (V.str (Str.ofString "is") = V.str (Str.ofString "has")) = false := by rw [dec_str]; decide +kernel
theorem has_has : decide (V.str (Str.ofString "has") = V.str (Str.ofString "has")) = true := decide_eq_true rfl
section
variable {P : Program} {w : World} {K : PySem.W.Frag} {mg : Str → Option Value} {base : Heap} {f g e a1 a2 a3 a4 a5 a6 a7 a8 : Addr} {fd gd' ed d1 d2 d3 d4 d5 d6 d7 d8 : FuncData}
theorem scWaysT : FnScope ["_law_steps", "_law_i", "_law_j", "_law_number", "_law_saying_here", "_law_one", "_law_two", "_law_x", "_law_made"] ["_law_steps", "_law_i", "_law_j", "_law_number", "_law_saying_here"] (defScope sWaysT) := ⟨rfl, rfl, rfl, by decide +kernel, rfl, by decide +kernel, by decide +kernel⟩
theorem ok_waysT (F : Fun K "_law_ways_of_tie" "_law_ways_of_tie" sWaysT f fd)
    (Gsz : FnOk P w K mg base CX0 6 a1 d1 ["_law_kind_here"] (spSize 5)) (bGsz : Binds K d1 ["_law_kind_here"] []) (kGsz : PySem.W.keepIn K (.ref a1) = true) (mGsz : mg "_law_size" = some (.ref a1)) :
    FnOk P w K mg base CX0 7 f fd ["_law_steps", "_law_i", "_law_j", "_law_number", "_law_saying_here"] spWaysT := by
  refine F.ok scWaysT (fun vs H Q E h => ?_) (fun cdv A outer s H vs Q E hr h => ?_)
  · obtain ⟨L, ls, i, j, n, vy, xs, ss, si, sj, x, r, y, sy, rfl, _⟩ := h; rfl
  obtain ⟨L, ls, i, j, n, vy, xs, ss, si, sj, x, r, y, sy, rfl, hL, hls, hst, hi, hj, ef, oi, oj, isy, ds, q⟩ := h
  have hrsz := hr
  have hin := (List.getElem?_eq_some_iff.mp hi).1
  have hjn := (List.getElem?_eq_some_iff.mp hj).1
  refine ⟨_, @pss_cons _ _ _ _ _ (by exact ps_set (i := 5) scWaysT.nd rfl (Or.inl rfl) (pe_ix ix_tup (pe_ix ix_list (pv 0) (pv 1) (fun _ _ => rfl)) pe_int (fun _ _ => rfl)))
    (@pss_cons _ _ _ _ _ (by exact ps_set (i := 6) scWaysT.nd rfl (Or.inl rfl) (pe_ix ix_tup (pe_ix ix_list (pv 0) (pv 2) (fun _ _ => rfl)) pe_int (fun _ _ => rfl)))
    (@pss_cons _ _ _ _ _ (by exact ps_set (i := 7) scWaysT.nd rfl (Or.inl rfl) (pe_ix ix_tup (pv 5) pe_int (fun _ _ => rfl)))
    (@pss_cons _ _ _ _ _ (by exact ps_set (i := 8) scWaysT.nd rfl (Or.inl rfl) (pe_lst pa_nil))
    (@pss_mid _ _ _ _ _ (by exact ps_if (PW.pt (pw_and (pt_cmpR op_eq (pe_ix ix_tup (pv 4) pe_int (fun _ _ => rfl)) pe_str (nomark _)) (pw_and1 (pt_cmpR (op_eqX hr.units) (pe_ix ix_tup (pv 4) pe_int (fun _ _ => rfl)) (pe_ix ix_tup (pv 5) pe_int (fun _ _ => rfl)) (nomark _))))) (@pss_one _ _ _ (by exact ps_expr (pe_bm PySem.F.plainAttrs_list PySem.F.slot_list_append PySem.F.type_list_append mt_append (pv 8) (@pa_consN _ _ _ _ _ (@pe_tup _ _ _ _ _ (@pa_consN _ _ _ _ _ (@pe_tup _ _ _ _ _ (pa_cons pe_str (pa_cons (pv 7) (pa_cons (pe_ix ix_tup (pv 4) pe_int (fun _ _ => rfl)) (pa_cons (pe_ix ix_tup (pv 5) pe_int (fun _ _ => rfl)) pa_nil))))) (@pa_consN _ _ _ _ _ pe_str (@pa_consN _ _ _ _ _ (pe_lst (pa_cons (pv 1) pa_nil)) (@pa_consN _ _ _ _ _ (pv 3) pa_nil rfl) rfl) rfl) rfl)) pa_nil rfl)))) pss_nil)
    (@pss_cons _ _ _ _ _ (by exact ps_if (pt_cmpR (op_neX hr.units) (pe_ix ix_tup (pv 6) pe_int (fun _ _ => rfl)) (pe_ix ix_tup (pv 5) pe_int (fun _ _ => rfl)) (nomark _)) (@pss_one _ _ _ (by exact @ps_ret _ _ _ _ (pv 8))) pss_nil)
    (@pss_mid _ _ _ _ _ (by exact ps_if (PW.pt (pw_and (pt_cmpR op_eq (pe_ix ix_tup (pv 6) pe_int (fun _ _ => rfl)) pe_str (nomark _)) (pw_and1 (pt_cmpR op_lt (pe_call Gsz hrsz rfl mGsz kGsz bGsz .nil pass0 (pa_cons (pe_ix ix_tup (pv 6) pe_int (fun _ _ => rfl)) pa_nil)) pe_int (nomark _))))) (@pss_one _ _ _ (by exact ps_expr (pe_bm PySem.F.plainAttrs_list PySem.F.slot_list_append PySem.F.type_list_append mt_append (pv 8) (@pa_consN _ _ _ _ _ (@pe_tup _ _ _ _ _ (@pa_consN _ _ _ _ _ (@pe_tup _ _ _ _ _ (@pa_consN _ _ _ _ _ pe_str (@pa_consN _ _ _ _ _ (pv 7) (@pa_consN _ _ _ _ _ (@pe_tup _ _ _ _ _ (pa_cons pe_str (pa_cons (pe_ix ix_tup (pv 5) pe_int (fun _ _ => rfl)) (pa_cons (pe_ix ix_tup (pv 6) pe_int (fun _ _ => rfl)) pa_nil)))) pa_nil rfl) rfl) rfl)) (@pa_consN _ _ _ _ _ pe_str (@pa_consN _ _ _ _ _ (pe_lst (pa_cons (pv 1) (pa_cons (pv 2) pa_nil))) (@pa_consN _ _ _ _ _ pe_non pa_nil rfl) rfl) rfl) rfl)) pa_nil rfl)))) pss_nil)
    (@pss_mid _ _ _ _ _ (by exact ps_if (PW.pt (pw_and (pt_cmpR op_eq (pe_ix ix_tup (pv 6) pe_int (fun _ _ => rfl)) pe_str (nomark _)) (pw_and1 (pt_cmpR (op_eqX hr.units) (pe_ix ix_tup (pv 6) pe_int (fun _ _ => rfl)) pe_str (nomark _))))) (@pss_one _ _ _ (by exact ps_expr (pe_bm PySem.F.plainAttrs_list PySem.F.slot_list_append PySem.F.type_list_append mt_append (pv 8) (@pa_consN _ _ _ _ _ (@pe_tup _ _ _ _ _ (@pa_consN _ _ _ _ _ (@pe_tup _ _ _ _ _ (pa_cons pe_str (pa_cons (pv 7) (pa_cons pe_str pa_nil)))) (@pa_consN _ _ _ _ _ pe_str (@pa_consN _ _ _ _ _ (pe_lst (pa_cons (pv 1) (pa_cons (pv 2) pa_nil))) (@pa_consN _ _ _ _ _ pe_non pa_nil rfl) rfl) rfl) rfl)) pa_nil rfl)))) pss_nil)
    (@pss_mid _ _ _ _ _ (by exact ps_if (PW.pt (pw_and (pt_cmpR op_eq (pe_ix ix_tup (pv 6) pe_int (fun _ _ => rfl)) pe_str (nomark _)) (pw_and1 (pt_cmpR (op_eqX hr.units) (pe_slice sl_tupW (pv 4) po_none (po_some pe_int)) (@pe_tup _ _ _ _ _ (pa_cons pe_str (pa_cons (pe_ix ix_tup (pv 5) pe_int (fun _ _ => rfl)) (pa_cons (pe_ix ix_tup (pv 6) pe_int (fun _ _ => rfl)) pa_nil)))) (nomark _))))) (@pss_one _ _ _ (by exact ps_expr (pe_bm PySem.F.plainAttrs_list PySem.F.slot_list_append PySem.F.type_list_append mt_append (pv 8) (@pa_consN _ _ _ _ _ (@pe_tup _ _ _ _ _ (@pa_consN _ _ _ _ _ (@pe_tup _ _ _ _ _ (pa_cons pe_str (pa_cons (pv 7) (pa_cons (pe_ix ix_tup (pv 4) pe_int (fun _ _ => rfl)) (pa_cons (pe_ix ix_tup (pv 6) pe_int (fun _ _ => rfl)) pa_nil))))) (@pa_consN _ _ _ _ _ pe_str (@pa_consN _ _ _ _ _ (pe_lst (pa_cons (pv 1) (pa_cons (pv 2) pa_nil))) (@pa_consN _ _ _ _ _ (pv 3) pa_nil rfl) rfl) rfl) rfl)) pa_nil rfl)))) pss_nil)
    (@pss_one _ _ _ (by exact @ps_ret _ _ _ _ (pv 8))))))))))), ?_⟩
  obtain ⟨vi, ei, pi, fi, fvi, rfl, hpi, ifi, _, _⟩ := paired_get2 hst hi
  rw [ef] at ifi oi
  obtain ⟨pf, vx, vy, rfl, hpf, ix, iy⟩ := ifi
  obtain ⟨vj, ej, pj, fj, fvj, rfl, hpj, ifj, _, _⟩ := paired_get2 hst hj
  obtain ⟨py, vs', rfl, hpy, kly⟩ := isy
  obtain ⟨dx, ny, nyl⟩ : dk x ∧ y.nt ≤ 4 ∧ lenK y := oi
  refine ⟨_, rfl, _, rfl, ls, _, _, _, rfl, rfl, SqL.of hls, atI_nat ei, pi, _, _, _, rfl, rfl, SqT.of hpi, rfl, ?_⟩
  refine ⟨_, rfl, _, rfl, ls, _, _, _, rfl, rfl, SqL.of hls, atI_nat ej, pj, _, _, _, rfl, rfl, SqT.of hpj, rfl, ?_⟩
  refine ⟨_, rfl, pf, _, _, _, rfl, rfl, SqT.of hpf, rfl, ?_⟩
  refine ⟨Nat.zero_le _, fun l hl => ?_⟩
  have hL0 := Md.keep hl hL
  have t0 : Tups H (upd H l (.lst [])) := (same_new hl _).tups
  have m0 : Md ss.length L l (upd H l (.lst [])) (upd H l (.lst [])) 0 [] [] := Md.new hl
  generalize hH0 : upd H l (.lst []) = H0 at t0 hL0 m0 ⊢
  have fin : ∀ {H' mv ms}, Md ss.length L l H0 H' 6 mv ms → Q (.ref l) H' := fun m => Md.fin hl q (by rw [hH0]; exact m)
  have sz : ∀ {H' mv ms c}, c ≤ 6 → Md ss.length L l H0 H' c mv ms → mv.length < sizeLine := fun hc m => small1000 (by have := m.len; have := StL.len m.st; omega)
  refine ⟨fun σ H' => ∃ mv ms, σ = [some (.ref ls), some (.int (i : Int)), some (.int (j : Int)), some (.int n), some (.ref py), some (.ref pf), some fvj, some vx, some (.ref l)] ∧ Md ss.length L l H0 H' 1 mv ms, ?_, ?_⟩
  · refine ⟨_, rfl, py, _, 0, _, rfl, rfl, SqT.of (t0 _ _ hpy), atI_nat (j := 0) rfl, rfl, _, rfl, ?_⟩
    rw [hd_dec sy .within "within" rfl (by decide)]
    refine ite2 (fun c => ?_) (fun c => iteF ⟨_, _, rfl, m0.le (by decide)⟩)
    obtain ⟨a, b, rfl⟩ := hd_within (of_decide_eq_true c)
    obtain ⟨va, vb, rfl, ia, ib⟩ := kl_two kly
    cases ia
    cases ib
    refine ⟨_, rfl, py, _, _, _, rfl, rfl, SqT.of (t0 _ _ hpy), rfl, _, rfl, pf, _, _, _, rfl, rfl, SqT.of (t0 _ _ hpf), rfl, .str a, .str r, rfl, rfl, Nat.zero_le _, _, rfl, ite2 (fun _ => ?_) (fun _ => ⟨_, _, rfl, m0.le (by decide)⟩)⟩
    refine ⟨_, rfl, .inl ⟨rfl, _, SqL.of m0.e⟩, _, rfl, _, rfl, py, _, _, _, rfl, rfl, SqT.of (t0 _ _ hpy), rfl, _, rfl, pf, _, _, _, rfl, rfl, SqT.of (t0 _ _ hpf), rfl, small2 (by show 4 ≤ 1000; decide), fun q1 h1 => ⟨_, rfl, small2 (by show 1 ≤ 1000; decide), fun p1 h2 => ⟨_, rfl, small2 (by show 4 ≤ 1000; decide), fun q2 h3 => ?_⟩⟩⟩
    obtain ⟨s1, s2, g1, g2, g3⟩ := three (T2 := [.ref q1, .str "within", .ref p1, .int n]) h1 h2 h3
    have f1 := (hasF_new (t := b) h1 (ix.mono t0) (iy.mono t0)).mono s2.tups
    have m3 := m0.add (n := some n) (fr := [(i : Int)]) hL0 s1 g2 g1 g3 f1 ⟨dx, ny, nyl⟩ (okFr1 hin)
    exact ⟨l, _, _, rfl, rfl, s1 _ _ m0.e, sz (by decide) m0, _, _, rfl, m3⟩
  rintro σ H1 ⟨mv1, ms1, rfl, m1⟩
  have t1 := t0.trans m1.k.tups
  cases hfj : sj.f with
  | is x2 k2 =>
    rw [hfj] at ifj oj
    obtain ⟨pj2, vx2, vk2, rfl, hpj2, ix2, ik2⟩ := ifj
    obtain ⟨dx2, nk2, nkl2⟩ : dk x2 ∧ k2.nt ≤ 4 ∧ lenK k2 := oj
    have dk24 : k2.dep ≤ 4 := Nat.le_trans (dep_le_nt k2) nk2
    refine ⟨_, rfl, pj2, _, _, _, rfl, rfl, SqT.of (t1 _ _ hpj2), rfl, _, rfl, pf, _, _, _, rfl, rfl, SqT.of (t1 _ _ hpf), rfl, x2.tx, y.tx, (ix2.mono t1).xa, (iy.mono t1).xa, by rw [Kd.tx_dp]; have := dx2.1; omega, _, rfl, ite2 (fun _ => ?_) (fun _ => ?_)⟩
    · exact ⟨_, rfl, fin (m1.le (by decide))⟩
    refine ⟨fun σ H' => ∃ mv ms, σ = [some (.ref ls), some (.int (i : Int)), some (.int (j : Int)), some (.int n), some (.ref py), some (.ref pf), some (.ref pj2), some vx, some (.ref l)] ∧ Md ss.length L l H0 H' 2 mv ms, ?_, ?_⟩
    · refine ⟨_, rfl, pj2, _, _, _, rfl, rfl, SqT.of (t1 _ _ hpj2), rfl, rfl, _, rfl, ?_⟩
      rw [is_is]
      refine iteT ⟨_, rfl, pj2, _, _, _, rfl, rfl, SqT.of (t1 _ _ hpj2), rfl, vk2, k2, rfl, ik2.mono t1, by omega, _, _, rfl, rfl, _, rfl, ite2 (fun c => ?_) (fun _ => ⟨_, _, rfl, m1.le (by decide)⟩)⟩
      have c4 : (k2.nt : Int) < 4 := of_decide_eq_true c
      refine ⟨_, rfl, .inl ⟨rfl, _, SqL.of m1.e⟩, _, rfl, _, rfl, pf, _, _, _, rfl, rfl, SqT.of (t1 _ _ hpf), rfl, _, rfl, pj2, _, _, _, rfl, rfl, SqT.of (t1 _ _ hpj2), rfl, small2 (by show 3 ≤ 1000; decide), fun q0 h0 => ⟨small2 (by show 3 ≤ 1000; decide), fun q1 h1 => ⟨_, rfl, _, rfl, small2 (by show 2 ≤ 1000; decide), fun p1 h2 => ⟨small2 (by show 4 ≤ 1000; decide), fun q2 h3 => ?_⟩⟩⟩⟩
      have s0 := same_new h0 (.tup [.str "some", .str r, vk2])
      have t4 := t1.trans s0.tups
      obtain ⟨s1, s2, g1, g2, g3⟩ := three (T2 := [.ref q1, .str "tie", .ref p1, .non]) h1 h2 h3
      have kb : IsK (upd H1 q0 (.tup [.str "some", .str r, vk2])) (.som r k2) (.ref q0) := ⟨q0, vk2, rfl, upd_same, ik2.mono t4⟩
      have f1 := (isF_new h1 (ix.mono t4) kb).mono s2.tups
      have m4 := (m1.same s0).add (n := none) (fr := [(i : Int), (j : Int)]) hL0 s1 g2 g1 g3 f1 ⟨dx, by show 1 + k2.nt ≤ 4; omega, nkl2⟩ (okFr2 hin hjn)
      exact ⟨l, _, _, rfl, rfl, s1 _ _ (s0 _ _ m1.e), sz (by decide) m1, _, _, rfl, m4⟩
    rintro σ H2 ⟨mv2, ms2, rfl, m2⟩
    have t2 := t0.trans m2.k.tups
    refine ⟨fun σ H' => ∃ mv ms, σ = [some (.ref ls), some (.int (i : Int)), some (.int (j : Int)), some (.int n), some (.ref py), some (.ref pf), some (.ref pj2), some vx, some (.ref l)] ∧ Md ss.length L l H0 H' 3 mv ms, ?_, ?_⟩
    · refine ⟨_, rfl, pj2, _, _, _, rfl, rfl, SqT.of (t2 _ _ hpj2), rfl, rfl, _, rfl, ?_⟩
      rw [is_is]
      refine iteT ⟨_, rfl, pj2, _, _, _, rfl, rfl, SqT.of (t2 _ _ hpj2), rfl, k2.tx, .str "nothing", (ik2.mono t2).xa, rfl, by rw [Kd.tx_dp]; omega, _, rfl, ite2 (fun _ => ?_) (fun _ => ⟨_, _, rfl, m2.le (by decide)⟩)⟩
      refine ⟨_, rfl, .inl ⟨rfl, _, SqL.of m2.e⟩, _, rfl, small2 (by show 3 ≤ 1000; decide), fun q1 h1 => ⟨_, rfl, _, rfl, small2 (by show 2 ≤ 1000; decide), fun p1 h2 => ⟨small2 (by show 4 ≤ 1000; decide), fun q2 h3 => ?_⟩⟩⟩
      obtain ⟨s1, s2, g1, g2, g3⟩ := three (T2 := [.ref q1, .str "none", .ref p1, .non]) h1 h2 h3
      have f1 := (isF_new h1 (ix.mono t2) (show IsK _ (.nm "nothing") (.str "nothing") from rfl)).mono s2.tups
      have m4 := m2.add (n := none) (fr := [(i : Int), (j : Int)]) hL0 s1 g2 g1 g3 f1 ⟨dx, Nat.zero_le _, dk_nothK.2.2.1⟩ (okFr2 hin hjn)
      exact ⟨l, _, _, rfl, rfl, s1 _ _ m2.e, sz (by decide) m2, _, _, rfl, m4⟩
    rintro σ H3 ⟨mv3, ms3, rfl, m3⟩
    have t3 := t0.trans m3.k.tups
    refine ⟨fun σ H' => ∃ mv ms, σ = [some (.ref ls), some (.int (i : Int)), some (.int (j : Int)), some (.int n), some (.ref py), some (.ref pf), some (.ref pj2), some vx, some (.ref l)] ∧ Md ss.length L l H0 H' 4 mv ms, ?_, ?_⟩
    · refine ⟨_, rfl, pj2, _, _, _, rfl, rfl, SqT.of (t3 _ _ hpj2), rfl, rfl, _, rfl, ?_⟩
      rw [is_has']
      exact iteF (iteF ⟨_, _, rfl, m3.le (by decide)⟩)
    rintro σ H4 ⟨mv4, ms4, rfl, m4⟩
    exact ⟨_, rfl, fin (m4.le (by decide))⟩
  | has x2 r2 y2 =>
    rw [hfj] at ifj oj
    obtain ⟨pj2, vx2, vy2, rfl, hpj2, ix2, iy2⟩ := ifj
    obtain ⟨dx2, ny2, nyl2⟩ : dk x2 ∧ y2.nt ≤ 4 ∧ lenK y2 := oj
    refine ⟨_, rfl, pj2, _, _, _, rfl, rfl, SqT.of (t1 _ _ hpj2), rfl, _, rfl, pf, _, _, _, rfl, rfl, SqT.of (t1 _ _ hpf), rfl, x2.tx, y.tx, (ix2.mono t1).xa, (iy.mono t1).xa, by rw [Kd.tx_dp]; have := dx2.1; omega, _, rfl, ite2 (fun _ => ?_) (fun _ => ?_)⟩
    · exact ⟨_, rfl, fin (m1.le (by decide))⟩
    refine ⟨fun σ H' => ∃ mv ms, σ = [some (.ref ls), some (.int (i : Int)), some (.int (j : Int)), some (.int n), some (.ref py), some (.ref pf), some (.ref pj2), some vx, some (.ref l)] ∧ Md ss.length L l H0 H' 1 mv ms, ?_, ?_⟩
    · refine ⟨_, rfl, pj2, _, _, _, rfl, rfl, SqT.of (t1 _ _ hpj2), rfl, rfl, _, rfl, ?_⟩
      rw [has_is']
      exact iteF (iteF ⟨_, _, rfl, m1⟩)
    rintro σ H2 ⟨mv2, ms2, rfl, m2⟩
    have t2 := t0.trans m2.k.tups
    refine ⟨fun σ H' => ∃ mv ms, σ = [some (.ref ls), some (.int (i : Int)), some (.int (j : Int)), some (.int n), some (.ref py), some (.ref pf), some (.ref pj2), some vx, some (.ref l)] ∧ Md ss.length L l H0 H' 1 mv ms, ?_, ?_⟩
    · refine ⟨_, rfl, pj2, _, _, _, rfl, rfl, SqT.of (t2 _ _ hpj2), rfl, rfl, _, rfl, ?_⟩
      rw [has_is']
      exact iteF (iteF ⟨_, _, rfl, m2⟩)
    rintro σ H3 ⟨mv3, ms3, rfl, m3⟩
    have t3 := t0.trans m3.k.tups
    refine ⟨fun σ H' => ∃ mv ms, σ = [some (.ref ls), some (.int (i : Int)), some (.int (j : Int)), some (.int n), some (.ref py), some (.ref pf), some (.ref pj2), some vx, some (.ref l)] ∧ Md ss.length L l H0 H' 4 mv ms, ?_, ?_⟩
    · refine ⟨_, rfl, pj2, _, _, _, rfl, rfl, SqT.of (t3 _ _ hpj2), rfl, rfl, _, rfl, ?_⟩
      rw [has_has]
      refine iteT ⟨_, rfl, 3, rfl, pre3_cut (t3 _ _ hpy) (KL.mono t3 kly) fun v H4 s4 hv => ?_⟩
      have t4 := t3.trans s4.tups
      have m4 := m3.same s4
      refine ⟨_, rfl, pf, _, _, _, rfl, rfl, SqT.of (t4 _ _ hpf), rfl, _, rfl, pj2, _, _, _, rfl, rfl, SqT.of (t4 _ _ hpj2), rfl, small2 (by show 3 ≤ 1000; decide), fun q0 h0 => ?_⟩
      have s5 := same_new h0 (.tup [.str "makes", .str r, .str r2])
      have t5 := t4.trans s5.tups
      have m5 := m4.same s5
      refine ⟨pre3 sy, .tup [.str "makes", .str r, .str r2], xaMono hv s5, ⟨q0, _, rfl, upd_same, _, _, rfl, rfl, _, _, rfl, rfl, _, _, rfl, rfl, rfl⟩, pre3_dp (dS.okS ds).2, _, rfl, ?_⟩
      rw [pre3_dec]
      cases sy with
      | makes a b c =>
        refine ite2 (fun _ => ?_) (fun _ => ⟨_, _, rfl, m5.le (by decide)⟩)
        obtain ⟨va, vb, vc, rfl, ia, ib, ic⟩ := kl_three kly
        cases ic
        refine ⟨_, rfl, .inl ⟨rfl, _, SqL.of m5.e⟩, _, rfl, _, rfl, py, _, _, _, rfl, rfl, SqT.of (t5 _ _ hpy), rfl, _, rfl, pj2, _, _, _, rfl, rfl, SqT.of (t5 _ _ hpj2), rfl, small2 (by show 4 ≤ 1000; decide), fun q1 h1 => ⟨_, rfl, _, rfl, small2 (by show 2 ≤ 1000; decide), fun p1 h2 => ⟨_, rfl, small2 (by show 4 ≤ 1000; decide), fun q2 h3 => ?_⟩⟩⟩
        obtain ⟨s1, s2, g1, g2, g3⟩ := three (T2 := [.ref q1, .str "makes", .ref p1, .int n]) h1 h2 h3
        have f1 := (hasF_new (t := c) h1 (ix.mono t5) (iy2.mono t5)).mono s2.tups
        have m6 := m5.add (n := some n) (fr := [(i : Int), (j : Int)]) hL0 s1 g2 g1 g3 f1 ⟨dx, ny2, nyl2⟩ (okFr2 hin hjn)
        exact ⟨l, _, _, rfl, rfl, s1 _ _ m5.e, sz (by decide) m5, _, _, rfl, m6.le (by decide)⟩
      | _ => exact iteF ⟨_, _, rfl, m5.le (by decide)⟩
    rintro σ H4 ⟨mv4, ms4, rfl, m4⟩
    exact ⟨_, rfl, fin (m4.le (by decide))⟩
end
end K23
namespace K23
open PySem L2
def endStp (N : Nat) (L : List Addr) (b : Addr) (H : Hp) (Q : VK) : Prop := ∀ (v : V) (H' : Hp) (st : Stp) (x' y' : Int), Kp [b] H H' → H' b = some (.lst [.int x', .int y']) → IsStp L H' st v → okE st.f → okFr N st.fr → Q v H'
def spPlain : Sp := fun vs H Q _ => ∃ (N : Nat) (L : List Addr) (b lp lk lt lh : Addr) (x y : Int) (ys : List V) (ps : List (Int × Sy)) (ws ts hs : List Str), vs = [.ref b, .ref lp, .ref lk, .ref lt] ∧ (∀ a ∈ L, H a ≠ none) ∧ H b = some (.lst [.int x, .int y]) ∧ H lp = some (.lst ys) ∧ lp ≠ b ∧ PrL H ys ps ∧ 0 < ps.length ∧ ps.length ≤ 100 ∧ (∀ q ∈ ps, dS q.2) ∧ Env H b lk lt lh ws ts hs ∧ endStp N L b H Q
theorem stp_fin {N : Nat} {L : List Addr} {b : Addr} {H H' H1 : Hp} {Q : VK} {x' y' : Int} {t p : Addr} {vf : V} {f : Fa} {r : Str} {fr : List Int} {n : Option Int} (q : endStp N L b H Q) (hL : ∀ a ∈ L, H a ≠ none) (k : Kp [b] H H') (b' : H' b = some (.lst [.int x', .int y'])) (s : Same H' H1)
    (g2 : H1 t = some (.tup [vf, .str r, .ref p, numV n])) (g1 : H1 p = some (.lst (fr.map V.int))) (np : H' p = none) (f1 : IsF H1 f vf) (of : okE f) (lf : okFr N fr) : Q (.ref t) H1 :=
  q _ _ ⟨f, r, fr, n⟩ _ _ (k.trans (.of s)) (s _ _ b') ⟨t, p, vf, rfl, g2, f1, g1, fun z => by
    have npb : p ≠ b := fun e => by rw [e, b'] at np; cases np
    cases c : H p with
    | none => exact hL p z c
    | some o => rw [k.but p o (one_not npb) c] at np; cases np⟩ of lf
theorem pr_at {H : Hp} {ys : List V} {ps : List (Int × Sy)} {r : Int} (h : PrL H ys ps) (r0 : 0 ≤ r) (rm : r < (ys.length : Int)) : ∃ v q, atI ys r = some v ∧ q ∈ ps ∧ IsPr H q v := by
  have hn : r.toNat < ys.length := by omega
  obtain ⟨q, hq, iq⟩ := paired_get h (List.getElem?_eq_getElem hn)
  have e := atI_nat (List.getElem?_eq_getElem hn)
  rw [show ((r.toNat : Nat) : Int) = r by omega] at e
  exact ⟨_, q, e, List.mem_of_getElem? hq, iq⟩
section
variable {P : Program} {w : World} {K : PySem.W.Frag} {mg : Str → Option Value} {base : Heap} {f g e a1 a2 a3 a4 a5 a6 a7 a8 : Addr} {fd gd' ed d1 d2 d3 d4 d5 d6 d7 d8 : FuncData}
theorem scPlain : FnScope ["_law_bag", "_law_pairs", "_law_kin", "_law_ties", "_law_number", "_law_saying_here", "_law_way", "_law_x"] ["_law_bag", "_law_pairs", "_law_kin", "_law_ties"] (defScope sPlain) := ⟨rfl, rfl, rfl, by decide +kernel, rfl, by decide +kernel, by decide +kernel⟩
theorem ok_plain (F : Fun K "_law_plain_step" "_law_plain_step" sPlain f fd) (ml : mg "len" = none)
    (Gdr : FnOk P w K mg base CX0 1 a1 d1 ["_law_bag", "_law_many"] spDraw) (bGdr : Binds K d1 ["_law_bag", "_law_many"] []) (kGdr : PySem.W.keepIn K (.ref a1) = true) (mGdr : mg "_law_draw" = some (.ref a1))
    (Gk : FnOk P w K mg base CX0 4 a2 d2 ["_law_bag", "_law_kin", "_law_ties", "_law_deep"] (spKind 3)) (bGk : Binds K d2 ["_law_bag", "_law_kin", "_law_ties", "_law_deep"] []) (kGk : PySem.W.keepIn K (.ref a2) = true) (mGk : mg "_law_kind" = some (.ref a2))
    (Gsg : FnOk P w K mg base CX0 1 a3 d3 ["_law_x"] spSingle) (bGsg : Binds K d3 ["_law_x"] []) (kGsg : PySem.W.keepIn K (.ref a3) = true) (mGsg : mg "_law_single" = some (.ref a3)) :
    FnOk P w K mg base CX0 5 f fd ["_law_bag", "_law_pairs", "_law_kin", "_law_ties"] spPlain := by
  refine F.ok scPlain (fun vs H Q E h => ?_) (fun cdv A outer s H vs Q E hr h => ?_)
  · obtain ⟨N, L, b, lp, lk, lt, lh, x, y, ys, ps, ws, ts, hs, rfl, _⟩ := h; rfl
  obtain ⟨N, L, b, lp, lk, lt, lh, x, y, ys, ps, ws, ts, hs, rfl, hL, hb, hlp, npb, hps, ps0, ps1, dps, en, q⟩ := h
  have hrdr := hr.mono (show 1 ≤ 4 by decide)
  have hrk := hr
  have hrsg := hr.mono (show 1 ≤ 4 by decide)
  refine ⟨_, @pss_cons _ _ _ _ _ (by exact ps_asg (pe_ix ix_list (pv 1) (pe_call Gdr hrdr rfl mGdr kGdr bGdr .nil pass0 (pa_cons (pv 0) (pa_cons (pe_callB call_len_seq rfl ml PySem.boot_len (pa_cons (pv 1) pa_nil)) pa_nil))) (fun _ _ => rfl)) (pg_tup rfl (pgs_cons (pg_name (i := 4) scPlain.nd rfl (Or.inl rfl)) (pgs_cons (pg_name (i := 5) scPlain.nd rfl (Or.inl rfl)) pgs_nil))))
    (@pss_cons _ _ _ _ _ (by exact ps_set (i := 6) scPlain.nd rfl (Or.inl rfl) (pe_call Gdr hrdr rfl mGdr kGdr bGdr .nil pass0 (pa_cons (pv 0) (pa_cons pe_int pa_nil))))
    (@pss_mid _ _ _ _ _ (by exact ps_if (PW.pt (pw_and (pt_cmpR op_eq (pe_ix ix_tup (pv 5) pe_int (fun _ _ => rfl)) pe_str (nomark _)) (pw_and1 (pt_cmpR op_gt (pv 6) pe_int (nomark _))))) (@pss_one _ _ _ (by exact @ps_ret _ _ _ _ (@pe_tup _ _ _ _ _ (@pa_consN _ _ _ _ _ (@pe_tup _ _ _ _ _ (pa_cons pe_str (pa_cons (pe_ix ix_tup (pv 5) pe_int (fun _ _ => rfl)) (pa_cons (pe_ix ix_tup (pv 5) pe_int (fun _ _ => rfl)) pa_nil)))) (@pa_consN _ _ _ _ _ pe_str (@pa_consN _ _ _ _ _ (pe_lst pa_nil) (@pa_consN _ _ _ _ _ (pv 4) pa_nil rfl) rfl) rfl) rfl)))) pss_nil)
    (@pss_mid _ _ _ _ _ (by exact ps_if (PW.pt (pw_and (pt_cmpR op_eq (pe_ix ix_tup (pv 5) pe_int (fun _ _ => rfl)) pe_str (nomark _)) (pw_and1 (pt_cmpR op_gt (pv 6) pe_int (nomark _))))) (@pss_one _ _ _ (by exact @ps_ret _ _ _ _ (@pe_tup _ _ _ _ _ (pa_cons (pe_op op_catT (@pe_tup _ _ _ _ _ (pa_cons pe_str pa_nil)) (pe_slice sl_tup (pv 5) (po_some pe_int) po_none)) (pa_cons pe_str (pa_cons (pe_lst pa_nil) (pa_cons (pv 4) pa_nil))))))) pss_nil)
    (@pss_cons _ _ _ _ _ (by exact ps_set (i := 7) scPlain.nd rfl (Or.inl rfl) (pe_ix ix_tup (pv 5) pe_int (fun _ _ => rfl)))
    (@pss_mid _ _ _ _ _ (by exact ps_if (PW.pt (pw_or (pt_cmpR op_eq (pe_ix ix_tup (pv 5) pe_int (fun _ _ => rfl)) pe_str (nomark _)) (pw_or (pt_cmpR op_eq (pe_ix ix_tup (pv 5) pe_int (fun _ _ => rfl)) pe_str (nomark _)) (pw_or1 (pt_cmpR op_eq (pv 6) pe_int (nomark _)))))) (@pss_one _ _ _ (by exact ps_set (i := 7) scPlain.nd rfl (Or.inl rfl) (pe_call Gk hrk rfl mGk kGk bGk .nil pass0 (pa_cons (pv 0) (pa_cons (pv 2) (pa_cons (pv 3) (pa_cons pe_int pa_nil))))))) pss_nil)
    (@pss_cons _ _ _ _ _ (by exact ps_if (PW.pt (pw_or (pt_cmpR op_eq (pv 6) pe_int (nomark _)) (pw_or1 (pt_val (pe_call Gsg hrsg rfl mGsg kGsg bGsg .nil pass0 (pa_cons (pv 7) pa_nil)))))) (@pss_one _ _ _ (by exact @ps_ret _ _ _ _ (@pe_tup _ _ _ _ _ (@pa_consN _ _ _ _ _ (@pe_tup _ _ _ _ _ (pa_cons pe_str (pa_cons (pv 7) (pa_cons pe_str pa_nil)))) (@pa_consN _ _ _ _ _ pe_str (@pa_consN _ _ _ _ _ (pe_lst pa_nil) (@pa_consN _ _ _ _ _ pe_non pa_nil rfl) rfl) rfl) rfl)))) pss_nil)
    (@pss_one _ _ _ (by exact @ps_ret _ _ _ _ (@pe_tup _ _ _ _ _ (@pa_consN _ _ _ _ _ (@pe_tup _ _ _ _ _ (pa_cons pe_str (pa_cons (pv 7) (pa_cons (pv 7) pa_nil)))) (@pa_consN _ _ _ _ _ pe_str (@pa_consN _ _ _ _ _ (pe_lst pa_nil) (@pa_consN _ _ _ _ _ pe_non pa_nil rfl) rfl) rfl) rfl)))))))))), ?_⟩
  have lys := Paired.length hps
  refine ⟨_, rfl, _, rfl, _, rfl, lp, _, rfl, .inl (SqL.of hlp), b, x, _, [.int y], rfl, hb, by omega, fun x1 r r0 rm => ?_⟩
  obtain ⟨k1, b1⟩ := bag x1 hb
  generalize upd H b (.lst [.int x1, .int y]) = H1 at k1 b1 ⊢
  have hlp1 := k1.but _ _ (one_not npb) hlp
  obtain ⟨pv, ⟨n, sy⟩, ep, hq, pp, vsy, rfl, hpp, py, vs', rfl, hpy, kly⟩ := pr_at (PrL.mono k1.tups hps) r0 rm
  have ds : dS sy := dps _ hq
  refine ⟨lp, _, _, _, rfl, rfl, SqL.of hlp1, ep, pp, _, rfl, SqT.of hpp, rfl, _, _, rfl, _, _, rfl, rfl, ?_⟩
  refine ⟨_, rfl, b, x1, 4, [.int y], rfl, b1, by decide, fun x2 way _ _ => ?_⟩
  obtain ⟨k2, b2⟩ := bag x2 b1
  generalize upd H1 b (.lst [.int x2, .int y]) = H2 at k2 b2 ⊢
  have k02 := k1.trans k2
  have e2 := en.kp k02
  have hpy2 := k2.tups _ _ hpy
  have kly2 := KL.mono k2.tups kly
  refine ⟨fun σ H' => σ = [some (.ref b), some (.ref lp), some (.ref lk), some (.ref lt), some (.int n), some (.ref py), some (.int way), none] ∧ H' = H2, ?_, ?_⟩
  · refine ⟨_, rfl, py, _, 0, _, rfl, rfl, SqT.of hpy2, atI_nat (j := 0) rfl, rfl, _, rfl, ?_⟩
    rw [hd_dec sy .thing "thing" rfl (by decide)]
    refine ite2 (fun c => ?_) (fun c => iteF ⟨rfl, rfl⟩)
    refine ⟨_, rfl, _, _, rfl, rfl, _, rfl, ite2 (fun _ => ?_) (fun _ => ⟨rfl, rfl⟩)⟩
    obtain ⟨a, k, rfl⟩ := hd_thing (of_decide_eq_true c)
    obtain ⟨va, vb, rfl, ia, ib⟩ := kl_two kly2
    obtain ⟨da, db⟩ : dk (.nm a) ∧ dn k := ds
    refine ⟨_, rfl, py, _, _, _, rfl, rfl, SqT.of hpy2, rfl, _, rfl, py, _, _, _, rfl, rfl, SqT.of hpy2, rfl, small2 (by show 3 ≤ 1000; decide), fun q1 h1 => ⟨Nat.zero_le _, fun p1 h2 => ⟨_, rfl, small2 (by show 4 ≤ 1000; decide), fun q2 h3 => ?_⟩⟩⟩
    obtain ⟨s1, s2, g1, g2, g3⟩ := three (T2 := [.ref q1, .str "thing", .ref p1, .int n]) h1 h2 h3
    exact stp_fin (n := some n) (fr := []) q hL k02 b2 s1 g2 g1 g3 ((isF_new h1 ia ib).mono s2.tups) ⟨da, by have := db.2; omega, db.1.2.2.1⟩ okFr0
  rintro σ H2' ⟨rfl, rfl⟩
  refine ⟨fun σ H' => σ = [some (.ref b), some (.ref lp), some (.ref lk), some (.ref lt), some (.int n), some (.ref py), some (.int way), none] ∧ H' = H2', ?_, ?_⟩
  · refine ⟨_, rfl, py, _, 0, _, rfl, rfl, SqT.of hpy2, atI_nat (j := 0) rfl, rfl, _, rfl, ?_⟩
    rw [hd_dec sy .tied "tied" rfl (by decide)]
    refine ite2 (fun c => ?_) (fun c => iteF ⟨rfl, rfl⟩)
    refine ⟨_, rfl, _, _, rfl, rfl, _, rfl, ite2 (fun _ => ?_) (fun _ => ⟨rfl, rfl⟩)⟩
    obtain ⟨z1, z2, z3, rfl⟩ := hd_tied (of_decide_eq_true c)
    obtain ⟨v1, v2, v3, rfl, i1, i2, i3⟩ := kl_three kly2
    obtain rfl : v2 = .str z2 := i2
    obtain ⟨da, db⟩ : dk (.nm z1) ∧ dk (.nm z3) := ds
    refine ⟨small2 (by show 1 ≤ 1000; decide), fun t1 ht1 => ?_⟩
    have s1 := same_new ht1 (.tup [.str "has"])
    refine ⟨_, rfl, 1, rfl, py, _, rfl, SqT.of (s1 _ _ hpy2), sx1 _ _, fun t2 ht2 => ?_⟩
    rw [cut1]
    have s2 := same_new ht2 (.tup [v1, .str z2, v3])
    refine ⟨t1, t2, _, _, rfl, rfl, SqT.of (s2 _ _ upd_same), SqT.of upd_same, by simp, small2 (by show 1 + 3 ≤ 1000; decide), fun z => (by cases z), fun _ t3 ht3 => ?_⟩
    refine ⟨Nat.zero_le _, fun p1 h2 => ⟨_, rfl, small2 (by show 4 ≤ 1000; decide), fun q2 h3 => ?_⟩⟩
    have s12 := s1.trans s2
    obtain ⟨s3, s4, g1, g2, g3⟩ := three (T1 := [.str "has"] ++ [v1, .str z2, v3]) (T2 := [.ref t3, .str "tied", .ref p1, .int n]) ht3 h2 h3
    have i3' : IsF _ (Fa.has (.nm z1) z2 (.nm z3)) (.ref t3) := hasF_new (H := upd (upd H2' t1 (.tup [.str "has"])) t2 (.tup [v1, .str z2, v3])) (t := z2) ht3 (i1.mono s12.tups) (i3.mono s12.tups)
    exact stp_fin (n := some n) (fr := []) q hL k02 b2 (s12.trans s3) g2 g1 (none_of_same s12 g3) (i3'.mono s4.tups) ⟨da, Nat.zero_le _, db.2.2.1⟩ okFr0
  rintro σ H2'' ⟨rfl, rfl⟩
  obtain ⟨v0, vr, k0, kr, rfl, ek, ik0, dk0⟩ : ∃ (v0 : V) (vr : List V) (k0 : Kd) (kr : List Kd), vs' = v0 :: vr ∧ sy.parts = k0 :: kr ∧ IsK H2'' k0 v0 ∧ (sy.hd ≠ .within → sy.hd ≠ .makes → dn k0) := by
    cases sy with
    | every a c => obtain ⟨va, vb, rfl, ia, ib⟩ := kl_two kly2; exact ⟨va, _, a, _, rfl, rfl, ia, fun _ _ => ds.1⟩
    | no a c => obtain ⟨va, vb, rfl, ia, ib⟩ := kl_two kly2; exact ⟨va, _, a, _, rfl, rfl, ia, fun _ _ => ds.1⟩
    | thing a c => obtain ⟨va, vb, rfl, ia, ib⟩ := kl_two kly2; exact ⟨va, _, .nm a, _, rfl, rfl, ia, fun _ _ => ⟨ds.1, Nat.zero_le _⟩⟩
    | within a c => obtain ⟨va, vb, rfl, ia, ib⟩ := kl_two kly2; exact ⟨va, _, .nm a, _, rfl, rfl, ia, fun h _ => absurd rfl h⟩
    | tied a c d => obtain ⟨va, vb, vc, rfl, ia, ib, ic⟩ := kl_three kly2; exact ⟨va, _, .nm a, _, rfl, rfl, ia, fun _ _ => ⟨ds.1, Nat.zero_le _⟩⟩
    | makes a c d => obtain ⟨va, vb, vc, rfl, ia, ib, ic⟩ := kl_three kly2; exact ⟨va, _, .nm a, _, rfl, rfl, ia, fun _ h => absurd rfl h⟩
  refine ⟨_, rfl, py, _, 1, _, rfl, rfl, SqT.of hpy2, atI_nat (j := 1) rfl, ?_⟩
  refine ⟨fun σ H' => ∃ (vx : V) (kx : Kd) (x' y' : Int), σ = [some (.ref b), some (.ref lp), some (.ref lk), some (.ref lt), some (.int n), some (.ref py), some (.int way), some vx] ∧ Kp [b] H H' ∧ H' b = some (.lst [.int x', .int y']) ∧ IsK H' kx vx ∧ dn kx, ?_, ?_⟩
  · refine ⟨_, rfl, py, _, 0, _, rfl, rfl, SqT.of hpy2, atI_nat (j := 0) rfl, rfl, _, rfl, ?_⟩
    rw [hd_dec sy .within "within" rfl (by decide)]
    refine ite2 (fun c1 => iteT ⟨_, rfl, _, rfl, _, rfl, b, lk, lt, x2, y, 0, ws, ts, 2, rfl, b2, e2.hk, e2.ht, e2.nk, e2.nt, e2.p1, e2.p2, e2.p3, e2.p4, by decide, fun v H3 kx x3 y3 k3 b3 i3 nt dp nm => ⟨v, kx, x3, y3, rfl, k02.trans k3, b3, i3, dn_kind nt dp nm en.dw⟩⟩) (fun c1 => ⟨_, rfl, py, _, 0, _, rfl, rfl, SqT.of hpy2, atI_nat (j := 0) rfl, rfl, _, rfl, ?_⟩)
    rw [hd_dec sy .makes "makes" rfl (by decide)]
    refine ite2 (fun c2 => iteT ⟨_, rfl, _, rfl, _, rfl, b, lk, lt, x2, y, 0, ws, ts, 2, rfl, b2, e2.hk, e2.ht, e2.nk, e2.nt, e2.p1, e2.p2, e2.p3, e2.p4, by decide, fun v H3 kx x3 y3 k3 b3 i3 nt dp nm => ⟨v, kx, x3, y3, rfl, k02.trans k3, b3, i3, dn_kind nt dp nm en.dw⟩⟩) (fun c2 => ⟨_, rfl, rfl, _, rfl, ite2 (fun _ => ⟨_, rfl, _, rfl, _, rfl, b, lk, lt, x2, y, 0, ws, ts, 2, rfl, b2, e2.hk, e2.ht, e2.nk, e2.nt, e2.p1, e2.p2, e2.p3, e2.p4, by decide, fun v H3 kx x3 y3 k3 b3 i3 nt dp nm => ⟨v, kx, x3, y3, rfl, k02.trans k3, b3, i3, dn_kind nt dp nm en.dw⟩⟩) (fun _ => ?_)⟩)
    exact ⟨v0, k0, x2, y, rfl, k02, b2, ik0, dk0 (fun z => c1 (decide_eq_true z)) (fun z => c2 (decide_eq_true z))⟩
  rintro σ H3 ⟨vx, kx, x3, y3, rfl, k03, b3, ix, dx⟩
  have all' : ∀ {q1 p1 q2 : Addr}, H3 q1 = none → upd H3 q1 (.tup [.str "is", vx, .str "anything"]) p1 = none → upd (upd H3 q1 (.tup [.str "is", vx, .str "anything"])) p1 (.lst []) q2 = none → Q (.ref q2) (upd (upd (upd H3 q1 (.tup [.str "is", vx, .str "anything"])) p1 (.lst [])) q2 (.tup [.ref q1, .str "all", .ref p1, .non])) := fun h1 h2 h3 => by
    obtain ⟨s1, s2, g1, g2, g3⟩ := three (T2 := [.ref _, .str "all", .ref _, .non]) h1 h2 h3
    exact stp_fin (n := none) (fr := []) q hL k03 b3 s1 g2 g1 g3 ((isF_new h1 ix (show IsK _ (.nm "anything") (.str "anything") from rfl)).mono s2.tups) ⟨dx.1, Nat.zero_le _, dk_anyK.2.2.1⟩ okFr0
  refine ⟨_, rfl, rfl, _, rfl, ite2 (fun _ => iteT ?_) (fun _ => ⟨_, rfl, vx, kx, rfl, ix, dx.1.2.2.1, _, rfl, ite2 (fun _ => ?_) (fun _ => ?_)⟩)⟩
  · exact ⟨_, rfl, small2 (by show 3 ≤ 1000; decide), fun q1 h1 => ⟨Nat.zero_le _, fun p1 h2 => ⟨small2 (by show 4 ≤ 1000; decide), fun q2 h3 => all' h1 h2 h3⟩⟩⟩
  · exact ⟨_, rfl, small2 (by show 3 ≤ 1000; decide), fun q1 h1 => ⟨Nat.zero_le _, fun p1 h2 => ⟨small2 (by show 4 ≤ 1000; decide), fun q2 h3 => all' h1 h2 h3⟩⟩⟩
  · refine ⟨_, rfl, _, rfl, small2 (by show 3 ≤ 1000; decide), fun q1 h1 => ⟨Nat.zero_le _, fun p1 h2 => ⟨small2 (by show 4 ≤ 1000; decide), fun q2 h3 => ?_⟩⟩⟩
    obtain ⟨s1, s2, g1, g2, g3⟩ := three (T2 := [.ref q1, .str "self", .ref p1, .non]) h1 h2 h3
    exact stp_fin (n := none) (fr := []) q hL k03 b3 s1 g2 g1 g3 ((isF_new h1 ix ix).mono s2.tups) ⟨dx.1, by have := dx.2; omega, dx.1.2.2.1⟩ okFr0
end
end K23
namespace K23
open PySem L2
def spGrown : Sp := fun vs H Q _ => ∃ (L : List Addr) (b ls lp lk lt lh : Addr) (x y : Int) (xs : List V) (ss : List Stp) (ys : List V) (ps : List (Int × Sy)) (ws ts hs : List Str), vs = [.ref b, .ref ls, .ref lp, .ref lk, .ref lt] ∧ (∀ a ∈ L, H a ≠ none) ∧ H b = some (.lst [.int x, .int y]) ∧
  H ls = some (.lst xs) ∧ ls ≠ b ∧ StL [b] H xs ss ∧ ss.length ≤ 150 ∧ (∀ s ∈ ss, okE s.f) ∧ H lp = some (.lst ys) ∧ lp ≠ b ∧ PrL H ys ps ∧ 0 < ps.length ∧ ps.length ≤ 100 ∧ (∀ q ∈ ps, dS q.2) ∧ Env H b lk lt lh ws ts hs ∧ endStp ss.length L b H Q
theorem ndkms : ((([("_law_k" : Str)] : List Str) ++ [("_law_meet" : Str), ("_law_steps" : Str)]) : List Str).Nodup := by decide +kernel
theorem stp_at {L : List Addr} {H : Hp} {xs : List V} {ss : List Stp} {r : Int} (h : StL L H xs ss) (r0 : 0 ≤ r) (rm : r < (xs.length : Int)) : ∃ v q, atI xs r = some v ∧ ss[r.toNat]? = some q ∧ IsStp L H q v := by
  have hn : r.toNat < xs.length := by omega
  obtain ⟨q, hq, iq⟩ := paired_get h (List.getElem?_eq_getElem hn)
  have e := atI_nat (List.getElem?_eq_getElem hn)
  rw [show ((r.toNat : Nat) : Int) = r by omega] at e
  exact ⟨_, q, e, hq, iq⟩
theorem ints_at {js : List Int} {r : Int} (r0 : 0 ≤ r) (rm : r < (js.length : Int)) : ∃ j ∈ js, atI (js.map V.int) r = some (.int j) := by
  have hn : r.toNat < js.length := by omega
  have e := atI_nat (xs := js.map V.int) (j := r.toNat) (v := .int js[r.toNat]) (by rw [List.getElem?_map, List.getElem?_eq_getElem hn]; rfl)
  rw [show ((r.toNat : Nat) : Int) = r by omega] at e
  exact ⟨_, List.getElem_mem hn, e⟩
theorem okE.dx : ∀ {f : Fa}, okE f → dk f.x
  | .is _ _, h => h.1
  | .has _ _ _, h => h.1
theorem okE.shape {H : Hp} : ∀ {f : Fa} {v : V}, okE f → IsF H f v → ∃ (p : Addr) (T : List V) (va vl : V) (ka kl : Kd), v = .ref p ∧ H p = some (.tup T) ∧ atI T 0 = some (.str f.hs) ∧ atI T 1 = some va ∧ IsK H ka va ∧ ka.dep ≤ 4 ∧ atI T ((T.length : Int) - 1) = some vl ∧ IsK H kl vl ∧ kl.dep ≤ 4
  | .is x k, _, o, ⟨p, a, b, e, h, ia, ib⟩ => ⟨p, _, a, b, x, k, e, h, rfl, rfl, ia, Nat.le_trans o.1.1 (by decide), rfl, ib, Nat.le_trans (dep_le_nt k) o.2.1⟩
  | .has x _ y, _, o, ⟨p, a, b, e, h, ia, ib⟩ => ⟨p, _, a, b, x, y, e, h, rfl, rfl, ia, Nat.le_trans o.1.1 (by decide), rfl, ib, Nat.le_trans (dep_le_nt y) o.2.1⟩
section
variable {P : Program} {w : World} {K : PySem.W.Frag} {mg : Str → Option Value} {base : Heap} {f g e a1 a2 a3 a4 a5 a6 a7 a8 : Addr} {fd gd' ed d1 d2 d3 d4 d5 d6 d7 d8 : FuncData}
theorem scGrown : FnScope ["_law_bag", "_law_steps", "_law_pairs", "_law_kin", "_law_ties", "_law_made", "_law_i", "_law_one", "_law_meet", "_law_mates", "_law_j", "_law_number", "_law_saying_here"] ["_law_bag", "_law_steps", "_law_pairs", "_law_kin", "_law_ties"] (defScope sGrown) := ⟨rfl, rfl, rfl, by decide +kernel, rfl, by decide +kernel, by decide +kernel⟩
theorem ok_grown (F : Fun K "_law_grown" "_law_grown" sGrown f fd) (ml : mg "len" = none) (mr : mg "range" = none)
    (Gdr : FnOk P w K mg base CX0 1 a1 d1 ["_law_bag", "_law_many"] spDraw) (bGdr : Binds K d1 ["_law_bag", "_law_many"] []) (kGdr : PySem.W.keepIn K (.ref a1) = true) (mGdr : mg "_law_draw" = some (.ref a1))
    (Gwk : FnOk P w K mg base CX0 7 a2 d2 ["_law_steps", "_law_i", "_law_j", "_law_number", "_law_saying_here"] spWaysK) (bGwk : Binds K d2 ["_law_steps", "_law_i", "_law_j", "_law_number", "_law_saying_here"] []) (kGwk : PySem.W.keepIn K (.ref a2) = true) (mGwk : mg "_law_ways_of_kind" = some (.ref a2))
    (Gwt : FnOk P w K mg base CX0 7 a3 d3 ["_law_steps", "_law_i", "_law_j", "_law_number", "_law_saying_here"] spWaysT) (bGwt : Binds K d3 ["_law_steps", "_law_i", "_law_j", "_law_number", "_law_saying_here"] []) (kGwt : PySem.W.keepIn K (.ref a3) = true) (mGwt : mg "_law_ways_of_tie" = some (.ref a3))
    (Gpl : FnOk P w K mg base CX0 5 a4 d4 ["_law_bag", "_law_pairs", "_law_kin", "_law_ties"] spPlain) (bGpl : Binds K d4 ["_law_bag", "_law_pairs", "_law_kin", "_law_ties"] []) (kGpl : PySem.W.keepIn K (.ref a4) = true) (mGpl : mg "_law_plain_step" = some (.ref a4)) :
    FnOk P w K mg base CX0 8 f fd ["_law_bag", "_law_steps", "_law_pairs", "_law_kin", "_law_ties"] spGrown := by
  refine F.ok scGrown (fun vs H Q E h => ?_) (fun cdv A outer s H vs Q E hr h => ?_)
  · obtain ⟨L, b, ls, lp, lk, lt, lh, x, y, xs, ss, ys, ps, ws, ts, hs, rfl, _⟩ := h; rfl
  obtain ⟨L, b, ls, lp, lk, lt, lh, x, y, xs, ss, ys, ps, ws, ts, hs, rfl, hL, hb, hls, nsb, hst, lss, oks, hlp, npb, hps, ps0, ps1, dps, en, q⟩ := h
  have hrdr := hr.mono (show 1 ≤ 7 by decide)
  have hrwk := hr
  have hrwt := hr
  have hrpl := hr.mono (show 5 ≤ 7 by decide)
  refine ⟨_, @pss_cons _ _ _ _ _ (by exact ps_set (i := 5) scGrown.nd rfl (Or.inl rfl) (pe_lst pa_nil))
    (@pss_mid _ _ _ _ _ (by exact ps_if (PW.pt (pw_and (pt_cmpR op_gt (pe_callB call_len_seq rfl ml PySem.boot_len (pa_cons (pv 1) pa_nil)) pe_int (nomark _)) (pw_and1 (pt_cmpR op_gt (pe_call Gdr hrdr rfl mGdr kGdr bGdr .nil pass0 (pa_cons (pv 0) (pa_cons pe_int pa_nil))) pe_int (nomark _))))) (@pss_cons _ _ _ _ _ (by exact ps_set (i := 6) scGrown.nd rfl (Or.inl rfl) (pe_call Gdr hrdr rfl mGdr kGdr bGdr .nil pass0 (pa_cons (pv 0) (pa_cons (pe_callB call_len_seq rfl ml PySem.boot_len (pa_cons (pv 1) pa_nil)) pa_nil)))) (@pss_cons _ _ _ _ _ (by exact ps_set (i := 7) scGrown.nd rfl (Or.inl rfl) (pe_ix ix_tup (pe_ix ix_list (pv 1) (pv 6) (fun _ _ => rfl)) pe_int (fun _ _ => rfl))) (@pss_cons _ _ _ _ _ (by exact ps_set (i := 8) scGrown.nd rfl (Or.inr rfl) (pe_ix ix_tup (pv 7) (pe_op op_sub (pe_callB call_len_seq rfl ml PySem.boot_len (pa_cons (pv 7) pa_nil)) pe_int) (fun _ _ => rfl))) (@pss_mid _ _ _ _ _ (by exact ps_if (pt_cmpR op_eq (pe_ix ix_tup (pv 7) pe_int (fun _ _ => rfl)) pe_str (nomark _)) (@pss_one _ _ _ (by exact ps_set (i := 8) scGrown.nd rfl (Or.inr rfl) (pe_ix ix_tup (pv 7) pe_int (fun _ _ => rfl)))) pss_nil) (@pss_cons _ _ _ _ _ (by exact ps_setC (i := 9) ["_law_k"] ["_law_meet", "_law_steps"] [8, 1] scGrown.nd rfl rfl (pi_range1 rfl mr (pa_cons (pe_callB call_len_seq rfl ml PySem.boot_len (pa_cons (pv 1) pa_nil)) pa_nil)) (fun _ _ _ => pg_name (i := 0) ndkms rfl (Or.inl rfl)) (fun _ _ _ => pts_one (pt_cmpR (op_eqX hr.units) (pe_ix (r := rIxT K) ix_tup (pe_ix (r := rIxT K) ix_tup (pe_ix (r := rIxL K) ix_list (pv 2) (pv 0) (fun _ _ => rfl)) pe_int (fun _ _ => rfl)) pe_int (fun _ _ => rfl)) (pv 1) (nomark _))) (fun _ _ _ => (pv 0))) (@pss_cons _ _ _ _ _ (by exact ps_set (i := 10) scGrown.nd rfl (Or.inl rfl) (pv 6)) (@pss_mid _ _ _ _ _ (by exact ps_if (pt_cmpR op_gt (pe_callB call_len_seq rfl ml PySem.boot_len (pa_cons (pv 9) pa_nil)) pe_int (nomark _)) (@pss_one _ _ _ (by exact ps_set (i := 10) scGrown.nd rfl (Or.inl rfl) (pe_ix ix_list (pv 9) (pe_call Gdr hrdr rfl mGdr kGdr bGdr .nil pass0 (pa_cons (pv 0) (pa_cons (pe_callB call_len_seq rfl ml PySem.boot_len (pa_cons (pv 9) pa_nil)) pa_nil))) (fun _ _ => rfl)))) pss_nil) (@pss_one _ _ _ (by exact ps_for PassesOwn.never rfl (pi_list (pv 2)) (pg_tup rfl (pgs_cons (pg_name (i := 11) scGrown.nd rfl (Or.inl rfl)) (pgs_cons (pg_name (i := 12) scGrown.nd rfl (Or.inl rfl)) pgs_nil))) (@pss_one _ _ _ (by exact ps_if (pt_cmpR op_eq (pe_ix ix_tup (pv 7) pe_int (fun _ _ => rfl)) pe_str (nomark _)) (@pss_one _ _ _ (by exact ps_set (i := 5) scGrown.nd rfl (Or.inl rfl) (pe_op op_cat (pv 5) (pe_call Gwk hrwk rfl mGwk kGwk bGwk .nil pass0 (pa_cons (pv 1) (pa_cons (pv 6) (pa_cons (pv 10) (pa_cons (pv 11) (pa_cons (pv 12) pa_nil))))))))) (@pss_one _ _ _ (by exact ps_set (i := 5) scGrown.nd rfl (Or.inl rfl) (pe_op op_cat (pv 5) (pe_call Gwt hrwt rfl mGwt kGwt bGwt .nil pass0 (pa_cons (pv 1) (pa_cons (pv 6) (pa_cons (pv 10) (pa_cons (pv 11) (pa_cons (pv 12) pa_nil)))))))))))))))))))) pss_nil)
    (@pss_cons _ _ _ _ _ (by exact ps_if (pt_cmpR op_gt (pe_callB call_len_seq rfl ml PySem.boot_len (pa_cons (pv 5) pa_nil)) pe_int (nomark _)) (@pss_one _ _ _ (by exact @ps_ret _ _ _ _ (pe_ix ix_list (pv 5) (pe_call Gdr hrdr rfl mGdr kGdr bGdr .nil pass0 (pa_cons (pv 0) (pa_cons (pe_callB call_len_seq rfl ml PySem.boot_len (pa_cons (pv 5) pa_nil)) pa_nil))) (fun _ _ => rfl)))) pss_nil)
    (@pss_one _ _ _ (by exact @ps_ret _ _ _ _ (pe_call Gpl hrpl rfl mGpl kGpl bGpl .nil pass0 (pa_cons (pv 0) (pa_cons (pv 2) (pa_cons (pv 3) (pa_cons (pv 4) pa_nil))))))))), ?_⟩
  have lxs := StL.len hst
  have lys := Paired.length hps
  refine ⟨Nat.zero_le _, fun lm hlm => ?_⟩
  have sm := same_new hlm (.lst [])
  have nmb : lm ≠ b := fun z => by rw [z, hb] at hlm; cases hlm
  have hL' : ∀ a ∈ b :: L, H a ≠ none := fun a ha => by
    rcases List.mem_cons.mp ha with rfl | ha
    · rw [hb]; exact fun z => by cases z
    · exact hL a ha
  refine ⟨fun σ H' => ∃ (lm' : Addr) (mv : List V) (ms : List Stp) (x' y' : Int) (o6 o7 o8 o9 o10 o11 o12 : Option V), σ = [some (.ref b), some (.ref ls), some (.ref lp), some (.ref lk), some (.ref lt), some (.ref lm'), o6, o7, o8, o9, o10, o11, o12] ∧ Kp [b] H H' ∧ H' b = some (.lst [.int x', .int y']) ∧
    H' lm' = some (.lst mv) ∧ StL (b :: L) H' mv ms ∧ (∀ m ∈ ms, okE m.f ∧ okFr ss.length m.fr) ∧ ms.length ≤ 600 ∧ lm' ≠ b, ?_, ?_⟩
  · have none' : ∀ {H' : Hp} {x' : Int}, Kp [b] (upd H lm (.lst [])) H' → H' b = some (.lst [.int x', .int y]) → Kp [b] H H' ∧ H' b = some (.lst [.int x', .int y]) ∧ H' lm = some (.lst []) := fun k b' => ⟨(Kp.of sm).trans k, b', k.but _ _ (one_not nmb) upd_same⟩
    refine ⟨_, rfl, ls, _, rfl, .inl (SqL.of (sm _ _ hls)), _, _, rfl, rfl, _, rfl, ite2 (fun c0 => ?_) (fun _ => iteF ?_)⟩
    · have c0' : (0 : Int) < (xs.length : Int) := of_decide_eq_true c0
      refine ⟨_, rfl, b, x, 6, [.int y], rfl, sm _ _ hb, by decide, fun x1 r1 _ _ => ?_⟩
      obtain ⟨k1, b1⟩ := bag x1 (sm _ _ hb)
      generalize upd (upd H lm (.lst [])) b (.lst [.int x1, .int y]) = H1 at k1 b1 ⊢
      refine ⟨_, _, rfl, rfl, _, rfl, ite2 (fun _ => ?_) (fun _ => ?_)⟩
      · obtain ⟨k01, _, em1⟩ := none' k1 b1
        have hls1 := k01.but _ _ (one_not nsb) hls
        refine ⟨_, rfl, _, rfl, ls, _, rfl, .inl (SqL.of hls1), b, x1, _, [.int y], rfl, b1, c0', fun x2 i i0 im => ?_⟩
        obtain ⟨k2, b2⟩ := bag x2 b1
        generalize upd H1 b (.lst [.int x2, .int y]) = H2 at k2 b2 ⊢
        have k02 := k01.trans k2
        have hls2 := k02.but _ _ (one_not nsb) hls
        have hlp2 := k02.but _ _ (one_not npb) hlp
        have em2 := k2.but _ _ (one_not nmb) em1
        have st2 := StL.keep k02 hst
        obtain ⟨vi, si, ei, hsi, isi⟩ := stp_at st2 i0 im
        have oki := oks _ (List.mem_of_getElem? hsi)
        obtain ⟨pi, fi, fvi, rfl, hpi, ifi, _, _⟩ := isi
        refine ⟨_, rfl, _, rfl, ls, _, _, _, rfl, rfl, SqL.of hls2, ei, pi, _, _, _, rfl, rfl, SqT.of hpi, rfl, ?_⟩
        obtain ⟨p1, T, va, vl, ka, kl, rfl, hp1, eT0, eT1, ia, da, eTl, il, dl⟩ := oki.shape ifi
        refine ⟨_, rfl, _, rfl, p1, _, rfl, .inr (SqT.of hp1), _, _, rfl, rfl, p1, _, _, _, rfl, rfl, SqT.of hp1, eTl, ?_⟩
        refine ⟨fun σ H' => ∃ (vm : V) (km : Kd), σ = [some (.ref b), some (.ref ls), some (.ref lp), some (.ref lk), some (.ref lt), some (.ref lm), some (.int i), some (.ref p1), some vm, none, none, none, none] ∧ H' = H2 ∧ IsK H2 km vm ∧ km.dep ≤ 4, ?_, ?_⟩
        · refine ⟨_, rfl, p1, _, _, _, rfl, rfl, SqT.of hp1, eT0, rfl, _, rfl, ite2 (fun _ => ?_) (fun _ => ?_)⟩
          · exact ⟨_, rfl, p1, _, _, _, rfl, rfl, SqT.of hp1, eT1, va, ka, rfl, rfl, ia, da⟩
          · exact ⟨vl, kl, rfl, rfl, il, dl⟩
        rintro σ H2' ⟨vm, km, rfl, rfl, im', dm⟩
        refine ⟨_, rfl, ls, _, rfl, .inl (SqL.of hls2), xs.length, rfl, by omega, by omega, fun D hD => ?_⟩
        have nDb : D ≠ b := fun z => by rw [z, b2] at hD; cases hD
        refine cmp_by xs.length (fun i σ H' => (∃ o, σ = [o, some vm, some (.ref ls)]) ∧ Same H2' H' ∧ ∃ js : List Int, H' D = some (.lst (js.map V.int)) ∧ js.length ≤ i ∧ ∀ j ∈ js, 0 ≤ j ∧ j < (xs.length : Int)) ⟨⟨_, rfl⟩, same_new hD _, [], upd_same, Nat.zero_le _, fun _ h => (List.not_mem_nil h).elim⟩ ?_ ?_
        · rintro σ H4 ⟨_, s4, js, eD, ljs, bjs⟩
          refine ⟨Nat.le_refl _, ?_⟩
          have b4 := s4 _ _ b2
          refine ⟨_, rfl, ?_⟩
          refine ⟨fun σ H' => ∃ (j x' : Int), σ = [some (.ref b), some (.ref ls), some (.ref lp), some (.ref lk), some (.ref lt), some (.ref lm), some (.int i), some (.ref p1), some vm, some (.ref D), some (.int j), none, none] ∧ Kp [b] H4 H' ∧ H' b = some (.lst [.int x', .int y]) ∧ 0 ≤ j ∧ j < (xs.length : Int), ?_, ?_⟩
          · refine ⟨_, rfl, D, _, rfl, .inl (SqL.of eD), _, _, rfl, rfl, _, rfl, ite2 (fun c => ?_) (fun _ => ⟨i, x2, rfl, Kp.refl _ _, b4, i0, im⟩)⟩
            have c' : (0 : Int) < ((js.map V.int).length : Int) := of_decide_eq_true c
            refine ⟨_, rfl, _, rfl, _, rfl, D, _, rfl, .inl (SqL.of eD), b, x2, _, [.int y], rfl, b4, c', fun x5 r r0 rm => ?_⟩
            obtain ⟨k5, b5⟩ := bag x5 b4
            generalize upd H4 b (.lst [.int x5, .int y]) = H5 at k5 b5 ⊢
            obtain ⟨j, hj, ej⟩ := ints_at (js := js) r0 (by rw [List.length_map] at rm; exact rm)
            exact ⟨D, _, _, _, rfl, rfl, SqL.of (k5.but _ _ (one_not nDb) eD), ej, j, x5, rfl, k5, b5, (bjs j hj).1, (bjs j hj).2⟩
          rintro σ H5 ⟨j, x5, rfl, k45, b5, j0, jm⟩
          have k25 : Kp [b] H2' H5 := (Kp.of s4).trans k45
          have k05 := k02.trans k25
          have st5 := StL.keep k05 hst
          have hlp5 := k05.but _ _ (one_not npb) hlp
          have hls5 := k05.but _ _ (one_not nsb) hls
          have pr5 := PrL.mono k05.tups hps
          have hp5 := k25.tups _ _ hp1
          have em5 := k25.but _ _ (one_not nmb) em2
          have lj : j.toNat < ss.length := by omega
          have hsj : ss[j.toNat]? = some ss[j.toNat] := List.getElem?_eq_getElem lj
          have okj := oks _ (List.mem_of_getElem? hsj)
          have hL5 : ∀ a ∈ b :: L, H5 a ≠ none := fun a ha e => by
            by_cases z : a = b
            · rw [z, b5] at e; cases e
            · cases c : H a with
              | none => exact hL' a ha c
              | some o => rw [k05.but a o (one_not z) c] at e; cases e
          refine ⟨_, rfl, lp, rfl, ⟨_, SqL.of hlp5⟩, for_list (xs := ys) (fun i' σ H' => ∃ (lm' : Addr) (mv : List V) (ms : List Stp) (o11 o12 : Option V), σ = [some (.ref b), some (.ref ls), some (.ref lp), some (.ref lk), some (.ref lt), some (.ref lm'), some (.int i), some (.ref p1), some vm, some (.ref D), some (.int j), o11, o12] ∧ Same H5 H' ∧
            H' lm' = some (.lst mv) ∧ StL (b :: L) H' mv ms ∧ (∀ m ∈ ms, okE m.f ∧ okFr ss.length m.fr) ∧ ms.length ≤ 6 * i' ∧ lm' ≠ b) ⟨lm, [], [], _, _, rfl, Same.refl _, em5, .nil, fun _ h => (List.not_mem_nil h).elim, Nat.zero_le _, nmb⟩ ?_ ?_ ?_⟩
          · rintro i' σ H' hi' ⟨_, _, _, _, _, _, s6, _⟩
            exact SqL.of (s6 _ _ hlp5)
          · rintro i' v σ H6 hx ⟨lm', mv, ms, o11, o12, rfl, s6, em6, st6, ok6, len6, nmb6⟩
            have hi' : i' < ys.length := (List.getElem?_eq_some_iff.mp hx).1
            obtain ⟨⟨n, sy⟩, hq, pp, vsy, rfl, hpp, isy⟩ := paired_get (PrL.mono s6.tups pr5) hx
            have ds : dS sy := dps _ (List.mem_of_getElem? hq)
            refine ⟨pp, _, rfl, SqT.of hpp, rfl, _, _, rfl, _, _, rfl, rfl, ?_⟩
            refine ⟨_, rfl, p1, _, _, _, rfl, rfl, SqT.of (s6 _ _ hp5), eT0, rfl, _, rfl, ?_⟩
            rw [hs_is]
            have evs : [V.ref ls, .int i, .int j, .int n, vsy] = [V.ref ls, .int ((i.toNat : Nat) : Int), .int ((j.toNat : Nat) : Int), .int n, vsy] := by
              rw [show ((i.toNat : Nat) : Int) = i by omega, show ((j.toNat : Nat) : Int) = j by omega]
            have hL6 : ∀ a ∈ b :: L, H6 a ≠ none := fun a ha e => by
              cases c : H5 a with
              | none => exact hL5 a ha c
              | some o => rw [s6 a o c] at e; cases e
            have st6' : StL [] H6 xs ss := StL.keep (.of s6) (StL.loose st5)
            have lm6 := StL.len st6
            have fin : ∀ {l2 : Addr} {H7 : Hp} {mv2 : List V} {ms2 : List Stp}, Same H6 H7 → H7 l2 = some (.lst mv2) → StL (b :: L) H7 mv2 ms2 → (∀ m ∈ ms2, okE m.f ∧ okFr ss.length m.fr) → ms2.length ≤ 6 → mv.length + mv2.length ≤ sizeLine ∧ ∀ l3, H7 l3 = none → Same H5 (upd H7 l3 (.lst (mv ++ mv2))) ∧ StL (b :: L) (upd H7 l3 (.lst (mv ++ mv2))) (mv ++ mv2) (ms ++ ms2) ∧ (∀ m ∈ ms ++ ms2, okE m.f ∧ okFr ss.length m.fr) ∧ (ms ++ ms2).length ≤ 6 * (i' + 1) ∧ l3 ≠ b := by
              intro l2 H7 mv2 ms2 s7 e7 st7 ok7 len7
              have l7 := StL.len st7
              refine ⟨small2 (by omega), fun l3 n3 => ?_⟩
              have s8 := same_new n3 (.lst (mv ++ mv2))
              refine ⟨(s6.trans s7).trans s8, paired_app (StL.keep (.of (s7.trans s8)) st6) (StL.keep (.of s8) st7), fun m hm => ?_, by rw [List.length_append]; omega, fun z => ?_⟩
              · rcases List.mem_append.mp hm with hm | hm
                · exact ok6 m hm
                · exact ok7 m hm
              · rw [z, s7 _ _ (s6 _ _ b5)] at n3; cases n3
            cases hf : si.f with
            | is x k =>
              refine iteT ⟨_, rfl, _, rfl, _, rfl, _, rfl, _, rfl, _, rfl, b :: L, ls, i.toNat, j.toNat, n, vsy, xs, ss, si, ss[j.toNat], x, k, sy, evs, hL6, s6 _ _ hls5, st6', hsi, hsj, hf, oki, okj, isy, ds, fun l2 H7 mv2 ms2 s7 n7 e7 st7 ok7 len7 => ?_⟩
              obtain ⟨z1, z2⟩ := fin s7 e7 st7 ok7 len7
              refine ⟨lm', l2, _, _, rfl, rfl, s7 _ _ em6, e7, z1, fun l3 n3 => ?_⟩
              obtain ⟨w1, w2, w3, w4, w5⟩ := z2 l3 n3
              exact ⟨l3, _, _, _, _, rfl, w1, upd_same, w2, w3, w4, w5⟩
            | has x r y' =>
              refine iteF ⟨_, rfl, _, rfl, _, rfl, _, rfl, _, rfl, _, rfl, b :: L, ls, i.toNat, j.toNat, n, vsy, xs, ss, si, ss[j.toNat], x, r, y', sy, evs, hL6, s6 _ _ hls5, st6', hsi, hsj, hf, oki, okj, isy, ds, fun l2 H7 mv2 ms2 s7 n7 e7 st7 ok7 len7 => ?_⟩
              obtain ⟨z1, z2⟩ := fin s7 e7 st7 ok7 len7
              refine ⟨lm', l2, _, _, rfl, rfl, s7 _ _ em6, e7, z1, fun l3 n3 => ?_⟩
              obtain ⟨w1, w2, w3, w4, w5⟩ := z2 l3 n3
              exact ⟨l3, _, _, _, _, rfl, w1, upd_same, w2, w3, w4, w5⟩
          · rintro σ H6 ⟨lm', mv, ms, o11, o12, rfl, s6, em6, st6, ok6, len6, nmb6⟩
            exact ⟨lm', mv, ms, _, _, _, _, _, _, _, _, _, rfl, k05.trans (.of s6), s6 _ _ b5, em6, st6, ok6, by omega, nmb6⟩
        · rintro i' σ H' hi' ⟨⟨o, rfl⟩, s4, js, eD, ljs, bjs⟩
          refine ⟨hi', ?_⟩
          rintro v H4 ⟨rfl, rfl⟩
          have hi1 : i' < xs.length := hi'
          obtain ⟨sk, hsk, pk, fk, fvk, ek, hpk, ifk, _, _⟩ := paired_get st2 (List.getElem?_eq_getElem hi1)
          have okk := oks _ (List.mem_of_getElem? hsk)
          obtain ⟨pf, T', va', rfl, hpf, _, eT1', ia'⟩ := ifk.sh
          have e0 : atI xs (0 + (i' : Int)) = some (.ref pk) := by rw [Int.zero_add]; exact atI_nat (by rw [List.getElem?_eq_getElem hi1, ek])
          refine ⟨_, rfl, _, rfl, ls, _, _, _, rfl, rfl, SqL.of (s4 _ _ hls2), e0, pk, _, _, _, rfl, rfl, SqT.of (s4 _ _ hpk), rfl, pf, _, _, _, rfl, rfl, SqT.of (s4 _ _ hpf), atI_nat (j := 1) eT1', _, rfl, sk.f.x.tx, km.tx, (ia'.mono s4.tups).xa, (im'.mono s4.tups).xa, by rw [Kd.tx_dp]; have := okk.dx.1; omega, _, rfl, ite2 (fun _ => ?_) (fun _ => ⟨⟨_, rfl⟩, s4, js, eD, by omega, bjs⟩)⟩
          refine ⟨_, rfl, _, eD, small1000 (by rw [List.length_map]; omega), ⟨_, rfl⟩, same_upd s4 hD, js ++ [0 + (i' : Int)], by rw [upd_same, List.map_append]; rfl, by rw [List.length_append]; show _ + 1 ≤ _; omega, fun j hj => ?_⟩
          rcases List.mem_append.mp hj with hj | hj
          · exact bjs j hj
          · rw [List.mem_singleton.mp hj]; omega
      · obtain ⟨k01, _, em1⟩ := none' k1 b1
        exact ⟨lm, [], [], _, _, _, _, _, _, _, _, _, rfl, k01, b1, em1, .nil, fun _ h => (List.not_mem_nil h).elim, Nat.zero_le _, nmb⟩
    · obtain ⟨k01, b1, em1⟩ := none' (Kp.refl _ _) (sm _ _ hb)
      exact ⟨lm, [], [], _, _, _, _, _, _, _, _, _, rfl, k01, b1, em1, .nil, fun _ h => (List.not_mem_nil h).elim, Nat.zero_le _, nmb⟩
  rintro σ H3 ⟨lm', mv, ms, x3, y3, o6, o7, o8, o9, o10, o11, o12, rfl, k3, b3, em3, st3, ok3, lms, nmb'⟩
  have lmv := StL.len st3
  refine ⟨_, rfl, lm', _, rfl, .inl (SqL.of em3), _, _, rfl, rfl, _, rfl, ite2 (fun c => ?_) (fun _ => ?_)⟩
  · have c' : (0 : Int) < (mv.length : Int) := of_decide_eq_true c
    refine ⟨_, rfl, _, rfl, _, rfl, lm', _, rfl, .inl (SqL.of em3), b, x3, _, [.int y3], rfl, b3, c', fun x4 r r0 rm => ?_⟩
    obtain ⟨k4, b4⟩ := bag x4 b3
    generalize upd H3 b (.lst [.int x4, .int y3]) = H4 at k4 b4 ⊢
    have st4 := StL.keep (L := b :: L) (k4.mono (by simp)) st3
    obtain ⟨v, st, ev, hst', ist⟩ := stp_at st4 r0 rm
    have okm := ok3 st (List.mem_of_getElem? hst')
    refine ⟨lm', _, _, _, rfl, rfl, SqL.of (k4.but _ _ (one_not nmb') em3), ev, ?_⟩
    refine q v H4 st x4 y3 (k3.trans k4) b4 ?_ okm.1 okm.2
    obtain ⟨p, pf, vf, e, h1, h2, h3, h4⟩ := ist
    exact ⟨p, pf, vf, e, h1, h2, h3, fun z => h4 (List.mem_cons_of_mem _ z)⟩
  · refine ⟨_, rfl, _, rfl, _, rfl, _, rfl, ss.length, L, b, lp, lk, lt, lh, x3, y3, ys, ps, ws, ts, hs, rfl, fun a ha e => ?_, b3, k3.but _ _ (one_not npb) hlp, npb, PrL.mono k3.tups hps, ps0, ps1, dps, en.kp k3, fun v H' st x' y' k' b' is o' l' => q v H' st x' y' (k3.trans k') b' is o' l'⟩
    by_cases z : a = b
    · rw [z, b3] at e; cases e
    · cases c : H a with
      | none => exact hL a ha c
      | some o => rw [k3.but a o (one_not z) c] at e; cases e
end
end K23
namespace L2
open PySem PySem.Spec PyProof.Rows
structure Fl (h : Heap) (x T : Addr) (cls : Value) (od : Option Addr) (fl : Value) : Prop where
  ex : ∃ (oe : Obj) (vs : Array Value), h.get? x = some oe ∧ oe.cls = cls ∧ oe.dict = od ∧ oe.data = .fields vs ∧ vs[1]? = some (.ref T)
  ne : T ≠ x
  nt : ∃ (oT : Obj) (ts : Array Value), h.get? T = some oT ∧ oT.data = .fields ts ∧ ts[3]? = some fl
structure Chg (fs : List Addr) (x T : Addr) (h h' : Heap) : Prop where
  keep : ∀ b o, h.get? b = some o → b ≠ x → b ≠ T → b ∉ fs → h'.get? b = some o
  slot : ∀ b o, h.get? b = some o → b ≠ x → b ≠ T → ∃ sl, h'.get? b = some { o with slots := sl }
  hx : ∃ o, h'.get? x = some o
  hT : ∀ o, h.get? T = some o → ∃ o', h'.get? T = some o'
section
variable {M : Model} {A : Around} {E : Value → Shared → Prop} {s : Shared}
theorem dict_mapF (o : Obj) (f : Array Value → Array Value) : (o.mapFields f).dict = o.dict := by
  obtain ⟨_, _, z, _⟩ := o
  cases z <;> rfl
theorem raw3 {pl : List Value} {head : Value} {L : Addr} : ([head, .ref L, .none, rawInt L, .none] ++ (if pl.isEmpty then List.replicate 6 Value.none else pl)).toArray[3]? = some (rawInt L) := by simp
theorem fl_set {x T : Addr} {cls fl : Value} {od : Option Addr} {Q : Unit → Shared → Prop} (f : Fl s.heap x T cls od fl)
    (h : ∀ h', (∀ b o, b ≠ T → s.heap.get? b = some o → h'.get? b = some o) → Fl h' x T cls od .none → Q () { s with heap := h' }) : wpAny M A (setFlight (.ref x) none) Q E s := by
  obtain ⟨⟨oe, vs, e1, e2, e3, e4, e5⟩, ne, oT, ts, g1, g2, g3⟩ := f
  have z3 : 3 < ts.size := (Array.getElem?_eq_some_iff.mp g3).1
  unfold setFlight
  refine wpAny_bind (wpAny_field e1 e4 e5 ?_)
  rw [if_pos (by simp)]
  have oth : ∀ b, b ≠ T → (s.heap.update T (Obj.mapFields fun a => a.setIfInBounds 3 (Option.elim none Value.none fun f => rawInt f))).get? b = s.heap.get? b := fun b hb => Heap.get?_update_other _ _ (Ne.symm hb)
  refine wpAny_setField g1 g2 z3 (h _ (fun b o hb e => (oth b hb).trans e) ⟨⟨oe, vs, (oth x (Ne.symm ne)).trans e1, e2, e3, e4, e5⟩, ne, _, _, Heap.get?_update_self _ g1 (Obj.isFreed_of_fields (Obj.data_mapFields g2 _)), Obj.data_mapFields g2 _, ?_⟩)
  simp [z3]
theorem note_core {base : Heap} {env : Env} {outer : List Env} {L x : Addr} {oe : Obj} {vs : Array Value} {head : Value} {hn : Bool} {Q : Unit → Shared → Prop} (hA : A.frames = some (env :: outer)) (hl : s.heap.FunFrames base (env :: outer)) (hf : env.frame = some L)
    (he : s.heap.get? x = some oe) (hd : oe.data = .fields vs) (hz : 1 < vs.size) (h : ∀ h' T, Chg (frs (env :: outer)) x x s.heap h' → Fl h' x T oe.cls oe.dict (rawInt L) → s.heap.objs.size ≤ T → Q () { s with heap := h' }) :
    wpAny M A (do let a ← frameOf env; let pl ← entryPlaceOf L hn; let b ← EntryCells.newEntry head a .none (rawInt L) .none pl; setField (.ref x) 1 b) Q E s := by
  have nx : x ∉ frs (env :: outer) := fun hm => by
    obtain ⟨_, o, ho, no⟩ := hl.mem hm
    rw [he] at ho
    cases ho
    exact no vs hd
  refine wpAny_bind (wpAny_frameOf_fun hA hl hf fun h1 k1 => wpAny_bind (wpAny_entryPlaceOf fun pl hpl => ?_))
  unfold EntryCells.newEntry newFields
  refine wpAny_bind (wpAny_newObj_type ?_ (hpl.sizeOk5 _ _ _ _ _))
  have e1 : h1.get? x = some oe := (k1.2.1 x nx).trans he
  generalize ho : ({ cls := .type "traceback", dict := none, data := .fields ([head, .ref L, .none, rawInt L, .none] ++ (if pl.isEmpty then List.replicate 6 Value.none else pl)).toArray } : Obj) = ot
  have e2 : (h1.push ot).get? x = some oe := Heap.get?_push_of_some _ e1
  refine wpAny_setField e2 hd hz ?_
  have nTx : h1.objs.size ≠ x := Nat.ne_of_gt (Heap.lt_size e1)
  have hd3 := Obj.data_mapFields hd fun a => a.setIfInBounds 1 (Value.ref h1.objs.size)
  have e3 := Heap.get?_update_self (Obj.mapFields fun a => a.setIfInBounds 1 (Value.ref h1.objs.size)) e2 (Obj.isFreed_of_fields hd3)
  have eT : (h1.push ot).get? h1.objs.size = some ot := Heap.get?_push_size h1 (by rw [← ho]; rfl)
  have oth : ∀ b o, b ≠ x → h1.get? b = some o → ((h1.push ot).update x (Obj.mapFields fun a => a.setIfInBounds 1 (Value.ref h1.objs.size))).get? b = some o := fun b o hb e => by
    rw [Heap.get?_update_other _ _ (Ne.symm hb)]
    exact Heap.get?_push_of_some _ e
  refine h _ h1.objs.size ⟨fun b o e n1 _ n3 => oth b o n1 ((k1.2.1 b n3).trans e), fun b o e n1 _ => ?_, ⟨_, e3⟩, fun _ _ => ⟨_, e3⟩⟩ ⟨⟨_, _, e3, Obj.cls_mapFields _ _, dict_mapF _ _, hd3, ?_⟩, nTx, ot, _, ?_, by rw [← ho], raw3⟩ (Nat.le_of_eq k1.1.symm)
  · obtain ⟨sl, q⟩ := k1.2.2 b o e
    exact ⟨sl, oth b _ n1 q⟩
  · simp [hz]
  · rw [Heap.get?_update_other _ _ (Ne.symm nTx)]
    exact eT
theorem note_bare {base : Heap} {env : Env} {outer : List Env} {L x : Addr} {oe : Obj} {vs : Array Value} {Q : Unit → Shared → Prop} (hA : A.frames = some (env :: outer)) (hl : s.heap.FunFrames base (env :: outer)) (hf : env.frame = some L)
    (he : s.heap.get? x = some oe) (hd : oe.data = .fields vs) (h1 : vs[1]? = some .none) (h : ∀ h' T, Chg (frs (env :: outer)) x x s.heap h' → Fl h' x T oe.cls oe.dict (rawInt L) → s.heap.objs.size ≤ T → Q () { s with heap := h' }) :
    wpAny M A (noteFrame (.ref x) env) Q E s := by
  unfold noteFrame
  simp only [hf]
  refine wpAny_bind (wpAny_field he hd h1 ?_)
  rw [if_neg (by decide)]
  exact note_core hA hl hf he hd (Array.getElem?_eq_some_iff.mp h1).1 h
theorem note_on {base : Heap} {env : Env} {outer : List Env} {L x T : Addr} {cls : Value} {od : Option Addr} {Q : Unit → Shared → Prop} (hA : A.frames = some (env :: outer)) (hl : s.heap.FunFrames base (env :: outer)) (hf : env.frame = some L)
    (f : Fl s.heap x T cls od .none) (h : ∀ h' T', Chg (frs (env :: outer)) x T s.heap h' → Fl h' x T' cls od (rawInt L) → s.heap.objs.size ≤ T' → Q () { s with heap := h' }) :
    wpAny M A (noteFrame (.ref x) env) Q E s := by
  obtain ⟨⟨oe, vs, e1, rfl, rfl, e4, e5⟩, ne, oT, ts, g1, g2, g3⟩ := f
  have nT : T ∉ frs (env :: outer) := fun hm => by
    obtain ⟨_, o, ho, no⟩ := hl.mem hm
    rw [g1] at ho
    cases ho
    exact no ts g2
  unfold noteFrame
  simp only [hf]
  refine wpAny_bind (wpAny_field e1 e4 e5 ?_)
  rw [if_pos (by simp)]
  refine wpAny_bind (wpAny_field g1 g2 g3 ?_)
  rw [if_neg (by simp [rawInt])]
  refine wpAny_bind (wpAny_setField g1 g2 (Array.getElem?_eq_some_iff.mp g3).1 ?_)
  have oth : ∀ b, b ≠ T → (s.heap.update T (Obj.mapFields fun a => a.setIfInBounds 3 Value.none)).get? b = s.heap.get? b := fun b hb => Heap.get?_update_other _ _ (Ne.symm hb)
  have eT := Heap.get?_update_self (Obj.mapFields fun a => a.setIfInBounds 3 Value.none) g1 (Obj.isFreed_of_fields (Obj.data_mapFields g2 _))
  have nr : ∀ b o, s.heap.get? b = some o → (∀ vs, o.data ≠ .fields vs) → b ≠ T := fun b o e no z => by
    rw [z, g1] at e
    cases e
    exact no ts g2
  refine note_core (s := { s with heap := s.heap.update T (Obj.mapFields fun a => a.setIfInBounds 3 Value.none) }) hA (hl.of_keeps fun b o e no => ⟨o, (oth b (nr b o e no)).trans e, rfl⟩) hf ((oth x (Ne.symm ne)).trans e1) e4 (Array.getElem?_eq_some_iff.mp e5).1 fun h' T' c f' z => h h' T' ?_ f' ?_
  · refine ⟨fun b o e n1 n2 n3 => c.keep b o ((oth b n2).trans e) n1 n1 n3, fun b o e n1 n2 => c.slot b o ((oth b n2).trans e) n1 n1, c.hx, fun o e => ?_⟩
    exact ⟨_, c.keep T _ eT ne ne nT⟩
  · have q : (s.heap.update T (Obj.mapFields fun a => a.setIfInBounds 3 Value.none)).objs.size = s.heap.objs.size := by
      obtain ⟨os⟩ := s.heap
      simp [Heap.update]
    have z' : (s.heap.update T (Obj.mapFields fun a => a.setIfInBounds 3 Value.none)).objs.size ≤ T' := z
    rw [q] at z'
    exact z'
end
end L2
namespace L2
open PySem PySem.Spec PyProof.Rows
def CXK (P : Program) (w : World) : CXT := fun outer H s E e s' => ∃ (x T : Addr) (cls : Value) (od : Option Addr) (H' : Hp), e = .ref x ∧ s'.os = s.os ∧ AllBare s'.gens ∧ Un (frs outer) [] H H' s.heap s'.heap ∧ HOk P w H' s'.heap ∧
  s.heap.objs.size ≤ x ∧ s.heap.objs.size ≤ T ∧ H' x = none ∧ H' T = none ∧ Fl s'.heap x T cls od .none ∧ E cls od H'
theorem HOk.chg {P : Program} {w : World} {H : Hp} {h h' : Heap} {fs : List Addr} {x T : Addr} (ok : HOk P w H h) (c : Chg fs x T h h') (hx : H x = none) (hT : H T = none) (hf : ∀ b ∈ fs, H b = none) : HOk P w H h' := fun a o e =>
  (ok a o e).stay (fun b u hb q => by
    have nb : ∃ o', H b = some o' := by
      rcases hb with rfl | hb
      · exact ⟨o, e⟩
      · exact ⟨_, hb⟩
    obtain ⟨o', nb⟩ := nb
    exact c.keep b u q (ne_of_none nb hx) (ne_of_none nb hT) fun z => by rw [hf b z] at nb; cases nb) (fun _ q => q) fun _ _ q => q
theorem Un.chg {fs fs2 ex : List Addr} {H H' : Hp} {h0 h1 h2 : Heap} {x T : Addr} (u : Un fs ex H H' h0 h1) (c : Chg fs2 x T h1 h2) (zx : h0.objs.size ≤ x) (zT : h0.objs.size ≤ T) (sub : ∀ b o, h0.get? b = some o → b ∈ fs2 → b ∈ fs) : Un fs ex H H' h0 h2 := by
  have nx : ∀ {b o}, h0.get? b = some o → b ≠ x ∧ b ≠ T := fun {b o} e => ⟨Nat.ne_of_lt (Nat.lt_of_lt_of_le (Heap.lt_size e) zx), Nat.ne_of_lt (Nat.lt_of_lt_of_le (Heap.lt_size e) zT)⟩
  refine ⟨fun b o q n hb he => c.keep b o (u.keep b o q n hb he) (nx q).1 (nx q).2 fun z => hb (sub b o q z), fun b o q n hb he => ?_, u.free, fun b o q he => ?_, u.tups, u.frzs, u.tbls⟩
  · obtain ⟨sl, e⟩ := u.slot b o q n hb he
    obtain ⟨sl2, e2⟩ := c.slot b { o with slots := sl } e (nx q).1 (nx q).2
    exact ⟨sl2, e2⟩
  · obtain ⟨o', e⟩ := u.there b o q he
    obtain ⟨sl, e2⟩ := c.slot b o' e (nx q).1 (nx q).2
    exact ⟨_, e2⟩
theorem Chg.set {fs : List Addr} {x T T2 : Addr} {h h2 h3 : Heap} (c : Chg fs x T h h2) (z : h.objs.size ≤ T2) (k : ∀ b o, b ≠ T2 → h2.get? b = some o → h3.get? b = some o) (hx : ∃ o, h3.get? x = some o) : Chg fs x T h h3 := by
  have nT : ∀ {b o}, h.get? b = some o → b ≠ T2 := fun {b o} e => Nat.ne_of_lt (Nat.lt_of_lt_of_le (Heap.lt_size e) z)
  refine ⟨fun b o e n1 n2 n3 => k b o (nT e) (c.keep b o e n1 n2 n3), fun b o e n1 n2 => ?_, hx, fun o e => ?_⟩
  · obtain ⟨sl, q⟩ := c.slot b o e n1 n2
    exact ⟨sl, k b _ (nT e) q⟩
  · obtain ⟨o', q⟩ := c.hT o e
    exact ⟨o', k T _ (nT e) q⟩
theorem Fl.hx {h : Heap} {x T : Addr} {cls fl : Value} {od : Option Addr} (f : Fl h x T cls od fl) : ∃ o, h.get? x = some o := let ⟨oe, _, e, _⟩ := f.ex; ⟨oe, e⟩
section
variable {P : Program} {w : World} {K : PySem.W.Frag} {mg : Str → Option Value} {base : Heap} {N : List Str} {qual : Str} {scope : Scope} {f : Addr} {cd : Value} {A : Around} {outer : List Env} {s₀ : Shared} {H₀ : Hp} {E : XK}
def XE (X : Cx) (E : XK) : Prop := ∀ (pins : List (Addr × Obj)) (σ : St) (H : Hp) (s : Shared) (x : Addr) (oe : Obj) (vs : Array Value), Inv X pins σ H s → H x = none → X.s₀.heap.objs.size ≤ x → s.heap.get? x = some oe → oe.data = .fields vs → vs[1]? = some .none → E oe.cls oe.dict H → X.xe (.ref x) s
theorem left_cx {pins : List (Addr × Obj)} {σ : St} {H : Hp} {s : Shared} {x T T2 : Addr} {cls : Value} {od : Option Addr} {h2 h3 : Heap} (J : Inv (cxOf (CXK P w) P w K mg base N qual scope f cd A outer s₀ H₀ E) pins σ H s) (c : Chg (frs (envOfC qual scope s₀.heap.objs.size f cd :: outer)) x T s.heap h2) (f2 : Fl h3 x T2 cls od .none)
    (z2 : s.heap.objs.size ≤ T2) (k3 : ∀ b o, b ≠ T2 → h2.get? b = some o → h3.get? b = some o) (zx : s₀.heap.objs.size ≤ x) (zT : s₀.heap.objs.size ≤ T) (hx : H x = none) (hT : H T = none) (q : E cls od H) : CXK P w outer H₀ s₀ E (.ref x) { s with heap := h3 } := by
  have c3 := c.set z2 k3 f2.hx
  refine ⟨x, T2, cls, od, H, rfl, J.os, J.bare, Un.chg J.base c3 zx zT fun b o e hb => ?_, HOk.chg J.hok c3 hx hT fun b hb => J.stkFree b hb, zx, Nat.le_trans J.sz z2, hx, J.hok.fresh z2, f2, q⟩
  rcases List.mem_cons.mp (J.stkSub b hb) with e2 | e2
  · rw [e2] at e
    exact absurd (Nat.lt_of_lt_of_le (Heap.lt_size e) J.ok.above) (Nat.lt_irrefl _)
  · exact e2
theorem pass_cx : Passes (CXK P w) (cxOf (CXK P w) P w K mg base N qual scope f cd A outer s₀ H₀ E) E := by
  rintro pins σ H s e s' I ⟨x, T, cls, od, H', rfl, os, bare, un, hok, zx, zT, hx, hT, fl, q⟩
  have J := I.call' os un hok bare (fun b z => absurd z (by simp))
  show wpAny _ _ (leaving _ _) _ _ _
  unfold leaving
  refine wpAny_bind (note_on J.ok.frames J.stack rfl fl fun h2 T2 c f2 z2 => fl_set f2 fun h3 k3 f3 => ?_)
  exact left_cx (s := s') J c f3 z2 k3 (Nat.le_trans I.sz zx) (Nat.le_trans I.sz zT) hx hT q
theorem xe_cx : XE (cxOf (CXK P w) P w K mg base N qual scope f cd A outer s₀ H₀ E) E := by
  intro pins σ H s x oe vs J hx zx he hd h1 q
  show wpAny _ _ (leaving _ _) _ _ _
  unfold leaving
  refine wpAny_bind (note_bare J.ok.frames J.stack rfl he hd h1 fun h2 T2 c f2 z2 => fl_set f2 fun h3 k3 f3 => ?_)
  exact left_cx (s := s) J c f3 z2 k3 zx zx hx hx q
end
section
variable {P : Program} {w : World} {K : PySem.W.Frag} {mg : Str → Option Value} {base : Heap}
theorem Fun.okX {x qual : Str} {st : Stmt} {f : Addr} {fd : FuncData} {N ps : List Str} {k : Nat} {sp : Sp} (F : Fun K x qual st f fd) (S : FnScope N ps (defScope st)) (len : ∀ vs H Q E, sp vs H Q E → vs.length = ps.length)
    (hbody : ∀ (cdv : Value) (A : Around) (outer : List Env) (s : Shared) (H : Hp) (vs : List V) (Q : VK) (E : XK), Room k (A.deeper (envOfC qual (defScope st) s.heap.objs.size f cdv)) → sp vs H Q E →
      ∃ t, PSs (cxOf (CXK P w) P w K mg base N qual (defScope st) f cdv A outer s H E) (defBody st) t ∧ t { nx := fun _ H' => Q .non H', rt := Q } (start N vs) H) : FnOk P w K mg base (CXK P w) (k + 1) f fd ps sp := by
  obtain ⟨oc, od, kV, doc, pm, an, cdv, ct, osl, rfl, lk, hcd⟩ := F.ex
  exact fn_of lk hcd S len fun A outer s H vs Q E hr hsp => hbody cdv A outer s H vs Q E hr hsp
end
theorem PS.nox {X : Cx} {st : Stmt} {t : TS} (h : PS X.nox st t) : PS X st t := fun pins s σ H D I hw =>
  wpAny_mono (h pins s σ H D (I.wish _) hw) (fun _ _ q => q.unwish) fun _ _ z => False.elim z
end L2
namespace L2
open PySem PySem.Spec PyProof.Rows
structure XCl (K : PySem.W.Frag) (C : Addr) : Prop where
  hd : PySem.W.hasDictIn K C = true
  ve : PySem.W.mroIn K C (.type "BaseException") = some true
  ob : PySem.W.mroIn K C (.type "object") = some true
  rf : ∃ cd, PySem.W.clsIn K C = some cd ∧ ∀ self, refuseLoop self "__setattr__" cd.mro = pure ()
  ga : PySem.W.findIn K (.ref C) "__getattribute__" = some (some (.builtin "BaseException.__getattribute__"))
  gt : PySem.W.findIn K (.ref C) "__getattr__" = some none
  sa : PySem.W.findIn K (.ref C) "__setattr__" = some (some (.builtin "object.__setattr__"))
  cl : PySem.W.findIn K (.ref C) "__class__" = some (some (.builtin "object.__class__"))
  cg : PySem.W.specialIn K (.builtin "object.__class__") "__get__" = some (some (.builtin "getset_descriptor.__get__"))
  ct : PySem.W.takesIn K (.builtin "object.__class__") = some true
theorem kd_bga : builtinKind "BaseException.__getattribute__" = some .slot := by decide +kernel
theorem sp_bga : splitId "BaseException.__getattribute__" = some ("BaseException", "__getattribute__") := by decide +kernel
theorem no_bga : (Value.builtin "BaseException.__getattribute__" == Value.builtin "object.__getattribute__") = false := by decide +kernel
section
variable {prog : Program} {w : World} {A : Around} {E : Value → Shared → Prop} {s : Shared} {K : PySem.W.Frag} {x C : Addr} {ox : Obj} {od : Option Obj} {name : Str} {v : Value} {tk : Tok}
open PySem.W in
theorem xga_v {R : Result → Shared → Prop} (X : K.In s.heap) (c : XCl K C) (I : InstAt s.heap x ox C od) (hf : findObj K C od name = some (.value v)) (q : R (.ok (.ret v)) s) :
    codeAny (model prog w) A (.call (.builtin "BaseException.__getattribute__") ⟨[.ref x, .str name tk], []⟩) R s := by
  have sub : Looks (model prog w) s.heap (isInstance (.ref x) (.type "BaseException")) true := I.type.andThen (looks_mroIn X c.ve)
  have L0 := I.type (M := model prog w)
  have L1 := looks_find (M := model prog w) X I hf
  refine codeAny_call_builtin F.attr_ValueError.ga.plain F.entry_bexc_ga (@check_slot (model prog w) _ _ s "BaseException.__getattribute__" "BaseException" "__getattribute__" (.ref x) [.str name tk] [] _ kd_bga sp_bga sub (F.args_bexc_ga (.ref x) (.str name tk)) ?_)
  obtain ⟨hh, g, d, t, os⟩ := s
  unfold Builtin.«object.__getattribute__»
  refine wpAny_bind (wpAny_pure (wpAny_bind (wpAny_pure (wpAny_bind (L0.at (wpAny_bind (L1.at ?_)))))))
  exact wpAny_pure q
open PySem.W in
theorem xga_b {R : Result → Shared → Prop} (X : K.In s.heap) (c : XCl K C) (I : InstAt s.heap x ox C od) (hf : findObj K C od "__class__" = some (.bind (.builtin "getset_descriptor.__get__") (.builtin "object.__class__"))) (q : R (.ok (.ret (.ref C))) s) :
    codeAny (model prog w) A (.call (.builtin "BaseException.__getattribute__") ⟨[.ref x, .str "__class__" tk], []⟩) R s := by
  have sub : Looks (model prog w) s.heap (isInstance (.ref x) (.type "BaseException")) true := I.type.andThen (looks_mroIn X c.ve)
  have L0 := I.type (M := model prog w)
  have L1 := looks_find (M := model prog w) X I hf
  refine codeAny_call_builtin F.attr_ValueError.ga.plain F.entry_bexc_ga (@check_slot (model prog w) _ _ s "BaseException.__getattribute__" "BaseException" "__getattribute__" (.ref x) [.str "__class__" tk] [] _ kd_bga sp_bga sub (F.args_bexc_ga (.ref x) (.str "__class__" tk)) ?_)
  obtain ⟨hh, g, d, t, os⟩ := s
  unfold Builtin.«object.__getattribute__»
  refine wpAny_bind (wpAny_pure (wpAny_bind (wpAny_pure (wpAny_bind (L0.at (wpAny_bind (L1.at ?_)))))))
  show wpAny _ _ (holding [.builtin "object.__class__"] (call (.builtin "getset_descriptor.__get__") [.builtin "object.__class__", .ref x, .ref C]) >>= ret) _ _ _
  refine wpAny_bind (wpAny_holding (wpAny_call (class_get X I c.ob ?_)))
  exact wpAny_pure q
open PySem.W in
theorem xget_by {fill expr : Bool} {Q : Value → Shared → Prop} (X : K.In s.heap) (c : XCl K C) (I : InstAt s.heap x ox C od)
    (h : codeAny (model prog w) A (.call (.builtin "BaseException.__getattribute__") ⟨[.ref x, .str name tk], []⟩) (fun r s' => ∃ v, r = .ok (.ret v) ∧ handedIn v = true ∧ Q v s') s) : wpAny (model prog w) A (getAttrBy (.ref x) (.str name tk) fill expr) Q E s := by
  have L0 := I.type (M := model prog w)
  have L1 := looks_findIn (M := model prog w) X c.ga
  have L2 := looks_findIn (M := model prog w) X c.gt
  obtain ⟨hh, g, d, t, os⟩ := s
  unfold getAttrBy
  refine wpAny_holding (wpAny_bind (L0.at (wpAny_bind (L1.at ?_))))
  show wpAny _ _ (if (onTheHeap (.ref C) && Value.builtin "BaseException.__getattribute__" == Value.builtin "object.__getattribute__") = true then _ else _) _ _ _
  rw [no_bga, Bool.and_false, if_neg Bool.false_ne_true]
  unfold getAttrByItsOwn
  refine wpAny_bind (L2.at (wpAny_bind (wpAny_attempt (wpAny_holding ?_))))
  unfold callGetattribute
  rw [if_neg (by cases expr <;> exact Bool.false_ne_true)]
  unfold boundAndCalled
  rw [F.attr_ValueError.ga.bind]
  refine wpAny_bind (wpAny_pure (wpAny_call (codeAny_mono h fun r s' z => ?_)))
  obtain ⟨v, rfl, hv, q⟩ := z
  show wpAny _ _ (handedOut v) _ _ _
  exact handed_on hv q
open PySem.W in
theorem xget_v {expr : Bool} {Q : Value → Shared → Prop} (X : K.In s.heap) (c : XCl K C) (I : InstAt s.heap x ox C od) (hf : findObj K C od name = some (.value v)) (hv : handedIn v = true) (q : Q v { s with toks := s.toks + 1 }) : wpAny (model prog w) A (getAttr (.ref x) name expr) Q E s := by
  unfold getAttr
  refine wpAny_bind (wpAny_mkText ?_)
  exact xget_by (s := { s with toks := s.toks + 1 }) X c I (xga_v (s := { s with toks := s.toks + 1 }) X c I hf ⟨v, rfl, hv, q⟩)
open PySem.W in
theorem xget_c {o1 : Obj} {Q : Option Value → Shared → Prop} (X : K.In s.heap) (c : XCl K C) (I : InstAt s.heap x ox C (some o1)) (q : Q (some (.ref C)) { s with toks := s.toks + 1 }) : wpAny (model prog w) A (getAttr? (.ref x) "__class__") Q E s := by
  obtain ⟨cd, hc, _⟩ := any_some c.hd
  have hf : findObj K C (some o1) "__class__" = some (.bind (.builtin "getset_descriptor.__get__") (.builtin "object.__class__")) := findObj_data (by rw [hc]; rfl) c.cl c.cg c.ct
  unfold getAttr? getAttrBy?
  refine wpAny_bind (wpAny_mkText (wpAny_bind (wpAny_attempt ?_)))
  refine xget_by (s := { s with toks := s.toks + 1 }) X c I (xga_b (s := { s with toks := s.toks + 1 }) X c I hf ⟨_, rfl, rfl, ?_⟩)
  first | exact q | exact wpAny_pure q
open PySem.W in
theorem kitx_x {x C : Addr} {ox o1 : Obj} (c : XCl K C) : KitX K (.ref x) (.ref C) (fun h => InstAt h x ox C (some o1)) where
  ty := fun _ _ _ I => I.type
  it := fun _ _ X _ => by
    obtain ⟨cd, hc, _⟩ := any_some c.hd
    unfold clsIn at hc
    split at hc
    · rename_i lo
      intro A' Q' E' s' k q
      unfold isType loadHead
      exact wpAny_bind (wpAny_loadPart (k _ _ (X _ _ lo)) (wpAny_pure q))
    · cases hc
  ne := fun h tp dd its n sl X htp => by
    obtain ⟨cd, hc, _⟩ := any_some c.hd
    refine Bool.eq_false_iff.mpr fun q => ?_
    obtain rfl : C = tp := Value.ref.inj (beq_iff_eq.mp q)
    unfold clsIn at hc
    split at hc
    · rename_i lo
      cases (X _ _ lo).symm.trans htp
    · cases hc
  ca := fun X I k => xget_c X c I k
end
end L2
namespace L2
open PySem PySem.Spec PyProof.Rows
section
variable {prog : Program} {w : World} {A : Around} {E : Value → Shared → Prop} {s : Shared} {K : PySem.W.Frag} {x C : Addr} {name : Str} {v : Value} {vs : Array Value} {sl : Array (Option Value)}
open PySem.W in
theorem xset {Q : Unit → Shared → Prop} (X : K.In s.heap) (c : XCl K C) (hx : s.heap.get? x = some ⟨.ref C, none, .fields vs, sl⟩) (ht : findIn K (.ref C) name = some none)
    (h : ∀ h', (∀ b o, b ≠ x → s.heap.get? b = some o → h'.get? b = some o) → h'.get? x = some ⟨.ref C, some s.heap.objs.size, .fields vs, sl⟩ → h'.Ns1 s.heap.objs.size (fun y => if y = name then some v else none) → ∀ tk, Q () { s with heap := h', toks := tk }) :
    wpAny (model prog w) A (setAttr (.ref x) name v) Q E s := by
  have I : InstAt s.heap x ⟨.ref C, none, .fields vs, sl⟩ C none := ⟨hx, rfl, rfl, trivial⟩
  obtain ⟨cd, hc, hd⟩ := any_some c.hd
  obtain ⟨cd', hc', hr⟩ := c.rf
  rw [hc] at hc'
  cases hc'
  refine set_plain X I c.sa ?_
  obtain ⟨hh, g, d, t, os⟩ := s
  have SF := F.store_ValueError
  have sub : Looks (model prog w) hh (isInstance (.ref x) (.type "object")) true := I.type.andThen (looks_mroIn X c.ob)
  refine codeAny_call_builtin SF.slot.plain SF.entry (@check_slot (model prog w) _ _ ⟨hh, g, d, t + 1, os⟩ "object.__setattr__" "object" "__setattr__" (.ref x) [.str name t, v] [] _ SF.kind SF.split sub (SF.args (.ref x) (.str name t) v) ?_)
  have hm : Looks (model prog w) hh (mroOf (.ref C)) cd.mro := (looks_clsIn X hc).andThen .now
  rw [osa_eq, refuse_eq]
  refine wpAny_bind (wpAny_bind (I.type.at (wpAny_bind (hm.at ?_))))
  rw [hr]
  refine wpAny_pure (wpAny_bind (I.type.at (wpAny_bind ((looks_findIn X ht).at (wpAny_bind (wpAny_pure ?_))))))
  show wpAny _ _ (Builtin.ObjectAttr.storeInOwnDict (.ref x) (.ref C) (.str name t) name v false) _ _ _
  refine wpAny_bind (wpAny_pure (wpAny_bind (wpAny_bind (wpAny_loadPart hx (wpAny_bind ((looks_clsIn X hc).at ?_))))))
  rw [hd]
  refine wpAny_bind (wpAny_alloc' ?_)
  have nx : x ≠ hh.objs.size := Nat.ne_of_lt (Heap.lt_size hx)
  have hx1 : (hh.push { cls := .type "dict", data := .dict #[] }).get? x = some ⟨.ref C, none, .fields vs, sl⟩ := Heap.get?_push_of_some _ hx
  refine wpAny_bind (wpAny_update' hx1 (wpAny_pure ?_))
  have gd : ((hh.push { cls := .type "dict", data := .dict #[] }).update x fun o => { o with dict := some hh.objs.size }).get? hh.objs.size = some { cls := .type "dict", data := .dict #[] } :=
    (Heap.get?_update_ne _ _ _ _ (Ne.symm nx)).trans (Heap.get?_push_at rfl rfl)
  have gx : ((hh.push { cls := .type "dict", data := .dict #[] }).update x fun o => { o with dict := some hh.objs.size }).get? x = some ⟨.ref C, some hh.objs.size, .fields vs, sl⟩ := Heap.get?_update_self _ hx1 rfl
  have nd : ((hh.push { cls := .type "dict", data := .dict #[] }).update x fun o => { o with dict := some hh.objs.size }).Ns hh.objs.size (fun _ => none) := ⟨_, #[], _, gd, rfl, fun e he => absurd he (by simp), fun _ => rfl⟩
  show wpAny _ _ (Builtin.ObjectAttr.storeInDict hh.objs.size (.str name t) name v) _ _ _
  unfold Builtin.ObjectAttr.storeInDict Builtin.ObjectAttr.newKeyGuard
  refine wpAny_bind (wpAny_pure (wpAny_bind (wpAny_nsSet1 (Heap.Ns1.of_empty nd) fun h' n1 sb => ?_)))
  obtain ⟨oD, esD, epD, hoD, hdD, hcD⟩ := n1.count (Within.cons name v Within.nil)
  refine wpAny_bind (wpAny_lookBehind hoD (by rw [hdD]; exact pastItsLine_dict (Nat.le_trans hcD (by rw [List.length_cons, List.length_nil, sizeLine_eq]; omega))) ?_)
  refine wpAny_pure (h h' (fun b o hb e => ?_) ((sb.2 x nx).trans gx) n1 _)
  rw [sb.2 b (Nat.ne_of_lt (Heap.lt_size e)), Heap.get?_update_ne _ _ _ _ hb]
  exact Heap.get?_push_of_some _ e
end
end L2
namespace L2
open PySem PySem.Spec PyProof.Rows
def xNew (C x : Addr) : HO := .ext fun h => ∃ t0 : Addr, h.get? x = some ⟨.ref C, none, .fields #[.ref t0, .none, .none, .none, .bool false, .none], #[]⟩
def xGot (C d x : Addr) : HO := .ext fun h => ∃ t0 : Addr, h.get? x = some ⟨.ref C, some d, .fields #[.ref t0, .none, .none, .none, .bool false, .none], #[]⟩
def xHeld (C d x : Addr) : HO := .ext fun h => ∃ (oe : Obj) (vs : Array Value), h.get? x = some oe ∧ oe.cls = .ref C ∧ oe.dict = some d ∧ oe.data = .fields vs
def xDct (f : Str) (y : V) (d : Addr) : HO := .ext fun h => ∃ (mA : Str → Option Value) (u : Value), h.Ns1 d mA ∧ mA f = some u ∧ RelV y u
section
variable {P : Program} {w : World} {H : Hp} {h : Heap} {C x d t0 : Addr}
theorem xNew_ok (e : h.get? x = some ⟨.ref C, none, .fields #[.ref t0, .none, .none, .none, .bool false, .none], #[]⟩) : ObjOk P w H h x (xNew C x) := ⟨⟨t0, e⟩, ⟨_, e⟩, fun _ _ ⟨t, p⟩ k => ⟨t, k _ p⟩⟩
theorem xGot_ok (e : h.get? x = some ⟨.ref C, some d, .fields #[.ref t0, .none, .none, .none, .bool false, .none], #[]⟩) : ObjOk P w H h x (xGot C d x) := ⟨⟨t0, e⟩, ⟨_, e⟩, fun _ _ ⟨t, p⟩ k => ⟨t, k _ p⟩⟩
theorem xHeld_ok {oe : Obj} {vs : Array Value} (e : h.get? x = some oe) (c : oe.cls = .ref C) (o : oe.dict = some d) (v : oe.data = .fields vs) : ObjOk P w H h x (xHeld C d x) := ⟨⟨oe, vs, e, c, o, v⟩, ⟨_, e⟩, fun _ _ ⟨oe, vs, p, r⟩ k => ⟨oe, vs, k _ p, r⟩⟩
theorem xDct_ok {f : Str} {y : V} {mA : Str → Option Value} {u : Value} (n : h.Ns1 d mA) (e : mA f = some u) (r : RelV y u) : ObjOk P w H h d (xDct f y d) := ⟨⟨mA, u, n, e, r⟩, let ⟨o, _, _, q, _⟩ := n; ⟨o, q⟩, fun _ _ ⟨mA, u, n, q⟩ k => ⟨mA, u, n.at k, q⟩⟩
end
section
variable {X : Cx} {pins : List (Addr × Obj)} {σ : St} {H : Hp} {s : Shared} {d : Addr} {o : HO}
theorem Inv.track (J : Inv X pins σ H s) (hd : H d = none) (z : X.s₀.heap.objs.size ≤ d) (nl : d ≠ X.env.locals) (nc : ∀ y c, X.env.cells.lookup y = some c → c ≠ d) (np : ∀ p ∈ X.pn ++ pins, p.1 ≠ d) (new : ObjOk X.prog X.w (upd H d o) s.heap d o) : Inv X pins σ (upd H d o) s := by
  have un : ∀ {b u}, H b = some u → upd H d o b = some u := fun {b u} e => by rw [upd_ne (ne_of_none e hd)]; exact e
  refine ⟨J.ok, J.os, J.bare, ⟨J.base.keep, J.base.slot, fun b u q n he => ?_, J.base.there, fun b xs q => un (J.base.tups b xs q), fun b v u q => un (J.base.frzs b v u q), fun b ps q => ?_⟩, J.loc, J.cell, ?_, fun y c e => ?_, fun p hp => ?_, fun a u e => ?_, J.len⟩
  · rw [upd_ne (Nat.ne_of_lt (Nat.lt_of_lt_of_le (Heap.lt_size q) z))]; exact J.base.free b u q n he
  · obtain ⟨m, e⟩ := J.base.tbls b ps q; exact ⟨m, un e⟩
  · rw [upd_ne (Ne.symm nl)]; exact J.free
  · rw [upd_ne (nc y c e)]; exact J.freeC y c e
  · obtain ⟨a1, a2, a3⟩ := J.pin p hp; exact ⟨a1, by rw [upd_ne (np p hp)]; exact a2, a3⟩
  · by_cases q : a = d
    · subst q; rw [upd_same] at e; cases e; exact new
    · rw [upd_ne q] at e
      exact (J.hok a u e).stay (fun _ _ _ q => q) (fun b q => un q) fun b xs q => un q
theorem Inv.old (I : Inv X pins σ H s) (z : s.heap.objs.size ≤ d) : X.s₀.heap.objs.size ≤ d ∧ d ≠ X.env.locals ∧ (∀ y c, X.env.cells.lookup y = some c → c ≠ d) ∧ ∀ p ∈ X.pn ++ pins, p.1 ≠ d :=
  ⟨Nat.le_trans I.sz z, Nat.ne_of_gt (Nat.lt_of_lt_of_le I.lt z), fun y c e => by
    obtain ⟨v, ob, ho, _⟩ := I.cell y c e
    exact Nat.ne_of_lt (Nat.lt_of_lt_of_le (Heap.lt_size ho) z), fun p hp => Nat.ne_of_lt (Nat.lt_of_lt_of_le (Heap.lt_size (I.pin p hp).1) z)⟩
end
def sXFld (K : PySem.W.Frag) (ta tv : TE) (f : Str) : TS := fun D σ H => tv σ H fun y H1 => ta σ H1 fun o H2 => ∃ x C, o = .ref x ∧ H2 x = some (xNew C x) ∧ XCl K C ∧ NoAttr K C f ∧ ∀ d, H2 d = none → d ≠ x → D.nx σ (upd (upd H2 x (xGot C d x)) d (xDct f y d))
def tXFld (K : PySem.W.Frag) (ta : TE) (f : Str) : TE := fun σ H Q => ta σ H fun o H1 => ∃ x C d y, o = .ref x ∧ H1 x = some (xHeld C d x) ∧ H1 d = some (xDct f y d) ∧ XCl K C ∧ NoAttr K C f ∧ Q y H1
section
variable {X : Cx} {o e value : Expr} {f : Str} {pos pos' : Pos} {ta tv : TE}
theorem ps_xfld (ha : PE X o ta) (hv : PE X value tv) (hs : swapsWith value (some (.Attribute o f pos')) pos.line X.env = pure false) : PS X (.Assign [.Attribute o f pos'] value pos) (sXFld X.K ta tv f) := by
  intro pins s σ H D I h
  refine plainObj_wpAny_Assign_Attribute (thn (hv pins s σ H _ I h) fun u s1 ⟨y, H1, I1, ry, q⟩ => thn (ha pins s1 σ H1 _ I1 q) fun ov s2 ⟨v, H2, I2, rx, x, C, ex, ea, c, n, q2⟩ => ?_) hs
  subst ex
  obtain rfl : ov = Value.ref x := rx
  obtain ⟨⟨t0, hx⟩, _⟩ := (show ObjOk X.prog X.w H2 s2.heap x (xNew C x) from I2.hok x _ ea)
  refine xset I2.kIn c hx n fun h' k gx n1 tk => ?_
  have zd : x < s2.heap.objs.size := Heap.lt_size hx
  have ndx : s2.heap.objs.size ≠ x := Nat.ne_of_gt zd
  have hd := I2.hok.fresh (Nat.le_refl s2.heap.objs.size)
  have J1 := I2.write (x := x) (e := x) (o := xGot C s2.heap.objs.size x) (h' := h') (t' := tk) (by rw [ea]; exact True.intro) (.inl rfl) (fun b q hb z => k b q hb z) ⟨_, gx⟩ (xGot_ok gx)
  obtain ⟨z1, z2, z3, z4⟩ := I2.old (Nat.le_refl s2.heap.objs.size)
  have J2 := J1.track (d := s2.heap.objs.size) (o := xDct f y s2.heap.objs.size) (by rw [upd_ne ndx]; exact hd) z1 z2 z3 z4 (xDct_ok n1 (if_pos rfl) ry)
  exact ⟨σ, _, J2, q2 _ hd ndx⟩
theorem held_at {pins : List (Addr × Obj)} {σ : St} {H : Hp} {s : Shared} {x C d : Addr} {f : Str} {y : V} (I : Inv X pins σ H s) (hx : H x = some (xHeld C d x)) (hd : H d = some (xDct f y d)) :
    ∃ (ox od : Obj) (mA : Str → Option Value) (u : Value), PySem.W.InstAt s.heap x ox C (some od) ∧ (∀ name, PySem.W.lookIn name od = some (mA name)) ∧ mA f = some u ∧ RelV y u := by
  obtain ⟨⟨oe, vs, e1, e2, e3, e4⟩, _⟩ := (show ObjOk X.prog X.w H s.heap x (xHeld C d x) from I.hok x _ hx)
  obtain ⟨⟨mA, u, n, e5, r⟩, _⟩ := (show ObjOk X.prog X.w H s.heap d (xDct f y d) from I.hok d _ hd)
  obtain ⟨od, ho, hl⟩ := lookIn_ns n
  refine ⟨oe, od, mA, u, ⟨e1, e2, ?_, ?_⟩, hl, e5, r⟩
  · unfold PySem.W.notCls; rw [e4]
  · rw [e3]; exact ho
theorem pe_xfld (he : PE X e ta) (hb : attributeBase e f X.env (eval e X.env) = eval e X.env) : PE X (.Attribute e f pos) (tXFld X.K ta f) := by
  intro pins s σ H Q I h
  refine attr_of hb (thn (he pins s σ H _ I h) fun u s1 ⟨v, H1, I1, rx, x, C, d, y, ex, ea, ed, c, n, q⟩ => ?_)
  subst ex
  obtain rfl : u = Value.ref x := rx
  obtain ⟨ox, od, mA, u, J, hl, hu, ru⟩ := held_at I1 ea ed
  exact xget_v I1.kIn c J (PySem.W.findObj_own c.hd n rfl (by rw [hl, hu])) (handed_of ru) ⟨y, H1, I1.tok _, ru, q⟩
theorem refs_of : ∀ (cs : List Addr) {its : List Value}, Vals (cs.map V.ref) its → its = cs.map Value.ref
  | [], _, .nil => rfl
  | a :: cs, _, .cons z t => by rw [List.map_cons, refs_of cs t]; cases z; rfl
theorem call_isX : CallR X (.builtin "isinstance") (fun xs H Q => ∃ (x C d : Addr) (f : Str) (y cv : V) (c : Value) (b : Bool), xs = [.ref x, cv] ∧ H x = some (xHeld C d x) ∧ H d = some (xDct f y d) ∧ XCl X.K C ∧ ((∃ n, cv = .ty n ∧ c = .type n) ∨ ∃ D, cv = .ref D ∧ c = .ref D) ∧ PySem.W.kitOne X.K (.ref C) c = some b ∧ Q (.bl b) H) := by
  intro pins s σ H xs us Q I r h
  obtain ⟨x, C, d, f, y, cv, c, b, rfl, ea, ed, xc, hc, e, q⟩ := h
  obtain ⟨u, v, rfl, ru, rv⟩ := r.two
  cases ru
  obtain ⟨ox, od, mA, _, J, _⟩ := held_at I ea ed
  have hv : v = c := by
    rcases hc with ⟨n, rfl, rfl⟩ | ⟨D, rfl, rfl⟩
    · cases rv; rfl
    · cases rv; rfl
  subst hv
  exact PySem.W.kia_one (kitx_x (ox := ox) (o1 := od) xc) I.kIn J e (fun z => nomatch z) fun tk => ⟨.bl b, H, I.tok _, rfl, q⟩
theorem call_isXT : CallR X (.builtin "isinstance") (fun xs H Q => ∃ (x C d p : Addr) (f : Str) (y : V) (cs : List Addr) (b : Bool), xs = [.ref x, .ref p] ∧ H x = some (xHeld C d x) ∧ H d = some (xDct f y d) ∧ XCl X.K C ∧ H p = some (.tup (cs.map V.ref)) ∧ PySem.W.kitAny X.K (.ref C) (cs.map Value.ref) = some b ∧ Q (.bl b) H) := by
  intro pins s σ H xs us Q I r h
  obtain ⟨x, C, d, p, f, y, cs, b, rfl, ea, ed, xc, hp, e, q⟩ := h
  obtain ⟨u, v, rfl, ru, rv⟩ := r.two
  cases ru
  cases rv
  obtain ⟨ox, od, mA, _, J, _⟩ := held_at I ea ed
  obtain ⟨_, its, r1, o, g1, g2, k1, g3⟩ := (show ObjOk X.prog X.w H s.heap p (.tup (cs.map V.ref)) from I.hok p _ hp)
  obtain rfl := refs_of cs r1
  obtain ⟨oc, od', odat, osl⟩ := o
  cases g2
  cases g3
  exact PySem.W.kia_tup (kitx_x (ox := ox) (o1 := od) xc) I.kIn J g1 e (fun z => nomatch z) fun tk => ⟨.bl b, H, I.tok _, rfl, q⟩
end
end L2
namespace L2
open PySem PySem.Spec PyProof.Rows
section
variable {prog : Program} {w : World} {A : Around} {E : Value → Shared → Prop} {h : Heap} {g : Array GenState} {d : Drawn} {t : Nat} {os : OsState}
variable {nm q : Str} {C N fI : Addr} {bs bm bmB : List Value} {hdct : Bool} {sn : List Str} {sub : List Value} {ab : Bool} {col : Option Bool} {dd : Option Addr} {k0 k1 k2 k3 k5 : Option Value} {B newId initId : String} {mN : Str → Option Value} {oI : Obj} {us : List Value}
abbrev xArgs (us : List Value) : Obj := { cls := .type "tuple", data := .seq us.toArray }
abbrev xObj (C a : Addr) : Obj := { cls := .ref C, data := .fields #[.ref a, .none, .none, .none, .bool false, .none] }
theorem xtype_call {Q : Fin → Shared → Prop} (F : ExcBaseFacts B newId initId bmB) (T : OwnTail h bmB bm) (hC : h.get? C = some (excClassObj nm q C N bs bm hdct sn sub ab col dd k0 k1 k2 k3 k5 newId)) (hN : h.Ns N mN) (hi : mN "__init__" = some (.ref fI)) (hf : h.get? fI = some oI) (hc : oI.cls = .type "function")
    (hz : us.length ≤ sizeLine) (hq : wpAny (model prog w) A (call (.ref fI) (.ref (h.objs.size + 1) :: us)) (fun r s' => r = .none ∧ Q (.done (.ret (.ref (h.objs.size + 1)))) s') E ⟨(h.push (xArgs us)).push (xObj C h.objs.size), g, d, t, os⟩) :
    wpAny (model prog w) A (Builtin.«type.__call__» ⟨.ref C :: us, []⟩) Q E ⟨h, g, d, t, os⟩ := by
  repeat (first | with_reducible refine wpAny_loadPart_at hC ?_ | with_reducible refine wpAny_madeBy_exc hC ?_ | wp_step)
  refine codeAny_call_builtin_code (Code.quiet_builtin _ F.quiet) (wpAny_check_new_subT F T hC (codeAny_exc_new_subT F T hC ?_ hz))
  show wpAny _ _ _ _ _ _
  have up : ∀ {b o}, h.get? b = some o → ((h.push (xArgs us)).push (xObj C h.objs.size)).get? b = some o := fun e => Heap.get?_push_of_some _ (Heap.get?_push_of_some _ e)
  have gx : ((h.push (xArgs us)).push (xObj C h.objs.size)).get? (h.objs.size + 1) = some (xObj C h.objs.size) := by heap_get
  have mine : (Value.ref C :: bm).contains (.ref C) = true := by simp
  have N2 : ((h.push (xArgs us)).push (xObj C h.objs.size)).Ns N mN := hN.keeps fun b o e => up e
  have T2 := T.keeps (h' := (h.push (xArgs us)).push (xObj C h.objs.size)) fun b o e => up e
  have C2 := up hC
  unfold isInstance
  repeat (first | with_reducible refine wpAny_loadPart_at gx ?_ | (with_reducible refine wpAny_isSubtype_exc C2 ?_; rw [mine]) | wp_step)
  show wpAny _ _ (typeLookup (.ref C) _) _ _ _
  refine wpAny_typeLookup_tail C2 N2 T2 F.mroIs F.init.lookup ?_
  rw [hi]
  refine wpAny_holding (wpAny_bind ?_)
  unfold bindSpecial
  refine wpAny_bind (wpAny_typeOf (T := "function") ⟨_, up hf, hc⟩ ?_)
  rw [if_pos (by decide)]
  refine wpAny_pure (wpAny_bind (wpAny_mono hq (fun r s' z => ?_) fun _ _ x => x))
  obtain ⟨rfl, z⟩ := z
  wp_walk
  exact z
theorem xcall {Q : Value → Shared → Prop} (F : ExcBaseFacts B newId initId bmB) (T : OwnTail h bmB bm) (hC : h.get? C = some (excClassObj nm q C N bs bm hdct sn sub ab col dd k0 k1 k2 k3 k5 newId)) (hN : h.Ns N mN) (hi : mN "__init__" = some (.ref fI)) (hf : h.get? fI = some oI) (hc : oI.cls = .type "function")
    (hz : us.length ≤ sizeLine) (hq : wpAny (model prog w) (A.under (.builtin "type.__call__" ⟨.ref C :: us, []⟩)) (call (.ref fI) (.ref (h.objs.size + 1) :: us)) (fun r s' => r = .none ∧ Q (.ref (h.objs.size + 1)) s') E ⟨(h.push (xArgs us)).push (xObj C h.objs.size), g, d, t, os⟩) :
    wpAny (model prog w) A (call (.ref C) us) Q E ⟨h, g, d, t, os⟩ := by
  have y1 := tc_lookup
  have y2 := tc_bind (.ref C)
  have y3 : (⟨h, g, d, t, os⟩ : Shared).TypeIs (.ref C) "type" := ⟨_, hC, rfl⟩
  refine wpAny_call (codeAny_of_tree ?_)
  show wpAny _ _ (callAny (.ref C) _) _ _ _
  repeat (any_goals (first | assumption | with_reducible refine wpAny_loadPart_at hC ?_ | wp_step))
  exact ⟨rfl, codeAny_call_builtin_at (Code.quiet_builtin _ (by decide +kernel)) entry_typeCall (wpAny_check_type_call_sub hC (xtype_call F T hC hN hi hf hc hz hq))⟩
end
theorem ns_val {K : PySem.W.Frag} {h : Heap} {N : Addr} {mN : Str → Option Value} {n : Str} {v : Value} (X : K.In h) (G : h.Ns N mN) (e : PySem.W.nsIn K N n = some (some v)) : mN n = some v := by
  obtain ⟨o, es, ep, ho, hd, _, hf⟩ := G
  unfold PySem.W.nsIn at e
  split at e
  · rename_i c d' es' n' sl lo
    have z := X _ _ lo
    rw [ho] at z
    cases z
    cases hd
    split at e
    · rename_i en fnd
      cases e
      rw [← hf]
      unfold nsFind findBy
      rw [← Array.find?_toList, fnd]
      rfl
    · split at e <;> cases e
  · cases e
def veB : List Value := [.type "ValueError", .type "Exception", .type "BaseException", .type "object"]
structure MkX (K : PySem.W.Frag) (C fI : Addr) : Prop where
  cls : ∃ (nm q : Str) (N : Addr) (bs bm : List Value) (hdct : Bool) (sn : List Str) (sub : List Value) (ab : Bool) (col : Option Bool) (dd : Option Addr) (k0 k1 k2 k3 k5 : Option Value), K.lookup C = some (excClassObj nm q C N bs bm hdct sn sub ab col dd k0 k1 k2 k3 k5 "ValueError.__new__") ∧
    PySem.W.nsOkIn K N = true ∧ PySem.W.nsIn K N "__init__" = some (some (.ref fI)) ∧ PySem.W.tailIn K veB bm = true
  fn : PySem.W.isFn K (.ref fI) = true
  kp : PySem.W.keepIn K (.ref C) = true
def del (H : Hp) (x : Addr) : Hp := fun b => if b = x then none else H b
theorem del_same {H : Hp} {x : Addr} : del H x x = none := by unfold del; rw [if_pos rfl]
theorem del_ne {H : Hp} {x b : Addr} (h : b ≠ x) : del H x b = H b := by unfold del; rw [if_neg h]
section
variable {X : Cx} {pins : List (Addr × Obj)} {σ : St} {H : Hp} {s : Shared} {k : Nat} {C fI : Addr} {fd : FuncData} {ps : List Str} {sp : Sp} {E : XK} {cn : Str} {p cpos pos : Pos} {e : Expr} {es : List Expr} {t : TA}
theorem Inv.drop {x : Addr} {φ : Heap → Prop} (J : Inv X pins σ H s) (hx : H x = some (.ext φ)) : Inv X pins σ (del H x) s := by
  have un : ∀ {b u}, H b = some u → (∀ ψ, u ≠ .ext ψ) → del H x b = some u := fun {b u} e n => by rw [del_ne (fun z => by rw [z, hx] at e; cases e; exact n φ rfl)]; exact e
  have no : ∀ {b}, H b = none → del H x b = none := fun {b} e => by unfold del; split <;> first | rfl | exact e
  refine ⟨J.ok, J.os, J.bare, ⟨J.base.keep, J.base.slot, fun b u q n he => no (J.base.free b u q n he), J.base.there, fun b xs q => un (J.base.tups b xs q) (fun _ z => nomatch z), fun b v u q => un (J.base.frzs b v u q) (fun _ z => nomatch z), fun b ps q => ?_⟩, J.loc, J.cell, no J.free, fun y c e => no (J.freeC y c e), fun p hp => ?_, fun a u e => ?_, J.len⟩
  · obtain ⟨m, e⟩ := J.base.tbls b ps q; exact ⟨m, un e (fun _ z => nomatch z)⟩
  · obtain ⟨a1, a2, a3⟩ := J.pin p hp; exact ⟨a1, no a2, a3⟩
  · have na : a ≠ x := fun z => by rw [z, del_same] at e; cases e
    rw [del_ne na] at e
    exact (J.hok a u e).stay (fun _ _ _ q => q) (fun b q => un q (fun _ z => nomatch z)) fun b xs q => un q (fun _ z => nomatch z)
theorem run_xmake {us : List Value} {vs : List V} {Q : VK} (M : MkX X.K C fI) (F : FnOk X.prog X.w X.K X.mg X.base CX0 k fI fd ps sp) (hr : Room (k + 1) X.A) (hb : Binds X.K fd ps []) (I : Inv X pins σ H s) (r : Vals vs us) (hz : us.length ≤ sizeLine)
    (h : ∀ x, H x = none → sp (.ref x :: vs) (upd H x (xNew C x)) (fun v H2 => v = .non ∧ Q (.ref x) H2) E0) {E' : Value → Shared → Prop} :
    wpAny (model X.prog X.w) X.A (call (.ref C) us) (fun u s' => ∃ x H', u = .ref x ∧ X.s₀.heap.objs.size ≤ x ∧ Inv X pins σ H' s' ∧ Q (.ref x) H') E' s := by
  obtain ⟨nm, q, N, bs, bm, hdct, sn, sub, ab, col, dd, k0, k1, k2, k3, k5, lC, ok, hi, tl⟩ := M.cls
  have G : s.heap.Ns N (s.heap.nsMap N) := .of_isNs (PySem.W.isNs_of_in I.kIn ok)
  have gi := ns_val I.kIn G hi
  have T := PySem.W.tail_of_in I.kIn tl
  obtain ⟨oI, lI, cI⟩ := Option.map_eq_some_iff.mp (beq_iff_eq.mp M.fn)
  obtain ⟨hh, g, d, tk, os⟩ := s
  refine xcall PySem.F.excBase_ValueError T (I.kIn _ _ lC) G gi (I.kIn _ _ lI) cI hz ?_
  have z1 := I.hok.fresh (show hh.objs.size ≤ hh.objs.size + 1 from Nat.le_succ _)
  have gx : ((hh.push (xArgs us)).push (xObj C hh.objs.size)).get? (hh.objs.size + 1) = some (xObj C hh.objs.size) := by heap_get
  have I2 := I.laid (a := hh.objs.size + 1) (o := xNew C (hh.objs.size + 1)) (h' := (hh.push (xArgs us)).push (xObj C hh.objs.size)) (t' := tk) (fun b u q => Heap.get?_push_of_some _ (Heap.get?_push_of_some _ q)) (Nat.le_succ _) (xNew_ok gx)
  have hq := h _ z1
  have r2 : Vals (V.ref (hh.objs.size + 1) :: vs) (Value.ref (hh.objs.size + 1) :: us) := .cons rfl r
  have hl : ((Value.ref (hh.objs.size + 1) :: us) ++ []).length = ps.length := by
    have e := r2.length
    rw [F.len _ _ _ _ hq] at e
    rw [List.append_nil]
    exact e.symm
  refine wpAny_call (codeAny_mono (F.run _ X.stack _ _ ⟨Value.ref (hh.objs.size + 1) :: us, []⟩ (Value.ref (hh.objs.size + 1) :: us) _ _ E0 (hr.make C us []) (I2.env0.make C us []) (by have b := hb _ (Value.ref (hh.objs.size + 1) :: us) I2.kIn hl; rw [List.append_nil] at b; exact b) r2 hq) fun r s' hq' => ?_)
  cases r with
  | error e => exact False.elim hq'
  | ok fl =>
    cases fl with
    | ret u =>
      obtain ⟨v, H', I3, rv, ev, q3⟩ := I2.after hq'
      subst ev
      exact ⟨rv, _, H', rfl, Nat.le_trans I.sz (Nat.le_succ _), I3, q3⟩
    | next => exact False.elim hq'
    | brk => exact False.elim hq'
    | cont => exact False.elim hq'
theorem raise_made {M : Model} {A : Around} {E' : Value → Shared → Prop} {env : Env} {m : Sem Value} {Q : Flow → Shared → Prop} {s0 : Shared} (hh : A.handled = none)
    (h : wpAny M A m (fun v s1 => ∃ (x C : Addr) (ox : Obj) (vs : Array Value), v = .ref x ∧ s1.heap.get? x = some ox ∧ ox.cls = .ref C ∧ ox.data = .fields vs ∧ vs[1]? = some .none ∧ PySem.W.Looks M s1.heap (isSubtype (.ref C) (.type "BaseException")) true ∧ PySem.W.Looks M s1.heap (typeOf (.ref C)) (.type "type") ∧ E' (.ref x) s1) E' s0) :
    wpAny M A (raiseStmt env (some m) none) Q E' s0 := by
  unfold raiseStmt
  refine wpAny_bind (wpAny_mono h (fun v s1 h1 => ?_) fun _ _ x => x)
  obtain ⟨x, C, ox, vs, rfl, hx, hc, hd, h1, L1, L2, hE⟩ := h1
  obtain ⟨hp, g, d, tk, os⟩ := s1
  have L0 : PySem.W.Looks M hp (typeOf (.ref x)) (.ref C) := hc ▸ (PySem.W.Looks.ld hx).andThen .now
  have L3 : PySem.W.Looks M hp (isType (.ref x)) false := by
    refine (PySem.W.Looks.ld hx).andThen ?_
    rw [hd]
    exact .now
  have L4 : PySem.W.Looks M hp (isInstance (.ref x) (.type "BaseException")) true := L0.andThen L1
  refine wpAny_bind (wpAny_pure (wpAny_bind (wpAny_holding ?_)))
  unfold excFromValue isExcClass
  refine wpAny_bind (wpAny_bind (L3.at (wpAny_pure ?_)))
  rw [if_neg Bool.false_ne_true]
  refine wpAny_bind (L4.at ?_)
  rw [if_pos rfl]
  refine wpAny_pure (wpAny_bind (L3.at ?_))
  rw [if_neg Bool.false_ne_true]
  unfold raisedInstance
  refine wpAny_bind (wpAny_bind (L0.at (wpAny_bind (L2.at ?_))))
  rw [if_pos (by decide)]
  refine wpAny_pure (wpAny_bind ?_)
  unfold setFlight
  refine wpAny_bind (wpAny_field hx hd h1 ?_)
  rw [if_neg (by decide)]
  exact wpAny_pure (wpAny_raiseNew_none hh hE)
def tRaise (K : PySem.W.Frag) (C : Addr) (sp : Sp) (E : XK) (t : TA) : TS := fun _ σ H => t σ H fun vs H1 => vs.length ≤ sizeLine ∧ ∀ x, H1 x = none → sp (.ref x :: vs) (upd H1 x (xNew C x)) (fun v H2 => v = .non ∧ ∃ d, H2 x = some (xGot C d x) ∧ E (.ref C) (some d) (del H2 x)) E0
theorem ps_raise (hc : X.calm = true) (hx : XE X E) (M : MkX X.K C fI) (xc : XCl X.K C) (ty : PySem.W.typeIn X.K (.ref C) = some (.type "type")) (F : FnOk X.prog X.w X.K X.mg X.base CX0 k fI fd ps sp) (hr : Room (k + 1) X.A) (hg : Gl X cn) (hm : X.mg cn = some (.ref C)) (hb : Binds X.K fd ps []) (ha : PA X (e :: es) t)
    (hdb : (cn == ("__debug__" : Str)) = false := by decide) (he : starEach (e :: es) X.env = (false, eval e X.env) :: starEach es X.env := by rfl) (hpl : (backTo cpos (starEach es X.env)).any (·.1) = false := by rfl) :
    PS X (.Raise (some (.Call (.Name cn p) (e :: es) [] cpos)) none pos) (tRaise X.K C sp E t) := by
  intro pins s σ H D I h
  rw [arm_exec_Raise]
  refine wpAny_bind (wpAny_standAt (raise_made (I.ok.hd hc) ?_))
  show wpAny _ _ (do let v ← eval (.Call (.Name cn p) (e :: es) [] cpos) X.env; standAt pos; pure v) _ _ _
  refine wpAny_bind (wpAny_Call_Name_kw (ld_glob I hg hm ?_ hdb))
  refine PySem.W.callWith_K (h₀ := X.base) I.ok.mod.kin M.kp (thn (ha cpos pins s σ H _ I h) fun us s1 ⟨vs, H1, I1, r, hz, q⟩ => ⟨I1.kIn, ?_⟩) he hpl
  refine thn (run_xmake (Q := fun v H2 => match v with | .ref x => ∃ d, H2 x = some (xGot C d x) ∧ E (.ref C) (some d) (del H2 x) | _ => False) M F hr hb I1 r (by rw [← r.length]; exact hz) fun x hx0 => q x hx0) fun u s2 ⟨x, H2, eu, zx, I2, d, gx, qe⟩ => wpAny_bind (wpAny_standAt (wpAny_pure ?_))
  · subst eu
    obtain ⟨⟨t0, ox⟩, _⟩ := (show ObjOk X.prog X.w H2 s2.heap x (xGot C d x) from I2.hok x _ gx)
    refine ⟨x, C, _, _, rfl, ox, rfl, rfl, rfl, PySem.W.looks_mroIn I2.kIn xc.ve, PySem.W.looks_typeIn I2.kIn ty, ?_⟩
    exact hx pins σ (del H2 x) s2 x _ _ (I2.drop gx) del_same zx ox rfl rfl qe
end
end L2
namespace L2
open PySem PySem.Spec PyProof.Rows
abbrev Cx.inside (X : Cx) (x : Addr) : Cx := { X with A := X.A.mark (some (.ref x)), calm := false, xe := fun _ _ => False }
section
variable {X : Cx} {pins : List (Addr × Obj)} {σ : St} {H H' : Hp} {s s' : Shared} {x T : Addr}
theorem Cx.Ok.inside (ok : X.Ok) (x : Addr) : (X.inside x).Ok := ⟨ok.mod, ok.kind, ok.glob, ok.blt, ok.above, ok.inj, ok.has, ok.cab, (fun z => by cases z), ok.frames, ok.stk, ok.exf, ok.bs, ok.bsz, ok.noex, ok.exfs, ok.funs, ok.frf⟩
theorem Inv.inside (I : Inv X pins σ H s) (x : Addr) : Inv (X.inside x) pins σ H s := ⟨I.ok.inside x, I.os, I.bare, I.base, I.loc, I.cell, I.free, I.freeC, I.pin, I.hok, I.len⟩
theorem Inv.outside (I : Inv (X.inside x) pins σ H s) (ok : X.Ok) : Inv X pins σ H s := ⟨ok, I.os, I.bare, I.base, I.loc, I.cell, I.free, I.freeC, I.pin, I.hok, I.len⟩
theorem Inv.forget {h' : Heap} {m' : Str → Option Value} {t' : Nat} (I : Inv X pins σ H s) (hn : h'.Ns X.env.locals m') (sb : Heap.SameBut X.env.locals s.heap h') : Inv X pins (σ.map fun _ => none) H { s with heap := h', toks := t' } := by
  have ne : ∀ {b o}, X.s₀.heap.get? b = some o → b ≠ X.env.locals := fun {b o} e => Nat.ne_of_lt (Nat.lt_of_lt_of_le (Heap.lt_size e) I.ok.above)
  refine ⟨I.ok, I.os, I.bare, ⟨fun b o q n hb he => (sb.2 b (ne q)).trans (I.base.keep b o q n hb he), fun b o q n hb he => ?_, I.base.free, fun b o q he => ?_, I.base.tups, I.base.frzs, I.base.tbls⟩, ⟨m', hn, fun i y v e1 e2 _ => ?_⟩, fun y c e => ?_, I.free, I.freeC, fun p hp => ?_, fun a o e => ?_, by rw [List.length_map]; exact I.len⟩
  · obtain ⟨sl, e⟩ := I.base.slot b o q n hb he
    exact ⟨sl, (sb.2 b (ne q)).trans e⟩
  · obtain ⟨o', e⟩ := I.base.there b o q he
    exact ⟨o', (sb.2 b (ne q)).trans e⟩
  · rw [List.getElem?_map] at e2
    cases c : σ[i]? with
    | none => rw [c] at e2; cases e2
    | some z => rw [c] at e2; cases e2
  · obtain ⟨v, o, ho, hd⟩ := I.cell y c e
    exact ⟨v, o, (sb.2 c (I.cne y c e)).trans ho, hd⟩
  · obtain ⟨a1, a2, a3, a4⟩ := I.pin p hp
    exact ⟨(sb.2 p.1 a3).trans a1, a2, a3, a4⟩
  · refine (I.hok a o e).stay (fun b u hb q => (sb.2 b ?_).trans q) (fun _ q => q) fun _ _ q => q
    intro z
    rcases hb with hb | hb
    · rw [← hb, z, I.free] at e; cases e
    · rw [z, I.free] at hb; cases hb
theorem Inv.caught {h3 : Heap} {t' : Nat} (I : Inv X pins σ H s) (J : Inv X pins σ H' s') (zx : s.heap.objs.size ≤ x) (zT : s.heap.objs.size ≤ T) (hx : H' x = none) (hT : H' T = none) (c : Chg (frs X.stack) x T s'.heap h3) : Inv X pins σ H' { s' with heap := h3, toks := t' } := by
  refine J.call' (ch := [x, T]) rfl ⟨fun b o q n hb he => ?_, fun b o q n hb he => ?_, fun b o q n he => n, fun b o q he => ?_, fun _ _ q => q, fun _ _ _ q => q, fun b ps q => ⟨#[], by rw [q]; simp⟩⟩ (HOk.chg J.hok c hx hT fun b hb => J.stkFree b hb) J.bare fun b hb => ?_
  · exact c.keep b o q (fun z => he (by rw [z]; simp)) (fun z => he (by rw [z]; simp)) hb
  · exact c.slot b o q (fun z => he (by rw [z]; simp)) fun z => he (by rw [z]; simp)
  · obtain ⟨sl, e⟩ := c.slot b o q (fun z => he (by rw [z]; simp)) fun z => he (by rw [z]; simp)
    exact ⟨_, e⟩
  · have zb : s.heap.objs.size ≤ b := by
      rcases List.mem_cons.mp hb with rfl | hb
      · exact zx
      · rw [List.mem_singleton.mp hb]; exact zT
    obtain ⟨z1, z2, z3, z4⟩ := I.old zb
    exact ⟨.inr z1, Ne.symm (Ne.symm z2), z3, z4⟩
end
def noName (D : Ends) : Ends := { nx := fun σ H => D.nx (σ.map fun _ => none) H, rt := D.rt, bk := fun σ H => D.bk (σ.map fun _ => none) H, ct := fun σ H => D.ct (σ.map fun _ => none) H }
def tTryX (K : PySem.W.Frag) (i : Nat) (Ck : Addr) (sp : Sp) (t : TA) (ts : TS) : TS := fun D σ H => t σ H fun vs H1 => sp vs H1 (fun _ H2 => D.nx σ H2) fun cls od H2 => ∃ C d, cls = .ref C ∧ od = some d ∧ PySem.W.exmOne K (.ref C) (.ref Ck) = some true ∧
  ∀ x, H2 x = none → ts (noName D) (σ.set i (some (.ref x))) (upd H2 x (xHeld C d x))
section
variable {X : Cx} {k i : Nat} {f Ck : Addr} {fd : FuncData} {ps : List Str} {sp : Sp} {fn cn n : Str} {p cpos epos np hpos pos : Pos} {e : Expr} {es : List Expr} {t : TA} {b0 : Stmt} {suite : List Stmt} {ts : TS}
theorem SP.forget {pins : List (Addr × Obj)} {D : Ends} {fl : Flow} {s : Shared} {x : Addr} {h' : Heap} {m' : Str → Option Value} {t' : Nat} (ok : X.Ok) (h : SP (X.inside x) pins (noName D) fl s) (hn : h'.Ns X.env.locals m') (sb : Heap.SameBut X.env.locals s.heap h') : SP X pins D fl { s with heap := h', toks := t' } := by
  cases fl with
  | next => obtain ⟨σ', H', I, q⟩ := h; exact ⟨_, H', (I.outside ok).forget hn sb, q⟩
  | brk => obtain ⟨σ', H', I, q⟩ := h; exact ⟨_, H', (I.outside ok).forget hn sb, q⟩
  | cont => obtain ⟨σ', H', I, q⟩ := h; exact ⟨_, H', (I.outside ok).forget hn sb, q⟩
  | ret u => obtain ⟨v, σ', H', I, r, q⟩ := h; exact ⟨v, _, H', (I.outside ok).forget hn sb, r, q⟩
theorem SP.locals {pins : List (Addr × Obj)} {D : Ends} {fl : Flow} {s : Shared} {x : Addr} (h : SP (X.inside x) pins D fl s) : ∃ m, s.heap.Ns X.env.locals m := by
  cases fl with
  | next => obtain ⟨σ', H', I, q⟩ := h; obtain ⟨m, hn, _⟩ := I.loc; exact ⟨m, hn⟩
  | brk => obtain ⟨σ', H', I, q⟩ := h; obtain ⟨m, hn, _⟩ := I.loc; exact ⟨m, hn⟩
  | cont => obtain ⟨σ', H', I, q⟩ := h; obtain ⟨m, hn, _⟩ := I.loc; exact ⟨m, hn⟩
  | ret u => obtain ⟨v, σ', H', I, r, q⟩ := h; obtain ⟨m, hn, _⟩ := I.loc; exact ⟨m, hn⟩
theorem ps_tryX (F : FnOk X.prog X.w X.K X.mg X.base (CXK X.prog X.w) k f fd ps sp) (hr : Room k X.A) (hg : Gl X fn) (hm : X.mg fn = some (.ref f)) (hk : PySem.W.keepIn X.K (.ref f) = true) (hb : Binds X.K fd ps []) (ha : PA X.nox (e :: es) t)
    (hgc : Gl X cn) (hmc : X.mg cn = some (.ref Ck)) (hN : X.N.Nodup) (hi : X.N[i]? = some n) (hl : X.env.scope.names.lookup n = some .local) (hs : ∀ x, PSs (X.inside x) (b0 :: suite) ts)
    (hst : X.stack = X.env :: X.outer) (hfr : X.env.frame = some X.env.locals) (hfn : X.fn n = true ∨ X.env.scope.names.lookup n = some .local := by first | exact .inl rfl | exact .inr rfl)
    (hdb : (fn == ("__debug__" : Str)) = false := by decide) (hdc : (cn == ("__debug__" : Str)) = false := by decide) (he : starEach (e :: es) X.env = (false, eval e X.env) :: starEach es X.env := by rfl) (hpl : (backTo cpos (starEach es X.env)).any (·.1) = false := by rfl)
    (hsw : swapsWith (.Call (.Name fn p) (e :: es) [] cpos) none epos.line X.env = pure false := by rfl) :
    PS X (.Try [.Expr (.Call (.Name fn p) (e :: es) [] cpos) epos] [.ExceptHandler (some (.Name cn np)) (some n) (b0 :: suite) hpos] [] [] pos) (tTryX X.K i Ck sp t ts) := by
  intro pins s σ H D I h
  refine wpAny_Try_except (wpAny_execs_cons (wpAny_Expr_any ?_ I.quiet hsw))
  refine wpAny_Call_Name_kw (ld_glob I hg hm ?_ hdb)
  refine PySem.W.callWith_K (h₀ := X.base) I.ok.mod.kin hk (wpAny_mono (ha cpos pins s σ H _ (I.wish _) h) (fun us s1 ⟨vs, H1, I1', r, q⟩ => ⟨I1'.unwish.kIn, ?_⟩) fun _ _ z => z.elim) he hpl
  have I1 := I1'.unwish
  have hln : (us ++ []).length = ps.length := by rw [List.append_nil, ← r.length]; exact F.len _ _ _ _ q
  refine wpAny_call (codeAny_mono (F.run X.A X.stack s1 H1 ⟨us, []⟩ us vs _ _ hr I1.env0 (by have b := hb s1 us I1.kIn hln; rw [List.append_nil] at b; exact b) r q) fun r s2 hq => ?_)
  cases r with
  | ok fl =>
    cases fl with
    | ret u =>
      obtain ⟨v, H', I3, _, q3⟩ := I1.after hq
      exact wpAny_execs_nil (wpAny_execs_nil ⟨σ, H', I3, q3⟩)
    | next => exact False.elim hq
    | brk => exact False.elim hq
    | cont => exact False.elim hq
  | error ex =>
    obtain ⟨x, T, cls, od, H', rfl, os, bare, un, hok, zx, zT, hx, hT, fl, C, d, rfl, rfl, xm, q3⟩ := hq
    have J := I1.call' os un hok bare (fun b z => absurd z (by simp))
    have hA : X.A.frames = some (X.env :: X.outer) := by rw [← hst]; exact J.ok.frames
    have hF : s2.heap.FunFrames X.base (X.env :: X.outer) := by rw [← hst]; exact J.stack
    refine note_on hA hF hfr fl fun h2 T2 c f2 z2 => fl_set f2 fun h3 k3 f3 => ?_
    have c3 : Chg (frs X.stack) x T s2.heap h3 := by rw [hst]; exact c.set z2 k3 f3.hx
    have J3 := I1.caught (t' := s2.toks) J zx zT hx hT c3
    refine wpAny_handleBy_cons (codeAny_handlers_test ?_) (by intro z; cases z)
    refine ld_glob (J3.inside x) hgc hmc ?_ hdc
    obtain ⟨oe, vs3, e1, e2, e3, e4, e5⟩ := f3.ex
    have LT : PySem.W.Looks (model X.prog X.w) h3 (typeOf (.ref x)) (.ref C) := e2 ▸ (PySem.W.Looks.ld e1).andThen .now
    refine (PySem.W.exm_one (M := model X.prog X.w) (h := h3) J3.kIn LT xm).at ?_
    refine codeAny_handlers_suite_as (fl_set f3 fun h4 k4 f4 => ?_)
    have c4 : Chg (frs X.stack) x T s2.heap h4 := c3.set z2 k4 f4.hx
    have J4 := I1.caught (t' := s2.toks) J zx zT hx hT c4
    obtain ⟨o4, vs4, g1, g2, g3, g4, g5⟩ := f4.ex
    obtain ⟨y1, y2, y3, y4⟩ := I1.old zx
    have J5 := J4.track (d := x) (o := xHeld C d x) hx y1 y2 y3 y4 (xHeld_ok g1 g2 g3 g4)
    refine store_ok J5 hN hi (.inl hl) (show RelV (.ref x) (.ref x) from rfl) (fun s5 I5 => ?_) hfn
    refine wpAny_mono (hs x pins s5 _ _ (noName D) (I5.inside x) (q3 x hx)) (fun fl5 s6 sp6 => ?_) fun _ _ z => z.elim
    obtain ⟨m6, n6⟩ := SP.locals sp6
    have hcls : (X.env.scope.kind == .class || (X.env.scope.kind == .module && X.env.locals != X.env.globals)) = false := by rw [I.ok.kind]; rfl
    exact wpAny_nameGoes hl n6 hcls fun h7 m7 n7 sb => SP.forget J.ok sp6 n7 sb
end
end L2
namespace L2
open PySem PySem.Spec PyProof.Rows
section
variable {X : Cx}
theorem eq_items {pins : List (Addr × Obj)} {s : Shared} {σ : St} {H : Hp} (I : Inv X pins σ H s) {xs : List V} {its : List Value} {ds : List Tx} {k : Tx} {x : V} {v : Value} (hL : Xas H ds xs) (rv : Vals xs its) (hk : Xa H k x) (rx : RelV x v) (hd : ∀ d ∈ ds, d.dp ≤ 60) (hu : X.A.units + 64 < cLine) :
    ∃ e : Value → Bool, (∀ y, y ∈ its.toArray → SeqAt.EqAt X.A.in1.in1 s y v (e y) ∧ SeqAt.EqAt X.A.in1 s y v (e y)) ∧ ∀ (i : Nat) (y : Value), its[i]? = some y → ∃ d, ds[i]? = some d ∧ e y = decide (d = k) := by
  classical
  let e : Value → Bool := fun u => decide (∃ x', RelV x' u ∧ Xa H k x')
  have at_ : ∀ (i : Nat) (y : Value), its[i]? = some y → ∃ x' d, RelV x' y ∧ Xa H d x' ∧ ds[i]? = some d := fun i y hy => by
    have hi : i < xs.length := by rw [rv.length]; exact (List.getElem?_eq_some_iff.mp hy).1
    obtain ⟨u', hu', ru'⟩ := rv.get (List.getElem?_eq_getElem hi)
    rw [hy] at hu'
    cases hu'
    obtain ⟨d, hd', hx'⟩ := Xas.get hL (List.getElem?_eq_getElem hi)
    exact ⟨_, d, ru', hx', hd'⟩
  have he : ∀ {x' d u}, RelV x' u → Xa H d x' → e u = decide (d = k) := fun {x' d u} r i => by
    show decide (∃ x', RelV x' u ∧ Xa H k x') = _
    by_cases c : d = k
    · subst c
      rw [decide_eq_true ⟨x', r, i⟩, decide_eq_true rfl]
    · rw [decide_eq_false c, decide_eq_false]
      rintro ⟨x2, r2, i2⟩
      rw [RelV.inj r2 r] at i2
      exact c (Xa.inj i i2)
  refine ⟨e, fun y hy => ?_, fun i y hy => ?_⟩
  · obtain ⟨i, hi, ei⟩ := List.mem_iff_getElem.mp (show y ∈ its by simpa using hy)
    obtain ⟨x', d, r', i', hd'⟩ := at_ i y (by rw [List.getElem?_eq_getElem hi, ei])
    have dd := hd d (List.mem_of_getElem? hd')
    rw [he r' i']
    exact ⟨eqX I i' hk r' rx (by rw [in1_units, in1_units]; omega), eqX I i' hk r' rx (by rw [in1_units]; omega)⟩
  · obtain ⟨x', d, r', i', hd'⟩ := at_ i y hy
    exact ⟨d, hd', he r' i'⟩
def rInX : R2 := fun x y H Q => ∃ (p : Addr) (k : Tx) (xs : List V) (ds : List Tx), y = .ref p ∧ H p = some (.lst xs) ∧ Xas H ds xs ∧ Xa H k x ∧ (∀ d ∈ ds, d.dp ≤ 60) ∧ Q (.bl (decide (k ∈ ds))) H
theorem op_inX (hu : X.A.units + 64 < cLine) : OpR X (compareOp .In) rInX := by
  intro pins s σ H x y v u Q I rx ry h
  obtain ⟨p, k, xs, ds, rfl, hp, hL, hk, hd, q⟩ := h
  cases ry
  obtain ⟨its, rv, pl, hz⟩ := I.list (SqL.of hp)
  obtain ⟨e, h1, h2⟩ := eq_items I hL rv hk rx hd hu
  refine SeqAt.in_listAt (items := its.toArray) e pl.isList (fun y hy => (h1 y hy).2) ?_
  have ea : its.toArray.any e = decide (k ∈ ds) := by
    rw [Bool.eq_iff_iff, decide_eq_true_iff]
    simp only [List.any_toArray, List.any_eq_true]
    constructor
    · rintro ⟨y, hy, ey⟩
      obtain ⟨i, hi, ei⟩ := List.mem_iff_getElem.mp hy
      obtain ⟨d, hd', e'⟩ := h2 i y (by rw [List.getElem?_eq_getElem hi, ei])
      rw [ey] at e'
      rw [← of_decide_eq_true e'.symm]
      exact List.mem_of_getElem? hd'
    · intro hm
      obtain ⟨i, hi, ei⟩ := List.mem_iff_getElem.mp hm
      have hl : i < its.length := by rw [← rv.length, Xas.len hL]; exact hi
      refine ⟨its[i], List.getElem_mem hl, ?_⟩
      obtain ⟨d, hd', e'⟩ := h2 i its[i] (List.getElem?_eq_getElem hl)
      rw [List.getElem?_eq_getElem hi, ei] at hd'
      cases hd'
      rw [e', decide_eq_true rfl]
  rw [ea]
  exact ⟨.bl (decide (k ∈ ds)), H, I, rfl, q⟩
def rIndexX : V → List V → Hp → VK → Prop := fun x vs H Q => ∃ (l : Addr) (xs : List V) (y : V) (ds : List Tx) (k : Tx) (j : Nat), x = .ref l ∧ vs = [y] ∧ H l = some (.lst xs) ∧ Xas H ds xs ∧ Xa H k y ∧ (∀ d ∈ ds, d.dp ≤ 60) ∧ ds.length ≤ 1000 ∧ ds[j]? = some k ∧ (∀ m, m < j → ds[m]? ≠ some k) ∧ Q (.int (j : Int)) H
theorem mt_indexX (hu : X.A.units + 64 < cLine) : MtM X "list.index" rIndexX := by
  intro pins s σ H x vs v us Q I rx rv h
  obtain ⟨l, xs, y, ds, k, j, rfl, rfl, hH, hL, hk, hd, hz, ej, en, q⟩ := h
  cases rx
  obtain ⟨u, rfl, ru⟩ := rv.one
  obtain ⟨z, its, n, r, hl, e⟩ := I.lstM hH
  obtain ⟨eb, h1, h2⟩ := eq_items I hL r hk ru hd hu
  have lds := Xas.len hL
  have hj : j < its.toArray.size := by rw [List.size_toArray]; have := (List.getElem?_eq_some_iff.mp ej).1; omega
  refine call_meets F.slot_list_index ⟨_, e, rfl⟩ F.entry_list_index (F.args_list_index_2 _ _) (SeqAt.list_indexAt l its.toArray n none #[] u eb j hj (by rw [List.size_toArray] at hj; omega) ?_ fun m hm hmj => ?_) ⟨e, fun y hy => (h1 y hy).2, ?_⟩
  · obtain ⟨d, hd', e'⟩ := h2 j its[j] (List.getElem?_eq_getElem (by simpa using hj))
    rw [ej] at hd'
    cases hd'
    show eb its[j] = true
    rw [e', decide_eq_true rfl]
  · have hm' : m < its.length := by simpa using hm
    obtain ⟨d, hd', e'⟩ := h2 m its[m] (List.getElem?_eq_getElem hm')
    show eb its[m] = false
    rw [e']
    exact decide_eq_false fun c => en m hmj (by rw [hd', c])
  · exact ⟨.int (j : Int), H, I.tok _, ⟨_, rfl⟩, q⟩
theorem pair_at {α β : Type} {R : α → β → Prop} : ∀ {xs : List α} {ks : List β} {i : Nat} {v : α}, Paired R xs ks → xs[i]? = some v → ∃ k, ks[i]? = some k ∧ R v k
  | _ :: _, _ :: _, 0, _, .cons r _, e => ⟨_, rfl, by cases e; exact r⟩
  | _ :: _, _ :: _, i + 1, _, .cons _ t, e => pair_at (i := i) t e
theorem pair_of {α β : Type} {R : α → β → Prop} : ∀ {xs : List α} {ks : List β}, xs.length = ks.length → (∀ (i : Nat) (x : α) (k : β), xs[i]? = some x → ks[i]? = some k → R x k) → Paired R xs ks
  | [], [], _, _ => .nil
  | x :: xs, k :: ks, hl, h => .cons (h 0 x k rfl rfl) (pair_of (Nat.succ.inj hl) fun i y z e1 e2 => h (i + 1) y z e1 e2)
theorem ints_out : ∀ {ns : List Int} {us : List Value}, IntsAre us ns → Vals (ns.map V.int) us
  | _, _, .nil => .nil
  | _, _, .cons n t r => .cons ⟨t, rfl⟩ (ints_out r)
theorem ints_in : ∀ {ns : List Int} {us : List Value}, Vals (ns.map V.int) us → IntsAre us ns
  | [], _, .nil => .nil
  | n :: ns, _, .cons r t => by
    obtain ⟨tk, rfl⟩ := r
    exact .cons n tk (ints_in t)
theorem sort_ints {pins : List (Addr × Obj)} {s : Shared} {σ : St} {H : Hp} {Q : VK} {a : Addr} {ks : List Int} (hl : ks.length < 64)
    (hc : ∀ (R : List Value → Shared → Prop), (∀ (acc : List Value) (h' : Heap) (tk : Nat), IntsAre acc ks → Inv X pins σ H { s with heap := h', toks := tk } → R acc { s with heap := h', toks := tk }) → wpAny (model X.prog X.w) X.A.in1 (collect (.ref a)) R X.xe s)
    (q : ∀ (p : Addr) (ns : List Int), H p = none → ns.Perm ks → ns.Pairwise (· ≤ ·) → Q (.ref p) (upd H p (.lst (ns.map V.int)))) :
    wpAny (model X.prog X.w) X.A (call (.builtin "sorted") [.ref a]) (EP X pins σ Q) X.xe s := by
  refine Calls.call_function_entry kind_sorted plain_sorted entry_sorted (args_sorted1 _) ?_
  show wpAny _ _ (do
    checkCount "sorted" 1 1 1
    let acc ← collect (.ref a)
    let l ← newList acc
    let _ ← holding [l] (call (.builtin "list.sort") [l] [])
    ret l) _ _ _
  refine wpAny_bind (wpAny_mono (Q := fun _ s' => s' = s) (wpAny_pure rfl) (fun _ s' e => ?_) fun _ _ h => h)
  subst e
  refine wpAny_bind (hc _ fun acc h' tk hS I1 => ?_)
  have hal : acc.length = ks.length := by have := (ints_out hS).length; rw [List.length_map] at this; exact this.symm
  refine wpAny_bind (wpAny_newList ?_ (by rw [sizeLine_eq]; omega))
  refine wpAny_bind (wpAny_holding (wpAny_call_entry slot_list_sort ⟨_, Heap.get?_push_size _ rfl, rfl⟩ entry_list_sort ?_ (args_list_sort _)))
  refine list_sort_tree (vs := acc) (n := 0) (Heap.get?_push_size _ rfl) hS (by omega) fun out ns' h1 h2 h3 => ?_
  refine ⟨_, rfl, wpAny_pure ⟨_, rfl, ?_⟩⟩
  obtain ⟨e, he⟩ := sortedHeap_at (h := h'.push { cls := .type "list", data := .seq acc.toArray }) (a := h'.objs.size) (vs := acc) (n := 0) (out := out) (Heap.get?_push_size _ rfl)
  have hsl : (ns'.map V.int).length ≤ sizeLine := by have e1 := h2.length_eq; rw [List.length_map, sizeLine_eq]; omega
  refine ⟨.ref h'.objs.size, _, I1.laid (o := .lst (ns'.map V.int)) (t' := tk) (fun b o eo => ?_) (Nat.le_refl _) ⟨hsl, _, e, ints_out h1, he⟩, rfl, q _ _ (I1.hok.fresh (Nat.le_refl _)) h2 h3⟩
  rw [sortedHeap_old (Nat.ne_of_lt (Heap.lt_size eo)) (by rw [Heap.size_push]; exact Nat.lt_succ_of_lt (Heap.lt_size eo))]
  exact Heap.get?_push_of_some _ eo
theorem call_sortedI : CallR X (.builtin "sorted") (fun xs H Q => ∃ (a : Addr) (ks : List Int), xs = [.ref a] ∧ H a = some (.lst (ks.map V.int)) ∧ ks.length < 64 ∧
    ∀ (p : Addr) (ns : List Int), H p = none → ns.Perm ks → ns.Pairwise (· ≤ ·) → Q (.ref p) (upd H p (.lst (ns.map V.int)))) := by
  intro pins s σ H xs us Q I r h
  obtain ⟨a, ks, rfl, ha, hl, q⟩ := h
  obtain ⟨u, rfl, ru⟩ := r.one
  cases ru
  obtain ⟨its, rv, pl, hz⟩ := I.list (SqL.of ha)
  refine sort_ints hl (fun R k => collect_list pl.isList (k its _ _ (ints_in rv) (I.kept (t' := s.toks) fun b o e => ?_)) (by have := rv.length; rw [List.length_map] at this; rw [sizeLine_eq]; omega)) q
  rw [Heap.get?_update_other _ _ (Nat.ne_of_gt (Heap.lt_size e))]
  exact Heap.get?_push_of_some _ e
theorem call_sortedDI (hc : X.calm = true) : CallR X (.builtin "sorted") (fun xs H Q => ∃ (a : Addr) (kvs : List (Key × V)) (ks : List Int), xs = [.ref a] ∧ H a = some (.dK kvs) ∧ kvs.map (·.1) = ks.map Sum.inl ∧ ks.length < 64 ∧
    ∀ (p : Addr) (ns : List Int), H p = none → ns.Perm ks → ns.Pairwise (· ≤ ·) → Q (.ref p) (upd H p (.lst (ns.map V.int)))) := by
  intro pins s σ H xs us Q I r h
  obtain ⟨a, kvs, ks, rfl, ha, hk, hl, q⟩ := h
  obtain ⟨u, rfl, ru⟩ := r.one
  cases ru
  obtain ⟨z, hd, vs, rel, o, es, ep, ho, hx, hdat, hks, hps, hnd⟩ := dk_of I.hok ha
  have da : s.heap.DictAt (mixKind X.prog X.w) a vs ep := ⟨o, es, ho, hx, hdat, hks, hps, hnd⟩
  have hlen := rel.length
  have lk : kvs.length = ks.length := by have := congrArg List.length hk; rw [List.length_map, List.length_map] at this; exact this
  refine sort_ints hl (fun R k => PySem.W.kdu_collect (PySem.W.kdl_dict (knd := mixKind X.prog X.w) (kvs := vs) (ep := ep) hd) (I.ok.hd hc) da (by omega) fun h' tk acc hk' hit => k acc.toList h' tk (ints_in ?_) (I.kept (t' := tk) hk')) q
  have hacc : acc.toList.length = vs.length := by rw [Array.length_toList]; exact hit.1
  refine pair_of (by rw [List.length_map]; omega) fun j x u e1 e2 => ?_
  obtain ⟨k', x', g1, g2⟩ := hit.2 j u (by simpa using e2)
  have hj : j < kvs.length := by have := (List.getElem?_eq_some_iff.mp g1).1; omega
  obtain ⟨q', hq', rq⟩ := pair_at rel (List.getElem?_eq_getElem hj)
  rw [g1] at hq'
  cases hq'
  have e3 : (kvs.map (·.1))[j]? = (ks.map (Sum.inl : Int → Key))[j]? := by rw [hk]
  rw [List.getElem?_map, List.getElem?_map, List.getElem?_eq_getElem hj] at e3
  rw [List.getElem?_map] at e1
  cases c : ks[j]? with
  | none => rw [c] at e1; cases e1
  | some n =>
    rw [c] at e1 e3
    cases e1
    have r1 : kvs[j].1 = k' := rq.1
    have e4 : kvs[j].1 = Sum.inl n := Option.some.inj e3
    have rr := relV_of_is g2
    rw [← r1, e4] at rr
    exact rr
theorem call_isXk {K' : PySem.W.Frag} (hK : X.K = K') : CallR X (.builtin "isinstance") (fun xs H Q => ∃ (x C d : Addr) (f : Str) (y cv : V) (c : Value) (b : Bool), xs = [.ref x, cv] ∧ H x = some (xHeld C d x) ∧ H d = some (xDct f y d) ∧ XCl K' C ∧ ((∃ n, cv = .ty n ∧ c = .type n) ∨ ∃ D, cv = .ref D ∧ c = .ref D) ∧ PySem.W.kitOne K' (.ref C) c = some b ∧ Q (.bl b) H) := by
  subst hK; exact call_isX
theorem call_isXTk {K' : PySem.W.Frag} (hK : X.K = K') : CallR X (.builtin "isinstance") (fun xs H Q => ∃ (x C d p : Addr) (f : Str) (y : V) (cs : List Addr) (b : Bool), xs = [.ref x, .ref p] ∧ H x = some (xHeld C d x) ∧ H d = some (xDct f y d) ∧ XCl K' C ∧ H p = some (.tup (cs.map V.ref)) ∧ PySem.W.kitAny K' (.ref C) (cs.map Value.ref) = some b ∧ Q (.bl b) H) := by
  subst hK; exact call_isXT
theorem pe_xfldk {K' : PySem.W.Frag} {e : Expr} {f : Str} {pos : Pos} {ta : TE} (hK : X.K = K') (he : PE X e ta) (hb : attributeBase e f X.env (eval e X.env) = eval e X.env) : PE X (.Attribute e f pos) (tXFld K' ta f) := by
  subst hK; exact pe_xfld he hb
end
end L2
namespace K23
open PySem L2
inductive Rch (ss : List Stp) (a : Nat) : Nat → Prop
  | refl : Rch ss a a
  | step {b : Nat} {s : Stp} {z : Int} : Rch ss a b → ss[b]? = some s → z ∈ s.fr → Rch ss a z.toNat
def okS (ss : List Stp) : Prop := ∀ (i : Nat) (s : Stp), ss[i]? = some s → okFr i s.fr
theorem Rch.le {ss : List Stp} {a k : Nat} (o : okS ss) (h : Rch ss a k) : k ≤ a := by
  induction h with
  | refl => exact Nat.le_refl _
  | step _ e hz ih => have := (o _ _ e).2 _ hz; omega
def IsNeed (ss : List Stp) (a : Nat) (ns : List Int) : Prop := ns.Pairwise (· < ·) ∧ ∀ z : Int, z ∈ ns ↔ ∃ k : Nat, Rch ss a k ∧ z = (k : Int)
theorem sorted_one : ∀ {xs ys : List Int}, xs.Pairwise (· < ·) → ys.Pairwise (· < ·) → (∀ z, z ∈ xs ↔ z ∈ ys) → xs = ys
  | [], [], _, _, _ => rfl
  | [], y :: ys, _, _, h => absurd ((h y).mpr List.mem_cons_self) List.not_mem_nil
  | x :: xs, [], _, _, h => absurd ((h x).mp List.mem_cons_self) List.not_mem_nil
  | x :: xs, y :: ys, h1, h2, h => by
    obtain ⟨a1, a2⟩ := List.pairwise_cons.mp h1
    obtain ⟨b1, b2⟩ := List.pairwise_cons.mp h2
    have e : x = y := by
      rcases List.mem_cons.mp ((h x).mp List.mem_cons_self) with e | e
      · exact e
      · rcases List.mem_cons.mp ((h y).mpr List.mem_cons_self) with e2 | e2
        · exact e2.symm
        · have := b1 x e; have := a1 y e2; omega
    subst e
    rw [sorted_one a2 b2 fun z => ?_]
    constructor
    · intro hz
      rcases List.mem_cons.mp ((h z).mp (List.mem_cons_of_mem _ hz)) with e | e
      · have := a1 z hz; omega
      · exact e
    · intro hz
      rcases List.mem_cons.mp ((h z).mpr (List.mem_cons_of_mem _ hz)) with e | e
      · have := b1 z hz; omega
      · exact e
theorem IsNeed.one {ss : List Stp} {a : Nat} {ns ms : List Int} (h : IsNeed ss a ns) (h' : IsNeed ss a ms) : ns = ms := sorted_one h.1 h'.1 fun z => (h.2 z).trans (h'.2 z).symm
theorem strict_of : ∀ {ns : List Int}, ns.Pairwise (· ≤ ·) → ns.Nodup → ns.Pairwise (· < ·)
  | [], _, _ => .nil
  | n :: ns, h, d => by
    obtain ⟨a1, a2⟩ := List.pairwise_cons.mp h
    obtain ⟨b1, b2⟩ := List.nodup_cons.mp d
    refine List.pairwise_cons.mpr ⟨fun z hz => ?_, strict_of a2 b2⟩
    have := a1 z hz
    have : n ≠ z := fun e => b1 (by rw [e]; exact hz)
    omega
theorem need_of {ss : List Stp} {a : Nat} {ks ns : List Int} (hp : ns.Perm ks) (hs : ns.Pairwise (· ≤ ·)) (hd : ks.Nodup) (h0 : (a : Int) ∈ ks) (h1 : ∀ z ∈ ks, ∃ k : Nat, Rch ss a k ∧ z = (k : Int)) (h2 : ∀ (k : Nat) (s : Stp), (k : Int) ∈ ks → ss[k]? = some s → ∀ z ∈ s.fr, 0 ≤ z ∧ z ∈ ks) : IsNeed ss a ns := by
  refine ⟨strict_of hs (hp.nodup_iff.mpr hd), fun z => ⟨fun hz => h1 z (hp.mem_iff.mp hz), ?_⟩⟩
  rintro ⟨k, hk, rfl⟩
  refine hp.mem_iff.mpr ?_
  induction hk with
  | refl => exact h0
  | step _ e hz ih =>
    obtain ⟨z0, hm⟩ := h2 _ _ ih e _ hz
    rw [show ((Int.toNat _ : Nat) : Int) = _ from Int.toNat_of_nonneg z0]
    exact hm
theorem strict_nodup {ns : List Int} (h : ns.Pairwise (· < ·)) : ns.Nodup := h.imp fun h e => by omega
def stAt (ss : List Stp) (z : Int) : Stp := (ss[z.toNat]?).getD ⟨.is (.nm "") (.nm ""), "", [], none⟩
theorem stAt_eq {ss : List Stp} {k : Nat} {s : Stp} (h : ss[k]? = some s) : stAt ss (k : Int) = s := by unfold stAt; rw [Int.toNat_natCast, h]; rfl
def paperS (ss : List Stp) (ns : List Int) (z : Int) : Stp := ⟨(stAt ss z).f, (stAt ss z).r, (stAt ss z).fr.map fun o => ((ns.idxOf o : Nat) : Int), (stAt ss z).n⟩
def paperOf (ss : List Stp) (ns : List Int) : List Stp := ns.map (paperS ss ns)
theorem strict_get : ∀ {ns : List Int} {i j : Nat} {x y : Int}, ns.Pairwise (· < ·) → ns[i]? = some x → ns[j]? = some y → i < j → x < y := fun {ns i j x y} h hi hj hij => by
  obtain ⟨l1, e1⟩ := List.getElem?_eq_some_iff.mp hi
  obtain ⟨l2, e2⟩ := List.getElem?_eq_some_iff.mp hj
  have := List.pairwise_iff_getElem.mp h i j l1 l2 hij
  rw [e1, e2] at this
  exact this
theorem idx_at {ns : List Int} (h : ns.Pairwise (· < ·)) {i : Nat} {x : Int} (hi : ns[i]? = some x) : ns.idxOf x = i := by
  have hm : x ∈ ns := List.mem_of_getElem? hi
  have hl := List.idxOf_lt_length_of_mem hm
  have e : ns[ns.idxOf x]? = some x := by rw [List.getElem?_eq_getElem hl]; exact congrArg some (List.getElem_idxOf hl)
  rcases Nat.lt_trichotomy (ns.idxOf x) i with c | c | c
  · have := strict_get h e hi c; omega
  · exact c
  · have := strict_get h hi e c; omega
theorem at_idx {ns : List Int} {x : Int} (hm : x ∈ ns) : ns[ns.idxOf x]? = some x := by
  have hl := List.idxOf_lt_length_of_mem hm
  rw [List.getElem?_eq_getElem hl]; exact congrArg some (List.getElem_idxOf hl)
section
variable {ss : List Stp} {a : Nat} {ns : List Int}
theorem need_in (o : okS ss) (h : IsNeed ss a ns) {z : Int} {s : Stp} (hz : z ∈ ns) (hs : ss[z.toNat]? = some s) {y : Int} (hy : y ∈ s.fr) : y ∈ ns := by
  obtain ⟨k, hk, rfl⟩ := (h.2 z).mp hz
  rw [Int.toNat_natCast] at hs
  have b := (o _ _ hs).2 _ hy
  exact (h.2 y).mpr ⟨y.toNat, hk.step hs hy, (Int.toNat_of_nonneg b.1).symm⟩
theorem need_lt (o : okS ss) (ha : a < ss.length) (h : IsNeed ss a ns) {z : Int} (hz : z ∈ ns) : 0 ≤ z ∧ z.toNat < ss.length ∧ z ≤ (a : Int) := by
  obtain ⟨k, hk, rfl⟩ := (h.2 z).mp hz
  have := hk.le o
  exact ⟨by omega, by omega, by omega⟩
theorem need_last (o : okS ss) (h : IsNeed ss a ns) : ns.length ≠ 0 ∧ ns[ns.length - 1]? = some (a : Int) := by
  have hm : (a : Int) ∈ ns := (h.2 _).mpr ⟨a, .refl, rfl⟩
  have hl : 0 < ns.length := List.length_pos_of_mem hm
  refine ⟨by omega, ?_⟩
  have l1 : ns.length - 1 < ns.length := by omega
  rw [List.getElem?_eq_getElem l1]
  obtain ⟨k, hk, e⟩ := (h.2 _).mp (List.getElem_mem l1)
  have kle := hk.le o
  by_cases c : ns.idxOf (a : Int) = ns.length - 1
  · have := at_idx hm
    rw [c, List.getElem?_eq_getElem l1] at this
    exact this
  · have l2 := List.idxOf_lt_length_of_mem hm
    have := strict_get h.1 (at_idx hm) (List.getElem?_eq_getElem l1) (by omega)
    omega
theorem paper_get (ss : List Stp) (ns : List Int) (j : Nat) : (paperOf ss ns)[j]? = (ns[j]?).map (paperS ss ns) := List.getElem?_map ..
theorem paper_len : (paperOf ss ns).length = ns.length := List.length_map ..
theorem paper_okS (o : okS ss) (ha : a < ss.length) (h : IsNeed ss a ns) : okS (paperOf ss ns) := fun j s hj => by
  rw [paper_get] at hj
  obtain ⟨z, hz, rfl⟩ := Option.map_eq_some_iff.mp hj
  have hm := List.mem_of_getElem? hz
  obtain ⟨z0, zl, za⟩ := need_lt o ha h hm
  have hs : ss[z.toNat]? = some ss[z.toNat] := List.getElem?_eq_getElem zl
  have e : stAt ss z = ss[z.toNat] := by unfold stAt; rw [hs]; rfl
  have ok := o _ _ hs
  refine ⟨by show ((stAt ss z).fr.map _).length ≤ 2; rw [List.length_map, e]; exact ok.1, fun q hq => ?_⟩
  obtain ⟨y, hy, rfl⟩ := List.mem_map.mp hq
  rw [e] at hy
  have hyn := need_in o h hm hs hy
  have b := ok.2 _ hy
  refine ⟨by omega, ?_⟩
  have : ns.idxOf y < j := by
    rcases Nat.lt_or_ge (ns.idxOf y) j with c | c
    · exact c
    · rcases Nat.eq_or_lt_of_le c with c | c
      · have e2 := at_idx hyn
        rw [← c, hz] at e2
        have := Option.some.inj e2
        omega
      · have := strict_get h.1 hz (at_idx hyn) c
        omega
  omega
theorem paper_again (o : okS ss) (ha : a < ss.length) (h : IsNeed ss a ns) {ms : List Int} (h' : IsNeed (paperOf ss ns) (ns.length - 1) ms) : paperOf (paperOf ss ns) ms = paperOf ss ns := by
  obtain ⟨l0, la⟩ := need_last o h
  have oq := paper_okS o ha h
  have reach : ∀ {k : Nat}, Rch ss a k → Rch (paperOf ss ns) (ns.length - 1) (ns.idxOf (k : Int)) := fun {k} hk => by
    induction hk with
    | refl => rw [idx_at h.1 la]; exact .refl
    | @step b s z hb e hz ih =>
      have hbm : (b : Int) ∈ ns := (h.2 _).mpr ⟨b, hb, rfl⟩
      have hzn := need_in o h hbm (by rw [Int.toNat_natCast]; exact e) hz
      have b0 := (o _ _ e).2 _ hz
      rw [Int.toNat_of_nonneg b0.1]
      have g : (paperOf ss ns)[ns.idxOf (b : Int)]? = some (paperS ss ns (b : Int)) := by rw [paper_get, at_idx hbm]; rfl
      have := ih.step g (z := ((ns.idxOf z : Nat) : Int)) (List.mem_map.mpr ⟨z, by rw [stAt_eq e]; exact hz, rfl⟩)
      rw [Int.toNat_natCast] at this
      exact this
  have em : ms = (List.range ns.length).map fun k : Nat => (k : Int) := by
    refine h'.one ⟨?_, fun z => ?_⟩
    · rw [List.pairwise_map]
      exact List.pairwise_lt_range.imp fun h => by omega
    · rw [List.mem_map]
      constructor
      · rintro ⟨k, hk, rfl⟩
        have hk' := List.mem_range.mp hk
        refine ⟨k, ?_, rfl⟩
        have hx : ns[k]? = some ns[k] := List.getElem?_eq_getElem hk'
        obtain ⟨k0, hk0, e0⟩ := (h.2 _).mp (List.mem_of_getElem? hx)
        have := reach hk0
        rw [← e0, idx_at h.1 hx] at this
        exact this
      · rintro ⟨k, hk, rfl⟩
        exact ⟨k, List.mem_range.mpr (by have := hk.le oq; omega), rfl⟩
  refine List.ext_getElem? fun j => ?_
  rw [paper_get, em, List.getElem?_map]
  by_cases c : j < ns.length
  · rw [List.getElem?_range c]
    obtain ⟨s, hj⟩ : ∃ s, (paperOf ss ns)[j]? = some s := ⟨_, List.getElem?_eq_getElem (by rw [paper_len]; exact c)⟩
    rw [hj]
    show some (paperS (paperOf ss ns) _ (j : Int)) = _
    have e := stAt_eq hj
    have ok := oq _ _ hj
    unfold paperS
    rw [e]
    have ef : (s.fr.map fun o => (((List.range ns.length).map fun k : Nat => (k : Int)).idxOf o : Int)) = s.fr := by
      refine (List.map_congr_left fun y hy => ?_).trans (List.map_id _)
      have b := ok.2 _ hy
      have hp : ((List.range ns.length).map fun k : Nat => (k : Int)).Pairwise (· < ·) := by rw [List.pairwise_map]; exact List.pairwise_lt_range.imp fun h => by omega
      rw [idx_at hp (i := y.toNat) (by rw [List.getElem?_map, List.getElem?_range (by omega)]; show some ((y.toNat : Nat) : Int) = _; rw [Int.toNat_of_nonneg b.1])]
      exact Int.toNat_of_nonneg b.1
    rw [ef]
  · rw [List.getElem?_eq_none (by rw [List.length_range]; omega), List.getElem?_eq_none (by rw [paper_len]; omega)]
    rfl
theorem paper_first {f : Fa} (o : okS ss) (ha : a < ss.length) (h : IsNeed ss a ns) (hf : (stAt ss (a : Int)).f = f) (hn : ∀ (j : Nat) (s : Stp), j < a → ss[j]? = some s → s.f ≠ f) :
    (∃ s, (paperOf ss ns)[ns.length - 1]? = some s ∧ s.f = f) ∧ ∀ (j : Nat) (s : Stp), j < ns.length - 1 → (paperOf ss ns)[j]? = some s → s.f ≠ f := by
  obtain ⟨l0, la⟩ := need_last o h
  refine ⟨⟨paperS ss ns (a : Int), by rw [paper_get, la]; rfl, hf⟩, fun j s hj e => ?_⟩
  rw [paper_get] at e
  obtain ⟨z, hz, rfl⟩ := Option.map_eq_some_iff.mp e
  obtain ⟨z0, zl, za⟩ := need_lt o ha h (List.mem_of_getElem? hz)
  have lt := strict_get h.1 hz la hj
  have hs : ss[z.toNat]? = some ss[z.toNat] := List.getElem?_eq_getElem zl
  show (stAt ss z).f ≠ f
  have e2 : stAt ss z = ss[z.toNat] := by unfold stAt; rw [hs]; rfl
  rw [e2]
  exact hn z.toNat _ (by omega) hs
end
end K23
namespace K23
open PySem L2
def spInit (K : PySem.W.Frag) : Sp := fun vs H Q _ => ∃ (x C : Addr) (y : V), vs = [.ref x, y] ∧ H x = some (xNew C x) ∧ XCl K C ∧ NoAttr K C "fact" ∧ ∀ d, H d = none → d ≠ x → Q .non (upd (upd H x (xGot C d x)) d (xDct "fact" y d))
theorem del_made {H : Hp} {x d : Addr} {a b c : HO} (hx : H x = none) (hd : d ≠ x) : del (upd (upd (upd H x a) x b) d c) x = upd H d c := by
  funext z
  by_cases e : z = x
  · rw [e, del_same, upd_ne (Ne.symm hd), hx]
  · rw [del_ne e]
    by_cases e2 : z = d
    · rw [e2, upd_same, upd_same]
    · rw [upd_ne e2, upd_ne e, upd_ne e, upd_ne e2]
def spPlace (C : Addr) : Sp := fun vs H Q E => ∃ (ls : Addr) (vf : V) (xs : List V) (ss : List Stp) (f : Fa), vs = [.ref ls, vf] ∧ H ls = some (.lst xs) ∧ StL [] H xs ss ∧ (∀ s ∈ ss, s.f.tx.dp ≤ 60) ∧ IsF H f vf ∧
  (∀ (H' : Hp) (a : Nat) (s : Stp), Same H H' → ss[a]? = some s → s.f = f → (∀ (j : Nat) (t : Stp), j < a → ss[j]? = some t → t.f ≠ f) → Q (.int (a : Int)) H') ∧
  ((∀ s ∈ ss, s.f ≠ f) → ∀ (H' : Hp) (d : Addr), Same H H' → H' d = none → E (.ref C) (some d) (upd H' d (xDct "fact" vf d)))
section
variable {P : Program} {w : World} {K : PySem.W.Frag} {mg : Str → Option Value} {base : Heap} {f g e a1 a2 a3 a4 a5 a6 a7 a8 C : Addr} {fd gd' ed d1 d2 d3 d4 d5 d6 d7 d8 : FuncData}
theorem scInit : FnScope ["self", "fact"] ["self", "fact"] (defScope sInit) := ⟨rfl, rfl, rfl, by decide +kernel, rfl, by decide +kernel, by decide +kernel⟩
theorem ok_init (F : Fun K "__init__" "NoFact.__init__" sInit f fd) : FnOk P w K mg base CX0 1 f fd ["self", "fact"] (spInit K) := by
  refine F.ok scInit (fun vs H Q E h => ?_) (fun cdv A outer s H vs Q E hr h => ?_)
  · obtain ⟨x, C, y, rfl, _⟩ := h; rfl
  obtain ⟨x, C, y, rfl, hx, xc, na, q⟩ := h
  refine ⟨_, @pss_one _ _ _ (by exact ps_xfld (pv 0) (pv 1) rfl), ?_⟩
  exact ⟨_, rfl, _, rfl, x, C, rfl, hx, xc, na, fun d hd nd => q d hd nd⟩
theorem scPlace : FnScope ["steps", "fact", "at", "step"] ["steps", "fact"] (defScope sPlace) := ⟨rfl, rfl, rfl, by decide +kernel, rfl, by decide +kernel, by decide +kernel⟩
theorem ok_place (F : Fun K "place_of" "place_of" sPlace f fd) (me : mg "enumerate" = none) (MkNF : MkX K C a1) (xcNF : XCl K C) (tyNF : PySem.W.typeIn K (.ref C) = some (.type "type")) (naNF : NoAttr K C "fact") (mNF : mg "NoFact" = some (.ref C))
    (Gin : FnOk P w K mg base CX0 1 a1 d1 ["self", "fact"] (spInit K)) (bGin : Binds K d1 ["self", "fact"] []) :
    FnOk P w K mg base (CXK P w) 3 f fd ["steps", "fact"] (spPlace C) := by
  refine F.okX scPlace (fun vs H Q E h => ?_) (fun cdv A outer s H vs Q E hr h => ?_)
  · obtain ⟨ls, vf, xs, ss, f, rfl, _⟩ := h; rfl
  obtain ⟨ls, vf, xs, ss, f, rfl, hls, hst, dp, iff, q1, q2⟩ := h
  have hrin := hr
  refine ⟨_, @pss_cons _ _ _ _ _ (by exact PS.nox (by exact ps_for PassesOwn.never rfl (pi_enum rfl me (pa_cons (pv 0) pa_nil)) (pg_tup rfl (pgs_cons (pg_name (i := 2) scPlace.nd rfl (Or.inl rfl)) (pgs_cons (pg_name (i := 3) scPlace.nd rfl (Or.inl rfl)) pgs_nil))) (@pss_one _ _ _ (by exact PS.nox (by exact ps_if (pt_cmpR (op_eqX hr.units) (pe_ix ix_tup (pv 3) pe_int (fun _ _ => rfl)) (pv 1) (nomark _)) (@pss_one _ _ _ (by exact PS.nox (by exact @ps_ret _ _ _ _ (pv 2)))) pss_nil)))))
    (@pss_one _ _ _ (by exact ps_raise rfl xe_cx MkNF xcNF tyNF Gin hrin rfl mNF bGin (pa_cons (pv 1) pa_nil))), ?_⟩
  refine ⟨_, rfl, ls, rfl, ⟨_, SqL.of hls⟩, for_enum (xs := xs) (fun i σ H' => (∃ o2 o3 : Option V, σ = [some (.ref ls), some vf, o2, o3]) ∧ Same H H' ∧ ∀ (j : Nat) (t : Stp), j < i → ss[j]? = some t → t.f ≠ f) ⟨⟨_, _, rfl⟩, Same.refl _, fun j t hj => absurd hj (Nat.not_lt_zero _)⟩ ?_ ?_ ?_⟩
  · rintro i σ H' hi ⟨_, sm, _⟩
    exact SqL.of (sm _ _ hls)
  · rintro i x σ H' T hx ⟨⟨o2, o3, rfl⟩, sm, no⟩ hT
    have s0 := sm.trans (same_new hT (.tup [.int (i : Int), x]))
    refine ⟨T, _, rfl, SqT.of upd_same, rfl, _, _, rfl, _, _, rfl, rfl, ?_⟩
    generalize upd H' T (.tup [.int (i : Int), x]) = H0 at s0 ⊢
    obtain ⟨s, hs, p, pf, vg, rfl, hp, ig, _, _⟩ := paired_get (StL.keep (.of s0) hst) hx
    refine ⟨_, rfl, p, _, _, _, rfl, rfl, SqT.of hp, rfl, _, rfl, s.f.tx, f.tx, ig.xa, (iff.mono s0.tups).xa, dp s (List.mem_of_getElem? hs), _, rfl, ite2 (fun c => ?_) (fun c => ?_)⟩
    · exact ⟨_, rfl, q1 H0 i s s0 hs (Fa.tx_inj (of_decide_eq_true c)) no⟩
    · refine ⟨⟨_, _, rfl⟩, s0, fun j t hj ht => ?_⟩
      rcases Nat.lt_succ_iff_lt_or_eq.mp hj with hj | hj
      · exact no j t hj ht
      · subst hj
        rw [hs] at ht
        cases ht
        exact fun z => c (decide_eq_true (by rw [z]))
  · rintro σ H' ⟨⟨o2, o3, rfl⟩, sm, no⟩
    refine ⟨_, rfl, small2 (by show 1 ≤ 1000; decide), fun x hx => ⟨x, C, vf, rfl, upd_same, xcNF, naNF, fun d hd nd => ⟨rfl, d, by rw [upd_ne (Ne.symm nd), upd_same], ?_⟩⟩⟩
    rw [del_made hx nd]
    rw [upd_ne nd] at hd
    refine q2 (fun s hs => ?_) H' d sm hd
    obtain ⟨j, hj, e⟩ := List.mem_iff_getElem.mp hs
    exact no j s (by rw [StL.len hst]; exact hj) (by rw [List.getElem?_eq_getElem hj, e])
end
end K23
namespace K23
open PySem L2
def kvT (ks : List Int) : List (Key × V) := ks.map fun k => (Sum.inl k, V.bl true)
theorem kvT_len (ks : List Int) : (kvT ks).length = ks.length := List.length_map ..
theorem kvT_keys (ks : List Int) : (kvT ks).map (·.1) = ks.map Sum.inl := by unfold kvT; rw [List.map_map]; rfl
theorem kvT_val (k : Int) : ∀ ks : List Int, (valV (kvT ks) (Sum.inl k)).isSome = decide (k ∈ ks)
  | [] => rfl
  | n :: ks => by
    by_cases e : n = k
    · have : valV (kvT (n :: ks)) (Sum.inl k) = some (.bl true) := valV_pos (p := (Sum.inl n, V.bl true)) (by rw [e])
      rw [this, decide_eq_true (by rw [e]; exact List.mem_cons_self)]; rfl
    · have : valV (kvT (n :: ks)) (Sum.inl k) = valV (kvT ks) (Sum.inl k) := valV_neg (p := (Sum.inl n, V.bl true)) (fun z => e (Sum.inl.inj z))
      rw [this, kvT_val k ks]
      congr 1
      rw [List.mem_cons]
      exact propext ⟨fun h => .inr h, fun h => h.elim (fun z => absurd z.symm e) id⟩
theorem kvT_put {k : Int} {ks : List Int} (h : k ∉ ks) : putK (kvT ks) (Sum.inl k) (.bl true) = kvT (ks ++ [k]) := by
  unfold putK
  rw [valV_any, kvT_val, decide_eq_false h, if_neg Bool.false_ne_true]
  unfold kvT
  rw [List.map_append]; rfl
theorem nat_nodup : ∀ (n : Nat) {ks : List Int}, ks.Nodup → (∀ z ∈ ks, 0 ≤ z ∧ z < (n : Int)) → ks.length ≤ n
  | 0, ks, _, h => by
    cases ks with
    | nil => exact Nat.le_refl _
    | cons k ks => have := h k List.mem_cons_self; omega
  | n + 1, ks, d, h => by
    by_cases c : (n : Int) ∈ ks
    · have := nat_nodup n (ks := ks.erase (n : Int)) (d.erase _) fun z hz => by
        have hz' := (List.Nodup.mem_erase_iff d).mp hz
        have := h z hz'.2
        have := hz'.1
        omega
      rw [List.length_erase_of_mem c] at this
      omega
    · have := nat_nodup n d fun z hz => by
        have := h z hz
        have : z ≠ (n : Int) := fun e => c (by rw [← e]; exact hz)
        omega
      omega
structure Wk (ss : List Stp) (a : Nat) (z : Option Int) (ks W : List Int) : Prop where
  nd : ks.Nodup
  ha : (a : Int) ∈ ks
  rc : ∀ y ∈ ks, ∃ k : Nat, Rch ss a k ∧ y = (k : Int)
  sub : ∀ y ∈ W, y ∈ ks
  cl : ∀ (k : Nat) (s : Stp), (k : Int) ∈ ks → (k : Int) ∉ W → some (k : Int) ≠ z → ss[k]? = some s → ∀ y ∈ s.fr, y ∈ ks
theorem Wk.len {ss : List Stp} {a : Nat} {z : Option Int} {ks W : List Int} (o : okS ss) (ha : a < ss.length) (h : Wk ss a z ks W) : ks.length ≤ ss.length := nat_nodup _ h.nd fun y hy => by
  obtain ⟨k, hk, rfl⟩ := h.rc y hy
  have := hk.le o
  omega
def spNeeded : Sp := fun vs H Q _ => ∃ (ls : Addr) (a : Nat) (xs : List V) (ss : List Stp), vs = [.ref ls, .int (a : Int)] ∧ H ls = some (.lst xs) ∧ StL [] H xs ss ∧ okS ss ∧ a < ss.length ∧ ss.length ≤ 60 ∧
  ∀ (p : Addr) (H' : Hp) (ns : List Int), Same H H' → H p = none → H' p = some (.lst (ns.map V.int)) → IsNeed ss a ns → Q (.ref p) H'
def meas (n : Nat) (d lw : Addr) (H : Hp) : Nat := match H d, H lw with
  | some (.dK kvs), some (.lst ws) => 2 * (n - kvs.length) + ws.length
  | _, _ => 0
theorem meas_eq {n : Nat} {d lw : Addr} {H : Hp} {ks W : List Int} (h1 : H d = some (.dK (kvT ks))) (h2 : H lw = some (.lst (W.map V.int))) : meas n d lw H = 2 * (n - ks.length) + W.length := by
  unfold meas
  rw [h1, h2]
  show 2 * (n - (kvT ks).length) + (W.map V.int).length = _
  rw [kvT_len, List.length_map]
section
variable {P : Program} {w : World} {K : PySem.W.Frag} {mg : Str → Option Value} {base : Heap} {f g e a1 a2 a3 a4 a5 a6 a7 a8 C : Addr} {fd gd' ed d1 d2 d3 d4 d5 d6 d7 d8 : FuncData}
theorem scNeeded : FnScope ["steps", "at", "needed", "waiting", "place", "origin"] ["steps", "at"] (defScope sNeeded) := ⟨rfl, rfl, rfl, by decide +kernel, rfl, by decide +kernel, by decide +kernel⟩
theorem ok_needed (F : Fun K "needed_for" "needed_for" sNeeded f fd) (mso : mg "sorted" = none) : FnOk P w K mg base CX0 1 f fd ["steps", "at"] spNeeded := by
  refine F.ok scNeeded (fun vs H Q E h => ?_) (fun cdv A outer s H vs Q E hr h => ?_)
  · obtain ⟨ls, a, xs, ss, rfl, _⟩ := h; rfl
  obtain ⟨ls, a, xs, ss, rfl, hls, hst, ok, ha, l60, q⟩ := h
  have hu := hu_of hr
  refine ⟨_, @pss_cons _ _ _ _ _ (by exact ps_set (i := 2) scNeeded.nd rfl (Or.inl rfl) (@pe_disp1 _ _ _ _ _ _ (pv 1) pe_bl))
    (@pss_cons _ _ _ _ _ (by exact ps_set (i := 3) scNeeded.nd rfl (Or.inl rfl) (pe_lst (pa_cons (pv 1) pa_nil)))
    (@pss_cons _ _ _ _ _ (by exact ps_while PassesOwn.never (pt_truth (pv 3) (fun _ => rfl)) (@pss_cons _ _ _ _ _ (by exact ps_set (i := 4) scNeeded.nd rfl (Or.inl rfl) (pe_bm0 PySem.F.plainAttrs_list PySem.F.slot_list_pop PySem.F.type_list_pop mt_pop (pv 3))) (@pss_one _ _ _ (by exact ps_for PassesOwn.never rfl (pi_list (pe_ix ix_tup (pe_ix ix_list (pv 0) (pv 4) (fun _ _ => rfl)) pe_int (fun _ _ => rfl))) (pg_name (i := 5) scNeeded.nd rfl (Or.inl rfl)) (@pss_one _ _ _ (by exact ps_if (pt_cmpR (op_notInD hu) (pv 5) (pv 2) rfl) (@pss_cons _ _ _ _ _ (by exact ps_dput hu (pv 2) (pv 5) pe_bl rfl) (@pss_one _ _ _ (by exact ps_expr (pe_bm PySem.F.plainAttrs_list PySem.F.slot_list_append PySem.F.type_list_append mt_append (pv 3) (pa_cons (pv 5) pa_nil))))) pss_nil))))))
    (@pss_one _ _ _ (by exact @ps_ret _ _ _ _ (pe_callB (call_sortedDI rfl) rfl mso PyProof.Rows.boot_sorted (pa_cons (pv 2) pa_nil)))))), ?_⟩
  refine fun d hd => ⟨_, rfl, upd_same, [(Sum.inl (a : Int), V.bl true)], rfl, (by show 1 ≤ 15; decide), ?_⟩
  have ed : upd (upd H d (.dK [])) d (.dK (mergeK [] [(Sum.inl (a : Int), V.bl true)])) d = some (.dK (kvT [(a : Int)])) := upd_same
  have sd : Same H (upd (upd H d (.dK [])) d (.dK (mergeK [] [(Sum.inl (a : Int), V.bl true)]))) := same_upd (same_new hd (.dK [])) hd
  generalize upd (upd H d (.dK [])) d (.dK (mergeK [] [(Sum.inl (a : Int), V.bl true)])) = H1 at ed sd ⊢
  refine ⟨_, rfl, small2 (by show 1 ≤ 1000; decide), fun lw hlw => ?_⟩
  have ndw : d ≠ lw := ne_of_none ed hlw
  have hlw0 : H lw = none := none_of_same sd hlw
  dsimp only [gName]
  show tWhile _ _ { nx := _, rt := _, bk := _, ct := _ } _ _
  refine while_by (fun σ H' => ∃ (ks W : List Int) (o4 o5 : Option V), σ = [some (.ref ls), some (.int (a : Int)), some (.ref d), some (.ref lw), o4, o5] ∧ Same H H' ∧ H' d = some (.dK (kvT ks)) ∧ H' lw = some (.lst (W.map V.int)) ∧ Wk ss a none ks W ∧ 2 * (ss.length - ks.length) + W.length ≤ 2 * ss.length) (fun _ H' => meas ss.length d lw H')
    ⟨[(a : Int)], [(a : Int)], none, none, rfl, same_upd sd hlw0, by rw [upd_ne ndw]; exact ed, upd_same, ⟨by simp, by simp, fun y hy => ⟨a, .refl, List.mem_singleton.mp hy⟩, fun y hy => hy, fun k s h1 h2 => absurd h1 h2⟩, by show 2 * (ss.length - 1) + 1 ≤ _; omega⟩ ?_ (fun _ _ _ _ m h => ?_)
  · rintro σ H' ⟨ks, W, o4, o5, rfl, sm, eD, eW, wk, mW⟩
    refine ⟨_, rfl, !(W.map V.int).isEmpty, .inl ⟨_, SqL.of eW, rfl⟩, ?_⟩
    rcases List.eq_nil_or_concat W with rfl | ⟨W0, z, rfl⟩
    · refine iteF ⟨_, rfl, d, _, ks, rfl, eD, kvT_keys ks, by have := wk.len ok ha; omega, fun p ns hp pe so => ?_⟩
      refine q p _ ns (same_upd sm (none_of_same sm hp)) (none_of_same sm hp) upd_same (need_of pe so wk.nd wk.ha wk.rc fun k s hk hs y hy => ⟨((ok _ _ hs).2 _ hy).1, wk.cl k s hk List.not_mem_nil (by simp) hs y hy⟩)
    · rw [show (!((W0.concat z).map V.int).isEmpty) = true by simp]
      rw [List.concat_eq_append] at eW wk
      rw [List.concat_eq_append, List.length_append] at mW
      have zk := wk.sub z (by simp)
      obtain ⟨k, hk, rfl⟩ := wk.rc z zk
      have kl : k < ss.length := by have := hk.le ok; omega
      obtain ⟨s, hs⟩ : ∃ s, ss[k]? = some s := ⟨_, List.getElem?_eq_getElem kl⟩
      obtain ⟨v, ev, p, pf, vf, rfl, hp, _, hpf, _⟩ := paired_get2 hst hs
      have oks := ok _ _ hs
      have e1 : ((W0 ++ [(k : Int)]).map V.int)[((W0 ++ [(k : Int)]).map V.int).length - 1]? = some (.int (k : Int)) := by
        rw [List.map_append, List.length_append]
        show _[(W0.map V.int).length + 1 - 1]? = _
        rw [Nat.add_sub_cancel, List.getElem?_append_right (Nat.le_refl _), Nat.sub_self]; rfl
      have e2 : ((W0 ++ [(k : Int)]).map V.int).dropLast = W0.map V.int := by rw [List.map_append]; exact List.dropLast_concat
      refine iteT ⟨_, rfl, .inl ⟨rfl, _, SqL.of eW⟩, lw, _, _, rfl, rfl, eW, e1, ?_⟩
      rw [e2]
      have eD2 : upd H' lw (.lst (W0.map V.int)) d = some (.dK (kvT ks)) := by rw [upd_ne ndw]; exact eD
      have sm2 : Same H (upd H' lw (.lst (W0.map V.int))) := same_upd sm hlw0
      have eW2 : upd H' lw (.lst (W0.map V.int)) lw = some (.lst (W0.map V.int)) := upd_same
      have mz := meas_eq (n := ss.length) eD eW
      show tSeq _ _ _ _ (upd H' lw (.lst (W0.map V.int)))
      generalize upd H' lw (.lst (W0.map V.int)) = H2 at eD2 sm2 eW2 ⊢
      refine ⟨_, rfl, _, rfl, ls, _, _, _, rfl, rfl, SqL.of (sm2 _ _ hls), atI_nat ev, p, _, _, _, rfl, rfl, SqT.of (sm2 _ _ hp), rfl, pf, rfl, ⟨_, SqL.of (sm2 _ _ hpf)⟩, for_list (xs := s.fr.map V.int) (fun i σ H3 => ∃ (ks2 W2 : List Int) (o5 : Option V), σ = [some (.ref ls), some (.int (a : Int)), some (.ref d), some (.ref lw), some (.int (k : Int)), o5] ∧ Same H H3 ∧ H3 d = some (.dK (kvT ks2)) ∧ H3 lw = some (.lst (W2.map V.int)) ∧
        Wk ss a (some (k : Int)) ks2 W2 ∧ (k : Int) ∈ ks2 ∧ (∀ j y, j < i → s.fr[j]? = some y → y ∈ ks2) ∧ 2 * (ss.length - ks2.length) + W2.length ≤ 2 * (ss.length - ks.length) + W0.length) ⟨ks, W0, _, rfl, sm2, eD2, eW2, ⟨wk.nd, wk.ha, wk.rc, fun y hy => wk.sub y (List.mem_append_left _ hy), fun k' s' h1 h2 h3 h4 => wk.cl k' s' h1 (fun hm => ?_) (by simp) h4⟩, zk, fun j y hj => absurd hj (Nat.not_lt_zero _), Nat.le_refl _⟩ ?_ ?_ ?_⟩
      · rcases List.mem_append.mp hm with hm | hm
        · exact h2 hm
        · exact h3 (by rw [List.mem_singleton.mp hm])
      · rintro i σ H3 hi ⟨ks2, W2, o5, rfl, sm3, _⟩
        exact SqL.of (sm3 _ _ hpf)
      · rintro i x σ H3 hx ⟨ks2, W2, o5, rfl, sm3, eD3, eW3, wk3, zk3, fr3, m3⟩
        rw [List.getElem?_map] at hx
        obtain ⟨y, hy, rfl⟩ := Option.map_eq_some_iff.mp hx
        have hym := List.mem_of_getElem? hy
        have yb := oks.2 _ hym
        have l3 := wk3.len ok ha
        refine ⟨_, rfl, _, rfl, d, _, rfl, DGet.k (k := Sum.inl y) eD3, _, rfl, ?_⟩
        rw [kvT_val]
        have step : ∀ {ks4 : List Int}, (∀ u ∈ ks2, u ∈ ks4) → y ∈ ks4 → ∀ (j : Nat) (u : Int), j < i + 1 → s.fr[j]? = some u → u ∈ ks4 := fun {ks4} h1 h2 j u hj hu => by
          rcases Nat.lt_succ_iff_lt_or_eq.mp hj with hj | hj
          · exact h1 u (fr3 j u hj hu)
          · subst hj
            rw [hy] at hu
            cases hu
            exact h2
        by_cases c : y ∈ ks2
        · rw [decide_eq_true c]
          exact iteF ⟨ks2, W2, _, rfl, sm3, eD3, eW3, wk3, zk3, step (fun u h => h) c, m3⟩
        · rw [decide_eq_false c]
          refine iteT ⟨_, rfl, _, rfl, d, _, rfl, DPut.k (k := Sum.inl y) eD3 (small1000 (by rw [kvT_len]; omega)), ?_⟩
          rw [kvT_put c]
          have nwd : lw ≠ d := Ne.symm ndw
          have hd0 : H d = none := hd
          refine ⟨_, rfl, .inl ⟨rfl, _, SqL.of (by rw [upd_ne nwd]; exact eW3)⟩, _, rfl, lw, _, _, rfl, rfl, by rw [upd_ne nwd]; exact eW3, ?_, ?_⟩
          · have := wk3
            refine small1000 ?_
            rw [List.length_map]
            omega
          · have wk4 : Wk ss a (some (k : Int)) (ks2 ++ [y]) (W2 ++ [y]) := by
              refine ⟨nd_snoc wk3.nd c, List.mem_append_left _ wk3.ha, fun u hu => ?_, fun u hu => ?_, fun k' s' h1 h2 h3 h4 u hu => ?_⟩
              · rcases List.mem_append.mp hu with hu | hu
                · exact wk3.rc u hu
                · rw [List.mem_singleton.mp hu]
                  exact ⟨y.toNat, hk.step hs hym, (Int.toNat_of_nonneg yb.1).symm⟩
              · rcases List.mem_append.mp hu with hu | hu
                · exact List.mem_append_left _ (wk3.sub u hu)
                · exact List.mem_append_right _ hu
              · rcases List.mem_append.mp h1 with h1 | h1
                · exact List.mem_append_left _ (wk3.cl k' s' h1 (fun z => h2 (List.mem_append_left _ z)) h3 h4 u hu)
                · exact absurd (List.mem_append_right _ h1) h2
            have l4 := wk4.len ok ha
            rw [List.length_append] at l4
            refine ⟨ks2 ++ [y], W2 ++ [y], _, rfl, same_upd (same_upd sm3 hd0) hlw0, by rw [upd_ne ndw, upd_same], by rw [upd_same, List.map_append]; rfl, wk4, List.mem_append_left _ zk3, step (fun u h => List.mem_append_left _ h) (by simp), ?_⟩
            rw [List.length_append, List.length_append]
            have e4 : [y].length = 1 := rfl
            omega
      · rintro σ H3 ⟨ks2, W2, o5, rfl, sm3, eD3, eW3, wk3, zk3, fr3, m3⟩
        refine ⟨⟨ks2, W2, _, _, rfl, sm3, eD3, eW3, ⟨wk3.nd, wk3.ha, wk3.rc, wk3.sub, fun k' s' h1 h2 _ h4 u hu => ?_⟩, by omega⟩, ?_⟩
        · by_cases c : k' = k
          · subst c
            rw [hs] at h4
            cases h4
            obtain ⟨j, hj, ej⟩ := List.mem_iff_getElem.mp hu
            exact fr3 j u (by rw [List.length_map]; exact hj) (by rw [List.getElem?_eq_getElem hj, ej])
          · exact wk3.cl k' s' h1 h2 (fun z => c (by have := Option.some.inj z; omega)) h4 u hu
        · show meas _ _ _ H3 < meas _ _ _ H'
          rw [mz, meas_eq eD3 eW3, List.length_append]
          have e4 : [(k : Int)].length = 1 := rfl
          omega
  · obtain ⟨v, e, kk, t, h⟩ := h
    exact ⟨v, e, kk, t, m _ _ h⟩
end
end K23
namespace K23
open PySem L2
theorem ndno : ((([("new" : Str), ("old" : Str)] : List Str) ++ []) : List Str).Nodup := by decide +kernel
theorem ndop : ((([("origin" : Str)] : List Str) ++ [("new_place" : Str)]) : List Str).Nodup := by decide +kernel
def StN (H0 H : Hp) : List V → List Stp → Prop := Paired fun v s => ∃ (p pf : Addr) (vf : V), v = .ref p ∧ H p = some (.tup [vf, .str s.r, .ref pf, numV s.n]) ∧ IsF H s.f vf ∧ H pf = some (.lst (s.fr.map V.int)) ∧ H0 pf = none
theorem StN.st {H0 H : Hp} {xs : List V} {ss : List Stp} (h : StN H0 H xs ss) : StL [] H xs ss := Paired.imp' (fun _ _ ⟨p, pf, vf, e, h1, h2, h3, _⟩ => ⟨p, pf, vf, e, h1, h2, h3, List.not_mem_nil⟩) h
theorem StN.same {H0 H H' : Hp} (t : Same H H') {xs : List V} {ss : List Stp} (h : StN H0 H xs ss) : StN H0 H' xs ss := Paired.imp' (fun _ _ ⟨p, pf, vf, e, h1, h2, h3, h4⟩ => ⟨p, pf, vf, e, t _ _ h1, h2.mono t.tups, t _ _ h3, h4⟩) h
def spPaper (C : Addr) : Sp := fun vs H Q E => ∃ (ls : Addr) (vf : V) (xs : List V) (ss : List Stp) (f : Fa), vs = [.ref ls, vf] ∧ H ls = some (.lst xs) ∧ StL [] H xs ss ∧ okS ss ∧ ss.length ≤ 60 ∧ (∀ s ∈ ss, s.f.tx.dp ≤ 60) ∧ IsF H f vf ∧
  (∀ (l : Addr) (H' : Hp) (tv : List V) (a : Nat) (s : Stp) (ns : List Int), Same H H' → H l = none → H' l = some (.lst tv) → StN H H' tv (paperOf ss ns) → ss[a]? = some s → s.f = f → (∀ (j : Nat) (t : Stp), j < a → ss[j]? = some t → t.f ≠ f) → IsNeed ss a ns → Q (.ref l) H') ∧
  ((∀ s ∈ ss, s.f ≠ f) → ∀ (H' : Hp) (d : Addr), Same H H' → H' d = none → E (.ref C) (some d) (upd H' d (xDct "fact" vf d)))
section
variable {P : Program} {w : World} {K : PySem.W.Frag} {mg : Str → Option Value} {base : Heap} {f g e a1 a2 a3 a4 a5 a6 a7 a8 C : Addr} {fd gd' ed d1 d2 d3 d4 d5 d6 d7 d8 : FuncData}
theorem scPaper : FnScope ["steps", "fact", "needed", "new_place", "told", "old", "fact_here", "rule", "froms", "number"] ["steps", "fact"] (defScope sPaper) := ⟨rfl, rfl, rfl, by decide +kernel, rfl, by decide +kernel, by decide +kernel⟩
theorem ok_paper (F : Fun K "paper" "paper" sPaper f fd) (me : mg "enumerate" = none)
    (Gpo : FnOk P w K mg base (CXK P w) 3 a1 d1 ["steps", "fact"] (spPlace C)) (bGpo : Binds K d1 ["steps", "fact"] []) (kGpo : PySem.W.keepIn K (.ref a1) = true) (mGpo : mg "place_of" = some (.ref a1))
    (Gne : FnOk P w K mg base CX0 1 a2 d2 ["steps", "at"] spNeeded) (bGne : Binds K d2 ["steps", "at"] []) (kGne : PySem.W.keepIn K (.ref a2) = true) (mGne : mg "needed_for" = some (.ref a2)) :
    FnOk P w K mg base (CXK P w) 4 f fd ["steps", "fact"] (spPaper C) := by
  refine F.okX scPaper (fun vs H Q E h => ?_) (fun cdv A outer s H vs Q E hr h => ?_)
  · obtain ⟨ls, vf, xs, ss, f, rfl, _⟩ := h; rfl
  obtain ⟨ls, vf, xs, ss, f, rfl, hls, hst, ok, l60, dp, iff, q1, q2⟩ := h
  have hu := hu_of hr
  have hrpo := hr
  have hrne := hr.mono (show 1 ≤ 3 by decide)
  refine ⟨_, @pss_cons _ _ _ _ _ (by exact ps_set (i := 2) scPaper.nd rfl (Or.inl rfl) (pe_call Gne hrne rfl mGne kGne bGne .nil pass0 (pa_cons (pv 0) (pa_cons (pe_call Gpo hrpo rfl mGpo kGpo bGpo .nil pass_cx (pa_cons (pv 0) (pa_cons (pv 1) pa_nil))) pa_nil))))
    (@pss_cons _ _ _ _ _ (by exact PS.nox (by exact ps_set (i := 3) scPaper.nd rfl (Or.inr rfl) (pe_compD ["new", "old"] [] [] rfl (pi_enum rfl me (pa_cons (pv 2) pa_nil)) (fun _ _ _ => pg_pair (K' := K) (i := 0) (j := 1) rfl rfl ndno rfl rfl rfl rfl) (fun _ _ _ => pts_nil) (fun _ _ _ => (pv 1)) (fun _ _ _ => (pv 0)))))
    (@pss_cons _ _ _ _ _ (by exact PS.nox (by exact ps_set (i := 4) scPaper.nd rfl (Or.inl rfl) (pe_lst pa_nil)))
    (@pss_cons _ _ _ _ _ (by exact PS.nox (by exact ps_for PassesOwn.never rfl (pi_list (pv 2)) (pg_name (i := 5) scPaper.nd rfl (Or.inl rfl)) (@pss_cons _ _ _ _ _ (by exact PS.nox (by exact ps_asg (pe_ix ix_list (pv 0) (pv 5) (fun _ _ => rfl)) (pg_tup rfl (pgs_cons (pg_name (i := 6) scPaper.nd rfl (Or.inl rfl)) (pgs_cons (pg_name (i := 7) scPaper.nd rfl (Or.inl rfl)) (pgs_cons (pg_name (i := 8) scPaper.nd rfl (Or.inl rfl)) (pgs_cons (pg_name (i := 9) scPaper.nd rfl (Or.inl rfl)) pgs_nil))))))) (@pss_one _ _ _ (by exact PS.nox (by exact ps_expr (pe_bm PySem.F.plainAttrs_list PySem.F.slot_list_append PySem.F.type_list_append mt_append (pv 4) (@pa_consN _ _ _ _ _ (@pe_tup _ _ _ _ _ (pa_cons (pv 6) (pa_cons (pv 7) (pa_cons (pe_comp ["origin"] ["new_place"] [3] rfl (pi_list (pv 8)) (fun _ _ _ => pg_name (i := 0) ndop rfl (Or.inl rfl)) (fun _ _ _ => pts_nil) (fun _ _ _ => (pe_dget hu (pv 1) (pv 0) (fun _ _ => rfl)))) (pa_cons (pv 9) pa_nil))))) pa_nil rfl))))))))
    (@pss_one _ _ _ (by exact PS.nox (by exact @ps_ret _ _ _ _ (pv 4))))))), ?_⟩
  refine ⟨_, rfl, _, rfl, _, rfl, ls, vf, xs, ss, f, rfl, hls, hst, dp, iff, fun H1 a s sm1 hs hf no => ?_, q2⟩
  have ha : a < ss.length := (List.getElem?_eq_some_iff.mp hs).1
  refine ⟨ls, a, xs, ss, rfl, sm1 _ _ hls, StL.keep (.of sm1) hst, ok, ha, l60, fun ln H2 ns sm2 hln eln need => ?_⟩
  have sm02 := sm1.trans sm2
  have hln0 : H ln = none := none_of_same sm1 hln
  have nl : ns.length ≤ 60 := by
    have := nat_nodup ss.length (strict_nodup need.1) fun z hz => by have := need_lt ok ha need hz; omega
    omega
  have lm : (ns.map V.int).length = ns.length := List.length_map ..
  refine ⟨_, rfl, ln, rfl, ⟨_, SqL.of eln⟩, fun D hD => ?_⟩
  refine dcmp_by ns.length (fun i σ H3 => (∃ o1 o2, σ = [o1, o2]) ∧ Same H2 H3 ∧ ∃ kvs : List (Key × V), H3 D = some (.dK kvs) ∧ kvs.length ≤ i ∧ ∀ (j : Nat) (z : Int), j < i → ns[j]? = some z → valV kvs (Sum.inl z) = some (.int (j : Int))) ⟨⟨_, _, rfl⟩, same_new hD _, [], upd_same, Nat.le_refl _, fun j z hj => absurd hj (Nat.not_lt_zero _)⟩ ?_ ?_
  rotate_left
  · rintro i σ H3 hi ⟨⟨o1, o2, rfl⟩, s3, kvs, e3, l3, v3⟩
    have e13 := s3 _ _ eln
    refine ⟨⟨_, _, SqL.of e13, List.getElem?_eq_getElem (by rw [lm]; exact hi)⟩, ?_⟩
    rintro x H4 ⟨T, y, rfl, hT, rfl, hy⟩
    have hy1 := hy _ (SqL.of e13)
    rw [List.getElem?_map] at hy1
    obtain ⟨z, hz, rfl⟩ := Option.map_eq_some_iff.mp hy1
    have nTD : D ≠ T := ne_of_none e3 hT
    refine ⟨T, _, rfl, SqT.of upd_same, rfl, _, _, rfl, _, _, rfl, rfl, ?_⟩
    refine ⟨_, rfl, _, rfl, kvs, Sum.inl z, rfl, by rw [upd_ne nTD]; exact e3, small1000 (by omega), ⟨_, _, rfl⟩, same_upd (s3.trans (same_new hT _)) hD, _, upd_same, Nat.le_trans (length_putK kvs _ _) (by omega), fun j y hj hjy => ?_⟩
    rw [valV_put]
    rcases Nat.lt_succ_iff_lt_or_eq.mp hj with hj' | hj'
    · have := strict_get need.1 hjy hz hj'
      rw [if_neg (fun e => by have := Sum.inl.inj e; omega)]
      exact v3 j y hj' hjy
    · subst hj'
      rw [hz] at hjy
      cases hjy
      rw [if_pos rfl]
  · rintro σ H3 ⟨_, s3, kvs, e3, l3, v3⟩
    have e13 := s3 _ _ eln
    have sm03 := sm02.trans s3
    refine ⟨⟨_, SqL.of e13, by rw [lm]; exact Nat.le_refl _⟩, ?_⟩
    have look : ∀ {z : Int}, z ∈ ns → valV kvs (Sum.inl z) = some (.int ((ns.idxOf z : Nat) : Int)) := fun {z} hz => v3 _ z (List.idxOf_lt_length_of_mem hz) (at_idx hz)
    refine ⟨Nat.zero_le _, fun lt hlt => ?_⟩
    have hlt0 : H lt = none := none_of_same sm03 hlt
    refine ⟨_, rfl, ln, rfl, ⟨_, SqL.of ((same_new hlt _) _ _ e13)⟩, for_list (xs := ns.map V.int) (fun i σ H4 => ∃ (tv : List V) (o5 o6 o7 o8 o9 : Option V), σ = [some (.ref ls), some vf, some (.ref ln), some (.ref D), some (.ref lt), o5, o6, o7, o8, o9] ∧ Same H3 H4 ∧ H4 lt = some (.lst tv) ∧ StN (upd H3 lt (.lst [])) H4 tv ((ns.take i).map (paperS ss ns))) ⟨[], _, _, _, _, _, rfl, same_new hlt _, upd_same, .nil⟩ ?_ ?_ ?_⟩
    · rintro i σ H4 hi ⟨tv, o5, o6, o7, o8, o9, rfl, s4, _⟩
      exact SqL.of (s4 _ _ e13)
    · rintro i x σ H4 hx ⟨tv, o5, o6, o7, o8, o9, rfl, s4, et, stn⟩
      rw [List.getElem?_map] at hx
      obtain ⟨z, hz, rfl⟩ := Option.map_eq_some_iff.mp hx
      have hi : i < ns.length := (List.getElem?_eq_some_iff.mp hz).1
      have zm := List.mem_of_getElem? hz
      obtain ⟨z0, zl, za⟩ := need_lt ok ha need zm
      have sm04 := sm03.trans s4
      obtain ⟨t, ht⟩ : ∃ t, ss[z.toNat]? = some t := ⟨_, List.getElem?_eq_getElem zl⟩
      obtain ⟨v, ev, p, pf, vg, rfl, hp, ig, hpf, _⟩ := paired_get2 hst ht
      have ez : atI xs z = some (.ref p) := by have := atI_nat ev; rw [Int.toNat_of_nonneg z0] at this; exact this
      have et' : stAt ss z = t := by unfold stAt; rw [ht]; rfl
      refine ⟨_, rfl, _, rfl, ls, _, _, _, rfl, rfl, SqL.of (sm04 _ _ hls), ez, p, _, rfl, SqT.of (sm04 _ _ hp), rfl, _, _, rfl, _, _, rfl, _, _, rfl, _, _, rfl, rfl, ?_⟩
      have hpf4 := sm04 _ _ hpf
      refine ⟨_, rfl, .inl ⟨rfl, _, SqL.of et⟩, _, rfl, _, rfl, _, rfl, pf, rfl, ⟨_, SqL.of hpf4⟩, fun C2 hC2 => ?_⟩
      have eD4 := s4 _ _ e3
      have lf : (t.fr.map V.int).length = t.fr.length := List.length_map ..
      have f2 := (ok _ _ ht).1
      refine cmp_by t.fr.length (fun k σ H5 => (∃ o, σ = [o, some (.ref D)]) ∧ Same H4 H5 ∧ H5 C2 = some (.lst (((t.fr.take k).map fun o => ((ns.idxOf o : Nat) : Int)).map V.int))) ⟨⟨_, rfl⟩, same_new hC2 _, upd_same⟩ ?_ ?_
      · rintro σ H5 ⟨_, s5, e5⟩
        refine ⟨⟨_, SqL.of (s5 _ _ hpf4), by rw [lf]; exact Nat.le_refl _⟩, ?_⟩
        rw [List.take_length] at e5
        refine ⟨_, rfl, small2 (by show 4 ≤ 1000; decide), fun T hT => ?_⟩
        have s6 := same_new hT (.tup [vg, .str t.r, .ref C2, numV t.n])
        have lt5 := (s5.trans s6) _ _ et
        have ltv : tv.length = i := by rw [Paired.length stn, List.length_map, List.length_take]; omega
        have nCl : C2 ≠ lt := fun e => by rw [e, et] at hC2; cases hC2
        have hC20 : upd H3 lt (.lst []) C2 = none := by rw [upd_ne nCl]; exact none_of_same s4 hC2
        refine ⟨lt, _, _, rfl, rfl, lt5, small1000 (by omega), tv ++ [.ref T], _, _, _, _, _, rfl, same_upd ((s4.trans s5).trans s6) hlt, upd_same, ?_⟩
        rw [List.take_succ, hz, List.map_append]
        have kk : ∀ {b : Addr} {o : HO}, b ≠ lt → upd H5 T (.tup [vg, .str t.r, .ref C2, numV t.n]) b = some o → upd (upd H5 T (.tup [vg, .str t.r, .ref C2, numV t.n])) lt (.lst (tv ++ [.ref T])) b = some o := fun hb e => by rw [upd_ne hb]; exact e
        refine paired_app ?_ (.cons ?_ .nil)
        · refine Paired.imp' (fun v s' hh => ?_) (StN.same (s5.trans s6) stn)
          obtain ⟨p', pf', vf', e', h1, h2, h3, h4⟩ := hh
          have np : p' ≠ lt := fun e => by rw [e, lt5] at h1; cases h1
          have npf : pf' ≠ lt := fun e => by rw [e, upd_same] at h4; cases h4
          exact ⟨p', pf', vf', e', kk np h1, h2.mono (tups_lst lt5), kk npf h3, h4⟩
        · have nTl : T ≠ lt := fun e => by rw [e, s5 _ _ et] at hT; cases hT
          refine ⟨T, C2, vg, rfl, ?_, ?_, ?_, hC20⟩
          · have e6 := kk nTl (upd_same (H := H5) (a := T) (o := .tup [vg, .str t.r, .ref C2, numV t.n]))
            rw [e6]
            unfold paperS
            rw [et']
          · unfold paperS
            rw [et']
            exact (ig.mono (sm04.trans (s5.trans s6)).tups).mono (tups_lst lt5)
          · have e6 := kk nCl (s6 _ _ e5)
            rw [e6]
            unfold paperS
            rw [et']
      · rintro k σ H5 hk ⟨⟨o, rfl⟩, s5, e5⟩
        have hpf5 := s5 _ _ hpf4
        refine ⟨⟨_, _, SqL.of hpf5, List.getElem?_eq_getElem (by rw [lf]; exact hk)⟩, ?_⟩
        rintro x H6 ⟨rfl, hx1⟩
        have hx2 := hx1 _ (SqL.of hpf5)
        rw [List.getElem?_map] at hx2
        obtain ⟨y, hy, rfl⟩ := Option.map_eq_some_iff.mp hx2
        have ym := need_in ok need zm ht (List.mem_of_getElem? hy)
        refine ⟨_, rfl, _, rfl, D, _, rfl, (by have g := DGet.k (k := Sum.inl y) (s5 _ _ eD4); rw [look ym] at g; exact g), _, e5, small1000 (by rw [List.length_map, List.length_map, List.length_take]; omega), ⟨_, rfl⟩, same_upd s5 hC2, ?_⟩
        rw [upd_same, List.take_succ, hy, List.map_append, List.map_append]
        rfl
    · rintro σ H4 ⟨tv, o5, o6, o7, o8, o9, rfl, s4, et, stn⟩
      rw [lm, List.take_length] at stn
      refine ⟨_, rfl, q1 lt H4 tv a s ns (sm03.trans s4) hlt0 et (Paired.imp' (fun v s' hh => ?_) stn) hs hf no need⟩
      obtain ⟨p', pf', vf', e', h1, h2, h3, h4⟩ := hh
      have npf : pf' ≠ lt := fun e => by rw [e, upd_same] at h4; cases h4
      rw [upd_ne npf] at h4
      exact ⟨p', pf', vf', e', h1, h2, h3, none_of_same sm03 h4⟩
end
end K23
namespace K23
open PySem L2
theorem kit_ts (K : PySem.W.Frag) : PySem.W.kitOne K (.type "tuple") (.type "str") = some false := by first | rfl | decide | with_unfolding_all rfl
theorem kit_ll (K : PySem.W.Frag) : PySem.W.kitOne K (.type "list") (.type "list") = some true := by first | rfl | decide | with_unfolding_all rfl
theorem ndlow : ((([("_law_low" : Str)] : List Str) ++ []) : List Str).Nodup := by decide +kernel
def spWholeL : Sp := fun vs H Q _ => ∃ i : Int, vs = [.int i] ∧ Q (.bl true) H
def spKindly (n : Nat) : Sp := fun vs H Q _ => ∃ (v : V) (k : Kd), vs = [v] ∧ IsK H k v ∧ k.dep < n ∧ Q (.bl true) H
def spClaim : Sp := fun vs H Q _ => ∃ (v : V) (f : Fa), vs = [v] ∧ IsF H f v ∧ f.lo 7 ∧ Q (.bl true) H
def spAre : Sp := fun vs H Q _ => ∃ (l : Addr) (xs : List V) (ss : List Stp), vs = [.ref l] ∧ H l = some (.lst xs) ∧ StL [] H xs ss ∧ (∀ s ∈ ss, s.f.lo 7 ∧ s.fr.length ≤ 2) ∧ ∀ H', Same H H' → Q (.bl true) H'
section
variable {P : Program} {w : World} {K : PySem.W.Frag} {mg : Str → Option Value} {base : Heap} {f g e a1 a2 a3 a4 a5 a6 a7 a8 C : Addr} {fd gd' ed d1 d2 d3 d4 d5 d6 d7 d8 : FuncData}
theorem scWhole : FnScope ["_law_found"] ["_law_found"] (defScope sWhole) := ⟨rfl, rfl, rfl, by decide +kernel, rfl, by decide +kernel, by decide +kernel⟩
theorem ok_wholeL (F : Fun K "_law_whole" "_law_whole" sWhole f fd) (mi : mg "isinstance" = none) (mint : mg "int" = none) (mb : mg "bool" = none) : FnOk P w K mg base CX0 1 f fd ["_law_found"] spWholeL := by
  refine F.ok scWhole (fun vs H Q E h => ?_) (fun cdv A outer s H vs Q E hr h => ?_)
  · obtain ⟨i, rfl, _⟩ := h; rfl
  obtain ⟨i, rfl, q⟩ := h
  refine ⟨_, @pss_one _ _ _ (by exact @ps_ret _ _ _ _ (pe_and (pe_callB call_isinst rfl mi PyProof.Rows.boot_isinstance (pa_cons (pv 0) (pa_cons (pe_bltn (v := .ty "int") rfl mint PyProof.Rows.boot_int rfl) pa_nil))) (pe_one (pe_not (pe_callB call_isinst rfl mi PyProof.Rows.boot_isinstance (pa_cons (pv 0) (pa_cons (pe_bltn (v := .ty "bool") rfl mb PyProof.Rows.boot_bool rfl) pa_nil))))))), ?_⟩
  exact ⟨_, rfl, _, _, _, true, rfl, TyOf.int i, kit_ii K, _, rfl, iteT ⟨_, rfl, _, _, _, false, rfl, TyOf.int i, kit_ib K, _, rfl, q⟩⟩
theorem scKindly : FnScope ["_law_x"] ["_law_x"] (defScope sKindly) := ⟨rfl, rfl, rfl, by decide +kernel, rfl, by decide +kernel, by decide +kernel⟩
theorem ok_kindly {n k0 : Nat} (F : Fun K "_law_kindly" "_law_kindly" sKindly f fd) (Gkd : FnOk P w K mg base CX0 k0 f fd ["_law_x"] (spKindly n)) (bGkd : Binds K fd ["_law_x"] []) (mGkd : mg "_law_kindly" = some (.ref f)) (mi : mg "isinstance" = none) (ms : mg "str" = none) (mt : mg "tuple" = none) (ml : mg "len" = none) :
    FnOk P w K mg base CX0 (k0 + 1) f fd ["_law_x"] (spKindly (n + 1)) := by
  refine F.ok scKindly (fun vs H Q E h => ?_) (fun cdv A outer s H vs Q E hr h => ?_)
  · obtain ⟨v, k, rfl, _⟩ := h; rfl
  obtain ⟨v, k, rfl, ik, hd, q⟩ := h
  have kGkd := F.kp
  have hrkd := hr
  refine ⟨_, @pss_cons _ _ _ _ _ (by exact ps_if (pt_val (pe_callB call_isinst rfl mi PyProof.Rows.boot_isinstance (pa_cons (pv 0) (pa_cons (pe_bltn (v := .ty "str") rfl ms PyProof.Rows.boot_str rfl) pa_nil)))) (@pss_one _ _ _ (by exact @ps_ret _ _ _ _ pe_bl)) pss_nil)
    (@pss_cons _ _ _ _ _ (by exact ps_if (PW.pt (pw_or (pt_not (pt_val (pe_callB call_isinst rfl mi PyProof.Rows.boot_isinstance (pa_cons (pv 0) (pa_cons (pe_bltn (v := .ty "tuple") rfl mt PyProof.Rows.boot_tuple rfl) pa_nil))))) (pw_or1 (pt_cmpR op_ne (pe_callB call_len_seq rfl ml PySem.boot_len (pa_cons (pv 0) pa_nil)) pe_int (nomark _))))) (@pss_one _ _ _ (by exact @ps_ret _ _ _ _ pe_bl)) pss_nil)
    (@pss_cons _ _ _ _ _ (by exact ps_if (pt_cmpR op_eq (pe_ix ix_tup (pv 0) pe_int (fun _ _ => rfl)) pe_str (nomark _)) (@pss_one _ _ _ (by exact @ps_ret _ _ _ _ (pe_and (pe_callB call_isinst rfl mi PyProof.Rows.boot_isinstance (pa_cons (pe_ix ix_tup (pv 0) pe_int (fun _ _ => rfl)) (pa_cons (pe_bltn (v := .ty "str") rfl ms PyProof.Rows.boot_str rfl) pa_nil))) (pe_one (pe_call Gkd hrkd rfl mGkd kGkd bGkd .nil pass0 (pa_cons (pe_ix ix_tup (pv 0) pe_int (fun _ _ => rfl)) pa_nil)))))) pss_nil)
    (@pss_one _ _ _ (by exact @ps_ret _ _ _ _ (pe_and (pe_cmpR op_eq (pe_ix ix_tup (pv 0) pe_int (fun _ _ => rfl)) pe_str (nomark _)) (pe_and (pe_call Gkd hrkd rfl mGkd kGkd bGkd .nil pass0 (pa_cons (pe_ix ix_tup (pv 0) pe_int (fun _ _ => rfl)) pa_nil)) (pe_one (pe_call Gkd hrkd rfl mGkd kGkd bGkd .nil pass0 (pa_cons (pe_ix ix_tup (pv 0) pe_int (fun _ _ => rfl)) pa_nil))))))))), ?_⟩
  cases k with
  | nm x =>
    cases ik
    exact ⟨_, rfl, _, _, _, true, rfl, TyOf.str x, kit_str_str K, _, rfl, iteT q⟩
  | two a b =>
    obtain ⟨p, x, y, rfl, hp, ia, ib⟩ := ik
    have hd' : 1 + max a.dep b.dep < n + 1 := hd
    refine ⟨_, rfl, _, _, _, false, rfl, TyOf.tup hp, kit_ts K, _, rfl, iteF ⟨_, rfl, _, _, _, true, rfl, TyOf.tup hp, kit_tt K, _, rfl, iteF ⟨_, rfl, p, _, rfl, .inr (SqT.of hp), rfl, _, rfl, iteF ?_⟩⟩⟩
    refine ⟨_, rfl, p, _, _, _, rfl, rfl, SqT.of hp, rfl, rfl, _, rfl, ?_⟩
    rw [both_some]
    refine iteF ⟨_, rfl, p, _, _, _, rfl, rfl, SqT.of hp, rfl, rfl, _, rfl, ?_⟩
    rw [both_both]
    exact iteT ⟨_, rfl, p, _, _, _, rfl, rfl, SqT.of hp, rfl, x, a, rfl, ia, by omega, _, rfl, iteT ⟨_, rfl, p, _, _, _, rfl, rfl, SqT.of hp, rfl, y, b, rfl, ib, by omega, q⟩⟩
  | som r c =>
    obtain ⟨p, y, rfl, hp, ic⟩ := ik
    have hd' : 1 + c.dep < n + 1 := hd
    refine ⟨_, rfl, _, _, _, false, rfl, TyOf.tup hp, kit_ts K, _, rfl, iteF ⟨_, rfl, _, _, _, true, rfl, TyOf.tup hp, kit_tt K, _, rfl, iteF ⟨_, rfl, p, _, rfl, .inr (SqT.of hp), rfl, _, rfl, iteF ?_⟩⟩⟩
    refine ⟨_, rfl, p, _, _, _, rfl, rfl, SqT.of hp, rfl, rfl, _, rfl, ?_⟩
    rw [some_some]
    exact iteT ⟨_, rfl, p, _, _, _, rfl, rfl, SqT.of hp, rfl, _, _, _, true, rfl, TyOf.str _, kit_str_str K, _, rfl, iteT ⟨_, rfl, p, _, _, _, rfl, rfl, SqT.of hp, rfl, y, c, rfl, ic, by omega, q⟩⟩
theorem kindly_none : FnOk P w K mg base CX0 1 f fd ["_law_x"] (spKindly 0) := by
  have no : ∀ vs H Q E, ¬ spKindly 0 vs H Q E := fun vs H Q E h => by
    obtain ⟨v, k, _, _, h, _⟩ := h
    omega
  exact ⟨fun vs H Q E h => absurd h (no vs H Q E), fun A outer s H args us vs Q E _ _ _ _ h => absurd h (no vs H Q E)⟩
theorem kindly_all (F : Fun K "_law_kindly" "_law_kindly" sKindly f fd) (bGkd : Binds K fd ["_law_x"] []) (mGkd : mg "_law_kindly" = some (.ref f)) (mi : mg "isinstance" = none) (ms : mg "str" = none) (mt : mg "tuple" = none) (ml : mg "len" = none) : ∀ n : Nat, FnOk P w K mg base CX0 (n + 1) f fd ["_law_x"] (spKindly n)
  | 0 => kindly_none
  | n + 1 => ok_kindly F (kindly_all F bGkd mGkd mi ms mt ml n) bGkd mGkd mi ms mt ml
theorem scClaim : FnScope ["_law_claim"] ["_law_claim"] (defScope sClaim) := ⟨rfl, rfl, rfl, by decide +kernel, rfl, by decide +kernel, by decide +kernel⟩
theorem ok_claim (F : Fun K "_law_is_claim" "_law_is_claim" sClaim f fd) (mi : mg "isinstance" = none) (ms : mg "str" = none) (mt : mg "tuple" = none) (ml : mg "len" = none)
    (Gkd : FnOk P w K mg base CX0 9 a1 d1 ["_law_x"] (spKindly 8)) (bGkd : Binds K d1 ["_law_x"] []) (kGkd : PySem.W.keepIn K (.ref a1) = true) (mGkd : mg "_law_kindly" = some (.ref a1)) :
    FnOk P w K mg base CX0 10 f fd ["_law_claim"] spClaim := by
  refine F.ok scClaim (fun vs H Q E h => ?_) (fun cdv A outer s H vs Q E hr h => ?_)
  · obtain ⟨v, f, rfl, _⟩ := h; rfl
  obtain ⟨v, f, rfl, iff, lo, q⟩ := h
  have hrkd := hr
  refine ⟨_, @pss_cons _ _ _ _ _ (by exact ps_if (PW.pt (pw_or (pt_not (pt_val (pe_callB call_isinst rfl mi PyProof.Rows.boot_isinstance (pa_cons (pv 0) (pa_cons (pe_bltn (v := .ty "tuple") rfl mt PyProof.Rows.boot_tuple rfl) pa_nil))))) (pw_or (pt_cmpR op_lt (pe_callB call_len_seq rfl ml PySem.boot_len (pa_cons (pv 0) pa_nil)) pe_int (nomark _)) (pw_or1 (pt_not (pt_val (pe_call Gkd hrkd rfl mGkd kGkd bGkd .nil pass0 (pa_cons (pe_ix ix_tup (pv 0) pe_int (fun _ _ => rfl)) pa_nil)))))))) (@pss_one _ _ _ (by exact @ps_ret _ _ _ _ pe_bl)) pss_nil)
    (@pss_cons _ _ _ _ _ (by exact ps_if (pt_cmpR op_eq (pe_ix ix_tup (pv 0) pe_int (fun _ _ => rfl)) pe_str (nomark _)) (@pss_one _ _ _ (by exact @ps_ret _ _ _ _ (pe_and (pe_cmpR op_eq (pe_callB call_len_seq rfl ml PySem.boot_len (pa_cons (pv 0) pa_nil)) pe_int (nomark _)) (pe_one (pe_call Gkd hrkd rfl mGkd kGkd bGkd .nil pass0 (pa_cons (pe_ix ix_tup (pv 0) pe_int (fun _ _ => rfl)) pa_nil)))))) pss_nil)
    (@pss_one _ _ _ (by exact @ps_ret _ _ _ _ (pe_and (pe_cmpR op_eq (pe_ix ix_tup (pv 0) pe_int (fun _ _ => rfl)) pe_str (nomark _)) (pe_and (pe_cmpR op_eq (pe_callB call_len_seq rfl ml PySem.boot_len (pa_cons (pv 0) pa_nil)) pe_int (nomark _)) (pe_and (pe_callB call_isinst rfl mi PyProof.Rows.boot_isinstance (pa_cons (pe_ix ix_tup (pv 0) pe_int (fun _ _ => rfl)) (pa_cons (pe_bltn (v := .ty "str") rfl ms PyProof.Rows.boot_str rfl) pa_nil))) (pe_one (pe_call Gkd hrkd rfl mGkd kGkd bGkd .nil pass0 (pa_cons (pe_ix ix_tup (pv 0) pe_int (fun _ _ => rfl)) pa_nil))))))))), ?_⟩
  cases f with
  | is x k =>
    obtain ⟨p, a, b, rfl, hp, ia, ib⟩ := iff
    obtain ⟨l1, l2⟩ := lo
    refine ⟨_, rfl, _, _, _, true, rfl, TyOf.tup hp, kit_tt K, _, rfl, iteF ⟨_, rfl, p, _, rfl, .inr (SqT.of hp), _, _, rfl, rfl, _, rfl, iteF ⟨_, rfl, p, _, _, _, rfl, rfl, SqT.of hp, rfl, a, x, rfl, ia, by omega, _, rfl, iteF ?_⟩⟩⟩
    refine ⟨_, rfl, p, _, _, _, rfl, rfl, SqT.of hp, rfl, rfl, _, rfl, ?_⟩
    rw [is_is]
    exact iteT ⟨_, rfl, p, _, rfl, .inr (SqT.of hp), rfl, _, rfl, iteT ⟨_, rfl, p, _, _, _, rfl, rfl, SqT.of hp, rfl, b, k, rfl, ib, by omega, q⟩⟩
  | has x r y =>
    obtain ⟨p, a, b, rfl, hp, ia, ib⟩ := iff
    obtain ⟨l1, l2⟩ := lo
    refine ⟨_, rfl, _, _, _, true, rfl, TyOf.tup hp, kit_tt K, _, rfl, iteF ⟨_, rfl, p, _, rfl, .inr (SqT.of hp), _, _, rfl, rfl, _, rfl, iteF ⟨_, rfl, p, _, _, _, rfl, rfl, SqT.of hp, rfl, a, x, rfl, ia, by omega, _, rfl, iteF ?_⟩⟩⟩
    refine ⟨_, rfl, p, _, _, _, rfl, rfl, SqT.of hp, rfl, rfl, _, rfl, ?_⟩
    rw [has_is']
    refine iteF ⟨_, rfl, p, _, _, _, rfl, rfl, SqT.of hp, rfl, rfl, _, rfl, ?_⟩
    rw [has_has]
    exact iteT ⟨_, rfl, p, _, rfl, .inr (SqT.of hp), rfl, _, rfl, iteT ⟨_, rfl, p, _, _, _, rfl, rfl, SqT.of hp, rfl, _, _, _, true, rfl, TyOf.str _, kit_str_str K, _, rfl, iteT ⟨_, rfl, p, _, _, _, rfl, rfl, SqT.of hp, rfl, b, y, rfl, ib, by omega, q⟩⟩⟩
theorem scAre : FnScope ["_law_found", "_law_step"] ["_law_found"] (defScope sAre) := ⟨rfl, rfl, rfl, by decide +kernel, rfl, by decide +kernel, by decide +kernel⟩
theorem ok_are (F : Fun K "_law_are_steps" "_law_are_steps" sAre f fd) (mi : mg "isinstance" = none) (ms : mg "str" = none) (mt : mg "tuple" = none) (mls : mg "list" = none) (ml : mg "len" = none) (ma : mg "all" = none)
    (Gcl : FnOk P w K mg base CX0 10 a1 d1 ["_law_claim"] spClaim) (bGcl : Binds K d1 ["_law_claim"] []) (kGcl : PySem.W.keepIn K (.ref a1) = true) (mGcl : mg "_law_is_claim" = some (.ref a1))
    (Gwh : FnOk P w K mg base CX0 1 a2 d2 ["_law_found"] spWholeL) (bGwh : Binds K d2 ["_law_found"] []) (kGwh : PySem.W.keepIn K (.ref a2) = true) (mGwh : mg "_law_whole" = some (.ref a2)) :
    FnOk P w K mg base CX0 11 f fd ["_law_found"] spAre := by
  refine F.ok scAre (fun vs H Q E h => ?_) (fun cdv A outer s H vs Q E hr h => ?_)
  · obtain ⟨l, xs, ss, rfl, _⟩ := h; rfl
  obtain ⟨l, xs, ss, rfl, hl, hst, oks, q⟩ := h
  have hrcl := hr
  have hrwh := hr.mono (show 1 ≤ 10 by decide)
  refine ⟨_, @pss_cons _ _ _ _ _ (by exact ps_if (pt_not (pt_val (pe_callB call_isinst rfl mi PyProof.Rows.boot_isinstance (pa_cons (pv 0) (pa_cons (pe_bltn (v := .ty "list") rfl mls PyProof.Rows.boot_list rfl) pa_nil))))) (@pss_one _ _ _ (by exact @ps_ret _ _ _ _ pe_bl)) pss_nil)
    (@pss_cons _ _ _ _ _ (by exact ps_for PassesOwn.never rfl (pi_list (pv 0)) (pg_name (i := 1) scAre.nd rfl (Or.inl rfl)) (@pss_cons _ _ _ _ _ (by exact ps_if (PW.pt (pw_or (pt_not (pt_val (pe_callB call_isinst rfl mi PyProof.Rows.boot_isinstance (pa_cons (pv 1) (pa_cons (pe_bltn (v := .ty "tuple") rfl mt PyProof.Rows.boot_tuple rfl) pa_nil))))) (pw_or (pt_cmpR op_ne (pe_callB call_len_seq rfl ml PySem.boot_len (pa_cons (pv 1) pa_nil)) pe_int (nomark _)) (pw_or1 (pt_not (pt_val (pe_call Gcl hrcl rfl mGcl kGcl bGcl .nil pass0 (pa_cons (pe_ix ix_tup (pv 1) pe_int (fun _ _ => rfl)) pa_nil)))))))) (@pss_one _ _ _ (by exact @ps_ret _ _ _ _ pe_bl)) pss_nil) (@pss_cons _ _ _ _ _ (by exact ps_if (PW.pt (pw_or (pt_not (pt_val (pe_callB call_isinst rfl mi PyProof.Rows.boot_isinstance (pa_cons (pe_ix ix_tup (pv 1) pe_int (fun _ _ => rfl)) (pa_cons (pe_bltn (v := .ty "str") rfl ms PyProof.Rows.boot_str rfl) pa_nil))))) (pw_or1 (pt_not (pt_val (pe_callB call_isinst rfl mi PyProof.Rows.boot_isinstance (pa_cons (pe_ix ix_tup (pv 1) pe_int (fun _ _ => rfl)) (pa_cons (pe_bltn (v := .ty "list") rfl mls PyProof.Rows.boot_list rfl) pa_nil)))))))) (@pss_one _ _ _ (by exact @ps_ret _ _ _ _ pe_bl)) pss_nil) (@pss_cons _ _ _ _ _ (by exact ps_if (pt_not (pt_truth (pe_callB (call_allB rfl) rfl ma PyProof.Rows.boot_all (pa_cons (pe_comp ["_law_low"] [] [] rfl (pi_list (pe_ix ix_tup (pv 1) pe_int (fun _ _ => rfl))) (fun _ _ _ => pg_name (i := 0) ndlow rfl (Or.inl rfl)) (fun _ _ _ => pts_nil) (fun _ _ _ => (pe_call Gwh hrwh rfl mGwh kGwh bGwh .nil pass0 (pa_cons (pv 0) pa_nil)))) pa_nil)) (fun _ => rfl))) (@pss_one _ _ _ (by exact @ps_ret _ _ _ _ pe_bl)) pss_nil) (@pss_one _ _ _ (by exact ps_if (PW.pt (pw_and (pt_cmpR op_notN (pe_ix ix_tup (pv 1) pe_int (fun _ _ => rfl)) pe_non rfl) (pw_and1 (pt_not (pt_val (pe_call Gwh hrwh rfl mGwh kGwh bGwh .nil pass0 (pa_cons (pe_ix ix_tup (pv 1) pe_int (fun _ _ => rfl)) pa_nil))))))) (@pss_one _ _ _ (by exact @ps_ret _ _ _ _ pe_bl)) pss_nil))))))
    (@pss_one _ _ _ (by exact @ps_ret _ _ _ _ pe_bl))), ?_⟩
  refine ⟨_, rfl, _, _, _, true, rfl, TyOf.lst hl, kit_ll K, _, rfl, iteF ?_⟩
  refine ⟨_, rfl, l, rfl, ⟨_, SqL.of hl⟩, for_list (xs := xs) (fun i σ H' => (∃ o, σ = [some (.ref l), o]) ∧ Same H H') ⟨⟨_, rfl⟩, Same.refl _⟩ ?_ ?_ ?_⟩
  · rintro i σ H' hi ⟨_, sm⟩
    exact SqL.of (sm _ _ hl)
  · rintro i x σ H' hx ⟨⟨o, rfl⟩, sm⟩
    obtain ⟨st, hs, p, pf, vf, rfl, hp, ig, hpf, _⟩ := paired_get (StL.keep (.of sm) hst) hx
    obtain ⟨lo, lf⟩ := oks st (List.mem_of_getElem? hs)
    refine ⟨_, rfl, _, _, _, true, rfl, TyOf.tup hp, kit_tt K, _, rfl, iteF ⟨_, rfl, p, _, rfl, .inr (SqT.of hp), rfl, _, rfl, iteF ⟨_, rfl, p, _, _, _, rfl, rfl, SqT.of hp, rfl, vf, st.f, rfl, ig, lo, _, rfl, iteF ?_⟩⟩⟩
    refine ⟨_, rfl, p, _, _, _, rfl, rfl, SqT.of hp, rfl, _, _, _, true, rfl, TyOf.str _, kit_str_str K, _, rfl, iteF ⟨_, rfl, p, _, _, _, rfl, rfl, SqT.of hp, rfl, _, _, _, true, rfl, TyOf.lst hpf, kit_ll K, _, rfl, iteF ?_⟩⟩
    refine ⟨_, rfl, p, _, _, _, rfl, rfl, SqT.of hp, rfl, pf, rfl, ⟨_, SqL.of hpf⟩, fun D hD => ?_⟩
    have lm : (st.fr.map V.int).length = st.fr.length := List.length_map ..
    refine cmp_by st.fr.length (fun k σ H3 => (∃ o, σ = [o]) ∧ Same H' H3 ∧ H3 D = some (.lst ((List.replicate k true).map V.bl))) ⟨⟨_, rfl⟩, same_new hD _, upd_same⟩ ?_ ?_
    · rintro σ H3 ⟨_, s3, e3⟩
      refine ⟨⟨_, SqL.of (s3 _ _ hpf), by rw [lm]; exact Nat.le_refl _⟩, ?_⟩
      refine ⟨D, _, rfl, SqL.of e3, _, rfl, ?_⟩
      rw [show (List.replicate st.fr.length true).all id = true by simp]
      refine iteF ⟨_, rfl, p, _, _, _, rfl, rfl, SqT.of (s3 _ _ hp), rfl, ?_⟩
      cases en : st.n with
      | none =>
        refine ⟨rfl, _, rfl, ?_⟩
        rw [show (!decide (numV none = V.non)) = false by simp [numV]]
        exact iteF (iteF ⟨⟨_, rfl⟩, sm.trans s3⟩)
      | some n =>
        refine ⟨rfl, _, rfl, ?_⟩
        rw [show (!decide (numV (some n) = V.non)) = true by simp [numV]]
        exact iteT ⟨_, rfl, p, _, _, _, rfl, rfl, SqT.of (s3 _ _ hp), rfl, n, by rw [en]; rfl, _, rfl, iteF ⟨⟨_, rfl⟩, sm.trans s3⟩⟩
    · rintro k σ H3 hk ⟨⟨o, rfl⟩, s3, e3⟩
      have hpf3 := s3 _ _ hpf
      refine ⟨⟨_, _, SqL.of hpf3, List.getElem?_eq_getElem (by rw [lm]; exact hk)⟩, ?_⟩
      rintro x H4 ⟨rfl, hx1⟩
      have hx2 := hx1 _ (SqL.of hpf3)
      rw [List.getElem?_map] at hx2
      obtain ⟨y, hy, rfl⟩ := Option.map_eq_some_iff.mp hx2
      refine ⟨_, rfl, y, rfl, _, e3, small1000 (by rw [List.length_map, List.length_replicate]; omega), ⟨_, rfl⟩, same_upd s3 hD, ?_⟩
      rw [upd_same, List.replicate_succ', List.map_append]
      rfl
  · rintro σ H' ⟨⟨o, rfl⟩, sm⟩
    exact q H' sm
end
end K23
namespace K23
open PySem L2
theorem pe_bmK {X : Cx} {K' : PySem.W.Frag} {T id : String} {name : Str} {r : V → List V → Hp → VK → Prop} {o e : Expr} {es : List Expr} {to : TE} {t : TA} {apos cpos : Pos} (hK : X.K = K') (pa : PlainAttrs T) (slot : Slot T name id) (hty : typeOf (.builtin id) = pure (.type "method_descriptor")) (hm : MtR X id r) (ho : PE X o to) (ha : PA X (e :: es) t)
    (hbase : attributeBase o name X.env (eval o X.env) = eval o X.env := by rfl)
    (hfew : ((backTo cpos (starEach (e :: es) X.env)).all (fun x => !x.1) && (backToKw cpos (keywordEach [] X.env)).all (fun x => x.1.isSome) && decide ((e :: es).length + ([] : List Keyword).length + (if ([] : List Keyword).isEmpty then 0 else 1) < 30)) = true := by rfl)
    (hline : (apos.endLine == cpos.line) = true := by rfl) (hs : starEach (e :: es) X.env = (false, eval e X.env) :: starEach es X.env := by rfl) (hplain : (backTo cpos (starEach es X.env)).any (·.1) = false := by rfl) :
    PE X (.Call (.Attribute o name apos) (e :: es) [] cpos) (tBM K' T r to t) := by
  subst hK; exact pe_bm pa slot hty hm ho ha hbase hfew hline hs hplain
theorem ndlp : ((([("_law_low" : Str)] : List Str) ++ [("_law_places" : Str)]) : List Str).Nodup := by decide +kernel
theorem flat_ints : ∀ l : List Int, (l.map V.int).all flatV = true
  | [] => rfl
  | _ :: l => flat_ints l
theorem in_ints (y : Int) : ∀ l : List Int, inV (.int y) (l.map V.int) = decide (y ∈ l)
  | [] => rfl
  | n :: l => by
    have ih := in_ints y l
    unfold inV at ih ⊢
    rw [List.map_cons, List.any_cons, ih]
    by_cases c : n = y
    · rw [decide_eq_true (show y ∈ n :: l by rw [c]; exact List.mem_cons_self)]
      simp [c, eqV]
    · have e : decide (y ∈ n :: l) = decide (y ∈ l) := by
        congr 1
        rw [List.mem_cons]
        exact propext ⟨fun h => h.elim (fun z => absurd z.symm c) id, .inr⟩
      rw [e]
      simp [c, eqV]
theorem xas_ints {H : Hp} : ∀ ns : List Int, Xas H (ns.map Tx.int) (ns.map V.int)
  | [] => rfl
  | n :: ns => ⟨_, _, rfl, rfl, xas_ints ns⟩
def FaL (H : Hp) : List V → List Stp → Prop := Paired fun v s => IsF H s.f v
theorem FaL.xas {H : Hp} : ∀ {xs : List V} {ss : List Stp}, FaL H xs ss → Xas H (ss.map fun s => s.f.tx) xs
  | _, _, .nil => rfl
  | _, _, .cons r t => ⟨_, _, rfl, r.xa, FaL.xas t⟩
structure Wl (ss : List Stp) (a k : Nat) (ps : List Int) : Prop where
  nd : ps.Nodup
  ha : (a : Int) ∈ ps
  rc : ∀ y ∈ ps, ∃ b : Nat, Rch ss a b ∧ y = (b : Int)
  cl : ∀ (j b : Nat) (s : Stp), j < k → ps[j]? = some (b : Int) → ss[b]? = some s → ∀ y ∈ s.fr, y ∈ ps
theorem Wl.len {ss : List Stp} {a k : Nat} {ps : List Int} (o : okS ss) (ha : a < ss.length) (h : Wl ss a k ps) : ps.length ≤ ss.length := nat_nodup _ h.nd fun y hy => by
  obtain ⟨b, hb, rfl⟩ := h.rc y hy
  have := hb.le o
  omega
def muK (n : Nat) (σ : List (Option V)) : Nat := match σ[3]? with
  | some (some (V.int k)) => n - k.toNat
  | _ => 0
def spDue : Sp := fun vs H Q _ => ∃ (ls : Addr) (vf : V) (xs : List V) (ss : List Stp) (f : Fa) (a : Nat) (s : Stp), vs = [.ref ls, vf] ∧ H ls = some (.lst xs) ∧ StL [] H xs ss ∧ okS ss ∧ ss.length ≤ 60 ∧ (∀ s ∈ ss, s.f.tx.dp ≤ 60) ∧ IsF H f vf ∧ ss[a]? = some s ∧ s.f = f ∧ (∀ (j : Nat) (t : Stp), j < a → ss[j]? = some t → t.f ≠ f) ∧
  ∀ (l : Addr) (H' : Hp) (tv : List V) (ns : List Int), Same H H' → H' l = some (.lst tv) → StL [] H' tv (paperOf ss ns) → IsNeed ss a ns → Q (.ref l) H'
section
variable {P : Program} {w : World} {K : PySem.W.Frag} {mg : Str → Option Value} {base : Heap} {f g e a1 a2 a3 a4 a5 a6 a7 a8 C : Addr} {fd gd' ed d1 d2 d3 d4 d5 d6 d7 d8 : FuncData}
theorem scNeed : FnScope ["_law_steps", "_law_at", "_law_places", "_law_k", "_law_low"] ["_law_steps", "_law_at"] (defScope sNeed) := ⟨rfl, rfl, rfl, by decide +kernel, rfl, by decide +kernel, by decide +kernel⟩
theorem ok_need (F : Fun K "_law_needed" "_law_needed" sNeed f fd) (ml : mg "len" = none) (mso : mg "sorted" = none) : FnOk P w K mg base CX0 1 f fd ["_law_steps", "_law_at"] spNeeded := by
  refine F.ok scNeed (fun vs H Q E h => ?_) (fun cdv A outer s H vs Q E hr h => ?_)
  · obtain ⟨ls, a, xs, ss, rfl, _⟩ := h; rfl
  obtain ⟨ls, a, xs, ss, rfl, hls, hst, ok, ha, l60, q⟩ := h
  refine ⟨_, @pss_cons _ _ _ _ _ (by exact ps_set (i := 2) scNeed.nd rfl (Or.inl rfl) (pe_lst (pa_cons (pv 1) pa_nil)))
    (@pss_cons _ _ _ _ _ (by exact ps_set (i := 3) scNeed.nd rfl (Or.inl rfl) pe_int)
    (@pss_cons _ _ _ _ _ (by exact ps_while PassesOwn.never (pt_cmpR op_lt (pv 3) (pe_callB call_len_seq rfl ml PySem.boot_len (pa_cons (pv 2) pa_nil)) (nomark _)) (@pss_cons _ _ _ _ _ (by exact ps_for PassesOwn.never rfl (pi_list (pe_ix ix_tup (pe_ix ix_list (pv 0) (pe_ix ix_list (pv 2) (pv 3) (fun _ _ => rfl)) (fun _ _ => rfl)) pe_int (fun _ _ => rfl))) (pg_name (i := 4) scNeed.nd rfl (Or.inl rfl)) (@pss_one _ _ _ (by exact ps_if (pt_cmpR op_notIn_seq (pv 4) (pv 2) rfl) (@pss_one _ _ _ (by exact ps_expr (pe_bm PySem.F.plainAttrs_list PySem.F.slot_list_append PySem.F.type_list_append mt_append (pv 2) (pa_cons (pv 4) pa_nil)))) pss_nil))) (@pss_one _ _ _ (by exact ps_aug (i := 3) scNeed.nd rfl (Or.inl rfl) pe_int ip_add))))
    (@pss_one _ _ _ (by exact @ps_ret _ _ _ _ (pe_callB call_sortedI rfl mso PyProof.Rows.boot_sorted (pa_cons (pv 2) pa_nil)))))), ?_⟩
  refine ⟨_, rfl, small2 (by show 1 ≤ 1000; decide), fun lp hlp => ?_⟩
  dsimp only [gName]
  show tSeq _ _ _ _ _
  show tWhile _ _ { nx := _, rt := _, bk := _, ct := _ } _ _
  refine while_by (fun σ H' => ∃ (ps : List Int) (k : Nat) (o4 : Option V), σ = [some (.ref ls), some (.int (a : Int)), some (.ref lp), some (.int (k : Int)), o4] ∧ Same H H' ∧ H' lp = some (.lst (ps.map V.int)) ∧ k ≤ ps.length ∧ Wl ss a k ps) (fun σ _ => muK ss.length σ)
    ⟨[(a : Int)], 0, none, rfl, same_new hlp _, upd_same, Nat.zero_le _, by simp, by simp, fun y hy => ⟨a, .refl, List.mem_singleton.mp hy⟩, fun j b s hj => absurd hj (Nat.not_lt_zero _)⟩ ?_ (fun _ _ _ _ m h => ?_)
  · rintro σ H' ⟨ps, k, o4, rfl, sm, eP, kl, wl⟩
    have l1 := wl.len ok ha
    refine ⟨_, rfl, _, rfl, lp, _, rfl, .inl (SqL.of eP), _, _, rfl, rfl, _, rfl, ite2 (fun c => ?_) (fun c => ?_)⟩
    · have c' : (k : Int) < ((ps.map V.int).length : Int) := of_decide_eq_true c
      rw [List.length_map] at c'
      have hk : k < ps.length := by omega
      obtain ⟨z, hz⟩ : ∃ z, ps[k]? = some z := ⟨_, List.getElem?_eq_getElem hk⟩
      obtain ⟨b, hb, rfl⟩ := wl.rc z (List.mem_of_getElem? hz)
      have bl : b < ss.length := by have := hb.le ok; omega
      obtain ⟨st, hs⟩ : ∃ s, ss[b]? = some s := ⟨_, List.getElem?_eq_getElem bl⟩
      obtain ⟨v, ev, p, pf, vf, rfl, hp, _, hpf, _⟩ := paired_get2 hst hs
      have oks := ok _ _ hs
      have ek : atI (ps.map V.int) (k : Int) = some (.int (b : Int)) := atI_nat (by rw [List.getElem?_map, hz]; rfl)
      refine ⟨_, rfl, _, rfl, _, rfl, lp, _, _, _, rfl, rfl, SqL.of eP, ek, ls, _, _, _, rfl, rfl, SqL.of (sm _ _ hls), atI_nat ev, p, _, _, _, rfl, rfl, SqT.of (sm _ _ hp), rfl, pf, rfl, ⟨_, SqL.of (sm _ _ hpf)⟩, for_list (xs := st.fr.map V.int) (fun i σ H3 => ∃ (qs : List Int) (o4 : Option V), σ = [some (.ref ls), some (.int (a : Int)), some (.ref lp), some (.int (k : Int)), o4] ∧ Same H H3 ∧ H3 lp = some (.lst (qs.map V.int)) ∧ Wl ss a k qs ∧ k < qs.length ∧ qs[k]? = some (b : Int) ∧ ∀ j y, j < i → st.fr[j]? = some y → y ∈ qs) ⟨ps, _, rfl, sm, eP, wl, hk, hz, fun j y hj => absurd hj (Nat.not_lt_zero _)⟩ ?_ ?_ ?_⟩
      · rintro i σ H3 hi ⟨qs, o4, rfl, sm3, _⟩
        exact SqL.of (sm3 _ _ hpf)
      · rintro i x σ H3 hx ⟨qs, o4, rfl, sm3, e3, w3, k3, z3, f3⟩
        rw [List.getElem?_map] at hx
        obtain ⟨y, hy, rfl⟩ := Option.map_eq_some_iff.mp hx
        have hym := List.mem_of_getElem? hy
        have yb := oks.2 _ hym
        have l3 := w3.len ok ha
        refine ⟨_, rfl, _, rfl, lp, _, rfl, .inl (SqL.of e3), rfl, flat_ints qs, _, rfl, ?_⟩
        rw [if_pos rfl, in_ints]
        have step : ∀ {q4 : List Int}, (∀ u ∈ qs, u ∈ q4) → y ∈ q4 → ∀ (j : Nat) (u : Int), j < i + 1 → st.fr[j]? = some u → u ∈ q4 := fun {q4} h1 h2 j u hj hu => by
          rcases Nat.lt_succ_iff_lt_or_eq.mp hj with hj | hj
          · exact h1 u (f3 j u hj hu)
          · subst hj
            rw [hy] at hu
            cases hu
            exact h2
        by_cases c : y ∈ qs
        · rw [decide_eq_true c]
          exact iteF ⟨qs, _, rfl, sm3, e3, w3, k3, z3, step (fun u h => h) c⟩
        · rw [decide_eq_false c]
          refine iteT ⟨_, rfl, .inl ⟨rfl, _, SqL.of e3⟩, _, rfl, lp, _, _, rfl, rfl, e3, small1000 (by rw [List.length_map]; omega), ?_⟩
          have get : ∀ {j : Nat} {z : Int}, qs[j]? = some z → (qs ++ [y])[j]? = some z := fun {j z} h => by rw [List.getElem?_append_left (List.getElem?_eq_some_iff.mp h).1]; exact h
          refine ⟨qs ++ [y], _, rfl, same_upd sm3 hlp, by rw [upd_same, List.map_append]; rfl, ⟨nd_snoc w3.nd c, List.mem_append_left _ w3.ha, fun u hu => ?_, fun j b' s' h1 h2 h3 u hu => ?_⟩, by rw [List.length_append]; omega, get z3, step (fun u h => List.mem_append_left _ h) (by simp)⟩
          · rcases List.mem_append.mp hu with hu | hu
            · exact w3.rc u hu
            · rw [List.mem_singleton.mp hu]
              exact ⟨y.toNat, hb.step hs hym, (Int.toNat_of_nonneg yb.1).symm⟩
          · have hj : j < qs.length := by omega
            rw [List.getElem?_append_left hj] at h2
            exact List.mem_append_left _ (w3.cl j b' s' h1 h2 h3 u hu)
      · rintro σ H3 ⟨qs, o4, rfl, sm3, e3, w3, k3, z3, f3⟩
        refine ⟨_, rfl, _, _, rfl, rfl, ⟨qs, k + 1, _, rfl, sm3, e3, k3, w3.nd, w3.ha, w3.rc, fun j b' s' h1 h2 h3 u hu => ?_⟩, ?_⟩
        · rcases Nat.lt_succ_iff_lt_or_eq.mp h1 with h1 | h1
          · exact w3.cl j b' s' h1 h2 h3 u hu
          · subst h1
            rw [z3] at h2
            have : b = b' := by have := Option.some.inj h2; omega
            subst this
            rw [hs] at h3
            cases h3
            obtain ⟨m, hm, em⟩ := List.mem_iff_getElem.mp hu
            exact f3 m u (by rw [List.length_map]; exact hm) (by rw [List.getElem?_eq_getElem hm, em])
        · show ss.length - ((k : Int) + 1).toNat < ss.length - (k : Int).toNat
          omega
    · have c' : ¬ (k : Int) < ((ps.map V.int).length : Int) := fun z => c (decide_eq_true z)
      rw [List.length_map] at c'
      refine ⟨_, rfl, lp, ps, rfl, eP, by omega, fun p ns hp pe so => ?_⟩
      refine q p _ ns (same_upd sm (none_of_same sm hp)) (none_of_same sm hp) upd_same (need_of pe so wl.nd wl.ha wl.rc fun b st hb hs y hy => ⟨((ok _ _ hs).2 _ hy).1, ?_⟩)
      obtain ⟨j, hj, ej⟩ := List.mem_iff_getElem.mp hb
      exact wl.cl j b st (by omega) (by rw [List.getElem?_eq_getElem hj, ej]) hs y hy
  · obtain ⟨v, e, v2, e2, p, xs', e3, h3, i, j, e4, e5, b, e6, h⟩ := h
    exact ⟨v, e, v2, e2, p, xs', e3, h3, i, j, e4, e5, b, e6, m _ _ h⟩
theorem scDue : FnScope ["_law_steps", "_law_claim", "_law_at", "_law_places", "_law_made", "_law_spot", "_law_froms"] ["_law_steps", "_law_claim"] (defScope sDue) := ⟨rfl, rfl, rfl, by decide +kernel, rfl, by decide +kernel, by decide +kernel⟩
theorem ok_due (F : Fun K "_law_due" "_law_due" sDue f fd)
    (Gnd : FnOk P w K mg base CX0 1 a1 d1 ["_law_steps", "_law_at"] spNeeded) (bGnd : Binds K d1 ["_law_steps", "_law_at"] []) (kGnd : PySem.W.keepIn K (.ref a1) = true) (mGnd : mg "_law_needed" = some (.ref a1)) :
    FnOk P w K mg base CX0 2 f fd ["_law_steps", "_law_claim"] spDue := by
  refine F.ok scDue (fun vs H Q E h => ?_) (fun cdv A outer s H vs Q E hr h => ?_)
  · obtain ⟨ls, vf, xs, ss, f, a, s, rfl, _⟩ := h; rfl
  obtain ⟨ls, vf, xs, ss, f, a, s, rfl, hls, hst, ok, l60, dp, iff, hs, hf, no, q⟩ := h
  have hrnd := hr
  refine ⟨_, @pss_cons _ _ _ _ _ (by exact ps_set (i := 2) scDue.nd rfl (Or.inl rfl) (pe_bm PySem.F.plainAttrs_list PySem.F.slot_list_index PySem.F.type_list_index (mt_indexX hr.units) (pe_comp ["_law_step"] [] [] rfl (pi_list (pv 0)) (fun _ _ _ => pg_name (i := 0) ndst rfl (Or.inl rfl)) (fun _ _ _ => pts_nil) (fun _ _ _ => (pe_ix (r := rIxT K) ix_tup (pv 0) pe_int (fun _ _ => rfl)))) (pa_cons (pv 1) pa_nil)))
    (@pss_cons _ _ _ _ _ (by exact ps_set (i := 3) scDue.nd rfl (Or.inr rfl) (pe_call Gnd hrnd rfl mGnd kGnd bGnd .nil pass0 (pa_cons (pv 0) (pa_cons (pv 2) pa_nil))))
    (@pss_cons _ _ _ _ _ (by exact ps_set (i := 4) scDue.nd rfl (Or.inl rfl) (pe_lst pa_nil))
    (@pss_cons _ _ _ _ _ (by exact ps_for PassesOwn.never rfl (pi_list (pv 3)) (pg_name (i := 5) scDue.nd rfl (Or.inl rfl)) (@pss_cons _ _ _ _ _ (by exact ps_setC (i := 6) ["_law_low"] ["_law_places"] [3] scDue.nd rfl rfl (pi_list (pe_ix ix_tup (pe_ix ix_list (pv 0) (pv 5) (fun _ _ => rfl)) pe_int (fun _ _ => rfl))) (fun _ _ _ => pg_name (i := 0) ndlp rfl (Or.inl rfl)) (fun _ _ _ => pts_nil) (fun _ _ _ => (pe_bmK (K' := K) rfl PySem.F.plainAttrs_list PySem.F.slot_list_index PySem.F.type_list_index (mt_indexX hr.units) (pv 1) (pa_cons (pv 0) pa_nil)))) (@pss_one _ _ _ (by exact ps_expr (pe_bm PySem.F.plainAttrs_list PySem.F.slot_list_append PySem.F.type_list_append mt_append (pv 4) (@pa_consN _ _ _ _ _ (@pe_tup _ _ _ _ _ (pa_cons (pe_ix ix_tup (pe_ix ix_list (pv 0) (pv 5) (fun _ _ => rfl)) pe_int (fun _ _ => rfl)) (pa_cons (pe_ix ix_tup (pe_ix ix_list (pv 0) (pv 5) (fun _ _ => rfl)) pe_int (fun _ _ => rfl)) (pa_cons (pv 6) (pa_cons (pe_ix ix_tup (pe_ix ix_list (pv 0) (pv 5) (fun _ _ => rfl)) pe_int (fun _ _ => rfl)) pa_nil))))) pa_nil rfl))))))
    (@pss_one _ _ _ (by exact @ps_ret _ _ _ _ (pv 4)))))), ?_⟩
  have ha : a < ss.length := (List.getElem?_eq_some_iff.mp hs).1
  have lx := StL.len hst
  refine ⟨_, rfl, ls, rfl, ⟨_, SqL.of hls⟩, fun D hD => ?_⟩
  refine cmp_by xs.length (fun i σ H3 => (∃ o, σ = [o]) ∧ Same H H3 ∧ ∃ ys, H3 D = some (.lst ys) ∧ FaL H3 ys (ss.take i)) ⟨⟨_, rfl⟩, same_new hD _, [], upd_same, .nil⟩ ?_ ?_
  rotate_left
  · rintro i σ H3 hi ⟨⟨o, rfl⟩, s3, ys, e3, x3⟩
    have hls3 := s3 _ _ hls
    refine ⟨⟨_, _, SqL.of hls3, List.getElem?_eq_getElem hi⟩, ?_⟩
    rintro x H4 ⟨rfl, hx1⟩
    have hx2 := hx1 _ (SqL.of hls3)
    obtain ⟨t, ht, p, pf, vg, rfl, hp, ig, hpf, _⟩ := paired_get (StL.keep (.of s3) hst) hx2
    have ly := Paired.length x3
    rw [List.length_take] at ly
    refine ⟨_, rfl, p, _, _, _, rfl, rfl, SqT.of hp, rfl, _, e3, small1000 (by omega), ⟨_, rfl⟩, same_upd s3 hD, _, upd_same, ?_⟩
    rw [List.take_succ, ht]
    have tt : Tups H4 (upd H4 D (.lst (ys ++ [vg]))) := tups_lst e3
    exact paired_app (Paired.imp' (fun _ _ q => q.mono tt) x3) (.cons (ig.mono tt) .nil)
  rintro σ H3 ⟨_, s3, ys, e3, x3⟩
  have hls3 := s3 _ _ hls
  rw [lx, List.take_length] at x3
  refine ⟨⟨_, SqL.of hls3, Nat.le_refl _⟩, ?_⟩
  have gf : ∀ (j : Nat), ((ss.map fun s => s.f.tx)[j]?) = (ss[j]?).map fun s => s.f.tx := fun j => List.getElem?_map ..
  refine ⟨.inl ⟨rfl, _, SqL.of e3⟩, _, rfl, D, ys, vf, _, f.tx, a, rfl, rfl, e3, x3.xas, (iff.mono s3.tups).xa, fun d hd => ?_, by rw [List.length_map]; omega, by rw [gf, hs]; exact congrArg (fun g => some (Fa.tx g)) hf, fun m hm e => ?_, ?_⟩
  · obtain ⟨t, ht, rfl⟩ := List.mem_map.mp hd
    exact dp t ht
  · rw [gf] at e
    obtain ⟨t, ht, e'⟩ := Option.map_eq_some_iff.mp e
    exact no m t hm ht (Fa.tx_inj e')
  have hst3 := StL.keep (.of s3) hst
  refine ⟨_, rfl, _, rfl, ls, a, xs, ss, rfl, hls3, hst3, ok, ha, l60, fun ln H4 ns s4 hln eln need => ?_⟩
  have s04 := s3.trans s4
  have nl : ns.length ≤ 60 := by
    have := nat_nodup ss.length (strict_nodup need.1) fun z hz => by have := need_lt ok ha need hz; omega
    omega
  have lm : (ns.map V.int).length = ns.length := List.length_map ..
  refine ⟨Nat.zero_le _, fun lt hlt => ?_⟩
  have s5 := same_new hlt (.lst [])
  refine ⟨_, rfl, ln, rfl, ⟨_, SqL.of (s5 _ _ eln)⟩, for_list (xs := ns.map V.int) (fun i σ H5 => ∃ (tv : List V) (o5 o6 : Option V), σ = [some (.ref ls), some vf, some (.int (a : Int)), some (.ref ln), some (.ref lt), o5, o6] ∧ Same H4 H5 ∧ H5 lt = some (.lst tv) ∧ StN (upd H4 lt (.lst [])) H5 tv ((ns.take i).map (paperS ss ns))) ⟨[], _, _, rfl, s5, upd_same, .nil⟩ ?_ ?_ ?_⟩
  · rintro i σ H5 hi ⟨tv, o5, o6, rfl, s6, _⟩
    exact SqL.of (s6 _ _ eln)
  · rintro i x σ H5 hx ⟨tv, o5, o6, rfl, s6, et, stn⟩
    rw [List.getElem?_map] at hx
    obtain ⟨z, hz, rfl⟩ := Option.map_eq_some_iff.mp hx
    have hi : i < ns.length := (List.getElem?_eq_some_iff.mp hz).1
    have zm := List.mem_of_getElem? hz
    obtain ⟨z0, zl, za⟩ := need_lt ok ha need zm
    have s06 := s04.trans s6
    obtain ⟨t, ht⟩ : ∃ t, ss[z.toNat]? = some t := ⟨_, List.getElem?_eq_getElem zl⟩
    obtain ⟨v, ev, p, pf, vg, rfl, hp, ig, hpf, _⟩ := paired_get2 hst ht
    have ez : atI xs z = some (.ref p) := by have := atI_nat ev; rw [Int.toNat_of_nonneg z0] at this; exact this
    have et' : stAt ss z = t := by unfold stAt; rw [ht]; rfl
    have hls5 := s06 _ _ hls
    have hp5 := s06 _ _ hp
    have hpf5 := s06 _ _ hpf
    have eln5 := s6 _ _ eln
    refine ⟨_, rfl, _, rfl, ls, _, _, _, rfl, rfl, SqL.of hls5, ez, p, _, _, _, rfl, rfl, SqT.of hp5, rfl, pf, rfl, ⟨_, SqL.of hpf5⟩, fun C2 hC2 => ?_⟩
    have lf : (t.fr.map V.int).length = t.fr.length := List.length_map ..
    have f2 := (ok _ _ ht).1
    refine cmp_by t.fr.length (fun k σ H7 => (∃ o, σ = [o, some (.ref ln)]) ∧ Same H5 H7 ∧ H7 C2 = some (.lst (((t.fr.take k).map fun o => ((ns.idxOf o : Nat) : Int)).map V.int))) ⟨⟨_, rfl⟩, same_new hC2 _, upd_same⟩ ?_ ?_
    · rintro σ H7 ⟨_, s7, e7⟩
      refine ⟨⟨_, SqL.of (s7 _ _ hpf5), by rw [lf]; exact Nat.le_refl _⟩, ?_⟩
      rw [List.take_length] at e7
      have hls7 := s7 _ _ hls5
      have hp7 := s7 _ _ hp5
      have et7 := s7 _ _ et
      refine ⟨_, rfl, .inl ⟨rfl, _, SqL.of et7⟩, _, rfl, _, rfl, ls, _, _, _, rfl, rfl, SqL.of hls7, ez, p, _, _, _, rfl, rfl, SqT.of hp7, rfl, _, rfl, _, rfl, ls, _, _, _, rfl, rfl, SqL.of hls7, ez, p, _, _, _, rfl, rfl, SqT.of hp7, rfl, _, rfl, _, rfl, _, rfl, ls, _, _, _, rfl, rfl, SqL.of hls7, ez, p, _, _, _, rfl, rfl, SqT.of hp7, rfl, small2 (by show 4 ≤ 1000; decide), fun T hT => ?_⟩
      have s8 := same_new hT (.tup [vg, .str t.r, .ref C2, numV t.n])
      have lt8 := s8 _ _ et7
      have ltv : tv.length = i := by rw [Paired.length stn, List.length_map, List.length_take]; omega
      have nCl : C2 ≠ lt := fun e => by rw [e, et] at hC2; cases hC2
      have hC20 : upd H4 lt (.lst []) C2 = none := by rw [upd_ne nCl]; exact none_of_same s6 hC2
      refine ⟨lt, _, _, rfl, rfl, lt8, small1000 (by omega), tv ++ [.ref T], _, _, rfl, same_upd ((s6.trans s7).trans s8) hlt, upd_same, ?_⟩
      rw [List.take_succ, hz, List.map_append]
      have kk : ∀ {b : Addr} {o : HO}, b ≠ lt → upd H7 T (.tup [vg, .str t.r, .ref C2, numV t.n]) b = some o → upd (upd H7 T (.tup [vg, .str t.r, .ref C2, numV t.n])) lt (.lst (tv ++ [.ref T])) b = some o := fun hb e => by rw [upd_ne hb]; exact e
      refine paired_app ?_ (.cons ?_ .nil)
      · refine Paired.imp' (fun v s' hh => ?_) (StN.same (s7.trans s8) stn)
        obtain ⟨p', pf', vf', e', h1, h2, h3, h4⟩ := hh
        have np : p' ≠ lt := fun e => by rw [e, lt8] at h1; cases h1
        have npf : pf' ≠ lt := fun e => by rw [e, upd_same] at h4; cases h4
        exact ⟨p', pf', vf', e', kk np h1, h2.mono (tups_lst lt8), kk npf h3, h4⟩
      · have nTl : T ≠ lt := fun e => by rw [e, et7] at hT; cases hT
        refine ⟨T, C2, vg, rfl, ?_, ?_, ?_, hC20⟩
        · have e6 := kk nTl (upd_same (H := H7) (a := T) (o := .tup [vg, .str t.r, .ref C2, numV t.n]))
          rw [e6]
          unfold paperS
          rw [et']
        · unfold paperS
          rw [et']
          exact (ig.mono (s06.trans (s7.trans s8)).tups).mono (tups_lst lt8)
        · have e6 := kk nCl (s8 _ _ e7)
          rw [e6]
          unfold paperS
          rw [et']
    · rintro k σ H7 hk ⟨⟨o, rfl⟩, s7, e7⟩
      have hpf7 := s7 _ _ hpf5
      refine ⟨⟨_, _, SqL.of hpf7, List.getElem?_eq_getElem (by rw [lf]; exact hk)⟩, ?_⟩
      rintro x H8 ⟨rfl, hx1⟩
      have hx2 := hx1 _ (SqL.of hpf7)
      rw [List.getElem?_map] at hx2
      obtain ⟨y, hy, rfl⟩ := Option.map_eq_some_iff.mp hx2
      have ym := need_in ok need zm ht (List.mem_of_getElem? hy)
      have eln7 := s7 _ _ eln5
      have gi : ∀ (j : Nat), ((ns.map Tx.int)[j]?) = (ns[j]?).map Tx.int := fun j => List.getElem?_map ..
      refine ⟨_, rfl, .inl ⟨rfl, _, SqL.of eln7⟩, _, rfl, ln, _, _, ns.map Tx.int, .int y, ns.idxOf y, rfl, rfl, eln7, xas_ints ns, rfl, fun d hd => ?_, by rw [List.length_map]; omega, by rw [gi, at_idx ym]; rfl, fun m hm e => ?_, ?_⟩
      · obtain ⟨n, _, rfl⟩ := List.mem_map.mp hd
        exact Nat.zero_le _
      · rw [gi] at e
        obtain ⟨n, hn, e'⟩ := Option.map_eq_some_iff.mp e
        have := strict_get need.1 hn (at_idx ym) hm
        have : n = y := by injection e'
        omega
      refine ⟨_, e7, small1000 (by rw [List.length_map, List.length_map, List.length_take]; omega), ⟨_, rfl⟩, same_upd s7 hC2, ?_⟩
      rw [upd_same, List.take_succ, hy, List.map_append, List.map_append]
      rfl
  · rintro σ H5 ⟨tv, o5, o6, rfl, s6, et, stn⟩
    rw [lm, List.take_length] at stn
    exact ⟨_, rfl, q lt H5 tv ns (s04.trans s6) et stn.st need⟩
end
end K23
namespace K23
open PySem L2
def spRefused : Sp := fun vs H Q _ => ∃ (ls : Addr) (vf : V) (xs : List V) (ss : List Stp) (f : Fa), vs = [.ref ls, vf] ∧ H ls = some (.lst xs) ∧ StL [] H xs ss ∧ okS ss ∧ ss.length ≤ 60 ∧ (∀ s ∈ ss, s.f.tx.dp ≤ 60) ∧ IsF H f vf ∧ f.tx.dp ≤ 60 ∧ (∀ s ∈ ss, s.f ≠ f) ∧ ∀ H', Same H H' → Q (.bl true) H'
section
variable {P : Program} {w : World} {K : PySem.W.Frag} {mg : Str → Option Value} {base : Heap} {f g e a1 a2 a3 a4 a5 a6 a7 a8 C Ck c1 c2 c3 c4 c5 : Addr} {fd gd' ed d1 d2 d3 d4 d5 d6 d7 d8 : FuncData}
theorem scRefused : FnScope ["_law_steps", "_law_claim", "e"] ["_law_steps", "_law_claim"] (defScope sRefused) := ⟨rfl, rfl, rfl, by decide +kernel, rfl, by decide +kernel, by decide +kernel⟩
theorem ok_refused (F : Fun K "_law_refused" "_law_refused" sRefused f fd) (mi : mg "isinstance" = none) (mve : mg "ValueError" = none) (xc : XCl K C) (na : NoAttr K C "fact") (mNF : mg "NoFact" = some (.ref C)) (mKE : mg "KinError" = some (.ref Ck)) (m1 : mg "NoText" = some (.ref c1)) (m2 : mg "NoQuestion" = some (.ref c2)) (m3 : mg "NoSaying" = some (.ref c3)) (m4 : mg "TooMany" = some (.ref c4)) (m5 : mg "NoRow" = some (.ref c5))
    (k1 : PySem.W.kitOne K (.ref C) (.type "ValueError") = some true) (k2 : PySem.W.kitOne K (.ref C) (.ref C) = some true) (k3 : PySem.W.kitAny K (.ref C) [.ref c1, .ref c2, .ref c3, .ref c4, .ref c5] = some false) (xm : PySem.W.exmOne K (.ref C) (.ref Ck) = some true)
    (Gpp : FnOk P w K mg base (CXK P w) 4 a1 d1 ["steps", "fact"] (spPaper C)) (bGpp : Binds K d1 ["steps", "fact"] []) (kGpp : PySem.W.keepIn K (.ref a1) = true) (mGpp : mg "paper" = some (.ref a1)) :
    FnOk P w K mg base CX0 5 f fd ["_law_steps", "_law_claim"] spRefused := by
  refine F.ok scRefused (fun vs H Q E h => ?_) (fun cdv A outer s H vs Q E hr h => ?_)
  · obtain ⟨ls, vf, xs, ss, f, rfl, _⟩ := h; rfl
  obtain ⟨ls, vf, xs, ss, f, rfl, hls, hst, ok, l60, dp, iff, dpf, no, q⟩ := h
  have hrpp := hr
  refine ⟨_, @pss_cons _ _ _ _ _ (by exact ps_tryX Gpp hrpp rfl mGpp kGpp bGpp (pa_cons (pv 0) (pa_cons (pv 1) pa_nil)) rfl mKE scRefused.nd (i := 2) rfl rfl (fun _ => by exact (@pss_cons _ _ _ _ _ (by exact ps_if (PW.pt (pw_or (pt_not (pt_val (pe_callB (call_isXk (K' := K) rfl) rfl mi PyProof.Rows.boot_isinstance (pa_cons (pv 2) (pa_cons (pe_bltn (v := .ty "ValueError") rfl mve PyProof.Rows.Boot.«ValueError» rfl) pa_nil))))) (pw_or (pt_not (pt_val (pe_callB (call_isXk (K' := K) rfl) rfl mi PyProof.Rows.boot_isinstance (pa_cons (pv 2) (pa_cons (pe_glob (v := .ref C) rfl mNF rfl) pa_nil))))) (pw_or1 (pt_cmpR (op_neX hr.units) (pe_xfldk (K' := K) rfl (pv 2) rfl) (pv 1) (nomark _)))))) (@pss_one _ _ _ (by exact @ps_ret _ _ _ _ pe_bl)) pss_nil) (@pss_one _ _ _ (by exact @ps_ret _ _ _ _ (pe_not (pe_callB (call_isXTk (K' := K) rfl) rfl mi PyProof.Rows.boot_isinstance (pa_cons (pv 2) (@pa_consN _ _ _ _ _ (@pe_tup _ _ _ _ _ (pa_cons (pe_glob (v := .ref c1) rfl m1 rfl) (pa_cons (pe_glob (v := .ref c2) rfl m2 rfl) (pa_cons (pe_glob (v := .ref c3) rfl m3 rfl) (pa_cons (pe_glob (v := .ref c4) rfl m4 rfl) (pa_cons (pe_glob (v := .ref c5) rfl m5 rfl) pa_nil)))))) pa_nil rfl)))))))) rfl rfl)
    (@pss_one _ _ _ (by exact @ps_ret _ _ _ _ pe_bl)), ?_⟩
  refine ⟨_, rfl, _, rfl, ls, vf, xs, ss, f, rfl, hls, hst, ok, l60, dp, iff, fun l H' tv a s ns _ _ _ _ hs hf _ _ => absurd hf (no s (List.mem_of_getElem? hs)), fun _ H' d sm hd => ⟨C, d, rfl, rfl, xm, fun x hx => ?_⟩⟩
  have ndx : d ≠ x := fun e => by rw [← e, upd_same] at hx; cases hx
  have hx5 : upd (upd H' d (xDct "fact" vf d)) x (xHeld C d x) x = some (xHeld C d x) := upd_same
  have hd5 : upd (upd H' d (xDct "fact" vf d)) x (xHeld C d x) d = some (xDct "fact" vf d) := by rw [upd_ne ndx]; exact upd_same
  have s5 : Same H (upd (upd H' d (xDct "fact" vf d)) x (xHeld C d x)) := sm.trans ((same_new hd _).trans (same_new hx _))
  generalize upd (upd H' d (xDct "fact" vf d)) x (xHeld C d x) = H5 at hx5 hd5 s5 ⊢
  refine ⟨_, rfl, x, C, d, "fact", vf, _, _, true, rfl, hx5, hd5, xc, .inl ⟨_, rfl, rfl⟩, k1, _, rfl, iteF ⟨_, rfl, x, C, d, "fact", vf, _, _, true, rfl, hx5, hd5, xc, .inr ⟨_, rfl, rfl⟩, k2, _, rfl, iteF ⟨_, rfl, x, C, d, vf, rfl, hx5, hd5, xc, na, _, rfl, f.tx, f.tx, (iff.mono s5.tups).xa, (iff.mono s5.tups).xa, dpf, _, rfl, ?_⟩⟩⟩
  rw [decide_eq_true (show f.tx = f.tx from rfl)]
  refine iteF ⟨_, rfl, small2 (by show 5 ≤ 1000; decide), fun p hp => ?_⟩
  have s6 := same_new hp (.tup [.ref c1, .ref c2, .ref c3, .ref c4, .ref c5])
  exact ⟨x, C, d, p, "fact", vf, [c1, c2, c3, c4, c5], false, rfl, s6 _ _ hx5, s6 _ _ hd5, xc, upd_same, k3, _, rfl, q _ (s5.trans s6)⟩
end
end K23
namespace K23
open PySem L2
def spStrange : Sp := fun vs H Q _ => ∃ (b ls lk lt lh : Addr) (x y : Int) (xs : List V) (ss : List Stp) (ws ts hs : List Str), vs = [.ref b, .ref ls, .ref lk, .ref lh] ∧ H b = some (.lst [.int x, .int y]) ∧ H ls = some (.lst xs) ∧ ls ≠ b ∧ StL [b] H xs ss ∧ 0 < ss.length ∧ (∀ s ∈ ss, okE s.f) ∧ Env H b lk lt lh ws ts hs ∧
  ∀ (v : V) (H' : Hp) (f : Fa) (x' y' : Int), Kp [b] H H' → H' b = some (.lst [.int x', .int y']) → IsF H' f v → f.lo 7 → Q v H'
theorem sixN3 : ¬ (HT.sIx 3 0 none = 0 ∧ HT.sIx 3 3 (some (-1)) = 3) := by decide
theorem sixN4 : ¬ (HT.sIx 4 0 none = 0 ∧ HT.sIx 4 4 (some (-1)) = 4) := by decide
theorem cutN3 (a b c : V) : cutV [a, b, c] none (some (-1)) = [a, b] := rfl
theorem cutN4 (a b c d : V) : cutV [a, b, c, d] none (some (-1)) = [a, b, c] := rfl
section
variable {P : Program} {w : World} {K : PySem.W.Frag} {mg : Str → Option Value} {base : Heap} {f g e a1 a2 a3 a4 a5 a6 a7 a8 : Addr} {fd gd' ed d1 d2 d3 d4 d5 d6 d7 d8 : FuncData}
theorem scStrange : FnScope ["_law_bag", "_law_steps", "_law_kin", "_law_things_here", "_law_claim", "_law_made", "_law_way"] ["_law_bag", "_law_steps", "_law_kin", "_law_things_here"] (defScope sStrange) := ⟨rfl, rfl, rfl, by decide +kernel, rfl, by decide +kernel, by decide +kernel⟩
theorem ok_strange (F : Fun K "_law_strange" "_law_strange" sStrange f fd) (ml : mg "len" = none)
    (Gdr : FnOk P w K mg base CX0 1 a1 d1 ["_law_bag", "_law_many"] spDraw) (bGdr : Binds K d1 ["_law_bag", "_law_many"] []) (kGdr : PySem.W.keepIn K (.ref a1) = true) (mGdr : mg "_law_draw" = some (.ref a1))
    (Gsg : FnOk P w K mg base CX0 1 a3 d3 ["_law_x"] spSingle) (bGsg : Binds K d3 ["_law_x"] []) (kGsg : PySem.W.keepIn K (.ref a3) = true) (mGsg : mg "_law_single" = some (.ref a3)) :
    FnOk P w K mg base CX0 2 f fd ["_law_bag", "_law_steps", "_law_kin", "_law_things_here"] spStrange := by
  refine F.ok scStrange (fun vs H Q E h => ?_) (fun cdv A outer s H vs Q E hr h => ?_)
  · obtain ⟨b, ls, lk, lt, lh, x, y, xs, ss, ws, ts, hs, rfl, _⟩ := h; rfl
  obtain ⟨b, ls, lk, lt, lh, x, y, xs, ss, ws, ts, hs, rfl, hb, hls, nsb, hst, lss, oks, en, q⟩ := h
  have hrdr := hr
  have hrsg := hr
  refine ⟨_, @pss_cons _ _ _ _ _ (by exact ps_set (i := 4) scStrange.nd rfl (Or.inl rfl) (pe_ix ix_tup (pe_ix ix_list (pv 1) (pe_call Gdr hrdr rfl mGdr kGdr bGdr .nil pass0 (pa_cons (pv 0) (pa_cons (pe_callB call_len_seq rfl ml PySem.boot_len (pa_cons (pv 1) pa_nil)) pa_nil))) (fun _ _ => rfl)) pe_int (fun _ _ => rfl)))
    (@pss_mid _ _ _ _ _ (by exact ps_set (i := 5) scStrange.nd rfl (Or.inl rfl) (pe_op op_catT (pe_slice sl_tup (pv 4) po_none (po_some (pe_un un_neg pe_int))) (@pe_tup _ _ _ _ _ (@pa_consN _ _ _ _ _ (@pe_tup _ _ _ _ _ (pa_cons pe_str (pa_cons (pe_ix ix_tup (pv 4) (pe_un un_neg pe_int) (fun _ _ => rfl)) (pa_cons (pe_ix ix_tup (pv 4) (pe_un un_neg pe_int) (fun _ _ => rfl)) pa_nil)))) pa_nil rfl))))
    (@pss_cons _ _ _ _ _ (by exact ps_set (i := 6) scStrange.nd rfl (Or.inl rfl) (pe_call Gdr hrdr rfl mGdr kGdr bGdr .nil pass0 (pa_cons (pv 0) (pa_cons pe_int pa_nil))))
    (@pss_mid _ _ _ _ _ (by exact ps_if (PW.pt (pw_or (pt_val (pe_call Gsg hrsg rfl mGsg kGsg bGsg .nil pass0 (pa_cons (pe_ix ix_tup (pv 4) (pe_un un_neg pe_int) (fun _ _ => rfl)) pa_nil))) (pw_or1 (pt_cmpR op_eq (pv 6) pe_int (nomark _))))) (@pss_one _ _ _ (by exact ps_set (i := 5) scStrange.nd rfl (Or.inl rfl) (@pe_tup _ _ _ _ _ (@pa_consN _ _ _ _ _ pe_str (@pa_consN _ _ _ _ _ (@pe_tup _ _ _ _ _ (pa_cons pe_str (pa_cons (pe_ix ix_list (pv 2) pe_int (fun _ _ => rfl)) (pa_cons (pe_ix ix_list (pv 2) pe_int (fun _ _ => rfl)) pa_nil)))) (@pa_consN _ _ _ _ _ (pe_ix ix_list (pv 2) (pe_call Gdr hrdr rfl mGdr kGdr bGdr .nil pass0 (pa_cons (pv 0) (pa_cons pe_int pa_nil))) (fun _ _ => rfl)) pa_nil rfl) rfl) rfl)))) pss_nil)
    (@pss_mid _ _ _ _ _ (by exact ps_if (pt_cmpR op_eq (pv 6) pe_int (nomark _)) (@pss_one _ _ _ (by exact ps_set (i := 5) scStrange.nd rfl (Or.inl rfl) (@pe_tup _ _ _ _ _ (pa_cons pe_str (pa_cons (pe_ix ix_list (pv 3) (pe_call Gdr hrdr rfl mGdr kGdr bGdr .nil pass0 (pa_cons (pv 0) (pa_cons pe_int pa_nil))) (fun _ _ => rfl)) (pa_cons (pe_ix ix_list (pv 2) pe_int (fun _ _ => rfl)) (pa_cons (pe_ix ix_list (pv 2) (pe_call Gdr hrdr rfl mGdr kGdr bGdr .nil pass0 (pa_cons (pv 0) (pa_cons pe_int pa_nil))) (fun _ _ => rfl)) pa_nil))))))) pss_nil)
    (@pss_one _ _ _ (by exact @ps_ret _ _ _ _ (pv 5))))))), ?_⟩
  have lx := StL.len hst
  refine ⟨_, rfl, _, rfl, _, rfl, ls, _, rfl, .inl (SqL.of hls), b, x, _, [.int y], rfl, hb, by omega, fun x1 r r0 rm => ?_⟩
  obtain ⟨k1, b1⟩ := bag x1 hb
  generalize upd H b (.lst [.int x1, .int y]) = H1 at k1 b1 ⊢
  have st1 := StL.keep k1 hst
  obtain ⟨vi, si, ei, hsi, isi⟩ := stp_at st1 r0 rm
  have oki := oks _ (List.mem_of_getElem? hsi)
  obtain ⟨pi, fi, fvi, rfl, hpi, ifi, _, _⟩ := isi
  refine ⟨ls, _, _, _, rfl, rfl, SqL.of (k1.but _ _ (one_not nsb) hls), ei, pi, _, _, _, rfl, rfl, SqT.of hpi, rfl, ?_⟩
  obtain ⟨p1, T, vl, kl, rfl, hp1, eTl, il, ll, dl⟩ : ∃ (p : Addr) (T : List V) (vl : V) (kl : Kd), fvi = .ref p ∧ H1 p = some (.tup T) ∧ atI T (-1) = some vl ∧ IsK H1 kl vl ∧ lenK kl ∧ kl.dep ≤ 4 := by
    cases hf : si.f with
    | is x k => rw [hf] at ifi oki; obtain ⟨p, a, c, rfl, h, ia, ib⟩ := ifi; exact ⟨p, _, c, k, rfl, h, rfl, ib, oki.2.2, Nat.le_trans (dep_le_nt k) oki.2.1⟩
    | has x r' y => rw [hf] at ifi oki; obtain ⟨p, a, c, rfl, h, ia, ib⟩ := ifi; exact ⟨p, _, c, y, rfl, h, rfl, ib, oki.2.2, Nat.le_trans (dep_le_nt y) oki.2.1⟩
  refine ⟨fun σ H' => ∃ (vm : V) (fm : Fa), σ = [some (.ref b), some (.ref ls), some (.ref lk), some (.ref lh), some (.ref p1), some vm, none] ∧ Kp [b] H1 H' ∧ H' b = some (.lst [.int x1, .int y]) ∧ IsF H' fm vm ∧ fm.lo 7, ?_, ?_⟩
  · have both : ∀ {H2 : Hp} {q : Addr}, Same H1 H2 → H2 q = none → IsK (upd H2 q (.tup [.str "both", vl, vl])) (.two kl kl) (.ref q) := fun s2 h => ⟨_, vl, vl, rfl, upd_same, (il.mono s2.tups).mono (same_new h _).tups, (il.mono s2.tups).mono (same_new h _).tups⟩
    have dtwo : (Kd.two kl kl).dep ≤ 7 := by show 1 + max kl.dep kl.dep ≤ 7; omega
    have dx7 : si.f.x.dep ≤ 7 := Nat.le_trans oki.dx.1 (by decide)
    cases hf : si.f with
    | is x k =>
      rw [hf] at ifi dx7
      obtain ⟨p, a, c, e, h, ia, ib⟩ := ifi
      cases e
      rw [hp1] at h
      cases h
      refine ⟨_, rfl, _, rfl, _, rfl, p1, _, rfl, SqT.of hp1, sixN3, fun t1 ht1 => ?_⟩
      rw [cutN3]
      have s1 := same_new ht1 (.tup [.str "is", a])
      refine ⟨_, rfl, _, rfl, p1, _, _, _, rfl, rfl, SqT.of (s1 _ _ hp1), eTl, _, rfl, _, rfl, p1, _, _, _, rfl, rfl, SqT.of (s1 _ _ hp1), eTl, small2 (by show 3 ≤ 1000; decide), fun t2 ht2 => ⟨small2 (by show 1 ≤ 1000; decide), fun t3 ht3 => ?_⟩⟩
      have s2 := same_new ht2 (.tup [.str "both", vl, vl])
      have s3 := same_new ht3 (.tup [.ref t2])
      refine ⟨t1, t3, _, _, rfl, rfl, SqT.of (s3 _ _ (s2 _ _ upd_same)), SqT.of upd_same, by simp, small2 (by show 2 + 1 ≤ 1000; decide), fun z => (by cases z), fun _ t4 ht4 => ?_⟩
      have s4 := same_new ht4 (.tup ([.str "is", a] ++ [.ref t2]))
      have s14 := ((s1.trans s2).trans s3).trans s4
      refine ⟨.ref t4, .is x (.two kl kl), rfl, .of s14, s14 _ _ b1, ⟨t4, a, .ref t2, rfl, upd_same, ia.mono s14.tups, (both s1 ht2).mono (s3.trans s4).tups⟩, dx7, dtwo⟩
    | has x r' y' =>
      rw [hf] at ifi dx7
      obtain ⟨p, a, c, e, h, ia, ib⟩ := ifi
      cases e
      rw [hp1] at h
      cases h
      refine ⟨_, rfl, _, rfl, _, rfl, p1, _, rfl, SqT.of hp1, sixN4, fun t1 ht1 => ?_⟩
      rw [cutN4]
      have s1 := same_new ht1 (.tup [.str "has", a, .str r'])
      refine ⟨_, rfl, _, rfl, p1, _, _, _, rfl, rfl, SqT.of (s1 _ _ hp1), eTl, _, rfl, _, rfl, p1, _, _, _, rfl, rfl, SqT.of (s1 _ _ hp1), eTl, small2 (by show 3 ≤ 1000; decide), fun t2 ht2 => ⟨small2 (by show 1 ≤ 1000; decide), fun t3 ht3 => ?_⟩⟩
      have s2 := same_new ht2 (.tup [.str "both", vl, vl])
      have s3 := same_new ht3 (.tup [.ref t2])
      refine ⟨t1, t3, _, _, rfl, rfl, SqT.of (s3 _ _ (s2 _ _ upd_same)), SqT.of upd_same, by simp, small2 (by show 3 + 1 ≤ 1000; decide), fun z => (by cases z), fun _ t4 ht4 => ?_⟩
      have s4 := same_new ht4 (.tup ([.str "has", a, .str r'] ++ [.ref t2]))
      have s14 := ((s1.trans s2).trans s3).trans s4
      refine ⟨.ref t4, .has x r' (.two kl kl), rfl, .of s14, s14 _ _ b1, ⟨t4, a, .ref t2, rfl, upd_same, ia.mono s14.tups, (both s1 ht2).mono (s3.trans s4).tups⟩, dx7, dtwo⟩
  rintro σ H2 ⟨vm, fm, rfl, k2, b2, ifm, lom⟩
  refine ⟨_, rfl, b, x1, 4, [.int y], rfl, b2, by decide, fun x3 way _ _ => ?_⟩
  obtain ⟨k3, b3⟩ := bag x3 b2
  generalize upd H2 b (.lst [.int x3, .int y]) = H3 at k3 b3 ⊢
  have k13 := k2.trans k3
  have e3 := en.kp (k1.trans k13)
  obtain ⟨w0, w1, w2, rfl⟩ := list3 en.lw
  obtain ⟨h0, h1, rfl⟩ := list2 en.lh'
  have wat : ∀ {r : Int}, 0 ≤ r → r < 3 → ∃ z, atI ([w0, w1, w2].map V.str) r = some (.str z) := fun r0 r1 => by obtain ⟨z, _, e⟩ := strs_at (ws := [w0, w1, w2]) r0 r1; exact ⟨z, e⟩
  have hat : ∀ {r : Int}, 0 ≤ r → r < 2 → ∃ z, atI ([h0, h1].map V.str) r = some (.str z) := fun r0 r1 => by obtain ⟨z, _, e⟩ := strs_at (ws := [h0, h1]) r0 r1; exact ⟨z, e⟩
  refine ⟨fun σ H' => ∃ (vm : V) (fm : Fa) (x4 : Int), σ = [some (.ref b), some (.ref ls), some (.ref lk), some (.ref lh), some (.ref p1), some vm, some (.int way)] ∧ Kp [b] H3 H' ∧ H' b = some (.lst [.int x4, .int y]) ∧ IsF H' fm vm ∧ fm.lo 7, ?_, ?_⟩
  · refine ⟨_, rfl, _, rfl, p1, _, _, _, rfl, rfl, SqT.of (k13.tups _ _ hp1), eTl, vl, kl, rfl, il.mono k13.tups, ll, _, rfl, ite2 (fun _ => iteT ?_) (fun _ => ⟨_, rfl, rfl, _, rfl, ite2 (fun _ => ?_) (fun _ => ⟨vm, fm, x3, rfl, Kp.refl _ _, b3, ifm.mono k3.tups, lom⟩)⟩)⟩
    all_goals
      refine ⟨_, rfl, lk, _, _, _, rfl, rfl, SqL.of e3.hk, rfl, _, rfl, lk, _, _, _, rfl, rfl, SqL.of e3.hk, rfl, small2 (by show 3 ≤ 1000; decide), fun t1 ht1 => ?_⟩
      have s1 := same_new ht1 (.tup [.str "both", .str w0, .str w1])
      refine ⟨_, rfl, _, rfl, b, x3, 3, [.int y], rfl, s1 _ _ b3, by decide, fun x4 r4 r40 r41 => ?_⟩
      obtain ⟨k4, b4⟩ := bag x4 (s1 _ _ b3)
      generalize upd (upd H3 t1 (.tup [.str "both", .str w0, .str w1])) b (.lst [.int x4, .int y]) = H4 at k4 b4 ⊢
      obtain ⟨z, ez⟩ := wat r40 r41
      have k34 : Kp [b] H3 H4 := (Kp.of s1).trans k4
      refine ⟨lk, _, _, _, rfl, rfl, SqL.of (e3.kp k34).hk, ez, small2 (by show 3 ≤ 1000; decide), fun t5 ht5 => ?_⟩
      have s5 := same_new ht5 (.tup [.str "is", .ref t1, .str z])
      exact ⟨.ref t5, .is (.two (.nm w0) (.nm w1)) (.nm z), x4, rfl, k34.trans (.of s5), s5 _ _ b4, ⟨t5, _, _, rfl, upd_same, ⟨t1, _, _, rfl, (k4.tups.trans s5.tups) _ _ upd_same, rfl, rfl⟩, rfl⟩, by show 1 + max 0 0 ≤ 7; decide, Nat.zero_le _⟩
  rintro σ H5 ⟨vm5, fm5, x5, rfl, k5, b5, if5, lo5⟩
  have k15 := k13.trans k5
  have e5 := e3.kp k5
  refine ⟨fun σ H' => ∃ (vm : V) (fm : Fa) (x4 : Int), σ = [some (.ref b), some (.ref ls), some (.ref lk), some (.ref lh), some (.ref p1), some vm, some (.int way)] ∧ Kp [b] H5 H' ∧ H' b = some (.lst [.int x4, .int y]) ∧ IsF H' fm vm ∧ fm.lo 7, ?_, ?_⟩
  · refine ⟨_, rfl, rfl, _, rfl, ite2 (fun _ => ?_) (fun _ => ⟨vm5, fm5, x5, rfl, Kp.refl _ _, b5, if5, lo5⟩)⟩
    refine ⟨_, rfl, _, rfl, b, x5, 2, [.int y], rfl, b5, by decide, fun x6 r6 r60 r61 => ?_⟩
    obtain ⟨k6, b6⟩ := bag x6 b5
    generalize upd H5 b (.lst [.int x6, .int y]) = H6 at k6 b6 ⊢
    obtain ⟨z6, ez6⟩ := hat r60 r61
    have e6 := e5.kp k6
    refine ⟨lh, _, _, _, rfl, rfl, SqL.of e6.hh, ez6, _, rfl, lk, _, _, _, rfl, rfl, SqL.of e6.hk, rfl, _, rfl, _, rfl, b, x6, 3, [.int y], rfl, b6, by decide, fun x7 r7 r70 r71 => ?_⟩
    obtain ⟨k7, b7⟩ := bag x7 b6
    generalize upd H6 b (.lst [.int x7, .int y]) = H7 at k7 b7 ⊢
    obtain ⟨z7, ez7⟩ := wat r70 r71
    have e7 := e6.kp k7
    refine ⟨lk, _, _, _, rfl, rfl, SqL.of e7.hk, ez7, small2 (by show 4 ≤ 1000; decide), fun t8 ht8 => ?_⟩
    have s8 := same_new ht8 (.tup [.str "has", .str z6, .str w0, .str z7])
    exact ⟨.ref t8, .has (.nm z6) w0 (.nm z7), x7, rfl, (k6.trans k7).trans (.of s8), s8 _ _ b7, ⟨t8, _, _, rfl, upd_same, rfl, rfl⟩, Nat.zero_le _, Nat.zero_le _⟩
  rintro σ H8 ⟨vm8, fm8, x8, rfl, k8, b8, if8, lo8⟩
  exact ⟨_, rfl, q vm8 H8 fm8 x8 y (k1.trans (k15.trans k8)) b8 if8 lo8⟩
end
end K23
namespace L2
open PySem PySem.Spec PyProof.Rows
theorem pass_no {P : Program} {w : World} {X : Cx} : Passes (CXK P w) X E0 := fun _ _ _ _ _ _ _ ⟨_, _, _, _, _, _, _, _, _, _, _, _, _, _, _, h⟩ => h.elim
def sIdx (lo hi st : Option Int) (n : Nat) : List Nat := sliceRange (sliceBounds lo hi st n).1 (sliceBounds lo hi st n).2.1 (sliceBounds lo hi st n).2.2
def rSl3k (K : PySem.W.Frag) : V → Option Int → Option Int → Option Int → Hp → VK → Prop := fun x lo hi st H Q => st ≠ some 0 ∧ ∃ a xs, x = .ref a ∧ SqL K H a xs ∧ ∀ p ys, H p = none → (∀ y ∈ ys, y ∈ xs) → ys.length ≤ xs.length → ys.length ≤ (sIdx lo hi st xs.length).length → Q (.ref p) (upd H p (.lst ys))
def tSl3k (K : PySem.W.Frag) (te : TE) (tl th ts : TO) : TE := fun σ H Q => te σ H fun x H1 => tl σ H1 fun l H2 => th σ H2 fun u H3 => ts σ H3 fun st H4 => rSl3k K x l u st H4 Q
theorem sidx_len {l u : Nat} (n : Nat) : (sIdx (some (l : Int)) (some (u : Int)) (some 3) n).length ≤ (u - l + 2) / 3 := by
  have e1 : (sliceBounds (some (l : Int)) (some (u : Int)) (some 3) n).1 = max 0 (min (l : Int) n) := by
    show (if (3 : Int) > 0 then max 0 (min (if (l : Int) < 0 then (l : Int) + n else l) n) else max (-1) (min (if (l : Int) < 0 then (l : Int) + n else l) ((n : Int) - 1))) = _
    rw [if_pos (by decide), if_neg (by omega)]
  have e2 : (sliceBounds (some (l : Int)) (some (u : Int)) (some 3) n).2.1 = max 0 (min (u : Int) n) := by
    show (if (3 : Int) > 0 then max 0 (min (if (u : Int) < 0 then (u : Int) + n else u) n) else max (-1) (min (if (u : Int) < 0 then (u : Int) + n else u) ((n : Int) - 1))) = _
    rw [if_pos (by decide), if_neg (by omega)]
  have e3 : (sliceBounds (some (l : Int)) (some (u : Int)) (some 3) n).2.2 = 3 := rfl
  unfold sIdx
  rw [e1, e2, e3]
  unfold sliceRange
  rw [List.length_map, List.length_range, if_pos (by decide)]
  split <;> omega
section
variable {X : Cx}
theorem pe_slice3k {e est : Expr} {lo hi : Option Expr} {te : TE} {tl th ts : TO} {p2 pos : Pos} (he : PE X e te) (hl : PO X lo tl) (hu : PO X hi th) (hs : PO X (some est) ts) : PE X (.Subscript e (.Slice lo hi (some est) p2) pos) (tSl3k X.K te tl th ts) := by
  intro pins s σ H Q I h
  refine Subscript_ (thn (he pins s σ H _ I h) fun v s1 ⟨x, H1, I1, r1, q1⟩ => ?_)
  refine wpAny_Slice (thn (hl pins s1 σ H1 _ I1 q1) fun vl s2 ⟨l, H2, I2, pl, q2⟩ => thn (hu pins s2 σ H2 _ I2 q2) fun vu s3 ⟨u, H3, I3, pu, q3⟩ => thn (hs pins s3 σ H3 _ I3 q3) fun vs s4 ⟨st, H4, I4, ps, h0, a, xs, ex, hx, q4⟩ => ?_)
  subst ex
  cases r1
  have I5 : Inv X pins σ H4 { s4 with heap := s4.heap.push { cls := .type "slice", data := .fields #[vl, vu, vs] } } := I4.kept (t' := s4.toks) fun b ob q => Heap.get?_push_of_some _ q
  obtain ⟨its, r, ht, hz⟩ := I5.list hx
  have hlen := r.length
  show wpAny (model X.prog X.w) X.A (subscriptTail e (.Slice lo hi (some est) p2) (.ref a) (.ref s4.heap.objs.size)) (EP X pins σ Q) X.xe { s4 with heap := s4.heap.push { cls := .type "slice", data := .fields #[vl, vu, vs] } }
  refine tail_any (ops := [.ref a, .ref s4.heap.objs.size]) ht.isList.typeIs slot_list_getitem.lookup ?_ (by with_unfolding_all rfl)
  refine wpAny_getItem_list_slice ht.isList (Heap.IsSliceOf.new ..) pl pu ps h0 ?_ (by rw [List.size_toArray] <;> omega)
  have sz := slicePick_size_le its.toArray l u st
  obtain ⟨ys, vy, my⟩ := vals_pick r (sliceRange (sliceBounds l u st its.toArray.size).1 (sliceBounds l u st its.toArray.size).2.1 (sliceBounds l u st its.toArray.size).2.2)
  have ly := vy.length
  have sz' : ys.length ≤ xs.length := by
    rw [ly, hlen]
    simpa [slicePick] using sz
  have sk : ys.length ≤ (sIdx l u st xs.length).length := by
    rw [ly, hlen, ← List.size_toArray]
    exact List.length_filterMap_le ..
  refine ⟨.ref _, _, I5.laid (t' := s4.toks) (o := .lst ys) (fun b ob q => Heap.get?_push_of_some _ q) (Nat.le_refl _) ?_, rfl, q4 _ ys (I5.hok.fresh (Nat.le_refl _)) my sz' sk⟩
  exact ⟨Nat.le_trans sz' hz, _, 0, vy, Heap.get?_push_size _ rfl⟩
end
end L2
namespace K23
open PySem L2
def spCopyN : Sp := fun vs H Q _ => ∃ (ls : Addr) (xs : List V) (ss : List Stp), vs = [.ref ls] ∧ H ls = some (.lst xs) ∧ StL [] H xs ss ∧ ss.length ≤ 900 ∧ ∀ (l : Addr) (H' : Hp) (xs' : List V), Same H H' → H l = none → H' l = some (.lst xs') → StN H H' xs' ss → Q (.ref l) H'
theorem StN.drop {H0 H : Hp} {D : Addr} {o : HO} {xs : List V} {ss : List Stp} (h : StN (upd H0 D o) H xs ss) : StN H0 H xs ss := Paired.imp' (fun v s hh => by
  obtain ⟨p, pf, vf, e, h1, h2, h3, h4⟩ := hh
  have n : pf ≠ D := fun e => by rw [e, upd_same] at h4; cases h4
  rw [upd_ne n] at h4
  exact ⟨p, pf, vf, e, h1, h2, h3, h4⟩) h
section
variable {P : Program} {w : World} {K : PySem.W.Frag} {mg : Str → Option Value} {base : Heap} {f g e a1 a2 a3 a4 a5 a6 a7 a8 : Addr} {fd gd' ed d1 d2 d3 d4 d5 d6 d7 d8 : FuncData}
theorem ok_copyN (F : Fun K "_law_copy" "_law_copy" sCopy f fd) (mls : mg "list" = none) : FnOk P w K mg base CX0 1 f fd ["_law_steps"] spCopyN := by
  refine F.ok scCopy (fun vs H Q E h => ?_) (fun cdv A outer s H vs Q E hr h => ?_)
  · obtain ⟨ls, xs, ss, rfl, _⟩ := h; rfl
  obtain ⟨ls, xs, ss, rfl, hl, hss, hz, q⟩ := h
  refine ⟨_, @pss_one _ _ _ (by exact @ps_ret _ _ _ _ (pe_comp ["_law_step"] [] [] rfl (pi_list (pv 0)) (fun _ _ _ => pg_name (i := 0) ndst rfl (Or.inl rfl)) (fun _ _ _ => pts_nil) (fun _ _ _ => (@pe_tup _ _ _ _ _ (pa_cons (pe_ix (r := rIxT K) ix_tup (pv 0) pe_int (fun _ _ => rfl)) (pa_cons (pe_ix (r := rIxT K) ix_tup (pv 0) pe_int (fun _ _ => rfl)) (pa_cons (pe_callTy call_listH rfl mls PyProof.Rows.boot_list (pa_cons (pe_ix (r := rIxT K) ix_tup (pv 0) pe_int (fun _ _ => rfl)) pa_nil)) (pa_cons (pe_ix (r := rIxT K) ix_tup (pv 0) pe_int (fun _ _ => rfl)) pa_nil)))))))), ?_⟩
  have lL := StL.len hss
  refine ⟨_, rfl, ls, rfl, ⟨_, SqL.of hl⟩, fun D hD => ?_⟩
  refine cmp_by xs.length (fun i σ H' => (∃ o, σ = [o]) ∧ Same H H' ∧ ∃ ys, H' D = some (.lst ys) ∧ StN (upd H D (.lst [])) H' ys (ss.take i)) ⟨⟨_, rfl⟩, same_new hD _, [], upd_same, .nil⟩ ?_ ?_
  · rintro σ H' ⟨_, sm, ys, eD, hy⟩
    rw [lL, List.take_length] at hy
    exact ⟨⟨_, SqL.of (sm _ _ hl), Nat.le_refl _⟩, q D H' ys sm hD eD hy.drop⟩
  · rintro i σ H' hi ⟨⟨o, rfl⟩, sm, ys, eD, hy⟩
    have ho := sm _ _ hl
    refine ⟨⟨_, xs[i], SqL.of ho, by simp [hi]⟩, ?_⟩
    rintro y H1 ⟨rfl, hyy⟩
    have hyi := hyy _ (SqL.of ho)
    obtain ⟨st, hst, p, pf, vf, rfl, hp, hf, hpf, _⟩ := paired_get hss hyi
    have sp := sm _ _ hp
    have spf := sm _ _ hpf
    have lys := Paired.length hy
    rw [List.length_take] at lys
    refine ⟨_, rfl, p, _, 0, _, rfl, rfl, SqT.of sp, atI_nat (j := 0) rfl, _, rfl, p, _, 1, _, rfl, rfl, SqT.of sp, atI_nat (j := 1) rfl, _, rfl, p, _, 2, _, rfl, rfl, SqT.of sp, atI_nat (j := 2) rfl, pf, _, rfl, spf, fun l hlN => ?_⟩
    have s1 := same_new hlN (.lst (st.fr.map V.int))
    have nlD : l ≠ D := fun z => by rw [z, eD] at hlN; cases hlN
    refine ⟨_, rfl, p, _, 3, _, rfl, rfl, SqT.of (s1 _ _ sp), atI_nat (j := 3) rfl, small2 (by show 4 ≤ 1000; decide), fun t ht => ?_⟩
    have s2 := same_new ht (.tup [vf, .str st.r, .ref l, numV st.n])
    have s12 := s1.trans s2
    have eD2 := s12 _ _ eD
    have ntD : t ≠ D := fun z => by rw [z, s1 _ _ eD] at ht; cases ht
    refine ⟨ys, eD2, small1000 (by omega), ⟨_, rfl⟩, same_upd (sm.trans s12) hD, ys ++ [.ref t], upd_same, ?_⟩
    have tt : Tups (upd (upd H1 l (.lst (st.fr.map V.int))) t (.tup [vf, .str st.r, .ref l, numV st.n])) (upd (upd (upd H1 l (.lst (st.fr.map V.int))) t (.tup [vf, .str st.r, .ref l, numV st.n])) D (.lst (ys ++ [.ref t]))) := tups_lst eD2
    rw [List.take_add_one, hst]
    refine paired_app (Paired.imp' (fun v s' hh => ?_) (StN.same s12 hy)) (.cons ?_ .nil)
    · obtain ⟨p', pf', vf', e', h1, h2, h3, h4⟩ := hh
      have np : p' ≠ D := fun e => by rw [e, eD2] at h1; cases h1
      have npf : pf' ≠ D := fun e => by rw [e, upd_same] at h4; cases h4
      exact ⟨p', pf', vf', e', by rw [upd_ne np]; exact h1, h2.mono tt, by rw [upd_ne npf]; exact h3, h4⟩
    · refine ⟨t, l, vf, rfl, by rw [upd_ne ntD]; exact upd_same, ((hf.mono sm.tups).mono s12.tups).mono tt, by rw [upd_ne nlD]; exact s2 _ _ upd_same, ?_⟩
      rw [upd_ne nlD]
      exact none_of_same sm hlN
end
end K23
namespace K23
open PySem L2
def spLaw (K : PySem.W.Frag) : Sp := fun vs H Q _ => ∃ (a : Addr) (ns : List Int), vs = [.ref a] ∧ SqL K H a (ns.map V.int) ∧ ns.length ≤ 63 ∧ ∀ H', Q (.bl true) H'
theorem seqK {K : PySem.W.Frag} {H H' : Hp} {a : Addr} {xs : List V} (h : SqL K H a xs) (k : ∀ o, H a = some o → H' a = some o) : SqL K H' a xs := by
  rcases h with (h | ⟨o, h⟩) | h
  · exact .inl (.inl (k _ h))
  · exact .inl (.inr ⟨o, k _ h⟩)
  · exact .inr h
theorem ints_of {ys : List V} {ns : List Int} (h : ∀ y ∈ ys, y ∈ ns.map V.int) : ∃ ms : List Int, ys = ms.map V.int := by
  induction ys with
  | nil => exact ⟨[], rfl⟩
  | cons y ys ih =>
    obtain ⟨ms, rfl⟩ := ih fun z hz => h z (List.mem_cons_of_mem _ hz)
    obtain ⟨m, _, rfl⟩ := List.mem_map.mp (h y List.mem_cons_self)
    exact ⟨m :: ms, rfl⟩
theorem dk_wd {t : Str} (h : wd t) : dk (.nm t) := by
  obtain ⟨h1, h2, h3⟩ := h
  refine ⟨Nat.zero_le _, by show 1 ≤ 7; decide, by show t.length ≤ 1000; omega, ?_⟩
  show thingB t = upB t
  cases e : t.cps.toList with
  | nil => have := len_cps t; rw [e] at this; simp at this; omega
  | cons c r =>
    obtain ⟨c1, c2⟩ := h3 c (by rw [e]; simp)
    rw [upB_of e (by omega), decide_eq_false (by omega)]
    unfold thingB
    rw [e]
    have : bigC c = false := by unfold bigC; exact decide_eq_false (by omega)
    show (fits t && (bigC c && r.all smallC)) = false
    rw [this, Bool.false_and, Bool.and_false]
theorem dk_thg {t : Str} (h : thg t) : dk (.nm t) := by
  obtain ⟨h1, c, r, e, c1, c2, h3⟩ := h
  refine ⟨Nat.zero_le _, by show 1 ≤ 7; decide, by show t.length ≤ 1000; omega, ?_⟩
  show thingB t = upB t
  rw [upB_of e (by omega), decide_eq_true ⟨c1, c2⟩]
  unfold thingB fits
  have hl := len_cps t
  rw [e] at hl
  simp only [List.length_cons] at hl
  rw [e, decide_eq_true (show 1 ≤ t.length by omega), decide_eq_true h1]
  have b1 : bigC c = true := by unfold bigC; exact decide_eq_true ⟨c1, c2⟩
  have b2 : r.all smallC = true := List.all_eq_true.mpr fun d hd => by unfold smallC; exact decide_eq_true (h3 d hd)
  show (true && true && (bigC c && r.all smallC)) = true
  rw [b1, b2]; rfl
theorem okE.lo7 : ∀ {f : Fa}, okE f → f.lo 7
  | .is _ k, o => ⟨Nat.le_trans o.1.1 (by decide), Nat.le_trans (Nat.le_trans (dep_le_nt k) o.2.1) (by decide)⟩
  | .has _ _ y, o => ⟨Nat.le_trans o.1.1 (by decide), Nat.le_trans (Nat.le_trans (dep_le_nt y) o.2.1) (by decide)⟩
theorem Fa.lo.le {n m : Nat} (h : n ≤ m) : ∀ {f : Fa}, f.lo n → f.lo m
  | .is _ _, o => ⟨Nat.le_trans o.1 h, Nat.le_trans o.2 h⟩
  | .has _ _ _, o => ⟨Nat.le_trans o.1 h, Nat.le_trans o.2 h⟩
theorem okS_snoc {ss : List Stp} {st : Stp} (o : okS ss) (h : okFr ss.length st.fr) : okS (ss ++ [st]) := fun i s e => by
  rcases Nat.lt_or_ge i ss.length with c | c
  · rw [List.getElem?_append_left c] at e
    exact o i s e
  · rw [List.getElem?_append_right c] at e
    have hl := (List.getElem?_eq_some_iff.mp e).1
    have h0 : i - ss.length = 0 := by
      have : i - ss.length < 1 := hl
      omega
    rw [h0] at e
    cases e
    rw [show i = ss.length by omega]
    exact h
theorem paper_mem {ss : List Stp} {a : Nat} {ns : List Int} (o : okS ss) (ha : a < ss.length) (h : IsNeed ss a ns) {t : Stp} (ht : t ∈ paperOf ss ns) : (∃ s ∈ ss, t.f = s.f) ∧ t.fr.length ≤ 2 := by
  obtain ⟨j, hj⟩ := List.mem_iff_getElem?.mp ht
  have l2 := (paper_okS o ha h j t hj).1
  rw [paper_get] at hj
  obtain ⟨z, hz, rfl⟩ := Option.map_eq_some_iff.mp hj
  obtain ⟨z0, zl, za⟩ := need_lt o ha h (List.mem_of_getElem? hz)
  have hs : ss[z.toNat]? = some ss[z.toNat] := List.getElem?_eq_getElem zl
  have e : stAt ss z = ss[z.toNat] := by unfold stAt; rw [hs]; rfl
  exact ⟨⟨_, List.getElem_mem zl, by show (stAt ss z).f = _; rw [e]⟩, l2⟩
theorem first_one {ss : List Stp} {f : Fa} {a c : Nat} {s t : Stp} (h1 : ss[a]? = some s) (e1 : s.f = f) (n1 : ∀ (j : Nat) (t : Stp), j < a → ss[j]? = some t → t.f ≠ f) (h2 : ss[c]? = some t) (e2 : t.f = f) (n2 : ∀ (j : Nat) (t : Stp), j < c → ss[j]? = some t → t.f ≠ f) : a = c := by
  rcases Nat.lt_trichotomy a c with l | l | l
  · exact absurd e1 (n2 a s l h1)
  · exact l
  · exact absurd e2 (n1 c t l h2)
theorem StN.off {H0 H : Hp} {b : Addr} {o : HO} (hb : H0 b = some o) {xs : List V} {ss : List Stp} (h : StN H0 H xs ss) : StL [b] H xs ss := Paired.imp' (fun _ _ ⟨p, pf, vf, e, h1, h2, h3, h4⟩ => ⟨p, pf, vf, e, h1, h2, h3, fun z => by rw [List.mem_singleton.mp z, hb] at h4; cases h4⟩) h
def Grw (H0 H : Hp) (lf : Addr) (i : Nat) (tv : List V) : Prop := ∀ v ∈ tv, ∃ (p pf : Addr) (vf : V) (r : Str) (n : V) (ys : List V), v = .ref p ∧ H p = some (.tup [vf, .str r, .ref pf, n]) ∧ H pf = some (.lst ys) ∧ ys.length ≤ 2 + i ∧ H0 pf = none ∧ pf ≠ lf
theorem grw_of {H0 H : Hp} {lf : Addr} {tv : List V} (hl : H lf = some (.lst tv)) : ∀ {xs : List V} {ss : List Stp}, StN H0 H xs ss → (∀ s ∈ ss, s.fr.length ≤ 2) → (∀ v ∈ xs, v ∈ tv) → Grw H0 H lf 0 xs
  | _, _, .nil, _, _ => fun v hv => (List.not_mem_nil hv).elim
  | _, _, .cons r t, h2, hs => fun v hv => by
    rcases List.mem_cons.mp hv with e | hv
    · subst e
      obtain ⟨p, pf, vf, e, h1, _, h3, h4⟩ := r
      refine ⟨p, pf, vf, _, _, _, e, h1, h3, by rw [List.length_map]; exact h2 _ List.mem_cons_self, h4, fun z => ?_⟩
      rw [z, hl] at h3
      have := hs v List.mem_cons_self
      rw [HO.lst.inj (Option.some.inj h3), e] at this
      obtain ⟨y, _, ey⟩ := List.mem_map.mp this
      cases ey
    · exact grw_of hl t (fun s h => h2 s (List.mem_cons_of_mem _ h)) (fun u hu => hs u (List.mem_cons_of_mem _ hu)) v hv
theorem Grw.step {H0 H : Hp} {lf pf : Addr} {i : Nat} {tv ys : List V} {v : V} (h : Grw H0 H lf i tv) (hp : H pf = some (.lst ys)) (hy : ys.length ≤ 2 + i) : Grw H0 (upd H pf (.lst (ys ++ [v]))) lf (i + 1) tv := fun u hu => by
  obtain ⟨p, pf', vf, r, n, zs, e, h1, h2, h3, h4, h5⟩ := h u hu
  have np : p ≠ pf := fun z => by rw [z, hp] at h1; cases h1
  by_cases c : pf' = pf
  · subst c
    exact ⟨p, pf', vf, r, n, _, e, by rw [upd_ne np]; exact h1, upd_same, by rw [List.length_append]; show ys.length + 1 ≤ _; omega, h4, h5⟩
  · exact ⟨p, pf', vf, r, n, zs, e, by rw [upd_ne np]; exact h1, by rw [upd_ne c]; exact h2, by omega, h4, h5⟩
section
variable {P : Program} {w : World} {K : PySem.W.Frag} {mg : Str → Option Value} {base : Heap} {f g e a1 a2 a3 a4 a5 a6 a7 a8 a9 a10 a11 C : Addr} {fd gd' ed d1 d2 d3 d4 d5 d6 d7 d8 d9 d10 d11 : FuncData}
theorem scLaw : FnScope ["_law_script", "_law_kin", "_law_ties", "_law_things_here", "_law_bag", "_law_pairs", "_law_steps", "_law_cell_here", "_law_lent", "_law_step", "_law_found", "_law_one", "_law_strange_here"] ["_law_script"] (defScope sLaw) := ⟨rfl, rfl, rfl, by decide +kernel, rfl, by decide +kernel, by decide +kernel⟩
theorem ok_law (F : Fun K "law" "law" sLaw f fd)
    (Gc : FnOk P w K mg base CX0 1 a1 d1 ["_law_script", "_law_k"] (spCell K)) (bGc : Binds K d1 ["_law_script", "_law_k"] []) (kGc : PySem.W.keepIn K (.ref a1) = true) (mGc : mg "_law_cell" = some (.ref a1))
    (Gw : FnOk P w K mg base CX0 1 a2 d2 ["_law_cell_here", "_law_many"] spWords) (bGw : Binds K d2 ["_law_cell_here", "_law_many"] []) (kGw : PySem.W.keepIn K (.ref a2) = true) (mGw : mg "_law_words" = some (.ref a2))
    (Gt : FnOk P w K mg base CX0 2 a3 d3 ["_law_cell_here", "_law_many"] spThings) (bGt : Binds K d3 ["_law_cell_here", "_law_many"] []) (kGt : PySem.W.keepIn K (.ref a3) = true) (mGt : mg "_law_things" = some (.ref a3))
    (Gnu : FnOk P w K mg base CX0 6 a4 d4 ["_law_cells", "_law_bag", "_law_kin", "_law_ties", "_law_things_here"] spNumbered) (bGnu : Binds K d4 ["_law_cells", "_law_bag", "_law_kin", "_law_ties", "_law_things_here"] []) (kGnu : PySem.W.keepIn K (.ref a4) = true) (mGnu : mg "_law_numbered" = some (.ref a4))
    (Ggr : FnOk P w K mg base CX0 8 a5 d5 ["_law_bag", "_law_steps", "_law_pairs", "_law_kin", "_law_ties"] spGrown) (bGgr : Binds K d5 ["_law_bag", "_law_steps", "_law_pairs", "_law_kin", "_law_ties"] []) (kGgr : PySem.W.keepIn K (.ref a5) = true) (mGgr : mg "_law_grown" = some (.ref a5))
    (Gcp : FnOk P w K mg base CX0 1 a6 d6 ["_law_steps"] spCopyN) (bGcp : Binds K d6 ["_law_steps"] []) (kGcp : PySem.W.keepIn K (.ref a6) = true) (mGcp : mg "_law_copy" = some (.ref a6))
    (Gpp : FnOk P w K mg base (CXK P w) 4 a7 d7 ["steps", "fact"] (spPaper C)) (bGpp : Binds K d7 ["steps", "fact"] []) (kGpp : PySem.W.keepIn K (.ref a7) = true) (mGpp : mg "paper" = some (.ref a7))
    (Gar : FnOk P w K mg base CX0 11 a8 d8 ["_law_found"] spAre) (bGar : Binds K d8 ["_law_found"] []) (kGar : PySem.W.keepIn K (.ref a8) = true) (mGar : mg "_law_are_steps" = some (.ref a8))
    (Gdu : FnOk P w K mg base CX0 2 a9 d9 ["_law_steps", "_law_claim"] spDue) (bGdu : Binds K d9 ["_law_steps", "_law_claim"] []) (kGdu : PySem.W.keepIn K (.ref a9) = true) (mGdu : mg "_law_due" = some (.ref a9))
    (Gst : FnOk P w K mg base CX0 2 a10 d10 ["_law_bag", "_law_steps", "_law_kin", "_law_things_here"] spStrange) (bGst : Binds K d10 ["_law_bag", "_law_steps", "_law_kin", "_law_things_here"] []) (kGst : PySem.W.keepIn K (.ref a10) = true) (mGst : mg "_law_strange" = some (.ref a10))
    (Gre : FnOk P w K mg base CX0 5 a11 d11 ["_law_steps", "_law_claim"] spRefused) (bGre : Binds K d11 ["_law_steps", "_law_claim"] []) (kGre : PySem.W.keepIn K (.ref a11) = true) (mGre : mg "_law_refused" = some (.ref a11)) :
    FnOk P w K mg base CX0 12 f fd ["_law_script"] (spLaw K) := by
  refine F.ok scLaw (fun vs H Q E h => ?_) (fun cdv A outer s H vs Q E hr h => ?_)
  · obtain ⟨a, ns, rfl, _⟩ := h; rfl
  obtain ⟨a, ns, rfl, hS, h63, q⟩ := h
  have hrar := hr
  have hrc := hr.mono (show 1 ≤ 11 by decide)
  have hrw := hr.mono (show 1 ≤ 11 by decide)
  have hrt := hr.mono (show 2 ≤ 11 by decide)
  have hrnu := hr.mono (show 6 ≤ 11 by decide)
  have hrgr := hr.mono (show 8 ≤ 11 by decide)
  have hrcp := hr.mono (show 1 ≤ 11 by decide)
  have hrpp := hr.mono (show 4 ≤ 11 by decide)
  have hrdu := hr.mono (show 2 ≤ 11 by decide)
  have hrst := hr.mono (show 2 ≤ 11 by decide)
  have hrre := hr.mono (show 5 ≤ 11 by decide)
  refine ⟨_, @pss_cons _ _ _ _ _ (by exact ps_set (i := 1) scLaw.nd rfl (Or.inl rfl) (pe_call Gw hrw rfl mGw kGw bGw .nil pass0 (pa_cons (pe_call Gc hrc rfl mGc kGc bGc .nil pass0 (pa_cons (pv 0) (pa_cons pe_int pa_nil))) (pa_cons pe_int pa_nil))))
    (@pss_cons _ _ _ _ _ (by exact ps_set (i := 2) scLaw.nd rfl (Or.inl rfl) (pe_call Gw hrw rfl mGw kGw bGw .nil pass0 (pa_cons (pe_call Gc hrc rfl mGc kGc bGc .nil pass0 (pa_cons (pv 0) (pa_cons pe_int pa_nil))) (pa_cons pe_int pa_nil))))
    (@pss_cons _ _ _ _ _ (by exact ps_set (i := 3) scLaw.nd rfl (Or.inl rfl) (pe_call Gt hrt rfl mGt kGt bGt .nil pass0 (pa_cons (pe_call Gc hrc rfl mGc kGc bGc .nil pass0 (pa_cons (pv 0) (pa_cons pe_int pa_nil))) (pa_cons pe_int pa_nil))))
    (@pss_cons _ _ _ _ _ (by exact ps_set (i := 4) scLaw.nd rfl (Or.inl rfl) (pe_lst (pa_cons (pe_op op_mod (pe_call Gc hrc rfl mGc kGc bGc .nil pass0 (pa_cons (pv 0) (pa_cons pe_int pa_nil))) pe_int) (pa_cons pe_int pa_nil))))
    (@pss_cons _ _ _ _ _ (by exact ps_set (i := 5) scLaw.nd rfl (Or.inl rfl) (pe_call Gnu hrnu rfl mGnu kGnu bGnu .nil pass0 (pa_cons (pe_op op_cat (pe_lst (pa_cons pe_int (pa_cons pe_int pa_nil))) (pe_slice3k (pv 0) (po_some pe_int) (po_some pe_int) (po_some pe_int))) (pa_cons (pv 4) (pa_cons (pv 1) (pa_cons (pv 2) (pa_cons (pv 3) pa_nil)))))))
    (@pss_cons _ _ _ _ _ (by exact ps_set (i := 6) scLaw.nd rfl (Or.inl rfl) (pe_lst pa_nil))
    (@pss_mid _ _ _ _ _ (by exact ps_for PassesOwn.never rfl (pi_list (pe_op op_cat (pe_op op_cat (pe_lst (pa_cons pe_int (pa_cons pe_int (pa_cons pe_int pa_nil)))) (pe_slice3k (pv 0) (po_some pe_int) (po_some pe_int) (po_some pe_int))) (pe_slice3k (pv 0) (po_some pe_int) (po_some pe_int) (po_some pe_int)))) (pg_name (i := 7) scLaw.nd rfl (Or.inl rfl)) (@pss_cons _ _ _ _ _ (by exact ps_expr (pe_bm PySem.F.plainAttrs_list PySem.F.slot_list_append PySem.F.type_list_append mt_append (pv 6) (pa_cons (pe_call Ggr hrgr rfl mGgr kGgr bGgr .nil pass0 (pa_cons (pv 4) (pa_cons (pv 6) (pa_cons (pv 5) (pa_cons (pv 1) (pa_cons (pv 2) pa_nil)))))) pa_nil))) (@pss_one _ _ _ (by exact ps_asg (pe_op op_mod (pe_op op_add (pe_ix ix_list (pv 4) pe_int (fun _ _ => rfl)) (pv 7)) pe_int) (pg_sub (pv 4) pe_int set_list)))))
    (@pss_cons _ _ _ _ _ (by exact ps_set (i := 8) scLaw.nd rfl (Or.inl rfl) (pe_call Gcp hrcp rfl mGcp kGcp bGcp .nil pass0 (pa_cons (pv 6) pa_nil)))
    (@pss_mid _ _ _ _ _ (by exact ps_for PassesOwn.never rfl (pi_list (pv 6)) (pg_name (i := 9) scLaw.nd rfl (Or.inl rfl)) (@pss_cons _ _ _ _ _ (by exact ps_set (i := 10) scLaw.nd rfl (Or.inl rfl) (pe_call Gpp hrpp rfl mGpp kGpp bGpp .nil (E := E0) pass_no (pa_cons (pv 8) (pa_cons (pe_ix ix_tup (pv 9) pe_int (fun _ _ => rfl)) pa_nil)))) (@pss_cons _ _ _ _ _ (by exact ps_if (PW.pt (pw_or (pt_not (pt_val (pe_call Gar hrar rfl mGar kGar bGar .nil pass0 (pa_cons (pv 10) pa_nil)))) (pw_or (pt_cmpR (op_neX hr.units) (pv 10) (pe_call Gdu hrdu rfl mGdu kGdu bGdu .nil pass0 (pa_cons (pv 6) (pa_cons (pe_ix ix_tup (pv 9) pe_int (fun _ _ => rfl)) pa_nil))) (nomark _)) (pw_or1 (pt_cmpR (op_neX hr.units) (pv 8) (pv 6) (nomark _)))))) (@pss_one _ _ _ (by exact @ps_ret _ _ _ _ pe_bl)) pss_nil) (@pss_cons _ _ _ _ _ (by exact ps_if (pt_cmpR (op_neX hr.units) (pe_call Gpp hrpp rfl mGpp kGpp bGpp .nil (E := E0) pass_no (pa_cons (pe_call Gcp hrcp rfl mGcp kGcp bGcp .nil pass0 (pa_cons (pv 10) pa_nil)) (pa_cons (pe_ix ix_tup (pv 9) pe_int (fun _ _ => rfl)) pa_nil))) (pv 10) (nomark _)) (@pss_one _ _ _ (by exact @ps_ret _ _ _ _ pe_bl)) pss_nil) (@pss_one _ _ _ (by exact ps_for PassesOwn.never rfl (pi_list (pv 10)) (pg_name (i := 11) scLaw.nd rfl (Or.inl rfl)) (@pss_one _ _ _ (by exact ps_expr (pe_bm PySem.F.plainAttrs_list PySem.F.slot_list_append PySem.F.type_list_append mt_append (pe_ix ix_tup (pv 11) pe_int (fun _ _ => rfl)) (pa_cons pe_int pa_nil))))))))))
    (@pss_cons _ _ _ _ _ (by exact ps_set (i := 12) scLaw.nd rfl (Or.inl rfl) (pe_call Gst hrst rfl mGst kGst bGst .nil pass0 (pa_cons (pv 4) (pa_cons (pv 6) (pa_cons (pv 1) (pa_cons (pv 3) pa_nil))))))
    (@pss_cons _ _ _ _ _ (by exact ps_if (pt_cmpR (op_inX hr.units) (pv 12) (pe_comp ["_law_step"] [] [] rfl (pi_list (pv 6)) (fun _ _ _ => pg_name (i := 0) ndst rfl (Or.inl rfl)) (fun _ _ _ => pts_nil) (fun _ _ _ => (pe_ix (r := rIxT K) ix_tup (pv 0) pe_int (fun _ _ => rfl)))) rfl) (@pss_one _ _ _ (by exact @ps_ret _ _ _ _ (pe_cmpR (op_eqX hr.units) (pv 8) (pv 6) (nomark _)))) pss_nil)
    (@pss_one _ _ _ (by exact @ps_ret _ _ _ _ (pe_and (pe_call Gre hrre rfl mGre kGre bGre .nil pass0 (pa_cons (pv 8) (pa_cons (pv 12) pa_nil))) (pe_one (pe_cmpR (op_eqX hr.units) (pv 8) (pv 6) (nomark _)))))))))))))))), ?_⟩
  refine ⟨_, rfl, a, ns, 0, rfl, hS, by decide, fun r0 => ⟨_, 3, rfl, by decide, by decide, fun lk H1 ws s1 f1 e1 l1 w1 => ?_⟩⟩
  refine ⟨_, rfl, a, ns, 1, rfl, s1.seq hS, by decide, fun r1 => ⟨_, 2, rfl, by decide, by decide, fun lt H2 ts s2 f2 e2 l2 w2 => ?_⟩⟩
  have s02 := s1.trans s2
  refine ⟨_, rfl, a, ns, 2, rfl, s02.seq hS, by decide, fun r2 => ⟨_, 2, rfl, by decide, by decide, fun lh H3 hs s3 f3 e3 l3 w3 => ?_⟩⟩
  have s03 := s02.trans s3
  refine ⟨_, rfl, a, ns, 3, rfl, s03.seq hS, by decide, fun r3 => ⟨_, _, rfl, rfl, (show (0 : Int) < 2147483647 by decide), small2 (by show 2 ≤ 1000; decide), fun b hb => ?_⟩⟩
  have s4 := same_new hb (.lst [.int (r3 % 2147483647), .int 10])
  have s04 := s03.trans s4
  have e1' := (s2.trans s3) _ _ e1
  have e2' := s3 _ _ e2
  have nkb := ne_of_none e1' hb
  have ntb := ne_of_none e2' hb
  have nhb := ne_of_none e3 hb
  refine ⟨small2 (by show 2 ≤ 1000; decide), fun l1 h1 => ?_⟩
  have s5 := same_new h1 (.lst [.int 1, .int 2])
  refine ⟨_, rfl, _, rfl, _, rfl, _, rfl, (by simp), a, _, rfl, (s04.trans s5).seq hS, fun l2 ys2 h2 my2 ly2 _ => ?_⟩
  obtain ⟨ms2, rfl⟩ := ints_of my2
  have s6 := same_new h2 (.lst (ms2.map V.int))
  rw [List.length_map, List.length_map] at ly2
  refine ⟨l1, l2, _, _, rfl, rfl, s6 _ _ upd_same, upd_same, small2 (by rw [List.length_map]; show 2 + _ ≤ 1000; omega), fun lc h3 => ?_⟩
  have s7 := same_new h3 (.lst ([.int 1, .int 2] ++ ms2.map V.int))
  have s47 := (s5.trans s6).trans s7
  have s07 := s04.trans s47
  have eb7 := s47 _ _ (show upd H3 b (.lst [.int (r3 % 2147483647), .int 10]) b = _ from upd_same)
  have nlc : lc ≠ b := fun z => by rw [z, (s5.trans s6) _ _ (show upd H3 b (.lst [.int (r3 % 2147483647), .int 10]) b = _ from upd_same)] at h3; cases h3
  have en7 : Env (upd (upd (upd (upd H3 b (.lst [.int (r3 % 2147483647), .int 10])) l1 (.lst [.int 1, .int 2])) l2 (.lst (ms2.map V.int))) lc (.lst ([.int 1, .int 2] ++ ms2.map V.int))) b lk lt lh ws ts hs :=
    ⟨s47 _ _ (s4 _ _ e1'), by omega, fun z hz => dk_wd (w1 z hz), s47 _ _ (s4 _ _ e2'), by omega, s47 _ _ (s4 _ _ e3), by omega, fun z hz => dk_thg (w3 z hz), nkb, ntb, nhb⟩
  have nab : ∀ o, H a = some o → a ≠ b := fun o h z => by rw [z] at h; rw [s03 _ _ h] at hb; cases hb
  refine ⟨_, rfl, _, rfl, _, rfl, _, rfl, lc, b, lk, lt, lh, _, _, 1 :: 2 :: ms2, ws, ts, hs, rfl, upd_same, nlc, by show ms2.length + 1 + 1 ≤ 90; omega, eb7, en7, fun lp H7 ys ps x7 y7 k7 n7 e7 pr7 lps dps b7 => ?_⟩
  have en8 := en7.kp k7
  have ha7 : ∀ o, H a = some o → H7 a = some o ∧ a ≠ b := fun o h => ⟨k7.but _ _ (one_not (nab o h)) (s07 _ _ h), nab o h⟩
  have hS7 : SqL K H7 a (ns.map V.int) := seqK hS fun o h => (ha7 o h).1
  have lps' : ps.length = ms2.length + 1 + 1 := lps
  have npb : lp ≠ b := fun z => by rw [z, eb7] at n7; cases n7
  clear s47 s7 s6 s5 h3 h2 h1 my2 eb7 nlc en7 lps k7 n7 s04 s4 s03 s3 s02 s2 s1 nab hb s07
  refine ⟨Nat.zero_le _, fun ls hls => ?_⟩
  have sl := same_new hls (.lst [])
  have nsb : ls ≠ b := fun z => by rw [z, b7] at hls; cases hls
  have nps : lp ≠ ls := ne_of_none e7 hls
  have hL7 : ∀ {H' : Hp} {x' y' : Int}, H' b = some (.lst [.int x', .int y']) → ∀ {xs : List V}, H' ls = some (.lst xs) → ∀ c ∈ [b, ls], H' c ≠ none := fun {H'} {x'} {y'} h1 {xs} h2 c hc => by
    rcases List.mem_cons.mp hc with rfl | hc
    · rw [h1]; exact fun z => by cases z
    · rw [List.mem_singleton.mp hc, h2]; exact fun z => by cases z
  refine ⟨fun σ H' => ∃ (xs : List V) (ss : List Stp) (x' y' : Int) (o7 : Option V), σ = [some (.ref a), some (.ref lk), some (.ref lt), some (.ref lh), some (.ref b), some (.ref lp), some (.ref ls), o7, none, none, none, none, none] ∧ Kp [b, ls] H7 H' ∧ H' b = some (.lst [.int x', .int y']) ∧ H' ls = some (.lst xs) ∧ StL [b, ls] H' xs ss ∧ 0 < ss.length ∧ ss.length ≤ 60 ∧ (∀ s ∈ ss, okE s.f) ∧ okS ss, ?_, ?_⟩
  · refine ⟨small2 (by show 3 ≤ 1000; decide), fun l1 h1 => ?_⟩
    have s1 := same_new h1 (.lst [.int 1, .int 2, .int 3])
    refine ⟨_, rfl, _, rfl, _, rfl, _, rfl, (by simp), a, _, rfl, (sl.trans s1).seq hS7, fun l2 y5 h2 m5 _ ly5 => ?_⟩
    have q5 := Nat.le_trans ly5 (sidx_len (l := 5) (u := 50) _)
    obtain ⟨ms5, rfl⟩ := ints_of m5
    have s2 := same_new h2 (.lst (ms5.map V.int))
    rw [List.length_map] at q5
    refine ⟨l1, l2, _, _, rfl, rfl, s2 _ _ upd_same, upd_same, small2 (by rw [List.length_map]; show 3 + _ ≤ 1000; omega), fun l3 h3 => ?_⟩
    have s3 := same_new h3 (.lst ([.int 1, .int 2, .int 3] ++ ms5.map V.int))
    have s13 := (s1.trans s2).trans s3
    refine ⟨_, rfl, _, rfl, _, rfl, _, rfl, (by simp), a, _, rfl, (sl.trans s13).seq hS7, fun l4 y6 h4 m6 _ ly6 => ?_⟩
    have q6 := Nat.le_trans ly6 (sidx_len (l := 6) (u := 51) _)
    obtain ⟨ms6, rfl⟩ := ints_of m6
    have s4 := same_new h4 (.lst (ms6.map V.int))
    rw [List.length_map] at q6
    refine ⟨l3, l4, _, _, rfl, rfl, s4 _ _ upd_same, upd_same, small2 (by rw [List.length_append, List.length_map, List.length_map]; show 3 + _ + _ ≤ 1000; omega), fun l5 h5 => ?_⟩
    have s5 := same_new h5 (.lst (([.int 1, .int 2, .int 3] ++ ms5.map V.int) ++ ms6.map V.int))
    have s15 := (s13.trans s4).trans s5
    have s75 := sl.trans s15
    have els5 := s15 _ _ (show upd H7 ls (.lst []) ls = _ from upd_same)
    have eb5 := s75 _ _ b7
    have nl5s : l5 ≠ ls := fun z => by rw [z, (s13.trans s4) _ _ (show upd H7 ls (.lst []) ls = _ from upd_same)] at h5; cases h5
    have nl5b : l5 ≠ b := fun z => by rw [z, ((sl.trans s13).trans s4) _ _ b7] at h5; cases h5
    refine ⟨l5, rfl, ⟨_, SqL.of upd_same⟩, ?_⟩
    obtain ⟨H9, h9⟩ : ∃ H9 : Hp, H9 = upd (upd (upd (upd (upd (upd H7 ls (.lst [])) l1 (.lst [.int 1, .int 2, .int 3])) l2 (.lst (ms5.map V.int))) l3 (.lst ([.int 1, .int 2, .int 3] ++ ms5.map V.int))) l4 (.lst (ms6.map V.int))) l5 (.lst (([.int 1, .int 2, .int 3] ++ ms5.map V.int) ++ ms6.map V.int)) := ⟨_, rfl⟩
    have eL : H9 l5 = some (.lst (([.int 1, .int 2, .int 3] ++ ms5.map V.int) ++ ms6.map V.int)) := by rw [h9]; exact upd_same
    rw [← h9] at s75 els5 eb5 ⊢
    have eLi : ([V.int 1, .int 2, .int 3] ++ ms5.map V.int) ++ ms6.map V.int = (([1, 2, 3] ++ ms5) ++ ms6 : List Int).map V.int := by rw [List.map_append, List.map_append]; rfl
    have lLi : (([1, 2, 3] ++ ms5) ++ ms6 : List Int).length ≤ 33 := by rw [List.length_append, List.length_append]; show 3 + _ + _ ≤ 33; omega
    have pLi : 0 < (([1, 2, 3] ++ ms5) ++ ms6 : List Int).length := by rw [List.length_append, List.length_append]; show 0 < 3 + _ + _; omega
    rw [eLi] at eL
    generalize (([1, 2, 3] ++ ms5) ++ ms6 : List Int) = cs at eL lLi pLi ⊢
    refine for_list (xs := cs.map V.int) (fun i σ H' => (∃ o7 : Option V, σ = [some (.ref a), some (.ref lk), some (.ref lt), some (.ref lh), some (.ref b), some (.ref lp), some (.ref ls), o7, none, none, none, none, none]) ∧ Kp [b, ls] H9 H' ∧ (∃ x' y', H' b = some (.lst [.int x', .int y'])) ∧ ∃ xs ss, H' ls = some (.lst xs) ∧ StL [b, ls] H' xs ss ∧ ss.length = i ∧ (∀ s ∈ ss, okE s.f) ∧ okS ss)
      ⟨⟨_, rfl⟩, Kp.refl _ _, ⟨_, _, eb5⟩, [], [], els5, .nil, rfl, fun _ h => (List.not_mem_nil h).elim, fun i s e => by simp at e⟩ ?_ ?_ ?_
    · rintro i σ H' hi ⟨_, k, _⟩
      exact SqL.of (k.but _ _ (two_not nl5b nl5s) eL)
    · rintro i v σ H' hx ⟨⟨o7, rfl⟩, k, ⟨x', y', b'⟩, xs, ss, els, stl, lss, oks, okf⟩
      have hi : i < cs.length := by have := (List.getElem?_eq_some_iff.mp hx).1; rwa [List.length_map] at this
      obtain ⟨c, rfl⟩ : ∃ c : Int, v = .int c := by
        obtain ⟨c, _, e⟩ := List.mem_map.mp (List.mem_of_getElem? hx)
        exact ⟨c, e.symm⟩
      have k7' : Kp [b] H7 H' := Kp.drop hls ((Kp.of s75).trans k)
      have lxs := StL.len stl
      refine ⟨_, rfl, .inl ⟨rfl, _, SqL.of els⟩, _, rfl, _, rfl, _, rfl, _, rfl, _, rfl, [b, ls], b, ls, lp, lk, lt, lh, x', y', xs, ss, ys, ps, ws, ts, hs, rfl, hL7 b' els, b', els, nsb, stl.weak (by simp), by omega, oks, k7'.but _ _ (one_not npb) e7, npb, PrL.mono k7'.tups pr7, by omega, by omega, dps, en8.kp k7', fun v2 H2 st x2 y2 k2 b2 is2 ok2 l2' => ?_⟩
      have els2 := k2.but _ _ (one_not nsb) els
      refine ⟨ls, xs, v2, rfl, rfl, els2, small1000 (by omega), ?_⟩
      have kl : Kp [b, ls] H2 (upd H2 ls (.lst (xs ++ [v2]))) := Kp.lst (by simp) els2
      have b3 : upd H2 ls (.lst (xs ++ [v2])) b = some (.lst [.int x2, .int y2]) := by rw [upd_ne (Ne.symm nsb)]; exact b2
      refine ⟨_, rfl, b, _, 0, _, rfl, rfl, SqL.of b3, atI_nat (j := 0) rfl, _, rfl, _, _, rfl, rfl, _, _, rfl, rfl, (show (0 : Int) < 2147483647 by decide), _, rfl, b, _, 0, 0, rfl, rfl, b3, ixN0 _, ?_⟩
      have kb : Kp [b, ls] (upd H2 ls (.lst (xs ++ [v2]))) (upd (upd H2 ls (.lst (xs ++ [v2]))) b (.lst [.int ((x2 + c) % 2147483647), .int y2])) := Kp.lst (by simp) b3
      have k24 := kl.trans kb
      have k2' : Kp [b, ls] H' H2 := k2.mono (by simp)
      refine ⟨⟨_, rfl⟩, (k.trans k2').trans k24, ⟨_, _, upd_same⟩, xs ++ [v2], ss ++ [st], ?_, paired_app (StL.keep (k2'.trans k24) stl) (.cons (IsStp.keep k24 is2) .nil), by rw [List.length_append, lss]; rfl, fun s hs => ?_, okS_snoc okf l2'⟩
      · show upd (upd H2 ls (.lst (xs ++ [v2]))) b (.lst [.int ((x2 + c) % 2147483647), .int y2]) ls = _
        rw [upd_ne nsb]; exact upd_same
      · rcases List.mem_append.mp hs with hs | hs
        · exact oks s hs
        · rw [List.mem_singleton.mp hs]; exact ok2
    · rintro σ H' ⟨⟨o7, rfl⟩, k, ⟨x', y', b'⟩, xs, ss, els, stl, lss, oks, okf⟩
      rw [List.length_map] at lss
      exact ⟨xs, ss, x', y', o7, rfl, (Kp.of s75).trans k, b', els, stl, by omega, by omega, oks, okf⟩
  rintro σ H8 ⟨xs, ss, x8, y8, o7, rfl, k8, b8, els8, st8, ss0, lss, oks, okf⟩
  have e78 := en8.kp (Kp.drop hls k8)
  clear hS7 hL7 k8 pr7 e7 sl hls en8 ha7 b7
  have lo8 : ∀ s ∈ ss, s.f.lo 8 := fun s hs => (oks s hs).lo7.le (by decide)
  have dp6 : ∀ s ∈ ss, s.f.tx.dp ≤ 60 := fun s hs => Fa.dp60 (lo8 s hs)
  refine ⟨_, rfl, ls, xs, ss, rfl, els8, st8.loose, by omega, fun ln H9 xs' s9 hln9 eln9 stn9 => ?_⟩
  have b9 := s9 _ _ b8
  have els9 := s9 _ _ els8
  have nlb : ln ≠ b := fun z => by rw [z, b8] at hln9; cases hln9
  have st9 : StL [b] H9 xs ss := StL.keep (.of s9) (st8.weak (by simp))
  have lt9 : StL [b] H9 xs' ss := stn9.off b8
  have e9 := e78.kp (.of s9)
  clear st8 stn9 b8 els8 e78 s9 hln9
  have xal : ∀ {H' : Hp} {l : Addr} {L : List Addr} {ys : List V} {qs : List Stp}, H' l = some (.lst ys) → StL L H' ys qs → Xa H' (.lst (qs.map Stp.tx)) (.ref l) := fun {H'} {l} {L} {ys} {qs} h1 h2 => ⟨l, _, rfl, h1, StL.xas h2⟩
  refine ⟨fun σ H' => (∃ o9 o10 o11 : Option V, σ = [some (.ref a), some (.ref lk), some (.ref lt), some (.ref lh), some (.ref b), some (.ref lp), some (.ref ls), o7, some (.ref ln), o9, o10, o11, none]) ∧ Same H9 H', ?_, ?_⟩
  · refine ⟨_, rfl, ls, rfl, ⟨_, SqL.of els9⟩, for_list (xs := xs) (fun i σ H' => (∃ o9 o10 o11 : Option V, σ = [some (.ref a), some (.ref lk), some (.ref lt), some (.ref lh), some (.ref b), some (.ref lp), some (.ref ls), o7, some (.ref ln), o9, o10, o11, none]) ∧ Same H9 H') ⟨⟨_, _, _, rfl⟩, Same.refl _⟩ ?_ ?_ ?_⟩
    · rintro i σ H' hi ⟨_, sm⟩
      exact SqL.of (sm _ _ els9)
    · rintro i x σ H' hx ⟨⟨o9, o10, o11, rfl⟩, sm⟩
      obtain ⟨st, hst, p, pf, vf, rfl, hp, ig, hpf, _⟩ := paired_get (StL.keep (.of sm) st9) hx
      have stm := List.mem_of_getElem? hst
      refine ⟨_, rfl, _, rfl, p, _, _, _, rfl, rfl, SqT.of hp, rfl, ln, vf, xs', ss, st.f, rfl, sm _ _ eln9, (StL.keep (.of sm) lt9).loose, okf, lss, dp6, ig, fun lf H1 tv a0 s0 nn sm1 hlf elf stf hs0 hf0 no0 need => ?_, fun no => absurd rfl (no st stm)⟩
      have ha0 : a0 < ss.length := (List.getElem?_eq_some_iff.mp hs0).1
      have pm := fun t ht => paper_mem okf ha0 need (t := t) ht
      have plo : ∀ t ∈ paperOf ss nn, t.f.lo 7 := fun t ht => by
        obtain ⟨s', hs', e⟩ := (pm t ht).1
        rw [e]; exact (oks s' hs').lo7
      have plo8 : ∀ t ∈ paperOf ss nn, t.f.lo 8 := fun t ht => (plo t ht).le (by decide)
      have pl : (paperOf ss nn).length ≤ 60 := by
        rw [paper_len]
        have := nat_nodup ss.length (strict_nodup need.1) fun z hz => by have := need_lt okf ha0 need hz; omega
        omega
      refine ⟨_, rfl, lf, tv, paperOf ss nn, rfl, elf, stf.st, fun t ht => ⟨plo t ht, (pm t ht).2⟩, fun H2 s2 => ⟨_, rfl, iteF ?_⟩⟩
      have s02 := sm.trans (sm1.trans s2)
      have hp2 := (sm1.trans s2) _ _ hp
      refine ⟨_, rfl, _, rfl, _, rfl, p, _, _, _, rfl, rfl, SqT.of hp2, rfl, ls, vf, xs, ss, st.f, a0, s0, rfl, s02 _ _ els9, (StL.keep (.of s02) st9).loose, okf, lss, dp6, ig.mono (sm1.trans s2).tups, hs0, hf0, no0, fun ld H3 tv3 ns3 s3 eld st3 need3 => ?_⟩
      have := need3.one need
      subst this
      have s13 := s2.trans s3
      have s03 := s02.trans s3
      have elf3 := s13 _ _ elf
      have stf3 := StN.same s13 stf
      refine ⟨_, _, xal elf3 stf3.st, xal eld st3, steps_dp plo8, _, rfl, ?_⟩
      rw [decide_eq_true (show Tx.lst ((paperOf ss ns3).map Stp.tx) = _ from rfl)]
      refine iteF ⟨_, rfl, _, rfl, _, _, xal (s03 _ _ eln9) (StL.keep (.of s03) lt9), xal (s03 _ _ els9) (StL.keep (.of s03) st9), steps_dp lo8, _, rfl, ?_⟩
      rw [decide_eq_true (show Tx.lst (ss.map Stp.tx) = _ from rfl)]
      refine iteF ⟨_, rfl, lf, tv, paperOf ss ns3, rfl, elf3, stf3.st, by omega, fun lc H4 xs4 s4 hlc elc stn4 => ?_⟩
      have hp4 := (s3.trans s4) _ _ hp2
      obtain ⟨⟨sn, hsn, hfn⟩, non⟩ := paper_first okf ha0 need (f := st.f) (by rw [stAt_eq hs0]; exact hf0) no0
      refine ⟨_, rfl, p, _, _, _, rfl, rfl, SqT.of hp4, rfl, lc, vf, xs4, paperOf ss ns3, st.f, rfl, elc, stn4.st, paper_okS okf ha0 need, pl, fun t ht => Fa.dp60 (plo8 t ht), ig.mono (sm1.trans (s13.trans s4)).tups, fun l5 H5 tv5 a5 s5 ns5 sm5 hl5 el5 stn5 hs5 hf5 no5 need5 => ?_, fun no => absurd hfn (no sn (List.mem_of_getElem? hsn))⟩
      have ea := first_one hs5 hf5 no5 hsn hfn non
      subst ea
      rw [paper_again okf ha0 need need5] at stn5
      have s15 := s13.trans (s4.trans sm5)
      have elf5 := s15 _ _ elf
      have stf5 := StN.same s15 stf
      refine ⟨_, rfl, _, _, xal el5 stn5.st, xal elf5 stf5.st, steps_dp plo8, _, rfl, ?_⟩
      rw [decide_eq_true (show Tx.lst ((paperOf ss ns3).map Stp.tx) = _ from rfl)]
      have ltv : tv.length ≤ 60 := by rw [Paired.length stf5]; exact pl
      refine iteF ⟨_, rfl, lf, rfl, ⟨_, SqL.of elf5⟩, for_list (xs := tv) (fun i σ H6 => (∃ o11 : Option V, σ = [some (.ref a), some (.ref lk), some (.ref lt), some (.ref lh), some (.ref b), some (.ref lp), some (.ref ls), o7, some (.ref ln), some (.ref p), some (.ref lf), o11, none]) ∧ Same H' H6 ∧ H6 lf = some (.lst tv) ∧ Grw H' H6 lf i tv) ⟨⟨_, rfl⟩, sm1.trans s15, elf5, grw_of elf5 stf5 (fun t ht => (pm t ht).2) fun v hv => hv⟩ ?_ ?_ ?_⟩
      · rintro j σ H6 hj ⟨_, _, e6, _⟩
        exact SqL.of e6
      · rintro j v σ H6 hv ⟨⟨o11, rfl⟩, s6, e6, g6⟩
        have hj : j < tv.length := (List.getElem?_eq_some_iff.mp hv).1
        obtain ⟨p6, f6, vf6, r6, n6, y6, rfl, hp6, hf6, ly6, nf6, nl6⟩ := g6 v (List.mem_of_getElem? hv)
        refine ⟨_, rfl, p6, _, _, _, rfl, rfl, SqT.of hp6, rfl, .inl ⟨rfl, _, SqL.of hf6⟩, f6, y6, _, rfl, rfl, hf6, small1000 (by omega), ⟨_, rfl⟩, same_upd s6 nf6, by rw [upd_ne (Ne.symm nl6)]; exact e6, g6.step hf6 ly6⟩
      · rintro σ H6 ⟨⟨o11, rfl⟩, s6, _⟩
        exact ⟨⟨_, _, _, rfl⟩, sm.trans s6⟩
    · rintro σ H' h
      exact h
  rintro σ H10 ⟨⟨o9, o10, o11, rfl⟩, sm⟩
  have b10 := sm _ _ b9
  have st10 := StL.keep (.of sm) st9
  have lt10 := StL.keep (.of sm) lt9
  refine ⟨_, rfl, _, rfl, _, rfl, _, rfl, b, ls, lk, lt, lh, x8, y8, xs, ss, ws, ts, hs, rfl, b10, sm _ _ els9, nsb, st10, ss0, oks, e9.kp (.of sm), fun v H11 ff x' y' k11 b11 iff lo => ?_⟩
  have els11 := k11.but _ _ (one_not nsb) (sm _ _ els9)
  have eln11 := k11.but _ _ (one_not nlb) (sm _ _ eln9)
  have st11 := (StL.keep k11 st10).loose
  have lt11 := (StL.keep k11 lt10).loose
  have lx := StL.len st11
  refine ⟨_, rfl, _, rfl, ls, rfl, ⟨_, SqL.of els11⟩, fun D hD => ?_⟩
  refine cmp_by xs.length (fun i σ H3 => (∃ o, σ = [o]) ∧ Same H11 H3 ∧ ∃ ys, H3 D = some (.lst ys) ∧ FaL H3 ys (ss.take i)) ⟨⟨_, rfl⟩, same_new hD _, [], upd_same, .nil⟩ ?_ ?_
  rotate_left
  · rintro i σ H3 hi ⟨⟨o, rfl⟩, s3, ys, e3, x3⟩
    have hls3 := s3 _ _ els11
    refine ⟨⟨_, _, SqL.of hls3, List.getElem?_eq_getElem hi⟩, ?_⟩
    rintro x H4 ⟨rfl, hx1⟩
    have hx2 := hx1 _ (SqL.of hls3)
    obtain ⟨t, ht, p, pf, vg, rfl, hp, ig, hpf, _⟩ := paired_get (StL.keep (.of s3) st11) hx2
    have ly := Paired.length x3
    rw [List.length_take] at ly
    refine ⟨_, rfl, p, _, _, _, rfl, rfl, SqT.of hp, rfl, _, e3, small1000 (by omega), ⟨_, rfl⟩, same_upd s3 hD, _, upd_same, ?_⟩
    rw [List.take_succ, ht]
    have tt : Tups H4 (upd H4 D (.lst (ys ++ [vg]))) := tups_lst e3
    exact paired_app (Paired.imp' (fun _ _ q => q.mono tt) x3) (.cons (ig.mono tt) .nil)
  rintro σ H3 ⟨_, s3, ys, e3, x3⟩
  rw [lx, List.take_length] at x3
  have els3 := s3 _ _ els11
  have eln3 := s3 _ _ eln11
  have st3 := StL.keep (L := []) (.of s3) st11
  have lt3 := StL.keep (L := []) (.of s3) lt11
  refine ⟨⟨_, SqL.of els3, Nat.le_refl _⟩, ?_⟩
  have fin : ∀ H', Q (.bl (decide (Tx.lst (ss.map Stp.tx) = Tx.lst (ss.map Stp.tx)))) H' := fun H' => by rw [decide_eq_true rfl]; exact q H'
  refine ⟨D, ff.tx, ys, _, rfl, e3, x3.xas, (iff.mono s3.tups).xa, fun d hd => ?_, _, rfl, ite2 (fun c => ?_) (fun c => ?_)⟩
  · obtain ⟨t, ht, rfl⟩ := List.mem_map.mp hd
    exact dp6 t ht
  · exact ⟨_, rfl, _, rfl, _, _, xal eln3 lt3, xal els3 st3, steps_dp lo8, fin _⟩
  · have no : ∀ s ∈ ss, s.f ≠ ff := fun s hs z => c (decide_eq_true (List.mem_map.mpr ⟨s, hs, by rw [z]⟩))
    refine ⟨_, rfl, _, rfl, ln, v, xs', ss, ff, rfl, eln3, lt3, okf, lss, dp6, iff.mono s3.tups, Fa.dp60 (lo.le (by decide)), no, fun H13 s13 => ⟨_, rfl, iteT ?_⟩⟩
    exact ⟨_, rfl, _, rfl, _, _, xal (s13 _ _ eln3) (StL.keep (L := []) (.of s13) lt3), xal (s13 _ _ els3) (StL.keep (L := []) (.of s13) st3), steps_dp lo8, fin _⟩
end
end K23
namespace K23
open PySem L2
section
variable {K : PySem.W.Frag} {C c Ck N : Addr}
theorem nsok_of {oc : Value} {od : Option Addr} {es : Array DictEntry} {n : Nat} {sl : Array (Option Value)} (l : K.lookup N = some ⟨oc, od, .dict es n, sl⟩) (h : (es.toList.all fun e => match e.key with | .str _ _ => true | _ => false) = true) : PySem.W.nsOkIn K N = true := by
  unfold PySem.W.nsOkIn
  rw [l]
  exact (Array.all_toList ..).symm.trans h
theorem rf_of {nm q : Str} {bs : List Value} {hdct : Bool} {sn : List Str} {sub : List Value} {ab : Bool} {col : Option Bool} {dd : Option Addr} {kk0 kk1 kk2 kk3 kk5 : Option Value} (lC : K.lookup C = some (excClassObj nm q C N bs (.ref Ck :: veB) hdct sn sub ab col dd kk0 kk1 kk2 kk3 kk5 "ValueError.__new__")) : ∃ cd, PySem.W.clsIn K C = some cd ∧ ∀ self, refuseLoop self "__setattr__" cd.mro = pure () := by
  refine ⟨_, by unfold PySem.W.clsIn; rw [lC], fun self => ?_⟩
  show refuseLoop self "__setattr__" (.ref C :: .ref Ck :: veB) = pure ()
  rw [refuseLoop_ref, refuseLoop_ref]
  exact PySem.F.store_ValueError.passes self
theorem tail_one {ock : Value} {odk : Option Addr} {cdk : ClassData} {slk : Array (Option Value)} (lk : K.lookup Ck = some ⟨ock, odk, .cls cdk, slk⟩) (ok : PySem.W.nsOkIn K cdk.ns = true) (ik : PySem.W.nsIn K cdk.ns "__init__" = some none) : PySem.W.tailIn K veB (.ref Ck :: veB) = true := by
  unfold PySem.W.tailIn
  dsimp only
  rw [lk]
  dsimp only
  rw [ok, ik]
  rfl
theorem meta_ve : PySem.W.kitMeta "ValueError" = true := by decide +kernel
theorem kit_ty (s : PySem.W.subIn K (.ref C) (.type "ValueError") = some true) : PySem.W.kitOne K (.ref C) (.type "ValueError") = some true := by
  unfold PySem.W.kitOne
  rw [if_neg (by simp)]
  unfold PySem.W.kitCls
  dsimp only
  rw [meta_ve, s]
  rfl
theorem kit_self : PySem.W.kitOne K (.ref C) (.ref C) = some true := by
  unfold PySem.W.kitOne
  rw [if_pos (by simp)]
theorem kit_cl {b : Bool} (w : PySem.W.isClsIn K c = true) (t : PySem.W.typeIn K (.ref c) = some (.type "type")) (s : PySem.W.subIn K (.ref C) (.ref c) = some b) : PySem.W.kitCls K (.ref C) (.ref c) = some b := by
  unfold PySem.W.kitCls
  dsimp only
  rw [show (PySem.W.clsIn K c).isSome = true from w, t, s]
  rfl
theorem kit_no (w : PySem.W.isClsIn K c = true) (t : PySem.W.typeIn K (.ref c) = some (.type "type")) (s : PySem.W.subIn K (.ref C) (.ref c) = some false) (u : (Value.ref C == Value.ref c) = false) : PySem.W.kitOne K (.ref C) (.ref c) = some false := by
  unfold PySem.W.kitOne
  rw [u, kit_cl w t s]
  rfl
theorem kit_five {e1 e2 e3 e4 e5 : Addr}
(w1 : PySem.W.isClsIn K e1 = true) (t1 : PySem.W.typeIn K (.ref e1) = some (.type "type")) (s1 : PySem.W.subIn K (.ref C) (.ref e1) = some false) (u1 : (Value.ref C == Value.ref e1) = false) (w2 : PySem.W.isClsIn K e2 = true) (t2 : PySem.W.typeIn K (.ref e2) = some (.type "type")) (s2 : PySem.W.subIn K (.ref C) (.ref e2) = some false) (u2 : (Value.ref C == Value.ref e2) = false) (w3 : PySem.W.isClsIn K e3 = true) (t3 : PySem.W.typeIn K (.ref e3) = some (.type "type")) (s3 : PySem.W.subIn K (.ref C) (.ref e3) = some false) (u3 : (Value.ref C == Value.ref e3) = false) (w4 : PySem.W.isClsIn K e4 = true) (t4 : PySem.W.typeIn K (.ref e4) = some (.type "type")) (s4 : PySem.W.subIn K (.ref C) (.ref e4) = some false) (u4 : (Value.ref C == Value.ref e4) = false) (w5 : PySem.W.isClsIn K e5 = true) (t5 : PySem.W.typeIn K (.ref e5) = some (.type "type")) (s5 : PySem.W.subIn K (.ref C) (.ref e5) = some false) (u5 : (Value.ref C == Value.ref e5) = false) : PySem.W.kitAny K (.ref C) [.ref e1, .ref e2, .ref e3, .ref e4, .ref e5] = some false := by
  simp only [PySem.W.kitAny, kit_no w1 t1 s1 u1, kit_no w2 t2 s2 u2, kit_no w3 t3 s3 u3, kit_no w4 t4 s4 u4, kit_no w5 t5 s5 u5]
theorem exm_ref (w : PySem.W.isClsIn K Ck = true) (t : PySem.W.typeIn K (.ref Ck) = some (.type "type")) (s : PySem.W.subIn K (.ref C) (.ref Ck) = some true) (s' : PySem.W.subIn K (.ref Ck) (.type "BaseException") = some true) : PySem.W.exmOne K (.ref C) (.ref Ck) = some true := by
  unfold PySem.W.exmOne
  rw [s', kit_cl w t s]
  rfl
end
theorem all_mk {l : PySem.W.OpenLaw} {w : World} {K : PySem.W.Frag} {h : Heap} {mg : Str → Option Value} {fa : Addr} (X : K.In h) (G : h.Ns mainGlobals mg) (hfa : mg "law" = some (.ref fa))
    {f1 : Addr} {od1 an1 : Option Addr} {sl1 : Array (Option Value)} {oc1 kV1 dc1 pm1 cd1 ct1 : Value}
    {f2 : Addr} {od2 an2 : Option Addr} {sl2 : Array (Option Value)} {oc2 kV2 dc2 pm2 cd2 ct2 : Value}
    {f3 : Addr} {od3 an3 : Option Addr} {sl3 : Array (Option Value)} {oc3 kV3 dc3 pm3 cd3 ct3 : Value}
    {f4 : Addr} {od4 an4 : Option Addr} {sl4 : Array (Option Value)} {oc4 kV4 dc4 pm4 cd4 ct4 : Value}
    {f5 : Addr} {od5 an5 : Option Addr} {sl5 : Array (Option Value)} {oc5 kV5 dc5 pm5 cd5 ct5 : Value}
    {f6 : Addr} {od6 an6 : Option Addr} {sl6 : Array (Option Value)} {oc6 kV6 dc6 pm6 cd6 ct6 : Value}
    {f7 : Addr} {od7 an7 : Option Addr} {sl7 : Array (Option Value)} {oc7 kV7 dc7 pm7 cd7 ct7 : Value}
    {f8 : Addr} {od8 an8 : Option Addr} {sl8 : Array (Option Value)} {oc8 kV8 dc8 pm8 cd8 ct8 : Value}
    {f9 : Addr} {od9 an9 : Option Addr} {sl9 : Array (Option Value)} {oc9 kV9 dc9 pm9 cd9 ct9 : Value}
    {f10 : Addr} {od10 an10 : Option Addr} {sl10 : Array (Option Value)} {oc10 kV10 dc10 pm10 cd10 ct10 : Value}
    {f11 : Addr} {od11 an11 : Option Addr} {sl11 : Array (Option Value)} {oc11 kV11 dc11 pm11 cd11 ct11 : Value}
    {f12 : Addr} {od12 an12 : Option Addr} {sl12 : Array (Option Value)} {oc12 kV12 dc12 pm12 cd12 ct12 : Value}
    {f13 : Addr} {od13 an13 : Option Addr} {sl13 : Array (Option Value)} {oc13 kV13 dc13 pm13 cd13 ct13 : Value}
    {f14 : Addr} {od14 an14 : Option Addr} {sl14 : Array (Option Value)} {oc14 kV14 dc14 pm14 cd14 ct14 : Value}
    {f15 : Addr} {od15 an15 : Option Addr} {sl15 : Array (Option Value)} {oc15 kV15 dc15 pm15 cd15 ct15 : Value}
    {f16 : Addr} {od16 an16 : Option Addr} {sl16 : Array (Option Value)} {oc16 kV16 dc16 pm16 cd16 ct16 : Value}
    {f17 : Addr} {od17 an17 : Option Addr} {sl17 : Array (Option Value)} {oc17 kV17 dc17 pm17 cd17 ct17 : Value}
    {f18 : Addr} {od18 an18 : Option Addr} {sl18 : Array (Option Value)} {oc18 kV18 dc18 pm18 cd18 ct18 : Value}
    {f19 : Addr} {od19 an19 : Option Addr} {sl19 : Array (Option Value)} {oc19 kV19 dc19 pm19 cd19 ct19 : Value}
    {f20 : Addr} {od20 an20 : Option Addr} {sl20 : Array (Option Value)} {oc20 kV20 dc20 pm20 cd20 ct20 : Value}
    {f21 : Addr} {od21 an21 : Option Addr} {sl21 : Array (Option Value)} {oc21 kV21 dc21 pm21 cd21 ct21 : Value}
    {f22 : Addr} {od22 an22 : Option Addr} {sl22 : Array (Option Value)} {oc22 kV22 dc22 pm22 cd22 ct22 : Value}
    {f23 : Addr} {od23 an23 : Option Addr} {sl23 : Array (Option Value)} {oc23 kV23 dc23 pm23 cd23 ct23 : Value}
    {f24 : Addr} {od24 an24 : Option Addr} {sl24 : Array (Option Value)} {oc24 kV24 dc24 pm24 cd24 ct24 : Value}
    {f25 : Addr} {od25 an25 : Option Addr} {sl25 : Array (Option Value)} {oc25 kV25 dc25 pm25 cd25 ct25 : Value}
    {f26 : Addr} {od26 an26 : Option Addr} {sl26 : Array (Option Value)} {oc26 kV26 dc26 pm26 cd26 ct26 : Value}
    (a1 : PySem.W.nsIn K mainGlobals "place_of" = some (some (.ref f1))) (l1 : K.lookup f1 = some ⟨oc1, od1, .func (PySem.W.fnOf "place_of" "place_of" (defArgs sPlace) (defBody sPlace) (defScope sPlace) .none kV1 dc1 pm1 an1 cd1 ct1), sl1⟩) (c1 : PySem.W.codeIn K cd1 "place_of" = true) (k1 : PySem.W.keepIn K (.ref f1) = true)
    (a2 : PySem.W.nsIn K mainGlobals "needed_for" = some (some (.ref f2))) (l2 : K.lookup f2 = some ⟨oc2, od2, .func (PySem.W.fnOf "needed_for" "needed_for" (defArgs sNeeded) (defBody sNeeded) (defScope sNeeded) .none kV2 dc2 pm2 an2 cd2 ct2), sl2⟩) (c2 : PySem.W.codeIn K cd2 "needed_for" = true) (k2 : PySem.W.keepIn K (.ref f2) = true)
    (a3 : PySem.W.nsIn K mainGlobals "paper" = some (some (.ref f3))) (l3 : K.lookup f3 = some ⟨oc3, od3, .func (PySem.W.fnOf "paper" "paper" (defArgs sPaper) (defBody sPaper) (defScope sPaper) .none kV3 dc3 pm3 an3 cd3 ct3), sl3⟩) (c3 : PySem.W.codeIn K cd3 "paper" = true) (k3 : PySem.W.keepIn K (.ref f3) = true)
    (a4 : PySem.W.nsIn K mainGlobals "_law_cell" = some (some (.ref f4))) (l4 : K.lookup f4 = some ⟨oc4, od4, .func (PySem.W.fnOf "_law_cell" "_law_cell" (defArgs sCell) (defBody sCell) (defScope sCell) .none kV4 dc4 pm4 an4 cd4 ct4), sl4⟩) (c4 : PySem.W.codeIn K cd4 "_law_cell" = true) (k4 : PySem.W.keepIn K (.ref f4) = true)
    (a5 : PySem.W.nsIn K mainGlobals "_law_draw" = some (some (.ref f5))) (l5 : K.lookup f5 = some ⟨oc5, od5, .func (PySem.W.fnOf "_law_draw" "_law_draw" (defArgs sDraw) (defBody sDraw) (defScope sDraw) .none kV5 dc5 pm5 an5 cd5 ct5), sl5⟩) (c5 : PySem.W.codeIn K cd5 "_law_draw" = true) (k5 : PySem.W.keepIn K (.ref f5) = true)
    (a6 : PySem.W.nsIn K mainGlobals "_law_words" = some (some (.ref f6))) (l6 : K.lookup f6 = some ⟨oc6, od6, .func (PySem.W.fnOf "_law_words" "_law_words" (defArgs sWords) (defBody sWords) (defScope sWords) .none kV6 dc6 pm6 an6 cd6 ct6), sl6⟩) (c6 : PySem.W.codeIn K cd6 "_law_words" = true) (k6 : PySem.W.keepIn K (.ref f6) = true)
    (a7 : PySem.W.nsIn K mainGlobals "_law_things" = some (some (.ref f7))) (l7 : K.lookup f7 = some ⟨oc7, od7, .func (PySem.W.fnOf "_law_things" "_law_things" (defArgs sThings) (defBody sThings) (defScope sThings) .none kV7 dc7 pm7 an7 cd7 ct7), sl7⟩) (c7 : PySem.W.codeIn K cd7 "_law_things" = true) (k7 : PySem.W.keepIn K (.ref f7) = true)
    (a8 : PySem.W.nsIn K mainGlobals "_law_kind" = some (some (.ref f8))) (l8 : K.lookup f8 = some ⟨oc8, od8, .func (PySem.W.fnOf "_law_kind" "_law_kind" (defArgs sKind) (defBody sKind) (defScope sKind) .none kV8 dc8 pm8 an8 cd8 ct8), sl8⟩) (c8 : PySem.W.codeIn K cd8 "_law_kind" = true) (k8 : PySem.W.keepIn K (.ref f8) = true)
    (a9 : PySem.W.nsIn K mainGlobals "_law_saying" = some (some (.ref f9))) (l9 : K.lookup f9 = some ⟨oc9, od9, .func (PySem.W.fnOf "_law_saying" "_law_saying" (defArgs sSaying) (defBody sSaying) (defScope sSaying) .none kV9 dc9 pm9 an9 cd9 ct9), sl9⟩) (c9 : PySem.W.codeIn K cd9 "_law_saying" = true) (k9 : PySem.W.keepIn K (.ref f9) = true)
    (a10 : PySem.W.nsIn K mainGlobals "_law_numbered" = some (some (.ref f10))) (l10 : K.lookup f10 = some ⟨oc10, od10, .func (PySem.W.fnOf "_law_numbered" "_law_numbered" (defArgs sNumbered) (defBody sNumbered) (defScope sNumbered) .none kV10 dc10 pm10 an10 cd10 ct10), sl10⟩) (c10 : PySem.W.codeIn K cd10 "_law_numbered" = true) (k10 : PySem.W.keepIn K (.ref f10) = true)
    (a11 : PySem.W.nsIn K mainGlobals "_law_single" = some (some (.ref f11))) (l11 : K.lookup f11 = some ⟨oc11, od11, .func (PySem.W.fnOf "_law_single" "_law_single" (defArgs sSingle) (defBody sSingle) (defScope sSingle) .none kV11 dc11 pm11 an11 cd11 ct11), sl11⟩) (c11 : PySem.W.codeIn K cd11 "_law_single" = true) (k11 : PySem.W.keepIn K (.ref f11) = true)
    (a12 : PySem.W.nsIn K mainGlobals "_law_size" = some (some (.ref f12))) (l12 : K.lookup f12 = some ⟨oc12, od12, .func (PySem.W.fnOf "_law_size" "_law_size" (defArgs sSize) (defBody sSize) (defScope sSize) .none kV12 dc12 pm12 an12 cd12 ct12), sl12⟩) (c12 : PySem.W.codeIn K cd12 "_law_size" = true) (k12 : PySem.W.keepIn K (.ref f12) = true)
    (a13 : PySem.W.nsIn K mainGlobals "_law_ways_of_kind" = some (some (.ref f13))) (l13 : K.lookup f13 = some ⟨oc13, od13, .func (PySem.W.fnOf "_law_ways_of_kind" "_law_ways_of_kind" (defArgs sWaysK) (defBody sWaysK) (defScope sWaysK) .none kV13 dc13 pm13 an13 cd13 ct13), sl13⟩) (c13 : PySem.W.codeIn K cd13 "_law_ways_of_kind" = true) (k13 : PySem.W.keepIn K (.ref f13) = true)
    (a14 : PySem.W.nsIn K mainGlobals "_law_ways_of_tie" = some (some (.ref f14))) (l14 : K.lookup f14 = some ⟨oc14, od14, .func (PySem.W.fnOf "_law_ways_of_tie" "_law_ways_of_tie" (defArgs sWaysT) (defBody sWaysT) (defScope sWaysT) .none kV14 dc14 pm14 an14 cd14 ct14), sl14⟩) (c14 : PySem.W.codeIn K cd14 "_law_ways_of_tie" = true) (k14 : PySem.W.keepIn K (.ref f14) = true)
    (a15 : PySem.W.nsIn K mainGlobals "_law_plain_step" = some (some (.ref f15))) (l15 : K.lookup f15 = some ⟨oc15, od15, .func (PySem.W.fnOf "_law_plain_step" "_law_plain_step" (defArgs sPlain) (defBody sPlain) (defScope sPlain) .none kV15 dc15 pm15 an15 cd15 ct15), sl15⟩) (c15 : PySem.W.codeIn K cd15 "_law_plain_step" = true) (k15 : PySem.W.keepIn K (.ref f15) = true)
    (a16 : PySem.W.nsIn K mainGlobals "_law_grown" = some (some (.ref f16))) (l16 : K.lookup f16 = some ⟨oc16, od16, .func (PySem.W.fnOf "_law_grown" "_law_grown" (defArgs sGrown) (defBody sGrown) (defScope sGrown) .none kV16 dc16 pm16 an16 cd16 ct16), sl16⟩) (c16 : PySem.W.codeIn K cd16 "_law_grown" = true) (k16 : PySem.W.keepIn K (.ref f16) = true)
    (a17 : PySem.W.nsIn K mainGlobals "_law_whole" = some (some (.ref f17))) (l17 : K.lookup f17 = some ⟨oc17, od17, .func (PySem.W.fnOf "_law_whole" "_law_whole" (defArgs sWhole) (defBody sWhole) (defScope sWhole) .none kV17 dc17 pm17 an17 cd17 ct17), sl17⟩) (c17 : PySem.W.codeIn K cd17 "_law_whole" = true) (k17 : PySem.W.keepIn K (.ref f17) = true)
    (a18 : PySem.W.nsIn K mainGlobals "_law_kindly" = some (some (.ref f18))) (l18 : K.lookup f18 = some ⟨oc18, od18, .func (PySem.W.fnOf "_law_kindly" "_law_kindly" (defArgs sKindly) (defBody sKindly) (defScope sKindly) .none kV18 dc18 pm18 an18 cd18 ct18), sl18⟩) (c18 : PySem.W.codeIn K cd18 "_law_kindly" = true) (k18 : PySem.W.keepIn K (.ref f18) = true)
    (a19 : PySem.W.nsIn K mainGlobals "_law_is_claim" = some (some (.ref f19))) (l19 : K.lookup f19 = some ⟨oc19, od19, .func (PySem.W.fnOf "_law_is_claim" "_law_is_claim" (defArgs sClaim) (defBody sClaim) (defScope sClaim) .none kV19 dc19 pm19 an19 cd19 ct19), sl19⟩) (c19 : PySem.W.codeIn K cd19 "_law_is_claim" = true) (k19 : PySem.W.keepIn K (.ref f19) = true)
    (a20 : PySem.W.nsIn K mainGlobals "_law_are_steps" = some (some (.ref f20))) (l20 : K.lookup f20 = some ⟨oc20, od20, .func (PySem.W.fnOf "_law_are_steps" "_law_are_steps" (defArgs sAre) (defBody sAre) (defScope sAre) .none kV20 dc20 pm20 an20 cd20 ct20), sl20⟩) (c20 : PySem.W.codeIn K cd20 "_law_are_steps" = true) (k20 : PySem.W.keepIn K (.ref f20) = true)
    (a21 : PySem.W.nsIn K mainGlobals "_law_copy" = some (some (.ref f21))) (l21 : K.lookup f21 = some ⟨oc21, od21, .func (PySem.W.fnOf "_law_copy" "_law_copy" (defArgs sCopy) (defBody sCopy) (defScope sCopy) .none kV21 dc21 pm21 an21 cd21 ct21), sl21⟩) (c21 : PySem.W.codeIn K cd21 "_law_copy" = true) (k21 : PySem.W.keepIn K (.ref f21) = true)
    (a22 : PySem.W.nsIn K mainGlobals "_law_needed" = some (some (.ref f22))) (l22 : K.lookup f22 = some ⟨oc22, od22, .func (PySem.W.fnOf "_law_needed" "_law_needed" (defArgs sNeed) (defBody sNeed) (defScope sNeed) .none kV22 dc22 pm22 an22 cd22 ct22), sl22⟩) (c22 : PySem.W.codeIn K cd22 "_law_needed" = true) (k22 : PySem.W.keepIn K (.ref f22) = true)
    (a23 : PySem.W.nsIn K mainGlobals "_law_due" = some (some (.ref f23))) (l23 : K.lookup f23 = some ⟨oc23, od23, .func (PySem.W.fnOf "_law_due" "_law_due" (defArgs sDue) (defBody sDue) (defScope sDue) .none kV23 dc23 pm23 an23 cd23 ct23), sl23⟩) (c23 : PySem.W.codeIn K cd23 "_law_due" = true) (k23 : PySem.W.keepIn K (.ref f23) = true)
    (a24 : PySem.W.nsIn K mainGlobals "_law_refused" = some (some (.ref f24))) (l24 : K.lookup f24 = some ⟨oc24, od24, .func (PySem.W.fnOf "_law_refused" "_law_refused" (defArgs sRefused) (defBody sRefused) (defScope sRefused) .none kV24 dc24 pm24 an24 cd24 ct24), sl24⟩) (c24 : PySem.W.codeIn K cd24 "_law_refused" = true) (k24 : PySem.W.keepIn K (.ref f24) = true)
    (a25 : PySem.W.nsIn K mainGlobals "_law_strange" = some (some (.ref f25))) (l25 : K.lookup f25 = some ⟨oc25, od25, .func (PySem.W.fnOf "_law_strange" "_law_strange" (defArgs sStrange) (defBody sStrange) (defScope sStrange) .none kV25 dc25 pm25 an25 cd25 ct25), sl25⟩) (c25 : PySem.W.codeIn K cd25 "_law_strange" = true) (k25 : PySem.W.keepIn K (.ref f25) = true)
    (a26 : PySem.W.nsIn K mainGlobals "law" = some (some (.ref f26))) (l26 : K.lookup f26 = some ⟨oc26, od26, .func (PySem.W.fnOf "law" "law" (defArgs sLaw) (defBody sLaw) (defScope sLaw) .none kV26 dc26 pm26 an26 cd26 ct26), sl26⟩) (c26 : PySem.W.codeIn K cd26 "law" = true) (k26 : PySem.W.keepIn K (.ref f26) = true)
    {C Ck fI N e1 e2 e3 e4 e5 : Addr} {nm q : Str} {bs : List Value} {hdct : Bool} {sn : List Str} {sub : List Value} {ab : Bool} {col : Option Bool} {dd : Option Addr} {kk0 kk1 kk2 kk3 kk5 : Option Value} {ock : Value} {odk : Option Addr} {cdk : ClassData} {slk : Array (Option Value)}
    {od0 an0 : Option Addr} {sl0 : Array (Option Value)} {oc0 kV0 dc0 pm0 cd0 ct0 : Value}
    (xC : PySem.W.nsIn K mainGlobals "NoFact" = some (some (.ref C)))
    (xk : PySem.W.nsIn K mainGlobals "KinError" = some (some (.ref Ck)))
    (x1 : PySem.W.nsIn K mainGlobals "NoText" = some (some (.ref e1)))
    (x2 : PySem.W.nsIn K mainGlobals "NoQuestion" = some (some (.ref e2)))
    (x3 : PySem.W.nsIn K mainGlobals "NoSaying" = some (some (.ref e3)))
    (x4 : PySem.W.nsIn K mainGlobals "TooMany" = some (some (.ref e4)))
    (x5 : PySem.W.nsIn K mainGlobals "NoRow" = some (some (.ref e5)))
    (lC : K.lookup C = some (excClassObj nm q C N bs (.ref Ck :: veB) hdct sn sub ab col dd kk0 kk1 kk2 kk3 kk5 "ValueError.__new__"))
    (lk : K.lookup Ck = some ⟨ock, odk, .cls cdk, slk⟩)
    (okN : PySem.W.nsOkIn K N = true)
    (okk : PySem.W.nsOkIn K cdk.ns = true)
    (iN : PySem.W.nsIn K N "__init__" = some (some (.ref fI)))
    (ik : PySem.W.nsIn K cdk.ns "__init__" = some none)
    (l0 : K.lookup fI = some ⟨oc0, od0, .func (PySem.W.fnOf "__init__" "NoFact.__init__" (defArgs sInit) (defBody sInit) (defScope sInit) .none kV0 dc0 pm0 an0 cd0 ct0), sl0⟩)
    (c0 : PySem.W.codeIn K cd0 "NoFact.__init__" = true)
    (k0 : PySem.W.keepIn K (.ref fI) = true)
    (fn0 : PySem.W.isFn K (.ref fI) = true)
    (kC : PySem.W.keepIn K (.ref C) = true)
    (y1 : PySem.W.hasDictIn K C = true)
    (y2 : PySem.W.mroIn K C (.type "BaseException") = some true)
    (y3 : PySem.W.mroIn K C (.type "object") = some true)
    (y4 : PySem.W.findIn K (.ref C) "__getattribute__" = some (some (.builtin "BaseException.__getattribute__")))
    (y5 : PySem.W.findIn K (.ref C) "__getattr__" = some none)
    (y6 : PySem.W.findIn K (.ref C) "__setattr__" = some (some (.builtin "object.__setattr__")))
    (y7 : PySem.W.findIn K (.ref C) "__class__" = some (some (.builtin "object.__class__")))
    (y8 : PySem.W.specialIn K (.builtin "object.__class__") "__get__" = some (some (.builtin "getset_descriptor.__get__")))
    (y9 : PySem.W.takesIn K (.builtin "object.__class__") = some true)
    (y10 : PySem.W.findIn K (.ref C) "fact" = some none)
    (y11 : PySem.W.typeIn K (.ref C) = some (.type "type"))
    (y12 : PySem.W.typeIn K (.ref Ck) = some (.type "type"))
    (y13 : PySem.W.isClsIn K Ck = true)
    (y14 : PySem.W.subIn K (.ref C) (.type "ValueError") = some true)
    (y15 : PySem.W.subIn K (.ref C) (.ref Ck) = some true)
    (y16 : PySem.W.subIn K (.ref Ck) (.type "BaseException") = some true)
    (w1 : PySem.W.isClsIn K e1 = true)
    (t1 : PySem.W.typeIn K (.ref e1) = some (.type "type"))
    (s1 : PySem.W.subIn K (.ref C) (.ref e1) = some false)
    (u1 : (Value.ref C == Value.ref e1) = false)
    (w2 : PySem.W.isClsIn K e2 = true)
    (t2 : PySem.W.typeIn K (.ref e2) = some (.type "type"))
    (s2 : PySem.W.subIn K (.ref C) (.ref e2) = some false)
    (u2 : (Value.ref C == Value.ref e2) = false)
    (w3 : PySem.W.isClsIn K e3 = true)
    (t3 : PySem.W.typeIn K (.ref e3) = some (.type "type"))
    (s3 : PySem.W.subIn K (.ref C) (.ref e3) = some false)
    (u3 : (Value.ref C == Value.ref e3) = false)
    (w4 : PySem.W.isClsIn K e4 = true)
    (t4 : PySem.W.typeIn K (.ref e4) = some (.type "type"))
    (s4 : PySem.W.subIn K (.ref C) (.ref e4) = some false)
    (u4 : (Value.ref C == Value.ref e4) = false)
    (w5 : PySem.W.isClsIn K e5 = true)
    (t5 : PySem.W.typeIn K (.ref e5) = some (.type "type"))
    (s5 : PySem.W.subIn K (.ref C) (.ref e5) = some false)
    (u5 : (Value.ref C == Value.ref e5) = false)
    (z1 : PySem.W.nsIn K mainGlobals "len" = some none)
    (z2 : PySem.W.nsIn K mainGlobals "range" = some none)
    (z3 : PySem.W.nsIn K mainGlobals "isinstance" = some none)
    (z4 : PySem.W.nsIn K mainGlobals "str" = some none)
    (z5 : PySem.W.nsIn K mainGlobals "tuple" = some none)
    (z6 : PySem.W.nsIn K mainGlobals "list" = some none)
    (z7 : PySem.W.nsIn K mainGlobals "all" = some none)
    (z8 : PySem.W.nsIn K mainGlobals "int" = some none)
    (z9 : PySem.W.nsIn K mainGlobals "bool" = some none)
    (z10 : PySem.W.nsIn K mainGlobals "enumerate" = some none)
    (z11 : PySem.W.nsIn K mainGlobals "sorted" = some none)
    (z12 : PySem.W.nsIn K mainGlobals "ValueError" = some none)
    : ∃ fd : FuncData, (∀ (s : Shared) (v : Value), BindsTo s fd ⟨[v], []⟩ [("_law_script", v)]) ∧ ∀ base : Heap, K.In base → base.Ns mainGlobals mg → FnOk l.prog w K mg base CX0 12 fa fd ["_law_script"] (spLaw K) := by
  have e := hfa.symm.trans (PySem.W.mg_of X G a26)
  cases e
  have F1 := fun_mk (st := sPlace) l1 c1 k1
  have b1 := F1.binds (ps := ["steps", "fact"]) fun _ _ _ _ _ _ us hl => match us, hl with | [_, _], _ => rfl
  have m1 := PySem.W.mg_of X G a1
  have F2 := fun_mk (st := sNeeded) l2 c2 k2
  have b2 := F2.binds (ps := ["steps", "at"]) fun _ _ _ _ _ _ us hl => match us, hl with | [_, _], _ => rfl
  have m2 := PySem.W.mg_of X G a2
  have F3 := fun_mk (st := sPaper) l3 c3 k3
  have b3 := F3.binds (ps := ["steps", "fact"]) fun _ _ _ _ _ _ us hl => match us, hl with | [_, _], _ => rfl
  have m3 := PySem.W.mg_of X G a3
  have F4 := fun_mk (st := sCell) l4 c4 k4
  have b4 := F4.binds (ps := ["_law_script", "_law_k"]) fun _ _ _ _ _ _ us hl => match us, hl with | [_, _], _ => rfl
  have m4 := PySem.W.mg_of X G a4
  have F5 := fun_mk (st := sDraw) l5 c5 k5
  have b5 := F5.binds (ps := ["_law_bag", "_law_many"]) fun _ _ _ _ _ _ us hl => match us, hl with | [_, _], _ => rfl
  have m5 := PySem.W.mg_of X G a5
  have F6 := fun_mk (st := sWords) l6 c6 k6
  have b6 := F6.binds (ps := ["_law_cell_here", "_law_many"]) fun _ _ _ _ _ _ us hl => match us, hl with | [_, _], _ => rfl
  have m6 := PySem.W.mg_of X G a6
  have F7 := fun_mk (st := sThings) l7 c7 k7
  have b7 := F7.binds (ps := ["_law_cell_here", "_law_many"]) fun _ _ _ _ _ _ us hl => match us, hl with | [_, _], _ => rfl
  have m7 := PySem.W.mg_of X G a7
  have F8 := fun_mk (st := sKind) l8 c8 k8
  have b8 := F8.binds (ps := ["_law_bag", "_law_kin", "_law_ties", "_law_deep"]) fun _ _ _ _ _ _ us hl => match us, hl with | [_, _, _, _], _ => rfl
  have m8 := PySem.W.mg_of X G a8
  have F9 := fun_mk (st := sSaying) l9 c9 k9
  have b9 := F9.binds (ps := ["_law_bag", "_law_kin", "_law_ties", "_law_things_here"]) fun _ _ _ _ _ _ us hl => match us, hl with | [_, _, _, _], _ => rfl
  have m9 := PySem.W.mg_of X G a9
  have F10 := fun_mk (st := sNumbered) l10 c10 k10
  have b10 := F10.binds (ps := ["_law_cells", "_law_bag", "_law_kin", "_law_ties", "_law_things_here"]) fun _ _ _ _ _ _ us hl => match us, hl with | [_, _, _, _, _], _ => rfl
  have m10 := PySem.W.mg_of X G a10
  have F11 := fun_mk (st := sSingle) l11 c11 k11
  have b11 := F11.binds (ps := ["_law_x"]) fun _ _ _ _ _ _ us hl => match us, hl with | [_], _ => rfl
  have m11 := PySem.W.mg_of X G a11
  have F12 := fun_mk (st := sSize) l12 c12 k12
  have b12 := F12.binds (ps := ["_law_kind_here"]) fun _ _ _ _ _ _ us hl => match us, hl with | [_], _ => rfl
  have m12 := PySem.W.mg_of X G a12
  have F13 := fun_mk (st := sWaysK) l13 c13 k13
  have b13 := F13.binds (ps := ["_law_steps", "_law_i", "_law_j", "_law_number", "_law_saying_here"]) fun _ _ _ _ _ _ us hl => match us, hl with | [_, _, _, _, _], _ => rfl
  have m13 := PySem.W.mg_of X G a13
  have F14 := fun_mk (st := sWaysT) l14 c14 k14
  have b14 := F14.binds (ps := ["_law_steps", "_law_i", "_law_j", "_law_number", "_law_saying_here"]) fun _ _ _ _ _ _ us hl => match us, hl with | [_, _, _, _, _], _ => rfl
  have m14 := PySem.W.mg_of X G a14
  have F15 := fun_mk (st := sPlain) l15 c15 k15
  have b15 := F15.binds (ps := ["_law_bag", "_law_pairs", "_law_kin", "_law_ties"]) fun _ _ _ _ _ _ us hl => match us, hl with | [_, _, _, _], _ => rfl
  have m15 := PySem.W.mg_of X G a15
  have F16 := fun_mk (st := sGrown) l16 c16 k16
  have b16 := F16.binds (ps := ["_law_bag", "_law_steps", "_law_pairs", "_law_kin", "_law_ties"]) fun _ _ _ _ _ _ us hl => match us, hl with | [_, _, _, _, _], _ => rfl
  have m16 := PySem.W.mg_of X G a16
  have F17 := fun_mk (st := sWhole) l17 c17 k17
  have b17 := F17.binds (ps := ["_law_found"]) fun _ _ _ _ _ _ us hl => match us, hl with | [_], _ => rfl
  have m17 := PySem.W.mg_of X G a17
  have F18 := fun_mk (st := sKindly) l18 c18 k18
  have b18 := F18.binds (ps := ["_law_x"]) fun _ _ _ _ _ _ us hl => match us, hl with | [_], _ => rfl
  have m18 := PySem.W.mg_of X G a18
  have F19 := fun_mk (st := sClaim) l19 c19 k19
  have b19 := F19.binds (ps := ["_law_claim"]) fun _ _ _ _ _ _ us hl => match us, hl with | [_], _ => rfl
  have m19 := PySem.W.mg_of X G a19
  have F20 := fun_mk (st := sAre) l20 c20 k20
  have b20 := F20.binds (ps := ["_law_found"]) fun _ _ _ _ _ _ us hl => match us, hl with | [_], _ => rfl
  have m20 := PySem.W.mg_of X G a20
  have F21 := fun_mk (st := sCopy) l21 c21 k21
  have b21 := F21.binds (ps := ["_law_steps"]) fun _ _ _ _ _ _ us hl => match us, hl with | [_], _ => rfl
  have m21 := PySem.W.mg_of X G a21
  have F22 := fun_mk (st := sNeed) l22 c22 k22
  have b22 := F22.binds (ps := ["_law_steps", "_law_at"]) fun _ _ _ _ _ _ us hl => match us, hl with | [_, _], _ => rfl
  have m22 := PySem.W.mg_of X G a22
  have F23 := fun_mk (st := sDue) l23 c23 k23
  have b23 := F23.binds (ps := ["_law_steps", "_law_claim"]) fun _ _ _ _ _ _ us hl => match us, hl with | [_, _], _ => rfl
  have m23 := PySem.W.mg_of X G a23
  have F24 := fun_mk (st := sRefused) l24 c24 k24
  have b24 := F24.binds (ps := ["_law_steps", "_law_claim"]) fun _ _ _ _ _ _ us hl => match us, hl with | [_, _], _ => rfl
  have m24 := PySem.W.mg_of X G a24
  have F25 := fun_mk (st := sStrange) l25 c25 k25
  have b25 := F25.binds (ps := ["_law_bag", "_law_steps", "_law_kin", "_law_things_here"]) fun _ _ _ _ _ _ us hl => match us, hl with | [_, _, _, _], _ => rfl
  have m25 := PySem.W.mg_of X G a25
  have F26 := fun_mk (st := sLaw) l26 c26 k26
  have m26 := PySem.W.mg_of X G a26
  have n1 := PySem.W.mg_none_of X G z1
  have n2 := PySem.W.mg_none_of X G z2
  have n3 := PySem.W.mg_none_of X G z3
  have n4 := PySem.W.mg_none_of X G z4
  have n5 := PySem.W.mg_none_of X G z5
  have n6 := PySem.W.mg_none_of X G z6
  have n7 := PySem.W.mg_none_of X G z7
  have n8 := PySem.W.mg_none_of X G z8
  have n9 := PySem.W.mg_none_of X G z9
  have n10 := PySem.W.mg_none_of X G z10
  have n11 := PySem.W.mg_none_of X G z11
  have n12 := PySem.W.mg_none_of X G z12
  refine ⟨PySem.W.fnOf "law" "law" (defArgs sLaw) (defBody sLaw) (defScope sLaw) .none kV26 dc26 pm26 an26 cd26 ct26, fun s v => .of_eq rfl, fun base _ _ => ?_⟩
  have Xc : XCl K C := ⟨y1, y2, y3, rf_of lC, y4, y5, y6, y7, y8, y9⟩
  have Mk : MkX K C fI := ⟨⟨nm, q, N, bs, _, hdct, sn, sub, ab, col, dd, kk0, kk1, kk2, kk3, kk5, lC, okN, iN, tail_one lk okk ik⟩, fn0, kC⟩
  have F0 := fun_mk (x := "__init__") (qual := "NoFact.__init__") (st := sInit) l0 c0 k0
  have b0 := F0.binds (ps := ["self", "fact"]) fun _ _ _ _ _ _ us hl => match us, hl with | [_, _], _ => rfl
  have mC := PySem.W.mg_of X G xC
  have mk := PySem.W.mg_of X G xk
  have mx1 := PySem.W.mg_of X G x1
  have mx2 := PySem.W.mg_of X G x2
  have mx3 := PySem.W.mg_of X G x3
  have mx4 := PySem.W.mg_of X G x4
  have mx5 := PySem.W.mg_of X G x5
  have G0 := ok_init (P := l.prog) (w := w) (mg := mg) (base := base) F0
  have G1 := ok_place F1 n10 Mk Xc y11 y10 mC G0 b0
  have G2 := ok_needed (P := l.prog) (w := w) (mg := mg) (base := base) F2 n11
  have G3 := ok_paper F3 n10 G1 b1 k1 m1 G2 b2 k2 m2
  have G4 := ok_cell (P := l.prog) (w := w) (mg := mg) (base := base) F4 n1
  have G5 := ok_draw (P := l.prog) (w := w) (mg := mg) (base := base) F5
  have G6 := ok_words (P := l.prog) (w := w) (mg := mg) (base := base) F6 n1 n2
  have G7 := ok_things F7 n2 G6 b6 k6 m6
  have G8 := kind_all F8 b8 m8 n1 G5 b5 k5 m5 3
  have G9 := ok_saying F9 n1 n2 G5 b5 k5 m5 G8 b8 k8 m8
  have G10 := ok_numbered F10 G5 b5 k5 m5 G9 b9 k9 m9
  have G11 := ok_single (P := l.prog) (w := w) (mg := mg) (base := base) F11 n3 n4
  have G12 := size_all (P := l.prog) (w := w) (mg := mg) (base := base) F12 b12 m12 n3 n5 5
  have G13 := ok_waysK F13 n3 n5 G12 b12 k12 m12
  have G14 := ok_waysT F14 G12 b12 k12 m12
  have G15 := ok_plain F15 n1 G5 b5 k5 m5 G8 b8 k8 m8 G11 b11 k11 m11
  have G16 := ok_grown F16 n1 n2 G5 b5 k5 m5 G13 b13 k13 m13 G14 b14 k14 m14 G15 b15 k15 m15
  have G17 := ok_wholeL (P := l.prog) (w := w) (mg := mg) (base := base) F17 n3 n8 n9
  have G18 := kindly_all (P := l.prog) (w := w) (mg := mg) (base := base) F18 b18 m18 n3 n4 n5 n1 8
  have G19 := ok_claim F19 n3 n4 n5 n1 G18 b18 k18 m18
  have G20 := ok_are F20 n3 n4 n5 n6 n1 n7 G19 b19 k19 m19 G17 b17 k17 m17
  have G21 := ok_copyN (P := l.prog) (w := w) (mg := mg) (base := base) F21 n6
  have G22 := ok_need (P := l.prog) (w := w) (mg := mg) (base := base) F22 n1 n11
  have G23 := ok_due F23 G22 b22 k22 m22
  have G24 := ok_refused F24 n3 n12 Xc y10 mC mk mx1 mx2 mx3 mx4 mx5 (kit_ty y14) kit_self (kit_five w1 t1 s1 u1 w2 t2 s2 u2 w3 t3 s3 u3 w4 t4 s4 u4 w5 t5 s5 u5) (exm_ref y13 y12 y15 y16) G3 b3 k3 m3
  have G25 := ok_strange F25 n1 G5 b5 k5 m5 G11 b11 k11 m11
  exact ok_law F26 G4 b4 k4 m4 G6 b6 k6 m6 G7 b7 k7 m7 G10 b10 k10 m10 G16 b16 k16 m16 G21 b21 k21 m21 G3 b3 k3 m3 G20 b20 k20 m20 G23 b23 k23 m23 G25 b25 k25 m25 G24 b24 k24 m24
theorem walk {l : PySem.W.OpenLaw} {q : Program} {loose : List Str} {XP : (Str → Option Value) → Heap → Prop} {YP : World → Heap → Prop} {d : DefRec} {K : Params → PySem.W.Frag} (hn : l.most = some 63) (hdf : d.params.defaults = [])
    (hY : ∀ (w : World) (h : Heap), YP w h → (K w.params).In h)
    (F : ∀ (w : World) (mg : Str → Option Value) (fa : Addr) (h : Heap), (K w.params).In h → h.Ns mainGlobals mg → mg d.name = some (.ref fa) →
      ∃ fd : FuncData, (∀ (s : Shared) (u : Value), BindsTo s fd ⟨[u], []⟩ [("_law_script", u)]) ∧ ∀ base : Heap, (K w.params).In base → base.Ns mainGlobals mg → FnOk l.prog w (K w.params) mg base CX0 12 fa fd ["_law_script"] (spLaw (K w.params))) :
    PySem.W.WalkO q loose XP YP l.row.toRowW d [] (fun f vs => PySem.call f vs) :=
  L2.walk_of (n := 63) (k := 12) (x := "_law_script") (CX := fun _ => CX0) (sp := fun w => spLaw (K w.params)) hn (by decide) hdf ⟨rfl, by decide, by decide⟩ hY F (fun _ _ a ns hl _ hS => ⟨a, ns, rfl, hS, hl, fun _ => rfl⟩) fun _ _ _ _ _ z => z
end K23
def PySem.W.Fast.tw2642711001091141856 : Unit := ()
def PySem.W.Fast.tw632833499242343434 : Unit := ()
def PySem.W.Fast.tw6659281764815411142 : Unit := ()
def PySem.W.Fast.tw204510478717559077 : Unit := ()
def PySem.W.Fast.tw6941100017308120909 : Unit := ()
def PySem.W.Fast.tw2460485894584783886 : Unit := ()
def PySem.W.Fast.tw3046359904034315945 : Unit := ()
def PySem.W.Fast.tw11596685204389135853 : Unit := ()
def PySem.W.Fast.tw16807760295372807243 : Unit := ()
def PySem.W.Fast.tw8085651749486525617 : Unit := ()
def PySem.W.Fast.tw13343517564885610838 : Unit := ()
def PySem.W.Fast.tw3915895105089904678 : Unit := ()
def PySem.W.Fast.tw12681295013051979087 : Unit := ()
def PySem.W.Fast.tw17883803746157919076 : Unit := ()
def PySem.W.Fast.tw15170323047562034009 : Unit := ()
def PySem.W.Fast.tw10667980926498315732 : Unit := ()
def PySem.W.Fast.tw10030883868049753917 : Unit := ()
def PySem.W.Fast.tw13863033329774377949 : Unit := ()
def PySem.W.Fast.tw13748220912164983954 : Unit := ()
def PySem.W.Fast.tw10393805094609331299 : Unit := ()
def PySem.W.Fast.tw11155471370291327831 : Unit := ()
def PySem.W.Fast.tw4685480164254700240 : Unit := ()
def PySem.W.Fast.tw3290100534274161649 : Unit := ()
def PySem.W.Fast.tw9608599886792994940 : Unit := ()
def PySem.W.Fast.tw4662374330924469541 : Unit := ()
def PySem.W.Fast.tw3676829033391567641 : Unit := ()
def PySem.W.Fast.tw5927146354506104654 : Unit := ()
def PySem.W.Fast.tw1008349994124237490 : Unit := ()
def PySem.W.Fast.tw15621482094038216418 : Unit := ()
def PySem.W.Fast.tw10201400589700855764 : Unit := ()
def PySem.W.Fast.tw14449674294107270154 : Unit := ()
def PySem.W.Fast.tw1286810921490520333 : Unit := ()
def PySem.W.Fast.tw8280090951512176589 : Unit := ()
def PySem.W.Fast.tw5234233047077914854 : Unit := ()
def PySem.W.Fast.tw17977903551628521785 : Unit := ()
def PySem.W.Fast.tw3434270509845174752 : Unit := ()
def PySem.W.Fast.tw12165033477116840912 : Unit := ()
def PySem.W.Fast.tw9844227950262108 : Unit := ()
def PySem.W.Fast.tw1017237220001966467 : Unit := ()
def PySem.W.Fast.tw10355274191103359502 : Unit := ()
def PySem.W.Fast.tw9204247720608901998 : Unit := ()
def PySem.W.Fast.tw16148270118262719216 : Unit := ()
def PySem.W.Fast.tw13311034671370916058 : Unit := ()
def PySem.W.Fast.tw1968933948885463211 : Unit := ()
def PySem.W.Fast.tw15866004903687722389 : Unit := ()
def PySem.W.Fast.tw17105730827158059972 : Unit := ()
def PySem.W.Fast.tw7682798138727007332 : Unit := ()
def PySem.W.Fast.tw16981679227470820800 : Unit := ()
open PySem PySem.W PyProof.Rows
set_option maxRecDepth 100000 in
set_option maxHeartbeats 0 in
theorem PySem.Challenge.cw_kinwords_k23_papers_holds : PySem.Challenge.rw_kinwords_k23_papers.Holds := by
  w_on; o_law; k_head; (case hw => w_witness2)
  k_fill
  refine K23.walk (l := PySem.Challenge.rw_kinwords_k23_papers) rfl rfl (fun w h Y => PySem.W.kIn_of Y) ?F
  case F =>
    intro w mg fa h KX G hmg
    refine' K23.all_mk KX G hmg ?a1 ?l1 ?c1 ?k1 ?a2 ?l2 ?c2 ?k2 ?a3 ?l3 ?c3 ?k3 ?a4 ?l4 ?c4 ?k4 ?a5 ?l5 ?c5 ?k5 ?a6 ?l6 ?c6 ?k6 ?a7 ?l7 ?c7 ?k7 ?a8 ?l8 ?c8 ?k8 ?a9 ?l9 ?c9 ?k9 ?a10 ?l10 ?c10 ?k10 ?a11 ?l11 ?c11 ?k11 ?a12 ?l12 ?c12 ?k12 ?a13 ?l13 ?c13 ?k13 ?a14 ?l14 ?c14 ?k14 ?a15 ?l15 ?c15 ?k15 ?a16 ?l16 ?c16 ?k16 ?a17 ?l17 ?c17 ?k17 ?a18 ?l18 ?c18 ?k18 ?a19 ?l19 ?c19 ?k19 ?a20 ?l20 ?c20 ?k20 ?a21 ?l21 ?c21 ?k21 ?a22 ?l22 ?c22 ?k22 ?a23 ?l23 ?c23 ?k23 ?a24 ?l24 ?c24 ?k24 ?a25 ?l25 ?c25 ?k25 ?a26 ?l26 ?c26 ?k26 ?xC ?xk ?x1 ?x2 ?x3 ?x4 ?x5 ?lC ?lk ?okN ?okk ?iN ?ik ?l0 ?c0 ?k0 ?fn0 ?kC ?y1 ?y2 ?y3 ?y4 ?y5 ?y6 ?y7 ?y8 ?y9 ?y10 ?y11 ?y12 ?y13 ?y14 ?y15 ?y16 ?w1 ?t1 ?s1 ?u1 ?w2 ?t2 ?s2 ?u2 ?w3 ?t3 ?s3 ?u3 ?w4 ?t4 ?s4 ?u4 ?w5 ?t5 ?s5 ?u5 ?z1 ?z2 ?z3 ?z4 ?z5 ?z6 ?z7 ?z8 ?z9 ?z10 ?z11 ?z12
    (case a1 => k_is)
    (case l1 => k_is)
    (case c1 => k_is)
    (case k1 => k_is)
    (case a2 => k_is)
    (case l2 => k_is)
    (case c2 => k_is)
    (case k2 => k_is)
    (case a3 => k_is)
    (case l3 => k_is)
    (case c3 => k_is)
    (case k3 => k_is)
    (case a4 => k_is)
    (case l4 => k_is)
    (case c4 => k_is)
    (case k4 => k_is)
    (case a5 => k_is)
    (case l5 => k_is)
    (case c5 => k_is)
    (case k5 => k_is)
    (case a6 => k_is)
    (case l6 => k_is)
    (case c6 => k_is)
    (case k6 => k_is)
    (case a7 => k_is)
    (case l7 => k_is)
    (case c7 => k_is)
    (case k7 => k_is)
    (case a8 => k_is)
    (case l8 => k_is)
    (case c8 => k_is)
    (case k8 => k_is)
    (case a9 => k_is)
    (case l9 => k_is)
    (case c9 => k_is)
    (case k9 => k_is)
    (case a10 => k_is)
    (case l10 => k_is)
    (case c10 => k_is)
    (case k10 => k_is)
    (case a11 => k_is)
    (case l11 => k_is)
    (case c11 => k_is)
    (case k11 => k_is)
    (case a12 => k_is)
    (case l12 => k_is)
    (case c12 => k_is)
    (case k12 => k_is)
    (case a13 => k_is)
    (case l13 => k_is)
    (case c13 => k_is)
    (case k13 => k_is)
    (case a14 => k_is)
    (case l14 => k_is)
    (case c14 => k_is)
    (case k14 => k_is)
    (case a15 => k_is)
    (case l15 => k_is)
    (case c15 => k_is)
    (case k15 => k_is)
    (case a16 => k_is)
    (case l16 => k_is)
    (case c16 => k_is)
    (case k16 => k_is)
    (case a17 => k_is)
    (case l17 => k_is)
    (case c17 => k_is)
    (case k17 => k_is)
    (case a18 => k_is)
    (case l18 => k_is)
    (case c18 => k_is)
    (case k18 => k_is)
    (case a19 => k_is)
    (case l19 => k_is)
    (case c19 => k_is)
    (case k19 => k_is)
    (case a20 => k_is)
    (case l20 => k_is)
    (case c20 => k_is)
    (case k20 => k_is)
    (case a21 => k_is)
    (case l21 => k_is)
    (case c21 => k_is)
    (case k21 => k_is)
    (case a22 => k_is)
    (case l22 => k_is)
    (case c22 => k_is)
    (case k22 => k_is)
    (case a23 => k_is)
    (case l23 => k_is)
    (case c23 => k_is)
    (case k23 => k_is)
    (case a24 => k_is)
    (case l24 => k_is)
    (case c24 => k_is)
    (case k24 => k_is)
    (case a25 => k_is)
    (case l25 => k_is)
    (case c25 => k_is)
    (case k25 => k_is)
    (case a26 => k_is)
    (case l26 => k_is)
    (case c26 => k_is)
    (case k26 => k_is)
    (case xC => k_is)
    (case xk => k_is)
    (case x1 => k_is)
    (case x2 => k_is)
    (case x3 => k_is)
    (case x4 => k_is)
    (case x5 => k_is)
    (case lC => k_is)
    (case lk => k_is)
    (case okN => exact K23.nsok_of (by k_is) rfl)
    (case okk => exact K23.nsok_of (by k_is) rfl)
    (case iN => k_is)
    (case ik => k_is)
    (case l0 => k_is)
    (case c0 => k_is)
    (case k0 => k_is)
    (case fn0 => k_is)
    (case kC => k_is)
    (case y1 => k_is)
    (case y2 => k_is)
    (case y3 => k_is)
    (case y4 => k_is)
    (case y5 => k_is)
    (case y6 => k_is)
    (case y7 => k_is)
    (case y8 => k_is)
    (case y9 => k_is)
    (case y10 => k_is)
    (case y11 => k_is)
    (case y12 => k_is)
    (case y13 => k_is)
    (case y14 => k_is)
    (case y15 => k_is)
    (case y16 => k_is)
    (case w1 => k_is)
    (case t1 => k_is)
    (case s1 => k_is)
    (case u1 => first | rfl | decide +kernel)
    (case w2 => k_is)
    (case t2 => k_is)
    (case s2 => k_is)
    (case u2 => first | rfl | decide +kernel)
    (case w3 => k_is)
    (case t3 => k_is)
    (case s3 => k_is)
    (case u3 => first | rfl | decide +kernel)
    (case w4 => k_is)
    (case t4 => k_is)
    (case s4 => k_is)
    (case u4 => first | rfl | decide +kernel)
    (case w5 => k_is)
    (case t5 => k_is)
    (case s5 => k_is)
    (case u5 => first | rfl | decide +kernel)
    (case z1 => k_is)
    (case z2 => k_is)
    (case z3 => k_is)
    (case z4 => k_is)
    (case z5 => k_is)
    (case z6 => k_is)
    (case z7 => k_is)
    (case z8 => k_is)
    (case z9 => k_is)
    (case z10 => k_is)
    (case z11 => k_is)
    (case z12 => k_is)
