import PyProof.Rows.All
import Wide.All
import OpenK.AllK
import Wide.FinOn
import Lean
import PyProof.EqAt
import PyProof.EqKinds
import PyProof.TupleCall
import PyProof.NeKinds
import PyProof.Rows.FStr
import PyProof.Rows.Range3
import PyProof.StrLawsIn
import PyProof.WalksEnum
import PyProof.EnumMake
import PyProof.Rows.EnumRows
import PyProof.Rows.StrNews2
import PyProof.StrLawsFirst
import PyProof.StrLawsChain
import PyProof.StrLawsTight
import PyProof.StrBlockH
import KE.KEqDict
import PyProof.DictWalks
import PyProof.ListRange
import PyProof.ZipIter
import PyProof.Rows.SortRev
import PyProof.AttrMiss
import PyProof.IsiH_list
import KE.KDictOf
import PyProof.FactsAll.NoneType_1
import PyProof.StrCalls
import PySem.Challenge.RW_kinwords_k17_lists_that_stand
set_option Elab.async false
set_option linter.all false
set_option maxRecDepth 100000
namespace L2
open PySem PySem.Spec PyProof.Rows
abbrev Key := Sum Int Str
def keyIs : Key → Value → Bool
  | .inl k, v => Value.isInt k v
  | .inr x, v => Value.isStrOf x v
def keyH (w : World) : Key → Int
  | .inl k => hashInt k
  | .inr x => hashStr w x
theorem keyIs_shape : ∀ {k : Key} {v : Value}, keyIs k v = true → (∃ i t, k = Sum.inl i ∧ v = Value.int i t) ∨ (∃ x t, k = Sum.inr x ∧ v = Value.str x t)
  | .inl i, v, h => by
    obtain ⟨t, e⟩ := Value.isInt_shape (k := i) (v := v) h
    exact .inl ⟨i, t, rfl, e⟩
  | .inr x, v, h => by
    obtain ⟨t, e⟩ := Value.isStrOf_shape (x := x) (v := v) h
    exact .inr ⟨x, t, rfl, e⟩
theorem keyIs_int (i : Int) (t : Tok) : keyIs (.inl i) (.int i t) = true := by simp [keyIs, Value.isInt]
theorem keyIs_str (x : Str) (t : Tok) : keyIs (.inr x) (.str x t) = true := by simp [keyIs, Value.isStrOf]
theorem key_ll (a b : Int) : decide ((Sum.inl a : Key) = Sum.inl b) = (a == b) := by
  by_cases e : a = b
  · subst e; simp
  · have h : ¬ (Sum.inl a : Key) = Sum.inl b := fun q => e (Sum.inl.inj q)
    rw [decide_eq_false h]
    exact (beq_eq_false_iff_ne.mpr e).symm
theorem key_rr (a b : Str) : decide ((Sum.inr a : Key) = Sum.inr b) = decide (a = b) := by
  by_cases e : a = b
  · subst e; simp
  · have h : ¬ (Sum.inr a : Key) = Sum.inr b := fun q => e (Sum.inr.inj q)
    rw [decide_eq_false h, decide_eq_false e]
theorem key_lr (a : Int) (b : Str) : decide ((Sum.inl a : Key) = Sum.inr b) = false := decide_eq_false (fun q => nomatch q)
theorem key_rl (a : Str) (b : Int) : decide ((Sum.inr a : Key) = Sum.inl b) = false := decide_eq_false (fun q => nomatch q)
def mixKind (prog : Program) (w : World) : PySem.KeyKind prog w Key where
  is := keyIs
  hash := keyH w
  inj := fun v a b ha hb => by
    rcases keyIs_shape ha with ⟨i, t, rfl, rfl⟩ | ⟨x, t, rfl, rfl⟩
    · rcases keyIs_shape hb with ⟨j, u, rfl, e⟩ | ⟨y, u, rfl, e⟩
      · injection e with e1 _; rw [e1]
      · exact nomatch e
    · rcases keyIs_shape hb with ⟨j, u, rfl, e⟩ | ⟨y, u, rfl, e⟩
      · exact nomatch e
      · injection e with e1 _; rw [e1]
  byValue := fun k v h => by
    rcases keyIs_shape h with ⟨i, t, rfl, rfl⟩ | ⟨x, t, rfl, rfl⟩ <;> rfl
  pyHash := fun hv h => by
    rcases keyIs_shape hv with ⟨i, t, rfl, rfl⟩ | ⟨x, t, rfl, rfl⟩
    · exact wpAny_pyHash_int h
    · exact wpAny_pyHash_str h
  eqBool := fun hu hv h => by
    rcases keyIs_shape hu with ⟨i, t, rfl, rfl⟩ | ⟨x, t, rfl, rfl⟩
    · rcases keyIs_shape hv with ⟨j, u, rfl, rfl⟩ | ⟨y, u, rfl, rfl⟩
      · rw [key_ll] at h; exact wpAny_eqBool_int h
      · rw [key_lr] at h; exact SeqAt.EqAt.int_str i t y u _ _ _ _ h
    · rcases keyIs_shape hv with ⟨j, u, rfl, rfl⟩ | ⟨y, u, rfl, rfl⟩
      · rw [key_rl] at h; exact SeqAt.EqAt.str_int x t j u _ _ _ _ h
      · rw [key_rr] at h; exact wpAny_eqBool_str h
  «strs» := fun k x t v h => by
    rcases keyIs_shape h with ⟨i, u, rfl, e⟩ | ⟨y, u, rfl, e⟩
    · exact nomatch e
    · injection e with e1 _
      subst e1
      cases v <;> rfl
theorem mixKind_is (prog : Program) (w : World) (k : Key) (v : Value) : (mixKind prog w).is k v = keyIs k v := rfl
theorem mixKind_int (prog : Program) (w : World) (i : Int) (t : Tok) : (mixKind prog w).is (.inl i) (.int i t) = true := keyIs_int i t
theorem mixKind_str (prog : Program) (w : World) (x : Str) (t : Tok) : (mixKind prog w).is (.inr x) (.str x t) = true := keyIs_str x t
end L2
namespace L2
open PySem PySem.Spec PyProof.Rows
inductive V where
  | non | bl (b : Bool) | int (i : Int) | str (x : Str) | byt (b : Array UInt8) | flt (b : UInt64) | ref (a : Addr) | ty (n : String)
  deriving DecidableEq
def RelV : V → Value → Prop
  | .non, u => u = Value.none
  | .bl b, u => u = Value.bool b
  | .int i, u => ∃ t, u = Value.int i t
  | .str x, u => ∃ t, u = Value.str x t
  | .byt b, u => ∃ t, u = Value.bytes b t
  | .flt b, u => ∃ t, u = Value.float b t
  | .ref a, u => u = Value.ref a
  | .ty n, u => u = Value.type n
abbrev Vals : List V → List Value → Prop := Paired RelV
theorem Vals.length {xs : List V} {us : List Value} (r : Vals xs us) : xs.length = us.length := Paired.length r
theorem Vals.get : ∀ {xs : List V} {us : List Value} {i : Nat} {x : V}, Vals xs us → xs[i]? = some x → ∃ u, us[i]? = some u ∧ RelV x u
  | _, _, _, _, .nil, e => by simp at e
  | _, _, 0, _, .cons r _, e => by simp at e; subst e; exact ⟨_, rfl, r⟩
  | _, _, i + 1, x, .cons _ t, e => by
    obtain ⟨u, h1, h2⟩ := Vals.get (i := i) (x := x) t (by simpa using e)
    exact ⟨u, by simpa using h1, h2⟩
theorem Vals.set {x : V} {u : Value} (r : RelV x u) : ∀ {xs : List V} {us : List Value} (i : Nat), Vals xs us → Vals (xs.set i x) (us.set i u)
  | _, _, _, .nil => .nil
  | _, _, 0, .cons _ t => .cons r t
  | _, _, i + 1, .cons q t => .cons q (Vals.set r i t)
theorem Vals.append : ∀ {xs ys : List V} {us ws : List Value}, Vals xs us → Vals ys ws → Vals (xs ++ ys) (us ++ ws)
  | _, _, _, _, .nil, s => s
  | _, _, _, _, .cons r t, s => .cons r (Vals.append t s)
theorem Vals.take : ∀ {xs : List V} {us : List Value} (n : Nat), Vals xs us → Vals (xs.take n) (us.take n)
  | _, _, 0, _ => .nil
  | _, _, _ + 1, .nil => .nil
  | _, _, n + 1, .cons r t => .cons r (Vals.take n t)
theorem Vals.drop : ∀ {xs : List V} {us : List Value} (n : Nat), Vals xs us → Vals (xs.drop n) (us.drop n)
  | _, _, 0, r => r
  | _, _, _ + 1, .nil => .nil
  | _, _, n + 1, .cons _ t => Vals.drop n t
theorem Vals.none_of : ∀ {xs : List V} {us : List Value} {i : Nat}, Vals xs us → xs[i]? = none → us[i]? = none := fun {xs us i} r e => by
  have h1 := r.length
  have h2 : xs.length ≤ i := List.getElem?_eq_none_iff.mp e
  exact List.getElem?_eq_none_iff.mpr (by omega)
def RelO : Option V → Option Value → Prop
  | some v, some u => RelV v u
  | none, none => True
  | _, _ => False
def KV {κ : Type} : List (κ × V) → List (κ × Value) → Prop := Paired fun (p : κ × V) (q : κ × Value) => p.1 = q.1 ∧ RelV p.2 q.2
def kV : Key → V
  | .inl i => .int i
  | .inr x => .str x
inductive HO where
  /-- a list -/
  | lst (xs : List V)
  /-- a tuple (never changes) -/
  | tup (xs : List V)
  /-- a dict whose keys are ints and texts; one whose keys are tuples of ints and texts (the empty one is both) -/
  | dK (kvs : List (Key × V)) | dT (kvs : List (List Key × V))
  /-- a set of ints: its members, its size -/
  | set (S : Int → Bool) (n : Nat)
  /-- an instance of the class at C, its dict at dx, its attributes -/
  | ins (C dx : Addr) (fs : List (Str × V))
  /-- the dict of the instance at x -/
  | own (x : Addr)
  /-- the dict of an exception -/
  | xd (fs : List (Str × V))
  /-- a bound method, f of x -/
  | met (f x : Addr)
  /-- a range object lo, lo + 1, .. below hi -/
  | rng (lo hi : Int)
  /-- a thing that is known to the object (the script; a dict while a loop walks it): read, never written while it is so -/
  | frz (o : Obj) (u : HO)
  /-- a code object's table -/
  | tbl (ps : Array Value)
  /-- any other thing, by what is true of its one object (a def of one's own: SetO a S n := HO.ext fun h => ..) -/
  | ext (φ : Heap → Prop)
abbrev Hp := Addr → Option HO
def upd (H : Hp) (a : Addr) (o : HO) : Hp := fun b => if b = a then some o else H b
theorem upd_same {H : Hp} {a : Addr} {o : HO} : upd H a o a = some o := by unfold upd; rw [if_pos rfl]
theorem upd_ne {H : Hp} {a b : Addr} {o : HO} (h : b ≠ a) : upd H a o b = H b := by unfold upd; rw [if_neg h]
theorem upd_upd {H : Hp} {a : Addr} {o u : HO} : upd (upd H a o) a u = upd H a u := by
  funext b; unfold upd; split <;> rfl
theorem ne_of {H : Hp} {a b : Addr} {o u : HO} (h : H a = some o) (h' : H b = some u) (d : o ≠ u) : a ≠ b := by
  intro e; subst e; rw [h] at h'; exact d (Option.some.inj h')
theorem ne_of_none {H : Hp} {a b : Addr} {o : HO} (h : H a = some o) (h' : H b = none) : a ≠ b := by
  intro e; subst e; rw [h] at h'; cases h'
section
variable (P : Program) (w : World)
def ObjOk (H : Hp) (h : Heap) (a : Addr) : HO → Prop
  | .lst xs => xs.length ≤ sizeLine ∧ ∃ (its : List Value) (n : Nat), Vals xs its ∧ h.get? a = some { cls := .type "list", data := .seq its.toArray n }
  | .tup xs => xs.length ≤ sizeLine ∧ ∃ its : List Value, Vals xs its ∧ IsTup h a its.toArray
  | .dK kvs => kvs.length ≤ sizeLine ∧ (a == sysModules) = false ∧ ∃ vs, KV kvs vs ∧ h.DictOf (mixKind P w) a vs
  | .dT kvs => kvs.length ≤ sizeLine ∧ (a == sysModules) = false ∧ ∃ xs : List (List Key × Addr × Value),
      Paired (fun (p : List Key × V) (q : List Key × Addr × Value) => p.1 = q.1 ∧ H q.2.1 = some (.tup (p.1.map kV)) ∧ RelV p.2 q.2.2) kvs xs ∧
      ∃ o es ep, h.get? a = some o ∧ o.ExactDict ∧ o.data = .dict es ep ∧ es.toList = xs.map (entryOfKey (tupleKind (mixKind P w))) ∧ (xs.map (·.1)).Nodup
  | .set S n => h.SetOf (intKind P w) a S n
  | .ins C dx fs => H dx = some (.own a) ∧ fs.length ≤ 1000 ∧ dx ≠ a ∧ h.get? a = some (PySem.W.instObj C dx) ∧
      ∃ mA, h.Ns1 dx mA ∧ (∀ f, RelO (fs.lookup f) (mA f)) ∧ PySem.Within mA (fs.map (·.1))
  | .own _ => ∃ o, h.get? a = some o
  | .xd fs => ∃ mA, h.Ns1 a mA ∧ ∀ f, RelO (fs.lookup f) (mA f)
  | .rng lo hi => ∃ t u v, h.get? a = some { cls := .type "range", data := .fields #[.int lo t, .int hi u, .int 1 v] }
  | .frz o u => h.get? a = some o ∧ ObjOk H h a u
  | .tbl ps => h.get? a = some { cls := .none, data := .fields ps }
  | .met f x => h.get? a = some (PySem.W.methodObj (.ref f) (.ref x))
  | .ext φ => φ h ∧ (∃ o, h.get? a = some o) ∧ ∀ h1 h2 : Heap, φ h1 → (∀ o, h1.get? a = some o → h2.get? a = some o) → φ h2
def HOk (H : Hp) (h : Heap) : Prop := ∀ a o, H a = some o → ObjOk P w H h a o
end
section
variable {P : Program} {w : World} {H H' : Hp} {h h' : Heap} {a : Addr} {o : HO}
theorem ObjOk.lt (x : ObjOk P w H h a o) : a < h.objs.size := by
  cases o with
  | lst xs => obtain ⟨_, _, _, _, e⟩ := x; exact Heap.lt_size e
  | tup xs => obtain ⟨_, _, _, p⟩ := x; exact p.lt
  | dK kvs => obtain ⟨_, _, _, _, o, _, _, e, _⟩ := x; exact Heap.lt_size e
  | dT kvs => obtain ⟨_, _, _, _, o, _, _, e, _⟩ := x; exact Heap.lt_size e
  | set S n => obtain ⟨o, _, _, _, e, _⟩ := x; exact Heap.lt_size e
  | ins C dx fs => obtain ⟨_, _, _, e, _⟩ := x; exact Heap.lt_size e
  | own y => obtain ⟨_, e⟩ := x; exact Heap.lt_size e
  | xd fs => obtain ⟨_, ⟨_, _, _, e, _⟩, _⟩ := x; exact Heap.lt_size e
  | rng lo hi => obtain ⟨_, _, _, e⟩ := x; exact Heap.lt_size e
  | frz ob u => obtain ⟨e, _⟩ := x; exact Heap.lt_size e
  | tbl ps => exact Heap.lt_size (show h.get? a = some _ from x)
  | met f y => exact Heap.lt_size (show h.get? a = some _ from x)
  | ext φ => obtain ⟨_, ⟨_, e⟩, _⟩ := x; exact Heap.lt_size e
theorem Paired.mapP {α β : Type} {F G : α → β → Prop} : ∀ {l₁ : List α} {l₂ : List β}, Paired F l₁ l₂ → (∀ a b, F a b → G a b) → Paired G l₁ l₂
  | _, _, .nil, _ => .nil
  | _, _, .cons r t, f => .cons (f _ _ r) (Paired.mapP t f)
theorem Paired.imp' {α β : Type} {F G : α → β → Prop} (f : ∀ a b, F a b → G a b) {l₁ : List α} {l₂ : List β} (r : Paired F l₁ l₂) : Paired G l₁ l₂ := Paired.mapP r f
theorem ObjOk.stay (x : ObjOk P w H h a o) (k : ∀ b u, (b = a ∨ H b = some (.own a)) → h.get? b = some u → h'.get? b = some u)
    (ho : ∀ b, H b = some (.own a) → H' b = some (.own a)) (ht : ∀ b xs, H b = some (.tup xs) → H' b = some (.tup xs)) : ObjOk P w H' h' a o := by
  induction o with
  | lst xs => obtain ⟨z, its, n, r, e⟩ := x; exact ⟨z, its, n, r, k _ _ (.inl rfl) e⟩
  | tup xs => obtain ⟨z, its, r, ob, e, c⟩ := x; exact ⟨z, its, r, ob, k _ _ (.inl rfl) e, c⟩
  | dK kvs => obtain ⟨z, y, vs, r, ob, es, ep, e, c⟩ := x; exact ⟨z, y, vs, r, ob, es, ep, k _ _ (.inl rfl) e, c⟩
  | dT kvs =>
    obtain ⟨z, y, xs, r, ob, es, ep, e, c⟩ := x
    exact ⟨z, y, xs, Paired.mapP r fun p q z => ⟨z.1, ht _ _ z.2.1, z.2.2⟩, ob, es, ep, k _ _ (.inl rfl) e, c⟩
  | set S n => obtain ⟨ob, es, ep, t, e, c⟩ := x; exact ⟨ob, es, ep, t, k _ _ (.inl rfl) e, c⟩
  | ins C dx fs =>
    obtain ⟨d, z, ne, e, mA, ⟨od, es, ep, e2, c⟩, r⟩ := x
    exact ⟨ho _ d, z, ne, k _ _ (.inl rfl) e, mA, ⟨od, es, ep, k _ _ (.inr d) e2, c⟩, r⟩
  | own y => obtain ⟨ob, e⟩ := x; exact ⟨ob, k _ _ (.inl rfl) e⟩
  | xd fs => obtain ⟨mA, ⟨od, es, ep, e, c⟩, r⟩ := x; exact ⟨mA, ⟨od, es, ep, k _ _ (.inl rfl) e, c⟩, r⟩
  | rng lo hi => obtain ⟨t, u, v, e⟩ := x; exact ⟨t, u, v, k _ _ (.inl rfl) e⟩
  | frz ob u ih => obtain ⟨e, q⟩ := x; exact ⟨k _ _ (.inl rfl) e, ih q⟩
  | tbl ps =>
    have e : h.get? a = some { cls := .none, data := .fields ps } := x
    show h'.get? a = some { cls := .none, data := .fields ps }
    exact k a _ (.inl rfl) e
  | met f y =>
    have e : h.get? a = some (PySem.W.methodObj (.ref f) (.ref y)) := x
    show h'.get? a = some (PySem.W.methodObj (.ref f) (.ref y))
    exact k a _ (.inl rfl) e
  | ext φ => obtain ⟨p, ⟨o, e⟩, st⟩ := x; exact ⟨st _ _ p fun o q => k _ _ (.inl rfl) q, ⟨o, k _ _ (.inl rfl) e⟩, st⟩
theorem HOk.lt (x : HOk P w H h) (e : H a = some o) : a < h.objs.size := (x a o e).lt
theorem HOk.fresh (x : HOk P w H h) (e : h.objs.size ≤ a) : H a = none := by
  cases q : H a with
  | none => rfl
  | some u => exact absurd (Nat.lt_of_lt_of_le (x.lt q) e) (Nat.lt_irrefl _)
theorem HOk.kept (x : HOk P w H h) (k : ∀ b u, h.get? b = some u → h'.get? b = some u) : HOk P w H h' := fun a o e =>
  (x a o e).stay (fun b u _ q => k b u q) (fun _ q => q) fun _ _ q => q
theorem HOk.laid (x : HOk P w H h) (k : ∀ b u, h.get? b = some u → h'.get? b = some u) (hp : h.objs.size ≤ a) (new : ObjOk P w (upd H a o) h' a o) : HOk P w (upd H a o) h' := fun b u e => by
  have hn := x.fresh hp
  by_cases hb : b = a
  · subst hb; rw [upd_same] at e; cases e; exact new
  · rw [upd_ne hb] at e
    exact (x b u e).stay (fun c v _ q => k c v q) (fun c q => by rw [upd_ne (ne_of_none q hn)]; exact q) fun c xs q => by rw [upd_ne (ne_of_none q hn)]; exact q
end
def Rd (H : Hp) (a : Addr) (u : HO) : Prop := H a = some u ∨ ∃ o, H a = some (.frz o u)
theorem Rd.ok {P : Program} {w : World} {H : Hp} {h : Heap} {a : Addr} {u : HO} (r : Rd H a u) (x : HOk P w H h) : ObjOk P w H h a u := by
  rcases r with r | ⟨o, r⟩
  · exact x a u r
  · obtain ⟨_, q⟩ := x a _ r
    exact q
def Mut : Option HO → Prop
  | some (.lst _) => True
  | some (.dK _) => True
  | some (.dT _) => True
  | some (.set _ _) => True
  | some (.ins _ _ _) => True
  | some (.ext _) => True
  | _ => False
section
variable {P : Program} {w : World} {H : Hp} {h h' : Heap} {x e : Addr} {o' : HO}
theorem HOk.write (ok : HOk P w H h) (mu : Mut (H x)) (he : e = x ∨ H e = some (.own x)) (k : ∀ b u, b ≠ e → h.get? b = some u → h'.get? b = some u) (heo : ∃ u, h'.get? e = some u)
    (new : ObjOk P w (upd H x o') h' x o') : HOk P w (upd H x o') h' := fun b u q => by
  have nown : ∀ c y, H c = some (.own y) → c ≠ x := fun c y r z => by subst z; rw [r] at mu; exact mu
  have ntup : ∀ c xs, H c = some (.tup xs) → c ≠ x := fun c xs r z => by subst z; rw [r] at mu; exact mu
  by_cases hb : b = x
  · subst hb; rw [upd_same] at q; cases q; exact new
  · rw [upd_ne hb] at q
    by_cases hbe : b = e
    · have q' : H b = some (.own x) := by
        rcases he with z | z
        · exact absurd (hbe.trans z) hb
        · rw [hbe]; exact z
      rw [q] at q'; cases q'
      obtain ⟨v, hv⟩ := heo
      exact ⟨v, by rw [hbe]; exact hv⟩
    · refine (ok b u q).stay (fun c v hc r => k c v ?_ r) (fun c r => by rw [upd_ne (nown c b r)]; exact r) fun c xs r => by rw [upd_ne (ntup c xs r)]; exact r
      rcases hc with rfl | hc
      · exact hbe
      · rintro rfl
        rcases he with z | z
        · exact nown c b hc z
        · rw [hc] at z; cases z; exact hb rfl
end
structure Un (fs ex : List Addr) (H H' : Hp) (h h' : Heap) : Prop where
  keep : ∀ b o, h.get? b = some o → H b = none → b ∉ fs → b ∉ ex → h'.get? b = some o
  slot : ∀ b o, h.get? b = some o → H b = none → b ∈ fs → b ∉ ex → ∃ sl, h'.get? b = some { o with slots := sl }
  free : ∀ b o, h.get? b = some o → H b = none → b ∉ ex → H' b = none
  there : ∀ b o, h.get? b = some o → b ∉ ex → ∃ o', h'.get? b = some o'
  tups : ∀ b xs, H b = some (.tup xs) → H' b = some (.tup xs)
  frzs : ∀ b o u, H b = some (.frz o u) → H' b = some (.frz o u)
  tbls : ∀ b ps, H b = some (.tbl ps) → ∃ more, H' b = some (.tbl (ps ++ more))
section
variable {fs fs' ex ex' : List Addr} {H H1 H2 : Hp} {h h1 h2 h' : Heap} {a x e : Addr} {o : HO}
theorem Un.any (u : Un fs ex H H1 h h1) {b : Addr} {ob : Obj} (q : h.get? b = some ob) (n : H b = none) (hx : b ∉ ex) : ∃ sl, h1.get? b = some { ob with slots := sl } := by
  by_cases hb : b ∈ fs
  · exact u.slot b ob q n hb hx
  · exact ⟨ob.slots, u.keep b ob q n hb hx⟩
theorem Un.kept (k : ∀ b u, h.get? b = some u → h'.get? b = some u) : Un fs ex H H h h' :=
  ⟨fun b ob q _ _ _ => k b ob q, fun b ob q _ _ _ => ⟨ob.slots, k b ob q⟩, fun _ _ _ n _ => n, fun b ob q _ => ⟨ob, k b ob q⟩, fun _ _ q => q, fun _ _ _ q => q, fun _ ps q => ⟨#[], by rw [q]; simp⟩⟩
theorem Un.refl : Un fs ex H H h h := Un.kept fun _ _ q => q
theorem Un.laid (k : ∀ b u, h.get? b = some u → h'.get? b = some u) (hp : h.objs.size ≤ a) (hn : H a = none) : Un fs ex H (upd H a o) h h' where
  keep := fun b u q _ _ _ => k b u q
  slot := fun b u q _ _ _ => ⟨u.slots, k b u q⟩
  free := fun b u q n _ => by rw [upd_ne (Nat.ne_of_lt (Nat.lt_of_lt_of_le (Heap.lt_size q) hp))]; exact n
  there := fun b u q _ => ⟨u, k b u q⟩
  tups := fun b xs q => by rw [upd_ne (ne_of_none q hn)]; exact q
  frzs := fun b u xs q => by rw [upd_ne (ne_of_none q hn)]; exact q
  tbls := fun b ps q => ⟨#[], by rw [upd_ne (ne_of_none q hn), q]; simp⟩
theorem Un.write (mu : Mut (H x)) (he : e = x ∨ H e = some (.own x)) (k : ∀ b u, b ≠ e → h.get? b = some u → h'.get? b = some u) (heo : ∃ u, h'.get? e = some u) : Un fs ex H (upd H x o) h h' := by
  have hx : ∀ b, H b = none → b ≠ x := fun b n z => by subst z; rw [n] at mu; exact mu
  have hb : ∀ b, H b = none → b ≠ e := fun b n z => by
    subst z
    rcases he with r | r
    · exact hx b n r
    · rw [n] at r; cases r
  have hm : ∀ b u, H b = some u → ¬ Mut (some u) → b ≠ x := fun b u q nm z => by subst z; rw [q] at mu; exact nm mu
  refine ⟨fun b u q n _ _ => k b u (hb b n) q, fun b u q n _ _ => ⟨u.slots, k b u (hb b n) q⟩, fun b u q n _ => by rw [upd_ne (hx b n)]; exact n, fun b u q _ => ?_,
    fun b xs q => by rw [upd_ne (hm b _ q fun z => z)]; exact q, fun b u xs q => by rw [upd_ne (hm b _ q fun z => z)]; exact q, fun b ps q => ⟨#[], by rw [upd_ne (hm b _ q fun z => z), q]; simp⟩⟩
  by_cases hbe : b = e
  · subst hbe; exact heo
  · exact ⟨u, k b u hbe q⟩
end
def trk (h : Heap) (H : Hp) : List Addr := (List.range h.objs.size).filter fun a => (H a).isSome
def hidT (h : Heap) (H : Hp) : Heap := PySem.W.hideAll h (trk h H)
theorem hidT_size (h : Heap) (H : Hp) : (hidT h H).objs.size = h.objs.size := PySem.W.hideAll_size _ _
theorem hidT_get {h : Heap} {H : Hp} {b : Addr} {o : Obj} (e : h.get? b = some o) (n : H b = none) : (hidT h H).get? b = some o :=
  PySem.W.hideAll_get _ e fun hm => by
    have q : (H b).isSome = true := (List.mem_filter.mp hm).2
    rw [n] at q; simp at q
theorem of_hidT {h : Heap} {H : Hp} {b : Addr} {o : Obj} (e : (hidT h H).get? b = some o) : h.get? b = some o ∧ H b = none := by
  have e' : h.get? b = some o := PySem.W.of_hideAll (trk h H) e
  refine ⟨e', ?_⟩
  cases q : H b with
  | none => rfl
  | some x =>
    have hm : b ∈ trk h H := List.mem_filter.mpr ⟨List.mem_range.mpr (Heap.lt_size e'), by simp [q]⟩
    have z : (hidT h H).get? b = none := PySem.W.hideAll_none (trk h H) hm
    rw [z] at e; cases e
def allNews (g h : Heap) (L : Addr) : List (Addr × Obj) := (List.range h.objs.size).filterMap fun a => if a = L ∨ (g.get? a).isSome = true then none else (h.get? a).map fun o => (a, o)
def rest (g h : Heap) (L d : Addr) : List (Addr × Obj) := (allNews g h L).filter fun p => decide (p.1 ≠ d)
end L2
namespace L2
open PySem PySem.Spec PyProof.Rows
structure Mod (K : PySem.W.Frag) (mg : Str → Option Value) (base : Heap) : Prop where
  kin : K.In base
  glob : base.Ns mainGlobals mg
  blt : ∃ mb, base.Ns builtinsNs mb ∧ ∀ x : Str, x ≠ "__name__" → mb x = bootBuiltins x
  nolimit : base.NoLimit
/-- the context: a def's body (or a comprehension's block) running. base: fixed through the whole law; s₀, H₀: the entry; outer: the frames whose slots others may change (a def's callers); stack: all frames that run;
   ex: iterators that were made ahead of the entry and are walked here (a comprehension's); fn: the names whose cells were made at the entry (a def: all; a comprehension's block: its own); calm: not within an except suite; pn: pins that every state bears; xe: what is wanted of an exception that leaves the code -/
structure Cx where
  prog : Program
  w : World
  K : PySem.W.Frag
  mg : Str → Option Value
  base : Heap
  A : Around
  N : List Str
  s₀ : Shared
  H₀ : Hp
  env : Env
  outer : List Env
  stack : List Env
  ex : List Addr
  fn : Str → Bool
  calm : Bool
  pn : List (Addr × Obj)
  xe : Value → Shared → Prop
def frs (l : List Env) : List Addr := l.filterMap (·.frame)
abbrev Cx.fs (X : Cx) : List Addr := frs X.outer
def Vis (sc : Scope) (x : Str) : Prop := sc.names.lookup x = some .local ∨ sc.names.lookup x = some .cell ∨ sc.names.lookup x = some .free
def Loc (sc : Scope) (x : Str) : Prop := sc.names.lookup x = some .local ∨ sc.names.lookup x = some .cell
def Look (env : Env) (h : Heap) (m : Str → Option Value) (x : Str) (u : Value) : Prop :=
  (env.kindOf x = some .local ∧ m x = some u) ∨ ((env.kindOf x = some .cell ∨ env.kindOf x = some .free) ∧ ∃ c, env.cells.lookup x = some c ∧ h.IsCell c (some u))
structure Cx.Ok (X : Cx) : Prop where
  mod : Mod X.K X.mg X.base
  kind : X.env.scope.kind = .function
  glob : X.env.globals = mainGlobals
  blt : X.env.builtins = builtinsNs
  above : X.s₀.heap.objs.size ≤ X.env.locals
  inj : ∀ x y c, X.env.cells.lookup x = some c → X.env.cells.lookup y = some c → x = y
  has : ∀ x, (X.env.kindOf x = some .cell ∨ X.env.kindOf x = some .free) → ∃ c, X.env.cells.lookup x = some c
  cab : ∀ x c, X.fn x = true → X.env.cells.lookup x = some c → X.s₀.heap.objs.size ≤ c
  hd : X.calm = true → X.A.handled = none
  frames : X.A.frames = some X.stack
  stk : X.stack = X.outer ∨ (X.stack = X.env :: X.outer ∧ X.env.frame = some X.env.locals)
  exf : ∀ b ∈ X.ex, b ≠ X.env.locals ∧ ∀ x c, X.env.cells.lookup x = some c → c ≠ b
  bs : ∀ b o, X.base.get? b = some o → X.s₀.heap.get? b = some o ∧ X.H₀ b = none
  bsz : X.base.objs.size ≤ X.s₀.heap.objs.size
  noex : ∀ b o, X.base.get? b = some o → b ∉ X.ex
  exfs : ∀ b ∈ X.ex, b ∉ X.fs
  funs : X.s₀.heap.FunFrames X.base X.outer
  frf : ∀ b ∈ X.fs, X.H₀ b = none
structure Inv (X : Cx) (pins : List (Addr × Obj)) (σ : List (Option V)) (H : Hp) (s : Shared) : Prop where
  ok : X.Ok
  os : s.os = X.s₀.os
  bare : AllBare s.gens
  base : Un X.fs X.ex X.H₀ H X.s₀.heap s.heap
  loc : ∃ m, s.heap.Ns X.env.locals m ∧ ∀ (i : Nat) (x : Str) (v : V), X.N[i]? = some x → σ[i]? = some (some v) → Vis X.env.scope x → ∃ u, RelV v u ∧ Look X.env s.heap m x u
  cell : ∀ x c, X.env.cells.lookup x = some c → ∃ v, s.heap.IsCell c v
  free : H X.env.locals = none
  freeC : ∀ x c, X.env.cells.lookup x = some c → H c = none
  pin : ∀ p ∈ X.pn ++ pins, s.heap.get? p.1 = some p.2 ∧ H p.1 = none ∧ p.1 ≠ X.env.locals ∧ p.1 ∉ X.fs ∧ ∀ v, p.2.data ≠ .cell v
  hok : HOk X.prog X.w H s.heap
  len : σ.length = X.N.length
section
variable {X : Cx} {pins : List (Addr × Obj)} {σ : List (Option V)} {H H' : Hp} {s : Shared} {h' : Heap}
theorem Cx.Ok.nofr (ok : X.Ok) {b : Addr} {o : Obj} (e : X.base.get? b = some o) : b ∉ X.fs := fun hb => by
  have := (ok.funs.mem hb).1
  rw [e] at this; cases this
theorem Inv.bs (I : Inv X pins σ H s) : ∀ b o, X.base.get? b = some o → s.heap.get? b = some o ∧ H b = none := fun b o e =>
  ⟨I.base.keep b o (I.ok.bs b o e).1 (I.ok.bs b o e).2 (I.ok.nofr e) (I.ok.noex b o e), I.base.free b o (I.ok.bs b o e).1 (I.ok.bs b o e).2 (I.ok.noex b o e)⟩
theorem Inv.bk (I : Inv X pins σ H s) : ∀ b o, X.base.get? b = some o → s.heap.get? b = some o := fun b o e => (I.bs b o e).1
theorem Inv.mod (I : Inv X pins σ H s) : Mod X.K X.mg X.base := I.ok.mod
theorem Inv.kIn (I : Inv X pins σ H s) : X.K.In s.heap := I.ok.mod.kin.keeps I.bk
theorem Inv.lt (I : Inv X pins σ H s) : X.env.locals < s.heap.objs.size := let ⟨_, hn, _⟩ := I.loc; hn.lt
theorem Inv.sz (I : Inv X pins σ H s) : X.s₀.heap.objs.size ≤ s.heap.objs.size := Nat.le_trans I.ok.above (Nat.le_of_lt I.lt)
theorem Inv.nofs (I : Inv X pins σ H s) {a : Addr} (h : s.heap.objs.size ≤ a) : a ∉ X.fs := fun hb => by
  obtain ⟨_, o, ho, _⟩ := I.ok.funs.mem hb
  exact absurd (Nat.lt_of_lt_of_le (Heap.lt_size ho) (Nat.le_trans I.sz h)) (Nat.lt_irrefl _)
theorem Inv.cne (I : Inv X pins σ H s) : ∀ x c, X.env.cells.lookup x = some c → c ≠ X.env.locals := fun x c e z => by
  obtain ⟨v, o, ho, hd⟩ := I.cell x c e
  obtain ⟨m, ⟨o', es, ep, ho', hd', _⟩, _⟩ := I.loc
  rw [z, ho'] at ho; cases ho; rw [hd'] at hd; cases hd
theorem Inv.funs (I : Inv X pins σ H s) : s.heap.FunFrames X.base X.outer := by
  have all : ∀ (l : List Env), (∀ b ∈ frs l, b ∈ X.fs) → X.s₀.heap.FunFrames X.base l → s.heap.FunFrames X.base l := by
    intro l
    induction l with
    | nil => intro _ _; trivial
    | cons env r ih =>
      intro hs hl
      obtain ⟨hk, ⟨L, o, hf, hn, ho, hd⟩, hr⟩ := hl
      have hL : L ∈ X.fs := hs L (by unfold frs; rw [List.filterMap_cons, hf]; exact List.mem_cons_self)
      obtain ⟨sl, e⟩ := I.base.slot L o ho (I.ok.frf L hL) hL fun z => I.ok.exfs L z hL
      exact ⟨hk, ⟨L, _, hf, hn, e, hd⟩, ih (fun b hb => hs b (by unfold frs; rw [List.filterMap_cons, hf]; exact List.mem_cons_of_mem _ hb)) hr⟩
  exact all X.outer (fun _ hb => hb) I.ok.funs
theorem Inv.stack (I : Inv X pins σ H s) : s.heap.FunFrames X.base X.stack := by
  rcases I.ok.stk with e | ⟨e, hf⟩
  · rw [e]; exact I.funs
  · rw [e]
    obtain ⟨m, hn, _⟩ := I.loc
    refine .cons (by rw [I.ok.kind]; decide) hf hn ?_ I.funs
    exact Heap.get?_none_of_le (Nat.le_trans I.ok.bsz I.ok.above)
theorem Inv.stkSub (I : Inv X pins σ H s) : ∀ b ∈ frs X.stack, b ∈ X.env.locals :: X.fs := fun b hb => by
  rcases I.ok.stk with e | ⟨e, hf⟩
  · rw [e] at hb; exact List.mem_cons_of_mem _ hb
  · rw [e] at hb
    unfold frs at hb
    rw [List.filterMap_cons, hf] at hb
    exact hb
theorem Inv.stkFree (I : Inv X pins σ H s) : ∀ b ∈ frs X.stack, H b = none := fun b hb => by
  rcases List.mem_cons.mp (I.stkSub b hb) with e | hb
  · rw [e]; exact I.free
  · obtain ⟨_, o, ho, _⟩ := I.ok.funs.mem hb
    exact I.base.free b o ho (I.ok.frf b hb) fun z => I.ok.exfs b z hb
theorem Inv.step {g' : Array GenState} {t' : Nat} {d' : Drawn} {ch : List Addr} (I : Inv X pins σ H s)
    (hch : ∀ b ∈ ch, (b ∈ X.ex ∨ X.s₀.heap.objs.size ≤ b) ∧ b ≠ X.env.locals ∧ (∀ x c, X.env.cells.lookup x = some c → c ≠ b) ∧ ∀ p ∈ X.pn ++ pins, p.1 ≠ b)
    (keep : ∀ b o, b ≠ X.env.locals → b ∉ X.fs → b ∉ ch → s.heap.get? b = some o → H b = none → h'.get? b = some o)
    (slot : ∀ b o, b ≠ X.env.locals → b ∈ X.fs → b ∉ ch → s.heap.get? b = some o → H b = none → ∃ sl, h'.get? b = some { o with slots := sl }) (free : ∀ b o, b ∉ ch → s.heap.get? b = some o → H b = none → H' b = none)
    (there : ∀ b o, b ∉ ch → s.heap.get? b = some o → ∃ o', h'.get? b = some o')
    (tups : ∀ b xs, H b = some (.tup xs) → H' b = some (.tup xs)) (frzs : ∀ b o u, H b = some (.frz o u) → H' b = some (.frz o u)) (tbls : ∀ b ps, H b = some (.tbl ps) → ∃ more, H' b = some (.tbl (ps ++ more)))
    (ns : ∀ m, s.heap.Ns X.env.locals m → h'.Ns X.env.locals m) (hok : HOk X.prog X.w H' h') (hg : AllBare g') :
    Inv X pins σ H' { s with heap := h', gens := g', drawn := d', toks := t' } := by
  have neL : ∀ b o, X.s₀.heap.get? b = some o → b ≠ X.env.locals := fun b o e => Nat.ne_of_lt (Nat.lt_of_lt_of_le (Heap.lt_size e) I.ok.above)
  have neC : ∀ b o, X.s₀.heap.get? b = some o → b ∉ X.ex → b ∉ ch := fun b o e hx hb => by
    rcases (hch b hb).1 with z | z
    · exact hx z
    · exact absurd (Nat.lt_of_lt_of_le (Heap.lt_size e) z) (Nat.lt_irrefl _)
  have cellK : ∀ x c, X.env.cells.lookup x = some c → ∀ v, s.heap.IsCell c v → h'.IsCell c v := fun x c e v ⟨o, ho, hd⟩ => by
    have nch : c ∉ ch := fun z => (hch c z).2.2.1 x c e rfl
    by_cases hc : c ∈ X.fs
    · obtain ⟨sl, q⟩ := slot c o (I.cne x c e) hc nch ho (I.freeC x c e)
      exact ⟨_, q, hd⟩
    · exact ⟨o, keep c o (I.cne x c e) hc nch ho (I.freeC x c e), hd⟩
  refine ⟨I.ok, I.os, hg, ⟨fun b o e n hb hx => ?_, fun b o e n hb hx => ?_, fun b o e n hx => ?_, fun b o e hx => ?_, fun b xs e => tups b xs (I.base.tups b xs e), fun b o xs e => frzs b o xs (I.base.frzs b o xs e), fun b ps e => ?_⟩, ?_, fun x c e => ?_, ?_, fun x c e => ?_, fun p hp => ?_, hok, I.len⟩
  · exact keep b o (neL b o e) hb (neC b o e hx) (I.base.keep b o e n hb hx) (I.base.free b o e n hx)
  · obtain ⟨sl, e1⟩ := I.base.slot b o e n hb hx
    obtain ⟨sl', e2⟩ := slot b _ (neL b o e) hb (neC b o e hx) e1 (I.base.free b o e n hx)
    exact ⟨sl', e2⟩
  · obtain ⟨o', e1⟩ := I.base.there b o e hx
    exact free b o' (neC b o e hx) e1 (I.base.free b o e n hx)
  · obtain ⟨o', e1⟩ := I.base.there b o e hx
    exact there b o' (neC b o e hx) e1
  · obtain ⟨m1, e1⟩ := I.base.tbls b ps e
    obtain ⟨m2, e2⟩ := tbls b _ e1
    exact ⟨m1 ++ m2, by rw [e2, Array.append_assoc]⟩
  · obtain ⟨m, hn, hl⟩ := I.loc
    refine ⟨m, ns m hn, fun i x v e1 e2 e3 => ?_⟩
    obtain ⟨u, r, l⟩ := hl i x v e1 e2 e3
    refine ⟨u, r, ?_⟩
    rcases l with l | ⟨k, c, e, z⟩
    · exact .inl l
    · exact .inr ⟨k, c, e, cellK x c e _ z⟩
  · obtain ⟨v, z⟩ := I.cell x c e
    exact ⟨v, cellK x c e v z⟩
  · obtain ⟨m, ⟨o, _, _, ho, _⟩, _⟩ := I.loc
    exact free _ o (fun z => (hch _ z).2.1 rfl) ho I.free
  · obtain ⟨v, o, ho, hd⟩ := I.cell x c e
    exact free c o (fun z => (hch c z).2.2.1 x c e rfl) ho (I.freeC x c e)
  · obtain ⟨e, n, ne, nf, d⟩ := I.pin p hp
    have nch : p.1 ∉ ch := fun z => (hch p.1 z).2.2.2 p hp rfl
    exact ⟨keep p.1 p.2 ne nf nch e n, free p.1 p.2 nch e n, ne, nf, d⟩
theorem Inv.un {t' : Nat} (I : Inv X pins σ H s) (u : Un X.fs [] H H' s.heap h') (hok : HOk X.prog X.w H' h') : Inv X pins σ H' { s with heap := h', toks := t' } := by
  obtain ⟨m, ⟨o, es, ep, ho, r⟩, _⟩ := id I.loc
  obtain ⟨sl, hL⟩ := u.any ho I.free (by simp)
  exact I.step (g' := s.gens) (d' := s.drawn) (ch := []) (fun _ z => nomatch z) (fun b o _ hb _ e n => u.keep b o e n hb (by simp)) (fun b o _ hb _ e n => u.slot b o e n hb (by simp)) (fun b o _ e n => u.free b o e n (by simp)) (fun b o _ e => u.there b o e (by simp)) u.tups u.frzs u.tbls (fun m' hm => by
    obtain ⟨o', es', ep', ho', r'⟩ := hm
    rw [ho] at ho'; cases ho'
    exact ⟨_, es', ep', hL, r'⟩) hok I.bare
theorem Inv.call {g' : Array GenState} {t' : Nat} {d' : Drawn} {ch : List Addr} (I : Inv X pins σ H s) (u : Un (frs X.stack) ch H H' s.heap h') (hok : HOk X.prog X.w H' h') (hg : AllBare g')
    (hch : ∀ b ∈ ch, (b ∈ X.ex ∨ X.s₀.heap.objs.size ≤ b) ∧ b ≠ X.env.locals ∧ (∀ x c, X.env.cells.lookup x = some c → c ≠ b) ∧ ∀ p ∈ X.pn ++ pins, p.1 ≠ b) :
    Inv X pins σ H' { s with heap := h', gens := g', drawn := d', toks := t' } := by
  obtain ⟨m, ⟨o, es, ep, ho, r⟩, _⟩ := id I.loc
  obtain ⟨sl, hL⟩ := u.any ho I.free fun z => (hch _ z).2.1 rfl
  exact I.step (ch := ch) hch (fun b o hL hb hc e n => u.keep b o e n (fun z => (List.mem_cons.mp (I.stkSub b z)).elim hL hb) hc) (fun b o _ _ hc e n => u.any e n hc) (fun b o hc e n => u.free b o e n hc) (fun b o hc e => u.there b o e hc) u.tups u.frzs u.tbls (fun m' hm => by
    obtain ⟨o', es', ep', ho', r'⟩ := hm
    rw [ho] at ho'; cases ho'
    exact ⟨_, es', ep', hL, r'⟩) hok hg
theorem Inv.turned {t' : Nat} {it : Addr} (I : Inv X pins σ H s) (k : ∀ b o, b ≠ it → s.heap.get? b = some o → h'.get? b = some o) (hn : H it = none) (hL : it ≠ X.env.locals)
    (h1 : it ∈ X.ex ∨ X.s₀.heap.objs.size ≤ it) (h2 : ∀ x c, X.env.cells.lookup x = some c → c ≠ it) (h3 : ∀ p ∈ X.pn ++ pins, p.1 ≠ it) : Inv X pins σ H { s with heap := h', toks := t' } := by
  have nit : ∀ b u, H b = some u → b ≠ it := fun b u e z => by rw [z, hn] at e; cases e
  refine I.step (g' := s.gens) (d' := s.drawn) (ch := [it]) (fun b hb => ?_) (fun b o _ _ hc e _ => k b o (fun z => hc (by simp [z])) e) (fun b o _ _ hc e _ => ⟨o.slots, k b o (fun z => hc (by simp [z])) e⟩) (fun _ _ _ _ n => n)
    (fun b o hc e => ⟨o, k b o (fun z => hc (by simp [z])) e⟩) (fun _ _ e => e) (fun _ _ _ e => e) (fun b ps e => ⟨#[], by rw [e]; simp⟩) (fun m hm => ?_) (fun b u e => ?_) I.bare
  · have e : b = it := by simpa using hb
    subst e
    exact ⟨h1, hL, h2, h3⟩
  · obtain ⟨o, es, ep, ho, r⟩ := hm
    exact ⟨o, es, ep, k _ o (Ne.symm hL) ho, r⟩
  · refine (I.hok b u e).stay (fun c v hc q => k c v ?_ q) (fun _ q => q) fun _ _ q => q
    rcases hc with z | z
    · rw [z]; exact nit b u e
    · exact nit c _ z
theorem Inv.tok (I : Inv X pins σ H s) (t : Nat) : Inv X pins σ H { s with toks := t } := I.un (h' := s.heap) (t' := t) Un.refl I.hok
theorem Inv.kept {t' : Nat} (I : Inv X pins σ H s) (k : ∀ b u, s.heap.get? b = some u → h'.get? b = some u) : Inv X pins σ H { s with heap := h', toks := t' } := I.un (Un.kept k) (I.hok.kept k)
theorem Inv.laid {a : Addr} {o : HO} {t' : Nat} (I : Inv X pins σ H s) (k : ∀ b u, s.heap.get? b = some u → h'.get? b = some u) (hp : s.heap.objs.size ≤ a) (new : ObjOk X.prog X.w (upd H a o) h' a o) :
    Inv X pins σ (upd H a o) { s with heap := h', toks := t' } := I.un (Un.laid k hp (I.hok.fresh hp)) (I.hok.laid k hp new)
theorem Inv.write {x e : Addr} {o : HO} {t' : Nat} (I : Inv X pins σ H s) (mu : Mut (H x)) (he : e = x ∨ H e = some (.own x)) (k : ∀ b u, b ≠ e → s.heap.get? b = some u → h'.get? b = some u) (heo : ∃ u, h'.get? e = some u)
    (new : ObjOk X.prog X.w (upd H x o) h' x o) : Inv X pins σ (upd H x o) { s with heap := h', toks := t' } := I.un (Un.write mu he k heo) (I.hok.write mu he k heo new)
theorem Inv.pins_of {pins' : List (Addr × Obj)} (I : Inv X pins σ H s) (h : ∀ p ∈ pins', s.heap.get? p.1 = some p.2 ∧ H p.1 = none ∧ p.1 ≠ X.env.locals ∧ p.1 ∉ X.fs ∧ ∀ v, p.2.data ≠ .cell v) : Inv X pins' σ H s :=
  ⟨I.ok, I.os, I.bare, I.base, I.loc, I.cell, I.free, I.freeC, fun p hp => (List.mem_append.mp hp).elim (fun z => I.pin p (List.mem_append_left _ z)) (h p), I.hok, I.len⟩
theorem nodup_ix {N : List Str} (hN : N.Nodup) {i j : Nat} {x : Str} (a : N[i]? = some x) (b : N[j]? = some x) : i = j := by
  obtain ⟨h1, e1⟩ := List.getElem?_eq_some_iff.mp a
  obtain ⟨h2, e2⟩ := List.getElem?_eq_some_iff.mp b
  exact (List.getElem_inj hN).mp (e1.trans e2.symm)
theorem store_ok2 {M : Model} {A : Around} {E : Value → Shared → Prop} {i : Nat} {x : Str} {v : V} {u : Value} {Q : Unit → Shared → Prop} (I : Inv X pins σ H s) (hN : X.N.Nodup) (hi : X.N[i]? = some x) (hx : Loc X.env.scope x) (r : RelV v u)
    (h : ∀ s', Inv X pins (σ.set i (some v)) H s' → (∃ a, Heap.SameBut a s.heap s'.heap ∧ (a = X.env.locals ∨ X.env.cells.lookup x = some a)) → Q () s') (hf : X.fn x = true ∨ X.env.scope.names.lookup x = some .local := by first | exact .inl rfl | exact .inr rfl | assumption) : wpAny M A (storeName X.env x u) Q E s := by
  obtain ⟨m, hn, hl⟩ := id I.loc
  have hcls : (X.env.scope.kind == .class || (X.env.scope.kind == .module && X.env.locals != X.env.globals)) = false := by rw [I.ok.kind]; rfl
  have hiσ : i < σ.length := by rw [I.len]; exact (List.getElem?_eq_some_iff.mp hi).1
  have cne := I.cne
  have tracked : ∀ {a : Addr} {h' : Heap}, (∃ o, s.heap.get? a = some o ∧ H a = none) → Heap.SameBut a s.heap h' → HOk X.prog X.w H h' := fun {a h'} ha hs b ob e => by
    obtain ⟨_, _, hfree⟩ := ha
    refine (I.hok b ob e).stay (fun c w' hc q => (hs.2 c ?_).trans q) (fun _ q => q) fun _ _ q => q
    rintro rfl
    rcases hc with rfl | hc
    · rw [hfree] at e; cases e
    · rw [hfree] at hc; cases hc
  rcases hx with hk | hk
  · refine wpAny_storeName_local hk hn (fun h' hn' hs => ?_) hcls
    obtain ⟨oL, _, _, hoL, _⟩ := id hn
    refine h _ ⟨I.ok, I.os, I.bare, ⟨fun b o e n hb hx => ?_, fun b o e n hb hx => ?_, I.base.free, fun b o e hx => ?_, I.base.tups, I.base.frzs, I.base.tbls⟩, ⟨_, hn', fun j y v' e1 e2 e3 => ?_⟩, fun y c e => ?_, I.free, I.freeC, fun p hp => ?_, tracked ⟨oL, hoL, I.free⟩ hs, by simpa using I.len⟩ ⟨_, hs, .inl rfl⟩
    · exact (hs.2 b (Nat.ne_of_lt (Nat.lt_of_lt_of_le (Heap.lt_size e) I.ok.above))).trans (I.base.keep b o e n hb hx)
    · obtain ⟨sl, e1⟩ := I.base.slot b o e n hb hx
      exact ⟨sl, (hs.2 b (Nat.ne_of_lt (Nat.lt_of_lt_of_le (Heap.lt_size e) I.ok.above))).trans e1⟩
    · obtain ⟨o', e1⟩ := I.base.there b o e hx
      exact ⟨o', (hs.2 b (Nat.ne_of_lt (Nat.lt_of_lt_of_le (Heap.lt_size e) I.ok.above))).trans e1⟩
    · by_cases hj : j = i
      · subst hj
        rw [hi] at e1; cases e1
        rw [List.getElem?_set_self hiσ] at e2
        cases e2
        exact ⟨u, r, .inl ⟨hk, by simp⟩⟩
      · rw [List.getElem?_set_ne (Ne.symm hj)] at e2
        obtain ⟨u', r', q⟩ := hl j y v' e1 e2 e3
        refine ⟨u', r', ?_⟩
        rcases q with ⟨k, e⟩ | ⟨k, c, e, z⟩
        · refine .inl ⟨k, ?_⟩
          have : y ≠ x := fun e => hj (nodup_ix hN e1 (e ▸ hi))
          simp [this, e]
        · exact .inr ⟨k, c, e, z.sameBut hs (cne y c e)⟩
    · obtain ⟨w', z⟩ := I.cell y c e
      exact ⟨w', z.sameBut hs (cne y c e)⟩
    · obtain ⟨e, n, ne, nf, d⟩ := I.pin p hp
      exact ⟨(hs.2 p.1 ne).trans e, n, ne, nf, d⟩
  · have hfn : X.fn x = true := by
      rcases hf with z | z
      · exact z
      · rw [z] at hk; cases hk
    obtain ⟨c, hc⟩ := I.ok.has x (.inl hk)
    obtain ⟨w', z⟩ := I.cell x c hc
    refine wpAny_storeName_cell I.ok.kind hk hc z (fun h' hc' hs => ?_)
    obtain ⟨oc, hoc, hocd⟩ := id z
    refine h { s with heap := h' } ⟨I.ok, I.os, I.bare, ⟨fun b o e n hb hx => ?_, fun b o e n hb hx => ?_, I.base.free, fun b o e hx => ?_, I.base.tups, I.base.frzs, I.base.tbls⟩, ⟨m, hn.sameBut hs (Ne.symm (cne x c hc)), fun j y v' e1 e2 e3 => ?_⟩, fun y c' e => ?_, I.free, I.freeC, fun p hp => ?_, tracked ⟨oc, hoc, I.freeC x c hc⟩ hs, by simpa using I.len⟩ ⟨c, hs, .inr hc⟩
    · exact (hs.2 b (Nat.ne_of_lt (Nat.lt_of_lt_of_le (Heap.lt_size e) (I.ok.cab x c hfn hc)))).trans (I.base.keep b o e n hb hx)
    · obtain ⟨sl, e1⟩ := I.base.slot b o e n hb hx
      exact ⟨sl, (hs.2 b (Nat.ne_of_lt (Nat.lt_of_lt_of_le (Heap.lt_size e) (I.ok.cab x c hfn hc)))).trans e1⟩
    · obtain ⟨o', e1⟩ := I.base.there b o e hx
      exact ⟨o', (hs.2 b (Nat.ne_of_lt (Nat.lt_of_lt_of_le (Heap.lt_size e) (I.ok.cab x c hfn hc)))).trans e1⟩
    · by_cases hj : j = i
      · subst hj
        rw [hi] at e1; cases e1
        rw [List.getElem?_set_self hiσ] at e2
        cases e2
        exact ⟨u, r, .inr ⟨.inl hk, c, hc, hc'⟩⟩
      · rw [List.getElem?_set_ne (Ne.symm hj)] at e2
        obtain ⟨u', r', q⟩ := hl j y v' e1 e2 e3
        refine ⟨u', r', ?_⟩
        rcases q with q | ⟨k, c', e, z'⟩
        · exact .inl q
        · refine .inr ⟨k, c', e, z'.sameBut hs ?_⟩
          rintro rfl
          exact hj (nodup_ix hN e1 (I.ok.inj _ _ _ e hc ▸ hi))
    · by_cases hcc : c' = c
      · subst hcc; exact ⟨_, hc'⟩
      · obtain ⟨w2, z2⟩ := I.cell y c' e
        exact ⟨w2, z2.sameBut hs hcc⟩
    · obtain ⟨e, n, ne, nf, d⟩ := I.pin p hp
      refine ⟨(hs.2 p.1 ?_).trans e, n, ne, nf, d⟩
      intro q
      rw [q, hoc] at e
      have q' : oc = p.2 := Option.some.inj e
      exact d w' (by rw [← q']; exact hocd)
theorem store_ok {M : Model} {A : Around} {E : Value → Shared → Prop} {i : Nat} {x : Str} {v : V} {u : Value} {Q : Unit → Shared → Prop} (I : Inv X pins σ H s) (hN : X.N.Nodup) (hi : X.N[i]? = some x) (hx : Loc X.env.scope x) (r : RelV v u)
    (h : ∀ s', Inv X pins (σ.set i (some v)) H s' → Q () s') (hf : X.fn x = true ∨ X.env.scope.names.lookup x = some .local := by first | exact .inl rfl | exact .inr rfl | assumption) : wpAny M A (storeName X.env x u) Q E s :=
  store_ok2 I hN hi hx r (fun s' I' _ => h s' I') hf
theorem Inv.call' {s' : Shared} {ch : List Addr} (I : Inv X pins σ H s) (ho : s'.os = s.os) (u : Un (frs X.stack) ch H H' s.heap s'.heap) (hok : HOk X.prog X.w H' s'.heap) (hg : AllBare s'.gens)
    (hch : ∀ b ∈ ch, (b ∈ X.ex ∨ X.s₀.heap.objs.size ≤ b) ∧ b ≠ X.env.locals ∧ (∀ x c, X.env.cells.lookup x = some c → c ≠ b) ∧ ∀ p ∈ X.pn ++ pins, p.1 ≠ b) : Inv X pins σ H' s' := by
  obtain ⟨h', g', d', t', o'⟩ := s'
  have e : o' = s.os := ho
  subst e
  exact I.call (g' := g') (t' := t') (d' := d') u hok hg hch
end
abbrev XK := Value → Option Addr → Hp → Prop
abbrev St := List (Option V)
abbrev VK := V → Hp → Prop
abbrev TE := St → Hp → VK → Prop
abbrev TT := St → Hp → (Bool → Hp → Prop) → Prop
abbrev TA := St → Hp → (List V → Hp → Prop) → Prop
structure Ends where
  nx : St → Hp → Prop
  rt : VK
  bk : St → Hp → Prop := fun _ _ => False
  ct : St → Hp → Prop := fun _ _ => False
abbrev TS := Ends → St → Hp → Prop
def EP (X : Cx) (pins : List (Addr × Obj)) (σ : St) (Q : VK) (u : Value) (s' : Shared) : Prop := ∃ v H', Inv X pins σ H' s' ∧ RelV v u ∧ Q v H'
def TP (X : Cx) (pins : List (Addr × Obj)) (σ : St) (Q : Bool → Hp → Prop) (b : Bool) (s' : Shared) : Prop := ∃ H', Inv X pins σ H' s' ∧ Q b H'
def AP (X : Cx) (pins : List (Addr × Obj)) (σ : St) (Q : List V → Hp → Prop) (us : List Value) (s' : Shared) : Prop := ∃ vs H', Inv X pins σ H' s' ∧ Vals vs us ∧ Q vs H'
def SP (X : Cx) (pins : List (Addr × Obj)) (D : Ends) (f : Flow) (s' : Shared) : Prop :=
  match f with
  | .next => ∃ σ' H', Inv X pins σ' H' s' ∧ D.nx σ' H'
  | .brk => ∃ σ' H', Inv X pins σ' H' s' ∧ D.bk σ' H'
  | .cont => ∃ σ' H', Inv X pins σ' H' s' ∧ D.ct σ' H'
  | .ret u => ∃ v σ' H', Inv X pins σ' H' s' ∧ RelV v u ∧ D.rt v H'
def PE (X : Cx) (e : Expr) (t : TE) : Prop :=
  ∀ (pins : List (Addr × Obj)) (s : Shared) (σ : St) (H : Hp) (Q : VK), Inv X pins σ H s → t σ H Q → wpAny (model X.prog X.w) X.A (eval e X.env) (EP X pins σ Q) X.xe s
def PT (X : Cx) (e : Expr) (t : TT) : Prop :=
  ∀ (pins : List (Addr × Obj)) (s : Shared) (σ : St) (H : Hp) (Q : Bool → Hp → Prop), Inv X pins σ H s → t σ H Q → wpAny (model X.prog X.w) X.A (isTrue e X.env (eval e X.env)) (TP X pins σ Q) X.xe s
def PW (X : Cx) (e : Expr) (t : TT) : Prop :=
  ∀ (whole : Sem Value) (pins : List (Addr × Obj)) (s : Shared) (σ : St) (H : Hp) (Q : Bool → Hp → Prop), Inv X pins σ H s → t σ H Q → wpAny (model X.prog X.w) X.A (isTrue e X.env whole) (TP X pins σ Q) X.xe s
theorem PW.pt {X : Cx} {e : Expr} {t : TT} (h : PW X e t) : PT X e t := h _
def PA (X : Cx) (es : List Expr) (t : TA) : Prop :=
  ∀ (pos : Pos) (pins : List (Addr × Obj)) (s : Shared) (σ : St) (H : Hp) (Q : List V → Hp → Prop), Inv X pins σ H s → t σ H Q → wpAny (model X.prog X.w) X.A (spliced (backTo pos (starEach es X.env))) (AP X pins σ Q) X.xe s
def PS (X : Cx) (st : Stmt) (t : TS) : Prop :=
  ∀ (pins : List (Addr × Obj)) (s : Shared) (σ : St) (H : Hp) (D : Ends), Inv X pins σ H s → t D σ H → wpAny (model X.prog X.w) X.A (exec st X.env) (SP X pins D) X.xe s
def PSs (X : Cx) (st : List Stmt) (t : TS) : Prop :=
  ∀ (pins : List (Addr × Obj)) (s : Shared) (σ : St) (H : Hp) (D : Ends), Inv X pins σ H s → t D σ H → wpAny (model X.prog X.w) X.A (execs st X.env) (SP X pins D) X.xe s
theorem thn {α : Type} {t : Sem α} {Q Q' : α → Shared → Prop} {M : Model} {A : Around} {E : Value → Shared → Prop} {s : Shared} (h : wpAny M A t Q E s) (hQ : ∀ a s, Q a s → Q' a s) : wpAny M A t Q' E s := wpAny_mono h hQ fun _ _ x => x
end L2
namespace L2
open PySem PySem.Spec PyProof.Rows
section
variable {X : Cx}
def tVar (i : Nat) : TE := fun σ H Q => ∃ v, σ[i]? = some (some v) ∧ Q v H
def tC (v : V) : TE := fun _ H Q => Q v H
theorem pe_var {i : Nat} {x : Str} {pos : Pos} (hN : X.N[i]? = some x) (hv : Vis X.env.scope x) (hd : (x == ("__debug__" : Str)) = false := by decide) (hcd : (x == ("__classdict__" : Str)) = false := by decide) : PE X (.Name x pos) (tVar i) := by
  intro pins s σ H Q I h
  obtain ⟨v, e, h⟩ := h
  obtain ⟨m, hn, hl⟩ := I.loc
  obtain ⟨u, r, l⟩ := hl i x v hN e hv
  have fin : EP X pins σ Q u s := ⟨v, H, I, r, h⟩
  rcases l with ⟨hk, hm⟩ | ⟨hk, c, hc, hcell⟩
  · exact wpAny_Name (wpAny_loadName_local I.ok.kind hk hn hm fin) hd
  · rcases hk with hk | hk
    · exact wpAny_Name (wpAny_loadName_cell I.ok.kind hk hc hcell fin) hd
    · exact wpAny_Name (wpAny_loadName_free I.ok.kind hk hc hcell fin hcd) hd
theorem pe_int {i j pos} : PE X (.Constant (.int i) j pos) (tC (.int i)) := fun _ _ _ H _ I h => wpAny_Constant_int ⟨.int i, H, I.tok _, ⟨_, rfl⟩, h⟩
theorem pe_bl {b j pos} : PE X (.Constant (.bool b) j pos) (tC (.bl b)) := fun _ _ _ H _ I h => Constant_bool ⟨.bl b, H, I, rfl, h⟩
theorem pe_non {j pos} : PE X (.Constant .none j pos) (tC .non) := fun _ _ _ H _ I h => Constant_none ⟨.non, H, I, rfl, h⟩
theorem pe_str {x j pos} : PE X (.Constant (.str x) j pos) (tC (.str x)) := fun _ _ _ H _ I h => Calls.Constant_str ⟨.str x, H, I.tok _, ⟨_, rfl⟩, h⟩
def Gl (X : Cx) (x : Str) : Prop := X.env.kindOf x = some .globalImplicit
theorem ld_glob {E : Value → Shared → Prop} {pins : List (Addr × Obj)} {s : Shared} {σ : St} {H : Hp} {x : Str} {u : Value} {pos : Pos} {Q : Value → Shared → Prop} (I : Inv X pins σ H s) (hg : Gl X x) (hm : X.mg x = some u) (h : Q u s)
    (hd : (x == ("__debug__" : Str)) = false := by decide) : wpAny (model X.prog X.w) X.A (eval (.Name x pos) X.env) Q E s :=
  Calls.Name_function_global I.ok.kind hg (Calls.loadGlobal_global (by rw [I.ok.glob]; exact I.mod.glob.keeps I.bk) hm h) hd
theorem ld_blt {E : Value → Shared → Prop} {pins : List (Addr × Obj)} {s : Shared} {σ : St} {H : Hp} {x : Str} {u : Value} {pos : Pos} {Q : Value → Shared → Prop} (I : Inv X pins σ H s) (hg : Gl X x) (hm : X.mg x = none) (hv : bootBuiltins x = some u) (h : Q u s)
    (hn : x ≠ "__name__" := by decide) (hd : (x == ("__debug__" : Str)) = false := by decide) : wpAny (model X.prog X.w) X.A (eval (.Name x pos) X.env) Q E s := by
  obtain ⟨mb, h1, h2⟩ := I.mod.blt
  exact Calls.Name_function_global I.ok.kind hg (Calls.loadGlobal_builtin (by rw [I.ok.glob]; exact I.mod.glob.keeps I.bk) hm (by rw [I.ok.blt]; exact h1.keeps I.bk) ((h2 x hn).trans hv) h) hd
theorem pe_glob {x : Str} {v : V} {u : Value} {pos : Pos} (hg : Gl X x) (hm : X.mg x = some u) (r : RelV v u) (hd : (x == ("__debug__" : Str)) = false := by decide) : PE X (.Name x pos) (tC v) :=
  fun _ _ _ H _ I h => ld_glob I hg hm ⟨v, H, I, r, h⟩ hd
theorem pe_bltn {x : Str} {v : V} {u : Value} {pos : Pos} (hg : Gl X x) (hm : X.mg x = none) (hv : bootBuiltins x = some u) (r : RelV v u) (hn : x ≠ "__name__" := by decide) (hd : (x == ("__debug__" : Str)) = false := by decide) : PE X (.Name x pos) (tC v) :=
  fun _ _ _ H _ I h => ld_blt I hg hm hv ⟨v, H, I, r, h⟩ hn hd
variable {a b : Expr} {ta tb : TE} {pos : Pos}
def tB (t : TE) : TT := fun σ H Q => t σ H fun x H1 => ∃ c, x = .bl c ∧ Q c H1
theorem pt_val {e : Expr} {t : TE} (h : PE X e t) (he : ∀ whole, isTrue e X.env whole = (do let v ← whole; standAt e.pos; holding [v] (truthy v)) := by intro _; rfl) : PT X e (tB t) := by
  intro pins s σ H Q I hw
  refine isTrue_plain (thn (h pins s σ H _ I hw) fun v s1 ⟨x, H1, I1, r1, q1⟩ => ?_) (he _)
  obtain ⟨d, rfl, q⟩ := q1
  cases r1
  exact wpAny_truthy_bool ⟨H1, I1, q⟩
variable {tA tB' : TT} {rest : List Expr}
def tAnd (t u : TT) : TT := fun σ H Q => t σ H fun c H1 => if c = true then u σ H1 Q else Q false H1
def tOr (t u : TT) : TT := fun σ H Q => t σ H fun c H1 => if c = true then Q true H1 else u σ H1 Q
def tNot (t : TT) : TT := fun σ H Q => t σ H fun c H1 => Q (!c) H1
theorem pw_and1 (ha : PT X a tA) : PW X (.BoolOp .And [a] pos) tA := by
  intro wh pins s σ H Q I h
  refine isTrue_and (thn (ha pins s σ H Q I h) fun c s1 e => ?_)
  cases c with
  | true => exact isTrue_and_nil e
  | false => exact e
theorem pw_or1 (ha : PT X a tA) : PW X (.BoolOp .Or [a] pos) tA := by
  intro wh pins s σ H Q I h
  refine isTrue_or (thn (ha pins s σ H Q I h) fun c s1 e => ?_)
  cases c with
  | false => exact isTrue_or_nil e
  | true => exact e
theorem pw_and (ha : PT X a tA) (hb : PW X (.BoolOp .And (b :: rest) pos) tB') : PW X (.BoolOp .And (a :: b :: rest) pos) (tAnd tA tB') := by
  intro wh pins s σ H Q I h
  refine isTrue_and (thn (ha pins s σ H _ I h) fun c s1 ⟨H1, I1, q1⟩ => ?_)
  cases c with
  | true => exact hb wh pins s1 σ H1 Q I1 q1
  | false => exact ⟨H1, I1, q1⟩
theorem pw_or (ha : PT X a tA) (hb : PW X (.BoolOp .Or (b :: rest) pos) tB') : PW X (.BoolOp .Or (a :: b :: rest) pos) (tOr tA tB') := by
  intro wh pins s σ H Q I h
  refine isTrue_or (thn (ha pins s σ H _ I h) fun c s1 ⟨H1, I1, q1⟩ => ?_)
  cases c with
  | true => exact ⟨H1, I1, q1⟩
  | false => exact hb wh pins s1 σ H1 Q I1 q1
theorem pt_not (ha : PT X a tA) : PT X (.UnaryOp .Not a pos) (tNot tA) := by
  intro pins s σ H Q I h
  exact isTrue_not (ha pins s σ H (fun c H1 => Q (!c) H1) I h)
def tAndV (ta tb : TE) : TE := fun σ H Q => ta σ H fun x H1 => ∃ c, x = .bl c ∧ if c = true then tb σ H1 Q else Q (.bl false) H1
def tOrV (ta tb : TE) : TE := fun σ H Q => ta σ H fun x H1 => ∃ c, x = .bl c ∧ if c = true then Q (.bl true) H1 else tb σ H1 Q
def tNotV (ta : TE) : TE := fun σ H Q => ta σ H fun x H1 => ∃ c, x = .bl c ∧ Q (.bl (!c)) H1
theorem pe_one {op} {t : TE} (h : PE X a t) : PE X (.BoolOp op [a] pos) t := fun pins s σ H Q I hw => BoolOp_one (h pins s σ H Q I hw)
theorem pe_and (ha : PE X a ta) (hb : PE X (.BoolOp .And (b :: rest) pos) tb) : PE X (.BoolOp .And (a :: b :: rest) pos) (tAndV ta tb) := by
  intro pins s σ H Q I h
  refine BoolOp_and (thn (ha pins s σ H _ I h) fun v s1 ⟨x, H1, I1, r1, q1⟩ => ?_)
  obtain ⟨c, rfl, q1⟩ := q1
  cases r1
  refine wpAny_truthy_bool ?_
  cases c with
  | true => exact hb pins s1 σ H1 Q I1 q1
  | false => exact ⟨.bl false, H1, I1, rfl, q1⟩
theorem pe_or (ha : PE X a ta) (hb : PE X (.BoolOp .Or (b :: rest) pos) tb) : PE X (.BoolOp .Or (a :: b :: rest) pos) (tOrV ta tb) := by
  intro pins s σ H Q I h
  refine BoolOp_or (thn (ha pins s σ H _ I h) fun v s1 ⟨x, H1, I1, r1, q1⟩ => ?_)
  obtain ⟨c, rfl, q1⟩ := q1
  cases r1
  refine wpAny_truthy_bool ?_
  cases c with
  | false => exact hb pins s1 σ H1 Q I1 q1
  | true => exact ⟨.bl true, H1, I1, rfl, q1⟩
theorem pe_not (ha : PE X a ta) : PE X (.UnaryOp .Not a pos) (tNotV ta) := by
  intro pins s σ H Q I h
  refine UnaryOp_ (thn (ha pins s σ H _ I h) fun v s1 ⟨x, H1, I1, r1, q1⟩ => ?_)
  obtain ⟨c, rfl, q1⟩ := q1
  cases r1
  exact not_of (wpAny_truthy_bool ⟨.bl (!c), H1, I1, rfl, q1⟩)
end
end L2
namespace L2
open PySem PySem.Spec PyProof.Rows
def SqL (K : PySem.W.Frag) (H : Hp) (a : Addr) (xs : List V) : Prop :=
  Rd H a (.lst xs) ∨
    ∃ (o : Obj) (its : Array Value) (n : Nat), K.lookup a = some o ∧ o.cls = .type "list" ∧ o.dict = none ∧ o.data = .seq its n ∧ its.size ≤ sizeLine ∧ Vals xs its.toList
def SqT (K : PySem.W.Frag) (H : Hp) (a : Addr) (xs : List V) : Prop :=
  Rd H a (.tup xs) ∨
    ∃ (o : Obj) (its : Array Value) (n : Nat), K.lookup a = some o ∧ o.cls = .type "tuple" ∧ o.data = .seq its n ∧ its.size ≤ sizeLine ∧ Vals xs its.toList
def absV : Value → Option V
  | .none => some .non
  | .bool b => some (.bl b)
  | .int i _ => some (.int i)
  | .str x _ => some (.str x)
  | .bytes b _ => some (.byt b)
  | .float b _ => some (.flt b)
  | .ref a => some (.ref a)
  | .type n => some (.ty n)
  | _ => none
theorem RelV.abs {x : V} {u : Value} (r : RelV x u) : absV u = some x := by
  cases x with
  | non => cases r; rfl
  | bl _ => cases r; rfl
  | int _ => obtain ⟨t, rfl⟩ := r; rfl
  | str _ => obtain ⟨t, rfl⟩ := r; rfl
  | byt _ => obtain ⟨t, rfl⟩ := r; rfl
  | flt _ => obtain ⟨t, rfl⟩ := r; rfl
  | ref _ => cases r; rfl
  | ty _ => cases r; rfl
theorem RelV.inj {x y : V} {u : Value} (r : RelV x u) (q : RelV y u) : x = y := Option.some.inj (r.abs.symm.trans q.abs)
theorem Vals.inj : ∀ {xs ys : List V} {us : List Value}, Vals xs us → Vals ys us → xs = ys
  | _, _, _, .nil, .nil => rfl
  | _, _, _, .cons r t, .cons r' t' => by rw [r.inj r', Vals.inj t t']
section
variable {X : Cx} {pins : List (Addr × Obj)} {σ : St} {H : Hp} {s : Shared} {a : Addr} {xs ys : List V}
theorem SqL.of {K : PySem.W.Frag} (h : H a = some (.lst xs)) : SqL K H a xs := .inl (.inl h)
theorem SqT.of {K : PySem.W.Frag} (h : H a = some (.tup xs)) : SqT K H a xs := .inl (.inl h)
theorem Inv.list (I : Inv X pins σ H s) (h : SqL X.K H a xs) : ∃ its : List Value, Vals xs its ∧ PlainL s.heap a its.toArray ∧ xs.length ≤ sizeLine := by
  rcases h with h | ⟨o, its, n, hk, hc, hd, hs, hz, r⟩
  · obtain ⟨z, its, n, r, e⟩ := h.ok I.hok
    exact ⟨its, r, ⟨_, n, e, rfl, rfl, rfl⟩, z⟩
  · refine ⟨its.toList, r, ⟨o, n, I.kIn a o hk, hc, hd, by simpa using hs⟩, ?_⟩
    have e := r.length
    simp only [Array.length_toList] at e
    omega
theorem Inv.tuple (I : Inv X pins σ H s) (h : SqT X.K H a xs) : ∃ its : List Value, Vals xs its ∧ IsTup s.heap a its.toArray ∧ xs.length ≤ sizeLine := by
  rcases h with h | ⟨o, its, n, hk, hc, hs, hz, r⟩
  · obtain ⟨z, its, r, p⟩ := h.ok I.hok
    exact ⟨its, r, p, z⟩
  · refine ⟨its.toList, r, ⟨o, I.kIn a o hk, hc, n, by simpa using hs⟩, ?_⟩
    have e := r.length
    simp only [Array.length_toList] at e
    omega
theorem Inv.list_inj (I : Inv X pins σ H s) (h : SqL X.K H a xs) (h' : SqL X.K H a ys) : xs = ys := by
  obtain ⟨its, r, ⟨o, n, e, _, _, d⟩, _⟩ := I.list h
  obtain ⟨its', r', ⟨o', n', e', _, _, d'⟩, _⟩ := I.list h'
  rw [e] at e'; cases e'
  rw [d] at d'
  injection d' with d1 _
  have : its = its' := by simpa using congrArg Array.toList d1
  subst this
  exact r.inj r'
theorem Inv.tuple_inj (I : Inv X pins σ H s) (h : SqT X.K H a xs) (h' : SqT X.K H a ys) : xs = ys := by
  obtain ⟨its, r, ⟨o, e, _, n, d⟩, _⟩ := I.tuple h
  obtain ⟨its', r', ⟨o', e', _, n', d'⟩, _⟩ := I.tuple h'
  rw [e] at e'; cases e'
  rw [d] at d'
  injection d' with d1 _
  have : its = its' := by simpa using congrArg Array.toList d1
  subst this
  exact r.inj r'
end
abbrev Cx.wish (X : Cx) (E : Value → Shared → Prop) : Cx := { X with xe := E }
abbrev Cx.nox (X : Cx) : Cx := X.wish fun _ _ => False
theorem Cx.Ok.wish {X : Cx} (ok : X.Ok) (E : Value → Shared → Prop) : (X.wish E).Ok :=
  ⟨ok.mod, ok.kind, ok.glob, ok.blt, ok.above, ok.inj, ok.has, ok.cab, ok.hd, ok.frames, ok.stk, ok.exf, ok.bs, ok.bsz, ok.noex, ok.exfs, ok.funs, ok.frf⟩
theorem Cx.Ok.unwish {X : Cx} {E : Value → Shared → Prop} (ok : (X.wish E).Ok) : X.Ok :=
  ⟨ok.mod, ok.kind, ok.glob, ok.blt, ok.above, ok.inj, ok.has, ok.cab, ok.hd, ok.frames, ok.stk, ok.exf, ok.bs, ok.bsz, ok.noex, ok.exfs, ok.funs, ok.frf⟩
section
variable {X : Cx} {pins : List (Addr × Obj)} {σ : St} {H : Hp} {s : Shared} {E : Value → Shared → Prop}
theorem Inv.wish (I : Inv X pins σ H s) (E : Value → Shared → Prop) : Inv (X.wish E) pins σ H s := ⟨I.ok.wish E, I.os, I.bare, I.base, I.loc, I.cell, I.free, I.freeC, I.pin, I.hok, I.len⟩
theorem Inv.unwish (I : Inv (X.wish E) pins σ H s) : Inv X pins σ H s := ⟨I.ok.unwish, I.os, I.bare, I.base, I.loc, I.cell, I.free, I.freeC, I.pin, I.hok, I.len⟩
theorem SP.unwish {D : Ends} {f : Flow} {s' : Shared} (h : SP (X.wish E) pins D f s') : SP X pins D f s' := by
  cases f with
  | next => obtain ⟨σ', H', I, q⟩ := h; exact ⟨σ', H', I.unwish, q⟩
  | brk => obtain ⟨σ', H', I, q⟩ := h; exact ⟨σ', H', I.unwish, q⟩
  | cont => obtain ⟨σ', H', I, q⟩ := h; exact ⟨σ', H', I.unwish, q⟩
  | ret u => obtain ⟨v, σ', H', I, r, q⟩ := h; exact ⟨v, σ', H', I.unwish, r, q⟩
theorem PSs.nox {st : List Stmt} {t : TS} (h : PSs X.nox st t) : PSs X st t := fun pins s σ H D I hw =>
  wpAny_mono (h pins s σ H D (I.wish _) hw) (fun _ _ q => q.unwish) fun _ _ z => False.elim z
end
section
variable {X : Cx} {st : Stmt} {rest : List Stmt} {t u : TS} {e : Expr} {te : TE} {pos : Pos}
def tNext : TS := fun D σ H => D.nx σ H
def tSeq (t u : TS) : TS := fun D σ H => t { D with nx := u D } σ H
theorem pss_nil : PSs X [] tNext := fun _ _ σ H _ I h => wpAny_execs_nil ⟨σ, H, I, h⟩
theorem pss_cons (h1 : PS X st t) (h2 : PSs X rest u) : PSs X (st :: rest) (tSeq t u) := by
  intro pins s σ H D I h
  refine wpAny_execs_cons (thn (h1 pins s σ H { D with nx := u D } I h) fun f s1 q => ?_)
  cases f with
  | next =>
    obtain ⟨σ', H', I', q⟩ := q
    exact h2 pins s1 σ' H' D I' q
  | ret v => exact q
  | brk => exact q
  | cont => exact q
theorem pss_one (h1 : PS X st t) : PSs X [st] t := by
  intro pins s σ H D I h
  refine wpAny_execs_cons (thn (h1 pins s σ H D I h) fun f s1 q => ?_)
  cases f with
  | next => exact wpAny_execs_nil q
  | ret v => exact q
  | brk => exact q
  | cont => exact q
theorem Inv.quiet {pins : List (Addr × Obj)} {σ : St} {H : Hp} {s : Shared} (I : Inv X pins σ H s) : interactive X.env = false := by simp [interactive, I.ok.kind]
def tDrop (te : TE) : TS := fun D σ H => te σ H fun _ H1 => D.nx σ H1
theorem ps_expr (he : PE X e te) (hs : swapsWith e none pos.line X.env = pure false := by rfl) : PS X (.Expr e pos) (tDrop te) := by
  intro pins s σ H D I h
  exact wpAny_Expr_any (thn (he pins s σ H _ I h) fun v s1 ⟨x, H1, I1, r1, q1⟩ => ⟨σ, H1, I1, q1⟩) I.quiet hs
def tRet (te : TE) : TS := fun D σ H => te σ H D.rt
theorem ps_ret (he : PE X e te) : PS X (.Return (some e) pos) (tRet te) := by
  intro pins s σ H D I h
  exact wpAny_Return_some (thn (he pins s σ H _ I h) fun v s1 ⟨x, H1, I1, r1, q1⟩ => ⟨x, σ, H1, I1, r1, q1⟩)
def tRetN : TS := fun D _ H => D.rt .non H
theorem ps_retN : PS X (.Return none pos) tRetN := fun _ _ σ H _ I h => wpAny_Return_none ⟨.non, σ, H, I, rfl, h⟩
def tIfS (c : TT) (t u : TS) : TS := fun D σ H => c σ H fun b H1 => if b = true then t D σ H1 else u D σ H1
theorem ps_if {c : Expr} {a b : List Stmt} {tc : TT} (hc : PT X c tc) (ha : PSs X a t) (hb : PSs X b u) : PS X (.If c a b pos) (tIfS tc t u) := by
  intro pins s σ H D I h
  refine wpAny_If (thn (hc pins s σ H _ I h) fun d s1 ⟨H1, I1, q1⟩ => ?_)
  cases d with
  | true => exact ha pins s1 σ H1 D I1 q1
  | false => exact hb pins s1 σ H1 D I1 q1
end
abbrev TG := V → St → Hp → (St → Hp → Prop) → Prop
abbrev TGs := List V → St → Hp → (St → Hp → Prop) → Prop
def PG (X : Cx) (target : Expr) (t : TG) : Prop :=
  ∀ (pins : List (Addr × Obj)) (s : Shared) (σ : St) (H : Hp) (v : V) (u : Value) (Q : St → Hp → Prop), Inv X pins σ H s → RelV v u → t v σ H Q →
    wpAny (model X.prog X.w) X.A (assign target X.env u) (fun _ s' => ∃ σ' H', Inv X pins σ' H' s' ∧ Q σ' H') X.xe s
def PGs (X : Cx) (ts : List Expr) (t : TGs) : Prop :=
  ∀ (pins : List (Addr × Obj)) (s : Shared) (σ : St) (H : Hp) (vs : List V) (us : List Value) (Q : St → Hp → Prop), Inv X pins σ H s → Vals vs us → t vs σ H Q →
    wpAny (model X.prog X.w) X.A (assignInOrder ((assignEach ts X.env).map (·.2)) us) (fun _ s' => ∃ σ' H', Inv X pins σ' H' s' ∧ Q σ' H') X.xe s
abbrev TSet := V → V → V → Hp → (Hp → Prop) → Prop
def PSet (X : Cx) (t : TSet) : Prop :=
  ∀ (pins : List (Addr × Obj)) (s : Shared) (σ : St) (H : Hp) (o i v : V) (ov iv u : Value) (Q : Hp → Prop), Inv X pins σ H s → RelV o ov → RelV i iv → RelV v u → t o i v H Q →
    wpAny (model X.prog X.w) X.A (setItem ov iv u) (fun _ s' => ∃ H', Inv X pins σ H' s' ∧ Q H') X.xe s
section
variable {X : Cx} {pos : Pos}
def gName (i : Nat) : TG := fun v σ H Q => Q (σ.set i (some v)) H
theorem pg_name {i : Nat} {x : Str} (hN : X.N.Nodup) (hi : X.N[i]? = some x) (hx : Loc X.env.scope x) (hf : X.fn x = true ∨ X.env.scope.names.lookup x = some .local := by first | exact .inl rfl | exact .inr rfl | assumption) : PG X (.Name x pos) (gName i) := by
  intro pins s σ H v u Q I r h
  exact wpAny_assign_Name (store_ok I hN hi hx r (fun s' I' => ⟨_, H, I', h⟩) hf)
def gNil : TGs := fun vs σ H Q => vs = [] ∧ Q σ H
def gCons (t : TG) (u : TGs) : TGs := fun vs σ H Q => ∃ v r, vs = v :: r ∧ t v σ H fun σ' H' => u r σ' H' Q
theorem pgs_nil : PGs X [] gNil := by
  intro pins s σ H vs us Q I r h
  obtain ⟨e, h⟩ := h
  subst e
  cases r
  exact assignInOrder_nil ⟨σ, H, I, h⟩
theorem pgs_cons {e : Expr} {es : List Expr} {t : TG} {u : TGs} (h1 : PG X e t) (h2 : PGs X es u)
    (hs : (assignEach (e :: es) X.env).map (·.2) = assign e X.env :: (assignEach es X.env).map (·.2) := by rfl) : PGs X (e :: es) (gCons t u) := by
  intro pins s σ H vs us Q I r h
  obtain ⟨v, vr, e1, h⟩ := h
  subst e1
  cases r with
  | cons r rr =>
    rw [hs]
    refine assignInOrder_cons (thn (h1 pins s σ H _ _ _ I r h) fun _ s1 ⟨σ1, H1, I1, q1⟩ => ?_)
    exact h2 pins s1 σ1 H1 _ _ Q I1 rr q1
def gTup (K : PySem.W.Frag) (n : Nat) (t : TGs) : TG := fun v σ H Q => ∃ a xs, v = .ref a ∧ SqT K H a xs ∧ xs.length = n ∧ t xs σ H Q
theorem pg_tup {es : List Expr} {k : Nat} {t : TGs} {n : Nat} (hc : X.calm = true) (h : PGs X es t)
    (hn : (assignEach es X.env).length = n := by rfl) (hst : (assignEach es X.env).findIdx? (·.1) = none := by rfl) : PG X (.Tuple es k pos) (gTup X.K n t) := by
  intro pins s σ H v u Q I r hw
  obtain ⟨a, xs, e1, hq, hl, hw⟩ := hw
  subst e1
  cases r
  obtain ⟨its, rv, ht, hz⟩ := I.tuple hq
  refine assign_Tuple_tuple (I.ok.hd hc) ht (by simp [hn, ← hl, rv.length]) hst fun h' hx => ?_
  have I1 : Inv X pins σ H { s with heap := h' } := I.kept (t' := s.toks) fun b o e => hx b o (Nat.ne_of_lt (Heap.lt_size e)) e
  exact h pins _ σ H xs _ Q I1 (by simpa using rv) hw
def gSub (to ti : TE) (t : TSet) : TG := fun v σ H Q => to σ H fun o H1 => ti σ H1 fun i H2 => t o i v H2 fun H3 => Q σ H3
theorem pg_sub {o i : Expr} {to ti : TE} {t : TSet} (ho : PE X o to) (hi : PE X i ti) (hs : PSet X t)
    (ha : ∀ v, assign (.Subscript o i pos) X.env v = (do
      let ov ← holding [v] (eval o X.env)
      let iv ← holding [v, ov] (eval i X.env)
      standAt pos
      holding [v, ov, iv] (setItem ov iv v)
      release [v, ov, iv] []) := by intro _; rfl) : PG X (.Subscript o i pos) (gSub to ti t) := by
  intro pins s σ H v u Q I r h
  rw [ha]
  refine wpAny_bind (wpAny_holding (thn (ho pins s σ H _ I h) fun ov s1 ⟨x, H1, I1, r1, q1⟩ => ?_))
  refine wpAny_bind (wpAny_holding (thn (hi pins s1 σ H1 _ I1 q1) fun iv s2 ⟨y, H2, I2, r2, q2⟩ => ?_))
  refine wpAny_bind (wpAny_standAt (wpAny_bind (wpAny_holding (thn (hs pins s2 σ H2 x y v ov iv u _ I2 r1 r2 r q2) fun _ s3 ⟨H3, I3, q3⟩ => ?_))))
  exact wpAny_release ⟨σ, H3, I3, q3⟩
def tAsg (te : TE) (g : TG) : TS := fun D σ H => te σ H fun x H1 => g x σ H1 D.nx
theorem ps_asg {tg e : Expr} {te : TE} {g : TG} (he : PE X e te) (hg : PG X tg g) (hs : swapsWithSole [tg] e pos.line X.env = pure false := by rfl) (hw : swappedStores [tg] e X.env = pure none := by rfl)
    (h1 : (assignEach [tg] X.env).map (·.2) = [assign tg X.env] := by rfl) : PS X (.Assign [tg] e pos) (tAsg te g) := by
  intro pins s σ H D I h
  refine wpAny_Assign_stores (thn (he pins s σ H _ I h) fun v s1 ⟨x, H1, I1, r1, q1⟩ => ?_) hs hw
  rw [h1]
  exact thn (hg pins s1 σ H1 x v _ I1 r1 q1) fun _ s2 q => q
theorem ps_set {i : Nat} {x : Str} {e : Expr} {te : TE} {pos' : Pos} (hN : X.N.Nodup) (hi : X.N[i]? = some x) (hx : Loc X.env.scope x) (he : PE X e te) (hs : swapsWith e (some (.Name x pos')) pos.line X.env = pure false := by rfl) (hf : X.fn x = true ∨ X.env.scope.names.lookup x = some .local := by first | exact .inl rfl | exact .inr rfl | assumption) :
    PS X (.Assign [.Name x pos'] e pos) (tAsg te (gName i)) := by
  intro pins s σ H D I h
  refine wpAny_Assign_Name (thn (he pins s σ H _ I h) fun v s1 ⟨y, H1, I1, r1, q1⟩ => ?_) hs
  exact store_ok I1 hN hi hx r1 (fun s2 I2 => ⟨_, H1, I2, q1⟩) hf
end
section
variable {X : Cx} {pos : Pos}
end
structure It where
  go : Nat → Hp → Prop
  yld : Nat → Hp → V → Hp → Prop
  stop : Nat → Hp → Prop
def FpOk (X : Cx) (pins : List (Addr × Obj)) (H : Hp) (b : Addr) : Prop :=
  H b = none ∧ b ≠ X.env.locals ∧ b ∉ X.fs ∧ (b ∈ X.ex ∨ X.s₀.heap.objs.size ≤ b) ∧ (∀ x c, X.env.cells.lookup x = some c → c ≠ b) ∧ ∀ p ∈ X.pn ++ pins, p.1 ≠ b
theorem Inv.fpOk {X : Cx} {pins : List (Addr × Obj)} {σ : St} {H H' : Hp} {s : Shared} {b : Addr} (I : Inv X pins σ H s) (hb : s.heap.objs.size ≤ b) (hn : H' b = none) : FpOk X pins H' b := by
  refine ⟨hn, Nat.ne_of_gt (Nat.lt_of_lt_of_le I.lt hb), I.nofs hb, .inr (Nat.le_trans I.sz hb), fun x c e z => ?_, fun p hp z => ?_⟩
  · obtain ⟨v, q⟩ := I.cell x c e
    exact absurd (Nat.lt_of_lt_of_le q.lt (by rw [z]; exact hb)) (Nat.lt_irrefl _)
  · exact absurd (Nat.lt_of_lt_of_le (Heap.lt_size (I.pin p hp).1) (by rw [z]; exact hb)) (Nat.lt_irrefl _)
structure Turn (P : Program) (w : World) (K : PySem.W.Frag) (tg : Expr) (J : It) (fp : List Addr) (it : Addr) (tn : Nat → Heap → Prop) : Prop where
  mem : it ∈ fp
  obj : ∀ i h, tn i h → ∀ b ∈ fp, ∃ o, h.get? b = some o ∧ ∀ v, o.data ≠ .cell v
  keep : ∀ i h h', tn i h → (∀ b ∈ fp, ∀ o, h.get? b = some o → h'.get? b = some o) → tn i h'
  item : ∀ (X : Cx), X.prog = P → X.w = w → X.K = K → X.calm = true → ∀ (i : Nat) (pins : List (Addr × Obj)) (s : Shared) (σ : St) (H : Hp) (E : Value → Shared → Prop), Inv X pins σ H s → (∀ b ∈ fp, FpOk X pins H b) → tn i s.heap → J.go i H →
    wpAny (model P w) X.A (pyNext (.ref it)) (fun r s1 => ∃ u, r = some u ∧
      wpAny (model P w) X.A (letOwnedTupleGo tg (.ref it) u) (fun _ s2 => ∃ x H', Inv X pins σ H' s2 ∧ RelV x u ∧ J.yld i H x H' ∧ tn (i + 1) s2.heap ∧ ∀ b ∈ fp, H' b = none) E s1) E s
  done : ∀ (X : Cx), X.prog = P → X.w = w → X.K = K → X.calm = true → ∀ (i : Nat) (pins : List (Addr × Obj)) (s : Shared) (σ : St) (H : Hp) (E : Value → Shared → Prop), Inv X pins σ H s → (∀ b ∈ fp, FpOk X pins H b) → tn i s.heap → J.stop i H →
    wpAny (model P w) X.A (pyNext (.ref it)) (fun r s1 => r = none ∧ Inv X pins σ H s1) E s
  self : ∀ (A : Around) (i : Nat) (s : Shared) (Q : Value → Shared → Prop) (E : Value → Shared → Prop), tn i s.heap → Q (.ref it) s → wpAny (model P w) A (pyIter (.ref it)) Q E s
abbrev TI := St → Hp → (It → Hp → Prop) → Prop
def PIE (X : Cx) (pins : List (Addr × Obj)) (σ : St) (tg : Expr) (R : It → Hp → Prop) (itv : Value) (s2 : Shared) : Prop :=
  ∃ (it : Addr) (fp : List Addr) (tn : Nat → Heap → Prop) (J : It) (H' : Hp), itv = .ref it ∧ Inv X pins σ H' s2 ∧ Turn X.prog X.w X.K tg J fp it tn ∧ tn 0 s2.heap ∧ (∀ b ∈ fp, FpOk X pins H' b) ∧ R J H'
def PI (X : Cx) (tg iter : Expr) (wi : TI) : Prop :=
  ∀ (pins : List (Addr × Obj)) (s : Shared) (σ : St) (H : Hp) (R : It → Hp → Prop), Inv X pins σ H s → wi σ H R →
    wpAny (model X.prog X.w) X.A (eval iter X.env) (fun v s1 => wpAny (model X.prog X.w) X.A (pyIter v) (PIE X pins σ tg R) X.xe s1) X.xe s
theorem go_of {M : Model} {A : Around} {E : Value → Shared → Prop} {s : Shared} {tg : Expr} {it : Addr} {u : Value} {o : Obj} {n : String} {vs : Array Value} {Q : Unit → Shared → Prop} (ho : s.heap.get? it = some o) (hc : o.cls = .type n) (hd : o.data = .fields vs)
    (hn : ["enumerate", "zip", "dict_itemiterator", "dict_reverseitemiterator", "odict_iterator", "itertools.zip_longest", "itertools.pairwise"].contains n = false) (hQ : Q () s) : wpAny M A (letOwnedTupleGo tg (.ref it) u) Q E s := by
  unfold letOwnedTupleGo
  cases tg <;> first
    | exact wpAny_pure hQ
    | (cases u <;> first
        | exact wpAny_pure hQ
        | (refine wpAny_bind (wpAny_load ho ?_)
           rw [hc, hd]
           show wpAny M A (if (["enumerate", "zip", "dict_itemiterator", "dict_reverseitemiterator", "odict_iterator", "itertools.zip_longest", "itertools.pairwise"].contains n && vs[0]? == some (rawInt _)) = true then _ else _) Q E s
           rw [if_neg (by intro h; rw [hn, Bool.false_and] at h; cases h)]
           exact wpAny_pure hQ))
def Itl (K : PySem.W.Frag) (a : Addr) : It :=
  ⟨fun i H => ∃ xs x, SqL K H a xs ∧ xs[i]? = some x, fun i H x H' => H' = H ∧ ∀ xs, SqL K H a xs → xs[i]? = some x, fun i H => ∃ xs, SqL K H a xs ∧ xs.length ≤ i⟩
def Itr (lo : Int) (n : Nat) : It := ⟨fun i _ => i < n, fun i H x H' => H' = H ∧ x = .int (lo + i), fun i _ => n ≤ i⟩
theorem turn_list {P : Program} {w : World} {K : PySem.W.Frag} {tg : Expr} (a it : Addr) : Turn P w K tg (Itl K a) [it] it (fun i h => h.IsListIter it a i) where
  mem := by simp
  obj := fun i h st b hb => by
    have e : b = it := by simpa using hb
    subst e
    obtain ⟨o, e, c, d⟩ := st
    exact ⟨o, e, fun v z => by rw [d] at z; cases z⟩
  keep := fun i h h' st k => st.at fun o e => k it (by simp) o e
  item := by
    intro X hP hw hK hc i pins s σ H E I hf st hg
    subst hP hw hK
    obtain ⟨xs, x, hq, hx⟩ := hg
    obtain ⟨its, rv, p, hz⟩ := I.list hq
    obtain ⟨u, hu, ru⟩ := rv.get hx
    obtain ⟨f0, f1, f2, f3, f4, f5⟩ := hf it (by simp)
    refine wpAny_pyNext_list_item st p.isList (x := u) (by simpa using hu) fun h' st' sb => ?_
    have I1 : Inv X pins σ H { s with heap := h' } := I.turned (t' := s.toks) (fun b o hb e => (sb.2 b hb).trans e) f0 f1 f3 f4 f5
    obtain ⟨o, e, c, d⟩ := id st'
    exact ⟨u, rfl, go_of (s := { s with heap := h' }) e c d (by decide) ⟨x, H, I1, ru, ⟨rfl, fun ys hy => by rw [I.list_inj hy hq]; exact hx⟩, st', fun b hb => (hf b hb).1⟩⟩
  done := by
    intro X hP hw hK hc i pins s σ H E I hf st hg
    subst hP hw hK
    obtain ⟨xs, hq, hx⟩ := hg
    obtain ⟨its, rv, p, hz⟩ := I.list hq
    obtain ⟨f0, f1, f2, f3, f4, f5⟩ := hf it (by simp)
    have hl := rv.length
    exact wpAny_pyNext_list_end (I.ok.hd hc) st p.isList (by simp; omega) fun h' eb => ⟨rfl, I.turned (t' := s.toks) (fun b o hb e => eb b o hb e) f0 f1 f3 f4 f5⟩
  self := fun _ _ _ _ _ st h => wpAny_pyIter_listiter st h
theorem turn_range {P : Program} {w : World} {K : PySem.W.Frag} {tg : Expr} (it : Addr) (lo : Int) (n : Nat) : Turn P w K tg (Itr lo n) [it] it (fun i h => IsRangeIter h it (lo + (i : Nat) * 1) ((n : Int) - (i : Nat)) 1) where
  mem := by simp
  obj := fun i h st b hb => by
    have e : b = it := by simpa using hb
    subst e
    exact ⟨_, st, fun v z => by
      have z' : Data.fields _ = Data.cell v := z
      cases z'⟩
  keep := fun i h h' st k => k it (by simp) _ st
  item := by
    intro X hP hw hK hc i pins s σ H E I hf st hg
    subst hP hw hK
    obtain ⟨f0, f1, f2, f3, f4, f5⟩ := hf it (by simp)
    have W := Walks.range (prog := X.prog) (w := X.w) (I.ok.hd hc) it lo 1 n
    refine W.item i s _ _ hg st fun v h' tk hv st' kk => ?_
    obtain ⟨t, rfl⟩ := hv
    have I1 : Inv X pins σ H { s with heap := h', toks := tk } := I.turned (fun b o hb e => kk b o (by simpa using hb) e) f0 f1 f3 f4 f5
    refine ⟨_, rfl, go_of (s := { s with heap := h', toks := tk }) (n := "range_iterator") st' rfl rfl (by decide) ⟨.int (lo + i), H, I1, ⟨t, ?_⟩, ⟨rfl, rfl⟩, st', fun b hb => (hf b hb).1⟩⟩
    rw [Int.mul_one]
  done := by
    intro X hP hw hK hc i pins s σ H E I hf st hg
    subst hP hw hK
    obtain ⟨f0, f1, f2, f3, f4, f5⟩ := hf it (by simp)
    exact wpAny_pyNext_range_end (I.ok.hd hc) st (by have : n ≤ i := hg; omega) fun h' eb => ⟨rfl, I.turned (t' := s.toks) (fun b o hb e => eb b o hb e) f0 f1 f3 f4 f5⟩
  self := fun _ _ _ _ _ st h => wpAny_pyIter_rangeiter st h
end L2
namespace L2
open PySem PySem.Spec PyProof.Rows
section
variable {X : Cx} {tg : Expr}
def iList (K : PySem.W.Frag) (tl : TE) : TI := fun σ H R => tl σ H fun x H1 => ∃ a, x = .ref a ∧ (∃ xs, SqL K H1 a xs) ∧ R (Itl K a) H1
theorem pi_list {l : Expr} {tl : TE} (hl : PE X l tl) : PI X tg l (iList X.K tl) := by
  intro pins s σ H R I h
  refine thn (hl pins s σ H _ I h) fun v s1 ⟨x, H1, I1, r1, q1⟩ => ?_
  obtain ⟨a, e, ⟨xs, hq⟩, q⟩ := q1
  subst e
  cases r1
  obtain ⟨its, rv, p, hz⟩ := I1.list hq
  refine wpAny_pyIter_list p.isList ?_
  refine ⟨s1.heap.objs.size, [s1.heap.objs.size], _, _, H1, rfl, I1.kept (t' := s1.toks) fun b o e => Heap.get?_push_of_some _ e, turn_list a _, ⟨_, Heap.get?_push_size _ rfl, rfl, rfl⟩, fun b hb => ?_, q⟩
  have e : b = s1.heap.objs.size := by simpa using hb
  subst e
  exact I1.fpOk (Nat.le_refl _) (I1.hok.fresh (Nat.le_refl _))
theorem range_it {pins : List (Addr × Obj)} {σ : St} {H : Hp} {s : Shared} {R : It → Hp → Prop} {E : Value → Shared → Prop} {lo hi : Int} {t u v : Tok} {tk : Nat} (I : Inv X pins σ H s) (h1 : -(2 ^ 62) ≤ lo) (h2 : lo < 2 ^ 62) (h3 : -(2 ^ 62) ≤ hi) (h4 : hi < 2 ^ 62)
    (q : R (Itr lo (hi - lo).toNat) H) : wpAny (model X.prog X.w) X.A (pyIter (.ref s.heap.objs.size)) (PIE X pins σ tg R) E { s with heap := s.heap.push { cls := .type "range", data := .fields #[.int lo t, .int hi u, .int 1 v] }, toks := tk } := by
  refine wpAny_pyIter_range (IsRange.new ..) (small_one h1 h2 h3 h4) ?_
  have I1 : Inv X pins σ H { s with heap := s.heap.push { cls := .type "range", data := .fields #[.int lo t, .int hi u, .int 1 v] }, toks := tk } := I.kept fun b o e => Heap.get?_push_of_some _ e
  refine ⟨(s.heap.push { cls := .type "range", data := .fields #[.int lo t, .int hi u, .int 1 v] }).objs.size, [(s.heap.push { cls := .type "range", data := .fields #[.int lo t, .int hi u, .int 1 v] }).objs.size], _, _, H, rfl,
    I1.kept (t' := tk) fun b o e => Heap.get?_push_of_some _ e, turn_range _ lo (hi - lo).toNat, ?_, fun b hb => ?_, q⟩
  · have e1 : lo + ((0 : Nat) : Int) * 1 = lo := by simp
    have e2 : (((hi - lo).toNat : Nat) : Int) - ((0 : Nat) : Int) = Builtin.Range.rangeSize lo hi 1 := by rw [rangeSize_one]; split <;> omega
    show IsRangeIter _ _ (lo + ((0 : Nat) : Int) * 1) ((((hi - lo).toNat : Nat) : Int) - ((0 : Nat) : Int)) 1
    rw [e1, e2]
    exact Heap.get?_push_size _ rfl
  · have e : b = (s.heap.push { cls := .type "range", data := .fields #[.int lo t, .int hi u, .int 1 v] }).objs.size := by simpa using hb
    subst e
    exact I1.fpOk (Nat.le_refl _) (I1.hok.fresh (Nat.le_refl _))
def iRng1 (ta : TA) : TI := fun σ H R => ta σ H fun vs H1 => ∃ j : Int, vs = [.int j] ∧ -(2 ^ 62) ≤ j ∧ j < 2 ^ 62 ∧ R (Itr 0 j.toNat) H1
def iRng2 (ta : TA) : TI := fun σ H R => ta σ H fun vs H1 => ∃ i j : Int, vs = [.int i, .int j] ∧ (-(2 ^ 62) ≤ i ∧ i < 2 ^ 62 ∧ -(2 ^ 62) ≤ j ∧ j < 2 ^ 62) ∧ R (Itr i (j - i).toNat) H1
theorem pi_range1 {a : Expr} {ta : TA} {p pos : Pos} (hg : Gl X "range") (hm : X.mg "range" = none) (ha : PA X [a] ta) (hs : starEach [a] X.env = [(false, eval a X.env)] := by rfl) : PI X tg (.Call (.Name "range" p) [a] [] pos) (iRng1 ta) := by
  intro pins s σ H R I h
  refine Call_ (ld_blt I hg hm boot_range (PyProof.Rows.callWith_type1 (thn (ha pos pins s σ H _ I h) fun us s1 ⟨vs, H1, I1, r1, q1⟩ => ?_) hs rfl))
  obtain ⟨j, e, q1, q2, q⟩ := q1
  subst e
  cases r1 with
  | cons r rr =>
    cases rr
    obtain ⟨t, rfl⟩ := r
    exact call_range_1 (range_it I1 (by omega) (by omega) q1 q2 (by simpa using q))
theorem pi_range2 {a b : Expr} {ta : TA} {p pos : Pos} (hg : Gl X "range") (hm : X.mg "range" = none) (ha : PA X [a, b] ta) (hs : starEach [a, b] X.env = [(false, eval a X.env), (false, eval b X.env)] := by rfl) (hs2 : starEach [b] X.env = [(false, eval b X.env)] := by rfl) :
    PI X tg (.Call (.Name "range" p) [a, b] [] pos) (iRng2 ta) := by
  intro pins s σ H R I h
  refine Call_ (ld_blt I hg hm boot_range (PyProof.Rows.callWith_type1 (thn (ha pos pins s σ H _ I h) fun us s1 ⟨vs, H1, I1, r1, q1⟩ => ?_) (by rw [hs, hs2]) (by rw [hs2]; rfl)))
  obtain ⟨i, j, e, ⟨q1, q2, q3, q4⟩, q⟩ := q1
  subst e
  cases r1 with
  | cons r rr =>
    cases rr with
    | cons r' rr =>
      cases rr
      obtain ⟨t, rfl⟩ := r
      obtain ⟨t', rfl⟩ := r'
      exact call_range_2 (range_it I1 q1 q2 q3 q4 q)
def tFor (wi : TI) (g : TG) (tb : TS) : TS := fun D σ H => wi σ H fun J H1 => ∃ W : Nat → Nat → St → Hp → Prop, (∃ m, W 0 m σ H1) ∧ ∀ i m σ H, W i m σ H →
  (J.stop i H ∧ D.nx σ H) ∨ (J.go i H ∧ ∃ N : St → Hp → Prop, (∀ σ' H', N σ' H' → ∃ m', m' < m ∧ W (i + 1) m' σ' H') ∧ ∀ x H', J.yld i H x H' → g x σ H' fun σ2 H2 => tb { D with nx := N, ct := N, bk := D.nx } σ2 H2)
def pinsAt (fp : List Addr) (h : Heap) : List (Addr × Obj) := fp.filterMap fun b => (h.get? b).map fun o => (b, o)
theorem mem_pinsAt {fp : List Addr} {h : Heap} {b : Addr} {o : Obj} (hb : b ∈ fp) (e : h.get? b = some o) : (b, o) ∈ pinsAt fp h := List.mem_filterMap.mpr ⟨b, hb, by rw [e]; rfl⟩
theorem of_pinsAt {fp : List Addr} {h : Heap} {p : Addr × Obj} (hp : p ∈ pinsAt fp h) : p.1 ∈ fp ∧ h.get? p.1 = some p.2 := by
  obtain ⟨b, hb, e⟩ := List.mem_filterMap.mp hp
  cases q : h.get? b with
  | none => rw [q] at e; cases e
  | some o =>
    rw [q] at e
    have e' : (b, o) = p := Option.some.inj e
    subst e'
    exact ⟨hb, q⟩
theorem Inv.pinned {pins : List (Addr × Obj)} {σ : St} {H : Hp} {s : Shared} {fp : List Addr} (I : Inv X pins σ H s) (hf : ∀ b ∈ fp, FpOk X pins H b) (ho : ∀ b ∈ fp, ∃ o, s.heap.get? b = some o ∧ ∀ v, o.data ≠ .cell v) : Inv X (pins ++ pinsAt fp s.heap) σ H s :=
  I.pins_of fun p hp => (List.mem_append.mp hp).elim (fun z => I.pin p (List.mem_append_right _ z)) fun z => by
    obtain ⟨hb, e⟩ := of_pinsAt z
    obtain ⟨f0, f1, f2, _⟩ := hf p.1 hb
    obtain ⟨o, e', d⟩ := ho p.1 hb
    rw [e] at e'; cases e'
    exact ⟨e, f0, f1, f2, d⟩
theorem Inv.unpinned {pins pl : List (Addr × Obj)} {σ : St} {H : Hp} {s : Shared} (I : Inv X (pins ++ pl) σ H s) : Inv X pins σ H s := I.pins_of fun p hp => I.pin p (List.mem_append_right _ (List.mem_append_left _ hp))
theorem ps_for {iter : Expr} {body : List Stmt} {wi : TI} {g : TG} {tb : TS} {pos : Pos} (hp : PassesOwn (model X.prog X.w) X.A X.env X.xe) (hc : X.calm = true) (hi : PI X tg iter wi) (hg : PG X tg g) (hb : PSs X body tb)
    (hs : ∀ x, foldedSetIterable iter X.env x = pure x := by intro _; rfl) : PS X (.For tg iter body [] pos) (tFor wi g tb) := by
  intro pins s σ H D I h
  refine wpAny_For (thn (hi pins s σ H _ I h) fun v s1 h1 => thn h1 fun itv s2 h2 => ?_) hs
  obtain ⟨it, fp, tn, J, H2, e, I2, T, st2, f2, W, ⟨m0, w0⟩, turn⟩ := h2
  subst e
  have stat : ∀ {H' : Hp}, (∀ b ∈ fp, H' b = none) → ∀ b ∈ fp, FpOk X pins H' b := fun hn b hb => ⟨hn b hb, (f2 b hb).2⟩
  refine codeAny_forLoop_any (fun n s' => ∃ i σ' H', Inv X pins σ' H' s' ∧ tn i s'.heap ∧ (∀ b ∈ fp, H' b = none) ∧ W i n σ' H') ?_ m0 ⟨0, σ, H2, I2, st2, fun b hb => (f2 b hb).1, w0⟩
  rintro n s3 ⟨i, σ3, H3, I3, st3, fr3, w3⟩
  rcases turn i n σ3 H3 w3 with ⟨stop, qn⟩ | ⟨go, N, hN, step⟩
  · refine wpAny_passesOwn hp (thn (T.done X rfl rfl rfl hc i pins s3 σ3 H3 X.xe I3 (stat fr3) st3 stop) fun r s4 ⟨hr, I4⟩ => ?_)
    subst hr
    exact wpAny_execs_nil ⟨σ3, H3, I4, qn⟩
  · refine wpAny_passesOwn hp (thn (T.item X rfl rfl rfl hc i pins s3 σ3 H3 X.xe I3 (stat fr3) st3 go) fun r s4 ⟨u, hr, h4⟩ => ?_)
    subst hr
    refine wpAny_passesOwn hp (thn h4 fun _ s5 ⟨x, H5, I5, r5, y5, st5, fr5⟩ => ?_)
    have I5' := I5.pinned (stat fr5) (T.obj _ _ st5)
    refine wpAny_passesOwn hp (thn (hg _ s5 σ3 H5 x u _ I5' r5 (step x H5 y5)) fun _ s6 ⟨σ6, H6, I6, q6⟩ => ?_)
    refine wpAny_passesOwn hp (thn (hb _ s6 σ6 H6 _ I6 q6) fun f s7 q7 => ?_)
    have again : ∀ {σ7 : St} {H7 : Hp}, Inv X (pins ++ pinsAt fp s5.heap) σ7 H7 s7 → N σ7 H7 → ∃ m, m < n ∧ ∃ i σ' H', Inv X pins σ' H' s7 ∧ tn i s7.heap ∧ (∀ b ∈ fp, H' b = none) ∧ W i m σ' H' := fun {σ7 H7} I7 n7 => by
      obtain ⟨m', hm, w7⟩ := hN σ7 H7 n7
      refine ⟨m', hm, i + 1, σ7, H7, I7.unpinned, T.keep _ _ _ st5 fun b hb o e => (I7.pin (b, o) (List.mem_append_right _ (List.mem_append_right _ (mem_pinsAt hb e)))).1, fun b hb => ?_, w7⟩
      obtain ⟨o, e, d⟩ := T.obj _ _ st5 b hb
      exact (I7.pin (b, o) (List.mem_append_right _ (List.mem_append_right _ (mem_pinsAt hb e)))).2.1
    cases f with
    | next => obtain ⟨σ7, H7, I7, n7⟩ := q7; exact again I7 n7
    | cont => obtain ⟨σ7, H7, I7, n7⟩ := q7; exact again I7 n7
    | brk => obtain ⟨σ7, H7, I7, q7⟩ := q7; exact ⟨σ7, H7, I7.unpinned, q7⟩
    | ret v => obtain ⟨x7, σ7, H7, I7, r7, q7⟩ := q7; exact ⟨x7, σ7, H7, I7.unpinned, r7, q7⟩
end
theorem for_list {K : PySem.W.Frag} {a : Addr} {xs : List V} {g : TG} {tb : TS} {D : Ends} {σ : St} {H : Hp} (Pv : Nat → St → Hp → Prop) (h0 : Pv 0 σ H) (hl : ∀ i σ H, i ≤ xs.length → Pv i σ H → SqL K H a xs)
    (hs : ∀ i x σ H, xs[i]? = some x → Pv i σ H → g x σ H fun σ2 H2 => tb { D with nx := Pv (i + 1), ct := Pv (i + 1), bk := D.nx } σ2 H2) (hd : ∀ σ H, Pv xs.length σ H → D.nx σ H) :
    ∃ W : Nat → Nat → St → Hp → Prop, (∃ m, W 0 m σ H) ∧ ∀ i m σ H, W i m σ H →
      ((Itl K a).stop i H ∧ D.nx σ H) ∨ ((Itl K a).go i H ∧ ∃ N : St → Hp → Prop, (∀ σ' H', N σ' H' → ∃ m', m' < m ∧ W (i + 1) m' σ' H') ∧ ∀ x H', (Itl K a).yld i H x H' → g x σ H' fun σ2 H2 => tb { D with nx := N, ct := N, bk := D.nx } σ2 H2) := by
  refine ⟨fun i m σ H => m = xs.length - i ∧ i ≤ xs.length ∧ Pv i σ H, ⟨xs.length, by simp, Nat.zero_le _, h0⟩, ?_⟩
  rintro i m σ H ⟨rfl, hi, p⟩
  have q := hl i σ H hi p
  by_cases hlt : i < xs.length
  · refine .inr ⟨⟨xs, xs[i], q, by simp [hlt]⟩, Pv (i + 1), fun σ' H' p' => ⟨xs.length - (i + 1), by omega, rfl, hlt, p'⟩, fun x H' y => ?_⟩
    obtain ⟨e, y⟩ := y
    subst e
    exact hs i x σ _ (y xs q) p
  · have e : i = xs.length := by omega
    subst e
    exact .inl ⟨⟨xs, q, Nat.le_refl _⟩, hd σ H p⟩
theorem for_range {lo : Int} {n : Nat} {g : TG} {tb : TS} {D : Ends} {σ : St} {H : Hp} (Pv : Nat → St → Hp → Prop) (h0 : Pv 0 σ H)
    (hs : ∀ i σ H, i < n → Pv i σ H → g (.int (lo + i)) σ H fun σ2 H2 => tb { D with nx := Pv (i + 1), ct := Pv (i + 1), bk := D.nx } σ2 H2) (hd : ∀ σ H, Pv n σ H → D.nx σ H) :
    ∃ W : Nat → Nat → St → Hp → Prop, (∃ m, W 0 m σ H) ∧ ∀ i m σ H, W i m σ H →
      ((Itr lo n).stop i H ∧ D.nx σ H) ∨ ((Itr lo n).go i H ∧ ∃ N : St → Hp → Prop, (∀ σ' H', N σ' H' → ∃ m', m' < m ∧ W (i + 1) m' σ' H') ∧ ∀ x H', (Itr lo n).yld i H x H' → g x σ H' fun σ2 H2 => tb { D with nx := N, ct := N, bk := D.nx } σ2 H2) := by
  refine ⟨fun i m σ H => m = n - i ∧ i ≤ n ∧ Pv i σ H, ⟨n, by simp, Nat.zero_le _, h0⟩, ?_⟩
  rintro i m σ H ⟨rfl, hi, p⟩
  by_cases hlt : i < n
  · refine .inr ⟨hlt, Pv (i + 1), fun σ' H' p' => ⟨n - (i + 1), by omega, rfl, hlt, p'⟩, fun x H' y => ?_⟩
    obtain ⟨e, y⟩ := y
    subst e y
    exact hs i σ _ hlt p
  · have e : i = n := by omega
    subst e
    exact .inl ⟨Nat.le_refl _, hd σ H p⟩
end L2
namespace L2
open PySem PySem.Spec PyProof.Rows
abbrev R2 := V → V → Hp → VK → Prop
def OpR (X : Cx) (f : Value → Value → Sem Value) (r : R2) : Prop :=
  ∀ (pins : List (Addr × Obj)) (s : Shared) (σ : St) (H : Hp) (x y : V) (v u : Value) (Q : VK), Inv X pins σ H s → RelV x v → RelV y u → r x y H Q →
    wpAny (model X.prog X.w) X.A (f v u) (EP X pins σ Q) X.xe s
def CallR (X : Cx) (f : Value) (r : List V → Hp → VK → Prop) : Prop :=
  ∀ (pins : List (Addr × Obj)) (s : Shared) (σ : St) (H : Hp) (xs : List V) (us : List Value) (Q : VK), Inv X pins σ H s → Vals xs us → r xs H Q →
    wpAny (model X.prog X.w) X.A (call f us) (EP X pins σ Q) X.xe s
def tOp (r : R2) (ta tb : TE) : TE := fun σ H Q => ta σ H fun x H1 => tb σ H1 fun y H2 => r x y H2 Q
def rI (C : Int → Int → Prop) (g : Int → Int → V) : R2 := fun x y H Q => ∃ i j, x = .int i ∧ y = .int j ∧ C i j ∧ Q (g i j) H
def rI0 (g : Int → Int → V) : R2 := fun x y H Q => ∃ i j, x = .int i ∧ y = .int j ∧ Q (g i j) H
section
variable {X : Cx} {a b c : Expr} {ta tb tc : TE} {pos : Pos}
theorem binT (ha : PE X a ta) (hb : PE X b tb) {pins : List (Addr × Obj)} {s : Shared} {σ : St} {H : Hp} {R : V → V → Hp → Prop} (I : Inv X pins σ H s)
    (h : ta σ H fun x H1 => tb σ H1 fun y H2 => R x y H2) {Q : Value → Shared → Prop} {f : Value → Value → Sem Value}
    (hf : ∀ v u s2 x y H2, Inv X pins σ H2 s2 → RelV x v → RelV y u → R x y H2 → wpAny (model X.prog X.w) X.A (f v u) Q X.xe s2) :
    wpAny (model X.prog X.w) X.A (eval a X.env) (fun v s₁ => wpAny (model X.prog X.w) X.A (eval b X.env) (fun u s₂ => wpAny (model X.prog X.w) X.A (f v u) Q X.xe s₂) X.xe s₁) X.xe s := by
  refine thn (ha pins s σ H _ I h) fun v s1 ⟨x, H1, I1, r1, q1⟩ => ?_
  refine thn (hb pins s1 σ H1 _ I1 q1) fun u s2 ⟨y, H2, I2, r2, q2⟩ => ?_
  exact hf v u s2 x y H2 I2 r1 r2 q2
theorem pe_op {op : Operator} {r : R2} (ho : OpR X (binaryOp op) r) (ha : PE X a ta) (hb : PE X b tb) : PE X (.BinOp a op b pos) (tOp r ta tb) := by
  intro pins s σ H Q I h
  exact wpAny_BinOp (binT ha hb I h fun v u s2 x y H2 I2 rx ry q => ho pins s2 σ H2 x y v u Q I2 rx ry q)
theorem opI {f : Value → Value → Sem Value} {C : Int → Int → Prop} {g : Int → Int → Int}
    (rule : ∀ (i j : Int) (t u : Tok) (s : Shared) (Q : Value → Shared → Prop) (E : Value → Shared → Prop), C i j → Q (.int (g i j) s.toks) { s with toks := s.toks + 1 } → wpAny (model X.prog X.w) X.A (f (.int i t) (.int j u)) Q E s) :
    OpR X f (rI C fun i j => .int (g i j)) := by
  intro pins s σ H x y v u Q I rx ry h
  obtain ⟨i, j, rfl, rfl, hc, q⟩ := h
  obtain ⟨t, rfl⟩ := rx
  obtain ⟨t', rfl⟩ := ry
  exact rule i j t t' s _ _ hc ⟨.int (g i j), H, I.tok _, ⟨_, rfl⟩, q⟩
theorem opI0 {f : Value → Value → Sem Value} {g : Int → Int → Int}
    (rule : ∀ (i j : Int) (t u : Tok) (s : Shared) (Q : Value → Shared → Prop) (E : Value → Shared → Prop), Q (.int (g i j) s.toks) { s with toks := s.toks + 1 } → wpAny (model X.prog X.w) X.A (f (.int i t) (.int j u)) Q E s) :
    OpR X f (rI0 fun i j => .int (g i j)) := by
  intro pins s σ H x y v u Q I rx ry h
  obtain ⟨i, j, rfl, rfl, q⟩ := h
  obtain ⟨t, rfl⟩ := rx
  obtain ⟨t', rfl⟩ := ry
  exact rule i j t t' s _ _ ⟨.int (g i j), H, I.tok _, ⟨_, rfl⟩, q⟩
theorem opB0 {f : Value → Value → Sem Value} {g : Int → Int → Bool}
    (rule : ∀ (i j : Int) (t u : Tok) (s : Shared) (Q : Value → Shared → Prop) (E : Value → Shared → Prop), Q (.bool (g i j)) s → wpAny (model X.prog X.w) X.A (f (.int i t) (.int j u)) Q E s) :
    OpR X f (rI0 fun i j => .bl (g i j)) := by
  intro pins s σ H x y v u Q I rx ry h
  obtain ⟨i, j, rfl, rfl, q⟩ := h
  obtain ⟨t, rfl⟩ := rx
  obtain ⟨t', rfl⟩ := ry
  exact rule i j t t' s _ _ ⟨.bl (g i j), H, I, rfl, q⟩
def CDiv (i j : Int) : Prop := 0 < j ∧ j < 1073741824
def CPow (i j : Int) : Prop := 0 ≤ j ∧ j ≤ 1000000 ∧ i.natAbs < 2 ^ 64
def CMul (i j : Int) : Prop := (-(2 ^ 64) < i ∧ i < 2 ^ 64) ∨ (-(2 ^ 64) < j ∧ j < 2 ^ 64)
theorem CMul.ok {i j : Int} (h : CMul i j) : IntMulOk i j := by
  rcases h with ⟨h1, h2⟩ | ⟨h1, h2⟩
  · exact .of_left (intBits_le_64 h1 h2)
  · exact .of_right (intBits_le_64 h1 h2)
theorem op_add : OpR X (binaryOp .Add) (rI0 fun i j => .int (i + j)) := opI0 fun _ _ _ _ _ _ _ q => add_int q
theorem op_sub : OpR X (binaryOp .Sub) (rI0 fun i j => .int (i - j)) := opI0 fun _ _ _ _ _ _ _ q => sub_int q
theorem op_mul : OpR X (binaryOp .Mult) (rI CMul fun i j => .int (i * j)) := opI fun _ _ _ _ _ _ _ hc q => mul_int q hc.ok
theorem op_fdiv : OpR X (binaryOp .FloorDiv) (rI CDiv fun i j => .int (i / j)) := opI fun i j _ _ _ _ _ hc q => by
  have h1 : (0 : Int) < j := hc.1
  have h2 : j < 1073741824 := hc.2
  exact floordiv_int (by omega) (by rw [Int.fdiv_eq_ediv_of_nonneg i (by omega)]; exact q) (.inl (PyProof.noPylong_small (by omega)))
theorem op_mod : OpR X (binaryOp .Mod) (rI (fun _ j => 0 < j) fun i j => .int (i % j)) := opI fun i j _ _ _ _ _ hc q => by
  have h1 : (0 : Int) < j := hc
  exact mod_int' (by omega) (by rw [Int.fmod_eq_emod_of_nonneg i (by omega)]; exact q)
theorem op_pow : OpR X (binaryOp .Pow) (rI CPow fun i j => .int (i ^ j.toNat)) := opI fun _ _ _ _ _ _ _ hc q => pow_int_small hc.1 hc.2.1 hc.2.2 q
end
def scal : V → V → Bool
  | .non, .non => true | .non, .int _ => true | .int _, .non => true | .non, .bl _ => true | .bl _, .non => true | .non, .str _ => true | .str _, .non => true
  | .int _, .int _ => true | .bl _, .bl _ => true | .str _, .str _ => true | .byt _, .byt _ => true
  | .int _, .str _ => true | .str _, .int _ => true | .bl _, .str _ => true | .str _, .bl _ => true
  | _, _ => false
def rEq : R2 := fun x y H Q => scal x y = true ∧ Q (.bl (decide (x = y))) H
def rNe : R2 := fun x y H Q => scal x y = true ∧ Q (.bl (!decide (x = y))) H
theorem dec_int {i j : Int} : decide (V.int i = V.int j) = (i == j) := by
  rw [Bool.eq_iff_iff]
  simp
theorem dec_bl {i j : Bool} : decide (V.bl i = V.bl j) = (i == j) := by
  rw [Bool.eq_iff_iff]
  simp
theorem dec_str {i j : Str} : decide (V.str i = V.str j) = (i == j) := by
  rw [Bool.eq_iff_iff]
  simp
theorem dec_byt {i j : Array UInt8} : decide (V.byt i = V.byt j) = (i.toList == j.toList) := by
  rw [Bool.eq_iff_iff]
  cases i
  cases j
  simp
section
variable {X : Cx} {a b c : Expr} {ta tb tc : TE} {pos : Pos}
theorem fin_bl {pins : List (Addr × Obj)} {σ : St} {H : Hp} {s : Shared} {Q : VK} {k k' : Bool} (I : Inv X pins σ H s) (q : Q (.bl k) H) (e : k = k') : EP X pins σ Q (.bool k') s := by
  subst e
  exact ⟨.bl k, H, I, rfl, q⟩
theorem op_eq : OpR X (compareOp .Eq) rEq := by
  intro pins s σ H x y v u Q I rx ry h
  obtain ⟨hs, q⟩ := h
  cases x with
  | non =>
    cases rx
    cases y with
    | non => cases ry; exact PySem.EqNone.eq_none_none (fin_bl I q (by simp))
    | bl j => cases ry; exact PySem.EqNone.eq_none_bool (fin_bl I q (by simp))
    | int j => obtain ⟨t', rfl⟩ := ry; exact PySem.EqNone.eq_none_int (fin_bl I q (by simp))
    | str j => obtain ⟨t', rfl⟩ := ry; exact PySem.EqNone.eq_none_str (fin_bl I q (by simp))
    | _ => exact absurd (show false = true from hs) Bool.false_ne_true
  | bl i =>
    cases rx
    cases y with
    | non => cases ry; exact PySem.EqNone.eq_bool_none (fin_bl I q (by simp))
    | bl j => cases ry; exact eq_bool (fin_bl I q dec_bl)
    | str j => obtain ⟨t', rfl⟩ := ry; exact PySem.EqMixed.eq_bool_str (fin_bl I q (by simp))
    | _ => exact absurd (show false = true from hs) Bool.false_ne_true
  | int i =>
    obtain ⟨t, rfl⟩ := rx
    cases y with
    | non => cases ry; exact PySem.EqNone.eq_int_none (fin_bl I q (by simp))
    | int j => obtain ⟨t', rfl⟩ := ry; exact eq_int (fin_bl I q dec_int)
    | str j => obtain ⟨t', rfl⟩ := ry; exact PySem.EqMixed.eq_int_str (fin_bl I q (by simp))
    | _ => exact absurd (show false = true from hs) Bool.false_ne_true
  | str i =>
    obtain ⟨t, rfl⟩ := rx
    cases y with
    | non => cases ry; exact PySem.EqNone.eq_str_none (fin_bl I q (by simp))
    | bl j => cases ry; exact PySem.EqMixed.eq_str_bool (fin_bl I q (by simp))
    | int j => obtain ⟨t', rfl⟩ := ry; exact PySem.EqMixed.eq_str_int (fin_bl I q (by simp))
    | str j => obtain ⟨t', rfl⟩ := ry; exact eq_str (fin_bl I q dec_str)
    | _ => exact absurd (show false = true from hs) Bool.false_ne_true
  | byt i =>
    obtain ⟨t, rfl⟩ := rx
    cases y with
    | byt j => obtain ⟨t', rfl⟩ := ry; exact PySem.W.eq_bytes (fin_bl I q dec_byt)
    | _ => exact absurd (show false = true from hs) Bool.false_ne_true
  | _ => cases y <;> exact absurd (show false = true from hs) Bool.false_ne_true
theorem op_ne : OpR X (compareOp .NotEq) rNe := by
  intro pins s σ H x y v u Q I rx ry h
  obtain ⟨hs, q⟩ := h
  cases x with
  | non =>
    cases rx
    cases y with
    | non => cases ry; exact PySem.EqNone.ne_none_none (fin_bl I q (by simp))
    | bl j => cases ry; exact PySem.EqNone.ne_none_bool (fin_bl I q (by simp))
    | int j => obtain ⟨t', rfl⟩ := ry; exact PySem.EqNone.ne_none_int (fin_bl I q (by simp))
    | str j => obtain ⟨t', rfl⟩ := ry; exact PySem.EqNone.ne_none_str (fin_bl I q (by simp))
    | _ => exact absurd (show false = true from hs) Bool.false_ne_true
  | bl i =>
    cases rx
    cases y with
    | non => cases ry; exact PySem.EqNone.ne_bool_none (fin_bl I q (by simp))
    | bl j => cases ry; exact ne_bool (fin_bl I q (congrArg not dec_bl))
    | str j => obtain ⟨t', rfl⟩ := ry; exact PySem.EqMixed.ne_bool_str (fin_bl I q (by simp))
    | _ => exact absurd (show false = true from hs) Bool.false_ne_true
  | int i =>
    obtain ⟨t, rfl⟩ := rx
    cases y with
    | non => cases ry; exact PySem.EqNone.ne_int_none (fin_bl I q (by simp))
    | int j => obtain ⟨t', rfl⟩ := ry; exact ne_int (fin_bl I q (congrArg not dec_int))
    | str j => obtain ⟨t', rfl⟩ := ry; exact PySem.EqMixed.ne_int_str (fin_bl I q (by simp))
    | _ => exact absurd (show false = true from hs) Bool.false_ne_true
  | str i =>
    obtain ⟨t, rfl⟩ := rx
    cases y with
    | non => cases ry; exact PySem.EqNone.ne_str_none (fin_bl I q (by simp))
    | bl j => cases ry; exact PySem.EqMixed.ne_str_bool (fin_bl I q (by simp))
    | int j => obtain ⟨t', rfl⟩ := ry; exact PySem.EqMixed.ne_str_int (fin_bl I q (by simp))
    | str j => obtain ⟨t', rfl⟩ := ry; exact ne_str (fin_bl I q (congrArg not dec_str))
    | _ => exact absurd (show false = true from hs) Bool.false_ne_true
  | byt i =>
    obtain ⟨t, rfl⟩ := rx
    cases y with
    | byt j => obtain ⟨t', rfl⟩ := ry; exact PySem.W.ne_bytes (fin_bl I q (congrArg not dec_byt))
    | _ => exact absurd (show false = true from hs) Bool.false_ne_true
  | _ => cases y <;> exact absurd (show false = true from hs) Bool.false_ne_true
theorem op_lt : OpR X (compareOp .Lt) (rI0 fun i j => .bl (decide (i < j))) := opB0 fun _ _ _ _ _ _ _ q => lt_int q
theorem op_le : OpR X (compareOp .LtE) (rI0 fun i j => .bl (decide (i ≤ j))) := opB0 fun _ _ _ _ _ _ _ q => le_int q
theorem op_gt : OpR X (compareOp .Gt) (rI0 fun i j => .bl (decide (j < i))) := opB0 fun _ _ _ _ _ _ _ q => gt_int q
theorem op_ge : OpR X (compareOp .GtE) (rI0 fun i j => .bl (decide (j ≤ i))) := opB0 fun _ _ _ _ _ _ _ q => ge_int q
theorem op_isN : OpR X (compareOp .Is) (fun x y H Q => y = .non ∧ Q (.bl (decide (x = .non))) H) := by
  intro pins s σ H x y v u Q I rx ry h
  obtain ⟨rfl, q⟩ := h
  cases ry
  refine is_none_gen (fin_bl I q ?_)
  cases x <;> first
    | (cases rx; rfl)
    | (obtain ⟨t, rfl⟩ := rx; rfl)
theorem op_notN : OpR X (compareOp .IsNot) (fun x y H Q => y = .non ∧ Q (.bl (!decide (x = .non))) H) := by
  intro pins s σ H x y v u Q I rx ry h
  obtain ⟨rfl, q⟩ := h
  cases ry
  refine isnot_none_gen (fin_bl I q ?_)
  cases x <;> first
    | (cases rx; rfl)
    | (obtain ⟨t, rfl⟩ := rx; rfl)
theorem nomark (b : Expr) {op : CmpOp} (h : op ≠ .In := by decide) (h2 : op ≠ .NotIn := by decide) : behindInMarks op b = false := by
  have e1 : (op == CmpOp.In) = false := by cases op <;> first | rfl | exact absurd rfl h
  have e2 : (op == CmpOp.NotIn) = false := by cases op <;> first | rfl | exact absurd rfl h2
  cases b <;> simp [behindInMarks, e1, e2]
theorem pe_cmpR {op : CmpOp} {r : R2} (ho : OpR X (compareOp op) r) (ha : PE X a ta) (hb : PE X b tb) (hm : behindInMarks op b = false) : PE X (.Compare a [op] [b] pos) (tOp r ta tb) := by
  intro pins s σ H Q I h
  exact wpAny_Compare1 (binT ha hb I h fun v u s2 x y H2 I2 rx ry q => ho pins s2 σ H2 x y v u Q I2 rx ry q) hm
def tTest (t : TE) : TT := fun σ H Q => t σ H fun x H' => ∃ k, x = .bl k ∧ Q k H'
theorem pt_cmpR {op : CmpOp} {r : R2} (ho : OpR X (compareOp op) r) (ha : PE X a ta) (hb : PE X b tb) (hm : behindInMarks op b = false) : PT X (.Compare a [op] [b] pos) (tTest (tOp r ta tb)) := by
  intro pins s σ H Q I h
  refine wpAny_isTrue_Compare1 (thn (ha pins s σ H _ I h) fun v s1 ⟨x, H1, I1, r1, q1⟩ => thn (hb pins s1 σ H1 _ I1 q1) fun u s2 ⟨y, H2, I2, r2, q2⟩ =>
    thn (ho pins s2 σ H2 x y v u _ I2 r1 r2 q2) fun c s3 ⟨z, H3, I3, r3, k, e, q3⟩ => ?_) hm
  subst e
  cases r3
  exact wpAny_truthy_bool ⟨H3, I3, q3⟩
def tChain (r r' : R2) (ta tb tc : TE) : TE := fun σ H Q => ta σ H fun x H1 => tb σ H1 fun y H2 => r x y H2 fun z H3 => ∃ k, z = .bl k ∧
  (if k = true then tc σ H3 fun w' H4 => r' y w' H4 Q else Q (.bl false) H3)
theorem pe_chain {op op' : CmpOp} {r r' : R2} (ho : OpR X (compareOp op) r) (ho' : OpR X (compareOp op') r') (ha : PE X a ta) (hb : PE X b tb) (hc : PE X c tc)
    (hm : lastMarks [op, op'] [b, c] = false := by with_unfolding_all rfl) : PE X (.Compare a [op, op'] [b, c] pos) (tChain r r' ta tb tc) := by
  intro pins s σ H Q I h
  refine Compare_chain (thn (ha pins s σ H _ I h) fun v s1 ⟨x, H1, I1, r1, q1⟩ => chain_link (thn (hb pins s1 σ H1 _ I1 q1) fun u s2 ⟨y, H2, I2, r2, q2⟩ =>
    thn (ho pins s2 σ H2 x y v u _ I2 r1 r2 q2) fun d s3 ⟨z, H3, I3, r3, k, e, q3⟩ => ?_)) hm
  subst e
  cases r3
  refine wpAny_truthy_bool ?_
  cases k with
  | false => exact ite_ff ⟨.bl false, H3, I3, rfl, q3⟩
  | true => exact ite_tt (chain_last (thn (hc pins s3 σ H3 _ I3 q3) fun w' s4 ⟨z', H4, I4, r4, q4⟩ => ho' pins s4 σ H4 y z' u w' Q I4 r2 r4 q4))
theorem line63 : (sizeLine : Nat) < 2 ^ 63 := by rw [sizeLine_eq]; decide
theorem op_add_str : OpR X (binaryOp .Add) (fun x y H Q => ∃ i j, x = .str i ∧ y = .str j ∧ i.length + j.length ≤ sizeLine ∧ Q (.str (i ++ j)) H) := by
  intro pins s σ H x y v u Q I rx ry h
  obtain ⟨i, j, rfl, rfl, hz, q⟩ := h
  obtain ⟨t, rfl⟩ := rx
  obtain ⟨t', rfl⟩ := ry
  exact add_str (fun t' tk => ⟨.str (i ++ j), H, I.tok _, ⟨_, rfl⟩, q⟩) hz
theorem vals1 {x : V} {us : List Value} (r : Vals [x] us) : ∃ u, us = [u] ∧ RelV x u := by
  cases r with
  | cons r1 r2 => cases r2; exact ⟨_, rfl, r1⟩
end
end L2
namespace L2
open PySem PySem.Spec PyProof.Rows
structure ObjM (h : Heap) (x dx C : Addr) (mA : Str → Option Value) : Prop where
  obj : h.get? x = some (PySem.W.instObj C dx)
  ns : h.Ns1 dx mA
  ne : dx ≠ x
theorem lookIn_ns {h : Heap} {dx : Addr} {mA : Str → Option Value} (n : h.Ns1 dx mA) : ∃ od, h.get? dx = some od ∧ ∀ name, PySem.W.lookIn name od = some (mA name) := by
  obtain ⟨o, es, ep, ho, hd, hk, _, hm⟩ := n
  refine ⟨o, ho, fun name => ?_⟩
  have e := hm name
  unfold nsFind findBy at e
  rw [← Array.find?_toList] at e
  unfold PySem.W.lookIn
  rw [hd]
  dsimp only
  split
  · rename_i y q
    rw [q] at e
    exact congrArg some e
  · rename_i q
    rw [q] at e
    have a : es.toList.any (·.refKey) = false := by
      rw [List.any_eq_false]
      intro y hy
      obtain ⟨z, t, hkey⟩ := hk y (Array.mem_toList_iff.mp hy)
      simp [DictEntry.refKey, hkey]
    have a' : ¬ es.toList.any (·.refKey) = true := by rw [a]; exact Bool.false_ne_true
    rw [if_neg a']
    exact congrArg some e
theorem ObjM.look {h : Heap} {x dx C : Addr} {mA : Str → Option Value} (I : ObjM h x dx C mA) : ∃ od, PySem.W.InstAt h x (PySem.W.instObj C dx) C (some od) ∧ ∀ name, PySem.W.lookIn name od = some (mA name) :=
  let ⟨od, ho, hl⟩ := lookIn_ns I.ns
  ⟨od, ⟨I.obj, rfl, rfl, ho⟩, hl⟩
section
variable {prog : Program} {w : World} {A : Around} {E : Value → Shared → Prop} {s : Shared} {K : PySem.W.Frag} {x dx C f : Addr} {mA : Str → Option Value} {name : Str} {v : Value}
end
theorem RelO.some_of {v : V} {o : Option Value} (r : RelO (some v) o) : ∃ u, o = some u ∧ RelV v u := by
  cases o with
  | none => exact (show False from r).elim
  | some u => exact ⟨u, rfl, r⟩
section
variable {P : Program} {w : World} {H H' : Hp} {h h' : Heap} {a C dx : Addr} {fs fs' : List (Str × V)}
theorem ins_get (hok : HOk P w H h) (e : H a = some (.ins C dx fs)) : ∃ mA, ObjM h a dx C mA ∧ (∀ f, RelO (fs.lookup f) (mA f)) ∧ PySem.Within mA (fs.map (·.1)) ∧ fs.length ≤ 1000 ∧ H dx = some (.own a) := by
  obtain ⟨d, z, ne, ob, mA, n, r, q⟩ := (show ObjOk P w H h a (.ins C dx fs) from hok a _ e)
  exact ⟨mA, ⟨ob, n, ne⟩, r, q, z, d⟩
end
structure Cls (K : PySem.W.Frag) (C : Addr) : Prop where
  pg : PySem.W.plainGet K C Str.empty = true
  hd : PySem.W.hasDictIn K C = true
  po : PySem.W.plainOver K C = true
  sa : PySem.W.findIn K (.ref C) "__setattr__" = some (some (.builtin "object.__setattr__"))
theorem Cls.get {K : PySem.W.Frag} {C : Addr} (c : Cls K C) (f : Str) : PySem.W.plainGet K C f = true := c.pg
section
variable {X : Cx} {pins : List (Addr × Obj)} {σ : St} {H : Hp} {s : Shared} {a C dx : Addr} {fs : List (Str × V)} {f : Str} {v : V} {A : Around} {E : Value → Shared → Prop}
end
section
variable {X : Cx} {o e value : Expr} {f : Str} {pos pos' tpos : Pos} {ta tv : TE}
end
section
variable {X : Cx} {pins : List (Addr × Obj)} {σ : St} {H : Hp} {s : Shared} {A : Around} {E : Value → Shared → Prop} {Q : Value → Shared → Prop} {c : Value} {b : Bool}
inductive TyOf (K : PySem.W.Frag) (H : Hp) : V → Value → Prop where
  | non : TyOf K H .non (.type "NoneType")
  | bl (x : Bool) : TyOf K H (.bl x) (.type "bool")
  | int (i : Int) : TyOf K H (.int i) (.type "int")
  | str (x : Str) : TyOf K H (.str x) (.type "str")
  | flt (x : UInt64) : TyOf K H (.flt x) (.type "float")
  | lst {a : Addr} {xs : List V} (e : H a = some (.lst xs)) : TyOf K H (.ref a) (.type "list")
  | frz {a : Addr} {o : Obj} {xs : List V} (e : H a = some (.frz o (.lst xs))) : TyOf K H (.ref a) (.type "list")
  | tup {a : Addr} {xs : List V} (e : H a = some (.tup xs)) : TyOf K H (.ref a) (.type "tuple")
  | dK {a : Addr} {kvs : List (Key × V)} (e : H a = some (.dK kvs)) : TyOf K H (.ref a) (.type "dict")
  | dT {a : Addr} {kvs : List (List Key × V)} (e : H a = some (.dT kvs)) : TyOf K H (.ref a) (.type "dict")
  | ins {a C dx : Addr} {fs : List (Str × V)} (e : H a = some (.ins C dx fs)) (cl : Cls K C) (ha : PySem.W.findIn K (.ref C) "__class__" = some (some (.builtin "object.__class__")))
      (hn : PySem.W.specialIn K (.builtin "object.__class__") "__get__" = some (some (.builtin "getset_descriptor.__get__"))) (htk : PySem.W.takesIn K (.builtin "object.__class__") = some true)
      (hm : PySem.W.mroIn K C (.type "object") = some true) : TyOf K H (.ref a) (.ref C)
theorem isinst_ok {x : V} {u t : Value} (I : Inv X pins σ H s) (rx : RelV x u) (ty : TyOf X.K H x t) (e : PySem.W.kitOne X.K t c = some b) (h : ∀ tk, Q (.bool b) { s with toks := tk }) :
    wpAny (model X.prog X.w) A (call (.builtin "isinstance") [u, c]) Q E s := by
  cases ty with
  | non => cases (show u = Value.none from rx); exact PySem.W.kia_one PySem.W.kitx_none I.kIn True.intro e (fun z => nomatch z) h
  | bl y => cases (show u = Value.bool y from rx); exact PySem.W.kia_one PySem.W.kitx_bool I.kIn True.intro e (fun z => nomatch z) h
  | int i => obtain ⟨t, q⟩ := (show ∃ t, u = Value.int i t from rx); cases q; exact PySem.W.kia_one PySem.W.kitx_int I.kIn True.intro e (fun z => nomatch z) h
  | str y => obtain ⟨t, q⟩ := (show ∃ t, u = Value.str y t from rx); cases q; exact PySem.W.kia_one PySem.W.kitx_str I.kIn True.intro e (fun z => nomatch z) h
  | flt y => obtain ⟨t, q⟩ := (show ∃ t, u = Value.float y t from rx); cases q; exact PySem.W.kia_one PySem.W.kitx_float I.kIn True.intro e (fun z => nomatch z) h
  | @lst a xs ea =>
    cases (show u = Value.ref a from rx)
    obtain ⟨_, _, n, _, h1⟩ := (show ObjOk X.prog X.w H s.heap a (.lst xs) from I.hok a _ ea)
    exact PySem.W.kia_one PySem.W.kitx_list I.kIn ⟨_, h1, rfl⟩ e (fun z => nomatch z) h
  | @frz a ob xs ea =>
    cases (show u = Value.ref a from rx)
    obtain ⟨_, _, _, n, _, h1⟩ := (show ObjOk X.prog X.w H s.heap a (.frz ob (.lst xs)) from I.hok a _ ea)
    exact PySem.W.kia_one PySem.W.kitx_list I.kIn ⟨_, h1, rfl⟩ e (fun z => nomatch z) h
  | @tup a xs ea =>
    cases (show u = Value.ref a from rx)
    obtain ⟨_, _, _, p⟩ := (show ObjOk X.prog X.w H s.heap a (.tup xs) from I.hok a _ ea)
    obtain ⟨o, h1, h2, _⟩ := p
    exact PySem.W.kia_one PySem.W.kitx_tuple I.kIn ⟨o, h1, h2⟩ e (fun z => nomatch z) h
  | @dK a kvs ea =>
    cases (show u = Value.ref a from rx)
    obtain ⟨_, _, vs, _, p⟩ := (show ObjOk X.prog X.w H s.heap a (.dK kvs) from I.hok a _ ea)
    obtain ⟨o, es, ep, h1, h2, _⟩ := p
    exact PySem.W.kia_one PySem.W.kitx_dict I.kIn ⟨o, h1, h2.1⟩ e (fun z => nomatch z) h
  | @dT a kvs ea =>
    cases (show u = Value.ref a from rx)
    obtain ⟨_, _, xs, _, o, es, ep, h1, h2, _⟩ := (show ObjOk X.prog X.w H s.heap a (.dT kvs) from I.hok a _ ea)
    exact PySem.W.kia_one PySem.W.kitx_dict I.kIn ⟨o, h1, h2.1⟩ e (fun z => nomatch z) h
  | @ins a C dx fs ea cl ha hn htk hm =>
    cases (show u = Value.ref a from rx)
    obtain ⟨mA, O, _⟩ := ins_get I.hok ea
    obtain ⟨od, J, _⟩ := O.look
    exact PySem.W.kia_one (PySem.W.kitx_own (cl.get _) cl.hd ha hn htk hm) I.kIn J e (fun z => nomatch z) h
end
end L2
namespace L2
open PySem PySem.Spec PyProof.Rows
structure Room (k : Nat) (A : Around) : Prop where
  hd : A.handled = none
  dp : A.depth + 3 * k + 5 < recursionLimit
  un : A.units + 16 * k + 200 < cLine
theorem Room.mono {j k : Nat} {A : Around} (r : Room k A) (h : j ≤ k) : Room j A := ⟨r.hd, by have := r.dp; omega, by have := r.un; omega⟩
theorem Room.deeper {k : Nat} {A : Around} (r : Room (k + 1) A) (env : Env) : Room k (A.deeper env) :=
  ⟨r.hd, by have := r.dp; show A.depth + 1 + 3 * k + 5 < _; omega, by have := r.un; show A.units + 3 + 16 * k + 200 < _; omega⟩
theorem Room.depth {k : Nat} {A : Around} (r : Room k A) : A.depth < recursionLimit := by have := r.dp; omega
theorem Room.units {k : Nat} {A : Around} (r : Room k A) : A.units + 64 < cLine := by have := r.un; omega
def tNil : TA := fun _ H Q => Q [] H
def tCons (ta : TE) (tr : TA) : TA := fun σ H Q => ta σ H fun x H1 => tr σ H1 fun xs H2 => Q (x :: xs) H2
section
variable {X : Cx} {e : Expr} {es : List Expr} {te : TE} {t : TA} {pos : Pos}
theorem pa_nil : PA X [] tNil := fun _ _ _ _ H Q I h => Calls.spliced_nil ⟨[], H, I, .nil, h⟩
theorem pa_cons (ha : PE X e te) (hr : PA X es t) (hs : starEach (e :: es) X.env = (false, eval e X.env) :: starEach es X.env := by rfl) : PA X (e :: es) (tCons te t) := by
  intro pos pins s σ H Q I h
  rw [hs]
  show wpAny _ _ (spliced ((false, eval e X.env) :: backTo pos (starEach es X.env))) _ _ s
  refine Calls.spliced_cons (thn (ha pins s σ H _ I h) fun u s1 ⟨x, H1, I1, r1, q1⟩ => ?_)
  exact thn (hr pos pins s1 σ H1 _ I1 q1) fun us s2 ⟨xs, H2, I2, r2, q2⟩ => ⟨x :: xs, H2, I2, .cons r1 r2, q2⟩
def tTup (t : TA) : TE := fun σ H Q => t σ H fun xs H1 => xs.length ≤ sizeLine ∧ ∀ p, H1 p = none → Q (.ref p) (upd H1 p (.tup xs))
def tLst (t : TA) : TE := fun σ H Q => t σ H fun xs H1 => xs.length ≤ sizeLine ∧ ∀ p, H1 p = none → Q (.ref p) (upd H1 p (.lst xs))
theorem pe_tup {x1} (h : PA X es t) : PE X (.Tuple es x1 pos) (tTup t) := by
  intro pins s σ H Q I hq
  refine wpAny_Tuple_spliced (thn (h pos pins s σ H _ I hq) fun us s1 ⟨xs, H1, I1, r, z, q⟩ => ⟨by rw [← r.length]; exact z, ?_⟩)
  have hf : H1 s1.heap.objs.size = none := I1.hok.fresh (Nat.le_refl _)
  refine ⟨.ref s1.heap.objs.size, upd H1 s1.heap.objs.size (.tup xs), I1.laid (t' := s1.toks) (fun b u e => Heap.get?_push_of_some _ e) (Nat.le_refl _) ?_, rfl, q _ hf⟩
  exact ⟨z, us, r, ⟨_, Heap.get?_push_size _ rfl, rfl, _, rfl⟩⟩
theorem pe_lst (h : PA X es t) : PE X (.List es pos) (tLst t) := by
  intro pins s σ H Q I hq
  refine wpAny_List_spliced (thn (h pos pins s σ H _ I hq) fun us s1 ⟨xs, H1, I1, r, z, q⟩ => ⟨by rw [← r.length]; exact z, ?_⟩)
  have hf : H1 s1.heap.objs.size = none := I1.hok.fresh (Nat.le_refl _)
  refine ⟨.ref s1.heap.objs.size, upd H1 s1.heap.objs.size (.lst xs), I1.laid (t' := s1.toks) (fun b u e => Heap.get?_push_of_some _ e) (Nat.le_refl _) ?_, rfl, q _ hf⟩
  exact ⟨z, us, 0, r, Heap.get?_push_size _ rfl⟩
end
abbrev Sp := List V → Hp → VK → XK → Prop
abbrev CXT := List Env → Hp → Shared → XK → Value → Shared → Prop
structure Env0 (P : Program) (w : World) (K : PySem.W.Frag) (mg : Str → Option Value) (base : Heap) (A : Around) (outer : List Env) (s : Shared) (H : Hp) : Prop where
  frames : A.frames = some outer
  mod : Mod K mg base
  bs : ∀ b o, base.get? b = some o → s.heap.get? b = some o ∧ H b = none
  bsz : base.objs.size ≤ s.heap.objs.size
  funs : s.heap.FunFrames base outer
  frf : ∀ b ∈ frs outer, H b = none
  hok : HOk P w H s.heap
  bare : AllBare s.gens
def CE (outer : List Env) (P : Program) (w : World) (H : Hp) (s : Shared) (Q : VK) (u : Value) (s' : Shared) : Prop :=
  ∃ v H', s'.os = s.os ∧ AllBare s'.gens ∧ Un (frs outer) [] H H' s.heap s'.heap ∧ HOk P w H' s'.heap ∧ RelV v u ∧ Q v H'
def CR (CX : CXT) (outer : List Env) (P : Program) (w : World) (H : Hp) (s : Shared) (Q : VK) (E : XK) (r : Result) (s' : Shared) : Prop :=
  match r with
  | .ok (.ret u) => CE outer P w H s Q u s'
  | .ok _ => False
  | .error e => CX outer H s E e s'
structure FnOk (P : Program) (w : World) (K : PySem.W.Frag) (mg : Str → Option Value) (base : Heap) (CX : CXT) (k : Nat) (f : Addr) (fd : FuncData) (ps : List Str) (sp : Sp) : Prop where
  len : ∀ vs H Q E, sp vs H Q E → vs.length = ps.length
  run : ∀ (A : Around) (outer : List Env) (s : Shared) (H : Hp) (args : Args) (us : List Value) (vs : List V) (Q : VK) (E : XK), Room k A → Env0 P w K mg base A outer s H → BindsTo s fd args (ps.zip us) → Vals vs us → sp vs H Q E →
    codeAny (model P w) A (.call (.ref f) args) (CR CX outer P w H s Q E) s
theorem FnOk.mono {P : Program} {w : World} {K : PySem.W.Frag} {mg : Str → Option Value} {base : Heap} {CX : CXT} {j k : Nat} {f : Addr} {fd : FuncData} {ps : List Str} {sp : Sp} (F : FnOk P w K mg base CX j f fd ps sp) (h : j ≤ k) :
    FnOk P w K mg base CX k f fd ps sp := ⟨F.len, fun A outer s H args us vs Q E hr => F.run A outer s H args us vs Q E (hr.mono h)⟩
section
variable {X : Cx} {pins : List (Addr × Obj)} {σ : St} {H : Hp} {s s' : Shared}
theorem Inv.env0 (I : Inv X pins σ H s) : Env0 X.prog X.w X.K X.mg X.base X.A X.stack s H :=
  ⟨I.ok.frames, I.ok.mod, I.bs, Nat.le_trans I.ok.bsz I.sz, I.stack, I.stkFree, I.hok, I.bare⟩
theorem Inv.after {Q : VK} {u : Value} (I : Inv X pins σ H s) (h : CE X.stack X.prog X.w H s Q u s') : EP X pins σ Q u s' := by
  obtain ⟨v, H', os, bare, un, hok, r, q⟩ := h
  obtain ⟨hh, g, d, t, os'⟩ := s'
  obtain rfl : os' = s.os := os
  exact ⟨v, H', I.call (h' := hh) (g' := g) (d' := d) (t' := t) (ch := []) un hok bare (fun b z => absurd z (by simp)), r, q⟩
end
def tCall (sp : Sp) (dvs : List V) (E : XK) (t : TA) : TE := fun σ H Q => t σ H fun vs H1 => sp (vs ++ dvs) H1 Q E
def Binds (K : PySem.W.Frag) (fd : FuncData) (ps : List Str) (ds : List Value) : Prop :=
  ∀ (s : Shared) (us : List Value), K.In s.heap → (us ++ ds).length = ps.length → BindsTo s fd ⟨us, []⟩ (ps.zip (us ++ ds))
theorem Binds.all {K : PySem.W.Frag} {fd : FuncData} {ps : List Str} (h : ∀ us : List Value, us.length = ps.length → bindArgs fd ⟨us, []⟩ = pure (ps.zip us)) : Binds K fd ps [] := fun s us _ hl => by
  rw [List.append_nil] at hl ⊢
  exact .of_eq (h us hl)
def Passes (CX : CXT) (X : Cx) (E : XK) : Prop := ∀ (pins : List (Addr × Obj)) (σ : St) (H : Hp) (s : Shared) (e : Value) (s' : Shared), Inv X pins σ H s → CX X.stack H s E e s' → X.xe e s'
section
variable {X : Cx} {CX : CXT} {k : Nat} {f C : Addr} {fd : FuncData} {ps : List Str} {sp : Sp} {dvs : List V} {ds : List Value} {E : XK} {x m : Str} {p pos apos : Pos} {e o : Expr} {es : List Expr} {ta : TE} {t : TA}
theorem run_fn {pins : List (Addr × Obj)} {σ : St} {H : Hp} {s : Shared} {Q : VK} {us : List Value} {vs : List V} (F : FnOk X.prog X.w X.K X.mg X.base CX k f fd ps sp) (hr : Room k X.A) (hb : Binds X.K fd ps ds) (hd : Vals dvs ds) (hx : Passes CX X E)
    (I : Inv X pins σ H s) (r : Vals vs us) (h : sp (vs ++ dvs) H Q E) : wpAny (model X.prog X.w) X.A (call (.ref f) us) (EP X pins σ Q) X.xe s := by
  have r2 : Vals (vs ++ dvs) (us ++ ds) := r.append hd
  have hl : (us ++ ds).length = ps.length := by rw [← r2.length]; exact F.len _ _ _ _ h
  refine wpAny_call (codeAny_mono (F.run X.A X.stack s H ⟨us, []⟩ (us ++ ds) (vs ++ dvs) Q E hr I.env0 (hb s us I.kIn hl) r2 h) fun r s' hq => ?_)
  cases r with
  | error e => exact hx pins σ H s e s' I hq
  | ok fl =>
    cases fl with
    | ret u => exact I.after hq
    | next => exact False.elim hq
    | brk => exact False.elim hq
    | cont => exact False.elim hq
theorem pe_call (F : FnOk X.prog X.w X.K X.mg X.base CX k f fd ps sp) (hr : Room k X.A) (hg : Gl X x) (hm : X.mg x = some (.ref f)) (hk : PySem.W.keepIn X.K (.ref f) = true) (hb : Binds X.K fd ps ds) (hd : Vals dvs ds) (hx : Passes CX X E)
    (ha : PA X (e :: es) t) (hdb : (x == ("__debug__" : Str)) = false := by decide) (he : starEach (e :: es) X.env = (false, eval e X.env) :: starEach es X.env := by rfl) (hpl : (backTo pos (starEach es X.env)).any (·.1) = false := by rfl) :
    PE X (.Call (.Name x p) (e :: es) [] pos) (tCall sp dvs E t) := by
  intro pins s σ H Q I h
  refine wpAny_Call_Name_kw (ld_glob I hg hm ?_ hdb)
  refine PySem.W.callWith_K (h₀ := X.base) I.ok.mod.kin hk (thn (ha pos pins s σ H _ I h) fun us s1 ⟨vs, H1, I1, r, q⟩ => ⟨I1.kIn, ?_⟩) he hpl
  exact run_fn F hr hb hd hx I1 r q
end
section
variable {X : Cx} {CX : CXT} {k : Nat} {f C : Addr} {fd : FuncData} {ps ks : List Str} {sp : Sp} {E : XK} {x m : Str} {p pos apos kpos : Pos} {e o : Expr} {es : List Expr} {kws : List Keyword} {te ta : TE} {t tk : TA} {nm : Option Str}
variable {g : List Value → List Value → List Value} {gV : List V → List V → List V}
end
structure FnScope (N P : List Str) (sc : Scope) : Prop where
  kind : sc.kind = .function
  co : sc.isCoroutine = false
  gen : sc.isGenerator = false
  nd : N.Nodup
  pre : N.take P.length = P
  par : ∀ x ∈ P, sc.names.lookup x = some .local ∨ sc.names.lookup x = some .cell
  nofree : ∀ y ∈ sc.names, y.2 ≠ .free
theorem bindL_out {kindOf : Str → Option NameKind} {x : Str} : ∀ {binds : List (Str × Value)} {m : Str → Option Value}, (∀ v, (x, v) ∉ binds) → bindL kindOf binds m x = m x
  | [], _, _ => rfl
  | (n, v) :: r, m, h => by
    unfold bindL
    rw [bindL_out fun w hw => h w (List.mem_cons_of_mem _ hw)]
    split
    · have : x ≠ n := by rintro rfl; exact h v List.mem_cons_self
      simp [this]
    · rfl
theorem bindC_out {kindOf : Str → Option NameKind} {x : Str} : ∀ {binds : List (Str × Value)} {m : Str → Option Value}, (∀ v, (x, v) ∉ binds) → bindC kindOf binds m x = m x
  | [], _, _ => rfl
  | (n, v) :: r, m, h => by
    unfold bindC
    rw [bindC_out fun w hw => h w (List.mem_cons_of_mem _ hw)]
    split
    · rfl
    · have : x ≠ n := by rintro rfl; exact h v List.mem_cons_self
      simp [this]
theorem bindL_get {kindOf : Str → Option NameKind} {x : Str} {v : Value} : ∀ {P : List Str} {vs : List Value} {i : Nat} {m : Str → Option Value}, P.Nodup → P[i]? = some x → vs[i]? = some v → kindOf x = some .local →
    bindL kindOf (P.zip vs) m x = some v
  | [], _, _, _, _, h, _, _ => by simp at h
  | _ :: _, [], _, _, _, _, h, _ => by simp at h
  | p :: P, w :: vs, 0, m, nd, h1, h2, hk => by
    simp at h1 h2; subst h1; subst h2
    show bindL kindOf ((p, w) :: P.zip vs) m p = _
    unfold bindL
    rw [bindL_out fun v hv => (List.nodup_cons.mp nd).1 (List.of_mem_zip hv).1, if_pos hk]
    simp
  | p :: P, w :: vs, i + 1, m, nd, h1, h2, hk => by
    show bindL kindOf ((p, w) :: P.zip vs) m x = _
    unfold bindL
    exact bindL_get (i := i) (List.nodup_cons.mp nd).2 (by simpa using h1) (by simpa using h2) hk
theorem bindC_get {kindOf : Str → Option NameKind} {x : Str} {v : Value} : ∀ {P : List Str} {vs : List Value} {i : Nat} {m : Str → Option Value}, P.Nodup → P[i]? = some x → vs[i]? = some v → kindOf x ≠ some .local →
    bindC kindOf (P.zip vs) m x = some v
  | [], _, _, _, _, h, _, _ => by simp at h
  | _ :: _, [], _, _, _, _, h, _ => by simp at h
  | p :: P, w :: vs, 0, m, nd, h1, h2, hk => by
    simp at h1 h2; subst h1; subst h2
    show bindC kindOf ((p, w) :: P.zip vs) m p = _
    unfold bindC
    rw [bindC_out fun v hv => (List.nodup_cons.mp nd).1 (List.of_mem_zip hv).1, if_neg hk]
    simp
  | p :: P, w :: vs, i + 1, m, nd, h1, h2, hk => by
    show bindC kindOf ((p, w) :: P.zip vs) m x = _
    unfold bindC
    exact bindC_get (i := i) (List.nodup_cons.mp nd).2 (by simpa using h1) (by simpa using h2) hk
def start (N : List Str) (vs : List V) : St := vs.map some ++ List.replicate (N.length - vs.length) none
def cxOf (CX : CXT) (P : Program) (w : World) (K : PySem.W.Frag) (mg : Str → Option Value) (base : Heap) (N : List Str) (qual : Str) (scope : Scope) (f : Addr) (cd : Value) (A : Around) (outer : List Env) (s : Shared) (H : Hp) (E : XK) : Cx where
  prog := P
  w := w
  K := K
  mg := mg
  base := base
  A := A.deeper (envOfC qual scope s.heap.objs.size f cd)
  N := N
  s₀ := s
  H₀ := H
  env := envOfC qual scope s.heap.objs.size f cd
  outer := outer
  stack := envOfC qual scope s.heap.objs.size f cd :: outer
  ex := []
  calm := true
  fn := fun _ => true
  pn := []
  xe := fun e s' => wpAny (model P w) (A.deeper (envOfC qual scope s.heap.objs.size f cd)) (leaving (envOfC qual scope s.heap.objs.size f cd) e) (fun _ s'' => CX outer H s E e s'') (fun e' s'' => CX outer H s E e' s'') s'
theorem cell_has {sc : Scope} {n : Nat} {x : Str} (h : sc.names.lookup x = some .cell) : ∃ c, (cellsFrom n sc.names []).lookup x = some c := by
  have q := PySem.W.cellsFrom_some sc.names n [] (.inl h)
  exact Option.isSome_iff_exists.mp q
theorem inv_start {CX : CXT} {P : Program} {w : World} {K : PySem.W.Frag} {mg : Str → Option Value} {base : Heap} {N ps : List Str} {qual : Str} {scope : Scope} {f : Addr} {cd : Value} {A : Around} {outer : List Env} {s s1 : Shared} {H : Hp} {E : XK} {us : List Value} {vs : List V}
    (S : FnScope N ps scope) (hd : A.handled = none) (e0 : Env0 P w K mg base A outer s H) (hl : vs.length = ps.length) (r : Vals vs us)
    (x : InCallC s s.heap.objs.size (bindL (envOfC qual scope s.heap.objs.size f cd).kindOf (ps.zip us) fun _ => none) (cellsFrom (s.heap.objs.size + 1) scope.names []) (bindC (envOfC qual scope s.heap.objs.size f cd).kindOf (ps.zip us) fun _ => none) s1) :
    Inv (cxOf CX P w K mg base N qual scope f cd A outer s H E) [] (start N vs) H s1 := by
  have hpl : ps.length ≤ N.length := by have := congrArg List.length S.pre; rw [List.length_take] at this; omega
  obtain ⟨h1, tk, rfl, hk⟩ := x.done
  have noA : ∀ b : Addr, b ∉ (cxOf CX P w K mg base N qual scope f cd A outer s H E).ex := fun b z => absurd (show b ∈ ([] : List Addr) from z) (by simp)
  refine ⟨⟨e0.mod, S.kind, rfl, rfl, Nat.le_refl _, fun y z c h1 h2 => ?_, fun y hy => ?_, fun y c _ h => ?_, fun _ => hd, Around.frames_deeper e0.frames, .inr ⟨rfl, rfl⟩, fun b z => absurd z (noA b), e0.bs, e0.bsz, fun b _ _ => noA b, fun b z => absurd z (noA b), e0.funs, e0.frf⟩,
    rfl, e0.bare, Un.kept hk, ⟨_, x.toInCall.ns, fun i y v h1 h2 h3 => ?_⟩, fun y c h => ⟨_, x.cell y c h⟩, e0.hok.fresh (Nat.le_refl _), fun y c h => ?_, fun p hp => absurd (show p ∈ ([] : List (Addr × Obj)) from hp) (by simp), e0.hok.kept hk, ?_⟩
  · exact name_of_addr x.apart (PySem.mem_of_lookup h1) (PySem.mem_of_lookup h2)
  · have hy : scope.names.lookup y = some .cell ∨ scope.names.lookup y = some .free := hy
    rcases hy with hy | hy
    · exact cell_has hy
    · exact absurd rfl (S.nofree _ (PySem.mem_of_lookup hy))
  · exact Nat.le_of_lt (x.above y c (PySem.mem_of_lookup h))
  · have hi : i < vs.length := by
      unfold start at h2
      by_cases hi : i < vs.length
      · exact hi
      · rw [List.getElem?_append_right (by simpa using hi)] at h2
        rw [List.getElem?_replicate] at h2
        split at h2 <;> cases h2
    have ha : vs[i]? = some v := by
      unfold start at h2
      rw [List.getElem?_append_left (by simpa using hi), List.getElem?_map] at h2
      cases e : vs[i]? with
      | none => rw [e] at h2; cases h2
      | some a => rw [e] at h2; cases h2; rfl
    obtain ⟨u, hu, rv⟩ := r.get ha
    have hp : ps[i]? = some y := by
      rw [← S.pre, List.getElem?_take_of_lt (by omega)]; exact h1
    have ndP : ps.Nodup := by rw [← S.pre]; exact S.nd.sublist (List.take_sublist _ _)
    refine ⟨u, rv, ?_⟩
    rcases S.par y (List.mem_of_getElem? hp) with k | k
    · exact .inl ⟨k, bindL_get ndP hp hu k⟩
    · obtain ⟨c, e⟩ := cell_has (n := s.heap.objs.size + 1) k
      refine .inr ⟨.inl k, c, e, ?_⟩
      have q := x.cell y c e
      rw [bindC_get ndP hp hu (by show scope.names.lookup y ≠ _; rw [k]; decide)] at q
      exact q
  · exact e0.hok.fresh (Nat.le_of_lt (x.above y c (PySem.mem_of_lookup h)))
  · unfold start
    show _ = N.length
    rw [List.length_append, List.length_map, List.length_replicate]
    omega
theorem fn_of {CX : CXT} {P : Program} {w : World} {K : PySem.W.Frag} {mg : Str → Option Value} {base : Heap} {k : Nat} {f : Addr} {name qual : Str} {params : Arguments} {body : List Stmt} {scope : Scope} {dV kV doc pm cdv ct oc : Value} {an od : Option Addr}
    {osl : Array (Option Value)} {N ps : List Str} {sp : Sp} (lk : K.lookup f = some ⟨oc, od, .func (PySem.W.fnOf name qual params body scope dV kV doc pm an cdv ct), osl⟩) (hcd : PySem.W.codeIn K cdv qual = true) (S : FnScope N ps scope)
    (len : ∀ vs H Q E, sp vs H Q E → vs.length = ps.length)
    (hbody : ∀ (A : Around) (outer : List Env) (s : Shared) (H : Hp) (vs : List V) (Q : VK) (E : XK), Room k (A.deeper (envOfC qual scope s.heap.objs.size f cdv)) → sp vs H Q E →
      ∃ t, PSs (cxOf CX P w K mg base N qual scope f cdv A outer s H E) body t ∧ t { nx := fun _ H' => Q .non H', rt := Q } (start N vs) H) :
    FnOk P w K mg base CX (k + 1) f (PySem.W.fnOf name qual params body scope dV kV doc pm an cdv ct) ps sp := by
  refine ⟨len, fun A outer s H args us vs Q E hr e0 hb r hsp => ?_⟩
  have hl := len _ _ _ _ hsp
  have KX : K.In s.heap := e0.mod.kin.keeps fun b o e => (e0.bs b o e).1
  have lim : s.heap.NoLimit := e0.mod.nolimit.keeps fun b o e => (e0.bs b o e).1
  have hkind : ∀ y ∈ ps.zip us, scope.names.lookup y.1 = some .local ∨ (scope.names.lookup y.1 = some .cell ∧ ((cellsFrom (s.heap.objs.size + 1) scope.names []).lookup y.1).isSome = true) := fun ⟨n, v⟩ hy => by
    rcases S.par n (List.of_mem_zip hy).1 with q | q
    · exact .inl q
    · exact .inr ⟨q, PySem.W.cellsFrom_some _ _ _ (.inl q)⟩
  refine codeAny_call_function hr.depth (KX _ _ lk) rfl S.co S.gen rfl (PySem.W.codeRec_of KX hcd) (hb _ _ _ _ ?_)
  refine wpAny_newFunctionEnv_cells S.kind hkind fun env he s1 x => ?_
  subst he
  refine ⟨lim.keeps x.toInCall.keep, codeAny_func ?_⟩
  obtain ⟨t, ht, hq⟩ := hbody A outer s H vs Q E (hr.deeper _) hsp
  have I : Inv (cxOf CX P w K mg base N qual scope f cdv A outer s H E) [] (start N vs) H s1 := inv_start S hr.hd e0 hl r x
  refine wpAny_mono (ht [] s1 (start N vs) H _ I hq) (fun fl s' hs => ?_) fun e s' hs => hs
  have fin : ∀ {σ' : St} {H' : Hp} {v : V} {u : Value}, Inv (cxOf CX P w K mg base N qual scope f cdv A outer s H E) [] σ' H' s' → RelV v u → Q v H' → CE outer P w H s Q u s' :=
    fun {σ' H' v u} J rv q => ⟨v, H', J.os, J.bare, J.base, J.hok, rv, q⟩
  cases fl with
  | ret u =>
    obtain ⟨v, σ', H', J, rv, q⟩ := hs
    exact fin J rv q
  | next =>
    obtain ⟨σ', H', J, q⟩ := hs
    exact fin (v := V.non) (u := Value.none) J rfl q
  | brk =>
    obtain ⟨_, _, _, q⟩ := hs
    exact False.elim q
  | cont =>
    obtain ⟨_, _, _, q⟩ := hs
    exact False.elim q
end L2
namespace L2
open PySem PySem.Spec PyProof.Rows
section
variable {X : Cx} {x : Str} {p pos : Pos} {e : Expr} {es : List Expr} {t : TA} {id T : String} {r : List V → Hp → VK → Prop}
def tCB (r : List V → Hp → VK → Prop) (t : TA) : TE := fun σ H Q => t σ H fun vs H1 => r vs H1 Q
theorem pe_callB (hc : CallR X (.builtin id) r) (hg : Gl X x) (hm : X.mg x = none) (hv : bootBuiltins x = some (.builtin id)) (ha : PA X (e :: es) t) (hn : x ≠ "__name__" := by decide) (hdb : (x == ("__debug__" : Str)) = false := by decide)
    (he : starEach (e :: es) X.env = (false, eval e X.env) :: starEach es X.env := by rfl) (hpl : (backTo pos (starEach es X.env)).any (·.1) = false := by rfl) : PE X (.Call (.Name x p) (e :: es) [] pos) (tCB r t) := by
  intro pins s σ H Q I h
  refine wpAny_Call_Name_kw (ld_blt I hg hm hv ?_ hn hdb)
  exact PyProof.Rows.callWith_builtin1 (thn (ha pos pins s σ H _ I h) fun us s1 ⟨vs, H1, I1, r1, q1⟩ => hc pins s1 σ H1 vs us Q I1 r1 q1) he hpl
theorem pe_callTy (hc : CallR X (.type T) r) (hg : Gl X x) (hm : X.mg x = none) (hv : bootBuiltins x = some (.type T)) (ha : PA X (e :: es) t) (hn : x ≠ "__name__" := by decide) (hdb : (x == ("__debug__" : Str)) = false := by decide)
    (he : starEach (e :: es) X.env = (false, eval e X.env) :: starEach es X.env := by rfl) (hpl : (backTo pos (starEach es X.env)).any (·.1) = false := by rfl) : PE X (.Call (.Name x p) (e :: es) [] pos) (tCB r t) := by
  intro pins s σ H Q I h
  refine wpAny_Call_Name_kw (ld_blt I hg hm hv ?_ hn hdb)
  exact PyProof.Rows.callWith_type1 (thn (ha pos pins s σ H _ I h) fun us s1 ⟨vs, H1, I1, r1, q1⟩ => hc pins s1 σ H1 vs us Q I1 r1 q1) he hpl
end
end L2
namespace HT
open PySem PyProof.Rows
section
open PySem.SeqAt
open PySem.AutoSeq1 (wpAny_loadPart')
open PySem.MeetsSeq PySem.MeetsSeq2 PySem.MeetsSeq3
end
section
variable {prog : Program} {w : World} {A : Around} {E : Value → Shared → Prop} {s : Shared}
theorem cat_tup {t b : Addr} {vs ws : List Value} {Q : Value → Shared → Prop} (ht : IsTup s.heap t vs.toArray) (hb : IsTup s.heap b ws.toArray) (hv : vs ≠ [])
    (h1 : ws = [] → Q (.ref t) s) (h2 : ws ≠ [] → Q (.ref s.heap.objs.size) { s with heap := s.heap.push { cls := .type "tuple", data := .seq (vs ++ ws).toArray } })
    (hsz : vs.length + ws.length ≤ sizeLine) : wpAny (model prog w) A (binaryOp .Add (.ref t) (.ref b)) Q E s := by
  obtain ⟨⟨cls, dd, data, sl⟩, ho, hc, n, hd⟩ := id ht
  obtain ⟨⟨cls2, dd2, data2, sl2⟩, ho2, hc2, n2, hd2⟩ := id hb
  simp only at hc hd hc2 hd2
  subst hc hd hc2 hd2
  have e : vs.toArray ++ ws.toArray = (vs ++ ws).toArray := by simp
  by_cases hw : ws = []
  · exact concat_meets ⟨_, ho, rfl⟩ ⟨_, ho2, rfl⟩ noFill_tuple_add seq_tuple_add PySem.F.slot_tuple_add PySem.F.entry_tuple_add (PySem.F.args_tuple_add_2 _ _)
      (tuple_addW1 t b vs.toArray ws.toArray n n2 dd dd2 sl sl2 (by simpa using hv) (by simp [hw])) ⟨ho, ho2, h1 hw⟩
  · refine concat_meets ⟨_, ho, rfl⟩ ⟨_, ho2, rfl⟩ noFill_tuple_add seq_tuple_add PySem.F.slot_tuple_add PySem.F.entry_tuple_add (PySem.F.args_tuple_add_2 _ _)
      (tuple_addW2 t b vs.toArray ws.toArray n n2 dd dd2 sl sl2 (by simpa using hv) (by simpa using hw) (by rw [List.size_toArray, List.size_toArray]; exact hsz)) ⟨ho, ho2, ?_⟩
    rw [e]
    exact h2 hw
def sIx (n d : Nat) : Option Int → Nat
  | none => d
  | some v => if v < 0 then (v + (n : Int)).toNat else min v.toNat n
theorem sIx_nat (n d k : Nat) : sIx n d (some (k : Int)) = min k n := by
  show (if (k : Int) < 0 then ((k : Int) + (n : Int)).toNat else min (k : Int).toNat n) = min k n
  rw [if_neg (by omega), Int.toNat_natCast]
theorem sIx_le (n d : Nat) (hd : d ≤ n) (o : Option Int) : sIx n d o ≤ n := by
  cases o with
  | none => exact hd
  | some v =>
    show (if v < 0 then (v + (n : Int)).toNat else min v.toNat n) ≤ n
    by_cases hv : v < 0
    · rw [if_pos hv]; omega
    · rw [if_neg hv]; exact Nat.min_le_right _ _
theorem clip_eq (v : Int) (n d : Nat) : (if v < 0 then max (v + (n : Int)) 0 else min v (n : Int)) = ((sIx n d (some v) : Nat) : Int) := by
  show (if v < 0 then max (v + (n : Int)) 0 else min v (n : Int)) = (((if v < 0 then (v + (n : Int)).toNat else min v.toNat n) : Nat) : Int)
  by_cases hv : v < 0
  · simp only [if_pos hv]; omega
  · simp only [if_neg hv]; omega
theorem adjust_gen (lo hi : Option Int) (n : Nat) : Builtin.Slice.sliceAdjust lo hi 1 (n : Int) = (((sIx n 0 lo : Nat) : Int), ((sIx n n hi : Nat) : Int)) := by
  have h1 : ¬ ((1 : Int) < 0) := by omega
  unfold Builtin.Slice.sliceAdjust
  simp only [h1, if_false]
  refine Prod.ext ?_ ?_
  · cases lo with
    | none => rfl
    | some v => exact clip_eq v n 0
  · cases hi with
    | none => rfl
    | some v => exact clip_eq v n n
theorem places_gen (i j : Nat) : Builtin.Slice.slicePlaces (i : Int) (j : Int) 1 = j - i := by
  unfold Builtin.Slice.slicePlaces
  have h1 : (1 : Int) > 0 := by omega
  simp only [h1, if_true, Int.ediv_one]
  split <;> omega
theorem slicePart_ {v : Value} {o : Option Int} {Q : Option Int → Shared → Prop} (p : IsPart v o) (h : Q o s) : wpAny (model prog w) A (Builtin.Slice.slicePartIndex v) Q E s := by
  cases p with
  | none => exact slicePart_none h
  | int i t => exact slicePart_int h
theorem sliceApplied_gen {sl : Addr} {vl vu : Value} {lo hi : Option Int} {n : Nat} {Q : Int × Int × Nat → Shared → Prop} (hs : s.heap.IsSliceOf sl vl vu .none) (pl : IsPart vl lo) (pu : IsPart vu hi)
    (h : Q (((sIx n 0 lo : Nat) : Int), 1, sIx n n hi - sIx n 0 lo) s) : wpAny (model prog w) A (Builtin.Slice.sliceApplied (.ref sl) (pure (n : Int))) Q E s := by
  obtain ⟨os, hos, hcs, hds⟩ := id hs
  unfold Builtin.Slice.sliceApplied Builtin.Slice.sliceFields
  refine wpAny_bind (wpAny_bind (wpAny_field hos hds (x := vl) rfl (wpAny_bind (wpAny_field hos hds (x := vu) rfl (wpAny_bind (wpAny_field hos hds (x := .none) rfl (wpAny_pure ?_)))))))
  refine wpAny_bind (slicePart_none ?_)
  show wpAny _ _ (if ((1 : Int) == 0) = true then _ else _) _ _ s
  rw [if_neg (by decide)]
  refine wpAny_bind (slicePart_ pl (wpAny_bind (slicePart_ pu (wpAny_bind (wpAny_pure ?_)))))
  show wpAny _ _ (match Builtin.Slice.sliceAdjust lo hi 1 (n : Int) with | (lo, hi) => pure (lo, (1 : Int), Builtin.Slice.slicePlaces lo hi 1)) _ _ s
  rw [adjust_gen lo hi n]
  show wpAny _ _ (pure (((sIx n 0 lo : Nat) : Int), (1 : Int), Builtin.Slice.slicePlaces ((sIx n 0 lo : Nat) : Int) ((sIx n n hi : Nat) : Int) 1)) _ _ s
  rw [places_gen]
  exact wpAny_pure h
theorem pick_gen (xs : Array Value) (i k : Nat) : ((List.range k).filterMap fun (m : Nat) => xs[((i : Int) + (m : Int) * 1).toNat]?).toArray = ((xs.toList.drop i).take k).toArray := by
  have e : (fun (m : Nat) => xs[((i : Int) + (m : Int) * 1).toNat]?) = fun m => xs[i + m]? := by
    funext m
    have : ((i : Int) + (m : Int) * 1).toNat = i + m := by omega
    rw [this]
  rw [e]
  have := pick_run xs i k
  rw [List.filterMap_map] at this
  have e2 : ((fun x => xs[x]?) ∘ fun x => i + x) = fun m => xs[i + m]? := rfl
  rw [e2] at this
  rw [this]
theorem getItem_tuple_cut {t sl : Addr} {items : Array Value} {vl vu : Value} {lo hi : Option Int} {Q : Value → Shared → Prop} (ht : IsTup s.heap t items) (hs : s.heap.IsSliceOf sl vl vu .none) (pl : IsPart vl lo) (pu : IsPart vu hi)
    (hw : ¬ (sIx items.size 0 lo = 0 ∧ sIx items.size items.size hi = items.size))
    (h : Q (.ref s.heap.objs.size) { s with heap := s.heap.push { cls := .type "tuple", data := .seq ((items.toList.drop (sIx items.size 0 lo)).take (sIx items.size items.size hi - sIx items.size 0 lo)).toArray } })
    (hsz : items.size ≤ sizeLine) : wpAny (model prog w) A (getItem (.ref t) (.ref sl)) Q E s := by
  have htake : sizeOk (.seq ((items.toList.drop (sIx items.size 0 lo)).take (sIx items.size items.size hi - sIx items.size 0 lo)).toArray) := by
    show ((items.toList.drop (sIx items.size 0 lo)).take (sIx items.size items.size hi - sIx items.size 0 lo)).toArray.size ≤ sizeLine
    rw [List.size_toArray, List.length_take, List.length_drop, Array.length_toList]
    omega
  have hj : sIx items.size items.size hi ≤ items.size := sIx_le _ _ (Nat.le_refl _) hi
  obtain ⟨os, hos, hcs, hds⟩ := id hs
  have hTs : s.TypeIs (.ref sl) "slice" := ⟨os, hos, hcs⟩
  unfold getItem
  try with_reducible refine wpAny_holding ?_
  first | refine wpAny_bind (wpAny_pure ?_) | skip
  refine wpAny_bind (wpAny_sequenceKey ht.typeIs (by decide) ?_)
  refine wpAny_bind (wpAny_callSpecial?_slot (name := Str.ofString "__getitem__") ht.typeIs PyProof.Rows.slot_tuple_getitem
    (wpAny_call_entry PyProof.Rows.slot_tuple_getitem ht.typeIs entry_tuple_getitem ?_ (args_tuple_getitem _ _)))
  show wpAny _ _ (Builtin.Tuple.tupleItemsOf (.ref t) >>= _) _ _ s
  refine wpAny_bind (tupleItemsOf_ ht ?_)
  refine wpAny_bind (wpAny_typeOf hTs ?_)
  rw [if_pos (by decide)]
  refine wpAny_bind (sliceApplied_gen hs pl pu ?_)
  have hno : ¬ ((((sIx items.size 0 lo : Nat) : Int) == 0 && (1 : Int) == 1 && (sIx items.size items.size hi - sIx items.size 0 lo) == items.size) = true) := by
    intro q
    rw [Bool.and_eq_true, Bool.and_eq_true] at q
    have q1 : ((sIx items.size 0 lo : Nat) : Int) = 0 := eq_of_beq q.1.1
    have q2 : sIx items.size items.size hi - sIx items.size 0 lo = items.size := eq_of_beq q.2
    exact hw ⟨by omega, by omega⟩
  show wpAny _ _ (if (((sIx items.size 0 lo : Nat) : Int) == 0 && (1 : Int) == 1 && (sIx items.size items.size hi - sIx items.size 0 lo) == items.size) = true then _ else _) _ _ s
  rw [if_neg hno, pick_gen]
  first
    | exact wpAny_bind (m := Builtin.Tuple.tupleExact _) (wpAny_newObj_type (wpAny_pure ⟨_, rfl, wpAny_pure h⟩) htake)
    | exact wpAny_bind (m := Builtin.Tuple.tupleExact _) (wpAny_newObj_type (wpAny_bind (wpAny_pure (wpAny_pure ⟨_, rfl, wpAny_pure h⟩))) htake)
    | exact wpAny_bind (wpAny_bind (m := Builtin.Tuple.tupleExact _) (wpAny_newObj_type (wpAny_pure (wpAny_pure ⟨_, rfl, wpAny_pure h⟩)) htake))
    | exact wpAny_bind (wpAny_bind (m := Builtin.Tuple.tupleExact _) (wpAny_newObj_type (wpAny_pure ⟨_, rfl, wpAny_pure h⟩) htake))
end
end HT
namespace L2
open PySem PySem.Spec PyProof.Rows
abbrev TO := St → Hp → (Option Int → Hp → Prop) → Prop
def PO (X : Cx) (e : Option Expr) (t : TO) : Prop :=
  ∀ (pins : List (Addr × Obj)) (s : Shared) (σ : St) (H : Hp) (Q : Option Int → Hp → Prop), Inv X pins σ H s → t σ H Q →
    wpAny (model X.prog X.w) X.A (evalPart e X.env) (fun u s' => ∃ o H', Inv X pins σ H' s' ∧ IsPart u o ∧ Q o H') X.xe s
def tNoPart : TO := fun _ H Q => Q none H
def tPart (t : TE) : TO := fun σ H Q => t σ H fun x H1 => ∃ i, x = .int i ∧ Q (some i) H1
section
variable {X : Cx} {e : Expr} {te : TE} {lo hi : Option Expr} {tl th : TO} {pos p2 : Pos}
theorem po_none : PO X none tNoPart := by
  intro pins s σ H Q I h
  rw [evalPart_none]
  exact wpAny_pure ⟨none, H, I, .none, h⟩
theorem po_some (h : PE X e te) : PO X (some e) (tPart te) := by
  intro pins s σ H Q I hw
  rw [evalPart_some]
  refine thn (h pins s σ H _ I hw) fun u s1 ⟨x, H1, I1, r1, q1⟩ => ?_
  obtain ⟨i, rfl, q⟩ := q1
  obtain ⟨t, rfl⟩ := r1
  exact ⟨some i, H1, I1, .int i t, q⟩
def SlR (X : Cx) (r : V → Option Int → Option Int → Hp → VK → Prop) : Prop :=
  ∀ (pins : List (Addr × Obj)) (s : Shared) (σ : St) (H : Hp) (x : V) (v vl vu : Value) (lo hi : Option Int) (sl : Addr) (Q : VK), Inv X pins σ H s → RelV x v → s.heap.IsSliceOf sl vl vu .none → IsPart vl lo → IsPart vu hi → r x lo hi H Q →
    ∃ T id, typeLookup (.type T) "__getitem__" = pure (some (.builtin id)) ∧ s.TypeIs v T ∧ wpAny (model X.prog X.w) X.A (getItem v (.ref sl)) (EP X pins σ Q) X.xe s
def tSl (r : V → Option Int → Option Int → Hp → VK → Prop) (te : TE) (tl th : TO) : TE := fun σ H Q => te σ H fun x H1 => tl σ H1 fun l H2 => th σ H2 fun u H3 => r x l u H3 Q
theorem pe_slice {r : V → Option Int → Option Int → Hp → VK → Prop} (hr : SlR X r) (he : PE X e te) (hl : PO X lo tl) (hu : PO X hi th) : PE X (.Subscript e (.Slice lo hi none p2) pos) (tSl r te tl th) := by
  intro pins s σ H Q I h
  refine Subscript_ (thn (he pins s σ H _ I h) fun v s1 ⟨x, H1, I1, r1, q1⟩ => ?_)
  refine wpAny_Slice (thn (hl pins s1 σ H1 _ I1 q1) fun vl s2 ⟨l, H2, I2, pl, q2⟩ => thn (hu pins s2 σ H2 _ I2 q2) fun vu s3 ⟨u, H3, I3, pu, q3⟩ => ?_)
  rw [evalPart_none]
  refine wpAny_pure ?_
  have I4 : Inv X pins σ H3 { s3 with heap := s3.heap.push { cls := .type "slice", data := .fields #[vl, vu, .none] } } := I3.kept (t' := s3.toks) fun b ob q => Heap.get?_push_of_some _ q
  obtain ⟨T, id, hT, ht, hg⟩ := hr pins { s3 with heap := s3.heap.push { cls := .type "slice", data := .fields #[vl, vu, .none] } } σ H3 x v vl vu l u s3.heap.objs.size Q I4 r1 (Heap.IsSliceOf.new ..) pl pu q3
  show wpAny (model X.prog X.w) X.A (subscriptTail e (.Slice lo hi none p2) v (.ref s3.heap.objs.size)) (EP X pins σ Q) X.xe { s3 with heap := s3.heap.push { cls := .type "slice", data := .fields #[vl, vu, .none] } }
  exact tail_any (ops := [.ref s3.heap.objs.size, v]) ht hT hg (by with_unfolding_all rfl)
def cutV (xs : List V) (lo hi : Option Int) : List V := (xs.drop (HT.sIx xs.length 0 lo)).take (HT.sIx xs.length xs.length hi - HT.sIx xs.length 0 lo)
theorem cutV_length (xs : List V) (lo hi : Option Int) : (cutV xs lo hi).length ≤ xs.length := by
  unfold cutV
  rw [List.length_take, List.length_drop]
  omega
def rSlT (K : PySem.W.Frag) : V → Option Int → Option Int → Hp → VK → Prop := fun x lo hi H Q => ∃ a xs, x = .ref a ∧ SqT K H a xs ∧
  ¬ (HT.sIx xs.length 0 lo = 0 ∧ HT.sIx xs.length xs.length hi = xs.length) ∧ ∀ p, H p = none → Q (.ref p) (upd H p (.tup (cutV xs lo hi)))
theorem sl_tup : SlR X (rSlT X.K) := by
  intro pins s σ H x v vl vu lo hi sl Q I rx hs pl pu h
  obtain ⟨a, xs, rfl, hx, hw, q⟩ := h
  cases rx
  obtain ⟨its, r, ht, hz⟩ := I.tuple hx
  have hlen : its.toArray.size = xs.length := by rw [List.size_toArray]; exact r.length.symm
  refine ⟨"tuple", _, PyProof.Rows.slot_tuple_getitem.lookup, ht.typeIs, ?_⟩
  refine HT.getItem_tuple_cut ht hs pl pu (by rw [hlen]; exact hw) ?_ (by rw [hlen]; exact hz)
  rw [hlen]
  refine ⟨.ref s.heap.objs.size, _, I.laid (t' := s.toks) (o := .tup (cutV xs lo hi)) (fun b ob q => Heap.get?_push_of_some _ q) (Nat.le_refl _) ?_, rfl, q _ (I.hok.fresh (Nat.le_refl _))⟩
  exact ⟨Nat.le_trans (cutV_length xs lo hi) hz, _, (r.drop (HT.sIx xs.length 0 lo)).take (HT.sIx xs.length xs.length hi - HT.sIx xs.length 0 lo), IsTup.new _ _⟩
def rCatT (K : PySem.W.Frag) : R2 := fun x y H Q => ∃ a b xs ys, x = .ref a ∧ y = .ref b ∧ SqT K H a xs ∧ SqT K H b ys ∧ xs ≠ [] ∧ xs.length + ys.length ≤ sizeLine ∧
  (ys = [] → Q (.ref a) H) ∧ (ys ≠ [] → ∀ p, H p = none → Q (.ref p) (upd H p (.tup (xs ++ ys))))
theorem Vals.nil_iff {xs : List V} {us : List Value} (r : Vals xs us) : us = [] ↔ xs = [] := by
  cases r with
  | nil => simp
  | cons _ _ => simp
theorem op_catT : OpR X (binaryOp .Add) (rCatT X.K) := by
  intro pins s σ H x y v u Q I rx ry h
  obtain ⟨a, b, xs, ys, rfl, rfl, ha, hb, hx, hz, q1, q2⟩ := h
  cases rx
  cases ry
  obtain ⟨its, r1, p1, _⟩ := I.tuple ha
  obtain ⟨its2, r2, p2, _⟩ := I.tuple hb
  refine HT.cat_tup p1 p2 (fun z => hx (r1.nil_iff.mp z)) (fun z => ⟨.ref a, H, I, rfl, q1 (r2.nil_iff.mp z)⟩) (fun z => ?_) (by rw [← r1.length, ← r2.length]; exact hz)
  refine ⟨.ref s.heap.objs.size, _, I.laid (t' := s.toks) (o := .tup (xs ++ ys)) (fun b ob q => Heap.get?_push_of_some _ q) (Nat.le_refl _) ?_, rfl, q2 (fun w => z (r2.nil_iff.mpr w)) _ (I.hok.fresh (Nat.le_refl _))⟩
  exact ⟨by rw [List.length_append]; exact hz, _, r1.append r2, IsTup.new _ _⟩
end
end L2
namespace L2
open PySem PySem.Spec PyProof.Rows
def ixN (n : Nat) (i : Int) : Option Nat := if 0 ≤ i then (if i < n then some i.toNat else none) else if -(n : Int) ≤ i then some (i + n).toNat else none
def atI {α : Type} (xs : List α) (i : Int) : Option α := (ixN xs.length i).bind fun j => xs[j]?
theorem ixN_seq {n : Nat} {i : Int} {j : Nat} (h : ixN n i = some j) : seqIndex? i n = some j ∧ j < n ∧ -(n : Int) ≤ i ∧ i < n := by
  unfold ixN at h
  by_cases h0 : 0 ≤ i
  · rw [if_pos h0] at h
    by_cases h1 : i < n
    · rw [if_pos h1] at h
      have e : i.toNat = j := Option.some.inj h
      exact ⟨by rw [seqIndex_of h0 h1, e], by omega, by omega, h1⟩
    · rw [if_neg h1] at h; cases h
  · rw [if_neg h0] at h
    by_cases h1 : -(n : Int) ≤ i
    · rw [if_pos h1] at h
      have e : (i + n).toNat = j := Option.some.inj h
      exact ⟨by rw [seqIndex_neg (by omega) h1, e], by omega, h1, by omega⟩
    · rw [if_neg h1] at h; cases h
theorem atI_get {α : Type} {xs : List α} {i : Int} {v : α} (h : atI xs i = some v) : ∃ j, seqIndex? i xs.length = some j ∧ xs[j]? = some v ∧ j < xs.length ∧ -(xs.length : Int) ≤ i ∧ i < xs.length := by
  unfold atI at h
  cases e : ixN xs.length i with
  | none => rw [e] at h; cases h
  | some j =>
    rw [e] at h
    obtain ⟨h1, h2, h3, h4⟩ := ixN_seq e
    exact ⟨j, h1, h, h2, h3, h4⟩
theorem atI_nat {α : Type} {xs : List α} {j : Nat} {v : α} (h : xs[j]? = some v) : atI xs (j : Int) = some v := by
  have hj : j < xs.length := (List.getElem?_eq_some_iff.mp h).1
  have e : ixN xs.length (j : Int) = some j := by
    unfold ixN
    rw [if_pos (by omega), if_pos (by omega)]; simp
  unfold atI; rw [e]; exact h
def PlainIx (b : Expr) : Prop := ∀ o i, subscripted b false o i = operate [o, i] (getItem o i)
def IxR (X : Cx) (r : R2) : Prop :=
  ∀ (value slice : Expr) (pins : List (Addr × Obj)) (s : Shared) (σ : St) (H : Hp) (x y : V) (v u : Value) (Q : VK), Inv X pins σ H s → RelV x v → RelV y u → r x y H Q →
    subscripted slice false v u = operate [v, u] (getItem v u) → wpAny (model X.prog X.w) X.A (subscriptTail value slice v u) (EP X pins σ Q) X.xe s
def MtR (X : Cx) (id : String) (r : V → List V → Hp → VK → Prop) : Prop :=
  ∀ (pins : List (Addr × Obj)) (s : Shared) (σ : St) (H : Hp) (x : V) (xs : List V) (v : Value) (us : List Value) (Q : VK), Inv X pins σ H s → RelV x v → Vals xs us → r x xs H Q →
    wpAny (model X.prog X.w) X.A (call (.builtin id) (v :: us)) (EP X pins σ Q) X.xe s
section
variable {X : Cx} {a b : Expr} {ta tb : TE} {pos : Pos}
theorem pe_ix {r : R2} (hr : IxR X r) (ha : PE X a ta) (hb : PE X b tb) (hs : PlainIx b) : PE X (.Subscript a b pos) (tOp r ta tb) := by
  intro pins s σ H Q I h
  exact Subscript_ (binT ha hb I h fun v u s2 x y H2 I2 rx ry q => hr a b pins s2 σ H2 x y v u Q I2 rx ry q (hs _ _))
def rIxL (K : PySem.W.Frag) : R2 := fun x y H Q => ∃ p xs i v, x = .ref p ∧ y = .int i ∧ SqL K H p xs ∧ atI xs i = some v ∧ Q v H
def rIxT (K : PySem.W.Frag) : R2 := fun x y H Q => ∃ p xs i v, x = .ref p ∧ y = .int i ∧ SqT K H p xs ∧ atI xs i = some v ∧ Q v H
def rIxS : R2 := fun x y H Q => ∃ z i c, x = .str z ∧ y = .int i ∧ z.length ≤ sizeLine ∧ atI z.cps.toList i = some c ∧ Q (.str ⟨#[c]⟩) H
theorem ix_list : IxR X (rIxL X.K) := by
  intro value slice pins s σ H x y v u Q I rx ry h hs
  obtain ⟨p, xs, i, z, rfl, rfl, hq, he, q⟩ := h
  cases rx
  obtain ⟨t, rfl⟩ := ry
  obtain ⟨its, r, pl, hz⟩ := I.list hq
  obtain ⟨j, h1, h2, h3, h4, h5⟩ := atI_get he
  obtain ⟨w, ew, rw'⟩ := r.get h2
  have hl := r.length
  have hn := line63
  have fin : EP X pins σ Q w s := ⟨z, H, I, rw', q⟩
  by_cases h0 : 0 ≤ i
  · have hj : i.toNat = j := by
      rw [seqIndex_of h0 h5] at h1
      exact Option.some.inj h1
    exact item_listR pl.isList h0 (by omega) (by rw [hj]; simpa using ew) fin hs
  · have hj : (i + (its.toArray.size : Int)).toNat = j := by
      rw [seqIndex_neg (by omega) h4] at h1
      rw [List.size_toArray, ← hl]
      exact Option.some.inj h1
    exact subscriptTail_builtinR (x := w) pl.isList.typeIs slot_list_getitem.lookup
      (wpAny_getItem_list_neg (Q := fun r s' => r = w ∧ EP X pins σ Q r s') pl.isList (by omega) (by rw [List.size_toArray] <;> omega) (by omega) (by rw [hj]; simpa using ew) ⟨rfl, fin⟩) hs
theorem ix_tup : IxR X (rIxT X.K) := by
  intro value slice pins s σ H x y v u Q I rx ry h hs
  obtain ⟨p, xs, i, z, rfl, rfl, hq, he, q⟩ := h
  cases rx
  obtain ⟨t, rfl⟩ := ry
  obtain ⟨its, r, pl, hz⟩ := I.tuple hq
  obtain ⟨j, h1, h2, h3, h4, h5⟩ := atI_get he
  obtain ⟨w, ew, rw'⟩ := r.get h2
  have hl := r.length
  have hn := line63
  have fin : EP X pins σ Q w s := ⟨z, H, I, rw', q⟩
  exact subscriptTail_builtinR (x := w) pl.typeIs slot_tuple_getitem.lookup
    (getItem_tuple (j := j) (Q := fun r s' => r = w ∧ EP X pins σ Q r s') pl (by omega) (by omega) (by rw [List.size_toArray, ← hl]; exact h1) (by simpa using ew) ⟨rfl, fin⟩) hs
theorem ix_str : IxR X rIxS := by
  intro value slice pins s σ H x y v u Q I rx ry h hs
  obtain ⟨z, i, c, rfl, rfl, hz, he, q⟩ := h
  obtain ⟨t, rfl⟩ := rx
  obtain ⟨t', rfl⟩ := ry
  obtain ⟨j, h1, h2, h3, h4, h5⟩ := atI_get he
  have hl : z.cps.toList.length = z.length := by simp [Str.length]
  rw [hl] at h1 h4 h5
  have hn := line63
  exact tail_any (typeIs_str s z t) slot_str_getitem.lookup (getItem_str (c := c) (by
    have e1 : decide (i < -(2 ^ 63 : Int)) = false := decide_eq_false (by omega)
    have e2 : decide (i ≥ 2 ^ 63) = false := decide_eq_false (by omega)
    rw [e1, e2, Bool.or_false]) (by rw [h1]; simpa using h2) ⟨.str ⟨#[c]⟩, H, I.tok _, ⟨_, rfl⟩, q⟩) hs
theorem mapSeq_set (its : List Value) (n j : Nat) (u : Value) : Obj.mapSeq (·.setIfInBounds j u) { cls := .type "list", data := .seq its.toArray n } = { cls := .type "list", data := .seq (its.set j u).toArray n } := by
  simp [Obj.mapSeq]
theorem Inv.lst {pins : List (Addr × Obj)} {σ : St} {H : Hp} {s : Shared} {p : Addr} {xs : List V} (I : Inv X pins σ H s) (h : H p = some (.lst xs)) :
    ∃ (its : List Value) (n : Nat), Vals xs its ∧ s.heap.get? p = some { cls := .type "list", data := .seq its.toArray n } ∧ xs.length ≤ sizeLine := by
  obtain ⟨z, its, n, r, e⟩ := I.hok p _ h
  exact ⟨its, n, r, e, z⟩
theorem Inv.lstUpd {pins : List (Addr × Obj)} {σ : St} {H : Hp} {s : Shared} {p : Addr} {xs ys : List V} {its its' : List Value} {n n' : Nat} {f : Obj → Obj} (I : Inv X pins σ H s) (h : H p = some (.lst xs))
    (ho : s.heap.get? p = some { cls := .type "list", data := .seq its.toArray n }) (hf : f { cls := .type "list", data := .seq its.toArray n } = { cls := .type "list", data := .seq its'.toArray n' }) (r : Vals ys its') (hz : ys.length ≤ sizeLine) (t : Nat) :
    Inv X pins σ (upd H p (.lst ys)) { s with heap := s.heap.update p f, toks := t } := by
  have e : (s.heap.update p f).get? p = some { cls := .type "list", data := .seq its'.toArray n' } := by
    rw [Heap.get?_update_self f ho (by rw [hf] <;> rfl), hf]
  refine I.write (x := p) (e := p) (by rw [h]; trivial) (.inl rfl) (fun b u hb q => (Heap.get?_update_other _ _ (Ne.symm hb)).trans q) ⟨_, e⟩ ?_
  exact ⟨hz, its', n', r, e⟩
def rSetL : V → V → V → Hp → (Hp → Prop) → Prop := fun o i v H Q => ∃ p xs k j, o = .ref p ∧ i = .int k ∧ H p = some (.lst xs) ∧ ixN xs.length k = some j ∧ Q (upd H p (.lst (xs.set j v)))
theorem set_list : PSet X rSetL := by
  intro pins s σ H o i v ov iv u Q I ro ri rv h
  obtain ⟨p, xs, k, j, rfl, rfl, hp, hj, q⟩ := h
  cases ro
  obtain ⟨t, rfl⟩ := ri
  obtain ⟨its, n, r, ho, hz⟩ := I.lst hp
  obtain ⟨h1, h2, h3, h4⟩ := ixN_seq hj
  have hl := r.length
  have hn := line63
  have I' : Inv X pins σ (upd H p (.lst (xs.set j v))) { s with heap := s.heap.update p (Obj.mapSeq (·.setIfInBounds j u)) } :=
    I.lstUpd hp ho (mapSeq_set its n j u) (r.set rv j) (by rw [List.length_set]; exact hz) s.toks
  by_cases h0 : 0 ≤ k
  · have hk : k.toNat = j := by
      rw [seqIndex_of h0 h4] at h1
      exact Option.some.inj h1
    exact PySem.W.ki_setAt ho h0 (by omega) (by rw [List.size_toArray, ← hl]; exact h4) (by rw [hk]; exact ⟨_, I', q⟩)
  · have hk : (k + (its.toArray.size : Int)).toNat = j := by
      rw [seqIndex_neg (by omega) h3] at h1
      rw [List.size_toArray, ← hl]
      exact Option.some.inj h1
    exact PySem.W.ki_setBack ho (by omega) (by rw [List.size_toArray, ← hl]; exact h3) (by omega) (by rw [hk]; exact ⟨_, I', q⟩)
theorem slice_bounds (lo hi : Option Int) (n : Nat) : (sliceBounds lo hi none n).1 = ((HT.sIx n 0 lo : Nat) : Int) ∧ (sliceBounds lo hi none n).2.1 = ((HT.sIx n n hi : Nat) : Int) ∧ (sliceBounds lo hi none n).2.2 = 1 := by
  refine ⟨?_, ?_, rfl⟩
  · cases lo with
    | none => simp [sliceBounds, HT.sIx]
    | some i =>
      simp only [sliceBounds, HT.sIx, Option.getD_none, show (1 : Int) > 0 by decide, if_true]
      by_cases h : i < 0
      · simp only [h, if_true] <;> omega
      · simp only [h, if_false] <;> omega
  · cases hi with
    | none => simp [sliceBounds, HT.sIx]
    | some i =>
      simp only [sliceBounds, HT.sIx, Option.getD_none, show (1 : Int) > 0 by decide, if_true]
      by_cases h : i < 0
      · simp only [h, if_true] <;> omega
      · simp only [h, if_false] <;> omega
theorem slicePick_cut (its : List Value) (lo hi : Option Int) : slicePick its.toArray lo hi none = ((its.drop (HT.sIx its.length 0 lo)).take (HT.sIx its.length its.length hi - HT.sIx its.length 0 lo)).toArray := by
  obtain ⟨h1, h2, h3⟩ := slice_bounds lo hi its.toArray.size
  unfold slicePick
  rw [h1, h2, h3]
  simp only [sliceRange_one, pick_run, List.size_toArray] <;> rfl
def rSlL (K : PySem.W.Frag) : V → Option Int → Option Int → Hp → VK → Prop := fun x lo hi H Q => ∃ a xs, x = .ref a ∧ SqL K H a xs ∧ ∀ p, H p = none → Q (.ref p) (upd H p (.lst (cutV xs lo hi)))
theorem sl_list : SlR X (rSlL X.K) := by
  intro pins s σ H x v vl vu lo hi sl Q I rx hs pl pu h
  obtain ⟨a, xs, rfl, hx, q⟩ := h
  cases rx
  obtain ⟨its, r, ht, hz⟩ := I.list hx
  have hlen := r.length
  refine ⟨"list", _, slot_list_getitem.lookup, ht.isList.typeIs, ?_⟩
  refine wpAny_getItem_list_slice ht.isList hs pl pu .none (by simp) ?_ (by rw [List.size_toArray] <;> omega)
  rw [slicePick_cut, ← hlen]
  refine ⟨.ref s.heap.objs.size, _, I.laid (t' := s.toks) (o := .lst (cutV xs lo hi)) (fun b ob q => Heap.get?_push_of_some _ q) (Nat.le_refl _) ?_, rfl, q _ (I.hok.fresh (Nat.le_refl _))⟩
  exact ⟨Nat.le_trans (cutV_length xs lo hi) hz, _, 0, (r.drop (HT.sIx xs.length 0 lo)).take (HT.sIx xs.length xs.length hi - HT.sIx xs.length 0 lo), Heap.get?_push_size _ rfl⟩
def flatV : V → Bool
  | .non => true
  | .bl _ => true
  | .int _ => true
  | .str _ => true
  | _ => false
def eqV : V → V → Bool
  | .non, .non => true
  | .bl a, .bl b => a == b
  | .bl a, .int b => (if a then 1 else 0) == b
  | .int a, .bl b => a == (if b then 1 else 0)
  | .int a, .int b => a == b
  | .str a, .str b => a == b
  | _, _ => false
theorem eqAt_V {A : Around} {s : Shared} {y x : V} {u v : Value} (ry : RelV y u) (rx : RelV x v) (fy : flatV y = true) (fx : flatV x = true) : SeqAt.EqAt A s u v (eqV y x) := by
  cases y with
  | non =>
    cases ry
    cases x with
    | non => cases rx; exact SeqAt.EqAt.same _
    | bl b => cases rx; exact SeqAt.EqAt.none_bool b
    | int b => obtain ⟨t, rfl⟩ := rx; exact SeqAt.EqAt.none_int b t
    | str b => obtain ⟨t, rfl⟩ := rx; exact SeqAt.EqAt.none_str b t
    | _ => exact absurd (show false = true from fx) Bool.false_ne_true
  | bl a =>
    cases ry
    cases x with
    | non => cases rx; exact SeqAt.EqAt.bool_none a
    | bl b => cases rx; exact SeqAt.EqAt.bool_bool a b
    | int b => obtain ⟨t, rfl⟩ := rx; exact SeqAt.EqAt.bool_int a b t
    | str b => obtain ⟨t, rfl⟩ := rx; exact SeqAt.EqAt.bool_str a b t
    | _ => exact absurd (show false = true from fx) Bool.false_ne_true
  | int a =>
    obtain ⟨t', rfl⟩ := ry
    cases x with
    | non => cases rx; exact SeqAt.EqAt.int_none a t'
    | bl b => cases rx; exact SeqAt.EqAt.int_bool a t' b
    | int b => obtain ⟨t, rfl⟩ := rx; exact SeqAt.EqAt.int_int a t' b t
    | str b => obtain ⟨t, rfl⟩ := rx; exact SeqAt.EqAt.int_str a t' b t
    | _ => exact absurd (show false = true from fx) Bool.false_ne_true
  | str a =>
    obtain ⟨t', rfl⟩ := ry
    cases x with
    | non => cases rx; exact SeqAt.EqAt.str_none a t'
    | bl b => cases rx; exact SeqAt.EqAt.str_bool a t' b
    | int b => obtain ⟨t, rfl⟩ := rx; exact SeqAt.EqAt.str_int a t' b t
    | str b => obtain ⟨t, rfl⟩ := rx; exact SeqAt.EqAt.str_str a t' b t
    | _ => exact absurd (show false = true from fx) Bool.false_ne_true
  | _ => exact absurd (show false = true from fy) Bool.false_ne_true
def eqU (x : V) (u : Value) : Bool := match u with
  | .none => eqV .non x
  | .bool b => eqV (.bl b) x
  | .int i _ => eqV (.int i) x
  | .str z _ => eqV (.str z) x
  | _ => false
theorem eqU_of {x y : V} {u : Value} (r : RelV y u) (f : flatV y = true) : eqU x u = eqV y x := by
  cases y with
  | non => cases r; rfl
  | bl b => cases r; rfl
  | int i => obtain ⟨t, rfl⟩ := r; rfl
  | str z => obtain ⟨t, rfl⟩ := r; rfl
  | _ => exact absurd (show false = true from f) Bool.false_ne_true
theorem any_eqU {x : V} : ∀ {xs : List V} {us : List Value}, Vals xs us → xs.all flatV = true → us.any (eqU x) = xs.any fun y => eqV y x
  | _, _, .nil, _ => rfl
  | y :: xs, u :: us, .cons r t, f => by
    rw [List.all_cons, Bool.and_eq_true] at f
    rw [List.any_cons, List.any_cons, eqU_of r f.1, any_eqU t f.2]
theorem mem_eqAt {A : Around} {s : Shared} {x : V} {v : Value} (rx : RelV x v) (fx : flatV x = true) : ∀ {xs : List V} {us : List Value}, Vals xs us → xs.all flatV = true → ∀ u ∈ us, SeqAt.EqAt A s u v (eqU x u)
  | _, _, .nil, _ => fun u hu => by cases hu
  | y :: xs, u :: us, .cons r t, f => fun u' hu => by
    rw [List.all_cons, Bool.and_eq_true] at f
    rcases List.mem_cons.mp hu with rfl | hu
    · rw [eqU_of r f.1]; exact eqAt_V r rx f.1 fx
    · exact mem_eqAt rx fx t f.2 u' hu
def inV (x : V) (xs : List V) : Bool := xs.any fun y => eqV y x
def rIn (K : PySem.W.Frag) (neg : Bool) : R2 := fun x y H Q => ∃ p xs, y = .ref p ∧ (SqL K H p xs ∨ SqT K H p xs) ∧ flatV x = true ∧ xs.all flatV = true ∧ Q (.bl (if neg then !inV x xs else inV x xs)) H
theorem op_in_seq : OpR X (compareOp .In) (rIn X.K false) := by
  intro pins s σ H x y v u Q I rx ry h
  obtain ⟨p, xs, rfl, hq, fx, fs, q⟩ := h
  cases ry
  rcases hq with hq | hq
  · obtain ⟨its, r, pl, hz⟩ := I.list hq
    refine SeqAt.in_listAt (eqU x) pl.isList (fun w hw => mem_eqAt rx fx r fs w (by simpa using hw)) ⟨.bl _, H, I, rfl, ?_⟩
    rw [show its.toArray.any (eqU x) = its.any (eqU x) by simp, any_eqU r fs]
    exact q
  · obtain ⟨its, r, pl, hz⟩ := I.tuple hq
    refine SeqAt.in_tupleAt (eqU x) pl (fun w hw => mem_eqAt rx fx r fs w (by simpa using hw)) ⟨.bl _, H, I, rfl, ?_⟩
    rw [show its.toArray.any (eqU x) = its.any (eqU x) by simp, any_eqU r fs]
    exact q
theorem op_notIn_seq : OpR X (compareOp .NotIn) (rIn X.K true) := by
  intro pins s σ H x y v u Q I rx ry h
  obtain ⟨p, xs, rfl, hq, fx, fs, q⟩ := h
  cases ry
  rcases hq with hq | hq
  · obtain ⟨its, r, pl, hz⟩ := I.list hq
    refine SeqAt.notIn_listAt (eqU x) pl.isList (fun w hw => mem_eqAt rx fx r fs w (by simpa using hw)) ⟨.bl _, H, I, rfl, ?_⟩
    rw [show its.toArray.any (eqU x) = its.any (eqU x) by simp, any_eqU r fs]
    exact q
  · obtain ⟨its, r, pl, hz⟩ := I.tuple hq
    refine SeqAt.notIn_tupleAt (eqU x) pl (fun w hw => mem_eqAt rx fx r fs w (by simpa using hw)) ⟨.bl _, H, I, rfl, ?_⟩
    rw [show its.toArray.any (eqU x) = its.any (eqU x) by simp, any_eqU r fs]
    exact q
theorem call_len_seq : CallR X (.builtin "len") (fun xs H Q => ∃ p ys, xs = [.ref p] ∧ (SqL X.K H p ys ∨ SqT X.K H p ys) ∧ Q (.int ys.length) H) := by
  intro pins s σ H xs us Q I r h
  obtain ⟨p, ys, rfl, hq, q⟩ := h
  obtain ⟨u, rfl, rx⟩ := vals1 r
  cases rx
  have hn := line63
  rcases hq with hq | hq
  · obtain ⟨its, r', pl, hz⟩ := I.list hq
    have hlen := r'.length
    exact Calls.call_len_list pl.isList (by simp only [List.size_toArray] <;> omega) ⟨.int ys.length, H, I.tok _, ⟨s.toks + 1, by rw [List.size_toArray, hlen]⟩, q⟩
  · obtain ⟨its, r', pl, hz⟩ := I.tuple hq
    have hlen := r'.length
    exact len_tuple pl (by simp only [List.size_toArray] <;> omega) ⟨.int ys.length, H, I.tok _, ⟨s.toks + 1, by rw [List.size_toArray, hlen]⟩, q⟩
theorem call_len_str : CallR X (.builtin "len") (fun xs H Q => ∃ z, xs = [.str z] ∧ z.length ≤ sizeLine ∧ Q (.int z.length) H) := by
  intro pins s σ H xs us Q I r h
  obtain ⟨z, rfl, hz, q⟩ := h
  obtain ⟨u, rfl, t, rfl⟩ := vals1 r
  have hn := line63
  exact len_str (by omega) ⟨.int z.length, H, I.tok _, ⟨_, rfl⟩, q⟩
theorem call_list_of : CallR X (.type "list") (fun xs H Q => ∃ p ys, xs = [.ref p] ∧ (SqL X.K H p ys ∨ SqT X.K H p ys) ∧ ∀ l, H l = none → Q (.ref l) (upd H l (.lst ys))) := by
  intro pins s σ H xs us Q I r h
  obtain ⟨p, ys, rfl, hq, q⟩ := h
  obtain ⟨u, rfl, rx⟩ := vals1 r
  cases rx
  have fin : ∀ (its : List Value), Vals ys its → ys.length ≤ sizeLine → ∀ (h' : Heap) (c' : Nat), (∀ b o', s.heap.get? b = some o' → h'.get? b = some o') →
      h'.get? s.heap.objs.size = some { cls := .type "list", dict := none, data := .seq its.toArray c', slots := #[] } → EP X pins σ Q (.ref s.heap.objs.size) { s with heap := h' } := fun its r' hz h' c' kp e =>
    ⟨.ref s.heap.objs.size, _, I.laid (t' := s.toks) kp (Nat.le_refl _) (show ObjOk X.prog X.w _ h' _ (.lst ys) from ⟨hz, its, c', r', e⟩), rfl, q _ (I.hok.fresh (Nat.le_refl _))⟩
  rcases hq with hq | hq
  · obtain ⟨its, r', pl, hz⟩ := I.list hq
    have hlen := r'.length
    obtain ⟨o, ho, hc, n, hd⟩ := pl.isList
    exact call_list_seq p (.inl rfl) ho hc hd (fun h' c' kp e => fin its r' hz h' c' kp e) (by simp only [List.size_toArray] <;> omega)
  · obtain ⟨its, r', pl, hz⟩ := I.tuple hq
    have hlen := r'.length
    obtain ⟨o, ho, hc, n, hd⟩ := pl
    exact call_list_seq p (.inr rfl) ho hc hd (fun h' c' kp e => fin its r' hz h' c' kp e) (by simp only [List.size_toArray] <;> omega)
def tyV (K : PySem.W.Frag) (T : String) (x : V) (H : Hp) : Prop := match x with
  | .str _ => T = "str"
  | .int _ => T = "int"
  | .ref p => (T = "list" ∧ ∃ xs, SqL K H p xs) ∨ (T = "tuple" ∧ ∃ o, K.lookup p = some o ∧ o.cls = .type "tuple" ∧ o.dict = none) ∨
      (T = "dict" ∧ ((∃ kvs, H p = some (.dK kvs)) ∨ ∃ kvs, H p = some (.dT kvs))) ∨ (T = "set" ∧ ∃ S n, H p = some (.set S n))
  | _ => False
theorem tyV_is {pins : List (Addr × Obj)} {σ : St} {H : Hp} {s : Shared} {T : String} {x : V} {v : Value} (I : Inv X pins σ H s) (r : RelV x v) (ty : tyV X.K T x H) :
    s.TypeIs v T ∧ ∀ a, v = .ref a → ∃ ob, s.heap.get? a = some ob ∧ ob.dict = none := by
  cases x with
  | str z =>
    obtain ⟨t, rfl⟩ := r
    cases (show T = "str" from ty)
    exact ⟨typeIs_str s z t, fun _ e => nomatch e⟩
  | int i =>
    obtain ⟨t, rfl⟩ := r
    cases (show T = "int" from ty)
    exact ⟨typeIs_int s i t, fun _ e => nomatch e⟩
  | ref p =>
    cases r
    rcases ty with ⟨rfl, xs, hq⟩ | ⟨rfl, o, hk, hc, hd⟩ | ⟨rfl, hk⟩ | ⟨rfl, S, n, hk⟩
    · obtain ⟨its, _, pl, _⟩ := I.list hq
      refine ⟨pl.isList.typeIs, fun a e => ?_⟩
      cases e
      obtain ⟨o, n, e, c, hd, _⟩ := pl
      exact ⟨o, e, hd⟩
    · refine ⟨⟨o, I.kIn p o hk, hc⟩, fun a e => ?_⟩
      cases e
      exact ⟨o, I.kIn _ o hk, hd⟩
    · have z : ∃ o, s.heap.get? p = some o ∧ o.ExactDict := by
        rcases hk with ⟨kvs, hk⟩ | ⟨kvs, hk⟩
        · obtain ⟨_, _, _, _, o, _, _, e, ex, _⟩ := I.hok p _ hk
          exact ⟨o, e, ex⟩
        · obtain ⟨_, _, _, _, o, _, _, e, ex, _⟩ := I.hok p _ hk
          exact ⟨o, e, ex⟩
      obtain ⟨o, e, ex⟩ := z
      refine ⟨⟨o, e, ex.1⟩, fun a e2 => ?_⟩
      cases e2
      exact ⟨o, e, ex.2.1⟩
    · obtain ⟨o, _, _, _, e, ex, _⟩ := I.hok p _ hk
      refine ⟨⟨o, e, ex.1⟩, fun a e2 => ?_⟩
      cases e2
      exact ⟨o, e, ex.2.1⟩
  | _ => exact False.elim ty
def tBM0 (K : PySem.W.Frag) (T : String) (r : V → List V → Hp → VK → Prop) (to : TE) : TE := fun σ H Q => to σ H fun x H1 => tyV K T x H1 ∧ r x [] H1 Q
def tBM (K : PySem.W.Frag) (T : String) (r : V → List V → Hp → VK → Prop) (to : TE) (t : TA) : TE := fun σ H Q => to σ H fun x H1 => tyV K T x H1 ∧ t σ H1 fun xs H2 => r x xs H2 Q
variable {o e : Expr} {es : List Expr} {to : TE} {t : TA} {name : Str} {apos cpos : Pos} {T id : String} {r : V → List V → Hp → VK → Prop}
theorem pe_bm0 (pa : PlainAttrs T) (slot : Slot T name id) (hty : typeOf (.builtin id) = pure (.type "method_descriptor")) (hm : MtR X id r) (ho : PE X o to)
    (hbase : attributeBase o name X.env (eval o X.env) = eval o X.env := by rfl) (hline : (apos.endLine == cpos.line) = true := by rfl) : PE X (.Call (.Attribute o name apos) [] [] cpos) (tBM0 X.K T r to) := by
  intro pins s σ H Q I h
  refine wpAny_Call_method0_late hbase hline (thn (ho pins s σ H _ I h) fun v s1 ⟨x, H1, I1, r1, ty, q1⟩ => ?_)
  obtain ⟨h1, h2⟩ := tyV_is I1 r1 ty
  exact ⟨T, id, pa, slot, hty, h1, h2, Calls.callWith_builtin rfl (PySem.evalArgs_none (hm pins s1 σ H1 x [] v [] Q I1 r1 .nil q1))⟩
theorem pe_bm (pa : PlainAttrs T) (slot : Slot T name id) (hty : typeOf (.builtin id) = pure (.type "method_descriptor")) (hm : MtR X id r) (ho : PE X o to) (ha : PA X (e :: es) t)
    (hbase : attributeBase o name X.env (eval o X.env) = eval o X.env := by rfl)
    (hfew : ((backTo cpos (starEach (e :: es) X.env)).all (fun x => !x.1) && (backToKw cpos (keywordEach [] X.env)).all (fun x => x.1.isSome)
      && decide ((e :: es).length + ([] : List Keyword).length + (if ([] : List Keyword).isEmpty then 0 else 1) < 30)) = true := by rfl)
    (hline : (apos.endLine == cpos.line) = true := by rfl) (hs : starEach (e :: es) X.env = (false, eval e X.env) :: starEach es X.env := by rfl) (hplain : (backTo cpos (starEach es X.env)).any (·.1) = false := by rfl) :
    PE X (.Call (.Attribute o name apos) (e :: es) [] cpos) (tBM X.K T r to t) := by
  intro pins s σ H Q I h
  refine wpAny_Call_method_late hbase hfew hline rfl (thn (ho pins s σ H _ I h) fun v s1 ⟨x, H1, I1, r1, ty, q1⟩ => ?_)
  obtain ⟨h1, h2⟩ := tyV_is I1 r1 ty
  refine ⟨T, id, pa, slot, hty, h1, h2, ?_⟩
  have hA := ha cpos pins s1 σ H1 _ I1 q1
  rw [hs] at hA ⊢
  refine Calls.callWith_builtin (by show (false || (backTo cpos (starEach es X.env)).any (·.1)) = false; rw [hplain] <;> rfl) (Calls.evalArgs_plain ?_)
  exact thn hA fun us s2 ⟨vs, H2, I2, r2, q2⟩ => hm pins s2 σ H2 x vs v us Q I2 r1 r2 q2
/- xs.append(e), list.index on a module's tuple .. are MtR facts of 06m -/
end
end L2
namespace L2
open PySem PySem.Spec PyProof.Rows
def MtM (X : Cx) (id : String) (r : V → List V → Hp → VK → Prop) : Prop :=
  ∀ (pins : List (Addr × Obj)) (s : Shared) (σ : St) (H : Hp) (x : V) (xs : List V) (v : Value) (us : List Value) (Q : VK), Inv X pins σ H s → RelV x v → Vals xs us → r x xs H Q →
    wpAny (model X.prog X.w) X.A (call (.builtin id) (v :: us)) (EP X pins σ Q) X.xe s
theorem Vals.one : ∀ {x : V} {us : List Value}, Vals [x] us → ∃ u, us = [u] ∧ RelV x u
  | _, _, .cons r .nil => ⟨_, rfl, r⟩
theorem Vals.two : ∀ {x y : V} {us : List Value}, Vals [x, y] us → ∃ u v, us = [u, v] ∧ RelV x u ∧ RelV y v
  | _, _, _, .cons r (.cons q .nil) => ⟨_, _, rfl, r, q⟩
section
variable {X : Cx} {pins : List (Addr × Obj)} {σ : St} {H : Hp} {s : Shared} {l b : Addr} {xs ys zs : List V}
theorem Inv.lset {its its' : List Value} {n : Nat} {f : Array Value → Array Value} {t' : Nat} (I : Inv X pins σ H s) (hH : H l = some (.lst xs))
    (e : s.heap.get? l = some { cls := .type "list", data := .seq its.toArray n }) (hf : f its.toArray = its'.toArray) (hv : Vals ys its') (hz : ys.length ≤ sizeLine) :
    Inv X pins σ (upd H l (.lst ys)) { s with heap := s.heap.update l (Obj.mapSeq f), toks := t' } := by
  have q := PySem.IsL.update e f
  rw [hf] at q
  refine I.write (x := l) (e := l) (by rw [hH]; exact trivial) (.inl rfl) (fun b' u hb hu => (Heap.get?_update_other s.heap (Obj.mapSeq f) (Ne.symm hb)).trans hu) ⟨_, q⟩ ?_
  exact ⟨hz, its', _, hv, q⟩
theorem Inv.lnew {its : List Value} {t' : Nat} (I : Inv X pins σ H s) (hv : Vals ys its) (hz : ys.length ≤ sizeLine) :
    Inv X pins σ (upd H s.heap.objs.size (.lst ys)) { s with heap := s.heap.push { cls := .type "list", data := .seq its.toArray }, toks := t' } :=
  I.laid (fun _ _ q => Heap.get?_push_of_some _ q) (Nat.le_refl _) ⟨hz, its, 0, hv, Heap.get?_push_size _ rfl⟩
theorem Inv.fresh (I : Inv X pins σ H s) : H s.heap.objs.size = none := I.hok.fresh (Nat.le_refl _)
theorem Inv.lstM (I : Inv X pins σ H s) (hH : H l = some (.lst xs)) : xs.length ≤ sizeLine ∧ ∃ (its : List Value) (n : Nat), Vals xs its ∧ xs.length = its.length ∧ s.heap.get? l = some { cls := .type "list", data := .seq its.toArray n } := by
  obtain ⟨z, its, n, r, e⟩ := I.hok l _ hH
  exact ⟨z, its, n, r, r.length, e⟩
end
section
variable {X : Cx}
def rAppend : V → List V → Hp → VK → Prop := fun x vs H Q => ∃ l xs y, x = .ref l ∧ vs = [y] ∧ H l = some (.lst xs) ∧ xs.length < sizeLine ∧ Q .non (upd H l (.lst (xs ++ [y])))
theorem mt_append : MtM X "list.append" rAppend := by
  intro pins s σ H x vs v us Q I rx rv h
  obtain ⟨l, xs, y, rfl, rfl, hH, hz, q⟩ := h
  cases rx
  obtain ⟨u, rfl, ru⟩ := rv.one
  obtain ⟨z, its, n, r, hl, e⟩ := I.lstM hH
  refine call_meets F.slot_list_append ⟨_, e, rfl⟩ F.entry_list_append (F.args_list_append_2 _ _) (PySem.list_append l its.toArray n u (by rw [List.size_toArray]; omega)) ⟨e, ?_⟩
  refine ⟨.non, _, I.lset (its' := its ++ [u]) hH e (by simp) (r.append (.cons ru .nil)) ?_, rfl, q⟩
  rw [List.length_append, List.length_singleton]
  omega
def rCat : R2 := fun x y H Q => ∃ l b xs zs, x = .ref l ∧ y = .ref b ∧ H l = some (.lst xs) ∧ H b = some (.lst zs) ∧ xs.length + zs.length ≤ sizeLine ∧ ∀ p, H p = none → Q (.ref p) (upd H p (.lst (xs ++ zs)))
theorem op_cat : OpR X (binaryOp .Add) rCat := by
  intro pins s σ H x y v u Q I rx ry h
  obtain ⟨l, b, xs, zs, rfl, rfl, hH, hB, hz, q⟩ := h
  cases rx
  cases ry
  obtain ⟨z, its, n, r, hl, e⟩ := I.lstM hH
  obtain ⟨z2, its2, n2, r2, hl2, e2⟩ := I.lstM hB
  refine PySem.P.add_list e e2 ?_ (by rw [List.size_toArray, List.size_toArray]; omega)
  have ea : its.toArray ++ its2.toArray = (its ++ its2).toArray := by simp
  rw [ea]
  exact ⟨.ref _, _, I.lnew (t' := s.toks) (r.append r2) (by rw [List.length_append]; omega), rfl, q _ I.fresh⟩
end
section
variable {prog : Program} {w : World} {A : Around} {E : Value → Shared → Prop} {s : Shared}
set_option maxRecDepth 100000 in
end
section
variable {X : Cx}
end
end L2
namespace Att
open PySem PySem.W PySem.Calls PyProof.Rows
theorem ints_of_wellAll {P : Params} {h : Heap} : ∀ (ns : List Int) (vs : List Value), WellAll P h vs (ns.map WData.int) → IntsAre vs ns := by
  intro ns
  induction ns with
  | nil =>
    intro vs w
    rw [List.map_nil] at w
    cases w
    exact .nil
  | cons n ns ih =>
    intro vs w
    rw [List.map_cons] at w
    cases w with
    | cons a b =>
      cases a
      exact .cons _ _ (ih _ b)
theorem script_of {l : OpenLaw} {n : Nat} (hn : l.most = some n) {P : Params} {h : Heap} {args : List WData} {vals : List Value}
    (hpre : l.row.toRowW.claim.pre args = true) (hwl : WellAll P h vals args) :
    ∃ a vs ns, vals = [Value.ref a] ∧ args = [WData.list (ns.map WData.int)] ∧ h.get? a = some { cls := .type "list", data := .seq vs.toArray } ∧ IntsAre vs ns ∧ ns.length ≤ n := by
  have hsh : WShape.hasAll [] args [.list .int] = true := (pre_splitW hpre).1
  have hc : l.pre.holds [] { args := args } = true := (pre_splitW hpre).2
  obtain ⟨d, r, rfl, h1, h2⟩ := hasAllW_cons hsh
  obtain rfl := hasAllW_nil h2
  obtain ⟨xs, rfl, h3⟩ := hasW_list h1
  obtain ⟨ns, rfl⟩ := items_int h3
  have hlen : ns.length ≤ n := by
    unfold OpenLaw.pre at hc
    have h4 : (WTm.not (.lt (.lit (.int (n : Int))) (.len (.arg 0)))).holds [] { args := [.list (ns.map .int)] } = true := by
      have h4 := (holds_andW hc).1
      rw [hn] at h4
      exact h4
    have h5 := condW_of h4 (w_not (w_lt w_lit (w_len_list (w_arg rfl))))
    rw [List.length_map] at h5
    refine Nat.le_of_not_lt fun q => ?_
    have q' : (n : Int) < ((ns.length : Nat) : Int) := by omega
    first
      | (rw [decide_eq_true q'] at h5; exact absurd h5 (by decide))
      | (simp at h5; omega)
  cases hwl with
  | cons w1 w2 =>
    cases w2
    cases w1 with
    | list ho hall => exact ⟨_, _, ns, rfl, rfl, ho, ints_of_wellAll ns _ hall, hlen⟩
theorem post_true (l : OpenLaw) (args : List WData) : l.row.toRowW.claim.post args (.bool true) args = true :=
  postW_of (r := l.row.toRowW) (X := (true == true))
    (show WShape.has [] (.bool true) .bool = true by first | rfl | decide | simp [WShape.has, WShape.arms, WShape.armsAll])
    (show (WTm.eq .res (.lit (.bool true))).value [] { args := args, res := some (.bool true), after := args } = some (.bool (true == true)) from w_eq_bool (w_res rfl) w_lit) rfl
theorem attach_call {l : OpenLaw} {n : Nat} {q : Program} {loose : List Str} {XP : (Str → Option Value) → Heap → Prop} {YP : World → Heap → Prop} {d : DefRec}
    (hn : l.most = some n) (hdf : d.params.defaults = [])
    (call : ∀ (w : World) (s₀ s₁ : Shared) (mg mb : Str → Option Value) (fa : Addr) (o : Obj) (pm cd doc : Value) (a : Addr) (vs : List Value) (ns : List Int),
      Ground q loose [] XP w s₀ mg mb s₁.heap → YP w s₁.heap →
      s₁.heap.get? fa = some o → o.data = .func (docDef d.name d.params d.body d.scope pm cd doc) → s₁.heap.CodeRec cd d.name → mg d.name = some (.ref fa) →
      s₁.heap.get? a = some { cls := .type "list", data := .seq vs.toArray } → IntsAre vs ns → ns.length ≤ n → s₁.gens = #[] →
      codeAny (model l.prog w) callerA (.call (.ref fa) ⟨[.ref a], []⟩) (fun r s' => r = .ok (.ret (.bool true)) ∧ OldK s₁.heap s'.heap ∧ s'.os = s₁.os ∧ AllBare s'.gens) s₁) :
    WalkO q loose XP YP l.row.toRowW d [] (fun f vs => PySem.call f vs) := by
  intro w s₀ s₁ mg mb G Y fa o pm cd doc dV kV ho hd hcd hD hmg hg args vals as hpre hlay hrd hwl hlo
  obtain rfl : dV = .none := Dflts.none hD hdf
  obtain rfl : kV = .none := Dflts.noKw hD
  obtain ⟨a, vs, ns, rfl, rfl, hobj, hints, hlen⟩ := script_of hn hpre hwl
  refine enter_call (codeAny_mono (call w s₀ s₁ mg mb fa o pm cd doc a vs ns G Y ho (fd_plain hd) hcd hmg hobj hints hlen hg) fun r s' hq => ?_)
  obtain ⟨rfl, h2, h3, h4⟩ := hq
  exact ⟨.inl ⟨.bool true, .bool true, [], rfl, fun _ => rfl, .bool true, post_true l _, fun _ => ⟨List.Pairwise.nil, fun _ hm => (nomatch hm)⟩⟩, h2, h3, h4⟩
section
variable {prog : Program} {w : World} {A : Around} {E : Value → Shared → Prop} {s : Shared} {K : Frag}
end
end Att
namespace L2
open PySem PySem.Spec PyProof.Rows
theorem vals_ints : ∀ {vs : List Value} {ns : List Int}, IntsAre vs ns → Vals (ns.map V.int) vs
  | _, _, .nil => .nil
  | _, _, .cons n t h => .cons ⟨t, rfl⟩ (vals_ints h)
def Only (H : Hp) : Prop := ∀ b, H b = none ∨ ∃ o xs, H b = some (.frz o (.lst xs))
theorem law_call {P : Program} {w : World} {K : PySem.W.Frag} {mg mb : Str → Option Value} {CX : CXT} {k : Nat} {fa a : Addr} {fd : FuncData} {x : Str} {sp : Sp} {s₁ : Shared} {vs : List Value} {ns : List Int}
    (KX : K.In s₁.heap) (hns : s₁.heap.Ns mainGlobals mg) (hb : s₁.heap.Ns builtinsNs mb) (hbb : ∀ x : Str, x ≠ "__name__" → mb x = bootBuiltins x) (hlim : s₁.heap.NoLimit) (hg : s₁.gens = #[])
    (ha : s₁.heap.get? a = some { cls := .type "list", data := .seq vs.toArray }) (hi : IntsAre vs ns) (hl : ns.length ≤ sizeLine) (hr : Room k callerA)
    (F : ∀ base : Heap, K.In base → base.Ns mainGlobals mg → FnOk P w K mg base CX k fa fd [x] sp) (hbind : ∀ (s : Shared) (u : Value), BindsTo s fd ⟨[u], []⟩ [(x, u)])
    (hsp : ∀ H : Hp, Only H → SqL K H a (ns.map V.int) → sp [.ref a] H (fun v _ => v = .bl true) fun _ _ _ => False)
    (hCX : ∀ H e s', CX [] H s₁ (fun _ _ _ => False) e s' → False) :
    codeAny (model P w) callerA (.call (.ref fa) ⟨[.ref a], []⟩) (fun r s' => r = .ok (.ret (.bool true)) ∧ OldK s₁.heap s'.heap ∧ s'.os = s₁.os ∧ AllBare s'.gens) s₁ := by
  have rv := vals_ints hi
  have lenV := hi.length
  have core : ∀ H : Hp, Only H → SqL K H a (ns.map V.int) → HOk P w H s₁.heap → (∀ b, H b ≠ none → b = a) → (H a ≠ none → K.lookup a = none) →
      codeAny (model P w) callerA (.call (.ref fa) ⟨[.ref a], []⟩) (fun r s' => r = .ok (.ret (.bool true)) ∧ OldK s₁.heap s'.heap ∧ s'.os = s₁.os ∧ AllBare s'.gens) s₁ := by
    intro H hO hS hok hA hK
    have base_of : ∀ {b : Addr} {o : Obj}, s₁.heap.get? b = some o → H b = none → (hidT s₁.heap H).get? b = some o := fun e n => hidT_get e n
    have noA : ∀ {b : Addr} {o : Obj} {es : Array DictEntry} {ep : Nat}, s₁.heap.get? b = some o → o.data = .dict es ep → H b = none := fun {b o es ep} e d => by
      cases q : H b with
      | none => rfl
      | some u =>
        have e' : b = a := hA b (by rw [q]; simp)
        subst e'
        rw [ha] at e; cases e
        have d' : Data.seq vs.toArray _ = Data.dict es ep := d
        cases d'
    have nsK : ∀ {b : Addr} {m : Str → Option Value}, s₁.heap.Ns b m → (hidT s₁.heap H).Ns b m := fun {b m} ⟨o, es, ep, e, d, r⟩ => ⟨o, es, ep, base_of e (noA e d), d, r⟩
    have hKb : K.In (hidT s₁.heap H) := fun b o e => base_of (KX b o e) (by
      cases q : H b with
      | none => rfl
      | some u =>
        have e' : b = a := hA b (by rw [q]; simp)
        subst e'
        rw [hK (by rw [q]; simp)] at e; cases e)
    have hM : Mod K mg (hidT s₁.heap H) := ⟨hKb, nsK hns, ⟨mb, nsK hb, hbb⟩, let ⟨mc, h1, h2⟩ := hlim; ⟨mc, nsK h1, h2⟩⟩
    have e0 : Env0 P w K mg (hidT s₁.heap H) callerA [] s₁ H := ⟨rfl, hM, fun b o e => of_hidT e, Nat.le_of_eq (hidT_size _ _), trivial, fun b hb => absurd (show b ∈ ([] : List Addr) from hb) (by simp), hok, .of_eq hg⟩
    refine codeAny_mono ((F _ hKb (nsK hns)).run callerA [] s₁ H ⟨[.ref a], []⟩ [.ref a] [.ref a] _ _ hr e0 (hbind s₁ (.ref a)) (.cons rfl .nil) (hsp H hO hS)) fun r s' h => ?_
    cases r with
    | error e => exact (hCX H e s' h).elim
    | ok fl =>
      cases fl with
      | next => exact False.elim h
      | brk => exact False.elim h
      | cont => exact False.elim h
      | ret u =>
        obtain ⟨v, H', os, bare, un, hok', r', q⟩ := h
        have q' : v = .bl true := q
        subst q'
        obtain rfl : u = Value.bool true := r'
        refine ⟨rfl, OldK.of_keep fun b o e => ?_, os, bare⟩
        cases q : H b with
        | none => exact un.keep b o e q (by intro z; exact absurd (show b ∈ ([] : List Addr) from z) (by simp)) (by simp)
        | some u =>
          rcases hO b with z | ⟨ob, xs, z⟩
          · rw [q] at z; cases z
          · have z2 := un.frzs b ob _ z
            obtain ⟨e1, _⟩ := hok b _ z
            obtain ⟨e2, _⟩ := hok' b _ z2
            rw [e] at e1; cases e1
            exact e2
  cases hk : K.lookup a with
  | some o =>
    have e := KX a o hk
    rw [ha] at e
    cases e
    refine core (fun _ => none) (fun _ => .inl rfl) (.inr ⟨_, vs.toArray, _, hk, rfl, rfl, rfl, by rw [List.size_toArray, lenV]; exact hl, by simpa using rv⟩) (fun b u z => by have z' : (none : Option HO) = some u := z; cases z') (fun b z => absurd rfl z) fun z => absurd rfl z
  | none =>
    refine core (fun b => if b = a then some (.frz { cls := .type "list", data := .seq vs.toArray } (.lst (ns.map V.int))) else none) (fun b => ?_) (.inl (.inr ⟨{ cls := .type "list", data := .seq vs.toArray }, if_pos rfl⟩)) (fun b u z => ?_) (fun b z => ?_) fun _ => hk
    · by_cases hb : b = a
      · exact .inr ⟨_, _, if_pos hb⟩
      · exact .inl (if_neg hb)
    · by_cases hb : b = a
      · have z' := (if_pos hb).symm.trans z
        cases z'
        subst hb
        exact ⟨ha, by rw [List.length_map]; exact hl, vs, _, rv, ha⟩
      · have z' := (if_neg hb).symm.trans z
        cases z'
    · by_cases hb : b = a
      · exact hb
      · exact absurd (if_neg hb) z
end L2
namespace L2
open PySem PySem.Spec PyProof.Rows
theorem walk_of {l : PySem.W.OpenLaw} {n k : Nat} {q : Program} {loose : List Str} {XP : (Str → Option Value) → Heap → Prop} {YP : World → Heap → Prop} {d : DefRec} {K : Params → PySem.W.Frag} {CX : World → CXT} {sp : World → Sp} {x : Str}
    (hn : l.most = some n) (hn2 : n ≤ sizeLine) (hdf : d.params.defaults = []) (hr : Room k callerA)
    (hY : ∀ (w : World) (h : Heap), YP w h → (K w.params).In h)
    (F : ∀ (w : World) (mg : Str → Option Value) (fa : Addr) (h : Heap), (K w.params).In h → h.Ns mainGlobals mg → mg d.name = some (.ref fa) →
      ∃ fd : FuncData, (∀ (s : Shared) (u : Value), BindsTo s fd ⟨[u], []⟩ [(x, u)]) ∧
        ∀ base : Heap, (K w.params).In base → base.Ns mainGlobals mg → FnOk l.prog w (K w.params) mg base (CX w) k fa fd [x] (sp w))
    (hsp : ∀ (w : World) (H : Hp) (a : Addr) (ns : List Int), ns.length ≤ n → Only H → SqL (K w.params) H a (ns.map V.int) → sp w [.ref a] H (fun v _ => v = .bl true) fun _ _ _ => False)
    (hCX : ∀ (w : World) (H : Hp) (s : Shared) (e : Value) (s' : Shared), CX w [] H s (fun _ _ _ => False) e s' → False) :
    PySem.W.WalkO q loose XP YP l.row.toRowW d [] (fun f vs => PySem.call f vs) := by
  refine Att.attach_call hn hdf fun w s₀ s₁ mg mb fa o pm cd doc a vs ns G Y ho hd hcd hmg hobj hints hlen hg => ?_
  have KX := hY w _ Y
  obtain ⟨fd, hb, hF⟩ := F w mg fa _ KX G.T.g hmg
  exact law_call KX G.T.g G.T.b G.T.builtins G.T.nolimit hg hobj hints (Nat.le_trans hlen hn2) hr hF hb (fun H hO hS => hsp w H a ns hlen hO hS) fun H e s' => hCX w H s₁ e s'
end L2
namespace L2
open PySem PySem.Spec PyProof.Rows
def defArgs (s : Stmt) : Arguments := match s with
  | .FunctionDef _ a _ _ _ _ _ _ _ _ => a
  | _ => { posonlyargs := [], args := [], vararg := none, kwonlyargs := [], kw_defaults := [], kwarg := none, defaults := [] }
def defBody (s : Stmt) : List Stmt := match s with
  | .FunctionDef _ _ b _ _ _ _ _ _ _ => b
  | _ => []
def defScope (s : Stmt) : Scope := match s with
  | .FunctionDef _ _ _ _ _ _ sc _ _ _ => sc
  | _ => { kind := .function, names := [], isGenerator := false, isCoroutine := false }
abbrev CX0 : CXT := fun _ _ _ _ _ _ => False
abbrev E0 : XK := fun _ _ _ => False
theorem pass0 {X : Cx} : Passes CX0 X E0 := fun _ _ _ _ _ _ _ h => h.elim
structure Fun (K : PySem.W.Frag) (x qual : Str) (st : Stmt) (f : Addr) (fd : FuncData) : Prop where
  ex : ∃ (oc : Value) (od : Option Addr) (kV doc pm : Value) (an : Option Addr) (cdv ct : Value) (osl : Array (Option Value)),
    fd = PySem.W.fnOf x qual (defArgs st) (defBody st) (defScope st) .none kV doc pm an cdv ct ∧ K.lookup f = some ⟨oc, od, .func fd, osl⟩ ∧ PySem.W.codeIn K cdv qual = true
  kp : PySem.W.keepIn K (.ref f) = true
section
variable {P : Program} {w : World} {K : PySem.W.Frag} {mg : Str → Option Value} {base : Heap}
theorem Fun.ok {x qual : Str} {st : Stmt} {f : Addr} {fd : FuncData} {N ps : List Str} {k : Nat} {sp : Sp} (F : Fun K x qual st f fd) (S : FnScope N ps (defScope st)) (len : ∀ vs H Q E, sp vs H Q E → vs.length = ps.length)
    (hbody : ∀ (cdv : Value) (A : Around) (outer : List Env) (s : Shared) (H : Hp) (vs : List V) (Q : VK) (E : XK), Room k (A.deeper (envOfC qual (defScope st) s.heap.objs.size f cdv)) → sp vs H Q E →
      ∃ t, PSs (cxOf CX0 P w K mg base N qual (defScope st) f cdv A outer s H E).nox (defBody st) t ∧ t { nx := fun _ H' => Q .non H', rt := Q } (start N vs) H) : FnOk P w K mg base CX0 (k + 1) f fd ps sp := by
  obtain ⟨oc, od, kV, doc, pm, an, cdv, ct, osl, rfl, lk, hcd⟩ := F.ex
  refine fn_of lk hcd S len fun A outer s H vs Q E hr hsp => ?_
  obtain ⟨t, h, q⟩ := hbody cdv A outer s H vs Q E hr hsp
  exact ⟨t, h.nox, q⟩
theorem Fun.binds {x qual : Str} {st : Stmt} {f : Addr} {fd : FuncData} {ps : List Str} (F : Fun K x qual st f fd)
    (h : ∀ (kV doc pm : Value) (an : Option Addr) (cdv ct : Value) (us : List Value), us.length = ps.length → bindArgs (PySem.W.fnOf x qual (defArgs st) (defBody st) (defScope st) .none kV doc pm an cdv ct) ⟨us, []⟩ = pure (ps.zip us)) : Binds K fd ps [] := by
  obtain ⟨oc, od, kV, doc, pm, an, cdv, ct, osl, rfl, lk, hcd⟩ := F.ex
  exact .all (h kV doc pm an cdv ct)
theorem fun_mk {x qual : Str} {st : Stmt} {f : Addr} {oc : Value} {od an : Option Addr} {osl : Array (Option Value)} {kV doc pm cdv ct : Value} (l : K.lookup f = some ⟨oc, od, .func (PySem.W.fnOf x qual (defArgs st) (defBody st) (defScope st) .none kV doc pm an cdv ct), osl⟩)
    (c : PySem.W.codeIn K cdv qual = true) (k : PySem.W.keepIn K (.ref f) = true) : Fun K x qual st f (PySem.W.fnOf x qual (defArgs st) (defBody st) (defScope st) .none kV doc pm an cdv ct) := ⟨⟨oc, od, kV, doc, pm, an, cdv, ct, osl, rfl, l, c⟩, k⟩
end
theorem small1000 {n : Nat} (h : n ≤ 1000) : n < sizeLine := Nat.lt_of_le_of_lt h (by decide)
section
variable {X : Cx}
theorem pv (i : Nat) {x : Str} {pos : Pos} (hN : X.N[i]? = some x := by rfl) (hv : Vis X.env.scope x := by first | exact Or.inl rfl | exact Or.inr (Or.inl rfl) | exact Or.inr (Or.inr rfl)) (hd : (x == ("__debug__" : Str)) = false := by decide)
    (hcd : (x == ("__classdict__" : Str)) = false := by decide) : PE X (.Name x pos) (tVar i) := pe_var hN hv hd hcd
end
theorem iteF {A B : Prop} (h : B) : if false = true then A else B := by
  rw [if_neg Bool.false_ne_true]
  exact h
theorem iteT {A B : Prop} (h : A) : if true = true then A else B := by
  rw [if_pos rfl]
  exact h
theorem ite2 {c A B : Prop} [Decidable c] (h1 : c → A) (h2 : ¬ c → B) : if c then A else B := by
  by_cases h : c
  · rw [if_pos h]
    exact h1 h
  · rw [if_neg h]
    exact h2 h
def Same (H H' : Hp) : Prop := ∀ b o, H b = some o → H' b = some o
theorem Same.refl (H : Hp) : Same H H := fun _ _ h => h
theorem Same.trans {H H1 H2 : Hp} (a : Same H H1) (b : Same H1 H2) : Same H H2 := fun c o h => b c o (a c o h)
theorem Same.seq {K : PySem.W.Frag} {H H' : Hp} {a : Addr} {xs : List V} (e : Same H H') (h : SqL K H a xs) : SqL K H' a xs := by
  rcases h with (h | ⟨o, h⟩) | h
  · exact .inl (.inl (e _ _ h))
  · exact .inl (.inr ⟨o, e _ _ h⟩)
  · exact .inr h
end L2
set_option maxHeartbeats 4000000
namespace L2
open PySem PySem.Spec PyProof.Rows
theorem same_new {H : Hp} {p : Addr} (h : H p = none) (o : HO) : Same H (upd H p o) := fun b u q => by rw [upd_ne (ne_of_none q h)]; exact q
def tMid (t u : TS) : TS := fun D σ H => ∃ M : St → Hp → Prop, t { D with nx := M } σ H ∧ ∀ σ' H', M σ' H' → u D σ' H'
theorem pss_mid {X : Cx} {st : Stmt} {rest : List Stmt} {t u : TS} (h1 : PS X st t) (h2 : PSs X rest u) : PSs X (st :: rest) (tMid t u) := by
 intro pins s σ H D I ⟨M, h, hM⟩
 refine wpAny_execs_cons (thn (h1 pins s σ H { D with nx := M } I h) fun f s1 q => ?_)
 cases f with
 | next =>
  obtain ⟨σ', H', I', q⟩ := q
  exact h2 pins s1 σ' H' D I' (hM _ _ q)
 | ret v => exact q
 | brk => exact q
 | cont => exact q
def strOf : Expr → Option Str
 | .Constant (.str x) _ _ => some x
 | _ => none
def strsOf : List Expr → Option (List Str)
 | [] => some []
 | e :: r => (strOf e).bind fun x => (strsOf r).map fun xs => x :: xs
def tStrs (xs : List Str) : TA := fun _ H Q => Q (xs.map V.str) H
theorem pa_strs {X : Cx} : ∀ {es : List Expr} (xs : List Str), strsOf es = some xs → PA X es (tStrs xs)
 | [], xs, h => by
  cases h
  exact pa_nil
 | e :: r, xs, h => by
  cases he : strOf e with
  | none => rw [strsOf, he] at h; cases h
  | some x =>
   cases hr : strsOf r with
   | none => rw [strsOf, he, hr] at h; cases h
   | some ys =>
    rw [strsOf, he, hr] at h
    cases h
    have hc : ∃ k p, e = .Constant (.str x) k p := by
     unfold strOf at he
     split at he
     ·cases he; exact ⟨_, _, rfl⟩
     ·cases he
    obtain ⟨k, p, rfl⟩ := hc
    intro pos pins s σ H Q I q
    have z : PA X (.Constant (.str x) k p :: r) (tCons (tC (.str x)) (tStrs ys)) := pa_cons pe_str (pa_strs ys hr)
    exact z pos pins s σ H Q I q
def capOf (cells : List (Str × Addr)) : List (Str × NameKind) → List (Str × Addr) → List (Str × Addr)
 | [], acc => acc
 | (n, k) :: r, acc => capOf cells r (if k == .free then (n, (cells.lookup n).getD 0) :: acc else acc)
theorem capOf_loop (env : Env) : ∀ (names : List (Str × NameKind)) (acc : List (Str × Addr)), (∀ y ∈ names, y.2 = .free → ∃ c, env.cells.lookup y.1 = some c) →
  (forIn names acc (fun (x : Str × NameKind) (cs : List (Str × Addr)) => if (x.2 == NameKind.free) = true then do let a ← cellOf env x.1; pure (ForInStep.yield ((x.1, a) :: cs)) else pure (ForInStep.yield cs)) : Sem (List (Str × Addr))) = pure (capOf env.cells names acc)
 | [], acc, _ => rfl
 | (n, k) :: r, acc, h => by
  have ih := fun acc' => capOf_loop env r acc' fun y hy => h y (List.mem_cons_of_mem _ hy)
  rw [List.forIn_cons]
  cases hk : k == NameKind.free with
  | false =>
   simp only [capOf, hk, Bool.false_eq_true, if_false, pure_bind]
   exact ih acc
  | true =>
   obtain ⟨c, hc⟩ := h (n, k) List.mem_cons_self (by simpa using hk)
   have hc' : env.cells.lookup n = some c := hc
   have e : cellOf env n = pure c := by unfold cellOf; rw [hc']
   simp only [capOf, hk, if_true, e, pure_bind, hc', Option.getD_some]
   exact ih _
theorem closure_cap {scope : Scope} {env : Env} (h : ∀ y ∈ scope.names, y.2 = .free → ∃ c, env.cells.lookup y.1 = some c) : closureFor scope env = pure (capOf env.cells scope.names []) := by
 unfold closureFor
 have q := capOf_loop env scope.names [] h
 first
  | exact q
  | (simp only [bind_pure]; exact q)
  | (rw [show (forIn scope.names [] _ : Sem (List (Str × Addr))) = _ from q]; rfl)
theorem capOf_some {cells : List (Str × Addr)} {x : Str} {c : Addr} : ∀ (names : List (Str × NameKind)) (acc : List (Str × Addr)), (∀ y ∈ names, y.2 = .free → ∃ c, cells.lookup y.1 = some c) →
  (capOf cells names acc).lookup x = some c → acc.lookup x = some c ∨ cells.lookup x = some c
 | [], acc, _, h => .inl h
 | (n, k) :: r, acc, hf, h => by
  have hf' : ∀ y ∈ r, y.2 = .free → ∃ c, cells.lookup y.1 = some c := fun y hy => hf y (List.mem_cons_of_mem _ hy)
  cases hk : k == NameKind.free with
  | false =>
   simp only [capOf, hk, Bool.false_eq_true, if_false] at h
   exact capOf_some r acc hf' h
  | true =>
   simp only [capOf, hk, if_true] at h
   rcases capOf_some r _ hf' h with h | h
   ·rw [List.lookup_cons] at h
    cases hx : x == n with
    | true =>
     rw [hx] at h
     obtain ⟨c', hc⟩ := hf (n, k) List.mem_cons_self (by simpa using hk)
     have hc' : cells.lookup n = some c' := hc
     have e : x = n := by simpa using hx
     simp only [hc', Option.getD_some] at h
     cases h
     exact .inr (by rw [e]; exact hc')
    | false => rw [hx] at h; exact .inl h
   ·exact .inr h
theorem capOf_keep {cells : List (Str × Addr)} {x : Str} : ∀ (names : List (Str × NameKind)) (acc : List (Str × Addr)), (∃ c, acc.lookup x = some c) → ∃ c, (capOf cells names acc).lookup x = some c
 | [], _, h => h
 | (n, k) :: r, acc, h => by
  unfold capOf
  refine capOf_keep r _ ?_
  cases hk : k == NameKind.free with
  | false => simpa using h
  | true =>
   simp only [if_true]
   rw [List.lookup_cons]
   cases hx : x == n with
   | true => exact ⟨_, rfl⟩
   | false => exact h
theorem capOf_has {cells : List (Str × Addr)} {x : Str} : ∀ (names : List (Str × NameKind)) (acc : List (Str × Addr)), (x, NameKind.free) ∈ names → ∃ c, (capOf cells names acc).lookup x = some c
 | [], _, h => nomatch h
 | (n, k) :: r, acc, h => by
  rcases List.mem_cons.mp h with e | h
  ·cases e
   unfold capOf
   refine capOf_keep r _ ?_
   simp only [beq_self_eq_true, if_true]
   refine ⟨(cells.lookup x).getD 0, ?_⟩
   rw [List.lookup_cons]
   simp
  ·exact capOf_has r _ h
def blkOk (scope outer : Scope) : Bool :=
 (scope.kind == .function) && scope.names.all fun y => (y.2 != .cell) && (y.2 != .local || scope.names.lookup y.1 == some .local) && (y.2 != .free || (outer.names.lookup y.1 == some .cell || outer.names.lookup y.1 == some .free))
theorem blk_kind {scope outer : Scope} (h : blkOk scope outer = true) : scope.kind = .function := by
 unfold blkOk at h; rw [Bool.and_eq_true] at h; simpa using h.1
theorem blk_all {scope outer : Scope} (h : blkOk scope outer = true) : ∀ y ∈ scope.names, y.2 ≠ .cell ∧ (y.2 = .local → scope.names.lookup y.1 = some .local) ∧ (y.2 = .free → outer.names.lookup y.1 = some .cell ∨ outer.names.lookup y.1 = some .free) := by
 unfold blkOk at h; rw [Bool.and_eq_true, List.all_eq_true] at h
 intro y hy
 have q := h.2 y hy
 simp only [Bool.and_eq_true, Bool.or_eq_true, bne_iff_ne, beq_iff_eq, ne_eq] at q
 refine ⟨q.1.1, fun e => ?_, fun e => ?_⟩
 ·rcases q.1.2 with z | z
  ·exact absurd e z
  ·exact z
 ·rcases q.2 with z | z
  ·exact absurd e z
  ·exact z
def capsOk (XN : List Str) (scope : Scope) : List Str → List Nat → Bool
 | [], [] => true
 | x :: r, i :: t => (XN[i]? == some x) && (scope.names.lookup x == some .free) && capsOk XN scope r t
 | _, _ => false
theorem caps_get {XN : List Str} {scope : Scope} : ∀ {cs : List Str} {caps : List Nat} {j : Nat} {x : Str}, capsOk XN scope cs caps = true → cs[j]? = some x → ∃ i, caps[j]? = some i ∧ XN[i]? = some x ∧ scope.names.lookup x = some .free
 | [], _, j, x, _, h => by simp at h
 | y :: r, [], j, x, h, _ => by simp [capsOk] at h
 | y :: r, i :: t, 0, x, h, e => by
  simp only [capsOk, Bool.and_eq_true, beq_iff_eq] at h
  simp at e; subst e
  exact ⟨i, rfl, h.1.1, h.1.2⟩
 | y :: r, i :: t, j + 1, x, h, e => by
  simp only [capsOk, Bool.and_eq_true] at h
  obtain ⟨k, h1, h2⟩ := caps_get (j := j) (x := x) h.2 (by simpa using e)
  exact ⟨k, by simpa using h1, h2⟩
theorem caps_len {XN : List Str} {scope : Scope} : ∀ {cs : List Str} {caps : List Nat}, capsOk XN scope cs caps = true → cs.length = caps.length
 | [], [], _ => rfl
 | [], _ :: _, h => by simp [capsOk] at h
 | _ :: _, [], h => by simp [capsOk] at h
 | y :: r, i :: t, h => by
  simp only [capsOk, Bool.and_eq_true] at h
  simp [caps_len h.2]
def stC (nl : Nat) (caps : List Nat) (σ : St) : St := List.replicate nl none ++ caps.map fun i => (σ[i]?).getD none
def cxC (X : Cx) (scope : Scope) (N : List Str) (s : Shared) (H : Hp) (fp : List Addr) : Cx :=
 { X with N := N, s₀ := s, H₀ := H, env := compEnvC scope (capOf X.env.cells scope.names []) (s.heap.objs.size + 1) X.env, outer := X.stack, stack := X.stack, ex := fp, fn := fun _ => false, pn := [], xe := fun _ _ => False }
section
variable {X : Cx} {pins : List (Addr × Obj)} {σ : St} {H : Hp} {s : Shared} {scope : Scope} {N : List Str} {fp : List Addr}
theorem relabel_names_lookup {env : Env} {x : Str} {k : NameKind} : ∀ {names : List (Str × NameKind)}, 
  (names.map fun (n, k) => if (k == NameKind.free && env.scope.kind == .function && env.kindOf n == some .cell) then (n, NameKind.cell) else (n, k)).lookup x = some k → (k = .cell ∨ k = .free) → (x, NameKind.cell) ∈ names ∨ (x, NameKind.free) ∈ names
 | [], h, _ => by simp at h
 | (n, k') :: r, h, hk => by
  have h' : List.lookup x ((if (k' == NameKind.free && env.scope.kind == .function && env.kindOf n == some .cell) = true then (n, NameKind.cell) else (n, k')) :: (r.map fun (n, k) => if (k == NameKind.free && env.scope.kind == .function && env.kindOf n == some .cell) then (n, NameKind.cell) else (n, k))) = some k := h
  by_cases hc : (k' == NameKind.free && env.scope.kind == .function && env.kindOf n == some .cell) = true
  ·rw [if_pos hc, List.lookup_cons] at h'
   cases hx : x == n with
   | true =>
    have e : x = n := by simpa using hx
    have e2 : k' = .free := by
     rw [Bool.and_eq_true, Bool.and_eq_true] at hc
     simpa using hc.1.1
    subst e; subst e2
    exact .inr List.mem_cons_self
   | false =>
    rw [hx] at h'
    exact (relabel_names_lookup h' hk).imp (List.mem_cons_of_mem _) (List.mem_cons_of_mem _)
  ·rw [if_neg hc, List.lookup_cons] at h'
   cases hx : x == n with
   | true =>
    rw [hx] at h'
    have e : x = n := by simpa using hx
    cases h'
    subst e
    rcases hk with rfl | rfl
    ·exact .inl List.mem_cons_self
    ·exact .inr List.mem_cons_self
   | false =>
    rw [hx] at h'
    exact (relabel_names_lookup h' hk).imp (List.mem_cons_of_mem _) (List.mem_cons_of_mem _)
theorem lookup_relabel_free {env : Env} : ∀ {names : List (Str × NameKind)} {x : Str}, names.lookup x = some .free →
  (names.map fun (n, k) => if (k == NameKind.free && env.scope.kind == .function && env.kindOf n == some .cell) then (n, NameKind.cell) else (n, k)).lookup x = some .cell ∨
  (names.map fun (n, k) => if (k == NameKind.free && env.scope.kind == .function && env.kindOf n == some .cell) then (n, NameKind.cell) else (n, k)).lookup x = some .free
 | [], _, h => by simp at h
 | (n, k) :: r, x, h => by
  have ih := @lookup_relabel_free env r x
  show List.lookup x ((if (k == NameKind.free && env.scope.kind == .function && env.kindOf n == some .cell) = true then (n, NameKind.cell) else (n, k)) :: _) = _ ∨ List.lookup x ((if (k == NameKind.free && env.scope.kind == .function && env.kindOf n == some .cell) = true then (n, NameKind.cell) else (n, k)) :: _) = _
  cases hx : x == n with
  | true =>
   simp only [List.lookup_cons, hx] at h
   cases h
   by_cases hc : (NameKind.free == NameKind.free && env.scope.kind == .function && env.kindOf n == some .cell) = true
   ·rw [if_pos hc]; left; simp [List.lookup_cons, hx]
   ·rw [if_neg hc]; right; simp [List.lookup_cons, hx]
  | false =>
   simp only [List.lookup_cons, hx] at h
   by_cases hc : (k == NameKind.free && env.scope.kind == .function && env.kindOf n == some .cell) = true
   ·rw [if_pos hc]; simp only [List.lookup_cons, hx]; exact ih h
   ·rw [if_neg hc]; simp only [List.lookup_cons, hx]; exact ih h
theorem free_cells (I : Inv X pins σ H s) (hb : blkOk scope X.env.scope = true) : ∀ y ∈ scope.names, y.2 = .free → ∃ c, X.env.cells.lookup y.1 = some c := fun y hy e =>
 I.ok.has y.1 ((blk_all hb y hy).2.2 e)
theorem cxC_ok (I : Inv X pins σ H s) (hb : blkOk scope X.env.scope = true) (hf : ∀ b ∈ fp, FpOk X pins H b) (hlt : ∀ b ∈ fp, b < s.heap.objs.size) : (cxC X scope N s H fp).Ok where
 mod := I.ok.mod
 kind := show scope.kind = .function from blk_kind (outer := X.env.scope) hb
 glob := I.ok.glob
 blt := I.ok.blt
 above := Nat.le_succ _
 inj := fun x y c h1 h2 => by
  have q1 := (capOf_some scope.names [] (free_cells I hb) h1).resolve_left (by simp)
  have q2 := (capOf_some scope.names [] (free_cells I hb) h2).resolve_left (by simp)
  exact I.ok.inj x y c q1 q2
 has := fun x hx => by
  have hx' : (relabel scope X.env).names.lookup x = some .cell ∨ (relabel scope X.env).names.lookup x = some .free := hx
  have q : (x, NameKind.cell) ∈ scope.names ∨ (x, NameKind.free) ∈ scope.names := by
   rcases hx' with z | z
   ·exact relabel_names_lookup z (.inl rfl)
   ·exact relabel_names_lookup z (.inr rfl)
  rcases q with q | q
  ·exact absurd rfl (blk_all hb _ q).1
  ·exact capOf_has scope.names [] q
 cab := fun x c h => nomatch h
 hd := I.ok.hd
 frames := I.ok.frames
 stk := .inl rfl
 exf := fun b hbm => ⟨Nat.ne_of_lt (Nat.lt_succ_of_lt (hlt b hbm)), fun x c e => by
  have q := (capOf_some scope.names [] (free_cells I hb) e).resolve_left (by simp)
  exact (hf b hbm).2.2.2.2.1 x c q⟩
 bs := I.bs
 bsz := Nat.le_trans I.ok.bsz I.sz
 noex := fun b o e hbm => by
  rcases (hf b hbm).2.2.2.1 with z | z
  ·exact I.ok.noex b o e z
  ·exact absurd (Nat.lt_of_lt_of_le (Heap.lt_size e) (Nat.le_trans I.ok.bsz z)) (Nat.lt_irrefl _)
 exfs := fun b hbm z => by
  rcases List.mem_cons.mp (I.stkSub b z) with e | e
  ·exact (hf b hbm).2.1 e
  ·exact (hf b hbm).2.2.1 e
 funs := I.stack
 frf := I.stkFree
theorem cxC_back {σ' : St} {H' : Hp} {s' : Shared} (I : Inv X pins σ H s) (hf : ∀ b ∈ fp, FpOk X pins H b) (J : Inv (cxC X scope N s H fp) [] σ' H' s') : Inv X pins σ H' s' :=
 I.call' J.os J.base J.hok J.bare fun b hb => ⟨(hf b hb).2.2.2.1, (hf b hb).2.1, (hf b hb).2.2.2.2.1, (hf b hb).2.2.2.2.2⟩
end
def PTs (X : Cx) (ifs : List Expr) (t : TT) : Prop :=
 ∀ (pins : List (Addr × Obj)) (s : Shared) (σ : St) (H : Hp) (Q : Bool → Hp → Prop), Inv X pins σ H s → t σ H Q →
  wpAny (model X.prog X.w) X.A (forIn ifs true fun c r => if r = true then do let ok ← isTrue c X.env (eval c X.env); pure (ForInStep.yield ok) else pure (ForInStep.yield r)) (TP X pins σ Q) X.xe s
def tYes : TT := fun _ H Q => Q true H
theorem pts_nil {X : Cx} : PTs X [] tYes := fun _ _ _ H _ I h => wpAny_tests_nil ⟨H, I, h⟩
theorem pts_one {X : Cx} {c : Expr} {t : TT} (hc : PT X c t) : PTs X [c] t := fun pins s σ H Q I h => wpAny_tests_one (hc pins s σ H Q I h)
theorem comp_loop {prog : Program} {w : World} {A : Around} {R : Result → Shared → Prop} {s : Shared} {elt target iter : Expr} {ifs : List Expr} {scope : Scope} {pos : Pos} {it acc : Value} {env : Env} (I : Nat → Shared → Prop)
  (turn : ∀ n s, I n s → wpAny (model prog w) A (pyNext it) (fun r s₁ => match r with
   | none => R (.ok .next) s₁
   | some v => wpAny (model prog w) A (letOwnedTupleGo target it v) (fun _ s₁' => wpAny (model prog w) A (assign target env v) (fun _ s₂ =>
     wpAny (model prog w) A (forIn ifs true fun c r => if r = true then do let ok ← isTrue c env (eval c env); pure (ForInStep.yield ok) else pure (ForInStep.yield r)) (fun ok s₃ =>
      if ok = true then wpAny (model prog w) A (eval elt env) (fun x s₄ =>
       wpAny (model prog w) A (call (.builtin "list.append") [acc, x]) (fun _ s₅ => ∃ m, m < n ∧ I m s₅) (fun _ _ => False) s₄) (fun _ _ => False) s₃
      else ∃ m, m < n ∧ I m s₃) (fun _ _ => False) s₂) (fun _ _ => False) s₁') (fun _ _ => False) s₁) (fun _ _ => False) s)
  (n : Nat) (h : I n s) : codeAny (model prog w) A (.compLoop (.ListComp elt [⟨target, iter, ifs, 0⟩] scope pos) 0 it acc env) R s := by
 refine codeAny_loop rfl I (fun n s hI => ?_) n h
 show wpAny _ A ((compTurn (.ListComp elt [⟨target, iter, ifs, 0⟩] scope pos) 0 it acc env).onRaise (fun x => do noteFrame x env; theTreesLotGoes x)) _ _ s
 refine wpAny_noted ?_
 refine wpAny_noRaise ?_
 rw [compTurn_list]
 refine wpAny_bind (wpAny_standAt (wpAny_bind (wpAny_mono (turn n s hI) (fun r s₁ h₁ => ?_) fun _ _ h' => h')))
 cases r with
 | none => exact wpAny_pure h₁
 | some v =>
  refine wpAny_bind (wpAny_mono h₁ (fun _ s₁' h₁' => ?_) fun _ _ h' => h')
  refine wpAny_bind (wpAny_mono h₁' (fun _ s₂ h₂ => wpAny_bind (wpAny_mono h₂ (fun ok s₃ h₃ => ?_) fun _ _ h' => h')) fun _ _ h' => h')
  cases ok with
  | false => exact wpAny_pure ⟨rfl, h₃⟩
  | true =>
   exact wpAny_bind (wpAny_bind (wpAny_mono h₃ (fun x s₄ h₄ => wpAny_bind (wpAny_mono h₄ (fun _ s₅ h₅ => wpAny_pure (wpAny_pure ⟨rfl, h₅⟩)) fun _ _ h' => h')) fun _ _ h' => h'))
def cmpR (J : It) (g : TG) (tc : TT) (te : TE) (D : Addr) (Fin : Hp → Prop) (σ0 : St) (H0 : Hp) : Prop :=
 ∃ W : Nat → Nat → St → Hp → Prop, (∃ m, W 0 m σ0 H0) ∧ ∀ i m σ H, W i m σ H →
  (J.stop i H ∧ Fin H) ∨ (J.go i H ∧ ∃ N : St → Hp → Prop, (∀ σ' H', N σ' H' → ∃ m', m' < m ∧ W (i + 1) m' σ' H') ∧ ∀ x H1, J.yld i H x H1 → g x σ H1 fun σ2 H2 => tc σ2 H2 fun b H3 =>
   if b = true then te σ2 H3 fun v H4 => ∃ xs, H4 D = some (.lst xs) ∧ xs.length < sizeLine ∧ N σ2 (upd H4 D (.lst (xs ++ [v]))) else N σ2 H3)
theorem cmp_by {J : It} {g : TG} {tc : TT} {te : TE} {D : Addr} {Fin : Hp → Prop} {σ0 : St} {H0 : Hp} (n : Nat) (Pv : Nat → St → Hp → Prop) (h0 : Pv 0 σ0 H0) (hend : ∀ σ H, Pv n σ H → J.stop n H ∧ Fin H)
  (hs : ∀ i σ H, i < n → Pv i σ H → J.go i H ∧ ∀ x H1, J.yld i H x H1 → g x σ H1 fun σ2 H2 => tc σ2 H2 fun b H3 =>
   if b = true then te σ2 H3 fun v H4 => ∃ xs, H4 D = some (.lst xs) ∧ xs.length < sizeLine ∧ Pv (i + 1) σ2 (upd H4 D (.lst (xs ++ [v]))) else Pv (i + 1) σ2 H3) : cmpR J g tc te D Fin σ0 H0 := by
 refine ⟨fun i m σ H => m = n - i ∧ i ≤ n ∧ Pv i σ H, ⟨n, by simp, Nat.zero_le _, h0⟩, ?_⟩
 rintro i m σ H ⟨rfl, hi, p⟩
 by_cases hlt : i < n
 ·obtain ⟨q1, q2⟩ := hs i σ H hlt p
  exact .inr ⟨q1, Pv (i + 1), fun σ' H' p' => ⟨n - (i + 1), by omega, rfl, hlt, p'⟩, q2⟩
 ·have e : i = n := by omega
  subst e
  exact .inl (hend σ H p)
def tComp (wi : TI) (g : TG) (tc : TT) (te : TE) (nl : Nat) (caps : List Nat) : TE := fun σ H Q =>
 wi σ H fun J H1 => ∀ D, H1 D = none → cmpR J g tc te D (fun H' => Q (.ref D) H') (stC nl caps σ) (upd H1 D (.lst []))
section
variable {X : Cx} {tg iter elt : Expr} {ifs : List Expr} {scope : Scope} {pos : Pos} {wi : TI} {g : TG} {tc : TT} {te : TE} {locs cs : List Str} {caps : List Nat}
theorem comp_block {pins : List (Addr × Obj)} {σ : St} {H : Hp} {s : Shared} {it : Addr} {fp : List Addr} {tn : Nat → Heap → Prop} {J : It} {RR : Value → Addr → Result → Shared → Prop} {E : Value → Shared → Prop} {Fin : Hp → Prop}
  (hc : X.calm = true) (hb : blkOk scope X.env.scope = true) (hcap : capsOk X.N scope cs caps = true)
  (I : Inv X pins σ H s) (T : Turn X.prog X.w X.K tg J fp it tn) (st : tn 0 s.heap) (hf : ∀ b ∈ fp, FpOk X pins H b)
  (hg : PG (cxC X scope (locs ++ cs) s H fp) tg g) (ht : PTs (cxC X scope (locs ++ cs) s H fp) ifs tc) (he : PE (cxC X scope (locs ++ cs) s H fp) elt te)
  (h : cmpR J g tc te s.heap.objs.size Fin (stC locs.length caps σ) (upd H s.heap.objs.size (.lst [])))
  (hRR : ∀ σ' H' s', Inv (cxC X scope (locs ++ cs) s H fp) [] σ' H' s' → Fin H' → RR (.ref s.heap.objs.size) (s.heap.objs.size + 1) (.ok .next) s') :
  wpAny (model X.prog X.w) X.A (newList []) (fun acc s₃ => wpAny (model X.prog X.w) X.A (newFunctionEnv scope X.env.globals (capOf X.env.cells scope.names []) [] X.env.qual none .none (some X.env)) (fun cenv s₄ =>
   codeAny (model X.prog X.w) X.A (.compStart (.ListComp elt [⟨tg, iter, ifs, 0⟩] scope pos) 0 (.ref it) acc { cenv with scope := relabel scope X.env }) (RR acc cenv.locals) s₄) E s₃) E s := by
 have hcell : ∀ y ∈ scope.names, y.2 ≠ .cell := fun y hy => (blk_all hb y hy).1
 have hkind := blk_kind hb
 have hlt : ∀ b ∈ fp, b < s.heap.objs.size := fun b hbm => by
  obtain ⟨o, e, _⟩ := T.obj 0 _ st b hbm
  exact Heap.lt_size e
 refine wpAny_newObj_type (wpAny_newFunctionEnv hcell (by intro y hy; simp at hy) (fun h₁ hns₁ hsb₁ => ?_) hkind)
 dsimp only at hns₁ hsb₁ ⊢
 generalize hH2 : s.heap.push { cls := .type "list", dict := none, data := .seq ([] : List Value).toArray } = H2 at hns₁ hsb₁ ⊢
 have hC : H2.objs.size = s.heap.objs.size + 1 := by rw [← hH2, Heap.size_push]
 rw [hC] at hns₁ hsb₁ ⊢
 have hDC : s.heap.objs.size ≠ s.heap.objs.size + 1 := Nat.ne_of_lt (Nat.lt_succ_self _)
 have below : ∀ b, b < s.heap.objs.size → b ≠ s.heap.objs.size + 1 := fun b hb => Nat.ne_of_lt (Nat.lt_succ_of_lt hb)
 have old : ∀ b o, s.heap.get? b = some o → h₁.get? b = some o := fun b o e => hsb₁.extBut b o (below b (Heap.lt_size e)) (Heap.get?_push_of_some _ (hH2 ▸ Heap.get?_push_of_some _ e))
 have hD : h₁.get? s.heap.objs.size = some { cls := .type "list", dict := none, data := .seq ([] : List Value).toArray } :=
  hsb₁.extBut _ _ hDC (Heap.get?_push_of_some _ (hH2 ▸ Heap.get?_push_size _ rfl))
 have frC : H (s.heap.objs.size + 1) = none := I.hok.fresh (Nat.le_succ _)
 have frD : H s.heap.objs.size = none := I.hok.fresh (Nat.le_refl _)
 have J0 : Inv (cxC X scope (locs ++ cs) s H fp) [] (stC locs.length caps σ) (upd H s.heap.objs.size (.lst [])) { s with heap := h₁, toks := s.toks + ([] : List (Str × Value)).length } := by
  refine ⟨cxC_ok I hb hf hlt, rfl, I.bare, Un.laid old (Nat.le_refl _) frD, ⟨_, hns₁, fun i x v e1 e2 e3 => ?_⟩, fun x c e => ?_, ?_, fun x c e => ?_, fun p hp => absurd (show p ∈ ([] : List (Addr × Obj)) from hp) (by simp), ?_, ?_⟩
  ·have e1' : (locs ++ cs)[i]? = some x := e1
   have hi : locs.length ≤ i := by
    rcases Nat.lt_or_ge i locs.length with hi | hi
    ·unfold stC at e2
     rw [List.getElem?_append_left (by simpa using hi), List.getElem?_replicate] at e2
     split at e2 <;> cases e2
    ·exact hi
   rw [List.getElem?_append_right hi] at e1'
   obtain ⟨k, q1, q2, q3⟩ := caps_get hcap e1'
   unfold stC at e2
   rw [List.getElem?_append_right (by simpa using hi), List.length_replicate, List.getElem?_map, q1] at e2
   have e2' : (σ[k]?).getD none = some v := by simpa using e2
   have e4 : σ[k]? = some (some v) := by
    cases z : σ[k]? with
    | none => rw [z] at e2'; cases e2'
    | some o => rw [z] at e2'; simp at e2'; rw [e2']
   have hfr := (blk_all hb _ (PySem.mem_of_lookup q3)).2.2 rfl
   obtain ⟨m, hn, hl⟩ := I.loc
   obtain ⟨u, r, l⟩ := hl k x v q2 e4 (hfr.elim (fun z => .inr (.inl z)) fun z => .inr (.inr z))
   refine ⟨u, r, .inr ⟨?_, ?_⟩⟩
   ·exact lookup_relabel_free q3
   ·rcases l with ⟨k1, _⟩ | ⟨_, c, ec, z⟩
    ·exfalso
     have k1' : X.env.scope.names.lookup x = some .local := k1
     rcases hfr with z | z <;> (rw [k1'] at z; cases z)
    ·obtain ⟨c', ec'⟩ := capOf_has (cells := X.env.cells) scope.names [] (PySem.mem_of_lookup q3)
     have q := (capOf_some scope.names [] (free_cells I hb) ec').resolve_left (by simp)
     rw [ec] at q; cases q
     obtain ⟨o, ho, hd⟩ := z
     exact ⟨c, ec', o, old _ _ ho, hd⟩
  ·have q := (capOf_some scope.names [] (free_cells I hb) e).resolve_left (by simp)
   obtain ⟨v, o, ho, hd⟩ := I.cell x c q
   exact ⟨v, o, old _ _ ho, hd⟩
  ·show upd H s.heap.objs.size (.lst []) (s.heap.objs.size + 1) = none
   rw [upd_ne (Ne.symm hDC)]
   exact frC
  ·have q := (capOf_some scope.names [] (free_cells I hb) e).resolve_left (by simp)
   obtain ⟨v, o, ho, hd⟩ := I.cell x c q
   rw [upd_ne (Nat.ne_of_lt (Heap.lt_size ho))]
   exact I.freeC x c q
  ·exact I.hok.laid old (Nat.le_refl _) ⟨Nat.zero_le _, [], 0, .nil, hD⟩
  ·show (stC locs.length caps σ).length = (locs ++ cs).length
   unfold stC
   rw [List.length_append, List.length_replicate, List.length_map, List.length_append, caps_len hcap]
 obtain ⟨W, ⟨m0, w0⟩, turn⟩ := h
 have stat : ∀ {H' : Hp}, (∀ b ∈ fp, H' b = none) → ∀ b ∈ fp, FpOk (cxC X scope (locs ++ cs) s H fp) [] H' b := fun {H'} hn b hbm => by
  have q := (cxC_ok (N := locs ++ cs) I hb hf hlt)
  refine ⟨hn b hbm, (q.exf b hbm).1, q.exfs b hbm, .inl hbm, (q.exf b hbm).2, fun p hp => absurd (show p ∈ ([] : List (Addr × Obj)) from hp) (by simp)⟩
 have fr0 : ∀ b ∈ fp, upd H s.heap.objs.size (.lst []) b = none := fun b hbm => by rw [upd_ne (Nat.ne_of_lt (hlt b hbm))]; exact (hf b hbm).1
 have loop : ∀ s₃ : Shared, s₃ = { s with heap := h₁, toks := s.toks + ([] : List (Str × Value)).length } →
   codeAny (model X.prog X.w) X.A (.compLoop (.ListComp elt [⟨tg, iter, ifs, 0⟩] scope pos) 0 (.ref it) (.ref s.heap.objs.size) (cxC X scope (locs ++ cs) s H fp).env) (RR (.ref s.heap.objs.size) (s.heap.objs.size + 1)) s₃ := by
  rintro s₃ rfl
  refine comp_loop (fun n s' => ∃ i σ' H', Inv (cxC X scope (locs ++ cs) s H fp) [] σ' H' s' ∧ tn i s'.heap ∧ (∀ b ∈ fp, H' b = none) ∧ W i n σ' H') ?_ m0
   ⟨0, _, _, J0, T.keep _ _ _ st fun b _ o e => old b o e, fr0, w0⟩
  rintro n s3 ⟨i, σ3, H3, I3, st3, fr3, w3⟩
  rcases turn i n σ3 H3 w3 with ⟨stop, qn⟩ | ⟨go, Nn, hNn, step⟩
  ·refine thn (T.done (cxC X scope (locs ++ cs) s H fp) rfl rfl rfl hc i [] s3 σ3 H3 _ I3 (stat fr3) st3 stop) fun r s4 ⟨hr, I4⟩ => ?_
   subst hr
   exact hRR σ3 H3 s4 I4 qn
  ·refine thn (T.item (cxC X scope (locs ++ cs) s H fp) rfl rfl rfl hc i [] s3 σ3 H3 _ I3 (stat fr3) st3 go) fun r s4 ⟨u, hr, h4⟩ => ?_
   subst hr
   refine thn h4 fun _ s5 ⟨x, H5, I5, r5, y5, st5, fr5⟩ => ?_
   have I5' := I5.pinned (stat fr5) (T.obj _ _ st5)
   have again : ∀ {σ7 : St} {H7 : Hp} {s7 : Shared}, Inv (cxC X scope (locs ++ cs) s H fp) ([] ++ pinsAt fp s5.heap) σ7 H7 s7 → Nn σ7 H7 →
     ∃ m, m < n ∧ ∃ i σ' H', Inv (cxC X scope (locs ++ cs) s H fp) [] σ' H' s7 ∧ tn i s7.heap ∧ (∀ b ∈ fp, H' b = none) ∧ W i m σ' H' := fun {σ7 H7 s7} I7 n7 => by
    obtain ⟨m', hm, w7⟩ := hNn σ7 H7 n7
    refine ⟨m', hm, i + 1, σ7, H7, I7.unpinned, T.keep _ _ _ st5 fun b hb o e => (I7.pin (b, o) (List.mem_append_right _ (List.mem_append_right _ (mem_pinsAt hb e)))).1, fun b hb => ?_, w7⟩
    obtain ⟨o, e, d⟩ := T.obj _ _ st5 b hb
    exact (I7.pin (b, o) (List.mem_append_right _ (List.mem_append_right _ (mem_pinsAt hb e)))).2.1
   refine thn (hg _ s5 σ3 H5 x u _ I5' r5 (step x H5 y5)) fun _ s6 ⟨σ6, H6, I6, q6⟩ => ?_
   refine thn (ht _ s6 σ6 H6 _ I6 q6) fun b s7 ⟨H7, I7, q7⟩ => ?_
   cases b with
   | false => exact again I7 q7
   | true =>
    refine thn (he _ s7 σ6 H7 _ I7 q7) fun u8 s8 ⟨v8, H8, I8, r8, xs, e8, z8, q8⟩ => ?_
    refine thn (mt_append (X := cxC X scope (locs ++ cs) s H fp) ([] ++ pinsAt fp s5.heap) s8 σ6 H8 (.ref s.heap.objs.size) [v8] (.ref s.heap.objs.size) [u8] (fun _ H9 => Nn σ6 H9) I8 rfl (.cons r8 .nil) ⟨_, xs, v8, rfl, rfl, e8, z8, q8⟩) fun _ s9 ⟨_, H9, I9, _, q9⟩ => ?_
    exact again I9 q9
 exact codeAny_compStart_list (loop _ rfl) (T.self _ 0 _ _ _ (T.keep _ _ _ st fun b _ o e => old b o e) (loop _ rfl))
theorem pe_comp (locs cs : List Str) (caps : List Nat) (hc : X.calm = true) (hi : PI X tg iter wi) (hg : ∀ s H fp, PG (cxC X scope (locs ++ cs) s H fp) tg g) (ht : ∀ s H fp, PTs (cxC X scope (locs ++ cs) s H fp) ifs tc) (he : ∀ s H fp, PE (cxC X scope (locs ++ cs) s H fp) elt te)
  (hb : blkOk scope X.env.scope = true := by rfl) (hcap : capsOk X.N scope cs caps = true := by rfl) (hs : ∀ x, foldedSetIterable iter X.env x = pure x := by intro _; rfl) :
  PE X (.ListComp elt [⟨tg, iter, ifs, 0⟩] scope pos) (tComp wi g tc te locs.length caps) := by
 intro pins s σ H Q I h
 rw [eval_ListComp]
 refine wpAny_comprehension_free (use := none) rfl hs (closure_cap (free_cells I hb)) (blk_kind hb) (fun y hy => (blk_all hb y hy).2.1) (thn (hi pins s σ H _ I h) fun v s1 h1 => thn h1 fun itv s2 h2 => ?_)
 obtain ⟨it, fp, tn, J, H2, e, I2, T, st2, f2, q⟩ := h2
 subst e
 refine comp_block (RR := fun acc C => compPost (model X.prog X.w) X.A X.xe none (EP X pins σ Q) acc C) (locs := locs) (cs := cs) (Fin := fun H' => Q (.ref s2.heap.objs.size) H') hc hb hcap I2 T st2 f2 (hg _ _ _) (ht _ _ _) (he _ _ _) (q _ (I2.hok.fresh (Nat.le_refl _))) ?_
 intro σ' H' s' J' q'
 obtain ⟨m, hn, _⟩ := J'.loc
 refine ⟨m, hn, fun h' hs' => ?_⟩
 have I3 := cxC_back I2 f2 J'
 have fr : H' (s2.heap.objs.size + 1) = none := J'.free
 refine ⟨.ref s2.heap.objs.size, H', I3.turned (t' := s'.toks) (it := s2.heap.objs.size + 1) (fun b o hb e => (hs'.2 b hb).trans e) fr ?_ (.inr (Nat.le_trans I2.sz (Nat.le_succ _))) ?_ ?_, rfl, q'⟩
 ·exact Nat.ne_of_gt (Nat.lt_succ_of_lt I2.lt)
 ·intro x c e z
  obtain ⟨v, hv⟩ := I2.cell x c e
  have h1 : s2.heap.objs.size + 1 < s2.heap.objs.size := z ▸ hv.lt
  exact absurd h1 (Nat.not_lt.mpr (Nat.le_succ _))
 ·intro p hp z
  have h1 : s2.heap.objs.size + 1 < s2.heap.objs.size := z ▸ Heap.lt_size (I2.pin p hp).1
  exact absurd h1 (Nat.not_lt.mpr (Nat.le_succ _))
theorem ps_setC {i : Nat} {y : Str} {py spos : Pos} (locs cs : List Str) (caps : List Nat) (hN : X.N.Nodup) (hiy : X.N[i]? = some y) (hc : X.calm = true) (hi : PI X tg iter wi) (hg : ∀ s H fp, PG (cxC X scope (locs ++ cs) s H fp) tg g) (ht : ∀ s H fp, PTs (cxC X scope (locs ++ cs) s H fp) ifs tc) (he : ∀ s H fp, PE (cxC X scope (locs ++ cs) s H fp) elt te)
  (hy : X.env.scope.names.lookup y = some .local := by rfl)
  (hsw : swapsWith (.ListComp elt [⟨tg, iter, ifs, 0⟩] scope pos) (some (.Name y py)) spos.line X.env = pure true := by rfl)
  (hb : blkOk scope X.env.scope = true := by rfl) (hcap : capsOk X.N scope cs caps = true := by rfl) (hs : ∀ x, foldedSetIterable iter X.env x = pure x := by intro _; rfl) :
  PS X (.Assign [.Name y py] (.ListComp elt [⟨tg, iter, ifs, 0⟩] scope pos) spos) (tAsg (tComp wi g tc te locs.length caps) (gName i)) := by
 intro pins s σ H D I h
 rw [exec_Assign_Name_used _ _ _ _ hsw]
 refine wpAny_bind (wpAny_standAt (wpAny_bind ?_))
 show wpAny _ X.A (do let _ ← comprehension (.ListComp elt [⟨tg, iter, ifs, 0⟩] scope pos) scope X.env _ (newList []) false (eval iter X.env) (some (assign (.Name y py) X.env))) _ _ s
 refine wpAny_bind (wpAny_mono (wpAny_comprehension_free (use := some (assign (.Name y py) X.env)) (Q := fun _ s' => SP X pins D .next s') rfl hs (closure_cap (free_cells I hb)) (blk_kind hb) (fun y hy => (blk_all hb y hy).2.1)
  (thn (hi pins s σ H _ I h) fun v s1 h1 => thn h1 fun itv s2 h2 => ?_)) (fun _ s' hq => wpAny_pure (wpAny_pure hq)) fun _ _ e => e)
 obtain ⟨it, fp, tn, J, H2, e, I2, T, st2, f2, q⟩ := h2
 subst e
 refine comp_block (RR := fun acc C => compPost (model X.prog X.w) X.A X.xe (some (assign (.Name y py) X.env)) (fun _ s' => SP X pins D .next s') acc C) (locs := locs) (cs := cs) (Fin := fun H' => gName i (.ref s2.heap.objs.size) σ H' D.nx) hc hb hcap I2 T st2 f2 (hg _ _ _) (ht _ _ _) (he _ _ _) (q _ (I2.hok.fresh (Nat.le_refl _))) ?_
 intro σ' H' s' J' q'
 obtain ⟨m, hn, _⟩ := J'.loc
 have I3 := cxC_back I2 f2 J'
 have fr : H' (s2.heap.objs.size + 1) = none := J'.free
 have neL : s2.heap.objs.size + 1 ≠ X.env.locals := Nat.ne_of_gt (Nat.lt_succ_of_lt I2.lt)
 have neC : ∀ x c, X.env.cells.lookup x = some c → c ≠ s2.heap.objs.size + 1 := fun x c e z => by
  obtain ⟨v, hv⟩ := I2.cell x c e
  have h1 : s2.heap.objs.size + 1 < s2.heap.objs.size := z ▸ hv.lt
  exact absurd h1 (Nat.not_lt.mpr (Nat.le_succ _))
 show wpAny _ X.A (assign (.Name y py) X.env (.ref s2.heap.objs.size)) _ _ s'
 refine wpAny_assign_Name (store_ok2 I3 hN hiy (.inl hy) (v := .ref s2.heap.objs.size) rfl (fun s4 I4 hsb => ?_) (.inr hy))
 obtain ⟨a, sb, ha⟩ := hsb
 have ane : s2.heap.objs.size + 1 ≠ a := by
  rcases ha with rfl | ha
  ·exact neL
  ·exact Ne.symm (neC _ _ ha)
 refine ⟨m, hn.sameBut sb ane, fun h' hs' => ?_⟩
 refine ⟨_, H', I4.turned (t' := s4.toks) (it := s2.heap.objs.size + 1) (fun b o hb e => (hs'.2 b hb).trans e) fr neL (.inr (Nat.le_trans I2.sz (Nat.le_succ _))) neC ?_, q'⟩
 intro p hp z
 have h1 : s2.heap.objs.size + 1 < s2.heap.objs.size := z ▸ Heap.lt_size (I2.pin p hp).1
 exact absurd h1 (Nat.not_lt.mpr (Nat.le_succ _))
end
def Its (x : Str) : It := ⟨fun i _ => i < x.cps.size, fun i H v H' => H' = H ∧ ∃ c, x.cps[i]? = some c ∧ v = .str ⟨#[c]⟩, fun i _ => i = x.cps.size⟩
theorem turn_str {P : Program} {w : World} {K : PySem.W.Frag} {tg : Expr} (it : Addr) (x : Str) (t : Tok) (T : String) (hT : T = "str_ascii_iterator" ∨ T = "str_iterator")
  (W : ∀ A' : Around, A'.handled = none → Walks P w A' it [it] [it] x.cps.size (SignAt x) (fun i h => h.IsStrIter it T x t i)) : Turn P w K tg (Its x) [it] it (fun i h => h.IsStrIter it T x t i) where
 mem := by simp
 obj := fun i h st b hb => by
  have e : b = it := by simpa using hb
  subst e
  obtain ⟨o, e, c, d⟩ := st
  exact ⟨o, e, fun v z => by rw [d] at z; cases z⟩
 keep := fun i h h' st k => by
  obtain ⟨o, e, r⟩ := st
  exact ⟨o, k it (by simp) o e, r⟩
 item := by
  intro X hP hw hK hc i pins s σ H E I hf st hg
  subst hP hw hK
  obtain ⟨f0, f1, f2, f3, f4, f5⟩ := hf it (by simp)
  refine (W X.A (I.ok.hd hc)).item i s _ _ hg st fun v h' tk hv st' kk => ?_
  obtain ⟨c, u, hcx, rfl⟩ := hv
  have I1 : Inv X pins σ H { s with heap := h', toks := tk } := I.turned (fun b o hb e => kk b o (by simpa using hb) e) f0 f1 f3 f4 f5
  obtain ⟨o, e, c1, d⟩ := id st'
  refine ⟨_, rfl, go_of (s := { s with heap := h', toks := tk }) e c1 d (by rcases hT with rfl | rfl <;> decide) ⟨.str ⟨#[c]⟩, H, I1, ⟨u, rfl⟩, ⟨rfl, c, hcx, rfl⟩, st', fun b hb => (hf b hb).1⟩⟩
 done := by
  intro X hP hw hK hc i pins s σ H E I hf st hg
  subst hP hw hK
  have hg' : i = x.cps.size := hg
  subst hg'
  obtain ⟨f0, f1, f2, f3, f4, f5⟩ := hf it (by simp)
  exact (W X.A (I.ok.hd hc)).done s _ _ st fun h' tk kk => ⟨rfl, I.turned (fun b o hb e => kk b o (by simpa using hb) e) f0 f1 f3 f4 f5⟩
 self := fun A i s Q E st h => by
  rcases hT with rfl | rfl
  ·exact wpAny_pyIter_striter_ascii st h
  ·exact wpAny_pyIter_striter_wide st h
section
variable {X : Cx} {tg : Expr}
def iStr (tl : TE) : TI := fun σ H R => tl σ H fun x H1 => ∃ z, x = .str z ∧ R (Its z) H1
theorem pi_str {l : Expr} {tl : TE} (hl : PE X l tl) : PI X tg l (iStr tl) := by
 intro pins s σ H R I h
 refine thn (hl pins s σ H _ I h) fun v s1 ⟨x, H1, I1, r1, q1⟩ => ?_
 obtain ⟨z, rfl, q⟩ := q1
 obtain ⟨t, rfl⟩ := r1
 have fin : ∀ (T : String) (o : Obj), (T = "str_ascii_iterator" ∨ T = "str_iterator") → (∀ A' : Around, A'.handled = none → Walks X.prog X.w A' s1.heap.objs.size [s1.heap.objs.size] [s1.heap.objs.size] z.cps.size (SignAt z) (fun i h => h.IsStrIter s1.heap.objs.size T z t i)) →
   (s1.heap.push o).IsStrIter s1.heap.objs.size T z t 0 → PIE X pins σ tg R (.ref s1.heap.objs.size) { s1 with heap := s1.heap.push o } := fun T o hT W st => by
  refine ⟨s1.heap.objs.size, [s1.heap.objs.size], _, _, H1, rfl, I1.kept (t' := s1.toks) fun b o e => Heap.get?_push_of_some _ e, turn_str _ z t T hT W, st, fun b hb => ?_, q⟩
  have e : b = s1.heap.objs.size := by simpa using hb
  subst e
  exact I1.fpOk (Nat.le_refl _) (I1.hok.fresh (Nat.le_refl _))
 cases ha : z.cps.all (· < 128)
 ·exact wpAny_pyIter_wide ha (fin "str_iterator" _ (.inr rfl) (fun A' hA => Walks.strWide hA _ z t) ⟨_, Heap.get?_push_size _ rfl, rfl, rfl⟩)
 ·exact wpAny_pyIter_ascii ha (fin "str_ascii_iterator" _ (.inl rfl) (fun A' hA => Walks.strAscii hA _ z t) ⟨_, Heap.get?_push_size _ rfl, rfl, rfl⟩)
end
theorem for_str {z : Str} {g : TG} {tb : TS} {D : Ends} {σ : St} {H : Hp} (Pv : Nat → St → Hp → Prop) (h0 : Pv 0 σ H)
  (hs : ∀ i c σ H, z.cps[i]? = some c → Pv i σ H → g (.str ⟨#[c]⟩) σ H fun σ2 H2 => tb { D with nx := Pv (i + 1), ct := Pv (i + 1), bk := D.nx } σ2 H2) (hd : ∀ σ H, Pv z.cps.size σ H → D.nx σ H) :
  ∃ W : Nat → Nat → St → Hp → Prop, (∃ m, W 0 m σ H) ∧ ∀ i m σ H, W i m σ H →
   ((Its z).stop i H ∧ D.nx σ H) ∨ ((Its z).go i H ∧ ∃ N : St → Hp → Prop, (∀ σ' H', N σ' H' → ∃ m', m' < m ∧ W (i + 1) m' σ' H') ∧ ∀ x H', (Its z).yld i H x H' → g x σ H' fun σ2 H2 => tb { D with nx := N, ct := N, bk := D.nx } σ2 H2) := by
 refine ⟨fun i m σ H => m = z.cps.size - i ∧ i ≤ z.cps.size ∧ Pv i σ H, ⟨z.cps.size, by simp, Nat.zero_le _, h0⟩, ?_⟩
 rintro i m σ H ⟨rfl, hi, p⟩
 by_cases hlt : i < z.cps.size
 ·refine .inr ⟨hlt, Pv (i + 1), fun σ' H' p' => ⟨z.cps.size - (i + 1), by omega, rfl, hlt, p'⟩, fun x H' y => ?_⟩
  obtain ⟨e, c, hc, rfl⟩ := y
  subst e
  exact hs i c σ _ hc p
 ·have e : i = z.cps.size := by omega
  subst e
  exact .inl ⟨rfl, hd σ H p⟩
section
variable {X : Cx}
theorem part_val {u : Value} {o : Option Int} (p : IsPart u o) : ∃ l : Option (Int × Tok), u = partValue l ∧ l.map (·.1) = o := by
 cases p with
 | none => exact ⟨none, rfl, rfl⟩
 | int i t => exact ⟨some (i, t), rfl, rfl⟩
def rSlS : V → Option Int → Option Int → Hp → VK → Prop := fun x lo hi H Q => ∃ z, x = .str z ∧ z.length ≤ sizeLine ∧ Q (.str (Txt.slice z lo hi)) H
theorem sl_str : SlR X rSlS := by
 intro pins s σ H x v vl vu lo hi sl Q I rx hs pl pu h
 obtain ⟨z, rfl, hz, q⟩ := h
 obtain ⟨t, rfl⟩ := rx
 obtain ⟨l, rfl, rfl⟩ := part_val pl
 obtain ⟨u, rfl, rfl⟩ := part_val pu
 refine ⟨"str", _, F.slot_str_getitem.lookup, typeIs_str _ _ _, wpAny_getItem_str_slice (l := l) (u := u) (st := none) hs rfl ?_⟩
 exact post_val_or_str ⟨Nat.le_trans (Txt.slice_le z _ _) hz, fun t' k => ⟨.str (Txt.slice z (l.map (·.1)) (u.map (·.1))), H, I.tok _, ⟨t', rfl⟩, q⟩⟩
theorem idx_cut (lo hi : Option Int) (n : Nat) : Builtin.Str.strSliceIndices lo hi 1 n = (List.range (HT.sIx n n hi - HT.sIx n 0 lo)).map fun k => HT.sIx n 0 lo + k := by
 have c : ∀ (v : Int) (d : Nat), max 0 (min (if v < 0 then v + (n : Int) else v) (n : Int)) = ((HT.sIx n d (some v) : Nat) : Int) := fun v d => by
  rw [← HT.clip_eq v n d]
  by_cases hv : v < 0
  ·simp only [if_pos hv]; omega
  ·simp only [if_neg hv]; omega
 have key : ∀ i j : Nat, sliceRange (i : Int) (j : Int) 1 = (List.range (j - i)).map fun k => i + k := fun i j => by
  unfold sliceRange
  simp only [show (1 : Int) > 0 by decide, if_true]
  have e : (if (i : Int) < (j : Int) then ((j : Int) - i + 1 - 1) / 1 else 0).toNat = j - i := by
   split <;> omega
  rw [e]
  refine List.map_congr_left fun k _ => ?_
  omega
 rw [← key]
 unfold Builtin.Str.strSliceIndices
 simp only [show (1 : Int) > 0 by decide, if_true]
 cases lo with
 | none =>
  cases hi with
  | none => rfl
  | some v => rw [← c v n]; rfl
 | some u =>
  cases hi with
  | none => rw [← c u 0]; rfl
  | some v => rw [← c v n, ← c u 0]
theorem slice_cps (x : Str) (lo hi : Option Int) : (Txt.slice x lo hi).cps.toList = (x.cps.toList.drop (HT.sIx x.length 0 lo)).take (HT.sIx x.length x.length hi - HT.sIx x.length 0 lo) := by
 have h0 := HT.sIx_le x.length 0 (Nat.zero_le _) lo
 have h1 := HT.sIx_le x.length x.length (Nat.le_refl _) hi
 have hx : x.cps.toList.length = x.length := by simp [Str.length]
 unfold Txt.slice
 rw [idx_cut]
 split
 ·rename_i h
  rw [Bool.and_eq_true] at h
  have h' : HT.sIx x.length x.length hi - HT.sIx x.length 0 lo = x.length := by
   have z := h.2
   rw [List.length_map, List.length_range] at z
   exact eq_of_beq z
  have h2 : HT.sIx x.length 0 lo = 0 := by omega
  rw [h', h2, List.drop_zero, List.take_of_length_le (by omega)]
 ·show (List.filterMap _ _).toArray.toList = _
  rw [List.filterMap_map]
  apply List.ext_getElem?
  intro k
  have key : (List.range (HT.sIx x.length x.length hi - HT.sIx x.length 0 lo)).filterMap ((fun i => x.cps[i]?) ∘ fun k => HT.sIx x.length 0 lo + k) = (x.cps.toList.drop (HT.sIx x.length 0 lo)).take (HT.sIx x.length x.length hi - HT.sIx x.length 0 lo) := by
   generalize HT.sIx x.length 0 lo = i at h0 ⊢
   have hj : i + (HT.sIx x.length x.length hi - i) ≤ x.length ∨ HT.sIx x.length x.length hi - i = 0 := by omega
   generalize HT.sIx x.length x.length hi - i = d at hj ⊢
   induction d with
   | zero => simp
   | succ d ih =>
    rw [List.range_succ, List.filterMap_append, ih (by omega), List.take_add_one]
    congr 1
    have hlt : i + d < x.cps.size := by simp [Str.length] at hj; omega
    simp [hlt]
  simpa using congrArg (fun l : List Nat => l[k]?) key
theorem op_le_str : OpR X (compareOp .LtE) (fun x y H Q => ∃ i j, x = .str i ∧ y = .str j ∧ Q (.bl (!decide (j.cps.toList < i.cps.toList))) H) := by
 intro pins s σ H x y v u Q I rx ry h
 obtain ⟨i, j, rfl, rfl, q⟩ := h
 obtain ⟨t, rfl⟩ := rx
 obtain ⟨t', rfl⟩ := ry
 exact P.le_str ⟨.bl (!decide (j.cps.toList < i.cps.toList)), H, I, rfl, q⟩
theorem range_all (bs : List Bool) : (List.range bs.length).all (fun i => (bs[i]?).getD true) = bs.all id := by
 rw [Bool.eq_iff_iff, List.all_eq_true, List.all_eq_true]
 constructor
 ·intro h b hb
  obtain ⟨i, hi, e⟩ := List.mem_iff_getElem.mp hb
  have q := h i (List.mem_range.mpr hi)
  rw [List.getElem?_eq_getElem hi, e] at q
  exact q
 ·intro h i hi
  have hi' := List.mem_range.mp hi
  rw [List.getElem?_eq_getElem hi']
  exact h _ (List.getElem_mem hi')
theorem call_allB (hc : X.calm = true) : CallR X (.builtin "all") (fun xs H Q => ∃ (p : Addr) (bs : List Bool), xs = [.ref p] ∧ SqL X.K H p (bs.map V.bl) ∧ Q (.bl (bs.all id)) H) := by
 intro pins s σ H xs us Q I r h
 obtain ⟨p, bs, rfl, hp, q⟩ := h
 obtain ⟨u, rfl, ru⟩ := r.one
 cases ru
 obtain ⟨its, rv, pl, hz⟩ := I.list hp
 have hh : X.A.in1.handled = none := I.ok.hd hc
 have hlt : p < s.heap.objs.size := by obtain ⟨_, e, _⟩ := pl.isList; exact Heap.lt_size e
 have hlen : its.length = bs.length := by have := rv.length; simpa using this.symm
 refine call_all_walk (wpAny_pyIter_list pl.isList ⟨s.heap.objs.size, [s.heap.objs.size, p], [s.heap.objs.size], its.toArray.size, _, _, fun i => (bs[i]?).getD true, rfl, Walks.list hh _ _ (Nat.ne_of_lt hlt) its.toArray, ⟨⟨_, Heap.get?_push_size _ rfl, rfl, rfl⟩, pl.isList.push _⟩, ?_, ?_⟩)
 ·intro i v s' Q' E' hv hq
  have hv' : its[i]? = some v := by simpa using hv
  cases hb : bs[i]? with
  | none =>
   have z : bs.length ≤ i := by simpa using hb
   rw [List.getElem?_eq_none (by omega)] at hv'
   cases hv'
  | some b =>
   obtain ⟨u, hu, ru⟩ := rv.get (i := i) (x := V.bl b) (by rw [List.getElem?_map, hb]; rfl)
   rw [hv'] at hu
   cases hu
   obtain rfl : v = Value.bool b := ru
   have hq' : Q' b s' := by
    have z : (fun i => (bs[i]?).getD true) i = b := by simp [hb]
    rw [z] at hq
    exact hq
   exact wpAny_truthy_bool hq'
 ·intro h' tk hk
  have I1 : Inv X pins σ H { s with heap := h', toks := tk } := I.kept fun b o e => hk b o (fun z => by
   have z' : b = s.heap.objs.size := by simpa using z
   exact absurd (z' ▸ Heap.lt_size e) (Nat.lt_irrefl _)) (Heap.get?_push_of_some _ e)
  refine ⟨.bl (bs.all id), H, I1, ?_, q⟩
  show Value.bool _ = Value.bool _
  rw [List.size_toArray, hlen, range_all]
theorem call_isinst : CallR X (.builtin "isinstance") (fun xs H Q => ∃ x n t b, xs = [x, .ty n] ∧ TyOf X.K H x t ∧ PySem.W.kitOne X.K t (.type n) = some b ∧ Q (.bl b) H) := by
 intro pins s σ H xs us Q I r h
 obtain ⟨x, n, t, b, rfl, ty, e, q⟩ := h
 obtain ⟨u, v, rfl, ru, rv⟩ := r.two
 cases rv
 exact isinst_ok I ru ty e fun tk => ⟨.bl b, H, I.tok _, rfl, q⟩
end
end L2
namespace L2
open PySem PySem.Spec PyProof.Rows
section
variable {X : Cx}
end
inductive Kd where
 | nm (x : Str)
 | two (a b : Kd)
 | som (r : Str) (c : Kd)
 deriving DecidableEq
def Kd.dep : Kd → Nat
 | .nm _ => 0
 | .two a b => 1 + max a.dep b.dep
 | .som _ c => 1 + c.dep
def Kd.nt : Kd → Nat
 | .nm _ => 0
 | .two a b => 1 + a.nt + b.nt
 | .som _ c => 1 + c.nt
def Kd.sz : Kd → Nat
 | .nm _ => 1
 | .two a b => 1 + a.sz + b.sz
 | .som _ c => 1 + c.sz
def Kd.inner : Kd → List Kd
 | .nm _ => []
 | .two a b => [a, b]
 | .som _ c => [c]
theorem Kd.dep_le_nt : ∀ k : Kd, k.dep ≤ k.nt
 | .nm _ => Nat.le_refl _
 | .two a b => by
  have h1 := dep_le_nt a
  have h2 := dep_le_nt b
  simp only [Kd.dep, Kd.nt]; omega
 | .som _ c => by
  have h1 := dep_le_nt c
  simp only [Kd.dep, Kd.nt]; omega
def IsK (H : Hp) : Kd → V → Prop
 | .nm x, v => v = .str x
 | .two a b, v => ∃ (p : Addr) (x y : V), v = .ref p ∧ H p = some (.tup [.str "both", x, y]) ∧ IsK H a x ∧ IsK H b y
 | .som r c, v => ∃ (p : Addr) (y : V), v = .ref p ∧ H p = some (.tup [.str "some", .str r, y]) ∧ IsK H c y
def Tups (H H' : Hp) : Prop := ∀ b xs, H b = some (.tup xs) → H' b = some (.tup xs)
theorem Tups.refl (H : Hp) : Tups H H := fun _ _ h => h
theorem Tups.trans {H H1 H2 : Hp} (a : Tups H H1) (b : Tups H1 H2) : Tups H H2 := fun c o h => b c o (a c o h)
theorem Same.tups {H H' : Hp} (h : Same H H') : Tups H H' := fun b xs e => h b _ e
theorem tups_new {H : Hp} {p : Addr} {o : HO} (h : H p = none) : Tups H (upd H p o) := (same_new h o).tups
theorem tups_lst {H : Hp} {p : Addr} {o : HO} {xs : List V} (h : H p = some (.lst xs)) : Tups H (upd H p o) := fun b ys e => by
 rw [upd_ne (ne_of e h (by intro z; cases z))]
 exact e
theorem IsK.mono {H H' : Hp} (t : Tups H H') : ∀ {k : Kd} {v : V}, IsK H k v → IsK H' k v
 | .nm _, _, h => h
 | .two _ _, _, ⟨p, x, y, e, h, ha, hb⟩ => ⟨p, x, y, e, t _ _ h, IsK.mono t ha, IsK.mono t hb⟩
 | .som _ _, _, ⟨p, y, e, h, hc⟩ => ⟨p, y, e, t _ _ h, IsK.mono t hc⟩
theorem both_ne_some : (Str.ofString "both" : Str) ≠ Str.ofString "some" := by decide +kernel
section
variable {X : Cx} {pins : List (Addr × Obj)} {σ : St} {H : Hp} {s : Shared}
theorem in1_units (A : Around) : A.in1.units = A.units + 1 := rfl
end
def KL (H : Hp) : List V → List Kd → Prop := Paired fun v k => IsK H k v
theorem KL.mono {H H' : Hp} (t : Tups H H') {xs : List V} {ks : List Kd} (h : KL H xs ks) : KL H' xs ks := Paired.imp' (fun _ _ q => IsK.mono t q) h
theorem KL.len {H : Hp} {xs : List V} {ks : List Kd} (h : KL H xs ks) : xs.length = ks.length := Paired.length h
theorem KL.get {H : Hp} : ∀ {xs : List V} {ks : List Kd} {i : Nat} {v : V}, KL H xs ks → xs[i]? = some v → ∃ k, ks[i]? = some k ∧ IsK H k v
 | _, _, _, _, .nil, e => by simp at e
 | _, _, 0, _, .cons r _, e => by simp at e; subst e; exact ⟨_, rfl, r⟩
 | _, _, i + 1, v, .cons _ t, e => by
  obtain ⟨u, h1, h2⟩ := KL.get (i := i) (v := v) t (by simpa using e)
  exact ⟨u, by simpa using h1, h2⟩
section
variable {X : Cx}
end
end L2
namespace L2
open PySem PySem.Spec PyProof.Rows
section
variable {X : Cx}
end
section
variable {X : Cx} {pins : List (Addr × Obj)} {σ : St} {H : Hp} {s : Shared}
end
section
variable {X : Cx}
end
end L2
namespace L2
open PySem PySem.Spec PyProof.Rows
section
variable {X : Cx} {pins : List (Addr × Obj)} {σ : St} {H : Hp} {s : Shared} {h' : Heap}
theorem Inv.turnedL {t' : Nat} {fp : List Addr} (I : Inv X pins σ H s) (hf : ∀ b ∈ fp, FpOk X pins H b) (k : ∀ b o, b ∉ fp → s.heap.get? b = some o → h'.get? b = some o) : Inv X pins σ H { s with heap := h', toks := t' } := by
 have nit : ∀ b u, H b = some u → b ∉ fp := fun b u e z => by rw [(hf b z).1] at e; cases e
 refine I.step (g' := s.gens) (d' := s.drawn) (ch := fp) (fun b hb => ?_) (fun b o _ _ hc e _ => k b o hc e) (fun b o _ _ hc e _ => ⟨o.slots, k b o hc e⟩) (fun _ _ _ _ n => n)
  (fun b o hc e => ⟨o, k b o hc e⟩) (fun _ _ e => e) (fun _ _ _ e => e) (fun b ps e => ⟨#[], by rw [e]; simp⟩) (fun m hm => ?_) (fun b u e => ?_) I.bare
 ·obtain ⟨f0, f1, f2, f3, f4, f5⟩ := hf b hb
  exact ⟨f3, f1, f4, f5⟩
 ·obtain ⟨o, es, ep, ho, r⟩ := hm
  exact ⟨o, es, ep, k _ o (fun z => (hf _ z).2.1 rfl) ho, r⟩
 ·refine (I.hok b u e).stay (fun c v hc q => k c v ?_ q) (fun _ q => q) fun _ _ q => q
  rcases hc with z | z
  ·rw [z]; exact nit b u e
  ·exact nit c _ z
theorem Inv.turnedT {t' : Nat} {fp : List Addr} {T : Addr} {u : HO} (I : Inv X pins σ H s) (hf : ∀ b ∈ fp, FpOk X pins H b) (k : ∀ b o, b ∉ fp → s.heap.get? b = some o → h'.get? b = some o) (hT : s.heap.objs.size ≤ T) (new : ObjOk X.prog X.w (upd H T u) h' T u) :
  Inv X pins σ (upd H T u) { s with heap := h', toks := t' } := by
 have nit : ∀ b u, H b = some u → b ∉ fp := fun b u e z => by rw [(hf b z).1] at e; cases e
 have hn : H T = none := I.hok.fresh hT
 have nT : ∀ b o, s.heap.get? b = some o → b ≠ T := fun b o e => Nat.ne_of_lt (Nat.lt_of_lt_of_le (Heap.lt_size e) hT)
 refine I.step (g' := s.gens) (d' := s.drawn) (ch := fp) (fun b hb => ?_) (fun b o _ _ hc e _ => k b o hc e) (fun b o _ _ hc e _ => ⟨o.slots, k b o hc e⟩) (fun b o _ e n => by rw [upd_ne (nT b o e)]; exact n)
  (fun b o hc e => ⟨o, k b o hc e⟩) (fun b xs e => by rw [upd_ne (ne_of_none e hn)]; exact e) (fun b o u e => by rw [upd_ne (ne_of_none e hn)]; exact e) (fun b ps e => ⟨#[], by rw [upd_ne (ne_of_none e hn), e]; simp⟩) (fun m hm => ?_) (fun b u' e => ?_) I.bare
 ·obtain ⟨f0, f1, f2, f3, f4, f5⟩ := hf b hb
  exact ⟨f3, f1, f4, f5⟩
 ·obtain ⟨o, es, ep, ho, r⟩ := hm
  exact ⟨o, es, ep, k _ o (fun z => (hf _ z).2.1 rfl) ho, r⟩
 ·by_cases hb : b = T
  ·subst hb
   rw [upd_same] at e
   cases e
   exact new
  ·rw [upd_ne hb] at e
   refine (I.hok b u' e).stay (fun c v hc q => k c v ?_ q) (fun c q => by rw [upd_ne (ne_of_none q hn)]; exact q) fun c xs q => by rw [upd_ne (ne_of_none q hn)]; exact q
   rcases hc with z | z
   ·rw [z]; exact nit b u' e
   ·exact nit c _ z
end
section
variable {X : Cx}
theorem parts_len (x : Str) (cuts : List Nat) (n : Nat) : (Builtin.Str.partsBetween x cuts n).length = cuts.length + 1 := by
 unfold Builtin.Str.partsBetween
 simp
end
end L2
namespace L2
open PySem PySem.Spec PyProof.Rows
section
variable {κ : Type} [DecidableEq κ]
def valV (kvs : List (κ × V)) (k : κ) : Option V := (kvs.find? fun kv => decide (kv.1 = k)).map (·.2)
def putK (kvs : List (κ × V)) (k : κ) (v : V) : List (κ × V) :=
  if (kvs.any fun kv => decide (kv.1 = k)) = true then kvs.map (fun kv => if kv.1 = k then (kv.1, v) else kv) else kvs ++ [(k, v)]
theorem valV_pos {p : κ × V} {r : List (κ × V)} {k : κ} (e : p.1 = k) : valV (p :: r) k = some p.2 := by simp [valV, List.find?_cons, e]
theorem valV_neg {p : κ × V} {r : List (κ × V)} {k : κ} (e : ¬ p.1 = k) : valV (p :: r) k = valV r k := by simp [valV, List.find?_cons, e]
theorem valV_any (k : κ) : ∀ kvs : List (κ × V), (kvs.any fun kv => decide (kv.1 = k)) = (valV kvs k).isSome
  | [] => rfl
  | p :: r => by
    rw [List.any_cons]
    by_cases e : p.1 = k
    · simp only [valV_pos e, decide_eq_true e, Bool.true_or, Option.isSome_some]
    · rw [valV_neg e, decide_eq_false e, Bool.false_or]; exact valV_any k r
theorem valV_map (k j : κ) (y : V) : ∀ kvs : List (κ × V), valV (kvs.map fun kv => if kv.1 = k then (kv.1, y) else kv) j = (valV kvs j).map fun x => if j = k then y else x
  | [] => rfl
  | p :: r => by
    have ih := valV_map k j y r
    rw [List.map_cons]
    by_cases h : p.1 = k
    · rw [if_pos h]
      by_cases e : p.1 = j
      · rw [valV_pos (p := (p.1, y)) e, valV_pos e, Option.map_some, if_pos (e.symm.trans h)]
      · rw [valV_neg (p := (p.1, y)) e, valV_neg e, ih]
    · rw [if_neg h]
      by_cases e : p.1 = j
      · rw [valV_pos (p := p) e, valV_pos e, Option.map_some, if_neg (fun z => h (e.trans z))]
      · rw [valV_neg (p := p) e, valV_neg e, ih]
theorem valV_snoc (k j : κ) (y : V) : ∀ kvs : List (κ × V), valV kvs k = none → valV (kvs ++ [(k, y)]) j = if j = k then some y else valV kvs j
  | [], _ => by
    by_cases e : k = j
    · rw [if_pos e.symm]; exact valV_pos (p := (k, y)) e
    · rw [if_neg (fun z => e z.symm)]; exact valV_neg (p := (k, y)) e
  | p :: r, hn => by
    rw [List.cons_append]
    have hk : ¬ p.1 = k := fun z => by rw [valV_pos z] at hn; cases hn
    rw [valV_neg hk] at hn
    have ih := valV_snoc k j y r hn
    by_cases e : p.1 = j
    · rw [valV_pos e, valV_pos e, if_neg (fun z => hk (e.trans z))]
    · rw [valV_neg e, valV_neg e, ih]
theorem valV_put (kvs : List (κ × V)) (k j : κ) (y : V) : valV (putK kvs k y) j = if j = k then some y else valV kvs j := by
  unfold putK
  by_cases a : (kvs.any fun kv => decide (kv.1 = k)) = true
  · rw [if_pos a, valV_map]
    rw [valV_any] at a
    by_cases e : j = k
    · obtain ⟨x, hx⟩ := Option.isSome_iff_exists.mp a
      rw [if_pos e, e, hx, Option.map_some, if_pos rfl]
    · rw [if_neg e]
      cases valV kvs j with
      | none => rfl
      | some x => rw [Option.map_some, if_neg e]
  · rw [if_neg a]
    refine valV_snoc k j y kvs ?_
    rw [valV_any] at a
    cases q : valV kvs k with
    | none => rfl
    | some x => rw [q] at a; exact (a rfl).elim
theorem length_putK (kvs : List (κ × V)) (k : κ) (v : V) : (putK kvs k v).length ≤ kvs.length + 1 := by
  unfold putK
  split
  · rw [List.length_map]; omega
  · rw [List.length_append, List.length_cons, List.length_nil]; omega
theorem RelO.isSome_eq {o : Option V} {u : Option Value} (r : RelO o u) : o.isSome = u.isSome := by
  cases o with
  | none => cases u with
    | none => rfl
    | some _ => exact (show False from r).elim
  | some _ => cases u with
    | none => exact (show False from r).elim
    | some _ => rfl
theorem RelO.getD {o : Option V} {u : Option Value} {d : V} {d' : Value} (r : RelO o u) (rd : RelV d d') : RelV (o.getD d) (u.getD d') := by
  cases o with
  | none => cases u with
    | none => exact rd
    | some _ => exact (show False from r).elim
  | some _ => cases u with
    | none => exact (show False from r).elim
    | some _ => exact r
theorem KV.val {kvs : List (κ × V)} {vs : List (κ × Value)} (r : KV kvs vs) (k : κ) : RelO (valV kvs k) (valueAt vs k) := by
  unfold KV at r
  induction r with
  | nil => exact True.intro
  | @cons p q ps qs h t ih =>
    obtain ⟨h1, h2⟩ := h
    by_cases e : p.1 = k
    · have e' : q.1 = k := h1.symm.trans e
      have b : valueAt (q :: qs) k = some q.2 := by simp [valueAt, List.find?_cons, e']
      rw [valV_pos e, b]; exact h2
    · have e' : ¬ q.1 = k := fun z => e (h1.trans z)
      have b : valueAt (q :: qs) k = valueAt qs k := by simp [valueAt, List.find?_cons, e']
      rw [valV_neg e, b]; exact ih
theorem KV.any {kvs : List (κ × V)} {vs : List (κ × Value)} (r : KV kvs vs) (k : κ) : (kvs.any fun kv => decide (kv.1 = k)) = vs.any fun kv => decide (kv.1 = k) := by
  unfold KV at r
  induction r with
  | nil => rfl
  | cons h t ih => rw [List.any_cons, List.any_cons, ih, h.1]
theorem KV.repl {kvs : List (κ × V)} {vs : List (κ × Value)} (r : KV kvs vs) (k : κ) {y : V} {u : Value} (ry : RelV y u) :
    KV (kvs.map fun kv => if kv.1 = k then (kv.1, y) else kv) (vs.map fun kv => if kv.1 = k then (kv.1, u) else kv) := by
  unfold KV at r ⊢
  induction r with
  | nil => exact .nil
  | @cons p q ps qs h t ih =>
    rw [List.map_cons, List.map_cons]
    refine .cons ?_ ih
    obtain ⟨h1, h2⟩ := h
    by_cases e : p.1 = k
    · rw [if_pos e, if_pos (h1.symm.trans e)]; exact ⟨h1, ry⟩
    · rw [if_neg e, if_neg (fun z => e (h1.trans z))]; exact ⟨h1, h2⟩
theorem KV.put {kvs : List (κ × V)} {vs : List (κ × Value)} (r : KV kvs vs) (k : κ) {y : V} {u : Value} (ry : RelV y u) : KV (putK kvs k y) (stored vs k u) := by
  unfold putK stored
  rw [r.any k]
  by_cases e : (vs.any fun kv => decide (kv.1 = k)) = true
  · rw [if_pos e, if_pos e]; exact r.repl k ry
  · rw [if_neg e, if_neg e]; exact Paired.snoc r ⟨rfl, ry⟩
theorem KV.length {kvs : List (κ × V)} {vs : List (κ × Value)} (r : KV kvs vs) : kvs.length = vs.length := Paired.length r
end
theorem kV_is {P : Program} {w : World} {k : Key} {u : Value} (r : RelV (kV k) u) : (mixKind P w).is k u = true := by
  cases k with
  | inl i => obtain ⟨t, e⟩ := (show ∃ t, u = Value.int i t from r); subst e; exact mixKind_int P w i t
  | inr x => obtain ⟨t, e⟩ := (show ∃ t, u = Value.str x t from r); subst e; exact mixKind_str P w x t
theorem items_are {P : Program} {w : World} : ∀ {ks : List Key} {us : List Value}, Vals (ks.map kV) us → ItemsAre (mixKind P w) ks us
  | [], _, r => by rw [List.map_nil] at r; cases r; exact .nil
  | k :: ks, _, r => by
    rw [List.map_cons] at r
    cases r with
    | cons h t => exact .cons (kV_is h) (items_are t)
abbrev KT (H : Hp) : List (List Key × V) → List (List Key × Addr × Value) → Prop := Paired fun p q => p.1 = q.1 ∧ H q.2.1 = some (.tup (p.1.map kV)) ∧ RelV p.2 q.2.2
theorem KT.val {H : Hp} {kvs : List (List Key × V)} {xs : List (List Key × Addr × Value)} (r : KT H kvs xs) (k : List Key) : RelO (valV kvs k) ((atKey xs k).map (·.2)) := by
  induction r with
  | nil => exact True.intro
  | @cons p q ps qs h t ih =>
    obtain ⟨h1, _, h2⟩ := h
    by_cases e : p.1 = k
    · have e' : q.1 = k := h1.symm.trans e
      have b : atKey (q :: qs) k = some q.2 := by simp [atKey, List.find?_cons, e']
      rw [valV_pos e, b]; exact h2
    · have e' : ¬ q.1 = k := fun z => e (h1.trans z)
      have b : atKey (q :: qs) k = atKey qs k := by simp [atKey, List.find?_cons, e']
      rw [valV_neg e, b]; exact ih
theorem KT.repl {H : Hp} {kvs : List (List Key × V)} {xs : List (List Key × Addr × Value)} (r : KT H kvs xs) (k : List Key) {y : V} {u : Value} (ry : RelV y u) :
    KT H (kvs.map fun kv => if kv.1 = k then (kv.1, y) else kv) (xs.map (putAt k u)) := by
  induction r with
  | nil => exact .nil
  | @cons p q ps qs h t ih =>
    rw [List.map_cons, List.map_cons]
    refine .cons ?_ ih
    obtain ⟨h1, h2, h3⟩ := h
    unfold putAt
    by_cases e : p.1 = k
    · rw [if_pos e, if_pos (h1.symm.trans e)]; exact ⟨h1, h2, ry⟩
    · rw [if_neg e, if_neg (fun z => e (h1.trans z))]; exact ⟨h1, h2, h3⟩
theorem KT.put {H : Hp} {kvs : List (List Key × V)} {xs : List (List Key × Addr × Value)} (r : KT H kvs xs) (k : List Key) {b : Addr} {y : V} {u : Value} (hb : H b = some (.tup (k.map kV))) (ry : RelV y u) :
    KT H (putK kvs k y) (storedH xs k b u) := by
  have e : (kvs.any fun kv => decide (kv.1 = k)) = (atKey xs k).isSome := by
    rw [valV_any, (r.val k).isSome_eq, Option.isSome_map]
  unfold putK storedH
  rw [e]
  by_cases q : (atKey xs k).isSome = true
  · rw [if_pos q, if_pos q]; exact r.repl k ry
  · rw [if_neg q, if_neg q]; exact Paired.snoc r ⟨rfl, hb, ry⟩
theorem KT.keeps {H H' : Hp} {kvs : List (List Key × V)} {xs : List (List Key × Addr × Value)} (r : KT H kvs xs) (ht : ∀ b ys, H b = some (.tup ys) → H' b = some (.tup ys)) : KT H' kvs xs :=
  Paired.mapP r fun _ _ z => ⟨z.1, ht _ _ z.2.1, z.2.2⟩
section
variable {P : Program} {w : World} {H : Hp} {h : Heap} {a : Addr}
theorem rd_of {u : HO} (ok : HOk P w H h) (e : Rd H a u) : ObjOk P w H h a u := e.ok ok
theorem dk_rd {kvs : List (Key × V)} (ok : HOk P w H h) (e : Rd H a (.dK kvs)) : kvs.length ≤ sizeLine ∧ (a == sysModules) = false ∧ ∃ vs, KV kvs vs ∧ h.DictOf (mixKind P w) a vs :=
  show ObjOk P w H h a (.dK kvs) from rd_of ok e
theorem dk_of {kvs : List (Key × V)} (ok : HOk P w H h) (e : H a = some (.dK kvs)) : kvs.length ≤ sizeLine ∧ (a == sysModules) = false ∧ ∃ vs, KV kvs vs ∧ h.DictOf (mixKind P w) a vs := dk_rd ok (.inl e)
theorem key_of {ks : List Key} (ok : HOk P w H h) (e : H a = some (.tup (ks.map kV))) : (tupleKind (mixKind P w)).is h ks a := by
  obtain ⟨_, its, r, o, h1, h2, n, h3⟩ := (show ObjOk P w H h a (.tup (ks.map kV)) from ok a _ e)
  exact ⟨o, its.toArray, n, h1, h2, h3, by simpa using items_are r⟩
theorem dt_rd {kvs : List (List Key × V)} (ok : HOk P w H h) (e : Rd H a (.dT kvs)) : kvs.length ≤ sizeLine ∧ (a == sysModules) = false ∧
    ∃ xs, KT H kvs xs ∧ h.DictOfH (tupleKind (mixKind P w)) a xs := by
  obtain ⟨z, y, xs, r, o, es, ep, h1, h2, h3, h4, h5⟩ := (show ObjOk P w H h a (.dT kvs) from rd_of ok e)
  refine ⟨z, y, xs, r, o, es, ep, h1, h2, h3, h4, fun x hx => ?_, h5⟩
  have all : ∀ {l : List (List Key × V)} {m : List (List Key × Addr × Value)}, KT H l m → ∀ x ∈ m, (tupleKind (mixKind P w)).is h x.1 x.2.1 := by
    intro l m q
    induction q with
    | nil => intro x hx; exact nomatch hx
    | @cons p q ps qs hq t ih =>
      intro x hx
      rcases List.mem_cons.mp hx with e | hx
      · subst e
        exact key_of ok (by rw [← hq.1]; exact hq.2.1)
      · exact ih x hx
  exact all r x hx
theorem dt_of {kvs : List (List Key × V)} (ok : HOk P w H h) (e : H a = some (.dT kvs)) : kvs.length ≤ sizeLine ∧ (a == sysModules) = false ∧
    ∃ xs, KT H kvs xs ∧ h.DictOfH (tupleKind (mixKind P w)) a xs := dt_rd ok (.inl e)
end
def DGet (H : Hp) (a : Addr) (y : V) (r : Option V) : Prop :=
  (∃ kvs k, Rd H a (.dK kvs) ∧ y = kV k ∧ r = valV kvs k) ∨ ∃ kvs k b, Rd H a (.dT kvs) ∧ y = .ref b ∧ H b = some (.tup (k.map kV)) ∧ r = valV kvs k
def DPut (H : Hp) (a : Addr) (y v : V) (H' : Hp) : Prop :=
  (∃ kvs k, H a = some (.dK kvs) ∧ y = kV k ∧ kvs.length < sizeLine ∧ H' = upd H a (.dK (putK kvs k v))) ∨
  ∃ kvs k b, H a = some (.dT kvs) ∧ y = .ref b ∧ H b = some (.tup (k.map kV)) ∧ kvs.length < sizeLine ∧ H' = upd H a (.dT (putK kvs k v))
theorem DGet.k {H : Hp} {a : Addr} {kvs : List (Key × V)} {k : Key} (e : H a = some (.dK kvs)) : DGet H a (kV k) (valV kvs k) := .inl ⟨kvs, k, .inl e, rfl, rfl⟩
theorem DPut.k {H : Hp} {a : Addr} {kvs : List (Key × V)} {k : Key} {v : V} (e : H a = some (.dK kvs)) (hl : kvs.length < sizeLine) : DPut H a (kV k) v (upd H a (.dK (putK kvs k v))) := .inl ⟨kvs, k, e, rfl, hl, rfl⟩
section
variable {X : Cx} {pins : List (Addr × Obj)} {σ : St} {H : Hp} {s : Shared} {a : Addr} {y v : V} {u r : Value} {o : Option V} {A : Around} {E : Value → Shared → Prop}
theorem Inv.big (I : Inv X pins σ H s) : sysModules < s.heap.objs.size := by
  have h : mainGlobals < s.heap.objs.size := (I.mod.glob.keeps I.bk).lt
  exact Nat.lt_trans (by decide) h
theorem d_getItem {Q : Value → Shared → Prop} (hu : A.units + 1 < cLine) (I : Inv X pins σ H s) (g : DGet H a y (some v)) (ry : RelV y u) (h : ∀ w' s', Inv X pins σ H s' → RelV v w' → Q w' s') :
    wpAny (model X.prog X.w) A (getItem (.ref a) u) Q E s := by
  rcases g with ⟨kvs, k, e, ey, l⟩ | ⟨kvs, k, b, e, ey, eb, l⟩
  · subst ey
    obtain ⟨z, hd, vs, rel, dd⟩ := dk_rd I.hok e
    obtain ⟨w', hw, rw'⟩ := RelO.some_of (v := v) (o := valueAt vs k) (by rw [l]; exact rel.val k)
    exact wpAny_getItem_of (kV_is ry) dd.mapOf hw (h w' _ (I.tok _) rw')
  · subst ey
    cases (show u = Value.ref b from ry)
    obtain ⟨z, hd, xs, rel, dd⟩ := dt_rd I.hok e
    obtain ⟨w', hw, rw'⟩ := RelO.some_of (v := v) (o := (atKey xs k).map (·.2)) (by rw [l]; exact rel.val k)
    obtain ⟨p, hp, hp2⟩ := Option.map_eq_some_iff.mp hw
    refine wpAny_getItem_heap (tupleKind_room_in1 hu) (key_of I.hok eb) dd hp ?_
    rw [hp2]
    exact h w' _ (I.tok _) rw'
theorem d_in {Q : Value → Shared → Prop} (hu : A.units + 1 < cLine) (I : Inv X pins σ H s) (g : DGet H a y o) (ry : RelV y u) (h : ∀ s', Inv X pins σ H s' → Q (.bool o.isSome) s') :
    wpAny (model X.prog X.w) A (compareOp .In u (.ref a)) Q E s := by
  rcases g with ⟨kvs, k, e, ey, l⟩ | ⟨kvs, k, b, e, ey, eb, l⟩
  · subst ey
    obtain ⟨z, hd, vs, rel, dd⟩ := dk_rd I.hok e
    refine wpAny_in_of (kV_is ry) hd dd.mapOf ?_
    rw [← (rel.val k).isSome_eq, ← l]
    exact h _ (I.tok _)
  · subst ey
    cases (show u = Value.ref b from ry)
    obtain ⟨z, hd, xs, rel, dd⟩ := dt_rd I.hok e
    refine wpAny_in_heap (tupleKind_room_in1 hu) (key_of I.hok eb) hd dd ?_
    have q := (rel.val k).isSome_eq
    rw [Option.isSome_map] at q
    rw [← q, ← l]
    exact h _ (I.tok _)
theorem d_write {h' : Heap} {t' : Nat} {ob : HO} (I : Inv X pins σ H s) (mu : Mut (H a)) (hs : Heap.SameBut a s.heap h') (he : ∃ q, h'.get? a = some q) (new : ObjOk X.prog X.w (upd H a ob) h' a ob) :
    Inv X pins σ (upd H a ob) { s with heap := h', toks := t' } :=
  I.write (x := a) (e := a) mu (.inl rfl) (fun b q hb z => (hs.2 b hb).trans z) he new
theorem dk_new {P : Program} {w : World} {H' : Hp} {h' : Heap} {kvs : List (Key × V)} {vs : List (Key × Value)} (z : kvs.length ≤ sizeLine) (hd : (a == sysModules) = false) (rel : KV kvs vs) (dd : h'.DictOf (mixKind P w) a vs) :
    ObjOk P w H' h' a (.dK kvs) := ⟨z, hd, vs, rel, dd⟩
theorem d_setItem {H' : Hp} {Q : Unit → Shared → Prop} (hu : A.units + 1 < cLine) (I : Inv X pins σ H s) (g : DPut H a y v H') (ry : RelV y u) (rv : RelV v r) (h : ∀ s', Inv X pins σ H' s' → Q () s') :
    wpAny (model X.prog X.w) A (setItem (.ref a) u r) Q E s := by
  rcases g with ⟨kvs, k, e, ey, l, eH⟩ | ⟨kvs, k, b, e, ey, eb, l, eH⟩
  · subst ey eH
    obtain ⟨z, hd, vs, rel, dd⟩ := dk_of I.hok e
    have hz : vs.length ≤ sizeLine := by rw [← rel.length]; exact z
    have hl : (putK kvs k v).length ≤ sizeLine := by have := length_putK kvs k v; omega
    refine wpAny_setItem_pairs (hsz := hz) (kV_is ry) dd fun h' dd' hs => h _ ?_
    have he : ∃ q, h'.get? a = some q := let ⟨q, _, _, hq, _⟩ := dd'; ⟨q, hq⟩
    exact d_write I (by rw [e]; exact True.intro) hs he (dk_new hl hd (rel.put k rv) dd')
  · subst ey eH
    cases (show u = Value.ref b from ry)
    obtain ⟨z, hd, xs, rel, dd⟩ := dt_of I.hok e
    have hz : xs.length ≤ sizeLine := by rw [← Paired.length rel]; exact z
    have hl : (putK kvs k v).length ≤ sizeLine := by have := length_putK kvs k v; omega
    refine wpAny_setItem_heap (hsz := hz) (tupleKind_room_in1 hu) (key_of I.hok eb) dd fun h' dd' hs => h _ ?_
    obtain ⟨q, es, ep, hq, h2, h3, h4, _, h5⟩ := dd'
    refine d_write I (by rw [e]; exact True.intro) hs ⟨q, hq⟩ ⟨hl, hd, _, (rel.put k eb rv).keeps fun c ys ec => ?_, q, es, ep, hq, h2, h3, h4, h5⟩
    rw [upd_ne (ne_of ec e (fun z => nomatch z))]
    exact ec
end
section
variable {X : Cx} {pins : List (Addr × Obj)} {σ : St} {H : Hp} {s : Shared} {a : Addr} {kvs : List (Key × V)} {k : Key} {u : Value} {A : Around} {E : Value → Shared → Prop}
end
def NoSl (i : Expr) : Prop := ∀ ov iv, subscripted i false ov iv = operate [ov, iv] (getItem ov iv)
theorem subD_of {prog : Program} {w : World} {A : Around} {E : Value → Shared → Prop} {s : Shared} {env : Env} {value slice : Expr} {pos : Pos} {T id : String} {Q : Value → Shared → Prop}
    (hl : typeLookup (.type T) "__getitem__" = pure (some (.builtin id))) (hs : NoSl slice)
    (h : wpAny (model prog w) A (eval value env) (fun o s₁ => wpAny (model prog w) A (eval slice env) (fun i s₂ => s₂.TypeIs o T ∧ wpAny (model prog w) A (getItem o i) Q E s₂) E s₁) E s) :
    wpAny (model prog w) A (eval (.Subscript value slice pos) env) Q E s := by
  refine Subscript_ (wpAny_mono h (fun o s₁ h₁ => wpAny_mono h₁ (fun i s₂ h₂ => ?_) fun _ _ x => x) fun _ _ x => x)
  obtain ⟨hT, h₂⟩ := h₂
  unfold subscriptTail
  refine wpAny_bind ?_
  rw [getitemInPython_of_ne hT.not_modules]
  refine wpAny_bind (wpAny_specialOf hT hl ?_)
  have fin : wpAny (model prog w) A (subscripted slice false o i) (fun r s₃ => wpAny (model prog w) A (letTemporaryGo value o r >>= fun _ => pure r) Q E s₃) E s₂ := by
    rw [hs o i]
    exact wpAny_operating (wpAny_mono h₂ (fun r s₃ h₃ => wpAny_bind (wpAny_letTemporaryGo (wpAny_pure h₃))) fun _ _ x => x)
  first
    | exact wpAny_pure (wpAny_bind fin)
    | exact wpAny_bind (wpAny_pure (wpAny_bind fin))
    | exact wpAny_bind fin
theorem dict_typeIs {X : Cx} {pins : List (Addr × Obj)} {σ : St} {H : Hp} {s : Shared} {a : Addr} {y : V} {o : Option V} (I : Inv X pins σ H s) (g : DGet H a y o) : s.TypeIs (.ref a) "dict" := by
  rcases g with ⟨kvs, k, e, _, _⟩ | ⟨kvs, k, b, e, _, _, _⟩
  · obtain ⟨_, _, vs, _, dd⟩ := dk_rd I.hok e
    exact dd.typeIs
  · obtain ⟨_, _, xs, _, dd⟩ := dt_rd I.hok e
    exact dd.typeIs
def tDGet (td ty : TE) : TE := fun σ H Q => td σ H fun x H1 => ty σ H1 fun y H2 => ∃ a v, x = .ref a ∧ DGet H2 a y (some v) ∧ Q v H2
def sDPut (td ty tv : TE) : TS := fun D σ H => tv σ H fun v H1 => td σ H1 fun x H2 => ty σ H2 fun y H3 => ∃ a H4, x = .ref a ∧ DPut H3 a y v H4 ∧ D.nx σ H4
section
variable {X : Cx} {o i e value : Expr} {pos pos' tpos : Pos} {td ty tv : TE}
theorem pe_dget (hu : X.A.units + 1 < cLine) (ho : PE X o td) (hi : PE X i ty) (hs : NoSl i) : PE X (.Subscript o i pos) (tDGet td ty) := by
  intro pins s σ H Q I h
  refine subD_of PySem.F.slot_dict_getitem.lookup hs (thn (ho pins s σ H _ I h) fun u s1 ⟨x, H1, I1, rx, q1⟩ => thn (hi pins s1 σ H1 _ I1 q1) fun iv s2 ⟨y, H2, I2, ry, a, v, ex, g, q2⟩ => ?_)
  subst ex
  obtain rfl : u = Value.ref a := rx
  exact ⟨dict_typeIs I2 g, d_getItem hu I2 g ry fun w' s3 I3 rw' => ⟨v, H2, I3, rw', q2⟩⟩
theorem ps_dput (hu : X.A.units + 1 < cLine) (ho : PE X o td) (hi : PE X i ty) (hv : PE X value tv) (hs : swapsWith value (some (.Subscript o i pos')) pos.line X.env = pure false) :
    PS X (.Assign [.Subscript o i pos'] value pos) (sDPut td ty tv) := by
  intro pins s σ H D I h
  refine wpAny_Assign_Subscript (thn (hv pins s σ H _ I h) fun r s1 ⟨v, H1, I1, rv, q1⟩ => thn (ho pins s1 σ H1 _ I1 q1) fun u s2 ⟨x, H2, I2, rx, q2⟩ => thn (hi pins s2 σ H2 _ I2 q2) fun iv s3 ⟨y, H3, I3, ry, a, H4, ex, g, q3⟩ => ?_) hs
  subst ex
  obtain rfl : u = Value.ref a := rx
  exact d_setItem hu I3 g ry rv fun s4 I4 => ⟨σ, H4, I4, q3⟩
end
theorem dk_empty {P : Program} {w : World} {H : Hp} (h : Heap) (hb : sysModules < h.objs.size) : ObjOk P w H (h.push { cls := .type "dict", data := .dict #[] }) h.objs.size (.dK []) :=
  ⟨Nat.zero_le _, beq_eq_false_iff_ne.mpr (Ne.symm (Nat.ne_of_lt hb)), [], .nil, Heap.DictOf.new h⟩
def tDNewK : TE := fun _ H Q => ∀ p, H p = none → Q (.ref p) (upd H p (.dK []))
section
variable {X : Cx} {pos : Pos}
theorem pe_dnewK : PE X (.Dict [] [] pos) tDNewK := fun pins s σ H Q I h =>
  wpAny_Dict_empty ⟨.ref s.heap.objs.size, _, I.laid (a := s.heap.objs.size) (o := .dK []) (t' := s.toks) (fun _ _ q => Heap.get?_push_of_some _ q) (Nat.le_refl _) (dk_empty s.heap I.big), rfl, h _ (I.hok.fresh (Nat.le_refl _))⟩
end
def mergeK (kvs more : List (Key × V)) : List (Key × V) := more.foldl (fun acc kv => putK acc kv.1 kv.2) kvs
theorem KV.merge : ∀ {more : List (Key × V)} {rs : List (Key × Value)} {kvs : List (Key × V)} {vs : List (Key × Value)}, KV more rs → KV kvs vs → KV (mergeK kvs more) (merged vs rs) := by
  intro more rs kvs vs r
  unfold KV at r
  induction r generalizing kvs vs with
  | nil => intro q; exact q
  | @cons p q ps qs h t ih =>
    intro r0
    have e : KV (putK kvs p.1 p.2) (stored vs q.1 q.2) := by
      have := r0.put p.1 h.2
      rw [← h.1]; exact this
    exact ih e
theorem length_mergeK : ∀ (more kvs : List (Key × V)), (mergeK kvs more).length ≤ kvs.length + more.length
  | [], kvs => by show kvs.length ≤ kvs.length + 0; omega
  | p :: r, kvs => by
    have h1 := length_mergeK r (putK kvs p.1 p.2)
    have h2 := length_putK kvs p.1 p.2
    show (mergeK (putK kvs p.1 p.2) r).length ≤ _
    rw [List.length_cons]; omega
structure M1 (X : Cx) (o : Expr) (m : Str) (apos : Pos) (e : Expr) (cpos : Pos) : Prop where
  base : attributeBase o m X.env (eval o X.env) = eval o X.env
  few : ((backTo cpos (starEach [e] X.env)).all (fun x => !x.1) && (backToKw cpos (keywordEach [] X.env)).all (fun x => x.1.isSome)
    && decide (([e] : List Expr).length + ([] : List Keyword).length + (if ([] : List Keyword).isEmpty then 0 else 1) < 30)) = true
  line : (apos.endLine == cpos.line) = true
  trees : backTo cpos (starEach [e] X.env) = [(false, eval e X.env)]
def IsD (H : Hp) (a : Addr) : Prop := (∃ kvs, Rd H a (.dK kvs)) ∨ ∃ kvs, Rd H a (.dT kvs)
theorem isD_at {X : Cx} {pins : List (Addr × Obj)} {σ : St} {H : Hp} {s : Shared} {a : Addr} (I : Inv X pins σ H s) (d : IsD H a) :
    s.TypeIs (.ref a) "dict" ∧ (∀ b, Value.ref a = .ref b → ∃ ob, s.heap.get? b = some ob ∧ ob.dict = none) ∧ (a == sysModules) = false := by
  rcases d with ⟨kvs, e⟩ | ⟨kvs, e⟩
  · obtain ⟨_, hd, vs, _, dd⟩ := dk_rd I.hok e
    refine ⟨dd.typeIs, fun b q => ?_, hd⟩
    cases q
    obtain ⟨ob, _, _, h1, h2, _⟩ := dd
    exact ⟨ob, h1, h2.2.1⟩
  · obtain ⟨_, hd, xs, _, dd⟩ := dt_rd I.hok e
    refine ⟨dd.typeIs, fun b q => ?_, hd⟩
    cases q
    obtain ⟨ob, _, _, h1, h2, _⟩ := dd
    exact ⟨ob, h1, h2.2.1⟩
section
variable {X : Cx} {pins : List (Addr × Obj)} {σ : St} {H : Hp} {s : Shared} {a : Addr} {y d : V} {u r : Value} {o : Option V} {A : Around} {E : Value → Shared → Prop}
theorem d_get1 {Q : Value → Shared → Prop} (hu : A.units + 1 < cLine) (I : Inv X pins σ H s) (g : DGet H a y o) (ry : RelV y u) (h : ∀ w' s', Inv X pins σ H s' → RelV (o.getD .non) w' → Q w' s') :
    wpAny (model X.prog X.w) A (call (.builtin "dict.get") [.ref a, u]) Q E s := by
  rcases g with ⟨kvs, k, e, ey, l⟩ | ⟨kvs, k, b, e, ey, eb, l⟩
  · subst ey
    obtain ⟨z, hd, vs, rel, dd⟩ := dk_rd I.hok e
    refine call_meetsIn PySem.F.slot_dict_get dd.typeIs PySem.F.entry_dict_get (PySem.F.args_dict_get_2 _ _) (meets_dict_get (mixKind X.prog X.w) a (kV_is ry) hd) ⟨_, dd.mapOf, h _ _ (I.tok _) ?_⟩
    rw [l]
    exact (rel.val k).getD rfl
  · subst ey
    cases (show u = Value.ref b from ry)
    obtain ⟨z, hd, xs, rel, dd⟩ := dt_rd I.hok e
    refine call_meetsIn PySem.F.slot_dict_get dd.typeIs PySem.F.entry_dict_get (PySem.F.args_dict_get_2 _ _) (meetsH_dict_get (tupleKind (mixKind X.prog X.w)) a b hd) ⟨tupleKind_room_in1 hu, k, xs, key_of I.hok eb, dd, h _ _ (I.tok _) ?_⟩
    rw [l]
    exact (rel.val k).getD rfl
end
section
variable {X : Cx} {o e f : Expr} {apos cpos : Pos} {td ty tx : TE}
end
section
variable {X : Cx} {pins : List (Addr × Obj)} {σ : St} {H : Hp} {s : Shared} {a : Addr} {kvs : List (Key × V)} {A : Around} {E : Value → Shared → Prop}
end
section
variable {X : Cx} {pins : List (Addr × Obj)} {σ : St} {H : Hp} {s : Shared} {a : Addr} {y : V} {u : Value} {A : Around} {E : Value → Shared → Prop}
end
end L2
namespace L2
open PySem PySem.Spec PyProof.Rows
section
variable {κ : Type} [DecidableEq κ]
end
end L2
namespace L2
open PySem PySem.Spec PyProof.Rows
theorem relV_of_is {P : Program} {w : World} {k : Key} {u : Value} (h : (mixKind P w).is k u = true) : RelV (kV k) u := by
 rw [mixKind_is] at h
 rcases keyIs_shape h with ⟨i, t, rfl, rfl⟩ | ⟨x, t, rfl, rfl⟩
 ·exact ⟨t, rfl⟩
 ·exact ⟨t, rfl⟩
section
variable {X : Cx} {pins : List (Addr × Obj)} {σ : St} {H : Hp} {s : Shared}
end
theorem kv_len {kvs : List (Key × V)} {vs : List (Key × Value)} (r : KV kvs vs) : kvs.length = vs.length := KV.length r
section
variable {X : Cx}
end
end L2
namespace L2
open PySem PySem.Spec PyProof.Rows
inductive Dat where
 | int (i : Int)
 | str (x : Str)
 | tup (ds : List Dat)
 | lst (ds : List Dat)
 | dct (ks : List (Str × Dat))
mutual
def Da (H : Hp) : Dat → V → Prop
 | .int i, v => v = .int i
 | .str x, v => v = .str x
 | .tup ds, v => ∃ p xs, v = .ref p ∧ H p = some (.tup xs) ∧ Das H ds xs
 | .lst ds, v => ∃ p xs, v = .ref p ∧ H p = some (.lst xs) ∧ Das H ds xs
 | .dct ks, v => ∃ p l, v = .ref p ∧ H p = some (.dK l) ∧ Dak H ks l
def Das (H : Hp) : List Dat → List V → Prop
 | [], xs => xs = []
 | d :: ds, xs => ∃ x r, xs = x :: r ∧ Da H d x ∧ Das H ds r
def Dak (H : Hp) : List (Str × Dat) → List (Key × V) → Prop
 | [], l => l = []
 | (k, d) :: ks, l => ∃ x r, l = (.inr k, x) :: r ∧ Da H d x ∧ Dak H ks r
end
example (H : Hp) (i : Int) (v : V) : Da H (.int i) v = (v = .int i) := rfl
example (H : Hp) (ds : List Dat) (v : V) : Da H (.tup ds) v = (∃ p xs, v = .ref p ∧ H p = some (.tup xs) ∧ Das H ds xs) := rfl
mutual
def Dat.nd : Dat → Prop
 | .int _ => True
 | .str _ => True
 | .tup ds => nds ds
 | .lst ds => nds ds
 | .dct ks => (ks.map (·.1)).Nodup ∧ ndk ks
def nds : List Dat → Prop
 | [] => True
 | d :: ds => d.nd ∧ nds ds
def ndk : List (Str × Dat) → Prop
 | [] => True
 | (_, d) :: ks => d.nd ∧ ndk ks
end
section
variable {X : Cx} {pins : List (Addr × Obj)} {σ : St} {H : Hp} {s : Shared}
end
end L2
set_option maxHeartbeats 400000
namespace L2
open PySem PySem.Spec PyProof.Rows
section
variable {X : Cx} {pins : List (Addr × Obj)} {σ : St} {H : Hp} {s : Shared}
end
end L2
namespace L2
open PySem PySem.Spec PyProof.Rows
section
variable {prog : Program} {w : World}
end
end L2
namespace L2
open PySem PySem.Spec PyProof.Rows
section
variable {X : Cx} {pins : List (Addr × Obj)} {σ : St} {H : Hp} {s : Shared}
end
section
variable {X : Cx}
end
end L2
namespace L2
open PySem PySem.Spec PyProof.Rows
theorem d_dictSet {X : Cx} {pins : List (Addr × Obj)} {σ : St} {H : Hp} {s : Shared} {a : Addr} {k : Key} {v : V} {u r : Value} {A : Around} {E : Value → Shared → Prop} {kvs : List (Key × V)} {Q : Unit → Shared → Prop} (I : Inv X pins σ H s) (e : H a = some (.dK kvs)) (l : kvs.length < sizeLine)
  (ry : RelV (kV k) u) (rv : RelV v r) (h : ∀ s', Inv X pins σ (upd H a (.dK (putK kvs k v))) s' → Q () s') : wpAny (model X.prog X.w) A (dictSet a u r) Q E s := by
 obtain ⟨z, hd, vs, rel, dd⟩ := dk_of I.hok e
 have hz : vs.length ≤ sizeLine := by rw [← rel.length]; exact z
 have hl : (putK kvs k v).length ≤ sizeLine := by have := length_putK kvs k v; omega
 refine wpAny_dictSet_pairs (kV_is ry) dd (fun h' dd' hs => h _ ?_) hz
 have he : ∃ q, h'.get? a = some q := let ⟨q, _, _, hq, _⟩ := dd'; ⟨q, hq⟩
 exact d_write I (by rw [e]; exact True.intro) hs he (dk_new hl hd (rel.put k rv) dd')
section
variable {X : Cx} {tg iter kx vx : Expr} {ifs : List Expr} {scope : Scope} {pos : Pos} {wi : TI} {g : TG} {tc : TT} {tk tv : TE} {locs cs : List Str} {caps : List Nat}
end
end L2
namespace L2
open PySem PySem.Spec PyProof.Rows
section
variable {X : Cx}
theorem op_inD (hu : X.A.units + 1 < cLine) : OpR X (compareOp .In) (fun x y H Q => ∃ a o, y = .ref a ∧ DGet H a x o ∧ Q (.bl o.isSome) H) := by
 intro pins s σ H x y v u Q I rx ry h
 obtain ⟨a, o, rfl, g, q⟩ := h
 cases ry
 exact d_in hu I g rx fun s' I' => ⟨.bl o.isSome, H, I', rfl, q⟩
theorem vals_keys {P : Program} {w : World} : ∀ {kvs : List (Key × V)} {vs : List (Key × Value)} {ss : List Str} {acc : List Value}, KV kvs vs → kvs.map (·.1) = ss.map Sum.inr → acc.length = vs.length →
  (∀ (j : Nat) (v : Value), acc[j]? = some v → ∃ k x, vs[j]? = some (k, x) ∧ (mixKind P w).is k v = true) → Vals (ss.map V.str) acc
 | [], _, ss, acc, .nil, e, hl, _ => by
  cases ss with
  | nil => cases acc with
   | nil => exact .nil
   | cons a l => simp at hl
  | cons a l => simp at e
 | kv :: kvs, _, ss, acc, .cons (b := q) (l₂ := vs) r t, e, hl, h => by
  cases ss with
  | nil => simp at e
  | cons y ss =>
   cases acc with
   | nil => simp at hl
   | cons u acc =>
    simp only [List.map_cons, List.cons.injEq] at e
    obtain ⟨k, x, e1, e2⟩ := h 0 u rfl
    simp only [List.getElem?_cons_zero, Option.some.injEq] at e1
    subst e1
    have r1 : kv.1 = k := r.1
    have hk : k = Sum.inr y := r1.symm.trans e.1
    subst hk
    refine .cons (relV_of_is e2) (vals_keys (P := P) (w := w) t e.2 (by simpa using hl) fun j v hj => ?_)
    exact h (j + 1) v (by simpa using hj)
end
end L2
set_option maxHeartbeats 1000000
namespace L2
open PySem PySem.Spec PyProof.Rows
section
variable {prog : Program} {w : World} {A : Around} {E : Value → Shared → Prop} {s : Shared}
theorem nextOf_tup_item {it t : Addr} {i : Nat} {items : Array Value} {x : Value} {Q : Value → Shared → Prop} (hit : s.heap.IsTupleIter it t i) (ht : s.heap.IsTuple t items) (hx : items[i]? = some x)
  (hQ : ∀ h' : Heap, h'.IsTupleIter it t (i + 1) → Heap.SameBut it s.heap h' → Q x { s with heap := h' }) : wpAny (model prog w) A (Builtin.SmallTypes.nextOf (.ref it)) Q E s := by
 obtain ⟨o, ho, hc, hd⟩ := id hit
 obtain ⟨ol, hol, _, nl, hdl⟩ := ht
 refine wpAny_bind (wpAny_callSpecial?_slot hit.typeIs F.slot_tuple_iterator_next (wpAny_call_entry F.slot_tuple_iterator_next hit.typeIs F.entry_tuple_iterator_next ?_ (F.args_tuple_iterator_next_1 _)))
 refine wpAny_bind (wpAny_of_eq (a := (Value.ref it, [])) rfl ?_)
 refine wpAny_bind (wpAny_field ho hd rfl ?_)
 show wpAny _ _ (do
  let __x ← field (.ref it) 1
  _) _ _ _
 refine wpAny_bind (wpAny_field ho hd rfl ?_)
 refine wpAny_bind (wpAny_seqItems hol hdl ?_)
 have e : items[(Int.toNat (i : Int))]? = some x := by simpa using hx
 simp only [e]
 refine wpAny_bind (wpAny_setField ho hd (by simp) (wpAny_pure ⟨x, rfl, wpAny_pure (hQ _ ⟨_, Heap.get?_update_self _ ho (Obj.isFreed_of_fields (Obj.data_mapFields hd _)), ?_, ?_⟩ (Heap.SameBut.update _ _ _))⟩))
 ·rw [Obj.cls_mapFields]; exact hc
 ·rw [Obj.data_mapFields hd]
  simp [rawInt]
theorem nextOf_tup_end {it t : Addr} {i : Nat} {items : Array Value} {Q : Value → Shared → Prop} (hh : A.handled = none) (hit : s.heap.IsTupleIter it t i) (ht : s.heap.IsTuple t items) (hx : items[i]? = none)
  (hE : ∀ (h' : Heap) (e : Addr), Heap.ExtBut it s.heap h' → (∃ o, h'.get? e = some o ∧ o.cls = .type "StopIteration") → E (.ref e) { s with heap := h' }) : wpAny (model prog w) A (Builtin.SmallTypes.nextOf (.ref it)) Q E s := by
 obtain ⟨o, ho, hc, hd⟩ := id hit
 obtain ⟨ol, hol, _, nl, hdl⟩ := ht
 refine wpAny_bind (wpAny_callSpecial?_slot hit.typeIs F.slot_tuple_iterator_next (wpAny_call_entry F.slot_tuple_iterator_next hit.typeIs F.entry_tuple_iterator_next ?_ (F.args_tuple_iterator_next_1 _)))
 refine wpAny_bind (wpAny_of_eq (a := (Value.ref it, [])) rfl ?_)
 refine wpAny_bind (wpAny_field ho hd rfl ?_)
 show wpAny _ _ (do
  let __x ← field (.ref it) 1
  _) _ _ _
 refine wpAny_bind (wpAny_field ho hd rfl ?_)
 refine wpAny_bind (wpAny_seqItems hol hdl ?_)
 have e : items[(Int.toNat (i : Int))]? = none := by simpa using hx
 simp only [e]
 refine wpAny_bind (wpAny_rule (wpAny_bind (wpAny_setField ho hd (by simp) ?_)))
 refine wpAny_bind (wpAny_bind (wpAny_newTuple ?_))
 refine wpAny_bind (wpAny_of_eq rfl ?_)
 refine wpAny_newObj_type ?_ (sizeOk_excFields _ _ _ _ _ _ _ _)
 refine wpAny_raiseNew_none hh (hE _ _ ?_ ⟨_, Heap.get?_push_size _ rfl, rfl⟩)
 exact Heap.ExtBut.push (Heap.ExtBut.push (Heap.SameBut.extBut (Heap.SameBut.update _ _ _)) _) _
end
end L2
namespace L2
open PySem PySem.Spec PyProof.Rows
section
variable {prog : Program} {w : World} {A : Around} {E : Value → Shared → Prop} {s : Shared} {z TI TO i1 i2 l1 l2 : Addr} {k1 k2 : Nat} {xs ys : Array Value} {x y a b : Value}
theorem istup_extBut {h h' : Heap} {p q : Addr} {us : Array Value} (ht : h.IsTuple p us) (e : Heap.ExtBut q h h') (hn : p ≠ q) : h'.IsTuple p us := by
 obtain ⟨o, ho, r⟩ := ht
 exact ⟨o, e p o hn ho, r⟩
theorem zipT_next_item {Q : Value → Shared → Prop} (D : ZipApart z TI TO i1 i2 l1 l2) (hz : IsZip s.heap z TI TO .none) (hTI : IsPair s.heap TI (.ref i1) (.ref i2)) (hTO : IsPair s.heap TO a b)
  (h1 : s.heap.IsTupleIter i1 l1 k1) (h2 : s.heap.IsTupleIter i2 l2 k2) (hl1 : s.heap.IsTuple l1 xs) (hl2 : s.heap.IsTuple l2 ys) (hx : xs[k1]? = some x) (hy : ys[k2]? = some y)
  (hQ : ∀ h' : Heap, IsZip h' z TI TO (rawInt ↑(Array.size s.heap.objs)) → IsPair h' TO x y → h'.IsTupleIter i1 l1 (k1 + 1) → h'.IsTupleIter i2 l2 (k2 + 1) → IsPair h' (Array.size s.heap.objs) x y →
   Array.size h'.objs = Array.size s.heap.objs + 1 → (∀ c o, c ≠ z → c ≠ TO → c ≠ i1 → c ≠ i2 → s.heap.get? c = some o → h'.get? c = some o) → Q (.ref (Array.size s.heap.objs)) { s with heap := h' }) :
  wpAny (model prog w) A (Builtin.«zip.__next__» { pos := [.ref z] }) (fun fin s' => ∃ v, fin = Fin.done (Flow.ret v) ∧ Q v s') E s := by
 refine wpAny_bind (wpAny_of_eq (a := (Value.ref z, [])) rfl ?_)
 refine wpAny_bind (wpAny_field hz rfl rfl ?_)
 refine wpAny_bind (wpAny_field hz rfl rfl ?_)
 refine wpAny_bind (wpAny_seqItems hTI rfl ?_)
 show wpAny _ _ (do
  let __do_lift ← Builtin.SmallTypes.ownedTupleIsFree (.ref z)
  _) _ _ _
 refine wpAny_bind (wpAny_bind (wpAny_field hz rfl rfl (wpAny_pure ?_)))
 show wpAny _ _ (do
  rule "zip.__next__.owned-tuple-again"
  _) _ _ _
 refine wpAny_bind (wpAny_rule (wpAny_bind (wpAny_field hz rfl rfl ?_)))
 refine wpAny_bind (wpAny_setField_rec hz (by simp) fun h₁ hz₁ hs₁ => ?_)
 have hz₁ : IsZip h₁ z TI TO .ellipsis := hz₁
 refine wpAny_bind ?_
 show wpAny _ _ (forIn [(Value.ref i1, 0), (Value.ref i2, 1)] (none, ()) _) _ _ _
 rw [List.forIn_cons]
 refine wpAny_bind (wpAny_bind (wpAny_onRaise ?_))
 show wpAny _ _ (do
  let v ← Builtin.SmallTypes.nextOf (.ref i1)
  pure (some v)) _ _ _
 refine wpAny_bind (nextOf_tup_item (h1.extBut hs₁.extBut D.i1z) (istup_extBut hl1 hs₁.extBut D.l1z) hx fun h₂ h1₂ hs₂ => wpAny_pure ?_)
 have hTO₂ : IsPair h₂ TO a b := hs₂.extBut TO _ D.TOi1 (hs₁.extBut TO _ D.TOz hTO)
 refine wpAny_bind (wpAny_seqItems hTO₂ rfl (wpAny_bind (wpAny_updateSeq_pair hTO₂ fun h₃ hTO₃ hs₃ => ?_)))
 have hTO₃ : IsPair h₃ TO x b := hTO₃
 refine wpAny_bind (wpAny_letGo (wpAny_pure ?_))
 show wpAny _ _ (forIn [(Value.ref i2, 1)] (none, ()) _) _ _ _
 rw [List.forIn_cons]
 refine wpAny_bind (wpAny_bind (wpAny_onRaise ?_))
 show wpAny _ _ (do
  let v ← Builtin.SmallTypes.nextOf (.ref i2)
  pure (some v)) _ _ _
 refine wpAny_bind (nextOf_tup_item (((h2.extBut hs₁.extBut D.i2z).extBut hs₂.extBut (Ne.symm D.i12)).extBut hs₃.extBut (Ne.symm D.TOi2)) (istup_extBut (istup_extBut (istup_extBut hl2 hs₁.extBut D.l2z) hs₂.extBut D.l2i1) hs₃.extBut D.l2TO) hy fun h₄ h2₄ hs₄ => wpAny_pure ?_)
 have hTO₄ : IsPair h₄ TO x b := hs₄.extBut TO _ D.TOi2 hTO₃
 refine wpAny_bind (wpAny_seqItems hTO₄ rfl (wpAny_bind (wpAny_updateSeq_pair hTO₄ fun h₅ hTO₅ hs₅ => ?_)))
 have hTO₅ : IsPair h₅ TO x y := hTO₅
 refine wpAny_bind (wpAny_letGo (wpAny_pure ?_))
 show wpAny _ _ (forIn [] (none, ()) _) _ _ _
 rw [List.forIn_nil]
 refine wpAny_pure ?_
 refine wpAny_bind (wpAny_seqItems hTO₅ rfl (wpAny_bind (wpAny_newTuple ?_)))
 have hsz : h₅.objs.size = s.heap.objs.size := by rw [hs₅.1, hs₄.1, hs₃.1, hs₂.1, hs₁.1]
 have hz₅ : IsZip h₅ z TI TO .ellipsis := hs₅.extBut z _ (Ne.symm D.TOz) (hs₄.extBut z _ (Ne.symm D.i2z) (hs₃.extBut z _ (Ne.symm D.TOz) (hs₂.extBut z _ (Ne.symm D.i1z) hz₁)))
 have hk₅ : ∀ c o, c ≠ z → c ≠ TO → c ≠ i1 → c ≠ i2 → s.heap.get? c = some o → h₅.get? c = some o := fun c o c1 c2 c3 c4 e => hs₅.extBut c o c2 (hs₄.extBut c o c4 (hs₃.extBut c o c2 (hs₂.extBut c o c3 (hs₁.extBut c o c1 e))))
 have h1₅ := ((h1₂.extBut hs₃.extBut (Ne.symm D.TOi1)).extBut hs₄.extBut D.i12).extBut hs₅.extBut (Ne.symm D.TOi1)
 have h2₅ := h2₄.extBut hs₅.extBut (Ne.symm D.TOi2)
 have hzlt := Heap.lt_size hz₅
 have hTOlt := Heap.lt_size hTO₅
 have hi1lt : i1 < h₅.objs.size := by obtain ⟨o, e, _⟩ := h1₅; exact Heap.lt_size e
 have hi2lt : i2 < h₅.objs.size := by obtain ⟨o, e, _⟩ := h2₅; exact Heap.lt_size e
 refine wpAny_bind ?_
 have hz₆ : IsZip (h₅.push { cls := .type "tuple", data := .seq [x, y].toArray }) z TI TO .ellipsis := Heap.get?_push_of_some _ hz₅
 refine wpAny_bind (wpAny_setField_rec hz₆ (by simp) fun h₇ hz₇ hs₇ => ?_)
 refine wpAny_setField_rec hz₇ (by simp) fun h₈ hz₈ hs₈ => ?_
 have up : ∀ c o, c ≠ z → h₅.get? c = some o → h₈.get? c = some o := fun c o c1 e => hs₈.extBut c o c1 (hs₇.extBut c o c1 (Heap.get?_push_of_some _ e))
 have hT₈ : IsPair h₈ h₅.objs.size x y := hs₈.extBut _ _ (Nat.ne_of_gt hzlt) (hs₇.extBut _ _ (Nat.ne_of_gt hzlt) (Heap.get?_push_size h₅ rfl))
 refine wpAny_pure ⟨_, rfl, ?_⟩
 show Q (.ref h₅.objs.size) _
 rw [hsz] at hT₈ ⊢
 refine hQ h₈ ?_ (up _ _ D.TOz hTO₅) ?_ ?_ hT₈ ?_ fun c o c1 c2 c3 c4 e => up c o c1 (hk₅ c o c1 c2 c3 c4 e)
 ·rw [← hsz]; exact hz₈
 ·obtain ⟨o, e, r⟩ := h1₅; exact ⟨o, up _ _ D.i1z e, r⟩
 ·obtain ⟨o, e, r⟩ := h2₅; exact ⟨o, up _ _ D.i2z e, r⟩
 ·rw [hs₈.1, hs₇.1, Heap.size_push, hsz]
theorem zipT_next_end {Q : Fin → Shared → Prop} (hh : A.handled = none) (D : ZipApart z TI TO i1 i2 l1 l2) (hz : IsZip s.heap z TI TO .none) (hTI : IsPair s.heap TI (.ref i1) (.ref i2))
  (h1 : s.heap.IsTupleIter i1 l1 k1) (hl1 : s.heap.IsTuple l1 xs) (hx : xs[k1]? = none)
  (hE : ∀ (h' : Heap) (e : Addr), (∀ c o, c ≠ z → c ≠ TO → c ≠ i1 → c ≠ i2 → s.heap.get? c = some o → h'.get? c = some o) → (∃ o, h'.get? e = some o ∧ o.cls = .type "StopIteration") → E (.ref e) { s with heap := h' }) :
  wpAny (model prog w) A (Builtin.«zip.__next__» { pos := [.ref z] }) Q E s := by
 refine wpAny_bind (wpAny_of_eq (a := (Value.ref z, [])) rfl ?_)
 refine wpAny_bind (wpAny_field hz rfl rfl ?_)
 refine wpAny_bind (wpAny_field hz rfl rfl ?_)
 refine wpAny_bind (wpAny_seqItems hTI rfl ?_)
 show wpAny _ _ (do
  let __do_lift ← Builtin.SmallTypes.ownedTupleIsFree (.ref z)
  _) _ _ _
 refine wpAny_bind (wpAny_bind (wpAny_field hz rfl rfl (wpAny_pure ?_)))
 show wpAny _ _ (do
  rule "zip.__next__.owned-tuple-again"
  _) _ _ _
 refine wpAny_bind (wpAny_rule (wpAny_bind (wpAny_field hz rfl rfl ?_)))
 refine wpAny_bind (wpAny_setField_rec hz (by simp) fun h₁ hz₁ hs₁ => ?_)
 have hz₁ : IsZip h₁ z TI TO .ellipsis := hz₁
 refine wpAny_bind ?_
 show wpAny _ _ (forIn [(Value.ref i1, 0), (Value.ref i2, 1)] (none, ()) _) _ _ _
 rw [List.forIn_cons]
 refine wpAny_bind (wpAny_bind (wpAny_onRaise ?_))
 show wpAny _ _ (do
  let v ← Builtin.SmallTypes.nextOf (.ref i1)
  pure (some v)) _ _ _
 refine wpAny_bind (nextOf_tup_end hh (h1.extBut hs₁.extBut D.i1z) (istup_extBut hl1 hs₁.extBut D.l1z) hx fun h₂ e eb₂ he => ?_)
 have hz₂ : IsZip h₂ z TI TO .ellipsis := eb₂ z _ (Ne.symm D.i1z) hz₁
 refine wpAny_setField_rec hz₂ (by simp) fun h₃ hz₃ hs₃ => ?_
 obtain ⟨o, ho, hc⟩ := he
 have hez : e ≠ z := fun q => by
  rw [q, hz₂] at ho
  cases ho
  exact absurd (Value.type.inj hc) (by decide)
 exact hE h₃ e (fun c o c1 c2 c3 c4 q => hs₃.extBut c o c1 (eb₂ c o c3 (hs₁.extBut c o c1 q))) ⟨o, hs₃.extBut e o hez ho, hc⟩
end
end L2
namespace L2
open PySem PySem.Spec PyProof.Rows
section
variable {prog : Program} {w : World} {A : Around} {E : Value → Shared → Prop} {s : Shared} {z TI TO i1 i2 l1 l2 : Addr} {k1 k2 : Nat} {xs ys : Array Value} {x y a b : Value}
theorem pyNext_zipT_item {Q : Option Value → Shared → Prop} (D : ZipApart z TI TO i1 i2 l1 l2) (hz : IsZip s.heap z TI TO .none) (hTI : IsPair s.heap TI (.ref i1) (.ref i2)) (hTO : IsPair s.heap TO a b)
  (h1 : s.heap.IsTupleIter i1 l1 k1) (h2 : s.heap.IsTupleIter i2 l2 k2) (hl1 : s.heap.IsTuple l1 xs) (hl2 : s.heap.IsTuple l2 ys) (hx : xs[k1]? = some x) (hy : ys[k2]? = some y)
  (hQ : ∀ h' : Heap, IsZip h' z TI TO (rawInt ↑(Array.size s.heap.objs)) → IsPair h' TO x y → h'.IsTupleIter i1 l1 (k1 + 1) → h'.IsTupleIter i2 l2 (k2 + 1) → IsPair h' (Array.size s.heap.objs) x y →
   Array.size h'.objs = Array.size s.heap.objs + 1 → (∀ c o, c ≠ z → c ≠ TO → c ≠ i1 → c ≠ i2 → s.heap.get? c = some o → h'.get? c = some o) → Q (some (.ref (Array.size s.heap.objs))) { s with heap := h' }) :
  wpAny (model prog w) A (pyNext (.ref z)) Q E s := by
 have hT : s.TypeIs (.ref z) "zip" := ⟨_, hz, rfl⟩
 exact wpAny_bind (wpAny_attempt (wpAny_callSpecial?_slot hT F.slot_zip_next (wpAny_call_entry F.slot_zip_next hT F.entry_zip_next
  (zipT_next_item D hz hTI hTO h1 h2 hl1 hl2 hx hy fun h' a1 a2 a3 a4 a5 a6 a7 => wpAny_pure (hQ h' a1 a2 a3 a4 a5 a6 a7)) (F.args_zip_next_1 _))))
theorem pyNext_zipT_end {Q : Option Value → Shared → Prop} (hh : A.handled = none) (D : ZipApart z TI TO i1 i2 l1 l2) (hz : IsZip s.heap z TI TO .none) (hTI : IsPair s.heap TI (.ref i1) (.ref i2))
  (h1 : s.heap.IsTupleIter i1 l1 k1) (hl1 : s.heap.IsTuple l1 xs) (hx : xs[k1]? = none)
  (hQ : ∀ h' : Heap, (∀ c o, c ≠ z → c ≠ TO → c ≠ i1 → c ≠ i2 → s.heap.get? c = some o → h'.get? c = some o) → Q none { s with heap := h' }) :
  wpAny (model prog w) A (pyNext (.ref z)) Q E s := by
 have hT : s.TypeIs (.ref z) "zip" := ⟨_, hz, rfl⟩
 refine wpAny_bind (wpAny_attempt (wpAny_callSpecial?_slot hT F.slot_zip_next (wpAny_call_entry F.slot_zip_next hT F.entry_zip_next
  (zipT_next_end (TO := TO) hh D hz hTI h1 hl1 hx fun h' e hk he => ?_) (F.args_zip_next_1 _))))
 obtain ⟨o, ho, hc⟩ := he
 exact wpAny_bind (wpAny_isInstance ⟨o, ho, hc⟩ isSubtype_stop (wpAny_pure (hQ h' hk)))
theorem newRecord_wp {T : String} {vs : List Value} {Q : Value → Shared → Prop} (hQ : Q (.ref s.heap.objs.size) { s with heap := s.heap.push { cls := .type T, data := .fields vs.toArray } }) (hz : vs.length ≤ sizeLine) :
  wpAny (model prog w) A (Builtin.SmallTypes.newRecord (.type T) vs) Q E s := by
 show wpAny _ _ (newObj (.type T) (.fields vs.toArray)) _ _ _
 refine wpAny_newObj_type hQ ?_
 show vs.toArray.size ≤ sizeLine + 2
 rw [List.size_toArray]; omega
theorem zipT_new {Q : Fin → Shared → Prop} (hl1 : s.heap.IsTuple l1 xs) (hl2 : s.heap.IsTuple l2 ys)
  (hQ : ∀ h' : Heap, IsZip h' (s.heap.objs.size + 4) (s.heap.objs.size + 2) (s.heap.objs.size + 3) .none → IsPair h' (s.heap.objs.size + 2) (.ref s.heap.objs.size) (.ref (s.heap.objs.size + 1)) → IsPair h' (s.heap.objs.size + 3) .none .none →
   h'.IsTupleIter s.heap.objs.size l1 0 → h'.IsTupleIter (s.heap.objs.size + 1) l2 0 → h'.objs.size = s.heap.objs.size + 5 → (∀ c o, s.heap.get? c = some o → h'.get? c = some o) → Q (.done (.ret (.ref (s.heap.objs.size + 4)))) { s with heap := h' }) :
  wpAny (model prog w) A (Builtin.«zip.__new__» { pos := [.type "zip", .ref l1, .ref l2] }) Q E s := by
 have hL2 : (s.heap.push { cls := .type "tuple_iterator", data := .fields #[.ref l1, .int 0 0] }).IsTuple l2 ys := by
  obtain ⟨o, ho, r⟩ := hl2
  exact ⟨o, Heap.get?_push_of_some _ ho, r⟩
 refine wpAny_bind (wpAny_bind (wpAny_pure ?_))
 refine wpAny_ite_false rfl (wpAny_bind (wpAny_of_eq sub_zip ?_))
 refine wpAny_ite_false rfl (wpAny_pure ?_)
 refine wpAny_ite_false rfl ?_
 refine wpAny_bind ?_
 refine wpAny_bind ?_
 show wpAny _ _ (forIn [Value.ref l1, Value.ref l2] #[] _) _ _ _
 rw [List.forIn_cons]
 refine wpAny_bind (wpAny_bind (wpAny_holding (wpAny_pyIter_tuple hl1 (wpAny_pure ?_))))
 show wpAny _ _ (forIn [Value.ref l2] _ _) _ _ _
 rw [List.forIn_cons]
 refine wpAny_bind (wpAny_bind (wpAny_holding (wpAny_pyIter_tuple hL2 (wpAny_pure ?_))))
 show wpAny _ _ (forIn [] _ _) _ _ _
 rw [List.forIn_nil]
 refine wpAny_pure (wpAny_pure ?_)
 refine wpAny_bind (wpAny_newTuple ?_ (show 2 ≤ sizeLine from Nat.le_of_lt (small1000 (by decide))))
 refine wpAny_bind (wpAny_newTuple ?_ (show 2 ≤ sizeLine from Nat.le_of_lt (small1000 (by decide))))
 refine wpAny_bind (newRecord_wp (wpAny_pure ?_) (show 5 ≤ sizeLine from Nat.le_of_lt (small1000 (by decide))))
 have z1 := Heap.size_push s.heap { cls := .type "tuple_iterator", data := .fields #[.ref l1, .int 0 0] }
 generalize hh1 : s.heap.push { cls := .type "tuple_iterator", data := .fields #[.ref l1, .int 0 0] } = H1 at z1 ⊢
 have z2 := Heap.size_push H1 { cls := .type "tuple_iterator", data := .fields #[.ref l2, .int 0 0] }
 have g1 : H1.get? s.heap.objs.size = some { cls := .type "tuple_iterator", data := .fields #[.ref l1, .int 0 0] } := by rw [← hh1]; exact Heap.get?_push_size _ rfl
 have o1 : ∀ c o, s.heap.get? c = some o → H1.get? c = some o := fun c o e => by rw [← hh1]; exact Heap.get?_push_of_some _ e
 generalize hh2 : H1.push { cls := .type "tuple_iterator", data := .fields #[.ref l2, .int 0 0] } = H2 at z2 ⊢
 have g2 : H2.get? H1.objs.size = some { cls := .type "tuple_iterator", data := .fields #[.ref l2, .int 0 0] } := by rw [← hh2]; exact Heap.get?_push_size _ rfl
 have o2 : ∀ c o, H1.get? c = some o → H2.get? c = some o := fun c o e => by rw [← hh2]; exact Heap.get?_push_of_some _ e
 rw [z1] at z2 g2
 show Q (.done (.ret (.ref ((H2.push { cls := .type "tuple", data := .seq #[.ref s.heap.objs.size, .ref H1.objs.size] }).push { cls := .type "tuple", data := .seq #[.none, .none] }).objs.size)))
  { s with heap := (((H2.push { cls := .type "tuple", data := .seq #[.ref s.heap.objs.size, .ref H1.objs.size] }).push { cls := .type "tuple", data := .seq #[.none, .none] }) |>.push ({ cls := .type "zip", data := .fields #[.none, .bool false, .bool false, .ref H2.objs.size, .ref (H2.push { cls := .type "tuple", data := .seq #[.ref s.heap.objs.size, .ref H1.objs.size] }).objs.size] } : Obj)) }
 rw [z1]
 generalize hh3 : H2.push { cls := .type "tuple", data := .seq #[.ref s.heap.objs.size, .ref (s.heap.objs.size + 1)] } = H3
 have z3 : H3.objs.size = H2.objs.size + 1 := by rw [← hh3, Heap.size_push]
 have g3 : H3.get? H2.objs.size = some { cls := .type "tuple", data := .seq #[.ref s.heap.objs.size, .ref (s.heap.objs.size + 1)] } := by rw [← hh3]; exact Heap.get?_push_size _ rfl
 have o3 : ∀ c o, H2.get? c = some o → H3.get? c = some o := fun c o e => by rw [← hh3]; exact Heap.get?_push_of_some _ e
 generalize hh4 : H3.push { cls := .type "tuple", data := .seq #[.none, .none] } = H4
 have z4 : H4.objs.size = H3.objs.size + 1 := by rw [← hh4, Heap.size_push]
 have g4 : H4.get? H3.objs.size = some { cls := .type "tuple", data := .seq #[.none, .none] } := by rw [← hh4]; exact Heap.get?_push_size _ rfl
 have o4 : ∀ c o, H3.get? c = some o → H4.get? c = some o := fun c o e => by rw [← hh4]; exact Heap.get?_push_of_some _ e
 rw [z2] at z3 g3
 rw [z3] at z4 g4
 have e4 : H4.objs.size = s.heap.objs.size + 4 := z4
 have o5 := fun (c : Addr) (o : Obj) (Z : Obj) (e : H4.get? c = some o) => Heap.get?_push_of_some Z e
 rw [z2, z3, e4]
 refine hQ _ ?_ (o5 _ _ _ (o4 _ _ g3)) (o5 _ _ _ g4) ⟨_, o5 _ _ _ (o4 _ _ (o3 _ _ (o2 _ _ g1))), rfl, rfl⟩ ⟨_, o5 _ _ _ (o4 _ _ (o3 _ _ g2)), rfl, rfl⟩ ?_ fun c o e => o5 _ _ _ (o4 _ _ (o3 _ _ (o2 _ _ (o1 _ _ e))))
 ·have := Heap.get?_push_size H4 (o := { cls := .type "zip", data := .fields #[.none, .bool false, .bool false, .ref (s.heap.objs.size + 1 + 1), .ref (s.heap.objs.size + 1 + 1 + 1)] }) rfl
  rw [e4] at this
  exact this
 ·rw [Heap.size_push, e4]
theorem call_zipT {Q : Value → Shared → Prop} (hl1 : s.heap.IsTuple l1 xs) (hl2 : s.heap.IsTuple l2 ys)
  (hQ : ∀ h' : Heap, IsZip h' (s.heap.objs.size + 4) (s.heap.objs.size + 2) (s.heap.objs.size + 3) .none → IsPair h' (s.heap.objs.size + 2) (.ref s.heap.objs.size) (.ref (s.heap.objs.size + 1)) → IsPair h' (s.heap.objs.size + 3) .none .none →
   h'.IsTupleIter s.heap.objs.size l1 0 → h'.IsTupleIter (s.heap.objs.size + 1) l2 0 → h'.objs.size = s.heap.objs.size + 5 → (∀ c o, s.heap.get? c = some o → h'.get? c = some o) → Q (.ref (s.heap.objs.size + 4)) { s with heap := h' }) :
  wpAny (model prog w) A (call (.type "zip") [.ref l1, .ref l2]) Q E s := by
 have M : Meets (Builtin.«zip.__new__» { pos := [.type "zip", .ref l1, .ref l2] }) (fun _ R s => s.heap.IsTuple l1 xs ∧ s.heap.IsTuple l2 ys ∧
   ∀ h' : Heap, IsZip h' (s.heap.objs.size + 4) (s.heap.objs.size + 2) (s.heap.objs.size + 3) .none → IsPair h' (s.heap.objs.size + 2) (.ref s.heap.objs.size) (.ref (s.heap.objs.size + 1)) → IsPair h' (s.heap.objs.size + 3) .none .none →
    h'.IsTupleIter s.heap.objs.size l1 0 → h'.IsTupleIter (s.heap.objs.size + 1) l2 0 → h'.objs.size = s.heap.objs.size + 5 → (∀ c o, s.heap.get? c = some o → h'.get? c = some o) → R (.ok (.ret (.ref (s.heap.objs.size + 4)))) { s with heap := h' }) :=
  Meets.of_wp fun prog w A R s h => zipT_new h.1 h.2.1 fun h' a1 a2 a3 a4 a5 a6 a7 => ⟨_, rfl, h.2.2 h' a1 a2 a3 a4 a5 a6 a7⟩
 refine callType_new F.called_zip (by decide) (F.typeCall_zip_2 _ _) (F.newCall_zip_2 _ _) (fun obj => F.args_object_init_3 obj _ _) F.entry_zip_new M ⟨hl1, hl2, fun h' a1 a2 a3 a4 a5 a6 a7 => ?_⟩
 exact ⟨⟨_, a1, rfl⟩, hQ h' a1 a2 a3 a4 a5 a6 a7⟩
end
end L2
namespace L2
open PySem PySem.Spec PyProof.Rows
def ItZ (K : PySem.W.Frag) (a1 a2 : Addr) : It :=
 ⟨fun i H => ∃ xs ys x y, SqT K H a1 xs ∧ SqT K H a2 ys ∧ xs[i]? = some x ∧ ys[i]? = some y,
  fun i H v H' => ∃ T x y, v = .ref T ∧ H T = none ∧ H' = upd H T (.tup [x, y]) ∧ (∀ xs, SqT K H a1 xs → xs[i]? = some x) ∧ ∀ ys, SqT K H a2 ys → ys[i]? = some y,
  fun i H => ∃ xs ys, SqT K H a1 xs ∧ SqT K H a2 ys ∧ xs.length ≤ i⟩
theorem turn_zipT {P : Program} {w : World} {K : PySem.W.Frag} {elts : List Expr} {k : Nat} {pos : Pos} {z TI TO i1 i2 a1 a2 : Addr} (D : ZipApart z TI TO i1 i2 a1 a2) :
  Turn P w K (.Tuple elts k pos) (ItZ K a1 a2) [z, TI, TO, i1, i2] z (fun i h => IsZip h z TI TO .none ∧ IsPair h TI (.ref i1) (.ref i2) ∧ (∃ a b, IsPair h TO a b) ∧ h.IsTupleIter i1 a1 i ∧ h.IsTupleIter i2 a2 i) where
 mem := by simp
 obj := fun i h st b hb => by
  obtain ⟨hz, hTI, ⟨a, b', hTO⟩, ⟨o1, g1, c1, d1⟩, ⟨o2, g2, c2, d2⟩⟩ := st
  simp only [List.mem_cons, List.mem_nil_iff, or_false] at hb
  rcases hb with rfl | rfl | rfl | rfl | rfl
  ·exact ⟨_, hz, fun v e => by cases (show Data.fields _ = Data.cell v from e)⟩
  ·exact ⟨_, hTI, fun v e => by cases (show Data.seq _ _ = Data.cell v from e)⟩
  ·exact ⟨_, hTO, fun v e => by cases (show Data.seq _ _ = Data.cell v from e)⟩
  ·exact ⟨_, g1, fun v e => by rw [d1] at e; cases e⟩
  ·exact ⟨_, g2, fun v e => by rw [d2] at e; cases e⟩
 keep := fun i h h' st kk => by
  obtain ⟨hz, hTI, ⟨a, b', hTO⟩, ⟨o1, g1, r1⟩, ⟨o2, g2, r2⟩⟩ := st
  exact ⟨kk z (by simp) _ hz, kk TI (by simp) _ hTI, ⟨a, b', kk TO (by simp) _ hTO⟩, ⟨o1, kk i1 (by simp) _ g1, r1⟩, ⟨o2, kk i2 (by simp) _ g2, r2⟩⟩
 item := by
  intro X hP hw hK hc i pins s σ H E I hf st hg
  subst hP hw hK
  obtain ⟨xs, ys, x, y, q1, q2, hx, hy⟩ := hg
  obtain ⟨hz, hTI, ⟨a, b', hTO⟩, h1, h2⟩ := st
  obtain ⟨us, rv1, p1, hz1⟩ := I.tuple q1
  obtain ⟨vs, rv2, p2, hz2⟩ := I.tuple q2
  obtain ⟨u, hu, ru⟩ := rv1.get hx
  obtain ⟨v, hv, rv⟩ := rv2.get hy
  refine pyNext_zipT_item D hz hTI hTO h1 h2 p1 p2 (x := u) (y := v) (by simpa using hu) (by simpa using hv) fun h' e1 e2 e3 e4 e5 e6 e7 => ⟨_, rfl, ?_⟩
  refine wpAny_letOwnedTupleGo_zip e1 fun h'' f1 f2 => ?_
  have nT : s.heap.objs.size ≠ z := Nat.ne_of_gt (Heap.lt_size hz)
  have kk : ∀ b o, b ∉ [z, TI, TO, i1, i2] → s.heap.get? b = some o → h''.get? b = some o := fun b o hb q => by
   simp only [List.mem_cons, List.mem_nil_iff, or_false, not_or] at hb
   exact f2.extBut b o hb.1 (e7 b o hb.1 hb.2.2.1 hb.2.2.2.1 hb.2.2.2.2 q)
  have hT2 : h''.IsTuple s.heap.objs.size #[u, v] := ⟨_, f2.extBut _ _ nT e5, rfl, 0, rfl⟩
  refine ⟨.ref s.heap.objs.size, upd H s.heap.objs.size (.tup [x, y]), I.turnedT (t' := s.toks) hf kk (Nat.le_refl _) ?_, rfl, ⟨_, x, y, rfl, I.hok.fresh (Nat.le_refl _), rfl, fun zs hzs => by rw [I.tuple_inj hzs q1]; exact hx, fun zs hzs => by rw [I.tuple_inj hzs q2]; exact hy⟩, ⟨f1, ?_, ⟨u, v, ?_⟩, ?_, ?_⟩, fun b hb => ?_⟩
  ·exact ⟨by show 2 ≤ sizeLine; exact Nat.le_of_lt (small1000 (by decide)), [u, v], .cons ru (.cons rv .nil), hT2⟩
  ·refine f2.extBut _ _ D.TIz (e7 _ _ D.TIz D.TITO D.TIi1 D.TIi2 hTI)
  ·exact f2.extBut _ _ D.TOz e2
  ·exact e3.extBut f2.extBut D.i1z
  ·exact e4.extBut f2.extBut D.i2z
  ·have : b ≠ s.heap.objs.size := fun q => by
    obtain ⟨o, ho, _⟩ : ∃ o, s.heap.get? b = some o ∧ True := by
     simp only [List.mem_cons, List.mem_nil_iff, or_false] at hb
     obtain ⟨o1, g1, _⟩ := h1
     obtain ⟨o2, g2, _⟩ := h2
     rcases hb with rfl | rfl | rfl | rfl | rfl
     ·exact ⟨_, hz, trivial⟩
     ·exact ⟨_, hTI, trivial⟩
     ·exact ⟨_, hTO, trivial⟩
     ·exact ⟨_, g1, trivial⟩
     ·exact ⟨_, g2, trivial⟩
    exact absurd q (Nat.ne_of_lt (Heap.lt_size ho))
   rw [upd_ne this]
   exact (hf b hb).1
 done := by
  intro X hP hw hK hc i pins s σ H E I hf st hg
  subst hP hw hK
  obtain ⟨xs, ys, q1, q2, hx⟩ := hg
  obtain ⟨hz, hTI, ⟨a, b', hTO⟩, h1, h2⟩ := st
  obtain ⟨us, rv1, p1, hz1⟩ := I.tuple q1
  have hl := rv1.length
  refine pyNext_zipT_end (TO := TO) (I.ok.hd hc) D hz hTI h1 p1 (Array.getElem?_eq_none (by simp; omega)) fun h' e7 => ⟨rfl, I.turnedL (t' := s.toks) hf fun b o hb q => ?_⟩
  simp only [List.mem_cons, List.mem_nil_iff, or_false, not_or] at hb
  exact e7 b o hb.1 hb.2.2.1 hb.2.2.2.1 hb.2.2.2.2 q
 self := fun _ _ _ _ _ st h => wpAny_pyIter_zip st.1 h
def iZipT (K : PySem.W.Frag) (ta : TA) : TI := fun σ H R => ta σ H fun vs H1 => ∃ a1 a2, vs = [.ref a1, .ref a2] ∧ (∃ xs, SqT K H1 a1 xs) ∧ (∃ ys, SqT K H1 a2 ys) ∧ R (ItZ K a1 a2) H1
theorem pi_zipT {X : Cx} {elts : List Expr} {k : Nat} {tpos : Pos} {e1 e2 : Expr} {ta : TA} {p pos : Pos} (hg : Gl X "zip") (hm : X.mg "zip" = none) (ha : PA X [e1, e2] ta)
  (hs : starEach [e1, e2] X.env = (false, eval e1 X.env) :: starEach [e2] X.env := by rfl) (hs2 : (backTo pos (starEach [e2] X.env)).any (·.1) = false := by rfl) : PI X (.Tuple elts k tpos) (.Call (.Name "zip" p) [e1, e2] [] pos) (iZipT X.K ta) := by
 intro pins s σ H R I h
 refine Call_ (ld_blt I hg hm PyProof.Rows.Boot.zip (PyProof.Rows.callWith_type1 (thn (ha pos pins s σ H _ I h) fun us s1 ⟨vs, H1, I1, r1, q1⟩ => ?_) hs hs2))
 obtain ⟨a1, a2, e, ⟨xs, hq1⟩, ⟨ys, hq2⟩, q⟩ := q1
 subst e
 cases r1 with
 | cons ra rr =>
  cases rr with
  | cons rb rr =>
   cases rr
   cases ra
   cases rb
   obtain ⟨us, rv1, p1, hz1⟩ := I1.tuple hq1
   obtain ⟨vs, rv2, p2, hz2⟩ := I1.tuple hq2
   have l1 : a1 < s1.heap.objs.size := by obtain ⟨o, ho, _⟩ := p1; exact Heap.lt_size ho
   have l2 : a2 < s1.heap.objs.size := by obtain ⟨o, ho, _⟩ := p2; exact Heap.lt_size ho
   refine call_zipT p1 p2 fun h' f1 f2 f3 f4 f5 f6 f7 => ?_
   refine wpAny_pyIter_zip f1 ?_
   have I2 : Inv X pins σ H1 { s1 with heap := h' } := I1.kept (t' := s1.toks) f7
   refine ⟨_, _, _, _, H1, rfl, I2, turn_zipT (zipApart_new l1 l2), ⟨f1, f2, ⟨_, _, f3⟩, f4, f5⟩, fun b hb => ?_, q⟩
   have hb' : s1.heap.objs.size ≤ b := by
    simp only [List.mem_cons, List.mem_nil_iff, or_false] at hb
    rcases hb with h | h | h | h | h <;> rw [h] <;> first | exact Nat.le_refl _ | exact Nat.le_add_right _ _
   exact I1.fpOk hb' (I1.hok.fresh hb')
theorem for_zipT {K : PySem.W.Frag} {a1 a2 : Addr} {xs ys : List V} {g : TG} {tb : TS} {D : Ends} {σ : St} {H : Hp} (hlen : xs.length = ys.length) (Pv : Nat → St → Hp → Prop) (h0 : Pv 0 σ H)
  (hl : ∀ i σ H, i ≤ xs.length → Pv i σ H → SqT K H a1 xs ∧ SqT K H a2 ys)
  (hs : ∀ i x y σ H T, xs[i]? = some x → ys[i]? = some y → Pv i σ H → H T = none → g (.ref T) σ (upd H T (.tup [x, y])) fun σ2 H2 => tb { D with nx := Pv (i + 1), ct := Pv (i + 1), bk := D.nx } σ2 H2) (hd : ∀ σ H, Pv xs.length σ H → D.nx σ H) :
  ∃ W : Nat → Nat → St → Hp → Prop, (∃ m, W 0 m σ H) ∧ ∀ i m σ H, W i m σ H →
   ((ItZ K a1 a2).stop i H ∧ D.nx σ H) ∨ ((ItZ K a1 a2).go i H ∧ ∃ N : St → Hp → Prop, (∀ σ' H', N σ' H' → ∃ m', m' < m ∧ W (i + 1) m' σ' H') ∧ ∀ x H', (ItZ K a1 a2).yld i H x H' → g x σ H' fun σ2 H2 => tb { D with nx := N, ct := N, bk := D.nx } σ2 H2) := by
 refine ⟨fun i m σ H => m = xs.length - i ∧ i ≤ xs.length ∧ Pv i σ H, ⟨xs.length, by simp, Nat.zero_le _, h0⟩, ?_⟩
 rintro i m σ H ⟨rfl, hi, p⟩
 obtain ⟨q1, q2⟩ := hl i σ H hi p
 by_cases hlt : i < xs.length
 ·have hlt2 : i < ys.length := by omega
  refine .inr ⟨⟨xs, ys, xs[i], ys[i], q1, q2, by simp [hlt], by simp [hlt2]⟩, Pv (i + 1), fun σ' H' p' => ⟨xs.length - (i + 1), by omega, rfl, hlt, p'⟩, fun v H' y => ?_⟩
  obtain ⟨T, x, y, rfl, hT, rfl, y1, y2⟩ := y
  exact hs i x y σ _ T (y1 xs q1) (y2 ys q2) p hT
 ·have e : i = xs.length := by omega
  subst e
  exact .inl ⟨⟨xs, ys, q1, q2, Nat.le_refl _⟩, hd σ H p⟩
end L2
namespace L2
open PySem PySem.Spec PyProof.Rows
def KDict (K : PySem.W.Frag) (P : Program) (w : World) (a : Addr) (kvs : List (Key × V)) : Prop :=
 ∀ h : Heap, (∀ b o, K.lookup b = some o → h.get? b = some o) → ∃ vs, KV kvs vs ∧ h.DictOf (mixKind P w) a vs
def tKGet (K : PySem.W.Frag) (P : Program) (w : World) (td ty : TE) : TE := fun σ H Q => td σ H fun x H1 => ty σ H1 fun y H2 => ∃ a kvs k v, x = .ref a ∧ y = kV k ∧ KDict K P w a kvs ∧ valV kvs k = some v ∧ Q v H2
theorem pe_kget {X : Cx} {o i : Expr} {pos : Pos} {td ty : TE} (ho : PE X o td) (hi : PE X i ty) (hs : NoSl i) : PE X (.Subscript o i pos) (tKGet X.K X.prog X.w td ty) := by
 intro pins s σ H Q I h
 refine subD_of PySem.F.slot_dict_getitem.lookup hs (thn (ho pins s σ H _ I h) fun u s1 ⟨x, H1, I1, rx, q1⟩ => thn (hi pins s1 σ H1 _ I1 q1) fun iv s2 ⟨y, H2, I2, ry, a, kvs, k, v, ex, ey, kd, l, q2⟩ => ?_)
 subst ex ey
 obtain rfl : u = Value.ref a := rx
 obtain ⟨vs, rel, dd⟩ := kd s2.heap I2.kIn
 obtain ⟨w', hw, rw'⟩ := RelO.some_of (v := v) (o := valueAt vs k) (by rw [← l]; exact rel.val k)
 exact ⟨dd.typeIs, wpAny_getItem_of (kV_is ry) dd.mapOf hw ⟨v, H2, I2.tok _, rw', q2⟩⟩
def kdEnt (w : World) (e : Str × Tok × Value) : DictEntry := ⟨PyData.keyHash w.params e.1, .str e.1 e.2.1, e.2.2⟩
def KdRel : List (Key × V) → List (Str × Tok × Value) → Prop := Paired fun kv e => kv.1 = Sum.inr e.1 ∧ RelV kv.2 e.2.2
theorem kd_pairs {P : Program} {w : World} : ∀ l : List (Str × Tok × Value), Pairs (mixKind P w) (l.map (kdEnt w)) (l.map fun e => (Sum.inr e.1, e.2.2))
 | [] => .nil
 | e :: l => .cons (kv := (Sum.inr e.1, e.2.2)) (keyIs_str e.1 e.2.1) rfl (kd_pairs l)
theorem kd_kv : ∀ {kvs : List (Key × V)} {l : List (Str × Tok × Value)}, KdRel kvs l → KV kvs (l.map fun e => (Sum.inr e.1, e.2.2))
 | _, _, .nil => .nil
 | _, _, .cons r t => .cons ⟨r.1, r.2⟩ (kd_kv t)
theorem kdict_mk {K : PySem.W.Frag} {P : Program} {w : World} {a : Addr} {kvs : List (Key × V)} {ep : Nat} (l : List (Str × Tok × Value)) (hl : K.lookup a = some { cls := .type "dict", dict := none, data := .dict (l.map (kdEnt w)).toArray ep, slots := #[] })
  (hr : KdRel kvs l) (hn : (l.map (·.1)).Nodup) : KDict K P w a kvs := fun h hk => by
 refine ⟨_, kd_kv hr, _, _, _, hk _ _ hl, ⟨rfl, rfl, rfl⟩, rfl, fun e he => ?_, ?_, ?_⟩
 ·have he' : e ∈ l.map (kdEnt w) := by simpa using he
  obtain ⟨x, _, rfl⟩ := List.mem_map.mp he'
  exact ⟨Sum.inr x.1, keyIs_str x.1 x.2.1, rfl⟩
 ·exact kd_pairs l
 ·rw [List.map_map]
  have : (l.map ((fun x : Key × Value => x.1) ∘ fun e => (Sum.inr e.1, e.2.2))) = (l.map (·.1)).map Sum.inr := by
   rw [List.map_map]; rfl
  rw [this]
  exact List.Pairwise.map _ (fun a b hab e => hab (Sum.inr.inj e)) hn
end L2
namespace L2
open PySem PySem.Spec PyProof.Rows
section
variable {prog : Program} {w : World} {A : Around} {E : Value → Shared → Prop} {s : Shared}
end
section
variable {X : Cx}
end
end L2
namespace L2
open PySem PySem.Spec PyProof.Rows
section
variable {X : Cx}
end
end L2
namespace L2
open PySem PySem.Spec PyProof.Rows
def notStar : Expr → Bool
 | .Starred _ _ => false
 | _ => true
theorem star_ns {e : Expr} {es : List Expr} {env : Env} (h : notStar e = true) : starEach (e :: es) env = (false, eval e env) :: starEach es env := by
 cases e <;> first | (cases h; done) | (rw [starEach.eq_def])
theorem pa_consN {X : Cx} {e : Expr} {es : List Expr} {te : TE} {t : TA} (ha : PE X e te) (hr : PA X es t) (h : notStar e = true := by rfl) : PA X (e :: es) (tCons te t) := pa_cons ha hr (star_ns h)
end L2
namespace L2
open PySem PySem.Spec PyProof.Rows
section
variable {X : Cx}
end
end L2
namespace L2
open PySem PySem.Spec PyProof.Rows
inductive Tx where
 | non
 | int (i : Int)
 | str (x : Str)
 | tup (ds : List Tx)
 | lst (ds : List Tx)
noncomputable instance : DecidableEq Tx := fun a b => Classical.propDecidable (a = b)
mutual
def Xa (H : Hp) : Tx → V → Prop
 | .non, v => v = .non
 | .int i, v => v = .int i
 | .str x, v => v = .str x
 | .tup ds, v => ∃ p xs, v = .ref p ∧ H p = some (.tup xs) ∧ Xas H ds xs
 | .lst ds, v => ∃ p xs, v = .ref p ∧ H p = some (.lst xs) ∧ Xas H ds xs
def Xas (H : Hp) : List Tx → List V → Prop
 | [], xs => xs = []
 | d :: ds, xs => ∃ x r, xs = x :: r ∧ Xa H d x ∧ Xas H ds r
end
mutual
def Tx.dp : Tx → Nat
 | .non => 0
 | .int _ => 0
 | .str _ => 0
 | .tup ds => 1 + xdps ds
 | .lst ds => 1 + xdps ds
def xdps : List Tx → Nat
 | [] => 0
 | d :: ds => max d.dp (xdps ds)
end
theorem Xas.len {H : Hp} : ∀ {ds : List Tx} {xs : List V}, Xas H ds xs → xs.length = ds.length
 | [], _, h => by cases h; rfl
 | _ :: _, _, ⟨x, r, e, _, q⟩ => by rw [e, List.length_cons, List.length_cons, Xas.len q]
theorem Xas.get {H : Hp} : ∀ {ds : List Tx} {xs : List V} {j : Nat} {x : V}, Xas H ds xs → xs[j]? = some x → ∃ d, ds[j]? = some d ∧ Xa H d x
 | [], _, _, _, h, e => by cases h; simp at e
 | d :: _, _, 0, x, ⟨y, r, e, h, q⟩, g => by subst e; simp at g; subst g; exact ⟨d, rfl, h⟩
 | d :: ds, _, j + 1, x, ⟨y, r, e, h, q⟩, g => by
  subst e
  obtain ⟨d', g1, g2⟩ := Xas.get (j := j) q (by simpa using g)
  exact ⟨d', by simpa using g1, g2⟩
theorem xdps_mem : ∀ {ds : List Tx} {d : Tx}, d ∈ ds → d.dp ≤ xdps ds
 | e :: ds, d, h => by
  rcases List.mem_cons.mp h with rfl | h
  ·exact Nat.le_max_left _ _
  ·exact Nat.le_trans (xdps_mem h) (Nat.le_max_right _ _)
theorem xdps_le {ds : List Tx} {n : Nat} (h : ∀ d ∈ ds, d.dp ≤ n) : xdps ds ≤ n := by
 induction ds with
 | nil => exact Nat.zero_le _
 | cons a r ih => exact Nat.max_le.mpr ⟨h a List.mem_cons_self, ih fun d hd => h d (List.mem_cons_of_mem _ hd)⟩
theorem Xas.inj {H : Hp} {n : Nat} (ih : ∀ d d' v, d.dp ≤ n → Xa H d v → Xa H d' v → d = d') : ∀ {ds es : List Tx} {xs : List V}, xdps ds ≤ n → Xas H ds xs → Xas H es xs → ds = es
 | [], [], _, _, _, _ => rfl
 | [], _ :: _, _, _, h, ⟨x, r, e, _⟩ => by have h' : _ = [] := h; rw [h'] at e; cases e
 | _ :: _, [], _, _, ⟨x, r, e, _⟩, h => by have h' : _ = [] := h; rw [h'] at e; cases e
 | d :: ds, e :: es, _, hn, ⟨x, r, e1, h1, q1⟩, ⟨y, r', e2, h2, q2⟩ => by
  rw [e1] at e2
  cases e2
  have m : max d.dp (xdps ds) ≤ n := hn
  rw [ih d e x (by omega) h1 h2, Xas.inj ih (by omega) q1 q2]
theorem Xa.inj_n {H : Hp} (n : Nat) : ∀ (d d' : Tx) (v : V), d.dp ≤ n → Xa H d v → Xa H d' v → d = d' := by
 induction n with
 | zero =>
  intro d d' v hn h h'
  cases d with
  | tup ds => simp only [Tx.dp] at hn; omega
  | lst ds => simp only [Tx.dp] at hn; omega
  | non => 
   have e : v = .non := h
   subst e
   cases d' with
   | non => rfl
   | int i => exact absurd (show V.non = .int i from h') (by intro z; cases z)
   | str i => exact absurd (show V.non = .str i from h') (by intro z; cases z)
   | tup es => obtain ⟨p, xs, e, _⟩ := (show ∃ p xs, V.non = .ref p ∧ H p = some (.tup xs) ∧ Xas H es xs from h'); cases e
   | lst es => obtain ⟨p, xs, e, _⟩ := (show ∃ p xs, V.non = .ref p ∧ H p = some (.lst xs) ∧ Xas H es xs from h'); cases e
  | int j => 
   have e : v = .int j := h
   subst e
   cases d' with
   | non => exact absurd (show V.int j = .non from h') (by intro z; cases z)
   | int i => have z : V.int j = .int i := h'; cases z; rfl
   | str i => exact absurd (show V.int j = .str i from h') (by intro z; cases z)
   | tup es => obtain ⟨p, xs, e, _⟩ := (show ∃ p xs, V.int j = .ref p ∧ H p = some (.tup xs) ∧ Xas H es xs from h'); cases e
   | lst es => obtain ⟨p, xs, e, _⟩ := (show ∃ p xs, V.int j = .ref p ∧ H p = some (.lst xs) ∧ Xas H es xs from h'); cases e
  | str j => 
   have e : v = .str j := h
   subst e
   cases d' with
   | non => exact absurd (show V.str j = .non from h') (by intro z; cases z)
   | int i => exact absurd (show V.str j = .int i from h') (by intro z; cases z)
   | str i => have z : V.str j = .str i := h'; cases z; rfl
   | tup es => obtain ⟨p, xs, e, _⟩ := (show ∃ p xs, V.str j = .ref p ∧ H p = some (.tup xs) ∧ Xas H es xs from h'); cases e
   | lst es => obtain ⟨p, xs, e, _⟩ := (show ∃ p xs, V.str j = .ref p ∧ H p = some (.lst xs) ∧ Xas H es xs from h'); cases e
 | succ n ih =>
  intro d d' v hn h h'
  by_cases hz : d.dp ≤ n
  ·exact ih d d' v hz h h'
  cases d with
  | non => exact absurd (Nat.zero_le n) hz
  | int _ => exact absurd (Nat.zero_le n) hz
  | str _ => exact absurd (Nat.zero_le n) hz
  | tup ds =>
   obtain ⟨p, xs, rfl, e1, q1⟩ := (show ∃ p xs, v = .ref p ∧ H p = some (.tup xs) ∧ Xas H ds xs from h)
   simp only [Tx.dp] at hn
   cases d' with
   | non => exact absurd (show V.ref p = .non from h') (by intro z; cases z)
   | int i => exact absurd (show V.ref p = .int i from h') (by intro z; cases z)
   | str i => exact absurd (show V.ref p = .str i from h') (by intro z; cases z)
   | tup es =>
    obtain ⟨p', ys, e, e2, q2⟩ := (show ∃ p' xs, V.ref p = .ref p' ∧ H p' = some (.tup xs) ∧ Xas H es xs from h')
    cases e
    rw [e1] at e2
    cases e2
    rw [Xas.inj ih (by omega) q1 q2]
   | lst es =>
    obtain ⟨p', ys, e, e2, q2⟩ := (show ∃ p' xs, V.ref p = .ref p' ∧ H p' = some (.lst xs) ∧ Xas H es xs from h')
    cases e
    rw [e1] at e2
    cases e2
  | lst ds =>
   obtain ⟨p, xs, rfl, e1, q1⟩ := (show ∃ p xs, v = .ref p ∧ H p = some (.lst xs) ∧ Xas H ds xs from h)
   simp only [Tx.dp] at hn
   cases d' with
   | non => exact absurd (show V.ref p = .non from h') (by intro z; cases z)
   | int i => exact absurd (show V.ref p = .int i from h') (by intro z; cases z)
   | str i => exact absurd (show V.ref p = .str i from h') (by intro z; cases z)
   | lst es =>
    obtain ⟨p', ys, e, e2, q2⟩ := (show ∃ p' xs, V.ref p = .ref p' ∧ H p' = some (.lst xs) ∧ Xas H es xs from h')
    cases e
    rw [e1] at e2
    cases e2
    rw [Xas.inj ih (by omega) q1 q2]
   | tup es =>
    obtain ⟨p', ys, e, e2, q2⟩ := (show ∃ p' xs, V.ref p = .ref p' ∧ H p' = some (.tup xs) ∧ Xas H es xs from h')
    cases e
    rw [e1] at e2
    cases e2
theorem Xa.inj {H : Hp} {d d' : Tx} {v : V} (h : Xa H d v) (h' : Xa H d' v) : d = d' := Xa.inj_n d.dp d d' v (Nat.le_refl _) h h'
theorem all_dec (ds es : List Tx) : ((List.range (min ds.length es.length)).all (fun j => decide (ds[j]? = es[j]?)) && ds.length == es.length) = decide (ds = es) := by
 by_cases h : ds = es
 ·subst h; simp
 ·rw [decide_eq_false h]
  by_cases hl : ds.length = es.length
  ·have : ¬ (List.range (min ds.length es.length)).all (fun j => decide (ds[j]? = es[j]?)) = true := by
    intro ha
    apply h
    apply List.ext_getElem?
    intro j
    by_cases hj : j < ds.length
    ·have := (List.all_eq_true.mp ha) j (List.mem_range.mpr (by omega))
     simpa using this
    ·rw [List.getElem?_eq_none (by omega), List.getElem?_eq_none (by omega)]
   rw [Bool.eq_false_iff.mpr this]; rfl
  ·rw [beq_eq_false_iff_ne.mpr hl, Bool.and_false]
theorem dec_tup (ds es : List Tx) : decide (Tx.tup ds = Tx.tup es) = decide (ds = es) := by
 by_cases h : ds = es
 ·subst h; simp
 ·rw [decide_eq_false h, decide_eq_false (by intro z; cases z; exact h rfl)]
theorem dec_lst (ds es : List Tx) : decide (Tx.lst ds = Tx.lst es) = decide (ds = es) := by
 by_cases h : ds = es
 ·subst h; simp
 ·rw [decide_eq_false h, decide_eq_false (by intro z; cases z; exact h rfl)]
section
variable {X : Cx} {pins : List (Addr × Obj)} {σ : St} {H : Hp} {s : Shared}
theorem eq_of_rcX {A : Around} {d d' : Tx} {x y : V} {u v : Value} (hx : Xa H d x) (hy : Xa H d' y) (ru : RelV x u) (rv : RelV y v) (h : SeqAt.RcAt A s u v (decide (d = d'))) : SeqAt.EqAt A s u v (decide (d = d')) := by
 by_cases z : u = v
 ·subst z
  have e : x = y := RelV.inj ru rv
  subst e
  rw [decide_eq_true (Xa.inj hx hy)]
  exact SeqAt.EqAt.same _
 ·intro prog w E Q hq
  unfold eqBool
  refine wpAny_holding ?_
  refine wpAny_ite_split (fun hab => absurd (eq_of_beq hab) z) (fun _ => ?_)
  have nf : ∀ b t, u ≠ .float b t := by
   rintro b t rfl
   cases d with
   | non => have e : x = .non := hx; subst e; cases ru
   | int i => have e : x = .int i := hx; subst e; obtain ⟨_, e⟩ := ru; cases e
   | str i => have e : x = .str i := hx; subst e; obtain ⟨_, e⟩ := ru; cases e
   | tup ds => obtain ⟨p, xs, rfl, _⟩ := (show ∃ p xs, x = .ref p ∧ H p = some (.tup xs) ∧ Xas H ds xs from hx); cases ru
   | lst ds => obtain ⟨p, xs, rfl, _⟩ := (show ∃ p xs, x = .ref p ∧ H p = some (.lst xs) ∧ Xas H ds xs from hx); cases ru
  cases u with
  | float b t => exact absurd rfl (nf b t)
  | _ => exact wpAny_bind (h prog w E _ (wpAny_truthy_bool hq))
theorem seqX {A : Around} {n : Nat} {xs ys : List V} {its jts : List Value} {ds es : List Tx} (hx : Xas H ds xs) (hy : Xas H es ys) (r1 : Vals xs its) (r2 : Vals ys jts) (hn : xdps ds ≤ n)
  (ih : ∀ d d' x y u v, d.dp ≤ n → Xa H d x → Xa H d' y → RelV x u → RelV y v → SeqAt.EqAt A s u v (decide (d = d'))) :
  its.toArray.size = ds.length ∧ jts.toArray.size = es.length ∧ ∀ j (g1 : j < its.toArray.size) (g2 : j < jts.toArray.size), SeqAt.EqAt A s its.toArray[j] jts.toArray[j] ((fun j => decide (ds[j]? = es[j]?)) j) := by
 have l1 : its.toArray.size = ds.length := by rw [List.size_toArray, ← r1.length, hx.len]
 have l2 : jts.toArray.size = es.length := by rw [List.size_toArray, ← r2.length, hy.len]
 refine ⟨l1, l2, fun j g1 g2 => ?_⟩
 have j1 : j < xs.length := by rw [hx.len, ← l1]; exact g1
 have j2 : j < ys.length := by rw [hy.len, ← l2]; exact g2
 obtain ⟨k1, e1, i1⟩ := hx.get (List.getElem?_eq_getElem j1)
 obtain ⟨k2, e2, i2⟩ := hy.get (List.getElem?_eq_getElem j2)
 obtain ⟨u1, a1, b1⟩ := r1.get (List.getElem?_eq_getElem j1)
 obtain ⟨u2, a2, b2⟩ := r2.get (List.getElem?_eq_getElem j2)
 have c1 : its.toArray[j] = u1 := by
  have := (List.getElem?_eq_some_iff.mp a1).2
  simpa using this
 have c2 : jts.toArray[j] = u2 := by
  have := (List.getElem?_eq_some_iff.mp a2).2
  simpa using this
 rw [c1, c2]
 show SeqAt.EqAt A s u1 u2 (decide (ds[j]? = es[j]?))
 rw [e1, e2]
 have : decide (some k1 = some k2) = decide (k1 = k2) := by
  by_cases h : k1 = k2
  ·subst h; simp
  ·rw [decide_eq_false h, decide_eq_false (by intro z; cases z; exact h rfl)]
 rw [this]
 exact ih k1 k2 _ _ _ _ (Nat.le_trans (xdps_mem (List.mem_of_getElem? e1)) hn) i1 i2 b1 b2
theorem rcX_n (I : Inv X pins σ H s) (n : Nat) : ∀ (d d' : Tx) (A : Around) (x y : V) (u v : Value), d.dp ≤ n → Xa H d x → Xa H d' y → RelV x u → RelV y v → A.units + d.dp < cLine →
  SeqAt.RcAt A s u v (decide (d = d')) ∧ SeqAt.RcNeAt A s u v (!decide (d = d')) := by
 have tupA : ∀ {es : List Tx} {y : V} {v : Value}, Xa H (.tup es) y → RelV y v → ∃ p ys jts, y = .ref p ∧ v = .ref p ∧ Xas H es ys ∧ Vals ys jts ∧ s.heap.IsTuple p jts.toArray := by
  intro es y v h r
  obtain ⟨p, ys, rfl, e, q⟩ := (show ∃ p xs, y = .ref p ∧ H p = some (.tup xs) ∧ Xas H es xs from h)
  obtain ⟨_, its, r1, t1⟩ := (show ObjOk X.prog X.w H s.heap p (.tup ys) from I.hok p _ e)
  exact ⟨p, ys, its, rfl, r, q, r1, t1⟩
 have lstA : ∀ {es : List Tx} {y : V} {v : Value}, Xa H (.lst es) y → RelV y v → ∃ p ys jts, y = .ref p ∧ v = .ref p ∧ Xas H es ys ∧ Vals ys jts ∧ s.heap.IsList p jts.toArray := by
  intro es y v h r
  obtain ⟨p, ys, rfl, e, q⟩ := (show ∃ p xs, y = .ref p ∧ H p = some (.lst xs) ∧ Xas H es xs from h)
  obtain ⟨its, r1, t1, _⟩ := I.list (SqL.of e)
  exact ⟨p, ys, its, rfl, r, q, r1, t1.isList⟩
 have base : ∀ (d d' : Tx) (A : Around) (x y : V) (u v : Value), d.dp ≤ 0 → Xa H d x → Xa H d' y → RelV x u → RelV y v → A.units + d.dp < cLine → SeqAt.RcAt A s u v (decide (d = d')) ∧ SeqAt.RcNeAt A s u v (!decide (d = d')) := by
  intro d d' A x y u v hn hx hy ru rv hl
  have hl0 : A.units < cLine := by omega
  cases d with
  | tup ds => simp only [Tx.dp] at hn; omega
  | lst ds => simp only [Tx.dp] at hn; omega
  | non =>
   have ex : x = .non := hx
   subst ex
   have eu : u = .none := ru
   subst eu
   cases d' with
   | non =>
    have ey : y = .non := hy
    subst ey
    have ev : v = .none := rv
    subst ev
    rw [decide_eq_true rfl]
    exact ⟨SeqAt.RcAt.none_none, SeqAt.RcNeAt.none_none⟩
   | int i =>
    have ey : y = .int i := hy
    subst ey
    obtain ⟨t, rfl⟩ := rv
    rw [decide_eq_false (by intro z; cases z)]
    exact ⟨SeqAt.RcAt.none_int _ _, SeqAt.RcNeAt.none_int _ _⟩
   | str i =>
    have ey : y = .str i := hy
    subst ey
    obtain ⟨t, rfl⟩ := rv
    rw [decide_eq_false (by intro z; cases z)]
    exact ⟨SeqAt.RcAt.none_str _ _, SeqAt.RcNeAt.none_str _ _⟩
   | tup es =>
    obtain ⟨p, ys, jts, rfl, rfl, _, _, t⟩ := tupA hy rv
    rw [decide_eq_false (by intro z; cases z)]
    exact ⟨SeqAt.RcAt.none_tuple t hl0, SeqAt.RcNeAt.none_tuple t hl0⟩
   | lst es =>
    obtain ⟨p, ys, jts, rfl, rfl, _, _, t⟩ := lstA hy rv
    rw [decide_eq_false (by intro z; cases z)]
    exact ⟨SeqAt.RcAt.none_list t hl0, SeqAt.RcNeAt.none_list t hl0⟩
  | int j =>
   have ex : x = .int j := hx
   subst ex
   obtain ⟨t0, rfl⟩ := ru
   cases d' with
   | non =>
    have ey : y = .non := hy
    subst ey
    have ev : v = .none := rv
    subst ev
    rw [decide_eq_false (by intro z; cases z)]
    exact ⟨SeqAt.RcAt.int_none _ _, SeqAt.RcNeAt.int_none _ _⟩
   | int i =>
    have ey : y = .int i := hy
    subst ey
    obtain ⟨t, rfl⟩ := rv
    have e : decide (Tx.int j = Tx.int i) = (j == i) := by
     by_cases h : j = i
     ·subst h; simp
     ·rw [decide_eq_false (by intro z; cases z; exact h rfl), beq_eq_false_iff_ne.mpr h]
    rw [e]
    exact ⟨SeqAt.RcAt.int_int _ _ _ _, SeqAt.RcNeAt.int_int _ _ _ _⟩
   | str i =>
    have ey : y = .str i := hy
    subst ey
    obtain ⟨t, rfl⟩ := rv
    rw [decide_eq_false (by intro z; cases z)]
    exact ⟨SeqAt.RcAt.int_str _ _ _ _, SeqAt.RcNeAt.int_str _ _ _ _⟩
   | tup es =>
    obtain ⟨p, ys, jts, rfl, rfl, _, _, t⟩ := tupA hy rv
    rw [decide_eq_false (by intro z; cases z)]
    exact ⟨SeqAt.RcAt.int_tuple _ _ t hl0, SeqAt.RcNeAt.int_tuple _ _ t hl0⟩
   | lst es =>
    obtain ⟨p, ys, jts, rfl, rfl, _, _, t⟩ := lstA hy rv
    rw [decide_eq_false (by intro z; cases z)]
    exact ⟨SeqAt.RcAt.int_list _ _ t hl0, SeqAt.RcNeAt.int_list _ _ t hl0⟩
  | str j =>
   have ex : x = .str j := hx
   subst ex
   obtain ⟨t0, rfl⟩ := ru
   cases d' with
   | non =>
    have ey : y = .non := hy
    subst ey
    have ev : v = .none := rv
    subst ev
    rw [decide_eq_false (by intro z; cases z)]
    exact ⟨SeqAt.RcAt.str_none _ _, SeqAt.RcNeAt.str_none _ _⟩
   | int i =>
    have ey : y = .int i := hy
    subst ey
    obtain ⟨t, rfl⟩ := rv
    rw [decide_eq_false (by intro z; cases z)]
    exact ⟨SeqAt.RcAt.str_int _ _ _ _, SeqAt.RcNeAt.str_int _ _ _ _⟩
   | str i =>
    have ey : y = .str i := hy
    subst ey
    obtain ⟨t, rfl⟩ := rv
    have e : decide (Tx.str j = Tx.str i) = (j == i) := by
     by_cases h : j = i
     ·subst h; simp
     ·rw [decide_eq_false (by intro z; cases z; exact h rfl), beq_eq_false_iff_ne.mpr h]
    rw [e]
    exact ⟨SeqAt.RcAt.str_str _ _ _ _, SeqAt.RcNeAt.str_str _ _ _ _⟩
   | tup es =>
    obtain ⟨p, ys, jts, rfl, rfl, _, _, t⟩ := tupA hy rv
    rw [decide_eq_false (by intro z; cases z)]
    exact ⟨SeqAt.RcAt.str_tuple _ _ t hl0, SeqAt.RcNeAt.str_tuple _ _ t hl0⟩
   | lst es =>
    obtain ⟨p, ys, jts, rfl, rfl, _, _, t⟩ := lstA hy rv
    rw [decide_eq_false (by intro z; cases z)]
    exact ⟨SeqAt.RcAt.str_list _ _ t hl0, SeqAt.RcNeAt.str_list _ _ t hl0⟩
 induction n with
 | zero => exact fun d d' A x y u v hn => base d d' A x y u v (by omega)
 | succ n ih =>
  intro d d' A x y u v hn hx hy ru rv hl
  have hl0 : A.units < cLine := by omega
  cases d with
  | non => exact base _ d' A x y u v (Nat.le_refl _) hx hy ru rv hl
  | int _ => exact base _ d' A x y u v (Nat.le_refl _) hx hy ru rv hl
  | str _ => exact base _ d' A x y u v (Nat.le_refl _) hx hy ru rv hl
  | tup ds =>
   obtain ⟨p0, xs, its, rfl, rfl, q1, r1, t1⟩ := tupA hx ru
   simp only [Tx.dp] at hn hl
   cases d' with
   | non =>
    have ey : y = .non := hy
    subst ey
    have ev : v = .none := rv
    subst ev
    rw [decide_eq_false (by intro z; cases z)]
    exact ⟨SeqAt.RcAt.tuple_none t1 hl0, SeqAt.RcNeAt.tuple_none t1 hl0⟩
   | int i =>
    have ey : y = .int i := hy
    subst ey
    obtain ⟨t, rfl⟩ := rv
    rw [decide_eq_false (by intro z; cases z)]
    exact ⟨SeqAt.RcAt.tuple_int _ _ t1 hl0, SeqAt.RcNeAt.tuple_int _ _ t1 hl0⟩
   | str i =>
    have ey : y = .str i := hy
    subst ey
    obtain ⟨t, rfl⟩ := rv
    rw [decide_eq_false (by intro z; cases z)]
    exact ⟨SeqAt.RcAt.tuple_str _ _ t1 hl0, SeqAt.RcNeAt.tuple_str _ _ t1 hl0⟩
   | tup es =>
    obtain ⟨p, ys, jts, rfl, rfl, q2, r2, t2⟩ := tupA hy rv
    obtain ⟨l1, l2, he⟩ := seqX (A := A.in1) (s := s) (n := min n (xdps ds)) q1 q2 r1 r2 (by omega) fun d d' x y u v hd a b c e =>
     eq_of_rcX a b c e (ih d d' A.in1 x y u v (by omega) a b c e (by rw [in1_units]; omega)).1
    have g1 := SeqAt.RcAt.tuples (A := A) t1 t2 hl0 he
    have g2 := SeqAt.RcNeAt.tuples (A := A) t1 t2 hl0 he
    rw [l1, l2, all_dec, ← dec_tup] at g1
    rw [l1, l2, all_dec, ← dec_tup] at g2
    exact ⟨g1, g2⟩
   | lst es =>
    obtain ⟨p, ys, jts, rfl, rfl, _, _, t⟩ := lstA hy rv
    rw [decide_eq_false (by intro z; cases z)]
    exact ⟨SeqAt.RcAt.tuple_list t1 t hl0, SeqAt.RcNeAt.tuple_list t1 t hl0⟩
  | lst ds =>
   obtain ⟨p0, xs, its, rfl, rfl, q1, r1, t1⟩ := lstA hx ru
   simp only [Tx.dp] at hn hl
   cases d' with
   | non =>
    have ey : y = .non := hy
    subst ey
    have ev : v = .none := rv
    subst ev
    rw [decide_eq_false (by intro z; cases z)]
    exact ⟨SeqAt.RcAt.list_none t1 hl0, SeqAt.RcNeAt.list_none t1 hl0⟩
   | int i =>
    have ey : y = .int i := hy
    subst ey
    obtain ⟨t, rfl⟩ := rv
    rw [decide_eq_false (by intro z; cases z)]
    exact ⟨SeqAt.RcAt.list_int _ _ t1 hl0, SeqAt.RcNeAt.list_int _ _ t1 hl0⟩
   | str i =>
    have ey : y = .str i := hy
    subst ey
    obtain ⟨t, rfl⟩ := rv
    rw [decide_eq_false (by intro z; cases z)]
    exact ⟨SeqAt.RcAt.list_str _ _ t1 hl0, SeqAt.RcNeAt.list_str _ _ t1 hl0⟩
   | tup es =>
    obtain ⟨p, ys, jts, rfl, rfl, _, _, t⟩ := tupA hy rv
    rw [decide_eq_false (by intro z; cases z)]
    exact ⟨SeqAt.RcAt.list_tuple t1 t hl0, SeqAt.RcNeAt.list_tuple t1 t hl0⟩
   | lst es =>
    obtain ⟨p, ys, jts, rfl, rfl, q2, r2, t2⟩ := lstA hy rv
    obtain ⟨l1, l2, he⟩ := seqX (A := A.in1) (s := s) (n := min n (xdps ds)) q1 q2 r1 r2 (by omega) fun d d' x y u v hd a b c e =>
     eq_of_rcX a b c e (ih d d' A.in1 x y u v (by omega) a b c e (by rw [in1_units]; omega)).1
    by_cases hz : ds.length = es.length
    ·have g1 := SeqAt.RcAt.lists (A := A) t1 t2 (by rw [l1, l2, hz]) hl0 he
     have g2 := SeqAt.RcNeAt.lists (A := A) t1 t2 (by rw [l1, l2, hz]) hl0 he
     have e : (List.range its.toArray.size).all (fun j => decide (ds[j]? = es[j]?)) = decide (Tx.lst ds = Tx.lst es) := by
      have := all_dec ds es
      rw [hz, Nat.min_self, beq_self_eq_true, Bool.and_true] at this
      rw [l1, hz, this, dec_lst]
     rw [e] at g1
     rw [e] at g2
     exact ⟨g1, g2⟩
    ·have hz' : (its.toArray.size != jts.toArray.size) = true := by rw [l1, l2]; simp [hz]
     rw [decide_eq_false (by intro z; cases z; exact hz rfl)]
     exact ⟨SeqAt.RcAt.lists_lengths t1 t2 hz' hl0, SeqAt.RcNeAt.lists_lengths t1 t2 hz' hl0⟩
end
section
variable {X : Cx}
def rEqX : R2 := fun x y H Q => ∃ k k' : Tx, Xa H k x ∧ Xa H k' y ∧ k.dp ≤ 60 ∧ Q (.bl (decide (k = k'))) H
def rNeX : R2 := fun x y H Q => ∃ k k' : Tx, Xa H k x ∧ Xa H k' y ∧ k.dp ≤ 60 ∧ Q (.bl (!decide (k = k'))) H
theorem op_eqX (hu : X.A.units + 64 < cLine) : OpR X (compareOp .Eq) rEqX := by
 intro pins s σ H x y v u Q I rx ry h
 obtain ⟨k, k', h1, h2, hd, q⟩ := h
 exact (rcX_n I k.dp k k' X.A x y v u (Nat.le_refl _) h1 h2 rx ry (by omega)).1 _ _ _ _ ⟨.bl _, H, I, rfl, q⟩
theorem op_neX (hu : X.A.units + 64 < cLine) : OpR X (compareOp .NotEq) rNeX := by
 intro pins s σ H x y v u Q I rx ry h
 obtain ⟨k, k', h1, h2, hd, q⟩ := h
 exact (rcX_n I k.dp k k' X.A x y v u (Nat.le_refl _) h1 h2 rx ry (by omega)).2 _ _ _ _ ⟨.bl _, H, I, rfl, q⟩
end
def Kd.tx : Kd → Tx
 | .nm x => .str x
 | .two a b => .tup [.str "both", a.tx, b.tx]
 | .som r c => .tup [.str "some", .str r, c.tx]
theorem IsK.xa {H : Hp} : ∀ {k : Kd} {v : V}, IsK H k v → Xa H k.tx v
 | .nm _, _, h => h
 | .two _ _, _, ⟨p, x, y, e, h, ha, hb⟩ => ⟨p, _, e, h, _, _, rfl, rfl, _, _, rfl, ha.xa, _, _, rfl, hb.xa, rfl⟩
 | .som _ _, _, ⟨p, y, e, h, hc⟩ => ⟨p, _, e, h, _, _, rfl, rfl, _, _, rfl, rfl, _, _, rfl, hc.xa, rfl⟩
theorem Kd.tx_inj : ∀ {a b : Kd}, a.tx = b.tx → a = b
 | .nm _, .nm _, h => by injection h with h; rw [h]
 | .nm _, .two _ _, h => by cases h
 | .nm _, .som _ _, h => by cases h
 | .two _ _, .nm _, h => by cases h
 | .som _ _, .nm _, h => by cases h
 | .two _ _, .two _ _, h => by
  injection h with h
  injection h with _ h
  injection h with h1 h
  injection h with h2 _
  rw [Kd.tx_inj h1, Kd.tx_inj h2]
 | .two _ _, .som _ _, h => by
  injection h with h
  injection h with h _
  injection h with h
  exact absurd h both_ne_some
 | .som _ _, .two _ _, h => by
  injection h with h
  injection h with h _
  injection h with h
  exact absurd h.symm both_ne_some
 | .som _ _, .som _ _, h => by
  injection h with h
  injection h with _ h
  injection h with h1 h
  injection h with h2 _
  injection h1 with h1
  rw [h1, Kd.tx_inj h2]
theorem Kd.tx_dp : ∀ k : Kd, k.tx.dp = k.dep
 | .nm _ => rfl
 | .two a b => by
  show 1 + max 0 (max a.tx.dp (max b.tx.dp 0)) = 1 + max a.dep b.dep
  rw [tx_dp a, tx_dp b]; omega
 | .som _ c => by
  show 1 + max 0 (max 0 (max c.tx.dp 0)) = 1 + c.dep
  rw [tx_dp c]; omega
end L2
namespace L2
open PySem PySem.Spec PyProof.Rows
theorem pg_pair {X : Cx} {K' : PySem.W.Frag} {i j : Nat} {x y : Str} {p1 p2 pos : Pos} {k : Nat} (hK : X.K = K') (hc : X.calm = true) (hN : X.N.Nodup) (hi : X.N[i]? = some x) (hj : X.N[j]? = some y) (lx : X.env.scope.names.lookup x = some .local) (ly : X.env.scope.names.lookup y = some .local) :
  PG X (.Tuple [.Name x p1, .Name y p2] k pos) (gTup K' 2 (gCons (gName i) (gCons (gName j) gNil))) := by
 subst hK
 exact pg_tup hc (pgs_cons (pg_name hN hi (.inl lx) (.inr lx)) (pgs_cons (pg_name hN hj (.inl ly) (.inr ly)) pgs_nil))
end L2
namespace L2
open PySem PySem.Spec PyProof.Rows
section
variable {X : Cx} {pins : List (Addr × Obj)} {σ : St} {H : Hp} {s : Shared}
theorem tup2_at {p : Addr} {x y : V} (I : Inv X pins σ H s) (hp : H p = some (.tup [x, y])) : ∃ u0 u1, s.heap.IsTuple p #[u0, u1] ∧ RelV x u0 ∧ RelV y u1 := by
 obtain ⟨_, its, r, t⟩ := (show ObjOk X.prog X.w H s.heap p _ from I.hok p _ hp)
 cases r with
 | cons r1 r =>
  cases r with
  | cons r2 r =>
   cases r
   exact ⟨_, _, t, r1, r2⟩
end
section
variable {X : Cx}
def tCallV (P : Program) (w : World) (K : PySem.W.Frag) (mg : Str → Option Value) (base : Heap) (A : Around) (i : Nat) (t : TA) : TE := fun σ H Q => ∃ (f : Addr) (fd : FuncData) (k : Nat) (ps : List Str) (sp : Sp), σ[i]? = some (some (.ref f)) ∧ FnOk P w K mg base CX0 k f fd ps sp ∧ Room k A ∧ PySem.W.keepIn K (.ref f) = true ∧ Binds K fd ps [] ∧ t σ H fun vs H1 => sp (vs ++ []) H1 Q E0
theorem pe_callV {i : Nat} {x : Str} {p pos : Pos} {e : Expr} {es : List Expr} {t : TA} (hx : Passes CX0 X E0) (hv : PE X (.Name x p) (tVar i)) (ha : PA X (e :: es) t) (he : starEach (e :: es) X.env = (false, eval e X.env) :: starEach es X.env := by rfl) (hpl : (backTo pos (starEach es X.env)).any (·.1) = false := by rfl) :
  PE X (.Call (.Name x p) (e :: es) [] pos) (tCallV X.prog X.w X.K X.mg X.base X.A i t) := by
 intro pins s σ H Q I h
 obtain ⟨f, fd, k, ps, sp, e1, F, hr, hk, hb, h⟩ := h
 refine wpAny_Call_Name_kw (thn (hv pins s σ H (fun v H' => v = .ref f ∧ t σ H' fun vs H1 => sp (vs ++ []) H1 Q E0) I ⟨_, e1, rfl, h⟩) fun u s1 ⟨v, H1, I1, r1, ev, h1⟩ => ?_)
 subst ev
 cases r1
 refine PySem.W.callWith_K (h₀ := X.base) I.ok.mod.kin hk (thn (ha pos pins s1 σ H1 _ I1 h1) fun us s2 ⟨vs, H2, I2, r, q⟩ => ⟨I2.kIn, ?_⟩) he hpl
 exact run_fn F hr hb .nil hx I2 r q
end
end L2
namespace L2
open PySem PySem.Spec PyProof.Rows
theorem list_no_keys : typeLookup (.type "list") "keys" = pure none := am_miss_of_fast (by decide +kernel)
theorem list_no_getattr : typeLookup (.type "list") "__getattr__" = pure none := am_miss_of_fast (by decide +kernel)
theorem meets_miss_list (a : Addr) (items : Array Value) (n : Nat) (name : Str) (u : Tok) (hmiss : typeLookup (.type "list") name = pure none) (hk : ([Str.ofString "__module__", Str.ofString "__name__", Str.ofString "__qualname__", Str.ofString "__doc__", Str.ofString "__annotations__"] : List Str).contains name = false) (hsz : name.length + 100 ≤ sizeLine := by size_fits) :
  Meets (Builtin.«object.__getattribute__» ⟨[.ref a, .str name u], []⟩) (fun A R s => s.heap.get? a = some { cls := .type "list", data := .seq items n } ∧ raisesAttr (.ref a) name A R s) :=
 Meets.of_wp fun prog w A R s hs => by
  obtain ⟨hp, g, d, tk, os⟩ := s
  obtain ⟨ho, hs⟩ := hs
  have hT : (⟨hp, g, d, tk, os⟩ : Shared).TypeIs (.ref a) "list" := ⟨_, ho, rfl⟩
  unfold Builtin.«object.__getattribute__»
  repeat (any_goals (first | assumption | wp_step))
  rw [if_neg (by rw [hk]; exact Bool.false_ne_true)]
  repeat (any_goals (first | assumption | wp_step))
  exact wpAny_raiseAttrError hs.1 hs.2 (attrMsg_fits (by decide +kernel) hsz)
section
variable {prog : Program} {w : World} {A : Around} {E : Value → Shared → Prop} {s : Shared}
theorem list_keys_miss {a : Addr} {items : Array Value} {n : Nat} {Q : Option Value → Shared → Prop} (ho : s.heap.get? a = some { cls := .type "list", data := .seq items n }) (hA : A.handled = none)
  (h : ∀ h' tk, (∀ b ob, s.heap.get? b = some ob → h'.get? b = some ob) → Q none { s with heap := h', toks := tk }) : wpAny (model prog w) A (getAttr? (.ref a) "keys") Q E s := by
 obtain ⟨hp, g, d, tk, os⟩ := s
 have hT : (⟨hp, g, d, tk, os⟩ : Shared).TypeIs (.ref a) "list" := ⟨_, ho, rfl⟩
 have hT1 : (⟨hp, g, d, tk + 1, os⟩ : Shared).TypeIs (.ref a) "list" := ⟨_, ho, rfl⟩
 have f1 := sub_AttributeError
 have f3 := F.slot_list_getattribute.lookup
 have f4 := F.slot_list_getattribute.bind (.ref a)
 have f5 := list_no_getattr
 unfold getAttr? getAttrBy? getAttrBy
 repeat (any_goals (first | assumption | ((with_reducible show wpAny _ _ (call (Value.builtin "list.__getattribute__") _ _) _ _ _); refine call_meets F.slot_list_getattribute hT1 F.entry_list_ga (F.args_list_getattribute_2 _ _) (meets_miss_list a items n "keys" _ list_no_keys (by decide +kernel)) ⟨ho, hA, fun h' tk' e hx => ?_⟩) | wp_step))
 obtain ⟨t', u', he⟩ := hx.there
 show wpAny _ _ (getattributeRaised _ _ _ _ _ _ _) _ _ _
 unfold getattributeRaised
 repeat (any_goals (first | assumption | wp_step))
 exact h _ _ hx.keeps
theorem loop_plain : plainId "dict.update.loop" = true := by decide +kernel
theorem loop_entry : entryFor table "dict.update.loop" = some Builtin.«dict.update.loop» := entryFor_of_tree (by kernel_rfl)
theorem pairItems_tup {t : Addr} {items : Array Value} {Q : List Value → Shared → Prop} (ht : s.heap.IsTuple t items) (hq : Q items.toList s) : wpAny (model prog w) A (Builtin.Dict.pairItems (.ref t)) Q E s := by
 obtain ⟨o, ho, hc, n, hd⟩ := ht
 obtain ⟨k, m, q, f⟩ := o
 simp only at hc hd
 subst hc; subst hd
 have hT : s.TypeIs (.ref t) "tuple" := ⟨_, ho, rfl⟩
 obtain ⟨hp, g, d, tk, os⟩ := s
 unfold Builtin.Dict.pairItems
 repeat (any_goals (first | assumption | wp_step))
end
section
variable {prog : Program} {w : World} {κ : Type} [DecidableEq κ] {knd : KeyKind prog w κ}
theorem dictOf_at {h h' : Heap} {d : Addr} {kvs : List (κ × Value)} (m : h.DictOf knd d kvs) (k : ∀ o, h.get? d = some o → h'.get? d = some o) : h'.DictOf knd d kvs := by
 obtain ⟨o, es, ep, ho, r⟩ := m
 exact ⟨o, es, ep, k o ho, r⟩
theorem stored_len (kvs : List (κ × Value)) (k : κ) (v : Value) : (stored kvs k v).length ≤ kvs.length + 1 := by
 unfold stored
 split
 ·rw [List.length_map]; omega
 ·rw [List.length_append]; exact Nat.le_refl _
theorem loop_meets (d it l : Addr) (items : Array Value) (ks : List (κ × Value)) (n : Nat) : ∀ i, items.size - i = n → MeetsIn prog w (Builtin.«dict.update.loop» ⟨[.ref d, .ref it, rawInt i, .none], []⟩) (fun A R s =>
  A.handled = none ∧ ∃ kvs, s.heap.DictOf knd d kvs ∧ s.heap.IsListIter it l i ∧ s.heap.IsList l items ∧ d ≠ it ∧ d ≠ l ∧ it ≠ l ∧ ks.length = items.size ∧
  (∀ j x, i ≤ j → items[j]? = some x → ∃ t key k v, x = .ref t ∧ s.heap.IsTuple t #[key, v] ∧ t ≠ d ∧ t ≠ it ∧ knd.is k key = true ∧ ks[j]? = some (k, v)) ∧ kvs.length + n ≤ sizeLine ∧
  ∀ h' tk, h'.DictOf knd d (merged kvs (ks.drop i)) → (∀ b o, b ≠ d → b ≠ it → s.heap.get? b = some o → h'.get? b = some o) → R (.ok (.ret .none)) { s with heap := h', toks := tk }) := by
 induction n with
 | zero =>
  intro i hi
  refine .of_wp fun A R s h => ?_
  obtain ⟨hh, kvs, hd, hit, hl, n1, n2, n3, hks, hall, hz, h⟩ := h
  unfold Builtin.«dict.update.loop»
  show wpAny _ _ (pyNext (.ref it) >>= _) _ _ s
  refine wpAny_bind (wpAny_pyNext_list_end hh hit hl (Array.getElem?_eq_none (by omega)) fun h' he => ?_)
  have e : ks.drop i = [] := List.drop_eq_nil_of_le (by omega)
  rw [e] at h
  refine wpAny_bind ?_
  unfold Builtin.Dict.addKeywords
  refine wpAny_pure ?_
  refine wpAny_pure ⟨_, rfl, h h' s.toks (dictOf_at hd fun o ho => he d o n1 ho) fun b o hb1 hb2 hb => he b o hb2 hb⟩
 | succ n ih =>
  intro i hi
  intro A R s h
  obtain ⟨hh, kvs, hd, hit, hl, n1, n2, n3, hks, hall, hz, h⟩ := h
  unfold Builtin.«dict.update.loop»
  show wpAny _ _ (pyNext (.ref it) >>= _) _ _ s
  have hlt : i < items.size := by omega
  obtain ⟨t, key, k, v, hx, ht, t1, t2, hk, hki⟩ := hall i items[i] (Nat.le_refl _) (Array.getElem?_eq_getElem hlt)
  refine wpAny_bind (wpAny_pyNext_list_item hit hl (x := .ref t) (by rw [Array.getElem?_eq_getElem hlt, hx]) fun h1 hit1 sb1 => ?_)
  refine wpAny_bind (wpAny_holding ?_)
  refine wpAny_bind (wpAny_tryCatch (pairItems_tup (items := #[key, v]) ?_ ?_))
  ·obtain ⟨o, ho, r⟩ := ht
   exact ⟨o, (sb1.2 t t2).trans ho, r⟩
  show wpAny _ _ (holding [key, v] (dictSet d key v)) _ _ _
  refine wpAny_holding (wpAny_dictSet_pairs (s := { s with heap := h1 }) hk (dictOf_at hd fun o ho => (sb1.2 d n1).trans ho) (fun h2 hd2 sb2 => ?_) (by omega))
  refine wpAny_pure ⟨plainId_quiet loop_plain _, codeAny_builtin loop_entry ?_⟩
  rw [Around.under_plainId loop_plain _]
  have ei : (((i : Nat) : Int) + 1) = ((i + 1 : Nat) : Int) := by push_cast; rfl
  show wpAny _ _ (Builtin.«dict.update.loop» ⟨[.ref d, .ref it, rawInt (((i : Nat) : Int) + 1), .none], []⟩) _ _ _
  rw [ei]
  have hl2 := stored_len kvs k v
  have keep : ∀ b o, b ≠ d → b ≠ it → s.heap.get? b = some o → h2.get? b = some o := fun b o b1 b2 hb => (sb2.2 b b1).trans ((sb1.2 b b2).trans hb)
  have ed : ks.drop i = (k, v) :: ks.drop (i + 1) := by
   obtain ⟨hl', e⟩ := List.getElem?_eq_some_iff.mp hki
   rw [← e]
   exact List.drop_eq_getElem_cons hl'
  refine ih (i + 1) (by omega) A R _ ⟨hh, stored kvs k v, hd2, ?_, ?_, n1, n2, n3, hks, ?_, by omega, ?_⟩
  ·exact hit1.at fun o ho => (sb2.2 it (Ne.symm n1)).trans ho
  ·obtain ⟨o, ho, r⟩ := hl
   exact ⟨o, keep l o (Ne.symm n2) (Ne.symm n3) ho, r⟩
  ·intro j x hj hxj
   obtain ⟨t', key', k', v', e1, e2, e3, e4, e5, e6⟩ := hall j x (by omega) hxj
   obtain ⟨o, ho, r⟩ := e2
   exact ⟨t', key', k', v', e1, ⟨o, keep t' o e3 e4 ho, r⟩, e3, e4, e5, e6⟩
  ·intro h' tk hd' keep'
   rw [ed] at h
   exact h h' tk hd' fun b o b1 b2 hb => keep' b o b1 b2 (keep b o b1 b2 hb)
end
section
variable {X : Cx}
def rDictP : List V → Hp → VK → Prop := fun xs H Q => ∃ (a : Addr) (vs : List V) (ps : List (Key × V)), xs = [V.ref a] ∧ H a = some (.lst vs) ∧
 Paired (fun v (p : Key × V) => ∃ t, v = .ref t ∧ H t = some (.tup [kV p.1, p.2])) vs ps ∧ ps.length ≤ 1000 ∧ ∀ p, H p = none → Q (.ref p) (upd H p (.dK (mergeK [] ps)))
theorem call_dictP (hc : X.calm = true) : CallR X (.type "dict") rDictP := by
 intro pins s σ H xs us Q I r h
 obtain ⟨a, vs, ps, rfl, ha, hp, hz, q⟩ := h
 obtain ⟨u, rfl, ru⟩ := r.one
 cases ru
 obtain ⟨hzl, its, n, rv, ho⟩ := (show ObjOk X.prog X.w H s.heap a (.lst vs) from I.hok a _ ha)
 refine callType_codes (Q₁ := fun obj s₁ => obj = .ref s.heap.objs.size ∧ s₁ = { s with heap := s.heap.push { cls := .type "dict", data := .dict #[] } }) F.kt_called_dict (F.kt_typeCall_dict_1 _) F.entry_dict_init (kt_code_dict_new _ ⟨rfl, rfl⟩) ?_
 rintro obj s₁ ⟨rfl, rfl⟩
 have hnew : (s.heap.push { cls := .type "dict", data := .dict #[] }).DictOf (mixKind X.prog X.w) s.heap.objs.size [] := Heap.DictOf.new s.heap
 have ho' := Heap.get?_push_of_some { cls := .type "dict", data := .dict #[] } ho
 refine ⟨hnew.typeIs, F.args_dict_init_2 _ _, ?_⟩
 unfold Builtin.«dict.__init__»
 refine wpAny_bind ?_
 unfold Builtin.Dict.selfAndRest
 refine wpAny_bind (wpAny_notOrdered_dict hnew.typeIs ?_)
 show wpAny _ _ (pure (s.heap.objs.size, [Value.ref a])) _ _ _
 refine wpAny_pure ?_
 show wpAny _ _ (Builtin.Dict.updateFrom "dict.__init__" s.heap.objs.size (.ref a) [] .none) _ _ _
 unfold Builtin.Dict.updateFrom
 refine wpAny_bind (wpAny_typeOf (T := "list") ⟨_, ho', rfl⟩ ?_)
 rw [if_pos (by decide)]
 refine wpAny_bind (list_keys_miss ho' (I.ok.hd hc) fun h1 tk1 k1 => ?_)
 show wpAny _ _ (rule _ >>= fun _ => pyIter (.ref a) >>= _) _ _ _
 refine wpAny_bind (wpAny_rule ?_)
 have hs0 : ∀ b o, s.heap.get? b = some o → h1.get? b = some o := fun b o hb => k1 b o (Heap.get?_push_of_some _ hb)
 have ho1 := hs0 _ _ ho
 refine wpAny_bind (wpAny_pyIter_list (s := { s with heap := h1, toks := tk1 }) (items := its.toArray) ⟨_, ho1, rfl, _, rfl⟩ ?_)
 refine wpAny_pure ⟨plainId_quiet loop_plain _, codeAny_builtin loop_entry ?_⟩
 rw [Around.under_plainId loop_plain _]
 have dlt : s.heap.objs.size < h1.objs.size := Heap.lt_size (k1 _ _ (Heap.get?_push_size _ rfl))
 have alt : a < s.heap.objs.size := Heap.lt_size ho
 have hs2 : ∀ b o, s.heap.get? b = some o → (h1.push { cls := .type "list_iterator", data := .fields #[.ref a, .int 0 0] }).get? b = some o := fun b o hb => Heap.get?_push_of_some _ (hs0 b o hb)
 obtain ⟨rs, hrs, hall⟩ : ∃ rs : List (Key × Value), KV ps rs ∧ ∀ (j : Nat) (x : Value), its[j]? = some x → ∃ t key k v, x = .ref t ∧ s.heap.IsTuple t #[key, v] ∧ t < s.heap.objs.size ∧ (mixKind X.prog X.w).is k key = true ∧ rs[j]? = some (k, v) := by
  clear q ha ho alt hs2 ho1 ho' hzl
  induction hp generalizing its with
  | nil =>
   cases rv
   exact ⟨[], .nil, fun j x h => by simp at h⟩
  | @cons v p vs ps hv hp ih =>
   cases rv with
   | @cons _ u _ us ru rus =>
    obtain ⟨t, rfl, et⟩ := hv
    cases ru
    obtain ⟨rs, g1, g2⟩ := ih (by simp only [List.length_cons] at hz; omega) us rus
    obtain ⟨u0, u1, ht, r0, r1⟩ := tup2_at I et
    refine ⟨(p.1, u1) :: rs, .cons ⟨rfl, r1⟩ g1, fun j x h => ?_⟩
    cases j with
    | zero =>
     simp at h
     subst h
     refine ⟨t, u0, p.1, u1, rfl, ht, ?_, kV_is r0, by simp⟩
     obtain ⟨o, ho, _⟩ := ht
     exact Heap.lt_size ho
    | succ j =>
     obtain ⟨t', key, k, v, e1, e2, e3, e4, e5⟩ := g2 j x (by simpa using h)
     exact ⟨t', key, k, v, e1, e2, e3, e4, by simpa using e5⟩
 have lr : rs.length = ps.length := (kv_len hrs).symm
 have lp : vs.length = ps.length := Paired.length hp
 have li : its.length = vs.length := rv.length.symm
 refine loop_meets (knd := mixKind X.prog X.w) s.heap.objs.size h1.objs.size a its.toArray rs its.toArray.size 0 (by simp) _ _ _ ⟨I.ok.hd hc, [], ?_, ?_, ?_, Nat.ne_of_lt dlt, Ne.symm (Nat.ne_of_lt alt), Ne.symm (Nat.ne_of_lt (Nat.lt_trans alt dlt)), ?_, ?_, ?_, ?_⟩
 ·exact dictOf_at hnew fun o h => Heap.get?_push_of_some _ (k1 _ _ h)
 ·exact ⟨_, Heap.get?_push_size _ rfl, rfl, rfl⟩
 ·exact ⟨_, hs2 _ _ ho, rfl, _, rfl⟩
 ·simp [lr, ← lp, li]
 ·intro j x _ hx
  obtain ⟨t, key, k, v, e1, e2, e3, e4, e5⟩ := hall j x (by simpa using hx)
  obtain ⟨o, ho, rr⟩ := e2
  exact ⟨t, key, k, v, e1, ⟨o, hs2 _ _ ho, rr⟩, Nat.ne_of_lt e3, Nat.ne_of_lt (Nat.lt_trans e3 dlt), e4, e5⟩
 ·have : (1000 : Nat) ≤ sizeLine := by decide
  simp [li, lp]
  omega
 ·intro h' tk hd' keep
  refine ⟨rfl, .ref s.heap.objs.size, upd H s.heap.objs.size (.dK (mergeK [] ps)), ?_, rfl, q _ (I.hok.fresh (Nat.le_refl _))⟩
  have hz' : (mergeK [] ps).length ≤ sizeLine := by
   have := length_mergeK ps []
   have e : ([] : List (Key × V)).length = 0 := rfl
   have : (1000 : Nat) ≤ sizeLine := by decide
   omega
  refine I.laid (a := s.heap.objs.size) (o := .dK (mergeK [] ps)) (t' := tk) (fun b o hb => ?_) (Nat.le_refl _) (dk_new hz' (beq_eq_false_iff_ne.mpr (Ne.symm (Nat.ne_of_lt I.big))) (KV.merge hrs .nil) hd')
  exact keep b o (Nat.ne_of_lt (Heap.lt_size hb)) (Nat.ne_of_lt (Nat.lt_trans (Heap.lt_size hb) dlt)) (hs2 b o hb)
end
end L2
namespace L2
open PySem PySem.Spec PyProof.Rows
def noneIs : Value → Bool
 | .none => true
 | _ => false
theorem noneIs_shape {v : Value} (h : noneIs v = true) : v = .none := by
 cases v <;> first | rfl | cases h
def keyIsN : Option Key → Value → Bool
 | none, v => noneIs v
 | some k, v => keyIs k v
def keyHN (w : World) : Option Key → Int
 | none => 0xFCA86420
 | some k => keyH w k
theorem hash_none {prog : Program} {w : World} {A : Around} {E : Value → Shared → Prop} {s : Shared} {Q : Int → Shared → Prop} (h : Q 0xFCA86420 { s with toks := s.toks + 1 }) : wpAny (model prog w) A (PySem.pyHash .none) Q E s := by
 unfold PySem.pyHash
 have hT : ∀ s' : Shared, s'.TypeIs (.none) "NoneType" := fun _ => rfl
 have hv : [Value.none].any Value.onHeap = false := rfl
 refine wpAny_bind ?_
 rw [cRoomFor, if_neg (by rw [hv]; exact Bool.false_ne_true)]; refine wpAny_pure ?_
 refine wpAny_bind (wpAny_specialOf (hT s) F.slot_NoneType_hash.lookup ?_)
 show wpAny _ _ (if (some (Value.builtin "NoneType.__hash__") == some Value.none) = true then _ else _) Q E s
 rw [if_neg (by decide)]
 refine wpAny_bind (wpAny_specialOf (hT s) F.slot_NoneType_hash.lookup ?_)
 show wpAny _ _ (callSpecialIfBoundUnlessNone? (.none) "__hash__" _ >>= _) Q E s
 refine wpAny_bind (wpAny_callSpecialIfBoundUnlessNone?_slot (hT s) F.slot_NoneType_hash
  (wpAny_call_entry F.slot_NoneType_hash (hT s) F.entry_NoneType_hash
   (show wpAny _ _ (do ret (← mkInt 0xFCA86420)) _ _ s from wpAny_ret_mkInt ?_) (F.args_NoneType_hash_1 _)))
 show wpAny _ _ (if (decide (-(2 : Int) ^ 63 ≤ 0xFCA86420) && decide ((0xFCA86420 : Int) < 2 ^ 63)) = true then _ else _) Q E _
 rw [if_pos (by decide)]
 exact wpAny_pure h
def mixKindN (prog : Program) (w : World) : PySem.KeyKind prog w (Option Key) where
 is := keyIsN
 hash := keyHN w
 inj := fun v a b ha hb => by
  cases a with
  | none =>
   have e := noneIs_shape ha
   subst e
   cases b with
   | none => rfl
   | some k => rcases keyIs_shape (show keyIs k .none = true from hb) with ⟨_, _, _, e⟩ | ⟨_, _, _, e⟩ <;> cases e
  | some k' =>
   cases b with
   | none =>
    have e := noneIs_shape hb
    subst e
    rcases keyIs_shape (show keyIs k' .none = true from ha) with ⟨_, _, _, e⟩ | ⟨_, _, _, e⟩ <;> cases e
   | some k => rw [(mixKind prog w).inj v k' k ha hb]
 byValue := fun k v h => by
  cases k with
  | none => have e := noneIs_shape h; subst e; rfl
  | some k => exact (mixKind prog w).byValue k v h
 pyHash := fun {A E s k v Q} hv h => by
  cases k with
  | none => have e := noneIs_shape hv; subst e; exact hash_none h
  | some k => exact (mixKind prog w).pyHash (k := k) hv h
 eqBool := fun {A E s a b u v Q} hu hv h => by
  cases a with
  | none =>
   have e := noneIs_shape hu
   subst e
   cases b with
   | none =>
    have e := noneIs_shape hv
    subst e
    exact SeqAt.EqAt.same _ _ _ _ _ (by simpa using h)
   | some k =>
    have h' : Q false s := by simpa using h
    rcases keyIs_shape (show keyIs k v = true from hv) with ⟨j, t, rfl, rfl⟩ | ⟨y, t, rfl, rfl⟩
    ·exact SeqAt.EqAt.none_int j t _ _ _ _ h'
    ·exact SeqAt.EqAt.none_str y t _ _ _ _ h'
  | some k' =>
   cases b with
   | none =>
    have e := noneIs_shape hv
    subst e
    have h' : Q false s := by simpa using h
    rcases keyIs_shape (show keyIs k' u = true from hu) with ⟨j, t, rfl, rfl⟩ | ⟨y, t, rfl, rfl⟩
    ·exact SeqAt.EqAt.int_none j t _ _ _ _ h'
    ·exact SeqAt.EqAt.str_none y t _ _ _ _ h'
   | some k =>
    refine (mixKind prog w).eqBool (a := k') (b := k) hu hv ?_
    have e : decide (some k' = some k) = decide (k' = k) := by
     by_cases z : k' = k
     ·subst z; simp
     ·rw [decide_eq_false z, decide_eq_false (by intro y; cases y; exact z rfl)]
    rw [← e]
    exact h
 «strs» := fun k x t v h => by
  cases k with
  | none => cases h
  | some k => exact (mixKind prog w).strs k x t v h
section
variable {prog : Program} {w : World}
theorem dictOf_none {h : Heap} {a : Addr} {vs : List (Key × Value)} (m : h.DictOf (mixKind prog w) a vs) : ∃ f, h.MapOf (mixKindN prog w) a f ∧ f none = none := by
 obtain ⟨o, es, ep, ho, hx, hd, hk, hp, hn⟩ := m
 refine ⟨fun k => findBy keyIsN es k, ⟨o, es, ep, ho, hx, hd, ?_, fun k => rfl⟩, ?_⟩
 ·intro e he
  obtain ⟨k, h1, h2⟩ := hk e he
  exact ⟨some k, h1, h2⟩
 ·show findBy keyIsN es none = none
  unfold findBy
  have : es.find? (fun e => keyIsN none e.key) = none := by
   rw [Array.find?_eq_none]
   intro e he hc
   obtain ⟨k, h1, h2⟩ := hk e he
   have z := noneIs_shape hc
   rw [z] at h1
   rcases keyIs_shape (show keyIs k .none = true from h1) with ⟨_, _, _, e⟩ | ⟨_, _, _, e⟩ <;> cases e
  rw [this]; rfl
end
def tDGetN (td ty : TE) : TE := fun σ H Q => td σ H fun x H1 => ∃ a, x = .ref a ∧ IsD H1 a ∧ ty σ H1 fun y H2 => (∃ o, DGet H2 a y o ∧ Q (o.getD .non) H2) ∨ (y = .non ∧ (∃ kvs, H2 a = some (.dK kvs)) ∧ Q .non H2)
section
variable {X : Cx} {o e f : Expr} {apos cpos : Pos} {td ty tx : TE}
theorem pe_dgetN (hu : X.A.units + 1 < cLine) (ho : PE X o td) (he : PE X e ty) (m : M1 X o "get" apos e cpos) : PE X (.Call (.Attribute o "get" apos) [e] [] cpos) (tDGetN td ty) := by
 intro pins s σ H Q I h
 refine wpAny_Call_method m.base m.few m.line PySem.F.plainAttrs_dict PySem.F.slot_dict_get PySem.F.type_dict_get (thn (ho pins s σ H _ I h) fun u s1 ⟨x, H1, I1, rx, a, ex, d, q1⟩ => ?_)
 subst ex
 obtain rfl : u = Value.ref a := rx
 obtain ⟨t1, t2, _⟩ := isD_at I1 d
 refine ⟨t1, t2, ?_⟩
 rw [m.trees]
 refine Calls.callWith_builtin rfl (Calls.evalArgs_plain (Calls.spliced_cons (thn (he pins s1 σ H1 _ I1 q1) fun iv s2 ⟨y, H2, I2, ry, qq⟩ => Calls.spliced_nil ?_)))
 rcases qq with ⟨ov, g, q2⟩ | ⟨rfl, ⟨kvs, ha⟩, q2⟩
 ·exact d_get1 hu I2 g ry fun w' s3 I3 rw' => ⟨_, H2, I3, rw', q2⟩
 ·have e : iv = .none := ry
  subst e
  obtain ⟨z, hd, vs, rel, dd⟩ := dk_of I2.hok ha
  obtain ⟨f, hm, hf⟩ := dictOf_none dd
  refine call_meetsIn PySem.F.slot_dict_get dd.typeIs PySem.F.entry_dict_get (PySem.F.args_dict_get_2 _ _) (meets_dict_get (mixKindN X.prog X.w) a (k := none) (key := .none) rfl hd) ⟨f, hm, ?_⟩
  rw [hf]
  exact ⟨.non, H2, I2.tok _, rfl, q2⟩
def rNotInKD (K : PySem.W.Frag) (P : Program) (w : World) : R2 := fun x y H Q => ∃ (a : Addr) (kvs : List (Key × V)) (k : Key), x = kV k ∧ y = .ref a ∧ KDict K P w a kvs ∧ (a == sysModules) = false ∧ Q (.bl (!(valV kvs k).isSome)) H
theorem op_notInKD : OpR X (compareOp .NotIn) (rNotInKD X.K X.prog X.w) := by
 intro pins s σ H x y v u Q I rx ry h
 obtain ⟨a, kvs, k, rfl, rfl, kd, ha, q⟩ := h
 cases ry
 obtain ⟨vs, rel, dd⟩ := kd s.heap I.kIn
 refine wpAny_notIn_of (kV_is rx) ha dd.mapOf ?_
 rw [← (rel.val k).isSome_eq]
 exact ⟨.bl _, H, I.tok _, rfl, q⟩
def rIsUpper : V → List V → Hp → VK → Prop := fun x vs H Q => ∃ z, x = .str z ∧ vs = [] ∧ Q (.bl (Txt.isupper z)) H
theorem mt_isupper : MtR X "str.isupper" rIsUpper := by
 intro pins s σ H x xs v us Q I rx rs h
 obtain ⟨z, rfl, rfl, q⟩ := h
 obtain ⟨t, rfl⟩ := rx
 cases rs
 exact SC.isupper ⟨.bl (Txt.isupper z), H, I, rfl, q⟩
end
section
variable {prog : Program} {w : World} {A : Around} {E : Value → Shared → Prop}
theorem draw_list {it t : Addr} {items : Array Value} (hne : t ≠ it) : ∀ (n i : Nat) (s : Shared) (Q : List Value → Shared → Prop), s.heap.IsListIter it t i → s.heap.IsList t items → i + n ≤ items.size →
  (∀ h', h'.IsListIter it t (i + n) → Heap.SameBut it s.heap h' → Q ((items.toList.drop i).take n) { s with heap := h' }) → wpAny (model prog w) A (draw (.ref it) n) Q E s
 | 0, i, s, Q, hit, _, _, hQ => by
  show wpAny _ _ (pure []) Q E s
  exact wpAny_pure (by simpa using hQ s.heap hit (Heap.SameBut.refl ..))
 | n + 1, i, s, Q, hit, ht, hle, hQ => by
  have hlt : i < items.size := by omega
  show wpAny _ _ (pyNext (.ref it) >>= _) Q E s
  refine wpAny_bind (wpAny_pyNext_list_item hit ht (x := items[i]) (by simp [hlt]) fun h₁ hit₁ hs₁ => ?_)
  have ht₁ : h₁.IsList t items := by
   obtain ⟨o, ho, r⟩ := ht
   exact ⟨o, (hs₁.2 t hne).trans ho, r⟩
  refine wpAny_bind (wpAny_holding (draw_list hne n (i + 1) _ _ hit₁ ht₁ (by omega) fun h₂ hit₂ hs₂ => wpAny_pure ?_))
  have hd : items.toList.drop i = items[i] :: items.toList.drop (i + 1) := by simp [List.drop_eq_getElem_cons, hlt]
  have := hQ h₂ (by rw [show i + (n + 1) = i + 1 + n by omega]; exact hit₂) (hs₁.trans hs₂)
  rw [hd, List.take_succ_cons] at this
  exact this
theorem unpackItems_list {s : Shared} {t : Addr} {items : Array Value} {Q : List Value → Shared → Prop} (hh : A.handled = none) (ht : s.heap.IsList t items)
  (hQ : ∀ h', Heap.ExtBut s.heap.objs.size s.heap h' → Q items.toList { s with heap := h' }) : wpAny (model prog w) A (unpackItems (.ref t) items.size none) Q E s := by
 have hlt : t ≠ s.heap.objs.size := by obtain ⟨o, ho, _⟩ := ht; exact Nat.ne_of_lt (Heap.lt_size ho)
 unfold unpackItems
 refine wpAny_bind ?_
 unfold notIterableAtAll
 refine wpAny_bind (wpAny_specialOf ht.typeIs slot_list_iter.lookup ?_)
 refine wpAny_pure ?_
 simp only [Bool.false_eq_true, if_false]
 refine wpAny_bind (wpAny_holding (wpAny_pyIter_list ht ?_))
 have htp : (s.heap.push { cls := .type "list_iterator", data := .fields #[.ref t, .int 0 0] }).IsList t items := by
  obtain ⟨o, ho, r⟩ := ht
  exact ⟨o, Heap.get?_push_of_some _ ho, r⟩
 refine wpAny_bind (wpAny_holding (draw_list hlt items.size 0 _ _ ⟨_, Heap.get?_push_size _ rfl, rfl, rfl⟩ htp (by omega) fun h₁ hit₁ hs₁ => ?_))
 have hall : List.take items.size (List.drop 0 items.toList) = items.toList := by
  rw [List.drop_zero]; exact List.take_of_length_le (by simp)
 rw [hall]
 rw [if_neg (by simp)]
 have ht₁ : h₁.IsList t items := by
  obtain ⟨o, ho, r⟩ := htp
  exact ⟨o, (hs₁.2 t hlt).trans ho, r⟩
 refine wpAny_bind (wpAny_holding (wpAny_pyNext_list_end hh hit₁ ht₁ (by simp) fun h₂ he₂ => ?_))
 simp only [Option.isSome_none, Bool.false_eq_true, if_false]
 refine wpAny_pure (hQ h₂ fun b o hb e => he₂ b o hb (hs₁.extBut b o hb (Heap.get?_push_of_some _ e)))
end
section
variable {X : Cx}
def gLst (n : Nat) (t : TGs) : TG := fun v σ H Q => ∃ a xs, v = .ref a ∧ H a = some (.lst xs) ∧ xs.length = n ∧ t xs σ H Q
theorem pg_lst {es : List Expr} {k : Nat} {t : TGs} {n : Nat} {pos : Pos} (hc : X.calm = true) (h : PGs X es t)
  (hn : (assignEach es X.env).length = n := by rfl) (hst : (assignEach es X.env).findIdx? (·.1) = none := by rfl) : PG X (.Tuple es k pos) (gLst n t) := by
 intro pins s σ H v u Q I r hw
 obtain ⟨a, xs, e1, hq, hl, hw⟩ := hw
 subst e1
 cases r
 obtain ⟨its, rv, pl, hz⟩ := I.list (SqL.of hq)
 rw [assign_Tuple]
 refine wpAny_bind (wpAny_standAt ?_)
 unfold unpack
 have hn' : (assignEach es X.env).length = its.toArray.size := by simp [hn, ← hl, rv.length]
 rw [hn', hst]
 refine wpAny_bind (wpAny_holding (unpackItems_list (I.ok.hd hc) pl.isList fun h' hx => ?_))
 have I1 : Inv X pins σ H { s with heap := h' } := I.kept (t' := s.toks) fun b o e => hx b o (Nat.ne_of_lt (Heap.lt_size e)) e
 exact h pins _ σ H xs _ Q I1 (by simpa using rv) hw
end
end L2
namespace L2
open PySem PySem.Spec PyProof.Rows
def turnBy (e : Expr) (depth : Nat) (it acc : Value) (env : Env) (p : Pos) (target : Expr) (ifs : List Expr) (B : Sem Fin → Sem Fin) : Sem Fin := do
 standAt p
 match ← pyNext it with
 | none => pure (.done .next)
 | some v =>
  letOwnedTupleGo target it v
  assign target env v
  let mut ok := true
  for c in ifs do
   if ok then ok ← isTrue c env (eval c env)
  if ok then B (again (.compLoop e depth it acc env)) else again (.compLoop e depth it acc env)
def emitU (kx vx : Expr) (D : Addr) (env : Env) : Sem Unit := do
 let kv ← eval kx env
 let vv ← holding [kv] (eval vx env)
 standAt { kx.pos with endLine := vx.pos.endLine, endCol := vx.pos.endCol }
 holding [kv, vv] (dictSet D kv vv)
def emitD (kx vx : Expr) (D : Addr) (env : Env) (k : Sem Fin) : Sem Fin := do
 emitU kx vx D env
 k
def innerD (e : Expr) (iter2 : Expr) (acc : Value) (env : Env) (k : Sem Fin) : Sem Fin := do
 let x ← eval iter2 env
 standAt iter2.pos
 let x ← foldedSetIterable iter2 env x
 let _ ← runOwn (.compStart e 1 (← holding [x] (pyIter x)) acc env) env
 k
theorem turn0 (kx vx tg iter : Expr) (ifs : List Expr) (tg2 iter2 : Expr) (ifs2 : List Expr) (scope : Scope) (pos : Pos) (it : Value) (D : Addr) (env : Env) :
  compTurn (.DictComp kx vx [⟨tg, iter, ifs, 0⟩, ⟨tg2, iter2, ifs2, 0⟩] scope pos) 0 it (.ref D) env = turnBy (.DictComp kx vx [⟨tg, iter, ifs, 0⟩, ⟨tg2, iter2, ifs2, 0⟩] scope pos) 0 it (.ref D) env iter.pos tg ifs (innerD (.DictComp kx vx [⟨tg, iter, ifs, 0⟩, ⟨tg2, iter2, ifs2, 0⟩] scope pos) iter2 (.ref D) env) := by rfl
theorem turn1 (kx vx tg iter : Expr) (ifs : List Expr) (tg2 iter2 : Expr) (ifs2 : List Expr) (scope : Scope) (pos : Pos) (it : Value) (D : Addr) (env : Env) :
  compTurn (.DictComp kx vx [⟨tg, iter, ifs, 0⟩, ⟨tg2, iter2, ifs2, 0⟩] scope pos) 1 it (.ref D) env = turnBy (.DictComp kx vx [⟨tg, iter, ifs, 0⟩, ⟨tg2, iter2, ifs2, 0⟩] scope pos) 1 it (.ref D) env iter2.pos tg2 ifs2 (emitD kx vx D env) := by rfl
theorem lp_loop {prog : Program} {w : World} {A : Around} {R : Result → Shared → Prop} {s : Shared} {kx vx target : Expr} {gs : List Comprehension} {scope : Scope} {pos : Pos} {depth : Nat} {p : Pos} {ifs : List Expr} {it acc : Value} {env : Env} {B : Sem Fin → Sem Fin}
  (ht : compTurn (.DictComp kx vx gs scope pos) depth it acc env = turnBy (.DictComp kx vx gs scope pos) depth it acc env p target ifs B) (I : Nat → Shared → Prop)
  (turn : ∀ n s, I n s → wpAny (model prog w) A (pyNext it) (fun r s₁ => match r with
   | none => R (.ok .next) s₁
   | some v => wpAny (model prog w) A (letOwnedTupleGo target it v) (fun _ s₁' => wpAny (model prog w) A (assign target env v) (fun _ s₂ =>
     wpAny (model prog w) A (forIn ifs true fun c r => if r = true then do let ok ← isTrue c env (eval c env); pure (ForInStep.yield ok) else pure (ForInStep.yield r)) (fun ok s₃ =>
      if ok = true then (∀ (k : Sem Fin) (Q : Fin → Shared → Prop), (∀ s₆, (∃ m, m < n ∧ I m s₆) → wpAny (model prog w) A k Q (fun _ _ => False) s₆) → wpAny (model prog w) A (B k) Q (fun _ _ => False) s₃)
      else ∃ m, m < n ∧ I m s₃) (fun _ _ => False) s₂) (fun _ _ => False) s₁') (fun _ _ => False) s₁) (fun _ _ => False) s)
  (n : Nat) (h : I n s) : codeAny (model prog w) A (.compLoop (.DictComp kx vx gs scope pos) depth it acc env) R s := by
 refine codeAny_loop rfl I (fun n s hI => ?_) n h
 show wpAny _ A ((compTurn (.DictComp kx vx gs scope pos) depth it acc env).onRaise (fun x => do noteFrame x env; theTreesLotGoes x)) _ _ s
 refine wpAny_noted ?_
 refine wpAny_noRaise ?_
 rw [ht]
 unfold turnBy
 refine wpAny_bind (wpAny_standAt (wpAny_bind (wpAny_mono (turn n s hI) (fun r s₁ h₁ => ?_) fun _ _ h' => h')))
 cases r with
 | none => exact wpAny_pure h₁
 | some v =>
  refine wpAny_bind (wpAny_mono h₁ (fun _ s₁' h₁' => ?_) fun _ _ h' => h')
  refine wpAny_bind (wpAny_mono h₁' (fun _ s₂ h₂ => wpAny_bind (wpAny_mono h₂ (fun ok s₃ h₃ => ?_) fun _ _ h' => h')) fun _ _ h' => h')
  cases ok with
  | false => exact wpAny_pure ⟨rfl, h₃⟩
  | true => exact h₃ _ _ fun s₆ h₆ => wpAny_pure ⟨rfl, h₆⟩
abbrev TB := St → Hp → (St → Hp → Prop) → Prop
def lpR (J : It) (g : TG) (tc : TT) (tb : TB) (Fin : St → Hp → Prop) (σ0 : St) (H0 : Hp) : Prop :=
 ∃ W : Nat → Nat → St → Hp → Prop, (∃ m, W 0 m σ0 H0) ∧ ∀ i m σ H, W i m σ H →
  (J.stop i H ∧ Fin σ H) ∨ (J.go i H ∧ ∃ N : St → Hp → Prop, (∀ σ' H', N σ' H' → ∃ m', m' < m ∧ W (i + 1) m' σ' H') ∧ ∀ x H1, J.yld i H x H1 → g x σ H1 fun σ2 H2 => tc σ2 H2 fun b H3 =>
   if b = true then tb σ2 H3 N else N σ2 H3)
theorem lp_by {J : It} {g : TG} {tc : TT} {tb : TB} {Fin : St → Hp → Prop} {σ0 : St} {H0 : Hp} (n : Nat) (Pv : Nat → St → Hp → Prop) (h0 : Pv 0 σ0 H0) (hend : ∀ σ H, Pv n σ H → J.stop n H ∧ Fin σ H)
  (hs : ∀ i σ H, i < n → Pv i σ H → J.go i H ∧ ∀ x H1, J.yld i H x H1 → g x σ H1 fun σ2 H2 => tc σ2 H2 fun b H3 =>
   if b = true then tb σ2 H3 (Pv (i + 1)) else Pv (i + 1) σ2 H3) : lpR J g tc tb Fin σ0 H0 := by
 refine ⟨fun i m σ H => m = n - i ∧ i ≤ n ∧ Pv i σ H, ⟨n, by simp, Nat.zero_le _, h0⟩, ?_⟩
 rintro i m σ H ⟨rfl, hi, p⟩
 by_cases hlt : i < n
 ·obtain ⟨q1, q2⟩ := hs i σ H hlt p
  exact .inr ⟨q1, Pv (i + 1), fun σ' H' p' => ⟨n - (i + 1), by omega, rfl, hlt, p'⟩, q2⟩
 ·have e : i = n := by omega
  subst e
  exact .inl (hend σ H p)
def tEmit (tk tv : TE) (D : Addr) : TB := fun σ H N => tk σ H fun y H4 => tv σ H4 fun v H5 => ∃ kvs k, y = kV k ∧ H5 D = some (.dK kvs) ∧ kvs.length < sizeLine ∧ N σ (upd H5 D (.dK (putK kvs k v)))
def tIn (wi : TI) (g : TG) (tc : TT) (tb : TB) : TB := fun σ H N => wi σ H fun J H1 => lpR J g tc tb N σ H1
def tCompD2 (wi : TI) (g : TG) (tc : TT) (wi2 : TI) (g2 : TG) (tc2 : TT) (tk tv : TE) (nl : Nat) (caps : List Nat) : TE := fun σ H Q =>
 wi σ H fun J H1 => ∀ D, H1 D = none → lpR J g tc (tIn wi2 g2 tc2 (tEmit tk tv D)) (fun _ H' => Q (.ref D) H') (stC nl caps σ) (upd H1 D (.dK []))
def PB (X : Cx) (B : Sem Fin → Sem Fin) (tb : TB) : Prop :=
 ∀ (pins : List (Addr × Obj)) (s : Shared) (σ : St) (H : Hp) (N : St → Hp → Prop), Inv X pins σ H s → tb σ H N → ∀ (k : Sem Fin) (Q : Fin → Shared → Prop), (∀ s' σ' H', Inv X pins σ' H' s' → N σ' H' → wpAny (model X.prog X.w) X.A k Q X.xe s') → wpAny (model X.prog X.w) X.A (B k) Q X.xe s
section
variable {X : Cx} {tg iter kx vx tg2 iter2 : Expr} {ifs ifs2 : List Expr} {scope : Scope} {pos : Pos} {wi wi2 : TI} {g g2 : TG} {tc tc2 : TT} {tk tv : TE} {locs cs : List Str} {caps : List Nat}
theorem lp_run {gs : List Comprehension} {depth : Nat} {p : Pos} {acc : Value} {B : Sem Fin → Sem Fin} {tb : TB} {pins : List (Addr × Obj)} {σ : St} {H : Hp} {s : Shared} {it : Addr} {fp : List Addr} {tn : Nat → Heap → Prop} {J : It} {R : Result → Shared → Prop} {Fin : St → Hp → Prop}
  (hx : X.xe = fun _ _ => False) (hturn : compTurn (.DictComp kx vx gs scope pos) depth (.ref it) acc X.env = turnBy (.DictComp kx vx gs scope pos) depth (.ref it) acc X.env p tg ifs B) (hc : X.calm = true) (hB : PB X B tb)
  (I : Inv X pins σ H s) (T : Turn X.prog X.w X.K tg J fp it tn) (st : tn 0 s.heap) (hf : ∀ b ∈ fp, FpOk X pins H b) (hg : PG X tg g) (ht : PTs X ifs tc)
  (h : lpR J g tc tb Fin σ H) (hR : ∀ σ' H' s', Inv X pins σ' H' s' → Fin σ' H' → R (.ok .next) s') :
  codeAny (model X.prog X.w) X.A (.compLoop (.DictComp kx vx gs scope pos) depth (.ref it) acc X.env) R s := by
 obtain ⟨W, ⟨m0, w0⟩, turn⟩ := h
 have stat : ∀ {H' : Hp}, (∀ b ∈ fp, H' b = none) → ∀ b ∈ fp, FpOk X pins H' b := fun hn b hb => ⟨hn b hb, (hf b hb).2⟩
 refine lp_loop hturn (fun n s' => ∃ i σ' H', Inv X pins σ' H' s' ∧ tn i s'.heap ∧ (∀ b ∈ fp, H' b = none) ∧ W i n σ' H') ?_ m0 ⟨0, σ, H, I, st, fun b hb => (hf b hb).1, w0⟩
 rintro n s3 ⟨i, σ3, H3, I3, st3, fr3, w3⟩
 rw [← hx]
 rcases turn i n σ3 H3 w3 with ⟨stop, qn⟩ | ⟨go, Nn, hNn, step⟩
 ·refine thn (T.done X rfl rfl rfl hc i pins s3 σ3 H3 _ I3 (stat fr3) st3 stop) fun r s4 ⟨hr, I4⟩ => ?_
  subst hr
  exact hR σ3 H3 s4 I4 qn
 ·refine thn (T.item X rfl rfl rfl hc i pins s3 σ3 H3 _ I3 (stat fr3) st3 go) fun r s4 ⟨u, hr, h4⟩ => ?_
  subst hr
  refine thn h4 fun _ s5 ⟨x, H5, I5, r5, y5, st5, fr5⟩ => ?_
  have I5' := I5.pinned (stat fr5) (T.obj _ _ st5)
  have again : ∀ {σ7 : St} {H7 : Hp} {s7 : Shared}, Inv X (pins ++ pinsAt fp s5.heap) σ7 H7 s7 → Nn σ7 H7 →
    ∃ m, m < n ∧ ∃ i σ' H', Inv X pins σ' H' s7 ∧ tn i s7.heap ∧ (∀ b ∈ fp, H' b = none) ∧ W i m σ' H' := fun {σ7 H7 s7} I7 n7 => by
   obtain ⟨m', hm, w7⟩ := hNn σ7 H7 n7
   refine ⟨m', hm, i + 1, σ7, H7, I7.unpinned, T.keep _ _ _ st5 fun b hb o e => (I7.pin (b, o) (List.mem_append_right _ (List.mem_append_right _ (mem_pinsAt hb e)))).1, fun b hb => ?_, w7⟩
   obtain ⟨o, e, d⟩ := T.obj _ _ st5 b hb
   exact (I7.pin (b, o) (List.mem_append_right _ (List.mem_append_right _ (mem_pinsAt hb e)))).2.1
  refine thn (hg _ s5 σ3 H5 x u _ I5' r5 (step x H5 y5)) fun _ s6 ⟨σ6, H6, I6, q6⟩ => ?_
  refine thn (ht _ s6 σ6 H6 _ I6 q6) fun b s7 ⟨H7, I7, q7⟩ => ?_
  cases b with
  | false => exact again I7 q7
  | true =>
   intro k Q hk
   have hB' := hB _ s7 σ6 H7 _ I7 q7 k Q
   rw [hx] at hB'
   rw [hx] at hk
   rw [hx]
   exact hB' fun s8 σ8 H8 I8 q8 => hk s8 (again I8 q8)
theorem p_emit {D : Addr} (hk : PE X kx tk) (hv : PE X vx tv) : PB X (emitD kx vx D X.env) (tEmit tk tv D) := by
 intro pins s σ H N I h k Q hq
 unfold emitD emitU
 refine wpAny_bind (wpAny_bind (thn (hk pins s σ H _ I h) fun u8 s8 ⟨v8, H8, I8, r8, q8⟩ => wpAny_bind (wpAny_holding (thn (hv pins s8 σ H8 _ I8 q8) fun u9 s9 ⟨v9, H9, I9, r9, kvs, kk, e9, f9, z9, q9⟩ => ?_))))
 subst e9
 exact wpAny_bind (wpAny_standAt (wpAny_holding (d_dictSet I9 f9 z9 r8 r9 fun s' I' => hq s' σ _ I' q9)))
theorem start1 {prog : Program} {w : World} {A : Around} {R : Result → Shared → Prop} {s : Shared} {it acc : Value} {env : Env}
  (h0 : codeAny (model prog w) A (.compLoop (.DictComp kx vx [⟨tg, iter, ifs, 0⟩, ⟨tg2, iter2, ifs2, 0⟩] scope pos) 1 it acc env) R s)
  (h : wpAny (model prog w) A (pyIter it) (fun it' s' => codeAny (model prog w) A (.compLoop (.DictComp kx vx [⟨tg, iter, ifs, 0⟩, ⟨tg2, iter2, ifs2, 0⟩] scope pos) 1 it' acc env) R s')
   (notedBy (model prog w) A env fun x s' => R (.error x) s') s) :
  codeAny (model prog w) A (.compStart (.DictComp kx vx [⟨tg, iter, ifs, 0⟩, ⟨tg2, iter2, ifs2, 0⟩] scope pos) 1 it acc env) R s := by
 refine codeAny_of_tree ?_
 show wpAny _ A ((compStart (.DictComp kx vx [⟨tg, iter, ifs, 0⟩, ⟨tg2, iter2, ifs2, 0⟩] scope pos) 1 it acc env).onRaise (fun x => do noteFrame x env; standAt theWindowsPlace)) _ _ s
 refine wpAny_notedAt ?_
 unfold compStart
 show wpAny _ A (ask >>= _) _ _ s
 refine wpAny_bind (wpAny_askSetting (wpAny_ite ?_))
 split
 ·first
   | exact wpAny_bind (wpAny_pure (wpAny_pure (And.intro rfl h0)))
   | exact wpAny_pure (And.intro rfl h0)
 ·first
   | exact wpAny_bind (wpAny_rule (wpAny_bind (wpAny_standAt (wpAny_bind (wpAny_mono h (fun it' s' h' => wpAny_pure (And.intro rfl h')) fun _ _ x => x)))))
   | (refine wpAny_bind (wpAny_rule ?_); show wpAny _ _ (standAt iter2.pos >>= _) _ _ s; exact wpAny_bind (wpAny_standAt (wpAny_bind (wpAny_mono h (fun it' s' h' => wpAny_pure (And.intro rfl h')) fun _ _ x => x))))
theorem p_inner {D : Addr} (hx : X.xe = fun _ _ => False) (hc : X.calm = true) (hi2 : PI X tg2 iter2 wi2) (hs2 : ∀ x, foldedSetIterable iter2 X.env x = pure x) (hg2 : PG X tg2 g2) (ht2 : PTs X ifs2 tc2) (hk : PE X kx tk) (hv : PE X vx tv) :
  PB X (innerD (.DictComp kx vx [⟨tg, iter, ifs, 0⟩, ⟨tg2, iter2, ifs2, 0⟩] scope pos) iter2 (.ref D) X.env) (tIn wi2 g2 tc2 (tEmit tk tv D)) := by
 intro pins s σ H N I h k Q hq
 unfold innerD
 refine wpAny_bind (thn (hi2 pins s σ H _ I h) fun v s1 h1 => wpAny_bind (wpAny_standAt ?_))
 rw [hs2]
 refine wpAny_bind (wpAny_pure (wpAny_bind (wpAny_holding (thn h1 fun itv s2 h2 => ?_))))
 obtain ⟨it, fp, tn, J, H2, e, I2, T, st2, f2, q⟩ := h2
 subst e
 refine wpAny_bind (wpAny_runOwn ?_)
 have loop := lp_run (R := fun r s' => match r with | .ok f => wpAny (model X.prog X.w) X.A k Q X.xe s' | .error e => cameBackBy (model X.prog X.w) X.A X.env X.xe e s') hx (turn1 kx vx tg iter ifs tg2 iter2 ifs2 scope pos (.ref it) D X.env) hc (p_emit hk hv) I2 T st2 f2 hg2 ht2 q
  fun σ' H' s' I' q' => hq s' σ' H' I' q'
 exact start1 loop (T.self _ 0 _ _ _ st2 loop)
theorem dcomp2_block {pins : List (Addr × Obj)} {σ : St} {H : Hp} {s : Shared} {it : Addr} {fp : List Addr} {tn : Nat → Heap → Prop} {J : It} {RR : Value → Addr → Result → Shared → Prop} {E : Value → Shared → Prop} {Fin : Hp → Prop}
  (hc : X.calm = true) (hb : blkOk scope X.env.scope = true) (hcap : capsOk X.N scope cs caps = true)
  (I : Inv X pins σ H s) (T : Turn X.prog X.w X.K tg J fp it tn) (st : tn 0 s.heap) (hf : ∀ b ∈ fp, FpOk X pins H b)
  (hg : PG (cxC X scope (locs ++ cs) s H fp) tg g) (ht : PTs (cxC X scope (locs ++ cs) s H fp) ifs tc) (hi2 : PI (cxC X scope (locs ++ cs) s H fp) tg2 iter2 wi2) (hs2 : ∀ x, foldedSetIterable iter2 (cxC X scope (locs ++ cs) s H fp).env x = pure x) (hg2 : PG (cxC X scope (locs ++ cs) s H fp) tg2 g2) (ht2 : PTs (cxC X scope (locs ++ cs) s H fp) ifs2 tc2) (hk : PE (cxC X scope (locs ++ cs) s H fp) kx tk) (hv : PE (cxC X scope (locs ++ cs) s H fp) vx tv)
  (h : lpR J g tc (tIn wi2 g2 tc2 (tEmit tk tv s.heap.objs.size)) (fun _ H' => Fin H') (stC locs.length caps σ) (upd H s.heap.objs.size (.dK [])))
  (hRR : ∀ σ' H' s', Inv (cxC X scope (locs ++ cs) s H fp) [] σ' H' s' → Fin H' → RR (.ref s.heap.objs.size) (s.heap.objs.size + 1) (.ok .next) s') :
  wpAny (model X.prog X.w) X.A newDict (fun acc s₃ => wpAny (model X.prog X.w) X.A (newFunctionEnv scope X.env.globals (capOf X.env.cells scope.names []) [] X.env.qual none .none (some X.env)) (fun cenv s₄ =>
   codeAny (model X.prog X.w) X.A (.compStart (.DictComp kx vx [⟨tg, iter, ifs, 0⟩, ⟨tg2, iter2, ifs2, 0⟩] scope pos) 0 (.ref it) acc { cenv with scope := relabel scope X.env }) (RR acc cenv.locals) s₄) E s₃) E s := by
 have hcell : ∀ y ∈ scope.names, y.2 ≠ .cell := fun y hy => (blk_all hb y hy).1
 have hkind := blk_kind hb
 have hlt : ∀ b ∈ fp, b < s.heap.objs.size := fun b hbm => by
  obtain ⟨o, e, _⟩ := T.obj 0 _ st b hbm
  exact Heap.lt_size e
 refine wpAny_newObj_type (wpAny_newFunctionEnv hcell (by intro y hy; simp at hy) (fun h₁ hns₁ hsb₁ => ?_) hkind)
 dsimp only at hns₁ hsb₁ ⊢
 generalize hH2 : s.heap.push { cls := .type "dict", dict := none, data := .dict #[] } = H2 at hns₁ hsb₁ ⊢
 have hC : H2.objs.size = s.heap.objs.size + 1 := by rw [← hH2, Heap.size_push]
 rw [hC] at hns₁ hsb₁ ⊢
 have hDC : s.heap.objs.size ≠ s.heap.objs.size + 1 := Nat.ne_of_lt (Nat.lt_succ_self _)
 have below : ∀ b, b < s.heap.objs.size → b ≠ s.heap.objs.size + 1 := fun b hb => Nat.ne_of_lt (Nat.lt_succ_of_lt hb)
 have old : ∀ b o, s.heap.get? b = some o → h₁.get? b = some o := fun b o e => hsb₁.extBut b o (below b (Heap.lt_size e)) (Heap.get?_push_of_some _ (hH2 ▸ Heap.get?_push_of_some _ e))
 have hD : h₁.get? s.heap.objs.size = some { cls := .type "dict", dict := none, data := .dict #[] } :=
  hsb₁.extBut _ _ hDC (Heap.get?_push_of_some _ (hH2 ▸ Heap.get?_push_size _ rfl))
 have frC : H (s.heap.objs.size + 1) = none := I.hok.fresh (Nat.le_succ _)
 have frD : H s.heap.objs.size = none := I.hok.fresh (Nat.le_refl _)
 have J0 : Inv (cxC X scope (locs ++ cs) s H fp) [] (stC locs.length caps σ) (upd H s.heap.objs.size (.dK [])) { s with heap := h₁, toks := s.toks + ([] : List (Str × Value)).length } := by
  refine ⟨cxC_ok I hb hf hlt, rfl, I.bare, Un.laid old (Nat.le_refl _) frD, ⟨_, hns₁, fun i x v e1 e2 e3 => ?_⟩, fun x c e => ?_, ?_, fun x c e => ?_, fun p hp => absurd (show p ∈ ([] : List (Addr × Obj)) from hp) (by simp), ?_, ?_⟩
  ·have e1' : (locs ++ cs)[i]? = some x := e1
   have hi : locs.length ≤ i := by
    rcases Nat.lt_or_ge i locs.length with hi | hi
    ·unfold stC at e2
     rw [List.getElem?_append_left (by simpa using hi), List.getElem?_replicate] at e2
     split at e2 <;> cases e2
    ·exact hi
   rw [List.getElem?_append_right hi] at e1'
   obtain ⟨k, q1, q2, q3⟩ := caps_get hcap e1'
   unfold stC at e2
   rw [List.getElem?_append_right (by simpa using hi), List.length_replicate, List.getElem?_map, q1] at e2
   have e2' : (σ[k]?).getD none = some v := by simpa using e2
   have e4 : σ[k]? = some (some v) := by
    cases z : σ[k]? with
    | none => rw [z] at e2'; cases e2'
    | some o => rw [z] at e2'; simp at e2'; rw [e2']
   have hfr := (blk_all hb _ (PySem.mem_of_lookup q3)).2.2 rfl
   obtain ⟨m, hn, hl⟩ := I.loc
   obtain ⟨u, r, l⟩ := hl k x v q2 e4 (hfr.elim (fun z => .inr (.inl z)) fun z => .inr (.inr z))
   refine ⟨u, r, .inr ⟨?_, ?_⟩⟩
   ·exact lookup_relabel_free q3
   ·rcases l with ⟨k1, _⟩ | ⟨_, c, ec, z⟩
    ·exfalso
     have k1' : X.env.scope.names.lookup x = some .local := k1
     rcases hfr with z | z <;> (rw [k1'] at z; cases z)
    ·obtain ⟨c', ec'⟩ := capOf_has (cells := X.env.cells) scope.names [] (PySem.mem_of_lookup q3)
     have q := (capOf_some scope.names [] (free_cells I hb) ec').resolve_left (by simp)
     rw [ec] at q; cases q
     obtain ⟨o, ho, hd⟩ := z
     exact ⟨c, ec', o, old _ _ ho, hd⟩
  ·have q := (capOf_some scope.names [] (free_cells I hb) e).resolve_left (by simp)
   obtain ⟨v, o, ho, hd⟩ := I.cell x c q
   exact ⟨v, o, old _ _ ho, hd⟩
  ·show upd H s.heap.objs.size (.dK []) (s.heap.objs.size + 1) = none
   rw [upd_ne (Ne.symm hDC)]
   exact frC
  ·have q := (capOf_some scope.names [] (free_cells I hb) e).resolve_left (by simp)
   obtain ⟨v, o, ho, hd⟩ := I.cell x c q
   rw [upd_ne (Nat.ne_of_lt (Heap.lt_size ho))]
   exact I.freeC x c q
  ·refine I.hok.laid old (Nat.le_refl _) ?_
   have hb' := I.big
   obtain ⟨z1, z2, z3⟩ := dk_empty (P := X.prog) (w := X.w) (H := upd H s.heap.objs.size (.dK [])) s.heap hb'
   obtain ⟨vs, rel, o, es, ep, ho, hr⟩ := z3
   rw [Heap.get?_push_size _ rfl] at ho
   cases ho
   exact ⟨z1, z2, vs, rel, _, es, ep, hD, hr⟩
  ·show (stC locs.length caps σ).length = (locs ++ cs).length
   unfold stC
   rw [List.length_append, List.length_replicate, List.length_map, List.length_append, caps_len hcap]
 have fr0 : ∀ b ∈ fp, upd H s.heap.objs.size (.dK []) b = none := fun b hbm => by rw [upd_ne (Nat.ne_of_lt (hlt b hbm))]; exact (hf b hbm).1
 have fp0 : ∀ b ∈ fp, FpOk (cxC X scope (locs ++ cs) s H fp) [] (upd H s.heap.objs.size (.dK [])) b := fun b hbm => by
  have q := (cxC_ok (N := locs ++ cs) I hb hf hlt)
  refine ⟨fr0 b hbm, (q.exf b hbm).1, q.exfs b hbm, .inl hbm, (q.exf b hbm).2, fun p hp => absurd (show p ∈ ([] : List (Addr × Obj)) from hp) (by simp)⟩
 have st0 := T.keep _ _ _ st fun b _ o e => old b o e
 have loop : ∀ s₃ : Shared, s₃ = { s with heap := h₁, toks := s.toks + ([] : List (Str × Value)).length } →
   codeAny (model X.prog X.w) X.A (.compLoop (.DictComp kx vx [⟨tg, iter, ifs, 0⟩, ⟨tg2, iter2, ifs2, 0⟩] scope pos) 0 (.ref it) (.ref s.heap.objs.size) (cxC X scope (locs ++ cs) s H fp).env) (RR (.ref s.heap.objs.size) (s.heap.objs.size + 1)) s₃ := by
  rintro s₃ rfl
  refine lp_run (X := cxC X scope (locs ++ cs) s H fp) rfl (turn0 ..) hc (p_inner rfl hc hi2 hs2 hg2 ht2 hk hv) J0 T st0 fp0 hg ht h ?_
  intro σ' H' s' I' q'
  exact hRR σ' H' s' I' q'
 exact codeAny_compStart_dict (loop _ rfl) (T.self _ 0 _ _ _ st0 (loop _ rfl))
theorem pe_compD2 (locs cs : List Str) (caps : List Nat) (hc : X.calm = true) (hi : PI X tg iter wi) (hg : ∀ s H fp, PG (cxC X scope (locs ++ cs) s H fp) tg g) (ht : ∀ s H fp, PTs (cxC X scope (locs ++ cs) s H fp) ifs tc)
  (hi2 : ∀ s H fp, PI (cxC X scope (locs ++ cs) s H fp) tg2 iter2 wi2) (hg2 : ∀ s H fp, PG (cxC X scope (locs ++ cs) s H fp) tg2 g2) (ht2 : ∀ s H fp, PTs (cxC X scope (locs ++ cs) s H fp) ifs2 tc2)
  (hk : ∀ s H fp, PE (cxC X scope (locs ++ cs) s H fp) kx tk) (hv : ∀ s H fp, PE (cxC X scope (locs ++ cs) s H fp) vx tv)
  (hb : blkOk scope X.env.scope = true := by rfl) (hcap : capsOk X.N scope cs caps = true := by rfl) (hs : ∀ x, foldedSetIterable iter X.env x = pure x := by intro _; rfl) (hs2 : ∀ s H fp x, foldedSetIterable iter2 (cxC X scope (locs ++ cs) s H fp).env x = pure x := by intro _ _ _ _; rfl) :
  PE X (.DictComp kx vx [⟨tg, iter, ifs, 0⟩, ⟨tg2, iter2, ifs2, 0⟩] scope pos) (tCompD2 wi g tc wi2 g2 tc2 tk tv locs.length caps) := by
 intro pins s σ H Q I h
 rw [arm_eval_DictComp]
 refine wpAny_comprehension_free (use := none) rfl hs (closure_cap (free_cells I hb)) (blk_kind hb) (fun y hy => (blk_all hb y hy).2.1) (thn (hi pins s σ H _ I h) fun v s1 h1 => thn h1 fun itv s2 h2 => ?_)
 obtain ⟨it, fp, tn, J, H2, e, I2, T, st2, f2, q⟩ := h2
 subst e
 refine dcomp2_block (RR := fun acc C => compPost (model X.prog X.w) X.A X.xe none (EP X pins σ Q) acc C) (locs := locs) (cs := cs) (Fin := fun H' => Q (.ref s2.heap.objs.size) H') hc hb hcap I2 T st2 f2 (hg _ _ _) (ht _ _ _) (hi2 _ _ _) (hs2 _ _ _) (hg2 _ _ _) (ht2 _ _ _) (hk _ _ _) (hv _ _ _) (q _ (I2.hok.fresh (Nat.le_refl _))) ?_
 intro σ' H' s' J' q'
 obtain ⟨m, hn, _⟩ := J'.loc
 refine ⟨m, hn, fun h' hs' => ?_⟩
 have I3 := cxC_back I2 f2 J'
 have fr : H' (s2.heap.objs.size + 1) = none := J'.free
 refine ⟨.ref s2.heap.objs.size, H', I3.turned (t' := s'.toks) (it := s2.heap.objs.size + 1) (fun b o hb e => (hs'.2 b hb).trans e) fr ?_ (.inr (Nat.le_trans I2.sz (Nat.le_succ _))) ?_ ?_, rfl, q'⟩
 ·exact Nat.ne_of_gt (Nat.lt_succ_of_lt I2.lt)
 ·intro x c e z
  obtain ⟨v, hv⟩ := I2.cell x c e
  have h1 : s2.heap.objs.size + 1 < s2.heap.objs.size := z ▸ hv.lt
  exact absurd h1 (Nat.not_lt.mpr (Nat.le_succ _))
 ·intro p hp z
  have h1 : s2.heap.objs.size + 1 < s2.heap.objs.size := z ▸ Heap.lt_size (I2.pin p hp).1
  exact absurd h1 (Nat.not_lt.mpr (Nat.le_succ _))
end
end L2
namespace K17
open PySem L2
def top (i : Nat) : Stmt := PySem.Challenge.pw_kinwords_k17_lists_that_stand.main.body.getD i (.Pass ⟨0, 0, 0, 0⟩)
abbrev sInner : Stmt := top 3
abbrev sNote : Stmt := top 4
abbrev sNamed : Stmt := top 5
abbrev sSmall : Stmt := top 8
abbrev sAll : Stmt := top 9
abbrev sThing : Stmt := top 10
abbrev sOfForm : Stmt := top 14
abbrev sMThing : Stmt := top 15
abbrev sMTied : Stmt := top 16
abbrev sMEvery : Stmt := top 17
abbrev sMFirst : Stmt := top 18
abbrev sMSecond : Stmt := top 19
abbrev sMSome : Stmt := top 20
abbrev sMWithin : Stmt := top 21
abbrev sMNo : Stmt := top 22
abbrev sMBoth : Stmt := top 23
abbrev sMTie : Stmt := top 24
abbrev sMNone : Stmt := top 25
abbrev sMMakes : Stmt := top 26
abbrev sStands : Stmt := top 28
abbrev sIsSelf : Stmt := top 29
abbrev sIsAll : Stmt := top 30
abbrev sThingsN : Stmt := top 31
abbrev sIsWhole : Stmt := top 32
abbrev sEarlier : Stmt := top 33
abbrev sFits : Stmt := top 34
abbrev sIsRight : Stmt := top 35
abbrev sStandsL : Stmt := top 36
abbrev sCell : Stmt := top 38
abbrev sDraw : Stmt := top 39
abbrev sWords : Stmt := top 40
abbrev sThings : Stmt := top 41
abbrev sKind : Stmt := top 42
abbrev sSaying : Stmt := top 43
abbrev sNumbered : Stmt := top 44
abbrev sSingle : Stmt := top 45
abbrev sSingles : Stmt := top 46
abbrev sFNone : Stmt := top 47
abbrev sFOne : Stmt := top 48
abbrev sFTwo : Stmt := top 49
abbrev sFine : Stmt := top 50
abbrev sCopy : Stmt := top 51
abbrev sSize : Stmt := top 52
abbrev sWaysK : Stmt := top 53
abbrev sWaysT : Stmt := top 54
abbrev sPlain : Stmt := top 55
abbrev sGrown : Stmt := top 56
abbrev sSpoil : Stmt := top 57
abbrev sHolds : Stmt := top 58
abbrev sLaw : Stmt := top 59
theorem small2 {n : Nat} (h : n ≤ 1000) : n ≤ sizeLine := Nat.le_of_lt (small1000 h)
theorem le1 : 1 ≤ sizeLine := small2 (by decide)
theorem le2 : 2 ≤ sizeLine := small2 (by decide)
theorem le3 : 3 ≤ sizeLine := small2 (by decide)
theorem le4 : 4 ≤ sizeLine := small2 (by decide)
theorem same_upd {H H' : Hp} {p : Addr} {o : HO} (h : Same H H') (hp : H p = none) : Same H (upd H' p o) := fun b u q => by
 rw [upd_ne (ne_of_none q hp)]
 exact h b u q
theorem none_of_same {H H' : Hp} {p : Addr} (h : Same H H') (hp : H' p = none) : H p = none := by
 cases c : H p with
 | none => rfl
 | some oo => rw [h _ _ c] at hp; cases hp
structure Kp (L : List Addr) (H H' : Hp) : Prop where
 but : ∀ c o, c ∉ L → H c = some o → H' c = some o
 tups : Tups H H'
theorem Kp.refl (L : List Addr) (H : Hp) : Kp L H H := ⟨fun _ _ _ h => h, Tups.refl H⟩
theorem Kp.trans {L : List Addr} {H H1 H2 : Hp} (a : Kp L H H1) (b : Kp L H1 H2) : Kp L H H2 := ⟨fun c o h e => b.but c o h (a.but c o h e), a.tups.trans b.tups⟩
theorem Kp.of {L : List Addr} {H H1 : Hp} (s : Same H H1) : Kp L H H1 := ⟨fun c o _ e => s c o e, s.tups⟩
theorem Kp.lst {L : List Addr} {H : Hp} {l : Addr} {xs : List V} {o : HO} (hl : l ∈ L) (e : H l = some (.lst xs)) : Kp L H (upd H l o) :=
 ⟨fun c u hc h => by rw [upd_ne (show c ≠ l from fun z => hc (by rw [z]; exact hl))]; exact h, tups_lst e⟩
theorem Kp.mono {L L' : List Addr} {H H1 : Hp} (a : Kp L H H1) (h : ∀ x ∈ L, x ∈ L') : Kp L' H H1 := ⟨fun c o hc e => a.but c o (fun z => hc (h c z)) e, a.tups⟩
inductive Fa where
 | is (x k : Kd)
 | has (x : Kd) (t : Str) (y : Kd)
 deriving DecidableEq
def Fa.x : Fa → Kd
 | .is x _ => x
 | .has x _ _ => x
def Fa.tx : Fa → Tx
 | .is x k => .tup [.str "is", x.tx, k.tx]
 | .has x t y => .tup [.str "has", x.tx, .str t, y.tx]
def IsF (H : Hp) : Fa → V → Prop
 | .is x k, v => ∃ (p : Addr) (a b : V), v = .ref p ∧ H p = some (.tup [.str "is", a, b]) ∧ IsK H x a ∧ IsK H k b
 | .has x t y, v => ∃ (p : Addr) (a b : V), v = .ref p ∧ H p = some (.tup [.str "has", a, .str t, b]) ∧ IsK H x a ∧ IsK H y b
theorem IsF.mono {H H' : Hp} (t : Tups H H') : ∀ {f : Fa} {v : V}, IsF H f v → IsF H' f v
 | .is _ _, _, ⟨p, a, b, e, h, ha, hb⟩ => ⟨p, a, b, e, t _ _ h, ha.mono t, hb.mono t⟩
 | .has _ _ _, _, ⟨p, a, b, e, h, ha, hb⟩ => ⟨p, a, b, e, t _ _ h, ha.mono t, hb.mono t⟩
theorem IsF.xa {H : Hp} : ∀ {f : Fa} {v : V}, IsF H f v → Xa H f.tx v
 | .is _ _, _, ⟨p, a, b, e, h, ha, hb⟩ => ⟨p, _, e, h, _, _, rfl, rfl, _, _, rfl, ha.xa, _, _, rfl, hb.xa, rfl⟩
 | .has _ _ _, _, ⟨p, a, b, e, h, ha, hb⟩ => ⟨p, _, e, h, _, _, rfl, rfl, _, _, rfl, ha.xa, _, _, rfl, rfl, _, _, rfl, hb.xa, rfl⟩
theorem Fa.tx_inj : ∀ {a b : Fa}, a.tx = b.tx → a = b
 | .is _ _, .is _ _, h => by
  injection h with h
  injection h with _ h
  injection h with h1 h
  injection h with h2 _
  rw [Kd.tx_inj h1, Kd.tx_inj h2]
 | .is _ _, .has _ _ _, h => by
  injection h with h
  injection h with _ h
  injection h with _ h
  injection h with _ h
  cases h
 | .has _ _ _, .is _ _, h => by
  injection h with h
  injection h with _ h
  injection h with _ h
  injection h with _ h
  cases h
 | .has _ _ _, .has _ _ _, h => by
  injection h with h
  injection h with _ h
  injection h with h1 h
  injection h with h2 h
  injection h with h3 _
  injection h2 with h2
  rw [Kd.tx_inj h1, h2, Kd.tx_inj h3]
theorem dec_inj {α : Type} [DecidableEq α] {f : α → Tx} (hf : ∀ a b, f a = f b → a = b) (a b : α) : decide (f a = f b) = decide (a = b) := by
 by_cases h : a = b
 ·subst h; simp
 ·rw [decide_eq_false h, decide_eq_false (fun z => h (hf _ _ z))]
theorem Fa.dec (a b : Fa) : decide (a.tx = b.tx) = decide (a = b) := dec_inj (fun _ _ => Fa.tx_inj) a b
theorem Kd.dec (a b : Kd) : decide (a.tx = b.tx) = decide (a = b) := dec_inj (fun _ _ => Kd.tx_inj) a b
def Fa.lo (n : Nat) : Fa → Prop
 | .is x k => x.dep ≤ n ∧ k.dep ≤ n
 | .has x _ y => x.dep ≤ n ∧ y.dep ≤ n
theorem Fa.dp {n : Nat} : ∀ {f : Fa}, f.lo n → f.tx.dp ≤ n + 1
 | .is x k, h => by
  have h1 : x.dep ≤ n ∧ k.dep ≤ n := h
  show 1 + max 0 (max x.tx.dp (max k.tx.dp 0)) ≤ n + 1
  rw [Kd.tx_dp, Kd.tx_dp]; omega
 | .has x t y, h => by
  have h1 : x.dep ≤ n ∧ y.dep ≤ n := h
  show 1 + max 0 (max x.tx.dp (max 0 (max y.tx.dp 0))) ≤ n + 1
  rw [Kd.tx_dp, Kd.tx_dp]; omega
theorem Fa.dp60 {f : Fa} (h : f.lo 8) : f.tx.dp ≤ 60 := Nat.le_trans (Fa.dp h) (by decide)
theorem Fa.lo_x {n : Nat} : ∀ {f : Fa}, f.lo n → f.x.dep ≤ n
 | .is _ _, h => h.1
 | .has _ _ _, h => h.1
def IsFo (H : Hp) : Option Fa → V → Prop
 | none, v => v = .non
 | some f, v => IsF H f v
def txo : Option Fa → Tx
 | none => .non
 | some f => f.tx
theorem IsFo.xa {H : Hp} : ∀ {o : Option Fa} {v : V}, IsFo H o v → Xa H (txo o) v
 | none, _, h => h
 | some _, _, h => IsF.xa h
theorem dec_txo (f : Fa) : ∀ o : Option Fa, decide (f.tx = txo o) = decide (some f = o)
 | none => by
  rw [decide_eq_false (by cases f <;> (intro z; cases z)), decide_eq_false (by intro z; cases z)]
 | some g => by
  show decide (f.tx = g.tx) = _
  rw [Fa.dec]
  by_cases h : f = g
  ·subst h; simp
  ·rw [decide_eq_false h, decide_eq_false (by intro z; cases z; exact h rfl)]
inductive Ru where
 | self | all | thing | tied | every | first | second | some | within | no | both | tie | none | makes | oth
 deriving DecidableEq
def ruS : Ru → Str
 | .self => "self" | .all => "all" | .thing => "thing" | .tied => "tied" | .every => "every" | .first => "first" | .second => "second" | .some => "some"
 | .within => "within" | .no => "no" | .both => "both" | .tie => "tie" | .none => "none" | .makes => "makes" | .oth => ""
def ruL : List Ru := [.self, .all, .thing, .tied, .every, .first, .second, .some, .within, .no, .both, .tie, .none, .makes]
theorem ruL_all : ∀ r : Ru, r ≠ .oth → r ∈ ruL := by intro r h; cases r <;> first | exact absurd rfl h | decide
theorem ruS_inj : ∀ a ∈ ruL, ∀ b ∈ ruL, ruS a = ruS b → a = b := by decide +kernel
def IsRu (r : Ru) (z : Str) : Prop := (r ≠ .oth ∧ z = ruS r) ∨ (r = .oth ∧ ∀ q ∈ ruL, z ≠ ruS q)
theorem IsRu.dec {r q : Ru} {z : Str} (h : IsRu r z) (hq : q ≠ .oth) : decide (V.str z = V.str (ruS q)) = decide (r = q) := by
 have hl := ruL_all q hq
 rcases h with ⟨hr, rfl⟩ | ⟨rfl, hn⟩
 ·by_cases e : r = q
  ·subst e; simp
  ·rw [decide_eq_false e, decide_eq_false]
   intro z
   injection z with z
   exact e (ruS_inj _ (ruL_all r hr) _ hl z)
 ·rw [decide_eq_false (show ¬ V.str z = V.str (ruS q) from fun y => by injection y with y; exact hn q hl y), decide_eq_false (show ¬ Ru.oth = q from fun y => hq y.symm)]
theorem IsRu.of {r : Ru} (h : r ≠ .oth) : IsRu r (ruS r) := .inl ⟨h, rfl⟩
inductive Sy where
 | every (a b : Kd) | no (a b : Kd) | thing (x : Str) (k : Kd) | tied (x t y : Str) | within (r s : Str) | makes (r s t : Str)
 deriving DecidableEq
def Sy.hd : Sy → Ru
 | .every _ _ => .every | .no _ _ => .no | .thing _ _ => .thing | .tied _ _ _ => .tied | .within _ _ => .within | .makes _ _ _ => .makes
theorem Sy.hd_ne (s : Sy) : s.hd ≠ .oth := by cases s <;> (intro z; cases z)
def Sy.parts : Sy → List Kd
 | .every a b => [a, b] | .no a b => [a, b] | .thing x k => [.nm x, k] | .tied x t y => [.nm x, .nm t, .nm y] | .within r s => [.nm r, .nm s] | .makes r s t => [.nm r, .nm s, .nm t]
def IsSy (H : Hp) (s : Sy) (v : V) : Prop := ∃ (p : Addr) (xs : List V), v = .ref p ∧ H p = some (.tup (.str (ruS s.hd) :: xs)) ∧ KL H xs s.parts
theorem IsSy.mono {H H' : Hp} (t : Tups H H') {s : Sy} {v : V} (h : IsSy H s v) : IsSy H' s v := by
 obtain ⟨p, xs, e, h1, h2⟩ := h
 exact ⟨p, xs, e, t _ _ h1, KL.mono t h2⟩
def Sy.tx (s : Sy) : Tx := .tup (.str (ruS s.hd) :: s.parts.map Kd.tx)
theorem KL.xas {H : Hp} : ∀ {xs : List V} {ks : List Kd}, KL H xs ks → Xas H (ks.map Kd.tx) xs
 | _, _, .nil => rfl
 | _, _, .cons r t => ⟨_, _, rfl, r.xa, KL.xas t⟩
theorem IsSy.xa {H : Hp} {s : Sy} {v : V} (h : IsSy H s v) : Xa H s.tx v := by
 obtain ⟨p, xs, e, h1, h2⟩ := h
 exact ⟨p, _, e, h1, _, _, rfl, rfl, KL.xas h2⟩
theorem map_tx_inj : ∀ {a b : List Kd}, a.map Kd.tx = b.map Kd.tx → a = b
 | [], [], _ => rfl
 | [], _ :: _, h => by cases h
 | _ :: _, [], h => by cases h
 | x :: a, y :: b, h => by
  rw [List.map_cons, List.map_cons] at h
  injection h with h1 h2
  rw [Kd.tx_inj h1, map_tx_inj h2]
theorem Sy.of_parts : ∀ {a b : Sy}, a.hd = b.hd → a.parts = b.parts → a = b := by
 intro a b h1 h2
 cases a <;> cases b <;> simp_all [Sy.hd, Sy.parts]
theorem Sy.tx_inj {a b : Sy} (h : a.tx = b.tx) : a = b := by
 unfold Sy.tx at h
 injection h with h
 injection h with h1 h2
 injection h1 with h1
 exact Sy.of_parts (ruS_inj _ (ruL_all _ a.hd_ne) _ (ruL_all _ b.hd_ne) h1) (map_tx_inj h2)
theorem Sy.dec (a b : Sy) : decide (a.tx = b.tx) = decide (a = b) := dec_inj (fun _ _ => Sy.tx_inj) a b
def Sy.lo (n : Nat) (s : Sy) : Prop := ∀ k ∈ s.parts, k.dep ≤ n
theorem Sy.dp60 {s : Sy} (h : s.lo 8) : s.tx.dp ≤ 60 := by
 have : xdps (Tx.str (ruS s.hd) :: s.parts.map Kd.tx) ≤ 8 := xdps_le fun d hd => by
  rcases List.mem_cons.mp hd with rfl | hd
  ·exact Nat.zero_le _
  ·obtain ⟨k, hk, rfl⟩ := List.mem_map.mp hd
   rw [Kd.tx_dp]
   exact h k hk
 show 1 + _ ≤ 60
 omega
def IsSo (H : Hp) : Option Sy → V → Prop
 | none, v => v = .non
 | some s, v => IsSy H s v
structure Stp where
 f : Fa
 r : Str
 fr : List Int
 n : Option Int
def numV : Option Int → V
 | none => .non
 | some i => .int i
def IsStp (L : List Addr) (H : Hp) (s : Stp) (v : V) : Prop := ∃ (p pf : Addr) (vf : V), v = .ref p ∧ H p = some (.tup [vf, .str s.r, .ref pf, numV s.n]) ∧ IsF H s.f vf ∧ H pf = some (.lst (s.fr.map V.int)) ∧ pf ∉ L
theorem IsStp.keep {L : List Addr} {H H' : Hp} (k : Kp L H H') {s : Stp} {v : V} (h : IsStp L H s v) : IsStp L H' s v := by
 obtain ⟨p, pf, vf, e, h1, h2, h3, h4⟩ := h
 exact ⟨p, pf, vf, e, k.tups _ _ h1, h2.mono k.tups, k.but _ _ h4 h3, h4⟩
theorem IsStp.loose {L : List Addr} {H : Hp} {s : Stp} {v : V} (h : IsStp L H s v) : IsStp [] H s v := by
 obtain ⟨p, pf, vf, e, h1, h2, h3, h4⟩ := h
 exact ⟨p, pf, vf, e, h1, h2, h3, by simp⟩
def numX : Option Int → Tx
 | none => .non
 | some i => .int i
theorem numX_xa {H : Hp} : ∀ n : Option Int, Xa H (numX n) (numV n)
 | none => rfl
 | some _ => rfl
def Stp.tx (s : Stp) : Tx := .tup [s.f.tx, .str s.r, .lst (s.fr.map Tx.int), numX s.n]
theorem ints_xas {H : Hp} : ∀ l : List Int, Xas H (l.map Tx.int) (l.map V.int)
 | [] => rfl
 | _ :: l => ⟨_, _, rfl, rfl, ints_xas l⟩
theorem IsStp.xa {L : List Addr} {H : Hp} {s : Stp} {v : V} (h : IsStp L H s v) : Xa H s.tx v := by
 obtain ⟨p, pf, vf, e, h1, h2, h3, h4⟩ := h
 exact ⟨p, _, e, h1, _, _, rfl, h2.xa, _, _, rfl, rfl, _, _, rfl, ⟨pf, _, rfl, h3, ints_xas _⟩, _, _, rfl, numX_xa _, rfl⟩
def StL (L : List Addr) (H : Hp) : List V → List Stp → Prop := Paired fun v s => IsStp L H s v
theorem StL.keep {L : List Addr} {H H' : Hp} (k : Kp L H H') {xs : List V} {ss : List Stp} (h : StL L H xs ss) : StL L H' xs ss := Paired.imp' (fun _ _ q => IsStp.keep k q) h
theorem StL.loose {L : List Addr} {H : Hp} {xs : List V} {ss : List Stp} (h : StL L H xs ss) : StL [] H xs ss := Paired.imp' (fun _ _ q => IsStp.loose q) h
theorem StL.len {L : List Addr} {H : Hp} {xs : List V} {ss : List Stp} (h : StL L H xs ss) : xs.length = ss.length := Paired.length h
theorem paired_app {α β : Type} {R : α → β → Prop} : ∀ {xs ys : List α} {ks ls : List β}, Paired R xs ks → Paired R ys ls → Paired R (xs ++ ys) (ks ++ ls)
 | _, _, _, _, .nil, s => s
 | _, _, _, _, .cons r t, s => .cons r (paired_app t s)
theorem paired_get {α β : Type} {R : α → β → Prop} : ∀ {xs : List α} {ks : List β} {i : Nat} {v : α}, Paired R xs ks → xs[i]? = some v → ∃ k, ks[i]? = some k ∧ R v k
 | _, _, _, _, .nil, e => by simp at e
 | _, _, 0, _, .cons r _, e => by simp at e; subst e; exact ⟨_, rfl, r⟩
 | _, _, i + 1, v, .cons _ t, e => by
  obtain ⟨u, h1, h2⟩ := paired_get (i := i) (v := v) t (by simpa using e)
  exact ⟨u, by simpa using h1, h2⟩
theorem paired_get2 {α β : Type} {R : α → β → Prop} : ∀ {xs : List α} {ks : List β} {i : Nat} {k : β}, Paired R xs ks → ks[i]? = some k → ∃ v, xs[i]? = some v ∧ R v k
 | _, _, _, _, .nil, e => by simp at e
 | _, _, 0, _, .cons r _, e => by simp at e; subst e; exact ⟨_, rfl, r⟩
 | _, _, i + 1, v, .cons _ t, e => by
  obtain ⟨u, h1, h2⟩ := paired_get2 (i := i) (k := v) t (by simpa using e)
  exact ⟨u, by simpa using h1, h2⟩
theorem StL.xas {L : List Addr} {H : Hp} : ∀ {xs : List V} {ss : List Stp}, StL L H xs ss → Xas H (ss.map Stp.tx) xs
 | _, _, .nil => rfl
 | _, _, .cons r t => ⟨_, _, rfl, r.xa, StL.xas t⟩
def IsPr (H : Hp) (q : Int × Sy) (v : V) : Prop := ∃ (p : Addr) (vs : V), v = .ref p ∧ H p = some (.tup [.int q.1, vs]) ∧ IsSy H q.2 vs
theorem IsPr.mono {H H' : Hp} (t : Tups H H') {q : Int × Sy} {v : V} (h : IsPr H q v) : IsPr H' q v := by
 obtain ⟨p, vs, e, h1, h2⟩ := h
 exact ⟨p, vs, e, t _ _ h1, h2.mono t⟩
def PrL (H : Hp) : List V → List (Int × Sy) → Prop := Paired fun v q => IsPr H q v
theorem PrL.mono {H H' : Hp} (t : Tups H H') {xs : List V} {qs : List (Int × Sy)} (h : PrL H xs qs) : PrL H' xs qs := Paired.imp' (fun _ _ q => IsPr.mono t q) h
def prX (q : Int × Sy) : Tx := .tup [.int q.1, q.2.tx]
theorem IsPr.xa {H : Hp} {q : Int × Sy} {v : V} (h : IsPr H q v) : Xa H (prX q) v := by
 obtain ⟨p, vs, e, h1, h2⟩ := h
 exact ⟨p, _, e, h1, _, _, rfl, rfl, _, _, rfl, h2.xa, rfl⟩
theorem PrL.xas {H : Hp} : ∀ {xs : List V} {qs : List (Int × Sy)}, PrL H xs qs → Xas H (qs.map prX) xs
 | _, _, .nil => rfl
 | _, _, .cons r t => ⟨_, _, rfl, r.xa, PrL.xas t⟩
def FL (H : Hp) : List V → List Fa → Prop := Paired fun v f => IsF H f v
theorem FL.mono {H H' : Hp} (t : Tups H H') {xs : List V} {fs : List Fa} (h : FL H xs fs) : FL H' xs fs := Paired.imp' (fun _ _ q => IsF.mono t q) h
end K17
namespace K17
open PySem L2
def Kd.tieL : Kd → List Str
 | .nm _ => []
 | .two a b => Kd.tieL a ++ Kd.tieL b
 | .som r c => r :: Kd.tieL c
theorem kit_str_str (K : PySem.W.Frag) : PySem.W.kitOne K (.type "str") (.type "str") = some true := rfl
theorem kit_tup_str (K : PySem.W.Frag) : PySem.W.kitOne K (.type "tuple") (.type "str") = some false := by
 first | rfl | decide | with_unfolding_all rfl
def spInner : Sp := fun vs H Q _ => ∃ (v : V) (k : Kd), vs = [v] ∧ IsK H k v ∧ ∀ (p : Addr) (xs : List V), H p = none → KL H xs k.inner → Q (.ref p) (upd H p (.lst xs))
section
variable {P : Program} {w : World} {K : PySem.W.Frag} {mg : Str → Option Value} {base : Heap} {f g e : Addr} {fd gd ed : FuncData}
theorem scInner : FnScope ["kind"] ["kind"] (defScope sInner) := ⟨rfl, rfl, rfl, by decide +kernel, rfl, by decide +kernel, by decide +kernel⟩
theorem both_dec {a : Str} : decide (V.str "both" = V.str a) = ((Str.ofString "both" : Str) == a) := dec_str
theorem ok_inner (F : Fun K "inner_kinds" "inner_kinds" sInner f fd) (mi : mg "isinstance" = none) (ms : mg "str" = none) : FnOk P w K mg base CX0 1 f fd ["kind"] spInner := by
 refine F.ok scInner (fun vs H Q E h => ?_) (fun cdv A outer s H vs Q E hr h => ?_)
 ·obtain ⟨v, k, rfl, _⟩ := h; rfl
 obtain ⟨v, k, rfl, hk, q⟩ := h
 refine ⟨_, @pss_cons _ _ _ _ _ (by exact ps_if (pt_val (pe_callB call_isinst rfl mi PyProof.Rows.boot_isinstance (pa_cons (pv 0) (pa_cons (pe_bltn (v := .ty "str") rfl ms PyProof.Rows.boot_str rfl) pa_nil)))) (pss_one (ps_ret (pe_lst pa_nil))) pss_nil)
  (@pss_cons _ _ _ _ _ (by exact ps_if (pt_cmpR op_eq (pe_ix ix_tup (pv 0) pe_int (fun _ _ => rfl)) pe_str (nomark _)) (pss_one (ps_ret (pe_lst (pa_cons (pe_ix ix_tup (pv 0) pe_int (fun _ _ => rfl)) (pa_cons (pe_ix ix_tup (pv 0) pe_int (fun _ _ => rfl)) pa_nil))))) pss_nil)
  (@pss_one _ _ _ (by exact ps_ret (pe_lst (pa_cons (pe_ix ix_tup (pv 0) pe_int (fun _ _ => rfl)) pa_nil))))), ?_⟩
 cases k with
 | nm x =>
  obtain rfl : v = .str x := hk
  exact ⟨_, rfl, _, _, _, true, rfl, TyOf.str x, kit_str_str K, _, rfl, iteT ⟨Nat.zero_le _, fun p hp => q p [] hp .nil⟩⟩
 | two a b =>
  obtain ⟨p, x, y, rfl, hp, ha, hb⟩ := id hk
  refine ⟨_, rfl, _, _, _, false, rfl, TyOf.tup hp, kit_tup_str K, _, rfl, iteF ?_⟩
  refine ⟨_, rfl, p, _, 0, _, rfl, rfl, SqT.of hp, atI_nat (j := 0) rfl, rfl, _, rfl, ?_⟩
  rw [both_dec, beq_self_eq_true]
  refine iteT ⟨_, rfl, p, _, 1, _, rfl, rfl, SqT.of hp, atI_nat (j := 1) rfl, _, rfl, p, _, 2, _, rfl, rfl, SqT.of hp, atI_nat (j := 2) rfl, le2, fun r hr' => ?_⟩
  exact q r [x, y] hr' (.cons ha (.cons hb .nil))
 | som r c =>
  obtain ⟨p, y, rfl, hp, hc⟩ := id hk
  refine ⟨_, rfl, _, _, _, false, rfl, TyOf.tup hp, kit_tup_str K, _, rfl, iteF ?_⟩
  refine ⟨_, rfl, p, _, 0, _, rfl, rfl, SqT.of hp, atI_nat (j := 0) rfl, rfl, _, rfl, ?_⟩
  rw [dec_str, beq_eq_false_iff_ne.mpr (Ne.symm both_ne_some)]
  refine iteF ⟨_, rfl, p, _, 2, _, rfl, rfl, SqT.of hp, atI_nat (j := 2) rfl, le1, fun t ht => ?_⟩
  exact q t [y] ht (.cons hc .nil)
end
end K17
namespace L2
open PySem PySem.Spec PyProof.Rows
theorem call_list_dict {X : Cx} (hc : X.calm = true) : CallR X (.type "list") (fun xs H Q => ∃ (a : Addr) (kvs : List (Key × V)) (ss : List Str), xs = [.ref a] ∧ H a = some (.dK kvs) ∧ kvs.map (·.1) = ss.map Sum.inr ∧ ∀ p, H p = none → Q (.ref p) (upd H p (.lst (ss.map V.str)))) := by
 intro pins s σ H xs us Q I r h
 obtain ⟨a, kvs, ss, rfl, ha, hk, q⟩ := h
 obtain ⟨u, rfl, ru⟩ := r.one
 cases ru
 obtain ⟨z, hd, vs, rel, o, es, ep, ho, hx, hdat, hks, hps, hnd⟩ := dk_of I.hok ha
 have da : s.heap.DictAt (mixKind X.prog X.w) a vs ep := ⟨o, es, ho, hx, hdat, hks, hps, hnd⟩
 have hlen := rel.length
 refine PySem.W.kdl_call (PySem.W.kdl_dict (knd := mixKind X.prog X.w) (kvs := vs) (ep := ep) hd) (I.ok.hd hc) da (by omega) fun h' tk acc c' hk' hl hit => ?_
 have hacc : acc.toList.length = vs.length := by rw [Array.length_toList]; exact hit.1
 have hv : Vals (ss.map V.str) acc.toList := vals_keys (P := X.prog) (w := X.w) rel hk hacc fun j v hj => hit.2 j v (by simpa using hj)
 have hsl : (ss.map V.str).length ≤ sizeLine := by rw [hv.length, hacc]; omega
 exact ⟨.ref s.heap.objs.size, _, I.laid (t' := tk) hk' (Nat.le_refl _) (show ObjOk X.prog X.w _ _ _ (.lst (ss.map V.str)) from ⟨hsl, acc.toList, c', hv, hl⟩), rfl, q _ (I.hok.fresh (Nat.le_refl _))⟩
end L2
namespace K17
open PySem L2
def whole (x : Str) : Bool := x == "anything" || x == "nothing"
def Kd.kindL : Kd → List Str
 | .nm x => if whole x then [] else [x]
 | .two a b => Kd.kindL a ++ Kd.kindL b
 | .som _ c => Kd.kindL c
def add1 (A : List Str) (x : Str) : List Str := if x ∈ A then A else A ++ [x]
def addAll (A : List Str) (xs : List Str) : List Str := xs.foldl add1 A
theorem addAll_app (A xs ys : List Str) : addAll A (xs ++ ys) = addAll (addAll A xs) ys := by simp [addAll]
def Dn (A : List Str) : List (Key × V) := A.map fun x => (Sum.inr x, V.bl true)
theorem Dn_len (A : List Str) : (Dn A).length = A.length := by simp [Dn]
theorem Dn_keys (A : List Str) : (Dn A).map (·.1) = A.map Sum.inr := by simp [Dn]
theorem Dn_any (A : List Str) (x : Str) : (Dn A).any (fun kv => decide (kv.1 = Sum.inr x)) = decide (x ∈ A) := by
 induction A with
 | nil => rfl
 | cons a A ih =>
  show (decide ((Sum.inr a : Key) = Sum.inr x) || (Dn A).any (fun kv => decide (kv.1 = Sum.inr x))) = _
  rw [ih]
  by_cases e : a = x
  ·subst e; simp
  ·have h1 : ¬ (Sum.inr a : Key) = Sum.inr x := fun z => e (Sum.inr.inj z)
   rw [decide_eq_false h1, Bool.false_or]
   congr 1
   simp [Ne.symm e]
theorem Dn_put (A : List Str) (x : Str) : putK (Dn A) (.inr x) (.bl true) = Dn (add1 A x) := by
 unfold putK add1
 rw [Dn_any]
 by_cases e : x ∈ A
 ·rw [if_pos (decide_eq_true e), if_pos e]
  unfold Dn
  rw [List.map_map]
  congr 1
  funext y
  show (if (Sum.inr y : Key) = Sum.inr x then ((Sum.inr y : Key), V.bl true) else (Sum.inr y, V.bl true)) = _
  split <;> rfl
 ·rw [if_neg (by rw [decide_eq_false e]; decide), if_neg e]
  simp [Dn]
theorem add1_len (A : List Str) (x : Str) : (add1 A x).length ≤ A.length + 1 := by
 unfold add1
 split
 ·omega
 ·simp
theorem addAll_len : ∀ (xs A : List Str), (addAll A xs).length ≤ A.length + xs.length
 | [], A => by simp [addAll]
 | x :: xs, A => by
  have := addAll_len xs (add1 A x)
  have h2 := add1_len A x
  show (addAll (add1 A x) xs).length ≤ A.length + (xs.length + 1)
  omega
theorem kindL_sz : ∀ k : Kd, (Kd.kindL k).length ≤ k.sz
 | .nm x => by unfold Kd.kindL; split <;> simp [Kd.sz]
 | .two a b => by have := kindL_sz a; have := kindL_sz b; simp only [Kd.kindL, List.length_append, Kd.sz]; omega
 | .som _ c => by have := kindL_sz c; simp only [Kd.kindL, Kd.sz]; omega
theorem tieL_sz : ∀ k : Kd, (Kd.tieL k).length ≤ k.sz
 | .nm x => by simp [Kd.tieL, Kd.sz]
 | .two a b => by have := tieL_sz a; have := tieL_sz b; simp only [Kd.tieL, List.length_append, Kd.sz]; omega
 | .som _ c => by have := tieL_sz c; simp only [Kd.tieL, Kd.sz, List.length_cons]; omega
def But2 (a b : Addr) (H H' : Hp) : Prop := ∀ c o, c ≠ a → c ≠ b → H c = some o → H' c = some o
theorem But2.refl (a b : Addr) (H : Hp) : But2 a b H H := fun c o _ _ h => h
theorem But2.trans {a b : Addr} {H H1 H2 : Hp} (x : But2 a b H H1) (y : But2 a b H1 H2) : But2 a b H H2 := fun c o h1 h2 h => y c o h1 h2 (x c o h1 h2 h)
theorem Same.but2 {a b : Addr} {H H1 : Hp} (x : Same H H1) : But2 a b H H1 := fun c o _ _ h => x c o h
theorem but2_a {a b : Addr} {H : Hp} {o : HO} : But2 a b H (upd H a o) := fun c u h1 _ h => by rw [upd_ne h1]; exact h
theorem but2_b {a b : Addr} {H : Hp} {o : HO} : But2 a b H (upd H b o) := fun c u _ h2 h => by rw [upd_ne h2]; exact h
theorem But2.tups {a b : Addr} {H H1 : Hp} {x y : List (Key × V)} (q : But2 a b H H1) (ha : H a = some (.dK x)) (hb : H b = some (.dK y)) : Tups H H1 := fun c xs h => by
 refine q c _ (fun e => ?_) (fun e => ?_) h
 ·rw [e, ha] at h; cases h
 ·rw [e, hb] at h; cases h
def szs (l : List Kd) : Nat := (l.map Kd.sz).sum
theorem szs_app (a b : List Kd) : szs (a ++ b) = szs a + szs b := by simp [szs]
theorem szs_inner (k : Kd) : k.sz = 1 + szs k.inner := by
 cases k <;> simp [szs, Kd.inner, Kd.sz] <;> omega
def kLs (l : List Kd) : List Str := (l.map Kd.kindL).flatten
def tLs (l : List Kd) : List Str := (l.map Kd.tieL).flatten
theorem kLs_app (a b : List Kd) : kLs (a ++ b) = kLs a ++ kLs b := by simp [kLs]
theorem tLs_app (a b : List Kd) : tLs (a ++ b) = tLs a ++ tLs b := by simp [tLs]
theorem kLs_len : ∀ l : List Kd, (kLs l).length ≤ szs l
 | [] => by simp [kLs]
 | k :: l => by
  have h1 := kLs_len l
  have h2 := kindL_sz k
  have e1 : kLs (k :: l) = Kd.kindL k ++ kLs l := by simp [kLs]
  have e2 : szs (k :: l) = k.sz + szs l := by simp [szs]
  rw [e1, e2, List.length_append]; omega
theorem tLs_len : ∀ l : List Kd, (tLs l).length ≤ szs l
 | [] => by simp [tLs]
 | k :: l => by
  have h1 := tLs_len l
  have h2 := tieL_sz k
  have e1 : tLs (k :: l) = Kd.tieL k ++ tLs l := by simp [tLs]
  have e2 : szs (k :: l) = k.sz + szs l := by simp [szs]
  rw [e1, e2, List.length_append]; omega
theorem szs_take (l : List Kd) (i : Nat) : szs (l.take i) ≤ szs l := by
 have : szs l = szs (l.take i) + szs (l.drop i) := by rw [← szs_app, List.take_append_drop]
 omega
theorem flat_whole : ([V.str "anything", V.str "nothing"] : List V).all flatV = true := by decide +kernel
theorem in_whole (x : Str) : inV (.str x) [V.str "anything", V.str "nothing"] = whole x := by
 unfold inV whole
 simp only [List.any_cons, List.any_nil, Bool.or_false, eqV]
 rw [Bool.beq_comm (a := Str.ofString "anything"), Bool.beq_comm (a := Str.ofString "nothing")]
def Kd.pre : Kd → List Str
 | .som r _ => [r]
 | _ => []
theorem kind_inner {k : Kd} (h : ∀ x, k ≠ .nm x) : Kd.kindL k = kLs k.inner ∧ Kd.tieL k = Kd.pre k ++ tLs k.inner := by
 cases k with
 | nm x => exact absurd rfl (h x)
 | two a b => constructor <;> simp [Kd.kindL, Kd.tieL, Kd.pre, kLs, tLs, Kd.inner]
 | som r c => constructor <;> simp [Kd.kindL, Kd.tieL, Kd.pre, kLs, tLs, Kd.inner]
def spNote (n : Nat) : Sp := fun vs H Q _ => ∃ (v : V) (k : Kd) (a b : Addr) (A B : List Str), vs = [v, .ref a, .ref b] ∧ IsK H k v ∧ a ≠ b ∧ H a = some (.dK (Dn A)) ∧ H b = some (.dK (Dn B)) ∧ A.length + k.sz ≤ 900 ∧ B.length + k.sz ≤ 900 ∧ k.dep < n ∧
 ∀ H', But2 a b H H' → H' a = some (.dK (Dn (addAll A (Kd.kindL k)))) → H' b = some (.dK (Dn (addAll B (Kd.tieL k)))) → Q .non H'
section
variable {P : Program} {w : World} {K : PySem.W.Frag} {mg : Str → Option Value} {base : Heap} {f g e d a1 a2 a3 a4 aW aF : Addr} {fd gd' ed dd d1 d2 d3 d4 : FuncData}
theorem scNote : FnScope ["kind", "kinds", "ties", "part"] ["kind", "kinds", "ties"] (defScope sNote) := ⟨rfl, rfl, rfl, by decide +kernel, rfl, by decide +kernel, by decide +kernel⟩
theorem ok_note {n k0 : Nat} (hk0 : 1 ≤ k0) (F : Fun K "note_names" "note_names" sNote f fd) (Gno : FnOk P w K mg base CX0 k0 f fd ["kind", "kinds", "ties"] (spNote n)) (bGno : Binds K fd ["kind", "kinds", "ties"] []) (mGno : mg "note_names" = some (.ref f))
  (Gi : FnOk P w K mg base CX0 1 g gd' ["kind"] spInner) (bGi : Binds K gd' ["kind"] []) (kGi : PySem.W.keepIn K (.ref g) = true) (mGi : mg "inner_kinds" = some (.ref g)) (mW : mg "WHOLES" = some (.ref aW)) (hW : ∀ H, SqT K H aW [.str "anything", .str "nothing"]) (mi : mg "isinstance" = none) (ms : mg "str" = none) :
  FnOk P w K mg base CX0 (k0 + 1) f fd ["kind", "kinds", "ties"] (spNote (n + 1)) := by
 refine F.ok scNote (fun vs H Q E h => ?_) (fun cdv A outer s H vs Q E hr h => ?_)
 ·obtain ⟨v, k, a, b, A, B, rfl, _⟩ := h; rfl
 obtain ⟨v, k, a, b, A', B, rfl, hk, hab, ha, hb, hA, hB, hd, q⟩ := h
 have hrno := hr
 have hri := hr.mono hk0
 have kGno := F.kp
 have hu : (A.deeper (PyProof.Rows.envOfC "note_names" (defScope sNote) s.heap.objs.size f cdv)).units + 1 < cLine := by have := hr.un; omega
 refine ⟨_, @pss_cons _ _ _ _ _ (by exact ps_if (pt_val (pe_callB call_isinst rfl mi PyProof.Rows.boot_isinstance (pa_cons (pv 0) (pa_cons (pe_bltn (v := .ty "str") rfl ms PyProof.Rows.boot_str rfl) pa_nil)))) (@pss_mid _ _ _ _ _ (by exact ps_if (pt_cmpR op_notIn_seq (pv 0) (pe_glob (v := .ref aW) rfl mW rfl) rfl) (@pss_one _ _ _ (by exact ps_dput hu (pv 1) (pv 0) pe_bl rfl)) pss_nil) (@pss_one _ _ _ (by exact ps_retN))) pss_nil)
  (@pss_mid _ _ _ _ _ (by exact ps_if (pt_cmpR op_eq (pe_ix ix_tup (pv 0) pe_int (fun _ _ => rfl)) pe_str (nomark _)) (@pss_one _ _ _ (by exact ps_dput hu (pv 2) (pe_ix ix_tup (pv 0) pe_int (fun _ _ => rfl)) pe_bl rfl)) pss_nil)
  (@pss_one _ _ _ (by exact ps_for PassesOwn.never rfl (pi_list (pe_call Gi hri rfl mGi kGi bGi .nil pass0 (pa_cons (pv 0) pa_nil))) (pg_name (i := 3) scNote.nd rfl (Or.inl rfl)) (@pss_one _ _ _ (by exact ps_expr (pe_call Gno hrno rfl mGno kGno bGno .nil pass0 (pa_cons (pv 3) (pa_cons (pv 1) (pa_cons (pv 2) pa_nil))))))))), ?_⟩
 have fin : ∀ (H1 : Hp) (B1 : List Str), (∀ x, k ≠ .nm x) → B1 = addAll B (Kd.pre k) → But2 a b H H1 → H1 a = some (.dK (Dn A')) → H1 b = some (.dK (Dn B1)) →
   tFor (iList K (tCall spInner [] E0 (tCons (tVar 0) tNil))) (gName 3) (tDrop (tCall (spNote n) [] E0 (tCons (tVar 3) (tCons (tVar 1) (tCons (tVar 2) tNil))))) { nx := fun x H' => Q V.non H', rt := Q } [some v, some (.ref a), some (.ref b), none] H1 := by
  intro H1 B1 hnm hB1 q1 e1 e2
  have t1 : Tups H H1 := q1.tups ha hb
  have hk1 := IsK.mono t1 hk
  refine ⟨_, rfl, v, k, rfl, hk1, fun p xs hp hL => ⟨p, rfl, ⟨_, SqL.of upd_same⟩, ?_⟩⟩
  have pa : p ≠ a := fun z => by rw [z, e1] at hp; cases hp
  have pb : p ≠ b := fun z => by rw [z, e2] at hp; cases hp
  have sp := same_new hp (.lst xs)
  have lL := KL.len hL
  have hsz := szs_inner k
  have hpl : (Kd.pre k).length ≤ 1 := by cases k <;> simp [Kd.pre]
  have hBl : B1.length ≤ B.length + 1 := by rw [hB1]; have := addAll_len (Kd.pre k) B; omega
  obtain ⟨ek, et⟩ := kind_inner hnm
  refine for_list (xs := xs) (fun i σ H3 => ∃ o3 : Option V, σ = [some v, some (.ref a), some (.ref b), o3] ∧ But2 a b (upd H1 p (.lst xs)) H3 ∧ H3 a = some (.dK (Dn (addAll A' (kLs (k.inner.take i))))) ∧ H3 b = some (.dK (Dn (addAll B1 (tLs (k.inner.take i))))))
   ⟨none, rfl, But2.refl _ _ _, by rw [List.take_zero]; exact sp _ _ e1, by rw [List.take_zero]; exact sp _ _ e2⟩ ?_ ?_ ?_
  ·rintro i σ H3 hi ⟨o3, rfl, q3, _⟩
   exact SqL.of (q3 _ _ pa pb upd_same)
  ·rintro i x σ H3 hx ⟨o3, rfl, q3, ea, eb⟩
   obtain ⟨kk, hk2, ik⟩ := KL.get hL hx
   have hkm : kk ∈ k.inner := List.mem_of_getElem? hk2
   have t3 : Tups (upd H1 p (.lst xs)) H3 := q3.tups (sp _ _ e1) (sp _ _ e2)
   have hsum : szs (k.inner.take i) + kk.sz ≤ szs k.inner := by
    have h1 := szs_take k.inner (i + 1)
    rw [List.take_add_one, hk2, szs_app] at h1
    simpa [szs] using h1
   have la := addAll_len (kLs (k.inner.take i)) A'
   have lb := addAll_len (tLs (k.inner.take i)) B1
   have la2 := kLs_len (k.inner.take i)
   have lb2 := tLs_len (k.inner.take i)
   have hdep : kk.dep < k.dep := by
    cases k with
    | nm x => exact absurd rfl (hnm x)
    | two c d =>
     simp only [Kd.inner, List.mem_cons, List.mem_nil_iff, or_false] at hkm
     rcases hkm with rfl | rfl <;> simp only [Kd.dep] <;> omega
    | som r c =>
     simp only [Kd.inner, List.mem_cons, List.mem_nil_iff, or_false] at hkm
     subst hkm
     simp only [Kd.dep]; omega
   refine ⟨_, rfl, _, rfl, _, rfl, x, kk, a, b, _, _, rfl, IsK.mono (sp.tups.trans t3) ik, hab, ea, eb, by omega, by omega, by omega, fun H4 q4 ea4 eb4 => ?_⟩
   refine ⟨_, rfl, q3.trans q4, ?_, ?_⟩
   ·rw [List.take_add_one, hk2, kLs_app, addAll_app]
    simpa [kLs] using ea4
   ·rw [List.take_add_one, hk2, tLs_app, addAll_app]
    simpa [tLs] using eb4
  ·rintro σ H3 ⟨o3, rfl, q3, ea, eb⟩
   rw [lL, List.take_length] at ea eb
   refine q H3 (q1.trans ((Same.but2 sp).trans q3)) (by rw [ek]; exact ea) ?_
   rw [et, addAll_app, ← hB1]
   exact eb
 cases k with
 | nm x =>
  obtain rfl : v = .str x := hk
  refine ⟨_, rfl, _, _, _, true, rfl, TyOf.str x, kit_str_str K, _, rfl, iteT ?_⟩
  refine ⟨fun σ' H' => But2 a b H H' ∧ H' a = some (.dK (Dn (addAll A' (Kd.kindL (.nm x))))) ∧ H' b = some (.dK (Dn B)), ?_, fun σ' H' ⟨q1, e1, e2⟩ => q H' q1 e1 e2⟩
  refine ⟨_, rfl, aW, _, rfl, .inr (hW _), rfl, flat_whole, _, rfl, ?_⟩
  show if (!inV (.str x) [V.str "anything", V.str "nothing"]) = true then _ else _
  rw [in_whole]
  refine ite2 (fun c1 => ?_) (fun c1 => ?_)
  ·have hw : whole x = false := by simpa using c1
   refine ⟨_, rfl, _, rfl, a, _, rfl, DPut.k (k := Sum.inr x) ha (small1000 (by rw [Dn_len]; omega)), but2_a, ?_, by rw [upd_ne (Ne.symm hab)]; exact hb⟩
   rw [upd_same, Dn_put]
   have e0 : Kd.kindL (.nm x) = [x] := by unfold Kd.kindL; rw [hw]; rfl
   rw [e0]; rfl
  ·have hw : whole x = true := by simpa using c1
   have e0 : Kd.kindL (.nm x) = [] := by unfold Kd.kindL; rw [hw]; rfl
   exact ⟨But2.refl _ _ _, by rw [e0]; exact ha, hb⟩
 | two c d =>
  obtain ⟨p, x, y, rfl, hp, hc, hd'⟩ := id hk
  refine ⟨_, rfl, _, _, _, false, rfl, TyOf.tup hp, kit_tup_str K, _, rfl, iteF ?_⟩
  refine ⟨fun σ' H' => σ' = [some (.ref p), some (.ref a), some (.ref b), none] ∧ H' = H, ?_, ?_⟩
  ·refine ⟨_, rfl, p, _, 0, _, rfl, rfl, SqT.of hp, atI_nat (j := 0) rfl, rfl, _, rfl, ?_⟩
   rw [dec_str, beq_eq_false_iff_ne.mpr both_ne_some]
   exact iteF ⟨rfl, rfl⟩
  ·rintro σ' H' ⟨rfl, rfl⟩
   exact fin H' B (fun x z => by cases z) rfl (But2.refl _ _ _) ha hb
 | som r c =>
  obtain ⟨p, y, rfl, hp, hc⟩ := id hk
  refine ⟨_, rfl, _, _, _, false, rfl, TyOf.tup hp, kit_tup_str K, _, rfl, iteF ?_⟩
  refine ⟨fun σ' H' => σ' = [some (.ref p), some (.ref a), some (.ref b), none] ∧ But2 a b H H' ∧ H' a = some (.dK (Dn A')) ∧ H' b = some (.dK (Dn (addAll B [r]))), ?_, ?_⟩
  ·refine ⟨_, rfl, p, _, 0, _, rfl, rfl, SqT.of hp, atI_nat (j := 0) rfl, rfl, _, rfl, ?_⟩
   rw [dec_str, beq_self_eq_true]
   refine iteT ⟨_, rfl, _, rfl, p, _, 1, _, rfl, rfl, SqT.of hp, atI_nat (j := 1) rfl, b, _, rfl, DPut.k (k := Sum.inr r) hb (small1000 (by rw [Dn_len]; omega)), rfl, but2_b, by rw [upd_ne hab]; exact ha, ?_⟩
   rw [upd_same, Dn_put]; rfl
  ·rintro σ' H' ⟨rfl, q1, e1, e2⟩
   exact fin H' _ (fun x z => by cases z) rfl q1 e1 e2
theorem note_none : FnOk P w K mg base CX0 1 f fd ["kind", "kinds", "ties"] (spNote 0) := by
 have no : ∀ vs H Q E, ¬ spNote 0 vs H Q E := fun vs H Q E h => by
  obtain ⟨v, k, a, b, A, B, _, _, _, _, _, _, _, h, _⟩ := h
  omega
 exact ⟨fun vs H Q E h => absurd h (no vs H Q E), fun A outer s H args us vs Q E _ _ _ _ h => absurd h (no vs H Q E)⟩
theorem note_all (F : Fun K "note_names" "note_names" sNote f fd) (bGno : Binds K fd ["kind", "kinds", "ties"] []) (mGno : mg "note_names" = some (.ref f))
  (Gi : FnOk P w K mg base CX0 1 g gd' ["kind"] spInner) (bGi : Binds K gd' ["kind"] []) (kGi : PySem.W.keepIn K (.ref g) = true) (mGi : mg "inner_kinds" = some (.ref g)) (mW : mg "WHOLES" = some (.ref aW)) (hW : ∀ H, SqT K H aW [.str "anything", .str "nothing"]) (mi : mg "isinstance" = none) (ms : mg "str" = none) :
  ∀ n : Nat, FnOk P w K mg base CX0 (n + 1) f fd ["kind", "kinds", "ties"] (spNote n)
 | 0 => note_none
 | n + 1 => ok_note (by omega) F (note_all F bGno mGno Gi bGi kGi mGi mW hW mi ms n) bGno mGno Gi bGi kGi mGi mW hW mi ms
end
end K17
namespace K17
open PySem L2
structure Sg where
 form : Str
 ps : List (Str × Kd)
def formsL : List (Str × List Str) := [("every", ["kind", "kind"]), ("no", ["kind", "kind"]), ("thing", ["thing", "kind"]), ("tied", ["thing", "tie", "thing"]), ("within", ["tie", "tie"]), ("makes", ["tie", "tie", "tie"])]
def PartOk (p : Str × Kd) : Prop := (p.1 = "kind" ∧ p.2.sz ≤ 60) ∨ ((p.1 = "tie" ∨ p.1 = "thing") ∧ ∃ x, p.2 = .nm x)
structure Sg.Ok (S : Sg) : Prop where
 fo : (S.form, S.ps.map (·.1)) ∈ formsL
 po : ∀ p ∈ S.ps, PartOk p
def IsG (H : Hp) (S : Sg) (v : V) : Prop := ∃ (p : Addr) (xs : List V), v = .ref p ∧ H p = some (.tup (.str S.form :: xs)) ∧ KL H xs (S.ps.map (·.2))
def pK (p : Str × Kd) : List Str := if p.1 = "kind" then Kd.kindL p.2 else []
def pT (p : Str × Kd) : List Str := if p.1 = "kind" then Kd.tieL p.2 else if p.1 = "tie" then (match p.2 with | .nm x => [x] | _ => []) else []
def pG (p : Str × Kd) : List Str := if p.1 = "thing" then (match p.2 with | .nm x => [x] | _ => []) else []
def outK (S : Sg) : List Str := addAll [] ((S.ps.map pK).flatten)
def outT (S : Sg) : List Str := addAll [] ((S.ps.map pT).flatten)
def outG (S : Sg) : List Str := addAll [] ((S.ps.map pG).flatten)
theorem cut1 (x : V) (xs : List V) : cutV (x :: xs) (some 1) none = xs := by
 have h1 : HT.sIx (x :: xs).length 0 (some ((1 : Nat) : Int)) = 1 := by rw [HT.sIx_nat]; simp only [List.length_cons]; omega
 have h2 : HT.sIx (x :: xs).length (x :: xs).length none = (x :: xs).length := rfl
 unfold cutV
 rw [show (some 1 : Option Int) = some ((1 : Nat) : Int) from rfl, h1, h2]
 simp
theorem sIx1 (x : V) (xs : List V) : ¬ (HT.sIx (x :: xs).length 0 (some 1) = 0 ∧ HT.sIx (x :: xs).length (x :: xs).length none = (x :: xs).length) := by
 have h1 : HT.sIx (x :: xs).length 0 (some ((1 : Nat) : Int)) = 1 := by rw [HT.sIx_nat]; simp only [List.length_cons]; omega
 rw [show (some 1 : Option Int) = some ((1 : Nat) : Int) from rfl, h1]
 omega
theorem nt_lt_sz : ∀ k : Kd, k.nt < k.sz
 | .nm _ => by simp [Kd.nt, Kd.sz]
 | .two a b => by have := nt_lt_sz a; have := nt_lt_sz b; simp only [Kd.nt, Kd.sz]; omega
 | .som _ c => by have := nt_lt_sz c; simp only [Kd.nt, Kd.sz]; omega
theorem parts_len {l : List (Str × Kd)} {f : Str × Kd → List Str} (h : ∀ p ∈ l, (f p).length ≤ 60) : ((l.map f).flatten).length ≤ 60 * l.length := by
 induction l with
 | nil => simp
 | cons p l ih =>
  have h1 := h p (by simp)
  have h2 := ih fun q hq => h q (List.mem_cons_of_mem _ hq)
  simp only [List.map_cons, List.flatten_cons, List.length_append, List.length_cons]
  omega
theorem pK_len {p : Str × Kd} (h : PartOk p) : (pK p).length ≤ 60 := by
 unfold pK
 split
 ·rename_i e
  rcases h with ⟨_, h⟩ | ⟨h | h, _⟩
  ·have := kindL_sz p.2; omega
  ·rw [h] at e; exact absurd e (by decide +kernel)
  ·rw [h] at e; exact absurd e (by decide +kernel)
 ·simp
theorem pT_len {p : Str × Kd} (h : PartOk p) : (pT p).length ≤ 60 := by
 unfold pT
 split
 ·rename_i e
  rcases h with ⟨_, h⟩ | ⟨h | h, _⟩
  ·have := tieL_sz p.2; omega
  ·rw [h] at e; exact absurd e (by decide +kernel)
  ·rw [h] at e; exact absurd e (by decide +kernel)
 ·split
  ·split <;> simp
  ·simp
theorem pG_len (p : Str × Kd) : (pG p).length ≤ 60 := by
 unfold pG
 split
 ·split <;> simp
 ·simp
theorem forms_len {f : Str} {ss : List Str} (h : (f, ss) ∈ formsL) : ss.length ≤ 3 := by
 simp only [formsL, List.mem_cons, List.mem_nil_iff, or_false, Prod.mk.injEq] at h
 rcases h with ⟨_, rfl⟩ | ⟨_, rfl⟩ | ⟨_, rfl⟩ | ⟨_, rfl⟩ | ⟨_, rfl⟩ | ⟨_, rfl⟩ <;> simp
def spNamed : Sp := fun vs H Q _ => ∃ (v : V) (S : Sg), vs = [v] ∧ IsG H S v ∧ S.Ok ∧ ∀ (q a b c : Addr) (H' : Hp), Same H H' → H' q = some (.tup [.ref a, .ref b, .ref c]) → H' a = some (.lst ((outK S).map V.str)) → H' b = some (.lst ((outT S).map V.str)) → H' c = some (.lst ((outG S).map V.str)) →
 H q = none → H a = none → H b = none → H c = none → a ≠ b → a ≠ c → b ≠ c → Q (.ref q) H'
section
variable {P : Program} {w : World} {K : PySem.W.Frag} {mg : Str → Option Value} {base : Heap} {f g e d a1 a2 a3 a4 aW aF : Addr} {fd gd' ed dd d1 d2 d3 d4 : FuncData}
theorem scNamed : FnScope ["saying", "kinds", "ties", "things", "sort", "part"] ["saying"] (defScope sNamed) := ⟨rfl, rfl, rfl, by decide +kernel, rfl, by decide +kernel, by decide +kernel⟩
theorem ok_named (F : Fun K "named" "named" sNamed f fd)
  (Gno : FnOk P w K mg base CX0 61 g gd' ["kind", "kinds", "ties"] (spNote 60)) (bGno : Binds K gd' ["kind", "kinds", "ties"] []) (kGno : PySem.W.keepIn K (.ref g) = true) (mGno : mg "note_names" = some (.ref g)) (mF0 : mg "FORMS" = some (.ref aF))
  (hF : ∀ (fo : Str) (ss : List Str), (fo, ss) ∈ formsL → ∃ kvs a, KDict K P w aF kvs ∧ valV kvs (.inr fo) = some (.ref a) ∧ ∀ H, SqT K H a (ss.map V.str)) (mz : mg "zip" = none) (mls : mg "list" = none) :
  FnOk P w K mg base CX0 62 f fd ["saying"] spNamed := by
 refine F.ok scNamed (fun vs H Q E h => ?_) (fun cdv A outer s H vs Q E hr h => ?_)
 ·obtain ⟨v, S, rfl, _⟩ := h; rfl
 obtain ⟨v, S, rfl, hv, hS, q⟩ := h
 have hrno := hr
 have hu : (A.deeper (PyProof.Rows.envOfC "named" (defScope sNamed) s.heap.objs.size f cdv)).units + 1 < cLine := by have := hr.un; omega
 refine ⟨_, @pss_cons _ _ _ _ _ (by exact ps_set (i := 1) scNamed.nd rfl (Or.inl rfl) pe_dnewK)
  (@pss_cons _ _ _ _ _ (by exact ps_set (i := 2) scNamed.nd rfl (Or.inl rfl) pe_dnewK)
  (@pss_cons _ _ _ _ _ (by exact ps_set (i := 3) scNamed.nd rfl (Or.inl rfl) pe_dnewK)
  (@pss_mid _ _ _ _ _ (by exact ps_for PassesOwn.never rfl (pi_zipT rfl mz (pa_cons (pe_kget (pe_glob (v := .ref aF) rfl mF0 rfl) (pe_ix ix_tup (pv 0) pe_int (fun _ _ => rfl)) (fun _ _ => rfl)) (pa_cons (pe_slice sl_tup (pv 0) (po_some pe_int) po_none) pa_nil))) (pg_tup rfl (pgs_cons (pg_name (i := 4) scNamed.nd rfl (Or.inl rfl)) (pgs_cons (pg_name (i := 5) scNamed.nd rfl (Or.inl rfl)) pgs_nil))) (@pss_one _ _ _ (by exact ps_if (pt_cmpR op_eq (pv 4) pe_str (nomark _)) (@pss_one _ _ _ (by exact ps_expr (pe_call Gno hrno rfl mGno kGno bGno .nil pass0 (pa_cons (pv 5) (pa_cons (pv 1) (pa_cons (pv 2) pa_nil)))))) (@pss_one _ _ _ (by exact ps_if (pt_cmpR op_eq (pv 4) pe_str (nomark _)) (@pss_one _ _ _ (by exact ps_dput hu (pv 2) (pv 5) pe_bl rfl)) (@pss_one _ _ _ (by exact ps_dput hu (pv 3) (pv 5) pe_bl rfl)))))))
  (@pss_one _ _ _ (by exact @ps_ret _ _ _ _ (@pe_tup _ _ _ _ _ (pa_cons (pe_callTy (call_list_dict rfl) rfl mls PyProof.Rows.boot_list (pa_cons (pv 1) pa_nil)) (pa_cons (pe_callTy (call_list_dict rfl) rfl mls PyProof.Rows.boot_list (pa_cons (pv 2) pa_nil)) (pa_cons (pe_callTy (call_list_dict rfl) rfl mls PyProof.Rows.boot_list (pa_cons (pv 3) pa_nil)) pa_nil))))))))), ?_⟩
 obtain ⟨pv, xs, rfl, hpv, hL⟩ := hv
 obtain ⟨kvs, aT, hkd, hval, hT⟩ := hF _ _ hS.fo
 have lL := KL.len hL
 rw [List.length_map] at lL
 have l3 := forms_len hS.fo
 rw [List.length_map] at l3
 refine fun a ha => fun b hb => fun c hc => ?_
 have ab : a ≠ b := ne_of_none upd_same hb
 have hb0 : H b = none := by rw [upd_ne (Ne.symm ab)] at hb; exact hb
 have bc : b ≠ c := ne_of_none upd_same hc
 have ac : a ≠ c := fun z => by rw [← z, upd_ne ab, upd_same] at hc; cases hc
 have hc0 : H c = none := by rw [upd_ne (Ne.symm bc), upd_ne (Ne.symm ac)] at hc; exact hc
 have s3 : Same H (upd (upd (upd H a (.dK [])) b (.dK [])) c (.dK [])) := same_upd (same_upd (same_new ha _) hb0) hc0
 have ea0 : (upd (upd (upd H a (.dK [])) b (.dK [])) c (.dK [])) a = some (.dK (Dn [])) := by rw [upd_ne ac, upd_ne ab]; exact upd_same
 have eb0 : (upd (upd (upd H a (.dK [])) b (.dK [])) c (.dK [])) b = some (.dK (Dn [])) := by rw [upd_ne bc]; exact upd_same
 have ec0 : (upd (upd (upd H a (.dK [])) b (.dK [])) c (.dK [])) c = some (.dK (Dn [])) := upd_same
 generalize upd (upd (upd H a (.dK [])) b (.dK [])) c (.dK []) = H3 at s3 ea0 eb0 ec0 ⊢
 refine ⟨fun σ' H' => ∃ o4 o5 : Option V, σ' = [some (.ref pv), some (.ref a), some (.ref b), some (.ref c), o4, o5] ∧ Same H H' ∧ H' a = some (.dK (Dn (outK S))) ∧ H' b = some (.dK (Dn (outT S))) ∧ H' c = some (.dK (Dn (outG S))), ?_, ?_⟩
 ·refine ⟨_, rfl, pv, _, 0, _, rfl, rfl, SqT.of (s3 _ _ hpv), atI_nat (j := 0) rfl, aF, kvs, .inr S.form, .ref aT, rfl, rfl, hkd, hval, _, rfl, 1, rfl, pv, _, rfl, SqT.of (s3 _ _ hpv), sIx1 _ _, fun pt hpt => ?_⟩
  rw [cut1]
  have spt := same_new hpt (.tup xs)
  refine ⟨aT, pt, rfl, ⟨_, hT _⟩, ⟨_, SqT.of upd_same⟩, ?_⟩
  have npa : pt ≠ a := fun z => by rw [z, ea0] at hpt; cases hpt
  have npb : pt ≠ b := fun z => by rw [z, eb0] at hpt; cases hpt
  have npc : pt ≠ c := fun z => by rw [z, ec0] at hpt; cases hpt
  refine for_zipT (xs := (S.ps.map (·.1)).map V.str) (ys := xs) (by rw [List.length_map, List.length_map]; omega) (fun i σ H4 => ∃ o4 o5 : Option V, σ = [some (.ref pv), some (.ref a), some (.ref b), some (.ref c), o4, o5] ∧ Same H H4 ∧ H4 pt = some (.tup xs) ∧
   H4 a = some (.dK (Dn (addAll [] (((S.ps.take i).map pK).flatten)))) ∧ H4 b = some (.dK (Dn (addAll [] (((S.ps.take i).map pT).flatten)))) ∧ H4 c = some (.dK (Dn (addAll [] (((S.ps.take i).map pG).flatten)))))
   ⟨none, none, rfl, s3.trans spt, upd_same, by rw [List.take_zero]; exact spt _ _ ea0, by rw [List.take_zero]; exact spt _ _ eb0, by rw [List.take_zero]; exact spt _ _ ec0⟩ ?_ ?_ ?_
  ·rintro i σ H4 hi ⟨o4, o5, rfl, _, e, _⟩
   exact ⟨hT _, SqT.of e⟩
  ·rintro i x y σ H4 T hx hy ⟨o4, o5, rfl, s4, e4, ea, eb, ec⟩ hTn
   obtain ⟨k', hk1, ik⟩ := KL.get hL hy
   rw [List.getElem?_map] at hk1
   obtain ⟨p, hp, rfl⟩ := Option.map_eq_some_iff.mp hk1
   rw [List.getElem?_map, List.getElem?_map, hp] at hx
   simp only [Option.map_some, Option.some.injEq] at hx
   subst hx
   have hpm := List.mem_of_getElem? hp
   have hpo := hS.po p hpm
   have sT := same_new hTn (.tup [.str p.1, y])
   have ik4 := IsK.mono (s4.trans sT).tups ik
   have il : i < S.ps.length := (List.getElem?_eq_some_iff.mp hp).1
   have lt : (S.ps.take i).length ≤ 3 := Nat.le_trans (List.length_take_le' _ _) l3
   have hin : ∀ p' ∈ S.ps.take i, PartOk p' := fun p' h' => hS.po p' (List.mem_of_mem_take h')
   have la := addAll_len (((S.ps.take i).map pK).flatten) []
   have lb := addAll_len (((S.ps.take i).map pT).flatten) []
   have lc := addAll_len (((S.ps.take i).map pG).flatten) []
   have la2 := parts_len (f := pK) fun p' h' => pK_len (hin p' h')
   have lb2 := parts_len (f := pT) fun p' h' => pT_len (hin p' h')
   have lc2 := parts_len (l := S.ps.take i) (f := pG) fun p' h' => pG_len p'
   rw [List.length_nil] at la lb lc
   have stp : ∀ (ff : Str × Kd → List Str), addAll [] (((S.ps.take (i + 1)).map ff).flatten) = addAll (addAll [] (((S.ps.take i).map ff).flatten)) (ff p) := fun ff => by
    rw [List.take_add_one, hp, List.map_append, List.flatten_append, addAll_app]
    simp
   refine ⟨T, _, rfl, SqT.of upd_same, rfl, _, _, rfl, _, _, rfl, rfl, ?_⟩
   refine ⟨_, rfl, rfl, _, rfl, ite2 (fun c1 => ?_) (fun c1 => ?_)⟩
   ·have e1 : p.1 = "kind" := by
     have := of_decide_eq_true c1
     injection this
    have hsz : p.2.sz ≤ 60 := by
     rcases hpo with ⟨_, h⟩ | ⟨h | h, _⟩
     ·exact h
     ·rw [h] at e1; exact absurd e1 (by decide +kernel)
     ·rw [h] at e1; exact absurd e1 (by decide +kernel)
    have hdp : p.2.dep < 60 := by
     have h1 := Kd.dep_le_nt p.2
     have h2 : p.2.nt < p.2.sz := nt_lt_sz p.2
     omega
    refine ⟨_, rfl, _, rfl, _, rfl, y, p.2, a, b, _, _, rfl, ik4, ab, sT _ _ ea, sT _ _ eb, by omega, by omega, hdp, fun H5 q5 ea5 eb5 => ?_⟩
    refine ⟨_, _, rfl, fun z o hz => ?_, ?_, ?_, ?_, ?_⟩
    ·exact q5 z o (fun e => by rw [e, ha] at hz; cases hz) (fun e => by rw [e, hb0] at hz; cases hz) ((s4.trans sT) _ _ hz)
    ·exact q5 _ _ npa npb (sT _ _ e4)
    ·rw [stp, ea5]; unfold pK; rw [if_pos e1]
    ·rw [stp, eb5]; unfold pT; rw [if_pos e1]
    ·rw [stp]
     have : pG p = [] := by unfold pG; rw [if_neg (by rw [e1]; decide +kernel)]
     rw [this]
     exact q5 _ _ (Ne.symm ac) (Ne.symm bc) (sT _ _ ec)
   ·have n1 : p.1 ≠ "kind" := fun z => c1 (by rw [z]; exact decide_eq_true rfl)
    rcases hpo with ⟨h, _⟩ | ⟨hso, x, hx⟩
    ·exact absurd h n1
    rw [hx] at ik4
    obtain rfl : y = .str x := ik4
    refine ⟨_, rfl, rfl, _, rfl, ite2 (fun c2 => ?_) (fun c2 => ?_)⟩
    ·have e2 : p.1 = "tie" := by
      have := of_decide_eq_true c2
      injection this
     refine ⟨_, rfl, _, rfl, b, _, rfl, DPut.k (k := Sum.inr x) (sT _ _ eb) (small1000 (by rw [Dn_len]; omega)), _, _, rfl, same_upd (s4.trans sT) hb0, by rw [upd_ne npb]; exact sT _ _ e4, ?_, ?_, ?_⟩
     ·rw [upd_ne ab, stp]
      have : pK p = [] := by unfold pK; rw [if_neg n1]
      rw [this]; exact sT _ _ ea
     ·rw [upd_same, stp, Dn_put]
      have : pT p = [x] := by unfold pT; rw [if_neg n1, if_pos e2, hx]
      rw [this]; rfl
     ·rw [upd_ne (Ne.symm bc), stp]
      have : pG p = [] := by unfold pG; rw [if_neg (by rw [e2]; decide +kernel)]
      rw [this]; exact sT _ _ ec
    ·have n2 : p.1 ≠ "tie" := fun z => c2 (by rw [z]; exact decide_eq_true rfl)
     have e2 : p.1 = "thing" := hso.resolve_left n2
     refine ⟨_, rfl, _, rfl, c, _, rfl, DPut.k (k := Sum.inr x) (sT _ _ ec) (small1000 (by rw [Dn_len]; omega)), _, _, rfl, same_upd (s4.trans sT) hc0, by rw [upd_ne npc]; exact sT _ _ e4, ?_, ?_, ?_⟩
     ·rw [upd_ne ac, stp]
      have : pK p = [] := by unfold pK; rw [if_neg n1]
      rw [this]; exact sT _ _ ea
     ·rw [upd_ne bc, stp]
      have : pT p = [] := by unfold pT; rw [if_neg n1, if_neg n2]
      rw [this]; exact sT _ _ eb
     ·rw [upd_same, stp, Dn_put]
      have : pG p = [x] := by unfold pG; rw [if_pos e2, hx]
      rw [this]; rfl
  ·rintro σ H4 ⟨o4, o5, rfl, s4, e4, ea, eb, ec⟩
   rw [List.length_map, List.length_map, List.take_length] at ea eb ec
   exact ⟨o4, o5, rfl, s4, ea, eb, ec⟩
 ·rintro σ' H4 ⟨o4, o5, rfl, s4, ea, eb, ec⟩
  refine ⟨_, rfl, a, _, _, rfl, ea, Dn_keys _, fun l1 h1 => ⟨_, rfl, b, _, _, rfl, same_new h1 _ _ _ eb, Dn_keys _, fun l2 h2 => ⟨_, rfl, c, _, _, rfl, same_new h2 _ _ _ (same_new h1 _ _ _ ec), Dn_keys _, fun l3 h3 => ⟨le3, fun qq hq => ?_⟩⟩⟩⟩
  have t1 := same_new h1 (.lst ((outK S).map V.str))
  have t2 := same_new h2 (.lst ((outT S).map V.str))
  have t3 := same_new h3 (.lst ((outG S).map V.str))
  have t4 := same_new hq (.tup [.ref l1, .ref l2, .ref l3])
  have h2' := none_of_same t1 h2
  have h3' := none_of_same (t1.trans t2) h3
  have hq' := none_of_same ((t1.trans t2).trans t3) hq
  exact q qq l1 l2 l3 _ (((s4.trans t1).trans t2).trans (t3.trans t4)) upd_same (((t2.trans t3).trans t4) _ _ upd_same) ((t3.trans t4) _ _ upd_same) (t4 _ _ upd_same) (none_of_same s4 hq') (none_of_same s4 h1) (none_of_same s4 h2') (none_of_same s4 h3')
   (ne_of_none upd_same h2) (ne_of_none (t2 _ _ upd_same) h3) (ne_of_none upd_same h3)
end
end K17
namespace K17
open PySem L2
def smallC (c : Nat) : Bool := decide (97 ≤ c ∧ c ≤ 122)
def bigC (c : Nat) : Bool := decide (65 ≤ c ∧ c ≤ 90)
def fits (z : Str) : Bool := decide (1 ≤ z.length) && decide (z.length ≤ 12)
def thingB (z : Str) : Bool := fits z && (match z.cps.toList with | [] => false | c :: r => bigC c && r.all smallC)
theorem le_one (c d : Nat) : (!decide ([d] < [c])) = decide (c ≤ d) := by
 have h : ([d] < [c]) ↔ d < c := by
  simp [List.cons_lt_cons_iff]
 by_cases q : d < c
 ·rw [decide_eq_true (h.mpr q), decide_eq_false (by omega)]; rfl
 ·rw [decide_eq_false (fun z => q (h.mp z)), decide_eq_true (by omega)]; rfl
def spSmall : Sp := fun vs H Q _ => ∃ c : Nat, vs = [.str ⟨#[c]⟩] ∧ Q (.bl (smallC c)) H
def spAll : Sp := fun vs H Q _ => ∃ z : Str, vs = [.str z] ∧ z.length ≤ 1000 ∧ ∀ H', Same H H' → Q (.bl (z.cps.toList.all smallC)) H'
def spThing : Sp := fun vs H Q _ => ∃ z : Str, vs = [.str z] ∧ z.length ≤ 1000 ∧ ∀ H', Same H H' → Q (.bl (thingB z)) H'
section
variable {P : Program} {w : World} {K : PySem.W.Frag} {mg : Str → Option Value} {base : Heap} {f g : Addr} {fd gd : FuncData}
theorem scSmall : FnScope ["sign"] ["sign"] (defScope sSmall) := ⟨rfl, rfl, rfl, by decide +kernel, rfl, by decide +kernel, by decide +kernel⟩
theorem ok_small (F : Fun K "is_small" "is_small" sSmall f fd) : FnOk P w K mg base CX0 1 f fd ["sign"] spSmall := by
 refine F.ok scSmall (fun vs H Q E h => ?_) (fun cdv A outer s H vs Q E hr h => ?_)
 ·obtain ⟨c, rfl, _⟩ := h; rfl
 obtain ⟨c, rfl, q⟩ := h
 refine ⟨_, pss_one (ps_ret (pe_chain op_le_str op_le_str pe_str (pv 0) pe_str)), ?_⟩
 refine ⟨_, rfl, _, _, rfl, rfl, _, rfl, ?_⟩
 have e1 : (!decide (([c] : List Nat) < [97])) = decide (97 ≤ c) := le_one 97 c
 have e2 : (!decide (([122] : List Nat) < [c])) = decide (c ≤ 122) := le_one c 122
 show if (!decide (([c] : List Nat) < [97])) = true then _ else _
 rw [e1]
 refine ite2 (fun h => ?_) (fun h => ?_)
 ·refine ⟨_, _, rfl, rfl, ?_⟩
  show Q (.bl (!decide (([122] : List Nat) < [c]))) H
  rw [e2]
  have h' : 97 ≤ c := of_decide_eq_true h
  have : smallC c = decide (c ≤ 122) := by unfold smallC; rw [decide_eq_decide]; omega
  rw [← this]
  exact q
 ·have h' : ¬ 97 ≤ c := fun z => h (decide_eq_true z)
  have : smallC c = false := by unfold smallC; rw [decide_eq_false_iff_not]; omega
  rw [← this]
  exact q
theorem nd1 : (((["sign"] : List Str) ++ []) : List Str).Nodup := by decide +kernel
theorem scAll : FnScope ["text"] ["text"] (defScope sAll) := ⟨rfl, rfl, rfl, by decide +kernel, rfl, by decide +kernel, by decide +kernel⟩
theorem ok_all (F : Fun K "all_small" "all_small" sAll f fd) (G : FnOk P w K mg base CX0 1 g gd ["sign"] spSmall) (bG : Binds K gd ["sign"] []) (kG : PySem.W.keepIn K (.ref g) = true) (mG : mg "is_small" = some (.ref g)) (ma : mg "all" = none) :
  FnOk P w K mg base CX0 2 f fd ["text"] spAll := by
 refine F.ok scAll (fun vs H Q E h => ?_) (fun cdv A outer s H vs Q E hr h => ?_)
 ·obtain ⟨c, rfl, _⟩ := h; rfl
 obtain ⟨z, rfl, hz, q⟩ := h
 refine ⟨_, pss_one (ps_ret (pe_callB (call_allB rfl) rfl ma PyProof.Rows.boot_all (pa_cons (pe_comp ["sign"] [] [] rfl (pi_str (pv 0)) (fun _ _ _ => pg_name (i := 0) nd1 rfl (Or.inl rfl)) (fun _ _ _ => pts_nil)
  (fun _ _ _ => pe_call G hr rfl mG kG bG .nil pass0 (pa_cons (pv 0) pa_nil))) pa_nil))), ?_⟩
 refine ⟨_, rfl, z, rfl, fun D hD => ?_⟩
 have hsz : z.cps.size = z.length := rfl
 refine cmp_by z.cps.size (fun i σ H' => (∃ o, σ = [o]) ∧ H' = upd H D (.lst (((z.cps.toList.take i).map smallC).map V.bl))) ⟨⟨_, rfl⟩, rfl⟩ ?_ ?_
 ·rintro σ H' ⟨_, rfl⟩
  refine ⟨rfl, D, (z.cps.toList.map smallC), rfl, SqL.of ?_, ?_⟩
  ·rw [upd_same, List.take_of_length_le (by simp)]
  ·have e : (z.cps.toList.map smallC).all id = z.cps.toList.all smallC := by rw [List.all_map]; rfl
   rw [e]
   exact q _ (same_new hD _)
 ·rintro i σ H' hi ⟨⟨o, rfl⟩, rfl⟩
  refine ⟨hi, ?_⟩
  rintro x H1 ⟨rfl, c, hc, rfl⟩
  refine ⟨_, rfl, c, rfl, _, upd_same, ?_, ⟨_, rfl⟩, ?_⟩
  ·rw [List.length_map, List.length_map, List.length_take]
   exact small1000 (by omega)
  ·rw [upd_upd]
   have hc' : z.cps.toList[i]? = some c := by simpa using hc
   rw [List.take_add_one, hc', List.map_append, List.map_append]
   rfl
theorem sl1 (z : Str) : (Txt.slice z (some 1) none).cps.toList = z.cps.toList.drop 1 := by
 rw [slice_cps]
 have hx : z.cps.toList.length = z.length := by simp [Str.length]
 have e : HT.sIx z.length 0 (some 1) = min 1 z.length := HT.sIx_nat z.length 0 1
 have e2 : HT.sIx z.length z.length none = z.length := rfl
 rw [e, e2]
 rcases Nat.eq_zero_or_pos z.length with h | h
 ·have : z.cps.toList = [] := List.eq_nil_of_length_eq_zero (by omega)
  rw [this]; simp
 ·have : min 1 z.length = 1 := by omega
  rw [this, List.take_of_length_le (by rw [List.length_drop]; omega)]
theorem scThing : FnScope ["text"] ["text"] (defScope sThing) := ⟨rfl, rfl, rfl, by decide +kernel, rfl, by decide +kernel, by decide +kernel⟩
theorem ok_thing {tk : Tok} (F : Fun K "is_thing" "is_thing" sThing f fd) (G : FnOk P w K mg base CX0 2 g gd ["text"] spAll) (bG : Binds K gd ["text"] []) (kG : PySem.W.keepIn K (.ref g) = true) (mG : mg "all_small" = some (.ref g))
  (ml : mg "len" = none) (mM : mg "MOST_SIGNS" = some (.int 12 tk)) : FnOk P w K mg base CX0 3 f fd ["text"] spThing := by
 refine F.ok scThing (fun vs H Q E h => ?_) (fun cdv A outer s H vs Q E hr h => ?_)
 ·obtain ⟨c, rfl, _⟩ := h; rfl
 obtain ⟨z, rfl, hz, q⟩ := h
 refine ⟨_, pss_one (ps_ret (pe_and (pe_chain op_le op_le pe_int (pe_callB call_len_str rfl ml PySem.boot_len (pa_cons (pv 0) pa_nil)) (pe_glob (v := .int 12) rfl mM ⟨_, rfl⟩))
  (pe_and (pe_chain op_le_str op_le_str pe_str (pe_ix ix_str (pv 0) pe_int (fun _ _ => rfl)) pe_str) (pe_one (pe_call G hr rfl mG kG bG .nil pass0 (pa_cons (pe_slice sl_str (pv 0) (po_some pe_int) po_none) pa_nil)))))), ?_⟩
 have hzl : z.length ≤ sizeLine := Nat.le_of_lt (small1000 hz)
 have hx : z.cps.toList.length = z.length := by simp [Str.length]
 refine ⟨_, rfl, z, rfl, hzl, _, _, rfl, rfl, _, rfl, ?_⟩
 have e1 : decide ((1 : Int) ≤ (z.length : Int)) = decide (1 ≤ z.length) := by rw [decide_eq_decide]; omega
 have e2 : decide ((z.length : Int) ≤ 12) = decide (z.length ≤ 12) := by rw [decide_eq_decide]; omega
 have no : fits z = false → thingB z = false := fun e => by unfold thingB; rw [e, Bool.false_and]
 have sH := q H (Same.refl H)
 refine ite2 (fun h1 => ?_) (fun h1 => ?_)
 ·refine ⟨_, _, rfl, rfl, _, rfl, ?_⟩
  refine ite2 (fun h2 => ?_) (fun h2 => ?_)
  ·have hf : fits z = true := by unfold fits; rw [← e1, ← e2, h1, h2]; rfl
   have h1' : 1 ≤ z.length := by have := of_decide_eq_true h1; omega
   obtain ⟨c, r, ecr⟩ : ∃ c r, z.cps.toList = c :: r := by
    cases e : z.cps.toList with
    | nil => rw [e] at hx; simp at hx; omega
    | cons c r => exact ⟨c, r, rfl⟩
   have et : thingB z = (bigC c && r.all smallC) := by unfold thingB; rw [hf, ecr]; rfl
   refine ⟨_, rfl, z, 0, c, rfl, rfl, hzl, ?_, _, _, rfl, rfl, _, rfl, ?_⟩
   ·exact atI_nat (j := 0) (by rw [ecr]; rfl)
   have a1 : (!decide (([c] : List Nat) < [65])) = decide (65 ≤ c) := le_one 65 c
   have a2 : (!decide (([90] : List Nat) < [c])) = decide (c ≤ 90) := le_one c 90
   show if (!decide (([c] : List Nat) < [65])) = true then _ else _
   rw [a1]
   refine ite2 (fun h3 => ?_) (fun h3 => ?_)
   ·have h3' : 65 ≤ c := of_decide_eq_true h3
    refine ⟨_, _, rfl, rfl, _, rfl, ?_⟩
    show if (!decide (([90] : List Nat) < [c])) = true then _ else _
    rw [a2]
    refine ite2 (fun h4 => ?_) (fun h4 => ?_)
    ·have h4' : c ≤ 90 := of_decide_eq_true h4
     have hb : bigC c = true := by unfold bigC; exact decide_eq_true ⟨h3', h4'⟩
     have hl : (Txt.slice z (some 1) none).length ≤ 1000 := Nat.le_trans (Txt.slice_le z _ _) hz
     refine ⟨_, rfl, _, rfl, z, rfl, hzl, _, rfl, hl, fun H' sm => ?_⟩
     have e5 : (Txt.slice z (some 1) none).cps.toList.all smallC = thingB z := by rw [sl1, ecr, et, hb]; rfl
     rw [e5]
     exact q H' sm
    ·have h4' : ¬ c ≤ 90 := fun k => h4 (decide_eq_true k)
     have hb : bigC c = false := by unfold bigC; exact decide_eq_false fun k => h4' k.2
     have e5 : thingB z = false := by rw [et, hb]; rfl
     rw [← e5]
     exact sH
   ·have h3' : ¬ 65 ≤ c := fun k => h3 (decide_eq_true k)
    have hb : bigC c = false := by unfold bigC; exact decide_eq_false fun k => h3' k.1
    have e5 : thingB z = false := by rw [et, hb]; rfl
    refine ⟨_, rfl, iteF ?_⟩
    rw [← e5]
    exact sH
  ·have hf : fits z = false := by
    unfold fits
    have h2' : decide (z.length ≤ 12) = false := by rw [← e2]; exact Bool.eq_false_iff.mpr h2
    rw [h2', Bool.and_false]
   rw [← no hf]
   exact sH
 ·have hf : fits z = false := by
   unfold fits
   have h1' : decide (1 ≤ z.length) = false := by rw [← e1]; exact Bool.eq_false_iff.mpr h1
   rw [h1', Bool.false_and]
  refine ⟨_, rfl, iteF ?_⟩
  rw [← no hf]
  exact sH
end
end K17
namespace K17
open PySem L2
def nothK : Kd := .nm "nothing"
def anyK : Kd := .nm "anything"
def mThing : Option Sy → Option Fa
 | some (.thing x k) => some (.is (.nm x) k)
 | _ => none
def mTied : Option Sy → Option Fa
 | some (.tied x t y) => some (.has (.nm x) t (.nm y))
 | _ => none
def mEvery1 (f : Fa) : Option Sy → Option Fa
 | some (.every a b) => if f = .is f.x a then some (.is f.x b) else none
 | _ => none
def mFirst1 : Fa → Option Fa
 | .is x (.two a _) => some (.is x a)
 | _ => none
def mSecond1 : Fa → Option Fa
 | .is x (.two _ b) => some (.is x b)
 | _ => none
def mSome1 : Fa → Option Fa
 | .is x (.som r c) => some (.has x r c)
 | _ => none
def mWithin1 : Fa → Option Sy → Option Fa
 | .has x t y, some (.within r s) => if t = r then some (.has x s y) else none
 | _, _ => none
def mNo2 (f g : Fa) : Option Sy → Option Fa
 | some (.no a b) => if f = .is f.x a ∧ g = .is f.x b then some (.is f.x nothK) else none
 | _ => none
def mBoth2 : Fa → Fa → Option Fa
 | .is x k, .is y l => if x = y then some (.is x (.two k l)) else none
 | _, _ => none
def mTie2 : Fa → Fa → Option Fa
 | .has x t y, .is z k => if y = z then some (.is x (.som t k)) else none
 | _, _ => none
def mNone2 : Fa → Fa → Option Fa
 | .has x _ y, g => if g = .is y nothK then some (.is x nothK) else none
 | _, _ => none
def mMakes2 : Fa → Fa → Option Sy → Option Fa
 | .has x t y, .has z u v, some (.makes r s q) => if y = z then (if t = r ∧ u = s then some (.has x q v) else none) else none
 | _, _, _ => none
def made1 (r : Ru) (f : Fa) (sy : Option Sy) : Option Fa :=
 match r with
 | .every => mEvery1 f sy | .first => mFirst1 f | .second => mSecond1 f | .some => mSome1 f | .within => mWithin1 f sy | _ => none
def made2 (r : Ru) (f g : Fa) (sy : Option Sy) : Option Fa :=
 match r with
 | .no => mNo2 f g sy | .both => mBoth2 f g | .tie => mTie2 f g | .none => mNone2 f g | .makes => mMakes2 f g sy | _ => none
def made0 (r : Ru) (sy : Option Sy) : Option Fa :=
 match r with
 | .thing => mThing sy | .tied => mTied sy | _ => none
def made (r : Ru) (fs : List Fa) (sy : Option Sy) : Option Fa :=
 match fs with
 | [] => made0 r sy
 | [f] => made1 r f sy
 | [f, g] => made2 r f g sy
 | _ => none
def ruN : Ru → Nat
 | .self => 0 | .all => 0 | .thing => 0 | .tied => 0 | .every => 1 | .first => 1 | .second => 1 | .some => 1 | .within => 1 | .no => 2 | .both => 2 | .tie => 2 | .none => 2 | .makes => 2 | .oth => 9
def ruBy : Ru → Bool
 | .thing => true | .tied => true | .every => true | .within => true | .no => true | .makes => true | _ => false
def spM (r : Ru) : Sp := fun vs H Q _ => ∃ (l : Addr) (tl : List V) (fs : List Fa) (sv : V) (sy : Option Sy), vs = [.ref l, sv] ∧ H l = some (.lst tl) ∧ FL H tl fs ∧ fs.length = ruN r ∧ (∀ f ∈ fs, f.lo 8) ∧ IsSo H sy sv ∧ (ruBy r = true → ∃ s, sy = some s ∧ s.hd = r) ∧
 ∀ v H', Same H H' → IsFo H' (made r fs sy) v → Q v H'
theorem fl0 {H : Hp} {tl : List V} {fs : List Fa} (h : FL H tl fs) (e : fs.length = 0) : tl = [] ∧ fs = [] := by
 cases h with
 | nil => exact ⟨rfl, rfl⟩
 | cons a b => simp at e
theorem fl1 {H : Hp} {tl : List V} {fs : List Fa} (h : FL H tl fs) (e : fs.length = 1) : ∃ v f, tl = [v] ∧ fs = [f] ∧ IsF H f v := by
 cases h with
 | nil => simp at e
 | cons a b =>
  obtain ⟨rfl, rfl⟩ := fl0 b (by simpa using e)
  exact ⟨_, _, rfl, rfl, a⟩
theorem fl2 {H : Hp} {tl : List V} {fs : List Fa} (h : FL H tl fs) (e : fs.length = 2) : ∃ v u f g, tl = [v, u] ∧ fs = [f, g] ∧ IsF H f v ∧ IsF H g u := by
 cases h with
 | nil => simp at e
 | cons a b =>
  obtain ⟨u, g, rfl, rfl, hb⟩ := fl1 b (by simpa using e)
  exact ⟨_, _, _, _, rfl, rfl, a, hb⟩
theorem hd_every {s : Sy} (h : s.hd = .every) : ∃ a b, s = .every a b := by
 cases s <;> first | exact ⟨_, _, rfl⟩ | (simp only [Sy.hd] at h; cases h)
theorem hd_no {s : Sy} (h : s.hd = .no) : ∃ a b, s = .no a b := by
 cases s <;> first | exact ⟨_, _, rfl⟩ | (simp only [Sy.hd] at h; cases h)
theorem hd_thing {s : Sy} (h : s.hd = .thing) : ∃ a b, s = .thing a b := by
 cases s <;> first | exact ⟨_, _, rfl⟩ | (simp only [Sy.hd] at h; cases h)
theorem hd_tied {s : Sy} (h : s.hd = .tied) : ∃ a b c, s = .tied a b c := by
 cases s <;> first | exact ⟨_, _, _, rfl⟩ | (simp only [Sy.hd] at h; cases h)
theorem hd_within {s : Sy} (h : s.hd = .within) : ∃ a b, s = .within a b := by
 cases s <;> first | exact ⟨_, _, rfl⟩ | (simp only [Sy.hd] at h; cases h)
theorem hd_makes {s : Sy} (h : s.hd = .makes) : ∃ a b c, s = .makes a b c := by
 cases s <;> first | exact ⟨_, _, _, rfl⟩ | (simp only [Sy.hd] at h; cases h)
def Fa.hs : Fa → Str
 | .is _ _ => "is"
 | .has _ _ _ => "has"
theorem IsF.sh {H : Hp} : ∀ {f : Fa} {v : V}, IsF H f v → ∃ (p : Addr) (xs : List V) (a : V), v = .ref p ∧ H p = some (.tup xs) ∧ xs[0]? = some (.str f.hs) ∧ xs[1]? = some a ∧ IsK H f.x a
 | .is _ _, _, ⟨p, a, b, e, h, ha, hb⟩ => ⟨p, _, a, e, h, rfl, rfl, ha⟩
 | .has _ _ _, _, ⟨p, a, b, e, h, ha, hb⟩ => ⟨p, _, a, e, h, rfl, rfl, ha⟩
theorem kl_two {H : Hp} {xs : List V} {a b : Kd} (h : KL H xs [a, b]) : ∃ x y, xs = [x, y] ∧ IsK H a x ∧ IsK H b y := by
 cases h with
 | cons r t =>
  cases t with
  | cons r2 t2 => cases t2; exact ⟨_, _, rfl, r, r2⟩
theorem kl_three {H : Hp} {xs : List V} {a b c : Kd} (h : KL H xs [a, b, c]) : ∃ x y z, xs = [x, y, z] ∧ IsK H a x ∧ IsK H b y ∧ IsK H c z := by
 cases h with
 | cons r t =>
  obtain ⟨y, z, rfl, h1, h2⟩ := kl_two t
  exact ⟨_, y, z, rfl, r, h1, h2⟩
theorem isF_new {H : Hp} {x k : Kd} {a b : V} {p : Addr} (hp : H p = none) (ha : IsK H x a) (hb : IsK H k b) : IsF (upd H p (.tup [.str "is", a, b])) (.is x k) (.ref p) :=
 ⟨p, a, b, rfl, upd_same, ha.mono (tups_new hp), hb.mono (tups_new hp)⟩
theorem hasF_new {H : Hp} {x y : Kd} {t : Str} {a b : V} {p : Addr} (hp : H p = none) (ha : IsK H x a) (hb : IsK H y b) : IsF (upd H p (.tup [.str "has", a, .str t, b])) (.has x t y) (.ref p) :=
 ⟨p, a, b, rfl, upd_same, ha.mono (tups_new hp), hb.mono (tups_new hp)⟩
theorem hs_is (f : Fa) : decide (V.str f.hs = V.str "is") = (match f with | .is _ _ => true | _ => false) := by
 cases f with
 | is x k => exact decide_eq_true rfl
 | has x t y => rw [dec_str]; exact beq_eq_false_iff_ne.mpr (by show (Str.ofString "has" : Str) ≠ Str.ofString "is"; decide +kernel)
theorem hs_has (f : Fa) : decide (V.str f.hs = V.str "has") = (match f with | .has _ _ _ => true | _ => false) := by
 cases f with
 | has x t y => exact decide_eq_true rfl
 | is x k => rw [dec_str]; exact beq_eq_false_iff_ne.mpr (by show (Str.ofString "is" : Str) ≠ Str.ofString "has"; decide +kernel)
theorem has_is : decide (V.str (Str.ofString "has") = V.str (Str.ofString "is")) = false := hs_is (.has nothK "" nothK)
theorem is_has : decide (V.str (Str.ofString "is") = V.str (Str.ofString "has")) = false := hs_has (.is nothK nothK)
theorem str_self (z : Str) : decide (V.str z = V.str z) = true := decide_eq_true rfl
def ofForm : Fa → Str → Bool
 | .is _ (.two _ _), z => decide (V.str "both" = V.str z)
 | .is _ (.som _ _), z => decide (V.str "some" = V.str z)
 | _, _ => false
def spOfForm : Sp := fun vs H Q _ => ∃ (v : V) (f : Fa) (z : Str), vs = [v, .str z] ∧ IsF H f v ∧ Q (.bl (ofForm f z)) H
section
variable {P : Program} {w : World} {K : PySem.W.Frag} {mg : Str → Option Value} {base : Heap} {f g e d a1 a2 a3 a4 aW aF : Addr} {fd gd' ed dd d1 d2 d3 d4 : FuncData}
theorem scOfForm : FnScope ["fact", "form"] ["fact", "form"] (defScope sOfForm) := ⟨rfl, rfl, rfl, by decide +kernel, rfl, by decide +kernel, by decide +kernel⟩
theorem ok_ofForm (F : Fun K "is_of_form" "is_of_form" sOfForm f fd) (mi : mg "isinstance" = none) (ms : mg "str" = none) : FnOk P w K mg base CX0 1 f fd ["fact", "form"] spOfForm := by
 refine F.ok scOfForm (fun vs H Q E h => ?_) (fun cdv A outer s H vs Q E hr h => ?_)
 ·obtain ⟨v, f, z, rfl, _⟩ := h; rfl
 obtain ⟨v, f, z, rfl, hf, q⟩ := h
 refine ⟨_, @pss_one _ _ _ (by exact @ps_ret _ _ _ _ (pe_and (pe_cmpR op_eq (pe_ix ix_tup (pv 0) pe_int (fun _ _ => rfl)) pe_str (nomark _)) (pe_and (pe_not (pe_callB call_isinst rfl mi PyProof.Rows.boot_isinstance (pa_cons (pe_ix ix_tup (pv 0) pe_int (fun _ _ => rfl)) (pa_cons (pe_bltn (v := .ty "str") rfl ms PyProof.Rows.boot_str rfl) pa_nil)))) (pe_one (pe_cmpR op_eq (pe_ix ix_tup (pe_ix ix_tup (pv 0) pe_int (fun _ _ => rfl)) pe_int (fun _ _ => rfl)) (pv 1) (nomark _)))))), ?_⟩
 cases f with
 | has x t y =>
  obtain ⟨p, a, b, rfl, hp, ha, hb⟩ := hf
  refine ⟨_, rfl, p, _, 0, _, rfl, rfl, SqT.of hp, atI_nat (j := 0) rfl, rfl, _, rfl, ?_⟩
  rw [has_is]
  exact iteF q
 | is x k =>
  obtain ⟨p, a, b, rfl, hp, ha, hb⟩ := hf
  refine ⟨_, rfl, p, _, 0, _, rfl, rfl, SqT.of hp, atI_nat (j := 0) rfl, rfl, _, rfl, ?_⟩
  rw [str_self]
  refine iteT ?_
  refine ⟨_, rfl, p, _, 2, _, rfl, rfl, SqT.of hp, atI_nat (j := 2) rfl, ?_⟩
  cases k with
  | nm y =>
   obtain rfl : b = .str y := hb
   exact ⟨_, _, _, true, rfl, TyOf.str y, kit_str_str K, _, rfl, _, rfl, iteF q⟩
  | two c d' =>
   obtain ⟨p2, x1, y1, rfl, h2, _, _⟩ := hb
   refine ⟨_, _, _, false, rfl, TyOf.tup h2, kit_tup_str K, _, rfl, _, rfl, iteT ?_⟩
   exact ⟨_, rfl, p, _, 2, _, rfl, rfl, SqT.of hp, atI_nat (j := 2) rfl, p2, _, 0, _, rfl, rfl, SqT.of h2, atI_nat (j := 0) rfl, _, rfl, rfl, q⟩
  | som r c =>
   obtain ⟨p2, y1, rfl, h2, _⟩ := hb
   refine ⟨_, _, _, false, rfl, TyOf.tup h2, kit_tup_str K, _, rfl, _, rfl, iteT ?_⟩
   exact ⟨_, rfl, p, _, 2, _, rfl, rfl, SqT.of hp, atI_nat (j := 2) rfl, p2, _, 0, _, rfl, rfl, SqT.of h2, atI_nat (j := 0) rfl, _, rfl, rfl, q⟩
theorem scMThing : FnScope ["told", "saying"] ["told", "saying"] (defScope sMThing) := ⟨rfl, rfl, rfl, by decide +kernel, rfl, by decide +kernel, by decide +kernel⟩
theorem ok_mThing (F : Fun K "made_thing" "made_thing" sMThing f fd) : FnOk P w K mg base CX0 1 f fd ["told", "saying"] (spM .thing) := by
 refine F.ok scMThing (fun vs H Q E h => ?_) (fun cdv A outer s H vs Q E hr h => ?_)
 ·obtain ⟨l, tl, fs, sv, sy, rfl, _⟩ := h; rfl
 obtain ⟨l, tl, fs, sv, sy, rfl, hl, hfs, hn, hlo, hs, hby, q⟩ := h
 refine ⟨_, @pss_one _ _ _ (by exact @ps_ret _ _ _ _ (@pe_tup _ _ _ _ _ (pa_cons pe_str (pa_cons (pe_ix ix_tup (pv 1) pe_int (fun _ _ => rfl)) (pa_cons (pe_ix ix_tup (pv 1) pe_int (fun _ _ => rfl)) pa_nil))))), ?_⟩
 obtain ⟨sy', rfl, hd⟩ := hby rfl
 obtain ⟨rfl, rfl⟩ := fl0 hfs hn
 obtain ⟨_, _, rfl⟩ := hd_thing hd
 obtain ⟨p, xs, rfl, hp, hk⟩ := hs
 obtain ⟨x1, x2, rfl, k1, k2⟩ := kl_two hk
 refine ⟨_, rfl, p, _, 1, _, rfl, rfl, SqT.of hp, atI_nat (j := 1) rfl, _, rfl, p, _, 2, _, rfl, rfl, SqT.of hp, atI_nat (j := 2) rfl, le3, fun t ht => ?_⟩
 exact q _ _ (same_new ht _) (isF_new ht k1 k2)
theorem scMTied : FnScope ["told", "saying"] ["told", "saying"] (defScope sMTied) := ⟨rfl, rfl, rfl, by decide +kernel, rfl, by decide +kernel, by decide +kernel⟩
theorem ok_mTied (F : Fun K "made_tied" "made_tied" sMTied f fd) : FnOk P w K mg base CX0 1 f fd ["told", "saying"] (spM .tied) := by
 refine F.ok scMTied (fun vs H Q E h => ?_) (fun cdv A outer s H vs Q E hr h => ?_)
 ·obtain ⟨l, tl, fs, sv, sy, rfl, _⟩ := h; rfl
 obtain ⟨l, tl, fs, sv, sy, rfl, hl, hfs, hn, hlo, hs, hby, q⟩ := h
 refine ⟨_, @pss_one _ _ _ (by exact @ps_ret _ _ _ _ (@pe_tup _ _ _ _ _ (pa_cons pe_str (pa_cons (pe_ix ix_tup (pv 1) pe_int (fun _ _ => rfl)) (pa_cons (pe_ix ix_tup (pv 1) pe_int (fun _ _ => rfl)) (pa_cons (pe_ix ix_tup (pv 1) pe_int (fun _ _ => rfl)) pa_nil)))))), ?_⟩
 obtain ⟨sy', rfl, hd⟩ := hby rfl
 obtain ⟨rfl, rfl⟩ := fl0 hfs hn
 obtain ⟨_, _, _, rfl⟩ := hd_tied hd
 obtain ⟨p, xs, rfl, hp, hk⟩ := hs
 obtain ⟨x1, x2, x3, rfl, k1, k2, k3⟩ := kl_three hk
 cases k2
 refine ⟨_, rfl, p, _, 1, _, rfl, rfl, SqT.of hp, atI_nat (j := 1) rfl, _, rfl, p, _, 2, _, rfl, rfl, SqT.of hp, atI_nat (j := 2) rfl, _, rfl, p, _, 3, _, rfl, rfl, SqT.of hp, atI_nat (j := 3) rfl, le4, fun t ht => ?_⟩
 exact q _ _ (same_new ht _) (hasF_new ht k1 k3)
theorem scMEvery : FnScope ["told", "saying", "x"] ["told", "saying"] (defScope sMEvery) := ⟨rfl, rfl, rfl, by decide +kernel, rfl, by decide +kernel, by decide +kernel⟩
theorem ok_mEvery (F : Fun K "made_every" "made_every" sMEvery f fd) : FnOk P w K mg base CX0 1 f fd ["told", "saying"] (spM .every) := by
 refine F.ok scMEvery (fun vs H Q E h => ?_) (fun cdv A outer s H vs Q E hr h => ?_)
 ·obtain ⟨l, tl, fs, sv, sy, rfl, _⟩ := h; rfl
 obtain ⟨l, tl, fs, sv, sy, rfl, hl, hfs, hn, hlo, hs, hby, q⟩ := h
 refine ⟨_, @pss_cons _ _ _ _ _ (by exact ps_set (i := 2) scMEvery.nd rfl (Or.inl rfl) (pe_ix ix_tup (pe_ix ix_list (pv 0) pe_int (fun _ _ => rfl)) pe_int (fun _ _ => rfl)))
  (@pss_cons _ _ _ _ _ (by exact ps_if (pt_cmpR (op_neX hr.units) (pe_ix ix_list (pv 0) pe_int (fun _ _ => rfl)) (@pe_tup _ _ _ _ _ (pa_cons pe_str (pa_cons (pv 2) (pa_cons (pe_ix ix_tup (pv 1) pe_int (fun _ _ => rfl)) pa_nil)))) (nomark _)) (@pss_one _ _ _ (by exact @ps_ret _ _ _ _ pe_non)) pss_nil)
  (@pss_one _ _ _ (by exact @ps_ret _ _ _ _ (@pe_tup _ _ _ _ _ (pa_cons pe_str (pa_cons (pv 2) (pa_cons (pe_ix ix_tup (pv 1) pe_int (fun _ _ => rfl)) pa_nil))))))), ?_⟩
 obtain ⟨sy', rfl, hd⟩ := hby rfl
 obtain ⟨v, f0, rfl, rfl, hf⟩ := fl1 hfs hn
 have lo := hlo f0 (by simp)
 obtain ⟨ka, kb, rfl⟩ := hd_every hd
 obtain ⟨p, xs, rfl, hp, hk⟩ := hs
 obtain ⟨x1, x2, rfl, k1, k2⟩ := kl_two hk
 obtain ⟨pf, ys, a, rfl, hpf, _, e1, ka'⟩ := hf.sh
 refine ⟨_, rfl, l, _, 0, _, rfl, rfl, SqL.of hl, atI_nat (j := 0) rfl, pf, _, 1, _, rfl, rfl, SqT.of hpf, atI_nat (j := 1) e1, ?_⟩
 refine ⟨_, rfl, l, _, 0, _, rfl, rfl, SqL.of hl, atI_nat (j := 0) rfl, _, rfl, _, rfl, p, _, 1, _, rfl, rfl, SqT.of hp, atI_nat (j := 1) rfl, le3, fun t ht => ?_⟩
 have s1 := same_new ht (.tup [.str "is", a, x1])
 refine ⟨f0.tx, (Fa.is f0.x ka).tx, (hf.mono s1.tups).xa, (isF_new ht ka' k1).xa, Fa.dp60 lo, _, rfl, ?_⟩
 rw [Fa.dec]
 refine ite2 (fun c => ?_) (fun c => ?_)
 ·have c' : ¬ f0 = .is f0.x ka := by simpa using c
  refine q _ _ s1 ?_
  show IsFo _ (if f0 = .is f0.x ka then some (.is f0.x kb) else none) _
  rw [if_neg c']; rfl
 ·have c' : f0 = .is f0.x ka := by simpa using c
  refine ⟨_, rfl, _, rfl, p, _, 2, _, rfl, rfl, SqT.of (s1 _ _ hp), atI_nat (j := 2) rfl, le3, fun t2 ht2 => ?_⟩
  refine q _ _ (s1.trans (same_new ht2 _)) ?_
  show IsFo _ (if f0 = .is f0.x ka then some (.is f0.x kb) else none) _
  rw [if_pos c']
  exact isF_new ht2 (ka'.mono s1.tups) (k2.mono s1.tups)
theorem scMFirst : FnScope ["told", "saying"] ["told", "saying"] (defScope sMFirst) := ⟨rfl, rfl, rfl, by decide +kernel, rfl, by decide +kernel, by decide +kernel⟩
theorem ok_mFirst (F : Fun K "made_first" "made_first" sMFirst f fd) (Gof : FnOk P w K mg base CX0 1 a1 d1 ["fact", "form"] spOfForm) (bGof : Binds K d1 ["fact", "form"] []) (kGof : PySem.W.keepIn K (.ref a1) = true) (mGof : mg "is_of_form" = some (.ref a1)) :
  FnOk P w K mg base CX0 2 f fd ["told", "saying"] (spM .first) := by
 refine F.ok scMFirst (fun vs H Q E h => ?_) (fun cdv A outer s H vs Q E hr h => ?_)
 ·obtain ⟨l, tl, fs, sv, sy, rfl, _⟩ := h; rfl
 obtain ⟨l, tl, fs, sv, sy, rfl, hl, hfs, hn, hlo, hs, hby, q⟩ := h
 have hrof := hr
 refine ⟨_, @pss_cons _ _ _ _ _ (by exact ps_if (pt_not (pt_val (pe_call Gof hrof rfl mGof kGof bGof .nil pass0 (pa_cons (pe_ix ix_list (pv 0) pe_int (fun _ _ => rfl)) (pa_cons pe_str pa_nil))))) (@pss_one _ _ _ (by exact @ps_ret _ _ _ _ pe_non)) pss_nil)
  (@pss_one _ _ _ (by exact @ps_ret _ _ _ _ (@pe_tup _ _ _ _ _ (pa_cons pe_str (pa_cons (pe_ix ix_tup (pe_ix ix_list (pv 0) pe_int (fun _ _ => rfl)) pe_int (fun _ _ => rfl)) (pa_cons (pe_ix ix_tup (pe_ix ix_tup (pe_ix ix_list (pv 0) pe_int (fun _ _ => rfl)) pe_int (fun _ _ => rfl)) pe_int (fun _ _ => rfl)) pa_nil)))))), ?_⟩
 obtain ⟨v, f0, rfl, rfl, hf⟩ := fl1 hfs hn
 refine ⟨_, rfl, l, _, 0, _, rfl, rfl, SqL.of hl, atI_nat (j := 0) rfl, v, f0, "both", rfl, hf, _, rfl, ?_⟩
 have no : ofForm f0 "both" = false → made .first [f0] sy = none := fun e => by
  cases f0 with
  | has x t y => rfl
  | is x k =>
   cases k with
   | two a b => exact absurd e (by show ¬ decide (V.str "both" = V.str "both") = false; simp)
   | _ => rfl
 cases c : ofForm f0 "both" with
 | false => exact iteT (q _ _ (Same.refl H) (by rw [no c]; rfl))
 | true =>
  refine iteF ?_
  cases f0 with
  | has x t y => cases c
  | is x k =>
   cases k with
   | nm y => cases c
   | som r y => exact absurd c (by show ¬ decide (V.str "some" = V.str "both") = true; rw [dec_str, beq_eq_false_iff_ne.mpr (Ne.symm both_ne_some)]; exact Bool.false_ne_true)
   | two ka kb =>
    obtain ⟨p, a, b, rfl, hp, ha, hb⟩ := hf
    obtain ⟨p2, x1, y1, rfl, h2, k1, k2⟩ := hb
    refine ⟨_, rfl, l, _, 0, _, rfl, rfl, SqL.of hl, atI_nat (j := 0) rfl, p, _, 1, _, rfl, rfl, SqT.of hp, atI_nat (j := 1) rfl, _, rfl, l, _, 0, _, rfl, rfl, SqL.of hl, atI_nat (j := 0) rfl, p, _, 2, _, rfl, rfl, SqT.of hp, atI_nat (j := 2) rfl, p2, _, 1, _, rfl, rfl, SqT.of h2, atI_nat (j := 1) rfl, le3, fun t ht => ?_⟩
    exact q _ _ (same_new ht _) (isF_new ht ha k1)
theorem scMSecond : FnScope ["told", "saying"] ["told", "saying"] (defScope sMSecond) := ⟨rfl, rfl, rfl, by decide +kernel, rfl, by decide +kernel, by decide +kernel⟩
theorem ok_mSecond (F : Fun K "made_second" "made_second" sMSecond f fd) (Gof : FnOk P w K mg base CX0 1 a1 d1 ["fact", "form"] spOfForm) (bGof : Binds K d1 ["fact", "form"] []) (kGof : PySem.W.keepIn K (.ref a1) = true) (mGof : mg "is_of_form" = some (.ref a1)) :
  FnOk P w K mg base CX0 2 f fd ["told", "saying"] (spM .second) := by
 refine F.ok scMSecond (fun vs H Q E h => ?_) (fun cdv A outer s H vs Q E hr h => ?_)
 ·obtain ⟨l, tl, fs, sv, sy, rfl, _⟩ := h; rfl
 obtain ⟨l, tl, fs, sv, sy, rfl, hl, hfs, hn, hlo, hs, hby, q⟩ := h
 have hrof := hr
 refine ⟨_, @pss_cons _ _ _ _ _ (by exact ps_if (pt_not (pt_val (pe_call Gof hrof rfl mGof kGof bGof .nil pass0 (pa_cons (pe_ix ix_list (pv 0) pe_int (fun _ _ => rfl)) (pa_cons pe_str pa_nil))))) (@pss_one _ _ _ (by exact @ps_ret _ _ _ _ pe_non)) pss_nil)
  (@pss_one _ _ _ (by exact @ps_ret _ _ _ _ (@pe_tup _ _ _ _ _ (pa_cons pe_str (pa_cons (pe_ix ix_tup (pe_ix ix_list (pv 0) pe_int (fun _ _ => rfl)) pe_int (fun _ _ => rfl)) (pa_cons (pe_ix ix_tup (pe_ix ix_tup (pe_ix ix_list (pv 0) pe_int (fun _ _ => rfl)) pe_int (fun _ _ => rfl)) pe_int (fun _ _ => rfl)) pa_nil)))))), ?_⟩
 obtain ⟨v, f0, rfl, rfl, hf⟩ := fl1 hfs hn
 refine ⟨_, rfl, l, _, 0, _, rfl, rfl, SqL.of hl, atI_nat (j := 0) rfl, v, f0, "both", rfl, hf, _, rfl, ?_⟩
 have no : ofForm f0 "both" = false → made .second [f0] sy = none := fun e => by
  cases f0 with
  | has x t y => rfl
  | is x k =>
   cases k with
   | two a b => exact absurd e (by show ¬ decide (V.str "both" = V.str "both") = false; simp)
   | _ => rfl
 cases c : ofForm f0 "both" with
 | false => exact iteT (q _ _ (Same.refl H) (by rw [no c]; rfl))
 | true =>
  refine iteF ?_
  cases f0 with
  | has x t y => cases c
  | is x k =>
   cases k with
   | nm y => cases c
   | som r y => exact absurd c (by show ¬ decide (V.str "some" = V.str "both") = true; rw [dec_str, beq_eq_false_iff_ne.mpr (Ne.symm both_ne_some)]; exact Bool.false_ne_true)
   | two ka kb =>
    obtain ⟨p, a, b, rfl, hp, ha, hb⟩ := hf
    obtain ⟨p2, x1, y1, rfl, h2, k1, k2⟩ := hb
    refine ⟨_, rfl, l, _, 0, _, rfl, rfl, SqL.of hl, atI_nat (j := 0) rfl, p, _, 1, _, rfl, rfl, SqT.of hp, atI_nat (j := 1) rfl, _, rfl, l, _, 0, _, rfl, rfl, SqL.of hl, atI_nat (j := 0) rfl, p, _, 2, _, rfl, rfl, SqT.of hp, atI_nat (j := 2) rfl, p2, _, 2, _, rfl, rfl, SqT.of h2, atI_nat (j := 2) rfl, le3, fun t ht => ?_⟩
    exact q _ _ (same_new ht _) (isF_new ht ha k2)
theorem scMSome : FnScope ["told", "saying"] ["told", "saying"] (defScope sMSome) := ⟨rfl, rfl, rfl, by decide +kernel, rfl, by decide +kernel, by decide +kernel⟩
theorem ok_mSome (F : Fun K "made_some" "made_some" sMSome f fd) (Gof : FnOk P w K mg base CX0 1 a1 d1 ["fact", "form"] spOfForm) (bGof : Binds K d1 ["fact", "form"] []) (kGof : PySem.W.keepIn K (.ref a1) = true) (mGof : mg "is_of_form" = some (.ref a1)) :
  FnOk P w K mg base CX0 2 f fd ["told", "saying"] (spM .some) := by
 refine F.ok scMSome (fun vs H Q E h => ?_) (fun cdv A outer s H vs Q E hr h => ?_)
 ·obtain ⟨l, tl, fs, sv, sy, rfl, _⟩ := h; rfl
 obtain ⟨l, tl, fs, sv, sy, rfl, hl, hfs, hn, hlo, hs, hby, q⟩ := h
 have hrof := hr
 refine ⟨_, @pss_cons _ _ _ _ _ (by exact ps_if (pt_not (pt_val (pe_call Gof hrof rfl mGof kGof bGof .nil pass0 (pa_cons (pe_ix ix_list (pv 0) pe_int (fun _ _ => rfl)) (pa_cons pe_str pa_nil))))) (@pss_one _ _ _ (by exact @ps_ret _ _ _ _ pe_non)) pss_nil)
  (@pss_one _ _ _ (by exact @ps_ret _ _ _ _ (@pe_tup _ _ _ _ _ (pa_cons pe_str (pa_cons (pe_ix ix_tup (pe_ix ix_list (pv 0) pe_int (fun _ _ => rfl)) pe_int (fun _ _ => rfl)) (pa_cons (pe_ix ix_tup (pe_ix ix_tup (pe_ix ix_list (pv 0) pe_int (fun _ _ => rfl)) pe_int (fun _ _ => rfl)) pe_int (fun _ _ => rfl)) (pa_cons (pe_ix ix_tup (pe_ix ix_tup (pe_ix ix_list (pv 0) pe_int (fun _ _ => rfl)) pe_int (fun _ _ => rfl)) pe_int (fun _ _ => rfl)) pa_nil))))))), ?_⟩
 obtain ⟨v, f0, rfl, rfl, hf⟩ := fl1 hfs hn
 refine ⟨_, rfl, l, _, 0, _, rfl, rfl, SqL.of hl, atI_nat (j := 0) rfl, v, f0, "some", rfl, hf, _, rfl, ?_⟩
 have no : ofForm f0 "some" = false → made .some [f0] sy = none := fun e => by
  cases f0 with
  | has x t y => rfl
  | is x k =>
   cases k with
   | som a b => exact absurd e (by show ¬ decide (V.str "some" = V.str "some") = false; simp)
   | _ => rfl
 cases c : ofForm f0 "some" with
 | false => exact iteT (q _ _ (Same.refl H) (by rw [no c]; rfl))
 | true =>
  refine iteF ?_
  cases f0 with
  | has x t y => cases c
  | is x k =>
   cases k with
   | nm y => cases c
   | two ka kb => exact absurd c (by show ¬ decide (V.str "both" = V.str "some") = true; rw [dec_str, beq_eq_false_iff_ne.mpr both_ne_some]; exact Bool.false_ne_true)
   | som r y =>
    obtain ⟨p, a, b, rfl, hp, ha, hb⟩ := hf
    obtain ⟨p2, y1, rfl, h2, k2⟩ := hb
    refine ⟨_, rfl, l, _, 0, _, rfl, rfl, SqL.of hl, atI_nat (j := 0) rfl, p, _, 1, _, rfl, rfl, SqT.of hp, atI_nat (j := 1) rfl, _, rfl, l, _, 0, _, rfl, rfl, SqL.of hl, atI_nat (j := 0) rfl, p, _, 2, _, rfl, rfl, SqT.of hp, atI_nat (j := 2) rfl, p2, _, 1, _, rfl, rfl, SqT.of h2, atI_nat (j := 1) rfl,
     _, rfl, l, _, 0, _, rfl, rfl, SqL.of hl, atI_nat (j := 0) rfl, p, _, 2, _, rfl, rfl, SqT.of hp, atI_nat (j := 2) rfl, p2, _, 2, _, rfl, rfl, SqT.of h2, atI_nat (j := 2) rfl, le4, fun t ht => ?_⟩
    exact q _ _ (same_new ht _) (hasF_new ht ha k2)
end
end K17
namespace K17
open PySem L2
section
variable {P : Program} {w : World} {K : PySem.W.Frag} {mg : Str → Option Value} {base : Heap} {f g e d a1 a2 a3 a4 aW aF : Addr} {fd gd' ed dd d1 d2 d3 d4 : FuncData}
theorem scMWithin : FnScope ["told", "saying", "fact"] ["told", "saying"] (defScope sMWithin) := ⟨rfl, rfl, rfl, by decide +kernel, rfl, by decide +kernel, by decide +kernel⟩
theorem ok_mWithin (F : Fun K "made_within" "made_within" sMWithin f fd) : FnOk P w K mg base CX0 1 f fd ["told", "saying"] (spM .within) := by
 refine F.ok scMWithin (fun vs H Q E h => ?_) (fun cdv A outer s H vs Q E hr h => ?_)
 ·obtain ⟨l, tl, fs, sv, sy, rfl, _⟩ := h; rfl
 obtain ⟨l, tl, fs, sv, sy, rfl, hl, hfs, hn, hlo, hs, hby, q⟩ := h
 refine ⟨_, @pss_cons _ _ _ _ _ (by exact ps_set (i := 2) scMWithin.nd rfl (Or.inl rfl) (pe_ix ix_list (pv 0) pe_int (fun _ _ => rfl)))
  (@pss_cons _ _ _ _ _ (by exact ps_if (PW.pt (pw_or (pt_cmpR op_ne (pe_ix ix_tup (pv 2) pe_int (fun _ _ => rfl)) pe_str (nomark _)) (pw_or1 (pt_cmpR op_ne (pe_ix ix_tup (pv 2) pe_int (fun _ _ => rfl)) (pe_ix ix_tup (pv 1) pe_int (fun _ _ => rfl)) (nomark _))))) (@pss_one _ _ _ (by exact @ps_ret _ _ _ _ pe_non)) pss_nil)
  (@pss_one _ _ _ (by exact @ps_ret _ _ _ _ (@pe_tup _ _ _ _ _ (pa_cons pe_str (pa_cons (pe_ix ix_tup (pv 2) pe_int (fun _ _ => rfl)) (pa_cons (pe_ix ix_tup (pv 1) pe_int (fun _ _ => rfl)) (pa_cons (pe_ix ix_tup (pv 2) pe_int (fun _ _ => rfl)) pa_nil)))))))), ?_⟩
 obtain ⟨sy', rfl, hd⟩ := hby rfl
 obtain ⟨v, f0, rfl, rfl, hf⟩ := fl1 hfs hn
 obtain ⟨r, s', rfl⟩ := hd_within hd
 obtain ⟨p, xs, rfl, hp, hk⟩ := hs
 obtain ⟨x1, x2, rfl, k1, k2⟩ := kl_two hk
 cases k1; cases k2
 refine ⟨_, rfl, l, _, 0, _, rfl, rfl, SqL.of hl, atI_nat (j := 0) rfl, ?_⟩
 cases f0 with
 | is x k =>
  obtain ⟨pf, a, b, rfl, hpf, ha, hb⟩ := hf
  refine ⟨_, rfl, pf, _, 0, _, rfl, rfl, SqT.of hpf, atI_nat (j := 0) rfl, rfl, _, rfl, ?_⟩
  rw [is_has]
  exact iteT (iteT (q _ _ (Same.refl H) rfl))
 | has x t y =>
  obtain ⟨pf, a, b, rfl, hpf, ha, hb⟩ := hf
  refine ⟨_, rfl, pf, _, 0, _, rfl, rfl, SqT.of hpf, atI_nat (j := 0) rfl, rfl, _, rfl, ?_⟩
  rw [str_self]
  refine iteF ⟨_, rfl, pf, _, 2, _, rfl, rfl, SqT.of hpf, atI_nat (j := 2) rfl, _, rfl, p, _, 1, _, rfl, rfl, SqT.of hp, atI_nat (j := 1) rfl, rfl, _, rfl, ?_⟩
  have em : made .within [.has x t y] (some (.within r s')) = if t = r then some (.has x s' y) else none := rfl
  rw [em] at q
  refine ite2 (fun c => ?_) (fun c => ?_)
  ·have c' : ¬ t = r := by simpa using c
   exact q _ _ (Same.refl H) (by rw [if_neg c']; rfl)
  ·have c' : t = r := by simpa using c
   refine ⟨_, rfl, pf, _, 1, _, rfl, rfl, SqT.of hpf, atI_nat (j := 1) rfl, _, rfl, p, _, 2, _, rfl, rfl, SqT.of hp, atI_nat (j := 2) rfl, _, rfl, pf, _, 3, _, rfl, rfl, SqT.of hpf, atI_nat (j := 3) rfl, le4, fun u hu => ?_⟩
   exact q _ _ (same_new hu _) (by rw [if_pos c']; exact hasF_new hu ha hb)
theorem scMNo : FnScope ["told", "saying", "x"] ["told", "saying"] (defScope sMNo) := ⟨rfl, rfl, rfl, by decide +kernel, rfl, by decide +kernel, by decide +kernel⟩
theorem ok_mNo (F : Fun K "made_no" "made_no" sMNo f fd) : FnOk P w K mg base CX0 1 f fd ["told", "saying"] (spM .no) := by
 refine F.ok scMNo (fun vs H Q E h => ?_) (fun cdv A outer s H vs Q E hr h => ?_)
 ·obtain ⟨l, tl, fs, sv, sy, rfl, _⟩ := h; rfl
 obtain ⟨l, tl, fs, sv, sy, rfl, hl, hfs, hn, hlo, hs, hby, q⟩ := h
 refine ⟨_, @pss_cons _ _ _ _ _ (by exact ps_set (i := 2) scMNo.nd rfl (Or.inl rfl) (pe_ix ix_tup (pe_ix ix_list (pv 0) pe_int (fun _ _ => rfl)) pe_int (fun _ _ => rfl)))
  (@pss_cons _ _ _ _ _ (by exact ps_if (pt_cmpR (op_neX hr.units) (pv 0) (pe_lst (@pa_consN _ _ _ _ _ (@pe_tup _ _ _ _ _ (pa_cons pe_str (pa_cons (pv 2) (pa_cons (pe_ix ix_tup (pv 1) pe_int (fun _ _ => rfl)) pa_nil)))) (@pa_consN _ _ _ _ _ (@pe_tup _ _ _ _ _ (pa_cons pe_str (pa_cons (pv 2) (pa_cons (pe_ix ix_tup (pv 1) pe_int (fun _ _ => rfl)) pa_nil)))) pa_nil rfl) rfl)) (nomark _)) (@pss_one _ _ _ (by exact @ps_ret _ _ _ _ pe_non)) pss_nil)
  (@pss_one _ _ _ (by exact @ps_ret _ _ _ _ (@pe_tup _ _ _ _ _ (pa_cons pe_str (pa_cons (pv 2) (pa_cons pe_str pa_nil))))))), ?_⟩
 obtain ⟨sy', rfl, hd⟩ := hby rfl
 obtain ⟨v, u, f0, g0, rfl, rfl, hf, hg⟩ := fl2 hfs hn
 have lf := hlo f0 (by simp)
 have lg := hlo g0 (by simp)
 obtain ⟨ka, kb, rfl⟩ := hd_no hd
 obtain ⟨p, xs, rfl, hp, hk⟩ := hs
 obtain ⟨x1, x2, rfl, k1, k2⟩ := kl_two hk
 obtain ⟨pf, ys, a, rfl, hpf, _, e1, ka'⟩ := hf.sh
 refine ⟨_, rfl, l, _, 0, _, rfl, rfl, SqL.of hl, atI_nat (j := 0) rfl, pf, _, 1, _, rfl, rfl, SqT.of hpf, atI_nat (j := 1) e1, ?_⟩
 refine ⟨_, rfl, _, rfl, _, rfl, p, _, 1, _, rfl, rfl, SqT.of hp, atI_nat (j := 1) rfl, le3, fun t ht => ?_⟩
 have s1 := same_new ht (.tup [.str "is", a, x1])
 refine ⟨_, rfl, _, rfl, p, _, 2, _, rfl, rfl, SqT.of (s1 _ _ hp), atI_nat (j := 2) rfl, le3, fun t2 ht2 => ?_⟩
 have s2 := same_new ht2 (.tup [.str "is", a, x2])
 refine ⟨le2, fun t3 ht3 => ?_⟩
 have s3 := same_new ht3 (.lst [.ref t, .ref t2])
 have s123 := (s1.trans s2).trans s3
 have i1 := (isF_new ht ka' k1).mono (s2.trans s3).tups
 have i2 := (isF_new ht2 (ka'.mono s1.tups) (k2.mono s1.tups)).mono s3.tups
 refine ⟨.lst [f0.tx, g0.tx], .lst [(Fa.is f0.x ka).tx, (Fa.is f0.x kb).tx], ⟨l, _, rfl, s123 _ _ hl, _, _, rfl, (hf.mono s123.tups).xa, _, _, rfl, (hg.mono s123.tups).xa, rfl⟩, ⟨t3, _, rfl, upd_same, _, _, rfl, i1.xa, _, _, rfl, i2.xa, rfl⟩, ?_, _, rfl, ?_⟩
 ·have h1 := Fa.dp lf
  have h2 := Fa.dp lg
  show 1 + max f0.tx.dp (max g0.tx.dp 0) ≤ 60
  omega
 have ed : decide (Tx.lst [f0.tx, g0.tx] = Tx.lst [(Fa.is f0.x ka).tx, (Fa.is f0.x kb).tx]) = decide (f0 = .is f0.x ka ∧ g0 = .is f0.x kb) := by
  rw [decide_eq_decide]
  constructor
  ·intro h
   injection h with h
   injection h with h1 h
   injection h with h2 _
   exact ⟨Fa.tx_inj h1, Fa.tx_inj h2⟩
  ·rintro ⟨h1, h2⟩
   rw [← h1, ← h2]
 have em : made .no [f0, g0] (some (.no ka kb)) = if f0 = .is f0.x ka ∧ g0 = .is f0.x kb then some (.is f0.x nothK) else none := rfl
 rw [em] at q
 rw [ed]
 refine ite2 (fun c => ?_) (fun c => ?_)
 ·have c' : ¬ (f0 = .is f0.x ka ∧ g0 = .is f0.x kb) := by
   intro z
   rw [decide_eq_true z] at c
   cases c
  exact q _ _ s123 (by rw [if_neg c']; rfl)
 ·have c' : f0 = .is f0.x ka ∧ g0 = .is f0.x kb := by
   by_cases z : f0 = .is f0.x ka ∧ g0 = .is f0.x kb
   ·exact z
   ·rw [decide_eq_false z] at c; exact absurd rfl c
  refine ⟨_, rfl, le3, fun t4 ht4 => ?_⟩
  exact q _ _ (s123.trans (same_new ht4 _)) (by rw [if_pos c']; exact isF_new ht4 (ka'.mono s123.tups) rfl)
theorem scMBoth : FnScope ["told", "saying", "one", "other"] ["told", "saying"] (defScope sMBoth) := ⟨rfl, rfl, rfl, by decide +kernel, rfl, by decide +kernel, by decide +kernel⟩
theorem ok_mBoth (F : Fun K "made_both" "made_both" sMBoth f fd) : FnOk P w K mg base CX0 1 f fd ["told", "saying"] (spM .both) := by
 refine F.ok scMBoth (fun vs H Q E h => ?_) (fun cdv A outer s H vs Q E hr h => ?_)
 ·obtain ⟨l, tl, fs, sv, sy, rfl, _⟩ := h; rfl
 obtain ⟨l, tl, fs, sv, sy, rfl, hl, hfs, hn, hlo, hs, hby, q⟩ := h
 refine ⟨_, @pss_cons _ _ _ _ _ (by exact ps_asg (pv 0) (pg_lst rfl (pgs_cons (pg_name (i := 2) scMBoth.nd rfl (Or.inl rfl)) (pgs_cons (pg_name (i := 3) scMBoth.nd rfl (Or.inl rfl)) pgs_nil))))
  (@pss_cons _ _ _ _ _ (by exact ps_if (PW.pt (pw_or (pt_cmpR op_ne (pe_ix ix_tup (pv 2) pe_int (fun _ _ => rfl)) pe_str (nomark _)) (pw_or (pt_cmpR op_ne (pe_ix ix_tup (pv 3) pe_int (fun _ _ => rfl)) pe_str (nomark _)) (pw_or1 (pt_cmpR (op_neX hr.units) (pe_ix ix_tup (pv 2) pe_int (fun _ _ => rfl)) (pe_ix ix_tup (pv 3) pe_int (fun _ _ => rfl)) (nomark _)))))) (@pss_one _ _ _ (by exact @ps_ret _ _ _ _ pe_non)) pss_nil)
  (@pss_one _ _ _ (by exact @ps_ret _ _ _ _ (@pe_tup _ _ _ _ _ (@pa_consN _ _ _ _ _ pe_str (@pa_consN _ _ _ _ _ (pe_ix ix_tup (pv 2) pe_int (fun _ _ => rfl)) (@pa_consN _ _ _ _ _ (@pe_tup _ _ _ _ _ (pa_cons pe_str (pa_cons (pe_ix ix_tup (pv 2) pe_int (fun _ _ => rfl)) (pa_cons (pe_ix ix_tup (pv 3) pe_int (fun _ _ => rfl)) pa_nil)))) pa_nil rfl) rfl) rfl))))), ?_⟩
 obtain ⟨v, u, f0, g0, rfl, rfl, hf, hg⟩ := fl2 hfs hn
 have lf := hlo f0 (by simp)
 refine ⟨_, rfl, l, _, rfl, hl, rfl, _, _, rfl, _, _, rfl, rfl, ?_⟩
 cases f0 with
 | has x t y =>
  obtain ⟨pf, a, b, rfl, hpf, ha, hb⟩ := hf
  refine ⟨_, rfl, pf, _, 0, _, rfl, rfl, SqT.of hpf, atI_nat (j := 0) rfl, rfl, _, rfl, ?_⟩
  rw [has_is]
  exact iteT (iteT (q _ _ (Same.refl H) rfl))
 | is x k =>
  obtain ⟨pf, a, b, rfl, hpf, ha, hb⟩ := hf
  refine ⟨_, rfl, pf, _, 0, _, rfl, rfl, SqT.of hpf, atI_nat (j := 0) rfl, rfl, _, rfl, ?_⟩
  rw [str_self]
  refine iteF ?_
  cases g0 with
  | has x2 t2 y2 =>
   obtain ⟨pg, a2, b2, rfl, hpg, ha2, hb2⟩ := hg
   refine ⟨_, rfl, pg, _, 0, _, rfl, rfl, SqT.of hpg, atI_nat (j := 0) rfl, rfl, _, rfl, ?_⟩
   rw [has_is]
   exact iteT (iteT (q _ _ (Same.refl H) rfl))
  | is x2 k2 =>
   obtain ⟨pg, a2, b2, rfl, hpg, ha2, hb2⟩ := hg
   refine ⟨_, rfl, pg, _, 0, _, rfl, rfl, SqT.of hpg, atI_nat (j := 0) rfl, rfl, _, rfl, ?_⟩
   rw [str_self]
   refine iteF ⟨_, rfl, pf, _, 1, _, rfl, rfl, SqT.of hpf, atI_nat (j := 1) rfl, _, rfl, pg, _, 1, _, rfl, rfl, SqT.of hpg, atI_nat (j := 1) rfl, x.tx, x2.tx, ha.xa, ha2.xa, ?_, _, rfl, ?_⟩
   ·have := lf.1
    rw [Kd.tx_dp]; omega
   rw [Kd.dec]
   have em : made .both [.is x k, .is x2 k2] sy = if x = x2 then some (.is x (.two k k2)) else none := rfl
   rw [em] at q
   refine ite2 (fun c => ?_) (fun c => ?_)
   ·have c' : ¬ x = x2 := by simpa using c
    exact q _ _ (Same.refl H) (by rw [if_neg c']; rfl)
   ·have c' : x = x2 := by simpa using c
    refine ⟨_, rfl, pf, _, 1, _, rfl, rfl, SqT.of hpf, atI_nat (j := 1) rfl, _, rfl, pf, _, 2, _, rfl, rfl, SqT.of hpf, atI_nat (j := 2) rfl, _, rfl, pg, _, 2, _, rfl, rfl, SqT.of hpg, atI_nat (j := 2) rfl, le3, fun t1 ht1 => ⟨le3, fun t2 ht2 => ?_⟩⟩
    have s1 := same_new ht1 (.tup [.str "both", b, b2])
    exact q _ _ (s1.trans (same_new ht2 _)) (by rw [if_pos c']; exact isF_new ht2 (ha.mono s1.tups) ⟨t1, b, b2, rfl, upd_same, hb.mono s1.tups, hb2.mono s1.tups⟩)
theorem scMTie : FnScope ["told", "saying", "one", "other"] ["told", "saying"] (defScope sMTie) := ⟨rfl, rfl, rfl, by decide +kernel, rfl, by decide +kernel, by decide +kernel⟩
theorem ok_mTie (F : Fun K "made_tie" "made_tie" sMTie f fd) : FnOk P w K mg base CX0 1 f fd ["told", "saying"] (spM .tie) := by
 refine F.ok scMTie (fun vs H Q E h => ?_) (fun cdv A outer s H vs Q E hr h => ?_)
 ·obtain ⟨l, tl, fs, sv, sy, rfl, _⟩ := h; rfl
 obtain ⟨l, tl, fs, sv, sy, rfl, hl, hfs, hn, hlo, hs, hby, q⟩ := h
 refine ⟨_, @pss_cons _ _ _ _ _ (by exact ps_asg (pv 0) (pg_lst rfl (pgs_cons (pg_name (i := 2) scMTie.nd rfl (Or.inl rfl)) (pgs_cons (pg_name (i := 3) scMTie.nd rfl (Or.inl rfl)) pgs_nil))))
  (@pss_cons _ _ _ _ _ (by exact ps_if (PW.pt (pw_or (pt_cmpR op_ne (pe_ix ix_tup (pv 2) pe_int (fun _ _ => rfl)) pe_str (nomark _)) (pw_or (pt_cmpR op_ne (pe_ix ix_tup (pv 3) pe_int (fun _ _ => rfl)) pe_str (nomark _)) (pw_or1 (pt_cmpR (op_neX hr.units) (pe_ix ix_tup (pv 2) pe_int (fun _ _ => rfl)) (pe_ix ix_tup (pv 3) pe_int (fun _ _ => rfl)) (nomark _)))))) (@pss_one _ _ _ (by exact @ps_ret _ _ _ _ pe_non)) pss_nil)
  (@pss_one _ _ _ (by exact @ps_ret _ _ _ _ (@pe_tup _ _ _ _ _ (@pa_consN _ _ _ _ _ pe_str (@pa_consN _ _ _ _ _ (pe_ix ix_tup (pv 2) pe_int (fun _ _ => rfl)) (@pa_consN _ _ _ _ _ (@pe_tup _ _ _ _ _ (pa_cons pe_str (pa_cons (pe_ix ix_tup (pv 2) pe_int (fun _ _ => rfl)) (pa_cons (pe_ix ix_tup (pv 3) pe_int (fun _ _ => rfl)) pa_nil)))) pa_nil rfl) rfl) rfl))))), ?_⟩
 obtain ⟨v, u, f0, g0, rfl, rfl, hf, hg⟩ := fl2 hfs hn
 have lf := hlo f0 (by simp)
 refine ⟨_, rfl, l, _, rfl, hl, rfl, _, _, rfl, _, _, rfl, rfl, ?_⟩
 cases f0 with
 | is x k =>
  obtain ⟨pf, a, b, rfl, hpf, ha, hb⟩ := hf
  refine ⟨_, rfl, pf, _, 0, _, rfl, rfl, SqT.of hpf, atI_nat (j := 0) rfl, rfl, _, rfl, ?_⟩
  rw [is_has]
  exact iteT (iteT (q _ _ (Same.refl H) (by cases g0 <;> rfl)))
 | has x t y =>
  obtain ⟨pf, a, b, rfl, hpf, ha, hb⟩ := hf
  refine ⟨_, rfl, pf, _, 0, _, rfl, rfl, SqT.of hpf, atI_nat (j := 0) rfl, rfl, _, rfl, ?_⟩
  rw [str_self]
  refine iteF ?_
  cases g0 with
  | has x2 t2 y2 =>
   obtain ⟨pg, a2, b2, rfl, hpg, ha2, hb2⟩ := hg
   refine ⟨_, rfl, pg, _, 0, _, rfl, rfl, SqT.of hpg, atI_nat (j := 0) rfl, rfl, _, rfl, ?_⟩
   rw [has_is]
   exact iteT (iteT (q _ _ (Same.refl H) rfl))
  | is x2 k2 =>
   obtain ⟨pg, a2, b2, rfl, hpg, ha2, hb2⟩ := hg
   refine ⟨_, rfl, pg, _, 0, _, rfl, rfl, SqT.of hpg, atI_nat (j := 0) rfl, rfl, _, rfl, ?_⟩
   rw [str_self]
   refine iteF ⟨_, rfl, pf, _, 3, _, rfl, rfl, SqT.of hpf, atI_nat (j := 3) rfl, _, rfl, pg, _, 1, _, rfl, rfl, SqT.of hpg, atI_nat (j := 1) rfl, y.tx, x2.tx, hb.xa, ha2.xa, ?_, _, rfl, ?_⟩
   ·have := lf.2
    rw [Kd.tx_dp]; omega
   rw [Kd.dec]
   have em : made .tie [.has x t y, .is x2 k2] sy = if y = x2 then some (.is x (.som t k2)) else none := rfl
   rw [em] at q
   refine ite2 (fun c => ?_) (fun c => ?_)
   ·have c' : ¬ y = x2 := by simpa using c
    exact q _ _ (Same.refl H) (by rw [if_neg c']; rfl)
   ·have c' : y = x2 := by simpa using c
    refine ⟨_, rfl, pf, _, 1, _, rfl, rfl, SqT.of hpf, atI_nat (j := 1) rfl, _, rfl, pf, _, 2, _, rfl, rfl, SqT.of hpf, atI_nat (j := 2) rfl, _, rfl, pg, _, 2, _, rfl, rfl, SqT.of hpg, atI_nat (j := 2) rfl, le3, fun t1 ht1 => ⟨le3, fun t2 ht2 => ?_⟩⟩
    have s1 := same_new ht1 (.tup [.str "some", .str t, b2])
    exact q _ _ (s1.trans (same_new ht2 _)) (by rw [if_pos c']; exact isF_new ht2 (ha.mono s1.tups) ⟨t1, b2, rfl, upd_same, hb2.mono s1.tups⟩)
theorem scMNone : FnScope ["told", "saying", "one", "other"] ["told", "saying"] (defScope sMNone) := ⟨rfl, rfl, rfl, by decide +kernel, rfl, by decide +kernel, by decide +kernel⟩
theorem ok_mNone (F : Fun K "made_none" "made_none" sMNone f fd) : FnOk P w K mg base CX0 1 f fd ["told", "saying"] (spM .none) := by
 refine F.ok scMNone (fun vs H Q E h => ?_) (fun cdv A outer s H vs Q E hr h => ?_)
 ·obtain ⟨l, tl, fs, sv, sy, rfl, _⟩ := h; rfl
 obtain ⟨l, tl, fs, sv, sy, rfl, hl, hfs, hn, hlo, hs, hby, q⟩ := h
 refine ⟨_, @pss_cons _ _ _ _ _ (by exact ps_asg (pv 0) (pg_lst rfl (pgs_cons (pg_name (i := 2) scMNone.nd rfl (Or.inl rfl)) (pgs_cons (pg_name (i := 3) scMNone.nd rfl (Or.inl rfl)) pgs_nil))))
  (@pss_cons _ _ _ _ _ (by exact ps_if (PW.pt (pw_or (pt_cmpR op_ne (pe_ix ix_tup (pv 2) pe_int (fun _ _ => rfl)) pe_str (nomark _)) (pw_or1 (pt_cmpR (op_neX hr.units) (pv 3) (@pe_tup _ _ _ _ _ (pa_cons pe_str (pa_cons (pe_ix ix_tup (pv 2) pe_int (fun _ _ => rfl)) (pa_cons pe_str pa_nil)))) (nomark _))))) (@pss_one _ _ _ (by exact @ps_ret _ _ _ _ pe_non)) pss_nil)
  (@pss_one _ _ _ (by exact @ps_ret _ _ _ _ (@pe_tup _ _ _ _ _ (pa_cons pe_str (pa_cons (pe_ix ix_tup (pv 2) pe_int (fun _ _ => rfl)) (pa_cons pe_str pa_nil))))))), ?_⟩
 obtain ⟨v, u, f0, g0, rfl, rfl, hf, hg⟩ := fl2 hfs hn
 have lg := hlo g0 (by simp)
 refine ⟨_, rfl, l, _, rfl, hl, rfl, _, _, rfl, _, _, rfl, rfl, ?_⟩
 cases f0 with
 | is x k =>
  obtain ⟨pf, a, b, rfl, hpf, ha, hb⟩ := hf
  refine ⟨_, rfl, pf, _, 0, _, rfl, rfl, SqT.of hpf, atI_nat (j := 0) rfl, rfl, _, rfl, ?_⟩
  rw [is_has]
  exact iteT (iteT (q _ _ (Same.refl H) rfl))
 | has x t y =>
  obtain ⟨pf, a, b, rfl, hpf, ha, hb⟩ := hf
  refine ⟨_, rfl, pf, _, 0, _, rfl, rfl, SqT.of hpf, atI_nat (j := 0) rfl, rfl, _, rfl, ?_⟩
  rw [str_self]
  refine iteF ⟨_, rfl, _, rfl, pf, _, 3, _, rfl, rfl, SqT.of hpf, atI_nat (j := 3) rfl, le3, fun t1 ht1 => ?_⟩
  have s1 := same_new ht1 (.tup [.str "is", b, .str "nothing"])
  refine ⟨g0.tx, (Fa.is y nothK).tx, (hg.mono s1.tups).xa, (isF_new (k := nothK) ht1 hb rfl).xa, Fa.dp60 lg, _, rfl, ?_⟩
  rw [Fa.dec]
  have em : made .none [.has x t y, g0] sy = if g0 = .is y nothK then some (.is x nothK) else none := rfl
  rw [em] at q
  refine ite2 (fun c => ?_) (fun c => ?_)
  ·have c' : ¬ g0 = .is y nothK := by simpa using c
   exact q _ _ s1 (by rw [if_neg c']; rfl)
  ·have c' : g0 = .is y nothK := by simpa using c
   refine ⟨_, rfl, pf, _, 1, _, rfl, rfl, SqT.of (s1 _ _ hpf), atI_nat (j := 1) rfl, le3, fun t2 ht2 => ?_⟩
   exact q _ _ (s1.trans (same_new ht2 _)) (by rw [if_pos c']; exact isF_new ht2 (ha.mono s1.tups) rfl)
theorem scMMakes : FnScope ["told", "saying", "one", "other"] ["told", "saying"] (defScope sMMakes) := ⟨rfl, rfl, rfl, by decide +kernel, rfl, by decide +kernel, by decide +kernel⟩
theorem ok_mMakes (F : Fun K "made_makes" "made_makes" sMMakes f fd) : FnOk P w K mg base CX0 1 f fd ["told", "saying"] (spM .makes) := by
 refine F.ok scMMakes (fun vs H Q E h => ?_) (fun cdv A outer s H vs Q E hr h => ?_)
 ·obtain ⟨l, tl, fs, sv, sy, rfl, _⟩ := h; rfl
 obtain ⟨l, tl, fs, sv, sy, rfl, hl, hfs, hn, hlo, hs, hby, q⟩ := h
 refine ⟨_, @pss_cons _ _ _ _ _ (by exact ps_asg (pv 0) (pg_lst rfl (pgs_cons (pg_name (i := 2) scMMakes.nd rfl (Or.inl rfl)) (pgs_cons (pg_name (i := 3) scMMakes.nd rfl (Or.inl rfl)) pgs_nil))))
  (@pss_cons _ _ _ _ _ (by exact ps_if (PW.pt (pw_or (pt_cmpR op_ne (pe_ix ix_tup (pv 2) pe_int (fun _ _ => rfl)) pe_str (nomark _)) (pw_or (pt_cmpR op_ne (pe_ix ix_tup (pv 3) pe_int (fun _ _ => rfl)) pe_str (nomark _)) (pw_or1 (pt_cmpR (op_neX hr.units) (pe_ix ix_tup (pv 2) pe_int (fun _ _ => rfl)) (pe_ix ix_tup (pv 3) pe_int (fun _ _ => rfl)) (nomark _)))))) (@pss_one _ _ _ (by exact @ps_ret _ _ _ _ pe_non)) pss_nil)
  (@pss_cons _ _ _ _ _ (by exact ps_if (PW.pt (pw_or (pt_cmpR op_ne (pe_ix ix_tup (pv 2) pe_int (fun _ _ => rfl)) (pe_ix ix_tup (pv 1) pe_int (fun _ _ => rfl)) (nomark _)) (pw_or1 (pt_cmpR op_ne (pe_ix ix_tup (pv 3) pe_int (fun _ _ => rfl)) (pe_ix ix_tup (pv 1) pe_int (fun _ _ => rfl)) (nomark _))))) (@pss_one _ _ _ (by exact @ps_ret _ _ _ _ pe_non)) pss_nil)
  (@pss_one _ _ _ (by exact @ps_ret _ _ _ _ (@pe_tup _ _ _ _ _ (pa_cons pe_str (pa_cons (pe_ix ix_tup (pv 2) pe_int (fun _ _ => rfl)) (pa_cons (pe_ix ix_tup (pv 1) pe_int (fun _ _ => rfl)) (pa_cons (pe_ix ix_tup (pv 3) pe_int (fun _ _ => rfl)) pa_nil))))))))), ?_⟩
 obtain ⟨sy', rfl, hd⟩ := hby rfl
 obtain ⟨v, u, f0, g0, rfl, rfl, hf, hg⟩ := fl2 hfs hn
 have lf := hlo f0 (by simp)
 obtain ⟨r1, r2, r3, rfl⟩ := hd_makes hd
 obtain ⟨p, xs, rfl, hp, hk⟩ := hs
 obtain ⟨x1, x2, x3, rfl, k1, k2, k3⟩ := kl_three hk
 cases k1; cases k2; cases k3
 refine ⟨_, rfl, l, _, rfl, hl, rfl, _, _, rfl, _, _, rfl, rfl, ?_⟩
 cases f0 with
 | is x k =>
  obtain ⟨pf, a, b, rfl, hpf, ha, hb⟩ := hf
  refine ⟨_, rfl, pf, _, 0, _, rfl, rfl, SqT.of hpf, atI_nat (j := 0) rfl, rfl, _, rfl, ?_⟩
  rw [is_has]
  exact iteT (iteT (q _ _ (Same.refl H) rfl))
 | has x t y =>
  obtain ⟨pf, a, b, rfl, hpf, ha, hb⟩ := hf
  refine ⟨_, rfl, pf, _, 0, _, rfl, rfl, SqT.of hpf, atI_nat (j := 0) rfl, rfl, _, rfl, ?_⟩
  rw [str_self]
  refine iteF ?_
  cases g0 with
  | is x2 k2 =>
   obtain ⟨pg, a2, b2, rfl, hpg, ha2, hb2⟩ := hg
   refine ⟨_, rfl, pg, _, 0, _, rfl, rfl, SqT.of hpg, atI_nat (j := 0) rfl, rfl, _, rfl, ?_⟩
   rw [is_has]
   exact iteT (iteT (q _ _ (Same.refl H) rfl))
  | has x2 t2 y2 =>
   obtain ⟨pg, a2, b2, rfl, hpg, ha2, hb2⟩ := hg
   refine ⟨_, rfl, pg, _, 0, _, rfl, rfl, SqT.of hpg, atI_nat (j := 0) rfl, rfl, _, rfl, ?_⟩
   rw [str_self]
   refine iteF ⟨_, rfl, pf, _, 3, _, rfl, rfl, SqT.of hpf, atI_nat (j := 3) rfl, _, rfl, pg, _, 1, _, rfl, rfl, SqT.of hpg, atI_nat (j := 1) rfl, y.tx, x2.tx, hb.xa, ha2.xa, ?_, _, rfl, ?_⟩
   ·have := lf.2
    rw [Kd.tx_dp]; omega
   rw [Kd.dec]
   have em : made .makes [.has x t y, .has x2 t2 y2] (some (.makes r1 r2 r3)) = if y = x2 then (if t = r1 ∧ t2 = r2 then some (.has x r3 y2) else none) else none := rfl
   rw [em] at q
   refine ite2 (fun c => ?_) (fun c => ?_)
   ·have c' : ¬ y = x2 := by simpa using c
    exact q _ _ (Same.refl H) (by rw [if_neg c']; rfl)
   ·have c' : y = x2 := by simpa using c
    rw [if_pos c'] at q
    refine ⟨_, rfl, pf, _, 2, _, rfl, rfl, SqT.of hpf, atI_nat (j := 2) rfl, _, rfl, p, _, 1, _, rfl, rfl, SqT.of hp, atI_nat (j := 1) rfl, rfl, _, rfl, ?_⟩
    refine ite2 (fun c1 => ?_) (fun c1 => ?_)
    ·have c1' : ¬ t = r1 := by simpa using c1
     exact iteT (q _ _ (Same.refl H) (by rw [if_neg (fun z => c1' z.1)]; rfl))
    ·have c1' : t = r1 := by simpa using c1
     refine ⟨_, rfl, pg, _, 2, _, rfl, rfl, SqT.of hpg, atI_nat (j := 2) rfl, _, rfl, p, _, 2, _, rfl, rfl, SqT.of hp, atI_nat (j := 2) rfl, rfl, _, rfl, ?_⟩
     refine ite2 (fun c2 => ?_) (fun c2 => ?_)
     ·have c2' : ¬ t2 = r2 := by simpa using c2
      exact q _ _ (Same.refl H) (by rw [if_neg (fun z => c2' z.2)]; rfl)
     ·have c2' : t2 = r2 := by simpa using c2
      refine ⟨_, rfl, pf, _, 1, _, rfl, rfl, SqT.of hpf, atI_nat (j := 1) rfl, _, rfl, p, _, 3, _, rfl, rfl, SqT.of hp, atI_nat (j := 3) rfl, _, rfl, pg, _, 3, _, rfl, rfl, SqT.of hpg, atI_nat (j := 3) rfl, le4, fun t1 ht1 => ?_⟩
      exact q _ _ (same_new ht1 _) (by rw [if_pos ⟨c1', c2'⟩]; exact hasF_new ht1 ha hb2)
end
end K17
namespace K17
open PySem L2
def standsB : Kd → Bool
 | .nm t => thingB t
 | _ => false
def lenK : Kd → Prop
 | .nm t => t.length ≤ 1000
 | _ => True
def spStands : Sp := fun vs H Q _ => ∃ (v : V) (k : Kd), vs = [v] ∧ IsK H k v ∧ lenK k ∧ ∀ H', Same H H' → Q (.bl (standsB k)) H'
def selfB (f : Fa) : Bool := decide (f = .is f.x f.x) && !standsB f.x
def spSelf : Sp := fun vs H Q _ => ∃ (v : V) (f : Fa), vs = [v] ∧ IsF H f v ∧ f.lo 8 ∧ lenK f.x ∧ ∀ H', Same H H' → Q (.bl (selfB f)) H'
def inK : Kd → List Str → Bool
 | .nm t, A => decide (t ∈ A)
 | _, _ => false
def allB (f : Fa) (A : List Str) : Bool := decide (f = .is f.x anyK) && (!standsB f.x || inK f.x A)
def spIsAll : Sp := fun vs H Q _ => ∃ (v : V) (f : Fa) (d : Addr) (A : List Str), vs = [v, .ref d] ∧ IsF H f v ∧ f.lo 8 ∧ lenK f.x ∧ H d = some (.dK (Dn A)) ∧ ∀ H', Same H H' → Q (.bl (allB f A)) H'
def spWhole : Sp := fun vs H Q _ => ∃ o : Option Int, vs = [numV o] ∧ Q (.bl o.isSome) H
def inB (at' : Int) (i : Int) : Bool := decide (0 ≤ i) && decide (i < at')
def spEarlier : Sp := fun vs H Q _ => ∃ (l : Addr) (ns : List Int) (at' : Int), vs = [.ref l, .int at'] ∧ H l = some (.lst (ns.map V.int)) ∧ ns.length ≤ 900 ∧ ∀ H', Same H H' → Q (.bl (ns.all (inB at'))) H'
theorem kit_ii (K : PySem.W.Frag) : PySem.W.kitOne K (.type "int") (.type "int") = some true := by first | rfl | decide | with_unfolding_all rfl
theorem kit_ib (K : PySem.W.Frag) : PySem.W.kitOne K (.type "int") (.type "bool") = some false := by first | rfl | decide | with_unfolding_all rfl
theorem kit_ni (K : PySem.W.Frag) : PySem.W.kitOne K (.type "NoneType") (.type "int") = some false := by first | rfl | decide | with_unfolding_all rfl
theorem Dn_val (A : List Str) (x : Str) : (valV (Dn A) (.inr x)).isSome = decide (x ∈ A) := by
 unfold valV
 rw [Option.isSome_map]
 have := Dn_any A x
 rw [← this]
 induction A with
 | nil => rfl
 | cons a A ih =>
  show (List.find? _ ((Sum.inr a, V.bl true) :: Dn A)).isSome = (decide ((Sum.inr a : Key) = Sum.inr x) || (Dn A).any (fun kv => decide (kv.1 = Sum.inr x)))
  rw [List.find?_cons]
  cases c : decide ((Sum.inr a : Key) = Sum.inr x) with
  | true => rfl
  | false => exact ih (Dn_any A x)
section
variable {P : Program} {w : World} {K : PySem.W.Frag} {mg : Str → Option Value} {base : Heap} {f g e d a1 a2 a3 a4 aW aF : Addr} {fd gd' ed dd d1 d2 d3 d4 : FuncData}
theorem scStands : FnScope ["x"] ["x"] (defScope sStands) := ⟨rfl, rfl, rfl, by decide +kernel, rfl, by decide +kernel, by decide +kernel⟩
theorem ok_stands (F : Fun K "stands_for_thing" "stands_for_thing" sStands f fd) (mi : mg "isinstance" = none) (ms : mg "str" = none)
  (Git : FnOk P w K mg base CX0 3 a1 d1 ["text"] spThing) (bGit : Binds K d1 ["text"] []) (kGit : PySem.W.keepIn K (.ref a1) = true) (mGit : mg "is_thing" = some (.ref a1)) :
  FnOk P w K mg base CX0 4 f fd ["x"] spStands := by
 refine F.ok scStands (fun vs H Q E h => ?_) (fun cdv A outer s H vs Q E hr h => ?_)
 ·obtain ⟨v, k, rfl, _⟩ := h; rfl
 obtain ⟨v, k, rfl, hk, hl, q⟩ := h
 have hrit := hr
 refine ⟨_, @pss_one _ _ _ (by exact @ps_ret _ _ _ _ (pe_and (pe_callB call_isinst rfl mi PyProof.Rows.boot_isinstance (pa_cons (pv 0) (pa_cons (pe_bltn (v := .ty "str") rfl ms PyProof.Rows.boot_str rfl) pa_nil))) (pe_one (pe_call Git hrit rfl mGit kGit bGit .nil pass0 (pa_cons (pv 0) pa_nil))))), ?_⟩
 cases k with
 | nm x =>
  obtain rfl : v = .str x := hk
  exact ⟨_, rfl, _, _, _, true, rfl, TyOf.str x, kit_str_str K, _, rfl, iteT ⟨_, rfl, x, rfl, hl, q⟩⟩
 | two a b =>
  obtain ⟨p, x, y, rfl, hp, _, _⟩ := hk
  exact ⟨_, rfl, _, _, _, false, rfl, TyOf.tup hp, kit_tup_str K, _, rfl, iteF (q H (Same.refl H))⟩
 | som r c =>
  obtain ⟨p, y, rfl, hp, _⟩ := hk
  exact ⟨_, rfl, _, _, _, false, rfl, TyOf.tup hp, kit_tup_str K, _, rfl, iteF (q H (Same.refl H))⟩
theorem scIsSelf : FnScope ["fact", "x"] ["fact"] (defScope sIsSelf) := ⟨rfl, rfl, rfl, by decide +kernel, rfl, by decide +kernel, by decide +kernel⟩
theorem ok_isSelf (F : Fun K "is_self" "is_self" sIsSelf f fd) (Gst : FnOk P w K mg base CX0 4 a1 d1 ["x"] spStands) (bGst : Binds K d1 ["x"] []) (kGst : PySem.W.keepIn K (.ref a1) = true) (mGst : mg "stands_for_thing" = some (.ref a1)) :
  FnOk P w K mg base CX0 5 f fd ["fact"] spSelf := by
 refine F.ok scIsSelf (fun vs H Q E h => ?_) (fun cdv A outer s H vs Q E hr h => ?_)
 ·obtain ⟨v, k, rfl, _⟩ := h; rfl
 obtain ⟨v, f0, rfl, hf, lo, hl, q⟩ := h
 have hrst := hr
 refine ⟨_, @pss_cons _ _ _ _ _ (by exact ps_set (i := 1) scIsSelf.nd rfl (Or.inl rfl) (pe_ix ix_tup (pv 0) pe_int (fun _ _ => rfl)))
  (@pss_one _ _ _ (by exact @ps_ret _ _ _ _ (pe_and (pe_cmpR (op_eqX hr.units) (pv 0) (@pe_tup _ _ _ _ _ (pa_cons pe_str (pa_cons (pv 1) (pa_cons (pv 1) pa_nil)))) (nomark _)) (pe_one (pe_not (pe_call Gst hrst rfl mGst kGst bGst .nil pass0 (pa_cons (pv 1) pa_nil))))))), ?_⟩
 obtain ⟨pf, ys, a, rfl, hpf, _, e1, ka⟩ := hf.sh
 refine ⟨_, rfl, pf, _, 1, _, rfl, rfl, SqT.of hpf, atI_nat (j := 1) e1, ?_⟩
 refine ⟨_, rfl, _, rfl, _, rfl, le3, fun t ht => ?_⟩
 have s1 := same_new ht (.tup [.str "is", a, a])
 refine ⟨f0.tx, (Fa.is f0.x f0.x).tx, (hf.mono s1.tups).xa, (isF_new ht ka ka).xa, Fa.dp60 lo, _, rfl, ?_⟩
 rw [Fa.dec]
 unfold selfB at q
 refine ite2 (fun c => ?_) (fun c => ?_)
 ·rw [c, Bool.true_and] at q
  exact ⟨_, rfl, a, f0.x, rfl, ka.mono s1.tups, hl, fun H' s2 => ⟨_, rfl, q H' (s1.trans s2)⟩⟩
 ·rw [Bool.eq_false_iff.mpr c, Bool.false_and] at q
  exact q _ s1
theorem scIsAll : FnScope ["fact", "things", "x"] ["fact", "things"] (defScope sIsAll) := ⟨rfl, rfl, rfl, by decide +kernel, rfl, by decide +kernel, by decide +kernel⟩
theorem ok_isAll (F : Fun K "is_all" "is_all" sIsAll f fd) (Gst : FnOk P w K mg base CX0 4 a1 d1 ["x"] spStands) (bGst : Binds K d1 ["x"] []) (kGst : PySem.W.keepIn K (.ref a1) = true) (mGst : mg "stands_for_thing" = some (.ref a1)) :
  FnOk P w K mg base CX0 5 f fd ["fact", "things"] spIsAll := by
 refine F.ok scIsAll (fun vs H Q E h => ?_) (fun cdv A outer s H vs Q E hr h => ?_)
 ·obtain ⟨v, k, d, A, rfl, _⟩ := h; rfl
 obtain ⟨v, f0, dA, AL, rfl, hf, lo, hl, hd, q⟩ := h
 have hrst := hr
 have hu : (A.deeper (PyProof.Rows.envOfC "is_all" (defScope sIsAll) s.heap.objs.size f cdv)).units + 1 < cLine := by have := hr.un; omega
 refine ⟨_, @pss_cons _ _ _ _ _ (by exact ps_set (i := 2) scIsAll.nd rfl (Or.inl rfl) (pe_ix ix_tup (pv 0) pe_int (fun _ _ => rfl)))
  (@pss_one _ _ _ (by exact @ps_ret _ _ _ _ (pe_and (pe_cmpR (op_eqX hr.units) (pv 0) (@pe_tup _ _ _ _ _ (pa_cons pe_str (pa_cons (pv 2) (pa_cons pe_str pa_nil)))) (nomark _)) (pe_one (pe_or (pe_not (pe_call Gst hrst rfl mGst kGst bGst .nil pass0 (pa_cons (pv 2) pa_nil))) (pe_one (pe_cmpR (op_inD hu) (pv 2) (pv 1) rfl))))))), ?_⟩
 obtain ⟨pf, ys, a, rfl, hpf, _, e1, ka⟩ := hf.sh
 refine ⟨_, rfl, pf, _, 1, _, rfl, rfl, SqT.of hpf, atI_nat (j := 1) e1, ?_⟩
 refine ⟨_, rfl, _, rfl, le3, fun t ht => ?_⟩
 have s1 := same_new ht (.tup [.str "is", a, .str "anything"])
 refine ⟨f0.tx, (Fa.is f0.x anyK).tx, (hf.mono s1.tups).xa, (isF_new (k := anyK) ht ka rfl).xa, Fa.dp60 lo, _, rfl, ?_⟩
 rw [Fa.dec]
 unfold allB at q
 refine ite2 (fun c => ?_) (fun c => ?_)
 ·rw [c, Bool.true_and] at q
  refine ⟨_, rfl, a, f0.x, rfl, ka.mono s1.tups, hl, fun H' s2 => ⟨_, rfl, _, rfl, ?_⟩⟩
  have s12 := s1.trans s2
  cases cs : standsB f0.x with
  | false =>
   rw [cs] at q
   exact iteT (q H' s12)
  | true =>
   rw [cs] at q
   refine iteF ?_
   cases ex : f0.x with
   | two u v => rw [ex] at cs; cases cs
   | som u v => rw [ex] at cs; cases cs
   | nm z =>
    rw [ex] at q ka
    obtain rfl : a = .str z := ka
    refine ⟨_, rfl, _, rfl, dA, _, rfl, DGet.k (k := Sum.inr z) (s12 _ _ hd), ?_⟩
    rw [Dn_val]
    exact q H' s12
 ·rw [Bool.eq_false_iff.mpr c, Bool.false_and] at q
  exact q _ s1
theorem scIsWhole : FnScope ["value"] ["value"] (defScope sIsWhole) := ⟨rfl, rfl, rfl, by decide +kernel, rfl, by decide +kernel, by decide +kernel⟩
theorem ok_isWhole (F : Fun K "is_whole" "is_whole" sIsWhole f fd) (mi : mg "isinstance" = none) (mint : mg "int" = none) (mb : mg "bool" = none) : FnOk P w K mg base CX0 1 f fd ["value"] spWhole := by
 refine F.ok scIsWhole (fun vs H Q E h => ?_) (fun cdv A outer s H vs Q E hr h => ?_)
 ·obtain ⟨o, rfl, _⟩ := h; rfl
 obtain ⟨o, rfl, q⟩ := h
 refine ⟨_, @pss_one _ _ _ (by exact @ps_ret _ _ _ _ (pe_and (pe_callB call_isinst rfl mi PyProof.Rows.boot_isinstance (pa_cons (pv 0) (pa_cons (pe_bltn (v := .ty "int") rfl mint PyProof.Rows.boot_int rfl) pa_nil))) (pe_one (pe_not (pe_callB call_isinst rfl mi PyProof.Rows.boot_isinstance (pa_cons (pv 0) (pa_cons (pe_bltn (v := .ty "bool") rfl mb PyProof.Rows.boot_bool rfl) pa_nil))))))), ?_⟩
 cases o with
 | none => exact ⟨_, rfl, _, _, _, false, rfl, TyOf.non, kit_ni K, _, rfl, iteF q⟩
 | some i => exact ⟨_, rfl, _, _, _, true, rfl, TyOf.int i, kit_ii K, _, rfl, iteT ⟨_, rfl, _, _, _, false, rfl, TyOf.int i, kit_ib K, _, rfl, q⟩⟩
theorem ndoa : ((([("origin" : Str)] : List Str) ++ [("at" : Str)]) : List Str).Nodup := by decide +kernel
theorem scEarlier : FnScope ["froms", "at"] ["froms", "at"] (defScope sEarlier) := ⟨rfl, rfl, rfl, by decide +kernel, rfl, by decide +kernel, by decide +kernel⟩
theorem ok_earlier (F : Fun K "are_earlier" "are_earlier" sEarlier f fd) (ma : mg "all" = none) (Giw : FnOk P w K mg base CX0 1 a1 d1 ["value"] spWhole) (bGiw : Binds K d1 ["value"] []) (kGiw : PySem.W.keepIn K (.ref a1) = true) (mGiw : mg "is_whole" = some (.ref a1)) :
  FnOk P w K mg base CX0 2 f fd ["froms", "at"] spEarlier := by
 refine F.ok scEarlier (fun vs H Q E h => ?_) (fun cdv A outer s H vs Q E hr h => ?_)
 ·obtain ⟨l, ns, at', rfl, _⟩ := h; rfl
 obtain ⟨l, ns, at', rfl, hl, hz, q⟩ := h
 have hriw := hr
 refine ⟨_, @pss_one _ _ _ (by exact @ps_ret _ _ _ _ (pe_callB (call_allB rfl) rfl ma PyProof.Rows.boot_all (pa_cons (pe_comp ["origin"] ["at"] [1] rfl (pi_list (pv 0)) (fun _ _ _ => pg_name (i := 0) ndoa rfl (Or.inl rfl)) (fun _ _ _ => pts_nil) (fun _ _ _ => (pe_and (pe_call Giw hriw rfl mGiw kGiw bGiw .nil pass0 (pa_cons (pv 0) pa_nil)) (pe_one (pe_chain op_le op_lt pe_int (pv 0) (pv 1)))))) pa_nil))), ?_⟩
 refine ⟨_, rfl, l, rfl, ⟨_, SqL.of hl⟩, fun D hD => ?_⟩
 refine cmp_by (ns.map V.int).length (fun i σ H' => (∃ o, σ = [o, some (.int at')]) ∧ Same H H' ∧ H' D = some (.lst (((ns.take i).map (inB at')).map V.bl))) ⟨⟨_, rfl⟩, same_new hD _, upd_same⟩ ?_ ?_
 ·rintro σ H' ⟨_, sm, eD⟩
  rw [List.length_map, List.take_length] at eD
  refine ⟨⟨_, SqL.of (sm _ _ hl), Nat.le_refl _⟩, D, ns.map (inB at'), rfl, SqL.of eD, ?_⟩
  have e : (ns.map (inB at')).all id = ns.all (inB at') := by rw [List.all_map]; rfl
  rw [e]
  exact q H' sm
 ·rintro i σ H' hi ⟨⟨o, rfl⟩, sm, eD⟩
  have hi' : i < ns.length := by simpa using hi
  have ho := sm _ _ hl
  refine ⟨⟨_, .int ns[i], SqL.of ho, by simp [hi']⟩, ?_⟩
  rintro y H1 ⟨rfl, hy⟩
  have hyi := hy _ (SqL.of ho)
  rw [List.getElem?_map, List.getElem?_eq_getElem hi'] at hyi
  cases hyi
  have nxt : ∀ b : Bool, b = inB at' ns[i] → ∃ xs, H1 D = some (HO.lst xs) ∧ xs.length < sizeLine ∧ (fun σ2 H2 => (∃ o, σ2 = [o, some (.int at')]) ∧ Same H H2 ∧ H2 D = some (.lst (((ns.take (i + 1)).map (inB at')).map V.bl))) [some (V.int ns[i]), some (V.int at')] (upd H1 D (HO.lst (xs ++ [V.bl b]))) := by
   rintro b rfl
   refine ⟨_, eD, small1000 (by rw [List.length_map, List.length_map, List.length_take]; omega), ⟨_, rfl⟩, same_upd sm hD, ?_⟩
   rw [upd_same, List.take_add_one, List.getElem?_eq_getElem hi', List.map_append, List.map_append]
   rfl
  refine ⟨_, rfl, some ns[i], rfl, _, rfl, iteT ?_⟩
  refine ⟨_, rfl, _, _, rfl, rfl, _, rfl, ?_⟩
  refine ite2 (fun c => ?_) (fun c => ?_)
  ·refine ⟨_, rfl, _, _, rfl, rfl, ?_⟩
   exact nxt _ (by unfold inB; rw [c, Bool.true_and])
  ·exact nxt _ (by unfold inB; rw [Bool.eq_false_iff.mpr c, Bool.false_and])
end
end K17
namespace K17
open PySem L2
def lastSy (ps : List (Int × Sy)) (n : Int) : Option Sy := ps.foldl (fun o q => if q.1 = n then some q.2 else o) none
def SoV (H : Hp) : Option Sy → Option V → Prop
 | none, o => o = none
 | some s, o => ∃ v, o = some v ∧ IsSy H s v
theorem SoV.mono {H H' : Hp} (t : Tups H H') : ∀ {s : Option Sy} {o : Option V}, SoV H s o → SoV H' s o
 | none, _, h => h
 | some _, _, ⟨v, e, h⟩ => ⟨v, e, h.mono t⟩
def SyD (H : Hp) (d : Addr) (ps : List (Int × Sy)) : Prop := ∃ kvs, H d = some (.dK kvs) ∧ ∀ n : Int, SoV H (lastSy ps n) (valV kvs (.inl n))
theorem SyD.mono {H H' : Hp} (s : Same H H') {d : Addr} {ps : List (Int × Sy)} (h : SyD H d ps) : SyD H' d ps := by
 obtain ⟨kvs, e, h⟩ := h
 exact ⟨kvs, s _ _ e, fun n => (h n).mono s.tups⟩
theorem prl_kv {H : Hp} : ∀ {ys : List V} {ps : List (Int × Sy)}, PrL H ys ps → ∃ kv : List (Key × V), Paired (fun v (p : Key × V) => ∃ t, v = .ref t ∧ H t = some (.tup [kV p.1, p.2])) ys kv ∧ Paired (fun (p : Key × V) (q : Int × Sy) => p.1 = .inl q.1 ∧ IsSy H q.2 p.2) kv ps
 | _, _, .nil => ⟨[], .nil, .nil⟩
 | _, _, .cons (b := q) ⟨p, vs, e, h1, h2⟩ t => by
  obtain ⟨kv, g1, g2⟩ := prl_kv t
  exact ⟨(.inl q.1, vs) :: kv, .cons ⟨p, e, h1⟩ g1, .cons ⟨rfl, h2⟩ g2⟩
theorem merge_so {H : Hp} (n : Int) : ∀ {kv : List (Key × V)} {ps : List (Int × Sy)} {acc : List (Key × V)} {o : Option Sy}, Paired (fun (p : Key × V) (q : Int × Sy) => p.1 = .inl q.1 ∧ IsSy H q.2 p.2) kv ps → SoV H o (valV acc (.inl n)) →
  SoV H (ps.foldl (fun o q => if q.1 = n then some q.2 else o) o) (valV (mergeK acc kv) (.inl n))
 | _, _, _, _, .nil, h => h
 | _, _, acc, o, .cons (a := p) (b := q) ⟨e, hs⟩ t, h => by
  refine merge_so n (acc := putK acc p.1 p.2) (o := if q.1 = n then some q.2 else o) t ?_
  rw [valV_put, e]
  by_cases c : q.1 = n
  ·rw [if_pos c, if_pos (by rw [c])]
   exact ⟨_, rfl, hs⟩
  ·rw [if_neg c, if_neg (fun z => c (Sum.inl.inj z).symm)]
   exact h
def byL : List Str := ["thing", "tied", "every", "within", "no", "makes"]
theorem flat_by : (byL.map V.str).all flatV = true := by decide +kernel
theorem in_by {r : Ru} {z : Str} (h : IsRu r z) : inV (.str z) (byL.map V.str) = ruBy r := by
 rcases h with ⟨hr, rfl⟩ | ⟨rfl, hn⟩
 ·have : ∀ r ∈ ruL, inV (.str (ruS r)) (byL.map V.str) = ruBy r := by decide +kernel
  exact this r (ruL_all r hr)
 ·show inV (.str z) (byL.map V.str) = false
  have sub : ∀ y ∈ byL, ∃ q ∈ ruL, y = ruS q := by decide +kernel
  rw [Bool.eq_false_iff]
  intro e
  unfold inV at e
  rw [List.any_eq_true] at e
  obtain ⟨y, hy, e⟩ := e
  obtain ⟨w', hw, rfl⟩ := List.mem_map.mp hy
  obtain ⟨q, hq, rfl⟩ := sub w' hw
  have : ruS q = z := by simpa [eqV] using e
  exact hn q hq this.symm
def fitsB (r : Ru) (n : Option Int) (ps : List (Int × Sy)) : Bool :=
 if ruBy r = true then (match n with | none => false | some i => match lastSy ps i with | none => false | some s => decide (s.hd = r)) else n.isNone
def spFits : Sp := fun vs H Q _ => ∃ (z : Str) (r : Ru) (n : Option Int) (d : Addr) (ps : List (Int × Sy)), vs = [.str z, numV n, .ref d] ∧ IsRu r z ∧ SyD H d ps ∧ Q (.bl (fitsB r n ps)) H
section
variable {P : Program} {w : World} {K : PySem.W.Frag} {mg : Str → Option Value} {base : Heap} {f g e d a1 a2 a3 a4 aW aF aB : Addr} {fd gd' ed dd d1 d2 d3 d4 : FuncData}
theorem scFits : FnScope ["rule", "number", "sayings"] ["rule", "number", "sayings"] (defScope sFits) := ⟨rfl, rfl, rfl, by decide +kernel, rfl, by decide +kernel, by decide +kernel⟩
theorem ok_fits (F : Fun K "fits_number" "fits_number" sFits f fd) (mB0 : mg "BY_SAYING" = some (.ref aB)) (hB : ∀ H, SqT K H aB (byL.map V.str))
  (Giw : FnOk P w K mg base CX0 1 a1 d1 ["value"] spWhole) (bGiw : Binds K d1 ["value"] []) (kGiw : PySem.W.keepIn K (.ref a1) = true) (mGiw : mg "is_whole" = some (.ref a1)) :
  FnOk P w K mg base CX0 2 f fd ["rule", "number", "sayings"] spFits := by
 refine F.ok scFits (fun vs H Q E h => ?_) (fun cdv A outer s H vs Q E hr h => ?_)
 ·obtain ⟨z, r, n, d, ps, rfl, _⟩ := h; rfl
 obtain ⟨z, r, n, d, ps, rfl, hz, ⟨kvs, hd, hv⟩, q⟩ := h
 have hriw := hr
 have hu : (A.deeper (PyProof.Rows.envOfC "fits_number" (defScope sFits) s.heap.objs.size f cdv)).units + 1 < cLine := by have := hr.un; omega
 refine ⟨_, @pss_cons _ _ _ _ _ (by exact ps_if (pt_cmpR op_notIn_seq (pv 0) (pe_glob (v := .ref aB) rfl mB0 rfl) rfl) (@pss_one _ _ _ (by exact @ps_ret _ _ _ _ (pe_cmpR op_isN (pv 1) pe_non rfl))) pss_nil)
  (@pss_one _ _ _ (by exact @ps_ret _ _ _ _ (pe_and (pe_call Giw hriw rfl mGiw kGiw bGiw .nil pass0 (pa_cons (pv 1) pa_nil)) (pe_and (pe_cmpR (op_inD hu) (pv 1) (pv 2) rfl) (pe_one (pe_cmpR op_eq (pe_ix ix_tup (pe_dget hu (pv 2) (pv 1) (fun _ _ => rfl)) pe_int (fun _ _ => rfl)) (pv 0) (nomark _))))))), ?_⟩
 refine ⟨_, rfl, aB, _, rfl, .inr (hB _), rfl, flat_by, _, rfl, ?_⟩
 show if (!inV (.str z) (byL.map V.str)) = true then _ else _
 rw [in_by hz]
 unfold fitsB at q
 cases hb : ruBy r with
 | false =>
  refine iteT ⟨_, rfl, rfl, ?_⟩
  rw [hb, if_neg Bool.false_ne_true] at q
  cases n with
  | none => exact q
  | some i => exact q
 | true =>
  refine iteF ?_
  rw [hb, if_pos rfl] at q
  refine ⟨_, rfl, n, rfl, _, rfl, ?_⟩
  cases n with
  | none => exact iteF q
  | some i =>
   refine iteT ⟨_, rfl, _, rfl, d, _, rfl, DGet.k (k := Sum.inl i) hd, _, rfl, ?_⟩
   have hvi := hv i
   cases hl : lastSy ps i with
   | none =>
    rw [hl] at hvi
    rw [show valV kvs (.inl i) = none from hvi]
    simp only [hl] at q
    exact iteF q
   | some sy =>
    rw [hl] at hvi
    obtain ⟨v, ev, p, xs, rfl, hp, hk⟩ := hvi
    rw [ev]
    simp only [hl] at q
    refine iteT ⟨_, rfl, _, rfl, d, .ref p, rfl, ?_, p, _, 0, _, rfl, rfl, SqT.of hp, atI_nat (j := 0) rfl, _, rfl, rfl, ?_⟩
    ·rw [← ev]; exact DGet.k (k := Sum.inl i) hd
    have e1 := hz.dec sy.hd_ne
    have e2 : decide (V.str (ruS sy.hd) = V.str z) = decide (sy.hd = r) := by
     rw [show decide (V.str (ruS sy.hd) = V.str z) = decide (V.str z = V.str (ruS sy.hd)) by rw [decide_eq_decide]; exact eq_comm, e1, decide_eq_decide]
     exact eq_comm
    rw [e2]
    exact q
end
def Sy.things : Sy → List Str
 | .thing x _ => [x]
 | .tied x _ y => [x, y]
 | _ => []
def singL (ps : List (Int × Sy)) : List Str := (ps.map fun q => q.2.things).flatten
def Sy.sorts : Sy → List Str
 | .every _ _ => ["kind", "kind"] | .no _ _ => ["kind", "kind"] | .thing _ _ => ["thing", "kind"] | .tied _ _ _ => ["thing", "tie", "thing"] | .within _ _ => ["tie", "tie"] | .makes _ _ _ => ["tie", "tie", "tie"]
def Sy.sg (s : Sy) : Sg := ⟨ruS s.hd, s.sorts.zip s.parts⟩
theorem sg_parts (s : Sy) : s.sg.ps.map (·.2) = s.parts := by cases s <;> rfl
theorem sg_is {H : Hp} {s : Sy} {v : V} (h : IsSy H s v) : IsG H s.sg v := by
 obtain ⟨p, xs, e, h1, h2⟩ := h
 exact ⟨p, xs, e, h1, by rw [sg_parts]; exact h2⟩
def Sy.okS (s : Sy) : Prop := (∀ k ∈ s.parts, k.sz ≤ 60) ∧ s.lo 8
theorem sg_ok {s : Sy} (h : s.okS) : s.sg.Ok := by
 have h1 := h.1
 refine ⟨by cases s <;> simp [Sy.sg, Sy.sorts, Sy.parts, Sy.hd, ruS, formsL], fun p hp => ?_⟩
 cases s <;> simp only [Sy.sg, Sy.sorts, Sy.parts, List.zip_cons_cons, List.zip_nil_right, List.mem_cons, List.not_mem_nil, or_false] at hp h1
 ·rcases hp with rfl | rfl
  ·exact .inl ⟨rfl, h1 _ (.inl rfl)⟩
  ·exact .inl ⟨rfl, h1 _ (.inr rfl)⟩
 ·rcases hp with rfl | rfl
  ·exact .inl ⟨rfl, h1 _ (.inl rfl)⟩
  ·exact .inl ⟨rfl, h1 _ (.inr rfl)⟩
 ·rcases hp with rfl | rfl
  ·exact .inr ⟨.inr rfl, _, rfl⟩
  ·exact .inl ⟨rfl, h1 _ (.inr rfl)⟩
 ·rcases hp with rfl | rfl | rfl
  ·exact .inr ⟨.inr rfl, _, rfl⟩
  ·exact .inr ⟨.inl rfl, _, rfl⟩
  ·exact .inr ⟨.inr rfl, _, rfl⟩
 ·rcases hp with rfl | rfl
  ·exact .inr ⟨.inl rfl, _, rfl⟩
  ·exact .inr ⟨.inl rfl, _, rfl⟩
 ·rcases hp with rfl | rfl | rfl
  ·exact .inr ⟨.inl rfl, _, rfl⟩
  ·exact .inr ⟨.inl rfl, _, rfl⟩
  ·exact .inr ⟨.inl rfl, _, rfl⟩
theorem mem_add1 (A : List Str) (x y : Str) : y ∈ add1 A x ↔ y ∈ A ∨ y = x := by
 unfold add1
 split
 ·constructor
  ·exact .inl
  ·rintro (h | rfl)
   ·exact h
   ·assumption
 ·simp
theorem mem_addAll : ∀ (xs A : List Str) (y : Str), y ∈ addAll A xs ↔ y ∈ A ∨ y ∈ xs
 | [], A, y => by simp [addAll]
 | x :: xs, A, y => by
  show y ∈ addAll (add1 A x) xs ↔ _
  rw [mem_addAll xs (add1 A x) y, mem_add1, List.mem_cons]
  constructor
  ·rintro ((h | h) | h)
   ·exact .inl h
   ·exact .inr (.inl h)
   ·exact .inr (.inr h)
  ·rintro (h | h | h)
   ·exact .inl (.inl h)
   ·exact .inl (.inr h)
   ·exact .inr h
theorem kind_thing : ¬ (Str.ofString "kind" : Str) = Str.ofString "thing" := by decide +kernel
theorem tie_thing : ¬ (Str.ofString "tie" : Str) = Str.ofString "thing" := by decide +kernel
theorem outG_mem (s : Sy) (y : Str) : y ∈ outG s.sg ↔ y ∈ s.things := by
 unfold outG
 rw [mem_addAll]
 cases s <;> simp [Sy.sg, Sy.sorts, Sy.parts, pG, Sy.things, kind_thing, tie_thing]
theorem outG_len (s : Sy) : (outG s.sg).length ≤ 3 := by
 have := addAll_len ((s.sg.ps.map pG).flatten) []
 have h2 : ((s.sg.ps.map pG).flatten).length ≤ 3 := by
  cases s <;> simp [Sy.sg, Sy.sorts, Sy.parts, pG, kind_thing, tie_thing]
 unfold outG
 simp only [List.length_nil] at this
 omega
theorem pi_listK {X : Cx} {K' : PySem.W.Frag} {tg l : Expr} {tl : TE} (hK : X.K = K') (hl : PE X l tl) : PI X tg l (iList K' tl) := by subst hK; exact pi_list hl
def spThingsN : Sp := fun vs H Q _ => ∃ (lp : Addr) (ys : List V) (ps : List (Int × Sy)), vs = [.ref lp] ∧ H lp = some (.lst ys) ∧ PrL H ys ps ∧ (∀ q ∈ ps, q.2.okS) ∧ ps.length ≤ 100 ∧
 ∀ (d : Addr) (A : List Str) (H' : Hp), Same H H' → H' d = some (.dK (Dn A)) → (∀ x, x ∈ A ↔ x ∈ singL ps) → Q (.ref d) H'
theorem ndnst : ((([("number" : Str), ("saying" : Str), ("thing" : Str)] : List Str) ++ []) : List Str).Nodup := by decide +kernel
theorem singL_take {ps : List (Int × Sy)} {i : Nat} {q : Int × Sy} (h : ps[i]? = some q) : singL (ps.take (i + 1)) = singL (ps.take i) ++ q.2.things := by
 unfold singL
 rw [List.take_add_one, h, List.map_append, List.flatten_append]
 simp
section
variable {P : Program} {w : World} {K : PySem.W.Frag} {mg : Str → Option Value} {base : Heap} {f g e d a1 a2 a3 a4 aW aF aB : Addr} {fd gd' ed dd d1 d2 d3 d4 : FuncData}
theorem scThingsN : FnScope ["pairs"] ["pairs"] (defScope sThingsN) := ⟨rfl, rfl, rfl, by decide +kernel, rfl, by decide +kernel, by decide +kernel⟩
theorem ok_thingsN (F : Fun K "things_named" "things_named" sThingsN f fd)
  (Gnd : FnOk P w K mg base CX0 62 a1 d1 ["saying"] spNamed) (bGnd : Binds K d1 ["saying"] []) (kGnd : PySem.W.keepIn K (.ref a1) = true) (mGnd : mg "named" = some (.ref a1)) :
  FnOk P w K mg base CX0 63 f fd ["pairs"] spThingsN := by
 refine F.ok scThingsN (fun vs H Q E h => ?_) (fun cdv A outer s H vs Q E hr h => ?_)
 ·obtain ⟨lp, ys, ps, rfl, _⟩ := h; rfl
 obtain ⟨lp, ys, ps, rfl, hl, hps, hok, hz, q⟩ := h
 have hrnd := hr
 refine ⟨_, @pss_one _ _ _ (by exact @ps_ret _ _ _ _ (pe_compD2 ["number", "saying", "thing"] [] [] rfl (pi_list (pv 0)) (fun _ _ _ => pg_pair (K' := K) (i := 0) (j := 1) rfl rfl ndnst rfl rfl rfl rfl) (fun _ _ _ => pts_nil) (fun _ _ _ => pi_listK (K' := K) rfl (pe_ix (r := rIxT K) ix_tup (pe_call Gnd hrnd rfl mGnd kGnd bGnd .nil pass0 (pa_cons (pv 1) pa_nil)) pe_int (fun _ _ => rfl))) (fun _ _ _ => pg_name (i := 2) ndnst rfl (Or.inl rfl)) (fun _ _ _ => pts_nil) (fun _ _ _ => (pv 2)) (fun _ _ _ => pe_bl))), ?_⟩
 have lL : ys.length = ps.length := Paired.length hps
 refine ⟨_, rfl, lp, rfl, ⟨_, SqL.of hl⟩, fun D hD => ?_⟩
 refine lp_by ys.length (fun i σ H' => (∃ o0 o1 o2, σ = [o0, o1, o2]) ∧ Same H H' ∧ ∃ A, H' D = some (.dK (Dn A)) ∧ (∀ x, x ∈ A ↔ x ∈ singL (ps.take i)) ∧ A.length ≤ 3 * i) ⟨⟨_, _, _, rfl⟩, same_new hD _, [], upd_same, by simp [singL], by simp⟩ ?_ ?_
 ·rintro σ H' ⟨_, sm, A, eA, hA, _⟩
  rw [lL, List.take_length] at hA
  exact ⟨⟨_, SqL.of (sm _ _ hl), Nat.le_refl _⟩, q D A H' sm eA hA⟩
 ·rintro i σ H' hi ⟨⟨o0, o1, o2, rfl⟩, sm, A', eA, hA, lA⟩
  have ho := sm _ _ hl
  refine ⟨⟨_, ys[i], SqL.of ho, by simp [hi]⟩, ?_⟩
  rintro y H1 ⟨rfl, hy⟩
  have hyi := hy _ (SqL.of ho)
  obtain ⟨pq, hpq, t, vs, rfl, ht, hsy⟩ := paired_get hps hyi
  have okq := hok pq (List.mem_of_getElem? hpq)
  refine ⟨t, _, rfl, SqT.of (sm _ _ ht), rfl, _, _, rfl, _, _, rfl, rfl, ?_⟩
  refine ⟨_, rfl, vs, pq.2.sg, rfl, sg_is (hsy.mono sm.tups), sg_ok okq, fun qq a b c H2 s2 hq ha hb hc nq na nb nc nab nac nbc => ?_⟩
  refine ⟨qq, _, 2, _, rfl, rfl, SqT.of hq, atI_nat (j := 2) rfl, c, rfl, ⟨_, SqL.of hc⟩, ?_⟩
  have cD : c ≠ D := fun z => by rw [z, eA] at nc; cases nc
  have lG := outG_len pq.2
  refine lp_by ((outG pq.2.sg).map V.str).length (fun j σ' H' => (∃ o2, σ' = [some (.int pq.1), some vs, o2]) ∧ Same H H' ∧ H' c = some (.lst ((outG pq.2.sg).map V.str)) ∧ H' D = some (.dK (Dn (addAll A' ((outG pq.2.sg).take j))))) ⟨⟨_, rfl⟩, sm.trans s2, hc, s2 _ _ eA⟩ ?_ ?_
  ·rintro σ' H3 ⟨⟨o2', rfl⟩, sm3, ec, eD⟩
   rw [List.length_map, List.take_length] at eD
   refine ⟨⟨_, SqL.of ec, Nat.le_refl _⟩, ⟨_, _, _, rfl⟩, sm3, _, eD, fun x => ?_, ?_⟩
   ·rw [mem_addAll, hA, outG_mem, singL_take hpq, List.mem_append]
   ·have := addAll_len (outG pq.2.sg) A'
    omega
  ·rintro j σ' H3 hj ⟨⟨o2', rfl⟩, sm3, ec, eD⟩
   have hj' : j < (outG pq.2.sg).length := by simpa using hj
   refine ⟨⟨_, .str (outG pq.2.sg)[j], SqL.of ec, by simp [hj']⟩, ?_⟩
   rintro y2 H4 ⟨rfl, hy2⟩
   have hy2i := hy2 _ (SqL.of ec)
   rw [List.getElem?_map, List.getElem?_eq_getElem hj'] at hy2i
   cases hy2i
   have la := addAll_len ((outG pq.2.sg).take j) A'
   have lt : ((outG pq.2.sg).take j).length ≤ 3 := Nat.le_trans (List.length_take_le' _ _) lG
   refine ⟨_, rfl, Dn (addAll A' ((outG pq.2.sg).take j)), Sum.inr (outG pq.2.sg)[j], rfl, eD, small1000 (by rw [Dn_len]; omega), ⟨_, rfl⟩, same_upd sm3 hD, by rw [upd_ne cD]; exact ec, ?_⟩
   rw [upd_same, Dn_put, List.take_add_one, List.getElem?_eq_getElem hj', addAll_app]
   rfl
end
end K17
namespace L2
open PySem PySem.Spec PyProof.Rows
section
variable {prog : Program} {w : World} {A : Around} {E : Value → Shared → Prop} {s : Shared}
theorem getItem_tuple_whole {t sl : Addr} {items : Array Value} {vl vu : Value} {lo hi : Option Int} {Q : Value → Shared → Prop} (ht : IsTup s.heap t items) (hs : s.heap.IsSliceOf sl vl vu .none) (pl : IsPart vl lo) (pu : IsPart vu hi)
  (hw : HT.sIx items.size 0 lo = 0 ∧ HT.sIx items.size items.size hi = items.size) (h : Q (.ref t) s) : wpAny (model prog w) A (getItem (.ref t) (.ref sl)) Q E s := by
 obtain ⟨os, hos, hcs, hds⟩ := id hs
 have hTs : s.TypeIs (.ref sl) "slice" := ⟨os, hos, hcs⟩
 unfold getItem
 try with_reducible refine wpAny_holding ?_
 first | refine wpAny_bind (wpAny_pure ?_) | skip
 refine wpAny_bind (wpAny_sequenceKey ht.typeIs (by decide) ?_)
 refine wpAny_bind (wpAny_callSpecial?_slot (name := Str.ofString "__getitem__") ht.typeIs PyProof.Rows.slot_tuple_getitem
  (wpAny_call_entry PyProof.Rows.slot_tuple_getitem ht.typeIs entry_tuple_getitem ?_ (args_tuple_getitem _ _)))
 show wpAny _ _ (Builtin.Tuple.tupleItemsOf (.ref t) >>= _) _ _ s
 refine wpAny_bind (tupleItemsOf_ ht ?_)
 refine wpAny_bind (wpAny_typeOf hTs ?_)
 rw [if_pos (by decide)]
 refine wpAny_bind (HT.sliceApplied_gen hs pl pu ?_)
 have hyes : ((((HT.sIx items.size 0 lo : Nat) : Int) == 0 && (1 : Int) == 1 && (HT.sIx items.size items.size hi - HT.sIx items.size 0 lo) == items.size) = true) := by
  rw [hw.1, hw.2]; simp
 show wpAny _ _ (if (((HT.sIx items.size 0 lo : Nat) : Int) == 0 && (1 : Int) == 1 && (HT.sIx items.size items.size hi - HT.sIx items.size 0 lo) == items.size) = true then _ else _) _ _ s
 rw [if_pos hyes]
 obtain ⟨o, ho, hc, r⟩ := id ht
 have hT : s.TypeIs (.ref t) "tuple" := ht.typeIs
 repeat (any_goals (first | assumption | wp_step))
 exact ⟨_, rfl, wpAny_pure h⟩
end
section
variable {X : Cx}
def rSlW (K : PySem.W.Frag) : V → Option Int → Option Int → Hp → VK → Prop := fun x lo hi H Q => ∃ a xs, x = .ref a ∧ SqT K H a xs ∧
 ((HT.sIx xs.length 0 lo = 0 ∧ HT.sIx xs.length xs.length hi = xs.length) → Q (.ref a) H) ∧
 (¬ (HT.sIx xs.length 0 lo = 0 ∧ HT.sIx xs.length xs.length hi = xs.length) → ∀ p, H p = none → Q (.ref p) (upd H p (.tup (cutV xs lo hi))))
theorem sl_tupW : SlR X (rSlW X.K) := by
 intro pins s σ H x v vl vu lo hi sl Q I rx hs pl pu h
 obtain ⟨a, xs, rfl, hx, q1, q2⟩ := h
 by_cases hw : HT.sIx xs.length 0 lo = 0 ∧ HT.sIx xs.length xs.length hi = xs.length
 ·cases rx
  obtain ⟨its, r, ht, hz⟩ := I.tuple hx
  have hlen : its.toArray.size = xs.length := by rw [List.size_toArray]; exact r.length.symm
  refine ⟨"tuple", _, PyProof.Rows.slot_tuple_getitem.lookup, ht.typeIs, ?_⟩
  exact getItem_tuple_whole ht hs pl pu (by rw [hlen]; exact hw) ⟨.ref a, H, I, rfl, q1 hw⟩
 ·exact sl_tup pins s σ H _ v vl vu lo hi sl Q I rx hs pl pu ⟨a, xs, rfl, hx, hw, q2 hw⟩
end
end L2
namespace K17
open PySem L2
def factAt (ss : List Stp) (i : Int) : Fa :=
 match ss[i.toNat]? with
 | some s => s.f
 | none => .is nothK nothK
def soOf (ps : List (Int × Sy)) : Option Int → Option Sy
 | none => none
 | some i => lastSy ps i
def rightC (r : Ru) (s : Stp) (at' : Nat) (ss : List Stp) (ps : List (Int × Sy)) (A : List Str) : Bool :=
 if r = .oth then false else
 if s.fr.length ≠ ruN r then false else
 if s.fr.all (inB at') = false then false else
 if fitsB r s.n ps = false then false else
 if r = .self then selfB s.f else
 if r = .all then allB s.f A else
 decide (some s.f = made r (s.fr.map (factAt ss)) (soOf ps s.n))
def okF (f : Fa) : Prop := f.lo 8 ∧ lenK f.x
def fromsKV : List (Key × V) := ruL.map fun r => (.inr (ruS r), .int (ruN r : Int))
theorem froms_val {r : Ru} {z : Str} (h : IsRu r z) : valV fromsKV (.inr z) = if r = .oth then none else some (.int (ruN r : Int)) := by
 rcases h with ⟨hr, rfl⟩ | ⟨rfl, hn⟩
 ·rw [if_neg hr]
  have : ∀ r ∈ ruL, valV fromsKV (.inr (ruS r)) = some (.int (ruN r : Int)) := by decide +kernel
  exact this r (ruL_all r hr)
 ·rw [if_pos rfl]
  unfold valV fromsKV
  rw [Option.map_eq_none_iff, List.find?_eq_none]
  intro kv hkv
  obtain ⟨q, hq, rfl⟩ := List.mem_map.mp hkv
  intro e
  have e' := of_decide_eq_true e
  exact hn q hq (Sum.inr.inj e').symm
def makersL : List Ru := [.thing, .tied, .every, .first, .second, .some, .within, .no, .both, .tie, .none, .makes]
def makersKV (M : Ru → Addr) : List (Key × V) := makersL.map fun r => (.inr (ruS r), .ref (M r))
theorem makers_val (M : Ru → Addr) : ∀ r ∈ makersL, valV (makersKV M) (.inr (ruS r)) = some (.ref (M r)) := by
 intro r hr
 simp only [makersL, List.mem_cons, List.not_mem_nil, or_false] at hr
 rcases hr with rfl | rfl | rfl | rfl | rfl | rfl | rfl | rfl | rfl | rfl | rfl | rfl <;> rfl
def spIsRight : Sp := fun vs H Q _ => ∃ (ls d dt : Addr) (at' : Nat) (xs : List V) (ss : List Stp) (s : Stp) (r : Ru) (ps : List (Int × Sy)) (A : List Str), vs = [.ref ls, .int (at' : Int), .ref d, .ref dt] ∧ H ls = some (.lst xs) ∧ StL [] H xs ss ∧ ss.length ≤ 900 ∧ ss[at']? = some s ∧
 IsRu r s.r ∧ (∀ t ∈ ss, okF t.f ∧ t.fr.length ≤ 900) ∧ SyD H d ps ∧ H dt = some (.dK (Dn A)) ∧ ∀ H', Same H H' → Q (.bl (rightC r s at' ss ps A)) H'
theorem ndos : ((([("origin" : Str)] : List Str) ++ [("steps" : Str)]) : List Str).Nodup := by decide +kernel
theorem rec_in {i : Int} {n : Nat} (h : inB (n : Int) i = true) : 0 ≤ i ∧ i.toNat < n := by
 unfold inB at h
 rw [Bool.and_eq_true] at h
 have h1 := of_decide_eq_true h.1
 have h2 := of_decide_eq_true h.2
 omega
theorem self_dec {r : Ru} {z : Str} (h : IsRu r z) : decide (V.str z = V.str (Str.ofString "self")) = decide (r = .self) := h.dec (q := .self) (by intro z; cases z)
theorem all_dec' {r : Ru} {z : Str} (h : IsRu r z) : decide (V.str z = V.str (Str.ofString "all")) = decide (r = .all) := h.dec (q := .all) (by intro z; cases z)
section
variable {P : Program} {w : World} {K : PySem.W.Frag} {mg : Str → Option Value} {base : Heap} {f g e d a1 a2 a3 a4 a5 aW aF aB aR aM : Addr} {fd gd' ed dd d1 d2 d3 d4 d5 : FuncData}
theorem scIsRight : FnScope ["steps", "at", "sayings", "things", "fact", "rule", "froms", "number", "maker", "told"] ["steps", "at", "sayings", "things"] (defScope sIsRight) := ⟨rfl, rfl, rfl, by decide +kernel, rfl, by decide +kernel, by decide +kernel⟩
theorem ok_isRight {M : Ru → Addr} {MD : Ru → FuncData} (F : Fun K "is_right" "is_right" sIsRight f fd) (ml : mg "len" = none) (mR0 : mg "FROMS" = some (.ref aR)) (hR : KDict K P w aR fromsKV) (sR : (aR == sysModules) = false)
  (mM0 : mg "MAKERS" = some (.ref aM)) (hM : KDict K P w aM (makersKV M)) (GM : ∀ r ∈ makersL, FnOk P w K mg base CX0 2 (M r) (MD r) ["told", "saying"] (spM r) ∧ Binds K (MD r) ["told", "saying"] [] ∧ PySem.W.keepIn K (.ref (M r)) = true)
  (Gae : FnOk P w K mg base CX0 2 a1 d1 ["froms", "at"] spEarlier) (bGae : Binds K d1 ["froms", "at"] []) (kGae : PySem.W.keepIn K (.ref a1) = true) (mGae : mg "are_earlier" = some (.ref a1))
  (Gfn : FnOk P w K mg base CX0 2 a2 d2 ["rule", "number", "sayings"] spFits) (bGfn : Binds K d2 ["rule", "number", "sayings"] []) (kGfn : PySem.W.keepIn K (.ref a2) = true) (mGfn : mg "fits_number" = some (.ref a2))
  (Gse : FnOk P w K mg base CX0 5 a3 d3 ["fact"] spSelf) (bGse : Binds K d3 ["fact"] []) (kGse : PySem.W.keepIn K (.ref a3) = true) (mGse : mg "is_self" = some (.ref a3))
  (Gia : FnOk P w K mg base CX0 5 a4 d4 ["fact", "things"] spIsAll) (bGia : Binds K d4 ["fact", "things"] []) (kGia : PySem.W.keepIn K (.ref a4) = true) (mGia : mg "is_all" = some (.ref a4)) :
  FnOk P w K mg base CX0 6 f fd ["steps", "at", "sayings", "things"] spIsRight := by
 refine F.ok scIsRight (fun vs H Q E h => ?_) (fun cdv A outer s H vs Q E hr h => ?_)
 ·obtain ⟨ls, d, dt, at', xs, ss, s, r, ps, A, rfl, _⟩ := h; rfl
 obtain ⟨ls, d, dt, at', xs, ss, st, r, ps, AL, rfl, hl, hss, hz, hst, hru, hok, hsd, hdt, q⟩ := h
 have hrae := hr.mono (show 2 ≤ 5 by decide)
 have hrfn := hr.mono (show 2 ≤ 5 by decide)
 have hrse := hr
 have hria := hr
 have hu : (A.deeper (PyProof.Rows.envOfC "is_right" (defScope sIsRight) s.heap.objs.size f cdv)).units + 1 < cLine := by have := hr.un; omega
 refine ⟨_, @pss_cons _ _ _ _ _ (by exact ps_asg (pe_ix ix_list (pv 0) (pv 1) (fun _ _ => rfl)) (pg_tup rfl (pgs_cons (pg_name (i := 4) scIsRight.nd rfl (Or.inl rfl)) (pgs_cons (pg_name (i := 5) scIsRight.nd rfl (Or.inl rfl)) (pgs_cons (pg_name (i := 6) scIsRight.nd rfl (Or.inl rfl)) (pgs_cons (pg_name (i := 7) scIsRight.nd rfl (Or.inl rfl)) pgs_nil))))))
  (@pss_cons _ _ _ _ _ (by exact ps_if (PW.pt (pw_or (pt_cmpR (r := rNotInKD K P w) op_notInKD (pv 5) (pe_glob (v := .ref aR) rfl mR0 rfl) rfl) (pw_or (pt_cmpR op_ne (pe_callB call_len_seq rfl ml PySem.boot_len (pa_cons (pv 6) pa_nil)) (pe_kget (pe_glob (v := .ref aR) rfl mR0 rfl) (pv 5) (fun _ _ => rfl)) (nomark _)) (pw_or1 (pt_not (pt_val (pe_call Gae hrae rfl mGae kGae bGae .nil pass0 (pa_cons (pv 6) (pa_cons (pv 1) pa_nil))))))))) (@pss_one _ _ _ (by exact @ps_ret _ _ _ _ pe_bl)) pss_nil)
  (@pss_cons _ _ _ _ _ (by exact ps_if (pt_not (pt_val (pe_call Gfn hrfn rfl mGfn kGfn bGfn .nil pass0 (pa_cons (pv 5) (pa_cons (pv 7) (pa_cons (pv 2) pa_nil)))))) (@pss_one _ _ _ (by exact @ps_ret _ _ _ _ pe_bl)) pss_nil)
  (@pss_cons _ _ _ _ _ (by exact ps_if (pt_cmpR op_eq (pv 5) pe_str (nomark _)) (@pss_one _ _ _ (by exact @ps_ret _ _ _ _ (pe_call Gse hrse rfl mGse kGse bGse .nil pass0 (pa_cons (pv 4) pa_nil)))) pss_nil)
  (@pss_cons _ _ _ _ _ (by exact ps_if (pt_cmpR op_eq (pv 5) pe_str (nomark _)) (@pss_one _ _ _ (by exact @ps_ret _ _ _ _ (pe_call Gia hria rfl mGia kGia bGia .nil pass0 (pa_cons (pv 4) (pa_cons (pv 3) pa_nil))))) pss_nil)
  (@pss_cons _ _ _ _ _ (by exact ps_set (i := 8) scIsRight.nd rfl (Or.inl rfl) (pe_kget (pe_glob (v := .ref aM) rfl mM0 rfl) (pv 5) (fun _ _ => rfl)))
  (@pss_cons _ _ _ _ _ (by exact ps_setC (i := 9) ["origin"] ["steps"] [0] scIsRight.nd rfl rfl (pi_list (pv 6)) (fun _ _ _ => pg_name (i := 0) ndos rfl (Or.inl rfl)) (fun _ _ _ => pts_nil) (fun _ _ _ => (pe_ix (r := rIxT K) ix_tup (pe_ix (r := rIxL K) ix_list (pv 1) (pv 0) (fun _ _ => rfl)) pe_int (fun _ _ => rfl))))
  (@pss_one _ _ _ (by exact @ps_ret _ _ _ _ (pe_cmpR (op_eqX hr.units) (pv 4) (pe_callV (i := 8) pass0 (pv 8) (pa_cons (pv 9) (pa_cons (pe_dgetN hu (pv 2) (pv 7) ⟨rfl, rfl, rfl, rfl⟩) pa_nil))) (nomark _)))))))))), ?_⟩
 obtain ⟨v, hv, p, pf, vf, rfl, hp, hf, hpf, _⟩ := paired_get2 hss hst
 obtain ⟨⟨hlo, hlen⟩, hfl⟩ := hok st (List.mem_of_getElem? hst)
 refine ⟨_, rfl, _, rfl, ls, _, (at' : Int), _, rfl, rfl, SqL.of hl, atI_nat hv, p, _, rfl, SqT.of hp, rfl, _, _, rfl, _, _, rfl, _, _, rfl, _, _, rfl, rfl, ?_⟩
 have qf : ∀ b, rightC r st at' ss ps AL = b → ∀ H', Same H H' → Q (.bl b) H' := fun b e H' s' => by rw [← e]; exact q H' s'
 have fv := froms_val hru
 refine ⟨_, rfl, aR, fromsKV, .inr st.r, rfl, rfl, hR, sR, _, rfl, ?_⟩
 by_cases c0 : r = .oth
 ·rw [if_pos c0] at fv
  rw [fv]
  exact iteT (iteT (qf _ (by unfold rightC; rw [if_pos c0]) H (Same.refl H)))
 rw [if_neg c0] at fv
 rw [fv]
 refine iteF ?_
 refine ⟨_, rfl, pf, _, rfl, .inl (SqL.of hpf), _, rfl, aR, fromsKV, .inr st.r, _, rfl, rfl, hR, fv, rfl, _, rfl, ?_⟩
 have e1 : (!decide (V.int ((st.fr.map V.int).length : Int) = V.int (ruN r : Int))) = decide (st.fr.length ≠ ruN r) := by
  rw [List.length_map]
  by_cases c : st.fr.length = ruN r
  ·rw [c]; simp
  ·have : ¬ (V.int (st.fr.length : Int) = V.int (ruN r : Int)) := fun z => c (by injection z with z; omega)
   rw [decide_eq_false this, decide_eq_true c]; rfl
 rw [e1]
 by_cases c1 : st.fr.length ≠ ruN r
 ·rw [decide_eq_true c1]
  exact iteT (iteT (qf _ (by unfold rightC; rw [if_neg c0, if_pos c1]) H (Same.refl H)))
 rw [decide_eq_false c1]
 refine iteF ⟨_, rfl, _, rfl, pf, st.fr, (at' : Int), rfl, hpf, hfl, fun H1 s1 => ⟨_, rfl, ?_⟩⟩
 cases c2 : st.fr.all (inB (at' : Int)) with
 | false => exact iteT (qf _ (by unfold rightC; rw [if_neg c0, if_neg c1, if_pos c2]) H1 s1)
 | true =>
 refine iteF ?_
 have c2' : ¬ st.fr.all (inB (at' : Int)) = false := by rw [c2]; exact Bool.noConfusion
 refine ⟨_, rfl, _, rfl, _, rfl, st.r, r, st.n, d, ps, rfl, hru, hsd.mono s1, _, rfl, ?_⟩
 cases c3 : fitsB r st.n ps with
 | false => exact iteT (qf _ (by unfold rightC; rw [if_neg c0, if_neg c1, if_neg c2', if_pos c3]) H1 s1)
 | true =>
 refine iteF ?_
 have c3' : ¬ fitsB r st.n ps = false := by rw [c3]; exact Bool.noConfusion
 refine ⟨_, rfl, rfl, _, rfl, ?_⟩
 rw [self_dec hru]
 by_cases c4 : r = .self
 ·rw [decide_eq_true c4]
  refine iteT ⟨_, rfl, vf, st.f, rfl, hf.mono s1.tups, hlo, hlen, fun H2 s2 => ?_⟩
  exact qf _ (by unfold rightC; rw [if_neg c0, if_neg c1, if_neg c2', if_neg c3', if_pos c4]) H2 (s1.trans s2)
 rw [decide_eq_false c4]
 refine iteF ⟨_, rfl, rfl, _, rfl, ?_⟩
 rw [all_dec' hru]
 by_cases c5 : r = .all
 ·rw [decide_eq_true c5]
  refine iteT ⟨_, rfl, _, rfl, vf, st.f, dt, AL, rfl, hf.mono s1.tups, hlo, hlen, s1 _ _ hdt, fun H2 s2 => ?_⟩
  exact qf _ (by unfold rightC; rw [if_neg c0, if_neg c1, if_neg c2', if_neg c3', if_neg c4, if_pos c5]) H2 (s1.trans s2)
 rw [decide_eq_false c5]
 refine iteF ?_
 have hmk : r ∈ makersL := by
  cases r <;> first | exact absurd rfl c0 | exact absurd rfl c4 | exact absurd rfl c5 | decide
 obtain ⟨G1, b1, k1⟩ := GM r hmk
 have ez : st.r = ruS r := by
  rcases hru with ⟨_, e⟩ | ⟨e, _⟩
  ·exact e
  ·exact absurd e c0
 have mv := makers_val M r hmk
 rw [← ez] at mv
 refine ⟨_, rfl, aM, makersKV M, .inr st.r, _, rfl, rfl, hM, mv, ?_⟩
 refine ⟨_, rfl, pf, rfl, ⟨_, SqL.of (s1 _ _ hpf)⟩, fun D hD => ?_⟩
 have hall : ∀ i ∈ st.fr, 0 ≤ i ∧ i.toNat < at' := fun i hi => rec_in (List.all_eq_true.mp c2 i hi)
 have hatl : at' < ss.length := (List.getElem?_eq_some_iff.mp hst).1
 refine cmp_by (st.fr.map V.int).length (fun i σ H' => (∃ o, σ = [o, some (.ref ls)]) ∧ Same H H' ∧ ∃ tl, H' D = some (.lst tl) ∧ FL H' tl ((st.fr.take i).map (factAt ss))) ⟨⟨_, rfl⟩, s1.trans (same_new hD _), [], upd_same, .nil⟩ ?_ ?_
 ·rintro σ H2 ⟨_, sm, tl, eD, hL⟩
  rw [List.length_map, List.take_length] at hL
  refine ⟨⟨_, SqL.of (sm _ _ hpf), Nat.le_refl _⟩, ?_⟩
  have hsd2 := hsd.mono sm
  have lofs : ∀ f ∈ st.fr.map (factAt ss), f.lo 8 := fun f hf => by
   obtain ⟨i, hi, rfl⟩ := List.mem_map.mp hf
   have := hall i hi
   unfold factAt
   rw [List.getElem?_eq_getElem (show i.toNat < ss.length by omega)]
   exact (hok _ (List.getElem_mem _)).1.1
  have lenr : (st.fr.map (factAt ss)).length = ruN r := by
   rw [List.length_map]
   exact Classical.byContradiction c1
  have fin : ∀ (v : V) (H3 : Hp), Same H2 H3 → IsFo H3 (made r (st.fr.map (factAt ss)) (soOf ps st.n)) v → rEqX vf v H3 Q := fun v H3 s3 hv => by
   have s03 := sm.trans s3
   refine ⟨st.f.tx, txo (made r (st.fr.map (factAt ss)) (soOf ps st.n)), (hf.mono s03.tups).xa, hv.xa, Fa.dp60 hlo, ?_⟩
   rw [dec_txo]
   exact qf _ (by unfold rightC; rw [if_neg c0, if_neg c1, if_neg c2', if_neg c3', if_neg c4, if_neg c5]) H3 s03
  obtain ⟨kvs, ed, hvv⟩ := hsd2
  refine ⟨_, rfl, M r, MD r, 2, _, spM r, rfl, G1, hr.mono (show 2 ≤ 5 by decide), k1, b1, _, rfl, _, rfl, d, rfl, .inl ⟨kvs, .inl ed⟩, _, rfl, ?_⟩
  cases hn : st.n with
  | none =>
   refine .inr ⟨rfl, ⟨kvs, ed⟩, D, tl, _, .non, none, rfl, eD, hL, lenr, lofs, rfl, fun hb => ?_, fun v H3 s3 hv => ?_⟩
   ·exfalso
    unfold fitsB at c3
    rw [hb, hn] at c3
    cases c3
   ·exact fin v H3 s3 (by rw [hn]; exact hv)
  | some i =>
   refine .inl ⟨_, DGet.k (k := Sum.inl i) ed, D, tl, _, _, lastSy ps i, rfl, eD, hL, lenr, lofs, ?_, fun hb => ?_, fun v H3 s3 hv => ?_⟩
   ·have := hvv i
    cases hl2 : lastSy ps i with
    | none =>
     rw [hl2] at this
     rw [show valV kvs (.inl i) = none from this]
     rfl
    | some sy =>
     rw [hl2] at this
     obtain ⟨v, ev, hs⟩ := this
     rw [ev]
     exact hs
   ·unfold fitsB at c3
    rw [hb, hn, if_pos rfl] at c3
    cases hl2 : lastSy ps i with
    | none => simp only [hl2] at c3; cases c3
    | some sy =>
     simp only [hl2] at c3
     exact ⟨sy, rfl, of_decide_eq_true c3⟩
   ·exact fin v H3 s3 (by rw [hn]; exact hv)
 ·rintro i σ H2 hi ⟨⟨o, rfl⟩, sm, tl, eD, hL⟩
  have hi' : i < st.fr.length := by simpa using hi
  have ho := sm _ _ hpf
  refine ⟨⟨_, .int st.fr[i], SqL.of ho, by simp [hi']⟩, ?_⟩
  rintro y H3 ⟨rfl, hy⟩
  have hyi := hy _ (SqL.of ho)
  rw [List.getElem?_map, List.getElem?_eq_getElem hi'] at hyi
  cases hyi
  obtain ⟨n0, n1⟩ := hall _ (List.getElem_mem hi')
  have n2 : (st.fr[i]).toNat < ss.length := by omega
  obtain ⟨v2, hv2, p2, pf2, vf2, rfl, hp2, hf2, _, _⟩ := paired_get2 hss (List.getElem?_eq_getElem n2)
  have ix : atI xs st.fr[i] = some (.ref p2) := by
   have := atI_nat (xs := xs) (j := (st.fr[i]).toNat) hv2
   rwa [show (((st.fr[i]).toNat : Nat) : Int) = st.fr[i] by omega] at this
  have ltl := Paired.length hL
  rw [List.length_map, List.length_take] at ltl
  refine ⟨_, rfl, _, rfl, ls, _, _, _, rfl, rfl, SqL.of (sm _ _ hl), ix, p2, _, 0, _, rfl, rfl, SqT.of (sm _ _ hp2), atI_nat (j := 0) rfl, tl, eD, small1000 (by omega), ⟨_, rfl⟩, fun b u hb => ?_, tl ++ [vf2], upd_same, ?_⟩
  ·have nb : b ≠ D := fun z => by
    have := none_of_same s1 hD
    rw [z, this] at hb; cases hb
   rw [upd_ne nb]
   exact sm b u hb
  ·have tD : Tups H3 (upd H3 D (.lst (tl ++ [vf2]))) := tups_lst eD
   rw [List.take_add_one, List.getElem?_eq_getElem hi', List.map_append]
   refine paired_app (FL.mono tD hL) (.cons ?_ .nil)
   unfold factAt
   rw [List.getElem?_eq_getElem n2]
   exact (hf2.mono sm.tups).mono tD
end
end K17
namespace K17
open PySem L2
theorem allB_congr {f : Fa} {A B : List Str} (h : ∀ x, x ∈ A ↔ x ∈ B) : allB f A = allB f B := by
 unfold allB
 have : inK f.x A = inK f.x B := by
  cases f.x with
  | nm t => show decide (t ∈ A) = decide (t ∈ B); rw [decide_eq_decide]; exact h t
  | _ => rfl
 rw [this]
theorem rightC_congr {r : Ru} {s : Stp} {at' : Nat} {ss : List Stp} {ps : List (Int × Sy)} {A B : List Str} (h : ∀ x, x ∈ A ↔ x ∈ B) : rightC r s at' ss ps A = rightC r s at' ss ps B := by
 unfold rightC
 rw [allB_congr h]
def upB (t : Str) : Bool := Txt.isupper (Txt.slice t none (some 1))
def singleB : Kd → Bool
 | .nm t => upB t
 | _ => false
def spSingle : Sp := fun vs H Q _ => ∃ (v : V) (k : Kd), vs = [v] ∧ IsK H k v ∧ lenK k ∧ Q (.bl (singleB k)) H
def spSingles : Sp := fun vs H Q _ => ∃ (lp : Addr) (ys : List V) (ps : List (Int × Sy)), vs = [.ref lp] ∧ H lp = some (.lst ys) ∧ PrL H ys ps ∧ ps.length ≤ 100 ∧
 ∀ (l : Addr) (H' : Hp), Same H H' → H l = none → H' l = some (.lst ((singL ps).map V.str)) → Q (.ref l) H'
section
variable {P : Program} {w : World} {K : PySem.W.Frag} {mg : Str → Option Value} {base : Heap} {f g e d a1 a2 a3 a4 a5 aW aF aB aR aM : Addr} {fd gd' ed dd d1 d2 d3 d4 d5 : FuncData}
theorem scSingle : FnScope ["_law_x"] ["_law_x"] (defScope sSingle) := ⟨rfl, rfl, rfl, by decide +kernel, rfl, by decide +kernel, by decide +kernel⟩
theorem ok_single (F : Fun K "_law_single" "_law_single" sSingle f fd) (mi : mg "isinstance" = none) (ms : mg "str" = none) : FnOk P w K mg base CX0 1 f fd ["_law_x"] spSingle := by
 refine F.ok scSingle (fun vs H Q E h => ?_) (fun cdv A outer s H vs Q E hr h => ?_)
 ·obtain ⟨v, k, rfl, _⟩ := h; rfl
 obtain ⟨v, k, rfl, hk, hl, q⟩ := h
 refine ⟨_, @pss_one _ _ _ (by exact @ps_ret _ _ _ _ (pe_and (pe_callB call_isinst rfl mi PyProof.Rows.boot_isinstance (pa_cons (pv 0) (pa_cons (pe_bltn (v := .ty "str") rfl ms PyProof.Rows.boot_str rfl) pa_nil))) (pe_one (pe_bm0 PySem.F.plainAttrs_str PySem.F.slot_str_isupper PySem.F.type_str_isupper mt_isupper (pe_slice sl_str (pv 0) po_none (po_some pe_int)))))), ?_⟩
 cases k with
 | nm x =>
  obtain rfl : v = .str x := hk
  have hx : x.length ≤ sizeLine := small2 hl
  refine ⟨_, rfl, _, _, _, true, rfl, TyOf.str x, kit_str_str K, _, rfl, iteT ?_⟩
  exact ⟨_, rfl, 1, rfl, x, rfl, hx, rfl, _, rfl, rfl, q⟩
 | two a b =>
  obtain ⟨p, x, y, rfl, hp, _, _⟩ := hk
  exact ⟨_, rfl, _, _, _, false, rfl, TyOf.tup hp, kit_tup_str K, _, rfl, iteF q⟩
 | som r c =>
  obtain ⟨p, y, rfl, hp, _⟩ := hk
  exact ⟨_, rfl, _, _, _, false, rfl, TyOf.tup hp, kit_tup_str K, _, rfl, iteF q⟩
theorem scSingles : FnScope ["_law_pairs", "_law_made", "_law_number", "_law_saying_here"] ["_law_pairs"] (defScope sSingles) := ⟨rfl, rfl, rfl, by decide +kernel, rfl, by decide +kernel, by decide +kernel⟩
theorem ok_singles (F : Fun K "_law_singles" "_law_singles" sSingles f fd) : FnOk P w K mg base CX0 1 f fd ["_law_pairs"] spSingles := by
 refine F.ok scSingles (fun vs H Q E h => ?_) (fun cdv A outer s H vs Q E hr h => ?_)
 ·obtain ⟨lp, ys, ps, rfl, _⟩ := h; rfl
 obtain ⟨lp, ys, ps, rfl, hlp, hps, hz, q⟩ := h
 refine ⟨_, @pss_cons _ _ _ _ _ (by exact ps_set (i := 1) scSingles.nd rfl (Or.inl rfl) (pe_lst pa_nil))
  (@pss_cons _ _ _ _ _ (by exact ps_for PassesOwn.never rfl (pi_list (pv 0)) (pg_tup rfl (pgs_cons (pg_name (i := 2) scSingles.nd rfl (Or.inl rfl)) (pgs_cons (pg_name (i := 3) scSingles.nd rfl (Or.inl rfl)) pgs_nil))) (@pss_cons _ _ _ _ _ (by exact ps_if (pt_cmpR op_eq (pe_ix ix_tup (pv 3) pe_int (fun _ _ => rfl)) pe_str (nomark _)) (@pss_one _ _ _ (by exact ps_expr (pe_bm PySem.F.plainAttrs_list PySem.F.slot_list_append PySem.F.type_list_append mt_append (pv 1) (pa_cons (pe_ix ix_tup (pv 3) pe_int (fun _ _ => rfl)) pa_nil)))) pss_nil) (@pss_one _ _ _ (by exact ps_if (pt_cmpR op_eq (pe_ix ix_tup (pv 3) pe_int (fun _ _ => rfl)) pe_str (nomark _)) (@pss_cons _ _ _ _ _ (by exact ps_expr (pe_bm PySem.F.plainAttrs_list PySem.F.slot_list_append PySem.F.type_list_append mt_append (pv 1) (pa_cons (pe_ix ix_tup (pv 3) pe_int (fun _ _ => rfl)) pa_nil))) (@pss_one _ _ _ (by exact ps_expr (pe_bm PySem.F.plainAttrs_list PySem.F.slot_list_append PySem.F.type_list_append mt_append (pv 1) (pa_cons (pe_ix ix_tup (pv 3) pe_int (fun _ _ => rfl)) pa_nil))))) pss_nil))))
  (@pss_one _ _ _ (by exact @ps_ret _ _ _ _ (pv 1)))), ?_⟩
 refine ⟨Nat.zero_le _, fun l hl => ?_⟩
 have s0 := same_new hl (.lst [])
 have lpl : lp ≠ l := ne_of_none hlp hl
 have lL : ys.length = ps.length := Paired.length hps
 have singlen : ∀ i, (singL (ps.take i)).length ≤ 2 * i := by
  intro i
  induction i with
  | zero => simp [singL]
  | succ i ih =>
   cases c : ps[i]? with
   | none =>
    have : ps.take (i + 1) = ps.take i := by rw [List.take_add_one, c]; simp
    rw [this]; omega
   | some pq =>
    rw [singL_take c, List.length_append]
    have : pq.2.things.length ≤ 2 := by cases pq.2 <;> simp [Sy.things]
    omega
 refine ⟨_, rfl, lp, rfl, ⟨_, SqL.of (s0 _ _ hlp)⟩, for_list (xs := ys) (fun i σ H' => (∃ o2 o3, σ = [some (.ref lp), some (.ref l), o2, o3]) ∧ Same H H' ∧ H' l = some (.lst ((singL (ps.take i)).map V.str))) ⟨⟨_, _, rfl⟩, s0, upd_same⟩ ?_ ?_ ?_⟩
 ·rintro i σ H' _ ⟨_, sm, _⟩
  exact SqL.of (sm _ _ hlp)
 ·rintro i x σ H' hx ⟨⟨o2, o3, rfl⟩, sm, el⟩
  obtain ⟨pq, hpq, t, vs, rfl, ht, psy, xs, rfl, hpsy, hk⟩ := paired_get hps hx
  have il : i < ps.length := (List.getElem?_eq_some_iff.mp hpq).1
  have sl := singlen i
  have e1 := singL_take hpq
  refine ⟨t, _, rfl, SqT.of (sm _ _ ht), rfl, _, _, rfl, _, _, rfl, rfl, ?_⟩
  refine ⟨_, rfl, psy, _, 0, _, rfl, rfl, SqT.of (sm _ _ hpsy), atI_nat (j := 0) rfl, rfl, _, rfl, ?_⟩
  have hd1 := (IsRu.of pq.2.hd_ne).dec (q := .thing) (by intro z; cases z)
  have hd2 := (IsRu.of pq.2.hd_ne).dec (q := .tied) (by intro z; cases z)
  have hd1' : decide (V.str (ruS pq.2.hd) = V.str (Str.ofString "thing")) = decide (pq.2.hd = .thing) := hd1
  have hd2' : decide (V.str (ruS pq.2.hd) = V.str (Str.ofString "tied")) = decide (pq.2.hd = .tied) := hd2
  rw [hd1']
  by_cases c1 : pq.2.hd = .thing
  ·rw [decide_eq_true c1]
   obtain ⟨x1, k1, e2⟩ := hd_thing c1
   rw [e2] at hk e1
   obtain ⟨v1, v2, rfl, i1, i2⟩ := kl_two hk
   obtain rfl : v1 = .str x1 := i1
   have spsy := sm _ _ hpsy
   refine iteT ⟨_, rfl, .inl ⟨rfl, _, SqL.of el⟩, _, rfl, psy, _, 1, _, rfl, rfl, SqT.of spsy, atI_nat (j := 1) rfl, l, _, _, rfl, rfl, el, small1000 (by rw [List.length_map]; omega), ?_⟩
   have nl : psy ≠ l := ne_of_none hpsy hl
   have spsy2 : upd H' l (.lst ((singL (ps.take i)).map V.str ++ [.str x1])) psy = some (.tup (.str (ruS pq.2.hd) :: [.str x1, v2])) := by rw [upd_ne nl]; exact spsy
   refine ⟨_, rfl, psy, _, 0, _, rfl, rfl, SqT.of spsy2, atI_nat (j := 0) rfl, rfl, _, rfl, ?_⟩
   rw [hd2', decide_eq_false (by rw [c1]; intro z; cases z)]
   refine iteF ⟨⟨_, _, rfl⟩, same_upd sm hl, ?_⟩
   rw [upd_same, e1, List.map_append]
   rfl
  ·rw [decide_eq_false c1]
   refine iteF ⟨_, rfl, psy, _, 0, _, rfl, rfl, SqT.of (sm _ _ hpsy), atI_nat (j := 0) rfl, rfl, _, rfl, ?_⟩
   rw [hd2']
   by_cases c2 : pq.2.hd = .tied
   ·rw [decide_eq_true c2]
    obtain ⟨x1, x2, x3, e2⟩ := hd_tied c2
    rw [e2] at hk e1
    obtain ⟨v1, v2, v3, rfl, i1, i2, i3⟩ := kl_three hk
    obtain rfl : v1 = .str x1 := i1
    obtain rfl : v2 = .str x2 := i2
    obtain rfl : v3 = .str x3 := i3
    have spsy := sm _ _ hpsy
    have nl : psy ≠ l := ne_of_none hpsy hl
    have spsy2 : upd H' l (.lst ((singL (ps.take i)).map V.str ++ [.str x1])) psy = some (.tup (.str (ruS pq.2.hd) :: [.str x1, .str x2, .str x3])) := by rw [upd_ne nl]; exact spsy
    refine iteT ⟨_, rfl, .inl ⟨rfl, _, SqL.of el⟩, _, rfl, psy, _, 1, _, rfl, rfl, SqT.of spsy, atI_nat (j := 1) rfl, l, _, _, rfl, rfl, el, small1000 (by rw [List.length_map]; omega), ?_⟩
    refine ⟨_, rfl, .inl ⟨rfl, _, SqL.of upd_same⟩, _, rfl, psy, _, 3, _, rfl, rfl, SqT.of spsy2, atI_nat (j := 3) rfl, l, _, _, rfl, rfl, upd_same, small1000 (by rw [List.length_append, List.length_map]; show _ + 1 ≤ _; omega), ⟨_, _, rfl⟩, ?_, ?_⟩
    ·rw [upd_upd]; exact same_upd sm hl
    ·rw [upd_same, e1, List.map_append, List.append_assoc]
     rfl
   ·rw [decide_eq_false c2]
    refine iteF ⟨⟨_, _, rfl⟩, sm, ?_⟩
    have : pq.2.things = [] := by
     cases h : pq.2 with
     | thing a b => rw [h] at c1; exact absurd rfl c1
     | tied a b c => rw [h] at c2; exact absurd rfl c2
     | _ => rfl
    rw [e1, this, List.append_nil]
    exact el
 ·rintro σ H' ⟨⟨o2, o3, rfl⟩, sm, el⟩
  rw [lL, List.take_length] at el
  exact ⟨_, rfl, q l H' sm hl el⟩
end
end K17
namespace K17
open PySem L2
def fromNone (r : Ru) (f : Fa) (sy : Option Sy) (sg : List Str) : Bool :=
 match sy with
 | none => if r = .self then !singleB f.x && decide (f = .is f.x f.x) else if r = .all then decide (f = .is f.x anyK) && (!singleB f.x || inK f.x sg) else false
 | some s => if s.hd = r then (match s with | .thing x k => decide (f = .is (.nm x) k) | .tied x t y => decide (f = .has (.nm x) t (.nm y)) | _ => false) else false
def spF0 : Sp := fun vs H Q _ => ∃ (z : Str) (r : Ru) (vc sv : V) (f : Fa) (sy : Option Sy) (l : Addr) (sg : List Str), vs = [.str z, vc, sv, .ref l] ∧ IsRu r z ∧ IsF H f vc ∧ okF f ∧ IsSo H sy sv ∧ H l = some (.lst (sg.map V.str)) ∧
 ∀ H', Same H H' → Q (.bl (fromNone r f sy sg)) H'
def fromOne (r : Ru) (f o : Fa) : Option Sy → Bool
 | some (.every a b) => if r = .every ∧ o = .is o.x a then decide (f = .is o.x b) else false
 | some (.within s t) => (match o with | .has x u y => if r = .within ∧ u = s then decide (f = .has x t y) else false | _ => false)
 | some _ => false
 | none => (match o with
  | .is x (.som t k) => decide (r = .some) && decide (f = .has x t k)
  | .is x (.two a b) => if r = .first then decide (f = .is x a) else decide (r = .second) && decide (f = .is x b)
  | _ => false)
def spF1 : Sp := fun vs H Q _ => ∃ (z : Str) (r : Ru) (vc vo sv : V) (f o : Fa) (sy : Option Sy), vs = [.str z, vc, vo, sv] ∧ IsRu r z ∧ IsF H f vc ∧ okF f ∧ IsF H o vo ∧ okF o ∧ IsSo H sy sv ∧
 ∀ H', Same H H' → Q (.bl (fromOne r f o sy)) H'
def fromTwo (r : Ru) (f o u : Fa) (sy : Option Sy) : Bool :=
 match o with
 | .is x k => (match u with
  | .has _ _ _ => false
  | .is z l => if z = x then (match sy with
   | none => decide (r = .both) && decide (f = .is x (.two k l))
   | some s => decide (r = .no) && (decide (s = .no k l) && decide (f = .is x nothK))) else false)
 | .has x t y => if u.x = y then (match sy with
  | some s => (match u with
   | .is _ _ => false
   | .has _ t2 y2 => (match s with | .makes a b c => if r = .makes ∧ a = t ∧ b = t2 then decide (f = .has x c y2) else false | _ => false))
  | none => (match u with
   | .has _ _ _ => false
   | .is _ l => if r = .tie then decide (f = .is x (.som t l)) else decide (r = .none) && (decide (l = nothK) && decide (f = .is x nothK)))) else false
def spF2 : Sp := fun vs H Q _ => ∃ (z : Str) (r : Ru) (vc vo vu sv : V) (f o u : Fa) (sy : Option Sy), vs = [.str z, vc, vo, vu, sv] ∧ IsRu r z ∧ IsF H f vc ∧ okF f ∧ IsF H o vo ∧ okF o ∧ IsF H u vu ∧ okF u ∧ IsSo H sy sv ∧ (∀ s, sy = some s → s.lo 8) ∧
 ∀ H', Same H H' → Q (.bl (fromTwo r f o u sy)) H'
theorem ru_dec {r : Ru} {z : Str} (h : IsRu r z) (q : Ru) (y : Str) (e : y = ruS q) (hq : q ≠ .oth) : decide (V.str z = V.str y) = decide (r = q) := by subst e; exact h.dec hq
theorem hd_dec (s : Sy) (q : Ru) (y : Str) (e : y = ruS q) (hq : q ≠ .oth) : decide (V.str (ruS s.hd) = V.str y) = decide (s.hd = q) := ru_dec (.of s.hd_ne) q y e hq
theorem hd_ru {r : Ru} {z : Str} (h : IsRu r z) (s : Sy) : decide (V.str (ruS s.hd) = V.str z) = decide (s.hd = r) := by
 rw [show decide (V.str (ruS s.hd) = V.str z) = decide (V.str z = V.str (ruS s.hd)) by rw [decide_eq_decide]; exact eq_comm, h.dec s.hd_ne, decide_eq_decide]
 exact eq_comm
theorem sx1 (x : V) (xs : List V) : ¬ (HT.sIx (x :: xs).length 0 (some 1) = 0 ∧ HT.sIx (x :: xs).length (x :: xs).length none = (x :: xs).length) := sIx1 x xs
theorem flat_strs : ∀ l : List Str, (l.map V.str).all flatV = true
 | [] => rfl
 | _ :: l => by rw [List.map_cons, List.all_cons, flat_strs l]; rfl
theorem in_strs (x : Str) : ∀ l : List Str, inV (.str x) (l.map V.str) = decide (x ∈ l)
 | [] => by simp [inV]
 | y :: l => by
  have ih := in_strs x l
  unfold inV at ih ⊢
  rw [List.map_cons, List.any_cons, ih]
  by_cases c : y = x
  ·subst c; simp [eqV]
  ·have c' : ¬ x = y := fun z => c z.symm
   simp [eqV, c, c']
theorem kit_tt (K : PySem.W.Frag) : PySem.W.kitOne K (.type "tuple") (.type "tuple") = some true := by first | rfl | decide | with_unfolding_all rfl
theorem kit_st (K : PySem.W.Frag) : PySem.W.kitOne K (.type "str") (.type "tuple") = some false := by first | rfl | decide | with_unfolding_all rfl
section
variable {P : Program} {w : World} {K : PySem.W.Frag} {mg : Str → Option Value} {base : Heap} {f g e d a1 a2 a3 a4 a5 aW aF aB aR aM : Addr} {fd gd' ed dd d1 d2 d3 d4 d5 : FuncData}
theorem scF0 : FnScope ["_law_rule", "_law_claim", "_law_saying_here", "_law_singles_here", "_law_x"] ["_law_rule", "_law_claim", "_law_saying_here", "_law_singles_here"] (defScope sFNone) := ⟨rfl, rfl, rfl, by decide +kernel, rfl, by decide +kernel, by decide +kernel⟩
theorem ok_f0 (F : Fun K "_law_from_none" "_law_from_none" sFNone f fd) (Gsg : FnOk P w K mg base CX0 1 a1 d1 ["_law_x"] spSingle) (bGsg : Binds K d1 ["_law_x"] []) (kGsg : PySem.W.keepIn K (.ref a1) = true) (mGsg : mg "_law_single" = some (.ref a1)) :
  FnOk P w K mg base CX0 2 f fd ["_law_rule", "_law_claim", "_law_saying_here", "_law_singles_here"] spF0 := by
 refine F.ok scF0 (fun vs H Q E h => ?_) (fun cdv A outer s H vs Q E hr h => ?_)
 ·obtain ⟨z, r, vc, sv, f, sy, l, sg, rfl, _⟩ := h; rfl
 obtain ⟨z, r, vc, sv, f0, sy, l, sg, rfl, hz, hf, ⟨hlo, hlen⟩, hs, hl, q⟩ := h
 have hrsg := hr
 refine ⟨_, @pss_cons _ _ _ _ _ (by exact ps_set (i := 4) scF0.nd rfl (Or.inl rfl) (pe_ix ix_tup (pv 1) pe_int (fun _ _ => rfl)))
  (@pss_cons _ _ _ _ _ (by exact ps_if (PW.pt (pw_and (pt_cmpR op_isN (pv 2) pe_non rfl) (pw_and1 (pt_cmpR op_eq (pv 0) pe_str (nomark _))))) (@pss_one _ _ _ (by exact @ps_ret _ _ _ _ (pe_and (pe_not (pe_call Gsg hrsg rfl mGsg kGsg bGsg .nil pass0 (pa_cons (pv 4) pa_nil))) (pe_one (pe_cmpR (op_eqX hr.units) (pv 1) (@pe_tup _ _ _ _ _ (pa_cons pe_str (pa_cons (pv 4) (pa_cons (pv 4) pa_nil)))) (nomark _)))))) pss_nil)
  (@pss_cons _ _ _ _ _ (by exact ps_if (PW.pt (pw_and (pt_cmpR op_isN (pv 2) pe_non rfl) (pw_and1 (pt_cmpR op_eq (pv 0) pe_str (nomark _))))) (@pss_one _ _ _ (by exact @ps_ret _ _ _ _ (pe_and (pe_cmpR (op_eqX hr.units) (pv 1) (@pe_tup _ _ _ _ _ (pa_cons pe_str (pa_cons (pv 4) (pa_cons pe_str pa_nil)))) (nomark _)) (pe_one (pe_or (pe_not (pe_call Gsg hrsg rfl mGsg kGsg bGsg .nil pass0 (pa_cons (pv 4) pa_nil))) (pe_one (pe_cmpR op_in_seq (pv 4) (pv 3) rfl))))))) pss_nil)
  (@pss_cons _ _ _ _ _ (by exact ps_if (PW.pt (pw_or (pt_cmpR op_isN (pv 2) pe_non rfl) (pw_or1 (pt_cmpR op_ne (pe_ix ix_tup (pv 2) pe_int (fun _ _ => rfl)) (pv 0) (nomark _))))) (@pss_one _ _ _ (by exact @ps_ret _ _ _ _ pe_bl)) pss_nil)
  (@pss_cons _ _ _ _ _ (by exact ps_if (pt_cmpR op_eq (pv 0) pe_str (nomark _)) (@pss_one _ _ _ (by exact @ps_ret _ _ _ _ (pe_cmpR (op_eqX hr.units) (pv 1) (@pe_tup _ _ _ _ _ (pa_cons pe_str (pa_cons (pe_ix ix_tup (pv 2) pe_int (fun _ _ => rfl)) (pa_cons (pe_ix ix_tup (pv 2) pe_int (fun _ _ => rfl)) pa_nil)))) (nomark _)))) pss_nil)
  (@pss_one _ _ _ (by exact @ps_ret _ _ _ _ (pe_and (pe_cmpR op_eq (pv 0) pe_str (nomark _)) (pe_one (pe_cmpR (op_eqX hr.units) (pv 1) (pe_op op_catT (@pe_tup _ _ _ _ _ (pa_cons pe_str pa_nil)) (pe_slice sl_tup (pv 2) (po_some pe_int) po_none)) (nomark _)))))))))), ?_⟩
 obtain ⟨pf, ys, a, rfl, hpf, _, e1, ka⟩ := hf.sh
 refine ⟨_, rfl, pf, _, 1, _, rfl, rfl, SqT.of hpf, atI_nat (j := 1) e1, ?_⟩
 have r1 := ru_dec hz .self "self" rfl (by intro z; cases z)
 have r2 := ru_dec hz .all "all" rfl (by intro z; cases z)
 have r3 := ru_dec hz .thing "thing" rfl (by intro z; cases z)
 have r4 := ru_dec hz .tied "tied" rfl (by intro z; cases z)
 cases sy with
 | none =>
  obtain rfl : sv = .non := hs
  refine ⟨_, rfl, rfl, _, rfl, iteT ⟨_, rfl, rfl, _, rfl, ?_⟩⟩
  rw [r1]
  by_cases c1 : r = .self
  ·rw [decide_eq_true c1]
   have em : fromNone r f0 none sg = (!singleB f0.x && decide (f0 = .is f0.x f0.x)) := by unfold fromNone; exact if_pos c1
   rw [em] at q
   refine iteT ⟨_, rfl, a, f0.x, rfl, ka, hlen, _, rfl, _, rfl, ?_⟩
   cases cs : singleB f0.x with
   | true =>
    rw [cs] at q
    exact iteF (q H (Same.refl H))
   | false =>
    rw [cs] at q
    refine iteT ⟨_, rfl, _, rfl, _, rfl, le3, fun t ht => ?_⟩
    have s1 := same_new ht (.tup [.str "is", a, a])
    refine ⟨f0.tx, (Fa.is f0.x f0.x).tx, (hf.mono s1.tups).xa, (isF_new ht ka ka).xa, Fa.dp60 hlo, ?_⟩
    rw [Fa.dec]
    exact q _ s1
  rw [decide_eq_false c1]
  refine iteF ⟨_, rfl, rfl, _, rfl, iteT ⟨_, rfl, rfl, _, rfl, ?_⟩⟩
  rw [r2]
  by_cases c2 : r = .all
  ·rw [decide_eq_true c2]
   have em : fromNone r f0 none sg = (decide (f0 = .is f0.x anyK) && (!singleB f0.x || inK f0.x sg)) := by unfold fromNone; exact (if_neg c1).trans (if_pos c2)
   rw [em] at q
   refine iteT ⟨_, rfl, _, rfl, le3, fun t ht => ?_⟩
   have s1 := same_new ht (.tup [.str "is", a, .str "anything"])
   refine ⟨f0.tx, (Fa.is f0.x anyK).tx, (hf.mono s1.tups).xa, (isF_new (k := anyK) ht ka rfl).xa, Fa.dp60 hlo, _, rfl, ?_⟩
   rw [Fa.dec]
   refine ite2 (fun c => ?_) (fun c => ?_)
   ·rw [c, Bool.true_and] at q
    refine ⟨_, rfl, a, f0.x, rfl, ka.mono s1.tups, hlen, _, rfl, _, rfl, ?_⟩
    cases cs : singleB f0.x with
    | false =>
     rw [cs] at q
     exact iteT (q _ s1)
    | true =>
     rw [cs] at q
     refine iteF ?_
     cases ex : f0.x with
     | two u v => rw [ex] at cs; cases cs
     | som u v => rw [ex] at cs; cases cs
     | nm y =>
      rw [ex] at q ka
      obtain rfl : a = .str y := ka
      refine ⟨_, rfl, _, rfl, l, _, rfl, .inl (SqL.of (s1 _ _ hl)), rfl, flat_strs sg, ?_⟩
      show Q (.bl (inV (.str y) (sg.map V.str))) _
      rw [in_strs]
      exact q _ s1
   ·rw [Bool.eq_false_iff.mpr c, Bool.false_and] at q
    exact q _ s1
  rw [decide_eq_false c2]
  have em : fromNone r f0 none sg = false := by unfold fromNone; exact (if_neg c1).trans (if_neg c2)
  rw [em] at q
  exact iteF ⟨_, rfl, rfl, _, rfl, iteT (iteT (q H (Same.refl H)))⟩
 | some sy =>
  obtain ⟨p, xs, rfl, hp, hk⟩ := hs
  refine ⟨_, rfl, rfl, _, rfl, iteF (iteF ⟨_, rfl, rfl, _, rfl, iteF (iteF ⟨_, rfl, rfl, _, rfl, iteF ?_⟩)⟩)⟩
  refine ⟨_, rfl, p, _, 0, _, rfl, rfl, SqT.of hp, atI_nat (j := 0) rfl, _, rfl, rfl, _, rfl, ?_⟩
  rw [hd_ru hz]
  by_cases c1 : sy.hd = r
  ·rw [decide_eq_true c1]
   refine iteF ⟨_, rfl, rfl, _, rfl, ?_⟩
   rw [r3]
   by_cases c2 : r = .thing
   ·rw [decide_eq_true c2]
    obtain ⟨x1, k1, rfl⟩ := hd_thing (c1.trans c2)
    have em : fromNone r f0 (some (.thing x1 k1)) sg = decide (f0 = .is (.nm x1) k1) := by unfold fromNone; exact if_pos c1
    rw [em] at q
    obtain ⟨v1, v2, rfl, i1, i2⟩ := kl_two hk
    refine iteT ⟨_, rfl, _, rfl, p, _, 1, _, rfl, rfl, SqT.of hp, atI_nat (j := 1) rfl, _, rfl, p, _, 2, _, rfl, rfl, SqT.of hp, atI_nat (j := 2) rfl, le3, fun t ht => ?_⟩
    have s1 := same_new ht (.tup [.str "is", v1, v2])
    refine ⟨f0.tx, (Fa.is (.nm x1) k1).tx, (hf.mono s1.tups).xa, (isF_new ht i1 i2).xa, Fa.dp60 hlo, ?_⟩
    rw [Fa.dec]
    exact q _ s1
   rw [decide_eq_false c2]
   refine iteF ⟨_, rfl, rfl, _, rfl, ?_⟩
   rw [r4]
   by_cases c3 : r = .tied
   ·rw [decide_eq_true c3]
    obtain ⟨x1, x2, x3, rfl⟩ := hd_tied (c1.trans c3)
    have em : fromNone r f0 (some (.tied x1 x2 x3)) sg = decide (f0 = .has (.nm x1) x2 (.nm x3)) := by unfold fromNone; exact if_pos c1
    rw [em] at q
    obtain ⟨v1, v2, v3, rfl, i1, i2, i3⟩ := kl_three hk
    obtain rfl : v2 = .str x2 := i2
    refine iteT ⟨_, rfl, le1, fun t1 ht1 => ?_⟩
    have s1 := same_new ht1 (.tup [.str "has"])
    refine ⟨_, rfl, 1, rfl, p, _, rfl, SqT.of (s1 _ _ hp), sx1 _ _, fun t2 ht2 => ?_⟩
    rw [cut1]
    have s2 := same_new ht2 (.tup [v1, .str x2, v3])
    refine ⟨t1, t2, _, _, rfl, rfl, SqT.of (s2 _ _ upd_same), SqT.of upd_same, by simp, small2 (by show 1 + 3 ≤ 1000; decide), fun z => (by cases z), fun _ t3 ht3 => ?_⟩
    have s3 := same_new ht3 (.tup ([.str "has"] ++ [v1, .str x2, v3]))
    have s123 := (s1.trans s2).trans s3
    have i3' : IsF _ (Fa.has (.nm x1) x2 (.nm x3)) (.ref t3) := hasF_new (H := upd (upd H t1 (.tup [.str "has"])) t2 (.tup [v1, .str x2, v3])) (t := x2) ht3 (i1.mono (s1.trans s2).tups) (i3.mono (s1.trans s2).tups)
    refine ⟨f0.tx, (Fa.has (.nm x1) x2 (.nm x3)).tx, (hf.mono s123.tups).xa, i3'.xa, Fa.dp60 hlo, ?_⟩
    rw [Fa.dec]
    exact q _ s123
   ·rw [decide_eq_false c3]
    have em : fromNone r f0 (some sy) sg = false := by
     unfold fromNone
     cases sy with
     | thing a b => exact absurd c1.symm c2
     | tied a b c => exact absurd c1.symm c3
     | _ => exact if_pos c1
    rw [em] at q
    exact iteF (q H (Same.refl H))
  ·rw [decide_eq_false c1]
   have em : fromNone r f0 (some sy) sg = false := by unfold fromNone; exact if_neg c1
   rw [em] at q
   exact iteT (q H (Same.refl H))
theorem scF1 : FnScope ["_law_rule", "_law_claim", "_law_one", "_law_saying_here", "_law_x", "_law_kind_here"] ["_law_rule", "_law_claim", "_law_one", "_law_saying_here"] (defScope sFOne) := ⟨rfl, rfl, rfl, by decide +kernel, rfl, by decide +kernel, by decide +kernel⟩
theorem ok_f1 (F : Fun K "_law_from_one" "_law_from_one" sFOne f fd) (mi : mg "isinstance" = none) (mt : mg "tuple" = none) :
  FnOk P w K mg base CX0 1 f fd ["_law_rule", "_law_claim", "_law_one", "_law_saying_here"] spF1 := by
 refine F.ok scF1 (fun vs H Q E h => ?_) (fun cdv A outer s H vs Q E hr h => ?_)
 ·obtain ⟨z, r, vc, vo, sv, f, o, sy, rfl, _⟩ := h; rfl
 obtain ⟨z, r, vc, vo, sv, f0, o, sy, rfl, hz, hf, ⟨hlo, hlen⟩, ho, ⟨hoo, hol⟩, hs, q⟩ := h
 refine ⟨_, @pss_cons _ _ _ _ _ (by exact ps_set (i := 4) scF1.nd rfl (Or.inl rfl) (pe_ix ix_tup (pv 2) pe_int (fun _ _ => rfl)))
  (@pss_cons _ _ _ _ _ (by exact ps_set (i := 5) scF1.nd rfl (Or.inl rfl) (pe_ix ix_tup (pv 2) pe_int (fun _ _ => rfl)))
  (@pss_cons _ _ _ _ _ (by exact ps_if (pt_cmpR op_notN (pv 3) pe_non rfl) (@pss_cons _ _ _ _ _ (by exact ps_if (PW.pt (pw_and (pt_cmpR op_eq (pv 0) pe_str (nomark _)) (pw_and (pt_cmpR op_eq (pe_ix ix_tup (pv 3) pe_int (fun _ _ => rfl)) pe_str (nomark _)) (pw_and1 (pt_cmpR (op_eqX hr.units) (pv 2) (@pe_tup _ _ _ _ _ (pa_cons pe_str (pa_cons (pv 4) (pa_cons (pe_ix ix_tup (pv 3) pe_int (fun _ _ => rfl)) pa_nil)))) (nomark _)))))) (@pss_one _ _ _ (by exact @ps_ret _ _ _ _ (pe_cmpR (op_eqX hr.units) (pv 1) (@pe_tup _ _ _ _ _ (pa_cons pe_str (pa_cons (pv 4) (pa_cons (pe_ix ix_tup (pv 3) pe_int (fun _ _ => rfl)) pa_nil)))) (nomark _)))) pss_nil) (@pss_cons _ _ _ _ _ (by exact ps_if (PW.pt (pw_and (pt_cmpR op_eq (pv 0) pe_str (nomark _)) (pw_and (pt_cmpR op_eq (pe_ix ix_tup (pv 3) pe_int (fun _ _ => rfl)) pe_str (nomark _)) (pw_and (pt_cmpR op_eq (pe_ix ix_tup (pv 2) pe_int (fun _ _ => rfl)) pe_str (nomark _)) (pw_and1 (pt_cmpR op_eq (pv 5) (pe_ix ix_tup (pv 3) pe_int (fun _ _ => rfl)) (nomark _))))))) (@pss_one _ _ _ (by exact @ps_ret _ _ _ _ (pe_cmpR (op_eqX hr.units) (pv 1) (@pe_tup _ _ _ _ _ (pa_cons pe_str (pa_cons (pv 4) (pa_cons (pe_ix ix_tup (pv 3) pe_int (fun _ _ => rfl)) (pa_cons (pe_ix ix_tup (pv 2) pe_int (fun _ _ => rfl)) pa_nil))))) (nomark _)))) pss_nil) (@pss_one _ _ _ (by exact @ps_ret _ _ _ _ pe_bl)))) pss_nil)
  (@pss_cons _ _ _ _ _ (by exact ps_if (PW.pt (pw_or (pt_cmpR op_eq (pe_ix ix_tup (pv 2) pe_int (fun _ _ => rfl)) pe_str (nomark _)) (pw_or1 (pt_not (pt_val (pe_callB call_isinst rfl mi PyProof.Rows.boot_isinstance (pa_cons (pv 5) (pa_cons (pe_bltn (v := .ty "tuple") rfl mt PyProof.Rows.boot_tuple rfl) pa_nil)))))))) (@pss_one _ _ _ (by exact @ps_ret _ _ _ _ pe_bl)) pss_nil)
  (@pss_cons _ _ _ _ _ (by exact ps_if (pt_cmpR op_eq (pe_ix ix_tup (pv 5) pe_int (fun _ _ => rfl)) pe_str (nomark _)) (@pss_one _ _ _ (by exact @ps_ret _ _ _ _ (pe_and (pe_cmpR op_eq (pv 0) pe_str (nomark _)) (pe_one (pe_cmpR (op_eqX hr.units) (pv 1) (@pe_tup _ _ _ _ _ (pa_cons pe_str (pa_cons (pv 4) (pa_cons (pe_ix ix_tup (pv 5) pe_int (fun _ _ => rfl)) (pa_cons (pe_ix ix_tup (pv 5) pe_int (fun _ _ => rfl)) pa_nil))))) (nomark _)))))) pss_nil)
  (@pss_cons _ _ _ _ _ (by exact ps_if (pt_cmpR op_eq (pv 0) pe_str (nomark _)) (@pss_one _ _ _ (by exact @ps_ret _ _ _ _ (pe_cmpR (op_eqX hr.units) (pv 1) (@pe_tup _ _ _ _ _ (pa_cons pe_str (pa_cons (pv 4) (pa_cons (pe_ix ix_tup (pv 5) pe_int (fun _ _ => rfl)) pa_nil)))) (nomark _)))) pss_nil)
  (@pss_one _ _ _ (by exact @ps_ret _ _ _ _ (pe_and (pe_cmpR op_eq (pv 0) pe_str (nomark _)) (pe_one (pe_cmpR (op_eqX hr.units) (pv 1) (@pe_tup _ _ _ _ _ (pa_cons pe_str (pa_cons (pv 4) (pa_cons (pe_ix ix_tup (pv 5) pe_int (fun _ _ => rfl)) pa_nil)))) (nomark _))))))))))), ?_⟩
 have r1 := ru_dec hz .every "every" rfl (by intro z; cases z)
 have r2 := ru_dec hz .within "within" rfl (by intro z; cases z)
 have r3 := ru_dec hz .some "some" rfl (by intro z; cases z)
 have r4 := ru_dec hz .first "first" rfl (by intro z; cases z)
 have r5 := ru_dec hz .second "second" rfl (by intro z; cases z)
 obtain ⟨po, ys, a, c, rfl, hpo, e0, e1, e2, ka⟩ : ∃ (po : Addr) (ys : List V) (a c : V), vo = .ref po ∧ H po = some (.tup ys) ∧ ys[0]? = some (.str o.hs) ∧ ys[1]? = some a ∧ ys[2]? = some c ∧ IsK H o.x a := by
  cases o with
  | is x k => obtain ⟨p, a, b, e, h, ha, hb⟩ := ho; exact ⟨p, _, a, b, e, h, rfl, rfl, rfl, ha⟩
  | has x t y => obtain ⟨p, a, b, e, h, ha, hb⟩ := ho; exact ⟨p, _, a, .str t, e, h, rfl, rfl, rfl, ha⟩
 refine ⟨_, rfl, po, _, 1, _, rfl, rfl, SqT.of hpo, atI_nat (j := 1) e1, ?_⟩
 refine ⟨_, rfl, po, _, 2, _, rfl, rfl, SqT.of hpo, atI_nat (j := 2) e2, ?_⟩
 cases sy with
 | some sy =>
  obtain ⟨p, xs, rfl, hp, hk⟩ := hs
  refine ⟨_, rfl, rfl, _, rfl, iteT ?_⟩
  have no2 : ∀ H1, Same H H1 → fromOne r f0 o (some sy) = false → ¬ (r = .within ∧ sy.hd = .within) → tIfS (tAnd (tTest (tOp rEq (tVar 0) (tC (.str "within")))) (tAnd (tTest (tOp rEq (tOp (rIxT K) (tVar 3) (tC (.int 0))) (tC (.str "within")))) (tAnd (tTest (tOp rEq (tOp (rIxT K) (tVar 2) (tC (.int 0))) (tC (.str "has")))) (tTest (tOp rEq (tVar 5) (tOp (rIxT K) (tVar 3) (tC (.int 1)))))))) (tRet (tOp rEqX (tVar 1) (tTup (tCons (tC (.str "has")) (tCons (tVar 4) (tCons (tOp (rIxT K) (tVar 3) (tC (.int 2))) (tCons (tOp (rIxT K) (tVar 2) (tC (.int 3))) tNil))))))) tNext { nx := tRet (tC (.bl false)) { nx := fun _ H' => Q .non H', rt := Q }, rt := Q } [some (.str z), some vc, some (.ref po), some (.ref p), some a, some c] H1 := by
   intro H1 s1 ef hn
   refine ⟨_, rfl, rfl, _, rfl, ?_⟩
   rw [r2]
   by_cases d1 : r = .within
   ·rw [decide_eq_true d1]
    refine iteT ⟨_, rfl, p, _, 0, _, rfl, rfl, SqT.of (s1 _ _ hp), atI_nat (j := 0) rfl, rfl, _, rfl, ?_⟩
    rw [hd_dec sy .within "within" rfl (by intro z; cases z), decide_eq_false (fun y => hn ⟨d1, y⟩)]
    exact iteF (iteF (by have := q H1 s1; rw [ef] at this; exact this))
   ·rw [decide_eq_false d1]
    exact iteF (iteF (by have := q H1 s1; rw [ef] at this; exact this))
  refine ⟨_, rfl, rfl, _, rfl, ?_⟩
  rw [r1]
  by_cases d1 : r = .every
  ·rw [decide_eq_true d1]
   refine iteT ⟨_, rfl, p, _, 0, _, rfl, rfl, SqT.of hp, atI_nat (j := 0) rfl, rfl, _, rfl, ?_⟩
   rw [hd_dec sy .every "every" rfl (by intro z; cases z)]
   have nw : ¬ (r = .within ∧ sy.hd = .within) := fun y => by rw [d1] at y; cases y.1
   by_cases d2 : sy.hd = .every
   ·rw [decide_eq_true d2]
    obtain ⟨k1, k2, rfl⟩ := hd_every d2
    obtain ⟨v1, v2, rfl, i1, i2⟩ := kl_two hk
    refine iteT ⟨_, rfl, _, rfl, _, rfl, p, _, 1, _, rfl, rfl, SqT.of hp, atI_nat (j := 1) rfl, le3, fun t ht => ?_⟩
    have s1 := same_new ht (.tup [.str "is", a, v1])
    refine ⟨o.tx, (Fa.is o.x k1).tx, (ho.mono s1.tups).xa, (isF_new ht ka i1).xa, Fa.dp60 hoo, _, rfl, ?_⟩
    rw [Fa.dec]
    have em : fromOne r f0 o (some (.every k1 k2)) = if r = .every ∧ o = .is o.x k1 then decide (f0 = .is o.x k2) else false := rfl
    refine ite2 (fun c => ?_) (fun c => ?_)
    ·have c' : o = .is o.x k1 := of_decide_eq_true c
     refine ⟨_, rfl, _, rfl, _, rfl, p, _, 2, _, rfl, rfl, SqT.of (s1 _ _ hp), atI_nat (j := 2) rfl, le3, fun t2 ht2 => ?_⟩
     have s2 := same_new ht2 (.tup [.str "is", a, v2])
     refine ⟨f0.tx, (Fa.is o.x k2).tx, (hf.mono (s1.trans s2).tups).xa, (isF_new ht2 (ka.mono s1.tups) (i2.mono s1.tups)).xa, Fa.dp60 hlo, ?_⟩
     rw [Fa.dec]
     have := q _ (s1.trans s2)
     rw [em, if_pos ⟨d1, c'⟩] at this
     exact this
    ·have c' : ¬ o = .is o.x k1 := fun y => c (decide_eq_true y)
     exact no2 _ s1 (by rw [em, if_neg (fun y => c' y.2)]) nw
   ·rw [decide_eq_false d2]
    refine iteF (no2 H (Same.refl H) ?_ nw)
    cases sy with
    | every a b => exact absurd rfl d2
    | within a b =>
     unfold fromOne
     cases o with
     | is x k => rfl
     | has x t y => exact if_neg (fun y => by rw [d1] at y; cases y.1)
    | _ => rfl
  rw [decide_eq_false d1]
  refine iteF ?_
  by_cases d2 : r = .within ∧ sy.hd = .within
  ·obtain ⟨k1, k2, rfl⟩ := hd_within d2.2
   obtain ⟨v1, v2, rfl, i1, i2⟩ := kl_two hk
   obtain rfl : v1 = .str k1 := i1
   obtain rfl : v2 = .str k2 := i2
   refine ⟨_, rfl, rfl, _, rfl, ?_⟩
   rw [r2, decide_eq_true d2.1]
   refine iteT ⟨_, rfl, p, _, 0, _, rfl, rfl, SqT.of hp, atI_nat (j := 0) rfl, rfl, _, rfl, ?_⟩
   rw [hd_dec (.within k1 k2) .within "within" rfl (by intro z; cases z), decide_eq_true d2.2]
   refine iteT ⟨_, rfl, po, _, 0, _, rfl, rfl, SqT.of hpo, atI_nat (j := 0) e0, rfl, _, rfl, ?_⟩
   rw [hs_has]
   cases o with
   | is x k =>
    have em : fromOne r f0 (.is x k) (some (.within k1 k2)) = false := rfl
    rw [em] at q
    exact iteF (iteF (q H (Same.refl H)))
   | has x t y =>
    obtain ⟨po', a', b', e, h, ha, hb⟩ := ho
    cases e
    rw [hpo] at h
    cases h
    cases e1
    cases e2
    have em : fromOne r f0 (.has x t y) (some (.within k1 k2)) = if r = .within ∧ t = k1 then decide (f0 = .has x k2 y) else false := rfl
    rw [em] at q
    refine iteT ⟨_, rfl, _, rfl, p, _, 1, _, rfl, rfl, SqT.of hp, atI_nat (j := 1) rfl, rfl, _, rfl, ?_⟩
    refine ite2 (fun c => ?_) (fun c => ?_)
    ·have c' : t = k1 := by have := of_decide_eq_true c; injection this
     rw [if_pos ⟨d2.1, c'⟩] at q
     refine ⟨_, rfl, _, rfl, _, rfl, p, _, 2, _, rfl, rfl, SqT.of hp, atI_nat (j := 2) rfl, _, rfl, po, _, 3, _, rfl, rfl, SqT.of hpo, atI_nat (j := 3) rfl, le4, fun t2 ht2 => ?_⟩
     have s2 := same_new ht2 (.tup [.str "has", a, .str k2, b'])
     refine ⟨f0.tx, (Fa.has x k2 y).tx, (hf.mono s2.tups).xa, (hasF_new ht2 ha hb).xa, Fa.dp60 hlo, ?_⟩
     rw [Fa.dec]
     exact q _ s2
    ·have c' : ¬ t = k1 := fun y => c (by rw [y]; exact decide_eq_true rfl)
     rw [if_neg (fun y => c' y.2)] at q
     exact q H (Same.refl H)
  ·refine no2 H (Same.refl H) ?_ d2
   cases sy with
   | every a b => exact if_neg (fun y => d1 y.1)
   | within a b =>
    unfold fromOne
    cases o with
    | is x k => rfl
    | has x t y => exact if_neg (fun y => d2 ⟨y.1, rfl⟩)
   | _ => rfl
 | none =>
  obtain rfl : sv = .non := hs
  refine ⟨_, rfl, rfl, _, rfl, iteF ?_⟩
  refine ⟨_, rfl, po, _, 0, _, rfl, rfl, SqT.of hpo, atI_nat (j := 0) e0, rfl, _, rfl, ?_⟩
  rw [hs_has]
  cases o with
  | has x t y =>
   have em : fromOne r f0 (.has x t y) none = false := rfl
   rw [em] at q
   exact iteT (iteT (q H (Same.refl H)))
  | is x k =>
   obtain ⟨po', a', b', e, h, ha, hb⟩ := ho
   cases e
   rw [hpo] at h
   cases h
   cases e1
   cases e2
   refine iteF ?_
   cases k with
   | nm y =>
    obtain rfl : c = .str y := hb
    have em : fromOne r f0 (.is x (.nm y)) none = false := rfl
    rw [em] at q
    exact ⟨_, rfl, _, _, _, false, rfl, TyOf.str y, kit_st K, _, rfl, iteT (q H (Same.refl H))⟩
   | som u k =>
    obtain ⟨p2, y1, rfl, h2, k2⟩ := hb
    refine ⟨_, rfl, _, _, _, true, rfl, TyOf.tup h2, kit_tt K, _, rfl, iteF ?_⟩
    refine ⟨_, rfl, p2, _, 0, _, rfl, rfl, SqT.of h2, atI_nat (j := 0) rfl, rfl, _, rfl, ?_⟩
    rw [str_self]
    have em : fromOne r f0 (.is x (.som u k)) none = (decide (r = .some) && decide (f0 = .has x u k)) := rfl
    rw [em] at q
    refine iteT ⟨_, rfl, rfl, _, rfl, ?_⟩
    rw [r3]
    refine ite2 (fun c => ?_) (fun c => ?_)
    ·rw [c, Bool.true_and] at q
     refine ⟨_, rfl, _, rfl, _, rfl, p2, _, 1, _, rfl, rfl, SqT.of h2, atI_nat (j := 1) rfl, _, rfl, p2, _, 2, _, rfl, rfl, SqT.of h2, atI_nat (j := 2) rfl, le4, fun t2 ht2 => ?_⟩
     have s2 := same_new ht2 (.tup [.str "has", a, .str u, y1])
     refine ⟨f0.tx, (Fa.has x u k).tx, (hf.mono s2.tups).xa, (hasF_new ht2 ha k2).xa, Fa.dp60 hlo, ?_⟩
     rw [Fa.dec]
     exact q _ s2
    ·rw [Bool.eq_false_iff.mpr c, Bool.false_and] at q
     exact q H (Same.refl H)
   | two k1 k2 =>
    obtain ⟨p2, x1, y1, rfl, h2, j1, j2⟩ := hb
    refine ⟨_, rfl, _, _, _, true, rfl, TyOf.tup h2, kit_tt K, _, rfl, iteF ?_⟩
    refine ⟨_, rfl, p2, _, 0, _, rfl, rfl, SqT.of h2, atI_nat (j := 0) rfl, rfl, _, rfl, ?_⟩
    rw [dec_str, beq_eq_false_iff_ne.mpr both_ne_some]
    have em : fromOne r f0 (.is x (.two k1 k2)) none = if r = .first then decide (f0 = .is x k1) else decide (r = .second) && decide (f0 = .is x k2) := rfl
    rw [em] at q
    refine iteF ⟨_, rfl, rfl, _, rfl, ?_⟩
    rw [r4]
    by_cases c4 : r = .first
    ·rw [decide_eq_true c4]
     rw [if_pos c4] at q
     refine iteT ⟨_, rfl, _, rfl, _, rfl, p2, _, 1, _, rfl, rfl, SqT.of h2, atI_nat (j := 1) rfl, le3, fun t2 ht2 => ?_⟩
     have s2 := same_new ht2 (.tup [.str "is", a, x1])
     refine ⟨f0.tx, (Fa.is x k1).tx, (hf.mono s2.tups).xa, (isF_new ht2 ha j1).xa, Fa.dp60 hlo, ?_⟩
     rw [Fa.dec]
     exact q _ s2
    rw [decide_eq_false c4]
    rw [if_neg c4] at q
    refine iteF ⟨_, rfl, rfl, _, rfl, ?_⟩
    rw [r5]
    refine ite2 (fun c => ?_) (fun c => ?_)
    ·rw [c, Bool.true_and] at q
     refine ⟨_, rfl, _, rfl, _, rfl, p2, _, 2, _, rfl, rfl, SqT.of h2, atI_nat (j := 2) rfl, le3, fun t2 ht2 => ?_⟩
     have s2 := same_new ht2 (.tup [.str "is", a, y1])
     refine ⟨f0.tx, (Fa.is x k2).tx, (hf.mono s2.tups).xa, (isF_new ht2 ha j2).xa, Fa.dp60 hlo, ?_⟩
     rw [Fa.dec]
     exact q _ s2
    ·rw [Bool.eq_false_iff.mpr c, Bool.false_and] at q
     exact q H (Same.refl H)
end
end K17
namespace K17
open PySem L2
theorem Xa.mono_n {H H' : Hp} (s : Same H H') (n : Nat) : ∀ (d : Tx) (v : V), d.dp ≤ n → Xa H d v → Xa H' d v := by
 induction n with
 | zero =>
  intro d v hn h
  cases d with
  | tup ds => simp only [Tx.dp] at hn; omega
  | lst ds => simp only [Tx.dp] at hn; omega
  | non => exact h
  | int i => exact h
  | str i => exact h
 | succ n ih =>
  have many : ∀ (ds : List Tx) (xs : List V), xdps ds ≤ n → Xas H ds xs → Xas H' ds xs := by
   intro ds
   induction ds with
   | nil => intro xs _ h; exact h
   | cons d ds ihd =>
    rintro xs hn ⟨x, r, e, h1, h2⟩
    have m : max d.dp (xdps ds) ≤ n := hn
    exact ⟨x, r, e, ih d x (by omega) h1, ihd r (by omega) h2⟩
  intro d v hn h
  cases d with
  | non => exact h
  | int i => exact h
  | str i => exact h
  | tup ds =>
   simp only [Tx.dp] at hn
   obtain ⟨p, xs, e, h1, h2⟩ := (show ∃ p xs, v = .ref p ∧ H p = some (.tup xs) ∧ Xas H ds xs from h)
   exact ⟨p, xs, e, s _ _ h1, many ds xs (by omega) h2⟩
  | lst ds =>
   simp only [Tx.dp] at hn
   obtain ⟨p, xs, e, h1, h2⟩ := (show ∃ p xs, v = .ref p ∧ H p = some (.lst xs) ∧ Xas H ds xs from h)
   exact ⟨p, xs, e, s _ _ h1, many ds xs (by omega) h2⟩
theorem xaMono {H H' : Hp} {d : Tx} {v : V} (h : Xa H d v) (s : Same H H') : Xa H' d v := Xa.mono_n s d.dp d v (Nat.le_refl _) h
def pre3 (s : Sy) : Tx := .tup (.str (ruS s.hd) :: (s.parts.take 2).map Kd.tx)
theorem pre3_dec (s : Sy) (t u : Str) : decide (pre3 s = .tup [.str "makes", .str t, .str u]) = (match s with | .makes a b _ => decide (a = t ∧ b = u) | _ => false) := by
 by_cases h : s.hd = .makes
 ·obtain ⟨a, b, c, rfl⟩ := hd_makes h
  show _ = decide (a = t ∧ b = u)
  rw [decide_eq_decide]
  constructor
  ·intro e
   injection e with e
   injection e with _ e
   injection e with e1 e
   injection e with e2 _
   have e1' : Tx.str a = Tx.str t := e1
   have e2' : Tx.str b = Tx.str u := e2
   injection e1' with e1'
   injection e2' with e2'
   exact ⟨e1', e2'⟩
  ·rintro ⟨rfl, rfl⟩
   rfl
 ·have e : ¬ pre3 s = .tup [.str "makes", .str t, .str u] := by
   intro e
   injection e with e
   injection e with e _
   injection e with e
   exact h (ruS_inj _ (ruL_all _ s.hd_ne) _ (ruL_all .makes (by intro z; cases z)) e)
  rw [decide_eq_false e]
  cases s with
  | makes a b c => exact absurd rfl h
  | _ => rfl
theorem pre3_no {s : Sy} (h : s.hd ≠ .makes) (t u : Str) : decide (pre3 s = .tup [.str "makes", .str t, .str u]) = false := by
 rw [pre3_dec]
 cases s with
 | makes a b c => exact absurd rfl h
 | _ => rfl
theorem pre3_dp {s : Sy} (h : s.lo 8) : (pre3 s).dp ≤ 60 := by
 have : xdps (Tx.str (ruS s.hd) :: (s.parts.take 2).map Kd.tx) ≤ 8 := xdps_le fun d hd => by
  rcases List.mem_cons.mp hd with rfl | hd
  ·exact Nat.zero_le _
  ·obtain ⟨k, hk, rfl⟩ := List.mem_map.mp hd
   rw [Kd.tx_dp]
   exact h k (List.mem_of_mem_take hk)
 show 1 + _ ≤ 60
 omega
theorem cut3 (x a b c : V) : cutV [x, a, b, c] none (some 3) = [x, a, b] := by
 have h1 : HT.sIx 4 4 (some ((3 : Nat) : Int)) = 3 := by rw [HT.sIx_nat]; rfl
 have h2 : HT.sIx 4 0 none = 0 := rfl
 show ([x, a, b, c].drop (HT.sIx 4 0 none)).take (HT.sIx 4 4 (some 3) - HT.sIx 4 0 none) = _
 rw [show (some 3 : Option Int) = some ((3 : Nat) : Int) from rfl, h1, h2]
 rfl
theorem six43 : ¬ (HT.sIx 4 0 none = 0 ∧ HT.sIx 4 4 (some 3) = 4) := by
 have h1 : HT.sIx 4 4 (some ((3 : Nat) : Int)) = 3 := by rw [HT.sIx_nat]; rfl
 rw [show (some 3 : Option Int) = some ((3 : Nat) : Int) from rfl, h1]
 omega
theorem six33 : HT.sIx 3 0 none = 0 ∧ HT.sIx 3 3 (some 3) = 3 := by
 have h1 : HT.sIx 3 3 (some ((3 : Nat) : Int)) = 3 := by rw [HT.sIx_nat]; rfl
 exact ⟨rfl, h1⟩
theorem f2_a {r : Ru} {f : Fa} {x k z l : Kd} {sy : Option Sy} (h : ¬ z = x) : fromTwo r f (.is x k) (.is z l) sy = false := if_neg h
theorem f2_b {r : Ru} {f : Fa} {x k z l : Kd} (h : z = x) : fromTwo r f (.is x k) (.is z l) none = (decide (r = .both) && decide (f = .is x (.two k l))) := if_pos h
theorem f2_c {r : Ru} {f : Fa} {x k z l : Kd} {s : Sy} (h : z = x) : fromTwo r f (.is x k) (.is z l) (some s) = (decide (r = .no) && (decide (s = .no k l) && decide (f = .is x nothK))) := if_pos h
theorem f2_d {r : Ru} {f u : Fa} {x y : Kd} {t : Str} {sy : Option Sy} (h : ¬ u.x = y) : fromTwo r f (.has x t y) u sy = false := if_neg h
theorem f2_e {r : Ru} {f : Fa} {x y z l : Kd} {t : Str} {s : Sy} (h : z = y) : fromTwo r f (.has x t y) (.is z l) (some s) = false := if_pos h
theorem f2_f {r : Ru} {f : Fa} {x y x2 y2 : Kd} {t t2 : Str} {a b c : Str} (h : x2 = y) : fromTwo r f (.has x t y) (.has x2 t2 y2) (some (.makes a b c)) = if r = .makes ∧ a = t ∧ b = t2 then decide (f = .has x c y2) else false := if_pos h
theorem f2_f' {r : Ru} {f : Fa} {x y x2 y2 : Kd} {t t2 : Str} {s : Sy} (h : x2 = y) (hs : s.hd ≠ .makes) : fromTwo r f (.has x t y) (.has x2 t2 y2) (some s) = false := by
 cases s with
 | makes a b c => exact absurd rfl hs
 | _ => exact if_pos h
theorem f2_g {r : Ru} {f : Fa} {x y x2 y2 : Kd} {t t2 : Str} (h : x2 = y) : fromTwo r f (.has x t y) (.has x2 t2 y2) none = false := if_pos h
theorem f2_h {r : Ru} {f : Fa} {x y z l : Kd} {t : Str} (h : z = y) : fromTwo r f (.has x t y) (.is z l) none = if r = .tie then decide (f = .is x (.som t l)) else decide (r = .none) && (decide (l = nothK) && decide (f = .is x nothK)) := if_pos h
theorem pre3_cut {H : Hp} {s : Sy} {p : Addr} {xs : List V} {Q : VK} {K : PySem.W.Frag} (hp : H p = some (.tup (.str (ruS s.hd) :: xs))) (hk : KL H xs s.parts) (q : ∀ v H', Same H H' → Xa H' (pre3 s) v → Q v H') : rSlW K (.ref p) none (some 3) H Q := by
 refine ⟨p, _, rfl, SqT.of hp, ?_, ?_⟩
 ·intro hw
  refine q _ H (Same.refl H) ?_
  have l2 : s.parts.length ≤ 2 := by
   have := KL.len hk
   rcases Nat.lt_or_ge 2 s.parts.length with h | h
   ·exfalso
    have h3 : s.parts.length = 3 := by cases s <;> simp [Sy.parts] at h ⊢
    have : (V.str (ruS s.hd) :: xs).length = 4 := by rw [List.length_cons]; omega
    rw [this] at hw
    exact six43 hw
   ·exact h
  have e : pre3 s = s.tx := by unfold pre3 Sy.tx; rw [List.take_of_length_le l2]
  rw [e]
  exact IsSy.xa ⟨p, xs, rfl, hp, hk⟩
 ·intro hw t ht
  have s1 := same_new ht (.tup (cutV (.str (ruS s.hd) :: xs) none (some 3)))
  refine q _ _ s1 ?_
  have l3 : s.parts.length = 3 := by
   have := KL.len hk
   rcases Nat.lt_or_ge 2 s.parts.length with h | h
   ·cases s <;> simp [Sy.parts] at h ⊢
   ·exfalso
    have h2 : s.parts.length = 2 := by cases s <;> simp [Sy.parts] at h ⊢
    have : (V.str (ruS s.hd) :: xs).length = 3 := by rw [List.length_cons]; omega
    rw [this] at hw
    exact hw six33
  obtain ⟨k1, k2, k3, ek⟩ : ∃ k1 k2 k3, s.parts = [k1, k2, k3] := by
   cases s <;> simp [Sy.parts] at l3 ⊢
  rw [ek] at hk
  obtain ⟨v1, v2, v3, rfl, i1, i2, i3⟩ := kl_three hk
  rw [cut3] at s1 ⊢
  unfold pre3
  rw [ek]
  exact ⟨t, _, rfl, upd_same, _, _, rfl, rfl, _, _, rfl, (i1.mono s1.tups).xa, _, _, rfl, (i2.mono s1.tups).xa, rfl⟩
section
variable {P : Program} {w : World} {K : PySem.W.Frag} {mg : Str → Option Value} {base : Heap} {f g e d a1 a2 a3 a4 a5 aW aF aB aR aM : Addr} {fd gd' ed dd d1 d2 d3 d4 d5 : FuncData}
theorem scF2 : FnScope ["_law_rule", "_law_claim", "_law_one", "_law_two", "_law_saying_here", "_law_x"] ["_law_rule", "_law_claim", "_law_one", "_law_two", "_law_saying_here"] (defScope sFTwo) := ⟨rfl, rfl, rfl, by decide +kernel, rfl, by decide +kernel, by decide +kernel⟩
theorem ok_f2 (F : Fun K "_law_from_two" "_law_from_two" sFTwo f fd) :
  FnOk P w K mg base CX0 1 f fd ["_law_rule", "_law_claim", "_law_one", "_law_two", "_law_saying_here"] spF2 := by
 refine F.ok scF2 (fun vs H Q E h => ?_) (fun cdv A outer s H vs Q E hr h => ?_)
 ·obtain ⟨z, r, vc, vo, vu, sv, f, o, u, sy, rfl, _⟩ := h; rfl
 obtain ⟨z, r, vc, vo, vu, sv, f0, o, u, sy, rfl, hz, hf, ⟨hlo, hlen⟩, ho, ⟨hoo, hol⟩, hu, ⟨huo, hul⟩, hs, hsl, q⟩ := h
 refine ⟨_, @pss_cons _ _ _ _ _ (by exact ps_set (i := 5) scF2.nd rfl (Or.inl rfl) (pe_ix ix_tup (pv 2) pe_int (fun _ _ => rfl)))
  (@pss_cons _ _ _ _ _ (by exact ps_if (pt_cmpR op_eq (pe_ix ix_tup (pv 2) pe_int (fun _ _ => rfl)) pe_str (nomark _)) (@pss_cons _ _ _ _ _ (by exact ps_if (PW.pt (pw_or (pt_cmpR op_eq (pe_ix ix_tup (pv 3) pe_int (fun _ _ => rfl)) pe_str (nomark _)) (pw_or1 (pt_cmpR (op_neX hr.units) (pe_ix ix_tup (pv 3) pe_int (fun _ _ => rfl)) (pv 5) (nomark _))))) (@pss_one _ _ _ (by exact @ps_ret _ _ _ _ pe_bl)) pss_nil) (@pss_cons _ _ _ _ _ (by exact ps_if (pt_cmpR op_isN (pv 4) pe_non rfl) (@pss_one _ _ _ (by exact @ps_ret _ _ _ _ (pe_and (pe_cmpR op_eq (pv 0) pe_str (nomark _)) (pe_one (pe_cmpR (op_eqX hr.units) (pv 1) (@pe_tup _ _ _ _ _ (@pa_consN _ _ _ _ _ pe_str (@pa_consN _ _ _ _ _ (pv 5) (@pa_consN _ _ _ _ _ (@pe_tup _ _ _ _ _ (pa_cons pe_str (pa_cons (pe_ix ix_tup (pv 2) pe_int (fun _ _ => rfl)) (pa_cons (pe_ix ix_tup (pv 3) pe_int (fun _ _ => rfl)) pa_nil)))) pa_nil rfl) rfl) rfl)) (nomark _)))))) pss_nil) (@pss_one _ _ _ (by exact @ps_ret _ _ _ _ (pe_and (pe_cmpR op_eq (pv 0) pe_str (nomark _)) (pe_and (pe_cmpR (op_eqX hr.units) (pv 4) (@pe_tup _ _ _ _ _ (pa_cons pe_str (pa_cons (pe_ix ix_tup (pv 2) pe_int (fun _ _ => rfl)) (pa_cons (pe_ix ix_tup (pv 3) pe_int (fun _ _ => rfl)) pa_nil)))) (nomark _)) (pe_one (pe_cmpR (op_eqX hr.units) (pv 1) (@pe_tup _ _ _ _ _ (pa_cons pe_str (pa_cons (pv 5) (pa_cons pe_str pa_nil)))) (nomark _))))))))) pss_nil)
  (@pss_cons _ _ _ _ _ (by exact ps_if (pt_cmpR (op_neX hr.units) (pe_ix ix_tup (pv 3) pe_int (fun _ _ => rfl)) (pe_ix ix_tup (pv 2) pe_int (fun _ _ => rfl)) (nomark _)) (@pss_one _ _ _ (by exact @ps_ret _ _ _ _ pe_bl)) pss_nil)
  (@pss_cons _ _ _ _ _ (by exact ps_if (pt_cmpR op_notN (pv 4) pe_non rfl) (@pss_cons _ _ _ _ _ (by exact ps_if (PW.pt (pw_or (pt_cmpR op_ne (pv 0) pe_str (nomark _)) (pw_or (pt_cmpR op_eq (pe_ix ix_tup (pv 3) pe_int (fun _ _ => rfl)) pe_str (nomark _)) (pw_or1 (pt_cmpR (op_neX hr.units) (pe_slice sl_tupW (pv 4) po_none (po_some pe_int)) (@pe_tup _ _ _ _ _ (pa_cons pe_str (pa_cons (pe_ix ix_tup (pv 2) pe_int (fun _ _ => rfl)) (pa_cons (pe_ix ix_tup (pv 3) pe_int (fun _ _ => rfl)) pa_nil)))) (nomark _)))))) (@pss_one _ _ _ (by exact @ps_ret _ _ _ _ pe_bl)) pss_nil) (@pss_one _ _ _ (by exact @ps_ret _ _ _ _ (pe_cmpR (op_eqX hr.units) (pv 1) (@pe_tup _ _ _ _ _ (pa_cons pe_str (pa_cons (pv 5) (pa_cons (pe_ix ix_tup (pv 4) pe_int (fun _ _ => rfl)) (pa_cons (pe_ix ix_tup (pv 3) pe_int (fun _ _ => rfl)) pa_nil))))) (nomark _))))) pss_nil)
  (@pss_cons _ _ _ _ _ (by exact ps_if (pt_cmpR op_eq (pe_ix ix_tup (pv 3) pe_int (fun _ _ => rfl)) pe_str (nomark _)) (@pss_one _ _ _ (by exact @ps_ret _ _ _ _ pe_bl)) pss_nil)
  (@pss_cons _ _ _ _ _ (by exact ps_if (pt_cmpR op_eq (pv 0) pe_str (nomark _)) (@pss_one _ _ _ (by exact @ps_ret _ _ _ _ (pe_cmpR (op_eqX hr.units) (pv 1) (@pe_tup _ _ _ _ _ (@pa_consN _ _ _ _ _ pe_str (@pa_consN _ _ _ _ _ (pv 5) (@pa_consN _ _ _ _ _ (@pe_tup _ _ _ _ _ (pa_cons pe_str (pa_cons (pe_ix ix_tup (pv 2) pe_int (fun _ _ => rfl)) (pa_cons (pe_ix ix_tup (pv 3) pe_int (fun _ _ => rfl)) pa_nil)))) pa_nil rfl) rfl) rfl)) (nomark _)))) pss_nil)
  (@pss_one _ _ _ (by exact @ps_ret _ _ _ _ (pe_and (pe_cmpR op_eq (pv 0) pe_str (nomark _)) (pe_and (pe_cmpR (op_eqX hr.units) (pe_ix ix_tup (pv 3) pe_int (fun _ _ => rfl)) pe_str (nomark _)) (pe_one (pe_cmpR (op_eqX hr.units) (pv 1) (@pe_tup _ _ _ _ _ (pa_cons pe_str (pa_cons (pv 5) (pa_cons pe_str pa_nil)))) (nomark _)))))))))))), ?_⟩
 have r1 := ru_dec hz .both "both" rfl (by intro z; cases z)
 have r2 := ru_dec hz .no "no" rfl (by intro z; cases z)
 have r3 := ru_dec hz .makes "makes" rfl (by intro z; cases z)
 have r4 := ru_dec hz .tie "tie" rfl (by intro z; cases z)
 have r5 := ru_dec hz .none "none" rfl (by intro z; cases z)
 obtain ⟨pu, us, ua, rfl, hpu, u0, u1, ku⟩ := hu.sh
 cases o with
 | is x k =>
  obtain ⟨po, a, b, rfl, hpo, ha, hb⟩ := ho
  refine ⟨_, rfl, po, _, 1, _, rfl, rfl, SqT.of hpo, atI_nat (j := 1) rfl, ?_⟩
  refine ⟨_, rfl, po, _, 0, _, rfl, rfl, SqT.of hpo, atI_nat (j := 0) rfl, rfl, _, rfl, ?_⟩
  rw [str_self]
  refine iteT ⟨_, rfl, pu, _, 0, _, rfl, rfl, SqT.of hpu, atI_nat (j := 0) u0, rfl, _, rfl, ?_⟩
  rw [hs_has]
  cases u with
  | has x2 t2 y2 => exact iteT (iteT (q H (Same.refl H)))
  | is x2 k2 =>
   obtain ⟨pu', a2, b2, e, h, ha2, hb2⟩ := hu
   cases e
   rw [hpu] at h
   cases h
   refine iteF ⟨_, rfl, pu, _, 1, _, rfl, rfl, SqT.of hpu, atI_nat (j := 1) rfl, _, rfl, x2.tx, x.tx, ha2.xa, ha.xa, ?_, _, rfl, ?_⟩
   ·have := huo.1
    rw [Kd.tx_dp]; omega
   rw [Kd.dec]
   by_cases c1 : x2 = x
   ·rw [decide_eq_true c1]
    refine iteF ?_
    cases sy with
    | none =>
     obtain rfl : sv = .non := hs
     rw [f2_b c1] at q
     refine ⟨_, rfl, rfl, _, rfl, iteT ⟨_, rfl, rfl, _, rfl, ?_⟩⟩
     rw [r1]
     refine ite2 (fun c => ?_) (fun c => ?_)
     ·rw [show ∀ b, (decide (r = .both) && b) = b from fun b => by rw [c, Bool.true_and]] at q
      refine ⟨_, rfl, _, rfl, _, rfl, po, _, 2, _, rfl, rfl, SqT.of hpo, atI_nat (j := 2) rfl, _, rfl, pu, _, 2, _, rfl, rfl, SqT.of hpu, atI_nat (j := 2) rfl, le3, fun t1 ht1 => ⟨le3, fun t2 ht2 => ?_⟩⟩
      have s1 := same_new ht1 (.tup [.str "both", b, b2])
      have s2 := same_new ht2 (.tup [.str "is", a, .ref t1])
      have i2 : IsF _ (Fa.is x (.two k k2)) (.ref t2) := isF_new ht2 (ha.mono s1.tups) ⟨t1, b, b2, rfl, upd_same, hb.mono s1.tups, hb2.mono s1.tups⟩
      refine ⟨f0.tx, (Fa.is x (.two k k2)).tx, (hf.mono (s1.trans s2).tups).xa, i2.xa, Fa.dp60 hlo, ?_⟩
      rw [Fa.dec]
      exact q _ (s1.trans s2)
     ·rw [show ∀ b, (decide (r = .both) && b) = false from fun b => by rw [Bool.eq_false_iff.mpr c, Bool.false_and]] at q
      exact q H (Same.refl H)
    | some sy =>
     obtain ⟨p, xs, rfl, hp, hk⟩ := id hs
     rw [f2_c c1] at q
     refine ⟨_, rfl, rfl, _, rfl, iteF ⟨_, rfl, rfl, _, rfl, ?_⟩⟩
     rw [r2]
     refine ite2 (fun c => ?_) (fun c => ?_)
     ·rw [show ∀ b, (decide (r = .no) && b) = b from fun b => by rw [c, Bool.true_and]] at q
      refine ⟨_, rfl, _, rfl, po, _, 2, _, rfl, rfl, SqT.of hpo, atI_nat (j := 2) rfl, _, rfl, pu, _, 2, _, rfl, rfl, SqT.of hpu, atI_nat (j := 2) rfl, le3, fun t1 ht1 => ?_⟩
      have s1 := same_new ht1 (.tup [.str "no", b, b2])
      have i1 : IsSy _ (Sy.no k k2) (.ref t1) := ⟨t1, [b, b2], rfl, upd_same, .cons (hb.mono s1.tups) (.cons (hb2.mono s1.tups) .nil)⟩
      refine ⟨sy.tx, (Sy.no k k2).tx, (IsSy.mono s1.tups hs).xa, i1.xa, Sy.dp60 (hsl sy rfl), _, rfl, ?_⟩
      rw [Sy.dec]
      refine ite2 (fun c2 => ?_) (fun c2 => ?_)
      ·rw [c2, Bool.true_and] at q
       refine ⟨_, rfl, _, rfl, le3, fun t2 ht2 => ?_⟩
       have s2 := same_new ht2 (.tup [.str "is", a, .str "nothing"])
       refine ⟨f0.tx, (Fa.is x nothK).tx, (hf.mono (s1.trans s2).tups).xa, (isF_new (k := nothK) ht2 (ha.mono s1.tups) rfl).xa, Fa.dp60 hlo, ?_⟩
       rw [Fa.dec]
       exact q _ (s1.trans s2)
      ·rw [Bool.eq_false_iff.mpr c2, Bool.false_and] at q
       exact q _ s1
     ·rw [show ∀ b, (decide (r = .no) && b) = false from fun b => by rw [Bool.eq_false_iff.mpr c, Bool.false_and]] at q
      exact q H (Same.refl H)
   ·rw [decide_eq_false c1]
    rw [f2_a c1] at q
    exact iteT (q H (Same.refl H))
 | has x t y =>
  obtain ⟨po, a, b, rfl, hpo, ha, hb⟩ := ho
  refine ⟨_, rfl, po, _, 1, _, rfl, rfl, SqT.of hpo, atI_nat (j := 1) rfl, ?_⟩
  refine ⟨_, rfl, po, _, 0, _, rfl, rfl, SqT.of hpo, atI_nat (j := 0) rfl, rfl, _, rfl, ?_⟩
  rw [has_is]
  refine iteF ⟨_, rfl, pu, _, 1, _, rfl, rfl, SqT.of hpu, atI_nat (j := 1) u1, _, rfl, po, _, 3, _, rfl, rfl, SqT.of hpo, atI_nat (j := 3) rfl, u.x.tx, y.tx, ku.xa, hb.xa, ?_, _, rfl, ?_⟩
  ·have := Fa.lo_x huo
   rw [Kd.tx_dp]; omega
  rw [Kd.dec]
  by_cases c1 : u.x = y
  ·rw [decide_eq_true c1]
   refine iteF ?_
   cases sy with
   | some sy =>
    obtain ⟨p, xs, rfl, hp, hk⟩ := id hs
    refine ⟨_, rfl, rfl, _, rfl, iteT ⟨_, rfl, rfl, _, rfl, ?_⟩⟩
    rw [r3]
    by_cases c2 : r = .makes
    ·rw [decide_eq_true c2]
     refine iteF ⟨_, rfl, pu, _, 0, _, rfl, rfl, SqT.of hpu, atI_nat (j := 0) u0, rfl, _, rfl, ?_⟩
     rw [hs_is]
     cases u with
     | is x2 k2 =>
      rw [f2_e (show x2 = y from c1)] at q
      exact iteT (iteT (q H (Same.refl H)))
     | has x2 t2 y2 =>
      obtain ⟨pu', a2, b2, e, h, ha2, hb2⟩ := hu
      cases e
      rw [hpu] at h
      cases h
      refine iteF ⟨_, rfl, 3, rfl, pre3_cut hp hk fun v H1 s1 hv => ?_⟩
      refine ⟨_, rfl, po, _, 2, _, rfl, rfl, SqT.of (s1 _ _ hpo), atI_nat (j := 2) rfl, _, rfl, pu, _, 2, _, rfl, rfl, SqT.of (s1 _ _ hpu), atI_nat (j := 2) rfl, le3, fun t1 ht1 => ?_⟩
      have s2 := same_new ht1 (.tup [.str "makes", .str t, .str t2])
      have s12 := s1.trans s2
      refine ⟨pre3 sy, .tup [.str "makes", .str t, .str t2], xaMono hv s2, ⟨t1, _, rfl, upd_same, _, _, rfl, rfl, _, _, rfl, rfl, _, _, rfl, rfl, rfl⟩, pre3_dp (hsl sy rfl), _, rfl, ?_⟩
      by_cases c3 : sy.hd = .makes
      ·obtain ⟨k1, k2, k3, rfl⟩ := hd_makes c3
       rw [pre3_dec]
       obtain ⟨v1, v2, v3, rfl, i1, i2, i3⟩ := kl_three hk
       obtain rfl : v3 = .str k3 := i3
       rw [f2_f (show x2 = y from c1)] at q
       show if (!decide (k1 = t ∧ k2 = t2)) = true then _ else _
       by_cases c4 : k1 = t ∧ k2 = t2
       ·rw [decide_eq_true c4]
        rw [if_pos ⟨c2, c4.1, c4.2⟩] at q
        refine iteF ⟨_, rfl, _, rfl, _, rfl, p, _, 3, _, rfl, rfl, SqT.of (s12 _ _ hp), atI_nat (j := 3) rfl, _, rfl, pu, _, 3, _, rfl, rfl, SqT.of (s12 _ _ hpu), atI_nat (j := 3) rfl, le4, fun t3 ht3 => ?_⟩
        have s3 := same_new ht3 (.tup [.str "has", a, .str k3, b2])
        refine ⟨f0.tx, (Fa.has x k3 y2).tx, (hf.mono (s12.trans s3).tups).xa, (hasF_new ht3 (ha.mono s12.tups) (hb2.mono s12.tups)).xa, Fa.dp60 hlo, ?_⟩
        rw [Fa.dec]
        exact q _ (s12.trans s3)
       ·rw [decide_eq_false c4]
        rw [if_neg (fun z => c4 z.2)] at q
        exact iteT (q _ s12)
      ·rw [f2_f' (show x2 = y from c1) c3] at q
       rw [pre3_no c3]
       exact iteT (q _ s12)
    ·rw [decide_eq_false c2]
     have e0 : fromTwo r f0 (.has x t y) u (some sy) = false := by
      cases u with
      | is x2 k2 => exact f2_e (show x2 = y from c1)
      | has x2 t2 y2 =>
       by_cases c3 : sy.hd = .makes
       ·obtain ⟨k1, k2, k3, rfl⟩ := hd_makes c3
        rw [f2_f (show x2 = y from c1), if_neg (fun z => c2 z.1)]
       ·exact f2_f' (show x2 = y from c1) c3
     rw [e0] at q
     exact iteT (iteT (q H (Same.refl H)))
   | none =>
    obtain rfl : sv = .non := hs
    refine ⟨_, rfl, rfl, _, rfl, iteF ⟨_, rfl, pu, _, 0, _, rfl, rfl, SqT.of hpu, atI_nat (j := 0) u0, rfl, _, rfl, ?_⟩⟩
    rw [hs_has]
    cases u with
    | has x2 t2 y2 =>
     rw [f2_g (show x2 = y from c1)] at q
     exact iteT (q H (Same.refl H))
    | is x2 k2 =>
     obtain ⟨pu', a2, b2, e, h, ha2, hb2⟩ := hu
     cases e
     rw [hpu] at h
     cases h
     rw [f2_h (show x2 = y from c1)] at q
     refine iteF ⟨_, rfl, rfl, _, rfl, ?_⟩
     rw [r4]
     by_cases c2 : r = .tie
     ·rw [decide_eq_true c2]
      rw [if_pos c2] at q
      refine iteT ⟨_, rfl, _, rfl, _, rfl, po, _, 2, _, rfl, rfl, SqT.of hpo, atI_nat (j := 2) rfl, _, rfl, pu, _, 2, _, rfl, rfl, SqT.of hpu, atI_nat (j := 2) rfl, le3, fun t1 ht1 => ⟨le3, fun t3 ht3 => ?_⟩⟩
      have s1 := same_new ht1 (.tup [.str "some", .str t, b2])
      have s2 := same_new ht3 (.tup [.str "is", a, .ref t1])
      have i2 : IsF _ (Fa.is x (.som t k2)) (.ref t3) := isF_new ht3 (ha.mono s1.tups) ⟨t1, b2, rfl, upd_same, hb2.mono s1.tups⟩
      refine ⟨f0.tx, (Fa.is x (.som t k2)).tx, (hf.mono (s1.trans s2).tups).xa, i2.xa, Fa.dp60 hlo, ?_⟩
      rw [Fa.dec]
      exact q _ (s1.trans s2)
     rw [decide_eq_false c2]
     rw [if_neg c2] at q
     refine iteF ⟨_, rfl, rfl, _, rfl, ?_⟩
     rw [r5]
     refine ite2 (fun c => ?_) (fun c => ?_)
     ·rw [show ∀ b, (decide (r = .none) && b) = b from fun b => by rw [c, Bool.true_and]] at q
      refine ⟨_, rfl, pu, _, 2, _, rfl, rfl, SqT.of hpu, atI_nat (j := 2) rfl, k2.tx, nothK.tx, hb2.xa, rfl, ?_, _, rfl, ?_⟩
      ·have := huo.2
       rw [Kd.tx_dp]; omega
      rw [Kd.dec]
      refine ite2 (fun c3 => ?_) (fun c3 => ?_)
      ·rw [c3, Bool.true_and] at q
       refine ⟨_, rfl, _, rfl, le3, fun t1 ht1 => ?_⟩
       have s2 := same_new ht1 (.tup [.str "is", a, .str "nothing"])
       refine ⟨f0.tx, (Fa.is x nothK).tx, (hf.mono s2.tups).xa, (isF_new (k := nothK) ht1 ha rfl).xa, Fa.dp60 hlo, ?_⟩
       rw [Fa.dec]
       exact q _ s2
      ·rw [Bool.eq_false_iff.mpr c3, Bool.false_and] at q
       exact q H (Same.refl H)
     ·rw [show ∀ b, (decide (r = .none) && b) = false from fun b => by rw [Bool.eq_false_iff.mpr c, Bool.false_and]] at q
      exact q H (Same.refl H)
  ·rw [decide_eq_false c1]
   rw [f2_d c1] at q
   exact iteT (q H (Same.refl H))
end
end K17
namespace K17
open PySem L2
def fineR (r : Ru) (f : Fa) (olds : List Fa) (sy : Option Sy) (sg : List Str) : Bool :=
  match olds with
  | [] => fromNone r f sy sg
  | [o] => fromOne r f o sy
  | [o, u] => fromTwo r f o u sy
  | _ => false
def fineC (r : Ru) (s : Stp) (at' : Nat) (ss : List Stp) (ps : List (Int × Sy)) (sg : List Str) : Bool :=
  if s.fr.all (inB at') = false then false else
  if s.n.isSome = true ∧ soOf ps s.n = none then false else
  fineR r s.f (s.fr.map (factAt ss)) (soOf ps s.n) sg
def fitS (r : Ru) (sy : Option Sy) : Bool := if ruBy r = true then (match sy with | none => false | some s => decide (s.hd = r)) else sy.isNone
def coreR (r : Ru) (f : Fa) (olds : List Fa) (sy : Option Sy) (A : List Str) : Bool :=
  if r = .oth then false else
  if olds.length ≠ ruN r then false else
  if fitS r sy = false then false else
  if r = .self then selfB f else
  if r = .all then allB f A else
  decide (some f = made r olds sy)
theorem dec_some {f g : Fa} : decide (some f = some g) = decide (f = g) := by rw [decide_eq_decide]; exact ⟨fun h => by injection h, fun h => by rw [h]⟩
theorem dec_non {f : Fa} : decide (some f = none) = false := rfl
theorem core0 {r : Ru} {f : Fa} {sy : Option Sy} {A : List Str} (h : standsB f.x = singleB f.x) : coreR r f [] sy A = fromNone r f sy A := by
  cases sy with
  | none =>
    cases r <;> first
      | rfl
      | (show selfB f = (!singleB f.x && decide (f = .is f.x f.x)); unfold selfB; rw [h, Bool.and_comm])
      | (show allB f A = (decide (f = .is f.x anyK) && (!singleB f.x || inK f.x A)); unfold allB; rw [h])
  | some s =>
    cases r <;> cases s <;> first
      | rfl
      | exact dec_some
theorem core1 {r : Ru} {f o : Fa} {sy : Option Sy} {A : List Str} : coreR r f [o] sy A = fromOne r f o sy := by
  cases sy with
  | none =>
    cases o with
    | has x t y => cases r <;> rfl
    | is x k =>
      cases k with
      | nm z => cases r <;> rfl
      | two a b => cases r <;> first | rfl | exact dec_some
      | som a b => cases r <;> first | rfl | exact dec_some
  | some s =>
    cases s with
    | every a b =>
      cases r <;> first
        | rfl
        | (show decide (some f = if o = .is o.x a then some (.is o.x b) else none) = if Ru.every = .every ∧ o = .is o.x a then decide (f = .is o.x b) else false
           by_cases c : o = .is o.x a
           · rw [if_pos c, if_pos ⟨rfl, c⟩, dec_some]
           · rw [if_neg c, if_neg (fun z => c z.2), dec_non])
        | (show false = if _ ∧ o = .is o.x a then decide (f = .is o.x b) else false
           rw [if_neg (fun z => by cases z.1)])
    | within a b =>
      cases o with
      | is x k => cases r <;> rfl
      | has x t y =>
        cases r <;> first
          | rfl
          | (show decide (some f = if t = a then some (.has x b y) else none) = if Ru.within = .within ∧ t = a then decide (f = .has x b y) else false
             by_cases c : t = a
             · rw [if_pos c, if_pos ⟨rfl, c⟩, dec_some]
             · rw [if_neg c, if_neg (fun z => c z.2), dec_non])
          | (show false = if _ ∧ t = a then decide (f = .has x b y) else false
             rw [if_neg (fun z => by cases z.1)])
    | no a b => cases r <;> rfl
    | thing a b => cases r <;> rfl
    | tied a b c => cases r <;> rfl
    | makes a b c => cases r <;> rfl
theorem core2 {r : Ru} {f o u : Fa} {sy : Option Sy} {A : List Str} : coreR r f [o, u] sy A = fromTwo r f o u sy := by
  have hn : ∀ sy', r ≠ .no → r ≠ .both → r ≠ .tie → r ≠ .none → r ≠ .makes → coreR r f [o, u] sy' A = false := by
    intro sy' h1 h2 h3 h4 h5
    cases r <;> first | rfl | exact absurd rfl h1 | exact absurd rfl h2 | exact absurd rfl h3 | exact absurd rfl h4 | exact absurd rfl h5
  cases o with
  | is x k =>
    cases u with
    | has x2 t2 y2 => 
      show _ = false
      cases sy with
      | none => cases r <;> rfl
      | some s =>
        cases s <;> cases r <;> first
          | rfl
          | (rename_i a b
             show decide (some f = if Fa.is x k = .is x a ∧ Fa.has x2 t2 y2 = .is x b then some (.is x nothK) else none) = false
             rw [if_neg (fun z => by cases z.2)]; rfl)
    | is z l =>
      by_cases c : z = x
      · subst c
        cases sy with
        | none =>
          rw [f2_b rfl]
          cases r <;> first
            | rfl
            | (show decide (some f = if z = z then some (.is z (.two k l)) else none) = (decide (Ru.both = .both) && decide (f = .is z (.two k l)))
               rw [if_pos rfl, dec_some, decide_eq_true rfl, Bool.true_and])
        | some s =>
          rw [f2_c rfl]
          by_cases cr : r = .no
          · subst cr
            by_cases cs : s.hd = .no
            · obtain ⟨a, b, rfl⟩ := hd_no cs
              show decide (some f = if Fa.is z k = .is z a ∧ Fa.is z l = .is z b then some (.is z nothK) else none) = (decide (Ru.no = .no) && (decide (Sy.no a b = .no k l) && decide (f = .is z nothK)))
              rw [decide_eq_true rfl, Bool.true_and]
              by_cases c1 : a = k ∧ b = l
              · obtain ⟨rfl, rfl⟩ := c1
                rw [if_pos ⟨rfl, rfl⟩, dec_some, decide_eq_true rfl, Bool.true_and]
              · rw [if_neg (fun y => c1 (by obtain ⟨y1, y2⟩ := y; cases y1; cases y2; exact ⟨rfl, rfl⟩)), dec_non, decide_eq_false (fun y => c1 (by cases y; exact ⟨rfl, rfl⟩)), Bool.false_and]
            · have e : ¬ s = .no k l := fun y => cs (by rw [y]; rfl)
              have : coreR .no f [.is z k, .is z l] (some s) A = false := by
                cases s <;> first | rfl | exact absurd rfl cs
              rw [this, decide_eq_false e, Bool.false_and, Bool.and_false]
          · rw [decide_eq_false cr, Bool.false_and]
            cases s <;> cases r <;> first | rfl | exact absurd rfl cr
      · rw [f2_a c]
        cases sy with
        | none =>
          cases r <;> first
            | rfl
            | (show decide (some f = if x = z then some (.is x (.two k l)) else none) = false
               rw [if_neg (fun y => c y.symm)]; rfl)
        | some s =>
          cases s <;> cases r <;> first
            | rfl
            | (rename_i a b
               show decide (some f = if Fa.is x k = .is x a ∧ Fa.is z l = .is x b then some (.is x nothK) else none) = false
               rw [if_neg (fun y => c (by obtain ⟨y1, y2⟩ := y; injection y2))]; rfl)
  | has x t y =>
    cases u with
    | is z l =>
      by_cases c : z = y
      · cases sy with
        | none =>
          rw [f2_h c]
          subst c
          cases r <;> first
            | rfl
            | (show decide (some f = if z = z then some (.is x (.som t l)) else none) = decide (f = .is x (.som t l))
               rw [if_pos rfl, dec_some])
            | (show decide (some f = if Fa.is z l = .is z nothK then some (.is x nothK) else none) = (decide (Ru.none = .none) && (decide (l = nothK) && decide (f = .is x nothK)))
               rw [decide_eq_true rfl, Bool.true_and]
               by_cases c1 : l = nothK
               · rw [if_pos (by rw [c1]), dec_some, decide_eq_true c1, Bool.true_and]
               · rw [if_neg (fun y => c1 (by injection y)), dec_non, decide_eq_false c1, Bool.false_and])
        | some s =>
          rw [f2_e c]
          cases s <;> cases r <;> first
            | rfl
            | (rename_i a b
               show decide (some f = if Fa.has x t y = .is x a ∧ Fa.is z l = .is x b then some (.is x nothK) else none) = false
               rw [if_neg (fun y => by cases y.1)]; rfl)
      · rw [f2_d (u := .is z l) c]
        cases sy with
        | none =>
          cases r <;> first
            | rfl
            | (show decide (some f = if y = z then some (.is x (.som t l)) else none) = false
               rw [if_neg (fun y => c y.symm)]; rfl)
            | (show decide (some f = if Fa.is z l = .is y nothK then some (.is x nothK) else none) = false
               rw [if_neg (fun y => c (by injection y))]; rfl)
        | some s =>
          cases s <;> cases r <;> first
            | rfl
            | (rename_i a b
               show decide (some f = if Fa.has x t y = .is x a ∧ Fa.is z l = .is x b then some (.is x nothK) else none) = false
               rw [if_neg (fun y => by cases y.1)]; rfl)
    | has x2 t2 y2 =>
      by_cases c : x2 = y
      · cases sy with
        | none =>
          rw [f2_g c]
          cases r <;> first
            | rfl
            | (show decide (some f = if Fa.has x2 t2 y2 = .is y nothK then some (.is x nothK) else none) = false
               rw [if_neg (fun y => by cases y)]; rfl)
        | some s =>
          by_cases cs : s.hd = .makes
          · obtain ⟨p, q, w', rfl⟩ := hd_makes cs
            rw [f2_f c]
            by_cases cr : r = .makes
            · subst cr
              show decide (some f = if y = x2 then (if t = p ∧ t2 = q then some (.has x w' y2) else none) else none) = if Ru.makes = .makes ∧ p = t ∧ q = t2 then decide (f = .has x w' y2) else false
              rw [if_pos c.symm]
              by_cases c1 : t = p ∧ t2 = q
              · rw [if_pos c1, if_pos ⟨rfl, c1.1.symm, c1.2.symm⟩, dec_some]
              · rw [if_neg c1, if_neg (fun z => c1 ⟨z.2.1.symm, z.2.2.symm⟩), dec_non]
            · rw [if_neg (fun z => cr z.1)]
              cases r <;> first | rfl | exact absurd rfl cr
          · rw [f2_f' c cs]
            cases s <;> cases r <;> first
              | rfl
              | exact absurd rfl cs
              | (rename_i a b
                 show decide (some f = if Fa.has x t y = .is x a ∧ Fa.has x2 t2 y2 = .is x b then some (.is x nothK) else none) = false
                 rw [if_neg (fun y => by cases y.1)]; rfl)
      · rw [f2_d (u := .has x2 t2 y2) c]
        cases sy with
        | none =>
          cases r <;> first
            | rfl
            | (show decide (some f = if Fa.has x2 t2 y2 = .is y nothK then some (.is x nothK) else none) = false
               rw [if_neg (fun y => by cases y)]; rfl)
        | some s =>
          cases s <;> cases r <;> first
            | rfl
            | (rename_i a b
               show decide (some f = if Fa.has x t y = .is x a ∧ Fa.has x2 t2 y2 = .is x b then some (.is x nothK) else none) = false
               rw [if_neg (fun y => by cases y.1)]; rfl)
            | (rename_i a b d
               show decide (some f = if y = x2 then (if t = a ∧ t2 = b then some (.has x d y2) else none) else none) = false
               rw [if_neg (fun y => c y.symm)]; rfl)
theorem core_all {r : Ru} {f : Fa} {olds : List Fa} {sy : Option Sy} {A : List Str} (h : standsB f.x = singleB f.x) : coreR r f olds sy A = fineR r f olds sy A := by
  match olds with
  | [] => exact core0 h
  | [o] => exact core1
  | [o, u] => exact core2
  | o :: u :: v :: rest =>
    show _ = false
    unfold coreR
    have : (o :: u :: v :: rest).length ≠ ruN r ∨ r = .oth := by
      cases r <;> first | exact .inr rfl | (refine .inl ?_; show rest.length + 1 + 1 + 1 ≠ _; simp only [ruN]; omega)
    rcases this with h | h
    · by_cases c : r = .oth
      · rw [if_pos c]
      · rw [if_neg c, if_pos h]
    · rw [if_pos h]
theorem right_fine {r : Ru} {s : Stp} {at' : Nat} {ss : List Stp} {ps : List (Int × Sy)} {A : List Str} (h : standsB s.f.x = singleB s.f.x) : rightC r s at' ss ps A = fineC r s at' ss ps A := by
  unfold rightC fineC
  cases ha : s.fr.all (inB (at' : Int)) with
  | false =>
    rw [if_pos rfl, if_pos rfl]
    split
    · rfl
    · split <;> rfl
  | true =>
    simp only [Bool.true_eq_false, if_false]
    have fs : (s.n.isSome = true ∧ soOf ps s.n = none → fitsB r s.n ps = false) ∧ (¬ (s.n.isSome = true ∧ soOf ps s.n = none) → fitsB r s.n ps = fitS r (soOf ps s.n)) := by
      unfold fitsB fitS
      cases hn : s.n with
      | none => exact ⟨fun z => (by cases z.1), fun _ => rfl⟩
      | some i =>
        show (_ ∧ lastSy ps i = none → _) ∧ (¬ (_ ∧ lastSy ps i = none) → _ = if ruBy r = true then (match lastSy ps i with | none => false | some s => decide (s.hd = r)) else (lastSy ps i).isNone)
        cases hl : lastSy ps i with
        | none =>
          refine ⟨fun _ => ?_, fun z => absurd ⟨rfl, rfl⟩ z⟩
          split
          · simp only [hl]
          · rfl
        | some sy =>
          refine ⟨fun z => (by cases z.2), fun _ => ?_⟩
          split
          · simp only [hl]
          · rfl
    by_cases c : s.n.isSome = true ∧ soOf ps s.n = none
    · rw [if_pos c, fs.1 c, if_pos rfl]
      split
      · rfl
      · split <;> rfl
    · rw [if_neg c, fs.2 c, ← core_all h]
      unfold coreR
      rw [List.length_map]
end K17
namespace K17
open PySem L2
def spFine : Sp := fun vs H Q _ => ∃ (ls lp lsg : Addr) (at' : Nat) (xs ys : List V) (ss : List Stp) (s : Stp) (r : Ru) (ps : List (Int × Sy)) (sg : List Str), vs = [.ref ls, .int (at' : Int), .ref lp, .ref lsg] ∧ H ls = some (.lst xs) ∧ StL [] H xs ss ∧ ss[at']? = some s ∧
 IsRu r s.r ∧ (∀ t ∈ ss, okF t.f ∧ t.fr.length ≤ 900) ∧ H lp = some (.lst ys) ∧ PrL H ys ps ∧ (∀ q ∈ ps, q.2.lo 8) ∧ H lsg = some (.lst (sg.map V.str)) ∧ ∀ H', Same H H' → Q (.bl (fineC r s at' ss ps sg)) H'
theorem last_take {ps : List (Int × Sy)} {i : Nat} {q : Int × Sy} (h : ps[i]? = some q) (n : Int) : lastSy (ps.take (i + 1)) n = if q.1 = n then some q.2 else lastSy (ps.take i) n := by
 unfold lastSy
 rw [List.take_add_one, h, List.foldl_append]
 rfl
theorem last_mem {ps : List (Int × Sy)} {n : Int} {s : Sy} : lastSy ps n = some s → ∃ q ∈ ps, q.2 = s := by
 have : ∀ (l : List (Int × Sy)) (o : Option Sy), l.foldl (fun o q => if q.1 = n then some q.2 else o) o = some s → o = some s ∨ ∃ q ∈ l, q.2 = s := by
  intro l
  induction l with
  | nil => intro o h; exact .inl h
  | cons q l ih =>
   intro o h
   rcases ih _ h with h | ⟨q', hq, e⟩
   ·replace h : (if q.1 = n then some q.2 else o) = some s := h
    by_cases c : q.1 = n
    ·rw [if_pos c] at h
     injection h with h
     exact .inr ⟨q, by simp, h⟩
    ·rw [if_neg c] at h
     exact .inl h
   ·exact .inr ⟨q', by simp [hq], e⟩
 intro h
 rcases this ps none h with h | h
 ·cases h
 ·exact h
theorem so_non {H : Hp} : ∀ {s : Option Sy} {v : V}, IsSo H s v → decide (v = .non) = s.isNone
 | none, _, h => by cases h; rfl
 | some _, _, ⟨p, xs, e, _⟩ => by subst e; rfl
section
variable {P : Program} {w : World} {K : PySem.W.Frag} {mg : Str → Option Value} {base : Heap} {f g e d a1 a2 a3 a4 a5 aW aF aB aR aM : Addr} {fd gd' ed dd d1 d2 d3 d4 d5 : FuncData}
theorem scFine : FnScope ["_law_steps", "_law_at", "_law_pairs", "_law_singles_here", "_law_claim", "_law_rule", "_law_froms", "_law_number", "_law_olds", "_law_low", "_law_saying_here", "_law_own", "_law_told"] ["_law_steps", "_law_at", "_law_pairs", "_law_singles_here"] (defScope sFine) := ⟨rfl, rfl, rfl, by decide +kernel, rfl, by decide +kernel, by decide +kernel⟩
theorem ok_fine (F : Fun K "_law_fine" "_law_fine" sFine f fd) (ml : mg "len" = none)
  (Gf0 : FnOk P w K mg base CX0 2 a1 d1 ["_law_rule", "_law_claim", "_law_saying_here", "_law_singles_here"] spF0) (bGf0 : Binds K d1 ["_law_rule", "_law_claim", "_law_saying_here", "_law_singles_here"] []) (kGf0 : PySem.W.keepIn K (.ref a1) = true) (mGf0 : mg "_law_from_none" = some (.ref a1))
  (Gf1 : FnOk P w K mg base CX0 1 a2 d2 ["_law_rule", "_law_claim", "_law_one", "_law_saying_here"] spF1) (bGf1 : Binds K d2 ["_law_rule", "_law_claim", "_law_one", "_law_saying_here"] []) (kGf1 : PySem.W.keepIn K (.ref a2) = true) (mGf1 : mg "_law_from_one" = some (.ref a2))
  (Gf2 : FnOk P w K mg base CX0 1 a3 d3 ["_law_rule", "_law_claim", "_law_one", "_law_two", "_law_saying_here"] spF2) (bGf2 : Binds K d3 ["_law_rule", "_law_claim", "_law_one", "_law_two", "_law_saying_here"] []) (kGf2 : PySem.W.keepIn K (.ref a3) = true) (mGf2 : mg "_law_from_two" = some (.ref a3)) :
  FnOk P w K mg base CX0 3 f fd ["_law_steps", "_law_at", "_law_pairs", "_law_singles_here"] spFine := by
 refine F.ok scFine (fun vs H Q E h => ?_) (fun cdv A outer s H vs Q E hr h => ?_)
 ·obtain ⟨ls, lp, lsg, at', xs, ys, ss, s, r, ps, sg, rfl, _⟩ := h; rfl
 obtain ⟨ls, lp, lsg, at', xs, ys, ss, st, r, ps, sg, rfl, hl, hss, hst, hru, hok, hlp, hps, hpo, hlsg, q⟩ := h
 have hrf0 := hr
 have hrf1 := hr.mono (show 1 ≤ 2 by decide)
 have hrf2 := hr.mono (show 1 ≤ 2 by decide)
 refine ⟨_, @pss_cons _ _ _ _ _ (by exact ps_asg (pe_ix ix_list (pv 0) (pv 1) (fun _ _ => rfl)) (pg_tup rfl (pgs_cons (pg_name (i := 4) scFine.nd rfl (Or.inl rfl)) (pgs_cons (pg_name (i := 5) scFine.nd rfl (Or.inl rfl)) (pgs_cons (pg_name (i := 6) scFine.nd rfl (Or.inl rfl)) (pgs_cons (pg_name (i := 7) scFine.nd rfl (Or.inl rfl)) pgs_nil))))))
  (@pss_cons _ _ _ _ _ (by exact ps_set (i := 8) scFine.nd rfl (Or.inl rfl) (pe_lst pa_nil))
  (@pss_cons _ _ _ _ _ (by exact ps_for PassesOwn.never rfl (pi_list (pv 6)) (pg_name (i := 9) scFine.nd rfl (Or.inl rfl)) (@pss_cons _ _ _ _ _ (by exact ps_if (PW.pt (pw_or (pt_cmpR op_lt (pv 9) pe_int (nomark _)) (pw_or1 (pt_cmpR op_ge (pv 9) (pv 1) (nomark _))))) (@pss_one _ _ _ (by exact @ps_ret _ _ _ _ pe_bl)) pss_nil) (@pss_one _ _ _ (by exact ps_expr (pe_bm PySem.F.plainAttrs_list PySem.F.slot_list_append PySem.F.type_list_append mt_append (pv 8) (pa_cons (pe_ix ix_tup (pe_ix ix_list (pv 0) (pv 9) (fun _ _ => rfl)) pe_int (fun _ _ => rfl)) pa_nil))))))
  (@pss_cons _ _ _ _ _ (by exact ps_set (i := 10) scFine.nd rfl (Or.inl rfl) pe_non)
  (@pss_cons _ _ _ _ _ (by exact ps_for PassesOwn.never rfl (pi_list (pv 2)) (pg_tup rfl (pgs_cons (pg_name (i := 11) scFine.nd rfl (Or.inl rfl)) (pgs_cons (pg_name (i := 12) scFine.nd rfl (Or.inl rfl)) pgs_nil))) (@pss_one _ _ _ (by exact ps_if (PW.pt (pw_and (pt_cmpR op_notN (pv 7) pe_non rfl) (pw_and1 (pt_cmpR op_eq (pv 11) (pv 7) (nomark _))))) (@pss_one _ _ _ (by exact ps_set (i := 10) scFine.nd rfl (Or.inl rfl) (pv 12))) pss_nil)))
  (@pss_cons _ _ _ _ _ (by exact ps_if (PW.pt (pw_or (PW.pt (pw_and (pt_cmpR op_notN (pv 7) pe_non rfl) (pw_and1 (pt_cmpR op_isN (pv 10) pe_non rfl)))) (pw_or1 (pt_cmpR op_gt (pe_callB call_len_seq rfl ml PySem.boot_len (pa_cons (pv 8) pa_nil)) pe_int (nomark _))))) (@pss_one _ _ _ (by exact @ps_ret _ _ _ _ pe_bl)) pss_nil)
  (@pss_cons _ _ _ _ _ (by exact ps_if (pt_cmpR op_eq (pe_callB call_len_seq rfl ml PySem.boot_len (pa_cons (pv 8) pa_nil)) pe_int (nomark _)) (@pss_one _ _ _ (by exact @ps_ret _ _ _ _ (pe_call Gf0 hrf0 rfl mGf0 kGf0 bGf0 .nil pass0 (pa_cons (pv 5) (pa_cons (pv 4) (pa_cons (pv 10) (pa_cons (pv 3) pa_nil))))))) pss_nil)
  (@pss_cons _ _ _ _ _ (by exact ps_if (pt_cmpR op_eq (pe_callB call_len_seq rfl ml PySem.boot_len (pa_cons (pv 8) pa_nil)) pe_int (nomark _)) (@pss_one _ _ _ (by exact @ps_ret _ _ _ _ (pe_call Gf1 hrf1 rfl mGf1 kGf1 bGf1 .nil pass0 (pa_cons (pv 5) (pa_cons (pv 4) (pa_cons (pe_ix ix_list (pv 8) pe_int (fun _ _ => rfl)) (pa_cons (pv 10) pa_nil))))))) pss_nil)
  (@pss_one _ _ _ (by exact @ps_ret _ _ _ _ (pe_call Gf2 hrf2 rfl mGf2 kGf2 bGf2 .nil pass0 (pa_cons (pv 5) (pa_cons (pv 4) (pa_cons (pe_ix ix_list (pv 8) pe_int (fun _ _ => rfl)) (pa_cons (pe_ix ix_list (pv 8) pe_int (fun _ _ => rfl)) (pa_cons (pv 10) pa_nil))))))))))))))), ?_⟩
 have qf : ∀ b, fineC r st at' ss ps sg = b → ∀ H', Same H H' → Q (.bl b) H' := fun b e H' s' => by rw [← e]; exact q H' s'
 obtain ⟨v, hv, p, pf, vf, rfl, hp, hf, hpf, _⟩ := paired_get2 hss hst
 obtain ⟨hokf, hfl⟩ := hok st (List.mem_of_getElem? hst)
 have hatl : at' < ss.length := (List.getElem?_eq_some_iff.mp hst).1
 refine ⟨_, rfl, _, rfl, ls, _, (at' : Int), _, rfl, rfl, SqL.of hl, atI_nat hv, p, _, rfl, SqT.of hp, rfl, _, _, rfl, _, _, rfl, _, _, rfl, _, _, rfl, rfl, ?_⟩
 refine ⟨Nat.zero_le _, fun D hD => ?_⟩
 have sD := same_new hD (.lst [])
 refine ⟨_, rfl, pf, rfl, ⟨_, SqL.of (sD _ _ hpf)⟩, for_list (xs := st.fr.map V.int) (fun i σ H' => (∃ o9, σ = [some (.ref ls), some (.int (at' : Int)), some (.ref lp), some (.ref lsg), some vf, some (.str st.r), some (.ref pf), some (numV st.n), some (.ref D), o9, none, none, none]) ∧ Same H H' ∧ (st.fr.take i).all (inB (at' : Int)) = true ∧ ∃ tl, H' D = some (.lst tl) ∧ FL H' tl ((st.fr.take i).map (factAt ss))) ⟨⟨_, rfl⟩, sD, rfl, [], upd_same, .nil⟩ ?_ ?_ ?_⟩
 ·rintro i σ H' _ ⟨_, sm, _⟩
  exact SqL.of (sm _ _ hpf)
 ·rintro i x σ H' hx ⟨⟨o9, rfl⟩, sm, hall, tl, eD, hL⟩
  rw [List.getElem?_map] at hx
  obtain ⟨j, hj, rfl⟩ := Option.map_eq_some_iff.mp hx
  have hi : i < st.fr.length := (List.getElem?_eq_some_iff.mp hj).1
  have hjm : j ∈ st.fr := List.mem_of_getElem? hj
  have bad : inB (at' : Int) j = false → ∀ H2, Same H H2 → Q (.bl false) H2 := fun hb => qf false (by
   unfold fineC
   rw [if_pos]
   rw [Bool.eq_false_iff]
   intro z
   have := List.all_eq_true.mp z j hjm
   rw [hb] at this; cases this)
  refine ⟨_, rfl, _, _, rfl, rfl, _, rfl, ?_⟩
  refine ite2 (fun c => ?_) (fun c => ?_)
  ·exact iteT (bad (by unfold inB; rw [decide_eq_false (show ¬ 0 ≤ j by have := of_decide_eq_true c; omega), Bool.false_and]) H' sm)
  ·have n0 : 0 ≤ j := by
    have : ¬ j < 0 := fun z => c (decide_eq_true z)
    omega
   refine ⟨_, rfl, _, rfl, _, _, rfl, rfl, _, rfl, ?_⟩
   refine ite2 (fun c2 => ?_) (fun c2 => ?_)
   ·exact bad (by unfold inB; rw [decide_eq_false (show ¬ j < (at' : Int) by have := of_decide_eq_true c2; omega), Bool.and_false]) H' sm
   ·have n1 : j < (at' : Int) := by
     have : ¬ j ≥ (at' : Int) := fun z => c2 (decide_eq_true z)
     omega
    have n2 : j.toNat < ss.length := by omega
    obtain ⟨v2, hv2, p2, pf2, vf2, rfl, hp2, hf2, _, _⟩ := paired_get2 hss (List.getElem?_eq_getElem n2)
    have ix : atI xs j = some (.ref p2) := by
     have := atI_nat (xs := xs) (j := j.toNat) hv2
     rwa [show ((j.toNat : Nat) : Int) = j by omega] at this
    have ltl := Paired.length hL
    rw [List.length_map, List.length_take] at ltl
    have tD : Tups H' (upd H' D (.lst (tl ++ [vf2]))) := tups_lst eD
    refine ⟨_, rfl, .inl ⟨rfl, _, SqL.of eD⟩, _, rfl, _, rfl, ls, _, _, _, rfl, rfl, SqL.of (sm _ _ hl), ix, p2, _, 0, _, rfl, rfl, SqT.of (sm _ _ hp2), atI_nat (j := 0) rfl, D, _, _, rfl, rfl, eD, small1000 (by omega), ⟨_, rfl⟩, same_upd sm hD, ?_, tl ++ [vf2], upd_same, ?_⟩
    ·rw [List.take_add_one, hj, List.all_append, hall]
     show (true && (inB (at' : Int) j && true)) = true
     unfold inB
     rw [decide_eq_true n0, decide_eq_true n1]; rfl
    ·rw [List.take_add_one, hj, List.map_append]
     refine paired_app (FL.mono tD hL) (.cons ?_ .nil)
     unfold factAt
     rw [List.getElem?_eq_getElem n2]
     exact (hf2.mono sm.tups).mono tD
 ·rintro σ H1 ⟨⟨o9, rfl⟩, s1, hall, tl, eD, hL⟩
  rw [List.length_map, List.take_length] at hall hL
  have lL : ys.length = ps.length := Paired.length hps
  have hall' : ¬ st.fr.all (inB (at' : Int)) = false := by rw [hall]; exact Bool.noConfusion
  refine ⟨_, rfl, lp, rfl, ⟨_, SqL.of (s1 _ _ hlp)⟩, for_list (xs := ys) (fun i σ H' => H' = H1 ∧ ∃ o11 o12 vs, σ = [some (.ref ls), some (.int (at' : Int)), some (.ref lp), some (.ref lsg), some vf, some (.str st.r), some (.ref pf), some (numV st.n), some (.ref D), o9, some vs, o11, o12] ∧ IsSo H1 (soOf (ps.take i) st.n) vs) ⟨rfl, _, _, _, rfl, by cases st.n <;> rfl⟩ ?_ ?_ ?_⟩
  ·rintro i σ H' _ ⟨rfl, _⟩
   exact SqL.of (s1 _ _ hlp)
  ·rintro i x σ H' hx ⟨rfl, o11, o12, vs, rfl, hso⟩
   obtain ⟨pq, hpq, t, vy, rfl, ht, hsy⟩ := paired_get hps hx
   refine ⟨t, _, rfl, SqT.of (s1 _ _ ht), rfl, _, _, rfl, _, _, rfl, rfl, ?_⟩
   refine ⟨_, rfl, rfl, _, rfl, ?_⟩
   cases hn : st.n with
   | none =>
    rw [hn] at hso
    exact iteF (iteF ⟨rfl, _, _, vs, rfl, hso⟩)
   | some n =>
    rw [hn] at hso
    have e1 : soOf (ps.take (i + 1)) (some n) = if pq.1 = n then some pq.2 else soOf (ps.take i) (some n) := last_take hpq n
    refine iteT ⟨_, rfl, _, rfl, rfl, _, rfl, ?_⟩
    refine ite2 (fun c => ?_) (fun c => ?_)
    ·have c' : pq.1 = n := by have := of_decide_eq_true c; injection this
     refine ⟨_, rfl, rfl, _, _, vy, rfl, ?_⟩
     rw [e1, if_pos c']
     exact hsy.mono s1.tups
    ·have c' : ¬ pq.1 = n := fun y => c (by rw [y]; exact decide_eq_true rfl)
     refine ⟨rfl, _, _, vs, rfl, ?_⟩
     rw [e1, if_neg c']
     exact hso
  ·rintro σ H' ⟨rfl, o11, o12, vs, rfl, hso⟩
   rw [lL, List.take_length] at hso
   have ltl : tl.length = st.fr.length := by
    have := Paired.length hL
    rw [List.length_map] at this
    exact this
   have hz := so_non hso
   have c0 : decide (numV st.n = .non) = st.n.isNone := by cases st.n <;> rfl
   have rest : ¬ (st.n.isSome = true ∧ soOf ps st.n = none) → fineC r st at' ss ps sg = fineR r st.f (st.fr.map (factAt ss)) (soOf ps st.n) sg := fun hc => by
    unfold fineC
    rw [if_neg hall', if_neg hc]
   have lo8 : ∀ sy, soOf ps st.n = some sy → sy.lo 8 := fun sy e => by
    cases hn : st.n with
    | none => rw [hn] at e; cases e
    | some n =>
     rw [hn] at e
     obtain ⟨q', hq', rfl⟩ := last_mem e
     exact hpo q' hq'
   have lofs : ∀ f ∈ st.fr.map (factAt ss), okF f := fun f hf => by
    obtain ⟨i, hi, rfl⟩ := List.mem_map.mp hf
    have := rec_in (List.all_eq_true.mp hall i hi)
    unfold factAt
    rw [List.getElem?_eq_getElem (show i.toNat < ss.length by omega)]
    exact (hok _ (List.getElem_mem _)).1
   have lenI : ((tl.length : Nat) : Int) = (st.fr.length : Int) := by rw [ltl]
   refine ⟨_, rfl, rfl, _, rfl, ?_⟩
   rw [c0]
   by_cases hc : st.n.isSome = true ∧ soOf ps st.n = none
   ·obtain ⟨h1, h2⟩ := hc
    have e1 : st.n.isNone = false := by cases hn : st.n with | none => rw [hn] at h1; cases h1 | some _ => rfl
    rw [e1]
    refine iteT ⟨_, rfl, rfl, _, rfl, ?_⟩
    rw [hz, h2]
    refine iteT (iteT (qf false ?_ _ s1))
    unfold fineC
    rw [if_neg hall', if_pos ⟨h1, h2⟩]
   ·have em := rest hc
    have hor : st.n.isNone = true ∨ (st.n.isNone = false ∧ (soOf ps st.n).isNone = false) := by
     cases hn : st.n with
     | none => exact .inl rfl
     | some n =>
      refine .inr ⟨rfl, ?_⟩
      cases hq : soOf ps (some n) with
      | none => exact absurd ⟨by rw [hn]; rfl, by rw [hn]; exact hq⟩ hc
      | some _ => rfl
    rcases hor with e1 | ⟨e1, e2⟩
    ·rw [e1]
     refine iteF (iteF ?_)
     refine ⟨_, rfl, D, _, rfl, .inl (SqL.of eD), _, _, rfl, rfl, _, rfl, ?_⟩
     by_cases h3 : 2 < tl.length
     ·rw [decide_eq_true (show ((tl.length : Nat) : Int) > 2 by omega)]
      refine iteT (qf false ?_ _ s1)
      rw [em]
      unfold fineR
      split
      ·rename_i e; have := congrArg List.length e; rw [List.length_map, ← ltl] at this; rw [this] at h3; simp at h3
      ·rename_i e; have := congrArg List.length e; rw [List.length_map, ← ltl] at this; rw [this] at h3; simp at h3
      ·rename_i e; have := congrArg List.length e; rw [List.length_map, ← ltl] at this; rw [this] at h3; simp at h3
      ·rfl
     rw [decide_eq_false (show ¬ ((tl.length : Nat) : Int) > 2 by omega)]
     refine iteF ⟨_, rfl, D, _, rfl, .inl (SqL.of eD), rfl, _, rfl, ?_⟩
     have h012 : tl.length = 0 ∨ tl.length = 1 ∨ tl.length = 2 := by omega
     have lfs : (st.fr.map (factAt ss)).length = tl.length := by rw [List.length_map, ltl]
     rcases h012 with h | h | h
     ·obtain ⟨rfl, ef⟩ := fl0 hL (lfs.trans h)
      rw [ef] at em
      refine iteT ⟨_, rfl, _, rfl, _, rfl, _, rfl, st.r, r, vf, vs, st.f, soOf ps st.n, lsg, sg, rfl, hru, hf.mono s1.tups, hokf, hso, s1 _ _ hlsg, fun H2 s2 => qf _ em H2 (s1.trans s2)⟩
     ·obtain ⟨v1, o1, rfl, ef, hv1⟩ := fl1 hL (lfs.trans h)
      rw [ef] at em
      have oo := lofs o1 (by rw [ef]; simp)
      refine iteF ⟨_, rfl, D, _, rfl, .inl (SqL.of eD), rfl, _, rfl, iteT ?_⟩
      exact ⟨_, rfl, _, rfl, _, rfl, D, _, 0, _, rfl, rfl, SqL.of eD, atI_nat (j := 0) rfl, _, rfl, st.r, r, vf, v1, vs, st.f, o1, soOf ps st.n, rfl, hru, hf.mono s1.tups, hokf, hv1, oo, hso, fun H2 s2 => qf _ em H2 (s1.trans s2)⟩
     ·obtain ⟨v1, v2, o1, o2, rfl, ef, hv1, hv2⟩ := fl2 hL (lfs.trans h)
      rw [ef] at em
      have oo := lofs o1 (by rw [ef]; simp)
      have ou := lofs o2 (by rw [ef]; simp)
      refine iteF ⟨_, rfl, D, _, rfl, .inl (SqL.of eD), rfl, _, rfl, iteF ?_⟩
      exact ⟨_, rfl, _, rfl, _, rfl, D, _, 0, _, rfl, rfl, SqL.of eD, atI_nat (j := 0) rfl, _, rfl, D, _, 1, _, rfl, rfl, SqL.of eD, atI_nat (j := 1) rfl, _, rfl, st.r, r, vf, v1, v2, vs, st.f, o1, o2, soOf ps st.n, rfl, hru, hf.mono s1.tups, hokf, hv1, oo, hv2, ou, hso, lo8, fun H2 s2 => qf _ em H2 (s1.trans s2)⟩
    ·rw [e1]
     refine iteT ⟨_, rfl, rfl, _, rfl, ?_⟩
     rw [hz, e2]
     refine iteF ?_
     refine ⟨_, rfl, D, _, rfl, .inl (SqL.of eD), _, _, rfl, rfl, _, rfl, ?_⟩
     by_cases h3 : 2 < tl.length
     ·rw [decide_eq_true (show ((tl.length : Nat) : Int) > 2 by omega)]
      refine iteT (qf false ?_ _ s1)
      rw [em]
      unfold fineR
      split
      ·rename_i e; have := congrArg List.length e; rw [List.length_map, ← ltl] at this; rw [this] at h3; simp at h3
      ·rename_i e; have := congrArg List.length e; rw [List.length_map, ← ltl] at this; rw [this] at h3; simp at h3
      ·rename_i e; have := congrArg List.length e; rw [List.length_map, ← ltl] at this; rw [this] at h3; simp at h3
      ·rfl
     rw [decide_eq_false (show ¬ ((tl.length : Nat) : Int) > 2 by omega)]
     refine iteF ⟨_, rfl, D, _, rfl, .inl (SqL.of eD), rfl, _, rfl, ?_⟩
     have h012 : tl.length = 0 ∨ tl.length = 1 ∨ tl.length = 2 := by omega
     have lfs : (st.fr.map (factAt ss)).length = tl.length := by rw [List.length_map, ltl]
     rcases h012 with h | h | h
     ·obtain ⟨rfl, ef⟩ := fl0 hL (lfs.trans h)
      rw [ef] at em
      refine iteT ⟨_, rfl, _, rfl, _, rfl, _, rfl, st.r, r, vf, vs, st.f, soOf ps st.n, lsg, sg, rfl, hru, hf.mono s1.tups, hokf, hso, s1 _ _ hlsg, fun H2 s2 => qf _ em H2 (s1.trans s2)⟩
     ·obtain ⟨v1, o1, rfl, ef, hv1⟩ := fl1 hL (lfs.trans h)
      rw [ef] at em
      have oo := lofs o1 (by rw [ef]; simp)
      refine iteF ⟨_, rfl, D, _, rfl, .inl (SqL.of eD), rfl, _, rfl, iteT ?_⟩
      exact ⟨_, rfl, _, rfl, _, rfl, D, _, 0, _, rfl, rfl, SqL.of eD, atI_nat (j := 0) rfl, _, rfl, st.r, r, vf, v1, vs, st.f, o1, soOf ps st.n, rfl, hru, hf.mono s1.tups, hokf, hv1, oo, hso, fun H2 s2 => qf _ em H2 (s1.trans s2)⟩
     ·obtain ⟨v1, v2, o1, o2, rfl, ef, hv1, hv2⟩ := fl2 hL (lfs.trans h)
      rw [ef] at em
      have oo := lofs o1 (by rw [ef]; simp)
      have ou := lofs o2 (by rw [ef]; simp)
      refine iteF ⟨_, rfl, D, _, rfl, .inl (SqL.of eD), rfl, _, rfl, iteF ?_⟩
      exact ⟨_, rfl, _, rfl, _, rfl, D, _, 0, _, rfl, rfl, SqL.of eD, atI_nat (j := 0) rfl, _, rfl, D, _, 1, _, rfl, rfl, SqL.of eD, atI_nat (j := 1) rfl, _, rfl, st.r, r, vf, v1, v2, vs, st.f, o1, o2, soOf ps st.n, rfl, hru, hf.mono s1.tups, hokf, hv1, oo, hv2, ou, hso, lo8, fun H2 s2 => qf _ em H2 (s1.trans s2)⟩
end
end K17
namespace K17
open PySem L2
def spCell (K : PySem.W.Frag) : Sp := fun vs H Q _ => ∃ (a : Addr) (ns : List Int) (i : Int), vs = [.ref a, .int i] ∧ SqL K H a (ns.map V.int) ∧ 0 ≤ i ∧ ∀ r : Int, Q (.int r) H
section
variable {P : Program} {w : World} {K : PySem.W.Frag} {mg : Str → Option Value} {base : Heap} {f g e : Addr} {fd gd ed : FuncData}
theorem scCell : FnScope ["_law_script", "_law_k"] ["_law_script", "_law_k"] (defScope sCell) := ⟨rfl, rfl, rfl, by decide +kernel, rfl, by decide +kernel, by decide +kernel⟩
theorem ok_cell (F : Fun K "_law_cell" "_law_cell" sCell f fd) (ml : mg "len" = none) : FnOk P w K mg base CX0 1 f fd ["_law_script", "_law_k"] (spCell K) := by
 refine F.ok scCell (fun vs H Q E h => ?_) (fun cdv A outer s H vs Q E hr h => ?_)
 ·obtain ⟨a, ns, i, rfl, _⟩ := h; rfl
 obtain ⟨a, ns, i, rfl, hS, h0, q⟩ := h
 refine ⟨_, @pss_cons _ _ _ _ _ (by exact ps_if (pt_cmpR op_lt (pv 1) (pe_callB call_len_seq rfl ml PySem.boot_len (pa_cons (pv 0) pa_nil)) (nomark _)) (pss_one (ps_ret (pe_ix ix_list (pv 0) (pv 1) (fun _ _ => rfl)))) pss_nil)
  (@pss_one _ _ _ (by exact ps_ret pe_int)), ?_⟩
 refine ⟨_, rfl, _, rfl, a, _, rfl, .inl hS, _, _, rfl, rfl, _, rfl, ite2 (fun h => ?_) (fun h => q 0)⟩
 have h' : i < ((ns.map V.int).length : Int) := of_decide_eq_true h
 rw [List.length_map] at h'
 have hi : i.toNat < ns.length := by omega
 have z : atI (ns.map V.int) ((i.toNat : Nat) : Int) = some (.int ns[i.toNat]) := atI_nat (by rw [List.getElem?_map, List.getElem?_eq_getElem hi]; rfl)
 rw [show ((i.toNat : Nat) : Int) = i by omega] at z
 exact ⟨_, rfl, _, rfl, a, _, i, _, rfl, rfl, hS, z, q _⟩
end
def kept : List Str := ["anything", "nothing", "every", "no", "is", "tie", "within", "then", "makes", "both", "some"]
abbrev az : Str := "abcdefghijklmnopqrstuvwxyz"
def goodL (i : Nat) : Bool := i == 2 || i == 3 || i == 5 || i == 9 || i == 11 || i == 15 || i == 16 || i == 20 || i == 23 || i == 25
theorem good_out : ∀ w' ∈ kept, ∀ c ∈ w'.cps.toList, goodL (c - 97) = false := by decide +kernel
theorem good_not {z : Str} {c : Nat} (hc : c ∈ z.cps.toList) (hg : goodL (c - 97) = true) : inV (.str z) (kept.map V.str) = false := by
 cases e : inV (.str z) (kept.map V.str) with
 | false => rfl
 | true =>
  exfalso
  unfold inV at e
  rw [List.any_eq_true] at e
  obtain ⟨y, hy, e⟩ := e
  obtain ⟨w', hw, rfl⟩ := List.mem_map.mp hy
  have : w' = z := by simpa [eqV] using e
  subst this
  have := good_out w' hw c hc
  rw [this] at hg
  cases hg
theorem az_at {i : Nat} (h : i < 26) : atI (az).cps.toList (i : Int) = some (97 + i) := by
 have e : (az).cps.toList = List.range' 97 26 := by decide +kernel
 rw [e]
 exact atI_nat (by rw [List.getElem?_range' h]; simp)
theorem az_len : (az).length = 26 := by decide +kernel
theorem flat_kept : (kept.map V.str).all flatV = true := by decide +kernel
def smA (z : Str) : Prop := ∀ c ∈ z.cps.toList, 97 ≤ c ∧ c ≤ 122
theorem smA_nil : smA ⟨#[]⟩ := fun c h => by simp at h
theorem smA_app {a b : Str} (ha : smA a) (hb : smA b) : smA (a ++ b) := fun c h => by
 rw [Str.cps_append] at h
 simp only [Array.toList_append, List.mem_append] at h
 exact h.elim (ha c) (hb c)
theorem smA_slice {z : Str} {lo hi : Option Int} (h : smA z) : smA (Txt.slice z lo hi) := fun c hc => by
 rw [slice_cps] at hc
 exact h c (List.mem_of_mem_drop (List.mem_of_mem_take hc))
theorem smA_sign {j : Nat} (h : j < 26) : smA ⟨#[97 + j]⟩ := fun c hc => by
 have : c = 97 + j := by simpa using hc
 omega
theorem mem_app {a b : Str} {c : Nat} (h : c ∈ a.cps.toList ∨ c ∈ b.cps.toList) : c ∈ (a ++ b).cps.toList := by
 rw [Str.cps_append]
 simpa using h
def wd (z : Str) : Prop := 1 ≤ z.length ∧ z.length ≤ 12 ∧ smA z
theorem ixN0 (n : Nat) : ixN (n + 1) 0 = some 0 := by
 unfold ixN
 simp
def spDraw : Sp := fun vs H Q _ => ∃ (b : Addr) (x m : Int) (rest : List V), vs = [.ref b, .int m] ∧ H b = some (.lst (.int x :: rest)) ∧ 0 < m ∧ ∀ (x' r : Int), 0 ≤ r → r < m → Q (.int r) (upd H b (.lst (.int x' :: rest)))
def spWords : Sp := fun vs H Q _ => ∃ c m : Int, vs = [.int c, .int m] ∧ 0 < m ∧ m ≤ 3 ∧
 ∀ (p : Addr) (H' : Hp) (ws : List Str), Same H H' → H p = none → H' p = some (.lst (ws.map V.str)) → (ws.length : Int) = m → (∀ z ∈ ws, wd z) → Q (.ref p) H'
theorem ndkwt : ((([("_law_k" : Str)] : List Str) ++ [("_law_word" : Str), ("_law_taken" : Str)]) : List Str).Nodup := by decide +kernel
theorem ndw : ((([("_law_word" : Str)] : List Str) ++ []) : List Str).Nodup := by decide +kernel
theorem slice_len0 (z : Str) (k : Nat) : (Txt.slice z none (some (k : Int))).length = min k z.length := by
 have e := congrArg List.length (slice_cps z none (some (k : Int)))
 have hz : z.cps.toList.length = z.length := by simp [Str.length]
 have hs : (Txt.slice z none (some (k : Int))).cps.toList.length = (Txt.slice z none (some (k : Int))).length := by simp [Str.length]
 rw [hs, List.length_take, List.length_drop, hz, HT.sIx_nat] at e
 have e2 : HT.sIx z.length 0 none = 0 := rfl
 rw [e2] at e
 omega
theorem slice_len1 (z : Str) (k : Nat) : (Txt.slice z (some (k : Int)) none).length = z.length - k := by
 have e := congrArg List.length (slice_cps z (some (k : Int)) none)
 have hz : z.cps.toList.length = z.length := by simp [Str.length]
 have hs : (Txt.slice z (some (k : Int)) none).cps.toList.length = (Txt.slice z (some (k : Int)) none).length := by simp [Str.length]
 rw [hs, List.length_take, List.length_drop, hz, HT.sIx_nat] at e
 have e2 : HT.sIx z.length z.length none = z.length := rfl
 rw [e2] at e
 omega
def nameAt (z : Str) (k : Nat) (c : Nat) : Str := Txt.slice z none (some (k : Int)) ++ ⟨#[c]⟩ ++ Txt.slice z (some ((k : Int) + 1)) none
theorem nameAt_wd {z : Str} {k c : Nat} (hz : smA z) (hl : z.length ≤ 12) (hk : k < z.length) (h1 : 97 ≤ c) (h2 : c ≤ 122) : wd (nameAt z k c) := by
 have e1 := slice_len0 z k
 have e2 := slice_len1 z (k + 1)
 rw [show (((k + 1 : Nat) : Int)) = (k : Int) + 1 by omega] at e2
 have e3 : (nameAt z k c).length = (Txt.slice z none (some (k : Int))).length + 1 + (Txt.slice z (some ((k : Int) + 1)) none).length := by
  unfold nameAt
  rw [Str.length_append, Str.length_append]; rfl
 refine ⟨by omega, by omega, smA_app (smA_app (smA_slice hz) ?_) (smA_slice hz)⟩
 intro d hd
 have : d = c := by simpa using hd
 omega
theorem cut_strs (ws : List Str) {m : Int} (h : 0 ≤ m) : cutV (ws.map V.str) none (some m) = (ws.take m.toNat).map V.str := by
 have h1 : HT.sIx (ws.map V.str).length (ws.map V.str).length (some ((m.toNat : Nat) : Int)) = min m.toNat (ws.map V.str).length := HT.sIx_nat _ _ _
 have h2 : HT.sIx (ws.map V.str).length 0 none = 0 := rfl
 rw [show ((m.toNat : Nat) : Int) = m by omega] at h1
 unfold cutV
 rw [h1, h2, List.drop_zero, Nat.sub_zero, List.map_take]
 rcases Nat.le_total m.toNat (ws.map V.str).length with g | g
 ·rw [Nat.min_eq_left g]
 ·rw [Nat.min_eq_right g, List.take_of_length_le (Nat.le_refl _), List.take_of_length_le g]
theorem three_in {ws : List Str} {a b c : Str} (ha : a ∈ ws) (hb : b ∈ ws) (hc : c ∈ ws) (ab : a ≠ b) (ac : a ≠ c) (bc : b ≠ c) : 3 ≤ ws.length := by
 match ws with
 | [] => simp at ha
 | [x] =>
  simp only [List.mem_singleton] at ha hb
  exact absurd (ha.trans hb.symm) ab
 | [x, y] =>
  simp only [List.mem_cons, List.not_mem_nil, or_false] at ha hb hc
  rcases ha with rfl | rfl <;> rcases hb with rfl | rfl <;> rcases hc with rfl | rfl <;> first | exact absurd rfl ab | exact absurd rfl ac | exact absurd rfl bc
 | _ :: _ :: _ :: r => simp only [List.length_cons]; omega
theorem az_get {i c : Nat} (h : (az).cps[i]? = some c) : i < 26 ∧ c = 97 + i := by
 have e : (az).cps.toList = List.range' 97 26 := by decide +kernel
 have h' : (az).cps.toList[i]? = some c := by simpa using h
 rw [e] at h'
 obtain ⟨h1, h2⟩ := List.getElem?_eq_some_iff.mp h'
 rw [List.length_range'] at h1
 rw [List.getElem_range'] at h2
 exact ⟨h1, by omega⟩
theorem nameAt_mem (z : Str) (k c : Nat) : c ∈ (nameAt z k c).cps.toList := mem_app (.inl (mem_app (.inr (by simp))))
theorem nameAt_inj {z : Str} {k c d : Nat} (h : nameAt z k c = nameAt z k d) : c = d := by
 unfold nameAt at h
 have h' := congrArg (fun s : Str => s.cps.toList) h
 simp only [Str.cps_append, Array.toList_append] at h'
 have h2 := List.append_cancel_right h'
 have h3 := List.append_cancel_left h2
 simpa using h3
section
variable {P : Program} {w : World} {K : PySem.W.Frag} {mg : Str → Option Value} {base : Heap} {f g e a1 : Addr} {fd gd' ed d1 : FuncData}
theorem scDraw : FnScope ["_law_bag", "_law_many"] ["_law_bag", "_law_many"] (defScope sDraw) := ⟨rfl, rfl, rfl, by decide +kernel, rfl, by decide +kernel, by decide +kernel⟩
theorem ok_draw (F : Fun K "_law_draw" "_law_draw" sDraw f fd) : FnOk P w K mg base CX0 1 f fd ["_law_bag", "_law_many"] spDraw := by
 refine F.ok scDraw (fun vs H Q E h => ?_) (fun cdv A outer s H vs Q E hr h => ?_)
 ·obtain ⟨b, x, m, rest, rfl, _⟩ := h; rfl
 obtain ⟨b, x, m, rest, rfl, hb, hm, q⟩ := h
 refine ⟨_, @pss_cons _ _ _ _ _ (by exact ps_asg (pe_op op_mod (pe_op op_add (pe_op op_mul (pe_ix ix_list (pv 0) pe_int (fun _ _ => rfl)) pe_int) pe_int) pe_int) (pg_sub (pv 0) pe_int set_list))
  (@pss_one _ _ _ (by exact @ps_ret _ _ _ _ (pe_op op_mod (pe_op op_fdiv (pe_ix ix_list (pv 0) pe_int (fun _ _ => rfl)) pe_int) (pv 1)))), ?_⟩
 refine ⟨_, rfl, b, _, 0, _, rfl, rfl, SqL.of hb, atI_nat (j := 0) rfl, _, _, rfl, rfl, .inr ⟨by decide, by decide⟩, _, _, rfl, rfl, _, _, rfl, rfl, (show (0 : Int) < 2147483647 by decide), _, rfl, b, _, 0, 0, rfl, rfl, hb, ixN0 _, ?_⟩
 refine ⟨_, rfl, b, _, 0, _, rfl, rfl, SqL.of upd_same, atI_nat (j := 0) rfl, _, _, rfl, rfl, ⟨by decide, by decide⟩, _, rfl, _, _, rfl, rfl, hm, ?_⟩
 exact q _ _ (Int.emod_nonneg _ (by omega)) (Int.emod_lt_of_pos _ hm)
theorem scWords : FnScope ["_law_cell_here", "_law_many", "_law_letters", "_law_taken", "_law_size_here", "_law_rest", "_law_word", "_law_k", "_law_made", "_law_spot", "_law_letter", "_law_name"] ["_law_cell_here", "_law_many"] (defScope sWords) := ⟨rfl, rfl, rfl, by decide +kernel, rfl, by decide +kernel, by decide +kernel⟩
theorem ok_words (F : Fun K "_law_words" "_law_words" sWords f fd) (ml : mg "len" = none) (mr : mg "range" = none) : FnOk P w K mg base CX0 1 f fd ["_law_cell_here", "_law_many"] spWords := by
 refine F.ok scWords (fun vs H Q E h => ?_) (fun cdv A outer s H vs Q E hr h => ?_)
 ·obtain ⟨c, m, rfl, _⟩ := h; rfl
 obtain ⟨c, m, rfl, hm0, hm3, q⟩ := h
 refine ⟨_, @pss_cons _ _ _ _ _ (by exact ps_set (i := 2) scWords.nd rfl (Or.inl rfl) pe_str)
  (@pss_cons _ _ _ _ _ (by exact @ps_set _ _ 3 _ _ _ _ scWords.nd rfl (Or.inr rfl) (@pe_lst _ _ _ _ (@pa_strs _ _ kept rfl)) rfl (.inl rfl))
  (@pss_cons _ _ _ _ _ (by exact ps_set (i := 4) scWords.nd rfl (Or.inl rfl) (pe_op op_add pe_int (pe_op op_mod (pv 0) pe_int)))
  (@pss_cons _ _ _ _ _ (by exact ps_set (i := 5) scWords.nd rfl (Or.inl rfl) (pe_op op_mod (pe_op op_fdiv (pv 0) pe_int) (pe_op op_pow pe_int pe_int)))
  (@pss_cons _ _ _ _ _ (by exact ps_set (i := 6) scWords.nd rfl (Or.inr rfl) pe_str)
  (@pss_mid _ _ _ _ _ (by exact ps_for PassesOwn.never rfl (pi_range1 rfl mr (pa_cons (pv 4) pa_nil)) (pg_name (i := 7) scWords.nd rfl (Or.inl rfl)) (@pss_cons _ _ _ _ _ (by exact ps_set (i := 6) scWords.nd rfl (Or.inr rfl) (pe_op op_add_str (pv 6) (pe_ix ix_str (pv 2) (pe_op op_mod (pv 5) pe_int) (fun _ _ => rfl)))) (@pss_one _ _ _ (by exact ps_set (i := 5) scWords.nd rfl (Or.inl rfl) (pe_op op_add (pe_op op_fdiv (pv 5) pe_int) (pe_op op_mul pe_int (pv 7)))))))
  (@pss_cons _ _ _ _ _ (by exact ps_set (i := 8) scWords.nd rfl (Or.inl rfl) (pe_lst pa_nil))
  (@pss_mid _ _ _ _ _ (by exact ps_if (pt_cmpR op_eq (pe_op op_mod (pe_op op_fdiv (pv 0) pe_int) pe_int) pe_int (nomark _)) (@pss_one _ _ _ (by exact ps_set (i := 8) scWords.nd rfl (Or.inl rfl) (pe_slice sl_list (pe_comp ["_law_k"] ["_law_word", "_law_taken"] [6, 3] rfl (pi_range2 rfl mr (pa_cons pe_int (pa_cons (pe_op op_add (pv 4) pe_int) pa_nil))) (fun _ _ _ => pg_name (i := 0) ndkwt rfl (Or.inl rfl)) (fun _ _ _ => pts_one (pt_cmpR (r := rIn K true) op_notIn_seq (pe_slice sl_str (pv 1) po_none (po_some (pv 0))) (pv 2) rfl)) (fun _ _ _ => (pe_slice sl_str (pv 1) po_none (po_some (pv 0))))) po_none (po_some (pv 1))))) pss_nil)
  (@pss_cons _ _ _ _ _ (by exact ps_set (i := 9) scWords.nd rfl (Or.inl rfl) (pe_op op_mod (pe_op op_fdiv (pv 0) pe_int) (pv 4)))
  (@pss_cons _ _ _ _ _ (by exact ps_for PassesOwn.never rfl (pi_str (pv 2)) (pg_name (i := 10) scWords.nd rfl (Or.inl rfl)) (@pss_cons _ _ _ _ _ (by exact ps_set (i := 11) scWords.nd rfl (Or.inl rfl) (pe_op op_add_str (pe_op op_add_str (pe_slice sl_str (pv 6) po_none (po_some (pv 9))) (pv 10)) (pe_slice sl_str (pv 6) (po_some (pe_op op_add (pv 9) pe_int)) po_none))) (@pss_one _ _ _ (by exact ps_if (PW.pt (pw_and (pt_cmpR op_lt (pe_callB call_len_seq rfl ml PySem.boot_len (pa_cons (pv 8) pa_nil)) (pv 1) (nomark _)) (pw_and (pt_cmpR op_notIn_seq (pv 11) (pv 3) rfl) (pw_and1 (pt_cmpR op_notIn_seq (pv 11) (pv 8) rfl))))) (@pss_one _ _ _ (by exact ps_expr (pe_bm PySem.F.plainAttrs_list PySem.F.slot_list_append PySem.F.type_list_append mt_append (pv 8) (pa_cons (pv 11) pa_nil)))) pss_nil))))
  (@pss_one _ _ _ (by exact @ps_ret _ _ _ _ (pv 8)))))))))))), ?_⟩
 have m0 := Int.emod_nonneg c (show (12 : Int) ≠ 0 by decide)
 have m1 := Int.emod_lt_of_pos c (show (0 : Int) < 12 by decide)
 refine ⟨(by show 11 ≤ sizeLine; exact small2 (by decide)), fun lk hlk => ?_⟩
 refine ⟨_, rfl, _, _, rfl, rfl, (show (0 : Int) < 12 by decide), _, _, rfl, rfl, ?_⟩
 obtain ⟨n, hn, hn1, hn2⟩ : ∃ n : Nat, (n : Int) = 1 + c % 12 ∧ 1 ≤ n ∧ n ≤ 12 := ⟨(1 + c % 12).toNat, by omega, by omega, by omega⟩
 refine ⟨_, rfl, _, _, rfl, rfl, ⟨by decide, by decide⟩, _, _, rfl, rfl, ⟨by decide, by decide, by decide⟩, _, _, rfl, rfl, (show (0 : Int) < 10 ^ 20 by decide), ?_⟩
 have s0 := same_new hlk (.lst (kept.map V.str))
 refine ⟨fun σ H' => H' = upd H lk (.lst (kept.map V.str)) ∧ ∃ (z : Str) (o5 o7 : Option V), σ = [some (.int c), some (.int m), some (.str az), some (.ref lk), some (.int (1 + c % 12)), o5, some (.str z), o7, none, none, none, none] ∧ z.length = n ∧ smA z, ?_, ?_⟩
 ·refine ⟨_, rfl, _, rfl, by omega, by omega, ?_⟩
  refine for_range (fun i σ H' => H' = upd H lk (.lst (kept.map V.str)) ∧ ∃ (z : Str) (x : Int) (o7 : Option V), σ = [some (.int c), some (.int m), some (.str az), some (.ref lk), some (.int (1 + c % 12)), some (.int x), some (.str z), o7, none, none, none, none] ∧ z.length = i ∧ smA z) ⟨rfl, ⟨#[]⟩, _, none, rfl, rfl, smA_nil⟩ ?_ ?_
  ·rintro i σ H' hi ⟨rfl, z, x, o7, rfl, hz, hsm⟩
   have n0 := Int.emod_nonneg x (show (26 : Int) ≠ 0 by decide)
   have n1 := Int.emod_lt_of_pos x (show (0 : Int) < 26 by decide)
   have za := az_at (i := (x % 26).toNat) (by omega)
   rw [show (((x % 26).toNat : Nat) : Int) = x % 26 by omega] at za
   have hi' : i < n := by omega
   refine ⟨_, rfl, _, rfl, _, rfl, _, _, rfl, rfl, (show (0 : Int) < 26 by decide), az, _, _, rfl, rfl, small2 (by rw [az_len]; decide), za, z, _, rfl, rfl, ?_, ?_⟩
   ·show z.length + 1 ≤ sizeLine
    exact small2 (by omega)
   ·refine ⟨_, rfl, _, _, rfl, rfl, ⟨by decide, by decide⟩, _, rfl, _, _, rfl, rfl, .inl ⟨by decide, by decide⟩, _, _, rfl, rfl, rfl, _, _, _, rfl, ?_, smA_app hsm (smA_sign (by omega))⟩
    rw [Str.length_append, hz]; rfl
  ·rintro σ H' ⟨rfl, z, x, o7, rfl, hz, hsm⟩
   exact ⟨rfl, z, _, o7, rfl, by omega, hsm⟩
 rintro σ H' ⟨rfl, z, o5, o7, rfl, hz, hsm⟩
 refine ⟨Nat.zero_le _, fun ln hln => ?_⟩
 have s1 := s0.trans (same_new hln (.lst []))
 have hlnH : H ln = none := none_of_same s0 hln
 have nkl : lk ≠ ln := ne_of_none upd_same hln
 refine ⟨fun σ H' => ∃ (pm : Addr) (ws : List Str), σ = [some (.int c), some (.int m), some (.str az), some (.ref lk), some (.int (1 + c % 12)), o5, some (.str z), o7, some (.ref pm), none, none, none] ∧ Same H H' ∧ H pm = none ∧ pm ≠ lk ∧ H' lk = some (.lst (kept.map V.str)) ∧ H' pm = some (.lst (ws.map V.str)) ∧ (ws.length : Int) ≤ m ∧ ∀ y ∈ ws, wd y, ?_, ?_⟩
 ·refine ⟨_, rfl, _, _, rfl, rfl, ⟨by decide, by decide⟩, _, _, rfl, rfl, (show (0 : Int) < 2 by decide), rfl, _, rfl, ?_⟩
  have ek : (upd (upd H lk (.lst (kept.map V.str))) ln (.lst [])) lk = some (.lst (kept.map V.str)) := by rw [upd_ne nkl]; exact upd_same
  refine ite2 (fun _ => ?_) (fun _ => ?_)
  ·refine ⟨_, rfl, _, _, rfl, rfl, 1, 1 + c % 12 + 1, rfl, ⟨by omega, by omega, by omega, by omega⟩, fun D hD => ?_⟩
   have sD := same_new hD (.lst [])
   have nD : lk ≠ D := ne_of_none ek hD
   refine cmp_by (1 + c % 12 + 1 - 1).toNat (fun i σ H' => (∃ o, σ = [o, some (.str z), some (.ref lk)]) ∧ Same H H' ∧ H' lk = some (.lst (kept.map V.str)) ∧ ∃ ws : List Str, H' D = some (.lst (ws.map V.str)) ∧ ws.length ≤ i ∧ ∀ y ∈ ws, wd y) ⟨⟨_, rfl⟩, s1.trans sD, by rw [upd_ne nD]; exact ek, [], upd_same, Nat.zero_le _, fun y hy => (nomatch hy)⟩ ?_ ?_
   ·rintro σ H' ⟨_, sm, ek', ws, eD, hl, hw⟩
    refine ⟨Nat.le_refl _, _, rfl, m, rfl, D, _, rfl, SqL.of eD, fun p hp => ?_⟩
    rw [cut_strs ws (by omega)]
    have sp := same_new hp (.lst ((ws.take m.toNat).map V.str))
    refine ⟨p, ws.take m.toNat, rfl, sm.trans sp, none_of_same sm hp, ?_, sp _ _ ek', upd_same, ?_, fun y hy => hw y (List.mem_of_mem_take hy)⟩
    ·intro e; rw [e, ek'] at hp; cases hp
    ·rw [List.length_take]; omega
   ·rintro i σ H' hi ⟨⟨o, rfl⟩, sm, ek', ws, eD, hl, hw⟩
    refine ⟨hi, ?_⟩
    rintro y H2 ⟨rfl, rfl⟩
    have hik : i + 1 ≤ n := by omega
    have ls := slice_len0 z (i + 1)
    rw [show (((i + 1 : Nat) : Int)) = 1 + (i : Int) by omega] at ls
    have hDn : D ≠ lk := Ne.symm nD
    refine ⟨_, rfl, _, rfl, 1 + (i : Int), rfl, z, rfl, small2 (by omega), _, rfl, lk, _, rfl, .inl (SqL.of ek'), rfl, flat_kept, _, rfl, ?_⟩
    refine ite2 (fun _ => ?_) (fun _ => ?_)
    ·refine ⟨_, rfl, _, rfl, 1 + (i : Int), rfl, z, rfl, small2 (by omega), _, eD, small1000 (by rw [List.length_map]; omega), ⟨_, rfl⟩, ?_, by rw [upd_ne nD]; exact ek', ws ++ [Txt.slice z none (some (1 + (i : Int)))], ?_, by rw [List.length_append]; show _ + 1 ≤ _; omega, fun y hy => ?_⟩
     ·exact same_upd sm (none_of_same s1 hD)
     ·rw [upd_same, List.map_append]; rfl
     ·rcases List.mem_append.mp hy with hy | hy
      ·exact hw y hy
      ·have : y = _ := List.mem_singleton.mp hy
       subst this
       exact ⟨by omega, by omega, smA_slice hsm⟩
    ·exact ⟨⟨_, rfl⟩, sm, ek', ws, eD, by omega, hw⟩
  ·exact ⟨ln, [], rfl, s1, hlnH, Ne.symm nkl, ek, upd_same, by simp; omega, fun y hy => (nomatch hy)⟩
 rintro σ H' ⟨pm, ws, rfl, sm, hpm, npk, ek, epm, hlm, hw⟩
 have k0 := Int.emod_nonneg (c / 7) (show (1 + c % 12 : Int) ≠ 0 by omega)
 have k1 := Int.emod_lt_of_pos (c / 7) (show (0 : Int) < 1 + c % 12 by omega)
 obtain ⟨k, hk, hkn⟩ : ∃ k : Nat, (k : Int) = c / 7 % (1 + c % 12) ∧ k < n := ⟨(c / 7 % (1 + c % 12)).toNat, by omega, by omega⟩
 refine ⟨_, rfl, _, _, rfl, rfl, ⟨by decide, by decide⟩, _, rfl, _, _, rfl, rfl, (show (0 : Int) < 1 + c % 12 by omega), ?_⟩
 refine ⟨_, rfl, az, rfl, for_str (fun i σ H' => ∃ (ws : List Str) (o10 o11 : Option V), σ = [some (.int c), some (.int m), some (.str az), some (.ref lk), some (.int (1 + c % 12)), o5, some (.str z), o7, some (.ref pm), some (.int (c / 7 % (1 + c % 12))), o10, o11] ∧ Same H H' ∧ H' lk = some (.lst (kept.map V.str)) ∧ H' pm = some (.lst (ws.map V.str)) ∧ (ws.length : Int) ≤ m ∧ (∀ y ∈ ws, wd y) ∧ ((ws.length : Int) = m ∨ ∀ j, j < i → goodL j = true → nameAt z k (97 + j) ∈ ws))
  ⟨ws, none, none, rfl, sm, ek, epm, hlm, hw, .inr fun j hj => absurd hj (Nat.not_lt_zero _)⟩ ?_ ?_⟩
 ·rintro i cc σ H2 hc ⟨ws, o10, o11, rfl, sm2, ek2, ep2, hl2, hw2, hg2⟩
  obtain ⟨hi, rfl⟩ := az_get hc
  have e1 := slice_len0 z k
  have e2 := slice_len1 z (k + 1)
  rw [hk] at e1
  rw [show (((k + 1 : Nat) : Int)) = c / 7 % (1 + c % 12) + 1 by omega] at e2
  have nm : (Txt.slice z none (some (c / 7 % (1 + c % 12))) ++ ⟨#[97 + i]⟩ ++ Txt.slice z (some (c / 7 % (1 + c % 12) + 1)) none : Str) = nameAt z k (97 + i) := by
   unfold nameAt
   rw [hk]
  have wn := nameAt_wd (c := 97 + i) hsm (by omega) (show k < z.length by omega) (by omega) (by omega)
  refine ⟨_, rfl, _, rfl, _, rfl, z, rfl, small2 (by omega), _, rfl, _, _, rfl, rfl, small2 (by show _ + 1 ≤ 1000; omega), _, rfl, _, rfl, _, _, rfl, rfl, _, rfl, z, rfl, small2 (by omega), _, _, rfl, rfl, small2 (by rw [Str.length_append]; show _ + 1 + _ ≤ 1000; omega), ?_⟩
  rw [nm]
  refine ⟨_, rfl, pm, _, rfl, .inl (SqL.of ep2), _, rfl, _, _, rfl, rfl, _, rfl, ?_⟩
  rw [List.length_map]
  refine ite2 (fun c1 => ?_) (fun c1 => ?_)
  ·have c1' := of_decide_eq_true c1
   refine ⟨_, rfl, _, rfl, lk, _, rfl, .inl (SqL.of ek2), rfl, flat_kept, _, rfl, ?_⟩
   show if (!inV (.str (nameAt z k (97 + i))) (kept.map V.str)) = true then _ else _
   cases c2 : inV (.str (nameAt z k (97 + i))) (kept.map V.str) with
   | true =>
    refine iteF (iteF ⟨ws, _, _, rfl, sm2, ek2, ep2, hl2, hw2, ?_⟩)
    rcases hg2 with h | h
    ·exact .inl h
    ·refine .inr fun j hj hgj => ?_
     rcases Nat.lt_or_ge j i with hji | hji
     ·exact h j hji hgj
     ·have : j = i := by omega
      subst this
      have := good_not (nameAt_mem z k (97 + j)) (by rw [Nat.add_sub_cancel_left]; exact hgj)
      rw [this] at c2; cases c2
   | false =>
    refine iteT ⟨_, rfl, _, rfl, pm, _, rfl, .inl (SqL.of ep2), rfl, flat_strs ws, _, rfl, ?_⟩
    show if (!inV (.str (nameAt z k (97 + i))) (ws.map V.str)) = true then _ else _
    rw [in_strs]
    by_cases c3 : nameAt z k (97 + i) ∈ ws
    ·rw [decide_eq_true c3]
     refine iteF ⟨ws, _, _, rfl, sm2, ek2, ep2, hl2, hw2, ?_⟩
     rcases hg2 with h | h
     ·exact .inl h
     ·refine .inr fun j hj hgj => ?_
      rcases Nat.lt_or_ge j i with hji | hji
      ·exact h j hji hgj
      ·have : j = i := by omega
       subst this
       exact c3
    ·rw [decide_eq_false c3]
     refine iteT ⟨_, rfl, .inl ⟨rfl, _, SqL.of ep2⟩, _, rfl, pm, _, _, rfl, rfl, ep2, small1000 (by rw [List.length_map]; omega), ws ++ [nameAt z k (97 + i)], _, _, rfl, same_upd sm2 hpm, by rw [upd_ne (Ne.symm npk)]; exact ek2, ?_, by rw [List.length_append]; show ((ws.length + 1 : Nat) : Int) ≤ m; omega, fun y hy => ?_, ?_⟩
     ·rw [upd_same, List.map_append]; rfl
     ·rcases List.mem_append.mp hy with hy | hy
      ·exact hw2 y hy
      ·have : y = _ := List.mem_singleton.mp hy
       subst this
       exact wn
     ·rcases hg2 with h | h
      ·omega
      ·refine .inr fun j hj hgj => ?_
       rcases Nat.lt_or_ge j i with hji | hji
       ·exact List.mem_append_left _ (h j hji hgj)
       ·have : j = i := by omega
        subst this
        exact List.mem_append_right _ (by simp)
  ·have c1' : ¬ (ws.length : Int) < m := fun y => c1 (decide_eq_true y)
   exact iteF ⟨ws, _, _, rfl, sm2, ek2, ep2, hl2, hw2, .inl (by omega)⟩
 ·rintro σ H2 ⟨ws, o10, o11, rfl, sm2, ek2, ep2, hl2, hw2, hg2⟩
  refine ⟨_, rfl, q pm H2 ws sm2 hpm ep2 ?_ hw2⟩
  rcases hg2 with h | h
  ·exact h
  ·have sz : (az).cps.size = 26 := by decide +kernel
   rw [sz] at h
   have t3 := three_in (h 2 (by decide) (by decide)) (h 3 (by decide) (by decide)) (h 5 (by decide) (by decide)) (fun y => by have := nameAt_inj y; omega) (fun y => by have := nameAt_inj y; omega) (fun y => by have := nameAt_inj y; omega)
   omega
end
end K17
namespace K17
open PySem L2
abbrev AZ : Str := "ABCDEFGHIJKLMNOPQRSTUVWXYZ"
theorem AZ_at {i : Nat} (h : i < 26) : atI (AZ).cps.toList (i : Int) = some (65 + i) := by
 have e : (AZ).cps.toList = List.range' 65 26 := by decide +kernel
 rw [e]
 exact atI_nat (by rw [List.getElem?_range' h]; simp)
theorem AZ_mod (i : Int) : ∃ c, atI (AZ).cps.toList (i % 26) = some c ∧ 65 ≤ c ∧ c ≤ 90 := by
 have n0 := Int.emod_nonneg i (show (26 : Int) ≠ 0 by decide)
 have n1 := Int.emod_lt_of_pos i (show (0 : Int) < 26 by decide)
 have := AZ_at (i := (i % 26).toNat) (by omega)
 rw [show (((i % 26).toNat : Nat) : Int) = i % 26 by omega] at this
 exact ⟨_, this, by omega, by omega⟩
theorem AZ_len : (AZ).length = 26 := by decide +kernel
def thg (z : Str) : Prop := z.length ≤ 12 ∧ ∃ c r, z.cps.toList = c :: r ∧ 65 ≤ c ∧ c ≤ 90 ∧ ∀ d ∈ r, 97 ≤ d ∧ d ≤ 122
theorem thg_of {c : Nat} {e : Str} (h1 : 65 ≤ c) (h2 : c ≤ 90) (hl : e.length ≤ 11) (hs : smA e) : thg ((⟨#[c]⟩ : Str) ++ e) := by
 refine ⟨?_, c, e.cps.toList, ?_, h1, h2, fun d hd => hs d hd⟩
 ·rw [Str.length_append]; show 1 + _ ≤ 12; omega
 ·rw [Str.cps_append]; simp
def spThings : Sp := fun vs H Q _ => ∃ c m : Int, vs = [.int c, .int m] ∧ 0 < m ∧ m ≤ 3 ∧
 ∀ (p : Addr) (H' : Hp) (ws : List Str), Same H H' → H p = none → H' p = some (.lst (ws.map V.str)) → (ws.length : Int) = m → (∀ z ∈ ws, thg z) → Q (.ref p) H'
theorem ndegc : ((([("_law_end" : Str)] : List Str) ++ [("_law_great" : Str), ("_law_cell_here" : Str)]) : List Str).Nodup := by decide +kernel
theorem ndkgec : ((([("_law_k" : Str)] : List Str) ++ [("_law_great" : Str), ("_law_ends" : Str), ("_law_cell_here" : Str)]) : List Str).Nodup := by decide +kernel
section
variable {P : Program} {w : World} {K : PySem.W.Frag} {mg : Str → Option Value} {base : Heap} {f g e a1 a2 : Addr} {fd gd' ed d1 d2 : FuncData}
theorem scThings : FnScope ["_law_cell_here", "_law_many", "_law_great", "_law_ends"] ["_law_cell_here", "_law_many"] (defScope sThings) := ⟨rfl, rfl, rfl, by decide +kernel, rfl, by decide +kernel, by decide +kernel⟩
theorem ok_things (F : Fun K "_law_things" "_law_things" sThings f fd) (mr : mg "range" = none) (Gw : FnOk P w K mg base CX0 1 a1 d1 ["_law_cell_here", "_law_many"] spWords) (bGw : Binds K d1 ["_law_cell_here", "_law_many"] []) (kGw : PySem.W.keepIn K (.ref a1) = true) (mGw : mg "_law_words" = some (.ref a1)) :
  FnOk P w K mg base CX0 2 f fd ["_law_cell_here", "_law_many"] spThings := by
 refine F.ok scThings (fun vs H Q E h => ?_) (fun cdv A outer s H vs Q E hr h => ?_)
 ·obtain ⟨c, m, rfl, _⟩ := h; rfl
 obtain ⟨c, m, rfl, hm0, hm3, q⟩ := h
 have hrw := hr
 refine ⟨_, @pss_cons _ _ _ _ _ (by exact ps_set (i := 2) scThings.nd rfl (Or.inr rfl) pe_str)
  (@pss_cons _ _ _ _ _ (by exact ps_set (i := 3) scThings.nd rfl (Or.inr rfl) (pe_comp ["_law_word"] [] [] rfl (pi_list (pe_call Gw hrw rfl mGw kGw bGw .nil pass0 (pa_cons (pv 0) (pa_cons (pv 1) pa_nil)))) (fun _ _ _ => pg_name (i := 0) ndw rfl (Or.inl rfl)) (fun _ _ _ => pts_nil) (fun _ _ _ => (pe_slice sl_str (pv 0) po_none (po_some pe_int)))))
  (@pss_cons _ _ _ _ _ (by exact ps_if (pt_cmpR op_eq (pe_op op_mod (pe_op op_fdiv (pv 0) pe_int) pe_int) pe_int (nomark _)) (@pss_one _ _ _ (by exact @ps_ret _ _ _ _ (pe_comp ["_law_end"] ["_law_great", "_law_cell_here"] [2, 0] rfl (pi_list (pv 3)) (fun _ _ _ => pg_name (i := 0) ndegc rfl (Or.inl rfl)) (fun _ _ _ => pts_nil) (fun _ _ _ => (pe_op op_add_str (pe_ix ix_str (pv 1) (pe_op op_mod (pe_op op_fdiv (pv 2) pe_int) pe_int) (fun _ _ => rfl)) (pv 0)))))) pss_nil)
  (@pss_one _ _ _ (by exact @ps_ret _ _ _ _ (pe_comp ["_law_k"] ["_law_great", "_law_ends", "_law_cell_here"] [2, 3, 0] rfl (pi_range1 rfl mr (pa_cons (pv 1) pa_nil)) (fun _ _ _ => pg_name (i := 0) ndkgec rfl (Or.inl rfl)) (fun _ _ _ => pts_nil) (fun _ _ _ => (pe_op op_add_str (pe_ix ix_str (pv 1) (pe_op op_mod (pe_op op_add (pe_op op_fdiv (pv 3) pe_int) (pe_op op_mul pe_int (pv 0))) pe_int) (fun _ _ => rfl)) (pe_slice sl_str (pe_ix (r := rIxL K) ix_list (pv 2) pe_int (fun _ _ => rfl)) (po_some pe_int) po_none)))))))), ?_⟩
 refine ⟨_, rfl, _, rfl, c, m, rfl, hm0, hm3, fun p H1 ws s1 hp e1 l1 w1 => ⟨p, rfl, ⟨_, SqL.of e1⟩, fun D hD => ?_⟩⟩
 have sD := same_new hD (.lst [])
 have npD : p ≠ D := ne_of_none e1 hD
 refine cmp_by (ws.map V.str).length (fun i σ H' => (∃ o, σ = [o]) ∧ Same H H' ∧ H' p = some (.lst (ws.map V.str)) ∧ ∃ es : List Str, H' D = some (.lst (es.map V.str)) ∧ es.length = i ∧ ∀ y ∈ es, y.length ≤ 11 ∧ smA y) ⟨⟨_, rfl⟩, s1.trans sD, by rw [upd_ne npD]; exact e1, [], upd_same, rfl, fun y hy => (nomatch hy)⟩ ?_ ?_
 ·rintro σ H2 ⟨_, s2, e2, es, eD, le, we⟩
  rw [List.length_map] at le
  refine ⟨⟨_, SqL.of e2, Nat.le_refl _⟩, ?_⟩
  refine ⟨_, rfl, _, _, rfl, rfl, ⟨by decide, by decide⟩, _, _, rfl, rfl, (show (0 : Int) < 2 by decide), rfl, _, rfl, ?_⟩
  refine ite2 (fun _ => ?_) (fun _ => ?_)
  ·refine ⟨_, rfl, D, rfl, ⟨_, SqL.of eD⟩, fun D2 hD2 => ?_⟩
   have sD2 := same_new hD2 (.lst [])
   have nD2 : D ≠ D2 := ne_of_none eD hD2
   refine cmp_by (es.map V.str).length (fun i σ H' => (∃ o, σ = [o, some (.str AZ), some (.int c)]) ∧ Same H H' ∧ H' D = some (.lst (es.map V.str)) ∧ ∃ ts : List Str, H' D2 = some (.lst (ts.map V.str)) ∧ ts.length = i ∧ ∀ y ∈ ts, thg y) ⟨⟨_, rfl⟩, s2.trans sD2, by rw [upd_ne nD2]; exact eD, [], upd_same, rfl, fun y hy => (nomatch hy)⟩ ?_ ?_
   ·rintro σ H3 ⟨_, s3, e3, ts, eT, lt, wt⟩
    rw [List.length_map] at lt
    exact ⟨⟨_, SqL.of e3, Nat.le_refl _⟩, q D2 H3 ts s3 (none_of_same s2 hD2) eT (by omega) wt⟩
   ·rintro i σ H3 hi ⟨⟨o, rfl⟩, s3, e3, ts, eT, lt, wt⟩
    have hi' : i < es.length := by simpa using hi
    refine ⟨⟨_, .str es[i], SqL.of e3, by simp [hi']⟩, ?_⟩
    rintro y H4 ⟨rfl, hy⟩
    have hyi := hy _ (SqL.of e3)
    rw [List.getElem?_map, List.getElem?_eq_getElem hi'] at hyi
    cases hyi
    obtain ⟨cc, ec, c1, c2⟩ := AZ_mod (c / 4)
    obtain ⟨b1, b2⟩ := we _ (List.getElem_mem hi')
    refine ⟨_, rfl, _, rfl, _, _, rfl, rfl, ⟨by decide, by decide⟩, _, _, rfl, rfl, (show (0 : Int) < 26 by decide), AZ, _, cc, rfl, rfl, small2 (by rw [AZ_len]; decide), ec, _, rfl, _, _, rfl, rfl, small2 (by show 1 + _ ≤ 1000; omega), _, eT, small1000 (by rw [List.length_map]; omega), ⟨_, rfl⟩, same_upd s3 (none_of_same s2 hD2), by rw [upd_ne nD2]; exact e3, ts ++ [(⟨#[cc]⟩ : Str) ++ es[i]], ?_, by rw [List.length_append, lt]; rfl, fun y hy => ?_⟩
    ·rw [upd_same, List.map_append]; rfl
    ·rcases List.mem_append.mp hy with hy | hy
     ·exact wt y hy
     ·have : y = _ := List.mem_singleton.mp hy
      subst this
      exact thg_of c1 c2 b1 b2
  ·refine ⟨_, rfl, m, rfl, by omega, by omega, fun D2 hD2 => ?_⟩
   have sD2 := same_new hD2 (.lst [])
   have nD2 : D ≠ D2 := ne_of_none eD hD2
   have h0 : 0 < es.length := by omega
   refine cmp_by m.toNat (fun i σ H' => (∃ o, σ = [o, some (.str AZ), some (.ref D), some (.int c)]) ∧ Same H H' ∧ H' D = some (.lst (es.map V.str)) ∧ ∃ ts : List Str, H' D2 = some (.lst (ts.map V.str)) ∧ ts.length = i ∧ ∀ y ∈ ts, thg y) ⟨⟨_, rfl⟩, s2.trans sD2, by rw [upd_ne nD2]; exact eD, [], upd_same, rfl, fun y hy => (nomatch hy)⟩ ?_ ?_
   ·rintro σ H3 ⟨_, s3, e3, ts, eT, lt, wt⟩
    exact ⟨Nat.le_refl _, q D2 H3 ts s3 (none_of_same s2 hD2) eT (by omega) wt⟩
   ·rintro i σ H3 hi ⟨⟨o, rfl⟩, s3, e3, ts, eT, lt, wt⟩
    refine ⟨hi, ?_⟩
    rintro y H4 ⟨rfl, rfl⟩
    obtain ⟨cc, ec, c1, c2⟩ := AZ_mod (c / 4 + 7 * (0 + (i : Int)))
    obtain ⟨b1, b2⟩ := we _ (List.getElem_mem h0)
    have l1 := Txt.slice_le es[0] (some 1) none
    have at0 : atI (es.map V.str) 0 = some (.str es[0]) := atI_nat (j := 0) (by rw [List.getElem?_map, List.getElem?_eq_getElem h0]; rfl)
    refine ⟨_, rfl, _, rfl, _, _, rfl, rfl, ⟨by decide, by decide⟩, _, rfl, _, _, rfl, rfl, .inl ⟨by decide, by decide⟩, _, _, rfl, rfl, _, _, rfl, rfl, (show (0 : Int) < 26 by decide), AZ, _, cc, rfl, rfl, small2 (by rw [AZ_len]; decide), ec, _, rfl, D, _, 0, _, rfl, rfl, SqL.of e3, at0, 1, rfl, es[0], rfl, small2 (by omega), _, _, rfl, rfl, small2 (by show 1 + _ ≤ 1000; omega), _, eT, small1000 (by rw [List.length_map]; omega), ⟨_, rfl⟩, same_upd s3 (none_of_same s2 hD2), by rw [upd_ne nD2]; exact e3, ts ++ [(⟨#[cc]⟩ : Str) ++ Txt.slice es[0] (some 1) none], ?_, by rw [List.length_append, lt]; rfl, fun y hy => ?_⟩
    ·rw [upd_same, List.map_append]; rfl
    ·rcases List.mem_append.mp hy with hy | hy
     ·exact wt y hy
     ·have : y = _ := List.mem_singleton.mp hy
      subst this
      exact thg_of c1 c2 (by omega) (smA_slice b2)
 ·rintro i σ H2 hi ⟨⟨o, rfl⟩, s2, e2, es, eD, le, we⟩
  have hi' : i < ws.length := by simpa using hi
  refine ⟨⟨_, .str ws[i], SqL.of e2, by simp [hi']⟩, ?_⟩
  rintro y H4 ⟨rfl, hy⟩
  have hyi := hy _ (SqL.of e2)
  rw [List.getElem?_map, List.getElem?_eq_getElem hi'] at hyi
  cases hyi
  obtain ⟨b1, b2, b3⟩ := w1 _ (List.getElem_mem hi')
  have ls := slice_len0 ws[i] 11
  refine ⟨_, rfl, 11, rfl, ws[i], rfl, small2 (by omega), _, eD, small1000 (by rw [List.length_map]; omega), ⟨_, rfl⟩, same_upd s2 (none_of_same s1 hD), by rw [upd_ne npD]; exact e2, es ++ [Txt.slice ws[i] none (some 11)], ?_, by rw [List.length_append, le]; rfl, fun y hy => ?_⟩
  ·rw [upd_same, List.map_append]; rfl
  ·rcases List.mem_append.mp hy with hy | hy
   ·exact we y hy
   ·have : y = _ := List.mem_singleton.mp hy
    subst this
    have ls' : (Txt.slice ws[i] none (some 11)).length = min 11 ws[i].length := ls
    exact ⟨by omega, smA_slice b3⟩
end
def NmIn (ws : List Str) (k : Kd) : Prop := ∀ t, k = .nm t → t ∈ ws ∨ t = "anything" ∨ t = "nothing"
def spKind (n : Nat) : Sp := fun vs H Q _ => ∃ (b lk lt : Addr) (x y u : Int) (ws ts : List Str) (d : Nat), vs = [.ref b, .ref lk, .ref lt, .int (d : Int)] ∧ H b = some (.lst [.int x, .int y]) ∧ H lk = some (.lst (ws.map V.str)) ∧ H lt = some (.lst (ts.map V.str)) ∧
 lk ≠ b ∧ lt ≠ b ∧ 0 < ws.length ∧ ws.length ≤ 100 ∧ 0 < ts.length ∧ ts.length ≤ 100 ∧ d < n ∧
 ∀ (v : V) (H' : Hp) (k : Kd) (x' y' : Int), Kp [b] H H' → H' b = some (.lst [.int x', .int y']) → IsK H' k v → k.nt + 1 ≤ 2 ^ d → k.dep ≤ d → NmIn ws k → Q v H'
section
variable {P : Program} {w : World} {K : PySem.W.Frag} {mg : Str → Option Value} {base : Heap} {f g e a1 a2 : Addr} {fd gd' ed d1 d2 : FuncData}
theorem strs_at {ws : List Str} {r : Int} (h0 : 0 ≤ r) (h1 : r < (ws.length : Int)) : ∃ z ∈ ws, atI (ws.map V.str) r = some (.str z) := by
 have hj : r.toNat < ws.length := by omega
 refine ⟨ws[r.toNat], List.getElem_mem hj, ?_⟩
 have z : atI (ws.map V.str) ((r.toNat : Nat) : Int) = some (.str ws[r.toNat]) := atI_nat (by rw [List.getElem?_map, List.getElem?_eq_getElem hj]; rfl)
 rwa [show ((r.toNat : Nat) : Int) = r by omega] at z
theorem scKind : FnScope ["_law_bag", "_law_kin", "_law_ties", "_law_deep", "_law_way", "_law_one"] ["_law_bag", "_law_kin", "_law_ties", "_law_deep"] (defScope sKind) := ⟨rfl, rfl, rfl, by decide +kernel, rfl, by decide +kernel, by decide +kernel⟩
theorem ok_kind {n k0 : Nat} (hk0 : 1 ≤ k0) (F : Fun K "_law_kind" "_law_kind" sKind f fd) (Gk : FnOk P w K mg base CX0 k0 f fd ["_law_bag", "_law_kin", "_law_ties", "_law_deep"] (spKind n)) (bGk : Binds K fd ["_law_bag", "_law_kin", "_law_ties", "_law_deep"] []) (mGk : mg "_law_kind" = some (.ref f)) (ml : mg "len" = none)
  (Gdr : FnOk P w K mg base CX0 1 a1 d1 ["_law_bag", "_law_many"] spDraw) (bGdr : Binds K d1 ["_law_bag", "_law_many"] []) (kGdr : PySem.W.keepIn K (.ref a1) = true) (mGdr : mg "_law_draw" = some (.ref a1)) :
  FnOk P w K mg base CX0 (k0 + 1) f fd ["_law_bag", "_law_kin", "_law_ties", "_law_deep"] (spKind (n + 1)) := by
 refine F.ok scKind (fun vs H Q E h => ?_) (fun cdv A outer s H vs Q E hr h => ?_)
 ·obtain ⟨b, lk, lt, x, y, u, ws, ts, d, rfl, _⟩ := h; rfl
 obtain ⟨b, lk, lt, x, y, u, ws, ts, d, rfl, hb, hlk, hlt, nk, nt, w0, w1, t0, t1, hd, q⟩ := h
 have hrk := hr
 have hrdr := hr.mono hk0
 have kGk := F.kp
 refine ⟨_, @pss_cons _ _ _ _ _ (by exact ps_set (i := 4) scKind.nd rfl (Or.inl rfl) (pe_call Gdr hrdr rfl mGdr kGdr bGdr .nil pass0 (pa_cons (pv 0) (pa_cons pe_int pa_nil))))
  (@pss_cons _ _ _ _ _ (by exact ps_if (PW.pt (pw_or (pt_cmpR op_eq (pv 3) pe_int (nomark _)) (pw_or (pt_cmpR op_eq (pe_ix ix_list (pv 0) pe_int (fun _ _ => rfl)) pe_int (nomark _)) (pw_or1 (pt_cmpR op_gt (pv 4) pe_int (nomark _)))))) (@pss_cons _ _ _ _ _ (by exact ps_if (pt_cmpR op_eq (pv 4) pe_int (nomark _)) (@pss_one _ _ _ (by exact @ps_ret _ _ _ _ (pe_ix ix_list (pe_lst (pa_cons pe_str (pa_cons pe_str pa_nil))) (pe_op op_fdiv (pe_call Gdr hrdr rfl mGdr kGdr bGdr .nil pass0 (pa_cons (pv 0) (pa_cons pe_int pa_nil))) pe_int) (fun _ _ => rfl)))) pss_nil) (@pss_one _ _ _ (by exact @ps_ret _ _ _ _ (pe_ix ix_list (pv 1) (pe_call Gdr hrdr rfl mGdr kGdr bGdr .nil pass0 (pa_cons (pv 0) (pa_cons (pe_callB call_len_seq rfl ml PySem.boot_len (pa_cons (pv 1) pa_nil)) pa_nil))) (fun _ _ => rfl))))) pss_nil)
  (@pss_cons _ _ _ _ _ (by exact ps_asg (pe_op op_sub (pe_ix ix_list (pv 0) pe_int (fun _ _ => rfl)) pe_int) (pg_sub (pv 0) pe_int set_list))
  (@pss_cons _ _ _ _ _ (by exact ps_if (pt_cmpR op_lt (pv 4) pe_int (nomark _)) (@pss_one _ _ _ (by exact @ps_ret _ _ _ _ (@pe_tup _ _ _ _ _ (pa_cons pe_str (pa_cons (pe_ix ix_list (pv 2) (pe_call Gdr hrdr rfl mGdr kGdr bGdr .nil pass0 (pa_cons (pv 0) (pa_cons (pe_callB call_len_seq rfl ml PySem.boot_len (pa_cons (pv 2) pa_nil)) pa_nil))) (fun _ _ => rfl)) (pa_cons (pe_call Gk hrk rfl mGk kGk bGk .nil pass0 (pa_cons (pv 0) (pa_cons (pv 1) (pa_cons (pv 2) (pa_cons (pe_op op_sub (pv 3) pe_int) pa_nil))))) pa_nil)))))) pss_nil)
  (@pss_cons _ _ _ _ _ (by exact ps_set (i := 5) scKind.nd rfl (Or.inl rfl) (pe_call Gk hrk rfl mGk kGk bGk .nil pass0 (pa_cons (pv 0) (pa_cons (pv 1) (pa_cons (pv 2) (pa_cons (pe_op op_sub (pv 3) pe_int) pa_nil))))))
  (@pss_one _ _ _ (by exact @ps_ret _ _ _ _ (@pe_tup _ _ _ _ _ (pa_cons pe_str (pa_cons (pv 5) (pa_cons (pe_call Gk hrk rfl mGk kGk bGk .nil pass0 (pa_cons (pv 0) (pa_cons (pv 1) (pa_cons (pv 2) (pa_cons (pe_op op_sub (pv 3) pe_int) pa_nil))))) pa_nil)))))))))), ?_⟩
 have bm : b ∈ [b] := List.mem_singleton.mpr rfl
 have nk' : lk ∉ [b] := fun z => nk (List.mem_singleton.mp z)
 have nt' : lt ∉ [b] := fun z => nt (List.mem_singleton.mp z)
 refine ⟨_, rfl, b, x, 9, _, rfl, hb, by decide, fun x1 way y0 y1 => ?_⟩
 have k1 : Kp [b] H (upd H b (.lst [.int x1, .int y])) := Kp.lst bm hb
 have b1 : upd H b (.lst [.int x1, .int y]) b = some (.lst [.int x1, .int y]) := upd_same
 generalize upd H b (.lst [.int x1, .int y]) = H1 at k1 b1 ⊢
 have lk1 := k1.but _ _ nk' hlk
 have lt1 := k1.but _ _ nt' hlt
 have leaf : ∀ (H2 : Hp) (v : V) (t : Str) (x2 : Int), Kp [b] H1 H2 → H2 b = some (.lst [.int x2, .int y]) → v = .str t → (t ∈ ws ∨ t = "anything" ∨ t = "nothing") → Q v H2 := fun H2 v t x2 k2 b2 e ht =>
  q v H2 (.nm t) x2 y (k1.trans k2) b2 e (Nat.one_le_two_pow) (Nat.zero_le _) fun t' e' => by cases e'; exact ht
 refine ⟨_, rfl, rfl, _, rfl, ?_⟩
 by_cases hd0 : d = 0
 ·subst hd0
  rw [show decide (V.int ((0 : Nat) : Int) = V.int 0) = true from rfl]
  refine iteT (iteT ?_)
  refine ⟨_, rfl, rfl, _, rfl, ite2 (fun _ => ?_) (fun _ => ?_)⟩
  ·refine ⟨le2, fun l hl => ?_⟩
   have sl := same_new hl (.lst [.str "anything", .str "nothing"])
   have nlb : l ≠ b := fun z => by rw [z, b1] at hl; cases hl
   refine ⟨_, rfl, b, x1, 5, _, rfl, sl _ _ b1, by decide, fun x2 r2 r0 r1 => ?_⟩
   have k2 : Kp [b] H1 (upd (upd H1 l (.lst [.str "anything", .str "nothing"])) b (.lst [.int x2, .int y])) := (Kp.of sl).trans (Kp.lst bm (sl _ _ b1))
   have el : upd (upd H1 l (.lst [.str "anything", .str "nothing"])) b (.lst [.int x2, .int y]) l = some (.lst [.str "anything", .str "nothing"]) := by rw [upd_ne nlb]; exact upd_same
   have e01 : r2 / 4 = 0 ∨ r2 / 4 = 1 := by omega
   rcases e01 with e01 | e01
   ·refine ⟨_, _, rfl, rfl, ⟨by decide, by decide⟩, l, _, _, .str "anything", rfl, rfl, SqL.of el, ?_, leaf _ _ "anything" x2 k2 upd_same rfl (.inr (.inl rfl))⟩
    rw [e01]; exact atI_nat (j := 0) rfl
   ·refine ⟨_, _, rfl, rfl, ⟨by decide, by decide⟩, l, _, _, .str "nothing", rfl, rfl, SqL.of el, ?_, leaf _ _ "nothing" x2 k2 upd_same rfl (.inr (.inr rfl))⟩
    rw [e01]; exact atI_nat (j := 1) rfl
  ·refine ⟨_, rfl, _, rfl, _, rfl, lk, _, rfl, .inl (SqL.of lk1), b, x1, _, _, rfl, b1, ?_, fun x2 r2 r0 r1 => ?_⟩
   ·rw [List.length_map]; omega
   rw [List.length_map] at r1
   obtain ⟨z, hz, ez⟩ := strs_at r0 r1
   have k2 : Kp [b] H1 (upd H1 b (.lst [.int x2, .int y])) := Kp.lst bm b1
   exact ⟨lk, _, _, _, rfl, rfl, SqL.of (k2.but _ _ nk' lk1), ez, leaf _ _ z x2 k2 upd_same rfl (.inl hz)⟩
 rw [decide_eq_false (show ¬ V.int (d : Int) = V.int 0 from fun z => hd0 (by injection z with z; omega))]
 refine iteF ⟨_, rfl, b, _, 1, _, rfl, rfl, SqL.of b1, atI_nat (j := 1) rfl, rfl, _, rfl, ite2 (fun _ => iteT ?_) (fun _ => ?_)⟩
 ·refine ⟨_, rfl, rfl, _, rfl, ite2 (fun _ => ?_) (fun _ => ?_)⟩
  ·refine ⟨le2, fun l hl => ?_⟩
   have sl := same_new hl (.lst [.str "anything", .str "nothing"])
   have nlb : l ≠ b := fun z => by rw [z, b1] at hl; cases hl
   refine ⟨_, rfl, b, x1, 5, _, rfl, sl _ _ b1, by decide, fun x2 r2 r0 r1 => ?_⟩
   have k2 : Kp [b] H1 (upd (upd H1 l (.lst [.str "anything", .str "nothing"])) b (.lst [.int x2, .int y])) := (Kp.of sl).trans (Kp.lst bm (sl _ _ b1))
   have el : upd (upd H1 l (.lst [.str "anything", .str "nothing"])) b (.lst [.int x2, .int y]) l = some (.lst [.str "anything", .str "nothing"]) := by rw [upd_ne nlb]; exact upd_same
   have e01 : r2 / 4 = 0 ∨ r2 / 4 = 1 := by omega
   rcases e01 with e01 | e01
   ·refine ⟨_, _, rfl, rfl, ⟨by decide, by decide⟩, l, _, _, .str "anything", rfl, rfl, SqL.of el, ?_, leaf _ _ "anything" x2 k2 upd_same rfl (.inr (.inl rfl))⟩
    rw [e01]; exact atI_nat (j := 0) rfl
   ·refine ⟨_, _, rfl, rfl, ⟨by decide, by decide⟩, l, _, _, .str "nothing", rfl, rfl, SqL.of el, ?_, leaf _ _ "nothing" x2 k2 upd_same rfl (.inr (.inr rfl))⟩
    rw [e01]; exact atI_nat (j := 1) rfl
  ·refine ⟨_, rfl, _, rfl, _, rfl, lk, _, rfl, .inl (SqL.of lk1), b, x1, _, _, rfl, b1, ?_, fun x2 r2 r0 r1 => ?_⟩
   ·rw [List.length_map]; omega
   rw [List.length_map] at r1
   obtain ⟨z, hz, ez⟩ := strs_at r0 r1
   have k2 : Kp [b] H1 (upd H1 b (.lst [.int x2, .int y])) := Kp.lst bm b1
   exact ⟨lk, _, _, _, rfl, rfl, SqL.of (k2.but _ _ nk' lk1), ez, leaf _ _ z x2 k2 upd_same rfl (.inl hz)⟩
 refine ⟨_, rfl, _, _, rfl, rfl, _, rfl, ite2 (fun _ => ?_) (fun _ => ?_)⟩
 ·refine ⟨_, rfl, rfl, _, rfl, ite2 (fun _ => ?_) (fun _ => ?_)⟩
  ·refine ⟨le2, fun l hl => ?_⟩
   have sl := same_new hl (.lst [.str "anything", .str "nothing"])
   have nlb : l ≠ b := fun z => by rw [z, b1] at hl; cases hl
   refine ⟨_, rfl, b, x1, 5, _, rfl, sl _ _ b1, by decide, fun x2 r2 r0 r1 => ?_⟩
   have k2 : Kp [b] H1 (upd (upd H1 l (.lst [.str "anything", .str "nothing"])) b (.lst [.int x2, .int y])) := (Kp.of sl).trans (Kp.lst bm (sl _ _ b1))
   have el : upd (upd H1 l (.lst [.str "anything", .str "nothing"])) b (.lst [.int x2, .int y]) l = some (.lst [.str "anything", .str "nothing"]) := by rw [upd_ne nlb]; exact upd_same
   have e01 : r2 / 4 = 0 ∨ r2 / 4 = 1 := by omega
   rcases e01 with e01 | e01
   ·refine ⟨_, _, rfl, rfl, ⟨by decide, by decide⟩, l, _, _, .str "anything", rfl, rfl, SqL.of el, ?_, leaf _ _ "anything" x2 k2 upd_same rfl (.inr (.inl rfl))⟩
    rw [e01]; exact atI_nat (j := 0) rfl
   ·refine ⟨_, _, rfl, rfl, ⟨by decide, by decide⟩, l, _, _, .str "nothing", rfl, rfl, SqL.of el, ?_, leaf _ _ "nothing" x2 k2 upd_same rfl (.inr (.inr rfl))⟩
    rw [e01]; exact atI_nat (j := 1) rfl
  ·refine ⟨_, rfl, _, rfl, _, rfl, lk, _, rfl, .inl (SqL.of lk1), b, x1, _, _, rfl, b1, ?_, fun x2 r2 r0 r1 => ?_⟩
   ·rw [List.length_map]; omega
   rw [List.length_map] at r1
   obtain ⟨z, hz, ez⟩ := strs_at r0 r1
   have k2 : Kp [b] H1 (upd H1 b (.lst [.int x2, .int y])) := Kp.lst bm b1
   exact ⟨lk, _, _, _, rfl, rfl, SqL.of (k2.but _ _ nk' lk1), ez, leaf _ _ z x2 k2 upd_same rfl (.inl hz)⟩
 obtain ⟨e, rfl⟩ : ∃ e, d = e + 1 := ⟨d - 1, by omega⟩
 refine ⟨_, rfl, b, _, 1, _, rfl, rfl, SqL.of b1, atI_nat (j := 1) rfl, _, _, rfl, rfl, _, rfl, b, _, 1, 1, rfl, rfl, b1, rfl, ?_⟩
 have k2 : Kp [b] H1 (upd H1 b (.lst [.int x1, .int (y - 1)])) := Kp.lst bm b1
 have b2 : upd H1 b (.lst [.int x1, .int (y - 1)]) b = some (.lst [.int x1, .int (y - 1)]) := upd_same
 have lk2 := k2.but _ _ nk' lk1
 have lt2 := k2.but _ _ nt' lt1
 have ed : ((e + 1 : Nat) : Int) - 1 = (e : Int) := by omega
 have p2 : 2 ^ (e + 1) = 2 * 2 ^ e := by rw [Nat.pow_succ]; omega
 refine ⟨_, rfl, _, _, rfl, rfl, _, rfl, ite2 (fun _ => ?_) (fun _ => ?_)⟩
 ·refine ⟨_, rfl, _, rfl, _, rfl, lt, _, rfl, .inl (SqL.of lt2), b, x1, _, _, rfl, b2, ?_, fun x3 r3 r0 r1 => ?_⟩
  ·rw [List.length_map]; omega
  rw [List.length_map] at r1
  obtain ⟨z, hz, ez⟩ := strs_at r0 r1
  have k3 : Kp [b] (upd H1 b (.lst [.int x1, .int (y - 1)])) (upd (upd H1 b (.lst [.int x1, .int (y - 1)])) b (.lst [.int x3, .int (y - 1)])) := Kp.lst bm b2
  refine ⟨lt, _, _, _, rfl, rfl, SqL.of (k3.but _ _ nt' lt2), ez, ?_⟩
  refine ⟨_, rfl, _, rfl, _, rfl, _, rfl, _, _, rfl, rfl, b, lk, lt, x3, y - 1, u, ws, ts, e, by rw [← ed]; rfl, upd_same, k3.but _ _ nk' lk2, k3.but _ _ nt' lt2, nk, nt, w0, w1, t0, t1, by omega, fun v4 H4 kd x4 y4 k4 b4 i4 n4 dp4 _ => ?_⟩
  refine ⟨le3, fun t ht => ?_⟩
  have s5 := same_new ht (.tup [.str "some", .str z, v4])
  refine q (.ref t) _ (.som z kd) x4 y4 ((k1.trans k2).trans ((k3.trans k4).trans (.of s5))) (s5 _ _ b4) ⟨t, v4, rfl, upd_same, i4.mono s5.tups⟩ ?_ (by show 1 + kd.dep ≤ _; omega) (fun t' e' => by cases e')
  show 1 + kd.nt + 1 ≤ _
  omega
 ·refine ⟨_, rfl, _, rfl, _, rfl, _, rfl, _, _, rfl, rfl, b, lk, lt, x1, y - 1, u, ws, ts, e, by rw [← ed]; rfl, b2, lk2, lt2, nk, nt, w0, w1, t0, t1, by omega, fun v4 H4 kd x4 y4 k4 b4 i4 n4 dp4 _ => ?_⟩
  refine ⟨_, rfl, _, rfl, _, rfl, _, rfl, _, rfl, _, _, rfl, rfl, b, lk, lt, x4, y4, u, ws, ts, e, by rw [← ed]; rfl, b4, k4.but _ _ nk' lk2, k4.but _ _ nt' lt2, nk, nt, w0, w1, t0, t1, by omega, fun v5 H5 kd2 x5 y5 k5 b5 i5 n5 dp5 _ => ?_⟩
  refine ⟨le3, fun t ht => ?_⟩
  have s6 := same_new ht (.tup [.str "both", v4, v5])
  refine q (.ref t) _ (.two kd kd2) x5 y5 ((k1.trans k2).trans ((k4.trans k5).trans (.of s6))) (s6 _ _ b5) ⟨t, v4, v5, rfl, upd_same, (i4.mono k5.tups).mono s6.tups, i5.mono s6.tups⟩ ?_ (by show 1 + max kd.dep kd2.dep ≤ _; omega) (fun t' e' => by cases e')
  show 1 + kd.nt + kd2.nt + 1 ≤ _
  omega
theorem kind_none : FnOk P w K mg base CX0 1 f fd ["_law_bag", "_law_kin", "_law_ties", "_law_deep"] (spKind 0) := by
 have no : ∀ vs H Q E, ¬ spKind 0 vs H Q E := fun vs H Q E h => by
  obtain ⟨b, lk, lt, x, y, u, ws, ts, d, _, _, _, _, _, _, _, _, _, _, h, _⟩ := h
  omega
 exact ⟨fun vs H Q E h => absurd h (no vs H Q E), fun A outer s H args us vs Q E _ _ _ _ h => absurd h (no vs H Q E)⟩
theorem kind_all (F : Fun K "_law_kind" "_law_kind" sKind f fd) (bGk : Binds K fd ["_law_bag", "_law_kin", "_law_ties", "_law_deep"] []) (mGk : mg "_law_kind" = some (.ref f)) (ml : mg "len" = none)
  (Gdr : FnOk P w K mg base CX0 1 a1 d1 ["_law_bag", "_law_many"] spDraw) (bGdr : Binds K d1 ["_law_bag", "_law_many"] []) (kGdr : PySem.W.keepIn K (.ref a1) = true) (mGdr : mg "_law_draw" = some (.ref a1)) :
  ∀ n : Nat, FnOk P w K mg base CX0 (n + 1) f fd ["_law_bag", "_law_kin", "_law_ties", "_law_deep"] (spKind n)
 | 0 => kind_none
 | n + 1 => ok_kind (by omega) F (kind_all F bGk mGk ml Gdr bGdr kGdr mGdr n) bGk mGk ml Gdr bGdr kGdr mGdr
end
end K17
namespace K17
open PySem L2
def ruOf (z : Str) : Ru := (ruL.find? fun q => decide (z = ruS q)).getD .oth
theorem ru_of (z : Str) : IsRu (ruOf z) z := by
 unfold ruOf
 cases h : ruL.find? (fun q => decide (z = ruS q)) with
 | none => exact .inr ⟨rfl, fun q hq e => absurd (List.find?_eq_none.mp h q hq) (by rw [decide_eq_true e]; exact fun z => z rfl)⟩
 | some q =>
  have h1 : decide (z = ruS q) = true := List.find?_some (p := fun q => decide (z = ruS q)) h
  have h2 := List.mem_of_find?_eq_some h
  exact .inl ⟨fun e => by
   have e' : q = .oth := e
   rw [e'] at h2
   exact absurd h2 (by decide), of_decide_eq_true h1⟩
def rightAt (ss : List Stp) (ps : List (Int × Sy)) (i : Nat) : Bool := ((ss[i]?).map fun s => rightC (ruOf s.r) s i ss ps (singL ps)).getD true
def standC (ss : List Stp) (ps : List (Int × Sy)) : Bool := (List.range ss.length).all (rightAt ss ps)
def spStand : Sp := fun vs H Q _ => ∃ (ls lp : Addr) (xs ys : List V) (ss : List Stp) (ps : List (Int × Sy)), vs = [.ref ls, .ref lp] ∧ H ls = some (.lst xs) ∧ StL [] H xs ss ∧ ss.length ≤ 900 ∧
 (∀ t ∈ ss, okF t.f ∧ t.fr.length ≤ 900) ∧ H lp = some (.lst ys) ∧ PrL H ys ps ∧ (∀ q ∈ ps, q.2.okS) ∧ ps.length ≤ 100 ∧ ∀ H', Same H H' → Q (.bl (standC ss ps)) H'
theorem ndasst : ((([("at" : Str)] : List Str) ++ [("steps" : Str), ("sayings" : Str), ("things" : Str)]) : List Str).Nodup := by decide +kernel
section
variable {P : Program} {w : World} {K : PySem.W.Frag} {mg : Str → Option Value} {base : Heap} {f g e d a1 a2 a3 a4 a5 aW aF aB aR aM : Addr} {fd gd' ed dd d1 d2 d3 d4 d5 : FuncData}
theorem scStandsL : FnScope ["steps", "pairs", "sayings", "things"] ["steps", "pairs"] (defScope sStandsL) := ⟨rfl, rfl, rfl, by decide +kernel, rfl, by decide +kernel, by decide +kernel⟩
theorem ok_stand (F : Fun K "stands" "stands" sStandsL f fd) (mdi : mg "dict" = none) (ma : mg "all" = none) (ml : mg "len" = none) (mr : mg "range" = none)
  (Gir : FnOk P w K mg base CX0 6 a1 d1 ["steps", "at", "sayings", "things"] spIsRight) (bGir : Binds K d1 ["steps", "at", "sayings", "things"] []) (kGir : PySem.W.keepIn K (.ref a1) = true) (mGir : mg "is_right" = some (.ref a1))
  (Gtn : FnOk P w K mg base CX0 63 a2 d2 ["pairs"] spThingsN) (bGtn : Binds K d2 ["pairs"] []) (kGtn : PySem.W.keepIn K (.ref a2) = true) (mGtn : mg "things_named" = some (.ref a2)) :
  FnOk P w K mg base CX0 64 f fd ["steps", "pairs"] spStand := by
 refine F.ok scStandsL (fun vs H Q E h => ?_) (fun cdv A outer s H vs Q E hr h => ?_)
 ·obtain ⟨ls, lp, xs, ys, ss, ps, rfl, _⟩ := h; rfl
 obtain ⟨ls, lp, xs, ys, ss, ps, rfl, hl, hss, hz, hok, hlp, hps, hpo, hpz, q⟩ := h
 have hrir := hr.mono (show 6 ≤ 63 by decide)
 have hrtn := hr
 refine ⟨_, @pss_cons _ _ _ _ _ (by exact ps_set (i := 2) scStandsL.nd rfl (Or.inr rfl) (pe_callTy (call_dictP rfl) rfl mdi PyProof.Rows.boot_dict (pa_cons (pv 1) pa_nil)))
  (@pss_cons _ _ _ _ _ (by exact ps_set (i := 3) scStandsL.nd rfl (Or.inr rfl) (pe_call Gtn hrtn rfl mGtn kGtn bGtn .nil pass0 (pa_cons (pv 1) pa_nil)))
  (@pss_one _ _ _ (by exact @ps_ret _ _ _ _ (pe_callB (call_allB rfl) rfl ma PyProof.Rows.boot_all (pa_cons (pe_comp ["at"] ["steps", "sayings", "things"] [0, 2, 3] rfl (pi_range1 rfl mr (pa_cons (pe_callB call_len_seq rfl ml PySem.boot_len (pa_cons (pv 0) pa_nil)) pa_nil)) (fun _ _ _ => pg_name (i := 0) ndasst rfl (Or.inl rfl)) (fun _ _ _ => pts_nil) (fun _ _ _ => (pe_call Gir hrir rfl mGir kGir bGir .nil pass0 (pa_cons (pv 1) (pa_cons (pv 0) (pa_cons (pv 2) (pa_cons (pv 3) pa_nil))))))) pa_nil))))), ?_⟩
 obtain ⟨kv, g1, g2⟩ := prl_kv hps
 have lkv : kv.length ≤ 1000 := by
  have := Paired.length g2
  omega
 refine ⟨_, rfl, lp, ys, kv, rfl, hlp, g1, lkv, fun d hd => ?_⟩
 have s1 := same_new hd (.dK (mergeK [] kv))
 have sd : SyD (upd H d (.dK (mergeK [] kv))) d ps := ⟨_, upd_same, fun n => (merge_so n (acc := []) (o := none) g2 rfl).mono s1.tups⟩
 refine ⟨_, rfl, lp, ys, ps, rfl, s1 _ _ hlp, hps.mono s1.tups, hpo, hpz, fun dt AL H2 s2 hdt hA => ?_⟩
 have s12 := s1.trans s2
 have sd2 := sd.mono s2
 have hl2 := s12 _ _ hl
 have hss2 : StL [] H2 xs ss := hss.keep (.of s12)
 have lxs := StL.len hss
 refine ⟨_, rfl, ls, xs, rfl, .inl (SqL.of hl2), xs.length, rfl, by omega, by omega, fun D hD => ?_⟩
 refine cmp_by xs.length (fun i σ H' => (∃ o, σ = [o, some (.ref ls), some (.ref d), some (.ref dt)]) ∧ Same H2 H' ∧ H' D = some (.lst (((List.range i).map (rightAt ss ps)).map V.bl))) ⟨⟨_, rfl⟩, same_new hD _, upd_same⟩ ?_ ?_
 ·rintro σ H' ⟨_, sm, eD⟩
  refine ⟨Nat.le_refl _, D, (List.range xs.length).map (rightAt ss ps), rfl, SqL.of eD, ?_⟩
  have e : ((List.range xs.length).map (rightAt ss ps)).all id = standC ss ps := by rw [List.all_map, lxs]; rfl
  rw [e]
  exact q H' (s12.trans sm)
 ·rintro i σ H' hi ⟨⟨o, rfl⟩, sm, eD⟩
  refine ⟨hi, ?_⟩
  rintro v H3 ⟨rfl, rfl⟩
  have hi1 : i < xs.length := hi
  have hi' : i < ss.length := by omega
  have hst : ss[i]? = some ss[i] := List.getElem?_eq_getElem hi'
  refine ⟨_, rfl, _, rfl, _, rfl, _, rfl, ls, d, dt, i, xs, ss, ss[i], ruOf ss[i].r, ps, AL, congrArg (fun z => [V.ref ls, .int z, .ref d, .ref dt]) (Int.zero_add _), sm _ _ hl2, hss2.keep (.of sm), hz, hst, ru_of _, hok, sd2.mono sm, sm _ _ hdt, fun H4 s4 => ?_⟩
  rw [rightC_congr hA]
  refine ⟨_, s4 _ _ eD, small1000 (by rw [List.length_map, List.length_map, List.length_range]; omega), ⟨_, rfl⟩, same_upd (sm.trans s4) hD, ?_⟩
  have er : rightAt ss ps i = rightC (ruOf ss[i].r) ss[i] i ss ps (singL ps) := by unfold rightAt; rw [hst]; rfl
  rw [upd_same, List.range_succ, List.map_append, List.map_append, ← er]
  rfl
end
end K17
namespace K17
open PySem L2
def dk (k : Kd) : Prop := k.dep ≤ 2 ∧ k.sz ≤ 7 ∧ lenK k ∧ standsB k = singleB k
def okD (f : Fa) : Prop := f.lo 4 ∧ lenK f.x ∧ standsB f.x = singleB f.x
theorem okD.okF {f : Fa} (h : okD f) : okF f := by
 refine ⟨?_, h.2.1⟩
 have := h.1
 cases f with
 | is x k => exact ⟨Nat.le_trans this.1 (by decide), Nat.le_trans this.2 (by decide)⟩
 | has x t y => exact ⟨Nat.le_trans this.1 (by decide), Nat.le_trans this.2 (by decide)⟩
theorem okS_of {s : Sy} (h : ∀ k ∈ s.parts, k.dep ≤ 2 ∧ k.sz ≤ 7) : s.okS := ⟨fun k hk => Nat.le_trans (h k hk).2 (by decide), fun k hk => Nat.le_trans (h k hk).1 (by decide)⟩
theorem okS_every {a b : Kd} (ha : dk a) (hb : dk b) : (Sy.every a b).okS := okS_of fun k hk => by
 simp only [Sy.parts, List.mem_cons, List.not_mem_nil, or_false] at hk
 rcases hk with rfl | rfl
 ·exact ⟨ha.1, ha.2.1⟩
 ·exact ⟨hb.1, hb.2.1⟩
theorem okS_no {a b : Kd} (ha : dk a) (hb : dk b) : (Sy.no a b).okS := okS_of fun k hk => by
 simp only [Sy.parts, List.mem_cons, List.not_mem_nil, or_false] at hk
 rcases hk with rfl | rfl
 ·exact ⟨ha.1, ha.2.1⟩
 ·exact ⟨hb.1, hb.2.1⟩
theorem nm_ok (x : Str) : (Kd.nm x).dep ≤ 2 ∧ (Kd.nm x).sz ≤ 7 := ⟨Nat.zero_le _, by show 1 ≤ 7; decide⟩
theorem okS_thing {x : Str} {b : Kd} (hb : dk b) : (Sy.thing x b).okS := okS_of fun k hk => by
 simp only [Sy.parts, List.mem_cons, List.not_mem_nil, or_false] at hk
 rcases hk with rfl | rfl
 ·exact nm_ok _
 ·exact ⟨hb.1, hb.2.1⟩
theorem okS_nms {s : Sy} (h : ∀ k ∈ s.parts, ∃ x, k = .nm x) : s.okS := okS_of fun k hk => by
 obtain ⟨x, rfl⟩ := h k hk
 exact nm_ok x
theorem okS_tied (x t y : Str) : (Sy.tied x t y).okS := okS_nms fun k hk => by
 simp only [Sy.parts, List.mem_cons, List.not_mem_nil, or_false] at hk
 rcases hk with rfl | rfl | rfl <;> exact ⟨_, rfl⟩
theorem okS_within (x t : Str) : (Sy.within x t).okS := okS_nms fun k hk => by
 simp only [Sy.parts, List.mem_cons, List.not_mem_nil, or_false] at hk
 rcases hk with rfl | rfl <;> exact ⟨_, rfl⟩
theorem okS_makes (x t y : Str) : (Sy.makes x t y).okS := okS_nms fun k hk => by
 simp only [Sy.parts, List.mem_cons, List.not_mem_nil, or_false] at hk
 rcases hk with rfl | rfl | rfl <;> exact ⟨_, rfl⟩
theorem call_listH {X : Cx} : CallR X (.type "list") (fun xs H Q => ∃ p ys, xs = [V.ref p] ∧ H p = some (.lst ys) ∧ ∀ l, H l = none → Q (.ref l) (upd H l (.lst ys))) := by
 intro pins s σ H xs us Q I r h
 obtain ⟨p, ys, e, hp, q⟩ := h
 exact call_list_of pins s σ H xs us Q I r ⟨p, ys, e, .inl (SqL.of hp), q⟩
def spCopy : Sp := fun vs H Q _ => ∃ (ls : Addr) (xs : List V) (ss : List Stp), vs = [.ref ls] ∧ H ls = some (.lst xs) ∧ StL [] H xs ss ∧ ss.length ≤ 900 ∧ ∀ (l : Addr) (H' : Hp) (xs' : List V), Same H H' → H l = none → H' l = some (.lst xs') → StL [] H' xs' ss → Q (.ref l) H'
theorem ndst : ((([("_law_step" : Str)] : List Str) ++ []) : List Str).Nodup := by decide +kernel
theorem cutN (xs : List V) (k : Nat) : cutV xs (some (k : Int)) none = xs.drop k := by
 have h1 : HT.sIx xs.length 0 (some (k : Int)) = min k xs.length := HT.sIx_nat _ _ _
 have h2 : HT.sIx xs.length xs.length none = xs.length := rfl
 unfold cutV
 rw [h1, h2]
 rcases Nat.le_total k xs.length with g | g
 ·rw [Nat.min_eq_left g, List.take_of_length_le (by rw [List.length_drop]; omega)]
 ·rw [Nat.min_eq_right g, List.drop_eq_nil_of_le (Nat.le_refl _), List.drop_eq_nil_of_le g, List.take_nil]
theorem sixN (xs : List V) (k : Nat) (h : 0 < k) (h0 : 0 < xs.length) : ¬ (HT.sIx xs.length 0 (some (k : Int)) = 0 ∧ HT.sIx xs.length xs.length none = xs.length) := by
 have h1 : HT.sIx xs.length 0 (some (k : Int)) = min k xs.length := HT.sIx_nat _ _ _
 rw [h1]
 omega
theorem sl2 (z : Str) : (Txt.slice z none (some 1)).cps.toList = z.cps.toList.take 1 := by
 rw [slice_cps]
 have hz : z.cps.toList.length = z.length := by simp [Str.length]
 have e : HT.sIx z.length z.length (some 1) = min 1 z.length := HT.sIx_nat z.length z.length 1
 have e2 : HT.sIx z.length 0 none = 0 := rfl
 rw [e, e2, List.drop_zero, Nat.sub_zero]
 rcases Nat.eq_zero_or_pos z.length with h | h
 ·have : z.cps.toList = [] := List.eq_nil_of_length_eq_zero (by omega)
  rw [this]; simp
 ·have : min 1 z.length = 1 := by omega
  rw [this]
theorem upB_of {t : Str} {c : Nat} {r : List Nat} (h : t.cps.toList = c :: r) (hc : c < 128) : upB t = decide (65 ≤ c ∧ c ≤ 90) := by
 have e : Txt.slice t none (some 1) = ⟨#[c]⟩ := by
  have := sl2 t
  rw [h] at this
  have e2 : (Txt.slice t none (some 1)).cps.toList = [c] := this
  cases hs : Txt.slice t none (some 1) with
  | mk a =>
   rw [hs] at e2
   congr 1
   exact Array.toList_inj.mp e2
 have big : ∀ c, c < 128 → Txt.isupper ⟨#[c]⟩ = decide (65 ≤ c ∧ c ≤ 90) := by decide +kernel
 unfold upB
 rw [e, big c hc]
theorem len_cps (t : Str) : t.cps.toList.length = t.length := by simp [Str.length]
theorem dk_wd {t : Str} (h : wd t) : dk (.nm t) := by
 obtain ⟨h1, h2, h3⟩ := h
 refine ⟨Nat.zero_le _, by show 1 ≤ 7; decide, by show t.length ≤ 1000; omega, ?_⟩
 show thingB t = upB t
 cases e : t.cps.toList with
 | nil => have := len_cps t; rw [e] at this; simp at this; omega
 | cons c r =>
  obtain ⟨c1, c2⟩ := h3 c (by rw [e]; simp)
  rw [upB_of e (by omega), decide_eq_false (by omega)]
  unfold thingB
  rw [e]
  have : bigC c = false := by unfold bigC; exact decide_eq_false (by omega)
  show (fits t && (bigC c && r.all smallC)) = false
  rw [this, Bool.false_and, Bool.and_false]
theorem dk_thg {t : Str} (h : thg t) : dk (.nm t) := by
 obtain ⟨h1, c, r, e, c1, c2, h3⟩ := h
 refine ⟨Nat.zero_le _, by show 1 ≤ 7; decide, by show t.length ≤ 1000; omega, ?_⟩
 show thingB t = upB t
 rw [upB_of e (by omega), decide_eq_true ⟨c1, c2⟩]
 unfold thingB fits
 have hl := len_cps t
 rw [e] at hl
 simp only [List.length_cons] at hl
 rw [e, decide_eq_true (show 1 ≤ t.length by omega), decide_eq_true h1]
 have b1 : bigC c = true := by unfold bigC; exact decide_eq_true ⟨c1, c2⟩
 have b2 : r.all smallC = true := List.all_eq_true.mpr fun d hd => by unfold smallC; exact decide_eq_true (h3 d hd)
 show (true && true && (bigC c && r.all smallC)) = true
 rw [b1, b2]; rfl
theorem dk_anyK : dk (.nm "anything") := ⟨Nat.zero_le _, by show 1 ≤ 7; decide, by show (Str.ofString "anything").length ≤ 1000; decide +kernel, by
 show thingB "anything" = upB "anything"
 rw [upB_of (c := 97) (r := [110, 121, 116, 104, 105, 110, 103]) (by decide +kernel) (by decide)]
 decide +kernel⟩
theorem dk_nothK : dk (.nm "nothing") := ⟨Nat.zero_le _, by show 1 ≤ 7; decide, by show (Str.ofString "nothing").length ≤ 1000; decide +kernel, by
 show thingB "nothing" = upB "nothing"
 rw [upB_of (c := 110) (r := [111, 116, 104, 105, 110, 103]) (by decide +kernel) (by decide)]
 decide +kernel⟩
theorem sz_le_nt : ∀ k : Kd, k.sz ≤ 2 * k.nt + 1
 | .nm _ => by simp [Kd.nt, Kd.sz]
 | .two a b => by have := sz_le_nt a; have := sz_le_nt b; simp only [Kd.nt, Kd.sz]; omega
 | .som _ c => by have := sz_le_nt c; simp only [Kd.nt, Kd.sz]; omega
theorem dk_kind {k : Kd} {ws : List Str} (hn : k.nt + 1 ≤ 2 ^ 2) (hd : k.dep ≤ 2) (hi : NmIn ws k) (hw : ∀ z ∈ ws, dk (.nm z)) : dk k := by
 have := sz_le_nt k
 have hs : k.sz ≤ 7 := by omega
 cases k with
 | nm t =>
  rcases hi t rfl with h | h | h
  ·exact hw t h
  ·rw [h]; exact dk_anyK
  ·rw [h]; exact dk_nothK
 | two a b => exact ⟨hd, hs, trivial, rfl⟩
 | som r c => exact ⟨hd, hs, trivial, rfl⟩
theorem StL.weak {L L' : List Addr} {H : Hp} {xs : List V} {ss : List Stp} (h : StL L H xs ss) (hl : ∀ a ∈ L', a ∈ L) : StL L' H xs ss := Paired.imp' (fun _ _ q => by
 obtain ⟨p, pf, vf, e, h1, h2, h3, h4⟩ := q
 exact ⟨p, pf, vf, e, h1, h2, h3, fun z => h4 (hl _ z)⟩) h
theorem StL.fresh {L : List Addr} {H H' : Hp} {xs : List V} {ss : List Stp} {l : Addr} (h : StL L H xs ss) (hl : H l = none) (s : Same H H') : StL (l :: L) H' xs ss := Paired.imp' (fun _ _ q => by
 obtain ⟨p, pf, vf, e, h1, h2, h3, h4⟩ := q
 refine ⟨p, pf, vf, e, s _ _ h1, h2.mono s.tups, s _ _ h3, ?_⟩
 intro z
 rcases List.mem_cons.mp z with z | z
 ·rw [z, hl] at h3; cases h3
 ·exact h4 z) h
theorem list3 {ts : List Str} (e : ts.length = 3) : ∃ a b c, ts = [a, b, c] := by
 match ts, e with
 | [a, b, c], _ => exact ⟨a, b, c, rfl⟩
theorem kit_bool_bool (K : PySem.W.Frag) : PySem.W.kitOne K (.type "bool") (.type "bool") = some true := by
 first | rfl | decide | with_unfolding_all rfl
theorem ints_dp (l : List Int) : xdps (l.map Tx.int) ≤ 0 := xdps_le fun d hd => by
 obtain ⟨c, _, rfl⟩ := List.mem_map.mp hd
 exact Nat.le_refl _
theorem num_dp : ∀ n : Option Int, (numX n).dp ≤ 0
 | none => Nat.le_refl _
 | some _ => Nat.le_refl _
theorem steps_dp {ss : List Stp} (h : ∀ s ∈ ss, s.f.lo 8) : (Tx.lst (ss.map Stp.tx)).dp ≤ 60 := by
 have : xdps (ss.map Stp.tx) ≤ 11 := xdps_le fun d hd => by
  obtain ⟨s, hs, rfl⟩ := List.mem_map.mp hd
  have h1 := Fa.dp (h s hs)
  have h2 := ints_dp s.fr
  have h3 := num_dp s.n
  show 1 + max s.f.tx.dp (max 0 (max (1 + xdps (s.fr.map Tx.int)) (max (numX s.n).dp 0))) ≤ 11
  omega
 show 1 + xdps _ ≤ 60
 omega
theorem pairs_dp {ps : List (Int × Sy)} (h : ∀ q ∈ ps, q.2.lo 8) : (Tx.lst (ps.map prX)).dp ≤ 60 := by
 have : xdps (ps.map prX) ≤ 50 := xdps_le fun d hd => by
  obtain ⟨q, hq, rfl⟩ := List.mem_map.mp hd
  have h1 : xdps (Tx.str (ruS q.2.hd) :: q.2.parts.map Kd.tx) ≤ 8 := xdps_le fun d hd => by
   rcases List.mem_cons.mp hd with rfl | hd
   ·exact Nat.zero_le _
   ·obtain ⟨k, hk, rfl⟩ := List.mem_map.mp hd
    rw [Kd.tx_dp]; exact h q hq k hk
  show 1 + max 0 (max (1 + xdps (Tx.str (ruS q.2.hd) :: q.2.parts.map Kd.tx)) 0) ≤ 50
  omega
 show 1 + xdps _ ≤ 60
 omega
section
variable {P : Program} {w : World} {K : PySem.W.Frag} {mg : Str → Option Value} {base : Heap} {f g e a1 a2 a3 a4 a5 a6 a7 a8 : Addr} {fd gd' ed d1 d2 d3 d4 d5 d6 d7 d8 : FuncData}
theorem scCopy : FnScope ["_law_steps"] ["_law_steps"] (defScope sCopy) := ⟨rfl, rfl, rfl, by decide +kernel, rfl, by decide +kernel, by decide +kernel⟩
theorem ok_copy (F : Fun K "_law_copy" "_law_copy" sCopy f fd) (mls : mg "list" = none) : FnOk P w K mg base CX0 1 f fd ["_law_steps"] spCopy := by
 refine F.ok scCopy (fun vs H Q E h => ?_) (fun cdv A outer s H vs Q E hr h => ?_)
 ·obtain ⟨ls, xs, ss, rfl, _⟩ := h; rfl
 obtain ⟨ls, xs, ss, rfl, hl, hss, hz, q⟩ := h
 refine ⟨_, @pss_one _ _ _ (by exact @ps_ret _ _ _ _ (pe_comp ["_law_step"] [] [] rfl (pi_list (pv 0)) (fun _ _ _ => pg_name (i := 0) ndst rfl (Or.inl rfl)) (fun _ _ _ => pts_nil) (fun _ _ _ => (@pe_tup _ _ _ _ _ (pa_cons (pe_ix (r := rIxT K) ix_tup (pv 0) pe_int (fun _ _ => rfl)) (pa_cons (pe_ix (r := rIxT K) ix_tup (pv 0) pe_int (fun _ _ => rfl)) (pa_cons (pe_callTy call_listH rfl mls PyProof.Rows.boot_list (pa_cons (pe_ix (r := rIxT K) ix_tup (pv 0) pe_int (fun _ _ => rfl)) pa_nil)) (pa_cons (pe_ix (r := rIxT K) ix_tup (pv 0) pe_int (fun _ _ => rfl)) pa_nil)))))))), ?_⟩
 have lL := StL.len hss
 refine ⟨_, rfl, ls, rfl, ⟨_, SqL.of hl⟩, fun D hD => ?_⟩
 refine cmp_by xs.length (fun i σ H' => (∃ o, σ = [o]) ∧ Same H H' ∧ ∃ ys, H' D = some (.lst ys) ∧ StL [D] H' ys (ss.take i)) ⟨⟨_, rfl⟩, same_new hD _, [], upd_same, .nil⟩ ?_ ?_
 ·rintro σ H' ⟨_, sm, ys, eD, hy⟩
  rw [lL, List.take_length] at hy
  exact ⟨⟨_, SqL.of (sm _ _ hl), Nat.le_refl _⟩, q D H' ys sm hD eD hy.loose⟩
 ·rintro i σ H' hi ⟨⟨o, rfl⟩, sm, ys, eD, hy⟩
  have ho := sm _ _ hl
  refine ⟨⟨_, xs[i], SqL.of ho, by simp [hi]⟩, ?_⟩
  rintro y H1 ⟨rfl, hyy⟩
  have hyi := hyy _ (SqL.of ho)
  obtain ⟨st, hst, p, pf, vf, rfl, hp, hf, hpf, _⟩ := paired_get hss hyi
  have sp := sm _ _ hp
  have spf := sm _ _ hpf
  have lys := StL.len hy
  rw [List.length_take] at lys
  refine ⟨_, rfl, p, _, 0, _, rfl, rfl, SqT.of sp, atI_nat (j := 0) rfl, _, rfl, p, _, 1, _, rfl, rfl, SqT.of sp, atI_nat (j := 1) rfl, _, rfl, p, _, 2, _, rfl, rfl, SqT.of sp, atI_nat (j := 2) rfl, pf, _, rfl, spf, fun l hlN => ?_⟩
  have s1 := same_new hlN (.lst (st.fr.map V.int))
  have nlD : l ≠ D := fun z => by rw [z, eD] at hlN; cases hlN
  refine ⟨_, rfl, p, _, 3, _, rfl, rfl, SqT.of (s1 _ _ sp), atI_nat (j := 3) rfl, le4, fun t ht => ?_⟩
  have s2 := same_new ht (.tup [vf, .str st.r, .ref l, numV st.n])
  have s12 := s1.trans s2
  have eD2 := s12 _ _ eD
  refine ⟨ys, eD2, small1000 (by omega), ⟨_, rfl⟩, same_upd (sm.trans s12) hD, ys ++ [.ref t], upd_same, ?_⟩
  have k3 : Kp [D] (upd (upd H1 l (.lst (st.fr.map V.int))) t (.tup [vf, .str st.r, .ref l, numV st.n])) (upd (upd (upd H1 l (.lst (st.fr.map V.int))) t (.tup [vf, .str st.r, .ref l, numV st.n])) D (.lst (ys ++ [.ref t]))) := Kp.lst (by simp) eD2
  rw [List.take_add_one, hst]
  refine paired_app (StL.keep ((Kp.of s12).trans k3) hy) (.cons ?_ .nil)
  refine IsStp.keep k3 ⟨t, l, vf, rfl, upd_same, (hf.mono sm.tups).mono s12.tups, s2 _ _ upd_same, by simpa using nlD⟩
end
end K17
namespace K17
open PySem L2
def dn (k : Kd) : Prop := dk k ∧ k.nt ≤ 3
theorem dn_kind {k : Kd} {ws : List Str} (hn : k.nt + 1 ≤ 2 ^ 2) (hd : k.dep ≤ 2) (hi : NmIn ws k) (hw : ∀ z ∈ ws, dk (.nm z)) : dn k := ⟨dk_kind hn hd hi hw, by omega⟩
def dS : Sy → Prop
 | .every a b => dn a ∧ dn b
 | .no a b => dn a ∧ dn b
 | .thing x k => dk (.nm x) ∧ dn k
 | .tied x _ y => dk (.nm x) ∧ dk (.nm y)
 | .within _ _ => True
 | .makes _ _ _ => True
theorem dS.okS : ∀ {s : Sy}, dS s → s.okS
 | .every _ _, h => okS_every h.1.1 h.2.1
 | .no _ _, h => okS_no h.1.1 h.2.1
 | .thing _ _, h => okS_thing h.2.1
 | .tied _ _ _, _ => okS_tied _ _ _
 | .within _ _, _ => okS_within _ _
 | .makes _ _ _, _ => okS_makes _ _ _
structure Env (H : Hp) (b lk lt lh : Addr) (ws ts hs : List Str) : Prop where
 hk : H lk = some (.lst (ws.map V.str))
 lw : ws.length = 3
 dw : ∀ z ∈ ws, dk (.nm z)
 ht : H lt = some (.lst (ts.map V.str))
 lt' : ts.length = 2
 hh : H lh = some (.lst (hs.map V.str))
 lh' : hs.length = 2
 dh : ∀ z ∈ hs, dk (.nm z)
 nk : lk ≠ b
 nt : lt ≠ b
 nh : lh ≠ b
theorem one_not {a b : Addr} (h : a ≠ b) : a ∉ [b] := fun z => h (List.mem_singleton.mp z)
theorem Env.kp {H H' : Hp} {b lk lt lh : Addr} {ws ts hs : List Str} (e : Env H b lk lt lh ws ts hs) (k : Kp [b] H H') : Env H' b lk lt lh ws ts hs :=
 ⟨k.but _ _ (one_not e.nk) e.hk, e.lw, e.dw, k.but _ _ (one_not e.nt) e.ht, e.lt', k.but _ _ (one_not e.nh) e.hh, e.lh', e.dh, e.nk, e.nt, e.nh⟩
def spSaying : Sp := fun vs H Q _ => ∃ (b lk lt lh : Addr) (x y : Int) (ws ts hs : List Str), vs = [.ref b, .ref lk, .ref lt, .ref lh] ∧ H b = some (.lst [.int x, .int y]) ∧ Env H b lk lt lh ws ts hs ∧
 ∀ (v : V) (H' : Hp) (s : Sy) (x' y' : Int), Kp [b] H H' → H' b = some (.lst [.int x', .int y']) → IsSy H' s v → dS s → Q v H'
theorem ndktb : ((([("_law_k" : Str)] : List Str) ++ [("_law_ties" : Str), ("_law_bag" : Str)]) : List Str).Nodup := by decide +kernel
theorem call_lenH {X : Cx} : CallR X (.builtin "len") (fun xs H Q => ∃ p ys, xs = [V.ref p] ∧ H p = some (.lst ys) ∧ Q (.int (ys.length : Int)) H) := fun pins s σ H xs us Q I r ⟨p, ys, e, h, q⟩ =>
 call_len_seq pins s σ H xs us Q I r ⟨p, ys, e, .inl (SqL.of h), q⟩
theorem Env.p1 {H : Hp} {b lk lt lh : Addr} {ws ts hs : List Str} (e : Env H b lk lt lh ws ts hs) : 0 < ws.length := by have := e.lw; omega
theorem Env.p2 {H : Hp} {b lk lt lh : Addr} {ws ts hs : List Str} (e : Env H b lk lt lh ws ts hs) : ws.length ≤ 100 := by have := e.lw; omega
theorem Env.p3 {H : Hp} {b lk lt lh : Addr} {ws ts hs : List Str} (e : Env H b lk lt lh ws ts hs) : 0 < ts.length := by have := e.lt'; omega
theorem Env.p4 {H : Hp} {b lk lt lh : Addr} {ws ts hs : List Str} (e : Env H b lk lt lh ws ts hs) : ts.length ≤ 100 := by have := e.lt'; omega
theorem bag {H : Hp} {b : Addr} {x y : Int} (x1 : Int) (hb : H b = some (.lst [.int x, .int y])) : Kp [b] H (upd H b (.lst [.int x1, .int y])) ∧ upd H b (.lst [.int x1, .int y]) b = some (.lst [.int x1, .int y]) := ⟨Kp.lst (List.mem_singleton.mpr rfl) hb, upd_same⟩
theorem say_new {H : Hp} {t : Addr} {xs : List V} {s : Sy} (ht : H t = none) (k : KL H xs s.parts) : IsSy (upd H t (.tup (.str (ruS s.hd) :: xs))) s (.ref t) := ⟨t, xs, rfl, upd_same, KL.mono (same_new ht _).tups k⟩
section
variable {P : Program} {w : World} {K : PySem.W.Frag} {mg : Str → Option Value} {base : Heap} {f g e a1 a2 a3 a4 a5 a6 a7 a8 : Addr} {fd gd' ed d1 d2 d3 d4 d5 d6 d7 d8 : FuncData}
theorem scSaying : FnScope ["_law_bag", "_law_kin", "_law_ties", "_law_things_here", "_law_way", "_law_form", "_law_one", "_law_thing", "_law_some"] ["_law_bag", "_law_kin", "_law_ties", "_law_things_here"] (defScope sSaying) := ⟨rfl, rfl, rfl, by decide +kernel, rfl, by decide +kernel, by decide +kernel⟩
theorem ok_saying (F : Fun K "_law_saying" "_law_saying" sSaying f fd) (ml : mg "len" = none) (mr : mg "range" = none)
  (Gdr : FnOk P w K mg base CX0 1 a1 d1 ["_law_bag", "_law_many"] spDraw) (bGdr : Binds K d1 ["_law_bag", "_law_many"] []) (kGdr : PySem.W.keepIn K (.ref a1) = true) (mGdr : mg "_law_draw" = some (.ref a1))
  (Gk : FnOk P w K mg base CX0 4 a2 d2 ["_law_bag", "_law_kin", "_law_ties", "_law_deep"] (spKind 3)) (bGk : Binds K d2 ["_law_bag", "_law_kin", "_law_ties", "_law_deep"] []) (kGk : PySem.W.keepIn K (.ref a2) = true) (mGk : mg "_law_kind" = some (.ref a2)) :
  FnOk P w K mg base CX0 5 f fd ["_law_bag", "_law_kin", "_law_ties", "_law_things_here"] spSaying := by
 refine F.ok scSaying (fun vs H Q E h => ?_) (fun cdv A outer s H vs Q E hr h => ?_)
 ·obtain ⟨b, lk, lt, lh, x, y, ws, ts, hs, rfl, _⟩ := h; rfl
 obtain ⟨b, lk, lt, lh, x, y, ws, ts, hs, rfl, hb, en, q⟩ := h
 have hrdr := hr.mono (show 1 ≤ 4 by decide)
 have hrk := hr
 refine ⟨_, @pss_cons _ _ _ _ _ (by exact ps_set (i := 4) scSaying.nd rfl (Or.inl rfl) (pe_call Gdr hrdr rfl mGdr kGdr bGdr .nil pass0 (pa_cons (pv 0) (pa_cons pe_int pa_nil))))
  (@pss_cons _ _ _ _ _ (by exact ps_if (pt_cmpR op_lt (pv 4) pe_int (nomark _)) (@pss_cons _ _ _ _ _ (by exact ps_set (i := 5) scSaying.nd rfl (Or.inl rfl) pe_str) (@pss_mid _ _ _ _ _ (by exact ps_if (pt_cmpR op_eq (pv 4) pe_int (nomark _)) (@pss_one _ _ _ (by exact ps_set (i := 5) scSaying.nd rfl (Or.inl rfl) pe_str)) pss_nil) (@pss_cons _ _ _ _ _ (by exact ps_set (i := 6) scSaying.nd rfl (Or.inl rfl) (pe_call Gk hrk rfl mGk kGk bGk .nil pass0 (pa_cons (pv 0) (pa_cons (pv 1) (pa_cons (pv 2) (pa_cons pe_int pa_nil)))))) (@pss_one _ _ _ (by exact @ps_ret _ _ _ _ (@pe_tup _ _ _ _ _ (pa_cons (pv 5) (pa_cons (pv 6) (pa_cons (pe_call Gk hrk rfl mGk kGk bGk .nil pass0 (pa_cons (pv 0) (pa_cons (pv 1) (pa_cons (pv 2) (pa_cons pe_int pa_nil))))) pa_nil))))))))) pss_nil)
  (@pss_cons _ _ _ _ _ (by exact ps_set (i := 7) scSaying.nd rfl (Or.inl rfl) (pe_ix ix_list (pv 3) (pe_call Gdr hrdr rfl mGdr kGdr bGdr .nil pass0 (pa_cons (pv 0) (pa_cons (pe_callB call_len_seq rfl ml PySem.boot_len (pa_cons (pv 3) pa_nil)) pa_nil))) (fun _ _ => rfl)))
  (@pss_cons _ _ _ _ _ (by exact ps_if (pt_cmpR op_lt (pv 4) pe_int (nomark _)) (@pss_one _ _ _ (by exact @ps_ret _ _ _ _ (@pe_tup _ _ _ _ _ (pa_cons pe_str (pa_cons (pv 7) (pa_cons (pe_call Gk hrk rfl mGk kGk bGk .nil pass0 (pa_cons (pv 0) (pa_cons (pv 1) (pa_cons (pv 2) (pa_cons pe_int pa_nil))))) pa_nil)))))) pss_nil)
  (@pss_cons _ _ _ _ _ (by exact ps_setC (i := 8) ["_law_k"] ["_law_ties", "_law_bag"] [2, 0] scSaying.nd rfl rfl (pi_range1 rfl mr (pa_cons pe_int pa_nil)) (fun _ _ _ => pg_name (i := 0) ndktb rfl (Or.inl rfl)) (fun _ _ _ => pts_nil) (fun _ _ _ => (pe_ix (r := rIxL K) ix_list (pv 1) (pe_call Gdr hrdr rfl mGdr kGdr bGdr .nil pass0 (pa_cons (pv 2) (pa_cons (pe_callB call_lenH rfl ml PySem.boot_len (pa_cons (pv 1) pa_nil)) pa_nil))) (fun _ _ => rfl))))
  (@pss_cons _ _ _ _ _ (by exact ps_if (pt_cmpR op_lt (pv 4) pe_int (nomark _)) (@pss_one _ _ _ (by exact @ps_ret _ _ _ _ (@pe_tup _ _ _ _ _ (pa_cons pe_str (pa_cons (pv 7) (pa_cons (pe_ix ix_list (pv 8) pe_int (fun _ _ => rfl)) (pa_cons (pe_ix ix_list (pv 3) (pe_call Gdr hrdr rfl mGdr kGdr bGdr .nil pass0 (pa_cons (pv 0) (pa_cons (pe_callB call_len_seq rfl ml PySem.boot_len (pa_cons (pv 3) pa_nil)) pa_nil))) (fun _ _ => rfl)) pa_nil))))))) pss_nil)
  (@pss_cons _ _ _ _ _ (by exact ps_if (pt_cmpR op_eq (pv 4) pe_int (nomark _)) (@pss_one _ _ _ (by exact @ps_ret _ _ _ _ (@pe_tup _ _ _ _ _ (pa_cons pe_str (pa_cons (pe_ix ix_list (pv 8) pe_int (fun _ _ => rfl)) (pa_cons (pe_ix ix_list (pv 8) pe_int (fun _ _ => rfl)) pa_nil)))))) pss_nil)
  (@pss_one _ _ _ (by exact @ps_ret _ _ _ _ (@pe_tup _ _ _ _ _ (pa_cons pe_str (pa_cons (pe_ix ix_list (pv 8) pe_int (fun _ _ => rfl)) (pa_cons (pe_ix ix_list (pv 8) pe_int (fun _ _ => rfl)) (pa_cons (pe_ix ix_list (pv 8) pe_int (fun _ _ => rfl)) pa_nil))))))))))))), ?_⟩
 have fin : ∀ {H' : Hp} {x' y' : Int} {t : Addr} {xs : List V} (s : Sy), Kp [b] H H' → H' b = some (.lst [.int x', .int y']) → H' t = none → KL H' xs s.parts → dS s → Q (.ref t) (upd H' t (.tup (.str (ruS s.hd) :: xs))) :=
  fun s k b' ht kl ds => q _ _ s _ _ (k.trans (.of (same_new ht _))) ((same_new ht _) _ _ b') (say_new ht kl) ds
 have lhs := en.lh'
 have lts := en.lt'
 refine ⟨_, rfl, b, x, 12, [.int y], rfl, hb, by decide, fun x1 way _ _ => ?_⟩
 obtain ⟨k1, b1⟩ := bag x1 hb
 generalize upd H b (.lst [.int x1, .int y]) = H1 at k1 b1 ⊢
 have e1 := en.kp k1
 refine ⟨_, rfl, _, _, rfl, rfl, _, rfl, ite2 (fun _ => ?_) (fun _ => ?_)⟩
 ·refine ⟨fun σ H' => ∃ fo : Str, (fo = "every" ∨ fo = "no") ∧ σ = [some (.ref b), some (.ref lk), some (.ref lt), some (.ref lh), some (.int way), some (.str fo), none, none, none] ∧ H' = H1, ?_, ?_⟩
  ·refine ⟨_, rfl, rfl, _, rfl, ite2 (fun _ => ?_) (fun _ => ?_)⟩
   ·exact ⟨"no", .inr rfl, rfl, rfl⟩
   ·exact ⟨"every", .inl rfl, rfl, rfl⟩
  rintro σ H' ⟨fo, hfo, rfl, rfl⟩
  refine ⟨_, rfl, _, rfl, _, rfl, b, lk, lt, x1, y, 0, ws, ts, 2, rfl, b1, e1.hk, e1.ht, e1.nk, e1.nt, e1.p1, e1.p2, e1.p3, e1.p4, by decide, fun v1 H2 q1 x2 y2 k2 b2 i1 nt1 dp1 nm1 => ?_⟩
  have e2 := e1.kp k2
  refine ⟨_, rfl, _, rfl, _, rfl, _, rfl, _, rfl, b, lk, lt, x2, y2, 0, ws, ts, 2, rfl, b2, e2.hk, e2.ht, e2.nk, e2.nt, e2.p1, e2.p2, e2.p3, e2.p4, by decide, fun v2 H3 q2 x3 y3 k3 b3 i2 nt2 dp2 nm2 => ?_⟩
  refine ⟨le3, fun t ht => ?_⟩
  have k03 := (k1.trans k2).trans k3
  have kl : KL H3 [v1, v2] [q1, q2] := .cons (i1.mono k3.tups) (.cons i2 .nil)
  have n1 := dn_kind nt1 dp1 nm1 en.dw
  have n2 := dn_kind nt2 dp2 nm2 en.dw
  rcases hfo with rfl | rfl
  ·exact fin (.every q1 q2) k03 b3 ht kl ⟨n1, n2⟩
  ·exact fin (.no q1 q2) k03 b3 ht kl ⟨n1, n2⟩
 refine ⟨_, rfl, _, rfl, _, rfl, lh, _, rfl, .inl (SqL.of e1.hh), b, x1, _, [.int y], rfl, b1, by rw [List.length_map, lhs]; decide, fun x2 r r0 rm => ?_⟩
 obtain ⟨k2, b2⟩ := bag x2 b1
 generalize upd H1 b (.lst [.int x2, .int y]) = H2 at k2 b2 ⊢
 have e2 := e1.kp k2
 obtain ⟨z, hz, ez⟩ := strs_at (ws := hs) r0 (by rw [List.length_map] at rm; exact rm)
 refine ⟨lh, _, _, _, rfl, rfl, SqL.of e2.hh, ez, ?_⟩
 have k02 := k1.trans k2
 have dz := en.dh z hz
 refine ⟨_, rfl, _, _, rfl, rfl, _, rfl, ite2 (fun _ => ?_) (fun _ => ?_)⟩
 ·refine ⟨_, rfl, _, rfl, _, rfl, _, rfl, b, lk, lt, x2, y, 0, ws, ts, 2, rfl, b2, e2.hk, e2.ht, e2.nk, e2.nt, e2.p1, e2.p2, e2.p3, e2.p4, by decide, fun v2 H3 q2 x3 y3 k3 b3 i2 nt2 dp2 nm2 => ?_⟩
  refine ⟨le3, fun t ht => ?_⟩
  exact fin (.thing z q2) (k02.trans k3) b3 ht (.cons rfl (.cons i2 .nil)) ⟨dz, dn_kind nt2 dp2 nm2 en.dw⟩
 refine ⟨3, rfl, by decide, by decide, fun D hD => ?_⟩
 have nDb : D ≠ b := fun z => by rw [z, b2] at hD; cases hD
 have ntD : lt ≠ D := ne_of_none e2.ht hD
 refine cmp_by 3 (fun i σ H' => (∃ o, σ = [o, some (.ref lt), some (.ref b)]) ∧ Kp [b, D] H2 H' ∧ (∃ x' y', H' b = some (.lst [.int x', .int y'])) ∧ ∃ us : List Str, H' D = some (.lst (us.map V.str)) ∧ us.length = i) ⟨⟨_, rfl⟩, .of (same_new hD _), ⟨_, _, (same_new hD _) _ _ b2⟩, [], upd_same, rfl⟩ ?_ ?_
 ·rintro σ H3 ⟨_, kD, ⟨x3, y3, b3⟩, us, eD, lus⟩
  have k3 : Kp [b] H2 H3 := ⟨fun c o hc hco => kD.but c o (by
   simp only [List.mem_cons, List.not_mem_nil, or_false, not_or]
   exact ⟨fun z => hc (by rw [z]; exact List.mem_singleton.mpr rfl), fun z => by rw [z, hD] at hco; cases hco⟩) hco, kD.tups⟩
  have e3 := e2.kp k3
  have k03 := k02.trans k3
  obtain ⟨u0, u1, u2, rfl⟩ := list3 lus
  refine ⟨Nat.le_refl _, ?_⟩
  have s0 : SqL K H3 D [.str u0, .str u1, .str u2] := SqL.of eD
  refine ⟨_, rfl, _, _, rfl, rfl, _, rfl, ite2 (fun _ => ?_) (fun _ => ?_)⟩
  ·refine ⟨_, rfl, _, rfl, D, _, _, _, rfl, rfl, s0, rfl, _, rfl, _, rfl, _, rfl, lh, _, rfl, .inl (SqL.of e3.hh), b, x3, _, [.int y3], rfl, b3, by rw [List.length_map, lhs]; decide, fun x4 r' r0' rm' => ?_⟩
   obtain ⟨k4, b4⟩ := bag x4 b3
   generalize upd H3 b (.lst [.int x4, .int y3]) = H4 at k4 b4 ⊢
   obtain ⟨z', hz', ez'⟩ := strs_at (ws := hs) r0' (by rw [List.length_map] at rm'; exact rm')
   refine ⟨lh, _, _, _, rfl, rfl, SqL.of (e3.kp k4).hh, ez', le4, fun t ht => ?_⟩
   exact fin (.tied z u0 z') (k03.trans k4) b4 ht (.cons rfl (.cons rfl (.cons rfl .nil))) ⟨dz, en.dh z' hz'⟩
  refine ⟨_, rfl, rfl, _, rfl, ite2 (fun _ => ?_) (fun _ => ?_)⟩
  ·refine ⟨_, rfl, D, _, _, _, rfl, rfl, s0, rfl, _, rfl, D, _, _, _, rfl, rfl, s0, rfl, le3, fun t ht => ?_⟩
   exact fin (.within u0 u1) k03 b3 ht (.cons rfl (.cons rfl .nil)) trivial
  ·refine ⟨_, rfl, D, _, _, _, rfl, rfl, s0, rfl, _, rfl, D, _, _, _, rfl, rfl, s0, rfl, _, rfl, D, _, _, _, rfl, rfl, s0, rfl, le4, fun t ht => ?_⟩
   exact fin (.makes u0 u1 u2) k03 b3 ht (.cons rfl (.cons rfl (.cons rfl .nil))) trivial
 ·rintro i σ H' hi ⟨⟨o, rfl⟩, kD, ⟨x', y', b'⟩, us, eD, lus⟩
  refine ⟨hi, ?_⟩
  rintro v H4 ⟨rfl, rfl⟩
  have ntL : lt ∉ [b, D] := by simp only [List.mem_cons, List.not_mem_nil, or_false, not_or]; exact ⟨en.nt, ntD⟩
  refine ⟨_, rfl, _, rfl, _, rfl, lt, _, rfl, kD.but _ _ ntL e2.ht, b, x', _, [.int y'], rfl, b', by rw [List.length_map, lts]; decide, fun x4 r2 r0 r3 => ?_⟩
  have kb2 : Kp [b, D] H4 (upd H4 b (.lst [.int x4, .int y'])) := Kp.lst (by simp) b'
  have kD2 := kD.trans kb2
  obtain ⟨z, hz, ez⟩ := strs_at (ws := ts) r0 (by rw [List.length_map] at r3; exact r3)
  have eD2 : upd H4 b (.lst [.int x4, .int y']) D = some (.lst (us.map V.str)) := by rw [upd_ne nDb]; exact eD
  have kD3 : Kp [b, D] (upd H4 b (.lst [.int x4, .int y'])) (upd (upd H4 b (.lst [.int x4, .int y'])) D (.lst (us.map V.str ++ [.str z]))) := Kp.lst (by simp) eD2
  have hi3 : i < 3 := hi
  refine ⟨lt, _, _, _, rfl, rfl, SqL.of (kD2.but _ _ ntL e2.ht), ez, _, eD2, small1000 (by rw [List.length_map]; omega), ⟨_, rfl⟩, kD2.trans kD3, ⟨x4, y', by rw [upd_ne (Ne.symm nDb)]; exact upd_same⟩, us ++ [z], ?_, by rw [List.length_append, lus]; rfl⟩
  rw [upd_same, List.map_append]; rfl
end
end K17
namespace K17
open PySem L2
def spNumbered : Sp := fun vs H Q _ => ∃ (lc b lk lt lh : Addr) (x y : Int) (cs : List Int) (ws ts hs : List Str), vs = [.ref lc, .ref b, .ref lk, .ref lt, .ref lh] ∧ H lc = some (.lst (cs.map V.int)) ∧ lc ≠ b ∧ cs.length ≤ 90 ∧ H b = some (.lst [.int x, .int y]) ∧ Env H b lk lt lh ws ts hs ∧
 ∀ (l : Addr) (H' : Hp) (ys : List V) (ps : List (Int × Sy)) (x' y' : Int), Kp [b] H H' → H l = none → H' l = some (.lst ys) → PrL H' ys ps → ps.length = cs.length → (∀ q ∈ ps, dS q.2) → H' b = some (.lst [.int x', .int y']) → Q (.ref l) H'
theorem Kp.drop {b l : Addr} {H H1 : Hp} (hl : H l = none) (k : Kp [b, l] H H1) : Kp [b] H H1 := ⟨fun c o hc hco => k.but c o (by
 simp only [List.mem_cons, List.not_mem_nil, or_false, not_or]
 exact ⟨fun z => hc (by rw [z]; exact List.mem_singleton.mpr rfl), fun z => by rw [z, hl] at hco; cases hco⟩) hco, k.tups⟩
theorem two_not {a b l : Addr} (h : a ≠ b) (h' : a ≠ l) : a ∉ [b, l] := by
 simp only [List.mem_cons, List.not_mem_nil, or_false, not_or]; exact ⟨h, h'⟩
section
variable {P : Program} {w : World} {K : PySem.W.Frag} {mg : Str → Option Value} {base : Heap} {f g e a1 a2 a3 a4 a5 a6 a7 a8 : Addr} {fd gd' ed d1 d2 d3 d4 d5 d6 d7 d8 : FuncData}
theorem scNumbered : FnScope ["_law_cells", "_law_bag", "_law_kin", "_law_ties", "_law_things_here", "_law_pairs", "_law_number", "_law_cell_here"] ["_law_cells", "_law_bag", "_law_kin", "_law_ties", "_law_things_here"] (defScope sNumbered) := ⟨rfl, rfl, rfl, by decide +kernel, rfl, by decide +kernel, by decide +kernel⟩
theorem ok_numbered (F : Fun K "_law_numbered" "_law_numbered" sNumbered f fd)
  (Gdr : FnOk P w K mg base CX0 1 a1 d1 ["_law_bag", "_law_many"] spDraw) (bGdr : Binds K d1 ["_law_bag", "_law_many"] []) (kGdr : PySem.W.keepIn K (.ref a1) = true) (mGdr : mg "_law_draw" = some (.ref a1))
  (Gsy : FnOk P w K mg base CX0 5 a2 d2 ["_law_bag", "_law_kin", "_law_ties", "_law_things_here"] spSaying) (bGsy : Binds K d2 ["_law_bag", "_law_kin", "_law_ties", "_law_things_here"] []) (kGsy : PySem.W.keepIn K (.ref a2) = true) (mGsy : mg "_law_saying" = some (.ref a2)) :
  FnOk P w K mg base CX0 6 f fd ["_law_cells", "_law_bag", "_law_kin", "_law_ties", "_law_things_here"] spNumbered := by
 refine F.ok scNumbered (fun vs H Q E h => ?_) (fun cdv A outer s H vs Q E hr h => ?_)
 ·obtain ⟨lc, b, lk, lt, lh, x, y, cs, ws, ts, hs, rfl, _⟩ := h; rfl
 obtain ⟨lc, b, lk, lt, lh, x, y, cs, ws, ts, hs, rfl, hc, ncb, hz, hb, en, q⟩ := h
 have hrdr := hr.mono (show 1 ≤ 5 by decide)
 have hrsy := hr
 refine ⟨_, @pss_cons _ _ _ _ _ (by exact ps_set (i := 5) scNumbered.nd rfl (Or.inl rfl) (pe_lst pa_nil))
  (@pss_cons _ _ _ _ _ (by exact ps_set (i := 6) scNumbered.nd rfl (Or.inl rfl) pe_int)
  (@pss_cons _ _ _ _ _ (by exact ps_for PassesOwn.never rfl (pi_list (pv 0)) (pg_name (i := 7) scNumbered.nd rfl (Or.inl rfl)) (@pss_cons _ _ _ _ _ (by exact ps_asg (pe_op op_mod (pe_op op_add (pe_ix ix_list (pv 1) pe_int (fun _ _ => rfl)) (pv 7)) pe_int) (pg_sub (pv 1) pe_int set_list)) (@pss_cons _ _ _ _ _ (by exact ps_set (i := 6) scNumbered.nd rfl (Or.inl rfl) (pe_op op_add (pe_op op_add (pv 6) pe_int) (pe_call Gdr hrdr rfl mGdr kGdr bGdr .nil pass0 (pa_cons (pv 1) (pa_cons pe_int pa_nil))))) (@pss_mid _ _ _ _ _ (by exact ps_if (pt_cmpR op_eq (pe_call Gdr hrdr rfl mGdr kGdr bGdr .nil pass0 (pa_cons (pv 1) (pa_cons pe_int pa_nil))) pe_int (nomark _)) (@pss_one _ _ _ (by exact ps_set (i := 6) scNumbered.nd rfl (Or.inl rfl) (pe_op op_add (pv 6) (pe_op op_mod (pv 7) (pe_op op_pow pe_int pe_int))))) pss_nil) (@pss_one _ _ _ (by exact ps_expr (pe_bm PySem.F.plainAttrs_list PySem.F.slot_list_append PySem.F.type_list_append mt_append (pv 5) (@pa_consN _ _ _ _ _ (@pe_tup _ _ _ _ _ (pa_cons (pv 6) (pa_cons (pe_call Gsy hrsy rfl mGsy kGsy bGsy .nil pass0 (pa_cons (pv 1) (pa_cons (pv 2) (pa_cons (pv 3) (pa_cons (pv 4) pa_nil))))) pa_nil))) pa_nil rfl))))))))
  (@pss_one _ _ _ (by exact @ps_ret _ _ _ _ (pv 5))))), ?_⟩
 have cpow : CPow 10 20 := ⟨by decide, by decide, by decide⟩
 refine ⟨Nat.zero_le _, fun l hl => ?_⟩
 have s1 := same_new hl (.lst [])
 have nlb : l ≠ b := fun z => by rw [z, hb] at hl; cases hl
 have ncl := ne_of_none hc hl
 refine ⟨_, rfl, lc, rfl, ⟨_, SqL.of (s1 _ _ hc)⟩, for_list (xs := cs.map V.int) (fun i σ H' => (∃ (n : Int) (o : Option V), σ = [some (.ref lc), some (.ref b), some (.ref lk), some (.ref lt), some (.ref lh), some (.ref l), some (.int n), o]) ∧ Kp [b, l] H H' ∧ (∃ x' y', H' b = some (.lst [.int x', .int y'])) ∧ ∃ ys ps, H' l = some (.lst ys) ∧ PrL H' ys ps ∧ ps.length = i ∧ ∀ q ∈ ps, dS q.2)
  ⟨⟨_, _, rfl⟩, .of s1, ⟨_, _, s1 _ _ hb⟩, [], [], upd_same, .nil, rfl, fun _ h => (List.not_mem_nil h).elim⟩ ?_ ?_ ?_⟩
 ·rintro i σ H' hi ⟨_, k, _⟩
  exact SqL.of (k.but _ _ (two_not ncb ncl) hc)
 ·rintro i v σ H' hx ⟨⟨n, o, rfl⟩, k, ⟨x', y', b'⟩, ys, ps, el, pr, lps, dps⟩
  have hi : i < cs.length := by have := (List.getElem?_eq_some_iff.mp hx).1; rwa [List.length_map] at this
  obtain ⟨c, rfl⟩ : ∃ c : Int, v = .int c := by
   obtain ⟨c, _, e⟩ := List.mem_map.mp (List.mem_of_getElem? hx)
   exact ⟨c, e.symm⟩
  refine ⟨_, rfl, b, _, 0, _, rfl, rfl, SqL.of b', atI_nat (j := 0) rfl, _, rfl, _, _, rfl, rfl, _, _, rfl, rfl, (show (0 : Int) < 2147483647 by decide), _, rfl, b, _, 0, 0, rfl, rfl, b', ixN0 _, ?_⟩
  have kb : Kp [b, l] H (upd H' b (.lst [.int ((x' + c) % 2147483647), .int y'])) := k.trans (Kp.lst (by simp) b')
  have el2 : upd H' b (.lst [.int ((x' + c) % 2147483647), .int y']) l = some (.lst ys) := by rw [upd_ne nlb]; exact el
  have b2 : upd H' b (.lst [.int ((x' + c) % 2147483647), .int y']) b = some (.lst [.int ((x' + c) % 2147483647), .int y']) := upd_same
  have pr2 := PrL.mono (Kp.lst (L := [b]) (o := .lst [.int ((x' + c) % 2147483647), .int y']) (by simp) b').tups pr
  show tSeq _ _ _ _ (upd H' b (.lst [.int ((x' + c) % 2147483647), .int y']))
  generalize upd H' b (.lst [.int ((x' + c) % 2147483647), .int y']) = H2 at kb el2 b2 pr2 ⊢
  generalize (x' + c) % 2147483647 = x2 at b2
  refine ⟨_, rfl, _, _, rfl, rfl, _, rfl, b, x2, 3, [.int y'], rfl, b2, by decide, fun x3 r _ _ => ?_⟩
  obtain ⟨k3, b3⟩ := bag x3 b2
  generalize upd H2 b (.lst [.int x3, .int y']) = H3 at k3 b3 ⊢
  refine ⟨_, _, rfl, rfl, ?_⟩
  refine ⟨fun σ H' => ∃ (n' x4 : Int), σ = [some (.ref lc), some (.ref b), some (.ref lk), some (.ref lt), some (.ref lh), some (.ref l), some (.int n'), some (.int c)] ∧ Kp [b] H2 H' ∧ H' b = some (.lst [.int x4, .int y']), ?_, ?_⟩
  ·refine ⟨_, rfl, b, x3, 12, [.int y'], rfl, b3, by decide, fun x4 r' _ _ => ?_⟩
   obtain ⟨k4, b4⟩ := bag x4 b3
   generalize upd H3 b (.lst [.int x4, .int y']) = H4 at k4 b4 ⊢
   refine ⟨rfl, _, rfl, ite2 (fun _ => ?_) (fun _ => ?_)⟩
   ·exact ⟨_, rfl, _, rfl, 10, 20, rfl, rfl, cpow, c, _, rfl, rfl, (show (0 : Int) < 10 ^ (20 : Int).toNat by decide), _, _, rfl, rfl, _, x4, rfl, k3.trans k4, b4⟩
   ·exact ⟨_, x4, rfl, k3.trans k4, b4⟩
  rintro σ H4 ⟨n', x4, rfl, k4, b4⟩
  have nlb1 : l ∉ [b] := one_not nlb
  have el4 := k4.but _ _ nlb1 el2
  have en4 := (en.kp (kb.drop hl)).kp k4
  refine ⟨_, rfl, .inl ⟨rfl, _, SqL.of el4⟩, _, rfl, _, rfl, _, rfl, _, rfl, _, rfl, b, lk, lt, lh, x4, y', ws, ts, hs, rfl, b4, en4, fun v H5 sy x5 y5 k5 b5 is ds => ?_⟩
  have el5 := k5.but _ _ nlb1 el4
  refine ⟨le2, fun t ht => ?_⟩
  have st := same_new ht (.tup [.int n', v])
  have el6 := st _ _ el5
  have lys : ys.length = i := by rw [Paired.length pr]; exact lps
  have k46 : Kp [b, l] H2 (upd H5 t (.tup [.int n', v])) := ((k4.trans k5).trans (.of st)).mono (by simp)
  have k67 : Kp [b, l] (upd H5 t (.tup [.int n', v])) (upd (upd H5 t (.tup [.int n', v])) l (.lst (ys ++ [.ref t]))) := Kp.lst (by simp) el6
  have pr6 : PrL (upd (upd H5 t (.tup [.int n', v])) l (.lst (ys ++ [.ref t]))) (ys ++ [.ref t]) (ps ++ [(n', sy)]) := by
   refine paired_app (PrL.mono (k46.trans k67).tups pr2) (.cons ?_ .nil)
   exact ⟨t, v, rfl, k67.tups _ _ upd_same, IsSy.mono (st.tups.trans k67.tups) is⟩
  refine ⟨l, ys, _, rfl, rfl, el6, small1000 (by omega), ⟨_, _, rfl⟩, (kb.trans k46).trans k67, ⟨x5, y5, by rw [upd_ne (Ne.symm nlb)]; exact st _ _ b5⟩, _, _, upd_same, pr6, by rw [List.length_append, lps]; rfl, fun q hq => ?_⟩
  rcases List.mem_append.mp hq with hq | hq
  ·exact dps q hq
  ·rw [List.mem_singleton.mp hq]; exact ds
 ·rintro σ H' ⟨⟨n, o, rfl⟩, k, ⟨x', y', b'⟩, ys, ps, el, pr, lps, dps⟩
  rw [List.length_map] at lps
  exact ⟨_, rfl, q l H' ys ps x' y' (k.drop hl) hl el pr lps dps b'⟩
end
end K17
namespace K17
open PySem L2
def spSize (n : Nat) : Sp := fun vs H Q _ => ∃ (v : V) (k : Kd), vs = [v] ∧ IsK H k v ∧ k.dep < n ∧ Q (.int (k.nt : Int)) H
theorem both_some : decide (V.str (Str.ofString "both") = V.str (Str.ofString "some")) = false := by rw [dec_str]; decide +kernel
theorem some_some : decide (V.str (Str.ofString "some") = V.str (Str.ofString "some")) = true := decide_eq_true rfl
section
variable {P : Program} {w : World} {K : PySem.W.Frag} {mg : Str → Option Value} {base : Heap} {f g e a1 a2 a3 a4 a5 a6 a7 a8 : Addr} {fd gd' ed d1 d2 d3 d4 d5 d6 d7 d8 : FuncData}
theorem scSize : FnScope ["_law_kind_here"] ["_law_kind_here"] (defScope sSize) := ⟨rfl, rfl, rfl, by decide +kernel, rfl, by decide +kernel, by decide +kernel⟩
theorem ok_size {n k0 : Nat} (F : Fun K "_law_size" "_law_size" sSize f fd) (Gsz : FnOk P w K mg base CX0 k0 f fd ["_law_kind_here"] (spSize n)) (bGsz : Binds K fd ["_law_kind_here"] []) (mGsz : mg "_law_size" = some (.ref f)) (mi : mg "isinstance" = none) (mt : mg "tuple" = none) :
  FnOk P w K mg base CX0 (k0 + 1) f fd ["_law_kind_here"] (spSize (n + 1)) := by
 refine F.ok scSize (fun vs H Q E h => ?_) (fun cdv A outer s H vs Q E hr h => ?_)
 ·obtain ⟨v, k, rfl, _⟩ := h; rfl
 obtain ⟨v, k, rfl, ik, hd, q⟩ := h
 have kGsz := F.kp
 have hrsz := hr
 refine ⟨_, @pss_cons _ _ _ _ _ (by exact ps_if (pt_not (pt_val (pe_callB call_isinst rfl mi PyProof.Rows.boot_isinstance (pa_cons (pv 0) (pa_cons (pe_bltn (v := .ty "tuple") rfl mt PyProof.Rows.boot_tuple rfl) pa_nil))))) (@pss_one _ _ _ (by exact @ps_ret _ _ _ _ pe_int)) pss_nil)
  (@pss_cons _ _ _ _ _ (by exact ps_if (pt_cmpR op_eq (pe_ix ix_tup (pv 0) pe_int (fun _ _ => rfl)) pe_str (nomark _)) (@pss_one _ _ _ (by exact @ps_ret _ _ _ _ (pe_op op_add pe_int (pe_call Gsz hrsz rfl mGsz kGsz bGsz .nil pass0 (pa_cons (pe_ix ix_tup (pv 0) pe_int (fun _ _ => rfl)) pa_nil))))) pss_nil)
  (@pss_one _ _ _ (by exact @ps_ret _ _ _ _ (pe_op op_add (pe_op op_add pe_int (pe_call Gsz hrsz rfl mGsz kGsz bGsz .nil pass0 (pa_cons (pe_ix ix_tup (pv 0) pe_int (fun _ _ => rfl)) pa_nil))) (pe_call Gsz hrsz rfl mGsz kGsz bGsz .nil pass0 (pa_cons (pe_ix ix_tup (pv 0) pe_int (fun _ _ => rfl)) pa_nil)))))), ?_⟩
 cases k with
 | nm x =>
  cases ik
  exact ⟨_, rfl, _, _, _, false, rfl, TyOf.str x, kit_st K, _, rfl, iteT q⟩
 | two a b =>
  obtain ⟨p, x, y, rfl, hp, ia, ib⟩ := ik
  have hd' : 1 + max a.dep b.dep < n + 1 := hd
  refine ⟨_, rfl, _, _, _, true, rfl, TyOf.tup hp, kit_tt K, _, rfl, iteF ⟨_, rfl, p, _, _, _, rfl, rfl, SqT.of hp, rfl, rfl, _, rfl, ?_⟩⟩
  rw [both_some]
  refine iteF ⟨_, rfl, p, _, _, _, rfl, rfl, SqT.of hp, rfl, x, a, rfl, ia, by omega, _, _, rfl, rfl, _, rfl, p, _, _, _, rfl, rfl, SqT.of hp, rfl, y, b, rfl, ib, by omega, _, _, rfl, rfl, ?_⟩
  have e : ((1 : Int) + (a.nt : Int) + (b.nt : Int)) = ((Kd.two a b).nt : Int) := by show _ = ((1 + a.nt + b.nt : Nat) : Int); omega
  show Q (.int ((1 : Int) + (a.nt : Int) + (b.nt : Int))) H
  rw [e]
  exact q
 | som r c =>
  obtain ⟨p, y, rfl, hp, ic⟩ := ik
  have hd' : 1 + c.dep < n + 1 := hd
  refine ⟨_, rfl, _, _, _, true, rfl, TyOf.tup hp, kit_tt K, _, rfl, iteF ⟨_, rfl, p, _, _, _, rfl, rfl, SqT.of hp, rfl, rfl, _, rfl, ?_⟩⟩
  rw [some_some]
  refine iteT ⟨_, rfl, p, _, _, _, rfl, rfl, SqT.of hp, rfl, y, c, rfl, ic, by omega, _, _, rfl, rfl, ?_⟩
  have e : ((1 : Int) + (c.nt : Int)) = ((Kd.som r c).nt : Int) := by show _ = ((1 + c.nt : Nat) : Int); omega
  show Q (.int ((1 : Int) + (c.nt : Int))) H
  rw [e]
  exact q
theorem size_none : FnOk P w K mg base CX0 1 f fd ["_law_kind_here"] (spSize 0) := by
 have no : ∀ vs H Q E, ¬ spSize 0 vs H Q E := fun vs H Q E h => by
  obtain ⟨v, k, _, _, h, _⟩ := h
  omega
 exact ⟨fun vs H Q E h => absurd h (no vs H Q E), fun A outer s H args us vs Q E _ _ _ _ h => absurd h (no vs H Q E)⟩
theorem size_all (F : Fun K "_law_size" "_law_size" sSize f fd) (bGsz : Binds K fd ["_law_kind_here"] []) (mGsz : mg "_law_size" = some (.ref f)) (mi : mg "isinstance" = none) (mt : mg "tuple" = none) : ∀ n : Nat, FnOk P w K mg base CX0 (n + 1) f fd ["_law_kind_here"] (spSize n)
 | 0 => size_none
 | n + 1 => ok_size F (size_all F bGsz mGsz mi mt n) bGsz mGsz mi mt
end
end K17
namespace K17
open PySem L2
theorem dep_le_nt : ∀ k : Kd, k.dep ≤ k.nt
 | .nm _ => Nat.le_refl _
 | .two a b => by have := dep_le_nt a; have := dep_le_nt b; show 1 + max a.dep b.dep ≤ 1 + a.nt + b.nt; omega
 | .som _ c => by have := dep_le_nt c; show 1 + c.dep ≤ 1 + c.nt; omega
def okE : Fa → Prop
 | .is x k => dk x ∧ k.nt ≤ 4
 | .has x _ y => dk x ∧ y.nt ≤ 4
theorem okE.okD : ∀ {f : Fa}, okE f → okD f
 | .is x k, h => ⟨⟨Nat.le_trans h.1.1 (by decide), Nat.le_trans (dep_le_nt k) h.2⟩, h.1.2.2.1, h.1.2.2.2⟩
 | .has x _ y, h => ⟨⟨Nat.le_trans h.1.1 (by decide), Nat.le_trans (dep_le_nt y) h.2⟩, h.1.2.2.1, h.1.2.2.2⟩
theorem okE.lo8 {f : Fa} (h : okE f) : f.lo 8 := h.okD.okF.1
structure Md (L : List Addr) (l : Addr) (H0 H' : Hp) (c : Nat) (mv : List V) (ms : List Stp) : Prop where
 k : Kp [l] H0 H'
 e : H' l = some (.lst mv)
 st : StL (l :: L) H' mv ms
 ok : ∀ m ∈ ms, okE m.f ∧ m.fr.length ≤ 2
 len : ms.length ≤ c
theorem Md.le {L : List Addr} {l : Addr} {H0 H' : Hp} {c d : Nat} {mv : List V} {ms : List Stp} (h : Md L l H0 H' c mv ms) (hd : c ≤ d) : Md L l H0 H' d mv ms := ⟨h.k, h.e, h.st, h.ok, Nat.le_trans h.len hd⟩
theorem Md.add {L : List Addr} {l : Addr} {H0 H' H1 : Hp} {c : Nat} {mv : List V} {ms : List Stp} {t p : Addr} {vf : V} {f : Fa} {r : Str} {fr : List Int} {n : Option Int} (h : Md L l H0 H' c mv ms) (hl : ∀ a ∈ L, H0 a ≠ none)
  (s : Same H' H1) (h2 : H1 t = some (.tup [vf, .str r, .ref p, numV n])) (hp : H1 p = some (.lst (fr.map V.int))) (np : H' p = none) (hf : IsF H1 f vf) (of : okE f) (lf : fr.length ≤ 2) :
  Md L l H0 (upd H1 l (.lst (mv ++ [.ref t]))) (c + 1) (mv ++ [.ref t]) (ms ++ [⟨f, r, fr, n⟩]) := by
 have e1 := s _ _ h.e
 have k1 : Kp [l] H' (upd H1 l (.lst (mv ++ [.ref t]))) := (Kp.of s).trans (Kp.lst (List.mem_singleton.mpr rfl) e1)
 have npl : p ≠ l := fun z => by rw [z, h.e] at np; cases np
 have kl : Kp [l] H1 (upd H1 l (.lst (mv ++ [.ref t]))) := Kp.lst (List.mem_singleton.mpr rfl) e1
 refine ⟨h.k.trans k1, upd_same, paired_app ?_ (.cons ?_ .nil), ?_, ?_⟩
 ·exact StL.keep (k1.mono (by simp)) h.st
 ·refine ⟨t, p, vf, rfl, kl.tups _ _ h2, hf.mono kl.tups, by rw [upd_ne npl]; exact hp, fun z => ?_⟩
  rcases List.mem_cons.mp z with z | z
  ·exact npl z
  ·cases c : H0 p with
   | none => exact hl p z c
   | some o => rw [h.k.but p o (one_not npl) c] at np; cases np
 ·intro m hm
  rcases List.mem_append.mp hm with hm | hm
  ·exact h.ok m hm
  ·rw [List.mem_singleton.mp hm]; exact ⟨of, lf⟩
 ·rw [List.length_append]; exact Nat.add_le_add_right h.len 1
def endMd (L : List Addr) (H : Hp) (Q : VK) : Prop := ∀ (l : Addr) (H' : Hp) (mv : List V) (ms : List Stp), Same H H' → H l = none → H' l = some (.lst mv) → StL L H' mv ms → (∀ m ∈ ms, okE m.f ∧ m.fr.length ≤ 2) → ms.length ≤ 6 → Q (.ref l) H'
theorem Md.fin {L : List Addr} {l : Addr} {H H' : Hp} {mv : List V} {ms : List Stp} {Q : VK} (hl : H l = none) (q : endMd L H Q) (h : Md L l (upd H l (.lst [])) H' 6 mv ms) : Q (.ref l) H' := by
 refine q l H' mv ms (fun a o ha => ?_) hl h.e (h.st.weak fun _ z => List.mem_cons_of_mem _ z) h.ok h.len
 have : a ≠ l := fun z => by rw [z, hl] at ha; cases ha
 exact h.k.but a o (one_not this) (by rw [upd_ne this]; exact ha)
theorem Md.new {L : List Addr} {l : Addr} {H : Hp} (hl : H l = none) : Md L l (upd H l (.lst [])) (upd H l (.lst [])) 0 [] [] := ⟨Kp.refl _ _, upd_same, .nil, fun _ h => (List.not_mem_nil h).elim, Nat.zero_le _⟩
theorem Md.keep {L : List Addr} {l : Addr} {H : Hp} (hl : H l = none) (h : ∀ a ∈ L, H a ≠ none) : ∀ a ∈ L, upd H l (.lst []) a ≠ none := fun a ha e => by
 by_cases z : a = l
 ·exact h a ha (by rw [z]; exact hl)
 ·rw [upd_ne z] at e; exact h a ha e
def spWaysK : Sp := fun vs H Q _ => ∃ (L : List Addr) (ls : Addr) (i j : Nat) (n : Int) (vy : V) (xs : List V) (ss : List Stp) (si sj : Stp) (x k : Kd) (sy : Sy), vs = [.ref ls, .int (i : Int), .int (j : Int), .int n, vy] ∧ (∀ a ∈ L, H a ≠ none) ∧ H ls = some (.lst xs) ∧ StL [] H xs ss ∧
 ss[i]? = some si ∧ ss[j]? = some sj ∧ si.f = .is x k ∧ okE si.f ∧ okE sj.f ∧ IsSy H sy vy ∧ dS sy ∧ endMd L H Q
theorem both_both : decide (V.str (Str.ofString "both") = V.str (Str.ofString "both")) = true := decide_eq_true rfl
theorem some_both : decide (V.str (Str.ofString "some") = V.str (Str.ofString "both")) = false := by rw [dec_str]; decide +kernel
theorem is_is : decide (V.str (Str.ofString "is") = V.str (Str.ofString "is")) = true := decide_eq_true rfl
theorem has_is' : decide (V.str (Str.ofString "has") = V.str (Str.ofString "is")) = false := by rw [dec_str]; decide +kernel
theorem Md.same {L : List Addr} {l : Addr} {H0 H' H1 : Hp} {c : Nat} {mv : List V} {ms : List Stp} (h : Md L l H0 H' c mv ms) (s : Same H' H1) : Md L l H0 H1 c mv ms := ⟨h.k.trans (.of s), s _ _ h.e, StL.keep (.of s) h.st, h.ok, h.len⟩
theorem three {H' : Hp} {t1 p1 t2 : Addr} {T1 T2 xs : List V} (h1 : H' t1 = none) (h2 : upd H' t1 (.tup T1) p1 = none) (h3 : upd (upd H' t1 (.tup T1)) p1 (.lst xs) t2 = none) :
  Same H' (upd (upd (upd H' t1 (.tup T1)) p1 (.lst xs)) t2 (.tup T2)) ∧ Same (upd H' t1 (.tup T1)) (upd (upd (upd H' t1 (.tup T1)) p1 (.lst xs)) t2 (.tup T2)) ∧ upd (upd (upd H' t1 (.tup T1)) p1 (.lst xs)) t2 (.tup T2) p1 = some (.lst xs) ∧ upd (upd (upd H' t1 (.tup T1)) p1 (.lst xs)) t2 (.tup T2) t2 = some (.tup T2) ∧ H' p1 = none := by
 have s1 := same_new h1 (.tup T1)
 have s2 := same_new h2 (.lst xs)
 have s3 := same_new h3 (.tup T2)
 exact ⟨(s1.trans s2).trans s3, s2.trans s3, s3 _ _ upd_same, upd_same, none_of_same s1 h2⟩
section
variable {P : Program} {w : World} {K : PySem.W.Frag} {mg : Str → Option Value} {base : Heap} {f g e a1 a2 a3 a4 a5 a6 a7 a8 : Addr} {fd gd' ed d1 d2 d3 d4 d5 d6 d7 d8 : FuncData}
theorem scWaysK : FnScope ["_law_steps", "_law_i", "_law_j", "_law_number", "_law_saying_here", "_law_x", "_law_kind_here", "_law_two", "_law_made"] ["_law_steps", "_law_i", "_law_j", "_law_number", "_law_saying_here"] (defScope sWaysK) := ⟨rfl, rfl, rfl, by decide +kernel, rfl, by decide +kernel, by decide +kernel⟩
theorem ok_waysK (F : Fun K "_law_ways_of_kind" "_law_ways_of_kind" sWaysK f fd) (mi : mg "isinstance" = none) (mt : mg "tuple" = none)
  (Gsz : FnOk P w K mg base CX0 6 a1 d1 ["_law_kind_here"] (spSize 5)) (bGsz : Binds K d1 ["_law_kind_here"] []) (kGsz : PySem.W.keepIn K (.ref a1) = true) (mGsz : mg "_law_size" = some (.ref a1)) :
  FnOk P w K mg base CX0 7 f fd ["_law_steps", "_law_i", "_law_j", "_law_number", "_law_saying_here"] spWaysK := by
 refine F.ok scWaysK (fun vs H Q E h => ?_) (fun cdv A outer s H vs Q E hr h => ?_)
 ·obtain ⟨L, ls, i, j, n, vy, xs, ss, si, sj, x, k, sy, rfl, _⟩ := h; rfl
 obtain ⟨L, ls, i, j, n, vy, xs, ss, si, sj, x, k, sy, rfl, hL, hls, hst, hi, hj, ef, oi, oj, isy, ds, q⟩ := h
 have hrsz := hr
 refine ⟨_, @pss_cons _ _ _ _ _ (by exact ps_set (i := 5) scWaysK.nd rfl (Or.inl rfl) (pe_ix ix_tup (pe_ix ix_tup (pe_ix ix_list (pv 0) (pv 1) (fun _ _ => rfl)) pe_int (fun _ _ => rfl)) pe_int (fun _ _ => rfl)))
  (@pss_cons _ _ _ _ _ (by exact ps_set (i := 6) scWaysK.nd rfl (Or.inl rfl) (pe_ix ix_tup (pe_ix ix_tup (pe_ix ix_list (pv 0) (pv 1) (fun _ _ => rfl)) pe_int (fun _ _ => rfl)) pe_int (fun _ _ => rfl)))
  (@pss_cons _ _ _ _ _ (by exact ps_set (i := 7) scWaysK.nd rfl (Or.inl rfl) (pe_ix ix_tup (pe_ix ix_list (pv 0) (pv 2) (fun _ _ => rfl)) pe_int (fun _ _ => rfl)))
  (@pss_cons _ _ _ _ _ (by exact ps_set (i := 8) scWaysK.nd rfl (Or.inl rfl) (pe_lst pa_nil))
  (@pss_mid _ _ _ _ _ (by exact ps_if (PW.pt (pw_and (pt_val (pe_callB call_isinst rfl mi PyProof.Rows.boot_isinstance (pa_cons (pv 6) (pa_cons (pe_bltn (v := .ty "tuple") rfl mt PyProof.Rows.boot_tuple rfl) pa_nil)))) (pw_and1 (pt_cmpR op_eq (pe_ix ix_tup (pv 6) pe_int (fun _ _ => rfl)) pe_str (nomark _))))) (@pss_cons _ _ _ _ _ (by exact ps_expr (pe_bm PySem.F.plainAttrs_list PySem.F.slot_list_append PySem.F.type_list_append mt_append (pv 8) (@pa_consN _ _ _ _ _ (@pe_tup _ _ _ _ _ (@pa_consN _ _ _ _ _ (@pe_tup _ _ _ _ _ (pa_cons pe_str (pa_cons (pv 5) (pa_cons (pe_ix ix_tup (pv 6) pe_int (fun _ _ => rfl)) pa_nil)))) (@pa_consN _ _ _ _ _ pe_str (@pa_consN _ _ _ _ _ (pe_lst (pa_cons (pv 1) pa_nil)) (@pa_consN _ _ _ _ _ pe_non pa_nil rfl) rfl) rfl) rfl)) pa_nil rfl))) (@pss_one _ _ _ (by exact ps_expr (pe_bm PySem.F.plainAttrs_list PySem.F.slot_list_append PySem.F.type_list_append mt_append (pv 8) (@pa_consN _ _ _ _ _ (@pe_tup _ _ _ _ _ (@pa_consN _ _ _ _ _ (@pe_tup _ _ _ _ _ (pa_cons pe_str (pa_cons (pv 5) (pa_cons (pe_ix ix_tup (pv 6) pe_int (fun _ _ => rfl)) pa_nil)))) (@pa_consN _ _ _ _ _ pe_str (@pa_consN _ _ _ _ _ (pe_lst (pa_cons (pv 1) pa_nil)) (@pa_consN _ _ _ _ _ pe_non pa_nil rfl) rfl) rfl) rfl)) pa_nil rfl))))) pss_nil)
  (@pss_mid _ _ _ _ _ (by exact ps_if (PW.pt (pw_and (pt_val (pe_callB call_isinst rfl mi PyProof.Rows.boot_isinstance (pa_cons (pv 6) (pa_cons (pe_bltn (v := .ty "tuple") rfl mt PyProof.Rows.boot_tuple rfl) pa_nil)))) (pw_and1 (pt_cmpR op_eq (pe_ix ix_tup (pv 6) pe_int (fun _ _ => rfl)) pe_str (nomark _))))) (@pss_one _ _ _ (by exact ps_expr (pe_bm PySem.F.plainAttrs_list PySem.F.slot_list_append PySem.F.type_list_append mt_append (pv 8) (@pa_consN _ _ _ _ _ (@pe_tup _ _ _ _ _ (@pa_consN _ _ _ _ _ (@pe_tup _ _ _ _ _ (pa_cons pe_str (pa_cons (pv 5) (pa_cons (pe_ix ix_tup (pv 6) pe_int (fun _ _ => rfl)) (pa_cons (pe_ix ix_tup (pv 6) pe_int (fun _ _ => rfl)) pa_nil))))) (@pa_consN _ _ _ _ _ pe_str (@pa_consN _ _ _ _ _ (pe_lst (pa_cons (pv 1) pa_nil)) (@pa_consN _ _ _ _ _ pe_non pa_nil rfl) rfl) rfl) rfl)) pa_nil rfl)))) pss_nil)
  (@pss_mid _ _ _ _ _ (by exact ps_if (PW.pt (pw_and (pt_cmpR op_eq (pe_ix ix_tup (pv 4) pe_int (fun _ _ => rfl)) pe_str (nomark _)) (pw_and1 (pt_cmpR (op_eqX hr.units) (pe_ix ix_tup (pv 4) pe_int (fun _ _ => rfl)) (pv 6) (nomark _))))) (@pss_one _ _ _ (by exact ps_expr (pe_bm PySem.F.plainAttrs_list PySem.F.slot_list_append PySem.F.type_list_append mt_append (pv 8) (@pa_consN _ _ _ _ _ (@pe_tup _ _ _ _ _ (@pa_consN _ _ _ _ _ (@pe_tup _ _ _ _ _ (pa_cons pe_str (pa_cons (pv 5) (pa_cons (pe_ix ix_tup (pv 4) pe_int (fun _ _ => rfl)) pa_nil)))) (@pa_consN _ _ _ _ _ pe_str (@pa_consN _ _ _ _ _ (pe_lst (pa_cons (pv 1) pa_nil)) (@pa_consN _ _ _ _ _ (pv 3) pa_nil rfl) rfl) rfl) rfl)) pa_nil rfl)))) pss_nil)
  (@pss_mid _ _ _ _ _ (by exact ps_if (PW.pt (pw_and (pt_cmpR op_eq (pe_ix ix_tup (pv 7) pe_int (fun _ _ => rfl)) pe_str (nomark _)) (pw_and1 (pt_cmpR (op_eqX hr.units) (pe_ix ix_tup (pv 7) pe_int (fun _ _ => rfl)) (pv 5) (nomark _))))) (@pss_mid _ _ _ _ _ (by exact ps_if (pt_cmpR op_lt (pe_op op_add (pe_call Gsz hrsz rfl mGsz kGsz bGsz .nil pass0 (pa_cons (pv 6) pa_nil)) (pe_call Gsz hrsz rfl mGsz kGsz bGsz .nil pass0 (pa_cons (pe_ix ix_tup (pv 7) pe_int (fun _ _ => rfl)) pa_nil))) pe_int (nomark _)) (@pss_one _ _ _ (by exact ps_expr (pe_bm PySem.F.plainAttrs_list PySem.F.slot_list_append PySem.F.type_list_append mt_append (pv 8) (@pa_consN _ _ _ _ _ (@pe_tup _ _ _ _ _ (@pa_consN _ _ _ _ _ (@pe_tup _ _ _ _ _ (@pa_consN _ _ _ _ _ pe_str (@pa_consN _ _ _ _ _ (pv 5) (@pa_consN _ _ _ _ _ (@pe_tup _ _ _ _ _ (pa_cons pe_str (pa_cons (pv 6) (pa_cons (pe_ix ix_tup (pv 7) pe_int (fun _ _ => rfl)) pa_nil)))) pa_nil rfl) rfl) rfl)) (@pa_consN _ _ _ _ _ pe_str (@pa_consN _ _ _ _ _ (pe_lst (pa_cons (pv 1) (pa_cons (pv 2) pa_nil))) (@pa_consN _ _ _ _ _ pe_non pa_nil rfl) rfl) rfl) rfl)) pa_nil rfl)))) pss_nil) (@pss_one _ _ _ (by exact ps_if (pt_cmpR (op_eqX hr.units) (pv 4) (@pe_tup _ _ _ _ _ (pa_cons pe_str (pa_cons (pv 6) (pa_cons (pe_ix ix_tup (pv 7) pe_int (fun _ _ => rfl)) pa_nil)))) (nomark _)) (@pss_one _ _ _ (by exact ps_expr (pe_bm PySem.F.plainAttrs_list PySem.F.slot_list_append PySem.F.type_list_append mt_append (pv 8) (@pa_consN _ _ _ _ _ (@pe_tup _ _ _ _ _ (@pa_consN _ _ _ _ _ (@pe_tup _ _ _ _ _ (pa_cons pe_str (pa_cons (pv 5) (pa_cons pe_str pa_nil)))) (@pa_consN _ _ _ _ _ pe_str (@pa_consN _ _ _ _ _ (pe_lst (pa_cons (pv 1) (pa_cons (pv 2) pa_nil))) (@pa_consN _ _ _ _ _ (pv 3) pa_nil rfl) rfl) rfl) rfl)) pa_nil rfl)))) pss_nil))) pss_nil)
  (@pss_one _ _ _ (by exact @ps_ret _ _ _ _ (pv 8)))))))))), ?_⟩
 obtain ⟨vi, ei, pi, fi, fvi, rfl, hpi, ifi, _, _⟩ := paired_get2 hst hi
 rw [ef] at ifi oi
 obtain ⟨pf, vx, vk, rfl, hpf, ix, ik⟩ := ifi
 obtain ⟨vj, ej, pj, fj, fvj, rfl, hpj, ifj, _, _⟩ := paired_get2 hst hj
 obtain ⟨py, vs', rfl, hpy, kly⟩ := isy
 obtain ⟨dx, nk⟩ : dk x ∧ k.nt ≤ 4 := oi
 refine ⟨_, rfl, _, rfl, ls, _, _, _, rfl, rfl, SqL.of hls, atI_nat ei, pi, _, _, _, rfl, rfl, SqT.of hpi, rfl, pf, _, _, _, rfl, rfl, SqT.of hpf, rfl, ?_⟩
 refine ⟨_, rfl, _, rfl, ls, _, _, _, rfl, rfl, SqL.of hls, atI_nat ei, pi, _, _, _, rfl, rfl, SqT.of hpi, rfl, pf, _, _, _, rfl, rfl, SqT.of hpf, rfl, ?_⟩
 refine ⟨_, rfl, _, rfl, ls, _, _, _, rfl, rfl, SqL.of hls, atI_nat ej, pj, _, _, _, rfl, rfl, SqT.of hpj, rfl, ?_⟩
 refine ⟨Nat.zero_le _, fun l hl => ?_⟩
 have hL0 := Md.keep hl hL
 have t0 : Tups H (upd H l (.lst [])) := (same_new hl _).tups
 have m0 : Md L l (upd H l (.lst [])) (upd H l (.lst [])) 0 [] [] := Md.new hl
 generalize hH0 : upd H l (.lst []) = H0 at t0 hL0 m0 ⊢
 have fin : ∀ {H' mv ms}, Md L l H0 H' 6 mv ms → Q (.ref l) H' := fun m => Md.fin hl q (by rw [hH0]; exact m)
 have sz : ∀ {H' mv ms c}, c ≤ 6 → Md L l H0 H' c mv ms → mv.length < sizeLine := fun hc m => small1000 (by have := m.len; have := StL.len m.st; omega)
 refine ⟨fun σ H' => ∃ mv ms, σ = [some (.ref ls), some (.int (i : Int)), some (.int (j : Int)), some (.int n), some (.ref py), some vx, some vk, some fvj, some (.ref l)] ∧ Md L l H0 H' 2 mv ms, ?_, ?_⟩
 ·cases k with
  | nm t =>
   cases ik
   exact ⟨_, rfl, _, _, _, false, rfl, TyOf.str _, kit_st K, _, rfl, iteF (iteF ⟨_, _, rfl, m0.le (by decide)⟩)⟩
  | som r c =>
   obtain ⟨pk, vc, rfl, hpk, ic⟩ := ik
   refine ⟨_, rfl, _, _, _, true, rfl, TyOf.tup (t0 _ _ hpk), kit_tt K, _, rfl, iteT ⟨_, rfl, pk, _, _, _, rfl, rfl, SqT.of (t0 _ _ hpk), rfl, rfl, _, rfl, ?_⟩⟩
   rw [some_both]
   exact iteF ⟨_, _, rfl, m0.le (by decide)⟩
  | two a b =>
   obtain ⟨pk, va, vb, rfl, hpk, ia, ib⟩ := ik
   have n4 : 1 + a.nt + b.nt ≤ 4 := nk
   refine ⟨_, rfl, _, _, _, true, rfl, TyOf.tup (t0 _ _ hpk), kit_tt K, _, rfl, iteT ⟨_, rfl, pk, _, _, _, rfl, rfl, SqT.of (t0 _ _ hpk), rfl, rfl, _, rfl, ?_⟩⟩
   rw [both_both]
   refine iteT ⟨_, rfl, .inl ⟨rfl, _, SqL.of m0.e⟩, _, rfl, _, rfl, pk, _, _, _, rfl, rfl, SqT.of (t0 _ _ hpk), rfl, le3, fun t1 h1 => ⟨_, rfl, le1, fun p1 h2 => ⟨le4, fun t2 h3 => ?_⟩⟩⟩
   obtain ⟨s1, s2, g1, g2, g3⟩ := three (T2 := [.ref t1, .str "first", .ref p1, .non]) h1 h2 h3
   have f1 := (isF_new h1 (ix.mono t0) (ia.mono t0)).mono s2.tups
   have m1 := m0.add (n := none) (fr := [(i : Int)]) hL0 s1 g2 g1 g3 f1 ⟨dx, by omega⟩ (by show 1 ≤ 2; decide)
   refine ⟨l, _, _, rfl, rfl, s1 _ _ m0.e, sz (by decide) m0, ?_⟩
   generalize upd (upd (upd (upd H0 t1 _) p1 _) t2 _) l _ = H1 at m1 ⊢
   have t1' := t0.trans m1.k.tups
   refine ⟨_, rfl, .inl ⟨rfl, _, SqL.of m1.e⟩, _, rfl, _, rfl, pk, _, _, _, rfl, rfl, SqT.of (t1' _ _ hpk), rfl, le3, fun t3 h4 => ⟨_, rfl, le1, fun p2 h5 => ⟨le4, fun t4 h6 => ?_⟩⟩⟩
   obtain ⟨s3, s4, g4, g5, g6⟩ := three (T2 := [.ref t3, .str "second", .ref p2, .non]) h4 h5 h6
   have f2 := (isF_new h4 (ix.mono t1') (ib.mono t1')).mono s4.tups
   have m2 := m1.add (n := none) (fr := [(i : Int)]) hL0 s3 g5 g4 g6 f2 ⟨dx, by omega⟩ (by show 1 ≤ 2; decide)
   exact ⟨l, _, _, rfl, rfl, s3 _ _ m1.e, sz (by decide) m1, _, _, rfl, m2⟩
 rintro σ H1 ⟨mv1, ms1, rfl, m1⟩
 have t1 := t0.trans m1.k.tups
 refine ⟨fun σ H' => ∃ mv ms, σ = [some (.ref ls), some (.int (i : Int)), some (.int (j : Int)), some (.int n), some (.ref py), some vx, some vk, some fvj, some (.ref l)] ∧ Md L l H0 H' 3 mv ms, ?_, ?_⟩
 ·cases k with
  | nm t =>
   cases ik
   exact ⟨_, rfl, _, _, _, false, rfl, TyOf.str _, kit_st K, _, rfl, iteF (iteF ⟨_, _, rfl, m1.le (by decide)⟩)⟩
  | two a b =>
   obtain ⟨pk, va, vb, rfl, hpk, ia, ib⟩ := ik
   refine ⟨_, rfl, _, _, _, true, rfl, TyOf.tup (t1 _ _ hpk), kit_tt K, _, rfl, iteT ⟨_, rfl, pk, _, _, _, rfl, rfl, SqT.of (t1 _ _ hpk), rfl, rfl, _, rfl, ?_⟩⟩
   rw [both_some]
   exact iteF ⟨_, _, rfl, m1.le (by decide)⟩
  | som r c =>
   obtain ⟨pk, vc, rfl, hpk, ic⟩ := ik
   have n4 : 1 + c.nt ≤ 4 := nk
   refine ⟨_, rfl, _, _, _, true, rfl, TyOf.tup (t1 _ _ hpk), kit_tt K, _, rfl, iteT ⟨_, rfl, pk, _, _, _, rfl, rfl, SqT.of (t1 _ _ hpk), rfl, rfl, _, rfl, ?_⟩⟩
   rw [some_some]
   refine iteT ⟨_, rfl, .inl ⟨rfl, _, SqL.of m1.e⟩, _, rfl, _, rfl, pk, _, _, _, rfl, rfl, SqT.of (t1 _ _ hpk), rfl, _, rfl, pk, _, _, _, rfl, rfl, SqT.of (t1 _ _ hpk), rfl, le4, fun q1 h1 => ⟨_, rfl, le1, fun p1 h2 => ⟨le4, fun q2 h3 => ?_⟩⟩⟩
   obtain ⟨s1, s2, g1, g2, g3⟩ := three (T2 := [.ref q1, .str "some", .ref p1, .non]) h1 h2 h3
   have f1 := (hasF_new h1 (ix.mono t1) (ic.mono t1)).mono s2.tups
   have m2 := m1.add (n := none) (fr := [(i : Int)]) hL0 s1 g2 g1 g3 f1 ⟨dx, by omega⟩ (by show 1 ≤ 2; decide)
   exact ⟨l, _, _, rfl, rfl, s1 _ _ m1.e, sz (by decide) m1, _, _, rfl, m2⟩
 rintro σ H2 ⟨mv2, ms2, rfl, m2⟩
 have t2 := t0.trans m2.k.tups
 have dk4 : k.dep ≤ 4 := Nat.le_trans (dep_le_nt k) nk
 refine ⟨fun σ H' => ∃ mv ms, σ = [some (.ref ls), some (.int (i : Int)), some (.int (j : Int)), some (.int n), some (.ref py), some vx, some vk, some fvj, some (.ref l)] ∧ Md L l H0 H' 4 mv ms, ?_, ?_⟩
 ·refine ⟨_, rfl, py, _, 0, _, rfl, rfl, SqT.of (t2 _ _ hpy), atI_nat (j := 0) rfl, rfl, _, rfl, ?_⟩
  rw [hd_dec sy .every "every" rfl (by decide)]
  refine ite2 (fun c => ?_) (fun c => iteF ⟨_, _, rfl, m2.le (by decide)⟩)
  obtain ⟨a, b, rfl⟩ := hd_every (of_decide_eq_true c)
  obtain ⟨va, vb, rfl, ia, ib⟩ := kl_two kly
  obtain ⟨da, db⟩ : dn a ∧ dn b := ds
  refine ⟨_, rfl, py, _, _, _, rfl, rfl, SqT.of (t2 _ _ hpy), rfl, _, rfl, a.tx, k.tx, (ia.mono t2).xa, (ik.mono t2).xa, by rw [Kd.tx_dp]; have := da.1.1; omega, _, rfl, ite2 (fun _ => ?_) (fun _ => ⟨_, _, rfl, m2.le (by decide)⟩)⟩
  refine ⟨_, rfl, .inl ⟨rfl, _, SqL.of m2.e⟩, _, rfl, _, rfl, py, _, _, _, rfl, rfl, SqT.of (t2 _ _ hpy), rfl, le3, fun q1 h1 => ⟨_, rfl, le1, fun p1 h2 => ⟨_, rfl, le4, fun q2 h3 => ?_⟩⟩⟩
  obtain ⟨s1, s2, g1, g2, g3⟩ := three (T2 := [.ref q1, .str "every", .ref p1, .int n]) h1 h2 h3
  have f1 := (isF_new h1 (ix.mono t2) (ib.mono t2)).mono s2.tups
  have m3 := m2.add (n := some n) (fr := [(i : Int)]) hL0 s1 g2 g1 g3 f1 ⟨dx, by have := db.2; omega⟩ (by show 1 ≤ 2; decide)
  exact ⟨l, _, _, rfl, rfl, s1 _ _ m2.e, sz (by decide) m2, _, _, rfl, m3⟩
 rintro σ H3 ⟨mv3, ms3, rfl, m3⟩
 have t3 := t0.trans m3.k.tups
 refine ⟨fun σ H' => ∃ mv ms, σ = [some (.ref ls), some (.int (i : Int)), some (.int (j : Int)), some (.int n), some (.ref py), some vx, some vk, some fvj, some (.ref l)] ∧ Md L l H0 H' 6 mv ms, ?_, ?_⟩
 ·cases hfj : sj.f with
  | has x2 r2 y2 =>
   rw [hfj] at ifj
   obtain ⟨pj2, vx2, vy2, rfl, hpj2, ix2, iy2⟩ := ifj
   refine ⟨_, rfl, pj2, _, _, _, rfl, rfl, SqT.of (t3 _ _ hpj2), rfl, rfl, _, rfl, ?_⟩
   rw [has_is']
   exact iteF (iteF ⟨_, _, rfl, m3.le (by decide)⟩)
  | is x2 k2 =>
   rw [hfj] at ifj oj
   obtain ⟨pj2, vx2, vk2, rfl, hpj2, ix2, ik2⟩ := ifj
   obtain ⟨dx2, nk2⟩ : dk x2 ∧ k2.nt ≤ 4 := oj
   have dk24 : k2.dep ≤ 4 := Nat.le_trans (dep_le_nt k2) nk2
   refine ⟨_, rfl, pj2, _, _, _, rfl, rfl, SqT.of (t3 _ _ hpj2), rfl, rfl, _, rfl, ?_⟩
   rw [is_is]
   refine iteT ⟨_, rfl, pj2, _, _, _, rfl, rfl, SqT.of (t3 _ _ hpj2), rfl, _, rfl, x2.tx, x.tx, (ix2.mono t3).xa, (ix.mono t3).xa, by rw [Kd.tx_dp]; have := dx2.1; omega, _, rfl, ite2 (fun _ => ?_) (fun _ => ⟨_, _, rfl, m3.le (by decide)⟩)⟩
   refine ⟨fun σ H' => ∃ mv ms, σ = [some (.ref ls), some (.int (i : Int)), some (.int (j : Int)), some (.int n), some (.ref py), some vx, some vk, some (.ref pj2), some (.ref l)] ∧ Md L l H0 H' 5 mv ms, ?_, ?_⟩
   ·refine ⟨_, rfl, vk, k, rfl, ik.mono t3, by omega, _, rfl, pj2, _, _, _, rfl, rfl, SqT.of (t3 _ _ hpj2), rfl, vk2, k2, rfl, ik2.mono t3, by omega, _, _, rfl, rfl, _, _, rfl, rfl, _, rfl, ite2 (fun c => ?_) (fun _ => ⟨_, _, rfl, m3.le (by decide)⟩)⟩
    have c4 : (k.nt : Int) + (k2.nt : Int) < 4 := of_decide_eq_true c
    refine ⟨_, rfl, .inl ⟨rfl, _, SqL.of m3.e⟩, _, rfl, _, rfl, _, rfl, pj2, _, _, _, rfl, rfl, SqT.of (t3 _ _ hpj2), rfl, le3, fun q0 h0 => ⟨le3, fun q1 h1 => ⟨_, rfl, _, rfl, le2, fun p1 h2 => ⟨le4, fun q2 h3 => ?_⟩⟩⟩⟩
    have s0 := same_new h0 (.tup [.str "both", vk, vk2])
    have t4 := t3.trans s0.tups
    obtain ⟨s1, s2, g1, g2, g3⟩ := three (T2 := [.ref q1, .str "both", .ref p1, .non]) h1 h2 h3
    have kb : IsK (upd H3 q0 (.tup [.str "both", vk, vk2])) (.two k k2) (.ref q0) := ⟨q0, vk, vk2, rfl, upd_same, ik.mono t4, ik2.mono t4⟩
    have f1 := (isF_new h1 (ix.mono t4) kb).mono s2.tups
    have m4 := (m3.same s0).add (n := none) (fr := [(i : Int), (j : Int)]) hL0 s1 g2 g1 g3 f1 ⟨dx, by show 1 + k.nt + k2.nt ≤ 4; omega⟩ (by show 2 ≤ 2; decide)
    exact ⟨l, _, _, rfl, rfl, s1 _ _ (s0 _ _ m3.e), sz (by decide) m3, _, _, rfl, m4⟩
   rintro σ H4 ⟨mv4, ms4, rfl, m4⟩
   have t4 := t0.trans m4.k.tups
   refine ⟨_, rfl, _, rfl, _, rfl, pj2, _, _, _, rfl, rfl, SqT.of (t4 _ _ hpj2), rfl, le3, fun q0 h0 => ?_⟩
   have s0 := same_new h0 (.tup [.str "no", vk, vk2])
   have t5 := t4.trans s0.tups
   have m5 := m4.same s0
   refine ⟨sy.tx, .tup [.str "no", k.tx, k2.tx], IsSy.xa (s := sy) ⟨py, vs', rfl, t5 _ _ hpy, KL.mono t5 kly⟩, ⟨q0, _, rfl, upd_same, _, _, rfl, rfl, _, _, rfl, (ik.mono t5).xa, _, _, rfl, (ik2.mono t5).xa, rfl⟩, Sy.dp60 (dS.okS ds).2, _, rfl, ite2 (fun _ => ?_) (fun _ => ⟨_, _, rfl, m5.le (by decide)⟩)⟩
   refine ⟨_, rfl, .inl ⟨rfl, _, SqL.of m5.e⟩, _, rfl, le3, fun q1 h1 => ⟨_, rfl, _, rfl, le2, fun p1 h2 => ⟨_, rfl, le4, fun q2 h3 => ?_⟩⟩⟩
   obtain ⟨s1, s2, g1, g2, g3⟩ := three (T2 := [.ref q1, .str "no", .ref p1, .int n]) h1 h2 h3
   have f1 := (isF_new h1 (ix.mono t5) (show IsK _ (.nm "nothing") (.str "nothing") from rfl)).mono s2.tups
   have m6 := m5.add (n := some n) (fr := [(i : Int), (j : Int)]) hL0 s1 g2 g1 g3 f1 ⟨dx, Nat.zero_le _⟩ (by show 2 ≤ 2; decide)
   exact ⟨l, _, _, rfl, rfl, s1 _ _ m5.e, sz (by decide) m5, _, _, rfl, m6⟩
 rintro σ H5 ⟨mv5, ms5, rfl, m5⟩
 exact ⟨_, rfl, fin m5⟩
end
end K17
namespace K17
open PySem L2
def spWaysT : Sp := fun vs H Q _ => ∃ (L : List Addr) (ls : Addr) (i j : Nat) (n : Int) (vy : V) (xs : List V) (ss : List Stp) (si sj : Stp) (x : Kd) (r : Str) (y : Kd) (sy : Sy), vs = [.ref ls, .int (i : Int), .int (j : Int), .int n, vy] ∧ (∀ a ∈ L, H a ≠ none) ∧ H ls = some (.lst xs) ∧ StL [] H xs ss ∧
 ss[i]? = some si ∧ ss[j]? = some sj ∧ si.f = .has x r y ∧ okE si.f ∧ okE sj.f ∧ IsSy H sy vy ∧ dS sy ∧ endMd L H Q
theorem is_has' : decide (V.str (Str.ofString "is") = V.str (Str.ofString "has")) = false := by rw [dec_str]; decide +kernel
theorem has_has : decide (V.str (Str.ofString "has") = V.str (Str.ofString "has")) = true := decide_eq_true rfl
section
variable {P : Program} {w : World} {K : PySem.W.Frag} {mg : Str → Option Value} {base : Heap} {f g e a1 a2 a3 a4 a5 a6 a7 a8 : Addr} {fd gd' ed d1 d2 d3 d4 d5 d6 d7 d8 : FuncData}
theorem scWaysT : FnScope ["_law_steps", "_law_i", "_law_j", "_law_number", "_law_saying_here", "_law_one", "_law_two", "_law_x", "_law_made"] ["_law_steps", "_law_i", "_law_j", "_law_number", "_law_saying_here"] (defScope sWaysT) := ⟨rfl, rfl, rfl, by decide +kernel, rfl, by decide +kernel, by decide +kernel⟩
theorem ok_waysT (F : Fun K "_law_ways_of_tie" "_law_ways_of_tie" sWaysT f fd)
  (Gsz : FnOk P w K mg base CX0 6 a1 d1 ["_law_kind_here"] (spSize 5)) (bGsz : Binds K d1 ["_law_kind_here"] []) (kGsz : PySem.W.keepIn K (.ref a1) = true) (mGsz : mg "_law_size" = some (.ref a1)) :
  FnOk P w K mg base CX0 7 f fd ["_law_steps", "_law_i", "_law_j", "_law_number", "_law_saying_here"] spWaysT := by
 refine F.ok scWaysT (fun vs H Q E h => ?_) (fun cdv A outer s H vs Q E hr h => ?_)
 ·obtain ⟨L, ls, i, j, n, vy, xs, ss, si, sj, x, r, y, sy, rfl, _⟩ := h; rfl
 obtain ⟨L, ls, i, j, n, vy, xs, ss, si, sj, x, r, y, sy, rfl, hL, hls, hst, hi, hj, ef, oi, oj, isy, ds, q⟩ := h
 have hrsz := hr
 refine ⟨_, @pss_cons _ _ _ _ _ (by exact ps_set (i := 5) scWaysT.nd rfl (Or.inl rfl) (pe_ix ix_tup (pe_ix ix_list (pv 0) (pv 1) (fun _ _ => rfl)) pe_int (fun _ _ => rfl)))
  (@pss_cons _ _ _ _ _ (by exact ps_set (i := 6) scWaysT.nd rfl (Or.inl rfl) (pe_ix ix_tup (pe_ix ix_list (pv 0) (pv 2) (fun _ _ => rfl)) pe_int (fun _ _ => rfl)))
  (@pss_cons _ _ _ _ _ (by exact ps_set (i := 7) scWaysT.nd rfl (Or.inl rfl) (pe_ix ix_tup (pv 5) pe_int (fun _ _ => rfl)))
  (@pss_cons _ _ _ _ _ (by exact ps_set (i := 8) scWaysT.nd rfl (Or.inl rfl) (pe_lst pa_nil))
  (@pss_mid _ _ _ _ _ (by exact ps_if (PW.pt (pw_and (pt_cmpR op_eq (pe_ix ix_tup (pv 4) pe_int (fun _ _ => rfl)) pe_str (nomark _)) (pw_and1 (pt_cmpR (op_eqX hr.units) (pe_ix ix_tup (pv 4) pe_int (fun _ _ => rfl)) (pe_ix ix_tup (pv 5) pe_int (fun _ _ => rfl)) (nomark _))))) (@pss_one _ _ _ (by exact ps_expr (pe_bm PySem.F.plainAttrs_list PySem.F.slot_list_append PySem.F.type_list_append mt_append (pv 8) (@pa_consN _ _ _ _ _ (@pe_tup _ _ _ _ _ (@pa_consN _ _ _ _ _ (@pe_tup _ _ _ _ _ (pa_cons pe_str (pa_cons (pv 7) (pa_cons (pe_ix ix_tup (pv 4) pe_int (fun _ _ => rfl)) (pa_cons (pe_ix ix_tup (pv 5) pe_int (fun _ _ => rfl)) pa_nil))))) (@pa_consN _ _ _ _ _ pe_str (@pa_consN _ _ _ _ _ (pe_lst (pa_cons (pv 1) pa_nil)) (@pa_consN _ _ _ _ _ (pv 3) pa_nil rfl) rfl) rfl) rfl)) pa_nil rfl)))) pss_nil)
  (@pss_cons _ _ _ _ _ (by exact ps_if (pt_cmpR (op_neX hr.units) (pe_ix ix_tup (pv 6) pe_int (fun _ _ => rfl)) (pe_ix ix_tup (pv 5) pe_int (fun _ _ => rfl)) (nomark _)) (@pss_one _ _ _ (by exact @ps_ret _ _ _ _ (pv 8))) pss_nil)
  (@pss_mid _ _ _ _ _ (by exact ps_if (PW.pt (pw_and (pt_cmpR op_eq (pe_ix ix_tup (pv 6) pe_int (fun _ _ => rfl)) pe_str (nomark _)) (pw_and1 (pt_cmpR op_lt (pe_call Gsz hrsz rfl mGsz kGsz bGsz .nil pass0 (pa_cons (pe_ix ix_tup (pv 6) pe_int (fun _ _ => rfl)) pa_nil)) pe_int (nomark _))))) (@pss_one _ _ _ (by exact ps_expr (pe_bm PySem.F.plainAttrs_list PySem.F.slot_list_append PySem.F.type_list_append mt_append (pv 8) (@pa_consN _ _ _ _ _ (@pe_tup _ _ _ _ _ (@pa_consN _ _ _ _ _ (@pe_tup _ _ _ _ _ (@pa_consN _ _ _ _ _ pe_str (@pa_consN _ _ _ _ _ (pv 7) (@pa_consN _ _ _ _ _ (@pe_tup _ _ _ _ _ (pa_cons pe_str (pa_cons (pe_ix ix_tup (pv 5) pe_int (fun _ _ => rfl)) (pa_cons (pe_ix ix_tup (pv 6) pe_int (fun _ _ => rfl)) pa_nil)))) pa_nil rfl) rfl) rfl)) (@pa_consN _ _ _ _ _ pe_str (@pa_consN _ _ _ _ _ (pe_lst (pa_cons (pv 1) (pa_cons (pv 2) pa_nil))) (@pa_consN _ _ _ _ _ pe_non pa_nil rfl) rfl) rfl) rfl)) pa_nil rfl)))) pss_nil)
  (@pss_mid _ _ _ _ _ (by exact ps_if (PW.pt (pw_and (pt_cmpR op_eq (pe_ix ix_tup (pv 6) pe_int (fun _ _ => rfl)) pe_str (nomark _)) (pw_and1 (pt_cmpR (op_eqX hr.units) (pe_ix ix_tup (pv 6) pe_int (fun _ _ => rfl)) pe_str (nomark _))))) (@pss_one _ _ _ (by exact ps_expr (pe_bm PySem.F.plainAttrs_list PySem.F.slot_list_append PySem.F.type_list_append mt_append (pv 8) (@pa_consN _ _ _ _ _ (@pe_tup _ _ _ _ _ (@pa_consN _ _ _ _ _ (@pe_tup _ _ _ _ _ (pa_cons pe_str (pa_cons (pv 7) (pa_cons pe_str pa_nil)))) (@pa_consN _ _ _ _ _ pe_str (@pa_consN _ _ _ _ _ (pe_lst (pa_cons (pv 1) (pa_cons (pv 2) pa_nil))) (@pa_consN _ _ _ _ _ pe_non pa_nil rfl) rfl) rfl) rfl)) pa_nil rfl)))) pss_nil)
  (@pss_mid _ _ _ _ _ (by exact ps_if (PW.pt (pw_and (pt_cmpR op_eq (pe_ix ix_tup (pv 6) pe_int (fun _ _ => rfl)) pe_str (nomark _)) (pw_and1 (pt_cmpR (op_eqX hr.units) (pe_slice sl_tupW (pv 4) po_none (po_some pe_int)) (@pe_tup _ _ _ _ _ (pa_cons pe_str (pa_cons (pe_ix ix_tup (pv 5) pe_int (fun _ _ => rfl)) (pa_cons (pe_ix ix_tup (pv 6) pe_int (fun _ _ => rfl)) pa_nil)))) (nomark _))))) (@pss_one _ _ _ (by exact ps_expr (pe_bm PySem.F.plainAttrs_list PySem.F.slot_list_append PySem.F.type_list_append mt_append (pv 8) (@pa_consN _ _ _ _ _ (@pe_tup _ _ _ _ _ (@pa_consN _ _ _ _ _ (@pe_tup _ _ _ _ _ (pa_cons pe_str (pa_cons (pv 7) (pa_cons (pe_ix ix_tup (pv 4) pe_int (fun _ _ => rfl)) (pa_cons (pe_ix ix_tup (pv 6) pe_int (fun _ _ => rfl)) pa_nil))))) (@pa_consN _ _ _ _ _ pe_str (@pa_consN _ _ _ _ _ (pe_lst (pa_cons (pv 1) (pa_cons (pv 2) pa_nil))) (@pa_consN _ _ _ _ _ (pv 3) pa_nil rfl) rfl) rfl) rfl)) pa_nil rfl)))) pss_nil)
  (@pss_one _ _ _ (by exact @ps_ret _ _ _ _ (pv 8))))))))))), ?_⟩
 obtain ⟨vi, ei, pi, fi, fvi, rfl, hpi, ifi, _, _⟩ := paired_get2 hst hi
 rw [ef] at ifi oi
 obtain ⟨pf, vx, vy, rfl, hpf, ix, iy⟩ := ifi
 obtain ⟨vj, ej, pj, fj, fvj, rfl, hpj, ifj, _, _⟩ := paired_get2 hst hj
 obtain ⟨py, vs', rfl, hpy, kly⟩ := isy
 obtain ⟨dx, ny⟩ : dk x ∧ y.nt ≤ 4 := oi
 refine ⟨_, rfl, _, rfl, ls, _, _, _, rfl, rfl, SqL.of hls, atI_nat ei, pi, _, _, _, rfl, rfl, SqT.of hpi, rfl, ?_⟩
 refine ⟨_, rfl, _, rfl, ls, _, _, _, rfl, rfl, SqL.of hls, atI_nat ej, pj, _, _, _, rfl, rfl, SqT.of hpj, rfl, ?_⟩
 refine ⟨_, rfl, pf, _, _, _, rfl, rfl, SqT.of hpf, rfl, ?_⟩
 refine ⟨Nat.zero_le _, fun l hl => ?_⟩
 have hL0 := Md.keep hl hL
 have t0 : Tups H (upd H l (.lst [])) := (same_new hl _).tups
 have m0 : Md L l (upd H l (.lst [])) (upd H l (.lst [])) 0 [] [] := Md.new hl
 generalize hH0 : upd H l (.lst []) = H0 at t0 hL0 m0 ⊢
 have fin : ∀ {H' mv ms}, Md L l H0 H' 6 mv ms → Q (.ref l) H' := fun m => Md.fin hl q (by rw [hH0]; exact m)
 have sz : ∀ {H' mv ms c}, c ≤ 6 → Md L l H0 H' c mv ms → mv.length < sizeLine := fun hc m => small1000 (by have := m.len; have := StL.len m.st; omega)
 refine ⟨fun σ H' => ∃ mv ms, σ = [some (.ref ls), some (.int (i : Int)), some (.int (j : Int)), some (.int n), some (.ref py), some (.ref pf), some fvj, some vx, some (.ref l)] ∧ Md L l H0 H' 1 mv ms, ?_, ?_⟩
 ·refine ⟨_, rfl, py, _, 0, _, rfl, rfl, SqT.of (t0 _ _ hpy), atI_nat (j := 0) rfl, rfl, _, rfl, ?_⟩
  rw [hd_dec sy .within "within" rfl (by decide)]
  refine ite2 (fun c => ?_) (fun c => iteF ⟨_, _, rfl, m0.le (by decide)⟩)
  obtain ⟨a, b, rfl⟩ := hd_within (of_decide_eq_true c)
  obtain ⟨va, vb, rfl, ia, ib⟩ := kl_two kly
  cases ia
  cases ib
  refine ⟨_, rfl, py, _, _, _, rfl, rfl, SqT.of (t0 _ _ hpy), rfl, _, rfl, pf, _, _, _, rfl, rfl, SqT.of (t0 _ _ hpf), rfl, .str a, .str r, rfl, rfl, Nat.zero_le _, _, rfl, ite2 (fun _ => ?_) (fun _ => ⟨_, _, rfl, m0.le (by decide)⟩)⟩
  refine ⟨_, rfl, .inl ⟨rfl, _, SqL.of m0.e⟩, _, rfl, _, rfl, py, _, _, _, rfl, rfl, SqT.of (t0 _ _ hpy), rfl, _, rfl, pf, _, _, _, rfl, rfl, SqT.of (t0 _ _ hpf), rfl, le4, fun q1 h1 => ⟨_, rfl, le1, fun p1 h2 => ⟨_, rfl, le4, fun q2 h3 => ?_⟩⟩⟩
  obtain ⟨s1, s2, g1, g2, g3⟩ := three (T2 := [.ref q1, .str "within", .ref p1, .int n]) h1 h2 h3
  have f1 := (hasF_new (t := b) h1 (ix.mono t0) (iy.mono t0)).mono s2.tups
  have m3 := m0.add (n := some n) (fr := [(i : Int)]) hL0 s1 g2 g1 g3 f1 ⟨dx, ny⟩ (by show 1 ≤ 2; decide)
  exact ⟨l, _, _, rfl, rfl, s1 _ _ m0.e, sz (by decide) m0, _, _, rfl, m3⟩
 rintro σ H1 ⟨mv1, ms1, rfl, m1⟩
 have t1 := t0.trans m1.k.tups
 cases hfj : sj.f with
 | is x2 k2 =>
  rw [hfj] at ifj oj
  obtain ⟨pj2, vx2, vk2, rfl, hpj2, ix2, ik2⟩ := ifj
  obtain ⟨dx2, nk2⟩ : dk x2 ∧ k2.nt ≤ 4 := oj
  have dk24 : k2.dep ≤ 4 := Nat.le_trans (dep_le_nt k2) nk2
  refine ⟨_, rfl, pj2, _, _, _, rfl, rfl, SqT.of (t1 _ _ hpj2), rfl, _, rfl, pf, _, _, _, rfl, rfl, SqT.of (t1 _ _ hpf), rfl, x2.tx, y.tx, (ix2.mono t1).xa, (iy.mono t1).xa, by rw [Kd.tx_dp]; have := dx2.1; omega, _, rfl, ite2 (fun _ => ?_) (fun _ => ?_)⟩
  ·exact ⟨_, rfl, fin (m1.le (by decide))⟩
  refine ⟨fun σ H' => ∃ mv ms, σ = [some (.ref ls), some (.int (i : Int)), some (.int (j : Int)), some (.int n), some (.ref py), some (.ref pf), some (.ref pj2), some vx, some (.ref l)] ∧ Md L l H0 H' 2 mv ms, ?_, ?_⟩
  ·refine ⟨_, rfl, pj2, _, _, _, rfl, rfl, SqT.of (t1 _ _ hpj2), rfl, rfl, _, rfl, ?_⟩
   rw [is_is]
   refine iteT ⟨_, rfl, pj2, _, _, _, rfl, rfl, SqT.of (t1 _ _ hpj2), rfl, vk2, k2, rfl, ik2.mono t1, by omega, _, _, rfl, rfl, _, rfl, ite2 (fun c => ?_) (fun _ => ⟨_, _, rfl, m1.le (by decide)⟩)⟩
   have c4 : (k2.nt : Int) < 4 := of_decide_eq_true c
   refine ⟨_, rfl, .inl ⟨rfl, _, SqL.of m1.e⟩, _, rfl, _, rfl, pf, _, _, _, rfl, rfl, SqT.of (t1 _ _ hpf), rfl, _, rfl, pj2, _, _, _, rfl, rfl, SqT.of (t1 _ _ hpj2), rfl, le3, fun q0 h0 => ⟨le3, fun q1 h1 => ⟨_, rfl, _, rfl, le2, fun p1 h2 => ⟨le4, fun q2 h3 => ?_⟩⟩⟩⟩
   have s0 := same_new h0 (.tup [.str "some", .str r, vk2])
   have t4 := t1.trans s0.tups
   obtain ⟨s1, s2, g1, g2, g3⟩ := three (T2 := [.ref q1, .str "tie", .ref p1, .non]) h1 h2 h3
   have kb : IsK (upd H1 q0 (.tup [.str "some", .str r, vk2])) (.som r k2) (.ref q0) := ⟨q0, vk2, rfl, upd_same, ik2.mono t4⟩
   have f1 := (isF_new h1 (ix.mono t4) kb).mono s2.tups
   have m4 := (m1.same s0).add (n := none) (fr := [(i : Int), (j : Int)]) hL0 s1 g2 g1 g3 f1 ⟨dx, by show 1 + k2.nt ≤ 4; omega⟩ (by show 2 ≤ 2; decide)
   exact ⟨l, _, _, rfl, rfl, s1 _ _ (s0 _ _ m1.e), sz (by decide) m1, _, _, rfl, m4⟩
  rintro σ H2 ⟨mv2, ms2, rfl, m2⟩
  have t2 := t0.trans m2.k.tups
  refine ⟨fun σ H' => ∃ mv ms, σ = [some (.ref ls), some (.int (i : Int)), some (.int (j : Int)), some (.int n), some (.ref py), some (.ref pf), some (.ref pj2), some vx, some (.ref l)] ∧ Md L l H0 H' 3 mv ms, ?_, ?_⟩
  ·refine ⟨_, rfl, pj2, _, _, _, rfl, rfl, SqT.of (t2 _ _ hpj2), rfl, rfl, _, rfl, ?_⟩
   rw [is_is]
   refine iteT ⟨_, rfl, pj2, _, _, _, rfl, rfl, SqT.of (t2 _ _ hpj2), rfl, k2.tx, .str "nothing", (ik2.mono t2).xa, rfl, by rw [Kd.tx_dp]; omega, _, rfl, ite2 (fun _ => ?_) (fun _ => ⟨_, _, rfl, m2.le (by decide)⟩)⟩
   refine ⟨_, rfl, .inl ⟨rfl, _, SqL.of m2.e⟩, _, rfl, le3, fun q1 h1 => ⟨_, rfl, _, rfl, le2, fun p1 h2 => ⟨le4, fun q2 h3 => ?_⟩⟩⟩
   obtain ⟨s1, s2, g1, g2, g3⟩ := three (T2 := [.ref q1, .str "none", .ref p1, .non]) h1 h2 h3
   have f1 := (isF_new h1 (ix.mono t2) (show IsK _ (.nm "nothing") (.str "nothing") from rfl)).mono s2.tups
   have m4 := m2.add (n := none) (fr := [(i : Int), (j : Int)]) hL0 s1 g2 g1 g3 f1 ⟨dx, Nat.zero_le _⟩ (by show 2 ≤ 2; decide)
   exact ⟨l, _, _, rfl, rfl, s1 _ _ m2.e, sz (by decide) m2, _, _, rfl, m4⟩
  rintro σ H3 ⟨mv3, ms3, rfl, m3⟩
  have t3 := t0.trans m3.k.tups
  refine ⟨fun σ H' => ∃ mv ms, σ = [some (.ref ls), some (.int (i : Int)), some (.int (j : Int)), some (.int n), some (.ref py), some (.ref pf), some (.ref pj2), some vx, some (.ref l)] ∧ Md L l H0 H' 4 mv ms, ?_, ?_⟩
  ·refine ⟨_, rfl, pj2, _, _, _, rfl, rfl, SqT.of (t3 _ _ hpj2), rfl, rfl, _, rfl, ?_⟩
   rw [is_has']
   exact iteF (iteF ⟨_, _, rfl, m3.le (by decide)⟩)
  rintro σ H4 ⟨mv4, ms4, rfl, m4⟩
  exact ⟨_, rfl, fin (m4.le (by decide))⟩
 | has x2 r2 y2 =>
  rw [hfj] at ifj oj
  obtain ⟨pj2, vx2, vy2, rfl, hpj2, ix2, iy2⟩ := ifj
  obtain ⟨dx2, ny2⟩ : dk x2 ∧ y2.nt ≤ 4 := oj
  refine ⟨_, rfl, pj2, _, _, _, rfl, rfl, SqT.of (t1 _ _ hpj2), rfl, _, rfl, pf, _, _, _, rfl, rfl, SqT.of (t1 _ _ hpf), rfl, x2.tx, y.tx, (ix2.mono t1).xa, (iy.mono t1).xa, by rw [Kd.tx_dp]; have := dx2.1; omega, _, rfl, ite2 (fun _ => ?_) (fun _ => ?_)⟩
  ·exact ⟨_, rfl, fin (m1.le (by decide))⟩
  refine ⟨fun σ H' => ∃ mv ms, σ = [some (.ref ls), some (.int (i : Int)), some (.int (j : Int)), some (.int n), some (.ref py), some (.ref pf), some (.ref pj2), some vx, some (.ref l)] ∧ Md L l H0 H' 1 mv ms, ?_, ?_⟩
  ·refine ⟨_, rfl, pj2, _, _, _, rfl, rfl, SqT.of (t1 _ _ hpj2), rfl, rfl, _, rfl, ?_⟩
   rw [has_is']
   exact iteF (iteF ⟨_, _, rfl, m1⟩)
  rintro σ H2 ⟨mv2, ms2, rfl, m2⟩
  have t2 := t0.trans m2.k.tups
  refine ⟨fun σ H' => ∃ mv ms, σ = [some (.ref ls), some (.int (i : Int)), some (.int (j : Int)), some (.int n), some (.ref py), some (.ref pf), some (.ref pj2), some vx, some (.ref l)] ∧ Md L l H0 H' 1 mv ms, ?_, ?_⟩
  ·refine ⟨_, rfl, pj2, _, _, _, rfl, rfl, SqT.of (t2 _ _ hpj2), rfl, rfl, _, rfl, ?_⟩
   rw [has_is']
   exact iteF (iteF ⟨_, _, rfl, m2⟩)
  rintro σ H3 ⟨mv3, ms3, rfl, m3⟩
  have t3 := t0.trans m3.k.tups
  refine ⟨fun σ H' => ∃ mv ms, σ = [some (.ref ls), some (.int (i : Int)), some (.int (j : Int)), some (.int n), some (.ref py), some (.ref pf), some (.ref pj2), some vx, some (.ref l)] ∧ Md L l H0 H' 4 mv ms, ?_, ?_⟩
  ·refine ⟨_, rfl, pj2, _, _, _, rfl, rfl, SqT.of (t3 _ _ hpj2), rfl, rfl, _, rfl, ?_⟩
   rw [has_has]
   refine iteT ⟨_, rfl, 3, rfl, pre3_cut (t3 _ _ hpy) (KL.mono t3 kly) fun v H4 s4 hv => ?_⟩
   have t4 := t3.trans s4.tups
   have m4 := m3.same s4
   refine ⟨_, rfl, pf, _, _, _, rfl, rfl, SqT.of (t4 _ _ hpf), rfl, _, rfl, pj2, _, _, _, rfl, rfl, SqT.of (t4 _ _ hpj2), rfl, le3, fun q0 h0 => ?_⟩
   have s5 := same_new h0 (.tup [.str "makes", .str r, .str r2])
   have t5 := t4.trans s5.tups
   have m5 := m4.same s5
   refine ⟨pre3 sy, .tup [.str "makes", .str r, .str r2], xaMono hv s5, ⟨q0, _, rfl, upd_same, _, _, rfl, rfl, _, _, rfl, rfl, _, _, rfl, rfl, rfl⟩, pre3_dp (dS.okS ds).2, _, rfl, ?_⟩
   rw [pre3_dec]
   cases sy with
   | makes a b c =>
    refine ite2 (fun _ => ?_) (fun _ => ⟨_, _, rfl, m5.le (by decide)⟩)
    obtain ⟨va, vb, vc, rfl, ia, ib, ic⟩ := kl_three kly
    cases ic
    refine ⟨_, rfl, .inl ⟨rfl, _, SqL.of m5.e⟩, _, rfl, _, rfl, py, _, _, _, rfl, rfl, SqT.of (t5 _ _ hpy), rfl, _, rfl, pj2, _, _, _, rfl, rfl, SqT.of (t5 _ _ hpj2), rfl, le4, fun q1 h1 => ⟨_, rfl, _, rfl, le2, fun p1 h2 => ⟨_, rfl, le4, fun q2 h3 => ?_⟩⟩⟩
    obtain ⟨s1, s2, g1, g2, g3⟩ := three (T2 := [.ref q1, .str "makes", .ref p1, .int n]) h1 h2 h3
    have f1 := (hasF_new (t := c) h1 (ix.mono t5) (iy2.mono t5)).mono s2.tups
    have m6 := m5.add (n := some n) (fr := [(i : Int), (j : Int)]) hL0 s1 g2 g1 g3 f1 ⟨dx, ny2⟩ (by show 2 ≤ 2; decide)
    exact ⟨l, _, _, rfl, rfl, s1 _ _ m5.e, sz (by decide) m5, _, _, rfl, m6.le (by decide)⟩
   | _ => exact iteF ⟨_, _, rfl, m5.le (by decide)⟩
  rintro σ H4 ⟨mv4, ms4, rfl, m4⟩
  exact ⟨_, rfl, fin (m4.le (by decide))⟩
end
end K17
namespace K17
open PySem L2
def endStp (L : List Addr) (b : Addr) (H : Hp) (Q : VK) : Prop := ∀ (v : V) (H' : Hp) (st : Stp) (x' y' : Int), Kp [b] H H' → H' b = some (.lst [.int x', .int y']) → IsStp L H' st v → okE st.f → st.fr.length ≤ 2 → Q v H'
def spPlain : Sp := fun vs H Q _ => ∃ (L : List Addr) (b lp lk lt lh : Addr) (x y : Int) (ys : List V) (ps : List (Int × Sy)) (ws ts hs : List Str), vs = [.ref b, .ref lp, .ref lk, .ref lt] ∧ (∀ a ∈ L, H a ≠ none) ∧ H b = some (.lst [.int x, .int y]) ∧ H lp = some (.lst ys) ∧ lp ≠ b ∧ PrL H ys ps ∧ 0 < ps.length ∧ ps.length ≤ 100 ∧ (∀ q ∈ ps, dS q.2) ∧ Env H b lk lt lh ws ts hs ∧ endStp L b H Q
theorem stp_fin {L : List Addr} {b : Addr} {H H' H1 : Hp} {Q : VK} {x' y' : Int} {t p : Addr} {vf : V} {f : Fa} {r : Str} {fr : List Int} {n : Option Int} (q : endStp L b H Q) (hL : ∀ a ∈ L, H a ≠ none) (k : Kp [b] H H') (b' : H' b = some (.lst [.int x', .int y'])) (s : Same H' H1)
  (g2 : H1 t = some (.tup [vf, .str r, .ref p, numV n])) (g1 : H1 p = some (.lst (fr.map V.int))) (np : H' p = none) (f1 : IsF H1 f vf) (of : okE f) (lf : fr.length ≤ 2) : Q (.ref t) H1 :=
 q _ _ ⟨f, r, fr, n⟩ _ _ (k.trans (.of s)) (s _ _ b') ⟨t, p, vf, rfl, g2, f1, g1, fun z => by
  have npb : p ≠ b := fun e => by rw [e, b'] at np; cases np
  cases c : H p with
  | none => exact hL p z c
  | some o => rw [k.but p o (one_not npb) c] at np; cases np⟩ of lf
theorem pr_at {H : Hp} {ys : List V} {ps : List (Int × Sy)} {r : Int} (h : PrL H ys ps) (r0 : 0 ≤ r) (rm : r < (ys.length : Int)) : ∃ v q, atI ys r = some v ∧ q ∈ ps ∧ IsPr H q v := by
 have hn : r.toNat < ys.length := by omega
 obtain ⟨q, hq, iq⟩ := paired_get h (List.getElem?_eq_getElem hn)
 have e := atI_nat (List.getElem?_eq_getElem hn)
 rw [show ((r.toNat : Nat) : Int) = r by omega] at e
 exact ⟨_, q, e, List.mem_of_getElem? hq, iq⟩
section
variable {P : Program} {w : World} {K : PySem.W.Frag} {mg : Str → Option Value} {base : Heap} {f g e a1 a2 a3 a4 a5 a6 a7 a8 : Addr} {fd gd' ed d1 d2 d3 d4 d5 d6 d7 d8 : FuncData}
theorem scPlain : FnScope ["_law_bag", "_law_pairs", "_law_kin", "_law_ties", "_law_number", "_law_saying_here", "_law_way", "_law_x"] ["_law_bag", "_law_pairs", "_law_kin", "_law_ties"] (defScope sPlain) := ⟨rfl, rfl, rfl, by decide +kernel, rfl, by decide +kernel, by decide +kernel⟩
theorem ok_plain (F : Fun K "_law_plain_step" "_law_plain_step" sPlain f fd) (ml : mg "len" = none)
  (Gdr : FnOk P w K mg base CX0 1 a1 d1 ["_law_bag", "_law_many"] spDraw) (bGdr : Binds K d1 ["_law_bag", "_law_many"] []) (kGdr : PySem.W.keepIn K (.ref a1) = true) (mGdr : mg "_law_draw" = some (.ref a1))
  (Gk : FnOk P w K mg base CX0 4 a2 d2 ["_law_bag", "_law_kin", "_law_ties", "_law_deep"] (spKind 3)) (bGk : Binds K d2 ["_law_bag", "_law_kin", "_law_ties", "_law_deep"] []) (kGk : PySem.W.keepIn K (.ref a2) = true) (mGk : mg "_law_kind" = some (.ref a2))
  (Gsg : FnOk P w K mg base CX0 1 a3 d3 ["_law_x"] spSingle) (bGsg : Binds K d3 ["_law_x"] []) (kGsg : PySem.W.keepIn K (.ref a3) = true) (mGsg : mg "_law_single" = some (.ref a3)) :
  FnOk P w K mg base CX0 5 f fd ["_law_bag", "_law_pairs", "_law_kin", "_law_ties"] spPlain := by
 refine F.ok scPlain (fun vs H Q E h => ?_) (fun cdv A outer s H vs Q E hr h => ?_)
 ·obtain ⟨L, b, lp, lk, lt, lh, x, y, ys, ps, ws, ts, hs, rfl, _⟩ := h; rfl
 obtain ⟨L, b, lp, lk, lt, lh, x, y, ys, ps, ws, ts, hs, rfl, hL, hb, hlp, npb, hps, ps0, ps1, dps, en, q⟩ := h
 have hrdr := hr.mono (show 1 ≤ 4 by decide)
 have hrk := hr
 have hrsg := hr.mono (show 1 ≤ 4 by decide)
 refine ⟨_, @pss_cons _ _ _ _ _ (by exact ps_asg (pe_ix ix_list (pv 1) (pe_call Gdr hrdr rfl mGdr kGdr bGdr .nil pass0 (pa_cons (pv 0) (pa_cons (pe_callB call_len_seq rfl ml PySem.boot_len (pa_cons (pv 1) pa_nil)) pa_nil))) (fun _ _ => rfl)) (pg_tup rfl (pgs_cons (pg_name (i := 4) scPlain.nd rfl (Or.inl rfl)) (pgs_cons (pg_name (i := 5) scPlain.nd rfl (Or.inl rfl)) pgs_nil))))
  (@pss_cons _ _ _ _ _ (by exact ps_set (i := 6) scPlain.nd rfl (Or.inl rfl) (pe_call Gdr hrdr rfl mGdr kGdr bGdr .nil pass0 (pa_cons (pv 0) (pa_cons pe_int pa_nil))))
  (@pss_mid _ _ _ _ _ (by exact ps_if (PW.pt (pw_and (pt_cmpR op_eq (pe_ix ix_tup (pv 5) pe_int (fun _ _ => rfl)) pe_str (nomark _)) (pw_and1 (pt_cmpR op_gt (pv 6) pe_int (nomark _))))) (@pss_one _ _ _ (by exact @ps_ret _ _ _ _ (@pe_tup _ _ _ _ _ (@pa_consN _ _ _ _ _ (@pe_tup _ _ _ _ _ (pa_cons pe_str (pa_cons (pe_ix ix_tup (pv 5) pe_int (fun _ _ => rfl)) (pa_cons (pe_ix ix_tup (pv 5) pe_int (fun _ _ => rfl)) pa_nil)))) (@pa_consN _ _ _ _ _ pe_str (@pa_consN _ _ _ _ _ (pe_lst pa_nil) (@pa_consN _ _ _ _ _ (pv 4) pa_nil rfl) rfl) rfl) rfl)))) pss_nil)
  (@pss_mid _ _ _ _ _ (by exact ps_if (PW.pt (pw_and (pt_cmpR op_eq (pe_ix ix_tup (pv 5) pe_int (fun _ _ => rfl)) pe_str (nomark _)) (pw_and1 (pt_cmpR op_gt (pv 6) pe_int (nomark _))))) (@pss_one _ _ _ (by exact @ps_ret _ _ _ _ (@pe_tup _ _ _ _ _ (pa_cons (pe_op op_catT (@pe_tup _ _ _ _ _ (pa_cons pe_str pa_nil)) (pe_slice sl_tup (pv 5) (po_some pe_int) po_none)) (pa_cons pe_str (pa_cons (pe_lst pa_nil) (pa_cons (pv 4) pa_nil))))))) pss_nil)
  (@pss_cons _ _ _ _ _ (by exact ps_set (i := 7) scPlain.nd rfl (Or.inl rfl) (pe_ix ix_tup (pv 5) pe_int (fun _ _ => rfl)))
  (@pss_mid _ _ _ _ _ (by exact ps_if (PW.pt (pw_or (pt_cmpR op_eq (pe_ix ix_tup (pv 5) pe_int (fun _ _ => rfl)) pe_str (nomark _)) (pw_or (pt_cmpR op_eq (pe_ix ix_tup (pv 5) pe_int (fun _ _ => rfl)) pe_str (nomark _)) (pw_or1 (pt_cmpR op_eq (pv 6) pe_int (nomark _)))))) (@pss_one _ _ _ (by exact ps_set (i := 7) scPlain.nd rfl (Or.inl rfl) (pe_call Gk hrk rfl mGk kGk bGk .nil pass0 (pa_cons (pv 0) (pa_cons (pv 2) (pa_cons (pv 3) (pa_cons pe_int pa_nil))))))) pss_nil)
  (@pss_cons _ _ _ _ _ (by exact ps_if (PW.pt (pw_or (pt_cmpR op_eq (pv 6) pe_int (nomark _)) (pw_or1 (pt_val (pe_call Gsg hrsg rfl mGsg kGsg bGsg .nil pass0 (pa_cons (pv 7) pa_nil)))))) (@pss_one _ _ _ (by exact @ps_ret _ _ _ _ (@pe_tup _ _ _ _ _ (@pa_consN _ _ _ _ _ (@pe_tup _ _ _ _ _ (pa_cons pe_str (pa_cons (pv 7) (pa_cons pe_str pa_nil)))) (@pa_consN _ _ _ _ _ pe_str (@pa_consN _ _ _ _ _ (pe_lst pa_nil) (@pa_consN _ _ _ _ _ pe_non pa_nil rfl) rfl) rfl) rfl)))) pss_nil)
  (@pss_one _ _ _ (by exact @ps_ret _ _ _ _ (@pe_tup _ _ _ _ _ (@pa_consN _ _ _ _ _ (@pe_tup _ _ _ _ _ (pa_cons pe_str (pa_cons (pv 7) (pa_cons (pv 7) pa_nil)))) (@pa_consN _ _ _ _ _ pe_str (@pa_consN _ _ _ _ _ (pe_lst pa_nil) (@pa_consN _ _ _ _ _ pe_non pa_nil rfl) rfl) rfl) rfl)))))))))), ?_⟩
 have lys := Paired.length hps
 refine ⟨_, rfl, _, rfl, _, rfl, lp, _, rfl, .inl (SqL.of hlp), b, x, _, [.int y], rfl, hb, by omega, fun x1 r r0 rm => ?_⟩
 obtain ⟨k1, b1⟩ := bag x1 hb
 generalize upd H b (.lst [.int x1, .int y]) = H1 at k1 b1 ⊢
 have hlp1 := k1.but _ _ (one_not npb) hlp
 obtain ⟨pv, ⟨n, sy⟩, ep, hq, pp, vsy, rfl, hpp, py, vs', rfl, hpy, kly⟩ := pr_at (PrL.mono k1.tups hps) r0 rm
 have ds : dS sy := dps _ hq
 refine ⟨lp, _, _, _, rfl, rfl, SqL.of hlp1, ep, pp, _, rfl, SqT.of hpp, rfl, _, _, rfl, _, _, rfl, rfl, ?_⟩
 refine ⟨_, rfl, b, x1, 4, [.int y], rfl, b1, by decide, fun x2 way _ _ => ?_⟩
 obtain ⟨k2, b2⟩ := bag x2 b1
 generalize upd H1 b (.lst [.int x2, .int y]) = H2 at k2 b2 ⊢
 have k02 := k1.trans k2
 have e2 := en.kp k02
 have hpy2 := k2.tups _ _ hpy
 have kly2 := KL.mono k2.tups kly
 refine ⟨fun σ H' => σ = [some (.ref b), some (.ref lp), some (.ref lk), some (.ref lt), some (.int n), some (.ref py), some (.int way), none] ∧ H' = H2, ?_, ?_⟩
 ·refine ⟨_, rfl, py, _, 0, _, rfl, rfl, SqT.of hpy2, atI_nat (j := 0) rfl, rfl, _, rfl, ?_⟩
  rw [hd_dec sy .thing "thing" rfl (by decide)]
  refine ite2 (fun c => ?_) (fun c => iteF ⟨rfl, rfl⟩)
  refine ⟨_, rfl, _, _, rfl, rfl, _, rfl, ite2 (fun _ => ?_) (fun _ => ⟨rfl, rfl⟩)⟩
  obtain ⟨a, k, rfl⟩ := hd_thing (of_decide_eq_true c)
  obtain ⟨va, vb, rfl, ia, ib⟩ := kl_two kly2
  obtain ⟨da, db⟩ : dk (.nm a) ∧ dn k := ds
  refine ⟨_, rfl, py, _, _, _, rfl, rfl, SqT.of hpy2, rfl, _, rfl, py, _, _, _, rfl, rfl, SqT.of hpy2, rfl, le3, fun q1 h1 => ⟨Nat.zero_le _, fun p1 h2 => ⟨_, rfl, le4, fun q2 h3 => ?_⟩⟩⟩
  obtain ⟨s1, s2, g1, g2, g3⟩ := three (T2 := [.ref q1, .str "thing", .ref p1, .int n]) h1 h2 h3
  exact stp_fin (n := some n) (fr := []) q hL k02 b2 s1 g2 g1 g3 ((isF_new h1 ia ib).mono s2.tups) ⟨da, by have := db.2; omega⟩ (Nat.zero_le _)
 rintro σ H2' ⟨rfl, rfl⟩
 refine ⟨fun σ H' => σ = [some (.ref b), some (.ref lp), some (.ref lk), some (.ref lt), some (.int n), some (.ref py), some (.int way), none] ∧ H' = H2', ?_, ?_⟩
 ·refine ⟨_, rfl, py, _, 0, _, rfl, rfl, SqT.of hpy2, atI_nat (j := 0) rfl, rfl, _, rfl, ?_⟩
  rw [hd_dec sy .tied "tied" rfl (by decide)]
  refine ite2 (fun c => ?_) (fun c => iteF ⟨rfl, rfl⟩)
  refine ⟨_, rfl, _, _, rfl, rfl, _, rfl, ite2 (fun _ => ?_) (fun _ => ⟨rfl, rfl⟩)⟩
  obtain ⟨z1, z2, z3, rfl⟩ := hd_tied (of_decide_eq_true c)
  obtain ⟨v1, v2, v3, rfl, i1, i2, i3⟩ := kl_three kly2
  obtain rfl : v2 = .str z2 := i2
  obtain ⟨da, db⟩ : dk (.nm z1) ∧ dk (.nm z3) := ds
  refine ⟨le1, fun t1 ht1 => ?_⟩
  have s1 := same_new ht1 (.tup [.str "has"])
  refine ⟨_, rfl, 1, rfl, py, _, rfl, SqT.of (s1 _ _ hpy2), sx1 _ _, fun t2 ht2 => ?_⟩
  rw [cut1]
  have s2 := same_new ht2 (.tup [v1, .str z2, v3])
  refine ⟨t1, t2, _, _, rfl, rfl, SqT.of (s2 _ _ upd_same), SqT.of upd_same, by simp, small2 (by show 1 + 3 ≤ 1000; decide), fun z => (by cases z), fun _ t3 ht3 => ?_⟩
  refine ⟨Nat.zero_le _, fun p1 h2 => ⟨_, rfl, le4, fun q2 h3 => ?_⟩⟩
  have s12 := s1.trans s2
  obtain ⟨s3, s4, g1, g2, g3⟩ := three (T1 := [.str "has"] ++ [v1, .str z2, v3]) (T2 := [.ref t3, .str "tied", .ref p1, .int n]) ht3 h2 h3
  have i3' : IsF _ (Fa.has (.nm z1) z2 (.nm z3)) (.ref t3) := hasF_new (H := upd (upd H2' t1 (.tup [.str "has"])) t2 (.tup [v1, .str z2, v3])) (t := z2) ht3 (i1.mono s12.tups) (i3.mono s12.tups)
  exact stp_fin (n := some n) (fr := []) q hL k02 b2 (s12.trans s3) g2 g1 (none_of_same s12 g3) (i3'.mono s4.tups) ⟨da, Nat.zero_le _⟩ (Nat.zero_le _)
 rintro σ H2'' ⟨rfl, rfl⟩
 obtain ⟨v0, vr, k0, kr, rfl, ek, ik0, dk0⟩ : ∃ (v0 : V) (vr : List V) (k0 : Kd) (kr : List Kd), vs' = v0 :: vr ∧ sy.parts = k0 :: kr ∧ IsK H2'' k0 v0 ∧ (sy.hd ≠ .within → sy.hd ≠ .makes → dn k0) := by
  cases sy with
  | every a c => obtain ⟨va, vb, rfl, ia, ib⟩ := kl_two kly2; exact ⟨va, _, a, _, rfl, rfl, ia, fun _ _ => ds.1⟩
  | no a c => obtain ⟨va, vb, rfl, ia, ib⟩ := kl_two kly2; exact ⟨va, _, a, _, rfl, rfl, ia, fun _ _ => ds.1⟩
  | thing a c => obtain ⟨va, vb, rfl, ia, ib⟩ := kl_two kly2; exact ⟨va, _, .nm a, _, rfl, rfl, ia, fun _ _ => ⟨ds.1, Nat.zero_le _⟩⟩
  | within a c => obtain ⟨va, vb, rfl, ia, ib⟩ := kl_two kly2; exact ⟨va, _, .nm a, _, rfl, rfl, ia, fun h _ => absurd rfl h⟩
  | tied a c d => obtain ⟨va, vb, vc, rfl, ia, ib, ic⟩ := kl_three kly2; exact ⟨va, _, .nm a, _, rfl, rfl, ia, fun _ _ => ⟨ds.1, Nat.zero_le _⟩⟩
  | makes a c d => obtain ⟨va, vb, vc, rfl, ia, ib, ic⟩ := kl_three kly2; exact ⟨va, _, .nm a, _, rfl, rfl, ia, fun _ h => absurd rfl h⟩
 refine ⟨_, rfl, py, _, 1, _, rfl, rfl, SqT.of hpy2, atI_nat (j := 1) rfl, ?_⟩
 refine ⟨fun σ H' => ∃ (vx : V) (kx : Kd) (x' y' : Int), σ = [some (.ref b), some (.ref lp), some (.ref lk), some (.ref lt), some (.int n), some (.ref py), some (.int way), some vx] ∧ Kp [b] H H' ∧ H' b = some (.lst [.int x', .int y']) ∧ IsK H' kx vx ∧ dn kx, ?_, ?_⟩
 ·refine ⟨_, rfl, py, _, 0, _, rfl, rfl, SqT.of hpy2, atI_nat (j := 0) rfl, rfl, _, rfl, ?_⟩
  rw [hd_dec sy .within "within" rfl (by decide)]
  refine ite2 (fun c1 => iteT ⟨_, rfl, _, rfl, _, rfl, b, lk, lt, x2, y, 0, ws, ts, 2, rfl, b2, e2.hk, e2.ht, e2.nk, e2.nt, e2.p1, e2.p2, e2.p3, e2.p4, by decide, fun v H3 kx x3 y3 k3 b3 i3 nt dp nm => ⟨v, kx, x3, y3, rfl, k02.trans k3, b3, i3, dn_kind nt dp nm en.dw⟩⟩) (fun c1 => ⟨_, rfl, py, _, 0, _, rfl, rfl, SqT.of hpy2, atI_nat (j := 0) rfl, rfl, _, rfl, ?_⟩)
  rw [hd_dec sy .makes "makes" rfl (by decide)]
  refine ite2 (fun c2 => iteT ⟨_, rfl, _, rfl, _, rfl, b, lk, lt, x2, y, 0, ws, ts, 2, rfl, b2, e2.hk, e2.ht, e2.nk, e2.nt, e2.p1, e2.p2, e2.p3, e2.p4, by decide, fun v H3 kx x3 y3 k3 b3 i3 nt dp nm => ⟨v, kx, x3, y3, rfl, k02.trans k3, b3, i3, dn_kind nt dp nm en.dw⟩⟩) (fun c2 => ⟨_, rfl, rfl, _, rfl, ite2 (fun _ => ⟨_, rfl, _, rfl, _, rfl, b, lk, lt, x2, y, 0, ws, ts, 2, rfl, b2, e2.hk, e2.ht, e2.nk, e2.nt, e2.p1, e2.p2, e2.p3, e2.p4, by decide, fun v H3 kx x3 y3 k3 b3 i3 nt dp nm => ⟨v, kx, x3, y3, rfl, k02.trans k3, b3, i3, dn_kind nt dp nm en.dw⟩⟩) (fun _ => ?_)⟩)
  exact ⟨v0, k0, x2, y, rfl, k02, b2, ik0, dk0 (fun z => c1 (decide_eq_true z)) (fun z => c2 (decide_eq_true z))⟩
 rintro σ H3 ⟨vx, kx, x3, y3, rfl, k03, b3, ix, dx⟩
 have all' : ∀ {q1 p1 q2 : Addr}, H3 q1 = none → upd H3 q1 (.tup [.str "is", vx, .str "anything"]) p1 = none → upd (upd H3 q1 (.tup [.str "is", vx, .str "anything"])) p1 (.lst []) q2 = none → Q (.ref q2) (upd (upd (upd H3 q1 (.tup [.str "is", vx, .str "anything"])) p1 (.lst [])) q2 (.tup [.ref q1, .str "all", .ref p1, .non])) := fun h1 h2 h3 => by
  obtain ⟨s1, s2, g1, g2, g3⟩ := three (T2 := [.ref _, .str "all", .ref _, .non]) h1 h2 h3
  exact stp_fin (n := none) (fr := []) q hL k03 b3 s1 g2 g1 g3 ((isF_new h1 ix (show IsK _ (.nm "anything") (.str "anything") from rfl)).mono s2.tups) ⟨dx.1, Nat.zero_le _⟩ (Nat.zero_le _)
 refine ⟨_, rfl, rfl, _, rfl, ite2 (fun _ => iteT ?_) (fun _ => ⟨_, rfl, vx, kx, rfl, ix, dx.1.2.2.1, _, rfl, ite2 (fun _ => ?_) (fun _ => ?_)⟩)⟩
 ·exact ⟨_, rfl, le3, fun q1 h1 => ⟨Nat.zero_le _, fun p1 h2 => ⟨le4, fun q2 h3 => all' h1 h2 h3⟩⟩⟩
 ·exact ⟨_, rfl, le3, fun q1 h1 => ⟨Nat.zero_le _, fun p1 h2 => ⟨le4, fun q2 h3 => all' h1 h2 h3⟩⟩⟩
 ·refine ⟨_, rfl, _, rfl, le3, fun q1 h1 => ⟨Nat.zero_le _, fun p1 h2 => ⟨le4, fun q2 h3 => ?_⟩⟩⟩
  obtain ⟨s1, s2, g1, g2, g3⟩ := three (T2 := [.ref q1, .str "self", .ref p1, .non]) h1 h2 h3
  exact stp_fin (n := none) (fr := []) q hL k03 b3 s1 g2 g1 g3 ((isF_new h1 ix ix).mono s2.tups) ⟨dx.1, by have := dx.2; omega⟩ (Nat.zero_le _)
end
end K17
namespace K17
open PySem L2
def spGrown : Sp := fun vs H Q _ => ∃ (L : List Addr) (b ls lp lk lt lh : Addr) (x y : Int) (xs : List V) (ss : List Stp) (ys : List V) (ps : List (Int × Sy)) (ws ts hs : List Str), vs = [.ref b, .ref ls, .ref lp, .ref lk, .ref lt] ∧ (∀ a ∈ L, H a ≠ none) ∧ H b = some (.lst [.int x, .int y]) ∧
 H ls = some (.lst xs) ∧ ls ≠ b ∧ StL [b] H xs ss ∧ ss.length ≤ 150 ∧ (∀ s ∈ ss, okE s.f) ∧ H lp = some (.lst ys) ∧ lp ≠ b ∧ PrL H ys ps ∧ 0 < ps.length ∧ ps.length ≤ 100 ∧ (∀ q ∈ ps, dS q.2) ∧ Env H b lk lt lh ws ts hs ∧ endStp L b H Q
theorem ndkms : ((([("_law_k" : Str)] : List Str) ++ [("_law_meet" : Str), ("_law_steps" : Str)]) : List Str).Nodup := by decide +kernel
theorem stp_at {L : List Addr} {H : Hp} {xs : List V} {ss : List Stp} {r : Int} (h : StL L H xs ss) (r0 : 0 ≤ r) (rm : r < (xs.length : Int)) : ∃ v q, atI xs r = some v ∧ ss[r.toNat]? = some q ∧ IsStp L H q v := by
 have hn : r.toNat < xs.length := by omega
 obtain ⟨q, hq, iq⟩ := paired_get h (List.getElem?_eq_getElem hn)
 have e := atI_nat (List.getElem?_eq_getElem hn)
 rw [show ((r.toNat : Nat) : Int) = r by omega] at e
 exact ⟨_, q, e, hq, iq⟩
theorem ints_at {js : List Int} {r : Int} (r0 : 0 ≤ r) (rm : r < (js.length : Int)) : ∃ j ∈ js, atI (js.map V.int) r = some (.int j) := by
 have hn : r.toNat < js.length := by omega
 have e := atI_nat (xs := js.map V.int) (j := r.toNat) (v := .int js[r.toNat]) (by rw [List.getElem?_map, List.getElem?_eq_getElem hn]; rfl)
 rw [show ((r.toNat : Nat) : Int) = r by omega] at e
 exact ⟨_, List.getElem_mem hn, e⟩
theorem okE.dx : ∀ {f : Fa}, okE f → dk f.x
 | .is _ _, h => h.1
 | .has _ _ _, h => h.1
theorem okE.shape {H : Hp} : ∀ {f : Fa} {v : V}, okE f → IsF H f v → ∃ (p : Addr) (T : List V) (va vl : V) (ka kl : Kd), v = .ref p ∧ H p = some (.tup T) ∧ atI T 0 = some (.str f.hs) ∧ atI T 1 = some va ∧ IsK H ka va ∧ ka.dep ≤ 4 ∧ atI T ((T.length : Int) - 1) = some vl ∧ IsK H kl vl ∧ kl.dep ≤ 4
 | .is x k, _, o, ⟨p, a, b, e, h, ia, ib⟩ => ⟨p, _, a, b, x, k, e, h, rfl, rfl, ia, Nat.le_trans o.1.1 (by decide), rfl, ib, Nat.le_trans (dep_le_nt k) o.2⟩
 | .has x _ y, _, o, ⟨p, a, b, e, h, ia, ib⟩ => ⟨p, _, a, b, x, y, e, h, rfl, rfl, ia, Nat.le_trans o.1.1 (by decide), rfl, ib, Nat.le_trans (dep_le_nt y) o.2⟩
section
variable {P : Program} {w : World} {K : PySem.W.Frag} {mg : Str → Option Value} {base : Heap} {f g e a1 a2 a3 a4 a5 a6 a7 a8 : Addr} {fd gd' ed d1 d2 d3 d4 d5 d6 d7 d8 : FuncData}
theorem scGrown : FnScope ["_law_bag", "_law_steps", "_law_pairs", "_law_kin", "_law_ties", "_law_made", "_law_i", "_law_one", "_law_meet", "_law_mates", "_law_j", "_law_number", "_law_saying_here"] ["_law_bag", "_law_steps", "_law_pairs", "_law_kin", "_law_ties"] (defScope sGrown) := ⟨rfl, rfl, rfl, by decide +kernel, rfl, by decide +kernel, by decide +kernel⟩
theorem ok_grown (F : Fun K "_law_grown" "_law_grown" sGrown f fd) (ml : mg "len" = none) (mr : mg "range" = none)
  (Gdr : FnOk P w K mg base CX0 1 a1 d1 ["_law_bag", "_law_many"] spDraw) (bGdr : Binds K d1 ["_law_bag", "_law_many"] []) (kGdr : PySem.W.keepIn K (.ref a1) = true) (mGdr : mg "_law_draw" = some (.ref a1))
  (Gwk : FnOk P w K mg base CX0 7 a2 d2 ["_law_steps", "_law_i", "_law_j", "_law_number", "_law_saying_here"] spWaysK) (bGwk : Binds K d2 ["_law_steps", "_law_i", "_law_j", "_law_number", "_law_saying_here"] []) (kGwk : PySem.W.keepIn K (.ref a2) = true) (mGwk : mg "_law_ways_of_kind" = some (.ref a2))
  (Gwt : FnOk P w K mg base CX0 7 a3 d3 ["_law_steps", "_law_i", "_law_j", "_law_number", "_law_saying_here"] spWaysT) (bGwt : Binds K d3 ["_law_steps", "_law_i", "_law_j", "_law_number", "_law_saying_here"] []) (kGwt : PySem.W.keepIn K (.ref a3) = true) (mGwt : mg "_law_ways_of_tie" = some (.ref a3))
  (Gpl : FnOk P w K mg base CX0 5 a4 d4 ["_law_bag", "_law_pairs", "_law_kin", "_law_ties"] spPlain) (bGpl : Binds K d4 ["_law_bag", "_law_pairs", "_law_kin", "_law_ties"] []) (kGpl : PySem.W.keepIn K (.ref a4) = true) (mGpl : mg "_law_plain_step" = some (.ref a4)) :
  FnOk P w K mg base CX0 8 f fd ["_law_bag", "_law_steps", "_law_pairs", "_law_kin", "_law_ties"] spGrown := by
 refine F.ok scGrown (fun vs H Q E h => ?_) (fun cdv A outer s H vs Q E hr h => ?_)
 ·obtain ⟨L, b, ls, lp, lk, lt, lh, x, y, xs, ss, ys, ps, ws, ts, hs, rfl, _⟩ := h; rfl
 obtain ⟨L, b, ls, lp, lk, lt, lh, x, y, xs, ss, ys, ps, ws, ts, hs, rfl, hL, hb, hls, nsb, hst, lss, oks, hlp, npb, hps, ps0, ps1, dps, en, q⟩ := h
 have hrdr := hr.mono (show 1 ≤ 7 by decide)
 have hrwk := hr
 have hrwt := hr
 have hrpl := hr.mono (show 5 ≤ 7 by decide)
 refine ⟨_, @pss_cons _ _ _ _ _ (by exact ps_set (i := 5) scGrown.nd rfl (Or.inl rfl) (pe_lst pa_nil))
  (@pss_mid _ _ _ _ _ (by exact ps_if (PW.pt (pw_and (pt_cmpR op_gt (pe_callB call_len_seq rfl ml PySem.boot_len (pa_cons (pv 1) pa_nil)) pe_int (nomark _)) (pw_and1 (pt_cmpR op_gt (pe_call Gdr hrdr rfl mGdr kGdr bGdr .nil pass0 (pa_cons (pv 0) (pa_cons pe_int pa_nil))) pe_int (nomark _))))) (@pss_cons _ _ _ _ _ (by exact ps_set (i := 6) scGrown.nd rfl (Or.inl rfl) (pe_call Gdr hrdr rfl mGdr kGdr bGdr .nil pass0 (pa_cons (pv 0) (pa_cons (pe_callB call_len_seq rfl ml PySem.boot_len (pa_cons (pv 1) pa_nil)) pa_nil)))) (@pss_cons _ _ _ _ _ (by exact ps_set (i := 7) scGrown.nd rfl (Or.inl rfl) (pe_ix ix_tup (pe_ix ix_list (pv 1) (pv 6) (fun _ _ => rfl)) pe_int (fun _ _ => rfl))) (@pss_cons _ _ _ _ _ (by exact ps_set (i := 8) scGrown.nd rfl (Or.inr rfl) (pe_ix ix_tup (pv 7) (pe_op op_sub (pe_callB call_len_seq rfl ml PySem.boot_len (pa_cons (pv 7) pa_nil)) pe_int) (fun _ _ => rfl))) (@pss_mid _ _ _ _ _ (by exact ps_if (pt_cmpR op_eq (pe_ix ix_tup (pv 7) pe_int (fun _ _ => rfl)) pe_str (nomark _)) (@pss_one _ _ _ (by exact ps_set (i := 8) scGrown.nd rfl (Or.inr rfl) (pe_ix ix_tup (pv 7) pe_int (fun _ _ => rfl)))) pss_nil) (@pss_cons _ _ _ _ _ (by exact ps_setC (i := 9) ["_law_k"] ["_law_meet", "_law_steps"] [8, 1] scGrown.nd rfl rfl (pi_range1 rfl mr (pa_cons (pe_callB call_len_seq rfl ml PySem.boot_len (pa_cons (pv 1) pa_nil)) pa_nil)) (fun _ _ _ => pg_name (i := 0) ndkms rfl (Or.inl rfl)) (fun _ _ _ => pts_one (pt_cmpR (op_eqX hr.units) (pe_ix (r := rIxT K) ix_tup (pe_ix (r := rIxT K) ix_tup (pe_ix (r := rIxL K) ix_list (pv 2) (pv 0) (fun _ _ => rfl)) pe_int (fun _ _ => rfl)) pe_int (fun _ _ => rfl)) (pv 1) (nomark _))) (fun _ _ _ => (pv 0))) (@pss_cons _ _ _ _ _ (by exact ps_set (i := 10) scGrown.nd rfl (Or.inl rfl) (pv 6)) (@pss_mid _ _ _ _ _ (by exact ps_if (pt_cmpR op_gt (pe_callB call_len_seq rfl ml PySem.boot_len (pa_cons (pv 9) pa_nil)) pe_int (nomark _)) (@pss_one _ _ _ (by exact ps_set (i := 10) scGrown.nd rfl (Or.inl rfl) (pe_ix ix_list (pv 9) (pe_call Gdr hrdr rfl mGdr kGdr bGdr .nil pass0 (pa_cons (pv 0) (pa_cons (pe_callB call_len_seq rfl ml PySem.boot_len (pa_cons (pv 9) pa_nil)) pa_nil))) (fun _ _ => rfl)))) pss_nil) (@pss_one _ _ _ (by exact ps_for PassesOwn.never rfl (pi_list (pv 2)) (pg_tup rfl (pgs_cons (pg_name (i := 11) scGrown.nd rfl (Or.inl rfl)) (pgs_cons (pg_name (i := 12) scGrown.nd rfl (Or.inl rfl)) pgs_nil))) (@pss_one _ _ _ (by exact ps_if (pt_cmpR op_eq (pe_ix ix_tup (pv 7) pe_int (fun _ _ => rfl)) pe_str (nomark _)) (@pss_one _ _ _ (by exact ps_set (i := 5) scGrown.nd rfl (Or.inl rfl) (pe_op op_cat (pv 5) (pe_call Gwk hrwk rfl mGwk kGwk bGwk .nil pass0 (pa_cons (pv 1) (pa_cons (pv 6) (pa_cons (pv 10) (pa_cons (pv 11) (pa_cons (pv 12) pa_nil))))))))) (@pss_one _ _ _ (by exact ps_set (i := 5) scGrown.nd rfl (Or.inl rfl) (pe_op op_cat (pv 5) (pe_call Gwt hrwt rfl mGwt kGwt bGwt .nil pass0 (pa_cons (pv 1) (pa_cons (pv 6) (pa_cons (pv 10) (pa_cons (pv 11) (pa_cons (pv 12) pa_nil)))))))))))))))))))) pss_nil)
  (@pss_cons _ _ _ _ _ (by exact ps_if (pt_cmpR op_gt (pe_callB call_len_seq rfl ml PySem.boot_len (pa_cons (pv 5) pa_nil)) pe_int (nomark _)) (@pss_one _ _ _ (by exact @ps_ret _ _ _ _ (pe_ix ix_list (pv 5) (pe_call Gdr hrdr rfl mGdr kGdr bGdr .nil pass0 (pa_cons (pv 0) (pa_cons (pe_callB call_len_seq rfl ml PySem.boot_len (pa_cons (pv 5) pa_nil)) pa_nil))) (fun _ _ => rfl)))) pss_nil)
  (@pss_one _ _ _ (by exact @ps_ret _ _ _ _ (pe_call Gpl hrpl rfl mGpl kGpl bGpl .nil pass0 (pa_cons (pv 0) (pa_cons (pv 2) (pa_cons (pv 3) (pa_cons (pv 4) pa_nil))))))))), ?_⟩
 have lxs := StL.len hst
 have lys := Paired.length hps
 refine ⟨Nat.zero_le _, fun lm hlm => ?_⟩
 have sm := same_new hlm (.lst [])
 have nmb : lm ≠ b := fun z => by rw [z, hb] at hlm; cases hlm
 have hL' : ∀ a ∈ b :: L, H a ≠ none := fun a ha => by
  rcases List.mem_cons.mp ha with rfl | ha
  ·rw [hb]; exact fun z => by cases z
  ·exact hL a ha
 refine ⟨fun σ H' => ∃ (lm' : Addr) (mv : List V) (ms : List Stp) (x' y' : Int) (o6 o7 o8 o9 o10 o11 o12 : Option V), σ = [some (.ref b), some (.ref ls), some (.ref lp), some (.ref lk), some (.ref lt), some (.ref lm'), o6, o7, o8, o9, o10, o11, o12] ∧ Kp [b] H H' ∧ H' b = some (.lst [.int x', .int y']) ∧
  H' lm' = some (.lst mv) ∧ StL (b :: L) H' mv ms ∧ (∀ m ∈ ms, okE m.f ∧ m.fr.length ≤ 2) ∧ ms.length ≤ 600 ∧ lm' ≠ b, ?_, ?_⟩
 ·have none' : ∀ {H' : Hp} {x' : Int}, Kp [b] (upd H lm (.lst [])) H' → H' b = some (.lst [.int x', .int y]) → Kp [b] H H' ∧ H' b = some (.lst [.int x', .int y]) ∧ H' lm = some (.lst []) := fun k b' => ⟨(Kp.of sm).trans k, b', k.but _ _ (one_not nmb) upd_same⟩
  refine ⟨_, rfl, ls, _, rfl, .inl (SqL.of (sm _ _ hls)), _, _, rfl, rfl, _, rfl, ite2 (fun c0 => ?_) (fun _ => iteF ?_)⟩
  ·have c0' : (0 : Int) < (xs.length : Int) := of_decide_eq_true c0
   refine ⟨_, rfl, b, x, 6, [.int y], rfl, sm _ _ hb, by decide, fun x1 r1 _ _ => ?_⟩
   obtain ⟨k1, b1⟩ := bag x1 (sm _ _ hb)
   generalize upd (upd H lm (.lst [])) b (.lst [.int x1, .int y]) = H1 at k1 b1 ⊢
   refine ⟨_, _, rfl, rfl, _, rfl, ite2 (fun _ => ?_) (fun _ => ?_)⟩
   ·obtain ⟨k01, _, em1⟩ := none' k1 b1
    have hls1 := k01.but _ _ (one_not nsb) hls
    refine ⟨_, rfl, _, rfl, ls, _, rfl, .inl (SqL.of hls1), b, x1, _, [.int y], rfl, b1, c0', fun x2 i i0 im => ?_⟩
    obtain ⟨k2, b2⟩ := bag x2 b1
    generalize upd H1 b (.lst [.int x2, .int y]) = H2 at k2 b2 ⊢
    have k02 := k01.trans k2
    have hls2 := k02.but _ _ (one_not nsb) hls
    have hlp2 := k02.but _ _ (one_not npb) hlp
    have em2 := k2.but _ _ (one_not nmb) em1
    have st2 := StL.keep k02 hst
    obtain ⟨vi, si, ei, hsi, isi⟩ := stp_at st2 i0 im
    have oki := oks _ (List.mem_of_getElem? hsi)
    obtain ⟨pi, fi, fvi, rfl, hpi, ifi, _, _⟩ := isi
    refine ⟨_, rfl, _, rfl, ls, _, _, _, rfl, rfl, SqL.of hls2, ei, pi, _, _, _, rfl, rfl, SqT.of hpi, rfl, ?_⟩
    obtain ⟨p1, T, va, vl, ka, kl, rfl, hp1, eT0, eT1, ia, da, eTl, il, dl⟩ := oki.shape ifi
    refine ⟨_, rfl, _, rfl, p1, _, rfl, .inr (SqT.of hp1), _, _, rfl, rfl, p1, _, _, _, rfl, rfl, SqT.of hp1, eTl, ?_⟩
    refine ⟨fun σ H' => ∃ (vm : V) (km : Kd), σ = [some (.ref b), some (.ref ls), some (.ref lp), some (.ref lk), some (.ref lt), some (.ref lm), some (.int i), some (.ref p1), some vm, none, none, none, none] ∧ H' = H2 ∧ IsK H2 km vm ∧ km.dep ≤ 4, ?_, ?_⟩
    ·refine ⟨_, rfl, p1, _, _, _, rfl, rfl, SqT.of hp1, eT0, rfl, _, rfl, ite2 (fun _ => ?_) (fun _ => ?_)⟩
     ·exact ⟨_, rfl, p1, _, _, _, rfl, rfl, SqT.of hp1, eT1, va, ka, rfl, rfl, ia, da⟩
     ·exact ⟨vl, kl, rfl, rfl, il, dl⟩
    rintro σ H2' ⟨vm, km, rfl, rfl, im', dm⟩
    refine ⟨_, rfl, ls, _, rfl, .inl (SqL.of hls2), xs.length, rfl, by omega, by omega, fun D hD => ?_⟩
    have nDb : D ≠ b := fun z => by rw [z, b2] at hD; cases hD
    refine cmp_by xs.length (fun i σ H' => (∃ o, σ = [o, some vm, some (.ref ls)]) ∧ Same H2' H' ∧ ∃ js : List Int, H' D = some (.lst (js.map V.int)) ∧ js.length ≤ i ∧ ∀ j ∈ js, 0 ≤ j ∧ j < (xs.length : Int)) ⟨⟨_, rfl⟩, same_new hD _, [], upd_same, Nat.zero_le _, fun _ h => (List.not_mem_nil h).elim⟩ ?_ ?_
    ·rintro σ H4 ⟨_, s4, js, eD, ljs, bjs⟩
     refine ⟨Nat.le_refl _, ?_⟩
     have b4 := s4 _ _ b2
     refine ⟨_, rfl, ?_⟩
     refine ⟨fun σ H' => ∃ (j x' : Int), σ = [some (.ref b), some (.ref ls), some (.ref lp), some (.ref lk), some (.ref lt), some (.ref lm), some (.int i), some (.ref p1), some vm, some (.ref D), some (.int j), none, none] ∧ Kp [b] H4 H' ∧ H' b = some (.lst [.int x', .int y]) ∧ 0 ≤ j ∧ j < (xs.length : Int), ?_, ?_⟩
     ·refine ⟨_, rfl, D, _, rfl, .inl (SqL.of eD), _, _, rfl, rfl, _, rfl, ite2 (fun c => ?_) (fun _ => ⟨i, x2, rfl, Kp.refl _ _, b4, i0, im⟩)⟩
      have c' : (0 : Int) < ((js.map V.int).length : Int) := of_decide_eq_true c
      refine ⟨_, rfl, _, rfl, _, rfl, D, _, rfl, .inl (SqL.of eD), b, x2, _, [.int y], rfl, b4, c', fun x5 r r0 rm => ?_⟩
      obtain ⟨k5, b5⟩ := bag x5 b4
      generalize upd H4 b (.lst [.int x5, .int y]) = H5 at k5 b5 ⊢
      obtain ⟨j, hj, ej⟩ := ints_at (js := js) r0 (by rw [List.length_map] at rm; exact rm)
      exact ⟨D, _, _, _, rfl, rfl, SqL.of (k5.but _ _ (one_not nDb) eD), ej, j, x5, rfl, k5, b5, (bjs j hj).1, (bjs j hj).2⟩
     rintro σ H5 ⟨j, x5, rfl, k45, b5, j0, jm⟩
     have k25 : Kp [b] H2' H5 := (Kp.of s4).trans k45
     have k05 := k02.trans k25
     have st5 := StL.keep k05 hst
     have hlp5 := k05.but _ _ (one_not npb) hlp
     have hls5 := k05.but _ _ (one_not nsb) hls
     have pr5 := PrL.mono k05.tups hps
     have hp5 := k25.tups _ _ hp1
     have em5 := k25.but _ _ (one_not nmb) em2
     have lj : j.toNat < ss.length := by omega
     have hsj : ss[j.toNat]? = some ss[j.toNat] := List.getElem?_eq_getElem lj
     have okj := oks _ (List.mem_of_getElem? hsj)
     have hL5 : ∀ a ∈ b :: L, H5 a ≠ none := fun a ha e => by
      by_cases z : a = b
      ·rw [z, b5] at e; cases e
      ·cases c : H a with
       | none => exact hL' a ha c
       | some o => rw [k05.but a o (one_not z) c] at e; cases e
     refine ⟨_, rfl, lp, rfl, ⟨_, SqL.of hlp5⟩, for_list (xs := ys) (fun i' σ H' => ∃ (lm' : Addr) (mv : List V) (ms : List Stp) (o11 o12 : Option V), σ = [some (.ref b), some (.ref ls), some (.ref lp), some (.ref lk), some (.ref lt), some (.ref lm'), some (.int i), some (.ref p1), some vm, some (.ref D), some (.int j), o11, o12] ∧ Same H5 H' ∧
      H' lm' = some (.lst mv) ∧ StL (b :: L) H' mv ms ∧ (∀ m ∈ ms, okE m.f ∧ m.fr.length ≤ 2) ∧ ms.length ≤ 6 * i' ∧ lm' ≠ b) ⟨lm, [], [], _, _, rfl, Same.refl _, em5, .nil, fun _ h => (List.not_mem_nil h).elim, Nat.zero_le _, nmb⟩ ?_ ?_ ?_⟩
     ·rintro i' σ H' hi' ⟨_, _, _, _, _, _, s6, _⟩
      exact SqL.of (s6 _ _ hlp5)
     ·rintro i' v σ H6 hx ⟨lm', mv, ms, o11, o12, rfl, s6, em6, st6, ok6, len6, nmb6⟩
      have hi' : i' < ys.length := (List.getElem?_eq_some_iff.mp hx).1
      obtain ⟨⟨n, sy⟩, hq, pp, vsy, rfl, hpp, isy⟩ := paired_get (PrL.mono s6.tups pr5) hx
      have ds : dS sy := dps _ (List.mem_of_getElem? hq)
      refine ⟨pp, _, rfl, SqT.of hpp, rfl, _, _, rfl, _, _, rfl, rfl, ?_⟩
      refine ⟨_, rfl, p1, _, _, _, rfl, rfl, SqT.of (s6 _ _ hp5), eT0, rfl, _, rfl, ?_⟩
      rw [hs_is]
      have evs : [V.ref ls, .int i, .int j, .int n, vsy] = [V.ref ls, .int ((i.toNat : Nat) : Int), .int ((j.toNat : Nat) : Int), .int n, vsy] := by
       rw [show ((i.toNat : Nat) : Int) = i by omega, show ((j.toNat : Nat) : Int) = j by omega]
      have hL6 : ∀ a ∈ b :: L, H6 a ≠ none := fun a ha e => by
       cases c : H5 a with
       | none => exact hL5 a ha c
       | some o => rw [s6 a o c] at e; cases e
      have st6' : StL [] H6 xs ss := StL.keep (.of s6) (StL.loose st5)
      have lm6 := StL.len st6
      have fin : ∀ {l2 : Addr} {H7 : Hp} {mv2 : List V} {ms2 : List Stp}, Same H6 H7 → H7 l2 = some (.lst mv2) → StL (b :: L) H7 mv2 ms2 → (∀ m ∈ ms2, okE m.f ∧ m.fr.length ≤ 2) → ms2.length ≤ 6 → mv.length + mv2.length ≤ sizeLine ∧ ∀ l3, H7 l3 = none → Same H5 (upd H7 l3 (.lst (mv ++ mv2))) ∧ StL (b :: L) (upd H7 l3 (.lst (mv ++ mv2))) (mv ++ mv2) (ms ++ ms2) ∧ (∀ m ∈ ms ++ ms2, okE m.f ∧ m.fr.length ≤ 2) ∧ (ms ++ ms2).length ≤ 6 * (i' + 1) ∧ l3 ≠ b := by
       intro l2 H7 mv2 ms2 s7 e7 st7 ok7 len7
       have l7 := StL.len st7
       refine ⟨small2 (by omega), fun l3 n3 => ?_⟩
       have s8 := same_new n3 (.lst (mv ++ mv2))
       refine ⟨(s6.trans s7).trans s8, paired_app (StL.keep (.of (s7.trans s8)) st6) (StL.keep (.of s8) st7), fun m hm => ?_, by rw [List.length_append]; omega, fun z => ?_⟩
       ·rcases List.mem_append.mp hm with hm | hm
        ·exact ok6 m hm
        ·exact ok7 m hm
       ·rw [z, s7 _ _ (s6 _ _ b5)] at n3; cases n3
      cases hf : si.f with
      | is x k =>
       refine iteT ⟨_, rfl, _, rfl, _, rfl, _, rfl, _, rfl, _, rfl, b :: L, ls, i.toNat, j.toNat, n, vsy, xs, ss, si, ss[j.toNat], x, k, sy, evs, hL6, s6 _ _ hls5, st6', hsi, hsj, hf, oki, okj, isy, ds, fun l2 H7 mv2 ms2 s7 n7 e7 st7 ok7 len7 => ?_⟩
       obtain ⟨z1, z2⟩ := fin s7 e7 st7 ok7 len7
       refine ⟨lm', l2, _, _, rfl, rfl, s7 _ _ em6, e7, z1, fun l3 n3 => ?_⟩
       obtain ⟨w1, w2, w3, w4, w5⟩ := z2 l3 n3
       exact ⟨l3, _, _, _, _, rfl, w1, upd_same, w2, w3, w4, w5⟩
      | has x r y' =>
       refine iteF ⟨_, rfl, _, rfl, _, rfl, _, rfl, _, rfl, _, rfl, b :: L, ls, i.toNat, j.toNat, n, vsy, xs, ss, si, ss[j.toNat], x, r, y', sy, evs, hL6, s6 _ _ hls5, st6', hsi, hsj, hf, oki, okj, isy, ds, fun l2 H7 mv2 ms2 s7 n7 e7 st7 ok7 len7 => ?_⟩
       obtain ⟨z1, z2⟩ := fin s7 e7 st7 ok7 len7
       refine ⟨lm', l2, _, _, rfl, rfl, s7 _ _ em6, e7, z1, fun l3 n3 => ?_⟩
       obtain ⟨w1, w2, w3, w4, w5⟩ := z2 l3 n3
       exact ⟨l3, _, _, _, _, rfl, w1, upd_same, w2, w3, w4, w5⟩
     ·rintro σ H6 ⟨lm', mv, ms, o11, o12, rfl, s6, em6, st6, ok6, len6, nmb6⟩
      exact ⟨lm', mv, ms, _, _, _, _, _, _, _, _, _, rfl, k05.trans (.of s6), s6 _ _ b5, em6, st6, ok6, by omega, nmb6⟩
    ·rintro i' σ H' hi' ⟨⟨o, rfl⟩, s4, js, eD, ljs, bjs⟩
     refine ⟨hi', ?_⟩
     rintro v H4 ⟨rfl, rfl⟩
     have hi1 : i' < xs.length := hi'
     obtain ⟨sk, hsk, pk, fk, fvk, ek, hpk, ifk, _, _⟩ := paired_get st2 (List.getElem?_eq_getElem hi1)
     have okk := oks _ (List.mem_of_getElem? hsk)
     obtain ⟨pf, T', va', rfl, hpf, _, eT1', ia'⟩ := ifk.sh
     have e0 : atI xs (0 + (i' : Int)) = some (.ref pk) := by rw [Int.zero_add]; exact atI_nat (by rw [List.getElem?_eq_getElem hi1, ek])
     refine ⟨_, rfl, _, rfl, ls, _, _, _, rfl, rfl, SqL.of (s4 _ _ hls2), e0, pk, _, _, _, rfl, rfl, SqT.of (s4 _ _ hpk), rfl, pf, _, _, _, rfl, rfl, SqT.of (s4 _ _ hpf), atI_nat (j := 1) eT1', _, rfl, sk.f.x.tx, km.tx, (ia'.mono s4.tups).xa, (im'.mono s4.tups).xa, by rw [Kd.tx_dp]; have := okk.dx.1; omega, _, rfl, ite2 (fun _ => ?_) (fun _ => ⟨⟨_, rfl⟩, s4, js, eD, by omega, bjs⟩)⟩
     refine ⟨_, rfl, _, eD, small1000 (by rw [List.length_map]; omega), ⟨_, rfl⟩, same_upd s4 hD, js ++ [0 + (i' : Int)], by rw [upd_same, List.map_append]; rfl, by rw [List.length_append]; show _ + 1 ≤ _; omega, fun j hj => ?_⟩
     rcases List.mem_append.mp hj with hj | hj
     ·exact bjs j hj
     ·rw [List.mem_singleton.mp hj]; omega
   ·obtain ⟨k01, _, em1⟩ := none' k1 b1
    exact ⟨lm, [], [], _, _, _, _, _, _, _, _, _, rfl, k01, b1, em1, .nil, fun _ h => (List.not_mem_nil h).elim, Nat.zero_le _, nmb⟩
  ·obtain ⟨k01, b1, em1⟩ := none' (Kp.refl _ _) (sm _ _ hb)
   exact ⟨lm, [], [], _, _, _, _, _, _, _, _, _, rfl, k01, b1, em1, .nil, fun _ h => (List.not_mem_nil h).elim, Nat.zero_le _, nmb⟩
 rintro σ H3 ⟨lm', mv, ms, x3, y3, o6, o7, o8, o9, o10, o11, o12, rfl, k3, b3, em3, st3, ok3, lms, nmb'⟩
 have lmv := StL.len st3
 refine ⟨_, rfl, lm', _, rfl, .inl (SqL.of em3), _, _, rfl, rfl, _, rfl, ite2 (fun c => ?_) (fun _ => ?_)⟩
 ·have c' : (0 : Int) < (mv.length : Int) := of_decide_eq_true c
  refine ⟨_, rfl, _, rfl, _, rfl, lm', _, rfl, .inl (SqL.of em3), b, x3, _, [.int y3], rfl, b3, c', fun x4 r r0 rm => ?_⟩
  obtain ⟨k4, b4⟩ := bag x4 b3
  generalize upd H3 b (.lst [.int x4, .int y3]) = H4 at k4 b4 ⊢
  have st4 := StL.keep (L := b :: L) (k4.mono (by simp)) st3
  obtain ⟨v, st, ev, hst', ist⟩ := stp_at st4 r0 rm
  have okm := ok3 st (List.mem_of_getElem? hst')
  refine ⟨lm', _, _, _, rfl, rfl, SqL.of (k4.but _ _ (one_not nmb') em3), ev, ?_⟩
  refine q v H4 st x4 y3 (k3.trans k4) b4 ?_ okm.1 okm.2
  obtain ⟨p, pf, vf, e, h1, h2, h3, h4⟩ := ist
  exact ⟨p, pf, vf, e, h1, h2, h3, fun z => h4 (List.mem_cons_of_mem _ z)⟩
 ·refine ⟨_, rfl, _, rfl, _, rfl, _, rfl, L, b, lp, lk, lt, lh, x3, y3, ys, ps, ws, ts, hs, rfl, fun a ha e => ?_, b3, k3.but _ _ (one_not npb) hlp, npb, PrL.mono k3.tups hps, ps0, ps1, dps, en.kp k3, fun v H' st x' y' k' b' is o' l' => q v H' st x' y' (k3.trans k') b' is o' l'⟩
  by_cases z : a = b
  ·rw [z, b3] at e; cases e
  ·cases c : H a with
   | none => exact hL a ha c
   | some o => rw [k3.but a o (one_not z) c] at e; cases e
end
end K17
namespace K17
open PySem L2
def spHolds : Sp := fun vs H Q _ => ∃ (ls lp lg : Addr) (xs ys : List V) (ss : List Stp) (ps : List (Int × Sy)), vs = [.ref ls, .ref lp, .ref lg] ∧ H ls = some (.lst xs) ∧ StL [] H xs ss ∧ ss.length ≤ 192 ∧ (∀ s ∈ ss, okE s.f ∧ s.fr.length ≤ 5) ∧ H lp = some (.lst ys) ∧ PrL H ys ps ∧ ps.length ≤ 100 ∧ (∀ q ∈ ps, dS q.2) ∧ H lg = some (.lst ((singL ps).map V.str)) ∧ ∀ H', Same H H' → Q (.bl true) H'
section
variable {P : Program} {w : World} {K : PySem.W.Frag} {mg : Str → Option Value} {base : Heap} {f g e a1 a2 a3 a4 a5 a6 a7 a8 : Addr} {fd gd' ed d1 d2 d3 d4 d5 d6 d7 d8 : FuncData}
theorem scHolds : FnScope ["_law_steps", "_law_pairs", "_law_singles_here", "_law_due", "_law_at", "_law_handed", "_law_lent", "_law_found"] ["_law_steps", "_law_pairs", "_law_singles_here"] (defScope sHolds) := ⟨rfl, rfl, rfl, by decide +kernel, rfl, by decide +kernel, by decide +kernel⟩
theorem ok_holds (F : Fun K "_law_holds" "_law_holds" sHolds f fd) (ml : mg "len" = none) (mr : mg "range" = none) (mi : mg "isinstance" = none) (mb : mg "bool" = none) (mls : mg "list" = none)
  (Gcp : FnOk P w K mg base CX0 1 a6 d6 ["_law_steps"] spCopy) (bGcp : Binds K d6 ["_law_steps"] []) (kGcp : PySem.W.keepIn K (.ref a6) = true) (mGcp : mg "_law_copy" = some (.ref a6))
  (Gsl : FnOk P w K mg base CX0 64 a7 d7 ["steps", "pairs"] spStand) (bGsl : Binds K d7 ["steps", "pairs"] []) (kGsl : PySem.W.keepIn K (.ref a7) = true) (mGsl : mg "stands" = some (.ref a7))
  (Gfi : FnOk P w K mg base CX0 3 a8 d8 ["_law_steps", "_law_at", "_law_pairs", "_law_singles_here"] spFine) (bGfi : Binds K d8 ["_law_steps", "_law_at", "_law_pairs", "_law_singles_here"] []) (kGfi : PySem.W.keepIn K (.ref a8) = true) (mGfi : mg "_law_fine" = some (.ref a8)) :
  FnOk P w K mg base CX0 65 f fd ["_law_steps", "_law_pairs", "_law_singles_here"] spHolds := by
 refine F.ok scHolds (fun vs H Q E h => ?_) (fun cdv A outer s H vs Q E hr h => ?_)
 ·obtain ⟨ls, lp, lg, xs, ys, ss, ps, rfl, _⟩ := h; rfl
 obtain ⟨ls, lp, lg, xs, ys, ss, ps, rfl, hls, hst, lss, oks, hlp, hps, lps, dps, hlg, q⟩ := h
 have hrsl := hr
 have hrcp := hr.mono (show 1 ≤ 64 by decide)
 have hrfi := hr.mono (show 3 ≤ 64 by decide)
 refine ⟨_, @pss_cons _ _ _ _ _ (by exact ps_set (i := 3) scHolds.nd rfl (Or.inl rfl) pe_bl)
  (@pss_cons _ _ _ _ _ (by exact ps_for PassesOwn.never rfl (pi_range1 rfl mr (pa_cons (pe_callB call_len_seq rfl ml PySem.boot_len (pa_cons (pv 0) pa_nil)) pa_nil)) (pg_name (i := 4) scHolds.nd rfl (Or.inl rfl)) (@pss_one _ _ _ (by exact ps_set (i := 3) scHolds.nd rfl (Or.inl rfl) (pe_and (pv 3) (pe_one (pe_call Gfi hrfi rfl mGfi kGfi bGfi .nil pass0 (pa_cons (pv 0) (pa_cons (pv 4) (pa_cons (pv 1) (pa_cons (pv 2) pa_nil))))))))))
  (@pss_cons _ _ _ _ _ (by exact ps_set (i := 5) scHolds.nd rfl (Or.inl rfl) (pe_call Gcp hrcp rfl mGcp kGcp bGcp .nil pass0 (pa_cons (pv 0) pa_nil)))
  (@pss_cons _ _ _ _ _ (by exact ps_set (i := 6) scHolds.nd rfl (Or.inl rfl) (pe_callTy call_list_of rfl mls PyProof.Rows.boot_list (pa_cons (pv 1) pa_nil)))
  (@pss_cons _ _ _ _ _ (by exact ps_set (i := 7) scHolds.nd rfl (Or.inl rfl) (pe_call Gsl hrsl rfl mGsl kGsl bGsl .nil pass0 (pa_cons (pv 5) (pa_cons (pv 6) pa_nil))))
  (@pss_one _ _ _ (by exact @ps_ret _ _ _ _ (pe_and (pe_callB call_isinst rfl mi PyProof.Rows.boot_isinstance (pa_cons (pv 7) (pa_cons (pe_bltn (v := .ty "bool") rfl mb PyProof.Rows.boot_bool rfl) pa_nil))) (pe_and (pe_cmpR op_eq (pv 7) (pv 3) (nomark _)) (pe_and (pe_cmpR (op_eqX hr.units) (pv 5) (pv 0) (nomark _)) (pe_one (pe_cmpR (op_eqX hr.units) (pv 6) (pv 1) (nomark _)))))))))))), ?_⟩
 have lxs := StL.len hst
 have okF : ∀ t ∈ ss, okF t.f ∧ t.fr.length ≤ 900 := fun t ht => ⟨(oks t ht).1.okD.okF, by have := (oks t ht).2; omega⟩
 have okS : ∀ q ∈ ps, q.2.okS := fun q hq => dS.okS (dps q hq)
 refine ⟨_, rfl, ls, xs, rfl, .inl (SqL.of hls), ?_⟩
 refine ⟨_, rfl, by omega, by omega, for_range (fun i σ H' => (∃ o : Option V, σ = [some (.ref ls), some (.ref lp), some (.ref lg), some (.bl ((List.range i).all (rightAt ss ps))), o, none, none, none]) ∧ Same H H') ⟨⟨_, rfl⟩, Same.refl _⟩ ?_ ?_⟩
 ·rintro i σ H' hi ⟨⟨o, rfl⟩, sm⟩
  have hi' : i < ss.length := by omega
  have hs : ss[i]? = some (ss[i]) := List.getElem?_eq_getElem hi'
  have hm : ss[i] ∈ ss := List.getElem_mem hi'
  have er : rightAt ss ps i = fineC (ruOf ss[i].r) ss[i] i ss ps (singL ps) := by
   unfold rightAt; rw [hs]; exact right_fine (oks _ hm).1.okD.2.2
  rw [Int.zero_add]
  refine ⟨_, rfl, _, rfl, ite2 (fun c => ?_) (fun c => ?_)⟩
  ·refine ⟨_, rfl, _, rfl, _, rfl, _, rfl, ls, lp, lg, i, xs, ys, ss, _, ruOf ss[i].r, ps, _, rfl, sm _ _ hls, hst.keep (.of sm), hs, ru_of _, okF, sm _ _ hlp, hps.mono sm.tups, fun q hq => (okS q hq).2, sm _ _ hlg, fun H5 s5 => ⟨⟨some (.int (i : Int)), ?_⟩, sm.trans s5⟩⟩
   rw [List.range_succ, List.all_append, c, ← er]
   simp
  ·refine ⟨⟨some (.int (i : Int)), ?_⟩, sm⟩
   rw [List.range_succ, List.all_append, Bool.eq_false_iff.mpr c]
   rfl
 ·rintro σ H1 ⟨⟨o, rfl⟩, s1⟩
  refine ⟨_, rfl, ls, xs, ss, rfl, s1 _ _ hls, hst.keep (.of s1), by omega, fun lc H3 xs' s3 nc ec stc => ?_⟩
  have s13 := s1.trans s3
  refine ⟨_, rfl, lp, ys, rfl, .inl (SqL.of (s13 _ _ hlp)), fun ll nl => ?_⟩
  have s4 := same_new nl (.lst ys)
  have s14 := s13.trans s4
  refine ⟨_, rfl, _, rfl, lc, ll, xs', ys, ss, ps, rfl, s4 _ _ ec, stc.keep (.of s4), by omega, okF, upd_same, hps.mono s14.tups, okS, lps, fun H5 s5 => ?_⟩
  have s15 := s14.trans s5
  refine ⟨_, rfl, _, _, _, true, rfl, TyOf.bl _, kit_bool_bool K, _, rfl, iteT ⟨_, rfl, _, rfl, rfl, ?_⟩⟩
  have ee : (List.range xs.length).all (rightAt ss ps) = standC ss ps := by rw [lxs]; rfl
  have de : decide (V.bl (standC ss ps) = V.bl ((List.range ((xs.length : Nat) : Int).toNat).all (rightAt ss ps))) = true := decide_eq_true (by show V.bl _ = V.bl ((List.range xs.length).all (rightAt ss ps)); rw [ee])
  rw [de]
  refine ⟨_, rfl, iteT ⟨_, rfl, _, rfl, .lst (ss.map Stp.tx), .lst (ss.map Stp.tx), ⟨lc, _, rfl, s5 _ _ (s4 _ _ ec), StL.xas (stc.keep (L := []) (.of (s4.trans s5)))⟩, ⟨ls, _, rfl, s15 _ _ hls, StL.xas (hst.keep (L := []) (.of s15))⟩, steps_dp fun s hs => (oks s hs).1.lo8, ?_⟩⟩
  rw [decide_eq_true rfl]
  refine ⟨_, rfl, iteT ⟨_, rfl, _, rfl, .lst (ps.map prX), .lst (ps.map prX), ⟨ll, _, rfl, s5 _ _ upd_same, PrL.xas (hps.mono s15.tups)⟩, ⟨lp, _, rfl, s15 _ _ hlp, PrL.xas (hps.mono s15.tups)⟩, pairs_dp fun q hq => (okS q hq).2, ?_⟩⟩
  rw [decide_eq_true rfl]
  exact q _ s15
end
end K17
namespace K17
open PySem L2
def spSpoil : Sp := fun vs H Q _ => ∃ (b ls lk lh lp lt : Addr) (x y : Int) (xs : List V) (ss : List Stp) (ys : List V) (ps : List (Int × Sy)) (ws ts hs : List Str), vs = [.ref b, .ref ls, .ref lk, .ref lh, .ref lp] ∧ H b = some (.lst [.int x, .int y]) ∧
 H ls = some (.lst xs) ∧ ls ≠ b ∧ StL [b] H xs ss ∧ 0 < ss.length ∧ ss.length ≤ 150 ∧ (∀ s ∈ ss, okE s.f ∧ s.fr.length ≤ 2) ∧ H lp = some (.lst ys) ∧ lp ≠ b ∧ PrL H ys ps ∧ ps.length ≤ 100 ∧ Env H b lk lt lh ws ts hs ∧
 ∀ (l : Addr) (H' : Hp) (xs' : List V) (ss' : List Stp) (x' : Int), Kp [b] H H' → H' b = some (.lst [.int x', .int y]) → H' l = some (.lst xs') → l ≠ b → StL [b] H' xs' ss' → ss'.length = ss.length → (∀ s ∈ ss', okE s.f ∧ s.fr.length ≤ 3) → Q (.ref l) H'
theorem ndlbs : ((([("_law_low" : Str)] : List Str) ++ [("_law_bag" : Str), ("_law_steps" : Str)]) : List Str).Nodup := by decide +kernel
theorem ndos2 : ((([("_law_own" : Str), ("_law_saying_here" : Str)] : List Str) ++ []) : List Str).Nodup := by decide +kernel
def rules10 : List Str := ["self", "all", "first", "second", "both", "tie", "none", "makes", "no", ""]
theorem nums_at {l : List (Option Int)} {r : Int} (r0 : 0 ≤ r) (rm : r < (l.length : Int)) : ∃ n, atI (l.map numV) r = some (numV n) := by
 have hn : r.toNat < l.length := by omega
 have e := atI_nat (xs := l.map numV) (j := r.toNat) (v := numV l[r.toNat]) (by rw [List.getElem?_map, List.getElem?_eq_getElem hn]; rfl)
 rw [show ((r.toNat : Nat) : Int) = r by omega] at e
 exact ⟨_, e⟩
theorem cut_to (xs : List V) (k : Nat) (h : k ≤ xs.length) : cutV xs none (some (k : Int)) = xs.take k := by
 have h1 : HT.sIx xs.length xs.length (some (k : Int)) = min k xs.length := HT.sIx_nat _ _ _
 have h2 : HT.sIx xs.length 0 none = 0 := rfl
 unfold cutV
 rw [h1, h2, List.drop_zero, Nat.sub_zero, Nat.min_eq_left h]
theorem paired_take {α β : Type} {R : α → β → Prop} : ∀ {xs : List α} {ks : List β} (n : Nat), Paired R xs ks → Paired R (xs.take n) (ks.take n)
 | _, _, 0, _ => by simp; exact .nil
 | _, _, _ + 1, .nil => by simp; exact .nil
 | _, _, n + 1, .cons r t => by simp only [List.take_succ_cons]; exact .cons r (paired_take n t)
theorem paired_drop {α β : Type} {R : α → β → Prop} : ∀ {xs : List α} {ks : List β} (n : Nat), Paired R xs ks → Paired R (xs.drop n) (ks.drop n)
 | _, _, 0, h => by simp; exact h
 | _, _, _ + 1, .nil => by simp; exact .nil
 | _, _, n + 1, .cons r t => by simp only [List.drop_succ_cons]; exact paired_drop n t
theorem paired_set {α β : Type} {R : α → β → Prop} {v : α} {k : β} (r : R v k) : ∀ {xs : List α} {ks : List β} (n : Nat), Paired R xs ks → Paired R (xs.set n v) (ks.set n k)
 | _, _, _, .nil => by simp; exact .nil
 | _, _, 0, .cons _ t => by simp only [List.set_cons_zero]; exact .cons r t
 | _, _, n + 1, .cons r' t => by simp only [List.set_cons_succ]; exact .cons r' (paired_set r n t)
theorem mem_set' {α : Type} {l : List α} {n : Nat} {a b : α} (h : b ∈ l.set n a) : b ∈ l ∨ b = a := List.mem_or_eq_of_mem_set h
theorem ixN_of {n : Nat} {k : Int} (h0 : 0 ≤ k) (h1 : k < (n : Int)) : ixN n k = some k.toNat := by
 unfold ixN
 rw [if_pos h0, if_pos (by omega)]
section
variable {P : Program} {w : World} {K : PySem.W.Frag} {mg : Str → Option Value} {base : Heap} {f g e a1 a2 a3 a4 a5 a6 a7 a8 : Addr} {fd gd' ed d1 d2 d3 d4 d5 d6 d7 d8 : FuncData}
theorem scSpoil : FnScope ["_law_bag", "_law_steps", "_law_kin", "_law_things_here", "_law_pairs", "_law_at", "_law_claim", "_law_rule", "_law_froms", "_law_number", "_law_way", "_law_made", "_law_other"] ["_law_bag", "_law_steps", "_law_kin", "_law_things_here", "_law_pairs"] (defScope sSpoil) := ⟨rfl, rfl, rfl, by decide +kernel, rfl, by decide +kernel, by decide +kernel⟩
theorem ok_spoil (F : Fun K "_law_spoil" "_law_spoil" sSpoil f fd) (ml : mg "len" = none)
  (Gdr : FnOk P w K mg base CX0 1 a1 d1 ["_law_bag", "_law_many"] spDraw) (bGdr : Binds K d1 ["_law_bag", "_law_many"] []) (kGdr : PySem.W.keepIn K (.ref a1) = true) (mGdr : mg "_law_draw" = some (.ref a1)) :
  FnOk P w K mg base CX0 2 f fd ["_law_bag", "_law_steps", "_law_kin", "_law_things_here", "_law_pairs"] spSpoil := by
 refine F.ok scSpoil (fun vs H Q E h => ?_) (fun cdv A outer s H vs Q E hr h => ?_)
 ·obtain ⟨b, ls, lk, lh, lp, lt, x, y, xs, ss, ys, ps, ws, ts, hs, rfl, _⟩ := h; rfl
 obtain ⟨b, ls, lk, lh, lp, lt, x, y, xs, ss, ys, ps, ws, ts, hs, rfl, hb, hls, nsb, hst, ss0, lss, oks, hlp, npb, hps, lps, en, q⟩ := h
 have hrdr := hr
 refine ⟨_, @pss_cons _ _ _ _ _ (by exact ps_set (i := 5) scSpoil.nd rfl (Or.inl rfl) (pe_ix ix_list (pe_lst (pa_cons pe_int (pa_cons (pe_op op_sub (pe_callB call_len_seq rfl ml PySem.boot_len (pa_cons (pv 1) pa_nil)) pe_int) (pa_cons (pe_call Gdr hrdr rfl mGdr kGdr bGdr .nil pass0 (pa_cons (pv 0) (pa_cons (pe_callB call_len_seq rfl ml PySem.boot_len (pa_cons (pv 1) pa_nil)) pa_nil))) (pa_cons (pe_call Gdr hrdr rfl mGdr kGdr bGdr .nil pass0 (pa_cons (pv 0) (pa_cons (pe_callB call_len_seq rfl ml PySem.boot_len (pa_cons (pv 1) pa_nil)) pa_nil))) pa_nil))))) (pe_call Gdr hrdr rfl mGdr kGdr bGdr .nil pass0 (pa_cons (pv 0) (pa_cons pe_int pa_nil))) (fun _ _ => rfl)))
  (@pss_cons _ _ _ _ _ (by exact ps_asg (pe_ix ix_list (pv 1) (pv 5) (fun _ _ => rfl)) (pg_tup rfl (pgs_cons (pg_name (i := 6) scSpoil.nd rfl (Or.inl rfl)) (pgs_cons (pg_name (i := 7) scSpoil.nd rfl (Or.inl rfl)) (pgs_cons (pg_name (i := 8) scSpoil.nd rfl (Or.inl rfl)) (pgs_cons (pg_name (i := 9) scSpoil.nd rfl (Or.inl rfl)) pgs_nil))))))
  (@pss_cons _ _ _ _ _ (by exact ps_set (i := 10) scSpoil.nd rfl (Or.inl rfl) (pe_call Gdr hrdr rfl mGdr kGdr bGdr .nil pass0 (pa_cons (pv 0) (pa_cons pe_int pa_nil))))
  (@pss_mid _ _ _ _ _ (by exact ps_if (pt_cmpR op_eq (pv 10) pe_int (nomark _)) (@pss_one _ _ _ (by exact ps_set (i := 7) scSpoil.nd rfl (Or.inl rfl) (pe_ix ix_list (@pe_lst _ _ _ _ (@pa_strs _ _ rules10 rfl)) (pe_call Gdr hrdr rfl mGdr kGdr bGdr .nil pass0 (pa_cons (pv 0) (pa_cons pe_int pa_nil))) (fun _ _ => rfl)))) pss_nil)
  (@pss_mid _ _ _ _ _ (by exact ps_if (pt_cmpR op_eq (pv 10) pe_int (nomark _)) (@pss_one _ _ _ (by exact ps_setC (i := 8) ["_law_low"] ["_law_bag", "_law_steps"] [0, 1] scSpoil.nd rfl rfl (pi_list (pv 8)) (fun _ _ _ => pg_name (i := 0) ndlbs rfl (Or.inl rfl)) (fun _ _ _ => pts_nil) (fun _ _ _ => (pe_op op_sub (pe_call Gdr hrdr rfl mGdr kGdr bGdr .nil pass0 (pa_cons (pv 1) (pa_cons (pe_op op_add (pe_callB call_lenH rfl ml PySem.boot_len (pa_cons (pv 2) pa_nil)) pe_int) pa_nil))) pe_int)))) pss_nil)
  (@pss_mid _ _ _ _ _ (by exact ps_if (pt_cmpR op_eq (pv 10) pe_int (nomark _)) (@pss_one _ _ _ (by exact ps_set (i := 9) scSpoil.nd rfl (Or.inl rfl) (pe_ix ix_list (pe_op op_cat (pe_lst (pa_cons pe_non (pa_cons pe_int pa_nil))) (pe_comp ["_law_own", "_law_saying_here"] [] [] rfl (pi_list (pv 4)) (fun _ _ _ => pg_pair (K' := K) (i := 0) (j := 1) rfl rfl ndos2 rfl rfl rfl rfl) (fun _ _ _ => pts_nil) (fun _ _ _ => (pv 0)))) (pe_call Gdr hrdr rfl mGdr kGdr bGdr .nil pass0 (pa_cons (pv 0) (pa_cons (pe_op op_add pe_int (pe_callB call_len_seq rfl ml PySem.boot_len (pa_cons (pv 4) pa_nil))) pa_nil))) (fun _ _ => rfl)))) pss_nil)
  (@pss_mid _ _ _ _ _ (by exact ps_if (pt_cmpR op_eq (pv 10) pe_int (nomark _)) (@pss_one _ _ _ (by exact ps_set (i := 6) scSpoil.nd rfl (Or.inl rfl) (pe_op op_catT (@pe_tup _ _ _ _ _ (pa_cons (pe_ix ix_tup (pv 6) pe_int (fun _ _ => rfl)) (pa_cons (pe_ix ix_list (pe_op op_cat (pv 2) (pv 3)) (pe_call Gdr hrdr rfl mGdr kGdr bGdr .nil pass0 (pa_cons (pv 0) (pa_cons pe_int pa_nil))) (fun _ _ => rfl)) pa_nil))) (pe_slice sl_tup (pv 6) (po_some pe_int) po_none)))) pss_nil)
  (@pss_mid _ _ _ _ _ (by exact ps_if (PW.pt (pw_and (pt_cmpR op_eq (pv 10) pe_int (nomark _)) (pw_and1 (pt_cmpR op_eq (pe_ix ix_tup (pv 6) pe_int (fun _ _ => rfl)) pe_str (nomark _))))) (@pss_one _ _ _ (by exact ps_set (i := 6) scSpoil.nd rfl (Or.inl rfl) (@pe_tup _ _ _ _ _ (pa_cons pe_str (pa_cons (pe_ix ix_tup (pv 6) pe_int (fun _ _ => rfl)) (pa_cons (pe_ix ix_list (pv 2) (pe_call Gdr hrdr rfl mGdr kGdr bGdr .nil pass0 (pa_cons (pv 0) (pa_cons pe_int pa_nil))) (fun _ _ => rfl)) pa_nil)))))) pss_nil)
  (@pss_mid _ _ _ _ _ (by exact ps_if (pt_cmpR op_eq (pv 10) pe_int (nomark _)) (@pss_one _ _ _ (by exact ps_set (i := 8) scSpoil.nd rfl (Or.inl rfl) (pe_op op_cat (pv 8) (pe_lst (pa_cons (pe_call Gdr hrdr rfl mGdr kGdr bGdr .nil pass0 (pa_cons (pv 0) (pa_cons (pe_op op_add (pv 5) pe_int) pa_nil))) pa_nil))))) pss_nil)
  (@pss_cons _ _ _ _ _ (by exact ps_set (i := 11) scSpoil.nd rfl (Or.inl rfl) (pe_op op_cat (pe_op op_cat (pe_slice sl_list (pv 1) po_none (po_some (pv 5))) (pe_lst (@pa_consN _ _ _ _ _ (@pe_tup _ _ _ _ _ (pa_cons (pv 6) (pa_cons (pv 7) (pa_cons (pv 8) (pa_cons (pv 9) pa_nil))))) pa_nil rfl))) (pe_slice sl_list (pv 1) (po_some (pe_op op_add (pv 5) pe_int)) po_none)))
  (@pss_mid _ _ _ _ _ (by exact ps_if (pt_cmpR op_eq (pv 10) pe_int (nomark _)) (@pss_cons _ _ _ _ _ (by exact ps_set (i := 12) scSpoil.nd rfl (Or.inl rfl) (pe_call Gdr hrdr rfl mGdr kGdr bGdr .nil pass0 (pa_cons (pv 0) (pa_cons (pe_callB call_len_seq rfl ml PySem.boot_len (pa_cons (pv 1) pa_nil)) pa_nil)))) (@pss_cons _ _ _ _ _ (by exact ps_asg (pe_ix ix_list (pv 1) (pv 12) (fun _ _ => rfl)) (pg_sub (pv 11) (pv 5) set_list)) (@pss_one _ _ _ (by exact ps_asg (pe_ix ix_list (pv 1) (pv 5) (fun _ _ => rfl)) (pg_sub (pv 11) (pv 12) set_list))))) pss_nil)
  (@pss_one _ _ _ (by exact @ps_ret _ _ _ _ (pv 11))))))))))))), ?_⟩
 have bm : b ∈ [b] := List.mem_singleton.mpr rfl
 have lxs := StL.len hst
 have lys := Paired.length hps
 have n0 : (0 : Int) < (xs.length : Int) := by omega
 have new : ∀ {H' : Hp} {o : HO}, H' b = some o → ∀ {l : Addr}, H' l = none → l ≠ b := fun {H'} {o} hb' {l} hl z => by rw [z, hb'] at hl; cases hl
 refine ⟨_, rfl, ls, _, rfl, .inl (SqL.of hls), _, _, rfl, rfl, _, rfl, _, rfl, ls, _, rfl, .inl (SqL.of hls), b, x, _, [.int y], rfl, hb, n0, fun x1 r1 r10 r1m => ?_⟩
 obtain ⟨k1, b1⟩ := bag x1 hb
 generalize upd H b (.lst [.int x1, .int y]) = H1 at k1 b1 ⊢
 have hls1 := k1.but _ _ (one_not nsb) hls
 refine ⟨_, rfl, _, rfl, ls, _, rfl, .inl (SqL.of hls1), b, x1, _, [.int y], rfl, b1, n0, fun x2 r2 r20 r2m => ?_⟩
 obtain ⟨k2, b2⟩ := bag x2 b1
 generalize upd H1 b (.lst [.int x2, .int y]) = H2 at k2 b2 ⊢
 refine ⟨le4, fun l1 h1 => ?_⟩
 have s3 := same_new h1 (.lst [.int 0, .int ((xs.length : Int) - 1), .int r1, .int r2])
 have nl1 := new b2 h1
 refine ⟨_, rfl, b, x2, 4, [.int y], rfl, s3 _ _ b2, by decide, fun x3 r3 r30 r34 => ?_⟩
 obtain ⟨k3, b3⟩ := bag x3 (s3 _ _ b2)
 have el1 := k3.but _ _ (one_not nl1) (show upd H2 l1 (.lst [.int 0, .int ((xs.length : Int) - 1), .int r1, .int r2]) l1 = _ from upd_same)
 have k03 : Kp [b] H (upd (upd H2 l1 (.lst [.int 0, .int ((xs.length : Int) - 1), .int r1, .int r2])) b (.lst [.int x3, .int y])) := ((k1.trans k2).trans (.of s3)).trans k3
 generalize upd (upd H2 l1 (.lst [.int 0, .int ((xs.length : Int) - 1), .int r1, .int r2])) b (.lst [.int x3, .int y]) = H3 at k03 b3 el1 ⊢
 obtain ⟨at', hat, eat⟩ := ints_at (js := [0, (xs.length : Int) - 1, r1, r2]) r30 (by show r3 < 4; exact r34)
 obtain ⟨a0, am⟩ : 0 ≤ at' ∧ at' < (xs.length : Int) := by
  simp only [List.mem_cons, List.not_mem_nil, or_false] at hat
  rcases hat with rfl | rfl | rfl | rfl <;> omega
 refine ⟨l1, _, _, _, rfl, rfl, SqL.of el1, eat, ?_⟩
 clear k3 s3 el1 h1 k1 k2 b1 b2 hls1
 have hls3 := k03.but _ _ (one_not nsb) hls
 have st3 := StL.keep k03 hst
 obtain ⟨v0, st0, ev0, hst0, p0, pf0, vf0, rfl, hp0, hf0, hpf0, npf0⟩ := stp_at st3 a0 am
 have ok0 := oks _ (List.mem_of_getElem? hst0)
 refine ⟨_, rfl, _, rfl, ls, _, _, _, rfl, rfl, SqL.of hls3, ev0, p0, _, rfl, SqT.of hp0, rfl, _, _, rfl, _, _, rfl, _, _, rfl, _, _, rfl, rfl, ?_⟩
 refine ⟨_, rfl, b, x3, 7, [.int y], rfl, b3, by decide, fun x4 way _ _ => ?_⟩
 obtain ⟨k4, b4⟩ := bag x4 b3
 generalize upd H3 b (.lst [.int x4, .int y]) = H4 at k4 b4 ⊢
 have k04 := k03.trans k4
 have npb0 : pf0 ≠ b := fun z => npf0 (by rw [z]; exact bm)
 obtain ⟨M, hM⟩ : ∃ M : Nat → St → Hp → Prop, M = fun n σ H' => ∃ (vf : V) (f : Fa) (z : Str) (pf : Addr) (fr : List Int) (nn : Option Int) (x' : Int), σ = [some (.ref b), some (.ref ls), some (.ref lk), some (.ref lh), some (.ref lp), some (.int at'), some vf, some (.str z), some (.ref pf), some (numV nn), some (.int way), none, none] ∧
  Kp [b] H H' ∧ H' b = some (.lst [.int x', .int y]) ∧ IsF H' f vf ∧ okE f ∧ H' pf = some (.lst (fr.map V.int)) ∧ pf ≠ b ∧ fr.length ≤ n := ⟨_, rfl⟩
 refine ⟨M 2, ?_, ?_⟩
 ·refine ⟨_, rfl, rfl, _, rfl, ite2 (fun _ => ?_) (fun _ => ?_)⟩
  ·refine ⟨small2 (by show 10 ≤ 1000; decide), fun l2 h2 => ?_⟩
   have s5 := same_new h2 (.lst (rules10.map V.str))
   have nl2 := new b4 h2
   refine ⟨_, rfl, b, x4, 10, [.int y], rfl, s5 _ _ b4, by decide, fun x5 r r0 rm => ?_⟩
   obtain ⟨z, hz, ez⟩ := strs_at (ws := rules10) r0 (by show r < 10; exact rm)
   have kk := (Kp.of (L := [b]) s5).trans (bag x5 (s5 _ _ b4)).1
   refine ⟨l2, _, _, _, rfl, rfl, SqL.of (by rw [upd_ne nl2]; exact upd_same), ez, ?_⟩
   rw [hM]
   exact ⟨vf0, st0.f, z, pf0, st0.fr, st0.n, x5, rfl, k04.trans kk, upd_same, (hf0.mono k4.tups).mono kk.tups, ok0.1, kk.but _ _ (one_not npb0) (k4.but _ _ (one_not npb0) hpf0), npb0, ok0.2⟩
  ·rw [hM]
   exact ⟨vf0, st0.f, st0.r, pf0, st0.fr, st0.n, x4, rfl, k04, b4, hf0.mono k4.tups, ok0.1, k4.but _ _ (one_not npb0) hpf0, npb0, ok0.2⟩
 clear k4 b4 hf0 hpf0 k04
 intro σ1 H5 hM1
 rw [hM] at hM1
 obtain ⟨vf, f1, z, pf, fr, nn, x1, rfl, k1, b1, hf, okf, hpf, npf, lfr⟩ := hM1
 refine ⟨M 2, ?_, ?_⟩
 ·refine ⟨_, rfl, rfl, _, rfl, ite2 (fun _ => ?_) (fun _ => ?_)⟩
  ·refine ⟨_, rfl, pf, rfl, ⟨_, SqL.of hpf⟩, fun D hD => ?_⟩
   have sD := same_new hD (.lst [])
   have nDb := new b1 hD
   have npD : pf ≠ D := ne_of_none hpf hD
   have hls5 := k1.but _ _ (one_not nsb) hls
   have nsD : ls ≠ D := ne_of_none hls5 hD
   refine cmp_by (fr.map V.int).length (fun i σ H' => (∃ o, σ = [o, some (.ref b), some (.ref ls)]) ∧ Kp [b, D] H5 H' ∧ (∃ x', H' b = some (.lst [.int x', .int y])) ∧ ∃ ns : List Int, H' D = some (.lst (ns.map V.int)) ∧ ns.length = i) ⟨⟨_, rfl⟩, .of sD, ⟨x1, sD _ _ b1⟩, [], upd_same, rfl⟩ ?_ ?_
   ·rintro σ H' ⟨_, kD, ⟨x', b'⟩, ns, eD, ln⟩
    rw [List.length_map] at ln
    refine ⟨⟨_, SqL.of (kD.but _ _ (two_not npf npD) hpf), Nat.le_refl _⟩, ?_⟩
    rw [hM]
    exact ⟨vf, f1, z, D, ns, nn, x', rfl, k1.trans (kD.drop hD), b', hf.mono kD.tups, okf, eD, nDb, by omega⟩
   ·rintro i σ H' hi ⟨⟨o, rfl⟩, kD, ⟨x', b'⟩, ns, eD, ln⟩
    have hi' : i < fr.length := by simpa using hi
    have ho := kD.but _ _ (two_not npf npD) hpf
    refine ⟨⟨_, .int fr[i], SqL.of ho, by simp [hi']⟩, ?_⟩
    rintro y' H6 ⟨rfl, hy⟩
    refine ⟨_, rfl, _, rfl, ls, _, rfl, kD.but _ _ (two_not nsb nsD) hls5, _, _, rfl, rfl, b, x', _, [.int y], rfl, b', by omega, fun x2 r2 _ _ => ?_⟩
    have kb2 : Kp [b, D] H6 (upd H6 b (.lst [.int x2, .int y])) := Kp.lst (by simp) b'
    have eD2 : upd H6 b (.lst [.int x2, .int y]) D = some (.lst (ns.map V.int)) := by rw [upd_ne nDb]; exact eD
    refine ⟨_, _, rfl, rfl, _, eD2, small1000 (by rw [List.length_map]; omega), ⟨_, rfl⟩, (kD.trans kb2).trans (Kp.lst (by simp) eD2), ⟨x2, by rw [upd_ne (Ne.symm nDb)]; exact upd_same⟩, ns ++ [r2 - 1], ?_, by rw [List.length_append, ln]; rfl⟩
    rw [upd_same, List.map_append]; rfl
  ·rw [hM]
   exact ⟨vf, f1, z, pf, fr, nn, x1, rfl, k1, b1, hf, okf, hpf, npf, lfr⟩
 intro σ2 H6 hM2
 rw [hM] at hM2
 clear hf okf hpf npf lfr k1 b1
 obtain ⟨vf, f1, z, pf, fr, nn, x1, rfl, k1, b1, hf, okf, hpf, npf, lfr⟩ := hM2
 refine ⟨M 2, ?_, ?_⟩
 ·refine ⟨_, rfl, rfl, _, rfl, ite2 (fun _ => ?_) (fun _ => ?_)⟩
  ·have hlp6 := k1.but _ _ (one_not npb) hlp
   have pr6 := PrL.mono k1.tups hps
   refine ⟨le2, fun l1 h1 => ?_⟩
   have s1 := same_new h1 (.lst [.non, .int 0])
   refine ⟨_, rfl, lp, rfl, ⟨_, SqL.of (s1 _ _ hlp6)⟩, fun D hD => ?_⟩
   have sD := same_new hD (.lst [])
   refine cmp_by ys.length (fun i σ H' => (∃ o1 o2, σ = [o1, o2]) ∧ Same (upd H6 l1 (.lst [.non, .int 0])) H' ∧ ∃ ns : List Int, H' D = some (.lst (ns.map V.int)) ∧ ns.length = i) ⟨⟨_, _, rfl⟩, sD, [], upd_same, rfl⟩ ?_ ?_
   ·rintro σ H' ⟨_, s2, ns, eD, ln⟩
    have s12 := s1.trans s2
    refine ⟨⟨_, SqL.of (s2 _ _ (s1 _ _ hlp6)), Nat.le_refl _⟩, ?_⟩
    refine ⟨l1, D, _, _, rfl, rfl, s2 _ _ upd_same, eD, small2 (by rw [List.length_map]; show 2 + _ ≤ 1000; omega), fun l3 h3 => ?_⟩
    have s3 := same_new h3 (.lst ([.non, .int 0] ++ ns.map V.int))
    have s13 := s12.trans s3
    have nl3 := new (s12 _ _ b1) h3
    refine ⟨_, rfl, _, rfl, lp, _, rfl, .inl (SqL.of (s13 _ _ hlp6)), _, _, rfl, rfl, b, x1, _, [.int y], rfl, s13 _ _ b1, by omega, fun x2 r r0 rm => ?_⟩
    obtain ⟨n2, e2⟩ := nums_at (l := [none, some 0] ++ ns.map some) r0 (by rw [List.length_append, List.length_map]; show r < ((2 + ns.length : Nat) : Int); omega)
    have el : ([none, some 0] ++ ns.map some : List (Option Int)).map numV = [.non, .int 0] ++ ns.map V.int := by rw [List.map_append, List.map_map]; rfl
    rw [el] at e2
    have kk := (Kp.of (L := [b]) s13).trans (bag x2 (s13 _ _ b1)).1
    refine ⟨l3, _, _, _, rfl, rfl, SqL.of (by rw [upd_ne nl3]; exact upd_same), e2, ?_⟩
    rw [hM]
    exact ⟨vf, f1, z, pf, fr, n2, x2, rfl, k1.trans kk, upd_same, hf.mono kk.tups, okf, kk.but _ _ (one_not npf) hpf, npf, lfr⟩
   ·rintro i σ H' hi ⟨⟨o1, o2, rfl⟩, s2, ns, eD, ln⟩
    have hi' : i < ys.length := hi
    have ho := s2 _ _ (s1 _ _ hlp6)
    obtain ⟨⟨n, sy⟩, hq, pp, vsy, ev, hpp, isy⟩ := paired_get (PrL.mono (s1.trans s2).tups pr6) (List.getElem?_eq_getElem hi')
    refine ⟨⟨_, ys[i], SqL.of ho, List.getElem?_eq_getElem hi'⟩, ?_⟩
    rintro y' H7 ⟨rfl, hy⟩
    have hyi := hy _ (SqL.of ho)
    rw [List.getElem?_eq_getElem hi', ev] at hyi
    cases hyi
    refine ⟨pp, _, rfl, SqT.of hpp, rfl, _, _, rfl, _, _, rfl, rfl, _, rfl, _, eD, small1000 (by rw [List.length_map]; omega), ⟨_, _, rfl⟩, same_upd s2 hD, ns ++ [n], by rw [upd_same, List.map_append]; rfl, by rw [List.length_append, ln]; rfl⟩
  ·rw [hM]
   exact ⟨vf, f1, z, pf, fr, nn, x1, rfl, k1, b1, hf, okf, hpf, npf, by omega⟩
 intro σN HN hMN
 rw [hM] at hMN
 clear hf okf hpf npf lfr k1 b1
 obtain ⟨vf, f1, z, pf, fr, nn, x1, rfl, k1, b1, hf, okf, hpf, npf, lfr⟩ := hMN
 have five : ∀ {r : Int}, 0 ≤ r → r < 5 → ∃ y, atI (ws.map V.str ++ hs.map V.str) r = some (.str y) ∧ dk (.nm y) := fun {r} r0 r5 => by
  obtain ⟨y, hy, ey⟩ := strs_at (ws := ws ++ hs) r0 (by rw [List.length_append, en.lw, en.lh']; exact r5)
  rw [List.map_append] at ey
  exact ⟨y, ey, (List.mem_append.mp hy).elim (en.dw y) (en.dh y)⟩
 refine ⟨M 2, ?_, ?_⟩
 ·refine ⟨_, rfl, rfl, _, rfl, ite2 (fun _ => ?_) (fun _ => ?_)⟩
  ·have e1 := en.kp k1
   have lws := en.lw
   have lhs := en.lh'
   cases f1 with
   | is x0 k0 =>
    obtain ⟨pv, a, c, rfl, hpv, ha, hc⟩ := hf
    refine ⟨_, rfl, pv, _, 0, _, rfl, rfl, SqT.of hpv, atI_nat (j := 0) rfl, _, rfl, _, rfl, lk, lh, _, _, rfl, rfl, e1.hk, e1.hh, small2 (by rw [List.length_map, List.length_map]; omega), fun l2 h2 => ?_⟩
    have s2 := same_new h2 (.lst (ws.map V.str ++ hs.map V.str))
    have nl2 := new b1 h2
    refine ⟨_, rfl, b, x1, 5, [.int y], rfl, s2 _ _ b1, by decide, fun x2 r2 r0 r5 => ?_⟩
    obtain ⟨y2, ey, dy⟩ := five r0 r5
    have kk := (Kp.of (L := [b]) s2).trans (bag x2 (s2 _ _ b1)).1
    refine ⟨l2, _, _, _, rfl, rfl, SqL.of (by rw [upd_ne nl2]; exact upd_same), ey, le2, fun t3 h3 => ?_⟩
    have s3 := same_new h3 (.tup [.str "is", .str y2])
    refine ⟨_, rfl, 2, rfl, pv, _, rfl, SqT.of (s3 _ _ (kk.tups _ _ hpv)), sixN _ 2 (by decide) (by show 0 < 3; decide), fun t4 h4 => ?_⟩
    rw [show cutV [V.str "is", a, c] (some 2) none = [c] from cutN _ 2]
    have s4 := same_new h4 (.tup [c])
    refine ⟨t3, t4, _, _, rfl, rfl, SqT.of (s4 _ _ upd_same), SqT.of upd_same, by simp, small2 (by show 2 + 1 ≤ 1000; decide), fun z => (by cases z), fun _ t5 h5 => ?_⟩
    have s5 := same_new h5 (.tup ([.str "is", .str y2] ++ [c]))
    have s35 := (s3.trans s4).trans s5
    rw [hM]
    exact ⟨.ref t5, .is (.nm y2) k0, z, pf, fr, nn, x2, rfl, (k1.trans kk).trans (.of s35), s35 _ _ upd_same, ⟨t5, .str y2, c, rfl, upd_same, rfl, (hc.mono kk.tups).mono s35.tups⟩, ⟨dy, okf.2⟩, s35 _ _ (kk.but _ _ (one_not npf) hpf), npf, lfr⟩
   | has x0 tt y0 =>
    obtain ⟨pv, a, c, rfl, hpv, ha, hc⟩ := hf
    refine ⟨_, rfl, pv, _, 0, _, rfl, rfl, SqT.of hpv, atI_nat (j := 0) rfl, _, rfl, _, rfl, lk, lh, _, _, rfl, rfl, e1.hk, e1.hh, small2 (by rw [List.length_map, List.length_map]; omega), fun l2 h2 => ?_⟩
    have s2 := same_new h2 (.lst (ws.map V.str ++ hs.map V.str))
    have nl2 := new b1 h2
    refine ⟨_, rfl, b, x1, 5, [.int y], rfl, s2 _ _ b1, by decide, fun x2 r2 r0 r5 => ?_⟩
    obtain ⟨y2, ey, dy⟩ := five r0 r5
    have kk := (Kp.of (L := [b]) s2).trans (bag x2 (s2 _ _ b1)).1
    refine ⟨l2, _, _, _, rfl, rfl, SqL.of (by rw [upd_ne nl2]; exact upd_same), ey, le2, fun t3 h3 => ?_⟩
    have s3 := same_new h3 (.tup [.str "has", .str y2])
    refine ⟨_, rfl, 2, rfl, pv, _, rfl, SqT.of (s3 _ _ (kk.tups _ _ hpv)), sixN _ 2 (by decide) (by show 0 < 4; decide), fun t4 h4 => ?_⟩
    rw [show cutV [V.str "has", a, .str tt, c] (some 2) none = [.str tt, c] from cutN _ 2]
    have s4 := same_new h4 (.tup [.str tt, c])
    refine ⟨t3, t4, _, _, rfl, rfl, SqT.of (s4 _ _ upd_same), SqT.of upd_same, by simp, small2 (by show 2 + 2 ≤ 1000; decide), fun z => (by cases z), fun _ t5 h5 => ?_⟩
    have s5 := same_new h5 (.tup ([.str "has", .str y2] ++ [.str tt, c]))
    have s35 := (s3.trans s4).trans s5
    rw [hM]
    exact ⟨.ref t5, .has (.nm y2) tt y0, z, pf, fr, nn, x2, rfl, (k1.trans kk).trans (.of s35), s35 _ _ upd_same, ⟨t5, .str y2, c, rfl, upd_same, rfl, (hc.mono kk.tups).mono s35.tups⟩, ⟨dy, okf.2⟩, s35 _ _ (kk.but _ _ (one_not npf) hpf), npf, lfr⟩
  ·rw [hM]
   exact ⟨vf, f1, z, pf, fr, nn, x1, rfl, k1, b1, hf, okf, hpf, npf, by omega⟩
 intro σ4 H8 hM8
 rw [hM] at hM8
 clear hf okf hpf npf lfr k1 b1
 obtain ⟨vf, f1, z, pf, fr, nn, x1, rfl, k1, b1, hf, okf, hpf, npf, lfr⟩ := hM8
 refine ⟨M 2, ?_, ?_⟩
 ·have stay : M 2 [some (.ref b), some (.ref ls), some (.ref lk), some (.ref lh), some (.ref lp), some (.int at'), some vf, some (.str z), some (.ref pf), some (numV nn), some (.int way), none, none] H8 := by
   rw [hM]
   exact ⟨vf, f1, z, pf, fr, nn, x1, rfl, k1, b1, hf, okf, hpf, npf, lfr⟩
  refine ⟨_, rfl, rfl, _, rfl, ite2 (fun _ => ?_) (fun _ => iteF stay)⟩
  cases f1 with
  | has x0 tt y0 =>
   obtain ⟨pv, a, c, rfl, hpv, ha, hc⟩ := hf
   refine ⟨_, rfl, pv, _, 0, _, rfl, rfl, SqT.of hpv, atI_nat (j := 0) rfl, rfl, _, rfl, ?_⟩
   rw [has_is']
   exact iteF stay
  | is x0 k0 =>
   obtain ⟨pv, a, c, rfl, hpv, ha, hc⟩ := hf
   refine ⟨_, rfl, pv, _, 0, _, rfl, rfl, SqT.of hpv, atI_nat (j := 0) rfl, rfl, _, rfl, ?_⟩
   rw [is_is]
   refine iteT ⟨_, rfl, pv, _, 1, _, rfl, rfl, SqT.of hpv, atI_nat (j := 1) rfl, _, rfl, _, rfl, b, x1, 3, [.int y], rfl, b1, by decide, fun x2 r2 r0 r3 => ?_⟩
   obtain ⟨kk, b2⟩ := bag x2 b1
   obtain ⟨y2, hy, ey⟩ := strs_at (ws := ws) r0 (by rw [en.lw]; exact r3)
   refine ⟨lk, _, _, _, rfl, rfl, SqL.of (kk.but _ _ (one_not en.nk) (en.kp k1).hk), ey, le3, fun t1 h1 => ?_⟩
   have s1 := same_new h1 (.tup [.str "is", a, .str y2])
   rw [hM]
   exact ⟨.ref t1, .is x0 (.nm y2), z, pf, fr, nn, x2, rfl, (k1.trans kk).trans (.of s1), s1 _ _ b2, ⟨t1, a, .str y2, rfl, upd_same, (ha.mono kk.tups).mono s1.tups, rfl⟩, ⟨okf.1, Nat.zero_le _⟩, s1 _ _ (kk.but _ _ (one_not npf) hpf), npf, lfr⟩
 intro σ5 H9 hM9
 rw [hM] at hM9
 clear hf okf hpf npf lfr k1 b1
 obtain ⟨vf, f1, z, pf, fr, nn, x1, rfl, k1, b1, hf, okf, hpf, npf, lfr⟩ := hM9
 refine ⟨M 3, ?_, ?_⟩
 ·refine ⟨_, rfl, rfl, _, rfl, ite2 (fun _ => ?_) (fun _ => ?_)⟩
  ·refine ⟨_, rfl, _, rfl, _, rfl, _, _, rfl, rfl, b, x1, at' + 1, [.int y], rfl, b1, by omega, fun x2 r2 _ _ => ?_⟩
   obtain ⟨kk, b2⟩ := bag x2 b1
   have pf2 := kk.but _ _ (one_not npf) hpf
   generalize upd H9 b (.lst [.int x2, .int y]) = H10 at kk b2 pf2 ⊢
   refine ⟨le1, fun l1 h1 => ?_⟩
   have s1 := same_new h1 (.lst [.int r2])
   refine ⟨pf, l1, _, _, rfl, rfl, s1 _ _ pf2, upd_same, small2 (by rw [List.length_map]; show _ + 1 ≤ _; omega), fun l3 h3 => ?_⟩
   have s3 := same_new h3 (.lst (fr.map V.int ++ [.int r2]))
   have s13 := s1.trans s3
   have nl3 := new (s1 _ _ b2) h3
   rw [hM]
   refine ⟨vf, f1, z, l3, fr ++ [r2], nn, x2, rfl, (k1.trans kk).trans (.of s13), s13 _ _ b2, (hf.mono kk.tups).mono s13.tups, okf, ?_, nl3, by rw [List.length_append]; show _ + 1 ≤ _; omega⟩
   rw [List.map_append]; exact upd_same
  ·rw [hM]
   exact ⟨vf, f1, z, pf, fr, nn, x1, rfl, k1, b1, hf, okf, hpf, npf, by omega⟩
 intro σ6 H10 hM10
 rw [hM] at hM10
 clear hf okf hpf npf lfr k1 b1
 obtain ⟨vf, f1, z, pf, fr, nn, x1, rfl, k1, b1, hf, okf, hpf, npf, lfr⟩ := hM10
 have hls10 := k1.but _ _ (one_not nsb) hls
 have st10 := StL.keep k1 hst
 have at1 : ((at'.toNat : Nat) : Int) = at' := by omega
 have hn : at'.toNat < xs.length := by omega
 have c1 : cutV xs none (some at') = xs.take at'.toNat := by have := cut_to xs at'.toNat (by omega); rwa [at1] at this
 have c2 : cutV xs (some (at' + 1)) none = xs.drop (at'.toNat + 1) := by have := cutN xs (at'.toNat + 1); rwa [show ((at'.toNat + 1 : Nat) : Int) = at' + 1 by omega] at this
 refine ⟨_, rfl, _, rfl, _, rfl, ls, _, rfl, SqL.of hls10, fun l1 h1 => ?_⟩
 rw [c1]
 have s1 := same_new h1 (.lst (xs.take at'.toNat))
 refine ⟨_, rfl, _, rfl, _, rfl, _, rfl, le4, fun t2 h2 => ⟨le1, fun l2 h3 => ?_⟩⟩
 have s2 := same_new h2 (.tup [vf, .str z, .ref pf, numV nn])
 have s3 := same_new h3 (.lst [.ref t2])
 have lt1 : (xs.take at'.toNat).length ≤ 150 := by rw [List.length_take]; omega
 have ld1 : (xs.drop (at'.toNat + 1)).length ≤ 150 := by rw [List.length_drop]; omega
 refine ⟨l1, l2, _, _, rfl, rfl, (s2.trans s3) _ _ upd_same, upd_same, small2 (by show _ + 1 ≤ 1000; omega), fun l3 h4 => ?_⟩
 have s4 := same_new h4 (.lst (xs.take at'.toNat ++ [.ref t2]))
 have s14 := ((s1.trans s2).trans s3).trans s4
 refine ⟨_, rfl, _, rfl, _, _, rfl, rfl, _, rfl, ls, _, rfl, SqL.of (s14 _ _ hls10), fun l4 h5 => ?_⟩
 rw [c2]
 have s5 := same_new h5 (.lst (xs.drop (at'.toNat + 1)))
 refine ⟨l3, l4, _, _, rfl, rfl, s5 _ _ upd_same, upd_same, small2 (by rw [List.length_append]; show _ + 1 + _ ≤ 1000; omega), fun lm h6 => ?_⟩
 have s6 := same_new h6 (.lst ((xs.take at'.toNat ++ [.ref t2]) ++ xs.drop (at'.toNat + 1)))
 have s16 := (s14.trans s5).trans s6
 have hlm := none_of_same (s14.trans s5) h6
 have et2 := s6 _ _ (s5 _ _ (s4 _ _ (s3 _ _ (show upd (upd H10 l1 (.lst (xs.take at'.toNat))) t2 (.tup [vf, .str z, .ref pf, numV nn]) t2 = _ from upd_same))))
 have elm : upd (upd (upd (upd (upd (upd H10 l1 (.lst (xs.take at'.toNat))) t2 (.tup [vf, .str z, .ref pf, numV nn])) l2 (.lst [.ref t2])) l3 (.lst (xs.take at'.toNat ++ [.ref t2]))) l4 (.lst (xs.drop (at'.toNat + 1)))) lm (.lst ((xs.take at'.toNat ++ [.ref t2]) ++ xs.drop (at'.toNat + 1))) lm = _ := upd_same
 generalize upd (upd (upd (upd (upd (upd H10 l1 (.lst (xs.take at'.toNat))) t2 (.tup [vf, .str z, .ref pf, numV nn])) l2 (.lst [.ref t2])) l3 (.lst (xs.take at'.toNat ++ [.ref t2]))) l4 (.lst (xs.drop (at'.toNat + 1)))) lm (.lst ((xs.take at'.toNat ++ [.ref t2]) ++ xs.drop (at'.toNat + 1))) = Hf at s16 et2 elm ⊢
 have nlm := new b1 hlm
 have stf : StL (lm :: [b]) Hf xs ss := StL.fresh st10 hlm s16
 have npl : pf ≠ lm := ne_of_none hpf hlm
 have istp : IsStp (lm :: [b]) Hf ⟨f1, z, fr, nn⟩ (.ref t2) := ⟨t2, pf, vf, rfl, et2, hf.mono s16.tups, s16 _ _ hpf, by
  intro m
  rcases List.mem_cons.mp m with m | m
  ·exact npl m
  ·exact npf (List.mem_singleton.mp m)⟩
 have stM : StL (lm :: [b]) Hf ((xs.take at'.toNat ++ [.ref t2]) ++ xs.drop (at'.toNat + 1)) ((ss.take at'.toNat ++ [⟨f1, z, fr, nn⟩]) ++ ss.drop (at'.toNat + 1)) := paired_app (paired_app (paired_take _ stf) (.cons istp .nil)) (paired_drop _ stf)
 have lM : ((ss.take at'.toNat ++ [(⟨f1, z, fr, nn⟩ : Stp)]) ++ ss.drop (at'.toNat + 1)).length = ss.length := by
  rw [List.length_append, List.length_append, List.length_take, List.length_drop]; show min _ _ + 1 + _ = _; omega
 have okM : ∀ s ∈ (ss.take at'.toNat ++ [(⟨f1, z, fr, nn⟩ : Stp)]) ++ ss.drop (at'.toNat + 1), okE s.f ∧ s.fr.length ≤ 3 := fun s hs => by
  rcases List.mem_append.mp hs with hs | hs
  ·rcases List.mem_append.mp hs with hs | hs
   ·have := oks s (List.mem_of_mem_take hs); exact ⟨this.1, by omega⟩
   ·rw [List.mem_singleton.mp hs]; exact ⟨okf, lfr⟩
  ·have := oks s (List.mem_of_mem_drop hs); exact ⟨this.1, by omega⟩
 have k0f := k1.trans (.of s16)
 have bf := s16 _ _ b1
 have hlsf := s16 _ _ hls10
 have nslm : ls ≠ lm := ne_of_none hls10 hlm
 generalize (xs.take at'.toNat ++ [V.ref t2]) ++ xs.drop (at'.toNat + 1) = mv at elm stM ⊢
 generalize (ss.take at'.toNat ++ [(⟨f1, z, fr, nn⟩ : Stp)]) ++ ss.drop (at'.toNat + 1) = ms at stM lM okM
 have lmv := StL.len stM
 refine ⟨fun σ H' => ∃ (mv' : List V) (ms' : List Stp) (x' : Int) (o12 : Option V), σ = [some (.ref b), some (.ref ls), some (.ref lk), some (.ref lh), some (.ref lp), some (.int at'), some vf, some (.str z), some (.ref pf), some (numV nn), some (.int way), some (.ref lm), o12] ∧ Kp [b] H H' ∧ H' b = some (.lst [.int x', .int y]) ∧ H' lm = some (.lst mv') ∧ StL [b] H' mv' ms' ∧ ms'.length = ss.length ∧ ∀ s ∈ ms', okE s.f ∧ s.fr.length ≤ 3, ?_, ?_⟩
 ·refine ⟨_, rfl, rfl, _, rfl, ite2 (fun _ => ?_) (fun _ => ⟨mv, ms, x1, _, rfl, k0f, bf, elm, stM.weak (by simp), lM, okM⟩)⟩
  refine ⟨_, rfl, _, rfl, ls, _, rfl, .inl (SqL.of hlsf), b, x1, _, [.int y], rfl, bf, n0, fun x2 o o0 om => ?_⟩
  obtain ⟨kg, bg⟩ := bag x2 bf
  generalize upd Hf b (.lst [.int x2, .int y]) = Hg at kg bg ⊢
  have stg := StL.keep (L := lm :: [b]) (kg.mono (by simp)) stf
  have stMg := StL.keep (L := lm :: [b]) (kg.mono (by simp)) stM
  have elg := kg.but _ _ (one_not nlm) elm
  have hlsg := kg.but _ _ (one_not nsb) hlsf
  obtain ⟨vo, so, evo, hso, iso⟩ := stp_at stg o0 om
  obtain ⟨va, sa, eva, hsa, isa⟩ := stp_at stg a0 am
  have oko := oks _ (List.mem_of_getElem? hso)
  have oka := oks _ (List.mem_of_getElem? hsa)
  refine ⟨_, rfl, _, rfl, ls, _, _, _, rfl, rfl, SqL.of hlsg, evo, _, rfl, _, rfl, lm, _, _, _, rfl, rfl, elg, ixN_of a0 (by omega), ?_⟩
  have ka : Kp [lm] Hg (upd Hg lm (.lst (mv.set at'.toNat vo))) := Kp.lst (List.mem_singleton.mpr rfl) elg
  have kc : Kp [lm] (upd Hg lm (.lst (mv.set at'.toNat vo))) (upd (upd Hg lm (.lst (mv.set at'.toNat vo))) lm (.lst ((mv.set at'.toNat vo).set o.toNat va))) := Kp.lst (List.mem_singleton.mpr rfl) upd_same
  refine ⟨_, rfl, _, rfl, ls, _, _, _, rfl, rfl, SqL.of (ka.but _ _ (one_not nslm) hlsg), eva, _, rfl, _, rfl, lm, _, _, _, rfl, rfl, upd_same, ixN_of o0 (by rw [List.length_set]; omega), ?_⟩
  have kac := ka.trans kc
  have stE : StL (lm :: [b]) Hg ((mv.set at'.toNat vo).set o.toNat va) ((ms.set at'.toNat so).set o.toNat sa) := paired_set (R := fun v s => IsStp (lm :: [b]) Hg s v) isa _ (paired_set (R := fun v s => IsStp (lm :: [b]) Hg s v) iso _ stMg)
  refine ⟨_, (ms.set at'.toNat so).set o.toNat sa, x2, _, rfl, ⟨fun c oo hc hco => ?_, (k0f.trans kg).tups.trans kac.tups⟩, ?_, upd_same, (StL.keep (L := lm :: [b]) (kac.mono (by simp)) stE).weak (by simp), by rw [List.length_set, List.length_set]; exact lM, fun s hs => ?_⟩
  ·have hc1 := (k0f.trans kg).but c oo hc hco
   refine kac.but c oo (one_not fun e => ?_) hc1
   have := k1.but c oo hc hco
   rw [e, hlm] at this; cases this
  ·exact kac.but _ _ (one_not (Ne.symm nlm)) bg
  ·rcases mem_set' hs with hs | rfl
   ·rcases mem_set' hs with hs | rfl
    ·exact okM s hs
    ·exact ⟨oko.1, by have := oko.2; omega⟩
   ·exact ⟨oka.1, by have := oka.2; omega⟩
 rintro σ H' ⟨mv', ms', x', o12, rfl, kz, bz, ez, stz, lz, okz⟩
 exact ⟨_, rfl, q lm H' mv' ms' x' kz bz ez nlm stz lz okz⟩
end
end K17
namespace L2
open PySem PySem.Spec PyProof.Rows
def rSl3 (K : PySem.W.Frag) : V → Option Int → Hp → VK → Prop := fun x st H Q => st ≠ some 0 ∧ ∃ a xs, x = .ref a ∧ SqL K H a xs ∧ ∀ p ys, H p = none → (∀ y ∈ ys, y ∈ xs) → ys.length ≤ xs.length → Q (.ref p) (upd H p (.lst ys))
def tSl3 (K : PySem.W.Frag) (te : TE) (tl th ts : TO) : TE := fun σ H Q => te σ H fun x H1 => tl σ H1 fun _ H2 => th σ H2 fun _ H3 => ts σ H3 fun st H4 => rSl3 K x st H4 Q
theorem vals_pick {xs : List V} {its : List Value} (r : Vals xs its) : ∀ idx : List Nat, ∃ ys, Vals ys (idx.filterMap (its.toArray[·]?)) ∧ ∀ y ∈ ys, y ∈ xs
 | [] => ⟨[], .nil, fun _ h => (List.not_mem_nil h).elim⟩
 | i :: idx => by
  obtain ⟨ys, v, m⟩ := vals_pick r idx
  cases c : xs[i]? with
  | none =>
   have e := Vals.none_of r c
   refine ⟨ys, ?_, m⟩
   rw [List.filterMap_cons, show its.toArray[i]? = none by rw [List.getElem?_toArray]; exact e]
   exact v
  | some x =>
   obtain ⟨u, eu, ru⟩ := Vals.get r c
   refine ⟨x :: ys, ?_, fun y hy => ?_⟩
   ·rw [List.filterMap_cons, show its.toArray[i]? = some u by rw [List.getElem?_toArray]; exact eu]
    exact .cons ru v
   ·rcases List.mem_cons.mp hy with rfl | hy
    ·exact List.mem_of_getElem? c
    ·exact m y hy
section
variable {X : Cx}
theorem pe_slice3 {e est : Expr} {lo hi : Option Expr} {te : TE} {tl th ts : TO} {p2 pos : Pos} (he : PE X e te) (hl : PO X lo tl) (hu : PO X hi th) (hs : PO X (some est) ts) : PE X (.Subscript e (.Slice lo hi (some est) p2) pos) (tSl3 X.K te tl th ts) := by
 intro pins s σ H Q I h
 refine Subscript_ (thn (he pins s σ H _ I h) fun v s1 ⟨x, H1, I1, r1, q1⟩ => ?_)
 refine wpAny_Slice (thn (hl pins s1 σ H1 _ I1 q1) fun vl s2 ⟨l, H2, I2, pl, q2⟩ => thn (hu pins s2 σ H2 _ I2 q2) fun vu s3 ⟨u, H3, I3, pu, q3⟩ => thn (hs pins s3 σ H3 _ I3 q3) fun vs s4 ⟨st, H4, I4, ps, h0, a, xs, ex, hx, q4⟩ => ?_)
 subst ex
 cases r1
 have I5 : Inv X pins σ H4 { s4 with heap := s4.heap.push { cls := .type "slice", data := .fields #[vl, vu, vs] } } := I4.kept (t' := s4.toks) fun b ob q => Heap.get?_push_of_some _ q
 obtain ⟨its, r, ht, hz⟩ := I5.list hx
 have hlen := r.length
 show wpAny (model X.prog X.w) X.A (subscriptTail e (.Slice lo hi (some est) p2) (.ref a) (.ref s4.heap.objs.size)) (EP X pins σ Q) X.xe { s4 with heap := s4.heap.push { cls := .type "slice", data := .fields #[vl, vu, vs] } }
 refine tail_any (ops := [.ref a, .ref s4.heap.objs.size]) ht.isList.typeIs slot_list_getitem.lookup ?_ (by with_unfolding_all rfl)
 refine wpAny_getItem_list_slice ht.isList (Heap.IsSliceOf.new ..) pl pu ps h0 ?_ (by rw [List.size_toArray] <;> omega)
 have sz := slicePick_size_le its.toArray l u st
 obtain ⟨ys, vy, my⟩ := vals_pick r (sliceRange (sliceBounds l u st its.toArray.size).1 (sliceBounds l u st its.toArray.size).2.1 (sliceBounds l u st its.toArray.size).2.2)
 have ly := vy.length
 have sz' : ys.length ≤ xs.length := by
  rw [ly, hlen]
  simpa [slicePick] using sz
 refine ⟨.ref _, _, I5.laid (t' := s4.toks) (o := .lst ys) (fun b ob q => Heap.get?_push_of_some _ q) (Nat.le_refl _) ?_, rfl, q4 _ ys (I5.hok.fresh (Nat.le_refl _)) my sz'⟩
 exact ⟨Nat.le_trans sz' hz, _, 0, vy, Heap.get?_push_size _ rfl⟩
end
end L2
namespace K17
open PySem L2
def spLaw (K : PySem.W.Frag) : Sp := fun vs H Q _ => ∃ (a : Addr) (ns : List Int), vs = [.ref a] ∧ SqL K H a (ns.map V.int) ∧ ns.length ≤ 63 ∧ ∀ H', Q (.bl true) H'
theorem seqK {K : PySem.W.Frag} {H H' : Hp} {a : Addr} {xs : List V} (h : SqL K H a xs) (k : ∀ o, H a = some o → H' a = some o) : SqL K H' a xs := by
 rcases h with (h | ⟨o, h⟩) | h
 ·exact .inl (.inl (k _ h))
 ·exact .inl (.inr ⟨o, k _ h⟩)
 ·exact .inr h
theorem ints_of {ys : List V} {ns : List Int} (h : ∀ y ∈ ys, y ∈ ns.map V.int) : ∃ ms : List Int, ys = ms.map V.int := by
 induction ys with
 | nil => exact ⟨[], rfl⟩
 | cons y ys ih =>
  obtain ⟨ms, rfl⟩ := ih fun z hz => h z (List.mem_cons_of_mem _ hz)
  obtain ⟨m, _, rfl⟩ := List.mem_map.mp (h y List.mem_cons_self)
  exact ⟨m :: ms, rfl⟩
section
variable {P : Program} {w : World} {K : PySem.W.Frag} {mg : Str → Option Value} {base : Heap} {f g e a1 a2 a3 a4 a5 a6 a7 a8 a9 : Addr} {fd gd' ed d1 d2 d3 d4 d5 d6 d7 d8 d9 : FuncData}
theorem scLaw : FnScope ["_law_script", "_law_kin", "_law_ties", "_law_things_here", "_law_bag", "_law_cells", "_law_pairs", "_law_steps", "_law_cell_here", "_law_singles_here", "_law_short"] ["_law_script"] (defScope sLaw) := ⟨rfl, rfl, rfl, by decide +kernel, rfl, by decide +kernel, by decide +kernel⟩
theorem ok_law (F : Fun K "law" "law" sLaw f fd) (ml : mg "len" = none)
  (Gc : FnOk P w K mg base CX0 1 a1 d1 ["_law_script", "_law_k"] (spCell K)) (bGc : Binds K d1 ["_law_script", "_law_k"] []) (kGc : PySem.W.keepIn K (.ref a1) = true) (mGc : mg "_law_cell" = some (.ref a1))
  (Gw : FnOk P w K mg base CX0 1 a2 d2 ["_law_cell_here", "_law_many"] spWords) (bGw : Binds K d2 ["_law_cell_here", "_law_many"] []) (kGw : PySem.W.keepIn K (.ref a2) = true) (mGw : mg "_law_words" = some (.ref a2))
  (Gt : FnOk P w K mg base CX0 2 a3 d3 ["_law_cell_here", "_law_many"] spThings) (bGt : Binds K d3 ["_law_cell_here", "_law_many"] []) (kGt : PySem.W.keepIn K (.ref a3) = true) (mGt : mg "_law_things" = some (.ref a3))
  (Gnu : FnOk P w K mg base CX0 6 a4 d4 ["_law_cells", "_law_bag", "_law_kin", "_law_ties", "_law_things_here"] spNumbered) (bGnu : Binds K d4 ["_law_cells", "_law_bag", "_law_kin", "_law_ties", "_law_things_here"] []) (kGnu : PySem.W.keepIn K (.ref a4) = true) (mGnu : mg "_law_numbered" = some (.ref a4))
  (Ggr : FnOk P w K mg base CX0 8 a5 d5 ["_law_bag", "_law_steps", "_law_pairs", "_law_kin", "_law_ties"] spGrown) (bGgr : Binds K d5 ["_law_bag", "_law_steps", "_law_pairs", "_law_kin", "_law_ties"] []) (kGgr : PySem.W.keepIn K (.ref a5) = true) (mGgr : mg "_law_grown" = some (.ref a5))
  (Gso : FnOk P w K mg base CX0 2 a6 d6 ["_law_bag", "_law_steps", "_law_kin", "_law_things_here", "_law_pairs"] spSpoil) (bGso : Binds K d6 ["_law_bag", "_law_steps", "_law_kin", "_law_things_here", "_law_pairs"] []) (kGso : PySem.W.keepIn K (.ref a6) = true) (mGso : mg "_law_spoil" = some (.ref a6))
  (Gss : FnOk P w K mg base CX0 1 a7 d7 ["_law_pairs"] spSingles) (bGss : Binds K d7 ["_law_pairs"] []) (kGss : PySem.W.keepIn K (.ref a7) = true) (mGss : mg "_law_singles" = some (.ref a7))
  (Gdr : FnOk P w K mg base CX0 1 a8 d8 ["_law_bag", "_law_many"] spDraw) (bGdr : Binds K d8 ["_law_bag", "_law_many"] []) (kGdr : PySem.W.keepIn K (.ref a8) = true) (mGdr : mg "_law_draw" = some (.ref a8))
  (Gho : FnOk P w K mg base CX0 65 a9 d9 ["_law_steps", "_law_pairs", "_law_singles_here"] spHolds) (bGho : Binds K d9 ["_law_steps", "_law_pairs", "_law_singles_here"] []) (kGho : PySem.W.keepIn K (.ref a9) = true) (mGho : mg "_law_holds" = some (.ref a9)) :
  FnOk P w K mg base CX0 66 f fd ["_law_script"] (spLaw K) := by
 refine F.ok scLaw (fun vs H Q E h => ?_) (fun cdv A outer s H vs Q E hr h => ?_)
 ·obtain ⟨a, ns, rfl, _⟩ := h; rfl
 obtain ⟨a, ns, rfl, hS, h63, q⟩ := h
 have hrho := hr
 have hrc := hr.mono (show 1 ≤ 65 by decide)
 have hrw := hr.mono (show 1 ≤ 65 by decide)
 have hrt := hr.mono (show 2 ≤ 65 by decide)
 have hrnu := hr.mono (show 6 ≤ 65 by decide)
 have hrgr := hr.mono (show 8 ≤ 65 by decide)
 have hrso := hr.mono (show 2 ≤ 65 by decide)
 have hrss := hr.mono (show 1 ≤ 65 by decide)
 have hrdr := hr.mono (show 1 ≤ 65 by decide)
 refine ⟨_, @pss_cons _ _ _ _ _ (by exact ps_set (i := 1) scLaw.nd rfl (Or.inl rfl) (pe_call Gw hrw rfl mGw kGw bGw .nil pass0 (pa_cons (pe_call Gc hrc rfl mGc kGc bGc .nil pass0 (pa_cons (pv 0) (pa_cons pe_int pa_nil))) (pa_cons pe_int pa_nil))))
  (@pss_cons _ _ _ _ _ (by exact ps_set (i := 2) scLaw.nd rfl (Or.inl rfl) (pe_call Gw hrw rfl mGw kGw bGw .nil pass0 (pa_cons (pe_op op_mod (pe_call Gc hrc rfl mGc kGc bGc .nil pass0 (pa_cons (pv 0) (pa_cons pe_int pa_nil))) (pe_op op_pow pe_int pe_int)) (pa_cons pe_int pa_nil))))
  (@pss_cons _ _ _ _ _ (by exact ps_set (i := 3) scLaw.nd rfl (Or.inl rfl) (pe_call Gt hrt rfl mGt kGt bGt .nil pass0 (pa_cons (pe_op op_fdiv (pe_call Gc hrc rfl mGc kGc bGc .nil pass0 (pa_cons (pv 0) (pa_cons pe_int pa_nil))) pe_int) (pa_cons pe_int pa_nil))))
  (@pss_cons _ _ _ _ _ (by exact ps_set (i := 4) scLaw.nd rfl (Or.inl rfl) (pe_lst (pa_cons (pe_op op_mod (pe_call Gc hrc rfl mGc kGc bGc .nil pass0 (pa_cons (pv 0) (pa_cons pe_int pa_nil))) pe_int) (pa_cons pe_int pa_nil))))
  (@pss_cons _ _ _ _ _ (by exact ps_set (i := 5) scLaw.nd rfl (Or.inl rfl) (pe_op op_cat (pe_lst (pa_cons (pe_call Gc hrc rfl mGc kGc bGc .nil pass0 (pa_cons (pv 0) (pa_cons pe_int pa_nil))) (pa_cons (pe_call Gc hrc rfl mGc kGc bGc .nil pass0 (pa_cons (pv 0) (pa_cons pe_int pa_nil))) pa_nil))) (pe_slice3 (pv 0) (po_some pe_int) (po_some pe_int) (po_some pe_int))))
  (@pss_cons _ _ _ _ _ (by exact ps_set (i := 6) scLaw.nd rfl (Or.inl rfl) (pe_call Gnu hrnu rfl mGnu kGnu bGnu .nil pass0 (pa_cons (pv 5) (pa_cons (pv 4) (pa_cons (pv 1) (pa_cons (pv 2) (pa_cons (pv 3) pa_nil)))))))
  (@pss_cons _ _ _ _ _ (by exact ps_set (i := 7) scLaw.nd rfl (Or.inl rfl) (pe_lst pa_nil))
  (@pss_mid _ _ _ _ _ (by exact ps_for PassesOwn.never rfl (pi_list (pe_op op_cat (pe_op op_cat (pe_lst (pa_cons pe_int (pa_cons pe_int (pa_cons pe_int pa_nil)))) (pe_slice3 (pv 0) (po_some pe_int) (po_some pe_int) (po_some pe_int))) (pe_slice3 (pv 0) (po_some pe_int) (po_some pe_int) (po_some pe_int)))) (pg_name (i := 8) scLaw.nd rfl (Or.inl rfl)) (@pss_cons _ _ _ _ _ (by exact ps_expr (pe_bm PySem.F.plainAttrs_list PySem.F.slot_list_append PySem.F.type_list_append mt_append (pv 7) (pa_cons (pe_call Ggr hrgr rfl mGgr kGgr bGgr .nil pass0 (pa_cons (pv 4) (pa_cons (pv 7) (pa_cons (pv 6) (pa_cons (pv 1) (pa_cons (pv 2) pa_nil)))))) pa_nil))) (@pss_one _ _ _ (by exact ps_asg (pe_op op_mod (pe_op op_add (pe_ix ix_list (pv 4) pe_int (fun _ _ => rfl)) (pv 8)) pe_int) (pg_sub (pv 4) pe_int set_list)))))
  (@pss_mid _ _ _ _ _ (by exact ps_if (pt_cmpR op_eq (pe_op op_mod (pe_call Gc hrc rfl mGc kGc bGc .nil pass0 (pa_cons (pv 0) (pa_cons pe_int pa_nil))) pe_int) pe_int (nomark _)) (@pss_one _ _ _ (by exact ps_set (i := 7) scLaw.nd rfl (Or.inl rfl) (pe_call Gso hrso rfl mGso kGso bGso .nil pass0 (pa_cons (pv 4) (pa_cons (pv 7) (pa_cons (pv 1) (pa_cons (pv 3) (pa_cons (pv 6) pa_nil)))))))) pss_nil)
  (@pss_cons _ _ _ _ _ (by exact ps_set (i := 9) scLaw.nd rfl (Or.inl rfl) (pe_call Gss hrss rfl mGss kGss bGss .nil pass0 (pa_cons (pv 6) pa_nil)))
  (@pss_cons _ _ _ _ _ (by exact ps_set (i := 10) scLaw.nd rfl (Or.inl rfl) (pe_call Gdr hrdr rfl mGdr kGdr bGdr .nil pass0 (pa_cons (pv 4) (pa_cons (pe_op op_add (pe_callB call_len_seq rfl ml PySem.boot_len (pa_cons (pv 7) pa_nil)) pe_int) pa_nil))))
  (@pss_one _ _ _ (by exact @ps_ret _ _ _ _ (pe_and (pe_call Gho hrho rfl mGho kGho bGho .nil pass0 (pa_cons (pv 7) (pa_cons (pv 6) (pa_cons (pv 9) pa_nil)))) (pe_one (pe_call Gho hrho rfl mGho kGho bGho .nil pass0 (pa_cons (pe_slice sl_list (pv 7) po_none (po_some (pv 10))) (pa_cons (pv 6) (pa_cons (pv 9) pa_nil)))))))))))))))))), ?_⟩
 have p40 : CPow 10 40 := ⟨by decide, by decide, by decide⟩
 refine ⟨_, rfl, a, ns, 0, rfl, hS, by decide, fun r0 => ⟨_, 3, rfl, by decide, by decide, fun lk H1 ws s1 f1 e1 l1 w1 => ?_⟩⟩
 refine ⟨_, rfl, a, ns, 1, rfl, s1.seq hS, by decide, fun r1 => ⟨10, 40, rfl, rfl, p40, _, _, rfl, rfl, (show (0 : Int) < 10 ^ (40 : Int).toNat by decide), _, 2, rfl, by decide, by decide, fun lt H2 ts s2 f2 e2 l2 w2 => ?_⟩⟩
 have s02 := s1.trans s2
 refine ⟨_, rfl, a, ns, 1, rfl, s02.seq hS, by decide, fun r2 => ⟨_, _, rfl, rfl, ⟨by decide, by decide⟩, _, 2, rfl, by decide, by decide, fun lh H3 hs s3 f3 e3 l3 w3 => ?_⟩⟩
 have s03 := s02.trans s3
 refine ⟨_, rfl, a, ns, 3, rfl, s03.seq hS, by decide, fun r3 => ⟨_, _, rfl, rfl, (show (0 : Int) < 2147483647 by decide), le2, fun b hb => ?_⟩⟩
 have s4 := same_new hb (.lst [.int (r3 % 2147483647), .int 10])
 have s04 := s03.trans s4
 have e1' := (s2.trans s3) _ _ e1
 have e2' := s3 _ _ e2
 have nkb := ne_of_none e1' hb
 have ntb := ne_of_none e2' hb
 have nhb := ne_of_none e3 hb
 refine ⟨_, rfl, a, ns, 3, rfl, s04.seq hS, by decide, fun r4 => ⟨_, rfl, a, ns, 2, rfl, s04.seq hS, by decide, fun r5 => ⟨le2, fun l1 h1 => ?_⟩⟩⟩
 have s5 := same_new h1 (.lst [.int r4, .int r5])
 refine ⟨_, rfl, _, rfl, _, rfl, _, rfl, (by simp), a, _, rfl, (s04.trans s5).seq hS, fun l2 ys2 h2 my2 ly2 => ?_⟩
 obtain ⟨ms2, rfl⟩ := ints_of my2
 have s6 := same_new h2 (.lst (ms2.map V.int))
 rw [List.length_map, List.length_map] at ly2
 refine ⟨l1, l2, _, _, rfl, rfl, s6 _ _ upd_same, upd_same, small2 (by rw [List.length_map]; show 2 + _ ≤ 1000; omega), fun lc h3 => ?_⟩
 have s7 := same_new h3 (.lst ([.int r4, .int r5] ++ ms2.map V.int))
 have s47 := (s5.trans s6).trans s7
 have s07 := s04.trans s47
 have eb7 := s47 _ _ (show upd H3 b (.lst [.int (r3 % 2147483647), .int 10]) b = _ from upd_same)
 have nlc : lc ≠ b := fun z => by rw [z, (s5.trans s6) _ _ (show upd H3 b (.lst [.int (r3 % 2147483647), .int 10]) b = _ from upd_same)] at h3; cases h3
 have en7 : Env (upd (upd (upd (upd H3 b (.lst [.int (r3 % 2147483647), .int 10])) l1 (.lst [.int r4, .int r5])) l2 (.lst (ms2.map V.int))) lc (.lst ([.int r4, .int r5] ++ ms2.map V.int))) b lk lt lh ws ts hs :=
  ⟨s47 _ _ (s4 _ _ e1'), by omega, fun z hz => dk_wd (w1 z hz), s47 _ _ (s4 _ _ e2'), by omega, s47 _ _ (s4 _ _ e3), by omega, fun z hz => dk_thg (w3 z hz), nkb, ntb, nhb⟩
 have nab : ∀ o, H a = some o → a ≠ b := fun o h z => by rw [z] at h; rw [s03 _ _ h] at hb; cases hb
 refine ⟨_, rfl, _, rfl, _, rfl, _, rfl, _, rfl, lc, b, lk, lt, lh, _, _, r4 :: r5 :: ms2, ws, ts, hs, rfl, upd_same, nlc, by show ms2.length + 1 + 1 ≤ 90; omega, eb7, en7, fun lp H7 ys ps x7 y7 k7 n7 e7 pr7 lps dps b7 => ?_⟩
 have en8 := en7.kp k7
 have ha7 : ∀ o, H a = some o → H7 a = some o ∧ a ≠ b := fun o h => ⟨k7.but _ _ (one_not (nab o h)) (s07 _ _ h), nab o h⟩
 have hS7 : SqL K H7 a (ns.map V.int) := seqK hS fun o h => (ha7 o h).1
 have lps' : ps.length = ms2.length + 1 + 1 := lps
 have npb : lp ≠ b := fun z => by rw [z, eb7] at n7; cases n7
 clear s47 s7 s6 s5 h3 h2 h1 my2 eb7 nlc en7 lps k7 n7 s04 s4 s03 s3 s02 s2 s1 nab hb s07
 refine ⟨Nat.zero_le _, fun ls hls => ?_⟩
 have sl := same_new hls (.lst [])
 have nsb : ls ≠ b := fun z => by rw [z, b7] at hls; cases hls
 have nps : lp ≠ ls := ne_of_none e7 hls
 have hL7 : ∀ {H' : Hp} {x' y' : Int}, H' b = some (.lst [.int x', .int y']) → ∀ {xs : List V}, H' ls = some (.lst xs) → ∀ c ∈ [b, ls], H' c ≠ none := fun {H'} {x'} {y'} h1 {xs} h2 c hc => by
  rcases List.mem_cons.mp hc with rfl | hc
  ·rw [h1]; exact fun z => by cases z
  ·rw [List.mem_singleton.mp hc, h2]; exact fun z => by cases z
 refine ⟨fun σ H' => ∃ (xs : List V) (ss : List Stp) (x' y' : Int) (o8 : Option V), σ = [some (.ref a), some (.ref lk), some (.ref lt), some (.ref lh), some (.ref b), some (.ref lc), some (.ref lp), some (.ref ls), o8, none, none] ∧ Kp [b, ls] H7 H' ∧ H' b = some (.lst [.int x', .int y']) ∧ H' ls = some (.lst xs) ∧ StL [b, ls] H' xs ss ∧ 0 < ss.length ∧ ss.length ≤ 150 ∧ ∀ s ∈ ss, okE s.f ∧ s.fr.length ≤ 2, ?_, ?_⟩
 ·refine ⟨le3, fun l1 h1 => ?_⟩
  have s1 := same_new h1 (.lst [.int 1, .int 2, .int 3])
  refine ⟨_, rfl, _, rfl, _, rfl, _, rfl, (by simp), a, _, rfl, (sl.trans s1).seq hS7, fun l2 y5 h2 m5 ly5 => ?_⟩
  obtain ⟨ms5, rfl⟩ := ints_of m5
  have s2 := same_new h2 (.lst (ms5.map V.int))
  rw [List.length_map, List.length_map] at ly5
  refine ⟨l1, l2, _, _, rfl, rfl, s2 _ _ upd_same, upd_same, small2 (by rw [List.length_map]; show 3 + _ ≤ 1000; omega), fun l3 h3 => ?_⟩
  have s3 := same_new h3 (.lst ([.int 1, .int 2, .int 3] ++ ms5.map V.int))
  have s13 := (s1.trans s2).trans s3
  refine ⟨_, rfl, _, rfl, _, rfl, _, rfl, (by simp), a, _, rfl, (sl.trans s13).seq hS7, fun l4 y6 h4 m6 ly6 => ?_⟩
  obtain ⟨ms6, rfl⟩ := ints_of m6
  have s4 := same_new h4 (.lst (ms6.map V.int))
  rw [List.length_map, List.length_map] at ly6
  refine ⟨l3, l4, _, _, rfl, rfl, s4 _ _ upd_same, upd_same, small2 (by rw [List.length_append, List.length_map, List.length_map]; show 3 + _ + _ ≤ 1000; omega), fun l5 h5 => ?_⟩
  have s5 := same_new h5 (.lst (([.int 1, .int 2, .int 3] ++ ms5.map V.int) ++ ms6.map V.int))
  have s15 := (s13.trans s4).trans s5
  have s75 := sl.trans s15
  have els5 := s15 _ _ (show upd H7 ls (.lst []) ls = _ from upd_same)
  have eb5 := s75 _ _ b7
  have nl5s : l5 ≠ ls := fun z => by rw [z, (s13.trans s4) _ _ (show upd H7 ls (.lst []) ls = _ from upd_same)] at h5; cases h5
  have nl5b : l5 ≠ b := fun z => by rw [z, ((sl.trans s13).trans s4) _ _ b7] at h5; cases h5
  refine ⟨l5, rfl, ⟨_, SqL.of upd_same⟩, ?_⟩
  obtain ⟨H9, h9⟩ : ∃ H9 : Hp, H9 = upd (upd (upd (upd (upd (upd H7 ls (.lst [])) l1 (.lst [.int 1, .int 2, .int 3])) l2 (.lst (ms5.map V.int))) l3 (.lst ([.int 1, .int 2, .int 3] ++ ms5.map V.int))) l4 (.lst (ms6.map V.int))) l5 (.lst (([.int 1, .int 2, .int 3] ++ ms5.map V.int) ++ ms6.map V.int)) := ⟨_, rfl⟩
  have eL : H9 l5 = some (.lst (([.int 1, .int 2, .int 3] ++ ms5.map V.int) ++ ms6.map V.int)) := by rw [h9]; exact upd_same
  rw [← h9] at s75 els5 eb5 ⊢
  have eLi : ([V.int 1, .int 2, .int 3] ++ ms5.map V.int) ++ ms6.map V.int = (([1, 2, 3] ++ ms5) ++ ms6 : List Int).map V.int := by rw [List.map_append, List.map_append]; rfl
  have lLi : (([1, 2, 3] ++ ms5) ++ ms6 : List Int).length ≤ 129 := by rw [List.length_append, List.length_append]; show 3 + _ + _ ≤ 129; omega
  have pLi : 0 < (([1, 2, 3] ++ ms5) ++ ms6 : List Int).length := by rw [List.length_append, List.length_append]; show 0 < 3 + _ + _; omega
  rw [eLi] at eL
  generalize (([1, 2, 3] ++ ms5) ++ ms6 : List Int) = cs at eL lLi pLi ⊢
  refine for_list (xs := cs.map V.int) (fun i σ H' => (∃ o8 : Option V, σ = [some (.ref a), some (.ref lk), some (.ref lt), some (.ref lh), some (.ref b), some (.ref lc), some (.ref lp), some (.ref ls), o8, none, none]) ∧ Kp [b, ls] H9 H' ∧ (∃ x' y', H' b = some (.lst [.int x', .int y'])) ∧ ∃ xs ss, H' ls = some (.lst xs) ∧ StL [b, ls] H' xs ss ∧ ss.length = i ∧ ∀ s ∈ ss, okE s.f ∧ s.fr.length ≤ 2)
   ⟨⟨_, rfl⟩, Kp.refl _ _, ⟨_, _, eb5⟩, [], [], els5, .nil, rfl, fun _ h => (List.not_mem_nil h).elim⟩ ?_ ?_ ?_
  ·rintro i σ H' hi ⟨_, k, _⟩
   exact SqL.of (k.but _ _ (two_not nl5b nl5s) eL)
  ·rintro i v σ H' hx ⟨⟨o8, rfl⟩, k, ⟨x', y', b'⟩, xs, ss, els, stl, lss, oks⟩
   have hi : i < cs.length := by have := (List.getElem?_eq_some_iff.mp hx).1; rwa [List.length_map] at this
   obtain ⟨c, rfl⟩ : ∃ c : Int, v = .int c := by
    obtain ⟨c, _, e⟩ := List.mem_map.mp (List.mem_of_getElem? hx)
    exact ⟨c, e.symm⟩
   have k7' : Kp [b] H7 H' := Kp.drop hls ((Kp.of s75).trans k)
   have lxs := StL.len stl
   refine ⟨_, rfl, .inl ⟨rfl, _, SqL.of els⟩, _, rfl, _, rfl, _, rfl, _, rfl, _, rfl, [b, ls], b, ls, lp, lk, lt, lh, x', y', xs, ss, ys, ps, ws, ts, hs, rfl, hL7 b' els, b', els, nsb, stl.weak (by simp), by omega, fun s hs => (oks s hs).1, k7'.but _ _ (one_not npb) e7, npb, PrL.mono k7'.tups pr7, by omega, by omega, dps, en8.kp k7', fun v2 H2 st x2 y2 k2 b2 is2 ok2 l2' => ?_⟩
   have els2 := k2.but _ _ (one_not nsb) els
   refine ⟨ls, xs, v2, rfl, rfl, els2, small1000 (by omega), ?_⟩
   have kl : Kp [b, ls] H2 (upd H2 ls (.lst (xs ++ [v2]))) := Kp.lst (by simp) els2
   have b3 : upd H2 ls (.lst (xs ++ [v2])) b = some (.lst [.int x2, .int y2]) := by rw [upd_ne (Ne.symm nsb)]; exact b2
   refine ⟨_, rfl, b, _, 0, _, rfl, rfl, SqL.of b3, atI_nat (j := 0) rfl, _, rfl, _, _, rfl, rfl, _, _, rfl, rfl, (show (0 : Int) < 2147483647 by decide), _, rfl, b, _, 0, 0, rfl, rfl, b3, ixN0 _, ?_⟩
   have kb : Kp [b, ls] (upd H2 ls (.lst (xs ++ [v2]))) (upd (upd H2 ls (.lst (xs ++ [v2]))) b (.lst [.int ((x2 + c) % 2147483647), .int y2])) := Kp.lst (by simp) b3
   have k24 := kl.trans kb
   have k2' : Kp [b, ls] H' H2 := k2.mono (by simp)
   refine ⟨⟨_, rfl⟩, (k.trans k2').trans k24, ⟨_, _, upd_same⟩, xs ++ [v2], ss ++ [st], ?_, paired_app (StL.keep (k2'.trans k24) stl) (.cons (IsStp.keep k24 is2) .nil), by rw [List.length_append, lss]; rfl, fun s hs => ?_⟩
   ·show upd (upd H2 ls (.lst (xs ++ [v2]))) b (.lst [.int ((x2 + c) % 2147483647), .int y2]) ls = _
    rw [upd_ne nsb]; exact upd_same
   ·rcases List.mem_append.mp hs with hs | hs
    ·exact oks s hs
    ·rw [List.mem_singleton.mp hs]; exact ⟨ok2, l2'⟩
  ·rintro σ H' ⟨⟨o8, rfl⟩, k, ⟨x', y', b'⟩, xs, ss, els, stl, lss, oks⟩
   rw [List.length_map] at lss
   exact ⟨xs, ss, x', y', o8, rfl, (Kp.of s75).trans k, b', els, stl, by omega, by omega, oks⟩
 rintro σ H8 ⟨xs, ss, x8, y8, o8, rfl, k8, b8, els8, st8, ss0, lss, oks⟩
 have k78 := Kp.drop hls k8
 have hS8 : SqL K H8 a (ns.map V.int) := seqK hS fun o h => k78.but _ _ (one_not (ha7 o h).2) (ha7 o h).1
 have e78 := en8.kp k78
 have elp8 := k78.but _ _ (one_not npb) e7
 have pr8 := PrL.mono k78.tups pr7
 refine ⟨fun σ H' => ∃ (ls' : Addr) (xs : List V) (ss : List Stp) (x' y' : Int) (o8 : Option V), σ = [some (.ref a), some (.ref lk), some (.ref lt), some (.ref lh), some (.ref b), some (.ref lc), some (.ref lp), some (.ref ls'), o8, none, none] ∧ Kp [b] H8 H' ∧ H' b = some (.lst [.int x', .int y']) ∧ H' ls' = some (.lst xs) ∧ ls' ≠ b ∧ StL [b] H' xs ss ∧ ss.length ≤ 150 ∧ ∀ s ∈ ss, okE s.f ∧ s.fr.length ≤ 3, ?_, ?_⟩
 ·refine ⟨_, rfl, a, ns, 2, rfl, hS8, by decide, fun r => ⟨_, _, rfl, rfl, (show (0 : Int) < 2 by decide), rfl, _, rfl, ite2 (fun _ => ?_) (fun _ => ?_)⟩⟩
  ·refine ⟨_, rfl, _, rfl, _, rfl, _, rfl, _, rfl, b, ls, lk, lh, lp, lt, x8, y8, xs, ss, ys, ps, ws, ts, hs, rfl, b8, els8, nsb, st8.weak (by simp), ss0, lss, oks, elp8, npb, pr8, by omega, e78, fun l H' xs' ss' x' k' b' e' n' st' l' ok' => ?_⟩
   exact ⟨l, xs', ss', x', y8, o8, rfl, k', b', e', n', st', by omega, ok'⟩
  ·exact ⟨ls, xs, ss, x8, y8, o8, rfl, Kp.refl _ _, b8, els8, nsb, st8.weak (by simp), lss, fun s hs => ⟨(oks s hs).1, by have := (oks s hs).2; omega⟩⟩
 clear els8 st8 ss0 lss oks
 rintro σ H9 ⟨ls', xs, ss, x9, y9, o8, rfl, k9, b9, els9, nsb9, st9, lss, oks⟩
 have lxs := StL.len st9
 have elp9 := k9.but _ _ (one_not npb) elp8
 have pr9 := PrL.mono k9.tups pr8
 refine ⟨_, rfl, lp, ys, ps, rfl, elp9, pr9, by omega, fun lg H10 s10 n10 e10 => ?_⟩
 have b10 := s10 _ _ b9
 have els10 := s10 _ _ els9
 have ngb : lg ≠ b := fun z => by rw [z, b9] at n10; cases n10
 refine ⟨_, rfl, _, rfl, ls', _, rfl, .inl (SqL.of els10), _, _, rfl, rfl, b, x9, _, [.int y9], rfl, b10, by omega, fun x11 sh sh0 shm => ?_⟩
 obtain ⟨k11, b11⟩ := bag x11 b10
 generalize upd H10 b (.lst [.int x11, .int y9]) = H11 at k11 b11 ⊢
 have els11 := k11.but _ _ (one_not nsb9) els10
 have elp11 := k11.but _ _ (one_not npb) (s10 _ _ elp9)
 have elg11 := k11.but _ _ (one_not ngb) e10
 have st11 : StL [] H11 xs ss := StL.loose (StL.keep k11 (StL.keep (.of s10) st9))
 have pr11 := PrL.mono k11.tups (PrL.mono s10.tups pr9)
 have ok5 : ∀ s ∈ ss, okE s.f ∧ s.fr.length ≤ 5 := fun s hs => ⟨(oks s hs).1, by have := (oks s hs).2; omega⟩
 have csh : cutV xs none (some sh) = xs.take sh.toNat := by have := cut_to xs sh.toNat (by omega); rwa [show ((sh.toNat : Nat) : Int) = sh by omega] at this
 refine ⟨_, rfl, _, rfl, _, rfl, ls', lp, lg, xs, ys, ss, ps, rfl, els11, st11, by omega, ok5, elp11, pr11, by omega, dps, elg11, fun H12 s12 => ?_⟩
 refine ⟨_, rfl, iteT ⟨_, rfl, _, rfl, _, rfl, ls', _, rfl, SqL.of (s12 _ _ els11), fun l9 h9 => ?_⟩⟩
 rw [csh]
 have s13 := same_new h9 (.lst (xs.take sh.toNat))
 have s23 := s12.trans s13
 refine ⟨_, rfl, _, rfl, l9, lp, lg, xs.take sh.toNat, ys, ss.take sh.toNat, ps, rfl, upd_same, paired_take _ (StL.keep (L := []) (.of s23) st11), by rw [List.length_take]; omega, fun s hs => ok5 s (List.mem_of_mem_take hs), s23 _ _ elp11, PrL.mono s23.tups pr11, by omega, dps, s23 _ _ elg11, fun H14 s14 => q _⟩
end
end K17
namespace K17
open PySem L2
section
variable {α : Type}
def mkR (t1 t2 t3 t4 t5 t6 t7 t8 t9 t10 t11 t12 : α) : Ru → α
  | .thing => t1 | .tied => t2 | .every => t3 | .first => t4 | .second => t5 | .some => t6 | .within => t7 | .no => t8 | .both => t9 | .tie => t10 | .none => t11 | .makes => t12 | _ => t1
end
abbrev mkM : Addr → Addr → Addr → Addr → Addr → Addr → Addr → Addr → Addr → Addr → Addr → Addr → Ru → Addr := mkR
abbrev mkD : FuncData → FuncData → FuncData → FuncData → FuncData → FuncData → FuncData → FuncData → FuncData → FuncData → FuncData → FuncData → Ru → FuncData := mkR
abbrev MkOk (P : Program) (w : World) (K : PySem.W.Frag) (mg : Str → Option Value) (base : Heap) (r : Ru) (a : Addr) (d : FuncData) : Prop :=
  FnOk P w K mg base CX0 2 a d ["told", "saying"] (spM r) ∧ Binds K d ["told", "saying"] [] ∧ PySem.W.keepIn K (.ref a) = true
theorem mk_all {P : Program} {w : World} {K : PySem.W.Frag} {mg : Str → Option Value} {base : Heap} {a1 a2 a3 a4 a5 a6 a7 a8 a9 a10 a11 a12 : Addr} {d1 d2 d3 d4 d5 d6 d7 d8 d9 d10 d11 d12 : FuncData}
    (h1 : MkOk P w K mg base .thing a1 d1) (h2 : MkOk P w K mg base .tied a2 d2) (h3 : MkOk P w K mg base .every a3 d3) (h4 : MkOk P w K mg base .first a4 d4) (h5 : MkOk P w K mg base .second a5 d5) (h6 : MkOk P w K mg base .some a6 d6)
    (h7 : MkOk P w K mg base .within a7 d7) (h8 : MkOk P w K mg base .no a8 d8) (h9 : MkOk P w K mg base .both a9 d9) (h10 : MkOk P w K mg base .tie a10 d10) (h11 : MkOk P w K mg base .none a11 d11) (h12 : MkOk P w K mg base .makes a12 d12) :
    ∀ r ∈ makersL, MkOk P w K mg base r (mkM a1 a2 a3 a4 a5 a6 a7 a8 a9 a10 a11 a12 r) (mkD d1 d2 d3 d4 d5 d6 d7 d8 d9 d10 d11 d12 r) := by
  intro r hr
  simp only [makersL, List.mem_cons, List.not_mem_nil, or_false] at hr
  rcases hr with rfl | rfl | rfl | rfl | rfl | rfl | rfl | rfl | rfl | rfl | rfl | rfl
  · exact h1
  · exact h2
  · exact h3
  · exact h4
  · exact h5
  · exact h6
  · exact h7
  · exact h8
  · exact h9
  · exact h10
  · exact h11
  · exact h12
theorem tup_of {K : PySem.W.Frag} {its : Array Value} {n : Nat} {a : Addr} {od : Option Addr} {sl : Array (Option Value)} {xs : List V} {H : Hp} (l : K.lookup a = some ⟨.type "tuple", od, .seq its n, sl⟩) (hs : its.size ≤ sizeLine) (hv : Vals xs its.toList) : SqT K H a xs :=
  .inr ⟨_, its, n, l, rfl, rfl, hs, hv⟩
theorem all_mk {l : PySem.W.OpenLaw} {w : World} {K : PySem.W.Frag} {h : Heap} {mg : Str → Option Value} {fa : Addr} (X : K.In h) (G : h.Ns mainGlobals mg) (hfa : mg "law" = some (.ref fa))
    {f1 : Addr} {od1 an1 : Option Addr} {sl1 : Array (Option Value)} {oc1 kV1 dc1 pm1 cd1 ct1 : Value}
    {f2 : Addr} {od2 an2 : Option Addr} {sl2 : Array (Option Value)} {oc2 kV2 dc2 pm2 cd2 ct2 : Value}
    {f3 : Addr} {od3 an3 : Option Addr} {sl3 : Array (Option Value)} {oc3 kV3 dc3 pm3 cd3 ct3 : Value}
    {f4 : Addr} {od4 an4 : Option Addr} {sl4 : Array (Option Value)} {oc4 kV4 dc4 pm4 cd4 ct4 : Value}
    {f5 : Addr} {od5 an5 : Option Addr} {sl5 : Array (Option Value)} {oc5 kV5 dc5 pm5 cd5 ct5 : Value}
    {f6 : Addr} {od6 an6 : Option Addr} {sl6 : Array (Option Value)} {oc6 kV6 dc6 pm6 cd6 ct6 : Value}
    {f7 : Addr} {od7 an7 : Option Addr} {sl7 : Array (Option Value)} {oc7 kV7 dc7 pm7 cd7 ct7 : Value}
    {f8 : Addr} {od8 an8 : Option Addr} {sl8 : Array (Option Value)} {oc8 kV8 dc8 pm8 cd8 ct8 : Value}
    {f9 : Addr} {od9 an9 : Option Addr} {sl9 : Array (Option Value)} {oc9 kV9 dc9 pm9 cd9 ct9 : Value}
    {f10 : Addr} {od10 an10 : Option Addr} {sl10 : Array (Option Value)} {oc10 kV10 dc10 pm10 cd10 ct10 : Value}
    {f11 : Addr} {od11 an11 : Option Addr} {sl11 : Array (Option Value)} {oc11 kV11 dc11 pm11 cd11 ct11 : Value}
    {f12 : Addr} {od12 an12 : Option Addr} {sl12 : Array (Option Value)} {oc12 kV12 dc12 pm12 cd12 ct12 : Value}
    {f13 : Addr} {od13 an13 : Option Addr} {sl13 : Array (Option Value)} {oc13 kV13 dc13 pm13 cd13 ct13 : Value}
    {f14 : Addr} {od14 an14 : Option Addr} {sl14 : Array (Option Value)} {oc14 kV14 dc14 pm14 cd14 ct14 : Value}
    {f15 : Addr} {od15 an15 : Option Addr} {sl15 : Array (Option Value)} {oc15 kV15 dc15 pm15 cd15 ct15 : Value}
    {f16 : Addr} {od16 an16 : Option Addr} {sl16 : Array (Option Value)} {oc16 kV16 dc16 pm16 cd16 ct16 : Value}
    {f17 : Addr} {od17 an17 : Option Addr} {sl17 : Array (Option Value)} {oc17 kV17 dc17 pm17 cd17 ct17 : Value}
    {f18 : Addr} {od18 an18 : Option Addr} {sl18 : Array (Option Value)} {oc18 kV18 dc18 pm18 cd18 ct18 : Value}
    {f19 : Addr} {od19 an19 : Option Addr} {sl19 : Array (Option Value)} {oc19 kV19 dc19 pm19 cd19 ct19 : Value}
    {f20 : Addr} {od20 an20 : Option Addr} {sl20 : Array (Option Value)} {oc20 kV20 dc20 pm20 cd20 ct20 : Value}
    {f21 : Addr} {od21 an21 : Option Addr} {sl21 : Array (Option Value)} {oc21 kV21 dc21 pm21 cd21 ct21 : Value}
    {f22 : Addr} {od22 an22 : Option Addr} {sl22 : Array (Option Value)} {oc22 kV22 dc22 pm22 cd22 ct22 : Value}
    {f23 : Addr} {od23 an23 : Option Addr} {sl23 : Array (Option Value)} {oc23 kV23 dc23 pm23 cd23 ct23 : Value}
    {f24 : Addr} {od24 an24 : Option Addr} {sl24 : Array (Option Value)} {oc24 kV24 dc24 pm24 cd24 ct24 : Value}
    {f25 : Addr} {od25 an25 : Option Addr} {sl25 : Array (Option Value)} {oc25 kV25 dc25 pm25 cd25 ct25 : Value}
    {f26 : Addr} {od26 an26 : Option Addr} {sl26 : Array (Option Value)} {oc26 kV26 dc26 pm26 cd26 ct26 : Value}
    {f27 : Addr} {od27 an27 : Option Addr} {sl27 : Array (Option Value)} {oc27 kV27 dc27 pm27 cd27 ct27 : Value}
    {f28 : Addr} {od28 an28 : Option Addr} {sl28 : Array (Option Value)} {oc28 kV28 dc28 pm28 cd28 ct28 : Value}
    {f29 : Addr} {od29 an29 : Option Addr} {sl29 : Array (Option Value)} {oc29 kV29 dc29 pm29 cd29 ct29 : Value}
    {f30 : Addr} {od30 an30 : Option Addr} {sl30 : Array (Option Value)} {oc30 kV30 dc30 pm30 cd30 ct30 : Value}
    {f31 : Addr} {od31 an31 : Option Addr} {sl31 : Array (Option Value)} {oc31 kV31 dc31 pm31 cd31 ct31 : Value}
    {f32 : Addr} {od32 an32 : Option Addr} {sl32 : Array (Option Value)} {oc32 kV32 dc32 pm32 cd32 ct32 : Value}
    {f33 : Addr} {od33 an33 : Option Addr} {sl33 : Array (Option Value)} {oc33 kV33 dc33 pm33 cd33 ct33 : Value}
    {f34 : Addr} {od34 an34 : Option Addr} {sl34 : Array (Option Value)} {oc34 kV34 dc34 pm34 cd34 ct34 : Value}
    {f35 : Addr} {od35 an35 : Option Addr} {sl35 : Array (Option Value)} {oc35 kV35 dc35 pm35 cd35 ct35 : Value}
    {f36 : Addr} {od36 an36 : Option Addr} {sl36 : Array (Option Value)} {oc36 kV36 dc36 pm36 cd36 ct36 : Value}
    {f37 : Addr} {od37 an37 : Option Addr} {sl37 : Array (Option Value)} {oc37 kV37 dc37 pm37 cd37 ct37 : Value}
    {f38 : Addr} {od38 an38 : Option Addr} {sl38 : Array (Option Value)} {oc38 kV38 dc38 pm38 cd38 ct38 : Value}
    {f39 : Addr} {od39 an39 : Option Addr} {sl39 : Array (Option Value)} {oc39 kV39 dc39 pm39 cd39 ct39 : Value}
    {f40 : Addr} {od40 an40 : Option Addr} {sl40 : Array (Option Value)} {oc40 kV40 dc40 pm40 cd40 ct40 : Value}
    {f41 : Addr} {od41 an41 : Option Addr} {sl41 : Array (Option Value)} {oc41 kV41 dc41 pm41 cd41 ct41 : Value}
    {f42 : Addr} {od42 an42 : Option Addr} {sl42 : Array (Option Value)} {oc42 kV42 dc42 pm42 cd42 ct42 : Value}
    {f43 : Addr} {od43 an43 : Option Addr} {sl43 : Array (Option Value)} {oc43 kV43 dc43 pm43 cd43 ct43 : Value}
    {f44 : Addr} {od44 an44 : Option Addr} {sl44 : Array (Option Value)} {oc44 kV44 dc44 pm44 cd44 ct44 : Value}
    {f45 : Addr} {od45 an45 : Option Addr} {sl45 : Array (Option Value)} {oc45 kV45 dc45 pm45 cd45 ct45 : Value}
    {f46 : Addr} {od46 an46 : Option Addr} {sl46 : Array (Option Value)} {oc46 kV46 dc46 pm46 cd46 ct46 : Value}
    {f47 : Addr} {od47 an47 : Option Addr} {sl47 : Array (Option Value)} {oc47 kV47 dc47 pm47 cd47 ct47 : Value}
    {f48 : Addr} {od48 an48 : Option Addr} {sl48 : Array (Option Value)} {oc48 kV48 dc48 pm48 cd48 ct48 : Value}
    {f49 : Addr} {od49 an49 : Option Addr} {sl49 : Array (Option Value)} {oc49 kV49 dc49 pm49 cd49 ct49 : Value}
    {f50 : Addr} {od50 an50 : Option Addr} {sl50 : Array (Option Value)} {oc50 kV50 dc50 pm50 cd50 ct50 : Value}
    (a1 : PySem.W.nsIn K mainGlobals "inner_kinds" = some (some (.ref f1))) (l1 : K.lookup f1 = some ⟨oc1, od1, .func (PySem.W.fnOf "inner_kinds" "inner_kinds" (defArgs sInner) (defBody sInner) (defScope sInner) .none kV1 dc1 pm1 an1 cd1 ct1), sl1⟩) (c1 : PySem.W.codeIn K cd1 "inner_kinds" = true) (k1 : PySem.W.keepIn K (.ref f1) = true)
    (a2 : PySem.W.nsIn K mainGlobals "note_names" = some (some (.ref f2))) (l2 : K.lookup f2 = some ⟨oc2, od2, .func (PySem.W.fnOf "note_names" "note_names" (defArgs sNote) (defBody sNote) (defScope sNote) .none kV2 dc2 pm2 an2 cd2 ct2), sl2⟩) (c2 : PySem.W.codeIn K cd2 "note_names" = true) (k2 : PySem.W.keepIn K (.ref f2) = true)
    (a3 : PySem.W.nsIn K mainGlobals "named" = some (some (.ref f3))) (l3 : K.lookup f3 = some ⟨oc3, od3, .func (PySem.W.fnOf "named" "named" (defArgs sNamed) (defBody sNamed) (defScope sNamed) .none kV3 dc3 pm3 an3 cd3 ct3), sl3⟩) (c3 : PySem.W.codeIn K cd3 "named" = true) (k3 : PySem.W.keepIn K (.ref f3) = true)
    (a4 : PySem.W.nsIn K mainGlobals "is_small" = some (some (.ref f4))) (l4 : K.lookup f4 = some ⟨oc4, od4, .func (PySem.W.fnOf "is_small" "is_small" (defArgs sSmall) (defBody sSmall) (defScope sSmall) .none kV4 dc4 pm4 an4 cd4 ct4), sl4⟩) (c4 : PySem.W.codeIn K cd4 "is_small" = true) (k4 : PySem.W.keepIn K (.ref f4) = true)
    (a5 : PySem.W.nsIn K mainGlobals "all_small" = some (some (.ref f5))) (l5 : K.lookup f5 = some ⟨oc5, od5, .func (PySem.W.fnOf "all_small" "all_small" (defArgs sAll) (defBody sAll) (defScope sAll) .none kV5 dc5 pm5 an5 cd5 ct5), sl5⟩) (c5 : PySem.W.codeIn K cd5 "all_small" = true) (k5 : PySem.W.keepIn K (.ref f5) = true)
    (a6 : PySem.W.nsIn K mainGlobals "is_thing" = some (some (.ref f6))) (l6 : K.lookup f6 = some ⟨oc6, od6, .func (PySem.W.fnOf "is_thing" "is_thing" (defArgs sThing) (defBody sThing) (defScope sThing) .none kV6 dc6 pm6 an6 cd6 ct6), sl6⟩) (c6 : PySem.W.codeIn K cd6 "is_thing" = true) (k6 : PySem.W.keepIn K (.ref f6) = true)
    (a7 : PySem.W.nsIn K mainGlobals "is_of_form" = some (some (.ref f7))) (l7 : K.lookup f7 = some ⟨oc7, od7, .func (PySem.W.fnOf "is_of_form" "is_of_form" (defArgs sOfForm) (defBody sOfForm) (defScope sOfForm) .none kV7 dc7 pm7 an7 cd7 ct7), sl7⟩) (c7 : PySem.W.codeIn K cd7 "is_of_form" = true) (k7 : PySem.W.keepIn K (.ref f7) = true)
    (a8 : PySem.W.nsIn K mainGlobals "made_thing" = some (some (.ref f8))) (l8 : K.lookup f8 = some ⟨oc8, od8, .func (PySem.W.fnOf "made_thing" "made_thing" (defArgs sMThing) (defBody sMThing) (defScope sMThing) .none kV8 dc8 pm8 an8 cd8 ct8), sl8⟩) (c8 : PySem.W.codeIn K cd8 "made_thing" = true) (k8 : PySem.W.keepIn K (.ref f8) = true)
    (a9 : PySem.W.nsIn K mainGlobals "made_tied" = some (some (.ref f9))) (l9 : K.lookup f9 = some ⟨oc9, od9, .func (PySem.W.fnOf "made_tied" "made_tied" (defArgs sMTied) (defBody sMTied) (defScope sMTied) .none kV9 dc9 pm9 an9 cd9 ct9), sl9⟩) (c9 : PySem.W.codeIn K cd9 "made_tied" = true) (k9 : PySem.W.keepIn K (.ref f9) = true)
    (a10 : PySem.W.nsIn K mainGlobals "made_every" = some (some (.ref f10))) (l10 : K.lookup f10 = some ⟨oc10, od10, .func (PySem.W.fnOf "made_every" "made_every" (defArgs sMEvery) (defBody sMEvery) (defScope sMEvery) .none kV10 dc10 pm10 an10 cd10 ct10), sl10⟩) (c10 : PySem.W.codeIn K cd10 "made_every" = true) (k10 : PySem.W.keepIn K (.ref f10) = true)
    (a11 : PySem.W.nsIn K mainGlobals "made_first" = some (some (.ref f11))) (l11 : K.lookup f11 = some ⟨oc11, od11, .func (PySem.W.fnOf "made_first" "made_first" (defArgs sMFirst) (defBody sMFirst) (defScope sMFirst) .none kV11 dc11 pm11 an11 cd11 ct11), sl11⟩) (c11 : PySem.W.codeIn K cd11 "made_first" = true) (k11 : PySem.W.keepIn K (.ref f11) = true)
    (a12 : PySem.W.nsIn K mainGlobals "made_second" = some (some (.ref f12))) (l12 : K.lookup f12 = some ⟨oc12, od12, .func (PySem.W.fnOf "made_second" "made_second" (defArgs sMSecond) (defBody sMSecond) (defScope sMSecond) .none kV12 dc12 pm12 an12 cd12 ct12), sl12⟩) (c12 : PySem.W.codeIn K cd12 "made_second" = true) (k12 : PySem.W.keepIn K (.ref f12) = true)
    (a13 : PySem.W.nsIn K mainGlobals "made_some" = some (some (.ref f13))) (l13 : K.lookup f13 = some ⟨oc13, od13, .func (PySem.W.fnOf "made_some" "made_some" (defArgs sMSome) (defBody sMSome) (defScope sMSome) .none kV13 dc13 pm13 an13 cd13 ct13), sl13⟩) (c13 : PySem.W.codeIn K cd13 "made_some" = true) (k13 : PySem.W.keepIn K (.ref f13) = true)
    (a14 : PySem.W.nsIn K mainGlobals "made_within" = some (some (.ref f14))) (l14 : K.lookup f14 = some ⟨oc14, od14, .func (PySem.W.fnOf "made_within" "made_within" (defArgs sMWithin) (defBody sMWithin) (defScope sMWithin) .none kV14 dc14 pm14 an14 cd14 ct14), sl14⟩) (c14 : PySem.W.codeIn K cd14 "made_within" = true) (k14 : PySem.W.keepIn K (.ref f14) = true)
    (a15 : PySem.W.nsIn K mainGlobals "made_no" = some (some (.ref f15))) (l15 : K.lookup f15 = some ⟨oc15, od15, .func (PySem.W.fnOf "made_no" "made_no" (defArgs sMNo) (defBody sMNo) (defScope sMNo) .none kV15 dc15 pm15 an15 cd15 ct15), sl15⟩) (c15 : PySem.W.codeIn K cd15 "made_no" = true) (k15 : PySem.W.keepIn K (.ref f15) = true)
    (a16 : PySem.W.nsIn K mainGlobals "made_both" = some (some (.ref f16))) (l16 : K.lookup f16 = some ⟨oc16, od16, .func (PySem.W.fnOf "made_both" "made_both" (defArgs sMBoth) (defBody sMBoth) (defScope sMBoth) .none kV16 dc16 pm16 an16 cd16 ct16), sl16⟩) (c16 : PySem.W.codeIn K cd16 "made_both" = true) (k16 : PySem.W.keepIn K (.ref f16) = true)
    (a17 : PySem.W.nsIn K mainGlobals "made_tie" = some (some (.ref f17))) (l17 : K.lookup f17 = some ⟨oc17, od17, .func (PySem.W.fnOf "made_tie" "made_tie" (defArgs sMTie) (defBody sMTie) (defScope sMTie) .none kV17 dc17 pm17 an17 cd17 ct17), sl17⟩) (c17 : PySem.W.codeIn K cd17 "made_tie" = true) (k17 : PySem.W.keepIn K (.ref f17) = true)
    (a18 : PySem.W.nsIn K mainGlobals "made_none" = some (some (.ref f18))) (l18 : K.lookup f18 = some ⟨oc18, od18, .func (PySem.W.fnOf "made_none" "made_none" (defArgs sMNone) (defBody sMNone) (defScope sMNone) .none kV18 dc18 pm18 an18 cd18 ct18), sl18⟩) (c18 : PySem.W.codeIn K cd18 "made_none" = true) (k18 : PySem.W.keepIn K (.ref f18) = true)
    (a19 : PySem.W.nsIn K mainGlobals "made_makes" = some (some (.ref f19))) (l19 : K.lookup f19 = some ⟨oc19, od19, .func (PySem.W.fnOf "made_makes" "made_makes" (defArgs sMMakes) (defBody sMMakes) (defScope sMMakes) .none kV19 dc19 pm19 an19 cd19 ct19), sl19⟩) (c19 : PySem.W.codeIn K cd19 "made_makes" = true) (k19 : PySem.W.keepIn K (.ref f19) = true)
    (a20 : PySem.W.nsIn K mainGlobals "stands_for_thing" = some (some (.ref f20))) (l20 : K.lookup f20 = some ⟨oc20, od20, .func (PySem.W.fnOf "stands_for_thing" "stands_for_thing" (defArgs sStands) (defBody sStands) (defScope sStands) .none kV20 dc20 pm20 an20 cd20 ct20), sl20⟩) (c20 : PySem.W.codeIn K cd20 "stands_for_thing" = true) (k20 : PySem.W.keepIn K (.ref f20) = true)
    (a21 : PySem.W.nsIn K mainGlobals "is_self" = some (some (.ref f21))) (l21 : K.lookup f21 = some ⟨oc21, od21, .func (PySem.W.fnOf "is_self" "is_self" (defArgs sIsSelf) (defBody sIsSelf) (defScope sIsSelf) .none kV21 dc21 pm21 an21 cd21 ct21), sl21⟩) (c21 : PySem.W.codeIn K cd21 "is_self" = true) (k21 : PySem.W.keepIn K (.ref f21) = true)
    (a22 : PySem.W.nsIn K mainGlobals "is_all" = some (some (.ref f22))) (l22 : K.lookup f22 = some ⟨oc22, od22, .func (PySem.W.fnOf "is_all" "is_all" (defArgs sIsAll) (defBody sIsAll) (defScope sIsAll) .none kV22 dc22 pm22 an22 cd22 ct22), sl22⟩) (c22 : PySem.W.codeIn K cd22 "is_all" = true) (k22 : PySem.W.keepIn K (.ref f22) = true)
    (a23 : PySem.W.nsIn K mainGlobals "things_named" = some (some (.ref f23))) (l23 : K.lookup f23 = some ⟨oc23, od23, .func (PySem.W.fnOf "things_named" "things_named" (defArgs sThingsN) (defBody sThingsN) (defScope sThingsN) .none kV23 dc23 pm23 an23 cd23 ct23), sl23⟩) (c23 : PySem.W.codeIn K cd23 "things_named" = true) (k23 : PySem.W.keepIn K (.ref f23) = true)
    (a24 : PySem.W.nsIn K mainGlobals "is_whole" = some (some (.ref f24))) (l24 : K.lookup f24 = some ⟨oc24, od24, .func (PySem.W.fnOf "is_whole" "is_whole" (defArgs sIsWhole) (defBody sIsWhole) (defScope sIsWhole) .none kV24 dc24 pm24 an24 cd24 ct24), sl24⟩) (c24 : PySem.W.codeIn K cd24 "is_whole" = true) (k24 : PySem.W.keepIn K (.ref f24) = true)
    (a25 : PySem.W.nsIn K mainGlobals "are_earlier" = some (some (.ref f25))) (l25 : K.lookup f25 = some ⟨oc25, od25, .func (PySem.W.fnOf "are_earlier" "are_earlier" (defArgs sEarlier) (defBody sEarlier) (defScope sEarlier) .none kV25 dc25 pm25 an25 cd25 ct25), sl25⟩) (c25 : PySem.W.codeIn K cd25 "are_earlier" = true) (k25 : PySem.W.keepIn K (.ref f25) = true)
    (a26 : PySem.W.nsIn K mainGlobals "fits_number" = some (some (.ref f26))) (l26 : K.lookup f26 = some ⟨oc26, od26, .func (PySem.W.fnOf "fits_number" "fits_number" (defArgs sFits) (defBody sFits) (defScope sFits) .none kV26 dc26 pm26 an26 cd26 ct26), sl26⟩) (c26 : PySem.W.codeIn K cd26 "fits_number" = true) (k26 : PySem.W.keepIn K (.ref f26) = true)
    (a27 : PySem.W.nsIn K mainGlobals "is_right" = some (some (.ref f27))) (l27 : K.lookup f27 = some ⟨oc27, od27, .func (PySem.W.fnOf "is_right" "is_right" (defArgs sIsRight) (defBody sIsRight) (defScope sIsRight) .none kV27 dc27 pm27 an27 cd27 ct27), sl27⟩) (c27 : PySem.W.codeIn K cd27 "is_right" = true) (k27 : PySem.W.keepIn K (.ref f27) = true)
    (a28 : PySem.W.nsIn K mainGlobals "stands" = some (some (.ref f28))) (l28 : K.lookup f28 = some ⟨oc28, od28, .func (PySem.W.fnOf "stands" "stands" (defArgs sStandsL) (defBody sStandsL) (defScope sStandsL) .none kV28 dc28 pm28 an28 cd28 ct28), sl28⟩) (c28 : PySem.W.codeIn K cd28 "stands" = true) (k28 : PySem.W.keepIn K (.ref f28) = true)
    (a29 : PySem.W.nsIn K mainGlobals "_law_cell" = some (some (.ref f29))) (l29 : K.lookup f29 = some ⟨oc29, od29, .func (PySem.W.fnOf "_law_cell" "_law_cell" (defArgs sCell) (defBody sCell) (defScope sCell) .none kV29 dc29 pm29 an29 cd29 ct29), sl29⟩) (c29 : PySem.W.codeIn K cd29 "_law_cell" = true) (k29 : PySem.W.keepIn K (.ref f29) = true)
    (a30 : PySem.W.nsIn K mainGlobals "_law_draw" = some (some (.ref f30))) (l30 : K.lookup f30 = some ⟨oc30, od30, .func (PySem.W.fnOf "_law_draw" "_law_draw" (defArgs sDraw) (defBody sDraw) (defScope sDraw) .none kV30 dc30 pm30 an30 cd30 ct30), sl30⟩) (c30 : PySem.W.codeIn K cd30 "_law_draw" = true) (k30 : PySem.W.keepIn K (.ref f30) = true)
    (a31 : PySem.W.nsIn K mainGlobals "_law_words" = some (some (.ref f31))) (l31 : K.lookup f31 = some ⟨oc31, od31, .func (PySem.W.fnOf "_law_words" "_law_words" (defArgs sWords) (defBody sWords) (defScope sWords) .none kV31 dc31 pm31 an31 cd31 ct31), sl31⟩) (c31 : PySem.W.codeIn K cd31 "_law_words" = true) (k31 : PySem.W.keepIn K (.ref f31) = true)
    (a32 : PySem.W.nsIn K mainGlobals "_law_things" = some (some (.ref f32))) (l32 : K.lookup f32 = some ⟨oc32, od32, .func (PySem.W.fnOf "_law_things" "_law_things" (defArgs sThings) (defBody sThings) (defScope sThings) .none kV32 dc32 pm32 an32 cd32 ct32), sl32⟩) (c32 : PySem.W.codeIn K cd32 "_law_things" = true) (k32 : PySem.W.keepIn K (.ref f32) = true)
    (a33 : PySem.W.nsIn K mainGlobals "_law_kind" = some (some (.ref f33))) (l33 : K.lookup f33 = some ⟨oc33, od33, .func (PySem.W.fnOf "_law_kind" "_law_kind" (defArgs sKind) (defBody sKind) (defScope sKind) .none kV33 dc33 pm33 an33 cd33 ct33), sl33⟩) (c33 : PySem.W.codeIn K cd33 "_law_kind" = true) (k33 : PySem.W.keepIn K (.ref f33) = true)
    (a34 : PySem.W.nsIn K mainGlobals "_law_saying" = some (some (.ref f34))) (l34 : K.lookup f34 = some ⟨oc34, od34, .func (PySem.W.fnOf "_law_saying" "_law_saying" (defArgs sSaying) (defBody sSaying) (defScope sSaying) .none kV34 dc34 pm34 an34 cd34 ct34), sl34⟩) (c34 : PySem.W.codeIn K cd34 "_law_saying" = true) (k34 : PySem.W.keepIn K (.ref f34) = true)
    (a35 : PySem.W.nsIn K mainGlobals "_law_numbered" = some (some (.ref f35))) (l35 : K.lookup f35 = some ⟨oc35, od35, .func (PySem.W.fnOf "_law_numbered" "_law_numbered" (defArgs sNumbered) (defBody sNumbered) (defScope sNumbered) .none kV35 dc35 pm35 an35 cd35 ct35), sl35⟩) (c35 : PySem.W.codeIn K cd35 "_law_numbered" = true) (k35 : PySem.W.keepIn K (.ref f35) = true)
    (a36 : PySem.W.nsIn K mainGlobals "_law_single" = some (some (.ref f36))) (l36 : K.lookup f36 = some ⟨oc36, od36, .func (PySem.W.fnOf "_law_single" "_law_single" (defArgs sSingle) (defBody sSingle) (defScope sSingle) .none kV36 dc36 pm36 an36 cd36 ct36), sl36⟩) (c36 : PySem.W.codeIn K cd36 "_law_single" = true) (k36 : PySem.W.keepIn K (.ref f36) = true)
    (a37 : PySem.W.nsIn K mainGlobals "_law_singles" = some (some (.ref f37))) (l37 : K.lookup f37 = some ⟨oc37, od37, .func (PySem.W.fnOf "_law_singles" "_law_singles" (defArgs sSingles) (defBody sSingles) (defScope sSingles) .none kV37 dc37 pm37 an37 cd37 ct37), sl37⟩) (c37 : PySem.W.codeIn K cd37 "_law_singles" = true) (k37 : PySem.W.keepIn K (.ref f37) = true)
    (a38 : PySem.W.nsIn K mainGlobals "_law_from_none" = some (some (.ref f38))) (l38 : K.lookup f38 = some ⟨oc38, od38, .func (PySem.W.fnOf "_law_from_none" "_law_from_none" (defArgs sFNone) (defBody sFNone) (defScope sFNone) .none kV38 dc38 pm38 an38 cd38 ct38), sl38⟩) (c38 : PySem.W.codeIn K cd38 "_law_from_none" = true) (k38 : PySem.W.keepIn K (.ref f38) = true)
    (a39 : PySem.W.nsIn K mainGlobals "_law_from_one" = some (some (.ref f39))) (l39 : K.lookup f39 = some ⟨oc39, od39, .func (PySem.W.fnOf "_law_from_one" "_law_from_one" (defArgs sFOne) (defBody sFOne) (defScope sFOne) .none kV39 dc39 pm39 an39 cd39 ct39), sl39⟩) (c39 : PySem.W.codeIn K cd39 "_law_from_one" = true) (k39 : PySem.W.keepIn K (.ref f39) = true)
    (a40 : PySem.W.nsIn K mainGlobals "_law_from_two" = some (some (.ref f40))) (l40 : K.lookup f40 = some ⟨oc40, od40, .func (PySem.W.fnOf "_law_from_two" "_law_from_two" (defArgs sFTwo) (defBody sFTwo) (defScope sFTwo) .none kV40 dc40 pm40 an40 cd40 ct40), sl40⟩) (c40 : PySem.W.codeIn K cd40 "_law_from_two" = true) (k40 : PySem.W.keepIn K (.ref f40) = true)
    (a41 : PySem.W.nsIn K mainGlobals "_law_fine" = some (some (.ref f41))) (l41 : K.lookup f41 = some ⟨oc41, od41, .func (PySem.W.fnOf "_law_fine" "_law_fine" (defArgs sFine) (defBody sFine) (defScope sFine) .none kV41 dc41 pm41 an41 cd41 ct41), sl41⟩) (c41 : PySem.W.codeIn K cd41 "_law_fine" = true) (k41 : PySem.W.keepIn K (.ref f41) = true)
    (a42 : PySem.W.nsIn K mainGlobals "_law_copy" = some (some (.ref f42))) (l42 : K.lookup f42 = some ⟨oc42, od42, .func (PySem.W.fnOf "_law_copy" "_law_copy" (defArgs sCopy) (defBody sCopy) (defScope sCopy) .none kV42 dc42 pm42 an42 cd42 ct42), sl42⟩) (c42 : PySem.W.codeIn K cd42 "_law_copy" = true) (k42 : PySem.W.keepIn K (.ref f42) = true)
    (a43 : PySem.W.nsIn K mainGlobals "_law_size" = some (some (.ref f43))) (l43 : K.lookup f43 = some ⟨oc43, od43, .func (PySem.W.fnOf "_law_size" "_law_size" (defArgs sSize) (defBody sSize) (defScope sSize) .none kV43 dc43 pm43 an43 cd43 ct43), sl43⟩) (c43 : PySem.W.codeIn K cd43 "_law_size" = true) (k43 : PySem.W.keepIn K (.ref f43) = true)
    (a44 : PySem.W.nsIn K mainGlobals "_law_ways_of_kind" = some (some (.ref f44))) (l44 : K.lookup f44 = some ⟨oc44, od44, .func (PySem.W.fnOf "_law_ways_of_kind" "_law_ways_of_kind" (defArgs sWaysK) (defBody sWaysK) (defScope sWaysK) .none kV44 dc44 pm44 an44 cd44 ct44), sl44⟩) (c44 : PySem.W.codeIn K cd44 "_law_ways_of_kind" = true) (k44 : PySem.W.keepIn K (.ref f44) = true)
    (a45 : PySem.W.nsIn K mainGlobals "_law_ways_of_tie" = some (some (.ref f45))) (l45 : K.lookup f45 = some ⟨oc45, od45, .func (PySem.W.fnOf "_law_ways_of_tie" "_law_ways_of_tie" (defArgs sWaysT) (defBody sWaysT) (defScope sWaysT) .none kV45 dc45 pm45 an45 cd45 ct45), sl45⟩) (c45 : PySem.W.codeIn K cd45 "_law_ways_of_tie" = true) (k45 : PySem.W.keepIn K (.ref f45) = true)
    (a46 : PySem.W.nsIn K mainGlobals "_law_plain_step" = some (some (.ref f46))) (l46 : K.lookup f46 = some ⟨oc46, od46, .func (PySem.W.fnOf "_law_plain_step" "_law_plain_step" (defArgs sPlain) (defBody sPlain) (defScope sPlain) .none kV46 dc46 pm46 an46 cd46 ct46), sl46⟩) (c46 : PySem.W.codeIn K cd46 "_law_plain_step" = true) (k46 : PySem.W.keepIn K (.ref f46) = true)
    (a47 : PySem.W.nsIn K mainGlobals "_law_grown" = some (some (.ref f47))) (l47 : K.lookup f47 = some ⟨oc47, od47, .func (PySem.W.fnOf "_law_grown" "_law_grown" (defArgs sGrown) (defBody sGrown) (defScope sGrown) .none kV47 dc47 pm47 an47 cd47 ct47), sl47⟩) (c47 : PySem.W.codeIn K cd47 "_law_grown" = true) (k47 : PySem.W.keepIn K (.ref f47) = true)
    (a48 : PySem.W.nsIn K mainGlobals "_law_spoil" = some (some (.ref f48))) (l48 : K.lookup f48 = some ⟨oc48, od48, .func (PySem.W.fnOf "_law_spoil" "_law_spoil" (defArgs sSpoil) (defBody sSpoil) (defScope sSpoil) .none kV48 dc48 pm48 an48 cd48 ct48), sl48⟩) (c48 : PySem.W.codeIn K cd48 "_law_spoil" = true) (k48 : PySem.W.keepIn K (.ref f48) = true)
    (a49 : PySem.W.nsIn K mainGlobals "_law_holds" = some (some (.ref f49))) (l49 : K.lookup f49 = some ⟨oc49, od49, .func (PySem.W.fnOf "_law_holds" "_law_holds" (defArgs sHolds) (defBody sHolds) (defScope sHolds) .none kV49 dc49 pm49 an49 cd49 ct49), sl49⟩) (c49 : PySem.W.codeIn K cd49 "_law_holds" = true) (k49 : PySem.W.keepIn K (.ref f49) = true)
    (a50 : PySem.W.nsIn K mainGlobals "law" = some (some (.ref f50))) (l50 : K.lookup f50 = some ⟨oc50, od50, .func (PySem.W.fnOf "law" "law" (defArgs sLaw) (defBody sLaw) (defScope sLaw) .none kV50 dc50 pm50 an50 cd50 ct50), sl50⟩) (c50 : PySem.W.codeIn K cd50 "law" = true) (k50 : PySem.W.keepIn K (.ref f50) = true)
    {it1 : Tok} (ia1 : PySem.W.nsIn K mainGlobals "MOST_SIGNS" = some (some (.int 12 it1)))
    {ta1 : Addr} {tod1 : Option Addr} {tn1 : Nat} {tsl1 : Array (Option Value)} {tt1_0 tt1_1 : Tok}
    (sa1 : PySem.W.nsIn K mainGlobals "WHOLES" = some (some (.ref ta1))) (sb1 : K.lookup ta1 = some ⟨.type "tuple", tod1, .seq #[.str "anything" tt1_0, .str "nothing" tt1_1] tn1, tsl1⟩)
    {ta2 : Addr} {tod2 : Option Addr} {tn2 : Nat} {tsl2 : Array (Option Value)} {tt2_0 tt2_1 tt2_2 tt2_3 tt2_4 tt2_5 : Tok}
    (sa2 : PySem.W.nsIn K mainGlobals "BY_SAYING" = some (some (.ref ta2))) (sb2 : K.lookup ta2 = some ⟨.type "tuple", tod2, .seq #[.str "thing" tt2_0, .str "tied" tt2_1, .str "every" tt2_2, .str "within" tt2_3, .str "no" tt2_4, .str "makes" tt2_5] tn2, tsl2⟩)
    {da1 : Addr} {dn1 : Nat} {dt1_0 dt1_1 dt1_2 dt1_3 dt1_4 dt1_5 : Tok} {de1_0 de1_1 de1_2 de1_3 de1_4 de1_5 : Addr}
    (dA1 : PySem.W.nsIn K mainGlobals "FORMS" = some (some (.ref da1))) (dB1 : K.lookup da1 = some ⟨.type "dict", none, .dict #[⟨PyData.keyHash w.params "every", .str "every" dt1_0, .ref de1_0⟩, ⟨PyData.keyHash w.params "no", .str "no" dt1_1, .ref de1_1⟩, ⟨PyData.keyHash w.params "thing", .str "thing" dt1_2, .ref de1_2⟩, ⟨PyData.keyHash w.params "tied", .str "tied" dt1_3, .ref de1_3⟩, ⟨PyData.keyHash w.params "within", .str "within" dt1_4, .ref de1_4⟩, ⟨PyData.keyHash w.params "makes", .str "makes" dt1_5, .ref de1_5⟩] dn1, #[]⟩)
    {dod1_0 : Option Addr} {dm1_0 : Nat} {dsl1_0 : Array (Option Value)} {du1_0_0 du1_0_1 : Tok} (dC1_0 : K.lookup de1_0 = some ⟨.type "tuple", dod1_0, .seq #[.str "kind" du1_0_0, .str "kind" du1_0_1] dm1_0, dsl1_0⟩)
    {dod1_1 : Option Addr} {dm1_1 : Nat} {dsl1_1 : Array (Option Value)} {du1_1_0 du1_1_1 : Tok} (dC1_1 : K.lookup de1_1 = some ⟨.type "tuple", dod1_1, .seq #[.str "kind" du1_1_0, .str "kind" du1_1_1] dm1_1, dsl1_1⟩)
    {dod1_2 : Option Addr} {dm1_2 : Nat} {dsl1_2 : Array (Option Value)} {du1_2_0 du1_2_1 : Tok} (dC1_2 : K.lookup de1_2 = some ⟨.type "tuple", dod1_2, .seq #[.str "thing" du1_2_0, .str "kind" du1_2_1] dm1_2, dsl1_2⟩)
    {dod1_3 : Option Addr} {dm1_3 : Nat} {dsl1_3 : Array (Option Value)} {du1_3_0 du1_3_1 du1_3_2 : Tok} (dC1_3 : K.lookup de1_3 = some ⟨.type "tuple", dod1_3, .seq #[.str "thing" du1_3_0, .str "tie" du1_3_1, .str "thing" du1_3_2] dm1_3, dsl1_3⟩)
    {dod1_4 : Option Addr} {dm1_4 : Nat} {dsl1_4 : Array (Option Value)} {du1_4_0 du1_4_1 : Tok} (dC1_4 : K.lookup de1_4 = some ⟨.type "tuple", dod1_4, .seq #[.str "tie" du1_4_0, .str "tie" du1_4_1] dm1_4, dsl1_4⟩)
    {dod1_5 : Option Addr} {dm1_5 : Nat} {dsl1_5 : Array (Option Value)} {du1_5_0 du1_5_1 du1_5_2 : Tok} (dC1_5 : K.lookup de1_5 = some ⟨.type "tuple", dod1_5, .seq #[.str "tie" du1_5_0, .str "tie" du1_5_1, .str "tie" du1_5_2] dm1_5, dsl1_5⟩)
    {ga1 : Addr} {gn1 : Nat} {gt1_0 gt1_1 gt1_2 gt1_3 gt1_4 gt1_5 gt1_6 gt1_7 gt1_8 gt1_9 gt1_10 gt1_11 : Tok} 
    (gA1 : PySem.W.nsIn K mainGlobals "MAKERS" = some (some (.ref ga1))) (gB1 : K.lookup ga1 = some ⟨.type "dict", none, .dict #[⟨PyData.keyHash w.params "thing", .str "thing" gt1_0, .ref f8⟩, ⟨PyData.keyHash w.params "tied", .str "tied" gt1_1, .ref f9⟩, ⟨PyData.keyHash w.params "every", .str "every" gt1_2, .ref f10⟩, ⟨PyData.keyHash w.params "first", .str "first" gt1_3, .ref f11⟩, ⟨PyData.keyHash w.params "second", .str "second" gt1_4, .ref f12⟩, ⟨PyData.keyHash w.params "some", .str "some" gt1_5, .ref f13⟩, ⟨PyData.keyHash w.params "within", .str "within" gt1_6, .ref f14⟩, ⟨PyData.keyHash w.params "no", .str "no" gt1_7, .ref f15⟩, ⟨PyData.keyHash w.params "both", .str "both" gt1_8, .ref f16⟩, ⟨PyData.keyHash w.params "tie", .str "tie" gt1_9, .ref f17⟩, ⟨PyData.keyHash w.params "none", .str "none" gt1_10, .ref f18⟩, ⟨PyData.keyHash w.params "makes", .str "makes" gt1_11, .ref f19⟩] gn1, #[]⟩)
    {ja1 : Addr} {jn1 : Nat} {jt1_0 ju1_0 jt1_1 ju1_1 jt1_2 ju1_2 jt1_3 ju1_3 jt1_4 ju1_4 jt1_5 ju1_5 jt1_6 ju1_6 jt1_7 ju1_7 jt1_8 ju1_8 jt1_9 ju1_9 jt1_10 ju1_10 jt1_11 ju1_11 jt1_12 ju1_12 jt1_13 ju1_13 : Tok}
    (jA1 : PySem.W.nsIn K mainGlobals "FROMS" = some (some (.ref ja1))) (jB1 : K.lookup ja1 = some ⟨.type "dict", none, .dict #[⟨PyData.keyHash w.params "self", .str "self" jt1_0, .int 0 ju1_0⟩, ⟨PyData.keyHash w.params "all", .str "all" jt1_1, .int 0 ju1_1⟩, ⟨PyData.keyHash w.params "thing", .str "thing" jt1_2, .int 0 ju1_2⟩, ⟨PyData.keyHash w.params "tied", .str "tied" jt1_3, .int 0 ju1_3⟩, ⟨PyData.keyHash w.params "every", .str "every" jt1_4, .int 1 ju1_4⟩, ⟨PyData.keyHash w.params "first", .str "first" jt1_5, .int 1 ju1_5⟩, ⟨PyData.keyHash w.params "second", .str "second" jt1_6, .int 1 ju1_6⟩, ⟨PyData.keyHash w.params "some", .str "some" jt1_7, .int 1 ju1_7⟩, ⟨PyData.keyHash w.params "within", .str "within" jt1_8, .int 1 ju1_8⟩, ⟨PyData.keyHash w.params "no", .str "no" jt1_9, .int 2 ju1_9⟩, ⟨PyData.keyHash w.params "both", .str "both" jt1_10, .int 2 ju1_10⟩, ⟨PyData.keyHash w.params "tie", .str "tie" jt1_11, .int 2 ju1_11⟩, ⟨PyData.keyHash w.params "none", .str "none" jt1_12, .int 2 ju1_12⟩, ⟨PyData.keyHash w.params "makes", .str "makes" jt1_13, .int 2 ju1_13⟩] jn1, #[]⟩) (js1 : (ja1 == sysModules) = false)
    (z1 : PySem.W.nsIn K mainGlobals "len" = some none)
    (z2 : PySem.W.nsIn K mainGlobals "range" = some none)
    (z3 : PySem.W.nsIn K mainGlobals "isinstance" = some none)
    (z4 : PySem.W.nsIn K mainGlobals "str" = some none)
    (z5 : PySem.W.nsIn K mainGlobals "tuple" = some none)
    (z6 : PySem.W.nsIn K mainGlobals "list" = some none)
    (z7 : PySem.W.nsIn K mainGlobals "zip" = some none)
    (z8 : PySem.W.nsIn K mainGlobals "all" = some none)
    (z9 : PySem.W.nsIn K mainGlobals "int" = some none)
    (z10 : PySem.W.nsIn K mainGlobals "bool" = some none)
    (z11 : PySem.W.nsIn K mainGlobals "dict" = some none)
    : ∃ fd : FuncData, (∀ (s : Shared) (v : Value), BindsTo s fd ⟨[v], []⟩ [("_law_script", v)]) ∧ ∀ base : Heap, K.In base → base.Ns mainGlobals mg → FnOk l.prog w K mg base CX0 66 fa fd ["_law_script"] (spLaw K) := by
  have e := hfa.symm.trans (PySem.W.mg_of X G a50)
  cases e
  have F1 := fun_mk (st := sInner) l1 c1 k1
  have b1 := F1.binds (ps := ["kind"]) fun _ _ _ _ _ _ us hl => match us, hl with | [_], _ => rfl
  have m1 := PySem.W.mg_of X G a1
  have F2 := fun_mk (st := sNote) l2 c2 k2
  have b2 := F2.binds (ps := ["kind", "kinds", "ties"]) fun _ _ _ _ _ _ us hl => match us, hl with | [_, _, _], _ => rfl
  have m2 := PySem.W.mg_of X G a2
  have F3 := fun_mk (st := sNamed) l3 c3 k3
  have b3 := F3.binds (ps := ["saying"]) fun _ _ _ _ _ _ us hl => match us, hl with | [_], _ => rfl
  have m3 := PySem.W.mg_of X G a3
  have F4 := fun_mk (st := sSmall) l4 c4 k4
  have b4 := F4.binds (ps := ["sign"]) fun _ _ _ _ _ _ us hl => match us, hl with | [_], _ => rfl
  have m4 := PySem.W.mg_of X G a4
  have F5 := fun_mk (st := sAll) l5 c5 k5
  have b5 := F5.binds (ps := ["text"]) fun _ _ _ _ _ _ us hl => match us, hl with | [_], _ => rfl
  have m5 := PySem.W.mg_of X G a5
  have F6 := fun_mk (st := sThing) l6 c6 k6
  have b6 := F6.binds (ps := ["text"]) fun _ _ _ _ _ _ us hl => match us, hl with | [_], _ => rfl
  have m6 := PySem.W.mg_of X G a6
  have F7 := fun_mk (st := sOfForm) l7 c7 k7
  have b7 := F7.binds (ps := ["fact", "form"]) fun _ _ _ _ _ _ us hl => match us, hl with | [_, _], _ => rfl
  have m7 := PySem.W.mg_of X G a7
  have F8 := fun_mk (st := sMThing) l8 c8 k8
  have b8 := F8.binds (ps := ["told", "saying"]) fun _ _ _ _ _ _ us hl => match us, hl with | [_, _], _ => rfl
  have m8 := PySem.W.mg_of X G a8
  have F9 := fun_mk (st := sMTied) l9 c9 k9
  have b9 := F9.binds (ps := ["told", "saying"]) fun _ _ _ _ _ _ us hl => match us, hl with | [_, _], _ => rfl
  have m9 := PySem.W.mg_of X G a9
  have F10 := fun_mk (st := sMEvery) l10 c10 k10
  have b10 := F10.binds (ps := ["told", "saying"]) fun _ _ _ _ _ _ us hl => match us, hl with | [_, _], _ => rfl
  have m10 := PySem.W.mg_of X G a10
  have F11 := fun_mk (st := sMFirst) l11 c11 k11
  have b11 := F11.binds (ps := ["told", "saying"]) fun _ _ _ _ _ _ us hl => match us, hl with | [_, _], _ => rfl
  have m11 := PySem.W.mg_of X G a11
  have F12 := fun_mk (st := sMSecond) l12 c12 k12
  have b12 := F12.binds (ps := ["told", "saying"]) fun _ _ _ _ _ _ us hl => match us, hl with | [_, _], _ => rfl
  have m12 := PySem.W.mg_of X G a12
  have F13 := fun_mk (st := sMSome) l13 c13 k13
  have b13 := F13.binds (ps := ["told", "saying"]) fun _ _ _ _ _ _ us hl => match us, hl with | [_, _], _ => rfl
  have m13 := PySem.W.mg_of X G a13
  have F14 := fun_mk (st := sMWithin) l14 c14 k14
  have b14 := F14.binds (ps := ["told", "saying"]) fun _ _ _ _ _ _ us hl => match us, hl with | [_, _], _ => rfl
  have m14 := PySem.W.mg_of X G a14
  have F15 := fun_mk (st := sMNo) l15 c15 k15
  have b15 := F15.binds (ps := ["told", "saying"]) fun _ _ _ _ _ _ us hl => match us, hl with | [_, _], _ => rfl
  have m15 := PySem.W.mg_of X G a15
  have F16 := fun_mk (st := sMBoth) l16 c16 k16
  have b16 := F16.binds (ps := ["told", "saying"]) fun _ _ _ _ _ _ us hl => match us, hl with | [_, _], _ => rfl
  have m16 := PySem.W.mg_of X G a16
  have F17 := fun_mk (st := sMTie) l17 c17 k17
  have b17 := F17.binds (ps := ["told", "saying"]) fun _ _ _ _ _ _ us hl => match us, hl with | [_, _], _ => rfl
  have m17 := PySem.W.mg_of X G a17
  have F18 := fun_mk (st := sMNone) l18 c18 k18
  have b18 := F18.binds (ps := ["told", "saying"]) fun _ _ _ _ _ _ us hl => match us, hl with | [_, _], _ => rfl
  have m18 := PySem.W.mg_of X G a18
  have F19 := fun_mk (st := sMMakes) l19 c19 k19
  have b19 := F19.binds (ps := ["told", "saying"]) fun _ _ _ _ _ _ us hl => match us, hl with | [_, _], _ => rfl
  have m19 := PySem.W.mg_of X G a19
  have F20 := fun_mk (st := sStands) l20 c20 k20
  have b20 := F20.binds (ps := ["x"]) fun _ _ _ _ _ _ us hl => match us, hl with | [_], _ => rfl
  have m20 := PySem.W.mg_of X G a20
  have F21 := fun_mk (st := sIsSelf) l21 c21 k21
  have b21 := F21.binds (ps := ["fact"]) fun _ _ _ _ _ _ us hl => match us, hl with | [_], _ => rfl
  have m21 := PySem.W.mg_of X G a21
  have F22 := fun_mk (st := sIsAll) l22 c22 k22
  have b22 := F22.binds (ps := ["fact", "things"]) fun _ _ _ _ _ _ us hl => match us, hl with | [_, _], _ => rfl
  have m22 := PySem.W.mg_of X G a22
  have F23 := fun_mk (st := sThingsN) l23 c23 k23
  have b23 := F23.binds (ps := ["pairs"]) fun _ _ _ _ _ _ us hl => match us, hl with | [_], _ => rfl
  have m23 := PySem.W.mg_of X G a23
  have F24 := fun_mk (st := sIsWhole) l24 c24 k24
  have b24 := F24.binds (ps := ["value"]) fun _ _ _ _ _ _ us hl => match us, hl with | [_], _ => rfl
  have m24 := PySem.W.mg_of X G a24
  have F25 := fun_mk (st := sEarlier) l25 c25 k25
  have b25 := F25.binds (ps := ["froms", "at"]) fun _ _ _ _ _ _ us hl => match us, hl with | [_, _], _ => rfl
  have m25 := PySem.W.mg_of X G a25
  have F26 := fun_mk (st := sFits) l26 c26 k26
  have b26 := F26.binds (ps := ["rule", "number", "sayings"]) fun _ _ _ _ _ _ us hl => match us, hl with | [_, _, _], _ => rfl
  have m26 := PySem.W.mg_of X G a26
  have F27 := fun_mk (st := sIsRight) l27 c27 k27
  have b27 := F27.binds (ps := ["steps", "at", "sayings", "things"]) fun _ _ _ _ _ _ us hl => match us, hl with | [_, _, _, _], _ => rfl
  have m27 := PySem.W.mg_of X G a27
  have F28 := fun_mk (st := sStandsL) l28 c28 k28
  have b28 := F28.binds (ps := ["steps", "pairs"]) fun _ _ _ _ _ _ us hl => match us, hl with | [_, _], _ => rfl
  have m28 := PySem.W.mg_of X G a28
  have F29 := fun_mk (st := sCell) l29 c29 k29
  have b29 := F29.binds (ps := ["_law_script", "_law_k"]) fun _ _ _ _ _ _ us hl => match us, hl with | [_, _], _ => rfl
  have m29 := PySem.W.mg_of X G a29
  have F30 := fun_mk (st := sDraw) l30 c30 k30
  have b30 := F30.binds (ps := ["_law_bag", "_law_many"]) fun _ _ _ _ _ _ us hl => match us, hl with | [_, _], _ => rfl
  have m30 := PySem.W.mg_of X G a30
  have F31 := fun_mk (st := sWords) l31 c31 k31
  have b31 := F31.binds (ps := ["_law_cell_here", "_law_many"]) fun _ _ _ _ _ _ us hl => match us, hl with | [_, _], _ => rfl
  have m31 := PySem.W.mg_of X G a31
  have F32 := fun_mk (st := sThings) l32 c32 k32
  have b32 := F32.binds (ps := ["_law_cell_here", "_law_many"]) fun _ _ _ _ _ _ us hl => match us, hl with | [_, _], _ => rfl
  have m32 := PySem.W.mg_of X G a32
  have F33 := fun_mk (st := sKind) l33 c33 k33
  have b33 := F33.binds (ps := ["_law_bag", "_law_kin", "_law_ties", "_law_deep"]) fun _ _ _ _ _ _ us hl => match us, hl with | [_, _, _, _], _ => rfl
  have m33 := PySem.W.mg_of X G a33
  have F34 := fun_mk (st := sSaying) l34 c34 k34
  have b34 := F34.binds (ps := ["_law_bag", "_law_kin", "_law_ties", "_law_things_here"]) fun _ _ _ _ _ _ us hl => match us, hl with | [_, _, _, _], _ => rfl
  have m34 := PySem.W.mg_of X G a34
  have F35 := fun_mk (st := sNumbered) l35 c35 k35
  have b35 := F35.binds (ps := ["_law_cells", "_law_bag", "_law_kin", "_law_ties", "_law_things_here"]) fun _ _ _ _ _ _ us hl => match us, hl with | [_, _, _, _, _], _ => rfl
  have m35 := PySem.W.mg_of X G a35
  have F36 := fun_mk (st := sSingle) l36 c36 k36
  have b36 := F36.binds (ps := ["_law_x"]) fun _ _ _ _ _ _ us hl => match us, hl with | [_], _ => rfl
  have m36 := PySem.W.mg_of X G a36
  have F37 := fun_mk (st := sSingles) l37 c37 k37
  have b37 := F37.binds (ps := ["_law_pairs"]) fun _ _ _ _ _ _ us hl => match us, hl with | [_], _ => rfl
  have m37 := PySem.W.mg_of X G a37
  have F38 := fun_mk (st := sFNone) l38 c38 k38
  have b38 := F38.binds (ps := ["_law_rule", "_law_claim", "_law_saying_here", "_law_singles_here"]) fun _ _ _ _ _ _ us hl => match us, hl with | [_, _, _, _], _ => rfl
  have m38 := PySem.W.mg_of X G a38
  have F39 := fun_mk (st := sFOne) l39 c39 k39
  have b39 := F39.binds (ps := ["_law_rule", "_law_claim", "_law_one", "_law_saying_here"]) fun _ _ _ _ _ _ us hl => match us, hl with | [_, _, _, _], _ => rfl
  have m39 := PySem.W.mg_of X G a39
  have F40 := fun_mk (st := sFTwo) l40 c40 k40
  have b40 := F40.binds (ps := ["_law_rule", "_law_claim", "_law_one", "_law_two", "_law_saying_here"]) fun _ _ _ _ _ _ us hl => match us, hl with | [_, _, _, _, _], _ => rfl
  have m40 := PySem.W.mg_of X G a40
  have F41 := fun_mk (st := sFine) l41 c41 k41
  have b41 := F41.binds (ps := ["_law_steps", "_law_at", "_law_pairs", "_law_singles_here"]) fun _ _ _ _ _ _ us hl => match us, hl with | [_, _, _, _], _ => rfl
  have m41 := PySem.W.mg_of X G a41
  have F42 := fun_mk (st := sCopy) l42 c42 k42
  have b42 := F42.binds (ps := ["_law_steps"]) fun _ _ _ _ _ _ us hl => match us, hl with | [_], _ => rfl
  have m42 := PySem.W.mg_of X G a42
  have F43 := fun_mk (st := sSize) l43 c43 k43
  have b43 := F43.binds (ps := ["_law_kind_here"]) fun _ _ _ _ _ _ us hl => match us, hl with | [_], _ => rfl
  have m43 := PySem.W.mg_of X G a43
  have F44 := fun_mk (st := sWaysK) l44 c44 k44
  have b44 := F44.binds (ps := ["_law_steps", "_law_i", "_law_j", "_law_number", "_law_saying_here"]) fun _ _ _ _ _ _ us hl => match us, hl with | [_, _, _, _, _], _ => rfl
  have m44 := PySem.W.mg_of X G a44
  have F45 := fun_mk (st := sWaysT) l45 c45 k45
  have b45 := F45.binds (ps := ["_law_steps", "_law_i", "_law_j", "_law_number", "_law_saying_here"]) fun _ _ _ _ _ _ us hl => match us, hl with | [_, _, _, _, _], _ => rfl
  have m45 := PySem.W.mg_of X G a45
  have F46 := fun_mk (st := sPlain) l46 c46 k46
  have b46 := F46.binds (ps := ["_law_bag", "_law_pairs", "_law_kin", "_law_ties"]) fun _ _ _ _ _ _ us hl => match us, hl with | [_, _, _, _], _ => rfl
  have m46 := PySem.W.mg_of X G a46
  have F47 := fun_mk (st := sGrown) l47 c47 k47
  have b47 := F47.binds (ps := ["_law_bag", "_law_steps", "_law_pairs", "_law_kin", "_law_ties"]) fun _ _ _ _ _ _ us hl => match us, hl with | [_, _, _, _, _], _ => rfl
  have m47 := PySem.W.mg_of X G a47
  have F48 := fun_mk (st := sSpoil) l48 c48 k48
  have b48 := F48.binds (ps := ["_law_bag", "_law_steps", "_law_kin", "_law_things_here", "_law_pairs"]) fun _ _ _ _ _ _ us hl => match us, hl with | [_, _, _, _, _], _ => rfl
  have m48 := PySem.W.mg_of X G a48
  have F49 := fun_mk (st := sHolds) l49 c49 k49
  have b49 := F49.binds (ps := ["_law_steps", "_law_pairs", "_law_singles_here"]) fun _ _ _ _ _ _ us hl => match us, hl with | [_, _, _], _ => rfl
  have m49 := PySem.W.mg_of X G a49
  have F50 := fun_mk (st := sLaw) l50 c50 k50
  have m50 := PySem.W.mg_of X G a50
  have mi1 := PySem.W.mg_of X G ia1
  have ms1 := PySem.W.mg_of X G sa1
  have ms2 := PySem.W.mg_of X G sa2
  have md1 := PySem.W.mg_of X G dA1
  have mf1 := PySem.W.mg_of X G gA1
  have mj1 := PySem.W.mg_of X G jA1
  have n1 := PySem.W.mg_none_of X G z1
  have n2 := PySem.W.mg_none_of X G z2
  have n3 := PySem.W.mg_none_of X G z3
  have n4 := PySem.W.mg_none_of X G z4
  have n5 := PySem.W.mg_none_of X G z5
  have n6 := PySem.W.mg_none_of X G z6
  have n7 := PySem.W.mg_none_of X G z7
  have n8 := PySem.W.mg_none_of X G z8
  have n9 := PySem.W.mg_none_of X G z9
  have n10 := PySem.W.mg_none_of X G z10
  have n11 := PySem.W.mg_none_of X G z11
  refine ⟨PySem.W.fnOf "law" "law" (defArgs sLaw) (defBody sLaw) (defScope sLaw) .none kV50 dc50 pm50 an50 cd50 ct50, fun s v => .of_eq rfl, fun base _ _ => ?_⟩
  have hW : ∀ H, SqT K H ta1 [.str "anything", .str "nothing"] := fun H => tup_of sb1 (by show 2 ≤ sizeLine; exact small2 (by decide)) (.cons ⟨_, rfl⟩ (.cons ⟨_, rfl⟩ .nil))
  have kd : KDict K l.prog w da1 [(Sum.inr "every", .ref de1_0), (Sum.inr "no", .ref de1_1), (Sum.inr "thing", .ref de1_2), (Sum.inr "tied", .ref de1_3), (Sum.inr "within", .ref de1_4), (Sum.inr "makes", .ref de1_5)] := kdict_mk [("every", dt1_0, .ref de1_0), ("no", dt1_1, .ref de1_1), ("thing", dt1_2, .ref de1_2), ("tied", dt1_3, .ref de1_3), ("within", dt1_4, .ref de1_4), ("makes", dt1_5, .ref de1_5)] dB1 (.cons ⟨rfl, rfl⟩ (.cons ⟨rfl, rfl⟩ (.cons ⟨rfl, rfl⟩ (.cons ⟨rfl, rfl⟩ (.cons ⟨rfl, rfl⟩ (.cons ⟨rfl, rfl⟩ .nil)))))) (by show (["every", "no", "thing", "tied", "within", "makes"] : List Str).Nodup; decide +kernel)
  have hF : ∀ (fo : Str) (ss : List Str), (fo, ss) ∈ formsL → ∃ kvs a, KDict K l.prog w da1 kvs ∧ valV kvs (.inr fo) = some (.ref a) ∧ ∀ H, SqT K H a (ss.map V.str) := by
    intro fo ss hf
    simp only [formsL, List.mem_cons, List.mem_nil_iff, or_false, Prod.mk.injEq] at hf
    rcases hf with ⟨rfl, rfl⟩ | ⟨rfl, rfl⟩ | ⟨rfl, rfl⟩ | ⟨rfl, rfl⟩ | ⟨rfl, rfl⟩ | ⟨rfl, rfl⟩
    · exact ⟨_, de1_0, kd, rfl, fun H => tup_of dC1_0 (by show 2 ≤ sizeLine; exact small2 (by decide)) (.cons ⟨_, rfl⟩ (.cons ⟨_, rfl⟩ .nil))⟩
    · exact ⟨_, de1_1, kd, rfl, fun H => tup_of dC1_1 (by show 2 ≤ sizeLine; exact small2 (by decide)) (.cons ⟨_, rfl⟩ (.cons ⟨_, rfl⟩ .nil))⟩
    · exact ⟨_, de1_2, kd, rfl, fun H => tup_of dC1_2 (by show 2 ≤ sizeLine; exact small2 (by decide)) (.cons ⟨_, rfl⟩ (.cons ⟨_, rfl⟩ .nil))⟩
    · exact ⟨_, de1_3, kd, rfl, fun H => tup_of dC1_3 (by show 3 ≤ sizeLine; exact small2 (by decide)) (.cons ⟨_, rfl⟩ (.cons ⟨_, rfl⟩ (.cons ⟨_, rfl⟩ .nil)))⟩
    · exact ⟨_, de1_4, kd, rfl, fun H => tup_of dC1_4 (by show 2 ≤ sizeLine; exact small2 (by decide)) (.cons ⟨_, rfl⟩ (.cons ⟨_, rfl⟩ .nil))⟩
    · exact ⟨_, de1_5, kd, rfl, fun H => tup_of dC1_5 (by show 3 ≤ sizeLine; exact small2 (by decide)) (.cons ⟨_, rfl⟩ (.cons ⟨_, rfl⟩ (.cons ⟨_, rfl⟩ .nil)))⟩
  have hB : ∀ H, SqT K H ta2 (byL.map V.str) := fun H => tup_of sb2 (by show 6 ≤ sizeLine; exact small2 (by decide)) (.cons ⟨_, rfl⟩ (.cons ⟨_, rfl⟩ (.cons ⟨_, rfl⟩ (.cons ⟨_, rfl⟩ (.cons ⟨_, rfl⟩ (.cons ⟨_, rfl⟩ .nil))))))
  have hR : KDict K l.prog w ja1 fromsKV := kdict_mk [("self", jt1_0, .int 0 ju1_0), ("all", jt1_1, .int 0 ju1_1), ("thing", jt1_2, .int 0 ju1_2), ("tied", jt1_3, .int 0 ju1_3), ("every", jt1_4, .int 1 ju1_4), ("first", jt1_5, .int 1 ju1_5), ("second", jt1_6, .int 1 ju1_6), ("some", jt1_7, .int 1 ju1_7), ("within", jt1_8, .int 1 ju1_8), ("no", jt1_9, .int 2 ju1_9), ("both", jt1_10, .int 2 ju1_10), ("tie", jt1_11, .int 2 ju1_11), ("none", jt1_12, .int 2 ju1_12), ("makes", jt1_13, .int 2 ju1_13)] jB1 (.cons ⟨rfl, ⟨_, rfl⟩⟩ (.cons ⟨rfl, ⟨_, rfl⟩⟩ (.cons ⟨rfl, ⟨_, rfl⟩⟩ (.cons ⟨rfl, ⟨_, rfl⟩⟩ (.cons ⟨rfl, ⟨_, rfl⟩⟩ (.cons ⟨rfl, ⟨_, rfl⟩⟩ (.cons ⟨rfl, ⟨_, rfl⟩⟩ (.cons ⟨rfl, ⟨_, rfl⟩⟩ (.cons ⟨rfl, ⟨_, rfl⟩⟩ (.cons ⟨rfl, ⟨_, rfl⟩⟩ (.cons ⟨rfl, ⟨_, rfl⟩⟩ (.cons ⟨rfl, ⟨_, rfl⟩⟩ (.cons ⟨rfl, ⟨_, rfl⟩⟩ (.cons ⟨rfl, ⟨_, rfl⟩⟩ .nil)))))))))))))) (by show (["self", "all", "thing", "tied", "every", "first", "second", "some", "within", "no", "both", "tie", "none", "makes"] : List Str).Nodup; decide +kernel)
  have G1 := ok_inner (P := l.prog) (w := w) (mg := mg) (base := base) F1 n3 n4
  have G2 := note_all F2 b2 m2 G1 b1 k1 m1 ms1 hW n3 n4 60
  have G3 := ok_named F3 G2 b2 k2 m2 md1 hF n7 n6
  have G4 := ok_small (P := l.prog) (w := w) (mg := mg) (base := base) F4
  have G5 := ok_all F5 G4 b4 k4 m4 n8
  have G6 := ok_thing F6 G5 b5 k5 m5 n1 mi1
  have G7 := ok_ofForm (P := l.prog) (w := w) (mg := mg) (base := base) F7 n3 n4
  have G8 := (ok_mThing (P := l.prog) (w := w) (mg := mg) (base := base) F8).mono (show 1 ≤ 2 by decide)
  have G9 := (ok_mTied (P := l.prog) (w := w) (mg := mg) (base := base) F9).mono (show 1 ≤ 2 by decide)
  have G10 := (ok_mEvery (P := l.prog) (w := w) (mg := mg) (base := base) F10).mono (show 1 ≤ 2 by decide)
  have G11 := ok_mFirst F11 G7 b7 k7 m7
  have G12 := ok_mSecond F12 G7 b7 k7 m7
  have G13 := ok_mSome F13 G7 b7 k7 m7
  have G14 := (ok_mWithin (P := l.prog) (w := w) (mg := mg) (base := base) F14).mono (show 1 ≤ 2 by decide)
  have G15 := (ok_mNo (P := l.prog) (w := w) (mg := mg) (base := base) F15).mono (show 1 ≤ 2 by decide)
  have G16 := (ok_mBoth (P := l.prog) (w := w) (mg := mg) (base := base) F16).mono (show 1 ≤ 2 by decide)
  have G17 := (ok_mTie (P := l.prog) (w := w) (mg := mg) (base := base) F17).mono (show 1 ≤ 2 by decide)
  have G18 := (ok_mNone (P := l.prog) (w := w) (mg := mg) (base := base) F18).mono (show 1 ≤ 2 by decide)
  have G19 := (ok_mMakes (P := l.prog) (w := w) (mg := mg) (base := base) F19).mono (show 1 ≤ 2 by decide)
  have G20 := ok_stands F20 n3 n4 G6 b6 k6 m6
  have G21 := ok_isSelf F21 G20 b20 k20 m20
  have G22 := ok_isAll F22 G20 b20 k20 m20
  have G23 := ok_thingsN F23 G3 b3 k3 m3
  have G24 := ok_isWhole (P := l.prog) (w := w) (mg := mg) (base := base) F24 n3 n9 n10
  have G25 := ok_earlier F25 n8 G24 b24 k24 m24
  have G26 := ok_fits F26 ms2 hB G24 b24 k24 m24
  have hM : KDict K l.prog w ga1 (makersKV (mkM f8 f9 f10 f11 f12 f13 f14 f15 f16 f17 f18 f19)) := kdict_mk [("thing", gt1_0, .ref f8), ("tied", gt1_1, .ref f9), ("every", gt1_2, .ref f10), ("first", gt1_3, .ref f11), ("second", gt1_4, .ref f12), ("some", gt1_5, .ref f13), ("within", gt1_6, .ref f14), ("no", gt1_7, .ref f15), ("both", gt1_8, .ref f16), ("tie", gt1_9, .ref f17), ("none", gt1_10, .ref f18), ("makes", gt1_11, .ref f19)] gB1 (.cons ⟨rfl, rfl⟩ (.cons ⟨rfl, rfl⟩ (.cons ⟨rfl, rfl⟩ (.cons ⟨rfl, rfl⟩ (.cons ⟨rfl, rfl⟩ (.cons ⟨rfl, rfl⟩ (.cons ⟨rfl, rfl⟩ (.cons ⟨rfl, rfl⟩ (.cons ⟨rfl, rfl⟩ (.cons ⟨rfl, rfl⟩ (.cons ⟨rfl, rfl⟩ (.cons ⟨rfl, rfl⟩ .nil)))))))))))) (by show (["thing", "tied", "every", "first", "second", "some", "within", "no", "both", "tie", "none", "makes"] : List Str).Nodup; decide +kernel)
  have GM := mk_all ⟨G8, b8, k8⟩ ⟨G9, b9, k9⟩ ⟨G10, b10, k10⟩ ⟨G11, b11, k11⟩ ⟨G12, b12, k12⟩ ⟨G13, b13, k13⟩ ⟨G14, b14, k14⟩ ⟨G15, b15, k15⟩ ⟨G16, b16, k16⟩ ⟨G17, b17, k17⟩ ⟨G18, b18, k18⟩ ⟨G19, b19, k19⟩
  have G27 := ok_isRight (M := mkM f8 f9 f10 f11 f12 f13 f14 f15 f16 f17 f18 f19) (MD := mkD _ _ _ _ _ _ _ _ _ _ _ _) F27 n1 mj1 hR js1 mf1 hM GM G25 b25 k25 m25 G26 b26 k26 m26 G21 b21 k21 m21 G22 b22 k22 m22
  have G29 := ok_cell (P := l.prog) (w := w) (mg := mg) (base := base) F29 n1
  have G30 := ok_draw (P := l.prog) (w := w) (mg := mg) (base := base) F30
  have G31 := ok_words (P := l.prog) (w := w) (mg := mg) (base := base) F31 n1 n2
  have G32 := ok_things F32 n2 G31 b31 k31 m31
  have G33 := kind_all F33 b33 m33 n1 G30 b30 k30 m30 3
  have G36 := ok_single (P := l.prog) (w := w) (mg := mg) (base := base) F36 n3 n4
  have G37 := ok_singles (P := l.prog) (w := w) (mg := mg) (base := base) F37
  have G38 := ok_f0 F38 G36 b36 k36 m36
  have G39 := ok_f1 (P := l.prog) (w := w) (mg := mg) (base := base) F39 n3 n5
  have G40 := ok_f2 (P := l.prog) (w := w) (mg := mg) (base := base) F40
  have G41 := ok_fine F41 n1 G38 b38 k38 m38 G39 b39 k39 m39 G40 b40 k40 m40
  have G42 := ok_copy (P := l.prog) (w := w) (mg := mg) (base := base) F42 n6
  have G28 := ok_stand F28 n11 n8 n1 n2 G27 b27 k27 m27 G23 b23 k23 m23
  have G34 := ok_saying F34 n1 n2 G30 b30 k30 m30 G33 b33 k33 m33
  have G35 := ok_numbered F35 G30 b30 k30 m30 G34 b34 k34 m34
  have G43 := size_all (P := l.prog) (w := w) (mg := mg) (base := base) F43 b43 m43 n3 n5 5
  have G44 := ok_waysK F44 n3 n5 G43 b43 k43 m43
  have G45 := ok_waysT F45 G43 b43 k43 m43
  have G46 := ok_plain F46 n1 G30 b30 k30 m30 G33 b33 k33 m33 G36 b36 k36 m36
  have G47 := ok_grown F47 n1 n2 G30 b30 k30 m30 G44 b44 k44 m44 G45 b45 k45 m45 G46 b46 k46 m46
  have G48 := ok_spoil F48 n1 G30 b30 k30 m30
  have G49 := ok_holds F49 n1 n2 n3 n10 n6 G42 b42 k42 m42 G28 b28 k28 m28 G41 b41 k41 m41
  exact ok_law F50 n1 G29 b29 k29 m29 G31 b31 k31 m31 G32 b32 k32 m32 G35 b35 k35 m35 G47 b47 k47 m47 G48 b48 k48 m48 G37 b37 k37 m37 G30 b30 k30 m30 G49 b49 k49 m49
theorem walk {l : PySem.W.OpenLaw} {q : Program} {loose : List Str} {XP : (Str → Option Value) → Heap → Prop} {YP : World → Heap → Prop} {d : DefRec} {K : Params → PySem.W.Frag} (hn : l.most = some 63) (hdf : d.params.defaults = [])
    (hY : ∀ (w : World) (h : Heap), YP w h → (K w.params).In h)
    (F : ∀ (w : World) (mg : Str → Option Value) (fa : Addr) (h : Heap), (K w.params).In h → h.Ns mainGlobals mg → mg d.name = some (.ref fa) →
      ∃ fd : FuncData, (∀ (s : Shared) (u : Value), BindsTo s fd ⟨[u], []⟩ [("_law_script", u)]) ∧ ∀ base : Heap, (K w.params).In base → base.Ns mainGlobals mg → FnOk l.prog w (K w.params) mg base CX0 66 fa fd ["_law_script"] (spLaw (K w.params))) :
    PySem.W.WalkO q loose XP YP l.row.toRowW d [] (fun f vs => PySem.call f vs) :=
  L2.walk_of (n := 63) (k := 66) (x := "_law_script") (CX := fun _ => CX0) (sp := fun w => spLaw (K w.params)) hn (by decide) hdf ⟨rfl, by decide, by decide⟩ hY F (fun _ _ a ns hl _ hS => ⟨a, ns, rfl, hS, hl, fun _ => rfl⟩) fun _ _ _ _ _ z => z
end K17
def PySem.W.Fast.tw3287469532267619724 : Unit := ()
def PySem.W.Fast.tw14396605814525600970 : Unit := ()
def PySem.W.Fast.tw83259940515188461 : Unit := ()
def PySem.W.Fast.tw7253450923636707261 : Unit := ()
def PySem.W.Fast.tw14941881709642937985 : Unit := ()
def PySem.W.Fast.tw3974477626822168976 : Unit := ()
def PySem.W.Fast.tw15015967779662843112 : Unit := ()
def PySem.W.Fast.tw10612562497066636654 : Unit := ()
def PySem.W.Fast.tw2653616694101632766 : Unit := ()
def PySem.W.Fast.tw1538854464340327884 : Unit := ()
def PySem.W.Fast.tw2053039817905271135 : Unit := ()
def PySem.W.Fast.tw8177826399329768851 : Unit := ()
def PySem.W.Fast.tw6357002484737738139 : Unit := ()
def PySem.W.Fast.tw1800110983748522151 : Unit := ()
def PySem.W.Fast.tw2014318688716355559 : Unit := ()
def PySem.W.Fast.tw1191559557526727448 : Unit := ()
def PySem.W.Fast.tw5054824721025370955 : Unit := ()
def PySem.W.Fast.tw8463823794867692615 : Unit := ()
def PySem.W.Fast.tw8465234111089522257 : Unit := ()
def PySem.W.Fast.tw17785032633367960504 : Unit := ()
def PySem.W.Fast.tw13375248668515204548 : Unit := ()
def PySem.W.Fast.tw13677827161534291408 : Unit := ()
def PySem.W.Fast.tw4070599064555569313 : Unit := ()
def PySem.W.Fast.tw2737694059450723382 : Unit := ()
def PySem.W.Fast.tw16632686258095827178 : Unit := ()
def PySem.W.Fast.tw12240137856428341597 : Unit := ()
def PySem.W.Fast.tw17034343205290592928 : Unit := ()
def PySem.W.Fast.tw16091797873804047084 : Unit := ()
def PySem.W.Fast.tw6735056989889448287 : Unit := ()
def PySem.W.Fast.tw15560969224933350735 : Unit := ()
def PySem.W.Fast.tw16235965937379020278 : Unit := ()
def PySem.W.Fast.tw10923282032325094308 : Unit := ()
def PySem.W.Fast.tw6611178231657113067 : Unit := ()
def PySem.W.Fast.tw18302478852868097836 : Unit := ()
def PySem.W.Fast.tw5591426593010665480 : Unit := ()
def PySem.W.Fast.tw13372583117176344428 : Unit := ()
def PySem.W.Fast.tw5915183061603537222 : Unit := ()
def PySem.W.Fast.tw3900960380066032412 : Unit := ()
def PySem.W.Fast.tw17243331670836968704 : Unit := ()
def PySem.W.Fast.tw15582959195499151628 : Unit := ()
def PySem.W.Fast.tw11940764829823570671 : Unit := ()
def PySem.W.Fast.tw490533490519323848 : Unit := ()
def PySem.W.Fast.tw8438017242812998571 : Unit := ()
def PySem.W.Fast.tw11829295873028798443 : Unit := ()
def PySem.W.Fast.tw13396752929441782669 : Unit := ()
def PySem.W.Fast.tw5920794098123756902 : Unit := ()
def PySem.W.Fast.tw11340358387035642925 : Unit := ()
def PySem.W.Fast.tw10396229268982284602 : Unit := ()
def PySem.W.Fast.tw16128806102171684724 : Unit := ()
def PySem.W.Fast.tw16129640642384552067 : Unit := ()
def PySem.W.Fast.tw16345047285891947487 : Unit := ()
def PySem.W.Fast.tw10318789604194767307 : Unit := ()
def PySem.W.Fast.tw10017548616055271006 : Unit := ()
def PySem.W.Fast.tw6513247728652647625 : Unit := ()
def PySem.W.Fast.tw13585283995902395017 : Unit := ()
def PySem.W.Fast.tw2734133704794975886 : Unit := ()
def PySem.W.Fast.tw6764006478380101767 : Unit := ()
def PySem.W.Fast.tw10021135550116281892 : Unit := ()
def PySem.W.Fast.tw12926722090526396471 : Unit := ()
def PySem.W.Fast.tw3556414377139397574 : Unit := ()
def PySem.W.Fast.tw17046218466210713829 : Unit := ()
def PySem.W.Fast.tw4132380230814488136 : Unit := ()
def PySem.W.Fast.tw8576413086609587505 : Unit := ()
open PySem PySem.W PyProof.Rows
set_option maxRecDepth 100000 in
set_option maxHeartbeats 0 in
theorem PySem.Challenge.cw_kinwords_k17_lists_that_stand_holds : PySem.Challenge.rw_kinwords_k17_lists_that_stand.Holds := by
  w_on; o_law; k_head; (case hw => w_witness2)
  k_fill
  refine K17.walk (l := PySem.Challenge.rw_kinwords_k17_lists_that_stand) rfl rfl (fun w h Y => PySem.W.kIn_of Y) ?F
  case F =>
    intro w mg fa h KX G hmg
    refine' K17.all_mk KX G hmg ?a1 ?l1 ?c1 ?k1 ?a2 ?l2 ?c2 ?k2 ?a3 ?l3 ?c3 ?k3 ?a4 ?l4 ?c4 ?k4 ?a5 ?l5 ?c5 ?k5 ?a6 ?l6 ?c6 ?k6 ?a7 ?l7 ?c7 ?k7 ?a8 ?l8 ?c8 ?k8 ?a9 ?l9 ?c9 ?k9 ?a10 ?l10 ?c10 ?k10 ?a11 ?l11 ?c11 ?k11 ?a12 ?l12 ?c12 ?k12 ?a13 ?l13 ?c13 ?k13 ?a14 ?l14 ?c14 ?k14 ?a15 ?l15 ?c15 ?k15 ?a16 ?l16 ?c16 ?k16 ?a17 ?l17 ?c17 ?k17 ?a18 ?l18 ?c18 ?k18 ?a19 ?l19 ?c19 ?k19 ?a20 ?l20 ?c20 ?k20 ?a21 ?l21 ?c21 ?k21 ?a22 ?l22 ?c22 ?k22 ?a23 ?l23 ?c23 ?k23 ?a24 ?l24 ?c24 ?k24 ?a25 ?l25 ?c25 ?k25 ?a26 ?l26 ?c26 ?k26 ?a27 ?l27 ?c27 ?k27 ?a28 ?l28 ?c28 ?k28 ?a29 ?l29 ?c29 ?k29 ?a30 ?l30 ?c30 ?k30 ?a31 ?l31 ?c31 ?k31 ?a32 ?l32 ?c32 ?k32 ?a33 ?l33 ?c33 ?k33 ?a34 ?l34 ?c34 ?k34 ?a35 ?l35 ?c35 ?k35 ?a36 ?l36 ?c36 ?k36 ?a37 ?l37 ?c37 ?k37 ?a38 ?l38 ?c38 ?k38 ?a39 ?l39 ?c39 ?k39 ?a40 ?l40 ?c40 ?k40 ?a41 ?l41 ?c41 ?k41 ?a42 ?l42 ?c42 ?k42 ?a43 ?l43 ?c43 ?k43 ?a44 ?l44 ?c44 ?k44 ?a45 ?l45 ?c45 ?k45 ?a46 ?l46 ?c46 ?k46 ?a47 ?l47 ?c47 ?k47 ?a48 ?l48 ?c48 ?k48 ?a49 ?l49 ?c49 ?k49 ?a50 ?l50 ?c50 ?k50 ?ia1 ?sa1 ?sb1 ?sa2 ?sb2 ?dA1 ?dB1 ?dC1_0 ?dC1_1 ?dC1_2 ?dC1_3 ?dC1_4 ?dC1_5 ?gA1 ?gB1 ?jA1 ?jB1 ?js1 ?z1 ?z2 ?z3 ?z4 ?z5 ?z6 ?z7 ?z8 ?z9 ?z10 ?z11
    (case a1 => k_is)
    (case l1 => k_is)
    (case c1 => k_is)
    (case k1 => k_is)
    (case a2 => k_is)
    (case l2 => k_is)
    (case c2 => k_is)
    (case k2 => k_is)
    (case a3 => k_is)
    (case l3 => k_is)
    (case c3 => k_is)
    (case k3 => k_is)
    (case a4 => k_is)
    (case l4 => k_is)
    (case c4 => k_is)
    (case k4 => k_is)
    (case a5 => k_is)
    (case l5 => k_is)
    (case c5 => k_is)
    (case k5 => k_is)
    (case a6 => k_is)
    (case l6 => k_is)
    (case c6 => k_is)
    (case k6 => k_is)
    (case a7 => k_is)
    (case l7 => k_is)
    (case c7 => k_is)
    (case k7 => k_is)
    (case a8 => k_is)
    (case l8 => k_is)
    (case c8 => k_is)
    (case k8 => k_is)
    (case a9 => k_is)
    (case l9 => k_is)
    (case c9 => k_is)
    (case k9 => k_is)
    (case a10 => k_is)
    (case l10 => k_is)
    (case c10 => k_is)
    (case k10 => k_is)
    (case a11 => k_is)
    (case l11 => k_is)
    (case c11 => k_is)
    (case k11 => k_is)
    (case a12 => k_is)
    (case l12 => k_is)
    (case c12 => k_is)
    (case k12 => k_is)
    (case a13 => k_is)
    (case l13 => k_is)
    (case c13 => k_is)
    (case k13 => k_is)
    (case a14 => k_is)
    (case l14 => k_is)
    (case c14 => k_is)
    (case k14 => k_is)
    (case a15 => k_is)
    (case l15 => k_is)
    (case c15 => k_is)
    (case k15 => k_is)
    (case a16 => k_is)
    (case l16 => k_is)
    (case c16 => k_is)
    (case k16 => k_is)
    (case a17 => k_is)
    (case l17 => k_is)
    (case c17 => k_is)
    (case k17 => k_is)
    (case a18 => k_is)
    (case l18 => k_is)
    (case c18 => k_is)
    (case k18 => k_is)
    (case a19 => k_is)
    (case l19 => k_is)
    (case c19 => k_is)
    (case k19 => k_is)
    (case a20 => k_is)
    (case l20 => k_is)
    (case c20 => k_is)
    (case k20 => k_is)
    (case a21 => k_is)
    (case l21 => k_is)
    (case c21 => k_is)
    (case k21 => k_is)
    (case a22 => k_is)
    (case l22 => k_is)
    (case c22 => k_is)
    (case k22 => k_is)
    (case a23 => k_is)
    (case l23 => k_is)
    (case c23 => k_is)
    (case k23 => k_is)
    (case a24 => k_is)
    (case l24 => k_is)
    (case c24 => k_is)
    (case k24 => k_is)
    (case a25 => k_is)
    (case l25 => k_is)
    (case c25 => k_is)
    (case k25 => k_is)
    (case a26 => k_is)
    (case l26 => k_is)
    (case c26 => k_is)
    (case k26 => k_is)
    (case a27 => k_is)
    (case l27 => k_is)
    (case c27 => k_is)
    (case k27 => k_is)
    (case a28 => k_is)
    (case l28 => k_is)
    (case c28 => k_is)
    (case k28 => k_is)
    (case a29 => k_is)
    (case l29 => k_is)
    (case c29 => k_is)
    (case k29 => k_is)
    (case a30 => k_is)
    (case l30 => k_is)
    (case c30 => k_is)
    (case k30 => k_is)
    (case a31 => k_is)
    (case l31 => k_is)
    (case c31 => k_is)
    (case k31 => k_is)
    (case a32 => k_is)
    (case l32 => k_is)
    (case c32 => k_is)
    (case k32 => k_is)
    (case a33 => k_is)
    (case l33 => k_is)
    (case c33 => k_is)
    (case k33 => k_is)
    (case a34 => k_is)
    (case l34 => k_is)
    (case c34 => k_is)
    (case k34 => k_is)
    (case a35 => k_is)
    (case l35 => k_is)
    (case c35 => k_is)
    (case k35 => k_is)
    (case a36 => k_is)
    (case l36 => k_is)
    (case c36 => k_is)
    (case k36 => k_is)
    (case a37 => k_is)
    (case l37 => k_is)
    (case c37 => k_is)
    (case k37 => k_is)
    (case a38 => k_is)
    (case l38 => k_is)
    (case c38 => k_is)
    (case k38 => k_is)
    (case a39 => k_is)
    (case l39 => k_is)
    (case c39 => k_is)
    (case k39 => k_is)
    (case a40 => k_is)
    (case l40 => k_is)
    (case c40 => k_is)
    (case k40 => k_is)
    (case a41 => k_is)
    (case l41 => k_is)
    (case c41 => k_is)
    (case k41 => k_is)
    (case a42 => k_is)
    (case l42 => k_is)
    (case c42 => k_is)
    (case k42 => k_is)
    (case a43 => k_is)
    (case l43 => k_is)
    (case c43 => k_is)
    (case k43 => k_is)
    (case a44 => k_is)
    (case l44 => k_is)
    (case c44 => k_is)
    (case k44 => k_is)
    (case a45 => k_is)
    (case l45 => k_is)
    (case c45 => k_is)
    (case k45 => k_is)
    (case a46 => k_is)
    (case l46 => k_is)
    (case c46 => k_is)
    (case k46 => k_is)
    (case a47 => k_is)
    (case l47 => k_is)
    (case c47 => k_is)
    (case k47 => k_is)
    (case a48 => k_is)
    (case l48 => k_is)
    (case c48 => k_is)
    (case k48 => k_is)
    (case a49 => k_is)
    (case l49 => k_is)
    (case c49 => k_is)
    (case k49 => k_is)
    (case a50 => k_is)
    (case l50 => k_is)
    (case c50 => k_is)
    (case k50 => k_is)
    (case ia1 => k_is)
    (case sa1 => k_is)
    (case sb1 => k_is)
    (case sa2 => k_is)
    (case sb2 => k_is)
    (case dA1 => k_is)
    (case dB1 => k_is)
    (case dC1_0 => k_is)
    (case dC1_1 => k_is)
    (case dC1_2 => k_is)
    (case dC1_3 => k_is)
    (case dC1_4 => k_is)
    (case dC1_5 => k_is)
    (case gA1 => k_is)
    (case gB1 => k_is)
    (case jA1 => k_is)
    (case jB1 => k_is)
    (case js1 => first | rfl | decide +kernel | k_is)
    (case z1 => k_is)
    (case z2 => k_is)
    (case z3 => k_is)
    (case z4 => k_is)
    (case z5 => k_is)
    (case z6 => k_is)
    (case z7 => k_is)
    (case z8 => k_is)
    (case z9 => k_is)
    (case z10 => k_is)
    (case z11 => k_is)
