import PyProof.Rows.All
import Wide.All
import OpenK.AllK
import Wide.FinOn
import Lean
import PyProof.EqAt
import PyProof.EqKinds
import PyProof.TupleCall
import PyProof.NeKinds
import PyProof.Rows.FStr
import PyProof.Rows.Range3
import PyProof.StrLawsIn
import PyProof.WalksEnum
import PyProof.EnumMake
import PyProof.Rows.EnumRows
import PyProof.Rows.StrNews2
import PyProof.StrLawsFirst
import PyProof.StrLawsChain
import PyProof.StrLawsTight
import PyProof.StrBlockH
import KE.KEqDict
import PyProof.DictWalks
import PyProof.ListRange
import PyProof.ZipIter
import PyProof.Rows.SortRev
import PyProof.FactsAll.subtypes_5
import KE.KDictSum
import PyProof.Rows.SetFrom
import PyProof.AttrMiss
import PyProof.IsiH_list
import KE.KDictOf
import PyProof.FactsAll.NoneType_1
import PyProof.StrCalls
import PyProof.FString4
import PyProof.StrLawsRepr
import PyProof.Rows.StrCut
import PyProof.StrCalls2
import PyProof.Rows.StrJoin2
import PyProof.Rows.StrFin3
import PyProof.StrBlock2
import PyProof.Rows.StrJoinRep
import PySem.Challenge.RW_kinwords_k12_texts_read
set_option Elab.async false
set_option linter.all false
set_option maxRecDepth 100000
namespace L2
open PySem PySem.Spec PyProof.Rows
abbrev Key := Sum Int Str
def keyIs : Key → Value → Bool
  | .inl k, v => Value.isInt k v
  | .inr x, v => Value.isStrOf x v
def keyH (w : World) : Key → Int
  | .inl k => hashInt k
  | .inr x => hashStr w x
theorem keyIs_shape : ∀ {k : Key} {v : Value}, keyIs k v = true → (∃ i t, k = Sum.inl i ∧ v = Value.int i t) ∨ (∃ x t, k = Sum.inr x ∧ v = Value.str x t)
  | .inl i, v, h => by
    obtain ⟨t, e⟩ := Value.isInt_shape (k := i) (v := v) h
    exact .inl ⟨i, t, rfl, e⟩
  | .inr x, v, h => by
    obtain ⟨t, e⟩ := Value.isStrOf_shape (x := x) (v := v) h
    exact .inr ⟨x, t, rfl, e⟩
theorem key_ll (a b : Int) : decide ((Sum.inl a : Key) = Sum.inl b) = (a == b) := by
  by_cases e : a = b
  · subst e; simp
  · have h : ¬ (Sum.inl a : Key) = Sum.inl b := fun q => e (Sum.inl.inj q)
    rw [decide_eq_false h]
    exact (beq_eq_false_iff_ne.mpr e).symm
theorem key_rr (a b : Str) : decide ((Sum.inr a : Key) = Sum.inr b) = decide (a = b) := by
  by_cases e : a = b
  · subst e; simp
  · have h : ¬ (Sum.inr a : Key) = Sum.inr b := fun q => e (Sum.inr.inj q)
    rw [decide_eq_false h, decide_eq_false e]
theorem key_lr (a : Int) (b : Str) : decide ((Sum.inl a : Key) = Sum.inr b) = false := decide_eq_false (fun q => nomatch q)
theorem key_rl (a : Str) (b : Int) : decide ((Sum.inr a : Key) = Sum.inl b) = false := decide_eq_false (fun q => nomatch q)
def mixKind (prog : Program) (w : World) : PySem.KeyKind prog w Key where
  is := keyIs
  hash := keyH w
  inj := fun v a b ha hb => by
    rcases keyIs_shape ha with ⟨i, t, rfl, rfl⟩ | ⟨x, t, rfl, rfl⟩
    · rcases keyIs_shape hb with ⟨j, u, rfl, e⟩ | ⟨y, u, rfl, e⟩
      · injection e with e1 _; rw [e1]
      · exact nomatch e
    · rcases keyIs_shape hb with ⟨j, u, rfl, e⟩ | ⟨y, u, rfl, e⟩
      · exact nomatch e
      · injection e with e1 _; rw [e1]
  byValue := fun k v h => by
    rcases keyIs_shape h with ⟨i, t, rfl, rfl⟩ | ⟨x, t, rfl, rfl⟩ <;> rfl
  pyHash := fun hv h => by
    rcases keyIs_shape hv with ⟨i, t, rfl, rfl⟩ | ⟨x, t, rfl, rfl⟩
    · exact wpAny_pyHash_int h
    · exact wpAny_pyHash_str h
  eqBool := fun hu hv h => by
    rcases keyIs_shape hu with ⟨i, t, rfl, rfl⟩ | ⟨x, t, rfl, rfl⟩
    · rcases keyIs_shape hv with ⟨j, u, rfl, rfl⟩ | ⟨y, u, rfl, rfl⟩
      · rw [key_ll] at h; exact wpAny_eqBool_int h
      · rw [key_lr] at h; exact SeqAt.EqAt.int_str i t y u _ _ _ _ h
    · rcases keyIs_shape hv with ⟨j, u, rfl, rfl⟩ | ⟨y, u, rfl, rfl⟩
      · rw [key_rl] at h; exact SeqAt.EqAt.str_int x t j u _ _ _ _ h
      · rw [key_rr] at h; exact wpAny_eqBool_str h
  «strs» := fun k x t v h => by
    rcases keyIs_shape h with ⟨i, u, rfl, e⟩ | ⟨y, u, rfl, e⟩
    · exact nomatch e
    · injection e with e1 _
      subst e1
      cases v <;> rfl
end L2
namespace L2
open PySem PySem.Spec PyProof.Rows
inductive V where
  | non | bl (b : Bool) | int (i : Int) | str (x : Str) | byt (b : Array UInt8) | flt (b : UInt64) | ref (a : Addr) | ty (n : String)
  deriving DecidableEq
def RelV : V → Value → Prop
  | .non, u => u = Value.none
  | .bl b, u => u = Value.bool b
  | .int i, u => ∃ t, u = Value.int i t
  | .str x, u => ∃ t, u = Value.str x t
  | .byt b, u => ∃ t, u = Value.bytes b t
  | .flt b, u => ∃ t, u = Value.float b t
  | .ref a, u => u = Value.ref a
  | .ty n, u => u = Value.type n
abbrev Vals : List V → List Value → Prop := Paired RelV
theorem Vals.length {xs : List V} {us : List Value} (r : Vals xs us) : xs.length = us.length := Paired.length r
theorem Vals.get : ∀ {xs : List V} {us : List Value} {i : Nat} {x : V}, Vals xs us → xs[i]? = some x → ∃ u, us[i]? = some u ∧ RelV x u
  | _, _, _, _, .nil, e => by simp at e
  | _, _, 0, _, .cons r _, e => by simp at e; subst e; exact ⟨_, rfl, r⟩
  | _, _, i + 1, x, .cons _ t, e => by
    obtain ⟨u, h1, h2⟩ := Vals.get (i := i) (x := x) t (by simpa using e)
    exact ⟨u, by simpa using h1, h2⟩
theorem Vals.set {x : V} {u : Value} (r : RelV x u) : ∀ {xs : List V} {us : List Value} (i : Nat), Vals xs us → Vals (xs.set i x) (us.set i u)
  | _, _, _, .nil => .nil
  | _, _, 0, .cons _ t => .cons r t
  | _, _, i + 1, .cons q t => .cons q (Vals.set r i t)
theorem Vals.append : ∀ {xs ys : List V} {us ws : List Value}, Vals xs us → Vals ys ws → Vals (xs ++ ys) (us ++ ws)
  | _, _, _, _, .nil, s => s
  | _, _, _, _, .cons r t, s => .cons r (Vals.append t s)
theorem Vals.take : ∀ {xs : List V} {us : List Value} (n : Nat), Vals xs us → Vals (xs.take n) (us.take n)
  | _, _, 0, _ => .nil
  | _, _, _ + 1, .nil => .nil
  | _, _, n + 1, .cons r t => .cons r (Vals.take n t)
theorem Vals.drop : ∀ {xs : List V} {us : List Value} (n : Nat), Vals xs us → Vals (xs.drop n) (us.drop n)
  | _, _, 0, r => r
  | _, _, _ + 1, .nil => .nil
  | _, _, n + 1, .cons _ t => Vals.drop n t
def RelO : Option V → Option Value → Prop
  | some v, some u => RelV v u
  | none, none => True
  | _, _ => False
def KV {κ : Type} : List (κ × V) → List (κ × Value) → Prop := Paired fun (p : κ × V) (q : κ × Value) => p.1 = q.1 ∧ RelV p.2 q.2
def kV : Key → V
  | .inl i => .int i
  | .inr x => .str x
inductive HO where
  /-- a list -/
  | lst (xs : List V)
  /-- a tuple (never changes) -/
  | tup (xs : List V)
  /-- a dict whose keys are ints and texts; one whose keys are tuples of ints and texts (the empty one is both) -/
  | dK (kvs : List (Key × V)) | dT (kvs : List (List Key × V))
  /-- a set of ints: its members, its size -/
  | set (S : Int → Bool) (n : Nat)
  /-- an instance of the class at C, its dict at dx, its attributes -/
  | ins (C dx : Addr) (fs : List (Str × V))
  /-- the dict of the instance at x -/
  | own (x : Addr)
  /-- the dict of an exception -/
  | xd (fs : List (Str × V))
  /-- a bound method, f of x -/
  | met (f x : Addr)
  /-- a range object lo, lo + 1, .. below hi -/
  | rng (lo hi : Int)
  /-- a thing that is known to the object (the script; a dict while a loop walks it): read, never written while it is so -/
  | frz (o : Obj) (u : HO)
  /-- a code object's table -/
  | tbl (ps : Array Value)
  /-- any other thing, by what is true of its one object (a def of one's own: SetO a S n := HO.ext fun h => ..) -/
  | ext (φ : Heap → Prop)
abbrev Hp := Addr → Option HO
def upd (H : Hp) (a : Addr) (o : HO) : Hp := fun b => if b = a then some o else H b
theorem upd_same {H : Hp} {a : Addr} {o : HO} : upd H a o a = some o := by unfold upd; rw [if_pos rfl]
theorem upd_ne {H : Hp} {a b : Addr} {o : HO} (h : b ≠ a) : upd H a o b = H b := by unfold upd; rw [if_neg h]
theorem upd_upd {H : Hp} {a : Addr} {o u : HO} : upd (upd H a o) a u = upd H a u := by
  funext b; unfold upd; split <;> rfl
theorem ne_of {H : Hp} {a b : Addr} {o u : HO} (h : H a = some o) (h' : H b = some u) (d : o ≠ u) : a ≠ b := by
  intro e; subst e; rw [h] at h'; exact d (Option.some.inj h')
theorem ne_of_none {H : Hp} {a b : Addr} {o : HO} (h : H a = some o) (h' : H b = none) : a ≠ b := by
  intro e; subst e; rw [h] at h'; cases h'
section
variable (P : Program) (w : World)
def ObjOk (H : Hp) (h : Heap) (a : Addr) : HO → Prop
  | .lst xs => xs.length ≤ sizeLine ∧ ∃ (its : List Value) (n : Nat), Vals xs its ∧ h.get? a = some { cls := .type "list", data := .seq its.toArray n }
  | .tup xs => xs.length ≤ sizeLine ∧ ∃ its : List Value, Vals xs its ∧ IsTup h a its.toArray
  | .dK kvs => kvs.length ≤ sizeLine ∧ (a == sysModules) = false ∧ ∃ vs, KV kvs vs ∧ h.DictOf (mixKind P w) a vs
  | .dT kvs => kvs.length ≤ sizeLine ∧ (a == sysModules) = false ∧ ∃ xs : List (List Key × Addr × Value),
      Paired (fun (p : List Key × V) (q : List Key × Addr × Value) => p.1 = q.1 ∧ H q.2.1 = some (.tup (p.1.map kV)) ∧ RelV p.2 q.2.2) kvs xs ∧
      ∃ o es ep, h.get? a = some o ∧ o.ExactDict ∧ o.data = .dict es ep ∧ es.toList = xs.map (entryOfKey (tupleKind (mixKind P w))) ∧ (xs.map (·.1)).Nodup
  | .set S n => h.SetOf (intKind P w) a S n
  | .ins C dx fs => H dx = some (.own a) ∧ fs.length ≤ 1000 ∧ dx ≠ a ∧ h.get? a = some (PySem.W.instObj C dx) ∧
      ∃ mA, h.Ns1 dx mA ∧ (∀ f, RelO (fs.lookup f) (mA f)) ∧ PySem.Within mA (fs.map (·.1))
  | .own _ => ∃ o, h.get? a = some o
  | .xd fs => ∃ mA, h.Ns1 a mA ∧ ∀ f, RelO (fs.lookup f) (mA f)
  | .rng lo hi => ∃ t u v, h.get? a = some { cls := .type "range", data := .fields #[.int lo t, .int hi u, .int 1 v] }
  | .frz o u => h.get? a = some o ∧ ObjOk H h a u
  | .tbl ps => h.get? a = some { cls := .none, data := .fields ps }
  | .met f x => h.get? a = some (PySem.W.methodObj (.ref f) (.ref x))
  | .ext φ => φ h ∧ (∃ o, h.get? a = some o) ∧ ∀ h1 h2 : Heap, φ h1 → (∀ o, h1.get? a = some o → h2.get? a = some o) → φ h2
def HOk (H : Hp) (h : Heap) : Prop := ∀ a o, H a = some o → ObjOk P w H h a o
end
section
variable {P : Program} {w : World} {H H' : Hp} {h h' : Heap} {a : Addr} {o : HO}
theorem ObjOk.lt (x : ObjOk P w H h a o) : a < h.objs.size := by
  cases o with
  | lst xs => obtain ⟨_, _, _, _, e⟩ := x; exact Heap.lt_size e
  | tup xs => obtain ⟨_, _, _, p⟩ := x; exact p.lt
  | dK kvs => obtain ⟨_, _, _, _, o, _, _, e, _⟩ := x; exact Heap.lt_size e
  | dT kvs => obtain ⟨_, _, _, _, o, _, _, e, _⟩ := x; exact Heap.lt_size e
  | set S n => obtain ⟨o, _, _, _, e, _⟩ := x; exact Heap.lt_size e
  | ins C dx fs => obtain ⟨_, _, _, e, _⟩ := x; exact Heap.lt_size e
  | own y => obtain ⟨_, e⟩ := x; exact Heap.lt_size e
  | xd fs => obtain ⟨_, ⟨_, _, _, e, _⟩, _⟩ := x; exact Heap.lt_size e
  | rng lo hi => obtain ⟨_, _, _, e⟩ := x; exact Heap.lt_size e
  | frz ob u => obtain ⟨e, _⟩ := x; exact Heap.lt_size e
  | tbl ps => exact Heap.lt_size (show h.get? a = some _ from x)
  | met f y => exact Heap.lt_size (show h.get? a = some _ from x)
  | ext φ => obtain ⟨_, ⟨_, e⟩, _⟩ := x; exact Heap.lt_size e
theorem Paired.mapP {α β : Type} {F G : α → β → Prop} : ∀ {l₁ : List α} {l₂ : List β}, Paired F l₁ l₂ → (∀ a b, F a b → G a b) → Paired G l₁ l₂
  | _, _, .nil, _ => .nil
  | _, _, .cons r t, f => .cons (f _ _ r) (Paired.mapP t f)
theorem Paired.imp' {α β : Type} {F G : α → β → Prop} (f : ∀ a b, F a b → G a b) {l₁ : List α} {l₂ : List β} (r : Paired F l₁ l₂) : Paired G l₁ l₂ := Paired.mapP r f
theorem ObjOk.stay (x : ObjOk P w H h a o) (k : ∀ b u, (b = a ∨ H b = some (.own a)) → h.get? b = some u → h'.get? b = some u)
    (ho : ∀ b, H b = some (.own a) → H' b = some (.own a)) (ht : ∀ b xs, H b = some (.tup xs) → H' b = some (.tup xs)) : ObjOk P w H' h' a o := by
  induction o with
  | lst xs => obtain ⟨z, its, n, r, e⟩ := x; exact ⟨z, its, n, r, k _ _ (.inl rfl) e⟩
  | tup xs => obtain ⟨z, its, r, ob, e, c⟩ := x; exact ⟨z, its, r, ob, k _ _ (.inl rfl) e, c⟩
  | dK kvs => obtain ⟨z, y, vs, r, ob, es, ep, e, c⟩ := x; exact ⟨z, y, vs, r, ob, es, ep, k _ _ (.inl rfl) e, c⟩
  | dT kvs =>
    obtain ⟨z, y, xs, r, ob, es, ep, e, c⟩ := x
    exact ⟨z, y, xs, Paired.mapP r fun p q z => ⟨z.1, ht _ _ z.2.1, z.2.2⟩, ob, es, ep, k _ _ (.inl rfl) e, c⟩
  | set S n => obtain ⟨ob, es, ep, t, e, c⟩ := x; exact ⟨ob, es, ep, t, k _ _ (.inl rfl) e, c⟩
  | ins C dx fs =>
    obtain ⟨d, z, ne, e, mA, ⟨od, es, ep, e2, c⟩, r⟩ := x
    exact ⟨ho _ d, z, ne, k _ _ (.inl rfl) e, mA, ⟨od, es, ep, k _ _ (.inr d) e2, c⟩, r⟩
  | own y => obtain ⟨ob, e⟩ := x; exact ⟨ob, k _ _ (.inl rfl) e⟩
  | xd fs => obtain ⟨mA, ⟨od, es, ep, e, c⟩, r⟩ := x; exact ⟨mA, ⟨od, es, ep, k _ _ (.inl rfl) e, c⟩, r⟩
  | rng lo hi => obtain ⟨t, u, v, e⟩ := x; exact ⟨t, u, v, k _ _ (.inl rfl) e⟩
  | frz ob u ih => obtain ⟨e, q⟩ := x; exact ⟨k _ _ (.inl rfl) e, ih q⟩
  | tbl ps =>
    have e : h.get? a = some { cls := .none, data := .fields ps } := x
    show h'.get? a = some { cls := .none, data := .fields ps }
    exact k a _ (.inl rfl) e
  | met f y =>
    have e : h.get? a = some (PySem.W.methodObj (.ref f) (.ref y)) := x
    show h'.get? a = some (PySem.W.methodObj (.ref f) (.ref y))
    exact k a _ (.inl rfl) e
  | ext φ => obtain ⟨p, ⟨o, e⟩, st⟩ := x; exact ⟨st _ _ p fun o q => k _ _ (.inl rfl) q, ⟨o, k _ _ (.inl rfl) e⟩, st⟩
theorem HOk.lt (x : HOk P w H h) (e : H a = some o) : a < h.objs.size := (x a o e).lt
theorem HOk.fresh (x : HOk P w H h) (e : h.objs.size ≤ a) : H a = none := by
  cases q : H a with
  | none => rfl
  | some u => exact absurd (Nat.lt_of_lt_of_le (x.lt q) e) (Nat.lt_irrefl _)
theorem HOk.kept (x : HOk P w H h) (k : ∀ b u, h.get? b = some u → h'.get? b = some u) : HOk P w H h' := fun a o e =>
  (x a o e).stay (fun b u _ q => k b u q) (fun _ q => q) fun _ _ q => q
theorem HOk.laid (x : HOk P w H h) (k : ∀ b u, h.get? b = some u → h'.get? b = some u) (hp : h.objs.size ≤ a) (new : ObjOk P w (upd H a o) h' a o) : HOk P w (upd H a o) h' := fun b u e => by
  have hn := x.fresh hp
  by_cases hb : b = a
  · subst hb; rw [upd_same] at e; cases e; exact new
  · rw [upd_ne hb] at e
    exact (x b u e).stay (fun c v _ q => k c v q) (fun c q => by rw [upd_ne (ne_of_none q hn)]; exact q) fun c xs q => by rw [upd_ne (ne_of_none q hn)]; exact q
end
def Rd (H : Hp) (a : Addr) (u : HO) : Prop := H a = some u ∨ ∃ o, H a = some (.frz o u)
theorem Rd.ok {P : Program} {w : World} {H : Hp} {h : Heap} {a : Addr} {u : HO} (r : Rd H a u) (x : HOk P w H h) : ObjOk P w H h a u := by
  rcases r with r | ⟨o, r⟩
  · exact x a u r
  · obtain ⟨_, q⟩ := x a _ r
    exact q
def Mut : Option HO → Prop
  | some (.lst _) => True
  | some (.dK _) => True
  | some (.dT _) => True
  | some (.set _ _) => True
  | some (.ins _ _ _) => True
  | some (.ext _) => True
  | _ => False
section
variable {P : Program} {w : World} {H : Hp} {h h' : Heap} {x e : Addr} {o' : HO}
theorem HOk.write (ok : HOk P w H h) (mu : Mut (H x)) (he : e = x ∨ H e = some (.own x)) (k : ∀ b u, b ≠ e → h.get? b = some u → h'.get? b = some u) (heo : ∃ u, h'.get? e = some u)
    (new : ObjOk P w (upd H x o') h' x o') : HOk P w (upd H x o') h' := fun b u q => by
  have nown : ∀ c y, H c = some (.own y) → c ≠ x := fun c y r z => by subst z; rw [r] at mu; exact mu
  have ntup : ∀ c xs, H c = some (.tup xs) → c ≠ x := fun c xs r z => by subst z; rw [r] at mu; exact mu
  by_cases hb : b = x
  · subst hb; rw [upd_same] at q; cases q; exact new
  · rw [upd_ne hb] at q
    by_cases hbe : b = e
    · have q' : H b = some (.own x) := by
        rcases he with z | z
        · exact absurd (hbe.trans z) hb
        · rw [hbe]; exact z
      rw [q] at q'; cases q'
      obtain ⟨v, hv⟩ := heo
      exact ⟨v, by rw [hbe]; exact hv⟩
    · refine (ok b u q).stay (fun c v hc r => k c v ?_ r) (fun c r => by rw [upd_ne (nown c b r)]; exact r) fun c xs r => by rw [upd_ne (ntup c xs r)]; exact r
      rcases hc with rfl | hc
      · exact hbe
      · rintro rfl
        rcases he with z | z
        · exact nown c b hc z
        · rw [hc] at z; cases z; exact hb rfl
end
structure Un (fs ex : List Addr) (H H' : Hp) (h h' : Heap) : Prop where
  keep : ∀ b o, h.get? b = some o → H b = none → b ∉ fs → b ∉ ex → h'.get? b = some o
  slot : ∀ b o, h.get? b = some o → H b = none → b ∈ fs → b ∉ ex → ∃ sl, h'.get? b = some { o with slots := sl }
  free : ∀ b o, h.get? b = some o → H b = none → b ∉ ex → H' b = none
  there : ∀ b o, h.get? b = some o → b ∉ ex → ∃ o', h'.get? b = some o'
  tups : ∀ b xs, H b = some (.tup xs) → H' b = some (.tup xs)
  frzs : ∀ b o u, H b = some (.frz o u) → H' b = some (.frz o u)
  tbls : ∀ b ps, H b = some (.tbl ps) → ∃ more, H' b = some (.tbl (ps ++ more))
section
variable {fs fs' ex ex' : List Addr} {H H1 H2 : Hp} {h h1 h2 h' : Heap} {a x e : Addr} {o : HO}
theorem Un.any (u : Un fs ex H H1 h h1) {b : Addr} {ob : Obj} (q : h.get? b = some ob) (n : H b = none) (hx : b ∉ ex) : ∃ sl, h1.get? b = some { ob with slots := sl } := by
  by_cases hb : b ∈ fs
  · exact u.slot b ob q n hb hx
  · exact ⟨ob.slots, u.keep b ob q n hb hx⟩
theorem Un.kept (k : ∀ b u, h.get? b = some u → h'.get? b = some u) : Un fs ex H H h h' :=
  ⟨fun b ob q _ _ _ => k b ob q, fun b ob q _ _ _ => ⟨ob.slots, k b ob q⟩, fun _ _ _ n _ => n, fun b ob q _ => ⟨ob, k b ob q⟩, fun _ _ q => q, fun _ _ _ q => q, fun _ ps q => ⟨#[], by rw [q]; simp⟩⟩
theorem Un.refl : Un fs ex H H h h := Un.kept fun _ _ q => q
theorem Un.laid (k : ∀ b u, h.get? b = some u → h'.get? b = some u) (hp : h.objs.size ≤ a) (hn : H a = none) : Un fs ex H (upd H a o) h h' where
  keep := fun b u q _ _ _ => k b u q
  slot := fun b u q _ _ _ => ⟨u.slots, k b u q⟩
  free := fun b u q n _ => by rw [upd_ne (Nat.ne_of_lt (Nat.lt_of_lt_of_le (Heap.lt_size q) hp))]; exact n
  there := fun b u q _ => ⟨u, k b u q⟩
  tups := fun b xs q => by rw [upd_ne (ne_of_none q hn)]; exact q
  frzs := fun b u xs q => by rw [upd_ne (ne_of_none q hn)]; exact q
  tbls := fun b ps q => ⟨#[], by rw [upd_ne (ne_of_none q hn), q]; simp⟩
theorem Un.write (mu : Mut (H x)) (he : e = x ∨ H e = some (.own x)) (k : ∀ b u, b ≠ e → h.get? b = some u → h'.get? b = some u) (heo : ∃ u, h'.get? e = some u) : Un fs ex H (upd H x o) h h' := by
  have hx : ∀ b, H b = none → b ≠ x := fun b n z => by subst z; rw [n] at mu; exact mu
  have hb : ∀ b, H b = none → b ≠ e := fun b n z => by
    subst z
    rcases he with r | r
    · exact hx b n r
    · rw [n] at r; cases r
  have hm : ∀ b u, H b = some u → ¬ Mut (some u) → b ≠ x := fun b u q nm z => by subst z; rw [q] at mu; exact nm mu
  refine ⟨fun b u q n _ _ => k b u (hb b n) q, fun b u q n _ _ => ⟨u.slots, k b u (hb b n) q⟩, fun b u q n _ => by rw [upd_ne (hx b n)]; exact n, fun b u q _ => ?_,
    fun b xs q => by rw [upd_ne (hm b _ q fun z => z)]; exact q, fun b u xs q => by rw [upd_ne (hm b _ q fun z => z)]; exact q, fun b ps q => ⟨#[], by rw [upd_ne (hm b _ q fun z => z), q]; simp⟩⟩
  by_cases hbe : b = e
  · subst hbe; exact heo
  · exact ⟨u, k b u hbe q⟩
end
def trk (h : Heap) (H : Hp) : List Addr := (List.range h.objs.size).filter fun a => (H a).isSome
def hidT (h : Heap) (H : Hp) : Heap := PySem.W.hideAll h (trk h H)
theorem hidT_size (h : Heap) (H : Hp) : (hidT h H).objs.size = h.objs.size := PySem.W.hideAll_size _ _
theorem hidT_get {h : Heap} {H : Hp} {b : Addr} {o : Obj} (e : h.get? b = some o) (n : H b = none) : (hidT h H).get? b = some o :=
  PySem.W.hideAll_get _ e fun hm => by
    have q : (H b).isSome = true := (List.mem_filter.mp hm).2
    rw [n] at q; simp at q
theorem of_hidT {h : Heap} {H : Hp} {b : Addr} {o : Obj} (e : (hidT h H).get? b = some o) : h.get? b = some o ∧ H b = none := by
  have e' : h.get? b = some o := PySem.W.of_hideAll (trk h H) e
  refine ⟨e', ?_⟩
  cases q : H b with
  | none => rfl
  | some x =>
    have hm : b ∈ trk h H := List.mem_filter.mpr ⟨List.mem_range.mpr (Heap.lt_size e'), by simp [q]⟩
    have z : (hidT h H).get? b = none := PySem.W.hideAll_none (trk h H) hm
    rw [z] at e; cases e
def allNews (g h : Heap) (L : Addr) : List (Addr × Obj) := (List.range h.objs.size).filterMap fun a => if a = L ∨ (g.get? a).isSome = true then none else (h.get? a).map fun o => (a, o)
def rest (g h : Heap) (L d : Addr) : List (Addr × Obj) := (allNews g h L).filter fun p => decide (p.1 ≠ d)
end L2
namespace L2
open PySem PySem.Spec PyProof.Rows
structure Mod (K : PySem.W.Frag) (mg : Str → Option Value) (base : Heap) : Prop where
  kin : K.In base
  glob : base.Ns mainGlobals mg
  blt : ∃ mb, base.Ns builtinsNs mb ∧ ∀ x : Str, x ≠ "__name__" → mb x = bootBuiltins x
  nolimit : base.NoLimit
/-- the context: a def's body (or a comprehension's block) running. base: fixed through the whole law; s₀, H₀: the entry; outer: the frames whose slots others may change (a def's callers); stack: all frames that run;
   ex: iterators that were made ahead of the entry and are walked here (a comprehension's); fn: the names whose cells were made at the entry (a def: all; a comprehension's block: its own); calm: not within an except suite; pn: pins that every state bears; xe: what is wanted of an exception that leaves the code -/
structure Cx where
  prog : Program
  w : World
  K : PySem.W.Frag
  mg : Str → Option Value
  base : Heap
  A : Around
  N : List Str
  s₀ : Shared
  H₀ : Hp
  env : Env
  outer : List Env
  stack : List Env
  ex : List Addr
  fn : Str → Bool
  calm : Bool
  pn : List (Addr × Obj)
  xe : Value → Shared → Prop
def frs (l : List Env) : List Addr := l.filterMap (·.frame)
abbrev Cx.fs (X : Cx) : List Addr := frs X.outer
def Vis (sc : Scope) (x : Str) : Prop := sc.names.lookup x = some .local ∨ sc.names.lookup x = some .cell ∨ sc.names.lookup x = some .free
def Loc (sc : Scope) (x : Str) : Prop := sc.names.lookup x = some .local ∨ sc.names.lookup x = some .cell
def Look (env : Env) (h : Heap) (m : Str → Option Value) (x : Str) (u : Value) : Prop :=
  (env.kindOf x = some .local ∧ m x = some u) ∨ ((env.kindOf x = some .cell ∨ env.kindOf x = some .free) ∧ ∃ c, env.cells.lookup x = some c ∧ h.IsCell c (some u))
structure Cx.Ok (X : Cx) : Prop where
  mod : Mod X.K X.mg X.base
  kind : X.env.scope.kind = .function
  glob : X.env.globals = mainGlobals
  blt : X.env.builtins = builtinsNs
  above : X.s₀.heap.objs.size ≤ X.env.locals
  inj : ∀ x y c, X.env.cells.lookup x = some c → X.env.cells.lookup y = some c → x = y
  has : ∀ x, (X.env.kindOf x = some .cell ∨ X.env.kindOf x = some .free) → ∃ c, X.env.cells.lookup x = some c
  cab : ∀ x c, X.fn x = true → X.env.cells.lookup x = some c → X.s₀.heap.objs.size ≤ c
  hd : X.calm = true → X.A.handled = none
  frames : X.A.frames = some X.stack
  stk : X.stack = X.outer ∨ (X.stack = X.env :: X.outer ∧ X.env.frame = some X.env.locals)
  exf : ∀ b ∈ X.ex, b ≠ X.env.locals ∧ ∀ x c, X.env.cells.lookup x = some c → c ≠ b
  bs : ∀ b o, X.base.get? b = some o → X.s₀.heap.get? b = some o ∧ X.H₀ b = none
  bsz : X.base.objs.size ≤ X.s₀.heap.objs.size
  noex : ∀ b o, X.base.get? b = some o → b ∉ X.ex
  exfs : ∀ b ∈ X.ex, b ∉ X.fs
  funs : X.s₀.heap.FunFrames X.base X.outer
  frf : ∀ b ∈ X.fs, X.H₀ b = none
structure Inv (X : Cx) (pins : List (Addr × Obj)) (σ : List (Option V)) (H : Hp) (s : Shared) : Prop where
  ok : X.Ok
  os : s.os = X.s₀.os
  bare : AllBare s.gens
  base : Un X.fs X.ex X.H₀ H X.s₀.heap s.heap
  loc : ∃ m, s.heap.Ns X.env.locals m ∧ ∀ (i : Nat) (x : Str) (v : V), X.N[i]? = some x → σ[i]? = some (some v) → Vis X.env.scope x → ∃ u, RelV v u ∧ Look X.env s.heap m x u
  cell : ∀ x c, X.env.cells.lookup x = some c → ∃ v, s.heap.IsCell c v
  free : H X.env.locals = none
  freeC : ∀ x c, X.env.cells.lookup x = some c → H c = none
  pin : ∀ p ∈ X.pn ++ pins, s.heap.get? p.1 = some p.2 ∧ H p.1 = none ∧ p.1 ≠ X.env.locals ∧ p.1 ∉ X.fs ∧ ∀ v, p.2.data ≠ .cell v
  hok : HOk X.prog X.w H s.heap
  len : σ.length = X.N.length
section
variable {X : Cx} {pins : List (Addr × Obj)} {σ : List (Option V)} {H H' : Hp} {s : Shared} {h' : Heap}
theorem Cx.Ok.nofr (ok : X.Ok) {b : Addr} {o : Obj} (e : X.base.get? b = some o) : b ∉ X.fs := fun hb => by
  have := (ok.funs.mem hb).1
  rw [e] at this; cases this
theorem Inv.bs (I : Inv X pins σ H s) : ∀ b o, X.base.get? b = some o → s.heap.get? b = some o ∧ H b = none := fun b o e =>
  ⟨I.base.keep b o (I.ok.bs b o e).1 (I.ok.bs b o e).2 (I.ok.nofr e) (I.ok.noex b o e), I.base.free b o (I.ok.bs b o e).1 (I.ok.bs b o e).2 (I.ok.noex b o e)⟩
theorem Inv.bk (I : Inv X pins σ H s) : ∀ b o, X.base.get? b = some o → s.heap.get? b = some o := fun b o e => (I.bs b o e).1
theorem Inv.mod (I : Inv X pins σ H s) : Mod X.K X.mg X.base := I.ok.mod
theorem Inv.kIn (I : Inv X pins σ H s) : X.K.In s.heap := I.ok.mod.kin.keeps I.bk
theorem Inv.lt (I : Inv X pins σ H s) : X.env.locals < s.heap.objs.size := let ⟨_, hn, _⟩ := I.loc; hn.lt
theorem Inv.sz (I : Inv X pins σ H s) : X.s₀.heap.objs.size ≤ s.heap.objs.size := Nat.le_trans I.ok.above (Nat.le_of_lt I.lt)
theorem Inv.nofs (I : Inv X pins σ H s) {a : Addr} (h : s.heap.objs.size ≤ a) : a ∉ X.fs := fun hb => by
  obtain ⟨_, o, ho, _⟩ := I.ok.funs.mem hb
  exact absurd (Nat.lt_of_lt_of_le (Heap.lt_size ho) (Nat.le_trans I.sz h)) (Nat.lt_irrefl _)
theorem Inv.cne (I : Inv X pins σ H s) : ∀ x c, X.env.cells.lookup x = some c → c ≠ X.env.locals := fun x c e z => by
  obtain ⟨v, o, ho, hd⟩ := I.cell x c e
  obtain ⟨m, ⟨o', es, ep, ho', hd', _⟩, _⟩ := I.loc
  rw [z, ho'] at ho; cases ho; rw [hd'] at hd; cases hd
theorem Inv.funs (I : Inv X pins σ H s) : s.heap.FunFrames X.base X.outer := by
  have all : ∀ (l : List Env), (∀ b ∈ frs l, b ∈ X.fs) → X.s₀.heap.FunFrames X.base l → s.heap.FunFrames X.base l := by
    intro l
    induction l with
    | nil => intro _ _; trivial
    | cons env r ih =>
      intro hs hl
      obtain ⟨hk, ⟨L, o, hf, hn, ho, hd⟩, hr⟩ := hl
      have hL : L ∈ X.fs := hs L (by unfold frs; rw [List.filterMap_cons, hf]; exact List.mem_cons_self)
      obtain ⟨sl, e⟩ := I.base.slot L o ho (I.ok.frf L hL) hL fun z => I.ok.exfs L z hL
      exact ⟨hk, ⟨L, _, hf, hn, e, hd⟩, ih (fun b hb => hs b (by unfold frs; rw [List.filterMap_cons, hf]; exact List.mem_cons_of_mem _ hb)) hr⟩
  exact all X.outer (fun _ hb => hb) I.ok.funs
theorem Inv.stack (I : Inv X pins σ H s) : s.heap.FunFrames X.base X.stack := by
  rcases I.ok.stk with e | ⟨e, hf⟩
  · rw [e]; exact I.funs
  · rw [e]
    obtain ⟨m, hn, _⟩ := I.loc
    refine .cons (by rw [I.ok.kind]; decide) hf hn ?_ I.funs
    exact Heap.get?_none_of_le (Nat.le_trans I.ok.bsz I.ok.above)
theorem Inv.stkSub (I : Inv X pins σ H s) : ∀ b ∈ frs X.stack, b ∈ X.env.locals :: X.fs := fun b hb => by
  rcases I.ok.stk with e | ⟨e, hf⟩
  · rw [e] at hb; exact List.mem_cons_of_mem _ hb
  · rw [e] at hb
    unfold frs at hb
    rw [List.filterMap_cons, hf] at hb
    exact hb
theorem Inv.stkFree (I : Inv X pins σ H s) : ∀ b ∈ frs X.stack, H b = none := fun b hb => by
  rcases List.mem_cons.mp (I.stkSub b hb) with e | hb
  · rw [e]; exact I.free
  · obtain ⟨_, o, ho, _⟩ := I.ok.funs.mem hb
    exact I.base.free b o ho (I.ok.frf b hb) fun z => I.ok.exfs b z hb
theorem Inv.step {g' : Array GenState} {t' : Nat} {d' : Drawn} {ch : List Addr} (I : Inv X pins σ H s)
    (hch : ∀ b ∈ ch, (b ∈ X.ex ∨ X.s₀.heap.objs.size ≤ b) ∧ b ≠ X.env.locals ∧ (∀ x c, X.env.cells.lookup x = some c → c ≠ b) ∧ ∀ p ∈ X.pn ++ pins, p.1 ≠ b)
    (keep : ∀ b o, b ≠ X.env.locals → b ∉ X.fs → b ∉ ch → s.heap.get? b = some o → H b = none → h'.get? b = some o)
    (slot : ∀ b o, b ≠ X.env.locals → b ∈ X.fs → b ∉ ch → s.heap.get? b = some o → H b = none → ∃ sl, h'.get? b = some { o with slots := sl }) (free : ∀ b o, b ∉ ch → s.heap.get? b = some o → H b = none → H' b = none)
    (there : ∀ b o, b ∉ ch → s.heap.get? b = some o → ∃ o', h'.get? b = some o')
    (tups : ∀ b xs, H b = some (.tup xs) → H' b = some (.tup xs)) (frzs : ∀ b o u, H b = some (.frz o u) → H' b = some (.frz o u)) (tbls : ∀ b ps, H b = some (.tbl ps) → ∃ more, H' b = some (.tbl (ps ++ more)))
    (ns : ∀ m, s.heap.Ns X.env.locals m → h'.Ns X.env.locals m) (hok : HOk X.prog X.w H' h') (hg : AllBare g') :
    Inv X pins σ H' { s with heap := h', gens := g', drawn := d', toks := t' } := by
  have neL : ∀ b o, X.s₀.heap.get? b = some o → b ≠ X.env.locals := fun b o e => Nat.ne_of_lt (Nat.lt_of_lt_of_le (Heap.lt_size e) I.ok.above)
  have neC : ∀ b o, X.s₀.heap.get? b = some o → b ∉ X.ex → b ∉ ch := fun b o e hx hb => by
    rcases (hch b hb).1 with z | z
    · exact hx z
    · exact absurd (Nat.lt_of_lt_of_le (Heap.lt_size e) z) (Nat.lt_irrefl _)
  have cellK : ∀ x c, X.env.cells.lookup x = some c → ∀ v, s.heap.IsCell c v → h'.IsCell c v := fun x c e v ⟨o, ho, hd⟩ => by
    have nch : c ∉ ch := fun z => (hch c z).2.2.1 x c e rfl
    by_cases hc : c ∈ X.fs
    · obtain ⟨sl, q⟩ := slot c o (I.cne x c e) hc nch ho (I.freeC x c e)
      exact ⟨_, q, hd⟩
    · exact ⟨o, keep c o (I.cne x c e) hc nch ho (I.freeC x c e), hd⟩
  refine ⟨I.ok, I.os, hg, ⟨fun b o e n hb hx => ?_, fun b o e n hb hx => ?_, fun b o e n hx => ?_, fun b o e hx => ?_, fun b xs e => tups b xs (I.base.tups b xs e), fun b o xs e => frzs b o xs (I.base.frzs b o xs e), fun b ps e => ?_⟩, ?_, fun x c e => ?_, ?_, fun x c e => ?_, fun p hp => ?_, hok, I.len⟩
  · exact keep b o (neL b o e) hb (neC b o e hx) (I.base.keep b o e n hb hx) (I.base.free b o e n hx)
  · obtain ⟨sl, e1⟩ := I.base.slot b o e n hb hx
    obtain ⟨sl', e2⟩ := slot b _ (neL b o e) hb (neC b o e hx) e1 (I.base.free b o e n hx)
    exact ⟨sl', e2⟩
  · obtain ⟨o', e1⟩ := I.base.there b o e hx
    exact free b o' (neC b o e hx) e1 (I.base.free b o e n hx)
  · obtain ⟨o', e1⟩ := I.base.there b o e hx
    exact there b o' (neC b o e hx) e1
  · obtain ⟨m1, e1⟩ := I.base.tbls b ps e
    obtain ⟨m2, e2⟩ := tbls b _ e1
    exact ⟨m1 ++ m2, by rw [e2, Array.append_assoc]⟩
  · obtain ⟨m, hn, hl⟩ := I.loc
    refine ⟨m, ns m hn, fun i x v e1 e2 e3 => ?_⟩
    obtain ⟨u, r, l⟩ := hl i x v e1 e2 e3
    refine ⟨u, r, ?_⟩
    rcases l with l | ⟨k, c, e, z⟩
    · exact .inl l
    · exact .inr ⟨k, c, e, cellK x c e _ z⟩
  · obtain ⟨v, z⟩ := I.cell x c e
    exact ⟨v, cellK x c e v z⟩
  · obtain ⟨m, ⟨o, _, _, ho, _⟩, _⟩ := I.loc
    exact free _ o (fun z => (hch _ z).2.1 rfl) ho I.free
  · obtain ⟨v, o, ho, hd⟩ := I.cell x c e
    exact free c o (fun z => (hch c z).2.2.1 x c e rfl) ho (I.freeC x c e)
  · obtain ⟨e, n, ne, nf, d⟩ := I.pin p hp
    have nch : p.1 ∉ ch := fun z => (hch p.1 z).2.2.2 p hp rfl
    exact ⟨keep p.1 p.2 ne nf nch e n, free p.1 p.2 nch e n, ne, nf, d⟩
theorem Inv.un {t' : Nat} (I : Inv X pins σ H s) (u : Un X.fs [] H H' s.heap h') (hok : HOk X.prog X.w H' h') : Inv X pins σ H' { s with heap := h', toks := t' } := by
  obtain ⟨m, ⟨o, es, ep, ho, r⟩, _⟩ := id I.loc
  obtain ⟨sl, hL⟩ := u.any ho I.free (by simp)
  exact I.step (g' := s.gens) (d' := s.drawn) (ch := []) (fun _ z => nomatch z) (fun b o _ hb _ e n => u.keep b o e n hb (by simp)) (fun b o _ hb _ e n => u.slot b o e n hb (by simp)) (fun b o _ e n => u.free b o e n (by simp)) (fun b o _ e => u.there b o e (by simp)) u.tups u.frzs u.tbls (fun m' hm => by
    obtain ⟨o', es', ep', ho', r'⟩ := hm
    rw [ho] at ho'; cases ho'
    exact ⟨_, es', ep', hL, r'⟩) hok I.bare
theorem Inv.call {g' : Array GenState} {t' : Nat} {d' : Drawn} {ch : List Addr} (I : Inv X pins σ H s) (u : Un (frs X.stack) ch H H' s.heap h') (hok : HOk X.prog X.w H' h') (hg : AllBare g')
    (hch : ∀ b ∈ ch, (b ∈ X.ex ∨ X.s₀.heap.objs.size ≤ b) ∧ b ≠ X.env.locals ∧ (∀ x c, X.env.cells.lookup x = some c → c ≠ b) ∧ ∀ p ∈ X.pn ++ pins, p.1 ≠ b) :
    Inv X pins σ H' { s with heap := h', gens := g', drawn := d', toks := t' } := by
  obtain ⟨m, ⟨o, es, ep, ho, r⟩, _⟩ := id I.loc
  obtain ⟨sl, hL⟩ := u.any ho I.free fun z => (hch _ z).2.1 rfl
  exact I.step (ch := ch) hch (fun b o hL hb hc e n => u.keep b o e n (fun z => (List.mem_cons.mp (I.stkSub b z)).elim hL hb) hc) (fun b o _ _ hc e n => u.any e n hc) (fun b o hc e n => u.free b o e n hc) (fun b o hc e => u.there b o e hc) u.tups u.frzs u.tbls (fun m' hm => by
    obtain ⟨o', es', ep', ho', r'⟩ := hm
    rw [ho] at ho'; cases ho'
    exact ⟨_, es', ep', hL, r'⟩) hok hg
theorem Inv.turned {t' : Nat} {it : Addr} (I : Inv X pins σ H s) (k : ∀ b o, b ≠ it → s.heap.get? b = some o → h'.get? b = some o) (hn : H it = none) (hL : it ≠ X.env.locals)
    (h1 : it ∈ X.ex ∨ X.s₀.heap.objs.size ≤ it) (h2 : ∀ x c, X.env.cells.lookup x = some c → c ≠ it) (h3 : ∀ p ∈ X.pn ++ pins, p.1 ≠ it) : Inv X pins σ H { s with heap := h', toks := t' } := by
  have nit : ∀ b u, H b = some u → b ≠ it := fun b u e z => by rw [z, hn] at e; cases e
  refine I.step (g' := s.gens) (d' := s.drawn) (ch := [it]) (fun b hb => ?_) (fun b o _ _ hc e _ => k b o (fun z => hc (by simp [z])) e) (fun b o _ _ hc e _ => ⟨o.slots, k b o (fun z => hc (by simp [z])) e⟩) (fun _ _ _ _ n => n)
    (fun b o hc e => ⟨o, k b o (fun z => hc (by simp [z])) e⟩) (fun _ _ e => e) (fun _ _ _ e => e) (fun b ps e => ⟨#[], by rw [e]; simp⟩) (fun m hm => ?_) (fun b u e => ?_) I.bare
  · have e : b = it := by simpa using hb
    subst e
    exact ⟨h1, hL, h2, h3⟩
  · obtain ⟨o, es, ep, ho, r⟩ := hm
    exact ⟨o, es, ep, k _ o (Ne.symm hL) ho, r⟩
  · refine (I.hok b u e).stay (fun c v hc q => k c v ?_ q) (fun _ q => q) fun _ _ q => q
    rcases hc with z | z
    · rw [z]; exact nit b u e
    · exact nit c _ z
theorem Inv.tok (I : Inv X pins σ H s) (t : Nat) : Inv X pins σ H { s with toks := t } := I.un (h' := s.heap) (t' := t) Un.refl I.hok
theorem Inv.kept {t' : Nat} (I : Inv X pins σ H s) (k : ∀ b u, s.heap.get? b = some u → h'.get? b = some u) : Inv X pins σ H { s with heap := h', toks := t' } := I.un (Un.kept k) (I.hok.kept k)
theorem Inv.laid {a : Addr} {o : HO} {t' : Nat} (I : Inv X pins σ H s) (k : ∀ b u, s.heap.get? b = some u → h'.get? b = some u) (hp : s.heap.objs.size ≤ a) (new : ObjOk X.prog X.w (upd H a o) h' a o) :
    Inv X pins σ (upd H a o) { s with heap := h', toks := t' } := I.un (Un.laid k hp (I.hok.fresh hp)) (I.hok.laid k hp new)
theorem Inv.write {x e : Addr} {o : HO} {t' : Nat} (I : Inv X pins σ H s) (mu : Mut (H x)) (he : e = x ∨ H e = some (.own x)) (k : ∀ b u, b ≠ e → s.heap.get? b = some u → h'.get? b = some u) (heo : ∃ u, h'.get? e = some u)
    (new : ObjOk X.prog X.w (upd H x o) h' x o) : Inv X pins σ (upd H x o) { s with heap := h', toks := t' } := I.un (Un.write mu he k heo) (I.hok.write mu he k heo new)
theorem Inv.pins_of {pins' : List (Addr × Obj)} (I : Inv X pins σ H s) (h : ∀ p ∈ pins', s.heap.get? p.1 = some p.2 ∧ H p.1 = none ∧ p.1 ≠ X.env.locals ∧ p.1 ∉ X.fs ∧ ∀ v, p.2.data ≠ .cell v) : Inv X pins' σ H s :=
  ⟨I.ok, I.os, I.bare, I.base, I.loc, I.cell, I.free, I.freeC, fun p hp => (List.mem_append.mp hp).elim (fun z => I.pin p (List.mem_append_left _ z)) (h p), I.hok, I.len⟩
theorem nodup_ix {N : List Str} (hN : N.Nodup) {i j : Nat} {x : Str} (a : N[i]? = some x) (b : N[j]? = some x) : i = j := by
  obtain ⟨h1, e1⟩ := List.getElem?_eq_some_iff.mp a
  obtain ⟨h2, e2⟩ := List.getElem?_eq_some_iff.mp b
  exact (List.getElem_inj hN).mp (e1.trans e2.symm)
theorem store_ok2 {M : Model} {A : Around} {E : Value → Shared → Prop} {i : Nat} {x : Str} {v : V} {u : Value} {Q : Unit → Shared → Prop} (I : Inv X pins σ H s) (hN : X.N.Nodup) (hi : X.N[i]? = some x) (hx : Loc X.env.scope x) (r : RelV v u)
    (h : ∀ s', Inv X pins (σ.set i (some v)) H s' → (∃ a, Heap.SameBut a s.heap s'.heap ∧ (a = X.env.locals ∨ X.env.cells.lookup x = some a)) → Q () s') (hf : X.fn x = true ∨ X.env.scope.names.lookup x = some .local := by first | exact .inl rfl | exact .inr rfl | assumption) : wpAny M A (storeName X.env x u) Q E s := by
  obtain ⟨m, hn, hl⟩ := id I.loc
  have hcls : (X.env.scope.kind == .class || (X.env.scope.kind == .module && X.env.locals != X.env.globals)) = false := by rw [I.ok.kind]; rfl
  have hiσ : i < σ.length := by rw [I.len]; exact (List.getElem?_eq_some_iff.mp hi).1
  have cne := I.cne
  have tracked : ∀ {a : Addr} {h' : Heap}, (∃ o, s.heap.get? a = some o ∧ H a = none) → Heap.SameBut a s.heap h' → HOk X.prog X.w H h' := fun {a h'} ha hs b ob e => by
    obtain ⟨_, _, hfree⟩ := ha
    refine (I.hok b ob e).stay (fun c w' hc q => (hs.2 c ?_).trans q) (fun _ q => q) fun _ _ q => q
    rintro rfl
    rcases hc with rfl | hc
    · rw [hfree] at e; cases e
    · rw [hfree] at hc; cases hc
  rcases hx with hk | hk
  · refine wpAny_storeName_local hk hn (fun h' hn' hs => ?_) hcls
    obtain ⟨oL, _, _, hoL, _⟩ := id hn
    refine h _ ⟨I.ok, I.os, I.bare, ⟨fun b o e n hb hx => ?_, fun b o e n hb hx => ?_, I.base.free, fun b o e hx => ?_, I.base.tups, I.base.frzs, I.base.tbls⟩, ⟨_, hn', fun j y v' e1 e2 e3 => ?_⟩, fun y c e => ?_, I.free, I.freeC, fun p hp => ?_, tracked ⟨oL, hoL, I.free⟩ hs, by simpa using I.len⟩ ⟨_, hs, .inl rfl⟩
    · exact (hs.2 b (Nat.ne_of_lt (Nat.lt_of_lt_of_le (Heap.lt_size e) I.ok.above))).trans (I.base.keep b o e n hb hx)
    · obtain ⟨sl, e1⟩ := I.base.slot b o e n hb hx
      exact ⟨sl, (hs.2 b (Nat.ne_of_lt (Nat.lt_of_lt_of_le (Heap.lt_size e) I.ok.above))).trans e1⟩
    · obtain ⟨o', e1⟩ := I.base.there b o e hx
      exact ⟨o', (hs.2 b (Nat.ne_of_lt (Nat.lt_of_lt_of_le (Heap.lt_size e) I.ok.above))).trans e1⟩
    · by_cases hj : j = i
      · subst hj
        rw [hi] at e1; cases e1
        rw [List.getElem?_set_self hiσ] at e2
        cases e2
        exact ⟨u, r, .inl ⟨hk, by simp⟩⟩
      · rw [List.getElem?_set_ne (Ne.symm hj)] at e2
        obtain ⟨u', r', q⟩ := hl j y v' e1 e2 e3
        refine ⟨u', r', ?_⟩
        rcases q with ⟨k, e⟩ | ⟨k, c, e, z⟩
        · refine .inl ⟨k, ?_⟩
          have : y ≠ x := fun e => hj (nodup_ix hN e1 (e ▸ hi))
          simp [this, e]
        · exact .inr ⟨k, c, e, z.sameBut hs (cne y c e)⟩
    · obtain ⟨w', z⟩ := I.cell y c e
      exact ⟨w', z.sameBut hs (cne y c e)⟩
    · obtain ⟨e, n, ne, nf, d⟩ := I.pin p hp
      exact ⟨(hs.2 p.1 ne).trans e, n, ne, nf, d⟩
  · have hfn : X.fn x = true := by
      rcases hf with z | z
      · exact z
      · rw [z] at hk; cases hk
    obtain ⟨c, hc⟩ := I.ok.has x (.inl hk)
    obtain ⟨w', z⟩ := I.cell x c hc
    refine wpAny_storeName_cell I.ok.kind hk hc z (fun h' hc' hs => ?_)
    obtain ⟨oc, hoc, hocd⟩ := id z
    refine h { s with heap := h' } ⟨I.ok, I.os, I.bare, ⟨fun b o e n hb hx => ?_, fun b o e n hb hx => ?_, I.base.free, fun b o e hx => ?_, I.base.tups, I.base.frzs, I.base.tbls⟩, ⟨m, hn.sameBut hs (Ne.symm (cne x c hc)), fun j y v' e1 e2 e3 => ?_⟩, fun y c' e => ?_, I.free, I.freeC, fun p hp => ?_, tracked ⟨oc, hoc, I.freeC x c hc⟩ hs, by simpa using I.len⟩ ⟨c, hs, .inr hc⟩
    · exact (hs.2 b (Nat.ne_of_lt (Nat.lt_of_lt_of_le (Heap.lt_size e) (I.ok.cab x c hfn hc)))).trans (I.base.keep b o e n hb hx)
    · obtain ⟨sl, e1⟩ := I.base.slot b o e n hb hx
      exact ⟨sl, (hs.2 b (Nat.ne_of_lt (Nat.lt_of_lt_of_le (Heap.lt_size e) (I.ok.cab x c hfn hc)))).trans e1⟩
    · obtain ⟨o', e1⟩ := I.base.there b o e hx
      exact ⟨o', (hs.2 b (Nat.ne_of_lt (Nat.lt_of_lt_of_le (Heap.lt_size e) (I.ok.cab x c hfn hc)))).trans e1⟩
    · by_cases hj : j = i
      · subst hj
        rw [hi] at e1; cases e1
        rw [List.getElem?_set_self hiσ] at e2
        cases e2
        exact ⟨u, r, .inr ⟨.inl hk, c, hc, hc'⟩⟩
      · rw [List.getElem?_set_ne (Ne.symm hj)] at e2
        obtain ⟨u', r', q⟩ := hl j y v' e1 e2 e3
        refine ⟨u', r', ?_⟩
        rcases q with q | ⟨k, c', e, z'⟩
        · exact .inl q
        · refine .inr ⟨k, c', e, z'.sameBut hs ?_⟩
          rintro rfl
          exact hj (nodup_ix hN e1 (I.ok.inj _ _ _ e hc ▸ hi))
    · by_cases hcc : c' = c
      · subst hcc; exact ⟨_, hc'⟩
      · obtain ⟨w2, z2⟩ := I.cell y c' e
        exact ⟨w2, z2.sameBut hs hcc⟩
    · obtain ⟨e, n, ne, nf, d⟩ := I.pin p hp
      refine ⟨(hs.2 p.1 ?_).trans e, n, ne, nf, d⟩
      intro q
      rw [q, hoc] at e
      have q' : oc = p.2 := Option.some.inj e
      exact d w' (by rw [← q']; exact hocd)
theorem store_ok {M : Model} {A : Around} {E : Value → Shared → Prop} {i : Nat} {x : Str} {v : V} {u : Value} {Q : Unit → Shared → Prop} (I : Inv X pins σ H s) (hN : X.N.Nodup) (hi : X.N[i]? = some x) (hx : Loc X.env.scope x) (r : RelV v u)
    (h : ∀ s', Inv X pins (σ.set i (some v)) H s' → Q () s') (hf : X.fn x = true ∨ X.env.scope.names.lookup x = some .local := by first | exact .inl rfl | exact .inr rfl | assumption) : wpAny M A (storeName X.env x u) Q E s :=
  store_ok2 I hN hi hx r (fun s' I' _ => h s' I') hf
theorem Inv.call' {s' : Shared} {ch : List Addr} (I : Inv X pins σ H s) (ho : s'.os = s.os) (u : Un (frs X.stack) ch H H' s.heap s'.heap) (hok : HOk X.prog X.w H' s'.heap) (hg : AllBare s'.gens)
    (hch : ∀ b ∈ ch, (b ∈ X.ex ∨ X.s₀.heap.objs.size ≤ b) ∧ b ≠ X.env.locals ∧ (∀ x c, X.env.cells.lookup x = some c → c ≠ b) ∧ ∀ p ∈ X.pn ++ pins, p.1 ≠ b) : Inv X pins σ H' s' := by
  obtain ⟨h', g', d', t', o'⟩ := s'
  have e : o' = s.os := ho
  subst e
  exact I.call (g' := g') (t' := t') (d' := d') u hok hg hch
end
abbrev XK := Value → Option Addr → Hp → Prop
abbrev St := List (Option V)
abbrev VK := V → Hp → Prop
abbrev TE := St → Hp → VK → Prop
abbrev TT := St → Hp → (Bool → Hp → Prop) → Prop
abbrev TA := St → Hp → (List V → Hp → Prop) → Prop
structure Ends where
  nx : St → Hp → Prop
  rt : VK
  bk : St → Hp → Prop := fun _ _ => False
  ct : St → Hp → Prop := fun _ _ => False
abbrev TS := Ends → St → Hp → Prop
def EP (X : Cx) (pins : List (Addr × Obj)) (σ : St) (Q : VK) (u : Value) (s' : Shared) : Prop := ∃ v H', Inv X pins σ H' s' ∧ RelV v u ∧ Q v H'
def TP (X : Cx) (pins : List (Addr × Obj)) (σ : St) (Q : Bool → Hp → Prop) (b : Bool) (s' : Shared) : Prop := ∃ H', Inv X pins σ H' s' ∧ Q b H'
def AP (X : Cx) (pins : List (Addr × Obj)) (σ : St) (Q : List V → Hp → Prop) (us : List Value) (s' : Shared) : Prop := ∃ vs H', Inv X pins σ H' s' ∧ Vals vs us ∧ Q vs H'
def SP (X : Cx) (pins : List (Addr × Obj)) (D : Ends) (f : Flow) (s' : Shared) : Prop :=
  match f with
  | .next => ∃ σ' H', Inv X pins σ' H' s' ∧ D.nx σ' H'
  | .brk => ∃ σ' H', Inv X pins σ' H' s' ∧ D.bk σ' H'
  | .cont => ∃ σ' H', Inv X pins σ' H' s' ∧ D.ct σ' H'
  | .ret u => ∃ v σ' H', Inv X pins σ' H' s' ∧ RelV v u ∧ D.rt v H'
def PE (X : Cx) (e : Expr) (t : TE) : Prop :=
  ∀ (pins : List (Addr × Obj)) (s : Shared) (σ : St) (H : Hp) (Q : VK), Inv X pins σ H s → t σ H Q → wpAny (model X.prog X.w) X.A (eval e X.env) (EP X pins σ Q) X.xe s
def PT (X : Cx) (e : Expr) (t : TT) : Prop :=
  ∀ (pins : List (Addr × Obj)) (s : Shared) (σ : St) (H : Hp) (Q : Bool → Hp → Prop), Inv X pins σ H s → t σ H Q → wpAny (model X.prog X.w) X.A (isTrue e X.env (eval e X.env)) (TP X pins σ Q) X.xe s
def PW (X : Cx) (e : Expr) (t : TT) : Prop :=
  ∀ (whole : Sem Value) (pins : List (Addr × Obj)) (s : Shared) (σ : St) (H : Hp) (Q : Bool → Hp → Prop), Inv X pins σ H s → t σ H Q → wpAny (model X.prog X.w) X.A (isTrue e X.env whole) (TP X pins σ Q) X.xe s
theorem PW.pt {X : Cx} {e : Expr} {t : TT} (h : PW X e t) : PT X e t := h _
def PA (X : Cx) (es : List Expr) (t : TA) : Prop :=
  ∀ (pos : Pos) (pins : List (Addr × Obj)) (s : Shared) (σ : St) (H : Hp) (Q : List V → Hp → Prop), Inv X pins σ H s → t σ H Q → wpAny (model X.prog X.w) X.A (spliced (backTo pos (starEach es X.env))) (AP X pins σ Q) X.xe s
def PS (X : Cx) (st : Stmt) (t : TS) : Prop :=
  ∀ (pins : List (Addr × Obj)) (s : Shared) (σ : St) (H : Hp) (D : Ends), Inv X pins σ H s → t D σ H → wpAny (model X.prog X.w) X.A (exec st X.env) (SP X pins D) X.xe s
def PSs (X : Cx) (st : List Stmt) (t : TS) : Prop :=
  ∀ (pins : List (Addr × Obj)) (s : Shared) (σ : St) (H : Hp) (D : Ends), Inv X pins σ H s → t D σ H → wpAny (model X.prog X.w) X.A (execs st X.env) (SP X pins D) X.xe s
theorem thn {α : Type} {t : Sem α} {Q Q' : α → Shared → Prop} {M : Model} {A : Around} {E : Value → Shared → Prop} {s : Shared} (h : wpAny M A t Q E s) (hQ : ∀ a s, Q a s → Q' a s) : wpAny M A t Q' E s := wpAny_mono h hQ fun _ _ x => x
end L2
namespace L2
open PySem PySem.Spec PyProof.Rows
section
variable {X : Cx}
theorem bin {a b : Expr} {ta tb : TE} (ha : PE X a ta) (hb : PE X b tb) {pins : List (Addr × Obj)} {s : Shared} {σ : St} {H : Hp} {R : V → V → Hp → Prop} (I : Inv X pins σ H s) (h : ta σ H fun x H1 => tb σ H1 fun y H2 => R x y H2)
    {α : Type} {Q : α → Shared → Prop} {f : Value → Value → Sem α}
    (hf : ∀ v u s2 x y H2, Inv X pins σ H2 s2 → RelV x v → RelV y u → R x y H2 → wpAny (model X.prog X.w) X.A (f v u) Q X.xe s2) :
    wpAny (model X.prog X.w) X.A (eval a X.env) (fun v s₁ => wpAny (model X.prog X.w) X.A (eval b X.env) (fun u s₂ => wpAny (model X.prog X.w) X.A (f v u) Q X.xe s₂) X.xe s₁) X.xe s := by
  refine thn (ha pins s σ H _ I h) fun v s1 ⟨x, H1, I1, r1, q1⟩ => ?_
  refine thn (hb pins s1 σ H1 _ I1 q1) fun u s2 ⟨y, H2, I2, r2, q2⟩ => ?_
  exact hf v u s2 x y H2 I2 r1 r2 q2
def tVar (i : Nat) : TE := fun σ H Q => ∃ v, σ[i]? = some (some v) ∧ Q v H
def tC (v : V) : TE := fun _ H Q => Q v H
theorem pe_var {i : Nat} {x : Str} {pos : Pos} (hN : X.N[i]? = some x) (hv : Vis X.env.scope x) (hd : (x == ("__debug__" : Str)) = false := by decide) (hcd : (x == ("__classdict__" : Str)) = false := by decide) : PE X (.Name x pos) (tVar i) := by
  intro pins s σ H Q I h
  obtain ⟨v, e, h⟩ := h
  obtain ⟨m, hn, hl⟩ := I.loc
  obtain ⟨u, r, l⟩ := hl i x v hN e hv
  have fin : EP X pins σ Q u s := ⟨v, H, I, r, h⟩
  rcases l with ⟨hk, hm⟩ | ⟨hk, c, hc, hcell⟩
  · exact wpAny_Name (wpAny_loadName_local I.ok.kind hk hn hm fin) hd
  · rcases hk with hk | hk
    · exact wpAny_Name (wpAny_loadName_cell I.ok.kind hk hc hcell fin) hd
    · exact wpAny_Name (wpAny_loadName_free I.ok.kind hk hc hcell fin hcd) hd
theorem pe_int {i j pos} : PE X (.Constant (.int i) j pos) (tC (.int i)) := fun _ _ _ H _ I h => wpAny_Constant_int ⟨.int i, H, I.tok _, ⟨_, rfl⟩, h⟩
theorem pe_bl {b j pos} : PE X (.Constant (.bool b) j pos) (tC (.bl b)) := fun _ _ _ H _ I h => Constant_bool ⟨.bl b, H, I, rfl, h⟩
theorem pe_non {j pos} : PE X (.Constant .none j pos) (tC .non) := fun _ _ _ H _ I h => Constant_none ⟨.non, H, I, rfl, h⟩
theorem pe_str {x j pos} : PE X (.Constant (.str x) j pos) (tC (.str x)) := fun _ _ _ H _ I h => Calls.Constant_str ⟨.str x, H, I.tok _, ⟨_, rfl⟩, h⟩
def Gl (X : Cx) (x : Str) : Prop := X.env.kindOf x = some .globalImplicit
theorem ld_glob {E : Value → Shared → Prop} {pins : List (Addr × Obj)} {s : Shared} {σ : St} {H : Hp} {x : Str} {u : Value} {pos : Pos} {Q : Value → Shared → Prop} (I : Inv X pins σ H s) (hg : Gl X x) (hm : X.mg x = some u) (h : Q u s)
    (hd : (x == ("__debug__" : Str)) = false := by decide) : wpAny (model X.prog X.w) X.A (eval (.Name x pos) X.env) Q E s :=
  Calls.Name_function_global I.ok.kind hg (Calls.loadGlobal_global (by rw [I.ok.glob]; exact I.mod.glob.keeps I.bk) hm h) hd
theorem ld_blt {E : Value → Shared → Prop} {pins : List (Addr × Obj)} {s : Shared} {σ : St} {H : Hp} {x : Str} {u : Value} {pos : Pos} {Q : Value → Shared → Prop} (I : Inv X pins σ H s) (hg : Gl X x) (hm : X.mg x = none) (hv : bootBuiltins x = some u) (h : Q u s)
    (hn : x ≠ "__name__" := by decide) (hd : (x == ("__debug__" : Str)) = false := by decide) : wpAny (model X.prog X.w) X.A (eval (.Name x pos) X.env) Q E s := by
  obtain ⟨mb, h1, h2⟩ := I.mod.blt
  exact Calls.Name_function_global I.ok.kind hg (Calls.loadGlobal_builtin (by rw [I.ok.glob]; exact I.mod.glob.keeps I.bk) hm (by rw [I.ok.blt]; exact h1.keeps I.bk) ((h2 x hn).trans hv) h) hd
theorem pe_glob {x : Str} {v : V} {u : Value} {pos : Pos} (hg : Gl X x) (hm : X.mg x = some u) (r : RelV v u) (hd : (x == ("__debug__" : Str)) = false := by decide) : PE X (.Name x pos) (tC v) :=
  fun _ _ _ H _ I h => ld_glob I hg hm ⟨v, H, I, r, h⟩ hd
theorem pe_bltn {x : Str} {v : V} {u : Value} {pos : Pos} (hg : Gl X x) (hm : X.mg x = none) (hv : bootBuiltins x = some u) (r : RelV v u) (hn : x ≠ "__name__" := by decide) (hd : (x == ("__debug__" : Str)) = false := by decide) : PE X (.Name x pos) (tC v) :=
  fun _ _ _ H _ I h => ld_blt I hg hm hv ⟨v, H, I, r, h⟩ hn hd
variable {a b : Expr} {ta tb : TE} {pos : Pos}
def PC (X : Cx) (op : CmpOp) (a b : Expr) (t : TE) : Prop :=
  ∀ (pins : List (Addr × Obj)) (s : Shared) (σ : St) (H : Hp) (Q : VK), Inv X pins σ H s → t σ H Q →
    wpAny (model X.prog X.w) X.A (eval a X.env) (fun v s₁ => wpAny (model X.prog X.w) X.A (eval b X.env) (fun u s₂ => wpAny (model X.prog X.w) X.A (compareOp op v u) (EP X pins σ Q) X.xe s₂) X.xe s₁) X.xe s
theorem nobehind (b : Expr) {op : CmpOp} (h : op ≠ .In) (h2 : op ≠ .NotIn) : behindInMarks op b = false := by
  have e1 : (op == CmpOp.In) = false := by cases op <;> first | rfl | exact absurd rfl h
  have e2 : (op == CmpOp.NotIn) = false := by cases op <;> first | rfl | exact absurd rfl h2
  cases b <;> simp [behindInMarks, e1, e2]
def tB (t : TE) : TT := fun σ H Q => t σ H fun x H1 => ∃ c, x = .bl c ∧ Q c H1
theorem pt_cmp {op : CmpOp} {t : TE} (h : PC X op a b t) (h1 : behindInMarks op b = false := by first | exact nobehind _ (by decide) (by decide) | rfl) : PT X (.Compare a [op] [b] pos) (tB t) := by
  intro pins s σ H Q I hw
  refine wpAny_isTrue_Compare1 (thn (h pins s σ H _ I hw) fun v s1 h1 => thn h1 fun u s2 h2 => thn h2 fun c s3 ⟨x, H1, I1, r1, q1⟩ => ?_) h1
  obtain ⟨d, rfl, q⟩ := q1
  cases r1
  exact wpAny_truthy_bool ⟨H1, I1, q⟩
theorem pt_val {e : Expr} {t : TE} (h : PE X e t) (he : ∀ whole, isTrue e X.env whole = (do let v ← whole; standAt e.pos; holding [v] (truthy v)) := by intro _; rfl) : PT X e (tB t) := by
  intro pins s σ H Q I hw
  refine isTrue_plain (thn (h pins s σ H _ I hw) fun v s1 ⟨x, H1, I1, r1, q1⟩ => ?_) (he _)
  obtain ⟨d, rfl, q⟩ := q1
  cases r1
  exact wpAny_truthy_bool ⟨H1, I1, q⟩
variable {tA tB' : TT} {rest : List Expr}
def tAnd (t u : TT) : TT := fun σ H Q => t σ H fun c H1 => if c = true then u σ H1 Q else Q false H1
def tOr (t u : TT) : TT := fun σ H Q => t σ H fun c H1 => if c = true then Q true H1 else u σ H1 Q
def tNot (t : TT) : TT := fun σ H Q => t σ H fun c H1 => Q (!c) H1
theorem pw_and1 (ha : PT X a tA) : PW X (.BoolOp .And [a] pos) tA := by
  intro wh pins s σ H Q I h
  refine isTrue_and (thn (ha pins s σ H Q I h) fun c s1 e => ?_)
  cases c with
  | true => exact isTrue_and_nil e
  | false => exact e
theorem pw_or1 (ha : PT X a tA) : PW X (.BoolOp .Or [a] pos) tA := by
  intro wh pins s σ H Q I h
  refine isTrue_or (thn (ha pins s σ H Q I h) fun c s1 e => ?_)
  cases c with
  | false => exact isTrue_or_nil e
  | true => exact e
theorem pw_and (ha : PT X a tA) (hb : PW X (.BoolOp .And (b :: rest) pos) tB') : PW X (.BoolOp .And (a :: b :: rest) pos) (tAnd tA tB') := by
  intro wh pins s σ H Q I h
  refine isTrue_and (thn (ha pins s σ H _ I h) fun c s1 ⟨H1, I1, q1⟩ => ?_)
  cases c with
  | true => exact hb wh pins s1 σ H1 Q I1 q1
  | false => exact ⟨H1, I1, q1⟩
theorem pw_or (ha : PT X a tA) (hb : PW X (.BoolOp .Or (b :: rest) pos) tB') : PW X (.BoolOp .Or (a :: b :: rest) pos) (tOr tA tB') := by
  intro wh pins s σ H Q I h
  refine isTrue_or (thn (ha pins s σ H _ I h) fun c s1 ⟨H1, I1, q1⟩ => ?_)
  cases c with
  | true => exact ⟨H1, I1, q1⟩
  | false => exact hb wh pins s1 σ H1 Q I1 q1
theorem pt_not (ha : PT X a tA) : PT X (.UnaryOp .Not a pos) (tNot tA) := by
  intro pins s σ H Q I h
  exact isTrue_not (ha pins s σ H (fun c H1 => Q (!c) H1) I h)
def tAndV (ta tb : TE) : TE := fun σ H Q => ta σ H fun x H1 => ∃ c, x = .bl c ∧ if c = true then tb σ H1 Q else Q (.bl false) H1
def tNotV (ta : TE) : TE := fun σ H Q => ta σ H fun x H1 => ∃ c, x = .bl c ∧ Q (.bl (!c)) H1
theorem pe_one {op} {t : TE} (h : PE X a t) : PE X (.BoolOp op [a] pos) t := fun pins s σ H Q I hw => BoolOp_one (h pins s σ H Q I hw)
theorem pe_and (ha : PE X a ta) (hb : PE X (.BoolOp .And (b :: rest) pos) tb) : PE X (.BoolOp .And (a :: b :: rest) pos) (tAndV ta tb) := by
  intro pins s σ H Q I h
  refine BoolOp_and (thn (ha pins s σ H _ I h) fun v s1 ⟨x, H1, I1, r1, q1⟩ => ?_)
  obtain ⟨c, rfl, q1⟩ := q1
  cases r1
  refine wpAny_truthy_bool ?_
  cases c with
  | true => exact hb pins s1 σ H1 Q I1 q1
  | false => exact ⟨.bl false, H1, I1, rfl, q1⟩
theorem pe_not (ha : PE X a ta) : PE X (.UnaryOp .Not a pos) (tNotV ta) := by
  intro pins s σ H Q I h
  refine UnaryOp_ (thn (ha pins s σ H _ I h) fun v s1 ⟨x, H1, I1, r1, q1⟩ => ?_)
  obtain ⟨c, rfl, q1⟩ := q1
  cases r1
  exact not_of (wpAny_truthy_bool ⟨.bl (!c), H1, I1, rfl, q1⟩)
end
end L2
namespace L2
open PySem PySem.Spec PyProof.Rows
def SqL (K : PySem.W.Frag) (H : Hp) (a : Addr) (xs : List V) : Prop :=
  Rd H a (.lst xs) ∨
    ∃ (o : Obj) (its : Array Value) (n : Nat), K.lookup a = some o ∧ o.cls = .type "list" ∧ o.dict = none ∧ o.data = .seq its n ∧ its.size ≤ sizeLine ∧ Vals xs its.toList
def SqT (K : PySem.W.Frag) (H : Hp) (a : Addr) (xs : List V) : Prop :=
  Rd H a (.tup xs) ∨
    ∃ (o : Obj) (its : Array Value) (n : Nat), K.lookup a = some o ∧ o.cls = .type "tuple" ∧ o.data = .seq its n ∧ its.size ≤ sizeLine ∧ Vals xs its.toList
def absV : Value → Option V
  | .none => some .non
  | .bool b => some (.bl b)
  | .int i _ => some (.int i)
  | .str x _ => some (.str x)
  | .bytes b _ => some (.byt b)
  | .float b _ => some (.flt b)
  | .ref a => some (.ref a)
  | .type n => some (.ty n)
  | _ => none
theorem RelV.abs {x : V} {u : Value} (r : RelV x u) : absV u = some x := by
  cases x with
  | non => cases r; rfl
  | bl _ => cases r; rfl
  | int _ => obtain ⟨t, rfl⟩ := r; rfl
  | str _ => obtain ⟨t, rfl⟩ := r; rfl
  | byt _ => obtain ⟨t, rfl⟩ := r; rfl
  | flt _ => obtain ⟨t, rfl⟩ := r; rfl
  | ref _ => cases r; rfl
  | ty _ => cases r; rfl
theorem RelV.inj {x y : V} {u : Value} (r : RelV x u) (q : RelV y u) : x = y := Option.some.inj (r.abs.symm.trans q.abs)
theorem Vals.inj : ∀ {xs ys : List V} {us : List Value}, Vals xs us → Vals ys us → xs = ys
  | _, _, _, .nil, .nil => rfl
  | _, _, _, .cons r t, .cons r' t' => by rw [r.inj r', Vals.inj t t']
section
variable {X : Cx} {pins : List (Addr × Obj)} {σ : St} {H : Hp} {s : Shared} {a : Addr} {xs ys : List V}
theorem SqL.of {K : PySem.W.Frag} (h : H a = some (.lst xs)) : SqL K H a xs := .inl (.inl h)
theorem SqT.of {K : PySem.W.Frag} (h : H a = some (.tup xs)) : SqT K H a xs := .inl (.inl h)
theorem Inv.list (I : Inv X pins σ H s) (h : SqL X.K H a xs) : ∃ its : List Value, Vals xs its ∧ PlainL s.heap a its.toArray ∧ xs.length ≤ sizeLine := by
  rcases h with h | ⟨o, its, n, hk, hc, hd, hs, hz, r⟩
  · obtain ⟨z, its, n, r, e⟩ := h.ok I.hok
    exact ⟨its, r, ⟨_, n, e, rfl, rfl, rfl⟩, z⟩
  · refine ⟨its.toList, r, ⟨o, n, I.kIn a o hk, hc, hd, by simpa using hs⟩, ?_⟩
    have e := r.length
    simp only [Array.length_toList] at e
    omega
theorem Inv.tuple (I : Inv X pins σ H s) (h : SqT X.K H a xs) : ∃ its : List Value, Vals xs its ∧ IsTup s.heap a its.toArray ∧ xs.length ≤ sizeLine := by
  rcases h with h | ⟨o, its, n, hk, hc, hs, hz, r⟩
  · obtain ⟨z, its, r, p⟩ := h.ok I.hok
    exact ⟨its, r, p, z⟩
  · refine ⟨its.toList, r, ⟨o, I.kIn a o hk, hc, n, by simpa using hs⟩, ?_⟩
    have e := r.length
    simp only [Array.length_toList] at e
    omega
theorem Inv.list_inj (I : Inv X pins σ H s) (h : SqL X.K H a xs) (h' : SqL X.K H a ys) : xs = ys := by
  obtain ⟨its, r, ⟨o, n, e, _, _, d⟩, _⟩ := I.list h
  obtain ⟨its', r', ⟨o', n', e', _, _, d'⟩, _⟩ := I.list h'
  rw [e] at e'; cases e'
  rw [d] at d'
  injection d' with d1 _
  have : its = its' := by simpa using congrArg Array.toList d1
  subst this
  exact r.inj r'
end
abbrev Cx.wish (X : Cx) (E : Value → Shared → Prop) : Cx := { X with xe := E }
abbrev Cx.nox (X : Cx) : Cx := X.wish fun _ _ => False
theorem Cx.Ok.wish {X : Cx} (ok : X.Ok) (E : Value → Shared → Prop) : (X.wish E).Ok :=
  ⟨ok.mod, ok.kind, ok.glob, ok.blt, ok.above, ok.inj, ok.has, ok.cab, ok.hd, ok.frames, ok.stk, ok.exf, ok.bs, ok.bsz, ok.noex, ok.exfs, ok.funs, ok.frf⟩
theorem Cx.Ok.unwish {X : Cx} {E : Value → Shared → Prop} (ok : (X.wish E).Ok) : X.Ok :=
  ⟨ok.mod, ok.kind, ok.glob, ok.blt, ok.above, ok.inj, ok.has, ok.cab, ok.hd, ok.frames, ok.stk, ok.exf, ok.bs, ok.bsz, ok.noex, ok.exfs, ok.funs, ok.frf⟩
section
variable {X : Cx} {pins : List (Addr × Obj)} {σ : St} {H : Hp} {s : Shared} {E : Value → Shared → Prop}
theorem Inv.wish (I : Inv X pins σ H s) (E : Value → Shared → Prop) : Inv (X.wish E) pins σ H s := ⟨I.ok.wish E, I.os, I.bare, I.base, I.loc, I.cell, I.free, I.freeC, I.pin, I.hok, I.len⟩
theorem Inv.unwish (I : Inv (X.wish E) pins σ H s) : Inv X pins σ H s := ⟨I.ok.unwish, I.os, I.bare, I.base, I.loc, I.cell, I.free, I.freeC, I.pin, I.hok, I.len⟩
theorem SP.unwish {D : Ends} {f : Flow} {s' : Shared} (h : SP (X.wish E) pins D f s') : SP X pins D f s' := by
  cases f with
  | next => obtain ⟨σ', H', I, q⟩ := h; exact ⟨σ', H', I.unwish, q⟩
  | brk => obtain ⟨σ', H', I, q⟩ := h; exact ⟨σ', H', I.unwish, q⟩
  | cont => obtain ⟨σ', H', I, q⟩ := h; exact ⟨σ', H', I.unwish, q⟩
  | ret u => obtain ⟨v, σ', H', I, r, q⟩ := h; exact ⟨v, σ', H', I.unwish, r, q⟩
theorem PSs.nox {st : List Stmt} {t : TS} (h : PSs X.nox st t) : PSs X st t := fun pins s σ H D I hw =>
  wpAny_mono (h pins s σ H D (I.wish _) hw) (fun _ _ q => q.unwish) fun _ _ z => False.elim z
end
section
variable {X : Cx} {st : Stmt} {rest : List Stmt} {t u : TS} {e : Expr} {te : TE} {pos : Pos}
def tNext : TS := fun D σ H => D.nx σ H
def tSeq (t u : TS) : TS := fun D σ H => t { D with nx := u D } σ H
theorem pss_nil : PSs X [] tNext := fun _ _ σ H _ I h => wpAny_execs_nil ⟨σ, H, I, h⟩
theorem pss_cons (h1 : PS X st t) (h2 : PSs X rest u) : PSs X (st :: rest) (tSeq t u) := by
  intro pins s σ H D I h
  refine wpAny_execs_cons (thn (h1 pins s σ H { D with nx := u D } I h) fun f s1 q => ?_)
  cases f with
  | next =>
    obtain ⟨σ', H', I', q⟩ := q
    exact h2 pins s1 σ' H' D I' q
  | ret v => exact q
  | brk => exact q
  | cont => exact q
theorem pss_one (h1 : PS X st t) : PSs X [st] t := by
  intro pins s σ H D I h
  refine wpAny_execs_cons (thn (h1 pins s σ H D I h) fun f s1 q => ?_)
  cases f with
  | next => exact wpAny_execs_nil q
  | ret v => exact q
  | brk => exact q
  | cont => exact q
theorem Inv.quiet {pins : List (Addr × Obj)} {σ : St} {H : Hp} {s : Shared} (I : Inv X pins σ H s) : interactive X.env = false := by simp [interactive, I.ok.kind]
def tDrop (te : TE) : TS := fun D σ H => te σ H fun _ H1 => D.nx σ H1
theorem ps_expr (he : PE X e te) (hs : swapsWith e none pos.line X.env = pure false := by rfl) : PS X (.Expr e pos) (tDrop te) := by
  intro pins s σ H D I h
  exact wpAny_Expr_any (thn (he pins s σ H _ I h) fun v s1 ⟨x, H1, I1, r1, q1⟩ => ⟨σ, H1, I1, q1⟩) I.quiet hs
def tRet (te : TE) : TS := fun D σ H => te σ H D.rt
theorem ps_ret (he : PE X e te) : PS X (.Return (some e) pos) (tRet te) := by
  intro pins s σ H D I h
  exact wpAny_Return_some (thn (he pins s σ H _ I h) fun v s1 ⟨x, H1, I1, r1, q1⟩ => ⟨x, σ, H1, I1, r1, q1⟩)
def tIfS (c : TT) (t u : TS) : TS := fun D σ H => c σ H fun b H1 => if b = true then t D σ H1 else u D σ H1
theorem ps_if {c : Expr} {a b : List Stmt} {tc : TT} (hc : PT X c tc) (ha : PSs X a t) (hb : PSs X b u) : PS X (.If c a b pos) (tIfS tc t u) := by
  intro pins s σ H D I h
  refine wpAny_If (thn (hc pins s σ H _ I h) fun d s1 ⟨H1, I1, q1⟩ => ?_)
  cases d with
  | true => exact ha pins s1 σ H1 D I1 q1
  | false => exact hb pins s1 σ H1 D I1 q1
end
abbrev TG := V → St → Hp → (St → Hp → Prop) → Prop
abbrev TGs := List V → St → Hp → (St → Hp → Prop) → Prop
def PG (X : Cx) (target : Expr) (t : TG) : Prop :=
  ∀ (pins : List (Addr × Obj)) (s : Shared) (σ : St) (H : Hp) (v : V) (u : Value) (Q : St → Hp → Prop), Inv X pins σ H s → RelV v u → t v σ H Q →
    wpAny (model X.prog X.w) X.A (assign target X.env u) (fun _ s' => ∃ σ' H', Inv X pins σ' H' s' ∧ Q σ' H') X.xe s
def PGs (X : Cx) (ts : List Expr) (t : TGs) : Prop :=
  ∀ (pins : List (Addr × Obj)) (s : Shared) (σ : St) (H : Hp) (vs : List V) (us : List Value) (Q : St → Hp → Prop), Inv X pins σ H s → Vals vs us → t vs σ H Q →
    wpAny (model X.prog X.w) X.A (assignInOrder ((assignEach ts X.env).map (·.2)) us) (fun _ s' => ∃ σ' H', Inv X pins σ' H' s' ∧ Q σ' H') X.xe s
abbrev TSet := V → V → V → Hp → (Hp → Prop) → Prop
def PSet (X : Cx) (t : TSet) : Prop :=
  ∀ (pins : List (Addr × Obj)) (s : Shared) (σ : St) (H : Hp) (o i v : V) (ov iv u : Value) (Q : Hp → Prop), Inv X pins σ H s → RelV o ov → RelV i iv → RelV v u → t o i v H Q →
    wpAny (model X.prog X.w) X.A (setItem ov iv u) (fun _ s' => ∃ H', Inv X pins σ H' s' ∧ Q H') X.xe s
abbrev TIp := V → V → Hp → VK → Prop
def PIp (X : Cx) (op : Operator) (t : TIp) : Prop :=
  ∀ (pins : List (Addr × Obj)) (s : Shared) (σ : St) (H : Hp) (x y : V) (v u : Value) (Q : VK), Inv X pins σ H s → RelV x v → RelV y u → t x y H Q →
    wpAny (model X.prog X.w) X.A (inplaceOp op v u) (EP X pins σ Q) X.xe s
section
variable {X : Cx} {pos : Pos}
def gName (i : Nat) : TG := fun v σ H Q => Q (σ.set i (some v)) H
theorem pg_name {i : Nat} {x : Str} (hN : X.N.Nodup) (hi : X.N[i]? = some x) (hx : Loc X.env.scope x) (hf : X.fn x = true ∨ X.env.scope.names.lookup x = some .local := by first | exact .inl rfl | exact .inr rfl | assumption) : PG X (.Name x pos) (gName i) := by
  intro pins s σ H v u Q I r h
  exact wpAny_assign_Name (store_ok I hN hi hx r (fun s' I' => ⟨_, H, I', h⟩) hf)
def gNil : TGs := fun vs σ H Q => vs = [] ∧ Q σ H
def gCons (t : TG) (u : TGs) : TGs := fun vs σ H Q => ∃ v r, vs = v :: r ∧ t v σ H fun σ' H' => u r σ' H' Q
theorem pgs_nil : PGs X [] gNil := by
  intro pins s σ H vs us Q I r h
  obtain ⟨e, h⟩ := h
  subst e
  cases r
  exact assignInOrder_nil ⟨σ, H, I, h⟩
theorem pgs_cons {e : Expr} {es : List Expr} {t : TG} {u : TGs} (h1 : PG X e t) (h2 : PGs X es u)
    (hs : (assignEach (e :: es) X.env).map (·.2) = assign e X.env :: (assignEach es X.env).map (·.2) := by rfl) : PGs X (e :: es) (gCons t u) := by
  intro pins s σ H vs us Q I r h
  obtain ⟨v, vr, e1, h⟩ := h
  subst e1
  cases r with
  | cons r rr =>
    rw [hs]
    refine assignInOrder_cons (thn (h1 pins s σ H _ _ _ I r h) fun _ s1 ⟨σ1, H1, I1, q1⟩ => ?_)
    exact h2 pins s1 σ1 H1 _ _ Q I1 rr q1
def gTup (K : PySem.W.Frag) (n : Nat) (t : TGs) : TG := fun v σ H Q => ∃ a xs, v = .ref a ∧ SqT K H a xs ∧ xs.length = n ∧ t xs σ H Q
theorem pg_tup {es : List Expr} {k : Nat} {t : TGs} {n : Nat} (hc : X.calm = true) (h : PGs X es t)
    (hn : (assignEach es X.env).length = n := by rfl) (hst : (assignEach es X.env).findIdx? (·.1) = none := by rfl) : PG X (.Tuple es k pos) (gTup X.K n t) := by
  intro pins s σ H v u Q I r hw
  obtain ⟨a, xs, e1, hq, hl, hw⟩ := hw
  subst e1
  cases r
  obtain ⟨its, rv, ht, hz⟩ := I.tuple hq
  refine assign_Tuple_tuple (I.ok.hd hc) ht (by simp [hn, ← hl, rv.length]) hst fun h' hx => ?_
  have I1 : Inv X pins σ H { s with heap := h' } := I.kept (t' := s.toks) fun b o e => hx b o (Nat.ne_of_lt (Heap.lt_size e)) e
  exact h pins _ σ H xs _ Q I1 (by simpa using rv) hw
def gSub (to ti : TE) (t : TSet) : TG := fun v σ H Q => to σ H fun o H1 => ti σ H1 fun i H2 => t o i v H2 fun H3 => Q σ H3
theorem pg_sub {o i : Expr} {to ti : TE} {t : TSet} (ho : PE X o to) (hi : PE X i ti) (hs : PSet X t)
    (ha : ∀ v, assign (.Subscript o i pos) X.env v = (do
      let ov ← holding [v] (eval o X.env)
      let iv ← holding [v, ov] (eval i X.env)
      standAt pos
      holding [v, ov, iv] (setItem ov iv v)
      release [v, ov, iv] []) := by intro _; rfl) : PG X (.Subscript o i pos) (gSub to ti t) := by
  intro pins s σ H v u Q I r h
  rw [ha]
  refine wpAny_bind (wpAny_holding (thn (ho pins s σ H _ I h) fun ov s1 ⟨x, H1, I1, r1, q1⟩ => ?_))
  refine wpAny_bind (wpAny_holding (thn (hi pins s1 σ H1 _ I1 q1) fun iv s2 ⟨y, H2, I2, r2, q2⟩ => ?_))
  refine wpAny_bind (wpAny_standAt (wpAny_bind (wpAny_holding (thn (hs pins s2 σ H2 x y v ov iv u _ I2 r1 r2 r q2) fun _ s3 ⟨H3, I3, q3⟩ => ?_))))
  exact wpAny_release ⟨σ, H3, I3, q3⟩
def tAsg (te : TE) (g : TG) : TS := fun D σ H => te σ H fun x H1 => g x σ H1 D.nx
theorem ps_asg {tg e : Expr} {te : TE} {g : TG} (he : PE X e te) (hg : PG X tg g) (hs : swapsWithSole [tg] e pos.line X.env = pure false := by rfl) (hw : swappedStores [tg] e X.env = pure none := by rfl)
    (h1 : (assignEach [tg] X.env).map (·.2) = [assign tg X.env] := by rfl) : PS X (.Assign [tg] e pos) (tAsg te g) := by
  intro pins s σ H D I h
  refine wpAny_Assign_stores (thn (he pins s σ H _ I h) fun v s1 ⟨x, H1, I1, r1, q1⟩ => ?_) hs hw
  rw [h1]
  exact thn (hg pins s1 σ H1 x v _ I1 r1 q1) fun _ s2 q => q
theorem ps_set {i : Nat} {x : Str} {e : Expr} {te : TE} {pos' : Pos} (hN : X.N.Nodup) (hi : X.N[i]? = some x) (hx : Loc X.env.scope x) (he : PE X e te) (hs : swapsWith e (some (.Name x pos')) pos.line X.env = pure false := by rfl) (hf : X.fn x = true ∨ X.env.scope.names.lookup x = some .local := by first | exact .inl rfl | exact .inr rfl | assumption) :
    PS X (.Assign [.Name x pos'] e pos) (tAsg te (gName i)) := by
  intro pins s σ H D I h
  refine wpAny_Assign_Name (thn (he pins s σ H _ I h) fun v s1 ⟨y, H1, I1, r1, q1⟩ => ?_) hs
  exact store_ok I1 hN hi hx r1 (fun s2 I2 => ⟨_, H1, I2, q1⟩) hf
def tAug (i : Nat) (te : TE) (ti : TIp) : TS := fun D σ H => ∃ x, σ[i]? = some (some x) ∧ te σ H fun y H1 => ti x y H1 fun z H2 => D.nx (σ.set i (some z)) H2
theorem ps_aug {i : Nat} {x : Str} {e : Expr} {te : TE} {op : Operator} {ti : TIp} {pos' : Pos} (hN : X.N.Nodup) (hi : X.N[i]? = some x) (hx : Loc X.env.scope x) (he : PE X e te) (ho : PIp X op ti) (hf : X.fn x = true ∨ X.env.scope.names.lookup x = some .local := by first | exact .inl rfl | exact .inr rfl | assumption) :
    PS X (.AugAssign (.Name x pos') op e pos) (tAug i te ti) := by
  intro pins s σ H D I h
  obtain ⟨v, e1, h⟩ := h
  obtain ⟨m, hn, hl⟩ := I.loc
  have vis : Vis X.env.scope x := by rcases hx with k | k; exact .inl k; exact .inr (.inl k)
  obtain ⟨u, r, l⟩ := hl i x v hi e1 vis
  refine wpAny_AugAssign_Name ?_
  have go : wpAny (model X.prog X.w) X.A (eval e X.env) (fun w s₂ => wpAny (model X.prog X.w) X.A (inplaceOp op u w) (fun r s₃ => wpAny (model X.prog X.w) X.A (storeName X.env x r) (fun _ => SP X pins D .next) X.xe s₃) X.xe s₂) X.xe s := by
    refine thn (he pins s σ H _ I h) fun w s1 ⟨y, H1, I1, r1, q1⟩ => ?_
    refine thn (ho pins s1 σ H1 v y u w _ I1 r r1 q1) fun z s2 ⟨zv, H2, I2, r2, q2⟩ => ?_
    exact store_ok I2 hN hi hx r2 (fun s3 I3 => ⟨_, H2, I3, q2⟩) hf
  rcases l with ⟨hk, hm⟩ | ⟨hk, c, hc, hcell⟩
  · exact wpAny_loadName_local I.ok.kind hk hn hm go
  · rcases hk with hk | hk
    · exact wpAny_loadName_cell I.ok.kind hk hc hcell go
    · rcases hx with k | k
      · have : X.env.scope.names.lookup x = some .free := hk
        rw [k] at this; cases this
      · have : X.env.scope.names.lookup x = some .free := hk
        rw [k] at this; cases this
def ipI (f : Int → Int → Int) : TIp := fun x y H Q => ∃ i j, x = .int i ∧ y = .int j ∧ Q (.int (f i j)) H
theorem ip_add : PIp X .Add (ipI fun i j => i + j) := by
  intro pins s σ H x y v u Q I r1 r2 h
  obtain ⟨i, j, e1, e2, q⟩ := h
  subst e1; subst e2
  obtain ⟨t, rfl⟩ := r1
  obtain ⟨t', rfl⟩ := r2
  exact iadd_int ⟨.int _, H, I.tok _, ⟨_, rfl⟩, q⟩
end
section
variable {X : Cx} {pos : Pos}
def tWhile (c : TT) (tb : TS) : TS := fun D σ H => ∃ W : Nat → St → Hp → Prop, (∃ m, W m σ H) ∧ ∀ m σ H, W m σ H →
  c σ H fun b H1 => if b = true then ∃ N : St → Hp → Prop, (∀ σ' H', N σ' H' → ∃ m', m' < m ∧ W m' σ' H') ∧ tb { D with nx := N, ct := N, bk := D.nx } σ H1 else D.nx σ H1
theorem ps_while {c : Expr} {body : List Stmt} {tc : TT} {tb : TS} (hp : PassesOwn (model X.prog X.w) X.A X.env X.xe) (hc : PT X c tc) (hb : PSs X body tb) : PS X (.While c body [] pos) (tWhile tc tb) := by
  intro pins s σ H D I h
  obtain ⟨W, ⟨m0, w0⟩, turn⟩ := h
  refine wpAny_While (codeAny_whileLoop (fun n s' => ∃ σ' H', Inv X pins σ' H' s' ∧ W n σ' H') ?_ m0 ⟨σ, H, I, w0⟩)
  rintro n s1 ⟨σ1, H1, I1, w1⟩
  refine wpAny_passesOwn hp (thn (hc pins s1 σ1 H1 _ I1 (turn n σ1 H1 w1)) fun b s2 ⟨H2, I2, q2⟩ => ?_)
  cases b with
  | true =>
    obtain ⟨N, hN, q2⟩ := q2
    rw [if_pos rfl]
    refine wpAny_passesOwn hp (thn (hb pins s2 σ1 H2 _ I2 q2) fun f s3 q3 => ?_)
    cases f with
    | next =>
      obtain ⟨σ3, H3, I3, n3⟩ := q3
      obtain ⟨m', hm, w3⟩ := hN σ3 H3 n3
      exact ⟨m', hm, σ3, H3, I3, w3⟩
    | cont =>
      obtain ⟨σ3, H3, I3, n3⟩ := q3
      obtain ⟨m', hm, w3⟩ := hN σ3 H3 n3
      exact ⟨m', hm, σ3, H3, I3, w3⟩
    | brk => exact q3
    | ret v => exact q3
  | false =>
    rw [if_neg Bool.false_ne_true]
    exact wpAny_execs_nil ⟨σ1, H2, I2, q2⟩
end
structure It where
  go : Nat → Hp → Prop
  yld : Nat → Hp → V → Hp → Prop
  stop : Nat → Hp → Prop
def FpOk (X : Cx) (pins : List (Addr × Obj)) (H : Hp) (b : Addr) : Prop :=
  H b = none ∧ b ≠ X.env.locals ∧ b ∉ X.fs ∧ (b ∈ X.ex ∨ X.s₀.heap.objs.size ≤ b) ∧ (∀ x c, X.env.cells.lookup x = some c → c ≠ b) ∧ ∀ p ∈ X.pn ++ pins, p.1 ≠ b
theorem Inv.fpOk {X : Cx} {pins : List (Addr × Obj)} {σ : St} {H H' : Hp} {s : Shared} {b : Addr} (I : Inv X pins σ H s) (hb : s.heap.objs.size ≤ b) (hn : H' b = none) : FpOk X pins H' b := by
  refine ⟨hn, Nat.ne_of_gt (Nat.lt_of_lt_of_le I.lt hb), I.nofs hb, .inr (Nat.le_trans I.sz hb), fun x c e z => ?_, fun p hp z => ?_⟩
  · obtain ⟨v, q⟩ := I.cell x c e
    exact absurd (Nat.lt_of_lt_of_le q.lt (by rw [z]; exact hb)) (Nat.lt_irrefl _)
  · exact absurd (Nat.lt_of_lt_of_le (Heap.lt_size (I.pin p hp).1) (by rw [z]; exact hb)) (Nat.lt_irrefl _)
structure Turn (P : Program) (w : World) (K : PySem.W.Frag) (tg : Expr) (J : It) (fp : List Addr) (it : Addr) (tn : Nat → Heap → Prop) : Prop where
  mem : it ∈ fp
  obj : ∀ i h, tn i h → ∀ b ∈ fp, ∃ o, h.get? b = some o ∧ ∀ v, o.data ≠ .cell v
  keep : ∀ i h h', tn i h → (∀ b ∈ fp, ∀ o, h.get? b = some o → h'.get? b = some o) → tn i h'
  item : ∀ (X : Cx), X.prog = P → X.w = w → X.K = K → X.calm = true → ∀ (i : Nat) (pins : List (Addr × Obj)) (s : Shared) (σ : St) (H : Hp) (E : Value → Shared → Prop), Inv X pins σ H s → (∀ b ∈ fp, FpOk X pins H b) → tn i s.heap → J.go i H →
    wpAny (model P w) X.A (pyNext (.ref it)) (fun r s1 => ∃ u, r = some u ∧
      wpAny (model P w) X.A (letOwnedTupleGo tg (.ref it) u) (fun _ s2 => ∃ x H', Inv X pins σ H' s2 ∧ RelV x u ∧ J.yld i H x H' ∧ tn (i + 1) s2.heap ∧ ∀ b ∈ fp, H' b = none) E s1) E s
  done : ∀ (X : Cx), X.prog = P → X.w = w → X.K = K → X.calm = true → ∀ (i : Nat) (pins : List (Addr × Obj)) (s : Shared) (σ : St) (H : Hp) (E : Value → Shared → Prop), Inv X pins σ H s → (∀ b ∈ fp, FpOk X pins H b) → tn i s.heap → J.stop i H →
    wpAny (model P w) X.A (pyNext (.ref it)) (fun r s1 => r = none ∧ Inv X pins σ H s1) E s
  self : ∀ (A : Around) (i : Nat) (s : Shared) (Q : Value → Shared → Prop) (E : Value → Shared → Prop), tn i s.heap → Q (.ref it) s → wpAny (model P w) A (pyIter (.ref it)) Q E s
abbrev TI := St → Hp → (It → Hp → Prop) → Prop
def PIE (X : Cx) (pins : List (Addr × Obj)) (σ : St) (tg : Expr) (R : It → Hp → Prop) (itv : Value) (s2 : Shared) : Prop :=
  ∃ (it : Addr) (fp : List Addr) (tn : Nat → Heap → Prop) (J : It) (H' : Hp), itv = .ref it ∧ Inv X pins σ H' s2 ∧ Turn X.prog X.w X.K tg J fp it tn ∧ tn 0 s2.heap ∧ (∀ b ∈ fp, FpOk X pins H' b) ∧ R J H'
def PI (X : Cx) (tg iter : Expr) (wi : TI) : Prop :=
  ∀ (pins : List (Addr × Obj)) (s : Shared) (σ : St) (H : Hp) (R : It → Hp → Prop), Inv X pins σ H s → wi σ H R →
    wpAny (model X.prog X.w) X.A (eval iter X.env) (fun v s1 => wpAny (model X.prog X.w) X.A (pyIter v) (PIE X pins σ tg R) X.xe s1) X.xe s
theorem go_of {M : Model} {A : Around} {E : Value → Shared → Prop} {s : Shared} {tg : Expr} {it : Addr} {u : Value} {o : Obj} {n : String} {vs : Array Value} {Q : Unit → Shared → Prop} (ho : s.heap.get? it = some o) (hc : o.cls = .type n) (hd : o.data = .fields vs)
    (hn : ["enumerate", "zip", "dict_itemiterator", "dict_reverseitemiterator", "odict_iterator", "itertools.zip_longest", "itertools.pairwise"].contains n = false) (hQ : Q () s) : wpAny M A (letOwnedTupleGo tg (.ref it) u) Q E s := by
  unfold letOwnedTupleGo
  cases tg <;> first
    | exact wpAny_pure hQ
    | (cases u <;> first
        | exact wpAny_pure hQ
        | (refine wpAny_bind (wpAny_load ho ?_)
           rw [hc, hd]
           show wpAny M A (if (["enumerate", "zip", "dict_itemiterator", "dict_reverseitemiterator", "odict_iterator", "itertools.zip_longest", "itertools.pairwise"].contains n && vs[0]? == some (rawInt _)) = true then _ else _) Q E s
           rw [if_neg (by intro h; rw [hn, Bool.false_and] at h; cases h)]
           exact wpAny_pure hQ))
def Itl (K : PySem.W.Frag) (a : Addr) : It :=
  ⟨fun i H => ∃ xs x, SqL K H a xs ∧ xs[i]? = some x, fun i H x H' => H' = H ∧ ∀ xs, SqL K H a xs → xs[i]? = some x, fun i H => ∃ xs, SqL K H a xs ∧ xs.length ≤ i⟩
def Itr (lo : Int) (n : Nat) : It := ⟨fun i _ => i < n, fun i H x H' => H' = H ∧ x = .int (lo + i), fun i _ => n ≤ i⟩
theorem turn_list {P : Program} {w : World} {K : PySem.W.Frag} {tg : Expr} (a it : Addr) : Turn P w K tg (Itl K a) [it] it (fun i h => h.IsListIter it a i) where
  mem := by simp
  obj := fun i h st b hb => by
    have e : b = it := by simpa using hb
    subst e
    obtain ⟨o, e, c, d⟩ := st
    exact ⟨o, e, fun v z => by rw [d] at z; cases z⟩
  keep := fun i h h' st k => st.at fun o e => k it (by simp) o e
  item := by
    intro X hP hw hK hc i pins s σ H E I hf st hg
    subst hP hw hK
    obtain ⟨xs, x, hq, hx⟩ := hg
    obtain ⟨its, rv, p, hz⟩ := I.list hq
    obtain ⟨u, hu, ru⟩ := rv.get hx
    obtain ⟨f0, f1, f2, f3, f4, f5⟩ := hf it (by simp)
    refine wpAny_pyNext_list_item st p.isList (x := u) (by simpa using hu) fun h' st' sb => ?_
    have I1 : Inv X pins σ H { s with heap := h' } := I.turned (t' := s.toks) (fun b o hb e => (sb.2 b hb).trans e) f0 f1 f3 f4 f5
    obtain ⟨o, e, c, d⟩ := id st'
    exact ⟨u, rfl, go_of (s := { s with heap := h' }) e c d (by decide) ⟨x, H, I1, ru, ⟨rfl, fun ys hy => by rw [I.list_inj hy hq]; exact hx⟩, st', fun b hb => (hf b hb).1⟩⟩
  done := by
    intro X hP hw hK hc i pins s σ H E I hf st hg
    subst hP hw hK
    obtain ⟨xs, hq, hx⟩ := hg
    obtain ⟨its, rv, p, hz⟩ := I.list hq
    obtain ⟨f0, f1, f2, f3, f4, f5⟩ := hf it (by simp)
    have hl := rv.length
    exact wpAny_pyNext_list_end (I.ok.hd hc) st p.isList (by simp; omega) fun h' eb => ⟨rfl, I.turned (t' := s.toks) (fun b o hb e => eb b o hb e) f0 f1 f3 f4 f5⟩
  self := fun _ _ _ _ _ st h => wpAny_pyIter_listiter st h
theorem turn_range {P : Program} {w : World} {K : PySem.W.Frag} {tg : Expr} (it : Addr) (lo : Int) (n : Nat) : Turn P w K tg (Itr lo n) [it] it (fun i h => IsRangeIter h it (lo + (i : Nat) * 1) ((n : Int) - (i : Nat)) 1) where
  mem := by simp
  obj := fun i h st b hb => by
    have e : b = it := by simpa using hb
    subst e
    exact ⟨_, st, fun v z => by
      have z' : Data.fields _ = Data.cell v := z
      cases z'⟩
  keep := fun i h h' st k => k it (by simp) _ st
  item := by
    intro X hP hw hK hc i pins s σ H E I hf st hg
    subst hP hw hK
    obtain ⟨f0, f1, f2, f3, f4, f5⟩ := hf it (by simp)
    have W := Walks.range (prog := X.prog) (w := X.w) (I.ok.hd hc) it lo 1 n
    refine W.item i s _ _ hg st fun v h' tk hv st' kk => ?_
    obtain ⟨t, rfl⟩ := hv
    have I1 : Inv X pins σ H { s with heap := h', toks := tk } := I.turned (fun b o hb e => kk b o (by simpa using hb) e) f0 f1 f3 f4 f5
    refine ⟨_, rfl, go_of (s := { s with heap := h', toks := tk }) (n := "range_iterator") st' rfl rfl (by decide) ⟨.int (lo + i), H, I1, ⟨t, ?_⟩, ⟨rfl, rfl⟩, st', fun b hb => (hf b hb).1⟩⟩
    rw [Int.mul_one]
  done := by
    intro X hP hw hK hc i pins s σ H E I hf st hg
    subst hP hw hK
    obtain ⟨f0, f1, f2, f3, f4, f5⟩ := hf it (by simp)
    exact wpAny_pyNext_range_end (I.ok.hd hc) st (by have : n ≤ i := hg; omega) fun h' eb => ⟨rfl, I.turned (t' := s.toks) (fun b o hb e => eb b o hb e) f0 f1 f3 f4 f5⟩
  self := fun _ _ _ _ _ st h => wpAny_pyIter_rangeiter st h
end L2
namespace L2
open PySem PySem.Spec PyProof.Rows
section
variable {X : Cx} {tg : Expr}
def iList (K : PySem.W.Frag) (tl : TE) : TI := fun σ H R => tl σ H fun x H1 => ∃ a, x = .ref a ∧ (∃ xs, SqL K H1 a xs) ∧ R (Itl K a) H1
theorem pi_list {l : Expr} {tl : TE} (hl : PE X l tl) : PI X tg l (iList X.K tl) := by
  intro pins s σ H R I h
  refine thn (hl pins s σ H _ I h) fun v s1 ⟨x, H1, I1, r1, q1⟩ => ?_
  obtain ⟨a, e, ⟨xs, hq⟩, q⟩ := q1
  subst e
  cases r1
  obtain ⟨its, rv, p, hz⟩ := I1.list hq
  refine wpAny_pyIter_list p.isList ?_
  refine ⟨s1.heap.objs.size, [s1.heap.objs.size], _, _, H1, rfl, I1.kept (t' := s1.toks) fun b o e => Heap.get?_push_of_some _ e, turn_list a _, ⟨_, Heap.get?_push_size _ rfl, rfl, rfl⟩, fun b hb => ?_, q⟩
  have e : b = s1.heap.objs.size := by simpa using hb
  subst e
  exact I1.fpOk (Nat.le_refl _) (I1.hok.fresh (Nat.le_refl _))
theorem range_it {pins : List (Addr × Obj)} {σ : St} {H : Hp} {s : Shared} {R : It → Hp → Prop} {E : Value → Shared → Prop} {lo hi : Int} {t u v : Tok} {tk : Nat} (I : Inv X pins σ H s) (h1 : -(2 ^ 62) ≤ lo) (h2 : lo < 2 ^ 62) (h3 : -(2 ^ 62) ≤ hi) (h4 : hi < 2 ^ 62)
    (q : R (Itr lo (hi - lo).toNat) H) : wpAny (model X.prog X.w) X.A (pyIter (.ref s.heap.objs.size)) (PIE X pins σ tg R) E { s with heap := s.heap.push { cls := .type "range", data := .fields #[.int lo t, .int hi u, .int 1 v] }, toks := tk } := by
  refine wpAny_pyIter_range (IsRange.new ..) (small_one h1 h2 h3 h4) ?_
  have I1 : Inv X pins σ H { s with heap := s.heap.push { cls := .type "range", data := .fields #[.int lo t, .int hi u, .int 1 v] }, toks := tk } := I.kept fun b o e => Heap.get?_push_of_some _ e
  refine ⟨(s.heap.push { cls := .type "range", data := .fields #[.int lo t, .int hi u, .int 1 v] }).objs.size, [(s.heap.push { cls := .type "range", data := .fields #[.int lo t, .int hi u, .int 1 v] }).objs.size], _, _, H, rfl,
    I1.kept (t' := tk) fun b o e => Heap.get?_push_of_some _ e, turn_range _ lo (hi - lo).toNat, ?_, fun b hb => ?_, q⟩
  · have e1 : lo + ((0 : Nat) : Int) * 1 = lo := by simp
    have e2 : (((hi - lo).toNat : Nat) : Int) - ((0 : Nat) : Int) = Builtin.Range.rangeSize lo hi 1 := by rw [rangeSize_one]; split <;> omega
    show IsRangeIter _ _ (lo + ((0 : Nat) : Int) * 1) ((((hi - lo).toNat : Nat) : Int) - ((0 : Nat) : Int)) 1
    rw [e1, e2]
    exact Heap.get?_push_size _ rfl
  · have e : b = (s.heap.push { cls := .type "range", data := .fields #[.int lo t, .int hi u, .int 1 v] }).objs.size := by simpa using hb
    subst e
    exact I1.fpOk (Nat.le_refl _) (I1.hok.fresh (Nat.le_refl _))
def iRng1 (ta : TA) : TI := fun σ H R => ta σ H fun vs H1 => ∃ j : Int, vs = [.int j] ∧ -(2 ^ 62) ≤ j ∧ j < 2 ^ 62 ∧ R (Itr 0 j.toNat) H1
theorem pi_range1 {a : Expr} {ta : TA} {p pos : Pos} (hg : Gl X "range") (hm : X.mg "range" = none) (ha : PA X [a] ta) (hs : starEach [a] X.env = [(false, eval a X.env)] := by rfl) : PI X tg (.Call (.Name "range" p) [a] [] pos) (iRng1 ta) := by
  intro pins s σ H R I h
  refine Call_ (ld_blt I hg hm boot_range (PyProof.Rows.callWith_type1 (thn (ha pos pins s σ H _ I h) fun us s1 ⟨vs, H1, I1, r1, q1⟩ => ?_) hs rfl))
  obtain ⟨j, e, q1, q2, q⟩ := q1
  subst e
  cases r1 with
  | cons r rr =>
    cases rr
    obtain ⟨t, rfl⟩ := r
    exact call_range_1 (range_it I1 (by omega) (by omega) q1 q2 (by simpa using q))
def tFor (wi : TI) (g : TG) (tb : TS) : TS := fun D σ H => wi σ H fun J H1 => ∃ W : Nat → Nat → St → Hp → Prop, (∃ m, W 0 m σ H1) ∧ ∀ i m σ H, W i m σ H →
  (J.stop i H ∧ D.nx σ H) ∨ (J.go i H ∧ ∃ N : St → Hp → Prop, (∀ σ' H', N σ' H' → ∃ m', m' < m ∧ W (i + 1) m' σ' H') ∧ ∀ x H', J.yld i H x H' → g x σ H' fun σ2 H2 => tb { D with nx := N, ct := N, bk := D.nx } σ2 H2)
def pinsAt (fp : List Addr) (h : Heap) : List (Addr × Obj) := fp.filterMap fun b => (h.get? b).map fun o => (b, o)
theorem mem_pinsAt {fp : List Addr} {h : Heap} {b : Addr} {o : Obj} (hb : b ∈ fp) (e : h.get? b = some o) : (b, o) ∈ pinsAt fp h := List.mem_filterMap.mpr ⟨b, hb, by rw [e]; rfl⟩
theorem of_pinsAt {fp : List Addr} {h : Heap} {p : Addr × Obj} (hp : p ∈ pinsAt fp h) : p.1 ∈ fp ∧ h.get? p.1 = some p.2 := by
  obtain ⟨b, hb, e⟩ := List.mem_filterMap.mp hp
  cases q : h.get? b with
  | none => rw [q] at e; cases e
  | some o =>
    rw [q] at e
    have e' : (b, o) = p := Option.some.inj e
    subst e'
    exact ⟨hb, q⟩
theorem Inv.pinned {pins : List (Addr × Obj)} {σ : St} {H : Hp} {s : Shared} {fp : List Addr} (I : Inv X pins σ H s) (hf : ∀ b ∈ fp, FpOk X pins H b) (ho : ∀ b ∈ fp, ∃ o, s.heap.get? b = some o ∧ ∀ v, o.data ≠ .cell v) : Inv X (pins ++ pinsAt fp s.heap) σ H s :=
  I.pins_of fun p hp => (List.mem_append.mp hp).elim (fun z => I.pin p (List.mem_append_right _ z)) fun z => by
    obtain ⟨hb, e⟩ := of_pinsAt z
    obtain ⟨f0, f1, f2, _⟩ := hf p.1 hb
    obtain ⟨o, e', d⟩ := ho p.1 hb
    rw [e] at e'; cases e'
    exact ⟨e, f0, f1, f2, d⟩
theorem Inv.unpinned {pins pl : List (Addr × Obj)} {σ : St} {H : Hp} {s : Shared} (I : Inv X (pins ++ pl) σ H s) : Inv X pins σ H s := I.pins_of fun p hp => I.pin p (List.mem_append_right _ (List.mem_append_left _ hp))
theorem ps_for {iter : Expr} {body : List Stmt} {wi : TI} {g : TG} {tb : TS} {pos : Pos} (hp : PassesOwn (model X.prog X.w) X.A X.env X.xe) (hc : X.calm = true) (hi : PI X tg iter wi) (hg : PG X tg g) (hb : PSs X body tb)
    (hs : ∀ x, foldedSetIterable iter X.env x = pure x := by intro _; rfl) : PS X (.For tg iter body [] pos) (tFor wi g tb) := by
  intro pins s σ H D I h
  refine wpAny_For (thn (hi pins s σ H _ I h) fun v s1 h1 => thn h1 fun itv s2 h2 => ?_) hs
  obtain ⟨it, fp, tn, J, H2, e, I2, T, st2, f2, W, ⟨m0, w0⟩, turn⟩ := h2
  subst e
  have stat : ∀ {H' : Hp}, (∀ b ∈ fp, H' b = none) → ∀ b ∈ fp, FpOk X pins H' b := fun hn b hb => ⟨hn b hb, (f2 b hb).2⟩
  refine codeAny_forLoop_any (fun n s' => ∃ i σ' H', Inv X pins σ' H' s' ∧ tn i s'.heap ∧ (∀ b ∈ fp, H' b = none) ∧ W i n σ' H') ?_ m0 ⟨0, σ, H2, I2, st2, fun b hb => (f2 b hb).1, w0⟩
  rintro n s3 ⟨i, σ3, H3, I3, st3, fr3, w3⟩
  rcases turn i n σ3 H3 w3 with ⟨stop, qn⟩ | ⟨go, N, hN, step⟩
  · refine wpAny_passesOwn hp (thn (T.done X rfl rfl rfl hc i pins s3 σ3 H3 X.xe I3 (stat fr3) st3 stop) fun r s4 ⟨hr, I4⟩ => ?_)
    subst hr
    exact wpAny_execs_nil ⟨σ3, H3, I4, qn⟩
  · refine wpAny_passesOwn hp (thn (T.item X rfl rfl rfl hc i pins s3 σ3 H3 X.xe I3 (stat fr3) st3 go) fun r s4 ⟨u, hr, h4⟩ => ?_)
    subst hr
    refine wpAny_passesOwn hp (thn h4 fun _ s5 ⟨x, H5, I5, r5, y5, st5, fr5⟩ => ?_)
    have I5' := I5.pinned (stat fr5) (T.obj _ _ st5)
    refine wpAny_passesOwn hp (thn (hg _ s5 σ3 H5 x u _ I5' r5 (step x H5 y5)) fun _ s6 ⟨σ6, H6, I6, q6⟩ => ?_)
    refine wpAny_passesOwn hp (thn (hb _ s6 σ6 H6 _ I6 q6) fun f s7 q7 => ?_)
    have again : ∀ {σ7 : St} {H7 : Hp}, Inv X (pins ++ pinsAt fp s5.heap) σ7 H7 s7 → N σ7 H7 → ∃ m, m < n ∧ ∃ i σ' H', Inv X pins σ' H' s7 ∧ tn i s7.heap ∧ (∀ b ∈ fp, H' b = none) ∧ W i m σ' H' := fun {σ7 H7} I7 n7 => by
      obtain ⟨m', hm, w7⟩ := hN σ7 H7 n7
      refine ⟨m', hm, i + 1, σ7, H7, I7.unpinned, T.keep _ _ _ st5 fun b hb o e => (I7.pin (b, o) (List.mem_append_right _ (List.mem_append_right _ (mem_pinsAt hb e)))).1, fun b hb => ?_, w7⟩
      obtain ⟨o, e, d⟩ := T.obj _ _ st5 b hb
      exact (I7.pin (b, o) (List.mem_append_right _ (List.mem_append_right _ (mem_pinsAt hb e)))).2.1
    cases f with
    | next => obtain ⟨σ7, H7, I7, n7⟩ := q7; exact again I7 n7
    | cont => obtain ⟨σ7, H7, I7, n7⟩ := q7; exact again I7 n7
    | brk => obtain ⟨σ7, H7, I7, q7⟩ := q7; exact ⟨σ7, H7, I7.unpinned, q7⟩
    | ret v => obtain ⟨x7, σ7, H7, I7, r7, q7⟩ := q7; exact ⟨x7, σ7, H7, I7.unpinned, r7, q7⟩
end
theorem for_list {K : PySem.W.Frag} {a : Addr} {xs : List V} {g : TG} {tb : TS} {D : Ends} {σ : St} {H : Hp} (Pv : Nat → St → Hp → Prop) (h0 : Pv 0 σ H) (hl : ∀ i σ H, i ≤ xs.length → Pv i σ H → SqL K H a xs)
    (hs : ∀ i x σ H, xs[i]? = some x → Pv i σ H → g x σ H fun σ2 H2 => tb { D with nx := Pv (i + 1), ct := Pv (i + 1), bk := D.nx } σ2 H2) (hd : ∀ σ H, Pv xs.length σ H → D.nx σ H) :
    ∃ W : Nat → Nat → St → Hp → Prop, (∃ m, W 0 m σ H) ∧ ∀ i m σ H, W i m σ H →
      ((Itl K a).stop i H ∧ D.nx σ H) ∨ ((Itl K a).go i H ∧ ∃ N : St → Hp → Prop, (∀ σ' H', N σ' H' → ∃ m', m' < m ∧ W (i + 1) m' σ' H') ∧ ∀ x H', (Itl K a).yld i H x H' → g x σ H' fun σ2 H2 => tb { D with nx := N, ct := N, bk := D.nx } σ2 H2) := by
  refine ⟨fun i m σ H => m = xs.length - i ∧ i ≤ xs.length ∧ Pv i σ H, ⟨xs.length, by simp, Nat.zero_le _, h0⟩, ?_⟩
  rintro i m σ H ⟨rfl, hi, p⟩
  have q := hl i σ H hi p
  by_cases hlt : i < xs.length
  · refine .inr ⟨⟨xs, xs[i], q, by simp [hlt]⟩, Pv (i + 1), fun σ' H' p' => ⟨xs.length - (i + 1), by omega, rfl, hlt, p'⟩, fun x H' y => ?_⟩
    obtain ⟨e, y⟩ := y
    subst e
    exact hs i x σ _ (y xs q) p
  · have e : i = xs.length := by omega
    subst e
    exact .inl ⟨⟨xs, q, Nat.le_refl _⟩, hd σ H p⟩
theorem for_range {lo : Int} {n : Nat} {g : TG} {tb : TS} {D : Ends} {σ : St} {H : Hp} (Pv : Nat → St → Hp → Prop) (h0 : Pv 0 σ H)
    (hs : ∀ i σ H, i < n → Pv i σ H → g (.int (lo + i)) σ H fun σ2 H2 => tb { D with nx := Pv (i + 1), ct := Pv (i + 1), bk := D.nx } σ2 H2) (hd : ∀ σ H, Pv n σ H → D.nx σ H) :
    ∃ W : Nat → Nat → St → Hp → Prop, (∃ m, W 0 m σ H) ∧ ∀ i m σ H, W i m σ H →
      ((Itr lo n).stop i H ∧ D.nx σ H) ∨ ((Itr lo n).go i H ∧ ∃ N : St → Hp → Prop, (∀ σ' H', N σ' H' → ∃ m', m' < m ∧ W (i + 1) m' σ' H') ∧ ∀ x H', (Itr lo n).yld i H x H' → g x σ H' fun σ2 H2 => tb { D with nx := N, ct := N, bk := D.nx } σ2 H2) := by
  refine ⟨fun i m σ H => m = n - i ∧ i ≤ n ∧ Pv i σ H, ⟨n, by simp, Nat.zero_le _, h0⟩, ?_⟩
  rintro i m σ H ⟨rfl, hi, p⟩
  by_cases hlt : i < n
  · refine .inr ⟨hlt, Pv (i + 1), fun σ' H' p' => ⟨n - (i + 1), by omega, rfl, hlt, p'⟩, fun x H' y => ?_⟩
    obtain ⟨e, y⟩ := y
    subst e y
    exact hs i σ _ hlt p
  · have e : i = n := by omega
    subst e
    exact .inl ⟨Nat.le_refl _, hd σ H p⟩
end L2
namespace L2
open PySem PySem.Spec PyProof.Rows
abbrev R2 := V → V → Hp → VK → Prop
def OpR (X : Cx) (f : Value → Value → Sem Value) (r : R2) : Prop :=
  ∀ (pins : List (Addr × Obj)) (s : Shared) (σ : St) (H : Hp) (x y : V) (v u : Value) (Q : VK), Inv X pins σ H s → RelV x v → RelV y u → r x y H Q →
    wpAny (model X.prog X.w) X.A (f v u) (EP X pins σ Q) X.xe s
def UnR (X : Cx) (f : Value → Sem Value) (r : V → Hp → VK → Prop) : Prop :=
  ∀ (pins : List (Addr × Obj)) (s : Shared) (σ : St) (H : Hp) (x : V) (v : Value) (Q : VK), Inv X pins σ H s → RelV x v → r x H Q →
    wpAny (model X.prog X.w) X.A (f v) (EP X pins σ Q) X.xe s
def CallR (X : Cx) (f : Value) (r : List V → Hp → VK → Prop) : Prop :=
  ∀ (pins : List (Addr × Obj)) (s : Shared) (σ : St) (H : Hp) (xs : List V) (us : List Value) (Q : VK), Inv X pins σ H s → Vals xs us → r xs H Q →
    wpAny (model X.prog X.w) X.A (call f us) (EP X pins σ Q) X.xe s
def tOp (r : R2) (ta tb : TE) : TE := fun σ H Q => ta σ H fun x H1 => tb σ H1 fun y H2 => r x y H2 Q
def tUn (r : V → Hp → VK → Prop) (ta : TE) : TE := fun σ H Q => ta σ H fun x H1 => r x H1 Q
def rI (C : Int → Int → Prop) (g : Int → Int → V) : R2 := fun x y H Q => ∃ i j, x = .int i ∧ y = .int j ∧ C i j ∧ Q (g i j) H
def rI0 (g : Int → Int → V) : R2 := fun x y H Q => ∃ i j, x = .int i ∧ y = .int j ∧ Q (g i j) H
def rU (g : Int → V) : V → Hp → VK → Prop := fun x H Q => ∃ i, x = .int i ∧ Q (g i) H
section
variable {X : Cx} {a b c : Expr} {ta tb tc : TE} {pos : Pos}
theorem binT (ha : PE X a ta) (hb : PE X b tb) {pins : List (Addr × Obj)} {s : Shared} {σ : St} {H : Hp} {R : V → V → Hp → Prop} (I : Inv X pins σ H s)
    (h : ta σ H fun x H1 => tb σ H1 fun y H2 => R x y H2) {Q : Value → Shared → Prop} {f : Value → Value → Sem Value}
    (hf : ∀ v u s2 x y H2, Inv X pins σ H2 s2 → RelV x v → RelV y u → R x y H2 → wpAny (model X.prog X.w) X.A (f v u) Q X.xe s2) :
    wpAny (model X.prog X.w) X.A (eval a X.env) (fun v s₁ => wpAny (model X.prog X.w) X.A (eval b X.env) (fun u s₂ => wpAny (model X.prog X.w) X.A (f v u) Q X.xe s₂) X.xe s₁) X.xe s := by
  refine thn (ha pins s σ H _ I h) fun v s1 ⟨x, H1, I1, r1, q1⟩ => ?_
  refine thn (hb pins s1 σ H1 _ I1 q1) fun u s2 ⟨y, H2, I2, r2, q2⟩ => ?_
  exact hf v u s2 x y H2 I2 r1 r2 q2
theorem pe_op {op : Operator} {r : R2} (ho : OpR X (binaryOp op) r) (ha : PE X a ta) (hb : PE X b tb) : PE X (.BinOp a op b pos) (tOp r ta tb) := by
  intro pins s σ H Q I h
  exact wpAny_BinOp (binT ha hb I h fun v u s2 x y H2 I2 rx ry q => ho pins s2 σ H2 x y v u Q I2 rx ry q)
theorem pe_un {op : UnaryOp} {r : V → Hp → VK → Prop} (ho : UnR X (unaryOp op) r) (ha : PE X a ta) : PE X (.UnaryOp op a pos) (tUn r ta) := by
  intro pins s σ H Q I h
  exact UnaryOp_ (thn (ha pins s σ H _ I h) fun v s1 ⟨x, H1, I1, r1, q1⟩ => ho pins s1 σ H1 x v Q I1 r1 q1)
theorem opI {f : Value → Value → Sem Value} {C : Int → Int → Prop} {g : Int → Int → Int}
    (rule : ∀ (i j : Int) (t u : Tok) (s : Shared) (Q : Value → Shared → Prop) (E : Value → Shared → Prop), C i j → Q (.int (g i j) s.toks) { s with toks := s.toks + 1 } → wpAny (model X.prog X.w) X.A (f (.int i t) (.int j u)) Q E s) :
    OpR X f (rI C fun i j => .int (g i j)) := by
  intro pins s σ H x y v u Q I rx ry h
  obtain ⟨i, j, rfl, rfl, hc, q⟩ := h
  obtain ⟨t, rfl⟩ := rx
  obtain ⟨t', rfl⟩ := ry
  exact rule i j t t' s _ _ hc ⟨.int (g i j), H, I.tok _, ⟨_, rfl⟩, q⟩
theorem opI0 {f : Value → Value → Sem Value} {g : Int → Int → Int}
    (rule : ∀ (i j : Int) (t u : Tok) (s : Shared) (Q : Value → Shared → Prop) (E : Value → Shared → Prop), Q (.int (g i j) s.toks) { s with toks := s.toks + 1 } → wpAny (model X.prog X.w) X.A (f (.int i t) (.int j u)) Q E s) :
    OpR X f (rI0 fun i j => .int (g i j)) := by
  intro pins s σ H x y v u Q I rx ry h
  obtain ⟨i, j, rfl, rfl, q⟩ := h
  obtain ⟨t, rfl⟩ := rx
  obtain ⟨t', rfl⟩ := ry
  exact rule i j t t' s _ _ ⟨.int (g i j), H, I.tok _, ⟨_, rfl⟩, q⟩
theorem opB0 {f : Value → Value → Sem Value} {g : Int → Int → Bool}
    (rule : ∀ (i j : Int) (t u : Tok) (s : Shared) (Q : Value → Shared → Prop) (E : Value → Shared → Prop), Q (.bool (g i j)) s → wpAny (model X.prog X.w) X.A (f (.int i t) (.int j u)) Q E s) :
    OpR X f (rI0 fun i j => .bl (g i j)) := by
  intro pins s σ H x y v u Q I rx ry h
  obtain ⟨i, j, rfl, rfl, q⟩ := h
  obtain ⟨t, rfl⟩ := rx
  obtain ⟨t', rfl⟩ := ry
  exact rule i j t t' s _ _ ⟨.bl (g i j), H, I, rfl, q⟩
def CDiv (i j : Int) : Prop := 0 < j ∧ j < 1073741824
def CMul (i j : Int) : Prop := (-(2 ^ 64) < i ∧ i < 2 ^ 64) ∨ (-(2 ^ 64) < j ∧ j < 2 ^ 64)
theorem CMul.ok {i j : Int} (h : CMul i j) : IntMulOk i j := by
  rcases h with ⟨h1, h2⟩ | ⟨h1, h2⟩
  · exact .of_left (intBits_le_64 h1 h2)
  · exact .of_right (intBits_le_64 h1 h2)
theorem op_add : OpR X (binaryOp .Add) (rI0 fun i j => .int (i + j)) := opI0 fun _ _ _ _ _ _ _ q => add_int q
theorem op_sub : OpR X (binaryOp .Sub) (rI0 fun i j => .int (i - j)) := opI0 fun _ _ _ _ _ _ _ q => sub_int q
theorem op_mul : OpR X (binaryOp .Mult) (rI CMul fun i j => .int (i * j)) := opI fun _ _ _ _ _ _ _ hc q => mul_int q hc.ok
theorem op_fdiv : OpR X (binaryOp .FloorDiv) (rI CDiv fun i j => .int (i / j)) := opI fun i j _ _ _ _ _ hc q => by
  have h1 : (0 : Int) < j := hc.1
  have h2 : j < 1073741824 := hc.2
  exact floordiv_int (by omega) (by rw [Int.fdiv_eq_ediv_of_nonneg i (by omega)]; exact q) (.inl (PyProof.noPylong_small (by omega)))
theorem op_mod : OpR X (binaryOp .Mod) (rI (fun _ j => 0 < j) fun i j => .int (i % j)) := opI fun i j _ _ _ _ _ hc q => by
  have h1 : (0 : Int) < j := hc
  exact mod_int' (by omega) (by rw [Int.fmod_eq_emod_of_nonneg i (by omega)]; exact q)
theorem unI {f : Value → Sem Value} {g : Int → Int}
    (rule : ∀ (i : Int) (t : Tok) (s : Shared) (Q : Value → Shared → Prop) (E : Value → Shared → Prop), Q (.int (g i) s.toks) { s with toks := s.toks + 1 } → wpAny (model X.prog X.w) X.A (f (.int i t)) Q E s) :
    UnR X f (rU fun i => .int (g i)) := by
  intro pins s σ H x v Q I rx h
  obtain ⟨i, rfl, q⟩ := h
  obtain ⟨t, rfl⟩ := rx
  exact rule i t s _ _ ⟨.int (g i), H, I.tok _, ⟨_, rfl⟩, q⟩
theorem un_neg : UnR X (unaryOp .USub) (rU fun i => .int (-i)) := unI fun _ _ _ _ _ q => neg_int q
end
def scal : V → V → Bool
  | .non, .non => true | .non, .int _ => true | .int _, .non => true | .non, .bl _ => true | .bl _, .non => true | .non, .str _ => true | .str _, .non => true
  | .int _, .int _ => true | .bl _, .bl _ => true | .str _, .str _ => true | .byt _, .byt _ => true
  | .int _, .str _ => true | .str _, .int _ => true | .bl _, .str _ => true | .str _, .bl _ => true
  | _, _ => false
def rEq : R2 := fun x y H Q => scal x y = true ∧ Q (.bl (decide (x = y))) H
def rNe : R2 := fun x y H Q => scal x y = true ∧ Q (.bl (!decide (x = y))) H
theorem dec_int {i j : Int} : decide (V.int i = V.int j) = (i == j) := by
  rw [Bool.eq_iff_iff]
  simp
theorem dec_bl {i j : Bool} : decide (V.bl i = V.bl j) = (i == j) := by
  rw [Bool.eq_iff_iff]
  simp
theorem dec_str {i j : Str} : decide (V.str i = V.str j) = (i == j) := by
  rw [Bool.eq_iff_iff]
  simp
theorem dec_byt {i j : Array UInt8} : decide (V.byt i = V.byt j) = (i.toList == j.toList) := by
  rw [Bool.eq_iff_iff]
  cases i
  cases j
  simp
section
variable {X : Cx} {a b c : Expr} {ta tb tc : TE} {pos : Pos}
theorem fin_bl {pins : List (Addr × Obj)} {σ : St} {H : Hp} {s : Shared} {Q : VK} {k k' : Bool} (I : Inv X pins σ H s) (q : Q (.bl k) H) (e : k = k') : EP X pins σ Q (.bool k') s := by
  subst e
  exact ⟨.bl k, H, I, rfl, q⟩
theorem op_eq : OpR X (compareOp .Eq) rEq := by
  intro pins s σ H x y v u Q I rx ry h
  obtain ⟨hs, q⟩ := h
  cases x with
  | non =>
    cases rx
    cases y with
    | non => cases ry; exact PySem.EqNone.eq_none_none (fin_bl I q (by simp))
    | bl j => cases ry; exact PySem.EqNone.eq_none_bool (fin_bl I q (by simp))
    | int j => obtain ⟨t', rfl⟩ := ry; exact PySem.EqNone.eq_none_int (fin_bl I q (by simp))
    | str j => obtain ⟨t', rfl⟩ := ry; exact PySem.EqNone.eq_none_str (fin_bl I q (by simp))
    | _ => exact absurd (show false = true from hs) Bool.false_ne_true
  | bl i =>
    cases rx
    cases y with
    | non => cases ry; exact PySem.EqNone.eq_bool_none (fin_bl I q (by simp))
    | bl j => cases ry; exact eq_bool (fin_bl I q dec_bl)
    | str j => obtain ⟨t', rfl⟩ := ry; exact PySem.EqMixed.eq_bool_str (fin_bl I q (by simp))
    | _ => exact absurd (show false = true from hs) Bool.false_ne_true
  | int i =>
    obtain ⟨t, rfl⟩ := rx
    cases y with
    | non => cases ry; exact PySem.EqNone.eq_int_none (fin_bl I q (by simp))
    | int j => obtain ⟨t', rfl⟩ := ry; exact eq_int (fin_bl I q dec_int)
    | str j => obtain ⟨t', rfl⟩ := ry; exact PySem.EqMixed.eq_int_str (fin_bl I q (by simp))
    | _ => exact absurd (show false = true from hs) Bool.false_ne_true
  | str i =>
    obtain ⟨t, rfl⟩ := rx
    cases y with
    | non => cases ry; exact PySem.EqNone.eq_str_none (fin_bl I q (by simp))
    | bl j => cases ry; exact PySem.EqMixed.eq_str_bool (fin_bl I q (by simp))
    | int j => obtain ⟨t', rfl⟩ := ry; exact PySem.EqMixed.eq_str_int (fin_bl I q (by simp))
    | str j => obtain ⟨t', rfl⟩ := ry; exact eq_str (fin_bl I q dec_str)
    | _ => exact absurd (show false = true from hs) Bool.false_ne_true
  | byt i =>
    obtain ⟨t, rfl⟩ := rx
    cases y with
    | byt j => obtain ⟨t', rfl⟩ := ry; exact PySem.W.eq_bytes (fin_bl I q dec_byt)
    | _ => exact absurd (show false = true from hs) Bool.false_ne_true
  | _ => cases y <;> exact absurd (show false = true from hs) Bool.false_ne_true
theorem op_ne : OpR X (compareOp .NotEq) rNe := by
  intro pins s σ H x y v u Q I rx ry h
  obtain ⟨hs, q⟩ := h
  cases x with
  | non =>
    cases rx
    cases y with
    | non => cases ry; exact PySem.EqNone.ne_none_none (fin_bl I q (by simp))
    | bl j => cases ry; exact PySem.EqNone.ne_none_bool (fin_bl I q (by simp))
    | int j => obtain ⟨t', rfl⟩ := ry; exact PySem.EqNone.ne_none_int (fin_bl I q (by simp))
    | str j => obtain ⟨t', rfl⟩ := ry; exact PySem.EqNone.ne_none_str (fin_bl I q (by simp))
    | _ => exact absurd (show false = true from hs) Bool.false_ne_true
  | bl i =>
    cases rx
    cases y with
    | non => cases ry; exact PySem.EqNone.ne_bool_none (fin_bl I q (by simp))
    | bl j => cases ry; exact ne_bool (fin_bl I q (congrArg not dec_bl))
    | str j => obtain ⟨t', rfl⟩ := ry; exact PySem.EqMixed.ne_bool_str (fin_bl I q (by simp))
    | _ => exact absurd (show false = true from hs) Bool.false_ne_true
  | int i =>
    obtain ⟨t, rfl⟩ := rx
    cases y with
    | non => cases ry; exact PySem.EqNone.ne_int_none (fin_bl I q (by simp))
    | int j => obtain ⟨t', rfl⟩ := ry; exact ne_int (fin_bl I q (congrArg not dec_int))
    | str j => obtain ⟨t', rfl⟩ := ry; exact PySem.EqMixed.ne_int_str (fin_bl I q (by simp))
    | _ => exact absurd (show false = true from hs) Bool.false_ne_true
  | str i =>
    obtain ⟨t, rfl⟩ := rx
    cases y with
    | non => cases ry; exact PySem.EqNone.ne_str_none (fin_bl I q (by simp))
    | bl j => cases ry; exact PySem.EqMixed.ne_str_bool (fin_bl I q (by simp))
    | int j => obtain ⟨t', rfl⟩ := ry; exact PySem.EqMixed.ne_str_int (fin_bl I q (by simp))
    | str j => obtain ⟨t', rfl⟩ := ry; exact ne_str (fin_bl I q (congrArg not dec_str))
    | _ => exact absurd (show false = true from hs) Bool.false_ne_true
  | byt i =>
    obtain ⟨t, rfl⟩ := rx
    cases y with
    | byt j => obtain ⟨t', rfl⟩ := ry; exact PySem.W.ne_bytes (fin_bl I q (congrArg not dec_byt))
    | _ => exact absurd (show false = true from hs) Bool.false_ne_true
  | _ => cases y <;> exact absurd (show false = true from hs) Bool.false_ne_true
theorem op_lt : OpR X (compareOp .Lt) (rI0 fun i j => .bl (decide (i < j))) := opB0 fun _ _ _ _ _ _ _ q => lt_int q
theorem op_le : OpR X (compareOp .LtE) (rI0 fun i j => .bl (decide (i ≤ j))) := opB0 fun _ _ _ _ _ _ _ q => le_int q
theorem op_gt : OpR X (compareOp .Gt) (rI0 fun i j => .bl (decide (j < i))) := opB0 fun _ _ _ _ _ _ _ q => gt_int q
theorem op_in_str : OpR X (compareOp .In) (fun x y H Q => ∃ i j, x = .str i ∧ y = .str j ∧ Q (.bl (!(Builtin.Str.occurrences j i 0 j.length 1).isEmpty)) H) := by
  intro pins s σ H x y v u Q I rx ry h
  obtain ⟨i, j, rfl, rfl, q⟩ := h
  obtain ⟨t, rfl⟩ := rx
  obtain ⟨t', rfl⟩ := ry
  exact in_str (fin_bl I q rfl)
theorem op_isN : OpR X (compareOp .Is) (fun x y H Q => y = .non ∧ Q (.bl (decide (x = .non))) H) := by
  intro pins s σ H x y v u Q I rx ry h
  obtain ⟨rfl, q⟩ := h
  cases ry
  refine is_none_gen (fin_bl I q ?_)
  cases x <;> first
    | (cases rx; rfl)
    | (obtain ⟨t, rfl⟩ := rx; rfl)
theorem op_notN : OpR X (compareOp .IsNot) (fun x y H Q => y = .non ∧ Q (.bl (!decide (x = .non))) H) := by
  intro pins s σ H x y v u Q I rx ry h
  obtain ⟨rfl, q⟩ := h
  cases ry
  refine isnot_none_gen (fin_bl I q ?_)
  cases x <;> first
    | (cases rx; rfl)
    | (obtain ⟨t, rfl⟩ := rx; rfl)
theorem nomark (b : Expr) {op : CmpOp} (h : op ≠ .In := by decide) (h2 : op ≠ .NotIn := by decide) : behindInMarks op b = false := by
  have e1 : (op == CmpOp.In) = false := by cases op <;> first | rfl | exact absurd rfl h
  have e2 : (op == CmpOp.NotIn) = false := by cases op <;> first | rfl | exact absurd rfl h2
  cases b <;> simp [behindInMarks, e1, e2]
theorem pe_cmpR {op : CmpOp} {r : R2} (ho : OpR X (compareOp op) r) (ha : PE X a ta) (hb : PE X b tb) (hm : behindInMarks op b = false) : PE X (.Compare a [op] [b] pos) (tOp r ta tb) := by
  intro pins s σ H Q I h
  exact wpAny_Compare1 (binT ha hb I h fun v u s2 x y H2 I2 rx ry q => ho pins s2 σ H2 x y v u Q I2 rx ry q) hm
def tTest (t : TE) : TT := fun σ H Q => t σ H fun x H' => ∃ k, x = .bl k ∧ Q k H'
theorem pt_cmpR {op : CmpOp} {r : R2} (ho : OpR X (compareOp op) r) (ha : PE X a ta) (hb : PE X b tb) (hm : behindInMarks op b = false) : PT X (.Compare a [op] [b] pos) (tTest (tOp r ta tb)) := by
  intro pins s σ H Q I h
  refine wpAny_isTrue_Compare1 (thn (ha pins s σ H _ I h) fun v s1 ⟨x, H1, I1, r1, q1⟩ => thn (hb pins s1 σ H1 _ I1 q1) fun u s2 ⟨y, H2, I2, r2, q2⟩ =>
    thn (ho pins s2 σ H2 x y v u _ I2 r1 r2 q2) fun c s3 ⟨z, H3, I3, r3, k, e, q3⟩ => ?_) hm
  subst e
  cases r3
  exact wpAny_truthy_bool ⟨H3, I3, q3⟩
def tChain (r r' : R2) (ta tb tc : TE) : TE := fun σ H Q => ta σ H fun x H1 => tb σ H1 fun y H2 => r x y H2 fun z H3 => ∃ k, z = .bl k ∧
  (if k = true then tc σ H3 fun w' H4 => r' y w' H4 Q else Q (.bl false) H3)
theorem pe_chain {op op' : CmpOp} {r r' : R2} (ho : OpR X (compareOp op) r) (ho' : OpR X (compareOp op') r') (ha : PE X a ta) (hb : PE X b tb) (hc : PE X c tc)
    (hm : lastMarks [op, op'] [b, c] = false := by with_unfolding_all rfl) : PE X (.Compare a [op, op'] [b, c] pos) (tChain r r' ta tb tc) := by
  intro pins s σ H Q I h
  refine Compare_chain (thn (ha pins s σ H _ I h) fun v s1 ⟨x, H1, I1, r1, q1⟩ => chain_link (thn (hb pins s1 σ H1 _ I1 q1) fun u s2 ⟨y, H2, I2, r2, q2⟩ =>
    thn (ho pins s2 σ H2 x y v u _ I2 r1 r2 q2) fun d s3 ⟨z, H3, I3, r3, k, e, q3⟩ => ?_)) hm
  subst e
  cases r3
  refine wpAny_truthy_bool ?_
  cases k with
  | false => exact ite_ff ⟨.bl false, H3, I3, rfl, q3⟩
  | true => exact ite_tt (chain_last (thn (hc pins s3 σ H3 _ I3 q3) fun w' s4 ⟨z', H4, I4, r4, q4⟩ => ho' pins s4 σ H4 y z' u w' Q I4 r2 r4 q4))
theorem line63 : (sizeLine : Nat) < 2 ^ 63 := by rw [sizeLine_eq]; decide
theorem op_add_str : OpR X (binaryOp .Add) (fun x y H Q => ∃ i j, x = .str i ∧ y = .str j ∧ i.length + j.length ≤ sizeLine ∧ Q (.str (i ++ j)) H) := by
  intro pins s σ H x y v u Q I rx ry h
  obtain ⟨i, j, rfl, rfl, hz, q⟩ := h
  obtain ⟨t, rfl⟩ := rx
  obtain ⟨t', rfl⟩ := ry
  exact add_str (fun t' tk => ⟨.str (i ++ j), H, I.tok _, ⟨_, rfl⟩, q⟩) hz
theorem vals1 {x : V} {us : List Value} (r : Vals [x] us) : ∃ u, us = [u] ∧ RelV x u := by
  cases r with
  | cons r1 r2 => cases r2; exact ⟨_, rfl, r1⟩
end
end L2
namespace L2
open PySem PySem.Spec PyProof.Rows
structure ObjM (h : Heap) (x dx C : Addr) (mA : Str → Option Value) : Prop where
  obj : h.get? x = some (PySem.W.instObj C dx)
  ns : h.Ns1 dx mA
  ne : dx ≠ x
theorem lookIn_ns {h : Heap} {dx : Addr} {mA : Str → Option Value} (n : h.Ns1 dx mA) : ∃ od, h.get? dx = some od ∧ ∀ name, PySem.W.lookIn name od = some (mA name) := by
  obtain ⟨o, es, ep, ho, hd, hk, _, hm⟩ := n
  refine ⟨o, ho, fun name => ?_⟩
  have e := hm name
  unfold nsFind findBy at e
  rw [← Array.find?_toList] at e
  unfold PySem.W.lookIn
  rw [hd]
  dsimp only
  split
  · rename_i y q
    rw [q] at e
    exact congrArg some e
  · rename_i q
    rw [q] at e
    have a : es.toList.any (·.refKey) = false := by
      rw [List.any_eq_false]
      intro y hy
      obtain ⟨z, t, hkey⟩ := hk y (Array.mem_toList_iff.mp hy)
      simp [DictEntry.refKey, hkey]
    have a' : ¬ es.toList.any (·.refKey) = true := by rw [a]; exact Bool.false_ne_true
    rw [if_neg a']
    exact congrArg some e
theorem ObjM.look {h : Heap} {x dx C : Addr} {mA : Str → Option Value} (I : ObjM h x dx C mA) : ∃ od, PySem.W.InstAt h x (PySem.W.instObj C dx) C (some od) ∧ ∀ name, PySem.W.lookIn name od = some (mA name) :=
  let ⟨od, ho, hl⟩ := lookIn_ns I.ns
  ⟨od, ⟨I.obj, rfl, rfl, ho⟩, hl⟩
section
variable {prog : Program} {w : World} {A : Around} {E : Value → Shared → Prop} {s : Shared} {K : PySem.W.Frag} {x dx C f : Addr} {mA : Str → Option Value} {name : Str} {v : Value}
end
section
variable {P : Program} {w : World} {H H' : Hp} {h h' : Heap} {a C dx : Addr} {fs fs' : List (Str × V)}
theorem ins_get (hok : HOk P w H h) (e : H a = some (.ins C dx fs)) : ∃ mA, ObjM h a dx C mA ∧ (∀ f, RelO (fs.lookup f) (mA f)) ∧ PySem.Within mA (fs.map (·.1)) ∧ fs.length ≤ 1000 ∧ H dx = some (.own a) := by
  obtain ⟨d, z, ne, ob, mA, n, r, q⟩ := (show ObjOk P w H h a (.ins C dx fs) from hok a _ e)
  exact ⟨mA, ⟨ob, n, ne⟩, r, q, z, d⟩
end
structure Cls (K : PySem.W.Frag) (C : Addr) : Prop where
  pg : PySem.W.plainGet K C Str.empty = true
  hd : PySem.W.hasDictIn K C = true
  po : PySem.W.plainOver K C = true
  sa : PySem.W.findIn K (.ref C) "__setattr__" = some (some (.builtin "object.__setattr__"))
theorem Cls.get {K : PySem.W.Frag} {C : Addr} (c : Cls K C) (f : Str) : PySem.W.plainGet K C f = true := c.pg
section
variable {X : Cx} {pins : List (Addr × Obj)} {σ : St} {H : Hp} {s : Shared} {a C dx : Addr} {fs : List (Str × V)} {f : Str} {v : V} {A : Around} {E : Value → Shared → Prop}
end
section
variable {X : Cx} {o e value : Expr} {f : Str} {pos pos' tpos : Pos} {ta tv : TE}
end
section
variable {X : Cx} {pins : List (Addr × Obj)} {σ : St} {H : Hp} {s : Shared} {A : Around} {E : Value → Shared → Prop} {Q : Value → Shared → Prop} {c : Value} {b : Bool}
inductive TyOf (K : PySem.W.Frag) (H : Hp) : V → Value → Prop where
  | non : TyOf K H .non (.type "NoneType")
  | bl (x : Bool) : TyOf K H (.bl x) (.type "bool")
  | int (i : Int) : TyOf K H (.int i) (.type "int")
  | str (x : Str) : TyOf K H (.str x) (.type "str")
  | flt (x : UInt64) : TyOf K H (.flt x) (.type "float")
  | lst {a : Addr} {xs : List V} (e : H a = some (.lst xs)) : TyOf K H (.ref a) (.type "list")
  | frz {a : Addr} {o : Obj} {xs : List V} (e : H a = some (.frz o (.lst xs))) : TyOf K H (.ref a) (.type "list")
  | tup {a : Addr} {xs : List V} (e : H a = some (.tup xs)) : TyOf K H (.ref a) (.type "tuple")
  | dK {a : Addr} {kvs : List (Key × V)} (e : H a = some (.dK kvs)) : TyOf K H (.ref a) (.type "dict")
  | dT {a : Addr} {kvs : List (List Key × V)} (e : H a = some (.dT kvs)) : TyOf K H (.ref a) (.type "dict")
  | ins {a C dx : Addr} {fs : List (Str × V)} (e : H a = some (.ins C dx fs)) (cl : Cls K C) (ha : PySem.W.findIn K (.ref C) "__class__" = some (some (.builtin "object.__class__")))
      (hn : PySem.W.specialIn K (.builtin "object.__class__") "__get__" = some (some (.builtin "getset_descriptor.__get__"))) (htk : PySem.W.takesIn K (.builtin "object.__class__") = some true)
      (hm : PySem.W.mroIn K C (.type "object") = some true) : TyOf K H (.ref a) (.ref C)
theorem isinst_ok {x : V} {u t : Value} (I : Inv X pins σ H s) (rx : RelV x u) (ty : TyOf X.K H x t) (e : PySem.W.kitOne X.K t c = some b) (h : ∀ tk, Q (.bool b) { s with toks := tk }) :
    wpAny (model X.prog X.w) A (call (.builtin "isinstance") [u, c]) Q E s := by
  cases ty with
  | non => cases (show u = Value.none from rx); exact PySem.W.kia_one PySem.W.kitx_none I.kIn True.intro e (fun z => nomatch z) h
  | bl y => cases (show u = Value.bool y from rx); exact PySem.W.kia_one PySem.W.kitx_bool I.kIn True.intro e (fun z => nomatch z) h
  | int i => obtain ⟨t, q⟩ := (show ∃ t, u = Value.int i t from rx); cases q; exact PySem.W.kia_one PySem.W.kitx_int I.kIn True.intro e (fun z => nomatch z) h
  | str y => obtain ⟨t, q⟩ := (show ∃ t, u = Value.str y t from rx); cases q; exact PySem.W.kia_one PySem.W.kitx_str I.kIn True.intro e (fun z => nomatch z) h
  | flt y => obtain ⟨t, q⟩ := (show ∃ t, u = Value.float y t from rx); cases q; exact PySem.W.kia_one PySem.W.kitx_float I.kIn True.intro e (fun z => nomatch z) h
  | @lst a xs ea =>
    cases (show u = Value.ref a from rx)
    obtain ⟨_, _, n, _, h1⟩ := (show ObjOk X.prog X.w H s.heap a (.lst xs) from I.hok a _ ea)
    exact PySem.W.kia_one PySem.W.kitx_list I.kIn ⟨_, h1, rfl⟩ e (fun z => nomatch z) h
  | @frz a ob xs ea =>
    cases (show u = Value.ref a from rx)
    obtain ⟨_, _, _, n, _, h1⟩ := (show ObjOk X.prog X.w H s.heap a (.frz ob (.lst xs)) from I.hok a _ ea)
    exact PySem.W.kia_one PySem.W.kitx_list I.kIn ⟨_, h1, rfl⟩ e (fun z => nomatch z) h
  | @tup a xs ea =>
    cases (show u = Value.ref a from rx)
    obtain ⟨_, _, _, p⟩ := (show ObjOk X.prog X.w H s.heap a (.tup xs) from I.hok a _ ea)
    obtain ⟨o, h1, h2, _⟩ := p
    exact PySem.W.kia_one PySem.W.kitx_tuple I.kIn ⟨o, h1, h2⟩ e (fun z => nomatch z) h
  | @dK a kvs ea =>
    cases (show u = Value.ref a from rx)
    obtain ⟨_, _, vs, _, p⟩ := (show ObjOk X.prog X.w H s.heap a (.dK kvs) from I.hok a _ ea)
    obtain ⟨o, es, ep, h1, h2, _⟩ := p
    exact PySem.W.kia_one PySem.W.kitx_dict I.kIn ⟨o, h1, h2.1⟩ e (fun z => nomatch z) h
  | @dT a kvs ea =>
    cases (show u = Value.ref a from rx)
    obtain ⟨_, _, xs, _, o, es, ep, h1, h2, _⟩ := (show ObjOk X.prog X.w H s.heap a (.dT kvs) from I.hok a _ ea)
    exact PySem.W.kia_one PySem.W.kitx_dict I.kIn ⟨o, h1, h2.1⟩ e (fun z => nomatch z) h
  | @ins a C dx fs ea cl ha hn htk hm =>
    cases (show u = Value.ref a from rx)
    obtain ⟨mA, O, _⟩ := ins_get I.hok ea
    obtain ⟨od, J, _⟩ := O.look
    exact PySem.W.kia_one (PySem.W.kitx_own (cl.get _) cl.hd ha hn htk hm) I.kIn J e (fun z => nomatch z) h
end
end L2
namespace L2
open PySem PySem.Spec PyProof.Rows
structure Room (k : Nat) (A : Around) : Prop where
  hd : A.handled = none
  dp : A.depth + 3 * k + 5 < recursionLimit
  un : A.units + 16 * k + 200 < cLine
theorem Room.mono {j k : Nat} {A : Around} (r : Room k A) (h : j ≤ k) : Room j A := ⟨r.hd, by have := r.dp; omega, by have := r.un; omega⟩
theorem Room.deeper {k : Nat} {A : Around} (r : Room (k + 1) A) (env : Env) : Room k (A.deeper env) :=
  ⟨r.hd, by have := r.dp; show A.depth + 1 + 3 * k + 5 < _; omega, by have := r.un; show A.units + 3 + 16 * k + 200 < _; omega⟩
theorem Room.depth {k : Nat} {A : Around} (r : Room k A) : A.depth < recursionLimit := by have := r.dp; omega
theorem Room.units {k : Nat} {A : Around} (r : Room k A) : A.units + 64 < cLine := by have := r.un; omega
def tNil : TA := fun _ H Q => Q [] H
def tCons (ta : TE) (tr : TA) : TA := fun σ H Q => ta σ H fun x H1 => tr σ H1 fun xs H2 => Q (x :: xs) H2
section
variable {X : Cx} {e : Expr} {es : List Expr} {te : TE} {t : TA} {pos : Pos}
theorem pa_nil : PA X [] tNil := fun _ _ _ _ H Q I h => Calls.spliced_nil ⟨[], H, I, .nil, h⟩
theorem pa_cons (ha : PE X e te) (hr : PA X es t) (hs : starEach (e :: es) X.env = (false, eval e X.env) :: starEach es X.env := by rfl) : PA X (e :: es) (tCons te t) := by
  intro pos pins s σ H Q I h
  rw [hs]
  show wpAny _ _ (spliced ((false, eval e X.env) :: backTo pos (starEach es X.env))) _ _ s
  refine Calls.spliced_cons (thn (ha pins s σ H _ I h) fun u s1 ⟨x, H1, I1, r1, q1⟩ => ?_)
  exact thn (hr pos pins s1 σ H1 _ I1 q1) fun us s2 ⟨xs, H2, I2, r2, q2⟩ => ⟨x :: xs, H2, I2, .cons r1 r2, q2⟩
def tTup (t : TA) : TE := fun σ H Q => t σ H fun xs H1 => xs.length ≤ sizeLine ∧ ∀ p, H1 p = none → Q (.ref p) (upd H1 p (.tup xs))
def tLst (t : TA) : TE := fun σ H Q => t σ H fun xs H1 => xs.length ≤ sizeLine ∧ ∀ p, H1 p = none → Q (.ref p) (upd H1 p (.lst xs))
theorem pe_tup {x1} (h : PA X es t) : PE X (.Tuple es x1 pos) (tTup t) := by
  intro pins s σ H Q I hq
  refine wpAny_Tuple_spliced (thn (h pos pins s σ H _ I hq) fun us s1 ⟨xs, H1, I1, r, z, q⟩ => ⟨by rw [← r.length]; exact z, ?_⟩)
  have hf : H1 s1.heap.objs.size = none := I1.hok.fresh (Nat.le_refl _)
  refine ⟨.ref s1.heap.objs.size, upd H1 s1.heap.objs.size (.tup xs), I1.laid (t' := s1.toks) (fun b u e => Heap.get?_push_of_some _ e) (Nat.le_refl _) ?_, rfl, q _ hf⟩
  exact ⟨z, us, r, ⟨_, Heap.get?_push_size _ rfl, rfl, _, rfl⟩⟩
theorem pe_lst (h : PA X es t) : PE X (.List es pos) (tLst t) := by
  intro pins s σ H Q I hq
  refine wpAny_List_spliced (thn (h pos pins s σ H _ I hq) fun us s1 ⟨xs, H1, I1, r, z, q⟩ => ⟨by rw [← r.length]; exact z, ?_⟩)
  have hf : H1 s1.heap.objs.size = none := I1.hok.fresh (Nat.le_refl _)
  refine ⟨.ref s1.heap.objs.size, upd H1 s1.heap.objs.size (.lst xs), I1.laid (t' := s1.toks) (fun b u e => Heap.get?_push_of_some _ e) (Nat.le_refl _) ?_, rfl, q _ hf⟩
  exact ⟨z, us, 0, r, Heap.get?_push_size _ rfl⟩
end
abbrev Sp := List V → Hp → VK → XK → Prop
abbrev CXT := List Env → Hp → Shared → XK → Value → Shared → Prop
structure Env0 (P : Program) (w : World) (K : PySem.W.Frag) (mg : Str → Option Value) (base : Heap) (A : Around) (outer : List Env) (s : Shared) (H : Hp) : Prop where
  frames : A.frames = some outer
  mod : Mod K mg base
  bs : ∀ b o, base.get? b = some o → s.heap.get? b = some o ∧ H b = none
  bsz : base.objs.size ≤ s.heap.objs.size
  funs : s.heap.FunFrames base outer
  frf : ∀ b ∈ frs outer, H b = none
  hok : HOk P w H s.heap
  bare : AllBare s.gens
def CE (outer : List Env) (P : Program) (w : World) (H : Hp) (s : Shared) (Q : VK) (u : Value) (s' : Shared) : Prop :=
  ∃ v H', s'.os = s.os ∧ AllBare s'.gens ∧ Un (frs outer) [] H H' s.heap s'.heap ∧ HOk P w H' s'.heap ∧ RelV v u ∧ Q v H'
def CR (CX : CXT) (outer : List Env) (P : Program) (w : World) (H : Hp) (s : Shared) (Q : VK) (E : XK) (r : Result) (s' : Shared) : Prop :=
  match r with
  | .ok (.ret u) => CE outer P w H s Q u s'
  | .ok _ => False
  | .error e => CX outer H s E e s'
structure FnOk (P : Program) (w : World) (K : PySem.W.Frag) (mg : Str → Option Value) (base : Heap) (CX : CXT) (k : Nat) (f : Addr) (fd : FuncData) (ps : List Str) (sp : Sp) : Prop where
  len : ∀ vs H Q E, sp vs H Q E → vs.length = ps.length
  run : ∀ (A : Around) (outer : List Env) (s : Shared) (H : Hp) (args : Args) (us : List Value) (vs : List V) (Q : VK) (E : XK), Room k A → Env0 P w K mg base A outer s H → BindsTo s fd args (ps.zip us) → Vals vs us → sp vs H Q E →
    codeAny (model P w) A (.call (.ref f) args) (CR CX outer P w H s Q E) s
section
variable {X : Cx} {pins : List (Addr × Obj)} {σ : St} {H : Hp} {s s' : Shared}
theorem Inv.env0 (I : Inv X pins σ H s) : Env0 X.prog X.w X.K X.mg X.base X.A X.stack s H :=
  ⟨I.ok.frames, I.ok.mod, I.bs, Nat.le_trans I.ok.bsz I.sz, I.stack, I.stkFree, I.hok, I.bare⟩
theorem Inv.after {Q : VK} {u : Value} (I : Inv X pins σ H s) (h : CE X.stack X.prog X.w H s Q u s') : EP X pins σ Q u s' := by
  obtain ⟨v, H', os, bare, un, hok, r, q⟩ := h
  obtain ⟨hh, g, d, t, os'⟩ := s'
  obtain rfl : os' = s.os := os
  exact ⟨v, H', I.call (h' := hh) (g' := g) (d' := d) (t' := t) (ch := []) un hok bare (fun b z => absurd z (by simp)), r, q⟩
end
def tCall (sp : Sp) (dvs : List V) (E : XK) (t : TA) : TE := fun σ H Q => t σ H fun vs H1 => sp (vs ++ dvs) H1 Q E
def Binds (K : PySem.W.Frag) (fd : FuncData) (ps : List Str) (ds : List Value) : Prop :=
  ∀ (s : Shared) (us : List Value), K.In s.heap → (us ++ ds).length = ps.length → BindsTo s fd ⟨us, []⟩ (ps.zip (us ++ ds))
theorem Binds.all {K : PySem.W.Frag} {fd : FuncData} {ps : List Str} (h : ∀ us : List Value, us.length = ps.length → bindArgs fd ⟨us, []⟩ = pure (ps.zip us)) : Binds K fd ps [] := fun s us _ hl => by
  rw [List.append_nil] at hl ⊢
  exact .of_eq (h us hl)
def Passes (CX : CXT) (X : Cx) (E : XK) : Prop := ∀ (pins : List (Addr × Obj)) (σ : St) (H : Hp) (s : Shared) (e : Value) (s' : Shared), Inv X pins σ H s → CX X.stack H s E e s' → X.xe e s'
section
variable {X : Cx} {CX : CXT} {k : Nat} {f C : Addr} {fd : FuncData} {ps : List Str} {sp : Sp} {dvs : List V} {ds : List Value} {E : XK} {x m : Str} {p pos apos : Pos} {e o : Expr} {es : List Expr} {ta : TE} {t : TA}
theorem run_fn {pins : List (Addr × Obj)} {σ : St} {H : Hp} {s : Shared} {Q : VK} {us : List Value} {vs : List V} (F : FnOk X.prog X.w X.K X.mg X.base CX k f fd ps sp) (hr : Room k X.A) (hb : Binds X.K fd ps ds) (hd : Vals dvs ds) (hx : Passes CX X E)
    (I : Inv X pins σ H s) (r : Vals vs us) (h : sp (vs ++ dvs) H Q E) : wpAny (model X.prog X.w) X.A (call (.ref f) us) (EP X pins σ Q) X.xe s := by
  have r2 : Vals (vs ++ dvs) (us ++ ds) := r.append hd
  have hl : (us ++ ds).length = ps.length := by rw [← r2.length]; exact F.len _ _ _ _ h
  refine wpAny_call (codeAny_mono (F.run X.A X.stack s H ⟨us, []⟩ (us ++ ds) (vs ++ dvs) Q E hr I.env0 (hb s us I.kIn hl) r2 h) fun r s' hq => ?_)
  cases r with
  | error e => exact hx pins σ H s e s' I hq
  | ok fl =>
    cases fl with
    | ret u => exact I.after hq
    | next => exact False.elim hq
    | brk => exact False.elim hq
    | cont => exact False.elim hq
theorem pe_call (F : FnOk X.prog X.w X.K X.mg X.base CX k f fd ps sp) (hr : Room k X.A) (hg : Gl X x) (hm : X.mg x = some (.ref f)) (hk : PySem.W.keepIn X.K (.ref f) = true) (hb : Binds X.K fd ps ds) (hd : Vals dvs ds) (hx : Passes CX X E)
    (ha : PA X (e :: es) t) (hdb : (x == ("__debug__" : Str)) = false := by decide) (he : starEach (e :: es) X.env = (false, eval e X.env) :: starEach es X.env := by rfl) (hpl : (backTo pos (starEach es X.env)).any (·.1) = false := by rfl) :
    PE X (.Call (.Name x p) (e :: es) [] pos) (tCall sp dvs E t) := by
  intro pins s σ H Q I h
  refine wpAny_Call_Name_kw (ld_glob I hg hm ?_ hdb)
  refine PySem.W.callWith_K (h₀ := X.base) I.ok.mod.kin hk (thn (ha pos pins s σ H _ I h) fun us s1 ⟨vs, H1, I1, r, q⟩ => ⟨I1.kIn, ?_⟩) he hpl
  exact run_fn F hr hb hd hx I1 r q
structure Mk (K : PySem.W.Frag) (C f : Addr) : Prop where
  makes : PySem.W.makesIn K C = true
  init : PySem.W.findIn K (.ref C) "__init__" = some (some (.ref f))
  fn : PySem.W.isFn K (.ref f) = true
  kp : PySem.W.keepIn K (.ref C) = true
end
section
variable {X : Cx} {CX : CXT} {k : Nat} {f C : Addr} {fd : FuncData} {ps ks : List Str} {sp : Sp} {E : XK} {x m : Str} {p pos apos kpos : Pos} {e o : Expr} {es : List Expr} {kws : List Keyword} {te ta : TE} {t tk : TA} {nm : Option Str}
variable {g : List Value → List Value → List Value} {gV : List V → List V → List V}
end
structure FnScope (N P : List Str) (sc : Scope) : Prop where
  kind : sc.kind = .function
  co : sc.isCoroutine = false
  gen : sc.isGenerator = false
  nd : N.Nodup
  pre : N.take P.length = P
  par : ∀ x ∈ P, sc.names.lookup x = some .local ∨ sc.names.lookup x = some .cell
  nofree : ∀ y ∈ sc.names, y.2 ≠ .free
theorem bindL_out {kindOf : Str → Option NameKind} {x : Str} : ∀ {binds : List (Str × Value)} {m : Str → Option Value}, (∀ v, (x, v) ∉ binds) → bindL kindOf binds m x = m x
  | [], _, _ => rfl
  | (n, v) :: r, m, h => by
    unfold bindL
    rw [bindL_out fun w hw => h w (List.mem_cons_of_mem _ hw)]
    split
    · have : x ≠ n := by rintro rfl; exact h v List.mem_cons_self
      simp [this]
    · rfl
theorem bindC_out {kindOf : Str → Option NameKind} {x : Str} : ∀ {binds : List (Str × Value)} {m : Str → Option Value}, (∀ v, (x, v) ∉ binds) → bindC kindOf binds m x = m x
  | [], _, _ => rfl
  | (n, v) :: r, m, h => by
    unfold bindC
    rw [bindC_out fun w hw => h w (List.mem_cons_of_mem _ hw)]
    split
    · rfl
    · have : x ≠ n := by rintro rfl; exact h v List.mem_cons_self
      simp [this]
theorem bindL_get {kindOf : Str → Option NameKind} {x : Str} {v : Value} : ∀ {P : List Str} {vs : List Value} {i : Nat} {m : Str → Option Value}, P.Nodup → P[i]? = some x → vs[i]? = some v → kindOf x = some .local →
    bindL kindOf (P.zip vs) m x = some v
  | [], _, _, _, _, h, _, _ => by simp at h
  | _ :: _, [], _, _, _, _, h, _ => by simp at h
  | p :: P, w :: vs, 0, m, nd, h1, h2, hk => by
    simp at h1 h2; subst h1; subst h2
    show bindL kindOf ((p, w) :: P.zip vs) m p = _
    unfold bindL
    rw [bindL_out fun v hv => (List.nodup_cons.mp nd).1 (List.of_mem_zip hv).1, if_pos hk]
    simp
  | p :: P, w :: vs, i + 1, m, nd, h1, h2, hk => by
    show bindL kindOf ((p, w) :: P.zip vs) m x = _
    unfold bindL
    exact bindL_get (i := i) (List.nodup_cons.mp nd).2 (by simpa using h1) (by simpa using h2) hk
theorem bindC_get {kindOf : Str → Option NameKind} {x : Str} {v : Value} : ∀ {P : List Str} {vs : List Value} {i : Nat} {m : Str → Option Value}, P.Nodup → P[i]? = some x → vs[i]? = some v → kindOf x ≠ some .local →
    bindC kindOf (P.zip vs) m x = some v
  | [], _, _, _, _, h, _, _ => by simp at h
  | _ :: _, [], _, _, _, _, h, _ => by simp at h
  | p :: P, w :: vs, 0, m, nd, h1, h2, hk => by
    simp at h1 h2; subst h1; subst h2
    show bindC kindOf ((p, w) :: P.zip vs) m p = _
    unfold bindC
    rw [bindC_out fun v hv => (List.nodup_cons.mp nd).1 (List.of_mem_zip hv).1, if_neg hk]
    simp
  | p :: P, w :: vs, i + 1, m, nd, h1, h2, hk => by
    show bindC kindOf ((p, w) :: P.zip vs) m x = _
    unfold bindC
    exact bindC_get (i := i) (List.nodup_cons.mp nd).2 (by simpa using h1) (by simpa using h2) hk
def start (N : List Str) (vs : List V) : St := vs.map some ++ List.replicate (N.length - vs.length) none
def cxOf (CX : CXT) (P : Program) (w : World) (K : PySem.W.Frag) (mg : Str → Option Value) (base : Heap) (N : List Str) (qual : Str) (scope : Scope) (f : Addr) (cd : Value) (A : Around) (outer : List Env) (s : Shared) (H : Hp) (E : XK) : Cx where
  prog := P
  w := w
  K := K
  mg := mg
  base := base
  A := A.deeper (envOfC qual scope s.heap.objs.size f cd)
  N := N
  s₀ := s
  H₀ := H
  env := envOfC qual scope s.heap.objs.size f cd
  outer := outer
  stack := envOfC qual scope s.heap.objs.size f cd :: outer
  ex := []
  calm := true
  fn := fun _ => true
  pn := []
  xe := fun e s' => wpAny (model P w) (A.deeper (envOfC qual scope s.heap.objs.size f cd)) (leaving (envOfC qual scope s.heap.objs.size f cd) e) (fun _ s'' => CX outer H s E e s'') (fun e' s'' => CX outer H s E e' s'') s'
theorem cell_has {sc : Scope} {n : Nat} {x : Str} (h : sc.names.lookup x = some .cell) : ∃ c, (cellsFrom n sc.names []).lookup x = some c := by
  have q := PySem.W.cellsFrom_some sc.names n [] (.inl h)
  exact Option.isSome_iff_exists.mp q
theorem inv_start {CX : CXT} {P : Program} {w : World} {K : PySem.W.Frag} {mg : Str → Option Value} {base : Heap} {N ps : List Str} {qual : Str} {scope : Scope} {f : Addr} {cd : Value} {A : Around} {outer : List Env} {s s1 : Shared} {H : Hp} {E : XK} {us : List Value} {vs : List V}
    (S : FnScope N ps scope) (hd : A.handled = none) (e0 : Env0 P w K mg base A outer s H) (hl : vs.length = ps.length) (r : Vals vs us)
    (x : InCallC s s.heap.objs.size (bindL (envOfC qual scope s.heap.objs.size f cd).kindOf (ps.zip us) fun _ => none) (cellsFrom (s.heap.objs.size + 1) scope.names []) (bindC (envOfC qual scope s.heap.objs.size f cd).kindOf (ps.zip us) fun _ => none) s1) :
    Inv (cxOf CX P w K mg base N qual scope f cd A outer s H E) [] (start N vs) H s1 := by
  have hpl : ps.length ≤ N.length := by have := congrArg List.length S.pre; rw [List.length_take] at this; omega
  obtain ⟨h1, tk, rfl, hk⟩ := x.done
  have noA : ∀ b : Addr, b ∉ (cxOf CX P w K mg base N qual scope f cd A outer s H E).ex := fun b z => absurd (show b ∈ ([] : List Addr) from z) (by simp)
  refine ⟨⟨e0.mod, S.kind, rfl, rfl, Nat.le_refl _, fun y z c h1 h2 => ?_, fun y hy => ?_, fun y c _ h => ?_, fun _ => hd, Around.frames_deeper e0.frames, .inr ⟨rfl, rfl⟩, fun b z => absurd z (noA b), e0.bs, e0.bsz, fun b _ _ => noA b, fun b z => absurd z (noA b), e0.funs, e0.frf⟩,
    rfl, e0.bare, Un.kept hk, ⟨_, x.toInCall.ns, fun i y v h1 h2 h3 => ?_⟩, fun y c h => ⟨_, x.cell y c h⟩, e0.hok.fresh (Nat.le_refl _), fun y c h => ?_, fun p hp => absurd (show p ∈ ([] : List (Addr × Obj)) from hp) (by simp), e0.hok.kept hk, ?_⟩
  · exact name_of_addr x.apart (PySem.mem_of_lookup h1) (PySem.mem_of_lookup h2)
  · have hy : scope.names.lookup y = some .cell ∨ scope.names.lookup y = some .free := hy
    rcases hy with hy | hy
    · exact cell_has hy
    · exact absurd rfl (S.nofree _ (PySem.mem_of_lookup hy))
  · exact Nat.le_of_lt (x.above y c (PySem.mem_of_lookup h))
  · have hi : i < vs.length := by
      unfold start at h2
      by_cases hi : i < vs.length
      · exact hi
      · rw [List.getElem?_append_right (by simpa using hi)] at h2
        rw [List.getElem?_replicate] at h2
        split at h2 <;> cases h2
    have ha : vs[i]? = some v := by
      unfold start at h2
      rw [List.getElem?_append_left (by simpa using hi), List.getElem?_map] at h2
      cases e : vs[i]? with
      | none => rw [e] at h2; cases h2
      | some a => rw [e] at h2; cases h2; rfl
    obtain ⟨u, hu, rv⟩ := r.get ha
    have hp : ps[i]? = some y := by
      rw [← S.pre, List.getElem?_take_of_lt (by omega)]; exact h1
    have ndP : ps.Nodup := by rw [← S.pre]; exact S.nd.sublist (List.take_sublist _ _)
    refine ⟨u, rv, ?_⟩
    rcases S.par y (List.mem_of_getElem? hp) with k | k
    · exact .inl ⟨k, bindL_get ndP hp hu k⟩
    · obtain ⟨c, e⟩ := cell_has (n := s.heap.objs.size + 1) k
      refine .inr ⟨.inl k, c, e, ?_⟩
      have q := x.cell y c e
      rw [bindC_get ndP hp hu (by show scope.names.lookup y ≠ _; rw [k]; decide)] at q
      exact q
  · exact e0.hok.fresh (Nat.le_of_lt (x.above y c (PySem.mem_of_lookup h)))
  · unfold start
    show _ = N.length
    rw [List.length_append, List.length_map, List.length_replicate]
    omega
theorem fn_of {CX : CXT} {P : Program} {w : World} {K : PySem.W.Frag} {mg : Str → Option Value} {base : Heap} {k : Nat} {f : Addr} {name qual : Str} {params : Arguments} {body : List Stmt} {scope : Scope} {dV kV doc pm cdv ct oc : Value} {an od : Option Addr}
    {osl : Array (Option Value)} {N ps : List Str} {sp : Sp} (lk : K.lookup f = some ⟨oc, od, .func (PySem.W.fnOf name qual params body scope dV kV doc pm an cdv ct), osl⟩) (hcd : PySem.W.codeIn K cdv qual = true) (S : FnScope N ps scope)
    (len : ∀ vs H Q E, sp vs H Q E → vs.length = ps.length)
    (hbody : ∀ (A : Around) (outer : List Env) (s : Shared) (H : Hp) (vs : List V) (Q : VK) (E : XK), Room k (A.deeper (envOfC qual scope s.heap.objs.size f cdv)) → sp vs H Q E →
      ∃ t, PSs (cxOf CX P w K mg base N qual scope f cdv A outer s H E) body t ∧ t { nx := fun _ H' => Q .non H', rt := Q } (start N vs) H) :
    FnOk P w K mg base CX (k + 1) f (PySem.W.fnOf name qual params body scope dV kV doc pm an cdv ct) ps sp := by
  refine ⟨len, fun A outer s H args us vs Q E hr e0 hb r hsp => ?_⟩
  have hl := len _ _ _ _ hsp
  have KX : K.In s.heap := e0.mod.kin.keeps fun b o e => (e0.bs b o e).1
  have lim : s.heap.NoLimit := e0.mod.nolimit.keeps fun b o e => (e0.bs b o e).1
  have hkind : ∀ y ∈ ps.zip us, scope.names.lookup y.1 = some .local ∨ (scope.names.lookup y.1 = some .cell ∧ ((cellsFrom (s.heap.objs.size + 1) scope.names []).lookup y.1).isSome = true) := fun ⟨n, v⟩ hy => by
    rcases S.par n (List.of_mem_zip hy).1 with q | q
    · exact .inl q
    · exact .inr ⟨q, PySem.W.cellsFrom_some _ _ _ (.inl q)⟩
  refine codeAny_call_function hr.depth (KX _ _ lk) rfl S.co S.gen rfl (PySem.W.codeRec_of KX hcd) (hb _ _ _ _ ?_)
  refine wpAny_newFunctionEnv_cells S.kind hkind fun env he s1 x => ?_
  subst he
  refine ⟨lim.keeps x.toInCall.keep, codeAny_func ?_⟩
  obtain ⟨t, ht, hq⟩ := hbody A outer s H vs Q E (hr.deeper _) hsp
  have I : Inv (cxOf CX P w K mg base N qual scope f cdv A outer s H E) [] (start N vs) H s1 := inv_start S hr.hd e0 hl r x
  refine wpAny_mono (ht [] s1 (start N vs) H _ I hq) (fun fl s' hs => ?_) fun e s' hs => hs
  have fin : ∀ {σ' : St} {H' : Hp} {v : V} {u : Value}, Inv (cxOf CX P w K mg base N qual scope f cdv A outer s H E) [] σ' H' s' → RelV v u → Q v H' → CE outer P w H s Q u s' :=
    fun {σ' H' v u} J rv q => ⟨v, H', J.os, J.bare, J.base, J.hok, rv, q⟩
  cases fl with
  | ret u =>
    obtain ⟨v, σ', H', J, rv, q⟩ := hs
    exact fin J rv q
  | next =>
    obtain ⟨σ', H', J, q⟩ := hs
    exact fin (v := V.non) (u := Value.none) J rfl q
  | brk =>
    obtain ⟨_, _, _, q⟩ := hs
    exact False.elim q
  | cont =>
    obtain ⟨_, _, _, q⟩ := hs
    exact False.elim q
end L2
namespace L2
open PySem PySem.Spec PyProof.Rows
section
variable {X : Cx} {x : Str} {p pos : Pos} {e : Expr} {es : List Expr} {t : TA} {id T : String} {r : List V → Hp → VK → Prop}
def tCB (r : List V → Hp → VK → Prop) (t : TA) : TE := fun σ H Q => t σ H fun vs H1 => r vs H1 Q
theorem pe_callB (hc : CallR X (.builtin id) r) (hg : Gl X x) (hm : X.mg x = none) (hv : bootBuiltins x = some (.builtin id)) (ha : PA X (e :: es) t) (hn : x ≠ "__name__" := by decide) (hdb : (x == ("__debug__" : Str)) = false := by decide)
    (he : starEach (e :: es) X.env = (false, eval e X.env) :: starEach es X.env := by rfl) (hpl : (backTo pos (starEach es X.env)).any (·.1) = false := by rfl) : PE X (.Call (.Name x p) (e :: es) [] pos) (tCB r t) := by
  intro pins s σ H Q I h
  refine wpAny_Call_Name_kw (ld_blt I hg hm hv ?_ hn hdb)
  exact PyProof.Rows.callWith_builtin1 (thn (ha pos pins s σ H _ I h) fun us s1 ⟨vs, H1, I1, r1, q1⟩ => hc pins s1 σ H1 vs us Q I1 r1 q1) he hpl
theorem pe_callTy (hc : CallR X (.type T) r) (hg : Gl X x) (hm : X.mg x = none) (hv : bootBuiltins x = some (.type T)) (ha : PA X (e :: es) t) (hn : x ≠ "__name__" := by decide) (hdb : (x == ("__debug__" : Str)) = false := by decide)
    (he : starEach (e :: es) X.env = (false, eval e X.env) :: starEach es X.env := by rfl) (hpl : (backTo pos (starEach es X.env)).any (·.1) = false := by rfl) : PE X (.Call (.Name x p) (e :: es) [] pos) (tCB r t) := by
  intro pins s σ H Q I h
  refine wpAny_Call_Name_kw (ld_blt I hg hm hv ?_ hn hdb)
  exact PyProof.Rows.callWith_type1 (thn (ha pos pins s σ H _ I h) fun us s1 ⟨vs, H1, I1, r1, q1⟩ => hc pins s1 σ H1 vs us Q I1 r1 q1) he hpl
end
end L2
namespace HT
open PySem PyProof.Rows
section
open PySem.SeqAt
open PySem.AutoSeq1 (wpAny_loadPart')
open PySem.MeetsSeq PySem.MeetsSeq2 PySem.MeetsSeq3
end
section
variable {prog : Program} {w : World} {A : Around} {E : Value → Shared → Prop} {s : Shared}
def sIx (n d : Nat) : Option Int → Nat
  | none => d
  | some v => if v < 0 then (v + (n : Int)).toNat else min v.toNat n
theorem sIx_none (n d : Nat) : sIx n d none = d := rfl
theorem sIx_nat (n d k : Nat) : sIx n d (some (k : Int)) = min k n := by
  show (if (k : Int) < 0 then ((k : Int) + (n : Int)).toNat else min (k : Int).toNat n) = min k n
  rw [if_neg (by omega), Int.toNat_natCast]
theorem sIx_le (n d : Nat) (hd : d ≤ n) (o : Option Int) : sIx n d o ≤ n := by
  cases o with
  | none => exact hd
  | some v =>
    show (if v < 0 then (v + (n : Int)).toNat else min v.toNat n) ≤ n
    by_cases hv : v < 0
    · rw [if_pos hv]; omega
    · rw [if_neg hv]; exact Nat.min_le_right _ _
theorem clip_eq (v : Int) (n d : Nat) : (if v < 0 then max (v + (n : Int)) 0 else min v (n : Int)) = ((sIx n d (some v) : Nat) : Int) := by
  show (if v < 0 then max (v + (n : Int)) 0 else min v (n : Int)) = (((if v < 0 then (v + (n : Int)).toNat else min v.toNat n) : Nat) : Int)
  by_cases hv : v < 0
  · simp only [if_pos hv]; omega
  · simp only [if_neg hv]; omega
end
end HT
namespace L2
open PySem PySem.Spec PyProof.Rows
abbrev TO := St → Hp → (Option Int → Hp → Prop) → Prop
def PO (X : Cx) (e : Option Expr) (t : TO) : Prop :=
  ∀ (pins : List (Addr × Obj)) (s : Shared) (σ : St) (H : Hp) (Q : Option Int → Hp → Prop), Inv X pins σ H s → t σ H Q →
    wpAny (model X.prog X.w) X.A (evalPart e X.env) (fun u s' => ∃ o H', Inv X pins σ H' s' ∧ IsPart u o ∧ Q o H') X.xe s
def tNoPart : TO := fun _ H Q => Q none H
def tPart (t : TE) : TO := fun σ H Q => t σ H fun x H1 => ∃ i, x = .int i ∧ Q (some i) H1
section
variable {X : Cx} {e : Expr} {te : TE} {lo hi : Option Expr} {tl th : TO} {pos p2 : Pos}
theorem po_none : PO X none tNoPart := by
  intro pins s σ H Q I h
  rw [evalPart_none]
  exact wpAny_pure ⟨none, H, I, .none, h⟩
theorem po_some (h : PE X e te) : PO X (some e) (tPart te) := by
  intro pins s σ H Q I hw
  rw [evalPart_some]
  refine thn (h pins s σ H _ I hw) fun u s1 ⟨x, H1, I1, r1, q1⟩ => ?_
  obtain ⟨i, rfl, q⟩ := q1
  obtain ⟨t, rfl⟩ := r1
  exact ⟨some i, H1, I1, .int i t, q⟩
def SlR (X : Cx) (r : V → Option Int → Option Int → Hp → VK → Prop) : Prop :=
  ∀ (pins : List (Addr × Obj)) (s : Shared) (σ : St) (H : Hp) (x : V) (v vl vu : Value) (lo hi : Option Int) (sl : Addr) (Q : VK), Inv X pins σ H s → RelV x v → s.heap.IsSliceOf sl vl vu .none → IsPart vl lo → IsPart vu hi → r x lo hi H Q →
    ∃ T id, typeLookup (.type T) "__getitem__" = pure (some (.builtin id)) ∧ s.TypeIs v T ∧ wpAny (model X.prog X.w) X.A (getItem v (.ref sl)) (EP X pins σ Q) X.xe s
def tSl (r : V → Option Int → Option Int → Hp → VK → Prop) (te : TE) (tl th : TO) : TE := fun σ H Q => te σ H fun x H1 => tl σ H1 fun l H2 => th σ H2 fun u H3 => r x l u H3 Q
theorem pe_slice {r : V → Option Int → Option Int → Hp → VK → Prop} (hr : SlR X r) (he : PE X e te) (hl : PO X lo tl) (hu : PO X hi th) : PE X (.Subscript e (.Slice lo hi none p2) pos) (tSl r te tl th) := by
  intro pins s σ H Q I h
  refine Subscript_ (thn (he pins s σ H _ I h) fun v s1 ⟨x, H1, I1, r1, q1⟩ => ?_)
  refine wpAny_Slice (thn (hl pins s1 σ H1 _ I1 q1) fun vl s2 ⟨l, H2, I2, pl, q2⟩ => thn (hu pins s2 σ H2 _ I2 q2) fun vu s3 ⟨u, H3, I3, pu, q3⟩ => ?_)
  rw [evalPart_none]
  refine wpAny_pure ?_
  have I4 : Inv X pins σ H3 { s3 with heap := s3.heap.push { cls := .type "slice", data := .fields #[vl, vu, .none] } } := I3.kept (t' := s3.toks) fun b ob q => Heap.get?_push_of_some _ q
  obtain ⟨T, id, hT, ht, hg⟩ := hr pins { s3 with heap := s3.heap.push { cls := .type "slice", data := .fields #[vl, vu, .none] } } σ H3 x v vl vu l u s3.heap.objs.size Q I4 r1 (Heap.IsSliceOf.new ..) pl pu q3
  show wpAny (model X.prog X.w) X.A (subscriptTail e (.Slice lo hi none p2) v (.ref s3.heap.objs.size)) (EP X pins σ Q) X.xe { s3 with heap := s3.heap.push { cls := .type "slice", data := .fields #[vl, vu, .none] } }
  exact tail_any (ops := [.ref s3.heap.objs.size, v]) ht hT hg (by with_unfolding_all rfl)
def cutV (xs : List V) (lo hi : Option Int) : List V := (xs.drop (HT.sIx xs.length 0 lo)).take (HT.sIx xs.length xs.length hi - HT.sIx xs.length 0 lo)
theorem cutV_length (xs : List V) (lo hi : Option Int) : (cutV xs lo hi).length ≤ xs.length := by
  unfold cutV
  rw [List.length_take, List.length_drop]
  omega
end
end L2
namespace L2
open PySem PySem.Spec PyProof.Rows
def ixN (n : Nat) (i : Int) : Option Nat := if 0 ≤ i then (if i < n then some i.toNat else none) else if -(n : Int) ≤ i then some (i + n).toNat else none
def atI {α : Type} (xs : List α) (i : Int) : Option α := (ixN xs.length i).bind fun j => xs[j]?
theorem ixN_seq {n : Nat} {i : Int} {j : Nat} (h : ixN n i = some j) : seqIndex? i n = some j ∧ j < n ∧ -(n : Int) ≤ i ∧ i < n := by
  unfold ixN at h
  by_cases h0 : 0 ≤ i
  · rw [if_pos h0] at h
    by_cases h1 : i < n
    · rw [if_pos h1] at h
      have e : i.toNat = j := Option.some.inj h
      exact ⟨by rw [seqIndex_of h0 h1, e], by omega, by omega, h1⟩
    · rw [if_neg h1] at h; cases h
  · rw [if_neg h0] at h
    by_cases h1 : -(n : Int) ≤ i
    · rw [if_pos h1] at h
      have e : (i + n).toNat = j := Option.some.inj h
      exact ⟨by rw [seqIndex_neg (by omega) h1, e], by omega, h1, by omega⟩
    · rw [if_neg h1] at h; cases h
theorem atI_get {α : Type} {xs : List α} {i : Int} {v : α} (h : atI xs i = some v) : ∃ j, seqIndex? i xs.length = some j ∧ xs[j]? = some v ∧ j < xs.length ∧ -(xs.length : Int) ≤ i ∧ i < xs.length := by
  unfold atI at h
  cases e : ixN xs.length i with
  | none => rw [e] at h; cases h
  | some j =>
    rw [e] at h
    obtain ⟨h1, h2, h3, h4⟩ := ixN_seq e
    exact ⟨j, h1, h, h2, h3, h4⟩
theorem atI_nat {α : Type} {xs : List α} {j : Nat} {v : α} (h : xs[j]? = some v) : atI xs (j : Int) = some v := by
  have hj : j < xs.length := (List.getElem?_eq_some_iff.mp h).1
  have e : ixN xs.length (j : Int) = some j := by
    unfold ixN
    rw [if_pos (by omega), if_pos (by omega)]; simp
  unfold atI; rw [e]; exact h
theorem atI_last {α : Type} (xs : List α) (v : α) : atI (xs ++ [v]) (-1) = some v := by
  have hl : (xs ++ [v]).length = xs.length + 1 := by simp
  have e : ixN (xs ++ [v]).length (-1) = some xs.length := by
    unfold ixN
    rw [hl, if_neg (by decide), if_pos (by omega)]
    congr 1
    omega
  unfold atI
  rw [e]
  show (xs ++ [v])[xs.length]? = some v
  simp
def PlainIx (b : Expr) : Prop := ∀ o i, subscripted b false o i = operate [o, i] (getItem o i)
def IxR (X : Cx) (r : R2) : Prop :=
  ∀ (value slice : Expr) (pins : List (Addr × Obj)) (s : Shared) (σ : St) (H : Hp) (x y : V) (v u : Value) (Q : VK), Inv X pins σ H s → RelV x v → RelV y u → r x y H Q →
    subscripted slice false v u = operate [v, u] (getItem v u) → wpAny (model X.prog X.w) X.A (subscriptTail value slice v u) (EP X pins σ Q) X.xe s
def MtR (X : Cx) (id : String) (r : V → List V → Hp → VK → Prop) : Prop :=
  ∀ (pins : List (Addr × Obj)) (s : Shared) (σ : St) (H : Hp) (x : V) (xs : List V) (v : Value) (us : List Value) (Q : VK), Inv X pins σ H s → RelV x v → Vals xs us → r x xs H Q →
    wpAny (model X.prog X.w) X.A (call (.builtin id) (v :: us)) (EP X pins σ Q) X.xe s
section
variable {X : Cx} {a b : Expr} {ta tb : TE} {pos : Pos}
theorem pe_ix {r : R2} (hr : IxR X r) (ha : PE X a ta) (hb : PE X b tb) (hs : PlainIx b) : PE X (.Subscript a b pos) (tOp r ta tb) := by
  intro pins s σ H Q I h
  exact Subscript_ (binT ha hb I h fun v u s2 x y H2 I2 rx ry q => hr a b pins s2 σ H2 x y v u Q I2 rx ry q (hs _ _))
def rIxL (K : PySem.W.Frag) : R2 := fun x y H Q => ∃ p xs i v, x = .ref p ∧ y = .int i ∧ SqL K H p xs ∧ atI xs i = some v ∧ Q v H
def rIxS : R2 := fun x y H Q => ∃ z i c, x = .str z ∧ y = .int i ∧ z.length ≤ sizeLine ∧ atI z.cps.toList i = some c ∧ Q (.str ⟨#[c]⟩) H
theorem ix_list : IxR X (rIxL X.K) := by
  intro value slice pins s σ H x y v u Q I rx ry h hs
  obtain ⟨p, xs, i, z, rfl, rfl, hq, he, q⟩ := h
  cases rx
  obtain ⟨t, rfl⟩ := ry
  obtain ⟨its, r, pl, hz⟩ := I.list hq
  obtain ⟨j, h1, h2, h3, h4, h5⟩ := atI_get he
  obtain ⟨w, ew, rw'⟩ := r.get h2
  have hl := r.length
  have hn := line63
  have fin : EP X pins σ Q w s := ⟨z, H, I, rw', q⟩
  by_cases h0 : 0 ≤ i
  · have hj : i.toNat = j := by
      rw [seqIndex_of h0 h5] at h1
      exact Option.some.inj h1
    exact item_listR pl.isList h0 (by omega) (by rw [hj]; simpa using ew) fin hs
  · have hj : (i + (its.toArray.size : Int)).toNat = j := by
      rw [seqIndex_neg (by omega) h4] at h1
      rw [List.size_toArray, ← hl]
      exact Option.some.inj h1
    exact subscriptTail_builtinR (x := w) pl.isList.typeIs slot_list_getitem.lookup
      (wpAny_getItem_list_neg (Q := fun r s' => r = w ∧ EP X pins σ Q r s') pl.isList (by omega) (by rw [List.size_toArray] <;> omega) (by omega) (by rw [hj]; simpa using ew) ⟨rfl, fin⟩) hs
theorem ix_str : IxR X rIxS := by
  intro value slice pins s σ H x y v u Q I rx ry h hs
  obtain ⟨z, i, c, rfl, rfl, hz, he, q⟩ := h
  obtain ⟨t, rfl⟩ := rx
  obtain ⟨t', rfl⟩ := ry
  obtain ⟨j, h1, h2, h3, h4, h5⟩ := atI_get he
  have hl : z.cps.toList.length = z.length := by simp [Str.length]
  rw [hl] at h1 h4 h5
  have hn := line63
  exact tail_any (typeIs_str s z t) slot_str_getitem.lookup (getItem_str (c := c) (by
    have e1 : decide (i < -(2 ^ 63 : Int)) = false := decide_eq_false (by omega)
    have e2 : decide (i ≥ 2 ^ 63) = false := decide_eq_false (by omega)
    rw [e1, e2, Bool.or_false]) (by rw [h1]; simpa using h2) ⟨.str ⟨#[c]⟩, H, I.tok _, ⟨_, rfl⟩, q⟩) hs
theorem mapSeq_set (its : List Value) (n j : Nat) (u : Value) : Obj.mapSeq (·.setIfInBounds j u) { cls := .type "list", data := .seq its.toArray n } = { cls := .type "list", data := .seq (its.set j u).toArray n } := by
  simp [Obj.mapSeq]
theorem Inv.lst {pins : List (Addr × Obj)} {σ : St} {H : Hp} {s : Shared} {p : Addr} {xs : List V} (I : Inv X pins σ H s) (h : H p = some (.lst xs)) :
    ∃ (its : List Value) (n : Nat), Vals xs its ∧ s.heap.get? p = some { cls := .type "list", data := .seq its.toArray n } ∧ xs.length ≤ sizeLine := by
  obtain ⟨z, its, n, r, e⟩ := I.hok p _ h
  exact ⟨its, n, r, e, z⟩
theorem Inv.lstUpd {pins : List (Addr × Obj)} {σ : St} {H : Hp} {s : Shared} {p : Addr} {xs ys : List V} {its its' : List Value} {n n' : Nat} {f : Obj → Obj} (I : Inv X pins σ H s) (h : H p = some (.lst xs))
    (ho : s.heap.get? p = some { cls := .type "list", data := .seq its.toArray n }) (hf : f { cls := .type "list", data := .seq its.toArray n } = { cls := .type "list", data := .seq its'.toArray n' }) (r : Vals ys its') (hz : ys.length ≤ sizeLine) (t : Nat) :
    Inv X pins σ (upd H p (.lst ys)) { s with heap := s.heap.update p f, toks := t } := by
  have e : (s.heap.update p f).get? p = some { cls := .type "list", data := .seq its'.toArray n' } := by
    rw [Heap.get?_update_self f ho (by rw [hf] <;> rfl), hf]
  refine I.write (x := p) (e := p) (by rw [h]; trivial) (.inl rfl) (fun b u hb q => (Heap.get?_update_other _ _ (Ne.symm hb)).trans q) ⟨_, e⟩ ?_
  exact ⟨hz, its', n', r, e⟩
def rSetL : V → V → V → Hp → (Hp → Prop) → Prop := fun o i v H Q => ∃ p xs k j, o = .ref p ∧ i = .int k ∧ H p = some (.lst xs) ∧ ixN xs.length k = some j ∧ Q (upd H p (.lst (xs.set j v)))
theorem set_list : PSet X rSetL := by
  intro pins s σ H o i v ov iv u Q I ro ri rv h
  obtain ⟨p, xs, k, j, rfl, rfl, hp, hj, q⟩ := h
  cases ro
  obtain ⟨t, rfl⟩ := ri
  obtain ⟨its, n, r, ho, hz⟩ := I.lst hp
  obtain ⟨h1, h2, h3, h4⟩ := ixN_seq hj
  have hl := r.length
  have hn := line63
  have I' : Inv X pins σ (upd H p (.lst (xs.set j v))) { s with heap := s.heap.update p (Obj.mapSeq (·.setIfInBounds j u)) } :=
    I.lstUpd hp ho (mapSeq_set its n j u) (r.set rv j) (by rw [List.length_set]; exact hz) s.toks
  by_cases h0 : 0 ≤ k
  · have hk : k.toNat = j := by
      rw [seqIndex_of h0 h4] at h1
      exact Option.some.inj h1
    exact PySem.W.ki_setAt ho h0 (by omega) (by rw [List.size_toArray, ← hl]; exact h4) (by rw [hk]; exact ⟨_, I', q⟩)
  · have hk : (k + (its.toArray.size : Int)).toNat = j := by
      rw [seqIndex_neg (by omega) h3] at h1
      rw [List.size_toArray, ← hl]
      exact Option.some.inj h1
    exact PySem.W.ki_setBack ho (by omega) (by rw [List.size_toArray, ← hl]; exact h3) (by omega) (by rw [hk]; exact ⟨_, I', q⟩)
theorem slice_bounds (lo hi : Option Int) (n : Nat) : (sliceBounds lo hi none n).1 = ((HT.sIx n 0 lo : Nat) : Int) ∧ (sliceBounds lo hi none n).2.1 = ((HT.sIx n n hi : Nat) : Int) ∧ (sliceBounds lo hi none n).2.2 = 1 := by
  refine ⟨?_, ?_, rfl⟩
  · cases lo with
    | none => simp [sliceBounds, HT.sIx]
    | some i =>
      simp only [sliceBounds, HT.sIx, Option.getD_none, show (1 : Int) > 0 by decide, if_true]
      by_cases h : i < 0
      · simp only [h, if_true] <;> omega
      · simp only [h, if_false] <;> omega
  · cases hi with
    | none => simp [sliceBounds, HT.sIx]
    | some i =>
      simp only [sliceBounds, HT.sIx, Option.getD_none, show (1 : Int) > 0 by decide, if_true]
      by_cases h : i < 0
      · simp only [h, if_true] <;> omega
      · simp only [h, if_false] <;> omega
theorem slicePick_cut (its : List Value) (lo hi : Option Int) : slicePick its.toArray lo hi none = ((its.drop (HT.sIx its.length 0 lo)).take (HT.sIx its.length its.length hi - HT.sIx its.length 0 lo)).toArray := by
  obtain ⟨h1, h2, h3⟩ := slice_bounds lo hi its.toArray.size
  unfold slicePick
  rw [h1, h2, h3]
  simp only [sliceRange_one, pick_run, List.size_toArray] <;> rfl
def rSlL (K : PySem.W.Frag) : V → Option Int → Option Int → Hp → VK → Prop := fun x lo hi H Q => ∃ a xs, x = .ref a ∧ SqL K H a xs ∧ ∀ p, H p = none → Q (.ref p) (upd H p (.lst (cutV xs lo hi)))
theorem sl_list : SlR X (rSlL X.K) := by
  intro pins s σ H x v vl vu lo hi sl Q I rx hs pl pu h
  obtain ⟨a, xs, rfl, hx, q⟩ := h
  cases rx
  obtain ⟨its, r, ht, hz⟩ := I.list hx
  have hlen := r.length
  refine ⟨"list", _, slot_list_getitem.lookup, ht.isList.typeIs, ?_⟩
  refine wpAny_getItem_list_slice ht.isList hs pl pu .none (by simp) ?_ (by rw [List.size_toArray] <;> omega)
  rw [slicePick_cut, ← hlen]
  refine ⟨.ref s.heap.objs.size, _, I.laid (t' := s.toks) (o := .lst (cutV xs lo hi)) (fun b ob q => Heap.get?_push_of_some _ q) (Nat.le_refl _) ?_, rfl, q _ (I.hok.fresh (Nat.le_refl _))⟩
  exact ⟨Nat.le_trans (cutV_length xs lo hi) hz, _, 0, (r.drop (HT.sIx xs.length 0 lo)).take (HT.sIx xs.length xs.length hi - HT.sIx xs.length 0 lo), Heap.get?_push_size _ rfl⟩
def flatV : V → Bool
  | .non => true
  | .bl _ => true
  | .int _ => true
  | .str _ => true
  | _ => false
def eqV : V → V → Bool
  | .non, .non => true
  | .bl a, .bl b => a == b
  | .bl a, .int b => (if a then 1 else 0) == b
  | .int a, .bl b => a == (if b then 1 else 0)
  | .int a, .int b => a == b
  | .str a, .str b => a == b
  | _, _ => false
theorem eqAt_V {A : Around} {s : Shared} {y x : V} {u v : Value} (ry : RelV y u) (rx : RelV x v) (fy : flatV y = true) (fx : flatV x = true) : SeqAt.EqAt A s u v (eqV y x) := by
  cases y with
  | non =>
    cases ry
    cases x with
    | non => cases rx; exact SeqAt.EqAt.same _
    | bl b => cases rx; exact SeqAt.EqAt.none_bool b
    | int b => obtain ⟨t, rfl⟩ := rx; exact SeqAt.EqAt.none_int b t
    | str b => obtain ⟨t, rfl⟩ := rx; exact SeqAt.EqAt.none_str b t
    | _ => exact absurd (show false = true from fx) Bool.false_ne_true
  | bl a =>
    cases ry
    cases x with
    | non => cases rx; exact SeqAt.EqAt.bool_none a
    | bl b => cases rx; exact SeqAt.EqAt.bool_bool a b
    | int b => obtain ⟨t, rfl⟩ := rx; exact SeqAt.EqAt.bool_int a b t
    | str b => obtain ⟨t, rfl⟩ := rx; exact SeqAt.EqAt.bool_str a b t
    | _ => exact absurd (show false = true from fx) Bool.false_ne_true
  | int a =>
    obtain ⟨t', rfl⟩ := ry
    cases x with
    | non => cases rx; exact SeqAt.EqAt.int_none a t'
    | bl b => cases rx; exact SeqAt.EqAt.int_bool a t' b
    | int b => obtain ⟨t, rfl⟩ := rx; exact SeqAt.EqAt.int_int a t' b t
    | str b => obtain ⟨t, rfl⟩ := rx; exact SeqAt.EqAt.int_str a t' b t
    | _ => exact absurd (show false = true from fx) Bool.false_ne_true
  | str a =>
    obtain ⟨t', rfl⟩ := ry
    cases x with
    | non => cases rx; exact SeqAt.EqAt.str_none a t'
    | bl b => cases rx; exact SeqAt.EqAt.str_bool a t' b
    | int b => obtain ⟨t, rfl⟩ := rx; exact SeqAt.EqAt.str_int a t' b t
    | str b => obtain ⟨t, rfl⟩ := rx; exact SeqAt.EqAt.str_str a t' b t
    | _ => exact absurd (show false = true from fx) Bool.false_ne_true
  | _ => exact absurd (show false = true from fy) Bool.false_ne_true
def eqU (x : V) (u : Value) : Bool := match u with
  | .none => eqV .non x
  | .bool b => eqV (.bl b) x
  | .int i _ => eqV (.int i) x
  | .str z _ => eqV (.str z) x
  | _ => false
theorem eqU_of {x y : V} {u : Value} (r : RelV y u) (f : flatV y = true) : eqU x u = eqV y x := by
  cases y with
  | non => cases r; rfl
  | bl b => cases r; rfl
  | int i => obtain ⟨t, rfl⟩ := r; rfl
  | str z => obtain ⟨t, rfl⟩ := r; rfl
  | _ => exact absurd (show false = true from f) Bool.false_ne_true
theorem any_eqU {x : V} : ∀ {xs : List V} {us : List Value}, Vals xs us → xs.all flatV = true → us.any (eqU x) = xs.any fun y => eqV y x
  | _, _, .nil, _ => rfl
  | y :: xs, u :: us, .cons r t, f => by
    rw [List.all_cons, Bool.and_eq_true] at f
    rw [List.any_cons, List.any_cons, eqU_of r f.1, any_eqU t f.2]
theorem mem_eqAt {A : Around} {s : Shared} {x : V} {v : Value} (rx : RelV x v) (fx : flatV x = true) : ∀ {xs : List V} {us : List Value}, Vals xs us → xs.all flatV = true → ∀ u ∈ us, SeqAt.EqAt A s u v (eqU x u)
  | _, _, .nil, _ => fun u hu => by cases hu
  | y :: xs, u :: us, .cons r t, f => fun u' hu => by
    rw [List.all_cons, Bool.and_eq_true] at f
    rcases List.mem_cons.mp hu with rfl | hu
    · rw [eqU_of r f.1]; exact eqAt_V r rx f.1 fx
    · exact mem_eqAt rx fx t f.2 u' hu
def inV (x : V) (xs : List V) : Bool := xs.any fun y => eqV y x
def rIn (K : PySem.W.Frag) (neg : Bool) : R2 := fun x y H Q => ∃ p xs, y = .ref p ∧ (SqL K H p xs ∨ SqT K H p xs) ∧ flatV x = true ∧ xs.all flatV = true ∧ Q (.bl (if neg then !inV x xs else inV x xs)) H
theorem op_in_seq : OpR X (compareOp .In) (rIn X.K false) := by
  intro pins s σ H x y v u Q I rx ry h
  obtain ⟨p, xs, rfl, hq, fx, fs, q⟩ := h
  cases ry
  rcases hq with hq | hq
  · obtain ⟨its, r, pl, hz⟩ := I.list hq
    refine SeqAt.in_listAt (eqU x) pl.isList (fun w hw => mem_eqAt rx fx r fs w (by simpa using hw)) ⟨.bl _, H, I, rfl, ?_⟩
    rw [show its.toArray.any (eqU x) = its.any (eqU x) by simp, any_eqU r fs]
    exact q
  · obtain ⟨its, r, pl, hz⟩ := I.tuple hq
    refine SeqAt.in_tupleAt (eqU x) pl (fun w hw => mem_eqAt rx fx r fs w (by simpa using hw)) ⟨.bl _, H, I, rfl, ?_⟩
    rw [show its.toArray.any (eqU x) = its.any (eqU x) by simp, any_eqU r fs]
    exact q
theorem op_notIn_seq : OpR X (compareOp .NotIn) (rIn X.K true) := by
  intro pins s σ H x y v u Q I rx ry h
  obtain ⟨p, xs, rfl, hq, fx, fs, q⟩ := h
  cases ry
  rcases hq with hq | hq
  · obtain ⟨its, r, pl, hz⟩ := I.list hq
    refine SeqAt.notIn_listAt (eqU x) pl.isList (fun w hw => mem_eqAt rx fx r fs w (by simpa using hw)) ⟨.bl _, H, I, rfl, ?_⟩
    rw [show its.toArray.any (eqU x) = its.any (eqU x) by simp, any_eqU r fs]
    exact q
  · obtain ⟨its, r, pl, hz⟩ := I.tuple hq
    refine SeqAt.notIn_tupleAt (eqU x) pl (fun w hw => mem_eqAt rx fx r fs w (by simpa using hw)) ⟨.bl _, H, I, rfl, ?_⟩
    rw [show its.toArray.any (eqU x) = its.any (eqU x) by simp, any_eqU r fs]
    exact q
theorem op_notIn_str : OpR X (compareOp .NotIn) (fun x y H Q => ∃ i j, x = .str i ∧ y = .str j ∧ Q (.bl (!(!(Builtin.Str.occurrences j i 0 j.length 1).isEmpty))) H) := by
  intro pins s σ H x y v u Q I rx ry h
  obtain ⟨i, j, rfl, rfl, q⟩ := h
  obtain ⟨t, rfl⟩ := rx
  obtain ⟨t', rfl⟩ := ry
  exact notIn_str ⟨.bl _, H, I, rfl, q⟩
theorem call_len_seq : CallR X (.builtin "len") (fun xs H Q => ∃ p ys, xs = [.ref p] ∧ (SqL X.K H p ys ∨ SqT X.K H p ys) ∧ Q (.int ys.length) H) := by
  intro pins s σ H xs us Q I r h
  obtain ⟨p, ys, rfl, hq, q⟩ := h
  obtain ⟨u, rfl, rx⟩ := vals1 r
  cases rx
  have hn := line63
  rcases hq with hq | hq
  · obtain ⟨its, r', pl, hz⟩ := I.list hq
    have hlen := r'.length
    exact Calls.call_len_list pl.isList (by simp only [List.size_toArray] <;> omega) ⟨.int ys.length, H, I.tok _, ⟨s.toks + 1, by rw [List.size_toArray, hlen]⟩, q⟩
  · obtain ⟨its, r', pl, hz⟩ := I.tuple hq
    have hlen := r'.length
    exact len_tuple pl (by simp only [List.size_toArray] <;> omega) ⟨.int ys.length, H, I.tok _, ⟨s.toks + 1, by rw [List.size_toArray, hlen]⟩, q⟩
theorem call_len_str : CallR X (.builtin "len") (fun xs H Q => ∃ z, xs = [.str z] ∧ z.length ≤ sizeLine ∧ Q (.int z.length) H) := by
  intro pins s σ H xs us Q I r h
  obtain ⟨z, rfl, hz, q⟩ := h
  obtain ⟨u, rfl, t, rfl⟩ := vals1 r
  have hn := line63
  exact len_str (by omega) ⟨.int z.length, H, I.tok _, ⟨_, rfl⟩, q⟩
theorem call_tuple_of : CallR X (.type "tuple") (fun xs H Q => ∃ p ys, xs = [.ref p] ∧ ((SqL X.K H p ys ∧ ∀ l, H l = none → Q (.ref l) (upd H l (.tup ys))) ∨ (SqT X.K H p ys ∧ Q (.ref p) H))) := by
  intro pins s σ H xs us Q I r h
  obtain ⟨p, ys, rfl, h⟩ := h
  obtain ⟨u, rfl, rx⟩ := vals1 r
  cases rx
  rcases h with ⟨hq, q⟩ | ⟨hq, q⟩
  · obtain ⟨its, r', pl, hz⟩ := I.list hq
    have hlen := r'.length
    refine call_tuple_list pl.isList (fun h' kp => ?_) (by simp only [List.size_toArray] <;> omega)
    have I1 : Inv X pins σ H { s with heap := h' } := I.kept (t' := s.toks) kp
    have I2 : Inv X pins σ (upd H h'.objs.size (.tup ys)) { s with heap := h'.push { cls := .type "tuple", data := .seq its.toArray } } :=
      I1.laid (t' := s.toks) (fun b o e => Heap.get?_push_of_some _ e) (Nat.le_refl _) (show ObjOk X.prog X.w _ _ _ (.tup ys) from ⟨hz, its, r', IsTup.new _ _⟩)
    exact ⟨.ref h'.objs.size, _, I2, rfl, q _ (I1.hok.fresh (Nat.le_refl _))⟩
  · obtain ⟨its, r', pl, hz⟩ := I.tuple hq
    exact call_tuple_same pl ⟨.ref p, H, I, rfl, q⟩
def tyV (K : PySem.W.Frag) (T : String) (x : V) (H : Hp) : Prop := match x with
  | .str _ => T = "str"
  | .int _ => T = "int"
  | .ref p => (T = "list" ∧ ∃ xs, SqL K H p xs) ∨ (T = "tuple" ∧ ∃ o, K.lookup p = some o ∧ o.cls = .type "tuple" ∧ o.dict = none) ∨
      (T = "dict" ∧ ((∃ kvs, H p = some (.dK kvs)) ∨ ∃ kvs, H p = some (.dT kvs))) ∨ (T = "set" ∧ ∃ S n, H p = some (.set S n))
  | _ => False
theorem tyV_is {pins : List (Addr × Obj)} {σ : St} {H : Hp} {s : Shared} {T : String} {x : V} {v : Value} (I : Inv X pins σ H s) (r : RelV x v) (ty : tyV X.K T x H) :
    s.TypeIs v T ∧ ∀ a, v = .ref a → ∃ ob, s.heap.get? a = some ob ∧ ob.dict = none := by
  cases x with
  | str z =>
    obtain ⟨t, rfl⟩ := r
    cases (show T = "str" from ty)
    exact ⟨typeIs_str s z t, fun _ e => nomatch e⟩
  | int i =>
    obtain ⟨t, rfl⟩ := r
    cases (show T = "int" from ty)
    exact ⟨typeIs_int s i t, fun _ e => nomatch e⟩
  | ref p =>
    cases r
    rcases ty with ⟨rfl, xs, hq⟩ | ⟨rfl, o, hk, hc, hd⟩ | ⟨rfl, hk⟩ | ⟨rfl, S, n, hk⟩
    · obtain ⟨its, _, pl, _⟩ := I.list hq
      refine ⟨pl.isList.typeIs, fun a e => ?_⟩
      cases e
      obtain ⟨o, n, e, c, hd, _⟩ := pl
      exact ⟨o, e, hd⟩
    · refine ⟨⟨o, I.kIn p o hk, hc⟩, fun a e => ?_⟩
      cases e
      exact ⟨o, I.kIn _ o hk, hd⟩
    · have z : ∃ o, s.heap.get? p = some o ∧ o.ExactDict := by
        rcases hk with ⟨kvs, hk⟩ | ⟨kvs, hk⟩
        · obtain ⟨_, _, _, _, o, _, _, e, ex, _⟩ := I.hok p _ hk
          exact ⟨o, e, ex⟩
        · obtain ⟨_, _, _, _, o, _, _, e, ex, _⟩ := I.hok p _ hk
          exact ⟨o, e, ex⟩
      obtain ⟨o, e, ex⟩ := z
      refine ⟨⟨o, e, ex.1⟩, fun a e2 => ?_⟩
      cases e2
      exact ⟨o, e, ex.2.1⟩
    · obtain ⟨o, _, _, _, e, ex, _⟩ := I.hok p _ hk
      refine ⟨⟨o, e, ex.1⟩, fun a e2 => ?_⟩
      cases e2
      exact ⟨o, e, ex.2.1⟩
  | _ => exact False.elim ty
def tBM0 (K : PySem.W.Frag) (T : String) (r : V → List V → Hp → VK → Prop) (to : TE) : TE := fun σ H Q => to σ H fun x H1 => tyV K T x H1 ∧ r x [] H1 Q
def tBM (K : PySem.W.Frag) (T : String) (r : V → List V → Hp → VK → Prop) (to : TE) (t : TA) : TE := fun σ H Q => to σ H fun x H1 => tyV K T x H1 ∧ t σ H1 fun xs H2 => r x xs H2 Q
variable {o e : Expr} {es : List Expr} {to : TE} {t : TA} {name : Str} {apos cpos : Pos} {T id : String} {r : V → List V → Hp → VK → Prop}
theorem pe_bm0 (pa : PlainAttrs T) (slot : Slot T name id) (hty : typeOf (.builtin id) = pure (.type "method_descriptor")) (hm : MtR X id r) (ho : PE X o to)
    (hbase : attributeBase o name X.env (eval o X.env) = eval o X.env := by rfl) (hline : (apos.endLine == cpos.line) = true := by rfl) : PE X (.Call (.Attribute o name apos) [] [] cpos) (tBM0 X.K T r to) := by
  intro pins s σ H Q I h
  refine wpAny_Call_method0_late hbase hline (thn (ho pins s σ H _ I h) fun v s1 ⟨x, H1, I1, r1, ty, q1⟩ => ?_)
  obtain ⟨h1, h2⟩ := tyV_is I1 r1 ty
  exact ⟨T, id, pa, slot, hty, h1, h2, Calls.callWith_builtin rfl (PySem.evalArgs_none (hm pins s1 σ H1 x [] v [] Q I1 r1 .nil q1))⟩
theorem pe_bm (pa : PlainAttrs T) (slot : Slot T name id) (hty : typeOf (.builtin id) = pure (.type "method_descriptor")) (hm : MtR X id r) (ho : PE X o to) (ha : PA X (e :: es) t)
    (hbase : attributeBase o name X.env (eval o X.env) = eval o X.env := by rfl)
    (hfew : ((backTo cpos (starEach (e :: es) X.env)).all (fun x => !x.1) && (backToKw cpos (keywordEach [] X.env)).all (fun x => x.1.isSome)
      && decide ((e :: es).length + ([] : List Keyword).length + (if ([] : List Keyword).isEmpty then 0 else 1) < 30)) = true := by rfl)
    (hline : (apos.endLine == cpos.line) = true := by rfl) (hs : starEach (e :: es) X.env = (false, eval e X.env) :: starEach es X.env := by rfl) (hplain : (backTo cpos (starEach es X.env)).any (·.1) = false := by rfl) :
    PE X (.Call (.Attribute o name apos) (e :: es) [] cpos) (tBM X.K T r to t) := by
  intro pins s σ H Q I h
  refine wpAny_Call_method_late hbase hfew hline rfl (thn (ho pins s σ H _ I h) fun v s1 ⟨x, H1, I1, r1, ty, q1⟩ => ?_)
  obtain ⟨h1, h2⟩ := tyV_is I1 r1 ty
  refine ⟨T, id, pa, slot, hty, h1, h2, ?_⟩
  have hA := ha cpos pins s1 σ H1 _ I1 q1
  rw [hs] at hA ⊢
  refine Calls.callWith_builtin (by show (false || (backTo cpos (starEach es X.env)).any (·.1)) = false; rw [hplain] <;> rfl) (Calls.evalArgs_plain ?_)
  exact thn hA fun us s2 ⟨vs, H2, I2, r2, q2⟩ => hm pins s2 σ H2 x vs v us Q I2 r1 r2 q2
/- xs.append(e), list.index on a module's tuple .. are MtR facts of 06m -/
end
end L2
namespace L2
open PySem PySem.Spec PyProof.Rows
def MtM (X : Cx) (id : String) (r : V → List V → Hp → VK → Prop) : Prop :=
  ∀ (pins : List (Addr × Obj)) (s : Shared) (σ : St) (H : Hp) (x : V) (xs : List V) (v : Value) (us : List Value) (Q : VK), Inv X pins σ H s → RelV x v → Vals xs us → r x xs H Q →
    wpAny (model X.prog X.w) X.A (call (.builtin id) (v :: us)) (EP X pins σ Q) X.xe s
theorem Vals.one : ∀ {x : V} {us : List Value}, Vals [x] us → ∃ u, us = [u] ∧ RelV x u
  | _, _, .cons r .nil => ⟨_, rfl, r⟩
theorem Vals.two : ∀ {x y : V} {us : List Value}, Vals [x, y] us → ∃ u v, us = [u, v] ∧ RelV x u ∧ RelV y v
  | _, _, _, .cons r (.cons q .nil) => ⟨_, _, rfl, r, q⟩
theorem Vals.zero : ∀ {us : List Value}, Vals [] us → us = []
  | _, .nil => rfl
theorem Vals.dropLast {xs : List V} {us : List Value} (h : Vals xs us) : Vals xs.dropLast us.dropLast := by
  induction h with
  | nil => exact .nil
  | cons r t ih =>
    cases t with
    | nil => exact .nil
    | cons q t' => exact .cons r ih
theorem erase_last {α : Type} (l : List α) : l.eraseIdx (l.length - 1) = l.dropLast := by
  induction l with
  | nil => rfl
  | cons a r ih =>
    cases r with
    | nil => rfl
    | cons b r =>
      have e : (a :: b :: r).length - 1 = ((b :: r).length - 1) + 1 := by
        have h1 : (a :: b :: r).length = r.length + 2 := rfl
        have h2 : (b :: r).length = r.length + 1 := rfl
        omega
      rw [e, List.eraseIdx_cons_succ, ih]
      all_goals rfl
section
variable {X : Cx} {pins : List (Addr × Obj)} {σ : St} {H : Hp} {s : Shared} {l b : Addr} {xs ys zs : List V}
theorem Inv.lset {its its' : List Value} {n : Nat} {f : Array Value → Array Value} {t' : Nat} (I : Inv X pins σ H s) (hH : H l = some (.lst xs))
    (e : s.heap.get? l = some { cls := .type "list", data := .seq its.toArray n }) (hf : f its.toArray = its'.toArray) (hv : Vals ys its') (hz : ys.length ≤ sizeLine) :
    Inv X pins σ (upd H l (.lst ys)) { s with heap := s.heap.update l (Obj.mapSeq f), toks := t' } := by
  have q := PySem.IsL.update e f
  rw [hf] at q
  refine I.write (x := l) (e := l) (by rw [hH]; exact trivial) (.inl rfl) (fun b' u hb hu => (Heap.get?_update_other s.heap (Obj.mapSeq f) (Ne.symm hb)).trans hu) ⟨_, q⟩ ?_
  exact ⟨hz, its', _, hv, q⟩
theorem Inv.lnew {its : List Value} {t' : Nat} (I : Inv X pins σ H s) (hv : Vals ys its) (hz : ys.length ≤ sizeLine) :
    Inv X pins σ (upd H s.heap.objs.size (.lst ys)) { s with heap := s.heap.push { cls := .type "list", data := .seq its.toArray }, toks := t' } :=
  I.laid (fun _ _ q => Heap.get?_push_of_some _ q) (Nat.le_refl _) ⟨hz, its, 0, hv, Heap.get?_push_size _ rfl⟩
theorem Inv.fresh (I : Inv X pins σ H s) : H s.heap.objs.size = none := I.hok.fresh (Nat.le_refl _)
theorem Inv.lstM (I : Inv X pins σ H s) (hH : H l = some (.lst xs)) : xs.length ≤ sizeLine ∧ ∃ (its : List Value) (n : Nat), Vals xs its ∧ xs.length = its.length ∧ s.heap.get? l = some { cls := .type "list", data := .seq its.toArray n } := by
  obtain ⟨z, its, n, r, e⟩ := I.hok l _ hH
  exact ⟨z, its, n, r, r.length, e⟩
theorem notLongL {n : Nat} (h : n ≤ sizeLine) : Builtin.List.listTooLong n = false := by
  unfold Builtin.List.listTooLong
  exact decide_eq_false (by omega)
end
section
variable {X : Cx}
def rAppend : V → List V → Hp → VK → Prop := fun x vs H Q => ∃ l xs y, x = .ref l ∧ vs = [y] ∧ H l = some (.lst xs) ∧ xs.length < sizeLine ∧ Q .non (upd H l (.lst (xs ++ [y])))
theorem mt_append : MtM X "list.append" rAppend := by
  intro pins s σ H x vs v us Q I rx rv h
  obtain ⟨l, xs, y, rfl, rfl, hH, hz, q⟩ := h
  cases rx
  obtain ⟨u, rfl, ru⟩ := rv.one
  obtain ⟨z, its, n, r, hl, e⟩ := I.lstM hH
  refine call_meets F.slot_list_append ⟨_, e, rfl⟩ F.entry_list_append (F.args_list_append_2 _ _) (PySem.list_append l its.toArray n u (by rw [List.size_toArray]; omega)) ⟨e, ?_⟩
  refine ⟨.non, _, I.lset (its' := its ++ [u]) hH e (by simp) (r.append (.cons ru .nil)) ?_, rfl, q⟩
  rw [List.length_append, List.length_singleton]
  omega
def rExtend : V → List V → Hp → VK → Prop := fun x vs H Q => ∃ l b xs zs, x = .ref l ∧ vs = [.ref b] ∧ H l = some (.lst xs) ∧ H b = some (.lst zs) ∧ xs.length + zs.length ≤ sizeLine ∧ Q .non (upd H l (.lst (xs ++ zs)))
theorem mt_extend : MtM X "list.extend" rExtend := by
  intro pins s σ H x vs v us Q I rx rv h
  obtain ⟨l, b, xs, zs, rfl, rfl, hH, hB, hz, q⟩ := h
  cases rx
  obtain ⟨u, rfl, ru⟩ := rv.one
  cases ru
  obtain ⟨z, its, n, r, hl, e⟩ := I.lstM hH
  obtain ⟨z2, its2, n2, r2, hl2, e2⟩ := I.lstM hB
  have hsz : its.toArray.size + its2.toArray.size ≤ sizeLine := by rw [List.size_toArray, List.size_toArray]; omega
  have hlong : ¬ (!its.toArray.isEmpty && Builtin.List.listTooLong (its.toArray.size + its2.toArray.size)) = true := by
    rw [notLongL hsz, Bool.and_false]
    exact Bool.false_ne_true
  refine call_meets F.slot_list_extend ⟨_, e, rfl⟩ F.entry_list_extend (F.args_list_extend_2 _ _)
    (AutoSeq1.list_extend_list_list_0 l its.toArray n b its2.toArray n2 hlong (by rw [List.size_toArray]; omega) (by omega)) ⟨e, e2, ?_⟩
  refine ⟨.non, _, I.lset (its' := its ++ its2) hH e (by simp) (r.append r2) ?_, rfl, q⟩
  rw [List.length_append]
  omega
def rPop : V → List V → Hp → VK → Prop := fun x vs H Q => ∃ l xs y, x = .ref l ∧ vs = [] ∧ H l = some (.lst xs) ∧ xs[xs.length - 1]? = some y ∧ Q y (upd H l (.lst xs.dropLast))
theorem mt_pop : MtM X "list.pop" rPop := by
  intro pins s σ H x vs v us Q I rx rv h
  obtain ⟨l, xs, y, rfl, rfl, hH, hy, q⟩ := h
  cases rx
  have hus := rv.zero
  subst hus
  obtain ⟨z, its, n, r, hl, e⟩ := I.lstM hH
  obtain ⟨u, hu, ru⟩ := r.get hy
  have hy' : its.toArray[its.toArray.size - 1]? = some u := by
    show its.toArray[its.length - 1]? = some u
    rw [← Array.getElem?_toList, ← hl]
    exact hu
  refine call_meets F.slot_list_pop ⟨_, e, rfl⟩ F.entry_list_pop (F.args_list_pop_1 _) (MeetsSeq.list_pop_last l its.toArray n u hy' (by rw [List.size_toArray]; omega)) ⟨e, ?_⟩
  refine ⟨y, _, I.lset (its' := its.dropLast) hH e ?_ r.dropLast ?_, ru, q⟩
  · show its.toArray.eraseIdxIfInBounds (its.toArray.size - 1) = its.dropLast.toArray
    rw [List.size_toArray, List.eraseIdxIfInBounds_toArray, erase_last]
  · rw [List.length_dropLast]
    omega
def rCat : R2 := fun x y H Q => ∃ l b xs zs, x = .ref l ∧ y = .ref b ∧ H l = some (.lst xs) ∧ H b = some (.lst zs) ∧ xs.length + zs.length ≤ sizeLine ∧ ∀ p, H p = none → Q (.ref p) (upd H p (.lst (xs ++ zs)))
theorem op_cat : OpR X (binaryOp .Add) rCat := by
  intro pins s σ H x y v u Q I rx ry h
  obtain ⟨l, b, xs, zs, rfl, rfl, hH, hB, hz, q⟩ := h
  cases rx
  cases ry
  obtain ⟨z, its, n, r, hl, e⟩ := I.lstM hH
  obtain ⟨z2, its2, n2, r2, hl2, e2⟩ := I.lstM hB
  refine PySem.P.add_list e e2 ?_ (by rw [List.size_toArray, List.size_toArray]; omega)
  have ea : its.toArray ++ its2.toArray = (its ++ its2).toArray := by simp
  rw [ea]
  exact ⟨.ref _, _, I.lnew (t' := s.toks) (r.append r2) (by rw [List.length_append]; omega), rfl, q _ I.fresh⟩
end
section
variable {prog : Program} {w : World} {A : Around} {E : Value → Shared → Prop} {s : Shared}
set_option maxRecDepth 100000 in
end
section
variable {X : Cx}
end
end L2
namespace Att
open PySem PySem.W PySem.Calls PyProof.Rows
theorem ints_of_wellAll {P : Params} {h : Heap} : ∀ (ns : List Int) (vs : List Value), WellAll P h vs (ns.map WData.int) → IntsAre vs ns := by
  intro ns
  induction ns with
  | nil =>
    intro vs w
    rw [List.map_nil] at w
    cases w
    exact .nil
  | cons n ns ih =>
    intro vs w
    rw [List.map_cons] at w
    cases w with
    | cons a b =>
      cases a
      exact .cons _ _ (ih _ b)
theorem script_of {l : OpenLaw} {n : Nat} (hn : l.most = some n) {P : Params} {h : Heap} {args : List WData} {vals : List Value}
    (hpre : l.row.toRowW.claim.pre args = true) (hwl : WellAll P h vals args) :
    ∃ a vs ns, vals = [Value.ref a] ∧ args = [WData.list (ns.map WData.int)] ∧ h.get? a = some { cls := .type "list", data := .seq vs.toArray } ∧ IntsAre vs ns ∧ ns.length ≤ n := by
  have hsh : WShape.hasAll [] args [.list .int] = true := (pre_splitW hpre).1
  have hc : l.pre.holds [] { args := args } = true := (pre_splitW hpre).2
  obtain ⟨d, r, rfl, h1, h2⟩ := hasAllW_cons hsh
  obtain rfl := hasAllW_nil h2
  obtain ⟨xs, rfl, h3⟩ := hasW_list h1
  obtain ⟨ns, rfl⟩ := items_int h3
  have hlen : ns.length ≤ n := by
    unfold OpenLaw.pre at hc
    have h4 : (WTm.not (.lt (.lit (.int (n : Int))) (.len (.arg 0)))).holds [] { args := [.list (ns.map .int)] } = true := by
      have h4 := (holds_andW hc).1
      rw [hn] at h4
      exact h4
    have h5 := condW_of h4 (w_not (w_lt w_lit (w_len_list (w_arg rfl))))
    rw [List.length_map] at h5
    refine Nat.le_of_not_lt fun q => ?_
    have q' : (n : Int) < ((ns.length : Nat) : Int) := by omega
    first
      | (rw [decide_eq_true q'] at h5; exact absurd h5 (by decide))
      | (simp at h5; omega)
  cases hwl with
  | cons w1 w2 =>
    cases w2
    cases w1 with
    | list ho hall => exact ⟨_, _, ns, rfl, rfl, ho, ints_of_wellAll ns _ hall, hlen⟩
theorem post_true (l : OpenLaw) (args : List WData) : l.row.toRowW.claim.post args (.bool true) args = true :=
  postW_of (r := l.row.toRowW) (X := (true == true))
    (show WShape.has [] (.bool true) .bool = true by first | rfl | decide | simp [WShape.has, WShape.arms, WShape.armsAll])
    (show (WTm.eq .res (.lit (.bool true))).value [] { args := args, res := some (.bool true), after := args } = some (.bool (true == true)) from w_eq_bool (w_res rfl) w_lit) rfl
theorem attach_call {l : OpenLaw} {n : Nat} {q : Program} {loose : List Str} {XP : (Str → Option Value) → Heap → Prop} {YP : World → Heap → Prop} {d : DefRec}
    (hn : l.most = some n) (hdf : d.params.defaults = [])
    (call : ∀ (w : World) (s₀ s₁ : Shared) (mg mb : Str → Option Value) (fa : Addr) (o : Obj) (pm cd doc : Value) (a : Addr) (vs : List Value) (ns : List Int),
      Ground q loose [] XP w s₀ mg mb s₁.heap → YP w s₁.heap →
      s₁.heap.get? fa = some o → o.data = .func (docDef d.name d.params d.body d.scope pm cd doc) → s₁.heap.CodeRec cd d.name → mg d.name = some (.ref fa) →
      s₁.heap.get? a = some { cls := .type "list", data := .seq vs.toArray } → IntsAre vs ns → ns.length ≤ n → s₁.gens = #[] →
      codeAny (model l.prog w) callerA (.call (.ref fa) ⟨[.ref a], []⟩) (fun r s' => r = .ok (.ret (.bool true)) ∧ OldK s₁.heap s'.heap ∧ s'.os = s₁.os ∧ AllBare s'.gens) s₁) :
    WalkO q loose XP YP l.row.toRowW d [] (fun f vs => PySem.call f vs) := by
  intro w s₀ s₁ mg mb G Y fa o pm cd doc dV kV ho hd hcd hD hmg hg args vals as hpre hlay hrd hwl hlo
  obtain rfl : dV = .none := Dflts.none hD hdf
  obtain rfl : kV = .none := Dflts.noKw hD
  obtain ⟨a, vs, ns, rfl, rfl, hobj, hints, hlen⟩ := script_of hn hpre hwl
  refine enter_call (codeAny_mono (call w s₀ s₁ mg mb fa o pm cd doc a vs ns G Y ho (fd_plain hd) hcd hmg hobj hints hlen hg) fun r s' hq => ?_)
  obtain ⟨rfl, h2, h3, h4⟩ := hq
  exact ⟨.inl ⟨.bool true, .bool true, [], rfl, fun _ => rfl, .bool true, post_true l _, fun _ => ⟨List.Pairwise.nil, fun _ hm => (nomatch hm)⟩⟩, h2, h3, h4⟩
section
variable {prog : Program} {w : World} {A : Around} {E : Value → Shared → Prop} {s : Shared} {K : Frag}
end
end Att
namespace L2
open PySem PySem.Spec PyProof.Rows
theorem vals_ints : ∀ {vs : List Value} {ns : List Int}, IntsAre vs ns → Vals (ns.map V.int) vs
  | _, _, .nil => .nil
  | _, _, .cons n t h => .cons ⟨t, rfl⟩ (vals_ints h)
def Only (H : Hp) : Prop := ∀ b, H b = none ∨ ∃ o xs, H b = some (.frz o (.lst xs))
theorem law_call {P : Program} {w : World} {K : PySem.W.Frag} {mg mb : Str → Option Value} {CX : CXT} {k : Nat} {fa a : Addr} {fd : FuncData} {x : Str} {sp : Sp} {s₁ : Shared} {vs : List Value} {ns : List Int}
    (KX : K.In s₁.heap) (hns : s₁.heap.Ns mainGlobals mg) (hb : s₁.heap.Ns builtinsNs mb) (hbb : ∀ x : Str, x ≠ "__name__" → mb x = bootBuiltins x) (hlim : s₁.heap.NoLimit) (hg : s₁.gens = #[])
    (ha : s₁.heap.get? a = some { cls := .type "list", data := .seq vs.toArray }) (hi : IntsAre vs ns) (hl : ns.length ≤ sizeLine) (hr : Room k callerA)
    (F : ∀ base : Heap, K.In base → base.Ns mainGlobals mg → FnOk P w K mg base CX k fa fd [x] sp) (hbind : ∀ (s : Shared) (u : Value), BindsTo s fd ⟨[u], []⟩ [(x, u)])
    (hsp : ∀ H : Hp, Only H → SqL K H a (ns.map V.int) → sp [.ref a] H (fun v _ => v = .bl true) fun _ _ _ => False)
    (hCX : ∀ H e s', CX [] H s₁ (fun _ _ _ => False) e s' → False) :
    codeAny (model P w) callerA (.call (.ref fa) ⟨[.ref a], []⟩) (fun r s' => r = .ok (.ret (.bool true)) ∧ OldK s₁.heap s'.heap ∧ s'.os = s₁.os ∧ AllBare s'.gens) s₁ := by
  have rv := vals_ints hi
  have lenV := hi.length
  have core : ∀ H : Hp, Only H → SqL K H a (ns.map V.int) → HOk P w H s₁.heap → (∀ b, H b ≠ none → b = a) → (H a ≠ none → K.lookup a = none) →
      codeAny (model P w) callerA (.call (.ref fa) ⟨[.ref a], []⟩) (fun r s' => r = .ok (.ret (.bool true)) ∧ OldK s₁.heap s'.heap ∧ s'.os = s₁.os ∧ AllBare s'.gens) s₁ := by
    intro H hO hS hok hA hK
    have base_of : ∀ {b : Addr} {o : Obj}, s₁.heap.get? b = some o → H b = none → (hidT s₁.heap H).get? b = some o := fun e n => hidT_get e n
    have noA : ∀ {b : Addr} {o : Obj} {es : Array DictEntry} {ep : Nat}, s₁.heap.get? b = some o → o.data = .dict es ep → H b = none := fun {b o es ep} e d => by
      cases q : H b with
      | none => rfl
      | some u =>
        have e' : b = a := hA b (by rw [q]; simp)
        subst e'
        rw [ha] at e; cases e
        have d' : Data.seq vs.toArray _ = Data.dict es ep := d
        cases d'
    have nsK : ∀ {b : Addr} {m : Str → Option Value}, s₁.heap.Ns b m → (hidT s₁.heap H).Ns b m := fun {b m} ⟨o, es, ep, e, d, r⟩ => ⟨o, es, ep, base_of e (noA e d), d, r⟩
    have hKb : K.In (hidT s₁.heap H) := fun b o e => base_of (KX b o e) (by
      cases q : H b with
      | none => rfl
      | some u =>
        have e' : b = a := hA b (by rw [q]; simp)
        subst e'
        rw [hK (by rw [q]; simp)] at e; cases e)
    have hM : Mod K mg (hidT s₁.heap H) := ⟨hKb, nsK hns, ⟨mb, nsK hb, hbb⟩, let ⟨mc, h1, h2⟩ := hlim; ⟨mc, nsK h1, h2⟩⟩
    have e0 : Env0 P w K mg (hidT s₁.heap H) callerA [] s₁ H := ⟨rfl, hM, fun b o e => of_hidT e, Nat.le_of_eq (hidT_size _ _), trivial, fun b hb => absurd (show b ∈ ([] : List Addr) from hb) (by simp), hok, .of_eq hg⟩
    refine codeAny_mono ((F _ hKb (nsK hns)).run callerA [] s₁ H ⟨[.ref a], []⟩ [.ref a] [.ref a] _ _ hr e0 (hbind s₁ (.ref a)) (.cons rfl .nil) (hsp H hO hS)) fun r s' h => ?_
    cases r with
    | error e => exact (hCX H e s' h).elim
    | ok fl =>
      cases fl with
      | next => exact False.elim h
      | brk => exact False.elim h
      | cont => exact False.elim h
      | ret u =>
        obtain ⟨v, H', os, bare, un, hok', r', q⟩ := h
        have q' : v = .bl true := q
        subst q'
        obtain rfl : u = Value.bool true := r'
        refine ⟨rfl, OldK.of_keep fun b o e => ?_, os, bare⟩
        cases q : H b with
        | none => exact un.keep b o e q (by intro z; exact absurd (show b ∈ ([] : List Addr) from z) (by simp)) (by simp)
        | some u =>
          rcases hO b with z | ⟨ob, xs, z⟩
          · rw [q] at z; cases z
          · have z2 := un.frzs b ob _ z
            obtain ⟨e1, _⟩ := hok b _ z
            obtain ⟨e2, _⟩ := hok' b _ z2
            rw [e] at e1; cases e1
            exact e2
  cases hk : K.lookup a with
  | some o =>
    have e := KX a o hk
    rw [ha] at e
    cases e
    refine core (fun _ => none) (fun _ => .inl rfl) (.inr ⟨_, vs.toArray, _, hk, rfl, rfl, rfl, by rw [List.size_toArray, lenV]; exact hl, by simpa using rv⟩) (fun b u z => by have z' : (none : Option HO) = some u := z; cases z') (fun b z => absurd rfl z) fun z => absurd rfl z
  | none =>
    refine core (fun b => if b = a then some (.frz { cls := .type "list", data := .seq vs.toArray } (.lst (ns.map V.int))) else none) (fun b => ?_) (.inl (.inr ⟨{ cls := .type "list", data := .seq vs.toArray }, if_pos rfl⟩)) (fun b u z => ?_) (fun b z => ?_) fun _ => hk
    · by_cases hb : b = a
      · exact .inr ⟨_, _, if_pos hb⟩
      · exact .inl (if_neg hb)
    · by_cases hb : b = a
      · have z' := (if_pos hb).symm.trans z
        cases z'
        subst hb
        exact ⟨ha, by rw [List.length_map]; exact hl, vs, _, rv, ha⟩
      · have z' := (if_neg hb).symm.trans z
        cases z'
    · by_cases hb : b = a
      · exact hb
      · exact absurd (if_neg hb) z
end L2
namespace L2
open PySem PySem.Spec PyProof.Rows
theorem walk_of {l : PySem.W.OpenLaw} {n k : Nat} {q : Program} {loose : List Str} {XP : (Str → Option Value) → Heap → Prop} {YP : World → Heap → Prop} {d : DefRec} {K : Params → PySem.W.Frag} {CX : World → CXT} {sp : World → Sp} {x : Str}
    (hn : l.most = some n) (hn2 : n ≤ sizeLine) (hdf : d.params.defaults = []) (hr : Room k callerA)
    (hY : ∀ (w : World) (h : Heap), YP w h → (K w.params).In h)
    (F : ∀ (w : World) (mg : Str → Option Value) (fa : Addr) (h : Heap), (K w.params).In h → h.Ns mainGlobals mg → mg d.name = some (.ref fa) →
      ∃ fd : FuncData, (∀ (s : Shared) (u : Value), BindsTo s fd ⟨[u], []⟩ [(x, u)]) ∧
        ∀ base : Heap, (K w.params).In base → base.Ns mainGlobals mg → FnOk l.prog w (K w.params) mg base (CX w) k fa fd [x] (sp w))
    (hsp : ∀ (w : World) (H : Hp) (a : Addr) (ns : List Int), ns.length ≤ n → Only H → SqL (K w.params) H a (ns.map V.int) → sp w [.ref a] H (fun v _ => v = .bl true) fun _ _ _ => False)
    (hCX : ∀ (w : World) (H : Hp) (s : Shared) (e : Value) (s' : Shared), CX w [] H s (fun _ _ _ => False) e s' → False) :
    PySem.W.WalkO q loose XP YP l.row.toRowW d [] (fun f vs => PySem.call f vs) := by
  refine Att.attach_call hn hdf fun w s₀ s₁ mg mb fa o pm cd doc a vs ns G Y ho hd hcd hmg hobj hints hlen hg => ?_
  have KX := hY w _ Y
  obtain ⟨fd, hb, hF⟩ := F w mg fa _ KX G.T.g hmg
  exact law_call KX G.T.g G.T.b G.T.builtins G.T.nolimit hg hobj hints (Nat.le_trans hlen hn2) hr hF hb (fun H hO hS => hsp w H a ns hlen hO hS) fun H e s' => hCX w H s₁ e s'
end L2
namespace L2
open PySem PySem.Spec PyProof.Rows
def defArgs (s : Stmt) : Arguments := match s with
  | .FunctionDef _ a _ _ _ _ _ _ _ _ => a
  | _ => { posonlyargs := [], args := [], vararg := none, kwonlyargs := [], kw_defaults := [], kwarg := none, defaults := [] }
def defBody (s : Stmt) : List Stmt := match s with
  | .FunctionDef _ _ b _ _ _ _ _ _ _ => b
  | _ => []
def defScope (s : Stmt) : Scope := match s with
  | .FunctionDef _ _ _ _ _ _ sc _ _ _ => sc
  | _ => { kind := .function, names := [], isGenerator := false, isCoroutine := false }
abbrev CX0 : CXT := fun _ _ _ _ _ _ => False
abbrev E0 : XK := fun _ _ _ => False
theorem pass0 {X : Cx} : Passes CX0 X E0 := fun _ _ _ _ _ _ _ h => h.elim
structure Fun (K : PySem.W.Frag) (x qual : Str) (st : Stmt) (f : Addr) (fd : FuncData) : Prop where
  ex : ∃ (oc : Value) (od : Option Addr) (kV doc pm : Value) (an : Option Addr) (cdv ct : Value) (osl : Array (Option Value)),
    fd = PySem.W.fnOf x qual (defArgs st) (defBody st) (defScope st) .none kV doc pm an cdv ct ∧ K.lookup f = some ⟨oc, od, .func fd, osl⟩ ∧ PySem.W.codeIn K cdv qual = true
  kp : PySem.W.keepIn K (.ref f) = true
section
variable {P : Program} {w : World} {K : PySem.W.Frag} {mg : Str → Option Value} {base : Heap}
theorem Fun.ok {x qual : Str} {st : Stmt} {f : Addr} {fd : FuncData} {N ps : List Str} {k : Nat} {sp : Sp} (F : Fun K x qual st f fd) (S : FnScope N ps (defScope st)) (len : ∀ vs H Q E, sp vs H Q E → vs.length = ps.length)
    (hbody : ∀ (cdv : Value) (A : Around) (outer : List Env) (s : Shared) (H : Hp) (vs : List V) (Q : VK) (E : XK), Room k (A.deeper (envOfC qual (defScope st) s.heap.objs.size f cdv)) → sp vs H Q E →
      ∃ t, PSs (cxOf CX0 P w K mg base N qual (defScope st) f cdv A outer s H E).nox (defBody st) t ∧ t { nx := fun _ H' => Q .non H', rt := Q } (start N vs) H) : FnOk P w K mg base CX0 (k + 1) f fd ps sp := by
  obtain ⟨oc, od, kV, doc, pm, an, cdv, ct, osl, rfl, lk, hcd⟩ := F.ex
  refine fn_of lk hcd S len fun A outer s H vs Q E hr hsp => ?_
  obtain ⟨t, h, q⟩ := hbody cdv A outer s H vs Q E hr hsp
  exact ⟨t, h.nox, q⟩
theorem Fun.binds {x qual : Str} {st : Stmt} {f : Addr} {fd : FuncData} {ps : List Str} (F : Fun K x qual st f fd)
    (h : ∀ (kV doc pm : Value) (an : Option Addr) (cdv ct : Value) (us : List Value), us.length = ps.length → bindArgs (PySem.W.fnOf x qual (defArgs st) (defBody st) (defScope st) .none kV doc pm an cdv ct) ⟨us, []⟩ = pure (ps.zip us)) : Binds K fd ps [] := by
  obtain ⟨oc, od, kV, doc, pm, an, cdv, ct, osl, rfl, lk, hcd⟩ := F.ex
  exact .all (h kV doc pm an cdv ct)
theorem fun_mk {x qual : Str} {st : Stmt} {f : Addr} {oc : Value} {od an : Option Addr} {osl : Array (Option Value)} {kV doc pm cdv ct : Value} (l : K.lookup f = some ⟨oc, od, .func (PySem.W.fnOf x qual (defArgs st) (defBody st) (defScope st) .none kV doc pm an cdv ct), osl⟩)
    (c : PySem.W.codeIn K cdv qual = true) (k : PySem.W.keepIn K (.ref f) = true) : Fun K x qual st f (PySem.W.fnOf x qual (defArgs st) (defBody st) (defScope st) .none kV doc pm an cdv ct) := ⟨⟨oc, od, kV, doc, pm, an, cdv, ct, osl, rfl, l, c⟩, k⟩
end
theorem small1000 {n : Nat} (h : n ≤ 1000) : n < sizeLine := Nat.lt_of_le_of_lt h (by decide)
section
variable {X : Cx}
theorem pv (i : Nat) {x : Str} {pos : Pos} (hN : X.N[i]? = some x := by rfl) (hv : Vis X.env.scope x := by first | exact Or.inl rfl | exact Or.inr (Or.inl rfl) | exact Or.inr (Or.inr rfl)) (hd : (x == ("__debug__" : Str)) = false := by decide)
    (hcd : (x == ("__classdict__" : Str)) = false := by decide) : PE X (.Name x pos) (tVar i) := pe_var hN hv hd hcd
end
theorem iteF {A B : Prop} (h : B) : if false = true then A else B := by
  rw [if_neg Bool.false_ne_true]
  exact h
theorem iteT {A B : Prop} (h : A) : if true = true then A else B := by
  rw [if_pos rfl]
  exact h
theorem ite2 {c A B : Prop} [Decidable c] (h1 : c → A) (h2 : ¬ c → B) : if c then A else B := by
  by_cases h : c
  · rw [if_pos h]
    exact h1 h
  · rw [if_neg h]
    exact h2 h
def Same (H H' : Hp) : Prop := ∀ b o, H b = some o → H' b = some o
theorem Same.refl (H : Hp) : Same H H := fun _ _ h => h
theorem Same.trans {H H1 H2 : Hp} (a : Same H H1) (b : Same H1 H2) : Same H H2 := fun c o h => b c o (a c o h)
theorem Same.seq {K : PySem.W.Frag} {H H' : Hp} {a : Addr} {xs : List V} (e : Same H H') (h : SqL K H a xs) : SqL K H' a xs := by
  rcases h with (h | ⟨o, h⟩) | h
  · exact .inl (.inl (e _ _ h))
  · exact .inl (.inr ⟨o, e _ _ h⟩)
  · exact .inr h
end L2
set_option maxHeartbeats 4000000
namespace L2
open PySem PySem.Spec PyProof.Rows
theorem same_new {H : Hp} {p : Addr} (h : H p = none) (o : HO) : Same H (upd H p o) := fun b u q => by rw [upd_ne (ne_of_none q h)]; exact q
def tMid (t u : TS) : TS := fun D σ H => ∃ M : St → Hp → Prop, t { D with nx := M } σ H ∧ ∀ σ' H', M σ' H' → u D σ' H'
theorem pss_mid {X : Cx} {st : Stmt} {rest : List Stmt} {t u : TS} (h1 : PS X st t) (h2 : PSs X rest u) : PSs X (st :: rest) (tMid t u) := by
  intro pins s σ H D I ⟨M, h, hM⟩
  refine wpAny_execs_cons (thn (h1 pins s σ H { D with nx := M } I h) fun f s1 q => ?_)
  cases f with
  | next =>
    obtain ⟨σ', H', I', q⟩ := q
    exact h2 pins s1 σ' H' D I' (hM _ _ q)
  | ret v => exact q
  | brk => exact q
  | cont => exact q
def strOf : Expr → Option Str
  | .Constant (.str x) _ _ => some x
  | _ => none
def strsOf : List Expr → Option (List Str)
  | [] => some []
  | e :: r => (strOf e).bind fun x => (strsOf r).map fun xs => x :: xs
def tStrs (xs : List Str) : TA := fun _ H Q => Q (xs.map V.str) H
theorem pa_strs {X : Cx} : ∀ {es : List Expr} (xs : List Str), strsOf es = some xs → PA X es (tStrs xs)
  | [], xs, h => by
    cases h
    exact pa_nil
  | e :: r, xs, h => by
    cases he : strOf e with
    | none => rw [strsOf, he] at h; cases h
    | some x =>
      cases hr : strsOf r with
      | none => rw [strsOf, he, hr] at h; cases h
      | some ys =>
        rw [strsOf, he, hr] at h
        cases h
        have hc : ∃ k p, e = .Constant (.str x) k p := by
          unfold strOf at he
          split at he
          · cases he; exact ⟨_, _, rfl⟩
          · cases he
        obtain ⟨k, p, rfl⟩ := hc
        intro pos pins s σ H Q I q
        have z : PA X (.Constant (.str x) k p :: r) (tCons (tC (.str x)) (tStrs ys)) := pa_cons pe_str (pa_strs ys hr)
        exact z pos pins s σ H Q I q
def capOf (cells : List (Str × Addr)) : List (Str × NameKind) → List (Str × Addr) → List (Str × Addr)
  | [], acc => acc
  | (n, k) :: r, acc => capOf cells r (if k == .free then (n, (cells.lookup n).getD 0) :: acc else acc)
theorem capOf_loop (env : Env) : ∀ (names : List (Str × NameKind)) (acc : List (Str × Addr)), (∀ y ∈ names, y.2 = .free → ∃ c, env.cells.lookup y.1 = some c) →
    (forIn names acc (fun (x : Str × NameKind) (cs : List (Str × Addr)) => if (x.2 == NameKind.free) = true then do let a ← cellOf env x.1; pure (ForInStep.yield ((x.1, a) :: cs)) else pure (ForInStep.yield cs)) : Sem (List (Str × Addr))) = pure (capOf env.cells names acc)
  | [], acc, _ => rfl
  | (n, k) :: r, acc, h => by
    have ih := fun acc' => capOf_loop env r acc' fun y hy => h y (List.mem_cons_of_mem _ hy)
    rw [List.forIn_cons]
    cases hk : k == NameKind.free with
    | false =>
      simp only [capOf, hk, Bool.false_eq_true, if_false, pure_bind]
      exact ih acc
    | true =>
      obtain ⟨c, hc⟩ := h (n, k) List.mem_cons_self (by simpa using hk)
      have hc' : env.cells.lookup n = some c := hc
      have e : cellOf env n = pure c := by unfold cellOf; rw [hc']
      simp only [capOf, hk, if_true, e, pure_bind, hc', Option.getD_some]
      exact ih _
theorem closure_cap {scope : Scope} {env : Env} (h : ∀ y ∈ scope.names, y.2 = .free → ∃ c, env.cells.lookup y.1 = some c) : closureFor scope env = pure (capOf env.cells scope.names []) := by
  unfold closureFor
  have q := capOf_loop env scope.names [] h
  first
    | exact q
    | (simp only [bind_pure]; exact q)
    | (rw [show (forIn scope.names [] _ : Sem (List (Str × Addr))) = _ from q]; rfl)
theorem capOf_some {cells : List (Str × Addr)} {x : Str} {c : Addr} : ∀ (names : List (Str × NameKind)) (acc : List (Str × Addr)), (∀ y ∈ names, y.2 = .free → ∃ c, cells.lookup y.1 = some c) →
    (capOf cells names acc).lookup x = some c → acc.lookup x = some c ∨ cells.lookup x = some c
  | [], acc, _, h => .inl h
  | (n, k) :: r, acc, hf, h => by
    have hf' : ∀ y ∈ r, y.2 = .free → ∃ c, cells.lookup y.1 = some c := fun y hy => hf y (List.mem_cons_of_mem _ hy)
    cases hk : k == NameKind.free with
    | false =>
      simp only [capOf, hk, Bool.false_eq_true, if_false] at h
      exact capOf_some r acc hf' h
    | true =>
      simp only [capOf, hk, if_true] at h
      rcases capOf_some r _ hf' h with h | h
      · rw [List.lookup_cons] at h
        cases hx : x == n with
        | true =>
          rw [hx] at h
          obtain ⟨c', hc⟩ := hf (n, k) List.mem_cons_self (by simpa using hk)
          have hc' : cells.lookup n = some c' := hc
          have e : x = n := by simpa using hx
          simp only [hc', Option.getD_some] at h
          cases h
          exact .inr (by rw [e]; exact hc')
        | false => rw [hx] at h; exact .inl h
      · exact .inr h
theorem capOf_keep {cells : List (Str × Addr)} {x : Str} : ∀ (names : List (Str × NameKind)) (acc : List (Str × Addr)), (∃ c, acc.lookup x = some c) → ∃ c, (capOf cells names acc).lookup x = some c
  | [], _, h => h
  | (n, k) :: r, acc, h => by
    unfold capOf
    refine capOf_keep r _ ?_
    cases hk : k == NameKind.free with
    | false => simpa using h
    | true =>
      simp only [if_true]
      rw [List.lookup_cons]
      cases hx : x == n with
      | true => exact ⟨_, rfl⟩
      | false => exact h
theorem capOf_has {cells : List (Str × Addr)} {x : Str} : ∀ (names : List (Str × NameKind)) (acc : List (Str × Addr)), (x, NameKind.free) ∈ names → ∃ c, (capOf cells names acc).lookup x = some c
  | [], _, h => nomatch h
  | (n, k) :: r, acc, h => by
    rcases List.mem_cons.mp h with e | h
    · cases e
      unfold capOf
      refine capOf_keep r _ ?_
      simp only [beq_self_eq_true, if_true]
      refine ⟨(cells.lookup x).getD 0, ?_⟩
      rw [List.lookup_cons]
      simp
    · exact capOf_has r _ h
def blkOk (scope outer : Scope) : Bool :=
  (scope.kind == .function) && scope.names.all fun y => (y.2 != .cell) && (y.2 != .local || scope.names.lookup y.1 == some .local) && (y.2 != .free || (outer.names.lookup y.1 == some .cell || outer.names.lookup y.1 == some .free))
theorem blk_kind {scope outer : Scope} (h : blkOk scope outer = true) : scope.kind = .function := by
  unfold blkOk at h; rw [Bool.and_eq_true] at h; simpa using h.1
theorem blk_all {scope outer : Scope} (h : blkOk scope outer = true) : ∀ y ∈ scope.names, y.2 ≠ .cell ∧ (y.2 = .local → scope.names.lookup y.1 = some .local) ∧ (y.2 = .free → outer.names.lookup y.1 = some .cell ∨ outer.names.lookup y.1 = some .free) := by
  unfold blkOk at h; rw [Bool.and_eq_true, List.all_eq_true] at h
  intro y hy
  have q := h.2 y hy
  simp only [Bool.and_eq_true, Bool.or_eq_true, bne_iff_ne, beq_iff_eq, ne_eq] at q
  refine ⟨q.1.1, fun e => ?_, fun e => ?_⟩
  · rcases q.1.2 with z | z
    · exact absurd e z
    · exact z
  · rcases q.2 with z | z
    · exact absurd e z
    · exact z
def capsOk (XN : List Str) (scope : Scope) : List Str → List Nat → Bool
  | [], [] => true
  | x :: r, i :: t => (XN[i]? == some x) && (scope.names.lookup x == some .free) && capsOk XN scope r t
  | _, _ => false
theorem caps_get {XN : List Str} {scope : Scope} : ∀ {cs : List Str} {caps : List Nat} {j : Nat} {x : Str}, capsOk XN scope cs caps = true → cs[j]? = some x → ∃ i, caps[j]? = some i ∧ XN[i]? = some x ∧ scope.names.lookup x = some .free
  | [], _, j, x, _, h => by simp at h
  | y :: r, [], j, x, h, _ => by simp [capsOk] at h
  | y :: r, i :: t, 0, x, h, e => by
    simp only [capsOk, Bool.and_eq_true, beq_iff_eq] at h
    simp at e; subst e
    exact ⟨i, rfl, h.1.1, h.1.2⟩
  | y :: r, i :: t, j + 1, x, h, e => by
    simp only [capsOk, Bool.and_eq_true] at h
    obtain ⟨k, h1, h2⟩ := caps_get (j := j) (x := x) h.2 (by simpa using e)
    exact ⟨k, by simpa using h1, h2⟩
theorem caps_len {XN : List Str} {scope : Scope} : ∀ {cs : List Str} {caps : List Nat}, capsOk XN scope cs caps = true → cs.length = caps.length
  | [], [], _ => rfl
  | [], _ :: _, h => by simp [capsOk] at h
  | _ :: _, [], h => by simp [capsOk] at h
  | y :: r, i :: t, h => by
    simp only [capsOk, Bool.and_eq_true] at h
    simp [caps_len h.2]
def stC (nl : Nat) (caps : List Nat) (σ : St) : St := List.replicate nl none ++ caps.map fun i => (σ[i]?).getD none
def cxC (X : Cx) (scope : Scope) (N : List Str) (s : Shared) (H : Hp) (fp : List Addr) : Cx :=
  { X with N := N, s₀ := s, H₀ := H, env := compEnvC scope (capOf X.env.cells scope.names []) (s.heap.objs.size + 1) X.env, outer := X.stack, stack := X.stack, ex := fp, fn := fun _ => false, pn := [], xe := fun _ _ => False }
section
variable {X : Cx} {pins : List (Addr × Obj)} {σ : St} {H : Hp} {s : Shared} {scope : Scope} {N : List Str} {fp : List Addr}
theorem relabel_names_lookup {env : Env} {x : Str} {k : NameKind} : ∀ {names : List (Str × NameKind)}, 
    (names.map fun (n, k) => if (k == NameKind.free && env.scope.kind == .function && env.kindOf n == some .cell) then (n, NameKind.cell) else (n, k)).lookup x = some k → (k = .cell ∨ k = .free) → (x, NameKind.cell) ∈ names ∨ (x, NameKind.free) ∈ names
  | [], h, _ => by simp at h
  | (n, k') :: r, h, hk => by
    have h' : List.lookup x ((if (k' == NameKind.free && env.scope.kind == .function && env.kindOf n == some .cell) = true then (n, NameKind.cell) else (n, k')) :: (r.map fun (n, k) => if (k == NameKind.free && env.scope.kind == .function && env.kindOf n == some .cell) then (n, NameKind.cell) else (n, k))) = some k := h
    by_cases hc : (k' == NameKind.free && env.scope.kind == .function && env.kindOf n == some .cell) = true
    · rw [if_pos hc, List.lookup_cons] at h'
      cases hx : x == n with
      | true =>
        have e : x = n := by simpa using hx
        have e2 : k' = .free := by
          rw [Bool.and_eq_true, Bool.and_eq_true] at hc
          simpa using hc.1.1
        subst e; subst e2
        exact .inr List.mem_cons_self
      | false =>
        rw [hx] at h'
        exact (relabel_names_lookup h' hk).imp (List.mem_cons_of_mem _) (List.mem_cons_of_mem _)
    · rw [if_neg hc, List.lookup_cons] at h'
      cases hx : x == n with
      | true =>
        rw [hx] at h'
        have e : x = n := by simpa using hx
        cases h'
        subst e
        rcases hk with rfl | rfl
        · exact .inl List.mem_cons_self
        · exact .inr List.mem_cons_self
      | false =>
        rw [hx] at h'
        exact (relabel_names_lookup h' hk).imp (List.mem_cons_of_mem _) (List.mem_cons_of_mem _)
theorem lookup_relabel_free {env : Env} : ∀ {names : List (Str × NameKind)} {x : Str}, names.lookup x = some .free →
    (names.map fun (n, k) => if (k == NameKind.free && env.scope.kind == .function && env.kindOf n == some .cell) then (n, NameKind.cell) else (n, k)).lookup x = some .cell ∨
    (names.map fun (n, k) => if (k == NameKind.free && env.scope.kind == .function && env.kindOf n == some .cell) then (n, NameKind.cell) else (n, k)).lookup x = some .free
  | [], _, h => by simp at h
  | (n, k) :: r, x, h => by
    have ih := @lookup_relabel_free env r x
    show List.lookup x ((if (k == NameKind.free && env.scope.kind == .function && env.kindOf n == some .cell) = true then (n, NameKind.cell) else (n, k)) :: _) = _ ∨ List.lookup x ((if (k == NameKind.free && env.scope.kind == .function && env.kindOf n == some .cell) = true then (n, NameKind.cell) else (n, k)) :: _) = _
    cases hx : x == n with
    | true =>
      simp only [List.lookup_cons, hx] at h
      cases h
      by_cases hc : (NameKind.free == NameKind.free && env.scope.kind == .function && env.kindOf n == some .cell) = true
      · rw [if_pos hc]; left; simp [List.lookup_cons, hx]
      · rw [if_neg hc]; right; simp [List.lookup_cons, hx]
    | false =>
      simp only [List.lookup_cons, hx] at h
      by_cases hc : (k == NameKind.free && env.scope.kind == .function && env.kindOf n == some .cell) = true
      · rw [if_pos hc]; simp only [List.lookup_cons, hx]; exact ih h
      · rw [if_neg hc]; simp only [List.lookup_cons, hx]; exact ih h
theorem free_cells (I : Inv X pins σ H s) (hb : blkOk scope X.env.scope = true) : ∀ y ∈ scope.names, y.2 = .free → ∃ c, X.env.cells.lookup y.1 = some c := fun y hy e =>
  I.ok.has y.1 ((blk_all hb y hy).2.2 e)
theorem cxC_ok (I : Inv X pins σ H s) (hb : blkOk scope X.env.scope = true) (hf : ∀ b ∈ fp, FpOk X pins H b) (hlt : ∀ b ∈ fp, b < s.heap.objs.size) : (cxC X scope N s H fp).Ok where
  mod := I.ok.mod
  kind := show scope.kind = .function from blk_kind (outer := X.env.scope) hb
  glob := I.ok.glob
  blt := I.ok.blt
  above := Nat.le_succ _
  inj := fun x y c h1 h2 => by
    have q1 := (capOf_some scope.names [] (free_cells I hb) h1).resolve_left (by simp)
    have q2 := (capOf_some scope.names [] (free_cells I hb) h2).resolve_left (by simp)
    exact I.ok.inj x y c q1 q2
  has := fun x hx => by
    have hx' : (relabel scope X.env).names.lookup x = some .cell ∨ (relabel scope X.env).names.lookup x = some .free := hx
    have q : (x, NameKind.cell) ∈ scope.names ∨ (x, NameKind.free) ∈ scope.names := by
      rcases hx' with z | z
      · exact relabel_names_lookup z (.inl rfl)
      · exact relabel_names_lookup z (.inr rfl)
    rcases q with q | q
    · exact absurd rfl (blk_all hb _ q).1
    · exact capOf_has scope.names [] q
  cab := fun x c h => nomatch h
  hd := I.ok.hd
  frames := I.ok.frames
  stk := .inl rfl
  exf := fun b hbm => ⟨Nat.ne_of_lt (Nat.lt_succ_of_lt (hlt b hbm)), fun x c e => by
    have q := (capOf_some scope.names [] (free_cells I hb) e).resolve_left (by simp)
    exact (hf b hbm).2.2.2.2.1 x c q⟩
  bs := I.bs
  bsz := Nat.le_trans I.ok.bsz I.sz
  noex := fun b o e hbm => by
    rcases (hf b hbm).2.2.2.1 with z | z
    · exact I.ok.noex b o e z
    · exact absurd (Nat.lt_of_lt_of_le (Heap.lt_size e) (Nat.le_trans I.ok.bsz z)) (Nat.lt_irrefl _)
  exfs := fun b hbm z => by
    rcases List.mem_cons.mp (I.stkSub b z) with e | e
    · exact (hf b hbm).2.1 e
    · exact (hf b hbm).2.2.1 e
  funs := I.stack
  frf := I.stkFree
theorem cxC_back {σ' : St} {H' : Hp} {s' : Shared} (I : Inv X pins σ H s) (hf : ∀ b ∈ fp, FpOk X pins H b) (J : Inv (cxC X scope N s H fp) [] σ' H' s') : Inv X pins σ H' s' :=
  I.call' J.os J.base J.hok J.bare fun b hb => ⟨(hf b hb).2.2.2.1, (hf b hb).2.1, (hf b hb).2.2.2.2.1, (hf b hb).2.2.2.2.2⟩
end
def PTs (X : Cx) (ifs : List Expr) (t : TT) : Prop :=
  ∀ (pins : List (Addr × Obj)) (s : Shared) (σ : St) (H : Hp) (Q : Bool → Hp → Prop), Inv X pins σ H s → t σ H Q →
    wpAny (model X.prog X.w) X.A (forIn ifs true fun c r => if r = true then do let ok ← isTrue c X.env (eval c X.env); pure (ForInStep.yield ok) else pure (ForInStep.yield r)) (TP X pins σ Q) X.xe s
def tYes : TT := fun _ H Q => Q true H
theorem pts_nil {X : Cx} : PTs X [] tYes := fun _ _ _ H _ I h => wpAny_tests_nil ⟨H, I, h⟩
theorem comp_loop {prog : Program} {w : World} {A : Around} {R : Result → Shared → Prop} {s : Shared} {elt target iter : Expr} {ifs : List Expr} {scope : Scope} {pos : Pos} {it acc : Value} {env : Env} (I : Nat → Shared → Prop)
    (turn : ∀ n s, I n s → wpAny (model prog w) A (pyNext it) (fun r s₁ => match r with
      | none => R (.ok .next) s₁
      | some v => wpAny (model prog w) A (letOwnedTupleGo target it v) (fun _ s₁' => wpAny (model prog w) A (assign target env v) (fun _ s₂ =>
          wpAny (model prog w) A (forIn ifs true fun c r => if r = true then do let ok ← isTrue c env (eval c env); pure (ForInStep.yield ok) else pure (ForInStep.yield r)) (fun ok s₃ =>
            if ok = true then wpAny (model prog w) A (eval elt env) (fun x s₄ =>
              wpAny (model prog w) A (call (.builtin "list.append") [acc, x]) (fun _ s₅ => ∃ m, m < n ∧ I m s₅) (fun _ _ => False) s₄) (fun _ _ => False) s₃
            else ∃ m, m < n ∧ I m s₃) (fun _ _ => False) s₂) (fun _ _ => False) s₁') (fun _ _ => False) s₁) (fun _ _ => False) s)
    (n : Nat) (h : I n s) : codeAny (model prog w) A (.compLoop (.ListComp elt [⟨target, iter, ifs, 0⟩] scope pos) 0 it acc env) R s := by
  refine codeAny_loop rfl I (fun n s hI => ?_) n h
  show wpAny _ A ((compTurn (.ListComp elt [⟨target, iter, ifs, 0⟩] scope pos) 0 it acc env).onRaise (fun x => do noteFrame x env; theTreesLotGoes x)) _ _ s
  refine wpAny_noted ?_
  refine wpAny_noRaise ?_
  rw [compTurn_list]
  refine wpAny_bind (wpAny_standAt (wpAny_bind (wpAny_mono (turn n s hI) (fun r s₁ h₁ => ?_) fun _ _ h' => h')))
  cases r with
  | none => exact wpAny_pure h₁
  | some v =>
    refine wpAny_bind (wpAny_mono h₁ (fun _ s₁' h₁' => ?_) fun _ _ h' => h')
    refine wpAny_bind (wpAny_mono h₁' (fun _ s₂ h₂ => wpAny_bind (wpAny_mono h₂ (fun ok s₃ h₃ => ?_) fun _ _ h' => h')) fun _ _ h' => h')
    cases ok with
    | false => exact wpAny_pure ⟨rfl, h₃⟩
    | true =>
      exact wpAny_bind (wpAny_bind (wpAny_mono h₃ (fun x s₄ h₄ => wpAny_bind (wpAny_mono h₄ (fun _ s₅ h₅ => wpAny_pure (wpAny_pure ⟨rfl, h₅⟩)) fun _ _ h' => h')) fun _ _ h' => h'))
def cmpR (J : It) (g : TG) (tc : TT) (te : TE) (D : Addr) (Fin : Hp → Prop) (σ0 : St) (H0 : Hp) : Prop :=
  ∃ W : Nat → Nat → St → Hp → Prop, (∃ m, W 0 m σ0 H0) ∧ ∀ i m σ H, W i m σ H →
    (J.stop i H ∧ Fin H) ∨ (J.go i H ∧ ∃ N : St → Hp → Prop, (∀ σ' H', N σ' H' → ∃ m', m' < m ∧ W (i + 1) m' σ' H') ∧ ∀ x H1, J.yld i H x H1 → g x σ H1 fun σ2 H2 => tc σ2 H2 fun b H3 =>
      if b = true then te σ2 H3 fun v H4 => ∃ xs, H4 D = some (.lst xs) ∧ xs.length < sizeLine ∧ N σ2 (upd H4 D (.lst (xs ++ [v]))) else N σ2 H3)
theorem cmp_by {J : It} {g : TG} {tc : TT} {te : TE} {D : Addr} {Fin : Hp → Prop} {σ0 : St} {H0 : Hp} (n : Nat) (Pv : Nat → St → Hp → Prop) (h0 : Pv 0 σ0 H0) (hend : ∀ σ H, Pv n σ H → J.stop n H ∧ Fin H)
    (hs : ∀ i σ H, i < n → Pv i σ H → J.go i H ∧ ∀ x H1, J.yld i H x H1 → g x σ H1 fun σ2 H2 => tc σ2 H2 fun b H3 =>
      if b = true then te σ2 H3 fun v H4 => ∃ xs, H4 D = some (.lst xs) ∧ xs.length < sizeLine ∧ Pv (i + 1) σ2 (upd H4 D (.lst (xs ++ [v]))) else Pv (i + 1) σ2 H3) : cmpR J g tc te D Fin σ0 H0 := by
  refine ⟨fun i m σ H => m = n - i ∧ i ≤ n ∧ Pv i σ H, ⟨n, by simp, Nat.zero_le _, h0⟩, ?_⟩
  rintro i m σ H ⟨rfl, hi, p⟩
  by_cases hlt : i < n
  · obtain ⟨q1, q2⟩ := hs i σ H hlt p
    exact .inr ⟨q1, Pv (i + 1), fun σ' H' p' => ⟨n - (i + 1), by omega, rfl, hlt, p'⟩, q2⟩
  · have e : i = n := by omega
    subst e
    exact .inl (hend σ H p)
def tComp (wi : TI) (g : TG) (tc : TT) (te : TE) (nl : Nat) (caps : List Nat) : TE := fun σ H Q =>
  wi σ H fun J H1 => ∀ D, H1 D = none → cmpR J g tc te D (fun H' => Q (.ref D) H') (stC nl caps σ) (upd H1 D (.lst []))
section
variable {X : Cx} {tg iter elt : Expr} {ifs : List Expr} {scope : Scope} {pos : Pos} {wi : TI} {g : TG} {tc : TT} {te : TE} {locs cs : List Str} {caps : List Nat}
theorem comp_block {pins : List (Addr × Obj)} {σ : St} {H : Hp} {s : Shared} {it : Addr} {fp : List Addr} {tn : Nat → Heap → Prop} {J : It} {RR : Value → Addr → Result → Shared → Prop} {E : Value → Shared → Prop} {Fin : Hp → Prop}
    (hc : X.calm = true) (hb : blkOk scope X.env.scope = true) (hcap : capsOk X.N scope cs caps = true)
    (I : Inv X pins σ H s) (T : Turn X.prog X.w X.K tg J fp it tn) (st : tn 0 s.heap) (hf : ∀ b ∈ fp, FpOk X pins H b)
    (hg : PG (cxC X scope (locs ++ cs) s H fp) tg g) (ht : PTs (cxC X scope (locs ++ cs) s H fp) ifs tc) (he : PE (cxC X scope (locs ++ cs) s H fp) elt te)
    (h : cmpR J g tc te s.heap.objs.size Fin (stC locs.length caps σ) (upd H s.heap.objs.size (.lst [])))
    (hRR : ∀ σ' H' s', Inv (cxC X scope (locs ++ cs) s H fp) [] σ' H' s' → Fin H' → RR (.ref s.heap.objs.size) (s.heap.objs.size + 1) (.ok .next) s') :
    wpAny (model X.prog X.w) X.A (newList []) (fun acc s₃ => wpAny (model X.prog X.w) X.A (newFunctionEnv scope X.env.globals (capOf X.env.cells scope.names []) [] X.env.qual none .none (some X.env)) (fun cenv s₄ =>
      codeAny (model X.prog X.w) X.A (.compStart (.ListComp elt [⟨tg, iter, ifs, 0⟩] scope pos) 0 (.ref it) acc { cenv with scope := relabel scope X.env }) (RR acc cenv.locals) s₄) E s₃) E s := by
  have hcell : ∀ y ∈ scope.names, y.2 ≠ .cell := fun y hy => (blk_all hb y hy).1
  have hkind := blk_kind hb
  have hlt : ∀ b ∈ fp, b < s.heap.objs.size := fun b hbm => by
    obtain ⟨o, e, _⟩ := T.obj 0 _ st b hbm
    exact Heap.lt_size e
  refine wpAny_newObj_type (wpAny_newFunctionEnv hcell (by intro y hy; simp at hy) (fun h₁ hns₁ hsb₁ => ?_) hkind)
  dsimp only at hns₁ hsb₁ ⊢
  generalize hH2 : s.heap.push { cls := .type "list", dict := none, data := .seq ([] : List Value).toArray } = H2 at hns₁ hsb₁ ⊢
  have hC : H2.objs.size = s.heap.objs.size + 1 := by rw [← hH2, Heap.size_push]
  rw [hC] at hns₁ hsb₁ ⊢
  have hDC : s.heap.objs.size ≠ s.heap.objs.size + 1 := Nat.ne_of_lt (Nat.lt_succ_self _)
  have below : ∀ b, b < s.heap.objs.size → b ≠ s.heap.objs.size + 1 := fun b hb => Nat.ne_of_lt (Nat.lt_succ_of_lt hb)
  have old : ∀ b o, s.heap.get? b = some o → h₁.get? b = some o := fun b o e => hsb₁.extBut b o (below b (Heap.lt_size e)) (Heap.get?_push_of_some _ (hH2 ▸ Heap.get?_push_of_some _ e))
  have hD : h₁.get? s.heap.objs.size = some { cls := .type "list", dict := none, data := .seq ([] : List Value).toArray } :=
    hsb₁.extBut _ _ hDC (Heap.get?_push_of_some _ (hH2 ▸ Heap.get?_push_size _ rfl))
  have frC : H (s.heap.objs.size + 1) = none := I.hok.fresh (Nat.le_succ _)
  have frD : H s.heap.objs.size = none := I.hok.fresh (Nat.le_refl _)
  have J0 : Inv (cxC X scope (locs ++ cs) s H fp) [] (stC locs.length caps σ) (upd H s.heap.objs.size (.lst [])) { s with heap := h₁, toks := s.toks + ([] : List (Str × Value)).length } := by
    refine ⟨cxC_ok I hb hf hlt, rfl, I.bare, Un.laid old (Nat.le_refl _) frD, ⟨_, hns₁, fun i x v e1 e2 e3 => ?_⟩, fun x c e => ?_, ?_, fun x c e => ?_, fun p hp => absurd (show p ∈ ([] : List (Addr × Obj)) from hp) (by simp), ?_, ?_⟩
    · have e1' : (locs ++ cs)[i]? = some x := e1
      have hi : locs.length ≤ i := by
        rcases Nat.lt_or_ge i locs.length with hi | hi
        · unfold stC at e2
          rw [List.getElem?_append_left (by simpa using hi), List.getElem?_replicate] at e2
          split at e2 <;> cases e2
        · exact hi
      rw [List.getElem?_append_right hi] at e1'
      obtain ⟨k, q1, q2, q3⟩ := caps_get hcap e1'
      unfold stC at e2
      rw [List.getElem?_append_right (by simpa using hi), List.length_replicate, List.getElem?_map, q1] at e2
      have e2' : (σ[k]?).getD none = some v := by simpa using e2
      have e4 : σ[k]? = some (some v) := by
        cases z : σ[k]? with
        | none => rw [z] at e2'; cases e2'
        | some o => rw [z] at e2'; simp at e2'; rw [e2']
      have hfr := (blk_all hb _ (PySem.mem_of_lookup q3)).2.2 rfl
      obtain ⟨m, hn, hl⟩ := I.loc
      obtain ⟨u, r, l⟩ := hl k x v q2 e4 (hfr.elim (fun z => .inr (.inl z)) fun z => .inr (.inr z))
      refine ⟨u, r, .inr ⟨?_, ?_⟩⟩
      · exact lookup_relabel_free q3
      · rcases l with ⟨k1, _⟩ | ⟨_, c, ec, z⟩
        · exfalso
          have k1' : X.env.scope.names.lookup x = some .local := k1
          rcases hfr with z | z <;> (rw [k1'] at z; cases z)
        · obtain ⟨c', ec'⟩ := capOf_has (cells := X.env.cells) scope.names [] (PySem.mem_of_lookup q3)
          have q := (capOf_some scope.names [] (free_cells I hb) ec').resolve_left (by simp)
          rw [ec] at q; cases q
          obtain ⟨o, ho, hd⟩ := z
          exact ⟨c, ec', o, old _ _ ho, hd⟩
    · have q := (capOf_some scope.names [] (free_cells I hb) e).resolve_left (by simp)
      obtain ⟨v, o, ho, hd⟩ := I.cell x c q
      exact ⟨v, o, old _ _ ho, hd⟩
    · show upd H s.heap.objs.size (.lst []) (s.heap.objs.size + 1) = none
      rw [upd_ne (Ne.symm hDC)]
      exact frC
    · have q := (capOf_some scope.names [] (free_cells I hb) e).resolve_left (by simp)
      obtain ⟨v, o, ho, hd⟩ := I.cell x c q
      rw [upd_ne (Nat.ne_of_lt (Heap.lt_size ho))]
      exact I.freeC x c q
    · exact I.hok.laid old (Nat.le_refl _) ⟨Nat.zero_le _, [], 0, .nil, hD⟩
    · show (stC locs.length caps σ).length = (locs ++ cs).length
      unfold stC
      rw [List.length_append, List.length_replicate, List.length_map, List.length_append, caps_len hcap]
  obtain ⟨W, ⟨m0, w0⟩, turn⟩ := h
  have stat : ∀ {H' : Hp}, (∀ b ∈ fp, H' b = none) → ∀ b ∈ fp, FpOk (cxC X scope (locs ++ cs) s H fp) [] H' b := fun {H'} hn b hbm => by
    have q := (cxC_ok (N := locs ++ cs) I hb hf hlt)
    refine ⟨hn b hbm, (q.exf b hbm).1, q.exfs b hbm, .inl hbm, (q.exf b hbm).2, fun p hp => absurd (show p ∈ ([] : List (Addr × Obj)) from hp) (by simp)⟩
  have fr0 : ∀ b ∈ fp, upd H s.heap.objs.size (.lst []) b = none := fun b hbm => by rw [upd_ne (Nat.ne_of_lt (hlt b hbm))]; exact (hf b hbm).1
  have loop : ∀ s₃ : Shared, s₃ = { s with heap := h₁, toks := s.toks + ([] : List (Str × Value)).length } →
      codeAny (model X.prog X.w) X.A (.compLoop (.ListComp elt [⟨tg, iter, ifs, 0⟩] scope pos) 0 (.ref it) (.ref s.heap.objs.size) (cxC X scope (locs ++ cs) s H fp).env) (RR (.ref s.heap.objs.size) (s.heap.objs.size + 1)) s₃ := by
    rintro s₃ rfl
    refine comp_loop (fun n s' => ∃ i σ' H', Inv (cxC X scope (locs ++ cs) s H fp) [] σ' H' s' ∧ tn i s'.heap ∧ (∀ b ∈ fp, H' b = none) ∧ W i n σ' H') ?_ m0
      ⟨0, _, _, J0, T.keep _ _ _ st fun b _ o e => old b o e, fr0, w0⟩
    rintro n s3 ⟨i, σ3, H3, I3, st3, fr3, w3⟩
    rcases turn i n σ3 H3 w3 with ⟨stop, qn⟩ | ⟨go, Nn, hNn, step⟩
    · refine thn (T.done (cxC X scope (locs ++ cs) s H fp) rfl rfl rfl hc i [] s3 σ3 H3 _ I3 (stat fr3) st3 stop) fun r s4 ⟨hr, I4⟩ => ?_
      subst hr
      exact hRR σ3 H3 s4 I4 qn
    · refine thn (T.item (cxC X scope (locs ++ cs) s H fp) rfl rfl rfl hc i [] s3 σ3 H3 _ I3 (stat fr3) st3 go) fun r s4 ⟨u, hr, h4⟩ => ?_
      subst hr
      refine thn h4 fun _ s5 ⟨x, H5, I5, r5, y5, st5, fr5⟩ => ?_
      have I5' := I5.pinned (stat fr5) (T.obj _ _ st5)
      have again : ∀ {σ7 : St} {H7 : Hp} {s7 : Shared}, Inv (cxC X scope (locs ++ cs) s H fp) ([] ++ pinsAt fp s5.heap) σ7 H7 s7 → Nn σ7 H7 →
          ∃ m, m < n ∧ ∃ i σ' H', Inv (cxC X scope (locs ++ cs) s H fp) [] σ' H' s7 ∧ tn i s7.heap ∧ (∀ b ∈ fp, H' b = none) ∧ W i m σ' H' := fun {σ7 H7 s7} I7 n7 => by
        obtain ⟨m', hm, w7⟩ := hNn σ7 H7 n7
        refine ⟨m', hm, i + 1, σ7, H7, I7.unpinned, T.keep _ _ _ st5 fun b hb o e => (I7.pin (b, o) (List.mem_append_right _ (List.mem_append_right _ (mem_pinsAt hb e)))).1, fun b hb => ?_, w7⟩
        obtain ⟨o, e, d⟩ := T.obj _ _ st5 b hb
        exact (I7.pin (b, o) (List.mem_append_right _ (List.mem_append_right _ (mem_pinsAt hb e)))).2.1
      refine thn (hg _ s5 σ3 H5 x u _ I5' r5 (step x H5 y5)) fun _ s6 ⟨σ6, H6, I6, q6⟩ => ?_
      refine thn (ht _ s6 σ6 H6 _ I6 q6) fun b s7 ⟨H7, I7, q7⟩ => ?_
      cases b with
      | false => exact again I7 q7
      | true =>
        refine thn (he _ s7 σ6 H7 _ I7 q7) fun u8 s8 ⟨v8, H8, I8, r8, xs, e8, z8, q8⟩ => ?_
        refine thn (mt_append (X := cxC X scope (locs ++ cs) s H fp) ([] ++ pinsAt fp s5.heap) s8 σ6 H8 (.ref s.heap.objs.size) [v8] (.ref s.heap.objs.size) [u8] (fun _ H9 => Nn σ6 H9) I8 rfl (.cons r8 .nil) ⟨_, xs, v8, rfl, rfl, e8, z8, q8⟩) fun _ s9 ⟨_, H9, I9, _, q9⟩ => ?_
        exact again I9 q9
  exact codeAny_compStart_list (loop _ rfl) (T.self _ 0 _ _ _ (T.keep _ _ _ st fun b _ o e => old b o e) (loop _ rfl))
theorem pe_comp (locs cs : List Str) (caps : List Nat) (hc : X.calm = true) (hi : PI X tg iter wi) (hg : ∀ s H fp, PG (cxC X scope (locs ++ cs) s H fp) tg g) (ht : ∀ s H fp, PTs (cxC X scope (locs ++ cs) s H fp) ifs tc) (he : ∀ s H fp, PE (cxC X scope (locs ++ cs) s H fp) elt te)
    (hb : blkOk scope X.env.scope = true := by rfl) (hcap : capsOk X.N scope cs caps = true := by rfl) (hs : ∀ x, foldedSetIterable iter X.env x = pure x := by intro _; rfl) :
    PE X (.ListComp elt [⟨tg, iter, ifs, 0⟩] scope pos) (tComp wi g tc te locs.length caps) := by
  intro pins s σ H Q I h
  rw [eval_ListComp]
  refine wpAny_comprehension_free (use := none) rfl hs (closure_cap (free_cells I hb)) (blk_kind hb) (fun y hy => (blk_all hb y hy).2.1) (thn (hi pins s σ H _ I h) fun v s1 h1 => thn h1 fun itv s2 h2 => ?_)
  obtain ⟨it, fp, tn, J, H2, e, I2, T, st2, f2, q⟩ := h2
  subst e
  refine comp_block (RR := fun acc C => compPost (model X.prog X.w) X.A X.xe none (EP X pins σ Q) acc C) (locs := locs) (cs := cs) (Fin := fun H' => Q (.ref s2.heap.objs.size) H') hc hb hcap I2 T st2 f2 (hg _ _ _) (ht _ _ _) (he _ _ _) (q _ (I2.hok.fresh (Nat.le_refl _))) ?_
  intro σ' H' s' J' q'
  obtain ⟨m, hn, _⟩ := J'.loc
  refine ⟨m, hn, fun h' hs' => ?_⟩
  have I3 := cxC_back I2 f2 J'
  have fr : H' (s2.heap.objs.size + 1) = none := J'.free
  refine ⟨.ref s2.heap.objs.size, H', I3.turned (t' := s'.toks) (it := s2.heap.objs.size + 1) (fun b o hb e => (hs'.2 b hb).trans e) fr ?_ (.inr (Nat.le_trans I2.sz (Nat.le_succ _))) ?_ ?_, rfl, q'⟩
  · exact Nat.ne_of_gt (Nat.lt_succ_of_lt I2.lt)
  · intro x c e z
    obtain ⟨v, hv⟩ := I2.cell x c e
    have h1 : s2.heap.objs.size + 1 < s2.heap.objs.size := z ▸ hv.lt
    exact absurd h1 (Nat.not_lt.mpr (Nat.le_succ _))
  · intro p hp z
    have h1 : s2.heap.objs.size + 1 < s2.heap.objs.size := z ▸ Heap.lt_size (I2.pin p hp).1
    exact absurd h1 (Nat.not_lt.mpr (Nat.le_succ _))
theorem ps_setC {i : Nat} {y : Str} {py spos : Pos} (locs cs : List Str) (caps : List Nat) (hN : X.N.Nodup) (hiy : X.N[i]? = some y) (hc : X.calm = true) (hi : PI X tg iter wi) (hg : ∀ s H fp, PG (cxC X scope (locs ++ cs) s H fp) tg g) (ht : ∀ s H fp, PTs (cxC X scope (locs ++ cs) s H fp) ifs tc) (he : ∀ s H fp, PE (cxC X scope (locs ++ cs) s H fp) elt te)
    (hy : X.env.scope.names.lookup y = some .local := by rfl)
    (hsw : swapsWith (.ListComp elt [⟨tg, iter, ifs, 0⟩] scope pos) (some (.Name y py)) spos.line X.env = pure true := by rfl)
    (hb : blkOk scope X.env.scope = true := by rfl) (hcap : capsOk X.N scope cs caps = true := by rfl) (hs : ∀ x, foldedSetIterable iter X.env x = pure x := by intro _; rfl) :
    PS X (.Assign [.Name y py] (.ListComp elt [⟨tg, iter, ifs, 0⟩] scope pos) spos) (tAsg (tComp wi g tc te locs.length caps) (gName i)) := by
  intro pins s σ H D I h
  rw [exec_Assign_Name_used _ _ _ _ hsw]
  refine wpAny_bind (wpAny_standAt (wpAny_bind ?_))
  show wpAny _ X.A (do let _ ← comprehension (.ListComp elt [⟨tg, iter, ifs, 0⟩] scope pos) scope X.env _ (newList []) false (eval iter X.env) (some (assign (.Name y py) X.env))) _ _ s
  refine wpAny_bind (wpAny_mono (wpAny_comprehension_free (use := some (assign (.Name y py) X.env)) (Q := fun _ s' => SP X pins D .next s') rfl hs (closure_cap (free_cells I hb)) (blk_kind hb) (fun y hy => (blk_all hb y hy).2.1)
    (thn (hi pins s σ H _ I h) fun v s1 h1 => thn h1 fun itv s2 h2 => ?_)) (fun _ s' hq => wpAny_pure (wpAny_pure hq)) fun _ _ e => e)
  obtain ⟨it, fp, tn, J, H2, e, I2, T, st2, f2, q⟩ := h2
  subst e
  refine comp_block (RR := fun acc C => compPost (model X.prog X.w) X.A X.xe (some (assign (.Name y py) X.env)) (fun _ s' => SP X pins D .next s') acc C) (locs := locs) (cs := cs) (Fin := fun H' => gName i (.ref s2.heap.objs.size) σ H' D.nx) hc hb hcap I2 T st2 f2 (hg _ _ _) (ht _ _ _) (he _ _ _) (q _ (I2.hok.fresh (Nat.le_refl _))) ?_
  intro σ' H' s' J' q'
  obtain ⟨m, hn, _⟩ := J'.loc
  have I3 := cxC_back I2 f2 J'
  have fr : H' (s2.heap.objs.size + 1) = none := J'.free
  have neL : s2.heap.objs.size + 1 ≠ X.env.locals := Nat.ne_of_gt (Nat.lt_succ_of_lt I2.lt)
  have neC : ∀ x c, X.env.cells.lookup x = some c → c ≠ s2.heap.objs.size + 1 := fun x c e z => by
    obtain ⟨v, hv⟩ := I2.cell x c e
    have h1 : s2.heap.objs.size + 1 < s2.heap.objs.size := z ▸ hv.lt
    exact absurd h1 (Nat.not_lt.mpr (Nat.le_succ _))
  show wpAny _ X.A (assign (.Name y py) X.env (.ref s2.heap.objs.size)) _ _ s'
  refine wpAny_assign_Name (store_ok2 I3 hN hiy (.inl hy) (v := .ref s2.heap.objs.size) rfl (fun s4 I4 hsb => ?_) (.inr hy))
  obtain ⟨a, sb, ha⟩ := hsb
  have ane : s2.heap.objs.size + 1 ≠ a := by
    rcases ha with rfl | ha
    · exact neL
    · exact Ne.symm (neC _ _ ha)
  refine ⟨m, hn.sameBut sb ane, fun h' hs' => ?_⟩
  refine ⟨_, H', I4.turned (t' := s4.toks) (it := s2.heap.objs.size + 1) (fun b o hb e => (hs'.2 b hb).trans e) fr neL (.inr (Nat.le_trans I2.sz (Nat.le_succ _))) neC ?_, q'⟩
  intro p hp z
  have h1 : s2.heap.objs.size + 1 < s2.heap.objs.size := z ▸ Heap.lt_size (I2.pin p hp).1
  exact absurd h1 (Nat.not_lt.mpr (Nat.le_succ _))
end
def Its (x : Str) : It := ⟨fun i _ => i < x.cps.size, fun i H v H' => H' = H ∧ ∃ c, x.cps[i]? = some c ∧ v = .str ⟨#[c]⟩, fun i _ => i = x.cps.size⟩
theorem turn_str {P : Program} {w : World} {K : PySem.W.Frag} {tg : Expr} (it : Addr) (x : Str) (t : Tok) (T : String) (hT : T = "str_ascii_iterator" ∨ T = "str_iterator")
    (W : ∀ A' : Around, A'.handled = none → Walks P w A' it [it] [it] x.cps.size (SignAt x) (fun i h => h.IsStrIter it T x t i)) : Turn P w K tg (Its x) [it] it (fun i h => h.IsStrIter it T x t i) where
  mem := by simp
  obj := fun i h st b hb => by
    have e : b = it := by simpa using hb
    subst e
    obtain ⟨o, e, c, d⟩ := st
    exact ⟨o, e, fun v z => by rw [d] at z; cases z⟩
  keep := fun i h h' st k => by
    obtain ⟨o, e, r⟩ := st
    exact ⟨o, k it (by simp) o e, r⟩
  item := by
    intro X hP hw hK hc i pins s σ H E I hf st hg
    subst hP hw hK
    obtain ⟨f0, f1, f2, f3, f4, f5⟩ := hf it (by simp)
    refine (W X.A (I.ok.hd hc)).item i s _ _ hg st fun v h' tk hv st' kk => ?_
    obtain ⟨c, u, hcx, rfl⟩ := hv
    have I1 : Inv X pins σ H { s with heap := h', toks := tk } := I.turned (fun b o hb e => kk b o (by simpa using hb) e) f0 f1 f3 f4 f5
    obtain ⟨o, e, c1, d⟩ := id st'
    refine ⟨_, rfl, go_of (s := { s with heap := h', toks := tk }) e c1 d (by rcases hT with rfl | rfl <;> decide) ⟨.str ⟨#[c]⟩, H, I1, ⟨u, rfl⟩, ⟨rfl, c, hcx, rfl⟩, st', fun b hb => (hf b hb).1⟩⟩
  done := by
    intro X hP hw hK hc i pins s σ H E I hf st hg
    subst hP hw hK
    have hg' : i = x.cps.size := hg
    subst hg'
    obtain ⟨f0, f1, f2, f3, f4, f5⟩ := hf it (by simp)
    exact (W X.A (I.ok.hd hc)).done s _ _ st fun h' tk kk => ⟨rfl, I.turned (fun b o hb e => kk b o (by simpa using hb) e) f0 f1 f3 f4 f5⟩
  self := fun A i s Q E st h => by
    rcases hT with rfl | rfl
    · exact wpAny_pyIter_striter_ascii st h
    · exact wpAny_pyIter_striter_wide st h
section
variable {X : Cx} {tg : Expr}
def iStr (tl : TE) : TI := fun σ H R => tl σ H fun x H1 => ∃ z, x = .str z ∧ R (Its z) H1
theorem pi_str {l : Expr} {tl : TE} (hl : PE X l tl) : PI X tg l (iStr tl) := by
  intro pins s σ H R I h
  refine thn (hl pins s σ H _ I h) fun v s1 ⟨x, H1, I1, r1, q1⟩ => ?_
  obtain ⟨z, rfl, q⟩ := q1
  obtain ⟨t, rfl⟩ := r1
  have fin : ∀ (T : String) (o : Obj), (T = "str_ascii_iterator" ∨ T = "str_iterator") → (∀ A' : Around, A'.handled = none → Walks X.prog X.w A' s1.heap.objs.size [s1.heap.objs.size] [s1.heap.objs.size] z.cps.size (SignAt z) (fun i h => h.IsStrIter s1.heap.objs.size T z t i)) →
      (s1.heap.push o).IsStrIter s1.heap.objs.size T z t 0 → PIE X pins σ tg R (.ref s1.heap.objs.size) { s1 with heap := s1.heap.push o } := fun T o hT W st => by
    refine ⟨s1.heap.objs.size, [s1.heap.objs.size], _, _, H1, rfl, I1.kept (t' := s1.toks) fun b o e => Heap.get?_push_of_some _ e, turn_str _ z t T hT W, st, fun b hb => ?_, q⟩
    have e : b = s1.heap.objs.size := by simpa using hb
    subst e
    exact I1.fpOk (Nat.le_refl _) (I1.hok.fresh (Nat.le_refl _))
  cases ha : z.cps.all (· < 128)
  · exact wpAny_pyIter_wide ha (fin "str_iterator" _ (.inr rfl) (fun A' hA => Walks.strWide hA _ z t) ⟨_, Heap.get?_push_size _ rfl, rfl, rfl⟩)
  · exact wpAny_pyIter_ascii ha (fin "str_ascii_iterator" _ (.inl rfl) (fun A' hA => Walks.strAscii hA _ z t) ⟨_, Heap.get?_push_size _ rfl, rfl, rfl⟩)
end
theorem for_str {z : Str} {g : TG} {tb : TS} {D : Ends} {σ : St} {H : Hp} (Pv : Nat → St → Hp → Prop) (h0 : Pv 0 σ H)
    (hs : ∀ i c σ H, z.cps[i]? = some c → Pv i σ H → g (.str ⟨#[c]⟩) σ H fun σ2 H2 => tb { D with nx := Pv (i + 1), ct := Pv (i + 1), bk := D.nx } σ2 H2) (hd : ∀ σ H, Pv z.cps.size σ H → D.nx σ H) :
    ∃ W : Nat → Nat → St → Hp → Prop, (∃ m, W 0 m σ H) ∧ ∀ i m σ H, W i m σ H →
      ((Its z).stop i H ∧ D.nx σ H) ∨ ((Its z).go i H ∧ ∃ N : St → Hp → Prop, (∀ σ' H', N σ' H' → ∃ m', m' < m ∧ W (i + 1) m' σ' H') ∧ ∀ x H', (Its z).yld i H x H' → g x σ H' fun σ2 H2 => tb { D with nx := N, ct := N, bk := D.nx } σ2 H2) := by
  refine ⟨fun i m σ H => m = z.cps.size - i ∧ i ≤ z.cps.size ∧ Pv i σ H, ⟨z.cps.size, by simp, Nat.zero_le _, h0⟩, ?_⟩
  rintro i m σ H ⟨rfl, hi, p⟩
  by_cases hlt : i < z.cps.size
  · refine .inr ⟨hlt, Pv (i + 1), fun σ' H' p' => ⟨z.cps.size - (i + 1), by omega, rfl, hlt, p'⟩, fun x H' y => ?_⟩
    obtain ⟨e, c, hc, rfl⟩ := y
    subst e
    exact hs i c σ _ hc p
  · have e : i = z.cps.size := by omega
    subst e
    exact .inl ⟨rfl, hd σ H p⟩
section
variable {X : Cx}
theorem part_val {u : Value} {o : Option Int} (p : IsPart u o) : ∃ l : Option (Int × Tok), u = partValue l ∧ l.map (·.1) = o := by
  cases p with
  | none => exact ⟨none, rfl, rfl⟩
  | int i t => exact ⟨some (i, t), rfl, rfl⟩
def rSlS : V → Option Int → Option Int → Hp → VK → Prop := fun x lo hi H Q => ∃ z, x = .str z ∧ z.length ≤ sizeLine ∧ Q (.str (Txt.slice z lo hi)) H
theorem sl_str : SlR X rSlS := by
  intro pins s σ H x v vl vu lo hi sl Q I rx hs pl pu h
  obtain ⟨z, rfl, hz, q⟩ := h
  obtain ⟨t, rfl⟩ := rx
  obtain ⟨l, rfl, rfl⟩ := part_val pl
  obtain ⟨u, rfl, rfl⟩ := part_val pu
  refine ⟨"str", _, F.slot_str_getitem.lookup, typeIs_str _ _ _, wpAny_getItem_str_slice (l := l) (u := u) (st := none) hs rfl ?_⟩
  exact post_val_or_str ⟨Nat.le_trans (Txt.slice_le z _ _) hz, fun t' k => ⟨.str (Txt.slice z (l.map (·.1)) (u.map (·.1))), H, I.tok _, ⟨t', rfl⟩, q⟩⟩
theorem idx_cut (lo hi : Option Int) (n : Nat) : Builtin.Str.strSliceIndices lo hi 1 n = (List.range (HT.sIx n n hi - HT.sIx n 0 lo)).map fun k => HT.sIx n 0 lo + k := by
  have c : ∀ (v : Int) (d : Nat), max 0 (min (if v < 0 then v + (n : Int) else v) (n : Int)) = ((HT.sIx n d (some v) : Nat) : Int) := fun v d => by
    rw [← HT.clip_eq v n d]
    by_cases hv : v < 0
    · simp only [if_pos hv]; omega
    · simp only [if_neg hv]; omega
  have key : ∀ i j : Nat, sliceRange (i : Int) (j : Int) 1 = (List.range (j - i)).map fun k => i + k := fun i j => by
    unfold sliceRange
    simp only [show (1 : Int) > 0 by decide, if_true]
    have e : (if (i : Int) < (j : Int) then ((j : Int) - i + 1 - 1) / 1 else 0).toNat = j - i := by
      split <;> omega
    rw [e]
    refine List.map_congr_left fun k _ => ?_
    omega
  rw [← key]
  unfold Builtin.Str.strSliceIndices
  simp only [show (1 : Int) > 0 by decide, if_true]
  cases lo with
  | none =>
    cases hi with
    | none => rfl
    | some v => rw [← c v n]; rfl
  | some u =>
    cases hi with
    | none => rw [← c u 0]; rfl
    | some v => rw [← c v n, ← c u 0]
theorem slice_cps (x : Str) (lo hi : Option Int) : (Txt.slice x lo hi).cps.toList = (x.cps.toList.drop (HT.sIx x.length 0 lo)).take (HT.sIx x.length x.length hi - HT.sIx x.length 0 lo) := by
  have h0 := HT.sIx_le x.length 0 (Nat.zero_le _) lo
  have h1 := HT.sIx_le x.length x.length (Nat.le_refl _) hi
  have hx : x.cps.toList.length = x.length := by simp [Str.length]
  unfold Txt.slice
  rw [idx_cut]
  split
  · rename_i h
    rw [Bool.and_eq_true] at h
    have h' : HT.sIx x.length x.length hi - HT.sIx x.length 0 lo = x.length := by
      have z := h.2
      rw [List.length_map, List.length_range] at z
      exact eq_of_beq z
    have h2 : HT.sIx x.length 0 lo = 0 := by omega
    rw [h', h2, List.drop_zero, List.take_of_length_le (by omega)]
  · show (List.filterMap _ _).toArray.toList = _
    rw [List.filterMap_map]
    apply List.ext_getElem?
    intro k
    have key : (List.range (HT.sIx x.length x.length hi - HT.sIx x.length 0 lo)).filterMap ((fun i => x.cps[i]?) ∘ fun k => HT.sIx x.length 0 lo + k) = (x.cps.toList.drop (HT.sIx x.length 0 lo)).take (HT.sIx x.length x.length hi - HT.sIx x.length 0 lo) := by
      generalize HT.sIx x.length 0 lo = i at h0 ⊢
      have hj : i + (HT.sIx x.length x.length hi - i) ≤ x.length ∨ HT.sIx x.length x.length hi - i = 0 := by omega
      generalize HT.sIx x.length x.length hi - i = d at hj ⊢
      induction d with
      | zero => simp
      | succ d ih =>
        rw [List.range_succ, List.filterMap_append, ih (by omega), List.take_add_one]
        congr 1
        have hlt : i + d < x.cps.size := by simp [Str.length] at hj; omega
        simp [hlt]
    simpa using congrArg (fun l : List Nat => l[k]?) key
def rUpper : V → List V → Hp → VK → Prop := fun x vs H Q => ∃ z, x = .str z ∧ vs = [] ∧ z.length ≤ 1000 ∧ Q (.str (Txt.upper z)) H
theorem mt_upper : MtR X "str.upper" rUpper := by
  intro pins s σ H x xs v us Q I rx rs h
  obtain ⟨z, rfl, rfl, hz, q⟩ := h
  obtain ⟨t, rfl⟩ := rx
  cases rs
  exact SCL.upper (by omega) fun _ => ⟨.str (Txt.upper z), H, I.tok _, ⟨_, rfl⟩, q⟩
theorem op_le_str : OpR X (compareOp .LtE) (fun x y H Q => ∃ i j, x = .str i ∧ y = .str j ∧ Q (.bl (!decide (j.cps.toList < i.cps.toList))) H) := by
  intro pins s σ H x y v u Q I rx ry h
  obtain ⟨i, j, rfl, rfl, q⟩ := h
  obtain ⟨t, rfl⟩ := rx
  obtain ⟨t', rfl⟩ := ry
  exact P.le_str ⟨.bl (!decide (j.cps.toList < i.cps.toList)), H, I, rfl, q⟩
theorem range_all (bs : List Bool) : (List.range bs.length).all (fun i => (bs[i]?).getD true) = bs.all id := by
  rw [Bool.eq_iff_iff, List.all_eq_true, List.all_eq_true]
  constructor
  · intro h b hb
    obtain ⟨i, hi, e⟩ := List.mem_iff_getElem.mp hb
    have q := h i (List.mem_range.mpr hi)
    rw [List.getElem?_eq_getElem hi, e] at q
    exact q
  · intro h i hi
    have hi' := List.mem_range.mp hi
    rw [List.getElem?_eq_getElem hi']
    exact h _ (List.getElem_mem hi')
theorem call_allB (hc : X.calm = true) : CallR X (.builtin "all") (fun xs H Q => ∃ (p : Addr) (bs : List Bool), xs = [.ref p] ∧ SqL X.K H p (bs.map V.bl) ∧ Q (.bl (bs.all id)) H) := by
  intro pins s σ H xs us Q I r h
  obtain ⟨p, bs, rfl, hp, q⟩ := h
  obtain ⟨u, rfl, ru⟩ := r.one
  cases ru
  obtain ⟨its, rv, pl, hz⟩ := I.list hp
  have hh : X.A.in1.handled = none := I.ok.hd hc
  have hlt : p < s.heap.objs.size := by obtain ⟨_, e, _⟩ := pl.isList; exact Heap.lt_size e
  have hlen : its.length = bs.length := by have := rv.length; simpa using this.symm
  refine call_all_walk (wpAny_pyIter_list pl.isList ⟨s.heap.objs.size, [s.heap.objs.size, p], [s.heap.objs.size], its.toArray.size, _, _, fun i => (bs[i]?).getD true, rfl, Walks.list hh _ _ (Nat.ne_of_lt hlt) its.toArray, ⟨⟨_, Heap.get?_push_size _ rfl, rfl, rfl⟩, pl.isList.push _⟩, ?_, ?_⟩)
  · intro i v s' Q' E' hv hq
    have hv' : its[i]? = some v := by simpa using hv
    cases hb : bs[i]? with
    | none =>
      have z : bs.length ≤ i := by simpa using hb
      rw [List.getElem?_eq_none (by omega)] at hv'
      cases hv'
    | some b =>
      obtain ⟨u, hu, ru⟩ := rv.get (i := i) (x := V.bl b) (by rw [List.getElem?_map, hb]; rfl)
      rw [hv'] at hu
      cases hu
      obtain rfl : v = Value.bool b := ru
      have hq' : Q' b s' := by
        have z : (fun i => (bs[i]?).getD true) i = b := by simp [hb]
        rw [z] at hq
        exact hq
      exact wpAny_truthy_bool hq'
  · intro h' tk hk
    have I1 : Inv X pins σ H { s with heap := h', toks := tk } := I.kept fun b o e => hk b o (fun z => by
      have z' : b = s.heap.objs.size := by simpa using z
      exact absurd (z' ▸ Heap.lt_size e) (Nat.lt_irrefl _)) (Heap.get?_push_of_some _ e)
    refine ⟨.bl (bs.all id), H, I1, ?_, q⟩
    show Value.bool _ = Value.bool _
    rw [List.size_toArray, hlen, range_all]
theorem call_isinst : CallR X (.builtin "isinstance") (fun xs H Q => ∃ x n t b, xs = [x, .ty n] ∧ TyOf X.K H x t ∧ PySem.W.kitOne X.K t (.type n) = some b ∧ Q (.bl b) H) := by
  intro pins s σ H xs us Q I r h
  obtain ⟨x, n, t, b, rfl, ty, e, q⟩ := h
  obtain ⟨u, v, rfl, ru, rv⟩ := r.two
  cases rv
  exact isinst_ok I ru ty e fun tk => ⟨.bl b, H, I.tok _, rfl, q⟩
end
end L2
namespace L2
open PySem PySem.Spec PyProof.Rows
section
variable {X : Cx}
end
inductive Kd where
  | nm (x : Str)
  | two (a b : Kd)
  | som (r : Str) (c : Kd)
  deriving DecidableEq
def Kd.dep : Kd → Nat
  | .nm _ => 0
  | .two a b => 1 + max a.dep b.dep
  | .som _ c => 1 + c.dep
def Kd.nt : Kd → Nat
  | .nm _ => 0
  | .two a b => 1 + a.nt + b.nt
  | .som _ c => 1 + c.nt
theorem Kd.dep_le_nt : ∀ k : Kd, k.dep ≤ k.nt
  | .nm _ => Nat.le_refl _
  | .two a b => by
    have h1 := dep_le_nt a
    have h2 := dep_le_nt b
    simp only [Kd.dep, Kd.nt]; omega
  | .som _ c => by
    have h1 := dep_le_nt c
    simp only [Kd.dep, Kd.nt]; omega
def IsK (H : Hp) : Kd → V → Prop
  | .nm x, v => v = .str x
  | .two a b, v => ∃ (p : Addr) (x y : V), v = .ref p ∧ H p = some (.tup [.str "both", x, y]) ∧ IsK H a x ∧ IsK H b y
  | .som r c, v => ∃ (p : Addr) (y : V), v = .ref p ∧ H p = some (.tup [.str "some", .str r, y]) ∧ IsK H c y
def Tups (H H' : Hp) : Prop := ∀ b xs, H b = some (.tup xs) → H' b = some (.tup xs)
theorem Tups.trans {H H1 H2 : Hp} (a : Tups H H1) (b : Tups H1 H2) : Tups H H2 := fun c o h => b c o (a c o h)
theorem Same.tups {H H' : Hp} (h : Same H H') : Tups H H' := fun b xs e => h b _ e
theorem tups_lst {H : Hp} {p : Addr} {o : HO} {xs : List V} (h : H p = some (.lst xs)) : Tups H (upd H p o) := fun b ys e => by
  rw [upd_ne (ne_of e h (by intro z; cases z))]
  exact e
theorem IsK.mono {H H' : Hp} (t : Tups H H') : ∀ {k : Kd} {v : V}, IsK H k v → IsK H' k v
  | .nm _, _, h => h
  | .two _ _, _, ⟨p, x, y, e, h, ha, hb⟩ => ⟨p, x, y, e, t _ _ h, IsK.mono t ha, IsK.mono t hb⟩
  | .som _ _, _, ⟨p, y, e, h, hc⟩ => ⟨p, y, e, t _ _ h, IsK.mono t hc⟩
theorem vals3 {x y z : V} {us : List Value} (r : Vals [x, y, z] us) : ∃ u v w', us = [u, v, w'] ∧ RelV x u ∧ RelV y v ∧ RelV z w' := by
  cases r with
  | cons r1 r =>
    cases r with
    | cons r2 r =>
      cases r with
      | cons r3 r => cases r; exact ⟨_, _, _, rfl, r1, r2, r3⟩
section
variable {X : Cx} {pins : List (Addr × Obj)} {σ : St} {H : Hp} {s : Shared}
theorem in1_units (A : Around) : A.in1.units = A.units + 1 := rfl
end
def KL (H : Hp) : List V → List Kd → Prop := Paired fun v k => IsK H k v
theorem KL.mono {H H' : Hp} (t : Tups H H') {xs : List V} {ks : List Kd} (h : KL H xs ks) : KL H' xs ks := Paired.imp' (fun _ _ q => IsK.mono t q) h
section
variable {X : Cx}
end
end L2
namespace L2
open PySem PySem.Spec PyProof.Rows
section
variable {X : Cx}
abbrev TF := Str → St → Hp → (Str → Hp → Prop) → Prop
def PF (X : Cx) (es : List Expr) (t : TF) : Prop :=
  ∀ (pins : List (Addr × Obj)) (s : Shared) (σ : St) (H : Hp) (out : Str) (Q : Str → Hp → Prop), Inv X pins σ H s → t out σ H Q →
    wpAny (model X.prog X.w) X.A (joinParts out (evalEach es X.env)) (fun v s' => ∃ z H', Inv X pins σ H' s' ∧ RelV (.str z) v ∧ Q z H') X.xe s
def tF0 : TF := fun out _ H Q => out.length ≤ sizeLine ∧ Q out H
def tFC (te : TE) (t : TF) : TF := fun out σ H Q => te σ H fun x H1 => ∃ y, x = .str y ∧ y.length ≤ sizeLine ∧ (out ++ y).length ≤ sizeLine ∧ t (out ++ y) σ H1 Q
theorem pf_nil : PF X [] tF0 := fun pins s σ H out Q I h => joinParts_nil ⟨out, H, I.tok _, ⟨_, rfl⟩, h.2⟩ h.1
theorem pf_str {e : Expr} {es : List Expr} {te : TE} {t : TF} (he : PE X e te) (hr : PF X es t) : PF X (e :: es) (tFC te t) := by
  intro pins s σ H out Q I h
  show wpAny _ _ (joinParts out (eval e X.env :: evalEach es X.env)) _ _ s
  refine joinParts_cons (thn (he pins s σ H _ I h) fun v s1 ⟨x, H1, I1, r1, q1⟩ => ?_)
  obtain ⟨y, rfl, _, hz, q⟩ := q1
  obtain ⟨u, rfl⟩ := r1
  exact ⟨hz, hr pins s1 σ H1 (out ++ y) Q I1 q⟩
theorem pf_val {e : Expr} {es : List Expr} {te : TE} {t : TF} {pos : Pos} (he : PE X e te) (hr : PF X es t) : PF X (.FormattedValue e (-1) none pos :: es) (tFC te t) := by
  intro pins s σ H out Q I h
  show wpAny _ _ (joinParts out (eval (.FormattedValue e (-1) none pos) X.env :: evalEach es X.env)) _ _ s
  refine joinParts_cons (FormattedValue_plain (thn (he pins s σ H _ I h) fun v s1 ⟨x, H1, I1, r1, q1⟩ => ?_))
  obtain ⟨y, rfl, hy, hz, q⟩ := q1
  obtain ⟨u, rfl⟩ := r1
  exact formatField_str (fun t' tk => ⟨hz, hr pins _ σ H1 (out ++ y) Q (I1.tok _) q⟩) hy
def tFS (t : TF) : TE := fun σ H Q => t Str.empty σ H fun z H' => Q (.str z) H'
theorem pe_fstr {v1 v2 : Expr} {rest : List Expr} {t : TF} {pos : Pos} (h : PF X (v1 :: v2 :: rest) t) : PE X (.JoinedStr (v1 :: v2 :: rest) pos) (tFS t) := by
  intro pins s σ H Q I q
  refine JoinedStr_many (thn (h pins s σ H Str.empty _ I q) fun v s1 ⟨z, H1, I1, r1, q1⟩ => ⟨.str z, H1, I1, r1, q1⟩)
theorem occ_some_le (x : Str) (c hi limit : Nat) (hh : hi = x.length) : ∀ (l : List Nat) (st : Array Nat × Nat), (forIn l st (StrLaws.occBody x ⟨#[c]⟩ hi limit)).run.fst.size ≤ st.fst.size + (l.filter fun i => x.cps.toList[i]? == some c).length
  | [], st => Nat.le_refl _
  | a :: l, st => by
    subst hh
    rw [List.forIn_cons]
    unfold StrLaws.occBody
    split
    · rename_i h
      have e : x.cps.toList[a]? = some c := (StrLaws.subAt_one x c a).mp ⟨h.1.2, h.2⟩
      refine Nat.le_trans (occ_some_le x c _ limit rfl l _) ?_
      rw [List.filter_cons_of_pos (by simp [e])]
      simp only [Array.size_push, List.length_cons]; omega
    · refine Nat.le_trans (occ_some_le x c _ limit rfl l _) ?_
      have : (l.filter fun i => x.cps.toList[i]? == some c).length ≤ ((a :: l).filter fun i => x.cps.toList[i]? == some c).length := by
        rw [List.filter_cons]
        split
        · simp
        · exact Nat.le_refl _
      have e : ((st.fst, st.snd) : Array Nat × Nat).fst.size = st.fst.size := rfl
      omega
theorem places_count (c : Nat) : ∀ (l : List Nat) (k : Nat), ((List.range' k (l.length + 1)).filter fun i => l[i - k]? == some c).length = l.count c
  | [], k => by simp [List.range'_succ]
  | a :: l, k => by
    have ih := places_count c l (k + 1)
    rw [List.length_cons, List.range'_succ, List.filter_cons, Nat.sub_self, List.count_cons]
    have e : ((List.range' (k + 1) (l.length + 1)).filter fun i => (a :: l)[i - k]? == some c) = ((List.range' (k + 1) (l.length + 1)).filter fun i => l[i - (k + 1)]? == some c) := by
      apply List.filter_congr
      intro i hi
      have hk : k + 1 ≤ i := by rw [List.mem_range'_1] at hi; omega
      have : i - k = (i - (k + 1)) + 1 := by omega
      rw [this, List.getElem?_cons_succ]
    rw [e]
    simp only [List.getElem?_cons_zero]
    by_cases h : a = c
    · subst h; simp [ih]
    · have : (some a == some c) = false := by simp [h]
      simp [h, ih]
theorem count_le (x : Str) (c : Nat) : Txt.count x ⟨#[c]⟩ ≤ (x.cps.toList.count c : Int) := by
  unfold Txt.count
  rw [StrLaws.occ_eq, Array.length_toList]
  have h := occ_some_le x c x.length (x.length + 1) rfl (List.range' 0 (x.length + 1 - 0)) (#[], 0)
  have e := places_count c x.cps.toList 0
  simp only [Nat.sub_zero, Array.length_toList] at e h
  have hl : x.length = x.cps.size := rfl
  rw [hl] at h ⊢
  rw [e] at h
  simp only [List.size_toArray, List.length_nil, Nat.zero_add] at h
  exact Int.ofNat_le.mpr h
def rCount : V → List V → Hp → VK → Prop := fun x vs H Q => ∃ z y, x = .str z ∧ vs = [.str y] ∧ Q (.int (Txt.count z y)) H
theorem mt_count : MtR X "str.count" rCount := by
  intro pins s σ H x xs v us Q I rx rs h
  obtain ⟨z, y, rfl, rfl, q⟩ := h
  obtain ⟨t, rfl⟩ := rx
  obtain ⟨u, rfl, ru⟩ := rs.one
  obtain ⟨t', rfl⟩ := ru
  exact SC.count ⟨.int (Txt.count z y), H, I.tok _, ⟨_, rfl⟩, q⟩
def Itr3 (lo c : Int) (n : Nat) : It := ⟨fun i _ => i < n, fun i H x H' => H' = H ∧ x = .int (lo + i * c), fun i _ => n ≤ i⟩
theorem turn_range3 {P : Program} {w : World} {K : PySem.W.Frag} {tg : Expr} (it : Addr) (lo c : Int) (n : Nat) : Turn P w K tg (Itr3 lo c n) [it] it (fun i h => IsRangeIter h it (lo + (i : Nat) * c) ((n : Int) - (i : Nat)) c) where
  mem := by simp
  obj := fun i h st b hb => by
    have e : b = it := by simpa using hb
    subst e
    exact ⟨_, st, fun v z => by
      have z' : Data.fields _ = Data.cell v := z
      cases z'⟩
  keep := fun i h h' st k => k it (by simp) _ st
  item := by
    intro X hP hw hK hc i pins s σ H E I hf st hg
    subst hP hw hK
    obtain ⟨f0, f1, f2, f3, f4, f5⟩ := hf it (by simp)
    have W := Walks.range (prog := X.prog) (w := X.w) (I.ok.hd hc) it lo c n
    refine W.item i s _ _ hg st fun v h' tk hv st' kk => ?_
    obtain ⟨t, rfl⟩ := hv
    have I1 : Inv X pins σ H { s with heap := h', toks := tk } := I.turned (fun b o hb e => kk b o (by simpa using hb) e) f0 f1 f3 f4 f5
    exact ⟨_, rfl, go_of (s := { s with heap := h', toks := tk }) (n := "range_iterator") st' rfl rfl (by decide) ⟨.int (lo + i * c), H, I1, ⟨t, rfl⟩, ⟨rfl, rfl⟩, st', fun b hb => (hf b hb).1⟩⟩
  done := by
    intro X hP hw hK hc i pins s σ H E I hf st hg
    subst hP hw hK
    obtain ⟨f0, f1, f2, f3, f4, f5⟩ := hf it (by simp)
    exact wpAny_pyNext_range_end (I.ok.hd hc) st (by have : n ≤ i := hg; omega) fun h' eb => ⟨rfl, I.turned (t' := s.toks) (fun b o hb e => eb b o hb e) f0 f1 f3 f4 f5⟩
  self := fun _ _ _ _ _ st h => wpAny_pyIter_rangeiter st h
def steps3 (j c : Int) : Nat := (if 0 < j then (j - 1) / c + 1 else 0).toNat
theorem rs_eq {j c : Int} (hc : 0 < c) : Builtin.Range.rangeSize 0 j c = ((steps3 j c : Nat) : Int) := by
  unfold Builtin.Range.rangeSize steps3
  rw [if_pos (show c > 0 from hc)]
  by_cases h : 0 < j
  · rw [if_pos h, if_pos h]
    have : 0 ≤ (j - 1) / c := Int.ediv_nonneg (by omega) (by omega)
    rw [show j - 0 - 1 = j - 1 by omega]
    omega
  · rw [if_neg h, if_neg h]; rfl
theorem small3 {j c : Int} (hc : 0 < c) (hc' : c < 2 ^ 30) (hj : 0 ≤ j) (hj' : j < 2 ^ 30) : Builtin.Range.small 0 j c = true := by
  have h0 : 0 ≤ (j - 1) / c + 1 ∧ (j - 1) / c + 1 ≤ j + 1 := by
    have h1 := Int.ediv_le_self (a := j) c hj
    have h2 : (j - 1) / c ≤ j / c := Int.ediv_le_ediv hc (by omega)
    by_cases hz : j = 0
    · subst hz
      have : (0 - 1) / c = -1 := by
        have h3 : (-1 : Int) / c = -1 := by
          rw [Int.ediv_eq_iff_of_pos hc]; omega
        exact h3
      omega
    · have : 0 ≤ (j - 1) / c := Int.ediv_nonneg (by omega) (by omega)
      omega
  have hs : ((steps3 j c : Nat) : Int) ≤ j + 1 := by
    unfold steps3
    split <;> omega
  unfold Builtin.Range.small
  rw [rs_eq hc]
  have fit : ∀ i : Int, -(2 ^ 62) ≤ i → i < 2 ^ 62 → Builtin.Range.rangeFitsLong i = true := fun i a b => by
    unfold Builtin.Range.rangeFitsLong
    simp only [Bool.and_eq_true, decide_eq_true_eq]
    constructor <;> omega
  rw [fit 0 (by decide) (by decide), fit j (by omega) (by omega), fit c (by omega) (by omega), fit _ (by omega) (by omega), if_pos (show c > 0 from hc), fit (j + (c - 1)) (by omega) (by omega)]
  simp
def iRng3 (ta : TA) : TI := fun σ H R => ta σ H fun vs H1 => ∃ j c : Int, vs = [.int 0, .int j, .int c] ∧ (0 < c ∧ c < 2 ^ 30 ∧ 0 ≤ j ∧ j < 2 ^ 30) ∧ R (Itr3 0 c (steps3 j c)) H1
theorem pi_range3 {tg a b c : Expr} {ta : TA} {p pos : Pos} (hg : Gl X "range") (hm : X.mg "range" = none) (ha : PA X [a, b, c] ta) (hs : starEach [a, b, c] X.env = [(false, eval a X.env), (false, eval b X.env), (false, eval c X.env)] := by rfl) (hs2 : starEach [b, c] X.env = [(false, eval b X.env), (false, eval c X.env)] := by rfl) :
    PI X tg (.Call (.Name "range" p) [a, b, c] [] pos) (iRng3 ta) := by
  intro pins s σ H R I h
  refine Call_ (ld_blt I hg hm boot_range (PyProof.Rows.callWith_type1 (thn (ha pos pins s σ H _ I h) fun us s1 ⟨vs, H1, I1, r1, q1⟩ => ?_) (by rw [hs, hs2]) (by rw [hs2]; rfl)))
  obtain ⟨j, c, e, ⟨q1, q2, q3, q4⟩, q⟩ := q1
  subst e
  obtain ⟨u0, u1, u2, rfl, ⟨t0, rfl⟩, ⟨t1, rfl⟩, ⟨t2, rfl⟩⟩ := vals3 r1
  refine call_range_3 (by omega) ?_ (Or.inl (PyProof.noPylong_small (by omega)))
  refine wpAny_pyIter_range (IsRange.new ..) (small3 q1 q2 q3 q4) ?_
  have I2 : Inv X pins σ H1 { s1 with heap := s1.heap.push { cls := .type "range", data := .fields #[.int 0 t0, .int j t1, .int c t2] }, toks := s1.toks } := I1.kept fun b o e => Heap.get?_push_of_some _ e
  refine ⟨(s1.heap.push { cls := .type "range", data := .fields #[.int 0 t0, .int j t1, .int c t2] }).objs.size, [(s1.heap.push { cls := .type "range", data := .fields #[.int 0 t0, .int j t1, .int c t2] }).objs.size], _, _, H1, rfl,
    I2.kept (t' := s1.toks) fun b o e => Heap.get?_push_of_some _ e, turn_range3 _ 0 c (steps3 j c), ?_, fun b hb => ?_, q⟩
  · show IsRangeIter _ _ (0 + ((0 : Nat) : Int) * c) (((steps3 j c : Nat) : Int) - ((0 : Nat) : Int)) c
    rw [show (0 : Int) + ((0 : Nat) : Int) * c = 0 by simp, show ((steps3 j c : Nat) : Int) - ((0 : Nat) : Int) = Builtin.Range.rangeSize 0 j c by rw [rs_eq q1]; simp]
    exact Heap.get?_push_size _ rfl
  · have e : b = (s1.heap.push { cls := .type "range", data := .fields #[.int 0 t0, .int j t1, .int c t2] }).objs.size := by simpa using hb
    subst e
    exact I2.fpOk (Nat.le_refl _) (I2.hok.fresh (Nat.le_refl _))
theorem for_range3 {lo c : Int} {n : Nat} {g : TG} {tb : TS} {D : Ends} {σ : St} {H : Hp} (Pv : Nat → St → Hp → Prop) (h0 : Pv 0 σ H)
    (hs : ∀ i σ H, i < n → Pv i σ H → g (.int (lo + i * c)) σ H fun σ2 H2 => tb { D with nx := Pv (i + 1), ct := Pv (i + 1), bk := D.nx } σ2 H2) (hd : ∀ σ H, Pv n σ H → D.nx σ H) :
    ∃ W : Nat → Nat → St → Hp → Prop, (∃ m, W 0 m σ H) ∧ ∀ i m σ H, W i m σ H →
      ((Itr3 lo c n).stop i H ∧ D.nx σ H) ∨ ((Itr3 lo c n).go i H ∧ ∃ N : St → Hp → Prop, (∀ σ' H', N σ' H' → ∃ m', m' < m ∧ W (i + 1) m' σ' H') ∧ ∀ x H', (Itr3 lo c n).yld i H x H' → g x σ H' fun σ2 H2 => tb { D with nx := N, ct := N, bk := D.nx } σ2 H2) := by
  refine ⟨fun i m σ H => m = n - i ∧ i ≤ n ∧ Pv i σ H, ⟨n, by simp, Nat.zero_le _, h0⟩, ?_⟩
  rintro i m σ H ⟨rfl, hi, p⟩
  by_cases hlt : i < n
  · refine .inr ⟨hlt, Pv (i + 1), fun σ' H' p' => ⟨n - (i + 1), by omega, rfl, hlt, p'⟩, fun x H' y => ?_⟩
    obtain ⟨e, y⟩ := y
    subst e y
    exact hs i σ _ hlt p
  · have e : i = n := by omega
    subst e
    exact .inl ⟨Nat.le_refl _, hd σ H p⟩
theorem steps3_lt {j c : Int} {i : Nat} (hc : 0 < c) (hi : i < steps3 j c) : 0 ≤ (i : Int) * c ∧ (i : Int) * c < j := by
  unfold steps3 at hi
  split at hi
  · have h1 : (i : Int) ≤ (j - 1) / c := by omega
    have h2 : (i : Int) * c ≤ j - 1 := (Int.le_ediv_iff_mul_le hc).mp h1
    exact ⟨Int.mul_nonneg (by omega) (by omega), by omega⟩
  · simp at hi
end
section
variable {X : Cx} {pins : List (Addr × Obj)} {σ : St} {H : Hp} {s : Shared}
def Kd.head : Kd → Str
  | .nm _ => ""
  | .two _ _ => "both"
  | .som _ _ => "some"
def Kd.mid : Kd → Kd
  | .nm x => .nm x
  | .two a _ => a
  | .som r _ => .nm r
def Kd.last : Kd → Kd
  | .nm x => .nm x
  | .two _ b => b
  | .som _ c => c
def Kd.isT : Kd → Bool
  | .nm _ => false
  | _ => true
end
section
variable {X : Cx}
end
end L2
namespace L2
open PySem PySem.Spec PyProof.Rows
section
variable {X : Cx} {pins : List (Addr × Obj)} {σ : St} {H : Hp} {s : Shared} {h' : Heap}
theorem Inv.turnedL {t' : Nat} {fp : List Addr} (I : Inv X pins σ H s) (hf : ∀ b ∈ fp, FpOk X pins H b) (k : ∀ b o, b ∉ fp → s.heap.get? b = some o → h'.get? b = some o) : Inv X pins σ H { s with heap := h', toks := t' } := by
  have nit : ∀ b u, H b = some u → b ∉ fp := fun b u e z => by rw [(hf b z).1] at e; cases e
  refine I.step (g' := s.gens) (d' := s.drawn) (ch := fp) (fun b hb => ?_) (fun b o _ _ hc e _ => k b o hc e) (fun b o _ _ hc e _ => ⟨o.slots, k b o hc e⟩) (fun _ _ _ _ n => n)
    (fun b o hc e => ⟨o, k b o hc e⟩) (fun _ _ e => e) (fun _ _ _ e => e) (fun b ps e => ⟨#[], by rw [e]; simp⟩) (fun m hm => ?_) (fun b u e => ?_) I.bare
  · obtain ⟨f0, f1, f2, f3, f4, f5⟩ := hf b hb
    exact ⟨f3, f1, f4, f5⟩
  · obtain ⟨o, es, ep, ho, r⟩ := hm
    exact ⟨o, es, ep, k _ o (fun z => (hf _ z).2.1 rfl) ho, r⟩
  · refine (I.hok b u e).stay (fun c v hc q => k c v ?_ q) (fun _ q => q) fun _ _ q => q
    rcases hc with z | z
    · rw [z]; exact nit b u e
    · exact nit c _ z
theorem Inv.turnedT {t' : Nat} {fp : List Addr} {T : Addr} {u : HO} (I : Inv X pins σ H s) (hf : ∀ b ∈ fp, FpOk X pins H b) (k : ∀ b o, b ∉ fp → s.heap.get? b = some o → h'.get? b = some o) (hT : s.heap.objs.size ≤ T) (new : ObjOk X.prog X.w (upd H T u) h' T u) :
    Inv X pins σ (upd H T u) { s with heap := h', toks := t' } := by
  have nit : ∀ b u, H b = some u → b ∉ fp := fun b u e z => by rw [(hf b z).1] at e; cases e
  have hn : H T = none := I.hok.fresh hT
  have nT : ∀ b o, s.heap.get? b = some o → b ≠ T := fun b o e => Nat.ne_of_lt (Nat.lt_of_lt_of_le (Heap.lt_size e) hT)
  refine I.step (g' := s.gens) (d' := s.drawn) (ch := fp) (fun b hb => ?_) (fun b o _ _ hc e _ => k b o hc e) (fun b o _ _ hc e _ => ⟨o.slots, k b o hc e⟩) (fun b o _ e n => by rw [upd_ne (nT b o e)]; exact n)
    (fun b o hc e => ⟨o, k b o hc e⟩) (fun b xs e => by rw [upd_ne (ne_of_none e hn)]; exact e) (fun b o u e => by rw [upd_ne (ne_of_none e hn)]; exact e) (fun b ps e => ⟨#[], by rw [upd_ne (ne_of_none e hn), e]; simp⟩) (fun m hm => ?_) (fun b u' e => ?_) I.bare
  · obtain ⟨f0, f1, f2, f3, f4, f5⟩ := hf b hb
    exact ⟨f3, f1, f4, f5⟩
  · obtain ⟨o, es, ep, ho, r⟩ := hm
    exact ⟨o, es, ep, k _ o (fun z => (hf _ z).2.1 rfl) ho, r⟩
  · by_cases hb : b = T
    · subst hb
      rw [upd_same] at e
      cases e
      exact new
    · rw [upd_ne hb] at e
      refine (I.hok b u' e).stay (fun c v hc q => k c v ?_ q) (fun c q => by rw [upd_ne (ne_of_none q hn)]; exact q) fun c xs q => by rw [upd_ne (ne_of_none q hn)]; exact q
      rcases hc with z | z
      · rw [z]; exact nit b u' e
      · exact nit c _ z
end
def ItE (K : PySem.W.Frag) (a : Addr) : It :=
  ⟨fun i H => ∃ xs x, SqL K H a xs ∧ xs[i]? = some x, fun i H v H' => ∃ T x, v = .ref T ∧ H T = none ∧ H' = upd H T (.tup [.int (i : Int), x]) ∧ ∀ xs, SqL K H a xs → xs[i]? = some x, fun i H => ∃ xs, SqL K H a xs ∧ xs.length ≤ i⟩
theorem turn_enum {P : Program} {w : World} {K : PySem.W.Frag} {elts : List Expr} {k : Nat} {pos : Pos} (a e it : Addr) (hei : e ≠ it) (hae : a ≠ e) (hai : a ≠ it) : Turn P w K (.Tuple elts k pos) (ItE K a) [e, it] e (fun i h => (∃ old, IsEnum h e it i old) ∧ h.IsListIter it a i) where
  mem := by simp
  obj := fun i h st b hb => by
    obtain ⟨⟨old, he⟩, o, ho, hc, hd⟩ := st
    rcases List.mem_cons.mp hb with rfl | hb
    · exact ⟨_, he, fun v z => by
        have z' : Data.fields _ = Data.cell v := z
        cases z'⟩
    · rw [List.mem_singleton.mp hb]
      exact ⟨o, ho, fun v z => by rw [hd] at z; cases z⟩
  keep := fun i h h' st kk => by
    obtain ⟨⟨old, he⟩, hit⟩ := st
    exact ⟨⟨old, kk e (by simp) _ he⟩, hit.at fun o x => kk it (by simp) o x⟩
  item := by
    intro X hP hw hK hc i pins s σ H E I hf st hg
    subst hP hw hK
    obtain ⟨xs, x, hq, hx⟩ := hg
    obtain ⟨its, rv, p, hz⟩ := I.list hq
    obtain ⟨u, hu, ru⟩ := rv.get hx
    have W := WalksT.enumerate (prog := X.prog) (w := X.w) (A := X.A) (I.ok.hd hc) e it a hei hae hai its.toArray
    have hi : i < its.toArray.size := by
      have := (List.getElem?_eq_some_iff.mp hu).1
      simpa using this
    refine W.item i s _ _ hi ⟨st.1, st.2, p.isList⟩ fun T vals h1 tk hP hT hTup hm hk => ?_
    obtain ⟨t, x', hx', rfl⟩ := hP
    have hxu : x' = u := by
      have : its[i]? = some x' := by simpa using hx'
      rw [hu] at this
      exact (Option.some.inj this).symm
    subst hxu
    have nTe := W.apart i T h1 hm
    refine ⟨_, rfl, W.go elts k pos i T _ _ _ hm fun h2 st2 hk2 => ?_⟩
    have kk : ∀ b o, b ∉ [e, it] → s.heap.get? b = some o → h2.get? b = some o := fun b o hb q => hk2 b o hb (hk b o hb q)
    have hT2 : h2.IsTuple T #[.int (i : Int) t, x'] := hTup.at fun o q => hk2 T o nTe q
    refine ⟨.ref T, upd H T (.tup [.int (i : Int), x]), I.turnedT (t' := tk) hf kk hT ?_, rfl, ⟨T, x, rfl, I.hok.fresh hT, rfl, fun ys hy => by rw [I.list_inj hy hq]; exact hx⟩, ⟨st2.1, st2.2.1⟩, fun b hb => ?_⟩
    · exact ⟨by show 2 ≤ sizeLine; exact Nat.le_of_lt (small1000 (by decide)), [.int (i : Int) t, x'], .cons ⟨t, rfl⟩ (.cons ru .nil), hT2⟩
    · have : b ≠ T := fun z => by subst z; exact nTe hb
      rw [upd_ne this]
      exact (hf b hb).1
  done := by
    intro X hP hw hK hc i pins s σ H E I hf st hg
    subst hP hw hK
    obtain ⟨xs, hq, hx⟩ := hg
    obtain ⟨its, rv, p, hz⟩ := I.list hq
    have hl := rv.length
    obtain ⟨⟨old, he⟩, hit⟩ := st
    refine wpAny_pyNext_enum_end (I.ok.hd hc) he hit p.isList (Array.getElem?_eq_none (by simp; omega)) fun h' hx => ⟨rfl, I.turnedL (t' := s.toks) hf fun b o hb y => ?_⟩
    exact hx b o (fun e' => hb (by simp [e'])) y
  self := fun _ _ _ _ _ st h => by
    obtain ⟨⟨old, he⟩, _⟩ := st
    exact wpAny_pyIter_enum he h
def iEnum (K : PySem.W.Frag) (ta : TA) : TI := fun σ H R => ta σ H fun vs H1 => ∃ a, vs = [.ref a] ∧ (∃ xs, SqL K H1 a xs) ∧ R (ItE K a) H1
theorem pi_enum {X : Cx} {elts : List Expr} {k : Nat} {tpos : Pos} {l : Expr} {ta : TA} {p pos : Pos} (hg : Gl X "enumerate") (hm : X.mg "enumerate" = none) (ha : PA X [l] ta) (hs : starEach [l] X.env = [(false, eval l X.env)] := by rfl) : PI X (.Tuple elts k tpos) (.Call (.Name "enumerate" p) [l] [] pos) (iEnum X.K ta) := by
  intro pins s σ H R I h
  refine Call_ (ld_blt I hg hm boot_enumerate (PyProof.Rows.callWith_type1 (thn (ha pos pins s σ H _ I h) fun us s1 ⟨vs, H1, I1, r1, q1⟩ => ?_) hs rfl))
  obtain ⟨a, e, ⟨xs, hq⟩, q⟩ := q1
  subst e
  cases r1 with
  | cons r rr =>
    cases rr
    cases r
    obtain ⟨its, rv, p, hz⟩ := I1.list hq
    have hlt : a < s1.heap.objs.size := by
      obtain ⟨o, ho, _⟩ := p.isList
      exact Heap.lt_size ho
    refine call_enumerate_list p.isList fun h' hE hI hsz hk => ?_
    refine wpAny_pyIter_enum hE ?_
    have I2 : Inv X pins σ H1 { s1 with heap := h' } := I1.kept (t' := s1.toks) hk
    refine ⟨s1.heap.objs.size + 1, [s1.heap.objs.size + 1, s1.heap.objs.size], _, _, H1, rfl, I2, turn_enum a _ _ (Nat.succ_ne_self _) (Nat.ne_of_lt (Nat.lt_succ_of_lt hlt)) (Nat.ne_of_lt hlt), ⟨⟨.none, hE⟩, hI⟩, fun b hb => ?_, q⟩
    have hb' : s1.heap.objs.size ≤ b := by
      rcases List.mem_cons.mp hb with rfl | hb
      · exact Nat.le_succ _
      · rw [List.mem_singleton.mp hb]; exact Nat.le_refl _
    exact I1.fpOk hb' (I1.hok.fresh hb')
theorem for_enum {K : PySem.W.Frag} {a : Addr} {xs : List V} {g : TG} {tb : TS} {D : Ends} {σ : St} {H : Hp} (Pv : Nat → St → Hp → Prop) (h0 : Pv 0 σ H) (hl : ∀ i σ H, i ≤ xs.length → Pv i σ H → SqL K H a xs)
    (hs : ∀ i x σ H T, xs[i]? = some x → Pv i σ H → H T = none → g (.ref T) σ (upd H T (.tup [.int (i : Int), x])) fun σ2 H2 => tb { D with nx := Pv (i + 1), ct := Pv (i + 1), bk := D.nx } σ2 H2) (hd : ∀ σ H, Pv xs.length σ H → D.nx σ H) :
    ∃ W : Nat → Nat → St → Hp → Prop, (∃ m, W 0 m σ H) ∧ ∀ i m σ H, W i m σ H →
      ((ItE K a).stop i H ∧ D.nx σ H) ∨ ((ItE K a).go i H ∧ ∃ N : St → Hp → Prop, (∀ σ' H', N σ' H' → ∃ m', m' < m ∧ W (i + 1) m' σ' H') ∧ ∀ x H', (ItE K a).yld i H x H' → g x σ H' fun σ2 H2 => tb { D with nx := N, ct := N, bk := D.nx } σ2 H2) := by
  refine ⟨fun i m σ H => m = xs.length - i ∧ i ≤ xs.length ∧ Pv i σ H, ⟨xs.length, by simp, Nat.zero_le _, h0⟩, ?_⟩
  rintro i m σ H ⟨rfl, hi, p⟩
  have q := hl i σ H hi p
  by_cases hlt : i < xs.length
  · refine .inr ⟨⟨xs, xs[i], q, by simp [hlt]⟩, Pv (i + 1), fun σ' H' p' => ⟨xs.length - (i + 1), by omega, rfl, hlt, p'⟩, fun v H' y => ?_⟩
    obtain ⟨T, x, rfl, hT, rfl, y⟩ := y
    exact hs i x σ _ T (y xs q) p hT
  · have e : i = xs.length := by omega
    subst e
    exact .inl ⟨⟨xs, q, Nat.le_refl _⟩, hd σ H p⟩
section
variable {X : Cx}
def rPartition : V → List V → Hp → VK → Prop := fun x vs H Q => ∃ z y, x = .str z ∧ vs = [.str y] ∧ (y.length == 0) = false ∧ z.length ≤ sizeLine ∧ ∀ p, H p = none → Q (.ref p) (upd H p (.tup [.str (Txt.partition z y).1, .str (Txt.partition z y).2.1, .str (Txt.partition z y).2.2]))
theorem mt_partition : MtR X "str.partition" rPartition := by
  intro pins s σ H x xs v us Q I rx rs h
  obtain ⟨z, y, rfl, rfl, hy, hz, q⟩ := h
  obtain ⟨t, rfl⟩ := rx
  obtain ⟨u, rfl, ru⟩ := rs.one
  obtain ⟨t', rfl⟩ := ru
  refine call_meets F.slot_str_partition (typeIs_str _ _ _) F.entry_str_partition (F.args_str_partition_2 _ _) (meets_str_partition z y t t' hy hz) ?_
  have fin : ∀ (ta tb tc : Tok) (k : Nat), EP X pins σ Q (.ref s.heap.objs.size) { s with toks := k, heap := s.heap.push { cls := .type "tuple", data := .seq [.str (Txt.partition z y).1 ta, .str (Txt.partition z y).2.1 tb, .str (Txt.partition z y).2.2 tc].toArray } } := fun ta tb tc k => by
    have hf : H s.heap.objs.size = none := I.hok.fresh (Nat.le_refl _)
    refine ⟨.ref s.heap.objs.size, _, I.laid (t' := k) (o := .tup [.str (Txt.partition z y).1, .str (Txt.partition z y).2.1, .str (Txt.partition z y).2.2]) (fun b u e => Heap.get?_push_of_some _ e) (Nat.le_refl _) ?_, rfl, q _ hf⟩
    exact ⟨by show 3 ≤ sizeLine; exact Nat.le_of_lt (small1000 (by decide)), _, .cons ⟨ta, rfl⟩ (.cons ⟨tb, rfl⟩ (.cons ⟨tc, rfl⟩ .nil)), ⟨_, Heap.get?_push_size _ rfl, rfl, _, rfl⟩⟩
  have fin' := fin
  unfold Txt.partition at fin'
  revert fin'
  cases Builtin.Str.occurrences z y 0 z.length 1 with
  | nil => intro fin'; exact fin' _ _ _ _
  | cons i r => intro fin'; exact fin' _ _ _ _
def rStarts : V → List V → Hp → VK → Prop := fun x vs H Q => ∃ z y, x = .str z ∧ vs = [.str y] ∧ Q (.bl (Txt.startswith z y)) H
theorem mt_startswith : MtR X "str.startswith" rStarts := by
  intro pins s σ H x xs v us Q I rx rs h
  obtain ⟨z, y, rfl, rfl, q⟩ := h
  obtain ⟨t, rfl⟩ := rx
  obtain ⟨u, rfl, ru⟩ := rs.one
  obtain ⟨t', rfl⟩ := ru
  exact SC.startswith ⟨.bl _, H, I, rfl, q⟩
theorem vals_strs : ∀ (l : List (Str × Tok)), Vals ((l.map (·.1)).map V.str) (strValues l)
  | [] => .nil
  | p :: r => .cons ⟨p.2, rfl⟩ (vals_strs r)
theorem parts_len (x : Str) (cuts : List Nat) (n : Nat) : (Builtin.Str.partsBetween x cuts n).length = cuts.length + 1 := by
  unfold Builtin.Str.partsBetween
  simp
theorem pick3 (a b c : Value) : slicePick #[a, b, c] none none (some 2) = #[a, c] := by
  have e : sliceRange (sliceBounds none none (some 2) 3).1 (sliceBounds none none (some 2) 3).2.1 (sliceBounds none none (some 2) 3).2.2 = [0, 2] := by decide +kernel
  unfold slicePick
  rw [show (#[a, b, c] : Array Value).size = 3 from rfl, e]
  rfl
theorem pick5 (a b c d e : Value) : slicePick #[a, b, c, d, e] none none (some 2) = #[a, c, e] := by
  have e5 : sliceRange (sliceBounds none none (some 2) 5).1 (sliceBounds none none (some 2) 5).2.1 (sliceBounds none none (some 2) 5).2.2 = [0, 2, 4] := by decide +kernel
  unfold slicePick
  rw [show (#[a, b, c, d, e] : Array Value).size = 5 from rfl, e5]
  rfl
def rSl2 : V → Hp → VK → Prop := fun x H Q => ∃ p xs ys, x = .ref p ∧ H p = some (.lst xs) ∧ ((∃ a b c, xs = [a, b, c] ∧ ys = [a, c]) ∨ ∃ a b c d e, xs = [a, b, c, d, e] ∧ ys = [a, c, e]) ∧ ∀ r, H r = none → Q (.ref r) (upd H r (.lst ys))
def tSl2 (te : TE) : TE := fun σ H Q => te σ H fun x H1 => rSl2 x H1 Q
theorem vals5 {x y z a b : V} {us : List Value} (r : Vals [x, y, z, a, b] us) : ∃ u0 u1 u2 u3 u4, us = [u0, u1, u2, u3, u4] ∧ RelV x u0 ∧ RelV y u1 ∧ RelV z u2 ∧ RelV a u3 ∧ RelV b u4 := by
  cases r with
  | cons r0 r =>
    cases r with
    | cons r1 r =>
      obtain ⟨u2, u3, u4, rfl, r2, r3, r4⟩ := vals3 r
      exact ⟨_, _, _, _, _, rfl, r0, r1, r2, r3, r4⟩
theorem pe_slice2 {e : Expr} {te : TE} {pos p2 p3 : Pos} {j : Nat} (he : PE X e te) : PE X (.Subscript e (.Slice none none (some (.Constant (.int 2) j p3)) p2) pos) (tSl2 te) := by
  intro pins s σ H Q I h
  refine Subscript_ (thn (he pins s σ H _ I h) fun v s1 ⟨x, H1, I1, r1, q1⟩ => ?_)
  refine wpAny_Slice ?_
  rw [evalPart_none]
  refine wpAny_pure (wpAny_pure ?_)
  rw [evalPart_some]
  refine wpAny_Constant_int ?_
  obtain ⟨p, xs, ys, rfl, hp, hx, q⟩ := q1
  cases r1
  generalize hs2 : ({ s1 with toks := s1.toks + 1 } : Shared) = s2
  have I2 : Inv X pins σ H1 s2 := by rw [← hs2]; exact I1.tok _
  have I4 : Inv X pins σ H1 { s2 with heap := s2.heap.push { cls := .type "slice", data := .fields #[.none, .none, .int 2 s1.toks] } } := I2.kept (t' := s2.toks) fun b ob q => Heap.get?_push_of_some _ q
  obtain ⟨its, r, ht, hz⟩ := I4.list (SqL.of hp)
  have hg : wpAny (model X.prog X.w) X.A (getItem (.ref p) (.ref s2.heap.objs.size)) (EP X pins σ Q) X.xe { s2 with heap := s2.heap.push { cls := .type "slice", data := .fields #[.none, .none, .int 2 s1.toks] } } := by
    refine wpAny_getItem_list_slice ht.isList (Heap.IsSliceOf.new ..) .none .none (.int 2 _) (by simp) ?_ (by rw [List.size_toArray, ← r.length]; exact hz)
    have hf := I4.hok.fresh (Nat.le_refl (s2.heap.push { cls := .type "slice", data := .fields #[.none, .none, .int 2 s1.toks] }).objs.size)
    refine ⟨.ref _, _, I4.laid (t' := s2.toks) (o := .lst ys) (fun b ob q => Heap.get?_push_of_some _ q) (Nat.le_refl _) ?_, rfl, q _ hf⟩
    rcases hx with ⟨a, b, c, rfl, rfl⟩ | ⟨a, b, c, d, f, rfl, rfl⟩
    · obtain ⟨u0, u1, u2, rfl, a0, a1, a2⟩ := vals3 r
      refine ⟨by show 2 ≤ sizeLine; exact Nat.le_of_lt (small1000 (by decide)), [u0, u2], 0, .cons a0 (.cons a2 .nil), ?_⟩
      rw [Heap.get?_push_size _ rfl]
      rw [pick3]
    · obtain ⟨u0, u1, u2, u3, u4, rfl, a0, a1, a2, a3, a4⟩ := vals5 r
      refine ⟨by show 3 ≤ sizeLine; exact Nat.le_of_lt (small1000 (by decide)), [u0, u2, u4], 0, .cons a0 (.cons a2 (.cons a4 .nil)), ?_⟩
      rw [Heap.get?_push_size _ rfl]
      rw [pick5]
  show wpAny (model X.prog X.w) X.A (subscriptTail e (.Slice none none (some (.Constant (.int 2) j p3)) p2) (.ref p) (.ref s2.heap.objs.size)) (EP X pins σ Q) X.xe { s2 with heap := s2.heap.push { cls := .type "slice", data := .fields #[.none, .none, .int 2 s1.toks] } }
  exact tail_any (ops := [.ref p, .ref s2.heap.objs.size]) ht.isList.typeIs slot_list_getitem.lookup hg (by with_unfolding_all rfl)
end
theorem Str.l_app (a b : Str) : (a ++ b).cps.toList = a.cps.toList ++ b.cps.toList := by rw [Str.cps_append]; simp
theorem app_sep {c : Nat} : ∀ {a b r t : List Nat}, c ∉ a → c ∉ b → a ++ c :: r = b ++ c :: t → a = b ∧ r = t
  | [], [], r, t, _, _, h => ⟨rfl, by simpa using h⟩
  | [], y :: b, r, t, _, hb, h => by
    simp only [List.nil_append, List.cons_append, List.cons.injEq] at h
    exact absurd (by rw [h.1]; exact List.mem_cons_self) hb
  | x :: a, [], r, t, ha, _, h => by
    simp only [List.nil_append, List.cons_append, List.cons.injEq] at h
    exact absurd (by rw [← h.1]; exact List.mem_cons_self) ha
  | x :: a, y :: b, r, t, ha, hb, h => by
    simp only [List.cons_append, List.cons.injEq] at h
    obtain ⟨e1, e2⟩ := app_sep (fun z => ha (List.mem_cons_of_mem _ z)) (fun z => hb (List.mem_cons_of_mem _ z)) h.2
    exact ⟨by rw [h.1, e1], e2⟩
theorem strX' {a b : Str} (h : a.cps.toList = b.cps.toList) : a = b := by
  cases a; cases b
  simp only [Str.mk.injEq]
  exact Array.toList_inj.mp h
theorem join_inj {c : Nat} : ∀ {ps qs : List Str}, ps ≠ [] → qs ≠ [] → (∀ p ∈ ps, c ∉ p.cps.toList) → (∀ q ∈ qs, c ∉ q.cps.toList) → Str.join ⟨#[c]⟩ ps = Str.join ⟨#[c]⟩ qs → ps = qs
  | [], _, h, _, _, _, _ => absurd rfl h
  | _, [], _, h, _, _, _ => absurd rfl h
  | [p], [q], _, _, _, _, h => by rw [show p = q from h]
  | [p], q :: q2 :: qs, _, _, hp, hq, h => by
    exfalso
    have h1 : p = q ++ ⟨#[c]⟩ ++ Str.join ⟨#[c]⟩ (q2 :: qs) := h
    have := hp p (by simp)
    rw [h1, Str.l_app, Str.l_app] at this
    simp at this
  | p :: p2 :: ps, [q], _, _, hp, hq, h => by
    exfalso
    have h1 : p ++ ⟨#[c]⟩ ++ Str.join ⟨#[c]⟩ (p2 :: ps) = q := h
    have := hq q (by simp)
    rw [← h1, Str.l_app, Str.l_app] at this
    simp at this
  | p :: p2 :: ps, q :: q2 :: qs, _, _, hp, hq, h => by
    have h1 : p ++ ⟨#[c]⟩ ++ Str.join ⟨#[c]⟩ (p2 :: ps) = q ++ ⟨#[c]⟩ ++ Str.join ⟨#[c]⟩ (q2 :: qs) := h
    have h2 := congrArg (fun z : Str => z.cps.toList) h1
    simp only [Str.l_app, List.append_assoc] at h2
    obtain ⟨e1, e2⟩ := app_sep (hp p (by simp)) (hq q (by simp)) (show p.cps.toList ++ c :: (Str.join ⟨#[c]⟩ (p2 :: ps)).cps.toList = q.cps.toList ++ c :: (Str.join ⟨#[c]⟩ (q2 :: qs)).cps.toList from h2)
    rw [strX' e1, join_inj (ps := p2 :: ps) (qs := q2 :: qs) (by simp) (by simp) (fun p hp' => hp p (List.mem_cons_of_mem _ hp')) (fun q hq' => hq q (List.mem_cons_of_mem _ hq')) (strX' e2)]
theorem split_join {c : Nat} {ps : List Str} (h0 : ps ≠ []) (h : ∀ p ∈ ps, c ∉ p.cps.toList) : Txt.split (Str.join ⟨#[c]⟩ ps) ⟨#[c]⟩ = ps := by
  refine join_inj (c := c) (fun z => ?_) h0 (StrLaws.split_free _ c) h (StrLaws.join_split _ _)
  have := PyProof.Rows.split_pos (Str.join ⟨#[c]⟩ ps) ⟨#[c]⟩
  rw [z] at this
  simp at this
theorem part_at {z y : Str} {i : Nat} (h : StrLaws.At z y z.length i) (hn : ∀ k, k < i → ¬ StrLaws.At z y z.length k) : Txt.partition z y = (Builtin.Str.strSub z 0 i, y, Builtin.Str.strSub z (i + y.length) z.length) := by
  unfold Txt.partition
  rcases StrLaws.occ_head z y 1 (Nat.le_refl 1) with ⟨h0, hh⟩ | ⟨j, r, h0, hj, hjn⟩
  · exact absurd h (hh i)
  · have : j = i := by
      rcases Nat.lt_trichotomy j i with g | g | g
      · exact absurd hj (hn j g)
      · exact g
      · exact absurd h (hjn i g)
    subst this
    rw [h0]
theorem at_iff (z y : Str) (i : Nat) (hy : 0 < y.length) : StrLaws.At z y z.length i ↔ ∃ r, z.cps.toList.drop i = y.cps.toList ++ r := by
  unfold StrLaws.At
  rw [StrLaws.subAt_eq]
  have hl : y.length = y.cps.toList.length := by simp [Str.length]
  have hz : z.length = z.cps.toList.length := by simp [Str.length]
  constructor
  · rintro ⟨h1, h2⟩
    refine ⟨(z.cps.toList.drop i).drop y.length, ?_⟩
    have e : (z.cps.toList.drop i).take y.length = y.cps.toList := by simpa using h2
    rw [← e]
    exact (List.take_append_drop _ _).symm
  · rintro ⟨r, h⟩
    have := congrArg List.length h
    rw [List.length_drop, List.length_append] at this
    constructor
    · omega
    · rw [h, hl]; simp
end L2
namespace L2
open PySem PySem.Spec PyProof.Rows
section
variable {κ : Type} [DecidableEq κ]
end
section
variable {P : Program} {w : World} {H : Hp} {h : Heap} {a : Addr}
end
section
variable {X : Cx} {pins : List (Addr × Obj)} {σ : St} {H : Hp} {s : Shared} {a : Addr} {y v : V} {u r : Value} {o : Option V} {A : Around} {E : Value → Shared → Prop}
end
section
variable {X : Cx} {pins : List (Addr × Obj)} {σ : St} {H : Hp} {s : Shared} {a : Addr} {kvs : List (Key × V)} {k : Key} {u : Value} {A : Around} {E : Value → Shared → Prop}
end
section
variable {X : Cx} {o i e value : Expr} {pos pos' tpos : Pos} {td ty tv : TE}
end
section
variable {X : Cx} {pos : Pos}
end
section
variable {X : Cx} {pins : List (Addr × Obj)} {σ : St} {H : Hp} {s : Shared} {a : Addr} {y d : V} {u r : Value} {o : Option V} {A : Around} {E : Value → Shared → Prop}
end
section
variable {X : Cx} {o e f : Expr} {apos cpos : Pos} {td ty tx : TE}
end
section
variable {X : Cx} {pins : List (Addr × Obj)} {σ : St} {H : Hp} {s : Shared} {a : Addr} {kvs : List (Key × V)} {A : Around} {E : Value → Shared → Prop}
end
section
variable {X : Cx} {pins : List (Addr × Obj)} {σ : St} {H : Hp} {s : Shared} {a : Addr} {y : V} {u : Value} {A : Around} {E : Value → Shared → Prop}
end
end L2
namespace L2
open PySem PySem.Spec PyProof.Rows
section
variable {κ : Type} [DecidableEq κ]
end
end L2
namespace L2
open PySem PySem.Spec PyProof.Rows
section
variable {X : Cx} {pins : List (Addr × Obj)} {σ : St} {H : Hp} {s : Shared}
end
section
variable {X : Cx}
end
end L2
namespace L2
open PySem PySem.Spec PyProof.Rows
inductive Dat where
  | int (i : Int)
  | str (x : Str)
  | tup (ds : List Dat)
  | lst (ds : List Dat)
  | dct (ks : List (Str × Dat))
mutual
def Da (H : Hp) : Dat → V → Prop
  | .int i, v => v = .int i
  | .str x, v => v = .str x
  | .tup ds, v => ∃ p xs, v = .ref p ∧ H p = some (.tup xs) ∧ Das H ds xs
  | .lst ds, v => ∃ p xs, v = .ref p ∧ H p = some (.lst xs) ∧ Das H ds xs
  | .dct ks, v => ∃ p l, v = .ref p ∧ H p = some (.dK l) ∧ Dak H ks l
def Das (H : Hp) : List Dat → List V → Prop
  | [], xs => xs = []
  | d :: ds, xs => ∃ x r, xs = x :: r ∧ Da H d x ∧ Das H ds r
def Dak (H : Hp) : List (Str × Dat) → List (Key × V) → Prop
  | [], l => l = []
  | (k, d) :: ks, l => ∃ x r, l = (.inr k, x) :: r ∧ Da H d x ∧ Dak H ks r
end
example (H : Hp) (i : Int) (v : V) : Da H (.int i) v = (v = .int i) := rfl
example (H : Hp) (ds : List Dat) (v : V) : Da H (.tup ds) v = (∃ p xs, v = .ref p ∧ H p = some (.tup xs) ∧ Das H ds xs) := rfl
mutual
def Dat.nd : Dat → Prop
  | .int _ => True
  | .str _ => True
  | .tup ds => nds ds
  | .lst ds => nds ds
  | .dct ks => (ks.map (·.1)).Nodup ∧ ndk ks
def nds : List Dat → Prop
  | [] => True
  | d :: ds => d.nd ∧ nds ds
def ndk : List (Str × Dat) → Prop
  | [] => True
  | (_, d) :: ks => d.nd ∧ ndk ks
end
section
variable {X : Cx} {pins : List (Addr × Obj)} {σ : St} {H : Hp} {s : Shared}
end
end L2
set_option maxHeartbeats 400000
namespace L2
open PySem PySem.Spec PyProof.Rows
section
variable {X : Cx} {pins : List (Addr × Obj)} {σ : St} {H : Hp} {s : Shared}
end
end L2
namespace L2
open PySem PySem.Spec PyProof.Rows
section
variable {prog : Program} {w : World}
end
end L2
namespace L2
open PySem PySem.Spec PyProof.Rows
section
variable {X : Cx} {pins : List (Addr × Obj)} {σ : St} {H : Hp} {s : Shared}
end
section
variable {X : Cx}
end
end L2
namespace L2
open PySem PySem.Spec PyProof.Rows
section
variable {X : Cx} {tg iter kx vx : Expr} {ifs : List Expr} {scope : Scope} {pos : Pos} {wi : TI} {g : TG} {tc : TT} {tk tv : TE} {locs cs : List Str} {caps : List Nat}
end
end L2
namespace L2
open PySem PySem.Spec PyProof.Rows
section
variable {X : Cx}
end
end L2
set_option maxHeartbeats 1000000
namespace L2
open PySem PySem.Spec PyProof.Rows
section
variable {prog : Program} {w : World} {A : Around} {E : Value → Shared → Prop} {s : Shared}
end
end L2
namespace L2
open PySem PySem.Spec PyProof.Rows
section
variable {prog : Program} {w : World} {A : Around} {E : Value → Shared → Prop} {s : Shared} {z TI TO i1 i2 l1 l2 : Addr} {k1 k2 : Nat} {xs ys : Array Value} {x y a b : Value}
end
end L2
namespace L2
open PySem PySem.Spec PyProof.Rows
section
variable {prog : Program} {w : World} {A : Around} {E : Value → Shared → Prop} {s : Shared} {z TI TO i1 i2 l1 l2 : Addr} {k1 k2 : Nat} {xs ys : Array Value} {x y a b : Value}
end
end L2
namespace L2
open PySem PySem.Spec PyProof.Rows
end L2
namespace L2
open PySem PySem.Spec PyProof.Rows
end L2
namespace L2
open PySem PySem.Spec PyProof.Rows
section
variable {prog : Program} {w : World} {A : Around} {E : Value → Shared → Prop} {s : Shared}
end
section
variable {X : Cx}
end
end L2
namespace L2
open PySem PySem.Spec PyProof.Rows
section
variable {X : Cx}
end
end L2
namespace L2
open PySem PySem.Spec PyProof.Rows
def notStar : Expr → Bool
  | .Starred _ _ => false
  | _ => true
theorem star_ns {e : Expr} {es : List Expr} {env : Env} (h : notStar e = true) : starEach (e :: es) env = (false, eval e env) :: starEach es env := by
  cases e <;> first | (cases h; done) | (rw [starEach.eq_def])
theorem pa_consN {X : Cx} {e : Expr} {es : List Expr} {te : TE} {t : TA} (ha : PE X e te) (hr : PA X es t) (h : notStar e = true := by rfl) : PA X (e :: es) (tCons te t) := pa_cons ha hr (star_ns h)
end L2
namespace L2
open PySem PySem.Spec PyProof.Rows
section
variable {X : Cx}
end
end L2
namespace L2
open PySem PySem.Spec PyProof.Rows
inductive Tx where
  | non
  | int (i : Int)
  | str (x : Str)
  | tup (ds : List Tx)
  | lst (ds : List Tx)
noncomputable instance : DecidableEq Tx := fun a b => Classical.propDecidable (a = b)
mutual
def Xa (H : Hp) : Tx → V → Prop
  | .non, v => v = .non
  | .int i, v => v = .int i
  | .str x, v => v = .str x
  | .tup ds, v => ∃ p xs, v = .ref p ∧ H p = some (.tup xs) ∧ Xas H ds xs
  | .lst ds, v => ∃ p xs, v = .ref p ∧ H p = some (.lst xs) ∧ Xas H ds xs
def Xas (H : Hp) : List Tx → List V → Prop
  | [], xs => xs = []
  | d :: ds, xs => ∃ x r, xs = x :: r ∧ Xa H d x ∧ Xas H ds r
end
mutual
def Tx.dp : Tx → Nat
  | .non => 0
  | .int _ => 0
  | .str _ => 0
  | .tup ds => 1 + xdps ds
  | .lst ds => 1 + xdps ds
def xdps : List Tx → Nat
  | [] => 0
  | d :: ds => max d.dp (xdps ds)
end
theorem Xas.len {H : Hp} : ∀ {ds : List Tx} {xs : List V}, Xas H ds xs → xs.length = ds.length
  | [], _, h => by cases h; rfl
  | _ :: _, _, ⟨x, r, e, _, q⟩ => by rw [e, List.length_cons, List.length_cons, Xas.len q]
theorem Xas.get {H : Hp} : ∀ {ds : List Tx} {xs : List V} {j : Nat} {x : V}, Xas H ds xs → xs[j]? = some x → ∃ d, ds[j]? = some d ∧ Xa H d x
  | [], _, _, _, h, e => by cases h; simp at e
  | d :: _, _, 0, x, ⟨y, r, e, h, q⟩, g => by subst e; simp at g; subst g; exact ⟨d, rfl, h⟩
  | d :: ds, _, j + 1, x, ⟨y, r, e, h, q⟩, g => by
    subst e
    obtain ⟨d', g1, g2⟩ := Xas.get (j := j) q (by simpa using g)
    exact ⟨d', by simpa using g1, g2⟩
theorem xdps_mem : ∀ {ds : List Tx} {d : Tx}, d ∈ ds → d.dp ≤ xdps ds
  | e :: ds, d, h => by
    rcases List.mem_cons.mp h with rfl | h
    · exact Nat.le_max_left _ _
    · exact Nat.le_trans (xdps_mem h) (Nat.le_max_right _ _)
theorem Xas.inj {H : Hp} {n : Nat} (ih : ∀ d d' v, d.dp ≤ n → Xa H d v → Xa H d' v → d = d') : ∀ {ds es : List Tx} {xs : List V}, xdps ds ≤ n → Xas H ds xs → Xas H es xs → ds = es
  | [], [], _, _, _, _ => rfl
  | [], _ :: _, _, _, h, ⟨x, r, e, _⟩ => by have h' : _ = [] := h; rw [h'] at e; cases e
  | _ :: _, [], _, _, ⟨x, r, e, _⟩, h => by have h' : _ = [] := h; rw [h'] at e; cases e
  | d :: ds, e :: es, _, hn, ⟨x, r, e1, h1, q1⟩, ⟨y, r', e2, h2, q2⟩ => by
    rw [e1] at e2
    cases e2
    have m : max d.dp (xdps ds) ≤ n := hn
    rw [ih d e x (by omega) h1 h2, Xas.inj ih (by omega) q1 q2]
theorem Xa.inj_n {H : Hp} (n : Nat) : ∀ (d d' : Tx) (v : V), d.dp ≤ n → Xa H d v → Xa H d' v → d = d' := by
  induction n with
  | zero =>
    intro d d' v hn h h'
    cases d with
    | tup ds => simp only [Tx.dp] at hn; omega
    | lst ds => simp only [Tx.dp] at hn; omega
    | non => 
      have e : v = .non := h
      subst e
      cases d' with
      | non => rfl
      | int i => exact absurd (show V.non = .int i from h') (by intro z; cases z)
      | str i => exact absurd (show V.non = .str i from h') (by intro z; cases z)
      | tup es => obtain ⟨p, xs, e, _⟩ := (show ∃ p xs, V.non = .ref p ∧ H p = some (.tup xs) ∧ Xas H es xs from h'); cases e
      | lst es => obtain ⟨p, xs, e, _⟩ := (show ∃ p xs, V.non = .ref p ∧ H p = some (.lst xs) ∧ Xas H es xs from h'); cases e
    | int j => 
      have e : v = .int j := h
      subst e
      cases d' with
      | non => exact absurd (show V.int j = .non from h') (by intro z; cases z)
      | int i => have z : V.int j = .int i := h'; cases z; rfl
      | str i => exact absurd (show V.int j = .str i from h') (by intro z; cases z)
      | tup es => obtain ⟨p, xs, e, _⟩ := (show ∃ p xs, V.int j = .ref p ∧ H p = some (.tup xs) ∧ Xas H es xs from h'); cases e
      | lst es => obtain ⟨p, xs, e, _⟩ := (show ∃ p xs, V.int j = .ref p ∧ H p = some (.lst xs) ∧ Xas H es xs from h'); cases e
    | str j => 
      have e : v = .str j := h
      subst e
      cases d' with
      | non => exact absurd (show V.str j = .non from h') (by intro z; cases z)
      | int i => exact absurd (show V.str j = .int i from h') (by intro z; cases z)
      | str i => have z : V.str j = .str i := h'; cases z; rfl
      | tup es => obtain ⟨p, xs, e, _⟩ := (show ∃ p xs, V.str j = .ref p ∧ H p = some (.tup xs) ∧ Xas H es xs from h'); cases e
      | lst es => obtain ⟨p, xs, e, _⟩ := (show ∃ p xs, V.str j = .ref p ∧ H p = some (.lst xs) ∧ Xas H es xs from h'); cases e
  | succ n ih =>
    intro d d' v hn h h'
    by_cases hz : d.dp ≤ n
    · exact ih d d' v hz h h'
    cases d with
    | non => exact absurd (Nat.zero_le n) hz
    | int _ => exact absurd (Nat.zero_le n) hz
    | str _ => exact absurd (Nat.zero_le n) hz
    | tup ds =>
      obtain ⟨p, xs, rfl, e1, q1⟩ := (show ∃ p xs, v = .ref p ∧ H p = some (.tup xs) ∧ Xas H ds xs from h)
      simp only [Tx.dp] at hn
      cases d' with
      | non => exact absurd (show V.ref p = .non from h') (by intro z; cases z)
      | int i => exact absurd (show V.ref p = .int i from h') (by intro z; cases z)
      | str i => exact absurd (show V.ref p = .str i from h') (by intro z; cases z)
      | tup es =>
        obtain ⟨p', ys, e, e2, q2⟩ := (show ∃ p' xs, V.ref p = .ref p' ∧ H p' = some (.tup xs) ∧ Xas H es xs from h')
        cases e
        rw [e1] at e2
        cases e2
        rw [Xas.inj ih (by omega) q1 q2]
      | lst es =>
        obtain ⟨p', ys, e, e2, q2⟩ := (show ∃ p' xs, V.ref p = .ref p' ∧ H p' = some (.lst xs) ∧ Xas H es xs from h')
        cases e
        rw [e1] at e2
        cases e2
    | lst ds =>
      obtain ⟨p, xs, rfl, e1, q1⟩ := (show ∃ p xs, v = .ref p ∧ H p = some (.lst xs) ∧ Xas H ds xs from h)
      simp only [Tx.dp] at hn
      cases d' with
      | non => exact absurd (show V.ref p = .non from h') (by intro z; cases z)
      | int i => exact absurd (show V.ref p = .int i from h') (by intro z; cases z)
      | str i => exact absurd (show V.ref p = .str i from h') (by intro z; cases z)
      | lst es =>
        obtain ⟨p', ys, e, e2, q2⟩ := (show ∃ p' xs, V.ref p = .ref p' ∧ H p' = some (.lst xs) ∧ Xas H es xs from h')
        cases e
        rw [e1] at e2
        cases e2
        rw [Xas.inj ih (by omega) q1 q2]
      | tup es =>
        obtain ⟨p', ys, e, e2, q2⟩ := (show ∃ p' xs, V.ref p = .ref p' ∧ H p' = some (.tup xs) ∧ Xas H es xs from h')
        cases e
        rw [e1] at e2
        cases e2
theorem Xa.inj {H : Hp} {d d' : Tx} {v : V} (h : Xa H d v) (h' : Xa H d' v) : d = d' := Xa.inj_n d.dp d d' v (Nat.le_refl _) h h'
theorem all_dec (ds es : List Tx) : ((List.range (min ds.length es.length)).all (fun j => decide (ds[j]? = es[j]?)) && ds.length == es.length) = decide (ds = es) := by
  by_cases h : ds = es
  · subst h; simp
  · rw [decide_eq_false h]
    by_cases hl : ds.length = es.length
    · have : ¬ (List.range (min ds.length es.length)).all (fun j => decide (ds[j]? = es[j]?)) = true := by
        intro ha
        apply h
        apply List.ext_getElem?
        intro j
        by_cases hj : j < ds.length
        · have := (List.all_eq_true.mp ha) j (List.mem_range.mpr (by omega))
          simpa using this
        · rw [List.getElem?_eq_none (by omega), List.getElem?_eq_none (by omega)]
      rw [Bool.eq_false_iff.mpr this]; rfl
    · rw [beq_eq_false_iff_ne.mpr hl, Bool.and_false]
theorem dec_tup (ds es : List Tx) : decide (Tx.tup ds = Tx.tup es) = decide (ds = es) := by
  by_cases h : ds = es
  · subst h; simp
  · rw [decide_eq_false h, decide_eq_false (by intro z; cases z; exact h rfl)]
theorem dec_lst (ds es : List Tx) : decide (Tx.lst ds = Tx.lst es) = decide (ds = es) := by
  by_cases h : ds = es
  · subst h; simp
  · rw [decide_eq_false h, decide_eq_false (by intro z; cases z; exact h rfl)]
section
variable {X : Cx} {pins : List (Addr × Obj)} {σ : St} {H : Hp} {s : Shared}
theorem eq_of_rcX {A : Around} {d d' : Tx} {x y : V} {u v : Value} (hx : Xa H d x) (hy : Xa H d' y) (ru : RelV x u) (rv : RelV y v) (h : SeqAt.RcAt A s u v (decide (d = d'))) : SeqAt.EqAt A s u v (decide (d = d')) := by
  by_cases z : u = v
  · subst z
    have e : x = y := RelV.inj ru rv
    subst e
    rw [decide_eq_true (Xa.inj hx hy)]
    exact SeqAt.EqAt.same _
  · intro prog w E Q hq
    unfold eqBool
    refine wpAny_holding ?_
    refine wpAny_ite_split (fun hab => absurd (eq_of_beq hab) z) (fun _ => ?_)
    have nf : ∀ b t, u ≠ .float b t := by
      rintro b t rfl
      cases d with
      | non => have e : x = .non := hx; subst e; cases ru
      | int i => have e : x = .int i := hx; subst e; obtain ⟨_, e⟩ := ru; cases e
      | str i => have e : x = .str i := hx; subst e; obtain ⟨_, e⟩ := ru; cases e
      | tup ds => obtain ⟨p, xs, rfl, _⟩ := (show ∃ p xs, x = .ref p ∧ H p = some (.tup xs) ∧ Xas H ds xs from hx); cases ru
      | lst ds => obtain ⟨p, xs, rfl, _⟩ := (show ∃ p xs, x = .ref p ∧ H p = some (.lst xs) ∧ Xas H ds xs from hx); cases ru
    cases u with
    | float b t => exact absurd rfl (nf b t)
    | _ => exact wpAny_bind (h prog w E _ (wpAny_truthy_bool hq))
theorem seqX {A : Around} {n : Nat} {xs ys : List V} {its jts : List Value} {ds es : List Tx} (hx : Xas H ds xs) (hy : Xas H es ys) (r1 : Vals xs its) (r2 : Vals ys jts) (hn : xdps ds ≤ n)
    (ih : ∀ d d' x y u v, d.dp ≤ n → Xa H d x → Xa H d' y → RelV x u → RelV y v → SeqAt.EqAt A s u v (decide (d = d'))) :
    its.toArray.size = ds.length ∧ jts.toArray.size = es.length ∧ ∀ j (g1 : j < its.toArray.size) (g2 : j < jts.toArray.size), SeqAt.EqAt A s its.toArray[j] jts.toArray[j] ((fun j => decide (ds[j]? = es[j]?)) j) := by
  have l1 : its.toArray.size = ds.length := by rw [List.size_toArray, ← r1.length, hx.len]
  have l2 : jts.toArray.size = es.length := by rw [List.size_toArray, ← r2.length, hy.len]
  refine ⟨l1, l2, fun j g1 g2 => ?_⟩
  have j1 : j < xs.length := by rw [hx.len, ← l1]; exact g1
  have j2 : j < ys.length := by rw [hy.len, ← l2]; exact g2
  obtain ⟨k1, e1, i1⟩ := hx.get (List.getElem?_eq_getElem j1)
  obtain ⟨k2, e2, i2⟩ := hy.get (List.getElem?_eq_getElem j2)
  obtain ⟨u1, a1, b1⟩ := r1.get (List.getElem?_eq_getElem j1)
  obtain ⟨u2, a2, b2⟩ := r2.get (List.getElem?_eq_getElem j2)
  have c1 : its.toArray[j] = u1 := by
    have := (List.getElem?_eq_some_iff.mp a1).2
    simpa using this
  have c2 : jts.toArray[j] = u2 := by
    have := (List.getElem?_eq_some_iff.mp a2).2
    simpa using this
  rw [c1, c2]
  show SeqAt.EqAt A s u1 u2 (decide (ds[j]? = es[j]?))
  rw [e1, e2]
  have : decide (some k1 = some k2) = decide (k1 = k2) := by
    by_cases h : k1 = k2
    · subst h; simp
    · rw [decide_eq_false h, decide_eq_false (by intro z; cases z; exact h rfl)]
  rw [this]
  exact ih k1 k2 _ _ _ _ (Nat.le_trans (xdps_mem (List.mem_of_getElem? e1)) hn) i1 i2 b1 b2
theorem rcX_n (I : Inv X pins σ H s) (n : Nat) : ∀ (d d' : Tx) (A : Around) (x y : V) (u v : Value), d.dp ≤ n → Xa H d x → Xa H d' y → RelV x u → RelV y v → A.units + d.dp < cLine →
    SeqAt.RcAt A s u v (decide (d = d')) ∧ SeqAt.RcNeAt A s u v (!decide (d = d')) := by
  have tupA : ∀ {es : List Tx} {y : V} {v : Value}, Xa H (.tup es) y → RelV y v → ∃ p ys jts, y = .ref p ∧ v = .ref p ∧ Xas H es ys ∧ Vals ys jts ∧ s.heap.IsTuple p jts.toArray := by
    intro es y v h r
    obtain ⟨p, ys, rfl, e, q⟩ := (show ∃ p xs, y = .ref p ∧ H p = some (.tup xs) ∧ Xas H es xs from h)
    obtain ⟨_, its, r1, t1⟩ := (show ObjOk X.prog X.w H s.heap p (.tup ys) from I.hok p _ e)
    exact ⟨p, ys, its, rfl, r, q, r1, t1⟩
  have lstA : ∀ {es : List Tx} {y : V} {v : Value}, Xa H (.lst es) y → RelV y v → ∃ p ys jts, y = .ref p ∧ v = .ref p ∧ Xas H es ys ∧ Vals ys jts ∧ s.heap.IsList p jts.toArray := by
    intro es y v h r
    obtain ⟨p, ys, rfl, e, q⟩ := (show ∃ p xs, y = .ref p ∧ H p = some (.lst xs) ∧ Xas H es xs from h)
    obtain ⟨its, r1, t1, _⟩ := I.list (SqL.of e)
    exact ⟨p, ys, its, rfl, r, q, r1, t1.isList⟩
  have base : ∀ (d d' : Tx) (A : Around) (x y : V) (u v : Value), d.dp ≤ 0 → Xa H d x → Xa H d' y → RelV x u → RelV y v → A.units + d.dp < cLine → SeqAt.RcAt A s u v (decide (d = d')) ∧ SeqAt.RcNeAt A s u v (!decide (d = d')) := by
    intro d d' A x y u v hn hx hy ru rv hl
    have hl0 : A.units < cLine := by omega
    cases d with
    | tup ds => simp only [Tx.dp] at hn; omega
    | lst ds => simp only [Tx.dp] at hn; omega
    | non =>
      have ex : x = .non := hx
      subst ex
      have eu : u = .none := ru
      subst eu
      cases d' with
      | non =>
        have ey : y = .non := hy
        subst ey
        have ev : v = .none := rv
        subst ev
        rw [decide_eq_true rfl]
        exact ⟨SeqAt.RcAt.none_none, SeqAt.RcNeAt.none_none⟩
      | int i =>
        have ey : y = .int i := hy
        subst ey
        obtain ⟨t, rfl⟩ := rv
        rw [decide_eq_false (by intro z; cases z)]
        exact ⟨SeqAt.RcAt.none_int _ _, SeqAt.RcNeAt.none_int _ _⟩
      | str i =>
        have ey : y = .str i := hy
        subst ey
        obtain ⟨t, rfl⟩ := rv
        rw [decide_eq_false (by intro z; cases z)]
        exact ⟨SeqAt.RcAt.none_str _ _, SeqAt.RcNeAt.none_str _ _⟩
      | tup es =>
        obtain ⟨p, ys, jts, rfl, rfl, _, _, t⟩ := tupA hy rv
        rw [decide_eq_false (by intro z; cases z)]
        exact ⟨SeqAt.RcAt.none_tuple t hl0, SeqAt.RcNeAt.none_tuple t hl0⟩
      | lst es =>
        obtain ⟨p, ys, jts, rfl, rfl, _, _, t⟩ := lstA hy rv
        rw [decide_eq_false (by intro z; cases z)]
        exact ⟨SeqAt.RcAt.none_list t hl0, SeqAt.RcNeAt.none_list t hl0⟩
    | int j =>
      have ex : x = .int j := hx
      subst ex
      obtain ⟨t0, rfl⟩ := ru
      cases d' with
      | non =>
        have ey : y = .non := hy
        subst ey
        have ev : v = .none := rv
        subst ev
        rw [decide_eq_false (by intro z; cases z)]
        exact ⟨SeqAt.RcAt.int_none _ _, SeqAt.RcNeAt.int_none _ _⟩
      | int i =>
        have ey : y = .int i := hy
        subst ey
        obtain ⟨t, rfl⟩ := rv
        have e : decide (Tx.int j = Tx.int i) = (j == i) := by
          by_cases h : j = i
          · subst h; simp
          · rw [decide_eq_false (by intro z; cases z; exact h rfl), beq_eq_false_iff_ne.mpr h]
        rw [e]
        exact ⟨SeqAt.RcAt.int_int _ _ _ _, SeqAt.RcNeAt.int_int _ _ _ _⟩
      | str i =>
        have ey : y = .str i := hy
        subst ey
        obtain ⟨t, rfl⟩ := rv
        rw [decide_eq_false (by intro z; cases z)]
        exact ⟨SeqAt.RcAt.int_str _ _ _ _, SeqAt.RcNeAt.int_str _ _ _ _⟩
      | tup es =>
        obtain ⟨p, ys, jts, rfl, rfl, _, _, t⟩ := tupA hy rv
        rw [decide_eq_false (by intro z; cases z)]
        exact ⟨SeqAt.RcAt.int_tuple _ _ t hl0, SeqAt.RcNeAt.int_tuple _ _ t hl0⟩
      | lst es =>
        obtain ⟨p, ys, jts, rfl, rfl, _, _, t⟩ := lstA hy rv
        rw [decide_eq_false (by intro z; cases z)]
        exact ⟨SeqAt.RcAt.int_list _ _ t hl0, SeqAt.RcNeAt.int_list _ _ t hl0⟩
    | str j =>
      have ex : x = .str j := hx
      subst ex
      obtain ⟨t0, rfl⟩ := ru
      cases d' with
      | non =>
        have ey : y = .non := hy
        subst ey
        have ev : v = .none := rv
        subst ev
        rw [decide_eq_false (by intro z; cases z)]
        exact ⟨SeqAt.RcAt.str_none _ _, SeqAt.RcNeAt.str_none _ _⟩
      | int i =>
        have ey : y = .int i := hy
        subst ey
        obtain ⟨t, rfl⟩ := rv
        rw [decide_eq_false (by intro z; cases z)]
        exact ⟨SeqAt.RcAt.str_int _ _ _ _, SeqAt.RcNeAt.str_int _ _ _ _⟩
      | str i =>
        have ey : y = .str i := hy
        subst ey
        obtain ⟨t, rfl⟩ := rv
        have e : decide (Tx.str j = Tx.str i) = (j == i) := by
          by_cases h : j = i
          · subst h; simp
          · rw [decide_eq_false (by intro z; cases z; exact h rfl), beq_eq_false_iff_ne.mpr h]
        rw [e]
        exact ⟨SeqAt.RcAt.str_str _ _ _ _, SeqAt.RcNeAt.str_str _ _ _ _⟩
      | tup es =>
        obtain ⟨p, ys, jts, rfl, rfl, _, _, t⟩ := tupA hy rv
        rw [decide_eq_false (by intro z; cases z)]
        exact ⟨SeqAt.RcAt.str_tuple _ _ t hl0, SeqAt.RcNeAt.str_tuple _ _ t hl0⟩
      | lst es =>
        obtain ⟨p, ys, jts, rfl, rfl, _, _, t⟩ := lstA hy rv
        rw [decide_eq_false (by intro z; cases z)]
        exact ⟨SeqAt.RcAt.str_list _ _ t hl0, SeqAt.RcNeAt.str_list _ _ t hl0⟩
  induction n with
  | zero => exact fun d d' A x y u v hn => base d d' A x y u v (by omega)
  | succ n ih =>
    intro d d' A x y u v hn hx hy ru rv hl
    have hl0 : A.units < cLine := by omega
    cases d with
    | non => exact base _ d' A x y u v (Nat.le_refl _) hx hy ru rv hl
    | int _ => exact base _ d' A x y u v (Nat.le_refl _) hx hy ru rv hl
    | str _ => exact base _ d' A x y u v (Nat.le_refl _) hx hy ru rv hl
    | tup ds =>
      obtain ⟨p0, xs, its, rfl, rfl, q1, r1, t1⟩ := tupA hx ru
      simp only [Tx.dp] at hn hl
      cases d' with
      | non =>
        have ey : y = .non := hy
        subst ey
        have ev : v = .none := rv
        subst ev
        rw [decide_eq_false (by intro z; cases z)]
        exact ⟨SeqAt.RcAt.tuple_none t1 hl0, SeqAt.RcNeAt.tuple_none t1 hl0⟩
      | int i =>
        have ey : y = .int i := hy
        subst ey
        obtain ⟨t, rfl⟩ := rv
        rw [decide_eq_false (by intro z; cases z)]
        exact ⟨SeqAt.RcAt.tuple_int _ _ t1 hl0, SeqAt.RcNeAt.tuple_int _ _ t1 hl0⟩
      | str i =>
        have ey : y = .str i := hy
        subst ey
        obtain ⟨t, rfl⟩ := rv
        rw [decide_eq_false (by intro z; cases z)]
        exact ⟨SeqAt.RcAt.tuple_str _ _ t1 hl0, SeqAt.RcNeAt.tuple_str _ _ t1 hl0⟩
      | tup es =>
        obtain ⟨p, ys, jts, rfl, rfl, q2, r2, t2⟩ := tupA hy rv
        obtain ⟨l1, l2, he⟩ := seqX (A := A.in1) (s := s) (n := min n (xdps ds)) q1 q2 r1 r2 (by omega) fun d d' x y u v hd a b c e =>
          eq_of_rcX a b c e (ih d d' A.in1 x y u v (by omega) a b c e (by rw [in1_units]; omega)).1
        have g1 := SeqAt.RcAt.tuples (A := A) t1 t2 hl0 he
        have g2 := SeqAt.RcNeAt.tuples (A := A) t1 t2 hl0 he
        rw [l1, l2, all_dec, ← dec_tup] at g1
        rw [l1, l2, all_dec, ← dec_tup] at g2
        exact ⟨g1, g2⟩
      | lst es =>
        obtain ⟨p, ys, jts, rfl, rfl, _, _, t⟩ := lstA hy rv
        rw [decide_eq_false (by intro z; cases z)]
        exact ⟨SeqAt.RcAt.tuple_list t1 t hl0, SeqAt.RcNeAt.tuple_list t1 t hl0⟩
    | lst ds =>
      obtain ⟨p0, xs, its, rfl, rfl, q1, r1, t1⟩ := lstA hx ru
      simp only [Tx.dp] at hn hl
      cases d' with
      | non =>
        have ey : y = .non := hy
        subst ey
        have ev : v = .none := rv
        subst ev
        rw [decide_eq_false (by intro z; cases z)]
        exact ⟨SeqAt.RcAt.list_none t1 hl0, SeqAt.RcNeAt.list_none t1 hl0⟩
      | int i =>
        have ey : y = .int i := hy
        subst ey
        obtain ⟨t, rfl⟩ := rv
        rw [decide_eq_false (by intro z; cases z)]
        exact ⟨SeqAt.RcAt.list_int _ _ t1 hl0, SeqAt.RcNeAt.list_int _ _ t1 hl0⟩
      | str i =>
        have ey : y = .str i := hy
        subst ey
        obtain ⟨t, rfl⟩ := rv
        rw [decide_eq_false (by intro z; cases z)]
        exact ⟨SeqAt.RcAt.list_str _ _ t1 hl0, SeqAt.RcNeAt.list_str _ _ t1 hl0⟩
      | tup es =>
        obtain ⟨p, ys, jts, rfl, rfl, _, _, t⟩ := tupA hy rv
        rw [decide_eq_false (by intro z; cases z)]
        exact ⟨SeqAt.RcAt.list_tuple t1 t hl0, SeqAt.RcNeAt.list_tuple t1 t hl0⟩
      | lst es =>
        obtain ⟨p, ys, jts, rfl, rfl, q2, r2, t2⟩ := lstA hy rv
        obtain ⟨l1, l2, he⟩ := seqX (A := A.in1) (s := s) (n := min n (xdps ds)) q1 q2 r1 r2 (by omega) fun d d' x y u v hd a b c e =>
          eq_of_rcX a b c e (ih d d' A.in1 x y u v (by omega) a b c e (by rw [in1_units]; omega)).1
        by_cases hz : ds.length = es.length
        · have g1 := SeqAt.RcAt.lists (A := A) t1 t2 (by rw [l1, l2, hz]) hl0 he
          have g2 := SeqAt.RcNeAt.lists (A := A) t1 t2 (by rw [l1, l2, hz]) hl0 he
          have e : (List.range its.toArray.size).all (fun j => decide (ds[j]? = es[j]?)) = decide (Tx.lst ds = Tx.lst es) := by
            have := all_dec ds es
            rw [hz, Nat.min_self, beq_self_eq_true, Bool.and_true] at this
            rw [l1, hz, this, dec_lst]
          rw [e] at g1
          rw [e] at g2
          exact ⟨g1, g2⟩
        · have hz' : (its.toArray.size != jts.toArray.size) = true := by rw [l1, l2]; simp [hz]
          rw [decide_eq_false (by intro z; cases z; exact hz rfl)]
          exact ⟨SeqAt.RcAt.lists_lengths t1 t2 hz' hl0, SeqAt.RcNeAt.lists_lengths t1 t2 hz' hl0⟩
theorem eqX (I : Inv X pins σ H s) {d d' : Tx} {A : Around} {x y : V} {u v : Value} (hx : Xa H d x) (hy : Xa H d' y) (ru : RelV x u) (rv : RelV y v) (hl : A.units + d.dp < cLine) : SeqAt.EqAt A s u v (decide (d = d')) :=
  eq_of_rcX hx hy ru rv (rcX_n I d.dp d d' A x y u v (Nat.le_refl _) hx hy ru rv hl).1
end
section
variable {X : Cx}
def rEqX : R2 := fun x y H Q => ∃ k k' : Tx, Xa H k x ∧ Xa H k' y ∧ k.dp ≤ 60 ∧ Q (.bl (decide (k = k'))) H
def rNeX : R2 := fun x y H Q => ∃ k k' : Tx, Xa H k x ∧ Xa H k' y ∧ k.dp ≤ 60 ∧ Q (.bl (!decide (k = k'))) H
theorem op_eqX (hu : X.A.units + 64 < cLine) : OpR X (compareOp .Eq) rEqX := by
  intro pins s σ H x y v u Q I rx ry h
  obtain ⟨k, k', h1, h2, hd, q⟩ := h
  exact (rcX_n I k.dp k k' X.A x y v u (Nat.le_refl _) h1 h2 rx ry (by omega)).1 _ _ _ _ ⟨.bl _, H, I, rfl, q⟩
theorem op_neX (hu : X.A.units + 64 < cLine) : OpR X (compareOp .NotEq) rNeX := by
  intro pins s σ H x y v u Q I rx ry h
  obtain ⟨k, k', h1, h2, hd, q⟩ := h
  exact (rcX_n I k.dp k k' X.A x y v u (Nat.le_refl _) h1 h2 rx ry (by omega)).2 _ _ _ _ ⟨.bl _, H, I, rfl, q⟩
end
def Kd.tx : Kd → Tx
  | .nm x => .str x
  | .two a b => .tup [.str "both", a.tx, b.tx]
  | .som r c => .tup [.str "some", .str r, c.tx]
theorem IsK.xa {H : Hp} : ∀ {k : Kd} {v : V}, IsK H k v → Xa H k.tx v
  | .nm _, _, h => h
  | .two _ _, _, ⟨p, x, y, e, h, ha, hb⟩ => ⟨p, _, e, h, _, _, rfl, rfl, _, _, rfl, ha.xa, _, _, rfl, hb.xa, rfl⟩
  | .som _ _, _, ⟨p, y, e, h, hc⟩ => ⟨p, _, e, h, _, _, rfl, rfl, _, _, rfl, rfl, _, _, rfl, hc.xa, rfl⟩
theorem Kd.tx_dp : ∀ k : Kd, k.tx.dp = k.dep
  | .nm _ => rfl
  | .two a b => by
    show 1 + max 0 (max a.tx.dp (max b.tx.dp 0)) = 1 + max a.dep b.dep
    rw [tx_dp a, tx_dp b]; omega
  | .som _ c => by
    show 1 + max 0 (max 0 (max c.tx.dp 0)) = 1 + c.dep
    rw [tx_dp c]; omega
end L2
namespace L2
open PySem
end L2
namespace L2
open PySem PyProof.Rows
section
variable {prog : Program} {w : World} {A : Around} {E : Value → Shared → Prop} {s : Shared}
end
end L2
namespace L2
open PySem PyProof.Rows
section
variable {prog : Program} {w : World} {A : Around} {E : Value → Shared → Prop} {s : Shared}
end
end L2
namespace L2
open PySem
end L2
namespace L2
open PySem PyProof.Rows
section
variable {prog : Program} {w : World} {κ : Type} [DecidableEq κ] {knd : KeyKind prog w κ} {A : Around} {E : Value → Shared → Prop} {s : Shared}
end
end L2
namespace L2
open PySem PyProof.Rows
section
variable {prog : Program} {w : World} {κ : Type} [DecidableEq κ] {knd : KeyKind prog w κ} {A : Around} {E : Value → Shared → Prop} {s : Shared}
end
end L2
namespace L2
open PySem PySem.Spec PyProof.Rows
end L2
namespace L2
open PySem PySem.Spec PyProof.Rows
section
variable {prog : Program} {w : World} {κ : Type} [DecidableEq κ] {knd : KeyKind prog w κ} {A : Around} {E : Value → Shared → Prop} {s : Shared}
end
end L2
namespace L2
open PySem PySem.Spec PyProof.Rows
section
variable {prog : Program} {w : World} {κ : Type} [DecidableEq κ] {knd : KeyKind prog w κ} {A : Around} {E : Value → Shared → Prop} {s : Shared}
end
end L2
namespace L2
open PySem PySem.Spec PyProof.Rows
section
variable {prog : Program} {w : World} {κ : Type} [DecidableEq κ] {knd : KeyKind prog w κ} {A : Around} {E : Value → Shared → Prop} {s : Shared}
end
end L2
namespace L2
open PySem PySem.Spec PyProof.Rows
section
variable {prog : Program} {w : World} {A : Around} {E : Value → Shared → Prop} {s : Shared}
end
end L2
namespace L2
open PySem PySem.Spec PyProof.Rows
section
variable {X : Cx} {pins : List (Addr × Obj)} {σ : St} {H : Hp} {s : Shared}
end
end L2
namespace L2
open PySem PySem.Spec PyProof.Rows
section
variable {X : Cx} {tg iter ex : Expr} {ifs : List Expr} {scope : Scope} {pos : Pos} {wi : TI} {g : TG} {tc : TT} {te : TE} {locs cs : List Str} {caps : List Nat}
end
end L2
namespace L2
open PySem PySem.Spec PyProof.Rows
end L2
namespace L2
open PySem PySem.Spec PyProof.Rows
section
variable {X : Cx} {pins : List (Addr × Obj)} {σ : St} {H : Hp} {s : Shared}
end
section
variable {X : Cx}
end
end L2
namespace L2
open PySem PySem.Spec PyProof.Rows
section
variable {prog : Program} {w : World} {A : Around} {E : Value → Shared → Prop} {s : Shared}
end
section
variable {prog : Program} {w : World} {κ : Type} [DecidableEq κ] {knd : KeyKind prog w κ}
end
section
variable {X : Cx}
end
end L2
namespace L2
open PySem PySem.Spec PyProof.Rows
section
variable {prog : Program} {w : World}
end
section
variable {X : Cx} {o e f : Expr} {apos cpos : Pos} {td ty tx : TE}
end
section
variable {prog : Program} {w : World} {A : Around} {E : Value → Shared → Prop}
end
section
variable {X : Cx}
end
end L2
namespace L2
open PySem PySem.Spec PyProof.Rows
section
variable {X : Cx} {tg iter kx vx tg2 iter2 : Expr} {ifs ifs2 : List Expr} {scope : Scope} {pos : Pos} {wi wi2 : TI} {g g2 : TG} {tc tc2 : TT} {tk tv : TE} {locs cs : List Str} {caps : List Nat}
end
end L2
namespace L2
open PySem PySem.Spec PyProof.Rows
section
variable {prog : Program} {w : World} {A : Around} {E : Value → Shared → Prop} {s : Shared}
end
section
variable {X : Cx}
end
end L2
namespace L2
open PySem PySem.Spec PyProof.Rows
section
variable {X : Cx}
end
end L2
namespace L2
open PySem PySem.Spec PyProof.Rows
structure Fl (h : Heap) (x T : Addr) (cls : Value) (od : Option Addr) (fl : Value) : Prop where
  ex : ∃ (oe : Obj) (vs : Array Value), h.get? x = some oe ∧ oe.cls = cls ∧ oe.dict = od ∧ oe.data = .fields vs ∧ vs[1]? = some (.ref T)
  ne : T ≠ x
  nt : ∃ (oT : Obj) (ts : Array Value), h.get? T = some oT ∧ oT.data = .fields ts ∧ ts[3]? = some fl
structure Chg (fs : List Addr) (x T : Addr) (h h' : Heap) : Prop where
  keep : ∀ b o, h.get? b = some o → b ≠ x → b ≠ T → b ∉ fs → h'.get? b = some o
  slot : ∀ b o, h.get? b = some o → b ≠ x → b ≠ T → ∃ sl, h'.get? b = some { o with slots := sl }
  hx : ∃ o, h'.get? x = some o
  hT : ∀ o, h.get? T = some o → ∃ o', h'.get? T = some o'
section
variable {M : Model} {A : Around} {E : Value → Shared → Prop} {s : Shared}
theorem dict_mapF (o : Obj) (f : Array Value → Array Value) : (o.mapFields f).dict = o.dict := by
  obtain ⟨_, _, z, _⟩ := o
  cases z <;> rfl
theorem raw3 {pl : List Value} {head : Value} {L : Addr} : ([head, .ref L, .none, rawInt L, .none] ++ (if pl.isEmpty then List.replicate 6 Value.none else pl)).toArray[3]? = some (rawInt L) := by simp
theorem fl_set {x T : Addr} {cls fl : Value} {od : Option Addr} {Q : Unit → Shared → Prop} (f : Fl s.heap x T cls od fl)
    (h : ∀ h', (∀ b o, b ≠ T → s.heap.get? b = some o → h'.get? b = some o) → Fl h' x T cls od .none → Q () { s with heap := h' }) : wpAny M A (setFlight (.ref x) none) Q E s := by
  obtain ⟨⟨oe, vs, e1, e2, e3, e4, e5⟩, ne, oT, ts, g1, g2, g3⟩ := f
  have z3 : 3 < ts.size := (Array.getElem?_eq_some_iff.mp g3).1
  unfold setFlight
  refine wpAny_bind (wpAny_field e1 e4 e5 ?_)
  rw [if_pos (by simp)]
  have oth : ∀ b, b ≠ T → (s.heap.update T (Obj.mapFields fun a => a.setIfInBounds 3 (Option.elim none Value.none fun f => rawInt f))).get? b = s.heap.get? b := fun b hb => Heap.get?_update_other _ _ (Ne.symm hb)
  refine wpAny_setField g1 g2 z3 (h _ (fun b o hb e => (oth b hb).trans e) ⟨⟨oe, vs, (oth x (Ne.symm ne)).trans e1, e2, e3, e4, e5⟩, ne, _, _, Heap.get?_update_self _ g1 (Obj.isFreed_of_fields (Obj.data_mapFields g2 _)), Obj.data_mapFields g2 _, ?_⟩)
  simp [z3]
theorem note_core {base : Heap} {env : Env} {outer : List Env} {L x : Addr} {oe : Obj} {vs : Array Value} {head : Value} {hn : Bool} {Q : Unit → Shared → Prop} (hA : A.frames = some (env :: outer)) (hl : s.heap.FunFrames base (env :: outer)) (hf : env.frame = some L)
    (he : s.heap.get? x = some oe) (hd : oe.data = .fields vs) (hz : 1 < vs.size) (h : ∀ h' T, Chg (frs (env :: outer)) x x s.heap h' → Fl h' x T oe.cls oe.dict (rawInt L) → s.heap.objs.size ≤ T → Q () { s with heap := h' }) :
    wpAny M A (do let a ← frameOf env; let pl ← entryPlaceOf L hn; let b ← EntryCells.newEntry head a .none (rawInt L) .none pl; setField (.ref x) 1 b) Q E s := by
  have nx : x ∉ frs (env :: outer) := fun hm => by
    obtain ⟨_, o, ho, no⟩ := hl.mem hm
    rw [he] at ho
    cases ho
    exact no vs hd
  refine wpAny_bind (wpAny_frameOf_fun hA hl hf fun h1 k1 => wpAny_bind (wpAny_entryPlaceOf fun pl hpl => ?_))
  unfold EntryCells.newEntry newFields
  refine wpAny_bind (wpAny_newObj_type ?_ (hpl.sizeOk5 _ _ _ _ _))
  have e1 : h1.get? x = some oe := (k1.2.1 x nx).trans he
  generalize ho : ({ cls := .type "traceback", dict := none, data := .fields ([head, .ref L, .none, rawInt L, .none] ++ (if pl.isEmpty then List.replicate 6 Value.none else pl)).toArray } : Obj) = ot
  have e2 : (h1.push ot).get? x = some oe := Heap.get?_push_of_some _ e1
  refine wpAny_setField e2 hd hz ?_
  have nTx : h1.objs.size ≠ x := Nat.ne_of_gt (Heap.lt_size e1)
  have hd3 := Obj.data_mapFields hd fun a => a.setIfInBounds 1 (Value.ref h1.objs.size)
  have e3 := Heap.get?_update_self (Obj.mapFields fun a => a.setIfInBounds 1 (Value.ref h1.objs.size)) e2 (Obj.isFreed_of_fields hd3)
  have eT : (h1.push ot).get? h1.objs.size = some ot := Heap.get?_push_size h1 (by rw [← ho]; rfl)
  have oth : ∀ b o, b ≠ x → h1.get? b = some o → ((h1.push ot).update x (Obj.mapFields fun a => a.setIfInBounds 1 (Value.ref h1.objs.size))).get? b = some o := fun b o hb e => by
    rw [Heap.get?_update_other _ _ (Ne.symm hb)]
    exact Heap.get?_push_of_some _ e
  refine h _ h1.objs.size ⟨fun b o e n1 _ n3 => oth b o n1 ((k1.2.1 b n3).trans e), fun b o e n1 _ => ?_, ⟨_, e3⟩, fun _ _ => ⟨_, e3⟩⟩ ⟨⟨_, _, e3, Obj.cls_mapFields _ _, dict_mapF _ _, hd3, ?_⟩, nTx, ot, _, ?_, by rw [← ho], raw3⟩ (Nat.le_of_eq k1.1.symm)
  · obtain ⟨sl, q⟩ := k1.2.2 b o e
    exact ⟨sl, oth b _ n1 q⟩
  · simp [hz]
  · rw [Heap.get?_update_other _ _ (Ne.symm nTx)]
    exact eT
theorem note_bare {base : Heap} {env : Env} {outer : List Env} {L x : Addr} {oe : Obj} {vs : Array Value} {Q : Unit → Shared → Prop} (hA : A.frames = some (env :: outer)) (hl : s.heap.FunFrames base (env :: outer)) (hf : env.frame = some L)
    (he : s.heap.get? x = some oe) (hd : oe.data = .fields vs) (h1 : vs[1]? = some .none) (h : ∀ h' T, Chg (frs (env :: outer)) x x s.heap h' → Fl h' x T oe.cls oe.dict (rawInt L) → s.heap.objs.size ≤ T → Q () { s with heap := h' }) :
    wpAny M A (noteFrame (.ref x) env) Q E s := by
  unfold noteFrame
  simp only [hf]
  refine wpAny_bind (wpAny_field he hd h1 ?_)
  rw [if_neg (by decide)]
  exact note_core hA hl hf he hd (Array.getElem?_eq_some_iff.mp h1).1 h
theorem note_on {base : Heap} {env : Env} {outer : List Env} {L x T : Addr} {cls : Value} {od : Option Addr} {Q : Unit → Shared → Prop} (hA : A.frames = some (env :: outer)) (hl : s.heap.FunFrames base (env :: outer)) (hf : env.frame = some L)
    (f : Fl s.heap x T cls od .none) (h : ∀ h' T', Chg (frs (env :: outer)) x T s.heap h' → Fl h' x T' cls od (rawInt L) → s.heap.objs.size ≤ T' → Q () { s with heap := h' }) :
    wpAny M A (noteFrame (.ref x) env) Q E s := by
  obtain ⟨⟨oe, vs, e1, rfl, rfl, e4, e5⟩, ne, oT, ts, g1, g2, g3⟩ := f
  have nT : T ∉ frs (env :: outer) := fun hm => by
    obtain ⟨_, o, ho, no⟩ := hl.mem hm
    rw [g1] at ho
    cases ho
    exact no ts g2
  unfold noteFrame
  simp only [hf]
  refine wpAny_bind (wpAny_field e1 e4 e5 ?_)
  rw [if_pos (by simp)]
  refine wpAny_bind (wpAny_field g1 g2 g3 ?_)
  rw [if_neg (by simp [rawInt])]
  refine wpAny_bind (wpAny_setField g1 g2 (Array.getElem?_eq_some_iff.mp g3).1 ?_)
  have oth : ∀ b, b ≠ T → (s.heap.update T (Obj.mapFields fun a => a.setIfInBounds 3 Value.none)).get? b = s.heap.get? b := fun b hb => Heap.get?_update_other _ _ (Ne.symm hb)
  have eT := Heap.get?_update_self (Obj.mapFields fun a => a.setIfInBounds 3 Value.none) g1 (Obj.isFreed_of_fields (Obj.data_mapFields g2 _))
  have nr : ∀ b o, s.heap.get? b = some o → (∀ vs, o.data ≠ .fields vs) → b ≠ T := fun b o e no z => by
    rw [z, g1] at e
    cases e
    exact no ts g2
  refine note_core (s := { s with heap := s.heap.update T (Obj.mapFields fun a => a.setIfInBounds 3 Value.none) }) hA (hl.of_keeps fun b o e no => ⟨o, (oth b (nr b o e no)).trans e, rfl⟩) hf ((oth x (Ne.symm ne)).trans e1) e4 (Array.getElem?_eq_some_iff.mp e5).1 fun h' T' c f' z => h h' T' ?_ f' ?_
  · refine ⟨fun b o e n1 n2 n3 => c.keep b o ((oth b n2).trans e) n1 n1 n3, fun b o e n1 n2 => c.slot b o ((oth b n2).trans e) n1 n1, c.hx, fun o e => ?_⟩
    exact ⟨_, c.keep T _ eT ne ne nT⟩
  · have q : (s.heap.update T (Obj.mapFields fun a => a.setIfInBounds 3 Value.none)).objs.size = s.heap.objs.size := by
      obtain ⟨os⟩ := s.heap
      simp [Heap.update]
    have z' : (s.heap.update T (Obj.mapFields fun a => a.setIfInBounds 3 Value.none)).objs.size ≤ T' := z
    rw [q] at z'
    exact z'
end
end L2
namespace L2
open PySem PySem.Spec PyProof.Rows
def CXK (P : Program) (w : World) : CXT := fun outer H s E e s' => ∃ (x T : Addr) (cls : Value) (od : Option Addr) (H' : Hp), e = .ref x ∧ s'.os = s.os ∧ AllBare s'.gens ∧ Un (frs outer) [] H H' s.heap s'.heap ∧ HOk P w H' s'.heap ∧
  s.heap.objs.size ≤ x ∧ s.heap.objs.size ≤ T ∧ H' x = none ∧ H' T = none ∧ Fl s'.heap x T cls od .none ∧ E cls od H'
theorem HOk.chg {P : Program} {w : World} {H : Hp} {h h' : Heap} {fs : List Addr} {x T : Addr} (ok : HOk P w H h) (c : Chg fs x T h h') (hx : H x = none) (hT : H T = none) (hf : ∀ b ∈ fs, H b = none) : HOk P w H h' := fun a o e =>
  (ok a o e).stay (fun b u hb q => by
    have nb : ∃ o', H b = some o' := by
      rcases hb with rfl | hb
      · exact ⟨o, e⟩
      · exact ⟨_, hb⟩
    obtain ⟨o', nb⟩ := nb
    exact c.keep b u q (ne_of_none nb hx) (ne_of_none nb hT) fun z => by rw [hf b z] at nb; cases nb) (fun _ q => q) fun _ _ q => q
theorem Un.chg {fs fs2 ex : List Addr} {H H' : Hp} {h0 h1 h2 : Heap} {x T : Addr} (u : Un fs ex H H' h0 h1) (c : Chg fs2 x T h1 h2) (zx : h0.objs.size ≤ x) (zT : h0.objs.size ≤ T) (sub : ∀ b o, h0.get? b = some o → b ∈ fs2 → b ∈ fs) : Un fs ex H H' h0 h2 := by
  have nx : ∀ {b o}, h0.get? b = some o → b ≠ x ∧ b ≠ T := fun {b o} e => ⟨Nat.ne_of_lt (Nat.lt_of_lt_of_le (Heap.lt_size e) zx), Nat.ne_of_lt (Nat.lt_of_lt_of_le (Heap.lt_size e) zT)⟩
  refine ⟨fun b o q n hb he => c.keep b o (u.keep b o q n hb he) (nx q).1 (nx q).2 fun z => hb (sub b o q z), fun b o q n hb he => ?_, u.free, fun b o q he => ?_, u.tups, u.frzs, u.tbls⟩
  · obtain ⟨sl, e⟩ := u.slot b o q n hb he
    obtain ⟨sl2, e2⟩ := c.slot b { o with slots := sl } e (nx q).1 (nx q).2
    exact ⟨sl2, e2⟩
  · obtain ⟨o', e⟩ := u.there b o q he
    obtain ⟨sl, e2⟩ := c.slot b o' e (nx q).1 (nx q).2
    exact ⟨_, e2⟩
theorem Chg.set {fs : List Addr} {x T T2 : Addr} {h h2 h3 : Heap} (c : Chg fs x T h h2) (z : h.objs.size ≤ T2) (k : ∀ b o, b ≠ T2 → h2.get? b = some o → h3.get? b = some o) (hx : ∃ o, h3.get? x = some o) : Chg fs x T h h3 := by
  have nT : ∀ {b o}, h.get? b = some o → b ≠ T2 := fun {b o} e => Nat.ne_of_lt (Nat.lt_of_lt_of_le (Heap.lt_size e) z)
  refine ⟨fun b o e n1 n2 n3 => k b o (nT e) (c.keep b o e n1 n2 n3), fun b o e n1 n2 => ?_, hx, fun o e => ?_⟩
  · obtain ⟨sl, q⟩ := c.slot b o e n1 n2
    exact ⟨sl, k b _ (nT e) q⟩
  · obtain ⟨o', q⟩ := c.hT o e
    exact ⟨o', k T _ (nT e) q⟩
theorem Fl.hx {h : Heap} {x T : Addr} {cls fl : Value} {od : Option Addr} (f : Fl h x T cls od fl) : ∃ o, h.get? x = some o := let ⟨oe, _, e, _⟩ := f.ex; ⟨oe, e⟩
section
variable {P : Program} {w : World} {K : PySem.W.Frag} {mg : Str → Option Value} {base : Heap} {N : List Str} {qual : Str} {scope : Scope} {f : Addr} {cd : Value} {A : Around} {outer : List Env} {s₀ : Shared} {H₀ : Hp} {E : XK}
def XE (X : Cx) (E : XK) : Prop := ∀ (pins : List (Addr × Obj)) (σ : St) (H : Hp) (s : Shared) (x : Addr) (oe : Obj) (vs : Array Value), Inv X pins σ H s → H x = none → X.s₀.heap.objs.size ≤ x → s.heap.get? x = some oe → oe.data = .fields vs → vs[1]? = some .none → E oe.cls oe.dict H → X.xe (.ref x) s
theorem left_cx {pins : List (Addr × Obj)} {σ : St} {H : Hp} {s : Shared} {x T T2 : Addr} {cls : Value} {od : Option Addr} {h2 h3 : Heap} (J : Inv (cxOf (CXK P w) P w K mg base N qual scope f cd A outer s₀ H₀ E) pins σ H s) (c : Chg (frs (envOfC qual scope s₀.heap.objs.size f cd :: outer)) x T s.heap h2) (f2 : Fl h3 x T2 cls od .none)
    (z2 : s.heap.objs.size ≤ T2) (k3 : ∀ b o, b ≠ T2 → h2.get? b = some o → h3.get? b = some o) (zx : s₀.heap.objs.size ≤ x) (zT : s₀.heap.objs.size ≤ T) (hx : H x = none) (hT : H T = none) (q : E cls od H) : CXK P w outer H₀ s₀ E (.ref x) { s with heap := h3 } := by
  have c3 := c.set z2 k3 f2.hx
  refine ⟨x, T2, cls, od, H, rfl, J.os, J.bare, Un.chg J.base c3 zx zT fun b o e hb => ?_, HOk.chg J.hok c3 hx hT fun b hb => J.stkFree b hb, zx, Nat.le_trans J.sz z2, hx, J.hok.fresh z2, f2, q⟩
  rcases List.mem_cons.mp (J.stkSub b hb) with e2 | e2
  · rw [e2] at e
    exact absurd (Nat.lt_of_lt_of_le (Heap.lt_size e) J.ok.above) (Nat.lt_irrefl _)
  · exact e2
theorem pass_cx : Passes (CXK P w) (cxOf (CXK P w) P w K mg base N qual scope f cd A outer s₀ H₀ E) E := by
  rintro pins σ H s e s' I ⟨x, T, cls, od, H', rfl, os, bare, un, hok, zx, zT, hx, hT, fl, q⟩
  have J := I.call' os un hok bare (fun b z => absurd z (by simp))
  show wpAny _ _ (leaving _ _) _ _ _
  unfold leaving
  refine wpAny_bind (note_on J.ok.frames J.stack rfl fl fun h2 T2 c f2 z2 => fl_set f2 fun h3 k3 f3 => ?_)
  exact left_cx (s := s') J c f3 z2 k3 (Nat.le_trans I.sz zx) (Nat.le_trans I.sz zT) hx hT q
theorem xe_cx : XE (cxOf (CXK P w) P w K mg base N qual scope f cd A outer s₀ H₀ E) E := by
  intro pins σ H s x oe vs J hx zx he hd h1 q
  show wpAny _ _ (leaving _ _) _ _ _
  unfold leaving
  refine wpAny_bind (note_bare J.ok.frames J.stack rfl he hd h1 fun h2 T2 c f2 z2 => fl_set f2 fun h3 k3 f3 => ?_)
  exact left_cx (s := s) J c f3 z2 k3 zx zx hx hx q
end
section
variable {P : Program} {w : World} {K : PySem.W.Frag} {mg : Str → Option Value} {base : Heap}
theorem Fun.okX {x qual : Str} {st : Stmt} {f : Addr} {fd : FuncData} {N ps : List Str} {k : Nat} {sp : Sp} (F : Fun K x qual st f fd) (S : FnScope N ps (defScope st)) (len : ∀ vs H Q E, sp vs H Q E → vs.length = ps.length)
    (hbody : ∀ (cdv : Value) (A : Around) (outer : List Env) (s : Shared) (H : Hp) (vs : List V) (Q : VK) (E : XK), Room k (A.deeper (envOfC qual (defScope st) s.heap.objs.size f cdv)) → sp vs H Q E →
      ∃ t, PSs (cxOf (CXK P w) P w K mg base N qual (defScope st) f cdv A outer s H E) (defBody st) t ∧ t { nx := fun _ H' => Q .non H', rt := Q } (start N vs) H) : FnOk P w K mg base (CXK P w) (k + 1) f fd ps sp := by
  obtain ⟨oc, od, kV, doc, pm, an, cdv, ct, osl, rfl, lk, hcd⟩ := F.ex
  exact fn_of lk hcd S len fun A outer s H vs Q E hr hsp => hbody cdv A outer s H vs Q E hr hsp
end
theorem PS.nox {X : Cx} {st : Stmt} {t : TS} (h : PS X.nox st t) : PS X st t := fun pins s σ H D I hw =>
  wpAny_mono (h pins s σ H D (I.wish _) hw) (fun _ _ q => q.unwish) fun _ _ z => False.elim z
end L2
namespace L2
open PySem PySem.Spec PyProof.Rows
structure XCl (K : PySem.W.Frag) (C : Addr) : Prop where
  hd : PySem.W.hasDictIn K C = true
  ve : PySem.W.mroIn K C (.type "BaseException") = some true
  ob : PySem.W.mroIn K C (.type "object") = some true
  rf : ∃ cd, PySem.W.clsIn K C = some cd ∧ ∀ self, refuseLoop self "__setattr__" cd.mro = pure ()
  ga : PySem.W.findIn K (.ref C) "__getattribute__" = some (some (.builtin "BaseException.__getattribute__"))
  gt : PySem.W.findIn K (.ref C) "__getattr__" = some none
  sa : PySem.W.findIn K (.ref C) "__setattr__" = some (some (.builtin "object.__setattr__"))
  cl : PySem.W.findIn K (.ref C) "__class__" = some (some (.builtin "object.__class__"))
  cg : PySem.W.specialIn K (.builtin "object.__class__") "__get__" = some (some (.builtin "getset_descriptor.__get__"))
  ct : PySem.W.takesIn K (.builtin "object.__class__") = some true
theorem kd_bga : builtinKind "BaseException.__getattribute__" = some .slot := by decide +kernel
theorem sp_bga : splitId "BaseException.__getattribute__" = some ("BaseException", "__getattribute__") := by decide +kernel
theorem no_bga : (Value.builtin "BaseException.__getattribute__" == Value.builtin "object.__getattribute__") = false := by decide +kernel
section
variable {prog : Program} {w : World} {A : Around} {E : Value → Shared → Prop} {s : Shared} {K : PySem.W.Frag} {x C : Addr} {ox : Obj} {od : Option Obj} {name : Str} {v : Value} {tk : Tok}
open PySem.W in
open PySem.W in
theorem xga_b {R : Result → Shared → Prop} (X : K.In s.heap) (c : XCl K C) (I : InstAt s.heap x ox C od) (hf : findObj K C od "__class__" = some (.bind (.builtin "getset_descriptor.__get__") (.builtin "object.__class__"))) (q : R (.ok (.ret (.ref C))) s) :
    codeAny (model prog w) A (.call (.builtin "BaseException.__getattribute__") ⟨[.ref x, .str "__class__" tk], []⟩) R s := by
  have sub : Looks (model prog w) s.heap (isInstance (.ref x) (.type "BaseException")) true := I.type.andThen (looks_mroIn X c.ve)
  have L0 := I.type (M := model prog w)
  have L1 := looks_find (M := model prog w) X I hf
  refine codeAny_call_builtin F.attr_ValueError.ga.plain F.entry_bexc_ga (@check_slot (model prog w) _ _ s "BaseException.__getattribute__" "BaseException" "__getattribute__" (.ref x) [.str "__class__" tk] [] _ kd_bga sp_bga sub (F.args_bexc_ga (.ref x) (.str "__class__" tk)) ?_)
  obtain ⟨hh, g, d, t, os⟩ := s
  unfold Builtin.«object.__getattribute__»
  refine wpAny_bind (wpAny_pure (wpAny_bind (wpAny_pure (wpAny_bind (L0.at (wpAny_bind (L1.at ?_)))))))
  show wpAny _ _ (holding [.builtin "object.__class__"] (call (.builtin "getset_descriptor.__get__") [.builtin "object.__class__", .ref x, .ref C]) >>= ret) _ _ _
  refine wpAny_bind (wpAny_holding (wpAny_call (class_get X I c.ob ?_)))
  exact wpAny_pure q
open PySem.W in
theorem xget_by {fill expr : Bool} {Q : Value → Shared → Prop} (X : K.In s.heap) (c : XCl K C) (I : InstAt s.heap x ox C od)
    (h : codeAny (model prog w) A (.call (.builtin "BaseException.__getattribute__") ⟨[.ref x, .str name tk], []⟩) (fun r s' => ∃ v, r = .ok (.ret v) ∧ handedIn v = true ∧ Q v s') s) : wpAny (model prog w) A (getAttrBy (.ref x) (.str name tk) fill expr) Q E s := by
  have L0 := I.type (M := model prog w)
  have L1 := looks_findIn (M := model prog w) X c.ga
  have L2 := looks_findIn (M := model prog w) X c.gt
  obtain ⟨hh, g, d, t, os⟩ := s
  unfold getAttrBy
  refine wpAny_holding (wpAny_bind (L0.at (wpAny_bind (L1.at ?_))))
  show wpAny _ _ (if (onTheHeap (.ref C) && Value.builtin "BaseException.__getattribute__" == Value.builtin "object.__getattribute__") = true then _ else _) _ _ _
  rw [no_bga, Bool.and_false, if_neg Bool.false_ne_true]
  unfold getAttrByItsOwn
  refine wpAny_bind (L2.at (wpAny_bind (wpAny_attempt (wpAny_holding ?_))))
  unfold callGetattribute
  rw [if_neg (by cases expr <;> exact Bool.false_ne_true)]
  unfold boundAndCalled
  rw [F.attr_ValueError.ga.bind]
  refine wpAny_bind (wpAny_pure (wpAny_call (codeAny_mono h fun r s' z => ?_)))
  obtain ⟨v, rfl, hv, q⟩ := z
  show wpAny _ _ (handedOut v) _ _ _
  exact handed_on hv q
open PySem.W in
open PySem.W in
open PySem.W in
end
end L2
namespace L2
open PySem PySem.Spec PyProof.Rows
section
variable {prog : Program} {w : World} {A : Around} {E : Value → Shared → Prop} {s : Shared} {K : PySem.W.Frag} {x C : Addr} {name : Str} {v : Value} {vs : Array Value} {sl : Array (Option Value)}
open PySem.W in
end
end L2
namespace L2
open PySem PySem.Spec PyProof.Rows
section
variable {P : Program} {w : World} {H : Hp} {h : Heap} {C x d t0 : Addr}
end
section
variable {X : Cx} {pins : List (Addr × Obj)} {σ : St} {H : Hp} {s : Shared} {d : Addr} {o : HO}
theorem Inv.track (J : Inv X pins σ H s) (hd : H d = none) (z : X.s₀.heap.objs.size ≤ d) (nl : d ≠ X.env.locals) (nc : ∀ y c, X.env.cells.lookup y = some c → c ≠ d) (np : ∀ p ∈ X.pn ++ pins, p.1 ≠ d) (new : ObjOk X.prog X.w (upd H d o) s.heap d o) : Inv X pins σ (upd H d o) s := by
  have un : ∀ {b u}, H b = some u → upd H d o b = some u := fun {b u} e => by rw [upd_ne (ne_of_none e hd)]; exact e
  refine ⟨J.ok, J.os, J.bare, ⟨J.base.keep, J.base.slot, fun b u q n he => ?_, J.base.there, fun b xs q => un (J.base.tups b xs q), fun b v u q => un (J.base.frzs b v u q), fun b ps q => ?_⟩, J.loc, J.cell, ?_, fun y c e => ?_, fun p hp => ?_, fun a u e => ?_, J.len⟩
  · rw [upd_ne (Nat.ne_of_lt (Nat.lt_of_lt_of_le (Heap.lt_size q) z))]; exact J.base.free b u q n he
  · obtain ⟨m, e⟩ := J.base.tbls b ps q; exact ⟨m, un e⟩
  · rw [upd_ne (Ne.symm nl)]; exact J.free
  · rw [upd_ne (nc y c e)]; exact J.freeC y c e
  · obtain ⟨a1, a2, a3⟩ := J.pin p hp; exact ⟨a1, by rw [upd_ne (np p hp)]; exact a2, a3⟩
  · by_cases q : a = d
    · subst q; rw [upd_same] at e; cases e; exact new
    · rw [upd_ne q] at e
      exact (J.hok a u e).stay (fun _ _ _ q => q) (fun b q => un q) fun b xs q => un q
theorem Inv.old (I : Inv X pins σ H s) (z : s.heap.objs.size ≤ d) : X.s₀.heap.objs.size ≤ d ∧ d ≠ X.env.locals ∧ (∀ y c, X.env.cells.lookup y = some c → c ≠ d) ∧ ∀ p ∈ X.pn ++ pins, p.1 ≠ d :=
  ⟨Nat.le_trans I.sz z, Nat.ne_of_gt (Nat.lt_of_lt_of_le I.lt z), fun y c e => by
    obtain ⟨v, ob, ho, _⟩ := I.cell y c e
    exact Nat.ne_of_lt (Nat.lt_of_lt_of_le (Heap.lt_size ho) z), fun p hp => Nat.ne_of_lt (Nat.lt_of_lt_of_le (Heap.lt_size (I.pin p hp).1) z)⟩
end
section
variable {X : Cx} {o e value : Expr} {f : Str} {pos pos' : Pos} {ta tv : TE}
theorem refs_of : ∀ (cs : List Addr) {its : List Value}, Vals (cs.map V.ref) its → its = cs.map Value.ref
  | [], _, .nil => rfl
  | a :: cs, _, .cons z t => by rw [List.map_cons, refs_of cs t]; cases z; rfl
end
end L2
namespace L2
open PySem PySem.Spec PyProof.Rows
section
variable {prog : Program} {w : World} {A : Around} {E : Value → Shared → Prop} {h : Heap} {g : Array GenState} {d : Drawn} {t : Nat} {os : OsState}
variable {nm q : Str} {C N fI : Addr} {bs bm bmB : List Value} {hdct : Bool} {sn : List Str} {sub : List Value} {ab : Bool} {col : Option Bool} {dd : Option Addr} {k0 k1 k2 k3 k5 : Option Value} {B newId initId : String} {mN : Str → Option Value} {oI : Obj} {us : List Value}
abbrev xArgs (us : List Value) : Obj := { cls := .type "tuple", data := .seq us.toArray }
abbrev xObj (C a : Addr) : Obj := { cls := .ref C, data := .fields #[.ref a, .none, .none, .none, .bool false, .none] }
end
def veB : List Value := [.type "ValueError", .type "Exception", .type "BaseException", .type "object"]
section
variable {X : Cx} {pins : List (Addr × Obj)} {σ : St} {H : Hp} {s : Shared} {k : Nat} {C fI : Addr} {fd : FuncData} {ps : List Str} {sp : Sp} {E : XK} {cn : Str} {p cpos pos : Pos} {e : Expr} {es : List Expr} {t : TA}
theorem raise_made {M : Model} {A : Around} {E' : Value → Shared → Prop} {env : Env} {m : Sem Value} {Q : Flow → Shared → Prop} {s0 : Shared} (hh : A.handled = none)
    (h : wpAny M A m (fun v s1 => ∃ (x C : Addr) (ox : Obj) (vs : Array Value), v = .ref x ∧ s1.heap.get? x = some ox ∧ ox.cls = .ref C ∧ ox.data = .fields vs ∧ vs[1]? = some .none ∧ PySem.W.Looks M s1.heap (isSubtype (.ref C) (.type "BaseException")) true ∧ PySem.W.Looks M s1.heap (typeOf (.ref C)) (.type "type") ∧ E' (.ref x) s1) E' s0) :
    wpAny M A (raiseStmt env (some m) none) Q E' s0 := by
  unfold raiseStmt
  refine wpAny_bind (wpAny_mono h (fun v s1 h1 => ?_) fun _ _ x => x)
  obtain ⟨x, C, ox, vs, rfl, hx, hc, hd, h1, L1, L2, hE⟩ := h1
  obtain ⟨hp, g, d, tk, os⟩ := s1
  have L0 : PySem.W.Looks M hp (typeOf (.ref x)) (.ref C) := hc ▸ (PySem.W.Looks.ld hx).andThen .now
  have L3 : PySem.W.Looks M hp (isType (.ref x)) false := by
    refine (PySem.W.Looks.ld hx).andThen ?_
    rw [hd]
    exact .now
  have L4 : PySem.W.Looks M hp (isInstance (.ref x) (.type "BaseException")) true := L0.andThen L1
  refine wpAny_bind (wpAny_pure (wpAny_bind (wpAny_holding ?_)))
  unfold excFromValue isExcClass
  refine wpAny_bind (wpAny_bind (L3.at (wpAny_pure ?_)))
  rw [if_neg Bool.false_ne_true]
  refine wpAny_bind (L4.at ?_)
  rw [if_pos rfl]
  refine wpAny_pure (wpAny_bind (L3.at ?_))
  rw [if_neg Bool.false_ne_true]
  unfold raisedInstance
  refine wpAny_bind (wpAny_bind (L0.at (wpAny_bind (L2.at ?_))))
  rw [if_pos (by decide)]
  refine wpAny_pure (wpAny_bind ?_)
  unfold setFlight
  refine wpAny_bind (wpAny_field hx hd h1 ?_)
  rw [if_neg (by decide)]
  exact wpAny_pure (wpAny_raiseNew_none hh hE)
end
end L2
namespace L2
open PySem PySem.Spec PyProof.Rows
abbrev Cx.inside (X : Cx) (x : Addr) : Cx := { X with A := X.A.mark (some (.ref x)), calm := false, xe := fun _ _ => False }
section
variable {X : Cx} {pins : List (Addr × Obj)} {σ : St} {H H' : Hp} {s s' : Shared} {x T : Addr}
theorem Cx.Ok.inside (ok : X.Ok) (x : Addr) : (X.inside x).Ok := ⟨ok.mod, ok.kind, ok.glob, ok.blt, ok.above, ok.inj, ok.has, ok.cab, (fun z => by cases z), ok.frames, ok.stk, ok.exf, ok.bs, ok.bsz, ok.noex, ok.exfs, ok.funs, ok.frf⟩
theorem Inv.inside (I : Inv X pins σ H s) (x : Addr) : Inv (X.inside x) pins σ H s := ⟨I.ok.inside x, I.os, I.bare, I.base, I.loc, I.cell, I.free, I.freeC, I.pin, I.hok, I.len⟩
theorem Inv.outside (I : Inv (X.inside x) pins σ H s) (ok : X.Ok) : Inv X pins σ H s := ⟨ok, I.os, I.bare, I.base, I.loc, I.cell, I.free, I.freeC, I.pin, I.hok, I.len⟩
theorem Inv.forget {h' : Heap} {m' : Str → Option Value} {t' : Nat} (I : Inv X pins σ H s) (hn : h'.Ns X.env.locals m') (sb : Heap.SameBut X.env.locals s.heap h') : Inv X pins (σ.map fun _ => none) H { s with heap := h', toks := t' } := by
  have ne : ∀ {b o}, X.s₀.heap.get? b = some o → b ≠ X.env.locals := fun {b o} e => Nat.ne_of_lt (Nat.lt_of_lt_of_le (Heap.lt_size e) I.ok.above)
  refine ⟨I.ok, I.os, I.bare, ⟨fun b o q n hb he => (sb.2 b (ne q)).trans (I.base.keep b o q n hb he), fun b o q n hb he => ?_, I.base.free, fun b o q he => ?_, I.base.tups, I.base.frzs, I.base.tbls⟩, ⟨m', hn, fun i y v e1 e2 _ => ?_⟩, fun y c e => ?_, I.free, I.freeC, fun p hp => ?_, fun a o e => ?_, by rw [List.length_map]; exact I.len⟩
  · obtain ⟨sl, e⟩ := I.base.slot b o q n hb he
    exact ⟨sl, (sb.2 b (ne q)).trans e⟩
  · obtain ⟨o', e⟩ := I.base.there b o q he
    exact ⟨o', (sb.2 b (ne q)).trans e⟩
  · rw [List.getElem?_map] at e2
    cases c : σ[i]? with
    | none => rw [c] at e2; cases e2
    | some z => rw [c] at e2; cases e2
  · obtain ⟨v, o, ho, hd⟩ := I.cell y c e
    exact ⟨v, o, (sb.2 c (I.cne y c e)).trans ho, hd⟩
  · obtain ⟨a1, a2, a3, a4⟩ := I.pin p hp
    exact ⟨(sb.2 p.1 a3).trans a1, a2, a3, a4⟩
  · refine (I.hok a o e).stay (fun b u hb q => (sb.2 b ?_).trans q) (fun _ q => q) fun _ _ q => q
    intro z
    rcases hb with hb | hb
    · rw [← hb, z, I.free] at e; cases e
    · rw [z, I.free] at hb; cases hb
theorem Inv.caught {h3 : Heap} {t' : Nat} (I : Inv X pins σ H s) (J : Inv X pins σ H' s') (zx : s.heap.objs.size ≤ x) (zT : s.heap.objs.size ≤ T) (hx : H' x = none) (hT : H' T = none) (c : Chg (frs X.stack) x T s'.heap h3) : Inv X pins σ H' { s' with heap := h3, toks := t' } := by
  refine J.call' (ch := [x, T]) rfl ⟨fun b o q n hb he => ?_, fun b o q n hb he => ?_, fun b o q n he => n, fun b o q he => ?_, fun _ _ q => q, fun _ _ _ q => q, fun b ps q => ⟨#[], by rw [q]; simp⟩⟩ (HOk.chg J.hok c hx hT fun b hb => J.stkFree b hb) J.bare fun b hb => ?_
  · exact c.keep b o q (fun z => he (by rw [z]; simp)) (fun z => he (by rw [z]; simp)) hb
  · exact c.slot b o q (fun z => he (by rw [z]; simp)) fun z => he (by rw [z]; simp)
  · obtain ⟨sl, e⟩ := c.slot b o q (fun z => he (by rw [z]; simp)) fun z => he (by rw [z]; simp)
    exact ⟨_, e⟩
  · have zb : s.heap.objs.size ≤ b := by
      rcases List.mem_cons.mp hb with rfl | hb
      · exact zx
      · rw [List.mem_singleton.mp hb]; exact zT
    obtain ⟨z1, z2, z3, z4⟩ := I.old zb
    exact ⟨.inr z1, Ne.symm (Ne.symm z2), z3, z4⟩
end
def noName (D : Ends) : Ends := { nx := fun σ H => D.nx (σ.map fun _ => none) H, rt := D.rt, bk := fun σ H => D.bk (σ.map fun _ => none) H, ct := fun σ H => D.ct (σ.map fun _ => none) H }
section
variable {X : Cx} {k i : Nat} {f Ck : Addr} {fd : FuncData} {ps : List Str} {sp : Sp} {fn cn n : Str} {p cpos epos np hpos pos : Pos} {e : Expr} {es : List Expr} {t : TA} {b0 : Stmt} {suite : List Stmt} {ts : TS}
theorem SP.forget {pins : List (Addr × Obj)} {D : Ends} {fl : Flow} {s : Shared} {x : Addr} {h' : Heap} {m' : Str → Option Value} {t' : Nat} (ok : X.Ok) (h : SP (X.inside x) pins (noName D) fl s) (hn : h'.Ns X.env.locals m') (sb : Heap.SameBut X.env.locals s.heap h') : SP X pins D fl { s with heap := h', toks := t' } := by
  cases fl with
  | next => obtain ⟨σ', H', I, q⟩ := h; exact ⟨_, H', (I.outside ok).forget hn sb, q⟩
  | brk => obtain ⟨σ', H', I, q⟩ := h; exact ⟨_, H', (I.outside ok).forget hn sb, q⟩
  | cont => obtain ⟨σ', H', I, q⟩ := h; exact ⟨_, H', (I.outside ok).forget hn sb, q⟩
  | ret u => obtain ⟨v, σ', H', I, r, q⟩ := h; exact ⟨v, _, H', (I.outside ok).forget hn sb, r, q⟩
theorem SP.locals {pins : List (Addr × Obj)} {D : Ends} {fl : Flow} {s : Shared} {x : Addr} (h : SP (X.inside x) pins D fl s) : ∃ m, s.heap.Ns X.env.locals m := by
  cases fl with
  | next => obtain ⟨σ', H', I, q⟩ := h; obtain ⟨m, hn, _⟩ := I.loc; exact ⟨m, hn⟩
  | brk => obtain ⟨σ', H', I, q⟩ := h; obtain ⟨m, hn, _⟩ := I.loc; exact ⟨m, hn⟩
  | cont => obtain ⟨σ', H', I, q⟩ := h; obtain ⟨m, hn, _⟩ := I.loc; exact ⟨m, hn⟩
  | ret u => obtain ⟨v, σ', H', I, r, q⟩ := h; obtain ⟨m, hn, _⟩ := I.loc; exact ⟨m, hn⟩
end
end L2
namespace L2
open PySem PySem.Spec PyProof.Rows
section
variable {X : Cx}
theorem eq_items {pins : List (Addr × Obj)} {s : Shared} {σ : St} {H : Hp} (I : Inv X pins σ H s) {xs : List V} {its : List Value} {ds : List Tx} {k : Tx} {x : V} {v : Value} (hL : Xas H ds xs) (rv : Vals xs its) (hk : Xa H k x) (rx : RelV x v) (hd : ∀ d ∈ ds, d.dp ≤ 60) (hu : X.A.units + 64 < cLine) :
    ∃ e : Value → Bool, (∀ y, y ∈ its.toArray → SeqAt.EqAt X.A.in1.in1 s y v (e y) ∧ SeqAt.EqAt X.A.in1 s y v (e y)) ∧ ∀ (i : Nat) (y : Value), its[i]? = some y → ∃ d, ds[i]? = some d ∧ e y = decide (d = k) := by
  classical
  let e : Value → Bool := fun u => decide (∃ x', RelV x' u ∧ Xa H k x')
  have at_ : ∀ (i : Nat) (y : Value), its[i]? = some y → ∃ x' d, RelV x' y ∧ Xa H d x' ∧ ds[i]? = some d := fun i y hy => by
    have hi : i < xs.length := by rw [rv.length]; exact (List.getElem?_eq_some_iff.mp hy).1
    obtain ⟨u', hu', ru'⟩ := rv.get (List.getElem?_eq_getElem hi)
    rw [hy] at hu'
    cases hu'
    obtain ⟨d, hd', hx'⟩ := Xas.get hL (List.getElem?_eq_getElem hi)
    exact ⟨_, d, ru', hx', hd'⟩
  have he : ∀ {x' d u}, RelV x' u → Xa H d x' → e u = decide (d = k) := fun {x' d u} r i => by
    show decide (∃ x', RelV x' u ∧ Xa H k x') = _
    by_cases c : d = k
    · subst c
      rw [decide_eq_true ⟨x', r, i⟩, decide_eq_true rfl]
    · rw [decide_eq_false c, decide_eq_false]
      rintro ⟨x2, r2, i2⟩
      rw [RelV.inj r2 r] at i2
      exact c (Xa.inj i i2)
  refine ⟨e, fun y hy => ?_, fun i y hy => ?_⟩
  · obtain ⟨i, hi, ei⟩ := List.mem_iff_getElem.mp (show y ∈ its by simpa using hy)
    obtain ⟨x', d, r', i', hd'⟩ := at_ i y (by rw [List.getElem?_eq_getElem hi, ei])
    have dd := hd d (List.mem_of_getElem? hd')
    rw [he r' i']
    exact ⟨eqX I i' hk r' rx (by rw [in1_units, in1_units]; omega), eqX I i' hk r' rx (by rw [in1_units]; omega)⟩
  · obtain ⟨x', d, r', i', hd'⟩ := at_ i y hy
    exact ⟨d, hd', he r' i'⟩
def rInX : R2 := fun x y H Q => ∃ (p : Addr) (k : Tx) (xs : List V) (ds : List Tx), y = .ref p ∧ H p = some (.lst xs) ∧ Xas H ds xs ∧ Xa H k x ∧ (∀ d ∈ ds, d.dp ≤ 60) ∧ Q (.bl (decide (k ∈ ds))) H
theorem op_inX (hu : X.A.units + 64 < cLine) : OpR X (compareOp .In) rInX := by
  intro pins s σ H x y v u Q I rx ry h
  obtain ⟨p, k, xs, ds, rfl, hp, hL, hk, hd, q⟩ := h
  cases ry
  obtain ⟨its, rv, pl, hz⟩ := I.list (SqL.of hp)
  obtain ⟨e, h1, h2⟩ := eq_items I hL rv hk rx hd hu
  refine SeqAt.in_listAt (items := its.toArray) e pl.isList (fun y hy => (h1 y hy).2) ?_
  have ea : its.toArray.any e = decide (k ∈ ds) := by
    rw [Bool.eq_iff_iff, decide_eq_true_iff]
    simp only [List.any_toArray, List.any_eq_true]
    constructor
    · rintro ⟨y, hy, ey⟩
      obtain ⟨i, hi, ei⟩ := List.mem_iff_getElem.mp hy
      obtain ⟨d, hd', e'⟩ := h2 i y (by rw [List.getElem?_eq_getElem hi, ei])
      rw [ey] at e'
      rw [← of_decide_eq_true e'.symm]
      exact List.mem_of_getElem? hd'
    · intro hm
      obtain ⟨i, hi, ei⟩ := List.mem_iff_getElem.mp hm
      have hl : i < its.length := by rw [← rv.length, Xas.len hL]; exact hi
      refine ⟨its[i], List.getElem_mem hl, ?_⟩
      obtain ⟨d, hd', e'⟩ := h2 i its[i] (List.getElem?_eq_getElem hl)
      rw [List.getElem?_eq_getElem hi, ei] at hd'
      cases hd'
      rw [e', decide_eq_true rfl]
  rw [ea]
  exact ⟨.bl (decide (k ∈ ds)), H, I, rfl, q⟩
end
end L2
namespace L2
open PySem PySem.Spec PyProof.Rows
section
variable {X : Cx}
end
end L2
namespace K12
open PySem L2
def top (i : Nat) : Stmt := PySem.Challenge.pw_kinwords_k12_texts_read.main.body.getD i (.Pass ⟨0, 0, 0, 0⟩)
abbrev sSmall : Stmt := top 13
abbrev sAll : Stmt := top 14
abbrev sName : Stmt := top 15
abbrev sThing : Stmt := top 16
abbrev sBehind : Stmt := top 17
abbrev sWordAt : Stmt := top 18
abbrev sNameAt : Stmt := top 19
abbrev sKWordAt : Stmt := top 20
abbrev sKindAt : Stmt := top 21
abbrev sRead : Stmt := top 22
abbrev sReadTie : Stmt := top 24
abbrev sRKinds : Stmt := top 25
abbrev sRThing : Stmt := top 26
abbrev sRTies : Stmt := top 27
abbrev sReadS : Stmt := top 28
abbrev sPick : Stmt := top 30
abbrev sLName : Stmt := top 31
abbrev sWritten : Stmt := top 32
abbrev sLine : Stmt := top 33
abbrev sSpoiled : Stmt := top 34
abbrev sLSmall : Stmt := top 35
abbrev sLIsName : Stmt := top 36
abbrev sLIsThing : Stmt := top 37
abbrev sClosed : Stmt := top 38
abbrev sKindOf : Stmt := top 39
abbrev sSayingOf : Stmt := top 40
abbrev sLRead : Stmt := top 41
abbrev sRefused : Stmt := top 42
abbrev sLaw : Stmt := top 43
def smallC (c : Nat) : Bool := decide (97 ≤ c ∧ c ≤ 122)
def bigC (c : Nat) : Bool := decide (65 ≤ c ∧ c ≤ 90)
def words : List Str := ["anything", "nothing", "every", "no", "is", "tie", "within", "then", "makes", "both", "some"]
def fits (z : Str) : Bool := decide (1 ≤ z.length) && decide (z.length ≤ 12)
def nameB (z : Str) : Bool := fits z && z.cps.toList.all smallC && !inV (.str z) (words.map V.str)
def thingB (z : Str) : Bool := fits z && (match z.cps.toList with | [] => false | c :: r => bigC c && r.all smallC)
abbrev az : Str := "abcdefghijklmnopqrstuvwxyz"
theorem le_one (c d : Nat) : (!decide ([d] < [c])) = decide (c ≤ d) := by
  have h : ([d] < [c]) ↔ d < c := by
    simp [List.cons_lt_cons_iff]
  by_cases q : d < c
  · rw [decide_eq_true (h.mpr q), decide_eq_false (by omega)]; rfl
  · rw [decide_eq_false (fun z => q (h.mp z)), decide_eq_true (by omega)]; rfl
theorem az_small (c : Nat) : decide (c ∈ (az).cps.toList) = smallC c := by
  have e : (az).cps.toList = List.range' 97 26 := by decide +kernel
  rw [e]
  unfold smallC
  rw [decide_eq_decide, List.mem_range'_1]
  omega
def spSmall : Sp := fun vs H Q _ => ∃ c : Nat, vs = [.str ⟨#[c]⟩] ∧ Q (.bl (smallC c)) H
def spAll : Sp := fun vs H Q _ => ∃ z : Str, vs = [.str z] ∧ z.length ≤ 1000 ∧ ∀ H', Same H H' → Q (.bl (z.cps.toList.all smallC)) H'
def spName : Sp := fun vs H Q _ => ∃ z : Str, vs = [.str z] ∧ z.length ≤ 5000 ∧ ∀ H', Same H H' → Q (.bl (nameB z)) H'
def spThing : Sp := fun vs H Q _ => ∃ z : Str, vs = [.str z] ∧ z.length ≤ 5000 ∧ ∀ H', Same H H' → Q (.bl (thingB z)) H'
def spPick : Sp := fun vs H Q _ => ∃ c t m : Int, vs = [.int c, .int t, .int m] ∧ 0 < m ∧ ∀ r : Int, 0 ≤ r → r < m → Q (.int r) H
section
variable {P : Program} {w : World} {K : PySem.W.Frag} {mg : Str → Option Value} {base : Heap} {f g : Addr} {fd gd : FuncData}
theorem scSmall : FnScope ["sign"] ["sign"] (defScope sSmall) := ⟨rfl, rfl, rfl, by decide +kernel, rfl, by decide +kernel, by decide +kernel⟩
theorem ok_small (F : Fun K "is_small" "is_small" sSmall f fd) : FnOk P w K mg base CX0 1 f fd ["sign"] spSmall := by
  refine F.ok scSmall (fun vs H Q E h => ?_) (fun cdv A outer s H vs Q E hr h => ?_)
  · obtain ⟨c, rfl, _⟩ := h; rfl
  obtain ⟨c, rfl, q⟩ := h
  refine ⟨_, pss_one (ps_ret (pe_chain op_le_str op_le_str pe_str (pv 0) pe_str)), ?_⟩
  refine ⟨_, rfl, _, _, rfl, rfl, _, rfl, ?_⟩
  have e1 : (!decide (([c] : List Nat) < [97])) = decide (97 ≤ c) := le_one 97 c
  have e2 : (!decide (([122] : List Nat) < [c])) = decide (c ≤ 122) := le_one c 122
  show if (!decide (([c] : List Nat) < [97])) = true then _ else _
  rw [e1]
  refine ite2 (fun h => ?_) (fun h => ?_)
  · refine ⟨_, _, rfl, rfl, ?_⟩
    show Q (.bl (!decide (([122] : List Nat) < [c]))) H
    rw [e2]
    have h' : 97 ≤ c := of_decide_eq_true h
    have : smallC c = decide (c ≤ 122) := by unfold smallC; rw [decide_eq_decide]; omega
    rw [← this]
    exact q
  · have h' : ¬ 97 ≤ c := fun z => h (decide_eq_true z)
    have : smallC c = false := by unfold smallC; rw [decide_eq_false_iff_not]; omega
    rw [← this]
    exact q
theorem nd1 : (((["sign"] : List Str) ++ []) : List Str).Nodup := by decide +kernel
theorem scAll : FnScope ["text"] ["text"] (defScope sAll) := ⟨rfl, rfl, rfl, by decide +kernel, rfl, by decide +kernel, by decide +kernel⟩
theorem ok_all (F : Fun K "all_small" "all_small" sAll f fd) (G : FnOk P w K mg base CX0 1 g gd ["sign"] spSmall) (bG : Binds K gd ["sign"] []) (kG : PySem.W.keepIn K (.ref g) = true) (mG : mg "is_small" = some (.ref g)) (ma : mg "all" = none) :
    FnOk P w K mg base CX0 2 f fd ["text"] spAll := by
  refine F.ok scAll (fun vs H Q E h => ?_) (fun cdv A outer s H vs Q E hr h => ?_)
  · obtain ⟨c, rfl, _⟩ := h; rfl
  obtain ⟨z, rfl, hz, q⟩ := h
  refine ⟨_, pss_one (ps_ret (pe_callB (call_allB rfl) rfl ma PyProof.Rows.boot_all (pa_cons (pe_comp ["sign"] [] [] rfl (pi_str (pv 0)) (fun _ _ _ => pg_name (i := 0) nd1 rfl (Or.inl rfl)) (fun _ _ _ => pts_nil)
    (fun _ _ _ => pe_call G hr rfl mG kG bG .nil pass0 (pa_cons (pv 0) pa_nil))) pa_nil))), ?_⟩
  refine ⟨_, rfl, z, rfl, fun D hD => ?_⟩
  have hsz : z.cps.size = z.length := rfl
  refine cmp_by z.cps.size (fun i σ H' => (∃ o, σ = [o]) ∧ H' = upd H D (.lst (((z.cps.toList.take i).map smallC).map V.bl))) ⟨⟨_, rfl⟩, rfl⟩ ?_ ?_
  · rintro σ H' ⟨_, rfl⟩
    refine ⟨rfl, D, (z.cps.toList.map smallC), rfl, SqL.of ?_, ?_⟩
    · rw [upd_same, List.take_of_length_le (by simp)]
    · have e : (z.cps.toList.map smallC).all id = z.cps.toList.all smallC := by rw [List.all_map]; rfl
      rw [e]
      exact q _ (same_new hD _)
  · rintro i σ H' hi ⟨⟨o, rfl⟩, rfl⟩
    refine ⟨hi, ?_⟩
    rintro x H1 ⟨rfl, c, hc, rfl⟩
    refine ⟨_, rfl, c, rfl, _, upd_same, ?_, ⟨_, rfl⟩, ?_⟩
    · rw [List.length_map, List.length_map, List.length_take]
      exact small1000 (by omega)
    · rw [upd_upd]
      have hc' : z.cps.toList[i]? = some c := by simpa using hc
      rw [List.take_add_one, hc', List.map_append, List.map_append]
      rfl
theorem tup_of {its : Array Value} {n : Nat} {a : Addr} {od : Option Addr} {sl : Array (Option Value)} {xs : List V} {H : Hp} (l : K.lookup a = some ⟨.type "tuple", od, .seq its n, sl⟩) (hs : its.size ≤ sizeLine) (hv : Vals xs its.toList) : SqT K H a xs :=
  .inr ⟨_, its, n, l, rfl, rfl, hs, hv⟩
theorem scName : FnScope ["text"] ["text"] (defScope sName) := ⟨rfl, rfl, rfl, by decide +kernel, rfl, by decide +kernel, by decide +kernel⟩
theorem flat_words : (words.map V.str).all flatV = true := by decide +kernel
theorem ok_name {tk : Tok} {aT : Addr} (F : Fun K "is_name" "is_name" sName f fd) (G : FnOk P w K mg base CX0 2 g gd ["text"] spAll) (bG : Binds K gd ["text"] []) (kG : PySem.W.keepIn K (.ref g) = true) (mG : mg "all_small" = some (.ref g))
    (ml : mg "len" = none) (mM : mg "MOST_SIGNS" = some (.int 12 tk)) (mT : mg "TAKEN" = some (.ref aT)) (hT : ∀ H, SqT K H aT (words.map V.str)) :
    FnOk P w K mg base CX0 3 f fd ["text"] spName := by
  refine F.ok scName (fun vs H Q E h => ?_) (fun cdv A outer s H vs Q E hr h => ?_)
  · obtain ⟨c, rfl, _⟩ := h; rfl
  obtain ⟨z, rfl, hz, q⟩ := h
  refine ⟨_, pss_one (ps_ret (pe_and (pe_chain op_le op_le pe_int (pe_callB call_len_str rfl ml PySem.boot_len (pa_cons (pv 0) pa_nil)) (pe_glob (v := .int 12) rfl mM ⟨_, rfl⟩))
    (pe_and (pe_call G hr rfl mG kG bG .nil pass0 (pa_cons (pv 0) pa_nil)) (pe_one (pe_cmpR op_notIn_seq (pv 0) (pe_glob (v := .ref aT) rfl mT rfl) rfl))))), ?_⟩
  have hzl : z.length ≤ sizeLine := Nat.le_trans hz (by decide)
  refine ⟨_, rfl, z, rfl, hzl, _, _, rfl, rfl, _, rfl, ?_⟩
  have e1 : decide ((1 : Int) ≤ (z.length : Int)) = decide (1 ≤ z.length) := by rw [decide_eq_decide]; omega
  have e2 : decide ((z.length : Int) ≤ 12) = decide (z.length ≤ 12) := by rw [decide_eq_decide]; omega
  have no : fits z = false → nameB z = false := fun e => by unfold nameB; rw [e, Bool.false_and, Bool.false_and]
  have sH := q H (Same.refl H)
  refine ite2 (fun h1 => ?_) (fun h1 => ?_)
  · refine ⟨_, _, rfl, rfl, _, rfl, ?_⟩
    refine ite2 (fun h2 => ?_) (fun h2 => ?_)
    · have hf : fits z = true := by unfold fits; rw [← e1, ← e2, h1, h2]; rfl
      refine ⟨_, rfl, z, rfl, (by have := of_decide_eq_true h2; omega), fun H' sm => ⟨_, rfl, ?_⟩⟩
      refine ite2 (fun h3 => ?_) (fun h3 => ?_)
      · refine ⟨_, rfl, aT, _, rfl, .inr (hT _), rfl, flat_words, ?_⟩
        have e : nameB z = !inV (.str z) (words.map V.str) := by unfold nameB; rw [hf, h3]; rfl
        show Q (.bl (!inV (.str z) (words.map V.str))) H'
        rw [← e]
        exact q H' sm
      · have e : nameB z = false := by unfold nameB; rw [hf, Bool.eq_false_iff.mpr h3]; rfl
        rw [← e]
        exact q H' sm
    · have hf : fits z = false := by
        unfold fits
        have h2' : decide (z.length ≤ 12) = false := by rw [← e2]; exact Bool.eq_false_iff.mpr h2
        rw [h2', Bool.and_false]
      rw [← no hf]
      exact sH
  · have hf : fits z = false := by
      unfold fits
      have h1' : decide (1 ≤ z.length) = false := by rw [← e1]; exact Bool.eq_false_iff.mpr h1
      rw [h1', Bool.false_and]
    refine ⟨_, rfl, iteF ?_⟩
    rw [← no hf]
    exact sH
theorem scThing : FnScope ["text"] ["text"] (defScope sThing) := ⟨rfl, rfl, rfl, by decide +kernel, rfl, by decide +kernel, by decide +kernel⟩
theorem scPick : FnScope ["_law_cell", "_law_turn", "_law_many", "_law_mixed"] ["_law_cell", "_law_turn", "_law_many"] (defScope sPick) := ⟨rfl, rfl, rfl, by decide +kernel, rfl, by decide +kernel, by decide +kernel⟩
theorem ok_pick (F : Fun K "_law_pick" "_law_pick" sPick f fd) : FnOk P w K mg base CX0 1 f fd ["_law_cell", "_law_turn", "_law_many"] spPick := by
  refine F.ok scPick (fun vs H Q E h => ?_) (fun cdv A outer s H vs Q E hr h => ?_)
  · obtain ⟨c, t, m, rfl, _⟩ := h; rfl
  obtain ⟨c, t, m, rfl, hm, q⟩ := h
  refine ⟨_, pss_cons (ps_set (i := 3) scPick.nd rfl (Or.inl rfl) (pe_op op_mod (pe_op op_mul (pe_op op_add (pe_op op_mod (pv 0) pe_int) pe_int) (pe_op op_add pe_int (pe_op op_mul pe_int (pv 1)))) pe_int))
    (pss_one (ps_ret (pe_op op_mod (pe_op op_fdiv (pe_op op_mod (pe_op op_mul (pv 3) pe_int) pe_int) pe_int) (pv 2)))), ?_⟩
  have h0 := Int.emod_nonneg c (show (2147483647 : Int) ≠ 0 by decide)
  have h1 := Int.emod_lt_of_pos c (show (0 : Int) < 2147483647 by decide)
  refine ⟨_, rfl, _, _, rfl, rfl, (show (0 : Int) < 2147483647 by decide), _, _, rfl, rfl, _, rfl, _, _, rfl, rfl, .inl ⟨by decide, by decide⟩, _, _, rfl, rfl, _, _, rfl, rfl, .inl ⟨by omega, by omega⟩, _, _, rfl, rfl, (show (0 : Int) < 2147483647 by decide), ?_⟩
  have h2 := Int.emod_nonneg ((c % 2147483647 + 7) * (48271 + 7919 * t)) (show (2147483647 : Int) ≠ 0 by decide)
  have h3 := Int.emod_lt_of_pos ((c % 2147483647 + 7) * (48271 + 7919 * t)) (show (0 : Int) < 2147483647 by decide)
  refine ⟨_, rfl, _, _, rfl, rfl, .inl ⟨by omega, by omega⟩, _, _, rfl, rfl, (show (0 : Int) < 2147483647 by decide), _, _, rfl, rfl, ⟨by decide, by decide⟩, _, rfl, _, _, rfl, rfl, hm, ?_⟩
  exact q _ (Int.emod_nonneg _ (by omega)) (Int.emod_lt_of_pos _ hm)
theorem sl1 (z : Str) : (Txt.slice z (some 1) none).cps.toList = z.cps.toList.drop 1 := by
  rw [slice_cps]
  have hx : z.cps.toList.length = z.length := by simp [Str.length]
  have e : HT.sIx z.length 0 (some 1) = min 1 z.length := HT.sIx_nat z.length 0 1
  have e2 : HT.sIx z.length z.length none = z.length := rfl
  rw [e, e2]
  rcases Nat.eq_zero_or_pos z.length with h | h
  · have : z.cps.toList = [] := List.eq_nil_of_length_eq_zero (by omega)
    rw [this]; simp
  · have : min 1 z.length = 1 := by omega
    rw [this, List.take_of_length_le (by rw [List.length_drop]; omega)]
theorem sl2 (z : Str) : (Txt.slice z none (some 1)).cps.toList = z.cps.toList.take 1 := by
  rw [slice_cps]
  have hx : z.cps.toList.length = z.length := by simp [Str.length]
  have e : HT.sIx z.length z.length (some 1) = min 1 z.length := HT.sIx_nat z.length z.length 1
  have e2 : HT.sIx z.length 0 none = 0 := rfl
  rw [e, e2, List.drop_zero, Nat.sub_zero]
  rcases Nat.eq_zero_or_pos z.length with h | h
  · have : z.cps.toList = [] := List.eq_nil_of_length_eq_zero (by omega)
    rw [this]; simp
  · have : min 1 z.length = 1 := by omega
    rw [this]
theorem ok_thing {tk : Tok} (F : Fun K "is_thing" "is_thing" sThing f fd) (G : FnOk P w K mg base CX0 2 g gd ["text"] spAll) (bG : Binds K gd ["text"] []) (kG : PySem.W.keepIn K (.ref g) = true) (mG : mg "all_small" = some (.ref g))
    (ml : mg "len" = none) (mM : mg "MOST_SIGNS" = some (.int 12 tk)) : FnOk P w K mg base CX0 3 f fd ["text"] spThing := by
  refine F.ok scThing (fun vs H Q E h => ?_) (fun cdv A outer s H vs Q E hr h => ?_)
  · obtain ⟨c, rfl, _⟩ := h; rfl
  obtain ⟨z, rfl, hz, q⟩ := h
  refine ⟨_, pss_one (ps_ret (pe_and (pe_chain op_le op_le pe_int (pe_callB call_len_str rfl ml PySem.boot_len (pa_cons (pv 0) pa_nil)) (pe_glob (v := .int 12) rfl mM ⟨_, rfl⟩))
    (pe_and (pe_chain op_le_str op_le_str pe_str (pe_ix ix_str (pv 0) pe_int (fun _ _ => rfl)) pe_str) (pe_one (pe_call G hr rfl mG kG bG .nil pass0 (pa_cons (pe_slice sl_str (pv 0) (po_some pe_int) po_none) pa_nil)))))), ?_⟩
  have hzl : z.length ≤ sizeLine := Nat.le_trans hz (by decide)
  have hx : z.cps.toList.length = z.length := by simp [Str.length]
  refine ⟨_, rfl, z, rfl, hzl, _, _, rfl, rfl, _, rfl, ?_⟩
  have e1 : decide ((1 : Int) ≤ (z.length : Int)) = decide (1 ≤ z.length) := by rw [decide_eq_decide]; omega
  have e2 : decide ((z.length : Int) ≤ 12) = decide (z.length ≤ 12) := by rw [decide_eq_decide]; omega
  have no : fits z = false → thingB z = false := fun e => by unfold thingB; rw [e, Bool.false_and]
  have sH := q H (Same.refl H)
  refine ite2 (fun h1 => ?_) (fun h1 => ?_)
  · refine ⟨_, _, rfl, rfl, _, rfl, ?_⟩
    refine ite2 (fun h2 => ?_) (fun h2 => ?_)
    · have hf : fits z = true := by unfold fits; rw [← e1, ← e2, h1, h2]; rfl
      have h1' : 1 ≤ z.length := by have := of_decide_eq_true h1; omega
      obtain ⟨c, r, ecr⟩ : ∃ c r, z.cps.toList = c :: r := by
        cases e : z.cps.toList with
        | nil => rw [e] at hx; simp at hx; omega
        | cons c r => exact ⟨c, r, rfl⟩
      have et : thingB z = (bigC c && r.all smallC) := by unfold thingB; rw [hf, ecr]; rfl
      refine ⟨_, rfl, z, 0, c, rfl, rfl, hzl, ?_, _, _, rfl, rfl, _, rfl, ?_⟩
      · exact atI_nat (j := 0) (by rw [ecr]; rfl)
      have a1 : (!decide (([c] : List Nat) < [65])) = decide (65 ≤ c) := le_one 65 c
      have a2 : (!decide (([90] : List Nat) < [c])) = decide (c ≤ 90) := le_one c 90
      show if (!decide (([c] : List Nat) < [65])) = true then _ else _
      rw [a1]
      refine ite2 (fun h3 => ?_) (fun h3 => ?_)
      · have h3' : 65 ≤ c := of_decide_eq_true h3
        refine ⟨_, _, rfl, rfl, _, rfl, ?_⟩
        show if (!decide (([90] : List Nat) < [c])) = true then _ else _
        rw [a2]
        refine ite2 (fun h4 => ?_) (fun h4 => ?_)
        · have h4' : c ≤ 90 := of_decide_eq_true h4
          have hb : bigC c = true := by unfold bigC; exact decide_eq_true ⟨h3', h4'⟩
          have hl : (Txt.slice z (some 1) none).length ≤ 1000 := Nat.le_trans (Txt.slice_le z _ _) (by have := of_decide_eq_true h2; omega)
          refine ⟨_, rfl, _, rfl, z, rfl, hzl, _, rfl, hl, fun H' sm => ?_⟩
          have e5 : (Txt.slice z (some 1) none).cps.toList.all smallC = thingB z := by rw [sl1, ecr, et, hb]; rfl
          rw [e5]
          exact q H' sm
        · have h4' : ¬ c ≤ 90 := fun k => h4 (decide_eq_true k)
          have hb : bigC c = false := by unfold bigC; exact decide_eq_false fun k => h4' k.2
          have e5 : thingB z = false := by rw [et, hb]; rfl
          rw [← e5]
          exact sH
      · have h3' : ¬ 65 ≤ c := fun k => h3 (decide_eq_true k)
        have hb : bigC c = false := by unfold bigC; exact decide_eq_false fun k => h3' k.1
        have e5 : thingB z = false := by rw [et, hb]; rfl
        refine ⟨_, rfl, iteF ?_⟩
        rw [← e5]
        exact sH
    · have hf : fits z = false := by
        unfold fits
        have h2' : decide (z.length ≤ 12) = false := by rw [← e2]; exact Bool.eq_false_iff.mpr h2
        rw [h2', Bool.and_false]
      rw [← no hf]
      exact sH
  · have hf : fits z = false := by
      unfold fits
      have h1' : decide (1 ≤ z.length) = false := by rw [← e1]; exact Bool.eq_false_iff.mpr h1
      rw [h1', Bool.false_and]
    refine ⟨_, rfl, iteF ?_⟩
    rw [← no hf]
    exact sH
theorem small2 {n : Nat} (h : n ≤ 1000) : n ≤ sizeLine := Nat.le_of_lt (small1000 h)
theorem at_str {z : Str} {r : Int} (h0 : 0 ≤ r) (h1 : r < (z.length : Int)) : ∃ c, atI z.cps.toList r = some c := by
  have hx : z.cps.toList.length = z.length := by simp [Str.length]
  have hr : r.toNat < z.cps.toList.length := by omega
  have q : atI z.cps.toList ((r.toNat : Nat) : Int) = some z.cps.toList[r.toNat] := atI_nat (by simp [hr])
  rw [show ((r.toNat : Nat) : Int) = r by omega] at q
  exact ⟨_, q⟩
end
end K12
namespace K12
open PySem L2
def mkS (l : List Nat) : Str := ⟨l.toArray⟩
theorem mkS_l (l : List Nat) : (mkS l).cps.toList = l := by simp [mkS]
theorem mkS_len (l : List Nat) : (mkS l).length = l.length := by simp [mkS, Str.length]
theorem strX {a b : Str} (h : a.cps.toList = b.cps.toList) : a = b := by
  cases a; cases b
  simp only [Str.mk.injEq]
  exact Array.toList_inj.mp h
theorem mkS_of (z : Str) : mkS z.cps.toList = z := strX (mkS_l _)
theorem app_l (a b : Str) : (a ++ b).cps.toList = a.cps.toList ++ b.cps.toList := by rw [Str.cps_append]; simp
theorem len_l (z : Str) : z.length = z.cps.toList.length := by simp [Str.length]
theorem lit_both : (Str.ofString "both").cps.toList = [98, 111, 116, 104] := by decide +kernel
theorem lit_some : (Str.ofString "some").cps.toList = [115, 111, 109, 101] := by decide +kernel
theorem lit_bl : (Str.ofString " ").cps.toList = [32] := by decide +kernel
theorem lit_cl : (Str.ofString ")").cps.toList = [41] := by decide +kernel
theorem lit_op : (Str.ofString "(").cps.toList = [40] := by decide +kernel
theorem lit_e : (Str.empty).cps.toList = [] := by decide +kernel
def wrL : Kd → List Nat
  | .nm x => x.cps.toList
  | .two a b => [40, 98, 111, 116, 104, 32] ++ wrL a ++ [32] ++ wrL b ++ [41]
  | .som r c => [40, 115, 111, 109, 101, 32] ++ r.cps.toList ++ [32] ++ wrL c ++ [41]
def wrS (k : Kd) : Str := mkS (wrL k)
theorem wr_parts {k : Kd} (h : k.isT = true) : wrL k = 40 :: (k.head.cps.toList ++ 32 :: (wrL k.mid ++ 32 :: (wrL k.last ++ [41]))) := by
  cases k with
  | nm _ => cases h
  | two a b => simp [wrL, Kd.head, Kd.mid, Kd.last, lit_both]
  | som r c => simp [wrL, Kd.head, Kd.mid, Kd.last, lit_some]
def wholeB (x : Str) : Bool := x == "anything" || x == "nothing"
def okK : Kd → Prop
  | .nm x => wholeB x = true ∨ nameB x = true
  | .two a b => okK a ∧ okK b
  | .som r c => nameB r = true ∧ okK c
theorem name_len {x : Str} (h : nameB x = true) : 1 ≤ x.length ∧ x.length ≤ 12 ∧ x.cps.toList.all smallC = true ∧ inV (.str x) (words.map V.str) = false := by
  unfold nameB fits at h
  simp only [Bool.and_eq_true, decide_eq_true_eq, Bool.not_eq_true'] at h
  exact ⟨h.1.1.1, h.1.1.2, h.1.2, h.2⟩
theorem whole_of {x : Str} (h : wholeB x = true) : x = "anything" ∨ x = "nothing" := by
  unfold wholeB at h
  simpa using h
theorem word_len {x : Str} (h : wholeB x = true ∨ nameB x = true) : 1 ≤ x.length ∧ x.length ≤ 12 ∧ x.cps.toList.all smallC = true := by
  rcases h with h | h
  · rcases whole_of h with rfl | rfl <;> decide +kernel
  · obtain ⟨a, b, c, _⟩ := name_len h
    exact ⟨a, b, c⟩
theorem wr_len : ∀ {k : Kd}, okK k → (wrL k).length ≤ 12 + 32 * k.nt
  | .nm x, h => by
    have := word_len h
    rw [len_l] at this
    simp only [wrL, Kd.nt]; omega
  | .two a b, h => by
    have h1 := wr_len h.1
    have h2 := wr_len h.2
    simp only [wrL, Kd.nt, List.length_append, List.length_cons, List.length_nil]; omega
  | .som r c, h => by
    have h1 := name_len h.1
    have h2 := wr_len h.2
    rw [len_l] at h1
    simp only [wrL, Kd.nt, List.length_append, List.length_cons, List.length_nil]; omega
theorem wr_pos : ∀ {k : Kd}, okK k → 1 ≤ (wrL k).length
  | .nm x, h => by
    have := word_len h
    rw [len_l] at this
    simp only [wrL]; omega
  | .two a b, h => by simp [wrL]
  | .som r c, h => by simp [wrL]
theorem small_no40 {l : List Nat} (h : l.all smallC = true) : l.count 40 = 0 := by
  rw [List.count_eq_zero]
  intro hm
  have := List.all_eq_true.mp h 40 hm
  exact absurd this (by decide)
theorem wr_count : ∀ {k : Kd}, okK k → (wrL k).count 40 = k.nt
  | .nm x, h => small_no40 (word_len h).2.2
  | .two a b, h => by
    have h1 := wr_count h.1
    have h2 := wr_count h.2
    simp only [wrL, Kd.nt, List.count_append, h1, h2]
    show 1 + _ + 0 + _ + 0 = _
    omega
  | .som r c, h => by
    have h1 := small_no40 (name_len h.1).2.2.1
    have h2 := wr_count h.2
    simp only [wrL, Kd.nt, List.count_append, h1, h2]
    show 1 + 0 + 0 + _ + 0 = _
    omega
def stops : List Nat → Prop
  | [] => True
  | c :: _ => smallC c = false
theorem sIx_nat {n d m : Nat} (h : m ≤ n) : HT.sIx n d (some (m : Int)) = m := by
  simp only [HT.sIx]
  have : ¬ ((m : Int) < 0) := by omega
  simp only [this, if_false]
  omega
theorem slice_nat {z : Str} {n m : Nat} (h : n ≤ z.length) (hm : m ≤ z.length) : (Txt.slice z (some (n : Int)) (some (m : Int))).cps.toList = (z.cps.toList.drop n).take (m - n) := by
  rw [slice_cps, sIx_nat h, sIx_nat hm]
theorem slice_one {z : Str} {n c : Nat} (h : z.cps.toList[n]? = some c) : Txt.slice z (some (n : Int)) (some ((n : Int) + 1)) = ⟨#[c]⟩ := by
  have hn : n < z.cps.toList.length := (List.getElem?_eq_some_iff.mp h).1
  rw [← len_l] at hn
  apply strX
  rw [show (n : Int) + 1 = ((n + 1 : Nat) : Int) by omega, slice_nat (by omega) (by omega), Nat.add_sub_cancel_left]
  have : z.cps.toList.drop n = c :: z.cps.toList.drop (n + 1) := by
    rw [List.drop_eq_getElem_cons (by rw [← len_l]; exact hn)]
    congr 1
    exact (List.getElem?_eq_some_iff.mp h).2
  rw [this]
  rfl
theorem at_drop {l : List Nat} {n c : Nat} {r : List Nat} (h : l.drop n = c :: r) : l[n]? = some c := by
  have : (l.drop n)[0]? = some c := by rw [h]; rfl
  rw [List.getElem?_drop] at this
  simpa using this
theorem drop_app {l a r : List Nat} {n : Nat} (h : l.drop n = a ++ r) : l.drop (n + a.length) = r := by
  rw [← List.drop_drop, h, List.drop_left]
theorem kit_str_str (K : PySem.W.Frag) : PySem.W.kitOne K (.type "str") (.type "str") = some true := rfl
theorem kit_tup_str (K : PySem.W.Frag) : PySem.W.kitOne K (.type "tuple") (.type "str") = some false := by
  first | rfl | decide | with_unfolding_all rfl
section
variable {P : Program} {w : World} {K : PySem.W.Frag} {mg : Str → Option Value} {base : Heap} {f g e d : Addr} {fd gd ed dd : FuncData}
end
end K12
namespace K12
open PySem L2
theorem one_40 : (⟨#[40]⟩ : Str) = Str.ofString "(" := strX (by rw [lit_op])
theorem one_32 : (Str.ofString " ") = (⟨#[32]⟩ : Str) := strX (by rw [lit_bl])
theorem one_41 : (Str.ofString ")") = (⟨#[41]⟩ : Str) := strX (by rw [lit_cl])
theorem flat_whole : ([V.str "anything", V.str "nothing"] : List V).all flatV = true := by decide +kernel
theorem in_whole (x : Str) : inV (.str x) [V.str "anything", V.str "nothing"] = wholeB x := by
  unfold inV wholeB
  simp only [List.any_cons, List.any_nil, Bool.or_false, eqV]
  rw [Bool.beq_comm (a := Str.ofString "anything"), Bool.beq_comm (a := Str.ofString "nothing")]
def IsS (H : Hp) (ks : List Kd) (v : V) : Prop := ∃ (p : Addr) (xs : List V), v = .ref p ∧ H p = some (.tup xs) ∧ KL H xs ks
theorem IsS.mono {H H' : Hp} (t : Tups H H') {ks : List Kd} {v : V} (h : IsS H ks v) : IsS H' ks v := by
  obtain ⟨p, xs, e1, h1, h2⟩ := h
  exact ⟨p, xs, e1, t _ _ h1, h2.mono t⟩
inductive Say where
  | every (c d : Kd)
  | no (c d : Kd)
  | thing (a : Str) (c : Kd)
  | tied (a r b : Str)
  | within (r s : Str)
  | makes (r s t : Str)
def Say.ks : Say → List Kd
  | .every c d => [.nm "every", c, d]
  | .no c d => [.nm "no", c, d]
  | .thing a c => [.nm "thing", .nm a, c]
  | .tied a r b => [.nm "tied", .nm a, .nm r, .nm b]
  | .within r s => [.nm "within", .nm r, .nm s]
  | .makes r s t => [.nm "makes", .nm r, .nm s, .nm t]
theorem lit_is : (Str.ofString " is ").cps.toList = [32, 105, 115, 32] := by decide +kernel
theorem thing_len {x : Str} (h : thingB x = true) : 1 ≤ x.length ∧ x.length ≤ 12 ∧ ∃ c r, x.cps.toList = c :: r ∧ bigC c = true ∧ r.all smallC = true := by
  unfold thingB fits at h
  simp only [Bool.and_eq_true, decide_eq_true_eq] at h
  refine ⟨h.1.1, h.1.2, ?_⟩
  cases hx : x.cps.toList with
  | nil => rw [hx] at h; exact absurd h.2 Bool.false_ne_true
  | cons c r =>
    rw [hx] at h
    simp only [Bool.and_eq_true] at h
    exact ⟨c, r, rfl, h.2⟩
theorem thing_no32 {x : Str} (h : thingB x = true) : 32 ∉ x.cps.toList := by
  obtain ⟨_, _, c, r, e, h1, h2⟩ := thing_len h
  rw [e]
  intro hm
  rcases List.mem_cons.mp hm with z | z
  · subst z; exact absurd h1 (by decide)
  · exact absurd (List.all_eq_true.mp h2 32 z) (by decide)
theorem small_no32 {l : List Nat} (h : l.all smallC = true) : 32 ∉ l := fun hm => absurd (List.all_eq_true.mp h 32 hm) (by decide)
theorem name_no32 {x : Str} (h : nameB x = true) : 32 ∉ x.cps.toList := small_no32 (name_len h).2.2.1
theorem part_at' {z y : Str} {h r : List Nat} (hy : 0 < y.length) (hz : z.cps.toList = h ++ (y.cps.toList ++ r)) (hn : ∀ k, k < h.length → ¬ ∃ t, z.cps.toList.drop k = y.cps.toList ++ t) : Txt.partition z y = (mkS h, y, mkS r) := by
  have hl : z.length = h.length + (y.length + r.length) := by rw [len_l z, hz, List.length_append, List.length_append, ← len_l y]
  rw [part_at (i := h.length) ((at_iff z y _ hy).mpr ⟨r, by rw [hz, List.drop_left]⟩) fun k hk a => hn k hk ((at_iff z y k hy).mp a)]
  have e1 : Builtin.Str.strSub z 0 h.length = mkS h := strX (by rw [StrLaws.strSub_toList, mkS_l, hz]; simp)
  have e2 : Builtin.Str.strSub z (h.length + y.length) z.length = mkS r := strX (by
    have e : h.length + y.length = (h ++ y.cps.toList).length := by rw [List.length_append, ← len_l]
    rw [StrLaws.strSub_toList, mkS_l, hz, hl, ← List.append_assoc, e, List.drop_left]
    rw [List.take_of_length_le (by simp only [List.length_append, ← len_l]; omega)])
  rw [e1, e2]
theorem part_blank {z : Str} {h r : List Nat} (hz : z.cps.toList = h ++ 32 :: r) (hh : 32 ∉ h) : Txt.partition z (Str.ofString " ") = (mkS h, Str.ofString " ", mkS r) := by
  refine part_at' (by decide +kernel) (by rw [hz, lit_bl]; rfl) fun k hk ⟨t, e⟩ => ?_
  rw [hz, lit_bl, List.drop_append_of_le_length (by omega), List.drop_eq_getElem_cons hk] at e
  simp only [List.cons_append, List.nil_append, List.cons.injEq] at e
  exact hh (by rw [← e.1]; exact List.getElem_mem hk)
def NoIs (l rest : List Nat) : Prop := ∀ k, k < l.length → ¬ ∃ t, (l ++ rest).drop k = [32, 105, 115, 32] ++ t
theorem NoIs.nil {rest : List Nat} : NoIs [] rest := fun k hk => absurd hk (Nat.not_lt_zero _)
theorem NoIs.cons {c : Nat} {l rest : List Nat} (h0 : c = 32 → ¬ ∃ t, l ++ rest = [105, 115, 32] ++ t) (h : NoIs l rest) : NoIs (c :: l) rest := fun k hk => by
  cases k with
  | zero =>
    rintro ⟨t, e⟩
    simp only [List.drop_zero, List.cons_append, List.nil_append, List.cons.injEq] at e
    exact h0 e.1 ⟨t, by rw [e.2]; rfl⟩
  | succ k =>
    rintro ⟨t, e⟩
    exact h k (by simpa using hk) ⟨t, by simpa using e⟩
theorem NoIs.app : ∀ {l m rest : List Nat}, NoIs l (m ++ rest) → NoIs m rest → NoIs (l ++ m) rest
  | [], _, _, _, h => h
  | c :: l, m, rest, h1, h2 => by
    have t : NoIs l (m ++ rest) := fun k hk ⟨t, e⟩ => h1 (k + 1) (by simpa using hk) ⟨t, by simpa using e⟩
    refine NoIs.cons (fun hc ⟨t, e⟩ => h1 0 (by simp) ⟨t, ?_⟩) (NoIs.app t h2)
    subst hc
    have e' : l ++ (m ++ rest) = [105, 115, 32] ++ t := by rw [← List.append_assoc]; exact e
    rw [List.drop_zero, List.cons_append, e']
    rfl
theorem NoIs.small : ∀ {l rest : List Nat}, 32 ∉ l → NoIs l rest
  | [], _, _ => NoIs.nil
  | c :: l, rest, h => NoIs.cons (fun hc => absurd (by rw [hc]; exact List.mem_cons_self) h) (NoIs.small fun z => h (List.mem_cons_of_mem _ z))
theorem word_is {x : Str} (h : wholeB x = true ∨ nameB x = true) : x.cps.toList ≠ [105, 115] := by
  intro e
  have : x = "is" := strX (by rw [e]; decide +kernel)
  subst this
  exact absurd h (by decide +kernel)
theorem no_is0 {k : Kd} {rest : List Nat} (ok : okK k) (hs : stops rest) : ¬ ∃ t, wrL k ++ rest = [105, 115, 32] ++ t := by
  rintro ⟨t, e⟩
  cases k with
  | nm x =>
    have w := word_len ok
    rw [len_l] at w
    have ne := word_is ok
    simp only [wrL] at e
    generalize x.cps.toList = l at w ne e
    match l, w, ne, e with
    | [], w, _, _ => simp at w
    | [c], w, _, e =>
      simp only [List.cons_append, List.nil_append, List.cons.injEq] at e
      rw [e.2] at hs
      exact absurd (show smallC 115 = false from hs) (by decide)
    | [c, d], w, ne, e =>
      simp only [List.cons_append, List.nil_append, List.cons.injEq] at e
      exact ne (by rw [e.1, e.2.1])
    | c :: d :: f :: l, w, _, e =>
      simp only [List.cons_append, List.nil_append, List.cons.injEq] at e
      have := w.2.2
      rw [e.2.2.1] at this
      simp only [List.all_cons, Bool.and_eq_true] at this
      exact absurd this.2.2.1 (by decide)
  | two a b => simp [wrL] at e
  | som r c => simp [wrL] at e
theorem no_is_parts {h a b rest : List Nat} (hh : 32 ∉ h) (ha0 : ¬ ∃ t, a ++ (32 :: (b ++ [41]) ++ rest) = [105, 115, 32] ++ t) (ha : NoIs a (32 :: (b ++ [41]) ++ rest)) (hb0 : ¬ ∃ t, b ++ ([41] ++ rest) = [105, 115, 32] ++ t) (hb : NoIs b ([41] ++ rest)) :
    NoIs (40 :: (h ++ 32 :: (a ++ 32 :: (b ++ [41])))) rest := by
  refine NoIs.cons (fun z => absurd z (by decide)) (NoIs.app (NoIs.small hh) (NoIs.cons (fun _ => ?_) (NoIs.app ha (NoIs.cons (fun _ => ?_) (NoIs.app hb (NoIs.small (by simp)))))))
  · rw [List.append_assoc]; exact ha0
  · rw [List.append_assoc]; exact hb0
theorem no_is : ∀ {k : Kd} {rest : List Nat}, okK k → stops rest → NoIs (wrL k) rest
  | .nm x, rest, ok, _ => NoIs.small (small_no32 (word_len ok).2.2)
  | .two a b, rest, ok, hs => by
    rw [wr_parts (k := .two a b) rfl]
    refine no_is_parts (by show 32 ∉ (Str.ofString "both").cps.toList; rw [lit_both]; simp) (no_is0 ok.1 ?_) (no_is ok.1 ?_) (no_is0 ok.2 ?_) (no_is ok.2 ?_)
    all_goals first | exact (by decide : smallC 32 = false) | exact (by decide : smallC 41 = false)
  | .som r c, rest, ok, hs => by
    rw [wr_parts (k := .som r c) rfl]
    refine no_is_parts (by show 32 ∉ (Str.ofString "some").cps.toList; rw [lit_some]; simp) (no_is0 (k := .nm r) (.inr ok.1) ?_) (NoIs.small (name_no32 ok.1)) (no_is0 ok.2 ?_) (no_is ok.2 ?_)
    all_goals first | exact (by decide : smallC 32 = false) | exact (by decide : smallC 41 = false)
theorem part_is {z : Str} {c : Kd} {r : List Nat} (ok : okK c) (hz : z.cps.toList = wrL c ++ ([32, 105, 115, 32] ++ r)) : Txt.partition z (Str.ofString " is ") = (wrS c, Str.ofString " is ", mkS r) := by
  refine part_at' (by decide +kernel) (by rw [hz, lit_is]) fun k hk => ?_
  rw [hz, lit_is]
  exact no_is ok (by show smallC 32 = false; decide) k hk
end K12
namespace K12
open PySem L2
def splitB : List Nat → List (List Nat)
  | [] => [[]]
  | c :: r => if c = 32 then [] :: splitB r else match splitB r with
    | [] => [[c]]
    | p :: ps => (c :: p) :: ps
theorem splitB_ne (l : List Nat) : splitB l ≠ [] := by
  cases l with
  | nil => simp [splitB]
  | cons c r =>
    unfold splitB
    split
    · simp
    · split <;> simp
theorem splitB_app : ∀ (a b : List Nat), splitB (a ++ 32 :: b) = splitB a ++ splitB b
  | [], b => by simp [splitB]
  | c :: a, b => by
    have ih := splitB_app a b
    show splitB (c :: (a ++ 32 :: b)) = _
    rw [splitB, splitB, ih]
    by_cases h : c = 32
    · rw [if_pos h, if_pos h]; rfl
    · rw [if_neg h, if_neg h]
      cases e : splitB a with
      | nil => exact absurd e (splitB_ne a)
      | cons p ps => rfl
theorem splitB_no : ∀ (l : List Nat), ∀ p ∈ splitB l, 32 ∉ p
  | [], p, h => by
    simp [splitB] at h
    rw [h]; simp
  | c :: r, p, h => by
    have ih := splitB_no r
    rw [splitB] at h
    by_cases hc : c = 32
    · rw [if_pos hc] at h
      rcases List.mem_cons.mp h with rfl | h
      · simp
      · exact ih p h
    · rw [if_neg hc] at h
      cases e : splitB r with
      | nil => exact absurd e (splitB_ne r)
      | cons q qs =>
        rw [e] at h ih
        rcases List.mem_cons.mp h with rfl | h
        · intro hm
          rcases List.mem_cons.mp hm with e2 | hm
          · exact hc e2.symm
          · exact ih q List.mem_cons_self hm
        · exact ih p (List.mem_cons_of_mem _ h)
theorem splitB_one : ∀ {l : List Nat}, 32 ∉ l → splitB l = [l]
  | [], _ => rfl
  | c :: r, h => by
    have h1 : c ≠ 32 := fun e => h (by rw [e]; exact List.mem_cons_self)
    rw [splitB, if_neg h1, splitB_one fun hm => h (List.mem_cons_of_mem _ hm)]
theorem splitB_flat : ∀ l : List Nat, (splitB l).flatMap (fun p => 32 :: p) = 32 :: l
  | [] => rfl
  | c :: r => by
    have ih := splitB_flat r
    rw [splitB]
    by_cases hc : c = 32
    · rw [if_pos hc, List.flatMap_cons, ih, hc]; rfl
    · rw [if_neg hc]
      cases e : splitB r with
      | nil => exact absurd e (splitB_ne r)
      | cons q qs =>
        rw [e, List.flatMap_cons] at ih
        show (32 :: c :: q) ++ qs.flatMap _ = _
        have := List.cons.inj (show 32 :: (q ++ qs.flatMap fun p => 32 :: p) = 32 :: r from ih)
        show 32 :: c :: (q ++ qs.flatMap fun p => 32 :: p) = _
        rw [this.2]
theorem splitB_snoc : ∀ (a : List Nat) {c : Nat}, c ≠ 32 → ∃ ps p, splitB a = ps ++ [p] ∧ splitB (a ++ [c]) = ps ++ [p ++ [c]]
  | [], c, h => ⟨[], [], rfl, by show splitB [c] = _; rw [splitB, if_neg h]; rfl⟩
  | d :: a, c, h => by
    obtain ⟨ps, p, e1, e2⟩ := splitB_snoc a h
    show ∃ ps p, _ ∧ splitB (d :: (a ++ [c])) = _
    rw [splitB, splitB, e1, e2]
    by_cases hd : d = 32
    · rw [if_pos hd, if_pos hd]
      exact ⟨[] :: ps, p, rfl, rfl⟩
    · rw [if_neg hd, if_neg hd]
      cases ps with
      | nil => exact ⟨[], d :: p, rfl, rfl⟩
      | cons q qs => exact ⟨(d :: q) :: qs, p, rfl, rfl⟩
def strip (p : List Nat) : List Nat := (p.reverse.dropWhile (· == 41)).reverse
def cls (p : List Nat) : Nat := (p.reverse.takeWhile (· == 41)).length
theorem strip_snoc (p : List Nat) : strip (p ++ [41]) = strip p := by unfold strip; simp
theorem cls_snoc (p : List Nat) : cls (p ++ [41]) = cls p + 1 := by unfold cls; simp
theorem strip_cls (p : List Nat) : strip p ++ List.replicate (cls p) 41 = p := by
  have e : ∀ l : List Nat, l.takeWhile (· == 41) = List.replicate (l.takeWhile (· == 41)).length 41 := fun l => by
    induction l with
    | nil => rfl
    | cons x l ih =>
      rw [List.takeWhile_cons]
      split
      · rename_i hx
        rw [List.length_cons, List.replicate_succ, ← ih]
        rw [beq_iff_eq] at hx
        rw [hx]
      · rfl
  unfold strip cls
  have h := congrArg List.reverse (List.takeWhile_append_dropWhile (p := (· == 41)) (l := p.reverse))
  rw [List.reverse_append, List.reverse_reverse] at h
  rw [e p.reverse, List.reverse_replicate] at h
  exact h
theorem strip_id {p : List Nat} (h : 41 ∉ p) : strip p = p ∧ cls p = 0 := by
  have e : p.reverse.dropWhile (· == 41) = p.reverse ∧ p.reverse.takeWhile (· == 41) = [] := by
    cases q : p.reverse with
    | nil => exact ⟨rfl, rfl⟩
    | cons x l =>
      have hx : (x == 41) = false := by
        rw [beq_eq_false_iff_ne]
        intro e
        exact h (by rw [← List.mem_reverse, q, e]; exact List.mem_cons_self)
      rw [List.dropWhile_cons, List.takeWhile_cons, hx]
      exact ⟨rfl, rfl⟩
  unfold strip cls
  rw [e.1, e.2]
  exact ⟨List.reverse_reverse _, rfl⟩
inductive Tk where
  | w (x : List Nat)
  | cl
def tkP (p : List Nat) : List Tk := .w (strip p) :: List.replicate (cls p) .cl
def tkL (l : List Nat) : List Tk := (splitB l).flatMap tkP
theorem tk_app (a b : List Nat) : tkL (a ++ 32 :: b) = tkL a ++ tkL b := by unfold tkL; rw [splitB_app, List.flatMap_append]
theorem tk_one {l : List Nat} (h : 32 ∉ l) (h' : 41 ∉ l) : tkL l = [.w l] := by
  unfold tkL
  rw [splitB_one h]
  show tkP l ++ [] = _
  unfold tkP
  rw [(strip_id h').1, (strip_id h').2]; rfl
theorem tk_cl (a : List Nat) : tkL (a ++ [41]) = tkL a ++ [.cl] := by
  obtain ⟨ps, p, e1, e2⟩ := splitB_snoc a (show (41 : Nat) ≠ 32 by decide)
  unfold tkL
  rw [e1, e2, List.flatMap_append, List.flatMap_append, List.append_assoc]
  congr 1
  show tkP (p ++ [41]) ++ [] = (tkP p ++ []) ++ [.cl]
  unfold tkP
  rw [strip_snoc, cls_snoc, List.replicate_succ', List.append_nil, List.append_nil]; rfl
def unT : List Tk → List Nat
  | [] => []
  | .w x :: r => 32 :: (x ++ unT r)
  | .cl :: r => 41 :: unT r
theorem unT_app : ∀ a b : List Tk, unT (a ++ b) = unT a ++ unT b
  | [], _ => rfl
  | .w x :: a, b => by show 32 :: (x ++ unT (a ++ b)) = 32 :: (x ++ unT a) ++ unT b; rw [unT_app a b]; simp
  | .cl :: a, b => by show 41 :: unT (a ++ b) = 41 :: unT a ++ unT b; rw [unT_app a b]; rfl
theorem unT_rep : ∀ n : Nat, unT (List.replicate n .cl) = List.replicate n 41
  | 0 => rfl
  | n + 1 => by rw [List.replicate_succ, List.replicate_succ]; show 41 :: unT _ = _; rw [unT_rep n]
theorem unT_P (p : List Nat) : unT (tkP p) = 32 :: p := by
  show 32 :: (strip p ++ unT (List.replicate (cls p) .cl)) = _
  rw [unT_rep, strip_cls]
theorem unT_L (l : List Nat) : unT (tkL l) = 32 :: l := by
  have e : ∀ ps : List (List Nat), unT (ps.flatMap tkP) = ps.flatMap fun p => 32 :: p := fun ps => by
    induction ps with
    | nil => rfl
    | cons p ps ih => rw [List.flatMap_cons, List.flatMap_cons, unT_app, unT_P, ih]
  unfold tkL
  rw [e, splitB_flat]
theorem tk_inj {a b : List Nat} (h : tkL a = tkL b) : a = b := by
  have := congrArg unT h
  rw [unT_L, unT_L] at this
  exact (List.cons.inj this).2
def LB : List Nat := [40, 98, 111, 116, 104]
def LS : List Nat := [40, 115, 111, 109, 101]
def toks : Kd → List Tk
  | .nm x => [.w x.cps.toList]
  | .two a b => .w LB :: (toks a ++ toks b ++ [.cl])
  | .som r c => .w LS :: .w r.cps.toList :: (toks c ++ [.cl])
theorem small_no41 {l : List Nat} (h : l.all smallC = true) : 41 ∉ l := fun hm => absurd (List.all_eq_true.mp h 41 hm) (by decide)
theorem tk_wr : ∀ {k : Kd}, okK k → tkL (wrL k) = toks k
  | .nm x, h => tk_one (small_no32 (word_len h).2.2) (small_no41 (word_len h).2.2)
  | .two a b, h => by
    have e : wrL (.two a b) = (LB ++ 32 :: (wrL a ++ 32 :: wrL b)) ++ [41] := by simp [wrL, LB]
    rw [e, tk_cl, tk_app, tk_app, tk_wr h.1, tk_wr h.2, tk_one (by decide) (by decide)]
    simp [toks]
  | .som r c, h => by
    have e : wrL (.som r c) = (LS ++ 32 :: (r.cps.toList ++ 32 :: wrL c)) ++ [41] := by simp [wrL, LS]
    have hr := (name_len h.1).2.2.1
    rw [e, tk_cl, tk_app, tk_app, tk_one (small_no32 hr) (small_no41 hr), tk_wr h.2, tk_one (by decide) (by decide)]
    simp [toks]
inductive It where
  | op (both : Bool)
  | kd (k : Kd)
def wordB (x : Str) : Bool := wholeB x || nameB x
def eatW (x : List Nat) (p : List It) : Option (List It) :=
  if x = LB then some (.op true :: p) else if x = LS then some (.op false :: p) else if wordB (mkS x) = true then some (.kd (.nm (mkS x)) :: p) else none
def eatC : List It → Option (List It)
  | .kd b :: .kd a :: .op true :: r => some (.kd (.two a b) :: r)
  | .kd b :: .kd (.nm m) :: .op false :: r => if nameB m = true then some (.kd (.som m b) :: r) else none
  | _ => none
def run : List Tk → List It → Option (List It)
  | [], p => some p
  | .w x :: ts, p => (eatW x p).bind (run ts)
  | .cl :: ts, p => (eatC p).bind (run ts)
def It.tk : It → List Tk
  | .op true => [.w LB]
  | .op false => [.w LS]
  | .kd k => toks k
def It.ok : It → Prop
  | .op _ => True
  | .kd k => okK k
theorem word_no (x : Str) (h : wordB x = true) : x.cps.toList ≠ LB ∧ x.cps.toList ≠ LS := by
  have hs := (word_len (by unfold wordB at h; rwa [Bool.or_eq_true] at h)).2.2
  exact ⟨fun e => by rw [e] at hs; revert hs; decide, fun e => by rw [e] at hs; revert hs; decide⟩
theorem word_ok {x : Str} (h : wordB x = true) : okK (.nm x) := by unfold wordB at h; rwa [Bool.or_eq_true] at h
theorem ok_word {x : Str} (h : okK (.nm x)) : wordB x = true := by unfold wordB; rw [Bool.or_eq_true]; exact h
theorem eatW_word {x : Str} (h : wordB x = true) (p : List It) : eatW x.cps.toList p = some (.kd (.nm x) :: p) := by
  unfold eatW
  rw [if_neg (word_no x h).1, if_neg (word_no x h).2, mkS_of, if_pos h]
theorem run_all : ∀ {k : Kd} (ts : List Tk) (p : List It), okK k → run (toks k ++ ts) p = run ts (.kd k :: p)
  | .nm x, ts, p, h => by
    show (eatW x.cps.toList p).bind (run ts) = _
    rw [eatW_word (ok_word h)]; rfl
  | .two a b, ts, p, h => by
    have e : toks (.two a b) ++ ts = .w LB :: (toks a ++ (toks b ++ (.cl :: ts))) := by simp [toks]
    rw [e]
    show (eatW LB p).bind (run _) = _
    rw [show eatW LB p = some (.op true :: p) from if_pos rfl]
    show run (toks a ++ (toks b ++ (.cl :: ts))) (.op true :: p) = _
    rw [run_all _ _ h.1, run_all _ _ h.2]; rfl
  | .som r c, ts, p, h => by
    have e : toks (.som r c) ++ ts = .w LS :: .w r.cps.toList :: (toks c ++ (.cl :: ts)) := by simp [toks]
    have hr : wordB r = true := by unfold wordB; rw [h.1, Bool.or_true]
    rw [e]
    show (eatW LS p).bind (run _) = _
    rw [show eatW LS p = some (.op false :: p) by unfold eatW; rw [if_neg (by decide), if_pos rfl]]
    show (eatW r.cps.toList (.op false :: p)).bind (run _) = _
    rw [eatW_word hr]
    show run (toks c ++ (.cl :: ts)) (.kd (.nm r) :: .op false :: p) = _
    rw [run_all _ _ h.2]
    show (if nameB r = true then some (It.kd (.som r c) :: p) else none).bind (run ts) = _
    rw [if_pos h.1]; rfl
def pileT (p : List It) : List Tk := p.reverse.flatMap It.tk
theorem pile_cons (i : It) (p : List It) : pileT (i :: p) = pileT p ++ i.tk := by
  unfold pileT
  rw [List.reverse_cons, List.flatMap_append]
  congr 1
  exact List.append_nil _
theorem eatW_sound {x : List Nat} {p p' : List It} (h : eatW x p = some p') (ok : ∀ i ∈ p, i.ok) : pileT p' = pileT p ++ [.w x] ∧ ∀ i ∈ p', i.ok := by
  unfold eatW at h
  have go : ∀ {i : It}, i.ok → i.tk = [.w x] → some (i :: p) = some p' → pileT p' = pileT p ++ [.w x] ∧ ∀ i ∈ p', i.ok := fun {i} hi ht e => by
    cases e
    exact ⟨by rw [pile_cons, ht], fun j hj => (List.mem_cons.mp hj).elim (fun z => z ▸ hi) (ok j)⟩
  split at h
  · rename_i e; exact go (i := .op true) trivial (by rw [e]; rfl) h
  · split at h
    · rename_i e; exact go (i := .op false) trivial (by rw [e]; rfl) h
    · split at h
      · rename_i e
        exact go (i := .kd (.nm (mkS x))) (word_ok e) (by show [Tk.w (mkS x).cps.toList] = _; rw [mkS_l]) h
      · cases h
theorem eatC_sound {p p' : List It} (h : eatC p = some p') (ok : ∀ i ∈ p, i.ok) : pileT p' = pileT p ++ [.cl] ∧ ∀ i ∈ p', i.ok := by
  unfold eatC at h
  split at h
  · rename_i b a r
    cases h
    have ha : okK a := ok (.kd a) (by simp)
    have hb : okK b := ok (.kd b) (by simp)
    refine ⟨by rw [pile_cons, pile_cons, pile_cons, pile_cons]; simp [It.tk, toks], fun j hj => ?_⟩
    rcases List.mem_cons.mp hj with rfl | hj
    · exact ⟨ha, hb⟩
    · exact ok j (by simp [hj])
  · rename_i b m r
    split at h
    · rename_i hm
      cases h
      have hb : okK b := ok (.kd b) (by simp)
      refine ⟨by rw [pile_cons, pile_cons, pile_cons, pile_cons]; simp [It.tk, toks], fun j hj => ?_⟩
      rcases List.mem_cons.mp hj with rfl | hj
      · exact ⟨hm, hb⟩
      · exact ok j (by simp [hj])
    · cases h
  · cases h
theorem run_sound : ∀ (ts : List Tk) {p p' : List It}, run ts p = some p' → (∀ i ∈ p, i.ok) → pileT p' = pileT p ++ ts ∧ ∀ i ∈ p', i.ok
  | [], p, p', h, ok => by cases h; exact ⟨(List.append_nil _).symm, ok⟩
  | .w x :: ts, p, p', h, ok => by
    obtain ⟨q, hq, h⟩ := Option.bind_eq_some_iff.mp h
    obtain ⟨e1, o1⟩ := eatW_sound hq ok
    obtain ⟨e2, o2⟩ := run_sound ts h o1
    exact ⟨by rw [e2, e1]; simp, o2⟩
  | .cl :: ts, p, p', h, ok => by
    obtain ⟨q, hq, h⟩ := Option.bind_eq_some_iff.mp h
    obtain ⟨e1, o1⟩ := eatC_sound hq ok
    obtain ⟨e2, o2⟩ := run_sound ts h o1
    exact ⟨by rw [e2, e1]; simp, o2⟩
def kindL (l : List Nat) : Option Kd := if 24 < l.count 40 then none else match run (tkL l) [] with
  | some [.kd k] => some k
  | _ => none
theorem kindL_iff {l : List Nat} {k : Kd} : kindL l = some k ↔ okK k ∧ k.nt ≤ 24 ∧ l = wrL k := by
  constructor
  · intro h
    unfold kindL at h
    split at h
    · cases h
    · rename_i hc
      split at h
      · rename_i k' e
        cases h
        obtain ⟨e1, o1⟩ := run_sound _ e (fun _ h => (List.not_mem_nil h).elim)
        have ok : okK k := o1 (.kd k) (by simp)
        have e2 : toks k = tkL l := by
          have : pileT [It.kd k] = toks k := by simp [pileT, It.tk]
          rw [← this, e1]; rfl
        have e3 : l = wrL k := tk_inj (by rw [← e2, tk_wr ok])
        refine ⟨ok, ?_, e3⟩
        rw [e3, wr_count ok] at hc
        omega
      · cases h
  · rintro ⟨ok, hn, rfl⟩
    unfold kindL
    rw [wr_count ok, if_neg (by omega), tk_wr ok]
    have := run_all (k := k) [] [] ok
    rw [List.append_nil] at this
    rw [this]; rfl
end K12
namespace L2
open PySem PySem.Spec PyProof.Rows
structure MkX0 (K : PySem.W.Frag) (C : Addr) : Prop where
  cls : ∃ (nm q : Str) (N : Addr) (bs bm : List Value) (hdct : Bool) (sn : List Str) (sub : List Value) (ab : Bool) (col : Option Bool) (dd : Option Addr) (k0 k1 k2 k3 k5 : Option Value), K.lookup C = some (excClassObj nm q C N bs bm hdct sn sub ab col dd k0 k1 k2 k3 k5 "ValueError.__new__") ∧
    PySem.W.nsOkIn K N = true ∧ PySem.W.nsIn K N "__init__" = some none ∧ PySem.W.tailIn K veB bm = true
  kp : PySem.W.keepIn K (.ref C) = true
  ve : PySem.W.mroIn K C (.type "BaseException") = some true
  ty : PySem.W.typeIn K (.ref C) = some (.type "type")
section
variable {prog : Program} {w : World} {A : Around} {E : Value → Shared → Prop} {h : Heap} {g : Array GenState} {d : Drawn} {t : Nat} {os : OsState}
variable {nm q : Str} {C N : Addr} {bs bm bmB : List Value} {hdct : Bool} {sn : List Str} {sub : List Value} {ab : Bool} {col : Option Bool} {dd : Option Addr} {k0 k1 k2 k3 k5 : Option Value} {B newId initId : String} {mN : Str → Option Value} {us : List Value}
def XAbove (C : Addr) (h h' : Heap) : Prop := (∀ b o, h.get? b = some o → h'.get? b = some o) ∧ ∃ t0 : Addr, h'.get? (h.objs.size + 1) = some (xObj C t0)
theorem xtype_call0 {Q : Fin → Shared → Prop} (F : ExcBaseFacts B newId initId bmB) (T : OwnTail h bmB bm) (hC : h.get? C = some (excClassObj nm q C N bs bm hdct sn sub ab col dd k0 k1 k2 k3 k5 newId)) (hN : h.Ns N mN) (hi : mN "__init__" = none) (hz : us.length ≤ sizeLine)
    (hq : ∀ h', XAbove C h h' → Q (.done (.ret (.ref (h.objs.size + 1)))) ⟨h', g, d, t, os⟩) : wpAny (model prog w) A (Builtin.«type.__call__» ⟨.ref C :: us, []⟩) Q E ⟨h, g, d, t, os⟩ := by
  repeat (first | with_reducible refine wpAny_loadPart_at hC ?_ | with_reducible refine wpAny_madeBy_exc hC ?_ | wp_step)
  refine codeAny_call_builtin_code (Code.quiet_builtin _ F.quiet) (wpAny_check_new_subT F T hC (codeAny_exc_new_subT F T hC ?_ hz))
  show wpAny _ _ _ _ _ _
  have up : ∀ {b o}, h.get? b = some o → ((h.push (xArgs us)).push (xObj C h.objs.size)).get? b = some o := fun e => Heap.get?_push_of_some _ (Heap.get?_push_of_some _ e)
  have gx : ((h.push (xArgs us)).push (xObj C h.objs.size)).get? (h.objs.size + 1) = some (xObj C h.objs.size) := by heap_get
  have mine : (Value.ref C :: bm).contains (.ref C) = true := by simp
  have T2 := T.keeps (h' := (h.push (xArgs us)).push (xObj C h.objs.size)) fun b o e => up e
  have C2 := up hC
  unfold isInstance
  repeat (first | with_reducible refine wpAny_loadPart_at gx ?_ | (with_reducible refine wpAny_isSubtype_exc C2 ?_; rw [mine]) | wp_step)
  show wpAny _ _ (typeLookup (.ref C) _) _ _ _
  refine wpAny_typeLookup_tail C2 (hN.keeps fun b o e => up e) T2 F.mroIs F.init.lookup ?_
  rw [hi]
  refine wpAny_holding (wpAny_bind (wpAny_of_eq (F.init.bind _) (wpAny_bind (wpAny_call (codeAny_call_builtin F.init.plain F.initEntry (wpAny_check_init_subT F T2 C2 gx rfl ?_))))))
  wp_walk
  refine hq _ ⟨fun b o e => ?_, h.objs.size + 2, ?_⟩
  · rw [Heap.get?_update_other _ _ (Nat.ne_of_gt (Nat.lt_succ_of_lt (Heap.lt_size e)))]
    exact Heap.get?_push_of_some _ (up e)
  · rw [Heap.get?_update_self _ (Heap.get?_push_of_some _ gx) rfl]
    simp only [Heap.size_push]
    rfl
theorem xcall0 {Q : Value → Shared → Prop} (F : ExcBaseFacts B newId initId bmB) (T : OwnTail h bmB bm) (hC : h.get? C = some (excClassObj nm q C N bs bm hdct sn sub ab col dd k0 k1 k2 k3 k5 newId)) (hN : h.Ns N mN) (hi : mN "__init__" = none) (hz : us.length ≤ sizeLine)
    (hq : ∀ h', XAbove C h h' → Q (.ref (h.objs.size + 1)) ⟨h', g, d, t, os⟩) : wpAny (model prog w) A (call (.ref C) us) Q E ⟨h, g, d, t, os⟩ := by
  have y1 := tc_lookup
  have y2 := tc_bind (.ref C)
  have y3 : (⟨h, g, d, t, os⟩ : Shared).TypeIs (.ref C) "type" := ⟨_, hC, rfl⟩
  refine wpAny_call (codeAny_of_tree ?_)
  show wpAny _ _ (callAny (.ref C) _) _ _ _
  repeat (any_goals (first | assumption | with_reducible refine wpAny_loadPart_at hC ?_ | wp_step))
  exact ⟨rfl, codeAny_call_builtin_at (Code.quiet_builtin _ (by decide +kernel)) entry_typeCall (wpAny_check_type_call_sub hC (xtype_call0 F T hC hN hi hz fun h' z => hq h' z))⟩
end
def tRaise0 (C : Addr) (E : XK) (t : TA) : TS := fun _ σ H => t σ H fun vs H1 => vs.length ≤ sizeLine ∧ E (.ref C) none H1
section
variable {X : Cx} {C : Addr} {E : XK} {cn : Str} {p cpos pos : Pos} {e : Expr} {es : List Expr} {t : TA}
theorem ps_raise0 (hc : X.calm = true) (hx : XE X E) (M : MkX0 X.K C) (hg : Gl X cn) (hm : X.mg cn = some (.ref C)) (ha : PA X (e :: es) t)
    (hdb : (cn == ("__debug__" : Str)) = false := by decide) (he : starEach (e :: es) X.env = (false, eval e X.env) :: starEach es X.env := by rfl) (hpl : (backTo cpos (starEach es X.env)).any (·.1) = false := by rfl) :
    PS X (.Raise (some (.Call (.Name cn p) (e :: es) [] cpos)) none pos) (tRaise0 C E t) := by
  intro pins s σ H D I h
  rw [arm_exec_Raise]
  refine wpAny_bind (wpAny_standAt (raise_made (I.ok.hd hc) ?_))
  show wpAny _ _ (do let v ← eval (.Call (.Name cn p) (e :: es) [] cpos) X.env; standAt pos; pure v) _ _ _
  refine wpAny_bind (wpAny_Call_Name_kw (ld_glob I hg hm ?_ hdb))
  refine PySem.W.callWith_K (h₀ := X.base) I.ok.mod.kin M.kp (thn (ha cpos pins s σ H _ I h) fun us s1 ⟨vs, H1, I1, r, hz, q⟩ => ⟨I1.kIn, ?_⟩) he hpl
  obtain ⟨nm, qn, N, bs, bm, hdct, sn, sub, ab, col, dd, k0, k1, k2, k3, k5, lC, ok, hi, tl⟩ := M.cls
  have G : s1.heap.Ns N (s1.heap.nsMap N) := .of_isNs (PySem.W.isNs_of_in I1.kIn ok)
  have gi : s1.heap.nsMap N "__init__" = none := PySem.W.nsMap_none_of_in I1.kIn ok hi
  have T := PySem.W.tail_of_in I1.kIn tl
  obtain ⟨hh, g, d, tk, os⟩ := s1
  refine xcall0 PySem.F.excBase_ValueError T (I1.kIn _ _ lC) G gi (by rw [List.nil_append, ← r.length]; exact hz) (fun h' md => wpAny_bind (wpAny_standAt (wpAny_pure ?_)))
  obtain ⟨keeps, t0, gx⟩ := md
  have zx : hh.objs.size ≤ hh.objs.size + 1 := Nat.le_succ _
  have I2 : Inv X pins σ H1 ⟨h', g, d, tk, os⟩ := I1.kept (t' := tk) keeps
  exact ⟨_, C, _, _, rfl, gx, rfl, rfl, rfl, PySem.W.looks_mroIn I2.kIn M.ve, PySem.W.looks_typeIn I2.kIn M.ty, hx pins σ H1 _ _ _ _ I2 (I1.hok.fresh zx) (Nat.le_trans I1.sz zx) gx rfl rfl q⟩
end
def xHeld0 (C x : Addr) : HO := .ext fun h => ∃ (oe : Obj) (vs : Array Value), h.get? x = some oe ∧ oe.cls = .ref C ∧ oe.dict = none ∧ oe.data = .fields vs
theorem xHeld0_ok {P : Program} {w : World} {H : Hp} {h : Heap} {C x : Addr} {oe : Obj} {vs : Array Value} (e : h.get? x = some oe) (c : oe.cls = .ref C) (o : oe.dict = none) (v : oe.data = .fields vs) : ObjOk P w H h x (xHeld0 C x) := ⟨⟨oe, vs, e, c, o, v⟩, ⟨_, e⟩, fun _ _ ⟨oe, vs, p, r⟩ k => ⟨oe, vs, k _ p, r⟩⟩
section
variable {prog : Program} {w : World} {A : Around} {E : Value → Shared → Prop} {s : Shared} {K : PySem.W.Frag} {x C : Addr} {ox : Obj}
open PySem.W in
theorem xget_c0 {Q : Option Value → Shared → Prop} (X : K.In s.heap) (c : XCl K C) (I : InstAt s.heap x ox C none) (q : Q (some (.ref C)) { s with toks := s.toks + 1 }) : wpAny (model prog w) A (getAttr? (.ref x) "__class__") Q E s := by
  obtain ⟨cd, hc, _⟩ := any_some c.hd
  have hf : findObj K C none "__class__" = some (.bind (.builtin "getset_descriptor.__get__") (.builtin "object.__class__")) := by
    unfold findObj
    rw [hc, Option.bind_some, c.cl, Option.bind_some]
    simp [c.cg, c.ct]
  unfold getAttr? getAttrBy?
  refine wpAny_bind (wpAny_mkText (wpAny_bind (wpAny_attempt ?_)))
  refine xget_by (s := { s with toks := s.toks + 1 }) X c I (xga_b (s := { s with toks := s.toks + 1 }) X c I hf ⟨_, rfl, rfl, ?_⟩)
  first | exact q | exact wpAny_pure q
open PySem.W in
theorem kitx_0 {x C : Addr} {ox : Obj} (c : XCl K C) : KitX K (.ref x) (.ref C) (fun h => InstAt h x ox C none) where
  ty := fun _ _ _ I => I.type
  it := fun _ _ X _ => by
    obtain ⟨cd, hc, _⟩ := any_some c.hd
    unfold clsIn at hc
    split at hc
    · rename_i lo
      intro A' Q' E' s' k q
      unfold isType loadHead
      exact wpAny_bind (wpAny_loadPart (k _ _ (X _ _ lo)) (wpAny_pure q))
    · cases hc
  ne := fun h tp dd its n sl X htp => by
    obtain ⟨cd, hc, _⟩ := any_some c.hd
    refine Bool.eq_false_iff.mpr fun q => ?_
    obtain rfl : C = tp := Value.ref.inj (beq_iff_eq.mp q)
    unfold clsIn at hc
    split at hc
    · rename_i lo
      cases (X _ _ lo).symm.trans htp
    · cases hc
  ca := fun X I k => xget_c0 X c I k
end
section
variable {X : Cx} {K' : PySem.W.Frag}
theorem held0_at {pins : List (Addr × Obj)} {σ : St} {H : Hp} {s : Shared} {x C : Addr} (I : Inv X pins σ H s) (hx : H x = some (xHeld0 C x)) : ∃ ox : Obj, PySem.W.InstAt s.heap x ox C none := by
  obtain ⟨⟨oe, vs, e1, e2, e3, e4⟩, _⟩ := (show ObjOk X.prog X.w H s.heap x (xHeld0 C x) from I.hok x _ hx)
  refine ⟨oe, ⟨e1, e2, ?_, ?_⟩⟩
  · unfold PySem.W.notCls; rw [e4]
  · rw [e3]; first | trivial | exact rfl
theorem call_isX0 (hK : X.K = K') : CallR X (.builtin "isinstance") (fun xs H Q => ∃ (x C : Addr) (cv : V) (c : Value) (b : Bool), xs = [.ref x, cv] ∧ H x = some (xHeld0 C x) ∧ XCl K' C ∧ ((∃ n, cv = .ty n ∧ c = .type n) ∨ ∃ D, cv = .ref D ∧ c = .ref D) ∧ PySem.W.kitOne K' (.ref C) c = some b ∧ Q (.bl b) H) := by
  subst hK
  intro pins s σ H xs us Q I r h
  obtain ⟨x, C, cv, c, b, rfl, ea, xc, hc, e, q⟩ := h
  obtain ⟨u, v, rfl, ru, rv⟩ := r.two
  cases ru
  obtain ⟨ox, J⟩ := held0_at I ea
  have hv : v = c := by
    rcases hc with ⟨n, rfl, rfl⟩ | ⟨D, rfl, rfl⟩
    · cases rv; rfl
    · cases rv; rfl
  subst hv
  exact PySem.W.kia_one (kitx_0 (ox := ox) xc) I.kIn J e (fun z => nomatch z) fun tk => ⟨.bl b, H, I.tok _, rfl, q⟩
theorem call_isXT0 (hK : X.K = K') : CallR X (.builtin "isinstance") (fun xs H Q => ∃ (x C p : Addr) (cs : List Addr) (b : Bool), xs = [.ref x, .ref p] ∧ H x = some (xHeld0 C x) ∧ XCl K' C ∧ H p = some (.tup (cs.map V.ref)) ∧ PySem.W.kitAny K' (.ref C) (cs.map Value.ref) = some b ∧ Q (.bl b) H) := by
  subst hK
  intro pins s σ H xs us Q I r h
  obtain ⟨x, C, p, cs, b, rfl, ea, xc, hp, e, q⟩ := h
  obtain ⟨u, v, rfl, ru, rv⟩ := r.two
  cases ru
  cases rv
  obtain ⟨ox, J⟩ := held0_at I ea
  obtain ⟨_, its, r1, o, g1, g2, k1, g3⟩ := (show ObjOk X.prog X.w H s.heap p (.tup (cs.map V.ref)) from I.hok p _ hp)
  obtain rfl := refs_of cs r1
  obtain ⟨oc, od', odat, osl⟩ := o
  cases g2
  cases g3
  exact PySem.W.kia_tup (kitx_0 (ox := ox) xc) I.kIn J g1 e (fun z => nomatch z) fun tk => ⟨.bl b, H, I.tok _, rfl, q⟩
end
def tTryX0 (K : PySem.W.Frag) (i : Nat) (Ck : Addr) (sp : Sp) (t : TA) (ts : TS) : TS := fun D σ H => t σ H fun vs H1 => sp vs H1 (fun _ H2 => D.nx σ H2) fun cls od H2 => ∃ C, cls = .ref C ∧ od = none ∧ PySem.W.exmOne K (.ref C) (.ref Ck) = some true ∧
  ∀ x, H2 x = none → ts (noName D) (σ.set i (some (.ref x))) (upd H2 x (xHeld0 C x))
def tTryS (K : PySem.W.Frag) (i : Nat) (Ck : Addr) (sp : Sp) (t : TA) (ts : TS) : TS := fun D σ H => t σ H fun vs H1 => sp vs H1 (fun v H2 => D.nx (σ.set i (some v)) H2) fun cls _ H2 => ∃ C, cls = .ref C ∧ PySem.W.exmOne K (.ref C) (.ref Ck) = some true ∧ ts D σ H2
section
variable {X : Cx} {k i : Nat} {f Ck : Addr} {fd : FuncData} {ps : List Str} {sp : Sp} {fn cn n : Str} {p cpos epos np yp hpos pos : Pos} {e : Expr} {es : List Expr} {t : TA} {b0 : Stmt} {suite : List Stmt} {ts : TS}
theorem ps_tryX0 (F : FnOk X.prog X.w X.K X.mg X.base (CXK X.prog X.w) k f fd ps sp) (hr : Room k X.A) (hg : Gl X fn) (hm : X.mg fn = some (.ref f)) (hk : PySem.W.keepIn X.K (.ref f) = true) (hb : Binds X.K fd ps []) (ha : PA X.nox (e :: es) t)
    (hgc : Gl X cn) (hmc : X.mg cn = some (.ref Ck)) (hN : X.N.Nodup) (hi : X.N[i]? = some n) (hl : X.env.scope.names.lookup n = some .local) (hs : ∀ x, PSs (X.inside x) (b0 :: suite) ts)
    (hst : X.stack = X.env :: X.outer) (hfr : X.env.frame = some X.env.locals) (hfn : X.fn n = true ∨ X.env.scope.names.lookup n = some .local := by first | exact .inl rfl | exact .inr rfl)
    (hdb : (fn == ("__debug__" : Str)) = false := by decide) (hdc : (cn == ("__debug__" : Str)) = false := by decide) (he : starEach (e :: es) X.env = (false, eval e X.env) :: starEach es X.env := by rfl) (hpl : (backTo cpos (starEach es X.env)).any (·.1) = false := by rfl)
    (hsw : swapsWith (.Call (.Name fn p) (e :: es) [] cpos) none epos.line X.env = pure false := by rfl) :
    PS X (.Try [.Expr (.Call (.Name fn p) (e :: es) [] cpos) epos] [.ExceptHandler (some (.Name cn np)) (some n) (b0 :: suite) hpos] [] [] pos) (tTryX0 X.K i Ck sp t ts) := by
  intro pins s σ H D I h
  refine wpAny_Try_except (wpAny_execs_cons (wpAny_Expr_any ?_ I.quiet hsw))
  refine wpAny_Call_Name_kw (ld_glob I hg hm ?_ hdb)
  refine PySem.W.callWith_K (h₀ := X.base) I.ok.mod.kin hk (wpAny_mono (ha cpos pins s σ H _ (I.wish _) h) (fun us s1 ⟨vs, H1, I1', r, q⟩ => ⟨I1'.unwish.kIn, ?_⟩) fun _ _ z => z.elim) he hpl
  have I1 := I1'.unwish
  have hln : (us ++ []).length = ps.length := by rw [List.append_nil, ← r.length]; exact F.len _ _ _ _ q
  refine wpAny_call (codeAny_mono (F.run X.A X.stack s1 H1 ⟨us, []⟩ us vs _ _ hr I1.env0 (by have b := hb s1 us I1.kIn hln; rw [List.append_nil] at b; exact b) r q) fun r s2 hq => ?_)
  cases r with
  | ok fl =>
    cases fl with
    | ret u =>
      obtain ⟨v, H', I3, _, q3⟩ := I1.after hq
      exact wpAny_execs_nil (wpAny_execs_nil ⟨σ, H', I3, q3⟩)
    | next => exact False.elim hq
    | brk => exact False.elim hq
    | cont => exact False.elim hq
  | error ex =>
    obtain ⟨x, T, cls, od, H', rfl, os, bare, un, hok, zx, zT, hx, hT, fl, C, rfl, rfl, xm, q3⟩ := hq
    have J := I1.call' os un hok bare (fun b z => absurd z (by simp))
    have hA : X.A.frames = some (X.env :: X.outer) := by rw [← hst]; exact J.ok.frames
    have hF : s2.heap.FunFrames X.base (X.env :: X.outer) := by rw [← hst]; exact J.stack
    refine note_on hA hF hfr fl fun h2 T2 c f2 z2 => fl_set f2 fun h3 k3 f3 => ?_
    have c3 : Chg (frs X.stack) x T s2.heap h3 := by rw [hst]; exact c.set z2 k3 f3.hx
    have J3 := I1.caught (t' := s2.toks) J zx zT hx hT c3
    refine wpAny_handleBy_cons (codeAny_handlers_test ?_) (by intro z; cases z)
    refine ld_glob (J3.inside x) hgc hmc ?_ hdc
    obtain ⟨oe, vs3, e1, e2, e3, e4, e5⟩ := f3.ex
    have LT : PySem.W.Looks (model X.prog X.w) h3 (typeOf (.ref x)) (.ref C) := e2 ▸ (PySem.W.Looks.ld e1).andThen .now
    refine (PySem.W.exm_one (M := model X.prog X.w) (h := h3) J3.kIn LT xm).at ?_
    refine codeAny_handlers_suite_as (fl_set f3 fun h4 k4 f4 => ?_)
    have c4 : Chg (frs X.stack) x T s2.heap h4 := c3.set z2 k4 f4.hx
    have J4 := I1.caught (t' := s2.toks) J zx zT hx hT c4
    obtain ⟨o4, vs4, g1, g2, g3, g4, g5⟩ := f4.ex
    obtain ⟨y1, y2, y3, y4⟩ := I1.old zx
    have J5 := J4.track (d := x) (o := xHeld0 C x) hx y1 y2 y3 y4 (xHeld0_ok g1 g2 g3 g4)
    refine store_ok J5 hN hi (.inl hl) (show RelV (.ref x) (.ref x) from rfl) (fun s5 I5 => ?_) hfn
    refine wpAny_mono (hs x pins s5 _ _ (noName D) (I5.inside x) (q3 x hx)) (fun fl5 s6 sp6 => ?_) fun _ _ z => z.elim
    obtain ⟨m6, n6⟩ := SP.locals sp6
    have hcls : (X.env.scope.kind == .class || (X.env.scope.kind == .module && X.env.locals != X.env.globals)) = false := by rw [I.ok.kind]; rfl
    exact wpAny_nameGoes hl n6 hcls fun h7 m7 n7 sb => SP.forget J.ok sp6 n7 sb
theorem ps_tryS (F : FnOk X.prog X.w X.K X.mg X.base (CXK X.prog X.w) k f fd ps sp) (hr : Room k X.A) (hg : Gl X fn) (hm : X.mg fn = some (.ref f)) (hk : PySem.W.keepIn X.K (.ref f) = true) (hb : Binds X.K fd ps []) (ha : PA X.nox (e :: es) t)
    (hgc : Gl X cn) (hmc : X.mg cn = some (.ref Ck)) (hN : X.N.Nodup) (hi : X.N[i]? = some n) (hl : X.env.scope.names.lookup n = some .local) (hs : ∀ x, PSs (X.inside x) (b0 :: suite) ts)
    (hst : X.stack = X.env :: X.outer) (hfr : X.env.frame = some X.env.locals) (hfn : X.fn n = true ∨ X.env.scope.names.lookup n = some .local := by first | exact .inl rfl | exact .inr rfl)
    (hdb : (fn == ("__debug__" : Str)) = false := by decide) (hdc : (cn == ("__debug__" : Str)) = false := by decide) (he : starEach (e :: es) X.env = (false, eval e X.env) :: starEach es X.env := by rfl) (hpl : (backTo cpos (starEach es X.env)).any (·.1) = false := by rfl)
    (hsw : swapsWith (.Call (.Name fn p) (e :: es) [] cpos) (some (.Name n yp)) epos.line X.env = pure false := by rfl) :
    PS X (.Try [.Assign [.Name n yp] (.Call (.Name fn p) (e :: es) [] cpos) epos] [.ExceptHandler (some (.Name cn np)) none (b0 :: suite) hpos] [] [] pos) (tTryS X.K i Ck sp t ts) := by
  intro pins s σ H D I h
  refine wpAny_Try_except (wpAny_execs_cons (wpAny_Assign_Name ?_ hsw))
  refine wpAny_Call_Name_kw (ld_glob I hg hm ?_ hdb)
  refine PySem.W.callWith_K (h₀ := X.base) I.ok.mod.kin hk (wpAny_mono (ha cpos pins s σ H _ (I.wish _) h) (fun us s1 ⟨vs, H1, I1', r, q⟩ => ⟨I1'.unwish.kIn, ?_⟩) fun _ _ z => z.elim) he hpl
  have I1 := I1'.unwish
  have hln : (us ++ []).length = ps.length := by rw [List.append_nil, ← r.length]; exact F.len _ _ _ _ q
  refine wpAny_call (codeAny_mono (F.run X.A X.stack s1 H1 ⟨us, []⟩ us vs _ _ hr I1.env0 (by have b := hb s1 us I1.kIn hln; rw [List.append_nil] at b; exact b) r q) fun r s2 hq => ?_)
  cases r with
  | ok fl =>
    cases fl with
    | ret u =>
      obtain ⟨v, H', I3, rv, q3⟩ := I1.after hq
      exact store_ok I3 hN hi (.inl hl) rv (fun s2 I2 => wpAny_execs_nil (wpAny_execs_nil ⟨_, H', I2, q3⟩)) hfn
    | next => exact False.elim hq
    | brk => exact False.elim hq
    | cont => exact False.elim hq
  | error ex =>
    obtain ⟨x, T, cls, od, H', rfl, os, bare, un, hok, zx, zT, hx, hT, fl, C, rfl, xm, q3⟩ := hq
    have J := I1.call' os un hok bare (fun b z => absurd z (by simp))
    have hA : X.A.frames = some (X.env :: X.outer) := by rw [← hst]; exact J.ok.frames
    have hF : s2.heap.FunFrames X.base (X.env :: X.outer) := by rw [← hst]; exact J.stack
    refine note_on hA hF hfr fl fun h2 T2 c f2 z2 => fl_set f2 fun h3 k3 f3 => ?_
    have c3 : Chg (frs X.stack) x T s2.heap h3 := by rw [hst]; exact c.set z2 k3 f3.hx
    have J3 := I1.caught (t' := s2.toks) J zx zT hx hT c3
    refine wpAny_handleBy_cons (codeAny_handlers_test ?_) (by intro z; cases z)
    refine ld_glob (J3.inside x) hgc hmc ?_ hdc
    obtain ⟨oe, vs3, e1, e2, e3, e4, e5⟩ := f3.ex
    have LT : PySem.W.Looks (model X.prog X.w) h3 (typeOf (.ref x)) (.ref C) := e2 ▸ (PySem.W.Looks.ld e1).andThen .now
    refine (PySem.W.exm_one (M := model X.prog X.w) (h := h3) J3.kIn LT xm).at ?_
    refine codeAny_handlers_suite (fl_set f3 fun h4 k4 f4 => ?_)
    have c4 : Chg (frs X.stack) x T s2.heap h4 := c3.set z2 k4 f4.hx
    have J4 := I1.caught (t' := s2.toks) J zx zT hx hT c4
    refine wpAny_mono (hs x pins _ _ _ D (J4.inside x) q3) (fun fl5 s6 sp6 => ?_) fun _ _ z => z.elim
    cases fl5 with
    | next => obtain ⟨σ', H', I, q⟩ := sp6; exact ⟨_, H', I.outside J.ok, q⟩
    | brk => obtain ⟨σ', H', I, q⟩ := sp6; exact ⟨_, H', I.outside J.ok, q⟩
    | cont => obtain ⟨σ', H', I, q⟩ := sp6; exact ⟨_, H', I.outside J.ok, q⟩
    | ret u => obtain ⟨v, σ', H', I, r, q⟩ := sp6; exact ⟨v, _, H', I.outside J.ok, r, q⟩
end
end L2
namespace L2
open PySem PySem.Spec PyProof.Rows
def tFI (te : TE) (t : TF) : TF := fun out σ H Q => te σ H fun x H1 => ∃ i : Int, x = .int i ∧ i.natAbs.log2 < 1920 ∧ (out ++ Str.ofString (toString i)).length ≤ sizeLine ∧ t (out ++ Str.ofString (toString i)) σ H1 Q
def tFR (te : TE) (t : TF) : TF := fun out σ H Q => te σ H fun x H1 => ∃ y, x = .str y ∧ (reprText y).length ≤ sizeLine ∧ (out ++ reprText y).length ≤ sizeLine ∧ t (out ++ reprText y) σ H1 Q
section
variable {X : Cx} {e : Expr} {es : List Expr} {te : TE} {t : TF} {pos : Pos}
theorem pf_int (he : PE X e te) (hr : PF X es t) : PF X (.FormattedValue e (-1) none pos :: es) (tFI te t) := by
  intro pins s σ H out Q I h
  show wpAny _ _ (joinParts out (eval (.FormattedValue e (-1) none pos) X.env :: evalEach es X.env)) _ _ s
  refine joinParts_cons (FormattedValue_plain (thn (he pins s σ H _ I h) fun v s1 ⟨x, H1, I1, r1, q1⟩ => ?_))
  obtain ⟨i, rfl, hi, hz, q⟩ := q1
  obtain ⟨u, rfl⟩ := r1
  exact formatField_int_small hi ⟨hz, hr pins _ σ H1 _ Q (I1.tok _) q⟩
theorem pf_repr (he : PE X e te) (hr : PF X es t) : PF X (.FormattedValue e 114 none pos :: es) (tFR te t) := by
  intro pins s σ H out Q I h
  show wpAny _ _ (joinParts out (eval (.FormattedValue e 114 none pos) X.env :: evalEach es X.env)) _ _ s
  refine joinParts_cons (wpAny_FormattedValue_repr (thn (he pins s σ H _ I h) fun v s1 ⟨x, H1, I1, r1, q1⟩ => ?_))
  obtain ⟨y, rfl, hy, hz, q⟩ := q1
  obtain ⟨u, rfl⟩ := r1
  exact pyReprObj_str (formatField_str (fun t' tk => ⟨hz, hr pins _ σ H1 (out ++ reprText y) Q (I1.tok _) q⟩) hy) hy
end
theorem int_txt {i : Int} (h : i.natAbs < 100000) : i.natAbs.log2 < 1920 ∧ (Str.ofString (toString i)).length ≤ 6 := by
  have h5 : i.natAbs < 10 ^ 5 := h
  refine ⟨?_, ?_⟩
  · by_cases h0 : i.natAbs = 0
    · rw [h0]; decide
    · rw [Nat.log2_lt h0]
      exact Nat.lt_of_lt_of_le h5 (by decide +kernel)
  · have := int_text_length_le10 (k := 5) (by decide) h5
    rw [PySem.ofString_length]; exact this
theorem occ_some_ge (x : Str) (c hi limit : Nat) (hh : hi = x.length) : ∀ (l : List Nat) (st : Array Nat × Nat), l.Pairwise (· < ·) → (∀ i ∈ l, st.snd ≤ i) → st.fst.size + l.length ≤ limit → st.fst.size + (l.filter fun i => x.cps.toList[i]? == some c).length ≤ (forIn l st (StrLaws.occBody x ⟨#[c]⟩ hi limit)).run.fst.size
  | [], st, _, _, _ => Nat.le_refl _
  | a :: l, st, hp, hs, hl => by
    subst hh
    obtain ⟨p1, p2⟩ := List.pairwise_cons.mp hp
    rw [List.length_cons] at hl
    rw [List.forIn_cons]
    unfold StrLaws.occBody
    split
    · rename_i h
      have e : x.cps.toList[a]? = some c := (StrLaws.subAt_one x c a).mp ⟨h.1.2, h.2⟩
      rw [List.filter_cons_of_pos (by simp [e])]
      refine Nat.le_trans ?_ (occ_some_ge x c _ limit rfl l (st.fst.push a, a + (⟨#[c]⟩ : Str).length) p2 (fun i hi => ?_) ?_)
      · simp only [Array.size_push, List.length_cons]; omega
      · have := p1 i hi
        have e1 : (⟨#[c]⟩ : Str).length = 1 := rfl
        show a + (⟨#[c]⟩ : Str).length ≤ i
        omega
      · simp only [Array.size_push]; omega
    · rename_i h
      have ne : ¬ x.cps.toList[a]? = some c := fun e => by
        have := (StrLaws.subAt_one x c a).mpr e
        exact h ⟨⟨⟨by omega, hs a List.mem_cons_self⟩, this.1⟩, this.2⟩
      rw [List.filter_cons_of_neg (by rw [beq_iff_eq]; exact ne)]
      exact occ_some_ge x c _ limit rfl l (st.fst, st.snd) p2 (fun i hi => hs i (List.mem_cons_of_mem _ hi)) (by show st.fst.size + l.length ≤ limit; omega)
theorem count_eq (x : Str) (c : Nat) : Txt.count x ⟨#[c]⟩ = (x.cps.toList.count c : Int) := by
  refine Int.le_antisymm (count_le x c) ?_
  unfold Txt.count
  rw [StrLaws.occ_eq, Array.length_toList]
  have h := occ_some_ge x c x.length (x.length + 1) rfl (List.range' 0 (x.length + 1 - 0)) (#[], 0) (List.pairwise_lt_range' ..) (fun i _ => Nat.zero_le _) (by rw [List.length_range']; show 0 + _ ≤ _; omega)
  have e := places_count c x.cps.toList 0
  simp only [Nat.sub_zero, Array.length_toList] at e h
  have hl : x.length = x.cps.size := rfl
  rw [hl] at h ⊢
  rw [e] at h
  simp only [List.size_toArray, List.length_nil, Nat.zero_add] at h
  exact Int.ofNat_le.mpr h
section
variable {X : Cx}
def rSplit5 : V → List V → Hp → VK → Prop := fun x vs H Q => ∃ z y, x = .str z ∧ vs = [.str y] ∧ (y.length == 0) = false ∧ z.length ≤ 5000 ∧ ∀ p, H p = none → Q (.ref p) (upd H p (.lst ((Txt.split z y).map V.str)))
theorem mt_split5 : MtR X "str.split" rSplit5 := by
  intro pins s σ H x xs v us Q I rx rs h
  obtain ⟨z, y, rfl, rfl, hy, hz, q⟩ := h
  obtain ⟨t, rfl⟩ := rx
  obtain ⟨u, rfl, ru⟩ := rs.one
  obtain ⟨t', rfl⟩ := ru
  have hz' : z.length ≤ sizeLine := Nat.le_trans hz (by decide)
  have ol := StrLaws.occ_length_le_len z y 0 z.length (z.length + 1)
  have pl : (Builtin.Str.partsBetween z (Builtin.Str.occurrences z y 0 z.length (z.length + 1)) y.length).length ≤ sizeLine := by
    rw [parts_len]
    have : 5002 ≤ sizeLine := by decide
    omega
  have fin : ∀ (l : List (Str × Tok)) (k : Nat), l.map (·.1) = Txt.split z y → l.length ≤ sizeLine → EP X pins σ Q (.ref s.heap.objs.size) { s with toks := k, heap := s.heap.push { cls := .type "list", data := .seq (strValues l).toArray } } := fun l k e hl => by
    have hf : H s.heap.objs.size = none := I.hok.fresh (Nat.le_refl _)
    refine ⟨.ref s.heap.objs.size, _, I.laid (t' := k) (o := .lst ((Txt.split z y).map V.str)) (fun b u e => Heap.get?_push_of_some _ e) (Nat.le_refl _) ?_, rfl, q _ hf⟩
    rw [← e]
    exact ⟨by rw [List.length_map, List.length_map]; exact hl, strValues l, 0, vals_strs l, Heap.get?_push_size _ rfl⟩
  cases h1 : (decide (z.length < y.length) || decide (Builtin.Str.strKind z < Builtin.Str.strKind y))
  · cases hf : (Builtin.Str.occurrences z y 0 z.length (z.length + 1)).isEmpty
    · refine call_meets F.slot_str_split (typeIs_str _ _ _) F.entry_str_split (F.args_str_split_2 _ _) (meets_str_split_sep z y t t' h1 hy hf hz' pl) ?_
      show wants _ _ _ { s with toks := _, heap := s.heap.push { cls := .type "list", data := .seq (strsFrom s.toks (Builtin.Str.partsBetween z (Builtin.Str.occurrences z y 0 z.length (z.length + 1)) y.length)).toArray } }
      rw [strsFrom_eq]
      refine fin (numbered s.toks _) _ ((numbered_texts _ _).trans ((if_neg (ne_true_of_eq_false h1)).trans (if_neg (ne_true_of_eq_false hf))).symm) ?_
      have := congrArg List.length (numbered_texts s.toks (Builtin.Str.partsBetween z (Builtin.Str.occurrences z y 0 z.length (z.length + 1)) y.length))
      rw [List.length_map] at this
      rw [this]; exact pl
    · exact call_meets F.slot_str_split (typeIs_str _ _ _) F.entry_str_split (F.args_str_split_2 _ _) (meets_str_split_not_found z y t t' h1 hy hf)
        (fin [(z, t)] s.toks ((if_neg (ne_true_of_eq_false h1)).trans (if_pos hf)).symm (by show 1 ≤ sizeLine; exact Nat.le_of_lt (small1000 (by decide))))
  · exact call_meets F.slot_str_split (typeIs_str _ _ _) F.entry_str_split (F.args_str_split_2 _ _) (meets_str_split_cannot_occur z y t t' h1)
      (fin [(z, t)] s.toks (if_pos h1).symm (by show 1 ≤ sizeLine; exact Nat.le_of_lt (small1000 (by decide))))
end
theorem part_cases (z y : Str) (hy : 0 < y.length) : (Txt.partition z y = (z, Str.empty, Str.empty) ∧ ∀ i, ¬ StrLaws.At z y z.length i) ∨ ∃ i, StrLaws.At z y z.length i ∧ (∀ k, k < i → ¬ StrLaws.At z y z.length k) := by
  have least : ∀ n i, i ≤ n → StrLaws.At z y z.length i → ∃ j, StrLaws.At z y z.length j ∧ ∀ k, k < j → ¬ StrLaws.At z y z.length k := fun n => by
    induction n with
    | zero => exact fun i hi h => ⟨i, h, fun k hk => by omega⟩
    | succ n ih =>
      intro i hi h
      by_cases c : ∃ k, k < i ∧ StrLaws.At z y z.length k
      · obtain ⟨k, hk, hA⟩ := c
        exact ih k (by omega) hA
      · exact ⟨i, h, fun k hk hA => c ⟨k, hk, hA⟩⟩
  by_cases c : ∃ i, StrLaws.At z y z.length i
  · obtain ⟨i, h⟩ := c
    exact .inr (least i i (Nat.le_refl _) h)
  · refine .inl ⟨?_, fun i h => c ⟨i, h⟩⟩
    have e : (Builtin.Str.occurrences z y 0 z.length 1).isEmpty = true := by
      cases q : (Builtin.Str.occurrences z y 0 z.length 1).isEmpty with
      | true => rfl
      | false =>
        obtain ⟨i, h1, h2⟩ := (StrLaws.found_iff z y).mp (by rw [q]; rfl)
        exact absurd ⟨i, (show StrLaws.At z y z.length i from ⟨h1, h2⟩)⟩ c
    unfold Txt.partition
    rw [List.isEmpty_iff.mp e]
end L2
namespace K12
open PySem L2
theorem span_uniq : ∀ {a b r r' : List Nat}, a ++ r = b ++ r' → a.all smallC = true → b.all smallC = true → stops r → stops r' → a = b ∧ r = r'
  | [], [], _, _, h, _, _, _, _ => ⟨rfl, h⟩
  | [], d :: b, r, r', h, _, hb, hr, _ => by
    cases h
    rw [List.all_cons, Bool.and_eq_true] at hb
    have : smallC d = false := hr
    rw [hb.1] at this
    cases this
  | c :: a, [], r, r', h, ha, _, _, hr' => by
    have h' : c :: (a ++ r) = r' := h
    subst h'
    rw [List.all_cons, Bool.and_eq_true] at ha
    have : smallC c = false := hr'
    rw [ha.1] at this
    cases this
  | c :: a, d :: b, r, r', h, ha, hb, hr, hr' => by
    obtain ⟨e1, e2⟩ := List.cons.inj (show c :: (a ++ r) = d :: (b ++ r') from h)
    rw [List.all_cons, Bool.and_eq_true] at ha hb
    obtain ⟨e3, e4⟩ := span_uniq e2 ha.2 hb.2 hr hr'
    exact ⟨by rw [e1, e3], e4⟩
theorem span_ex : ∀ s : List Nat, ∃ a r, s = a ++ r ∧ a.all smallC = true ∧ stops r
  | [] => ⟨[], [], rfl, rfl, trivial⟩
  | c :: s => by
    obtain ⟨a, r, e, ha, hr⟩ := span_ex s
    by_cases h : smallC c = true
    · exact ⟨c :: a, r, by rw [e]; rfl, by rw [List.all_cons, h, ha]; rfl, hr⟩
    · exact ⟨[], c :: s, rfl, rfl, Bool.eq_false_iff.mpr h⟩
def Pk (s : List Nat) (k : Kd) (r : List Nat) : Prop := s = wrL k ++ r ∧ okK k ∧ (k.isT = false → stops r)
theorem stops32 (r : List Nat) : stops (32 :: r) := by show smallC 32 = false; decide
theorem stops41 (r : List Nat) : stops (41 :: r) := by show smallC 41 = false; decide
theorem okK_small {x : Str} (h : okK (.nm x)) : x.cps.toList.all smallC = true := (word_len h).2.2
theorem pk_word {s a rest : List Nat} (hs : s = a ++ rest) (ha : a.all smallC = true) (hr : stops rest) (h40 : ∀ t, s ≠ 40 :: t) {k : Kd} {r : List Nat} (h : Pk s k r) : k = .nm (mkS a) ∧ r = rest ∧ wordB (mkS a) = true := by
  obtain ⟨e, ok, st⟩ := h
  cases k with
  | nm x =>
    have hx := okK_small ok
    obtain ⟨e1, e2⟩ := span_uniq (show x.cps.toList ++ r = a ++ rest from e.symm.trans hs) hx ha (st rfl) hr
    have : mkS a = x := by rw [← e1, mkS_of]
    exact ⟨by rw [this], e2, by rw [this]; exact ok_word ok⟩
  | two a b => exact absurd (by rw [e]; simp [wrL]; rfl) (h40 _)
  | som x c => exact absurd (by rw [e]; simp [wrL]; rfl) (h40 _)
def WB : List Nat := [98, 111, 116, 104]
def WS : List Nat := [115, 111, 109, 101]
theorem pk_head {t h r1 : List Nat} (ht : t = h ++ r1) (hh : h.all smallC = true) (hr : stops r1) {k : Kd} {r : List Nat} (H : Pk (40 :: t) k r) :
    ∃ r2, r1 = 32 :: r2 ∧ ((h = WB ∧ ∃ a b r4, k = .two a b ∧ Pk r2 a (32 :: r4) ∧ Pk r4 b (41 :: r)) ∨ (h = WS ∧ ∃ x c r4, k = .som x c ∧ r2 = x.cps.toList ++ 32 :: r4 ∧ nameB x = true ∧ Pk r4 c (41 :: r))) := by
  obtain ⟨e, ok, st⟩ := H
  cases k with
  | nm x =>
    have hx := okK_small ok
    have l1 := (word_len ok).1
    rw [len_l] at l1
    have e' : 40 :: t = x.cps.toList ++ r := e
    cases hc : x.cps.toList with
    | nil => rw [hc] at l1; simp at l1
    | cons c l =>
      rw [hc] at e' hx
      cases e'
      rw [List.all_cons, Bool.and_eq_true] at hx
      exact absurd hx.1 (by decide)
  | two a b =>
    have e1 : 40 :: t = 40 :: (WB ++ (32 :: (wrL a ++ (32 :: (wrL b ++ (41 :: r)))))) := by rw [e]; simp [wrL, WB]
    obtain ⟨e3, e4⟩ := span_uniq (ht.symm.trans (List.cons.inj e1).2) hh (by decide) hr (stops32 _)
    exact ⟨_, e4, .inl ⟨e3, a, b, wrL b ++ 41 :: r, rfl, ⟨rfl, ok.1, fun _ => stops32 _⟩, ⟨rfl, ok.2, fun _ => stops41 _⟩⟩⟩
  | som x c =>
    have e1 : 40 :: t = 40 :: (WS ++ (32 :: (x.cps.toList ++ (32 :: (wrL c ++ (41 :: r)))))) := by rw [e]; simp [wrL, WS]
    obtain ⟨e3, e4⟩ := span_uniq (ht.symm.trans (List.cons.inj e1).2) hh (by decide) hr (stops32 _)
    exact ⟨_, e4, .inr ⟨e3, x, c, wrL c ++ 41 :: r, rfl, rfl, ok.1, ⟨rfl, ok.2, fun _ => stops41 _⟩⟩⟩
theorem pk_two {r2 r4 r : List Nat} {a b : Kd} (h1 : Pk r2 a (32 :: r4)) (h2 : Pk r4 b (41 :: r)) : Pk (40 :: (WB ++ 32 :: r2)) (.two a b) r :=
  ⟨by rw [h1.1, h2.1]; simp [wrL, WB], ⟨h1.2.1, h2.2.1⟩, fun z => by cases z⟩
theorem pk_som {r2 r4 r : List Nat} {x : Str} {c : Kd} (h1 : r2 = x.cps.toList ++ 32 :: r4) (hx : nameB x = true) (h2 : Pk r4 c (41 :: r)) : Pk (40 :: (WS ++ 32 :: r2)) (.som x c) r :=
  ⟨by rw [h1, h2.1]; simp [wrL, WS], ⟨hx, h2.2.1⟩, fun z => by cases z⟩
theorem pk_uniq : ∀ {k k' : Kd} {s r r' : List Nat}, Pk s k r → Pk s k' r' → k = k' ∧ r = r'
  | .nm x, k', s, r, r', h, h' => by
    have hx := okK_small h.2.1
    have h40 : ∀ t, s ≠ 40 :: t := fun t e => by
      obtain ⟨a, q, e1, e2, e3⟩ := span_ex t
      have := pk_head (t := t) e1 e2 e3 (e ▸ h)
      obtain ⟨_, _, ⟨_, _, _, _, z, _⟩ | ⟨_, _, _, _, z, _⟩⟩ := this <;> cases z
    obtain ⟨e1, e2, _⟩ := pk_word h.1 hx (h.2.2 rfl) h40 h'
    have : mkS x.cps.toList = x := mkS_of x
    exact ⟨by rw [e1, show mkS (wrL (.nm x)) = x from this], e2.symm⟩
  | .two a b, k', s, r, r', h, h' => by
    obtain ⟨e, ok, _⟩ := h
    have e1 : s = 40 :: (WB ++ (32 :: (wrL a ++ (32 :: (wrL b ++ (41 :: r)))))) := by rw [e]; simp [wrL, WB]
    subst e1
    obtain ⟨r2, e2, ⟨_, a', b', r4, rfl, p1, p2⟩ | ⟨z, _⟩⟩ := pk_head (h := WB) rfl (by decide) (stops32 _) h'
    · cases e2
      obtain ⟨e3, e4⟩ := pk_uniq (k := a) ⟨rfl, ok.1, fun _ => stops32 _⟩ p1
      cases e4
      obtain ⟨e5, e6⟩ := pk_uniq (k := b) ⟨rfl, ok.2, fun _ => stops41 _⟩ p2
      cases e6
      exact ⟨by rw [e3, e5], rfl⟩
    · exact absurd z (by decide)
  | .som x c, k', s, r, r', h, h' => by
    obtain ⟨e, ok, _⟩ := h
    have e1 : s = 40 :: (WS ++ (32 :: (x.cps.toList ++ (32 :: (wrL c ++ (41 :: r)))))) := by rw [e]; simp [wrL, WS]
    subst e1
    obtain ⟨r2, e2, ⟨z, _⟩ | ⟨_, x', c', r4, rfl, p1, nx, p2⟩⟩ := pk_head (h := WS) rfl (by decide) (stops32 _) h'
    · exact absurd z (by decide)
    · cases e2
      obtain ⟨e3, e4⟩ := span_uniq p1 (name_len ok.1).2.2.1 (name_len nx).2.2.1 (stops32 _) (stops32 _)
      cases e4
      obtain ⟨e5, e6⟩ := pk_uniq (k := c) ⟨rfl, ok.2, fun _ => stops41 _⟩ p2
      cases e6
      have : x = x' := strX e3
      exact ⟨by rw [this, e5], rfl⟩
end K12
namespace K12
open PySem L2
def txt (z : Str) : Prop := z.length ≤ 5000 ∧ ∀ c ∈ z.cps.toList, c < 128
theorem small5 {n : Nat} (h : n ≤ 5000) : n ≤ sizeLine := Nat.le_trans h (by decide)
theorem small6 {n : Nat} (h : n ≤ 1000000) : n ≤ sizeLine := Nat.le_trans h (by decide)
theorem same_upd {H H' : Hp} {p : Addr} {o : HO} (h : Same H H') (hp : H p = none) : Same H (upd H' p o) := fun b u q => by
  rw [upd_ne (ne_of_none q hp)]
  exact h b u q
theorem none_of_same {H H' : Hp} {p : Addr} (h : Same H H') (hp : H' p = none) : H p = none := by
  cases e : H p with
  | none => rfl
  | some o => rw [h _ _ e] at hp; cases hp
theorem slice_none {z : Str} {n : Nat} (h : z.cps.toList[n]? = none) : Txt.slice z (some (n : Int)) (some ((n : Int) + 1)) = Str.empty := by
  have hn : z.length ≤ n := by have := List.getElem?_eq_none_iff.mp h; rw [len_l]; exact this
  apply strX
  rw [slice_cps, show (n : Int) + 1 = ((n + 1 : Nat) : Int) by omega, HT.sIx_nat, HT.sIx_nat, Nat.min_eq_right hn, Nat.min_eq_right (by omega), Nat.sub_self, List.take_zero, lit_e]
theorem slice_at (z : Str) (n sg : Nat) : decide (V.str (Txt.slice z (some (n : Int)) (some ((n : Int) + 1))) = V.str ⟨#[sg]⟩) = decide (z.cps.toList[n]? = some sg) := by
  cases h : z.cps.toList[n]? with
  | none =>
    rw [slice_none h]
    rw [decide_eq_false (fun e => by injection e with e; have := congrArg (fun z : Str => z.cps.toList) e; rw [lit_e] at this; cases this), decide_eq_false (fun e => by cases e)]
  | some c =>
    rw [slice_one h, decide_eq_decide]
    exact ⟨fun e => by injection e with e; have := congrArg (fun z : Str => z.cps.toList) e; cases this; rfl, fun e => by cases e; rfl⟩
theorem app_le {a b : Str} {m n : Nat} (ha : a.length ≤ m) (hb : b.length ≤ n) : (a ++ b).length ≤ m + n := by rw [Str.length_append]; omega
theorem e_le : Str.empty.length ≤ 0 := by decide +kernel
theorem fits6 {a : Str} {n : Nat} (h : a.length ≤ n) (hn : n ≤ 1000000) : a.length ≤ sizeLine := small6 (Nat.le_trans h hn)
theorem repr_le {y : Str} (h : txt y) : (reprText y).length ≤ 50002 := by
  have := StrLaws.reprText_len y fun c hc => Nat.lt_of_lt_of_le (h.2 c hc) (by decide)
  have := h.1
  omega
def WAt (z : Str) (n : Nat) (a rest : List Nat) : Prop := txt z ∧ n ≤ z.length ∧ z.cps.toList.drop n = a ++ rest
def spBehind (C : Addr) : Sp := fun vs H Q E => ∃ (z : Str) (n sg : Nat), vs = [.str z, .int (n : Int), .str ⟨#[sg]⟩] ∧ txt z ∧ n ≤ 5000 ∧ sg < 128 ∧ (z.cps.toList[n]? = some sg → Q (.int ((n + 1 : Nat) : Int)) H) ∧ (z.cps.toList[n]? ≠ some sg → E (.ref C) none H)
def spWordAt : Sp := fun vs H Q _ => ∃ (z : Str) (n : Nat) (a rest : List Nat), vs = [.str z, .int (n : Int)] ∧ WAt z n a rest ∧ a.all smallC = true ∧ stops rest ∧
  ∀ p, H p = none → Q (.ref p) (upd H p (.tup [.str (mkS a), .int ((n + a.length : Nat) : Int)]))
def spNameAt (C : Addr) : Sp := fun vs H Q E => ∃ (z : Str) (n : Nat) (a rest : List Nat), vs = [.str z, .int (n : Int)] ∧ WAt z n a rest ∧ a.all smallC = true ∧ stops rest ∧
  (nameB (mkS a) = true → ∀ p H', Same H H' → H' p = some (.tup [.str (mkS a), .int ((n + a.length : Nat) : Int)]) → Q (.ref p) H') ∧ (nameB (mkS a) = false → ∀ H', Same H H' → E (.ref C) none H')
def spKWordAt (C : Addr) : Sp := fun vs H Q E => ∃ (z : Str) (n : Nat) (a rest : List Nat), vs = [.str z, .int (n : Int)] ∧ WAt z n a rest ∧ a.all smallC = true ∧ stops rest ∧
  (wordB (mkS a) = true → ∀ p H', Same H H' → H' p = some (.tup [.str (mkS a), .int ((n + a.length : Nat) : Int)]) → Q (.ref p) H') ∧ (wordB (mkS a) = false → ∀ H', Same H H' → E (.ref C) none H')
theorem WAt.len {z : Str} {n : Nat} {a rest : List Nat} (h : WAt z n a rest) : n + a.length + rest.length = z.length := by
  have := congrArg List.length h.2.2
  rw [List.length_drop, List.length_append, ← len_l] at this
  have := h.2.1
  omega
section
variable {P : Program} {w : World} {K : PySem.W.Frag} {mg : Str → Option Value} {base : Heap} {f g e a1 a2 a3 a4 a5 C : Addr} {fd gd ed d1 d2 d3 d4 d5 : FuncData}
theorem scBehind : FnScope ["text", "at", "sign"] ["text", "at", "sign"] (defScope sBehind) := ⟨rfl, rfl, rfl, by decide +kernel, rfl, by decide +kernel, by decide +kernel⟩
theorem ok_behind (F : Fun K "behind" "behind" sBehind f fd) (MkNT : MkX0 K C) (mNT : mg "NoText" = some (.ref C)) : FnOk P w K mg base (CXK P w) 1 f fd ["text", "at", "sign"] (spBehind C) := by
  refine F.okX scBehind (fun vs H Q E h => ?_) (fun cdv A outer s H vs Q E hr h => ?_)
  · obtain ⟨z, n, sg, rfl, _⟩ := h; rfl
  obtain ⟨z, n, sg, rfl, hz, hn, hs, q1, q2⟩ := h
  refine ⟨_, @pss_cons _ _ _ _ _ (by exact ps_if (pt_cmpR op_ne (pe_slice sl_str (pv 0) (po_some (pv 1)) (po_some (pe_op op_add (pv 1) pe_int))) (pv 2) (nomark _)) (@pss_one _ _ _ (by exact ps_raise0 rfl xe_cx MkNT rfl mNT (pa_cons (pe_fstr (pf_str pe_str (pf_repr (pv 2) (pf_str pe_str (pf_int (pv 1) pf_nil))))) pa_nil))) pss_nil)
    (@pss_one _ _ _ (by exact PS.nox (by exact @ps_ret _ _ _ _ (pe_op op_add (pv 1) pe_int)))), ?_⟩
  refine ⟨_, rfl, _, rfl, n, rfl, _, rfl, _, _, rfl, rfl, _, rfl, z, rfl, small5 hz.1, _, rfl, rfl, _, rfl, ?_⟩
  rw [slice_at]
  by_cases c : z.cps.toList[n]? = some sg
  · rw [decide_eq_true c]
    exact iteF ⟨_, rfl, _, _, rfl, rfl, q1 c⟩
  · rw [decide_eq_false c]
    have ts : txt (⟨#[sg]⟩ : Str) := ⟨by show 1 ≤ 5000; decide, fun c hc => by rw [List.mem_singleton.mp (show c ∈ [sg] from hc)]; exact hs⟩
    have l1 : (Str.ofString "no ").length ≤ 100 := by decide +kernel
    have l2 : (Str.ofString " at place ").length ≤ 100 := by decide +kernel
    obtain ⟨i1, i2⟩ := int_txt (i := (n : Int)) (by omega)
    have b1 := app_le e_le l1
    have b2 := app_le b1 (repr_le ts)
    have b3 := app_le b2 l2
    have b4 := app_le b3 i2
    exact iteT ⟨_, rfl, fits6 l1 (by decide), fits6 b1 (by decide), _, rfl, _, rfl, fits6 (repr_le ts) (by decide), fits6 b2 (by decide), _, rfl, fits6 l2 (by decide), fits6 b3 (by decide), _, rfl, _, rfl, i1, fits6 b4 (by decide), fits6 b4 (by decide), small5 (by show 1 ≤ 5000; decide), q2 c⟩
theorem scWordAt : FnScope ["text", "at", "end"] ["text", "at"] (defScope sWordAt) := ⟨rfl, rfl, rfl, by decide +kernel, rfl, by decide +kernel, by decide +kernel⟩
theorem ok_wordAt (F : Fun K "word_at" "word_at" sWordAt f fd) (Gs : FnOk P w K mg base CX0 1 g gd ["sign"] spSmall) (bGs : Binds K gd ["sign"] []) (kGs : PySem.W.keepIn K (.ref g) = true) (mGs : mg "is_small" = some (.ref g)) (ml : mg "len" = none) :
    FnOk P w K mg base CX0 2 f fd ["text", "at"] spWordAt := by
  refine F.ok scWordAt (fun vs H Q E h => ?_) (fun cdv A outer s H vs Q E hr h => ?_)
  · obtain ⟨z, n, a, rest, rfl, _⟩ := h; rfl
  obtain ⟨z, n, a, rest, rfl, ⟨hz, hn, hd⟩, hs, hst, q⟩ := h
  have hrs := hr
  refine ⟨_, @pss_cons _ _ _ _ _ (by exact ps_set (i := 2) scWordAt.nd rfl (Or.inl rfl) (pv 1))
    (@pss_cons _ _ _ _ _ (by exact ps_while PassesOwn.never (PW.pt (pw_and (pt_cmpR op_lt (pv 2) (pe_callB call_len_str rfl ml PySem.boot_len (pa_cons (pv 0) pa_nil)) (nomark _)) (pw_and1 (pt_val (pe_call Gs hrs rfl mGs kGs bGs .nil pass0 (pa_cons (pe_ix ix_str (pv 0) (pv 2) (fun _ _ => rfl)) pa_nil)))))) (@pss_one _ _ _ (by exact ps_aug (i := 2) scWordAt.nd rfl (Or.inl rfl) pe_int ip_add)))
    (@pss_one _ _ _ (by exact @ps_ret _ _ _ _ (@pe_tup _ _ _ _ _ (pa_cons (pe_slice sl_str (pv 0) (po_some (pv 1)) (po_some (pv 2))) (pa_cons (pv 2) pa_nil)))))), ?_⟩
  have hl : z.cps.toList.length = z.length := (len_l z).symm
  have htot : n + a.length + rest.length = z.length := by
    have := congrArg List.length hd
    rw [List.length_drop, List.length_append] at this
    omega
  refine ⟨_, rfl, ?_⟩
  refine ⟨fun m σ H' => ∃ j : Nat, m + j = a.length ∧ σ = [some (.str z), some (.int (n : Int)), some (.int ((n + j : Nat) : Int))] ∧ H' = H, ⟨a.length, 0, by omega, rfl, rfl⟩, ?_⟩
  rintro m σ H' ⟨j, hj, rfl, rfl⟩
  have sgn : ∀ c, z.cps.toList[n + j]? = some c → atI z.cps.toList ((n + j : Nat) : Int) = some c := fun c h => atI_nat h
  have fin : (j = a.length) → ∃ T : Prop, T := fun _ => ⟨True, trivial⟩
  refine ⟨_, rfl, _, rfl, z, rfl, small5 hz.1, _, _, rfl, rfl, _, rfl, ite2 (fun h => ?_) (fun h => ?_)⟩
  · have hlt : n + j < z.length := by have := of_decide_eq_true h; omega
    by_cases hja : j < a.length
    · have hc : z.cps.toList[n + j]? = some a[j] := by
        have : (z.cps.toList.drop n)[j]? = some a[j] := by rw [hd, List.getElem?_append_left hja, List.getElem?_eq_getElem hja]
        rw [List.getElem?_drop] at this
        exact this
      refine ⟨_, rfl, _, rfl, z, _, a[j], rfl, rfl, small5 hz.1, atI_nat hc, a[j], rfl, _, rfl, ?_⟩
      have sm : smallC a[j] = true := List.all_eq_true.mp hs _ (List.getElem_mem hja)
      rw [sm]
      refine iteT ⟨fun σ' H2 => ∃ m', m' < m ∧ ∃ j : Nat, m' + j = a.length ∧ σ' = [some (.str z), some (.int (n : Int)), some (.int ((n + j : Nat) : Int))] ∧ H2 = H', fun σ' H2 z => z, _, rfl, _, _, rfl, rfl, m - 1, by omega, j + 1, by omega, rfl, rfl⟩
    · have hja : j = a.length := by omega
      have hc : ∃ c r, rest = c :: r ∧ smallC c = false := by
        cases rest with
        | nil => simp only [List.length_nil] at htot; omega
        | cons c r => exact ⟨c, r, rfl, hst⟩
      obtain ⟨c, r, rfl, sc⟩ := hc
      have hc : z.cps.toList[n + j]? = some c := by
        have : (z.cps.toList.drop n)[j]? = some c := by rw [hd, List.getElem?_append_right (by omega), hja, Nat.sub_self]; rfl
        rw [List.getElem?_drop] at this
        exact this
      refine ⟨_, rfl, _, rfl, z, _, c, rfl, rfl, small5 hz.1, atI_nat hc, c, rfl, _, rfl, ?_⟩
      rw [sc]
      refine iteF ⟨_, rfl, _, rfl, n, rfl, _, rfl, _, rfl, z, rfl, small5 hz.1, _, rfl, small5 (by show 2 ≤ 5000; decide), fun p hp => ?_⟩
      have e : Txt.slice z (some (n : Int)) (some ((n + j : Nat) : Int)) = mkS a := by
        apply strX
        rw [slice_nat hn (by omega), mkS_l, hd, hja, Nat.add_sub_cancel_left, List.take_left]
      rw [e, hja]
      exact q p hp
  · have hge : ¬ n + j < z.length := fun z => h (decide_eq_true (by omega))
    have hja : j = a.length := by omega
    refine ⟨_, rfl, _, rfl, n, rfl, _, rfl, _, rfl, z, rfl, small5 hz.1, _, rfl, small5 (by show 2 ≤ 5000; decide), fun p hp => ?_⟩
    have e : Txt.slice z (some (n : Int)) (some ((n + j : Nat) : Int)) = mkS a := by
      apply strX
      rw [slice_nat hn (by omega), mkS_l, hd, hja, Nat.add_sub_cancel_left, List.take_left]
    rw [e, hja]
    exact q p hp
theorem scNameAt : FnScope ["text", "at", "word", "end"] ["text", "at"] (defScope sNameAt) := ⟨rfl, rfl, rfl, by decide +kernel, rfl, by decide +kernel, by decide +kernel⟩
theorem ok_nameAt (F : Fun K "name_at" "name_at" sNameAt f fd) (MkNT : MkX0 K C) (mNT : mg "NoText" = some (.ref C)) (Gw : FnOk P w K mg base CX0 2 g gd ["text", "at"] spWordAt) (bGw : Binds K gd ["text", "at"] []) (kGw : PySem.W.keepIn K (.ref g) = true) (mGw : mg "word_at" = some (.ref g))
    (Gn : FnOk P w K mg base CX0 3 e ed ["text"] spName) (bGn : Binds K ed ["text"] []) (kGn : PySem.W.keepIn K (.ref e) = true) (mGn : mg "is_name" = some (.ref e)) :
    FnOk P w K mg base (CXK P w) 4 f fd ["text", "at"] (spNameAt C) := by
  refine F.okX scNameAt (fun vs H Q E h => ?_) (fun cdv A outer s H vs Q E hr h => ?_)
  · obtain ⟨z, n, a, rest, rfl, _⟩ := h; rfl
  obtain ⟨z, n, a, rest, rfl, hW, ha, hst, q1, q2⟩ := h
  have hrw := hr.mono (show 2 ≤ 3 by decide)
  have hrn := hr
  refine ⟨_, @pss_cons _ _ _ _ _ (by exact PS.nox (by exact ps_asg (pe_call Gw hrw rfl mGw kGw bGw .nil pass0 (pa_cons (pv 0) (pa_cons (pv 1) pa_nil))) (pg_tup rfl (pgs_cons (pg_name (i := 2) scNameAt.nd rfl (Or.inl rfl)) (pgs_cons (pg_name (i := 3) scNameAt.nd rfl (Or.inl rfl)) pgs_nil)))))
    (@pss_cons _ _ _ _ _ (by exact ps_if (pt_not (pt_val (pe_call Gn hrn rfl mGn kGn bGn .nil pass0 (pa_cons (pv 2) pa_nil)))) (@pss_one _ _ _ (by exact ps_raise0 rfl xe_cx MkNT rfl mNT (pa_cons (pe_fstr (pf_str pe_str (pf_int (pv 1) pf_nil))) pa_nil))) pss_nil)
    (@pss_one _ _ _ (by exact PS.nox (by exact @ps_ret _ _ _ _ (@pe_tup _ _ _ _ _ (pa_cons (pv 2) (pa_cons (pv 3) pa_nil))))))), ?_⟩
  have hl := hW.len
  have hz := hW.1.1
  refine ⟨_, rfl, _, rfl, z, n, a, rest, rfl, hW, ha, hst, fun p hp => ?_⟩
  refine ⟨p, _, rfl, SqT.of upd_same, rfl, _, _, rfl, _, _, rfl, rfl, ?_⟩
  refine ⟨_, rfl, mkS a, rfl, by rw [mkS_len]; omega, fun H2 s2 => ⟨_, rfl, ?_⟩⟩
  have s02 := (same_new hp (.tup [.str (mkS a), .int ((n + a.length : Nat) : Int)])).trans s2
  cases c : nameB (mkS a) with
  | true => exact iteF ⟨_, rfl, _, rfl, small5 (by show 2 ≤ 5000; decide), fun p2 hp2 => q1 c p2 _ (s02.trans (same_new hp2 _)) upd_same⟩
  | false =>
    have l1 : (Str.ofString "no name at place ").length ≤ 100 := by decide +kernel
    obtain ⟨i1, i2⟩ := int_txt (i := (n : Int)) (by omega)
    have b1 := app_le e_le l1
    have b2 := app_le b1 i2
    exact iteT ⟨_, rfl, fits6 l1 (by decide), fits6 b1 (by decide), _, rfl, _, rfl, i1, fits6 b2 (by decide), fits6 b2 (by decide), small5 (by show 1 ≤ 5000; decide), q2 c _ s02⟩
theorem scKWordAt : FnScope ["text", "at", "word", "end"] ["text", "at"] (defScope sKWordAt) := ⟨rfl, rfl, rfl, by decide +kernel, rfl, by decide +kernel, by decide +kernel⟩
theorem ok_kWordAt {aW : Addr} (F : Fun K "kind_word_at" "kind_word_at" sKWordAt f fd) (Gw : FnOk P w K mg base CX0 2 g gd ["text", "at"] spWordAt) (bGw : Binds K gd ["text", "at"] []) (kGw : PySem.W.keepIn K (.ref g) = true) (mGw : mg "word_at" = some (.ref g))
    (Gna : FnOk P w K mg base (CXK P w) 4 e ed ["text", "at"] (spNameAt C)) (bGna : Binds K ed ["text", "at"] []) (kGna : PySem.W.keepIn K (.ref e) = true) (mGna : mg "name_at" = some (.ref e)) (mW : mg "WHOLES" = some (.ref aW)) (hWh : ∀ H, SqT K H aW [.str "anything", .str "nothing"]) :
    FnOk P w K mg base (CXK P w) 5 f fd ["text", "at"] (spKWordAt C) := by
  refine F.okX scKWordAt (fun vs H Q E h => ?_) (fun cdv A outer s H vs Q E hr h => ?_)
  · obtain ⟨z, n, a, rest, rfl, _⟩ := h; rfl
  obtain ⟨z, n, a, rest, rfl, hW, ha, hst, q1, q2⟩ := h
  have hrw := hr.mono (show 2 ≤ 4 by decide)
  have hrna := hr
  refine ⟨_, @pss_cons _ _ _ _ _ (by exact PS.nox (by exact ps_asg (pe_call Gw hrw rfl mGw kGw bGw .nil pass0 (pa_cons (pv 0) (pa_cons (pv 1) pa_nil))) (pg_tup rfl (pgs_cons (pg_name (i := 2) scKWordAt.nd rfl (Or.inl rfl)) (pgs_cons (pg_name (i := 3) scKWordAt.nd rfl (Or.inl rfl)) pgs_nil)))))
    (@pss_cons _ _ _ _ _ (by exact PS.nox (by exact ps_if (pt_cmpR op_in_seq (pv 2) (pe_glob (v := .ref aW) rfl mW rfl) rfl) (@pss_one _ _ _ (by exact PS.nox (by exact @ps_ret _ _ _ _ (@pe_tup _ _ _ _ _ (pa_cons (pv 2) (pa_cons (pv 3) pa_nil)))))) pss_nil))
    (@pss_one _ _ _ (by exact @ps_ret _ _ _ _ (pe_call Gna hrna rfl mGna kGna bGna .nil pass_cx (pa_cons (pv 0) (pa_cons (pv 1) pa_nil)))))), ?_⟩
  refine ⟨_, rfl, _, rfl, z, n, a, rest, rfl, hW, ha, hst, fun p hp => ?_⟩
  have s1 := same_new hp (.tup [.str (mkS a), .int ((n + a.length : Nat) : Int)])
  refine ⟨p, _, rfl, SqT.of upd_same, rfl, _, _, rfl, _, _, rfl, rfl, ?_⟩
  refine ⟨_, rfl, aW, _, rfl, .inr (hWh _), rfl, flat_whole, _, rfl, ?_⟩
  show if inV (.str (mkS a)) [V.str "anything", V.str "nothing"] = true then _ else _
  rw [in_whole]
  refine ite2 (fun h => ?_) (fun h => ?_)
  · exact ⟨_, rfl, _, rfl, small5 (by show 2 ≤ 5000; decide), fun p2 hp2 => q1 (by unfold wordB; rw [h]; rfl) p2 _ (s1.trans (same_new hp2 _)) upd_same⟩
  · have hw : wordB (mkS a) = nameB (mkS a) := by unfold wordB; rw [Bool.eq_false_iff.mpr h]; rfl
    exact ⟨_, rfl, _, rfl, z, n, a, rest, rfl, hW, ha, hst, fun hn p2 H2 s2 e2 => q1 (hw.trans hn) p2 H2 (s1.trans s2) e2, fun hn H2 s2 => q2 (hw.trans hn) H2 (s1.trans s2)⟩
end
end K12
namespace K12
open PySem L2
def spKindAt (C : Addr) (m : Nat) : Sp := fun vs H Q E => ∃ (z : Str) (n : Nat), vs = [.str z, .int (n : Int)] ∧ txt z ∧ n ≤ z.length ∧ (z.cps.toList.drop n).count 40 < m ∧
  (∀ k r, Pk (z.cps.toList.drop n) k r → ∀ p H' v, Same H H' → H' p = some (.tup [v, .int ((n + (wrL k).length : Nat) : Int)]) → IsK H' k v → Q (.ref p) H') ∧
  ((∀ k r, ¬ Pk (z.cps.toList.drop n) k r) → ∀ H', Same H H' → E (.ref C) none H')
theorem mk_both : mkS WB = "both" := strX (by rw [mkS_l, lit_both]; rfl)
theorem mk_some : mkS WS = "some" := strX (by rw [mkS_l, lit_some]; rfl)
theorem mk_inj {a b : List Nat} (h : mkS a = mkS b) : a = b := by rw [← mkS_l a, h, mkS_l]
theorem at_drop' {l : List Nat} {n : Nat} {r : List Nat} (h : l.drop n = r) (c : Nat) : l[n]? = some c ↔ ∃ r', r = c :: r' := by
  constructor
  · intro e
    obtain ⟨hn, e'⟩ := List.getElem?_eq_some_iff.mp e
    exact ⟨l.drop (n + 1), by rw [← h, List.drop_eq_getElem_cons hn, e']⟩
  · rintro ⟨r', rfl⟩
    exact at_drop h
theorem drop_one {l : List Nat} {n c : Nat} {r : List Nat} (h : l.drop n = c :: r) : l.drop (n + 1) = r := drop_app (a := [c]) h
theorem drop_le {l : List Nat} {n c : Nat} {r : List Nat} (h : l.drop n = c :: r) : n + 1 ≤ l.length := by
  have := congrArg List.length h
  rw [List.length_drop, List.length_cons] at this
  omega
section
variable {P : Program} {w : World} {K : PySem.W.Frag} {mg : Str → Option Value} {base : Heap} {f g e a1 a2 a3 a4 a5 C : Addr} {fd gd ed d1 d2 d3 d4 d5 : FuncData}
theorem scKindAt : FnScope ["text", "at", "head", "end", "first", "second"] ["text", "at"] (defScope sKindAt) := ⟨rfl, rfl, rfl, by decide +kernel, rfl, by decide +kernel, by decide +kernel⟩
theorem ok_kindAt {m k0 : Nat} (hk0 : 5 ≤ k0) (F : Fun K "kind_at" "kind_at" sKindAt f fd) (MkNT : MkX0 K C) (mNT : mg "NoText" = some (.ref C)) (Gka : FnOk P w K mg base (CXK P w) k0 f fd ["text", "at"] (spKindAt C m)) (bGka : Binds K fd ["text", "at"] []) (mGka : mg "kind_at" = some (.ref f))
    (Gw : FnOk P w K mg base CX0 2 a1 d1 ["text", "at"] spWordAt) (bGw : Binds K d1 ["text", "at"] []) (kGw : PySem.W.keepIn K (.ref a1) = true) (mGw : mg "word_at" = some (.ref a1))
    (Gna : FnOk P w K mg base (CXK P w) 4 a2 d2 ["text", "at"] (spNameAt C)) (bGna : Binds K d2 ["text", "at"] []) (kGna : PySem.W.keepIn K (.ref a2) = true) (mGna : mg "name_at" = some (.ref a2))
    (Gkw : FnOk P w K mg base (CXK P w) 5 a3 d3 ["text", "at"] (spKWordAt C)) (bGkw : Binds K d3 ["text", "at"] []) (kGkw : PySem.W.keepIn K (.ref a3) = true) (mGkw : mg "kind_word_at" = some (.ref a3))
    (Gbe : FnOk P w K mg base (CXK P w) 1 a4 d4 ["text", "at", "sign"] (spBehind C)) (bGbe : Binds K d4 ["text", "at", "sign"] []) (kGbe : PySem.W.keepIn K (.ref a4) = true) (mGbe : mg "behind" = some (.ref a4)) :
    FnOk P w K mg base (CXK P w) (k0 + 1) f fd ["text", "at"] (spKindAt C (m + 1)) := by
  refine F.okX scKindAt (fun vs H Q E h => ?_) (fun cdv A outer s H vs Q E hr h => ?_)
  · obtain ⟨z, n, rfl, _⟩ := h; rfl
  obtain ⟨z, n, rfl, hz, hn, hc, q1, q2⟩ := h
  have kGka := F.kp
  have hrka := hr
  have hrw := hr.mono (show 2 ≤ k0 by omega)
  have hrna := hr.mono (show 4 ≤ k0 by omega)
  have hrkw := hr.mono hk0
  have hrbe := hr.mono (show 1 ≤ k0 by omega)
  refine ⟨_, @pss_cons _ _ _ _ _ (by exact ps_if (pt_cmpR op_ne (pe_slice sl_str (pv 0) (po_some (pv 1)) (po_some (pe_op op_add (pv 1) pe_int))) pe_str (nomark _)) (@pss_one _ _ _ (by exact @ps_ret _ _ _ _ (pe_call Gkw hrkw rfl mGkw kGkw bGkw .nil pass_cx (pa_cons (pv 0) (pa_cons (pv 1) pa_nil))))) pss_nil)
    (@pss_cons _ _ _ _ _ (by exact PS.nox (by exact ps_asg (pe_call Gw hrw rfl mGw kGw bGw .nil pass0 (pa_cons (pv 0) (pa_cons (pe_op op_add (pv 1) pe_int) pa_nil))) (pg_tup rfl (pgs_cons (pg_name (i := 2) scKindAt.nd rfl (Or.inl rfl)) (pgs_cons (pg_name (i := 3) scKindAt.nd rfl (Or.inl rfl)) pgs_nil)))))
    (@pss_cons _ _ _ _ _ (by exact ps_set (i := 3) scKindAt.nd rfl (Or.inl rfl) (pe_call Gbe hrbe rfl mGbe kGbe bGbe .nil pass_cx (pa_cons (pv 0) (pa_cons (pv 3) (pa_cons pe_str pa_nil)))))
    (@pss_mid _ _ _ _ _ (by exact ps_if (pt_cmpR op_eq (pv 2) pe_str (nomark _)) (@pss_one _ _ _ (by exact ps_asg (pe_call Gka hrka rfl mGka kGka bGka .nil pass_cx (pa_cons (pv 0) (pa_cons (pv 3) pa_nil))) (pg_tup rfl (pgs_cons (pg_name (i := 4) scKindAt.nd rfl (Or.inl rfl)) (pgs_cons (pg_name (i := 3) scKindAt.nd rfl (Or.inl rfl)) pgs_nil))))) (@pss_one _ _ _ (by exact ps_if (pt_cmpR op_eq (pv 2) pe_str (nomark _)) (@pss_one _ _ _ (by exact ps_asg (pe_call Gna hrna rfl mGna kGna bGna .nil pass_cx (pa_cons (pv 0) (pa_cons (pv 3) pa_nil))) (pg_tup rfl (pgs_cons (pg_name (i := 4) scKindAt.nd rfl (Or.inl rfl)) (pgs_cons (pg_name (i := 3) scKindAt.nd rfl (Or.inl rfl)) pgs_nil))))) (@pss_one _ _ _ (by exact ps_raise0 rfl xe_cx MkNT rfl mNT (pa_cons (pe_fstr (pf_str pe_str (pf_int (pe_op op_add (pv 1) pe_int) pf_nil))) pa_nil))))))
    (@pss_cons _ _ _ _ _ (by exact ps_asg (pe_call Gka hrka rfl mGka kGka bGka .nil pass_cx (pa_cons (pv 0) (pa_cons (pe_call Gbe hrbe rfl mGbe kGbe bGbe .nil pass_cx (pa_cons (pv 0) (pa_cons (pv 3) (pa_cons pe_str pa_nil)))) pa_nil))) (pg_tup rfl (pgs_cons (pg_name (i := 5) scKindAt.nd rfl (Or.inl rfl)) (pgs_cons (pg_name (i := 3) scKindAt.nd rfl (Or.inl rfl)) pgs_nil))))
    (@pss_one _ _ _ (by exact @ps_ret _ _ _ _ (@pe_tup _ _ _ _ _ (@pa_consN _ _ _ _ _ (@pe_tup _ _ _ _ _ (pa_cons (pv 2) (pa_cons (pv 4) (pa_cons (pv 5) pa_nil)))) (@pa_consN _ _ _ _ _ (pe_call Gbe hrbe rfl mGbe kGbe bGbe .nil pass_cx (pa_cons (pv 0) (pa_cons (pv 3) (pa_cons pe_str pa_nil)))) pa_nil rfl) rfl)))))))), ?_⟩
  have zl := len_l z
  refine ⟨_, rfl, _, rfl, n, rfl, _, rfl, _, _, rfl, rfl, _, rfl, z, rfl, small5 hz.1, rfl, _, rfl, ?_⟩
  rw [← one_40, slice_at]
  by_cases c40 : z.cps.toList[n]? = some 40
  rotate_left
  · rw [decide_eq_false c40]
    obtain ⟨a, rest, e, ha, hst⟩ := span_ex (z.cps.toList.drop n)
    have h40 : ∀ t, z.cps.toList.drop n ≠ 40 :: t := fun t e => c40 (at_drop e)
    have wa : wrL (.nm (mkS a)) = a := mkS_l a
    exact iteT ⟨_, rfl, _, rfl, z, n, a, rest, rfl, ⟨hz, hn, e⟩, ha, hst, fun hw p H' s' e' => q1 (.nm (mkS a)) rest ⟨by rw [wa]; exact e, word_ok hw, fun _ => hst⟩ p H' _ s' (by rw [wa]; exact e') rfl, fun hw H' s' => q2 (fun k r pk => by rw [(pk_word e ha hst h40 pk).2.2] at hw; cases hw) H' s'⟩
  rw [decide_eq_true c40]
  obtain ⟨t, et⟩ := (at_drop' rfl 40).mp c40
  obtain ⟨h, r1, e, hh, hst⟩ := span_ex t
  have n1 := drop_le et
  have et1 := drop_one et
  rw [e] at et1
  have et2 := drop_app et1
  have hW1 : WAt z (n + 1) h r1 := ⟨hz, by omega, et1⟩
  have len1 := hW1.len
  have l5 := hz.1
  rw [et, e] at q1 q2 hc
  refine iteF ⟨_, rfl, _, rfl, _, _, rfl, rfl, z, n + 1, h, r1, rfl, hW1, hh, hst, fun p hp => ?_⟩
  have s1 := same_new hp (.tup [.str (mkS h), .int ((n + 1 + h.length : Nat) : Int)])
  refine ⟨p, _, rfl, SqT.of upd_same, rfl, _, _, rfl, _, _, rfl, rfl, ?_⟩
  generalize upd H p (.tup [.str (mkS h), .int ((n + 1 + h.length : Nat) : Int)]) = H1 at s1 ⊢
  refine ⟨_, rfl, _, rfl, z, n + 1 + h.length, 32, (by rw [one_32]; rfl), hz, by omega, by decide, fun c32 => ?_, fun no => q2 (fun k r pk => ?_) _ s1⟩
  rotate_left
  · obtain ⟨r2, e2, _⟩ := pk_head rfl hh hst pk
    exact no ((at_drop' et2 32).mpr ⟨r2, e2⟩)
  obtain ⟨r2, rfl⟩ := (at_drop' et2 32).mp c32
  have n2 := drop_le et2
  have et3 := drop_one et2
  have hc2 : r2.count 40 < m := by
    rw [List.count_cons_self, List.count_append, List.count_cons_of_ne (by decide)] at hc
    omega
  refine ⟨fun σ H' => ∃ (v1 : V) (w1 r3 : List Nat), σ = [some (.str z), some (.int (n : Int)), some (.str (mkS h)), some (.int ((n + 1 + h.length + 1 + w1.length : Nat) : Int)), some v1, none] ∧ Same H1 H' ∧ r2 = w1 ++ r3 ∧
    ((h = WB ∧ ∃ a, Pk r2 a r3 ∧ IsK H' a v1 ∧ w1 = wrL a) ∨ (h = WS ∧ ∃ x : Str, stops r3 ∧ nameB x = true ∧ v1 = .str x ∧ w1 = x.cps.toList)), ?_, ?_⟩
  · refine ⟨_, rfl, rfl, _, rfl, ?_⟩
    by_cases cb : h = WB
    · rw [decide_eq_true (show V.str (mkS h) = V.str "both" by rw [cb, mk_both])]
      refine iteT ⟨_, rfl, _, rfl, z, n + 1 + h.length + 1, rfl, hz, by omega, by rw [et3]; exact hc2, fun k r pk p2 H2 v s2 e2 ik => ?_, fun no H2 s2 => q2 (fun k r pk => ?_) H2 (s1.trans s2)⟩
      · rw [et3] at pk
        exact ⟨p2, _, rfl, SqT.of e2, rfl, _, _, rfl, _, _, rfl, rfl, v, wrL k, r, rfl, s2, pk.1, .inl ⟨cb, k, pk, ik, rfl⟩⟩
      · obtain ⟨r2', e2, ⟨_, a, b, r4, _, p1, _⟩ | ⟨z2, _⟩⟩ := pk_head rfl hh hst pk
        · cases e2
          rw [et3] at no
          exact no _ _ p1
        · rw [cb] at z2; exact absurd z2 (by decide)
    · rw [decide_eq_false (fun z2 : V.str (mkS h) = V.str "both" => cb (mk_inj (by rw [mk_both]; injection z2)))]
      refine iteF ⟨_, rfl, rfl, _, rfl, ?_⟩
      by_cases cs : h = WS
      · rw [decide_eq_true (show V.str (mkS h) = V.str "some" by rw [cs, mk_some])]
        obtain ⟨x, r3, ex, hx, hs3⟩ := span_ex r2
        refine iteT ⟨_, rfl, _, rfl, z, n + 1 + h.length + 1, x, r3, rfl, ⟨hz, by omega, by rw [et3]; exact ex⟩, hx, hs3, fun hnm p2 H2 s2 e2 => ?_, fun hnm H2 s2 => q2 (fun k r pk => ?_) H2 (s1.trans s2)⟩
        · exact ⟨p2, _, rfl, SqT.of e2, rfl, _, _, rfl, _, _, rfl, rfl, _, x, r3, rfl, s2, ex, .inr ⟨cs, mkS x, hs3, hnm, rfl, (mkS_l x).symm⟩⟩
        · obtain ⟨r2', e2, ⟨z2, _⟩ | ⟨_, x', c, r4, _, p1, nx, _⟩⟩ := pk_head rfl hh hst pk
          · rw [cs] at z2; exact absurd z2 (by decide)
          · cases e2
            obtain ⟨e3, _⟩ := span_uniq (ex.symm.trans p1) hx (name_len nx).2.2.1 hs3 (stops32 _)
            rw [e3, mkS_of, nx] at hnm
            cases hnm
      · rw [decide_eq_false (fun z2 : V.str (mkS h) = V.str "some" => cs (mk_inj (by rw [mk_some]; injection z2)))]
        have l1 : (Str.ofString "neither both nor some at place ").length ≤ 100 := by decide +kernel
        obtain ⟨i1, i2⟩ := int_txt (i := (n : Int) + 1) (by omega)
        have b1 := app_le e_le l1
        have b2 := app_le b1 i2
        refine iteF ⟨_, rfl, fits6 l1 (by decide), fits6 b1 (by decide), _, rfl, _, _, rfl, rfl, _, rfl, i1, fits6 b2 (by decide), fits6 b2 (by decide), small5 (by show 1 ≤ 5000; decide), q2 (fun k r pk => ?_) _ s1⟩
        obtain ⟨r2', e2, ⟨z2, _⟩ | ⟨z2, _⟩⟩ := pk_head rfl hh hst pk
        · exact cb z2
        · exact cs z2
  rintro σ H2 ⟨v1, w1, r3, rfl, s2, e3, hor⟩
  have et4 : z.cps.toList.drop (n + 1 + h.length + 1 + w1.length) = r3 := drop_app (et3.trans e3)
  have len3 : n + 1 + h.length + 1 + w1.length + r3.length = z.length := by
    have := congrArg List.length e3
    rw [List.length_append] at this
    rw [List.length_cons] at len1
    omega
  have s02 := s1.trans s2
  have only : ∀ k r, Pk (40 :: (h ++ 32 :: r2)) k r → ∃ r4, r3 = 32 :: r4 ∧ ∃ b, Pk r4 b (41 :: r) := fun k r pk => by
    obtain ⟨r2', e2, ⟨z2, a, b, r4, _, p1, p2⟩ | ⟨z2, x', c, r4, _, p1, nx, p2⟩⟩ := pk_head rfl hh hst pk
    · cases e2
      rcases hor with ⟨_, a', pa, _⟩ | ⟨z3, _⟩
      · exact ⟨r4, (pk_uniq pa p1).2, b, p2⟩
      · rw [z2] at z3; exact absurd z3 (by decide)
    · cases e2
      rcases hor with ⟨z3, _⟩ | ⟨_, x, hs3, nx2, _, ew⟩
      · rw [z2] at z3; exact absurd z3 (by decide)
      · rw [ew] at e3
        exact ⟨r4, (span_uniq (e3.symm.trans p1) (name_len nx2).2.2.1 (name_len nx).2.2.1 hs3 (stops32 _)).2, c, p2⟩
  refine ⟨_, rfl, _, rfl, _, rfl, z, n + 1 + h.length + 1 + w1.length, 32, (by rw [one_32]; rfl), hz, by omega, by decide, fun c32 => ?_, fun no => q2 (fun k r pk => ?_) _ s02⟩
  rotate_left
  · obtain ⟨r4, e4, _⟩ := only k r pk
    exact no ((at_drop' et4 32).mpr ⟨r4, e4⟩)
  obtain ⟨r4, rfl⟩ := (at_drop' et4 32).mp c32
  have n4 := drop_le et4
  have et5 := drop_one et4
  have hc4 : r4.count 40 < m := by
    rw [e3, List.count_append, List.count_cons_of_ne (by decide)] at hc2
    omega
  refine ⟨z, n + 1 + h.length + 1 + w1.length + 1, rfl, hz, by omega, by rw [et5]; exact hc4, fun k2 r5 pk2 p3 H3 v2 s3 e5 ik2 => ?_, fun no H3 s3 => q2 (fun k r pk => ?_) H3 (s02.trans s3)⟩
  rotate_left
  · obtain ⟨r4', e4, b, pb⟩ := only k r pk
    cases e4
    rw [et5] at no
    exact no _ _ pb
  rw [et5] at pk2
  have s03 := s02.trans s3
  have et6 : z.cps.toList.drop (n + 1 + h.length + 1 + w1.length + 1 + (wrL k2).length) = r5 := drop_app (et5.trans pk2.1)
  have len5 : n + 1 + h.length + 1 + w1.length + 1 + (wrL k2).length + r5.length = z.length := by
    have := congrArg List.length pk2.1
    rw [List.length_append] at this
    rw [List.length_cons] at len3
    omega
  refine ⟨p3, _, rfl, SqT.of e5, rfl, _, _, rfl, _, _, rfl, rfl, ?_⟩
  refine ⟨_, rfl, _, rfl, _, rfl, small5 (by show 3 ≤ 5000; decide), fun t1 ht1 => ?_⟩
  have s4 := same_new ht1 (.tup [.str (mkS h), v1, v2])
  refine ⟨_, rfl, _, rfl, z, n + 1 + h.length + 1 + w1.length + 1 + (wrL k2).length, 41, (by rw [one_41]; rfl), hz, by omega, by decide, fun c41 => ?_, fun no => q2 (fun k r pk => ?_) _ (s03.trans s4)⟩
  rotate_left
  · obtain ⟨r4', e4, b, pb⟩ := only k r pk
    cases e4
    exact no ((at_drop' et6 41).mpr ⟨r, (pk_uniq pk2 pb).2⟩)
  obtain ⟨r6, rfl⟩ := (at_drop' et6 41).mp c41
  refine ⟨small5 (by show 2 ≤ 5000; decide), fun t2 ht2 => ?_⟩
  have s5 := same_new ht2 (.tup [.ref t1, .int ((n + 1 + h.length + 1 + w1.length + 1 + (wrL k2).length + 1 : Nat) : Int)])
  have ik2' := (ik2.mono s4.tups).mono s5.tups
  have e1' := s5 _ _ (show upd H3 t1 (.tup [.str (mkS h), v1, v2]) t1 = _ from upd_same)
  rcases hor with ⟨rfl, a, pa, ia, rfl⟩ | ⟨rfl, x, hs3, nx, rfl, rfl⟩
  · refine q1 (.two a k2) r6 (pk_two pa pk2) t2 _ (.ref t1) ((s03.trans s4).trans s5) ?_ ⟨t1, v1, v2, rfl, by rw [e1', mk_both], (ia.mono s3.tups).mono (s4.trans s5).tups, ik2'⟩
    have : n + (wrL (.two a k2)).length = n + 1 + WB.length + 1 + (wrL a).length + 1 + (wrL k2).length + 1 := by simp [wrL, WB]; omega
    rw [this]; exact upd_same
  · refine q1 (.som x k2) r6 (pk_som e3 nx pk2) t2 _ (.ref t1) ((s03.trans s4).trans s5) ?_ ⟨t1, v2, rfl, by rw [e1', mk_some], ik2'⟩
    have : n + (wrL (.som x k2)).length = n + 1 + WS.length + 1 + x.cps.toList.length + 1 + (wrL k2).length + 1 := by simp [wrL, WS]; omega
    rw [this]; exact upd_same
theorem kindAt_none : FnOk P w K mg base (CXK P w) 5 f fd ["text", "at"] (spKindAt C 0) := by
  have no : ∀ vs H Q E, ¬ spKindAt C 0 vs H Q E := fun vs H Q E h => by
    obtain ⟨z, n, _, _, _, h, _⟩ := h
    omega
  exact ⟨fun vs H Q E h => absurd h (no vs H Q E), fun A outer s H args us vs Q E _ _ _ _ h => absurd h (no vs H Q E)⟩
theorem kindAt_all (F : Fun K "kind_at" "kind_at" sKindAt f fd) (MkNT : MkX0 K C) (mNT : mg "NoText" = some (.ref C)) (bGka : Binds K fd ["text", "at"] []) (mGka : mg "kind_at" = some (.ref f))
    (Gw : FnOk P w K mg base CX0 2 a1 d1 ["text", "at"] spWordAt) (bGw : Binds K d1 ["text", "at"] []) (kGw : PySem.W.keepIn K (.ref a1) = true) (mGw : mg "word_at" = some (.ref a1))
    (Gna : FnOk P w K mg base (CXK P w) 4 a2 d2 ["text", "at"] (spNameAt C)) (bGna : Binds K d2 ["text", "at"] []) (kGna : PySem.W.keepIn K (.ref a2) = true) (mGna : mg "name_at" = some (.ref a2))
    (Gkw : FnOk P w K mg base (CXK P w) 5 a3 d3 ["text", "at"] (spKWordAt C)) (bGkw : Binds K d3 ["text", "at"] []) (kGkw : PySem.W.keepIn K (.ref a3) = true) (mGkw : mg "kind_word_at" = some (.ref a3))
    (Gbe : FnOk P w K mg base (CXK P w) 1 a4 d4 ["text", "at", "sign"] (spBehind C)) (bGbe : Binds K d4 ["text", "at", "sign"] []) (kGbe : PySem.W.keepIn K (.ref a4) = true) (mGbe : mg "behind" = some (.ref a4)) : ∀ m : Nat, FnOk P w K mg base (CXK P w) (5 + m) f fd ["text", "at"] (spKindAt C m)
  | 0 => kindAt_none
  | m + 1 => ok_kindAt (k0 := 5 + m) (Nat.le_add_right 5 m) F MkNT mNT (kindAt_all F MkNT mNT bGka mGka Gw bGw kGw mGw Gna bGna kGna mGna Gkw bGkw kGkw mGkw Gbe bGbe kGbe mGbe m) bGka mGka Gw bGw kGw mGw Gna bGna kGna mGna Gkw bGkw kGkw mGkw Gbe bGbe kGbe mGbe
end
def spRead (C : Addr) : Sp := fun vs H Q E => ∃ z : Str, vs = [.str z] ∧ txt z ∧ (∀ k, kindL z.cps.toList = some k → ∀ H' v, Same H H' → IsK H' k v → Q v H') ∧ (kindL z.cps.toList = none → ∀ H', Same H H' → E (.ref C) none H')
theorem kindL_none {l : List Nat} (h : ∀ k, okK k → k.nt ≤ 24 → l ≠ wrL k) : kindL l = none := by
  cases e : kindL l with
  | none => rfl
  | some k => obtain ⟨a, b, c⟩ := kindL_iff.mp e; exact absurd c (h k a b)
section
variable {P : Program} {w : World} {K : PySem.W.Frag} {mg : Str → Option Value} {base : Heap} {f g e a1 a2 a3 a4 a5 C : Addr} {fd gd ed d1 d2 d3 d4 d5 : FuncData}
theorem scRead : FnScope ["text", "kind", "end"] ["text"] (defScope sRead) := ⟨rfl, rfl, rfl, by decide +kernel, rfl, by decide +kernel, by decide +kernel⟩
theorem ok_read {tk : Tok} (F : Fun K "read_kind" "read_kind" sRead f fd) (MkNT : MkX0 K C) (mNT : mg "NoText" = some (.ref C)) (Gka : FnOk P w K mg base (CXK P w) 30 g gd ["text", "at"] (spKindAt C 25)) (bGka : Binds K gd ["text", "at"] []) (kGka : PySem.W.keepIn K (.ref g) = true) (mGka : mg "kind_at" = some (.ref g)) (ml : mg "len" = none) (mMT : mg "MOST_TUPLES" = some (.int 24 tk)) :
    FnOk P w K mg base (CXK P w) 31 f fd ["text"] (spRead C) := by
  refine F.okX scRead (fun vs H Q E h => ?_) (fun cdv A outer s H vs Q E hr h => ?_)
  · obtain ⟨z, rfl, _⟩ := h; rfl
  obtain ⟨z, rfl, hz, q1, q2⟩ := h
  have hrka := hr
  refine ⟨_, @pss_cons _ _ _ _ _ (by exact ps_if (pt_cmpR op_gt (pe_bm PySem.F.plainAttrs_str PySem.F.slot_str_count PySem.F.type_str_count mt_count (pv 0) (pa_cons pe_str pa_nil)) (pe_glob (v := .int 24) rfl mMT ⟨_, rfl⟩) (nomark _)) (@pss_one _ _ _ (by exact ps_raise0 rfl xe_cx MkNT rfl mNT (pa_cons pe_str pa_nil))) pss_nil)
    (@pss_cons _ _ _ _ _ (by exact ps_asg (pe_call Gka hrka rfl mGka kGka bGka .nil pass_cx (pa_cons (pv 0) (pa_cons pe_int pa_nil))) (pg_tup rfl (pgs_cons (pg_name (i := 1) scRead.nd rfl (Or.inl rfl)) (pgs_cons (pg_name (i := 2) scRead.nd rfl (Or.inl rfl)) pgs_nil))))
    (@pss_cons _ _ _ _ _ (by exact ps_if (pt_cmpR op_ne (pv 2) (pe_callB call_len_str rfl ml PySem.boot_len (pa_cons (pv 0) pa_nil)) (nomark _)) (@pss_one _ _ _ (by exact ps_raise0 rfl xe_cx MkNT rfl mNT (pa_cons (pe_fstr (pf_str pe_str (pf_int (pv 2) pf_nil))) pa_nil))) pss_nil)
    (@pss_one _ _ _ (by exact PS.nox (by exact @ps_ret _ _ _ _ (pv 1)))))), ?_⟩
  have ce : Txt.count z (Str.ofString "(") = (z.cps.toList.count 40 : Int) := by rw [← one_40]; exact count_eq z 40
  refine ⟨_, rfl, rfl, z, _, rfl, rfl, _, _, rfl, rfl, _, rfl, ?_⟩
  rw [ce]
  refine ite2 (fun c => ?_) (fun c => ?_)
  · have c' : (24 : Int) < (z.cps.toList.count 40 : Int) := of_decide_eq_true c
    exact ⟨small5 (by show 1 ≤ 5000; decide), q2 (by unfold kindL; rw [if_pos (by omega)]) H (Same.refl H)⟩
  · have c' : ¬ (24 : Int) < (z.cps.toList.count 40 : Int) := fun h => c (decide_eq_true h)
    have zl := len_l z
    have l5 := hz.1
    refine ⟨_, rfl, z, 0, rfl, hz, Nat.zero_le _, by rw [List.drop_zero]; omega, fun k r pk p H' v s' e' ik => ?_, fun no H' s' => q2 (kindL_none fun k ok hn e => no k [] ⟨by rw [List.drop_zero, e, List.append_nil], ok, fun _ => trivial⟩) H' s'⟩
    rw [List.drop_zero] at pk
    have el := congrArg List.length pk.1
    rw [List.length_append, ← zl] at el
    refine ⟨p, _, rfl, SqT.of e', rfl, _, _, rfl, _, _, rfl, rfl, ?_⟩
    refine ⟨_, rfl, _, rfl, z, rfl, small5 hz.1, rfl, _, rfl, ?_⟩
    by_cases cr : r = []
    · subst cr
      rw [decide_eq_true (show V.int ((0 + (wrL k).length : Nat) : Int) = V.int (z.length : Int) by rw [el, List.length_nil, Nat.zero_add, Nat.add_zero])]
      have ez : z.cps.toList = wrL k := by rw [pk.1, List.append_nil]
      have nt : k.nt ≤ 24 := by rw [← wr_count pk.2.1, ← ez]; omega
      exact iteF ⟨_, rfl, q1 k (kindL_iff.mpr ⟨pk.2.1, nt, ez⟩) H' v s' ik⟩
    · have rl : 0 < r.length := List.length_pos_iff.mpr cr
      rw [decide_eq_false (fun e : V.int ((0 + (wrL k).length : Nat) : Int) = V.int (z.length : Int) => by injection e with e; omega)]
      have l1 : (Str.ofString "something behind the kind at place ").length ≤ 100 := by decide +kernel
      obtain ⟨i1, i2⟩ := int_txt (i := ((0 + (wrL k).length : Nat) : Int)) (by omega)
      have b1 := app_le e_le l1
      have b2 := app_le b1 i2
      refine iteT ⟨_, rfl, fits6 l1 (by decide), fits6 b1 (by decide), _, rfl, _, rfl, i1, fits6 b2 (by decide), fits6 b2 (by decide), small5 (by show 1 ≤ 5000; decide), q2 (kindL_none fun k' ok hn e => ?_) _ s'⟩
      exact cr (pk_uniq pk (show Pk z.cps.toList k' [] from ⟨by rw [e, List.append_nil], ok, fun _ => trivial⟩)).2
end
end K12
namespace K12
open PySem L2
theorem part_list {z y : Str} (hy : 0 < y.length) : (Txt.partition z y = (z, Str.empty, Str.empty) ∧ ∀ h r, z.cps.toList ≠ h ++ (y.cps.toList ++ r)) ∨
    ∃ h r, z.cps.toList = h ++ (y.cps.toList ++ r) ∧ Txt.partition z y = (mkS h, y, mkS r) := by
  rcases part_cases z y hy with ⟨e, no⟩ | ⟨i, hi, hn⟩
  · refine .inl ⟨e, fun h r ez => no h.length ((at_iff z y _ hy).mpr ⟨r, by rw [ez, List.drop_left]⟩)⟩
  · obtain ⟨r, hr⟩ := (at_iff z y i hy).mp hi
    have il : i ≤ z.cps.toList.length := by
      rcases Nat.lt_or_ge z.cps.toList.length i with c | c
      · rw [List.drop_of_length_le (Nat.le_of_lt c)] at hr
        have := congrArg List.length hr
        rw [List.length_append, ← len_l y] at this
        simp at this
        omega
      · exact c
    have ez : z.cps.toList = z.cps.toList.take i ++ (y.cps.toList ++ r) := by rw [← hr, List.take_append_drop]
    refine .inr ⟨_, r, ez, part_at' hy ez fun k hk ⟨t, e⟩ => ?_⟩
    rw [List.length_take] at hk
    exact hn k (by omega) ((at_iff z y k hy).mpr ⟨t, e⟩)
theorem txt_sub {z y : Str} (h : txt z) (hl : y.length ≤ z.length) (hs : ∀ c ∈ y.cps.toList, c ∈ z.cps.toList) : txt y := ⟨Nat.le_trans hl h.1, fun c hc => h.2 c (hs c hc)⟩
theorem txt_pre {z : Str} {h r : List Nat} (t : txt z) (e : z.cps.toList = h ++ r) : txt (mkS h) ∧ txt (mkS r) := by
  have l := len_l z
  rw [e, List.length_append] at l
  exact ⟨txt_sub t (by rw [mkS_len]; omega) (fun c hc => by rw [mkS_l] at hc; rw [e]; exact List.mem_append_left _ hc), txt_sub t (by rw [mkS_len]; omega) (fun c hc => by rw [mkS_l] at hc; rw [e]; exact List.mem_append_right _ hc)⟩
theorem txt_e : txt Str.empty := ⟨by decide, fun c hc => by rw [lit_e] at hc; exact (List.not_mem_nil hc).elim⟩
theorem kindL_e : kindL [] = none := kindL_none fun k ok _ e => by
  have := wr_pos ok
  rw [← e] at this
  simp at this
def BIS : List Nat := [32, 105, 115, 32]
def spReadTie (C : Addr) : Sp := fun vs H Q E => ∃ z : Str, vs = [.str z] ∧ txt z ∧ (nameB z = true → ∀ H', Same H H' → Q (.str z) H') ∧ (nameB z = false → ∀ H', Same H H' → E (.ref C) none H')
def KdsL (z : Str) (c d : Kd) : Prop := okK c ∧ c.nt ≤ 24 ∧ okK d ∧ d.nt ≤ 24 ∧ z.cps.toList = wrL c ++ (BIS ++ wrL d)
def spRKinds (C : Addr) : Sp := fun vs H Q E => ∃ (fm z : Str), vs = [.str fm, .str z] ∧ txt z ∧ (∀ c d, KdsL z c d → ∀ H' v, Same H H' → IsS H' [.nm fm, c, d] v → Q v H') ∧ ((∀ c d, ¬ KdsL z c d) → ∀ H', Same H H' → E (.ref C) none H')
section
variable {P : Program} {w : World} {K : PySem.W.Frag} {mg : Str → Option Value} {base : Heap} {f g e a1 a2 a3 a4 a5 C : Addr} {fd gd ed d1 d2 d3 d4 d5 : FuncData}
theorem scReadTie : FnScope ["word"] ["word"] (defScope sReadTie) := ⟨rfl, rfl, rfl, by decide +kernel, rfl, by decide +kernel, by decide +kernel⟩
theorem ok_readTie (F : Fun K "read_tie" "read_tie" sReadTie f fd) (MkNT : MkX0 K C) (mNT : mg "NoText" = some (.ref C)) (Gn : FnOk P w K mg base CX0 3 e ed ["text"] spName) (bGn : Binds K ed ["text"] []) (kGn : PySem.W.keepIn K (.ref e) = true) (mGn : mg "is_name" = some (.ref e)) :
    FnOk P w K mg base (CXK P w) 4 f fd ["word"] (spReadTie C) := by
  refine F.okX scReadTie (fun vs H Q E h => ?_) (fun cdv A outer s H vs Q E hr h => ?_)
  · obtain ⟨z, rfl, _⟩ := h; rfl
  obtain ⟨z, rfl, hz, q1, q2⟩ := h
  have hrn := hr
  refine ⟨_, @pss_cons _ _ _ _ _ (by exact ps_if (pt_not (pt_val (pe_call Gn hrn rfl mGn kGn bGn .nil pass0 (pa_cons (pv 0) pa_nil)))) (@pss_one _ _ _ (by exact ps_raise0 rfl xe_cx MkNT rfl mNT (pa_cons (pe_fstr (pf_repr (pv 0) (pf_str pe_str pf_nil))) pa_nil))) pss_nil)
    (@pss_one _ _ _ (by exact PS.nox (by exact @ps_ret _ _ _ _ (pv 0)))), ?_⟩
  refine ⟨_, rfl, z, rfl, hz.1, fun H' s' => ⟨_, rfl, ?_⟩⟩
  cases c : nameB z with
  | true => exact iteF ⟨_, rfl, q1 c H' s'⟩
  | false =>
    have l1 : (Str.ofString " is no tie's name").length ≤ 100 := by decide +kernel
    have b1 := app_le e_le (repr_le hz)
    have b2 := app_le b1 l1
    exact iteT ⟨_, rfl, _, rfl, fits6 (repr_le hz) (by decide), fits6 b1 (by decide), _, rfl, fits6 l1 (by decide), fits6 b2 (by decide), fits6 b2 (by decide), small5 (by show 1 ≤ 5000; decide), q2 c _ s'⟩
theorem scRKinds : FnScope ["form", "rest", "first", "link", "second"] ["form", "rest"] (defScope sRKinds) := ⟨rfl, rfl, rfl, by decide +kernel, rfl, by decide +kernel, by decide +kernel⟩
theorem ok_rkinds (F : Fun K "read_of_kinds" "read_of_kinds" sRKinds f fd) (Grk : FnOk P w K mg base (CXK P w) 31 e ed ["text"] (spRead C)) (bGrk : Binds K ed ["text"] []) (kGrk : PySem.W.keepIn K (.ref e) = true) (mGrk : mg "read_kind" = some (.ref e)) :
    FnOk P w K mg base (CXK P w) 32 f fd ["form", "rest"] (spRKinds C) := by
  refine F.okX scRKinds (fun vs H Q E h => ?_) (fun cdv A outer s H vs Q E hr h => ?_)
  · obtain ⟨fm, z, rfl, _⟩ := h; rfl
  obtain ⟨fm, z, rfl, hz, q1, q2⟩ := h
  have hrrk := hr
  refine ⟨_, @pss_cons _ _ _ _ _ (by exact PS.nox (by exact ps_asg (pe_bm PySem.F.plainAttrs_str PySem.F.slot_str_partition PySem.F.type_str_partition mt_partition (pv 1) (pa_cons pe_str pa_nil)) (pg_tup rfl (pgs_cons (pg_name (i := 2) scRKinds.nd rfl (Or.inl rfl)) (pgs_cons (pg_name (i := 3) scRKinds.nd rfl (Or.inl rfl)) (pgs_cons (pg_name (i := 4) scRKinds.nd rfl (Or.inl rfl)) pgs_nil))))))
    (@pss_one _ _ _ (by exact @ps_ret _ _ _ _ (@pe_tup _ _ _ _ _ (pa_cons (pv 0) (pa_cons (pe_call Grk hrrk rfl mGrk kGrk bGrk .nil pass_cx (pa_cons (pv 2) pa_nil)) (pa_cons (pe_call Grk hrrk rfl mGrk kGrk bGrk .nil pass_cx (pa_cons (pv 4) pa_nil)) pa_nil)))))), ?_⟩
  refine ⟨_, rfl, rfl, _, _, rfl, rfl, by decide +kernel, small5 hz.1, fun p hp => ?_⟩
  have sp := fun xs => same_new hp (.tup xs)
  refine ⟨p, _, rfl, SqT.of upd_same, rfl, _, _, rfl, _, _, rfl, _, _, rfl, rfl, ?_⟩
  generalize hH : upd H p (.tup [.str (Txt.partition z (Str.ofString " is ")).1, .str (Txt.partition z (Str.ofString " is ")).2.1, .str (Txt.partition z (Str.ofString " is ")).2.2]) = H0
  have s0 : Same H H0 := hH ▸ same_new hp _
  refine ⟨_, rfl, _, rfl, _, rfl, ?_⟩
  rcases part_list (z := z) (y := Str.ofString " is ") (by decide +kernel) with ⟨e, no⟩ | ⟨h, r, ez, e⟩
  · rw [e]
    have none' : ∀ c d, ¬ KdsL z c d := fun c d k => no (wrL c) (wrL d) (by rw [lit_is]; exact k.2.2.2.2)
    refine ⟨hz, fun k _ H1 v1 s1 _ => ⟨_, rfl, _, rfl, txt_e, fun k' e' => ?_, fun _ H2 s2 => q2 none' H2 ((s0.trans s1).trans s2)⟩, fun _ H1 s1 => q2 none' H1 (s0.trans s1)⟩
    rw [lit_e, kindL_e] at e'
    cases e'
  · rw [e]
    rw [lit_is] at ez
    have te := txt_pre hz ez
    have tr := (txt_pre (z := mkS (BIS ++ r)) te.2 (by rw [mkS_l])).2
    have only : ∀ c d, KdsL z c d → mkS h = wrS c ∧ mkS r = wrS d := fun c d k => by
      have := part_is k.1 (z := z) (r := wrL d) k.2.2.2.2
      rw [e] at this
      injection this with a1 a2
      injection a2 with _ a3
      exact ⟨a1, a3⟩
    refine ⟨te.1, fun c kc H1 v1 s1 i1 => ⟨_, rfl, _, rfl, tr, fun d kd H2 v2 s2 i2 => ⟨small5 (by show 3 ≤ 5000; decide), fun p3 hp3 => ?_⟩, fun kn H2 s2 => q2 (fun c d k => ?_) H2 ((s0.trans s1).trans s2)⟩, fun kn H1 s1 => q2 (fun c d k => ?_) H1 (s0.trans s1)⟩
    · rw [mkS_l] at kc kd
      obtain ⟨oc, nc, ec⟩ := kindL_iff.mp kc
      obtain ⟨od, nd, ed⟩ := kindL_iff.mp kd
      have s3 := same_new hp3 (.tup [.str fm, v1, v2])
      exact q1 c d ⟨oc, nc, od, nd, by rw [ez, ec, ed]; rfl⟩ _ _ (((s0.trans s1).trans s2).trans s3) ⟨p3, _, rfl, upd_same, .cons rfl (.cons (IsK.mono (s2.tups.trans s3.tups) i1) (.cons (IsK.mono s3.tups i2) .nil))⟩
    · rw [(only c d k).2, wrS, mkS_l, kindL_iff.mpr ⟨k.2.2.1, k.2.2.2.1, rfl⟩] at kn
      cases kn
    · rw [(only c d k).1, wrS, mkS_l, kindL_iff.mpr ⟨k.1, k.2.1, rfl⟩] at kn
      cases kn
end
end K12
namespace K12
open PySem L2
def jn : List (List Nat) → List Nat
  | [] => []
  | [p] => p
  | p :: q :: r => p ++ 32 :: jn (q :: r)
theorem jn_str : ∀ ps : List (List Nat), (Str.join ⟨#[32]⟩ (ps.map mkS)).cps.toList = jn ps
  | [] => rfl
  | [p] => mkS_l p
  | p :: q :: r => by
    show (mkS p ++ ⟨#[32]⟩ ++ Str.join ⟨#[32]⟩ ((q :: r).map mkS)).cps.toList = _
    rw [app_l, app_l, mkS_l, jn_str (q :: r)]
    simp [jn]
theorem jn_splitB : ∀ l : List Nat, jn (splitB l) = l
  | [] => rfl
  | c :: l => by
    have ih := jn_splitB l
    rw [splitB]
    by_cases h : c = 32
    · rw [if_pos h]
      cases e : splitB l with
      | nil => exact absurd e (splitB_ne l)
      | cons q r =>
        rw [e] at ih
        show [] ++ 32 :: jn (q :: r) = _
        rw [ih, h]; rfl
    · rw [if_neg h]
      cases e : splitB l with
      | nil => exact absurd e (splitB_ne l)
      | cons q r =>
        rw [e] at ih
        cases r with
        | nil => show c :: q = _; rw [show q = l from ih]
        | cons q2 r2 => show c :: q ++ 32 :: jn (q2 :: r2) = _; rw [← ih]; rfl
theorem split_B (z : Str) : Txt.split z (Str.ofString " ") = (splitB z.cps.toList).map mkS := by
  have e : z = Str.join ⟨#[32]⟩ ((splitB z.cps.toList).map mkS) := strX (by rw [jn_str, jn_splitB])
  have := split_join (c := 32) (ps := (splitB z.cps.toList).map mkS) (by simp [splitB_ne]) (fun p hp => by
    obtain ⟨q, hq, rfl⟩ := List.mem_map.mp hp
    rw [mkS_l]
    exact splitB_no _ q hq)
  rw [← e] at this
  rw [one_32]
  exact this
theorem splitB_len (l : List Nat) : (splitB l).length ≤ l.length + 1 := by
  induction l with
  | nil => simp [splitB]
  | cons c r ih =>
    rw [splitB]
    split
    · simp only [List.length_cons]; omega
    · cases e : splitB r with
      | nil => simp
      | cons q qs => rw [e] at ih; simp only [List.length_cons] at ih ⊢; omega
theorem splitB_mem {l : List Nat} {p : List Nat} (h : p ∈ splitB l) : ∀ c ∈ p, c ∈ l := by
  induction l generalizing p with
  | nil => simp [splitB] at h; subst h; simp
  | cons c r ih =>
    rw [splitB] at h
    split at h
    · rcases List.mem_cons.mp h with rfl | h
      · simp
      · exact fun d hd => List.mem_cons_of_mem _ (ih h d hd)
    · cases e : splitB r with
      | nil => exact absurd e (splitB_ne r)
      | cons q qs =>
        rw [e] at h ih
        rcases List.mem_cons.mp h with rfl | h
        · intro d hd
          rcases List.mem_cons.mp hd with rfl | hd
          · exact List.mem_cons_self
          · exact List.mem_cons_of_mem _ (ih List.mem_cons_self d hd)
        · exact fun d hd => List.mem_cons_of_mem _ (ih (List.mem_cons_of_mem _ h) d hd)
theorem splitB_short {l : List Nat} {p : List Nat} (h : p ∈ splitB l) : p.length ≤ l.length := by
  induction l generalizing p with
  | nil => simp [splitB] at h; subst h; simp
  | cons c r ih =>
    rw [splitB] at h
    split at h
    · rcases List.mem_cons.mp h with rfl | h
      · simp
      · have := ih h; rw [List.length_cons]; omega
    · cases e : splitB r with
      | nil => exact absurd e (splitB_ne r)
      | cons q qs =>
        rw [e] at h ih
        rcases List.mem_cons.mp h with rfl | h
        · have := ih List.mem_cons_self; rw [List.length_cons, List.length_cons]; omega
        · have := ih (List.mem_cons_of_mem _ h); rw [List.length_cons]; omega
theorem txt_piece {z : Str} (h : txt z) {p : List Nat} (hp : p ∈ splitB z.cps.toList) : txt (mkS p) := txt_sub h (by rw [mkS_len, len_l]; exact splitB_short hp) (fun c hc => by rw [mkS_l] at hc; exact splitB_mem hp c hc)
theorem starts_iff {z y : Str} (hy : 0 < y.length) : Txt.startswith z y = true ↔ ∃ t, z.cps.toList = y.cps.toList ++ t := by
  have := at_iff z y 0 hy
  rw [List.drop_zero] at this
  rw [← this]
  unfold Txt.startswith StrLaws.At
  simp
theorem lit_isb : (Str.ofString "is ").cps.toList = [105, 115, 32] := by decide +kernel
theorem slice3 (z : Str) (h : 3 ≤ z.length) : (Txt.slice z (some 3) none).cps.toList = z.cps.toList.drop 3 := by
  have e : (3 : Int) = ((3 : Nat) : Int) := rfl
  rw [slice_cps, e, sIx_nat h, HT.sIx_none]
  exact List.take_of_length_le (by rw [List.length_drop, ← len_l]; omega)
def ThgL (z : Str) (c : Kd) : Prop := okK c ∧ c.nt ≤ 24 ∧ z.cps.toList = [105, 115, 32] ++ wrL c
def TidL (z r b : Str) : Prop := nameB r = true ∧ thingB b = true ∧ z.cps.toList = r.cps.toList ++ 32 :: b.cps.toList
theorem TidL.split {z r b : Str} (h : TidL z r b) : splitB z.cps.toList = [r.cps.toList, b.cps.toList] := by
  rw [h.2.2, splitB_app, splitB_one (name_no32 h.1), splitB_one (thing_no32 h.2.1)]; rfl
theorem TidL.no {z r b : Str} (h : TidL z r b) (t : List Nat) : z.cps.toList ≠ [105, 115, 32] ++ t := fun e => by
  have := (app_sep (c := 32) (a := r.cps.toList) (b := [105, 115]) (r := b.cps.toList) (t := t) (name_no32 h.1) (by simp) (by rw [← h.2.2, e]; rfl)).1
  exact word_is (.inr h.1) this
def spRThing (C : Addr) : Sp := fun vs H Q E => ∃ (a z : Str), vs = [.str a, .str z] ∧ txt a ∧ txt z ∧ (∀ c, ThgL z c → ∀ H' v, Same H H' → IsS H' [.nm "thing", .nm a, c] v → Q v H') ∧
  (∀ r b, TidL z r b → ∀ H' v, Same H H' → IsS H' [.nm "tied", .nm a, .nm r, .nm b] v → Q v H') ∧ ((∀ c, ¬ ThgL z c) → (∀ r b, ¬ TidL z r b) → ∀ H', Same H H' → E (.ref C) none H')
section
variable {P : Program} {w : World} {K : PySem.W.Frag} {mg : Str → Option Value} {base : Heap} {f g e a1 a2 a3 a4 a5 C : Addr} {fd gd ed d1 d2 d3 d4 d5 : FuncData}
theorem scRThing : FnScope ["thing", "rest", "words"] ["thing", "rest"] (defScope sRThing) := ⟨rfl, rfl, rfl, by decide +kernel, rfl, by decide +kernel, by decide +kernel⟩
theorem ok_rthing (F : Fun K "read_of_thing" "read_of_thing" sRThing f fd) (MkNT : MkX0 K C) (mNT : mg "NoText" = some (.ref C)) (ml : mg "len" = none) (Grk : FnOk P w K mg base (CXK P w) 31 a1 d1 ["text"] (spRead C)) (bGrk : Binds K d1 ["text"] []) (kGrk : PySem.W.keepIn K (.ref a1) = true) (mGrk : mg "read_kind" = some (.ref a1))
    (Gt : FnOk P w K mg base CX0 3 a2 d2 ["text"] spThing) (bGt : Binds K d2 ["text"] []) (kGt : PySem.W.keepIn K (.ref a2) = true) (mGt : mg "is_thing" = some (.ref a2))
    (Grt : FnOk P w K mg base (CXK P w) 4 a3 d3 ["word"] (spReadTie C)) (bGrt : Binds K d3 ["word"] []) (kGrt : PySem.W.keepIn K (.ref a3) = true) (mGrt : mg "read_tie" = some (.ref a3)) :
    FnOk P w K mg base (CXK P w) 32 f fd ["thing", "rest"] (spRThing C) := by
  refine F.okX scRThing (fun vs H Q E h => ?_) (fun cdv A outer s H vs Q E hr h => ?_)
  · obtain ⟨a, z, rfl, _⟩ := h; rfl
  obtain ⟨a, z, rfl, ha, hz, q1, q2, q3⟩ := h
  have hrrk := hr
  have hrt := hr.mono (show 3 ≤ 31 by decide)
  have hrrt := hr.mono (show 4 ≤ 31 by decide)
  refine ⟨_, @pss_cons _ _ _ _ _ (by exact ps_if (pt_val (pe_bm PySem.F.plainAttrs_str PySem.F.slot_str_startswith PySem.F.type_str_startswith mt_startswith (pv 1) (pa_cons pe_str pa_nil))) (@pss_one _ _ _ (by exact @ps_ret _ _ _ _ (@pe_tup _ _ _ _ _ (pa_cons pe_str (pa_cons (pv 0) (pa_cons (pe_call Grk hrrk rfl mGrk kGrk bGrk .nil pass_cx (pa_cons (pe_slice sl_str (pv 1) (po_some pe_int) po_none) pa_nil)) pa_nil)))))) pss_nil)
    (@pss_cons _ _ _ _ _ (by exact PS.nox (by exact ps_set (i := 2) scRThing.nd rfl (Or.inl rfl) (pe_bm PySem.F.plainAttrs_str PySem.F.slot_str_split PySem.F.type_str_split mt_split5 (pv 1) (pa_cons pe_str pa_nil))))
    (@pss_cons _ _ _ _ _ (by exact ps_if (PW.pt (pw_or (pt_cmpR op_ne (pe_callB call_len_seq rfl ml PySem.boot_len (pa_cons (pv 2) pa_nil)) pe_int (nomark _)) (pw_or1 (pt_not (pt_val (pe_call Gt hrt rfl mGt kGt bGt .nil pass0 (pa_cons (pe_ix ix_list (pv 2) pe_int (fun _ _ => rfl)) pa_nil))))))) (@pss_one _ _ _ (by exact ps_raise0 rfl xe_cx MkNT rfl mNT (pa_cons (pe_fstr (pf_str pe_str (pf_val (pv 0) pf_nil))) pa_nil))) pss_nil)
    (@pss_one _ _ _ (by exact @ps_ret _ _ _ _ (@pe_tup _ _ _ _ _ (pa_cons pe_str (pa_cons (pv 0) (pa_cons (pe_call Grt hrrt rfl mGrt kGrt bGrt .nil pass_cx (pa_cons (pe_ix ix_list (pv 2) pe_int (fun _ _ => rfl)) pa_nil)) (pa_cons (pe_ix ix_list (pv 2) pe_int (fun _ _ => rfl)) pa_nil))))))))), ?_⟩
  refine ⟨_, rfl, rfl, _, _, rfl, rfl, _, rfl, ?_⟩
  have st := starts_iff (z := z) (y := Str.ofString "is ") (by decide +kernel)
  rw [lit_isb] at st
  by_cases cs : ∃ t, z.cps.toList = [105, 115, 32] ++ t
  · rw [st.mpr cs]
    obtain ⟨t, et⟩ := cs
    have zl := len_l z
    rw [et, List.length_append] at zl
    have z3 : 3 ≤ z.length := by rw [zl]; show 3 ≤ 3 + _; omega
    have sl : Txt.slice z (some 3) none = mkS t := strX (by rw [slice3 z z3, mkS_l, et]; rfl)
    refine iteT ⟨_, rfl, _, rfl, 3, rfl, _, rfl, small5 hz.1, ?_⟩
    rw [sl]
    refine ⟨_, rfl, (txt_pre hz et).2, fun c kc H1 v1 s1 i1 => ⟨small5 (by show 3 ≤ 5000; decide), fun p hp => ?_⟩, fun kn H1 s1 => q3 (fun c k => ?_) (fun r b k => k.no t et) H1 s1⟩
    · rw [mkS_l] at kc
      obtain ⟨oc, nc, ec⟩ := kindL_iff.mp kc
      have s2 := same_new hp (.tup [.str "thing", .str a, v1])
      exact q1 c ⟨oc, nc, by rw [et, ec]⟩ _ _ (s1.trans s2) ⟨p, _, rfl, upd_same, .cons rfl (.cons rfl (.cons (IsK.mono s2.tups i1) .nil))⟩
    · have : t = wrL c := List.append_cancel_left (et.symm.trans k.2.2)
      rw [mkS_l, this, kindL_iff.mpr ⟨k.1, k.2.1, rfl⟩] at kn
      cases kn
  · have sf : Txt.startswith z (Str.ofString "is ") = false := Bool.eq_false_iff.mpr fun h => cs (st.mp h)
    rw [sf]
    have no1 : ∀ c, ¬ ThgL z c := fun c k => cs ⟨_, k.2.2⟩
    refine iteF ⟨_, rfl, rfl, _, _, rfl, rfl, by decide +kernel, hz.1, fun p hp => ?_⟩
    rw [split_B]
    have s0 := same_new hp (.lst (((splitB z.cps.toList).map mkS).map V.str))
    have l1 : (Str.ofString "neither a kind nor a tied thing behind ").length ≤ 100 := by decide +kernel
    have b1 := app_le e_le l1
    have b2 := app_le b1 ha.1
    have raise : ∀ {H' : Hp}, (∀ r b, ¬ TidL z r b) → Same H H' → ∃ y, V.str (Str.ofString "neither a kind nor a tied thing behind ") = V.str y ∧ True := fun _ _ => ⟨_, rfl, trivial⟩
    have el : (((splitB z.cps.toList).map mkS).map V.str).length = (splitB z.cps.toList).length := by rw [List.length_map, List.length_map]
    refine ⟨_, rfl, p, _, rfl, .inl (SqL.of upd_same), rfl, _, rfl, ?_⟩
    rw [el]
    by_cases c2 : ∃ x y, splitB z.cps.toList = [x, y]
    · obtain ⟨x, y, exy⟩ := c2
      rw [exy] at s0 ⊢
      rw [show (([x, y] : List (List Nat)).length : Int) = 2 from rfl, decide_eq_true (show V.int 2 = V.int 2 from rfl)]
      have ty := txt_piece hz (p := y) (by rw [exy]; simp)
      have tx := txt_piece hz (p := x) (by rw [exy]; simp)
      have ez : z.cps.toList = x ++ 32 :: y := by rw [← jn_splitB z.cps.toList, exy]; rfl
      have n32 : 32 ∉ x := splitB_no z.cps.toList x (by rw [exy]; simp)
      refine iteF ⟨_, rfl, p, _, 1, _, rfl, rfl, SqL.of upd_same, atI_nat (j := 1) rfl, mkS y, rfl, ty.1, fun H1 s1 => ⟨_, rfl, ?_⟩⟩
      have ep1 := s1 _ _ (upd_same (H := H) (a := p) (o := .lst [.str (mkS x), .str (mkS y)]))
      have s01 := s0.trans s1
      cases cy : thingB (mkS y) with
      | false =>
        refine iteT ⟨_, rfl, fits6 l1 (by decide), fits6 b1 (by decide), _, rfl, _, rfl, small5 ha.1, fits6 b2 (by decide), fits6 b2 (by decide), small5 (by show 1 ≤ 5000; decide), q3 no1 (fun r b k => ?_) _ s01⟩
        have := k.split
        rw [exy] at this
        have e2 : y = b.cps.toList := (List.cons.inj (List.cons.inj this).2).1
        rw [e2, mkS_of, k.2.1] at cy
        cases cy
      | true =>
        refine iteF ⟨_, rfl, _, rfl, p, _, 0, _, rfl, rfl, SqL.of ep1, atI_nat (j := 0) rfl, mkS x, rfl, tx, fun nx H2 s2 => ⟨_, rfl, p, _, 1, _, rfl, rfl, SqL.of (s2 _ _ ep1), atI_nat (j := 1) rfl, small5 (by show 4 ≤ 5000; decide), fun t ht => ?_⟩, fun nx H2 s2 => q3 no1 (fun r b k => ?_) H2 (s01.trans s2)⟩
        · exact q2 (mkS x) (mkS y) ⟨nx, cy, by rw [mkS_l, mkS_l]; exact ez⟩ _ _ ((s01.trans s2).trans (same_new ht _)) ⟨t, _, rfl, upd_same, .cons rfl (.cons rfl (.cons rfl (.cons rfl .nil)))⟩
        · have := k.split
          rw [exy] at this
          rw [(List.cons.inj this).1, mkS_of, k.1] at nx
          cases nx
    · have ne : ¬ V.int ((splitB z.cps.toList).length : Int) = V.int 2 := fun e => by
        injection e with e
        have : (splitB z.cps.toList).length = 2 := by omega
        match h : splitB z.cps.toList, this with
        | [x, y], _ => exact c2 ⟨x, y, h⟩
      rw [decide_eq_false ne]
      exact iteT (iteT ⟨_, rfl, fits6 l1 (by decide), fits6 b1 (by decide), _, rfl, _, rfl, small5 ha.1, fits6 b2 (by decide), fits6 b2 (by decide), small5 (by show 1 ≤ 5000; decide), q3 no1 (fun r b k => c2 ⟨_, _, k.split⟩) _ s0⟩)
end
end K12
namespace L2
open PySem PySem.Spec PyProof.Rows
section
variable {X : Cx}
def rRstrip : V → List V → Hp → VK → Prop := fun x vs H Q => ∃ z y, x = .str z ∧ vs = [.str y] ∧ z.length ≤ sizeLine ∧ Q (.str (Txt.rstripChars z y)) H
theorem mt_rstrip : MtR X "str.rstrip" rRstrip := by
  intro pins s σ H x xs v us Q I rx rs h
  obtain ⟨z, y, rfl, rfl, hz, q⟩ := h
  obtain ⟨t, rfl⟩ := rx
  obtain ⟨u, rfl, ru⟩ := rs.one
  obtain ⟨t', rfl⟩ := ru
  exact SC.rstripChars (fun t2 k => ⟨.str (Txt.rstripChars z y), H, I.tok _, ⟨_, rfl⟩, q⟩) hz
end
theorem rstrip_list (z : Str) (c : Nat) : (Txt.rstripChars z ⟨#[c]⟩).cps.toList = (z.cps.toList.reverse.dropWhile (· == c)).reverse := by
  unfold Txt.rstripChars
  rw [stripBy_eq, StrLaws.strSub_toList]
  show (z.cps.toList.drop 0).take ((z.length - ((z.cps.toList.drop 0).reverse.takeWhile _).length) - 0) = _
  rw [List.drop_zero, Nat.sub_zero]
  have eg : (fun x : Nat => (#[c] : Array Nat).contains x) = (· == c) := by
    funext x
    by_cases h : x = c
    · subst h; simp
    · have h1 : (x == c) = false := beq_eq_false_iff_ne.mpr h
      rw [h1]; simp [h]
  have e2 : ((⟨#[c]⟩ : Str).cps.contains) = (· == c) := eg
  rw [e2]
  have hl : z.length = z.cps.toList.length := by simp [Str.length]
  have h := congrArg List.reverse (List.takeWhile_append_dropWhile (p := (· == c)) (l := z.cps.toList.reverse))
  rw [List.reverse_append, List.reverse_reverse] at h
  have e3 : z.length - (z.cps.toList.reverse.takeWhile (· == c)).length = (z.cps.toList.reverse.dropWhile (· == c)).reverse.length := by
    have := congrArg List.length h
    rw [List.length_append, List.length_reverse, List.length_reverse] at this
    rw [List.length_reverse, hl]
    omega
  rw [e3]
  have h2 := congrArg (List.take (z.cps.toList.reverse.dropWhile (· == c)).reverse.length) h
  rw [List.take_left' rfl] at h2
  exact h2.symm
end L2
namespace K12
open PySem L2
def spLSmall : Sp := fun vs H Q _ => ∃ z : Str, vs = [.str z] ∧ Q (.bl (z.cps.toList.all smallC)) H
section
variable {P : Program} {w : World} {K : PySem.W.Frag} {mg : Str → Option Value} {base : Heap} {f g e a1 a2 a3 a4 a5 C : Addr} {fd gd ed d1 d2 d3 d4 d5 : FuncData}
theorem scLSmall : FnScope ["_law_text", "_law_sign"] ["_law_text"] (defScope sLSmall) := ⟨rfl, rfl, rfl, by decide +kernel, rfl, by decide +kernel, by decide +kernel⟩
theorem ok_lsmall (F : Fun K "_law_small" "_law_small" sLSmall f fd) : FnOk P w K mg base CX0 1 f fd ["_law_text"] spLSmall := by
  refine F.ok scLSmall (fun vs H Q E h => ?_) (fun cdv A outer s H vs Q E hr h => ?_)
  · obtain ⟨z, rfl, _⟩ := h; rfl
  obtain ⟨z, rfl, q⟩ := h
  refine ⟨_, @pss_cons _ _ _ _ _ (by exact ps_for PassesOwn.never rfl (pi_str (pv 0)) (pg_name (i := 1) scLSmall.nd rfl (Or.inl rfl)) (@pss_one _ _ _ (by exact ps_if (pt_cmpR op_notIn_str (pv 1) pe_str rfl) (@pss_one _ _ _ (by exact @ps_ret _ _ _ _ pe_bl)) pss_nil)))
    (@pss_one _ _ _ (by exact @ps_ret _ _ _ _ pe_bl)), ?_⟩
  refine ⟨_, rfl, z, rfl, for_str (fun i σ H' => H' = H ∧ (∃ o, σ = [some (.str z), o]) ∧ (z.cps.toList.take i).all smallC = true) ⟨rfl, ⟨_, rfl⟩, rfl⟩ ?_ ?_⟩
  · rintro i c σ H' hc ⟨rfl, ⟨o, rfl⟩, ha⟩
    refine ⟨_, rfl, _, _, rfl, rfl, _, rfl, ?_⟩
    show if (!(!(Builtin.Str.occurrences az ⟨#[c]⟩ 0 az.length 1).isEmpty)) = true then _ else _
    rw [StrLaws.found_one az c, az_small]
    have hc' : z.cps.toList[i]? = some c := by simpa using hc
    cases sm : smallC c with
    | false =>
      have e2 : z.cps.toList.all smallC = false := by
        rw [List.all_eq_false]
        exact ⟨c, List.mem_of_getElem? hc', by rw [sm]; decide⟩
      rw [e2] at q
      exact iteT q
    | true =>
      refine iteF ⟨rfl, ⟨_, rfl⟩, ?_⟩
      rw [List.take_add_one, hc', List.all_append, ha]
      show (true && (smallC c && true)) = true
      rw [sm]; rfl
  · rintro σ H' ⟨rfl, _, ha⟩
    rw [List.take_of_length_le (by simp)] at ha
    rw [ha] at q
    exact q
theorem scLIsName : FnScope ["_law_text", "_law_others"] ["_law_text"] (defScope sLIsName) := ⟨rfl, rfl, rfl, by decide +kernel, rfl, by decide +kernel, by decide +kernel⟩
theorem ok_lname (F : Fun K "_law_is_name" "_law_is_name" sLIsName f fd) (Gls : FnOk P w K mg base CX0 1 g gd ["_law_text"] spLSmall) (bGls : Binds K gd ["_law_text"] []) (kGls : PySem.W.keepIn K (.ref g) = true) (mGls : mg "_law_small" = some (.ref g)) (ml : mg "len" = none) :
    FnOk P w K mg base CX0 2 f fd ["_law_text"] spName := by
  refine F.ok scLIsName (fun vs H Q E h => ?_) (fun cdv A outer s H vs Q E hr h => ?_)
  · obtain ⟨z, rfl, _⟩ := h; rfl
  obtain ⟨z, rfl, hz, q⟩ := h
  have hrls := hr
  refine ⟨_, @pss_cons _ _ _ _ _ (by exact @ps_set _ _ 1 _ _ _ _ scLIsName.nd rfl (Or.inl rfl) (@pe_lst _ _ _ _ (@pa_strs _ _ words rfl)) rfl (.inl rfl))
    (@pss_one _ _ _ (by exact @ps_ret _ _ _ _ (pe_and (pe_chain op_le op_le pe_int (pe_callB call_len_str rfl ml PySem.boot_len (pa_cons (pv 0) pa_nil)) pe_int) (pe_and (pe_call Gls hrls rfl mGls kGls bGls .nil pass0 (pa_cons (pv 0) pa_nil)) (pe_one (pe_cmpR op_notIn_seq (pv 0) (pv 1) rfl)))))), ?_⟩
  refine ⟨small5 (by show 11 ≤ 5000; decide), fun p hp => ?_⟩
  have s0 := same_new hp (.lst (words.map V.str))
  have qn := q _ s0
  have e1 : decide ((1 : Int) ≤ (z.length : Int)) = decide (1 ≤ z.length) := by rw [decide_eq_decide]; omega
  have e2 : decide ((z.length : Int) ≤ 12) = decide (z.length ≤ 12) := by rw [decide_eq_decide]; omega
  refine ⟨_, rfl, z, rfl, small5 hz, _, _, rfl, rfl, _, rfl, ?_⟩
  have no : fits z = false → nameB z = false := fun e => by unfold nameB; rw [e, Bool.false_and, Bool.false_and]
  refine ite2 (fun h1 => ?_) (fun h1 => ?_)
  · refine ⟨_, _, rfl, rfl, _, rfl, ite2 (fun h2 => ?_) (fun h2 => ?_)⟩
    · have hf : fits z = true := by unfold fits; rw [← e1, ← e2, h1, h2]; rfl
      refine ⟨_, rfl, z, rfl, _, rfl, ite2 (fun h3 => ?_) (fun h3 => ?_)⟩
      · refine ⟨_, rfl, _, rfl, p, _, rfl, .inl (SqL.of upd_same), rfl, flat_words, ?_⟩
        have e : nameB z = !inV (.str z) (words.map V.str) := by unfold nameB; rw [hf, h3]; rfl
        rw [e] at qn
        exact qn
      · have e : nameB z = false := by unfold nameB; rw [hf, Bool.eq_false_iff.mpr h3]; rfl
        rw [e] at qn
        exact qn
    · have hf : fits z = false := by
        unfold fits
        rw [show decide (z.length ≤ 12) = false by rw [← e2]; exact Bool.eq_false_iff.mpr h2, Bool.and_false]
      rw [no hf] at qn
      exact qn
  · have hf : fits z = false := by
      unfold fits
      rw [show decide (1 ≤ z.length) = false by rw [← e1]; exact Bool.eq_false_iff.mpr h1, Bool.false_and]
    rw [no hf] at qn
    exact ⟨_, rfl, iteF qn⟩
end
end K12
namespace K12
open PySem L2
theorem AZ_big (c : Nat) : decide (c ∈ (Str.ofString "ABCDEFGHIJKLMNOPQRSTUVWXYZ").cps.toList) = bigC c := by
  have e : (Str.ofString "ABCDEFGHIJKLMNOPQRSTUVWXYZ").cps.toList = List.range' 65 26 := by decide +kernel
  rw [e]
  unfold bigC
  rw [decide_eq_decide, List.mem_range'_1]
  omega
def spLThing : Sp := fun vs H Q _ => ∃ z : Str, vs = [.str z] ∧ z.length ≤ 5000 ∧ Q (.bl (thingB z)) H
def It.k : It → Kd
  | .op true => .nm "(both"
  | .op false => .nm "(some"
  | .kd k => k
def pileK (p : List It) : List Kd := p.reverse.map It.k
def It.low : It → Prop
  | .op _ => True
  | .kd k => okK k ∧ k.dep ≤ 50
theorem opk {i : It} (h : i.low) : (i.k.tx ∈ ([Tx.str "(both", Tx.str "(some"] : List Tx)) ↔ ∃ b, i = .op b := by
  constructor
  · intro hm
    cases i with
    | op b => exact ⟨b, rfl⟩
    | kd k =>
      exfalso
      cases k with
      | nm x =>
        have hs := (word_len h.1).2.2
        rcases List.mem_cons.mp hm with e | hm
        · have : x = "(both" := by injection e
          rw [this] at hs
          revert hs; decide +kernel
        · have e := List.mem_singleton.mp hm
          have : x = "(some" := by injection e
          rw [this] at hs
          revert hs; decide +kernel
      | two a b => rcases List.mem_cons.mp hm with e | hm; · cases e
                   · cases List.mem_singleton.mp hm
      | som r c => rcases List.mem_cons.mp hm with e | hm; · cases e
                   · cases List.mem_singleton.mp hm
  · rintro ⟨b, rfl⟩
    cases b
    · exact List.mem_cons_of_mem _ (List.mem_singleton.mpr rfl)
    · exact List.mem_cons_self
theorem low_dp {i : It} (h : i.low) : i.k.tx.dp ≤ 60 := by
  rw [Kd.tx_dp]
  cases i with
  | op b => cases b <;> exact Nat.zero_le _
  | kd k => exact Nat.le_trans h.2 (by decide)
theorem pileK_cons (i : It) (p : List It) : pileK (i :: p) = pileK p ++ [i.k] := by unfold pileK; rw [List.reverse_cons, List.map_append]; rfl
theorem kl_app_inv {H : Hp} : ∀ {xs : List V} {ks ls : List Kd}, KL H xs (ks ++ ls) → ∃ ys zs, xs = ys ++ zs ∧ KL H ys ks ∧ KL H zs ls
  | xs, [], ls, h => ⟨[], xs, rfl, .nil, h⟩
  | _, k :: ks, ls, .cons r t => by
    obtain ⟨ys, zs, e, h1, h2⟩ := kl_app_inv (ks := ks) t
    exact ⟨_ :: ys, zs, by rw [e]; rfl, .cons r h1, h2⟩
theorem kl_app {H : Hp} : ∀ {xs ys : List V} {ks ls : List Kd}, KL H xs ks → KL H ys ls → KL H (xs ++ ys) (ks ++ ls)
  | _, _, _, _, .nil, h => h
  | _, _, _, _, .cons r t, h => .cons r (kl_app t h)
theorem kl_top {H : Hp} {xs : List V} {i : It} {p : List It} (h : KL H xs (pileK (i :: p))) : ∃ ys v, xs = ys ++ [v] ∧ KL H ys (pileK p) ∧ IsK H i.k v := by
  rw [pileK_cons] at h
  obtain ⟨ys, zs, e, h1, h2⟩ := kl_app_inv h
  cases h2 with
  | cons r t => cases t; exact ⟨ys, _, e, h1, r⟩
theorem kl_len {H : Hp} : ∀ {xs : List V} {ks : List Kd}, KL H xs ks → xs.length = ks.length
  | _, _, .nil => rfl
  | _, _, .cons _ t => by rw [List.length_cons, List.length_cons, kl_len t]
theorem at_neg {xs : List V} {k : Nat} {v : V} (hk : 0 < k) (hl : k ≤ xs.length) (h : xs[xs.length - k]? = some v) : atI xs (-(k : Int)) = some v := by
  unfold atI ixN
  rw [if_neg (by omega), if_pos (by omega)]
  show xs[((-(k : Int)) + (xs.length : Int)).toNat]? = _
  rw [show ((-(k : Int)) + (xs.length : Int)).toNat = xs.length - k by omega]
  exact h
theorem at_n1 {ys : List V} {v : V} : atI (ys ++ [v]) (-1) = some v := at_neg (k := 1) (by decide) (by simp) (by simp)
theorem at_n2 {ys : List V} {u v : V} : atI (ys ++ [u, v]) (-2) = some u := at_neg (k := 2) (by decide) (by simp) (by simp)
def Oth (l : Addr) (H H' : Hp) : Prop := (∀ b o, b ≠ l → H b = some o → H' b = some o) ∧ Tups H H'
theorem Oth.of {l : Addr} {H H' : Hp} (s : Same H H') : Oth l H H' := ⟨fun b o _ e => s b o e, s.tups⟩
theorem Oth.trans {l : Addr} {H H1 H2 : Hp} (a : Oth l H H1) (b : Oth l H1 H2) : Oth l H H2 := ⟨fun c o hc e => b.1 c o hc (a.1 c o hc e), a.2.trans b.2⟩
def spClosed : Sp := fun vs H Q _ => ∃ (l : Addr) (xs : List V) (p : List It), vs = [.ref l] ∧ H l = some (.lst xs) ∧ KL H xs (pileK p) ∧ (∀ i ∈ p, i.low) ∧ p.length ≤ 6000 ∧
  (∀ p' H' xs', eatC p = some p' → Oth l H H' → H' l = some (.lst xs') → KL H' xs' (pileK p') → Q (.bl true) H') ∧ (eatC p = none → ∀ H', Oth l H H' → Q (.bl false) H')
section
variable {P : Program} {w : World} {K : PySem.W.Frag} {mg : Str → Option Value} {base : Heap} {f g e a1 a2 a3 a4 a5 C : Addr} {fd gd ed d1 d2 d3 d4 d5 : FuncData}
theorem scLIsThing : FnScope ["_law_text"] ["_law_text"] (defScope sLIsThing) := ⟨rfl, rfl, rfl, by decide +kernel, rfl, by decide +kernel, by decide +kernel⟩
theorem ok_lthing (F : Fun K "_law_is_thing" "_law_is_thing" sLIsThing f fd) (Gls : FnOk P w K mg base CX0 1 g gd ["_law_text"] spLSmall) (bGls : Binds K gd ["_law_text"] []) (kGls : PySem.W.keepIn K (.ref g) = true) (mGls : mg "_law_small" = some (.ref g)) (ml : mg "len" = none) :
    FnOk P w K mg base CX0 2 f fd ["_law_text"] spLThing := by
  refine F.ok scLIsThing (fun vs H Q E h => ?_) (fun cdv A outer s H vs Q E hr h => ?_)
  · obtain ⟨z, rfl, _⟩ := h; rfl
  obtain ⟨z, rfl, hz, q⟩ := h
  have hrls := hr
  refine ⟨_, @pss_one _ _ _ (by exact @ps_ret _ _ _ _ (pe_and (pe_chain op_le op_le pe_int (pe_callB call_len_str rfl ml PySem.boot_len (pa_cons (pv 0) pa_nil)) pe_int) (pe_and (pe_cmpR op_in_str (pe_ix ix_str (pv 0) pe_int (fun _ _ => rfl)) pe_str rfl) (pe_one (pe_call Gls hrls rfl mGls kGls bGls .nil pass0 (pa_cons (pe_slice sl_str (pv 0) (po_some pe_int) po_none) pa_nil)))))), ?_⟩
  have hx : z.cps.toList.length = z.length := by simp [Str.length]
  have e1 : decide ((1 : Int) ≤ (z.length : Int)) = decide (1 ≤ z.length) := by rw [decide_eq_decide]; omega
  have e2 : decide ((z.length : Int) ≤ 12) = decide (z.length ≤ 12) := by rw [decide_eq_decide]; omega
  have no : fits z = false → thingB z = false := fun e => by unfold thingB; rw [e, Bool.false_and]
  refine ⟨_, rfl, z, rfl, small5 hz, _, _, rfl, rfl, _, rfl, ?_⟩
  refine ite2 (fun h1 => ?_) (fun h1 => ?_)
  · refine ⟨_, _, rfl, rfl, _, rfl, ite2 (fun h2 => ?_) (fun h2 => ?_)⟩
    · have hf : fits z = true := by unfold fits; rw [← e1, ← e2, h1, h2]; rfl
      have h1' : 1 ≤ z.length := by have := of_decide_eq_true h1; omega
      obtain ⟨c, r, ecr⟩ : ∃ c r, z.cps.toList = c :: r := by
        cases e : z.cps.toList with
        | nil => rw [e] at hx; simp at hx; omega
        | cons c r => exact ⟨c, r, rfl⟩
      have et : thingB z = (bigC c && r.all smallC) := by unfold thingB; rw [hf, ecr]; rfl
      refine ⟨_, rfl, z, 0, c, rfl, rfl, small5 hz, atI_nat (j := 0) (by rw [ecr]; rfl), _, _, rfl, rfl, _, rfl, ?_⟩
      show if (!(Builtin.Str.occurrences (Str.ofString "ABCDEFGHIJKLMNOPQRSTUVWXYZ") ⟨#[c]⟩ 0 (Str.ofString "ABCDEFGHIJKLMNOPQRSTUVWXYZ").length 1).isEmpty) = true then _ else _
      rw [StrLaws.found_one, AZ_big]
      cases hb : bigC c with
      | true =>
        refine iteT ⟨_, rfl, _, rfl, z, rfl, small5 hz, _, rfl, ?_⟩
        have e5 : (Txt.slice z (some 1) none).cps.toList.all smallC = thingB z := by rw [sl1, ecr, et, hb]; rfl
        rw [e5]
        exact q
      | false =>
        rw [et, hb] at q
        exact iteF q
    · have hf : fits z = false := by
        unfold fits
        rw [show decide (z.length ≤ 12) = false by rw [← e2]; exact Bool.eq_false_iff.mpr h2, Bool.and_false]
      rw [no hf] at q
      exact q
  · have hf : fits z = false := by
      unfold fits
      rw [show decide (1 ≤ z.length) = false by rw [← e1]; exact Bool.eq_false_iff.mpr h1, Bool.false_and]
    rw [no hf] at q
    exact ⟨_, rfl, iteF q⟩
theorem scClosed : FnScope ["_law_pile", "_law_last", "_law_middle", "_law_head"] ["_law_pile"] (defScope sClosed) := ⟨rfl, rfl, rfl, by decide +kernel, rfl, by decide +kernel, by decide +kernel⟩
theorem ok_closed (F : Fun K "_law_closed" "_law_closed" sClosed f fd) (ml : mg "len" = none) (mi : mg "isinstance" = none) (ms : mg "str" = none) (Gln : FnOk P w K mg base CX0 2 g gd ["_law_text"] spName) (bGln : Binds K gd ["_law_text"] []) (kGln : PySem.W.keepIn K (.ref g) = true) (mGln : mg "_law_is_name" = some (.ref g)) :
    FnOk P w K mg base CX0 3 f fd ["_law_pile"] spClosed := by
  refine F.ok scClosed (fun vs H Q E h => ?_) (fun cdv A outer s H vs Q E hr h => ?_)
  · obtain ⟨l, xs, p, rfl, _⟩ := h; rfl
  obtain ⟨l, xs, p, rfl, hl, kl, low, lp, q1, q2⟩ := h
  have hrln := hr
  refine ⟨_, @pss_cons _ _ _ _ _ (by exact ps_if (PW.pt (pw_or (pt_cmpR op_lt (pe_callB call_len_seq rfl ml PySem.boot_len (pa_cons (pv 0) pa_nil)) pe_int (nomark _)) (pw_or (pt_cmpR (op_inX hr.units) (pe_ix ix_list (pv 0) (pe_un un_neg pe_int) (fun _ _ => rfl)) (pe_lst (pa_cons pe_str (pa_cons pe_str pa_nil))) rfl) (pw_or1 (pt_cmpR (op_inX hr.units) (pe_ix ix_list (pv 0) (pe_un un_neg pe_int) (fun _ _ => rfl)) (pe_lst (pa_cons pe_str (pa_cons pe_str pa_nil))) rfl))))) (@pss_one _ _ _ (by exact @ps_ret _ _ _ _ pe_bl)) pss_nil)
    (@pss_cons _ _ _ _ _ (by exact ps_set (i := 1) scClosed.nd rfl (Or.inl rfl) (pe_bm0 PySem.F.plainAttrs_list PySem.F.slot_list_pop PySem.F.type_list_pop mt_pop (pv 0)))
    (@pss_cons _ _ _ _ _ (by exact ps_set (i := 2) scClosed.nd rfl (Or.inl rfl) (pe_bm0 PySem.F.plainAttrs_list PySem.F.slot_list_pop PySem.F.type_list_pop mt_pop (pv 0)))
    (@pss_cons _ _ _ _ _ (by exact ps_set (i := 3) scClosed.nd rfl (Or.inl rfl) (pe_bm0 PySem.F.plainAttrs_list PySem.F.slot_list_pop PySem.F.type_list_pop mt_pop (pv 0)))
    (@pss_cons _ _ _ _ _ (by exact ps_if (pt_cmpR (op_eqX hr.units) (pv 3) pe_str (nomark _)) (@pss_cons _ _ _ _ _ (by exact ps_expr (pe_bm PySem.F.plainAttrs_list PySem.F.slot_list_append PySem.F.type_list_append mt_append (pv 0) (@pa_consN _ _ _ _ _ (@pe_tup _ _ _ _ _ (pa_cons pe_str (pa_cons (pv 2) (pa_cons (pv 1) pa_nil)))) pa_nil rfl))) (@pss_one _ _ _ (by exact @ps_ret _ _ _ _ pe_bl))) pss_nil)
    (@pss_cons _ _ _ _ _ (by exact ps_if (PW.pt (pw_and (pt_cmpR (op_eqX hr.units) (pv 3) pe_str (nomark _)) (pw_and (pt_val (pe_callB call_isinst rfl mi PyProof.Rows.boot_isinstance (pa_cons (pv 2) (pa_cons (pe_bltn (v := .ty "str") rfl ms PyProof.Rows.boot_str rfl) pa_nil)))) (pw_and1 (pt_val (pe_call Gln hrln rfl mGln kGln bGln .nil pass0 (pa_cons (pv 2) pa_nil))))))) (@pss_cons _ _ _ _ _ (by exact ps_expr (pe_bm PySem.F.plainAttrs_list PySem.F.slot_list_append PySem.F.type_list_append mt_append (pv 0) (@pa_consN _ _ _ _ _ (@pe_tup _ _ _ _ _ (pa_cons pe_str (pa_cons (pv 2) (pa_cons (pv 1) pa_nil)))) pa_nil rfl))) (@pss_one _ _ _ (by exact @ps_ret _ _ _ _ pe_bl))) pss_nil)
    (@pss_one _ _ _ (by exact @ps_ret _ _ _ _ pe_bl))))))), ?_⟩
  have lx : xs.length = p.length := by rw [kl_len kl]; unfold pileK; rw [List.length_map, List.length_reverse]
  refine ⟨_, rfl, l, xs, rfl, .inl (SqL.of hl), _, _, rfl, rfl, _, rfl, ?_⟩
  have short : p.length < 3 → eatC p = none := fun h => by
    match p, h with
    | [], _ => rfl
    | [.op _], _ => rfl
    | [.kd _], _ => rfl
    | [.op _, _], _ => rfl
    | [.kd _, .op _], _ => rfl
    | [.kd _, .kd (.nm _)], _ => rfl
    | [.kd _, .kd (.two _ _)], _ => rfl
    | [.kd _, .kd (.som _ _)], _ => rfl
  refine ite2 (fun c => ?_) (fun c => ?_)
  · have c' : (xs.length : Int) < 3 := of_decide_eq_true c
    exact iteT (q2 (short (by omega)) _ (.of (Same.refl _)))
  have c' : ¬ (xs.length : Int) < 3 := fun h => c (decide_eq_true h)
  obtain ⟨i1, i2, i3, r, rfl⟩ : ∃ i1 i2 i3 r, p = i1 :: i2 :: i3 :: r := by
    match p, lx with
    | i1 :: i2 :: i3 :: r, _ => exact ⟨i1, i2, i3, r, rfl⟩
    | [], h => exact absurd (by rw [h]; decide) c'
    | [_], h => exact absurd (by rw [h]; show (1 : Int) < 3; decide) c'
    | [_, _], h => exact absurd (by rw [h]; show (2 : Int) < 3; decide) c'
  obtain ⟨xs1, v1, rfl, kl1, k1⟩ := kl_top kl
  obtain ⟨xs2, v2, rfl, kl2, k2⟩ := kl_top kl1
  obtain ⟨xs3, v3, rfl, kl3, k3⟩ := kl_top kl2
  have w1 := low i1 (by simp)
  have w2 := low i2 (by simp)
  have w3 := low i3 (by simp)
  have ops : ∀ {H' : Hp} {q : Addr}, H' q = some (.lst [.str "(both", .str "(some"]) → Xas H' [Tx.str "(both", Tx.str "(some"] [V.str "(both", V.str "(some"] := fun _ => ⟨_, _, rfl, rfl, _, _, rfl, rfl, rfl⟩
  have odp : ∀ d ∈ ([Tx.str "(both", Tx.str "(some"] : List Tx), d.dp ≤ 60 := fun d hd => by
    rcases List.mem_cons.mp hd with rfl | hd
    · exact Nat.zero_le _
    · rw [List.mem_singleton.mp hd]; exact Nat.zero_le _
  refine ⟨_, rfl, _, rfl, l, _, _, _, rfl, rfl, SqL.of hl, at_n1, small5 (by show 2 ≤ 5000; decide), fun q hq => ?_⟩
  have s1 := same_new hq (.lst [.str "(both", .str "(some"])
  have eq1 : upd H q (.lst [.str "(both", .str "(some"]) q = some (.lst [.str "(both", .str "(some"]) := upd_same
  refine ⟨q, i1.k.tx, _, _, rfl, eq1, ops eq1, (IsK.mono s1.tups k1).xa, odp, _, rfl, ?_⟩
  generalize upd H q (.lst [.str "(both", .str "(some"]) = H1 at s1 eq1 ⊢
  rcases i1 with b1 | b
  · rw [decide_eq_true ((opk w1).mpr ⟨b1, rfl⟩)]
    exact iteT (iteT (q2 rfl _ (.of s1)))
  rw [decide_eq_false (fun h => by obtain ⟨b', z⟩ := (opk w1).mp h; cases z)]
  refine iteF ⟨_, rfl, _, rfl, l, _, _, _, rfl, rfl, SqL.of (s1 _ _ hl), by rw [List.append_assoc]; exact at_n2, small5 (by show 2 ≤ 5000; decide), fun q' hq' => ?_⟩
  have s2 := s1.trans (same_new hq' (.lst [.str "(both", .str "(some"]))
  have eq2 : upd H1 q' (.lst [.str "(both", .str "(some"]) q' = some (.lst [.str "(both", .str "(some"]) := upd_same
  refine ⟨q', i2.k.tx, _, _, rfl, eq2, ops eq2, (IsK.mono s2.tups k2).xa, odp, _, rfl, ?_⟩
  generalize upd H1 q' (.lst [.str "(both", .str "(some"]) = H2 at s2 eq2 ⊢
  rcases i2 with b2 | a
  · rw [decide_eq_true ((opk w2).mpr ⟨b2, rfl⟩)]
    exact iteT (q2 rfl _ (.of s2))
  rw [decide_eq_false (fun h => by obtain ⟨b', z⟩ := (opk w2).mp h; cases z)]
  have hl2 := s2 _ _ hl
  have lst1 : ∀ {ys : List V} {v : V}, (ys ++ [v])[(ys ++ [v]).length - 1]? = some v := fun {ys v} => by simp
  refine iteF ⟨_, rfl, .inl ⟨rfl, _, SqL.of hl2⟩, l, _, _, rfl, rfl, hl2, lst1, ?_⟩
  rw [List.dropLast_concat]
  refine ⟨_, rfl, .inl ⟨rfl, _, SqL.of upd_same⟩, l, _, _, rfl, rfl, upd_same, lst1, ?_⟩
  rw [List.dropLast_concat, upd_upd]
  refine ⟨_, rfl, .inl ⟨rfl, _, SqL.of upd_same⟩, l, _, _, rfl, rfl, upd_same, lst1, ?_⟩
  rw [List.dropLast_concat, upd_upd]
  have oth3 : Oth l H (upd H2 l (.lst xs3)) := ⟨fun b' o hb e => by rw [upd_ne hb]; exact s2 _ _ e, fun b' ys e => by rw [upd_ne (fun z => by rw [z, hl] at e; cases e)]; exact s2 _ _ e⟩
  have el3 : upd H2 l (.lst xs3) l = some (.lst xs3) := upd_same
  generalize upd H2 l (.lst xs3) = H3 at oth3 el3 ⊢
  have j1 := k1.mono oth3.2
  have j2 := k2.mono oth3.2
  have j3 := k3.mono oth3.2
  have klr : KL H3 xs3 (pileK r) := KL.mono oth3.2 kl3
  have lr : xs3.length ≤ 6000 := by
    have := kl_len kl3
    unfold pileK at this
    rw [List.length_map, List.length_reverse] at this
    simp only [List.length_cons] at lp
    omega
  have fin : ∀ {H4 : Hp}, Same H3 H4 → ∀ {k : Kd} {t : Addr} {T : List V}, H4 t = none → eatC (.kd b :: .kd a :: i3 :: r) = some (.kd k :: r) → IsK (upd H4 t (.tup T)) k (.ref t) → Q (.bl true) (upd (upd H4 t (.tup T)) l (.lst (xs3 ++ [.ref t]))) := fun {H4} s4 {k t T} ht ee ik => by
    have st := s4.trans (same_new ht (.tup T))
    have tt : Tups (upd H4 t (.tup T)) (upd (upd H4 t (.tup T)) l (.lst (xs3 ++ [.ref t]))) := tups_lst (st _ _ el3)
    refine q1 _ _ _ ee ⟨fun b' o hb e => by rw [upd_ne hb]; exact st _ _ (oth3.1 b' o hb e), (oth3.2.trans st.tups).trans tt⟩ upd_same ?_
    rw [pileK_cons]
    exact kl_app (KL.mono (st.tups.trans tt) klr) (.cons (ik.mono tt) .nil)
  refine ⟨_, rfl, i3.k.tx, Tx.str "(both", j3.xa, rfl, low_dp w3, _, rfl, ?_⟩
  have notB : i3 ≠ .op true → ¬ i3.k.tx = Tx.str "(both" := fun hn e => by
    obtain ⟨b', z⟩ := (opk w3).mp (by rw [e]; exact List.mem_cons_self)
    subst z
    cases b'
    · exact absurd e (by intro z; injection z with z; revert z; decide +kernel)
    · exact hn rfl
  have notS : i3 ≠ .op false → ¬ i3.k.tx = Tx.str "(some" := fun hn e => by
    obtain ⟨b', z⟩ := (opk w3).mp (by rw [e]; simp)
    subst z
    cases b'
    · exact hn rfl
    · exact absurd e (by intro z; injection z with z; revert z; decide +kernel)
  by_cases cB : i3 = .op true
  · subst cB
    rw [decide_eq_true (show (It.op true).k.tx = Tx.str "(both" from rfl)]
    refine iteT ⟨_, rfl, .inl ⟨rfl, _, SqL.of el3⟩, _, rfl, _, rfl, small5 (by show 3 ≤ 5000; decide), fun t ht => ?_⟩
    have st := same_new ht (.tup [.str "both", v2, v1])
    exact ⟨l, xs3, _, rfl, rfl, st _ _ el3, Nat.lt_of_le_of_lt lr (by decide), fin (Same.refl _) ht rfl ⟨t, v2, v1, rfl, upd_same, j2.mono st.tups, j1.mono st.tups⟩⟩
  rw [decide_eq_false (notB cB)]
  refine iteF ⟨_, rfl, i3.k.tx, Tx.str "(some", j3.xa, rfl, low_dp w3, _, rfl, ?_⟩
  by_cases cS : i3 = .op false
  rotate_left
  · rw [decide_eq_false (notS cS)]
    refine iteF (iteF (q2 ?_ _ oth3))
    rcases i3 with b3 | k
    · cases b3
      · exact absurd rfl cS
      · exact absurd rfl cB
    · cases a <;> rfl
  subst cS
  rw [decide_eq_true (show (It.op false).k.tx = Tx.str "(some" from rfl)]
  cases a with
  | two x y =>
    obtain ⟨p', x', y', rfl, hp', _⟩ := j2
    exact iteT ⟨_, rfl, _, _, _, false, rfl, TyOf.tup hp', kit_tup_str K, _, rfl, iteF (iteF (q2 rfl _ oth3))⟩
  | som x y =>
    obtain ⟨p', y', rfl, hp', _⟩ := j2
    exact iteT ⟨_, rfl, _, _, _, false, rfl, TyOf.tup hp', kit_tup_str K, _, rfl, iteF (iteF (q2 rfl _ oth3))⟩
  | nm m =>
    cases j2
    have lm := word_len (show wholeB m = true ∨ nameB m = true from w2.1)
    refine iteT ⟨_, rfl, _, _, _, true, rfl, TyOf.str m, kit_str_str K, _, rfl, iteT ⟨_, rfl, m, rfl, by omega, fun H4 s4 => ⟨_, rfl, ?_⟩⟩⟩
    cases nm : nameB m with
    | false => exact iteF (q2 (by show (if nameB m = true then some (It.kd (.som m b) :: r) else none) = none; rw [nm]; rfl) _ (oth3.trans (.of s4)))
    | true =>
      refine iteT ⟨_, rfl, .inl ⟨rfl, _, SqL.of (s4 _ _ el3)⟩, _, rfl, _, rfl, small5 (by show 3 ≤ 5000; decide), fun t ht => ?_⟩
      have st := same_new ht (.tup [.str "some", .str m, v1])
      exact ⟨l, xs3, _, rfl, rfl, st _ _ (s4 _ _ el3), Nat.lt_of_le_of_lt lr (by decide), fin (k := .som m b) s4 ht (by show (if nameB m = true then some (It.kd (.som m b) :: r) else none) = _; rw [nm]; rfl) ⟨t, v1, rfl, upd_same, j1.mono (s4.trans st).tups⟩⟩
end
end K12
namespace K12
open PySem L2
theorem run_app : ∀ (a b : List Tk) (p : List It), run (a ++ b) p = (run a p).bind (run b)
  | [], _, _ => rfl
  | .w x :: a, b, p => by
    show (eatW x p).bind (run (a ++ b)) = ((eatW x p).bind (run a)).bind (run b)
    cases eatW x p with
    | none => rfl
    | some q => exact run_app a b q
  | .cl :: a, b, p => by
    show (eatC p).bind (run (a ++ b)) = ((eatC p).bind (run a)).bind (run b)
    cases eatC p with
    | none => rfl
    | some q => exact run_app a b q
theorem kfail {l : List Nat} {a b : List Tk} (e : tkL l = a ++ b) (h : run a [] = none) : kindL l = none := by
  unfold kindL
  rw [e, run_app, h]
  split <;> rfl
theorem run_w {a : List Tk} {p : List It} (x : List Nat) (h : run a [] = some p) : run (a ++ [.w x]) [] = eatW x p := by
  rw [run_app, h]
  show (eatW x p).bind (run []) = _
  cases eatW x p <;> rfl
theorem run_c {a : List Tk} {p : List It} (h : run a [] = some p) : run (a ++ [.cl]) [] = eatC p := by
  rw [run_app, h]
  show (eatC p).bind (run []) = _
  cases eatC p <;> rfl
theorem tk_at {l : List Nat} {i : Nat} {pc : List Nat} (h : (splitB l)[i]? = some pc) : tkL l = ((splitB l).take i).flatMap tkP ++ (tkP pc ++ ((splitB l).drop (i + 1)).flatMap tkP) := by
  unfold tkL
  have hi := (List.getElem?_eq_some_iff.mp h).1
  have e : splitB l = (splitB l).take i ++ (pc :: (splitB l).drop (i + 1)) := by
    conv => lhs; rw [← List.take_append_drop i (splitB l), List.drop_eq_getElem_cons hi]
    rw [(List.getElem?_eq_some_iff.mp h).2]
  conv => lhs; rw [e]
  rw [List.flatMap_append, List.flatMap_cons]
theorem take_tk {l : List Nat} {i : Nat} {pc : List Nat} (h : (splitB l)[i]? = some pc) : ((splitB l).take (i + 1)).flatMap tkP = ((splitB l).take i).flatMap tkP ++ tkP pc := by
  rw [List.take_succ, h, List.flatMap_append]
  show _ ++ (tkP pc ++ []) = _
  rw [List.append_nil]
theorem unT_toks {k : Kd} (ok : okK k) : unT (toks k) = 32 :: wrL k := by rw [← tk_wr ok, unT_L]
theorem mem_pile {i : It} : ∀ {p : List It}, i ∈ p → ∃ a b, pileT p = a ++ i.tk ++ b
  | j :: p, h => by
    rw [pile_cons]
    rcases List.mem_cons.mp h with rfl | h
    · exact ⟨pileT p, [], by rw [List.append_nil]⟩
    · obtain ⟨a, b, e⟩ := mem_pile h
      exact ⟨a, b ++ j.tk, by rw [e]; simp⟩
theorem dep_nt (k : Kd) : k.dep ≤ k.nt := k.dep_le_nt
theorem run_low {l : List Nat} {a b : List Tk} {p : List It} (e : tkL l = a ++ b) (h : run a [] = some p) (hc : l.count 40 ≤ 24) : ∀ i ∈ p, i.low := fun i hi => by
  obtain ⟨e1, ok⟩ := run_sound a h (fun _ h => (List.not_mem_nil h).elim)
  cases i with
  | op b => trivial
  | kd k =>
    have okk : okK k := ok _ hi
    obtain ⟨x, y, e2⟩ := mem_pile hi
    refine ⟨okk, Nat.le_trans (dep_nt k) (Nat.le_trans ?_ (Nat.le_trans hc (by decide)))⟩
    have e3 : a = x ++ toks k ++ y := by
      have : pileT p = a := e1
      rw [← this, e2]; rfl
    have e4 : 32 :: l = unT x ++ (32 :: wrL k) ++ unT (y ++ b) := by
      rw [← unT_L, e, e3, ← unT_toks okk, ← unT_app, ← unT_app]
      congr 1
      simp
    have e5 := congrArg (List.count 40) e4
    rw [List.count_cons_of_ne (by decide), List.count_append, List.count_append, List.count_cons_of_ne (by decide), wr_count okk] at e5
    omega
theorem unT_len : ∀ t : List Tk, t.length ≤ (unT t).length
  | [] => Nat.le_refl _
  | .w x :: r => by have := unT_len r; show r.length + 1 ≤ (x ++ unT r).length + 1; rw [List.length_append]; omega
  | .cl :: r => by have := unT_len r; show r.length + 1 ≤ (unT r).length + 1; omega
theorem toks_pos : ∀ k : Kd, 1 ≤ (toks k).length
  | .nm _ => Nat.le_refl _
  | .two _ _ => by simp [toks]
  | .som _ _ => by simp [toks]
theorem pile_len : ∀ p : List It, p.length ≤ (pileT p).length
  | [] => Nat.zero_le _
  | i :: p => by
    have := pile_len p
    rw [pile_cons, List.length_append, List.length_cons]
    have : 1 ≤ i.tk.length := by
      cases i with
      | op b => cases b <;> exact Nat.le_refl _
      | kd k => exact toks_pos k
    omega
theorem run_len {l : List Nat} {a b : List Tk} {p : List It} (e : tkL l = a ++ b) (h : run a [] = some p) (hl : l.length ≤ 5000) : p.length ≤ 5001 := by
  obtain ⟨e1, _⟩ := run_sound a h (fun _ h => (List.not_mem_nil h).elim)
  have e1' : pileT p = a := e1
  have h1 := pile_len p
  have h2 := unT_len (tkL l)
  rw [unT_L, e, List.length_append, List.length_cons] at h2
  rw [e1'] at h1
  omega
theorem rs_strip (p : List Nat) : Txt.rstripChars (mkS p) (Str.ofString ")") = mkS (strip p) := strX (by rw [one_41, rstrip_list, mkS_l, mkS_l]; rfl)
theorem strip_len (p : List Nat) : (strip p).length + cls p = p.length := by
  have := congrArg List.length (strip_cls p)
  rw [List.length_append, List.length_replicate] at this
  exact this
theorem mk_LB : mkS LB = "(both" := strX (by rw [mkS_l]; decide +kernel)
theorem mk_LS : mkS LS = "(some" := strX (by rw [mkS_l]; decide +kernel)
theorem in2 (x a b : Str) : inV (.str x) [V.str a, V.str b] = decide (x = a ∨ x = b) := by
  unfold inV
  simp only [List.any_cons, List.any_nil, Bool.or_false]
  by_cases h1 : x = a
  · subst h1; simp [eqV]
  · by_cases h2 : x = b
    · subst h2; simp [eqV]
    · rw [decide_eq_false (by simp [h1, h2])]
      simp [eqV, Ne.symm h1, Ne.symm h2]
theorem in4 (x a b c d : Str) : inV (.str x) [V.str a, V.str b, V.str c, V.str d] = decide (x = a ∨ x = b ∨ x = c ∨ x = d) := by
  have e : inV (.str x) [V.str a, V.str b, V.str c, V.str d] = (inV (.str x) [V.str a, V.str b] || inV (.str x) [V.str c, V.str d]) := by
    unfold inV
    simp [Bool.or_assoc]
  rw [e, in2, in2, ← Bool.decide_or]
  congr 1
  exact propext ⟨fun h => by rcases h with (h | h) | h | h <;> simp [h], fun h => by rcases h with h | h | h | h <;> simp [h]⟩
def spKindOf : Sp := fun vs H Q _ => ∃ z : Str, vs = [.str z] ∧ txt z ∧ (∀ k, kindL z.cps.toList = some k → ∀ H' v, Same H H' → IsK H' k v → Q v H') ∧ (kindL z.cps.toList = none → ∀ H', Same H H' → Q .non H')
section
variable {P : Program} {w : World} {K : PySem.W.Frag} {mg : Str → Option Value} {base : Heap} {f g e a1 a2 a3 a4 a5 C : Addr} {fd gd ed d1 d2 d3 d4 d5 : FuncData}
theorem scKindOf : FnScope ["_law_text", "_law_pile", "_law_piece", "_law_core", "_law_k"] ["_law_text"] (defScope sKindOf) := ⟨rfl, rfl, rfl, by decide +kernel, rfl, by decide +kernel, by decide +kernel⟩
theorem ok_kindOf (F : Fun K "_law_kind_of" "_law_kind_of" sKindOf f fd) (ml : mg "len" = none) (mr : mg "range" = none) (Gln : FnOk P w K mg base CX0 2 a1 d1 ["_law_text"] spName) (bGln : Binds K d1 ["_law_text"] []) (kGln : PySem.W.keepIn K (.ref a1) = true) (mGln : mg "_law_is_name" = some (.ref a1))
    (Glc : FnOk P w K mg base CX0 3 a2 d2 ["_law_pile"] spClosed) (bGlc : Binds K d2 ["_law_pile"] []) (kGlc : PySem.W.keepIn K (.ref a2) = true) (mGlc : mg "_law_closed" = some (.ref a2)) :
    FnOk P w K mg base CX0 4 f fd ["_law_text"] spKindOf := by
  refine F.ok scKindOf (fun vs H Q E h => ?_) (fun cdv A outer s H vs Q E hr h => ?_)
  · obtain ⟨z, rfl, _⟩ := h; rfl
  obtain ⟨z, rfl, hz, q1, q2⟩ := h
  have hrlc := hr
  have hrln := hr.mono (show 2 ≤ 3 by decide)
  refine ⟨_, @pss_cons _ _ _ _ _ (by exact ps_if (pt_cmpR op_gt (pe_bm PySem.F.plainAttrs_str PySem.F.slot_str_count PySem.F.type_str_count mt_count (pv 0) (pa_cons pe_str pa_nil)) pe_int (nomark _)) (@pss_one _ _ _ (by exact @ps_ret _ _ _ _ pe_non)) pss_nil)
    (@pss_cons _ _ _ _ _ (by exact ps_set (i := 1) scKindOf.nd rfl (Or.inl rfl) (pe_lst pa_nil))
    (@pss_cons _ _ _ _ _ (by exact ps_for PassesOwn.never rfl (pi_list (pe_bm PySem.F.plainAttrs_str PySem.F.slot_str_split PySem.F.type_str_split mt_split5 (pv 0) (pa_cons pe_str pa_nil))) (pg_name (i := 2) scKindOf.nd rfl (Or.inl rfl)) (@pss_cons _ _ _ _ _ (by exact ps_set (i := 3) scKindOf.nd rfl (Or.inl rfl) (pe_bm PySem.F.plainAttrs_str PySem.F.slot_str_rstrip PySem.F.type_str_rstrip mt_rstrip (pv 2) (pa_cons pe_str pa_nil))) (@pss_mid _ _ _ _ _ (by exact ps_if (PW.pt (pw_and (pt_cmpR op_in_seq (pv 3) (pe_lst (pa_cons pe_str (pa_cons pe_str pa_nil))) rfl) (pw_and1 (pt_cmpR op_ne (pv 2) (pv 3) (nomark _))))) (@pss_one _ _ _ (by exact @ps_ret _ _ _ _ pe_non)) pss_nil) (@pss_mid _ _ _ _ _ (by exact ps_if (PW.pt (pw_and (pt_cmpR op_notIn_seq (pv 3) (pe_lst (pa_cons pe_str (pa_cons pe_str (pa_cons pe_str (pa_cons pe_str pa_nil))))) rfl) (pw_and1 (pt_not (pt_val (pe_call Gln hrln rfl mGln kGln bGln .nil pass0 (pa_cons (pv 3) pa_nil))))))) (@pss_one _ _ _ (by exact @ps_ret _ _ _ _ pe_non)) pss_nil) (@pss_cons _ _ _ _ _ (by exact ps_expr (pe_bm PySem.F.plainAttrs_list PySem.F.slot_list_append PySem.F.type_list_append mt_append (pv 1) (pa_cons (pv 3) pa_nil))) (@pss_one _ _ _ (by exact ps_for PassesOwn.never rfl (pi_range1 rfl mr (pa_cons (pe_op op_sub (pe_callB call_len_str rfl ml PySem.boot_len (pa_cons (pv 2) pa_nil)) (pe_callB call_len_str rfl ml PySem.boot_len (pa_cons (pv 3) pa_nil))) pa_nil)) (pg_name (i := 4) scKindOf.nd rfl (Or.inl rfl)) (@pss_one _ _ _ (by exact ps_if (pt_not (pt_val (pe_call Glc hrlc rfl mGlc kGlc bGlc .nil pass0 (pa_cons (pv 1) pa_nil)))) (@pss_one _ _ _ (by exact @ps_ret _ _ _ _ pe_non)) pss_nil)))))))))
    (@pss_cons _ _ _ _ _ (by exact ps_if (PW.pt (pw_or (pt_cmpR op_ne (pe_callB call_len_seq rfl ml PySem.boot_len (pa_cons (pv 1) pa_nil)) pe_int (nomark _)) (pw_or1 (pt_cmpR (op_inX hr.units) (pe_ix ix_list (pv 1) pe_int (fun _ _ => rfl)) (pe_lst (pa_cons pe_str (pa_cons pe_str pa_nil))) rfl)))) (@pss_one _ _ _ (by exact @ps_ret _ _ _ _ pe_non)) pss_nil)
    (@pss_one _ _ _ (by exact @ps_ret _ _ _ _ (pe_ix ix_list (pv 1) pe_int (fun _ _ => rfl))))))), ?_⟩
  have ce : Txt.count z (Str.ofString "(") = (z.cps.toList.count 40 : Int) := by rw [← one_40]; exact count_eq z 40
  refine ⟨_, rfl, rfl, z, _, rfl, rfl, _, _, rfl, rfl, _, rfl, ?_⟩
  rw [ce]
  refine ite2 (fun c => ?_) (fun c => ?_)
  · have c' : (24 : Int) < (z.cps.toList.count 40 : Int) := of_decide_eq_true c
    exact q2 (by unfold kindL; rw [if_pos (by omega)]) H (Same.refl H)
  have c24 : z.cps.toList.count 40 ≤ 24 := by
    have : ¬ (24 : Int) < (z.cps.toList.count 40 : Int) := fun h => c (decide_eq_true h)
    omega
  have zl := len_l z
  have z5 := hz.1
  refine ⟨Nat.zero_le _, fun l hl => ⟨_, rfl, rfl, z, _, rfl, rfl, by decide +kernel, hz.1, fun R hR => ?_⟩⟩
  rw [split_B]
  generalize hps : splitB z.cps.toList = ps
  have nRl : R ≠ l := fun e => by rw [e, upd_same] at hR; cases hR
  have s0 : Same H (upd (upd H l (.lst [])) R (.lst ((ps.map mkS).map V.str))) := (same_new hl _).trans (same_new hR _)
  have eR : upd (upd H l (.lst [])) R (.lst ((ps.map mkS).map V.str)) R = some (.lst ((ps.map mkS).map V.str)) := upd_same
  have el : upd (upd H l (.lst [])) R (.lst ((ps.map mkS).map V.str)) l = some (.lst []) := by rw [upd_ne (Ne.symm nRl)]; exact upd_same
  generalize upd (upd H l (.lst [])) R (.lst ((ps.map mkS).map V.str)) = HP at s0 eR el ⊢
  have same : ∀ {H' : Hp}, Oth l HP H' → Same H H' := fun {H'} o b u e => o.1 b u (fun z => by rw [z, hl] at e; cases e) (s0 _ _ e)
  refine ⟨R, rfl, ⟨_, SqL.of eR⟩, for_list (xs := (ps.map mkS).map V.str) (fun i σ H' => (∃ o2 o3 o4 : Option V, σ = [some (.str z), some (.ref l), o2, o3, o4]) ∧ Oth l HP H' ∧ ∃ ys p, H' l = some (.lst ys) ∧ KL H' ys (pileK p) ∧ run ((ps.take i).flatMap tkP) [] = some p) ⟨⟨_, _, _, rfl⟩, .of (Same.refl _), [], [], el, .nil, rfl⟩ ?_ ?_ ?_⟩
  · rintro i σ H' hi ⟨_, o, _⟩
    exact SqL.of (o.1 _ _ nRl eR)
  · rintro i x σ H' hx ⟨⟨o2, o3, o4, rfl⟩, ot, ys, p, ey, kl, rn⟩
    rw [List.getElem?_map] at hx
    obtain ⟨y, hy, rfl⟩ := Option.map_eq_some_iff.mp hx
    rw [List.getElem?_map] at hy
    obtain ⟨pc, hpc, rfl⟩ := Option.map_eq_some_iff.mp hy
    have hpc' : (splitB z.cps.toList)[i]? = some pc := by rw [hps]; exact hpc
    have etk := tk_at hpc'
    rw [hps] at etk
    have tp := txt_piece hz (List.mem_of_getElem? hpc')
    have sl := strip_len pc
    have pl : (mkS pc).length = pc.length := mkS_len pc
    have scl : (mkS (strip pc)).length = (strip pc).length := mkS_len _
    have t5 := tp.1
    refine ⟨_, rfl, rfl, mkS pc, _, rfl, rfl, small5 tp.1, ?_⟩
    rw [rs_strip]
    refine ⟨fun σ H1 => σ = [some (.str z), some (.ref l), some (.str (mkS pc)), some (.str (mkS (strip pc))), o4] ∧ Same H' H1 ∧ ((mkS (strip pc) = "(both" ∨ mkS (strip pc) = "(some") → cls pc = 0), ?_, ?_⟩
    · refine ⟨_, rfl, small5 (by show 2 ≤ 5000; decide), fun q hq => ?_⟩
      have sq := same_new hq (.lst [.str "(both", .str "(some"])
      refine ⟨q, _, rfl, .inl (SqL.of upd_same), rfl, by decide +kernel, _, rfl, ?_⟩
      rw [if_neg Bool.false_ne_true, in2]
      refine ite2 (fun c => ?_) (fun c => ?_)
      · have c' := of_decide_eq_true c
        refine ⟨_, rfl, _, rfl, rfl, _, rfl, ?_⟩
        by_cases cc : cls pc = 0
        · have e0 : strip pc = pc := by have := strip_cls pc; rw [cc, List.replicate_zero, List.append_nil] at this; exact this
          rw [decide_eq_true (show V.str (mkS pc) = V.str (mkS (strip pc)) by rw [e0])]
          exact iteF ⟨rfl, sq, fun _ => cc⟩
        · have ne : ¬ V.str (mkS pc) = V.str (mkS (strip pc)) := fun e => by
            injection e with e
            have := congrArg List.length (mk_inj e)
            omega
          rw [decide_eq_false ne]
          refine iteT (q2 ?_ _ (same (ot.trans (.of sq))))
          obtain ⟨n, hn⟩ : ∃ n, cls pc = n + 1 := ⟨cls pc - 1, by omega⟩
          have e1 : tkL z.cps.toList = ((ps.take i).flatMap tkP ++ [.w (strip pc)] ++ [.cl]) ++ (List.replicate n .cl ++ (ps.drop (i + 1)).flatMap tkP) := by
            rw [etk, tkP, hn, List.replicate_succ]; simp
          refine kfail e1 ?_
          have ew : ∃ b, eatW (strip pc) p = some (.op b :: p) := by
            rcases c' with c' | c'
            · exact ⟨true, by unfold eatW; rw [if_pos (mk_inj (c'.trans mk_LB.symm))]⟩
            · refine ⟨false, ?_⟩
              have e2 : strip pc = LS := mk_inj (c'.trans mk_LS.symm)
              unfold eatW
              rw [e2, if_neg (by decide), if_pos rfl]
          obtain ⟨b, ew⟩ := ew
          have r1 := run_w (strip pc) rn
          rw [ew] at r1
          rw [run_c r1]; rfl
      · exact iteF ⟨rfl, sq, fun h => absurd (decide_eq_true h) c⟩
    rintro σ H1 ⟨rfl, s1, hop⟩
    refine ⟨fun σ H2 => σ = [some (.str z), some (.ref l), some (.str (mkS pc)), some (.str (mkS (strip pc))), o4] ∧ Same H' H2 ∧ ∃ it, eatW (strip pc) p = some (it :: p) ∧ it.k = .nm (mkS (strip pc)), ?_, ?_⟩
    · refine ⟨_, rfl, small5 (by show 4 ≤ 5000; decide), fun q hq => ?_⟩
      have sq := s1.trans (same_new hq (.lst [.str "(both", .str "(some", .str "anything", .str "nothing"]))
      refine ⟨q, _, rfl, .inl (SqL.of upd_same), rfl, by decide +kernel, _, rfl, ?_⟩
      rw [if_pos rfl, in4]
      generalize upd H1 q (.lst [.str "(both", .str "(some", .str "anything", .str "nothing"]) = H3 at sq ⊢
      by_cases cB : mkS (strip pc) = "(both"
      · have e2 : strip pc = LB := mk_inj (cB.trans mk_LB.symm)
        rw [decide_eq_true (.inl cB)]
        exact iteF ⟨rfl, sq, .op true, by unfold eatW; rw [if_pos e2], by rw [cB]; rfl⟩
      by_cases cS : mkS (strip pc) = "(some"
      · have e2 : strip pc = LS := mk_inj (cS.trans mk_LS.symm)
        rw [decide_eq_true (.inr (.inl cS))]
        exact iteF ⟨rfl, sq, .op false, by unfold eatW; rw [e2, if_neg (by decide), if_pos rfl], by rw [cS]; rfl⟩
      have nB : strip pc ≠ LB := fun e => cB (by rw [e, mk_LB])
      have nS : strip pc ≠ LS := fun e => cS (by rw [e, mk_LS])
      have ew : wordB (mkS (strip pc)) = true → eatW (strip pc) p = some (.kd (.nm (mkS (strip pc))) :: p) := fun h => by unfold eatW; rw [if_neg nB, if_neg nS, if_pos h]
      by_cases cw : mkS (strip pc) = "anything" ∨ mkS (strip pc) = "nothing"
      · rw [decide_eq_true (.inr (.inr cw))]
        refine iteF ⟨rfl, sq, _, ew ?_, rfl⟩
        unfold wordB wholeB
        rcases cw with h | h <;> rw [h] <;> decide +kernel
      · rw [decide_eq_false (by simp only [not_or] at cw ⊢; exact ⟨cB, cS, cw⟩)]
        refine iteT ⟨_, rfl, mkS (strip pc), rfl, by omega, fun H4 s4 => ⟨_, rfl, ?_⟩⟩
        cases cn : nameB (mkS (strip pc)) with
        | true => exact iteF ⟨rfl, sq.trans s4, _, ew (by unfold wordB; rw [cn, Bool.or_true]), rfl⟩
        | false =>
          refine iteT (q2 ?_ _ (same (ot.trans (.of (sq.trans s4)))))
          have e1 : tkL z.cps.toList = ((ps.take i).flatMap tkP ++ [.w (strip pc)]) ++ (List.replicate (cls pc) .cl ++ (ps.drop (i + 1)).flatMap tkP) := by
            rw [etk, tkP]; simp
          refine kfail e1 ?_
          rw [run_w (strip pc) rn]
          unfold eatW
          have hw : wordB (mkS (strip pc)) = false := by
            unfold wordB wholeB
            rw [cn]
            simp only [not_or] at cw
            simp [cw.1, cw.2]
          rw [if_neg nB, if_neg nS, if_neg (by rw [hw]; exact Bool.false_ne_true)]
    rintro σ H2 ⟨rfl, s2, it, ew, ek⟩
    have ey2 := s2 _ _ ey
    have rw1 : run ((ps.take i).flatMap tkP ++ [.w (strip pc)]) [] = some (it :: p) := by rw [run_w (strip pc) rn, ew]
    have ly := run_len (b := tkP pc ++ (ps.drop (i + 1)).flatMap tkP) etk rn (by omega)
    have lx : ys.length = p.length := by rw [kl_len kl]; unfold pileK; rw [List.length_map, List.length_reverse]
    refine ⟨_, rfl, .inl ⟨rfl, _, SqL.of ey2⟩, _, rfl, l, ys, _, rfl, rfl, ey2, Nat.lt_of_le_of_lt (show ys.length ≤ 6000 by omega) (by decide), ?_⟩
    have tt : Tups H2 (upd H2 l (.lst (ys ++ [.str (mkS (strip pc))]))) := tups_lst ey2
    have ot3 : Oth l HP (upd H2 l (.lst (ys ++ [.str (mkS (strip pc))]))) := ot.trans ((Oth.of s2).trans ⟨fun b o hb e => by rw [upd_ne hb]; exact e, tt⟩)
    have el3 : upd H2 l (.lst (ys ++ [.str (mkS (strip pc))])) l = some (.lst (ys ++ [.str (mkS (strip pc))])) := upd_same
    have kl3 : KL (upd H2 l (.lst (ys ++ [.str (mkS (strip pc))]))) (ys ++ [.str (mkS (strip pc))]) (pileK (it :: p)) := by
      rw [pileK_cons]
      exact kl_app (KL.mono (s2.tups.trans tt) kl) (.cons (by rw [ek]; rfl) .nil)
    generalize upd H2 l (.lst (ys ++ [.str (mkS (strip pc))])) = H3 at ot3 el3 kl3 ⊢
    refine ⟨_, rfl, mkS pc, rfl, small5 tp.1, _, rfl, mkS (strip pc), rfl, small5 (by omega), _, _, rfl, rfl, _, rfl, by omega, by omega, ?_⟩
    have en : (((mkS pc).length : Int) - ((mkS (strip pc)).length : Int)).toNat = cls pc := by omega
    rw [en]
    refine for_range (fun j σ H4 => (∃ o4, σ = [some (.str z), some (.ref l), some (.str (mkS pc)), some (.str (mkS (strip pc))), o4]) ∧ Oth l HP H4 ∧ ∃ ys p', H4 l = some (.lst ys) ∧ KL H4 ys (pileK p') ∧ run ((ps.take i).flatMap tkP ++ .w (strip pc) :: List.replicate j .cl) [] = some p') ⟨⟨_, rfl⟩, ot3, _, _, el3, kl3, rw1⟩ ?_ ?_
    · rintro j σ H4 hj ⟨⟨o5, rfl⟩, ot4, ys4, p4, el4, kl4, rn4⟩
      obtain ⟨n, hn⟩ : ∃ n, cls pc = j + (n + 1) := ⟨cls pc - j - 1, by omega⟩
      have e1 : tkL z.cps.toList = ((ps.take i).flatMap tkP ++ .w (strip pc) :: List.replicate j .cl) ++ (.cl :: (List.replicate n .cl ++ (ps.drop (i + 1)).flatMap tkP)) := by
        rw [etk, tkP, hn, ← List.replicate_append_replicate, List.replicate_succ]; simp
      have low4 := run_low e1 rn4 c24
      have len4 := run_len e1 rn4 (by omega)
      have rc := run_c rn4
      have ej : (ps.take i).flatMap tkP ++ .w (strip pc) :: List.replicate (j + 1) .cl = ((ps.take i).flatMap tkP ++ .w (strip pc) :: List.replicate j .cl) ++ [.cl] := by rw [List.replicate_succ']; simp
      refine ⟨_, rfl, l, ys4, p4, rfl, el4, kl4, low4, by omega, fun p' H5 ys5 ee o5 el5 kl5 => ⟨_, rfl, iteF ⟨⟨_, rfl⟩, ot4.trans o5, ys5, p', el5, kl5, by rw [ej, rc, ee]⟩⟩, fun ee H5 o5 => ⟨_, rfl, iteT (q2 ?_ _ (same (ot4.trans o5)))⟩⟩
      have e2 : tkL z.cps.toList = (((ps.take i).flatMap tkP ++ .w (strip pc) :: List.replicate j .cl) ++ [.cl]) ++ (List.replicate n .cl ++ (ps.drop (i + 1)).flatMap tkP) := by rw [e1]; simp
      exact kfail e2 (by rw [rc, ee])
    · rintro σ H4 ⟨⟨o5, rfl⟩, ot4, ys4, p4, el4, kl4, rn4⟩
      refine ⟨⟨_, _, _, rfl⟩, ot4, ys4, p4, el4, kl4, ?_⟩
      have := take_tk hpc'
      rw [hps] at this
      rw [this]
      exact rn4
  · rintro σ H' ⟨⟨o2, o3, o4, rfl⟩, ot, ys, p, ey, kl, rn⟩
    rw [List.length_map, List.length_map, List.take_length] at rn
    have er : run (tkL z.cps.toList) [] = some p := by unfold tkL; rw [hps]; exact rn
    have lx : ys.length = p.length := by rw [kl_len kl]; unfold pileK; rw [List.length_map, List.length_reverse]
    have kn : (∀ k, p ≠ [.kd k]) → kindL z.cps.toList = none := fun h => by
      unfold kindL
      rw [if_neg (by omega), er]
      split
      · rename_i k e; cases e; exact absurd rfl (h k)
      · rfl
    refine ⟨_, rfl, l, ys, rfl, .inl (SqL.of ey), rfl, _, rfl, ?_⟩
    by_cases c1 : ∃ i, p = [i]
    · obtain ⟨it, rfl⟩ := c1
      obtain ⟨ys', v, rfl, kl', iv⟩ := kl_top kl
      cases kl' with
      | nil =>
        rw [decide_eq_true (show V.int (([] ++ [v] : List V).length : Int) = V.int 1 from rfl)]
        have low := run_low (b := []) (by rw [List.append_nil]) er c24 it (by simp)
        refine iteF ⟨_, rfl, l, _, _, _, rfl, rfl, SqL.of ey, atI_nat (j := 0) rfl, small5 (by show 2 ≤ 5000; decide), fun q hq => ?_⟩
        have sq := same_new hq (.lst [.str "(both", .str "(some"])
        have eq1 : upd H' q (.lst [.str "(both", .str "(some"]) q = some (.lst [.str "(both", .str "(some"]) := upd_same
        refine ⟨q, it.k.tx, _, [Tx.str "(both", Tx.str "(some"], rfl, eq1, ⟨_, _, rfl, rfl, _, _, rfl, rfl, rfl⟩, (IsK.mono sq.tups iv).xa, (fun d hd => by
          rcases List.mem_cons.mp hd with rfl | hd
          · exact Nat.zero_le _
          · rw [List.mem_singleton.mp hd]; exact Nat.zero_le _), _, rfl, ?_⟩
        cases it with
        | op b =>
          rw [decide_eq_true ((opk low).mpr ⟨b, rfl⟩)]
          exact iteT (q2 (kn fun k e => by cases e) _ (same (ot.trans (.of sq))))
        | kd k =>
          rw [decide_eq_false (fun h => by obtain ⟨b', z⟩ := (opk low).mp h; cases z)]
          exact iteF ⟨_, rfl, l, _, _, _, rfl, rfl, SqL.of (sq _ _ ey), atI_nat (j := 0) rfl, q1 k (by unfold kindL; rw [if_neg (by omega), er]) _ _ (same (ot.trans (.of sq))) (iv.mono sq.tups)⟩
    · have ne : ¬ V.int (ys.length : Int) = V.int 1 := fun e => by
        injection e with e
        have l1 : p.length = 1 := by omega
        match p, l1 with
        | [i], _ => exact c1 ⟨i, rfl⟩
      rw [decide_eq_false ne]
      exact iteT (iteT (q2 (kn fun k e => c1 ⟨_, e⟩) _ (same ot)))
end
end K12
namespace L2
open PySem PySem.Spec PyProof.Rows
section
variable {X : Cx}
theorem countP_at {α : Type} {e : Value → Bool} {q : α → Bool} : ∀ {its : List Value} {ds : List α}, its.length = ds.length → (∀ (i : Nat) (y : Value), its[i]? = some y → ∃ d, ds[i]? = some d ∧ e y = q d) → its.countP e = ds.countP q
  | [], [], _, _ => rfl
  | y :: its, d :: ds, hl, h => by
    obtain ⟨d', e1, e2⟩ := h 0 y rfl
    cases e1
    rw [List.countP_cons, List.countP_cons, e2, countP_at (its := its) (ds := ds) (Nat.succ.inj hl) fun i y hy => h (i + 1) y hy]
open Classical in
def rCountX : V → List V → Hp → VK → Prop := fun x vs H Q => ∃ (l : Addr) (xs : List V) (y : V) (ds : List Tx) (k : Tx), x = .ref l ∧ vs = [y] ∧ H l = some (.lst xs) ∧ Xas H ds xs ∧ Xa H k y ∧ (∀ d ∈ ds, d.dp ≤ 60) ∧ Q (.int ((ds.countP fun d => decide (d = k) : Nat) : Int)) H
theorem mt_countX (hu : X.A.units + 64 < cLine) : MtR X "list.count" rCountX := by
  intro pins s σ H x vs v us Q I rx rv h
  obtain ⟨l, xs, y, ds, k, rfl, rfl, hH, hL, hk, hd, q⟩ := h
  cases rx
  obtain ⟨u, rfl, ru⟩ := rv.one
  obtain ⟨z, its, n, r, hl, e⟩ := I.lstM hH
  obtain ⟨eb, h1, h2⟩ := eq_items I hL r hk ru hd hu
  refine call_meets F.slot_list_count ⟨_, e, rfl⟩ F.entry_list_count (F.args_list_count_2 _ _) (SeqAt.list_countAt l its.toArray n none #[] u eb) ⟨e, fun y hy => (h1 y hy).2, ?_⟩
  have ec : its.toArray.toList.countP eb = ds.countP fun d => decide (d = k) := countP_at (by have := Xas.len hL; rw [List.toList_toArray]; omega) (fun i y hy => by
    obtain ⟨d, a, b⟩ := h2 i y (by simpa using hy)
    refine ⟨d, a, b.trans ?_⟩
    congr)
  rw [ec]
  exact ⟨.int _, H, I.tok _, ⟨_, rfl⟩, q⟩
theorem strs_back : ∀ {ws : List Str} {its : List Value}, Vals (ws.map V.str) its → ∃ l : List (Str × Tok), its = strValues l ∧ l.map (·.1) = ws
  | [], _, .nil => ⟨[], rfl, rfl⟩
  | w :: ws, _, .cons r t => by
    obtain ⟨tk, rfl⟩ := r
    obtain ⟨l, e1, e2⟩ := strs_back t
    exact ⟨(w, tk) :: l, by rw [e1]; rfl, by rw [List.map_cons, e2]⟩
def rJoin (K : PySem.W.Frag) : V → List V → Hp → VK → Prop := fun x vs H Q => ∃ (sep : Str) (l : Addr) (ws : List Str), x = .str sep ∧ vs = [.ref l] ∧ SqL K H l (ws.map V.str) ∧ (ws.map (·.length)).sum + ws.length * sep.length ≤ 16777216 ∧ Q (.str (Str.join sep ws)) H
theorem mt_join : MtR X "str.join" (rJoin X.K) := by
  intro pins s σ H x vs v us Q I rx rv h
  obtain ⟨sep, l, ws, rfl, rfl, hH, hz, q⟩ := h
  obtain ⟨t, rfl⟩ := rx
  obtain ⟨u, rfl, ru⟩ := rv.one
  cases ru
  obtain ⟨its, r, pl, _⟩ := I.list hH
  obtain ⟨ls, rfl, e2⟩ := strs_back r
  refine SC.join pl.isList e2 (joinOk_of hz) fun t' k => ?_
  rw [show Txt.join sep ws = Str.join sep ws from beq_iff_eq.mp (join_plain_closes sep ws)]
  exact ⟨.str _, H, I.tok _, ⟨_, rfl⟩, q⟩
def rIndex6 : V → List V → Hp → VK → Prop := fun x vs H Q => ∃ (l : Addr) (xs : List V) (y : V) (ds : List Tx) (k : Tx) (j : Nat), x = .ref l ∧ vs = [y] ∧ H l = some (.lst xs) ∧ Xas H ds xs ∧ Xa H k y ∧ (∀ d ∈ ds, d.dp ≤ 60) ∧ ds.length ≤ 6000 ∧ ds[j]? = some k ∧ (∀ m, m < j → ds[m]? ≠ some k) ∧ Q (.int (j : Int)) H
theorem mt_index6 (hu : X.A.units + 64 < cLine) : MtM X "list.index" rIndex6 := by
  intro pins s σ H x vs v us Q I rx rv h
  obtain ⟨l, xs, y, ds, k, j, rfl, rfl, hH, hL, hk, hd, hz, ej, en, q⟩ := h
  cases rx
  obtain ⟨u, rfl, ru⟩ := rv.one
  obtain ⟨z, its, n, r, hl, e⟩ := I.lstM hH
  obtain ⟨eb, h1, h2⟩ := eq_items I hL r hk ru hd hu
  have lds := Xas.len hL
  have hj : j < its.toArray.size := by rw [List.size_toArray]; have := (List.getElem?_eq_some_iff.mp ej).1; omega
  refine call_meets F.slot_list_index ⟨_, e, rfl⟩ F.entry_list_index (F.args_list_index_2 _ _) (SeqAt.list_indexAt l its.toArray n none #[] u eb j hj (by rw [List.size_toArray] at hj; omega) ?_ fun m hm hmj => ?_) ⟨e, fun y hy => (h1 y hy).2, ?_⟩
  · obtain ⟨d, hd', e'⟩ := h2 j its[j] (List.getElem?_eq_getElem (by simpa using hj))
    rw [ej] at hd'
    cases hd'
    show eb its[j] = true
    rw [e', decide_eq_true rfl]
  · have hm' : m < its.length := by simpa using hm
    obtain ⟨d, hd', e'⟩ := h2 m its[m] (List.getElem?_eq_getElem hm')
    show eb its[m] = false
    rw [e']
    exact decide_eq_false fun c => en m hmj (by rw [hd', c])
  · exact ⟨.int (j : Int), H, I.tok _, ⟨_, rfl⟩, q⟩
end
end L2
namespace K12
open PySem L2
def EV : List Nat := [101, 118, 101, 114, 121]
def NO : List Nat := [110, 111]
def IS : List Nat := [105, 115]
def TI : List Nat := [116, 105, 101]
def WI : List Nat := [119, 105, 116, 104, 105, 110]
def TH : List Nat := [116, 104, 101, 110]
def MA : List Nat := [109, 97, 107, 101, 115]
theorem toks_w {x : List Nat} : ∀ {k : Kd}, okK k → Tk.w x ∈ toks k → x = LB ∨ x = LS ∨ wordB (mkS x) = true
  | .nm y, h, hm => by
    have := List.mem_singleton.mp hm
    injection this with e
    exact .inr (.inr (by rw [e, mkS_of]; exact ok_word h))
  | .two a b, h, hm => by
    rcases List.mem_cons.mp hm with e | hm
    · injection e with e; exact .inl e
    · rcases List.mem_append.mp hm with hm | hm
      · rcases List.mem_append.mp hm with hm | hm
        · exact toks_w h.1 hm
        · exact toks_w h.2 hm
      · cases List.mem_singleton.mp hm
  | .som r c, h, hm => by
    rcases List.mem_cons.mp hm with e | hm
    · injection e with e; exact .inr (.inl e)
    · rcases List.mem_cons.mp hm with e | hm
      · injection e with e
        exact .inr (.inr (by rw [e, mkS_of]; unfold wordB; rw [h.1, Bool.or_true]))
      · rcases List.mem_append.mp hm with hm | hm
        · exact toks_w h.2 hm
        · cases List.mem_singleton.mp hm
theorem is_no : wordB (mkS IS) = false := by decide +kernel
theorem is_free {k : Kd} (ok : okK k) : IS ∉ splitB (wrL k) := fun hm => by
  have h : Tk.w IS ∈ tkL (wrL k) := List.mem_flatMap.mpr ⟨IS, hm, by unfold tkP; rw [(strip_id (p := IS) (by decide)).1]; exact List.mem_cons_self⟩
  rw [tk_wr ok] at h
  rcases toks_w ok h with e | e | e
  · exact absurd e (by decide)
  · exact absurd e (by decide)
  · rw [is_no] at e; cases e
theorem jn_app : ∀ {A B : List (List Nat)}, A ≠ [] → B ≠ [] → jn (A ++ B) = jn A ++ 32 :: jn B
  | [], _, h, _ => absurd rfl h
  | [p], [], _, h => absurd rfl h
  | [p], q :: B, _, _ => rfl
  | p :: q :: A, B, _, hB => by
    show p ++ 32 :: jn ((q :: A) ++ B) = (p ++ 32 :: jn (q :: A)) ++ 32 :: jn B
    rw [jn_app (by simp) hB]
    simp
theorem jn_cons {p : List Nat} {B : List (List Nat)} (h : B ≠ []) : jn (p :: B) = p ++ 32 :: jn B := jn_app (A := [p]) (by simp) h
def KK (l : List Nat) (h : List Nat) (c d : Kd) : Prop := okK c ∧ c.nt ≤ 24 ∧ okK d ∧ d.nt ≤ 24 ∧ l = h ++ 32 :: (wrL c ++ 32 :: (IS ++ 32 :: wrL d))
theorem KK.split {l h : List Nat} {c d : Kd} (hh : 32 ∉ h) (k : KK l h c d) : splitB l = h :: (splitB (wrL c) ++ IS :: splitB (wrL d)) := by
  rw [k.2.2.2.2, splitB_app, splitB_app, splitB_app, splitB_one hh, splitB_one (show 32 ∉ IS by decide)]; rfl
theorem KK.of {l h : List Nat} {A B : List (List Nat)} {c d : Kd} (e : splitB l = h :: (A ++ IS :: B)) (hc : kindL (jn A) = some c) (hd : kindL (jn B) = some d) : KK l h c d := by
  obtain ⟨oc, nc, ec⟩ := kindL_iff.mp hc
  obtain ⟨od, nd, ed⟩ := kindL_iff.mp hd
  refine ⟨oc, nc, od, nd, ?_⟩
  have nA : A ≠ [] := fun z => by rw [z, show jn [] = [] from rfl, kindL_e] at hc; cases hc
  have nB : B ≠ [] := fun z => by rw [z, show jn [] = [] from rfl, kindL_e] at hd; cases hd
  rw [← jn_splitB l, e, jn_cons (by simp), jn_app nA (by simp), jn_cons nB, ec, ed]
theorem KK.kinds {l h : List Nat} {A B : List (List Nat)} {c d : Kd} (hh : 32 ∉ h) (k : KK l h c d) (e : splitB l = h :: (A ++ IS :: B)) (nA : IS ∉ A) (nB : IS ∉ B) : kindL (jn A) = some c ∧ kindL (jn B) = some d := by
  have e2 := k.split hh
  rw [e] at e2
  have e3 : A ++ IS :: B = splitB (wrL c) ++ IS :: splitB (wrL d) := (List.cons.inj e2).2
  have key : ∀ {A A' B B' : List (List Nat)}, IS ∉ A → IS ∉ A' → A ++ IS :: B = A' ++ IS :: B' → A = A' ∧ B = B' := fun {A} => by
    induction A with
    | nil =>
      intro A' B B' _ h' e
      cases A' with
      | nil => cases e; exact ⟨rfl, rfl⟩
      | cons x A' => cases e; exact absurd List.mem_cons_self h'
    | cons x A ih =>
      intro A' B B' h h' e
      cases A' with
      | nil => cases e; exact absurd List.mem_cons_self h
      | cons y A' =>
        obtain ⟨e1, e2⟩ := List.cons.inj e
        obtain ⟨a, b⟩ := ih (fun z => h (List.mem_cons_of_mem _ z)) (fun z => h' (List.mem_cons_of_mem _ z)) e2
        exact ⟨by rw [e1, a], b⟩
  obtain ⟨ea, eb⟩ := key nA (is_free k.1) e3
  exact ⟨kindL_iff.mpr ⟨k.1, k.2.1, by rw [ea, jn_splitB]⟩, kindL_iff.mpr ⟨k.2.2.1, k.2.2.2.1, by rw [eb, jn_splitB]⟩⟩
def SayL (l : List Nat) : Say → Prop
  | .every c d => KK l EV c d
  | .no c d => KK l NO c d
  | .thing a c => thingB a = true ∧ okK c ∧ c.nt ≤ 24 ∧ l = a.cps.toList ++ 32 :: (IS ++ 32 :: wrL c)
  | .tied a r b => thingB a = true ∧ nameB r = true ∧ thingB b = true ∧ l = a.cps.toList ++ 32 :: (r.cps.toList ++ 32 :: b.cps.toList)
  | .within r s => nameB r = true ∧ nameB s = true ∧ l = TI ++ 32 :: (r.cps.toList ++ 32 :: (WI ++ 32 :: s.cps.toList))
  | .makes r s t => nameB r = true ∧ nameB s = true ∧ nameB t = true ∧ l = TI ++ 32 :: (r.cps.toList ++ 32 :: (TH ++ 32 :: (s.cps.toList ++ 32 :: (MA ++ 32 :: t.cps.toList))))
end K12
namespace K12
open PySem L2
def WiL (z r s : Str) : Prop := nameB r = true ∧ nameB s = true ∧ z.cps.toList = r.cps.toList ++ 32 :: (WI ++ 32 :: s.cps.toList)
def MaL (z r s t : Str) : Prop := nameB r = true ∧ nameB s = true ∧ nameB t = true ∧ z.cps.toList = r.cps.toList ++ 32 :: (TH ++ 32 :: (s.cps.toList ++ 32 :: (MA ++ 32 :: t.cps.toList)))
def spRTies (C : Addr) : Sp := fun vs H Q E => ∃ z : Str, vs = [.str z] ∧ txt z ∧ (∀ r s, WiL z r s → ∀ H' v, Same H H' → IsS H' [.nm "within", .nm r, .nm s] v → Q v H') ∧
  (∀ r s t, MaL z r s t → ∀ H' v, Same H H' → IsS H' [.nm "makes", .nm r, .nm s, .nm t] v → Q v H') ∧ ((∀ r s, ¬ WiL z r s) → (∀ r s t, ¬ MaL z r s t) → ∀ H', Same H H' → E (.ref C) none H')
def spReadS (C : Addr) : Sp := fun vs H Q E => ∃ z : Str, vs = [.str z] ∧ txt z ∧ (∀ S, SayL z.cps.toList S → ∀ H' v, Same H H' → IsS H' S.ks v → Q v H') ∧ ((∀ S, ¬ SayL z.cps.toList S) → ∀ H', Same H H' → E (.ref C) none H')
theorem part_first (z : Str) : (32 ∉ z.cps.toList ∧ Txt.partition z (Str.ofString " ") = (z, Str.empty, Str.empty)) ∨ ∃ h r, 32 ∉ h ∧ z.cps.toList = h ++ 32 :: r ∧ Txt.partition z (Str.ofString " ") = (mkS h, Str.ofString " ", mkS r) := by
  cases e : splitB z.cps.toList with
  | nil => exact absurd e (splitB_ne _)
  | cons p ps =>
    have hp : 32 ∉ p := splitB_no z.cps.toList p (by rw [e]; simp)
    have ej := jn_splitB z.cps.toList
    rw [e] at ej
    cases ps with
    | nil =>
      have ej' : p = z.cps.toList := ej
      refine .inl ⟨by rw [← ej']; exact hp, ?_⟩
      rcases part_list (z := z) (y := Str.ofString " ") (by decide +kernel) with ⟨h, _⟩ | ⟨h, r, ez, _⟩
      · exact h
      · exfalso
        rw [lit_bl] at ez
        rw [← ej'] at ez
        exact hp (by rw [ez]; simp)
    | cons q r =>
      have ej' : p ++ 32 :: jn (q :: r) = z.cps.toList := ej
      exact .inr ⟨p, jn (q :: r), hp, ej'.symm, part_blank ej'.symm hp⟩
theorem thing_ne {a : Str} (h : thingB a = true) : a.cps.toList ≠ EV ∧ a.cps.toList ≠ NO ∧ a.cps.toList ≠ TI := by
  obtain ⟨_, _, c, r, e, hb, _⟩ := thing_len h
  unfold bigC at hb
  have := of_decide_eq_true hb
  refine ⟨fun z => ?_, fun z => ?_, fun z => ?_⟩ <;> (rw [e] at z; cases z; omega)
def Say.hd : Say → List Nat
  | .every _ _ => EV
  | .no _ _ => NO
  | .thing a _ => a.cps.toList
  | .tied a _ _ => a.cps.toList
  | .within _ _ => TI
  | .makes _ _ _ => TI
theorem sayL_hd {l : List Nat} {S : Say} (h : SayL l S) : ∃ r, l = S.hd ++ 32 :: r ∧ 32 ∉ S.hd := by
  cases S with
  | every c d => exact ⟨_, h.2.2.2.2, (by decide : 32 ∉ EV)⟩
  | no c d => exact ⟨_, h.2.2.2.2, (by decide : 32 ∉ NO)⟩
  | thing a c => exact ⟨_, h.2.2.2, thing_no32 h.1⟩
  | tied a r b => exact ⟨_, h.2.2.2, thing_no32 h.1⟩
  | within r s => exact ⟨_, h.2.2, (by decide : 32 ∉ TI)⟩
  | makes r s t => exact ⟨_, h.2.2.2, (by decide : 32 ∉ TI)⟩
theorem mk_EV : mkS EV = "every" := strX (by rw [mkS_l]; decide +kernel)
theorem mk_NO : mkS NO = "no" := strX (by rw [mkS_l]; decide +kernel)
theorem mk_TI : mkS TI = "tie" := strX (by rw [mkS_l]; decide +kernel)
theorem flat_en : ([V.str "every", V.str "no"] : List V).all flatV = true := by decide +kernel
theorem part_say {z : Str} (hz : txt z) : ∃ (h : List Nat) (b rs : Str), 32 ∉ h ∧ Txt.partition z (Str.ofString " ") = (mkS h, b, rs) ∧ txt (mkS h) ∧ txt rs ∧ (rs.cps.toList ≠ [] → z.cps.toList = h ++ 32 :: rs.cps.toList) ∧ ∀ S, SayL z.cps.toList S → h = S.hd ∧ z.cps.toList = h ++ 32 :: rs.cps.toList := by
  rcases part_first z with ⟨n, e⟩ | ⟨h, r, n, ez, e⟩
  · refine ⟨z.cps.toList, Str.empty, Str.empty, n, by rw [mkS_of]; exact e, by rw [mkS_of]; exact hz, txt_e, fun h => absurd lit_e h, fun S hS => ?_⟩
    obtain ⟨r, er, _⟩ := sayL_hd hS
    exact absurd (by rw [er]; simp) n
  · have tt := txt_pre hz ez
    have tr := (txt_pre (z := mkS (32 :: r)) tt.2 (h := [32]) (r := r) (by rw [mkS_l]; rfl)).2
    refine ⟨h, _, mkS r, n, e, tt.1, tr, fun _ => by rw [mkS_l]; exact ez, fun S hS => ?_⟩
    obtain ⟨r', er, n'⟩ := sayL_hd hS
    obtain ⟨e1, e2⟩ := app_sep n n' (ez.symm.trans er)
    exact ⟨e1, by rw [mkS_l]; exact ez⟩
section
variable {P : Program} {w : World} {K : PySem.W.Frag} {mg : Str → Option Value} {base : Heap} {f g e a1 a2 a3 a4 a5 C : Addr} {fd gd ed d1 d2 d3 d4 d5 : FuncData}
theorem scReadS : FnScope ["text", "head", "blank", "rest"] ["text"] (defScope sReadS) := ⟨rfl, rfl, rfl, by decide +kernel, rfl, by decide +kernel, by decide +kernel⟩
theorem ok_readS (F : Fun K "read" "read" sReadS f fd) (MkNT : MkX0 K C) (mNT : mg "NoText" = some (.ref C))
    (Gok : FnOk P w K mg base (CXK P w) 32 a1 d1 ["form", "rest"] (spRKinds C)) (bGok : Binds K d1 ["form", "rest"] []) (kGok : PySem.W.keepIn K (.ref a1) = true) (mGok : mg "read_of_kinds" = some (.ref a1))
    (Got : FnOk P w K mg base (CXK P w) 32 a2 d2 ["thing", "rest"] (spRThing C)) (bGot : Binds K d2 ["thing", "rest"] []) (kGot : PySem.W.keepIn K (.ref a2) = true) (mGot : mg "read_of_thing" = some (.ref a2))
    (Goi : FnOk P w K mg base (CXK P w) 32 a3 d3 ["rest"] (spRTies C)) (bGoi : Binds K d3 ["rest"] []) (kGoi : PySem.W.keepIn K (.ref a3) = true) (mGoi : mg "read_of_ties" = some (.ref a3))
    (Gt : FnOk P w K mg base CX0 3 a4 d4 ["text"] spThing) (bGt : Binds K d4 ["text"] []) (kGt : PySem.W.keepIn K (.ref a4) = true) (mGt : mg "is_thing" = some (.ref a4)) :
    FnOk P w K mg base (CXK P w) 33 f fd ["text"] (spReadS C) := by
  refine F.okX scReadS (fun vs H Q E h => ?_) (fun cdv A outer s H vs Q E hr h => ?_)
  · obtain ⟨z, rfl, _⟩ := h; rfl
  obtain ⟨z, rfl, hz, q1, q2⟩ := h
  have hrok := hr
  have hrot := hr
  have hroi := hr
  have hrt := hr.mono (show 3 ≤ 32 by decide)
  refine ⟨_, @pss_cons _ _ _ _ _ (by exact PS.nox (by exact ps_asg (pe_bm PySem.F.plainAttrs_str PySem.F.slot_str_partition PySem.F.type_str_partition mt_partition (pv 0) (pa_cons pe_str pa_nil)) (pg_tup rfl (pgs_cons (pg_name (i := 1) scReadS.nd rfl (Or.inl rfl)) (pgs_cons (pg_name (i := 2) scReadS.nd rfl (Or.inl rfl)) (pgs_cons (pg_name (i := 3) scReadS.nd rfl (Or.inl rfl)) pgs_nil))))))
    (@pss_cons _ _ _ _ _ (by exact ps_if (pt_cmpR op_in_seq (pv 1) (by exact pe_tup (@pa_strs _ _ (["every", "no"] : List Str) rfl)) rfl) (@pss_one _ _ _ (by exact @ps_ret _ _ _ _ (pe_call Gok hrok rfl mGok kGok bGok .nil pass_cx (pa_cons (pv 1) (pa_cons (pv 3) pa_nil))))) pss_nil)
    (@pss_cons _ _ _ _ _ (by exact ps_if (pt_cmpR op_eq (pv 1) pe_str (nomark _)) (@pss_one _ _ _ (by exact @ps_ret _ _ _ _ (pe_call Goi hroi rfl mGoi kGoi bGoi .nil pass_cx (pa_cons (pv 3) pa_nil)))) pss_nil)
    (@pss_cons _ _ _ _ _ (by exact ps_if (pt_val (pe_call Gt hrt rfl mGt kGt bGt .nil pass0 (pa_cons (pv 1) pa_nil))) (@pss_one _ _ _ (by exact @ps_ret _ _ _ _ (pe_call Got hrot rfl mGot kGot bGot .nil pass_cx (pa_cons (pv 1) (pa_cons (pv 3) pa_nil))))) pss_nil)
    (@pss_one _ _ _ (by exact ps_raise0 rfl xe_cx MkNT rfl mNT (pa_cons (pe_fstr (pf_str pe_str (pf_repr (pv 1) pf_nil))) pa_nil)))))), ?_⟩
  refine ⟨_, rfl, rfl, _, _, rfl, rfl, by decide +kernel, small5 hz.1, fun p hp => ?_⟩
  obtain ⟨h, b, rs, n32, e, th, tr, full, say⟩ := part_say hz
  rw [e]
  have s0 := same_new hp (.tup [.str (mkS h), .str b, .str rs])
  refine ⟨p, _, rfl, SqT.of upd_same, rfl, _, _, rfl, _, _, rfl, _, _, rfl, rfl, ?_⟩
  generalize upd H p (.tup [.str (mkS h), .str b, .str rs]) = H0 at s0 ⊢
  refine ⟨_, rfl, small5 (by show 2 ≤ 5000; decide), fun p2 hp2 => ?_⟩
  have s1 := s0.trans (same_new hp2 (.tup ((["every", "no"] : List Str).map V.str)))
  refine ⟨p2, _, rfl, .inr (SqT.of upd_same), rfl, flat_en, _, rfl, ?_⟩
  rw [if_neg Bool.false_ne_true]
  show if inV (.str (mkS h)) [V.str "every", V.str "no"] = true then _ else _
  rw [in2]
  generalize upd H0 p2 (.tup ((["every", "no"] : List Str).map V.str)) = H1 at s1 ⊢
  have nb : BIS = 32 :: (IS ++ [32]) := rfl
  have kk : ∀ {c d : Kd}, KdsL rs c d → ∀ {x : List Nat}, h = x → KK z.cps.toList x c d := fun {c d} k {x} ex => by
    have ne : rs.cps.toList ≠ [] := fun z => by
      have h1 := wr_pos k.1
      have h2 := (List.append_eq_nil_iff.mp (k.2.2.2.2.symm.trans z)).1
      rw [h2] at h1
      exact absurd h1 (by decide)
    refine ⟨k.1, k.2.1, k.2.2.1, k.2.2.2.1, ?_⟩
    rw [full ne, k.2.2.2.2, ex, nb]
    simp
  have back : ∀ {c d : Kd} {x : List Nat}, KK z.cps.toList x c d → h = x → z.cps.toList = h ++ 32 :: rs.cps.toList → KdsL rs c d := fun {c d x} k ex ez => by
    refine ⟨k.1, k.2.1, k.2.2.1, k.2.2.2.1, ?_⟩
    have := k.2.2.2.2
    rw [ez, ex] at this
    have := (List.cons.inj (List.append_cancel_left this)).2
    rw [this, nb]
    simp
  by_cases cE : mkS h = "every" ∨ mkS h = "no"
  · rw [decide_eq_true cE]
    refine iteT ⟨_, rfl, _, rfl, mkS h, rs, rfl, tr, fun c d k H2 v s2 i2 => ?_, fun none' H2 s2 => q2 (fun S hS => ?_) H2 (s1.trans s2)⟩
    · rcases cE with cE | cE
      · exact q1 (.every c d) (kk k (mk_inj (cE.trans mk_EV.symm))) H2 v (s1.trans s2) (by rw [cE] at i2; exact i2)
      · exact q1 (.no c d) (kk k (mk_inj (cE.trans mk_NO.symm))) H2 v (s1.trans s2) (by rw [cE] at i2; exact i2)
    · obtain ⟨eh, ez⟩ := say S hS
      have hE : h = EV ∨ h = NO := cE.elim (fun c => .inl (mk_inj (c.trans mk_EV.symm))) (fun c => .inr (mk_inj (c.trans mk_NO.symm)))
      cases S with
      | every c d => exact none' c d (back hS eh ez)
      | no c d => exact none' c d (back hS eh ez)
      | thing a c => have := thing_ne hS.1; rw [eh] at hE; exact hE.elim this.1 this.2.1
      | tied a r b => have := thing_ne hS.1; rw [eh] at hE; exact hE.elim this.1 this.2.1
      | within r s => rw [eh] at hE; exact absurd hE (by show ¬ (TI = EV ∨ TI = NO); decide)
      | makes r s t => rw [eh] at hE; exact absurd hE (by show ¬ (TI = EV ∨ TI = NO); decide)
  rw [decide_eq_false cE]
  have nE : h ≠ EV ∧ h ≠ NO := ⟨fun e => cE (.inl (by rw [e, mk_EV])), fun e => cE (.inr (by rw [e, mk_NO]))⟩
  refine iteF ⟨_, rfl, rfl, _, rfl, ?_⟩
  by_cases cT : h = TI
  · rw [decide_eq_true (show V.str (mkS h) = V.str "tie" by rw [cT, mk_TI])]
    refine iteT ⟨_, rfl, rs, rfl, tr, fun r s k H2 v s2 i2 => q1 (.within r s) ⟨k.1, k.2.1, ?_⟩ H2 v (s1.trans s2) i2, fun r s t k H2 v s2 i2 => q1 (.makes r s t) ⟨k.1, k.2.1, k.2.2.1, ?_⟩ H2 v (s1.trans s2) i2, fun no1 no2 H2 s2 => q2 (fun S hS => ?_) H2 (s1.trans s2)⟩
    · rw [full (by rw [k.2.2]; simp), k.2.2, cT]
    · rw [full (by rw [k.2.2.2]; simp), k.2.2.2, cT]
    · obtain ⟨eh, ez⟩ := say S hS
      cases S with
      | every c d => rw [eh] at cT; exact absurd cT (by show ¬ EV = TI; decide)
      | no c d => rw [eh] at cT; exact absurd cT (by show ¬ NO = TI; decide)
      | thing a c => exact (thing_ne hS.1).2.2 (eh.symm.trans cT)
      | tied a r b => exact (thing_ne hS.1).2.2 (eh.symm.trans cT)
      | within r s =>
        refine no1 r s ⟨hS.1, hS.2.1, ?_⟩
        have := hS.2.2
        rw [ez, cT] at this
        exact (List.cons.inj (List.append_cancel_left this)).2
      | makes r s t =>
        refine no2 r s t ⟨hS.1, hS.2.1, hS.2.2.1, ?_⟩
        have := hS.2.2.2
        rw [ez, cT] at this
        exact (List.cons.inj (List.append_cancel_left this)).2
  rw [decide_eq_false (fun e : V.str (mkS h) = V.str "tie" => cT (mk_inj (by rw [mk_TI]; injection e)))]
  refine iteF ⟨_, rfl, mkS h, rfl, th.1, fun H2 s2 => ⟨_, rfl, ?_⟩⟩
  have s12 := s1.trans s2
  cases ch : thingB (mkS h) with
  | true =>
    refine iteT ⟨_, rfl, _, rfl, mkS h, rs, rfl, th, tr, fun c k H3 v s3 i3 => q1 (.thing (mkS h) c) ⟨ch, k.1, k.2.1, ?_⟩ H3 v (s12.trans s3) i3, fun r b k H3 v s3 i3 => q1 (.tied (mkS h) r b) ⟨ch, k.1, k.2.1, ?_⟩ H3 v (s12.trans s3) i3, fun no1 no2 H3 s3 => q2 (fun S hS => ?_) H3 (s12.trans s3)⟩
    · rw [full (by rw [k.2.2]; simp), k.2.2, mkS_l]; rfl
    · rw [full (by rw [k.2.2]; simp), k.2.2, mkS_l]
    · obtain ⟨eh, ez⟩ := say S hS
      cases S with
      | every c d => exact nE.1 eh
      | no c d => exact nE.2 eh
      | within r s => exact cT eh
      | makes r s t => exact cT eh
      | thing a c =>
        refine no1 c ⟨hS.2.1, hS.2.2.1, ?_⟩
        have := hS.2.2.2
        rw [ez, eh] at this
        exact (List.cons.inj (List.append_cancel_left this)).2
      | tied a r b =>
        refine no2 r b ⟨hS.2.1, hS.2.2.1, ?_⟩
        have := hS.2.2.2
        rw [ez, eh] at this
        exact (List.cons.inj (List.append_cancel_left this)).2
  | false =>
    have l1 : (Str.ofString "no saying begins with ").length ≤ 100 := by decide +kernel
    have b1 := app_le e_le l1
    have b2 := app_le b1 (repr_le th)
    refine iteF ⟨_, rfl, fits6 l1 (by decide), fits6 b1 (by decide), _, rfl, _, rfl, fits6 (repr_le th) (by decide), fits6 b2 (by decide), fits6 b2 (by decide), small5 (by show 1 ≤ 5000; decide), q2 (fun S hS => ?_) _ s12⟩
    obtain ⟨eh, _⟩ := say S hS
    cases S with
    | every c d => exact nE.1 eh
    | no c d => exact nE.2 eh
    | within r s => exact cT eh
    | makes r s t => exact cT eh
    | thing a c => rw [eh, show mkS (Say.thing a c).hd = a from mkS_of a, hS.1] at ch; cases ch
    | tied a r b => rw [eh, show mkS (Say.tied a r b).hd = a from mkS_of a, hS.1] at ch; cases ch
end
end K12
namespace L2
open PySem PySem.Spec PyProof.Rows
theorem comp_loopX {prog : Program} {w : World} {A : Around} {R : Result → Shared → Prop} {s : Shared} {elt target iter : Expr} {ifs : List Expr} {scope : Scope} {pos : Pos} {it acc : Value} {env : Env} (I : Nat → Shared → Prop)
    (turn : ∀ n s, I n s → wpAny (model prog w) A (pyNext it) (fun r s₁ => match r with
      | none => R (.ok .next) s₁
      | some v => wpAny (model prog w) A (letOwnedTupleGo target it v) (fun _ s₁' => wpAny (model prog w) A (assign target env v) (fun _ s₂ =>
          wpAny (model prog w) A (forIn ifs true fun c r => if r = true then do let ok ← isTrue c env (eval c env); pure (ForInStep.yield ok) else pure (ForInStep.yield r)) (fun ok s₃ =>
            if ok = true then wpAny (model prog w) A (eval elt env) (fun x s₄ =>
              wpAny (model prog w) A (call (.builtin "list.append") [acc, x]) (fun _ s₅ => ∃ m, m < n ∧ I m s₅) (fun _ _ => False) s₄) (notedBy (model prog w) A env fun e s' => R (.error e) s') s₃
            else ∃ m, m < n ∧ I m s₃) (fun _ _ => False) s₂) (fun _ _ => False) s₁') (fun _ _ => False) s₁) (fun _ _ => False) s)
    (n : Nat) (h : I n s) : codeAny (model prog w) A (.compLoop (.ListComp elt [⟨target, iter, ifs, 0⟩] scope pos) 0 it acc env) R s := by
  refine codeAny_loop rfl I (fun n s hI => ?_) n h
  show wpAny _ A ((compTurn (.ListComp elt [⟨target, iter, ifs, 0⟩] scope pos) 0 it acc env).onRaise (fun x => do noteFrame x env; theTreesLotGoes x)) _ _ s
  refine wpAny_noted ?_
  rw [compTurn_list]
  refine wpAny_bind (wpAny_standAt (wpAny_bind (wpAny_mono (turn n s hI) (fun r s₁ h₁ => ?_) fun _ _ h' => h'.elim)))
  cases r with
  | none => exact wpAny_pure h₁
  | some v =>
    refine wpAny_bind (wpAny_mono h₁ (fun _ s₁' h₁' => ?_) fun _ _ h' => h'.elim)
    refine wpAny_bind (wpAny_mono h₁' (fun _ s₂ h₂ => wpAny_bind (wpAny_mono h₂ (fun ok s₃ h₃ => ?_) fun _ _ h' => h'.elim)) fun _ _ h' => h'.elim)
    cases ok with
    | false => exact wpAny_pure ⟨rfl, h₃⟩
    | true =>
      exact wpAny_bind (wpAny_bind (wpAny_mono h₃ (fun x s₄ h₄ => wpAny_bind (wpAny_mono h₄ (fun _ s₅ h₅ => wpAny_pure (wpAny_pure ⟨rfl, h₅⟩)) fun _ _ h' => h'.elim)) fun _ _ h' => h'))
section
variable {X : Cx} {tg iter elt : Expr} {ifs : List Expr} {scope : Scope} {pos : Pos} {wi : TI} {g : TG} {tc : TT} {te : TE} {locs cs : List Str} {caps : List Nat}
theorem comp_blockX {pins : List (Addr × Obj)} {σ : St} {H : Hp} {s : Shared} {it : Addr} {fp : List Addr} {tn : Nat → Heap → Prop} {J : It} {RR : Value → Addr → Result → Shared → Prop} {E : Value → Shared → Prop} {Fin : Hp → Prop} {Xe : Value → Shared → Prop}
    (hc : X.calm = true) (hb : blkOk scope X.env.scope = true) (hcap : capsOk X.N scope cs caps = true)
    (I : Inv X pins σ H s) (T : Turn X.prog X.w X.K tg J fp it tn) (st : tn 0 s.heap) (hf : ∀ b ∈ fp, FpOk X pins H b)
    (hg : PG (cxC X scope (locs ++ cs) s H fp) tg g) (ht : PTs (cxC X scope (locs ++ cs) s H fp) ifs tc) (he : PE ((cxC X scope (locs ++ cs) s H fp).wish Xe) elt te)
    (hXe : ∀ e s', Xe e s' → notedBy (model X.prog X.w) X.A (cxC X scope (locs ++ cs) s H fp).env (fun e s' => RR (.ref s.heap.objs.size) (s.heap.objs.size + 1) (.error e) s') e s')
    (h : cmpR J g tc te s.heap.objs.size Fin (stC locs.length caps σ) (upd H s.heap.objs.size (.lst [])))
    (hRR : ∀ σ' H' s', Inv (cxC X scope (locs ++ cs) s H fp) [] σ' H' s' → Fin H' → RR (.ref s.heap.objs.size) (s.heap.objs.size + 1) (.ok .next) s') :
    wpAny (model X.prog X.w) X.A (newList []) (fun acc s₃ => wpAny (model X.prog X.w) X.A (newFunctionEnv scope X.env.globals (capOf X.env.cells scope.names []) [] X.env.qual none .none (some X.env)) (fun cenv s₄ =>
      codeAny (model X.prog X.w) X.A (.compStart (.ListComp elt [⟨tg, iter, ifs, 0⟩] scope pos) 0 (.ref it) acc { cenv with scope := relabel scope X.env }) (RR acc cenv.locals) s₄) E s₃) E s := by
  have hcell : ∀ y ∈ scope.names, y.2 ≠ .cell := fun y hy => (blk_all hb y hy).1
  have hkind := blk_kind hb
  have hlt : ∀ b ∈ fp, b < s.heap.objs.size := fun b hbm => by
    obtain ⟨o, e, _⟩ := T.obj 0 _ st b hbm
    exact Heap.lt_size e
  refine wpAny_newObj_type (wpAny_newFunctionEnv hcell (by intro y hy; simp at hy) (fun h₁ hns₁ hsb₁ => ?_) hkind)
  dsimp only at hns₁ hsb₁ ⊢
  generalize hH2 : s.heap.push { cls := .type "list", dict := none, data := .seq ([] : List Value).toArray } = H2 at hns₁ hsb₁ ⊢
  have hC : H2.objs.size = s.heap.objs.size + 1 := by rw [← hH2, Heap.size_push]
  rw [hC] at hns₁ hsb₁ ⊢
  have hDC : s.heap.objs.size ≠ s.heap.objs.size + 1 := Nat.ne_of_lt (Nat.lt_succ_self _)
  have below : ∀ b, b < s.heap.objs.size → b ≠ s.heap.objs.size + 1 := fun b hb => Nat.ne_of_lt (Nat.lt_succ_of_lt hb)
  have old : ∀ b o, s.heap.get? b = some o → h₁.get? b = some o := fun b o e => hsb₁.extBut b o (below b (Heap.lt_size e)) (Heap.get?_push_of_some _ (hH2 ▸ Heap.get?_push_of_some _ e))
  have hD : h₁.get? s.heap.objs.size = some { cls := .type "list", dict := none, data := .seq ([] : List Value).toArray } :=
    hsb₁.extBut _ _ hDC (Heap.get?_push_of_some _ (hH2 ▸ Heap.get?_push_size _ rfl))
  have frC : H (s.heap.objs.size + 1) = none := I.hok.fresh (Nat.le_succ _)
  have frD : H s.heap.objs.size = none := I.hok.fresh (Nat.le_refl _)
  have J0 : Inv (cxC X scope (locs ++ cs) s H fp) [] (stC locs.length caps σ) (upd H s.heap.objs.size (.lst [])) { s with heap := h₁, toks := s.toks + ([] : List (Str × Value)).length } := by
    refine ⟨cxC_ok I hb hf hlt, rfl, I.bare, Un.laid old (Nat.le_refl _) frD, ⟨_, hns₁, fun i x v e1 e2 e3 => ?_⟩, fun x c e => ?_, ?_, fun x c e => ?_, fun p hp => absurd (show p ∈ ([] : List (Addr × Obj)) from hp) (by simp), ?_, ?_⟩
    · have e1' : (locs ++ cs)[i]? = some x := e1
      have hi : locs.length ≤ i := by
        rcases Nat.lt_or_ge i locs.length with hi | hi
        · unfold stC at e2
          rw [List.getElem?_append_left (by simpa using hi), List.getElem?_replicate] at e2
          split at e2 <;> cases e2
        · exact hi
      rw [List.getElem?_append_right hi] at e1'
      obtain ⟨k, q1, q2, q3⟩ := caps_get hcap e1'
      unfold stC at e2
      rw [List.getElem?_append_right (by simpa using hi), List.length_replicate, List.getElem?_map, q1] at e2
      have e2' : (σ[k]?).getD none = some v := by simpa using e2
      have e4 : σ[k]? = some (some v) := by
        cases z : σ[k]? with
        | none => rw [z] at e2'; cases e2'
        | some o => rw [z] at e2'; simp at e2'; rw [e2']
      have hfr := (blk_all hb _ (PySem.mem_of_lookup q3)).2.2 rfl
      obtain ⟨m, hn, hl⟩ := I.loc
      obtain ⟨u, r, l⟩ := hl k x v q2 e4 (hfr.elim (fun z => .inr (.inl z)) fun z => .inr (.inr z))
      refine ⟨u, r, .inr ⟨?_, ?_⟩⟩
      · exact lookup_relabel_free q3
      · rcases l with ⟨k1, _⟩ | ⟨_, c, ec, z⟩
        · exfalso
          have k1' : X.env.scope.names.lookup x = some .local := k1
          rcases hfr with z | z <;> (rw [k1'] at z; cases z)
        · obtain ⟨c', ec'⟩ := capOf_has (cells := X.env.cells) scope.names [] (PySem.mem_of_lookup q3)
          have q := (capOf_some scope.names [] (free_cells I hb) ec').resolve_left (by simp)
          rw [ec] at q; cases q
          obtain ⟨o, ho, hd⟩ := z
          exact ⟨c, ec', o, old _ _ ho, hd⟩
    · have q := (capOf_some scope.names [] (free_cells I hb) e).resolve_left (by simp)
      obtain ⟨v, o, ho, hd⟩ := I.cell x c q
      exact ⟨v, o, old _ _ ho, hd⟩
    · show upd H s.heap.objs.size (.lst []) (s.heap.objs.size + 1) = none
      rw [upd_ne (Ne.symm hDC)]
      exact frC
    · have q := (capOf_some scope.names [] (free_cells I hb) e).resolve_left (by simp)
      obtain ⟨v, o, ho, hd⟩ := I.cell x c q
      rw [upd_ne (Nat.ne_of_lt (Heap.lt_size ho))]
      exact I.freeC x c q
    · exact I.hok.laid old (Nat.le_refl _) ⟨Nat.zero_le _, [], 0, .nil, hD⟩
    · show (stC locs.length caps σ).length = (locs ++ cs).length
      unfold stC
      rw [List.length_append, List.length_replicate, List.length_map, List.length_append, caps_len hcap]
  obtain ⟨W, ⟨m0, w0⟩, turn⟩ := h
  have stat : ∀ {H' : Hp}, (∀ b ∈ fp, H' b = none) → ∀ b ∈ fp, FpOk (cxC X scope (locs ++ cs) s H fp) [] H' b := fun {H'} hn b hbm => by
    have q := (cxC_ok (N := locs ++ cs) I hb hf hlt)
    refine ⟨hn b hbm, (q.exf b hbm).1, q.exfs b hbm, .inl hbm, (q.exf b hbm).2, fun p hp => absurd (show p ∈ ([] : List (Addr × Obj)) from hp) (by simp)⟩
  have fr0 : ∀ b ∈ fp, upd H s.heap.objs.size (.lst []) b = none := fun b hbm => by rw [upd_ne (Nat.ne_of_lt (hlt b hbm))]; exact (hf b hbm).1
  have loop : ∀ s₃ : Shared, s₃ = { s with heap := h₁, toks := s.toks + ([] : List (Str × Value)).length } →
      codeAny (model X.prog X.w) X.A (.compLoop (.ListComp elt [⟨tg, iter, ifs, 0⟩] scope pos) 0 (.ref it) (.ref s.heap.objs.size) (cxC X scope (locs ++ cs) s H fp).env) (RR (.ref s.heap.objs.size) (s.heap.objs.size + 1)) s₃ := by
    rintro s₃ rfl
    refine comp_loopX (fun n s' => ∃ i σ' H', Inv (cxC X scope (locs ++ cs) s H fp) [] σ' H' s' ∧ tn i s'.heap ∧ (∀ b ∈ fp, H' b = none) ∧ W i n σ' H') ?_ m0
      ⟨0, _, _, J0, T.keep _ _ _ st fun b _ o e => old b o e, fr0, w0⟩
    rintro n s3 ⟨i, σ3, H3, I3, st3, fr3, w3⟩
    rcases turn i n σ3 H3 w3 with ⟨stop, qn⟩ | ⟨go, Nn, hNn, step⟩
    · refine thn (T.done (cxC X scope (locs ++ cs) s H fp) rfl rfl rfl hc i [] s3 σ3 H3 _ I3 (stat fr3) st3 stop) fun r s4 ⟨hr, I4⟩ => ?_
      subst hr
      exact hRR σ3 H3 s4 I4 qn
    · refine thn (T.item (cxC X scope (locs ++ cs) s H fp) rfl rfl rfl hc i [] s3 σ3 H3 _ I3 (stat fr3) st3 go) fun r s4 ⟨u, hr, h4⟩ => ?_
      subst hr
      refine thn h4 fun _ s5 ⟨x, H5, I5, r5, y5, st5, fr5⟩ => ?_
      have I5' := I5.pinned (stat fr5) (T.obj _ _ st5)
      have again : ∀ {σ7 : St} {H7 : Hp} {s7 : Shared}, Inv (cxC X scope (locs ++ cs) s H fp) ([] ++ pinsAt fp s5.heap) σ7 H7 s7 → Nn σ7 H7 →
          ∃ m, m < n ∧ ∃ i σ' H', Inv (cxC X scope (locs ++ cs) s H fp) [] σ' H' s7 ∧ tn i s7.heap ∧ (∀ b ∈ fp, H' b = none) ∧ W i m σ' H' := fun {σ7 H7 s7} I7 n7 => by
        obtain ⟨m', hm, w7⟩ := hNn σ7 H7 n7
        refine ⟨m', hm, i + 1, σ7, H7, I7.unpinned, T.keep _ _ _ st5 fun b hb o e => (I7.pin (b, o) (List.mem_append_right _ (List.mem_append_right _ (mem_pinsAt hb e)))).1, fun b hb => ?_, w7⟩
        obtain ⟨o, e, d⟩ := T.obj _ _ st5 b hb
        exact (I7.pin (b, o) (List.mem_append_right _ (List.mem_append_right _ (mem_pinsAt hb e)))).2.1
      refine thn (hg _ s5 σ3 H5 x u _ I5' r5 (step x H5 y5)) fun _ s6 ⟨σ6, H6, I6, q6⟩ => ?_
      refine thn (ht _ s6 σ6 H6 _ I6 q6) fun b s7 ⟨H7, I7, q7⟩ => ?_
      cases b with
      | false => exact again I7 q7
      | true =>
        refine wpAny_mono (he _ s7 σ6 H7 _ (I7.wish Xe) q7) (fun u8 s8 ⟨v8, H8, I8', r8, xs, e8, z8, q8⟩ => ?_) fun e8 s8 h8 => hXe e8 s8 h8
        have I8 := I8'.unwish
        refine thn (mt_append (X := cxC X scope (locs ++ cs) s H fp) ([] ++ pinsAt fp s5.heap) s8 σ6 H8 (.ref s.heap.objs.size) [v8] (.ref s.heap.objs.size) [u8] (fun _ H9 => Nn σ6 H9) I8 rfl (.cons r8 .nil) ⟨_, xs, v8, rfl, rfl, e8, z8, q8⟩) fun _ s9 ⟨_, H9, I9, _, q9⟩ => ?_
        exact again I9 q9
  exact codeAny_compStart_list (loop _ rfl) (T.self _ 0 _ _ _ (T.keep _ _ _ st fun b _ o e => old b o e) (loop _ rfl))
def XEA (X : Cx) (E : XK) : Prop := ∀ (pins : List (Addr × Obj)) (σ : St) (H : Hp) (s : Shared) (x T : Addr) (cls : Value) (od : Option Addr) (fl : Value), Inv X pins σ H s → H x = none → H T = none → X.s₀.heap.objs.size ≤ x → X.s₀.heap.objs.size ≤ T → Fl s.heap x T cls od fl → E cls od H → X.xe (.ref x) s
def XeC (X : Cx) (E : XK) : Value → Shared → Prop := fun e s' => ∃ (pins : List (Addr × Obj)) (σ : St) (H : Hp) (s : Shared), Inv X pins σ H s ∧ CXK X.prog X.w X.stack H s E e s'
theorem pass_comp {X : Cx} {E : XK} : Passes (CXK X.prog X.w) (X.wish (XeC X E)) E := fun pins σ H s _ _ I h => ⟨pins, σ, H, s, I.unwish, h⟩
theorem noteFrame_congr {x : Value} {env env' : Env} (h : env.frame = env'.frame) : noteFrame x env = noteFrame x env' := by
  unfold noteFrame PySem.frameOf
  rw [h]
theorem fl_setA {M : Model} {A : Around} {E : Value → Shared → Prop} {s : Shared} {x T : Addr} {cls fl : Value} {od fr : Option Addr} {Q : Unit → Shared → Prop} (f : Fl s.heap x T cls od fl)
    (h : ∀ h' fl', (∀ b o, b ≠ T → s.heap.get? b = some o → h'.get? b = some o) → Fl h' x T cls od fl' → Q () { s with heap := h' }) : wpAny M A (setFlight (.ref x) fr) Q E s := by
  obtain ⟨⟨oe, vs, e1, e2, e3, e4, e5⟩, ne, oT, ts, g1, g2, g3⟩ := f
  have z3 : 3 < ts.size := (Array.getElem?_eq_some_iff.mp g3).1
  unfold setFlight
  refine wpAny_bind (wpAny_field e1 e4 e5 ?_)
  rw [if_pos (by simp)]
  have oth : ∀ b, b ≠ T → (s.heap.update T (Obj.mapFields fun a => a.setIfInBounds 3 (Option.elim fr Value.none fun f => rawInt f))).get? b = s.heap.get? b := fun b hb => Heap.get?_update_other _ _ (Ne.symm hb)
  refine wpAny_setField g1 g2 z3 (h _ (Option.elim fr Value.none fun f => rawInt f) (fun b o hb e => (oth b hb).trans e) ⟨⟨oe, vs, (oth x (Ne.symm ne)).trans e1, e2, e3, e4, e5⟩, ne, _, _, Heap.get?_update_self _ g1 (Obj.isFreed_of_fields (Obj.data_mapFields g2 _)), Obj.data_mapFields g2 _, ?_⟩)
  simp [z3]
theorem note_any {M : Model} {A : Around} {E : Value → Shared → Prop} {s : Shared} {base : Heap} {env : Env} {outer : List Env} {L x T : Addr} {cls fl : Value} {od : Option Addr} {Q : Unit → Shared → Prop} (hA : A.frames = some (env :: outer)) (hl : s.heap.FunFrames base (env :: outer)) (hf : env.frame = some L)
    (f : Fl s.heap x T cls od fl) (h0 : Q () s) (h : ∀ h' T', Chg (frs (env :: outer)) x T s.heap h' → Fl h' x T' cls od (rawInt L) → s.heap.objs.size ≤ T' → Q () { s with heap := h' }) :
    wpAny M A (noteFrame (.ref x) env) Q E s := by
  obtain ⟨⟨oe, vs, e1, rfl, rfl, e4, e5⟩, ne, oT, ts, g1, g2, g3⟩ := f
  have nT : T ∉ frs (env :: outer) := fun hm => by
    obtain ⟨_, o, ho, no⟩ := hl.mem hm
    rw [g1] at ho
    cases ho
    exact no ts g2
  unfold noteFrame
  simp only [hf]
  refine wpAny_bind (wpAny_field e1 e4 e5 ?_)
  rw [if_pos (by simp)]
  refine wpAny_bind (wpAny_field g1 g2 g3 ?_)
  by_cases hfl : (fl == rawInt L) = true
  · rw [if_pos hfl]
    exact wpAny_pure h0
  rw [if_neg hfl]
  refine wpAny_bind (wpAny_setField g1 g2 (Array.getElem?_eq_some_iff.mp g3).1 ?_)
  have oth : ∀ b, b ≠ T → (s.heap.update T (Obj.mapFields fun a => a.setIfInBounds 3 Value.none)).get? b = s.heap.get? b := fun b hb => Heap.get?_update_other _ _ (Ne.symm hb)
  have eT := Heap.get?_update_self (Obj.mapFields fun a => a.setIfInBounds 3 Value.none) g1 (Obj.isFreed_of_fields (Obj.data_mapFields g2 _))
  have nr : ∀ b o, s.heap.get? b = some o → (∀ vs, o.data ≠ .fields vs) → b ≠ T := fun b o e no z => by
    rw [z, g1] at e
    cases e
    exact no ts g2
  refine note_core (s := { s with heap := s.heap.update T (Obj.mapFields fun a => a.setIfInBounds 3 Value.none) }) hA (hl.of_keeps fun b o e no => ⟨o, (oth b (nr b o e no)).trans e, rfl⟩) hf ((oth x (Ne.symm ne)).trans e1) e4 (Array.getElem?_eq_some_iff.mp e5).1 fun h' T' c f' z => h h' T' ?_ f' ?_
  · refine ⟨fun b o e n1 n2 n3 => c.keep b o ((oth b n2).trans e) n1 n1 n3, fun b o e n1 n2 => c.slot b o ((oth b n2).trans e) n1 n1, c.hx, fun o e => ?_⟩
    exact ⟨_, c.keep T _ eT ne ne nT⟩
  · have q : (s.heap.update T (Obj.mapFields fun a => a.setIfInBounds 3 Value.none)).objs.size = s.heap.objs.size := by
      obtain ⟨os⟩ := s.heap
      simp [Heap.update]
    have z' : (s.heap.update T (Obj.mapFields fun a => a.setIfInBounds 3 Value.none)).objs.size ≤ T' := z
    rw [q] at z'
    exact z'
theorem xea_cx {P : Program} {w : World} {K : PySem.W.Frag} {mg : Str → Option Value} {base : Heap} {N : List Str} {qual : Str} {scope : Scope} {fA : Addr} {cd : Value} {A : Around} {outer : List Env} {s₀ : Shared} {H₀ : Hp} {E : XK} : XEA (cxOf (CXK P w) P w K mg base N qual scope fA cd A outer s₀ H₀ E) E := by
  intro pins σ H s x T cls od fl J hx hT zx zT f q
  show wpAny _ _ (leaving _ _) _ _ _
  unfold leaving
  refine wpAny_bind (note_any J.ok.frames J.stack rfl f (fl_set f fun h3 k3 f3 => ?_) fun h2 T2 c f2 z2 => fl_set f2 fun h3 k3 f3 => ?_)
  · have c3 : Chg (frs (envOfC qual scope s₀.heap.objs.size fA cd :: outer)) x T s.heap h3 := ⟨fun b o e _ n2 _ => k3 b o n2 e, fun b o e _ n2 => ⟨o.slots, k3 b o n2 e⟩, f3.hx, fun _ _ => let ⟨oT, _, e, _⟩ := f3.nt; ⟨oT, e⟩⟩
    refine ⟨x, T, cls, od, H, rfl, J.os, J.bare, Un.chg J.base c3 zx zT fun b o e hb => ?_, HOk.chg J.hok c3 hx hT fun b hb => J.stkFree b hb, zx, zT, hx, hT, f3, q⟩
    rcases List.mem_cons.mp (J.stkSub b hb) with e2 | e2
    · rw [e2] at e
      exact absurd (Nat.lt_of_lt_of_le (Heap.lt_size e) J.ok.above) (Nat.lt_irrefl _)
    · exact e2
  · exact left_cx (s := s) J c f3 z2 k3 zx zT hx hT q
theorem pe_compX {E : XK} (locs cs : List Str) (caps : List Nat) (hc : X.calm = true) (hxa : XEA X E) (hst : X.stack = X.env :: X.outer) (hfr : X.env.frame = some X.env.locals) (hi : PI X tg iter wi) (hg : ∀ s H fp, PG (cxC X scope (locs ++ cs) s H fp) tg g) (ht : ∀ s H fp, PTs (cxC X scope (locs ++ cs) s H fp) ifs tc) (he : ∀ s H fp, PE ((cxC X scope (locs ++ cs) s H fp).wish (XeC (cxC X scope (locs ++ cs) s H fp) E)) elt te)
    (hb : blkOk scope X.env.scope = true := by rfl) (hcap : capsOk X.N scope cs caps = true := by rfl) (hs : ∀ x, foldedSetIterable iter X.env x = pure x := by intro _; rfl) :
    PE X (.ListComp elt [⟨tg, iter, ifs, 0⟩] scope pos) (tComp wi g tc te locs.length caps) := by
  intro pins s σ H Q I h
  rw [eval_ListComp]
  refine wpAny_comprehension_free (use := none) rfl hs (closure_cap (free_cells I hb)) (blk_kind hb) (fun y hy => (blk_all hb y hy).2.1) (thn (hi pins s σ H _ I h) fun v s1 h1 => thn h1 fun itv s2 h2 => ?_)
  obtain ⟨it, fp, tn, J, H2, e, I2, T, st2, f2, q⟩ := h2
  subst e
  have neL : s2.heap.objs.size + 1 ≠ X.env.locals := Nat.ne_of_gt (Nat.lt_succ_of_lt I2.lt)
  have neC : ∀ x c, X.env.cells.lookup x = some c → c ≠ s2.heap.objs.size + 1 := fun x c e z => by
    obtain ⟨v, hv⟩ := I2.cell x c e
    have h1 : s2.heap.objs.size + 1 < s2.heap.objs.size := z ▸ hv.lt
    exact absurd h1 (Nat.not_lt.mpr (Nat.le_succ _))
  have neP : ∀ p ∈ X.pn ++ pins, p.1 ≠ s2.heap.objs.size + 1 := fun p hp z => by
    have h1 : s2.heap.objs.size + 1 < s2.heap.objs.size := z ▸ Heap.lt_size (I2.pin p hp).1
    exact absurd h1 (Nat.not_lt.mpr (Nat.le_succ _))
  refine comp_blockX (RR := fun acc C => compPost (model X.prog X.w) X.A X.xe none (EP X pins σ Q) acc C) (locs := locs) (cs := cs) (Fin := fun H' => Q (.ref s2.heap.objs.size) H') hc hb hcap I2 T st2 f2 (hg _ _ _) (ht _ _ _) (he _ _ _) ?_ (q _ (I2.hok.fresh (Nat.le_refl _))) ?_
  · rintro e s' ⟨pins1, σ1, H1, s1', J1, x, T1, cls, od, H', rfl, os, bare, un, hok, zx, zT, hx, hT, fl, q3⟩
    have Jc := J1.call' os un hok bare (fun b z => absurd z (by simp))
    have hA : X.A.frames = some (X.env :: X.outer) := by rw [← hst]; exact I.ok.frames
    have hF : s'.heap.FunFrames X.base (X.env :: X.outer) := by rw [← hst]; exact Jc.stack
    show wpAny _ _ (noteFrame (.ref x) _) _ _ _
    rw [noteFrame_congr (env := (cxC X scope (locs ++ cs) s2 H2 fp).env) (env' := X.env) rfl]
    refine note_on hA hF hfr fl fun h2 T2 c f2' z2 => ?_
    have c3 : Chg (frs (cxC X scope (locs ++ cs) s2 H2 fp).stack) x T1 s'.heap h2 := by rw [show (cxC X scope (locs ++ cs) s2 H2 fp).stack = X.env :: X.outer from hst]; exact c
    have J3 := J1.caught (t' := s'.toks) Jc zx zT hx hT c3
    obtain ⟨m, hn, _⟩ := J3.loc
    refine ⟨m, hn, fun h' hs' cenv _ => ?_⟩
    have B3 := cxC_back I2 f2 ((show Inv _ ([] ++ pins1) _ _ _ from J3).unpinned)
    have fr : H' (s2.heap.objs.size + 1) = none := J3.free
    have B4 : Inv X pins σ H' { s' with heap := h', toks := s'.toks } := Inv.turned (s := { s' with heap := h2, toks := s'.toks }) (t' := s'.toks) B3 (it := s2.heap.objs.size + 1) (fun b o hb e => (hs'.2 b hb).trans e) fr neL (.inr (Nat.le_trans I2.sz (Nat.le_succ _))) neC neP
    have ltL : s2.heap.objs.size + 1 < s1'.heap.objs.size := J1.lt
    have ltM : s2.heap.objs.size + 1 < s'.heap.objs.size := Jc.lt
    have zT2 : s2.heap.objs.size ≤ T2 := Nat.le_trans (Nat.le_of_lt (Nat.lt_of_succ_lt ltM)) z2
    have zx2 : s2.heap.objs.size ≤ x := Nat.le_trans (Nat.le_of_lt (Nat.lt_of_succ_lt ltL)) zx
    obtain ⟨y1, y2, y3, y4⟩ := I2.old zT2
    have f4 : Fl h' x T2 cls od (rawInt X.env.locals) := by
      obtain ⟨⟨oe, vs, e1, e2, e3, e4, e5⟩, ne, oT, ts, g1, g2, g3⟩ := f2'
      have nx : x ≠ s2.heap.objs.size + 1 := Nat.ne_of_gt (Nat.lt_of_lt_of_le ltL zx)
      have nT : T2 ≠ s2.heap.objs.size + 1 := Nat.ne_of_gt (Nat.lt_of_lt_of_le ltM z2)
      exact ⟨⟨oe, vs, (hs'.2 x nx).trans e1, e2, e3, e4, e5⟩, ne, oT, ts, (hs'.2 T2 nT).trans g1, g2, g3⟩
    unfold PySem.passOn
    obtain ⟨oe, vs, e1, e2, e3, e4, e5⟩ := f4.ex
    refine wpAny_bind (wpAny_field e1 e4 e5 ?_)
    rw [if_neg (by simp)]
    refine wpAny_bind (fl_setA (s := { s' with heap := h', toks := s'.toks }) f4 fun h5 fl5 k5 f5 => ?_)
    have B5 : Inv X pins σ H' { s' with heap := h5, toks := s'.toks } := Inv.turned (s := { s' with heap := h', toks := s'.toks }) (t' := s'.toks) B4 (it := T2) (fun b o hb e => k5 b o hb e) (Jc.hok.fresh z2) y2 (.inr y1) y3 y4
    exact wpAny_throw (hxa pins σ H' _ x T2 cls od fl5 B5 hx (Jc.hok.fresh z2) (Nat.le_trans I2.sz zx2) y1 f5 q3)
  intro σ' H' s' J' q'
  obtain ⟨m, hn, _⟩ := J'.loc
  refine ⟨m, hn, fun h' hs' => ?_⟩
  have I3 := cxC_back I2 f2 J'
  have fr : H' (s2.heap.objs.size + 1) = none := J'.free
  exact ⟨.ref s2.heap.objs.size, H', I3.turned (t' := s'.toks) (it := s2.heap.objs.size + 1) (fun b o hb e => (hs'.2 b hb).trans e) fr neL (.inr (Nat.le_trans I2.sz (Nat.le_succ _))) neC neP, rfl, q'⟩
end
end L2
namespace K12
open PySem L2
theorem WiL.split {z r s : Str} (h : WiL z r s) : splitB z.cps.toList = [r.cps.toList, WI, s.cps.toList] := by
  rw [h.2.2, splitB_app, splitB_app, splitB_one (name_no32 h.1), splitB_one (by decide : 32 ∉ WI), splitB_one (name_no32 h.2.1)]; rfl
theorem MaL.split {z r s t : Str} (h : MaL z r s t) : splitB z.cps.toList = [r.cps.toList, TH, s.cps.toList, MA, t.cps.toList] := by
  rw [h.2.2.2, splitB_app, splitB_app, splitB_app, splitB_app, splitB_one (name_no32 h.1), splitB_one (by decide : 32 ∉ TH), splitB_one (name_no32 h.2.1), splitB_one (by decide : 32 ∉ MA), splitB_one (name_no32 h.2.2.1)]; rfl
theorem mk_WI : mkS WI = "within" := strX (by rw [mkS_l]; decide +kernel)
theorem mk_TH : mkS TH = "then" := strX (by rw [mkS_l]; decide +kernel)
theorem mk_MA : mkS MA = "makes" := strX (by rw [mkS_l]; decide +kernel)
theorem ndw : ((([("word" : Str)] : List Str) ++ []) : List Str).Nodup := by decide +kernel
theorem len3 {α : Type} {l : List α} (h : l.length = 3) : ∃ a b c, l = [a, b, c] := by
  match l, h with
  | [a, b, c], _ => exact ⟨a, b, c, rfl⟩
theorem len5 {α : Type} {l : List α} (h : l.length = 5) : ∃ a b c d e, l = [a, b, c, d, e] := by
  match l, h with
  | [a, b, c, d, e], _ => exact ⟨a, b, c, d, e, rfl⟩
section
variable {P : Program} {w : World} {K : PySem.W.Frag} {mg : Str → Option Value} {base : Heap} {f g e a1 a2 a3 a4 a5 C : Addr} {fd gd ed d1 d2 d3 d4 d5 : FuncData}
theorem scRTies : FnScope ["rest", "words", "form"] ["rest"] (defScope sRTies) := ⟨rfl, rfl, rfl, by decide +kernel, rfl, by decide +kernel, by decide +kernel⟩
theorem ok_rties (F : Fun K "read_of_ties" "read_of_ties" sRTies f fd) (MkNT : MkX0 K C) (mNT : mg "NoText" = some (.ref C)) (ml : mg "len" = none) (mtu : mg "tuple" = none)
    (Grt : FnOk P w K mg base (CXK P w) 4 a3 d3 ["word"] (spReadTie C)) (bGrt : Binds K d3 ["word"] []) (kGrt : PySem.W.keepIn K (.ref a3) = true) (mGrt : mg "read_tie" = some (.ref a3)) :
    FnOk P w K mg base (CXK P w) 32 f fd ["rest"] (spRTies C) := by
  refine F.okX scRTies (fun vs H Q E h => ?_) (fun cdv A outer s H vs Q E hr h => ?_)
  · obtain ⟨z, rfl, _⟩ := h; rfl
  obtain ⟨z, rfl, hz, q1, q2, q3⟩ := h
  have hrrt := hr.mono (show 4 ≤ 31 by decide)
  refine ⟨_, @pss_cons _ _ _ _ _ (by exact PS.nox (by exact ps_set (i := 1) scRTies.nd rfl (Or.inl rfl) (pe_bm PySem.F.plainAttrs_str PySem.F.slot_str_split PySem.F.type_str_split mt_split5 (pv 0) (pa_cons pe_str pa_nil))))
    (@pss_mid _ _ _ _ _ (by exact ps_if (PW.pt (pw_and (pt_cmpR op_eq (pe_callB call_len_seq rfl ml PySem.boot_len (pa_cons (pv 1) pa_nil)) pe_int (nomark _)) (pw_and1 (pt_cmpR op_eq (pe_ix ix_list (pv 1) pe_int (fun _ _ => rfl)) pe_str (nomark _))))) (@pss_one _ _ _ (by exact PS.nox (by exact ps_set (i := 2) scRTies.nd rfl (Or.inl rfl) pe_str))) (@pss_one _ _ _ (by exact ps_if (PW.pt (pw_and (pt_cmpR op_eq (pe_callB call_len_seq rfl ml PySem.boot_len (pa_cons (pv 1) pa_nil)) pe_int (nomark _)) (pw_and (pt_cmpR op_eq (pe_ix ix_list (pv 1) pe_int (fun _ _ => rfl)) pe_str (nomark _)) (pw_and1 (pt_cmpR op_eq (pe_ix ix_list (pv 1) pe_int (fun _ _ => rfl)) pe_str (nomark _)))))) (@pss_one _ _ _ (by exact PS.nox (by exact ps_set (i := 2) scRTies.nd rfl (Or.inl rfl) pe_str))) (@pss_one _ _ _ (by exact ps_raise0 rfl xe_cx MkNT rfl mNT (pa_cons pe_str pa_nil))))))
    (@pss_one _ _ _ (by exact @ps_ret _ _ _ _ (pe_callTy call_tuple_of rfl mtu PyProof.Rows.boot_tuple (pa_cons (pe_op op_cat (pe_lst (pa_cons (pv 2) pa_nil)) (pe_compX ["word"] [] [] rfl xea_cx rfl rfl (pi_list (pe_slice2 (pv 1))) (fun _ _ _ => pg_name (i := 0) ndw rfl (Or.inl rfl)) (fun _ _ _ => pts_nil) (fun _ _ _ => (pe_call Grt hrrt rfl mGrt kGrt bGrt .nil pass_comp (pa_cons (pv 0) pa_nil))))) pa_nil))))), ?_⟩
  refine ⟨_, rfl, rfl, _, _, rfl, rfl, by decide +kernel, hz.1, fun p hp => ?_⟩
  rw [split_B]
  generalize hW : splitB z.cps.toList = W
  have tx : ∀ x ∈ W, txt (mkS x) := fun x hx => txt_piece hz (by rw [hW]; exact hx)
  have s0 := same_new hp (.lst ((W.map mkS).map V.str))
  have e0 : upd H p (.lst ((W.map mkS).map V.str)) p = some (.lst ((W.map mkS).map V.str)) := upd_same
  generalize upd H p (.lst ((W.map mkS).map V.str)) = H0 at s0 e0 ⊢
  have el : ((W.map mkS).map V.str).length = W.length := by rw [List.length_map, List.length_map]
  have rs : (∀ a c, W ≠ [a, WI, c]) → (∀ a c d, W ≠ [a, TH, c, MA, d]) → E (.ref C) none H0 := fun n1 n2 => q3 (fun r s k => n1 _ _ (hW.symm.trans k.split)) (fun r s t k => n2 _ _ _ (hW.symm.trans k.split)) H0 s0
  refine ⟨fun σ H' => ∃ (fm : Str) (ns : List (List Nat)), H' = H0 ∧ σ = [some (.str z), some (.ref p), some (.str fm)] ∧ ((∃ a c, W = [a, WI, c] ∧ ns = [a, c] ∧ fm = "within") ∨ ∃ a c d, W = [a, TH, c, MA, d] ∧ ns = [a, c, d] ∧ fm = "makes"), ?_, ?_⟩
  · refine ⟨_, rfl, p, _, rfl, .inl (SqL.of e0), rfl, _, rfl, ?_⟩
    rw [el]
    by_cases c3 : W.length = 3
    · obtain ⟨a, b, c, rfl⟩ := len3 c3
      rw [show decide (V.int ((([a, b, c] : List (List Nat)).length : Nat) : Int) = V.int 3) = true from rfl]
      refine iteT ⟨_, rfl, p, _, 1, _, rfl, rfl, SqL.of e0, atI_nat (j := 1) rfl, rfl, _, rfl, ?_⟩
      by_cases cb : b = WI
      · rw [decide_eq_true (show V.str (mkS b) = V.str "within" by rw [cb, mk_WI])]
        exact iteT ⟨_, [a, c], rfl, rfl, .inl ⟨a, c, by rw [cb], rfl, rfl⟩⟩
      · rw [decide_eq_false (fun e : V.str (mkS b) = V.str "within" => cb (mk_inj (by rw [mk_WI]; injection e)))]
        refine iteF ⟨_, rfl, p, _, rfl, .inl (SqL.of e0), rfl, _, rfl, ?_⟩
        rw [el, show decide (V.int ((([a, b, c] : List (List Nat)).length : Nat) : Int) = V.int 5) = false from rfl]
        refine iteF (iteF ⟨small5 (by show 1 ≤ 5000; decide), rs (fun a' c' e => ?_) (fun a' c' d' e => by cases e)⟩)
        cases e
        exact cb rfl
    · rw [decide_eq_false (fun e : V.int ((W.length : Nat) : Int) = V.int 3 => c3 (by injection e with e; omega))]
      refine iteF (iteF ⟨_, rfl, p, _, rfl, .inl (SqL.of e0), rfl, _, rfl, ?_⟩)
      rw [el]
      have n1 : ∀ a c, W ≠ [a, WI, c] := fun a c e => c3 (by rw [e]; rfl)
      by_cases c5 : W.length = 5
      · obtain ⟨a, b, c, d, e, rfl⟩ := len5 c5
        rw [show decide (V.int ((([a, b, c, d, e] : List (List Nat)).length : Nat) : Int) = V.int 5) = true from rfl]
        refine iteT ⟨_, rfl, p, _, 1, _, rfl, rfl, SqL.of e0, atI_nat (j := 1) rfl, rfl, _, rfl, ?_⟩
        by_cases cb : b = TH
        · rw [decide_eq_true (show V.str (mkS b) = V.str "then" by rw [cb, mk_TH])]
          refine iteT ⟨_, rfl, p, _, 3, _, rfl, rfl, SqL.of e0, atI_nat (j := 3) rfl, rfl, _, rfl, ?_⟩
          by_cases cd : d = MA
          · rw [decide_eq_true (show V.str (mkS d) = V.str "makes" by rw [cd, mk_MA])]
            exact iteT ⟨_, [a, c, e], rfl, rfl, .inr ⟨a, c, e, by rw [cb, cd], rfl, rfl⟩⟩
          · rw [decide_eq_false (fun e : V.str (mkS d) = V.str "makes" => cd (mk_inj (by rw [mk_MA]; injection e)))]
            refine iteF ⟨small5 (by show 1 ≤ 5000; decide), rs n1 (fun a' c' d' e' => ?_)⟩
            cases e'
            exact cd rfl
        · rw [decide_eq_false (fun e : V.str (mkS b) = V.str "then" => cb (mk_inj (by rw [mk_TH]; injection e)))]
          refine iteF (iteF ⟨small5 (by show 1 ≤ 5000; decide), rs n1 (fun a' c' d' e' => ?_)⟩)
          cases e'
          exact cb rfl
      · rw [decide_eq_false (fun e : V.int ((W.length : Nat) : Int) = V.int 5 => c5 (by injection e with e; omega))]
        exact iteF (iteF ⟨small5 (by show 1 ≤ 5000; decide), rs n1 (fun a' c' d' e' => c5 (by rw [e']; rfl))⟩)
  rintro σ H' ⟨fm, ns, rfl, rfl, hform⟩
  have tn : ∀ x ∈ ns, txt (mkS x) := fun x hx => tx x (by
    rcases hform with ⟨a, c, rfl, rfl, _⟩ | ⟨a, c, d, rfl, rfl, _⟩
    · rcases List.mem_cons.mp hx with rfl | hx
      · simp
      · rcases List.mem_cons.mp hx with rfl | hx
        · simp
        · exact (List.not_mem_nil hx).elim
    · rcases List.mem_cons.mp hx with rfl | hx
      · simp
      · rcases List.mem_cons.mp hx with rfl | hx
        · simp
        · rcases List.mem_cons.mp hx with rfl | hx
          · simp
          · exact (List.not_mem_nil hx).elim)
  have hns : ns.length ≤ 3 := by rcases hform with ⟨a, c, _, rfl, _⟩ | ⟨a, c, d, _, rfl, _⟩ <;> simp
  have ez : z.cps.toList = jn W := by rw [← hW, jn_splitB]
  have q : (∀ x ∈ ns, nameB (mkS x) = true) → ∀ H2 v, Same H H2 → IsS H2 (.nm fm :: (ns.map mkS).map Kd.nm) v → Q v H2 := fun al H2 v s2 i2 => by
    rcases hform with ⟨a, c, rfl, rfl, rfl⟩ | ⟨a, c, d, rfl, rfl, rfl⟩
    · exact q1 (mkS a) (mkS c) ⟨al a (by simp), al c (by simp), by rw [mkS_l, mkS_l, ez]; rfl⟩ H2 v s2 i2
    · exact q2 (mkS a) (mkS c) (mkS d) ⟨al a (by simp), al c (by simp), al d (by simp), by rw [mkS_l, mkS_l, mkS_l, ez]; rfl⟩ H2 v s2 i2
  have bad : ∀ x ∈ ns, nameB (mkS x) = false → ∀ H2, Same H H2 → E (.ref C) none H2 := fun x hx nx H2 s2 => by
    have key : ∀ {l : List (List Nat)} {y : Str}, y.cps.toList = x → nameB y = true → False := fun {l y} ey ny => by
      rw [← ey, mkS_of, ny] at nx
      cases nx
    refine q3 (fun r s k => ?_) (fun r s t k => ?_) H2 s2
    · have sp := hW.symm.trans k.split
      rcases hform with ⟨a, c, rfl, rfl, rfl⟩ | ⟨a, c, d, rfl, rfl, rfl⟩
      · cases sp
        rcases List.mem_cons.mp hx with rfl | hx
        · exact key (l := []) rfl k.1
        · rcases List.mem_cons.mp hx with rfl | hx
          · exact key (l := []) rfl k.2.1
          · exact (List.not_mem_nil hx).elim
      · cases sp
    · have sp := hW.symm.trans k.split
      rcases hform with ⟨a, c, rfl, rfl, rfl⟩ | ⟨a, c, d, rfl, rfl, rfl⟩
      · cases sp
      · cases sp
        rcases List.mem_cons.mp hx with rfl | hx
        · exact key (l := []) rfl k.1
        · rcases List.mem_cons.mp hx with rfl | hx
          · exact key (l := []) rfl k.2.1
          · rcases List.mem_cons.mp hx with rfl | hx
            · exact key (l := []) rfl k.2.2.1
            · exact (List.not_mem_nil hx).elim
  refine ⟨_, rfl, small2 (by show 1 ≤ 1000; decide), fun l hl => ?_⟩
  have s1 := same_new (H := H') hl (.lst [.str fm])
  have el : upd H' l (.lst [.str fm]) l = some (.lst [.str fm]) := upd_same
  generalize upd H' l (.lst [.str fm]) = H1 at s1 el ⊢
  refine ⟨_, rfl, p, (W.map mkS).map V.str, (ns.map mkS).map V.str, rfl, s1 _ _ e0, ?_, fun r hr' => ?_⟩
  · rcases hform with ⟨a, c, rfl, rfl, _⟩ | ⟨a, c, d, rfl, rfl, _⟩
    · exact .inl ⟨_, _, _, rfl, rfl⟩
    · exact .inr ⟨_, _, _, _, _, rfl, rfl⟩
  have s2 := same_new (H := H1) hr' (.lst ((ns.map mkS).map V.str))
  have er : upd H1 r (.lst ((ns.map mkS).map V.str)) r = some (.lst ((ns.map mkS).map V.str)) := upd_same
  generalize upd H1 r (.lst ((ns.map mkS).map V.str)) = H2 at s2 er ⊢
  have s012 := s0.trans (s1.trans s2)
  refine ⟨r, rfl, ⟨_, SqL.of er⟩, fun D hD => ?_⟩
  refine cmp_by ((ns.map mkS).map V.str).length (fun i σ H3 => (∃ o, σ = [o]) ∧ Same H2 H3 ∧ H3 D = some (.lst (((ns.map mkS).take i).map V.str)) ∧ ∀ x ∈ ns.take i, nameB (mkS x) = true) ⟨⟨_, rfl⟩, same_new hD _, upd_same, fun x hx => (List.not_mem_nil hx).elim⟩ ?_ ?_
  · rintro σ H3 ⟨_, s3, e3, al⟩
    have hall : ((ns.map mkS).take ((ns.map mkS).map V.str).length).map V.str = (ns.map mkS).map V.str := by rw [List.length_map, List.take_length]
    rw [hall] at e3
    rw [List.length_map, List.length_map, List.take_length] at al
    refine ⟨⟨_, SqL.of (s3 _ _ er), Nat.le_refl _⟩, l, D, _, _, rfl, rfl, s3 _ _ (s2 _ _ el), e3, small2 (by rw [List.length_map, List.length_map]; show 1 + _ ≤ 1000; omega), fun pa hpa => ?_⟩
    refine ⟨pa, _, rfl, .inl ⟨SqL.of upd_same, ?_⟩⟩
    intro t ht
    refine q al _ _ (s012.trans (s3.trans ((same_new hpa _).trans (same_new ht _)))) ⟨t, _, rfl, upd_same, ?_⟩
    refine .cons rfl ?_
    have go : ∀ (X : Hp) (l : List Str), KL X (l.map V.str) (l.map Kd.nm) := fun X l => by
      induction l with
      | nil => exact .nil
      | cons a l ih => exact .cons rfl ih
    exact go _ (ns.map mkS)
  · rintro i σ H3 hi ⟨⟨o, rfl⟩, s3, e3, al⟩
    have er3 := s3 _ _ er
    refine ⟨⟨_, ((ns.map mkS).map V.str)[i], SqL.of er3, List.getElem?_eq_getElem hi⟩, ?_⟩
    rintro x H4 ⟨rfl, hx1⟩
    have hxi := hx1 _ (SqL.of er3)
    rw [List.getElem?_map, List.getElem?_map] at hxi
    obtain ⟨n0, hn0, rfl⟩ := Option.map_eq_some_iff.mp hxi
    obtain ⟨n, hn', rfl⟩ := Option.map_eq_some_iff.mp hn0
    have hmem := List.mem_of_getElem? hn'
    refine ⟨_, rfl, mkS n, rfl, tn n hmem, fun on H5 s5 => ⟨_, s5 _ _ e3, ?_, ⟨_, rfl⟩, ?_, ?_, fun x hx => ?_⟩, fun nn H5 s5 => bad n hmem nn H5 (s012.trans (s3.trans s5))⟩
    · rw [List.length_map, List.length_take, List.length_map]
      exact small1000 (by omega)
    · exact same_upd (s3.trans s5) hD
    · rw [upd_same, List.take_add_one, List.getElem?_map, hn', List.map_append]
      rfl
    · rw [List.take_add_one, hn'] at hx
      rcases List.mem_append.mp hx with hx | hx
      · exact al x hx
      · rw [show x = n by simpa using hx]; exact on
end
end K12
namespace K12
open PySem L2
def DueV (b : Bool) (l : List Nat) (H : Hp) (v : V) : Prop := (b = true ∧ ∃ k, kindL l = some k ∧ IsK H k v) ∨ (b = false ∧ ∃ S, SayL l S ∧ IsS H S.ks v)
def NoDue (b : Bool) (l : List Nat) : Prop := (b = true → kindL l = none) ∧ (b = false → ∀ S, ¬ SayL l S)
def spLRead (C : Addr) : Sp := fun vs H Q E => ∃ (z : Str) (b : Bool), vs = [.str z, .bl b] ∧ txt z ∧ (∀ H' v, Same H H' → DueV b z.cps.toList H' v → Q v H') ∧ (NoDue b z.cps.toList → ∀ H', Same H H' → E (.ref C) none H')
def spLRefused : Sp := fun vs H Q _ => ∃ (z : Str) (b : Bool), vs = [.str z, .bl b] ∧ txt z ∧ NoDue b z.cps.toList ∧ ∀ H', Same H H' → Q (.bl true) H'
theorem NoDue.not {b : Bool} {l : List Nat} {H : Hp} {v : V} (n : NoDue b l) (d : DueV b l H v) : False := by
  rcases d with ⟨hb, k, hk, _⟩ | ⟨hb, S, hS, _⟩
  · rw [n.1 hb] at hk; cases hk
  · exact n.2 hb S hS
section
variable {P : Program} {w : World} {K : PySem.W.Frag} {mg : Str → Option Value} {base : Heap} {f g e a1 a2 a3 a4 a5 C Ck c1 c2 c3 c4 c5 : Addr} {fd gd ed d1 d2 d3 d4 d5 : FuncData}
theorem scLRead : FnScope ["_law_text", "_law_bare"] ["_law_text", "_law_bare"] (defScope sLRead) := ⟨rfl, rfl, rfl, by decide +kernel, rfl, by decide +kernel, by decide +kernel⟩
theorem ok_lread (F : Fun K "_law_read" "_law_read" sLRead f fd) (Grk : FnOk P w K mg base (CXK P w) 31 a1 d1 ["text"] (spRead C)) (bGrk : Binds K d1 ["text"] []) (kGrk : PySem.W.keepIn K (.ref a1) = true) (mGrk : mg "read_kind" = some (.ref a1))
    (Grs : FnOk P w K mg base (CXK P w) 33 a2 d2 ["text"] (spReadS C)) (bGrs : Binds K d2 ["text"] []) (kGrs : PySem.W.keepIn K (.ref a2) = true) (mGrs : mg "read" = some (.ref a2)) :
    FnOk P w K mg base (CXK P w) 34 f fd ["_law_text", "_law_bare"] (spLRead C) := by
  refine F.okX scLRead (fun vs H Q E h => ?_) (fun cdv A outer s H vs Q E hr h => ?_)
  · obtain ⟨z, b, rfl, _⟩ := h; rfl
  obtain ⟨z, b, rfl, hz, q1, q2⟩ := h
  have hrrk := hr.mono (show 31 ≤ 33 by decide)
  have hrrs := hr
  refine ⟨_, @pss_cons _ _ _ _ _ (by exact ps_if (pt_val (pv 1)) (@pss_one _ _ _ (by exact @ps_ret _ _ _ _ (pe_call Grk hrrk rfl mGrk kGrk bGrk .nil pass_cx (pa_cons (pv 0) pa_nil)))) pss_nil)
    (@pss_one _ _ _ (by exact @ps_ret _ _ _ _ (pe_call Grs hrrs rfl mGrs kGrs bGrs .nil pass_cx (pa_cons (pv 0) pa_nil)))), ?_⟩
  refine ⟨_, rfl, _, rfl, ?_⟩
  cases b with
  | true => exact iteT ⟨_, rfl, z, rfl, hz, fun k hk H' v s' ik => q1 H' v s' (.inl ⟨rfl, k, hk, ik⟩), fun hn H' s' => q2 ⟨fun _ => hn, (fun h => by cases h)⟩ H' s'⟩
  | false => exact iteF ⟨_, rfl, z, rfl, hz, fun S hS H' v s' iS => q1 H' v s' (.inr ⟨rfl, S, hS, iS⟩), fun hn H' s' => q2 ⟨(fun h => by cases h), fun _ => hn⟩ H' s'⟩
theorem scRefused : FnScope ["_law_text", "_law_bare", "e", "_law_others"] ["_law_text", "_law_bare"] (defScope sRefused) := ⟨rfl, rfl, rfl, by decide +kernel, rfl, by decide +kernel, by decide +kernel⟩
theorem ok_refused (F : Fun K "_law_refused" "_law_refused" sRefused f fd) (mi : mg "isinstance" = none) (mve : mg "ValueError" = none) (xc : XCl K C) (mNT : mg "NoText" = some (.ref C)) (mKE : mg "KinError" = some (.ref Ck)) (m1 : mg "NoFact" = some (.ref c1)) (m2 : mg "NoQuestion" = some (.ref c2)) (m3 : mg "NoRow" = some (.ref c3)) (m4 : mg "NoSaying" = some (.ref c4)) (m5 : mg "TooMany" = some (.ref c5))
    (k1 : PySem.W.kitOne K (.ref C) (.type "ValueError") = some true) (k2 : PySem.W.kitOne K (.ref C) (.ref C) = some true) (k3 : PySem.W.kitAny K (.ref C) [.ref c1, .ref c2, .ref c3, .ref c4, .ref c5] = some false) (xm : PySem.W.exmOne K (.ref C) (.ref Ck) = some true)
    (Glr : FnOk P w K mg base (CXK P w) 34 a1 d1 ["_law_text", "_law_bare"] (spLRead C)) (bGlr : Binds K d1 ["_law_text", "_law_bare"] []) (kGlr : PySem.W.keepIn K (.ref a1) = true) (mGlr : mg "_law_read" = some (.ref a1)) :
    FnOk P w K mg base CX0 35 f fd ["_law_text", "_law_bare"] spLRefused := by
  refine F.ok scRefused (fun vs H Q E h => ?_) (fun cdv A outer s H vs Q E hr h => ?_)
  · obtain ⟨z, b, rfl, _⟩ := h; rfl
  obtain ⟨z, b, rfl, hz, no, q⟩ := h
  have hrlr := hr
  refine ⟨_, @pss_cons _ _ _ _ _ (by exact ps_tryX0 Glr hrlr rfl mGlr kGlr bGlr (pa_cons (pv 0) (pa_cons (pv 1) pa_nil)) rfl mKE scRefused.nd (i := 2) rfl rfl (fun _ => by exact (@pss_cons _ _ _ _ _ (by exact ps_set (i := 3) scRefused.nd rfl (Or.inl rfl) (pe_callB (call_isXT0 (K' := K) rfl) rfl mi PyProof.Rows.boot_isinstance (pa_cons (pv 2) (@pa_consN _ _ _ _ _ (@pe_tup _ _ _ _ _ (pa_cons (pe_glob (v := .ref c1) rfl m1 rfl) (pa_cons (pe_glob (v := .ref c2) rfl m2 rfl) (pa_cons (pe_glob (v := .ref c3) rfl m3 rfl) (pa_cons (pe_glob (v := .ref c4) rfl m4 rfl) (pa_cons (pe_glob (v := .ref c5) rfl m5 rfl) pa_nil)))))) pa_nil rfl)))) (@pss_one _ _ _ (by exact @ps_ret _ _ _ _ (pe_and (pe_callB (call_isX0 (K' := K) rfl) rfl mi PyProof.Rows.boot_isinstance (pa_cons (pv 2) (pa_cons (pe_bltn (v := .ty "ValueError") rfl mve PyProof.Rows.Boot.«ValueError» rfl) pa_nil))) (pe_and (pe_callB (call_isX0 (K' := K) rfl) rfl mi PyProof.Rows.boot_isinstance (pa_cons (pv 2) (pa_cons (pe_glob (v := .ref C) rfl mNT rfl) pa_nil))) (pe_one (pe_not (pv 3))))))))) rfl rfl)
    (@pss_one _ _ _ (by exact @ps_ret _ _ _ _ pe_bl)), ?_⟩
  refine ⟨_, rfl, _, rfl, z, b, rfl, hz, fun H' v s' d => (no.not d).elim, fun _ H' sm => ⟨C, rfl, rfl, xm, fun x hx => ?_⟩⟩
  have s1 := sm.trans (same_new hx (xHeld0 C x))
  have hx1 : upd H' x (xHeld0 C x) x = some (xHeld0 C x) := upd_same
  generalize upd H' x (xHeld0 C x) = H1 at s1 hx1 ⊢
  refine ⟨_, rfl, small5 (by show 5 ≤ 5000; decide), fun p hp => ?_⟩
  have s2 := same_new hp (.tup [.ref c1, .ref c2, .ref c3, .ref c4, .ref c5])
  refine ⟨x, C, p, [c1, c2, c3, c4, c5], false, rfl, s2 _ _ hx1, xc, upd_same, k3, ?_⟩
  have hx2 := s2 _ _ hx1
  generalize upd H1 p (.tup [.ref c1, .ref c2, .ref c3, .ref c4, .ref c5]) = H2 at s2 hx2 ⊢
  refine ⟨_, rfl, x, C, _, _, true, rfl, hx2, xc, .inl ⟨_, rfl, rfl⟩, k1, _, rfl, iteT ⟨_, rfl, x, C, _, _, true, rfl, hx2, xc, .inr ⟨_, rfl, rfl⟩, k2, _, rfl, iteT ⟨_, rfl, _, rfl, q _ (s1.trans s2)⟩⟩⟩
end
end K12
namespace K12
open PySem L2
theorem KK.uniq {l h : List Nat} {c d c' d' : Kd} (hh : 32 ∉ h) (k : KK l h c d) (k' : KK l h c' d') : c = c' ∧ d = d' := by
  obtain ⟨a, b⟩ := k.kinds hh (k'.split hh) (is_free k'.1) (is_free k'.2.2.1)
  rw [jn_splitB, kindL_iff.mpr ⟨k'.1, k'.2.1, rfl⟩] at a
  rw [jn_splitB, kindL_iff.mpr ⟨k'.2.2.1, k'.2.2.2.1, rfl⟩] at b
  exact ⟨(Option.some.inj a).symm, (Option.some.inj b).symm⟩
theorem name_is {r : Str} (h : nameB r = true) : r.cps.toList ≠ IS := word_is (.inr h)
theorem sayL_uniq {l : List Nat} {S S' : Say} (h : SayL l S) (h' : SayL l S') : S = S' := by
  obtain ⟨r, e, n⟩ := sayL_hd h
  obtain ⟨r', e', n'⟩ := sayL_hd h'
  have eh := (app_sep n n' (e.symm.trans e')).1
  have EN : EV ≠ NO := by decide
  have ET : EV ≠ TI := by decide
  have NT : NO ≠ TI := by decide
  have sp : ∀ {a b x y : List Nat}, 32 ∉ a → 32 ∉ b → a ++ 32 :: x = b ++ 32 :: y → a = b ∧ x = y := fun ha hb e => app_sep ha hb e
  cases S with
  | every c d =>
    cases S' with
    | every c' d' => obtain ⟨a, b⟩ := KK.uniq (by decide) h h'; rw [a, b]
    | no c' d' => exact absurd eh EN
    | thing a c => exact absurd eh.symm (thing_ne h'.1).1
    | tied a r b => exact absurd eh.symm (thing_ne h'.1).1
    | within r s => exact absurd eh ET
    | makes r s t => exact absurd eh ET
  | no c d =>
    cases S' with
    | every c' d' => exact absurd eh.symm EN
    | no c' d' => obtain ⟨a, b⟩ := KK.uniq (by decide) h h'; rw [a, b]
    | thing a c => exact absurd eh.symm (thing_ne h'.1).2.1
    | tied a r b => exact absurd eh.symm (thing_ne h'.1).2.1
    | within r s => exact absurd eh NT
    | makes r s t => exact absurd eh NT
  | thing a c =>
    cases S' with
    | every c' d' => exact absurd eh (thing_ne h.1).1
    | no c' d' => exact absurd eh (thing_ne h.1).2.1
    | within r s => exact absurd eh (thing_ne h.1).2.2
    | makes r s t => exact absurd eh (thing_ne h.1).2.2
    | thing a' c' =>
      have e1 := (sp (thing_no32 h.1) (thing_no32 h'.1) (h.2.2.2.symm.trans h'.2.2.2))
      have e2 := (sp (by decide) (by decide) e1.2).2
      have k1 := kindL_iff.mpr ⟨h.2.1, h.2.2.1, rfl⟩
      rw [e2, kindL_iff.mpr ⟨h'.2.1, h'.2.2.1, rfl⟩] at k1
      rw [strX e1.1, Option.some.inj k1]
    | tied a' r b =>
      have e1 := (sp (thing_no32 h.1) (thing_no32 h'.1) (h.2.2.2.symm.trans h'.2.2.2))
      have e2 := (sp (show 32 ∉ IS by decide) (name_no32 h'.2.1) e1.2).1
      exact absurd e2.symm (name_is h'.2.1)
  | tied a r b =>
    cases S' with
    | every c' d' => exact absurd eh (thing_ne h.1).1
    | no c' d' => exact absurd eh (thing_ne h.1).2.1
    | within r s => exact absurd eh (thing_ne h.1).2.2
    | makes r s t => exact absurd eh (thing_ne h.1).2.2
    | thing a' c' =>
      have e1 := (sp (thing_no32 h.1) (thing_no32 h'.1) (h.2.2.2.symm.trans h'.2.2.2))
      have e2 := (sp (name_no32 h.2.1) (show 32 ∉ IS by decide) e1.2).1
      exact absurd e2 (name_is h.2.1)
    | tied a' r' b' =>
      have e1 := (sp (thing_no32 h.1) (thing_no32 h'.1) (h.2.2.2.symm.trans h'.2.2.2))
      have e2 := (sp (name_no32 h.2.1) (name_no32 h'.2.1) e1.2)
      rw [strX e1.1, strX e2.1, strX e2.2]
  | within r s =>
    cases S' with
    | every c' d' => exact absurd eh.symm ET
    | no c' d' => exact absurd eh.symm NT
    | thing a c => exact absurd eh.symm (thing_ne h'.1).2.2
    | tied a r b => exact absurd eh.symm (thing_ne h'.1).2.2
    | within r' s' =>
      have e1 := (sp (by decide) (by decide) (h.2.2.symm.trans h'.2.2)).2
      have e2 := sp (name_no32 h.1) (name_no32 h'.1) e1
      have e3 := (sp (show 32 ∉ WI by decide) (show 32 ∉ WI by decide) e2.2).2
      rw [strX e2.1, strX e3]
    | makes r' s' t' =>
      have e1 := (sp (by decide) (by decide) (h.2.2.symm.trans h'.2.2.2)).2
      have e2 := sp (name_no32 h.1) (name_no32 h'.1) e1
      have e3 := (sp (show 32 ∉ WI by decide) (show 32 ∉ TH by decide) e2.2).1
      exact absurd e3 (by decide)
  | makes r s t =>
    cases S' with
    | every c' d' => exact absurd eh.symm ET
    | no c' d' => exact absurd eh.symm NT
    | thing a c => exact absurd eh.symm (thing_ne h'.1).2.2
    | tied a r b => exact absurd eh.symm (thing_ne h'.1).2.2
    | within r' s' =>
      have e1 := (sp (by decide) (by decide) (h.2.2.2.symm.trans h'.2.2)).2
      have e2 := sp (name_no32 h.1) (name_no32 h'.1) e1
      have e3 := (sp (show 32 ∉ TH by decide) (show 32 ∉ WI by decide) e2.2).1
      exact absurd e3 (by decide)
    | makes r' s' t' =>
      have e1 := (sp (by decide) (by decide) (h.2.2.2.symm.trans h'.2.2.2)).2
      have e2 := sp (name_no32 h.1) (name_no32 h'.1) e1
      have e3 := (sp (show 32 ∉ TH by decide) (show 32 ∉ TH by decide) e2.2).2
      have e4 := sp (name_no32 h.2.1) (name_no32 h'.2.1) e3
      have e5 := (sp (show 32 ∉ MA by decide) (show 32 ∉ MA by decide) e4.2).2
      rw [strX e2.1, strX e4.1, strX e5]
end K12
namespace K12
open PySem L2
theorem az_at {i : Nat} (h : i < 26) : atI (az).cps.toList (i : Int) = some (97 + i) := by
  have e : (az).cps.toList = List.range' 97 26 := by decide +kernel
  rw [e]
  exact atI_nat (by rw [List.getElem?_range' (by omega)]; simp)
theorem az_len : (az).length = 26 := by decide +kernel
def spDName : Sp := fun vs H Q _ => ∃ c : Int, vs = [.int c] ∧ ∀ z : Str, 1 ≤ z.length → z.length ≤ 12 → z.cps.toList.all smallC = true → Q (.str z) H
section
variable {P : Program} {w : World} {K : PySem.W.Frag} {mg : Str → Option Value} {base : Heap} {f g e a1 a2 a3 a4 a5 C : Addr} {fd gd ed d1 d2 d3 d4 d5 : FuncData}
theorem scDName : FnScope ["_law_cell", "_law_letters", "_law_made", "_law_k"] ["_law_cell"] (defScope sLName) := ⟨rfl, rfl, rfl, by decide +kernel, rfl, by decide +kernel, by decide +kernel⟩
theorem ok_dname (F : Fun K "_law_name" "_law_name" sLName f fd) (Gp : FnOk P w K mg base CX0 1 g gd ["_law_cell", "_law_turn", "_law_many"] spPick) (bGp : Binds K gd ["_law_cell", "_law_turn", "_law_many"] []) (kGp : PySem.W.keepIn K (.ref g) = true) (mGp : mg "_law_pick" = some (.ref g)) (mr : mg "range" = none) :
    FnOk P w K mg base CX0 2 f fd ["_law_cell"] spDName := by
  refine F.ok scDName (fun vs H Q E h => ?_) (fun cdv A outer s H vs Q E hr h => ?_)
  · obtain ⟨c, rfl, _⟩ := h; rfl
  obtain ⟨c, rfl, q⟩ := h
  have hrp := hr
  refine ⟨_, @pss_cons _ _ _ _ _ (by exact ps_set (i := 1) scDName.nd rfl (Or.inl rfl) pe_str)
    (@pss_cons _ _ _ _ _ (by exact ps_set (i := 2) scDName.nd rfl (Or.inl rfl) pe_str)
    (@pss_cons _ _ _ _ _ (by exact ps_for PassesOwn.never rfl (pi_range1 rfl mr (pa_cons (pe_op op_add pe_int (pe_call Gp hrp rfl mGp kGp bGp .nil pass0 (pa_cons (pv 0) (pa_cons pe_int (pa_cons pe_int pa_nil))))) pa_nil)) (pg_name (i := 3) scDName.nd rfl (Or.inl rfl)) (@pss_one _ _ _ (by exact ps_set (i := 2) scDName.nd rfl (Or.inl rfl) (pe_op op_add_str (pv 2) (pe_ix ix_str (pv 1) (pe_call Gp hrp rfl mGp kGp bGp .nil pass0 (pa_cons (pv 0) (pa_cons (pe_op op_add pe_int (pv 3)) (pa_cons pe_int pa_nil)))) (fun _ _ => rfl))))))
    (@pss_one _ _ _ (by exact @ps_ret _ _ _ _ (pv 2))))), ?_⟩
  refine ⟨_, rfl, c, 1, 12, rfl, by decide, fun r1 h10 h11 => ⟨_, _, rfl, rfl, _, rfl, by omega, by omega, ?_⟩⟩
  refine for_range (fun i σ H' => H' = H ∧ ∃ (z : Str) (o3 : Option V), σ = [some (.int c), some (.str az), some (.str z), o3] ∧ z.length = i ∧ z.cps.toList.all smallC = true) ⟨rfl, ⟨#[]⟩, none, rfl, rfl, rfl⟩ ?_ ?_
  · rintro i σ H' hi ⟨rfl, z, o3, rfl, hz, hs⟩
    refine ⟨_, rfl, _, rfl, _, rfl, _, rfl, _, _, rfl, rfl, c, _, 26, rfl, by decide, fun r h0 h1 => ?_⟩
    have za := az_at (i := r.toNat) (by omega)
    rw [show ((r.toNat : Nat) : Int) = r by omega] at za
    refine ⟨az, r, _, rfl, rfl, small5 (by rw [az_len]; decide), za, z, _, rfl, rfl, small5 (by show z.length + 1 ≤ 5000; omega), rfl, _, _, rfl, ?_, ?_⟩
    · rw [Str.length_append, hz]; rfl
    · rw [app_l, List.all_append, hs]
      have : smallC (97 + r.toNat) = true := by unfold smallC; exact decide_eq_true (by omega)
      simp [this]
  · rintro σ H' ⟨rfl, z, o3, rfl, hz, hs⟩
    exact ⟨_, rfl, q z (by omega) (by omega) hs⟩
end
end K12
namespace L2
open PySem PySem.Spec PyProof.Rows
theorem mul_mem (x : Str) (n : Int) : ∀ c ∈ (Txt.mul x n).cps.toList, c ∈ x.cps.toList := by
  unfold Txt.mul
  split
  · intro c hc; exact absurd hc (by simp [Str.empty])
  · split
    · exact fun c hc => hc
    · have go : ∀ (m : Nat) (acc : Array Nat), ∀ c ∈ ((List.replicate m x.cps).foldl (· ++ ·) acc).toList, c ∈ acc.toList ∨ c ∈ x.cps.toList := fun m => by
        induction m with
        | zero => exact fun acc c hc => .inl hc
        | succ m ih =>
          intro acc c hc
          rw [List.replicate_succ, List.foldl_cons] at hc
          rcases ih _ c hc with h | h
          · rw [Array.toList_append, List.mem_append] at h
            exact h
          · exact .inr h
      intro c hc
      rcases go _ _ c hc with h | h
      · exact absurd h (by simp)
      · exact h
section
variable {X : Cx}
def rMulS : R2 := fun x y H Q => ∃ (z : Str) (n : Int), x = .str z ∧ y = .int n ∧ z.length ≤ 100 ∧ 0 ≤ n ∧ n ≤ 100 ∧ Q (.str (Txt.mul z n)) H
theorem op_mulS : OpR X (binaryOp .Mult) rMulS := by
  intro pins s σ H x y v u Q I rx ry h
  obtain ⟨z, n, rfl, rfl, hz, h0, h1, q⟩ := h
  obtain ⟨t, rfl⟩ := rx
  obtain ⟨t', rfl⟩ := ry
  refine SB.mul ⟨?_, fun h2 _ => ?_, fun _ _ => ?_⟩ fun t2 k => ⟨.str _, H, I.tok _, ⟨_, rfl⟩, q⟩
  · rw [decide_eq_false (by omega), decide_eq_false (by omega)]; rfl
  · have hd : (100 : Int) ≤ (2 ^ 63 - 1) / n := by
      rw [Int.le_ediv_iff_mul_le (by omega)]
      have : (100 : Int) * n ≤ 100 * 100 := by omega
      exact Int.le_trans this (by decide)
    omega
  · unfold Builtin.Str.tooLong
    rw [decide_eq_false_iff_not]
    have h2 : z.length * n.toNat ≤ 100 * 100 := Nat.mul_le_mul hz (by omega)
    have h3 : 100 * 100 ≤ sizeLine := by decide
    omega
end
end L2
namespace K12
open PySem L2
def wt (n : Nat) (z : Str) : Prop := z.length ≤ n ∧ ∀ c ∈ z.cps.toList, c < 128
theorem wt.app {n m : Nat} {a b : Str} (h : wt n a) (h' : wt m b) : wt (n + m) (a ++ b) := ⟨app_le h.1 h'.1, fun c hc => by
  rw [app_l] at hc
  exact (List.mem_append.mp hc).elim (h.2 c) (h'.2 c)⟩
theorem wt.mono {n m : Nat} {a : Str} (h : wt n a) (hn : n ≤ m) : wt m a := ⟨Nat.le_trans h.1 hn, h.2⟩
theorem wt_lit {n : Nat} {z : Str} (h : (decide (z.length ≤ n) && z.cps.toList.all fun c => decide (c < 128)) = true) : wt n z := by
  rw [Bool.and_eq_true, List.all_eq_true] at h
  exact ⟨of_decide_eq_true h.1, fun c hc => of_decide_eq_true (h.2 c hc)⟩
theorem wt_small {z : Str} (h1 : z.length ≤ 12) (h2 : z.cps.toList.all smallC = true) : wt 12 z := ⟨h1, fun c hc => by
  have := List.all_eq_true.mp h2 c hc
  unfold smallC at this
  have := of_decide_eq_true this
  omega⟩
theorem wt_mul {n k : Nat} {z : Str} {m : Int} (h : wt n z) (hm : m ≤ (k : Int)) : wt (n * k) (Txt.mul z m) := ⟨PyProof.Rows.len_mul_leN h.1 hm, fun c hc => h.2 c (mul_mem z m c hc)⟩
theorem wt_e {n : Nat} : wt n Str.empty := ⟨Nat.zero_le _, fun c hc => by rw [lit_e] at hc; exact (List.not_mem_nil hc).elim⟩
theorem wt.fit {n m : Nat} {a b : Str} (h : wt n a) (h' : wt m b) (hn : n + m ≤ 1000000) : a.length + b.length ≤ sizeLine := small6 (Nat.le_trans (Nat.add_le_add h.1 h'.1) hn)
def spWritten (K : PySem.W.Frag) : Sp := fun vs H Q _ => ∃ (a : Addr) (ns : List Int), vs = [.ref a] ∧ SqL K H a (ns.map V.int) ∧ ns.length ≤ 33 ∧ ∀ H' z, Same H H' → wt 700 z → (0 < ns.length → 0 < z.length) → Q (.str z) H'
section
variable {P : Program} {w : World} {K : PySem.W.Frag} {mg : Str → Option Value} {base : Heap} {f g e a1 a2 a3 a4 a5 C : Addr} {fd gd ed d1 d2 d3 d4 d5 : FuncData}
theorem scWritten : FnScope ["_law_group", "_law_text", "_law_many", "_law_head", "_law_k", "_law_cell", "_law_leaf"] ["_law_group"] (defScope sWritten) := ⟨rfl, rfl, rfl, by decide +kernel, rfl, by decide +kernel, by decide +kernel⟩
theorem ok_written (F : Fun K "_law_written" "_law_written" sWritten f fd) (ml : mg "len" = none) (me : mg "enumerate" = none) (Gp : FnOk P w K mg base CX0 1 g gd ["_law_cell", "_law_turn", "_law_many"] spPick) (bGp : Binds K gd ["_law_cell", "_law_turn", "_law_many"] []) (kGp : PySem.W.keepIn K (.ref g) = true) (mGp : mg "_law_pick" = some (.ref g))
    (Gnm : FnOk P w K mg base CX0 2 a1 d1 ["_law_cell"] spDName) (bGnm : Binds K d1 ["_law_cell"] []) (kGnm : PySem.W.keepIn K (.ref a1) = true) (mGnm : mg "_law_name" = some (.ref a1)) :
    FnOk P w K mg base CX0 3 f fd ["_law_group"] (spWritten K) := by
  refine F.ok scWritten (fun vs H Q E h => ?_) (fun cdv A outer s H vs Q E hr h => ?_)
  · obtain ⟨a, ns, rfl, _⟩ := h; rfl
  obtain ⟨a, ns, rfl, hS, h33, q⟩ := h
  have hrp := hr.mono (show 1 ≤ 2 by decide)
  have hrnm := hr
  refine ⟨_, @pss_cons _ _ _ _ _ (by exact ps_set (i := 1) scWritten.nd rfl (Or.inl rfl) pe_str)
    (@pss_mid _ _ _ _ _ (by exact ps_if (PW.pt (pw_and (pt_cmpR op_gt (pe_callB call_len_seq rfl ml PySem.boot_len (pa_cons (pv 0) pa_nil)) pe_int (nomark _)) (pw_and1 (pt_cmpR op_eq (pe_op op_mod (pe_op op_fdiv (pe_ix ix_list (pv 0) pe_int (fun _ _ => rfl)) pe_int) pe_int) pe_int (nomark _))))) (@pss_cons _ _ _ _ _ (by exact ps_set (i := 2) scWritten.nd rfl (Or.inl rfl) (pe_op op_add pe_int (pe_call Gp hrp rfl mGp kGp bGp .nil pass0 (pa_cons (pe_ix ix_list (pv 0) pe_int (fun _ _ => rfl)) (pa_cons pe_int (pa_cons pe_int pa_nil)))))) (@pss_cons _ _ _ _ _ (by exact ps_set (i := 3) scWritten.nd rfl (Or.inl rfl) (pe_op op_add_str (pe_op op_add_str (pe_ix ix_list (pe_lst (pa_cons pe_str (pa_cons pe_str pa_nil))) (pe_call Gp hrp rfl mGp kGp bGp .nil pass0 (pa_cons (pe_ix ix_list (pv 0) pe_int (fun _ _ => rfl)) (pa_cons pe_int (pa_cons pe_int pa_nil)))) (fun _ _ => rfl)) (pe_call Gnm hrnm rfl mGnm kGnm bGnm .nil pass0 (pa_cons (pe_ix ix_list (pv 0) (pe_un un_neg pe_int) (fun _ _ => rfl)) pa_nil))) pe_str)) (@pss_one _ _ _ (by exact @ps_ret _ _ _ _ (pe_op op_add_str (pe_op op_add_str (pe_op op_mulS (pv 3) (pv 2)) (pe_call Gnm hrnm rfl mGnm kGnm bGnm .nil pass0 (pa_cons (pe_ix ix_list (pv 0) pe_int (fun _ _ => rfl)) pa_nil))) (pe_op op_mulS pe_str (pv 2))))))) pss_nil)
    (@pss_cons _ _ _ _ _ (by exact ps_for PassesOwn.never rfl (pi_enum rfl me (pa_cons (pv 0) pa_nil)) (pg_tup rfl (pgs_cons (pg_name (i := 4) scWritten.nd rfl (Or.inl rfl)) (pgs_cons (pg_name (i := 5) scWritten.nd rfl (Or.inl rfl)) pgs_nil))) (@pss_cons _ _ _ _ _ (by exact ps_set (i := 6) scWritten.nd rfl (Or.inl rfl) (pe_call Gnm hrnm rfl mGnm kGnm bGnm .nil pass0 (pa_cons (pv 5) pa_nil))) (@pss_one _ _ _ (by exact ps_if (pt_cmpR op_eq (pv 4) pe_int (nomark _)) (@pss_one _ _ _ (by exact ps_set (i := 1) scWritten.nd rfl (Or.inl rfl) (pv 6))) (@pss_one _ _ _ (by exact ps_if (pt_cmpR op_eq (pe_op op_mod (pv 5) pe_int) pe_int (nomark _)) (@pss_one _ _ _ (by exact ps_set (i := 1) scWritten.nd rfl (Or.inl rfl) (pe_op op_add_str (pe_op op_add_str (pe_op op_add_str (pe_op op_add_str pe_str (pv 1)) pe_str) (pv 6)) pe_str))) (@pss_one _ _ _ (by exact ps_if (pt_cmpR op_eq (pe_op op_mod (pv 5) pe_int) pe_int (nomark _)) (@pss_one _ _ _ (by exact ps_set (i := 1) scWritten.nd rfl (Or.inl rfl) (pe_op op_add_str (pe_op op_add_str (pe_op op_add_str (pe_op op_add_str pe_str (pv 6)) pe_str) (pv 1)) pe_str))) (@pss_one _ _ _ (by exact ps_if (pt_cmpR op_eq (pe_op op_mod (pv 5) pe_int) pe_int (nomark _)) (@pss_one _ _ _ (by exact ps_set (i := 1) scWritten.nd rfl (Or.inl rfl) (pe_op op_add_str (pe_op op_add_str (pe_op op_add_str (pe_op op_add_str pe_str (pv 6)) pe_str) (pv 1)) pe_str))) pss_nil))))))))))
    (@pss_one _ _ _ (by exact @ps_ret _ _ _ _ (pv 1))))), ?_⟩
  have iat : ∀ {j : Nat}, j < ns.length → ∃ n : Int, atI (ns.map V.int) (j : Int) = some (.int n) := fun {j} hj => ⟨ns[j], atI_nat (by rw [List.getElem?_map, List.getElem?_eq_getElem hj]; rfl)⟩
  refine ⟨fun σ H' => σ = [some (.ref a), some (.str Str.empty), none, none, none, none, none] ∧ Same H H', ?_, ?_⟩
  · refine ⟨_, rfl, a, _, rfl, .inl hS, _, _, rfl, rfl, _, rfl, ite2 (fun c => ?_) (fun c => iteF ⟨rfl, Same.refl _⟩)⟩
    have c' : (0 : Int) < ((ns.map V.int).length : Int) := of_decide_eq_true c
    rw [List.length_map] at c'
    obtain ⟨n0, e0⟩ := iat (j := 0) (by omega)
    have nl : ∃ nl : Int, atI (ns.map V.int) (-1) = some (.int nl) := by
      refine ⟨ns[ns.length - 1], at_neg (k := 1) (by decide) (by rw [List.length_map]; omega) ?_⟩
      rw [List.length_map, List.getElem?_map, List.getElem?_eq_getElem (by omega)]; rfl
    obtain ⟨nl, el⟩ := nl
    refine ⟨_, rfl, a, _, _, _, rfl, rfl, hS, e0, _, _, rfl, rfl, ⟨by decide, by decide⟩, _, _, rfl, rfl, (show (0 : Int) < 4 by decide), rfl, _, rfl, ite2 (fun _ => ?_) (fun _ => ⟨rfl, Same.refl _⟩)⟩
    refine ⟨_, rfl, a, _, _, _, rfl, rfl, hS, e0, n0, 30, 8, rfl, by decide, fun r h0 h1 => ⟨_, _, rfl, rfl, ?_⟩⟩
    refine ⟨small5 (by show 2 ≤ 5000; decide), fun L hL => ?_⟩
    have sL := same_new hL (.lst [.str "(both ", .str "(some "])
    refine ⟨_, rfl, a, _, _, _, rfl, rfl, sL.seq hS, e0, n0, 31, 2, rfl, by decide, fun r2 h20 h21 => ?_⟩
    obtain ⟨hd, whd, ehd⟩ : ∃ hd : Str, wt 6 hd ∧ atI ([.str "(both ", .str "(some "] : List V) r2 = some (.str hd) := by
      have : r2 = 0 ∨ r2 = 1 := by omega
      rcases this with rfl | rfl
      · exact ⟨"(both ", wt_lit (by decide +kernel), rfl⟩
      · exact ⟨"(some ", wt_lit (by decide +kernel), rfl⟩
    refine ⟨L, _, r2, _, rfl, rfl, SqL.of upd_same, ehd, _, rfl, _, rfl, a, _, _, _, rfl, rfl, sL.seq hS, el, nl, rfl, fun z1 _ l2 s2 => ?_⟩
    have w1 := wt_small l2 s2
    have wb : wt 1 (Str.ofString " ") := wt_lit (by decide +kernel)
    have wc : wt 1 (Str.ofString ")") := wt_lit (by decide +kernel)
    refine ⟨hd, z1, rfl, rfl, whd.fit w1 (by decide), hd ++ z1, _, rfl, rfl, (whd.app w1).fit wb (by decide), ?_⟩
    have wh := (whd.app w1).app wb
    have wm := wt_mul (k := 28) wh (m := 21 + r) (by omega)
    refine ⟨_, rfl, _, rfl, _, _, rfl, rfl, Nat.le_trans wh.1 (by decide), by omega, by omega, _, rfl, a, _, _, _, rfl, rfl, sL.seq hS, e0, n0, rfl, fun z2 l30 l3 s3 => ?_⟩
    have w2 := wt_small l3 s3
    have wm2 := wt_mul (k := 28) wc (m := 21 + r) (by omega)
    refine ⟨_, z2, rfl, rfl, wm.fit w2 (by decide), _, rfl, _, _, rfl, rfl, Nat.le_trans wc.1 (by decide), by omega, by omega, _, _, rfl, rfl, (wm.app w2).fit wm2 (by decide), q _ _ sL (((wm.app w2).app wm2).mono (by decide)) fun _ => by rw [Str.length_append, Str.length_append]; omega⟩
  rintro σ H1 ⟨rfl, s1⟩
  refine ⟨_, rfl, a, rfl, ⟨_, s1.seq hS⟩, for_enum (xs := ns.map V.int) (fun i σ H' => (∃ (t : Str) (o4 o5 o6 : Option V), σ = [some (.ref a), some (.str t), none, none, o4, o5, o6] ∧ wt (12 + 20 * i) t ∧ (0 < i → 0 < t.length)) ∧ Same H H') ⟨⟨_, _, _, _, rfl, wt_e, fun h => absurd h (Nat.lt_irrefl _)⟩, s1⟩ ?_ ?_ ?_⟩
  · rintro i σ H' hi ⟨_, sm⟩
    exact sm.seq hS
  · rintro i x σ H' T hx ⟨⟨t, o4, o5, o6, rfl, wtt, tpos⟩, sm⟩ hT
    rw [List.getElem?_map] at hx
    obtain ⟨n, hn, rfl⟩ := Option.map_eq_some_iff.mp hx
    have hi : i < ns.length := (List.getElem?_eq_some_iff.mp hn).1
    have s0 := sm.trans (same_new hT (.tup [.int (i : Int), .int n]))
    refine ⟨T, _, rfl, SqT.of upd_same, rfl, _, _, rfl, _, _, rfl, rfl, ?_⟩
    generalize upd H' T (.tup [.int (i : Int), .int n]) = H0 at s0 ⊢
    refine ⟨_, rfl, n, rfl, fun z1 l10 l2 s2 => ?_⟩
    have lB : (Str.ofString "(both ").length = 6 := by decide +kernel
    have lS : (Str.ofString "(some ").length = 6 := by decide +kernel
    have w1 := wt_small l2 s2
    have wb : wt 1 (Str.ofString " ") := wt_lit (by decide +kernel)
    have wc : wt 1 (Str.ofString ")") := wt_lit (by decide +kernel)
    have wB : wt 6 (Str.ofString "(both ") := wt_lit (by decide +kernel)
    have wS : wt 6 (Str.ofString "(some ") := wt_lit (by decide +kernel)
    refine ⟨_, rfl, rfl, _, rfl, ite2 (fun _ => ⟨_, rfl, ⟨_, _, _, _, rfl, w1.mono (by omega), fun _ => by omega⟩, s0⟩) (fun c0 => ⟨_, rfl, _, _, rfl, rfl, (show (0 : Int) < 4 by decide), rfl, _, rfl, ite2 (fun _ => ?_) (fun _ => ⟨_, rfl, _, _, rfl, rfl, (show (0 : Int) < 4 by decide), rfl, _, rfl, ite2 (fun _ => ?_) (fun _ => ⟨_, rfl, _, _, rfl, rfl, (show (0 : Int) < 4 by decide), rfl, _, rfl, ite2 (fun _ => ?_) (fun _ => ⟨⟨_, _, _, _, rfl, wtt.mono (by omega), fun _ => tpos (Nat.pos_of_ne_zero fun e => c0 (by rw [e]; rfl))⟩, s0⟩)⟩)⟩)⟩)⟩
    · exact ⟨_, rfl, _, _, rfl, rfl, wB.fit wtt (by omega), _, _, rfl, rfl, (wB.app wtt).fit wb (by omega), _, rfl, _, _, rfl, rfl, ((wB.app wtt).app wb).fit w1 (by omega), _, _, rfl, rfl, (((wB.app wtt).app wb).app w1).fit wc (by omega), ⟨_, _, _, _, rfl, ((((wB.app wtt).app wb).app w1).app wc).mono (by omega), fun _ => by simp only [Str.length_append]; omega⟩, s0⟩
    · exact ⟨_, rfl, _, _, rfl, rfl, wB.fit w1 (by omega), _, _, rfl, rfl, (wB.app w1).fit wb (by omega), _, rfl, _, _, rfl, rfl, ((wB.app w1).app wb).fit wtt (by omega), _, _, rfl, rfl, (((wB.app w1).app wb).app wtt).fit wc (by omega), ⟨_, _, _, _, rfl, ((((wB.app w1).app wb).app wtt).app wc).mono (by omega), fun _ => by simp only [Str.length_append]; omega⟩, s0⟩
    · exact ⟨_, rfl, _, _, rfl, rfl, wS.fit w1 (by omega), _, _, rfl, rfl, (wS.app w1).fit wb (by omega), _, rfl, _, _, rfl, rfl, ((wS.app w1).app wb).fit wtt (by omega), _, _, rfl, rfl, (((wS.app w1).app wb).app wtt).fit wc (by omega), ⟨_, _, _, _, rfl, ((((wS.app w1).app wb).app wtt).app wc).mono (by omega), fun _ => by simp only [Str.length_append]; omega⟩, s0⟩
  · rintro σ H' ⟨⟨t, o4, o5, o6, rfl, wtt, tpos⟩, sm⟩
    rw [List.length_map] at wtt tpos
    exact ⟨_, rfl, q _ _ sm (wtt.mono (by omega)) tpos⟩
end
end K12
namespace K12
open PySem L2
theorem ndkh : ((([("_law_k" : Str)] : List Str) ++ [("_law_head" : Str)]) : List Str).Nodup := by decide +kernel
theorem up_wt : ∀ c, c < 128 → wt 3 (Txt.upper ⟨#[c]⟩) := by
  have : ∀ c, c < 128 → (decide ((Txt.upper ⟨#[c]⟩).length ≤ 3) && (Txt.upper ⟨#[c]⟩).cps.toList.all fun c => decide (c < 128)) = true := by decide +kernel
  exact fun c hc => wt_lit (this c hc)
theorem wt_slice {n : Nat} {z : Str} (h : wt n z) (lo hi : Option Int) : wt n (Txt.slice z lo hi) := ⟨Nat.le_trans (Txt.slice_le z _ _) h.1, fun c hc => by
  rw [slice_cps] at hc
  exact h.2 c (List.mem_of_mem_drop (List.mem_of_mem_take hc))⟩
theorem cut_ints (ns : List Int) (lo hi : Option Int) : ∃ ms : List Int, cutV (ns.map V.int) lo hi = ms.map V.int ∧ ms.length ≤ ns.length := by
  unfold cutV
  rw [← List.map_drop, ← List.map_take]
  exact ⟨_, rfl, by rw [List.length_take, List.length_drop]; omega⟩
theorem cut_from (ns : List Int) (k : Nat) : ∃ ms : List Int, cutV (ns.map V.int) (some (k : Int)) none = ms.map V.int ∧ ms.length ≤ ns.length - k := by
  unfold cutV
  rw [← List.map_drop, ← List.map_take, HT.sIx_nat]
  exact ⟨_, rfl, by rw [List.length_take, List.length_drop, List.length_map]; omega⟩
theorem cut_fromI (ns : List Int) (x : Int) (h : 1 ≤ x) : ∃ ms : List Int, cutV (ns.map V.int) (some x) none = ms.map V.int ∧ ms.length ≤ ns.length - 1 := by
  obtain ⟨ms, e, l⟩ := cut_from ns x.toNat
  rw [Int.toNat_of_nonneg (by omega)] at e
  exact ⟨ms, e, by omega⟩
theorem cut_one (ns : List Int) : ∃ ms : List Int, cutV (ns.map V.int) none (some 1) = ms.map V.int ∧ ms.length ≤ 1 := by
  unfold cutV
  rw [← List.map_drop, ← List.map_take, show (some (1 : Int)) = some ((1 : Nat) : Int) from rfl, HT.sIx_nat]
  exact ⟨_, rfl, by rw [List.length_take]; omega⟩
def dn (z : Str) : Prop := 1 ≤ z.length ∧ wt 12 z
def spLine (K : PySem.W.Frag) : Sp := fun vs H Q _ => ∃ (a : Addr) (ns : List Int), vs = [.ref a] ∧ SqL K H a (ns.map V.int) ∧ 0 < ns.length ∧ ns.length ≤ 32 ∧ ∀ H' z, Same H H' → wt 1500 z → 0 < z.length → Q (.str z) H'
section
variable {P : Program} {w : World} {K : PySem.W.Frag} {mg : Str → Option Value} {base : Heap} {f g e a1 a2 a3 a4 a5 C : Addr} {fd gd ed d1 d2 d3 d4 d5 : FuncData}
theorem scLine : FnScope ["_law_group", "_law_head", "_law_way", "_law_cut", "_law_names", "_law_thing", "_law_other"] ["_law_group"] (defScope sLine) := ⟨rfl, rfl, rfl, by decide +kernel, rfl, by decide +kernel, by decide +kernel⟩
theorem ok_line (F : Fun K "_law_line" "_law_line" sLine f fd) (ml : mg "len" = none) (mr : mg "range" = none) (Gnm : FnOk P w K mg base CX0 2 a1 d1 ["_law_cell"] spDName) (bGnm : Binds K d1 ["_law_cell"] []) (kGnm : PySem.W.keepIn K (.ref a1) = true) (mGnm : mg "_law_name" = some (.ref a1))
    (Gwr : FnOk P w K mg base CX0 3 a2 d2 ["_law_group"] (spWritten K)) (bGwr : Binds K d2 ["_law_group"] []) (kGwr : PySem.W.keepIn K (.ref a2) = true) (mGwr : mg "_law_written" = some (.ref a2)) :
    FnOk P w K mg base CX0 4 f fd ["_law_group"] (spLine K) := by
  refine F.ok scLine (fun vs H Q E h => ?_) (fun cdv A outer s H vs Q E hr h => ?_)
  · obtain ⟨a, ns, rfl, _⟩ := h; rfl
  obtain ⟨a, ns, rfl, hS, h0, h32, q⟩ := h
  have hrnm := hr.mono (show 2 ≤ 3 by decide)
  have hrwr := hr
  refine ⟨_, @pss_cons _ _ _ _ _ (by exact ps_set (i := 1) scLine.nd rfl (Or.inr rfl) (pe_ix ix_list (pv 0) pe_int (fun _ _ => rfl)))
    (@pss_cons _ _ _ _ _ (by exact ps_set (i := 2) scLine.nd rfl (Or.inl rfl) (pe_op op_mod (pv 1) pe_int))
    (@pss_cons _ _ _ _ _ (by exact ps_set (i := 3) scLine.nd rfl (Or.inl rfl) (pe_op op_add pe_int (pe_op op_fdiv (pe_callB call_len_seq rfl ml PySem.boot_len (pa_cons (pv 0) pa_nil)) pe_int)))
    (@pss_cons _ _ _ _ _ (by exact ps_setC (i := 4) ["_law_k"] ["_law_head"] [1] scLine.nd rfl rfl (pi_range1 rfl mr (pa_cons pe_int pa_nil)) (fun _ _ _ => pg_name (i := 0) ndkh rfl (Or.inl rfl)) (fun _ _ _ => pts_nil) (fun _ _ _ => (pe_call Gnm hrnm rfl mGnm kGnm bGnm .nil pass0 (pa_cons (pe_op op_add (pv 1) (pv 0)) pa_nil))))
    (@pss_cons _ _ _ _ _ (by exact ps_set (i := 5) scLine.nd rfl (Or.inl rfl) (pe_op op_add_str (pe_bm0 PySem.F.plainAttrs_str PySem.F.slot_str_upper PySem.F.type_str_upper mt_upper (pe_ix ix_str (pe_ix ix_list (pv 4) pe_int (fun _ _ => rfl)) pe_int (fun _ _ => rfl))) (pe_slice sl_str (pe_ix ix_list (pv 4) pe_int (fun _ _ => rfl)) (po_some pe_int) po_none)))
    (@pss_cons _ _ _ _ _ (by exact ps_if (pt_cmpR op_lt (pv 2) pe_int (nomark _)) (@pss_cons _ _ _ _ _ (by exact ps_set (i := 6) scLine.nd rfl (Or.inl rfl) (pe_call Gwr hrwr rfl mGwr kGwr bGwr .nil pass0 (pa_cons (pe_op op_cat (pe_slice sl_list (pv 0) (po_some (pv 3)) po_none) (pe_slice sl_list (pv 0) po_none (po_some pe_int))) pa_nil))) (@pss_one _ _ _ (by exact @ps_ret _ _ _ _ (pe_op op_add_str (pe_op op_add_str (pe_op op_add_str (pe_ix ix_list (pe_lst (pa_cons pe_str (pa_cons pe_str pa_nil))) (pv 2) (fun _ _ => rfl)) (pe_call Gwr hrwr rfl mGwr kGwr bGwr .nil pass0 (pa_cons (pe_slice sl_list (pv 0) (po_some pe_int) (po_some (pv 3))) pa_nil))) pe_str) (pv 6))))) pss_nil)
    (@pss_cons _ _ _ _ _ (by exact ps_if (pt_cmpR op_eq (pv 2) pe_int (nomark _)) (@pss_one _ _ _ (by exact @ps_ret _ _ _ _ (pe_op op_add_str (pe_op op_add_str (pv 5) pe_str) (pe_call Gwr hrwr rfl mGwr kGwr bGwr .nil pass0 (pa_cons (pe_slice sl_list (pv 0) (po_some pe_int) po_none) pa_nil))))) pss_nil)
    (@pss_cons _ _ _ _ _ (by exact ps_if (pt_cmpR op_eq (pv 2) pe_int (nomark _)) (@pss_one _ _ _ (by exact @ps_ret _ _ _ _ (pe_op op_add_str (pe_op op_add_str (pe_op op_add_str (pe_op op_add_str (pe_op op_add_str (pv 5) pe_str) (pe_ix ix_list (pv 4) pe_int (fun _ _ => rfl))) pe_str) (pe_bm0 PySem.F.plainAttrs_str PySem.F.slot_str_upper PySem.F.type_str_upper mt_upper (pe_ix ix_str (pe_ix ix_list (pv 4) pe_int (fun _ _ => rfl)) pe_int (fun _ _ => rfl)))) (pe_slice sl_str (pe_ix ix_list (pv 4) pe_int (fun _ _ => rfl)) (po_some pe_int) po_none)))) pss_nil)
    (@pss_cons _ _ _ _ _ (by exact ps_if (pt_cmpR op_eq (pv 2) pe_int (nomark _)) (@pss_one _ _ _ (by exact @ps_ret _ _ _ _ (pe_op op_add_str (pe_op op_add_str (pe_op op_add_str pe_str (pe_ix ix_list (pv 4) pe_int (fun _ _ => rfl))) pe_str) (pe_ix ix_list (pv 4) pe_int (fun _ _ => rfl))))) pss_nil)
    (@pss_cons _ _ _ _ _ (by exact ps_if (pt_cmpR op_eq (pv 2) pe_int (nomark _)) (@pss_one _ _ _ (by exact @ps_ret _ _ _ _ (pe_op op_add_str (pe_op op_add_str (pe_op op_add_str (pe_op op_add_str (pe_op op_add_str pe_str (pe_ix ix_list (pv 4) pe_int (fun _ _ => rfl))) pe_str) (pe_ix ix_list (pv 4) pe_int (fun _ _ => rfl))) pe_str) (pe_ix ix_list (pv 4) pe_int (fun _ _ => rfl))))) pss_nil)
    (@pss_one _ _ _ (by exact @ps_ret _ _ _ _ (pe_call Gwr hrwr rfl mGwr kGwr bGwr .nil pass0 (pa_cons (pv 0) pa_nil))))))))))))), ?_⟩
  obtain ⟨n0, e0⟩ : ∃ n : Int, atI (ns.map V.int) ((0 : Nat) : Int) = some (.int n) := ⟨ns[0], atI_nat (by rw [List.getElem?_map, List.getElem?_eq_getElem h0]; rfl)⟩
  refine ⟨_, rfl, a, _, _, _, rfl, rfl, hS, e0, ?_⟩
  refine ⟨_, rfl, _, _, rfl, rfl, (show (0 : Int) < 7 by decide), ?_⟩
  refine ⟨_, rfl, a, _, rfl, .inl hS, _, _, rfl, rfl, ⟨by decide, by decide⟩, _, _, rfl, rfl, ?_⟩
  have w7 : 0 ≤ n0 % 7 ∧ n0 % 7 < 7 := ⟨Int.emod_nonneg _ (by decide), Int.emod_lt_of_pos _ (by decide)⟩
  refine ⟨3, rfl, by decide, by decide, fun D hD => ?_⟩
  refine cmp_by 3 (fun i σ H' => (∃ o, σ = [o, some (.int n0)]) ∧ Same H H' ∧ ∃ zs : List Str, H' D = some (.lst (zs.map V.str)) ∧ zs.length = i ∧ ∀ z ∈ zs, dn z) ⟨⟨_, rfl⟩, same_new hD _, [], upd_same, rfl, fun _ h => (List.not_mem_nil h).elim⟩ ?_ ?_
  rotate_left
  · rintro i σ H' hi ⟨⟨o, rfl⟩, sm, zs, eD, lz, dz⟩
    refine ⟨hi, ?_⟩
    rintro x H1 ⟨rfl, rfl⟩
    refine ⟨_, rfl, _, rfl, _, _, rfl, rfl, _, rfl, fun z l1 l2 sml => ⟨_, eD, Nat.lt_of_le_of_lt (show (zs.map V.str).length ≤ 5000 by rw [List.length_map]; omega) (by decide), ⟨_, rfl⟩, same_upd sm hD, zs ++ [z], by rw [upd_same, List.map_append]; rfl, by rw [List.length_append, lz]; rfl, fun y hy => ?_⟩⟩
    rcases List.mem_append.mp hy with hy | hy
    · exact dz y hy
    · rw [List.mem_singleton.mp hy]; exact ⟨l1, wt_small l2 sml⟩
  rintro σ H1 ⟨_, s1, zs, eD, lz, dz⟩
  obtain ⟨z0, z1, z2, rfl⟩ : ∃ z0 z1 z2, zs = [z0, z1, z2] := by
    match zs, lz with
    | [z0, z1, z2], _ => exact ⟨z0, z1, z2, rfl⟩
  refine ⟨Nat.le_refl _, ?_⟩
  have d0 := dz z0 (by simp)
  have dd1 := dz z1 (by simp)
  have dd2 := dz z2 (by simp)
  have hS1 := s1.seq hS
  have one : ∀ {z : Str}, dn z → ∃ c, c < 128 ∧ atI z.cps.toList ((0 : Nat) : Int) = some c := fun {z} h => by
    have hl := len_l z
    have := h.1
    refine ⟨z.cps.toList[0]'(by omega), h.2.2 _ (List.getElem_mem _), atI_nat (List.getElem?_eq_getElem (by omega))⟩
  obtain ⟨c0, hc0, ec0⟩ := one d0
  obtain ⟨c2, hc2, ec2⟩ := one dd2
  have sz : ∀ {z : Str}, dn z → z.length ≤ sizeLine := fun h => small5 (Nat.le_trans h.2.1 (by decide))
  have at0 : ∀ {j : Nat} {z : Str}, ([z0, z1, z2] : List Str)[j]? = some z → atI (([z0, z1, z2] : List Str).map V.str) (j : Int) = some (.str z) := fun {j z} h => atI_nat (by rw [List.getElem?_map, h]; rfl)
  refine ⟨_, rfl, D, _, _, _, rfl, rfl, SqL.of eD, at0 (j := 0) rfl, z0, 0, c0, rfl, rfl, sz d0, ec0, rfl, _, rfl, rfl, (by show 1 ≤ 1000; decide), _, rfl, D, _, _, _, rfl, rfl, SqL.of eD, at0 (j := 0) rfl, 1, rfl, z0, rfl, sz d0, _, _, rfl, rfl, (up_wt c0 hc0).fit (wt_slice d0.2 (some 1) none) (by decide), ?_⟩
  have wth := (up_wt c0 hc0).app (wt_slice d0.2 (some 1) none)
  generalize Txt.upper ⟨#[c0]⟩ ++ Txt.slice z0 (some 1) none = th at wth ⊢
  have wis : wt 4 (Str.ofString " is ") := wt_lit (by decide +kernel)
  have wb : wt 1 (Str.ofString " ") := wt_lit (by decide +kernel)
  have lis : (Str.ofString " is ").length = 4 := by decide +kernel
  have lb : (Str.ofString " ").length = 1 := by decide +kernel
  have lt : (Str.ofString "tie ").length = 4 := by decide +kernel
  have wti : wt 4 (Str.ofString "tie ") := wt_lit (by decide +kernel)
  have wwi : wt 8 (Str.ofString " within ") := wt_lit (by decide +kernel)
  have wthn : wt 6 (Str.ofString " then ") := wt_lit (by decide +kernel)
  have wma : wt 7 (Str.ofString " makes ") := wt_lit (by decide +kernel)
  refine ⟨_, rfl, _, _, rfl, rfl, _, rfl, ite2 (fun c => ?_) (fun c => ?_)⟩
  · have c' : n0 % 7 < 2 := of_decide_eq_true c
    obtain ⟨m1, em1, lm1⟩ := cut_fromI ns (1 + ((ns.map V.int).length : Int) / 2) (by omega)
    obtain ⟨m2, em2, lm2⟩ := cut_one ns
    obtain ⟨m3, em3, lm3⟩ := cut_ints ns (some 1) (some (1 + ((ns.map V.int).length : Int) / 2))
    refine ⟨_, rfl, _, rfl, 1 + ((ns.map V.int).length : Int) / 2, rfl, a, _, rfl, hS1, fun p1 hp1 => ?_⟩
    rw [em1]
    have sp1 := same_new hp1 (.lst (m1.map V.int))
    refine ⟨_, rfl, _, rfl, a, _, rfl, sp1.seq hS1, fun p2 hp2 => ?_⟩
    rw [em2]
    have sp2 := same_new hp2 (.lst (m2.map V.int))
    refine ⟨p1, p2, _, _, rfl, rfl, sp2 _ _ upd_same, upd_same, small5 (by rw [List.length_map, List.length_map]; omega), fun p3 hp3 => ?_⟩
    have sp3 := same_new hp3 (.lst (m1.map V.int ++ m2.map V.int))
    have s3 := (sp1.trans sp2).trans sp3
    refine ⟨p3, m1 ++ m2, rfl, SqL.of (by rw [List.map_append]; exact upd_same), by rw [List.length_append]; omega, fun H2 zo s2 wzo _ => ?_⟩
    have s02 := (s1.trans s3).trans s2
    refine ⟨small5 (by show 2 ≤ 5000; decide), fun L hL => ?_⟩
    have sL := same_new hL (.lst [.str "every ", .str "no "])
    obtain ⟨hd, whd, ehd⟩ : ∃ hd : Str, wt 6 hd ∧ atI ([.str "every ", .str "no "] : List V) (n0 % 7) = some (.str hd) := by
      have : n0 % 7 = 0 ∨ n0 % 7 = 1 := by omega
      rcases this with h | h
      · rw [h]; exact ⟨"every ", wt_lit (by decide +kernel), rfl⟩
      · rw [h]; exact ⟨"no ", wt_lit (by decide +kernel), rfl⟩
    refine ⟨_, rfl, L, _, _, _, rfl, rfl, SqL.of upd_same, ehd, ?_⟩
    refine ⟨_, rfl, 1, rfl, _, rfl, 1 + ((ns.map V.int).length : Int) / 2, rfl, a, _, rfl, (s02.trans sL).seq hS, fun p4 hp4 => ?_⟩
    rw [em3]
    have sp4 := same_new hp4 (.lst (m3.map V.int))
    refine ⟨p4, m3, rfl, SqL.of upd_same, by omega, fun H3 zk s4 wzk _ => ?_⟩
    have w1 := whd.app wzk
    refine ⟨hd, zk, rfl, rfl, whd.fit wzk (by decide), hd ++ zk, _, rfl, rfl, w1.fit wis (by decide), _, rfl, _, zo, rfl, rfl, (w1.app wis).fit wzo (by decide), q _ _ (((s02.trans sL).trans sp4).trans s4) (((w1.app wis).app wzo).mono (by decide)) (by simp only [Str.length_append]; omega)⟩
  refine ⟨_, rfl, rfl, _, rfl, ite2 (fun c => ?_) (fun c => ?_)⟩
  · obtain ⟨m1, em1, lm1⟩ := cut_ints ns (some 1) none
    refine ⟨_, rfl, _, _, rfl, rfl, wth.fit wis (by decide), _, rfl, _, rfl, a, _, rfl, hS1, fun p4 hp4 => ?_⟩
    rw [em1]
    have sp4 := same_new hp4 (.lst (m1.map V.int))
    refine ⟨p4, m1, rfl, SqL.of upd_same, by omega, fun H3 zk s4 wzk _ => ?_⟩
    exact ⟨_, zk, rfl, rfl, (wth.app wis).fit wzk (by decide), q _ _ ((s1.trans sp4).trans s4) (((wth.app wis).app wzk).mono (by decide)) (by simp only [Str.length_append]; omega)⟩
  refine ⟨_, rfl, rfl, _, rfl, ite2 (fun c => ?_) (fun c => ?_)⟩
  · have w1 := (wth.app wb).app dd1.2
    have w2 := (w1.app wb).app (up_wt c2 hc2)
    refine ⟨_, rfl, _, _, rfl, rfl, wth.fit wb (by decide), _, rfl, D, _, _, _, rfl, rfl, SqL.of eD, at0 (j := 1) rfl, _, _, rfl, rfl, (wth.app wb).fit dd1.2 (by decide), _, _, rfl, rfl, w1.fit wb (by decide), _, rfl, D, _, _, _, rfl, rfl, SqL.of eD, at0 (j := 2) rfl, z2, 0, c2, rfl, rfl, sz dd2, ec2, rfl, _, rfl, rfl, (by show 1 ≤ 1000; decide), _, _, rfl, rfl, (w1.app wb).fit (up_wt c2 hc2) (by decide), _, rfl, D, _, _, _, rfl, rfl, SqL.of eD, at0 (j := 2) rfl, 1, rfl, z2, rfl, sz dd2, _, _, rfl, rfl, w2.fit (wt_slice dd2.2 (some 1) none) (by decide), q _ _ s1 ((w2.app (wt_slice dd2.2 (some 1) none)).mono (by decide)) (by simp only [Str.length_append]; omega)⟩
  refine ⟨_, rfl, rfl, _, rfl, ite2 (fun c => ?_) (fun c => ?_)⟩
  · have w1 := (wti.app d0.2).app wwi
    exact ⟨_, rfl, D, _, _, _, rfl, rfl, SqL.of eD, at0 (j := 0) rfl, _, _, rfl, rfl, wti.fit d0.2 (by decide), _, _, rfl, rfl, (wti.app d0.2).fit wwi (by decide), _, rfl, D, _, _, _, rfl, rfl, SqL.of eD, at0 (j := 1) rfl, _, _, rfl, rfl, w1.fit dd1.2 (by decide), q _ _ s1 ((w1.app dd1.2).mono (by decide)) (by simp only [Str.length_append]; omega)⟩
  refine ⟨_, rfl, rfl, _, rfl, ite2 (fun c => ?_) (fun c => ?_)⟩
  · have w1 := ((wti.app d0.2).app wthn).app dd1.2
    exact ⟨_, rfl, D, _, _, _, rfl, rfl, SqL.of eD, at0 (j := 0) rfl, _, _, rfl, rfl, wti.fit d0.2 (by decide), _, _, rfl, rfl, (wti.app d0.2).fit wthn (by decide), _, rfl, D, _, _, _, rfl, rfl, SqL.of eD, at0 (j := 1) rfl, _, _, rfl, rfl, ((wti.app d0.2).app wthn).fit dd1.2 (by decide), _, _, rfl, rfl, w1.fit wma (by decide), _, rfl, D, _, _, _, rfl, rfl, SqL.of eD, at0 (j := 2) rfl, _, _, rfl, rfl, (w1.app wma).fit dd2.2 (by decide), q _ _ s1 (((w1.app wma).app dd2.2).mono (by decide)) (by simp only [Str.length_append]; omega)⟩
  exact ⟨_, rfl, a, ns, rfl, hS1, by omega, fun H2 z s2 wz pz => q _ _ (s1.trans s2) (wz.mono (by decide)) (pz h0)⟩
end
end K12
set_option maxHeartbeats 8000000
namespace K12
open PySem L2
def lst12 : List Str := ["", "is", "no", "every", "tie", "within", "then", "makes", "both", "some", "anything", "nothing"]
def lst11 : List Str := ["(both", "(some", "Ann", "ann", "a)", ")", "(", "(both)", "a)b", "Is", "thirteensigns"]
def wsum : List Str → Nat
  | [] => 0
  | w :: ws => w.length + 1 + wsum ws
theorem wsum_eq : ∀ ws : List Str, (ws.map (·.length)).sum + ws.length = wsum ws
  | [] => rfl
  | w :: ws => by have := wsum_eq ws; simp only [List.map_cons, List.sum_cons, List.length_cons, wsum]; omega
theorem wsum_drop : ∀ (ws : List Str) (n : Nat), wsum (ws.drop n) ≤ wsum ws
  | [], n => by simp
  | w :: ws, 0 => Nat.le_refl _
  | w :: ws, n + 1 => by have := wsum_drop ws n; rw [List.drop_succ_cons]; show _ ≤ w.length + 1 + wsum ws; omega
theorem wsum_take : ∀ (ws : List Str) (n : Nat), wsum (ws.take n) ≤ wsum ws
  | [], n => by simp
  | w :: ws, 0 => Nat.zero_le _
  | w :: ws, n + 1 => by have := wsum_take ws n; rw [List.take_succ_cons]; unfold wsum; omega
theorem wsum_app : ∀ a b : List Str, wsum (a ++ b) = wsum a + wsum b
  | [], b => (Nat.zero_add _).symm
  | w :: a, b => by rw [List.cons_append]; show w.length + 1 + wsum (a ++ b) = w.length + 1 + wsum a + wsum b; rw [wsum_app a b]; omega
theorem wsum_set : ∀ (ws : List Str) (n : Nat) (w : Str), wsum (ws.set n w) ≤ wsum ws + w.length
  | [], n, w => by simp
  | x :: ws, 0, w => by rw [List.set_cons_zero]; unfold wsum; omega
  | x :: ws, n + 1, w => by have := wsum_set ws n w; rw [List.set_cons_succ]; unfold wsum; omega
def wl (n : Nat) (ws : List Str) : Prop := wsum ws ≤ n ∧ ∀ w ∈ ws, ∀ c ∈ w.cps.toList, c < 128
theorem wl.app {n m : Nat} {a b : List Str} (h : wl n a) (h' : wl m b) : wl (n + m) (a ++ b) := ⟨by rw [wsum_app]; exact Nat.add_le_add h.1 h'.1, fun w hw => (List.mem_append.mp hw).elim (h.2 w) (h'.2 w)⟩
theorem wl.set {n m : Nat} {ws : List Str} {w : Str} (h : wl n ws) (hw : wt m w) (i : Nat) : wl (n + m) (ws.set i w) := ⟨Nat.le_trans (wsum_set ws i w) (Nat.add_le_add h.1 hw.1), fun x hx => (List.mem_or_eq_of_mem_set hx).elim (h.2 x) fun e => e ▸ hw.2⟩
theorem wsum_mem : ∀ {ws : List Str} {w : Str}, w ∈ ws → w.length ≤ wsum ws
  | x :: ws, w, h => by
    unfold wsum
    rcases List.mem_cons.mp h with rfl | h
    · omega
    · have := wsum_mem h; omega
theorem wl.mem {n : Nat} {ws : List Str} (h : wl n ws) {w : Str} (hw : w ∈ ws) : wt n w := ⟨Nat.le_trans (wsum_mem hw) h.1, h.2 w hw⟩
theorem wl.cut {n : Nat} {ws : List Str} (h : wl n ws) (lo hi : Option Int) : ∃ us : List Str, cutV (ws.map V.str) lo hi = us.map V.str ∧ wl n us := by
  unfold cutV
  rw [← List.map_drop, ← List.map_take]
  exact ⟨_, rfl, Nat.le_trans (wsum_take _ _) (Nat.le_trans (wsum_drop _ _) h.1), fun w hw => h.2 w (List.mem_of_mem_drop (List.mem_of_mem_take hw))⟩
theorem join_mem : ∀ {ws : List Str} {c : Nat}, c ∈ (Str.join ⟨#[32]⟩ ws).cps.toList → c = 32 ∨ ∃ w ∈ ws, c ∈ w.cps.toList
  | [], c, h => absurd h (by simp [Str.join, Str.empty])
  | [w], c, h => .inr ⟨w, by simp, h⟩
  | w :: v :: ws, c, h => by
    have h' : c ∈ (w ++ ⟨#[32]⟩ ++ Str.join ⟨#[32]⟩ (v :: ws)).cps.toList := h
    rw [app_l, app_l] at h'
    rcases List.mem_append.mp h' with h' | h'
    · rcases List.mem_append.mp h' with h' | h'
      · exact .inr ⟨w, by simp, h'⟩
      · exact .inl (List.mem_singleton.mp h')
    · rcases join_mem h' with e | ⟨x, hx, hc⟩
      · exact .inl e
      · exact .inr ⟨x, List.mem_cons_of_mem _ hx, hc⟩
theorem wl.join {n : Nat} {ws : List Str} (h : wl n ws) : wt n (Str.join (Str.ofString " ") ws) := by
  rw [one_32]
  refine ⟨Nat.le_trans (StrLaws.join_length_le _ ws) (Nat.le_trans (Nat.le_of_eq ?_) h.1), fun c hc => ?_⟩
  · rw [show (⟨#[32]⟩ : Str).length = 1 from rfl, Nat.mul_one]; exact wsum_eq ws
  · rcases join_mem hc with e | ⟨w, hw, hc⟩
    · rw [e]; decide
    · exact h.2 w hw c hc
theorem wl.fits {n : Nat} {ws : List Str} (h : wl n ws) (hn : n ≤ 1000000) : (ws.map (·.length)).sum + ws.length * (Str.ofString " ").length ≤ 16777216 := by
  rw [show (Str.ofString " ").length = 1 by decide +kernel, Nat.mul_one, wsum_eq]
  exact Nat.le_trans h.1 (Nat.le_trans hn (by decide))
theorem wsum_split : ∀ l : List Nat, wsum ((splitB l).map mkS) = l.length + 1
  | [] => rfl
  | c :: l => by
    have ih := wsum_split l
    rw [splitB]
    split
    · rw [List.map_cons]; unfold wsum; rw [ih, mkS_len]; simp; omega
    · cases e : splitB l with
      | nil => exact absurd e (splitB_ne l)
      | cons q r => rw [e, List.map_cons] at ih; unfold wsum at ih; rw [mkS_len] at ih; rw [List.map_cons]; unfold wsum; rw [mkS_len, List.length_cons, List.length_cons]; omega
theorem wl_split {n : Nat} {z : Str} (h : wt n z) : wl (n + 1) ((splitB z.cps.toList).map mkS) := by
  refine ⟨by rw [wsum_split, ← len_l]; have := h.1; omega, fun w hw c hc => ?_⟩
  obtain ⟨p, hp, rfl⟩ := List.mem_map.mp hw
  rw [mkS_l] at hc
  exact h.2 c (splitB_mem hp c hc)
theorem wl12 : wl 80 lst12 := ⟨by decide +kernel, by
  have : (lst12.all fun w => w.cps.toList.all fun c => decide (c < 128)) = true := by decide +kernel
  exact fun w hw c hc => of_decide_eq_true (List.all_eq_true.mp (List.all_eq_true.mp this w hw) c hc)⟩
theorem wl11 : wl 80 lst11 := ⟨by decide +kernel, by
  have : (lst11.all fun w => w.cps.toList.all fun c => decide (c < 128)) = true := by decide +kernel
  exact fun w hw c hc => of_decide_eq_true (List.all_eq_true.mp (List.all_eq_true.mp this w hw) c hc)⟩
theorem ixN_of {n : Nat} {k : Int} (h0 : 0 ≤ k) (h1 : k < (n : Int)) : ixN n k = some k.toNat := by
  unfold ixN
  rw [if_pos h0, if_pos (by omega)]
theorem strs_at {ws : List Str} {r : Int} (r0 : 0 ≤ r) (rm : r < (ws.length : Int)) : ∃ z, z ∈ ws ∧ atI (ws.map V.str) r = some (.str z) := by
  have hn : r.toNat < ws.length := by omega
  have e := atI_nat (xs := ws.map V.str) (j := r.toNat) (v := .str ws[r.toNat]) (by rw [List.getElem?_map, List.getElem?_eq_getElem hn]; rfl)
  rw [show ((r.toNat : Nat) : Int) = r by omega] at e
  exact ⟨_, List.getElem_mem hn, e⟩
def spSpoiled : Sp := fun vs H Q _ => ∃ (z : Str) (c : Int), vs = [.str z, .int c] ∧ wt 1500 z ∧ 0 < z.length ∧ ∀ H' z', Same H H' → wt 4600 z' → Q (.str z') H'
theorem sig_wt : wt 64 (Str.ofString " !\"#$&'()*+,-./0123456789:;<=>?@ABCDEFGHIJKLMNOPQRSTUVWXYZ[\\]^_`") := wt_lit (by decide +kernel)
theorem sig_wt2 : wt 30 (Str.ofString "abcdefghijklmnopqrstuvwxyz{|}~") := wt_lit (by decide +kernel)
theorem sig_len : (Str.ofString " !\"#$&'()*+,-./0123456789:;<=>?@ABCDEFGHIJKLMNOPQRSTUVWXYZ[\\]^_`" ++ Str.ofString "abcdefghijklmnopqrstuvwxyz{|}~").length = 94 := by decide +kernel
section
variable {P : Program} {w : World} {K : PySem.W.Frag} {mg : Str → Option Value} {base : Heap} {f g e a1 a2 a3 a4 a5 C : Addr} {fd gd ed d1 d2 d3 d4 d5 : FuncData}
theorem scSpoiled : FnScope ["_law_text", "_law_cell", "_law_signs", "_law_sign", "_law_spot", "_law_some", "_law_pieces", "_law_at", "_law_way", "_law_other", "_law_kept"] ["_law_text", "_law_cell"] (defScope sSpoiled) := ⟨rfl, rfl, rfl, by decide +kernel, rfl, by decide +kernel, by decide +kernel⟩
theorem ok_spoiled (F : Fun K "_law_spoiled" "_law_spoiled" sSpoiled f fd) (ml : mg "len" = none) (Gp : FnOk P w K mg base CX0 1 g gd ["_law_cell", "_law_turn", "_law_many"] spPick) (bGp : Binds K gd ["_law_cell", "_law_turn", "_law_many"] []) (kGp : PySem.W.keepIn K (.ref g) = true) (mGp : mg "_law_pick" = some (.ref g)) :
    FnOk P w K mg base CX0 2 f fd ["_law_text", "_law_cell"] spSpoiled := by
  refine F.ok scSpoiled (fun vs H Q E h => ?_) (fun cdv A outer s H vs Q E hr h => ?_)
  · obtain ⟨z, c, rfl, _⟩ := h; rfl
  obtain ⟨z, c, rfl, hz, z0, q⟩ := h
  have hrp := hr
  refine ⟨_, @pss_cons _ _ _ _ _ (by exact ps_set (i := 2) scSpoiled.nd rfl (Or.inl rfl) pe_str)
    (@pss_cons _ _ _ _ _ (by exact ps_set (i := 3) scSpoiled.nd rfl (Or.inl rfl) (pe_ix ix_str (pe_op op_add_str (pv 2) pe_str) (pe_call Gp hrp rfl mGp kGp bGp .nil pass0 (pa_cons (pv 1) (pa_cons pe_int (pa_cons pe_int pa_nil)))) (fun _ _ => rfl)))
    (@pss_cons _ _ _ _ _ (by exact ps_set (i := 4) scSpoiled.nd rfl (Or.inl rfl) (pe_call Gp hrp rfl mGp kGp bGp .nil pass0 (pa_cons (pv 1) (pa_cons pe_int (pa_cons (pe_callB call_len_str rfl ml PySem.boot_len (pa_cons (pv 0) pa_nil)) pa_nil)))))
    (@pss_cons _ _ _ _ _ (by exact @ps_set _ _ 5 _ _ _ _ scSpoiled.nd rfl (Or.inl rfl) (@pe_lst _ _ _ _ (@pa_strs _ _ lst12 rfl)) rfl (.inl rfl))
    (@pss_cons _ _ _ _ _ (by exact ps_set (i := 5) scSpoiled.nd rfl (Or.inl rfl) (pe_op op_cat (pv 5) (@pe_lst _ _ _ _ (@pa_strs _ _ lst11 rfl))))
    (@pss_cons _ _ _ _ _ (by exact ps_set (i := 6) scSpoiled.nd rfl (Or.inl rfl) (pe_bm PySem.F.plainAttrs_str PySem.F.slot_str_split PySem.F.type_str_split mt_split5 (pv 0) (pa_cons pe_str pa_nil)))
    (@pss_cons _ _ _ _ _ (by exact ps_set (i := 7) scSpoiled.nd rfl (Or.inl rfl) (pe_call Gp hrp rfl mGp kGp bGp .nil pass0 (pa_cons (pv 1) (pa_cons pe_int (pa_cons (pe_callB call_len_seq rfl ml PySem.boot_len (pa_cons (pv 6) pa_nil)) pa_nil)))))
    (@pss_cons _ _ _ _ _ (by exact ps_set (i := 8) scSpoiled.nd rfl (Or.inl rfl) (pe_call Gp hrp rfl mGp kGp bGp .nil pass0 (pa_cons (pv 1) (pa_cons pe_int (pa_cons pe_int pa_nil)))))
    (@pss_cons _ _ _ _ _ (by exact ps_if (pt_cmpR op_eq (pv 8) pe_int (nomark _)) (@pss_one _ _ _ (by exact @ps_ret _ _ _ _ (pv 0))) pss_nil)
    (@pss_cons _ _ _ _ _ (by exact ps_if (pt_cmpR op_eq (pv 8) pe_int (nomark _)) (@pss_one _ _ _ (by exact @ps_ret _ _ _ _ (pe_op op_add_str (pe_op op_add_str (pe_slice sl_str (pv 0) po_none (po_some (pv 4))) (pv 3)) (pe_slice sl_str (pv 0) (po_some (pv 4)) po_none)))) pss_nil)
    (@pss_cons _ _ _ _ _ (by exact ps_if (pt_cmpR op_eq (pv 8) pe_int (nomark _)) (@pss_one _ _ _ (by exact @ps_ret _ _ _ _ (pe_op op_add_str (pe_slice sl_str (pv 0) po_none (po_some (pv 4))) (pe_slice sl_str (pv 0) (po_some (pe_op op_add (pv 4) pe_int)) po_none)))) pss_nil)
    (@pss_cons _ _ _ _ _ (by exact ps_if (pt_cmpR op_eq (pv 8) pe_int (nomark _)) (@pss_one _ _ _ (by exact @ps_ret _ _ _ _ (pe_op op_add_str (pe_op op_add_str (pe_slice sl_str (pv 0) po_none (po_some (pv 4))) (pv 3)) (pe_slice sl_str (pv 0) (po_some (pe_op op_add (pv 4) pe_int)) po_none)))) pss_nil)
    (@pss_cons _ _ _ _ _ (by exact ps_if (pt_cmpR op_eq (pv 8) pe_int (nomark _)) (@pss_one _ _ _ (by exact @ps_ret _ _ _ _ (pe_slice sl_str (pv 0) po_none (po_some (pv 4))))) pss_nil)
    (@pss_cons _ _ _ _ _ (by exact ps_if (pt_cmpR op_eq (pv 8) pe_int (nomark _)) (@pss_cons _ _ _ _ _ (by exact ps_asg (pe_ix ix_list (pv 5) (pe_call Gp hrp rfl mGp kGp bGp .nil pass0 (pa_cons (pv 1) (pa_cons pe_int (pa_cons pe_int pa_nil)))) (fun _ _ => rfl)) (pg_sub (pv 6) (pv 7) set_list)) (@pss_one _ _ _ (by exact @ps_ret _ _ _ _ (pe_bm PySem.F.plainAttrs_str PySem.F.slot_str_join PySem.F.type_str_join mt_join pe_str (pa_cons (pv 6) pa_nil))))) pss_nil)
    (@pss_cons _ _ _ _ _ (by exact ps_set (i := 9) scSpoiled.nd rfl (Or.inl rfl) (pe_call Gp hrp rfl mGp kGp bGp .nil pass0 (pa_cons (pv 1) (pa_cons pe_int (pa_cons (pe_callB call_len_seq rfl ml PySem.boot_len (pa_cons (pv 6) pa_nil)) pa_nil)))))
    (@pss_cons _ _ _ _ _ (by exact ps_if (pt_cmpR op_eq (pe_call Gp hrp rfl mGp kGp bGp .nil pass0 (pa_cons (pv 1) (pa_cons pe_int (pa_cons pe_int pa_nil)))) pe_int (nomark _)) (@pss_one _ _ _ (by exact @ps_ret _ _ _ _ (pe_bm PySem.F.plainAttrs_str PySem.F.slot_str_join PySem.F.type_str_join mt_join pe_str (pa_cons (pe_op op_cat (pe_op op_cat (pe_slice sl_list (pv 6) po_none (po_some (pv 7))) (pe_slice sl_list (pv 6) (po_some (pv 7)) (po_some (pe_op op_add (pv 7) pe_int)))) (pe_slice sl_list (pv 6) (po_some (pv 7)) po_none)) pa_nil)))) pss_nil)
    (@pss_cons _ _ _ _ _ (by exact ps_set (i := 10) scSpoiled.nd rfl (Or.inl rfl) (pe_ix ix_list (pv 6) (pv 7) (fun _ _ => rfl)))
    (@pss_cons _ _ _ _ _ (by exact ps_asg (pe_ix ix_list (pv 6) (pv 9) (fun _ _ => rfl)) (pg_sub (pv 6) (pv 7) set_list))
    (@pss_cons _ _ _ _ _ (by exact ps_asg (pv 10) (pg_sub (pv 6) (pv 9) set_list))
    (@pss_one _ _ _ (by exact @ps_ret _ _ _ _ (pe_bm PySem.F.plainAttrs_str PySem.F.slot_str_join PySem.F.type_str_join mt_join pe_str (pa_cons (pv 6) pa_nil)))))))))))))))))))))), ?_⟩
  have zs : z.length ≤ sizeLine := small5 (Nat.le_trans hz.1 (by decide))
  have fin : ∀ {H' : Hp} {z' : Str} {n : Nat}, Same H H' → wt n z' → n ≤ 4600 → Q (.str z') H' := fun sm h hn => q _ _ sm (h.mono hn)
  refine ⟨_, rfl, _, _, rfl, rfl, sig_wt.fit sig_wt2 (by decide), _, rfl, c, 40, 94, rfl, by decide, fun r h0 h1 => ?_⟩
  have wsg := sig_wt.app sig_wt2
  obtain ⟨ch, hch, ech⟩ : ∃ ch, ch < 128 ∧ atI (Str.ofString " !\"#$&'()*+,-./0123456789:;<=>?@ABCDEFGHIJKLMNOPQRSTUVWXYZ[\\]^_`" ++ Str.ofString "abcdefghijklmnopqrstuvwxyz{|}~").cps.toList r = some ch := by
    obtain ⟨ch, e⟩ := at_str (z := Str.ofString " !\"#$&'()*+,-./0123456789:;<=>?@ABCDEFGHIJKLMNOPQRSTUVWXYZ[\\]^_`" ++ Str.ofString "abcdefghijklmnopqrstuvwxyz{|}~") h0 (by rw [sig_len]; exact h1)
    refine ⟨ch, wsg.2 ch ?_, e⟩
    unfold atI at e
    obtain ⟨j, _, hj⟩ := Option.bind_eq_some_iff.mp e
    exact List.mem_of_getElem? hj
  refine ⟨_, r, ch, rfl, rfl, small5 (Nat.le_trans wsg.1 (by decide)), ech, ?_⟩
  have wch : wt 1 (⟨#[ch]⟩ : Str) := ⟨Nat.le_refl _, fun x hx => by rw [List.mem_singleton.mp (show x ∈ [ch] from hx)]; exact hch⟩
  refine ⟨_, rfl, _, rfl, z, rfl, zs, c, 41, _, rfl, by omega, fun sp s0 s1 => ?_⟩
  refine ⟨small5 (by show 12 ≤ 5000; decide), fun p1 hp1 => ?_⟩
  have sp1 := same_new hp1 (.lst (lst12.map V.str))
  refine ⟨_, rfl, small5 (by show 11 ≤ 5000; decide), fun p2 hp2 => ?_⟩
  have sp2 := same_new hp2 (.lst (lst11.map V.str))
  refine ⟨p1, p2, _, _, rfl, rfl, sp2 _ _ upd_same, upd_same, small5 (by show 12 + 11 ≤ 5000; decide), fun p3 hp3 => ?_⟩
  have sp3 := same_new hp3 (.lst (lst12.map V.str ++ lst11.map V.str))
  have s3 := (sp1.trans sp2).trans sp3
  have e3 : upd (upd (upd H p1 (.lst (lst12.map V.str))) p2 (.lst (lst11.map V.str))) p3 (.lst (lst12.map V.str ++ lst11.map V.str)) p3 = some (.lst ((lst12 ++ lst11).map V.str)) := by rw [upd_same, List.map_append]
  generalize upd (upd (upd H p1 (.lst (lst12.map V.str))) p2 (.lst (lst11.map V.str))) p3 (.lst (lst12.map V.str ++ lst11.map V.str)) = H3 at s3 e3 ⊢
  refine ⟨_, rfl, rfl, z, _, rfl, rfl, by decide +kernel, Nat.le_trans hz.1 (by decide), fun R hR => ?_⟩
  rw [split_B]
  have wps := wl_split hz
  have pne : 0 < ((splitB z.cps.toList).map mkS).length := by rw [List.length_map]; exact List.length_pos_iff.mpr (splitB_ne _)
  generalize (splitB z.cps.toList).map mkS = ps at wps pne ⊢
  have sR := s3.trans (same_new hR (.lst (ps.map V.str)))
  have hR0 : H R = none := none_of_same s3 hR
  have eR : upd H3 R (.lst (ps.map V.str)) R = some (.lst (ps.map V.str)) := upd_same
  have e3' : upd H3 R (.lst (ps.map V.str)) p3 = some (.lst ((lst12 ++ lst11).map V.str)) := same_new hR _ _ _ e3
  generalize upd H3 R (.lst (ps.map V.str)) = H4 at sR eR e3' ⊢
  have lps : (ps.map V.str).length = ps.length := List.length_map ..
  refine ⟨_, rfl, _, rfl, R, _, rfl, .inl (SqL.of eR), c, 42, _, rfl, by rw [lps]; omega, fun at' t0 t1 => ?_⟩
  rw [lps] at t1
  refine ⟨_, rfl, c, 43, 7, rfl, by decide, fun way _ _ => ?_⟩
  refine ⟨_, rfl, rfl, _, rfl, ite2 (fun _ => ⟨_, rfl, fin sR hz (by decide)⟩) (fun _ => ?_)⟩
  have wa := wt_slice hz none (some sp)
  have wb := wt_slice hz (some sp) none
  have wc := wt_slice hz (some (sp + 1)) none
  refine ⟨_, rfl, rfl, _, rfl, ite2 (fun _ => ?_) (fun _ => ?_)⟩
  · exact ⟨_, rfl, _, rfl, sp, rfl, z, rfl, zs, _, rfl, _, _, rfl, rfl, wa.fit wch (by decide), _, rfl, _, rfl, sp, rfl, z, rfl, zs, _, _, rfl, rfl, (wa.app wch).fit wb (by decide), fin sR ((wa.app wch).app wb) (by decide)⟩
  refine ⟨_, rfl, rfl, _, rfl, ite2 (fun _ => ?_) (fun _ => ?_)⟩
  · exact ⟨_, rfl, _, rfl, sp, rfl, z, rfl, zs, _, rfl, _, rfl, _, _, rfl, rfl, sp + 1, rfl, z, rfl, zs, _, _, rfl, rfl, wa.fit wc (by decide), fin sR (wa.app wc) (by decide)⟩
  refine ⟨_, rfl, rfl, _, rfl, ite2 (fun _ => ?_) (fun _ => ?_)⟩
  · exact ⟨_, rfl, _, rfl, sp, rfl, z, rfl, zs, _, rfl, _, _, rfl, rfl, wa.fit wch (by decide), _, rfl, _, rfl, _, _, rfl, rfl, sp + 1, rfl, z, rfl, zs, _, _, rfl, rfl, (wa.app wch).fit wc (by decide), fin sR ((wa.app wch).app wc) (by decide)⟩
  refine ⟨_, rfl, rfl, _, rfl, ite2 (fun _ => ⟨_, rfl, _, rfl, sp, rfl, z, rfl, zs, fin sR wa (by decide)⟩) (fun _ => ?_)⟩
  have wall := wl12.app wl11
  have ixa : ixN (ps.map V.str).length at' = some at'.toNat := ixN_of t0 (by rw [lps]; exact t1)
  refine ⟨_, rfl, rfl, _, rfl, ite2 (fun _ => ?_) (fun _ => ?_)⟩
  · refine ⟨_, rfl, _, rfl, c, 44, 23, rfl, by decide, fun r5 h50 h51 => ?_⟩
    obtain ⟨v, hv, ev⟩ := strs_at (ws := lst12 ++ lst11) h50 (by show r5 < 23; exact h51)
    refine ⟨p3, _, r5, _, rfl, rfl, SqL.of e3', ev, _, rfl, _, rfl, R, _, at', at'.toNat, rfl, rfl, eR, ixa, ?_⟩
    rw [← List.map_set]
    have w2 := wps.set (wall.mem hv) at'.toNat
    exact ⟨rfl, _, rfl, _, R, _, rfl, rfl, SqL.of upd_same, w2.fits (by decide), fin (same_upd sR hR0) w2.join (by decide)⟩
  refine ⟨_, rfl, _, rfl, R, _, rfl, .inl (SqL.of eR), c, 45, _, rfl, by rw [lps]; omega, fun ot u0 u1 => ?_⟩
  rw [lps] at u1
  refine ⟨_, rfl, c, 46, 2, rfl, by decide, fun r6 _ _ => ⟨rfl, _, rfl, ite2 (fun _ => ?_) (fun _ => ?_)⟩⟩
  · obtain ⟨x1, ex1, wx1⟩ := wps.cut none (some at')
    obtain ⟨x2, ex2, wx2⟩ := wps.cut (some at') (some (at' + 1))
    obtain ⟨x3, ex3, wx3⟩ := wps.cut (some at') none
    refine ⟨rfl, _, rfl, _, rfl, at', rfl, R, _, rfl, SqL.of eR, fun q1 hq1 => ?_⟩
    rw [ex1]
    have sq1 := same_new hq1 (.lst (x1.map V.str))
    refine ⟨_, rfl, _, rfl, at', rfl, _, rfl, _, _, rfl, rfl, at' + 1, rfl, R, _, rfl, SqL.of (sq1 _ _ eR), fun q2 hq2 => ?_⟩
    rw [ex2]
    have sq2 := same_new hq2 (.lst (x2.map V.str))
    have lx : ∀ {us : List Str} {n : Nat}, wl n us → us.length ≤ n := fun {us n} h => by have := wsum_eq us; have := h.1; omega
    have l1 := lx wx1
    have l2 := lx wx2
    have l3 := lx wx3
    refine ⟨q1, q2, _, _, rfl, rfl, sq2 _ _ upd_same, upd_same, small5 (by rw [List.length_map, List.length_map]; omega), fun q3 hq3 => ?_⟩
    have sq3 := same_new hq3 (.lst (x1.map V.str ++ x2.map V.str))
    refine ⟨_, rfl, _, rfl, at', rfl, R, _, rfl, SqL.of (((sq1.trans sq2).trans sq3) _ _ eR), fun q4 hq4 => ?_⟩
    rw [ex3]
    have sq4 := same_new hq4 (.lst (x3.map V.str))
    refine ⟨q3, q4, _, _, rfl, rfl, sq4 _ _ upd_same, upd_same, small5 (by rw [List.length_append, List.length_map, List.length_map, List.length_map]; omega), fun q5 hq5 => ?_⟩
    have sq5 := same_new hq5 (.lst ((x1.map V.str ++ x2.map V.str) ++ x3.map V.str))
    have w5 := (wx1.app wx2).app wx3
    exact ⟨_, q5, (x1 ++ x2) ++ x3, rfl, rfl, SqL.of (by rw [List.map_append, List.map_append]; exact upd_same), w5.fits (by decide), fin (sR.trans ((((sq1.trans sq2).trans sq3).trans sq4).trans sq5)) w5.join (by decide)⟩
  obtain ⟨va, hva, eva⟩ := strs_at (ws := ps) t0 t1
  obtain ⟨vo, hvo, evo⟩ := strs_at (ws := ps) u0 u1
  refine ⟨_, rfl, _, rfl, R, _, _, _, rfl, rfl, SqL.of eR, eva, ?_⟩
  refine ⟨_, rfl, _, rfl, R, _, _, _, rfl, rfl, SqL.of eR, evo, _, rfl, _, rfl, R, _, at', at'.toNat, rfl, rfl, eR, ixa, ?_⟩
  rw [← List.map_set]
  refine ⟨_, rfl, _, rfl, _, rfl, R, _, ot, ot.toNat, rfl, rfl, upd_same, ixN_of u0 (by rw [List.length_map, List.length_set]; exact u1), ?_⟩
  rw [← List.map_set, upd_upd]
  have w7 := (wps.set (wps.mem hvo) at'.toNat).set (wps.mem hva) ot.toNat
  exact ⟨rfl, _, rfl, _, R, _, rfl, rfl, SqL.of upd_same, w7.fits (by decide), fin (same_upd sR hR0) w7.join (by decide)⟩
end
end K12
namespace K12
open PySem L2
theorem xas_strs {H : Hp} : ∀ ws : List Str, Xas H (ws.map Tx.str) (ws.map V.str)
  | [] => rfl
  | _ :: ws => ⟨_, _, rfl, rfl, xas_strs ws⟩
theorem strs_dp (ws : List Str) : ∀ d ∈ ws.map Tx.str, d.dp ≤ 60 := fun d hd => by
  obtain ⟨w, _, rfl⟩ := List.mem_map.mp hd
  exact Nat.zero_le _
theorem cut_nn (xs : List V) (i j : Nat) : cutV xs (some (i : Int)) (some (j : Int)) = (xs.take j).drop i := by
  unfold cutV
  rw [HT.sIx_nat, HT.sIx_nat]
  refine List.ext_getElem? fun k => ?_
  rw [List.getElem?_take, List.getElem?_drop, List.getElem?_drop, List.getElem?_take]
  by_cases h : i + k < j
  · by_cases h2 : i + k < xs.length
    · rw [if_pos (by omega), if_pos h, Nat.min_eq_left (by omega)]
    · rw [if_pos h, List.getElem?_eq_none (by omega : xs.length ≤ i + k)]
      split
      · exact List.getElem?_eq_none (by omega)
      · rfl
  · rw [if_neg (by omega), if_neg h]
theorem cut_n (xs : List V) (i : Nat) : cutV xs (some (i : Int)) none = xs.drop i := by
  unfold cutV
  rw [HT.sIx_nat, HT.sIx_none]
  refine List.ext_getElem? fun k => ?_
  rw [List.getElem?_take, List.getElem?_drop, List.getElem?_drop]
  by_cases h : i + k < xs.length
  · rw [if_pos (by omega), Nat.min_eq_left (by omega)]
  · rw [List.getElem?_eq_none (by omega : xs.length ≤ i + k)]
    split
    · exact List.getElem?_eq_none (by omega)
    · rfl
theorem mk_IS : mkS IS = "is" := strX (by rw [mkS_l]; decide +kernel)
theorem count_is (ps : List (List Nat)) : (((ps.map mkS).map Tx.str).countP fun d => @decide (d = Tx.str "is") (Classical.propDecidable _)) = ps.count IS := by
  induction ps with
  | nil => rfl
  | cons p ps ih =>
    rw [List.map_cons, List.map_cons, List.countP_cons, List.count_cons, ih]
    congr 1
    by_cases h : p = IS
    · subst h
      rw [mk_IS]
      simp
    · have h1 : ¬ Tx.str (mkS p) = Tx.str "is" := fun e => h (mk_inj (by rw [mk_IS]; injection e))
      simp [h1, h]
theorem one_is {ps : List (List Nat)} (h : ps.count IS = 1) : ∃ A B, ps = A ++ IS :: B ∧ IS ∉ A ∧ IS ∉ B := by
  obtain ⟨A, B, e⟩ := List.append_of_mem (List.count_pos_iff.mp (by rw [h]; decide))
  rw [e, List.count_append, List.count_cons_self] at h
  exact ⟨A, B, e, fun hm => by have := List.count_pos_iff.mpr hm; omega, fun hm => by have := List.count_pos_iff.mpr hm; omega⟩
theorem txt_jn {n : Nat} {us : List Str} (h : wl n us) (hn : n ≤ 5000) : txt (Str.join (Str.ofString " ") us) := ⟨Nat.le_trans h.join.1 hn, h.join.2⟩
theorem jn_l (A : List (List Nat)) : (Str.join (Str.ofString " ") (A.map mkS)).cps.toList = jn A := by rw [one_32]; exact jn_str A
def spSayingOf : Sp := fun vs H Q _ => ∃ z : Str, vs = [.str z] ∧ wt 4600 z ∧ (∀ S, SayL z.cps.toList S → ∀ H' v, Same H H' → IsS H' S.ks v → Q v H') ∧ ((∀ S, ¬ SayL z.cps.toList S) → ∀ H', Same H H' → Q .non H')
theorem k_some {H : Hp} {k : Kd} {v : V} (h : IsK H k v) : decide (v = V.non) = false := by
  cases k with
  | nm x => cases h; exact decide_eq_false (fun z => by cases z)
  | two a b => obtain ⟨p, x, y, rfl, _⟩ := h; exact decide_eq_false (fun z => by cases z)
  | som r c => obtain ⟨p, y, rfl, _⟩ := h; exact decide_eq_false (fun z => by cases z)
def KoV (l : List Nat) (H : Hp) (v : V) : Prop := (∃ k, kindL l = some k ∧ IsK H k v) ∨ (kindL l = none ∧ v = .non)
theorem KoV.mono {l : List Nat} {H H' : Hp} {v : V} (t : Tups H H') (h : KoV l H v) : KoV l H' v := h.elim (fun ⟨k, a, b⟩ => .inl ⟨k, a, b.mono t⟩) .inr
theorem KK.count {l h : List Nat} {c d : Kd} (hh : 32 ∉ h) (hi : h ≠ IS) (k : KK l h c d) : (splitB l).count IS = 1 := by
  rw [k.split hh, List.count_cons_of_ne hi, List.count_append, List.count_cons_self, List.count_eq_zero.mpr (is_free k.1), List.count_eq_zero.mpr (is_free k.2.2.1)]
section
variable {P : Program} {w : World} {K : PySem.W.Frag} {mg : Str → Option Value} {base : Heap} {f g e a1 a2 a3 a4 a5 C : Addr} {fd gd ed d1 d2 d3 d4 d5 : FuncData}
theorem scSayingOf : FnScope ["_law_text", "_law_pieces", "_law_many", "_law_at", "_law_one", "_law_other", "_law_kind"] ["_law_text"] (defScope sSayingOf) := ⟨rfl, rfl, rfl, by decide +kernel, rfl, by decide +kernel, by decide +kernel⟩
theorem ok_sayingOf (F : Fun K "_law_saying_of" "_law_saying_of" sSayingOf f fd) (ml : mg "len" = none) (Gln : FnOk P w K mg base CX0 2 a1 d1 ["_law_text"] spName) (bGln : Binds K d1 ["_law_text"] []) (kGln : PySem.W.keepIn K (.ref a1) = true) (mGln : mg "_law_is_name" = some (.ref a1))
    (Glt : FnOk P w K mg base CX0 2 a2 d2 ["_law_text"] spLThing) (bGlt : Binds K d2 ["_law_text"] []) (kGlt : PySem.W.keepIn K (.ref a2) = true) (mGlt : mg "_law_is_thing" = some (.ref a2))
    (Glk : FnOk P w K mg base CX0 4 a3 d3 ["_law_text"] spKindOf) (bGlk : Binds K d3 ["_law_text"] []) (kGlk : PySem.W.keepIn K (.ref a3) = true) (mGlk : mg "_law_kind_of" = some (.ref a3)) :
    FnOk P w K mg base CX0 5 f fd ["_law_text"] spSayingOf := by
  refine F.ok scSayingOf (fun vs H Q E h => ?_) (fun cdv A outer s H vs Q E hr h => ?_)
  · obtain ⟨z, rfl, _⟩ := h; rfl
  obtain ⟨z, rfl, hz, q1, q2⟩ := h
  have hrlk := hr
  have hrln := hr.mono (show 2 ≤ 4 by decide)
  have hrlt := hr.mono (show 2 ≤ 4 by decide)
  refine ⟨_, @pss_cons _ _ _ _ _ (by exact ps_set (i := 1) scSayingOf.nd rfl (Or.inl rfl) (pe_bm PySem.F.plainAttrs_str PySem.F.slot_str_split PySem.F.type_str_split mt_split5 (pv 0) (pa_cons pe_str pa_nil)))
    (@pss_cons _ _ _ _ _ (by exact ps_set (i := 2) scSayingOf.nd rfl (Or.inl rfl) (pe_callB call_len_seq rfl ml PySem.boot_len (pa_cons (pv 1) pa_nil)))
    (@pss_mid _ _ _ _ _ (by exact ps_if (PW.pt (pw_and (pt_cmpR op_in_seq (pe_ix ix_list (pv 1) pe_int (fun _ _ => rfl)) (pe_lst (pa_cons pe_str (pa_cons pe_str pa_nil))) rfl) (pw_and1 (pt_cmpR op_eq (pe_bm PySem.F.plainAttrs_list PySem.F.slot_list_count PySem.F.type_list_count (mt_countX hr.units) (pv 1) (pa_cons pe_str pa_nil)) pe_int (nomark _))))) (@pss_cons _ _ _ _ _ (by exact ps_set (i := 3) scSayingOf.nd rfl (Or.inl rfl) (pe_bm PySem.F.plainAttrs_list PySem.F.slot_list_index PySem.F.type_list_index (mt_index6 hr.units) (pv 1) (pa_cons pe_str pa_nil))) (@pss_mid _ _ _ _ _ (by exact ps_set (i := 4) scSayingOf.nd rfl (Or.inl rfl) (pe_call Glk hrlk rfl mGlk kGlk bGlk .nil pass0 (pa_cons (pe_bm PySem.F.plainAttrs_str PySem.F.slot_str_join PySem.F.type_str_join mt_join pe_str (pa_cons (pe_slice sl_list (pv 1) (po_some pe_int) (po_some (pv 3))) pa_nil)) pa_nil))) (@pss_mid _ _ _ _ _ (by exact ps_set (i := 5) scSayingOf.nd rfl (Or.inl rfl) (pe_call Glk hrlk rfl mGlk kGlk bGlk .nil pass0 (pa_cons (pe_bm PySem.F.plainAttrs_str PySem.F.slot_str_join PySem.F.type_str_join mt_join pe_str (pa_cons (pe_slice sl_list (pv 1) (po_some (pe_op op_add (pv 3) pe_int)) po_none) pa_nil)) pa_nil))) (@pss_one _ _ _ (by exact ps_if (PW.pt (pw_and (pt_cmpR op_notN (pv 4) pe_non rfl) (pw_and1 (pt_cmpR op_notN (pv 5) pe_non rfl)))) (@pss_one _ _ _ (by exact @ps_ret _ _ _ _ (@pe_tup _ _ _ _ _ (pa_cons (pe_ix ix_list (pv 1) pe_int (fun _ _ => rfl)) (pa_cons (pv 4) (pa_cons (pv 5) pa_nil)))))) pss_nil))))) pss_nil)
    (@pss_mid _ _ _ _ _ (by exact ps_if (PW.pt (pw_and (pt_cmpR op_eq (pe_ix ix_list (pv 1) pe_int (fun _ _ => rfl)) pe_str (nomark _)) (pw_and (pt_cmpR op_eq (pv 2) pe_int (nomark _)) (pw_and1 (pt_cmpR op_eq (pe_ix ix_list (pv 1) pe_int (fun _ _ => rfl)) pe_str (nomark _)))))) (@pss_one _ _ _ (by exact ps_if (PW.pt (pw_and (pt_val (pe_call Gln hrln rfl mGln kGln bGln .nil pass0 (pa_cons (pe_ix ix_list (pv 1) pe_int (fun _ _ => rfl)) pa_nil))) (pw_and1 (pt_val (pe_call Gln hrln rfl mGln kGln bGln .nil pass0 (pa_cons (pe_ix ix_list (pv 1) pe_int (fun _ _ => rfl)) pa_nil)))))) (@pss_one _ _ _ (by exact @ps_ret _ _ _ _ (@pe_tup _ _ _ _ _ (pa_cons pe_str (pa_cons (pe_ix ix_list (pv 1) pe_int (fun _ _ => rfl)) (pa_cons (pe_ix ix_list (pv 1) pe_int (fun _ _ => rfl)) pa_nil)))))) pss_nil)) pss_nil)
    (@pss_mid _ _ _ _ _ (by exact ps_if (PW.pt (pw_and (pt_cmpR op_eq (pe_ix ix_list (pv 1) pe_int (fun _ _ => rfl)) pe_str (nomark _)) (pw_and (pt_cmpR op_eq (pv 2) pe_int (nomark _)) (pw_and (pt_cmpR op_eq (pe_ix ix_list (pv 1) pe_int (fun _ _ => rfl)) pe_str (nomark _)) (pw_and1 (pt_cmpR op_eq (pe_ix ix_list (pv 1) pe_int (fun _ _ => rfl)) pe_str (nomark _))))))) (@pss_one _ _ _ (by exact ps_if (PW.pt (pw_and (pt_val (pe_call Gln hrln rfl mGln kGln bGln .nil pass0 (pa_cons (pe_ix ix_list (pv 1) pe_int (fun _ _ => rfl)) pa_nil))) (pw_and (pt_val (pe_call Gln hrln rfl mGln kGln bGln .nil pass0 (pa_cons (pe_ix ix_list (pv 1) pe_int (fun _ _ => rfl)) pa_nil))) (pw_and1 (pt_val (pe_call Gln hrln rfl mGln kGln bGln .nil pass0 (pa_cons (pe_ix ix_list (pv 1) pe_int (fun _ _ => rfl)) pa_nil))))))) (@pss_one _ _ _ (by exact @ps_ret _ _ _ _ (@pe_tup _ _ _ _ _ (pa_cons pe_str (pa_cons (pe_ix ix_list (pv 1) pe_int (fun _ _ => rfl)) (pa_cons (pe_ix ix_list (pv 1) pe_int (fun _ _ => rfl)) (pa_cons (pe_ix ix_list (pv 1) pe_int (fun _ _ => rfl)) pa_nil))))))) pss_nil)) pss_nil)
    (@pss_mid _ _ _ _ _ (by exact ps_if (PW.pt (pw_and (pt_val (pe_call Glt hrlt rfl mGlt kGlt bGlt .nil pass0 (pa_cons (pe_ix ix_list (pv 1) pe_int (fun _ _ => rfl)) pa_nil))) (pw_and (pt_cmpR op_gt (pv 2) pe_int (nomark _)) (pw_and1 (pt_cmpR op_eq (pe_ix ix_list (pv 1) pe_int (fun _ _ => rfl)) pe_str (nomark _)))))) (@pss_mid _ _ _ _ _ (by exact ps_set (i := 6) scSayingOf.nd rfl (Or.inl rfl) (pe_call Glk hrlk rfl mGlk kGlk bGlk .nil pass0 (pa_cons (pe_bm PySem.F.plainAttrs_str PySem.F.slot_str_join PySem.F.type_str_join mt_join pe_str (pa_cons (pe_slice sl_list (pv 1) (po_some pe_int) po_none) pa_nil)) pa_nil))) (@pss_one _ _ _ (by exact ps_if (pt_cmpR op_notN (pv 6) pe_non rfl) (@pss_one _ _ _ (by exact @ps_ret _ _ _ _ (@pe_tup _ _ _ _ _ (pa_cons pe_str (pa_cons (pe_ix ix_list (pv 1) pe_int (fun _ _ => rfl)) (pa_cons (pv 6) pa_nil)))))) pss_nil))) pss_nil)
    (@pss_mid _ _ _ _ _ (by exact ps_if (PW.pt (pw_and (pt_val (pe_call Glt hrlt rfl mGlt kGlt bGlt .nil pass0 (pa_cons (pe_ix ix_list (pv 1) pe_int (fun _ _ => rfl)) pa_nil))) (pw_and (pt_cmpR op_eq (pv 2) pe_int (nomark _)) (pw_and (pt_val (pe_call Gln hrln rfl mGln kGln bGln .nil pass0 (pa_cons (pe_ix ix_list (pv 1) pe_int (fun _ _ => rfl)) pa_nil))) (pw_and1 (pt_val (pe_call Glt hrlt rfl mGlt kGlt bGlt .nil pass0 (pa_cons (pe_ix ix_list (pv 1) pe_int (fun _ _ => rfl)) pa_nil)))))))) (@pss_one _ _ _ (by exact @ps_ret _ _ _ _ (@pe_tup _ _ _ _ _ (pa_cons pe_str (pa_cons (pe_ix ix_list (pv 1) pe_int (fun _ _ => rfl)) (pa_cons (pe_ix ix_list (pv 1) pe_int (fun _ _ => rfl)) (pa_cons (pe_ix ix_list (pv 1) pe_int (fun _ _ => rfl)) pa_nil))))))) pss_nil)
    (@pss_one _ _ _ (by exact @ps_ret _ _ _ _ pe_non)))))))), ?_⟩
  have wps := wl_split hz
  have hzt : txt z := ⟨Nat.le_trans hz.1 (by decide), hz.2⟩
  refine ⟨_, rfl, rfl, z, _, rfl, rfl, by decide +kernel, hzt.1, fun R hR => ?_⟩
  rw [split_B]
  obtain ⟨p0, pr, eps⟩ : ∃ p0 pr, splitB z.cps.toList = p0 :: pr := by
    cases e : splitB z.cps.toList with
    | nil => exact absurd e (splitB_ne _)
    | cons p0 pr => exact ⟨p0, pr, rfl⟩
  have lps := splitB_len z.cps.toList
  rw [← len_l] at lps
  have tps : ∀ p ∈ splitB z.cps.toList, txt (mkS p) := fun p hp => txt_piece hzt hp
  generalize hps : splitB z.cps.toList = ps at *
  have s0 := same_new hR (.lst ((ps.map mkS).map V.str))
  have eR : upd H R (.lst ((ps.map mkS).map V.str)) R = some (.lst ((ps.map mkS).map V.str)) := upd_same
  generalize upd H R (.lst ((ps.map mkS).map V.str)) = HP at s0 eR ⊢
  have at_ : ∀ {j : Nat} {p : List Nat}, ps[j]? = some p → atI ((ps.map mkS).map V.str) (j : Int) = some (.str (mkS p)) := fun {j p} h => atI_nat (by rw [List.getElem?_map, List.getElem?_map, h]; rfl)
  refine ⟨_, rfl, R, _, rfl, .inl (SqL.of eR), ?_⟩
  have z5 := hz.1
  refine ⟨fun σ H' => (∃ o3 o4 o5 o6 : Option V, σ = [some (.str z), some (.ref R), some (.int (((ps.map mkS).map V.str).length : Int)), o3, o4, o5, o6]) ∧ Same HP H' ∧ (∀ c d, ¬ KK z.cps.toList EV c d) ∧ ∀ c d, ¬ KK z.cps.toList NO c d, ?_, ?_⟩
  · refine ⟨_, rfl, R, _, _, _, rfl, rfl, SqL.of eR, at_ (j := 0) (by rw [eps]; rfl), small5 (by show 2 ≤ 5000; decide), fun q hq => ?_⟩
    have sq := same_new hq (.lst [.str "every", .str "no"])
    refine ⟨q, _, rfl, .inl (SqL.of upd_same), rfl, by decide +kernel, _, rfl, ?_⟩
    rw [if_neg Bool.false_ne_true, in2]
    generalize upd HP q (.lst [.str "every", .str "no"]) = H1 at sq ⊢
    have hd : ∀ {x : List Nat} {c d : Kd}, 32 ∉ x → KK z.cps.toList x c d → p0 = x := fun {x c d} hx k => by
      have := k.split hx
      rw [hps, eps] at this
      exact (List.cons.inj this).1
    by_cases cE : mkS p0 = "every" ∨ mkS p0 = "no"
    rotate_left
    · rw [decide_eq_false cE]
      exact iteF ⟨⟨_, _, _, _, rfl⟩, sq, fun c d k => cE (.inl (by rw [hd (by decide) k, mk_EV])), fun c d k => cE (.inr (by rw [hd (by decide) k, mk_NO]))⟩
    rw [decide_eq_true cE]
    have eR1 := sq _ _ eR
    refine iteT ⟨_, rfl, .inl ⟨rfl, _, SqL.of eR1⟩, R, _, _, (ps.map mkS).map Tx.str, Tx.str "is", rfl, rfl, eR1, xas_strs _, rfl, strs_dp _, rfl, _, rfl, ?_⟩
    rw [count_is]
    by_cases c1 : ps.count IS = 1
    rotate_left
    · rw [decide_eq_false (fun e : V.int ((ps.count IS : Nat) : Int) = V.int 1 => c1 (by injection e with e; omega))]
      exact iteF ⟨⟨_, _, _, _, rfl⟩, sq, fun c d k => c1 (by rw [← hps]; exact k.count (by decide) (by decide)), fun c d k => c1 (by rw [← hps]; exact k.count (by decide) (by decide))⟩
    rw [decide_eq_true (show V.int ((ps.count IS : Nat) : Int) = V.int 1 by rw [c1]; rfl)]
    obtain ⟨A, B, eAB, nA, nB⟩ := one_is c1
    obtain ⟨A', rfl⟩ : ∃ A', A = p0 :: A' := by
      cases A with
      | nil =>
        rw [eps] at eAB
        have : p0 = IS := (List.cons.inj eAB).1
        rw [this, mk_IS] at cE
        exact absurd cE (by decide +kernel)
      | cons x A' => rw [eps] at eAB; exact ⟨A', by rw [(List.cons.inj eAB).1]⟩
    have mapA : (ps.map mkS).map V.str = ((p0 :: A').map mkS).map V.str ++ ((IS :: B).map mkS).map V.str := by rw [eAB, List.map_append, List.map_append]
    have lA : (((p0 :: A').map mkS).map V.str).length = A'.length + 1 := by rw [List.length_map, List.length_map]; rfl
    have cA : cutV ((ps.map mkS).map V.str) (some 1) (some ((A'.length + 1 : Nat) : Int)) = (A'.map mkS).map V.str := by
      rw [show (some (1 : Int)) = some ((1 : Nat) : Int) from rfl, cut_nn, mapA, List.take_left' lA]; rfl
    have cB : cutV ((ps.map mkS).map V.str) (some ((A'.length + 1 : Nat) + 1 : Int)) none = (B.map mkS).map V.str := by
      rw [show (some (((A'.length + 1 : Nat) : Int) + 1)) = some ((A'.length + 1 + 1 : Nat) : Int) from rfl, cut_n, mapA, ← List.drop_drop, List.drop_left' lA]; rfl
    have wAB : wl 4601 (A'.map mkS) ∧ wl 4601 (B.map mkS) := by
      have e1 : ps.map mkS = [mkS p0] ++ (A'.map mkS ++ ([mkS IS] ++ B.map mkS)) := by rw [eAB]; simp
      have w1 := wps.1
      rw [e1, wsum_app, wsum_app, wsum_app] at w1
      refine ⟨⟨by omega, fun x hx => wps.2 x (by rw [e1]; simp only [List.mem_append]; exact .inr (.inl hx))⟩, ⟨by omega, fun x hx => wps.2 x (by rw [e1]; simp only [List.mem_append]; exact .inr (.inr (.inr hx)))⟩⟩
    refine iteT ⟨_, rfl, .inl ⟨rfl, _, SqL.of eR1⟩, R, _, _, (ps.map mkS).map Tx.str, Tx.str "is", A'.length + 1, rfl, rfl, eR1, xas_strs _, rfl, strs_dp _, by rw [List.length_map, List.length_map]; omega, ?_, fun m hm em => ?_, ?_⟩
    · rw [List.getElem?_map, List.getElem?_map, eAB, List.getElem?_append_right (by simp), show A'.length + 1 - (p0 :: A').length = 0 by simp]
      show some (Tx.str (mkS IS)) = _
      rw [mk_IS]
    · rw [List.getElem?_map, List.getElem?_map, eAB, List.getElem?_append_left (by simpa using hm), Option.map_map] at em
      obtain ⟨p, hp, ep⟩ := Option.map_eq_some_iff.mp em
      have : p = IS := mk_inj (by rw [mk_IS]; injection ep)
      exact nA (this ▸ List.mem_of_getElem? hp)
    refine ⟨fun σ H' => ∃ v1, σ = [some (.str z), some (.ref R), some (.int (((ps.map mkS).map V.str).length : Int)), some (.int ((A'.length + 1 : Nat) : Int)), some v1, none, none] ∧ Same HP H' ∧ KoV (jn A') H' v1, ?_, ?_⟩
    · refine ⟨rfl, _, rfl, 1, rfl, _, rfl, ((A'.length + 1 : Nat) : Int), rfl, R, _, rfl, SqL.of eR1, fun p1 hp1 => ?_⟩
      rw [cA]
      have sp1 := sq.trans (same_new hp1 (.lst ((A'.map mkS).map V.str)))
      exact ⟨_, p1, A'.map mkS, rfl, rfl, SqL.of upd_same, wAB.1.fits (by decide), _, rfl, txt_jn wAB.1 (by decide), fun k hk H' v s' ik => ⟨v, rfl, sp1.trans s', .inl ⟨k, by rw [← jn_l]; exact hk, ik⟩⟩, fun hn H' s' => ⟨.non, rfl, sp1.trans s', .inr ⟨by rw [← jn_l]; exact hn, rfl⟩⟩⟩
    rintro σ H2 ⟨v1, rfl, s2, ko1⟩
    refine ⟨fun σ H' => ∃ v2, σ = [some (.str z), some (.ref R), some (.int (((ps.map mkS).map V.str).length : Int)), some (.int ((A'.length + 1 : Nat) : Int)), some v1, some v2, none] ∧ Same HP H' ∧ KoV (jn A') H' v1 ∧ KoV (jn B) H' v2, ?_, ?_⟩
    · refine ⟨rfl, _, rfl, _, rfl, _, _, rfl, rfl, ((A'.length + 1 : Nat) : Int) + 1, rfl, R, _, rfl, SqL.of (s2 _ _ eR), fun p1 hp1 => ?_⟩
      rw [cB]
      have sn := same_new hp1 (.lst ((B.map mkS).map V.str))
      have sp1 := s2.trans sn
      exact ⟨_, p1, B.map mkS, rfl, rfl, SqL.of upd_same, wAB.2.fits (by decide), _, rfl, txt_jn wAB.2 (by decide), fun k hk H' v s' ik => ⟨v, rfl, sp1.trans s', ko1.mono (sn.trans s').tups, .inl ⟨k, by rw [← jn_l]; exact hk, ik⟩⟩, fun hn H' s' => ⟨.non, rfl, sp1.trans s', ko1.mono (sn.trans s').tups, .inr ⟨by rw [← jn_l]; exact hn, rfl⟩⟩⟩
    rintro σ H3 ⟨v2, rfl, s3, k1, k2⟩
    have eab : splitB z.cps.toList = p0 :: (A' ++ IS :: B) := by rw [hps, eAB]; rfl
    have nA' : IS ∉ A' := fun h => nA (List.mem_cons_of_mem _ h)
    have no : ∀ {x : List Nat} {c d : Kd}, 32 ∉ x → KK z.cps.toList x c d → kindL (jn A') = some c ∧ kindL (jn B) = some d := fun {x c d} hx k => by
      have e0 := hd hx k
      exact k.kinds hx (by rw [eab, e0]) nA' nB
    have eR3 := s3 _ _ eR
    refine ⟨_, rfl, rfl, _, rfl, ?_⟩
    rcases k1 with ⟨c, hc, ic⟩ | ⟨hn, rfl⟩
    rotate_left
    · rw [show (!decide (V.non = V.non)) = false by simp]
      exact iteF ⟨⟨_, _, _, _, rfl⟩, s3, (fun c d k => by have := (no (x := EV) (by decide) k).1; rw [hn] at this; cases this), (fun c d k => by have := (no (x := NO) (by decide) k).1; rw [hn] at this; cases this)⟩
    rw [k_some ic]
    refine iteT ⟨_, rfl, rfl, _, rfl, ?_⟩
    rcases k2 with ⟨d, hd2, id2⟩ | ⟨hn, rfl⟩
    rotate_left
    · rw [show (!decide (V.non = V.non)) = false by simp]
      exact iteF ⟨⟨_, _, _, _, rfl⟩, s3, (fun c d k => by have := (no (x := EV) (by decide) k).2; rw [hn] at this; cases this), (fun c d k => by have := (no (x := NO) (by decide) k).2; rw [hn] at this; cases this)⟩
    rw [k_some id2]
    refine iteT ⟨_, rfl, R, _, _, _, rfl, rfl, SqL.of eR3, at_ (j := 0) (by rw [eps]; rfl), _, rfl, _, rfl, small5 (by show 3 ≤ 5000; decide), fun t ht => ?_⟩
    have st := same_new ht (.tup [.str (mkS p0), v1, v2])
    have kkp : KK z.cps.toList p0 c d := KK.of eab hc hd2
    rcases cE with cE | cE
    · have e0 : p0 = EV := mk_inj (cE.trans mk_EV.symm)
      exact q1 (.every c d) (show KK z.cps.toList EV c d by rw [← e0]; exact kkp) _ _ ((s0.trans s3).trans st) ⟨t, _, rfl, upd_same, .cons (by rw [cE]; rfl) (.cons (ic.mono st.tups) (.cons (id2.mono st.tups) .nil))⟩
    · have e0 : p0 = NO := mk_inj (cE.trans mk_NO.symm)
      exact q1 (.no c d) (show KK z.cps.toList NO c d by rw [← e0]; exact kkp) _ _ ((s0.trans s3).trans st) ⟨t, _, rfl, upd_same, .cons (by rw [cE]; rfl) (.cons (ic.mono st.tups) (.cons (id2.mono st.tups) .nil))⟩
  rintro σ H1 ⟨⟨o3, o4, o5, o6, rfl⟩, s1, nEv, nNo⟩
  have lxs : ((ps.map mkS).map V.str).length = ps.length := by rw [List.length_map, List.length_map]
  have p0e : ps[0]? = some p0 := by rw [eps]; rfl
  have tl : ∀ {j : Nat} {p : List Nat}, ps[j]? = some p → (mkS p).length ≤ 5000 := fun {j p} h => (tps p (List.mem_of_getElem? h)).1
  have eqs : ∀ (p x : List Nat) (y : Str), mkS x = y → decide (V.str (mkS p) = V.str y) = decide (p = x) := fun p x y h => by
    rw [decide_eq_decide]
    exact ⟨fun e => mk_inj (by rw [h]; injection e), fun e => by rw [e, h]⟩
  have mk_WI : mkS WI = "within" := strX (by rw [mkS_l]; decide +kernel)
  have mk_TH : mkS TH = "then" := strX (by rw [mkS_l]; decide +kernel)
  have mk_MA : mkS MA = "makes" := strX (by rw [mkS_l]; decide +kernel)
  have nw : ∀ r s, SayL z.cps.toList (.within r s) → ps = [TI, r.cps.toList, WI, s.cps.toList] := fun r s k => by
    rw [← hps, k.2.2, splitB_app, splitB_app, splitB_app, splitB_one (by decide), splitB_one (name_no32 k.1), splitB_one (show 32 ∉ WI by decide), splitB_one (name_no32 k.2.1)]; rfl
  have nm : ∀ r s t, SayL z.cps.toList (.makes r s t) → ps = [TI, r.cps.toList, TH, s.cps.toList, MA, t.cps.toList] := fun r s t k => by
    rw [← hps, k.2.2.2, splitB_app, splitB_app, splitB_app, splitB_app, splitB_app, splitB_one (by decide), splitB_one (name_no32 k.1), splitB_one (show 32 ∉ TH by decide), splitB_one (name_no32 k.2.1), splitB_one (show 32 ∉ MA by decide), splitB_one (name_no32 k.2.2.1)]; rfl
  refine ⟨fun σ H' => (∃ o3 o4 o5 o6 : Option V, σ = [some (.str z), some (.ref R), some (.int (((ps.map mkS).map V.str).length : Int)), o3, o4, o5, o6]) ∧ Same HP H' ∧ ∀ r s, ¬ SayL z.cps.toList (.within r s), ?_, ?_⟩
  · refine ⟨_, rfl, R, _, _, _, rfl, rfl, SqL.of (s1 _ _ eR), at_ p0e, rfl, _, rfl, ?_⟩
    rw [eqs p0 TI _ mk_TI]
    by_cases cT : p0 = TI
    rotate_left
    · rw [decide_eq_false cT]
      exact iteF ⟨⟨_, _, _, _, rfl⟩, s1, fun r s k => cT (by have := nw r s k; rw [eps] at this; exact (List.cons.inj this).1)⟩
    rw [decide_eq_true cT]
    refine iteT ⟨_, rfl, rfl, _, rfl, ?_⟩
    by_cases c4 : ∃ a b c d, ps = [a, b, c, d]
    rotate_left
    · rw [decide_eq_false (fun e : V.int (((ps.map mkS).map V.str).length : Int) = V.int 4 => c4 (by
        rw [lxs] at e
        injection e with e
        have l4 : ps.length = 4 := by omega
        match ps, l4 with
        | [a, b, c, d], _ => exact ⟨a, b, c, d, rfl⟩))]
      exact iteF ⟨⟨_, _, _, _, rfl⟩, s1, fun r s k => c4 ⟨_, _, _, _, nw r s k⟩⟩
    obtain ⟨x0, x1, x2, x3, e4⟩ := c4
    rw [decide_eq_true (show V.int (((ps.map mkS).map V.str).length : Int) = V.int 4 by rw [lxs, e4]; rfl)]
    refine iteT ⟨_, rfl, R, _, _, _, rfl, rfl, SqL.of (s1 _ _ eR), at_ (j := 2) (p := x2) (by rw [e4]; rfl), rfl, _, rfl, ?_⟩
    rw [eqs x2 WI _ mk_WI]
    by_cases cW : x2 = WI
    rotate_left
    · rw [decide_eq_false cW]
      exact iteF ⟨⟨_, _, _, _, rfl⟩, s1, fun r s k => cW (by have := nw r s k; rw [e4] at this; cases this; rfl)⟩
    rw [decide_eq_true cW]
    have g1 : ps[1]? = some x1 := by rw [e4]; rfl
    have g3 : ps[3]? = some x3 := by rw [e4]; rfl
    refine iteT ⟨_, rfl, R, _, _, _, rfl, rfl, SqL.of (s1 _ _ eR), at_ g1, mkS x1, rfl, tl g1, fun H2 s2 => ⟨_, rfl, ?_⟩⟩
    have s12 := s1.trans s2
    cases n1 : nameB (mkS x1) with
    | false => exact iteF ⟨⟨_, _, _, _, rfl⟩, s12, fun r s k => by have := nw r s k; rw [e4] at this; cases this; rw [mkS_of, k.1] at n1; cases n1⟩
    | true =>
      refine iteT ⟨_, rfl, R, _, _, _, rfl, rfl, SqL.of (s12 _ _ eR), at_ g3, mkS x3, rfl, tl g3, fun H3 s3 => ⟨_, rfl, ?_⟩⟩
      have s13 := s12.trans s3
      cases n3 : nameB (mkS x3) with
      | false => exact iteF ⟨⟨_, _, _, _, rfl⟩, s13, fun r s k => by have := nw r s k; rw [e4] at this; cases this; rw [mkS_of, k.2.1] at n3; cases n3⟩
      | true =>
        refine iteT ⟨_, rfl, R, _, _, _, rfl, rfl, SqL.of (s13 _ _ eR), at_ g1, _, rfl, R, _, _, _, rfl, rfl, SqL.of (s13 _ _ eR), at_ g3, small5 (by show 3 ≤ 5000; decide), fun t ht => ?_⟩
        refine q1 (.within (mkS x1) (mkS x3)) ⟨n1, n3, ?_⟩ _ _ ((s0.trans s13).trans (same_new ht _)) ⟨t, _, rfl, upd_same, .cons rfl (.cons rfl (.cons rfl .nil))⟩
        rw [mkS_l, mkS_l, ← jn_splitB z.cps.toList, hps, e4, ← cT, ← cW]
        have : x0 = p0 := by rw [eps] at e4; exact ((List.cons.inj e4).1).symm
        rw [this]; rfl
  rintro σ H2 ⟨⟨o3, o4, o5, o6, rfl⟩, s2, nWi⟩
  refine ⟨fun σ H' => (∃ o3 o4 o5 o6 : Option V, σ = [some (.str z), some (.ref R), some (.int (((ps.map mkS).map V.str).length : Int)), o3, o4, o5, o6]) ∧ Same HP H' ∧ ∀ r s t, ¬ SayL z.cps.toList (.makes r s t), ?_, ?_⟩
  · refine ⟨_, rfl, R, _, _, _, rfl, rfl, SqL.of (s2 _ _ eR), at_ p0e, rfl, _, rfl, ?_⟩
    rw [eqs p0 TI _ mk_TI]
    by_cases cT : p0 = TI
    rotate_left
    · rw [decide_eq_false cT]
      exact iteF ⟨⟨_, _, _, _, rfl⟩, s2, fun r s t k => cT (by have := nm r s t k; rw [eps] at this; exact (List.cons.inj this).1)⟩
    rw [decide_eq_true cT]
    refine iteT ⟨_, rfl, rfl, _, rfl, ?_⟩
    by_cases c6 : ∃ a b c d e f, ps = [a, b, c, d, e, f]
    rotate_left
    · rw [decide_eq_false (fun e : V.int (((ps.map mkS).map V.str).length : Int) = V.int 6 => c6 (by
        rw [lxs] at e
        injection e with e
        have l6 : ps.length = 6 := by omega
        match ps, l6 with
        | [a, b, c, d, e, f], _ => exact ⟨a, b, c, d, e, f, rfl⟩))]
      exact iteF ⟨⟨_, _, _, _, rfl⟩, s2, fun r s t k => c6 ⟨_, _, _, _, _, _, nm r s t k⟩⟩
    obtain ⟨x0, x1, x2, x3, x4, x5, e6⟩ := c6
    rw [decide_eq_true (show V.int (((ps.map mkS).map V.str).length : Int) = V.int 6 by rw [lxs, e6]; rfl)]
    refine iteT ⟨_, rfl, R, _, _, _, rfl, rfl, SqL.of (s2 _ _ eR), at_ (j := 2) (p := x2) (by rw [e6]; rfl), rfl, _, rfl, ?_⟩
    rw [eqs x2 TH _ mk_TH]
    by_cases cW : x2 = TH
    rotate_left
    · rw [decide_eq_false cW]
      exact iteF ⟨⟨_, _, _, _, rfl⟩, s2, fun r s t k => cW (by have := nm r s t k; rw [e6] at this; cases this; rfl)⟩
    rw [decide_eq_true cW]
    refine iteT ⟨_, rfl, R, _, _, _, rfl, rfl, SqL.of (s2 _ _ eR), at_ (j := 4) (p := x4) (by rw [e6]; rfl), rfl, _, rfl, ?_⟩
    rw [eqs x4 MA _ mk_MA]
    by_cases cM : x4 = MA
    rotate_left
    · rw [decide_eq_false cM]
      exact iteF ⟨⟨_, _, _, _, rfl⟩, s2, fun r s t k => cM (by have := nm r s t k; rw [e6] at this; cases this; rfl)⟩
    rw [decide_eq_true cM]
    have g1 : ps[1]? = some x1 := by rw [e6]; rfl
    have g3 : ps[3]? = some x3 := by rw [e6]; rfl
    have g5 : ps[5]? = some x5 := by rw [e6]; rfl
    refine iteT ⟨_, rfl, R, _, _, _, rfl, rfl, SqL.of (s2 _ _ eR), at_ g1, mkS x1, rfl, tl g1, fun H3 s3 => ⟨_, rfl, ?_⟩⟩
    have s23 := s2.trans s3
    cases n1 : nameB (mkS x1) with
    | false => exact iteF ⟨⟨_, _, _, _, rfl⟩, s23, fun r s t k => by have := nm r s t k; rw [e6] at this; cases this; rw [mkS_of, k.1] at n1; cases n1⟩
    | true =>
      refine iteT ⟨_, rfl, R, _, _, _, rfl, rfl, SqL.of (s23 _ _ eR), at_ g3, mkS x3, rfl, tl g3, fun H4 s4 => ⟨_, rfl, ?_⟩⟩
      have s24 := s23.trans s4
      cases n3 : nameB (mkS x3) with
      | false => exact iteF ⟨⟨_, _, _, _, rfl⟩, s24, fun r s t k => by have := nm r s t k; rw [e6] at this; cases this; rw [mkS_of, k.2.1] at n3; cases n3⟩
      | true =>
        refine iteT ⟨_, rfl, R, _, _, _, rfl, rfl, SqL.of (s24 _ _ eR), at_ g5, mkS x5, rfl, tl g5, fun H5 s5 => ⟨_, rfl, ?_⟩⟩
        have s25 := s24.trans s5
        cases n5 : nameB (mkS x5) with
        | false => exact iteF ⟨⟨_, _, _, _, rfl⟩, s25, fun r s t k => by have := nm r s t k; rw [e6] at this; cases this; rw [mkS_of, k.2.2.1] at n5; cases n5⟩
        | true =>
          refine iteT ⟨_, rfl, R, _, _, _, rfl, rfl, SqL.of (s25 _ _ eR), at_ g1, _, rfl, R, _, _, _, rfl, rfl, SqL.of (s25 _ _ eR), at_ g3, _, rfl, R, _, _, _, rfl, rfl, SqL.of (s25 _ _ eR), at_ g5, small5 (by show 4 ≤ 5000; decide), fun t ht => ?_⟩
          refine q1 (.makes (mkS x1) (mkS x3) (mkS x5)) ⟨n1, n3, n5, ?_⟩ _ _ ((s0.trans s25).trans (same_new ht _)) ⟨t, _, rfl, upd_same, .cons rfl (.cons rfl (.cons rfl (.cons rfl .nil)))⟩
          have hx0 : x0 = p0 := by rw [eps] at e6; exact ((List.cons.inj e6).1).symm
          rw [mkS_l, mkS_l, mkS_l, ← jn_splitB z.cps.toList, hps, e6, ← cT, ← cW, ← cM, hx0]; rfl
  rintro σ H3 ⟨⟨o3, o4, o5, o6, rfl⟩, s3, nMa⟩
  have nt : ∀ a c, SayL z.cps.toList (.thing a c) → ps = a.cps.toList :: IS :: splitB (wrL c) := fun a c k => by
    rw [← hps, k.2.2.2, splitB_app, splitB_app, splitB_one (thing_no32 k.1), splitB_one (show 32 ∉ IS by decide)]; rfl
  have nd : ∀ a r b, SayL z.cps.toList (.tied a r b) → ps = [a.cps.toList, r.cps.toList, b.cps.toList] := fun a r b k => by
    rw [← hps, k.2.2.2, splitB_app, splitB_app, splitB_one (thing_no32 k.1), splitB_one (name_no32 k.2.1), splitB_one (thing_no32 k.2.2.1)]; rfl
  refine ⟨fun σ H' => (∃ o3 o4 o5 o6 : Option V, σ = [some (.str z), some (.ref R), some (.int (((ps.map mkS).map V.str).length : Int)), o3, o4, o5, o6]) ∧ Same HP H' ∧ ∀ a c, ¬ SayL z.cps.toList (.thing a c), ?_, ?_⟩
  · refine ⟨_, rfl, R, _, _, _, rfl, rfl, SqL.of (s3 _ _ eR), at_ p0e, mkS p0, rfl, tl p0e, _, rfl, ?_⟩
    cases t0 : thingB (mkS p0) with
    | false => exact iteF ⟨⟨_, _, _, _, rfl⟩, s3, fun a c k => by have := nt a c k; rw [eps] at this; rw [(List.cons.inj this).1, mkS_of, k.1] at t0; cases t0⟩
    | true =>
      refine iteT ⟨_, rfl, _, _, rfl, rfl, _, rfl, ?_⟩
      by_cases c3 : ∃ x1 x2 r, ps = p0 :: x1 :: x2 :: r
      rotate_left
      · rw [decide_eq_false (fun h : (2 : Int) < (((ps.map mkS).map V.str).length : Int) => c3 (by
          rw [lxs] at h
          rw [eps] at h ⊢
          match pr, h with
          | x1 :: x2 :: r, _ => exact ⟨x1, x2, r, rfl⟩
          | [], h => exact absurd h (by show ¬ (2 : Int) < 1; decide)
          | [_], h => exact absurd h (by show ¬ (2 : Int) < 2; decide)))]
        refine iteF ⟨⟨_, _, _, _, rfl⟩, s3, fun a c k => c3 ?_⟩
        have e1 := nt a c k
        cases e2 : splitB (wrL c) with
        | nil => exact absurd e2 (splitB_ne _)
        | cons x2 r =>
          rw [e2] at e1
          have : p0 = a.cps.toList := by rw [eps] at e1; exact (List.cons.inj e1).1
          exact ⟨IS, x2, r, by rw [this]; exact e1⟩
      obtain ⟨x1, x2, r, e3⟩ := c3
      rw [decide_eq_true (show (2 : Int) < (((ps.map mkS).map V.str).length : Int) by rw [lxs, e3]; simp only [List.length_cons]; omega)]
      refine iteT ⟨_, rfl, R, _, _, _, rfl, rfl, SqL.of (s3 _ _ eR), at_ (j := 1) (p := x1) (by rw [e3]; rfl), rfl, _, rfl, ?_⟩
      rw [eqs x1 IS _ mk_IS]
      by_cases cI : x1 = IS
      rotate_left
      · rw [decide_eq_false cI]
        exact iteF ⟨⟨_, _, _, _, rfl⟩, s3, fun a c k => cI (by have := nt a c k; rw [e3] at this; exact (List.cons.inj (List.cons.inj this).2).1)⟩
      rw [decide_eq_true cI]
      have c2 : cutV ((ps.map mkS).map V.str) (some 2) none = ((x2 :: r).map mkS).map V.str := by
        rw [show (some (2 : Int)) = some ((2 : Nat) : Int) from rfl, cut_n, e3]; rfl
      have w2 : wl 4601 ((x2 :: r).map mkS) := by
        have e1 : (x2 :: r).map mkS = (ps.map mkS).drop 2 := by rw [e3]; rfl
        rw [e1]
        exact ⟨Nat.le_trans (wsum_drop _ _) wps.1, fun x hx => wps.2 x (List.mem_of_mem_drop hx)⟩
      refine iteT ⟨fun σ H' => ∃ v1, σ = [some (.str z), some (.ref R), some (.int (((ps.map mkS).map V.str).length : Int)), o3, o4, o5, some v1] ∧ Same HP H' ∧ KoV (jn (x2 :: r)) H' v1, ?_, ?_⟩
      · refine ⟨rfl, _, rfl, 2, rfl, R, _, rfl, SqL.of (s3 _ _ eR), fun p1 hp1 => ?_⟩
        rw [c2]
        have sp1 := s3.trans (same_new hp1 (.lst (((x2 :: r).map mkS).map V.str)))
        exact ⟨_, p1, (x2 :: r).map mkS, rfl, rfl, SqL.of upd_same, w2.fits (by decide), _, rfl, txt_jn w2 (by decide), fun k hk H' v s' ik => ⟨v, rfl, sp1.trans s', .inl ⟨k, by rw [← jn_l]; exact hk, ik⟩⟩, fun hn H' s' => ⟨.non, rfl, sp1.trans s', .inr ⟨by rw [← jn_l]; exact hn, rfl⟩⟩⟩
      rintro σ H4 ⟨v1, rfl, s4, k1⟩
      refine ⟨_, rfl, rfl, _, rfl, ?_⟩
      rcases k1 with ⟨c, hc, ic⟩ | ⟨hn, rfl⟩
      rotate_left
      · rw [show (!decide (V.non = V.non)) = false by simp]
        refine iteF ⟨⟨_, _, _, _, rfl⟩, s4, fun a c k => ?_⟩
        have := nt a c k
        rw [e3] at this
        rw [(List.cons.inj (List.cons.inj this).2).2, jn_splitB, kindL_iff.mpr ⟨k.2.1, k.2.2.1, rfl⟩] at hn
        cases hn
      rw [k_some ic]
      refine iteT ⟨_, rfl, R, _, _, _, rfl, rfl, SqL.of (s4 _ _ eR), at_ p0e, _, rfl, small5 (by show 3 ≤ 5000; decide), fun t ht => ?_⟩
      have st := same_new ht (.tup [.str "thing", .str (mkS p0), v1])
      obtain ⟨oc, nc, ec⟩ := kindL_iff.mp hc
      refine q1 (.thing (mkS p0) c) ⟨t0, oc, nc, ?_⟩ _ _ ((s0.trans s4).trans st) ⟨t, _, rfl, upd_same, .cons rfl (.cons rfl (.cons (ic.mono st.tups) .nil))⟩
      rw [mkS_l, ← ec, ← cI, ← jn_splitB z.cps.toList, hps, e3]; rfl
  rintro σ H4 ⟨⟨o3, o4, o5, o6, rfl⟩, s4, nTh⟩
  refine ⟨fun σ H' => (∃ o3 o4 o5 o6 : Option V, σ = [some (.str z), some (.ref R), some (.int (((ps.map mkS).map V.str).length : Int)), o3, o4, o5, o6]) ∧ Same HP H' ∧ ∀ a r b, ¬ SayL z.cps.toList (.tied a r b), ?_, ?_⟩
  · refine ⟨_, rfl, R, _, _, _, rfl, rfl, SqL.of (s4 _ _ eR), at_ p0e, mkS p0, rfl, tl p0e, _, rfl, ?_⟩
    cases t0 : thingB (mkS p0) with
    | false => exact iteF ⟨⟨_, _, _, _, rfl⟩, s4, fun a r b k => by have := nd a r b k; rw [eps] at this; rw [(List.cons.inj this).1, mkS_of, k.1] at t0; cases t0⟩
    | true =>
      refine iteT ⟨_, rfl, rfl, _, rfl, ?_⟩
      by_cases c3 : ∃ x1 x2, ps = [p0, x1, x2]
      rotate_left
      · rw [decide_eq_false (fun e : V.int (((ps.map mkS).map V.str).length : Int) = V.int 3 => c3 (by
          rw [lxs] at e
          injection e with e
          have l3 : ps.length = 3 := by omega
          rw [eps] at l3 ⊢
          match pr, l3 with
          | [x1, x2], _ => exact ⟨x1, x2, rfl⟩))]
        exact iteF ⟨⟨_, _, _, _, rfl⟩, s4, fun a r b k => c3 ⟨_, _, by have := nd a r b k; have h0 := this; rw [eps] at h0; rw [(List.cons.inj h0).1]; exact this⟩⟩
      obtain ⟨x1, x2, e3⟩ := c3
      have g1 : ps[1]? = some x1 := by rw [e3]; rfl
      have g2 : ps[2]? = some x2 := by rw [e3]; rfl
      rw [decide_eq_true (show V.int (((ps.map mkS).map V.str).length : Int) = V.int 3 by rw [lxs, e3]; rfl)]
      refine iteT ⟨_, rfl, R, _, _, _, rfl, rfl, SqL.of (s4 _ _ eR), at_ g1, mkS x1, rfl, tl g1, fun H5 s5 => ⟨_, rfl, ?_⟩⟩
      have s45 := s4.trans s5
      cases n1 : nameB (mkS x1) with
      | false => exact iteF ⟨⟨_, _, _, _, rfl⟩, s45, fun a r b k => by have := nd a r b k; rw [e3] at this; rw [(List.cons.inj (List.cons.inj this).2).1, mkS_of, k.2.1] at n1; cases n1⟩
      | true =>
        refine iteT ⟨_, rfl, R, _, _, _, rfl, rfl, SqL.of (s45 _ _ eR), at_ g2, mkS x2, rfl, tl g2, _, rfl, ?_⟩
        cases t2 : thingB (mkS x2) with
        | false => exact iteF ⟨⟨_, _, _, _, rfl⟩, s45, fun a r b k => by have := nd a r b k; rw [e3] at this; rw [(List.cons.inj (List.cons.inj (List.cons.inj this).2).2).1, mkS_of, k.2.2.1] at t2; cases t2⟩
        | true =>
          refine iteT ⟨_, rfl, R, _, _, _, rfl, rfl, SqL.of (s45 _ _ eR), at_ p0e, _, rfl, R, _, _, _, rfl, rfl, SqL.of (s45 _ _ eR), at_ g1, _, rfl, R, _, _, _, rfl, rfl, SqL.of (s45 _ _ eR), at_ g2, small5 (by show 4 ≤ 5000; decide), fun t ht => ?_⟩
          refine q1 (.tied (mkS p0) (mkS x1) (mkS x2)) ⟨t0, n1, t2, ?_⟩ _ _ ((s0.trans s45).trans (same_new ht _)) ⟨t, _, rfl, upd_same, .cons rfl (.cons rfl (.cons rfl (.cons rfl .nil)))⟩
          rw [mkS_l, mkS_l, mkS_l, ← jn_splitB z.cps.toList, hps, e3]; rfl
  rintro σ H5 ⟨⟨o3, o4, o5, o6, rfl⟩, s5, nTd⟩
  refine q2 (fun S hS => ?_) _ (s0.trans s5)
  cases S with
  | every c d => exact nEv c d hS
  | no c d => exact nNo c d hS
  | thing a c => exact nTh a c hS
  | tied a r b => exact nTd a r b hS
  | within r s => exact nWi r s hS
  | makes r s t => exact nMa r s t hS
end
end K12
namespace K12
open PySem L2
def spLaw (K : PySem.W.Frag) : Sp := fun vs H Q _ => ∃ (a : Addr) (ns : List Int), vs = [.ref a] ∧ SqL K H a (ns.map V.int) ∧ ns.length ≤ 63 ∧ ∀ H', Q (.bl true) H'
theorem KL.xas {H : Hp} : ∀ {xs : List V} {ks : List Kd}, KL H xs ks → Xas H (ks.map Kd.tx) xs
  | _, _, .nil => rfl
  | _, _, .cons r t => ⟨_, _, rfl, r.xa, KL.xas t⟩
theorem IsS.xa {H : Hp} {ks : List Kd} {v : V} (h : IsS H ks v) : Xa H (.tup (ks.map Kd.tx)) v := by
  obtain ⟨p, xs, e, h1, h2⟩ := h
  exact ⟨p, _, e, h1, KL.xas h2⟩
theorem ks_dp : ∀ {ks : List Kd} {n : Nat}, (∀ k ∈ ks, k.dep ≤ n) → xdps (ks.map Kd.tx) ≤ n
  | [], _, _ => Nat.zero_le _
  | k :: ks, n, h => by
    show max k.tx.dp (xdps (ks.map Kd.tx)) ≤ n
    rw [Kd.tx_dp]
    exact Nat.max_le.mpr ⟨h k List.mem_cons_self, ks_dp fun k' hk => h k' (List.mem_cons_of_mem _ hk)⟩
theorem say_dep {l : List Nat} {S : Say} (h : SayL l S) : ∀ k ∈ S.ks, k.dep ≤ 24 := by
  have nm : ∀ x : Str, (Kd.nm x).dep ≤ 24 := fun x => by simp [Kd.dep]
  have le : ∀ {c : Kd}, c.nt ≤ 24 → c.dep ≤ 24 := fun {c} h => Nat.le_trans c.dep_le_nt h
  intro k hk
  cases S with
  | every c d =>
    simp only [Say.ks, List.mem_cons, List.not_mem_nil, or_false] at hk
    rcases hk with rfl | rfl | rfl
    · exact nm _
    · exact le h.2.1
    · exact le h.2.2.2.1
  | no c d =>
    simp only [Say.ks, List.mem_cons, List.not_mem_nil, or_false] at hk
    rcases hk with rfl | rfl | rfl
    · exact nm _
    · exact le h.2.1
    · exact le h.2.2.2.1
  | thing a c =>
    simp only [Say.ks, List.mem_cons, List.not_mem_nil, or_false] at hk
    rcases hk with rfl | rfl | rfl
    · exact nm _
    · exact nm _
    · exact le h.2.2.1
  | tied a r b =>
    simp only [Say.ks, List.mem_cons, List.not_mem_nil, or_false] at hk
    rcases hk with rfl | rfl | rfl | rfl <;> exact nm _
  | within r s =>
    simp only [Say.ks, List.mem_cons, List.not_mem_nil, or_false] at hk
    rcases hk with rfl | rfl | rfl <;> exact nm _
  | makes r s t =>
    simp only [Say.ks, List.mem_cons, List.not_mem_nil, or_false] at hk
    rcases hk with rfl | rfl | rfl | rfl <;> exact nm _
theorem DueV.same {b : Bool} {l : List Nat} {H H' : Hp} {v v' : V} (h : DueV b l H v) (h' : DueV b l H' v') : ∃ k : Tx, Xa H k v ∧ Xa H' k v' ∧ k.dp ≤ 60 := by
  rcases h with ⟨rfl, k, hk, ik⟩ | ⟨rfl, S, hS, iS⟩
  · rcases h' with ⟨_, k', hk', ik'⟩ | ⟨z, _⟩
    · rw [hk] at hk'
      cases hk'
      refine ⟨k.tx, ik.xa, ik'.xa, ?_⟩
      rw [Kd.tx_dp]
      exact Nat.le_trans k.dep_le_nt (Nat.le_trans (kindL_iff.mp hk).2.1 (by decide))
    · cases z
  · rcases h' with ⟨z, _⟩ | ⟨_, S', hS', iS'⟩
    · cases z
    · cases sayL_uniq hS hS'
      refine ⟨_, iS.xa, iS'.xa, ?_⟩
      show 1 + xdps _ ≤ 60
      have := ks_dp (say_dep hS)
      omega
theorem DueV.mono {b : Bool} {l : List Nat} {H H' : Hp} {v : V} (t : Tups H H') (h : DueV b l H v) : DueV b l H' v := by
  rcases h with ⟨hb, k, hk, ik⟩ | ⟨hb, S, hS, iS⟩
  · exact .inl ⟨hb, k, hk, IsK.mono t ik⟩
  · exact .inr ⟨hb, S, hS, iS.mono t⟩
theorem isK_ne {H : Hp} {k : Kd} {v : V} (h : IsK H k v) : v ≠ .non := by
  cases k with
  | nm x => intro z; rw [z] at h; cases h
  | two a b => obtain ⟨p, x, y, rfl, _⟩ := h; intro z; cases z
  | som r c => obtain ⟨p, y, rfl, _⟩ := h; intro z; cases z
theorem DueV.ne {b : Bool} {l : List Nat} {H : Hp} {v : V} (h : DueV b l H v) : v ≠ .non := by
  rcases h with ⟨_, k, _, ik⟩ | ⟨_, S, _, iS⟩
  · exact isK_ne ik
  · obtain ⟨p, xs, rfl, _⟩ := iS; intro z; cases z
theorem cut_group {ns : List Int} {st m : Nat} (h : st < ns.length) (hm : 0 < m) : ∃ ns' : List Int, cutV (ns.map V.int) (some (st : Int)) (some ((st + m : Nat) : Int)) = ns'.map V.int ∧ 0 < ns'.length ∧ ns'.length ≤ m := by
  refine ⟨(ns.drop (HT.sIx (ns.map V.int).length 0 (some (st : Int)))).take (HT.sIx (ns.map V.int).length (ns.map V.int).length (some ((st + m : Nat) : Int)) - HT.sIx (ns.map V.int).length 0 (some (st : Int))), ?_, ?_, ?_⟩
  · unfold cutV
    rw [List.map_take, List.map_drop]
  · rw [HT.sIx_nat, HT.sIx_nat, List.length_map, List.length_take, List.length_drop]; omega
  · rw [HT.sIx_nat, HT.sIx_nat, List.length_map, List.length_take, List.length_drop]; omega
theorem at_end {ns : List Int} (h : 0 < ns.length) : ∃ n : Int, atI (ns.map V.int) (-1) = some (.int n) := by
  have hne : ns ≠ [] := by intro z; rw [z] at h; simp at h
  refine ⟨ns.getLast hne, ?_⟩
  have e : ns.map V.int = (ns.dropLast).map V.int ++ [V.int (ns.getLast hne)] := by
    rw [← List.map_singleton, ← List.map_append, List.dropLast_concat_getLast]
  rw [e]
  exact atI_last _ _
section
variable {P : Program} {w : World} {K : PySem.W.Frag} {mg : Str → Option Value} {base : Heap} {f g e a1 a2 a3 a4 a5 a6 C Ck c1 c2 c3 c4 c5 : Addr} {fd gd ed d1 d2 d3 d4 d5 d6 : FuncData}
theorem scLaw : FnScope ["_law_script", "_law_cells", "_law_size", "_law_start", "_law_group", "_law_bare", "_law_text", "_law_due", "_law_found", "_law_missed"] ["_law_script"] (defScope sLaw) := ⟨rfl, rfl, rfl, by decide +kernel, rfl, by decide +kernel, by decide +kernel⟩
theorem ok_law (F : Fun K "law" "law" sLaw f fd) (ml : mg "len" = none) (mr : mg "range" = none) (mNT : mg "NoText" = some (.ref C)) (xm : PySem.W.exmOne K (.ref C) (.ref C) = some true)
    (Gli : FnOk P w K mg base CX0 4 a1 d1 ["_law_group"] (spLine K)) (bGli : Binds K d1 ["_law_group"] []) (kGli : PySem.W.keepIn K (.ref a1) = true) (mGli : mg "_law_line" = some (.ref a1))
    (Gsp : FnOk P w K mg base CX0 2 a2 d2 ["_law_text", "_law_cell"] spSpoiled) (bGsp : Binds K d2 ["_law_text", "_law_cell"] []) (kGsp : PySem.W.keepIn K (.ref a2) = true) (mGsp : mg "_law_spoiled" = some (.ref a2))
    (Gso : FnOk P w K mg base CX0 5 a3 d3 ["_law_text"] spSayingOf) (bGso : Binds K d3 ["_law_text"] []) (kGso : PySem.W.keepIn K (.ref a3) = true) (mGso : mg "_law_saying_of" = some (.ref a3))
    (Glk : FnOk P w K mg base CX0 4 a4 d4 ["_law_text"] spKindOf) (bGlk : Binds K d4 ["_law_text"] []) (kGlk : PySem.W.keepIn K (.ref a4) = true) (mGlk : mg "_law_kind_of" = some (.ref a4))
    (Glr : FnOk P w K mg base (CXK P w) 34 a5 d5 ["_law_text", "_law_bare"] (spLRead C)) (bGlr : Binds K d5 ["_law_text", "_law_bare"] []) (kGlr : PySem.W.keepIn K (.ref a5) = true) (mGlr : mg "_law_read" = some (.ref a5))
    (Grf : FnOk P w K mg base CX0 35 a6 d6 ["_law_text", "_law_bare"] spLRefused) (bGrf : Binds K d6 ["_law_text", "_law_bare"] []) (kGrf : PySem.W.keepIn K (.ref a6) = true) (mGrf : mg "_law_refused" = some (.ref a6)) :
    FnOk P w K mg base CX0 36 f fd ["_law_script"] (spLaw K) := by
  refine F.ok scLaw (fun vs H Q E h => ?_) (fun cdv A outer s H vs Q E hr h => ?_)
  · obtain ⟨a, ns, rfl, _⟩ := h; rfl
  obtain ⟨a, ns0, rfl, hS, h63, q⟩ := h
  have hrli := hr.mono (show 4 ≤ 35 by decide)
  have hrsp := hr.mono (show 2 ≤ 35 by decide)
  have hrso := hr.mono (show 5 ≤ 35 by decide)
  have hrlk := hr.mono (show 4 ≤ 35 by decide)
  have hrlr := hr.mono (show 34 ≤ 35 by decide)
  have hrrf := hr
  refine ⟨_, @pss_cons _ _ _ _ _ (by exact ps_set (i := 1) scLaw.nd rfl (Or.inl rfl) (pe_slice sl_list (pv 0) po_none (po_some pe_int)))
    (@pss_cons _ _ _ _ _ (by exact ps_set (i := 2) scLaw.nd rfl (Or.inl rfl) pe_int)
    (@pss_mid _ _ _ _ _ (by exact ps_if (pt_cmpR op_gt (pe_callB call_len_seq rfl ml PySem.boot_len (pa_cons (pv 1) pa_nil)) pe_int (nomark _)) (@pss_one _ _ _ (by exact ps_set (i := 2) scLaw.nd rfl (Or.inl rfl) (pe_op op_add pe_int (pe_op op_mod (pe_ix ix_list (pv 1) pe_int (fun _ _ => rfl)) pe_int)))) pss_nil)
    (@pss_cons _ _ _ _ _ (by exact ps_for PassesOwn.never rfl (pi_range3 rfl mr (pa_cons pe_int (pa_cons (pe_callB call_len_seq rfl ml PySem.boot_len (pa_cons (pv 1) pa_nil)) (pa_cons (pv 2) pa_nil)))) (pg_name (i := 3) scLaw.nd rfl (Or.inl rfl)) (@pss_cons _ _ _ _ _ (by exact ps_set (i := 4) scLaw.nd rfl (Or.inl rfl) (pe_slice sl_list (pv 1) (po_some (pv 3)) (po_some (pe_op op_add (pv 3) (pv 2))))) (@pss_cons _ _ _ _ _ (by exact ps_set (i := 5) scLaw.nd rfl (Or.inl rfl) (pe_cmpR op_eq (pe_op op_mod (pe_ix ix_list (pv 4) pe_int (fun _ _ => rfl)) pe_int) pe_int (nomark _))) (@pss_cons _ _ _ _ _ (by exact ps_set (i := 6) scLaw.nd rfl (Or.inl rfl) (pe_call Gsp hrsp rfl mGsp kGsp bGsp .nil pass0 (pa_cons (pe_call Gli hrli rfl mGli kGli bGli .nil pass0 (pa_cons (pv 4) pa_nil)) (pa_cons (pe_ix ix_list (pv 4) (pe_un un_neg pe_int) (fun _ _ => rfl)) pa_nil)))) (@pss_cons _ _ _ _ _ (by exact ps_set (i := 7) scLaw.nd rfl (Or.inl rfl) (pe_call Gso hrso rfl mGso kGso bGso .nil pass0 (pa_cons (pv 6) pa_nil))) (@pss_mid _ _ _ _ _ (by exact ps_if (pt_val (pv 5)) (@pss_one _ _ _ (by exact ps_set (i := 7) scLaw.nd rfl (Or.inl rfl) (pe_call Glk hrlk rfl mGlk kGlk bGlk .nil pass0 (pa_cons (pv 6) pa_nil)))) pss_nil) (@pss_one _ _ _ (by exact ps_if (pt_cmpR op_isN (pv 7) pe_non rfl) (@pss_one _ _ _ (by exact ps_if (pt_not (pt_val (pe_call Grf hrrf rfl mGrf kGrf bGrf .nil pass0 (pa_cons (pv 6) (pa_cons (pv 5) pa_nil))))) (@pss_one _ _ _ (by exact @ps_ret _ _ _ _ pe_bl)) pss_nil)) (@pss_cons _ _ _ _ _ (by exact ps_set (i := 8) scLaw.nd rfl (Or.inl rfl) pe_non) (@pss_cons _ _ _ _ _ (by exact ps_set (i := 9) scLaw.nd rfl (Or.inl rfl) pe_bl) (@pss_cons _ _ _ _ _ (by exact ps_tryS Glr hrlr rfl mGlr kGlr bGlr (pa_cons (pv 6) (pa_cons (pv 5) pa_nil)) rfl mNT scLaw.nd (i := 8) rfl rfl (fun _ => by exact (@pss_one _ _ _ (by exact ps_set (i := 9) scLaw.nd rfl (Or.inl rfl) pe_bl))) rfl rfl) (@pss_one _ _ _ (by exact ps_if (PW.pt (pw_or (pt_val (pv 9)) (pw_or1 (pt_cmpR (op_neX hr.units) (pv 8) (pv 7) (nomark _))))) (@pss_one _ _ _ (by exact @ps_ret _ _ _ _ pe_bl)) pss_nil)))))))))))))
    (@pss_one _ _ _ (by exact @ps_ret _ _ _ _ pe_bl))))), ?_⟩
  obtain ⟨ns, ec, lc⟩ := cut_ints ns0 none (some 300)
  refine ⟨_, rfl, 300, rfl, a, _, rfl, hS, fun pc hpc => ?_⟩
  rw [ec]
  have s0 := same_new hpc (.lst (ns.map V.int))
  have e0 : upd H pc (.lst (ns.map V.int)) pc = some (.lst (ns.map V.int)) := upd_same
  generalize upd H pc (.lst (ns.map V.int)) = H0 at s0 e0 ⊢
  refine ⟨fun σ H' => H' = H0 ∧ ∃ m : Nat, 0 < m ∧ m ≤ 32 ∧ σ = [some (.ref a), some (.ref pc), some (.int (m : Int)), none, none, none, none, none, none, none], ?_, ?_⟩
  · refine ⟨_, rfl, pc, _, rfl, .inl (SqL.of e0), _, _, rfl, rfl, _, rfl, ite2 (fun h => ?_) (fun h => ⟨rfl, 2, by decide, by decide, rfl⟩)⟩
    have hlen : 0 < ns.length := by
      have := of_decide_eq_true h
      rw [List.length_map] at this
      omega
    have g0 : atI (ns.map V.int) (0 : Int) = some (.int ns[0]) := atI_nat (j := 0) (by rw [List.getElem?_map, List.getElem?_eq_getElem hlen]; rfl)
    have m0 := Int.emod_nonneg ns[0] (show (30 : Int) ≠ 0 by decide)
    have m1 := Int.emod_lt_of_pos ns[0] (show (0 : Int) < 30 by decide)
    refine ⟨_, rfl, pc, _, 0, _, rfl, rfl, SqL.of e0, g0, _, _, rfl, rfl, (show (0 : Int) < 30 by decide), _, _, rfl, rfl, rfl, (2 + ns[0] % 30).toNat, by omega, by omega, ?_⟩
    rw [show (((2 + ns[0] % 30).toNat : Nat) : Int) = 2 + ns[0] % 30 by omega]
    rfl
  rintro σ H' ⟨rfl, m, hm0, hm25, rfl⟩
  refine ⟨_, rfl, pc, _, rfl, .inl (SqL.of e0), _, rfl, _, _, rfl, ⟨by omega, by omega, by omega, by rw [List.length_map]; omega⟩, ?_⟩
  rw [List.length_map]
  refine for_range3 (fun i σ H2 => ∃ o3 o4 o5 o6 o7 o8 o9 : Option V, σ = [some (.ref a), some (.ref pc), some (.int (m : Int)), o3, o4, o5, o6, o7, o8, o9] ∧ Same H' H2) ⟨none, none, none, none, none, none, none, rfl, Same.refl _⟩ ?_ ?_
  · rintro i σ H2 hi ⟨o3, o4, o5, o6, o7, o8, o9, rfl, sm⟩
    obtain ⟨b0, b1⟩ := steps3_lt (by omega) hi
    obtain ⟨st, hst⟩ : ∃ st : Nat, (st : Int) = (i : Int) * (m : Int) := ⟨((i : Int) * (m : Int)).toNat, by omega⟩
    obtain ⟨ns', ec', g1, g2⟩ := cut_group (ns := ns) (st := st) (m := m) (by omega) hm0
    obtain ⟨n0, g0⟩ : ∃ n : Int, atI (ns'.map V.int) ((0 : Nat) : Int) = some (.int n) := ⟨ns'[0], atI_nat (by rw [List.getElem?_map, List.getElem?_eq_getElem g1]; rfl)⟩
    obtain ⟨nl, gl⟩ := at_end g1
    refine ⟨_, rfl, _, rfl, st, by rw [show (0 : Int) + (i : Int) * (m : Int) = (st : Int) by omega], _, rfl, _, rfl, _, _, rfl, rfl, ((st + m : Nat) : Int), by rw [show (0 : Int) + (i : Int) * (m : Int) = (st : Int) by omega]; rfl, pc, _, rfl, SqL.of (sm _ _ e0), fun pg hpg => ?_⟩
    rw [ec']
    have s3 := same_new hpg (.lst (ns'.map V.int))
    have e3 : upd H2 pg (.lst (ns'.map V.int)) pg = some (.lst (ns'.map V.int)) := upd_same
    generalize upd H2 pg (.lst (ns'.map V.int)) = H3 at s3 e3 ⊢
    refine ⟨_, rfl, pg, _, 0, _, rfl, rfl, SqL.of e3, g0, _, _, rfl, rfl, (show (0 : Int) < 7 by decide), rfl, ?_⟩
    generalize decide (V.int (n0 % 7) = V.int 6) = b
    refine ⟨_, rfl, pg, ns', rfl, SqL.of e3, g1, by omega, fun H4 y s4 wy ly => ⟨_, rfl, _, rfl, pg, _, -1, _, rfl, rfl, SqL.of (s4 _ _ e3), gl, y, nl, rfl, wy, ly, fun H5 z s5 wz => ?_⟩⟩
    have tz : txt z := ⟨Nat.le_trans wz.1 (by decide), wz.2⟩
    have sDue : ∀ {R : V → Hp → Prop}, (∀ v H6, Same H5 H6 → (DueV false z.cps.toList H6 v ∨ (v = .non ∧ NoDue false z.cps.toList)) → R v H6) → spSayingOf [.str z] H5 R (fun _ _ _ => False) := fun {R} hR => ⟨z, rfl, wz, fun S hS H6 v s6 iS => hR v H6 s6 (.inl (.inr ⟨rfl, S, hS, iS⟩)), fun no H6 s6 => hR .non H6 s6 (.inr ⟨rfl, (fun h => by cases h), fun _ => no⟩)⟩
    have kDue : ∀ {R : V → Hp → Prop} {H0 : Hp}, (∀ v H6, Same H0 H6 → (DueV true z.cps.toList H6 v ∨ (v = .non ∧ NoDue true z.cps.toList)) → R v H6) → spKindOf [.str z] H0 R (fun _ _ _ => False) := fun {R H0} hR => ⟨z, rfl, tz, fun k hk H6 v s6 ik => hR v H6 s6 (.inl (.inl ⟨rfl, k, hk, ik⟩)), fun no H6 s6 => hR .non H6 s6 (.inr ⟨rfl, fun _ => no, (fun h => by cases h)⟩)⟩
    refine ⟨_, rfl, sDue fun v H6 s6 hv => ?_⟩
    have s16 := sm.trans (s3.trans (s4.trans (s5.trans s6)))
    refine ⟨fun σ H7 => ∃ v, Same H' H7 ∧ (DueV b z.cps.toList H7 v ∨ (v = .non ∧ NoDue b z.cps.toList)) ∧ σ = [some (.ref a), some (.ref pc), some (.int (m : Int)), some (.int (0 + (i : Int) * (m : Int))), some (.ref pg), some (.bl b), some (.str z), some v, o8, o9], ?_, ?_⟩
    · cases b with
      | true => exact ⟨_, rfl, _, rfl, iteT ⟨_, rfl, kDue fun v7 H7 s7 hv7 => ⟨v7, s16.trans s7, hv7, rfl⟩⟩⟩
      | false => exact ⟨_, rfl, _, rfl, iteF ⟨v, s16, hv, rfl⟩⟩
    rintro σ H7 ⟨v7, s7, hv7, rfl⟩
    refine ⟨_, rfl, rfl, _, rfl, ?_⟩
    rcases hv7 with dv | ⟨rfl, nd⟩
    · rw [decide_eq_false dv.ne]
      refine iteF ⟨_, rfl, _, rfl, z, b, rfl, tz, fun H8 v8 s8 d8 => ?_, fun nd => (nd.not dv).elim⟩
      obtain ⟨k, x1, x2, x3⟩ := d8.same (dv.mono s8.tups)
      refine ⟨_, rfl, _, rfl, iteF ⟨_, rfl, _, rfl, k, k, x1, x2, x3, _, rfl, ?_⟩⟩
      rw [decide_eq_true rfl]
      exact iteF ⟨_, _, _, _, _, _, _, rfl, s7.trans s8⟩
    · rw [decide_eq_true rfl]
      refine iteT ⟨_, rfl, _, rfl, z, b, rfl, tz, nd, fun H8 s8 => ⟨_, rfl, iteF ⟨_, _, _, _, _, _, _, rfl, s7.trans s8⟩⟩⟩
  · rintro σ H2 ⟨o3, o4, o5, o6, o7, o8, o9, rfl, sm⟩
    exact q _
end
end K12
namespace K12
open PySem L2
section
variable {K : PySem.W.Frag} {C c Ck N : Addr}
theorem nsok_of {oc : Value} {od : Option Addr} {es : Array DictEntry} {n : Nat} {sl : Array (Option Value)} (l : K.lookup N = some ⟨oc, od, .dict es n, sl⟩) (h : (es.toList.all fun e => match e.key with | .str _ _ => true | _ => false) = true) : PySem.W.nsOkIn K N = true := by
  unfold PySem.W.nsOkIn
  rw [l]
  exact (Array.all_toList ..).symm.trans h
theorem rf_of {nm q : Str} {bs : List Value} {hdct : Bool} {sn : List Str} {sub : List Value} {ab : Bool} {col : Option Bool} {dd : Option Addr} {kk0 kk1 kk2 kk3 kk5 : Option Value} (lC : K.lookup C = some (excClassObj nm q C N bs (.ref Ck :: veB) hdct sn sub ab col dd kk0 kk1 kk2 kk3 kk5 "ValueError.__new__")) : ∃ cd, PySem.W.clsIn K C = some cd ∧ ∀ self, refuseLoop self "__setattr__" cd.mro = pure () := by
  refine ⟨_, by unfold PySem.W.clsIn; rw [lC], fun self => ?_⟩
  show refuseLoop self "__setattr__" (.ref C :: .ref Ck :: veB) = pure ()
  rw [refuseLoop_ref, refuseLoop_ref]
  exact PySem.F.store_ValueError.passes self
theorem tail_one {ock : Value} {odk : Option Addr} {cdk : ClassData} {slk : Array (Option Value)} (lk : K.lookup Ck = some ⟨ock, odk, .cls cdk, slk⟩) (ok : PySem.W.nsOkIn K cdk.ns = true) (ik : PySem.W.nsIn K cdk.ns "__init__" = some none) : PySem.W.tailIn K veB (.ref Ck :: veB) = true := by
  unfold PySem.W.tailIn
  dsimp only
  rw [lk]
  dsimp only
  rw [ok, ik]
  rfl
theorem meta_ve : PySem.W.kitMeta "ValueError" = true := by decide +kernel
theorem kit_ty (s : PySem.W.subIn K (.ref C) (.type "ValueError") = some true) : PySem.W.kitOne K (.ref C) (.type "ValueError") = some true := by
  unfold PySem.W.kitOne
  rw [if_neg (by simp)]
  unfold PySem.W.kitCls
  dsimp only
  rw [meta_ve, s]
  rfl
theorem kit_self : PySem.W.kitOne K (.ref C) (.ref C) = some true := by
  unfold PySem.W.kitOne
  rw [if_pos (by simp)]
theorem kit_cl {b : Bool} (w : PySem.W.isClsIn K c = true) (t : PySem.W.typeIn K (.ref c) = some (.type "type")) (s : PySem.W.subIn K (.ref C) (.ref c) = some b) : PySem.W.kitCls K (.ref C) (.ref c) = some b := by
  unfold PySem.W.kitCls
  dsimp only
  rw [show (PySem.W.clsIn K c).isSome = true from w, t, s]
  rfl
theorem kit_no (w : PySem.W.isClsIn K c = true) (t : PySem.W.typeIn K (.ref c) = some (.type "type")) (s : PySem.W.subIn K (.ref C) (.ref c) = some false) (u : (Value.ref C == Value.ref c) = false) : PySem.W.kitOne K (.ref C) (.ref c) = some false := by
  unfold PySem.W.kitOne
  rw [u, kit_cl w t s]
  rfl
theorem kit_five {e1 e2 e3 e4 e5 : Addr}
(w1 : PySem.W.isClsIn K e1 = true) (t1 : PySem.W.typeIn K (.ref e1) = some (.type "type")) (s1 : PySem.W.subIn K (.ref C) (.ref e1) = some false) (u1 : (Value.ref C == Value.ref e1) = false) (w2 : PySem.W.isClsIn K e2 = true) (t2 : PySem.W.typeIn K (.ref e2) = some (.type "type")) (s2 : PySem.W.subIn K (.ref C) (.ref e2) = some false) (u2 : (Value.ref C == Value.ref e2) = false) (w3 : PySem.W.isClsIn K e3 = true) (t3 : PySem.W.typeIn K (.ref e3) = some (.type "type")) (s3 : PySem.W.subIn K (.ref C) (.ref e3) = some false) (u3 : (Value.ref C == Value.ref e3) = false) (w4 : PySem.W.isClsIn K e4 = true) (t4 : PySem.W.typeIn K (.ref e4) = some (.type "type")) (s4 : PySem.W.subIn K (.ref C) (.ref e4) = some false) (u4 : (Value.ref C == Value.ref e4) = false) (w5 : PySem.W.isClsIn K e5 = true) (t5 : PySem.W.typeIn K (.ref e5) = some (.type "type")) (s5 : PySem.W.subIn K (.ref C) (.ref e5) = some false) (u5 : (Value.ref C == Value.ref e5) = false) : PySem.W.kitAny K (.ref C) [.ref e1, .ref e2, .ref e3, .ref e4, .ref e5] = some false := by
  simp only [PySem.W.kitAny, kit_no w1 t1 s1 u1, kit_no w2 t2 s2 u2, kit_no w3 t3 s3 u3, kit_no w4 t4 s4 u4, kit_no w5 t5 s5 u5]
theorem exm_ref (w : PySem.W.isClsIn K Ck = true) (t : PySem.W.typeIn K (.ref Ck) = some (.type "type")) (s : PySem.W.subIn K (.ref C) (.ref Ck) = some true) (s' : PySem.W.subIn K (.ref Ck) (.type "BaseException") = some true) : PySem.W.exmOne K (.ref C) (.ref Ck) = some true := by
  unfold PySem.W.exmOne
  rw [s', kit_cl w t s]
  rfl
end
theorem all_mk {l : PySem.W.OpenLaw} {w : World} {K : PySem.W.Frag} {h : Heap} {mg : Str → Option Value} {fa : Addr} (X : K.In h) (G : h.Ns mainGlobals mg) (hfa : mg "law" = some (.ref fa))
    {f1 : Addr} {od1 an1 : Option Addr} {sl1 : Array (Option Value)} {oc1 kV1 dc1 pm1 cd1 ct1 : Value}
    {f2 : Addr} {od2 an2 : Option Addr} {sl2 : Array (Option Value)} {oc2 kV2 dc2 pm2 cd2 ct2 : Value}
    {f3 : Addr} {od3 an3 : Option Addr} {sl3 : Array (Option Value)} {oc3 kV3 dc3 pm3 cd3 ct3 : Value}
    {f4 : Addr} {od4 an4 : Option Addr} {sl4 : Array (Option Value)} {oc4 kV4 dc4 pm4 cd4 ct4 : Value}
    {f5 : Addr} {od5 an5 : Option Addr} {sl5 : Array (Option Value)} {oc5 kV5 dc5 pm5 cd5 ct5 : Value}
    {f6 : Addr} {od6 an6 : Option Addr} {sl6 : Array (Option Value)} {oc6 kV6 dc6 pm6 cd6 ct6 : Value}
    {f7 : Addr} {od7 an7 : Option Addr} {sl7 : Array (Option Value)} {oc7 kV7 dc7 pm7 cd7 ct7 : Value}
    {f8 : Addr} {od8 an8 : Option Addr} {sl8 : Array (Option Value)} {oc8 kV8 dc8 pm8 cd8 ct8 : Value}
    {f9 : Addr} {od9 an9 : Option Addr} {sl9 : Array (Option Value)} {oc9 kV9 dc9 pm9 cd9 ct9 : Value}
    {f10 : Addr} {od10 an10 : Option Addr} {sl10 : Array (Option Value)} {oc10 kV10 dc10 pm10 cd10 ct10 : Value}
    {f11 : Addr} {od11 an11 : Option Addr} {sl11 : Array (Option Value)} {oc11 kV11 dc11 pm11 cd11 ct11 : Value}
    {f12 : Addr} {od12 an12 : Option Addr} {sl12 : Array (Option Value)} {oc12 kV12 dc12 pm12 cd12 ct12 : Value}
    {f13 : Addr} {od13 an13 : Option Addr} {sl13 : Array (Option Value)} {oc13 kV13 dc13 pm13 cd13 ct13 : Value}
    {f14 : Addr} {od14 an14 : Option Addr} {sl14 : Array (Option Value)} {oc14 kV14 dc14 pm14 cd14 ct14 : Value}
    {f15 : Addr} {od15 an15 : Option Addr} {sl15 : Array (Option Value)} {oc15 kV15 dc15 pm15 cd15 ct15 : Value}
    {f16 : Addr} {od16 an16 : Option Addr} {sl16 : Array (Option Value)} {oc16 kV16 dc16 pm16 cd16 ct16 : Value}
    {f17 : Addr} {od17 an17 : Option Addr} {sl17 : Array (Option Value)} {oc17 kV17 dc17 pm17 cd17 ct17 : Value}
    {f18 : Addr} {od18 an18 : Option Addr} {sl18 : Array (Option Value)} {oc18 kV18 dc18 pm18 cd18 ct18 : Value}
    {f19 : Addr} {od19 an19 : Option Addr} {sl19 : Array (Option Value)} {oc19 kV19 dc19 pm19 cd19 ct19 : Value}
    {f20 : Addr} {od20 an20 : Option Addr} {sl20 : Array (Option Value)} {oc20 kV20 dc20 pm20 cd20 ct20 : Value}
    {f21 : Addr} {od21 an21 : Option Addr} {sl21 : Array (Option Value)} {oc21 kV21 dc21 pm21 cd21 ct21 : Value}
    {f22 : Addr} {od22 an22 : Option Addr} {sl22 : Array (Option Value)} {oc22 kV22 dc22 pm22 cd22 ct22 : Value}
    {f23 : Addr} {od23 an23 : Option Addr} {sl23 : Array (Option Value)} {oc23 kV23 dc23 pm23 cd23 ct23 : Value}
    {f24 : Addr} {od24 an24 : Option Addr} {sl24 : Array (Option Value)} {oc24 kV24 dc24 pm24 cd24 ct24 : Value}
    {f25 : Addr} {od25 an25 : Option Addr} {sl25 : Array (Option Value)} {oc25 kV25 dc25 pm25 cd25 ct25 : Value}
    {f26 : Addr} {od26 an26 : Option Addr} {sl26 : Array (Option Value)} {oc26 kV26 dc26 pm26 cd26 ct26 : Value}
    {f27 : Addr} {od27 an27 : Option Addr} {sl27 : Array (Option Value)} {oc27 kV27 dc27 pm27 cd27 ct27 : Value}
    {f28 : Addr} {od28 an28 : Option Addr} {sl28 : Array (Option Value)} {oc28 kV28 dc28 pm28 cd28 ct28 : Value}
    {f29 : Addr} {od29 an29 : Option Addr} {sl29 : Array (Option Value)} {oc29 kV29 dc29 pm29 cd29 ct29 : Value}
    (a1 : PySem.W.nsIn K mainGlobals "is_small" = some (some (.ref f1))) (l1 : K.lookup f1 = some ⟨oc1, od1, .func (PySem.W.fnOf "is_small" "is_small" (defArgs sSmall) (defBody sSmall) (defScope sSmall) .none kV1 dc1 pm1 an1 cd1 ct1), sl1⟩) (c1 : PySem.W.codeIn K cd1 "is_small" = true) (k1 : PySem.W.keepIn K (.ref f1) = true)
    (a2 : PySem.W.nsIn K mainGlobals "all_small" = some (some (.ref f2))) (l2 : K.lookup f2 = some ⟨oc2, od2, .func (PySem.W.fnOf "all_small" "all_small" (defArgs sAll) (defBody sAll) (defScope sAll) .none kV2 dc2 pm2 an2 cd2 ct2), sl2⟩) (c2 : PySem.W.codeIn K cd2 "all_small" = true) (k2 : PySem.W.keepIn K (.ref f2) = true)
    (a3 : PySem.W.nsIn K mainGlobals "is_name" = some (some (.ref f3))) (l3 : K.lookup f3 = some ⟨oc3, od3, .func (PySem.W.fnOf "is_name" "is_name" (defArgs sName) (defBody sName) (defScope sName) .none kV3 dc3 pm3 an3 cd3 ct3), sl3⟩) (c3 : PySem.W.codeIn K cd3 "is_name" = true) (k3 : PySem.W.keepIn K (.ref f3) = true)
    (a4 : PySem.W.nsIn K mainGlobals "is_thing" = some (some (.ref f4))) (l4 : K.lookup f4 = some ⟨oc4, od4, .func (PySem.W.fnOf "is_thing" "is_thing" (defArgs sThing) (defBody sThing) (defScope sThing) .none kV4 dc4 pm4 an4 cd4 ct4), sl4⟩) (c4 : PySem.W.codeIn K cd4 "is_thing" = true) (k4 : PySem.W.keepIn K (.ref f4) = true)
    (a5 : PySem.W.nsIn K mainGlobals "behind" = some (some (.ref f5))) (l5 : K.lookup f5 = some ⟨oc5, od5, .func (PySem.W.fnOf "behind" "behind" (defArgs sBehind) (defBody sBehind) (defScope sBehind) .none kV5 dc5 pm5 an5 cd5 ct5), sl5⟩) (c5 : PySem.W.codeIn K cd5 "behind" = true) (k5 : PySem.W.keepIn K (.ref f5) = true)
    (a6 : PySem.W.nsIn K mainGlobals "word_at" = some (some (.ref f6))) (l6 : K.lookup f6 = some ⟨oc6, od6, .func (PySem.W.fnOf "word_at" "word_at" (defArgs sWordAt) (defBody sWordAt) (defScope sWordAt) .none kV6 dc6 pm6 an6 cd6 ct6), sl6⟩) (c6 : PySem.W.codeIn K cd6 "word_at" = true) (k6 : PySem.W.keepIn K (.ref f6) = true)
    (a7 : PySem.W.nsIn K mainGlobals "name_at" = some (some (.ref f7))) (l7 : K.lookup f7 = some ⟨oc7, od7, .func (PySem.W.fnOf "name_at" "name_at" (defArgs sNameAt) (defBody sNameAt) (defScope sNameAt) .none kV7 dc7 pm7 an7 cd7 ct7), sl7⟩) (c7 : PySem.W.codeIn K cd7 "name_at" = true) (k7 : PySem.W.keepIn K (.ref f7) = true)
    (a8 : PySem.W.nsIn K mainGlobals "kind_word_at" = some (some (.ref f8))) (l8 : K.lookup f8 = some ⟨oc8, od8, .func (PySem.W.fnOf "kind_word_at" "kind_word_at" (defArgs sKWordAt) (defBody sKWordAt) (defScope sKWordAt) .none kV8 dc8 pm8 an8 cd8 ct8), sl8⟩) (c8 : PySem.W.codeIn K cd8 "kind_word_at" = true) (k8 : PySem.W.keepIn K (.ref f8) = true)
    (a9 : PySem.W.nsIn K mainGlobals "kind_at" = some (some (.ref f9))) (l9 : K.lookup f9 = some ⟨oc9, od9, .func (PySem.W.fnOf "kind_at" "kind_at" (defArgs sKindAt) (defBody sKindAt) (defScope sKindAt) .none kV9 dc9 pm9 an9 cd9 ct9), sl9⟩) (c9 : PySem.W.codeIn K cd9 "kind_at" = true) (k9 : PySem.W.keepIn K (.ref f9) = true)
    (a10 : PySem.W.nsIn K mainGlobals "read_kind" = some (some (.ref f10))) (l10 : K.lookup f10 = some ⟨oc10, od10, .func (PySem.W.fnOf "read_kind" "read_kind" (defArgs sRead) (defBody sRead) (defScope sRead) .none kV10 dc10 pm10 an10 cd10 ct10), sl10⟩) (c10 : PySem.W.codeIn K cd10 "read_kind" = true) (k10 : PySem.W.keepIn K (.ref f10) = true)
    (a11 : PySem.W.nsIn K mainGlobals "read_tie" = some (some (.ref f11))) (l11 : K.lookup f11 = some ⟨oc11, od11, .func (PySem.W.fnOf "read_tie" "read_tie" (defArgs sReadTie) (defBody sReadTie) (defScope sReadTie) .none kV11 dc11 pm11 an11 cd11 ct11), sl11⟩) (c11 : PySem.W.codeIn K cd11 "read_tie" = true) (k11 : PySem.W.keepIn K (.ref f11) = true)
    (a12 : PySem.W.nsIn K mainGlobals "read_of_kinds" = some (some (.ref f12))) (l12 : K.lookup f12 = some ⟨oc12, od12, .func (PySem.W.fnOf "read_of_kinds" "read_of_kinds" (defArgs sRKinds) (defBody sRKinds) (defScope sRKinds) .none kV12 dc12 pm12 an12 cd12 ct12), sl12⟩) (c12 : PySem.W.codeIn K cd12 "read_of_kinds" = true) (k12 : PySem.W.keepIn K (.ref f12) = true)
    (a13 : PySem.W.nsIn K mainGlobals "read_of_thing" = some (some (.ref f13))) (l13 : K.lookup f13 = some ⟨oc13, od13, .func (PySem.W.fnOf "read_of_thing" "read_of_thing" (defArgs sRThing) (defBody sRThing) (defScope sRThing) .none kV13 dc13 pm13 an13 cd13 ct13), sl13⟩) (c13 : PySem.W.codeIn K cd13 "read_of_thing" = true) (k13 : PySem.W.keepIn K (.ref f13) = true)
    (a14 : PySem.W.nsIn K mainGlobals "read_of_ties" = some (some (.ref f14))) (l14 : K.lookup f14 = some ⟨oc14, od14, .func (PySem.W.fnOf "read_of_ties" "read_of_ties" (defArgs sRTies) (defBody sRTies) (defScope sRTies) .none kV14 dc14 pm14 an14 cd14 ct14), sl14⟩) (c14 : PySem.W.codeIn K cd14 "read_of_ties" = true) (k14 : PySem.W.keepIn K (.ref f14) = true)
    (a15 : PySem.W.nsIn K mainGlobals "read" = some (some (.ref f15))) (l15 : K.lookup f15 = some ⟨oc15, od15, .func (PySem.W.fnOf "read" "read" (defArgs sReadS) (defBody sReadS) (defScope sReadS) .none kV15 dc15 pm15 an15 cd15 ct15), sl15⟩) (c15 : PySem.W.codeIn K cd15 "read" = true) (k15 : PySem.W.keepIn K (.ref f15) = true)
    (a16 : PySem.W.nsIn K mainGlobals "_law_pick" = some (some (.ref f16))) (l16 : K.lookup f16 = some ⟨oc16, od16, .func (PySem.W.fnOf "_law_pick" "_law_pick" (defArgs sPick) (defBody sPick) (defScope sPick) .none kV16 dc16 pm16 an16 cd16 ct16), sl16⟩) (c16 : PySem.W.codeIn K cd16 "_law_pick" = true) (k16 : PySem.W.keepIn K (.ref f16) = true)
    (a17 : PySem.W.nsIn K mainGlobals "_law_name" = some (some (.ref f17))) (l17 : K.lookup f17 = some ⟨oc17, od17, .func (PySem.W.fnOf "_law_name" "_law_name" (defArgs sLName) (defBody sLName) (defScope sLName) .none kV17 dc17 pm17 an17 cd17 ct17), sl17⟩) (c17 : PySem.W.codeIn K cd17 "_law_name" = true) (k17 : PySem.W.keepIn K (.ref f17) = true)
    (a18 : PySem.W.nsIn K mainGlobals "_law_written" = some (some (.ref f18))) (l18 : K.lookup f18 = some ⟨oc18, od18, .func (PySem.W.fnOf "_law_written" "_law_written" (defArgs sWritten) (defBody sWritten) (defScope sWritten) .none kV18 dc18 pm18 an18 cd18 ct18), sl18⟩) (c18 : PySem.W.codeIn K cd18 "_law_written" = true) (k18 : PySem.W.keepIn K (.ref f18) = true)
    (a19 : PySem.W.nsIn K mainGlobals "_law_line" = some (some (.ref f19))) (l19 : K.lookup f19 = some ⟨oc19, od19, .func (PySem.W.fnOf "_law_line" "_law_line" (defArgs sLine) (defBody sLine) (defScope sLine) .none kV19 dc19 pm19 an19 cd19 ct19), sl19⟩) (c19 : PySem.W.codeIn K cd19 "_law_line" = true) (k19 : PySem.W.keepIn K (.ref f19) = true)
    (a20 : PySem.W.nsIn K mainGlobals "_law_spoiled" = some (some (.ref f20))) (l20 : K.lookup f20 = some ⟨oc20, od20, .func (PySem.W.fnOf "_law_spoiled" "_law_spoiled" (defArgs sSpoiled) (defBody sSpoiled) (defScope sSpoiled) .none kV20 dc20 pm20 an20 cd20 ct20), sl20⟩) (c20 : PySem.W.codeIn K cd20 "_law_spoiled" = true) (k20 : PySem.W.keepIn K (.ref f20) = true)
    (a21 : PySem.W.nsIn K mainGlobals "_law_small" = some (some (.ref f21))) (l21 : K.lookup f21 = some ⟨oc21, od21, .func (PySem.W.fnOf "_law_small" "_law_small" (defArgs sLSmall) (defBody sLSmall) (defScope sLSmall) .none kV21 dc21 pm21 an21 cd21 ct21), sl21⟩) (c21 : PySem.W.codeIn K cd21 "_law_small" = true) (k21 : PySem.W.keepIn K (.ref f21) = true)
    (a22 : PySem.W.nsIn K mainGlobals "_law_is_name" = some (some (.ref f22))) (l22 : K.lookup f22 = some ⟨oc22, od22, .func (PySem.W.fnOf "_law_is_name" "_law_is_name" (defArgs sLIsName) (defBody sLIsName) (defScope sLIsName) .none kV22 dc22 pm22 an22 cd22 ct22), sl22⟩) (c22 : PySem.W.codeIn K cd22 "_law_is_name" = true) (k22 : PySem.W.keepIn K (.ref f22) = true)
    (a23 : PySem.W.nsIn K mainGlobals "_law_is_thing" = some (some (.ref f23))) (l23 : K.lookup f23 = some ⟨oc23, od23, .func (PySem.W.fnOf "_law_is_thing" "_law_is_thing" (defArgs sLIsThing) (defBody sLIsThing) (defScope sLIsThing) .none kV23 dc23 pm23 an23 cd23 ct23), sl23⟩) (c23 : PySem.W.codeIn K cd23 "_law_is_thing" = true) (k23 : PySem.W.keepIn K (.ref f23) = true)
    (a24 : PySem.W.nsIn K mainGlobals "_law_closed" = some (some (.ref f24))) (l24 : K.lookup f24 = some ⟨oc24, od24, .func (PySem.W.fnOf "_law_closed" "_law_closed" (defArgs sClosed) (defBody sClosed) (defScope sClosed) .none kV24 dc24 pm24 an24 cd24 ct24), sl24⟩) (c24 : PySem.W.codeIn K cd24 "_law_closed" = true) (k24 : PySem.W.keepIn K (.ref f24) = true)
    (a25 : PySem.W.nsIn K mainGlobals "_law_kind_of" = some (some (.ref f25))) (l25 : K.lookup f25 = some ⟨oc25, od25, .func (PySem.W.fnOf "_law_kind_of" "_law_kind_of" (defArgs sKindOf) (defBody sKindOf) (defScope sKindOf) .none kV25 dc25 pm25 an25 cd25 ct25), sl25⟩) (c25 : PySem.W.codeIn K cd25 "_law_kind_of" = true) (k25 : PySem.W.keepIn K (.ref f25) = true)
    (a26 : PySem.W.nsIn K mainGlobals "_law_saying_of" = some (some (.ref f26))) (l26 : K.lookup f26 = some ⟨oc26, od26, .func (PySem.W.fnOf "_law_saying_of" "_law_saying_of" (defArgs sSayingOf) (defBody sSayingOf) (defScope sSayingOf) .none kV26 dc26 pm26 an26 cd26 ct26), sl26⟩) (c26 : PySem.W.codeIn K cd26 "_law_saying_of" = true) (k26 : PySem.W.keepIn K (.ref f26) = true)
    (a27 : PySem.W.nsIn K mainGlobals "_law_read" = some (some (.ref f27))) (l27 : K.lookup f27 = some ⟨oc27, od27, .func (PySem.W.fnOf "_law_read" "_law_read" (defArgs sLRead) (defBody sLRead) (defScope sLRead) .none kV27 dc27 pm27 an27 cd27 ct27), sl27⟩) (c27 : PySem.W.codeIn K cd27 "_law_read" = true) (k27 : PySem.W.keepIn K (.ref f27) = true)
    (a28 : PySem.W.nsIn K mainGlobals "_law_refused" = some (some (.ref f28))) (l28 : K.lookup f28 = some ⟨oc28, od28, .func (PySem.W.fnOf "_law_refused" "_law_refused" (defArgs sRefused) (defBody sRefused) (defScope sRefused) .none kV28 dc28 pm28 an28 cd28 ct28), sl28⟩) (c28 : PySem.W.codeIn K cd28 "_law_refused" = true) (k28 : PySem.W.keepIn K (.ref f28) = true)
    (a29 : PySem.W.nsIn K mainGlobals "law" = some (some (.ref f29))) (l29 : K.lookup f29 = some ⟨oc29, od29, .func (PySem.W.fnOf "law" "law" (defArgs sLaw) (defBody sLaw) (defScope sLaw) .none kV29 dc29 pm29 an29 cd29 ct29), sl29⟩) (c29 : PySem.W.codeIn K cd29 "law" = true) (k29 : PySem.W.keepIn K (.ref f29) = true)
    {it1 : Tok} (ia1 : PySem.W.nsIn K mainGlobals "MOST_SIGNS" = some (some (.int 12 it1)))
    {it2 : Tok} (ia2 : PySem.W.nsIn K mainGlobals "MOST_TUPLES" = some (some (.int 24 it2)))
    {ta1 : Addr} {tod1 : Option Addr} {tn1 : Nat} {tsl1 : Array (Option Value)} {tt1_0 tt1_1 : Tok}
    (sa1 : PySem.W.nsIn K mainGlobals "WHOLES" = some (some (.ref ta1))) (sb1 : K.lookup ta1 = some ⟨.type "tuple", tod1, .seq #[.str "anything" tt1_0, .str "nothing" tt1_1] tn1, tsl1⟩)
    {ta2 : Addr} {tod2 : Option Addr} {tn2 : Nat} {tsl2 : Array (Option Value)} {tt2_0 tt2_1 tt2_2 tt2_3 tt2_4 tt2_5 tt2_6 tt2_7 tt2_8 tt2_9 tt2_10 : Tok}
    (sa2 : PySem.W.nsIn K mainGlobals "TAKEN" = some (some (.ref ta2))) (sb2 : K.lookup ta2 = some ⟨.type "tuple", tod2, .seq #[.str "anything" tt2_0, .str "nothing" tt2_1, .str "every" tt2_2, .str "no" tt2_3, .str "is" tt2_4, .str "tie" tt2_5, .str "within" tt2_6, .str "then" tt2_7, .str "makes" tt2_8, .str "both" tt2_9, .str "some" tt2_10] tn2, tsl2⟩)
    {C Ck N e1 e2 e3 e4 e5 : Addr} {nm q : Str} {bs : List Value} {hdct : Bool} {sn : List Str} {sub : List Value} {ab : Bool} {col : Option Bool} {dd : Option Addr} {kk0 kk1 kk2 kk3 kk5 : Option Value} {ock : Value} {odk : Option Addr} {cdk : ClassData} {slk : Array (Option Value)}
    (xC : PySem.W.nsIn K mainGlobals "NoText" = some (some (.ref C)))
    (xk : PySem.W.nsIn K mainGlobals "KinError" = some (some (.ref Ck)))
    (x1 : PySem.W.nsIn K mainGlobals "NoFact" = some (some (.ref e1)))
    (x2 : PySem.W.nsIn K mainGlobals "NoQuestion" = some (some (.ref e2)))
    (x3 : PySem.W.nsIn K mainGlobals "NoRow" = some (some (.ref e3)))
    (x4 : PySem.W.nsIn K mainGlobals "NoSaying" = some (some (.ref e4)))
    (x5 : PySem.W.nsIn K mainGlobals "TooMany" = some (some (.ref e5)))
    (lC : K.lookup C = some (excClassObj nm q C N bs (.ref Ck :: veB) hdct sn sub ab col dd kk0 kk1 kk2 kk3 kk5 "ValueError.__new__"))
    (lk : K.lookup Ck = some ⟨ock, odk, .cls cdk, slk⟩)
    (okN : PySem.W.nsOkIn K N = true)
    (okk : PySem.W.nsOkIn K cdk.ns = true)
    (iN : PySem.W.nsIn K N "__init__" = some none)
    (ik : PySem.W.nsIn K cdk.ns "__init__" = some none)
    (kC : PySem.W.keepIn K (.ref C) = true)
    (y1 : PySem.W.hasDictIn K C = true)
    (y2 : PySem.W.mroIn K C (.type "BaseException") = some true)
    (y3 : PySem.W.mroIn K C (.type "object") = some true)
    (y4 : PySem.W.findIn K (.ref C) "__getattribute__" = some (some (.builtin "BaseException.__getattribute__")))
    (y5 : PySem.W.findIn K (.ref C) "__getattr__" = some none)
    (y6 : PySem.W.findIn K (.ref C) "__setattr__" = some (some (.builtin "object.__setattr__")))
    (y7 : PySem.W.findIn K (.ref C) "__class__" = some (some (.builtin "object.__class__")))
    (y8 : PySem.W.specialIn K (.builtin "object.__class__") "__get__" = some (some (.builtin "getset_descriptor.__get__")))
    (y9 : PySem.W.takesIn K (.builtin "object.__class__") = some true)
    (y11 : PySem.W.typeIn K (.ref C) = some (.type "type"))
    (y12 : PySem.W.typeIn K (.ref Ck) = some (.type "type"))
    (y13 : PySem.W.isClsIn K Ck = true)
    (y14 : PySem.W.subIn K (.ref C) (.type "ValueError") = some true)
    (y15 : PySem.W.subIn K (.ref C) (.ref Ck) = some true)
    (y16 : PySem.W.subIn K (.ref Ck) (.type "BaseException") = some true)
    (w1 : PySem.W.isClsIn K e1 = true)
    (t1 : PySem.W.typeIn K (.ref e1) = some (.type "type"))
    (s1 : PySem.W.subIn K (.ref C) (.ref e1) = some false)
    (u1 : (Value.ref C == Value.ref e1) = false)
    (w2 : PySem.W.isClsIn K e2 = true)
    (t2 : PySem.W.typeIn K (.ref e2) = some (.type "type"))
    (s2 : PySem.W.subIn K (.ref C) (.ref e2) = some false)
    (u2 : (Value.ref C == Value.ref e2) = false)
    (w3 : PySem.W.isClsIn K e3 = true)
    (t3 : PySem.W.typeIn K (.ref e3) = some (.type "type"))
    (s3 : PySem.W.subIn K (.ref C) (.ref e3) = some false)
    (u3 : (Value.ref C == Value.ref e3) = false)
    (w4 : PySem.W.isClsIn K e4 = true)
    (t4 : PySem.W.typeIn K (.ref e4) = some (.type "type"))
    (s4 : PySem.W.subIn K (.ref C) (.ref e4) = some false)
    (u4 : (Value.ref C == Value.ref e4) = false)
    (w5 : PySem.W.isClsIn K e5 = true)
    (t5 : PySem.W.typeIn K (.ref e5) = some (.type "type"))
    (s5 : PySem.W.subIn K (.ref C) (.ref e5) = some false)
    (u5 : (Value.ref C == Value.ref e5) = false)
    (v1 : PySem.W.isClsIn K C = true)
    (v2 : PySem.W.subIn K (.ref C) (.ref C) = some true)
    (v3 : PySem.W.subIn K (.ref C) (.type "BaseException") = some true)
    (z1 : PySem.W.nsIn K mainGlobals "len" = some none)
    (z2 : PySem.W.nsIn K mainGlobals "all" = some none)
    (z3 : PySem.W.nsIn K mainGlobals "range" = some none)
    (z4 : PySem.W.nsIn K mainGlobals "isinstance" = some none)
    (z5 : PySem.W.nsIn K mainGlobals "str" = some none)
    (z6 : PySem.W.nsIn K mainGlobals "tuple" = some none)
    (z7 : PySem.W.nsIn K mainGlobals "enumerate" = some none)
    (z8 : PySem.W.nsIn K mainGlobals "ValueError" = some none)
    : ∃ fd : FuncData, (∀ (s : Shared) (v : Value), BindsTo s fd ⟨[v], []⟩ [("_law_script", v)]) ∧ ∀ base : Heap, K.In base → base.Ns mainGlobals mg → FnOk l.prog w K mg base CX0 36 fa fd ["_law_script"] (spLaw K) := by
  have e := hfa.symm.trans (PySem.W.mg_of X G a29)
  cases e
  have F1 := fun_mk (st := sSmall) l1 c1 k1
  have b1 := F1.binds (ps := ["sign"]) fun _ _ _ _ _ _ us hl => match us, hl with | [_], _ => rfl
  have m1 := PySem.W.mg_of X G a1
  have F2 := fun_mk (st := sAll) l2 c2 k2
  have b2 := F2.binds (ps := ["text"]) fun _ _ _ _ _ _ us hl => match us, hl with | [_], _ => rfl
  have m2 := PySem.W.mg_of X G a2
  have F3 := fun_mk (st := sName) l3 c3 k3
  have b3 := F3.binds (ps := ["text"]) fun _ _ _ _ _ _ us hl => match us, hl with | [_], _ => rfl
  have m3 := PySem.W.mg_of X G a3
  have F4 := fun_mk (st := sThing) l4 c4 k4
  have b4 := F4.binds (ps := ["text"]) fun _ _ _ _ _ _ us hl => match us, hl with | [_], _ => rfl
  have m4 := PySem.W.mg_of X G a4
  have F5 := fun_mk (st := sBehind) l5 c5 k5
  have b5 := F5.binds (ps := ["text", "at", "sign"]) fun _ _ _ _ _ _ us hl => match us, hl with | [_, _, _], _ => rfl
  have m5 := PySem.W.mg_of X G a5
  have F6 := fun_mk (st := sWordAt) l6 c6 k6
  have b6 := F6.binds (ps := ["text", "at"]) fun _ _ _ _ _ _ us hl => match us, hl with | [_, _], _ => rfl
  have m6 := PySem.W.mg_of X G a6
  have F7 := fun_mk (st := sNameAt) l7 c7 k7
  have b7 := F7.binds (ps := ["text", "at"]) fun _ _ _ _ _ _ us hl => match us, hl with | [_, _], _ => rfl
  have m7 := PySem.W.mg_of X G a7
  have F8 := fun_mk (st := sKWordAt) l8 c8 k8
  have b8 := F8.binds (ps := ["text", "at"]) fun _ _ _ _ _ _ us hl => match us, hl with | [_, _], _ => rfl
  have m8 := PySem.W.mg_of X G a8
  have F9 := fun_mk (st := sKindAt) l9 c9 k9
  have b9 := F9.binds (ps := ["text", "at"]) fun _ _ _ _ _ _ us hl => match us, hl with | [_, _], _ => rfl
  have m9 := PySem.W.mg_of X G a9
  have F10 := fun_mk (st := sRead) l10 c10 k10
  have b10 := F10.binds (ps := ["text"]) fun _ _ _ _ _ _ us hl => match us, hl with | [_], _ => rfl
  have m10 := PySem.W.mg_of X G a10
  have F11 := fun_mk (st := sReadTie) l11 c11 k11
  have b11 := F11.binds (ps := ["word"]) fun _ _ _ _ _ _ us hl => match us, hl with | [_], _ => rfl
  have m11 := PySem.W.mg_of X G a11
  have F12 := fun_mk (st := sRKinds) l12 c12 k12
  have b12 := F12.binds (ps := ["form", "rest"]) fun _ _ _ _ _ _ us hl => match us, hl with | [_, _], _ => rfl
  have m12 := PySem.W.mg_of X G a12
  have F13 := fun_mk (st := sRThing) l13 c13 k13
  have b13 := F13.binds (ps := ["thing", "rest"]) fun _ _ _ _ _ _ us hl => match us, hl with | [_, _], _ => rfl
  have m13 := PySem.W.mg_of X G a13
  have F14 := fun_mk (st := sRTies) l14 c14 k14
  have b14 := F14.binds (ps := ["rest"]) fun _ _ _ _ _ _ us hl => match us, hl with | [_], _ => rfl
  have m14 := PySem.W.mg_of X G a14
  have F15 := fun_mk (st := sReadS) l15 c15 k15
  have b15 := F15.binds (ps := ["text"]) fun _ _ _ _ _ _ us hl => match us, hl with | [_], _ => rfl
  have m15 := PySem.W.mg_of X G a15
  have F16 := fun_mk (st := sPick) l16 c16 k16
  have b16 := F16.binds (ps := ["_law_cell", "_law_turn", "_law_many"]) fun _ _ _ _ _ _ us hl => match us, hl with | [_, _, _], _ => rfl
  have m16 := PySem.W.mg_of X G a16
  have F17 := fun_mk (st := sLName) l17 c17 k17
  have b17 := F17.binds (ps := ["_law_cell"]) fun _ _ _ _ _ _ us hl => match us, hl with | [_], _ => rfl
  have m17 := PySem.W.mg_of X G a17
  have F18 := fun_mk (st := sWritten) l18 c18 k18
  have b18 := F18.binds (ps := ["_law_group"]) fun _ _ _ _ _ _ us hl => match us, hl with | [_], _ => rfl
  have m18 := PySem.W.mg_of X G a18
  have F19 := fun_mk (st := sLine) l19 c19 k19
  have b19 := F19.binds (ps := ["_law_group"]) fun _ _ _ _ _ _ us hl => match us, hl with | [_], _ => rfl
  have m19 := PySem.W.mg_of X G a19
  have F20 := fun_mk (st := sSpoiled) l20 c20 k20
  have b20 := F20.binds (ps := ["_law_text", "_law_cell"]) fun _ _ _ _ _ _ us hl => match us, hl with | [_, _], _ => rfl
  have m20 := PySem.W.mg_of X G a20
  have F21 := fun_mk (st := sLSmall) l21 c21 k21
  have b21 := F21.binds (ps := ["_law_text"]) fun _ _ _ _ _ _ us hl => match us, hl with | [_], _ => rfl
  have m21 := PySem.W.mg_of X G a21
  have F22 := fun_mk (st := sLIsName) l22 c22 k22
  have b22 := F22.binds (ps := ["_law_text"]) fun _ _ _ _ _ _ us hl => match us, hl with | [_], _ => rfl
  have m22 := PySem.W.mg_of X G a22
  have F23 := fun_mk (st := sLIsThing) l23 c23 k23
  have b23 := F23.binds (ps := ["_law_text"]) fun _ _ _ _ _ _ us hl => match us, hl with | [_], _ => rfl
  have m23 := PySem.W.mg_of X G a23
  have F24 := fun_mk (st := sClosed) l24 c24 k24
  have b24 := F24.binds (ps := ["_law_pile"]) fun _ _ _ _ _ _ us hl => match us, hl with | [_], _ => rfl
  have m24 := PySem.W.mg_of X G a24
  have F25 := fun_mk (st := sKindOf) l25 c25 k25
  have b25 := F25.binds (ps := ["_law_text"]) fun _ _ _ _ _ _ us hl => match us, hl with | [_], _ => rfl
  have m25 := PySem.W.mg_of X G a25
  have F26 := fun_mk (st := sSayingOf) l26 c26 k26
  have b26 := F26.binds (ps := ["_law_text"]) fun _ _ _ _ _ _ us hl => match us, hl with | [_], _ => rfl
  have m26 := PySem.W.mg_of X G a26
  have F27 := fun_mk (st := sLRead) l27 c27 k27
  have b27 := F27.binds (ps := ["_law_text", "_law_bare"]) fun _ _ _ _ _ _ us hl => match us, hl with | [_, _], _ => rfl
  have m27 := PySem.W.mg_of X G a27
  have F28 := fun_mk (st := sRefused) l28 c28 k28
  have b28 := F28.binds (ps := ["_law_text", "_law_bare"]) fun _ _ _ _ _ _ us hl => match us, hl with | [_, _], _ => rfl
  have m28 := PySem.W.mg_of X G a28
  have F29 := fun_mk (st := sLaw) l29 c29 k29
  have m29 := PySem.W.mg_of X G a29
  have mi1 := PySem.W.mg_of X G ia1
  have mi2 := PySem.W.mg_of X G ia2
  have ms1 := PySem.W.mg_of X G sa1
  have ms2 := PySem.W.mg_of X G sa2
  have n1 := PySem.W.mg_none_of X G z1
  have n2 := PySem.W.mg_none_of X G z2
  have n3 := PySem.W.mg_none_of X G z3
  have n4 := PySem.W.mg_none_of X G z4
  have n5 := PySem.W.mg_none_of X G z5
  have n6 := PySem.W.mg_none_of X G z6
  have n7 := PySem.W.mg_none_of X G z7
  have n8 := PySem.W.mg_none_of X G z8
  refine ⟨PySem.W.fnOf "law" "law" (defArgs sLaw) (defBody sLaw) (defScope sLaw) .none kV29 dc29 pm29 an29 cd29 ct29, fun s v => .of_eq rfl, fun base _ _ => ?_⟩
  have hW : ∀ H, SqT K H ta1 [.str "anything", .str "nothing"] := fun H => tup_of sb1 (by show 2 ≤ sizeLine; exact small2 (by decide)) (.cons ⟨_, rfl⟩ (.cons ⟨_, rfl⟩ .nil))
  have hT : ∀ H, SqT K H ta2 (words.map V.str) := fun H => tup_of sb2 (by show 11 ≤ sizeLine; exact small2 (by decide)) (.cons ⟨_, rfl⟩ (.cons ⟨_, rfl⟩ (.cons ⟨_, rfl⟩ (.cons ⟨_, rfl⟩ (.cons ⟨_, rfl⟩ (.cons ⟨_, rfl⟩ (.cons ⟨_, rfl⟩ (.cons ⟨_, rfl⟩ (.cons ⟨_, rfl⟩ (.cons ⟨_, rfl⟩ (.cons ⟨_, rfl⟩ .nil)))))))))))
  have Xc : XCl K C := ⟨y1, y2, y3, rf_of lC, y4, y5, y6, y7, y8, y9⟩
  have Mk : MkX0 K C := ⟨⟨nm, q, N, bs, _, hdct, sn, sub, ab, col, dd, kk0, kk1, kk2, kk3, kk5, lC, okN, iN, tail_one lk okk ik⟩, kC, y2, y11⟩
  have mC := PySem.W.mg_of X G xC
  have mk := PySem.W.mg_of X G xk
  have mx1 := PySem.W.mg_of X G x1
  have mx2 := PySem.W.mg_of X G x2
  have mx3 := PySem.W.mg_of X G x3
  have mx4 := PySem.W.mg_of X G x4
  have mx5 := PySem.W.mg_of X G x5
  have G1 := ok_small (P := l.prog) (w := w) (mg := mg) (base := base) F1
  have G2 := ok_all F2 G1 b1 k1 m1 n2
  have G3 := ok_name F3 G2 b2 k2 m2 n1 mi1 ms2 hT
  have G4 := ok_thing F4 G2 b2 k2 m2 n1 mi1
  have G5 := ok_behind (P := l.prog) (w := w) (mg := mg) (base := base) F5 Mk mC
  have G6 := ok_wordAt F6 G1 b1 k1 m1 n1
  have G7 := ok_nameAt F7 Mk mC G6 b6 k6 m6 G3 b3 k3 m3
  have G8 := ok_kWordAt F8 G6 b6 k6 m6 G7 b7 k7 m7 ms1 hW
  have G9 := kindAt_all F9 Mk mC b9 m9 G6 b6 k6 m6 G7 b7 k7 m7 G8 b8 k8 m8 G5 b5 k5 m5 25
  have G10 := ok_read F10 Mk mC G9 b9 k9 m9 n1 mi2
  have G11 := ok_readTie F11 Mk mC G3 b3 k3 m3
  have G12 := ok_rkinds F12 G10 b10 k10 m10
  have G13 := ok_rthing F13 Mk mC n1 G10 b10 k10 m10 G4 b4 k4 m4 G11 b11 k11 m11
  have G14 := ok_rties F14 Mk mC n1 n6 G11 b11 k11 m11
  have G15 := ok_readS F15 Mk mC G12 b12 k12 m12 G13 b13 k13 m13 G14 b14 k14 m14 G4 b4 k4 m4
  have G16 := ok_pick (P := l.prog) (w := w) (mg := mg) (base := base) F16
  have G17 := ok_dname F17 G16 b16 k16 m16 n3
  have G18 := ok_written F18 n1 n7 G16 b16 k16 m16 G17 b17 k17 m17
  have G19 := ok_line F19 n1 n3 G17 b17 k17 m17 G18 b18 k18 m18
  have G20 := ok_spoiled F20 n1 G16 b16 k16 m16
  have G21 := ok_lsmall (P := l.prog) (w := w) (mg := mg) (base := base) F21
  have G22 := ok_lname F22 G21 b21 k21 m21 n1
  have G23 := ok_lthing F23 G21 b21 k21 m21 n1
  have G24 := ok_closed F24 n1 n4 n5 G22 b22 k22 m22
  have G25 := ok_kindOf F25 n1 n3 G22 b22 k22 m22 G24 b24 k24 m24
  have G26 := ok_sayingOf F26 n1 G22 b22 k22 m22 G23 b23 k23 m23 G25 b25 k25 m25
  have G27 := ok_lread F27 G10 b10 k10 m10 G15 b15 k15 m15
  have G28 := ok_refused F28 n4 n8 Xc mC mk mx1 mx2 mx3 mx4 mx5 (kit_ty y14) kit_self (kit_five w1 t1 s1 u1 w2 t2 s2 u2 w3 t3 s3 u3 w4 t4 s4 u4 w5 t5 s5 u5) (exm_ref y13 y12 y15 y16) G27 b27 k27 m27
  exact ok_law F29 n1 n3 mC (exm_ref v1 y11 v2 v3) G19 b19 k19 m19 G20 b20 k20 m20 G26 b26 k26 m26 G25 b25 k25 m25 G27 b27 k27 m27 G28 b28 k28 m28
theorem walk {l : PySem.W.OpenLaw} {q : Program} {loose : List Str} {XP : (Str → Option Value) → Heap → Prop} {YP : World → Heap → Prop} {d : DefRec} {K : Params → PySem.W.Frag} (hn : l.most = some 63) (hdf : d.params.defaults = [])
    (hY : ∀ (w : World) (h : Heap), YP w h → (K w.params).In h)
    (F : ∀ (w : World) (mg : Str → Option Value) (fa : Addr) (h : Heap), (K w.params).In h → h.Ns mainGlobals mg → mg d.name = some (.ref fa) →
      ∃ fd : FuncData, (∀ (s : Shared) (u : Value), BindsTo s fd ⟨[u], []⟩ [("_law_script", u)]) ∧ ∀ base : Heap, (K w.params).In base → base.Ns mainGlobals mg → FnOk l.prog w (K w.params) mg base CX0 36 fa fd ["_law_script"] (spLaw (K w.params))) :
    PySem.W.WalkO q loose XP YP l.row.toRowW d [] (fun f vs => PySem.call f vs) :=
  L2.walk_of (n := 63) (k := 36) (x := "_law_script") (CX := fun _ => CX0) (sp := fun w => spLaw (K w.params)) hn (by decide) hdf ⟨rfl, by decide, by decide⟩ hY F (fun _ _ a ns hl _ hS => ⟨a, ns, rfl, hS, hl, fun _ => rfl⟩) fun _ _ _ _ _ z => z
end K12
def PySem.W.Fast.tw11960350303607875191 : Unit := ()
def PySem.W.Fast.tw3644506946509352089 : Unit := ()
def PySem.W.Fast.tw16394193310027555931 : Unit := ()
def PySem.W.Fast.tw2746534591211350049 : Unit := ()
def PySem.W.Fast.tw5206269391581809143 : Unit := ()
def PySem.W.Fast.tw8823775219189313923 : Unit := ()
def PySem.W.Fast.tw3928566539720391382 : Unit := ()
def PySem.W.Fast.tw13507303423686459690 : Unit := ()
def PySem.W.Fast.tw11759826473357537321 : Unit := ()
def PySem.W.Fast.tw17746351707695460823 : Unit := ()
def PySem.W.Fast.tw15973754459863748084 : Unit := ()
def PySem.W.Fast.tw4041227186678613468 : Unit := ()
def PySem.W.Fast.tw5112248421249032962 : Unit := ()
def PySem.W.Fast.tw8393992346560035297 : Unit := ()
def PySem.W.Fast.tw162548166497086577 : Unit := ()
def PySem.W.Fast.tw1232900172670158053 : Unit := ()
def PySem.W.Fast.tw17859060017600460120 : Unit := ()
def PySem.W.Fast.tw6529225643960607166 : Unit := ()
def PySem.W.Fast.tw15020297150265148697 : Unit := ()
def PySem.W.Fast.tw1256851377200612752 : Unit := ()
def PySem.W.Fast.tw13142088349505664871 : Unit := ()
def PySem.W.Fast.tw1126563853387990028 : Unit := ()
def PySem.W.Fast.tw958310134629720168 : Unit := ()
def PySem.W.Fast.tw14917643309745402270 : Unit := ()
def PySem.W.Fast.tw15986633482865414441 : Unit := ()
def PySem.W.Fast.tw1517657763875372780 : Unit := ()
def PySem.W.Fast.tw17466631477716719480 : Unit := ()
def PySem.W.Fast.tw1908060434943022285 : Unit := ()
def PySem.W.Fast.tw13729936604912419453 : Unit := ()
def PySem.W.Fast.tw11390128398908815825 : Unit := ()
def PySem.W.Fast.tw17224721875602841654 : Unit := ()
def PySem.W.Fast.tw5738498753808229592 : Unit := ()
def PySem.W.Fast.tw11008596974836003692 : Unit := ()
def PySem.W.Fast.tw14978656563681087457 : Unit := ()
def PySem.W.Fast.tw15612771783816996848 : Unit := ()
def PySem.W.Fast.tw5798899305041893205 : Unit := ()
def PySem.W.Fast.tw8965411967789768941 : Unit := ()
def PySem.W.Fast.tw16152999513869261629 : Unit := ()
def PySem.W.Fast.tw6082215510383112407 : Unit := ()
def PySem.W.Fast.tw563213699167263531 : Unit := ()
def PySem.W.Fast.tw6875948352623329159 : Unit := ()
def PySem.W.Fast.tw18132977041818948801 : Unit := ()
def PySem.W.Fast.tw15028085371711429034 : Unit := ()
def PySem.W.Fast.tw8398830746566816297 : Unit := ()
def PySem.W.Fast.tw10915791955927704328 : Unit := ()
def PySem.W.Fast.tw7170772446879069745 : Unit := ()
open PySem PySem.W PyProof.Rows
set_option maxRecDepth 100000 in
set_option maxHeartbeats 0 in
theorem PySem.Challenge.cw_kinwords_k12_texts_read_holds : PySem.Challenge.rw_kinwords_k12_texts_read.Holds := by
  w_on; o_law; k_head; (case hw => w_witness2)
  k_fill
  refine K12.walk (l := PySem.Challenge.rw_kinwords_k12_texts_read) rfl rfl (fun w h Y => PySem.W.kIn_of Y) ?F
  case F =>
    intro w mg fa h KX G hmg
    refine' K12.all_mk KX G hmg ?a1 ?l1 ?c1 ?k1 ?a2 ?l2 ?c2 ?k2 ?a3 ?l3 ?c3 ?k3 ?a4 ?l4 ?c4 ?k4 ?a5 ?l5 ?c5 ?k5 ?a6 ?l6 ?c6 ?k6 ?a7 ?l7 ?c7 ?k7 ?a8 ?l8 ?c8 ?k8 ?a9 ?l9 ?c9 ?k9 ?a10 ?l10 ?c10 ?k10 ?a11 ?l11 ?c11 ?k11 ?a12 ?l12 ?c12 ?k12 ?a13 ?l13 ?c13 ?k13 ?a14 ?l14 ?c14 ?k14 ?a15 ?l15 ?c15 ?k15 ?a16 ?l16 ?c16 ?k16 ?a17 ?l17 ?c17 ?k17 ?a18 ?l18 ?c18 ?k18 ?a19 ?l19 ?c19 ?k19 ?a20 ?l20 ?c20 ?k20 ?a21 ?l21 ?c21 ?k21 ?a22 ?l22 ?c22 ?k22 ?a23 ?l23 ?c23 ?k23 ?a24 ?l24 ?c24 ?k24 ?a25 ?l25 ?c25 ?k25 ?a26 ?l26 ?c26 ?k26 ?a27 ?l27 ?c27 ?k27 ?a28 ?l28 ?c28 ?k28 ?a29 ?l29 ?c29 ?k29 ?ia1 ?ia2 ?sa1 ?sb1 ?sa2 ?sb2 ?xC ?xk ?x1 ?x2 ?x3 ?x4 ?x5 ?lC ?lk ?okN ?okk ?iN ?ik ?kC ?y1 ?y2 ?y3 ?y4 ?y5 ?y6 ?y7 ?y8 ?y9 ?y11 ?y12 ?y13 ?y14 ?y15 ?y16 ?w1 ?t1 ?s1 ?u1 ?w2 ?t2 ?s2 ?u2 ?w3 ?t3 ?s3 ?u3 ?w4 ?t4 ?s4 ?u4 ?w5 ?t5 ?s5 ?u5 ?v1 ?v2 ?v3 ?z1 ?z2 ?z3 ?z4 ?z5 ?z6 ?z7 ?z8
    (case a1 => k_is)
    (case l1 => k_is)
    (case c1 => k_is)
    (case k1 => k_is)
    (case a2 => k_is)
    (case l2 => k_is)
    (case c2 => k_is)
    (case k2 => k_is)
    (case a3 => k_is)
    (case l3 => k_is)
    (case c3 => k_is)
    (case k3 => k_is)
    (case a4 => k_is)
    (case l4 => k_is)
    (case c4 => k_is)
    (case k4 => k_is)
    (case a5 => k_is)
    (case l5 => k_is)
    (case c5 => k_is)
    (case k5 => k_is)
    (case a6 => k_is)
    (case l6 => k_is)
    (case c6 => k_is)
    (case k6 => k_is)
    (case a7 => k_is)
    (case l7 => k_is)
    (case c7 => k_is)
    (case k7 => k_is)
    (case a8 => k_is)
    (case l8 => k_is)
    (case c8 => k_is)
    (case k8 => k_is)
    (case a9 => k_is)
    (case l9 => k_is)
    (case c9 => k_is)
    (case k9 => k_is)
    (case a10 => k_is)
    (case l10 => k_is)
    (case c10 => k_is)
    (case k10 => k_is)
    (case a11 => k_is)
    (case l11 => k_is)
    (case c11 => k_is)
    (case k11 => k_is)
    (case a12 => k_is)
    (case l12 => k_is)
    (case c12 => k_is)
    (case k12 => k_is)
    (case a13 => k_is)
    (case l13 => k_is)
    (case c13 => k_is)
    (case k13 => k_is)
    (case a14 => k_is)
    (case l14 => k_is)
    (case c14 => k_is)
    (case k14 => k_is)
    (case a15 => k_is)
    (case l15 => k_is)
    (case c15 => k_is)
    (case k15 => k_is)
    (case a16 => k_is)
    (case l16 => k_is)
    (case c16 => k_is)
    (case k16 => k_is)
    (case a17 => k_is)
    (case l17 => k_is)
    (case c17 => k_is)
    (case k17 => k_is)
    (case a18 => k_is)
    (case l18 => k_is)
    (case c18 => k_is)
    (case k18 => k_is)
    (case a19 => k_is)
    (case l19 => k_is)
    (case c19 => k_is)
    (case k19 => k_is)
    (case a20 => k_is)
    (case l20 => k_is)
    (case c20 => k_is)
    (case k20 => k_is)
    (case a21 => k_is)
    (case l21 => k_is)
    (case c21 => k_is)
    (case k21 => k_is)
    (case a22 => k_is)
    (case l22 => k_is)
    (case c22 => k_is)
    (case k22 => k_is)
    (case a23 => k_is)
    (case l23 => k_is)
    (case c23 => k_is)
    (case k23 => k_is)
    (case a24 => k_is)
    (case l24 => k_is)
    (case c24 => k_is)
    (case k24 => k_is)
    (case a25 => k_is)
    (case l25 => k_is)
    (case c25 => k_is)
    (case k25 => k_is)
    (case a26 => k_is)
    (case l26 => k_is)
    (case c26 => k_is)
    (case k26 => k_is)
    (case a27 => k_is)
    (case l27 => k_is)
    (case c27 => k_is)
    (case k27 => k_is)
    (case a28 => k_is)
    (case l28 => k_is)
    (case c28 => k_is)
    (case k28 => k_is)
    (case a29 => k_is)
    (case l29 => k_is)
    (case c29 => k_is)
    (case k29 => k_is)
    (case ia1 => k_is)
    (case ia2 => k_is)
    (case sa1 => k_is)
    (case sb1 => k_is)
    (case sa2 => k_is)
    (case sb2 => k_is)
    (case xC => k_is)
    (case xk => k_is)
    (case x1 => k_is)
    (case x2 => k_is)
    (case x3 => k_is)
    (case x4 => k_is)
    (case x5 => k_is)
    (case lC => k_is)
    (case lk => k_is)
    (case okN => exact K12.nsok_of (by k_is) rfl)
    (case okk => exact K12.nsok_of (by k_is) rfl)
    (case iN => k_is)
    (case ik => k_is)
    (case kC => k_is)
    (case y1 => k_is)
    (case y2 => k_is)
    (case y3 => k_is)
    (case y4 => k_is)
    (case y5 => k_is)
    (case y6 => k_is)
    (case y7 => k_is)
    (case y8 => k_is)
    (case y9 => k_is)
    (case y11 => k_is)
    (case y12 => k_is)
    (case y13 => k_is)
    (case y14 => k_is)
    (case y15 => k_is)
    (case y16 => k_is)
    (case w1 => k_is)
    (case t1 => k_is)
    (case s1 => k_is)
    (case u1 => first | rfl | decide +kernel)
    (case w2 => k_is)
    (case t2 => k_is)
    (case s2 => k_is)
    (case u2 => first | rfl | decide +kernel)
    (case w3 => k_is)
    (case t3 => k_is)
    (case s3 => k_is)
    (case u3 => first | rfl | decide +kernel)
    (case w4 => k_is)
    (case t4 => k_is)
    (case s4 => k_is)
    (case u4 => first | rfl | decide +kernel)
    (case w5 => k_is)
    (case t5 => k_is)
    (case s5 => k_is)
    (case u5 => first | rfl | decide +kernel)
    (case v1 => k_is)
    (case v2 => k_is)
    (case v3 => k_is)
    (case z1 => k_is)
    (case z2 => k_is)
    (case z3 => k_is)
    (case z4 => k_is)
    (case z5 => k_is)
    (case z6 => k_is)
    (case z7 => k_is)
    (case z8 => k_is)
