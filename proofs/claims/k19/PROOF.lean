import PyProof.Rows.All
import Wide.All
import OpenK.AllK
import Wide.FinOn
import Lean
import PyProof.EqAt
import PyProof.EqKinds
import PyProof.TupleCall
import PyProof.NeKinds
import PyProof.Rows.FStr
import PyProof.Rows.Range3
import PyProof.StrLawsIn
import PyProof.WalksEnum
import PyProof.EnumMake
import PyProof.Rows.EnumRows
import PyProof.Rows.StrNews2
import PyProof.StrLawsFirst
import PyProof.StrLawsChain
import PyProof.StrLawsTight
import PyProof.StrBlockH
import KE.KEqDict
import PyProof.DictWalks
import PyProof.ListRange
import PyProof.ZipIter
import PyProof.Rows.SortRev
import PyProof.FactsAll.subtypes_5
import KE.KDictSum
import PyProof.Rows.SetFrom
import PyProof.AttrMiss
import PyProof.IsiH_list
import KE.KDictOf
import PyProof.FactsAll.NoneType_1
import PyProof.StrCalls
import PyProof.ReprRoads
import PyProof.CallFns
import PyProof.StrLawsRepr
import PyProof.ReprText
import PySem.Challenge.RW_kinwords_k19_standstills_are_closed
def AK:=@PySem.codeAny_mono
def AO:=@Option.isSome_map
def AQ:=@PySem.Calls.spliced_nil
def AR:=@Bool.eq_false_iff
def Cr:=@PySem.wpAny_execs_cons
def DC:=@Nat.min_eq_right
def DF:=@List.eq_nil_of_length_eq_zero
def DH:=@PySem.wpAny_ite_false
def Dr:=@decide_eq_decide
def F7:=@PySem.F.slot_dict_setdefault
def F8:=@PySem.PassesOwn.never
def F_:=@Nat.testBit_xor
def Ga:=@Nat.min_eq_left
def Gb:=@Nat.and_le_left
def Gf:=@List.of_mem_zip
def Gg:=@PySem.F.args_tuple_iterator_next_1
def Gs:=@PySem.F.entry_tuple_iterator_next
def HR:=@if_false
def Ir:=@PySem.Calls.Name_function_global
def Je:=@PySem.F.slot_dict_getitem
def Jf:=@List.mem_of_find?_eq_some
def Ji:=@PySem.wpAny_onRaise
def K0:=@Option.isSome_iff_exists
def K3:=@List.map_take
def K4:=@List.idxOf_lt_length_iff
def L6:=@not_or
def LD:=@PyProof.Rows.subscriptTail_builtinR
def LK:=@PySem.seqIndex_neg
def Li:=@decide_eq_false_iff_not
def Lj:=@PySem.F.plainAttrs_list
def Lk:=@PySem.F.plainAttrs_dict
def Ll:=@PySem.F.args_dict_get_3
def Lm:=@List.getElem?_cons_zero
def M3:=@PySem.W.methodCall_KW
def M4:=@PyProof.Rows.boot_all
def M7:=@List.filterMap_append
def MB:=@PySem.W.cellsFrom_some
def MC:=@PySem.F.entry_dict_get
def ME:=@Nat.sub_zero
def MF:=@Nat.div_div_eq_div_mul
def MH:=@List.map_nil
def MI:=@List.getElem?_set_self
def MJ:=@List.drop_eq_nil_of_le
def MP:=@PySem.Heap.get?_update_other
def Mu:=@PySem.call_meetsIn
def Mz:=@PySem.Txt.slice_le
def N3:=@Sum.inr.inj
def N6:=@PySem.Obj.data_mapDictKeys
def N7:=@Nat.mul_add
def N9:=@List.mem_of_mem_drop
def NA:=@PySem.seqIndex_of
def N_:=@List.length_take_le'
def Nc:=@PySem.wpAny_updateSeq_pair
def Nd:=@PySem.wpAny_newFunctionEnv
def Nf:=@PySem.wpAny_loadName_local
def Nx:=@PySem.sizeLine_eq
def O6:=@PySem.findBy_of_findIdx?
def O8:=@decide_eq_true_iff
def O9:=@PyProof.Rows.Subscript_
def OB:=@List.flatten_append
def OC:=@List.flatMap_append
def OE:=@Int.toNat_of_nonneg
def OH:=@Array.toList_append
def OI:=@PySem.wpAny_pyIter_tuple
def OJ:=@PySem.wpAny_Name
def OL:=@PySem.typeIs_str
def O_:=@PySem.SeqAt.EqAt.str_int
def Oa:=@List.getElem?_set_ne
def Ob:=@List.getElem?_range'
def Of:=@PySem.wpAny_loadName_cell
def Oy:=@PySem.W.callWith_K0
def Oz:=@Nat.mul_le_mul_left
def Pa:=@PySem.SeqAt.EqAt.int_str
def Pb:=@PySem.PyData.shown_tuple
def Pc:=@PySem.Obj.data_mapFields
def Pd:=@Nat.mod_lt
def Pe:=@List.zip_nil_right
def Pf:=@List.getElem_idxOf
def Pg:=@List.filterMap_map
def Ph:=@Bool.false_eq_true
def Pi:=@PySem.wpAny_pyIter_list
def Pj:=@PySem.wpAny_assign_Name
def Pk:=@PySem.wpAny_Call_method
def Pl:=@PySem.slot_list_getitem
def Pm:=@PyProof.Rows.assignInOrder_nil
def Pn:=@PySem.W.kitx_list
def Po:=@PySem.W.kitx_dict
def Pp:=@Nat.le_succ_of_le
def Pq:=@List.idxOf_append
def Pr:=@List.ext_getElem?
def Pt:=@PySem.F.args_zip_next_1
def aC:=@PySem.Heap.get?_push_of_some
def aD:=@if_neg
def aE:=@List.mem_cons
def aG:=@decide_eq_true
def aH:=@PySem.wpAny_pure
def aI:=@if_pos
def aK:=@List.mem_cons_of_mem
def aL:=@List.mem_append_right
def aM:=@List.mem_append_left
def aN:=@List.getElem?_eq_getElem
def aO:=@List.getElem?_eq_some_iff
def aP:=@PySem.Heap.lt_size
def aR:=@List.length_cons
def aX:=@PySem.Paired.length
def aY:=@List.mem_cons_self
def a_:=@List.size_toArray
def af:=@PySem.wpAny_bind
def ag:=@List.mem_singleton
def ah:=@List.length_append
def ai:=@List.not_mem_nil
def ak:=@List.mem_of_getElem?
def ao:=@List.length_map
def aq:=@decide_eq_false
def ar:=@Nat.le_refl
def au:=@Nat.le_trans
def aw:=@List.mem_append
def ax:=@Nat.lt_of_lt_of_le
def ay:=@Nat.zero_le
def bD:=@List.cons.injEq
def bF:=@PyProof.Rows.boot_list
def bG:=@Ne.symm
def bI:=@Nat.ne_of_lt
def bJ:=@PySem.Str.length_append
def bK:=@List.take_add_one
def bO:=@List.mem_map
def bP:=@List.cons_append
def bQ:=@List.map_cons
def b_:=@List.getElem?_append_left
def ba:=@PySem.Heap.get?_push_size
def bb:=@List.getElem?_map
def bg:=@Bool.and_eq_true
def bp:=@List.take_length
def bq:=@Bool.false_ne_true
def bu:=@Nat.le_succ
def bx:=@List.map_append
def bz:=@Nat.lt_of_le_of_lt
def cA:=@List.append_assoc
def cB:=@Int.toNat_natCast
def cF:=@or_false
def cG:=@PyProof.Rows.boot_repr
def cJ:=@List.length_nil
def cK:=@of_decide_eq_true
def cM:=@decide_eq_true_eq
def cR:=@PySem.wpAny_mono
def cT:=@List.getElem?_append_right
def cU:=@Int.emod_nonneg
def cY:=@Nat.le_add_right
def cZ:=@List.take_of_length_le
def c_:=@List.lookup_cons
def cf:=@List.length_take
def cj:=@Option.map_eq_some_iff
def cq:=@Int.emod_lt_of_pos
def cv:=@PyProof.Rows.boot_str
def cy:=@beq_eq_false_iff_ne
def d6:=@Option.some.inj
def dC:=@PySem.wpAny_field
def dR:=@PySem.wpAny_truthy_bool
def dU:=@PySem.wpAny_newObj_type
def dW:=@Nat.lt_succ_of_lt
def dX:=@List.append_cancel_left_eq
def df:=@PyProof.Rows.locs
def dg:=@PySem.mem_of_lookup
def dm:=@List.mem_range
def dy:=@List.nil_append
def eF:=@PySem.Heap.size_push
def eK:=@PyProof.Rows.boot_tuple
def eL:=@Nat.testBit_two_pow_mul
def eV:=@Nat.lt_or_ge
def eX:=@Nat.succ_le_succ
def eY:=@List.length_drop
def eZ:=@List.all_eq_true
def ej:=@List.mem_nil_iff
def eo:=@PySem.wpAny_holding
def fA:=@Nat.testBit_and
def fB:=@List.nodup_cons
def fC:=@List.mem_of_mem_take
def fE:=@PySem.wpAny_standAt
def fF:=@List.all_cons
def fN:=@PySem.wpAny_callSpecial?_slot
def fQ:=@List.getElem_mem
def fX:=@Nat.le_of_lt
def fZ:=@PySem.wpAny_passesOwn
def f_:=@true_and
def fc:=@List.mem_filterMap
def fe:=@List.getD_eq_getElem?_getD
def fk:=@List.length_replicate
def gG:=@PySem.wpAny_seqItems
def gI:=@Nat.eq_of_testBit_eq
def gJ:=@PySem.F.slot_tuple_iterator_next
def gh:=@List.sum_append
def gi:=@List.foldl_cons
def gr:=@PyProof.Rows.callWith_type1
def gu:=@List.foldl_append
def hU:=@List.filterMap_cons
def hZ:=@Nat.lt_irrefl
def h_:=@List.any_cons
def iA:=@Option.map_some
def iB:=@List.forIn_cons
def iC:=@List.find?_cons
def iD:=@PySem.wpAny_setField_rec
def iE:=@PySem.wpAny_Call_Name_kw
def iG:=@PySem.tupleKind_room_in1
def iJ:=@PySem.Calls.spliced_cons
def iP:=@Nat.exists_eq_add_of_le
def j5:=@Nat.pow_pos
def j9:=@PyProof.Rows.boot_isinstance
def j_:=@Bool.eq_iff_iff
def ja:=@Nat.ne_of_gt
def jb:=@List.length_range
def jc:=@PySem.Calls.callWith_builtin
def js:=@PyProof.Rows.slot_tuple_getitem
def jw:=@List.take_append_drop
def jx:=@List.getElem?_eq_none
def jy:=@PySem.wpAny_rule
def jz:=@PySem.wpAny_call_entry
def kT:=@if_true
def k_:=@Nat.pow_succ
def kg:=@List.mem_map_of_mem
def kh:=@Array.length_toList
def lR:=@beq_iff_eq
def lS:=@PySem.Str.cps_append
def lW:=@Nat.mod_two_eq_zero_or_one
def lX:=@List.take_zero
def lY:=@List.filter_append
def lg:=@List.idxOf_lt_length_of_mem
def mS:=@List.findIdx?_eq_none_iff
def mT:=@PySem.wpAny_of_eq
def mX:=@Option.some.injEq
def mY:=@List.nodup_append
def mZ:=@PySem.wpAny_comprehension_free
def oe:=@Nat.mul_assoc
def oh:=@List.sum_cons
def pe:=@Nat.lt_succ_self
def ph:=@List.mem_flatMap
def pj:=@List.getElem?_replicate
def qQ:=@List.range_succ
def qR:=@List.mem_filter
def qS:=@List.append_nil
def qT:=@PySem.F.slot_zip_next
def qU:=@Bool.or_eq_true
def qh:=@Nat.testBit_lt_two_pow
def qi:=@Nat.not_lt
def qj:=@Nat.le_total
def qk:=@List.map_map
def qp:=@PySem.wpAny_execs_nil
def tO:=@PySem.F.slot_dict_get
def tP:=@PySem.Heap.get?_update_self
def tS:=@PySem.wpAny_newTuple
def ua:=@PySem.boot_len
def ub:=@Nat.testBit_or
def uc:=@Nat.pow_le_pow_right
def ud:=@List.drop_zero
def ue:=@PySem.Calls.evalArgs_plain
def uf:=@Bool.false_and
def ug:=@Bool.and_false
def xA:=@Nat.add_assoc
def xC:=@Bool.or_false
def xp:=@PySem.W.plainGet_of
def xt:=@Nat.testBit_two_pow
def xw:=@PySem.Heap.SameBut.update
def zo:=@PyProof.Rows.assignInOrder_cons
def zu:=@PySem.W.callWith_K
def zw:=@Nat.eq_zero_or_pos
def zx:=@List.zip_cons_cons
open PySem.W (instObj Frag lookIn plainGet findIn isFn makesIn emptyDict keepIn kitOne kia_one fnOf codeIn nsIn mg_of mg_none_of)
set_option compiler.extract_closed false
set_option bootstrap.genMatcherCode false
set_option genSizeOf false
set_option Elab.async false
set_option linter.all false
set_option maxRecDepth 100000
namespace L2
open PySem PySem.Spec PyProof.Rows
abbrev Key:=Sum Int Str
noncomputable def sS:Key->Value->Bool
 | .inl k,v=>Value.isInt k v
 | .inr x,v=>Value.isStrOf x v
noncomputable def NW(w:World):Key->Int
 | .inl k=>hashInt k
 | .inr x=>hashStr w x
theorem keyIs_shape:∀{k:Key} {v:Value},sS k v=true->(∃i t,k=Sum.inl i/\v=Value.int i t)\/(∃x t,k=Sum.inr x/\v=Value.str x t)
 | .inl i,v,h=>by
   obtain⟨t,e⟩:=Value.isInt_shape (k:=i) (v:=v) h;exact .inl ⟨i,t,rfl,e⟩
 | .inr x,v,h=>by
   obtain⟨t,e⟩:=Value.isStrOf_shape (x:=x) (v:=v) h;exact .inr ⟨x,t,rfl,e⟩
def Dg(i:Int)(t:Tok):sS (.inl i) (.int i t)=true:=by simp[sS,Value.isInt]
def o_(x:Str)(t:Tok):sS (.inr x) (.str x t)=true:=by simp[sS,Value.isStrOf]
def Ku(a b:Int):decide ((Sum.inl a:Key)=Sum.inl b)=(a==b):=by
 by_cases e:a=b
 · subst e;simp
 · have h:¬ (Sum.inl a:Key)=Sum.inl b:=fun q=>e (Sum.inl.inj q);rw[aq h];exact(cy.mpr e).symm
def Kq(a b:Str):decide ((Sum.inr a:Key)=Sum.inr b)=decide (a=b):=by
 by_cases e:a=b
 · subst e;simp
 · have h:¬ (Sum.inr a:Key)=Sum.inr b:=fun q=>e (N3 q);rw[aq h,aq e]
def Kt(a:Int)(b:Str):decide ((Sum.inl a:Key)=Sum.inr b)=false:=aq (fun q=>nomatch q)
def Kr(a:Str)(b:Int):decide ((Sum.inr a:Key)=Sum.inl b)=false:=aq (fun q=>nomatch q)
noncomputable def cN(prog:Program)(w:World):PySem.KeyKind prog w Key where
 is:=sS
 hash:=NW w
 inj:=fun v a b ha hb=>by
  rcases keyIs_shape ha with⟨i,t,rfl,rfl⟩ | ⟨x,t,rfl,rfl⟩
  · rcases keyIs_shape hb with⟨j,u,rfl,e⟩ | ⟨y,u,rfl,e⟩
    · injection e with e1 _;rw[e1]
    · exact nomatch e
  · rcases keyIs_shape hb with⟨j,u,rfl,e⟩ | ⟨y,u,rfl,e⟩
    · exact nomatch e
    · injection e with e1 _;rw[e1]
 byValue:=fun k v h=>by
  rcases keyIs_shape h with⟨i,t,rfl,rfl⟩ | ⟨x,t,rfl,rfl⟩<;>rfl
 pyHash:=fun hv h=>by
  rcases keyIs_shape hv with⟨i,t,rfl,rfl⟩ | ⟨x,t,rfl,rfl⟩
  · exact wpAny_pyHash_int h
  · exact wpAny_pyHash_str h
 eqBool:=fun hu hv h=>by
  rcases keyIs_shape hu with⟨i,t,rfl,rfl⟩ | ⟨x,t,rfl,rfl⟩
  · rcases keyIs_shape hv with⟨j,u,rfl,rfl⟩ | ⟨y,u,rfl,rfl⟩
    · rw[Ku] at h;exact wpAny_eqBool_int h
    · rw[Kt] at h;exact Pa i t y u _ _ _ _ h
  · rcases keyIs_shape hv with⟨j,u,rfl,rfl⟩ | ⟨y,u,rfl,rfl⟩
    · rw[Kr] at h;exact O_ x t j u _ _ _ _ h
    · rw[Kq] at h;exact wpAny_eqBool_str h
 «strs»:=fun k x t v h=>by
  rcases keyIs_shape h with⟨i,u,rfl,e⟩ | ⟨y,u,rfl,e⟩
  · exact nomatch e
  · injection e with e1 _
    subst e1;cases v<;>rfl
def Av(prog:Program)(w:World)(k:Key)(v:Value):(cN prog w).is k v=sS k v:=rfl
def yR(prog:Program)(w:World)(i:Int)(t:Tok):(cN prog w).is (.inl i) (.int i t)=true:=Dg i t
def yQ(prog:Program)(w:World)(x:Str)(t:Tok):(cN prog w).is (.inr x) (.str x t)=true:=o_ x t
inductive V where
 | non | bl (b:Bool) | int (i:Int) | str (x:Str) | byt (b:Array UInt8) | flt (b:UInt64) | ref (a:Addr) | ty (n:String)
 deriving DecidableEq
def RelV:V->Value->Prop
 | .non,u=>u=Value.none
 | .bl b,u=>u=Value.bool b
 | .int i,u=>∃t,u=Value.int i t
 | .str x,u=>∃t,u=Value.str x t
 | .byt b,u=>∃t,u=Value.bytes b t
 | .flt b,u=>∃t,u=Value.float b t
 | .ref a,u=>u=Value.ref a
 | .ty n,u=>u=Value.type n
abbrev Vals:List V->List Value->Prop:=Paired RelV
def Vals.length(r:Vals xs us):xs.length=us.length:=aX r
theorem Vals.get:∀{xs:List V} {us:List Value} {i:Nat} {x:V},Vals xs us->xs[i]? =some x->∃u,us[i]? =some u/\RelV x u
 | _,_,_,_,.nil,e=>by simp at e
 | _,_,0,_,.cons r _,e=>by simp at e;subst e;exact⟨_,rfl,r⟩
 | _,_,i+1,x,.cons _ t,e=>by
   obtain⟨u,h1,h2⟩:=Vals.get (i:=i) (x:=x) t (by simpa using e);exact⟨u,by simpa using h1,h2⟩
theorem Vals.set(r:RelV x u):∀{xs:List V} {us:List Value} (i:Nat),Vals xs us->Vals (xs.set i x) (us.set i u)
 | _,_,_,.nil=> .nil
 | _,_,0,.cons _ t=> .cons r t
 | _,_,i+1,.cons q t=> .cons q (Vals.set r i t)
theorem Vals.append:∀{xs ys:List V} {us ws:List Value},Vals xs us->Vals ys ws->Vals (xs++ys) (us++ws)
 | _,_,_,_,.nil,s=>s
 | _,_,_,_,.cons r t,s=> .cons r (Vals.append t s)
theorem Vals.take:∀{xs:List V} {us:List Value} (n:Nat),Vals xs us->Vals (xs.take n) (us.take n)
 | _,_,0,_=> .nil
 | _,_,_+1,.nil=> .nil
 | _,_,n+1,.cons r t=> .cons r (Vals.take n t)
theorem Vals.drop:∀{xs:List V} {us:List Value} (n:Nat),Vals xs us->Vals (xs.drop n) (us.drop n)
 | _,_,0,r=>r
 | _,_,_+1,.nil=> .nil
 | _,_,n+1,.cons _ t=>Vals.drop n t
def RelO:Option V->Option Value->Prop
 | some v,some u=>RelV v u
 | none,none=>True
 | _,_=>False
def KV{κ:Type}:List (κ × V)->List (κ × Value)->Prop:=Paired fun p q=>p.1=q.1/\RelV p.2 q.2
noncomputable def kV:Key->V
 | .inl i=> .int i
 | .inr x=> .str x
inductive HO where
 /-- a list -/
 | lst (xs:List V)
 /-- a tuple (never changes) -/
 | tup (xs:List V)
 /-- a dict whose keys are ints and texts; one whose keys are tuples of ints and texts (the empty one is both) -/
 | dK (kvs:List (Key × V)) | dT (kvs:List (List Key × V))
 /-- a set of ints: its members, its size -/
 | set (S:Int->Bool) (n:Nat)
 /-- an instance of the class at C, its dict at dx, its attributes -/
 | ins (C dx:Addr) (fs:List (Str × V))
 /-- the dict of the instance at x -/
 | own (x:Addr)
 /-- the dict of an exception -/
 | xd (fs:List (Str × V))
 /-- a bound method, f of x -/
 | met (f x:Addr)
 /-- a range object lo, lo + 1, .. below hi -/
 | rng (lo hi:Int)
 /-- a thing that is known to the object (the script; a dict while a loop walks it): read, never written while it is so -/
 | frz (o:Obj) (u:HO)
 /-- a code object's table -/
 | tbl (ps:Array Value)
 /-- any other thing, by what is true of its one object (a def of one's own: SetO a S n := HO.ext fun h => ..) -/
 | ext (φ:Heap->Prop)
abbrev Hp:=Addr->Option HO
noncomputable def upd(H:Hp)(a:Addr)(o:HO):Hp:=fun b=>if b=a then some o else H b
def aa:upd H a o a=some o:=by unfold upd;rw[aI rfl]
def aB(h:b≠a):upd H a o b=H b:=by unfold upd;rw[aD h]
def qr:upd (upd H a o) a u=upd H a u:=by
 funext b;unfold upd;split<;>rfl
def IR{H:Hp}(h:H a=some o)(h':H b=some u)(d:o≠u):a≠b:=by
 intro e;subst e;rw[h] at h';exact d (d6 h')
def br{H:Hp}(h:H a=some o)(h':H b=none):a≠b:=by
 intro e;subst e;rw[h] at h';cases h'
section
variable (P:Program)(w:World)
def ObjOk(H:Hp)(h:Heap)(a:Addr):HO->Prop
 | .lst xs=>xs.length<=sizeLine/\∃(its:List Value) (n:Nat),Vals xs its/\h.get? a=some {cls:= .type "list",data:= .seq its.toArray n}
 | .tup xs=>xs.length<=sizeLine/\∃its:List Value,Vals xs its/\IsTup h a its.toArray
 | .dK kvs=>kvs.length<=sizeLine/\(a==sysModules)=false/\∃vs,KV kvs vs/\h.DictOf (cN P w) a vs
 | .dT kvs=>kvs.length<=sizeLine/\(a==sysModules)=false/\∃xs:List (List Key × Addr × Value),Paired (fun(p:List Key × V) (q:List Key × Addr × Value)=>p.1=q.1/\H q.2.1=some (.tup (p.1.map kV))/\RelV p.2 q.2.2) kvs xs/\∃o es ep,h.get? a=some o/\o.ExactDict/\o.data= .dict es ep/\es.toList=xs.map (entryOfKey (tupleKind (cN P w)))/\(xs.map (·.1)).Nodup
 | .set S n=>h.SetOf (intKind P w) a S n
 | .ins C dx fs=>H dx=some (.own a)/\fs.length<=1000/\dx≠a/\h.get? a=some (instObj C dx)/\∃mA,h.Ns1 dx mA/\(∀f,RelO (fs.lookup f) (mA f))/\PySem.Within mA (fs.map (·.1))
 | .own _=>∃o,h.get? a=some o
 | .xd fs=>∃mA,h.Ns1 a mA/\∀f,RelO (fs.lookup f) (mA f)
 | .rng lo hi=>∃t u v,h.get? a=some {cls:= .type "range",data:= .fields #[.int lo t,.int hi u,.int 1 v]}
 | .frz o u=>h.get? a=some o/\ObjOk H h a u
 | .tbl ps=>h.get? a=some {cls:= .none,data:= .fields ps}
 | .met f x=>h.get? a=some (PySem.W.methodObj (.ref f) (.ref x))
 | .ext φ=>φ h/\(∃o,h.get? a=some o)/\∀h1 h2:Heap,φ h1->(∀o,h1.get? a=some o->h2.get? a=some o)->φ h2
def HOk(H:Hp)(h:Heap):Prop:=∀a o,H a=some o->ObjOk P w H h a o
end
section
def ObjOk.lt(x:ObjOk P w H h a o):a<h.objs.size:=by
 cases o with
 | lst xs=>obtain⟨_,_,_,_,e⟩:=x;exact aP e
 | tup xs=>obtain⟨_,_,_,p⟩:=x;exact p.lt
 | dK kvs=>obtain⟨_,_,_,_,o,_,_,e,_⟩:=x;exact aP e
 | dT kvs=>obtain⟨_,_,_,_,o,_,_,e,_⟩:=x;exact aP e
 | set S n=>obtain⟨o,_,_,_,e,_⟩:=x;exact aP e
 | ins C dx fs=>obtain⟨_,_,_,e,_⟩:=x;exact aP e
 | own y=>obtain⟨_,e⟩:=x;exact aP e
 | xd fs=>obtain⟨_,⟨_,_,_,e,_⟩,_⟩:=x;exact aP e
 | rng lo hi=>obtain⟨_,_,_,e⟩:=x;exact aP e
 | frz ob u=>obtain⟨e,_⟩:=x;exact aP e
 | tbl ps=>exact aP (show h.get? a=some _ from x)
 | met f y=>exact aP (show h.get? a=some _ from x)
 | ext φ=>obtain⟨_,⟨_,e⟩,_⟩:=x;exact aP e
theorem Paired.mapP:∀{l₁:List α} {l₂:List β},Paired F l₁ l₂->(∀a b,F a b->G a b)->Paired G l₁ l₂
 | _,_,.nil,_=> .nil
 | _,_,.cons r t,f=> .cons (f _ _ r) (Paired.mapP t f)
def Paired.imp'{α β:Type}{F G:α->β->Prop}(f:∀a b,F a b->G a b){l₁:List α}{l₂:List β}(r:Paired F l₁ l₂):Paired G l₁ l₂:=Paired.mapP r f
def ObjOk.stay(x:ObjOk P w H h a o)(k:∀b u,(b=a\/H b=some (.own a))->h.get? b=some u->h'.get? b=some u)(ho:∀b,H b=some (.own a)->H' b=some (.own a))(ht:∀b xs,H b=some (.tup xs)->H' b=some (.tup xs)):ObjOk P w H' h' a o:=by
 induction o with
 | lst xs=>obtain⟨z,its,n,r,e⟩:=x;exact⟨z,its,n,r,k _ _ (.inl rfl) e⟩
 | tup xs=>obtain⟨z,its,r,ob,e,c⟩:=x;exact⟨z,its,r,ob,k _ _ (.inl rfl) e,c⟩
 | dK kvs=>obtain⟨z,y,vs,r,ob,es,ep,e,c⟩:=x;exact⟨z,y,vs,r,ob,es,ep,k _ _ (.inl rfl) e,c⟩
 | dT kvs=>
   obtain⟨z,y,xs,r,ob,es,ep,e,c⟩:=x;exact⟨z,y,xs,Paired.mapP r fun p q z=>⟨z.1,ht _ _ z.2.1,z.2.2⟩,ob,es,ep,k _ _ (.inl rfl) e,c⟩
 | set S n=>obtain⟨ob,es,ep,t,e,c⟩:=x;exact⟨ob,es,ep,t,k _ _ (.inl rfl) e,c⟩
 | ins C dx fs=>
   obtain⟨d,z,ne,e,mA,⟨od,es,ep,e2,c⟩,r⟩:=x;exact⟨ho _ d,z,ne,k _ _ (.inl rfl) e,mA,⟨od,es,ep,k _ _ (.inr d) e2,c⟩,r⟩
 | own y=>obtain⟨ob,e⟩:=x;exact⟨ob,k _ _ (.inl rfl) e⟩
 | xd fs=>obtain⟨mA,⟨od,es,ep,e,c⟩,r⟩:=x;exact⟨mA,⟨od,es,ep,k _ _ (.inl rfl) e,c⟩,r⟩
 | rng lo hi=>obtain⟨t,u,v,e⟩:=x;exact⟨t,u,v,k _ _ (.inl rfl) e⟩
 | frz ob u ih=>obtain⟨e,q⟩:=x;exact⟨k _ _ (.inl rfl) e,ih q⟩
 | tbl ps=>
   have e:h.get? a=some {cls:= .none,data:= .fields ps}:=x;show h'.get? a=some {cls:= .none,data:= .fields ps};exact k a _ (.inl rfl) e
 | met f y=>
   have e:h.get? a=some (PySem.W.methodObj (.ref f) (.ref y)):=x;show h'.get? a=some (PySem.W.methodObj (.ref f) (.ref y));exact k a _ (.inl rfl) e
 | ext φ=>obtain⟨p,⟨o,e⟩,st⟩:=x;exact⟨st _ _ p fun o q=>k _ _ (.inl rfl) q,⟨o,k _ _ (.inl rfl) e⟩,st⟩
def HOk.lt(x:HOk P w H h)(e:H a=some o):a<h.objs.size:=(x a o e).lt
def HOk.fresh{a:Addr}(x:HOk P w H h)(e:h.objs.size<=a):H a=none:=by
 cases q:H a with
 | none=>rfl
 | some u=>exact absurd (ax (x.lt q) e) (hZ _)
def HOk.kept(x:HOk P w H h)(k:∀b u,h.get? b=some u->h'.get? b=some u):HOk P w H h':=fun a o e=>
 (x a o e).stay (fun b u _ q=>k b u q) (fun _ q=>q) fun _ _ q=>q
def HOk.laid{a:Addr}(x:HOk P w H h)(k:∀b u,h.get? b=some u->h'.get? b=some u)(hp:h.objs.size<=a)(new:ObjOk P w (upd H a o) h' a o):HOk P w (upd H a o) h':=fun b u e=>by
 have hn:=x.fresh hp;by_cases hb:b=a
 · subst hb;rw[aa] at e;cases e;exact new
 · rw[aB hb] at e;exact(x b u e).stay (fun c v _ q=>k c v q) (fun c q=>by rw[aB (br q hn)];exact q) fun c xs q=>by rw[aB (br q hn)];exact q
end
def Rd(H:Hp)(a:Addr)(u:HO):Prop:=H a=some u\/∃o,H a=some (.frz o u)
def Rd.ok(r:Rd H a u)(x:HOk P w H h):ObjOk P w H h a u:=by
 rcases r with r | ⟨o,r⟩
 · exact x a u r
 · obtain⟨_,q⟩:=x a _ r;exact q
def MG:Option HO->Prop
 | some (.lst _)=>True
 | some (.dK _)=>True
 | some (.dT _)=>True
 | some (.set _ _)=>True
 | some (.ins _ _ _)=>True
 | some (.ext _)=>True
 | _=>False
section
def HOk.write(ok:HOk P w H h)(mu:MG (H x))(he:e=x\/H e=some (.own x))(k:∀b u,b≠e->h.get? b=some u->h'.get? b=some u)(heo:∃u,h'.get? e=some u)(new:ObjOk P w (upd H x o') h' x o'):HOk P w (upd H x o') h':=fun b u q=>by
 have nown:∀c y,H c=some (.own y)->c≠x:=fun c y r z=>by subst z;rw[r] at mu;exact mu
 have ntup:∀c xs,H c=some (.tup xs)->c≠x:=fun c xs r z=>by subst z;rw[r] at mu;exact mu
 by_cases hb:b=x
 · subst hb;rw[aa] at q;cases q;exact new
 · rw[aB hb] at q;by_cases hbe:b=e
   · have q':H b=some (.own x):=by
      rcases he with z | z
      · exact absurd (hbe.trans z) hb
      · rw[hbe];exact z
     rw[q] at q';cases q';obtain⟨v,hv⟩:=heo;exact⟨v,by rw[hbe];exact hv⟩
   · refine(ok b u q).stay (fun c v hc r=>k c v ?_ r) (fun c r=>by rw[aB (nown c b r)];exact r) fun c xs r=>by rw[aB (ntup c xs r)];exact r
     rcases hc with rfl | hc
     · exact hbe
     · rintro rfl;rcases he with z | z
       · exact nown c b hc z
       · rw[hc] at z;cases z;exact hb rfl
end
structure Un(fs ex:List Addr)(H H':Hp)(h h':Heap):Prop where
 keep:∀b o,h.get? b=some o->H b=none->b∉fs->b∉ex->h'.get? b=some o
 slot:∀b o,h.get? b=some o->H b=none->b∈fs->b∉ex->∃sl,h'.get? b=some {o with slots:=sl}
 free:∀b o,h.get? b=some o->H b=none->b∉ex->H' b=none
 there:∀b o,h.get? b=some o->b∉ex->∃o',h'.get? b=some o'
 tups:∀b xs,H b=some (.tup xs)->H' b=some (.tup xs)
 frzs:∀b o u,H b=some (.frz o u)->H' b=some (.frz o u)
 tbls:∀b ps,H b=some (.tbl ps)->∃more,H' b=some (.tbl (ps++more))
section
def Un.any{fs ex:List Addr}{H H1:Hp}{h h1:Heap}(u:Un fs ex H H1 h h1){b:Addr}{ob:Obj}(q:h.get? b=some ob)(n:H b=none)(hx:b∉ex):∃sl,h1.get? b=some {ob with slots:=sl}:=by
 by_cases hb:b∈fs
 · exact u.slot b ob q n hb hx
 · exact⟨ob.slots,u.keep b ob q n hb hx⟩
def Un.kept(k:∀b u,h.get? b=some u->h'.get? b=some u):Un fs ex H H h h':=⟨fun b ob q _ _ _=>k b ob q,fun b ob q _ _ _=>⟨ob.slots,k b ob q⟩,fun _ _ _ n _=>n,fun b ob q _=>⟨ob,k b ob q⟩,fun _ _ q=>q,fun _ _ _ q=>q,fun _ ps q=>⟨#[],by rw[q];simp⟩⟩
def Un.refl:Un fs ex H H h h:=Un.kept fun _ _ q=>q
def Un.laid{h:Heap}{a:Addr}(k:∀b u,h.get? b=some u->h'.get? b=some u)(hp:h.objs.size<=a)(hn:H a=none):Un fs ex H (upd H a o) h h' where
 keep:=fun b u q _ _ _=>k b u q
 slot:=fun b u q _ _ _=>⟨u.slots,k b u q⟩
 free:=fun b u q n _=>by rw[aB (bI (ax (aP q) hp))];exact n
 there:=fun b u q _=>⟨u,k b u q⟩
 tups:=fun b xs q=>by rw[aB (br q hn)];exact q
 frzs:=fun b u xs q=>by rw[aB (br q hn)];exact q
 tbls:=fun b ps q=>⟨#[],by rw[aB (br q hn),q];simp⟩
def Un.write(mu:MG (H x))(he:e=x\/H e=some (.own x))(k:∀b u,b≠e->h.get? b=some u->h'.get? b=some u)(heo:∃u,h'.get? e=some u):Un fs ex H (upd H x o) h h':=by
 have hx:∀b,H b=none->b≠x:=fun b n z=>by subst z;rw[n] at mu;exact mu
 have hb:∀b,H b=none->b≠e:=fun b n z=>by
  subst z;rcases he with r | r
  · exact hx b n r
  · rw[n] at r;cases r
 have hm:∀b u,H b=some u->¬ MG (some u)->b≠x:=fun b u q nm z=>by subst z;rw[q] at mu;exact nm mu
 refine⟨fun b u q n _ _=>k b u (hb b n) q,fun b u q n _ _=>⟨u.slots,k b u (hb b n) q⟩,fun b u q n _=>by rw[aB (hx b n)];exact n,fun b u q _=> ?_,fun b xs q=>by rw[aB (hm b _ q fun z=>z)];exact q,fun b u xs q=>by rw[aB (hm b _ q fun z=>z)];exact q,fun b ps q=>⟨#[],by rw[aB (hm b _ q fun z=>z),q];simp⟩⟩;by_cases hbe:b=e
 · subst hbe;exact heo
 · exact⟨u,k b u hbe q⟩
end
noncomputable def MR(h:Heap)(H:Hp):List Addr:=(List.range h.objs.size).filter fun a=>(H a).isSome
noncomputable def wZ(h:Heap)(H:Hp):Heap:=PySem.W.hideAll h (MR h H)
def Dk(h:Heap)(H:Hp):(wZ h H).objs.size=h.objs.size:=PySem.W.hideAll_size _ _
def FD(e:h.get? b=some o)(n:H b=none):(wZ h H).get? b=some o:=PySem.W.hideAll_get _ e fun hm=>by
  have q:(H b).isSome=true:=(qR.mp hm).2;rw[n] at q;simp at q
def Hx(e:(wZ h H).get? b=some o):h.get? b=some o/\H b=none:=by
 have e':h.get? b=some o:=PySem.W.of_hideAll (MR h H) e;refine⟨e',?_⟩;cases q:H b with
 | none=>rfl
 | some x=>
   have hm:b∈MR h H:=qR.mpr ⟨dm.mpr (aP e'),by simp[q]⟩;have z:(wZ h H).get? b=none:=PySem.W.hideAll_none (MR h H) hm;rw[z] at e;cases e
noncomputable def Ik(g h:Heap)(L:Addr):List (Addr × Obj):=(List.range h.objs.size).filterMap fun a=>if a=L\/(g.get? a).isSome=true then none else(h.get? a).map fun o=>(a,o)
noncomputable def rest(g h:Heap)(L d:Addr):List (Addr × Obj):=(Ik g h L).filter fun p=>decide (p.1≠d)
structure Mod(K:Frag)(mg:Str->Option Value)(base:Heap):Prop where
 kin:K.In base
 glob:base.Ns mainGlobals mg
 blt:∃mb,base.Ns builtinsNs mb/\∀x:Str,x≠"__name__"->mb x=bootBuiltins x
 nolimit:base.NoLimit
/-- the context: a def's body (or a comprehension's block) running. base: fixed through the whole law; s₀, H₀: the entry; outer: the frames whose slots others may change (a def's callers); stack: all frames that run; ex:iterators that were made ahead of the entry and are walked here (a comprehension's);fn:the names whose cells were made at the entry (a def:all;a comprehension's block:its own);calm:not within an except suite;pn:pins that every state bears;xe:what is wanted of an exception that leaves the code -/
structure Cx where
 prog:Program
 w:World
 K:Frag
 mg:Str->Option Value
 base:Heap
 A:Around
 N:List Str
 s₀:Shared
 H₀:Hp
 env:Env
 outer:List Env
 stack:List Env
 ex:List Addr
 fn:Str->Bool
 calm:Bool
 pn:List (Addr × Obj)
 xe:Value->Shared->Prop
noncomputable def FI(l:List Env):List Addr:=l.filterMap (·.frame)
noncomputable abbrev Cx.fs(X:Cx):List Addr:=FI X.outer
def MX(sc:Scope)(x:Str):Prop:=sc.names.lookup x=some .local\/sc.names.lookup x=some .cell\/sc.names.lookup x=some .free
def K2(sc:Scope)(x:Str):Prop:=sc.names.lookup x=some .local\/sc.names.lookup x=some .cell
def N8(env:Env)(h:Heap)(m:Str->Option Value)(x:Str)(u:Value):Prop:=(env.kindOf x=some .local/\m x=some u)\/((env.kindOf x=some .cell\/env.kindOf x=some .free)/\∃c,env.cells.lookup x=some c/\h.IsCell c (some u))
structure Cx.Ok(X:Cx):Prop where
 mod:Mod X.K X.mg X.base
 kind:X.env.scope.kind= .function
 glob:X.env.globals=mainGlobals
 blt:X.env.builtins=builtinsNs
 above:X.s₀.heap.objs.size<=X.env.locals
 inj:∀x y c,X.env.cells.lookup x=some c->X.env.cells.lookup y=some c->x=y
 has:∀x,(X.env.kindOf x=some .cell\/X.env.kindOf x=some .free)->∃c,X.env.cells.lookup x=some c
 cab:∀x c,X.fn x=true->X.env.cells.lookup x=some c->X.s₀.heap.objs.size<=c
 hd:X.calm=true->X.A.handled=none
 frames:X.A.frames=some X.stack
 stk:X.stack=X.outer\/(X.stack=X.env::X.outer/\X.env.frame=some X.env.locals)
 exf:∀b∈X.ex,b≠X.env.locals/\∀x c,X.env.cells.lookup x=some c->c≠b
 bs:∀b o,X.base.get? b=some o->X.s₀.heap.get? b=some o/\X.H₀ b=none
 bsz:X.base.objs.size<=X.s₀.heap.objs.size
 noex:∀b o,X.base.get? b=some o->b∉X.ex
 exfs:∀b∈X.ex,b∉X.fs
 funs:X.s₀.heap.FunFrames X.base X.outer
 frf:∀b∈X.fs,X.H₀ b=none
structure Inv(X:Cx)(pins:List (Addr × Obj))(σ:List (Option V))(H:Hp)(s:Shared):Prop where
 ok:X.Ok
 os:s.os=X.s₀.os
 bare:AllBare s.gens
 base:Un X.fs X.ex X.H₀ H X.s₀.heap s.heap
 loc:∃m,s.heap.Ns X.env.locals m/\∀(i:Nat) (x:Str) (v:V),X.N[i]? =some x->σ[i]? =some (some v)->MX X.env.scope x->∃u,RelV v u/\N8 X.env s.heap m x u
 cell:∀x c,X.env.cells.lookup x=some c->∃v,s.heap.IsCell c v
 free:H X.env.locals=none
 freeC:∀x c,X.env.cells.lookup x=some c->H c=none
 pin:∀p∈X.pn++pins,s.heap.get? p.1=some p.2/\H p.1=none/\p.1≠X.env.locals/\p.1∉X.fs/\∀v,p.2.data≠ .cell v
 hok:HOk X.prog X.w H s.heap
 len:σ.length=X.N.length
section
def Cx.Ok.nofr{X:Cx}(ok:X.Ok){b:Addr}{o:Obj}(e:X.base.get? b=some o):b∉X.fs:=fun hb=>by
 have:=(ok.funs.mem hb).1;rw[e] at this;cases this
def Inv.bs(I:Inv X pins σ H s):∀b o,X.base.get? b=some o->s.heap.get? b=some o/\H b=none:=fun b o e=>
 ⟨I.base.keep b o (I.ok.bs b o e).1 (I.ok.bs b o e).2 (I.ok.nofr e) (I.ok.noex b o e),I.base.free b o (I.ok.bs b o e).1 (I.ok.bs b o e).2 (I.ok.noex b o e)⟩
def Inv.bk(I:Inv X pins σ H s):∀b o,X.base.get? b=some o->s.heap.get? b=some o:=fun b o e=>(I.bs b o e).1
def Inv.mod(I:Inv X pins σ H s):Mod X.K X.mg X.base:=I.ok.mod
def Inv.kIn(I:Inv X pins σ H s):X.K.In s.heap:=I.ok.mod.kin.keeps I.bk
def Inv.lt(I:Inv X pins σ H s):X.env.locals<s.heap.objs.size:=let⟨_,hn,_⟩:=I.loc;hn.lt
def Inv.sz(I:Inv X pins σ H s):X.s₀.heap.objs.size<=s.heap.objs.size:=au I.ok.above (fX I.lt)
def Inv.nofs{X:Cx}{pins:List (Addr × Obj)}{σ:List (Option V)}{H:Hp}{s:Shared}(I:Inv X pins σ H s){a:Addr}(h:s.heap.objs.size<=a):a∉X.fs:=fun hb=>by
 obtain⟨_,o,ho,_⟩:=I.ok.funs.mem hb;exact absurd (ax (aP ho) (au I.sz h)) (hZ _)
def Inv.cne(I:Inv X pins σ H s):∀x c,X.env.cells.lookup x=some c->c≠X.env.locals:=fun x c e z=>by
 obtain⟨v,o,ho,hd⟩:=I.cell x c e;obtain⟨m,⟨o',es,ep,ho',hd',_⟩,_⟩:=I.loc;rw[z,ho'] at ho;cases ho;rw[hd'] at hd;cases hd
def Inv.funs(I:Inv X pins σ H s):s.heap.FunFrames X.base X.outer:=by
 have all:∀(l:List Env),(∀b∈FI l,b∈X.fs)->X.s₀.heap.FunFrames X.base l->s.heap.FunFrames X.base l:=by
  intro l
  induction l with
  | nil=>intro _ _;trivial
  | cons env r ih=>
    intro hs hl;obtain⟨hk,⟨L,o,hf,hn,ho,hd⟩,hr⟩:=hl;have hL:L∈X.fs:=hs L (by unfold FI;rw[hU,hf];exact aY);obtain⟨sl,e⟩:=I.base.slot L o ho (I.ok.frf L hL) hL fun z=>I.ok.exfs L z hL;exact⟨hk,⟨L,_,hf,hn,e,hd⟩,ih (fun b hb=>hs b (by unfold FI;rw[hU,hf];exact aK _ hb)) hr⟩
 exact all X.outer (fun _ hb=>hb) I.ok.funs
def Inv.stack(I:Inv X pins σ H s):s.heap.FunFrames X.base X.stack:=by
 rcases I.ok.stk with e | ⟨e,hf⟩
 · rw[e];exact I.funs
 · rw[e];obtain⟨m,hn,_⟩:=I.loc;refine .cons (by rw[I.ok.kind];decide) hf hn ?_ I.funs;exact Heap.get?_none_of_le (au I.ok.bsz I.ok.above)
def Inv.stkSub(I:Inv X pins σ H s):∀b∈FI X.stack,b∈X.env.locals::X.fs:=fun b hb=>by
 rcases I.ok.stk with e | ⟨e,hf⟩
 · rw[e] at hb;exact aK _ hb
 · rw[e] at hb;unfold FI at hb;rw[hU,hf] at hb;exact hb
def Inv.stkFree(I:Inv X pins σ H s):∀b∈FI X.stack,H b=none:=fun b hb=>by
 rcases aE.mp (I.stkSub b hb) with e | hb
 · rw[e];exact I.free
 · obtain⟨_,o,ho,_⟩:=I.ok.funs.mem hb;exact I.base.free b o ho (I.ok.frf b hb) fun z=>I.ok.exfs b z hb
def Inv.step{X:Cx}{pins:List (Addr × Obj)}{σ:List (Option V)}{H H':Hp}{s:Shared}{h':Heap}{g':Array GenState}{t':Nat}{d':Drawn}{ch:List Addr}(I:Inv X pins σ H s)(hch:∀b∈ch,(b∈X.ex\/X.s₀.heap.objs.size<=b)/\b≠X.env.locals/\(∀x c,X.env.cells.lookup x=some c->c≠b)/\∀p∈X.pn++pins,p.1≠b)(keep:∀b o,b≠X.env.locals->b∉X.fs->b∉ch->s.heap.get? b=some o->H b=none->h'.get? b=some o)(slot:∀b o,b≠X.env.locals->b∈X.fs->b∉ch->s.heap.get? b=some o->H b=none->∃sl,h'.get? b=some {o with slots:=sl})(free:∀b o,b∉ch->s.heap.get? b=some o->H b=none->H' b=none)(there:∀b o,b∉ch->s.heap.get? b=some o->∃o',h'.get? b=some o')(tups:∀b xs,H b=some (.tup xs)->H' b=some (.tup xs))(frzs:∀b o u,H b=some (.frz o u)->H' b=some (.frz o u))(tbls:∀b ps,H b=some (.tbl ps)->∃more,H' b=some (.tbl (ps++more)))(ns:∀m,s.heap.Ns X.env.locals m->h'.Ns X.env.locals m)(hok:HOk X.prog X.w H' h')(hg:AllBare g'):Inv X pins σ H' {s with heap:=h',gens:=g',drawn:=d',toks:=t'}:=by
 have neL:∀b o,X.s₀.heap.get? b=some o->b≠X.env.locals:=fun b o e=>bI (ax (aP e) I.ok.above);have neC:∀b o,X.s₀.heap.get? b=some o->b∉X.ex->b∉ch:=fun b o e hx hb=>by
  rcases(hch b hb).1 with z | z
  · exact hx z
  · exact absurd (ax (aP e) z) (hZ _)
 have cellK:∀x c,X.env.cells.lookup x=some c->∀v,s.heap.IsCell c v->h'.IsCell c v:=fun x c e v ⟨o,ho,hd⟩=>by
  have nch:c∉ch:=fun z=>(hch c z).2.2.1 x c e rfl;by_cases hc:c∈X.fs
  · obtain⟨sl,q⟩:=slot c o (I.cne x c e) hc nch ho (I.freeC x c e);exact⟨_,q,hd⟩
  · exact⟨o,keep c o (I.cne x c e) hc nch ho (I.freeC x c e),hd⟩
 refine⟨I.ok,I.os,hg,⟨fun b o e n hb hx=> ?_,fun b o e n hb hx=> ?_,fun b o e n hx=> ?_,fun b o e hx=> ?_,fun b xs e=>tups b xs (I.base.tups b xs e),fun b o xs e=>frzs b o xs (I.base.frzs b o xs e),fun b ps e=> ?_⟩,?_,fun x c e=> ?_,?_,fun x c e=> ?_,fun p hp=> ?_,hok,I.len⟩
 · exact keep b o (neL b o e) hb (neC b o e hx) (I.base.keep b o e n hb hx) (I.base.free b o e n hx)
 · obtain⟨sl,e1⟩:=I.base.slot b o e n hb hx;obtain⟨sl',e2⟩:=slot b _ (neL b o e) hb (neC b o e hx) e1 (I.base.free b o e n hx);exact⟨sl',e2⟩
 · obtain⟨o',e1⟩:=I.base.there b o e hx;exact free b o' (neC b o e hx) e1 (I.base.free b o e n hx)
 · obtain⟨o',e1⟩:=I.base.there b o e hx;exact there b o' (neC b o e hx) e1
 · obtain⟨m1,e1⟩:=I.base.tbls b ps e;obtain⟨m2,e2⟩:=tbls b _ e1;exact⟨m1++m2,by rw[e2,Array.append_assoc]⟩
 · obtain⟨m,hn,hl⟩:=I.loc;refine⟨m,ns m hn,fun i x v e1 e2 e3=> ?_⟩;obtain⟨u,r,l⟩:=hl i x v e1 e2 e3;refine⟨u,r,?_⟩;rcases l with l | ⟨k,c,e,z⟩
   · exact .inl l
   · exact .inr ⟨k,c,e,cellK x c e _ z⟩
 · obtain⟨v,z⟩:=I.cell x c e;exact⟨v,cellK x c e v z⟩
 · obtain⟨m,⟨o,_,_,ho,_⟩,_⟩:=I.loc;exact free _ o (fun z=>(hch _ z).2.1 rfl) ho I.free
 · obtain⟨v,o,ho,hd⟩:=I.cell x c e;exact free c o (fun z=>(hch c z).2.2.1 x c e rfl) ho (I.freeC x c e)
 · obtain⟨e,n,ne,nf,d⟩:=I.pin p hp;have nch:p.1∉ch:=fun z=>(hch p.1 z).2.2.2 p hp rfl;exact⟨keep p.1 p.2 ne nf nch e n,free p.1 p.2 nch e n,ne,nf,d⟩
def Inv.un(I:Inv X pins σ H s)(u:Un X.fs [] H H' s.heap h')(hok:HOk X.prog X.w H' h'):Inv X pins σ H' {s with heap:=h',toks:=t'}:=by
 obtain⟨m,⟨o,es,ep,ho,r⟩,_⟩:=id I.loc;obtain⟨sl,hL⟩:=u.any ho I.free (by simp);exact I.step (g':=s.gens) (d':=s.drawn) (ch:=[]) (fun _ z=>nomatch z) (fun b o _ hb _ e n=>u.keep b o e n hb (by simp)) (fun b o _ hb _ e n=>u.slot b o e n hb (by simp)) (fun b o _ e n=>u.free b o e n (by simp)) (fun b o _ e=>u.there b o e (by simp)) u.tups u.frzs u.tbls (fun m' hm=>by
  obtain⟨o',es',ep',ho',r'⟩:=hm;rw[ho] at ho';cases ho';exact⟨_,es',ep',hL,r'⟩) hok I.bare
def Inv.call(I:Inv X pins σ H s)(u:Un (FI X.stack) ch H H' s.heap h')(hok:HOk X.prog X.w H' h')(hg:AllBare g')(hch:∀b∈ch,(b∈X.ex\/X.s₀.heap.objs.size<=b)/\b≠X.env.locals/\(∀x c,X.env.cells.lookup x=some c->c≠b)/\∀p∈X.pn++pins,p.1≠b):Inv X pins σ H' {s with heap:=h',gens:=g',drawn:=d',toks:=t'}:=by
 obtain⟨m,⟨o,es,ep,ho,r⟩,_⟩:=id I.loc;obtain⟨sl,hL⟩:=u.any ho I.free fun z=>(hch _ z).2.1 rfl;exact I.step (ch:=ch) hch (fun b o hL hb hc e n=>u.keep b o e n (fun z=>(aE.mp (I.stkSub b z)).elim hL hb) hc) (fun b o _ _ hc e n=>u.any e n hc) (fun b o hc e n=>u.free b o e n hc) (fun b o hc e=>u.there b o e hc) u.tups u.frzs u.tbls (fun m' hm=>by
  obtain⟨o',es',ep',ho',r'⟩:=hm;rw[ho] at ho';cases ho';exact⟨_,es',ep',hL,r'⟩) hok hg
def Inv.turned(I:Inv X pins σ H s)(k:∀b o,b≠it->s.heap.get? b=some o->h'.get? b=some o)(hn:H it=none)(hL:it≠X.env.locals)(h1:it∈X.ex\/X.s₀.heap.objs.size<=it)(h2:∀x c,X.env.cells.lookup x=some c->c≠it)(h3:∀p∈X.pn++pins,p.1≠it):Inv X pins σ H {s with heap:=h',toks:=t'}:=by
 have nit:∀b u,H b=some u->b≠it:=fun b u e z=>by rw[z,hn] at e;cases e
 refine I.step (g':=s.gens) (d':=s.drawn) (ch:=[it]) (fun b hb=> ?_) (fun b o _ _ hc e _=>k b o (fun z=>hc (by simp[z])) e) (fun b o _ _ hc e _=>⟨o.slots,k b o (fun z=>hc (by simp[z])) e⟩) (fun _ _ _ _ n=>n) (fun b o hc e=>⟨o,k b o (fun z=>hc (by simp[z])) e⟩) (fun _ _ e=>e) (fun _ _ _ e=>e) (fun b ps e=>⟨#[],by rw[e];simp⟩) (fun m hm=> ?_) (fun b u e=> ?_) I.bare
 · have e:b=it:=by simpa using hb
   subst e;exact⟨h1,hL,h2,h3⟩
 · obtain⟨o,es,ep,ho,r⟩:=hm;exact⟨o,es,ep,k _ o (bG hL) ho,r⟩
 · refine(I.hok b u e).stay (fun c v hc q=>k c v ?_ q) (fun _ q=>q) fun _ _ q=>q;rcases hc with z | z
   · rw[z];exact nit b u e
   · exact nit c _ z
def Inv.tok(I:Inv X pins σ H s)(t:Nat):Inv X pins σ H {s with toks:=t}:=I.un (h':=s.heap) (t':=t) Un.refl I.hok
def Inv.kept(I:Inv X pins σ H s)(k:∀b u,s.heap.get? b=some u->h'.get? b=some u):Inv X pins σ H {s with heap:=h',toks:=t'}:=I.un (Un.kept k) (I.hok.kept k)
def Inv.laid{a:Addr}(I:Inv X pins σ H s)(k:∀b u,s.heap.get? b=some u->h'.get? b=some u)(hp:s.heap.objs.size<=a)(new:ObjOk X.prog X.w (upd H a o) h' a o):Inv X pins σ (upd H a o) {s with heap:=h',toks:=t'}:=I.un (Un.laid k hp (I.hok.fresh hp)) (I.hok.laid k hp new)
def Inv.write(I:Inv X pins σ H s)(mu:MG (H x))(he:e=x\/H e=some (.own x))(k:∀b u,b≠e->s.heap.get? b=some u->h'.get? b=some u)(heo:∃u,h'.get? e=some u)(new:ObjOk X.prog X.w (upd H x o) h' x o):Inv X pins σ (upd H x o) {s with heap:=h',toks:=t'}:=I.un (Un.write mu he k heo) (I.hok.write mu he k heo new)
def Inv.pins_of(I:Inv X pins σ H s)(h:∀p∈pins',s.heap.get? p.1=some p.2/\H p.1=none/\p.1≠X.env.locals/\p.1∉X.fs/\∀v,p.2.data≠ .cell v):Inv X pins' σ H s:=⟨I.ok,I.os,I.bare,I.base,I.loc,I.cell,I.free,I.freeC,fun p hp=>(aw.mp hp).elim (fun z=>I.pin p (aM _ z)) (h p),I.hok,I.len⟩
def yL{N:List Str}(hN:N.Nodup){i j:Nat}{x:Str}(a:N[i]? =some x)(b:N[j]? =some x):i=j:=by
 obtain⟨h1,e1⟩:=aO.mp a;obtain⟨h2,e2⟩:=aO.mp b;exact(List.getElem_inj hN).mp (e1.trans e2.symm)
def uo{X:Cx}{pins:List (Addr × Obj)}{σ:List (Option V)}{H:Hp}{s:Shared}{M:Model}{A:Around}{E:Value->Shared->Prop}{i:Nat}{x:Str}{v:V}{u:Value}{Q:Unit->Shared->Prop}(I:Inv X pins σ H s)(hN:X.N.Nodup)(hi:X.N[i]? =some x)(hx:K2 X.env.scope x)(r:RelV v u)(h:∀s',Inv X pins (σ.set i (some v)) H s'->(∃a,Heap.SameBut a s.heap s'.heap/\(a=X.env.locals\/X.env.cells.lookup x=some a))->Q () s')(hf:X.fn x=true\/X.env.scope.names.lookup x=some .local:=by first | exact .inl rfl | exact .inr rfl | assumption):wpAny M A (storeName X.env x u) Q E s:=by
 obtain⟨m,hn,hl⟩:=id I.loc;have hcls:(X.env.scope.kind== .class || (X.env.scope.kind== .module&&X.env.locals !=X.env.globals))=false:=by rw[I.ok.kind];rfl
 have hiσ:i<σ.length:=by rw[I.len];exact(aO.mp hi).1
 have cne:=I.cne;have tracked:∀{a:Addr} {h':Heap},(∃o,s.heap.get? a=some o/\H a=none)->Heap.SameBut a s.heap h'->HOk X.prog X.w H h':=fun {a h'} ha hs b ob e=>by
  obtain⟨_,_,hfree⟩:=ha;refine(I.hok b ob e).stay (fun c w' hc q=>(hs.2 c ?_).trans q) (fun _ q=>q) fun _ _ q=>q;rintro rfl;rcases hc with rfl | hc
  · rw[hfree] at e;cases e
  · rw[hfree] at hc;cases hc
 rcases hx with hk | hk
 · refine wpAny_storeName_local hk hn (fun h' hn' hs=> ?_) hcls;obtain⟨oL,_,_,hoL,_⟩:=id hn;refine h _ ⟨I.ok,I.os,I.bare,⟨fun b o e n hb hx=> ?_,fun b o e n hb hx=> ?_,I.base.free,fun b o e hx=> ?_,I.base.tups,I.base.frzs,I.base.tbls⟩,⟨_,hn',fun j y v' e1 e2 e3=> ?_⟩,fun y c e=> ?_,I.free,I.freeC,fun p hp=> ?_,tracked ⟨oL,hoL,I.free⟩ hs,by simpa using I.len⟩ ⟨_,hs,.inl rfl⟩
   · exact(hs.2 b (bI (ax (aP e) I.ok.above))).trans (I.base.keep b o e n hb hx)
   · obtain⟨sl,e1⟩:=I.base.slot b o e n hb hx;exact⟨sl,(hs.2 b (bI (ax (aP e) I.ok.above))).trans e1⟩
   · obtain⟨o',e1⟩:=I.base.there b o e hx;exact⟨o',(hs.2 b (bI (ax (aP e) I.ok.above))).trans e1⟩
   · by_cases hj:j=i
     · subst hj;rw[hi] at e1;cases e1;rw[MI hiσ] at e2;cases e2;exact⟨u,r,.inl ⟨hk,by simp⟩⟩
     · rw[Oa (bG hj)] at e2;obtain⟨u',r',q⟩:=hl j y v' e1 e2 e3;refine⟨u',r',?_⟩;rcases q with⟨k,e⟩ | ⟨k,c,e,z⟩
       · refine .inl ⟨k,?_⟩;have:y≠x:=fun e=>hj (yL hN e1 (e ▸ hi));simp[this,e]
       · exact .inr ⟨k,c,e,z.sameBut hs (cne y c e)⟩
   · obtain⟨w',z⟩:=I.cell y c e;exact⟨w',z.sameBut hs (cne y c e)⟩
   · obtain⟨e,n,ne,nf,d⟩:=I.pin p hp;exact⟨(hs.2 p.1 ne).trans e,n,ne,nf,d⟩
 · have hfn:X.fn x=true:=by
    rcases hf with z | z
    · exact z
    · rw[z] at hk;cases hk
   obtain⟨c,hc⟩:=I.ok.has x (.inl hk);obtain⟨w',z⟩:=I.cell x c hc;refine wpAny_storeName_cell I.ok.kind hk hc z (fun h' hc' hs=> ?_);obtain⟨oc,hoc,hocd⟩:=id z;refine h {s with heap:=h'} ⟨I.ok,I.os,I.bare,⟨fun b o e n hb hx=> ?_,fun b o e n hb hx=> ?_,I.base.free,fun b o e hx=> ?_,I.base.tups,I.base.frzs,I.base.tbls⟩,⟨m,hn.sameBut hs (bG (cne x c hc)),fun j y v' e1 e2 e3=> ?_⟩,fun y c' e=> ?_,I.free,I.freeC,fun p hp=> ?_,tracked ⟨oc,hoc,I.freeC x c hc⟩ hs,by simpa using I.len⟩ ⟨c,hs,.inr hc⟩
   · exact(hs.2 b (bI (ax (aP e) (I.ok.cab x c hfn hc)))).trans (I.base.keep b o e n hb hx)
   · obtain⟨sl,e1⟩:=I.base.slot b o e n hb hx;exact⟨sl,(hs.2 b (bI (ax (aP e) (I.ok.cab x c hfn hc)))).trans e1⟩
   · obtain⟨o',e1⟩:=I.base.there b o e hx;exact⟨o',(hs.2 b (bI (ax (aP e) (I.ok.cab x c hfn hc)))).trans e1⟩
   · by_cases hj:j=i
     · subst hj;rw[hi] at e1;cases e1;rw[MI hiσ] at e2;cases e2;exact⟨u,r,.inr ⟨.inl hk,c,hc,hc'⟩⟩
     · rw[Oa (bG hj)] at e2;obtain⟨u',r',q⟩:=hl j y v' e1 e2 e3;refine⟨u',r',?_⟩;rcases q with q | ⟨k,c',e,z'⟩
       · exact .inl q
       · refine .inr ⟨k,c',e,z'.sameBut hs ?_⟩;rintro rfl;exact hj (yL hN e1 (I.ok.inj _ _ _ e hc ▸ hi))
   · by_cases hcc:c'=c
     · subst hcc;exact⟨_,hc'⟩
     · obtain⟨w2,z2⟩:=I.cell y c' e;exact⟨w2,z2.sameBut hs hcc⟩
   · obtain⟨e,n,ne,nf,d⟩:=I.pin p hp;refine⟨(hs.2 p.1 ?_).trans e,n,ne,nf,d⟩;intro q;rw[q,hoc] at e;have q':oc=p.2:=d6 e;exact d w' (by rw[<-q'];exact hocd)
def ku{X:Cx}{pins:List (Addr × Obj)}{σ:List (Option V)}{H:Hp}{s:Shared}{M:Model}{A:Around}{E:Value->Shared->Prop}{i:Nat}{x:Str}{v:V}{u:Value}{Q:Unit->Shared->Prop}(I:Inv X pins σ H s)(hN:X.N.Nodup)(hi:X.N[i]? =some x)(hx:K2 X.env.scope x)(r:RelV v u)(h:∀s',Inv X pins (σ.set i (some v)) H s'->Q () s')(hf:X.fn x=true\/X.env.scope.names.lookup x=some .local:=by first | exact .inl rfl | exact .inr rfl | assumption):wpAny M A (storeName X.env x u) Q E s:=uo I hN hi hx r (fun s' I' _=>h s' I') hf
def Inv.call'(I:Inv X pins σ H s)(ho:s'.os=s.os)(u:Un (FI X.stack) ch H H' s.heap s'.heap)(hok:HOk X.prog X.w H' s'.heap)(hg:AllBare s'.gens)(hch:∀b∈ch,(b∈X.ex\/X.s₀.heap.objs.size<=b)/\b≠X.env.locals/\(∀x c,X.env.cells.lookup x=some c->c≠b)/\∀p∈X.pn++pins,p.1≠b):Inv X pins σ H' s':=by
 obtain⟨h',g',d',t',o'⟩:=s';have e:o'=s.os:=ho;subst e;exact I.call (g':=g') (t':=t') (d':=d') u hok hg hch
end
abbrev XK:=Value->Option Addr->Hp->Prop
abbrev St:=List (Option V)
abbrev VK:=V->Hp->Prop
abbrev TE:=St->Hp->VK->Prop
abbrev TT:=St->Hp->(Bool->Hp->Prop)->Prop
abbrev TA:=St->Hp->(List V->Hp->Prop)->Prop
structure qm where
 nx:St->Hp->Prop
 rt:VK
 bk:St->Hp->Prop:=fun _ _=>False
 ct:St->Hp->Prop:=fun _ _=>False
abbrev TS:=qm->St->Hp->Prop
def EP(X:Cx)(pins:List (Addr × Obj))(σ:St)(Q:VK)(u:Value)(s':Shared):Prop:=∃v H',Inv X pins σ H' s'/\RelV v u/\Q v H'
def TP(X:Cx)(pins:List (Addr × Obj))(σ:St)(Q:Bool->Hp->Prop)(b:Bool)(s':Shared):Prop:=∃H',Inv X pins σ H' s'/\Q b H'
def AP(X:Cx)(pins:List (Addr × Obj))(σ:St)(Q:List V->Hp->Prop)(us:List Value)(s':Shared):Prop:=∃vs H',Inv X pins σ H' s'/\Vals vs us/\Q vs H'
def SP(X:Cx)(pins:List (Addr × Obj))(D:qm)(f:Flow)(s':Shared):Prop:=match f with
 | .next=>∃σ' H',Inv X pins σ' H' s'/\D.nx σ' H'
 | .brk=>∃σ' H',Inv X pins σ' H' s'/\D.bk σ' H'
 | .cont=>∃σ' H',Inv X pins σ' H' s'/\D.ct σ' H'
 | .ret u=>∃v σ' H',Inv X pins σ' H' s'/\RelV v u/\D.rt v H'
def PE(X:Cx)(e:Expr)(t:TE):Prop:=∀(pins:List (Addr × Obj)) (s:Shared) (σ:St) (H:Hp) (Q:VK),Inv X pins σ H s->t σ H Q->wpAny (model X.prog X.w) X.A (eval e X.env) (EP X pins σ Q) X.xe s
def PT(X:Cx)(e:Expr)(t:TT):Prop:=∀(pins:List (Addr × Obj)) (s:Shared) (σ:St) (H:Hp) (Q:Bool->Hp->Prop),Inv X pins σ H s->t σ H Q->wpAny (model X.prog X.w) X.A (isTrue e X.env (eval e X.env)) (TP X pins σ Q) X.xe s
def PW(X:Cx)(e:Expr)(t:TT):Prop:=∀(whole:Sem Value) (pins:List (Addr × Obj)) (s:Shared) (σ:St) (H:Hp) (Q:Bool->Hp->Prop),Inv X pins σ H s->t σ H Q->wpAny (model X.prog X.w) X.A (isTrue e X.env whole) (TP X pins σ Q) X.xe s
def PW.pt(h:PW X e t):PT X e t:=h _
def PA(X:Cx)(es:List Expr)(t:TA):Prop:=∀(pos:Pos) (pins:List (Addr × Obj)) (s:Shared) (σ:St) (H:Hp) (Q:List V->Hp->Prop),Inv X pins σ H s->t σ H Q->wpAny (model X.prog X.w) X.A (spliced (backTo pos (starEach es X.env))) (AP X pins σ Q) X.xe s
def PS(X:Cx)(st:Stmt)(t:TS):Prop:=∀(pins:List (Addr × Obj)) (s:Shared) (σ:St) (H:Hp) (D:qm),Inv X pins σ H s->t D σ H->wpAny (model X.prog X.w) X.A (exec st X.env) (SP X pins D) X.xe s
def PSs(X:Cx)(st:List Stmt)(t:TS):Prop:=∀(pins:List (Addr × Obj)) (s:Shared) (σ:St) (H:Hp) (D:qm),Inv X pins σ H s->t D σ H->wpAny (model X.prog X.w) X.A (execs st X.env) (SP X pins D) X.xe s
def dD{t:Sem α}(h:wpAny M A t Q E s)(hQ:∀a s,Q a s->Q' a s):wpAny M A t Q' E s:=cR h hQ fun _ _ x=>x
section
def onV(σ:St)(i:Nat)(Q:V->Prop):Prop:=match σ[i]? with | some (some v)=>Q v | _=>False
def onB(x:V)(Q:Bool->Prop):Prop:=match x with | .bl c=>Q c | _=>False
def onI(x:V)(Q:Int->Prop):Prop:=match x with | .int c=>Q c | _=>False
def onR(x:V)(Q:Addr->Prop):Prop:=match x with | .ref c=>Q c | _=>False
def onT(b:Bool)(Q:Prop):Prop:=match b with | true=>Q | false=>False
def onV.ex(h:onV σ i Q):∃v,σ[i]? =some (some v)/\Q v:=by
 unfold onV at h
 split at h
 · exact⟨_,by assumption,h⟩
 · exact h.elim
def onB.ex(h:onB x Q):∃c,x= .bl c/\Q c:=by cases x<;>first | exact⟨_,rfl,h⟩ | exact False.elim h
def onI.ex(h:onI x Q):∃c,x= .int c/\Q c:=by cases x<;>first | exact⟨_,rfl,h⟩ | exact False.elim h
def onR.ex(h:onR x Q):∃c,x= .ref c/\Q c:=by cases x<;>first | exact⟨_,rfl,h⟩ | exact False.elim h
def onT.ex(h:onT b Q):b=true/\Q:=by cases b<;>first | exact⟨rfl,h⟩ | exact False.elim h
def ow(i:Nat):TE:=fun σ H Q=>onV σ i fun v=>Q v H
def tC(v:V):TE:=fun _ H Q=>Q v H
def JL{X:Cx}{i:Nat}{x:Str}{pos:Pos}(hN:X.N[i]? =some x)(hv:MX X.env.scope x)(hd:(x==("__debug__":Str))=false:=by decide)(hcd:(x==("__classdict__":Str))=false:=by decide):PE X (.Name x pos) (ow i):=by
 intro pins s σ H Q I h;obtain⟨v,e,h⟩:=onV.ex h;obtain⟨m,hn,hl⟩:=I.loc;obtain⟨u,r,l⟩:=hl i x v hN e hv;have fin:EP X pins σ Q u s:=⟨v,H,I,r,h⟩;rcases l with⟨hk,hm⟩ | ⟨hk,c,hc,hcell⟩
 · exact OJ (Nf I.ok.kind hk hn hm fin) hd
 · rcases hk with hk | hk
   · exact OJ (Of I.ok.kind hk hc hcell fin) hd
   · exact OJ (wpAny_loadName_free I.ok.kind hk hc hcell fin hcd) hd
def av:PE X (.Constant (.int i) j pos) (tC (.int i)):=fun _ _ _ H _ I h=>wpAny_Constant_int ⟨.int i,H,I.tok _,⟨_,rfl⟩,h⟩
def dq:PE X (.Constant (.bool b) j pos) (tC (.bl b)):=fun _ _ _ H _ I h=>Constant_bool ⟨.bl b,H,I,rfl,h⟩
def fL:PE X (.Constant .none j pos) (tC .non):=fun _ _ _ H _ I h=>Constant_none ⟨.non,H,I,rfl,h⟩
def aS:PE X (.Constant (.str x) j pos) (tC (.str x)):=fun _ _ _ H _ I h=>Calls.Constant_str ⟨.str x,H,I.tok _,⟨_,rfl⟩,h⟩
def Gl(X:Cx)(x:Str):Prop:=X.env.kindOf x=some .globalImplicit
def qL{X:Cx}{E:Value->Shared->Prop}{pins:List (Addr × Obj)}{s:Shared}{σ:St}{H:Hp}{x:Str}{u:Value}{pos:Pos}{Q:Value->Shared->Prop}(I:Inv X pins σ H s)(hg:Gl X x)(hm:X.mg x=some u)(h:Q u s)(hd:(x==("__debug__":Str))=false:=by decide):wpAny (model X.prog X.w) X.A (eval (.Name x pos) X.env) Q E s:=Ir I.ok.kind hg (Calls.loadGlobal_global (by rw[I.ok.glob];exact I.mod.glob.keeps I.bk) hm h) hd
def oX{X:Cx}{E:Value->Shared->Prop}{pins:List (Addr × Obj)}{s:Shared}{σ:St}{H:Hp}{x:Str}{u:Value}{pos:Pos}{Q:Value->Shared->Prop}(I:Inv X pins σ H s)(hg:Gl X x)(hm:X.mg x=none)(hv:bootBuiltins x=some u)(h:Q u s)(hn:x≠"__name__":=by decide)(hd:(x==("__debug__":Str))=false:=by decide):wpAny (model X.prog X.w) X.A (eval (.Name x pos) X.env) Q E s:=by
 obtain⟨mb,h1,h2⟩:=I.mod.blt;exact Ir I.ok.kind hg (Calls.loadGlobal_builtin (by rw[I.ok.glob];exact I.mod.glob.keeps I.bk) hm (by rw[I.ok.blt];exact h1.keeps I.bk) ((h2 x hn).trans hv) h) hd
def qH{X:Cx}{x:Str}{v:V}{u:Value}{pos:Pos}(hg:Gl X x)(hm:X.mg x=some u)(r:RelV v u)(hd:(x==("__debug__":Str))=false:=by decide):PE X (.Name x pos) (tC v):=fun _ _ _ H _ I h=>qL I hg hm ⟨v,H,I,r,h⟩ hd
def wA{X:Cx}{x:Str}{v:V}{u:Value}{pos:Pos}(hg:Gl X x)(hm:X.mg x=none)(hv:bootBuiltins x=some u)(r:RelV v u)(hn:x≠"__name__":=by decide)(hd:(x==("__debug__":Str))=false:=by decide):PE X (.Name x pos) (tC v):=fun _ _ _ H _ I h=>oX I hg hm hv ⟨v,H,I,r,h⟩ hn hd
def tB(t:TE):TT:=fun σ H Q=>t σ H fun x H1=>onB x fun c=>Q c H1
def cw{X:Cx}{e:Expr}{t:TE}(h:PE X e t)(he:∀whole,isTrue e X.env whole=(do let v<-whole;standAt e.pos;holding [v] (truthy v)):=by intro _;rfl):PT X e (tB t):=by
 intro pins s σ H Q I hw;refine isTrue_plain (dD (h pins s σ H _ I hw) fun v s1 ⟨x,H1,I1,r1,q1⟩=> ?_) (he _);obtain⟨d,rfl,q⟩:=onB.ex q1;cases r1;exact dR ⟨H1,I1,q⟩
def Nv(t u:TT):TT:=fun σ H Q=>t σ H fun c H1=>if c=true then u σ H1 Q else Q false H1
def OO(t u:TT):TT:=fun σ H Q=>t σ H fun c H1=>if c=true then Q true H1 else u σ H1 Q
def Nm(t:TT):TT:=fun σ H Q=>t σ H fun c H1=>Q (!c) H1
def fm(ha:PT X a tA):PW X (.BoolOp .And [a] pos) tA:=by
 intro wh pins s σ H Q I h;refine isTrue_and (dD (ha pins s σ H Q I h) fun c s1 e=> ?_);cases c with
 | true=>exact isTrue_and_nil e
 | false=>exact e
def jm(ha:PT X a tA):PW X (.BoolOp .Or [a] pos) tA:=by
 intro wh pins s σ H Q I h;refine isTrue_or (dD (ha pins s σ H Q I h) fun c s1 e=> ?_);cases c with
 | false=>exact isTrue_or_nil e
 | true=>exact e
def fq{rest:List Expr}(ha:PT X a tA)(hb:PW X (.BoolOp .And (b::rest) pos) tB'):PW X (.BoolOp .And (a::b::rest) pos) (Nv tA tB'):=by
 intro wh pins s σ H Q I h;refine isTrue_and (dD (ha pins s σ H _ I h) fun c s1 ⟨H1,I1,q1⟩=> ?_);cases c with
 | true=>exact hb wh pins s1 σ H1 Q I1 q1
 | false=>exact⟨H1,I1,q1⟩
def jf{rest:List Expr}(ha:PT X a tA)(hb:PW X (.BoolOp .Or (b::rest) pos) tB'):PW X (.BoolOp .Or (a::b::rest) pos) (OO tA tB'):=by
 intro wh pins s σ H Q I h;refine isTrue_or (dD (ha pins s σ H _ I h) fun c s1 ⟨H1,I1,q1⟩=> ?_);cases c with
 | true=>exact⟨H1,I1,q1⟩
 | false=>exact hb wh pins s1 σ H1 Q I1 q1
def dO(ha:PT X a tA):PT X (.UnaryOp .Not a pos) (Nm tA):=by
 intro pins s σ H Q I h;exact isTrue_not (ha pins s σ H (fun c H1=>Q (!c) H1) I h)
def LC(ta tb:TE):TE:=fun σ H Q=>ta σ H fun x H1=>onB x fun c=>if c=true then tb σ H1 Q else Q (.bl false) H1
def Nl(ta tb:TE):TE:=fun σ H Q=>ta σ H fun x H1=>onB x fun c=>if c=true then Q (.bl true) H1 else tb σ H1 Q
def Ly(ta:TE):TE:=fun σ H Q=>ta σ H fun x H1=>onB x fun c=>Q (.bl (!c)) H1
def iT(h:PE X a t):PE X (.BoolOp op [a] pos) t:=fun pins s σ H Q I hw=>BoolOp_one (h pins s σ H Q I hw)
def gA{rest:List Expr}(ha:PE X a ta)(hb:PE X (.BoolOp .And (b::rest) pos) tb):PE X (.BoolOp .And (a::b::rest) pos) (LC ta tb):=by
 intro pins s σ H Q I h;refine BoolOp_and (dD (ha pins s σ H _ I h) fun v s1 ⟨x,H1,I1,r1,q1⟩=> ?_);obtain⟨c,rfl,q1⟩:=onB.ex q1;cases r1;refine dR ?_;cases c with
 | true=>exact hb pins s1 σ H1 Q I1 q1
 | false=>exact⟨.bl false,H1,I1,rfl,q1⟩
def LX{rest:List Expr}(ha:PE X a ta)(hb:PE X (.BoolOp .Or (b::rest) pos) tb):PE X (.BoolOp .Or (a::b::rest) pos) (Nl ta tb):=by
 intro pins s σ H Q I h;refine BoolOp_or (dD (ha pins s σ H _ I h) fun v s1 ⟨x,H1,I1,r1,q1⟩=> ?_);obtain⟨c,rfl,q1⟩:=onB.ex q1;cases r1;refine dR ?_;cases c with
 | false=>exact hb pins s1 σ H1 Q I1 q1
 | true=>exact⟨.bl true,H1,I1,rfl,q1⟩
def JN(ha:PE X a ta):PE X (.UnaryOp .Not a pos) (Ly ta):=by
 intro pins s σ H Q I h;refine UnaryOp_ (dD (ha pins s σ H _ I h) fun v s1 ⟨x,H1,I1,r1,q1⟩=> ?_);obtain⟨c,rfl,q1⟩:=onB.ex q1;cases r1;exact not_of (dR ⟨.bl (!c),H1,I1,rfl,q1⟩)
def OP(t:TT)(ta tb:TE):TE:=fun σ H Q=>t σ H fun c H1=>if c=true then ta σ H1 Q else tb σ H1 Q
def Eu(hc:PT X c tA)(ha:PE X a ta)(hb:PE X b tb):PE X (.IfExp c a b pos) (OP tA ta tb):=by
 intro pins s σ H Q I h;refine wpAny_IfExp (dD (hc pins s σ H _ I h) fun d s1 ⟨H1,I1,q1⟩=> ?_);cases d with
 | true=>exact ha pins s1 σ H1 Q I1 q1
 | false=>exact hb pins s1 σ H1 Q I1 q1
end
def SqL(K:Frag)(H:Hp)(a:Addr)(xs:List V):Prop:=Rd H a (.lst xs)\/∃o its n,K.lookup a=some o/\o.cls= .type "list"/\o.dict=none/\o.data= .seq its n/\its.size<=sizeLine/\Vals xs its.toList
def SqT(K:Frag)(H:Hp)(a:Addr)(xs:List V):Prop:=Rd H a (.tup xs)\/∃o its n,K.lookup a=some o/\o.cls= .type "tuple"/\o.data= .seq its n/\its.size<=sizeLine/\Vals xs its.toList
noncomputable def N1:Value->Option V
 | .none=>some .non
 | .bool b=>some (.bl b)
 | .int i _=>some (.int i)
 | .str x _=>some (.str x)
 | .bytes b _=>some (.byt b)
 | .float b _=>some (.flt b)
 | .ref a=>some (.ref a)
 | .type n=>some (.ty n)
 | _=>none
def RelV.abs(r:RelV x u):N1 u=some x:=by
 cases x with
 | non=>cases r;rfl
 | bl _=>cases r;rfl
 | int _=>obtain⟨t,rfl⟩:=r;rfl
 | str _=>obtain⟨t,rfl⟩:=r;rfl
 | byt _=>obtain⟨t,rfl⟩:=r;rfl
 | flt _=>obtain⟨t,rfl⟩:=r;rfl
 | ref _=>cases r;rfl
 | ty _=>cases r;rfl
def RelV.inj(r:RelV x u)(q:RelV y u):x=y:=d6 (r.abs.symm.trans q.abs)
theorem Vals.inj:∀{xs ys:List V} {us:List Value},Vals xs us->Vals ys us->xs=ys
 | _,_,_,.nil,.nil=>rfl
 | _,_,_,.cons r t,.cons r' t'=>by rw[r.inj r',Vals.inj t t']
section
def SqL.of{K:Frag}(h:H a=some (.lst xs)):SqL K H a xs:= .inl (.inl h)
def SqT.of{K:Frag}(h:H a=some (.tup xs)):SqT K H a xs:= .inl (.inl h)
def Inv.list{σ:St}(I:Inv X pins σ H s)(h:SqL X.K H a xs):∃its:List Value,Vals xs its/\PlainL s.heap a its.toArray/\xs.length<=sizeLine:=by
 rcases h with h | ⟨o,its,n,hk,hc,hd,hs,hz,r⟩
 · obtain⟨z,its,n,r,e⟩:=h.ok I.hok;exact⟨its,r,⟨_,n,e,rfl,rfl,rfl⟩,z⟩
 · refine⟨its.toList,r,⟨o,n,I.kIn a o hk,hc,hd,by simpa using hs⟩,?_⟩;have e:=r.length;simp only[kh] at e
   lia
def Inv.tuple{σ:St}(I:Inv X pins σ H s)(h:SqT X.K H a xs):∃its:List Value,Vals xs its/\IsTup s.heap a its.toArray/\xs.length<=sizeLine:=by
 rcases h with h | ⟨o,its,n,hk,hc,hs,hz,r⟩
 · obtain⟨z,its,r,p⟩:=h.ok I.hok;exact⟨its,r,p,z⟩
 · refine⟨its.toList,r,⟨o,I.kIn a o hk,hc,n,by simpa using hs⟩,?_⟩;have e:=r.length;simp only[kh] at e
   lia
def Inv.list_inj{σ:St}(I:Inv X pins σ H s)(h:SqL X.K H a xs)(h':SqL X.K H a ys):xs=ys:=by
 obtain⟨its,r,⟨o,n,e,_,_,d⟩,_⟩:=I.list h;obtain⟨its',r',⟨o',n',e',_,_,d'⟩,_⟩:=I.list h';rw[e] at e';cases e';rw[d] at d'
 injection d' with d1 _
 have:its=its':=by simpa using congrArg Array.toList d1
 subst this;exact r.inj r'
def Inv.tuple_inj{σ:St}(I:Inv X pins σ H s)(h:SqT X.K H a xs)(h':SqT X.K H a ys):xs=ys:=by
 obtain⟨its,r,⟨o,e,_,n,d⟩,_⟩:=I.tuple h;obtain⟨its',r',⟨o',e',_,n',d'⟩,_⟩:=I.tuple h';rw[e] at e';cases e';rw[d] at d'
 injection d' with d1 _
 have:its=its':=by simpa using congrArg Array.toList d1
 subst this;exact r.inj r'
end
noncomputable abbrev Cx.wish(X:Cx)(E:Value->Shared->Prop):Cx:={X with xe:=E}
noncomputable abbrev Cx.nox(X:Cx):Cx:=X.wish fun _ _=>False
def Cx.Ok.wish{X:Cx}(ok:X.Ok)(E:Value->Shared->Prop):(X.wish E).Ok:=⟨ok.mod,ok.kind,ok.glob,ok.blt,ok.above,ok.inj,ok.has,ok.cab,ok.hd,ok.frames,ok.stk,ok.exf,ok.bs,ok.bsz,ok.noex,ok.exfs,ok.funs,ok.frf⟩
def Cx.Ok.unwish{X:Cx}(ok:(X.wish E).Ok):X.Ok:=⟨ok.mod,ok.kind,ok.glob,ok.blt,ok.above,ok.inj,ok.has,ok.cab,ok.hd,ok.frames,ok.stk,ok.exf,ok.bs,ok.bsz,ok.noex,ok.exfs,ok.funs,ok.frf⟩
section
def Inv.wish{σ:St}(I:Inv X pins σ H s)(E:Value->Shared->Prop):Inv (X.wish E) pins σ H s:=⟨I.ok.wish E,I.os,I.bare,I.base,I.loc,I.cell,I.free,I.freeC,I.pin,I.hok,I.len⟩
def Inv.unwish{σ:St}(I:Inv (X.wish E) pins σ H s):Inv X pins σ H s:=⟨I.ok.unwish,I.os,I.bare,I.base,I.loc,I.cell,I.free,I.freeC,I.pin,I.hok,I.len⟩
def SP.unwish(h:SP (X.wish E) pins D f s'):SP X pins D f s':=by
 cases f with
 | next=>obtain⟨σ',H',I,q⟩:=h;exact⟨σ',H',I.unwish,q⟩
 | brk=>obtain⟨σ',H',I,q⟩:=h;exact⟨σ',H',I.unwish,q⟩
 | cont=>obtain⟨σ',H',I,q⟩:=h;exact⟨σ',H',I.unwish,q⟩
 | ret u=>obtain⟨v,σ',H',I,r,q⟩:=h;exact⟨v,σ',H',I.unwish,r,q⟩
def PSs.nox{st:List Stmt}(h:PSs X.nox st t):PSs X st t:=fun pins s σ H D I hw=>
 cR (h pins s σ H D (I.wish _) hw) (fun _ _ q=>q.unwish) fun _ _ z=>False.elim z
end
section
def Lz:TS:=fun D σ H=>D.nx σ H
def zH(t u:TS):TS:=fun D σ H=>t {D with nx:=u D} σ H
def aQ:PSs X [] Lz:=fun _ _ σ H _ I h=>qp ⟨σ,H,I,h⟩
def fK{X:Cx}{st:Stmt}{rest:List Stmt}{t u:TS}(h1:PS X st t)(h2:PSs X rest u):PSs X (st::rest) (zH t u):=by
 intro pins s σ H D I h;refine Cr (dD (h1 pins s σ H {D with nx:=u D} I h) fun f s1 q=> ?_);cases f with
 | next=>
   obtain⟨σ',H',I',q⟩:=q;exact h2 pins s1 σ' H' D I' q
 | ret v=>exact q
 | brk=>exact q
 | cont=>exact q
def fY{X:Cx}{st:Stmt}{t:TS}(h1:PS X st t):PSs X [st] t:=by
 intro pins s σ H D I h;refine Cr (dD (h1 pins s σ H D I h) fun f s1 q=> ?_);cases f with
 | next=>exact qp q
 | ret v=>exact q
 | brk=>exact q
 | cont=>exact q
def Inv.quiet{σ:St}(I:Inv X pins σ H s):interactive X.env=false:=by simp[interactive,I.ok.kind]
def IC(te:TE):TS:=fun D σ H=>te σ H fun _ H1=>D.nx σ H1
def be{X:Cx}{e:Expr}{te:TE}{pos:Pos}(he:PE X e te)(hs:swapsWith e none pos.line X.env=pure false:=by rfl):PS X (.Expr e pos) (IC te):=by
 intro pins s σ H D I h;exact wpAny_Expr_any (dD (he pins s σ H _ I h) fun v s1 ⟨x,H1,I1,r1,q1⟩=>⟨σ,H1,I1,q1⟩) I.quiet hs
def Nj(te:TE):TS:=fun D σ H=>te σ H D.rt
def gO{X:Cx}{e:Expr}{te:TE}{pos:Pos}(he:PE X e te):PS X (.Return (some e) pos) (Nj te):=by
 intro pins s σ H D I h;exact wpAny_Return_some (dD (he pins s σ H _ I h) fun v s1 ⟨x,H1,I1,r1,q1⟩=>⟨x,σ,H1,I1,r1,q1⟩)
def Lw:TS:=fun D _ H=>D.rt .non H
def lE:PS X (.Return none pos) Lw:=fun _ _ σ H _ I h=>wpAny_Return_none ⟨.non,σ,H,I,rfl,h⟩
def Nr(c:TT)(t u:TS):TS:=fun D σ H=>c σ H fun b H1=>if b=true then t D σ H1 else u D σ H1
def bA(hc:PT X c tc)(ha:PSs X a t)(hb:PSs X b u):PS X (.If c a b pos) (Nr tc t u):=by
 intro pins s σ H D I h;refine wpAny_If (dD (hc pins s σ H _ I h) fun d s1 ⟨H1,I1,q1⟩=> ?_);cases d with
 | true=>exact ha pins s1 σ H1 D I1 q1
 | false=>exact hb pins s1 σ H1 D I1 q1
end
abbrev TG:=V->St->Hp->(St->Hp->Prop)->Prop
abbrev KZ:=List V->St->Hp->(St->Hp->Prop)->Prop
def PG(X:Cx)(target:Expr)(t:TG):Prop:=∀(pins:List (Addr × Obj)) (s:Shared) (σ:St) (H:Hp) (v:V) (u:Value) (Q:St->Hp->Prop),Inv X pins σ H s->RelV v u->t v σ H Q->wpAny (model X.prog X.w) X.A (assign target X.env u) (fun _ s'=>∃σ' H',Inv X pins σ' H' s'/\Q σ' H') X.xe s
def M5(X:Cx)(ts:List Expr)(t:KZ):Prop:=∀(pins:List (Addr × Obj)) (s:Shared) (σ:St) (H:Hp) (vs:List V) (us:List Value) (Q:St->Hp->Prop),Inv X pins σ H s->Vals vs us->t vs σ H Q->wpAny (model X.prog X.w) X.A (assignInOrder ((assignEach ts X.env).map (·.2)) us) (fun _ s'=>∃σ' H',Inv X pins σ' H' s'/\Q σ' H') X.xe s
abbrev KY:=V->V->V->Hp->(Hp->Prop)->Prop
def MD(X:Cx)(t:KY):Prop:=∀(pins:List (Addr × Obj)) (s:Shared) (σ:St) (H:Hp) (o i v:V) (ov iv u:Value) (Q:Hp->Prop),Inv X pins σ H s->RelV o ov->RelV i iv->RelV v u->t o i v H Q->wpAny (model X.prog X.w) X.A (setItem ov iv u) (fun _ s'=>∃H',Inv X pins σ H' s'/\Q H') X.xe s
abbrev MZ:=V->V->Hp->VK->Prop
def N4(X:Cx)(op:Operator)(t:MZ):Prop:=∀(pins:List (Addr × Obj)) (s:Shared) (σ:St) (H:Hp) (x y:V) (v u:Value) (Q:VK),Inv X pins σ H s->RelV x v->RelV y u->t x y H Q->wpAny (model X.prog X.w) X.A (inplaceOp op v u) (EP X pins σ Q) X.xe s
section
def ir(i:Nat):TG:=fun v σ H Q=>Q (σ.set i (some v)) H
def qG{X:Cx}{pos:Pos}{i:Nat}{x:Str}(hN:X.N.Nodup)(hi:X.N[i]? =some x)(hx:K2 X.env.scope x)(hf:X.fn x=true\/X.env.scope.names.lookup x=some .local:=by first | exact .inl rfl | exact .inr rfl | assumption):PG X (.Name x pos) (ir i):=by
 intro pins s σ H v u Q I r h;exact Pj (ku I hN hi hx r (fun s' I'=>⟨_,H,I',h⟩) hf)
def HV:KZ:=fun vs σ H Q=>match vs with | []=>Q σ H | _=>False
def pX(t:TG)(u:KZ):KZ:=fun vs σ H Q=>match vs with | v::r=>t v σ H (fun σ' H'=>u r σ' H' Q) | []=>False
def dA:M5 X [] HV:=by
 intro pins s σ H vs us Q I r h;cases r with
 | cons=>exact False.elim h
 | nil=>exact Pm ⟨σ,H,I,h⟩
def bw{X:Cx}{e:Expr}{es:List Expr}{t:TG}{u:KZ}(h1:PG X e t)(h2:M5 X es u)(hs:(assignEach (e::es) X.env).map (·.2)=assign e X.env::(assignEach es X.env).map (·.2):=by rfl):M5 X (e::es) (pX t u):=by
 intro pins s σ H vs us Q I r h;cases r with
 | nil=>exact False.elim h
 | cons r rr=>
   rw[hs];refine zo (dD (h1 pins s σ H _ _ _ I r h) fun _ s1 ⟨σ1,H1,I1,q1⟩=> ?_);exact h2 pins s1 σ1 H1 _ _ Q I1 rr q1
def Mn(K:Frag)(n:Nat)(t:KZ):TG:=fun v σ H Q=>onR v fun a=>∃xs,SqT K H a xs/\xs.length=n/\t xs σ H Q
def eJ{X:Cx}{pos:Pos}{es:List Expr}{k:Nat}{t:KZ}{n:Nat}(hc:X.calm=true)(h:M5 X es t)(hn:(assignEach es X.env).length=n:=by rfl)(hst:(assignEach es X.env).findIdx? (·.1)=none:=by rfl):PG X (.Tuple es k pos) (Mn X.K n t):=by
 intro pins s σ H v u Q I r hw;obtain⟨a,e1,xs,hq,hl,hw'⟩:=onR.ex hw;subst e1;cases r;obtain⟨its,rv,ht,hz⟩:=I.tuple hq;refine assign_Tuple_tuple (I.ok.hd hc) ht (by simp[hn,<-hl,rv.length]) hst fun h' hx=> ?_;have I1:Inv X pins σ H {s with heap:=h'}:=I.kept (t':=s.toks) fun b o e=>hx b o (bI (aP e)) e;exact h pins _ σ H xs _ Q I1 (by simpa using rv) hw'
def NY(to ti:TE)(t:KY):TG:=fun v σ H Q=>to σ H fun o H1=>ti σ H1 fun i H2=>t o i v H2 fun H3=>Q σ H3
def oP{X:Cx}{pos:Pos}{o i:Expr}{to ti:TE}{t:KY}(ho:PE X o to)(hi:PE X i ti)(hs:MD X t)(ha:∀v,assign (.Subscript o i pos) X.env v=(do
 let ov<-holding [v] (eval o X.env)
 let iv<-holding [v,ov] (eval i X.env)
 standAt pos
 holding [v,ov,iv] (setItem ov iv v)
 release [v,ov,iv] []):=by intro _;rfl):PG X (.Subscript o i pos) (NY to ti t):=by
 intro pins s σ H v u Q I r h;rw[ha];refine af (eo (dD (ho pins s σ H _ I h) fun ov s1 ⟨x,H1,I1,r1,q1⟩=> ?_));refine af (eo (dD (hi pins s1 σ H1 _ I1 q1) fun iv s2 ⟨y,H2,I2,r2,q2⟩=> ?_));refine af (fE (af (eo (dD (hs pins s2 σ H2 x y v ov iv u _ I2 r1 r2 r q2) fun _ s3 ⟨H3,I3,q3⟩=> ?_))));exact wpAny_release ⟨σ,H3,I3,q3⟩
def GI(te:TE)(g:TG):TS:=fun D σ H=>te σ H fun x H1=>g x σ H1 D.nx
def jo{X:Cx}{pos:Pos}{tg e:Expr}{te:TE}{g:TG}(he:PE X e te)(hg:PG X tg g)(hs:swapsWithSole [tg] e pos.line X.env=pure false:=by rfl)(hw:swappedStores [tg] e X.env=pure none:=by rfl)(h1:(assignEach [tg] X.env).map (·.2)=[assign tg X.env]:=by rfl):PS X (.Assign [tg] e pos) (GI te g):=by
 intro pins s σ H D I h;refine wpAny_Assign_stores (dD (he pins s σ H _ I h) fun v s1 ⟨x,H1,I1,r1,q1⟩=> ?_) hs hw;rw[h1];exact dD (hg pins s1 σ H1 x v _ I1 r1 q1) fun _ s2 q=>q
def El{X:Cx}{pos:Pos}{i:Nat}{x:Str}{e:Expr}{te:TE}{pos':Pos}(hN:X.N.Nodup)(hi:X.N[i]? =some x)(hx:K2 X.env.scope x)(he:PE X e te)(hs:swapsWith e (some (.Name x pos')) pos.line X.env=pure false:=by rfl)(hf:X.fn x=true\/X.env.scope.names.lookup x=some .local:=by first | exact .inl rfl | exact .inr rfl | assumption):PS X (.Assign [.Name x pos'] e pos) (GI te (ir i)):=by
 intro pins s σ H D I h;refine wpAny_Assign_Name (dD (he pins s σ H _ I h) fun v s1 ⟨y,H1,I1,r1,q1⟩=> ?_) hs;exact ku I1 hN hi hx r1 (fun s2 I2=>⟨_,H1,I2,q1⟩) hf
def Nk(i j:Nat)(ta:TA):TS:=fun D σ H=>ta σ H fun vs H1=>∃v w,vs=[v,w]/\D.nx ((σ.set i (some v)).set j (some w)) H1
def JI{X:Cx}{pos:Pos}{i j:Nat}{x y:Str}{a b:Expr}{ta:TA}{px py pt:Pos}{kt k2 pt2}(hc:X.calm=true)(hN:X.N.Nodup)(hi:X.N[i]? =some x)(hj:X.N[j]? =some y)(hij:i≠j)(hx:X.env.scope.names.lookup x=some .local)(hy:X.env.scope.names.lookup y=some .local)(ha:PA X [a,b] ta)(hw:swappedStores [.Tuple [.Name x px,.Name y py] kt pt] (.Tuple [a,b] k2 pt2) X.env=pure (some [x,y]))(hs:swapsWithSole [.Tuple [.Name x px,.Name y py] kt pt] (.Tuple [a,b] k2 pt2) pos.line X.env=pure false:=by rfl):PS X (.Assign [.Tuple [.Name x px,.Name y py] kt pt] (.Tuple [a,b] k2 pt2) pos) (Nk i j ta):=by
 intro pins s σ H D I h;rw[exec_Assign_arm];refine af (fE ?_);rw[hs];refine af (aH ?_);rw[aD (by decide)];refine af (Tuple_ (dD (ha _ pins s σ H _ I h) fun us s1 ⟨vs,H1,I1,r1,q1⟩=> ?_));obtain⟨v,w,e1,q1⟩:=q1;subst e1;obtain⟨u1,u2,rfl,rv,rw'⟩:∃u1 u2,us=[u1,u2]/\RelV v u1/\RelV w u2:=by
  cases r1 with
  | cons p q=>
    cases q with
    | cons p' q'=>
      cases q';exact⟨_,_,rfl,p,p'⟩
 refine dU ?_ (by show 2<=sizeLine;decide);have I2:Inv X pins σ H1 {s1 with heap:=s1.heap.push {cls:= .type "tuple",data:= .seq [u1,u2].toArray}}:=I1.kept (t':=s1.toks) fun b o e=>aC _ e;rw[hw];refine af (aH ?_);show wpAny (model X.prog X.w) X.A (do rule "assign.swapped-stores";let items<-unpackItems (.ref s1.heap.objs.size) 2 none;assignInOrder [fun v=>bindName X.env y v,fun v=>bindName X.env x v] items.reverse;pure Flow.next) _ _ _;refine af (jy (af (unpackItems_tuple (items:= #[u1,u2]) (I.ok.hd hc) (IsTup.new s1.heap _) fun h' hx'=> ?_)));have I3:=I2.kept (h':=h') (t':=s1.toks) fun b o e=>hx' b o (bI (aP e)) e;show wpAny _ _ (assignInOrder [fun v=>bindName X.env y v,fun v=>bindName X.env x v] [u2,u1]>>=fun _=>pure Flow.next) _ _ _;refine af (zo (wpAny_bindName (ku I3 hN hj (.inl hy) rw' (fun s2 I4=> ?_) (.inr hy))));refine zo (wpAny_bindName (ku I4 hN hi (.inl hx) rv (fun s3 I5=>Pm (aH ?_)) (.inr hx)));rw[List.set_comm _ _ (bG hij)] at I5;exact⟨_,H1,I5,q1⟩
def Nu(i:Nat)(te:TE)(ti:MZ):TS:=fun D σ H=>∃x,σ[i]? =some (some x)/\te σ H fun y H1=>ti x y H1 fun z H2=>D.nx (σ.set i (some z)) H2
def Em{X:Cx}{pos:Pos}{i:Nat}{x:Str}{e:Expr}{te:TE}{op:Operator}{ti:MZ}{pos':Pos}(hN:X.N.Nodup)(hi:X.N[i]? =some x)(hx:K2 X.env.scope x)(he:PE X e te)(ho:N4 X op ti)(hf:X.fn x=true\/X.env.scope.names.lookup x=some .local:=by first | exact .inl rfl | exact .inr rfl | assumption):PS X (.AugAssign (.Name x pos') op e pos) (Nu i te ti):=by
 intro pins s σ H D I h;obtain⟨v,e1,h⟩:=h;obtain⟨m,hn,hl⟩:=I.loc;have vis:MX X.env.scope x:=by rcases hx with k | k;exact .inl k;exact .inr (.inl k)
 obtain⟨u,r,l⟩:=hl i x v hi e1 vis;refine wpAny_AugAssign_Name ?_;have go:wpAny (model X.prog X.w) X.A (eval e X.env) (fun w s₂=>wpAny (model X.prog X.w) X.A (inplaceOp op u w) (fun r s₃=>wpAny (model X.prog X.w) X.A (storeName X.env x r) (fun _=>SP X pins D .next) X.xe s₃) X.xe s₂) X.xe s:=by
  refine dD (he pins s σ H _ I h) fun w s1 ⟨y,H1,I1,r1,q1⟩=> ?_;refine dD (ho pins s1 σ H1 v y u w _ I1 r r1 q1) fun z s2 ⟨zv,H2,I2,r2,q2⟩=> ?_;exact ku I2 hN hi hx r2 (fun s3 I3=>⟨_,H2,I3,q2⟩) hf
 rcases l with⟨hk,hm⟩ | ⟨hk,c,hc,hcell⟩
 · exact Nf I.ok.kind hk hn hm go
 · rcases hk with hk | hk
   · exact Of I.ok.kind hk hc hcell go
   · rcases hx with k | k
     · have:X.env.scope.names.lookup x=some .free:=hk;rw[k] at this;cases this
     · have:X.env.scope.names.lookup x=some .free:=hk;rw[k] at this;cases this
def Ox(f:Int->Int->Int):MZ:=fun x y H Q=>∃i j,x= .int i/\y= .int j/\Q (.int (f i j)) H
def Kz:N4 X .Add (Ox fun i j=>i+j):=by
 intro pins s σ H x y v u Q I r1 r2 h;obtain⟨i,j,e1,e2,q⟩:=h;subst e1;subst e2;obtain⟨t,rfl⟩:=r1;obtain⟨t',rfl⟩:=r2;exact iadd_int ⟨.int _,H,I.tok _,⟨_,rfl⟩,q⟩
end
section
def vE(c:TT)(tb:TS):TS:=fun D σ H=>∃W:Nat->St->Hp->Prop,(∃m,W m σ H)/\∀m σ H,W m σ H->c σ H fun b H1=>if b=true then ∃N:St->Hp->Prop,(∀σ' H',N σ' H'->∃m',m'<m/\W m' σ' H')/\tb {D with nx:=N,ct:=N,bk:=D.nx} σ H1 else D.nx σ H1
def yt(hp:PassesOwn (model X.prog X.w) X.A X.env X.xe)(hc:PT X c tc)(hb:PSs X body tb):PS X (.While c body [] pos) (vE tc tb):=by
 intro pins s σ H D I h;obtain⟨W,⟨m0,w0⟩,turn⟩:=h;refine wpAny_While (codeAny_whileLoop (fun n s'=>∃σ' H',Inv X pins σ' H' s'/\W n σ' H') ?_ m0 ⟨σ,H,I,w0⟩);rintro n s1 ⟨σ1,H1,I1,w1⟩;refine fZ hp (dD (hc pins s1 σ1 H1 _ I1 (turn n σ1 H1 w1)) fun b s2 ⟨H2,I2,q2⟩=> ?_);cases b with
 | true=>
   obtain⟨N,hN,q2⟩:=q2;rw[aI rfl];refine fZ hp (dD (hb pins s2 σ1 H2 _ I2 q2) fun f s3 q3=> ?_);cases f with
   | next=>
     obtain⟨σ3,H3,I3,n3⟩:=q3;obtain⟨m',hm,w3⟩:=hN σ3 H3 n3;exact⟨m',hm,σ3,H3,I3,w3⟩
   | cont=>
     obtain⟨σ3,H3,I3,n3⟩:=q3;obtain⟨m',hm,w3⟩:=hN σ3 H3 n3;exact⟨m',hm,σ3,H3,I3,w3⟩
   | brk=>exact q3
   | ret v=>exact q3
 | false=>
   rw[aD bq];exact qp ⟨σ1,H2,I2,q2⟩
end
structure It where
 go:Nat->Hp->Prop
 yld:Nat->Hp->V->Hp->Prop
 stop:Nat->Hp->Prop
def lZ(X:Cx)(pins:List (Addr × Obj))(H:Hp)(b:Addr):Prop:=H b=none/\b≠X.env.locals/\b∉X.fs/\(b∈X.ex\/X.s₀.heap.objs.size<=b)/\(∀x c,X.env.cells.lookup x=some c->c≠b)/\∀p∈X.pn++pins,p.1≠b
def Inv.fpOk{σ:St}{b:Addr}(I:Inv X pins σ H s)(hb:s.heap.objs.size<=b)(hn:H' b=none):lZ X pins H' b:=by
 refine⟨hn,ja (ax I.lt hb),I.nofs hb,.inr (au I.sz hb),fun x c e z=> ?_,fun p hp z=> ?_⟩
 · obtain⟨v,q⟩:=I.cell x c e;exact absurd (ax q.lt (by rw[z];exact hb)) (hZ _)
 · exact absurd (ax (aP (I.pin p hp).1) (by rw[z];exact hb)) (hZ _)
structure xm(P:Program)(w:World)(K:Frag)(tg:Expr)(J:It)(fp:List Addr)(it:Addr)(tn:Nat->Heap->Prop):Prop where
 mem:it∈fp
 obj:∀i h,tn i h->∀b∈fp,∃o,h.get? b=some o/\∀v,o.data≠ .cell v
 keep:∀i h h',tn i h->(∀b∈fp,∀o,h.get? b=some o->h'.get? b=some o)->tn i h'
 item:∀(X:Cx),X.prog=P->X.w=w->X.K=K->X.calm=true->∀(i:Nat) (pins:List (Addr × Obj)) (s:Shared) (σ:St) (H:Hp) (E:Value->Shared->Prop),Inv X pins σ H s->(∀b∈fp,lZ X pins H b)->tn i s.heap->J.go i H->wpAny (model P w) X.A (pyNext (.ref it)) (fun r s1=>∃u,r=some u/\wpAny (model P w) X.A (letOwnedTupleGo tg (.ref it) u) (fun _ s2=>∃x H',Inv X pins σ H' s2/\RelV x u/\J.yld i H x H'/\tn (i+1) s2.heap/\∀b∈fp,H' b=none) E s1) E s
 done:∀(X:Cx),X.prog=P->X.w=w->X.K=K->X.calm=true->∀(i:Nat) (pins:List (Addr × Obj)) (s:Shared) (σ:St) (H:Hp) (E:Value->Shared->Prop),Inv X pins σ H s->(∀b∈fp,lZ X pins H b)->tn i s.heap->J.stop i H->wpAny (model P w) X.A (pyNext (.ref it)) (fun r s1=>r=none/\Inv X pins σ H s1) E s
 self:∀(A:Around) (i:Nat) (s:Shared) (Q:Value->Shared->Prop) (E:Value->Shared->Prop),tn i s.heap->Q (.ref it) s->wpAny (model P w) A (pyIter (.ref it)) Q E s
abbrev TI:=St->Hp->(It->Hp->Prop)->Prop
def N5(X:Cx)(pins:List (Addr × Obj))(σ:St)(tg:Expr)(R:It->Hp->Prop)(itv:Value)(s2:Shared):Prop:=∃it fp tn J H',itv= .ref it/\Inv X pins σ H' s2/\xm X.prog X.w X.K tg J fp it tn/\tn 0 s2.heap/\(∀b∈fp,lZ X pins H' b)/\R J H'
def PI(X:Cx)(tg iter:Expr)(wi:TI):Prop:=∀(pins:List (Addr × Obj)) (s:Shared) (σ:St) (H:Hp) (R:It->Hp->Prop),Inv X pins σ H s->wi σ H R->wpAny (model X.prog X.w) X.A (eval iter X.env) (fun v s1=>wpAny (model X.prog X.w) X.A (pyIter v) (N5 X pins σ tg R) X.xe s1) X.xe s
def Ca(ho:s.heap.get? it=some o)(hc:o.cls= .type n)(hd:o.data= .fields vs)(hn:["enumerate","zip","dict_itemiterator","dict_reverseitemiterator","odict_iterator","itertools.zip_longest","itertools.pairwise"].contains n=false)(hQ:Q () s):wpAny M A (letOwnedTupleGo tg (.ref it) u) Q E s:=by
 unfold letOwnedTupleGo;cases tg<;>first
  | exact aH hQ
  | (cases u<;>first
   | exact aH hQ
   | (refine af (wpAny_load ho ?_)
      rw[hc,hd];show wpAny M A (if(["enumerate","zip","dict_itemiterator","dict_reverseitemiterator","odict_iterator","itertools.zip_longest","itertools.pairwise"].contains n&&vs[0]? ==some (rawInt _))=true then _ else _) Q E s;rw[aD (by intro h;rw[hn,uf] at h;cases h)];exact aH hQ))
noncomputable def K6(K:Frag)(a:Addr):It:=⟨fun i H=>∃xs x,SqL K H a xs/\xs[i]? =some x,fun i H x H'=>H'=H/\∀xs,SqL K H a xs->xs[i]? =some x,fun i H=>∃xs,SqL K H a xs/\xs.length<=i⟩
noncomputable def K5(lo:Int)(n:Nat):It:=⟨fun i _=>i<n,fun i H x H'=>H'=H/\x= .int (lo+i),fun i _=>n<=i⟩
def Cv{K:Frag}(a it:Addr):xm P w K tg (K6 K a) [it] it (fun i h=>h.IsListIter it a i) where
 mem:=by simp
 obj:=fun i h st b hb=>by
  have e:b=it:=by simpa using hb
  subst e;obtain⟨o,e,c,d⟩:=st;exact⟨o,e,fun v z=>by rw[d] at z;cases z⟩
 keep:=fun i h h' st k=>st.at fun o e=>k it (by simp) o e
 item:=by
  intro X hP hw hK hc i pins s σ H E I hf st hg;subst hP hw hK;obtain⟨xs,x,hq,hx⟩:=hg;obtain⟨its,rv,p,hz⟩:=I.list hq;obtain⟨u,hu,ru⟩:=rv.get hx;obtain⟨f0,f1,f2,f3,f4,f5⟩:=hf it (by simp);refine wpAny_pyNext_list_item st p.isList (x:=u) (by simpa using hu) fun h' st' sb=> ?_;have I1:Inv X pins σ H {s with heap:=h'}:=I.turned (t':=s.toks) (fun b o hb e=>(sb.2 b hb).trans e) f0 f1 f3 f4 f5;obtain⟨o,e,c,d⟩:=id st';exact⟨u,rfl,Ca (s:={s with heap:=h'}) e c d (by decide) ⟨x,H,I1,ru,⟨rfl,fun ys hy=>by rw[I.list_inj hy hq];exact hx⟩,st',fun b hb=>(hf b hb).1⟩⟩
 done:=by
  intro X hP hw hK hc i pins s σ H E I hf st hg;subst hP hw hK;obtain⟨xs,hq,hx⟩:=hg;obtain⟨its,rv,p,hz⟩:=I.list hq;obtain⟨f0,f1,f2,f3,f4,f5⟩:=hf it (by simp);have hl:=rv.length;exact wpAny_pyNext_list_end (I.ok.hd hc) st p.isList (by simp;lia) fun h' eb=>⟨rfl,I.turned (t':=s.toks) (fun b o hb e=>eb b o hb e) f0 f1 f3 f4 f5⟩
 self:=fun _ _ _ _ _ st h=>wpAny_pyIter_listiter st h
def zD{K:Frag}(it:Addr)(lo:Int)(n:Nat):xm P w K tg (K5 lo n) [it] it (fun i h=>IsRangeIter h it (lo+(i:Nat) * 1) ((n:Int) - (i:Nat)) 1) where
 mem:=by simp
 obj:=fun i h st b hb=>by
  have e:b=it:=by simpa using hb
  subst e;exact⟨_,st,fun v z=>by
   have z':Data.fields _=Data.cell v:=z;cases z'⟩
 keep:=fun i h h' st k=>k it (by simp) _ st
 item:=by
  intro X hP hw hK hc i pins s σ H E I hf st hg;subst hP hw hK;obtain⟨f0,f1,f2,f3,f4,f5⟩:=hf it (by simp);have W:=Walks.range (prog:=X.prog) (w:=X.w) (I.ok.hd hc) it lo 1 n;refine W.item i s _ _ hg st fun v h' tk hv st' kk=> ?_;obtain⟨t,rfl⟩:=hv;have I1:Inv X pins σ H {s with heap:=h',toks:=tk}:=I.turned (fun b o hb e=>kk b o (by simpa using hb) e) f0 f1 f3 f4 f5;refine⟨_,rfl,Ca (s:={s with heap:=h',toks:=tk}) (n:="range_iterator") st' rfl rfl (by decide) ⟨.int (lo+i),H,I1,⟨t,?_⟩,⟨rfl,rfl⟩,st',fun b hb=>(hf b hb).1⟩⟩;rw[Int.mul_one]
 done:=by
  intro X hP hw hK hc i pins s σ H E I hf st hg;subst hP hw hK;obtain⟨f0,f1,f2,f3,f4,f5⟩:=hf it (by simp);exact wpAny_pyNext_range_end (I.ok.hd hc) st (by have:n<=i:=hg;lia) fun h' eb=>⟨rfl,I.turned (t':=s.toks) (fun b o hb e=>eb b o hb e) f0 f1 f3 f4 f5⟩
 self:=fun _ _ _ _ _ st h=>wpAny_pyIter_rangeiter st h
section
def mj(K:Frag)(tl:TE):TI:=fun σ H R=>tl σ H fun x H1=>onR x fun a=>(∃xs,SqL K H1 a xs)/\R (K6 K a) H1
def bS(hl:PE X l tl):PI X tg l (mj X.K tl):=by
 intro pins s σ H R I h;refine dD (hl pins s σ H _ I h) fun v s1 ⟨x,H1,I1,r1,q1⟩=> ?_;obtain⟨a,e,⟨xs,hq⟩,q⟩:=onR.ex q1;subst e;cases r1;obtain⟨its,rv,p,hz⟩:=I1.list hq;refine Pi p.isList ?_;refine⟨s1.heap.objs.size,[s1.heap.objs.size],_,_,H1,rfl,I1.kept (t':=s1.toks) fun b o e=>aC _ e,Cv a _,⟨_,ba _ rfl,rfl,rfl⟩,fun b hb=> ?_,q⟩;have e:b=s1.heap.objs.size:=by simpa using hb
 subst e;exact I1.fpOk (ar _) (I1.hok.fresh (ar _))
def yj{σ:St}{lo:Int}(I:Inv X pins σ H s)(h1: -(2^62)<=lo)(h2:lo<2^62)(h3: -(2^62)<=hi)(h4:hi<2^62)(q:R (K5 lo (hi - lo).toNat) H):wpAny (model X.prog X.w) X.A (pyIter (.ref s.heap.objs.size)) (N5 X pins σ tg R) E {s with heap:=s.heap.push {cls:= .type "range",data:= .fields #[.int lo t,.int hi u,.int 1 v]},toks:=tk}:=by
 refine wpAny_pyIter_range (IsRange.new ..) (small_one h1 h2 h3 h4) ?_;have I1:Inv X pins σ H {s with heap:=s.heap.push {cls:= .type "range",data:= .fields #[.int lo t,.int hi u,.int 1 v]},toks:=tk}:=I.kept fun b o e=>aC _ e;refine⟨(s.heap.push {cls:= .type "range",data:= .fields #[.int lo t,.int hi u,.int 1 v]}).objs.size,[(s.heap.push {cls:= .type "range",data:= .fields #[.int lo t,.int hi u,.int 1 v]}).objs.size],_,_,H,rfl,
  I1.kept (t':=tk) fun b o e=>aC _ e,zD _ lo (hi - lo).toNat,?_,fun b hb=> ?_,q⟩
 · have e1:lo+((0:Nat):Int) * 1=lo:=by simp
   have e2:(((hi - lo).toNat:Nat):Int) - ((0:Nat):Int)=Builtin.Range.rangeSize lo hi 1:=by rw[rangeSize_one];split<;>lia
   show IsRangeIter _ _ (lo+((0:Nat):Int) * 1) ((((hi - lo).toNat:Nat):Int) - ((0:Nat):Int)) 1;rw[e1,e2];exact ba _ rfl
 · have e:b=(s.heap.push {cls:= .type "range",data:= .fields #[.int lo t,.int hi u,.int 1 v]}).objs.size:=by simpa using hb
   subst e;exact I1.fpOk (ar _) (I1.hok.fresh (ar _))
def Mj(ta:TA):TI:=fun σ H R=>ta σ H fun vs H1=>∃j:Int,vs=[.int j]/\ -(2^62)<=j/\j<2^62/\R (K5 0 j.toNat) H1
def Mi(ta:TA):TI:=fun σ H R=>ta σ H fun vs H1=>∃i j:Int,vs=[.int i,.int j]/\(-(2^62)<=i/\i<2^62/\ -(2^62)<=j/\j<2^62)/\R (K5 i (j - i).toNat) H1
def iK{X:Cx}{tg a:Expr}{ta:TA}{p pos:Pos}(hg:Gl X "range")(hm:X.mg "range"=none)(ha:PA X [a] ta)(hs:starEach [a] X.env=[(false,eval a X.env)]:=by rfl):PI X tg (.Call (.Name "range" p) [a] [] pos) (Mj ta):=by
 intro pins s σ H R I h;refine Call_ (oX I hg hm boot_range (gr (dD (ha pos pins s σ H _ I h) fun us s1 ⟨vs,H1,I1,r1,q1⟩=> ?_) hs rfl));obtain⟨j,e,q1,q2,q⟩:=q1;subst e;cases r1 with
 | cons r rr=>
   cases rr;obtain⟨t,rfl⟩:=r;exact call_range_1 (yj I1 (by lia) (by lia) q1 q2 (by simpa using q))
def CM{X:Cx}{tg a b:Expr}{ta:TA}{p pos:Pos}(hg:Gl X "range")(hm:X.mg "range"=none)(ha:PA X [a,b] ta)(hs:starEach [a,b] X.env=[(false,eval a X.env),(false,eval b X.env)]:=by rfl)(hs2:starEach [b] X.env=[(false,eval b X.env)]:=by rfl):PI X tg (.Call (.Name "range" p) [a,b] [] pos) (Mi ta):=by
 intro pins s σ H R I h;refine Call_ (oX I hg hm boot_range (gr (dD (ha pos pins s σ H _ I h) fun us s1 ⟨vs,H1,I1,r1,q1⟩=> ?_) (by rw[hs,hs2]) (by rw[hs2];rfl)));obtain⟨i,j,e,⟨q1,q2,q3,q4⟩,q⟩:=q1;subst e;cases r1 with
 | cons r rr=>
   cases rr with
   | cons r' rr=>
     cases rr;obtain⟨t,rfl⟩:=r;obtain⟨t',rfl⟩:=r';exact call_range_2 (yj I1 q1 q2 q3 q4 q)
def Js(wi:TI)(g:TG)(tb:TS):TS:=fun D σ H=>wi σ H fun J H1=>∃W:Nat->Nat->St->Hp->Prop,(∃m,W 0 m σ H1)/\∀i m σ H,W i m σ H->(J.stop i H/\D.nx σ H)\/(J.go i H/\∃N:St->Hp->Prop,(∀σ' H',N σ' H'->∃m',m'<m/\W (i+1) m' σ' H')/\∀x H',J.yld i H x H'->g x σ H' fun σ2 H2=>tb {D with nx:=N,ct:=N,bk:=D.nx} σ2 H2)
noncomputable def mJ(fp:List Addr)(h:Heap):List (Addr × Obj):=fp.filterMap fun b=>(h.get? b).map fun o=>(b,o)
def gR(hb:b∈fp)(e:h.get? b=some o):(b,o)∈mJ fp h:=fc.mpr ⟨b,hb,by rw[e];rfl⟩
def C8(hp:p∈mJ fp h):p.1∈fp/\h.get? p.1=some p.2:=by
 obtain⟨b,hb,e⟩:=fc.mp hp;cases q:h.get? b with
 | none=>rw[q] at e;cases e
 | some o=>
   rw[q] at e;have e':(b,o)=p:=d6 e;subst e';exact⟨hb,q⟩
def Inv.pinned{σ:St}(I:Inv X pins σ H s)(hf:∀b∈fp,lZ X pins H b)(ho:∀b∈fp,∃o,s.heap.get? b=some o/\∀v,o.data≠ .cell v):Inv X (pins++mJ fp s.heap) σ H s:=I.pins_of fun p hp=>(aw.mp hp).elim (fun z=>I.pin p (aL _ z)) fun z=>by
  obtain⟨hb,e⟩:=C8 z;obtain⟨f0,f1,f2,_⟩:=hf p.1 hb;obtain⟨o,e',d⟩:=ho p.1 hb;rw[e] at e';cases e';exact⟨e,f0,f1,f2,d⟩
def Inv.unpinned{σ:St}(I:Inv X (pins++pl) σ H s):Inv X pins σ H s:=I.pins_of fun p hp=>I.pin p (aL _ (aM _ hp))
def JJ{X:Cx}{tg iter:Expr}{body:List Stmt}{wi:TI}{g:TG}{tb:TS}{pos:Pos}(hp:PassesOwn (model X.prog X.w) X.A X.env X.xe)(hc:X.calm=true)(hi:PI X tg iter wi)(hg:PG X tg g)(hb:PSs X body tb)(hs:∀x,foldedSetIterable iter X.env x=pure x:=by intro _;rfl):PS X (.For tg iter body [] pos) (Js wi g tb):=by
 intro pins s σ H D I h;refine wpAny_For (dD (hi pins s σ H _ I h) fun v s1 h1=>dD h1 fun itv s2 h2=> ?_) hs;obtain⟨it,fp,tn,J,H2,e,I2,T,st2,f2,W,⟨m0,w0⟩,turn⟩:=h2;subst e;have stat:∀{H':Hp},(∀b∈fp,H' b=none)->∀b∈fp,lZ X pins H' b:=fun hn b hb=>⟨hn b hb,(f2 b hb).2⟩;refine codeAny_forLoop_any (fun n s'=>∃i σ' H',Inv X pins σ' H' s'/\tn i s'.heap/\(∀b∈fp,H' b=none)/\W i n σ' H') ?_ m0 ⟨0,σ,H2,I2,st2,fun b hb=>(f2 b hb).1,w0⟩;rintro n s3 ⟨i,σ3,H3,I3,st3,fr3,w3⟩;rcases turn i n σ3 H3 w3 with⟨stop,qn⟩ | ⟨go,N,hN,step⟩
 · refine fZ hp (dD (T.done X rfl rfl rfl hc i pins s3 σ3 H3 X.xe I3 (stat fr3) st3 stop) fun r s4 ⟨hr,I4⟩=> ?_);subst hr;exact qp ⟨σ3,H3,I4,qn⟩
 · refine fZ hp (dD (T.item X rfl rfl rfl hc i pins s3 σ3 H3 X.xe I3 (stat fr3) st3 go) fun r s4 ⟨u,hr,h4⟩=> ?_);subst hr;refine fZ hp (dD h4 fun _ s5 ⟨x,H5,I5,r5,y5,st5,fr5⟩=> ?_);have I5':=I5.pinned (stat fr5) (T.obj _ _ st5);refine fZ hp (dD (hg _ s5 σ3 H5 x u _ I5' r5 (step x H5 y5)) fun _ s6 ⟨σ6,H6,I6,q6⟩=> ?_);refine fZ hp (dD (hb _ s6 σ6 H6 _ I6 q6) fun f s7 q7=> ?_);have again:∀{σ7:St} {H7:Hp},Inv X (pins++mJ fp s5.heap) σ7 H7 s7->N σ7 H7->∃m,m<n/\∃i σ' H',Inv X pins σ' H' s7/\tn i s7.heap/\(∀b∈fp,H' b=none)/\W i m σ' H':=fun {σ7 H7} I7 n7=>by
    obtain⟨m',hm,w7⟩:=hN σ7 H7 n7;refine⟨m',hm,i+1,σ7,H7,I7.unpinned,T.keep _ _ _ st5 fun b hb o e=>(I7.pin (b,o) (aL _ (aL _ (gR hb e)))).1,fun b hb=> ?_,w7⟩;obtain⟨o,e,d⟩:=T.obj _ _ st5 b hb;exact(I7.pin (b,o) (aL _ (aL _ (gR hb e)))).2.1
   cases f with
   | next=>obtain⟨σ7,H7,I7,n7⟩:=q7;exact again I7 n7
   | cont=>obtain⟨σ7,H7,I7,n7⟩:=q7;exact again I7 n7
   | brk=>obtain⟨σ7,H7,I7,q7⟩:=q7;exact⟨σ7,H7,I7.unpinned,q7⟩
   | ret v=>obtain⟨x7,σ7,H7,I7,r7,q7⟩:=q7;exact⟨x7,σ7,H7,I7.unpinned,r7,q7⟩
end
def bR{K:Frag}{g:TG}{tb:TS}{D:qm}(Pv:Nat->St->Hp->Prop)(h0:Pv 0 σ H)(hl:∀i σ H,i<=xs.length->Pv i σ H->SqL K H a xs)(hs:∀i x σ H,xs[i]? =some x->Pv i σ H->g x σ H fun σ2 H2=>tb {D with nx:=Pv (i+1),ct:=Pv (i+1),bk:=D.nx} σ2 H2)(hd:∀σ H,Pv xs.length σ H->D.nx σ H):∃W:Nat->Nat->St->Hp->Prop,(∃m,W 0 m σ H)/\∀i m σ H,W i m σ H->((K6 K a).stop i H/\D.nx σ H)\/((K6 K a).go i H/\∃N:St->Hp->Prop,(∀σ' H',N σ' H'->∃m',m'<m/\W (i+1) m' σ' H')/\∀x H',(K6 K a).yld i H x H'->g x σ H' fun σ2 H2=>tb {D with nx:=N,ct:=N,bk:=D.nx} σ2 H2):=by
 refine⟨fun i m σ H=>m=xs.length - i/\i<=xs.length/\Pv i σ H,⟨xs.length,by simp,ay _,h0⟩,?_⟩;rintro i m σ H ⟨rfl,hi,p⟩;have q:=hl i σ H hi p;by_cases hlt:i<xs.length
 · refine .inr ⟨⟨xs,xs[i],q,by simp[hlt]⟩,Pv (i+1),fun σ' H' p'=>⟨xs.length - (i+1),by lia,rfl,hlt,p'⟩,fun x H' y=> ?_⟩;obtain⟨e,y⟩:=y;subst e;exact hs i x σ _ (y xs q) p
 · have e:i=xs.length:=by lia
   subst e;exact .inl ⟨⟨xs,q,ar _⟩,hd σ H p⟩
def uW{lo:Int}{g:TG}{tb:TS}{D:qm}(Pv:Nat->St->Hp->Prop)(h0:Pv 0 σ H)(hs:∀i σ H,i<n->Pv i σ H->g (.int (lo+i)) σ H fun σ2 H2=>tb {D with nx:=Pv (i+1),ct:=Pv (i+1),bk:=D.nx} σ2 H2)(hd:∀σ H,Pv n σ H->D.nx σ H):∃W:Nat->Nat->St->Hp->Prop,(∃m,W 0 m σ H)/\∀i m σ H,W i m σ H->((K5 lo n).stop i H/\D.nx σ H)\/((K5 lo n).go i H/\∃N:St->Hp->Prop,(∀σ' H',N σ' H'->∃m',m'<m/\W (i+1) m' σ' H')/\∀x H',(K5 lo n).yld i H x H'->g x σ H' fun σ2 H2=>tb {D with nx:=N,ct:=N,bk:=D.nx} σ2 H2):=by
 refine⟨fun i m σ H=>m=n - i/\i<=n/\Pv i σ H,⟨n,by simp,ay _,h0⟩,?_⟩;rintro i m σ H ⟨rfl,hi,p⟩;by_cases hlt:i<n
 · refine .inr ⟨hlt,Pv (i+1),fun σ' H' p'=>⟨n - (i+1),by lia,rfl,hlt,p'⟩,fun x H' y=> ?_⟩;obtain⟨e,y⟩:=y;subst e y;exact hs i σ _ hlt p
 · have e:i=n:=by lia
   subst e;exact .inl ⟨ar _,hd σ H p⟩
def xF(Pv:St->Hp->Prop)(μ:St->Hp->Nat)(h0:Pv σ H)(hs:∀σ H,Pv σ H->c σ H fun b H1=>if b=true then tb {D with nx:=fun σ' H'=>Pv σ' H'/\μ σ' H'<μ σ H,ct:=fun σ' H'=>Pv σ' H'/\μ σ' H'<μ σ H,bk:=D.nx} σ H1 else D.nx σ H1)(mono:∀σ H Q Q',(∀b H1,Q b H1->Q' b H1)->c σ H Q->c σ H Q'):vE c tb D σ H:=by
 refine⟨fun m σ H=>m=μ σ H/\Pv σ H,⟨_,rfl,h0⟩,?_⟩;rintro m σ H ⟨rfl,p⟩;refine mono σ H _ _ (fun b H1 q=> ?_) (hs σ H p);cases b with
 | true=>exact⟨_,fun σ' H' ⟨p',l⟩=>⟨_,l,rfl,p'⟩,q⟩
 | false=>exact q
abbrev R2:=V->V->Hp->VK->Prop
def lP(X:Cx)(f:Value->Value->Sem Value)(r:R2):Prop:=∀(pins:List (Addr × Obj)) (s:Shared) (σ:St) (H:Hp) (x y:V) (v u:Value) (Q:VK),Inv X pins σ H s->RelV x v->RelV y u->r x y H Q->wpAny (model X.prog X.w) X.A (f v u) (EP X pins σ Q) X.xe s
def MY(X:Cx)(f:Value->Sem Value)(r:V->Hp->VK->Prop):Prop:=∀(pins:List (Addr × Obj)) (s:Shared) (σ:St) (H:Hp) (x:V) (v:Value) (Q:VK),Inv X pins σ H s->RelV x v->r x H Q->wpAny (model X.prog X.w) X.A (f v) (EP X pins σ Q) X.xe s
def mn(X:Cx)(f:Value)(r:List V->Hp->VK->Prop):Prop:=∀(pins:List (Addr × Obj)) (s:Shared) (σ:St) (H:Hp) (xs:List V) (us:List Value) (Q:VK),Inv X pins σ H s->Vals xs us->r xs H Q->wpAny (model X.prog X.w) X.A (call f us) (EP X pins σ Q) X.xe s
def N2(X:Cx)(r:V->Hp->(Bool->Hp->Prop)->Prop):Prop:=∀(pins:List (Addr × Obj)) (s:Shared) (σ:St) (H:Hp) (x:V) (v:Value) (Q:Bool->Hp->Prop),Inv X pins σ H s->RelV x v->r x H Q->wpAny (model X.prog X.w) X.A (truthy v) (TP X pins σ Q) X.xe s
def DT(r:R2)(ta tb:TE):TE:=fun σ H Q=>ta σ H fun x H1=>tb σ H1 fun y H2=>r x y H2 Q
def Ni(r:V->Hp->VK->Prop)(ta:TE):TE:=fun σ H Q=>ta σ H fun x H1=>r x H1 Q
def rI(C:Int->Int->Prop)(g:Int->Int->V):R2:=fun x y H Q=>onI x fun i=>onI y fun j=>C i j/\Q (g i j) H
def BB(g:Int->Int->V):R2:=fun x y H Q=>onI x fun i=>onI y fun j=>Q (g i j) H
def rU(g:Int->V):V->Hp->VK->Prop:=fun x H Q=>onI x fun i=>Q (g i) H
section
def KR{X:Cx}{a b:Expr}{ta tb:TE}(ha:PE X a ta)(hb:PE X b tb){pins:List (Addr × Obj)}{s:Shared}{σ:St}{H:Hp}{R:V->V->Hp->Prop}(I:Inv X pins σ H s)(h:ta σ H fun x H1=>tb σ H1 fun y H2=>R x y H2){Q:Value->Shared->Prop}{f:Value->Value->Sem Value}(hf:∀v u s2 x y H2,Inv X pins σ H2 s2->RelV x v->RelV y u->R x y H2->wpAny (model X.prog X.w) X.A (f v u) Q X.xe s2):wpAny (model X.prog X.w) X.A (eval a X.env) (fun v s₁=>wpAny (model X.prog X.w) X.A (eval b X.env) (fun u s₂=>wpAny (model X.prog X.w) X.A (f v u) Q X.xe s₂) X.xe s₁) X.xe s:=by
 refine dD (ha pins s σ H _ I h) fun v s1 ⟨x,H1,I1,r1,q1⟩=> ?_;refine dD (hb pins s1 σ H1 _ I1 q1) fun u s2 ⟨y,H2,I2,r2,q2⟩=> ?_;exact hf v u s2 x y H2 I2 r1 r2 q2
def bh(ho:lP X (binaryOp op) r)(ha:PE X a ta)(hb:PE X b tb):PE X (.BinOp a op b pos) (DT r ta tb):=by
 intro pins s σ H Q I h;exact wpAny_BinOp (KR ha hb I h fun v u s2 x y H2 I2 rx ry q=>ho pins s2 σ H2 x y v u Q I2 rx ry q)
def nK(ho:MY X (unaryOp op) r)(ha:PE X a ta):PE X (.UnaryOp op a pos) (Ni r ta):=by
 intro pins s σ H Q I h;exact UnaryOp_ (dD (ha pins s σ H _ I h) fun v s1 ⟨x,H1,I1,r1,q1⟩=>ho pins s1 σ H1 x v Q I1 r1 q1)
def Ld{g:Int->Int->Int}(rule:∀i j t u s Q E,C i j->Q (.int (g i j) s.toks) {s with toks:=s.toks+1}->wpAny (model X.prog X.w) X.A (f (.int i t) (.int j u)) Q E s):lP X f (rI C fun i j=> .int (g i j)):=by
 intro pins s σ H x y v u Q I rx ry h;obtain⟨i,rfl,h'⟩:=onI.ex h;obtain⟨j,rfl,hc,q⟩:=onI.ex h';obtain⟨t,rfl⟩:=rx;obtain⟨t',rfl⟩:=ry;exact rule i j t t' s _ _ hc ⟨.int (g i j),H,I.tok _,⟨_,rfl⟩,q⟩
def Hl{g:Int->Int->Int}(rule:∀i j t u s Q E,Q (.int (g i j) s.toks) {s with toks:=s.toks+1}->wpAny (model X.prog X.w) X.A (f (.int i t) (.int j u)) Q E s):lP X f (BB fun i j=> .int (g i j)):=by
 intro pins s σ H x y v u Q I rx ry h;obtain⟨i,rfl,h'⟩:=onI.ex h;obtain⟨j,rfl,q⟩:=onI.ex h';obtain⟨t,rfl⟩:=rx;obtain⟨t',rfl⟩:=ry;exact rule i j t t' s _ _ ⟨.int (g i j),H,I.tok _,⟨_,rfl⟩,q⟩
def JY{g:Int->Int->Bool}(rule:∀i j t u s Q E,Q (.bool (g i j)) s->wpAny (model X.prog X.w) X.A (f (.int i t) (.int j u)) Q E s):lP X f (BB fun i j=> .bl (g i j)):=by
 intro pins s σ H x y v u Q I rx ry h;obtain⟨i,rfl,h'⟩:=onI.ex h;obtain⟨j,rfl,q⟩:=onI.ex h';obtain⟨t,rfl⟩:=rx;obtain⟨t',rfl⟩:=ry;exact rule i j t t' s _ _ ⟨.bl (g i j),H,I,rfl,q⟩
def Oe(i j:Int):Prop:=0<j/\j<1073741824
def K9(i j:Int):Prop:=0<=j/\j<=1000000/\i.natAbs<2^64
def CMul(i j:Int):Prop:=(-(2^64)<i/\i<2^64)\/(-(2^64)<j/\j<2^64)
def CMul.ok(h:CMul i j):IntMulOk i j:=by
 rcases h with⟨h1,h2⟩ | ⟨h1,h2⟩
 · exact .of_left (intBits_le_64 h1 h2)
 · exact .of_right (intBits_le_64 h1 h2)
def hV:lP X (binaryOp .Add) (BB fun i j=> .int (i+j)):=Hl fun _ _ _ _ _ _ _ q=>add_int q
def jS:lP X (binaryOp .Sub) (BB fun i j=> .int (i - j)):=Hl fun _ _ _ _ _ _ _ q=>sub_int q
def sC:lP X (binaryOp .Mult) (rI CMul fun i j=> .int (i * j)):=Ld fun _ _ _ _ _ _ _ hc q=>mul_int q hc.ok
def dJ:lP X (binaryOp .FloorDiv) (rI Oe fun i j=> .int (i/j)):=Ld fun i j _ _ _ _ _ hc q=>by
 have h1:(0:Int)<j:=hc.1;have h2:j<1073741824:=hc.2;exact floordiv_int (by lia) (by rw[Int.fdiv_eq_ediv_of_nonneg i (by lia)];exact q) (.inl (PyProof.noPylong_small (by lia)))
def de:lP X (binaryOp .Mod) (rI (fun _ j=>0<j) fun i j=> .int (i % j)):=Ld fun i j _ _ _ _ _ hc q=>by
 have h1:(0:Int)<j:=hc;exact mod_int' (by lia) (by rw[Int.fmod_eq_emod_of_nonneg i (by lia)];exact q)
def wB:lP X (binaryOp .Pow) (rI K9 fun i j=> .int (i^j.toNat)):=Ld fun _ _ _ _ _ _ _ hc q=>pow_int_small hc.1 hc.2.1 hc.2.2 q
def oR:lP X (binaryOp .LShift) (rI K9 fun i j=> .int (i * 2^j.toNat)):=Ld fun _ _ _ _ _ _ _ hc q=>lshift_int_small hc.1 hc.2.1 hc.2.2 q
def mK:lP X (binaryOp .BitAnd) (BB fun i j=> .int (Builtin.bitAnd i j)):=Hl fun _ _ _ _ _ _ _ q=>and_int q
def uR:lP X (binaryOp .BitOr) (BB fun i j=> .int (Builtin.bitOr i j)):=Hl fun _ _ _ _ _ _ _ q=>or_int q
def Og{g:Int->Int}(rule:∀i t s Q E,Q (.int (g i) s.toks) {s with toks:=s.toks+1}->wpAny (model X.prog X.w) X.A (f (.int i t)) Q E s):MY X f (rU fun i=> .int (g i)):=by
 intro pins s σ H x v Q I rx h;obtain⟨i,rfl,q⟩:=onI.ex h;obtain⟨t,rfl⟩:=rx;exact rule i t s _ _ ⟨.int (g i),H,I.tok _,⟨_,rfl⟩,q⟩
def vC:MY X (unaryOp .USub) (rU fun i=> .int (-i)):=Og fun _ _ _ _ _ q=>neg_int q
def qW:MY X (unaryOp .Invert) (rU fun i=> .int (Builtin.bitNot i)):=Og fun _ _ _ _ _ q=>invert_int q
end
noncomputable def GN:V->V->Bool
 | .non,.non=>true | .non,.int _=>true | .int _,.non=>true | .non,.bl _=>true | .bl _,.non=>true | .non,.str _=>true | .str _,.non=>true
 | .int _,.int _=>true | .bl _,.bl _=>true | .str _,.str _=>true | .byt _,.byt _=>true
 | .int _,.str _=>true | .str _,.int _=>true | .bl _,.str _=>true | .str _,.bl _=>true
 | _,_=>false
def OW:R2:=fun x y H Q=>onT (GN x y) (Q (.bl (decide (x=y))) H)
def Ol:R2:=fun x y H Q=>onT (GN x y) (Q (.bl (!decide (x=y))) H)
def Cj:decide (V.int i=V.int j)=(i==j):=by
 rw[j_];simp
def FQ:decide (V.bl i=V.bl j)=(i==j):=by
 rw[j_];simp
def Cg:decide (V.str i=V.str j)=(i==j):=by
 rw[j_];simp
def Ck:decide (V.byt i=V.byt j)=(i.toList==j.toList):=by
 rw[j_];cases i;cases j;simp
section
def cP{σ:St}(I:Inv X pins σ H s)(q:Q (.bl k) H)(e:k=k'):EP X pins σ Q (.bool k') s:=by
 subst e;exact⟨.bl k,H,I,rfl,q⟩
def bN:lP X (compareOp .Eq) OW:=by
 intro pins s σ H x y v u Q I rx ry h;obtain⟨hs,q⟩:=onT.ex h;cases x with
 | non=>
   cases rx;cases y with
   | non=>cases ry;exact PySem.EqNone.eq_none_none (cP I q (by simp))
   | bl j=>cases ry;exact PySem.EqNone.eq_none_bool (cP I q (by simp))
   | int j=>obtain⟨t',rfl⟩:=ry;exact PySem.EqNone.eq_none_int (cP I q (by simp))
   | str j=>obtain⟨t',rfl⟩:=ry;exact PySem.EqNone.eq_none_str (cP I q (by simp))
   | _=>exact absurd (show false=true from hs) bq
 | bl i=>
   cases rx;cases y with
   | non=>cases ry;exact PySem.EqNone.eq_bool_none (cP I q (by simp))
   | bl j=>cases ry;exact eq_bool (cP I q FQ)
   | str j=>obtain⟨t',rfl⟩:=ry;exact PySem.EqMixed.eq_bool_str (cP I q (by simp))
   | _=>exact absurd (show false=true from hs) bq
 | int i=>
   obtain⟨t,rfl⟩:=rx;cases y with
   | non=>cases ry;exact PySem.EqNone.eq_int_none (cP I q (by simp))
   | int j=>obtain⟨t',rfl⟩:=ry;exact eq_int (cP I q Cj)
   | str j=>obtain⟨t',rfl⟩:=ry;exact PySem.EqMixed.eq_int_str (cP I q (by simp))
   | _=>exact absurd (show false=true from hs) bq
 | str i=>
   obtain⟨t,rfl⟩:=rx;cases y with
   | non=>cases ry;exact PySem.EqNone.eq_str_none (cP I q (by simp))
   | bl j=>cases ry;exact PySem.EqMixed.eq_str_bool (cP I q (by simp))
   | int j=>obtain⟨t',rfl⟩:=ry;exact PySem.EqMixed.eq_str_int (cP I q (by simp))
   | str j=>obtain⟨t',rfl⟩:=ry;exact eq_str (cP I q Cg)
   | _=>exact absurd (show false=true from hs) bq
 | byt i=>
   obtain⟨t,rfl⟩:=rx;cases y with
   | byt j=>obtain⟨t',rfl⟩:=ry;exact PySem.W.eq_bytes (cP I q Ck)
   | _=>exact absurd (show false=true from hs) bq
 | _=>cases y<;>exact absurd (show false=true from hs) bq
def EA:lP X (compareOp .NotEq) Ol:=by
 intro pins s σ H x y v u Q I rx ry h;obtain⟨hs,q⟩:=onT.ex h;cases x with
 | non=>
   cases rx;cases y with
   | non=>cases ry;exact PySem.EqNone.ne_none_none (cP I q (by simp))
   | bl j=>cases ry;exact PySem.EqNone.ne_none_bool (cP I q (by simp))
   | int j=>obtain⟨t',rfl⟩:=ry;exact PySem.EqNone.ne_none_int (cP I q (by simp))
   | str j=>obtain⟨t',rfl⟩:=ry;exact PySem.EqNone.ne_none_str (cP I q (by simp))
   | _=>exact absurd (show false=true from hs) bq
 | bl i=>
   cases rx;cases y with
   | non=>cases ry;exact PySem.EqNone.ne_bool_none (cP I q (by simp))
   | bl j=>cases ry;exact ne_bool (cP I q (congrArg not FQ))
   | str j=>obtain⟨t',rfl⟩:=ry;exact PySem.EqMixed.ne_bool_str (cP I q (by simp))
   | _=>exact absurd (show false=true from hs) bq
 | int i=>
   obtain⟨t,rfl⟩:=rx;cases y with
   | non=>cases ry;exact PySem.EqNone.ne_int_none (cP I q (by simp))
   | int j=>obtain⟨t',rfl⟩:=ry;exact ne_int (cP I q (congrArg not Cj))
   | str j=>obtain⟨t',rfl⟩:=ry;exact PySem.EqMixed.ne_int_str (cP I q (by simp))
   | _=>exact absurd (show false=true from hs) bq
 | str i=>
   obtain⟨t,rfl⟩:=rx;cases y with
   | non=>cases ry;exact PySem.EqNone.ne_str_none (cP I q (by simp))
   | bl j=>cases ry;exact PySem.EqMixed.ne_str_bool (cP I q (by simp))
   | int j=>obtain⟨t',rfl⟩:=ry;exact PySem.EqMixed.ne_str_int (cP I q (by simp))
   | str j=>obtain⟨t',rfl⟩:=ry;exact ne_str (cP I q (congrArg not Cg))
   | _=>exact absurd (show false=true from hs) bq
 | byt i=>
   obtain⟨t,rfl⟩:=rx;cases y with
   | byt j=>obtain⟨t',rfl⟩:=ry;exact PySem.W.ne_bytes (cP I q (congrArg not Ck))
   | _=>exact absurd (show false=true from hs) bq
 | _=>cases y<;>exact absurd (show false=true from hs) bq
def kM:lP X (compareOp .Lt) (BB fun i j=> .bl (decide (i<j))):=JY fun _ _ _ _ _ _ _ q=>lt_int q
def IM:lP X (compareOp .LtE) (BB fun i j=> .bl (decide (i<=j))):=JY fun _ _ _ _ _ _ _ q=>le_int q
def LZ:lP X (compareOp .Gt) (BB fun i j=> .bl (decide (j<i))):=JY fun _ _ _ _ _ _ _ q=>gt_int q
def EC:lP X (compareOp .Is) (fun x y H Q=>y= .non/\Q (.bl (decide (x= .non))) H):=by
 intro pins s σ H x y v u Q I rx ry h;obtain⟨rfl,q⟩:=h;cases ry;refine is_none_gen (cP I q ?_);cases x<;>first
  | (cases rx;rfl)
  | (obtain⟨t,rfl⟩:=rx;rfl)
def wC:lP X (compareOp .IsNot) (fun x y H Q=>y= .non/\Q (.bl (!decide (x= .non))) H):=by
 intro pins s σ H x y v u Q I rx ry h;obtain⟨rfl,q⟩:=h;cases ry;refine isnot_none_gen (cP I q ?_);cases x<;>first
  | (cases rx;rfl)
  | (obtain⟨t,rfl⟩:=rx;rfl)
def sF(b:Expr){op:CmpOp}(h:op≠ .In:=by decide)(h2:op≠ .NotIn:=by decide):behindInMarks op b=false:=by
 have e1:(op==CmpOp.In)=false:=by cases op<;>first | rfl | exact absurd rfl h
 have e2:(op==CmpOp.NotIn)=false:=by cases op<;>first | rfl | exact absurd rfl h2
 cases b<;>simp[behindInMarks,e1,e2]
def Hi(ho:lP X (compareOp op) r)(ha:PE X a ta)(hb:PE X b tb)(hm:behindInMarks op b=false):PE X (.Compare a [op] [b] pos) (DT r ta tb):=by
 intro pins s σ H Q I h;exact wpAny_Compare1 (KR ha hb I h fun v u s2 x y H2 I2 rx ry q=>ho pins s2 σ H2 x y v u Q I2 rx ry q) hm
def IA(t:TE):TT:=fun σ H Q=>t σ H fun x H1=>onB x fun c=>Q c H1
def qE(ho:lP X (compareOp op) r)(ha:PE X a ta)(hb:PE X b tb)(hm:behindInMarks op b=false):PT X (.Compare a [op] [b] pos) (IA (DT r ta tb)):=by
 intro pins s σ H Q I h;refine wpAny_isTrue_Compare1 (dD (ha pins s σ H _ I h) fun v s1 ⟨x,H1,I1,r1,q1⟩=>dD (hb pins s1 σ H1 _ I1 q1) fun u s2 ⟨y,H2,I2,r2,q2⟩=>
  dD (ho pins s2 σ H2 x y v u _ I2 r1 r2 q2) fun c s3 ⟨z,H3,I3,r3,q0⟩=> ?_) hm
 obtain⟨k,e,q3⟩:=onB.ex q0;subst e;cases r3;exact dR ⟨H3,I3,q3⟩
def Ju(r r':R2)(ta tb tc:TE):TE:=fun σ H Q=>ta σ H fun x H1=>tb σ H1 fun y H2=>r x y H2 fun z H3=>∃k,z= .bl k/\(if k=true then tc σ H3 fun w' H4=>r' y w' H4 Q else Q (.bl false) H3)
def sv{X:Cx}{a b c:Expr}{ta tb tc:TE}{pos:Pos}{op op':CmpOp}{r r':R2}(ho:lP X (compareOp op) r)(ho':lP X (compareOp op') r')(ha:PE X a ta)(hb:PE X b tb)(hc:PE X c tc)(hm:lastMarks [op,op'] [b,c]=false:=by with_unfolding_all rfl):PE X (.Compare a [op,op'] [b,c] pos) (Ju r r' ta tb tc):=by
 intro pins s σ H Q I h;refine Compare_chain (dD (ha pins s σ H _ I h) fun v s1 ⟨x,H1,I1,r1,q1⟩=>chain_link (dD (hb pins s1 σ H1 _ I1 q1) fun u s2 ⟨y,H2,I2,r2,q2⟩=>
  dD (ho pins s2 σ H2 x y v u _ I2 r1 r2 q2) fun d s3 ⟨z,H3,I3,r3,k,e,q3⟩=> ?_)) hm
 subst e;cases r3;refine dR ?_;cases k with
 | false=>exact ite_ff ⟨.bl false,H3,I3,rfl,q3⟩
 | true=>exact ite_tt (chain_last (dD (hc pins s3 σ H3 _ I3 q3) fun w' s4 ⟨z',H4,I4,r4,q4⟩=>ho' pins s4 σ H4 y z' u w' Q I4 r2 r4 q4))
def MA(K:Frag)(x:V)(H:Hp)(k:Bool):Prop:=match x with
 | .non=>k=false
 | .bl b=>k=b
 | .int i=>k=(i !=0)
 | .str y=>y.length<=sizeLine/\k=((y.length:Int) !=0)
 | .byt y=>y.size<=sizeLine/\k=((y.size:Int) !=0)
 | .ref p=>(∃xs,SqL K H p xs/\k= !xs.isEmpty)\/(∃xs,SqT K H p xs/\k= !xs.isEmpty)\/∃kvs,H p=some (.dK kvs)/\k= !kvs.isEmpty
 | _=>False
def AD{kvs:List (κ × V)}(r:KV kvs vs):(!vs.isEmpty)= !kvs.isEmpty:=by
 cases r<;>rfl
def sU(r:Vals xs its):(!its.toArray.isEmpty)= !xs.isEmpty:=by
 cases r<;>simp
def mN:(sizeLine:Nat)<2^63:=by rw[Nx];decide
def Jp:N2 X (fun x H Q=>∃k,MA X.K x H k/\Q k H):=by
 intro pins s σ H x v Q I rx h;obtain⟨k,e,q⟩:=h;have hl:=mN;have hs:sizeLine=16777216:=Nx;cases x with
 | non=>
   cases rx;have e':k=false:=e;subst e';exact truthy_none ⟨H,I,q⟩
 | bl b=>
   cases rx;have e':k=b:=e;subst e';exact dR ⟨H,I,q⟩
 | int i=>
   obtain⟨t,rfl⟩:=rx;have e':k=(i !=0):=e;subst e';exact PySem.P.truthy_int ⟨H,I,q⟩
 | str y=>
   obtain⟨t,rfl⟩:=rx;obtain⟨hy,e'⟩:y.length<=sizeLine/\k=((y.length:Int) !=0):=e;subst e';exact PySem.P.truthy_str (by lia) ⟨H,I.tok _,q⟩
 | byt y=>
   obtain⟨t,rfl⟩:=rx;obtain⟨hy,e'⟩:y.size<=sizeLine/\k=((y.size:Int) !=0):=e;subst e';exact PySem.W.truthy_bytes (by lia) ⟨H,I.tok _,q⟩
 | ref p=>
   cases rx;have e':(∃xs,SqL X.K H p xs/\k= !xs.isEmpty)\/(∃xs,SqT X.K H p xs/\k= !xs.isEmpty)\/∃kvs,H p=some (.dK kvs)/\k= !kvs.isEmpty:=e;rcases e' with⟨xs,hx,e'⟩ | ⟨xs,hx,e'⟩ | ⟨kvs,hx,e'⟩
   · subst e';obtain⟨its,r,pl,hz⟩:=I.list hx;have hlen:=r.length;exact wpAny_truthy_list pl.isList (by simp only[a_];lia) ⟨H,I.tok _,by rw[sU r];exact q⟩
   · subst e';obtain⟨its,r,pl,hz⟩:=I.tuple hx;have hlen:=r.length;exact truthy_tuple pl (by simp only[a_];lia) ⟨H,I.tok _,by rw[sU r];exact q⟩
   · subst e';obtain⟨hz,hS,vs,r,m⟩:kvs.length<=sizeLine/\(p==sysModules)=false/\∃vs,KV kvs vs/\s.heap.DictOf (cN X.prog X.w) p vs:=I.hok p _ hx;have hlen:kvs.length=vs.length:=aX r;exact wpAny_truthy_dict hS m (by lia) ⟨H,I.tok _,by rw[AD r];exact q⟩
 | _=>exact(show False from e).elim
def yr(ha:PE X a ta)(he:∀whole,isTrue a X.env whole=(do let v<-whole;standAt a.pos;holding [v] (truthy v))):
 PT X a (fun σ H Q=>ta σ H fun x H'=>∃k,MA X.K x H' k/\Q k H'):=by
 intro pins s σ H Q I h;exact isTrue_plain (dD (ha pins s σ H _ I h) fun v s1 ⟨x,H1,I1,r1,q1⟩=>Jp pins s1 σ H1 x v Q I1 r1 q1) (he _)
def iV:lP X (binaryOp .Add) (fun x y H Q=>∃i j,x= .str i/\y= .str j/\i.length+j.length<=sizeLine/\Q (.str (i++j)) H):=by
 intro pins s σ H x y v u Q I rx ry h;obtain⟨i,j,rfl,rfl,hz,q⟩:=h;obtain⟨t,rfl⟩:=rx;obtain⟨t',rfl⟩:=ry;exact add_str (fun t' tk=>⟨.str (i++j),H,I.tok _,⟨_,rfl⟩,q⟩) hz
def DI(r:Vals [x] us):∃u,us=[u]/\RelV x u:=by
 cases r with
 | cons r1 r2=>cases r2;exact⟨_,rfl,r1⟩
end
structure ObjM(h:Heap)(x dx C:Addr)(mA:Str->Option Value):Prop where
 obj:h.get? x=some (instObj C dx)
 ns:h.Ns1 dx mA
 ne:dx≠x
def Dd{h:Heap}(n:h.Ns1 dx mA):∃od,h.get? dx=some od/\∀name,lookIn name od=some (mA name):=by
 obtain⟨o,es,ep,ho,hd,hk,_,hm⟩:=n;refine⟨o,ho,fun name=> ?_⟩;have e:=hm name;unfold nsFind findBy at e;rw[<-Array.find?_toList] at e;unfold lookIn;rw[hd];dsimp only
 split
 · rename_i y q;rw[q] at e;exact congrArg some e
 · rename_i q;rw[q] at e;have a:es.toList.any (·.refKey)=false:=by
    rw[List.any_eq_false];intro y hy;obtain⟨z,t,hkey⟩:=hk y (Array.mem_toList_iff.mp hy);simp[DictEntry.refKey,hkey]
   have a':¬ es.toList.any (·.refKey)=true:=by rw[a];exact bq
   rw[aD a'];exact congrArg some e
def ObjM.look(I:ObjM h x dx C mA):∃od,PySem.W.InstAt h x (instObj C dx) C (some od)/\∀name,lookIn name od=some (mA name):=
 let⟨od,ho,hl⟩:=Dd I.ns
 ⟨od,⟨I.obj,rfl,rfl,ho⟩,hl⟩
section
def HU{K:Frag}(X:K.In s.heap)(I:ObjM s.heap x dx C mA)(hg:plainGet K C name=true)(hh:PySem.W.hasDictIn K C=true)(ha:findIn K (.ref C) name=some none)(hv:mA name=some v)(hv':PySem.W.handedIn v=true)(h:Q v {s with toks:=s.toks+1}):wpAny (model prog w) A (getAttr (.ref x) name expr) Q E s:=by
 obtain⟨od,J,hl⟩:=I.look;exact PySem.W.get_value X J (xp hg).1 (PySem.W.findObj_own hh ha rfl (by rw[hl,hv])) hv' h
def FH{K:Frag}(X:K.In s.heap)(I:ObjM s.heap x dx C mA)(hg:plainGet K C name=true)(hf:findIn K (.ref C) name=some (some (.ref f)))(ht:isFn K (.ref f)=true)(hv:mA name=none)(h:Q (.ref f,[.ref x]) s):wpAny (model prog w) A (getMethod (.ref x) name pl) Q E s:=by
 obtain⟨od,J,hl⟩:=I.look;exact PySem.W.method_fn X J (xp hg).1 (xp hg).2 hf (lR.mp ht) (by show(lookIn name od).map (·.isSome)=some false;rw[hl,hv];rfl) h
def GM{K:Frag}(X:K.In s.heap)(I:ObjM s.heap x dx C mA)(hs:findIn K (.ref C) "__setattr__"=some (some (.builtin "object.__setattr__")))(hp:PySem.W.plainOver K C=true)(ht:PySem.W.takerIn K C name=some none)(hh:PySem.W.hasDictIn K C=true)(hw:PySem.Within mA ns)(hsz:ns.length<=sizeLine)(h:∀h',ObjM h' x dx C (fun y=>if y=name then some v else mA y)->Heap.SameBut dx s.heap h'->Q () {s with heap:=h',toks:=s.toks+2}):wpAny (model prog w) A (setAttr (.ref x) name v) Q E s:=by
 obtain⟨od,J,hl⟩:=I.look;refine PySem.W.set_plain X J hs (PySem.W.osa_open (s:={s with toks:=s.toks+1}) (r:=none) X J hp ht fun b=> ?_);obtain⟨cd,hc,hd'⟩:=PySem.W.any_some hh;have hx:s.heap.get? x=some ⟨.ref C,some dx,.plain,#[]⟩:=I.obj;refine af (aH (af (af (wpAny_loadPart hx (af (PySem.W.Looks.here (s:={s with toks:=s.toks+1}) (PySem.W.looks_clsIn X hc) ?_))))));rw[hd'];refine aH (a:=some dx) (af (aH (af ?_)));refine wpAny_nsSet1 (s:={s with toks:=s.toks+1}) I.ns fun h' hn2 hs2=> ?_;obtain⟨oD,esD,epD,hoD,hdD,hcD⟩:=hn2.count (PySem.Within.cons name v hw);refine af (wpAny_lookBehind hoD (by rw[hdD];exact pastItsLine_dict (au hcD (by rw[aR];lia))) ?_);exact aH (h _ ⟨(hs2.2 _ (bG I.ne)).trans I.obj,hn2,I.ne⟩ hs2)
def E8{s:Shared}{K:Frag}(X:K.In s.heap)(hm:makesIn K C=true)(hi:findIn K (.ref C) "__init__"=some (some (.ref f)))(hf:PySem.W.typeIn K (.ref f)=some (.type "function"))(h:codeAny (model prog w) (A.under (.builtin "type.__call__" ⟨.ref C::vs,kw⟩)) (.call (.ref f) ⟨.ref (s.heap.objs.size+1)::vs,kw⟩) (PySem.W.InitBack (s.heap.objs.size+1) R) {s with heap:=(s.heap.push emptyDict).push (instObj C s.heap.objs.size)}):codeAny (model prog w) A (.call (.ref C) ⟨vs,kw⟩) R s:=by
 obtain⟨hh,g,d,t,os⟩:=s;exact PySem.W.make_core (PySem.W.makes_of X hm) (PySem.W.looks_findIn X hi) (fun self=>PySem.W.bind_fn X self hf) (.inl rfl) h
end
noncomputable def jn(f:Str)(v:V):List (Str × V)->List (Str × V)
 | []=>[(f,v)]
 | (g,x)::r=>if g=f then(g,v)::r else(g,x)::jn f v r
theorem pR(f g:Str)(v:V):∀fs:List (Str × V),(jn f v fs).lookup g=if g=f then some v else fs.lookup g
 | []=>by
   show List.lookup g [(f,v)]=_;by_cases h:g=f
   · have hb:(g==f)=true:=lR.mpr h;simp only[List.lookup,hb,aI h]
   · have hb:(g==f)=false:=cy.mpr h;simp only[List.lookup,hb,aD h]
 | (k,x)::r=>by
   have ih:=pR f g v r;rw[show jn f v ((k,x)::r)=(if k=f then(k,v)::r else(k,x)::jn f v r) from rfl];by_cases hk:k=f
   · rw[aI hk];by_cases h:g=k
     · have hb:(g==k)=true:=lR.mpr h;simp only[List.lookup,hb,aI (h.trans hk)]
     · have hb:(g==k)=false:=cy.mpr h;simp only[List.lookup,hb,aD (fun e:g=f=>h (e.trans hk.symm))]
   · rw[aD hk];by_cases h:g=k
     · have hb:(g==k)=true:=lR.mpr h;simp only[List.lookup,hb,aD (fun e:g=f=>hk (h.symm.trans e))]
     · have hb:(g==k)=false:=cy.mpr h;simp only[List.lookup,hb];exact ih
theorem oY(f:Str)(v:V):∀fs:List (Str × V),f∈(jn f v fs).map (·.1)/\∀g,g∈fs.map (·.1)->g∈(jn f v fs).map (·.1)
 | []=>⟨by simp[jn],fun g h=>by simp at h⟩
 | (k,x)::r=>by
   obtain⟨i1,i2⟩:=oY f v r;rw[show jn f v ((k,x)::r)=(if k=f then(k,v)::r else(k,x)::jn f v r) from rfl];by_cases hk:k=f
   · rw[aI hk];subst hk;exact⟨by simp,fun g h=>by simpa using h⟩
   · rw[aD hk];refine⟨?_,fun g h=> ?_⟩
     · rw[bQ];exact aK _ i1
     · rw[bQ] at h⊢;rcases aE.mp h with e | e
       · exact aE.mpr (.inl e)
       · exact aK _ (i2 g e)
theorem pU(f:Str)(v:V):∀fs:List (Str × V),(jn f v fs).length<=fs.length+1
 | []=>by simp[jn]
 | (k,x)::r=>by
   have ih:=pU f v r;rw[show jn f v ((k,x)::r)=(if k=f then(k,v)::r else(k,x)::jn f v r) from rfl];by_cases hk:k=f
   · rw[aI hk,aR,aR];lia
   · rw[aD hk,aR,aR];lia
def RelO.some_of(r:RelO (some v) o):∃u,o=some u/\RelV v u:=by
 cases o with
 | none=>exact(show False from r).elim
 | some u=>exact⟨u,rfl,r⟩
def RelO.none_of(r:RelO none o):o=none:=by
 cases o with
 | none=>rfl
 | some u=>exact(show False from r).elim
def Dm(r:RelV v u):PySem.W.handedIn u=true:=by
 cases v with
 | non=>cases(show u=Value.none from r);rfl
 | bl b=>cases(show u=Value.bool b from r);rfl
 | int i=>obtain⟨t,e⟩:=(show ∃t,u=Value.int i t from r);cases e;rfl
 | str x=>obtain⟨t,e⟩:=(show ∃t,u=Value.str x t from r);cases e;rfl
 | byt b=>obtain⟨t,e⟩:=(show ∃t,u=Value.bytes b t from r);cases e;rfl
 | flt b=>obtain⟨t,e⟩:=(show ∃t,u=Value.float b t from r);cases e;rfl
 | ref a=>cases(show u=Value.ref a from r);rfl
 | ty n=>cases(show u=Value.type n from r);rfl
section
def qO(hok:HOk P w H h)(e:H a=some (.ins C dx fs)):∃mA,ObjM h a dx C mA/\(∀f,RelO (fs.lookup f) (mA f))/\PySem.Within mA (fs.map (·.1))/\fs.length<=1000/\H dx=some (.own a):=by
 obtain⟨d,z,ne,ob,mA,n,r,q⟩:=(show ObjOk P w H h a (.ins C dx fs) from hok a _ e);exact⟨mA,⟨ob,n,ne⟩,r,q,z,d⟩
end
structure Cls(K:Frag)(C:Addr):Prop where
 pg:plainGet K C Str.empty=true
 hd:PySem.W.hasDictIn K C=true
 po:PySem.W.plainOver K C=true
 sa:findIn K (.ref C) "__setattr__"=some (some (.builtin "object.__setattr__"))
def Cls.get{K:Frag}(c:Cls K C)(f:Str):plainGet K C f=true:=c.pg
def NoAttr(K:Frag)(C:Addr)(f:Str):Prop:=findIn K (.ref C) f=some none
def NoAttr.taker{K:Frag}(n:NoAttr K C f):PySem.W.takerIn K C f=some none:=by
 unfold PySem.W.takerIn;rw[show findIn K (.ref C) f=some none from n]
 rfl
structure Ge(K:Frag)(C:Addr)(m:Str)(f:Addr):Prop where
 at_:findIn K (.ref C) m=some (some (.ref f))
 fn:isFn K (.ref f)=true
 kp:keepIn K (.ref f)=true
section
def AG{σ:St}(I:Inv X pins σ H s)(e:H a=some (.ins C dx fs))(c:Cls X.K C)(n:NoAttr X.K C f)(l:fs.lookup f=some v)(h:∀u s',Inv X pins σ H s'->RelV v u->Q u s'):wpAny (model X.prog X.w) A (getAttr (.ref a) f b) Q E s:=by
 obtain⟨mA,O,r,_,_,_⟩:=qO I.hok e;obtain⟨u,hu,ru⟩:=RelO.some_of (v:=v) (o:=mA f) (by rw[<-l];exact r f);exact HU I.kIn O (c.get f) c.hd n hu (Dm ru) (h u _ (I.tok _) ru)
def sX{σ:St}(I:Inv X pins σ H s)(e:H a=some (.ins C dx fs))(c:Cls X.K C)(k:Ge X.K C m g)(l:fs.lookup m=none)(h:Q (.ref g,[.ref a]) s):wpAny (model X.prog X.w) A (getMethod (.ref a) m pl) Q E s:=by
 obtain⟨mA,O,r,_,_,_⟩:=qO I.hok e;have hn:mA m=none:=RelO.none_of (by rw[<-l];exact r m);exact FH I.kIn O (c.get m) k.at_ k.fn hn h
def zN{σ:St}(I:Inv X pins σ H s)(e:H a=some (.ins C dx fs))(c:Cls X.K C)(n:NoAttr X.K C f)(hl:fs.length<1000)(ry:RelV y u)(h:∀s',Inv X pins σ (upd H a (.ins C dx (jn f y fs))) s'->Q () s'):wpAny (model X.prog X.w) A (setAttr (.ref a) f u) Q E s:=by
 obtain⟨mA,O,r,wi,_,ho⟩:=qO I.hok e;have hz:(fs.map (·.1)).length<=sizeLine:=by rw[ao,Nx];lia
 refine GM I.kIn O c.sa c.po n.taker c.hd wi hz fun h' O' sb=>h _ ?_;have hd:∃o,h'.get? dx=some o:=let⟨o,_,_,e',_⟩:=O'.ns;⟨o,e'⟩
 refine I.write (x:=a) (e:=dx) (by rw[e];exact True.intro) (.inr ho) (fun b q hb z=>(sb.2 b hb).trans z) hd ?_;refine⟨by rw[aB O.ne];exact ho,?_,O.ne,O'.obj,_,O'.ns,fun g=> ?_,fun g hg=> ?_⟩
 · have:=pU f y fs;lia
 · show RelO ((jn f y fs).lookup g) (if g=f then some u else mA g);rw[pR];by_cases q:g=f
   · rw[aI q,aI q];exact ry
   · rw[aD q,aD q];exact r g
 · by_cases q:g=f
   · rw[q];exact(oY f y fs).1
   · refine(oY f y fs).2 g (wi g fun z=>hg ?_);show(if g=f then some u else mA g)=none;rw[aD q];exact z
def Inv.made{σ:St}(I:Inv X pins σ H s):Inv X pins σ (upd (upd H s.heap.objs.size (.own (s.heap.objs.size+1))) (s.heap.objs.size+1) (.ins C s.heap.objs.size [])) {s with heap:=(s.heap.push emptyDict).push (instObj C s.heap.objs.size)}:=by
 have e1:(s.heap.push emptyDict).get? s.heap.objs.size=some emptyDict:=ba s.heap rfl;have e2:((s.heap.push emptyDict).push (instObj C s.heap.objs.size)).get? (s.heap.objs.size+1)=some (instObj C s.heap.objs.size):=by
  have:=ba (s.heap.push emptyDict) (o:=instObj C s.heap.objs.size) rfl
  rwa [eF] at this
 have e3:(s.heap.push emptyDict).Ns s.heap.objs.size (fun _=>none):=⟨emptyDict,#[],_,e1,rfl,(fun e he=>absurd he (by simp)),fun _=>rfl⟩;have I1:=I.laid (a:=s.heap.objs.size) (o:= .own (s.heap.objs.size+1)) (h':=s.heap.push emptyDict) (t':=s.toks) (fun b u q=>aC _ q) (ar _) ⟨_,e1⟩;refine I1.laid (a:=s.heap.objs.size+1) (o:= .ins C s.heap.objs.size []) (t':=s.toks) (fun b u q=>aC _ q) (Nat.le_of_eq (eF _ _)) ?_;have ne:s.heap.objs.size≠s.heap.objs.size+1:=bI (pe _);refine⟨by rw[aB ne,aa],ay _,ne,e2,fun _=>none,(Heap.Ns1.of_empty e3).at fun o q=>aC _ q,fun _=>True.intro,fun y hy=>absurd rfl hy⟩
def Ii(hb:attributeBase e f env (eval e env)=eval e env)(h:wpAny (model prog w) A (eval e env) (fun o s₁=>wpAny (model prog w) A (getAttr o f true) Q E s₁) E s):wpAny (model prog w) A (eval (.Attribute e f pos) env) Q E s:=Attribute_any_ h (by rw[arm_eval_Attribute,hb])
end
inductive DU(K:Frag)(f:Str)(Q:VK)(H1:Hp)(a:Addr):Prop
 | mk:∀C dx fs v,(H1 a=some (.ins C dx fs))->(Cls K C)->(NoAttr K C f)->(fs.lookup f=some v)->(Q v H1)->DU K f Q H1 a
def zJ(K:Frag)(ta:TE)(f:Str):TE:=fun σ H Q=>ta σ H fun x H1=>onR x fun a=>DU K f Q H1 a
def Eg(K:Frag)(ta tv:TE)(f:Str):TS:=fun D σ H=>tv σ H fun y H1=>ta σ H1 fun x H2=>∃a C dx fs,x= .ref a/\H2 a=some (.ins C dx fs)/\Cls K C/\NoAttr K C f/\fs.length<1000/\D.nx σ (upd H2 a (.ins C dx (jn f y fs)))
section
def JO(he:PE X e ta)(hb:attributeBase e f X.env (eval e X.env)=eval e X.env):PE X (.Attribute e f pos) (zJ X.K ta f):=by
 intro pins s σ H Q I h;refine Ii hb (dD (he pins s σ H _ I h) fun u s1 ⟨x,H1,I1,rx,q0⟩=> ?_);obtain⟨a,ex,C,dx,fs,v,ea,c,n,l,q⟩:=onR.ex q0;subst ex;obtain rfl:u=Value.ref a:=rx;exact AG I1 ea c n l fun u' s2 I2 ru=>⟨v,H1,I2,ru,q⟩
def dP(ha:PE X o ta)(hv:PE X value tv)(hs:swapsWith value (some (.Attribute o f pos')) pos.line X.env=pure false):PS X (.Assign [.Attribute o f pos'] value pos) (Eg X.K ta tv f):=by
 intro pins s σ H D I h;refine plainObj_wpAny_Assign_Attribute (dD (hv pins s σ H _ I h) fun u s1 ⟨y,H1,I1,ry,q⟩=>dD (ha pins s1 σ H1 _ I1 q) fun ov s2 ⟨x,H2,I2,rx,a,C,dx,fs,ex,ea,c,n,l,q2⟩=> ?_) hs;subst ex;obtain rfl:ov=Value.ref a:=rx;exact zN I2 ea c n l ry fun s3 I3=>⟨σ,_,I3,q2⟩
end
section
inductive TyOf(K:Frag)(H:Hp):V->Value->Prop where
 | non:TyOf K H .non (.type "NoneType")
 | bl (x:Bool):TyOf K H (.bl x) (.type "bool")
 | int (i:Int):TyOf K H (.int i) (.type "int")
 | str (x:Str):TyOf K H (.str x) (.type "str")
 | flt (x:UInt64):TyOf K H (.flt x) (.type "float")
 | lst {a:Addr} {xs:List V} (e:H a=some (.lst xs)):TyOf K H (.ref a) (.type "list")
 | frz {a:Addr} {o:Obj} {xs:List V} (e:H a=some (.frz o (.lst xs))):TyOf K H (.ref a) (.type "list")
 | tup {a:Addr} {xs:List V} (e:H a=some (.tup xs)):TyOf K H (.ref a) (.type "tuple")
 | dK {a:Addr} {kvs:List (Key × V)} (e:H a=some (.dK kvs)):TyOf K H (.ref a) (.type "dict")
 | dT {a:Addr} {kvs:List (List Key × V)} (e:H a=some (.dT kvs)):TyOf K H (.ref a) (.type "dict")
 | ins {a C dx:Addr} {fs:List (Str × V)} (e:H a=some (.ins C dx fs)) (cl:Cls K C) (ha:findIn K (.ref C) "__class__"=some (some (.builtin "object.__class__"))) (hn:PySem.W.specialIn K (.builtin "object.__class__") "__get__"=some (some (.builtin "getset_descriptor.__get__"))) (htk:PySem.W.takesIn K (.builtin "object.__class__")=some true) (hm:PySem.W.mroIn K C (.type "object")=some true):TyOf K H (.ref a) (.ref C)
def Dh{σ:St}(I:Inv X pins σ H s)(rx:RelV x u)(ty:TyOf X.K H x t)(e:kitOne X.K t c=some b)(h:∀tk,Q (.bool b) {s with toks:=tk}):wpAny (model X.prog X.w) A (call (.builtin "isinstance") [u,c]) Q E s:=by
 cases ty with
 | non=>cases(show u=Value.none from rx);exact kia_one PySem.W.kitx_none I.kIn True.intro e (fun z=>nomatch z) h
 | bl y=>cases(show u=Value.bool y from rx);exact kia_one PySem.W.kitx_bool I.kIn True.intro e (fun z=>nomatch z) h
 | int i=>obtain⟨t,q⟩:=(show ∃t,u=Value.int i t from rx);cases q;exact kia_one PySem.W.kitx_int I.kIn True.intro e (fun z=>nomatch z) h
 | str y=>obtain⟨t,q⟩:=(show ∃t,u=Value.str y t from rx);cases q;exact kia_one PySem.W.kitx_str I.kIn True.intro e (fun z=>nomatch z) h
 | flt y=>obtain⟨t,q⟩:=(show ∃t,u=Value.float y t from rx);cases q;exact kia_one PySem.W.kitx_float I.kIn True.intro e (fun z=>nomatch z) h
 | @lst a xs ea=>
   cases(show u=Value.ref a from rx);obtain⟨_,_,n,_,h1⟩:=(show ObjOk X.prog X.w H s.heap a (.lst xs) from I.hok a _ ea);exact kia_one Pn I.kIn ⟨_,h1,rfl⟩ e (fun z=>nomatch z) h
 | @frz a ob xs ea=>
   cases(show u=Value.ref a from rx);obtain⟨_,_,_,n,_,h1⟩:=(show ObjOk X.prog X.w H s.heap a (.frz ob (.lst xs)) from I.hok a _ ea);exact kia_one Pn I.kIn ⟨_,h1,rfl⟩ e (fun z=>nomatch z) h
 | @tup a xs ea=>
   cases(show u=Value.ref a from rx);obtain⟨_,_,_,p⟩:=(show ObjOk X.prog X.w H s.heap a (.tup xs) from I.hok a _ ea);obtain⟨o,h1,h2,_⟩:=p;exact kia_one PySem.W.kitx_tuple I.kIn ⟨o,h1,h2⟩ e (fun z=>nomatch z) h
 | @dK a kvs ea=>
   cases(show u=Value.ref a from rx);obtain⟨_,_,vs,_,p⟩:=(show ObjOk X.prog X.w H s.heap a (.dK kvs) from I.hok a _ ea);obtain⟨o,es,ep,h1,h2,_⟩:=p;exact kia_one Po I.kIn ⟨o,h1,h2.1⟩ e (fun z=>nomatch z) h
 | @dT a kvs ea=>
   cases(show u=Value.ref a from rx);obtain⟨_,_,xs,_,o,es,ep,h1,h2,_⟩:=(show ObjOk X.prog X.w H s.heap a (.dT kvs) from I.hok a _ ea);exact kia_one Po I.kIn ⟨o,h1,h2.1⟩ e (fun z=>nomatch z) h
 | @ins a C dx fs ea cl ha hn htk hm=>
   cases(show u=Value.ref a from rx);obtain⟨mA,O,_⟩:=qO I.hok ea;obtain⟨od,J,_⟩:=O.look;exact kia_one (PySem.W.kitx_own (cl.get _) cl.hd ha hn htk hm) I.kIn J e (fun z=>nomatch z) h
end
structure Room(k:Nat)(A:Around):Prop where
 hd:A.handled=none
 dp:A.depth+3 * k+5<recursionLimit
 un:A.units+16 * k+200<cLine
 gd:A.guards=some []
def Room.mono(r:Room k A)(h:j<=k):Room j A:=⟨r.hd,by have:=r.dp;lia,by have:=r.un;lia,r.gd⟩
def Room.deeper(r:Room (k+1) A)(env:Env):Room k (A.deeper env):=⟨r.hd,by have:=r.dp;show A.depth+1+3 * k+5<_;lia,by have:=r.un;show A.units+3+16 * k+200<_;lia,r.gd⟩
def Ay{A:Around}:(A.under (.builtin "type.__call__" ⟨.ref C::us,kw⟩)).depth=A.depth+1:=by
 first | rfl | simp[Around.under,Code.weight,Code.isCreation,Code.isGuard,Code.isCaller,Code.frames,Code.isFrame,guardIds]
def Ax{A:Around}:(A.under (.builtin "type.__call__" ⟨.ref C::us,kw⟩)).units=A.units+1:=by
 first | rfl | simp[Around.under,Code.cUnits,Code.frames,Code.isFrame]
def yT{A:Around}(h:A.guards=some []):(A.under (.builtin "type.__call__" ⟨.ref C::us,kw⟩)).guards=some []:=by
 first | (show pushGuards _ A.guards=_;rw[h];rfl) | simp[Around.under,pushGuards,Code.guards,Code.isGuard,guardIds,h]
def Room.make(r:Room (k+1) A)(C:Addr)(us:List Value)(kw:List (Str × Value)):Room k (A.under (.builtin "type.__call__" ⟨.ref C::us,kw⟩)):=⟨r.hd,by have:=r.dp;rw[Ay];lia,by have:=r.un;rw[Ax];lia,yT r.gd⟩
def Room.depth(r:Room k A):A.depth<recursionLimit:=by have:=r.dp;lia
def Room.units(r:Room k A):A.units+64<cLine:=by have:=r.un;lia
def iS:TA:=fun _ H Q=>Q [] H
def dY(ta:TE)(tr:TA):TA:=fun σ H Q=>ta σ H fun x H1=>tr σ H1 fun xs H2=>Q (x::xs) H2
section
def cz:PA X [] iS:=fun _ _ _ _ H Q I h=>AQ ⟨[],H,I,.nil,h⟩
def eO{X:Cx}{e:Expr}{es:List Expr}{te:TE}{t:TA}(ha:PE X e te)(hr:PA X es t)(hs:starEach (e::es) X.env=(false,eval e X.env)::starEach es X.env:=by rfl):PA X (e::es) (dY te t):=by
 intro pos pins s σ H Q I h;rw[hs];show wpAny _ _ (spliced ((false,eval e X.env)::backTo pos (starEach es X.env))) _ _ s;refine iJ (dD (ha pins s σ H _ I h) fun u s1 ⟨x,H1,I1,r1,q1⟩=> ?_);exact dD (hr pos pins s1 σ H1 _ I1 q1) fun us s2 ⟨xs,H2,I2,r2,q2⟩=>⟨x::xs,H2,I2,.cons r1 r2,q2⟩
def GE(t:TA):TE:=fun σ H Q=>t σ H fun xs H1=>xs.length<=sizeLine/\∀p,H1 p=none->Q (.ref p) (upd H1 p (.tup xs))
def Jr(t:TA):TE:=fun σ H Q=>t σ H fun xs H1=>xs.length<=sizeLine/\∀p,H1 p=none->Q (.ref p) (upd H1 p (.lst xs))
def JM{X:Cx}{es:List Expr}{t:TA}{pos:Pos}{x1}(h:PA X es t):PE X (.Tuple es x1 pos) (GE t):=by
 intro pins s σ H Q I hq;refine wpAny_Tuple_spliced (dD (h pos pins s σ H _ I hq) fun us s1 ⟨xs,H1,I1,r,z,q⟩=>⟨by rw[<-r.length];exact z,?_⟩);have hf:H1 s1.heap.objs.size=none:=I1.hok.fresh (ar _);refine⟨.ref s1.heap.objs.size,upd H1 s1.heap.objs.size (.tup xs),I1.laid (t':=s1.toks) (fun b u e=>aC _ e) (ar _) ?_,rfl,q _ hf⟩;exact⟨z,us,r,⟨_,ba _ rfl,rfl,_,rfl⟩⟩
def bV{X:Cx}{es:List Expr}{t:TA}{pos:Pos}(h:PA X es t):PE X (.List es pos) (Jr t):=by
 intro pins s σ H Q I hq;refine wpAny_List_spliced (dD (h pos pins s σ H _ I hq) fun us s1 ⟨xs,H1,I1,r,z,q⟩=>⟨by rw[<-r.length];exact z,?_⟩);have hf:H1 s1.heap.objs.size=none:=I1.hok.fresh (ar _);refine⟨.ref s1.heap.objs.size,upd H1 s1.heap.objs.size (.lst xs),I1.laid (t':=s1.toks) (fun b u e=>aC _ e) (ar _) ?_,rfl,q _ hf⟩;exact⟨z,us,0,r,ba _ rfl⟩
end
abbrev Sp:=List V->Hp->VK->XK->Prop
abbrev Gh:=List Env->Hp->Shared->XK->Value->Shared->Prop
structure Env0(P:Program)(w:World)(K:Frag)(mg:Str->Option Value)(base:Heap)(A:Around)(outer:List Env)(s:Shared)(H:Hp):Prop where
 frames:A.frames=some outer
 mod:Mod K mg base
 bs:∀b o,base.get? b=some o->s.heap.get? b=some o/\H b=none
 bsz:base.objs.size<=s.heap.objs.size
 funs:s.heap.FunFrames base outer
 frf:∀b∈FI outer,H b=none
 hok:HOk P w H s.heap
 bare:AllBare s.gens
def CE(outer:List Env)(P:Program)(w:World)(H:Hp)(s:Shared)(Q:VK)(u:Value)(s':Shared):Prop:=∃v H',s'.os=s.os/\AllBare s'.gens/\Un (FI outer) [] H H' s.heap s'.heap/\HOk P w H' s'.heap/\RelV v u/\Q v H'
def CR(CX:Gh)(outer:List Env)(P:Program)(w:World)(H:Hp)(s:Shared)(Q:VK)(E:XK)(r:Result)(s':Shared):Prop:=match r with
 | .ok (.ret u)=>CE outer P w H s Q u s'
 | .ok _=>False
 | .error e=>CX outer H s E e s'
structure bW(P:Program)(w:World)(K:Frag)(mg:Str->Option Value)(base:Heap)(CX:Gh)(k:Nat)(f:Addr)(fd:FuncData)(ps:List Str)(sp:Sp):Prop where
 len:∀vs H Q E,sp vs H Q E->vs.length=ps.length
 run:∀(A:Around) (outer:List Env) (s:Shared) (H:Hp) (args:Args) (us:List Value) (vs:List V) (Q:VK) (E:XK),Room k A->Env0 P w K mg base A outer s H->BindsTo s fd args (ps.zip us)->Vals vs us->sp vs H Q E->codeAny (model P w) A (.call (.ref f) args) (CR CX outer P w H s Q E) s
def Env0.make{K:Frag}(e:Env0 P w K mg base A outer s H)(C:Addr)(us:List Value)(kw:List (Str × Value)):Env0 P w K mg base (A.under (.builtin "type.__call__" ⟨.ref C::us,kw⟩)) outer s H:=⟨by first | exact e.frames | (simpa[Around.under,Code.envs,Code.isFrame,pushEnvs] using e.frames),e.mod,e.bs,e.bsz,e.funs,e.frf,e.hok,e.bare⟩
section
def Inv.env0{σ:St}(I:Inv X pins σ H s):Env0 X.prog X.w X.K X.mg X.base X.A X.stack s H:=⟨I.ok.frames,I.ok.mod,I.bs,au I.ok.bsz I.sz,I.stack,I.stkFree,I.hok,I.bare⟩
def Inv.after{σ:St}(I:Inv X pins σ H s)(h:CE X.stack X.prog X.w H s Q u s'):EP X pins σ Q u s':=by
 obtain⟨v,H',os,bare,un,hok,r,q⟩:=h;obtain⟨hh,g,d,t,os'⟩:=s';obtain rfl:os'=s.os:=os;exact⟨v,H',I.call (h':=hh) (g':=g) (d':=d) (t':=t) (ch:=[]) un hok bare (fun b z=>absurd z (by simp)),r,q⟩
end
def q_(sp:Sp)(dvs:List V)(E:XK)(t:TA):TE:=fun σ H Q=>t σ H fun vs H1=>sp (vs++dvs) H1 Q E
inductive AV(C:Addr)(m:Str)(sp:Sp)(dvs:List V)(E:XK)(t:TA)(σ:St)(Q:VK)(x:V)(H1:Hp)(a:Addr):Prop
 | mk:∀dx fs,(H1 a=some (.ins C dx fs))->(fs.lookup m=none)->(t σ H1 fun vs H2=>sp (x::(vs++dvs)) H2 Q E)->AV C m sp dvs E t σ Q x H1 a
def AW(C:Addr)(m:Str)(sp:Sp)(dvs:List V)(E:XK)(ta:TE)(t:TA):TE:=fun σ H Q=>ta σ H fun x H1=>onR x fun a=>AV C m sp dvs E t σ Q x H1 a
def AX(C:Addr)(sp:Sp)(dvs:List V)(E:XK)(t:TA):TE:=fun σ H Q=>t σ H fun vs H1=>∀x dx,H1 x=none->H1 dx=none->dx≠x->sp (.ref x::(vs++dvs)) (upd (upd H1 dx (.own x)) x (.ins C dx [])) (fun v H2=>v= .non/\Q (.ref x) H2) E
def Binds(K:Frag)(fd:FuncData)(ps:List Str)(ds:List Value):Prop:=∀s us,K.In s.heap->(us++ds).length=ps.length->BindsTo s fd ⟨us,[]⟩ (ps.zip (us++ds))
def Binds.all{K:Frag}(h:∀us:List Value,us.length=ps.length->bindArgs fd ⟨us,[]⟩=pure (ps.zip us)):Binds K fd ps []:=fun s us _ hl=>by
 rw[qS] at hl⊢;exact .of_eq (h us hl)
def k8(CX:Gh)(X:Cx)(E:XK):Prop:=∀(pins:List (Addr × Obj)) (σ:St) (H:Hp) (s:Shared) (e:Value) (s':Shared),Inv X pins σ H s->CX X.stack H s E e s'->X.xe e s'
section
def Ab{σ:St}(F:bW X.prog X.w X.K X.mg X.base CX k f fd ps sp)(hr:Room k X.A)(hb:Binds X.K fd ps ds)(hd:Vals dvs ds)(hx:k8 CX X E)(I:Inv X pins σ H s)(r:Vals vs us)(h:sp (vs++dvs) H Q E):wpAny (model X.prog X.w) X.A (call (.ref f) us) (EP X pins σ Q) X.xe s:=by
 have r2:Vals (vs++dvs) (us++ds):=r.append hd;have hl:(us++ds).length=ps.length:=by rw[<-r2.length];exact F.len _ _ _ _ h
 refine wpAny_call (AK (F.run X.A X.stack s H ⟨us,[]⟩ (us++ds) (vs++dvs) Q E hr I.env0 (hb s us I.kIn hl) r2 h) fun r s' hq=> ?_);cases r with
 | error e=>exact hx pins σ H s e s' I hq
 | ok fl=>
   cases fl with
   | ret u=>exact I.after hq
   | next=>exact False.elim hq
   | brk=>exact False.elim hq
   | cont=>exact False.elim hq
def BX{X:Cx}{CX:Gh}{k:Nat}{f:Addr}{fd:FuncData}{ps:List Str}{sp:Sp}{dvs:List V}{ds:List Value}{E:XK}{x:Str}{p pos:Pos}{e:Expr}{es:List Expr}{t:TA}(F:bW X.prog X.w X.K X.mg X.base CX k f fd ps sp)(hr:Room k X.A)(hg:Gl X x)(hm:X.mg x=some (.ref f))(hk:keepIn X.K (.ref f)=true)(hb:Binds X.K fd ps ds)(hd:Vals dvs ds)(hx:k8 CX X E)(ha:PA X (e::es) t)(hdb:(x==("__debug__":Str))=false:=by decide)(he:starEach (e::es) X.env=(false,eval e X.env)::starEach es X.env:=by rfl)(hpl:(backTo pos (starEach es X.env)).any (·.1)=false:=by rfl):PE X (.Call (.Name x p) (e::es) [] pos) (q_ sp dvs E t):=by
 intro pins s σ H Q I h;refine iE (qL I hg hm ?_ hdb);refine zu (h₀:=X.base) I.ok.mod.kin hk (dD (ha pos pins s σ H _ I h) fun us s1 ⟨vs,H1,I1,r,q⟩=>⟨I1.kIn,?_⟩) he hpl;exact Ab F hr hb hd hx I1 r q
def Hf{X:Cx}{CX:Gh}{k:Nat}{f C:Addr}{fd:FuncData}{ps:List Str}{sp:Sp}{dvs:List V}{ds:List Value}{E:XK}{m:Str}{pos apos:Pos}{e o:Expr}{es:List Expr}{ta:TE}{t:TA}{pl:Sem Bool}(he:PE X o ta)(c:Cls X.K C)(hm:Ge X.K C m f)(F:bW X.prog X.w X.K X.mg X.base CX k f fd ps sp)(hr:Room k X.A)(hb:Binds X.K fd ps ds)(hd:Vals dvs ds)(hx:k8 CX X E)(ha:PA X (e::es) t)(hst:starEach (e::es) X.env=(false,eval e X.env)::starEach es X.env:=by rfl)(hpl:(backTo pos (starEach es X.env)).any (·.1)=false:=by rfl)(ht:eval (.Call (.Attribute o m apos) (e::es) [] pos) X.env=(do
 let ov<-eval o X.env
 standAt apos.atName
 let(f,first)<-holding [ov] (getMethod ov m pl)
 callWith pos f first (backTo pos (starEach (e::es) X.env)) (backToKw pos (keywordEach [] X.env))):=by rfl):
 PE X (.Call (.Attribute o m apos) (e::es) [] pos) (AW C m sp dvs E ta t):=by
 intro pins s σ H Q I h;refine M3 (pl:=pl) (dD (he pins s σ H _ I h) fun u s1 ⟨x,H1,I1,rx,q0⟩=> ?_) ht;obtain⟨a,ex,dx,fs,ea,l,q⟩:=onR.ex q0;subst ex;obtain rfl:u=Value.ref a:=rx;refine sX I1 ea c hm l ?_;refine zu (first:=[.ref a]) (h₀:=X.base) I.ok.mod.kin hm.kp (dD (ha pos pins s1 σ H1 _ I1 q) fun us s2 ⟨vs,H2,I2,r,q2⟩=>⟨I2.kIn,?_⟩) hst hpl;exact Ab (us:= .ref a::us) (vs:= .ref a::vs) F hr hb hd hx I2 (.cons rfl r) q2
def Es{X:Cx}{CX:Gh}{k:Nat}{f C:Addr}{fd:FuncData}{ps:List Str}{sp:Sp}{dvs:List V}{ds:List Value}{E:XK}{m:Str}{pos apos:Pos}{o:Expr}{ta:TE}{pl:Sem Bool}(he:PE X o ta)(c:Cls X.K C)(hm:Ge X.K C m f)(F:bW X.prog X.w X.K X.mg X.base CX k f fd ps sp)(hr:Room k X.A)(hb:Binds X.K fd ps ds)(hd:Vals dvs ds)(hx:k8 CX X E)(ht:eval (.Call (.Attribute o m apos) [] [] pos) X.env=(do
 let ov<-eval o X.env
 standAt apos.atName
 let(f,first)<-holding [ov] (getMethod ov m pl)
 callWith pos f first (backTo pos (starEach [] X.env)) (backToKw pos (keywordEach [] X.env))):=by rfl):
 PE X (.Call (.Attribute o m apos) [] [] pos) (AW C m sp dvs E ta iS):=by
 intro pins s σ H Q I h;refine M3 (pl:=pl) (dD (he pins s σ H _ I h) fun u s1 ⟨x,H1,I1,rx,q0⟩=> ?_) ht;obtain⟨a,ex,dx,fs,ea,l,q⟩:=onR.ex q0;subst ex;obtain rfl:u=Value.ref a:=rx;refine sX I1 ea c hm l ?_;exact Oy (first:=[.ref a]) I1.kIn hm.kp (Ab (us:=[.ref a]) (vs:=[.ref a]) F hr hb hd hx I1 (.cons rfl .nil) q)
structure Mk(K:Frag)(C f:Addr):Prop where
 makes:makesIn K C=true
 init:findIn K (.ref C) "__init__"=some (some (.ref f))
 fn:isFn K (.ref f)=true
 kp:keepIn K (.ref C)=true
def yg{σ:St}(M:Mk X.K C f)(F:bW X.prog X.w X.K X.mg X.base CX k f fd ps sp)(hr:Room (k+1) X.A)(hb:Binds X.K fd ps ds)(hd:Vals dvs ds)(hx:k8 CX X E)(I:Inv X pins σ H s)(r:Vals vs us)(h:∀x dx,H x=none->H dx=none->dx≠x->sp (.ref x::(vs++dvs)) (upd (upd H dx (.own x)) x (.ins C dx [])) (fun v H2=>v= .non/\Q (.ref x) H2) E):wpAny (model X.prog X.w) X.A (call (.ref C) us) (EP X pins σ Q) X.xe s:=by
 have hq:=h (s.heap.objs.size+1) s.heap.objs.size (I.hok.fresh (bu _)) (I.hok.fresh (ar _)) (bI (pe _));have I2:=Inv.made (C:=C) I;have r2:Vals (V.ref (s.heap.objs.size+1)::(vs++dvs)) (Value.ref (s.heap.objs.size+1)::(us++ds)):= .cons rfl (r.append hd);have hl:(Value.ref (s.heap.objs.size+1)::us++ds).length=ps.length:=by
  have e:=r2.length;rw[F.len _ _ _ _ hq] at e;exact e.symm
 refine wpAny_call (E8 (f:=f) I.kIn M.makes M.init (lR.mp M.fn) (AK (F.run _ X.stack _ _ ⟨Value.ref (s.heap.objs.size+1)::us,[]⟩ (Value.ref (s.heap.objs.size+1)::(us++ds)) _ _ E (hr.make C us []) (I2.env0.make C us []) (hb _ (Value.ref (s.heap.objs.size+1)::us) I2.kIn hl) r2 hq) fun r s' hq'=> ?_));cases r with
 | error e=>exact hx pins σ _ _ e s' I2 hq'
 | ok fl=>
   cases fl with
   | ret u=>
     obtain⟨v,H',I3,rv,ev,q3⟩:=I2.after hq';subst ev;exact⟨rv,⟨V.ref (s.heap.objs.size+1),H',I3,rfl,q3⟩⟩
   | next=>exact False.elim hq'
   | brk=>exact False.elim hq'
   | cont=>exact False.elim hq'
def Hg{X:Cx}{CX:Gh}{k:Nat}{f C:Addr}{fd:FuncData}{ps:List Str}{sp:Sp}{dvs:List V}{ds:List Value}{E:XK}{x:Str}{p pos:Pos}{e:Expr}{es:List Expr}{t:TA}(M:Mk X.K C f)(F:bW X.prog X.w X.K X.mg X.base CX k f fd ps sp)(hr:Room (k+1) X.A)(hg:Gl X x)(hm:X.mg x=some (.ref C))(hb:Binds X.K fd ps ds)(hd:Vals dvs ds)(hx:k8 CX X E)(ha:PA X (e::es) t)(hdb:(x==("__debug__":Str))=false:=by decide)(he:starEach (e::es) X.env=(false,eval e X.env)::starEach es X.env:=by rfl)(hpl:(backTo pos (starEach es X.env)).any (·.1)=false:=by rfl):PE X (.Call (.Name x p) (e::es) [] pos) (AX C sp dvs E t):=by
 intro pins s σ H Q I h;refine iE (qL I hg hm ?_ hdb);refine zu (h₀:=X.base) I.ok.mod.kin M.kp (dD (ha pos pins s σ H _ I h) fun us s1 ⟨vs,H1,I1,r,q⟩=>⟨I1.kIn,?_⟩) he hpl;exact yg M F hr hb hd hx I1 r q
def Et{X:Cx}{CX:Gh}{k:Nat}{f C:Addr}{fd:FuncData}{ps:List Str}{sp:Sp}{dvs:List V}{ds:List Value}{E:XK}{x:Str}{p pos:Pos}(M:Mk X.K C f)(F:bW X.prog X.w X.K X.mg X.base CX k f fd ps sp)(hr:Room (k+1) X.A)(hg:Gl X x)(hm:X.mg x=some (.ref C))(hb:Binds X.K fd ps ds)(hd:Vals dvs ds)(hx:k8 CX X E)(hdb:(x==("__debug__":Str))=false:=by decide):PE X (.Call (.Name x p) [] [] pos) (AX C sp dvs E iS):=by
 intro pins s σ H Q I h;refine iE (qL I hg hm ?_ hdb);exact Oy I.kIn M.kp (yg (us:=[]) M F hr hb hd hx I .nil h)
end
section
end
structure bj(N P:List Str)(sc:Scope):Prop where
 kind:sc.kind= .function
 co:sc.isCoroutine=false
 gen:sc.isGenerator=false
 nd:N.Nodup
 pre:N.take P.length=P
 par:∀x∈P,sc.names.lookup x=some .local\/sc.names.lookup x=some .cell
 nofree:∀y∈sc.names,y.2≠ .free
theorem vg{kindOf:Str->Option NameKind}:∀{binds:List (Str × Value)} {m:Str->Option Value},(∀v,(x,v)∉binds)->bindL kindOf binds m x=m x
 | [],_,_=>rfl
 | (n,v)::r,m,h=>by
   unfold bindL;rw[vg fun w hw=>h w (aK _ hw)]
   split
   · have:x≠n:=by rintro rfl;exact h v aY
     simp[this]
   · rfl
theorem vi{kindOf:Str->Option NameKind}:∀{binds:List (Str × Value)} {m:Str->Option Value},(∀v,(x,v)∉binds)->bindC kindOf binds m x=m x
 | [],_,_=>rfl
 | (n,v)::r,m,h=>by
   unfold bindC;rw[vi fun w hw=>h w (aK _ hw)]
   split
   · rfl
   · have:x≠n:=by rintro rfl;exact h v aY
     simp[this]
theorem vh{kindOf:Str->Option NameKind}:∀{P:List Str} {vs:List Value} {i:Nat} {m:Str->Option Value},P.Nodup->P[i]? =some x->vs[i]? =some v->kindOf x=some .local->bindL kindOf (P.zip vs) m x=some v
 | [],_,_,_,_,h,_,_=>by simp at h
 | _::_,[],_,_,_,_,h,_=>by simp at h
 | p::P,w::vs,0,m,nd,h1,h2,hk=>by
   simp at h1 h2;subst h1;subst h2;show bindL kindOf ((p,w)::P.zip vs) m p=_;unfold bindL;rw[vg fun v hv=>(fB.mp nd).1 (Gf hv).1,aI hk];simp
 | p::P,w::vs,i+1,m,nd,h1,h2,hk=>by
   show bindL kindOf ((p,w)::P.zip vs) m x=_;unfold bindL;exact vh (i:=i) (fB.mp nd).2 (by simpa using h1) (by simpa using h2) hk
theorem vj{kindOf:Str->Option NameKind}:∀{P:List Str} {vs:List Value} {i:Nat} {m:Str->Option Value},P.Nodup->P[i]? =some x->vs[i]? =some v->kindOf x≠some .local->bindC kindOf (P.zip vs) m x=some v
 | [],_,_,_,_,h,_,_=>by simp at h
 | _::_,[],_,_,_,_,h,_=>by simp at h
 | p::P,w::vs,0,m,nd,h1,h2,hk=>by
   simp at h1 h2;subst h1;subst h2;show bindC kindOf ((p,w)::P.zip vs) m p=_;unfold bindC;rw[vi fun v hv=>(fB.mp nd).1 (Gf hv).1,aD hk];simp
 | p::P,w::vs,i+1,m,nd,h1,h2,hk=>by
   show bindC kindOf ((p,w)::P.zip vs) m x=_;unfold bindC;exact vj (i:=i) (fB.mp nd).2 (by simpa using h1) (by simpa using h2) hk
noncomputable def l_(N:List Str)(vs:List V):St:=vs.map some++List.replicate (N.length - vs.length) none
noncomputable def zj(CX:Gh)(P:Program)(w:World)(K:Frag)(mg:Str->Option Value)(base:Heap)(N:List Str)(qual:Str)(scope:Scope)(f:Addr)(cd:Value)(A:Around)(outer:List Env)(s:Shared)(H:Hp)(E:XK):Cx where
 prog:=P
 w:=w
 K:=K
 mg:=mg
 base:=base
 A:=A.deeper (envOfC qual scope s.heap.objs.size f cd)
 N:=N
 s₀:=s
 H₀:=H
 env:=envOfC qual scope s.heap.objs.size f cd
 outer:=outer
 stack:=envOfC qual scope s.heap.objs.size f cd::outer
 ex:=[]
 calm:=true
 fn:=fun _=>true
 pn:=[]
 xe:=fun e s'=>wpAny (model P w) (A.deeper (envOfC qual scope s.heap.objs.size f cd)) (leaving (envOfC qual scope s.heap.objs.size f cd) e) (fun _ s''=>CX outer H s E e s'') (fun e' s''=>CX outer H s E e' s'') s'
def zk{sc:Scope}(h:sc.names.lookup x=some .cell):∃c,(cellsFrom n sc.names []).lookup x=some c:=by
 have q:=MB sc.names n [] (.inl h);exact K0.mp q
def Di{K:Frag}(S:bj N ps scope)(hd:A.handled=none)(e0:Env0 P w K mg base A outer s H)(hl:vs.length=ps.length)(r:Vals vs us)(x:InCallC s s.heap.objs.size (bindL (envOfC qual scope s.heap.objs.size f cd).kindOf (ps.zip us) fun _=>none) (cellsFrom (s.heap.objs.size+1) scope.names []) (bindC (envOfC qual scope s.heap.objs.size f cd).kindOf (ps.zip us) fun _=>none) s1):Inv (zj CX P w K mg base N qual scope f cd A outer s H E) [] (l_ N vs) H s1:=by
 have hpl:ps.length<=N.length:=by have:=congrArg List.length S.pre;rw[cf] at this;lia
 obtain⟨h1,tk,rfl,hk⟩:=x.done;have noA:∀b:Addr,b∉(zj CX P w K mg base N qual scope f cd A outer s H E).ex:=fun b z=>absurd (show b∈([]:List Addr) from z) (by simp);refine⟨⟨e0.mod,S.kind,rfl,rfl,ar _,fun y z c h1 h2=> ?_,fun y hy=> ?_,fun y c _ h=> ?_,fun _=>hd,Around.frames_deeper e0.frames,.inr ⟨rfl,rfl⟩,fun b z=>absurd z (noA b),e0.bs,e0.bsz,fun b _ _=>noA b,fun b z=>absurd z (noA b),e0.funs,e0.frf⟩,
  rfl,e0.bare,Un.kept hk,⟨_,x.toInCall.ns,fun i y v h1 h2 h3=> ?_⟩,fun y c h=>⟨_,x.cell y c h⟩,e0.hok.fresh (ar _),fun y c h=> ?_,fun p hp=>absurd (show p∈([]:List (Addr × Obj)) from hp) (by simp),e0.hok.kept hk,?_⟩
 · exact name_of_addr x.apart (dg h1) (dg h2)
 · have hy:scope.names.lookup y=some .cell\/scope.names.lookup y=some .free:=hy;rcases hy with hy | hy
   · exact zk hy
   · exact absurd rfl (S.nofree _ (dg hy))
 · exact fX (x.above y c (dg h))
 · have hi:i<vs.length:=by
    unfold l_ at h2;by_cases hi:i<vs.length
    · exact hi
    · rw[cT (by simpa using hi)] at h2;rw[pj] at h2
      split at h2<;>cases h2
   have ha:vs[i]? =some v:=by
    unfold l_ at h2;rw[b_ (by simpa using hi),bb] at h2;cases e:vs[i]? with
    | none=>rw[e] at h2;cases h2
    | some a=>rw[e] at h2;cases h2;rfl
   obtain⟨u,hu,rv⟩:=r.get ha;have hp:ps[i]? =some y:=by
    rw[<-S.pre,List.getElem?_take_of_lt (by lia)];exact h1
   have ndP:ps.Nodup:=by rw[<-S.pre];exact S.nd.sublist (List.take_sublist _ _)
   refine⟨u,rv,?_⟩;rcases S.par y (ak hp) with k | k
   · exact .inl ⟨k,vh ndP hp hu k⟩
   · obtain⟨c,e⟩:=zk (n:=s.heap.objs.size+1) k;refine .inr ⟨.inl k,c,e,?_⟩;have q:=x.cell y c e;rw[vj ndP hp hu (by show scope.names.lookup y≠_;rw[k];decide)] at q;exact q
 · exact e0.hok.fresh (fX (x.above y c (dg h)))
 · unfold l_;show _=N.length;rw[ah,ao,fk]
   lia
def I0{K:Frag}{kV:Value}(lk:K.lookup f=some ⟨oc,od,.func (fnOf name qual params body scope dV kV doc pm an cdv ct),osl⟩)(hcd:codeIn K cdv qual=true)(S:bj N ps scope)(len:∀vs H Q E,sp vs H Q E->vs.length=ps.length)(hbody:∀A outer s H vs Q E,Room k (A.deeper (envOfC qual scope s.heap.objs.size f cdv))->sp vs H Q E->∃t,PSs (zj CX P w K mg base N qual scope f cdv A outer s H E) body t/\t {nx:=fun _ H'=>Q .non H',rt:=Q} (l_ N vs) H):bW P w K mg base CX (k+1) f (fnOf name qual params body scope dV kV doc pm an cdv ct) ps sp:=by
 refine⟨len,fun A outer s H args us vs Q E hr e0 hb r hsp=> ?_⟩;have hl:=len _ _ _ _ hsp;have KX:K.In s.heap:=e0.mod.kin.keeps fun b o e=>(e0.bs b o e).1;have lim:s.heap.NoLimit:=e0.mod.nolimit.keeps fun b o e=>(e0.bs b o e).1;have hkind:∀y∈ps.zip us,scope.names.lookup y.1=some .local\/(scope.names.lookup y.1=some .cell/\((cellsFrom (s.heap.objs.size+1) scope.names []).lookup y.1).isSome=true):=fun⟨n,v⟩ hy=>by
  rcases S.par n (Gf hy).1 with q | q
  · exact .inl q
  · exact .inr ⟨q,MB _ _ _ (.inl q)⟩
 refine codeAny_call_function hr.depth (KX _ _ lk) rfl S.co S.gen rfl (PySem.W.codeRec_of KX hcd) (hb _ _ _ _ ?_);refine wpAny_newFunctionEnv_cells S.kind hkind fun env he s1 x=> ?_;subst he;refine⟨lim.keeps x.toInCall.keep,codeAny_func ?_⟩;obtain⟨t,ht,hq⟩:=hbody A outer s H vs Q E (hr.deeper _) hsp;have I:Inv (zj CX P w K mg base N qual scope f cdv A outer s H E) [] (l_ N vs) H s1:=Di S hr.hd e0 hl r x;refine cR (ht [] s1 (l_ N vs) H _ I hq) (fun fl s' hs=> ?_) fun e s' hs=>hs;have fin:∀{σ':St} {H':Hp} {v:V} {u:Value},Inv (zj CX P w K mg base N qual scope f cdv A outer s H E) [] σ' H' s'->RelV v u->Q v H'->CE outer P w H s Q u s':=
  fun {σ' H' v u} J rv q=>⟨v,H',J.os,J.bare,J.base,J.hok,rv,q⟩
 cases fl with
 | ret u=>
   obtain⟨v,σ',H',J,rv,q⟩:=hs;exact fin J rv q
 | next=>
   obtain⟨σ',H',J,q⟩:=hs;exact fin (v:=V.non) (u:=Value.none) J rfl q
 | brk=>
   obtain⟨_,_,_,q⟩:=hs;exact False.elim q
 | cont=>
   obtain⟨_,_,_,q⟩:=hs;exact False.elim q
section
def MS(r:List V->Hp->VK->Prop)(t:TA):TE:=fun σ H Q=>t σ H fun vs H1=>r vs H1 Q
def dB{X:Cx}{x:Str}{p pos:Pos}{e:Expr}{es:List Expr}{t:TA}{id:String}{r:List V->Hp->VK->Prop}(hc:mn X (.builtin id) r)(hg:Gl X x)(hm:X.mg x=none)(hv:bootBuiltins x=some (.builtin id))(ha:PA X (e::es) t)(hn:x≠"__name__":=by decide)(hdb:(x==("__debug__":Str))=false:=by decide)(he:starEach (e::es) X.env=(false,eval e X.env)::starEach es X.env:=by rfl)(hpl:(backTo pos (starEach es X.env)).any (·.1)=false:=by rfl):PE X (.Call (.Name x p) (e::es) [] pos) (MS r t):=by
 intro pins s σ H Q I h;refine iE (oX I hg hm hv ?_ hn hdb);exact PyProof.Rows.callWith_builtin1 (dD (ha pos pins s σ H _ I h) fun us s1 ⟨vs,H1,I1,r1,q1⟩=>hc pins s1 σ H1 vs us Q I1 r1 q1) he hpl
def ei{X:Cx}{x:Str}{p pos:Pos}{e:Expr}{es:List Expr}{t:TA}{T:String}{r:List V->Hp->VK->Prop}(hc:mn X (.type T) r)(hg:Gl X x)(hm:X.mg x=none)(hv:bootBuiltins x=some (.type T))(ha:PA X (e::es) t)(hn:x≠"__name__":=by decide)(hdb:(x==("__debug__":Str))=false:=by decide)(he:starEach (e::es) X.env=(false,eval e X.env)::starEach es X.env:=by rfl)(hpl:(backTo pos (starEach es X.env)).any (·.1)=false:=by rfl):PE X (.Call (.Name x p) (e::es) [] pos) (MS r t):=by
 intro pins s σ H Q I h;refine iE (oX I hg hm hv ?_ hn hdb);exact gr (dD (ha pos pins s σ H _ I h) fun us s1 ⟨vs,H1,I1,r1,q1⟩=>hc pins s1 σ H1 vs us Q I1 r1 q1) he hpl
end
end L2
namespace HT
open PySem PyProof.Rows
section
open PySem.SeqAt
open PySem.AutoSeq1 (wpAny_loadPart')
open PySem.MeetsSeq PySem.MeetsSeq2 PySem.MeetsSeq3
end
section
noncomputable def sIx(n d:Nat):Option Int->Nat
 | none=>d
 | some v=>if v<0 then(v+(n:Int)).toNat else min v.toNat n
def sIx_nat(n d k:Nat):sIx n d (some (k:Int))=min k n:=by
 show(if(k:Int)<0 then((k:Int)+(n:Int)).toNat else min (k:Int).toNat n)=min k n;rw[aD (by lia),cB]
def sIx_le(n d:Nat)(hd:d<=n)(o:Option Int):sIx n d o<=n:=by
 cases o with
 | none=>exact hd
 | some v=>
   show(if v<0 then(v+(n:Int)).toNat else min v.toNat n)<=n;by_cases hv:v<0
   · rw[aI hv];lia
   · rw[aD hv];exact Nat.min_le_right _ _
def clip_eq(v:Int)(n d:Nat):(if v<0 then max (v+(n:Int)) 0 else min v (n:Int))=((sIx n d (some v):Nat):Int):=by
 show(if v<0 then max (v+(n:Int)) 0 else min v (n:Int))=(((if v<0 then(v+(n:Int)).toNat else min v.toNat n):Nat):Int);by_cases hv:v<0
 · simp only[aI hv];lia
 · simp only[aD hv];lia
def AN(lo hi:Option Int)(n:Nat):Builtin.Slice.sliceAdjust lo hi 1 (n:Int)=(((sIx n 0 lo:Nat):Int),((sIx n n hi:Nat):Int)):=by
 have h1:¬ ((1:Int)<0):=by lia
 unfold Builtin.Slice.sliceAdjust;simp only[h1,HR];refine Prod.ext ?_ ?_
 · cases lo with
   | none=>rfl
   | some v=>exact clip_eq v n 0
 · cases hi with
   | none=>rfl
   | some v=>exact clip_eq v n n
def Af(i j:Nat):Builtin.Slice.slicePlaces (i:Int) (j:Int) 1=j - i:=by
 unfold Builtin.Slice.slicePlaces;have h1:(1:Int)>0:=by lia
 simp only[h1,kT,Int.ediv_one]
 split<;>lia
def rQ(p:IsPart v o)(h:Q o s):wpAny (model prog w) A (Builtin.Slice.slicePartIndex v) Q E s:=by
 cases p with
 | none=>exact slicePart_none h
 | int i t=>exact slicePart_int h
def oB{lo:Option Int}{n:Nat}(hs:s.heap.IsSliceOf sl vl vu .none)(pl:IsPart vl lo)(pu:IsPart vu hi)(h:Q (((sIx n 0 lo:Nat):Int),1,sIx n n hi - sIx n 0 lo) s):wpAny (model prog w) A (Builtin.Slice.sliceApplied (.ref sl) (pure (n:Int))) Q E s:=by
 obtain⟨os,hos,hcs,hds⟩:=id hs;unfold Builtin.Slice.sliceApplied Builtin.Slice.sliceFields;refine af (af (dC hos hds (x:=vl) rfl (af (dC hos hds (x:=vu) rfl (af (dC hos hds (x:= .none) rfl (aH ?_)))))));refine af (slicePart_none ?_);show wpAny _ _ (if((1:Int)==0)=true then _ else _) _ _ s;rw[aD (by decide)];refine af (rQ pl (af (rQ pu (af (aH ?_)))));show wpAny _ _ (match Builtin.Slice.sliceAdjust lo hi 1 (n:Int) with | (lo,hi)=>pure (lo,(1:Int),Builtin.Slice.slicePlaces lo hi 1)) _ _ s;rw[AN lo hi n];show wpAny _ _ (pure (((sIx n 0 lo:Nat):Int),(1:Int),Builtin.Slice.slicePlaces ((sIx n 0 lo:Nat):Int) ((sIx n n hi:Nat):Int) 1)) _ _ s;rw[Af];exact aH h
def En(xs:Array Value)(i k:Nat):((List.range k).filterMap fun(m:Nat)=>xs[((i:Int)+(m:Int) * 1).toNat]?).toArray=((xs.toList.drop i).take k).toArray:=by
 have e:(fun(m:Nat)=>xs[((i:Int)+(m:Int) * 1).toNat]?)=fun m=>xs[i+m]? :=by
  funext m
  have:((i:Int)+(m:Int) * 1).toNat=i+m:=by lia
  rw[this]
 rw[e];have:=pick_run xs i k;rw[Pg] at this;have e2:((fun x=>xs[x]?)∘fun x=>i+x)=fun m=>xs[i+m]? :=rfl;rw[e2] at this;rw[this]
def getItem_tuple_cut{lo:Option Int}(ht:IsTup s.heap t items)(hs:s.heap.IsSliceOf sl vl vu .none)(pl:IsPart vl lo)(pu:IsPart vu hi)(hw:¬ (sIx items.size 0 lo=0/\sIx items.size items.size hi=items.size))(h:Q (.ref s.heap.objs.size) {s with heap:=s.heap.push {cls:= .type "tuple",data:= .seq ((items.toList.drop (sIx items.size 0 lo)).take (sIx items.size items.size hi - sIx items.size 0 lo)).toArray}})(hsz:items.size<=sizeLine):wpAny (model prog w) A (getItem (.ref t) (.ref sl)) Q E s:=by
 have htake:sizeOk (.seq ((items.toList.drop (sIx items.size 0 lo)).take (sIx items.size items.size hi - sIx items.size 0 lo)).toArray):=by
  show((items.toList.drop (sIx items.size 0 lo)).take (sIx items.size items.size hi - sIx items.size 0 lo)).toArray.size<=sizeLine;rw[a_,cf,eY,kh]
  lia
 have hj:sIx items.size items.size hi<=items.size:=sIx_le _ _ (ar _) hi;obtain⟨os,hos,hcs,hds⟩:=id hs;have hTs:s.TypeIs (.ref sl) "slice":=⟨os,hos,hcs⟩;unfold getItem
 try with_reducible refine eo ?_
 first | refine af (aH ?_) | skip
 refine af (wpAny_sequenceKey ht.typeIs (by decide) ?_);refine af (fN (name:=Str.ofString "__getitem__") ht.typeIs js (jz js ht.typeIs entry_tuple_getitem ?_ (args_tuple_getitem _ _)));show wpAny _ _ (Builtin.Tuple.tupleItemsOf (.ref t)>>=_) _ _ s;refine af (tupleItemsOf_ ht ?_);refine af (wpAny_typeOf hTs ?_);rw[aI (by decide)];refine af (oB hs pl pu ?_);have hno:¬ ((((sIx items.size 0 lo:Nat):Int)==0&&(1:Int)==1&&(sIx items.size items.size hi - sIx items.size 0 lo)==items.size)=true):=by
  intro q;rw[bg,bg] at q;have q1:((sIx items.size 0 lo:Nat):Int)=0:=eq_of_beq q.1.1;have q2:sIx items.size items.size hi - sIx items.size 0 lo=items.size:=eq_of_beq q.2;exact hw ⟨by lia,by lia⟩
 show wpAny _ _ (if(((sIx items.size 0 lo:Nat):Int)==0&&(1:Int)==1&&(sIx items.size items.size hi - sIx items.size 0 lo)==items.size)=true then _ else _) _ _ s;rw[aD hno,En]
 first
  | exact af (m:=Builtin.Tuple.tupleExact _) (dU (aH ⟨_,rfl,aH h⟩) htake)
  | exact af (m:=Builtin.Tuple.tupleExact _) (dU (af (aH (aH ⟨_,rfl,aH h⟩))) htake)
  | exact af (af (m:=Builtin.Tuple.tupleExact _) (dU (aH (aH ⟨_,rfl,aH h⟩)) htake))
  | exact af (af (m:=Builtin.Tuple.tupleExact _) (dU (aH ⟨_,rfl,aH h⟩) htake))
end
end HT
namespace L2
open PySem PySem.Spec PyProof.Rows
abbrev TO:=St->Hp->(Option Int->Hp->Prop)->Prop
def PO(X:Cx)(e:Option Expr)(t:TO):Prop:=∀(pins:List (Addr × Obj)) (s:Shared) (σ:St) (H:Hp) (Q:Option Int->Hp->Prop),Inv X pins σ H s->t σ H Q->wpAny (model X.prog X.w) X.A (evalPart e X.env) (fun u s'=>∃o H',Inv X pins σ H' s'/\IsPart u o/\Q o H') X.xe s
def GF:TO:=fun _ H Q=>Q none H
def Lx(t:TE):TO:=fun σ H Q=>t σ H fun x H1=>∃i,x= .int i/\Q (some i) H1
section
def fu:PO X none GF:=by
 intro pins s σ H Q I h;rw[evalPart_none];exact aH ⟨none,H,I,.none,h⟩
def eN(h:PE X e te):PO X (some e) (Lx te):=by
 intro pins s σ H Q I hw;rw[evalPart_some];refine dD (h pins s σ H _ I hw) fun u s1 ⟨x,H1,I1,r1,q1⟩=> ?_;obtain⟨i,rfl,q⟩:=q1;obtain⟨t,rfl⟩:=r1;exact⟨some i,H1,I1,.int i t,q⟩
def M0(X:Cx)(r:V->Option Int->Option Int->Hp->VK->Prop):Prop:=∀(pins:List (Addr × Obj)) (s:Shared) (σ:St) (H:Hp) (x:V) (v vl vu:Value) (lo hi:Option Int) (sl:Addr) (Q:VK),Inv X pins σ H s->RelV x v->s.heap.IsSliceOf sl vl vu .none->IsPart vl lo->IsPart vu hi->r x lo hi H Q->∃T id,typeLookup (.type T) "__getitem__"=pure (some (.builtin id))/\s.TypeIs v T/\wpAny (model X.prog X.w) X.A (getItem v (.ref sl)) (EP X pins σ Q) X.xe s
def ON(r:V->Option Int->Option Int->Hp->VK->Prop)(te:TE)(tl th:TO):TE:=fun σ H Q=>te σ H fun x H1=>tl σ H1 fun l H2=>th σ H2 fun u H3=>r x l u H3 Q
def d_{lo:Option Expr}(hr:M0 X r)(he:PE X e te)(hl:PO X lo tl)(hu:PO X hi th):PE X (.Subscript e (.Slice lo hi none p2) pos) (ON r te tl th):=by
 intro pins s σ H Q I h;refine O9 (dD (he pins s σ H _ I h) fun v s1 ⟨x,H1,I1,r1,q1⟩=> ?_);refine wpAny_Slice (dD (hl pins s1 σ H1 _ I1 q1) fun vl s2 ⟨l,H2,I2,pl,q2⟩=>dD (hu pins s2 σ H2 _ I2 q2) fun vu s3 ⟨u,H3,I3,pu,q3⟩=> ?_);rw[evalPart_none];refine aH ?_;have I4:Inv X pins σ H3 {s3 with heap:=s3.heap.push {cls:= .type "slice",data:= .fields #[vl,vu,.none]}}:=I3.kept (t':=s3.toks) fun b ob q=>aC _ q;obtain⟨T,id,hT,ht,hg⟩:=hr pins {s3 with heap:=s3.heap.push {cls:= .type "slice",data:= .fields #[vl,vu,.none]}} σ H3 x v vl vu l u s3.heap.objs.size Q I4 r1 (Heap.IsSliceOf.new ..) pl pu q3;show wpAny (model X.prog X.w) X.A (subscriptTail e (.Slice lo hi none p2) v (.ref s3.heap.objs.size)) (EP X pins σ Q) X.xe {s3 with heap:=s3.heap.push {cls:= .type "slice",data:= .fields #[vl,vu,.none]}};exact tail_any (ops:=[.ref s3.heap.objs.size,v]) ht hT hg (by with_unfolding_all rfl)
noncomputable def jJ(xs:List V)(lo hi:Option Int):List V:=(xs.drop (HT.sIx xs.length 0 lo)).take (HT.sIx xs.length xs.length hi - HT.sIx xs.length 0 lo)
def pY(xs:List V)(lo hi:Option Int):(jJ xs lo hi).length<=xs.length:=by
 unfold jJ;rw[cf,eY]
 lia
def NG(K:Frag):V->Option Int->Option Int->Hp->VK->Prop:=fun x lo hi H Q=>∃a xs,x= .ref a/\SqT K H a xs/\¬ (HT.sIx xs.length 0 lo=0/\HT.sIx xs.length xs.length hi=xs.length)/\∀p,H p=none->Q (.ref p) (upd H p (.tup (jJ xs lo hi)))
def D9:M0 X (NG X.K):=by
 intro pins s σ H x v vl vu lo hi sl Q I rx hs pl pu h;obtain⟨a,xs,rfl,hx,hw,q⟩:=h;cases rx;obtain⟨its,r,ht,hz⟩:=I.tuple hx;have hlen:its.toArray.size=xs.length:=by rw[a_];exact r.length.symm
 refine⟨"tuple",_,js.lookup,ht.typeIs,?_⟩;refine HT.getItem_tuple_cut ht hs pl pu (by rw[hlen];exact hw) ?_ (by rw[hlen];exact hz);rw[hlen];refine⟨.ref s.heap.objs.size,_,I.laid (t':=s.toks) (o:= .tup (jJ xs lo hi)) (fun b ob q=>aC _ q) (ar _) ?_,rfl,q _ (I.hok.fresh (ar _))⟩;exact⟨au (pY xs lo hi) hz,_,(r.drop (HT.sIx xs.length 0 lo)).take (HT.sIx xs.length xs.length hi - HT.sIx xs.length 0 lo),IsTup.new _ _⟩
end
noncomputable def HP(n:Nat)(i:Int):Option Nat:=if 0<=i then(if i<n then some i.toNat else none) else if -(n:Int)<=i then some (i+n).toNat else none
noncomputable def zC{α:Type}(xs:List α)(i:Int):Option α:=(HP xs.length i).bind fun j=>xs[j]?
def B7(h:HP n i=some j):seqIndex? i n=some j/\j<n/\ -(n:Int)<=i/\i<n:=by
 unfold HP at h;by_cases h0:0<=i
 · rw[aI h0] at h;by_cases h1:i<n
   · rw[aI h1] at h;have e:i.toNat=j:=d6 h;exact⟨by rw[NA h0 h1,e],by lia,by lia,h1⟩
   · rw[aD h1] at h;cases h
 · rw[aD h0] at h;by_cases h1: -(n:Int)<=i
   · rw[aI h1] at h;have e:(i+n).toNat=j:=d6 h;exact⟨by rw[LK (by lia) h1,e],by lia,h1,by lia⟩
   · rw[aD h1] at h;cases h
def xj{v:α}(h:zC xs i=some v):∃j,seqIndex? i xs.length=some j/\xs[j]? =some v/\j<xs.length/\ -(xs.length:Int)<=i/\i<xs.length:=by
 unfold zC at h;cases e:HP xs.length i with
 | none=>rw[e] at h;cases h
 | some j=>
   rw[e] at h;obtain⟨h1,h2,h3,h4⟩:=B7 e;exact⟨j,h1,h,h2,h3,h4⟩
def aU{j:Nat}{v:α}(h:xs[j]? =some v):zC xs (j:Int)=some v:=by
 have hj:j<xs.length:=(aO.mp h).1;have e:HP xs.length (j:Int)=some j:=by
  unfold HP;rw[aI (by lia),aI (by lia)];simp
 unfold zC;rw[e];exact h
def Cp(b:Expr):Prop:=∀o i,subscripted b false o i=operate [o,i] (getItem o i)
def MK(X:Cx)(r:R2):Prop:=∀(value slice:Expr) (pins:List (Addr × Obj)) (s:Shared) (σ:St) (H:Hp) (x y:V) (v u:Value) (Q:VK),Inv X pins σ H s->RelV x v->RelV y u->r x y H Q->subscripted slice false v u=operate [v,u] (getItem v u)->wpAny (model X.prog X.w) X.A (subscriptTail value slice v u) (EP X pins σ Q) X.xe s
def M6(X:Cx)(id:String)(r:V->List V->Hp->VK->Prop):Prop:=∀(pins:List (Addr × Obj)) (s:Shared) (σ:St) (H:Hp) (x:V) (xs:List V) (v:Value) (us:List Value) (Q:VK),Inv X pins σ H s->RelV x v->Vals xs us->r x xs H Q->wpAny (model X.prog X.w) X.A (call (.builtin id) (v::us)) (EP X pins σ Q) X.xe s
section
def jg(hr:MK X r)(ha:PE X a ta)(hb:PE X b tb)(hs:Cp b):PE X (.Subscript a b pos) (DT r ta tb):=by
 intro pins s σ H Q I h;exact O9 (KR ha hb I h fun v u s2 x y H2 I2 rx ry q=>hr a b pins s2 σ H2 x y v u Q I2 rx ry q (hs _ _))
inductive Ej(K:Frag)(H:Hp)(Q:VK)(p:Addr)(i:Int):Prop
 | mk:∀xs v,(SqL K H p xs)->(zC xs i=some v)->(Q v H)->Ej K H Q p i
def GZ(K:Frag):R2:=fun x y H Q=>onR x fun p=>onI y fun i=>Ej K H Q p i
inductive Ae(K:Frag)(H:Hp)(Q:VK)(p:Addr)(i:Int):Prop
 | mk:∀xs v,(SqT K H p xs)->(zC xs i=some v)->(Q v H)->Ae K H Q p i
def CI(K:Frag):R2:=fun x y H Q=>onR x fun p=>onI y fun i=>Ae K H Q p i
def NJ:R2:=fun x y H Q=>∃z i c,x= .str z/\y= .int i/\z.length<=sizeLine/\zC z.cps.toList i=some c/\Q (.str ⟨#[c]⟩) H
def cm:MK X (GZ X.K):=by
 intro value slice pins s σ H x y v u Q I rx ry h hs;obtain⟨p,rfl,h'⟩:=onR.ex h;obtain⟨i,rfl,xs,z,hq,he,q⟩:=onI.ex h';cases rx;obtain⟨t,rfl⟩:=ry;obtain⟨its,r,pl,hz⟩:=I.list hq;obtain⟨j,h1,h2,h3,h4,h5⟩:=xj he;obtain⟨w,ew,rw'⟩:=r.get h2;have hl:=r.length;have hn:=mN;have fin:EP X pins σ Q w s:=⟨z,H,I,rw',q⟩;by_cases h0:0<=i
 · have hj:i.toNat=j:=by
    rw[NA h0 h5] at h1;exact d6 h1
   exact item_listR pl.isList h0 (by lia) (by rw[hj];simpa using ew) fin hs
 · have hj:(i+(its.toArray.size:Int)).toNat=j:=by
    rw[LK (by lia) h4] at h1;rw[a_,<-hl];exact d6 h1
   exact LD (x:=w) pl.isList.typeIs Pl.lookup (wpAny_getItem_list_neg (Q:=fun r s'=>r=w/\EP X pins σ Q r s') pl.isList (by lia) (by rw[a_]<;>lia) (by lia) (by rw[hj];simpa using ew) ⟨rfl,fin⟩) hs
def gD:MK X (CI X.K):=by
 intro value slice pins s σ H x y v u Q I rx ry h hs;obtain⟨p,rfl,h'⟩:=onR.ex h;obtain⟨i,rfl,xs,z,hq,he,q⟩:=onI.ex h';cases rx;obtain⟨t,rfl⟩:=ry;obtain⟨its,r,pl,hz⟩:=I.tuple hq;obtain⟨j,h1,h2,h3,h4,h5⟩:=xj he;obtain⟨w,ew,rw'⟩:=r.get h2;have hl:=r.length;have hn:=mN;have fin:EP X pins σ Q w s:=⟨z,H,I,rw',q⟩;exact LD (x:=w) pl.typeIs slot_tuple_getitem.lookup
  (getItem_tuple (j:=j) (Q:=fun r s'=>r=w/\EP X pins σ Q r s') pl (by lia) (by lia) (by rw[a_,<-hl];exact h1) (by simpa using ew) ⟨rfl,fin⟩) hs
def wW:MK X NJ:=by
 intro value slice pins s σ H x y v u Q I rx ry h hs;obtain⟨z,i,c,rfl,rfl,hz,he,q⟩:=h;obtain⟨t,rfl⟩:=rx;obtain⟨t',rfl⟩:=ry;obtain⟨j,h1,h2,h3,h4,h5⟩:=xj he;have hl:z.cps.toList.length=z.length:=by simp[Str.length]
 rw[hl] at h1 h4 h5;have hn:=mN;exact tail_any (OL s z t) slot_str_getitem.lookup (getItem_str (c:=c) (by
  have e1:decide (i< -(2^63:Int))=false:=aq (by lia);have e2:decide (i≥2^63)=false:=aq (by lia);rw[e1,e2,xC]) (by rw[h1];simpa using h2) ⟨.str ⟨#[c]⟩,H,I.tok _,⟨_,rfl⟩,q⟩) hs
def Aw(its:List Value)(n j:Nat)(u:Value):Obj.mapSeq (·.setIfInBounds j u) {cls:= .type "list",data:= .seq its.toArray n}={cls:= .type "list",data:= .seq (its.set j u).toArray n}:=by
 simp[Obj.mapSeq]
def Inv.lst{X:Cx}{pins:List (Addr × Obj)}{σ:St}{H:Hp}{s:Shared}{p:Addr}{xs:List V}(I:Inv X pins σ H s)(h:H p=some (.lst xs)):∃its n,Vals xs its/\s.heap.get? p=some {cls:= .type "list",data:= .seq its.toArray n}/\xs.length<=sizeLine:=by
 obtain⟨z,its,n,r,e⟩:=I.hok p _ h;exact⟨its,n,r,e,z⟩
def Inv.lstUpd{σ:St}{its:List Value}(I:Inv X pins σ H s)(h:H p=some (.lst xs))(ho:s.heap.get? p=some {cls:= .type "list",data:= .seq its.toArray n})(hf:f {cls:= .type "list",data:= .seq its.toArray n}={cls:= .type "list",data:= .seq its'.toArray n'})(r:Vals ys its')(hz:ys.length<=sizeLine)(t:Nat):Inv X pins σ (upd H p (.lst ys)) {s with heap:=s.heap.update p f,toks:=t}:=by
 have e:(s.heap.update p f).get? p=some {cls:= .type "list",data:= .seq its'.toArray n'}:=by
  rw[tP f ho (by rw[hf]<;>rfl),hf]
 refine I.write (x:=p) (e:=p) (by rw[h];trivial) (.inl rfl) (fun b u hb q=>(MP _ _ (bG hb)).trans q) ⟨_,e⟩ ?_;exact⟨hz,its',n',r,e⟩
def LU:V->V->V->Hp->(Hp->Prop)->Prop:=fun o i v H Q=>∃p xs k j,o= .ref p/\i= .int k/\H p=some (.lst xs)/\HP xs.length k=some j/\Q (upd H p (.lst (xs.set j v)))
def jH:MD X LU:=by
 intro pins s σ H o i v ov iv u Q I ro ri rv h;obtain⟨p,xs,k,j,rfl,rfl,hp,hj,q⟩:=h;cases ro;obtain⟨t,rfl⟩:=ri;obtain⟨its,n,r,ho,hz⟩:=I.lst hp;obtain⟨h1,h2,h3,h4⟩:=B7 hj;have hl:=r.length;have hn:=mN;have I':Inv X pins σ (upd H p (.lst (xs.set j v))) {s with heap:=s.heap.update p (Obj.mapSeq (·.setIfInBounds j u))}:=
  I.lstUpd hp ho (Aw its n j u) (r.set rv j) (by rw[List.length_set];exact hz) s.toks
 by_cases h0:0<=k
 · have hk:k.toNat=j:=by
    rw[NA h0 h4] at h1;exact d6 h1
   exact PySem.W.ki_setAt ho h0 (by lia) (by rw[a_,<-hl];exact h4) (by rw[hk];exact⟨_,I',q⟩)
 · have hk:(k+(its.toArray.size:Int)).toNat=j:=by
    rw[LK (by lia) h3] at h1;rw[a_,<-hl];exact d6 h1
   exact PySem.W.ki_setBack ho (by lia) (by rw[a_,<-hl];exact h3) (by lia) (by rw[hk];exact⟨_,I',q⟩)
def vN(lo hi:Option Int)(n:Nat):(sliceBounds lo hi none n).1=((HT.sIx n 0 lo:Nat):Int)/\(sliceBounds lo hi none n).2.1=((HT.sIx n n hi:Nat):Int)/\(sliceBounds lo hi none n).2.2=1:=by
 refine⟨?_,?_,rfl⟩
 · cases lo with
   | none=>simp[sliceBounds,HT.sIx]
   | some i=>
     simp only[sliceBounds,HT.sIx,Option.getD_none,show(1:Int)>0 by decide,kT];by_cases h:i<0
     · simp only[h,kT]<;>lia
     · simp only[h,HR]<;>lia
 · cases hi with
   | none=>simp[sliceBounds,HT.sIx]
   | some i=>
     simp only[sliceBounds,HT.sIx,Option.getD_none,show(1:Int)>0 by decide,kT];by_cases h:i<0
     · simp only[h,kT]<;>lia
     · simp only[h,HR]<;>lia
def tV(its:List Value)(lo hi:Option Int):slicePick its.toArray lo hi none=((its.drop (HT.sIx its.length 0 lo)).take (HT.sIx its.length its.length hi - HT.sIx its.length 0 lo)).toArray:=by
 obtain⟨h1,h2,h3⟩:=vN lo hi its.toArray.size;unfold slicePick;rw[h1,h2,h3];simp only[sliceRange_one,pick_run,a_]<;>rfl
def NI(K:Frag):V->Option Int->Option Int->Hp->VK->Prop:=fun x lo hi H Q=>∃a xs,x= .ref a/\SqL K H a xs/\∀p,H p=none->Q (.ref p) (upd H p (.lst (jJ xs lo hi)))
def lC:M0 X (NI X.K):=by
 intro pins s σ H x v vl vu lo hi sl Q I rx hs pl pu h;obtain⟨a,xs,rfl,hx,q⟩:=h;cases rx;obtain⟨its,r,ht,hz⟩:=I.list hx;have hlen:=r.length;refine⟨"list",_,Pl.lookup,ht.isList.typeIs,?_⟩;refine wpAny_getItem_list_slice ht.isList hs pl pu .none (by simp) ?_ (by rw[a_]<;>lia);rw[tV,<-hlen];refine⟨.ref s.heap.objs.size,_,I.laid (t':=s.toks) (o:= .lst (jJ xs lo hi)) (fun b ob q=>aC _ q) (ar _) ?_,rfl,q _ (I.hok.fresh (ar _))⟩;exact⟨au (pY xs lo hi) hz,_,0,(r.drop (HT.sIx xs.length 0 lo)).take (HT.sIx xs.length xs.length hi - HT.sIx xs.length 0 lo),ba _ rfl⟩
noncomputable def kU:V->Bool
 | .non=>true
 | .bl _=>true
 | .int _=>true
 | .str _=>true
 | _=>false
noncomputable def DD:V->V->Bool
 | .non,.non=>true
 | .bl a,.bl b=>a==b
 | .bl a,.int b=>(if a then 1 else 0)==b
 | .int a,.bl b=>a==(if b then 1 else 0)
 | .int a,.int b=>a==b
 | .str a,.str b=>a==b
 | _,_=>false
def KJ(ry:RelV y u)(rx:RelV x v)(fy:kU y=true)(fx:kU x=true):SeqAt.EqAt A s u v (DD y x):=by
 cases y with
 | non=>
   cases ry;cases x with
   | non=>cases rx;exact SeqAt.EqAt.same _
   | bl b=>cases rx;exact SeqAt.EqAt.none_bool b
   | int b=>obtain⟨t,rfl⟩:=rx;exact SeqAt.EqAt.none_int b t
   | str b=>obtain⟨t,rfl⟩:=rx;exact SeqAt.EqAt.none_str b t
   | _=>exact absurd (show false=true from fx) bq
 | bl a=>
   cases ry;cases x with
   | non=>cases rx;exact SeqAt.EqAt.bool_none a
   | bl b=>cases rx;exact SeqAt.EqAt.bool_bool a b
   | int b=>obtain⟨t,rfl⟩:=rx;exact SeqAt.EqAt.bool_int a b t
   | str b=>obtain⟨t,rfl⟩:=rx;exact SeqAt.EqAt.bool_str a b t
   | _=>exact absurd (show false=true from fx) bq
 | int a=>
   obtain⟨t',rfl⟩:=ry;cases x with
   | non=>cases rx;exact SeqAt.EqAt.int_none a t'
   | bl b=>cases rx;exact SeqAt.EqAt.int_bool a t' b
   | int b=>obtain⟨t,rfl⟩:=rx;exact SeqAt.EqAt.int_int a t' b t
   | str b=>obtain⟨t,rfl⟩:=rx;exact Pa a t' b t
   | _=>exact absurd (show false=true from fx) bq
 | str a=>
   obtain⟨t',rfl⟩:=ry;cases x with
   | non=>cases rx;exact SeqAt.EqAt.str_none a t'
   | bl b=>cases rx;exact SeqAt.EqAt.str_bool a t' b
   | int b=>obtain⟨t,rfl⟩:=rx;exact O_ a t' b t
   | str b=>obtain⟨t,rfl⟩:=rx;exact SeqAt.EqAt.str_str a t' b t
   | _=>exact absurd (show false=true from fx) bq
 | _=>exact absurd (show false=true from fy) bq
noncomputable def HZ(x:V)(u:Value):Bool:=match u with
 | .none=>DD .non x
 | .bool b=>DD (.bl b) x
 | .int i _=>DD (.int i) x
 | .str z _=>DD (.str z) x
 | _=>false
def FM(r:RelV y u)(f:kU y=true):HZ x u=DD y x:=by
 cases y with
 | non=>cases r;rfl
 | bl b=>cases r;rfl
 | int i=>obtain⟨t,rfl⟩:=r;rfl
 | str z=>obtain⟨t,rfl⟩:=r;rfl
 | _=>exact absurd (show false=true from f) bq
theorem xk:∀{xs:List V} {us:List Value},Vals xs us->xs.all kU=true->us.any (HZ x)=xs.any fun y=>DD y x
 | _,_,.nil,_=>rfl
 | y::xs,u::us,.cons r t,f=>by
   rw[fF,bg] at f;rw[h_,h_,FM r f.1,xk t f.2]
theorem sM(rx:RelV x v)(fx:kU x=true):∀{xs:List V} {us:List Value},Vals xs us->xs.all kU=true->∀u∈us,SeqAt.EqAt A s u v (HZ x u)
 | _,_,.nil,_=>fun u hu=>by cases hu
 | y::xs,u::us,.cons r t,f=>fun u' hu=>by
   rw[fF,bg] at f;rcases aE.mp hu with rfl | hu
   · rw[FM r f.1];exact KJ r rx f.1 fx
   · exact sM rx fx t f.2 u' hu
noncomputable def B_(x:V)(xs:List V):Bool:=xs.any fun y=>DD y x
def Om(K:Frag)(neg:Bool):R2:=fun x y H Q=>∃p xs,y= .ref p/\(SqL K H p xs\/SqT K H p xs)/\kU x=true/\xs.all kU=true/\Q (.bl (if neg then !B_ x xs else B_ x xs)) H
def iH:lP X (compareOp .NotIn) (Om X.K true):=by
 intro pins s σ H x y v u Q I rx ry h;obtain⟨p,xs,rfl,hq,fx,fs,q⟩:=h;cases ry;rcases hq with hq | hq
 · obtain⟨its,r,pl,hz⟩:=I.list hq;refine SeqAt.notIn_listAt (HZ x) pl.isList (fun w hw=>sM rx fx r fs w (by simpa using hw)) ⟨.bl _,H,I,rfl,?_⟩;rw[show its.toArray.any (HZ x)=its.any (HZ x) by simp,xk r fs];exact q
 · obtain⟨its,r,pl,hz⟩:=I.tuple hq;refine SeqAt.notIn_tupleAt (HZ x) pl (fun w hw=>sM rx fx r fs w (by simpa using hw)) ⟨.bl _,H,I,rfl,?_⟩;rw[show its.toArray.any (HZ x)=its.any (HZ x) by simp,xk r fs];exact q
def j0:mn X (.builtin "len") (fun xs H Q=>∃p ys,xs=[.ref p]/\(SqL X.K H p ys\/SqT X.K H p ys)/\Q (.int ys.length) H):=by
 intro pins s σ H xs us Q I r h;obtain⟨p,ys,rfl,hq,q⟩:=h;obtain⟨u,rfl,rx⟩:=DI r;cases rx;have hn:=mN;rcases hq with hq | hq
 · obtain⟨its,r',pl,hz⟩:=I.list hq;have hlen:=r'.length;exact Calls.call_len_list pl.isList (by simp only[a_]<;>lia) ⟨.int ys.length,H,I.tok _,⟨s.toks+1,by rw[a_,hlen]⟩,q⟩
 · obtain⟨its,r',pl,hz⟩:=I.tuple hq;have hlen:=r'.length;exact len_tuple pl (by simp only[a_]<;>lia) ⟨.int ys.length,H,I.tok _,⟨s.toks+1,by rw[a_,hlen]⟩,q⟩
def xg:mn X (.builtin "len") (fun xs H Q=>∃z,xs=[.str z]/\z.length<=sizeLine/\Q (.int z.length) H):=by
 intro pins s σ H xs us Q I r h;obtain⟨z,rfl,hz,q⟩:=h;obtain⟨u,rfl,t,rfl⟩:=DI r;have hn:=mN;exact len_str (by lia) ⟨.int z.length,H,I.tok _,⟨_,rfl⟩,q⟩
def eR:mn X (.type "list") (fun xs H Q=>∃p ys,xs=[.ref p]/\(SqL X.K H p ys\/SqT X.K H p ys)/\∀l,H l=none->Q (.ref l) (upd H l (.lst ys))):=by
 intro pins s σ H xs us Q I r h;obtain⟨p,ys,rfl,hq,q⟩:=h;obtain⟨u,rfl,rx⟩:=DI r;cases rx;have fin:∀(its:List Value),Vals ys its->ys.length<=sizeLine->∀(h':Heap) (c':Nat),(∀b o',s.heap.get? b=some o'->h'.get? b=some o')->
  h'.get? s.heap.objs.size=some {cls:= .type "list",dict:=none,data:= .seq its.toArray c',slots:= #[]}->EP X pins σ Q (.ref s.heap.objs.size) {s with heap:=h'}:=fun its r' hz h' c' kp e=>
  ⟨.ref s.heap.objs.size,_,I.laid (t':=s.toks) kp (ar _) (show ObjOk X.prog X.w _ h' _ (.lst ys) from⟨hz,its,c',r',e⟩),rfl,q _ (I.hok.fresh (ar _))⟩
 rcases hq with hq | hq
 · obtain⟨its,r',pl,hz⟩:=I.list hq;have hlen:=r'.length;obtain⟨o,ho,hc,n,hd⟩:=pl.isList;exact call_list_seq p (.inl rfl) ho hc hd (fun h' c' kp e=>fin its r' hz h' c' kp e) (by simp only[a_]<;>lia)
 · obtain⟨its,r',pl,hz⟩:=I.tuple hq;have hlen:=r'.length;obtain⟨o,ho,hc,n,hd⟩:=pl;exact call_list_seq p (.inr rfl) ho hc hd (fun h' c' kp e=>fin its r' hz h' c' kp e) (by simp only[a_]<;>lia)
def Ng(K:Frag)(T:String)(x:V)(H:Hp):Prop:=match x with
 | .str _=>T="str"
 | .int _=>T="int"
 | .ref p=>(T="list"/\∃xs,SqL K H p xs)\/(T="tuple"/\∃o,K.lookup p=some o/\o.cls= .type "tuple"/\o.dict=none)\/(T="dict"/\((∃kvs,H p=some (.dK kvs))\/∃kvs,H p=some (.dT kvs)))\/(T="set"/\∃S n,H p=some (.set S n))
 | _=>False
def DJ{σ:St}(I:Inv X pins σ H s)(r:RelV x v)(ty:Ng X.K T x H):s.TypeIs v T/\∀a,v= .ref a->∃ob,s.heap.get? a=some ob/\ob.dict=none:=by
 cases x with
 | str z=>
   obtain⟨t,rfl⟩:=r;cases(show T="str" from ty);exact⟨OL s z t,fun _ e=>nomatch e⟩
 | int i=>
   obtain⟨t,rfl⟩:=r;cases(show T="int" from ty);exact⟨typeIs_int s i t,fun _ e=>nomatch e⟩
 | ref p=>
   cases r;rcases ty with⟨rfl,xs,hq⟩ | ⟨rfl,o,hk,hc,hd⟩ | ⟨rfl,hk⟩ | ⟨rfl,S,n,hk⟩
   · obtain⟨its,_,pl,_⟩:=I.list hq;refine⟨pl.isList.typeIs,fun a e=> ?_⟩;cases e;obtain⟨o,n,e,c,hd,_⟩:=pl;exact⟨o,e,hd⟩
   · refine⟨⟨o,I.kIn p o hk,hc⟩,fun a e=> ?_⟩;cases e;exact⟨o,I.kIn _ o hk,hd⟩
   · have z:∃o,s.heap.get? p=some o/\o.ExactDict:=by
      rcases hk with⟨kvs,hk⟩ | ⟨kvs,hk⟩
      · obtain⟨_,_,_,_,o,_,_,e,ex,_⟩:=I.hok p _ hk;exact⟨o,e,ex⟩
      · obtain⟨_,_,_,_,o,_,_,e,ex,_⟩:=I.hok p _ hk;exact⟨o,e,ex⟩
     obtain⟨o,e,ex⟩:=z;refine⟨⟨o,e,ex.1⟩,fun a e2=> ?_⟩;cases e2;exact⟨o,e,ex.2.1⟩
   · obtain⟨o,_,_,_,e,ex,_⟩:=I.hok p _ hk;refine⟨⟨o,e,ex.1⟩,fun a e2=> ?_⟩;cases e2;exact⟨o,e,ex.2.1⟩
 | _=>exact False.elim ty
def Nt(K:Frag)(T:String)(r:V->List V->Hp->VK->Prop)(to:TE):TE:=fun σ H Q=>to σ H fun x H1=>Ng K T x H1/\r x [] H1 Q
def Oi(K:Frag)(T:String)(r:V->List V->Hp->VK->Prop)(to:TE)(t:TA):TE:=fun σ H Q=>to σ H fun x H1=>Ng K T x H1/\t σ H1 fun xs H2=>r x xs H2 Q
def Ag{X:Cx}{o:Expr}{to:TE}{name:Str}{apos cpos:Pos}{T id:String}{r:V->List V->Hp->VK->Prop}(pa:PlainAttrs T)(slot:Slot T name id)(hty:typeOf (.builtin id)=pure (.type "method_descriptor"))(hm:M6 X id r)(ho:PE X o to)(hbase:attributeBase o name X.env (eval o X.env)=eval o X.env:=by rfl)(hline:(apos.endLine==cpos.line)=true:=by rfl):PE X (.Call (.Attribute o name apos) [] [] cpos) (Nt X.K T r to):=by
 intro pins s σ H Q I h;refine wpAny_Call_method0_late hbase hline (dD (ho pins s σ H _ I h) fun v s1 ⟨x,H1,I1,r1,ty,q1⟩=> ?_);obtain⟨h1,h2⟩:=DJ I1 r1 ty;exact⟨T,id,pa,slot,hty,h1,h2,jc rfl (PySem.evalArgs_none (hm pins s1 σ H1 x [] v [] Q I1 r1 .nil q1))⟩
def LY{X:Cx}{o e:Expr}{es:List Expr}{to:TE}{t:TA}{name:Str}{apos cpos:Pos}{T id:String}{r:V->List V->Hp->VK->Prop}(pa:PlainAttrs T)(slot:Slot T name id)(hty:typeOf (.builtin id)=pure (.type "method_descriptor"))(hm:M6 X id r)(ho:PE X o to)(ha:PA X (e::es) t)(hbase:attributeBase o name X.env (eval o X.env)=eval o X.env:=by rfl)(hfew:((backTo cpos (starEach (e::es) X.env)).all (fun x=> !x.1)&&(backToKw cpos (keywordEach [] X.env)).all (fun x=>x.1.isSome)&&decide ((e::es).length+([]:List Keyword).length+(if([]:List Keyword).isEmpty then 0 else 1)<30))=true:=by rfl) (hline:(apos.endLine==cpos.line)=true:=by rfl) (hs:starEach (e::es) X.env=(false,eval e X.env)::starEach es X.env:=by rfl) (hplain:(backTo cpos (starEach es X.env)).any (·.1)=false:=by rfl):PE X (.Call (.Attribute o name apos) (e::es) [] cpos) (Oi X.K T r to t):=by
 intro pins s σ H Q I h;refine wpAny_Call_method_late hbase hfew hline rfl (dD (ho pins s σ H _ I h) fun v s1 ⟨x,H1,I1,r1,ty,q1⟩=> ?_);obtain⟨h1,h2⟩:=DJ I1 r1 ty;refine⟨T,id,pa,slot,hty,h1,h2,?_⟩;have hA:=ha cpos pins s1 σ H1 _ I1 q1;rw[hs] at hA⊢;refine jc (by show(false || (backTo cpos (starEach es X.env)).any (·.1))=false;rw[hplain]<;>rfl) (ue ?_);exact dD hA fun us s2 ⟨vs,H2,I2,r2,q2⟩=>hm pins s2 σ H2 x vs v us Q I2 r1 r2 q2
/- xs.append(e), list.index on a module's tuple .. are MtR facts of 06m -/
end
def OA(X:Cx)(id:String)(r:V->List V->Hp->VK->Prop):Prop:=∀(pins:List (Addr × Obj)) (s:Shared) (σ:St) (H:Hp) (x:V) (xs:List V) (v:Value) (us:List Value) (Q:VK),Inv X pins σ H s->RelV x v->Vals xs us->r x xs H Q->wpAny (model X.prog X.w) X.A (call (.builtin id) (v::us)) (EP X pins σ Q) X.xe s
theorem Vals.one:∀{x:V} {us:List Value},Vals [x] us->∃u,us=[u]/\RelV x u
 | _,_,.cons r .nil=>⟨_,rfl,r⟩
theorem Vals.two:∀{x y:V} {us:List Value},Vals [x,y] us->∃u v,us=[u,v]/\RelV x u/\RelV y v
 | _,_,_,.cons r (.cons q .nil)=>⟨_,_,rfl,r,q⟩
theorem Vals.zero:∀{us:List Value},Vals [] us->us=[]
 | _,.nil=>rfl
section
def Inv.lset{σ:St}{its:List Value}(I:Inv X pins σ H s)(hH:H l=some (.lst xs))(e:s.heap.get? l=some {cls:= .type "list",data:= .seq its.toArray n})(hf:f its.toArray=its'.toArray)(hv:Vals ys its')(hz:ys.length<=sizeLine):Inv X pins σ (upd H l (.lst ys)) {s with heap:=s.heap.update l (Obj.mapSeq f),toks:=t'}:=by
 have q:=PySem.IsL.update e f;rw[hf] at q;refine I.write (x:=l) (e:=l) (by rw[hH];exact trivial) (.inl rfl) (fun b' u hb hu=>(MP s.heap (Obj.mapSeq f) (bG hb)).trans hu) ⟨_,q⟩ ?_;exact⟨hz,its',_,hv,q⟩
def Inv.lnew{σ:St}(I:Inv X pins σ H s)(hv:Vals ys its)(hz:ys.length<=sizeLine):Inv X pins σ (upd H s.heap.objs.size (.lst ys)) {s with heap:=s.heap.push {cls:= .type "list",data:= .seq its.toArray},toks:=t'}:=I.laid (fun _ _ q=>aC _ q) (ar _) ⟨hz,its,0,hv,ba _ rfl⟩
def Inv.fresh{σ:St}(I:Inv X pins σ H s):H s.heap.objs.size=none:=I.hok.fresh (ar _)
def Inv.lstM{σ:St}(I:Inv X pins σ H s)(hH:H l=some (.lst xs)):xs.length<=sizeLine/\∃its n,Vals xs its/\xs.length=its.length/\s.heap.get? l=some {cls:= .type "list",data:= .seq its.toArray n}:=by
 obtain⟨z,its,n,r,e⟩:=I.hok l _ hH;exact⟨z,its,n,r,r.length,e⟩
end
section
def BC:V->List V->Hp->VK->Prop:=fun x vs H Q=>onR x fun l=>match vs with | [y]=>∃xs,H l=some (.lst xs)/\xs.length<sizeLine/\Q .non (upd H l (.lst (xs++[y]))) | _=>False
def uS:OA X "list.append" BC:=by
 intro pins s σ H x vs v us Q I rx rv h;obtain⟨l,rfl,h'⟩:=onR.ex h;obtain⟨y,rfl,xs,hH,hz,q⟩:∃y,vs=[y]/\∃xs,H l=some (.lst xs)/\xs.length<sizeLine/\Q .non (upd H l (.lst (xs++[y]))):=by
  split at h'
  · exact⟨_,rfl,h'⟩
  · exact h'.elim
 cases rx;obtain⟨u,rfl,ru⟩:=rv.one;obtain⟨z,its,n,r,hl,e⟩:=I.lstM hH;refine call_meets F.slot_list_append ⟨_,e,rfl⟩ F.entry_list_append (F.args_list_append_2 _ _) (PySem.list_append l its.toArray n u (by rw[a_];lia)) ⟨e,?_⟩;refine⟨.non,_,I.lset (its':=its++[u]) hH e (by simp) (r.append (.cons ru .nil)) ?_,rfl,q⟩;rw[ah,List.length_singleton]
 lia
def JH:V->List V->Hp->VK->Prop:=fun x vs H Q=>∃l xs,x= .ref l/\vs=[]/\H l=some (.lst xs)/\Q .non (upd H l (.lst []))
def EY:OA X "list.clear" JH:=by
 intro pins s σ H x vs v us Q I rx rv h;obtain⟨l,xs,rfl,rfl,hH,q⟩:=h;cases rx;have hus:=rv.zero;subst hus;obtain⟨z,its,n,r,hl,e⟩:=I.lstM hH;refine call_meets F.slot_list_clear ⟨_,e,rfl⟩ F.entry_list_clear (F.args_list_clear_1 _) (AutoSeq1.list_clear_list_0 l its.toArray n (by rw[a_];lia)) ⟨e,?_⟩;exact⟨.non,_,I.lset (its':=[]) (ys:=[]) hH e rfl .nil (ay _),rfl,q⟩
def NL:R2:=fun x y H Q=>∃l b xs zs,x= .ref l/\y= .ref b/\H l=some (.lst xs)/\H b=some (.lst zs)/\xs.length+zs.length<=sizeLine/\∀p,H p=none->Q (.ref p) (upd H p (.lst (xs++zs)))
def wD:lP X (binaryOp .Add) NL:=by
 intro pins s σ H x y v u Q I rx ry h;obtain⟨l,b,xs,zs,rfl,rfl,hH,hB,hz,q⟩:=h;cases rx;cases ry;obtain⟨z,its,n,r,hl,e⟩:=I.lstM hH;obtain⟨z2,its2,n2,r2,hl2,e2⟩:=I.lstM hB;refine PySem.P.add_list e e2 ?_ (by rw[a_,a_];lia);have ea:its.toArray++its2.toArray=(its++its2).toArray:=by simp
 rw[ea];exact⟨.ref _,_,I.lnew (t':=s.toks) (r.append r2) (by rw[ah];lia),rfl,q _ I.fresh⟩
end
section
end
section
end
end L2
namespace Att
open PySem PySem.W PySem.Calls PyProof.Rows
def qe:∀ns vs,WellAll P h vs (ns.map WData.int)->IntsAre vs ns:=by
 intro ns
 induction ns with
 | nil=>
   intro vs w;rw[MH] at w;cases w;exact .nil
 | cons n ns ih=>
   intro vs w;rw[bQ] at w;cases w with
   | cons a b=>
     cases a;exact .cons _ _ (ih _ b)
def CD{l:OpenLaw}{n:Nat}(hn:l.most=some n){P:Params}{h:Heap}{args:List WData}{vals:List Value}(hpre:l.row.toRowW.claim.pre args=true)(hwl:WellAll P h vals args):∃a vs ns,vals=[Value.ref a]/\args=[WData.list (ns.map WData.int)]/\h.get? a=some {cls:= .type "list",data:= .seq vs.toArray}/\IntsAre vs ns/\ns.length<=n:=by
 have hsh:WShape.hasAll [] args [.list .int]=true:=(pre_splitW hpre).1;have hc:l.pre.holds [] {args:=args}=true:=(pre_splitW hpre).2;obtain⟨d,r,rfl,h1,h2⟩:=hasAllW_cons hsh;obtain rfl:=hasAllW_nil h2;obtain⟨xs,rfl,h3⟩:=hasW_list h1;obtain⟨ns,rfl⟩:=items_int h3;have hlen:ns.length<=n:=by
  unfold OpenLaw.pre at hc;have h4:(WTm.not (.lt (.lit (.int (n:Int))) (.len (.arg 0)))).holds [] {args:=[.list (ns.map .int)]}=true:=by
   have h4:=(holds_andW hc).1;rw[hn] at h4;exact h4
  have h5:=condW_of h4 (w_not (w_lt w_lit (w_len_list (w_arg rfl))));rw[ao] at h5;refine Nat.le_of_not_lt fun q=> ?_;have q':(n:Int)<((ns.length:Nat):Int):=by lia
  first
   | (rw[aG q'] at h5;exact absurd h5 (by decide))
   | (simp at h5;lia)
 cases hwl with
 | cons w1 w2=>
   cases w2;cases w1 with
   | list ho hall=>exact⟨_,_,ns,rfl,rfl,ho,qe ns _ hall,hlen⟩
def CL(l:OpenLaw)(args:List WData):l.row.toRowW.claim.post args (.bool true) args=true:=postW_of (r:=l.row.toRowW) (X:=(true==true)) (show WShape.has [] (.bool true) .bool=true by first | rfl | decide | simp[WShape.has,WShape.arms,WShape.armsAll])
  (show(WTm.eq .res (.lit (.bool true))).value [] {args:=args,res:=some (.bool true),after:=args}=some (.bool (true==true)) from w_eq_bool (w_res rfl) w_lit) rfl
def attach_call{l:OpenLaw}(hn:l.most=some n)(hdf:d.params.defaults=[])(call:∀w s₀ s₁ mg mb fa o pm cd doc a vs ns,Ground q loose [] XP w s₀ mg mb s₁.heap->YP w s₁.heap->s₁.heap.get? fa=some o->o.data= .func (docDef d.name d.params d.body d.scope pm cd doc)->s₁.heap.CodeRec cd d.name->mg d.name=some (.ref fa)->s₁.heap.get? a=some {cls:= .type "list",data:= .seq vs.toArray}->IntsAre vs ns->ns.length<=n->s₁.gens= #[]->codeAny (model l.prog w) callerA (.call (.ref fa) ⟨[.ref a],[]⟩) (fun r s'=>r= .ok (.ret (.bool true))/\OldK s₁.heap s'.heap/\s'.os=s₁.os/\AllBare s'.gens) s₁):WalkO q loose XP YP l.row.toRowW d [] (fun f vs=>PySem.call f vs):=by
 intro w s₀ s₁ mg mb G Y fa o pm cd doc dV kV ho hd hcd hD hmg hg args vals as hpre hlay hrd hwl hlo;obtain rfl:dV= .none:=Dflts.none hD hdf;obtain rfl:kV= .none:=Dflts.noKw hD;obtain⟨a,vs,ns,rfl,rfl,hobj,hints,hlen⟩:=CD hn hpre hwl;refine enter_call (AK (call w s₀ s₁ mg mb fa o pm cd doc a vs ns G Y ho (fd_plain hd) hcd hmg hobj hints hlen hg) fun r s' hq=> ?_);obtain⟨rfl,h2,h3,h4⟩:=hq;exact⟨.inl ⟨.bool true,.bool true,[],rfl,fun _=>rfl,.bool true,CL l _,fun _=>⟨List.Pairwise.nil,fun _ hm=>(nomatch hm)⟩⟩,h2,h3,h4⟩
section
end
end Att
namespace L2
open PySem PySem.Spec PyProof.Rows
theorem uj:∀{vs:List Value} {ns:List Int},IntsAre vs ns->Vals (ns.map V.int) vs
 | _,_,.nil=> .nil
 | _,_,.cons n t h=> .cons ⟨t,rfl⟩ (uj h)
def K1(H:Hp):Prop:=∀b,H b=none\/∃o xs,H b=some (.frz o (.lst xs))
def Fm{K:Frag}(KX:K.In s₁.heap)(hns:s₁.heap.Ns mainGlobals mg)(hb:s₁.heap.Ns builtinsNs mb)(hbb:∀x:Str,x≠"__name__"->mb x=bootBuiltins x)(hlim:s₁.heap.NoLimit)(hg:s₁.gens= #[])(ha:s₁.heap.get? a=some {cls:= .type "list",data:= .seq vs.toArray})(hi:IntsAre vs ns)(hl:ns.length<=sizeLine)(hr:Room k callerA)(F:∀base:Heap,K.In base->base.Ns mainGlobals mg->bW P w K mg base CX k fa fd [x] sp)(hbind:∀s u,BindsTo s fd ⟨[u],[]⟩ [(x,u)])(hsp:∀H:Hp,K1 H->SqL K H a (ns.map V.int)->sp [.ref a] H (fun v _=>v= .bl true) fun _ _ _=>False)(hCX:∀H e s',CX [] H s₁ (fun _ _ _=>False) e s'->False):codeAny (model P w) callerA (.call (.ref fa) ⟨[.ref a],[]⟩) (fun r s'=>r= .ok (.ret (.bool true))/\OldK s₁.heap s'.heap/\s'.os=s₁.os/\AllBare s'.gens) s₁:=by
 have rv:=uj hi;have lenV:=hi.length;have core:∀H:Hp,K1 H->SqL K H a (ns.map V.int)->HOk P w H s₁.heap->(∀b,H b≠none->b=a)->(H a≠none->K.lookup a=none)->
  codeAny (model P w) callerA (.call (.ref fa) ⟨[.ref a],[]⟩) (fun r s'=>r= .ok (.ret (.bool true))/\OldK s₁.heap s'.heap/\s'.os=s₁.os/\AllBare s'.gens) s₁:=by
  intro H hO hS hok hA hK;have base_of:∀{b:Addr} {o:Obj},s₁.heap.get? b=some o->H b=none->(wZ s₁.heap H).get? b=some o:=fun e n=>FD e n;have noA:∀{b:Addr} {o:Obj} {es:Array DictEntry} {ep:Nat},s₁.heap.get? b=some o->o.data= .dict es ep->H b=none:=fun {b o es ep} e d=>by
   cases q:H b with
   | none=>rfl
   | some u=>
     have e':b=a:=hA b (by rw[q];simp);subst e';rw[ha] at e;cases e;have d':Data.seq vs.toArray _=Data.dict es ep:=d;cases d'
  have nsK:∀{b:Addr} {m:Str->Option Value},s₁.heap.Ns b m->(wZ s₁.heap H).Ns b m:=fun {b m} ⟨o,es,ep,e,d,r⟩=>⟨o,es,ep,base_of e (noA e d),d,r⟩;have hKb:K.In (wZ s₁.heap H):=fun b o e=>base_of (KX b o e) (by
   cases q:H b with
   | none=>rfl
   | some u=>
     have e':b=a:=hA b (by rw[q];simp);subst e';rw[hK (by rw[q];simp)] at e;cases e)
  have hM:Mod K mg (wZ s₁.heap H):=⟨hKb,nsK hns,⟨mb,nsK hb,hbb⟩,let⟨mc,h1,h2⟩:=hlim;⟨mc,nsK h1,h2⟩⟩;have e0:Env0 P w K mg (wZ s₁.heap H) callerA [] s₁ H:=⟨rfl,hM,fun b o e=>Hx e,Nat.le_of_eq (Dk _ _),trivial,fun b hb=>absurd (show b∈([]:List Addr) from hb) (by simp),hok,.of_eq hg⟩;refine AK ((F _ hKb (nsK hns)).run callerA [] s₁ H ⟨[.ref a],[]⟩ [.ref a] [.ref a] _ _ hr e0 (hbind s₁ (.ref a)) (.cons rfl .nil) (hsp H hO hS)) fun r s' h=> ?_;cases r with
  | error e=>exact(hCX H e s' h).elim
  | ok fl=>
    cases fl with
    | next=>exact False.elim h
    | brk=>exact False.elim h
    | cont=>exact False.elim h
    | ret u=>
      obtain⟨v,H',os,bare,un,hok',r',q⟩:=h;have q':v= .bl true:=q;subst q';obtain rfl:u=Value.bool true:=r';refine⟨rfl,OldK.of_keep fun b o e=> ?_,os,bare⟩;cases q:H b with
      | none=>exact un.keep b o e q (by intro z;exact absurd (show b∈([]:List Addr) from z) (by simp)) (by simp)
      | some u=>
        rcases hO b with z | ⟨ob,xs,z⟩
        · rw[q] at z;cases z
        · have z2:=un.frzs b ob _ z;obtain⟨e1,_⟩:=hok b _ z;obtain⟨e2,_⟩:=hok' b _ z2;rw[e] at e1;cases e1;exact e2
 cases hk:K.lookup a with
 | some o=>
   have e:=KX a o hk;rw[ha] at e;cases e;refine core (fun _=>none) (fun _=> .inl rfl) (.inr ⟨_,vs.toArray,_,hk,rfl,rfl,rfl,by rw[a_,lenV];exact hl,by simpa using rv⟩) (fun b u z=>by have z':(none:Option HO)=some u:=z;cases z') (fun b z=>absurd rfl z) fun z=>absurd rfl z
 | none=>
   refine core (fun b=>if b=a then some (.frz {cls:= .type "list",data:= .seq vs.toArray} (.lst (ns.map V.int))) else none) (fun b=> ?_) (.inl (.inr ⟨{cls:= .type "list",data:= .seq vs.toArray},aI rfl⟩)) (fun b u z=> ?_) (fun b z=> ?_) fun _=>hk
   · by_cases hb:b=a
     · exact .inr ⟨_,_,aI hb⟩
     · exact .inl (aD hb)
   · by_cases hb:b=a
     · have z':=(aI hb).symm.trans z;cases z';subst hb;exact⟨ha,by rw[ao];exact hl,vs,_,rv,ha⟩
     · have z':=(aD hb).symm.trans z;cases z'
   · by_cases hb:b=a
     · exact hb
     · exact absurd (aD hb) z
def walk_of{l:PySem.W.OpenLaw}{K:Params->Frag}{CX:World->Gh}{sp:World->Sp}(hn:l.most=some n)(hn2:n<=sizeLine)(hdf:d.params.defaults=[])(hr:Room k callerA)(hY:∀(w:World) (h:Heap),YP w h->(K w.params).In h)(F:∀(w:World) (mg:Str->Option Value) (fa:Addr) (h:Heap),(K w.params).In h->h.Ns mainGlobals mg->mg d.name=some (.ref fa)->∃fd:FuncData,(∀(s:Shared) (u:Value),BindsTo s fd ⟨[u],[]⟩ [(x,u)])/\∀base:Heap,(K w.params).In base->base.Ns mainGlobals mg->bW l.prog w (K w.params) mg base (CX w) k fa fd [x] (sp w)) (hsp:∀(w:World) (H:Hp) (a:Addr) (ns:List Int),ns.length<=n->K1 H->SqL (K w.params) H a (ns.map V.int)->sp w [.ref a] H (fun v _=>v= .bl true) fun _ _ _=>False) (hCX:∀(w:World) (H:Hp) (s:Shared) (e:Value) (s':Shared),CX w [] H s (fun _ _ _=>False) e s'->False):PySem.W.WalkO q loose XP YP l.row.toRowW d [] (fun f vs=>PySem.call f vs):=by
 refine Att.attach_call hn hdf fun w s₀ s₁ mg mb fa o pm cd doc a vs ns G Y ho hd hcd hmg hobj hints hlen hg=> ?_;have KX:=hY w _ Y;obtain⟨fd,hb,hF⟩:=F w mg fa _ KX G.T.g hmg;exact Fm KX G.T.g G.T.b G.T.builtins G.T.nolimit hg hobj hints (au hlen hn2) hr hF hb (fun H hO hS=>hsp w H a ns hlen hO hS) fun H e s'=>hCX w H s₁ e s'
noncomputable def ee(s:Stmt)(j:Nat):Stmt:=match s with
 | .ClassDef _ _ _ body _ _ _ _ _ _ _=>body.getD j (.Pass ⟨0,0,0,0⟩)
 | _=> .Pass ⟨0,0,0,0⟩
noncomputable def fD(s:Stmt):Arguments:=match s with
 | .FunctionDef _ a _ _ _ _ _ _ _ _=>a
 | _=>{posonlyargs:=[],args:=[],vararg:=none,kwonlyargs:=[],kw_defaults:=[],kwarg:=none,defaults:=[]}
noncomputable def eQ(s:Stmt):List Stmt:=match s with
 | .FunctionDef _ _ b _ _ _ _ _ _ _=>b
 | _=>[]
noncomputable def aJ(s:Stmt):Scope:=match s with
 | .FunctionDef _ _ _ _ _ _ sc _ _ _=>sc
 | _=>{kind:= .function,names:=[],isGenerator:=false,isCoroutine:=false}
abbrev eW:Gh:=fun _ _ _ _ _ _=>False
abbrev E0:XK:=fun _ _ _=>False
def uQ:k8 eW X E0:=fun _ _ _ _ _ _ _ h=>h.elim
structure Fun(K:Frag)(x qual:Str)(st:Stmt)(f:Addr)(fd:FuncData):Prop where
 ex:∃(oc:Value) (od:Option Addr) (kV doc pm:Value) (an:Option Addr) (cdv ct:Value) (osl:Array (Option Value)),fd=fnOf x qual (fD st) (eQ st) (aJ st) .none kV doc pm an cdv ct/\K.lookup f=some ⟨oc,od,.func fd,osl⟩/\codeIn K cdv qual=true
 kp:keepIn K (.ref f)=true
section
def Fun.ok{K:Frag}{st:Stmt}(F:Fun K x qual st f fd)(S:bj N ps (aJ st))(len:∀vs H Q E,sp vs H Q E->vs.length=ps.length)(hbody:∀cdv A outer s H vs Q E,Room k (A.deeper (envOfC qual (aJ st) s.heap.objs.size f cdv))->sp vs H Q E->∃t,PSs (zj eW P w K mg base N qual (aJ st) f cdv A outer s H E).nox (eQ st) t/\t {nx:=fun _ H'=>Q .non H',rt:=Q} (l_ N vs) H):bW P w K mg base eW (k+1) f fd ps sp:=by
 obtain⟨oc,od,kV,doc,pm,an,cdv,ct,osl,rfl,lk,hcd⟩:=F.ex;refine I0 lk hcd S len fun A outer s H vs Q E hr hsp=> ?_;obtain⟨t,h,q⟩:=hbody cdv A outer s H vs Q E hr hsp;exact⟨t,h.nox,q⟩
def Fun.binds{K:Frag}{st:Stmt}(F:Fun K x qual st f fd)(h:∀kV doc pm an cdv ct us,us.length=ps.length->bindArgs (fnOf x qual (fD st) (eQ st) (aJ st) .none kV doc pm an cdv ct) ⟨us,[]⟩=pure (ps.zip us)):Binds K fd ps []:=by
 obtain⟨oc,od,kV,doc,pm,an,cdv,ct,osl,rfl,lk,hcd⟩:=F.ex;exact .all (h kV doc pm an cdv ct)
def w9{K:Frag}{st:Stmt}{kV:Value}(l:K.lookup f=some ⟨oc,od,.func (fnOf x qual (fD st) (eQ st) (aJ st) .none kV doc pm an cdv ct),osl⟩)(c:codeIn K cdv qual=true)(k:keepIn K (.ref f)=true):Fun K x qual st f (fnOf x qual (fD st) (eQ st) (aJ st) .none kV doc pm an cdv ct):=⟨⟨oc,od,kV,doc,pm,an,cdv,ct,osl,rfl,l,c⟩,k⟩
end
def fh(hr:Room k A):A.units+1<cLine:=bz (Nat.add_le_add_left (by decide:1<=64) _) hr.units
def bL(h:n<=1000):n<sizeLine:=bz h (by decide)
section
def pv{X:Cx}(i:Nat){x:Str}{pos:Pos}(hN:X.N[i]? =some x:=by rfl)(hv:MX X.env.scope x:=by first | exact Or.inl rfl | exact Or.inr (Or.inl rfl) | exact Or.inr (Or.inr rfl))(hd:(x==("__debug__":Str))=false:=by decide)(hcd:(x==("__classdict__":Str))=false:=by decide):PE X (.Name x pos) (ow i):=JL hN hv hd hcd
def aA:=fun {a b c}=> @pv a 0 b c
def bf:=fun {a b c}=> @pv a 1 b c
def bH:=fun {a b c}=> @pv a 2 b c
def bU:=fun {a b c}=> @pv a 3 b c
def bX:=fun {a b c}=> @pv a 4 b c
def dH:=fun {a b c}=> @pv a 5 b c
def dN:=fun {a b c}=> @pv a 6 b c
def gN:=fun {a b c}=> @pv a 7 b c
def gM:=fun {a b c}=> @pv a 8 b c
def lQ:=fun {a b c}=> @pv a 9 b c
end
def fS{c A B:Prop}[Decidable c](h1:c->A)(h2:¬ c->B):if c then A else B:=by
 by_cases h:c
 · rw[aI h];exact h1 h
 · rw[aD h];exact h2 h
def Same(H H':Hp):Prop:=∀b o,H b=some o->H' b=some o
def Same.refl(H:Hp):Same H H:=fun _ _ h=>h
def Same.trans(a:Same H H1)(b:Same H1 H2):Same H H2:=fun c o h=>b c o (a c o h)
def Same.seq{K:Frag}(e:Same H H')(h:SqL K H a xs):SqL K H' a xs:=by
 rcases h with(h | ⟨o,h⟩) | h
 · exact .inl (.inl (e _ _ h))
 · exact .inl (.inr ⟨o,e _ _ h⟩)
 · exact .inr h
end L2
set_option maxHeartbeats 4000000
namespace L2
open PySem PySem.Spec PyProof.Rows
def aj(h:H p=none)(o:HO):Same H (upd H p o):=fun b u q=>by rw[aB (br q h)];exact q
def Np(t u:TS):TS:=fun D σ H=>∃M:St->Hp->Prop,t {D with nx:=M} σ H/\∀σ' H',M σ' H'->u D σ' H'
def wq{X:Cx}{st:Stmt}{rest:List Stmt}{t u:TS}(h1:PS X st t)(h2:PSs X rest u):PSs X (st::rest) (Np t u):=by
 intro pins s σ H D I ⟨M,h,hM⟩;refine Cr (dD (h1 pins s σ H {D with nx:=M} I h) fun f s1 q=> ?_);cases f with
 | next=>
   obtain⟨σ',H',I',q⟩:=q;exact h2 pins s1 σ' H' D I' (hM _ _ q)
 | ret v=>exact q
 | brk=>exact q
 | cont=>exact q
noncomputable def DZ:Expr->Option Str
 | .Constant (.str x) _ _=>some x
 | _=>none
noncomputable def ox:List Expr->Option (List Str)
 | []=>some []
 | e::r=>(DZ e).bind fun x=>(ox r).map fun xs=>x::xs
def IB(xs:List Str):TA:=fun _ H Q=>Q (xs.map V.str) H
theorem BY{X:Cx}:∀{es:List Expr} (xs:List Str),ox es=some xs->PA X es (IB xs)
 | [],xs,h=>by
   cases h;exact cz
 | e::r,xs,h=>by
   cases he:DZ e with
   | none=>rw[ox,he] at h;cases h
   | some x=>
     cases hr:ox r with
     | none=>rw[ox,he,hr] at h;cases h
     | some ys=>
       rw[ox,he,hr] at h;cases h;have hc:∃k p,e= .Constant (.str x) k p:=by
        unfold DZ at he
        split at he
        · cases he;exact⟨_,_,rfl⟩
        · cases he
       obtain⟨k,p,rfl⟩:=hc;intro pos pins s σ H Q I q;have z:PA X (.Constant (.str x) k p::r) (dY (tC (.str x)) (IB ys)):=eO aS (BY ys hr);exact z pos pins s σ H Q I q
noncomputable def iZ(cells:List (Str × Addr)):List (Str × NameKind)->List (Str × Addr)->List (Str × Addr)
 | [],acc=>acc
 | (n,k)::r,acc=>iZ cells r (if k== .free then(n,(cells.lookup n).getD 0)::acc else acc)
theorem tJ(env:Env):∀names acc,(∀y∈names,y.2= .free->∃c,env.cells.lookup y.1=some c)->(forIn names acc (fun x cs=>if(x.2==NameKind.free)=true then do let a<-cellOf env x.1;pure (ForInStep.yield ((x.1,a)::cs)) else pure (ForInStep.yield cs)):Sem (List (Str × Addr)))=pure (iZ env.cells names acc)
 | [],acc,_=>rfl
 | (n,k)::r,acc,h=>by
   have ih:=fun acc'=>tJ env r acc' fun y hy=>h y (aK _ hy);rw[iB];cases hk:k==NameKind.free with
   | false=>
     simp only[iZ,hk,Ph,HR,pure_bind];exact ih acc
   | true=>
     obtain⟨c,hc⟩:=h (n,k) aY (by simpa using hk);have hc':env.cells.lookup n=some c:=hc;have e:cellOf env n=pure c:=by unfold cellOf;rw[hc']
     simp only[iZ,hk,kT,e,pure_bind,hc',Option.getD_some];exact ih _
def kW(h:∀y∈scope.names,y.2= .free->∃c,env.cells.lookup y.1=some c):closureFor scope env=pure (iZ env.cells scope.names []):=by
 unfold closureFor;have q:=tJ env scope.names [] h
 first
  | exact q
  | (simp only[bind_pure];exact q)
  | (rw[show(forIn scope.names [] _:Sem (List (Str × Addr)))=_ from q];rfl)
theorem capOf_some:∀names acc,(∀y∈names,y.2= .free->∃c,cells.lookup y.1=some c)->(iZ cells names acc).lookup x=some c->acc.lookup x=some c\/cells.lookup x=some c
 | [],acc,_,h=> .inl h
 | (n,k)::r,acc,hf,h=>by
   have hf':∀y∈r,y.2= .free->∃c,cells.lookup y.1=some c:=fun y hy=>hf y (aK _ hy);cases hk:k==NameKind.free with
   | false=>
     simp only[iZ,hk,Ph,HR] at h;exact capOf_some r acc hf' h
   | true=>
     simp only[iZ,hk,kT] at h;rcases capOf_some r _ hf' h with h | h
     · rw[c_] at h;cases hx:x==n with
       | true=>
         rw[hx] at h;obtain⟨c',hc⟩:=hf (n,k) aY (by simpa using hk);have hc':cells.lookup n=some c':=hc;have e:x=n:=by simpa using hx
         simp only[hc',Option.getD_some] at h;cases h;exact .inr (by rw[e];exact hc')
       | false=>rw[hx] at h;exact .inl h
     · exact .inr h
theorem tK:∀names acc,(∃c,acc.lookup x=some c)->∃c,(iZ cells names acc).lookup x=some c
 | [],_,h=>h
 | (n,k)::r,acc,h=>by
   unfold iZ;refine tK r _ ?_;cases hk:k==NameKind.free with
   | false=>simpa using h
   | true=>
     simp only[kT];rw[c_];cases hx:x==n with
     | true=>exact⟨_,rfl⟩
     | false=>exact h
theorem lK:∀names acc,(x,NameKind.free)∈names->∃c,(iZ cells names acc).lookup x=some c
 | [],_,h=>nomatch h
 | (n,k)::r,acc,h=>by
   rcases aE.mp h with e | h
   · cases e;unfold iZ;refine tK r _ ?_;simp only[beq_self_eq_true,kT];refine⟨(cells.lookup x).getD 0,?_⟩;rw[c_];simp
   · exact lK r _ h
noncomputable def kY(scope outer:Scope):Bool:=(scope.kind== .function)&&scope.names.all fun y=>(y.2 != .cell)&&(y.2 != .local || scope.names.lookup y.1==some .local)&&(y.2 != .free || (outer.names.lookup y.1==some .cell || outer.names.lookup y.1==some .free))
def jK(h:kY scope outer=true):scope.kind= .function:=by
 unfold kY at h;rw[bg] at h;simpa using h.1
def iI(h:kY scope outer=true):∀y∈scope.names,y.2≠ .cell/\(y.2= .local->scope.names.lookup y.1=some .local)/\(y.2= .free->outer.names.lookup y.1=some .cell\/outer.names.lookup y.1=some .free):=by
 unfold kY at h;rw[bg,eZ] at h;intro y hy;have q:=h.2 y hy;simp only[bg,qU,bne_iff_ne,lR,ne_eq] at q;refine⟨q.1.1,fun e=> ?_,fun e=> ?_⟩
 · rcases q.1.2 with z | z
   · exact absurd e z
   · exact z
 · rcases q.2 with z | z
   · exact absurd e z
   · exact z
noncomputable def gF(XN:List Str)(scope:Scope):List Str->List Nat->Bool
 | [],[]=>true
 | x::r,i::t=>(XN[i]? ==some x)&&(scope.names.lookup x==some .free)&&gF XN scope r t
 | _,_=>false
theorem tI:∀{cs:List Str} {caps:List Nat} {j:Nat} {x:Str},gF XN scope cs caps=true->cs[j]? =some x->∃i,caps[j]? =some i/\XN[i]? =some x/\scope.names.lookup x=some .free
 | [],_,j,x,_,h=>by simp at h
 | y::r,[],j,x,h,_=>by simp[gF] at h
 | y::r,i::t,0,x,h,e=>by
   simp only[gF,bg,lR] at h;simp at e;subst e;exact⟨i,rfl,h.1.1,h.1.2⟩
 | y::r,i::t,j+1,x,h,e=>by
   simp only[gF,bg] at h;obtain⟨k,h1,h2⟩:=tI (j:=j) (x:=x) h.2 (by simpa using e);exact⟨k,by simpa using h1,h2⟩
theorem tH:∀{cs:List Str} {caps:List Nat},gF XN scope cs caps=true->cs.length=caps.length
 | [],[],_=>rfl
 | [],_::_,h=>by simp[gF] at h
 | _::_,[],h=>by simp[gF] at h
 | y::r,i::t,h=>by
   simp only[gF,bg] at h;simp[tH h.2]
noncomputable def Bd(nl:Nat)(caps:List Nat)(σ:St):St:=List.replicate nl none++caps.map fun i=>(σ[i]?).getD none
noncomputable def jv(X:Cx)(scope:Scope)(N:List Str)(s:Shared)(H:Hp)(fp:List Addr):Cx:={X with N:=N,s₀:=s,H₀:=H,env:=compEnvC scope (iZ X.env.cells scope.names []) (s.heap.objs.size+1) X.env,outer:=X.stack,stack:=X.stack,ex:=fp,fn:=fun _=>false,pn:=[],xe:=fun _ _=>False}
section
theorem eM{env:Env}{x:Str}{k:NameKind}:∀{names:List (Str × NameKind)},(names.map fun(n,k)=>if(k==NameKind.free&&env.scope.kind== .function&&env.kindOf n==some .cell) then(n,NameKind.cell) else(n,k)).lookup x=some k->(k= .cell\/k= .free)->(x,NameKind.cell)∈names\/(x,NameKind.free)∈names
 | [],h,_=>by simp at h
 | (n,k')::r,h,hk=>by
   have h':List.lookup x ((if(k'==NameKind.free&&env.scope.kind== .function&&env.kindOf n==some .cell)=true then(n,NameKind.cell) else(n,k'))::(r.map fun(n,k)=>if(k==NameKind.free&&env.scope.kind== .function&&env.kindOf n==some .cell) then(n,NameKind.cell) else(n,k)))=some k:=h;by_cases hc:(k'==NameKind.free&&env.scope.kind== .function&&env.kindOf n==some .cell)=true
   · rw[aI hc,c_] at h';cases hx:x==n with
     | true=>
       have e:x=n:=by simpa using hx
       have e2:k'= .free:=by
        rw[bg,bg] at hc;simpa using hc.1.1
       subst e;subst e2;exact .inr aY
     | false=>
       rw[hx] at h';exact(eM h' hk).imp (aK _) (aK _)
   · rw[aD hc,c_] at h';cases hx:x==n with
     | true=>
       rw[hx] at h';have e:x=n:=by simpa using hx
       cases h';subst e;rcases hk with rfl | rfl
       · exact .inl aY
       · exact .inr aY
     | false=>
       rw[hx] at h';exact(eM h' hk).imp (aK _) (aK _)
theorem fR{env:Env}:∀{names:List (Str × NameKind)} {x:Str},names.lookup x=some .free->(names.map fun(n,k)=>if(k==NameKind.free&&env.scope.kind== .function&&env.kindOf n==some .cell) then(n,NameKind.cell) else(n,k)).lookup x=some .cell\/(names.map fun(n,k)=>if(k==NameKind.free&&env.scope.kind== .function&&env.kindOf n==some .cell) then(n,NameKind.cell) else(n,k)).lookup x=some .free
 | [],_,h=>by simp at h
 | (n,k)::r,x,h=>by
   have ih:= @fR env r x;show List.lookup x ((if(k==NameKind.free&&env.scope.kind== .function&&env.kindOf n==some .cell)=true then(n,NameKind.cell) else(n,k))::_)=_\/List.lookup x ((if(k==NameKind.free&&env.scope.kind== .function&&env.kindOf n==some .cell)=true then(n,NameKind.cell) else(n,k))::_)=_;cases hx:x==n with
   | true=>
     simp only[c_,hx] at h;cases h;by_cases hc:(NameKind.free==NameKind.free&&env.scope.kind== .function&&env.kindOf n==some .cell)=true
     · rw[aI hc];left;simp[c_,hx]
     · rw[aD hc];right;simp[c_,hx]
   | false=>
     simp only[c_,hx] at h;by_cases hc:(k==NameKind.free&&env.scope.kind== .function&&env.kindOf n==some .cell)=true
     · rw[aI hc];simp only[c_,hx];exact ih h
     · rw[aD hc];simp only[c_,hx];exact ih h
def dZ{σ:St}(I:Inv X pins σ H s)(hb:kY scope X.env.scope=true):∀y∈scope.names,y.2= .free->∃c,X.env.cells.lookup y.1=some c:=fun y hy e=>
 I.ok.has y.1 ((iI hb y hy).2.2 e)
def xf{σ:St}{fp:List Addr}(I:Inv X pins σ H s)(hb:kY scope X.env.scope=true)(hf:∀b∈fp,lZ X pins H b)(hlt:∀b∈fp,b<s.heap.objs.size):(jv X scope N s H fp).Ok where
 mod:=I.ok.mod
 kind:=show scope.kind= .function from jK (outer:=X.env.scope) hb
 glob:=I.ok.glob
 blt:=I.ok.blt
 above:=bu _
 inj:=fun x y c h1 h2=>by
  have q1:=(capOf_some scope.names [] (dZ I hb) h1).resolve_left (by simp);have q2:=(capOf_some scope.names [] (dZ I hb) h2).resolve_left (by simp);exact I.ok.inj x y c q1 q2
 has:=fun x hx=>by
  have hx':(relabel scope X.env).names.lookup x=some .cell\/(relabel scope X.env).names.lookup x=some .free:=hx;have q:(x,NameKind.cell)∈scope.names\/(x,NameKind.free)∈scope.names:=by
   rcases hx' with z | z
   · exact eM z (.inl rfl)
   · exact eM z (.inr rfl)
  rcases q with q | q
  · exact absurd rfl (iI hb _ q).1
  · exact lK scope.names [] q
 cab:=fun x c h=>nomatch h
 hd:=I.ok.hd
 frames:=I.ok.frames
 stk:= .inl rfl
 exf:=fun b hbm=>⟨bI (dW (hlt b hbm)),fun x c e=>by
  have q:=(capOf_some scope.names [] (dZ I hb) e).resolve_left (by simp);exact(hf b hbm).2.2.2.2.1 x c q⟩
 bs:=I.bs
 bsz:=au I.ok.bsz I.sz
 noex:=fun b o e hbm=>by
  rcases(hf b hbm).2.2.2.1 with z | z
  · exact I.ok.noex b o e z
  · exact absurd (ax (aP e) (au I.ok.bsz z)) (hZ _)
 exfs:=fun b hbm z=>by
  rcases aE.mp (I.stkSub b z) with e | e
  · exact(hf b hbm).2.1 e
  · exact(hf b hbm).2.2.1 e
 funs:=I.stack
 frf:=I.stkFree
def tz{σ σ':St}(I:Inv X pins σ H s)(hf:∀b∈fp,lZ X pins H b)(J:Inv (jv X scope N s H fp) [] σ' H' s'):Inv X pins σ H' s':=I.call' J.os J.base J.hok J.bare fun b hb=>⟨(hf b hb).2.2.2.1,(hf b hb).2.1,(hf b hb).2.2.2.2.1,(hf b hb).2.2.2.2.2⟩
end
def F9(X:Cx)(ifs:List Expr)(t:TT):Prop:=∀(pins:List (Addr × Obj)) (s:Shared) (σ:St) (H:Hp) (Q:Bool->Hp->Prop),Inv X pins σ H s->t σ H Q->wpAny (model X.prog X.w) X.A (forIn ifs true fun c r=>if r=true then do let ok<-isTrue c X.env (eval c X.env);pure (ForInStep.yield ok) else pure (ForInStep.yield r)) (TP X pins σ Q) X.xe s
def Nh:TT:=fun _ H Q=>Q true H
def gW:F9 X [] Nh:=fun _ _ _ H _ I h=>wpAny_tests_nil ⟨H,I,h⟩
def BR(hc:PT X c t):F9 X [c] t:=fun pins s σ H Q I h=>wpAny_tests_one (hc pins s σ H Q I h)
theorem Dv{prog:Program}{w:World}{A:Around}{R:Result->Shared->Prop}{s:Shared}{elt target iter:Expr}{ifs:List Expr}{scope:Scope}{pos:Pos}{it acc:Value}{env:Env}(I:Nat->Shared->Prop)(turn:∀n s,I n s->wpAny (model prog w) A (pyNext it) (fun r s₁=>match r with
 | none=>R (.ok .next) s₁
 | some v=>wpAny (model prog w) A (letOwnedTupleGo target it v) (fun _ s₁'=>wpAny (model prog w) A (assign target env v) (fun _ s₂=>
  wpAny (model prog w) A (forIn ifs true fun c r=>if r=true then do let ok<-isTrue c env (eval c env);pure (ForInStep.yield ok) else pure (ForInStep.yield r)) (fun ok s₃=>
   if ok=true then wpAny (model prog w) A (eval elt env) (fun x s₄=>
    wpAny (model prog w) A (call (.builtin "list.append") [acc,x]) (fun _ s₅=>∃m,m<n/\I m s₅) (fun _ _=>False) s₄) (fun _ _=>False) s₃
   else ∃m,m<n/\I m s₃) (fun _ _=>False) s₂) (fun _ _=>False) s₁') (fun _ _=>False) s₁) (fun _ _=>False) s) (n:Nat) (h:I n s):codeAny (model prog w) A (.compLoop (.ListComp elt [⟨target,iter,ifs,0⟩] scope pos) 0 it acc env) R s:=by
 refine codeAny_loop rfl I (fun n s hI=> ?_) n h;show wpAny _ A ((compTurn (.ListComp elt [⟨target,iter,ifs,0⟩] scope pos) 0 it acc env).onRaise (fun x=>do noteFrame x env;theTreesLotGoes x)) _ _ s;refine wpAny_noted ?_;refine wpAny_noRaise ?_;rw[compTurn_list];refine af (fE (af (cR (turn n s hI) (fun r s₁ h₁=> ?_) fun _ _ h'=>h')));cases r with
 | none=>exact aH h₁
 | some v=>
   refine af (cR h₁ (fun _ s₁' h₁'=> ?_) fun _ _ h'=>h');refine af (cR h₁' (fun _ s₂ h₂=>af (cR h₂ (fun ok s₃ h₃=> ?_) fun _ _ h'=>h')) fun _ _ h'=>h');cases ok with
   | false=>exact aH ⟨rfl,h₃⟩
   | true=>
     exact af (af (cR h₃ (fun x s₄ h₄=>af (cR h₄ (fun _ s₅ h₅=>aH (aH ⟨rfl,h₅⟩)) fun _ _ h'=>h')) fun _ _ h'=>h'))
def KO(J:It)(g:TG)(tc:TT)(te:TE)(D:Addr)(Fin:Hp->Prop)(σ0:St)(H0:Hp):Prop:=∃W:Nat->Nat->St->Hp->Prop,(∃m,W 0 m σ0 H0)/\∀i m σ H,W i m σ H->(J.stop i H/\Fin H)\/(J.go i H/\∃N:St->Hp->Prop,(∀σ' H',N σ' H'->∃m',m'<m/\W (i+1) m' σ' H')/\∀x H1,J.yld i H x H1->g x σ H1 fun σ2 H2=>tc σ2 H2 fun b H3=>
   if b=true then te σ2 H3 fun v H4=>∃xs,H4 D=some (.lst xs)/\xs.length<sizeLine/\N σ2 (upd H4 D (.lst (xs++[v]))) else N σ2 H3)
def jr{Fin:Hp->Prop}(n:Nat)(Pv:Nat->St->Hp->Prop)(h0:Pv 0 σ0 H0)(hend:∀σ H,Pv n σ H->J.stop n H/\Fin H)(hs:∀i σ H,i<n->Pv i σ H->J.go i H/\∀x H1,J.yld i H x H1->g x σ H1 fun σ2 H2=>tc σ2 H2 fun b H3=>
 if b=true then te σ2 H3 fun v H4=>∃xs,H4 D=some (.lst xs)/\xs.length<sizeLine/\Pv (i+1) σ2 (upd H4 D (.lst (xs++[v]))) else Pv (i+1) σ2 H3):KO J g tc te D Fin σ0 H0:=by
 refine⟨fun i m σ H=>m=n - i/\i<=n/\Pv i σ H,⟨n,by simp,ay _,h0⟩,?_⟩;rintro i m σ H ⟨rfl,hi,p⟩;by_cases hlt:i<n
 · obtain⟨q1,q2⟩:=hs i σ H hlt p;exact .inr ⟨q1,Pv (i+1),fun σ' H' p'=>⟨n - (i+1),by lia,rfl,hlt,p'⟩,q2⟩
 · have e:i=n:=by lia
   subst e;exact .inl (hend σ H p)
def ID(wi:TI)(g:TG)(tc:TT)(te:TE)(nl:Nat)(caps:List Nat):TE:=fun σ H Q=>
 wi σ H fun J H1=>∀D,H1 D=none->KO J g tc te D (fun H'=>Q (.ref D) H') (Bd nl caps σ) (upd H1 D (.lst []))
section
def tG{df:List Str}{σ:St}{RR:Value->Addr->Result->Shared->Prop}{Fin:Hp->Prop}(hc:X.calm=true)(hb:kY scope X.env.scope=true)(hcap:gF X.N scope cs caps=true)(I:Inv X pins σ H s)(T:xm X.prog X.w X.K tg J fp it tn)(st:tn 0 s.heap)(hf:∀b∈fp,lZ X pins H b)(hg:PG (jv X scope (df++cs) s H fp) tg g)(ht:F9 (jv X scope (df++cs) s H fp) ifs tc)(he:PE (jv X scope (df++cs) s H fp) elt te)(h:KO J g tc te s.heap.objs.size Fin (Bd df.length caps σ) (upd H s.heap.objs.size (.lst [])))(hRR:∀σ' H' s',Inv (jv X scope (df++cs) s H fp) [] σ' H' s'->Fin H'->RR (.ref s.heap.objs.size) (s.heap.objs.size+1) (.ok .next) s'):wpAny (model X.prog X.w) X.A (newList []) (fun acc s₃=>wpAny (model X.prog X.w) X.A (newFunctionEnv scope X.env.globals (iZ X.env.cells scope.names []) [] X.env.qual none .none (some X.env)) (fun cenv s₄=>
  codeAny (model X.prog X.w) X.A (.compStart (.ListComp elt [⟨tg,iter,ifs,0⟩] scope pos) 0 (.ref it) acc {cenv with scope:=relabel scope X.env}) (RR acc cenv.locals) s₄) E s₃) E s:=by
 have hcell:∀y∈scope.names,y.2≠ .cell:=fun y hy=>(iI hb y hy).1;have hkind:=jK hb;have hlt:∀b∈fp,b<s.heap.objs.size:=fun b hbm=>by
  obtain⟨o,e,_⟩:=T.obj 0 _ st b hbm;exact aP e
 refine dU (Nd hcell (by intro y hy;simp at hy) (fun h₁ hns₁ hsb₁=> ?_) hkind);dsimp only at hns₁ hsb₁⊢;generalize hH2:s.heap.push {cls:= .type "list",dict:=none,data:= .seq ([]:List Value).toArray}=H2 at hns₁ hsb₁⊢;have hC:H2.objs.size=s.heap.objs.size+1:=by rw[<-hH2,eF]
 rw[hC] at hns₁ hsb₁⊢;have hDC:s.heap.objs.size≠s.heap.objs.size+1:=bI (pe _);have below:∀b,b<s.heap.objs.size->b≠s.heap.objs.size+1:=fun b hb=>bI (dW hb);have old:∀b o,s.heap.get? b=some o->h₁.get? b=some o:=fun b o e=>hsb₁.extBut b o (below b (aP e)) (aC _ (hH2 ▸ aC _ e));have hD:h₁.get? s.heap.objs.size=some {cls:= .type "list",dict:=none,data:= .seq ([]:List Value).toArray}:=
  hsb₁.extBut _ _ hDC (aC _ (hH2 ▸ ba _ rfl))
 have frC:H (s.heap.objs.size+1)=none:=I.hok.fresh (bu _);have frD:H s.heap.objs.size=none:=I.hok.fresh (ar _);have J0:Inv (jv X scope (df++cs) s H fp) [] (Bd df.length caps σ) (upd H s.heap.objs.size (.lst [])) {s with heap:=h₁,toks:=s.toks+([]:List (Str × Value)).length}:=by
  refine⟨xf I hb hf hlt,rfl,I.bare,Un.laid old (ar _) frD,⟨_,hns₁,fun i x v e1 e2 e3=> ?_⟩,fun x c e=> ?_,?_,fun x c e=> ?_,fun p hp=>absurd (show p∈([]:List (Addr × Obj)) from hp) (by simp),?_,?_⟩
  · have e1':(df++cs)[i]? =some x:=e1;have hi:df.length<=i:=by
     rcases eV i df.length with hi | hi
     · unfold Bd at e2;rw[b_ (by simpa using hi),pj] at e2
       split at e2<;>cases e2
     · exact hi
    rw[cT hi] at e1';obtain⟨k,q1,q2,q3⟩:=tI hcap e1';unfold Bd at e2;rw[cT (by simpa using hi),fk,bb,q1] at e2;have e2':(σ[k]?).getD none=some v:=by simpa using e2
    have e4:σ[k]? =some (some v):=by
     cases z:σ[k]? with
     | none=>rw[z] at e2';cases e2'
     | some o=>rw[z] at e2';simp at e2';rw[e2']
    have hfr:=(iI hb _ (dg q3)).2.2 rfl;obtain⟨m,hn,hl⟩:=I.loc;obtain⟨u,r,l⟩:=hl k x v q2 e4 (hfr.elim (fun z=> .inr (.inl z)) fun z=> .inr (.inr z));refine⟨u,r,.inr ⟨?_,?_⟩⟩
    · exact fR q3
    · rcases l with⟨k1,_⟩ | ⟨_,c,ec,z⟩
      · exfalso
        have k1':X.env.scope.names.lookup x=some .local:=k1;rcases hfr with z | z<;>(rw[k1'] at z;cases z)
      · obtain⟨c',ec'⟩:=lK (cells:=X.env.cells) scope.names [] (dg q3);have q:=(capOf_some scope.names [] (dZ I hb) ec').resolve_left (by simp);rw[ec] at q;cases q;obtain⟨o,ho,hd⟩:=z;exact⟨c,ec',o,old _ _ ho,hd⟩
  · have q:=(capOf_some scope.names [] (dZ I hb) e).resolve_left (by simp);obtain⟨v,o,ho,hd⟩:=I.cell x c q;exact⟨v,o,old _ _ ho,hd⟩
  · show upd H s.heap.objs.size (.lst []) (s.heap.objs.size+1)=none;rw[aB (bG hDC)];exact frC
  · have q:=(capOf_some scope.names [] (dZ I hb) e).resolve_left (by simp);obtain⟨v,o,ho,hd⟩:=I.cell x c q;rw[aB (bI (aP ho))];exact I.freeC x c q
  · exact I.hok.laid old (ar _) ⟨ay _,[],0,.nil,hD⟩
  · show(Bd df.length caps σ).length=(df++cs).length;unfold Bd;rw[ah,fk,ao,ah,tH hcap]
 obtain⟨W,⟨m0,w0⟩,turn⟩:=h;have stat:∀{H':Hp},(∀b∈fp,H' b=none)->∀b∈fp,lZ (jv X scope (df++cs) s H fp) [] H' b:=fun {H'} hn b hbm=>by
  have q:=(xf (N:=df++cs) I hb hf hlt);refine⟨hn b hbm,(q.exf b hbm).1,q.exfs b hbm,.inl hbm,(q.exf b hbm).2,fun p hp=>absurd (show p∈([]:List (Addr × Obj)) from hp) (by simp)⟩
 have fr0:∀b∈fp,upd H s.heap.objs.size (.lst []) b=none:=fun b hbm=>by rw[aB (bI (hlt b hbm))];exact(hf b hbm).1
 have loop:∀s₃:Shared,s₃={s with heap:=h₁,toks:=s.toks+([]:List (Str × Value)).length}->
  codeAny (model X.prog X.w) X.A (.compLoop (.ListComp elt [⟨tg,iter,ifs,0⟩] scope pos) 0 (.ref it) (.ref s.heap.objs.size) (jv X scope (df++cs) s H fp).env) (RR (.ref s.heap.objs.size) (s.heap.objs.size+1)) s₃:=by
  rintro s₃ rfl;refine Dv (fun n s'=>∃i σ' H',Inv (jv X scope (df++cs) s H fp) [] σ' H' s'/\tn i s'.heap/\(∀b∈fp,H' b=none)/\W i n σ' H') ?_ m0 ⟨0,_,_,J0,T.keep _ _ _ st fun b _ o e=>old b o e,fr0,w0⟩;rintro n s3 ⟨i,σ3,H3,I3,st3,fr3,w3⟩;rcases turn i n σ3 H3 w3 with⟨stop,qn⟩ | ⟨go,Nn,hNn,step⟩
  · refine dD (T.done (jv X scope (df++cs) s H fp) rfl rfl rfl hc i [] s3 σ3 H3 _ I3 (stat fr3) st3 stop) fun r s4 ⟨hr,I4⟩=> ?_;subst hr;exact hRR σ3 H3 s4 I4 qn
  · refine dD (T.item (jv X scope (df++cs) s H fp) rfl rfl rfl hc i [] s3 σ3 H3 _ I3 (stat fr3) st3 go) fun r s4 ⟨u,hr,h4⟩=> ?_;subst hr;refine dD h4 fun _ s5 ⟨x,H5,I5,r5,y5,st5,fr5⟩=> ?_;have I5':=I5.pinned (stat fr5) (T.obj _ _ st5);have again:∀{σ7:St} {H7:Hp} {s7:Shared},Inv (jv X scope (df++cs) s H fp) ([]++mJ fp s5.heap) σ7 H7 s7->Nn σ7 H7->
     ∃m,m<n/\∃i σ' H',Inv (jv X scope (df++cs) s H fp) [] σ' H' s7/\tn i s7.heap/\(∀b∈fp,H' b=none)/\W i m σ' H':=fun {σ7 H7 s7} I7 n7=>by
     obtain⟨m',hm,w7⟩:=hNn σ7 H7 n7;refine⟨m',hm,i+1,σ7,H7,I7.unpinned,T.keep _ _ _ st5 fun b hb o e=>(I7.pin (b,o) (aL _ (aL _ (gR hb e)))).1,fun b hb=> ?_,w7⟩;obtain⟨o,e,d⟩:=T.obj _ _ st5 b hb;exact(I7.pin (b,o) (aL _ (aL _ (gR hb e)))).2.1
    refine dD (hg _ s5 σ3 H5 x u _ I5' r5 (step x H5 y5)) fun _ s6 ⟨σ6,H6,I6,q6⟩=> ?_;refine dD (ht _ s6 σ6 H6 _ I6 q6) fun b s7 ⟨H7,I7,q7⟩=> ?_;cases b with
    | false=>exact again I7 q7
    | true=>
      refine dD (he _ s7 σ6 H7 _ I7 q7) fun u8 s8 ⟨v8,H8,I8,r8,xs,e8,z8,q8⟩=> ?_;refine dD (uS (X:=jv X scope (df++cs) s H fp) ([]++mJ fp s5.heap) s8 σ6 H8 (.ref s.heap.objs.size) [v8] (.ref s.heap.objs.size) [u8] (fun _ H9=>Nn σ6 H9) I8 rfl (.cons r8 .nil) ⟨xs,e8,z8,q8⟩) fun _ s9 ⟨_,H9,I9,_,q9⟩=> ?_;exact again I9 q9
 exact codeAny_compStart_list (loop _ rfl) (T.self _ 0 _ _ _ (T.keep _ _ _ st fun b _ o e=>old b o e) (loop _ rfl))
def lF{X:Cx}{tg iter elt:Expr}{ifs:List Expr}{scope:Scope}{pos:Pos}{wi:TI}{g:TG}{tc:TT}{te:TE}(df cs:List Str)(caps:List Nat)(hc:X.calm=true)(hi:PI X tg iter wi)(hg:∀s H fp,PG (jv X scope (df++cs) s H fp) tg g)(ht:∀s H fp,F9 (jv X scope (df++cs) s H fp) ifs tc)(he:∀s H fp,PE (jv X scope (df++cs) s H fp) elt te)(hb:kY scope X.env.scope=true:=by rfl)(hcap:gF X.N scope cs caps=true:=by rfl)(hs:∀x,foldedSetIterable iter X.env x=pure x:=by intro _;rfl):PE X (.ListComp elt [⟨tg,iter,ifs,0⟩] scope pos) (ID wi g tc te df.length caps):=by
 intro pins s σ H Q I h;rw[eval_ListComp];refine mZ (use:=none) rfl hs (kW (dZ I hb)) (jK hb) (fun y hy=>(iI hb y hy).2.1) (dD (hi pins s σ H _ I h) fun v s1 h1=>dD h1 fun itv s2 h2=> ?_);obtain⟨it,fp,tn,J,H2,e,I2,T,st2,f2,q⟩:=h2;subst e;refine tG (RR:=fun acc C=>compPost (model X.prog X.w) X.A X.xe none (EP X pins σ Q) acc C) (df:=df) (cs:=cs) (Fin:=fun H'=>Q (.ref s2.heap.objs.size) H') hc hb hcap I2 T st2 f2 (hg _ _ _) (ht _ _ _) (he _ _ _) (q _ (I2.hok.fresh (ar _))) ?_;intro σ' H' s' J' q';obtain⟨m,hn,_⟩:=J'.loc;refine⟨m,hn,fun h' hs'=> ?_⟩;have I3:=tz I2 f2 J';have fr:H' (s2.heap.objs.size+1)=none:=J'.free;refine⟨.ref s2.heap.objs.size,H',I3.turned (t':=s'.toks) (it:=s2.heap.objs.size+1) (fun b o hb e=>(hs'.2 b hb).trans e) fr ?_ (.inr (au I2.sz (bu _))) ?_ ?_,rfl,q'⟩
 · exact ja (dW I2.lt)
 · intro x c e z;obtain⟨v,hv⟩:=I2.cell x c e;have h1:s2.heap.objs.size+1<s2.heap.objs.size:=z ▸ hv.lt;exact absurd h1 (qi.mpr (bu _))
 · intro p hp z;have h1:s2.heap.objs.size+1<s2.heap.objs.size:=z ▸ aP (I2.pin p hp).1;exact absurd h1 (qi.mpr (bu _))
def qF{X:Cx}{tg iter elt:Expr}{ifs:List Expr}{scope:Scope}{pos:Pos}{wi:TI}{g:TG}{tc:TT}{te:TE}{i:Nat}{y:Str}{py spos:Pos}(df cs:List Str)(caps:List Nat)(hN:X.N.Nodup)(hiy:X.N[i]? =some y)(hc:X.calm=true)(hi:PI X tg iter wi)(hg:∀s H fp,PG (jv X scope (df++cs) s H fp) tg g)(ht:∀s H fp,F9 (jv X scope (df++cs) s H fp) ifs tc)(he:∀s H fp,PE (jv X scope (df++cs) s H fp) elt te)(hy:X.env.scope.names.lookup y=some .local:=by rfl)(hsw:swapsWith (.ListComp elt [⟨tg,iter,ifs,0⟩] scope pos) (some (.Name y py)) spos.line X.env=pure true:=by rfl)(hb:kY scope X.env.scope=true:=by rfl)(hcap:gF X.N scope cs caps=true:=by rfl)(hs:∀x,foldedSetIterable iter X.env x=pure x:=by intro _;rfl):PS X (.Assign [.Name y py] (.ListComp elt [⟨tg,iter,ifs,0⟩] scope pos) spos) (GI (ID wi g tc te df.length caps) (ir i)):=by
 intro pins s σ H D I h;rw[exec_Assign_Name_used _ _ _ _ hsw];refine af (fE (af ?_));show wpAny _ X.A (do let _<-comprehension (.ListComp elt [⟨tg,iter,ifs,0⟩] scope pos) scope X.env _ (newList []) false (eval iter X.env) (some (assign (.Name y py) X.env))) _ _ s;refine af (cR (mZ (use:=some (assign (.Name y py) X.env)) (Q:=fun _ s'=>SP X pins D .next s') rfl hs (kW (dZ I hb)) (jK hb) (fun y hy=>(iI hb y hy).2.1)
  (dD (hi pins s σ H _ I h) fun v s1 h1=>dD h1 fun itv s2 h2=> ?_)) (fun _ s' hq=>aH (aH hq)) fun _ _ e=>e)
 obtain⟨it,fp,tn,J,H2,e,I2,T,st2,f2,q⟩:=h2;subst e;refine tG (RR:=fun acc C=>compPost (model X.prog X.w) X.A X.xe (some (assign (.Name y py) X.env)) (fun _ s'=>SP X pins D .next s') acc C) (df:=df) (cs:=cs) (Fin:=fun H'=>ir i (.ref s2.heap.objs.size) σ H' D.nx) hc hb hcap I2 T st2 f2 (hg _ _ _) (ht _ _ _) (he _ _ _) (q _ (I2.hok.fresh (ar _))) ?_;intro σ' H' s' J' q';obtain⟨m,hn,_⟩:=J'.loc;have I3:=tz I2 f2 J';have fr:H' (s2.heap.objs.size+1)=none:=J'.free;have neL:s2.heap.objs.size+1≠X.env.locals:=ja (dW I2.lt);have neC:∀x c,X.env.cells.lookup x=some c->c≠s2.heap.objs.size+1:=fun x c e z=>by
  obtain⟨v,hv⟩:=I2.cell x c e;have h1:s2.heap.objs.size+1<s2.heap.objs.size:=z ▸ hv.lt;exact absurd h1 (qi.mpr (bu _))
 show wpAny _ X.A (assign (.Name y py) X.env (.ref s2.heap.objs.size)) _ _ s';refine Pj (uo I3 hN hiy (.inl hy) (v:= .ref s2.heap.objs.size) rfl (fun s4 I4 hsb=> ?_) (.inr hy));obtain⟨a,sb,ha⟩:=hsb;have ane:s2.heap.objs.size+1≠a:=by
  rcases ha with rfl | ha
  · exact neL
  · exact bG (neC _ _ ha)
 refine⟨m,hn.sameBut sb ane,fun h' hs'=> ?_⟩;refine⟨_,H',I4.turned (t':=s4.toks) (it:=s2.heap.objs.size+1) (fun b o hb e=>(hs'.2 b hb).trans e) fr neL (.inr (au I2.sz (bu _))) neC ?_,q'⟩;intro p hp z;have h1:s2.heap.objs.size+1<s2.heap.objs.size:=z ▸ aP (I2.pin p hp).1;exact absurd h1 (qi.mpr (bu _))
end
noncomputable def ML(x:Str):It:=⟨fun i _=>i<x.cps.size,fun i H v H'=>H'=H/\∃c,x.cps[i]? =some c/\v= .str ⟨#[c]⟩,fun i _=>i=x.cps.size⟩
def DN{K:Frag}(it:Addr)(x:Str)(t:Tok)(T:String)(hT:T="str_ascii_iterator"\/T="str_iterator")(W:∀A':Around,A'.handled=none->Walks P w A' it [it] [it] x.cps.size (SignAt x) (fun i h=>h.IsStrIter it T x t i)):xm P w K tg (ML x) [it] it (fun i h=>h.IsStrIter it T x t i) where
 mem:=by simp
 obj:=fun i h st b hb=>by
  have e:b=it:=by simpa using hb
  subst e;obtain⟨o,e,c,d⟩:=st;exact⟨o,e,fun v z=>by rw[d] at z;cases z⟩
 keep:=fun i h h' st k=>by
  obtain⟨o,e,r⟩:=st;exact⟨o,k it (by simp) o e,r⟩
 item:=by
  intro X hP hw hK hc i pins s σ H E I hf st hg;subst hP hw hK;obtain⟨f0,f1,f2,f3,f4,f5⟩:=hf it (by simp);refine(W X.A (I.ok.hd hc)).item i s _ _ hg st fun v h' tk hv st' kk=> ?_;obtain⟨c,u,hcx,rfl⟩:=hv;have I1:Inv X pins σ H {s with heap:=h',toks:=tk}:=I.turned (fun b o hb e=>kk b o (by simpa using hb) e) f0 f1 f3 f4 f5;obtain⟨o,e,c1,d⟩:=id st';refine⟨_,rfl,Ca (s:={s with heap:=h',toks:=tk}) e c1 d (by rcases hT with rfl | rfl<;>decide) ⟨.str ⟨#[c]⟩,H,I1,⟨u,rfl⟩,⟨rfl,c,hcx,rfl⟩,st',fun b hb=>(hf b hb).1⟩⟩
 done:=by
  intro X hP hw hK hc i pins s σ H E I hf st hg;subst hP hw hK;have hg':i=x.cps.size:=hg;subst hg';obtain⟨f0,f1,f2,f3,f4,f5⟩:=hf it (by simp);exact(W X.A (I.ok.hd hc)).done s _ _ st fun h' tk kk=>⟨rfl,I.turned (fun b o hb e=>kk b o (by simpa using hb) e) f0 f1 f3 f4 f5⟩
 self:=fun A i s Q E st h=>by
  rcases hT with rfl | rfl
  · exact wpAny_pyIter_striter_ascii st h
  · exact wpAny_pyIter_striter_wide st h
section
def NX(tl:TE):TI:=fun σ H R=>tl σ H fun x H1=>∃z,x= .str z/\R (ML z) H1
def Eo(hl:PE X l tl):PI X tg l (NX tl):=by
 intro pins s σ H R I h;refine dD (hl pins s σ H _ I h) fun v s1 ⟨x,H1,I1,r1,q1⟩=> ?_;obtain⟨z,rfl,q⟩:=q1;obtain⟨t,rfl⟩:=r1;have fin:∀(T:String) (o:Obj),(T="str_ascii_iterator"\/T="str_iterator")->(∀A':Around,A'.handled=none->Walks X.prog X.w A' s1.heap.objs.size [s1.heap.objs.size] [s1.heap.objs.size] z.cps.size (SignAt z) (fun i h=>h.IsStrIter s1.heap.objs.size T z t i))->
  (s1.heap.push o).IsStrIter s1.heap.objs.size T z t 0->N5 X pins σ tg R (.ref s1.heap.objs.size) {s1 with heap:=s1.heap.push o}:=fun T o hT W st=>by
  refine⟨s1.heap.objs.size,[s1.heap.objs.size],_,_,H1,rfl,I1.kept (t':=s1.toks) fun b o e=>aC _ e,DN _ z t T hT W,st,fun b hb=> ?_,q⟩;have e:b=s1.heap.objs.size:=by simpa using hb
  subst e;exact I1.fpOk (ar _) (I1.hok.fresh (ar _))
 cases ha:z.cps.all (· <128)
 · exact wpAny_pyIter_wide ha (fin "str_iterator" _ (.inr rfl) (fun A' hA=>Walks.strWide hA _ z t) ⟨_,ba _ rfl,rfl,rfl⟩)
 · exact wpAny_pyIter_ascii ha (fin "str_ascii_iterator" _ (.inl rfl) (fun A' hA=>Walks.strAscii hA _ z t) ⟨_,ba _ rfl,rfl,rfl⟩)
end
def HW{g:TG}{tb:TS}{D:qm}(Pv:Nat->St->Hp->Prop)(h0:Pv 0 σ H)(hs:∀i c σ H,z.cps[i]? =some c->Pv i σ H->g (.str ⟨#[c]⟩) σ H fun σ2 H2=>tb {D with nx:=Pv (i+1),ct:=Pv (i+1),bk:=D.nx} σ2 H2)(hd:∀σ H,Pv z.cps.size σ H->D.nx σ H):∃W:Nat->Nat->St->Hp->Prop,(∃m,W 0 m σ H)/\∀i m σ H,W i m σ H->((ML z).stop i H/\D.nx σ H)\/((ML z).go i H/\∃N:St->Hp->Prop,(∀σ' H',N σ' H'->∃m',m'<m/\W (i+1) m' σ' H')/\∀x H',(ML z).yld i H x H'->g x σ H' fun σ2 H2=>tb {D with nx:=N,ct:=N,bk:=D.nx} σ2 H2):=by
 refine⟨fun i m σ H=>m=z.cps.size - i/\i<=z.cps.size/\Pv i σ H,⟨z.cps.size,by simp,ay _,h0⟩,?_⟩;rintro i m σ H ⟨rfl,hi,p⟩;by_cases hlt:i<z.cps.size
 · refine .inr ⟨hlt,Pv (i+1),fun σ' H' p'=>⟨z.cps.size - (i+1),by lia,rfl,hlt,p'⟩,fun x H' y=> ?_⟩;obtain⟨e,c,hc,rfl⟩:=y;subst e;exact hs i c σ _ hc p
 · have e:i=z.cps.size:=by lia
   subst e;exact .inl ⟨rfl,hd σ H p⟩
section
def yx(p:IsPart u o):∃l:Option (Int × Tok),u=partValue l/\l.map (·.1)=o:=by
 cases p with
 | none=>exact⟨none,rfl,rfl⟩
 | int i t=>exact⟨some (i,t),rfl,rfl⟩
def NH:V->Option Int->Option Int->Hp->VK->Prop:=fun x lo hi H Q=>∃z,x= .str z/\z.length<=sizeLine/\Q (.str (Txt.slice z lo hi)) H
def kG:M0 X NH:=by
 intro pins s σ H x v vl vu lo hi sl Q I rx hs pl pu h;obtain⟨z,rfl,hz,q⟩:=h;obtain⟨t,rfl⟩:=rx;obtain⟨l,rfl,rfl⟩:=yx pl;obtain⟨u,rfl,rfl⟩:=yx pu;refine⟨"str",_,F.slot_str_getitem.lookup,OL _ _ _,wpAny_getItem_str_slice (l:=l) (u:=u) (st:=none) hs rfl ?_⟩;exact post_val_or_str ⟨au (Mz z _ _) hz,fun t' k=>⟨.str (Txt.slice z (l.map (·.1)) (u.map (·.1))),H,I.tok _,⟨t',rfl⟩,q⟩⟩
def HS(lo hi:Option Int)(n:Nat):Builtin.Str.strSliceIndices lo hi 1 n=(List.range (HT.sIx n n hi - HT.sIx n 0 lo)).map fun k=>HT.sIx n 0 lo+k:=by
 have c:∀(v:Int) (d:Nat),max 0 (min (if v<0 then v+(n:Int) else v) (n:Int))=((HT.sIx n d (some v):Nat):Int):=fun v d=>by
  rw[<-HT.clip_eq v n d];by_cases hv:v<0
  · simp only[aI hv];lia
  · simp only[aD hv];lia
 have key:∀i j:Nat,sliceRange (i:Int) (j:Int) 1=(List.range (j - i)).map fun k=>i+k:=fun i j=>by
  unfold sliceRange;simp only[show(1:Int)>0 by decide,kT];have e:(if(i:Int)<(j:Int) then((j:Int) - i+1 - 1)/1 else 0).toNat=j - i:=by
   split<;>lia
  rw[e];refine List.map_congr_left fun k _=> ?_
  lia
 rw[<-key];unfold Builtin.Str.strSliceIndices;simp only[show(1:Int)>0 by decide,kT];cases lo with
 | none=>
   cases hi with
   | none=>rfl
   | some v=>rw[<-c v n];rfl
 | some u=>
   cases hi with
   | none=>rw[<-c u 0];rfl
   | some v=>rw[<-c v n,<-c u 0]
def jF(x:Str)(lo hi:Option Int):(Txt.slice x lo hi).cps.toList=(x.cps.toList.drop (HT.sIx x.length 0 lo)).take (HT.sIx x.length x.length hi - HT.sIx x.length 0 lo):=by
 have h0:=HT.sIx_le x.length 0 (ay _) lo;have h1:=HT.sIx_le x.length x.length (ar _) hi;have hx:x.cps.toList.length=x.length:=by simp[Str.length]
 unfold Txt.slice;rw[HS]
 split
 · rename_i h;rw[bg] at h;have h':HT.sIx x.length x.length hi - HT.sIx x.length 0 lo=x.length:=by
    have z:=h.2;rw[ao,jb] at z;exact eq_of_beq z
   have h2:HT.sIx x.length 0 lo=0:=by lia
   rw[h',h2,ud,cZ (by lia)]
 · show(List.filterMap _ _).toArray.toList=_;rw[Pg];apply Pr;intro k;have key:(List.range (HT.sIx x.length x.length hi - HT.sIx x.length 0 lo)).filterMap ((fun i=>x.cps[i]?)∘fun k=>HT.sIx x.length 0 lo+k)=(x.cps.toList.drop (HT.sIx x.length 0 lo)).take (HT.sIx x.length x.length hi - HT.sIx x.length 0 lo):=by
    generalize HT.sIx x.length 0 lo=i at h0⊢;have hj:i+(HT.sIx x.length x.length hi - i)<=x.length\/HT.sIx x.length x.length hi - i=0:=by lia
    generalize HT.sIx x.length x.length hi - i=d at hj⊢
    induction d with
    | zero=>simp
    | succ d ih=>
      rw[qQ,M7,ih (by lia),bK]
      congr 1
      have hlt:i+d<x.cps.size:=by simp[Str.length] at hj;lia
      simp[hlt]
   simpa using congrArg (fun l:List Nat=>l[k]?) key
def lH:lP X (compareOp .LtE) (fun x y H Q=>∃i j,x= .str i/\y= .str j/\Q (.bl (!decide (j.cps.toList<i.cps.toList))) H):=by
 intro pins s σ H x y v u Q I rx ry h;obtain⟨i,j,rfl,rfl,q⟩:=h;obtain⟨t,rfl⟩:=rx;obtain⟨t',rfl⟩:=ry;exact P.le_str ⟨.bl (!decide (j.cps.toList<i.cps.toList)),H,I,rfl,q⟩
def CH(bs:List Bool):(List.range bs.length).all (fun i=>(bs[i]?).getD true)=bs.all id:=by
 rw[j_,eZ,eZ];constructor
 · intro h b hb;obtain⟨i,hi,e⟩:=List.mem_iff_getElem.mp hb;have q:=h i (dm.mpr hi);rw[aN hi,e] at q;exact q
 · intro h i hi;have hi':=dm.mp hi;rw[aN hi'];exact h _ (fQ hi')
def u_(hc:X.calm=true):mn X (.builtin "all") (fun xs H Q=>∃(p:Addr) (bs:List Bool),xs=[.ref p]/\SqL X.K H p (bs.map V.bl)/\Q (.bl (bs.all id)) H):=by
 intro pins s σ H xs us Q I r h;obtain⟨p,bs,rfl,hp,q⟩:=h;obtain⟨u,rfl,ru⟩:=r.one;cases ru;obtain⟨its,rv,pl,hz⟩:=I.list hp;have hh:X.A.in1.handled=none:=I.ok.hd hc;have hlt:p<s.heap.objs.size:=by obtain⟨_,e,_⟩:=pl.isList;exact aP e
 have hlen:its.length=bs.length:=by have:=rv.length;simpa using this.symm
 refine call_all_walk (Pi pl.isList ⟨s.heap.objs.size,[s.heap.objs.size,p],[s.heap.objs.size],its.toArray.size,_,_,fun i=>(bs[i]?).getD true,rfl,Walks.list hh _ _ (bI hlt) its.toArray,⟨⟨_,ba _ rfl,rfl,rfl⟩,pl.isList.push _⟩,?_,?_⟩)
 · intro i v s' Q' E' hv hq;have hv':its[i]? =some v:=by simpa using hv
   cases hb:bs[i]? with
   | none=>
     have z:bs.length<=i:=by simpa using hb
     rw[jx (by lia)] at hv';cases hv'
   | some b=>
     obtain⟨u,hu,ru⟩:=rv.get (i:=i) (x:=V.bl b) (by rw[bb,hb];rfl);rw[hv'] at hu;cases hu;obtain rfl:v=Value.bool b:=ru;have hq':Q' b s':=by
      have z:(fun i=>(bs[i]?).getD true) i=b:=by simp[hb]
      rw[z] at hq;exact hq
     exact dR hq'
 · intro h' tk hk;have I1:Inv X pins σ H {s with heap:=h',toks:=tk}:=I.kept fun b o e=>hk b o (fun z=>by
    have z':b=s.heap.objs.size:=by simpa using z
    exact absurd (z' ▸ aP e) (hZ _)) (aC _ e)
   refine⟨.bl (bs.all id),H,I1,?_,q⟩;show Value.bool _=Value.bool _;rw[a_,hlen,CH]
def kX:mn X (.builtin "isinstance") (fun xs H Q=>∃x n t b,xs=[x,.ty n]/\TyOf X.K H x t/\kitOne X.K t (.type n)=some b/\Q (.bl b) H):=by
 intro pins s σ H xs us Q I r h;obtain⟨x,n,t,b,rfl,ty,e,q⟩:=h;obtain⟨u,v,rfl,ru,rv⟩:=r.two;cases rv;exact Dh I ru ty e fun tk=>⟨.bl b,H,I.tok _,rfl,q⟩
end
section
end
inductive Kd where
 | nm (x:Str)
 | two (a b:Kd)
 | som (r:Str) (c:Kd)
 deriving DecidableEq
noncomputable def Kd.dep:Kd->Nat
 | .nm _=>0
 | .two a b=>1+max a.dep b.dep
 | .som _ c=>1+c.dep
noncomputable def Kd.nt:Kd->Nat
 | .nm _=>0
 | .two a b=>1+a.nt+b.nt
 | .som _ c=>1+c.nt
noncomputable def Kd.sz:Kd->Nat
 | .nm _=>1
 | .two a b=>1+a.sz+b.sz
 | .som _ c=>1+c.sz
noncomputable def Kd.inner:Kd->List Kd
 | .nm _=>[]
 | .two a b=>[a,b]
 | .som _ c=>[c]
theorem Kd.dep_le_nt:∀k:Kd,k.dep<=k.nt
 | .nm _=>ar _
 | .two a b=>by
   have h1:=dep_le_nt a;have h2:=dep_le_nt b;simp only[Kd.dep,Kd.nt];lia
 | .som _ c=>by
   have h1:=dep_le_nt c;simp only[Kd.dep,Kd.nt];lia
def IsK(H:Hp):Kd->V->Prop
 | .nm x,v=>v= .str x
 | .two a b,v=>∃(p:Addr) (x y:V),v= .ref p/\H p=some (.tup [.str "both",x,y])/\IsK H a x/\IsK H b y
 | .som r c,v=>∃(p:Addr) (y:V),v= .ref p/\H p=some (.tup [.str "some",.str r,y])/\IsK H c y
def Tups(H H':Hp):Prop:=∀b xs,H b=some (.tup xs)->H' b=some (.tup xs)
def Tups.refl(H:Hp):Tups H H:=fun _ _ h=>h
def Tups.trans(a:Tups H H1)(b:Tups H1 H2):Tups H H2:=fun c o h=>b c o (a c o h)
def Same.tups(h:Same H H'):Tups H H':=fun b xs e=>h b _ e
def DO(h:H p=some (.lst xs)):Tups H (upd H p o):=fun b ys e=>by
 rw[aB (IR e h (by intro z;cases z))];exact e
theorem IsK.mono(t:Tups H H'):∀{k:Kd} {v:V},IsK H k v->IsK H' k v
 | .nm _,_,h=>h
 | .two _ _,_,⟨p,x,y,e,h,ha,hb⟩=>⟨p,x,y,e,t _ _ h,IsK.mono t ha,IsK.mono t hb⟩
 | .som _ _,_,⟨p,y,e,h,hc⟩=>⟨p,y,e,t _ _ h,IsK.mono t hc⟩
def nX:(Str.ofString "both":Str)≠Str.ofString "some":=by decide+kernel
section
def uV(A:Around):A.in1.units=A.units+1:=rfl
end
def KL(H:Hp):List V->List Kd->Prop:=Paired fun v k=>IsK H k v
def KL.mono{H H':Hp}(t:Tups H H'){xs:List V}{ks:List Kd}(h:KL H xs ks):KL H' xs ks:=Paired.imp' (fun _ _ q=>IsK.mono t q) h
def KL.len(h:KL H xs ks):xs.length=ks.length:=aX h
theorem KL.get:∀{xs:List V} {ks:List Kd} {i:Nat} {v:V},KL H xs ks->xs[i]? =some v->∃k,ks[i]? =some k/\IsK H k v
 | _,_,_,_,.nil,e=>by simp at e
 | _,_,0,_,.cons r _,e=>by simp at e;subst e;exact⟨_,rfl,r⟩
 | _,_,i+1,v,.cons _ t,e=>by
   obtain⟨u,h1,h2⟩:=KL.get (i:=i) (v:=v) t (by simpa using e);exact⟨u,by simpa using h1,h2⟩
section
end
section
abbrev TF:=Str->St->Hp->(Str->Hp->Prop)->Prop
def PF(X:Cx)(es:List Expr)(t:TF):Prop:=∀(pins:List (Addr × Obj)) (s:Shared) (σ:St) (H:Hp) (out:Str) (Q:Str->Hp->Prop),Inv X pins σ H s->t out σ H Q->wpAny (model X.prog X.w) X.A (joinParts out (evalEach es X.env)) (fun v s'=>∃z H',Inv X pins σ H' s'/\RelV (.str z) v/\Q z H') X.xe s
def OR:TF:=fun out _ H Q=>out.length<=sizeLine/\Q out H
def Oh(te:TE)(t:TF):TF:=fun out σ H Q=>te σ H fun x H1=>∃y,x= .str y/\y.length<=sizeLine/\(out++y).length<=sizeLine/\t (out++y) σ H1 Q
def Er:PF X [] OR:=fun pins s σ H out Q I h=>joinParts_nil ⟨out,H,I.tok _,⟨_,rfl⟩,h.2⟩ h.1
def oQ(he:PE X e te)(hr:PF X es t):PF X (e::es) (Oh te t):=by
 intro pins s σ H out Q I h;show wpAny _ _ (joinParts out (eval e X.env::evalEach es X.env)) _ _ s;refine joinParts_cons (dD (he pins s σ H _ I h) fun v s1 ⟨x,H1,I1,r1,q1⟩=> ?_);obtain⟨y,rfl,_,hz,q⟩:=q1;obtain⟨u,rfl⟩:=r1;exact⟨hz,hr pins s1 σ H1 (out++y) Q I1 q⟩
def wz(he:PE X e te)(hr:PF X es t):PF X (.FormattedValue e (-1) none pos::es) (Oh te t):=by
 intro pins s σ H out Q I h;show wpAny _ _ (joinParts out (eval (.FormattedValue e (-1) none pos) X.env::evalEach es X.env)) _ _ s;refine joinParts_cons (FormattedValue_plain (dD (he pins s σ H _ I h) fun v s1 ⟨x,H1,I1,r1,q1⟩=> ?_));obtain⟨y,rfl,hy,hz,q⟩:=q1;obtain⟨u,rfl⟩:=r1;exact formatField_str (fun t' tk=>⟨hz,hr pins _ σ H1 (out++y) Q (I1.tok _) q⟩) hy
def OQ(t:TF):TE:=fun σ H Q=>t Str.empty σ H fun z H'=>Q (.str z) H'
def BW{rest:List Expr}(h:PF X (v1::v2::rest) t):PE X (.JoinedStr (v1::v2::rest) pos) (OQ t):=by
 intro pins s σ H Q I q;refine JoinedStr_many (dD (h pins s σ H Str.empty _ I q) fun v s1 ⟨z,H1,I1,r1,q1⟩=>⟨.str z,H1,I1,r1,q1⟩)
end
section
end
section
end
section
def Inv.turnedL{σ:St}{fp:List Addr}(I:Inv X pins σ H s)(hf:∀b∈fp,lZ X pins H b)(k:∀b o,b∉fp->s.heap.get? b=some o->h'.get? b=some o):Inv X pins σ H {s with heap:=h',toks:=t'}:=by
 have nit:∀b u,H b=some u->b∉fp:=fun b u e z=>by rw[(hf b z).1] at e;cases e
 refine I.step (g':=s.gens) (d':=s.drawn) (ch:=fp) (fun b hb=> ?_) (fun b o _ _ hc e _=>k b o hc e) (fun b o _ _ hc e _=>⟨o.slots,k b o hc e⟩) (fun _ _ _ _ n=>n) (fun b o hc e=>⟨o,k b o hc e⟩) (fun _ _ e=>e) (fun _ _ _ e=>e) (fun b ps e=>⟨#[],by rw[e];simp⟩) (fun m hm=> ?_) (fun b u e=> ?_) I.bare
 · obtain⟨f0,f1,f2,f3,f4,f5⟩:=hf b hb;exact⟨f3,f1,f4,f5⟩
 · obtain⟨o,es,ep,ho,r⟩:=hm;exact⟨o,es,ep,k _ o (fun z=>(hf _ z).2.1 rfl) ho,r⟩
 · refine(I.hok b u e).stay (fun c v hc q=>k c v ?_ q) (fun _ q=>q) fun _ _ q=>q;rcases hc with z | z
   · rw[z];exact nit b u e
   · exact nit c _ z
def Inv.turnedT{σ:St}{fp:List Addr}{T:Addr}(I:Inv X pins σ H s)(hf:∀b∈fp,lZ X pins H b)(k:∀b o,b∉fp->s.heap.get? b=some o->h'.get? b=some o)(hT:s.heap.objs.size<=T)(new:ObjOk X.prog X.w (upd H T u) h' T u):Inv X pins σ (upd H T u) {s with heap:=h',toks:=t'}:=by
 have nit:∀b u,H b=some u->b∉fp:=fun b u e z=>by rw[(hf b z).1] at e;cases e
 have hn:H T=none:=I.hok.fresh hT;have nT:∀b o,s.heap.get? b=some o->b≠T:=fun b o e=>bI (ax (aP e) hT);refine I.step (g':=s.gens) (d':=s.drawn) (ch:=fp) (fun b hb=> ?_) (fun b o _ _ hc e _=>k b o hc e) (fun b o _ _ hc e _=>⟨o.slots,k b o hc e⟩) (fun b o _ e n=>by rw[aB (nT b o e)];exact n)
  (fun b o hc e=>⟨o,k b o hc e⟩) (fun b xs e=>by rw[aB (br e hn)];exact e) (fun b o u e=>by rw[aB (br e hn)];exact e) (fun b ps e=>⟨#[],by rw[aB (br e hn),e];simp⟩) (fun m hm=> ?_) (fun b u' e=> ?_) I.bare
 · obtain⟨f0,f1,f2,f3,f4,f5⟩:=hf b hb;exact⟨f3,f1,f4,f5⟩
 · obtain⟨o,es,ep,ho,r⟩:=hm;exact⟨o,es,ep,k _ o (fun z=>(hf _ z).2.1 rfl) ho,r⟩
 · by_cases hb:b=T
   · subst hb;rw[aa] at e;cases e;exact new
   · rw[aB hb] at e;refine(I.hok b u' e).stay (fun c v hc q=>k c v ?_ q) (fun c q=>by rw[aB (br q hn)];exact q) fun c xs q=>by rw[aB (br q hn)];exact q
     rcases hc with z | z
     · rw[z];exact nit b u' e
     · exact nit c _ z
end
section
def parts_len(x:Str)(cuts:List Nat)(n:Nat):(Builtin.Str.partsBetween x cuts n).length=cuts.length+1:=by
 unfold Builtin.Str.partsBetween;simp
end
section
variable {κ:Type}[DecidableEq κ]
noncomputable def cS(kvs:List (κ × V))(k:κ):Option V:=(kvs.find? fun kv=>decide (kv.1=k)).map (·.2)
noncomputable def bZ(kvs:List (κ × V))(k:κ)(v:V):List (κ × V):=if(kvs.any fun kv=>decide (kv.1=k))=true then kvs.map (fun kv=>if kv.1=k then(kv.1,v) else kv) else kvs++[(k,v)]
theorem fG{p:κ × V}{r:List (κ × V)}{k:κ}(e:p.1=k):cS (p::r) k=some p.2:=by simp[cS,iC,e]
theorem fH{p:κ × V}{r:List (κ × V)}{k:κ}(e:¬ p.1=k):cS (p::r) k=cS r k:=by simp[cS,iC,e]
theorem m_(k:κ):∀kvs:List (κ × V),(kvs.any fun kv=>decide (kv.1=k))=(cS kvs k).isSome
 | []=>rfl
 | p::r=>by
   rw[h_];by_cases e:p.1=k
   · simp only[fG e,aG e,Bool.true_or,Option.isSome_some]
   · rw[fH e,aq e,Bool.false_or];exact m_ k r
theorem xG(k j:κ)(y:V):∀kvs:List (κ × V),cS (kvs.map fun kv=>if kv.1=k then(kv.1,y) else kv) j=(cS kvs j).map fun x=>if j=k then y else x
 | []=>rfl
 | p::r=>by
   have ih:=xG k j y r;rw[bQ];by_cases h:p.1=k
   · rw[aI h];by_cases e:p.1=j
     · rw[fG (p:=(p.1,y)) e,fG e,iA,aI (e.symm.trans h)]
     · rw[fH (p:=(p.1,y)) e,fH e,ih]
   · rw[aD h];by_cases e:p.1=j
     · rw[fG (p:=p) e,fG e,iA,aD (fun z=>h (e.trans z))]
     · rw[fH (p:=p) e,fH e,ih]
theorem uk(k j:κ)(y:V):∀kvs:List (κ × V),cS kvs k=none->cS (kvs++[(k,y)]) j=if j=k then some y else cS kvs j
 | [],_=>by
   by_cases e:k=j
   · rw[aI e.symm];exact fG (p:=(k,y)) e
   · rw[aD (fun z=>e z.symm)];exact fH (p:=(k,y)) e
 | p::r,hn=>by
   rw[bP];have hk:¬ p.1=k:=fun z=>by rw[fG z] at hn;cases hn
   rw[fH hk] at hn;have ih:=uk k j y r hn;by_cases e:p.1=j
   · rw[fG e,fG e,aD (fun z=>hk (e.trans z))]
   · rw[fH e,fH e,ih]
theorem jA(kvs:List (κ × V))(k j:κ)(y:V):cS (bZ kvs k y) j=if j=k then some y else cS kvs j:=by
 unfold bZ;by_cases a:(kvs.any fun kv=>decide (kv.1=k))=true
 · rw[aI a,xG];rw[m_] at a;by_cases e:j=k
   · obtain⟨x,hx⟩:=K0.mp a;rw[aI e,e,hx,iA,aI rfl]
   · rw[aD e];cases cS kvs j with
     | none=>rfl
     | some x=>rw[iA,aD e]
 · rw[aD a];refine uk k j y kvs ?_;rw[m_] at a;cases q:cS kvs k with
   | none=>rfl
   | some x=>rw[q] at a;exact(a rfl).elim
theorem dt(kvs:List (κ × V))(k:κ)(v:V):(bZ kvs k v).length<=kvs.length+1:=by
 unfold bZ
 split
 · rw[ao];lia
 · rw[ah,aR,cJ];lia
theorem RelO.isSome_eq{o:Option V}{u:Option Value}(r:RelO o u):o.isSome=u.isSome:=by
 cases o with
 | none=>cases u with
   | none=>rfl
   | some _=>exact(show False from r).elim
 | some _=>cases u with
   | none=>exact(show False from r).elim
   | some _=>rfl
theorem RelO.getD{o:Option V}{u:Option Value}{d:V}{d':Value}(r:RelO o u)(rd:RelV d d'):RelV (o.getD d) (u.getD d'):=by
 cases o with
 | none=>cases u with
   | none=>exact rd
   | some _=>exact(show False from r).elim
 | some _=>cases u with
   | none=>exact(show False from r).elim
   | some _=>exact r
theorem KV.val{kvs:List (κ × V)}{vs:List (κ × Value)}(r:KV kvs vs)(k:κ):RelO (cS kvs k) (valueAt vs k):=by
 unfold KV at r
 induction r with
 | nil=>exact True.intro
 | @cons p q ps qs h t ih=>
   obtain⟨h1,h2⟩:=h;by_cases e:p.1=k
   · have e':q.1=k:=h1.symm.trans e;have b:valueAt (q::qs) k=some q.2:=by simp[valueAt,iC,e']
     rw[fG e,b];exact h2
   · have e':¬ q.1=k:=fun z=>e (h1.trans z);have b:valueAt (q::qs) k=valueAt qs k:=by simp[valueAt,iC,e']
     rw[fH e,b];exact ih
theorem KV.any{kvs:List (κ × V)}{vs:List (κ × Value)}(r:KV kvs vs)(k:κ):(kvs.any fun kv=>decide (kv.1=k))=vs.any fun kv=>decide (kv.1=k):=by
 unfold KV at r
 induction r with
 | nil=>rfl
 | cons h t ih=>rw[h_,h_,ih,h.1]
theorem KV.repl{kvs:List (κ × V)}{vs:List (κ × Value)}(r:KV kvs vs)(k:κ){y:V}{u:Value}(ry:RelV y u):KV (kvs.map fun kv=>if kv.1=k then(kv.1,y) else kv) (vs.map fun kv=>if kv.1=k then(kv.1,u) else kv):=by
 unfold KV at r⊢
 induction r with
 | nil=>exact .nil
 | @cons p q ps qs h t ih=>
   rw[bQ,bQ];refine .cons ?_ ih;obtain⟨h1,h2⟩:=h;by_cases e:p.1=k
   · rw[aI e,aI (h1.symm.trans e)];exact⟨h1,ry⟩
   · rw[aD e,aD (fun z=>e (h1.trans z))];exact⟨h1,h2⟩
theorem KV.put{kvs:List (κ × V)}{vs:List (κ × Value)}(r:KV kvs vs)(k:κ){y:V}{u:Value}(ry:RelV y u):KV (bZ kvs k y) (stored vs k u):=by
 unfold bZ stored;rw[r.any k];by_cases e:(vs.any fun kv=>decide (kv.1=k))=true
 · rw[aI e,aI e];exact r.repl k ry
 · rw[aD e,aD e];exact Paired.snoc r ⟨rfl,ry⟩
theorem KV.length{kvs:List (κ × V)}{vs:List (κ × Value)}(r:KV kvs vs):kvs.length=vs.length:=aX r
end
def nU(r:RelV (kV k) u):(cN P w).is k u=true:=by
 cases k with
 | inl i=>obtain⟨t,e⟩:=(show ∃t,u=Value.int i t from r);subst e;exact yR P w i t
 | inr x=>obtain⟨t,e⟩:=(show ∃t,u=Value.str x t from r);subst e;exact yQ P w x t
def Kv(e:kV a=kV b):a=b:=by
 cases a with
 | inl i=>cases b with
   | inl j=>have e':V.int i=V.int j:=e;injection e' with e';rw[e']
   | inr y=>exact nomatch (show V.int i=V.str y from e)
 | inr x=>cases b with
   | inl j=>exact nomatch (show V.str x=V.int j from e)
   | inr y=>have e':V.str x=V.str y:=e;injection e' with e';rw[e']
theorem uU:∀{ks:List Key} {us:List Value},Vals (ks.map kV) us->ItemsAre (cN P w) ks us
 | [],_,r=>by rw[MH] at r;cases r;exact .nil
 | k::ks,_,r=>by
   rw[bQ] at r;cases r with
   | cons h t=>exact .cons (nU h) (uU t)
abbrev KT(H:Hp):List (List Key × V)->List (List Key × Addr × Value)->Prop:=Paired fun p q=>p.1=q.1/\H q.2.1=some (.tup (p.1.map kV))/\RelV p.2 q.2.2
def KT.val(r:KT H kvs xs)(k:List Key):RelO (cS kvs k) ((atKey xs k).map (·.2)):=by
 induction r with
 | nil=>exact True.intro
 | @cons p q ps qs h t ih=>
   obtain⟨h1,_,h2⟩:=h;by_cases e:p.1=k
   · have e':q.1=k:=h1.symm.trans e;have b:atKey (q::qs) k=some q.2:=by simp[atKey,iC,e']
     rw[fG e,b];exact h2
   · have e':¬ q.1=k:=fun z=>e (h1.trans z);have b:atKey (q::qs) k=atKey qs k:=by simp[atKey,iC,e']
     rw[fH e,b];exact ih
def KT.repl{H:Hp}{kvs:List (List Key × V)}{xs:List (List Key × Addr × Value)}(r:KT H kvs xs)(k:List Key){y:V}{u:Value}(ry:RelV y u):KT H (kvs.map fun kv=>if kv.1=k then(kv.1,y) else kv) (xs.map (putAt k u)):=by
 induction r with
 | nil=>exact .nil
 | @cons p q ps qs h t ih=>
   rw[bQ,bQ];refine .cons ?_ ih;obtain⟨h1,h2,h3⟩:=h;unfold putAt;by_cases e:p.1=k
   · rw[aI e,aI (h1.symm.trans e)];exact⟨h1,h2,ry⟩
   · rw[aD e,aD (fun z=>e (h1.trans z))];exact⟨h1,h2,h3⟩
def KT.put{H:Hp}{kvs:List (List Key × V)}{xs:List (List Key × Addr × Value)}(r:KT H kvs xs)(k:List Key){b:Addr}{y:V}{u:Value}(hb:H b=some (.tup (k.map kV)))(ry:RelV y u):KT H (bZ kvs k y) (storedH xs k b u):=by
 have e:(kvs.any fun kv=>decide (kv.1=k))=(atKey xs k).isSome:=by
  rw[m_,(r.val k).isSome_eq,AO]
 unfold bZ storedH;rw[e];by_cases q:(atKey xs k).isSome=true
 · rw[aI q,aI q];exact r.repl k ry
 · rw[aD q,aD q];exact Paired.snoc r ⟨rfl,hb,ry⟩
def KT.keeps(r:KT H kvs xs)(ht:∀b ys,H b=some (.tup ys)->H' b=some (.tup ys)):KT H' kvs xs:=Paired.mapP r fun _ _ z=>⟨z.1,ht _ _ z.2.1,z.2.2⟩
section
def IK(ok:HOk P w H h)(e:Rd H a u):ObjOk P w H h a u:=e.ok ok
def tm(ok:HOk P w H h)(e:Rd H a (.dK kvs)):kvs.length<=sizeLine/\(a==sysModules)=false/\∃vs,KV kvs vs/\h.DictOf (cN P w) a vs:=
 show ObjOk P w H h a (.dK kvs) from IK ok e
def zg(ok:HOk P w H h)(e:H a=some (.dK kvs)):kvs.length<=sizeLine/\(a==sysModules)=false/\∃vs,KV kvs vs/\h.DictOf (cN P w) a vs:=tm ok (.inl e)
def oZ(ok:HOk P w H h)(e:H a=some (.tup (ks.map kV))):(tupleKind (cN P w)).is h ks a:=by
 obtain⟨_,its,r,o,h1,h2,n,h3⟩:=(show ObjOk P w H h a (.tup (ks.map kV)) from ok a _ e);exact⟨o,its.toArray,n,h1,h2,h3,by simpa using uU r⟩
def tj(ok:HOk P w H h)(e:Rd H a (.dT kvs)):kvs.length<=sizeLine/\(a==sysModules)=false/\∃xs,KT H kvs xs/\h.DictOfH (tupleKind (cN P w)) a xs:=by
 obtain⟨z,y,xs,r,o,es,ep,h1,h2,h3,h4,h5⟩:=(show ObjOk P w H h a (.dT kvs) from IK ok e);refine⟨z,y,xs,r,o,es,ep,h1,h2,h3,h4,fun x hx=> ?_,h5⟩;have all:∀{l:List (List Key × V)} {m:List (List Key × Addr × Value)},KT H l m->∀x∈m,(tupleKind (cN P w)).is h x.1 x.2.1:=by
  intro l m q
  induction q with
  | nil=>intro x hx;exact nomatch hx
  | @cons p q ps qs hq t ih=>
    intro x hx;rcases aE.mp hx with e | hx
    · subst e;exact oZ ok (by rw[<-hq.1];exact hq.2.1)
    · exact ih x hx
 exact all r x hx
def Ms(ok:HOk P w H h)(e:H a=some (.dT kvs)):kvs.length<=sizeLine/\(a==sysModules)=false/\∃xs,KT H kvs xs/\h.DictOfH (tupleKind (cN P w)) a xs:=tj ok (.inl e)
end
def DGet(H:Hp)(a:Addr)(y:V)(r:Option V):Prop:=(∃kvs k,Rd H a (.dK kvs)/\y=kV k/\r=cS kvs k)\/∃kvs k b,Rd H a (.dT kvs)/\y= .ref b/\H b=some (.tup (k.map kV))/\r=cS kvs k
def DPut(H:Hp)(a:Addr)(y v:V)(H':Hp):Prop:=(∃kvs k,H a=some (.dK kvs)/\y=kV k/\kvs.length<sizeLine/\H'=upd H a (.dK (bZ kvs k v)))\/∃kvs k b,H a=some (.dT kvs)/\y= .ref b/\H b=some (.tup (k.map kV))/\kvs.length<sizeLine/\H'=upd H a (.dT (bZ kvs k v))
def DGet.k{k:Key}(e:H a=some (.dK kvs)):DGet H a (kV k) (cS kvs k):= .inl ⟨kvs,k,.inl e,rfl,rfl⟩
def DGet.t{k:List Key}(e:H a=some (.dT kvs))(eb:H b=some (.tup (k.map kV))):DGet H a (.ref b) (cS kvs k):= .inr ⟨kvs,k,b,.inl e,rfl,eb,rfl⟩
def DPut.k{k:Key}(e:H a=some (.dK kvs))(hl:kvs.length<sizeLine):DPut H a (kV k) v (upd H a (.dK (bZ kvs k v))):= .inl ⟨kvs,k,e,rfl,hl,rfl⟩
section
def Inv.big{σ:St}(I:Inv X pins σ H s):sysModules<s.heap.objs.size:=by
 have h:mainGlobals<s.heap.objs.size:=(I.mod.glob.keeps I.bk).lt;exact Nat.lt_trans (by decide) h
def Dt{σ:St}(hu:A.units+1<cLine)(I:Inv X pins σ H s)(g:DGet H a y (some v))(ry:RelV y u)(h:∀w' s',Inv X pins σ H s'->RelV v w'->Q w' s'):wpAny (model X.prog X.w) A (getItem (.ref a) u) Q E s:=by
 rcases g with⟨kvs,k,e,ey,l⟩ | ⟨kvs,k,b,e,ey,eb,l⟩
 · subst ey;obtain⟨z,hd,vs,rel,dd⟩:=tm I.hok e;obtain⟨w',hw,rw'⟩:=RelO.some_of (v:=v) (o:=valueAt vs k) (by rw[l];exact rel.val k);exact wpAny_getItem_of (nU ry) dd.mapOf hw (h w' _ (I.tok _) rw')
 · subst ey;cases(show u=Value.ref b from ry);obtain⟨z,hd,xs,rel,dd⟩:=tj I.hok e;obtain⟨w',hw,rw'⟩:=RelO.some_of (v:=v) (o:=(atKey xs k).map (·.2)) (by rw[l];exact rel.val k);obtain⟨p,hp,hp2⟩:=cj.mp hw;refine wpAny_getItem_heap (iG hu) (oZ I.hok eb) dd hp ?_;rw[hp2];exact h w' _ (I.tok _) rw'
def NZ{σ:St}(hu:A.units+1<cLine)(I:Inv X pins σ H s)(g:DGet H a y o)(ry:RelV y u)(h:∀s',Inv X pins σ H s'->Q (.bool o.isSome) s'):wpAny (model X.prog X.w) A (compareOp .In u (.ref a)) Q E s:=by
 rcases g with⟨kvs,k,e,ey,l⟩ | ⟨kvs,k,b,e,ey,eb,l⟩
 · subst ey;obtain⟨z,hd,vs,rel,dd⟩:=tm I.hok e;refine wpAny_in_of (nU ry) hd dd.mapOf ?_;rw[<-(rel.val k).isSome_eq,<-l];exact h _ (I.tok _)
 · subst ey;cases(show u=Value.ref b from ry);obtain⟨z,hd,xs,rel,dd⟩:=tj I.hok e;refine wpAny_in_heap (iG hu) (oZ I.hok eb) hd dd ?_;have q:=(rel.val k).isSome_eq;rw[AO] at q;rw[<-q,<-l];exact h _ (I.tok _)
def Ib{σ:St}(hu:A.units+1<cLine)(I:Inv X pins σ H s)(g:DGet H a y o)(ry:RelV y u)(h:∀s',Inv X pins σ H s'->Q (.bool (!o.isSome)) s'):wpAny (model X.prog X.w) A (compareOp .NotIn u (.ref a)) Q E s:=by
 rcases g with⟨kvs,k,e,ey,l⟩ | ⟨kvs,k,b,e,ey,eb,l⟩
 · subst ey;obtain⟨z,hd,vs,rel,dd⟩:=tm I.hok e;refine wpAny_notIn_of (nU ry) hd dd.mapOf ?_;rw[<-(rel.val k).isSome_eq,<-l];exact h _ (I.tok _)
 · subst ey;cases(show u=Value.ref b from ry);obtain⟨z,hd,xs,rel,dd⟩:=tj I.hok e;refine wpAny_notIn_heap (iG hu) (oZ I.hok eb) hd dd ?_;have q:=(rel.val k).isSome_eq;rw[AO] at q;rw[<-q,<-l];exact h _ (I.tok _)
def qP{σ:St}(I:Inv X pins σ H s)(mu:MG (H a))(hs:Heap.SameBut a s.heap h')(he:∃q,h'.get? a=some q)(new:ObjOk X.prog X.w (upd H a ob) h' a ob):Inv X pins σ (upd H a ob) {s with heap:=h',toks:=t'}:=I.write (x:=a) (e:=a) mu (.inl rfl) (fun b q hb z=>(hs.2 b hb).trans z) he new
def AJ(z:kvs.length<=sizeLine)(hd:(a==sysModules)=false)(rel:KV kvs vs)(dd:h'.DictOf (cN P w) a vs):ObjOk P w H' h' a (.dK kvs):=⟨z,hd,vs,rel,dd⟩
def Ds{σ:St}(hu:A.units+1<cLine)(I:Inv X pins σ H s)(g:DPut H a y v H')(ry:RelV y u)(rv:RelV v r)(h:∀s',Inv X pins σ H' s'->Q () s'):wpAny (model X.prog X.w) A (setItem (.ref a) u r) Q E s:=by
 rcases g with⟨kvs,k,e,ey,l,eH⟩ | ⟨kvs,k,b,e,ey,eb,l,eH⟩
 · subst ey eH;obtain⟨z,hd,vs,rel,dd⟩:=zg I.hok e;have hz:vs.length<=sizeLine:=by rw[<-rel.length];exact z
   have hl:(bZ kvs k v).length<=sizeLine:=by have:=dt kvs k v;lia
   refine wpAny_setItem_pairs (hsz:=hz) (nU ry) dd fun h' dd' hs=>h _ ?_;have he:∃q,h'.get? a=some q:=let⟨q,_,_,hq,_⟩:=dd';⟨q,hq⟩
   exact qP I (by rw[e];exact True.intro) hs he (AJ hl hd (rel.put k rv) dd')
 · subst ey eH;cases(show u=Value.ref b from ry);obtain⟨z,hd,xs,rel,dd⟩:=Ms I.hok e;have hz:xs.length<=sizeLine:=by rw[<-aX rel];exact z
   have hl:(bZ kvs k v).length<=sizeLine:=by have:=dt kvs k v;lia
   refine wpAny_setItem_heap (hsz:=hz) (iG hu) (oZ I.hok eb) dd fun h' dd' hs=>h _ ?_;obtain⟨q,es,ep,hq,h2,h3,h4,_,h5⟩:=dd';refine qP I (by rw[e];exact True.intro) hs ⟨q,hq⟩ ⟨hl,hd,_,(rel.put k eb rv).keeps fun c ys ec=> ?_,q,es,ep,hq,h2,h3,h4,h5⟩;rw[aB (IR ec e (fun z=>nomatch z))];exact ec
end
section
end
def Im(i:Expr):Prop:=∀ov iv,subscripted i false ov iv=operate [ov,iv] (getItem ov iv)
def Bc{id:String}(hl:typeLookup (.type T) "__getitem__"=pure (some (.builtin id)))(hs:Im slice)(h:wpAny (model prog w) A (eval value env) (fun o s₁=>wpAny (model prog w) A (eval slice env) (fun i s₂=>s₂.TypeIs o T/\wpAny (model prog w) A (getItem o i) Q E s₂) E s₁) E s):wpAny (model prog w) A (eval (.Subscript value slice pos) env) Q E s:=by
 refine O9 (cR h (fun o s₁ h₁=>cR h₁ (fun i s₂ h₂=> ?_) fun _ _ x=>x) fun _ _ x=>x);obtain⟨hT,h₂⟩:=h₂;unfold subscriptTail;refine af ?_;rw[getitemInPython_of_ne hT.not_modules];refine af (wpAny_specialOf hT hl ?_);have fin:wpAny (model prog w) A (subscripted slice false o i) (fun r s₃=>wpAny (model prog w) A (letTemporaryGo value o r>>=fun _=>pure r) Q E s₃) E s₂:=by
  rw[hs o i];exact wpAny_operating (cR h₂ (fun r s₃ h₃=>af (wpAny_letTemporaryGo (aH h₃))) fun _ _ x=>x)
 first
  | exact aH (af fin)
  | exact af (aH (af fin))
  | exact af fin
def zi{σ:St}(I:Inv X pins σ H s)(g:DGet H a y o):s.TypeIs (.ref a) "dict":=by
 rcases g with⟨kvs,k,e,_,_⟩ | ⟨kvs,k,b,e,_,_,_⟩
 · obtain⟨_,_,vs,_,dd⟩:=tm I.hok e;exact dd.typeIs
 · obtain⟨_,_,xs,_,dd⟩:=tj I.hok e;exact dd.typeIs
def xH(td ty:TE):TE:=fun σ H Q=>td σ H fun x H1=>ty σ H1 fun y H2=>onR x fun a=>∃v,DGet H2 a y (some v)/\Q v H2
def LQ(td ty tv:TE):TS:=fun D σ H=>tv σ H fun v H1=>td σ H1 fun x H2=>ty σ H2 fun y H3=>onR x fun a=>∃H4,DPut H3 a y v H4/\D.nx σ H4
section
def Hh(hu:X.A.units+1<cLine)(ho:PE X o td)(hi:PE X i ty)(hs:Im i):PE X (.Subscript o i pos) (xH td ty):=by
 intro pins s σ H Q I h;refine Bc Je.lookup hs (dD (ho pins s σ H _ I h) fun u s1 ⟨x,H1,I1,rx,q1⟩=>dD (hi pins s1 σ H1 _ I1 q1) fun iv s2 ⟨y,H2,I2,ry,q0⟩=> ?_);obtain⟨a,ex,v,g,q2⟩:=onR.ex q0;subst ex;obtain rfl:u=Value.ref a:=rx;exact⟨zi I2 g,Dt hu I2 g ry fun w' s3 I3 rw'=>⟨v,H2,I3,rw',q2⟩⟩
def dI(hu:X.A.units+1<cLine)(ho:PE X o td)(hi:PE X i ty)(hv:PE X value tv)(hs:swapsWith value (some (.Subscript o i pos')) pos.line X.env=pure false):PS X (.Assign [.Subscript o i pos'] value pos) (LQ td ty tv):=by
 intro pins s σ H D I h;refine wpAny_Assign_Subscript (dD (hv pins s σ H _ I h) fun r s1 ⟨v,H1,I1,rv,q1⟩=>dD (ho pins s1 σ H1 _ I1 q1) fun u s2 ⟨x,H2,I2,rx,q2⟩=>dD (hi pins s2 σ H2 _ I2 q2) fun iv s3 ⟨y,H3,I3,ry,q0⟩=> ?_) hs;obtain⟨a,ex,H4,g,q3⟩:=onR.ex q0;subst ex;obtain rfl:u=Value.ref a:=rx;exact Ds hu I3 g ry rv fun s4 I4=>⟨σ,H4,I4,q3⟩
end
def zh(h:Heap)(hb:sysModules<h.objs.size):ObjOk P w H (h.push {cls:= .type "dict",data:= .dict #[]}) h.objs.size (.dK []):=⟨ay _,cy.mpr (bG (bI hb)),[],.nil,Heap.DictOf.new h⟩
def FO(h:Heap)(hb:sysModules<h.objs.size):ObjOk P w H (h.push {cls:= .type "dict",data:= .dict #[]}) h.objs.size (.dT []):=⟨ay _,cy.mpr (bG (bI hb)),[],.nil,_,#[],0,ba _ rfl,⟨rfl,rfl,rfl⟩,rfl,rfl,List.nodup_nil⟩
def DW:TE:=fun _ H Q=>∀p,H p=none->Q (.ref p) (upd H p (.dK []))
def DV:TE:=fun _ H Q=>∀p,H p=none->Q (.ref p) (upd H p (.dT []))
section
def cO:PE X (.Dict [] [] pos) DW:=fun pins s σ H Q I h=>
 wpAny_Dict_empty ⟨.ref s.heap.objs.size,_,I.laid (a:=s.heap.objs.size) (o:= .dK []) (t':=s.toks) (fun _ _ q=>aC _ q) (ar _) (zh s.heap I.big),rfl,h _ (I.hok.fresh (ar _))⟩
def kK:PE X (.Dict [] [] pos) DV:=fun pins s σ H Q I h=>
 wpAny_Dict_empty ⟨.ref s.heap.objs.size,_,I.laid (a:=s.heap.objs.size) (o:= .dT []) (t':=s.toks) (fun _ _ q=>aC _ q) (ar _) (FO s.heap I.big),rfl,h _ (I.hok.fresh (ar _))⟩
end
structure M2(X:Cx)(o:Expr)(m:Str)(apos:Pos)(e f:Expr)(cpos:Pos):Prop where
 base:attributeBase o m X.env (eval o X.env)=eval o X.env
 few:((backTo cpos (starEach [e,f] X.env)).all (fun x=> !x.1)&&(backToKw cpos (keywordEach [] X.env)).all (fun x=>x.1.isSome)&&decide (([e,f]:List Expr).length+([]:List Keyword).length+(if([]:List Keyword).isEmpty then 0 else 1)<30))=true
 line:(apos.endLine==cpos.line)=true
 trees:backTo cpos (starEach [e,f] X.env)=[(false,eval e X.env),(false,eval f X.env)]
def Od(H:Hp)(a:Addr):Prop:=(∃kvs,Rd H a (.dK kvs))\/∃kvs,Rd H a (.dT kvs)
def FB{σ:St}(I:Inv X pins σ H s)(d:Od H a):s.TypeIs (.ref a) "dict"/\(∀b,Value.ref a= .ref b->∃ob,s.heap.get? b=some ob/\ob.dict=none)/\(a==sysModules)=false:=by
 rcases d with⟨kvs,e⟩ | ⟨kvs,e⟩
 · obtain⟨_,hd,vs,_,dd⟩:=tm I.hok e;refine⟨dd.typeIs,fun b q=> ?_,hd⟩;cases q;obtain⟨ob,_,_,h1,h2,_⟩:=dd;exact⟨ob,h1,h2.2.1⟩
 · obtain⟨_,hd,xs,_,dd⟩:=tj I.hok e;refine⟨dd.typeIs,fun b q=> ?_,hd⟩;cases q;obtain⟨ob,_,_,h1,h2,_⟩:=dd;exact⟨ob,h1,h2.2.1⟩
section
def KN{σ:St}(hu:A.units+1<cLine)(I:Inv X pins σ H s)(g:DGet H a y o)(ry:RelV y u)(rd:RelV d r)(h:∀w' s',Inv X pins σ H s'->RelV (o.getD d) w'->Q w' s'):wpAny (model X.prog X.w) A (call (.builtin "dict.get") [.ref a,u,r]) Q E s:=by
 rcases g with⟨kvs,k,e,ey,l⟩ | ⟨kvs,k,b,e,ey,eb,l⟩
 · subst ey;obtain⟨z,hd,vs,rel,dd⟩:=tm I.hok e;refine Mu tO dd.typeIs MC (Ll _ _ _) (meets_dict_get_default (cN X.prog X.w) a (nU ry) hd r) ⟨_,dd.mapOf,h _ _ (I.tok _) ?_⟩;rw[l];exact(rel.val k).getD rd
 · subst ey;cases(show u=Value.ref b from ry);obtain⟨z,hd,xs,rel,dd⟩:=tj I.hok e;refine Mu tO dd.typeIs MC (Ll _ _ _) (meetsH_dict_get_default (tupleKind (cN X.prog X.w)) a b hd r) ⟨iG hu,k,xs,oZ I.hok eb,dd,h _ _ (I.tok _) ?_⟩;rw[l];exact(rel.val k).getD rd
end
def vF(td ty tx:TE):TE:=fun σ H Q=>td σ H fun x H1=>onR x fun a=>Od H1 a/\ty σ H1 fun y H2=>tx σ H2 fun z H3=>∃o,DGet H3 a y o/\Q (o.getD z) H3
section
def Ex(hu:X.A.units+1<cLine)(ho:PE X o td)(he:PE X e ty)(hf:PE X f tx)(m:M2 X o "get" apos e f cpos):PE X (.Call (.Attribute o "get" apos) [e,f] [] cpos) (vF td ty tx):=by
 intro pins s σ H Q I h;refine Pk m.base m.few m.line Lk tO PySem.F.type_dict_get (dD (ho pins s σ H _ I h) fun u s1 ⟨x,H1,I1,rx,q0⟩=> ?_);obtain⟨a,ex,d,q1⟩:=onR.ex q0;subst ex;obtain rfl:u=Value.ref a:=rx;obtain⟨t1,t2,_⟩:=FB I1 d;refine⟨t1,t2,?_⟩;rw[m.trees];refine jc rfl (ue (iJ (dD (he pins s1 σ H1 _ I1 q1) fun iv s2 ⟨y,H2,I2,ry,q2⟩=>
  iJ (dD (hf pins s2 σ H2 _ I2 q2) fun fv s3 ⟨z,H3,I3,rz,ov,g,q3⟩=>AQ ?_))))
 exact KN hu I3 g ry rz fun w' s4 I4 rw'=>⟨_,H3,I4,rw',q3⟩
end
section
end
section
end
section
variable {κ:Type}[DecidableEq κ]
end
def r_(h:(cN P w).is k u=true):RelV (kV k) u:=by
 rw[Av] at h;rcases keyIs_shape h with⟨i,t,rfl,rfl⟩ | ⟨x,t,rfl,rfl⟩
 · exact⟨t,rfl⟩
 · exact⟨t,rfl⟩
section
def Inv.freeze{σ:St}(I:Inv X pins σ H s)(hd:H d=some (.dK kvs)):∃o es ep vs,s.heap.get? d=some o/\o.data= .dict es ep/\KV kvs vs/\s.heap.DictAt (cN X.prog X.w) d vs ep/\(d==sysModules)=false/\Inv X pins σ (upd H d (.frz o (.dK kvs))) s:=by
 obtain⟨z,hs,vs,rel,dd⟩:=zg I.hok hd;obtain⟨o,es,ep,ho,hx,hdat,r⟩:=id dd;refine⟨o,es,ep,vs,ho,hdat,rel,⟨o,es,ho,hx,hdat,r⟩,hs,?_⟩;exact I.write (x:=d) (e:=d) (t':=s.toks) (by rw[hd];trivial) (.inl rfl) (fun b u _ q=>q) ⟨o,ho⟩ ⟨ho,z,hs,vs,rel,dd⟩
def Inv.thaw{σ:St}(I:Inv X pins σ H s)(hd:H d=some (.frz o (.dK kvs)))(hz:∀o u,X.H₀ d≠some (.frz o u)):Inv X pins σ (upd H d (.dK kvs)) s:=by
 have nn:∀b,H b=none->b≠d:=fun b n z=>by subst z;rw[hd] at n;cases n
 have nt:∀b xs,H b=some (.tup xs)->b≠d:=fun b xs n z=>by subst z;rw[hd] at n;cases n
 have nown:∀b a,H b=some (.own a)->b≠d:=fun b xs n z=>by subst z;rw[hd] at n;cases n
 refine⟨I.ok,I.os,I.bare,⟨I.base.keep,I.base.slot,fun b ob q n hx=> ?_,I.base.there,fun b xs q=> ?_,fun b ob u q=> ?_,fun b ps q=> ?_⟩,I.loc,I.cell,?_,fun x c q=> ?_,fun p hp=> ?_,fun b u q=> ?_,I.len⟩
 · have:=I.base.free b ob q n hx;rw[aB (nn b this)];exact this
 · have:=I.base.tups b xs q;rw[aB (nt b xs this)];exact this
 · have h1:=I.base.frzs b ob u q;have:b≠d:=fun z=>by subst z;exact hz ob u q
   rw[aB this];exact h1
 · obtain⟨more,h1⟩:=I.base.tbls b ps q;have:b≠d:=fun z=>by subst z;rw[hd] at h1;cases h1
   exact⟨more,by rw[aB this];exact h1⟩
 · rw[aB (nn _ I.free)];exact I.free
 · rw[aB (nn _ (I.freeC x c q))];exact I.freeC x c q
 · obtain⟨h1,h2,h3⟩:=I.pin p hp;exact⟨h1,by rw[aB (nn _ h2)];exact h2,h3⟩
 · by_cases hb:b=d
   · subst hb;rw[aa] at q;cases q;exact(show ObjOk X.prog X.w H s.heap b (.frz o (.dK kvs)) from I.hok b _ hd).2
   · rw[aB hb] at q;exact(I.hok b u q).stay (fun c v _ r=>r) (fun c r=>by rw[aB (nown c b r)];exact r) fun c xs r=>by rw[aB (nt c xs r)];exact r
end
noncomputable def MN(d:Addr)(o:Obj)(kvs:List (Key × V)):It:=⟨fun i H=>H d=some (.frz o (.dK kvs))/\i<kvs.length,fun i H x H'=>H'=H/\∃kv,kvs[i]? =some kv/\x=kV kv.1,fun i H=>H d=some (.frz o (.dK kvs))/\kvs.length<=i⟩
def tp{σ:St}(I:Inv X pins σ H s)(hd:H d=some (.frz o (.dK kvs)))(hdat:o.data= .dict es ep):∃vs,KV kvs vs/\s.heap.DictAt (cN X.prog X.w) d vs ep:=by
 obtain⟨ho,_,_,vs,rel,o',es',ep',ho',hx,hdat',r⟩:=(show ObjOk X.prog X.w H s.heap d (.frz o (.dK kvs)) from I.hok d _ hd);rw[ho] at ho';cases ho';rw[hdat] at hdat';cases hdat';exact⟨vs,rel,o,es,ho,hx,hdat,r⟩
def sP{kvs:List (Key × V)}(r:KV kvs vs):kvs.length=vs.length:=KV.length r
theorem Fn:∀{kvs:List (Key × V)} {vs:List (Key × Value)} {i:Nat} {kv:Key × V},KV kvs vs->kvs[i]? =some kv->∃u,vs[i]? =some (kv.1,u)/\RelV kv.2 u
 | _,_,_,_,.nil,h=>by simp at h
 | _,_,0,kv,.cons (b:=q) r _,h=>by
   simp at h;subst h;exact⟨q.2,by rw[Lm,r.1],r.2⟩
 | _,_,i+1,kv,.cons _ t,h=>by
   obtain⟨u,h1,h2⟩:=Fn (i:=i) t (by simpa using h);exact⟨u,by simpa using h1,h2⟩
def Cw{K:Frag}(d it:Addr)(o:Obj)(kvs:List (Key × V))(es:Array DictEntry)(ep:Nat)(hdat:o.data= .dict es ep):xm P w K tg (MN d o kvs) [it] it (fun i h=>h.IsKeyIter it d i kvs.length ep) where
 mem:=by simp
 obj:=fun i h st b hb=>by
  have e:b=it:=by simpa using hb
  subst e;obtain⟨o,e,c,dd⟩:=st;exact⟨o,e,fun v z=>by rw[dd] at z;cases z⟩
 keep:=fun i h h' st k=>st.at fun o e=>k it (by simp) o e
 item:=by
  intro X hP hw hK hc i pins s σ H E I hf st hg;subst hP hw hK;obtain⟨hd,hi⟩:=hg;obtain⟨vs,rel,da⟩:=tp I hd hdat;obtain⟨f0,f1,f2,f3,f4,f5⟩:=hf it (by simp);have hx:kvs[i]? =some kvs[i]:=aN hi;obtain⟨u,hu,_⟩:=Fn rel hx;have st':s.heap.IsKeyIter it d i vs.length ep:=by rw[<-sP rel];exact st
  refine wpAny_pyNext_dict_item st' da hu fun key h' hk it' sb=> ?_;have I1:Inv X pins σ H {s with heap:=h'}:=I.turned (t':=s.toks) (fun b o hb e=>(sb.2 b hb).trans e) f0 f1 f3 f4 f5;rw[<-sP rel] at it';obtain⟨oi,e,c,dd⟩:=id it';exact⟨key,rfl,Ca (s:={s with heap:=h'}) e c dd (by decide) ⟨kV kvs[i].1,H,I1,r_ hk,⟨rfl,_,hx,rfl⟩,it',fun b hb=>(hf b hb).1⟩⟩
 done:=by
  intro X hP hw hK hc i pins s σ H E I hf st hg;subst hP hw hK;obtain⟨hd,hi⟩:=hg;obtain⟨vs,rel,da⟩:=tp I hd hdat;obtain⟨f0,f1,f2,f3,f4,f5⟩:=hf it (by simp);have st':s.heap.IsKeyIter it d i vs.length ep:=by rw[<-sP rel];exact st
  exact wpAny_pyNext_dict_end (I.ok.hd hc) st' da (jx (by rw[<-sP rel];exact hi)) fun h' eb=>⟨rfl,I.turned (t':=s.toks) (fun b o hb e=>eb b o hb e) f0 f1 f3 f4 f5⟩
 self:=fun _ _ _ _ _ st h=>wpAny_pyIter_keyiter st h
def Mm(tl:TE):TI:=fun σ H R=>tl σ H fun x H1=>∃d kvs,x= .ref d/\H1 d=some (.dK kvs)/\∀o,R (MN d o kvs) (upd H1 d (.frz o (.dK kvs)))
def wy(hl:PE X l tl):PI X tg l (Mm tl):=by
 intro pins s σ H R I h;refine dD (hl pins s σ H _ I h) fun v s1 ⟨x,H1,I1,r1,q1⟩=> ?_;obtain⟨d,kvs,e,hd,q⟩:=q1;subst e;cases r1;obtain⟨o,es,ep,vs,ho,hdat,rel,da,hs,I2⟩:=I1.freeze hd;refine wpAny_pyIter_dict hs da ?_;refine⟨s1.heap.objs.size,[s1.heap.objs.size],_,_,_,rfl,I2.kept (t':=s1.toks) fun b o e=>aC _ e,Cw d _ o kvs es ep hdat,?_,fun b hb=> ?_,q o⟩
 · rw[sP rel];exact⟨_,ba _ rfl,rfl,rfl⟩
 · have e:b=s1.heap.objs.size:=by simpa using hb
   subst e;exact I2.fpOk (ar _) (I2.hok.fresh (ar _))
def sY{g:TG}{tb:TS}{D:qm}(Pv:Nat->St->Hp->Prop)(h0:Pv 0 σ H)(hl:∀i σ H,i<=kvs.length->Pv i σ H->H d=some (.frz o (.dK kvs)))(hs:∀i kv σ H,kvs[i]? =some kv->Pv i σ H->g (kV kv.1) σ H fun σ2 H2=>tb {D with nx:=Pv (i+1),ct:=Pv (i+1),bk:=D.nx} σ2 H2)(hd:∀σ H,Pv kvs.length σ H->D.nx σ H):∃W:Nat->Nat->St->Hp->Prop,(∃m,W 0 m σ H)/\∀i m σ H,W i m σ H->((MN d o kvs).stop i H/\D.nx σ H)\/((MN d o kvs).go i H/\∃N:St->Hp->Prop,(∀σ' H',N σ' H'->∃m',m'<m/\W (i+1) m' σ' H')/\∀x H',(MN d o kvs).yld i H x H'->g x σ H' fun σ2 H2=>tb {D with nx:=N,ct:=N,bk:=D.nx} σ2 H2):=by
 refine⟨fun i m σ H=>m=kvs.length - i/\i<=kvs.length/\Pv i σ H,⟨kvs.length,by simp,ay _,h0⟩,?_⟩;rintro i m σ H ⟨rfl,hi,p⟩;have q:=hl i σ H hi p;by_cases hlt:i<kvs.length
 · refine .inr ⟨⟨q,hlt⟩,Pv (i+1),fun σ' H' p'=>⟨kvs.length - (i+1),by lia,rfl,hlt,p'⟩,fun x H' y=> ?_⟩;obtain⟨e,kv,hk,rfl⟩:=y;subst e;exact hs i kv σ _ hk p
 · have e:i=kvs.length:=by lia
   subst e;exact .inl ⟨⟨q,ar _⟩,hd σ H p⟩
def Lv(t:TS):TS:=fun D σ H=>∃d kvs,H d=some (.dK kvs)/\t {D with nx:=fun σ' H'=>∃o,H' d=some (.frz o (.dK kvs))/\D.nx σ' (upd H' d (.dK kvs)),rt:=fun v H'=>∃o,H' d=some (.frz o (.dK kvs))/\D.rt v (upd H' d (.dK kvs)),bk:=fun _ _=>False,ct:=fun _ _=>False} σ H
def wu{st:Stmt}(h:PS X st t):PS X st (Lv t):=by
 intro pins s σ H D I q;obtain⟨d,kvs,hd,q⟩:=q;have hz:∀o u,X.H₀ d≠some (.frz o u):=fun o u z=>by
  have:=I.base.frzs d o u z;rw[hd] at this;cases this
 refine dD (h pins s σ H _ I q) fun f s1 q1=> ?_;cases f with
 | next=>
   obtain⟨σ',H',I',o,e,n⟩:=q1;exact⟨σ',_,I'.thaw e hz,n⟩
 | ret v=>
   obtain⟨x,σ',H',I',r,o,e,n⟩:=q1;exact⟨x,σ',_,I'.thaw e hz,r,n⟩
 | brk=>
   obtain⟨σ',H',I',n⟩:=q1;exact n.elim
 | cont=>
   obtain⟨σ',H',I',n⟩:=q1;exact n.elim
section
end
inductive Dat where
 | int (i:Int)
 | str (x:Str)
 | tup (ds:List Dat)
 | lst (ds:List Dat)
 | dct (ks:List (Str × Dat))
mutual
def Da(H:Hp):Dat->V->Prop
 | .int i,v=>v= .int i
 | .str x,v=>v= .str x
 | .tup ds,v=>∃p xs,v= .ref p/\H p=some (.tup xs)/\M_ H ds xs
 | .lst ds,v=>∃p xs,v= .ref p/\H p=some (.lst xs)/\M_ H ds xs
 | .dct ks,v=>∃p l,v= .ref p/\H p=some (.dK l)/\OG H ks l
def M_(H:Hp):List Dat->List V->Prop
 | [],xs=>xs=[]
 | d::ds,xs=>∃x r,xs=x::r/\Da H d x/\M_ H ds r
def OG(H:Hp):List (Str × Dat)->List (Key × V)->Prop
 | [],l=>l=[]
 | (k,d)::ks,l=>∃x r,l=(.inr k,x)::r/\Da H d x/\OG H ks r
end
example (H:Hp) (i:Int) (v:V):Da H (.int i) v=(v= .int i):=rfl
example (H:Hp) (ds:List Dat) (v:V):Da H (.tup ds) v=(∃p xs,v= .ref p/\H p=some (.tup xs)/\M_ H ds xs):=rfl
mutual
def Dat.nd:Dat->Prop
 | .int _=>True
 | .str _=>True
 | .tup ds=>NP ds
 | .lst ds=>NP ds
 | .dct ks=>(ks.map (·.1)).Nodup/\Oo ks
def NP:List Dat->Prop
 | []=>True
 | d::ds=>d.nd/\NP ds
def Oo:List (Str × Dat)->Prop
 | []=>True
 | (_,d)::ks=>d.nd/\Oo ks
end
section
end
end L2
set_option maxHeartbeats 400000
namespace L2
open PySem PySem.Spec PyProof.Rows
section
end
section
end
section
end
section
end
def Du{σ:St}(I:Inv X pins σ H s)(e:H a=some (.dK kvs))(l:kvs.length<sizeLine)(ry:RelV (kV k) u)(rv:RelV v r)(h:∀s',Inv X pins σ (upd H a (.dK (bZ kvs k v))) s'->Q () s'):wpAny (model X.prog X.w) A (dictSet a u r) Q E s:=by
 obtain⟨z,hd,vs,rel,dd⟩:=zg I.hok e;have hz:vs.length<=sizeLine:=by rw[<-rel.length];exact z
 have hl:(bZ kvs k v).length<=sizeLine:=by have:=dt kvs k v;lia
 refine wpAny_dictSet_pairs (nU ry) dd (fun h' dd' hs=>h _ ?_) hz;have he:∃q,h'.get? a=some q:=let⟨q,_,_,hq,_⟩:=dd';⟨q,hq⟩
 exact qP I (by rw[e];exact True.intro) hs he (AJ hl hd (rel.put k rv) dd')
section
end
section
def kO(hu:X.A.units+1<cLine):lP X (compareOp .In) (fun x y H Q=>∃a o,y= .ref a/\DGet H a x o/\Q (.bl o.isSome) H):=by
 intro pins s σ H x y v u Q I rx ry h;obtain⟨a,o,rfl,g,q⟩:=h;cases ry;exact NZ hu I g rx fun s' I'=>⟨.bl o.isSome,H,I',rfl,q⟩
def oS(hu:X.A.units+1<cLine):lP X (compareOp .NotIn) (fun x y H Q=>∃a o,y= .ref a/\DGet H a x o/\Q (.bl (!o.isSome)) H):=by
 intro pins s σ H x y v u Q I rx ry h;obtain⟨a,o,rfl,g,q⟩:=h;cases ry;exact Ib hu I g rx fun s' I'=>⟨.bl (!o.isSome),H,I',rfl,q⟩
theorem ui:∀{kvs:List (Key × V)} {vs:List (Key × Value)} {ss:List Str} {acc:List Value},KV kvs vs->kvs.map (·.1)=ss.map Sum.inr->acc.length=vs.length->(∀(j:Nat) (v:Value),acc[j]? =some v->∃k x,vs[j]? =some (k,x)/\(cN P w).is k v=true)->Vals (ss.map V.str) acc
 | [],_,ss,acc,.nil,e,hl,_=>by
   cases ss with
   | nil=>cases acc with
     | nil=>exact .nil
     | cons a l=>simp at hl
   | cons a l=>simp at e
 | kv::kvs,_,ss,acc,.cons (b:=q) (l₂:=vs) r t,e,hl,h=>by
   cases ss with
   | nil=>simp at e
   | cons y ss=>
     cases acc with
     | nil=>simp at hl
     | cons u acc=>
       simp only[bQ,bD] at e;obtain⟨k,x,e1,e2⟩:=h 0 u rfl;simp only[Lm,mX] at e1;subst e1;have r1:kv.1=k:=r.1;have hk:k=Sum.inr y:=r1.symm.trans e.1;subst hk;refine .cons (r_ e2) (ui (P:=P) (w:=w) t e.2 (by simpa using hl) fun j v hj=> ?_);exact h (j+1) v (by simpa using hj)
end
end L2
set_option maxHeartbeats 1000000
namespace L2
open PySem PySem.Spec PyProof.Rows
section
def j6(hit:s.heap.IsTupleIter it t i)(ht:s.heap.IsTuple t items)(hx:items[i]? =some x)(hQ:∀h':Heap,h'.IsTupleIter it t (i+1)->Heap.SameBut it s.heap h'->Q x {s with heap:=h'}):wpAny (model prog w) A (Builtin.SmallTypes.nextOf (.ref it)) Q E s:=by
 obtain⟨o,ho,hc,hd⟩:=id hit;obtain⟨ol,hol,_,nl,hdl⟩:=ht;refine af (fN hit.typeIs gJ (jz gJ hit.typeIs Gs ?_ (Gg _)));refine af (mT (a:=(Value.ref it,[])) rfl ?_);refine af (dC ho hd rfl ?_);show wpAny _ _ (do
  let __x<-field (.ref it) 1
  _) _ _ _
 refine af (dC ho hd rfl ?_);refine af (gG hol hdl ?_);have e:items[(Int.toNat (i:Int))]? =some x:=by simpa using hx
 simp only[e];refine af (wpAny_setField ho hd (by simp) (aH ⟨x,rfl,aH (hQ _ ⟨_,tP _ ho (Obj.isFreed_of_fields (Pc hd _)),?_,?_⟩ (xw _ _ _))⟩))
 · rw[Obj.cls_mapFields];exact hc
 · rw[Pc hd];simp[rawInt]
def sI(hh:A.handled=none)(hit:s.heap.IsTupleIter it t i)(ht:s.heap.IsTuple t items)(hx:items[i]? =none)(hE:∀h' e,Heap.ExtBut it s.heap h'->(∃o,h'.get? e=some o/\o.cls= .type "StopIteration")->E (.ref e) {s with heap:=h'}):wpAny (model prog w) A (Builtin.SmallTypes.nextOf (.ref it)) Q E s:=by
 obtain⟨o,ho,hc,hd⟩:=id hit;obtain⟨ol,hol,_,nl,hdl⟩:=ht;refine af (fN hit.typeIs gJ (jz gJ hit.typeIs Gs ?_ (Gg _)));refine af (mT (a:=(Value.ref it,[])) rfl ?_);refine af (dC ho hd rfl ?_);show wpAny _ _ (do
  let __x<-field (.ref it) 1
  _) _ _ _
 refine af (dC ho hd rfl ?_);refine af (gG hol hdl ?_);have e:items[(Int.toNat (i:Int))]? =none:=by simpa using hx
 simp only[e];refine af (jy (af (wpAny_setField ho hd (by simp) ?_)));refine af (af (tS ?_));refine af (mT rfl ?_);refine dU ?_ (sizeOk_excFields _ _ _ _ _ _ _ _);refine wpAny_raiseNew_none hh (hE _ _ ?_ ⟨_,ba _ rfl,rfl⟩);exact Heap.ExtBut.push (Heap.ExtBut.push (Heap.SameBut.extBut (xw _ _ _)) _) _
end
section
def gE(ht:h.IsTuple p us)(e:Heap.ExtBut q h h')(hn:p≠q):h'.IsTuple p us:=by
 obtain⟨o,ho,r⟩:=ht;exact⟨o,e p o hn ho,r⟩
def qV{TI TO:Addr}{Q:Value->Shared->Prop}(D:ZipApart z TI TO i1 i2 l1 l2)(hz:IsZip s.heap z TI TO .none)(hTI:IsPair s.heap TI (.ref i1) (.ref i2))(hTO:IsPair s.heap TO a b)(h1:s.heap.IsTupleIter i1 l1 k1)(h2:s.heap.IsTupleIter i2 l2 k2)(hl1:s.heap.IsTuple l1 xs)(hl2:s.heap.IsTuple l2 ys)(hx:xs[k1]? =some x)(hy:ys[k2]? =some y)(hQ:∀h':Heap,IsZip h' z TI TO (rawInt ↑(Array.size s.heap.objs))->IsPair h' TO x y->h'.IsTupleIter i1 l1 (k1+1)->h'.IsTupleIter i2 l2 (k2+1)->IsPair h' (Array.size s.heap.objs) x y->Array.size h'.objs=Array.size s.heap.objs+1->(∀c o,c≠z->c≠TO->c≠i1->c≠i2->s.heap.get? c=some o->h'.get? c=some o)->Q (.ref (Array.size s.heap.objs)) {s with heap:=h'}):wpAny (model prog w) A (Builtin.«zip.__next__» {pos:=[.ref z]}) (fun fin s'=>∃v,fin=Fin.done (Flow.ret v)/\Q v s') E s:=by
 refine af (mT (a:=(Value.ref z,[])) rfl ?_);refine af (dC hz rfl rfl ?_);refine af (dC hz rfl rfl ?_);refine af (gG hTI rfl ?_);show wpAny _ _ (do
  let __do_lift<-Builtin.SmallTypes.ownedTupleIsFree (.ref z)
  _) _ _ _
 refine af (af (dC hz rfl rfl (aH ?_)));show wpAny _ _ (do
  rule "zip.__next__.owned-tuple-again"
  _) _ _ _
 refine af (jy (af (dC hz rfl rfl ?_)));refine af (iD hz (by simp) fun h₁ hz₁ hs₁=> ?_);have hz₁:IsZip h₁ z TI TO .ellipsis:=hz₁;refine af ?_;show wpAny _ _ (forIn [(Value.ref i1,0),(Value.ref i2,1)] (none,()) _) _ _ _;rw[iB];refine af (af (Ji ?_));show wpAny _ _ (do
  let v<-Builtin.SmallTypes.nextOf (.ref i1)
  pure (some v)) _ _ _
 refine af (j6 (h1.extBut hs₁.extBut D.i1z) (gE hl1 hs₁.extBut D.l1z) hx fun h₂ h1₂ hs₂=>aH ?_);have hTO₂:IsPair h₂ TO a b:=hs₂.extBut TO _ D.TOi1 (hs₁.extBut TO _ D.TOz hTO);refine af (gG hTO₂ rfl (af (Nc hTO₂ fun h₃ hTO₃ hs₃=> ?_)));have hTO₃:IsPair h₃ TO x b:=hTO₃;refine af (wpAny_letGo (aH ?_));show wpAny _ _ (forIn [(Value.ref i2,1)] (none,()) _) _ _ _;rw[iB];refine af (af (Ji ?_));show wpAny _ _ (do
  let v<-Builtin.SmallTypes.nextOf (.ref i2)
  pure (some v)) _ _ _
 refine af (j6 (((h2.extBut hs₁.extBut D.i2z).extBut hs₂.extBut (bG D.i12)).extBut hs₃.extBut (bG D.TOi2)) (gE (gE (gE hl2 hs₁.extBut D.l2z) hs₂.extBut D.l2i1) hs₃.extBut D.l2TO) hy fun h₄ h2₄ hs₄=>aH ?_);have hTO₄:IsPair h₄ TO x b:=hs₄.extBut TO _ D.TOi2 hTO₃;refine af (gG hTO₄ rfl (af (Nc hTO₄ fun h₅ hTO₅ hs₅=> ?_)));have hTO₅:IsPair h₅ TO x y:=hTO₅;refine af (wpAny_letGo (aH ?_));show wpAny _ _ (forIn [] (none,()) _) _ _ _;rw[List.forIn_nil];refine aH ?_;refine af (gG hTO₅ rfl (af (tS ?_)));have hsz:h₅.objs.size=s.heap.objs.size:=by rw[hs₅.1,hs₄.1,hs₃.1,hs₂.1,hs₁.1]
 have hz₅:IsZip h₅ z TI TO .ellipsis:=hs₅.extBut z _ (bG D.TOz) (hs₄.extBut z _ (bG D.i2z) (hs₃.extBut z _ (bG D.TOz) (hs₂.extBut z _ (bG D.i1z) hz₁)));have hk₅:∀c o,c≠z->c≠TO->c≠i1->c≠i2->s.heap.get? c=some o->h₅.get? c=some o:=fun c o c1 c2 c3 c4 e=>hs₅.extBut c o c2 (hs₄.extBut c o c4 (hs₃.extBut c o c2 (hs₂.extBut c o c3 (hs₁.extBut c o c1 e))));have h1₅:=((h1₂.extBut hs₃.extBut (bG D.TOi1)).extBut hs₄.extBut D.i12).extBut hs₅.extBut (bG D.TOi1);have h2₅:=h2₄.extBut hs₅.extBut (bG D.TOi2);have hzlt:=aP hz₅;have hTOlt:=aP hTO₅;have hi1lt:i1<h₅.objs.size:=by obtain⟨o,e,_⟩:=h1₅;exact aP e
 have hi2lt:i2<h₅.objs.size:=by obtain⟨o,e,_⟩:=h2₅;exact aP e
 refine af ?_;have hz₆:IsZip (h₅.push {cls:= .type "tuple",data:= .seq [x,y].toArray}) z TI TO .ellipsis:=aC _ hz₅;refine af (iD hz₆ (by simp) fun h₇ hz₇ hs₇=> ?_);refine iD hz₇ (by simp) fun h₈ hz₈ hs₈=> ?_;have up:∀c o,c≠z->h₅.get? c=some o->h₈.get? c=some o:=fun c o c1 e=>hs₈.extBut c o c1 (hs₇.extBut c o c1 (aC _ e));have hT₈:IsPair h₈ h₅.objs.size x y:=hs₈.extBut _ _ (ja hzlt) (hs₇.extBut _ _ (ja hzlt) (ba h₅ rfl));refine aH ⟨_,rfl,?_⟩;show Q (.ref h₅.objs.size) _;rw[hsz] at hT₈⊢;refine hQ h₈ ?_ (up _ _ D.TOz hTO₅) ?_ ?_ hT₈ ?_ fun c o c1 c2 c3 c4 e=>up c o c1 (hk₅ c o c1 c2 c3 c4 e)
 · rw[<-hsz];exact hz₈
 · obtain⟨o,e,r⟩:=h1₅;exact⟨o,up _ _ D.i1z e,r⟩
 · obtain⟨o,e,r⟩:=h2₅;exact⟨o,up _ _ D.i2z e,r⟩
 · rw[hs₈.1,hs₇.1,eF,hsz]
def tQ{TI TO:Addr}(hh:A.handled=none)(D:ZipApart z TI TO i1 i2 l1 l2)(hz:IsZip s.heap z TI TO .none)(hTI:IsPair s.heap TI (.ref i1) (.ref i2))(h1:s.heap.IsTupleIter i1 l1 k1)(hl1:s.heap.IsTuple l1 xs)(hx:xs[k1]? =none)(hE:∀h' e,(∀c o,c≠z->c≠TO->c≠i1->c≠i2->s.heap.get? c=some o->h'.get? c=some o)->(∃o,h'.get? e=some o/\o.cls= .type "StopIteration")->E (.ref e) {s with heap:=h'}):wpAny (model prog w) A (Builtin.«zip.__next__» {pos:=[.ref z]}) Q E s:=by
 refine af (mT (a:=(Value.ref z,[])) rfl ?_);refine af (dC hz rfl rfl ?_);refine af (dC hz rfl rfl ?_);refine af (gG hTI rfl ?_);show wpAny _ _ (do
  let __do_lift<-Builtin.SmallTypes.ownedTupleIsFree (.ref z)
  _) _ _ _
 refine af (af (dC hz rfl rfl (aH ?_)));show wpAny _ _ (do
  rule "zip.__next__.owned-tuple-again"
  _) _ _ _
 refine af (jy (af (dC hz rfl rfl ?_)));refine af (iD hz (by simp) fun h₁ hz₁ hs₁=> ?_);have hz₁:IsZip h₁ z TI TO .ellipsis:=hz₁;refine af ?_;show wpAny _ _ (forIn [(Value.ref i1,0),(Value.ref i2,1)] (none,()) _) _ _ _;rw[iB];refine af (af (Ji ?_));show wpAny _ _ (do
  let v<-Builtin.SmallTypes.nextOf (.ref i1)
  pure (some v)) _ _ _
 refine af (sI hh (h1.extBut hs₁.extBut D.i1z) (gE hl1 hs₁.extBut D.l1z) hx fun h₂ e eb₂ he=> ?_);have hz₂:IsZip h₂ z TI TO .ellipsis:=eb₂ z _ (bG D.i1z) hz₁;refine iD hz₂ (by simp) fun h₃ hz₃ hs₃=> ?_;obtain⟨o,ho,hc⟩:=he;have hez:e≠z:=fun q=>by
  rw[q,hz₂] at ho;cases ho;exact absurd (Value.type.inj hc) (by decide)
 exact hE h₃ e (fun c o c1 c2 c3 c4 q=>hs₃.extBut c o c1 (eb₂ c o c3 (hs₁.extBut c o c1 q))) ⟨o,hs₃.extBut e o hez ho,hc⟩
end
section
def oO{TI TO:Addr}(D:ZipApart z TI TO i1 i2 l1 l2)(hz:IsZip s.heap z TI TO .none)(hTI:IsPair s.heap TI (.ref i1) (.ref i2))(hTO:IsPair s.heap TO a b)(h1:s.heap.IsTupleIter i1 l1 k1)(h2:s.heap.IsTupleIter i2 l2 k2)(hl1:s.heap.IsTuple l1 xs)(hl2:s.heap.IsTuple l2 ys)(hx:xs[k1]? =some x)(hy:ys[k2]? =some y)(hQ:∀h':Heap,IsZip h' z TI TO (rawInt ↑(Array.size s.heap.objs))->IsPair h' TO x y->h'.IsTupleIter i1 l1 (k1+1)->h'.IsTupleIter i2 l2 (k2+1)->IsPair h' (Array.size s.heap.objs) x y->Array.size h'.objs=Array.size s.heap.objs+1->(∀c o,c≠z->c≠TO->c≠i1->c≠i2->s.heap.get? c=some o->h'.get? c=some o)->Q (some (.ref (Array.size s.heap.objs))) {s with heap:=h'}):wpAny (model prog w) A (pyNext (.ref z)) Q E s:=by
 have hT:s.TypeIs (.ref z) "zip":=⟨_,hz,rfl⟩;exact af (wpAny_attempt (fN hT qT (jz qT hT F.entry_zip_next
  (qV D hz hTI hTO h1 h2 hl1 hl2 hx hy fun h' a1 a2 a3 a4 a5 a6 a7=>aH (hQ h' a1 a2 a3 a4 a5 a6 a7)) (Pt _))))
def p_{TI TO:Addr}(hh:A.handled=none)(D:ZipApart z TI TO i1 i2 l1 l2)(hz:IsZip s.heap z TI TO .none)(hTI:IsPair s.heap TI (.ref i1) (.ref i2))(h1:s.heap.IsTupleIter i1 l1 k1)(hl1:s.heap.IsTuple l1 xs)(hx:xs[k1]? =none)(hQ:∀h':Heap,(∀c o,c≠z->c≠TO->c≠i1->c≠i2->s.heap.get? c=some o->h'.get? c=some o)->Q none {s with heap:=h'}):wpAny (model prog w) A (pyNext (.ref z)) Q E s:=by
 have hT:s.TypeIs (.ref z) "zip":=⟨_,hz,rfl⟩;refine af (wpAny_attempt (fN hT qT (jz qT hT F.entry_zip_next
  (tQ (TO:=TO) hh D hz hTI h1 hl1 hx fun h' e hk he=> ?_) (Pt _))))
 obtain⟨o,ho,hc⟩:=he;exact af (wpAny_isInstance ⟨o,ho,hc⟩ isSubtype_stop (aH (hQ h' hk)))
def wM(hQ:Q (.ref s.heap.objs.size) {s with heap:=s.heap.push {cls:= .type T,data:= .fields vs.toArray}})(hz:vs.length<=sizeLine):wpAny (model prog w) A (Builtin.SmallTypes.newRecord (.type T) vs) Q E s:=by
 show wpAny _ _ (newObj (.type T) (.fields vs.toArray)) _ _ _;refine dU hQ ?_;show vs.toArray.size<=sizeLine+2;rw[a_];lia
def DG{s:Shared}(hl1:s.heap.IsTuple l1 xs)(hl2:s.heap.IsTuple l2 ys)(hQ:∀h':Heap,IsZip h' (s.heap.objs.size+4) (s.heap.objs.size+2) (s.heap.objs.size+3) .none->IsPair h' (s.heap.objs.size+2) (.ref s.heap.objs.size) (.ref (s.heap.objs.size+1))->IsPair h' (s.heap.objs.size+3) .none .none->h'.IsTupleIter s.heap.objs.size l1 0->h'.IsTupleIter (s.heap.objs.size+1) l2 0->h'.objs.size=s.heap.objs.size+5->(∀c o,s.heap.get? c=some o->h'.get? c=some o)->Q (.done (.ret (.ref (s.heap.objs.size+4)))) {s with heap:=h'}):wpAny (model prog w) A (Builtin.«zip.__new__» {pos:=[.type "zip",.ref l1,.ref l2]}) Q E s:=by
 have hL2:(s.heap.push {cls:= .type "tuple_iterator",data:= .fields #[.ref l1,.int 0 0]}).IsTuple l2 ys:=by
  obtain⟨o,ho,r⟩:=hl2;exact⟨o,aC _ ho,r⟩
 refine af (af (aH ?_));refine DH rfl (af (mT sub_zip ?_));refine DH rfl (aH ?_);refine DH rfl ?_;refine af ?_;refine af ?_;show wpAny _ _ (forIn [Value.ref l1,Value.ref l2] #[] _) _ _ _;rw[iB];refine af (af (eo (OI hl1 (aH ?_))));show wpAny _ _ (forIn [Value.ref l2] _ _) _ _ _;rw[iB];refine af (af (eo (OI hL2 (aH ?_))));show wpAny _ _ (forIn [] _ _) _ _ _;rw[List.forIn_nil];refine aH (aH ?_);refine af (tS ?_ (show 2<=sizeLine from fX (bL (by decide))));refine af (tS ?_ (show 2<=sizeLine from fX (bL (by decide))));refine af (wM (aH ?_) (show 5<=sizeLine from fX (bL (by decide))));have z1:=eF s.heap {cls:= .type "tuple_iterator",data:= .fields #[.ref l1,.int 0 0]};generalize hh1:s.heap.push {cls:= .type "tuple_iterator",data:= .fields #[.ref l1,.int 0 0]}=H1 at z1⊢;have z2:=eF H1 {cls:= .type "tuple_iterator",data:= .fields #[.ref l2,.int 0 0]};have g1:H1.get? s.heap.objs.size=some {cls:= .type "tuple_iterator",data:= .fields #[.ref l1,.int 0 0]}:=by rw[<-hh1];exact ba _ rfl
 have o1:∀c o,s.heap.get? c=some o->H1.get? c=some o:=fun c o e=>by rw[<-hh1];exact aC _ e
 generalize hh2:H1.push {cls:= .type "tuple_iterator",data:= .fields #[.ref l2,.int 0 0]}=H2 at z2⊢;have g2:H2.get? H1.objs.size=some {cls:= .type "tuple_iterator",data:= .fields #[.ref l2,.int 0 0]}:=by rw[<-hh2];exact ba _ rfl
 have o2:∀c o,H1.get? c=some o->H2.get? c=some o:=fun c o e=>by rw[<-hh2];exact aC _ e
 rw[z1] at z2 g2;show Q (.done (.ret (.ref ((H2.push {cls:= .type "tuple",data:= .seq #[.ref s.heap.objs.size,.ref H1.objs.size]}).push {cls:= .type "tuple",data:= .seq #[.none,.none]}).objs.size)))
  {s with heap:=(((H2.push {cls:= .type "tuple",data:= .seq #[.ref s.heap.objs.size,.ref H1.objs.size]}).push {cls:= .type "tuple",data:= .seq #[.none,.none]}) |>.push ({cls:= .type "zip",data:= .fields #[.none,.bool false,.bool false,.ref H2.objs.size,.ref (H2.push {cls:= .type "tuple",data:= .seq #[.ref s.heap.objs.size,.ref H1.objs.size]}).objs.size]}:Obj))}
 rw[z1];generalize hh3:H2.push {cls:= .type "tuple",data:= .seq #[.ref s.heap.objs.size,.ref (s.heap.objs.size+1)]}=H3;have z3:H3.objs.size=H2.objs.size+1:=by rw[<-hh3,eF]
 have g3:H3.get? H2.objs.size=some {cls:= .type "tuple",data:= .seq #[.ref s.heap.objs.size,.ref (s.heap.objs.size+1)]}:=by rw[<-hh3];exact ba _ rfl
 have o3:∀c o,H2.get? c=some o->H3.get? c=some o:=fun c o e=>by rw[<-hh3];exact aC _ e
 generalize hh4:H3.push {cls:= .type "tuple",data:= .seq #[.none,.none]}=H4;have z4:H4.objs.size=H3.objs.size+1:=by rw[<-hh4,eF]
 have g4:H4.get? H3.objs.size=some {cls:= .type "tuple",data:= .seq #[.none,.none]}:=by rw[<-hh4];exact ba _ rfl
 have o4:∀c o,H3.get? c=some o->H4.get? c=some o:=fun c o e=>by rw[<-hh4];exact aC _ e
 rw[z2] at z3 g3;rw[z3] at z4 g4;have e4:H4.objs.size=s.heap.objs.size+4:=z4;have o5:=fun(c:Addr) (o:Obj) (Z:Obj) (e:H4.get? c=some o)=>aC Z e;rw[z2,z3,e4];refine hQ _ ?_ (o5 _ _ _ (o4 _ _ g3)) (o5 _ _ _ g4) ⟨_,o5 _ _ _ (o4 _ _ (o3 _ _ (o2 _ _ g1))),rfl,rfl⟩ ⟨_,o5 _ _ _ (o4 _ _ (o3 _ _ g2)),rfl,rfl⟩ ?_ fun c o e=>o5 _ _ _ (o4 _ _ (o3 _ _ (o2 _ _ (o1 _ _ e))))
 · have:=ba H4 (o:={cls:= .type "zip",data:= .fields #[.none,.bool false,.bool false,.ref (s.heap.objs.size+1+1),.ref (s.heap.objs.size+1+1+1)]}) rfl;rw[e4] at this;exact this
 · rw[eF,e4]
def Dw{s:Shared}(hl1:s.heap.IsTuple l1 xs)(hl2:s.heap.IsTuple l2 ys)(hQ:∀h':Heap,IsZip h' (s.heap.objs.size+4) (s.heap.objs.size+2) (s.heap.objs.size+3) .none->IsPair h' (s.heap.objs.size+2) (.ref s.heap.objs.size) (.ref (s.heap.objs.size+1))->IsPair h' (s.heap.objs.size+3) .none .none->h'.IsTupleIter s.heap.objs.size l1 0->h'.IsTupleIter (s.heap.objs.size+1) l2 0->h'.objs.size=s.heap.objs.size+5->(∀c o,s.heap.get? c=some o->h'.get? c=some o)->Q (.ref (s.heap.objs.size+4)) {s with heap:=h'}):wpAny (model prog w) A (call (.type "zip") [.ref l1,.ref l2]) Q E s:=by
 have M:Meets (Builtin.«zip.__new__» {pos:=[.type "zip",.ref l1,.ref l2]}) (fun _ R s=>s.heap.IsTuple l1 xs/\s.heap.IsTuple l2 ys/\
  ∀h':Heap,IsZip h' (s.heap.objs.size+4) (s.heap.objs.size+2) (s.heap.objs.size+3) .none->IsPair h' (s.heap.objs.size+2) (.ref s.heap.objs.size) (.ref (s.heap.objs.size+1))->IsPair h' (s.heap.objs.size+3) .none .none->h'.IsTupleIter s.heap.objs.size l1 0->h'.IsTupleIter (s.heap.objs.size+1) l2 0->h'.objs.size=s.heap.objs.size+5->(∀c o,s.heap.get? c=some o->h'.get? c=some o)->R (.ok (.ret (.ref (s.heap.objs.size+4)))) {s with heap:=h'}):=
  Meets.of_wp fun prog w A R s h=>DG h.1 h.2.1 fun h' a1 a2 a3 a4 a5 a6 a7=>⟨_,rfl,h.2.2 h' a1 a2 a3 a4 a5 a6 a7⟩
 refine callType_new F.called_zip (by decide) (F.typeCall_zip_2 _ _) (F.newCall_zip_2 _ _) (fun obj=>F.args_object_init_3 obj _ _) F.entry_zip_new M ⟨hl1,hl2,fun h' a1 a2 a3 a4 a5 a6 a7=> ?_⟩;exact⟨⟨_,a1,rfl⟩,hQ h' a1 a2 a3 a4 a5 a6 a7⟩
end
noncomputable def MM(K:Frag)(a1 a2:Addr):It:=⟨fun i H=>∃xs ys x y,SqT K H a1 xs/\SqT K H a2 ys/\xs[i]? =some x/\ys[i]? =some y,fun i H v H'=>∃T x y,v= .ref T/\H T=none/\H'=upd H T (.tup [x,y])/\(∀xs,SqT K H a1 xs->xs[i]? =some x)/\∀ys,SqT K H a2 ys->ys[i]? =some y,fun i H=>∃xs ys,SqT K H a1 xs/\SqT K H a2 ys/\xs.length<=i⟩
def Cu{K:Frag}{TI TO:Addr}(D:ZipApart z TI TO i1 i2 a1 a2):xm P w K (.Tuple elts k pos) (MM K a1 a2) [z,TI,TO,i1,i2] z (fun i h=>IsZip h z TI TO .none/\IsPair h TI (.ref i1) (.ref i2)/\(∃a b,IsPair h TO a b)/\h.IsTupleIter i1 a1 i/\h.IsTupleIter i2 a2 i) where
 mem:=by simp
 obj:=fun i h st b hb=>by
  obtain⟨hz,hTI,⟨a,b',hTO⟩,⟨o1,g1,c1,d1⟩,⟨o2,g2,c2,d2⟩⟩:=st;simp only[aE,ej,cF] at hb;rcases hb with rfl | rfl | rfl | rfl | rfl
  · exact⟨_,hz,fun v e=>by cases(show Data.fields _=Data.cell v from e)⟩
  · exact⟨_,hTI,fun v e=>by cases(show Data.seq _ _=Data.cell v from e)⟩
  · exact⟨_,hTO,fun v e=>by cases(show Data.seq _ _=Data.cell v from e)⟩
  · exact⟨_,g1,fun v e=>by rw[d1] at e;cases e⟩
  · exact⟨_,g2,fun v e=>by rw[d2] at e;cases e⟩
 keep:=fun i h h' st kk=>by
  obtain⟨hz,hTI,⟨a,b',hTO⟩,⟨o1,g1,r1⟩,⟨o2,g2,r2⟩⟩:=st;exact⟨kk z (by simp) _ hz,kk TI (by simp) _ hTI,⟨a,b',kk TO (by simp) _ hTO⟩,⟨o1,kk i1 (by simp) _ g1,r1⟩,⟨o2,kk i2 (by simp) _ g2,r2⟩⟩
 item:=by
  intro X hP hw hK hc i pins s σ H E I hf st hg;subst hP hw hK;obtain⟨xs,ys,x,y,q1,q2,hx,hy⟩:=hg;obtain⟨hz,hTI,⟨a,b',hTO⟩,h1,h2⟩:=st;obtain⟨us,rv1,p1,hz1⟩:=I.tuple q1;obtain⟨vs,rv2,p2,hz2⟩:=I.tuple q2;obtain⟨u,hu,ru⟩:=rv1.get hx;obtain⟨v,hv,rv⟩:=rv2.get hy;refine oO D hz hTI hTO h1 h2 p1 p2 (x:=u) (y:=v) (by simpa using hu) (by simpa using hv) fun h' e1 e2 e3 e4 e5 e6 e7=>⟨_,rfl,?_⟩;refine wpAny_letOwnedTupleGo_zip e1 fun h'' f1 f2=> ?_;have nT:s.heap.objs.size≠z:=ja (aP hz);have kk:∀b o,b∉[z,TI,TO,i1,i2]->s.heap.get? b=some o->h''.get? b=some o:=fun b o hb q=>by
   simp only[aE,ej,cF,L6] at hb;exact f2.extBut b o hb.1 (e7 b o hb.1 hb.2.2.1 hb.2.2.2.1 hb.2.2.2.2 q)
  have hT2:h''.IsTuple s.heap.objs.size #[u,v]:=⟨_,f2.extBut _ _ nT e5,rfl,0,rfl⟩;refine⟨.ref s.heap.objs.size,upd H s.heap.objs.size (.tup [x,y]),I.turnedT (t':=s.toks) hf kk (ar _) ?_,rfl,⟨_,x,y,rfl,I.hok.fresh (ar _),rfl,fun zs hzs=>by rw[I.tuple_inj hzs q1];exact hx,fun zs hzs=>by rw[I.tuple_inj hzs q2];exact hy⟩,⟨f1,?_,⟨u,v,?_⟩,?_,?_⟩,fun b hb=> ?_⟩
  · exact⟨by show 2<=sizeLine;exact fX (bL (by decide)),[u,v],.cons ru (.cons rv .nil),hT2⟩
  · refine f2.extBut _ _ D.TIz (e7 _ _ D.TIz D.TITO D.TIi1 D.TIi2 hTI)
  · exact f2.extBut _ _ D.TOz e2
  · exact e3.extBut f2.extBut D.i1z
  · exact e4.extBut f2.extBut D.i2z
  · have:b≠s.heap.objs.size:=fun q=>by
     obtain⟨o,ho,_⟩:∃o,s.heap.get? b=some o/\True:=by
      simp only[aE,ej,cF] at hb;obtain⟨o1,g1,_⟩:=h1;obtain⟨o2,g2,_⟩:=h2;rcases hb with rfl | rfl | rfl | rfl | rfl
      · exact⟨_,hz,trivial⟩
      · exact⟨_,hTI,trivial⟩
      · exact⟨_,hTO,trivial⟩
      · exact⟨_,g1,trivial⟩
      · exact⟨_,g2,trivial⟩
     exact absurd q (bI (aP ho))
    rw[aB this];exact(hf b hb).1
 done:=by
  intro X hP hw hK hc i pins s σ H E I hf st hg;subst hP hw hK;obtain⟨xs,ys,q1,q2,hx⟩:=hg;obtain⟨hz,hTI,⟨a,b',hTO⟩,h1,h2⟩:=st;obtain⟨us,rv1,p1,hz1⟩:=I.tuple q1;have hl:=rv1.length;refine p_ (TO:=TO) (I.ok.hd hc) D hz hTI h1 p1 (Array.getElem?_eq_none (by simp;lia)) fun h' e7=>⟨rfl,I.turnedL (t':=s.toks) hf fun b o hb q=> ?_⟩;simp only[aE,ej,cF,L6] at hb;exact e7 b o hb.1 hb.2.2.1 hb.2.2.2.1 hb.2.2.2.2 q
 self:=fun _ _ _ _ _ st h=>wpAny_pyIter_zip st.1 h
def Mh(K:Frag)(ta:TA):TI:=fun σ H R=>ta σ H fun vs H1=>∃a1 a2,vs=[.ref a1,.ref a2]/\(∃xs,SqT K H1 a1 xs)/\(∃ys,SqT K H1 a2 ys)/\R (MM K a1 a2) H1
def BU{X:Cx}{elts:List Expr}{k:Nat}{tpos:Pos}{e1 e2:Expr}{ta:TA}{p pos:Pos}(hg:Gl X "zip")(hm:X.mg "zip"=none)(ha:PA X [e1,e2] ta)(hs:starEach [e1,e2] X.env=(false,eval e1 X.env)::starEach [e2] X.env:=by rfl)(hs2:(backTo pos (starEach [e2] X.env)).any (·.1)=false:=by rfl):PI X (.Tuple elts k tpos) (.Call (.Name "zip" p) [e1,e2] [] pos) (Mh X.K ta):=by
 intro pins s σ H R I h;refine Call_ (oX I hg hm PyProof.Rows.Boot.zip (gr (dD (ha pos pins s σ H _ I h) fun us s1 ⟨vs,H1,I1,r1,q1⟩=> ?_) hs hs2));obtain⟨a1,a2,e,⟨xs,hq1⟩,⟨ys,hq2⟩,q⟩:=q1;subst e;cases r1 with
 | cons ra rr=>
   cases rr with
   | cons rb rr=>
     cases rr;cases ra;cases rb;obtain⟨us,rv1,p1,hz1⟩:=I1.tuple hq1;obtain⟨vs,rv2,p2,hz2⟩:=I1.tuple hq2;have l1:a1<s1.heap.objs.size:=by obtain⟨o,ho,_⟩:=p1;exact aP ho
     have l2:a2<s1.heap.objs.size:=by obtain⟨o,ho,_⟩:=p2;exact aP ho
     refine Dw p1 p2 fun h' f1 f2 f3 f4 f5 f6 f7=> ?_;refine wpAny_pyIter_zip f1 ?_;have I2:Inv X pins σ H1 {s1 with heap:=h'}:=I1.kept (t':=s1.toks) f7;refine⟨_,_,_,_,H1,rfl,I2,Cu (zipApart_new l1 l2),⟨f1,f2,⟨_,_,f3⟩,f4,f5⟩,fun b hb=> ?_,q⟩;have hb':s1.heap.objs.size<=b:=by
      simp only[aE,ej,cF] at hb;rcases hb with h | h | h | h | h<;>rw[h]<;>first | exact ar _ | exact cY _ _
     exact I1.fpOk hb' (I1.hok.fresh hb')
def zc{K:Frag}{g:TG}{tb:TS}{D:qm}(hlen:xs.length=ys.length)(Pv:Nat->St->Hp->Prop)(h0:Pv 0 σ H)(hl:∀i σ H,i<=xs.length->Pv i σ H->SqT K H a1 xs/\SqT K H a2 ys)(hs:∀i x y σ H T,xs[i]? =some x->ys[i]? =some y->Pv i σ H->H T=none->g (.ref T) σ (upd H T (.tup [x,y])) fun σ2 H2=>tb {D with nx:=Pv (i+1),ct:=Pv (i+1),bk:=D.nx} σ2 H2)(hd:∀σ H,Pv xs.length σ H->D.nx σ H):∃W:Nat->Nat->St->Hp->Prop,(∃m,W 0 m σ H)/\∀i m σ H,W i m σ H->((MM K a1 a2).stop i H/\D.nx σ H)\/((MM K a1 a2).go i H/\∃N:St->Hp->Prop,(∀σ' H',N σ' H'->∃m',m'<m/\W (i+1) m' σ' H')/\∀x H',(MM K a1 a2).yld i H x H'->g x σ H' fun σ2 H2=>tb {D with nx:=N,ct:=N,bk:=D.nx} σ2 H2):=by
 refine⟨fun i m σ H=>m=xs.length - i/\i<=xs.length/\Pv i σ H,⟨xs.length,by simp,ay _,h0⟩,?_⟩;rintro i m σ H ⟨rfl,hi,p⟩;obtain⟨q1,q2⟩:=hl i σ H hi p;by_cases hlt:i<xs.length
 · have hlt2:i<ys.length:=by lia
   refine .inr ⟨⟨xs,ys,xs[i],ys[i],q1,q2,by simp[hlt],by simp[hlt2]⟩,Pv (i+1),fun σ' H' p'=>⟨xs.length - (i+1),by lia,rfl,hlt,p'⟩,fun v H' y=> ?_⟩;obtain⟨T,x,y,rfl,hT,rfl,y1,y2⟩:=y;exact hs i x y σ _ T (y1 xs q1) (y2 ys q2) p hT
 · have e:i=xs.length:=by lia
   subst e;exact .inl ⟨⟨xs,ys,q1,q2,ar _⟩,hd σ H p⟩
def vp(K:Frag)(P:Program)(w:World)(a:Addr)(kvs:List (Key × V)):Prop:=∀h:Heap,(∀b o,K.lookup b=some o->h.get? b=some o)->∃vs,KV kvs vs/\h.DictOf (cN P w) a vs
def LB(K:Frag)(P:Program)(w:World)(td ty:TE):TE:=fun σ H Q=>td σ H fun x H1=>ty σ H1 fun y H2=>∃a kvs k v,x= .ref a/\y=kV k/\vp K P w a kvs/\cS kvs k=some v/\Q v H2
def BV(ho:PE X o td)(hi:PE X i ty)(hs:Im i):PE X (.Subscript o i pos) (LB X.K X.prog X.w td ty):=by
 intro pins s σ H Q I h;refine Bc Je.lookup hs (dD (ho pins s σ H _ I h) fun u s1 ⟨x,H1,I1,rx,q1⟩=>dD (hi pins s1 σ H1 _ I1 q1) fun iv s2 ⟨y,H2,I2,ry,a,kvs,k,v,ex,ey,kd,l,q2⟩=> ?_);subst ex ey;obtain rfl:u=Value.ref a:=rx;obtain⟨vs,rel,dd⟩:=kd s2.heap I2.kIn;obtain⟨w',hw,rw'⟩:=RelO.some_of (v:=v) (o:=valueAt vs k) (by rw[<-l];exact rel.val k);exact⟨dd.typeIs,wpAny_getItem_of (nU ry) dd.mapOf hw ⟨v,H2,I2.tok _,rw',q2⟩⟩
noncomputable def Fz(w:World)(e:Str × Tok × Value):DictEntry:=⟨PyData.keyHash w.params e.1,.str e.1 e.2.1,e.2.2⟩
def Jg:List (Key × V)->List (Str × Tok × Value)->Prop:=Paired fun kv e=>kv.1=Sum.inr e.1/\RelV kv.2 e.2.2
theorem yX:∀l:List (Str × Tok × Value),Pairs (cN P w) (l.map (Fz w)) (l.map fun e=>(Sum.inr e.1,e.2.2))
 | []=> .nil
 | e::l=> .cons (kv:=(Sum.inr e.1,e.2.2)) (o_ e.1 e.2.1) rfl (yX l)
theorem IZ:∀{kvs:List (Key × V)} {l:List (Str × Tok × Value)},Jg kvs l->KV kvs (l.map fun e=>(Sum.inr e.1,e.2.2))
 | _,_,.nil=> .nil
 | _,_,.cons r t=> .cons ⟨r.1,r.2⟩ (IZ t)
def Fy{K:Frag}(l:List (Str × Tok × Value))(hl:K.lookup a=some {cls:= .type "dict",dict:=none,data:= .dict (l.map (Fz w)).toArray ep,slots:= #[]})(hr:Jg kvs l)(hn:(l.map (·.1)).Nodup):vp K P w a kvs:=fun h hk=>by
 refine⟨_,IZ hr,_,_,_,hk _ _ hl,⟨rfl,rfl,rfl⟩,rfl,fun e he=> ?_,?_,?_⟩
 · have he':e∈l.map (Fz w):=by simpa using he
   obtain⟨x,_,rfl⟩:=bO.mp he';exact⟨Sum.inr x.1,o_ x.1 x.2.1,rfl⟩
 · exact yX l
 · rw[qk];have:(l.map ((fun x:Key × Value=>x.1)∘fun e=>(Sum.inr e.1,e.2.2)))=(l.map (·.1)).map Sum.inr:=by
    rw[qk];rfl
   rw[this];exact List.Pairwise.map _ (fun a b hab e=>hab (N3 e)) hn
section
end
section
end
section
end
noncomputable def fw:Expr->Bool
 | .Starred _ _=>false
 | _=>true
def qx(h:fw e=true):starEach (e::es) env=(false,eval e env)::starEach es env:=by
 cases e<;>first | (cases h;done) | (rw[starEach.eq_def])
def bY{X:Cx}{e:Expr}{es:List Expr}{te:TE}{t:TA}(ha:PE X e te)(hr:PA X es t)(h:fw e=true:=by rfl):PA X (e::es) (dY te t):=eO ha hr (qx h)
section
end
inductive Tx where
 | non
 | int (i:Int)
 | str (x:Str)
 | tup (ds:List Tx)
 | lst (ds:List Tx)
noncomputable instance:DecidableEq Tx:=fun a b=>Classical.propDecidable (a=b)
mutual
def Xa(H:Hp):Tx->V->Prop
 | .non,v=>v= .non
 | .int i,v=>v= .int i
 | .str x,v=>v= .str x
 | .tup ds,v=>∃p xs,v= .ref p/\H p=some (.tup xs)/\Xas H ds xs
 | .lst ds,v=>∃p xs,v= .ref p/\H p=some (.lst xs)/\Xas H ds xs
def Xas(H:Hp):List Tx->List V->Prop
 | [],xs=>xs=[]
 | d::ds,xs=>∃x r,xs=x::r/\Xa H d x/\Xas H ds r
end
mutual
noncomputable def Tx.dp:Tx->Nat
 | .non=>0
 | .int _=>0
 | .str _=>0
 | .tup ds=>1+vq ds
 | .lst ds=>1+vq ds
noncomputable def vq:List Tx->Nat
 | []=>0
 | d::ds=>max d.dp (vq ds)
end
theorem Xas.len:∀{ds:List Tx} {xs:List V},Xas H ds xs->xs.length=ds.length
 | [],_,h=>by cases h;rfl
 | _::_,_,⟨x,r,e,_,q⟩=>by rw[e,aR,aR,Xas.len q]
theorem Xas.get:∀{ds:List Tx} {xs:List V} {j:Nat} {x:V},Xas H ds xs->xs[j]? =some x->∃d,ds[j]? =some d/\Xa H d x
 | [],_,_,_,h,e=>by cases h;simp at e
 | d::_,_,0,x,⟨y,r,e,h,q⟩,g=>by subst e;simp at g;subst g;exact⟨d,rfl,h⟩
 | d::ds,_,j+1,x,⟨y,r,e,h,q⟩,g=>by
   subst e;obtain⟨d',g1,g2⟩:=Xas.get (j:=j) q (by simpa using g);exact⟨d',by simpa using g1,g2⟩
theorem xD:∀{ds:List Tx} {d:Tx},d∈ds->d.dp<=vq ds
 | e::ds,d,h=>by
   rcases aE.mp h with rfl | h
   · exact Nat.le_max_left _ _
   · exact au (xD h) (Nat.le_max_right _ _)
theorem Xas.inj(ih:∀d d' v,d.dp<=n->Xa H d v->Xa H d' v->d=d'):∀{ds es:List Tx} {xs:List V},vq ds<=n->Xas H ds xs->Xas H es xs->ds=es
 | [],[],_,_,_,_=>rfl
 | [],_::_,_,_,h,⟨x,r,e,_⟩=>by have h':_=[]:=h;rw[h'] at e;cases e
 | _::_,[],_,_,⟨x,r,e,_⟩,h=>by have h':_=[]:=h;rw[h'] at e;cases e
 | d::ds,e::es,_,hn,⟨x,r,e1,h1,q1⟩,⟨y,r',e2,h2,q2⟩=>by
   rw[e1] at e2;cases e2;have m:max d.dp (vq ds)<=n:=hn;rw[ih d e x (by lia) h1 h2,Xas.inj ih (by lia) q1 q2]
def Xa.inj_n(n:Nat):∀d d' v,d.dp<=n->Xa H d v->Xa H d' v->d=d':=by
 induction n with
 | zero=>
   intro d d' v hn h h';cases d with
   | tup ds=>simp only[Tx.dp] at hn;lia
   | lst ds=>simp only[Tx.dp] at hn;lia
   | non=>
     have e:v= .non:=h;subst e;cases d' with
     | non=>rfl
     | int i=>exact absurd (show V.non= .int i from h') (by intro z;cases z)
     | str i=>exact absurd (show V.non= .str i from h') (by intro z;cases z)
     | tup es=>obtain⟨p,xs,e,_⟩:=(show ∃p xs,V.non= .ref p/\H p=some (.tup xs)/\Xas H es xs from h');cases e
     | lst es=>obtain⟨p,xs,e,_⟩:=(show ∃p xs,V.non= .ref p/\H p=some (.lst xs)/\Xas H es xs from h');cases e
   | int j=>
     have e:v= .int j:=h;subst e;cases d' with
     | non=>exact absurd (show V.int j= .non from h') (by intro z;cases z)
     | int i=>have z:V.int j= .int i:=h';cases z;rfl
     | str i=>exact absurd (show V.int j= .str i from h') (by intro z;cases z)
     | tup es=>obtain⟨p,xs,e,_⟩:=(show ∃p xs,V.int j= .ref p/\H p=some (.tup xs)/\Xas H es xs from h');cases e
     | lst es=>obtain⟨p,xs,e,_⟩:=(show ∃p xs,V.int j= .ref p/\H p=some (.lst xs)/\Xas H es xs from h');cases e
   | str j=>
     have e:v= .str j:=h;subst e;cases d' with
     | non=>exact absurd (show V.str j= .non from h') (by intro z;cases z)
     | int i=>exact absurd (show V.str j= .int i from h') (by intro z;cases z)
     | str i=>have z:V.str j= .str i:=h';cases z;rfl
     | tup es=>obtain⟨p,xs,e,_⟩:=(show ∃p xs,V.str j= .ref p/\H p=some (.tup xs)/\Xas H es xs from h');cases e
     | lst es=>obtain⟨p,xs,e,_⟩:=(show ∃p xs,V.str j= .ref p/\H p=some (.lst xs)/\Xas H es xs from h');cases e
 | succ n ih=>
   intro d d' v hn h h';by_cases hz:d.dp<=n
   · exact ih d d' v hz h h'
   cases d with
   | non=>exact absurd (ay n) hz
   | int _=>exact absurd (ay n) hz
   | str _=>exact absurd (ay n) hz
   | tup ds=>
     obtain⟨p,xs,rfl,e1,q1⟩:=(show ∃p xs,v= .ref p/\H p=some (.tup xs)/\Xas H ds xs from h);simp only[Tx.dp] at hn;cases d' with
     | non=>exact absurd (show V.ref p= .non from h') (by intro z;cases z)
     | int i=>exact absurd (show V.ref p= .int i from h') (by intro z;cases z)
     | str i=>exact absurd (show V.ref p= .str i from h') (by intro z;cases z)
     | tup es=>
       obtain⟨p',ys,e,e2,q2⟩:=(show ∃p' xs,V.ref p= .ref p'/\H p'=some (.tup xs)/\Xas H es xs from h');cases e;rw[e1] at e2;cases e2;rw[Xas.inj ih (by lia) q1 q2]
     | lst es=>
       obtain⟨p',ys,e,e2,q2⟩:=(show ∃p' xs,V.ref p= .ref p'/\H p'=some (.lst xs)/\Xas H es xs from h');cases e;rw[e1] at e2;cases e2
   | lst ds=>
     obtain⟨p,xs,rfl,e1,q1⟩:=(show ∃p xs,v= .ref p/\H p=some (.lst xs)/\Xas H ds xs from h);simp only[Tx.dp] at hn;cases d' with
     | non=>exact absurd (show V.ref p= .non from h') (by intro z;cases z)
     | int i=>exact absurd (show V.ref p= .int i from h') (by intro z;cases z)
     | str i=>exact absurd (show V.ref p= .str i from h') (by intro z;cases z)
     | lst es=>
       obtain⟨p',ys,e,e2,q2⟩:=(show ∃p' xs,V.ref p= .ref p'/\H p'=some (.lst xs)/\Xas H es xs from h');cases e;rw[e1] at e2;cases e2;rw[Xas.inj ih (by lia) q1 q2]
     | tup es=>
       obtain⟨p',ys,e,e2,q2⟩:=(show ∃p' xs,V.ref p= .ref p'/\H p'=some (.tup xs)/\Xas H es xs from h');cases e;rw[e1] at e2;cases e2
def Xa.inj(h:Xa H d v)(h':Xa H d' v):d=d':=Xa.inj_n d.dp d d' v (ar _) h h'
def xl(ds es:List Tx):((List.range (min ds.length es.length)).all (fun j=>decide (ds[j]? =es[j]?))&&ds.length==es.length)=decide (ds=es):=by
 by_cases h:ds=es
 · subst h;simp
 · rw[aq h];by_cases hl:ds.length=es.length
   · have:¬ (List.range (min ds.length es.length)).all (fun j=>decide (ds[j]? =es[j]?))=true:=by
      intro ha;apply h;apply Pr;intro j;by_cases hj:j<ds.length
      · have:=(eZ.mp ha) j (dm.mpr (by lia));simpa using this
      · rw[jx (by lia),jx (by lia)]
     rw[AR.mpr this];rfl
   · rw[cy.mpr hl,ug]
def Cf(ds es:List Tx):decide (Tx.tup ds=Tx.tup es)=decide (ds=es):=by
 by_cases h:ds=es
 · subst h;simp
 · rw[aq h,aq (by intro z;cases z;exact h rfl)]
def Ia(ds es:List Tx):decide (Tx.lst ds=Tx.lst es)=decide (ds=es):=by
 by_cases h:ds=es
 · subst h;simp
 · rw[aq h,aq (by intro z;cases z;exact h rfl)]
section
def uZ(hx:Xa H d x)(hy:Xa H d' y)(ru:RelV x u)(rv:RelV y v)(h:SeqAt.RcAt A s u v (decide (d=d'))):SeqAt.EqAt A s u v (decide (d=d')):=by
 by_cases z:u=v
 · subst z;have e:x=y:=RelV.inj ru rv;subst e;rw[aG (Xa.inj hx hy)];exact SeqAt.EqAt.same _
 · intro prog w E Q hq;unfold eqBool;refine eo ?_;refine wpAny_ite_split (fun hab=>absurd (eq_of_beq hab) z) (fun _=> ?_);have nf:∀b t,u≠ .float b t:=by
    rintro b t rfl;cases d with
    | non=>have e:x= .non:=hx;subst e;cases ru
    | int i=>have e:x= .int i:=hx;subst e;obtain⟨_,e⟩:=ru;cases e
    | str i=>have e:x= .str i:=hx;subst e;obtain⟨_,e⟩:=ru;cases e
    | tup ds=>obtain⟨p,xs,rfl,_⟩:=(show ∃p xs,x= .ref p/\H p=some (.tup xs)/\Xas H ds xs from hx);cases ru
    | lst ds=>obtain⟨p,xs,rfl,_⟩:=(show ∃p xs,x= .ref p/\H p=some (.lst xs)/\Xas H ds xs from hx);cases ru
   cases u with
   | float b t=>exact absurd rfl (nf b t)
   | _=>exact af (h prog w E _ (dR hq))
def LJ(hx:Xas H ds xs)(hy:Xas H es ys)(r1:Vals xs its)(r2:Vals ys jts)(hn:vq ds<=n)(ih:∀d d' x y u v,d.dp<=n->Xa H d x->Xa H d' y->RelV x u->RelV y v->SeqAt.EqAt A s u v (decide (d=d'))):its.toArray.size=ds.length/\jts.toArray.size=es.length/\∀j (g1:j<its.toArray.size) (g2:j<jts.toArray.size),SeqAt.EqAt A s its.toArray[j] jts.toArray[j] ((fun j=>decide (ds[j]? =es[j]?)) j):=by
 have l1:its.toArray.size=ds.length:=by rw[a_,<-r1.length,hx.len]
 have l2:jts.toArray.size=es.length:=by rw[a_,<-r2.length,hy.len]
 refine⟨l1,l2,fun j g1 g2=> ?_⟩;have j1:j<xs.length:=by rw[hx.len,<-l1];exact g1
 have j2:j<ys.length:=by rw[hy.len,<-l2];exact g2
 obtain⟨k1,e1,i1⟩:=hx.get (aN j1);obtain⟨k2,e2,i2⟩:=hy.get (aN j2);obtain⟨u1,a1,b1⟩:=r1.get (aN j1);obtain⟨u2,a2,b2⟩:=r2.get (aN j2);have c1:its.toArray[j]=u1:=by
  have:=(aO.mp a1).2;simpa using this
 have c2:jts.toArray[j]=u2:=by
  have:=(aO.mp a2).2;simpa using this
 rw[c1,c2];show SeqAt.EqAt A s u1 u2 (decide (ds[j]? =es[j]?));rw[e1,e2];have:decide (some k1=some k2)=decide (k1=k2):=by
  by_cases h:k1=k2
  · subst h;simp
  · rw[aq h,aq (by intro z;cases z;exact h rfl)]
 rw[this];exact ih k1 k2 _ _ _ _ (au (xD (ak e1)) hn) i1 i2 b1 b2
def LR{σ:St}(I:Inv X pins σ H s)(n:Nat):∀d d' A x y u v,d.dp<=n->Xa H d x->Xa H d' y->RelV x u->RelV y v->A.units+d.dp<cLine->SeqAt.RcAt A s u v (decide (d=d'))/\SeqAt.RcNeAt A s u v (!decide (d=d')):=by
 have tupA:∀{es:List Tx} {y:V} {v:Value},Xa H (.tup es) y->RelV y v->∃p ys jts,y= .ref p/\v= .ref p/\Xas H es ys/\Vals ys jts/\s.heap.IsTuple p jts.toArray:=by
  intro es y v h r;obtain⟨p,ys,rfl,e,q⟩:=(show ∃p xs,y= .ref p/\H p=some (.tup xs)/\Xas H es xs from h);obtain⟨_,its,r1,t1⟩:=(show ObjOk X.prog X.w H s.heap p (.tup ys) from I.hok p _ e);exact⟨p,ys,its,rfl,r,q,r1,t1⟩
 have lstA:∀{es:List Tx} {y:V} {v:Value},Xa H (.lst es) y->RelV y v->∃p ys jts,y= .ref p/\v= .ref p/\Xas H es ys/\Vals ys jts/\s.heap.IsList p jts.toArray:=by
  intro es y v h r;obtain⟨p,ys,rfl,e,q⟩:=(show ∃p xs,y= .ref p/\H p=some (.lst xs)/\Xas H es xs from h);obtain⟨its,r1,t1,_⟩:=I.list (SqL.of e);exact⟨p,ys,its,rfl,r,q,r1,t1.isList⟩
 have base:∀(d d':Tx) (A:Around) (x y:V) (u v:Value),d.dp<=0->Xa H d x->Xa H d' y->RelV x u->RelV y v->A.units+d.dp<cLine->SeqAt.RcAt A s u v (decide (d=d'))/\SeqAt.RcNeAt A s u v (!decide (d=d')):=by
  intro d d' A x y u v hn hx hy ru rv hl;have hl0:A.units<cLine:=by lia
  cases d with
  | tup ds=>simp only[Tx.dp] at hn;lia
  | lst ds=>simp only[Tx.dp] at hn;lia
  | non=>
    have ex:x= .non:=hx;subst ex;have eu:u= .none:=ru;subst eu;cases d' with
    | non=>
      have ey:y= .non:=hy;subst ey;have ev:v= .none:=rv;subst ev;rw[aG rfl];exact⟨SeqAt.RcAt.none_none,SeqAt.RcNeAt.none_none⟩
    | int i=>
      have ey:y= .int i:=hy;subst ey;obtain⟨t,rfl⟩:=rv;rw[aq (by intro z;cases z)];exact⟨SeqAt.RcAt.none_int _ _,SeqAt.RcNeAt.none_int _ _⟩
    | str i=>
      have ey:y= .str i:=hy;subst ey;obtain⟨t,rfl⟩:=rv;rw[aq (by intro z;cases z)];exact⟨SeqAt.RcAt.none_str _ _,SeqAt.RcNeAt.none_str _ _⟩
    | tup es=>
      obtain⟨p,ys,jts,rfl,rfl,_,_,t⟩:=tupA hy rv;rw[aq (by intro z;cases z)];exact⟨SeqAt.RcAt.none_tuple t hl0,SeqAt.RcNeAt.none_tuple t hl0⟩
    | lst es=>
      obtain⟨p,ys,jts,rfl,rfl,_,_,t⟩:=lstA hy rv;rw[aq (by intro z;cases z)];exact⟨SeqAt.RcAt.none_list t hl0,SeqAt.RcNeAt.none_list t hl0⟩
  | int j=>
    have ex:x= .int j:=hx;subst ex;obtain⟨t0,rfl⟩:=ru;cases d' with
    | non=>
      have ey:y= .non:=hy;subst ey;have ev:v= .none:=rv;subst ev;rw[aq (by intro z;cases z)];exact⟨SeqAt.RcAt.int_none _ _,SeqAt.RcNeAt.int_none _ _⟩
    | int i=>
      have ey:y= .int i:=hy;subst ey;obtain⟨t,rfl⟩:=rv;have e:decide (Tx.int j=Tx.int i)=(j==i):=by
       by_cases h:j=i
       · subst h;simp
       · rw[aq (by intro z;cases z;exact h rfl),cy.mpr h]
      rw[e];exact⟨SeqAt.RcAt.int_int _ _ _ _,SeqAt.RcNeAt.int_int _ _ _ _⟩
    | str i=>
      have ey:y= .str i:=hy;subst ey;obtain⟨t,rfl⟩:=rv;rw[aq (by intro z;cases z)];exact⟨SeqAt.RcAt.int_str _ _ _ _,SeqAt.RcNeAt.int_str _ _ _ _⟩
    | tup es=>
      obtain⟨p,ys,jts,rfl,rfl,_,_,t⟩:=tupA hy rv;rw[aq (by intro z;cases z)];exact⟨SeqAt.RcAt.int_tuple _ _ t hl0,SeqAt.RcNeAt.int_tuple _ _ t hl0⟩
    | lst es=>
      obtain⟨p,ys,jts,rfl,rfl,_,_,t⟩:=lstA hy rv;rw[aq (by intro z;cases z)];exact⟨SeqAt.RcAt.int_list _ _ t hl0,SeqAt.RcNeAt.int_list _ _ t hl0⟩
  | str j=>
    have ex:x= .str j:=hx;subst ex;obtain⟨t0,rfl⟩:=ru;cases d' with
    | non=>
      have ey:y= .non:=hy;subst ey;have ev:v= .none:=rv;subst ev;rw[aq (by intro z;cases z)];exact⟨SeqAt.RcAt.str_none _ _,SeqAt.RcNeAt.str_none _ _⟩
    | int i=>
      have ey:y= .int i:=hy;subst ey;obtain⟨t,rfl⟩:=rv;rw[aq (by intro z;cases z)];exact⟨SeqAt.RcAt.str_int _ _ _ _,SeqAt.RcNeAt.str_int _ _ _ _⟩
    | str i=>
      have ey:y= .str i:=hy;subst ey;obtain⟨t,rfl⟩:=rv;have e:decide (Tx.str j=Tx.str i)=(j==i):=by
       by_cases h:j=i
       · subst h;simp
       · rw[aq (by intro z;cases z;exact h rfl),cy.mpr h]
      rw[e];exact⟨SeqAt.RcAt.str_str _ _ _ _,SeqAt.RcNeAt.str_str _ _ _ _⟩
    | tup es=>
      obtain⟨p,ys,jts,rfl,rfl,_,_,t⟩:=tupA hy rv;rw[aq (by intro z;cases z)];exact⟨SeqAt.RcAt.str_tuple _ _ t hl0,SeqAt.RcNeAt.str_tuple _ _ t hl0⟩
    | lst es=>
      obtain⟨p,ys,jts,rfl,rfl,_,_,t⟩:=lstA hy rv;rw[aq (by intro z;cases z)];exact⟨SeqAt.RcAt.str_list _ _ t hl0,SeqAt.RcNeAt.str_list _ _ t hl0⟩
 induction n with
 | zero=>exact fun d d' A x y u v hn=>base d d' A x y u v (by lia)
 | succ n ih=>
   intro d d' A x y u v hn hx hy ru rv hl;have hl0:A.units<cLine:=by lia
   cases d with
   | non=>exact base _ d' A x y u v (ar _) hx hy ru rv hl
   | int _=>exact base _ d' A x y u v (ar _) hx hy ru rv hl
   | str _=>exact base _ d' A x y u v (ar _) hx hy ru rv hl
   | tup ds=>
     obtain⟨p0,xs,its,rfl,rfl,q1,r1,t1⟩:=tupA hx ru;simp only[Tx.dp] at hn hl;cases d' with
     | non=>
       have ey:y= .non:=hy;subst ey;have ev:v= .none:=rv;subst ev;rw[aq (by intro z;cases z)];exact⟨SeqAt.RcAt.tuple_none t1 hl0,SeqAt.RcNeAt.tuple_none t1 hl0⟩
     | int i=>
       have ey:y= .int i:=hy;subst ey;obtain⟨t,rfl⟩:=rv;rw[aq (by intro z;cases z)];exact⟨SeqAt.RcAt.tuple_int _ _ t1 hl0,SeqAt.RcNeAt.tuple_int _ _ t1 hl0⟩
     | str i=>
       have ey:y= .str i:=hy;subst ey;obtain⟨t,rfl⟩:=rv;rw[aq (by intro z;cases z)];exact⟨SeqAt.RcAt.tuple_str _ _ t1 hl0,SeqAt.RcNeAt.tuple_str _ _ t1 hl0⟩
     | tup es=>
       obtain⟨p,ys,jts,rfl,rfl,q2,r2,t2⟩:=tupA hy rv;obtain⟨l1,l2,he⟩:=LJ (A:=A.in1) (s:=s) (n:=min n (vq ds)) q1 q2 r1 r2 (by lia) fun d d' x y u v hd a b c e=>
        uZ a b c e (ih d d' A.in1 x y u v (by lia) a b c e (by rw[uV];lia)).1
       have g1:=SeqAt.RcAt.tuples (A:=A) t1 t2 hl0 he;have g2:=SeqAt.RcNeAt.tuples (A:=A) t1 t2 hl0 he;rw[l1,l2,xl,<-Cf] at g1;rw[l1,l2,xl,<-Cf] at g2;exact⟨g1,g2⟩
     | lst es=>
       obtain⟨p,ys,jts,rfl,rfl,_,_,t⟩:=lstA hy rv;rw[aq (by intro z;cases z)];exact⟨SeqAt.RcAt.tuple_list t1 t hl0,SeqAt.RcNeAt.tuple_list t1 t hl0⟩
   | lst ds=>
     obtain⟨p0,xs,its,rfl,rfl,q1,r1,t1⟩:=lstA hx ru;simp only[Tx.dp] at hn hl;cases d' with
     | non=>
       have ey:y= .non:=hy;subst ey;have ev:v= .none:=rv;subst ev;rw[aq (by intro z;cases z)];exact⟨SeqAt.RcAt.list_none t1 hl0,SeqAt.RcNeAt.list_none t1 hl0⟩
     | int i=>
       have ey:y= .int i:=hy;subst ey;obtain⟨t,rfl⟩:=rv;rw[aq (by intro z;cases z)];exact⟨SeqAt.RcAt.list_int _ _ t1 hl0,SeqAt.RcNeAt.list_int _ _ t1 hl0⟩
     | str i=>
       have ey:y= .str i:=hy;subst ey;obtain⟨t,rfl⟩:=rv;rw[aq (by intro z;cases z)];exact⟨SeqAt.RcAt.list_str _ _ t1 hl0,SeqAt.RcNeAt.list_str _ _ t1 hl0⟩
     | tup es=>
       obtain⟨p,ys,jts,rfl,rfl,_,_,t⟩:=tupA hy rv;rw[aq (by intro z;cases z)];exact⟨SeqAt.RcAt.list_tuple t1 t hl0,SeqAt.RcNeAt.list_tuple t1 t hl0⟩
     | lst es=>
       obtain⟨p,ys,jts,rfl,rfl,q2,r2,t2⟩:=lstA hy rv;obtain⟨l1,l2,he⟩:=LJ (A:=A.in1) (s:=s) (n:=min n (vq ds)) q1 q2 r1 r2 (by lia) fun d d' x y u v hd a b c e=>
        uZ a b c e (ih d d' A.in1 x y u v (by lia) a b c e (by rw[uV];lia)).1
       by_cases hz:ds.length=es.length
       · have g1:=SeqAt.RcAt.lists (A:=A) t1 t2 (by rw[l1,l2,hz]) hl0 he;have g2:=SeqAt.RcNeAt.lists (A:=A) t1 t2 (by rw[l1,l2,hz]) hl0 he;have e:(List.range its.toArray.size).all (fun j=>decide (ds[j]? =es[j]?))=decide (Tx.lst ds=Tx.lst es):=by
          have:=xl ds es;rw[hz,Nat.min_self,beq_self_eq_true,Bool.and_true] at this;rw[l1,hz,this,Ia]
         rw[e] at g1;rw[e] at g2;exact⟨g1,g2⟩
       · have hz':(its.toArray.size !=jts.toArray.size)=true:=by rw[l1,l2];simp[hz]
         rw[aq (by intro z;cases z;exact hz rfl)];exact⟨SeqAt.RcAt.lists_lengths t1 t2 hz' hl0,SeqAt.RcNeAt.lists_lengths t1 t2 hz' hl0⟩
end
section
def NK:R2:=fun x y H Q=>∃k k':Tx,Xa H k x/\Xa H k' y/\k.dp<=60/\Q (.bl (decide (k=k'))) H
def JX(hu:X.A.units+64<cLine):lP X (compareOp .Eq) NK:=by
 intro pins s σ H x y v u Q I rx ry h;obtain⟨k,k',h1,h2,hd,q⟩:=h;exact(LR I k.dp k k' X.A x y v u (ar _) h1 h2 rx ry (by lia)).1 _ _ _ _ ⟨.bl _,H,I,rfl,q⟩
end
noncomputable def Kd.tx:Kd->Tx
 | .nm x=> .str x
 | .two a b=> .tup [.str "both",a.tx,b.tx]
 | .som r c=> .tup [.str "some",.str r,c.tx]
theorem IsK.xa:∀{k:Kd} {v:V},IsK H k v->Xa H k.tx v
 | .nm _,_,h=>h
 | .two _ _,_,⟨p,x,y,e,h,ha,hb⟩=>⟨p,_,e,h,_,_,rfl,rfl,_,_,rfl,ha.xa,_,_,rfl,hb.xa,rfl⟩
 | .som _ _,_,⟨p,y,e,h,hc⟩=>⟨p,_,e,h,_,_,rfl,rfl,_,_,rfl,rfl,_,_,rfl,hc.xa,rfl⟩
theorem Kd.tx_inj:∀{a b:Kd},a.tx=b.tx->a=b
 | .nm _,.nm _,h=>by injection h with h;rw[h]
 | .nm _,.two _ _,h=>by cases h
 | .nm _,.som _ _,h=>by cases h
 | .two _ _,.nm _,h=>by cases h
 | .som _ _,.nm _,h=>by cases h
 | .two _ _,.two _ _,h=>by
   injection h with h
   injection h with _ h
   injection h with h1 h
   injection h with h2 _
   rw[Kd.tx_inj h1,Kd.tx_inj h2]
 | .two _ _,.som _ _,h=>by
   injection h with h
   injection h with h _
   injection h with h
   exact absurd h nX
 | .som _ _,.two _ _,h=>by
   injection h with h
   injection h with h _
   injection h with h
   exact absurd h.symm nX
 | .som _ _,.som _ _,h=>by
   injection h with h
   injection h with _ h
   injection h with h1 h
   injection h with h2 _
   injection h1 with h1
   rw[h1,Kd.tx_inj h2]
theorem Kd.tx_dp:∀k:Kd,k.tx.dp=k.dep
 | .nm _=>rfl
 | .two a b=>by
   show 1+max 0 (max a.tx.dp (max b.tx.dp 0))=1+max a.dep b.dep;rw[tx_dp a,tx_dp b];lia
 | .som _ c=>by
   show 1+max 0 (max 0 (max c.tx.dp 0))=1+c.dep;rw[tx_dp c];lia
open PySem
open PySem PyProof.Rows
section
end
section
end
section
variable {prog:Program}{w:World}{κ:Type}[DecidableEq κ]{knd:KeyKind prog w κ}{A:Around}{E:Value->Shared->Prop}{s:Shared}
def Ent(knd:KeyKind prog w κ)(e:Int × Value)(k:κ):Prop:=knd.is k e.2=true/\e.1=knd.hash k/\e.2.scannable=true
end
section
variable {prog:Program}{w:World}{κ:Type}[DecidableEq κ]{knd:KeyKind prog w κ}{A:Around}{E:Value->Shared->Prop}{s:Shared}
end
section
variable {prog:Program}{w:World}{κ:Type}[DecidableEq κ]{knd:KeyKind prog w κ}{A:Around}{E:Value->Shared->Prop}{s:Shared}
end
section
variable {prog:Program}{w:World}{κ:Type}[DecidableEq κ]{knd:KeyKind prog w κ}{A:Around}{E:Value->Shared->Prop}{s:Shared}
end
section
variable {prog:Program}{w:World}{κ:Type}[DecidableEq κ]{knd:KeyKind prog w κ}{A:Around}{E:Value->Shared->Prop}{s:Shared}
end
section
end
section
end
section
end
def He(hK:X.K=K')(hc:X.calm=true)(hN:X.N.Nodup)(hi:X.N[i]? =some x)(hj:X.N[j]? =some y)(lx:X.env.scope.names.lookup x=some .local)(ly:X.env.scope.names.lookup y=some .local):PG X (.Tuple [.Name x p1,.Name y p2] k pos) (Mn K' 2 (pX (ir i) (pX (ir j) HV))):=by
 subst hK;exact eJ hc (bw (qG hN hi (.inl lx) (.inr lx)) (bw (qG hN hj (.inl ly) (.inr ly)) dA))
section
end
section
def onV.of(e:σ[i]? =some (some v))(q:Q v):onV σ i Q:=by unfold onV;rw[e];exact q
end
section
end
section
variable {prog:Program}{w:World}{κ:Type}[DecidableEq κ]{knd:KeyKind prog w κ}
end
section
end
section
end
section
def Ek:V->List V->Hp->VK->Prop:=fun x vs H Q=>∃z,x= .str z/\vs=[]/\Q (.bl (Txt.isupper z)) H
def As:M6 X "str.isupper" Ek:=by
 intro pins s σ H x xs v us Q I rx rs h;obtain⟨z,rfl,rfl,q⟩:=h;obtain⟨t,rfl⟩:=rx;cases rs;exact SC.isupper ⟨.bl (Txt.isupper z),H,I,rfl,q⟩
end
section
end
section
end
noncomputable def qX(e:Expr)(depth:Nat)(it acc:Value)(env:Env)(p:Pos)(target:Expr)(ifs:List Expr)(B:Sem Fin->Sem Fin):Sem Fin:=do
 standAt p
 match<-pyNext it with
 | none=>pure (.done .next)
 | some v=>
   letOwnedTupleGo target it v
   assign target env v
   let mut ok:=true
   for c in ifs do
    if ok then ok<-isTrue c env (eval c env)
   if ok then B (again (.compLoop e depth it acc env)) else again (.compLoop e depth it acc env)
noncomputable def Ja(kx vx:Expr)(D:Addr)(env:Env):Sem Unit:=do
 let kv<-eval kx env
 let vv<-holding [kv] (eval vx env)
 standAt {kx.pos with endLine:=vx.pos.endLine,endCol:=vx.pos.endCol}
 holding [kv,vv] (dictSet D kv vv)
noncomputable def FN(kx vx:Expr)(D:Addr)(env:Env)(k:Sem Fin):Sem Fin:=do
 Ja kx vx D env
 k
noncomputable def AF(e:Expr)(iter2:Expr)(acc:Value)(env:Env)(k:Sem Fin):Sem Fin:=do
 let x<-eval iter2 env
 standAt iter2.pos
 let x<-foldedSetIterable iter2 env x
 let _<-runOwn (.compStart e 1 (<-holding [x] (pyIter x)) acc env) env
 k
def Lq(kx vx tg iter:Expr)(ifs:List Expr)(tg2 iter2:Expr)(ifs2:List Expr)(scope:Scope)(pos:Pos)(it:Value)(D:Addr)(env:Env):compTurn (.DictComp kx vx [⟨tg,iter,ifs,0⟩,⟨tg2,iter2,ifs2,0⟩] scope pos) 0 it (.ref D) env=qX (.DictComp kx vx [⟨tg,iter,ifs,0⟩,⟨tg2,iter2,ifs2,0⟩] scope pos) 0 it (.ref D) env iter.pos tg ifs (AF (.DictComp kx vx [⟨tg,iter,ifs,0⟩,⟨tg2,iter2,ifs2,0⟩] scope pos) iter2 (.ref D) env):=by rfl
def Lp(kx vx tg iter:Expr)(ifs:List Expr)(tg2 iter2:Expr)(ifs2:List Expr)(scope:Scope)(pos:Pos)(it:Value)(D:Addr)(env:Env):compTurn (.DictComp kx vx [⟨tg,iter,ifs,0⟩,⟨tg2,iter2,ifs2,0⟩] scope pos) 1 it (.ref D) env=qX (.DictComp kx vx [⟨tg,iter,ifs,0⟩,⟨tg2,iter2,ifs2,0⟩] scope pos) 1 it (.ref D) env iter2.pos tg2 ifs2 (FN kx vx D env):=by rfl
theorem HG{prog:Program}{w:World}{A:Around}{R:Result->Shared->Prop}{s:Shared}{kx vx target:Expr}{gs:List Comprehension}{scope:Scope}{pos:Pos}{depth:Nat}{p:Pos}{ifs:List Expr}{it acc:Value}{env:Env}{B:Sem Fin->Sem Fin}(ht:compTurn (.DictComp kx vx gs scope pos) depth it acc env=qX (.DictComp kx vx gs scope pos) depth it acc env p target ifs B)(I:Nat->Shared->Prop)(turn:∀n s,I n s->wpAny (model prog w) A (pyNext it) (fun r s₁=>match r with
 | none=>R (.ok .next) s₁
 | some v=>wpAny (model prog w) A (letOwnedTupleGo target it v) (fun _ s₁'=>wpAny (model prog w) A (assign target env v) (fun _ s₂=>
  wpAny (model prog w) A (forIn ifs true fun c r=>if r=true then do let ok<-isTrue c env (eval c env);pure (ForInStep.yield ok) else pure (ForInStep.yield r)) (fun ok s₃=>
   if ok=true then(∀(k:Sem Fin) (Q:Fin->Shared->Prop),(∀s₆,(∃m,m<n/\I m s₆)->wpAny (model prog w) A k Q (fun _ _=>False) s₆)->wpAny (model prog w) A (B k) Q (fun _ _=>False) s₃)
   else ∃m,m<n/\I m s₃) (fun _ _=>False) s₂) (fun _ _=>False) s₁') (fun _ _=>False) s₁) (fun _ _=>False) s) (n:Nat) (h:I n s):codeAny (model prog w) A (.compLoop (.DictComp kx vx gs scope pos) depth it acc env) R s:=by
 refine codeAny_loop rfl I (fun n s hI=> ?_) n h;show wpAny _ A ((compTurn (.DictComp kx vx gs scope pos) depth it acc env).onRaise (fun x=>do noteFrame x env;theTreesLotGoes x)) _ _ s;refine wpAny_noted ?_;refine wpAny_noRaise ?_;rw[ht];unfold qX;refine af (fE (af (cR (turn n s hI) (fun r s₁ h₁=> ?_) fun _ _ h'=>h')));cases r with
 | none=>exact aH h₁
 | some v=>
   refine af (cR h₁ (fun _ s₁' h₁'=> ?_) fun _ _ h'=>h');refine af (cR h₁' (fun _ s₂ h₂=>af (cR h₂ (fun ok s₃ h₃=> ?_) fun _ _ h'=>h')) fun _ _ h'=>h');cases ok with
   | false=>exact aH ⟨rfl,h₃⟩
   | true=>exact h₃ _ _ fun s₆ h₆=>aH ⟨rfl,h₆⟩
abbrev TB:=St->Hp->(St->Hp->Prop)->Prop
def Mb(J:It)(g:TG)(tc:TT)(tb:TB)(Fin:St->Hp->Prop)(σ0:St)(H0:Hp):Prop:=∃W:Nat->Nat->St->Hp->Prop,(∃m,W 0 m σ0 H0)/\∀i m σ H,W i m σ H->(J.stop i H/\Fin σ H)\/(J.go i H/\∃N:St->Hp->Prop,(∀σ' H',N σ' H'->∃m',m'<m/\W (i+1) m' σ' H')/\∀x H1,J.yld i H x H1->g x σ H1 fun σ2 H2=>tc σ2 H2 fun b H3=>
   if b=true then tb σ2 H3 N else N σ2 H3)
def IT{Fin:St->Hp->Prop}(n:Nat)(Pv:Nat->St->Hp->Prop)(h0:Pv 0 σ0 H0)(hend:∀σ H,Pv n σ H->J.stop n H/\Fin σ H)(hs:∀i σ H,i<n->Pv i σ H->J.go i H/\∀x H1,J.yld i H x H1->g x σ H1 fun σ2 H2=>tc σ2 H2 fun b H3=>
 if b=true then tb σ2 H3 (Pv (i+1)) else Pv (i+1) σ2 H3):Mb J g tc tb Fin σ0 H0:=by
 refine⟨fun i m σ H=>m=n - i/\i<=n/\Pv i σ H,⟨n,by simp,ay _,h0⟩,?_⟩;rintro i m σ H ⟨rfl,hi,p⟩;by_cases hlt:i<n
 · obtain⟨q1,q2⟩:=hs i σ H hlt p;exact .inr ⟨q1,Pv (i+1),fun σ' H' p'=>⟨n - (i+1),by lia,rfl,hlt,p'⟩,q2⟩
 · have e:i=n:=by lia
   subst e;exact .inl (hend σ H p)
def A_(tk tv:TE)(D:Addr):TB:=fun σ H N=>tk σ H fun y H4=>tv σ H4 fun v H5=>∃kvs k,y=kV k/\H5 D=some (.dK kvs)/\kvs.length<sizeLine/\N σ (upd H5 D (.dK (bZ kvs k v)))
def Nq(wi:TI)(g:TG)(tc:TT)(tb:TB):TB:=fun σ H N=>wi σ H fun J H1=>Mb J g tc tb N σ H1
def GH(wi:TI)(g:TG)(tc:TT)(wi2:TI)(g2:TG)(tc2:TT)(tk tv:TE)(nl:Nat)(caps:List Nat):TE:=fun σ H Q=>
 wi σ H fun J H1=>∀D,H1 D=none->Mb J g tc (Nq wi2 g2 tc2 (A_ tk tv D)) (fun _ H'=>Q (.ref D) H') (Bd nl caps σ) (upd H1 D (.dK []))
def PB(X:Cx)(B:Sem Fin->Sem Fin)(tb:TB):Prop:=∀(pins:List (Addr × Obj)) (s:Shared) (σ:St) (H:Hp) (N:St->Hp->Prop),Inv X pins σ H s->tb σ H N->∀(k:Sem Fin) (Q:Fin->Shared->Prop),(∀s' σ' H',Inv X pins σ' H' s'->N σ' H'->wpAny (model X.prog X.w) X.A k Q X.xe s')->wpAny (model X.prog X.w) X.A (B k) Q X.xe s
section
def E9{σ:St}{Fin:St->Hp->Prop}(hx:X.xe=fun _ _=>False)(hturn:compTurn (.DictComp kx vx gs scope pos) depth (.ref it) acc X.env=qX (.DictComp kx vx gs scope pos) depth (.ref it) acc X.env p tg ifs B)(hc:X.calm=true)(hB:PB X B tb)(I:Inv X pins σ H s)(T:xm X.prog X.w X.K tg J fp it tn)(st:tn 0 s.heap)(hf:∀b∈fp,lZ X pins H b)(hg:PG X tg g)(ht:F9 X ifs tc)(h:Mb J g tc tb Fin σ H)(hR:∀σ' H' s',Inv X pins σ' H' s'->Fin σ' H'->R (.ok .next) s'):codeAny (model X.prog X.w) X.A (.compLoop (.DictComp kx vx gs scope pos) depth (.ref it) acc X.env) R s:=by
 obtain⟨W,⟨m0,w0⟩,turn⟩:=h;have stat:∀{H':Hp},(∀b∈fp,H' b=none)->∀b∈fp,lZ X pins H' b:=fun hn b hb=>⟨hn b hb,(hf b hb).2⟩;refine HG hturn (fun n s'=>∃i σ' H',Inv X pins σ' H' s'/\tn i s'.heap/\(∀b∈fp,H' b=none)/\W i n σ' H') ?_ m0 ⟨0,σ,H,I,st,fun b hb=>(hf b hb).1,w0⟩;rintro n s3 ⟨i,σ3,H3,I3,st3,fr3,w3⟩;rw[<-hx];rcases turn i n σ3 H3 w3 with⟨stop,qn⟩ | ⟨go,Nn,hNn,step⟩
 · refine dD (T.done X rfl rfl rfl hc i pins s3 σ3 H3 _ I3 (stat fr3) st3 stop) fun r s4 ⟨hr,I4⟩=> ?_;subst hr;exact hR σ3 H3 s4 I4 qn
 · refine dD (T.item X rfl rfl rfl hc i pins s3 σ3 H3 _ I3 (stat fr3) st3 go) fun r s4 ⟨u,hr,h4⟩=> ?_;subst hr;refine dD h4 fun _ s5 ⟨x,H5,I5,r5,y5,st5,fr5⟩=> ?_;have I5':=I5.pinned (stat fr5) (T.obj _ _ st5);have again:∀{σ7:St} {H7:Hp} {s7:Shared},Inv X (pins++mJ fp s5.heap) σ7 H7 s7->Nn σ7 H7->
    ∃m,m<n/\∃i σ' H',Inv X pins σ' H' s7/\tn i s7.heap/\(∀b∈fp,H' b=none)/\W i m σ' H':=fun {σ7 H7 s7} I7 n7=>by
    obtain⟨m',hm,w7⟩:=hNn σ7 H7 n7;refine⟨m',hm,i+1,σ7,H7,I7.unpinned,T.keep _ _ _ st5 fun b hb o e=>(I7.pin (b,o) (aL _ (aL _ (gR hb e)))).1,fun b hb=> ?_,w7⟩;obtain⟨o,e,d⟩:=T.obj _ _ st5 b hb;exact(I7.pin (b,o) (aL _ (aL _ (gR hb e)))).2.1
   refine dD (hg _ s5 σ3 H5 x u _ I5' r5 (step x H5 y5)) fun _ s6 ⟨σ6,H6,I6,q6⟩=> ?_;refine dD (ht _ s6 σ6 H6 _ I6 q6) fun b s7 ⟨H7,I7,q7⟩=> ?_;cases b with
   | false=>exact again I7 q7
   | true=>
     intro k Q hk;have hB':=hB _ s7 σ6 H7 _ I7 q7 k Q;rw[hx] at hB';rw[hx] at hk;rw[hx];exact hB' fun s8 σ8 H8 I8 q8=>hk s8 (again I8 q8)
def JP(hk:PE X kx tk)(hv:PE X vx tv):PB X (FN kx vx D X.env) (A_ tk tv D):=by
 intro pins s σ H N I h k Q hq;unfold FN Ja;refine af (af (dD (hk pins s σ H _ I h) fun u8 s8 ⟨v8,H8,I8,r8,q8⟩=>af (eo (dD (hv pins s8 σ H8 _ I8 q8) fun u9 s9 ⟨v9,H9,I9,r9,kvs,kk,e9,f9,z9,q9⟩=> ?_))));subst e9;exact af (fE (eo (Du I9 f9 z9 r8 r9 fun s' I'=>hq s' σ _ I' q9)))
def Jv(h0:codeAny (model prog w) A (.compLoop (.DictComp kx vx [⟨tg,iter,ifs,0⟩,⟨tg2,iter2,ifs2,0⟩] scope pos) 1 it acc env) R s)(h:wpAny (model prog w) A (pyIter it) (fun it' s'=>codeAny (model prog w) A (.compLoop (.DictComp kx vx [⟨tg,iter,ifs,0⟩,⟨tg2,iter2,ifs2,0⟩] scope pos) 1 it' acc env) R s') (notedBy (model prog w) A env fun x s'=>R (.error x) s') s):codeAny (model prog w) A (.compStart (.DictComp kx vx [⟨tg,iter,ifs,0⟩,⟨tg2,iter2,ifs2,0⟩] scope pos) 1 it acc env) R s:=by
 refine codeAny_of_tree ?_;show wpAny _ A ((compStart (.DictComp kx vx [⟨tg,iter,ifs,0⟩,⟨tg2,iter2,ifs2,0⟩] scope pos) 1 it acc env).onRaise (fun x=>do noteFrame x env;standAt theWindowsPlace)) _ _ s;refine wpAny_notedAt ?_;unfold compStart;show wpAny _ A (ask>>=_) _ _ s;refine af (wpAny_askSetting (wpAny_ite ?_))
 split
 · first
    | exact af (aH (aH (And.intro rfl h0)))
    | exact aH (And.intro rfl h0)
 · first
    | exact af (jy (af (fE (af (cR h (fun it' s' h'=>aH (And.intro rfl h')) fun _ _ x=>x)))))
    | (refine af (jy ?_);show wpAny _ _ (standAt iter2.pos>>=_) _ _ s;exact af (fE (af (cR h (fun it' s' h'=>aH (And.intro rfl h')) fun _ _ x=>x))))
def Hj(hx:X.xe=fun _ _=>False)(hc:X.calm=true)(hi2:PI X tg2 iter2 wi2)(hs2:∀x,foldedSetIterable iter2 X.env x=pure x)(hg2:PG X tg2 g2)(ht2:F9 X ifs2 tc2)(hk:PE X kx tk)(hv:PE X vx tv):PB X (AF (.DictComp kx vx [⟨tg,iter,ifs,0⟩,⟨tg2,iter2,ifs2,0⟩] scope pos) iter2 (.ref D) X.env) (Nq wi2 g2 tc2 (A_ tk tv D)):=by
 intro pins s σ H N I h k Q hq;unfold AF;refine af (dD (hi2 pins s σ H _ I h) fun v s1 h1=>af (fE ?_));rw[hs2];refine af (aH (af (eo (dD h1 fun itv s2 h2=> ?_))));obtain⟨it,fp,tn,J,H2,e,I2,T,st2,f2,q⟩:=h2;subst e;refine af (wpAny_runOwn ?_);have loop:=E9 (R:=fun r s'=>match r with | .ok f=>wpAny (model X.prog X.w) X.A k Q X.xe s' | .error e=>cameBackBy (model X.prog X.w) X.A X.env X.xe e s') hx (Lp kx vx tg iter ifs tg2 iter2 ifs2 scope pos (.ref it) D X.env) hc (JP hk hv) I2 T st2 f2 hg2 ht2 q
  fun σ' H' s' I' q'=>hq s' σ' H' I' q'
 exact Jv loop (T.self _ 0 _ _ _ st2 loop)
def xc{df:List Str}{σ:St}{RR:Value->Addr->Result->Shared->Prop}{Fin:Hp->Prop}(hc:X.calm=true)(hb:kY scope X.env.scope=true)(hcap:gF X.N scope cs caps=true)(I:Inv X pins σ H s)(T:xm X.prog X.w X.K tg J fp it tn)(st:tn 0 s.heap)(hf:∀b∈fp,lZ X pins H b)(hg:PG (jv X scope (df++cs) s H fp) tg g)(ht:F9 (jv X scope (df++cs) s H fp) ifs tc)(hi2:PI (jv X scope (df++cs) s H fp) tg2 iter2 wi2)(hs2:∀x,foldedSetIterable iter2 (jv X scope (df++cs) s H fp).env x=pure x)(hg2:PG (jv X scope (df++cs) s H fp) tg2 g2)(ht2:F9 (jv X scope (df++cs) s H fp) ifs2 tc2)(hk:PE (jv X scope (df++cs) s H fp) kx tk)(hv:PE (jv X scope (df++cs) s H fp) vx tv)(h:Mb J g tc (Nq wi2 g2 tc2 (A_ tk tv s.heap.objs.size)) (fun _ H'=>Fin H') (Bd df.length caps σ) (upd H s.heap.objs.size (.dK [])))(hRR:∀σ' H' s',Inv (jv X scope (df++cs) s H fp) [] σ' H' s'->Fin H'->RR (.ref s.heap.objs.size) (s.heap.objs.size+1) (.ok .next) s'):wpAny (model X.prog X.w) X.A newDict (fun acc s₃=>wpAny (model X.prog X.w) X.A (newFunctionEnv scope X.env.globals (iZ X.env.cells scope.names []) [] X.env.qual none .none (some X.env)) (fun cenv s₄=>
  codeAny (model X.prog X.w) X.A (.compStart (.DictComp kx vx [⟨tg,iter,ifs,0⟩,⟨tg2,iter2,ifs2,0⟩] scope pos) 0 (.ref it) acc {cenv with scope:=relabel scope X.env}) (RR acc cenv.locals) s₄) E s₃) E s:=by
 have hcell:∀y∈scope.names,y.2≠ .cell:=fun y hy=>(iI hb y hy).1;have hkind:=jK hb;have hlt:∀b∈fp,b<s.heap.objs.size:=fun b hbm=>by
  obtain⟨o,e,_⟩:=T.obj 0 _ st b hbm;exact aP e
 refine dU (Nd hcell (by intro y hy;simp at hy) (fun h₁ hns₁ hsb₁=> ?_) hkind);dsimp only at hns₁ hsb₁⊢;generalize hH2:s.heap.push {cls:= .type "dict",dict:=none,data:= .dict #[]}=H2 at hns₁ hsb₁⊢;have hC:H2.objs.size=s.heap.objs.size+1:=by rw[<-hH2,eF]
 rw[hC] at hns₁ hsb₁⊢;have hDC:s.heap.objs.size≠s.heap.objs.size+1:=bI (pe _);have below:∀b,b<s.heap.objs.size->b≠s.heap.objs.size+1:=fun b hb=>bI (dW hb);have old:∀b o,s.heap.get? b=some o->h₁.get? b=some o:=fun b o e=>hsb₁.extBut b o (below b (aP e)) (aC _ (hH2 ▸ aC _ e));have hD:h₁.get? s.heap.objs.size=some {cls:= .type "dict",dict:=none,data:= .dict #[]}:=
  hsb₁.extBut _ _ hDC (aC _ (hH2 ▸ ba _ rfl))
 have frC:H (s.heap.objs.size+1)=none:=I.hok.fresh (bu _);have frD:H s.heap.objs.size=none:=I.hok.fresh (ar _);have J0:Inv (jv X scope (df++cs) s H fp) [] (Bd df.length caps σ) (upd H s.heap.objs.size (.dK [])) {s with heap:=h₁,toks:=s.toks+([]:List (Str × Value)).length}:=by
  refine⟨xf I hb hf hlt,rfl,I.bare,Un.laid old (ar _) frD,⟨_,hns₁,fun i x v e1 e2 e3=> ?_⟩,fun x c e=> ?_,?_,fun x c e=> ?_,fun p hp=>absurd (show p∈([]:List (Addr × Obj)) from hp) (by simp),?_,?_⟩
  · have e1':(df++cs)[i]? =some x:=e1;have hi:df.length<=i:=by
     rcases eV i df.length with hi | hi
     · unfold Bd at e2;rw[b_ (by simpa using hi),pj] at e2
       split at e2<;>cases e2
     · exact hi
    rw[cT hi] at e1';obtain⟨k,q1,q2,q3⟩:=tI hcap e1';unfold Bd at e2;rw[cT (by simpa using hi),fk,bb,q1] at e2;have e2':(σ[k]?).getD none=some v:=by simpa using e2
    have e4:σ[k]? =some (some v):=by
     cases z:σ[k]? with
     | none=>rw[z] at e2';cases e2'
     | some o=>rw[z] at e2';simp at e2';rw[e2']
    have hfr:=(iI hb _ (dg q3)).2.2 rfl;obtain⟨m,hn,hl⟩:=I.loc;obtain⟨u,r,l⟩:=hl k x v q2 e4 (hfr.elim (fun z=> .inr (.inl z)) fun z=> .inr (.inr z));refine⟨u,r,.inr ⟨?_,?_⟩⟩
    · exact fR q3
    · rcases l with⟨k1,_⟩ | ⟨_,c,ec,z⟩
      · exfalso
        have k1':X.env.scope.names.lookup x=some .local:=k1;rcases hfr with z | z<;>(rw[k1'] at z;cases z)
      · obtain⟨c',ec'⟩:=lK (cells:=X.env.cells) scope.names [] (dg q3);have q:=(capOf_some scope.names [] (dZ I hb) ec').resolve_left (by simp);rw[ec] at q;cases q;obtain⟨o,ho,hd⟩:=z;exact⟨c,ec',o,old _ _ ho,hd⟩
  · have q:=(capOf_some scope.names [] (dZ I hb) e).resolve_left (by simp);obtain⟨v,o,ho,hd⟩:=I.cell x c q;exact⟨v,o,old _ _ ho,hd⟩
  · show upd H s.heap.objs.size (.dK []) (s.heap.objs.size+1)=none;rw[aB (bG hDC)];exact frC
  · have q:=(capOf_some scope.names [] (dZ I hb) e).resolve_left (by simp);obtain⟨v,o,ho,hd⟩:=I.cell x c q;rw[aB (bI (aP ho))];exact I.freeC x c q
  · refine I.hok.laid old (ar _) ?_;have hb':=I.big;obtain⟨z1,z2,z3⟩:=zh (P:=X.prog) (w:=X.w) (H:=upd H s.heap.objs.size (.dK [])) s.heap hb';obtain⟨vs,rel,o,es,ep,ho,hr⟩:=z3;rw[ba _ rfl] at ho;cases ho;exact⟨z1,z2,vs,rel,_,es,ep,hD,hr⟩
  · show(Bd df.length caps σ).length=(df++cs).length;unfold Bd;rw[ah,fk,ao,ah,tH hcap]
 have fr0:∀b∈fp,upd H s.heap.objs.size (.dK []) b=none:=fun b hbm=>by rw[aB (bI (hlt b hbm))];exact(hf b hbm).1
 have fp0:∀b∈fp,lZ (jv X scope (df++cs) s H fp) [] (upd H s.heap.objs.size (.dK [])) b:=fun b hbm=>by
  have q:=(xf (N:=df++cs) I hb hf hlt);refine⟨fr0 b hbm,(q.exf b hbm).1,q.exfs b hbm,.inl hbm,(q.exf b hbm).2,fun p hp=>absurd (show p∈([]:List (Addr × Obj)) from hp) (by simp)⟩
 have st0:=T.keep _ _ _ st fun b _ o e=>old b o e;have loop:∀s₃:Shared,s₃={s with heap:=h₁,toks:=s.toks+([]:List (Str × Value)).length}->
  codeAny (model X.prog X.w) X.A (.compLoop (.DictComp kx vx [⟨tg,iter,ifs,0⟩,⟨tg2,iter2,ifs2,0⟩] scope pos) 0 (.ref it) (.ref s.heap.objs.size) (jv X scope (df++cs) s H fp).env) (RR (.ref s.heap.objs.size) (s.heap.objs.size+1)) s₃:=by
  rintro s₃ rfl;refine E9 (X:=jv X scope (df++cs) s H fp) rfl (Lq ..) hc (Hj rfl hc hi2 hs2 hg2 ht2 hk hv) J0 T st0 fp0 hg ht h ?_;intro σ' H' s' I' q';exact hRR σ' H' s' I' q'
 exact codeAny_compStart_dict (loop _ rfl) (T.self _ 0 _ _ _ st0 (loop _ rfl))
def CN{X:Cx}{tg iter kx vx tg2 iter2:Expr}{ifs ifs2:List Expr}{scope:Scope}{pos:Pos}{wi wi2:TI}{g g2:TG}{tc tc2:TT}{tk tv:TE}(df cs:List Str)(caps:List Nat)(hc:X.calm=true)(hi:PI X tg iter wi)(hg:∀s H fp,PG (jv X scope (df++cs) s H fp) tg g)(ht:∀s H fp,F9 (jv X scope (df++cs) s H fp) ifs tc)(hi2:∀s H fp,PI (jv X scope (df++cs) s H fp) tg2 iter2 wi2)(hg2:∀s H fp,PG (jv X scope (df++cs) s H fp) tg2 g2)(ht2:∀s H fp,F9 (jv X scope (df++cs) s H fp) ifs2 tc2)(hk:∀s H fp,PE (jv X scope (df++cs) s H fp) kx tk)(hv:∀s H fp,PE (jv X scope (df++cs) s H fp) vx tv)(hb:kY scope X.env.scope=true:=by rfl)(hcap:gF X.N scope cs caps=true:=by rfl)(hs:∀x,foldedSetIterable iter X.env x=pure x:=by intro _;rfl)(hs2:∀s H fp x,foldedSetIterable iter2 (jv X scope (df++cs) s H fp).env x=pure x:=by intro _ _ _ _;rfl):PE X (.DictComp kx vx [⟨tg,iter,ifs,0⟩,⟨tg2,iter2,ifs2,0⟩] scope pos) (GH wi g tc wi2 g2 tc2 tk tv df.length caps):=by
 intro pins s σ H Q I h;rw[arm_eval_DictComp];refine mZ (use:=none) rfl hs (kW (dZ I hb)) (jK hb) (fun y hy=>(iI hb y hy).2.1) (dD (hi pins s σ H _ I h) fun v s1 h1=>dD h1 fun itv s2 h2=> ?_);obtain⟨it,fp,tn,J,H2,e,I2,T,st2,f2,q⟩:=h2;subst e;refine xc (RR:=fun acc C=>compPost (model X.prog X.w) X.A X.xe none (EP X pins σ Q) acc C) (df:=df) (cs:=cs) (Fin:=fun H'=>Q (.ref s2.heap.objs.size) H') hc hb hcap I2 T st2 f2 (hg _ _ _) (ht _ _ _) (hi2 _ _ _) (hs2 _ _ _) (hg2 _ _ _) (ht2 _ _ _) (hk _ _ _) (hv _ _ _) (q _ (I2.hok.fresh (ar _))) ?_;intro σ' H' s' J' q';obtain⟨m,hn,_⟩:=J'.loc;refine⟨m,hn,fun h' hs'=> ?_⟩;have I3:=tz I2 f2 J';have fr:H' (s2.heap.objs.size+1)=none:=J'.free;refine⟨.ref s2.heap.objs.size,H',I3.turned (t':=s'.toks) (it:=s2.heap.objs.size+1) (fun b o hb e=>(hs'.2 b hb).trans e) fr ?_ (.inr (au I2.sz (bu _))) ?_ ?_,rfl,q'⟩
 · exact ja (dW I2.lt)
 · intro x c e z;obtain⟨v,hv⟩:=I2.cell x c e;have h1:s2.heap.objs.size+1<s2.heap.objs.size:=z ▸ hv.lt;exact absurd h1 (qi.mpr (bu _))
 · intro p hp z;have h1:s2.heap.objs.size+1<s2.heap.objs.size:=z ▸ aP (I2.pin p hp).1;exact absurd h1 (qi.mpr (bu _))
end
section
end
section
end
section
end
section
end
section
end
section
end
section
end
section
end
section
end
section
end
section
end
section
end
section
end
section
end
section
end
section
end
section
end
section
end
section
end
section
end
section
end
section
end
section
end
abbrev Tg:=Addr->Option (Nat × Option Key)
structure Fr(S:List Nat)(T T':Tg)(H H':Hp):Prop where
 but:∀b o,H b=some o->(∀i k,T b=some (i,k)->i∉S)->H' b=some o
 tups:Tups H H'
 there:∀b,H b≠none->H' b≠none
 tg:∀b i,T b=some i->T' b=some i
 new:∀b i,T' b=some i->T b=some i\/(H b=none/\i.1∈S)
def TgOk(T:Tg)(H:Hp):Prop:=∀b i,T b=some i->H b≠none
def Fr.refl:Fr S T T H H:=⟨fun _ _ e _=>e,Tups.refl H,fun _ h=>h,fun _ _ h=>h,fun _ _ h=> .inl h⟩
def Fr.trans(a:Fr S T T1 H H1)(b:Fr S T1 T2 H1 H2):Fr S T T2 H H2 where
 but:=fun c o e n=>b.but c o (a.but c o e n) fun i k h=>by
  rcases a.new c (i,k) h with h | ⟨h,_⟩
  · exact n i k h
  · rw[h] at e;cases e
 tups:=a.tups.trans b.tups
 there:=fun c h=>b.there c (a.there c h)
 tg:=fun c i h=>b.tg c i (a.tg c i h)
 new:=fun c i h=>by
  rcases b.new c i h with h | ⟨h,hi⟩
  · exact a.new c i h
  · refine .inr ⟨?_,hi⟩;cases e:H c with
    | none=>rfl
    | some o=>exact absurd h (a.there c (by rw[e];intro z;cases z))
def Fr.mono(a:Fr S T T' H H')(h:∀i∈S,i∈S'):Fr S' T T' H H':=⟨fun c o e n=>a.but c o e fun i k z m=>n i k z (h i m),a.tups,a.there,a.tg,fun c i e=>(a.new c i e).imp id fun z=>⟨z.1,h _ z.2⟩⟩
def qY(s:Same H H'):∀b,H b≠none->H' b≠none:=fun b h=>by
 cases e:H b with
 | none=>exact absurd e h
 | some o=>rw[s b o e];intro z;cases z
def Fr.of(s:Same H H'):Fr S T T H H':=⟨fun b o e _=>s b o e,s.tups,qY s,fun _ _ h=>h,fun _ _ h=> .inl h⟩
def TgOk.same(h:TgOk T H)(s:Same H H'):TgOk T H':=fun b i e=>qY s b (h b i e)
def TgOk.free{T:Tg}{H:Hp}(h:TgOk T H){b:Addr}(e:H b=none):T b=none:=by
 cases c:T b with
 | none=>rfl
 | some i=>exact absurd e (h b i c)
def Fr.put(t:T p=some (i,k))(hi:i∈S)(nt:∀xs,H p≠some (.tup xs)):Fr S T T H (upd H p o) where
 but:=fun b u e n=>by
  by_cases h:b=p
  · subst h;exact absurd hi (n i k t)
  · rw[aB h];exact e
 tups:=fun b xs e=>by
  by_cases h:b=p
  · subst h;exact absurd e (nt xs)
  · rw[aB h];exact e
 there:=fun b e=>by
  by_cases h:b=p
  · subst h;rw[aa];intro z;cases z
  · rw[aB h];exact e
 tg:=fun _ _ h=>h
 new:=fun _ _ h=> .inl h
def TgOk.put(h:TgOk T H):TgOk T (upd H p o):=fun b i e=>by
 by_cases z:b=p
 · subst z;rw[aa];intro z;cases z
 · rw[aB z];exact h b i e
noncomputable def km(T:Tg)(p:Addr)(i:Nat × Option Key):Tg:=fun b=>if b=p then some i else T b
def qZ:km T p i p=some i:=aI rfl
def kj(h:b≠p):km T p i b=T b:=aD h
def Fr.new'(ok:TgOk T H)(hp:H p=none)(hi:i.1∈S):Fr S T (km T p i) H (upd H p o) where
 but:=fun b u e _=>aj hp o b u e
 tups:=(aj hp o).tups
 there:=qY (aj hp o)
 tg:=fun b j h=>by
  have:b≠p:=fun z=>ok b j h (by rw[z];exact hp);rw[kj this];exact h
 new:=fun b j h=>by
  by_cases z:b=p
  · subst z;rw[qZ] at h;cases h;exact .inr ⟨hp,hi⟩
  · rw[kj z] at h;exact .inl h
def TgOk.new(ok:TgOk T H)(hp:H p=none):TgOk (km T p i) (upd H p o):=fun b j h=>by
 by_cases z:b=p
 · subst z;rw[aa];intro z;cases z
 · rw[aB z];rw[kj z] at h;exact ok b j h
def Mo{α:Type}(R:Hp->V->α->Prop):Prop:=∀H H' v x,Tups H H'->R H v x->R H' v x
section
def FLs{α:Type}(R:Hp->V->α->Prop)(H:Hp)(T:Tg)(i:Nat)(p:Addr)(xs:List α):Prop:=T p=some (i,none)/\∃vs,H p=some (.lst vs)/\Paired (R H) vs xs
def FK(H:Hp)(T:Tg)(i:Nat)(p:Addr)(f:Key->Option V)(n:Nat):Prop:=T p=some (i,none)/\∃kvs,H p=some (.dK kvs)/\(∀k,cS kvs k=f k)/\kvs.length<=n
def FT(H:Hp)(T:Tg)(i:Nat)(p:Addr)(f:List Key->Option V)(n:Nat):Prop:=T p=some (i,none)/\∃kvs,H p=some (.dT kvs)/\(∀k,cS kvs k=f k)/\kvs.length<=n
def FTb{α:Type}(R:Hp->V->α->Prop)(H:Hp)(T:Tg)(i:Nat)(p:Addr)(f:Key->List α)(n:Nat):Prop:=T p=some (i,none)/\∃kvs,H p=some (.dK kvs)/\kvs.length<=n/\(∀k,(f k).length<=n)/\∀k,(cS kvs k=none/\f k=[])\/∃q vs,cS kvs k=some (.ref q)/\T q=some (i,some k)/\H q=some (.lst vs)/\Paired (R H) vs (f k)
theorem qb:∀{l l':List α} {k k':List β},Paired R l k->Paired R l' k'->Paired R (l++l') (k++k')
 | _,_,_,_,.nil,s=>s
 | _,_,_,_,.cons r t,s=> .cons r (qb t s)
def zA{α:Type}{R:Hp->V->α->Prop}{H H':Hp}(m:Mo R)(t:Tups H H'){vs:List V}{xs:List α}(h:Paired (R H) vs xs):Paired (R H') vs xs:=Paired.imp' (fun _ _ q=>m _ _ _ _ t q) h
def Fr.at(f:Fr S T T' H H')(hi:i∉S)(t:T b=some (i,k))(e:H b=some o):H' b=some o:=f.but b o e fun j k' z=>by rw[t] at z;cases z;exact hi
def FLs.fr{xs:List α}(m:Mo R)(f:Fr S T T' H H')(hi:i∉S)(h:FLs R H T i p xs):FLs R H' T' i p xs:=by
 obtain⟨t,vs,e,r⟩:=h;exact⟨f.tg _ _ t,vs,f.at hi t e,zA m f.tups r⟩
def FK.fr(f:Fr S T T' H H')(hi:i∉S)(h:FK H T i p g n):FK H' T' i p g n:=by
 obtain⟨t,kvs,e,r⟩:=h;exact⟨f.tg _ _ t,kvs,f.at hi t e,r⟩
def FT.fr(f:Fr S T T' H H')(hi:i∉S)(h:FT H T i p g n):FT H' T' i p g n:=by
 obtain⟨t,kvs,e,r⟩:=h;exact⟨f.tg _ _ t,kvs,f.at hi t e,r⟩
def FTb.fr{g:Key->List α}(m:Mo R)(f:Fr S T T' H H')(hi:i∉S)(h:FTb R H T i p g n):FTb R H' T' i p g n:=by
 obtain⟨t,kvs,e,l,ll,r⟩:=h;refine⟨f.tg _ _ t,kvs,f.at hi t e,l,ll,fun k=> ?_⟩;rcases r k with z | ⟨q,vs,z1,z2,z3,z4⟩
 · exact .inl z
 · exact .inr ⟨q,vs,z1,f.tg _ _ z2,f.at hi z2 z3,zA m f.tups z4⟩
def FLs.app{x:α}(m:Mo R)(h:FLs R H T i p xs)(e:H p=some (.lst vs))(r:R H v x):FLs R (upd H p (.lst (vs++[v]))) T i p (xs++[x])/\Fr [i] T T H (upd H p (.lst (vs++[v]))):=by
 obtain⟨t,vs',e',rs⟩:=h;rw[e] at e';cases e';have f:Fr [i] T T H (upd H p (.lst (vs++[v]))):=Fr.put t (by simp) (fun xs z=>by rw[e] at z;cases z);exact⟨⟨t,_,aa,qb (zA m f.tups rs) (.cons (m _ _ _ _ f.tups r) .nil)⟩,f⟩
def FK.put(h:FK H T i p g n)(e:H p=some (.dK kvs)):FK (upd H p (.dK (bZ kvs k v))) T i p (fun j=>if j=k then some v else g j) (n+1)/\Fr [i] T T H (upd H p (.dK (bZ kvs k v))):=by
 obtain⟨t,kvs',e',r,l⟩:=h;rw[e] at e';cases e';refine⟨⟨t,_,aa,fun j=> ?_,au (dt _ _ _) (eX l)⟩,Fr.put t (by simp) (fun xs z=>by rw[e] at z;cases z)⟩;rw[jA,r]
def FT.put(h:FT H T i p g n)(e:H p=some (.dT kvs)):FT (upd H p (.dT (bZ kvs k v))) T i p (fun j=>if j=k then some v else g j) (n+1)/\Fr [i] T T H (upd H p (.dT (bZ kvs k v))):=by
 obtain⟨t,kvs',e',r,l⟩:=h;rw[e] at e';cases e';refine⟨⟨t,_,aa,fun j=> ?_,au (dt _ _ _) (eX l)⟩,Fr.put t (by simp) (fun xs z=>by rw[e] at z;cases z)⟩;rw[jA,r]
def IV{α:Type}{g:Key->List α}{x:α}(h:∀k,(g k).length<=n):∀j,(g j++if j=k then [x] else []).length<=n+1:=fun j=>by
 rw[ah];have:=h j
 split<;>simp only[aR,cJ]<;>lia
def FTb.app{x:α}(m:Mo R)(h:FTb R H T i p g n)(e:H p=some (.dK kvs))(eq:cS kvs k=some (.ref q))(hq:H q=some (.lst vs))(r:R H v x):FTb R (upd H q (.lst (vs++[v]))) T i p (fun j=>g j++if j=k then [x] else []) (n+1)/\Fr [i] T T H (upd H q (.lst (vs++[v]))):=by
 obtain⟨t,kvs',e',l,ll,rs⟩:=h;rw[e] at e';cases e';rcases rs k with⟨z,_⟩ | ⟨q',vs',z1,z2,z3,z4⟩
 · rw[eq] at z;cases z
 rw[eq] at z1;cases z1;rw[hq] at z3;cases z3;have f:Fr [i] T T H (upd H q (.lst (vs++[v]))):=Fr.put z2 (by simp) (fun xs z=>by rw[hq] at z;cases z);refine⟨⟨t,kvs,?_,Pp l,IV ll,fun j=> ?_⟩,f⟩
 · rw[aB (fun z=>by rw[z,hq] at e;cases e)];exact e
 · by_cases hj:j=k
   · subst hj;dsimp only;rw[aI rfl];exact .inr ⟨q,_,eq,z2,aa,qb (zA m f.tups z4) (.cons (m _ _ _ _ f.tups r) .nil)⟩
   · dsimp only;rw[aD hj,qS];rcases rs j with z | ⟨q2,vs2,y1,y2,y3,y4⟩
     · exact .inl z
     · refine .inr ⟨q2,vs2,y1,y2,?_,zA m f.tups y4⟩;rw[aB (fun z=>by rw[z,z2] at y2;cases y2;exact hj rfl)];exact y3
def FTb.new{x:α}(m:Mo R)(ok:TgOk T H)(h:FTb R H T i p g n)(e:H p=some (.dK kvs))(eq:cS kvs k=none)(hq:H q=none)(r:R H v x)(H':Hp)(hH:H'=upd (upd H q (.lst [v])) p (.dK (bZ kvs k (.ref q)))):FTb R H' (km T q (i,some k)) i p (fun j=>g j++if j=k then [x] else []) (n+1)/\Fr [i] T (km T q (i,some k)) H H'/\TgOk (km T q (i,some k)) H':=by
 subst hH;obtain⟨t,kvs',e',l,ll,rs⟩:=h;rw[e] at e';cases e';have pq:p≠q:=fun z=>by rw[z,hq] at e;cases e
 have f1:Fr [i] T (km T q (i,some k)) H (upd H q (.lst [v])):=Fr.new' ok hq (by simp);have t1:km T q (i,some k) p=some (i,none):=by rw[kj pq];exact t
 have e1:upd H q (.lst [v]) p=some (.dK kvs):=by rw[aB pq];exact e
 have f2:Fr [i] (km T q (i,some k)) (km T q (i,some k)) (upd H q (.lst [v])) (upd (upd H q (.lst [v])) p (.dK (bZ kvs k (.ref q)))):=Fr.put t1 (by simp) (fun xs z=>by rw[e1] at z;cases z);have ft:=f1.trans f2;refine⟨⟨t1,_,aa,au (dt _ _ _) (eX l),IV ll,fun j=> ?_⟩,ft,(TgOk.new ok hq).put⟩;have gk:g k=[]:=by
  rcases rs k with z | ⟨q2,vs2,y1,_⟩
  · exact z.2
  · rw[eq] at y1;cases y1
 by_cases hj:j=k
 · subst hj;dsimp only;rw[aI rfl,gk];exact .inr ⟨q,[v],by rw[jA,aI rfl],qZ,by rw[aB (bG pq),aa],.cons (m _ _ _ _ ft.tups r) .nil⟩
 · dsimp only;rw[aD hj,qS,jA,aD hj];rcases rs j with z | ⟨q2,vs2,y1,y2,y3,y4⟩
   · exact .inl z
   · have q2p:q2≠p:=fun z=>by rw[z,e] at y3;cases y3
     have q2q:q2≠q:=fun z=>by rw[z,hq] at y3;cases y3
     exact .inr ⟨q2,vs2,y1,by rw[kj q2q];exact y2,by rw[aB q2p,aB q2q];exact y3,zA m ft.tups y4⟩
end
def Bt(a:Addr)(H H':Hp):Prop:=∀b o,H b=some o->b≠a->H' b=some o
section
def FLs.bt{xs:List α}(m:Mo R)(b:Bt a H H')(t:Tups H H')(hT:T a=none)(h:FLs R H T i p xs):FLs R H' T i p xs:=by
 obtain⟨t0,vs,e,r⟩:=h;exact⟨t0,vs,b _ _ e (fun z=>by rw[z,hT] at t0;cases t0),zA m t r⟩
def FK.bt(b:Bt a H H')(hT:T a=none)(h:FK H T i p f n):FK H' T i p f n:=by
 obtain⟨t0,kvs,e,r⟩:=h;exact⟨t0,kvs,b _ _ e (fun z=>by rw[z,hT] at t0;cases t0),r⟩
def FT.bt(b:Bt a H H')(hT:T a=none)(h:FT H T i p f n):FT H' T i p f n:=by
 obtain⟨t0,kvs,e,r⟩:=h;exact⟨t0,kvs,b _ _ e (fun z=>by rw[z,hT] at t0;cases t0),r⟩
def FTb.bt{f:Key->List α}(m:Mo R)(b:Bt a H H')(t:Tups H H')(hT:T a=none)(h:FTb R H T i p f n):FTb R H' T i p f n:=by
 obtain⟨t0,kvs,e,l,ll,r⟩:=h;refine⟨t0,kvs,b _ _ e (fun z=>by rw[z,hT] at t0;cases t0),l,ll,fun k=> ?_⟩;rcases r k with z | ⟨q,vs,z1,z2,z3,z4⟩
 · exact .inl z
 · exact .inr ⟨q,vs,z1,z2,b _ _ z3 (fun z=>by rw[z,hT] at z2;cases z2),zA m t z4⟩
def FLs.nil{R:Hp->V->α->Prop}(t:T p=some (i,none))(e:H p=some (.lst [])):FLs R H T i p []:=⟨t,[],e,.nil⟩
def FK.nil(hf:∀k,f k=none)(t:T p=some (i,none))(e:H p=some (.dK [])):FK H T i p f n:=⟨t,[],e,fun k=>(hf k).symm,ay _⟩
def FT.nil(hf:∀k,f k=none)(t:T p=some (i,none))(e:H p=some (.dT [])):FT H T i p f n:=⟨t,[],e,fun k=>(hf k).symm,ay _⟩
def FTb.nil{f:Key->List α}(hf:∀k,f k=[])(t:T p=some (i,none))(e:H p=some (.dK [])):FTb R H T i p f n:=⟨t,[],e,ay _,fun k=>by rw[hf];exact ay _,fun k=> .inl ⟨rfl,hf k⟩⟩
end
def gy{N P:List Str}{sc:Scope}(a:sc.kind= .function:=by rfl)(b:sc.isCoroutine=false:=by rfl)(c:sc.isGenerator=false:=by rfl)(d:N.Nodup:=by decide+kernel)(e:N.take P.length=P:=by rfl)(f:∀x∈P,sc.names.lookup x=some .local\/sc.names.lookup x=some .cell:=by decide+kernel)(g:∀y∈sc.names,y.2≠ .free:=by decide+kernel):bj N P sc:=⟨a,b,c,d,e,f,g⟩
def Fun.o{P:Program}{w:World}{K:Frag}{mg:Str->Option Value}{base:Heap}{x qual:Str}{st:Stmt}{f:Addr}{fd:FuncData}{N ps:List Str}{k:Nat}{sp:Sp}(F:Fun K x qual st f fd)(S:bj N ps (aJ st))(hbody:∀(cdv:Value) (A:Around) (outer:List Env) (s:Shared) (H:Hp) (vs:List V) (Q:VK) (E:XK),Room k (A.deeper (envOfC qual (aJ st) s.heap.objs.size f cdv))->sp vs H Q E->∃t,PSs (zj eW P w K mg base N qual (aJ st) f cdv A outer s H E).nox (eQ st) t/\t {nx:=fun _ H'=>Q .non H',rt:=Q} (l_ N vs) H) (len:∀vs H Q E,sp vs H Q E->vs.length=ps.length:=by intro vs H Q E h;cases h;subst_vars;rfl):bW P w K mg base eW (k+1) f fd ps sp:=F.ok S len hbody
section
def Ky:N4 X .BitXor (Ox fun i j=>Builtin.bitXor i j):=by
 intro pins s σ H x y v u Q I r1 r2 h;obtain⟨i,j,e1,e2,q⟩:=h;subst e1;subst e2;obtain⟨t,rfl⟩:=r1;obtain⟨t',rfl⟩:=r2;exact ixor_int ⟨.int _,H,I.tok _,⟨_,rfl⟩,q⟩
def G0:V->List V->Hp->VK->Prop:=fun x vs H Q=>∃i,x= .int i/\vs=[]/\Q (.int ((Builtin.Int.intBits i:Nat):Int)) H
def tY:M6 X "int.bit_length" G0:=by
 intro pins s σ H x xs v us Q I rx rs h;obtain⟨i,rfl,rfl,q⟩:=h;obtain⟨t,rfl⟩:=rx;cases rs;exact call_int_bit_length ⟨.int _,H,I.tok _,⟨_,rfl⟩,q⟩
end
def bn(x:Int):Builtin.bitNot x= -x - 1:=by first | rfl | (unfold Builtin.bitNot;lia)
def F4(a b:Nat):Builtin.bitAnd (a:Int) (b:Int)=((a&&&b:Nat):Int):=by
 have h1:decide (0<=(a:Int))=true:=aG (by lia);have h2:decide (0<=(b:Int))=true:=aG (by lia);unfold Builtin.bitAnd;rw[h1,h2]
 rfl
def IL(a b:Nat):Builtin.bitOr (a:Int) (b:Int)=((a ||| b:Nat):Int):=by
 have h1:decide (0<=Builtin.bitNot (a:Int))=false:=aq (by rw[bn];lia);have h2:decide (0<=Builtin.bitNot (b:Int))=false:=aq (by rw[bn];lia);have n1:∀x:Int,Builtin.bitNot (Builtin.bitNot x)=x:=fun x=>by rw[bn,bn];lia
 unfold Builtin.bitOr Builtin.bitAnd;rw[h1,h2];show Builtin.bitNot (Builtin.bitNot (((Builtin.bitNot (Builtin.bitNot (a:Int))).toNat ||| (Builtin.bitNot (Builtin.bitNot (b:Int))).toNat:Nat):Int))=_;rw[n1,n1,n1]
 rfl
def JW:∀a b,a&&&b=0->a ||| b=a+b:=by
 intro a
 induction a using Nat.strongRecOn with
 | ind a ih=>
   intro b h;by_cases ha:a=0
   · subst ha;simp
   have hd:a/2&&&b/2=0:=by
    have:=congrArg (· /2) h;simpa[Nat.and_div_two] using this
   have e1:=ih (a/2) (by lia) (b/2) hd;have e2:(a ||| b)/2=a/2 ||| b/2:=Nat.or_div_two
   have m1:(a&&&b).testBit 0=false:=by rw[h];simp
   have m2:(a ||| b).testBit 0=(a.testBit 0 || b.testBit 0):=ub ..;rw[fA] at m1;simp only[Nat.testBit_zero] at m1 m2;have l:a % 2<2:=Pd _ (by decide);have l2:b % 2<2:=Pd _ (by decide);have l3:(a ||| b) % 2<2:=Pd _ (by decide);have e3:(a ||| b)/2=a/2+b/2:=e2.trans e1;have e4:(a ||| b) % 2=a % 2+b % 2:=by
    rcases lW a with p | p<;>rcases lW b with q | q<;>rw[p,q] at m1 m2⊢ <;>revert m1 m2<;>rcases lW (a ||| b) with r | r<;>rw[r]<;>decide
   lia
def O3(m:Nat):0<m->∃j q,m=2^j * (2 * q+1):=by
 induction m using Nat.strongRecOn with
 | ind m ih=>
   intro h;by_cases p:m % 2=1
   · exact⟨0,m/2,by rw[Nat.pow_zero];lia⟩
   · obtain⟨j,q,e⟩:=ih (m/2) (by lia) (by lia);refine⟨j+1,q,?_⟩;have:m=2 * (m/2):=by lia
     rw[this,e,k_,Nat.mul_comm (2^j) 2,oe]
def HJ(j q:Nat):(2^j * (2 * q+1))&&&(2^j * (2 * q+1) - 1)=2^(j+1) * q:=by
 have hp:0<2^j:=j5 (by decide);have e1:2^j * (2 * q+1) - 1=2^j * (2 * q)+(2^j - 1):=by rw[N7];lia
 have e2:2^(j+1) * q=2^j * (2 * q):=by rw[k_,oe]
 rw[e1,e2];refine gI fun i=> ?_;rw[fA,eL,Nat.testBit_two_pow_mul_add _ (by lia),eL];by_cases h:i<j
 · rw[aq (by lia)];simp
 · rw[aD h,aG (by lia:i≥j)];simp only[Bool.true_and];cases hk:i - j with
   | zero=>simp
   | succ k=>
     rw[Nat.testBit_succ,Nat.testBit_succ,show(2 * q+1)/2=q by lia,show 2 * q/2=q by lia,Bool.and_self]
def HH(j q:Nat):2^j * (2 * q+1) - 2^(j+1) * q=2^j:=by
 rw[k_,N7,oe];lia
def E_(j q:Nat):(2^j * (2 * q+1))&&&2^j=2^j:=by
 refine gI fun i=> ?_;rw[fA,eL,xt];by_cases h:j=i
 · subst h;simp
 · rw[aq h,ug]
def Kc(j q:Nat):(2^j * (2 * q+1)) ||| 2^j=2^j * (2 * q+1):=by
 refine gI fun i=> ?_;rw[ub,eL,xt];by_cases h:j=i
 · subst h;simp
 · rw[aq h,xC]
noncomputable def cH(m:Nat):List Nat:=(List.range (m.log2+1)).filter m.testBit
def Dy(m t:Nat)(h:m<2^t):(List.range t).filter m.testBit=cH m:=by
 have key:∀n k,(∀i,n<=i->m.testBit i=false)->(List.range (n+k)).filter m.testBit=(List.range n).filter m.testBit:=fun n k hn=>by
  induction k with
  | zero=>rfl
  | succ k ih=>rw[<-xA,qQ,lY,ih];simp[hn (n+k) (by lia)]
 have z:∀t,m<2^t->∀i,t<=i->m.testBit i=false:=fun t h i hi=>qh (ax h (uc (by decide) hi));have l:m<2^(m.log2+1):=Nat.lt_log2_self;unfold cH;rcases qj t (m.log2+1) with c | c
 · obtain⟨k,e⟩:=iP c;rw[e];exact(key t k (z t h)).symm
 · obtain⟨k,e⟩:=iP c;rw[e];exact key _ k (z _ l)
def iL:i∈cH m↔m.testBit i=true:=by
 unfold cH;rw[qR,dm];refine⟨fun h=>h.2,fun h=>⟨?_,h⟩⟩;rcases eV i (m.log2+1) with c | c
 · exact c
 · rw[qh (ax Nat.lt_log2_self (uc (by decide) c))] at h;cases h
def Dz(h:0<2^t * (m/2^t)):∃t',t<=t'/\m.testBit t'=true/\(∀i,t<=i->i<t'->m.testBit i=false)/\∃q,2^t * (m/2^t)=2^t' * (2 * q+1)/\2^(t'+1) * (m/2^(t'+1))=2^(t'+1) * q:=by
 have hp:0<2^t:=j5 (by decide);have hm:0<m/2^t:=Nat.pos_of_ne_zero fun z=>by rw[z] at h;simp at h
 obtain⟨j,q,e⟩:=O3 _ hm;have tb:∀i,m.testBit (t+i)=(m/2^t).testBit i:=fun i=>by rw[Nat.testBit_div_two_pow,Nat.add_comm]
 refine⟨t+j,by lia,?_,fun i h1 h2=> ?_,q,?_,?_⟩
 · rw[tb,e,eL];simp
 · obtain⟨k,rfl⟩:=iP h1;rw[tb,e,eL,aq (by lia)];rfl
 · rw[e,Nat.pow_add,oe]
 · congr 1
   rw[xA,Nat.pow_add,<-MF,e,k_,<-MF,Nat.mul_div_cancel_left _ (j5 (by decide))]
   lia
def Ad{m:Nat}(h1:t<=t')(h2:m.testBit t'=true)(h3:∀i,t<=i->i<t'->m.testBit i=false):(List.range (t'+1)).filter m.testBit=(List.range t).filter m.testBit++[t']:=by
 obtain⟨k,rfl⟩:=iP h1;have key:∀k,(∀i,t<=i->i<t+k->m.testBit i=false)->(List.range (t+k)).filter m.testBit=(List.range t).filter m.testBit:=fun k hk=>by
  induction k with
  | zero=>rfl
  | succ k ih=>rw[<-xA,qQ,lY,ih fun i a b=>hk i a (by lia)];simp[hk (t+k) (by lia) (by lia)]
 rw[qQ,lY,key k h3];simp[h2]
noncomputable def anot(a b:Nat):Nat:=a - (a&&&b)
def F5(a b:Nat):a&&&b<=a:=Gb
def Co(a b:Nat):Builtin.bitAnd (a:Int) (Builtin.bitNot (b:Int))=((anot a b:Nat):Int):=by
 have h1:decide (0<=(a:Int))=true:=aG (by lia);have h2:decide (0<=Builtin.bitNot (b:Int))=false:=aq (by rw[bn];lia);have n1:Builtin.bitNot (Builtin.bitNot (b:Int))=b:=by rw[bn,bn];lia
 unfold Builtin.bitAnd;rw[h1,h2];show(a:Int) - (((a:Int).toNat&&&(Builtin.bitNot (Builtin.bitNot (b:Int))).toNat:Nat):Int)=_;rw[n1];show(a:Int) - ((a&&&b:Nat):Int)=((a - (a&&&b):Nat):Int);have:=F5 a b
 lia
def F3(a b:Nat):anot a b=a^^^(a&&&b):=by
 have e:(a^^^(a&&&b))&&&(a&&&b)=0:=gI fun i=>by
  simp only[fA,F_,Nat.zero_testBit];cases a.testBit i<;>cases b.testBit i<;>rfl
 have o:(a^^^(a&&&b)) ||| (a&&&b)=a:=gI fun i=>by
  simp only[fA,ub,F_];cases a.testBit i<;>cases b.testBit i<;>rfl
 have s:(a^^^(a&&&b))+(a&&&b)=a:=by
  rw[<-JW _ _ e];exact o
 unfold anot
 lia
def jL(a b i:Nat):(anot a b).testBit i=(a.testBit i&& !b.testBit i):=by
 rw[F3,F_,fA];cases a.testBit i<;>cases b.testBit i<;>rfl
def xh(a i j:Nat):(a ||| 2^i).testBit j=(a.testBit j || decide (i=j)):=by rw[ub,xt]
def HI{m:Nat}(e:m=2^j * (2 * q+1)):Builtin.bitAnd (m:Int) (-(m:Int))=((2^j:Nat):Int)/\Builtin.bitXor (m:Int) ((2^j:Nat):Int)=((2^(j+1) * q:Nat):Int):=by
 have hp:0<2^j:=j5 (by decide);have mp:0<m:=by rw[e];exact Nat.mul_pos hp (by lia)
 have o1:=HH j q;have a1:=HJ j q;rw[<-e] at o1 a1;constructor
 · have h1:decide (0<=(m:Int))=true:=aG (by lia);have h2:decide (0<= -(m:Int))=false:=aq (by lia);unfold Builtin.bitAnd;rw[h1,h2];show(m:Int) - (((m:Int).toNat&&&(Builtin.bitNot (-(m:Int))).toNat:Nat):Int)=_;rw[bn,show(-(-(m:Int)) - 1).toNat=m - 1 by lia,show(m:Int).toNat=m by lia,a1];have:2^(j+1) * q<=m:=by rw[<-a1];exact Gb
   lia
 · unfold Builtin.bitXor;have x1:=E_ j q;have x2:=Kc j q;rw[<-e] at x1 x2;rw[IL,F4,x1,x2];have:2^j<=m:=by rw[<-x1];exact Gb
   lia
def yY(j:Nat):Builtin.Int.intBits ((2^j:Nat):Int)=j+1:=by
 unfold Builtin.Int.intBits;have hp:0<2^j:=j5 (by decide);have hz:¬ ((((2^j:Nat):Int)==0)=true):=fun z=>by
  have:=eq_of_beq z
  lia
 rw[aD hz];show(2^j).log2+1=j+1;rw[Nat.log2_two_pow]
section
variable {prog:Program}{w:World}{κ:Type}[DecidableEq κ]{knd:KeyKind prog w κ}{A:Around}{E:Value->Shared->Prop}{s:Shared}
theorem oE{d:Addr}{kvs:List (κ × Value)}{k:κ}{key dflt:Value}{Q:Value->Shared->Prop}(hkey:knd.is k key=true)(hm:s.heap.DictOf knd d kvs)(hthere:∀v,valueAt kvs k=some v->Q v {s with toks:=s.toks+1})(hnew:valueAt kvs k=none->∀h',h'.DictOf knd d (stored kvs k dflt)->Heap.SameBut d s.heap h'->Q dflt {s with heap:=h',toks:=s.toks+1})(hsz:kvs.length<=sizeLine):wpAny (model prog w) A (dictSetDefault d key dflt) Q E s:=by
 have hval:=hm.mapOf;obtain⟨o,es,ep,ho,hc,hd,hk,hp,hn⟩:=hm;have hf:∀x,findBy knd.is es x=valueAt kvs x:=fun x=>by
  rw[<-hp.find x];obtain⟨l⟩:=es;simp[findBy]
 have hes:es.size<=sizeLine:=by
  have e1:=hp.length;have e2:es.toList.length=es.size:=by simp
  lia
 unfold dictSetDefault
 try with_reducible refine eo ?_
 refine af (knd.pyHash hkey ?_);refine af (wpAny_dictFind_of (s:={s with toks:=s.toks+1}) hkey ho hd hk ?_);have hidx:(es.findIdx? fun e=>knd.is k e.key)=kvs.findIdx? fun kv=>decide (kv.1=k):=by
  rw[<-hp.findIdx k];obtain⟨l⟩:=es;simp
 cases hi:es.findIdx? fun e=>knd.is k e.key with
 | some i=>
   have hfk:valueAt kvs k=(es[i]?).map (·.val):=by rw[<-hf k,O6,hi]
   refine af (wpAny_dictEntries (s:={s with toks:=s.toks+1}) ho hd ?_);cases he:es[i]? with
   | none=>
     exfalso
     have:=Array.findIdx?_eq_some_iff_findIdx_eq.mp hi;have hlt:i<es.size:=this.1;rw[Array.getElem?_eq_getElem hlt] at he;exact nomatch he
   | some e=>
     rw[he] at hfk;exact af (jy (aH (hthere e.val hfk)))
 | none=>
   have hfk:valueAt kvs k=none:=by rw[<-hf k,O6,hi]
   have hnot:k∉kvs.map (·.1):=not_mem_of_findIdx_none (hidx ▸ hi);have hany:¬ (kvs.any fun kv=>decide (kv.1=k))=true:=by
    rw[List.any_eq_true];rintro⟨kv,hkv,he⟩;exact hnot (bO.mpr ⟨kv,hkv,cK he⟩)
   refine af (jy (af (wpAny_updateDictKeys (hz:=hes) (s:={s with toks:=s.toks+1}) ho hd (aH (hnew hfk _ ⟨_,_,ep+1,tP _ ho (Obj.isFreed_of_dict (N6 hd _)),hc.mapDictKeys _,N6 hd _,hk.push hkey _,?_,?_⟩ (xw ..))))))
   · rw[stored,aD hany];have:=hp.append hkey (knd.hash k) dflt;obtain⟨l⟩:=es;simpa using this
   · rw[stored,aD hany,bx,mY];refine⟨hn,by simp,?_⟩;intro a ha b hb;simp only[bQ,MH,ag] at hb;subst hb;exact fun e=>hnot (e ▸ ha)
theorem oV{d:Addr}{k:κ}{key:Value}(hkey:knd.is k key=true)(hd:(d==sysModules)=false)(dflt:Value):MeetsIn prog w (Builtin.«dict.setdefault» ⟨[.ref d,key,dflt],[]⟩) (fun _ R s=>∃kvs,s.heap.DictOf knd d kvs/\kvs.length<=sizeLine/\(∀v,valueAt kvs k=some v->R (.ok (.ret v)) {s with toks:=s.toks+1})/\(valueAt kvs k=none->∀h',h'.DictOf knd d (stored kvs k dflt)->Heap.SameBut d s.heap h'->R (.ok (.ret dflt)) {s with heap:=h',toks:=s.toks+1})):= .of_wp fun A R s ⟨kvs,hm,hz,h1,h2⟩=>by
  unfold Builtin.«dict.setdefault»;refine af ?_;unfold Builtin.Dict.keyAndDefault;refine af (wpAny_notOrdered_dict hm.typeIs ?_);show wpAny _ _ (pure (d,key,some dflt)) _ _ s;refine aH ?_;show wpAny _ _ (if(d==sysModules)=true then _ else(dictSetDefault d key dflt>>=_)) _ _ s;rw[aD (by rw[hd];exact bq)];exact af (oE hkey hm (fun v hv=>aH ⟨v,rfl,h1 v hv⟩) (fun hn h' hm' hs'=>aH ⟨dflt,rfl,h2 hn h' hm' hs'⟩) hz)
end
section
def Jt(td ty tx:TE):TE:=fun σ H Q=>td σ H fun x H1=>∃a,x= .ref a/\Od H1 a/\ty σ H1 fun y H2=>tx σ H2 fun z H3=>∃kvs k,H3 a=some (.dK kvs)/\y=kV k/\kvs.length<sizeLine/\(∀v,cS kvs k=some v->Q v H3)/\(cS kvs k=none->Q z (upd H3 a (.dK (bZ kvs k z))))
def yw(ho:PE X o td)(he:PE X e ty)(hf:PE X f tx)(m:M2 X o "setdefault" apos e f cpos):PE X (.Call (.Attribute o "setdefault" apos) [e,f] [] cpos) (Jt td ty tx):=by
 intro pins s σ H Q I h;refine Pk m.base m.few m.line Lk F7 PySem.F.type_dict_setdefault (dD (ho pins s σ H _ I h) fun u s1 ⟨x,H1,I1,rx,a,ex,d,q1⟩=> ?_);subst ex;obtain rfl:u=Value.ref a:=rx;obtain⟨t1,t2,_⟩:=FB I1 d;refine⟨t1,t2,?_⟩;rw[m.trees];refine jc rfl (ue (iJ (dD (he pins s1 σ H1 _ I1 q1) fun iv s2 ⟨y,H2,I2,ry,q2⟩=>
  iJ (dD (hf pins s2 σ H2 _ I2 q2) fun fv s3 ⟨z,H3,I3,rz,kvs,k,e3,ey,l3,qt,qn⟩=>AQ ?_))))
 subst ey;obtain⟨zz,hd,vs,rel,dd⟩:=zg I3.hok e3;have hz:vs.length<=sizeLine:=by rw[<-rel.length];exact zz
 refine Mu F7 dd.typeIs PySem.F.entry_dict_setdefault (PySem.F.args_dict_setdefault_3 _ _ _) (oV (knd:=cN X.prog X.w) (nU ry) hd fv) ⟨vs,dd,hz,fun v hv=> ?_,fun hv h' dd' hs=> ?_⟩
 · have rv:=rel.val k;rw[hv] at rv;cases hk:cS kvs k with
   | none=>rw[hk] at rv;cases rv
   | some v'=>
     rw[hk] at rv;exact⟨v',H3,I3.tok _,rv,qt v' hk⟩
 · have rv:=rel.val k;rw[hv] at rv;cases hk:cS kvs k with
   | some v'=>rw[hk] at rv;cases rv
   | none=>
     have hl:(bZ kvs k z).length<=sizeLine:=by have:=dt kvs k z;lia
     have hex:∃q,h'.get? a=some q:=let⟨q,_,_,hq,_⟩:=dd';⟨q,hq⟩
     exact⟨z,_,qP I3 (by rw[e3];exact True.intro) hs hex (AJ hl hd (rel.put k rz) dd'),rz,qn hk⟩
end
mutual
noncomputable def Tx.py:Tx->PyData
 | .non=> .none
 | .int i=> .int i
 | .str x=> .str x
 | .tup ds=> .tuple (Cq ds)
 | .lst ds=> .list (Cq ds)
noncomputable def Cq:List Tx->List PyData
 | []=>[]
 | d::ds=>d.py::Cq ds
end
mutual
def Tx.tt:Tx->Prop
 | .str _=>True
 | .tup ds=>Gu ds
 | _=>False
def Gu:List Tx->Prop
 | []=>True
 | d::ds=>d.tt/\Gu ds
end
mutual
theorem AU:∀(d:Tx),d.tt->d.py.showable=true/\d.py.hasDict=false
 | .str _,_=>⟨rfl,rfl⟩
 | .tup ds,h=>uh ds h
 | .non,h=>h.elim
 | .int _,h=>h.elim
 | .lst _,h=>h.elim
theorem uh:∀ds,Gu ds->PyData.showableAll (Cq ds)=true/\PyData.hasDictAll (Cq ds)=false
 | [],_=>⟨rfl,rfl⟩
 | d::ds,h=>by
   obtain⟨a,b⟩:=AU d h.1;obtain⟨c,e⟩:=uh ds h.2;exact⟨by show(d.py.showable&&_)=true;rw[a,c];rfl,by show(d.py.hasDict || _)=false;rw[b,e];rfl⟩
end
section
mutual
theorem yi{σ:St}(I:Inv X pins σ H s):∀(d:Tx) {v:V} {u:Value},d.tt->Xa H d v->RelV v u->∃as,Reads s.heap u d.py as
 | .str x,v,u,_,h,r=>by
   obtain rfl:v= .str x:=h;obtain⟨t,rfl⟩:=r;exact⟨_,.str x t⟩
 | .tup ds,v,u,hd,h,r=>by
   obtain⟨p,xs,rfl,hp,hx⟩:=h;obtain rfl:u= .ref p:=r;obtain⟨its,rv,⟨o,ho,hc,n,hn⟩,_⟩:=I.tuple (SqT.of hp);obtain⟨as,ra⟩:=uN I ds hd hx rv;exact⟨_,.tuple ho hc hn ra⟩
 | .non,_,_,hd,_,_=>hd.elim
 | .int _,_,_,hd,_,_=>hd.elim
 | .lst _,_,_,hd,_,_=>hd.elim
theorem uN{σ:St}(I:Inv X pins σ H s):∀(ds:List Tx) {xs:List V} {us:List Value},Gu ds->Xas H ds xs->Vals xs us->∃as,ReadsAll s.heap us (Cq ds) as
 | [],xs,us,_,h,r=>by
   obtain rfl:xs=[]:=h;cases r;exact⟨_,.nil⟩
 | d::ds,xs,us,hd,h,r=>by
   obtain⟨x,q,rfl,h1,h2⟩:=h;cases r with
   | cons r1 r2=>
     obtain⟨as,ra⟩:=yi I d hd.1 h1 r1;obtain⟨bs,rb⟩:=uN I ds hd.2 h2 r2;exact⟨_,.cons ra rb⟩
end
inductive gz(xs:List V)(H:Hp)(Q:VK):Prop
 | mk:∀v d,(xs=[v])->(Xa H d v)->(d.tt)->(d.py.depth<=60)->(d.py.shown.length<=sizeLine)->(Q (.str d.py.shown) H)->gz xs H Q
def LV:List V->Hp->VK->Prop:=fun xs H Q=>gz xs H Q
def fO(hg:X.A.guards=some [])(hu:X.A.units+64<cLine):mn X (.builtin "repr") LV:=by
 rintro pins s σ H xs us Q I r ⟨v,d,rfl,hx,ht,hd,hl,q⟩;cases r with
 | cons r1 r2=>
   cases r2;obtain⟨as,ra⟩:=yi I d ht hx r1;obtain⟨s1,s2⟩:=AU d ht;cases d with
   | str x=>
     obtain rfl:v= .str x:=hx;obtain⟨t,rfl⟩:=r1;exact P.repr_of_str ⟨.str _,_,I.tok _,⟨_,rfl⟩,q⟩ hl
   | tup ds=>
     obtain⟨p,xs,rfl,hp,_⟩:=hx;obtain rfl:_=Value.ref p:=r1;exact repr_of_reads' ra s1 (fun h=>by rw[s2] at h;cases h) hg (by lia) (fun _ _ e=>e) (fun h' u tk k=>⟨.str _,_,I.kept k,⟨_,rfl⟩,q⟩) hl
   | non=>exact ht.elim
   | int _=>exact ht.elim
   | lst _=>exact ht.elim
end
structure FunD(K:Frag)(x qual:Str)(st:Stmt)(dV:Value)(f:Addr)(fd:FuncData):Prop where
 ex:∃(oc:Value) (od:Option Addr) (kV doc pm:Value) (an:Option Addr) (cdv ct:Value) (osl:Array (Option Value)),fd=fnOf x qual (fD st) (eQ st) (aJ st) dV kV doc pm an cdv ct/\K.lookup f=some ⟨oc,od,.func fd,osl⟩/\codeIn K cdv qual=true
 kp:keepIn K (.ref f)=true
section
def FunD.ok{K:Frag}{st:Stmt}(F:FunD K x qual st dV f fd)(S:bj N ps (aJ st))(len:∀vs H Q E,sp vs H Q E->vs.length=ps.length)(hbody:∀cdv A outer s H vs Q E,Room k (A.deeper (envOfC qual (aJ st) s.heap.objs.size f cdv))->sp vs H Q E->∃t,PSs (zj eW P w K mg base N qual (aJ st) f cdv A outer s H E).nox (eQ st) t/\t {nx:=fun _ H'=>Q .non H',rt:=Q} (l_ N vs) H):bW P w K mg base eW (k+1) f fd ps sp:=by
 obtain⟨oc,od,kV,doc,pm,an,cdv,ct,osl,rfl,lk,hcd⟩:=F.ex;refine I0 lk hcd S len fun A outer s H vs Q E hr hsp=> ?_;obtain⟨t,h,q⟩:=hbody cdv A outer s H vs Q E hr hsp;exact⟨t,h.nox,q⟩
def FunD.binds{K:Frag}{st:Stmt}{items:List Value}(F:FunD K x qual st (.ref T) f fd)(lT:K.lookup T=some o)(hs:o.data= .seq items.toArray n)(h:∀kV doc pm an cdv ct us,us.length+ds.length=ps.length->∃k,bindArgs (fnOf x qual (fD st) (eQ st) (aJ st) (.ref T) kV doc pm an cdv ct) ⟨us,[]⟩=seqItems? (.ref T)>>=k/\k (some items.toArray)=pure (ps.zip (us++ds))):Binds K fd ps ds:=by
 obtain⟨oc,od,kV,doc,pm,an,cdv,ct,osl,rfl,lk,hcd⟩:=F.ex;intro s us KX hl;obtain⟨k,h1,h2⟩:=h kV doc pm an cdv ct us (by rw[<-ah];exact hl);exact BindsTo.of_defaults rfl (KX _ _ lT) hs h1 h2
def Ce{K:Frag}{st:Stmt}{kV:Value}(l:K.lookup f=some ⟨oc,od,.func (fnOf x qual (fD st) (eQ st) (aJ st) dV kV doc pm an cdv ct),osl⟩)(c:codeIn K cdv qual=true)(k:keepIn K (.ref f)=true):FunD K x qual st dV f (fnOf x qual (fD st) (eQ st) (aJ st) dV kV doc pm an cdv ct):=⟨⟨oc,od,kV,doc,pm,an,cdv,ct,osl,rfl,l,c⟩,k⟩
end
section
end
structure Cl(P:Program)(w:World)(K:Frag)(mg:Str->Option Value)(base:Heap)(k:Nat)(x:Str)(ps:List Str)(sp:Sp):Prop where
 ex:∃f fd,bW P w K mg base eW k f fd ps sp/\Binds K fd ps []/\keepIn K (.ref f)=true/\mg x=some (.ref f)
structure Ml(P:Program)(w:World)(K:Frag)(mg:Str->Option Value)(base:Heap)(C:Addr)(k:Nat)(x:Str)(ps:List Str)(sp:Sp):Prop where
 ex:∃f fd,bW P w K mg base eW k f fd ps sp/\Binds K fd ps []/\Ge K C x f
structure Il(P:Program)(w:World)(K:Frag)(mg:Str->Option Value)(base:Heap)(C:Addr)(k:Nat)(x:Str)(ps:List Str)(sp:Sp):Prop where
 ex:∃f fd,bW P w K mg base eW k f fd ps sp/\Binds K fd ps []/\Mk K C f/\mg x=some (.ref C)
structure Dl(P:Program)(w:World)(K:Frag)(mg:Str->Option Value)(base:Heap)(k:Nat)(x:Str)(ps:List Str)(ds:List Value)(sp:Sp):Prop where
 ex:∃f fd,bW P w K mg base eW k f fd ps sp/\Binds K fd ps ds/\keepIn K (.ref f)=true/\mg x=some (.ref f)
structure Fq(K:Frag)(mg:Str->Option Value)(x:Str)(st:Stmt)(ps:List Str):Prop where
 ex:∃f fd,Fun K x x st f fd/\Binds K fd ps []/\mg x=some (.ref f)
structure Mq(K:Frag)(C:Addr)(x q:Str)(st:Stmt)(ps:List Str):Prop where
 ex:∃f fd,Fun K x q st f fd/\Binds K fd ps []/\Ge K C x f
structure Dq(K:Frag)(mg:Str->Option Value)(x:Str)(st:Stmt)(ps:List Str)(ds:List Value):Prop where
 ex:∃f fd T,FunD K x x st (.ref T) f fd/\Binds K fd ps ds/\mg x=some (.ref f)
section
def Fq.cl{K:Frag}{st:Stmt}(A:Fq K mg x st ps)(h:∀{f fd},Fun K x x st f fd->bW P w K mg base eW k f fd ps sp):Cl P w K mg base k x ps sp:=by
 obtain⟨f,fd,F,b,m⟩:=A.ex;exact⟨f,fd,h F,b,F.kp,m⟩
def Mq.ml{K:Frag}{st:Stmt}(A:Mq K C x q st ps)(h:∀{f fd},Fun K x q st f fd->bW P w K mg base eW k f fd ps sp):Ml P w K mg base C k x ps sp:=by
 obtain⟨f,fd,F,b,m⟩:=A.ex;exact⟨f,fd,h F,b,m⟩
def Mq.il{P:Program}{w:World}{K:Frag}{mg:Str->Option Value}{base:Heap}{C:Addr}{k:Nat}{x q y:Str}{st:Stmt}{ps:List Str}{sp:Sp}(A:Mq K C x q st ps)(mk:makesIn K C=true)(kc:keepIn K (.ref C)=true)(mc:mg y=some (.ref C))(h:∀{f fd},Fun K x q st f fd->bW P w K mg base eW k f fd ps sp)(hx:x="__init__":=by rfl):Il P w K mg base C k y ps sp:=by
 subst hx;obtain⟨f,fd,F,b,m⟩:=A.ex;exact⟨f,fd,h F,b,⟨mk,m.at_,m.fn,kc⟩,mc⟩
def Dq.dl{K:Frag}{st:Stmt}(A:Dq K mg x st ps ds)(h:∀{f fd T},FunD K x x st (.ref T) f fd->bW P w K mg base eW k f fd ps sp):Dl P w K mg base k x ps ds sp:=by
 obtain⟨f,fd,T,F,b,m⟩:=A.ex;exact⟨f,fd,h F,b,F.kp,m⟩
end
section
def dF{X:Cx}{j k:Nat}{x:Str}{ps:List Str}{sp:Sp}{e:Expr}{es:List Expr}{t:TA}{p pos:Pos}(c:Cl X.prog X.w X.K X.mg X.base k x ps sp)(hr:Room j X.A)(ha:PA X (e::es) t)(hj:k<=j:=by first | decide | lia)(hg:Gl X x:=by rfl)(hdb:(x==("__debug__":Str))=false:=by decide)(he:starEach (e::es) X.env=(false,eval e X.env)::starEach es X.env:=by rfl)(hpl:(backTo pos (starEach es X.env)).any (·.1)=false:=by rfl):PE X (.Call (.Name x p) (e::es) [] pos) (q_ sp [] E0 t):=by
 obtain⟨f,fd,F,b,k,m⟩:=c.ex;exact BX F (hr.mono hj) hg m k b .nil uQ ha hdb he hpl
def ij{X:Cx}{j k:Nat}{x:Str}{ps:List Str}{sp:Sp}{e o:Expr}{es:List Expr}{t:TA}{ta:TE}{pos apos:Pos}{C:Addr}{pl:Sem Bool}(ho:PE X o ta)(c:Cls X.K C)(m:Ml X.prog X.w X.K X.mg X.base C k x ps sp)(hr:Room j X.A)(ha:PA X (e::es) t)(hj:k<=j:=by first | decide | lia)(he:starEach (e::es) X.env=(false,eval e X.env)::starEach es X.env:=by rfl)(hpl:(backTo pos (starEach es X.env)).any (·.1)=false:=by rfl)(ht:eval (.Call (.Attribute o x apos) (e::es) [] pos) X.env=(do
 let ov<-eval o X.env
 standAt apos.atName
 let(f,first)<-holding [ov] (getMethod ov x pl)
 callWith pos f first (backTo pos (starEach (e::es) X.env)) (backToKw pos (keywordEach [] X.env))):=by rfl):
 PE X (.Call (.Attribute o x apos) (e::es) [] pos) (AW C x sp [] E0 ta t):=by
 obtain⟨f,fd,F,b,m⟩:=m.ex;exact Hf ho c m F (hr.mono hj) b .nil uQ ha he hpl ht
def OX{X:Cx}{j k:Nat}{x:Str}{ps:List Str}{sp:Sp}{e:Expr}{es:List Expr}{t:TA}{p pos:Pos}{C:Addr}(c:Il X.prog X.w X.K X.mg X.base C k x ps sp)(hr:Room j X.A)(ha:PA X (e::es) t)(hj:k+1<=j:=by first | decide | lia)(hg:Gl X x:=by rfl)(hdb:(x==("__debug__":Str))=false:=by decide)(he:starEach (e::es) X.env=(false,eval e X.env)::starEach es X.env:=by rfl)(hpl:(backTo pos (starEach es X.env)).any (·.1)=false:=by rfl):PE X (.Call (.Name x p) (e::es) [] pos) (AX C sp [] E0 t):=by
 obtain⟨f,fd,F,b,m,y⟩:=c.ex;exact Hg m F (hr.mono hj) hg y b .nil uQ ha hdb he hpl
def NN{X:Cx}{j k:Nat}{x:Str}{ps:List Str}{sp:Sp}{p pos:Pos}{C:Addr}(c:Il X.prog X.w X.K X.mg X.base C k x ps sp)(hr:Room j X.A)(hj:k+1<=j:=by first | decide | lia)(hg:Gl X x:=by rfl)(hdb:(x==("__debug__":Str))=false:=by decide):PE X (.Call (.Name x p) [] [] pos) (AX C sp [] E0 iS):=by
 obtain⟨f,fd,F,b,m,y⟩:=c.ex;exact Et m F (hr.mono hj) hg y b .nil uQ hdb
def On{X:Cx}{j k:Nat}{x:Str}{ps:List Str}{sp:Sp}{e:Expr}{es:List Expr}{t:TA}{p pos:Pos}{ds:List Value}{dvs:List V}(c:Dl X.prog X.w X.K X.mg X.base k x ps ds sp)(hd:Vals dvs ds)(hr:Room j X.A)(ha:PA X (e::es) t)(hj:k<=j:=by first | decide | lia)(hg:Gl X x:=by rfl)(hdb:(x==("__debug__":Str))=false:=by decide)(he:starEach (e::es) X.env=(false,eval e X.env)::starEach es X.env:=by rfl)(hpl:(backTo pos (starEach es X.env)).any (·.1)=false:=by rfl):PE X (.Call (.Name x p) (e::es) [] pos) (q_ sp dvs E0 t):=by
 obtain⟨f,fd,F,b,k,m⟩:=c.ex;exact BX F (hr.mono hj) hg m k b hd uQ ha hdb he hpl
def NM{X:Cx}{j k:Nat}{x:Str}{ps:List Str}{sp:Sp}{o:Expr}{ta:TE}{pos apos:Pos}{C:Addr}{pl:Sem Bool}(ho:PE X o ta)(c:Cls X.K C)(m:Ml X.prog X.w X.K X.mg X.base C k x ps sp)(hr:Room j X.A)(hj:k<=j:=by first | decide | lia)(ht:eval (.Call (.Attribute o x apos) [] [] pos) X.env=(do
 let ov<-eval o X.env
 standAt apos.atName
 let(f,first)<-holding [ov] (getMethod ov x pl)
 callWith pos f first (backTo pos (starEach [] X.env)) (backToKw pos (keywordEach [] X.env))):=by rfl):
 PE X (.Call (.Attribute o x apos) [] [] pos) (AW C x sp [] E0 ta iS):=by
 obtain⟨f,fd,F,b,m⟩:=m.ex;exact Es ho c m F (hr.mono hj) b .nil uQ ht
def fz{X:Cx}{x:Str}{e:Expr}{te:TE}{pos:Pos}(i:Nat)(hN:X.N.Nodup){pos':Pos}(he:PE X e te)(hi:X.N[i]? =some x:=by rfl)(hx:K2 X.env.scope x:=by first | exact .inl rfl | exact .inr rfl)(hs:swapsWith e (some (.Name x pos')) pos.line X.env=pure false:=by rfl)(hf:X.fn x=true\/X.env.scope.names.lookup x=some .local:=by first | exact .inl rfl | exact .inr rfl | assumption):PS X (.Assign [.Name x pos'] e pos) (GI te (ir i)):=El hN hi hx he hs hf
def e_{X:Cx}{x:Str}{pos:Pos}(i:Nat)(hN:X.N.Nodup)(hi:X.N[i]? =some x:=by rfl)(hx:K2 X.env.scope x:=by first | exact .inl rfl | exact .inr rfl)(hf:X.fn x=true\/X.env.scope.names.lookup x=some .local:=by first | exact .inl rfl | exact .inr rfl | assumption):PG X (.Name x pos) (ir i):=qG hN hi hx hf
def jR{X:Cx}{pos:Pos}{tg iter:Expr}{body:List Stmt}{wi:TI}{g:TG}{tb:TS}(hi:PI X tg iter wi)(hg:PG X tg g)(hb:PSs X body tb)(hp:PassesOwn (model X.prog X.w) X.A X.env X.xe:=by exact F8)(hc:X.calm=true:=by rfl)(hs:∀x,foldedSetIterable iter X.env x=pure x:=by intro _;rfl):PS X (.For tg iter body [] pos) (Js wi g tb):=JJ hp hc hi hg hb hs
def j7{X:Cx}{a b:Expr}{ta tb:TE}{pos:Pos}{r:R2}(hr:MK X r)(ha:PE X a ta)(hb:PE X b tb)(hs:Cp b:=by exact fun _ _=>rfl):PE X (.Subscript a b pos) (DT r ta tb):=jg hr ha hb hs
def dj(ha:PE X a ta):PE X (.Subscript a (.Constant (.int z) q p) pos) (DT (CI X.K) ta (tC (.int z))):=jg gD ha av fun _ _=>rfl
def zB(ha:PE X a ta):PE X (.Subscript a (.Constant (.int z) q p) pos) (DT (GZ X.K) ta (tC (.int z))):=jg cm ha av fun _ _=>rfl
def eI{X:Cx}{a b:Expr}{ta tb:TE}{pos:Pos}{op:CmpOp}{r:R2}(ho:lP X (compareOp op) r)(ha:PE X a ta)(hb:PE X b tb)(hm:behindInMarks op b=false:=by first | exact sF _ | rfl):PT X (.Compare a [op] [b] pos) (IA (DT r ta tb)):=qE ho ha hb hm
def JK{X:Cx}{a b:Expr}{ta tb:TE}{pos:Pos}{op:CmpOp}{r:R2}(ho:lP X (compareOp op) r)(ha:PE X a ta)(hb:PE X b tb)(hm:behindInMarks op b=false:=by first | exact sF _ | rfl):PE X (.Compare a [op] [b] pos) (DT r ta tb):=Hi ho ha hb hm
def eP{X:Cx}{a:Expr}{ta:TE}(ha:PE X a ta)(h:fw a=true:=by rfl):PA X [a] (dY ta iS):=bY ha cz h
def fg{X:Cx}{a b:Expr}{ta tb:TE}(ha:PE X a ta)(hb:PE X b tb)(h:fw a=true:=by rfl)(h2:fw b=true:=by rfl):PA X [a,b] (dY ta (dY tb iS)):=bY ha (eP hb h2) h
def gc{X:Cx}{a b c:Expr}{ta tb tc:TE}(ha:PE X a ta)(hb:PE X b tb)(hc:PE X c tc)(h:fw a=true:=by rfl)(h2:fw b=true:=by rfl)(h3:fw c=true:=by rfl):PA X [a,b,c] (dY ta (dY tb (dY tc iS))):=bY ha (fg hb hc h2 h3) h
def iU{X:Cx}{a b c d:Expr}{ta tb tc td:TE}(ha:PE X a ta)(hb:PE X b tb)(hc:PE X c tc)(hd:PE X d td)(h:fw a=true:=by rfl)(h2:fw b=true:=by rfl)(h3:fw c=true:=by rfl)(h4:fw d=true:=by rfl):PA X [a,b,c,d] (dY ta (dY tb (dY tc (dY td iS)))):=bY ha (gc hb hc hd h2 h3 h4) h
def yy{X:Cx}{a o:Expr}{ta tb:TE}{pos apos:Pos}(ho:PE X o ta)(ha:PE X a tb)(hs:fw a=true:=by rfl)(hbase:attributeBase o "append" X.env (eval o X.env)=eval o X.env:=by rfl)(hfew:((backTo pos (starEach [a] X.env)).all (fun x=> !x.1)&&(backToKw pos (keywordEach [] X.env)).all (fun x=>x.1.isSome)&&decide ([a].length+([]:List Keyword).length+(if([]:List Keyword).isEmpty then 0 else 1)<30))=true:=by rfl) (hline:(apos.endLine==pos.line)=true:=by rfl):PE X (.Call (.Attribute o "append" apos) [a] [] pos) (Oi X.K "list" BC ta (dY tb iS)):=LY Lj PySem.F.slot_list_append PySem.F.type_list_append uS ho (eP ha hs) hbase hfew hline (qx hs) rfl
def tW{X:Cx}{a:Expr}{ta:TE}{p pos:Pos}(m:X.mg "len"=none)(ha:PE X a ta)(hs:fw a=true:=by rfl)(hg:Gl X "len":=by rfl):PE X (.Call (.Name "len" p) [a] [] pos) (MS (fun xs H Q=>∃p ys,xs=[V.ref p]/\(SqL X.K H p ys\/SqT X.K H p ys)/\Q (V.int ↑ys.length) H) (dY ta iS)):=dB j0 hg m ua (eP ha hs) (by decide) (by decide) (qx hs) rfl
def xy{X:Cx}{x:Str}{a:Expr}{ta:TE}{p pos:Pos}{n:String}(m:X.mg "isinstance"=none)(m2:X.mg x=none)(hb:bootBuiltins x=some (.type n))(ha:PE X a ta)(hs:fw a=true:=by rfl)(hg:Gl X "isinstance":=by rfl)(hg2:Gl X x:=by rfl)(hn:x≠"__name__":=by decide)(hd:(x==("__debug__":Str))=false:=by decide){q:Pos}:PE X (.Call (.Name "isinstance" p) [a,.Name x q] [] pos) (MS (fun xs H Q=>∃x n t b,xs=[x,V.ty n]/\TyOf X.K H x t/\kitOne X.K t (Value.type n)=some b/\Q (V.bl b) H) (dY ta (dY (tC (.ty n)) iS))):=dB kX hg m j9 (fg ha (wA hg2 m2 hb rfl hn hd) hs) (by decide) (by decide) (qx hs) rfl
def sx{X:Cx}{e o:Expr}{td:TE}{pos apos:Pos}{f:Expr}{ty tx:TE}(hu:X.A.units+1<cLine)(ho:PE X o td)(he:PE X e ty)(hf:PE X f tx)(m:M2 X o "get" apos e f pos:=by exact⟨rfl,rfl,rfl,rfl⟩):PE X (.Call (.Attribute o "get" apos) [e,f] [] pos) (vF td ty tx):=Ex hu ho he hf m
def Ah{X:Cx}{o:Expr}{td:TE}{pos:Pos}{i:Expr}{ty:TE}(hu:X.A.units+1<cLine)(ho:PE X o td)(hi:PE X i ty)(hs:Im i:=by exact fun _ _=>rfl):PE X (.Subscript o i pos) (xH td ty):=Hh hu ho hi hs
def dv{X:Cx}{e:Expr}{ta:TE}{pos:Pos}{f:Str}(he:PE X e ta)(hb:attributeBase e f X.env (eval e X.env)=eval e X.env:=by rfl):PE X (.Attribute e f pos) (zJ X.K ta f):=JO he hb
end
end L2
namespace K19
open PySem L2
abbrev CJ:List Str:=["_law_bag","_law_cell_here"]
abbrev wo:List Str:=["_law_bag","_law_kin","_law_ties","_law_deep"]
abbrev Hd:List Str:=["_law_bag","_law_kin","_law_ties","_law_long"]
abbrev Hc:List Str:=["_law_bag","_law_kin","_law_ties","_law_things_here"]
abbrev LW:List Str:=["_law_bag","_law_kin","_law_ties"]
abbrev yk:List Str:=["_law_bag","_law_many"]
abbrev wm:List Str:=["_law_cell_here","_law_many"]
abbrev Hb:List Str:=["_law_cells","_law_bag","_law_kin","_law_ties","_law_things_here"]
abbrev Ha:List Str:=["_law_claim","_law_claims","_law_about","_law_makes","_law_known_here"]
abbrev G_:List Str:=["_law_claim","_law_claims","_law_pairs"]
abbrev yq:List Str:=["_law_claim"]
abbrev BQ:List Str:=["_law_claims","_law_pairs"]
abbrev pP:List Str:=["_law_claims","_law_x","_law_kind_here"]
abbrev sj:List Str:=["_law_claims","_law_x","_law_tie","_law_y"]
abbrev BP:List Str:=["_law_found","_law_pairs","_law_roots","_law_known_here"]
abbrev nI:List Str:=["_law_found"]
abbrev yp:List Str:=["_law_k"]
abbrev nH:List Str:=["_law_kind_here","_law_known_here"]
abbrev BO:List Str:=["_law_pairs","_law_further"]
abbrev BN:List Str:=["_law_pairs","_law_ties","_law_things_here"]
abbrev BM:List Str:=["_law_pairs"]
abbrev yo:List Str:=["_law_script","_law_k"]
abbrev yn:List Str:=["_law_script"]
abbrev BL:List Str:=["_law_x","_law_claims","_law_pairs","_law_known_here"]
abbrev je:List Str:=["_law_x"]
abbrev ym:List Str:=["at","other","is_first"]
abbrev BK:List Str:=["kind","kind"]
abbrev pO:List Str:=["kind","kinds","ties"]
abbrev ie:List Str:=["kind"]
abbrev BJ:List Str:=["pairs","further"]
abbrev uO:List Str:=["pairs","starts","further","steps"]
abbrev pN:List Str:=["self","at","x","kind"]
abbrev pM:List Str:=["self","at","x","tie","y"]
abbrev BI:List Str:=["self","at","y","kind"]
abbrev nG:List Str:=["self","kind"]
abbrev yl:List Str:=["self","lore"]
abbrev BH:List Str:=["self","number","saying"]
abbrev BG:List Str:=["self","pairs","starts"]
abbrev BF:List Str:=["self","steps"]
abbrev nF:List Str:=["self","x","kind","rule","froms","number"]
abbrev BE:List Str:=["self","x","kind","step"]
abbrev si:List Str:=["self","x","tie","y","rule","froms","number"]
abbrev BD:List Str:=["self","x","tie","y","step"]
abbrev fJ:List Str:=["self","x"]
abbrev nE:List Str:=["self"]
abbrev qql45:List Str:=["sign"]
abbrev se:List Str:=["table","key","entry"]
abbrev me:List Str:=["text"]
noncomputable def gw(i:Nat):Stmt:=PySem.Challenge.pw_kinwords_k19_standstills_are_closed.main.body.getD i (.Pass ⟨0,0,0,0⟩)
noncomputable abbrev zY:Stmt:=gw 3
noncomputable abbrev yf:Stmt:=gw 4
noncomputable abbrev vX:Stmt:=gw 5
noncomputable abbrev zT:Stmt:=gw 8
noncomputable abbrev JD:Stmt:=gw 9
noncomputable abbrev zR:Stmt:=gw 10
noncomputable abbrev Bx:Stmt:=gw 11
noncomputable abbrev NF:Stmt:=gw 13
noncomputable abbrev zW:Stmt:=ee (gw 14) 0
noncomputable abbrev jQ:Stmt:=ee (gw 14) 1
noncomputable abbrev lD:Stmt:=ee (gw 14) 2
noncomputable abbrev v7:Stmt:=ee (gw 14) 3
noncomputable abbrev vZ:Stmt:=ee (gw 14) 4
noncomputable abbrev vY:Stmt:=gw 15
noncomputable abbrev vS:Stmt:=gw 17
noncomputable abbrev rR:Stmt:=gw 18
noncomputable abbrev wb:Stmt:=gw 20
noncomputable abbrev rW:Stmt:=gw 21
noncomputable abbrev zU:Stmt:=ee (gw 22) 0
noncomputable abbrev rV:Stmt:=ee (gw 22) 1
noncomputable abbrev oG:Stmt:=ee (gw 22) 2
noncomputable abbrev rT:Stmt:=ee (gw 22) 3
noncomputable abbrev oF:Stmt:=ee (gw 22) 4
noncomputable abbrev mG:Stmt:=ee (gw 22) 5
noncomputable abbrev mF:Stmt:=ee (gw 22) 6
noncomputable abbrev vV:Stmt:=ee (gw 22) 7
noncomputable abbrev zV:Stmt:=ee (gw 22) 8
noncomputable abbrev mH:Stmt:=ee (gw 22) 9
noncomputable abbrev kH:Stmt:=ee (gw 22) 10
noncomputable abbrev oJ:Stmt:=ee (gw 22) 11
noncomputable abbrev oH:Stmt:=ee (gw 22) 12
noncomputable abbrev jP:Stmt:=ee (gw 22) 13
noncomputable abbrev vR:Stmt:=gw 23
noncomputable abbrev Ei:Stmt:=gw 25
noncomputable abbrev Eh:Stmt:=gw 26
noncomputable abbrev zS:Stmt:=gw 27
noncomputable abbrev zP:Stmt:=gw 28
noncomputable abbrev vQ:Stmt:=gw 29
noncomputable abbrev By:Stmt:=gw 30
noncomputable abbrev vU:Stmt:=gw 31
noncomputable abbrev oK:Stmt:=gw 32
noncomputable abbrev vT:Stmt:=gw 33
noncomputable abbrev rS:Stmt:=gw 34
noncomputable abbrev zQ:Stmt:=gw 35
noncomputable abbrev qB:Stmt:=gw 36
noncomputable abbrev zZ:Stmt:=gw 37
noncomputable abbrev JC:Stmt:=gw 38
noncomputable abbrev qC:Stmt:=gw 39
noncomputable abbrev zX:Stmt:=gw 40
noncomputable abbrev v_:Stmt:=gw 41
noncomputable abbrev rX:Stmt:=gw 42
noncomputable abbrev rY:Stmt:=gw 43
noncomputable abbrev oM:Stmt:=gw 44
noncomputable abbrev Aa:Stmt:=gw 45
noncomputable abbrev Ef:Stmt:=gw 46
noncomputable abbrev wa:Stmt:=gw 47
noncomputable abbrev z_:Stmt:=gw 48
noncomputable abbrev vW:Stmt:=gw 49
noncomputable abbrev JB:Stmt:=gw 50
def bC(h:n<=1000):n<=sizeLine:=fX (bL h)
def d9(h:Same H H')(hp:H p=none):Same H (upd H' p o):=fun b u q=>by
 rw[aB (br q hp)];exact h b u q
def cu(h:Same H H')(hp:H' p=none):H p=none:=by
 cases c:H p with
 | none=>rfl
 | some oo=>rw[h _ _ c] at hp;cases hp
structure Kp(L:List Addr)(H H':Hp):Prop where
 but:∀c o,c∉L->H c=some o->H' c=some o
 tups:Tups H H'
def Kp.trans(a:Kp L H H1)(b:Kp L H1 H2):Kp L H H2:=⟨fun c o h e=>b.but c o h (a.but c o h e),a.tups.trans b.tups⟩
def Kp.of(s:Same H H1):Kp L H H1:=⟨fun c o _ e=>s c o e,s.tups⟩
def Kp.lst{L:List Addr}{H:Hp}{l:Addr}{xs:List V}{o:HO}(hl:l∈L)(e:H l=some (.lst xs)):Kp L H (upd H l o):=⟨fun c u hc h=>by rw[aB (show c≠l from fun z=>hc (by rw[z];exact hl))];exact h,DO e⟩
def Kp.mono(a:Kp L H H1)(h:∀x∈L,x∈L'):Kp L' H H1:=⟨fun c o hc e=>a.but c o (fun z=>hc (h c z)) e,a.tups⟩
inductive Fa where
 | is (x k:Kd)
 | has (x:Kd) (t:Str) (y:Kd)
 deriving DecidableEq
noncomputable def Fa.x:Fa->Kd
 | .is x _=>x
 | .has x _ _=>x
noncomputable def Fa.tx:Fa->Tx
 | .is x k=> .tup [.str "is",x.tx,k.tx]
 | .has x t y=> .tup [.str "has",x.tx,.str t,y.tx]
def IsF(H:Hp):Fa->V->Prop
 | .is x k,v=>∃(p:Addr) (a b:V),v= .ref p/\H p=some (.tup [.str "is",a,b])/\IsK H x a/\IsK H k b
 | .has x t y,v=>∃(p:Addr) (a b:V),v= .ref p/\H p=some (.tup [.str "has",a,.str t,b])/\IsK H x a/\IsK H y b
theorem IsF.mono(t:Tups H H'):∀{f:Fa} {v:V},IsF H f v->IsF H' f v
 | .is _ _,_,⟨p,a,b,e,h,ha,hb⟩=>⟨p,a,b,e,t _ _ h,ha.mono t,hb.mono t⟩
 | .has _ _ _,_,⟨p,a,b,e,h,ha,hb⟩=>⟨p,a,b,e,t _ _ h,ha.mono t,hb.mono t⟩
def Fa.lo(n:Nat):Fa->Prop
 | .is x k=>x.dep<=n/\k.dep<=n
 | .has x _ y=>x.dep<=n/\y.dep<=n
inductive Ru where
 | self | all | thing | tied | every | first | second | some | within | no | both | tie | none | makes | oth
 deriving DecidableEq
noncomputable def Lb:Ru->Str
 | .self=>"self" | .all=>"all" | .thing=>"thing" | .tied=>"tied" | .every=>"every" | .first=>"first" | .second=>"second" | .some=>"some"
 | .within=>"within" | .no=>"no" | .both=>"both" | .tie=>"tie" | .none=>"none" | .makes=>"makes" | .oth=>""
inductive Sy where
 | every (a b:Kd) | no (a b:Kd) | thing (x:Str) (k:Kd) | tied (x t y:Str) | within (r s:Str) | makes (r s t:Str)
 deriving DecidableEq
noncomputable def Sy.hd:Sy->Ru
 | .every _ _=> .every | .no _ _=> .no | .thing _ _=> .thing | .tied _ _ _=> .tied | .within _ _=> .within | .makes _ _ _=> .makes
noncomputable def Sy.parts:Sy->List Kd
 | .every a b=>[a,b] | .no a b=>[a,b] | .thing x k=>[.nm x,k] | .tied x t y=>[.nm x,.nm t,.nm y] | .within r s=>[.nm r,.nm s] | .makes r s t=>[.nm r,.nm s,.nm t]
def IsSy(H:Hp)(s:Sy)(v:V):Prop:=∃p xs,v= .ref p/\H p=some (.tup (.str (Lb s.hd)::xs))/\KL H xs s.parts
def IsSy.mono{H H':Hp}(t:Tups H H'){s:Sy}{v:V}(h:IsSy H s v):IsSy H' s v:=by
 obtain⟨p,xs,e,h1,h2⟩:=h;exact⟨p,xs,e,t _ _ h1,KL.mono t h2⟩
def Sy.lo(n:Nat)(s:Sy):Prop:=∀k∈s.parts,k.dep<=n
structure DB where
 f:Fa
 r:Str
 fr:List Int
 n:Option Int
noncomputable def qc:Option Int->V
 | none=> .non
 | some i=> .int i
def IsStp(L:List Addr)(H:Hp)(s:DB)(v:V):Prop:=∃p pf vf,v= .ref p/\H p=some (.tup [vf,.str s.r,.ref pf,qc s.n])/\IsF H s.f vf/\H pf=some (.lst (s.fr.map V.int))/\pf∉L
def IsStp.keep{L:List Addr}{H H':Hp}(k:Kp L H H'){s:DB}{v:V}(h:IsStp L H s v):IsStp L H' s v:=by
 obtain⟨p,pf,vf,e,h1,h2,h3,h4⟩:=h;exact⟨p,pf,vf,e,k.tups _ _ h1,h2.mono k.tups,k.but _ _ h4 h3,h4⟩
def StL(L:List Addr)(H:Hp):List V->List DB->Prop:=Paired fun v s=>IsStp L H s v
def StL.keep{L:List Addr}{H H':Hp}(k:Kp L H H'){xs:List V}{ss:List DB}(h:StL L H xs ss):StL L H' xs ss:=Paired.imp' (fun _ _ q=>IsStp.keep k q) h
theorem sA:∀{xs ys:List α} {ks ls:List β},Paired R xs ks->Paired R ys ls->Paired R (xs++ys) (ks++ls)
 | _,_,_,_,.nil,s=>s
 | _,_,_,_,.cons r t,s=> .cons r (sA t s)
theorem bT:∀{xs:List α} {ks:List β} {i:Nat} {v:α},Paired R xs ks->xs[i]? =some v->∃k,ks[i]? =some k/\R v k
 | _,_,_,_,.nil,e=>by simp at e
 | _,_,0,_,.cons r _,e=>by simp at e;subst e;exact⟨_,rfl,r⟩
 | _,_,i+1,v,.cons _ t,e=>by
   obtain⟨u,h1,h2⟩:=bT (i:=i) (v:=v) t (by simpa using e);exact⟨u,by simpa using h1,h2⟩
def IsPr(H:Hp)(q:Int × Sy)(v:V):Prop:=∃p vs,v= .ref p/\H p=some (.tup [.int q.1,vs])/\IsSy H q.2 vs
def IsPr.mono{H H':Hp}(t:Tups H H'){q:Int × Sy}{v:V}(h:IsPr H q v):IsPr H' q v:=by
 obtain⟨p,vs,e,h1,h2⟩:=h;exact⟨p,vs,e,t _ _ h1,h2.mono t⟩
def PrL(H:Hp):List V->List (Int × Sy)->Prop:=Paired fun v q=>IsPr H q v
def PrL.mono{H H':Hp}(t:Tups H H'){xs:List V}{qs:List (Int × Sy)}(h:PrL H xs qs):PrL H' xs qs:=Paired.imp' (fun _ _ q=>IsPr.mono t q) h
def cQ(h:H p=some (.tup xs))(e:zC xs i=some v)(q:Q v H):Ae K H Q p i:=⟨xs,v,SqT.of h,e,q⟩
noncomputable def Kd.tieL:Kd->List Str
 | .nm _=>[]
 | .two a b=>Kd.tieL a++Kd.tieL b
 | .som r c=>r::Kd.tieL c
def eh(K:Frag):kitOne K (.type "str") (.type "str")=some true:=rfl
def du(K:Frag):kitOne K (.type "tuple") (.type "str")=some false:=by
 first | rfl | decide | with_unfolding_all rfl
inductive uF(vs:List V)(H:Hp)(Q:VK):Prop
 | mk:∀v k,(vs=[v])->(IsK H k v)->(∀p xs,H p=none->KL H xs k.inner->Q (.ref p) (upd H p (.lst xs)))->uF vs H Q
def qy:Sp:=fun vs H Q _=>uF vs H Q
section
def GU:bj ie ie (aJ zY):=gy
def aZ:=fun {a b c d e}=> @fK a b c d e
def aV:=fun {a b c}=> @fY a b c
def EN(F:Fun K "inner_kinds" "inner_kinds" zY f fd)(mi:mg "isinstance"=none)(ms:mg "str"=none):bW P w K mg base eW 1 f fd ie qy:=by
 refine F.o GU fun cdv A outer s H vs Q E hr h=> ?_;obtain⟨v,k,rfl,hk,q⟩:=h;refine⟨_,aZ (by exact bA (cw (dB kX rfl mi j9 (eO aA (eO (wA (v:= .ty "str") rfl ms cv rfl) cz)))) (fY (gO (bV cz))) aQ) (aZ (by exact bA (qE bN (jg gD aA av (fun _ _=>rfl)) aS (sF _)) (fY (gO (bV (eO (jg gD aA av (fun _ _=>rfl)) (eO (jg gD aA av (fun _ _=>rfl)) cz))))) aQ) (aV (by exact gO (bV (eO (jg gD aA av (fun _ _=>rfl)) cz))))),?_⟩;cases k with
 | nm x=>
   obtain rfl:v= .str x:=hk;exact⟨_,_,_,true,rfl,TyOf.str x,eh K,⟨ay _,fun p hp=>q p [] hp .nil⟩⟩
 | two a b=>
   obtain⟨p,x,y,rfl,hp,ha,hb⟩:=id hk;refine⟨_,_,_,false,rfl,TyOf.tup hp,du K,?_⟩;refine⟨_,_,SqT.of hp,aU (j:=0) rfl,?_⟩;refine⟨_,_,SqT.of hp,aU (j:=1) rfl,_,_,SqT.of hp,aU (j:=2) rfl,bC (by show 2<=1000;decide),fun r hr'=> ?_⟩;exact q r [x,y] hr' (.cons ha (.cons hb .nil))
 | som r c=>
   obtain⟨p,y,rfl,hp,hc⟩:=id hk;refine⟨_,_,_,false,rfl,TyOf.tup hp,du K,?_⟩;refine⟨_,_,SqT.of hp,aU (j:=0) rfl,?_⟩;refine⟨_,_,SqT.of hp,aU (j:=2) rfl,bC (by show 1<=1000;decide),fun t ht=> ?_⟩;exact q t [y] ht (.cons hc .nil)
end
end K19
namespace L2
open PySem PySem.Spec PyProof.Rows
def fM(hc:X.calm=true):mn X (.type "list") (fun xs H Q=>∃(a:Addr) (kvs:List (Key × V)) (ss:List Str),xs=[.ref a]/\H a=some (.dK kvs)/\kvs.map (·.1)=ss.map Sum.inr/\∀p,H p=none->Q (.ref p) (upd H p (.lst (ss.map V.str)))):=by
 intro pins s σ H xs us Q I r h;obtain⟨a,kvs,ss,rfl,ha,hk,q⟩:=h;obtain⟨u,rfl,ru⟩:=r.one;cases ru;obtain⟨z,hd,vs,rel,o,es,ep,ho,hx,hdat,hks,hps,hnd⟩:=zg I.hok ha;have da:s.heap.DictAt (cN X.prog X.w) a vs ep:=⟨o,es,ho,hx,hdat,hks,hps,hnd⟩;have hlen:=rel.length;refine PySem.W.kdl_call (PySem.W.kdl_dict (knd:=cN X.prog X.w) (kvs:=vs) (ep:=ep) hd) (I.ok.hd hc) da (by lia) fun h' tk acc c' hk' hl hit=> ?_;have hacc:acc.toList.length=vs.length:=by rw[kh];exact hit.1
 have hv:Vals (ss.map V.str) acc.toList:=ui (P:=X.prog) (w:=X.w) rel hk hacc fun j v hj=>hit.2 j v (by simpa using hj);have hsl:(ss.map V.str).length<=sizeLine:=by rw[hv.length,hacc];lia
 exact⟨.ref s.heap.objs.size,_,I.laid (t':=tk) hk' (ar _) (show ObjOk X.prog X.w _ _ _ (.lst (ss.map V.str)) from⟨hsl,acc.toList,c',hv,hl⟩),rfl,q _ (I.hok.fresh (ar _))⟩
end L2
namespace K19
open PySem L2
noncomputable def whole(x:Str):Bool:=x=="anything" || x=="nothing"
noncomputable def Kd.kindL:Kd->List Str
 | .nm x=>if whole x then [] else [x]
 | .two a b=>Kd.kindL a++Kd.kindL b
 | .som _ c=>Kd.kindL c
noncomputable def n_(A:List Str)(x:Str):List Str:=if x∈A then A else A++[x]
noncomputable def cW(A:List Str)(xs:List Str):List Str:=xs.foldl n_ A
def i_(A xs ys:List Str):cW A (xs++ys)=cW (cW A xs) ys:=by simp[cW]
noncomputable def Dn(A:List Str):List (Key × V):=A.map fun x=>(Sum.inr x,V.bl true)
def pz(A:List Str):(Dn A).length=A.length:=by simp[Dn]
def oj(A:List Str):(Dn A).map (·.1)=A.map Sum.inr:=by simp[Dn]
def K8(A:List Str)(x:Str):(Dn A).any (fun kv=>decide (kv.1=Sum.inr x))=decide (x∈A):=by
 induction A with
 | nil=>rfl
 | cons a A ih=>
   show(decide ((Sum.inr a:Key)=Sum.inr x) || (Dn A).any (fun kv=>decide (kv.1=Sum.inr x)))=_;rw[ih];by_cases e:a=x
   · subst e;simp
   · have h1:¬ (Sum.inr a:Key)=Sum.inr x:=fun z=>e (N3 z);rw[aq h1,Bool.false_or]
     congr 1
     simp[bG e]
def pw(A:List Str)(x:Str):bZ (Dn A) (.inr x) (.bl true)=Dn (n_ A x):=by
 unfold bZ n_;rw[K8];by_cases e:x∈A
 · rw[aI (aG e),aI e];unfold Dn;rw[qk]
   congr 1
   funext y
   show(if(Sum.inr y:Key)=Sum.inr x then((Sum.inr y:Key),V.bl true) else(Sum.inr y,V.bl true))=_
   split<;>rfl
 · rw[aD (by rw[aq e];decide),aD e];simp[Dn]
def zq(A:List Str)(x:Str):(n_ A x).length<=A.length+1:=by
 unfold n_
 split
 · lia
 · simp
theorem eU:∀xs A,(cW A xs).length<=A.length+xs.length
 | [],A=>by simp[cW]
 | x::xs,A=>by
   have:=eU xs (n_ A x);have h2:=zq A x;show(cW (n_ A x) xs).length<=A.length+(xs.length+1)
   lia
theorem kQ:∀k:Kd,(Kd.kindL k).length<=k.sz
 | .nm x=>by unfold Kd.kindL;split<;>simp[Kd.sz]
 | .two a b=>by have:=kQ a;have:=kQ b;simp only[Kd.kindL,ah,Kd.sz];lia
 | .som _ c=>by have:=kQ c;simp only[Kd.kindL,Kd.sz];lia
theorem ni:∀k:Kd,(Kd.tieL k).length<=k.sz
 | .nm x=>by simp[Kd.tieL,Kd.sz]
 | .two a b=>by have:=ni a;have:=ni b;simp only[Kd.tieL,ah,Kd.sz];lia
 | .som _ c=>by have:=ni c;simp only[Kd.tieL,Kd.sz,aR];lia
def But2(a b:Addr)(H H':Hp):Prop:=∀c o,c≠a->c≠b->H c=some o->H' c=some o
def But2.refl(a b:Addr)(H:Hp):But2 a b H H:=fun c o _ _ h=>h
def But2.trans(x:But2 a b H H1)(y:But2 a b H1 H2):But2 a b H H2:=fun c o h1 h2 h=>y c o h1 h2 (x c o h1 h2 h)
def Same.but2(x:Same H H1):But2 a b H H1:=fun c o _ _ h=>x c o h
def KQ:But2 a b H (upd H a o):=fun c u h1 _ h=>by rw[aB h1];exact h
def KP:But2 a b H (upd H b o):=fun c u _ h2 h=>by rw[aB h2];exact h
def But2.tups(q:But2 a b H H1)(ha:H a=some (.dK x))(hb:H b=some (.dK y)):Tups H H1:=fun c xs h=>by
 refine q c _ (fun e=> ?_) (fun e=> ?_) h
 · rw[e,ha] at h;cases h
 · rw[e,hb] at h;cases h
noncomputable def szs(l:List Kd):Nat:=(l.map Kd.sz).sum
def Ba(a b:List Kd):szs (a++b)=szs a+szs b:=by simp[szs]
def Cy(k:Kd):k.sz=1+szs k.inner:=by
 cases k<;>simp[szs,Kd.inner,Kd.sz]<;>lia
noncomputable def AC(l:List Kd):List Str:=(l.map Kd.kindL).flatten
noncomputable def zI(l:List Kd):List Str:=(l.map Kd.tieL).flatten
def HM(a b:List Kd):AC (a++b)=AC a++AC b:=by simp[AC]
def GG(a b:List Kd):zI (a++b)=zI a++zI b:=by simp[zI]
theorem B6:∀l:List Kd,(AC l).length<=szs l
 | []=>by simp[AC]
 | k::l=>by
   have h1:=B6 l;have h2:=kQ k;have e1:AC (k::l)=Kd.kindL k++AC l:=by simp[AC]
   have e2:szs (k::l)=k.sz+szs l:=by simp[szs]
   rw[e1,e2,ah];lia
theorem AY:∀l:List Kd,(zI l).length<=szs l
 | []=>by simp[zI]
 | k::l=>by
   have h1:=AY l;have h2:=ni k;have e1:zI (k::l)=Kd.tieL k++zI l:=by simp[zI]
   have e2:szs (k::l)=k.sz+szs l:=by simp[szs]
   rw[e1,e2,ah];lia
def DX(l:List Kd)(i:Nat):szs (l.take i)<=szs l:=by
 have:szs l=szs (l.take i)+szs (l.drop i):=by rw[<-Ba,jw]
 lia
def AI:([V.str "anything",V.str "nothing"]:List V).all kU=true:=by decide+kernel
def FC(x:Str):B_ (.str x) [V.str "anything",V.str "nothing"]=whole x:=by
 unfold B_ whole;simp only[h_,List.any_nil,xC,DD];rw[Bool.beq_comm (a:=Str.ofString "anything"),Bool.beq_comm (a:=Str.ofString "nothing")]
noncomputable def Kd.pre:Kd->List Str
 | .som r _=>[r]
 | _=>[]
def AA(h:∀x,k≠ .nm x):Kd.kindL k=AC k.inner/\Kd.tieL k=Kd.pre k++zI k.inner:=by
 cases k with
 | nm x=>exact absurd rfl (h x)
 | two a b=>constructor<;>simp[Kd.kindL,Kd.tieL,Kd.pre,AC,zI,Kd.inner]
 | som r c=>constructor<;>simp[Kd.kindL,Kd.tieL,Kd.pre,AC,zI,Kd.inner]
inductive xT(n:Nat)(vs:List V)(H:Hp)(Q:VK):Prop
 | mk:∀v k a b A B,(vs=[v,.ref a,.ref b])->(IsK H k v)->(a≠b)->(H a=some (.dK (Dn A)))->(H b=some (.dK (Dn B)))->(A.length+k.sz<=900)->(B.length+k.sz<=900)->(k.dep<n)->(∀H',But2 a b H H'->H' a=some (.dK (Dn (cW A (Kd.kindL k))))->H' b=some (.dK (Dn (cW B (Kd.tieL k))))->Q .non H')->xT n vs H Q
def mx(n:Nat):Sp:=fun vs H Q _=>xT n vs H Q
section
def scNote:bj ["kind","kinds","ties","part"] pO (aJ yf):=gy
def hG:=fun {a b c d e}=> @wq a b c d e
def Hq(hk0:1<=k0)(F:Fun K "note_names" "note_names" yf f fd)(Gno:Cl P w K mg base k0 "note_names" pO (mx n))(Gi:Cl P w K mg base 1 "inner_kinds" ie qy)(mW:mg "WHOLES"=some (.ref aW))(hW:∀H,SqT K H aW [.str "anything",.str "nothing"])(mi:mg "isinstance"=none)(ms:mg "str"=none):bW P w K mg base eW (k0+1) f fd pO (mx (n+1)):=by
 refine F.o scNote fun cdv A outer s H vs Q E hr h=> ?_;obtain⟨v,k,a,b,A',B,rfl,hk,hab,ha,hb,hA,hB,hd,q⟩:=h;have kGno:=F.kp;have hu:(A.deeper (PyProof.Rows.envOfC "note_names" (aJ yf) s.heap.objs.size f cdv)).units+1<cLine:=by have:=hr.un;lia
 refine⟨_,aZ (bA (cw (xy mi ms cv aA)) (hG (bA (eI iH aA (qH (v:= .ref aW) rfl mW rfl)) (aV (dI hu bf aA dq rfl)) aQ) (aV (lE))) aQ) (hG (bA (eI bN (dj aA) aS) (aV (dI hu bH (dj aA) dq rfl)) aQ) (aV (jR (bS (dF Gi hr (eP aA))) (e_ 3 scNote.nd) (aV (be (dF Gno hr (gc bU bf bH))))))),?_⟩;have fin:∀(H1:Hp) (B1:List Str),(∀x,k≠ .nm x)->B1=cW B (Kd.pre k)->But2 a b H H1->H1 a=some (.dK (Dn A'))->H1 b=some (.dK (Dn B1))->
  Js (mj K (q_ qy [] E0 (dY (ow 0) iS))) (ir 3) (IC (q_ (mx n) [] E0 (dY (ow 3) (dY (ow 1) (dY (ow 2) iS))))) {nx:=fun x H'=>Q V.non H',rt:=Q} [some v,some (.ref a),some (.ref b),none] H1:=by
  intro H1 B1 hnm hB1 q1 e1 e2;have t1:Tups H H1:=q1.tups ha hb;have hk1:=IsK.mono t1 hk;refine⟨v,k,rfl,hk1,fun p xs hp hL=>⟨⟨_,SqL.of aa⟩,?_⟩⟩;have pa:p≠a:=fun z=>by rw[z,e1] at hp;cases hp
  have pb:p≠b:=fun z=>by rw[z,e2] at hp;cases hp
  have sp:=aj hp (.lst xs);have lL:=KL.len hL;have hsz:=Cy k;have hpl:(Kd.pre k).length<=1:=by cases k<;>simp[Kd.pre]
  have hBl:B1.length<=B.length+1:=by rw[hB1];have:=eU (Kd.pre k) B;lia
  obtain⟨ek,et⟩:=AA hnm;refine bR (xs:=xs) (fun i σ H3=>∃o3:Option V,σ=[some v,some (.ref a),some (.ref b),o3]/\But2 a b (upd H1 p (.lst xs)) H3/\H3 a=some (.dK (Dn (cW A' (AC (k.inner.take i)))))/\H3 b=some (.dK (Dn (cW B1 (zI (k.inner.take i)))))) ⟨none,rfl,But2.refl _ _ _,by rw[lX];exact sp _ _ e1,by rw[lX];exact sp _ _ e2⟩ ?_ ?_ ?_
  · rintro i σ H3 hi ⟨o3,rfl,q3,_⟩;exact SqL.of (q3 _ _ pa pb aa)
  · rintro i x σ H3 hx ⟨o3,rfl,q3,ea,eb⟩;obtain⟨kk,hk2,ik⟩:=KL.get hL hx;have hkm:kk∈k.inner:=ak hk2;have t3:Tups (upd H1 p (.lst xs)) H3:=q3.tups (sp _ _ e1) (sp _ _ e2);have hsum:szs (k.inner.take i)+kk.sz<=szs k.inner:=by
     have h1:=DX k.inner (i+1);rw[bK,hk2,Ba] at h1;simpa[szs] using h1
    have la:=eU (AC (k.inner.take i)) A';have lb:=eU (zI (k.inner.take i)) B1;have la2:=B6 (k.inner.take i);have lb2:=AY (k.inner.take i);have hdep:kk.dep<k.dep:=by
     cases k with
     | nm x=>exact absurd rfl (hnm x)
     | two c d=>
       simp only[Kd.inner,aE,ej,cF] at hkm;rcases hkm with rfl | rfl<;>simp only[Kd.dep]<;>lia
     | som r c=>
       simp only[Kd.inner,aE,ej,cF] at hkm;subst hkm;simp only[Kd.dep];lia
    refine⟨x,kk,a,b,_,_,rfl,IsK.mono (sp.tups.trans t3) ik,hab,ea,eb,by lia,by lia,by lia,fun H4 q4 ea4 eb4=> ?_⟩;refine⟨_,rfl,q3.trans q4,?_,?_⟩
    · rw[bK,hk2,HM,i_];simpa[AC] using ea4
    · rw[bK,hk2,GG,i_];simpa[zI] using eb4
  · rintro σ H3 ⟨o3,rfl,q3,ea,eb⟩;rw[lL,bp] at ea eb;refine q H3 (q1.trans ((Same.but2 sp).trans q3)) (by rw[ek];exact ea) ?_;rw[et,i_,<-hB1];exact eb
 cases k with
 | nm x=>
   obtain rfl:v= .str x:=hk;refine⟨_,_,_,true,rfl,TyOf.str x,eh K,?_⟩;refine⟨fun σ' H'=>But2 a b H H'/\H' a=some (.dK (Dn (cW A' (Kd.kindL (.nm x)))))/\H' b=some (.dK (Dn B)),?_,fun σ' H' ⟨q1,e1,e2⟩=>q H' q1 e1 e2⟩;refine⟨aW,_,rfl,.inr (hW _),rfl,AI,?_⟩;show if(!B_ (.str x) [V.str "anything",V.str "nothing"])=true then _ else _
   rw[FC];refine fS (fun c1=> ?_) (fun c1=> ?_)
   · have hw:whole x=false:=by simpa using c1
     refine⟨_,DPut.k (k:=Sum.inr x) ha (bL (by rw[pz];lia)),KQ,?_,by rw[aB (bG hab)];exact hb⟩;rw[aa,pw];have e0:Kd.kindL (.nm x)=[x]:=by unfold Kd.kindL;rw[hw];rfl
     rw[e0];rfl
   · have hw:whole x=true:=by simpa using c1
     have e0:Kd.kindL (.nm x)=[]:=by unfold Kd.kindL;rw[hw];rfl
     exact⟨But2.refl _ _ _,by rw[e0];exact ha,hb⟩
 | two c d=>
   obtain⟨p,x,y,rfl,hp,hc,hd'⟩:=id hk;refine⟨_,_,_,false,rfl,TyOf.tup hp,du K,?_⟩;refine⟨fun σ' H'=>σ'=[some (.ref p),some (.ref a),some (.ref b),none]/\H'=H,?_,?_⟩
   · refine⟨_,_,SqT.of hp,aU (j:=0) rfl,?_⟩;exact⟨rfl,rfl⟩
   · rintro σ' H' ⟨rfl,rfl⟩;exact fin H' B (fun x z=>by cases z) rfl (But2.refl _ _ _) ha hb
 | som r c=>
   obtain⟨p,y,rfl,hp,hc⟩:=id hk;refine⟨_,_,_,false,rfl,TyOf.tup hp,du K,?_⟩;refine⟨fun σ' H'=>σ'=[some (.ref p),some (.ref a),some (.ref b),none]/\But2 a b H H'/\H' a=some (.dK (Dn A'))/\H' b=some (.dK (Dn (cW B [r]))),?_,?_⟩
   · refine⟨_,_,SqT.of hp,aU (j:=0) rfl,?_⟩;refine⟨_,_,SqT.of hp,aU (j:=1) rfl,_,DPut.k (k:=Sum.inr r) hb (bL (by rw[pz];lia)),rfl,KP,by rw[aB hab];exact ha,?_⟩;rw[aa,pw];rfl
   · rintro σ' H' ⟨rfl,q1,e1,e2⟩;exact fin H' _ (fun x z=>by cases z) rfl q1 e1 e2
def C9:bW P w K mg base eW 1 f fd pO (mx 0):=by
 have no:∀vs H Q E,¬ mx 0 vs H Q E:=fun vs H Q E h=>by
  obtain⟨v,k,a,b,A,B,_,_,_,_,_,_,_,h,_⟩:=h
  lia
 exact⟨fun vs H Q E h=>absurd h (no vs H Q E),fun A outer s H args us vs Q E _ _ _ _ h=>absurd h (no vs H Q E)⟩
theorem yK(A:Fq K mg "note_names" yf pO)(Gi:Cl P w K mg base 1 "inner_kinds" ie qy)(mW:mg "WHOLES"=some (.ref aW))(hW:∀H,SqT K H aW [.str "anything",.str "nothing"])(mi:mg "isinstance"=none)(ms:mg "str"=none):∀n:Nat,Cl P w K mg base (n+1) "note_names" pO (mx n)
 | 0=>A.cl fun _=>C9
 | n+1=>A.cl fun F=>Hq (by lia) F (yK A Gi mW hW mi ms n) Gi mW hW mi ms
end
structure Sg where
 form:Str
 ps:List (Str × Kd)
noncomputable def jZ:List (Str × List Str):=[("every",BK),("no",BK),("thing",["thing","kind"]),("tied",["thing","tie","thing"]),("within",["tie","tie"]),("makes",["tie","tie","tie"])]
def xq(p:Str × Kd):Prop:=(p.1="kind"/\p.2.sz<=60)\/((p.1="tie"\/p.1="thing")/\∃x,p.2= .nm x)
structure Sg.Ok(S:Sg):Prop where
 fo:(S.form,S.ps.map (·.1))∈jZ
 po:∀p∈S.ps,xq p
def OD(H:Hp)(S:Sg)(v:V):Prop:=∃p xs,v= .ref p/\H p=some (.tup (.str S.form::xs))/\KL H xs (S.ps.map (·.2))
noncomputable def pK(p:Str × Kd):List Str:=if p.1="kind" then Kd.kindL p.2 else []
noncomputable def pT(p:Str × Kd):List Str:=if p.1="kind" then Kd.tieL p.2 else if p.1="tie" then(match p.2 with | .nm x=>[x] | _=>[]) else []
noncomputable def pG(p:Str × Kd):List Str:=if p.1="thing" then(match p.2 with | .nm x=>[x] | _=>[]) else []
noncomputable def JU(S:Sg):List Str:=cW [] ((S.ps.map pK).flatten)
noncomputable def JT(S:Sg):List Str:=cW [] ((S.ps.map pT).flatten)
noncomputable def j8(S:Sg):List Str:=cW [] ((S.ps.map pG).flatten)
def Mt(x:V)(xs:List V):jJ (x::xs) (some 1) none=xs:=by
 have h1:HT.sIx (x::xs).length 0 (some ((1:Nat):Int))=1:=by rw[HT.sIx_nat];simp only[aR];lia
 have h2:HT.sIx (x::xs).length (x::xs).length none=(x::xs).length:=rfl;unfold jJ;rw[show(some 1:Option Int)=some ((1:Nat):Int) from rfl,h1,h2];simp
def LP(x:V)(xs:List V):¬ (HT.sIx (x::xs).length 0 (some 1)=0/\HT.sIx (x::xs).length (x::xs).length none=(x::xs).length):=by
 have h1:HT.sIx (x::xs).length 0 (some ((1:Nat):Int))=1:=by rw[HT.sIx_nat];simp only[aR];lia
 rw[show(some 1:Option Int)=some ((1:Nat):Int) from rfl,h1]
 lia
theorem kP:∀k:Kd,k.nt<k.sz
 | .nm _=>by simp[Kd.nt,Kd.sz]
 | .two a b=>by have:=kP a;have:=kP b;simp only[Kd.nt,Kd.sz];lia
 | .som _ c=>by have:=kP c;simp only[Kd.nt,Kd.sz];lia
def parts_len{l:List (Str × Kd)}{f:Str × Kd->List Str}(h:∀p∈l,(f p).length<=60):((l.map f).flatten).length<=60 * l.length:=by
 induction l with
 | nil=>simp
 | cons p l ih=>
   have h1:=h p (by simp);have h2:=ih fun q hq=>h q (aK _ hq);simp only[bQ,List.flatten_cons,ah,aR]
   lia
def JR(h:xq p):(pK p).length<=60:=by
 unfold pK
 split
 · rename_i e;rcases h with⟨_,h⟩ | ⟨h | h,_⟩
   · have:=kQ p.2;lia
   · rw[h] at e;exact absurd e (by decide+kernel)
   · rw[h] at e;exact absurd e (by decide+kernel)
 · simp
def JQ(h:xq p):(pT p).length<=60:=by
 unfold pT
 split
 · rename_i e;rcases h with⟨_,h⟩ | ⟨h | h,_⟩
   · have:=ni p.2;lia
   · rw[h] at e;exact absurd e (by decide+kernel)
   · rw[h] at e;exact absurd e (by decide+kernel)
 · split
   · split<;>simp
   · simp
def JS(p:Str × Kd):(pG p).length<=60:=by
 unfold pG
 split
 · split<;>simp
 · simp
def Do(h:(f,ss)∈jZ):ss.length<=3:=by
 simp only[jZ,aE,ej,cF,Prod.mk.injEq] at h;rcases h with⟨_,rfl⟩ | ⟨_,rfl⟩ | ⟨_,rfl⟩ | ⟨_,rfl⟩ | ⟨_,rfl⟩ | ⟨_,rfl⟩<;>simp
inductive uA(vs:List V)(H:Hp)(Q:VK):Prop
 | mk:∀v S,(vs=[v])->(OD H S v)->(S.Ok)->(∀q a b c H',Same H H'->H' q=some (.tup [.ref a,.ref b,.ref c])->H' a=some (.lst ((JU S).map V.str))->H' b=some (.lst ((JT S).map V.str))->H' c=some (.lst ((j8 S).map V.str))->H q=none->H a=none->H b=none->H c=none->a≠b->a≠c->b≠c->Q (.ref q) H')->uA vs H Q
def Bk:Sp:=fun vs H Q _=>uA vs H Q
section
def scNamed:bj ["saying","kinds","ties","things","sort","part"] ["saying"] (aJ vX):=gy
def cX:=fun {a b c d e}=> @JM a b c d e
def cI:=fun {a b c d}=> @gO a b c d
def EJ(F:Fun K "named" "named" vX f fd)(Gno:Cl P w K mg base 61 "note_names" pO (mx 60))(mF0:mg "FORMS"=some (.ref aF))(hF:∀fo ss,(fo,ss)∈jZ->∃kvs a,vp K P w aF kvs/\cS kvs (.inr fo)=some (.ref a)/\∀H,SqT K H a (ss.map V.str))(mz:mg "zip"=none)(mls:mg "list"=none):bW P w K mg base eW 62 f fd ["saying"] Bk:=by
 refine F.o scNamed fun cdv A outer s H vs Q E hr h=> ?_;obtain⟨v,S,rfl,hv,hS,q⟩:=h;have hu:(A.deeper (PyProof.Rows.envOfC "named" (aJ vX) s.heap.objs.size f cdv)).units+1<cLine:=by have:=hr.un;lia
 refine⟨_,aZ (fz 1 scNamed.nd cO) (aZ (fz 2 scNamed.nd cO) (aZ (fz 3 scNamed.nd cO) (hG (jR (BU rfl mz (fg (BV (qH (v:= .ref aF) rfl mF0 rfl) (dj aA) (fun _ _=>rfl)) (d_ D9 aA (eN av) fu))) (eJ rfl (bw (e_ 4 scNamed.nd) (bw (e_ 5 scNamed.nd) dA))) (aV (bA (eI bN bX aS) (aV (be (dF Gno hr (gc dH bf bH)))) (aV (bA (eI bN bX aS) (aV (dI hu bH dH dq rfl)) (aV (dI hu bU dH dq rfl))))))) (aV (cI (cX (gc (ei (fM rfl) rfl mls bF (eP bf)) (ei (fM rfl) rfl mls bF (eP bH)) (ei (fM rfl) rfl mls bF (eP bU))))))))),?_⟩;obtain⟨pv,xs,rfl,hpv,hL⟩:=hv;obtain⟨kvs,aT,hkd,hval,hT⟩:=hF _ _ hS.fo;have lL:=KL.len hL;rw[ao] at lL;have l3:=Do hS.fo;rw[ao] at l3;refine fun a ha=>fun b hb=>fun c hc=> ?_;have ab:a≠b:=br aa hb;have hb0:H b=none:=by rw[aB (bG ab)] at hb;exact hb
 have bc:b≠c:=br aa hc;have ac:a≠c:=fun z=>by rw[<-z,aB ab,aa] at hc;cases hc
 have hc0:H c=none:=by rw[aB (bG bc),aB (bG ac)] at hc;exact hc
 have s3:Same H (upd (upd (upd H a (.dK [])) b (.dK [])) c (.dK [])):=d9 (d9 (aj ha _) hb0) hc0;have ea0:(upd (upd (upd H a (.dK [])) b (.dK [])) c (.dK [])) a=some (.dK (Dn [])):=by rw[aB ac,aB ab];exact aa
 have eb0:(upd (upd (upd H a (.dK [])) b (.dK [])) c (.dK [])) b=some (.dK (Dn [])):=by rw[aB bc];exact aa
 have ec0:(upd (upd (upd H a (.dK [])) b (.dK [])) c (.dK [])) c=some (.dK (Dn [])):=aa;generalize upd (upd (upd H a (.dK [])) b (.dK [])) c (.dK [])=H3 at s3 ea0 eb0 ec0⊢;refine⟨fun σ' H'=>∃o4 o5:Option V,σ'=[some (.ref pv),some (.ref a),some (.ref b),some (.ref c),o4,o5]/\Same H H'/\H' a=some (.dK (Dn (JU S)))/\H' b=some (.dK (Dn (JT S)))/\H' c=some (.dK (Dn (j8 S))),?_,?_⟩
 · refine⟨_,_,SqT.of (s3 _ _ hpv),aU (j:=0) rfl,aF,kvs,.inr S.form,.ref aT,rfl,rfl,hkd,hval,1,rfl,pv,_,rfl,SqT.of (s3 _ _ hpv),LP _ _,fun pt hpt=> ?_⟩;rw[Mt];have spt:=aj hpt (.tup xs);refine⟨aT,pt,rfl,⟨_,hT _⟩,⟨_,SqT.of aa⟩,?_⟩;have npa:pt≠a:=fun z=>by rw[z,ea0] at hpt;cases hpt
   have npb:pt≠b:=fun z=>by rw[z,eb0] at hpt;cases hpt
   have npc:pt≠c:=fun z=>by rw[z,ec0] at hpt;cases hpt
   refine zc (xs:=(S.ps.map (·.1)).map V.str) (ys:=xs) (by rw[ao,ao];lia) (fun i σ H4=>∃o4 o5:Option V,σ=[some (.ref pv),some (.ref a),some (.ref b),some (.ref c),o4,o5]/\Same H H4/\H4 pt=some (.tup xs)/\H4 a=some (.dK (Dn (cW [] (((S.ps.take i).map pK).flatten))))/\H4 b=some (.dK (Dn (cW [] (((S.ps.take i).map pT).flatten))))/\H4 c=some (.dK (Dn (cW [] (((S.ps.take i).map pG).flatten))))) ⟨none,none,rfl,s3.trans spt,aa,by rw[lX];exact spt _ _ ea0,by rw[lX];exact spt _ _ eb0,by rw[lX];exact spt _ _ ec0⟩ ?_ ?_ ?_
   · rintro i σ H4 hi ⟨o4,o5,rfl,_,e,_⟩;exact⟨hT _,SqT.of e⟩
   · rintro i x y σ H4 T hx hy ⟨o4,o5,rfl,s4,e4,ea,eb,ec⟩ hTn;obtain⟨k',hk1,ik⟩:=KL.get hL hy;rw[bb] at hk1;obtain⟨p,hp,rfl⟩:=cj.mp hk1;rw[bb,bb,hp] at hx;simp only[iA,mX] at hx;subst hx;have hpm:=ak hp;have hpo:=hS.po p hpm;have sT:=aj hTn (.tup [.str p.1,y]);have ik4:=IsK.mono (s4.trans sT).tups ik;have il:i<S.ps.length:=(aO.mp hp).1;have lt:(S.ps.take i).length<=3:=au (N_ _ _) l3;have hin:∀p'∈S.ps.take i,xq p':=fun p' h'=>hS.po p' (fC h');have la:=eU (((S.ps.take i).map pK).flatten) [];have lb:=eU (((S.ps.take i).map pT).flatten) [];have lc:=eU (((S.ps.take i).map pG).flatten) [];have la2:=parts_len (f:=pK) fun p' h'=>JR (hin p' h');have lb2:=parts_len (f:=pT) fun p' h'=>JQ (hin p' h');have lc2:=parts_len (l:=S.ps.take i) (f:=pG) fun p' h'=>JS p';rw[cJ] at la lb lc;have stp:∀(ff:Str × Kd->List Str),cW [] (((S.ps.take (i+1)).map ff).flatten)=cW (cW [] (((S.ps.take i).map ff).flatten)) (ff p):=fun ff=>by
      rw[bK,hp,bx,OB,i_];simp
     refine⟨_,SqT.of aa,rfl,?_⟩;refine(fS (fun c1=> ?_) (fun c1=> ?_))
     · have e1:p.1="kind":=by
        have:=cK c1
        injection this
       have hsz:p.2.sz<=60:=by
        rcases hpo with⟨_,h⟩ | ⟨h | h,_⟩
        · exact h
        · rw[h] at e1;exact absurd e1 (by decide+kernel)
        · rw[h] at e1;exact absurd e1 (by decide+kernel)
       have hdp:p.2.dep<60:=by
        have h1:=Kd.dep_le_nt p.2;have h2:p.2.nt<p.2.sz:=kP p.2
        lia
       refine⟨y,p.2,a,b,_,_,rfl,ik4,ab,sT _ _ ea,sT _ _ eb,by lia,by lia,hdp,fun H5 q5 ea5 eb5=> ?_⟩;refine⟨_,_,rfl,fun z o hz=> ?_,?_,?_,?_,?_⟩
       · exact q5 z o (fun e=>by rw[e,ha] at hz;cases hz) (fun e=>by rw[e,hb0] at hz;cases hz) ((s4.trans sT) _ _ hz)
       · exact q5 _ _ npa npb (sT _ _ e4)
       · rw[stp,ea5];unfold pK;rw[aI e1]
       · rw[stp,eb5];unfold pT;rw[aI e1]
       · rw[stp];have:pG p=[]:=by unfold pG;rw[aD (by rw[e1];decide+kernel)]
         rw[this];exact q5 _ _ (bG ac) (bG bc) (sT _ _ ec)
     · have n1:p.1≠"kind":=fun z=>c1 (by rw[z];exact aG rfl);rcases hpo with⟨h,_⟩ | ⟨hso,x,hx⟩
       · exact absurd h n1
       rw[hx] at ik4;obtain rfl:y= .str x:=ik4;refine(fS (fun c2=> ?_) (fun c2=> ?_))
       · have e2:p.1="tie":=by
          have:=cK c2
          injection this
         refine⟨_,DPut.k (k:=Sum.inr x) (sT _ _ eb) (bL (by rw[pz];lia)),_,_,rfl,d9 (s4.trans sT) hb0,by rw[aB npb];exact sT _ _ e4,?_,?_,?_⟩
         · rw[aB ab,stp];have:pK p=[]:=by unfold pK;rw[aD n1]
           rw[this];exact sT _ _ ea
         · rw[aa,stp,pw];have:pT p=[x]:=by unfold pT;rw[aD n1,aI e2,hx]
           rw[this];rfl
         · rw[aB (bG bc),stp];have:pG p=[]:=by unfold pG;rw[aD (by rw[e2];decide+kernel)]
           rw[this];exact sT _ _ ec
       · have n2:p.1≠"tie":=fun z=>c2 (by rw[z];exact aG rfl);have e2:p.1="thing":=hso.resolve_left n2;refine⟨_,DPut.k (k:=Sum.inr x) (sT _ _ ec) (bL (by rw[pz];lia)),_,_,rfl,d9 (s4.trans sT) hc0,by rw[aB npc];exact sT _ _ e4,?_,?_,?_⟩
         · rw[aB ac,stp];have:pK p=[]:=by unfold pK;rw[aD n1]
           rw[this];exact sT _ _ ea
         · rw[aB bc,stp];have:pT p=[]:=by unfold pT;rw[aD n1,aD n2]
           rw[this];exact sT _ _ eb
         · rw[aa,stp,pw];have:pG p=[x]:=by unfold pG;rw[aI e2,hx]
           rw[this];rfl
   · rintro σ H4 ⟨o4,o5,rfl,s4,e4,ea,eb,ec⟩;rw[ao,ao,bp] at ea eb ec;exact⟨o4,o5,rfl,s4,ea,eb,ec⟩
 · rintro σ' H4 ⟨o4,o5,rfl,s4,ea,eb,ec⟩;refine⟨a,_,_,rfl,ea,oj _,fun l1 h1=>⟨b,_,_,rfl,aj h1 _ _ _ eb,oj _,fun l2 h2=>⟨c,_,_,rfl,aj h2 _ _ _ (aj h1 _ _ _ ec),oj _,fun l3 h3=>⟨bC (by show 3<=1000;decide),fun qq hq=> ?_⟩⟩⟩⟩;have t1:=aj h1 (.lst ((JU S).map V.str));have t2:=aj h2 (.lst ((JT S).map V.str));have t3:=aj h3 (.lst ((j8 S).map V.str));have t4:=aj hq (.tup [.ref l1,.ref l2,.ref l3]);have h2':=cu t1 h2;have h3':=cu (t1.trans t2) h3;have hq':=cu ((t1.trans t2).trans t3) hq;exact q qq l1 l2 l3 _ (((s4.trans t1).trans t2).trans (t3.trans t4)) aa (((t2.trans t3).trans t4) _ _ aa) ((t3.trans t4) _ _ aa) (t4 _ _ aa) (cu s4 hq') (cu s4 h1) (cu s4 h2') (cu s4 h3')
    (br aa h2) (br (t2 _ _ aa) h3) (br aa h3)
end
noncomputable def fI(c:Nat):Bool:=decide (97<=c/\c<=122)
noncomputable def nY(c:Nat):Bool:=decide (65<=c/\c<=90)
noncomputable def t_(z:Str):Bool:=decide (1<=z.length)&&decide (z.length<=12)
noncomputable def gb(z:Str):Bool:=t_ z&&(match z.cps.toList with | []=>false | c::r=>nY c&&r.all fI)
def wQ(c d:Nat):(!decide ([d]<[c]))=decide (c<=d):=by
 have h:([d]<[c])↔d<c:=by
  simp[List.cons_lt_cons_iff]
 by_cases q:d<c
 · rw[aG (h.mpr q),aq (by lia)];rfl
 · rw[aq (fun z=>q (h.mp z)),aG (by lia)];rfl
inductive ux(vs:List V)(H:Hp)(Q:VK):Prop
 | mk:∀c:Nat,(vs=[.str ⟨#[c]⟩])->(Q (.bl (fI c)) H)->ux vs H Q
def Bf:Sp:=fun vs H Q _=>ux vs H Q
inductive Bw(vs:List V)(H:Hp)(Q:VK):Prop
 | mk:∀z:Str,(vs=[.str z])->(z.length<=1000)->(∀H',Same H H'->Q (.bl (z.cps.toList.all fI)) H')->Bw vs H Q
def IH:Sp:=fun vs H Q _=>Bw vs H Q
inductive uu(vs:List V)(H:Hp)(Q:VK):Prop
 | mk:∀z:Str,(vs=[.str z])->(z.length<=1000)->(∀H',Same H H'->Q (.bl (gb z)) H')->uu vs H Q
def Be:Sp:=fun vs H Q _=>uu vs H Q
section
def GR:bj qql45 qql45 (aJ zT):=gy
def EG(F:Fun K "is_small" "is_small" zT f fd):bW P w K mg base eW 1 f fd qql45 Bf:=by
 refine F.o GR fun cdv A outer s H vs Q E hr h=> ?_;obtain⟨c,rfl,q⟩:=h;refine⟨_,fY (gO (sv lH lH aS aA aS)),?_⟩;refine⟨_,_,rfl,rfl,_,rfl,?_⟩;have e1:(!decide (([c]:List Nat)<[97]))=decide (97<=c):=wQ 97 c;have e2:(!decide (([122]:List Nat)<[c]))=decide (c<=122):=wQ c 122;show if(!decide (([c]:List Nat)<[97]))=true then _ else _
 rw[e1];refine fS (fun h=> ?_) (fun h=> ?_)
 · refine⟨_,_,rfl,rfl,?_⟩;show Q (.bl (!decide (([122]:List Nat)<[c]))) H;rw[e2];have h':97<=c:=cK h;have:fI c=decide (c<=122):=by unfold fI;rw[Dr];lia
   rw[<-this];exact q
 · have h':¬ 97<=c:=fun z=>h (aG z);have:fI c=false:=by unfold fI;rw[Li];lia
   rw[<-this];exact q
def O0:(((qql45:List Str)++[]):List Str).Nodup:=by decide+kernel
def LN:bj me me (aJ JD):=gy
def J5(F:Fun K "all_small" "all_small" JD f fd)(G:Cl P w K mg base 1 "is_small" qql45 Bf)(ma:mg "all"=none):bW P w K mg base eW 2 f fd me IH:=by
 refine F.o LN fun cdv A outer s H vs Q E hr h=> ?_;obtain⟨z,rfl,hz,q⟩:=h;refine⟨_,fY (gO (dB (u_ rfl) rfl ma M4 (eO (lF qql45 [] [] rfl (Eo aA) (fun _ _ _=>qG (i:=0) O0 rfl (Or.inl rfl)) (fun _ _ _=>gW) (fun _ _ _=>dF G hr (eO aA cz))) cz))),?_⟩;refine⟨z,rfl,fun D hD=> ?_⟩;have hsz:z.cps.size=z.length:=rfl;refine jr z.cps.size (fun i σ H'=>(∃o,σ=[o])/\H'=upd H D (.lst (((z.cps.toList.take i).map fI).map V.bl))) ⟨⟨_,rfl⟩,rfl⟩ ?_ ?_
 · rintro σ H' ⟨_,rfl⟩;refine⟨rfl,D,(z.cps.toList.map fI),rfl,SqL.of ?_,?_⟩
   · rw[aa,cZ (by simp)]
   · have e:(z.cps.toList.map fI).all id=z.cps.toList.all fI:=by rw[List.all_map];rfl
     rw[e];exact q _ (aj hD _)
 · rintro i σ H' hi ⟨⟨o,rfl⟩,rfl⟩;refine⟨hi,?_⟩;rintro x H1 ⟨rfl,c,hc,rfl⟩;refine⟨c,rfl,_,aa,?_,⟨_,rfl⟩,?_⟩
   · rw[ao,ao,cf];exact bL (by lia)
   · rw[qr];have hc':z.cps.toList[i]? =some c:=by simpa using hc
     rw[bK,hc',bx,bx]
     rfl
def OT(z:Str):(Txt.slice z (some 1) none).cps.toList=z.cps.toList.drop 1:=by
 rw[jF];have hx:z.cps.toList.length=z.length:=by simp[Str.length]
 have e:HT.sIx z.length 0 (some 1)=min 1 z.length:=HT.sIx_nat z.length 0 1;have e2:HT.sIx z.length z.length none=z.length:=rfl;rw[e,e2];rcases zw z.length with h | h
 · have:z.cps.toList=[]:=DF (by lia);rw[this];simp
 · have:min 1 z.length=1:=by lia
   rw[this,cZ (by rw[eY];lia)]
def GP:bj me me (aJ zR):=gy
def EE(F:Fun K "is_thing" "is_thing" zR f fd)(G:Cl P w K mg base 2 "all_small" me IH)(ml:mg "len"=none)(mM:mg "MOST_SIGNS"=some (.int 12 tk)):bW P w K mg base eW 3 f fd me Be:=by
 refine F.o GP fun cdv A outer s H vs Q E hr h=> ?_;obtain⟨z,rfl,hz,q⟩:=h;refine⟨_,fY (gO (gA (sv IM IM av (dB xg rfl ml ua (eO aA cz)) (qH (v:= .int 12) rfl mM ⟨_,rfl⟩)) (gA (sv lH lH aS (jg wW aA av (fun _ _=>rfl)) aS) (iT (dF G hr (eO (d_ kG aA (eN av) fu) cz)))))),?_⟩;have hzl:z.length<=sizeLine:=fX (bL hz);have hx:z.cps.toList.length=z.length:=by simp[Str.length]
 refine⟨z,rfl,hzl,_,rfl,?_⟩;have e1:decide ((1:Int)<=(z.length:Int))=decide (1<=z.length):=by rw[Dr];lia
 have e2:decide ((z.length:Int)<=12)=decide (z.length<=12):=by rw[Dr];lia
 have no:t_ z=false->gb z=false:=fun e=>by unfold gb;rw[e,uf]
 have sH:=q H (Same.refl H);refine fS (fun h1=> ?_) (fun h1=> ?_)
 · refine ?_;refine fS (fun h2=> ?_) (fun h2=> ?_)
   · have hf:t_ z=true:=by unfold t_;rw[<-e1,<-e2,h1,h2];rfl
     have h1':1<=z.length:=by have:=cK h1;lia
     obtain⟨c,r,ecr⟩:∃c r,z.cps.toList=c::r:=by
      cases e:z.cps.toList with
      | nil=>rw[e] at hx;simp at hx;lia
      | cons c r=>exact⟨c,r,rfl⟩
     have et:gb z=(nY c&&r.all fI):=by unfold gb;rw[hf,ecr];rfl
     refine⟨z,0,c,rfl,rfl,hzl,?_,_,_,rfl,rfl,_,rfl,?_⟩
     · exact aU (j:=0) (by rw[ecr];rfl)
     have a1:(!decide (([c]:List Nat)<[65]))=decide (65<=c):=wQ 65 c;have a2:(!decide (([90]:List Nat)<[c]))=decide (c<=90):=wQ c 90;show if(!decide (([c]:List Nat)<[65]))=true then _ else _
     rw[a1];refine fS (fun h3=> ?_) (fun h3=> ?_)
     · have h3':65<=c:=cK h3;refine⟨_,_,rfl,rfl,?_⟩;show if(!decide (([90]:List Nat)<[c]))=true then _ else _
       rw[a2];refine fS (fun h4=> ?_) (fun h4=> ?_)
       · have h4':c<=90:=cK h4;have hb:nY c=true:=by unfold nY;exact aG ⟨h3',h4'⟩
         have hl:(Txt.slice z (some 1) none).length<=1000:=au (Mz z _ _) hz;refine⟨_,rfl,z,rfl,hzl,_,rfl,hl,fun H' sm=> ?_⟩;have e5:(Txt.slice z (some 1) none).cps.toList.all fI=gb z:=by rw[OT,ecr,et,hb];rfl
         rw[e5];exact q H' sm
       · have h4':¬ c<=90:=fun k=>h4 (aG k);have hb:nY c=false:=by unfold nY;exact aq fun k=>h4' k.2
         have e5:gb z=false:=by rw[et,hb];rfl
         rw[<-e5];exact sH
     · have h3':¬ 65<=c:=fun k=>h3 (aG k);have hb:nY c=false:=by unfold nY;exact aq fun k=>h3' k.1
       have e5:gb z=false:=by rw[et,hb];rfl
       show Q (.bl false) H;rw[<-e5];exact sH
   · have hf:t_ z=false:=by
      unfold t_;have h2':decide (z.length<=12)=false:=by rw[<-e2];exact AR.mpr h2
      rw[h2',ug]
     rw[<-no hf];exact sH
 · have hf:t_ z=false:=by
    unfold t_;have h1':decide (1<=z.length)=false:=by rw[<-e1];exact AR.mpr h1
    rw[h1',uf]
   show Q (.bl false) H;rw[<-no hf];exact sH
end
noncomputable def gU:Kd->Bool
 | .nm t=>gb t
 | _=>false
def Fh:Kd->Prop
 | .nm t=>t.length<=1000
 | _=>True
inductive rq(vs:List V)(H:Hp)(Q:VK):Prop
 | mk:∀v k,(vs=[v])->(IsK H k v)->(Fh k)->(∀H',Same H H'->Q (.bl (gU k)) H')->rq vs H Q
def xO:Sp:=fun vs H Q _=>rq vs H Q
noncomputable def Sy.things:Sy->List Str
 | .thing x _=>[x]
 | .tied x _ y=>[x,y]
 | _=>[]
noncomputable def dM(ps:List (Int × Sy)):List Str:=(ps.map fun q=>q.2.things).flatten
noncomputable def Sy.sorts:Sy->List Str
 | .every _ _=>BK | .no _ _=>BK | .thing _ _=>["thing","kind"] | .tied _ _ _=>["thing","tie","thing"] | .within _ _=>["tie","tie"] | .makes _ _ _=>["tie","tie","tie"]
noncomputable def Sy.sg(s:Sy):Sg:=⟨Lb s.hd,s.sorts.zip s.parts⟩
def jG(s:Sy):s.sg.ps.map (·.2)=s.parts:=by cases s<;>rfl
def II(h:IsSy H s v):OD H s.sg v:=by
 obtain⟨p,xs,e,h1,h2⟩:=h;exact⟨p,xs,e,h1,by rw[jG];exact h2⟩
def Sy.okS(s:Sy):Prop:=(∀k∈s.parts,k.sz<=60)/\s.lo 25
def LI{s:Sy}(h:s.okS):s.sg.Ok:=by
 have h1:=h.1;refine⟨by cases s<;>simp[Sy.sg,Sy.sorts,Sy.parts,Sy.hd,Lb,jZ],fun p hp=> ?_⟩;cases s<;>simp only[Sy.sg,Sy.sorts,Sy.parts,zx,Pe,aE,ai,cF] at hp h1
 · rcases hp with rfl | rfl
   · exact .inl ⟨rfl,h1 _ (.inl rfl)⟩
   · exact .inl ⟨rfl,h1 _ (.inr rfl)⟩
 · rcases hp with rfl | rfl
   · exact .inl ⟨rfl,h1 _ (.inl rfl)⟩
   · exact .inl ⟨rfl,h1 _ (.inr rfl)⟩
 · rcases hp with rfl | rfl
   · exact .inr ⟨.inr rfl,_,rfl⟩
   · exact .inl ⟨rfl,h1 _ (.inr rfl)⟩
 · rcases hp with rfl | rfl | rfl
   · exact .inr ⟨.inr rfl,_,rfl⟩
   · exact .inr ⟨.inl rfl,_,rfl⟩
   · exact .inr ⟨.inr rfl,_,rfl⟩
 · rcases hp with rfl | rfl
   · exact .inr ⟨.inl rfl,_,rfl⟩
   · exact .inr ⟨.inl rfl,_,rfl⟩
 · rcases hp with rfl | rfl | rfl
   · exact .inr ⟨.inl rfl,_,rfl⟩
   · exact .inr ⟨.inl rfl,_,rfl⟩
   · exact .inr ⟨.inl rfl,_,rfl⟩
def E7(A:List Str)(x y:Str):y∈n_ A x↔y∈A\/y=x:=by
 unfold n_
 split
 · constructor
   · exact .inl
   · rintro(h | rfl)
     · exact h
     · assumption
 · simp
theorem jV:∀xs A y,y∈cW A xs↔y∈A\/y∈xs
 | [],A,y=>by simp[cW]
 | x::xs,A,y=>by
   show y∈cW (n_ A x) xs↔_;rw[jV xs (n_ A x) y,E7,aE];constructor
   · rintro((h | h) | h)
     · exact .inl h
     · exact .inr (.inl h)
     · exact .inr (.inr h)
   · rintro(h | h | h)
     · exact .inl (.inl h)
     · exact .inl (.inr h)
     · exact .inr h
def sR:¬ (Str.ofString "kind":Str)=Str.ofString "thing":=by decide+kernel
def um:¬ (Str.ofString "tie":Str)=Str.ofString "thing":=by decide+kernel
def Ey(s:Sy)(y:Str):y∈j8 s.sg↔y∈s.things:=by
 unfold j8;rw[jV];cases s<;>simp[Sy.sg,Sy.sorts,Sy.parts,pG,Sy.things,sR,um]
def Ez(s:Sy):(j8 s.sg).length<=3:=by
 have:=eU ((s.sg.ps.map pG).flatten) [];have h2:((s.sg.ps.map pG).flatten).length<=3:=by
  cases s<;>simp[Sy.sg,Sy.sorts,Sy.parts,pG,sR,um]
 unfold j8;simp only[cJ] at this
 lia
def Ep(hK:X.K=K')(hl:PE X l tl):PI X tg l (mj K' tl):=by subst hK;exact bS hl
noncomputable def Ls(ps:List (Int × Sy)):List Str:=ps.foldl (fun A q=>cW A (j8 q.2.sg)) []
inductive pB(vs:List V)(H:Hp)(Q:VK):Prop
 | mk:∀lp ys ps,(vs=[.ref lp])->(H lp=some (.lst ys))->(PrL H ys ps)->((∀q∈ps,q.2.okS))->(ps.length<=100)->(∀d A H',Same H H'->H' d=some (.dK (Dn A))->(A=Ls ps/\∀x,x∈A↔x∈dM ps)->A.length<=3 * ps.length->Q (.ref d) H')->pB vs H Q
def ur:Sp:=fun vs H Q _=>pB vs H Q
def IS:((([("number":Str),("saying":Str),("thing":Str)]:List Str)++[]):List Str).Nodup:=by decide+kernel
def mE{ps:List (Int × Sy)}(h:ps[i]? =some q):dM (ps.take (i+1))=dM (ps.take i)++q.2.things:=by
 unfold dM;rw[bK,h,bx,OB];simp
section
def Ea:bj ["x"] ["x"] (aJ vS):=gy
def CT(F:Fun K "stands_for_thing" "stands_for_thing" vS f fd)(mi:mg "isinstance"=none)(ms:mg "str"=none)(Git:Cl P w K mg base 3 "is_thing" me Be):bW P w K mg base eW 4 f fd ["x"] xO:=by
 refine F.o Ea fun cdv A outer s H vs Q E hr h=> ?_;obtain⟨v,k,rfl,hk,hl,q⟩:=h;refine⟨_,aV (cI (gA (xy mi ms cv aA) (iT (dF Git hr (eP aA))))),?_⟩;cases k with
 | nm x=>
   obtain rfl:v= .str x:=hk;exact⟨_,_,_,true,rfl,TyOf.str x,eh K,⟨x,rfl,hl,q⟩⟩
 | two a b=>
   obtain⟨p,x,y,rfl,hp,_,_⟩:=hk;exact⟨_,_,_,false,rfl,TyOf.tup hp,du K,(q H (Same.refl H))⟩
 | som r c=>
   obtain⟨p,y,rfl,hp,_⟩:=hk;exact⟨_,_,_,false,rfl,TyOf.tup hp,du K,(q H (Same.refl H))⟩
def CF:bj ["pairs"] ["pairs"] (aJ rR):=gy
def Ai(F:Fun K "things_named" "things_named" rR f fd)(Gnd:Cl P w K mg base 62 "named" ["saying"] Bk):bW P w K mg base eW 63 f fd ["pairs"] ur:=by
 refine F.o CF fun cdv A outer s H vs Q E hr h=> ?_;obtain⟨lp,ys,ps,rfl,hl,hps,hok,hz,q⟩:=h;refine⟨_,aV (cI (CN ["number","saying","thing"] [] [] rfl (bS aA) (fun _ _ _=>He (K':=K) (i:=0) (j:=1) rfl rfl IS rfl rfl rfl rfl) (fun _ _ _=>gW) (fun _ _ _=>Ep (K':=K) rfl (j7 (r:=CI K) gD (dF Gnd hr (eP bf)) av)) (fun _ _ _=>e_ 2 IS) (fun _ _ _=>gW) (fun _ _ _=>bH) (fun _ _ _=>dq))),?_⟩;have lL:ys.length=ps.length:=aX hps;refine⟨⟨_,SqL.of hl⟩,fun D hD=> ?_⟩;refine IT ys.length (fun i σ H'=>(∃o0 o1 o2,σ=[o0,o1,o2])/\Same H H'/\∃A,H' D=some (.dK (Dn A))/\(A=Ls (ps.take i)/\∀x,x∈A↔x∈dM (ps.take i))/\A.length<=3 * i) ⟨⟨_,_,_,rfl⟩,aj hD _,[],aa,⟨rfl,by simp[dM]⟩,by simp⟩ ?_ ?_
 · rintro σ H' ⟨_,sm,A,eA,hA,lA⟩;rw[lL,bp] at hA;exact⟨⟨_,SqL.of (sm _ _ hl),ar _⟩,q D A H' sm eA hA (by rw[lL] at lA;exact lA)⟩
 · rintro i σ H' hi ⟨⟨o0,o1,o2,rfl⟩,sm,A',eA,hA,lA⟩;have ho:=sm _ _ hl;refine⟨⟨_,ys[i],SqL.of ho,by simp[hi]⟩,?_⟩;rintro y H1 ⟨rfl,hy⟩;have hyi:=hy _ (SqL.of ho);obtain⟨pq,hpq,t,vs,rfl,ht,hsy⟩:=bT hps hyi;have okq:=hok pq (ak hpq);refine⟨_,SqT.of (sm _ _ ht),rfl,?_⟩;refine⟨vs,pq.2.sg,rfl,II (hsy.mono sm.tups),LI okq,fun qq a b c H2 s2 hq ha hb hc nq na nb nc nab nac nbc=> ?_⟩;refine⟨_,_,SqT.of hq,aU (j:=2) rfl,⟨_,SqL.of hc⟩,?_⟩;have cD:c≠D:=fun z=>by rw[z,eA] at nc;cases nc
   have lG:=Ez pq.2;refine IT ((j8 pq.2.sg).map V.str).length (fun j σ' H'=>(∃o2,σ'=[some (.int pq.1),some vs,o2])/\Same H H'/\H' c=some (.lst ((j8 pq.2.sg).map V.str))/\H' D=some (.dK (Dn (cW A' ((j8 pq.2.sg).take j))))) ⟨⟨_,rfl⟩,sm.trans s2,hc,s2 _ _ eA⟩ ?_ ?_
   · rintro σ' H3 ⟨⟨o2',rfl⟩,sm3,ec,eD⟩;rw[ao,bp] at eD;refine⟨⟨_,SqL.of ec,ar _⟩,⟨_,_,_,rfl⟩,sm3,_,eD,⟨?_,fun x=> ?_⟩,?_⟩
     · rw[hA.1];unfold Ls;rw[bK,hpq,gu];rfl
     · rw[jV,hA.2,Ey,mE hpq,aw]
     · have:=eU (j8 pq.2.sg) A'
       lia
   · rintro j σ' H3 hj ⟨⟨o2',rfl⟩,sm3,ec,eD⟩;have hj':j<(j8 pq.2.sg).length:=by simpa using hj
     refine⟨⟨_,.str (j8 pq.2.sg)[j],SqL.of ec,by simp[hj']⟩,?_⟩;rintro y2 H4 ⟨rfl,hy2⟩;have hy2i:=hy2 _ (SqL.of ec);rw[bb,aN hj'] at hy2i;cases hy2i;have la:=eU ((j8 pq.2.sg).take j) A';have lt:((j8 pq.2.sg).take j).length<=3:=au (N_ _ _) lG;refine⟨Dn (cW A' ((j8 pq.2.sg).take j)),Sum.inr (j8 pq.2.sg)[j],rfl,eD,bL (by rw[pz];lia),⟨_,rfl⟩,d9 sm3 hD,by rw[aB cD];exact ec,?_⟩;rw[aa,pw,bK,aN hj',i_]
     rfl
end
noncomputable def jq(c:Nat):Bool:=decide (97<=c/\c<=122) || decide (65<=c/\c<=90)
noncomputable def fU(z:Str):Bool:=decide (1<=z.length)&&decide (z.length<=12)&&z.cps.toList.all jq
noncomputable def Lf(l:List Nat):Str:=⟨l.toArray⟩
def yM(l:List Nat):(Lf l).cps.toList=l:=by simp[Lf]
def Hy(l:List Nat):(Lf l).length=l.length:=by simp[Lf,Str.length]
def xJ{a:Str}(h:a.cps.toList=b.cps.toList):a=b:=by
 cases a;cases b;simp only[Str.mk.injEq];exact Array.toList_inj.mp h
def Kb(z:Str):Lf z.cps.toList=z:=xJ (yM _)
def Cn(a b:Str):(a++b).cps.toList=a.cps.toList++b.cps.toList:=by rw[lS];simp
def nQ(z:Str):z.length=z.cps.toList.length:=by simp[Str.length]
def Kh:(Str.ofString "(both ").cps.toList=[40,98,111,116,104,32]:=by decide+kernel
def Kg:(Str.ofString "(some ").cps.toList=[40,115,111,109,101,32]:=by decide+kernel
def Fg:(Str.ofString " ").cps.toList=[32]:=by decide+kernel
def Ff:(Str.ofString ")").cps.toList=[41]:=by decide+kernel
def IU:(Str.empty).cps.toList=[]:=by decide+kernel
noncomputable def qo:Kd->List Nat
 | .nm x=>x.cps.toList
 | .two a b=>[40,98,111,116,104,32]++qo a++[32]++qo b++[41]
 | .som r c=>[40,115,111,109,101,32]++r.cps.toList++[32]++qo c++[41]
noncomputable def tR(k:Kd):Str:=Lf (qo k)
def ju:Kd->Prop
 | .nm x=>fU x=true
 | .two a b=>ju a/\ju b
 | .som r c=>fU r=true/\ju c
def eC(h:fU x=true):1<=x.length/\x.length<=12/\x.cps.toList.all jq=true:=by
 unfold fU at h;simp only[bg,cM] at h;exact⟨h.1.1,h.1.2,h.2⟩
def jI(h:fU x=true):1<=x.length/\x.length<=12/\x.cps.toList.all jq=true/\True:=by
 obtain⟨a,b,c⟩:=eC h;exact⟨a,b,c,trivial⟩
theorem vr:∀{k:Kd},ju k->(qo k).length<=12+32 * k.nt
 | .nm x,h=>by
   have:=eC h;rw[nQ] at this;simp only[qo,Kd.nt];lia
 | .two a b,h=>by
   have h1:=vr h.1;have h2:=vr h.2;simp only[qo,Kd.nt,ah,aR,cJ];lia
 | .som r c,h=>by
   have h1:=jI h.1;have h2:=vr h.2;rw[nQ] at h1;simp only[qo,Kd.nt,ah,aR,cJ];lia
def rj:List Nat->Prop
 | []=>True
 | c::_=>jq c=false
theorem gj:∀{x y s t:List Nat},x.all jq=true->y.all jq=true->rj s->rj t->x++s=y++t->x=y/\s=t
 | [],[],s,t,_,_,_,_,e=>⟨rfl,e⟩
 | [],b::y,s,t,_,hy,hs,_,e=>by
   simp only[dy] at e;subst e;simp only[fF,bg] at hy;have:jq b=false:=hs;rw[this] at hy;exact absurd hy.1 (by decide)
 | a::x,[],s,t,hx,_,_,ht,e=>by
   simp only[dy] at e;subst e;simp only[fF,bg] at hx;have:jq a=false:=ht;rw[this] at hx;exact absurd hx.1 (by decide)
 | a::x,b::y,s,t,hx,hy,hs,ht,e=>by
   simp only[bP,bD] at e;simp only[fF,bg] at hx hy;obtain⟨h1,h2⟩:=gj hx.2 hy.2 hs ht e.2;exact⟨by rw[e.1,h1],h2⟩
def qw:rj (32::l):=by show jq 32=false;decide
def qv:rj (41::l):=by show jq 41=false;decide
def nL(h:ju (.nm x)):∃c r,x.cps.toList=c::r/\jq c=true:=by
 obtain⟨h1,_,h3⟩:=eC h;have hl:=nQ x;cases e:x.cps.toList with
 | nil=>rw[e] at hl;simp at hl;lia
 | cons c r=>
   rw[e] at h3;simp only[fF,bg] at h3;exact⟨c,r,rfl,h3.1⟩
def MW:jq 40=false:=by decide
theorem vw:∀{a b:Kd} {s t:List Nat},ju a->ju b->rj s->rj t->qo a++s=qo b++t->a=b/\s=t
 | .nm x,.nm y,s,t,ha,hb,hs,ht,e=>by
   obtain⟨h1,h2⟩:=gj (eC ha).2.2 (eC hb).2.2 hs ht e;exact⟨by rw[xJ h1],h2⟩
 | .nm x,.two b1 b2,s,t,ha,_,_,_,e=>by
   obtain⟨c,r,e1,hc⟩:=nL ha;simp only[qo,e1,bP,bD] at e;rw[e.1,MW] at hc;cases hc
 | .nm x,.som r' c',s,t,ha,_,_,_,e=>by
   obtain⟨c,r,e1,hc⟩:=nL ha;simp only[qo,e1,bP,bD] at e;rw[e.1,MW] at hc;cases hc
 | .two a1 a2,.nm y,s,t,_,hb,_,_,e=>by
   obtain⟨c,r,e1,hc⟩:=nL hb;simp only[qo,e1,bP,bD] at e;rw[<-e.1,MW] at hc;cases hc
 | .som r' c',.nm y,s,t,_,hb,_,_,e=>by
   obtain⟨c,r,e1,hc⟩:=nL hb;simp only[qo,e1,bP,bD] at e;rw[<-e.1,MW] at hc;cases hc
 | .two a1 a2,.som r' c',s,t,_,_,_,_,e=>by
   simp[qo] at e
 | .som r' c',.two a1 a2,s,t,_,_,_,_,e=>by
   simp[qo] at e
 | .two a1 a2,.two b1 b2,s,t,ha,hb,hs,ht,e=>by
   simp only[qo,cA,dX] at e;obtain⟨h1,h2⟩:=vw (a:=a1) (b:=b1) ha.1 hb.1 qw qw e;simp only[bP,dy,bD,f_] at h2;obtain⟨h3,h4⟩:=vw (a:=a2) (b:=b2) ha.2 hb.2 qv qv h2;simp only[bD,f_] at h4;exact⟨by rw[h1,h3],h4⟩
 | .som r c,.som r' c',s,t,ha,hb,hs,ht,e=>by
   simp only[qo,cA,dX] at e;obtain⟨h1,h2⟩:=gj (jI ha.1).2.2.1 (jI hb.1).2.2.1 qw qw e;simp only[bP,dy,bD,f_] at h2;obtain⟨h3,h4⟩:=vw (a:=c) (b:=c') ha.2 hb.2 qv qv h2;simp only[bD,f_] at h4;exact⟨by rw[xJ h1,h3],h4⟩
def Gx(ha:ju a)(hb:ju b)(e:qo a=qo b):a=b:=(vw (s:=[]) (t:=[]) ha hb True.intro True.intro (by rw[e])).1
def Gv(ha:ju a)(hb:ju b)(e:tR a=tR b):a=b:=Gx ha hb (by rw[<-yM (qo a),<-yM (qo b)];exact congrArg (fun z:Str=>z.cps.toList) e)
inductive xQ(n:Nat)(vs:List V)(H:Hp)(Q:VK):Prop
 | mk:∀v k,(vs=[v])->(IsK H k v)->(ju k)->(k.nt<=24)->(k.dep<n)->(Q (.str (tR k)) H)->xQ n vs H Q
def mw(n:Nat):Sp:=fun vs H Q _=>xQ n vs H Q
def yc(a b:Kd):Str.empty++"(both "++tR a++" "++tR b++")"=tR (.two a b):=by
 apply xJ;simp only[Cn,IU,Kh,Fg,Ff,tR,yM,qo,dy]
def yd(r:Str)(c:Kd):Str.empty++"(some "++r++" "++tR c++")"=tR (.som r c):=by
 apply xJ;simp only[Cn,IU,Kg,Fg,Ff,tR,yM,qo,dy]
def vA(h:ju k):(tR k).length<=12+32 * k.nt:=by
 rw[tR,Hy];exact vr h
section
def Jx:bj ie ie (aJ Bx):=gy
def Ho(F:Fun K "show_kind" "show_kind" Bx f fd)(Gsh:Cl P w K mg base k0 "show_kind" ie (mw n))(mi:mg "isinstance"=none)(ms:mg "str"=none):bW P w K mg base eW (k0+1) f fd ie (mw (n+1)):=by
 refine F.o Jx fun cdv A outer s H vs Q E hr h=> ?_;obtain⟨v,k,rfl,hk,ok,hnt,hd,q⟩:=h;have kGsh:=F.kp;refine⟨_,aZ (bA (cw (dB kX rfl mi j9 (eO aA (eO (wA (v:= .ty "str") rfl ms cv rfl) cz)))) (aV (gO aA)) aQ)
  (aZ (bA (qE bN (jg gD aA av (fun _ _=>rfl)) aS (sF _)) (aV (gO (BW (oQ aS (wz (dF Gsh hr (eO (jg gD aA av (fun _ _=>rfl)) cz)) (oQ aS (wz (dF Gsh hr (eO (jg gD aA av (fun _ _=>rfl)) cz)) (oQ aS Er)))))))) aQ)
  (aV (gO (BW (oQ aS (wz (jg gD aA av (fun _ _=>rfl)) (oQ aS (wz (dF Gsh hr (eO (jg gD aA av (fun _ _=>rfl)) cz)) (oQ aS Er))))))))),?_⟩
 cases k with
 | nm x=>
   obtain rfl:v= .str x:=hk;refine⟨_,_,_,true,rfl,TyOf.str x,eh K,?_⟩;have:tR (.nm x)=x:=Kb x;rw[this] at q;exact q
 | two a b=>
   obtain⟨p,x,y,rfl,hp,ha,hb⟩:=id hk;refine⟨_,_,_,false,rfl,TyOf.tup hp,du K,?_⟩;refine⟨_,_,SqT.of hp,aU (j:=0) rfl,?_⟩;simp only[Kd.nt,Kd.dep] at hnt hd;have la:=vA ok.1;have lb:=vA ok.2;have l1:(Str.ofString "(both ").length=6:=by decide+kernel
   have l2:(Str.ofString " ").length=1:=by decide+kernel
   have l3:(Str.ofString ")").length=1:=by decide+kernel
   have l0:Str.empty.length=0:=by decide+kernel
   refine⟨_,rfl,bC (by lia),bC (by rw[bJ];lia),_,_,SqT.of hp,aU (j:=1) rfl,x,a,rfl,ha,ok.1,by lia,by lia,_,rfl,bC (by lia),bC (by simp only[bJ];lia),_,rfl,bC (by lia),bC (by simp only[bJ];lia),_,_,SqT.of hp,aU (j:=2) rfl,y,b,rfl,hb,ok.2,by lia,by lia,_,rfl,bC (by lia),bC (by simp only[bJ];lia),_,rfl,bC (by lia),bC (by simp only[bJ];lia),bC (by simp only[bJ];lia),?_⟩;rw[yc];exact q
 | som r c=>
   obtain⟨p,y,rfl,hp,hc⟩:=id hk;refine⟨_,_,_,false,rfl,TyOf.tup hp,du K,?_⟩;refine⟨_,_,SqT.of hp,aU (j:=0) rfl,?_⟩;simp only[Kd.nt,Kd.dep] at hnt hd;have la:=jI ok.1;have lb:=vA ok.2;have l1:(Str.ofString "(some ").length=6:=by decide+kernel
   have l2:(Str.ofString " ").length=1:=by decide+kernel
   have l3:(Str.ofString ")").length=1:=by decide+kernel
   have l0:Str.empty.length=0:=by decide+kernel
   refine⟨_,rfl,bC (by lia),bC (by rw[bJ];lia),_,_,SqT.of hp,aU (j:=1) rfl,r,rfl,bC (by lia),bC (by simp only[bJ];lia),_,rfl,bC (by lia),bC (by simp only[bJ];lia),_,_,SqT.of hp,aU (j:=2) rfl,y,c,rfl,hc,ok.2,by lia,by lia,_,rfl,bC (by lia),bC (by simp only[bJ];lia),_,rfl,bC (by lia),bC (by simp only[bJ];lia),bC (by simp only[bJ];lia),?_⟩;rw[yd];exact q
def CB:bW P w K mg base eW 0 f fd ie (mw 0):=by
 have no:∀vs H Q E,¬ mw 0 vs H Q E:=fun vs H Q E h=>by
  obtain⟨v,k,_,_,_,_,h,_⟩:=h
  lia
 exact⟨fun vs H Q E h=>absurd h (no vs H Q E),fun A outer s H args us vs Q E _ _ _ _ h=>absurd h (no vs H Q E)⟩
theorem ye(A:Fq K mg "show_kind" Bx ie)(mi:mg "isinstance"=none)(ms:mg "str"=none):∀n:Nat,Cl P w K mg base n "show_kind" ie (mw n)
 | 0=>A.cl fun _=>CB
 | n+1=>A.cl fun F=>Ho F (ye A mi ms n) mi ms
end
inductive zL(vs:List V)(H:Hp)(Q:VK):Prop
 | mk:∀p key v kvs,(vs=[.ref p,kV key,v])->(H p=some (.dK kvs))->(kvs.length<sizeLine)->(((cS kvs key=none/\∀q,H q=none->∀H',H'=upd (upd H q (.lst [v])) p (.dK (bZ kvs key (.ref q)))->Q .non H')\/∃q xs,cS kvs key=some (.ref q)/\H q=some (.lst xs)/\xs.length<sizeLine/\∀g,H g=none->∀H',H'=upd (upd H g (.lst [])) q (.lst (xs++[v]))->Q .non H'))->zL vs H Q
def GJ:Sp:=fun vs H Q _=>zL vs H Q
noncomputable def yC(i j:Int)(b:Bool):List V:=if b then [.int i,.int j] else [.int j,.int i]
inductive Bi(vs:List V)(H:Hp)(Q:VK):Prop
 | mk:∀i j b,(vs=[.int i,.int j,.bl b])->(∀l,H l=none->Q (.ref l) (upd H l (.lst (yC i j b))))->Bi vs H Q
def IF:Sp:=fun vs H Q _=>Bi vs H Q
inductive nB(vs:List V)(H:Hp)(Q:VK):Prop
 | mk:∀m n:Nat,(vs=[.int (m:Int)])->(m<2^n)->(n<=100000)->(∀l,H l=none->Q (.ref l) (upd H l (.lst ((cH m).map fun(i:Nat)=>V.int (i:Int)))))->nB vs H Q
def oA:Sp:=fun vs H Q _=>nB vs H Q
def Lo(h:p≠q):upd (upd (upd H q a) p d) q b=upd (upd H q b) p d:=by
 funext c
 by_cases h1:c=q
 · subst h1;rw[aa,aB (bG h),aa]
 · by_cases h2:c=p
   · subst h2;rw[aB h1,aa,aa]
   · rw[aB h1,aB h2,aB h1,aB h2,aB h1]
noncomputable def O1(σ:St):Nat:=match σ with
 | some (.int i)::_=>i.toNat
 | _=>0
section
def ND:bj se se (aJ NF):=gy
def L0(F:Fun K "note" "note" NF f fd):bW P w K mg base eW 1 f fd se GJ:=by
 refine F.o ND fun cdv A outer s H vs Q E hr h=> ?_;obtain⟨p,key,v,kvs,rfl,hp,hl,h⟩:=h;refine⟨_,aV (be (yy (yw aA bf (bV cz) ⟨rfl,rfl,rfl,rfl⟩) bH)),?_⟩;refine⟨p,rfl,.inl ⟨kvs,.inl hp⟩,ay _,fun g hg=> ?_⟩;have pg:p≠g:=fun z=>by rw[z,hg] at hp;cases hp
 have hp1:upd H g (.lst []) p=some (.dK kvs):=by rw[aB pg];exact hp
 refine⟨kvs,key,hp1,rfl,hl,fun y hy=> ?_,fun hy=> ?_⟩
 · rcases h with⟨hn,_⟩ | ⟨q,xs,hq,e,l,h⟩
   · rw[hn] at hy;cases hy
   · rw[hq] at hy;cases hy;have qg:q≠g:=fun z=>by rw[z,hg] at e;cases e
     have e1:upd H g (.lst []) q=some (.lst xs):=by rw[aB qg];exact e
     exact⟨.inl ⟨rfl,_,SqL.of e1⟩,xs,e1,l,h g hg _ rfl⟩
 · rcases h with⟨_,h⟩ | ⟨q,xs,hq,_⟩
   · have e1:upd (upd H g (.lst [])) p (.dK (bZ kvs key (.ref g))) g=some (.lst []):=by rw[aB (bG pg),aa]
     exact⟨.inl ⟨rfl,_,SqL.of e1⟩,[],e1,by decide,h g hg _ (Lo pg)⟩
   · rw[hq] at hy;cases hy
def LM:bj ym ym (aJ rW):=gy
def J1(F:Fun K "in_order" "in_order" rW f fd):bW P w K mg base eW 1 f fd ym IF:=by
 refine F.o LM fun cdv A outer s H vs Q E hr h=> ?_;obtain⟨i,j,b,rfl,q⟩:=h;refine⟨_,aV (cI (Eu (cw bH) (bV (fg aA bf)) (bV (fg bf aA)))),?_⟩;cases b with
 | true=>exact(⟨by show 2<=sizeLine;decide,q⟩)
 | false=>exact(⟨by show 2<=sizeLine;decide,q⟩)
def scBits:bj ["mask","found","lowest"] ["mask"] (aJ wb):=gy
def Hw(F:Fun K "bits_of" "bits_of" wb f fd):bW P w K mg base eW 1 f fd ["mask"] oA:=by
 refine F.o scBits fun cdv A outer s H vs Q E hr h=> ?_;obtain⟨m,n,rfl,hm,hn,q⟩:=h;refine⟨_,aZ (fz 1 scBits.nd (bV cz)) (aZ (yt F8 (yr aA (fun _=>rfl)) (aZ (fz 2 scBits.nd (bh mK aA (nK vC aA))) (aZ (be (yy bf (bh jS (Ag PySem.F.plainAttrs_int PySem.F.slot_int_bit_length PySem.F.type_int_bit_length tY bH) av))) (aV (Em (i:=0) scBits.nd rfl (Or.inl rfl) bH Ky))))) (aV (cI bf))),?_⟩;refine⟨ay _,fun l hl=> ?_⟩;dsimp only[ir];show vE _ _ {nx:=_,rt:=_,bk:=_,ct:=_} _ _;refine xF (fun σ H'=>∃(t:Nat) (o2:Option V),t<=n/\σ=[some (.int ((2^t * (m/2^t):Nat):Int)),some (.ref l),o2]/\H'=upd H l (.lst (((List.range t).filter m.testBit).map fun(i:Nat)=>V.int (i:Int)))) (fun σ _=>O1 σ) ⟨0,none,ay _,by rw[Nat.pow_zero,Nat.div_one,Nat.one_mul];rfl,rfl⟩ ?_ (fun σ H Q Q' hm h=>by obtain⟨x,e,k,tk,q⟩:=onV.ex h;exact onV.of e ⟨k,tk,hm _ _ q⟩);rintro σ H' ⟨t,o2,ht,rfl,rfl⟩;refine⟨_,rfl,?_⟩;rcases zw (2^t * (m/2^t)) with z | z
 · rw[z];have hlt:m<2^t:=by
    rcases eV m (2^t) with c | c
    · exact c
    · have hp:0<2^t:=j5 (by decide);have:0<m/2^t:=Nat.div_pos c hp;have:=Nat.mul_pos hp this
      lia
   rw[Dy m t hlt];exact q l hl
 · have nz:(((2^t * (m/2^t):Nat):Int) !=0)=true:=by
    rw[bne_iff_ne];lia
   rw[nz];obtain⟨t',h1,h2,h3,q',e1,e2⟩:=Dz z;obtain⟨b1,b2⟩:=HI e1;have lt':t'<n:=by
    rcases eV t' n with c | c
    · exact c
    · rw[qh (ax hm (uc (by decide) c))] at h2;cases h2
   have ln:(((List.range t).filter m.testBit).map fun(i:Nat)=>V.int (i:Int)).length<sizeLine:=by
    rw[ao];exact bz (au (List.length_filter_le _ _) (by rw[jb];exact au ht hn)) (by decide)
   refine⟨.inl ⟨rfl,_,SqL.of aa⟩,rfl,_,rfl,rfl,_,aa,ln,_,rfl,_,_,rfl,rfl,?_⟩;dsimp only[List.set];rw[b1,b2,yY];refine⟨⟨t'+1,some (.int ((2^t':Nat):Int)),lt',?_,?_⟩,?_⟩
   · rw[e2]
   · rw[qr,Ad h1 h2 h3,bx];rw[show(((t'+1:Nat):Int) - 1)=(t':Int) by lia]
     rfl
   · show((2^(t'+1) * q':Nat):Int).toNat<((2^t * (m/2^t):Nat):Int).toNat;rw[cB,cB,e1];have hp:0<2^t':=j5 (by decide);rw[k_,N7,oe]
     lia
end
inductive Sh where
 | no | both (i j:Nat) | some (r:Str) (j:Nat)
 deriving DecidableEq
def Ip(H:Hp)(v:V):Sh->Prop
 | .no=>v= .non
 | .both i j=>∃p:Addr,v= .ref p/\H p=some (.tup [.str "both",.int (i:Int),.int (j:Int)])
 | .some r j=>∃p:Addr,v= .ref p/\H p=some (.tup [.str "some",.str r,.int (j:Int)])
def pL:Mo Ip:=fun H H' v s t h=>by
 cases s with
 | no=>exact h
 | both i j=>obtain⟨p,e,h⟩:=h;exact⟨p,e,t _ _ h⟩
 | some r j=>obtain⟨p,e,h⟩:=h;exact⟨p,e,t _ _ h⟩
def MO(H:Hp)(v:V)(k:Kd):Prop:=IsK H k v
def sO:Mo MO:=fun _ _ _ _ t h=>IsK.mono t h
structure LoI where
 parts:List Kd
 shapes:List Sh
 known:List Nat
 everys:Nat->List (Nat × Int)
 nos:Nat->List (Nat × Int × Bool)
 withins:Str->List (Str × Int)
 mk1:Str->List (Str × Str × Int)
 mk2:Str->List (Str × Str × Int)
 boths:Nat->List (Nat × Nat × Bool)
 somes:Nat->List (Str × Nat)
 fillers:Str->Option Nat
 wholes:Str->Nat->Option Nat
noncomputable def LoI.ix(L:LoI)(k:Kd):Nat:=L.parts.idxOf k
noncomputable def LoI.add(L:LoI)(k:Kd)(s:Sh):LoI:={L with parts:=L.parts++[k],shapes:=L.shapes++[s]}
noncomputable def LoI.num:Kd->LoI->LoI
 | .nm x,L=>if Kd.nm x∈L.parts then L else L.add (.nm x) .no
 | .two a b,L=>if Kd.two a b∈L.parts then L else(num b (num a L)).add (.two a b) (.both ((num a L).ix a) ((num b (num a L)).ix b))
 | .som r c,L=>if Kd.som r c∈L.parts then L else(num c L).add (.som r c) (.some r ((num c L).ix c))
noncomputable def LoI.pre:Kd->LoI->LoI
 | .nm _,L=>L
 | .two a b,L=>num b (num a L)
 | .som _ c,L=>num c L
noncomputable def LoI.shp:Kd->LoI->Sh
 | .nm _,_=> .no
 | .two a b,L=> .both ((num a L).ix a) ((num b (num a L)).ix b)
 | .som r c,L=> .some r ((num c L).ix c)
def LoI.num_eq(k:Kd)(L:LoI):LoI.num k L=if k∈L.parts then L else(LoI.pre k L).add k (LoI.shp k L):=by
 cases k with
 | nm x=>rw[LoI.num];rfl
 | two a b=>rw[LoI.num];rfl
 | som r c=>rw[LoI.num];rfl
def LoI.num_in(h:k∈L.parts):LoI.num k L=L:=by rw[LoI.num_eq,aI h]
theorem LoI.num_rest:∀k L,(LoI.num k L).known=L.known/\(LoI.num k L).everys=L.everys/\(LoI.num k L).nos=L.nos/\(LoI.num k L).withins=L.withins/\(LoI.num k L).mk1=L.mk1/\(LoI.num k L).mk2=L.mk2/\(LoI.num k L).boths=L.boths/\(LoI.num k L).somes=L.somes/\(LoI.num k L).fillers=L.fillers/\(LoI.num k L).wholes=L.wholes
 | .nm x,L=>by
   rw[LoI.num]
   split<;>exact⟨rfl,rfl,rfl,rfl,rfl,rfl,rfl,rfl,rfl,rfl⟩
 | .two a b,L=>by
   obtain⟨a0,a1,a2,a3,a4,a5,a6,a7,a8,a9⟩:=LoI.num_rest a L;obtain⟨b0,b1,b2,b3,b4,b5,b6,b7,b8,b9⟩:=LoI.num_rest b (LoI.num a L);rw[LoI.num]
   split
   · exact⟨rfl,rfl,rfl,rfl,rfl,rfl,rfl,rfl,rfl,rfl⟩
   · exact⟨b0.trans a0,b1.trans a1,b2.trans a2,b3.trans a3,b4.trans a4,b5.trans a5,b6.trans a6,b7.trans a7,b8.trans a8,b9.trans a9⟩
 | .som r c,L=>by
   have h:=LoI.num_rest c L;rw[LoI.num]
   split
   · exact⟨rfl,rfl,rfl,rfl,rfl,rfl,rfl,rfl,rfl,rfl⟩
   · exact h
theorem LoI.num_mem:∀k L y,y∈(LoI.num k L).parts->y∈L.parts\/y.sz<=k.sz
 | .nm x,L,y,h=>by
   rw[LoI.num] at h
   split at h
   · exact .inl h
   · rcases aw.mp h with h | h
     · exact .inl h
     · rw[ag.mp h];exact .inr (ar _)
 | .two a b,L,y,h=>by
   rw[LoI.num] at h
   split at h
   · exact .inl h
   · rcases aw.mp h with h | h
     · rcases LoI.num_mem b _ y h with h | h
       · rcases LoI.num_mem a _ y h with h | h
         · exact .inl h
         · right;simp only[Kd.sz];lia
       · right;simp only[Kd.sz];lia
     · rw[ag.mp h];exact .inr (ar _)
 | .som r c,L,y,h=>by
   rw[LoI.num] at h
   split at h
   · exact .inl h
   · rcases aw.mp h with h | h
     · rcases LoI.num_mem c _ y h with h | h
       · exact .inl h
       · right;simp only[Kd.sz];lia
     · rw[ag.mp h];exact .inr (ar _)
theorem LoI.num_sub:∀k L,∃l,(LoI.num k L).parts=L.parts++l
 | .nm x,L=>by
   rw[LoI.num]
   split
   · exact⟨[],by simp⟩
   · exact⟨[.nm x],rfl⟩
 | .two a b,L=>by
   obtain⟨l,e⟩:=LoI.num_sub a L;obtain⟨l',e'⟩:=LoI.num_sub b (LoI.num a L);rw[LoI.num]
   split
   · exact⟨[],by simp⟩
   · exact⟨l++l'++[.two a b],by show(LoI.num b (LoI.num a L)).parts++_=_;rw[e',e];simp⟩
 | .som r c,L=>by
   obtain⟨l,e⟩:=LoI.num_sub c L;rw[LoI.num]
   split
   · exact⟨[],by simp⟩
   · exact⟨l++[.som r c],by show(LoI.num c L).parts++_=_;rw[e];simp⟩
def LoI.num_has(k:Kd)(L:LoI):k∈(LoI.num k L).parts:=by
 rw[LoI.num_eq]
 split
 · assumption
 · show k∈_++[k];simp
def LoI.pre_not(h:k∉L.parts):k∉(LoI.pre k L).parts:=fun hm=>by
 cases k with
 | nm x=>exact h hm
 | two a b=>
   rcases LoI.num_mem b _ _ hm with hm | hm
   · rcases LoI.num_mem a _ _ hm with hm | hm
     · exact h hm
     · simp only[Kd.sz] at hm;lia
   · simp only[Kd.sz] at hm;lia
 | som r c=>
   rcases LoI.num_mem c _ _ hm with hm | hm
   · exact h hm
   · simp only[Kd.sz] at hm;lia
def jX{l:List Kd}(h:k∈l):(l++l').idxOf k=l.idxOf k:=by rw[Pq,aI h]
def lI{k:Kd}(h:k∉l):(l++[k]).idxOf k=l.length:=by
 rw[Pq];simp[h]
def E2(H:Hp)(v:V)(e:Nat × Int):Prop:=∃p:Addr,v= .ref p/\H p=some (.tup [.int (e.1:Int),.int e.2])
def E3(H:Hp)(v:V)(e:Nat × Int × Bool):Prop:=∃p:Addr,v= .ref p/\H p=some (.tup [.int (e.1:Int),.int e.2.1,.bl e.2.2])
def M9(H:Hp)(v:V)(e:Str × Int):Prop:=∃p:Addr,v= .ref p/\H p=some (.tup [.str e.1,.int e.2])
def K7(H:Hp)(v:V)(e:Str × Str × Int):Prop:=∃p:Addr,v= .ref p/\H p=some (.tup [.str e.1,.str e.2.1,.int e.2.2])
def EB(H:Hp)(v:V)(e:Nat × Nat × Bool):Prop:=∃p:Addr,v= .ref p/\H p=some (.tup [.int (e.1:Int),.int (e.2.1:Int),.bl e.2.2])
def M8(H:Hp)(v:V)(e:Str × Nat):Prop:=∃p:Addr,v= .ref p/\H p=some (.tup [.str e.1,.int (e.2:Int)])
def e2_mo:Mo E2:=fun _ _ _ _ t ⟨p,e,h⟩=>⟨p,e,t _ _ h⟩
def e3_mo:Mo E3:=fun _ _ _ _ t ⟨p,e,h⟩=>⟨p,e,t _ _ h⟩
def es2_mo:Mo M9:=fun _ _ _ _ t ⟨p,e,h⟩=>⟨p,e,t _ _ h⟩
def es3_mo:Mo K7:=fun _ _ _ _ t ⟨p,e,h⟩=>⟨p,e,t _ _ h⟩
def eb_mo:Mo EB:=fun _ _ _ _ t ⟨p,e,h⟩=>⟨p,e,t _ _ h⟩
def esm_mo:Mo M8:=fun _ _ _ _ t ⟨p,e,h⟩=>⟨p,e,t _ _ h⟩
noncomputable def kN{α:Type}(f:Nat->List α):Key->List α
 | .inl i=>if 0<=i then f i.toNat else []
 | .inr _=>[]
noncomputable def kS{α:Type}(f:Str->List α):Key->List α
 | .inl _=>[]
 | .inr r=>f r
noncomputable def pZ{κ α:Type}[DecidableEq κ](f:κ->List α)(n:κ)(x:α):κ->List α:=fun i=>f i++if i=n then [x] else []
def B5(f:Nat->List α)(n:Nat)(x:α):(fun j:Key=>kN f j++if j= .inl (n:Int) then [x] else [])=kN (pZ f n x):=by
 funext j
 cases j with
 | inl i=>
   show(if 0<=i then f i.toNat else [])++_=if 0<=i then f i.toNat++_ else []
   by_cases h:0<=i
   · rw[aI h,aI h]
     congr 1
     by_cases e:i=(n:Int)
     · rw[aI (by rw[e]),aI (by lia)]
     · rw[aD (fun z=>e (by injection z)),aD (by lia)]
   · rw[aD h,aD h,aD (fun z=>by injection z with z;lia)];rfl
 | inr r=>rw[aD (by intro z;cases z)];rfl
def FA(f:Str->List α)(n:Str)(x:α):(fun j:Key=>kS f j++if j= .inr n then [x] else [])=kS (pZ f n x):=by
 funext j
 cases j with
 | inl i=>rw[aD (by intro z;cases z)];rfl
 | inr r=>
   show f r++_=f r++_
   congr 1
   by_cases e:r=n
   · rw[aI (by rw[e]),aI e]
   · rw[aD (fun z=>e (by injection z)),aD e]
noncomputable def Lg(l:List Nat):Key->Option V
 | .inl i=>if 0<=i/\i.toNat∈l then some (.bl true) else none
 | .inr _=>none
noncomputable def Mp(f:Str->Option Nat):Key->Option V
 | .inl _=>none
 | .inr r=>(f r).map fun(m:Nat)=>V.int (m:Int)
noncomputable def Ln(f:Str->Nat->Option Nat):List Key->Option V
 | [.inr r,.inl i]=>if 0<=i then(f r i.toNat).map fun(m:Nat)=>V.int (m:Int) else none
 | _=>none
structure LoA where
 ex:List (Str × V)
 (dx p0 p1 p2 p3 p4 p5 p6 p7 p8 p9 p10 p11 p12:Addr)
noncomputable def mV(A:LoA):List (Str × V):=([("parts",.ref A.p0),("shapes",.ref A.p1),("numbers",.ref A.p2),("known",.ref A.p3),("everys",.ref A.p4),("nos",.ref A.p5),("withins",.ref A.p6),("makes_first",.ref A.p7),("makes_second",.ref A.p8),("boths",.ref A.p9),("somes",.ref A.p10),("fillers",.ref A.p11),("wholes",.ref A.p12)]:List (Str × V))++A.ex
noncomputable def Lh:List (Str × V):=[("anything",.int 0)]
noncomputable def Gp:List (Str × V):=[("anything",.int 0),("nothing",.int 1)]
def FNum(H:Hp)(T:Tg)(p:Addr)(ps:List Kd):Prop:=T p=some (2,none)/\∃kvs,H p=some (.dK kvs)/\(∀k,ju k->cS kvs (.inr (tR k))=if k∈ps then some (.int (ps.idxOf k:Nat)) else none)/\kvs.length<=ps.length
def FNum.fr(f:Fr S T T' H H')(hi:2∉S)(h:FNum H T p ps):FNum H' T' p ps:=by
 obtain⟨t,kvs,e,r⟩:=h;exact⟨f.tg _ _ t,kvs,f.at hi t e,r⟩
structure LoreAt(C:Addr)(A:LoA)(a:Addr)(N:Nat)(T:Tg)(H:Hp)(L:LoI):Prop where
 tg:TgOk T H
 oT:T a=none
 ob:H a=some (.ins C A.dx (mV A))
 f0:FLs MO H T 0 A.p0 L.parts
 f1:FLs Ip H T 1 A.p1 L.shapes
 f2:FNum H T A.p2 L.parts
 f3:FK H T 3 A.p3 (Lg L.known) N
 f4:FTb E2 H T 4 A.p4 (kN L.everys) N
 f5:FTb E3 H T 5 A.p5 (kN L.nos) N
 f6:FTb M9 H T 6 A.p6 (kS L.withins) N
 f7:FTb K7 H T 7 A.p7 (kS L.mk1) N
 f8:FTb K7 H T 8 A.p8 (kS L.mk2) N
 f9:FTb EB H T 9 A.p9 (kN L.boths) N
 f10:FTb M8 H T 10 A.p10 (kN L.somes) N
 f11:FK H T 11 A.p11 (Mp L.fillers) N
 f12:FT H T 12 A.p12 (Ln L.wholes) N
 gd:∀k∈L.parts,ju k
 le:L.parts.length<=N
 sl:L.shapes.length=L.parts.length
 xo:A.ex=[]\/A.ex=Lh\/A.ex=Gp
structure xu(K:Frag)(C:Addr):Prop where
 c:Cls K C
 n0:NoAttr K C "parts"
 n1:NoAttr K C "shapes"
 n2:NoAttr K C "numbers"
 n3:NoAttr K C "known"
 n4:NoAttr K C "everys"
 n5:NoAttr K C "nos"
 n6:NoAttr K C "withins"
 n7:NoAttr K C "makes_first"
 n8:NoAttr K C "makes_second"
 n9:NoAttr K C "boths"
 n10:NoAttr K C "somes"
 n11:NoAttr K C "fillers"
 n12:NoAttr K C "wholes"
 n13:NoAttr K C "anything"
 n14:NoAttr K C "nothing"
section
variable (A:LoA)
theorem Mf:(mV A).lookup ("parts":Str)=some (V.ref A.p0):=rfl
theorem lk1:(mV A).lookup ("shapes":Str)=some (V.ref A.p1):=rfl
theorem lk2:(mV A).lookup ("numbers":Str)=some (V.ref A.p2):=rfl
theorem Ov:(mV A).lookup ("known":Str)=some (V.ref A.p3):=rfl
theorem Ou:(mV A).lookup ("everys":Str)=some (V.ref A.p4):=rfl
theorem NV:(mV A).lookup ("nos":Str)=some (V.ref A.p5):=rfl
theorem Ot:(mV A).lookup ("withins":Str)=some (V.ref A.p6):=rfl
theorem Os:(mV A).lookup ("makes_first":Str)=some (V.ref A.p7):=rfl
theorem Oq:(mV A).lookup ("makes_second":Str)=some (V.ref A.p8):=rfl
theorem NU:(mV A).lookup ("boths":Str)=some (V.ref A.p9):=rfl
theorem Me:(mV A).lookup ("somes":Str)=some (V.ref A.p10):=rfl
theorem Kf:(mV A).lookup ("fillers":Str)=some (V.ref A.p11):=rfl
theorem Md:(mV A).lookup ("wholes":Str)=some (V.ref A.p12):=rfl
end
section
variable {C:Addr}{A:LoA}{a:Addr}{N:Nat}{T:Tg}{H:Hp}{L:LoI}(h:LoreAt C A a N T H L)
include h in
theorem LoreAt.lkNo:(mV A).lookup ("number_of":Str)=none:=by
 obtain⟨ex,dx,p0,p1,p2,p3,p4,p5,p6,p7,p8,p9,p10,p11,p12⟩:=A;rcases h.xo with e | e | e<;>(cases e;rfl)
include h in
theorem LoreAt.lkSh:(mV A).lookup ("shape_of":Str)=none:=by
 obtain⟨ex,dx,p0,p1,p2,p3,p4,p5,p6,p7,p8,p9,p10,p11,p12⟩:=A;rcases h.xo with e | e | e<;>(cases e;rfl)
include h in
theorem LoreAt.lkKn:(mV A).lookup ("know":Str)=none:=by
 obtain⟨ex,dx,p0,p1,p2,p3,p4,p5,p6,p7,p8,p9,p10,p11,p12⟩:=A;rcases h.xo with e | e | e<;>(cases e;rfl)
include h in
theorem LoreAt.lkLe:(mV A).lookup ("learn":Str)=none:=by
 obtain⟨ex,dx,p0,p1,p2,p3,p4,p5,p6,p7,p8,p9,p10,p11,p12⟩:=A;rcases h.xo with e | e | e<;>(cases e;rfl)
theorem Mc(e:A.ex=Gp):(mV A).lookup ("anything":Str)=some (V.int 0):=by
 obtain⟨ex,dx,p0,p1,p2,p3,p4,p5,p6,p7,p8,p9,p10,p11,p12⟩:=A;cases e;rfl
theorem Fb(e:A.ex=Gp):(mV A).lookup ("nothing":Str)=some (V.int 1):=by
 obtain⟨ex,dx,p0,p1,p2,p3,p4,p5,p6,p7,p8,p9,p10,p11,p12⟩:=A;cases e;rfl
end
inductive vK(C:Addr)(d:Nat)(vs:List V)(H:Hp)(Q:VK):Prop
 | mk:∀a A N T L v k,(vs=[.ref a,v])->(LoreAt C A a N T H L)->(IsK H k v)->(ju k)->(k.nt<=24)->(k.dep<d)->(N+k.sz<=100000)->(∀H' T',Fr [0,1,2] T T' H H'->LoreAt C A a (N+k.sz) T' H' (LoI.num k L)->Q (.int ((LoI.num k L).ix k:Nat)) H')->vK C d vs H Q
def nu(C:Addr)(d:Nat):Sp:=fun vs H Q _=>vK C d vs H Q
inductive Bg(C:Addr)(d:Nat)(vs:List V)(H:Hp)(Q:VK):Prop
 | mk:∀a A N T L v k,(vs=[.ref a,v])->(LoreAt C A a N T H L)->(IsK H k v)->(ju k)->(k.nt<=24)->(k.dep<d)->(N+k.sz<=100000)->(∀H' T' v',Fr [0,1,2] T T' H H'->LoreAt C A a (N+k.sz - 1) T' H' (LoI.pre k L)->Ip H' v' (LoI.shp k L)->Q v' H')->Bg C d vs H Q
def IE(C:Addr)(d:Nat):Sp:=fun vs H Q _=>Bg C d vs H Q
def LoreAt.mono(h:LoreAt C A a N T H L)(hn:N<=N'):LoreAt C A a N' T H L:=by
 have k:∀{i p f},FK H T i p f N->FK H T i p f N':=fun⟨t,kvs,e,r,l⟩=>⟨t,kvs,e,r,au l hn⟩;have b:∀{α:Type} {R:Hp->V->α->Prop} {i p f},FTb R H T i p f N->FTb R H T i p f N':=fun⟨t,kvs,e,l,ll,r⟩=>⟨t,kvs,e,au l hn,fun k=>au (ll k) hn,r⟩;have f:∀{i p f},FT H T i p f N->FT H T i p f N':=fun⟨t,kvs,e,r,l⟩=>⟨t,kvs,e,r,au l hn⟩;exact⟨h.tg,h.oT,h.ob,h.f0,h.f1,h.f2,k h.f3,b h.f4,b h.f5,b h.f6,b h.f7,b h.f8,b h.f9,b h.f10,k h.f11,f h.f12,h.gd,au h.le hn,h.sl,h.xo⟩
def LoreAt.fr(h:LoreAt C A a N T H L)(f:Fr S T T' H H')(hS:∀i∈S,13<=i)(tg:TgOk T' H'):LoreAt C A a N T' H' L:=by
 have n:∀{i},i<13->i∉S:=fun hi z=>by have:=hS _ z;lia
 have oT':T' a=none:=by
  cases e:T' a with
  | none=>rfl
  | some j=>
    rcases f.new a j e with z | z
    · rw[h.oT] at z;cases z
    · rw[h.ob] at z;cases z.1
 exact⟨tg,oT',f.but a _ h.ob (fun i k z=>by rw[h.oT] at z;cases z),h.f0.fr sO f (n (by decide)),h.f1.fr pL f (n (by decide)),h.f2.fr f (n (by decide)),h.f3.fr f (n (by decide)),h.f4.fr e2_mo f (n (by decide)),h.f5.fr e3_mo f (n (by decide)),h.f6.fr es2_mo f (n (by decide)),h.f7.fr es3_mo f (n (by decide)),h.f8.fr es3_mo f (n (by decide)),h.f9.fr eb_mo f (n (by decide)),h.f10.fr esm_mo f (n (by decide)),h.f11.fr f (n (by decide)),h.f12.fr f (n (by decide)),h.gd,h.le,h.sl,h.xo⟩
def LoreAt.same(h:LoreAt C A a N T H L)(s:Same H H'):LoreAt C A a N T H' L:=h.fr (S:=[]) (Fr.of s) (fun i z=>(ai z).elim) (h.tg.same s)
def LoreAt.addp(h:LoreAt C A a N T H L)(ik:IsK H k v)(ok:ju k)(is:Ip H v' s)(hk:k∉L.parts)(e2:H A.p2=some (.dK kvs))(e0:H A.p0=some (.lst ps))(e1:H A.p1=some (.lst ss))(H':Hp)(hH:H'=upd (upd (upd H A.p2 (.dK (bZ kvs (.inr (tR k)) (.int (L.parts.length:Nat))))) A.p0 (.lst (ps++[v]))) A.p1 (.lst (ss++[v']))):Fr [0,1,2] T T H H'/\LoreAt C A a (N+1) T H' (L.add k s):=by
 subst hH;obtain⟨t2,kvs',e2',r2,l2⟩:=h.f2;rw[e2] at e2';cases e2';have g2:Fr [2] T T H (upd H A.p2 (.dK (bZ kvs (.inr (tR k)) (.int (L.parts.length:Nat))))):=Fr.put t2 (by simp) (fun xs z=>by rw[e2] at z;cases z);have d02:A.p0≠A.p2:=fun z=>by rw[z,e2] at e0;cases e0
 have d12:A.p1≠A.p2:=fun z=>by rw[z,e2] at e1;cases e1
 have d10:A.p1≠A.p0:=fun z=>by have a1:=h.f1.1;rw[z,h.f0.1] at a1;cases a1
 obtain⟨f0,g0⟩:=(h.f0.fr sO g2 (by decide)).app (vs:=ps) (v:=v) (x:=k) sO (by rw[aB d02];exact e0) (IsK.mono g2.tups ik);have g20:=(g2.mono (S':=[0,1,2]) (by simp)).trans (g0.mono (S':=[0,1,2]) (by simp));obtain⟨f1,g1⟩:=((h.f1.fr pL g2 (by decide)).fr pL g0 (by decide)).app (vs:=ss) (v:=v') (x:=s) pL (by rw[aB d10,aB d12];exact e1) (pL _ _ _ _ g20.tups is);have g:=g20.trans (g1.mono (S':=[0,1,2]) (by simp));have n:∀{i},3<=i->i∉[0,1,2]:=fun hi z=>by simp at z;lia
 have h':=h.mono (bu N);refine⟨g,⟨((h.tg.put).put).put,h.oT,g.but a _ h.ob (fun i k z=>by rw[h.oT] at z;cases z),f0.fr sO g1 (by decide),f1,?_,h'.f3.fr g (n (by decide)),h'.f4.fr e2_mo g (n (by decide)),h'.f5.fr e3_mo g (n (by decide)),h'.f6.fr es2_mo g (n (by decide)),h'.f7.fr es3_mo g (n (by decide)),h'.f8.fr es3_mo g (n (by decide)),h'.f9.fr eb_mo g (n (by decide)),h'.f10.fr esm_mo g (n (by decide)),h'.f11.fr g (n (by decide)),h'.f12.fr g (n (by decide)),?_,?_,?_,h.xo⟩⟩
 · refine⟨t2,bZ kvs (.inr (tR k)) (.int (L.parts.length:Nat)),?_,fun y oy=> ?_,?_⟩
   · rw[aB (bG d12),aB (bG d02),aa]
   · rw[jA];show _=if y∈L.parts++[k] then some (V.int ((L.parts++[k]).idxOf y:Nat)) else none
     by_cases e:y=k
     · subst e;rw[aI rfl,aI (by simp),lI hk]
     · rw[aD (fun z=>e (Gv oy ok (by injection z))),r2 y oy];by_cases m:y∈L.parts
       · rw[aI m,aI (by simp[m]),jX m]
       · rw[aD m,aD (by simp[m,e])]
   · show _<=(L.parts++[k]).length;rw[ah];exact au (dt _ _ _) (eX l2)
 · intro y hy;rcases aw.mp hy with hy | hy
   · exact h.gd y hy
   · rw[ag.mp hy];exact ok
 · show(L.parts++[k]).length<=N+1;rw[ah];exact eX h.le
 · show(L.shapes++[s]).length=(L.parts++[k]).length;rw[ah,ah,h.sl];rfl
section
def LL:bj fJ fJ (aJ lD):=gy
def JZ(F:Fun K "shape_of" "Lore.shape_of" lD f fd)(lc:xu K C)(mi:mg "isinstance"=none)(ms:mg "str"=none)(Gno:Ml P w K mg base C (2 * d) "number_of" fJ (nu C d)):bW P w K mg base eW (2 * d+1) f fd fJ (IE C (d+1)):=by
 refine F.o LL fun cdv A outer s H vs Q E hr h=> ?_;obtain⟨a,B,N,T,L,v,k,rfl,la,ik,ok,hnt,hd,hN,q⟩:=h;refine⟨_,aZ (bA (cw (xy mi ms cv bf)) (aV (cI fL)) aQ) (aZ (bA (eI bN (dj bf) aS) (aV (cI (cX (gc aS (ij aA lc.c Gno hr (eP (dj bf))) (ij aA lc.c Gno hr (eP (dj bf))))))) aQ) (aV (cI (cX (gc aS (dj bf) (ij aA lc.c Gno hr (eP (dj bf)))))))),?_⟩;cases k with
 | nm x=>
   obtain rfl:v= .str x:=ik;exact⟨_,_,_,true,rfl,TyOf.str x,eh K,(q H T .non Fr.refl (la.mono (by simp[Kd.sz])) rfl)⟩
 | two a' b'=>
   obtain⟨p,x,y,rfl,hp,ha,hb⟩:=id ik;simp only[Kd.nt,Kd.dep] at hnt hd;have hz:(Kd.two a' b').sz=1+a'.sz+b'.sz:=rfl;refine⟨_,_,_,false,rfl,TyOf.tup hp,du K,⟨_,_,SqT.of hp,aU (j:=0) rfl,?_⟩⟩;refine⟨_,_,la.ob,la.lkNo,_,_,SqT.of hp,aU (j:=1) rfl,a,B,N,T,L,x,a',rfl,la,ha,ok.1,by lia,by lia,by lia,fun H1 T1 f1 l1=> ?_⟩;have hp1:=f1.tups _ _ hp;refine⟨_,_,l1.ob,l1.lkNo,_,_,SqT.of hp1,aU (j:=2) rfl,a,B,_,T1,_,y,b',rfl,l1,IsK.mono f1.tups hb,ok.2,by lia,by lia,by lia,fun H2 T2 f2 l2=>⟨by show 3<=sizeLine;decide,fun t ht=>q _ T2 _ ((f1.trans f2).trans (Fr.of (aj ht _))) ((l2.same (aj ht _)).mono (by lia)) ⟨t,rfl,aa⟩⟩⟩
 | som r c=>
   obtain⟨p,y,rfl,hp,hc⟩:=id ik;simp only[Kd.nt,Kd.dep] at hnt hd;have hz:(Kd.som r c).sz=1+c.sz:=rfl;refine⟨_,_,_,false,rfl,TyOf.tup hp,du K,⟨_,_,SqT.of hp,aU (j:=0) rfl,?_⟩⟩;refine⟨_,_,SqT.of hp,aU (j:=1) rfl,_,_,la.ob,la.lkNo,_,_,SqT.of hp,aU (j:=2) rfl,a,B,N,T,L,y,c,rfl,la,hc,ok.2,by lia,by lia,by lia,fun H1 T1 f1 l1=>⟨by show 3<=sizeLine;decide,fun t ht=>q _ T1 _ (f1.trans (Fr.of (aj ht _))) ((l1.same (aj ht _)).mono (by lia)) ⟨t,rfl,aa⟩⟩⟩
def scNum:bj ["self","x","text","shape"] fJ (aJ jQ):=gy
def J2(F:Fun K "number_of" "Lore.number_of" jQ f fd)(lc:xu K C)(ml:mg "len"=none)(Gsh:Ml P w K mg base C (2 * d+1) "shape_of" fJ (IE C (d+1)))(Gsk:Cl P w K mg base (d+1) "show_kind" ie (mw (d+1))):bW P w K mg base eW (2 * (d+1)) f fd fJ (nu C (d+1)):=by
 refine F.o scNum fun cdv A outer s H vs Q E hr h=> ?_;obtain⟨a,B,N,T,L,v,k,rfl,la,ik,ok,hnt,hd,hN,q⟩:=h;have hu:=fh hr;refine⟨_,aZ (fz 2 scNum.nd (dF Gsk hr (eP bf)))
  (aZ (bA (eI (oS hu) bH (dv aA)) (aZ (fz 3 scNum.nd (ij aA lc.c Gsh hr (eP bf))) (aZ (dI hu (dv aA) bH (tW ml (dv aA)) rfl) (aZ (be (yy (dv aA) bf)) (aV (be (yy (dv aA) bU)))))) aQ)
  (aV (cI (Ah hu (dv aA) bH)))),?_⟩
 refine⟨v,k,rfl,ik,ok,hnt,hd,?_⟩;obtain⟨t2,kvs,e2,r2,l2⟩:=la.f2;refine⟨C,_,_,_,la.ob,lc.c,lc.n2,lk2 B,B.p2,_,rfl,DGet.k (k:= .inr (tR k)) e2,?_⟩;rw[r2 k ok];by_cases hk:k∈L.parts
 · rw[aI hk];refine⟨C,_,_,_,la.ob,lc.c,lc.n2,lk2 B,_,.inl ⟨kvs,.inr (tR k),.inl e2,rfl,by rw[r2 k ok,aI hk]⟩,?_⟩;have q0:=q H T Fr.refl;rw[LoI.num_in hk] at q0;exact q0 (la.mono (cY _ _))
 · rw[aD hk];refine⟨_,_,la.ob,la.lkSh,a,B,N,T,L,v,k,rfl,la,ik,ok,hnt,hd,hN,fun H1 T1 v1 f1 l1 is1=> ?_⟩;obtain⟨t0,ps,e0,r0⟩:=l1.f0;obtain⟨t1,ss,e1,r1⟩:=l1.f1;obtain⟨t2',kvs1,e21,r21,l21⟩:=l1.f2;have pl:ps.length=(LoI.pre k L).parts.length:=aX r0;have sl:ss.length=(LoI.pre k L).parts.length:=(aX r1).trans l1.sl;have le1:=l1.le;have hz:1<=k.sz:=by cases k<;>simp only[Kd.sz]<;>lia
   have small:(LoI.pre k L).parts.length<sizeLine:=bz (show _<=100000 by lia) (by decide);have d02:B.p0≠B.p2:=fun z=>by rw[z,e21] at e0;cases e0
   have d12:B.p1≠B.p2:=fun z=>by rw[z,e21] at e1;cases e1
   have d10:B.p1≠B.p0:=fun z=>by rw[z,t0] at t1;cases t1
   obtain⟨g,lN⟩:=l1.addp (IsK.mono f1.tups ik) ok is1 (LoI.pre_not hk) e21 e0 e1 _ rfl;have nd2:∀{o:HO},B.p2≠a:=fun {o} z=>by rw[z,l1.ob] at e21;cases e21
   have nd0:B.p0≠a:=fun z=>by rw[z,l1.ob] at e0;cases e0
   refine⟨C,_,_,_,l1.ob,lc.c,lc.n0,Mf B,B.p0,ps,rfl,.inl (SqL.of e0),C,_,_,_,l1.ob,lc.c,lc.n2,lk2 B,_,DPut.k (k:= .inr (tR k)) e21 (bz l21 small),?_⟩;rw[pl];have ob1:∀{o:HO},upd H1 B.p2 o a=some (.ins C B.dx (mV B)):=fun {o}=>by rw[aB (bG (nd2 (o:=o)))];exact l1.ob
   have e01:∀{o:HO},upd H1 B.p2 o B.p0=some (.lst ps):=fun {o}=>by rw[aB d02];exact e0
   refine⟨C,_,_,_,ob1,lc.c,lc.n0,Mf B,.inl ⟨rfl,_,SqL.of e01⟩,ps,e01,by rw[pl];exact small,?_⟩;have ob2:∀{o o':HO},upd (upd H1 B.p2 o) B.p0 o' a=some (.ins C B.dx (mV B)):=fun {o o'}=>by rw[aB (bG nd0)];exact ob1
   have e11:∀{o o':HO},upd (upd H1 B.p2 o) B.p0 o' B.p1=some (.lst ss):=fun {o o'}=>by rw[aB d10,aB d12];exact e1
   refine⟨C,_,_,_,ob2,lc.c,lc.n1,lk1 B,.inl ⟨rfl,_,SqL.of e11⟩,ss,e11,by rw[sl];exact small,?_⟩;obtain⟨t3,kvs3,e3,r3,l3⟩:=lN.f2;have hin:k∈((LoI.pre k L).add k (LoI.shp k L)).parts:=by show k∈_++[k];simp
   refine⟨C,_,_,_,lN.ob,lc.c,lc.n2,lk2 B,_,.inl ⟨kvs3,.inr (tR k),.inl e3,rfl,by rw[r3 k ok,aI hin]⟩,?_⟩;have q0:=q _ T1 (f1.trans g);rw[LoI.num_eq,aD hk] at q0;exact q0 (lN.mono (by lia))
end
section
def EW:bW P w K mg base eW (2 * 0) f fd fJ (nu C 0):=by
 have no:∀vs H Q E,¬ nu C 0 vs H Q E:=fun vs H Q E h=>by
  obtain⟨a,A,N,T,L,v,k,_,_,_,_,_,h,_⟩:=h
  lia
 exact⟨fun vs H Q E h=>absurd h (no vs H Q E),fun A outer s H args us vs Q E _ _ _ _ h=>absurd h (no vs H Q E)⟩
theorem BZ(A:Mq K C "number_of" "Lore.number_of" jQ fJ)(A':Mq K C "shape_of" "Lore.shape_of" lD fJ)(lc:xu K C)(ml:mg "len"=none)(mi:mg "isinstance"=none)(ms:mg "str"=none)(Gsk:∀n,Cl P w K mg base n "show_kind" ie (mw n)):∀d:Nat,Ml P w K mg base C (2 * d) "number_of" fJ (nu C d)
 | 0=>A.ml fun _=>EW
 | d+1=>A.ml fun F=>J2 F lc ml (A'.ml fun F'=>JZ F' lc mi ms (BZ A A' lc ml mi ms Gsk d)) (Gsk (d+1))
end
def LoI.ok1(L:LoI):Kd->Prop
 | .nm x=>L.shapes[L.ix (.nm x)]? =some .no
 | .two a b=>a∈L.parts/\b∈L.parts/\L.shapes[L.ix (.two a b)]? =some (.both (L.ix a) (L.ix b))
 | .som r c=>c∈L.parts/\L.shapes[L.ix (.som r c)]? =some (.some r (L.ix c))
def Sh.lt(n:Nat):Sh->Prop
 | .no=>True
 | .both i j=>i<n/\j<n
 | .some _ j=>j<n
def Sh.lt_mono{n m:Nat}(h:n<=m){s:Sh}(l:s.lt n):s.lt m:=by
 cases s with
 | no=>trivial
 | both i j=>exact⟨ax l.1 h,ax l.2 h⟩
 | some r j=>exact ax (show j<n from l) h
structure LoI.Ok(L:LoI):Prop where
 sl:L.shapes.length=L.parts.length
 sh:∀k∈L.parts,L.ok1 k
 lt:∀(i:Nat) (s:Sh),L.shapes[i]? =some s->s.lt L.parts.length
 nd:L.parts.Nodup
def LoI.ix_lt{L:LoI}(h:k∈L.parts):L.ix k<L.parts.length:=lg h
def LoI.add_ok{L:LoI}(o:L.Ok)(hk:k∉L.parts)(hs:(L.add k s).ok1 k)(hl:s.lt (L.parts.length+1)):(L.add k s).Ok:=by
 refine⟨by show(L.shapes++[s]).length=(L.parts++[k]).length;rw[ah,ah,o.sl];rfl,fun y hy=> ?_,fun i q e=> ?_,?_⟩
 case refine_2=>
  have pl:(L.add k s).parts.length=L.parts.length+1:=by show(L.parts++[k]).length=_;rw[ah];rfl
  rw[pl];have e':(L.shapes++[s])[i]? =some q:=e;rcases eV i L.shapes.length with c | c
  · rw[b_ c] at e';exact Sh.lt_mono (bu _) (o.lt i q e')
  · rw[cT c] at e';have:q∈[s]:=ak e';rw[ag.mp this];exact hl
 case refine_3=>
  show(L.parts++[k]).Nodup;rw[mY];exact⟨o.nd,by simp,fun x hx y hy=>by rw[show y=k by simpa using hy];exact fun z=>hk (by rw[<-z];exact hx)⟩
 rcases aw.mp hy with h | h
 · have ix:∀{z},z∈L.parts->(L.add k s).ix z=L.ix z:=fun hz=>jX hz;have gt:∀{z},z∈L.parts->∀t,L.shapes[L.ix z]? =some t->(L.add k s).shapes[(L.add k s).ix z]? =some t:=fun hz t e=>by
    rw[ix hz];show(L.shapes++[s])[_]? =_;rw[b_ (by rw[o.sl];exact LoI.ix_lt hz)];exact e
   have old:=o.sh y h;have mem:∀{z},z∈L.parts->z∈(L.add k s).parts:=fun hz=>aM _ hz;cases y with
   | nm x=>exact gt h _ old
   | two a b=>exact⟨mem old.1,mem old.2.1,by rw[ix old.1,ix old.2.1];exact gt h _ old.2.2⟩
   | som r c=>exact⟨mem old.1,by rw[ix old.1];exact gt h _ old.2⟩
 · rw[ag.mp h];exact hs
theorem LoI.num_ok:∀(k:Kd) {L:LoI},L.Ok->(LoI.num k L).Ok
 | .nm x,L,o=>by
   rw[LoI.num]
   split
   · exact o
   · rename_i h;refine LoI.add_ok o h ?_ trivial;show(L.shapes++[Sh.no])[(L.parts++[Kd.nm x]).idxOf (.nm x)]? =_;rw[lI h,<-o.sl];simp
 | .two a b,L,o=>by
   have o2:=LoI.num_ok b (LoI.num_ok a o);rw[LoI.num]
   split
   · exact o
   · rename_i h;have hn:Kd.two a b∉(LoI.num b (LoI.num a L)).parts:=LoI.pre_not (k:= .two a b) h;obtain⟨l,e⟩:=LoI.num_sub b (LoI.num a L);have ha:a∈(LoI.num b (LoI.num a L)).parts:=by rw[e];exact aM _ (LoI.num_has a L)
     have hb:=LoI.num_has b (LoI.num a L);have ia:(LoI.num b (LoI.num a L)).ix a=(LoI.num a L).ix a:=by unfold LoI.ix;rw[e,jX (LoI.num_has a L)]
     refine LoI.add_ok o2 hn ⟨aM _ ha,aM _ hb,?_⟩ ⟨by rw[<-ia];exact dW (LoI.ix_lt ha),dW (LoI.ix_lt hb)⟩;show((LoI.num b (LoI.num a L)).shapes++[_])[((LoI.num b (LoI.num a L)).parts++[Kd.two a b]).idxOf (.two a b)]? =some (.both (((LoI.num b (LoI.num a L)).parts++[_]).idxOf a) (((LoI.num b (LoI.num a L)).parts++[_]).idxOf b));rw[lI hn,jX ha,jX hb,<-o2.sl,<-ia];simp[LoI.ix]
 | .som r c,L,o=>by
   have o2:=LoI.num_ok c o;rw[LoI.num]
   split
   · exact o
   · rename_i h;have hn:Kd.som r c∉(LoI.num c L).parts:=LoI.pre_not (k:= .som r c) h;have hc:=LoI.num_has c L;refine LoI.add_ok o2 hn ⟨aM _ hc,?_⟩ (dW (LoI.ix_lt hc));show((LoI.num c L).shapes++[_])[((LoI.num c L).parts++[Kd.som r c]).idxOf (.som r c)]? =some (.some r (((LoI.num c L).parts++[_]).idxOf c));rw[lI hn,jX hc,<-o2.sl];simp[LoI.ix]
noncomputable def vP{κ α:Type}[DecidableEq κ](f:κ->Option α)(n:κ)(x:α):κ->Option α:=fun i=>if i=n then some x else f i
noncomputable def vO(f:Str->Nat->Option Nat)(r:Str)(n x:Nat):Str->Nat->Option Nat:=fun s i=>if s=r/\i=n then some x else f s i
noncomputable def LoI.kn(L:LoI)(i:Nat):LoI:={L with known:=L.known++[i]}
noncomputable def LoI.bo(L:LoI)(i j k:Nat):LoI:={L with boths:=pZ (pZ L.boths i (j,k,true)) j (i,k,false)}
noncomputable def LoI.so(L:LoI)(r:Str)(j k:Nat):LoI:={L with somes:=pZ L.somes j (r,k),fillers:=vP L.fillers r ((L.fillers r).getD 0 ||| 2^j),wholes:=vO L.wholes r j k}
noncomputable def LoI.know:Kd->LoI->LoI
 | .nm x,L=>if L.ix (.nm x)∈L.known then L else L.kn (L.ix (.nm x))
 | .two a b,L=>if L.ix (.two a b)∈L.known then L else know b ((know a (L.kn (L.ix (.two a b)))).bo (L.ix a) (L.ix b) (L.ix (.two a b)))
 | .som r c,L=>if L.ix (.som r c)∈L.known then L else know c ((L.kn (L.ix (.som r c))).so r (L.ix c) (L.ix (.som r c)))
theorem LoI.know_rest:∀k L,(LoI.know k L).parts=L.parts/\(LoI.know k L).shapes=L.shapes
 | .nm x,L=>by rw[LoI.know];split<;>exact⟨rfl,rfl⟩
 | .two a b,L=>by
   rw[LoI.know]
   split
   · exact⟨rfl,rfl⟩
   · obtain⟨h1,h2⟩:=LoI.know_rest b ((LoI.know a (L.kn (L.ix (.two a b)))).bo (L.ix a) (L.ix b) (L.ix (.two a b)));obtain⟨h3,h4⟩:=LoI.know_rest a (L.kn (L.ix (.two a b)));exact⟨h1.trans h3,h2.trans h4⟩
 | .som r c,L=>by
   rw[LoI.know]
   split
   · exact⟨rfl,rfl⟩
   · exact LoI.know_rest c _
def LoI.Ok.of{L L':LoI}(o:L.Ok)(h1:L'.parts=L.parts)(h2:L'.shapes=L.shapes):L'.Ok:=by
 have ix:∀z,L'.ix z=L.ix z:=fun z=>by unfold LoI.ix;rw[h1]
 refine⟨by rw[h1,h2];exact o.sl,fun k hk=> ?_,fun i s e=>by rw[h1];exact o.lt i s (by rw[<-h2];exact e),by rw[h1];exact o.nd⟩;rw[h1] at hk;have old:=o.sh k hk;cases k with
 | nm x=>show L'.shapes[_]? =_;rw[h2,ix];exact old
 | two a b=>exact⟨h1 ▸ old.1,h1 ▸ old.2.1,by rw[h2,ix,ix,ix];exact old.2.2⟩
 | som r c=>exact⟨h1 ▸ old.1,by rw[h2,ix,ix];exact old.2⟩
def gX{α:Type}{R:Hp->V->α->Prop}(m:Mo R){H:Hp}{T:Tg}{i:Nat}{p:Addr}{g:Key->List α}{n:Nat}{key:Key}{v:V}{x:α}{Q:VK}(tg:TgOk T H)(h:FTb R H T i p g n)(hn:n<=5000000)(r:R H v x)(q:∀H' T',Fr [i] T T' H H'->TgOk T' H'->FTb R H' T' i p (fun j=>g j++if j=key then [x] else []) (n+1)->Q .non H'):zL [.ref p,kV key,v] H Q:=by
 obtain⟨t,kvs,e,l,ll,rs⟩:=id h;refine⟨p,key,v,kvs,rfl,e,bz (au l hn) (by decide),?_⟩;rcases rs key with⟨z,_⟩ | ⟨q0,vs,z1,z2,z3,z4⟩
 · refine .inl ⟨z,fun q0 hq H' hH=> ?_⟩;obtain⟨n1,n2,n3⟩:=FTb.new m tg h e z hq r H' hH;exact q H' _ n2 n3 n1
 · refine .inr ⟨q0,vs,z1,z3,by rw[aX z4];exact bz (au (ll key) hn) (by decide),fun g0 hg H' hH=> ?_⟩;subst hH;have s:=aj hg (.lst []);have h1:=h.fr m (Fr.of (S:=[]) s) (ai);obtain⟨n1,n2⟩:=FTb.app m h1 (s _ _ e) z1 (s _ _ z3) (m _ _ _ _ s.tups r);exact q _ T ((Fr.of s).trans n2) ((tg.same s).put) n1
def LoreAt.renew{C:Addr}{A:LoA}{a:Addr}{N N':Nat}{S:List Nat}{T T':Tg}{H H':Hp}{L L':LoI}(h:LoreAt C A a N T H L)(hN:N<=N')(f:Fr S T T' H H')(tg:TgOk T' H')(hp:L'.parts=L.parts)(hs:L'.shapes=L.shapes)(n2:∀i∈S,3<=i)(c3:FK H' T' 3 A.p3 (Lg L'.known) N'\/(3∉S/\L'.known=L.known):=by exact .inr ⟨by decide,rfl⟩)(c4:FTb E2 H' T' 4 A.p4 (kN L'.everys) N'\/(4∉S/\L'.everys=L.everys):=by exact .inr ⟨by decide,rfl⟩)(c5:FTb E3 H' T' 5 A.p5 (kN L'.nos) N'\/(5∉S/\L'.nos=L.nos):=by exact .inr ⟨by decide,rfl⟩)(c6:FTb M9 H' T' 6 A.p6 (kS L'.withins) N'\/(6∉S/\L'.withins=L.withins):=by exact .inr ⟨by decide,rfl⟩)(c7:FTb K7 H' T' 7 A.p7 (kS L'.mk1) N'\/(7∉S/\L'.mk1=L.mk1):=by exact .inr ⟨by decide,rfl⟩)(c8:FTb K7 H' T' 8 A.p8 (kS L'.mk2) N'\/(8∉S/\L'.mk2=L.mk2):=by exact .inr ⟨by decide,rfl⟩)(c9:FTb EB H' T' 9 A.p9 (kN L'.boths) N'\/(9∉S/\L'.boths=L.boths):=by exact .inr ⟨by decide,rfl⟩)(c10:FTb M8 H' T' 10 A.p10 (kN L'.somes) N'\/(10∉S/\L'.somes=L.somes):=by exact .inr ⟨by decide,rfl⟩)(c11:FK H' T' 11 A.p11 (Mp L'.fillers) N'\/(11∉S/\L'.fillers=L.fillers):=by exact .inr ⟨by decide,rfl⟩)(c12:FT H' T' 12 A.p12 (Ln L'.wholes) N'\/(12∉S/\L'.wholes=L.wholes):=by exact .inr ⟨by decide,rfl⟩):LoreAt C A a N' T' H' L':=by
 have h':=h.mono hN;have n:∀{i},i<3->i∉S:=fun hi z=>by have:=n2 _ z;lia
 have oT':T' a=none:=by
  cases e:T' a with
  | none=>rfl
  | some j=>
    rcases f.new a j e with z | z
    · rw[h.oT] at z;cases z
    · rw[h.ob] at z;cases z.1
 refine⟨tg,oT',f.but a _ h.ob (fun i k z=>by rw[h.oT] at z;cases z),by rw[hp];exact h'.f0.fr sO f (n (by decide)),by rw[hs];exact h'.f1.fr pL f (n (by decide)),by rw[hp];exact h'.f2.fr f (n (by decide)),?_,?_,?_,?_,?_,?_,?_,?_,?_,?_,by rw[hp];exact h'.gd,by rw[hp];exact h'.le,by rw[hp,hs];exact h'.sl,h'.xo⟩
 · rcases c3 with c | ⟨c,e⟩;exact c;rw[e];exact h'.f3.fr f c
 · rcases c4 with c | ⟨c,e⟩;exact c;rw[e];exact h'.f4.fr e2_mo f c
 · rcases c5 with c | ⟨c,e⟩;exact c;rw[e];exact h'.f5.fr e3_mo f c
 · rcases c6 with c | ⟨c,e⟩;exact c;rw[e];exact h'.f6.fr es2_mo f c
 · rcases c7 with c | ⟨c,e⟩;exact c;rw[e];exact h'.f7.fr es3_mo f c
 · rcases c8 with c | ⟨c,e⟩;exact c;rw[e];exact h'.f8.fr es3_mo f c
 · rcases c9 with c | ⟨c,e⟩;exact c;rw[e];exact h'.f9.fr eb_mo f c
 · rcases c10 with c | ⟨c,e⟩;exact c;rw[e];exact h'.f10.fr esm_mo f c
 · rcases c11 with c | ⟨c,e⟩;exact c;rw[e];exact h'.f11.fr f c
 · rcases c12 with c | ⟨c,e⟩;exact c;rw[e];exact h'.f12.fr f c
def B3(l:List Nat)(i:Nat):(fun j:Key=>if j= .inl (i:Int) then some (V.bl true) else Lg l j)=Lg (l++[i]):=by
 funext j
 cases j with
 | inl n=>
   show _=if 0<=n/\n.toNat∈l++[i] then some (V.bl true) else none
   by_cases e:n=(i:Int)
   · rw[aI (by rw[e]),aI (by refine⟨by lia,?_⟩;rw[e];simp)]
   · rw[aD (fun z=>e (by injection z))];show(if 0<=n/\n.toNat∈l then some (V.bl true) else none)=_;by_cases c:0<=n/\n.toNat∈l
     · rw[aI c,aI ⟨c.1,aM _ c.2⟩]
     · rw[aD c,aD (fun z=>c ⟨z.1,(aw.mp z.2).resolve_right fun y=>by have:=ag.mp y;lia⟩)]
 | inr r=>rw[aD (by intro z;cases z)];rfl
def HY(f:Str->Option Nat)(r:Str)(m:Nat):(fun j:Key=>if j= .inr r then some (V.int (m:Int)) else Mp f j)=Mp (vP f r m):=by
 funext j
 cases j with
 | inl n=>rw[aD (by intro z;cases z)];rfl
 | inr s=>
   show _=(vP f r m s).map _;unfold vP;by_cases e:s=r
   · rw[aI (by rw[e]),aI e];rfl
   · rw[aD (fun z=>e (by injection z)),aD e];rfl
def Gy(f:Str->Nat->Option Nat)(r:Str)(n m:Nat):(fun j:List Key=>if j=[.inr r,.inl (n:Int)] then some (V.int (m:Int)) else Ln f j)=Ln (vO f r n m):=by
 funext j
 by_cases e:j=[.inr r,.inl (n:Int)]
 · subst e;rw[aI rfl];show _=if 0<=(n:Int) then _ else none
   rw[aI (show 0<=(n:Int) by lia)];unfold vO;have c:r=r/\(n:Int).toNat=n:=⟨rfl,by lia⟩;rw[aI c]
   rfl
 · rw[aD e]
   match j,e with
   | [.inr s,.inl i],e=>
     show(if 0<=i then _ else none)=if 0<=i then _ else none
     by_cases c:0<=i
     · rw[aI c,aI c];unfold vO;rw[aD (fun z=>e (by rw[z.1,<-z.2,OE c]))]
     · rw[aD c,aD c]
   | [],_=>rfl
   | [.inl _],_=>rfl
   | [.inr _],_=>rfl
   | [.inl _,_],_=>rfl
   | [.inr _,.inr _],_=>rfl
   | x::y::z::w,_=>cases x<;>cases y<;>rfl
inductive xV(C:Addr)(d:Nat)(vs:List V)(H:Hp)(Q:VK):Prop
 | mk:∀a A N T L k,(vs=[.ref a,.int (L.ix k:Nat)])->(LoreAt C A a N T H L)->(L.Ok)->(k∈L.parts)->(k.dep<d)->(N+4 * k.sz<=100000)->(∀H' T',Fr [3,9,10,11,12] T T' H H'->LoreAt C A a (N+4 * k.sz) T' H' (LoI.know k L)->Q .non H')->xV C d vs H Q
def mB(C:Addr)(d:Nat):Sp:=fun vs H Q _=>xV C d vs H Q
theorem qa:∀{l:List α} {k:List β} {i:Nat} {y:β},Paired R l k->k[i]? =some y->∃x,l[i]? =some x/\R x y
 | _,_,0,_,.cons r _,e=>⟨_,rfl,by simp at e;subst e;exact r⟩
 | _,_,i+1,_,.cons _ t,e=>by
   obtain⟨x,h1,h2⟩:=qa (i:=i) t (by simpa using e);exact⟨x,by simpa using h1,h2⟩
 | _,_,_,_,.nil,e=>by simp at e
def JV(m j:Nat):Builtin.bitOr (m:Int) (1 * 2^((j:Int).toNat))=((m ||| 2^j:Nat):Int):=by
 rw[<-IL]
 congr 1
 rw[Int.one_mul,cB];simp
def Lc{m j:Nat}(q:Q (.int ((m ||| 2^j:Nat):Int)) H):BB (fun i j=>V.int (Builtin.bitOr i j)) (.int (m:Int)) (.int (1 * 2^((j:Int).toNat))) H Q:=by
 show Q (.int (Builtin.bitOr (m:Int) (1 * 2^((j:Int).toNat)))) H;rw[JV];exact q
def LoI.know_in(h:L.ix k∈L.known):LoI.know k L=L:=by
 cases k<;>(rw[LoI.know];exact aI h)
def LoreAt.nt9{i:Nat}(h:LoreAt C A a N T H L)(f:Fr [9] T T' H H')(tg:TgOk T' H')(n:FTb EB H' T' 9 A.p9 (fun j=>kN L.boths j++if j= .inl (i:Int) then [e] else []) (N+1)):LoreAt C A a (N+1) T' H' {L with boths:=pZ L.boths i e}:=by
 rw[B5] at n;exact h.renew (bu N) f tg rfl rfl (by simp) (c9:= .inl n)
def LoreAt.nt10{i:Nat}(h:LoreAt C A a N T H L)(f:Fr [10] T T' H H')(tg:TgOk T' H')(n:FTb M8 H' T' 10 A.p10 (fun j=>kN L.somes j++if j= .inl (i:Int) then [e] else []) (N+1)):LoreAt C A a (N+1) T' H' {L with somes:=pZ L.somes i e}:=by
 rw[B5] at n;exact h.renew (bu N) f tg rfl rfl (by simp) (c10:= .inl n)
def LoreAt.put3{i:Nat}(h:LoreAt C A a N T H L)(e:H A.p3=some (.dK kvs)):Fr [3] T T H (upd H A.p3 (.dK (bZ kvs (.inl (i:Int)) (.bl true))))/\LoreAt C A a (N+1) T (upd H A.p3 (.dK (bZ kvs (.inl (i:Int)) (.bl true)))) (L.kn i):=by
 obtain⟨n,f⟩:=h.f3.put (k:= .inl (i:Int)) (v:= .bl true) e;rw[B3] at n;exact⟨f,h.renew (bu N) f h.tg.put rfl rfl (by simp) (c3:= .inl n)⟩
def LoreAt.put11{m:Nat}(h:LoreAt C A a N T H L)(e:H A.p11=some (.dK kvs)):Fr [11] T T H (upd H A.p11 (.dK (bZ kvs (.inr r) (.int (m:Int)))))/\LoreAt C A a (N+1) T (upd H A.p11 (.dK (bZ kvs (.inr r) (.int (m:Int))))) {L with fillers:=vP L.fillers r m}:=by
 obtain⟨n,f⟩:=h.f11.put (k:= .inr r) (v:= .int (m:Int)) e;rw[HY] at n;exact⟨f,h.renew (bu N) f h.tg.put rfl rfl (by simp) (c11:= .inl n)⟩
def LoreAt.put12{i m:Nat}(h:LoreAt C A a N T H L)(e:H A.p12=some (.dT kvs)):Fr [12] T T H (upd H A.p12 (.dT (bZ kvs [.inr r,.inl (i:Int)] (.int (m:Int)))))/\LoreAt C A a (N+1) T (upd H A.p12 (.dT (bZ kvs [.inr r,.inl (i:Int)] (.int (m:Int))))) {L with wholes:=vO L.wholes r i m}:=by
 obtain⟨n,f⟩:=h.f12.put (k:=[.inr r,.inl (i:Int)]) (v:= .int (m:Int)) e;rw[Gy] at n;exact⟨f,h.renew (bu N) f h.tg.put rfl rfl (by simp) (c12:= .inl n)⟩
section
def scKnow:bj ["self","kind","form","first","second"] nG (aJ v7):=gy
def Hr(F:Fun K "know" "Lore.know" v7 f fd)(lc:xu K C)(Gkn:Ml P w K mg base C (d+1) "know" nG (mB C d))(Gnt:Cl P w K mg base 1 "note" se GJ):bW P w K mg base eW (d+2) f fd nG (mB C (d+1)):=by
 refine F.o scKnow fun cdv A outer s H vs Q E hr h=> ?_;obtain⟨a,B,N,T,L,k,rfl,la,ok,kin,hd,hN,q⟩:=h;have hu:=fh hr;refine⟨_,aZ (bA (eI (kO hu) bf (dv aA)) (aV (lE)) aQ)
  (aZ (dI hu (dv aA) bf dq rfl)
  (aZ (bA (eI EC (j7 cm (dv aA) bf) fL) (aV (lE)) aQ)
  (aZ (jo (j7 cm (dv aA) bf) (eJ rfl (bw (e_ 2 scKnow.nd) (bw (e_ 3 scKnow.nd) (bw (e_ 4 scKnow.nd) dA)))))
  (hG (bA (eI bN bH aS) (aZ (be (ij aA lc.c Gkn hr (eP bU))) (aZ (be (dF Gnt hr (gc (dv aA) bU (cX (gc bX bf dq))))) (aV (be (dF Gnt hr (gc (dv aA) bX (cX (gc bU bf dq)))))))) (aZ (be (dF Gnt hr (gc (dv aA) bX (cX (fg bU bf))))) (aZ (dI hu (dv aA) bU (bh uR (sx hu (dv aA) bU av) (bh oR av bX)) rfl) (aV (dI hu (dv aA) (cX (fg bU bX)) bf rfl)))))
  (aV (be (ij aA lc.c Gkn hr (eP bX)))))))),?_⟩
 obtain⟨t3,kvs3,e3,r3,l3⟩:=id la.f3;have i3:cS kvs3 (.inl ((L.ix k:Nat):Int))=if L.ix k∈L.known then some (.bl true) else none:=by
  rw[r3];show(if 0<=((L.ix k:Nat):Int)/\((L.ix k:Nat):Int).toNat∈L.known then _ else _)=_;simp
 have small:∀{n:Nat},n<=100000->n<sizeLine:=fun {n} h=>bz h (by decide);refine⟨C,_,_,_,la.ob,lc.c,lc.n3,Ov B,B.p3,_,rfl,DGet.k (k:= .inl (L.ix k:Nat)) e3,?_⟩;rw[i3];by_cases hk:L.ix k∈L.known
 · rw[aI hk];have q0:=q H T Fr.refl;rw[LoI.know_in hk] at q0;exact q0 (la.mono (by lia))
 rw[aD hk];obtain⟨g1,l1⟩:=la.put3 (i:=L.ix k) e3;refine⟨C,_,_,_,la.ob,lc.c,lc.n3,Ov B,_,DPut.k (k:= .inl (L.ix k:Nat)) e3 (small (by lia)),?_⟩;generalize upd H B.p3 (.dK (bZ kvs3 (.inl ((L.ix k:Nat):Int)) (.bl true)))=H1 at g1 l1⊢;obtain⟨t1,ss,e1,r1⟩:=l1.f1;have shk:=ok.sh k kin;have S5:∀{i:Nat},i=3\/i=9\/i=10\/i=11\/i=12->∀j∈[i],j∈[3,9,10,11,12]:=fun {i} h j hj=>by
  rw[ag.mp hj];simp;lia
 have ok1:(L.kn (L.ix k)).Ok:=ok.of rfl rfl;have hz:1<=k.sz:=by cases k<;>simp only[Kd.sz]<;>lia
 cases k with
 | nm x=>
   obtain⟨v,hv,iv⟩:=qa r1 (show(L.kn (L.ix (.nm x))).shapes[L.ix (.nm x)]? =some .no from shk);have iv':v= .non:=iv;refine⟨C,_,_,_,l1.ob,lc.c,lc.n1,lk1 B,ss,v,SqL.of e1,aU hv,rfl,?_⟩;rw[aG iv'];have q0:=q H1 T (g1.mono (S5 (.inl rfl)));rw[LoI.know,aD hk] at q0;exact q0 (l1.mono (by simp only[Kd.sz];lia))
 | two x y=>
   obtain⟨xin,yin,shk⟩:=shk;obtain⟨v,hv,p,rfl,hp⟩:=qa r1 (show(L.kn (L.ix (.two x y))).shapes[L.ix (.two x y)]? =some _ from shk);simp only[Kd.dep] at hd;have hz2:(Kd.two x y).sz=1+x.sz+y.sz:=rfl;refine⟨C,_,_,_,l1.ob,lc.c,lc.n1,lk1 B,ss,_,SqL.of e1,aU hv,rfl,?_⟩;refine⟨C,_,_,_,l1.ob,lc.c,lc.n1,lk1 B,ss,_,SqL.of e1,aU hv,_,SqT.of hp,rfl,?_⟩;refine⟨fun σ H'=>∃T',σ=[some (.ref a),some (.int (L.ix (.two x y):Nat)),some (.str "both"),some (.int (L.ix x:Nat)),some (.int (L.ix y:Nat))]/\Fr [3,9,10,11,12] T T' H H'/\LoreAt C B a (N+3+4 * x.sz) T' H' ((LoI.know x (L.kn (L.ix (.two x y)))).bo (L.ix x) (L.ix y) (L.ix (.two x y))),?_,?_⟩
   · refine⟨_,_,l1.ob,l1.lkKn,a,B,_,T,L.kn (L.ix (.two x y)),x,rfl,l1,ok1,xin,by lia,by lia,fun H2 T2 f2 l2=> ?_⟩;refine⟨C,_,_,_,l2.ob,lc.c,lc.n9,NU B,by show 3<=sizeLine;decide,fun t ht=> ?_⟩;have s2:=aj ht (.tup [.int (L.ix y:Nat),.int (L.ix (.two x y):Nat),.bl true]);have l2':=l2.same s2;refine gX (key:= .inl ((L.ix x:Nat):Int)) (x:=(L.ix y,L.ix (.two x y),true)) eb_mo l2'.tg l2'.f9 (by lia) ⟨t,rfl,aa⟩ fun H3 T3 f3 tg3 n3=> ?_;have l3':=l2'.nt9 f3 tg3 n3;refine⟨C,_,_,_,l3'.ob,lc.c,lc.n9,NU B,by show 3<=sizeLine;decide,fun t4 ht4=> ?_⟩;have s4:=aj ht4 (.tup [.int (L.ix x:Nat),.int (L.ix (.two x y):Nat),.bl false]);have l4:=l3'.same s4;refine gX (key:= .inl ((L.ix y:Nat):Int)) (x:=(L.ix x,L.ix (.two x y),false)) eb_mo l4.tg l4.f9 (by lia) ⟨t4,rfl,aa⟩ fun H5 T5 f5 tg5 n5=> ?_;have l5:=l4.nt9 f5 tg5 n5;refine⟨T5,rfl,?_,l5.mono (by lia)⟩;exact((((((g1.mono (S5 (.inl rfl))).trans f2).trans (Fr.of s2)).trans (f3.mono (S5 (by simp)))).trans (Fr.of s4)).trans (f5.mono (S5 (by simp))))
   rintro σ H' ⟨T',rfl,fr,l6⟩;have kp:=LoI.know_rest x (L.kn (L.ix (.two x y)));have ok6:((LoI.know x (L.kn (L.ix (.two x y)))).bo (L.ix x) (L.ix y) (L.ix (.two x y))).Ok:=ok.of kp.1 kp.2;have iy:((LoI.know x (L.kn (L.ix (.two x y)))).bo (L.ix x) (L.ix y) (L.ix (.two x y))).ix y=L.ix y:=by show(LoI.know x (L.kn (L.ix (.two x y)))).parts.idxOf y=_;rw[kp.1];rfl
   refine⟨_,_,l6.ob,l6.lkKn,a,B,_,T',_,y,by rw[iy];rfl,l6,ok6,by show y∈(LoI.know x _).parts;rw[kp.1];exact yin,by lia,by lia,fun H7 T7 f7 l7=> ?_⟩;have q0:=q H7 T7 (fr.trans f7);rw[LoI.know,aD hk] at q0;exact q0 (l7.mono (by lia))
 | som r y=>
   obtain⟨yin,shk⟩:=shk;obtain⟨v,hv,p,rfl,hp⟩:=qa r1 (show(L.kn (L.ix (.som r y))).shapes[L.ix (.som r y)]? =some _ from shk);simp only[Kd.dep] at hd;have hz2:(Kd.som r y).sz=1+y.sz:=rfl;refine⟨C,_,_,_,l1.ob,lc.c,lc.n1,lk1 B,ss,_,SqL.of e1,aU hv,rfl,?_⟩;refine⟨C,_,_,_,l1.ob,lc.c,lc.n1,lk1 B,ss,_,SqL.of e1,aU hv,_,SqT.of hp,rfl,?_⟩;refine⟨fun σ H'=>∃T',σ=[some (.ref a),some (.int (L.ix (.som r y):Nat)),some (.str "some"),some (.str r),some (.int (L.ix y:Nat))]/\Fr [3,9,10,11,12] T T' H H'/\LoreAt C B a (N+4) T' H' ((L.kn (L.ix (.som r y))).so r (L.ix y) (L.ix (.som r y))),?_,?_⟩
   · refine⟨C,_,_,_,l1.ob,lc.c,lc.n10,Me B,by show 2<=sizeLine;decide,fun t ht=> ?_⟩;have s2:=aj ht (.tup [.str r,.int (L.ix (.som r y):Nat)]);have l2:=l1.same s2;refine gX (key:= .inl ((L.ix y:Nat):Int)) (x:=(r,L.ix (.som r y))) esm_mo l2.tg l2.f10 (by lia) ⟨t,rfl,aa⟩ fun H3 T3 f3 tg3 n3=> ?_;have l3':=l2.nt10 f3 tg3 n3;obtain⟨t11,kvs11,e11,r11,l11⟩:=id l3'.f11;have lty:L.ix y<L.parts.length:=LoI.ix_lt yin;have lle:=la.le;have val:(cS kvs11 (.inr r)).getD (.int 0)= .int (((L.fillers r).getD 0:Nat):Int):=by
      rw[r11];show(((L.fillers r).map fun(m:Nat)=>V.int (m:Int))).getD (.int 0)=_;cases L.fillers r<;>rfl
     refine⟨C,_,_,_,l3'.ob,lc.c,lc.n11,Kf B,.inl ⟨_,.inl e11⟩,_,DGet.k (k:= .inr r) e11,⟨by lia,by lia,by decide⟩,?_⟩;rw[val];refine Lc ?_;obtain⟨g4,l4⟩:=l3'.put11 (r:=r) (m:=(L.fillers r).getD 0 ||| 2^L.ix y) e11;refine⟨C,_,_,_,l3'.ob,lc.c,lc.n11,Kf B,_,DPut.k (k:= .inr r) e11 (small (by lia)),?_⟩;generalize upd H3 B.p11 (.dK (bZ kvs11 (.inr r) (.int (((L.fillers r).getD 0 ||| 2^L.ix y:Nat):Int))))=H4 at g4 l4⊢;refine⟨C,_,_,_,l4.ob,lc.c,lc.n12,Md B,by show 2<=sizeLine;decide,fun t5 ht5=> ?_⟩;have s5:=aj ht5 (.tup [.str r,.int (L.ix y:Nat)]);have l5:=l4.same s5;have h5:upd H4 t5 (.tup [.str r,.int (L.ix y:Nat)]) t5=some (.tup [.str r,.int (L.ix y:Nat)]):=aa;generalize upd H4 t5 (.tup [.str r,.int (L.ix y:Nat)])=H5 at s5 l5 h5⊢;obtain⟨t12,kvs12,e12,r12,l12⟩:=id l5.f12;obtain⟨g6,l6⟩:=l5.put12 (r:=r) (i:=L.ix y) (m:=L.ix (.som r y)) e12;refine⟨_,.inr ⟨kvs12,[.inr r,.inl ((L.ix y:Nat):Int)],t5,e12,rfl,h5,small (by lia),rfl⟩,T3,rfl,?_,l6.mono (by lia)⟩;exact((((((g1.mono (S5 (.inl rfl))).trans (Fr.of s2)).trans (f3.mono (S5 (by simp)))).trans (g4.mono (S5 (by simp)))).trans (Fr.of s5)).trans (g6.mono (S5 (by simp))))
   rintro σ H' ⟨T',rfl,fr,l6⟩;have ok6:((L.kn (L.ix (.som r y))).so r (L.ix y) (L.ix (.som r y))).Ok:=ok.of rfl rfl;refine⟨_,_,l6.ob,l6.lkKn,a,B,N+4,T',(L.kn (L.ix (.som r y))).so r (L.ix y) (L.ix (.som r y)),y,rfl,l6,ok6,yin,by lia,by lia,fun H7 T7 f7 l7=> ?_⟩;have q0:=q H7 T7 (fr.trans f7);rw[LoI.know,aD hk] at q0;exact q0 (l7.mono (by lia))
def De:bW P w K mg base eW (0+1) f fd nG (mB C 0):=by
 have no:∀vs H Q E,¬ mB C 0 vs H Q E:=fun vs H Q E h=>by
  obtain⟨a,A,N,T,L,k,_,_,_,_,h,_⟩:=h
  lia
 exact⟨fun vs H Q E h=>absurd h (no vs H Q E),fun A outer s H args us vs Q E _ _ _ _ h=>absurd h (no vs H Q E)⟩
theorem yU(A:Mq K C "know" "Lore.know" v7 nG)(lc:xu K C)(Gnt:Cl P w K mg base 1 "note" se GJ):∀d:Nat,Ml P w K mg base C (d+1) "know" nG (mB C d)
 | 0=>A.ml fun _=>De
 | d+1=>A.ml fun F=>Hr F lc (yU A lc Gnt d) Gnt
end
noncomputable def LoI.kk(k:Kd)(L:LoI):LoI:=LoI.know k (LoI.num k L)
noncomputable def LoI.kkp(L:LoI)(p:Str × Kd):LoI:=if p.1="kind" then LoI.kk p.2 L else L
noncomputable def LoI.kks(s:Sy)(L:LoI):LoI:=s.sg.ps.foldl LoI.kkp L
noncomputable def LoI.tb(n:Int):Sy->LoI->LoI
 | .every a b,L=>{L with everys:=pZ L.everys (L.ix a) (L.ix b,n)}
 | .no a b,L=>{L with nos:=pZ (pZ L.nos (L.ix a) (L.ix b,n,true)) (L.ix b) (L.ix a,n,false)}
 | .within r s,L=>{L with withins:=pZ L.withins r (s,n)}
 | .makes r s t,L=>{L with mk1:=pZ L.mk1 r (s,t,n),mk2:=pZ L.mk2 s (r,t,n)}
 | .thing _ _,L=>L
 | .tied _ _ _,L=>L
noncomputable def LoI.learn(n:Int)(s:Sy)(L:LoI):LoI:=LoI.tb n s (LoI.kks s L)
def LoI.know_ok(k:Kd){L:LoI}(o:L.Ok):(LoI.know k L).Ok:=o.of (LoI.know_rest k L).1 (LoI.know_rest k L).2
def LoI.kk_ok(k:Kd){L:LoI}(o:L.Ok):(LoI.kk k L).Ok:=LoI.know_ok k (LoI.num_ok k o)
def LoI.kkp_ok(p:Str × Kd){L:LoI}(o:L.Ok):(L.kkp p).Ok:=by
 unfold LoI.kkp
 split
 · exact LoI.kk_ok _ o
 · exact o
def LoI.kks_ok(o:L.Ok):∀ps:List (Str × Kd),(ps.foldl LoI.kkp L).Ok:=fun ps=>by
 induction ps generalizing L with
 | nil=>exact o
 | cons p ps ih=>exact ih (LoI.kkp_ok p o)
def LoI.kkp_sub(p:Str × Kd)(L:LoI):∃l,(L.kkp p).parts=L.parts++l:=by
 unfold LoI.kkp
 split
 · unfold LoI.kk;rw[(LoI.know_rest _ _).1];exact LoI.num_sub _ _
 · exact⟨[],by simp⟩
theorem LoI.kks_sub:∀(ps:List (Str × Kd)) (L:LoI),∃l,(ps.foldl LoI.kkp L).parts=L.parts++l
 | [],L=>⟨[],by simp⟩
 | p::ps,L=>by
   obtain⟨l,e⟩:=LoI.kkp_sub p L;obtain⟨l',e'⟩:=LoI.kks_sub ps (L.kkp p);exact⟨l++l',by show(ps.foldl LoI.kkp (L.kkp p)).parts=_;rw[e',e,cA]⟩
theorem LoI.kks_has{p:Str × Kd}(hp:p.1="kind"):∀{ps:List (Str × Kd)} (L:LoI),p∈ps->p.2∈(ps.foldl LoI.kkp L).parts
 | q::ps,L,h=>by
   rcases aE.mp h with e | h
   · subst e;obtain⟨l,e⟩:=LoI.kks_sub ps (L.kkp p);show p.2∈(ps.foldl LoI.kkp (L.kkp p)).parts;rw[e];refine aM _ ?_;unfold LoI.kkp;rw[aI hp];unfold LoI.kk;rw[(LoI.know_rest _ _).1];exact LoI.num_has _ _
   · exact LoI.kks_has hp (L.kkp q) h
noncomputable def Sy.szs(s:Sy):Nat:=(s.parts.map Kd.sz).sum
def Sy.gd(d:Nat)(s:Sy):Prop:=∀k∈s.parts,ju k/\k.nt<=24/\k.dep<d/\k.sz<=60
def Jw{s:Sy}(h:s.gd d):s.sg.Ok:=by
 refine⟨?_,fun p hp=> ?_⟩
 · cases s<;>simp[Sy.sg,Sy.sorts,Sy.parts,Sy.hd,Lb,jZ]
 · have hm:p.2∈s.parts:=by rw[<-jG];exact kg hp
   have hz:=(h p.2 hm).2.2.2;cases s<;>(simp only[Sy.sg,Sy.sorts,Sy.parts,zx,List.zip_nil_left,aE,ai,cF] at hp)
   all_goals first
    | (rcases hp with rfl | rfl)<;>first | exact .inl ⟨rfl,hz⟩ | exact .inr ⟨.inl rfl,_,rfl⟩ | exact .inr ⟨.inr rfl,_,rfl⟩
    | (rcases hp with rfl | rfl | rfl)<;>first | exact .inl ⟨rfl,hz⟩ | exact .inr ⟨.inl rfl,_,rfl⟩ | exact .inr ⟨.inr rfl,_,rfl⟩
def LoreAt.nt4{i:Nat}(h:LoreAt C A a N T H L)(f:Fr [4] T T' H H')(tg:TgOk T' H')(n:FTb E2 H' T' 4 A.p4 (fun j=>kN L.everys j++if j= .inl (i:Int) then [e] else []) (N+1)):LoreAt C A a (N+1) T' H' {L with everys:=pZ L.everys i e}:=by
 rw[B5] at n;exact h.renew (bu N) f tg rfl rfl (by simp) (c4:= .inl n)
def LoreAt.nt5{i:Nat}(h:LoreAt C A a N T H L)(f:Fr [5] T T' H H')(tg:TgOk T' H')(n:FTb E3 H' T' 5 A.p5 (fun j=>kN L.nos j++if j= .inl (i:Int) then [e] else []) (N+1)):LoreAt C A a (N+1) T' H' {L with nos:=pZ L.nos i e}:=by
 rw[B5] at n;exact h.renew (bu N) f tg rfl rfl (by simp) (c5:= .inl n)
def LoreAt.nt6(h:LoreAt C A a N T H L)(f:Fr [6] T T' H H')(tg:TgOk T' H')(n:FTb M9 H' T' 6 A.p6 (fun j=>kS L.withins j++if j= .inr i then [e] else []) (N+1)):LoreAt C A a (N+1) T' H' {L with withins:=pZ L.withins i e}:=by
 rw[FA] at n;exact h.renew (bu N) f tg rfl rfl (by simp) (c6:= .inl n)
def LoreAt.nt7(h:LoreAt C A a N T H L)(f:Fr [7] T T' H H')(tg:TgOk T' H')(n:FTb K7 H' T' 7 A.p7 (fun j=>kS L.mk1 j++if j= .inr i then [e] else []) (N+1)):LoreAt C A a (N+1) T' H' {L with mk1:=pZ L.mk1 i e}:=by
 rw[FA] at n;exact h.renew (bu N) f tg rfl rfl (by simp) (c7:= .inl n)
def LoreAt.nt8(h:LoreAt C A a N T H L)(f:Fr [8] T T' H H')(tg:TgOk T' H')(n:FTb K7 H' T' 8 A.p8 (fun j=>kS L.mk2 j++if j= .inr i then [e] else []) (N+1)):LoreAt C A a (N+1) T' H' {L with mk2:=pZ L.mk2 i e}:=by
 rw[FA] at n;exact h.renew (bu N) f tg rfl rfl (by simp) (c8:= .inl n)
def Kx{A:Prop}{a:V}(e:a=b)(h:A):if decide (a=b)=true then A else B:=by rw[aG e];exact h
section
end
noncomputable abbrev DE:List Nat:=[0,1,2,3,4,5,6,7,8,9,10,11,12]
def Dj(h:i<13):∀j∈[i],j∈DE:=fun j hj=>by
 rw[ag.mp hj];have:i∈List.range 13:=dm.mpr h;exact this
def mO(L:LoI)(h:(((Str.ofString "kind",k):Str × Kd)∈s.sg.ps)):k∈(LoI.kks s L).parts:=LoI.kks_has (p:=(Str.ofString "kind",k)) rfl L h
def qd(h:KL H xs [a,b]):∃x y,xs=[x,y]/\IsK H a x/\IsK H b y:=by
 cases h with
 | cons r t=>
   cases t with
   | cons r2 t2=>cases t2;exact⟨_,_,rfl,r,r2⟩
def HL(h:KL H xs [a,b,c]):∃x y z,xs=[x,y,z]/\IsK H a x/\IsK H b y/\IsK H c z:=by
 cases h with
 | cons r t=>
   obtain⟨y,z,rfl,h1,h2⟩:=qd t;exact⟨_,y,z,rfl,r,h1,h2⟩
inductive uB(C:Addr)(d:Nat)(vs:List V)(H:Hp)(Q:VK):Prop
 | mk:∀a A N T L n v s,(vs=[.ref a,.int n,v])->(LoreAt C A a N T H L)->(L.Ok)->(IsSy H s v)->(s.gd d)->(N+6 * s.szs+2<=50000)->(∀H' T',Fr DE T T' H H'->LoreAt C A a (N+6 * s.szs+2) T' H' (LoI.learn n s L)->Q .non H')->uB C d vs H Q
def Bl(C:Addr)(d:Nat):Sp:=fun vs H Q _=>uB C d vs H Q
section
def scLearn:bj ["self","number","saying","sort","part","first","second"] BH (aJ vZ):=gy
def EL(F:Fun K "learn" "Lore.learn" vZ f fd)(lc:xu K C)(mz:mg "zip"=none)(mF0:mg "FORMS"=some (.ref aF))(hF:∀fo ss,(fo,ss)∈jZ->∃kvs a,vp K P w aF kvs/\cS kvs (.inr fo)=some (.ref a)/\∀H,SqT K H a (ss.map V.str))(Gkn:Ml P w K mg base C (d+1) "know" nG (mB C d))(Gno:Ml P w K mg base C (2 * d) "number_of" fJ (nu C d))(Gnt:Cl P w K mg base 1 "note" se GJ):bW P w K mg base eW (2 * d+3) f fd BH (Bl C d):=by
 refine F.o scLearn fun cdv A outer s0 H vs Q E hr h=> ?_;obtain⟨a,B,N,T,L,n,v,s,rfl,la,ok,is,gs,hN,q⟩:=h;have hu:=fh hr;refine⟨_,hG (jR (BU rfl mz (fg (BV (qH (v:= .ref aF) rfl mF0 rfl) (dj bH) (fun _ _=>rfl)) (d_ D9 bH (eN av) fu))) (eJ rfl (bw (e_ 3 scLearn.nd) (bw (e_ 4 scLearn.nd) dA))) (aV (bA (eI bN bU aS) (aV (be (ij aA lc.c Gkn hr (eP (ij aA lc.c Gno hr (eP bX)))))) aQ)))
  (aV (bA (eI bN (dj bH) aS) (aV (be (dF Gnt hr (gc (dv aA) (ij aA lc.c Gno hr (eP (dj bH))) (cX (fg (ij aA lc.c Gno hr (eP (dj bH))) bf)))))) (aV (bA (eI bN (dj bH) aS) (aZ (JI (i:=5) (j:=6) rfl scLearn.nd rfl rfl (by decide) rfl rfl (fg (ij aA lc.c Gno hr (eP (dj bH))) (ij aA lc.c Gno hr (eP (dj bH)))) rfl) (aZ (be (dF Gnt hr (gc (dv aA) dH (cX (gc dN bf dq))))) (aV (be (dF Gnt hr (gc (dv aA) dN (cX (gc dH bf dq)))))))) (aV (bA (eI bN (dj bH) aS) (aV (be (dF Gnt hr (gc (dv aA) (dj bH) (cX (fg (dj bH) bf)))))) (aV (bA (eI bN (dj bH) aS) (aZ (be (dF Gnt hr (gc (dv aA) (dj bH) (cX (gc (dj bH) (dj bH) bf))))) (aV (be (dF Gnt hr (gc (dv aA) (dj bH) (cX (gc (dj bH) (dj bH) bf))))))) aQ)))))))),?_⟩
 obtain⟨pv,xs,rfl,hpv,hL⟩:=id (II is);have hS:=Jw gs;obtain⟨kvs,aT,hkd,hval,hT⟩:=hF _ _ hS.fo;have lL:=KL.len hL;rw[ao] at lL;have inp:∀{p:Str × Kd},p∈s.sg.ps->p.2∈s.parts:=fun {p} hp=>by rw[<-jG];exact kg hp
 have tot:(s.sg.ps.map fun p=>p.2.sz).sum=s.szs:=by unfold Sy.szs;rw[<-jG,qk];rfl
 have sub:∀i,((s.sg.ps.take i).map fun p=>p.2.sz).sum<=s.szs:=fun i=>by
  rw[<-tot]
  conv=>rhs;rw[<-jw i s.sg.ps,bx,gh]
  exact cY _ _
 have S012:∀j∈[0,1,2],j∈DE:=by decide
 have S5:∀j∈[3,9,10,11,12],j∈DE:=by decide
 refine⟨fun σ H'=>∃(o3 o4:Option V) (T':Tg),σ=[some (.ref a),some (.int n),some (.ref pv),o3,o4,none,none]/\Fr DE T T' H H'/\LoreAt C B a (N+5 * s.szs) T' H' (LoI.kks s L),?_,?_⟩
 · refine⟨_,_,SqT.of hpv,aU (j:=0) rfl,aF,kvs,.inr s.sg.form,.ref aT,rfl,rfl,hkd,hval,1,rfl,pv,_,rfl,SqT.of hpv,LP _ _,fun pt hpt=> ?_⟩;rw[Mt];have spt:=aj hpt (.tup xs);refine⟨aT,pt,rfl,⟨_,hT _⟩,⟨_,SqT.of aa⟩,?_⟩;refine zc (xs:=(s.sg.ps.map (·.1)).map V.str) (ys:=xs) (by rw[ao,ao];lia) (fun i σ H4=>∃(o3 o4:Option V) (T4:Tg),σ=[some (.ref a),some (.int n),some (.ref pv),o3,o4,none,none]/\Fr DE T T4 H H4/\H4 pt=some (.tup xs)/\LoreAt C B a (N+5 * ((s.sg.ps.take i).map fun p=>p.2.sz).sum) T4 H4 ((s.sg.ps.take i).foldl LoI.kkp L)) ⟨none,none,T,rfl,Fr.of spt,aa,(la.same spt).mono (cY _ _)⟩ ?_ ?_ ?_
   · rintro i σ H4 hi ⟨o3,o4,T4,rfl,_,e,_⟩;exact⟨hT _,SqT.of e⟩
   · rintro i x y σ H4 Tn hx hy ⟨o3,o4,T4,rfl,f4,e4,l4⟩ hTn;obtain⟨k',hk1,ik⟩:=KL.get hL hy;rw[bb] at hk1;obtain⟨p,hp,rfl⟩:=cj.mp hk1;rw[bb,bb,hp] at hx;simp only[iA,mX] at hx;subst hx;obtain⟨g1,g2,g3,g4⟩:=gs _ (inp (ak hp));have sT:=aj hTn (.tup [.str p.1,y]);have l5:=l4.same sT;have f5:Fr DE T T4 H (upd H4 Tn (.tup [.str p.1,y])):=f4.trans (Fr.of sT);have ik5:=IsK.mono f5.tups ik;have sm:((s.sg.ps.take (i+1)).map fun p=>p.2.sz).sum=((s.sg.ps.take i).map fun p=>p.2.sz).sum+p.2.sz:=by
      rw[bK,hp,bx,gh];simp
     have fo:(s.sg.ps.take (i+1)).foldl LoI.kkp L=((s.sg.ps.take i).foldl LoI.kkp L).kkp p:=by
      rw[bK,hp,gu];rfl
     have le1:=sub (i+1);rw[sm] at le1;refine⟨_,SqT.of aa,rfl,?_⟩;have e5:=sT _ _ e4;generalize upd H4 Tn (.tup [.str p.1,y])=H5 at l5 f5 ik5 e5⊢;refine(fS (fun c1=> ?_) (fun c1=> ?_))
     · have e1:p.1="kind":=by
        have:=cK c1
        injection this
       refine⟨_,_,l5.ob,l5.lkKn,_,_,l5.ob,l5.lkNo,a,B,_,T4,_,y,p.2,rfl,l5,ik5,g1,g2,g3,by lia,fun H6 T6 f6 l6=> ?_⟩;refine⟨a,B,_,T6,_,p.2,rfl,l6,LoI.num_ok _ (LoI.kks_ok ok _),LoI.num_has _ _,g3,by lia,fun H7 T7 f7 l7=> ?_⟩;refine⟨_,_,T7,rfl,(f5.trans (f6.mono S012)).trans (f7.mono S5),f7.tups _ _ (f6.tups _ _ e5),?_⟩;rw[sm,fo];unfold LoI.kkp;rw[aI e1];exact l7.mono (by lia)
     · have e1:¬ p.1="kind":=fun z=>c1 (by rw[z];exact aG rfl);refine⟨_,_,T4,rfl,f5,e5,?_⟩;rw[sm,fo];unfold LoI.kkp;rw[aD e1];exact l5.mono (by lia)
   · rintro σ H4 ⟨o3,o4,T4,rfl,f4,e4,l4⟩;refine⟨o3,o4,T4,rfl,f4,?_⟩;rw[ao,ao,bp,tot] at l4;exact l4
 rintro σ H' ⟨o3,o4,T',rfl,fr,l⟩;rw[jG] at hL;have hpv':=fr.tups _ _ hpv;have hs:s.szs=(s.parts.map Kd.sz).sum:=rfl;cases s with
 | every x y=>
   obtain⟨vx,vy,rfl,kx,ky⟩:=qd hL;obtain⟨x1,x2,x3,x4⟩:=gs x (by simp[Sy.parts]);obtain⟨y1,y2,y3,y4⟩:=gs y (by simp[Sy.parts]);have hx:x∈(LoI.kks (.every x y) L).parts:=mO (s:= .every x y) L (by simp[Sy.sg,Sy.sorts,Sy.parts]);have hy:y∈(LoI.kks (.every x y) L).parts:=mO (s:= .every x y) L (by simp[Sy.sg,Sy.sorts,Sy.parts]);have hz:(Sy.every x y).szs=x.sz+y.sz:=by simp[Sy.szs,Sy.parts]
   refine(cQ hpv' rfl (⟨C,_,_,_,l.ob,lc.c,lc.n4,Ou B,_,_,l.ob,l.lkNo,cQ hpv' rfl ⟨a,B,_,T',_,vx,x,rfl,l,IsK.mono fr.tups kx,x1,x2,x3,by lia,fun H1 T1 f1 l1=> ?_⟩⟩));rw[LoI.num_in hx] at l1⊢;have fr1:=fr.trans (f1.mono S012);refine⟨_,_,l1.ob,l1.lkNo,cQ (fr1.tups _ _ hpv) rfl ⟨a,B,_,T1,_,vy,y,rfl,l1,IsK.mono fr1.tups ky,y1,y2,y3,by lia,fun H2 T2 f2 l2=> ?_⟩⟩;rw[LoI.num_in hy] at l2⊢;have fr2:=fr1.trans (f2.mono S012);refine⟨by show 2<=sizeLine;decide,fun t ht=> ?_⟩;have s3:=aj ht (.tup [.int ((LoI.kks (.every x y) L).ix y:Nat),.int n]);have l3:=l2.same s3;refine gX (key:= .inl (((LoI.kks (.every x y) L).ix x:Nat):Int)) (x:=((LoI.kks (.every x y) L).ix y,n)) e2_mo l3.tg l3.f4 (by lia) ⟨t,rfl,aa⟩ fun H4 T4 f4 tg4 n4=> ?_;exact q H4 T4 ((fr2.trans (Fr.of s3)).trans (f4.mono (Dj (by decide)))) ((l3.nt4 f4 tg4 n4).mono (by lia))
 | no x y=>
   obtain⟨vx,vy,rfl,kx,ky⟩:=qd hL;obtain⟨x1,x2,x3,x4⟩:=gs x (by simp[Sy.parts]);obtain⟨y1,y2,y3,y4⟩:=gs y (by simp[Sy.parts]);have hx:x∈(LoI.kks (.no x y) L).parts:=mO (s:= .no x y) L (by simp[Sy.sg,Sy.sorts,Sy.parts]);have hy:y∈(LoI.kks (.no x y) L).parts:=mO (s:= .no x y) L (by simp[Sy.sg,Sy.sorts,Sy.parts]);have hz:(Sy.no x y).szs=x.sz+y.sz:=by simp[Sy.szs,Sy.parts]
   refine(cQ hpv' rfl ((cQ hpv' rfl (⟨_,_,l.ob,l.lkNo,cQ hpv' rfl ⟨a,B,_,T',_,vx,x,rfl,l,IsK.mono fr.tups kx,x1,x2,x3,by lia,fun H1 T1 f1 l1=> ?_⟩⟩))));rw[LoI.num_in hx] at l1⊢;have fr1:=fr.trans (f1.mono S012);refine⟨_,_,l1.ob,l1.lkNo,cQ (fr1.tups _ _ hpv) rfl ⟨a,B,_,T1,_,vy,y,rfl,l1,IsK.mono fr1.tups ky,y1,y2,y3,by lia,fun H2 T2 f2 l2=> ?_⟩⟩;rw[LoI.num_in hy] at l2⊢;have fr2:=fr1.trans (f2.mono S012);refine⟨_,_,rfl,C,_,_,_,l2.ob,lc.c,lc.n5,NV B,by show 3<=sizeLine;decide,fun t ht=> ?_⟩;have s3:=aj ht (.tup [.int ((LoI.kks (.no x y) L).ix y:Nat),.int n,.bl true]);have l3:=l2.same s3;refine gX (key:= .inl (((LoI.kks (.no x y) L).ix x:Nat):Int)) (x:=((LoI.kks (.no x y) L).ix y,n,true)) e3_mo l3.tg l3.f5 (by lia) ⟨t,rfl,aa⟩ fun H4 T4 f4 tg4 n4=> ?_;have l4:=l3.nt5 f4 tg4 n4;refine⟨C,_,_,_,l4.ob,lc.c,lc.n5,NV B,by show 3<=sizeLine;decide,fun t5 ht5=> ?_⟩;have s5:=aj ht5 (.tup [.int ((LoI.kks (.no x y) L).ix x:Nat),.int n,.bl false]);have l5:=l4.same s5;refine gX (key:= .inl (((LoI.kks (.no x y) L).ix y:Nat):Int)) (x:=((LoI.kks (.no x y) L).ix x,n,false)) e3_mo l5.tg l5.f5 (by lia) ⟨t5,rfl,aa⟩ fun H6 T6 f6 tg6 n6=> ?_;exact q H6 T6 ((((fr2.trans (Fr.of s3)).trans (f4.mono (Dj (by decide)))).trans (Fr.of s5)).trans (f6.mono (Dj (by decide)))) ((l5.nt5 f6 tg6 n6).mono (by lia))
 | within r s'=>
   obtain⟨vx,vy,rfl,kx,ky⟩:=qd hL;obtain rfl:vx= .str r:=kx;obtain rfl:vy= .str s':=ky;refine(cQ hpv' rfl ((cQ hpv' rfl ((cQ hpv' rfl (⟨C,_,_,_,l.ob,lc.c,lc.n6,Ot B,cQ hpv' rfl (cQ hpv' rfl ⟨by show 2<=sizeLine;decide,fun t ht=> ?_⟩)⟩))))));have s3:=aj ht (.tup [.str s',.int n]);have l3:=l.same s3;refine gX (key:= .inr r) (x:=(s',n)) es2_mo l3.tg l3.f6 (by lia) ⟨t,rfl,aa⟩ fun H4 T4 f4 tg4 n4=> ?_;exact q H4 T4 ((fr.trans (Fr.of s3)).trans (f4.mono (Dj (by decide)))) ((l3.nt6 f4 tg4 n4).mono (by lia))
 | makes r s' u=>
   obtain⟨vx,vy,vz,rfl,kx,ky,kz⟩:=HL hL;obtain rfl:vx= .str r:=kx;obtain rfl:vy= .str s':=ky;obtain rfl:vz= .str u:=kz;refine(cQ hpv' rfl ((cQ hpv' rfl ((cQ hpv' rfl ((cQ hpv' rfl (⟨C,_,_,_,l.ob,lc.c,lc.n7,Os B,cQ hpv' rfl (cQ hpv' rfl (cQ hpv' rfl ⟨by show 3<=sizeLine;decide,fun t ht=> ?_⟩))⟩))))))));have s3:=aj ht (.tup [.str s',.str u,.int n]);have l3:=l.same s3;refine gX (key:= .inr r) (x:=(s',u,n)) es3_mo l3.tg l3.f7 (by lia) ⟨t,rfl,aa⟩ fun H4 T4 f4 tg4 n4=> ?_;have l4:=l3.nt7 f4 tg4 n4;have fr4:=(fr.trans (Fr.of s3)).trans (f4.mono (Dj (i:=7) (by decide)));have hp4:=fr4.tups _ _ hpv;refine⟨C,_,_,_,l4.ob,lc.c,lc.n8,Oq B,cQ hp4 rfl (cQ hp4 rfl (cQ hp4 rfl ⟨by show 3<=sizeLine;decide,fun t5 ht5=> ?_⟩))⟩;have s5:=aj ht5 (.tup [.str r,.str u,.int n]);have l5:=l4.same s5;refine gX (key:= .inr s') (x:=(r,u,n)) es3_mo l5.tg l5.f8 (by lia) ⟨t5,rfl,aa⟩ fun H6 T6 f6 tg6 n6=> ?_;exact q H6 T6 ((fr4.trans (Fr.of s5)).trans (f6.mono (Dj (by decide)))) ((l5.nt8 f6 tg6 n6).mono (by lia))
 | thing x y=>
   iterate 4 refine cQ hpv' (aU (j:=0) rfl) ?_
   exact q H' T' fr (l.mono (by lia))
 | tied x r y=>
   iterate 4 refine cQ hpv' (aU (j:=0) rfl) ?_
   exact q H' T' fr (l.mono (by lia))
end
structure Ini(H0 H:Hp)(C a dx:Addr)(fs:List (Str × V))(cs:List (Addr × HO)):Prop where
 ob:H a=some (.ins C dx fs)
 at':∀q∈cs,H q.1=some q.2
 nd:(cs.map (·.1)).Nodup
 new:∀q∈cs,H0 q.1=none/\q.1≠a
 old:∀b o,H0 b=some o->b≠a->H b=some o
def Ini.step{H0 H:Hp}{C a dx p:Addr}{fs:List (Str × V)}{cs:List (Addr × HO)}{o:HO}{f:Str}(h:Ini H0 H C a dx fs cs)(hp:H p=none)(fs':List (Str × V))(hf:jn f (.ref p) fs=fs'):upd H p o a=some (.ins C dx fs)/\Ini H0 (upd (upd H p o) a (.ins C dx fs')) C a dx fs' (cs++[(p,o)]):=by
 subst hf;have pa:p≠a:=fun z=>by rw[z,h.ob] at hp;cases hp
 refine⟨by rw[aB (bG pa)];exact h.ob,aa,fun q hq=> ?_,?_,fun q hq=> ?_,fun b u e nb=> ?_⟩
 · rcases aw.mp hq with hq | hq
   · have e:=h.at' q hq;rw[aB (h.new q hq).2,aB (fun z=>by rw[z,hp] at e;cases e)];exact e
   · rw[ag.mp hq,aB pa,aa]
 · rw[bx,mY];refine⟨h.nd,by simp,fun x hx y hy=> ?_⟩;obtain⟨q,hq,rfl⟩:=bO.mp hx;have e:=h.at' q hq;rw[show y=p by simpa using hy];exact fun z=>by rw[z,hp] at e;cases e
 · rcases aw.mp hq with hq | hq
   · exact h.new q hq
   · rw[ag.mp hq];refine⟨?_,pa⟩;cases c:H0 p with
     | none=>rfl
     | some u=>rw[h.old p u c pa] at hp;cases hp
 · have e1:=h.old b u e nb;rw[aB nb,aB (fun z=>by rw[z,hp] at e1;cases e1)];exact e1
theorem su:∀{fs:List (Str × V)},(fs.all fun q=> !decide (q.1=f))=true->jn f v fs=fs++[(f,v)]
 | [],_=>rfl
 | (g,x)::r,h=>by
   simp only[fF,bg,Bool.not_eq_true',Li] at h;show(if g=f then _ else _)=_;rw[aD h.1,su h.2];rfl
section
def Ini.put(i:Ini H0 H C a dx fs cs)(ht:∀Q:VK,(∀p,H p=none->Q (.ref p) (upd H p o))->t σ H Q)(hσ:σ[0]? =some (some (.ref a)))(c:Cls K C)(n:NoAttr K C f)(hl:Nat.blt fs.length 1000=true)(hf:(fs.all fun q=> !decide (q.1=f))=true)(k:∀p H',Ini H0 H' C a dx (fs++[(f,.ref p)]) (cs++[(p,o)])->u D σ H'):zH (Eg K (ow 0) t f) u D σ H:=by
 refine ht _ fun p hp=> ?_;obtain⟨b,i'⟩:=i.step (o:=o) (f:=f) hp _ (su hf);refine onV.of hσ ⟨a,C,dx,fs,rfl,b,c,n,Nat.le_of_ble_eq_true hl,?_⟩;rw[su hf];exact k p _ i'
def NB(h:zH t (fun D=>D.nx) D σ H):t D σ H:=h
def Ini.lst{K:Frag}{H0 H:Hp}{C a dx:Addr}{fs:List (Str × V)}{cs:List (Addr × HO)}{f:Str}{D:qm}{u:TS}{σ:L2.St}(i:Ini H0 H C a dx fs cs)(c:Cls K C)(n:NoAttr K C f)(hσ:σ[0]? =some (some (.ref a)))(hl:Nat.blt fs.length 1000=true)(hf:(fs.all fun q=> !decide (q.1=f))=true)(k:∀p H',Ini H0 H' C a dx (fs++[(f,.ref p)]) (cs++[(p,.lst [])])->u D σ H'):zH (Eg K (ow 0) (Jr iS) f) u D σ H:=i.put (fun Q h=>⟨ay _,h⟩) hσ c n hl hf k
def Ini.dK{K:Frag}{H0 H:Hp}{C a dx:Addr}{fs:List (Str × V)}{cs:List (Addr × HO)}{f:Str}{D:qm}{u:TS}{σ:L2.St}(i:Ini H0 H C a dx fs cs)(c:Cls K C)(n:NoAttr K C f)(hσ:σ[0]? =some (some (.ref a)))(hl:Nat.blt fs.length 1000=true)(hf:(fs.all fun q=> !decide (q.1=f))=true)(k:∀p H',Ini H0 H' C a dx (fs++[(f,.ref p)]) (cs++[(p,.dK [])])->u D σ H'):zH (Eg K (ow 0) DW f) u D σ H:=i.put (fun Q h=>h) hσ c n hl hf k
def Ini.dT{K:Frag}{H0 H:Hp}{C a dx:Addr}{fs:List (Str × V)}{cs:List (Addr × HO)}{f:Str}{D:qm}{u:TS}{σ:L2.St}(i:Ini H0 H C a dx fs cs)(c:Cls K C)(n:NoAttr K C f)(hσ:σ[0]? =some (some (.ref a)))(hl:Nat.blt fs.length 1000=true)(hf:(fs.all fun q=> !decide (q.1=f))=true)(k:∀p H',Ini H0 H' C a dx (fs++[(f,.ref p)]) (cs++[(p,.dT [])])->u D σ H'):zH (Eg K (ow 0) DV f) u D σ H:=i.put (fun Q h=>h) hσ c n hl hf k
end
theorem y_:∀{l:List Addr} {i:Nat},l.Nodup->(h:i<l.length)->l.idxOf l[i]=i
 | x::l,0,_,_=>by simp
 | x::l,i+1,nd,h=>by
   have hm:l[i]'(by simpa using h)∈l:=fQ _;have hx:=(fB.mp nd).1;have hne:(x==l[i]'(by simpa using h))=false:=cy.mpr fun e=>hx (by rw[e];exact hm);rw[List.getElem_cons_succ,List.idxOf_cons,hne,cond_false,y_ (fB.mp nd).2]
noncomputable def xx(n:Nat)(ps:List Addr):Tg:=fun b=>if ps.idxOf b<ps.length then some (n+ps.idxOf b,none) else none
def DS{n:Nat}{ps:List Addr}(nd:ps.Nodup){i:Nat}{p:Addr}(h:ps[i]? =some p):xx n ps p=some (n+i,none):=by
 obtain⟨hi,e⟩:=aO.mp h;have:ps.idxOf p=i:=by rw[<-e];exact y_ nd hi
 unfold xx;rw[this,aI hi]
def vD(h:xx n ps b=some i):b∈ps:=by
 unfold xx at h
 split at h
 · rename_i c;exact K4.mp c
 · cases h
def FNum.bt(b:Bt a H H')(hT:T a=none)(h:FNum H T p ps):FNum H' T p ps:=by
 obtain⟨t0,kvs,e,r⟩:=h;exact⟨t0,kvs,b _ _ e (fun z=>by rw[z,hT] at t0;cases t0),r⟩
def LoreAt.setex(h:LoreAt C A a N T H L)(e:A'={A with ex:=A'.ex})(xo:A'.ex=[]\/A'.ex=Lh\/A'.ex=Gp)(ho:o= .ins C A.dx (mV A')):LoreAt C A' a N T (upd H a o) L:=by
 obtain⟨ex,dx,p0,p1,p2,p3,p4,p5,p6,p7,p8,p9,p10,p11,p12⟩:=A';cases e;subst ho;have b:Bt a H (upd H a (.ins C A.dx (mV {A with ex:=ex}))):=fun c u q n=>by rw[aB n];exact q
 have t:Tups H (upd H a (.ins C A.dx (mV {A with ex:=ex}))):=fun c xs q=>b c _ q (fun z=>by rw[z,h.ob] at q;cases q);exact⟨h.tg.put,h.oT,aa,h.f0.bt sO b t h.oT,h.f1.bt pL b t h.oT,h.f2.bt b h.oT,h.f3.bt b h.oT,h.f4.bt e2_mo b t h.oT,h.f5.bt e3_mo b t h.oT,h.f6.bt es2_mo b t h.oT,h.f7.bt es3_mo b t h.oT,h.f8.bt es3_mo b t h.oT,h.f9.bt eb_mo b t h.oT,h.f10.bt esm_mo b t h.oT,h.f11.bt b h.oT,h.f12.bt b h.oT,h.gd,h.le,h.sl,xo⟩
noncomputable def LoI.emp:LoI:=⟨[],[],[],fun _=>[],fun _=>[],fun _=>[],fun _=>[],fun _=>[],fun _=>[],fun _=>[],fun _=>none,fun _ _=>none⟩
noncomputable abbrev anyW:Kd:= .nm "anything"
noncomputable abbrev nothW:Kd:= .nm "nothing"
noncomputable def LoI.init:LoI:=LoI.num nothW (LoI.num anyW LoI.emp)
def LoI.emp_ok:LoI.emp.Ok:=⟨rfl,fun k h=>(ai h).elim,fun i s h=>by have h':([]:List Sh)[i]? =some s:=h;simp at h',.nil⟩
def LoI.init_ok:LoI.init.Ok:=LoI.num_ok _ (LoI.num_ok _ LoI.emp_ok)
def Mx:LoI.num anyW LoI.emp=LoI.emp.add anyW .no:=by rw[LoI.num];exact aD (ai)
def N0:(LoI.num anyW LoI.emp).ix anyW=0:=by rw[Mx];exact lI (l:=[]) (ai)
def yJ:nothW≠anyW:=by decide+kernel
def mf:LoI.init=(LoI.emp.add anyW .no).add nothW .no:=by
 unfold LoI.init;rw[Mx,LoI.num];exact aD (by show ¬ nothW∈[anyW];rw[ag];exact yJ)
def L5:LoI.init.ix nothW=1:=by rw[mf];exact lI (l:=[anyW]) (by rw[ag];exact yJ)
def Ow(k:Key):Lg [] k=none:=by
 cases k with
 | inl i=>exact aD (fun z=>ai z.2)
 | inr r=>rfl
def O5(k:Key):Mp (fun _=>none) k=none:=by cases k<;>rfl
def OK(k:List Key):Ln (fun _ _=>none) k=none:=by
 match k with
 | []=>rfl
 | [.inl _]=>rfl
 | [.inr _]=>rfl
 | [.inl _,_]=>rfl
 | [.inr _,.inr _]=>rfl
 | [.inr s,.inl i]=>show(if _ then _ else _)=_;split<;>rfl
 | x::y::z::w=>cases x<;>cases y<;>rfl
inductive uC(C:Addr)(vs:List V)(H:Hp)(Q:VK):Prop
 | mk:∀a dx,(vs=[.ref a])->(H a=some (.ins C dx []))->(∀H' A T,Bt a H H'->(∀b i,T b=some i->H b=none)->LoreAt C A a 2 T H' LoI.init->A.ex=Gp->Q .non H')->uC C vs H Q
def Bo(C:Addr):Sp:=fun vs H Q _=>uC C vs H Q
section
def GT:bj nE nE (aJ zW):=gy
def EK(hd:0<d)(F:Fun K "__init__" "Lore.__init__" zW f fd)(lc:xu K C)(Gno:Ml P w K mg base C (2 * d) "number_of" fJ (nu C d)):bW P w K mg base eW (2 * d+1) f fd nE (Bo C):=by
 refine F.o GT fun cdv A outer s0 H vs Q E hr h=> ?_;obtain⟨a,dx,rfl,ea,q⟩:=h;refine⟨_,aZ (dP aA (bV cz) rfl) (aZ (dP aA (bV cz) rfl) (aZ (dP aA cO rfl) (aZ (dP aA cO rfl) (aZ (dP aA cO rfl) (aZ (dP aA cO rfl) (aZ (dP aA cO rfl) (aZ (dP aA cO rfl) (aZ (dP aA cO rfl) (aZ (dP aA cO rfl) (aZ (dP aA cO rfl) (aZ (dP aA cO rfl) (aZ (dP aA kK rfl) (aZ (dP aA (ij aA lc.c Gno hr (eP aS)) rfl) (aV (dP aA (ij aA lc.c Gno hr (eP aS)) rfl))))))))))))))),?_⟩;have i0:Ini H H C a dx [] []:=⟨ea,fun q hq=>(ai hq).elim,.nil,fun q hq=>(ai hq).elim,fun _ _ e _=>e⟩;refine i0.lst lc.c lc.n0 rfl rfl rfl fun p0 H1 i1=> ?_;refine i1.lst lc.c lc.n1 rfl rfl rfl fun p1 H2 i2=> ?_;refine i2.dK lc.c lc.n2 rfl rfl rfl fun p2 H3 i3=> ?_;refine i3.dK lc.c lc.n3 rfl rfl rfl fun p3 H4 i4=> ?_;refine i4.dK lc.c lc.n4 rfl rfl rfl fun p4 H5 i5=> ?_;refine i5.dK lc.c lc.n5 rfl rfl rfl fun p5 H6 i6=> ?_;refine i6.dK lc.c lc.n6 rfl rfl rfl fun p6 H7 i7=> ?_;refine i7.dK lc.c lc.n7 rfl rfl rfl fun p7 H8 i8=> ?_;refine i8.dK lc.c lc.n8 rfl rfl rfl fun p8 H9 i9=> ?_;refine i9.dK lc.c lc.n9 rfl rfl rfl fun p9 H10 i10=> ?_;refine i10.dK lc.c lc.n10 rfl rfl rfl fun p10 H11 i11=> ?_;refine i11.dK lc.c lc.n11 rfl rfl rfl fun p11 H12 i12=> ?_;refine i12.dT lc.c lc.n12 rfl rfl rfl fun p12 H13 i13=> ?_;clear i0 i1 i2 i3 i4 i5 i6 i7 i8 i9 i10 i11 i12
 let ps:List Addr:=[p0,p1,p2,p3,p4,p5,p6,p7,p8,p9,p10,p11,p12]
 let cs:List (Addr × HO):=[(p0,.lst []),(p1,.lst []),(p2,.dK []),(p3,.dK []),(p4,.dK []),(p5,.dK []),(p6,.dK []),(p7,.dK []),(p8,.dK []),(p9,.dK []),(p10,.dK []),(p11,.dK []),(p12,.dT [])]
 let LA:=fun ex=>LoA.mk ex dx p0 p1 p2 p3 p4 p5 p6 p7 p8 p9 p10 p11 p12
 have nd:ps.Nodup:=i13.nd;have ct:∀{i:Nat} {p:Addr} {c:HO},(cs[i]? =some (p,c))->H13 p=some c/\xx 0 ps p=some (0+i,none):=fun {i p c} h=>⟨i13.at' _ (ak h),DS nd (by have:=congrArg (Option.map (·.1)) h;rw[<-bb] at this;exact this)⟩;have tin:∀b i,xx 0 ps b=some i->∃o,(b,o)∈cs:=fun b i h=>by
  have hm:b∈(cs.map (·.1)):=vD h;obtain⟨q,hq,rfl⟩:=bO.mp hm;exact⟨q.2,hq⟩
 have aT:xx 0 ps a=none:=by
  cases h:xx 0 ps a with
  | none=>rfl
  | some i=>obtain⟨o,ho⟩:=tin a i h;exact absurd rfl (i13.new _ ho).2
 have nN:∀{α:Type} (k:Key),kN (fun _=>([]:List α)) k=[]:=fun {α} k=>by cases k with | inl i=>show(if _ then _ else _)=_;split<;>rfl | inr r=>rfl
 have nS:∀{α:Type} (k:Key),kS (fun _=>([]:List α)) k=[]:=fun {α} k=>by cases k<;>rfl
 have l0:LoreAt C (LA []) a 0 (xx 0 ps) H13 LoI.emp:=⟨(fun b i h=>by obtain⟨o,ho⟩:=tin b i h;rw[i13.at' _ ho];intro z;cases z),aT,i13.ob,FLs.nil (ct (i:=0) rfl).2 (ct (i:=0) rfl).1,FLs.nil (ct (i:=1) rfl).2 (ct (i:=1) rfl).1,⟨(ct (i:=2) rfl).2,[],(ct (i:=2) rfl).1,fun k _=>rfl,ay _⟩,FK.nil Ow (ct (i:=3) rfl).2 (ct (i:=3) rfl).1,FTb.nil nN (ct (i:=4) rfl).2 (ct (i:=4) rfl).1,FTb.nil nN (ct (i:=5) rfl).2 (ct (i:=5) rfl).1,FTb.nil nS (ct (i:=6) rfl).2 (ct (i:=6) rfl).1,FTb.nil nS (ct (i:=7) rfl).2 (ct (i:=7) rfl).1,FTb.nil nS (ct (i:=8) rfl).2 (ct (i:=8) rfl).1,FTb.nil nN (ct (i:=9) rfl).2 (ct (i:=9) rfl).1,FTb.nil nN (ct (i:=10) rfl).2 (ct (i:=10) rfl).1,FK.nil O5 (ct (i:=11) rfl).2 (ct (i:=11) rfl).1,FT.nil OK (ct (i:=12) rfl).2 (ct (i:=12) rfl).1,fun k h=>(ai h).elim,ay _,rfl,.inl rfl⟩;have nm1:ju anyW:=by show fU _=true;decide+kernel
 have nm2:ju nothW:=by show fU _=true;decide+kernel
 refine⟨_,_,l0.ob,l0.lkNo,a,_,0,_,_,_,anyW,rfl,l0,rfl,nm1,by decide,hd,by decide,fun H14 T14 f14 l14=> ?_⟩;rw[N0];refine⟨a,C,dx,_,rfl,l14.ob,lc.c,lc.n13,by show 13<1000;decide,?_⟩;have l15:=l14.setex (A':=(LA Lh)) rfl (.inr (.inl rfl)) rfl;have y15:jn "anything" (.int ((0:Nat):Int)) (mV (LA []))=mV (LA Lh):=rfl;rw[y15];refine⟨_,_,l15.ob,l15.lkNo,a,_,_,_,_,_,nothW,rfl,l15,rfl,nm2,by decide,hd,by decide,fun H16 T16 f16 l16=> ?_⟩;rw[show(LoI.num nothW (LoI.num anyW LoI.emp)).ix nothW=1 from L5];refine⟨a,C,dx,_,rfl,l16.ob,lc.c,lc.n14,by show 14<1000;decide,?_⟩;have l17:=l16.setex (A':=(LA Gp)) rfl (.inr (.inr rfl)) rfl;have y17:jn "nothing" (.int ((1:Nat):Int)) (mV (LA Lh))=mV (LA Gp):=rfl;rw[y17];generalize hT0:xx 0 ps=T0 at f14 tin aT;have un:∀{b o},H b=some o->b≠a->H13 b=some o/\∀i k,T0 b=some (i,k)->i∉[0,1,2]:=fun {b o} e n=>⟨i13.old b o e n,fun i k z=>by
  obtain⟨o',ho⟩:=tin b _ z;have:=(i13.new _ ho).1;rw[e] at this;cases this⟩
 have un14:∀{b o},H b=some o->b≠a->H14 b=some o/\∀i k,T14 b=some (i,k)->i∉[0,1,2]:=fun {b o} e n=>by
  obtain⟨u1,u2⟩:=un e n;refine⟨f14.but b o u1 u2,fun i k z=> ?_⟩;rcases f14.new b _ z with z | z
  · exact u2 i k z
  · rw[u1] at z;cases z.1
 have un16:∀{b o},H b=some o->b≠a->H16 b=some o/\∀i k,T16 b=some (i,k)->False:=fun {b o} e n=>by
  obtain⟨u1,u2⟩:=un14 e n;have e15:upd H14 a (.ins C dx (mV (LA Lh))) b=some o:=by rw[aB n];exact u1
  refine⟨f16.but b o e15 u2,fun i k z=> ?_⟩;rcases f16.new b _ z with z | z
  · rcases f14.new b _ z with z | z
    · obtain⟨o',ho⟩:=tin b _ z;have:=(i13.new _ ho).1;rw[e] at this;cases this
    · rw[(un e n).1] at z;cases z.1
  · rw[e15] at z;cases z.1
 refine q _ (LA Gp) T16 (fun b o e n=>by rw[aB n];exact(un16 e n).1) (fun b i z=> ?_) l17 rfl;have nb:b≠a:=fun e=>by rw[e,l16.oT] at z;cases z
 cases e:H b with
 | none=>rfl
 | some o=>exact((un16 e nb).2 i.1 i.2 z).elim
end
noncomputable def LoI.of(ps:List (Int × Sy))(ks:List Kd):LoI:=ks.foldl (fun L k=>LoI.kk k L) (ps.foldl (fun L q=>LoI.learn q.1 q.2 L) LoI.init)
noncomputable def iu(ps:List (Int × Sy)):Nat:=(ps.map fun q=>6 * q.2.szs+2).sum
noncomputable def jk(ks:List Kd):Nat:=(ks.map fun k=>5 * k.sz).sum
def iN{α:Type}(f:α->Nat)(l:List α)(i:Nat):((l.take i).map f).sum<=(l.map f).sum:=by
 conv=>rhs;rw[<-jw i l,bx,gh]
 exact cY _ _
def iO{α:Type}(f:α->Nat){l:List α}{i:Nat}{x:α}(h:l[i]? =some x):((l.take (i+1)).map f).sum=((l.take i).map f).sum+f x:=by
 rw[bK,h,bx,gh];simp
def lJ{α β:Type}(f:β->α->β)(b:β){l:List α}{i:Nat}{x:α}(h:l[i]? =some x):(l.take (i+1)).foldl f b=f ((l.take i).foldl f b) x:=by
 rw[bK,h,gu];rfl
def LoI.tb_rest(n:Int)(s:Sy)(L:LoI):(LoI.tb n s L).parts=L.parts/\(LoI.tb n s L).shapes=L.shapes:=by cases s<;>exact⟨rfl,rfl⟩
def LoI.learn_ok(n:Int)(s:Sy){L:LoI}(o:L.Ok):(LoI.learn n s L).Ok:=(LoI.kks_ok o _).of (LoI.tb_rest _ _ _).1 (LoI.tb_rest _ _ _).2
theorem jj{α:Type}{f:LoI->α->LoI}(hf:∀L x,L.Ok->(f L x).Ok):∀(l:List α) {L:LoI},L.Ok->(l.foldl f L).Ok
 | [],_,o=>o
 | x::l,_,o=>jj hf l (hf _ x o)
def wI(d:Nat)(k:Kd):Prop:=ju k/\k.nt<=24/\k.dep<d
inductive rE(C:Addr)(d:Nat)(vs:List V)(H:Hp)(Q:VK):Prop
 | mk:∀lp lf ys zs ps ks,(vs=[.ref lp,.ref lf])->(H lp=some (.lst ys))->(PrL H ys ps)->(H lf=some (.lst zs))->(KL H zs ks)->((∀q∈ps,q.2.gd d))->((∀k∈ks,wI d k))->(2+iu ps+jk ks<=40000)->(∀H' a A T,Same H H'->(∀b i,T b=some i->H b=none)->H a=none->LoreAt C A a (2+iu ps+jk ks) T H' (LoI.of ps ks)->A.ex=Gp->Q (.ref a) H')->rE C d vs H Q
def xU(C:Addr)(d:Nat):Sp:=fun vs H Q _=>rE C d vs H Q
section
def scLoreOf:bj ["pairs","further","lore","number","saying","kind"] BJ (aJ vY):=gy
def CY(F:Fun K "lore_of" "lore_of" vY f fd)(lc:xu K C)(Gin:Il P w K mg base C (2 * d+1) "Lore" nE (Bo C))(Gle:Ml P w K mg base C (2 * d+3) "learn" BH (Bl C d))(Gkn:Ml P w K mg base C (d+1) "know" nG (mB C d))(Gno:Ml P w K mg base C (2 * d) "number_of" fJ (nu C d)):bW P w K mg base eW (2 * d+4) f fd BJ (xU C d):=by
 refine F.o scLoreOf fun cdv A outer s0 H vs Q E hr h=> ?_;obtain⟨lp,lf,ys,zs,ps,ks,rfl,elp,hps,elf,hks,gp,gk,hN,q⟩:=h;refine⟨_,aZ (fz 2 scLoreOf.nd (NN Gin hr)) (hG (jR (bS aA) (eJ rfl (bw (e_ 3 scLoreOf.nd) (bw (e_ 4 scLoreOf.nd) dA))) (aV (be (ij bH lc.c Gle hr (fg bU bX))))) (aZ (jR (bS bf) (e_ 5 scLoreOf.nd) (aV (be (ij bH lc.c Gkn hr (eP (ij bH lc.c Gno hr (eP dH))))))) (aV (cI bH)))),?_⟩;refine fun a dx ha hdx ne=> ?_;refine⟨a,dx,rfl,aa,fun H1 B T1 bt tn l1 ex=>⟨rfl,?_⟩⟩;have s1:Same H H1:=fun b o e=>by
  have nb:b≠a:=br e ha;have nd:b≠dx:=br e hdx;exact bt b o (by rw[aB nb,aB nd];exact e) nb
 have t1:∀b i,T1 b=some i->H b=none:=fun b i z=>by
  have:=tn b i z;by_cases h1:b=a
  · rw[h1];exact ha
  · by_cases h2:b=dx
    · rw[h2];exact hdx
    · rw[aB h1,aB h2] at this;exact this
 have frS:∀{S:List Nat} {T2:Tg} {H2:Hp},Fr S T1 T2 H1 H2->Same H H2/\∀b i,T2 b=some i->H b=none:=fun {S T2 H2} fr=>⟨fun b o e=>fr.but b o (s1 b o e) (fun i k z=>by rw[t1 b _ z] at e;cases e),fun b i z=>by
  rcases fr.new b i z with z | z
  · exact t1 b i z
  · cases e:H b with
    | none=>rfl
    | some o=>rw[s1 b o e] at z;cases z.1⟩
 have okI:=LoI.init_ok;have lp2:ys.length=ps.length:=aX hps;have lk2:zs.length=ks.length:=aX hks;refine⟨fun σ H'=>∃(o3 o4 o5:Option V) (T':Tg),σ=[some (.ref lp),some (.ref lf),some (.ref a),o3,o4,o5]/\Fr DE T1 T' H1 H'/\LoreAt C B a (2+iu ps) T' H' (ps.foldl (fun L q=>LoI.learn q.1 q.2 L) LoI.init),?_,?_⟩
 · refine⟨⟨_,SqL.of (s1 _ _ elp)⟩,bR (xs:=ys) (fun i σ H'=>∃(o3 o4 o5:Option V) (T':Tg),σ=[some (.ref lp),some (.ref lf),some (.ref a),o3,o4,o5]/\Fr DE T1 T' H1 H'/\LoreAt C B a (2+iu (ps.take i)) T' H' ((ps.take i).foldl (fun L q=>LoI.learn q.1 q.2 L) LoI.init)) ⟨none,none,none,T1,rfl,Fr.refl,l1.mono (cY _ _)⟩ ?_ ?_ ?_⟩
   · rintro i σ H' _ ⟨o3,o4,o5,T',rfl,fr,_⟩;exact SqL.of ((frS fr).1 _ _ elp)
   · rintro i x σ H' hx ⟨o3,o4,o5,T',rfl,fr,l⟩;obtain⟨pq,hpq,t,vy,rfl,ht,hsy⟩:=bT hps hx;have sm:=(frS fr).1;have c1:=iO (fun q:Int × Sy=>6 * q.2.szs+2) hpq;have c2:=iN (fun q:Int × Sy=>6 * q.2.szs+2) ps (i+1);have c3:iu (ps.take (i+1))=iu (ps.take i)+(6 * pq.2.szs+2):=c1;have c4:iu (ps.take (i+1))<=iu ps:=c2;refine⟨_,SqT.of (sm _ _ ht),rfl,?_⟩;refine⟨_,_,l.ob,l.lkLe,a,B,_,T',_,pq.1,vy,pq.2,rfl,l,jj (fun L q o=>LoI.learn_ok _ _ o) _ okI,hsy.mono sm.tups,gp _ (ak hpq),by lia,fun H2 T2 f2 l2=>⟨_,_,_,T2,rfl,fr.trans f2,?_⟩⟩;rw[c3,lJ _ _ hpq];exact l2.mono (by lia)
   · rintro σ H' ⟨o3,o4,o5,T',rfl,fr,l⟩;rw[lp2,bp] at l;exact⟨o3,o4,o5,T',rfl,fr,l⟩
 rintro σ H' ⟨o3,o4,o5,T',rfl,fr,l⟩;have S012:∀j∈[0,1,2],j∈DE:=by decide
 have S5:∀j∈[3,9,10,11,12],j∈DE:=by decide
 have okP:(ps.foldl (fun L q=>LoI.learn q.1 q.2 L) LoI.init).Ok:=jj (fun L q o=>LoI.learn_ok _ _ o) _ okI;refine⟨⟨_,SqL.of ((frS fr).1 _ _ elf)⟩,bR (xs:=zs) (fun i σ H2=>∃(o5:Option V) (T2:Tg),σ=[some (.ref lp),some (.ref lf),some (.ref a),o3,o4,o5]/\Fr DE T1 T2 H1 H2/\LoreAt C B a (2+iu ps+jk (ks.take i)) T2 H2 ((ks.take i).foldl (fun L k=>LoI.kk k L) (ps.foldl (fun L q=>LoI.learn q.1 q.2 L) LoI.init))) ⟨o5,T',rfl,fr,l.mono (cY _ _)⟩ ?_ ?_ ?_⟩
 · rintro i σ H2 _ ⟨o5,T2,rfl,f2,_⟩;exact SqL.of ((frS f2).1 _ _ elf)
 · rintro i x σ H2 hx ⟨o5,T2,rfl,f2,l2⟩;obtain⟨k,hk,ik⟩:=KL.get hks hx;have sm:=(frS f2).1;obtain⟨g1,g2,g3⟩:=gk k (ak hk);have c3:jk (ks.take (i+1))=jk (ks.take i)+5 * k.sz:=iO (fun k:Kd=>5 * k.sz) hk;have c4:jk (ks.take (i+1))<=jk ks:=iN (fun k:Kd=>5 * k.sz) ks (i+1);refine⟨_,_,l2.ob,l2.lkKn,_,_,l2.ob,l2.lkNo,a,B,_,T2,_,x,k,rfl,l2,IsK.mono sm.tups ik,g1,g2,g3,by lia,fun H3 T3 f3 l3=> ?_⟩;refine⟨a,B,_,T3,_,k,rfl,l3,LoI.num_ok _ (jj (fun L q o=>LoI.kk_ok _ o) _ okP),LoI.num_has _ _,g3,by lia,fun H4 T4 f4 l4=>⟨_,T4,rfl,(f2.trans (f3.mono S012)).trans (f4.mono S5),?_⟩⟩;rw[c3,lJ _ _ hk];exact l4.mono (by lia)
 · rintro σ H2 ⟨o5,T2,rfl,f2,l2⟩;rw[lk2,bp] at l2;exact(q H2 a B T2 (frS f2).1 (frS f2).2 ha l2 ex)
end
inductive Fi where
 | is (x k:Nat) | has (x:Nat) (t:Str) (y:Nat)
 deriving DecidableEq
structure StI where
 steps:List DB
 facts:List Fi
 stand:List Nat
def Iq(H:Hp)(v:V):Fi->Prop
 | .is x k=>∃p:Addr,v= .ref p/\H p=some (.tup [.int (x:Int),.int (k:Int)])
 | .has x t y=>∃p:Addr,v= .ref p/\H p=some (.tup [.int (x:Int),.str t,.int (y:Int)])
def fi_mo:Mo Iq:=fun H H' v f t h=>by
 cases f with
 | is x k=>obtain⟨p,e,h⟩:=h;exact⟨p,e,t _ _ h⟩
 | has x r y=>obtain⟨p,e,h⟩:=h;exact⟨p,e,t _ _ h⟩
noncomputable def Fi.key:Fi->List Key
 | .is x k=>[.inl (x:Int),.inl (k:Int)]
 | .has x t y=>[.inl (x:Int),.inr t,.inl (y:Int)]
theorem Fi.key_inj:∀{a b:Fi},a.key=b.key->a=b
 | .is x k,.is x' k',h=>by simp only[Fi.key,bD,Sum.inl.injEq,and_true] at h;rw[show x=x' by lia,show k=k' by lia]
 | .is _ _,.has _ _ _,h=>by simp[Fi.key] at h
 | .has _ _ _,.is _ _,h=>by simp[Fi.key] at h
 | .has x t y,.has x' t' y',h=>by simp only[Fi.key,bD,Sum.inl.injEq,Sum.inr.injEq,and_true] at h;rw[show x=x' by lia,h.2.1,show y=y' by lia]
noncomputable def cL(l:List Nat):Nat:=l.foldl (fun m i=>m ||| 2^i) 0
def yS(l:List Nat)(i:Nat):cL (l++[i])=cL l ||| 2^i:=by unfold cL;rw[gu];rfl
def gB(l:List Nat)(i:Nat):(cL l).testBit i=decide (i∈l):=by
 have key:∀(l:List Nat) (m:Nat),(l.foldl (fun m i=>m ||| 2^i) m).testBit i=(m.testBit i || decide (i∈l)):=fun l=>by
  induction l with
  | nil=>intro m;simp
  | cons j l ih=>
    intro m;rw[gi,ih,xh];by_cases e:j=i
    · subst e;simp
    · have:¬ i=j:=fun z=>e z.symm;simp[e,this]
 show(l.foldl _ 0).testBit i=_;rw[key l 0];simp
def nO(h:∀i∈l,i<n):cL l<2^n:=by
 refine Nat.lt_pow_two_of_testBit _ fun i hi=> ?_;rw[gB,aq];exact fun z=>by have:=h i z;lia
noncomputable def iX(F:List Fi)(x:Nat):List Nat:=F.filterMap fun | .is x' k=>if x'=x then some k else none | _=>none
noncomputable def iQ(F:List Fi)(k:Nat):List Nat:=F.filterMap fun | .is x k'=>if k'=k then some x else none | _=>none
noncomputable def fj(sh:List Sh)(F:List Fi)(x:Nat)(r:Str):List Nat:=F.filterMap fun
 | .is x' k=>if x'=x then(match sh[k]? with | some (.some r' c)=>if r'=r then some c else none | _=>none) else none
 | _=>none
noncomputable def eS(F:List Fi)(x:Nat)(t:Str):List Nat:=F.filterMap fun | .has x' t' y=>if x'=x/\t'=t then some y else none | _=>none
noncomputable def cE(F:List Fi)(y:Nat)(t:Str):List Nat:=F.filterMap fun | .has x t' y'=>if y'=y/\t'=t then some x else none | _=>none
noncomputable def Iy:Fi->List Str
 | .is _ _=>[]
 | .has _ t _=>[t]
noncomputable def eG(F:List Fi):List Str:=cW [] (F.flatMap Iy)
noncomputable def BS(F:List Fi)(ks:List Key):Option V:=(F.findIdx? fun f=>f.key=ks).map fun(i:Nat)=>V.int (i:Int)
noncomputable def Au(g:Nat->List Nat):Key->Option V
 | .inl i=>if 0<=i/\g i.toNat≠[] then some (.int (cL (g i.toNat):Nat)) else none
 | .inr _=>none
noncomputable def Dc(g:Nat->Str->List Nat):List Key->Option V
 | [.inl i,.inr t]=>if 0<=i/\g i.toNat t≠[] then some (.int (cL (g i.toNat t):Nat)) else none
 | _=>none
def wO(g:Nat->List Nat)(i:Nat):(Au g (.inl (i:Int))).getD (.int 0)= .int (cL (g i):Nat):=by
 show Option.getD (if 0<=(i:Int)/\g (i:Int).toNat≠[] then some (V.int (cL (g (i:Int).toNat):Nat)) else none) _=_;rw[cB];by_cases e:g i=[]
 · rw[aD (fun z=>z.2 e),e];rfl
 · rw[aI ⟨by lia,e⟩];rfl
def qI(g:Nat->Str->List Nat)(i:Nat)(t:Str):(Dc g [.inl (i:Int),.inr t]).getD (.int 0)= .int (cL (g i t):Nat):=by
 show Option.getD (if 0<=(i:Int)/\g (i:Int).toNat t≠[] then some (V.int (cL (g (i:Int).toNat t):Nat)) else none) _=_;rw[cB];by_cases e:g i t=[]
 · rw[aD (fun z=>z.2 e),e];rfl
 · rw[aI ⟨by lia,e⟩];rfl
def qJ{n:Nat}(h1:g' n=g n++[j])(h2:∀i,i≠n->g' i=g i):(fun k:Key=>if k= .inl (n:Int) then some (V.int ((cL (g n) ||| 2^j:Nat):Int)) else Au g k)=Au g':=by
 funext k
 cases k with
 | inl i=>
   by_cases e:i=(n:Int)
   · subst e;rw[aI rfl];show _=if 0<=(n:Int)/\g' (n:Int).toNat≠[] then some (V.int (cL (g' (n:Int).toNat):Nat)) else none
     rw[cB,h1,aI ⟨by lia,by simp⟩,yS]
   · rw[aD (fun z=>e (by injection z))];show(if 0<=i/\g i.toNat≠[] then some (V.int (cL (g i.toNat):Nat)) else none)=if 0<=i/\g' i.toNat≠[] then some (V.int (cL (g' i.toNat):Nat)) else none
     by_cases c:0<=i
     · rw[h2 i.toNat (by lia)]
     · rw[aD (fun z=>c z.1),aD (fun z=>c z.1)]
 | inr r=>rw[aD (by intro z;cases z)];rfl
def wN{n:Nat}(h1:g' n t=g n t++[j])(h2:∀i s,¬ (i=n/\s=t)->g' i s=g i s):(fun k:List Key=>if k=[.inl (n:Int),.inr t] then some (V.int ((cL (g n t) ||| 2^j:Nat):Int)) else Dc g k)=Dc g':=by
 funext k
 by_cases e:k=[.inl (n:Int),.inr t]
 · subst e;rw[aI rfl];show _=if 0<=(n:Int)/\g' (n:Int).toNat t≠[] then some (V.int (cL (g' (n:Int).toNat t):Nat)) else none
   rw[cB,h1,aI ⟨by lia,by simp⟩,yS]
 · rw[aD e]
   match k,e with
   | [.inl i,.inr s],e=>
     show(if 0<=i/\g i.toNat s≠[] then some (V.int (cL (g i.toNat s):Nat)) else none)=if 0<=i/\g' i.toNat s≠[] then some (V.int (cL (g' i.toNat s):Nat)) else none
     by_cases c:0<=i
     · rw[h2 i.toNat s (fun z=>e (by rw[z.2,<-z.1,OE c]))]
     · rw[aD (fun z=>c z.1),aD (fun z=>c z.1)]
   | [],_=>rfl
   | [.inl _],_=>rfl
   | [.inr _],_=>rfl
   | [.inr _,_],_=>rfl
   | [.inl _,.inl _],_=>rfl
   | x::y::z::w,_=>cases x<;>cases y<;>rfl
def yN(h:∀i,g' i=g i):Au g'=Au g:=by rw[funext h]
def iW(h:∀i t,g' i t=g i t):Dc g'=Dc g:=by rw[show g'=g from funext fun i=>funext (h i)]
def yv(h:f∉F):BS F f.key=none:=by
 unfold BS;rw[mS.mpr (fun g hg=>aq fun e=>h (by rw[<-Fi.key_inj e];exact hg))]
 rfl
def yu(h:f∈F):BS F f.key=some (.int (F.idxOf f:Nat)):=by
 unfold BS;have:(F.findIdx? fun g=>decide (g.key=f.key))=some (F.idxOf f):=by
  induction F with
  | nil=>exact(ai h).elim
  | cons g F ih=>
    rw[List.findIdx?_cons,List.idxOf_cons];by_cases e:g=f
    · subst e;simp
    · have e1:¬ g.key=f.key:=fun z=>e (Fi.key_inj z);rw[aD (by simp[e1]),cy.mpr e,cond_false,ih ((aE.mp h).resolve_left (fun z=>e z.symm))]
      rfl
 rw[this];rfl
def wx(h:f∉F):(fun k:List Key=>if k=f.key then some (V.int (F.length:Nat)) else BS F k)=BS (F++[f]):=by
 funext k
 unfold BS;rw[List.findIdx?_append];by_cases e:k=f.key
 · subst e;rw[aI rfl,mS.mpr (fun g hg=>aq fun e=>h (by rw[<-Fi.key_inj e];exact hg))];simp
 · rw[aD e];have:([f].findIdx? fun g=>decide (g.key=k))=none:=mS.mpr fun g hg=>by
    rw[ag.mp hg];exact aq fun z=>e z.symm
   rw[this];cases F.findIdx? fun g=>decide (g.key=k)<;>rfl
def IsSt(T:Tg)(H:Hp)(v:V)(s:DB):Prop:=∃p pf vf,v= .ref p/\H p=some (.tup [vf,.str s.r,.ref pf,qc s.n])/\IsF H s.f vf/\H pf=some (.lst (s.fr.map V.int))/\T pf=none
def Fr.free(f:Fr S T T' H H')(e:H b=some o)(t:T b=none):T' b=none/\H' b=some o:=by
 refine⟨?_,f.but b o e (fun i k z=>by rw[t] at z;cases z)⟩;cases c:T' b with
 | none=>rfl
 | some j=>
   rcases f.new b j c with z | z
   · rw[t] at z;cases z
   · rw[e] at z;cases z.1
def IsSt.fr(f:Fr S T T' H H')(h:IsSt T H v s):IsSt T' H' v s:=by
 obtain⟨p,pf,vf,e,h1,h2,h3,h4⟩:=h;obtain⟨t,e'⟩:=Fr.free f h3 h4;exact⟨p,pf,vf,e,f.tups _ _ h1,h2.mono f.tups,e',t⟩
def FSt(H:Hp)(T:Tg)(q:Addr)(ss:List DB):Prop:=T q=some (13,none)/\∃vs,H q=some (.lst vs)/\Paired (IsSt T H) vs ss
def FSt.fr(f:Fr S T T' H H')(hi:13∉S)(h:FSt H T q ss):FSt H' T' q ss:=by
 obtain⟨t,vs,e,r⟩:=h;exact⟨f.tg _ _ t,vs,f.at hi t e,Paired.imp' (fun _ _ z=>IsSt.fr f z) r⟩
structure zt where
 (dx q0 q1 q2 q3 q4 q5 q6 q7 q8 q9:Addr)
noncomputable def mU(B:zt)(l:Addr):List (Str × V):=[("lore",.ref l),("steps",.ref B.q0),("facts",.ref B.q1),("places",.ref B.q2),("stand_ins",.ref B.q3),("kinds_of",.ref B.q4),("those_of",.ref B.q5),("fillers_of",.ref B.q6),("ends",.ref B.q7),("starts",.ref B.q8),("ties",.ref B.q9)]
structure Gd where
 steps:List DB
 facts:List Fi
 pl:List Key->Option V
 st:Key->Option V
 ko:Key->Option V
 to:Key->Option V
 fo:List Key->Option V
 en:List Key->Option V
 sa:List Key->Option V
 ti:List Str
noncomputable def StI.gd(sh:List Sh)(S:StI):Gd:=⟨S.steps,S.facts,BS S.facts,Lg S.stand,Au (iX S.facts),Au (iQ S.facts),Dc (fj sh S.facts),Dc (eS S.facts),Dc (cE S.facts),eG S.facts⟩
structure StG(D:Addr)(B:zt)(b l:Addr)(n:Nat)(T:Tg)(H:Hp)(G:Gd):Prop where
 tg:TgOk T H
 oT:T b=none
 ob:H b=some (.ins D B.dx (mU B l))
 s0:FSt H T B.q0 G.steps
 s1:FLs Iq H T 14 B.q1 G.facts
 s2:FT H T 15 B.q2 G.pl n
 s3:FK H T 16 B.q3 G.st n
 s4:FK H T 17 B.q4 G.ko n
 s5:FK H T 18 B.q5 G.to n
 s6:FT H T 19 B.q6 G.fo n
 s7:FT H T 20 B.q7 G.en n
 s8:FT H T 21 B.q8 G.sa n
 s9:T B.q9=some (22,none)/\H B.q9=some (.dK (Dn G.ti))/\G.ti.length<=n
noncomputable abbrev fb:List Nat:=[13,14,15,16,17,18,19,20,21,22]
def StG.renew{D:Addr}{B:zt}{b l:Addr}{n n':Nat}{S:List Nat}{T T':Tg}{H H':Hp}{G G':Gd}(h:StG D B b l n T H G)(hn:n<=n')(f:Fr S T T' H H')(tg:TgOk T' H')(c0:FSt H' T' B.q0 G'.steps\/(13∉S/\G'.steps=G.steps):=by exact .inr ⟨by decide,rfl⟩)(c1:FLs Iq H' T' 14 B.q1 G'.facts\/(14∉S/\G'.facts=G.facts):=by exact .inr ⟨by decide,rfl⟩)(c2:FT H' T' 15 B.q2 G'.pl n'\/(15∉S/\G'.pl=G.pl):=by exact .inr ⟨by decide,rfl⟩)(c3:FK H' T' 16 B.q3 G'.st n'\/(16∉S/\G'.st=G.st):=by exact .inr ⟨by decide,rfl⟩)(c4:FK H' T' 17 B.q4 G'.ko n'\/(17∉S/\G'.ko=G.ko):=by exact .inr ⟨by decide,rfl⟩)(c5:FK H' T' 18 B.q5 G'.to n'\/(18∉S/\G'.to=G.to):=by exact .inr ⟨by decide,rfl⟩)(c6:FT H' T' 19 B.q6 G'.fo n'\/(19∉S/\G'.fo=G.fo):=by exact .inr ⟨by decide,rfl⟩)(c7:FT H' T' 20 B.q7 G'.en n'\/(20∉S/\G'.en=G.en):=by exact .inr ⟨by decide,rfl⟩)(c8:FT H' T' 21 B.q8 G'.sa n'\/(21∉S/\G'.sa=G.sa):=by exact .inr ⟨by decide,rfl⟩)(c9:(H' B.q9=some (.dK (Dn G'.ti))/\G'.ti.length<=n')\/(22∉S/\G'.ti=G.ti):=by exact .inr ⟨by decide,rfl⟩):StG D B b l n' T' H' G':=by
 have k:∀{i p g},FK H T i p g n->i∉S->FK H' T' i p g n':=fun z hi=>by
  obtain⟨t,kvs,e,r,le⟩:=z.fr f hi;exact⟨t,kvs,e,r,au le hn⟩
 have t:∀{i p g},FT H T i p g n->i∉S->FT H' T' i p g n':=fun z hi=>by
  obtain⟨t,kvs,e,r,le⟩:=z.fr f hi;exact⟨t,kvs,e,r,au le hn⟩
 obtain⟨o1,o2⟩:=Fr.free f h.ob h.oT;refine⟨tg,o1,o2,?_,?_,?_,?_,?_,?_,?_,?_,?_,f.tg _ _ h.s9.1,?_⟩
 · rcases c0 with c | ⟨c,e⟩;exact c;rw[e];exact h.s0.fr f c
 · rcases c1 with c | ⟨c,e⟩;exact c;rw[e];exact h.s1.fr fi_mo f c
 · rcases c2 with c | ⟨c,e⟩;exact c;rw[e];exact t h.s2 c
 · rcases c3 with c | ⟨c,e⟩;exact c;rw[e];exact k h.s3 c
 · rcases c4 with c | ⟨c,e⟩;exact c;rw[e];exact k h.s4 c
 · rcases c5 with c | ⟨c,e⟩;exact c;rw[e];exact k h.s5 c
 · rcases c6 with c | ⟨c,e⟩;exact c;rw[e];exact t h.s6 c
 · rcases c7 with c | ⟨c,e⟩;exact c;rw[e];exact t h.s7 c
 · rcases c8 with c | ⟨c,e⟩;exact c;rw[e];exact t h.s8 c
 · rcases c9 with c | ⟨c,e⟩;exact c;rw[e];exact⟨f.at c h.s9.1 h.s9.2.1,au h.s9.2.2 hn⟩
abbrev nc{p q:Prop}(h:q):p\/q:= .inr h
def StG.same(h:StG D B b l n T H G)(s:Same H H'):StG D B b l n T H' G:=by
 have z:∀{i:Nat},i∉([]:List Nat):=fun h=>ai h;exact h.renew (ar _) (Fr.of (S:=[]) s) (h.tg.same s) (nc ⟨z,rfl⟩) (nc ⟨z,rfl⟩) (nc ⟨z,rfl⟩) (nc ⟨z,rfl⟩) (nc ⟨z,rfl⟩) (nc ⟨z,rfl⟩) (nc ⟨z,rfl⟩) (nc ⟨z,rfl⟩) (nc ⟨z,rfl⟩) (nc ⟨z,rfl⟩)
def StG.fr(h:StG D B b l n T H G)(f:Fr S T T' H H')(hS:∀i∈S,i<13)(tg:TgOk T' H'):StG D B b l n T' H' G:=by
 have z:∀{i:Nat},13<=i->i∉S:=fun hi m=>by have:=hS _ m;lia
 exact h.renew (ar _) f tg (nc ⟨z (by decide),rfl⟩) (nc ⟨z (by decide),rfl⟩) (nc ⟨z (by decide),rfl⟩) (nc ⟨z (by decide),rfl⟩) (nc ⟨z (by decide),rfl⟩) (nc ⟨z (by decide),rfl⟩) (nc ⟨z (by decide),rfl⟩) (nc ⟨z (by decide),rfl⟩) (nc ⟨z (by decide),rfl⟩) (nc ⟨z (by decide),rfl⟩)
section
def StG.put15(h:StG D B b l n T H G)(e:H B.q2=some (.dT kvs)):Fr [15] T T H (upd H B.q2 (.dT (bZ kvs k v)))/\StG D B b l (n+1) T (upd H B.q2 (.dT (bZ kvs k v))) {G with pl:=fun j=>if j=k then some v else G.pl j}:=by
 obtain⟨n',f⟩:=h.s2.put (k:=k) (v:=v) e;exact⟨f,h.renew (bu n) f h.tg.put (c2:= .inl n')⟩
def StG.put16(h:StG D B b l n T H G)(e:H B.q3=some (.dK kvs)):Fr [16] T T H (upd H B.q3 (.dK (bZ kvs k v)))/\StG D B b l (n+1) T (upd H B.q3 (.dK (bZ kvs k v))) {G with st:=fun j=>if j=k then some v else G.st j}:=by
 obtain⟨n',f⟩:=h.s3.put (k:=k) (v:=v) e;exact⟨f,h.renew (bu n) f h.tg.put (c3:= .inl n')⟩
def StG.put17(h:StG D B b l n T H G)(e:H B.q4=some (.dK kvs)):Fr [17] T T H (upd H B.q4 (.dK (bZ kvs k v)))/\StG D B b l (n+1) T (upd H B.q4 (.dK (bZ kvs k v))) {G with ko:=fun j=>if j=k then some v else G.ko j}:=by
 obtain⟨n',f⟩:=h.s4.put (k:=k) (v:=v) e;exact⟨f,h.renew (bu n) f h.tg.put (c4:= .inl n')⟩
def StG.put18(h:StG D B b l n T H G)(e:H B.q5=some (.dK kvs)):Fr [18] T T H (upd H B.q5 (.dK (bZ kvs k v)))/\StG D B b l (n+1) T (upd H B.q5 (.dK (bZ kvs k v))) {G with to:=fun j=>if j=k then some v else G.to j}:=by
 obtain⟨n',f⟩:=h.s5.put (k:=k) (v:=v) e;exact⟨f,h.renew (bu n) f h.tg.put (c5:= .inl n')⟩
def StG.put19(h:StG D B b l n T H G)(e:H B.q6=some (.dT kvs)):Fr [19] T T H (upd H B.q6 (.dT (bZ kvs k v)))/\StG D B b l (n+1) T (upd H B.q6 (.dT (bZ kvs k v))) {G with fo:=fun j=>if j=k then some v else G.fo j}:=by
 obtain⟨n',f⟩:=h.s6.put (k:=k) (v:=v) e;exact⟨f,h.renew (bu n) f h.tg.put (c6:= .inl n')⟩
def StG.put20(h:StG D B b l n T H G)(e:H B.q7=some (.dT kvs)):Fr [20] T T H (upd H B.q7 (.dT (bZ kvs k v)))/\StG D B b l (n+1) T (upd H B.q7 (.dT (bZ kvs k v))) {G with en:=fun j=>if j=k then some v else G.en j}:=by
 obtain⟨n',f⟩:=h.s7.put (k:=k) (v:=v) e;exact⟨f,h.renew (bu n) f h.tg.put (c7:= .inl n')⟩
def StG.put21(h:StG D B b l n T H G)(e:H B.q8=some (.dT kvs)):Fr [21] T T H (upd H B.q8 (.dT (bZ kvs k v)))/\StG D B b l (n+1) T (upd H B.q8 (.dT (bZ kvs k v))) {G with sa:=fun j=>if j=k then some v else G.sa j}:=by
 obtain⟨n',f⟩:=h.s8.put (k:=k) (v:=v) e;exact⟨f,h.renew (bu n) f h.tg.put (c8:= .inl n')⟩
def StG.app14(h:StG D B b l n T H G)(e:H B.q1=some (.lst vs))(r:Iq H v f):Fr [14] T T H (upd H B.q1 (.lst (vs++[v])))/\StG D B b l n T (upd H B.q1 (.lst (vs++[v]))) {G with facts:=G.facts++[f]}:=by
 obtain⟨n',f⟩:=h.s1.app (v:=v) (x:=f) fi_mo e r;exact⟨f,h.renew (ar n) f h.tg.put (c1:= .inl n')⟩
def StG.app13(h:StG D B b l n T H G)(e:H B.q0=some (.lst vs))(r:IsSt T H v s):Fr [13] T T H (upd H B.q0 (.lst (vs++[v])))/\StG D B b l n T (upd H B.q0 (.lst (vs++[v]))) {G with steps:=G.steps++[s]}:=by
 obtain⟨t,vs',e',rs⟩:=id h.s0;rw[e] at e';cases e';have f:Fr [13] T T H (upd H B.q0 (.lst (vs++[v]))):=Fr.put t (by simp) (fun xs z=>by rw[e] at z;cases z);have n':FSt (upd H B.q0 (.lst (vs++[v]))) T B.q0 (G.steps++[s]):=⟨t,_,aa,qb (Paired.imp' (fun _ _ z=>IsSt.fr f z) rs) (.cons (IsSt.fr f r) .nil)⟩;exact⟨f,h.renew (ar n) f h.tg.put (c0:= .inl n')⟩
def StG.put22(h:StG D B b l n T H G):Fr [22] T T H (upd H B.q9 (.dK (bZ (Dn G.ti) (.inr t) (.bl true))))/\StG D B b l (n+1) T (upd H B.q9 (.dK (bZ (Dn G.ti) (.inr t) (.bl true)))) {G with ti:=n_ G.ti t}:=by
 have f:Fr [22] T T H (upd H B.q9 (.dK (bZ (Dn G.ti) (.inr t) (.bl true)))):=Fr.put h.s9.1 (by simp) (fun xs z=>by rw[h.s9.2.1] at z;cases z);exact⟨f,h.renew (bu n) f h.tg.put (c9:= .inl ⟨by rw[aa,pw],au (zq _ _) (eX h.s9.2.2)⟩)⟩
end
structure vn(K:Frag)(D:Addr):Prop where
 c:Cls K D
 m0:NoAttr K D "lore"
 m1:NoAttr K D "steps"
 m2:NoAttr K D "facts"
 m3:NoAttr K D "places"
 m4:NoAttr K D "stand_ins"
 m5:NoAttr K D "kinds_of"
 m6:NoAttr K D "those_of"
 m7:NoAttr K D "fillers_of"
 m8:NoAttr K D "ends"
 m9:NoAttr K D "starts"
 m10:NoAttr K D "ties"
section
variable (B:zt)(l:Addr)
theorem qz:(mU B l).lookup ("lore":Str)=some (V.ref l):=rfl
theorem LH:(mU B l).lookup ("steps":Str)=some (V.ref B.q0):=rfl
theorem La:(mU B l).lookup ("facts":Str)=some (V.ref B.q1):=rfl
theorem D_:(mU B l).lookup ("places":Str)=some (V.ref B.q2):=rfl
theorem Oj:(mU B l).lookup ("stand_ins":Str)=some (V.ref B.q3):=rfl
theorem sk5:(mU B l).lookup ("kinds_of":Str)=some (V.ref B.q4):=rfl
theorem MU:(mU B l).lookup ("those_of":Str)=some (V.ref B.q5):=rfl
theorem Nw:(mU B l).lookup ("fillers_of":Str)=some (V.ref B.q6):=rfl
theorem MT:(mU B l).lookup ("ends":Str)=some (V.ref B.q7):=rfl
theorem K_:(mU B l).lookup ("starts":Str)=some (V.ref B.q8):=rfl
theorem LG:(mU B l).lookup ("ties":Str)=some (V.ref B.q9):=rfl
theorem zM:(mU B l).lookup ("keep_is":Str)=none:=rfl
theorem x_:(mU B l).lookup ("keep_has":Str)=none:=rfl
theorem dE:(mU B l).lookup ("tell_is":Str)=none:=rfl
theorem g_:(mU B l).lookup ("tell_has":Str)=none:=rfl
theorem nC:(mU B l).lookup ("let_stand":Str)=none:=rfl
theorem D7:(mU B l).lookup ("begin":Str)=none:=rfl
theorem D6:(mU B l).lookup ("go_on":Str)=none:=rfl
theorem vL:(mU B l).lookup ("from_kind":Str)=none:=rfl
theorem tU:(mU B l).lookup ("from_pairs":Str)=none:=rfl
theorem yb:(mU B l).lookup ("from_end":Str)=none:=rfl
theorem ya:(mU B l).lookup ("from_tie":Str)=none:=rfl
theorem rO:(mU B l).lookup ("from_chains":Str)=none:=rfl
end
noncomputable def StI.keep(S:StI)(f:Fi)(st:DB):StI:=⟨S.steps++[st],S.facts++[f],S.stand⟩
noncomputable def StI.cnt(S:StI):Nat:=6 * S.facts.length+S.stand.length
def fT{β:Type}(g:Fi->Option β)(F:List Fi)(f:Fi):(F++[f]).filterMap g=F.filterMap g++(match g f with | some y=>[y] | none=>[]):=by
 rw[M7]
 congr 1
 cases e:g f<;>simp[e]
def IX(F:List Fi)(x k:Nat):iX (F++[.is x k]) x=iX F x++[k]:=by unfold iX;rw[fT];simp
def IW(F:List Fi){x k i:Nat}(h:i≠x):iX (F++[.is x k]) i=iX F i:=by unfold iX;rw[fT];simp[bG h]
def Kl(F:List Fi)(x:Nat)(t:Str)(y i:Nat):iX (F++[.has x t y]) i=iX F i:=by unfold iX;rw[fT];simp
def Iv(F:List Fi)(x k:Nat):iQ (F++[.is x k]) k=iQ F k++[x]:=by unfold iQ;rw[fT];simp
def Iu(F:List Fi){x k i:Nat}(h:i≠k):iQ (F++[.is x k]) i=iQ F i:=by unfold iQ;rw[fT];simp[bG h]
def Jh(F:List Fi)(x:Nat)(t:Str)(y i:Nat):iQ (F++[.has x t y]) i=iQ F i:=by unfold iQ;rw[fT];simp
def KH{sh:List Sh}(F:List Fi){x k c:Nat}{r:Str}(h:sh[k]? =some (.some r c)):fj sh (F++[.is x k]) x r=fj sh F x r++[c]:=by unfold fj;rw[fT];simp[h]
def KG{sh:List Sh}(F:List Fi){x k c i:Nat}{r s:Str}(h:sh[k]? =some (.some r c))(n:¬ (i=x/\s=r)):fj sh (F++[.is x k]) i s=fj sh F i s:=by
 unfold fj;rw[fT];simp only[h];by_cases e:x=i
 · subst e;have:¬ r=s:=fun z=>n ⟨rfl,z.symm⟩;simp[this]
 · simp[e]
def KF{sh:List Sh}(F:List Fi){x k:Nat}(h:∀r c,sh[k]? ≠some (.some r c))(i:Nat)(s:Str):fj sh (F++[.is x k]) i s=fj sh F i s:=by
 unfold fj;rw[fT];cases e:sh[k]? with
 | none=>by_cases e2:x=i<;>simp[e,e2]
 | some q=>
   cases q with
   | no=>by_cases e2:x=i<;>simp[e,e2]
   | both a b=>by_cases e2:x=i<;>simp[e,e2]
   | some r c=>exact absurd e (h r c)
def HX(F:List Fi)(x:Nat)(t:Str)(y i:Nat)(s:Str):fj sh (F++[.has x t y]) i s=fj sh F i s:=by unfold fj;rw[fT];simp
def KM(F:List Fi)(x:Nat)(t:Str)(y:Nat):eS (F++[.has x t y]) x t=eS F x t++[y]:=by unfold eS;rw[fT];simp
def Mr(F:List Fi){x y i:Nat}{t s:Str}(n:¬ (i=x/\s=t)):eS (F++[.has x t y]) i s=eS F i s:=by
 unfold eS;rw[fT];have:¬ (x=i/\t=s):=fun z=>n ⟨z.1.symm,z.2.symm⟩;simp[this]
def I_(F:List Fi)(x k i:Nat)(s:Str):eS (F++[.is x k]) i s=eS F i s:=by unfold eS;rw[fT];simp
def JA(F:List Fi)(x:Nat)(t:Str)(y:Nat):cE (F++[.has x t y]) y t=cE F y t++[x]:=by unfold cE;rw[fT];simp
def LO(F:List Fi){x y i:Nat}{t s:Str}(n:¬ (i=y/\s=t)):cE (F++[.has x t y]) i s=cE F i s:=by
 unfold cE;rw[fT];have:¬ (y=i/\t=s):=fun z=>n ⟨z.1.symm,z.2.symm⟩;simp[this]
def IJ(F:List Fi)(x k i:Nat)(s:Str):cE (F++[.is x k]) i s=cE F i s:=by unfold cE;rw[fT];simp
def Iz(F:List Fi)(x k:Nat):eG (F++[.is x k])=eG F:=by unfold eG;rw[OC];simp[Iy]
def Jq(F:List Fi)(x:Nat)(t:Str)(y:Nat):eG (F++[.has x t y])=n_ (eG F) t:=by
 unfold eG cW;rw[OC,gu]
 rfl
abbrev lU(D:Addr)(B:zt)(b l:Addr)(T:Tg)(H:Hp)(sh:List Sh)(S:StI):Prop:=StG D B b l S.cnt T H (S.gd sh)
def StG.mono(h:StG D B b l n T H G)(hn:n<=n'):StG D B b l n' T H G:=by
 have z:∀{i:Nat},i∉([]:List Nat):=fun h=>ai h;exact h.renew hn (Fr.refl (S:=[])) h.tg (nc ⟨z,rfl⟩) (nc ⟨z,rfl⟩) (nc ⟨z,rfl⟩) (nc ⟨z,rfl⟩) (nc ⟨z,rfl⟩) (nc ⟨z,rfl⟩) (nc ⟨z,rfl⟩) (nc ⟨z,rfl⟩) (nc ⟨z,rfl⟩) (nc ⟨z,rfl⟩)
def zb{S:StI}(nf:Fi.is x k∉S.facts)(hs:∀r c,sh[k]? ≠some (.some r c)):(S.keep (.is x k) st).gd sh={S.gd sh with steps:=S.steps++[st],facts:=S.facts++[.is x k],pl:=fun j=>if j=(Fi.is x k).key then some (V.int (S.facts.length:Nat)) else BS S.facts j,ko:=fun j=>if j= .inl (x:Int) then some (V.int ((cL (iX S.facts x) ||| 2^k:Nat):Int)) else Au (iX S.facts) j,to:=fun j=>if j= .inl (k:Int) then some (V.int ((cL (iQ S.facts k) ||| 2^x:Nat):Int)) else Au (iQ S.facts) j}:=by
 unfold StI.gd StI.keep;rw[wx nf,qJ (IX _ _ _) (fun i h=>IW _ h),qJ (Iv _ _ _) (fun i h=>Iu _ h),iW (KF _ hs),iW (I_ _ _ _),iW (IJ _ _ _),Iz]
def AH{S:StI}(nf:Fi.is x k∉S.facts)(hs:sh[k]? =some (.some r c)):(S.keep (.is x k) st).gd sh={S.gd sh with steps:=S.steps++[st],facts:=S.facts++[.is x k],pl:=fun j=>if j=(Fi.is x k).key then some (V.int (S.facts.length:Nat)) else BS S.facts j,ko:=fun j=>if j= .inl (x:Int) then some (V.int ((cL (iX S.facts x) ||| 2^k:Nat):Int)) else Au (iX S.facts) j,to:=fun j=>if j= .inl (k:Int) then some (V.int ((cL (iQ S.facts k) ||| 2^x:Nat):Int)) else Au (iQ S.facts) j,fo:=fun j=>if j=[.inl (x:Int),.inr r] then some (V.int ((cL (fj sh S.facts x r) ||| 2^c:Nat):Int)) else Dc (fj sh S.facts) j}:=by
 unfold StI.gd StI.keep;rw[wx nf,qJ (IX _ _ _) (fun i h=>IW _ h),qJ (Iv _ _ _) (fun i h=>Iu _ h),wN (KH _ hs) (fun i s n=>KG _ hs n),iW (I_ _ _ _),iW (IJ _ _ _),Iz]
def KC{S:StI}(nf:Fi.has x t y∉S.facts):(S.keep (.has x t y) st).gd sh={S.gd sh with steps:=S.steps++[st],facts:=S.facts++[.has x t y],pl:=fun j=>if j=(Fi.has x t y).key then some (V.int (S.facts.length:Nat)) else BS S.facts j,en:=fun j=>if j=[.inl (x:Int),.inr t] then some (V.int ((cL (eS S.facts x t) ||| 2^y:Nat):Int)) else Dc (eS S.facts) j,sa:=fun j=>if j=[.inl (y:Int),.inr t] then some (V.int ((cL (cE S.facts y t) ||| 2^x:Nat):Int)) else Dc (cE S.facts) j,ti:=n_ (eG S.facts) t}:=by
 unfold StI.gd StI.keep;rw[wx nf,yN (Kl _ _ _ _),yN (Jh _ _ _ _),iW (HX _ _ _ _),wN (KM _ _ _ _) (fun i s n=>Mr _ n),wN (JA _ _ _ _) (fun i s n=>LO _ n),Jq]
def pd(h:13<=i/\i<23):∀j∈[i],j∈fb:=fun j hj=>by
 rw[ag.mp hj];simp
 lia
def KB:∀i∈fb,13<=i:=by decide
def oW(h:n<=m)(hm:m<=9999999):n<sizeLine:=bz (au h hm) (by decide)
inductive rJ(C D:Addr)(vs:List V)(H:Hp)(Q:VK):Prop
 | mk:∀(b l:Addr) (B:zt) (A:LoA) (N:Nat) (T:Tg) (L:LoI) (S:StI) (x k:Nat) (v:V) (st:DB),(vs=[.ref b,.int (x:Int),.int (k:Int),v])->(lU D B b l T H L.shapes S)->(LoreAt C A l N T H L)->(L.Ok)->(Fi.is x k∉S.facts)->(x<L.parts.length)->(k<L.parts.length)->(N<=50000)->(S.cnt<=9900000)->(S.steps.length=S.facts.length)->(IsSt T H v st)->(∀H' T',Fr fb T T' H H'->lU D B b l T' H' L.shapes (S.keep (.is x k) st)->Q .non H')->rJ C D vs H Q
def xW(C D:Addr):Sp:=fun vs H Q _=>rJ C D vs H Q
section
def scKeepIs:bj ["self","x","kind","step","fact","shape","key"] BE (aJ rV):=gy
def C0(F:Fun K "keep_is" "Still.keep_is" rV f fd)(lc:xu K C)(sc:vn K D)(ml:mg "len"=none):bW P w K mg base eW 1 f fd BE (xW C D):=by
 refine F.o scKeepIs fun cdv A0 outer s0 H vs Q E hr h=> ?_;obtain⟨b,l,B,A,N,T,L,S,x,k,v,st,rfl,sa,la,lok,nf,hx,hk,hN,hc,sl,ist,q⟩:=h;have hu:=fh hr;refine⟨_,aZ (fz 4 scKeepIs.nd (cX (fg bf bH)))
  (aZ (dI hu (dv aA) bX (tW ml (dv aA)) rfl)
  (aZ (be (yy (dv aA) bX))
  (aZ (be (yy (dv aA) bU))
  (aZ (dI hu (dv aA) bf (bh uR (sx hu (dv aA) bf av) (bh oR av bH)) rfl)
  (aZ (dI hu (dv aA) bH (bh uR (sx hu (dv aA) bH av) (bh oR av bf)) rfl)
  (aZ (fz 5 scKeepIs.nd (j7 cm (dv (dv aA)) bH))
  (aV (bA (PW.pt (fq (eI wC dH fL) (fm (eI bN (dj dH) aS)))) (aZ (fz 6 scKeepIs.nd (cX (fg bf (dj dH)))) (aV (dI hu (dv aA) dN (bh uR (sx hu (dv aA) dN av) (bh oR av (dj dH))) rfl))) aQ)))))))),?_⟩
 refine⟨by show 2<=sizeLine;decide,fun t0 ht0=> ?_⟩;have z1:=aj ht0 (.tup [.int (x:Int),.int (k:Int)]);have s1:=sa.same z1;have i1:=IsSt.fr (Fr.of (S:=fb) (T:=T) z1) ist;have h1:upd H t0 (.tup [.int (x:Int),.int (k:Int)]) t0=some (.tup [.int (x:Int),.int (k:Int)]):=aa;have f1:Fr fb T T H (upd H t0 (.tup [.int (x:Int),.int (k:Int)])):=Fr.of z1;generalize upd H t0 (.tup [.int (x:Int),.int (k:Int)])=H1 at s1 i1 h1 f1⊢;obtain⟨_,vs0,e0,r0⟩:=id s1.s0;obtain⟨_,kv2,e2,_,l2⟩:=id s1.s2;have v0:vs0.length=S.facts.length:=(aX r0).trans sl;obtain⟨g2,s2⟩:=s1.put15 (k:=(Fi.is x k).key) (v:= .int (vs0.length:Nat)) e2;refine⟨D,_,_,_,s1.ob,sc.c,sc.m1,LH B l,B.q0,vs0,rfl,.inl (SqL.of e0),D,_,_,_,s1.ob,sc.c,sc.m3,D_ B l,_,.inr ⟨kv2,(Fi.is x k).key,t0,e2,rfl,h1,oW l2 (by lia),rfl⟩,?_⟩;have i2:=IsSt.fr g2 i1;have h2:=g2.tups _ _ h1;have f2:=f1.trans (g2.mono (pd (by decide)));generalize upd H1 B.q2 (.dT (bZ kv2 (Fi.is x k).key (.int (vs0.length:Nat))))=H2 at s2 i2 h2 f2⊢;obtain⟨_,vs1,e3,r3⟩:=id s2.s1;obtain⟨g3,s3⟩:=s2.app14 (v:= .ref t0) (f:= .is x k) e3 ⟨t0,rfl,h2⟩;have v1:vs1.length<=S.cnt:=by rw[aX r3];show S.facts.length<=6 * S.facts.length+S.stand.length;lia
 refine⟨D,_,_,_,s2.ob,sc.c,sc.m2,La B l,.inl ⟨rfl,_,SqL.of e3⟩,vs1,e3,oW v1 (by lia),?_⟩;have i3:=IsSt.fr g3 i2;have f3:=f2.trans (g3.mono (pd (by decide)));generalize upd H2 B.q1 (.lst (vs1++[.ref t0]))=H3 at s3 i3 f3⊢;obtain⟨_,vs2,e4,r4⟩:=id s3.s0;obtain⟨g4,s4⟩:=s3.app13 (v:=v) (s:=st) e4 i3;have v2:vs2.length<=S.cnt:=by rw[aX r4];show S.steps.length<=6 * S.facts.length+S.stand.length;lia
 refine⟨D,_,_,_,s3.ob,sc.c,sc.m1,LH B l,.inl ⟨rfl,_,SqL.of e4⟩,vs2,e4,oW v2 (by lia),?_⟩;have f4:=f3.trans (g4.mono (pd (by decide)));generalize upd H3 B.q0 (.lst (vs2++[v]))=H4 at s4 f4⊢;obtain⟨_,kv4,e5,r5,l5⟩:=id s4.s4;have w5:(cS kv4 (.inl (x:Int))).getD (.int 0)= .int (cL (iX S.facts x):Nat):=by rw[r5];exact wO _ _
 obtain⟨g5,s5⟩:=s4.put17 (k:= .inl (x:Int)) (v:= .int ((cL (iX S.facts x) ||| 2^k:Nat):Int)) e5;have lle:=la.le;refine⟨D,_,_,_,s4.ob,sc.c,sc.m5,sk5 B l,.inl ⟨_,.inl e5⟩,_,DGet.k (k:= .inl (x:Int)) e5,⟨by lia,by lia,by decide⟩,?_⟩;rw[w5];refine Lc ⟨D,_,_,_,s4.ob,sc.c,sc.m5,sk5 B l,_,DPut.k (k:= .inl (x:Int)) e5 (oW l5 (by lia)),?_⟩;have f5:=f4.trans (g5.mono (pd (by decide)));generalize upd H4 B.q4 (.dK (bZ kv4 (.inl (x:Int)) (.int ((cL (iX S.facts x) ||| 2^k:Nat):Int))))=H5 at s5 f5⊢;obtain⟨_,kv5,e6,r6,l6⟩:=id s5.s5;have w6:(cS kv5 (.inl (k:Int))).getD (.int 0)= .int (cL (iQ S.facts k):Nat):=by rw[r6];exact wO _ _
 obtain⟨g6,s6⟩:=s5.put18 (k:= .inl (k:Int)) (v:= .int ((cL (iQ S.facts k) ||| 2^x:Nat):Int)) e6;refine⟨D,_,_,_,s5.ob,sc.c,sc.m6,MU B l,.inl ⟨_,.inl e6⟩,_,DGet.k (k:= .inl (k:Int)) e6,⟨by lia,by lia,by decide⟩,?_⟩;rw[w6];refine Lc ⟨D,_,_,_,s5.ob,sc.c,sc.m6,MU B l,_,DPut.k (k:= .inl (k:Int)) e6 (oW l6 (by lia)),?_⟩;have f6:=f5.trans (g6.mono (pd (by decide)));generalize upd H5 B.q5 (.dK (bZ kv5 (.inl (k:Int)) (.int ((cL (iQ S.facts k) ||| 2^x:Nat):Int))))=H6 at s6 f6⊢;have la6:=la.fr f6 KB s6.tg;obtain⟨_,ss,e7,r7⟩:=id la6.f1;obtain⟨sk,hsk⟩:∃sk,L.shapes[k]? =some sk:=⟨_,aN (by rw[la.sl];exact hk)⟩;obtain⟨vsk,hv,ivk⟩:=qa r7 hsk;refine⟨D,_,_,_,s6.ob,sc.c,sc.m0,qz B l,C,_,_,_,la6.ob,lc.c,lc.n1,lk1 A,ss,vsk,SqL.of e7,aU hv,?_⟩;have cn:(S.keep (.is x k) st).cnt=S.cnt+6:=by show 6 * (S.facts++[_]).length+S.stand.length=_;rw[ah];show 6 * (S.facts.length+1)+_=6 * S.facts.length+_+6;lia
 cases sk with
 | no=>
   obtain rfl:vsk= .non:=ivk;refine⟨rfl,?_⟩;refine(q H6 T f6 ?_);rw[lU,cn,zb nf (fun r c z=>by rw[hsk] at z;cases z),<-v0];exact s6.mono (by lia)
 | both i j=>
   obtain⟨pp,rfl,hpp⟩:=ivk;refine⟨rfl,?_⟩;refine(cQ hpp rfl ?_);refine(q H6 T f6 ?_);rw[lU,cn,zb nf (fun r c z=>by rw[hsk] at z;cases z),<-v0];exact s6.mono (by lia)
 | some r c=>
   obtain⟨pp,rfl,hpp⟩:=ivk;refine⟨rfl,?_⟩;refine(cQ hpp rfl ?_);have hc7:c<L.parts.length:=lok.lt _ _ hsk;refine(cQ hpp rfl ⟨by show 2<=sizeLine;decide,fun t7 ht7=> ?_⟩);have z7:=aj ht7 (.tup [.int (x:Int),.str r]);have s7:=s6.same z7;have h7:upd H6 t7 (.tup [.int (x:Int),.str r]) t7=some (.tup [.int (x:Int),.str r]):=aa;have f7:=f6.trans (Fr.of (S:=fb) (T:=T) z7);have hpp7:=z7.tups _ _ hpp;generalize upd H6 t7 (.tup [.int (x:Int),.str r])=H7 at s7 h7 f7 hpp7⊢;obtain⟨_,kv6,e8,r8,l8⟩:=id s7.s6;have w8:(cS kv6 [.inl (x:Int),.inr r]).getD (.int 0)= .int (cL (fj L.shapes S.facts x r):Nat):=by rw[r8];exact qI _ _ _
   obtain⟨g8,s8⟩:=s7.put19 (k:=[.inl (x:Int),.inr r]) (v:= .int ((cL (fj L.shapes S.facts x r) ||| 2^c:Nat):Int)) e8;refine⟨D,_,_,_,s7.ob,sc.c,sc.m7,Nw B l,.inr ⟨_,.inl e8⟩,_,DGet.t (k:=[.inl (x:Int),.inr r]) e8 h7,cQ hpp7 rfl ⟨⟨by lia,by lia,by decide⟩,?_⟩⟩;rw[w8];refine Lc ⟨D,_,_,_,s7.ob,sc.c,sc.m7,Nw B l,_,.inr ⟨kv6,[.inl (x:Int),.inr r],t7,e8,rfl,h7,oW l8 (by lia),rfl⟩,q _ T (f7.trans (g8.mono (pd (by decide)))) ?_⟩;rw[lU,cn,AH nf hsk,<-v0];exact s8.mono (by lia)
end
inductive pD(D:Addr)(vs:List V)(H:Hp)(Q:VK):Prop
 | mk:∀(b l:Addr) (B:zt) (sh:List Sh) (T:Tg) (S:StI) (x y:Nat) (t:Str) (v:V) (st:DB),(vs=[.ref b,.int (x:Int),.str t,.int (y:Int),v])->(lU D B b l T H sh S)->(Fi.has x t y∉S.facts)->(x<=50000)->(y<=50000)->(S.cnt<=9900000)->(S.steps.length=S.facts.length)->(IsSt T H v st)->(∀H' T',Fr fb T T' H H'->lU D B b l T' H' sh (S.keep (.has x t y) st)->Q .non H')->pD D vs H Q
def uE(C D:Addr):Sp:=fun vs H Q _=>pD D vs H Q
section
def scKeepHas:bj ["self","x","tie","y","step","fact"] BD (aJ oG):=gy
def Al(F:Fun K "keep_has" "Still.keep_has" oG f fd)(sc:vn K D)(ml:mg "len"=none):bW P w K mg base eW 1 f fd BD (uE C D):=by
 refine F.o scKeepHas fun cdv A0 outer s0 H vs Q E hr h=> ?_;obtain⟨b,l,B,sh,T,S,x,y,t,v,st,rfl,sa,nf,hx,hy,hc,sl,ist,q⟩:=h;have hu:=fh hr;refine⟨_,aZ (fz 5 scKeepHas.nd (cX (gc bf bH bU)))
  (aZ (dI hu (dv aA) dH (tW ml (dv aA)) rfl)
  (aZ (be (yy (dv aA) dH))
  (aZ (be (yy (dv aA) bX))
  (aZ (dI hu (dv aA) (cX (fg bf bH)) (bh uR (sx hu (dv aA) (cX (fg bf bH)) av) (bh oR av bU)) rfl)
  (aZ (dI hu (dv aA) (cX (fg bU bH)) (bh uR (sx hu (dv aA) (cX (fg bU bH)) av) (bh oR av bf)) rfl)
  (aV (dI hu (dv aA) bH dq rfl))))))),?_⟩
 refine⟨by show 3<=sizeLine;decide,fun t0 ht0=> ?_⟩;have z1:=aj ht0 (.tup [.int (x:Int),.str t,.int (y:Int)]);have s1:=sa.same z1;have i1:=IsSt.fr (Fr.of (S:=fb) (T:=T) z1) ist;have h1:upd H t0 (.tup [.int (x:Int),.str t,.int (y:Int)]) t0=some (.tup [.int (x:Int),.str t,.int (y:Int)]):=aa;have f1:Fr fb T T H (upd H t0 (.tup [.int (x:Int),.str t,.int (y:Int)])):=Fr.of z1;generalize upd H t0 (.tup [.int (x:Int),.str t,.int (y:Int)])=H1 at s1 i1 h1 f1⊢;obtain⟨_,vs0,e0,r0⟩:=id s1.s0;obtain⟨_,kv2,e2,_,l2⟩:=id s1.s2;have v0:vs0.length=S.facts.length:=(aX r0).trans sl;obtain⟨g2,s2⟩:=s1.put15 (k:=(Fi.has x t y).key) (v:= .int (vs0.length:Nat)) e2;refine⟨D,_,_,_,s1.ob,sc.c,sc.m1,LH B l,B.q0,vs0,rfl,.inl (SqL.of e0),D,_,_,_,s1.ob,sc.c,sc.m3,D_ B l,_,.inr ⟨kv2,(Fi.has x t y).key,t0,e2,rfl,h1,oW l2 (by lia),rfl⟩,?_⟩;have i2:=IsSt.fr g2 i1;have h2:=g2.tups _ _ h1;have f2:=f1.trans (g2.mono (pd (by decide)));generalize upd H1 B.q2 (.dT (bZ kv2 (Fi.has x t y).key (.int (vs0.length:Nat))))=H2 at s2 i2 h2 f2⊢;obtain⟨_,vs1,e3,r3⟩:=id s2.s1;obtain⟨g3,s3⟩:=s2.app14 (v:= .ref t0) (f:= .has x t y) e3 ⟨t0,rfl,h2⟩;have v1:vs1.length<=S.cnt:=by rw[aX r3];show S.facts.length<=6 * S.facts.length+S.stand.length;lia
 refine⟨D,_,_,_,s2.ob,sc.c,sc.m2,La B l,.inl ⟨rfl,_,SqL.of e3⟩,vs1,e3,oW v1 (by lia),?_⟩;have i3:=IsSt.fr g3 i2;have f3:=f2.trans (g3.mono (pd (by decide)));generalize upd H2 B.q1 (.lst (vs1++[.ref t0]))=H3 at s3 i3 f3⊢;obtain⟨_,vs2,e4,r4⟩:=id s3.s0;obtain⟨g4,s4⟩:=s3.app13 (v:=v) (s:=st) e4 i3;have v2:vs2.length<=S.cnt:=by rw[aX r4];show S.steps.length<=6 * S.facts.length+S.stand.length;lia
 refine⟨D,_,_,_,s3.ob,sc.c,sc.m1,LH B l,.inl ⟨rfl,_,SqL.of e4⟩,vs2,e4,oW v2 (by lia),?_⟩;have f4:=f3.trans (g4.mono (pd (by decide)));generalize upd H3 B.q0 (.lst (vs2++[v]))=H4 at s4 f4⊢;obtain⟨_,kw4,e4a,r4a,l4a⟩:=id s4.s7;refine⟨D,_,_,_,s4.ob,sc.c,sc.m8,MT B l,.inr ⟨_,.inl e4a⟩,by show 2<=sizeLine;decide,fun u4 hu4=> ?_⟩;have zz4:=aj hu4 (.tup [.int (x:Int),.str t]);have s4b:=s4.same zz4;have h4b:upd H4 u4 (.tup [.int (x:Int),.str t]) u4=some (.tup [.int (x:Int),.str t]):=aa;have f4b:=f4.trans (Fr.of (S:=fb) (T:=T) zz4);generalize upd H4 u4 (.tup [.int (x:Int),.str t])=H4b at s4b h4b f4b⊢;obtain⟨_,kv4b,e4b,r4b,l4b⟩:=id s4b.s7;have w4b:(cS kv4b [.inl (x:Int),.inr t]).getD (.int 0)= .int (cL (eS S.facts x t):Nat):=by rw[r4b];exact qI _ _ _
 refine⟨_,DGet.t (k:=[.inl (x:Int),.inr t]) e4b h4b,⟨by lia,by lia,by decide⟩,?_⟩;rw[w4b];refine Lc ⟨D,_,_,_,s4b.ob,sc.c,sc.m8,MT B l,by show 2<=sizeLine;decide,fun w4 hw4=> ?_⟩;have zy4:=aj hw4 (.tup [.int (x:Int),.str t]);have s4c:=s4b.same zy4;have h4c:upd H4b w4 (.tup [.int (x:Int),.str t]) w4=some (.tup [.int (x:Int),.str t]):=aa;have f4c:=f4b.trans (Fr.of (S:=fb) (T:=T) zy4);have e4c:=zy4 _ _ e4b;generalize upd H4b w4 (.tup [.int (x:Int),.str t])=H4c at s4c h4c f4c e4c⊢;obtain⟨g5,s5⟩:=s4c.put20 (k:=[.inl (x:Int),.inr t]) (v:= .int ((cL (eS S.facts x t) ||| 2^y:Nat):Int)) e4c;refine⟨_,.inr ⟨kv4b,[.inl (x:Int),.inr t],w4,e4c,rfl,h4c,oW l4b (by lia),rfl⟩,?_⟩;have f5:=f4c.trans (g5.mono (pd (by decide)));generalize upd H4c B.q7 (.dT (bZ kv4b [.inl (x:Int),.inr t] (.int ((cL (eS S.facts x t) ||| 2^y:Nat):Int))))=H5 at s5 f5⊢;obtain⟨_,kw5,e5a,r5a,l5a⟩:=id s5.s8;refine⟨D,_,_,_,s5.ob,sc.c,sc.m9,K_ B l,.inr ⟨_,.inl e5a⟩,by show 2<=sizeLine;decide,fun u5 hu5=> ?_⟩;have zz5:=aj hu5 (.tup [.int (y:Int),.str t]);have s5b:=s5.same zz5;have h5b:upd H5 u5 (.tup [.int (y:Int),.str t]) u5=some (.tup [.int (y:Int),.str t]):=aa;have f5b:=f5.trans (Fr.of (S:=fb) (T:=T) zz5);generalize upd H5 u5 (.tup [.int (y:Int),.str t])=H5b at s5b h5b f5b⊢;obtain⟨_,kv5b,e5b,r5b,l5b⟩:=id s5b.s8;have w5b:(cS kv5b [.inl (y:Int),.inr t]).getD (.int 0)= .int (cL (cE S.facts y t):Nat):=by rw[r5b];exact qI _ _ _
 refine⟨_,DGet.t (k:=[.inl (y:Int),.inr t]) e5b h5b,⟨by lia,by lia,by decide⟩,?_⟩;rw[w5b];refine Lc ⟨D,_,_,_,s5b.ob,sc.c,sc.m9,K_ B l,by show 2<=sizeLine;decide,fun w5 hw5=> ?_⟩;have zy5:=aj hw5 (.tup [.int (y:Int),.str t]);have s5c:=s5b.same zy5;have h5c:upd H5b w5 (.tup [.int (y:Int),.str t]) w5=some (.tup [.int (y:Int),.str t]):=aa;have f5c:=f5b.trans (Fr.of (S:=fb) (T:=T) zy5);have e5c:=zy5 _ _ e5b;generalize upd H5b w5 (.tup [.int (y:Int),.str t])=H5c at s5c h5c f5c e5c⊢;obtain⟨g6,s6⟩:=s5c.put21 (k:=[.inl (y:Int),.inr t]) (v:= .int ((cL (cE S.facts y t) ||| 2^x:Nat):Int)) e5c;refine⟨_,.inr ⟨kv5b,[.inl (y:Int),.inr t],w5,e5c,rfl,h5c,oW l5b (by lia),rfl⟩,?_⟩;have f6:=f5c.trans (g6.mono (pd (by decide)));generalize upd H5c B.q8 (.dT (bZ kv5b [.inl (y:Int),.inr t] (.int ((cL (cE S.facts y t) ||| 2^x:Nat):Int))))=H6 at s6 f6⊢;obtain⟨g7,s7⟩:=s6.put22 (t:=t);refine⟨D,_,_,_,s6.ob,sc.c,sc.m10,LG B l,_,DPut.k (k:= .inr t) s6.s9.2.1 (by rw[pz];exact oW s6.s9.2.2 (by lia)),q _ T (f6.trans (g7.mono (pd (by decide)))) ?_⟩;have cn:(S.keep (.has x t y) st).cnt=S.cnt+6:=by show 6 * (S.facts++[_]).length+S.stand.length=_;rw[ah];show 6 * (S.facts.length+1)+_=6 * S.facts.length+_+6;lia
 rw[lU,cn,KC nf,<-v0];exact s7.mono (by lia)
end
structure Ev(C D:Addr)(B:zt)(A:LoA)(b l:Addr)(N:Nat)(T:Tg)(H:Hp)(L:LoI)(S:StI):Prop where
 sa:lU D B b l T H L.shapes S
 la:LoreAt C A l N T H L
 ok:L.Ok
 ex:A.ex=Gp
 hN:N<=50000
 sl:S.steps.length=S.facts.length
 p2:2<=L.parts.length
section
def Ev.next(h:Ev C D B A b l N T H L S)(f:Fr fb T T' H H')(sa:lU D B b l T' H' L.shapes S')(sl:S'.steps.length=S'.facts.length):Ev C D B A b l N T' H' L S':=⟨sa,h.la.fr f KB sa.tg,h.ok,h.ex,h.hN,sl,h.p2⟩
def Ev.same(h:Ev C D B A b l N T H L S)(s:Same H H'):Ev C D B A b l N T H' L S:=⟨StG.same h.sa s,h.la.same s,h.ok,h.ex,h.hN,h.sl,h.p2⟩
end
noncomputable def LoI.pt(L:LoI)(i:Nat):Kd:=L.parts.getD i (.nm "")
def LoI.pt_get{L:LoI}(h:i<L.parts.length):L.parts[i]? =some (L.pt i):=by
 unfold LoI.pt;rw[fe,aN h]
 rfl
noncomputable def StI.tellIs(L:LoI)(S:StI)(x k:Nat)(r:Str)(fr:List Int)(nn:Option Int):StI:=if Fi.is x k∈S.facts then S else S.keep (.is x k) ⟨.is (L.pt x) (L.pt k),r,fr,nn⟩
noncomputable def StI.addS(S:StI)(x:Nat):StI:=⟨S.steps,S.facts,S.stand++[x]⟩
noncomputable def StI.letStand(L:LoI)(S:StI)(x:Nat):StI:=if x∈S.stand then S else StI.tellIs L (if gU (L.pt x)=true then S.addS x else StI.tellIs L (S.addS x) x x "self" [] none) x 0 "all" [] none
noncomputable def StI.tellHas(L:LoI)(S:StI)(x:Nat)(t:Str)(y:Nat)(r:Str)(fr:List Int)(nn:Option Int):StI:=if Fi.has x t y∈S.facts then S else StI.letStand L (S.keep (.has x t y) ⟨.has (L.pt x) t (L.pt y),r,fr,nn⟩) y
def StI.keep_sl{S:StI}(h:S.steps.length=S.facts.length):(S.keep f st).steps.length=(S.keep f st).facts.length:=by
 show(S.steps++[st]).length=(S.facts++[f]).length;rw[ah,ah,h];rfl
def StI.keep_cnt(S:StI)(f:Fi)(st:DB):(S.keep f st).cnt=S.cnt+6:=by show 6 * (S.facts++[_]).length+S.stand.length=_;rw[ah];show 6 * (S.facts.length+1)+_=6 * S.facts.length+_+6;lia
def StI.tellIs_cnt(L:LoI)(S:StI)(x k:Nat)(r:Str)(fr:List Int)(nn:Option Int):(StI.tellIs L S x k r fr nn).cnt<=S.cnt+6:=by
 unfold StI.tellIs
 split
 · lia
 · rw[StI.keep_cnt];lia
def StI.addS_cnt(S:StI)(x:Nat):(S.addS x).cnt=S.cnt+1:=by show 6 * S.facts.length+(S.stand++[x]).length=_;rw[ah];show _+(_+1)=6 * S.facts.length+S.stand.length+1;lia
def uP(F:List Fi)(f:Fi):(BS F f.key).isSome=decide (f∈F):=by
 by_cases h:f∈F
 · rw[yu h,aG h];rfl
 · rw[yv h,aq h];rfl
inductive mv(C D:Addr)(vs:List V)(H:Hp)(Q:VK):Prop
 | mk:∀(b l:Addr) (B:zt) (A:LoA) (N:Nat) (T:Tg) (L:LoI) (S:StI) (x k:Nat) (r:Str) (pf:Addr) (fr:List Int) (nn:Option Int),(vs=[.ref b,.int (x:Int),.int (k:Int),.str r,.ref pf,qc nn])->(Ev C D B A b l N T H L S)->(x<L.parts.length)->(k<L.parts.length)->(S.cnt<=9900000)->(H pf=some (.lst (fr.map V.int)))->(T pf=none)->(∀H' T',Fr fb T T' H H'->Ev C D B A b l N T' H' L (StI.tellIs L S x k r fr nn)->Q .non H')->mv C D vs H Q
def gZ(C D:Addr):Sp:=fun vs H Q _=>mv C D vs H Q
inductive jN(C D:Addr)(vs:List V)(H:Hp)(Q:VK):Prop
 | mk:∀(b l:Addr) (B:zt) (A:LoA) (N:Nat) (T:Tg) (L:LoI) (S:StI) (x:Nat),(vs=[.ref b,.int (x:Int)])->(Ev C D B A b l N T H L S)->(x<L.parts.length)->(S.cnt<=9890000)->(∀H' T',Fr fb T T' H H'->Ev C D B A b l N T' H' L (StI.letStand L S x)->Q .non H')->jN C D vs H Q
def my(C D:Addr):Sp:=fun vs H Q _=>jN C D vs H Q
inductive kA(C D:Addr)(vs:List V)(H:Hp)(Q:VK):Prop
 | mk:∀(b l:Addr) (B:zt) (A:LoA) (N:Nat) (T:Tg) (L:LoI) (S:StI) (x:Nat) (t:Str) (y:Nat) (r:Str) (pf:Addr) (fr:List Int) (nn:Option Int),(vs=[.ref b,.int (x:Int),.str t,.int (y:Int),.str r,.ref pf,qc nn])->(Ev C D B A b l N T H L S)->(x<L.parts.length)->(y<L.parts.length)->(S.cnt<=9880000)->(H pf=some (.lst (fr.map V.int)))->(T pf=none)->(∀H' T',Fr fb T T' H H'->Ev C D B A b l N T' H' L (StI.tellHas L S x t y r fr nn)->Q .non H')->kA C D vs H Q
def jB(C D:Addr):Sp:=fun vs H Q _=>kA C D vs H Q
section
def scTellIs:bj ["self","x","kind","rule","froms","number","parts"] nF (aJ rT):=gy
def CS(F:Fun K "tell_is" "Still.tell_is" rT f fd)(lc:xu K C)(sc:vn K D)(Gki:Ml P w K mg base D 1 "keep_is" BE (xW C D)):bW P w K mg base eW 2 f fd nF (gZ C D):=by
 refine F.o scTellIs fun cdv A0 outer s0 H vs Q E hr h=> ?_;obtain⟨b,l,B,A,N,T,L,S,x,k,r,pf,fr,nn,rfl,ev,hx,hk,hc,epf,tpf,q⟩:=h;have hu:=fh hr;refine⟨_,aV (bA (eI (oS hu) (cX (fg bf bH)) (dv aA)) (aZ (fz 6 scTellIs.nd (dv (dv aA))) (aV (be (ij aA sc.c Gki hr (gc bf bH (cX (iU (cX (gc aS (j7 cm dN bf) (j7 cm dN bH))) bU bX dH))))))) aQ),?_⟩;refine⟨by show 2<=sizeLine;decide,fun t0 ht0=> ?_⟩;have z1:=aj ht0 (.tup [.int (x:Int),.int (k:Int)]);have ev1:=ev.same z1;have h1:upd H t0 (.tup [.int (x:Int),.int (k:Int)]) t0=some (.tup [.int (x:Int),.int (k:Int)]):=aa;have f1:Fr fb T T H (upd H t0 (.tup [.int (x:Int),.int (k:Int)])):=Fr.of z1;have epf1:=z1 _ _ epf;generalize upd H t0 (.tup [.int (x:Int),.int (k:Int)])=H1 at ev1 h1 f1 epf1⊢;obtain⟨_,kv2,e2,r2,l2⟩:=id ev1.sa.s2;have w2:(cS kv2 (Fi.is x k).key).isSome=decide (Fi.is x k∈S.facts):=by rw[r2];exact uP _ _
 refine⟨D,_,_,_,ev1.sa.ob,sc.c,sc.m3,D_ B l,B.q2,_,rfl,DGet.t (k:=(Fi.is x k).key) e2 h1,?_⟩;rw[w2];unfold StI.tellIs at q;by_cases hin:Fi.is x k∈S.facts
 · rw[aG hin];rw[aI hin] at q;exact(q H1 T f1 ev1)
 rw[aq hin];rw[aD hin] at q;obtain⟨_,ps,e3,r3⟩:=id ev1.la.f0;obtain⟨vx,hvx,ivx⟩:=qa r3 (LoI.pt_get hx);obtain⟨vk,hvk,ivk⟩:=qa r3 (LoI.pt_get hk);refine⟨D,_,_,_,ev1.sa.ob,sc.c,sc.m0,qz B l,C,_,_,_,ev1.la.ob,lc.c,lc.n0,Mf A,?_⟩;refine⟨_,_,ev1.sa.ob,zM B l,ps,vx,SqL.of e3,aU hvx,ps,vk,SqL.of e3,aU hvk,by show 3<=sizeLine;decide,fun t4 ht4=> ?_⟩;have z4:=aj ht4 (.tup [.str "is",vx,vk]);refine⟨by show 4<=sizeLine;decide,fun t5 ht5=> ?_⟩;have z5:=aj ht5 (.tup [.ref t4,.str r,.ref pf,qc nn]);have z45:=z4.trans z5;have ev5:=ev1.same z45;have f5:=f1.trans (Fr.of (S:=fb) (T:=T) z45);refine⟨b,l,B,A,N,T,L,S,x,k,.ref t5,⟨.is (L.pt x) (L.pt k),r,fr,nn⟩,rfl,ev5.sa,ev5.la,ev.ok,hin,hx,hk,ev.hN,hc,ev.sl,⟨t5,pf,.ref t4,rfl,aa,⟨t4,vx,vk,rfl,z5 _ _ aa,IsK.mono z45.tups ivx,IsK.mono z45.tups ivk⟩,z45 _ _ epf1,tpf⟩,fun H6 T6 f6 s6=>q H6 T6 (f5.trans f6) (ev5.next f6 s6 (StI.keep_sl ev.sl))⟩
def zO:bj fJ fJ (aJ mG):=gy
def yG(F:Fun K "let_stand" "Still.let_stand" mG f fd)(lc:xu K C)(sc:vn K D)(Gti:Ml P w K mg base D 2 "tell_is" nF (gZ C D))(Gst:Cl P w K mg base 4 "stands_for_thing" ["x"] xO):bW P w K mg base eW 5 f fd fJ (my C D):=by
 refine F.o zO fun cdv A0 outer s0 H vs Q E hr h=> ?_;obtain⟨b,l,B,A,N,T,L,S,x,rfl,ev,hx,hc,q⟩:=h;have hu:=fh hr;refine⟨_,aZ (bA (eI (kO hu) bf (dv aA)) (aV (lE)) aQ)
  (aZ (dI hu (dv aA) bf dq rfl)
  (aZ (bA (dO (cw (dF Gst hr (eP (j7 cm (dv (dv aA)) bf))))) (aV (be (ij aA sc.c Gti hr (bY bf (iU bf aS (bV cz) fL))))) aQ)
  (aV (be (ij aA sc.c Gti hr (bY bf (iU (dv (dv aA)) aS (bV cz) fL))))))),?_⟩
 obtain⟨_,kv3,e3,r3,l3⟩:=id ev.sa.s3;have w3:cS kv3 (.inl (x:Int))=if x∈S.stand then some (.bl true) else none:=by
  rw[r3];show(if 0<=(x:Int)/\(x:Int).toNat∈S.stand then _ else _)=_;simp
 refine⟨D,_,_,_,ev.sa.ob,sc.c,sc.m4,Oj B l,B.q3,_,rfl,DGet.k (k:= .inl (x:Int)) e3,?_⟩;rw[w3];unfold StI.letStand at q;by_cases hin:x∈S.stand
 · rw[aI hin];rw[aI hin] at q;exact(q H T Fr.refl ev)
 rw[aD hin];rw[aD hin] at q;obtain⟨g1,s1⟩:=ev.sa.put16 (k:= .inl (x:Int)) (v:= .bl true) e3;refine⟨D,_,_,_,ev.sa.ob,sc.c,sc.m4,Oj B l,_,DPut.k (k:= .inl (x:Int)) e3 (oW l3 (by lia)),?_⟩;have gd1:(S.addS x).gd L.shapes={S.gd L.shapes with st:=fun j=>if j= .inl (x:Int) then some (.bl true) else(S.gd L.shapes).st j}:=by
  unfold StI.gd StI.addS;rw[<-B3]
 have sa1:lU D B b l T (upd H B.q3 (.dK (bZ kv3 (.inl (x:Int)) (.bl true)))) L.shapes (S.addS x):=by
  rw[lU,StI.addS_cnt,gd1];exact s1
 have f1:=g1.mono (S':=fb) (pd (by decide));have ev1:Ev C D B A b l N T _ L (S.addS x):=ev.next f1 sa1 ev.sl;generalize upd H B.q3 (.dK (bZ kv3 (.inl (x:Int)) (.bl true)))=H1 at f1 ev1⊢;have c1:=StI.addS_cnt S x;obtain⟨_,ps,e4,r4⟩:=id ev1.la.f0;obtain⟨vx,hvx,ivx⟩:=qa r4 (LoI.pt_get hx);have okx:ju (L.pt x):=ev.la.gd _ (ak (LoI.pt_get hx));have lnx:Fh (L.pt x):=by
  cases e:L.pt x with
  | nm z=>rw[e] at okx;exact au (eC okx).2.1 (by decide)
  | two _ _=>trivial
  | som _ _=>trivial
 have p0:0<L.parts.length:=by have:=ev.p2;lia
 have fin:∀(H2:Hp) (T2:Tg) (S2:StI),Fr fb T T2 H H2->Ev C D B A b l N T2 H2 L S2->S2.cnt<=S.cnt+7->(∀H' T',Fr fb T T' H H'->Ev C D B A b l N T' H' L (StI.tellIs L S2 x 0 "all" [] none)->Q .non H')->∀pf,H2 pf=none->gZ C D [.ref b,.int (x:Int),.int 0,.str "all",.ref pf,.non] (upd H2 pf (.lst [])) (fun _ H'=>Q .non H') E0:=fun H2 T2 S2 f2 ev2 c2 q2 pf hpf=>
  ⟨b,l,B,A,N,T2,L,S2,x,0,"all",pf,[],none,rfl,ev2.same (aj hpf _),hx,p0,by lia,aa,ev2.sa.tg.free hpf,fun H3 T3 f3 ev3=>q2 H3 T3 ((f2.trans (Fr.of (aj hpf _))).trans f3) ev3⟩
 refine⟨D,_,_,_,ev1.sa.ob,sc.c,sc.m0,qz B l,C,_,_,_,ev1.la.ob,lc.c,lc.n0,Mf A,ps,vx,SqL.of e4,aU hvx,vx,L.pt x,rfl,ivx,lnx,fun H2 z2=> ?_⟩;have ev2:=ev1.same z2;have f2:=f1.trans (Fr.of (S:=fb) (T:=T) z2);cases hst:gU (L.pt x) with
 | true=>
   rw[aI hst] at q;refine⟨_,_,ev2.sa.ob,dE B l,D,_,_,_,ev2.sa.ob,sc.c,sc.m0,qz B l,C,_,_,_,ev2.la.ob,lc.c,lc.n13,Mc ev.ex,ay _,fun pf hpf=> ?_⟩;exact fin H2 T _ f2 ev2 (by lia) q pf hpf
 | false=>
   rw[aD (by rw[hst];exact bq)] at q;refine⟨_,_,ev2.sa.ob,dE B l,ay _,fun pf hpf=> ?_⟩;refine⟨b,l,B,A,N,T,L,S.addS x,x,x,"self",pf,[],none,rfl,ev2.same (aj hpf _),hx,hx,by lia,aa,ev2.sa.tg.free hpf,fun H3 T3 f3 ev3=> ?_⟩;have f3':=(f2.trans (Fr.of (S:=fb) (T:=T) (aj hpf (.lst [])))).trans f3;have c3:=StI.tellIs_cnt L (S.addS x) x x "self" [] none;refine⟨_,_,ev3.sa.ob,dE B l,D,_,_,_,ev3.sa.ob,sc.c,sc.m0,qz B l,C,_,_,_,ev3.la.ob,lc.c,lc.n13,Mc ev.ex,ay _,fun pf' hpf'=> ?_⟩;exact fin H3 T3 _ f3' ev3 (by lia) q pf' hpf'
def scTellHas:bj ["self","x","tie","y","rule","froms","number","parts"] si (aJ oF):=gy
def Aj(F:Fun K "tell_has" "Still.tell_has" oF f fd)(lc:xu K C)(sc:vn K D)(Gkh:Ml P w K mg base D 1 "keep_has" BD (uE C D))(Gls:Ml P w K mg base D 5 "let_stand" fJ (my C D)):bW P w K mg base eW 6 f fd si (jB C D):=by
 refine F.o scTellHas fun cdv A0 outer s0 H vs Q E hr h=> ?_;obtain⟨b,l,B,A,N,T,L,S,x,t,y,r,pf,fr,nn,rfl,ev,hx,hy,hc,epf,tpf,q⟩:=h;have hu:=fh hr;refine⟨_,aV (bA (eI (oS hu) (cX (gc bf bH bU)) (dv aA)) (aZ (fz 7 scTellHas.nd (dv (dv aA))) (aZ (be (ij aA sc.c Gkh hr (iU bf bH bU (cX (iU (cX (iU aS (j7 cm gN bf) bH (j7 cm gN bU))) bX dH dN))))) (aV (be (ij aA sc.c Gls hr (eP bU)))))) aQ),?_⟩;refine⟨by show 3<=sizeLine;decide,fun t0 ht0=> ?_⟩;have z1:=aj ht0 (.tup [.int (x:Int),.str t,.int (y:Int)]);have ev1:=ev.same z1;have h1:upd H t0 (.tup [.int (x:Int),.str t,.int (y:Int)]) t0=some (.tup [.int (x:Int),.str t,.int (y:Int)]):=aa;have f1:Fr fb T T H (upd H t0 (.tup [.int (x:Int),.str t,.int (y:Int)])):=Fr.of z1;have epf1:=z1 _ _ epf;generalize upd H t0 (.tup [.int (x:Int),.str t,.int (y:Int)])=H1 at ev1 h1 f1 epf1⊢;obtain⟨_,kv2,e2,r2,l2⟩:=id ev1.sa.s2;have w2:(cS kv2 (Fi.has x t y).key).isSome=decide (Fi.has x t y∈S.facts):=by rw[r2];exact uP _ _
 refine⟨D,_,_,_,ev1.sa.ob,sc.c,sc.m3,D_ B l,B.q2,_,rfl,DGet.t (k:=(Fi.has x t y).key) e2 h1,?_⟩;rw[w2];unfold StI.tellHas at q;by_cases hin:Fi.has x t y∈S.facts
 · rw[aG hin];rw[aI hin] at q;exact(q H1 T f1 ev1)
 rw[aq hin];rw[aD hin] at q;obtain⟨_,ps,e3,r3⟩:=id ev1.la.f0;obtain⟨vx,hvx,ivx⟩:=qa r3 (LoI.pt_get hx);obtain⟨vy,hvy,ivy⟩:=qa r3 (LoI.pt_get hy);refine⟨D,_,_,_,ev1.sa.ob,sc.c,sc.m0,qz B l,C,_,_,_,ev1.la.ob,lc.c,lc.n0,Mf A,?_⟩;refine⟨_,_,ev1.sa.ob,x_ B l,ps,vx,SqL.of e3,aU hvx,ps,vy,SqL.of e3,aU hvy,by show 4<=sizeLine;decide,fun t4 ht4=> ?_⟩;have z4:=aj ht4 (.tup [.str "has",vx,.str t,vy]);refine⟨by show 4<=sizeLine;decide,fun t5 ht5=> ?_⟩;have z5:=aj ht5 (.tup [.ref t4,.str r,.ref pf,qc nn]);have z45:=z4.trans z5;have ev5:=ev1.same z45;have f5:=f1.trans (Fr.of (S:=fb) (T:=T) z45);have lle:=ev.la.le;have hN:=ev.hN;refine⟨b,l,B,L.shapes,T,S,x,y,t,.ref t5,⟨.has (L.pt x) t (L.pt y),r,fr,nn⟩,rfl,ev5.sa,hin,by lia,by lia,by lia,ev.sl,⟨t5,pf,.ref t4,rfl,aa,⟨t4,vx,vy,rfl,z5 _ _ aa,IsK.mono z45.tups ivx,IsK.mono z45.tups ivy⟩,z45 _ _ epf1,tpf⟩,fun H6 T6 f6 s6=> ?_⟩;have ev6:=ev5.next f6 s6 (StI.keep_sl ev.sl);have c6:=StI.keep_cnt S (.has x t y) ⟨.has (L.pt x) t (L.pt y),r,fr,nn⟩;exact⟨_,_,ev6.sa.ob,nC B l,b,l,B,A,N,T6,L,_,y,rfl,ev6,hy,by lia,fun H7 T7 f7 ev7=>q H7 T7 ((f5.trans f6).trans f7) ev7⟩
end
def Fi.rg(n:Nat)(ts:List Str):Fi->Prop
 | .is x k=>x<n/\k<n
 | .has x t y=>x<n/\t∈ts/\y<n
structure Wf(n:Nat)(ts:List Str)(S:StI):Prop where
 nd:S.facts.Nodup
 rg:∀f∈S.facts,f.rg n ts
 sd:S.stand.Nodup
 sr:∀i∈S.stand,i<n
 st0:∀i∈S.stand,Fi.is i 0∈S.facts
 hs:∀x t y,Fi.has x t y∈S.facts->y∈S.stand
noncomputable def zp(n:Nat)(ts:List Str):List Fi:=((List.range n).flatMap fun x=>(List.range n).map fun k=>Fi.is x k)++ts.flatMap fun t=>(List.range n).flatMap fun x=>(List.range n).map fun y=>Fi.has x t y
def HD(h:f.rg n ts):f∈zp n ts:=by
 unfold zp;cases f with
 | is x k=>exact aM _ (ph.mpr ⟨x,dm.mpr h.1,bO.mpr ⟨k,dm.mpr h.2,rfl⟩⟩)
 | has x t y=>exact aL _ (ph.mpr ⟨t,h.2.1,ph.mpr ⟨x,dm.mpr h.1,bO.mpr ⟨y,dm.mpr h.2.2,rfl⟩⟩⟩)
theorem nR{α β:Type}{f:α->List β}:∀{l:List α},(∀x∈l,(f x).length=n)->(l.flatMap f).length=l.length * n
 | [],_=>by simp
 | x::l,h=>by
   rw[List.flatMap_cons,ah,h x aY,nR fun y hy=>h y (aK _ hy),aR,Nat.add_mul,Nat.one_mul,Nat.add_comm]
def HK(n:Nat)(ts:List Str):(zp n ts).length=n * n+ts.length * (n * n):=by
 unfold zp;rw[ah,nR (n:=n) (fun x _=>by simp),jb,nR (n:=n * n) (fun t _=>by rw[nR (n:=n) (fun x _=>by simp),jb])]
theorem sG{α:Type}[DecidableEq α]:∀{l m:List α},l.Nodup->(∀x∈l,x∈m)->l.length<=m.length
 | [],_,_,_=>ay _
 | x::l,m,nd,h=>by
   have hx:=h x aY;have:=sG (l:=l) (m:=m.erase x) (fB.mp nd).2 fun y hy=>by
    have ne:y≠x:=fun e=>(fB.mp nd).1 (by rw[<-e];exact hy);exact(List.mem_erase_of_ne ne).mpr (h y (aK _ hy))
   rw[List.length_erase_of_mem hx] at this;have pos:0<m.length:=List.length_pos_of_mem hx;rw[aR];lia
noncomputable def gL(n:Nat)(ts:List Str):Nat:=6 * (n * n+ts.length * (n * n))+n
def Wf.cnt(w:Wf n ts S):S.cnt<=gL n ts:=by
 have h1:S.facts.length<=(zp n ts).length:=sG w.nd fun f hf=>HD (w.rg f hf);have h2:S.stand.length<=(List.range n).length:=sG w.sd fun i hi=>dm.mpr (w.sr i hi);rw[HK] at h1;rw[jb] at h2;unfold StI.cnt gL
 lia
def jT{α:Type}{l:List α}{x:α}(h:l.Nodup)(hx:x∉l):(l++[x]).Nodup:=by
 rw[mY];exact⟨h,by simp,fun y hy z hz=>by rw[show z=x by simpa using hz];exact fun e=>hx (by rw[<-e];exact hy)⟩
section
def Wf.tellIs{n:Nat}{ts:List Str}{S:StI}{L:LoI}(w:Wf n ts S){x k:Nat}(hx:x<n)(hk:k<n)(r:Str)(fr:List Int)(nn:Option Int):Wf n ts (StI.tellIs L S x k r fr nn):=by
 unfold StI.tellIs
 split
 · exact w
 · rename_i h;have mem:∀{f},f∈S.facts->f∈S.facts++[Fi.is x k]:=fun hf=>aM _ hf;refine⟨jT w.nd h,fun f hf=> ?_,w.sd,w.sr,fun i hi=>mem (w.st0 i hi),fun a t y hf=> ?_⟩
   · rcases aw.mp hf with hf | hf
     · exact w.rg f hf
     · rw[ag.mp hf];exact⟨hx,hk⟩
   · rcases aw.mp hf with hf | hf
     · exact w.hs a t y hf
     · cases ag.mp hf
def bM(L:LoI)(S:StI)(x k:Nat)(r:Str)(fr:List Int)(nn:Option Int):(∀f∈S.facts,f∈(StI.tellIs L S x k r fr nn).facts)/\(StI.tellIs L S x k r fr nn).stand=S.stand/\Fi.is x k∈(StI.tellIs L S x k r fr nn).facts:=by
 unfold StI.tellIs
 split
 · rename_i h;exact⟨fun f hf=>hf,rfl,h⟩
 · exact⟨fun f hf=>aM _ hf,rfl,by show _∈S.facts++[_];simp⟩
def Wf.letStand'(nd:S.facts.Nodup)(rg:∀f∈S.facts,f.rg n ts)(sd:S.stand.Nodup)(sr:∀i∈S.stand,i<n)(st0:∀i∈S.stand,Fi.is i 0∈S.facts)(hs:∀a t y,Fi.has a t y∈S.facts->y∈S.stand\/y=x)(hx:x<n)(h0:0<n):Wf n ts (StI.letStand L S x):=by
 have isf:∀{S1:StI} {a k:Nat} {r:Str},S1.facts.Nodup/\(∀f∈S1.facts,f.rg n ts)/\S1.stand=S.stand++[x]/\(∀f∈S.facts,f∈S1.facts)/\(∀a t y,Fi.has a t y∈S1.facts->Fi.has a t y∈S.facts)->a<n->k<n->(StI.tellIs L S1 a k r [] none).facts.Nodup/\(∀f∈(StI.tellIs L S1 a k r [] none).facts,f.rg n ts)/\(StI.tellIs L S1 a k r [] none).stand=S.stand++[x]/\(∀f∈S.facts,f∈(StI.tellIs L S1 a k r [] none).facts)/\(∀a' t y,Fi.has a' t y∈(StI.tellIs L S1 a k r [] none).facts->Fi.has a' t y∈S.facts):=fun {S1 a k r} ⟨h1,h2,h3,h4,h5⟩ ha hk=>by
  unfold StI.tellIs
  split
  · exact⟨h1,h2,h3,h4,h5⟩
  · rename_i h;refine⟨jT h1 h,fun f hf=> ?_,h3,fun f hf=>aM _ (h4 f hf),fun a' t y hf=> ?_⟩
    · rcases aw.mp hf with hf | hf
      · exact h2 f hf
      · rw[ag.mp hf];exact⟨ha,hk⟩
    · rcases aw.mp hf with hf | hf
      · exact h5 a' t y hf
      · cases ag.mp hf
 unfold StI.letStand
 split
 · rename_i h;refine⟨nd,rg,sd,sr,st0,fun a t y hf=>(hs a t y hf).elim id fun e=>by rw[e];exact h⟩
 · rename_i h;have b0:(S.addS x).facts.Nodup/\(∀f∈(S.addS x).facts,f.rg n ts)/\(S.addS x).stand=S.stand++[x]/\(∀f∈S.facts,f∈(S.addS x).facts)/\(∀a t y,Fi.has a t y∈(S.addS x).facts->Fi.has a t y∈S.facts):=⟨nd,rg,rfl,fun f hf=>hf,fun _ _ _ hf=>hf⟩;have fin:∀{S2:StI},S2.facts.Nodup/\(∀f∈S2.facts,f.rg n ts)/\S2.stand=S.stand++[x]/\(∀f∈S.facts,f∈S2.facts)/\(∀a t y,Fi.has a t y∈S2.facts->Fi.has a t y∈S.facts)->Wf n ts (StI.tellIs L S2 x 0 "all" [] none):=fun {S2} b2=>by
    obtain⟨h1,h2,h3,h4,h5⟩:=isf (r:="all") b2 hx h0;have h6:=(bM L S2 x 0 "all" [] none).2.2;refine⟨h1,h2,by rw[h3];exact jT sd h,fun i hi=> ?_,fun i hi=> ?_,fun a t y hf=> ?_⟩
    · rw[h3] at hi;rcases aw.mp hi with hi | hi
      · exact sr i hi
      · rw[ag.mp hi];exact hx
    · rw[h3] at hi;rcases aw.mp hi with hi | hi
      · exact h4 _ (st0 i hi)
      · rw[ag.mp hi];exact h6
    · rw[h3];rcases hs a t y (h5 a t y hf) with z | z
      · exact aM _ z
      · rw[z];simp
   split
   · exact fin b0
   · exact fin (isf (r:="self") b0 hx hx)
def Wf.letStand{n:Nat}{ts:List Str}{S:StI}{L:LoI}(w:Wf n ts S){x:Nat}(hx:x<n):Wf n ts (StI.letStand L S x):=Wf.letStand' w.nd w.rg w.sd w.sr w.st0 (fun a t y h=> .inl (w.hs a t y h)) hx (bz (ay _) hx)
def Wf.tellHas{n:Nat}{ts:List Str}{S:StI}{L:LoI}(w:Wf n ts S){x y:Nat}{t:Str}(hx:x<n)(ht:t∈ts)(hy:y<n)(r:Str)(fr:List Int)(nn:Option Int):Wf n ts (StI.tellHas L S x t y r fr nn):=by
 unfold StI.tellHas
 split
 · exact w
 · rename_i h;refine Wf.letStand' (jT w.nd h) (fun f hf=> ?_) w.sd w.sr (fun i hi=>aM _ (w.st0 i hi)) (fun a s z hf=> ?_) hy (bz (ay _) hy)
   · rcases aw.mp hf with hf | hf
     · exact w.rg f hf
     · rw[ag.mp hf];exact⟨hx,ht,hy⟩
   · rcases aw.mp hf with hf | hf
     · exact .inl (w.hs a s z hf)
     · cases ag.mp hf;exact .inr rfl
end
structure LoI.Wd(L:LoI)(ts:List Str):Prop where
 ev:∀k,∀e∈L.everys k,e.1<L.parts.length
 no:∀k,∀e∈L.nos k,e.1<L.parts.length
 wi:∀r,∀e∈L.withins r,e.1∈ts
 m1:∀r,∀e∈L.mk1 r,e.2.1∈ts
 m2:∀r,∀e∈L.mk2 r,e.2.1∈ts
 bo:∀k,∀e∈L.boths k,e.1<L.parts.length/\e.2.1<L.parts.length
 so:∀k,∀e∈L.somes k,e.2<L.parts.length
 fi:∀(r:Str) (m i:Nat),L.fillers r=some m->m.testBit i=true->∃k,L.wholes r i=some k/\k<L.parts.length/\i<L.parts.length
 sh:∀(i:Nat) (r:Str) (j:Nat),L.shapes[i]? =some (Sh.some r j)->r∈ts
structure Ew(C D:Addr)(B:zt)(A:LoA)(b l:Addr)(N:Nat)(T:Tg)(H:Hp)(L:LoI)(ts:List Str)(S:StI):Prop where
 ev:Ev C D B A b l N T H L S
 wf:Wf L.parts.length ts S
 wd:L.Wd ts
 bd:gL L.parts.length ts<=9800000
section
def Ew.same(h:Ew C D B A b l N T H L ts S)(s:Same H H'):Ew C D B A b l N T H' L ts S:=⟨h.ev.same s,h.wf,h.wd,h.bd⟩
def Ew.cnt(h:Ew C D B A b l N T H L ts S):S.cnt<=9800000:=au h.wf.cnt h.bd
end
def jM{α:Type}{R:Hp->V->α->Prop}(m:Mo R){H:Hp}{T:Tg}{i n:Nat}{p:Addr}{f:Key->List α}(h:FTb R H T i p f n)(tg:TgOk T H){g:Addr}(hg:H g=none)(k:Key):∃kvs q vs,upd H g (.lst []) p=some (.dK kvs)/\(cS kvs k).getD (.ref g)= .ref q/\upd H g (.lst []) q=some (.lst vs)/\Paired (R (upd H g (.lst []))) vs (f k)/\∀{S:List Nat} {T':Tg} {H':Hp},Fr S T T' (upd H g (.lst [])) H'->i∉S->H' q=some (.lst vs):=by
 have s:=aj hg (.lst []);obtain⟨t,kvs,e,l,ll,r⟩:=h;refine⟨kvs,?_⟩;rcases r k with⟨z,z'⟩ | ⟨q,vs,z1,z2,z3,z4⟩
 · refine⟨g,[],s _ _ e,by rw[z];rfl,aa,by rw[z'];exact .nil,fun {S T' H'} fr hi=>(Fr.free fr aa (tg.free hg)).2⟩
 · exact⟨q,vs,s _ _ e,by rw[z1];rfl,s _ _ z3,zA m s.tups z4,fun {S T' H'} fr hi=>fr.at hi z2 (s _ _ z3)⟩
noncomputable def StI.fromKind(L:LoI)(S:StI)(at' x k:Nat):StI:=
 let S1:=(L.everys k).foldl (fun S e=>StI.tellIs L S x e.1 "every" [(at':Int)] (some e.2)) S
 match L.shapes[k]? with
 | some (.both i j)=>StI.tellIs L (StI.tellIs L S1 x i "first" [(at':Int)] none) x j "second" [(at':Int)] none
 | some (.some r j)=>StI.tellHas L S1 x r j "some" [(at':Int)] none
 | _=>S1
def Ew.tell(h:Ew C D B A b l N T H L ts S)(ev:Ev C D B A b l N T' H' L S')(w:Wf L.parts.length ts S'):Ew C D B A b l N T' H' L ts S':=⟨ev,w,h.wd,h.bd⟩
def gS(ew:Ew C D B A b l N T H L ts S)(hx:x<L.parts.length)(hk:k<L.parts.length)(epf:H pf=some (.lst (fr.map V.int)))(tpf:T pf=none)(q:∀H' T',Fr fb T T' H H'->Ew C D B A b l N T' H' L ts (StI.tellIs L S x k r fr nn)->Q .non H'):mv C D [.ref b,.int (x:Int),.int (k:Int),.str r,.ref pf,qc nn] H Q:=⟨b,l,B,A,N,T,L,S,x,k,r,pf,fr,nn,rfl,ew.ev,hx,hk,au ew.cnt (by decide),epf,tpf,fun H' T' f ev=>q H' T' f (ew.tell ev (ew.wf.tellIs hx hk r fr nn))⟩
def kr(ew:Ew C D B A b l N T H L ts S)(hx:x<L.parts.length)(ht:t∈ts)(hy:y<L.parts.length)(epf:H pf=some (.lst (fr.map V.int)))(tpf:T pf=none)(q:∀H' T',Fr fb T T' H H'->Ew C D B A b l N T' H' L ts (StI.tellHas L S x t y r fr nn)->Q .non H'):kA C D [.ref b,.int (x:Int),.str t,.int (y:Int),.str r,.ref pf,qc nn] H Q:=⟨b,l,B,A,N,T,L,S,x,t,y,r,pf,fr,nn,rfl,ew.ev,hx,hy,au ew.cnt (by decide),epf,tpf,fun H' T' f ev=>q H' T' f (ew.tell ev (ew.wf.tellHas hx ht hy r fr nn))⟩
def wV(f:Nat->List α)(k:Nat):kN f (.inl (k:Int))=f k:=by
 show(if 0<=(k:Int) then f (k:Int).toNat else [])=_;rw[aI (by lia),cB]
def dG{α:Type}(g:StI->α->StI)(S:StI){l:List α}{i:Nat}{x:α}(h:l[i]? =some x):(l.take (i+1)).foldl g S=g ((l.take i).foldl g S) x:=by
 rw[bK,h,gu];rfl
inductive nv(C D:Addr)(vs:List V)(H:Hp)(Q:VK):Prop
 | mk:∀(b l:Addr) (B:zt) (A:LoA) (N:Nat) (T:Tg) (L:LoI) (ts:List Str) (S:StI) (at' x k:Nat),(vs=[.ref b,.int (at':Int),.int (x:Int),.int (k:Int)])->(Ew C D B A b l N T H L ts S)->(x<L.parts.length)->(k<L.parts.length)->(∀H' T',Fr fb T T' H H'->Ew C D B A b l N T' H' L ts (StI.fromKind L S at' x k)->Q .non H')->nv C D vs H Q
def rL(C D:Addr):Sp:=fun vs H Q _=>nv C D vs H Q
section
def scFK:bj ["self","at","x","kind","other","number","form","first","second"] pN (aJ mH):=gy
def yH(F:Fun K "from_kind" "Still.from_kind" mH f fd)(lc:xu K C)(sc:vn K D)(Gti:Ml P w K mg base D 2 "tell_is" nF (gZ C D))(Gth:Ml P w K mg base D 6 "tell_has" si (jB C D)):bW P w K mg base eW 7 f fd pN (rL C D):=by
 refine F.o scFK fun cdv A0 outer s0 H vs Q E hr h=> ?_;obtain⟨b,l,B,A,N,T,L,ts,S,at',x,k,rfl,ew,hx,hk,q⟩:=h;have hu:=fh hr;refine⟨_,hG (jR (bS (sx hu (dv (dv aA)) bU (bV cz))) (eJ rfl (bw (e_ 4 scFK.nd) (bw (e_ 5 scFK.nd) dA))) (aV (be (ij aA sc.c Gti hr (bY bH (iU bX aS (bV (eP bf)) dH))))))
  (aZ (bA (eI EC (j7 cm (dv (dv aA)) bU) fL) (aV (lE)) aQ)
  (aZ (jo (j7 cm (dv (dv aA)) bU) (eJ rfl (bw (e_ 6 scFK.nd) (bw (e_ 7 scFK.nd) (bw (e_ 8 scFK.nd) dA)))))
  (aV (bA (eI bN dN aS) (aZ (be (ij aA sc.c Gti hr (bY bH (iU gN aS (bV (eP bf)) fL)))) (aV (be (ij aA sc.c Gti hr (bY bH (iU gM aS (bV (eP bf)) fL)))))) (aV (be (ij aA sc.c Gth hr (bY bH (bY gN (iU gM aS (bV (eP bf)) fL)))))))))),?_⟩
 refine⟨fun σ H'=>∃(o4 o5 o6 o7 o8:Option V) (T':Tg),σ=[some (.ref b),some (.int (at':Int)),some (.int (x:Int)),some (.int (k:Int)),o4,o5,o6,o7,o8]/\Fr fb T T' H H'/\Ew C D B A b l N T' H' L ts ((L.everys k).foldl (fun S e=>StI.tellIs L S x e.1 "every" [(at':Int)] (some e.2)) S),?_,?_⟩
 · refine⟨D,_,_,_,ew.ev.sa.ob,sc.c,sc.m0,qz B l,C,_,_,_,ew.ev.la.ob,lc.c,lc.n4,Ou A,.inl ⟨_,.inl (id ew.ev.la.f4).2.choose_spec.1⟩,ay _,fun g0 hg0=> ?_⟩;obtain⟨kvs,qq,vs,ep,eg,eq,rv,stay⟩:=jM e2_mo ew.ev.la.f4 ew.ev.la.tg hg0 (.inl (k:Int));rw[wV] at rv;have z1:=aj hg0 (.lst []);have ew1:=ew.same z1;have f1:Fr fb T T H (upd H g0 (.lst [])):=Fr.of z1;generalize upd H g0 (.lst [])=H1 at ep eq rv stay ew1 f1⊢;refine⟨_,DGet.k (k:= .inl (k:Int)) ep,?_⟩;rw[eg];have lv:=aX rv;refine⟨⟨_,SqL.of eq⟩,bR (xs:=vs) (fun i σ H2=>∃(o4 o5:Option V) (T2:Tg),σ=[some (.ref b),some (.int (at':Int)),some (.int (x:Int)),some (.int (k:Int)),o4,o5,none,none,none]/\Fr fb T T2 H1 H2/\Ew C D B A b l N T2 H2 L ts (((L.everys k).take i).foldl (fun S e=>StI.tellIs L S x e.1 "every" [(at':Int)] (some e.2)) S)) ⟨none,none,T,rfl,Fr.refl,ew1⟩ ?_ ?_ ?_⟩
   · rintro i σ H2 _ ⟨o4,o5,T2,rfl,f2,_⟩;exact SqL.of (stay f2 (by decide))
   · rintro i y σ H2 hy ⟨o4,o5,T2,rfl,f2,ew2⟩;obtain⟨e,he,t0,rfl,ht⟩:=bT rv hy;have hin:=ak he;refine⟨_,SqT.of (f2.tups _ _ ht),rfl,?_⟩;refine⟨_,_,ew2.ev.sa.ob,dE B l,by show 1<=sizeLine;decide,fun pf hpf=> ?_⟩;have z3:=aj hpf (.lst [.int (at':Int)]);refine gS (nn:=some e.2) (fr:=[(at':Int)]) (ew2.same z3) hx (ew.wd.ev k e hin) aa (ew2.ev.sa.tg.free hpf) fun H4 T4 f4 ew4=>⟨_,_,T4,rfl,(f2.trans (Fr.of z3)).trans f4,?_⟩;rw[dG _ _ he];exact ew4
   · rintro σ H2 ⟨o4,o5,T2,rfl,f2,ew2⟩;rw[lv,bp] at ew2;exact⟨o4,o5,none,none,none,T2,rfl,f1.trans f2,ew2⟩
 rintro σ H' ⟨o4,o5,o6,o7,o8,T',rfl,fr,ew1⟩;unfold StI.fromKind at q;dsimp only at q;generalize (L.everys k).foldl (fun S e=>StI.tellIs L S x e.1 "every" [(at':Int)] (some e.2)) S=S1 at ew1 q;obtain⟨_,ss,e7,r7⟩:=id ew1.ev.la.f1;obtain⟨sk,hsk⟩:∃sk,L.shapes[k]? =some sk:=⟨_,aN (by rw[ew.ev.la.sl];exact hk)⟩;obtain⟨vsk,hv,ivk⟩:=qa r7 hsk;rw[hsk] at q;have slt:=ew.ev.ok.lt _ _ hsk;refine⟨D,_,_,_,ew1.ev.sa.ob,sc.c,sc.m0,qz B l,C,_,_,_,ew1.ev.la.ob,lc.c,lc.n1,lk1 A,ss,vsk,SqL.of e7,aU hv,rfl,?_⟩;cases sk with
 | no=>
   obtain rfl:vsk= .non:=ivk;exact(q H' T' fr ew1)
 | both i j=>
   obtain⟨pp,rfl,hpp⟩:=ivk;refine⟨D,_,_,_,ew1.ev.sa.ob,sc.c,sc.m0,qz B l,C,_,_,_,ew1.ev.la.ob,lc.c,lc.n1,lk1 A,ss,_,SqL.of e7,aU hv,_,SqT.of hpp,rfl,?_⟩;refine⟨_,_,ew1.ev.sa.ob,dE B l,by show 1<=sizeLine;decide,fun pf hpf=> ?_⟩;have z3:=aj hpf (.lst [.int (at':Int)]);refine gS (nn:=none) (fr:=[(at':Int)]) (ew1.same z3) hx slt.1 aa (ew1.ev.sa.tg.free hpf) fun H4 T4 f4 ew4=> ?_;refine⟨_,_,ew4.ev.sa.ob,dE B l,by show 1<=sizeLine;decide,fun pf' hpf'=> ?_⟩;have z5:=aj hpf' (.lst [.int (at':Int)]);exact gS (nn:=none) (fr:=[(at':Int)]) (ew4.same z5) hx slt.2 aa (ew4.ev.sa.tg.free hpf') fun H6 T6 f6 ew6=>q H6 T6 ((((fr.trans (Fr.of z3)).trans f4).trans (Fr.of z5)).trans f6) ew6
 | some r j=>
   obtain⟨pp,rfl,hpp⟩:=ivk;refine⟨D,_,_,_,ew1.ev.sa.ob,sc.c,sc.m0,qz B l,C,_,_,_,ew1.ev.la.ob,lc.c,lc.n1,lk1 A,ss,_,SqL.of e7,aU hv,_,SqT.of hpp,rfl,?_⟩;refine⟨_,_,ew1.ev.sa.ob,g_ B l,by show 1<=sizeLine;decide,fun pf hpf=> ?_⟩;have z3:=aj hpf (.lst [.int (at':Int)]);exact kr (nn:=none) (fr:=[(at':Int)]) (ew1.same z3) hx (ew.wd.sh _ _ _ hsk) slt aa (ew1.ev.sa.tg.free hpf) fun H4 T4 f4 ew4=>q H4 T4 ((fr.trans (Fr.of z3)).trans f4) ew4
end
noncomputable def CO(i j:Int)(b:Bool):List Int:=if b then [i,j] else [j,i]
def yz(i j:Int)(b:Bool):yC i j b=(CO i j b).map V.int:=by cases b<;>rfl
noncomputable def StI.byNo(L:LoI)(at' x:Nat)(S:StI)(e:Nat × Int × Bool):StI:=if Fi.is x e.1∈S.facts then StI.tellIs L S x 1 "no" (CO (at':Int) (S.facts.idxOf (.is x e.1):Nat) e.2.2) (some e.2.1) else S
noncomputable def StI.byBoth(L:LoI)(at' x:Nat)(S:StI)(e:Nat × Nat × Bool):StI:=if Fi.is x e.1∈S.facts then StI.tellIs L S x e.2.1 "both" (CO (at':Int) (S.facts.idxOf (.is x e.1):Nat) e.2.2) none else S
noncomputable def StI.fromPairs(L:LoI)(S:StI)(at' x k:Nat):StI:=(L.boths k).foldl (StI.byBoth L at' x) ((L.nos k).foldl (StI.byNo L at' x) S)
def kJ(sa:lU D B b l T H sh S)(f:Fi):∃kvs,H B.q2=some (.dT kvs)/\cS kvs f.key=if f∈S.facts then some (.int (S.facts.idxOf f:Nat)) else none:=by
 obtain⟨_,kvs,e,r,_⟩:=id sa.s2;refine⟨kvs,e,?_⟩;rw[r];show BS S.facts f.key=_
 split
 · rename_i h;exact yu h
 · rename_i h;exact yv h
inductive md(C D:Addr)(vs:List V)(H:Hp)(Q:VK):Prop
 | mk:∀(b l:Addr) (B:zt) (A:LoA) (N:Nat) (T:Tg) (L:LoI) (ts:List Str) (S:StI) (at' x k:Nat),(vs=[.ref b,.int (at':Int),.int (x:Int),.int (k:Int)])->(Ew C D B A b l N T H L ts S)->(x<L.parts.length)->(∀H' T',Fr fb T T' H H'->Ew C D B A b l N T' H' L ts (StI.fromPairs L S at' x k)->Q .non H')->md C D vs H Q
def pH(C D:Addr):Sp:=fun vs H Q _=>md C D vs H Q
section
def scFP:bj ["self","at","x","kind","other","number","is_first","froms","whole"] pN (aJ kH):=gy
def wF(F:Fun K "from_pairs" "Still.from_pairs" kH f fd)(lc:xu K C)(sc:vn K D)(Gti:Ml P w K mg base D 2 "tell_is" nF (gZ C D))(Gio:Cl P w K mg base 1 "in_order" ym IF):bW P w K mg base eW 3 f fd pN (pH C D):=by
 refine F.o scFP fun cdv A0 outer s0 H vs Q E hr h=> ?_;obtain⟨b,l,B,A,N,T,L,ts,S,at',x,k,rfl,ew,hx,q⟩:=h;have hu:=fh hr;refine⟨_,hG (jR (bS (sx hu (dv (dv aA)) bU (bV cz))) (eJ rfl (bw (e_ 4 scFP.nd) (bw (e_ 5 scFP.nd) (bw (e_ 6 scFP.nd) dA)))) (aV (bA (eI (kO hu) (cX (fg bH bX)) (dv aA)) (aZ (fz 7 scFP.nd (dF Gio hr (gc bf (Ah hu (dv aA) (cX (fg bH bX))) dN))) (aV (be (ij aA sc.c Gti hr (bY bH (iU (dv (dv aA)) aS gN dH)))))) aQ)))
  (aV (jR (bS (sx hu (dv (dv aA)) bU (bV cz))) (eJ rfl (bw (e_ 4 scFP.nd) (bw (e_ 8 scFP.nd) (bw (e_ 6 scFP.nd) dA)))) (aV (bA (eI (kO hu) (cX (fg bH bX)) (dv aA)) (aV (be (ij aA sc.c Gti hr (bY bH (iU gM aS (dF Gio hr (gc bf (Ah hu (dv aA) (cX (fg bH bX))) dN)) fL))))) aQ)))),?_⟩
 have p1:1<L.parts.length:=ew.ev.p2;refine⟨fun σ H'=>∃(o4 o5 o6 o7 o8:Option V) (T':Tg),σ=[some (.ref b),some (.int (at':Int)),some (.int (x:Int)),some (.int (k:Int)),o4,o5,o6,o7,o8]/\Fr fb T T' H H'/\Ew C D B A b l N T' H' L ts ((L.nos k).foldl (StI.byNo L at' x) S),?_,?_⟩
 · refine⟨D,_,_,_,ew.ev.sa.ob,sc.c,sc.m0,qz B l,C,_,_,_,ew.ev.la.ob,lc.c,lc.n5,NV A,.inl ⟨_,.inl (id ew.ev.la.f5).2.choose_spec.1⟩,ay _,fun g0 hg0=> ?_⟩;obtain⟨kvs,qq,vs,ep,eg,eq,rv,stay⟩:=jM e3_mo ew.ev.la.f5 ew.ev.la.tg hg0 (.inl (k:Int));rw[wV] at rv;have z1:=aj hg0 (.lst []);have ew1:=ew.same z1;have f1:Fr fb T T H (upd H g0 (.lst [])):=Fr.of z1;generalize upd H g0 (.lst [])=H1 at ep eq rv stay ew1 f1⊢;refine⟨_,DGet.k (k:= .inl (k:Int)) ep,?_⟩;rw[eg];have lv:=aX rv;refine⟨⟨_,SqL.of eq⟩,bR (xs:=vs) (fun i σ H2=>∃(o4 o5 o6 o7 o8:Option V) (T2:Tg),σ=[some (.ref b),some (.int (at':Int)),some (.int (x:Int)),some (.int (k:Int)),o4,o5,o6,o7,o8]/\Fr fb T T2 H1 H2/\Ew C D B A b l N T2 H2 L ts (((L.nos k).take i).foldl (StI.byNo L at' x) S)) ⟨none,none,none,none,none,T,rfl,Fr.refl,ew1⟩ ?_ ?_ ?_⟩
   · rintro i σ H2 _ ⟨o4,o5,o6,o7,o8,T2,rfl,f2,_⟩;exact SqL.of (stay f2 (by decide))
   · rintro i y σ H2 hy ⟨o4,o5,o6,o7,o8,T2,rfl,f2,ew2⟩;obtain⟨e,he,t0,rfl,ht⟩:=bT rv hy;have hin:=ak he;rw[dG _ _ he];generalize ((L.nos k).take i).foldl (StI.byNo L at' x) S=S2 at ew2⊢;refine⟨_,SqT.of (f2.tups _ _ ht),rfl,?_⟩;refine⟨by show 2<=sizeLine;decide,fun u hu'=> ?_⟩;have z3:=aj hu' (.tup [.int (x:Int),.int (e.1:Int)]);have ew3:=ew2.same z3;have h3:upd H2 u (.tup [.int (x:Int),.int (e.1:Int)]) u=some (.tup [.int (x:Int),.int (e.1:Int)]):=aa;have f3:=f2.trans (Fr.of (S:=fb) (T:=T2) z3);generalize upd H2 u (.tup [.int (x:Int),.int (e.1:Int)])=H3 at ew3 h3 f3⊢;obtain⟨kp,e4,r4⟩:=kJ ew3.ev.sa (.is x e.1);refine⟨D,_,_,_,ew3.ev.sa.ob,sc.c,sc.m3,D_ B l,B.q2,_,rfl,DGet.t (k:=(Fi.is x e.1).key) e4 h3,?_⟩;rw[r4];unfold StI.byNo;by_cases hf:Fi.is x e.1∈S2.facts
     · rw[aI hf,aI hf];refine⟨D,_,_,_,ew3.ev.sa.ob,sc.c,sc.m3,D_ B l,by show 2<=sizeLine;decide,fun u5 hu5=> ?_⟩;have z5:=aj hu5 (.tup [.int (x:Int),.int (e.1:Int)]);have ew5:=ew3.same z5;have h5:upd H3 u5 (.tup [.int (x:Int),.int (e.1:Int)]) u5=some (.tup [.int (x:Int),.int (e.1:Int)]):=aa;have f5:=f3.trans (Fr.of (S:=fb) (T:=T2) z5);have e5:=z5 _ _ e4;generalize upd H3 u5 (.tup [.int (x:Int),.int (e.1:Int)])=H5 at ew5 h5 f5 e5⊢;refine⟨_,.inr ⟨kp,(Fi.is x e.1).key,u5,.inl e5,rfl,h5,by rw[r4,aI hf]⟩,(at':Int),(S2.facts.idxOf (.is x e.1):Nat),e.2.2,rfl,fun pf hpf=> ?_⟩;have z6:=aj hpf (.lst (yC (at':Int) (S2.facts.idxOf (.is x e.1):Nat) e.2.2));have ew6:=ew5.same z6;have e6:upd H5 pf (.lst (yC (at':Int) (S2.facts.idxOf (.is x e.1):Nat) e.2.2)) pf=some (.lst ((CO (at':Int) (S2.facts.idxOf (.is x e.1):Nat) e.2.2).map V.int)):=by rw[aa,yz]
       have f6:=f5.trans (Fr.of (S:=fb) (T:=T2) z6);have t6:=ew5.ev.sa.tg.free hpf;generalize upd H5 pf (.lst (yC (at':Int) (S2.facts.idxOf (.is x e.1):Nat) e.2.2))=H6 at ew6 e6 f6⊢;refine⟨_,_,ew6.ev.sa.ob,dE B l,D,_,_,_,ew6.ev.sa.ob,sc.c,sc.m0,qz B l,C,_,_,_,ew6.ev.la.ob,lc.c,lc.n14,Fb ew.ev.ex,?_⟩;exact gS (k:=1) (nn:=some e.2.1) ew6 hx p1 e6 t6 fun H7 T7 f7 ew7=>⟨_,_,_,_,_,T7,rfl,f6.trans f7,ew7⟩
     · rw[aD hf,aD hf];exact⟨_,_,_,_,_,T2,rfl,f3,ew3⟩
   · rintro σ H2 ⟨o4,o5,o6,o7,o8,T2,rfl,f2,ew2⟩;rw[lv,bp] at ew2;exact⟨o4,o5,o6,o7,o8,T2,rfl,f1.trans f2,ew2⟩
 rintro σ H' ⟨o4,o5,o6,o7,o8,T',rfl,fr,ew0⟩;unfold StI.fromPairs at q;generalize (L.nos k).foldl (StI.byNo L at' x) S=S0 at ew0 q;refine⟨D,_,_,_,ew0.ev.sa.ob,sc.c,sc.m0,qz B l,C,_,_,_,ew0.ev.la.ob,lc.c,lc.n9,NU A,.inl ⟨_,.inl (id ew0.ev.la.f9).2.choose_spec.1⟩,ay _,fun g0 hg0=> ?_⟩;obtain⟨kvs,qq,vs,ep,eg,eq,rv,stay⟩:=jM eb_mo ew0.ev.la.f9 ew0.ev.la.tg hg0 (.inl (k:Int));rw[wV] at rv;have z1:=aj hg0 (.lst []);have ew1:=ew0.same z1;have f1:Fr fb T' T' H' (upd H' g0 (.lst [])):=Fr.of z1;generalize upd H' g0 (.lst [])=H1 at ep eq rv stay ew1 f1⊢;refine⟨_,DGet.k (k:= .inl (k:Int)) ep,?_⟩;rw[eg];have lv:=aX rv;refine⟨⟨_,SqL.of eq⟩,bR (xs:=vs) (fun i σ H2=>∃(o4 o5 o6 o7 o8:Option V) (T2:Tg),σ=[some (.ref b),some (.int (at':Int)),some (.int (x:Int)),some (.int (k:Int)),o4,o5,o6,o7,o8]/\Fr fb T' T2 H1 H2/\Ew C D B A b l N T2 H2 L ts (((L.boths k).take i).foldl (StI.byBoth L at' x) S0)) ⟨o4,o5,o6,o7,o8,T',rfl,Fr.refl,ew1⟩ ?_ ?_ ?_⟩
 · rintro i σ H2 _ ⟨o4,o5,o6,o7,o8,T2,rfl,f2,_⟩;exact SqL.of (stay f2 (by decide))
 · rintro i y σ H2 hy ⟨o4,o5,o6,o7,o8,T2,rfl,f2,ew2⟩;obtain⟨e,he,t0,rfl,ht⟩:=bT rv hy;have hin:=ak he;rw[dG _ _ he];generalize ((L.boths k).take i).foldl (StI.byBoth L at' x) S0=S2 at ew2⊢;refine⟨_,SqT.of (f2.tups _ _ ht),rfl,?_⟩;refine⟨by show 2<=sizeLine;decide,fun u hu'=> ?_⟩;have z3:=aj hu' (.tup [.int (x:Int),.int (e.1:Int)]);have ew3:=ew2.same z3;have h3:upd H2 u (.tup [.int (x:Int),.int (e.1:Int)]) u=some (.tup [.int (x:Int),.int (e.1:Int)]):=aa;have f3:=f2.trans (Fr.of (S:=fb) (T:=T2) z3);generalize upd H2 u (.tup [.int (x:Int),.int (e.1:Int)])=H3 at ew3 h3 f3⊢;obtain⟨kp,e4,r4⟩:=kJ ew3.ev.sa (.is x e.1);refine⟨D,_,_,_,ew3.ev.sa.ob,sc.c,sc.m3,D_ B l,B.q2,_,rfl,DGet.t (k:=(Fi.is x e.1).key) e4 h3,?_⟩;rw[r4];unfold StI.byBoth;by_cases hf:Fi.is x e.1∈S2.facts
   · rw[aI hf,aI hf];refine⟨_,_,ew3.ev.sa.ob,dE B l,D,_,_,_,ew3.ev.sa.ob,sc.c,sc.m3,D_ B l,by show 2<=sizeLine;decide,fun u5 hu5=> ?_⟩;have z5:=aj hu5 (.tup [.int (x:Int),.int (e.1:Int)]);have ew5:=ew3.same z5;have h5:upd H3 u5 (.tup [.int (x:Int),.int (e.1:Int)]) u5=some (.tup [.int (x:Int),.int (e.1:Int)]):=aa;have f5:=f3.trans (Fr.of (S:=fb) (T:=T2) z5);have e5:=z5 _ _ e4;generalize upd H3 u5 (.tup [.int (x:Int),.int (e.1:Int)])=H5 at ew5 h5 f5 e5⊢;refine⟨_,.inr ⟨kp,(Fi.is x e.1).key,u5,.inl e5,rfl,h5,by rw[r4,aI hf]⟩,(at':Int),(S2.facts.idxOf (.is x e.1):Nat),e.2.2,rfl,fun pf hpf=> ?_⟩;have z6:=aj hpf (.lst (yC (at':Int) (S2.facts.idxOf (.is x e.1):Nat) e.2.2));have ew6:=ew5.same z6;have e6:upd H5 pf (.lst (yC (at':Int) (S2.facts.idxOf (.is x e.1):Nat) e.2.2)) pf=some (.lst ((CO (at':Int) (S2.facts.idxOf (.is x e.1):Nat) e.2.2).map V.int)):=by rw[aa,yz]
     have f6:=f5.trans (Fr.of (S:=fb) (T:=T2) z6);have t6:=ew5.ev.sa.tg.free hpf;generalize upd H5 pf (.lst (yC (at':Int) (S2.facts.idxOf (.is x e.1):Nat) e.2.2))=H6 at ew6 e6 f6⊢;exact gS (k:=e.2.1) (nn:=none) ew6 hx (ew.wd.bo k e hin).2 e6 t6 fun H7 T7 f7 ew7=>⟨_,_,_,_,_,T7,rfl,f6.trans f7,ew7⟩
   · rw[aD hf,aD hf];exact⟨_,_,_,_,_,T2,rfl,f3,ew3⟩
 · rintro σ H2 ⟨o4,o5,o6,o7,o8,T2,rfl,f2,ew2⟩;rw[lv,bp] at ew2;exact q H2 T2 ((fr.trans f1).trans f2) ew2
end
noncomputable def StI.byTie(L:LoI)(at' y:Nat)(t:Str)(k:Nat)(r:Str)(S:StI)(x:Nat):StI:=StI.tellIs L S x k r [(S.facts.idxOf (.has x t y):Nat),(at':Int)] none
noncomputable def qf(S:StI)(y:Nat)(t:Str)(k:Nat):Nat:=anot (cL (cE S.facts y t)) (cL (iQ S.facts k))
noncomputable def StI.byEnd(L:LoI)(at' y:Nat)(r:Str)(S:StI)(t:Str)(k:Nat):StI:=(cH (qf S y t k)).foldl (StI.byTie L at' y t k r) S
noncomputable def StI.fromEnd(L:LoI)(S:StI)(at' y k:Nat):StI:=
 let S1:=(L.somes k).foldl (fun S e=>StI.byEnd L at' y "tie" S e.1 e.2) S
 if k=1 then(eG S1.facts).foldl (fun S t=>StI.byEnd L at' y "none" S t k) S1 else S1
theorem lM(L:LoI)(at' y:Nat)(t:Str)(k:Nat)(r:Str){f:Fi}:∀(l:List Nat) {S:StI},f∈S.facts->f∈(l.foldl (StI.byTie L at' y t k r) S).facts
 | [],_,h=>h
 | x::l,S,h=>lM L at' y t k r l ((bM L S x k r _ none).1 f h)
theorem mQ{α:Type}(L:LoI)(at' y:Nat)(r:Str)(g:α->Str)(h:α->Nat){f:Fi}:∀(l:List α) {S:StI},f∈S.facts->f∈(l.foldl (fun S e=>StI.byEnd L at' y r S (g e) (h e)) S).facts
 | [],_,z=>z
 | x::l,S,z=>mQ L at' y r g h l (lM L at' y (g x) (h x) r _ z)
def mem_startsOf:x∈cE F y t↔Fi.has x t y∈F:=by
 unfold cE;rw[fc];constructor
 · rintro⟨f,hf,h⟩;cases f with
   | is a b=>cases h
   | has a s b=>
     dsimp only at h
     split at h
     · rename_i c;cases h;rw[<-c.1,<-c.2];exact hf
     · cases h
 · intro h;exact⟨_,h,aI ⟨rfl,rfl⟩⟩
def mem_endsOf:y∈eS F x t↔Fi.has x t y∈F:=by
 unfold eS;rw[fc];constructor
 · rintro⟨f,hf,h⟩;cases f with
   | is a b=>cases h
   | has a s b=>
     dsimp only at h
     split at h
     · rename_i c;cases h;rw[<-c.1,<-c.2];exact hf
     · cases h
 · intro h;exact⟨_,h,aI ⟨rfl,rfl⟩⟩
def mem_ksOf:k∈iX F x↔Fi.is x k∈F:=by
 unfold iX;rw[fc];constructor
 · rintro⟨f,hf,h⟩;cases f with
   | is a b=>
     dsimp only at h
     split at h
     · rename_i c;cases h;rw[<-c];exact hf
     · cases h
   | has a s b=>cases h
 · intro h;exact⟨_,h,aI rfl⟩
def mem_xsOf:x∈iQ F k↔Fi.is x k∈F:=by
 unfold iQ;rw[fc];constructor
 · rintro⟨f,hf,h⟩;cases f with
   | is a b=>
     dsimp only at h
     split at h
     · rename_i c;cases h;rw[<-c];exact hf
     · cases h
   | has a s b=>cases h
 · intro h;exact⟨_,h,aI rfl⟩
def Ij(h:a<2^n):anot a b<2^n:=bz (Nat.sub_le _ _) h
def zf(h:x∈cH (qf S y t k)):Fi.has x t y∈S.facts:=by
 rw[iL,qf,jL,gB,bg,cM] at h;exact mem_startsOf.mp h.1
section
abbrev jl(t:TE)(σ:L2.St)(v:V):Prop:=∀H Q,Q v H->t σ H Q
def gv(h:σ[i]? =some (some v)):jl (ow i) σ v:=fun _ _ k=>onV.of h k
def cV(h:σ[i]? =some (some v))(q:ta σ H fun xs H2=>Q (v::xs) H2):dY (ow i) ta σ H Q:=onV.of h q
def oI{g:Int->Int->Bool}{Q:Bool->Hp->Prop}(c:g i j=k)(q:Q k H):BB (fun i j=>V.bl (g i j)) (.int i) (.int j) H fun x H1=>onB x fun c=>Q c H1:=by
 show Q (g i j) H;rw[c];exact q
def oN{Q:Bool->Hp->Prop}(s:GN a b=true)(c:decide (a=b)=k)(q:Q (!k) H):Ol a b H fun x H1=>onB x fun c=>Q c H1:=by
 show onT (GN a b) _;rw[s];show Q (!decide (a=b)) H;rw[c];exact q
def gn(h:Q (σ.set i (some v)) H):ir i v σ H Q:=h
def g3(h:Q (((σ.set i (some v)).set j (some w)).set k (some u)) H):pX (ir i) (pX (ir j) (pX (ir k) HV)) [v,w,u] σ H Q:=h
def g2(h:Q ((σ.set i (some v)).set j (some w)) H):pX (ir i) (pX (ir j) HV) [v,w] σ H Q:=h
def mP{x:Nat}(sc:vn K D)(hn:NoAttr K D nm)(hl:(mU B l).lookup nm=some (.ref q))(ob:H b=some (.ins D B.dx (mU B l)))(ft:FT H T i q (Dc g) n)(h0:jl tb σ (.ref b))(h1:jl ta σ (.int (x:Int)))(h2:jl tt σ (.str t))(k:∀H',Same H H'->Q (.int (cL (g x t):Nat)) H'):vF (zJ K tb nm) (GE (dY ta (dY tt iS))) (tC (.int 0)) σ H Q:=by
 obtain⟨_,kvs,e,r,_⟩:=ft;refine h0 _ _ ⟨D,_,_,_,ob,sc.c,hn,hl,.inr ⟨_,.inl e⟩,h1 _ _ (h2 _ _ ⟨by show 2<=sizeLine;decide,fun u hu=> ?_⟩)⟩;have z:=aj hu (.tup [.int (x:Int),.str t]);refine⟨_,DGet.t (k:=[.inl (x:Int),.inr t]) (z _ _ e) aa,?_⟩;rw[r,qI];exact k _ z
def KA{x:Nat}(sc:vn K D)(hn:NoAttr K D nm)(hl:(mU B l).lookup nm=some (.ref q))(ob:H b=some (.ins D B.dx (mU B l)))(ft:FK H T i q (Au g) n)(h0:jl tb σ (.ref b))(h1:jl ta σ (.int (x:Int)))(k:Q (.int (cL (g x):Nat)) H):vF (zJ K tb nm) ta (tC (.int 0)) σ H Q:=by
 obtain⟨_,kvs,e,r,_⟩:=ft;refine h0 _ _ ⟨D,_,_,_,ob,sc.c,hn,hl,.inl ⟨_,.inl e⟩,h1 _ _ ⟨_,DGet.k (k:= .inl (x:Int)) e,?_⟩⟩;rw[r,wO];exact k
def Jc{x:Nat}(sc:vn K D)(hn:NoAttr K D nm)(hl:(mU B l).lookup nm=some (.ref q))(ob:H b=some (.ins D B.dx (mU B l)))(ft:FK H T i q (Au g) n)(h0:jl tb σ (.ref b))(h1:jl ta σ (.int (x:Int)))(ne:g x≠[])(k:Q (.int (cL (g x):Nat)) H):xH (zJ K tb nm) ta σ H Q:=by
 obtain⟨_,kvs,e,r,_⟩:=ft;refine h0 _ _ ⟨D,_,_,_,ob,sc.c,hn,hl,h1 _ _ ⟨.int (cL (g x):Nat),?_,k⟩⟩;refine .inl ⟨kvs,.inl (x:Int),.inl e,rfl,?_⟩;rw[r];show _=(if 0<=(x:Int)/\g (x:Int).toNat≠[] then some (V.int (cL (g (x:Int).toNat):Nat)) else none);rw[cB,aI ⟨by lia,ne⟩]
def lO{a c:Nat}(h1:∀Q:VK,(∀H1,Same H H1->Q (.int (a:Int)) H1)->ta σ H Q)(h2:∀(H1:Hp) (Q:VK),Same H H1->(∀H2,Same H1 H2->Q (.int (c:Int)) H2)->tb σ H1 Q)(lt:a<2^n)(le:n<=100000)(k:∀H2 pl,Same H H2->H2 pl=some (.lst ((cH (anot a c)).map fun(i:Nat)=>V.int (i:Int)))->(∀T,TgOk T H->T pl=none)->R (K6 K pl) H2):mj K (q_ oA [] E0 (dY (DT (BB fun i j=>V.int (Builtin.bitAnd i j)) ta (Ni (rU fun i=>V.int (Builtin.bitNot i)) tb)) iS)) σ H R:=by
 refine h1 _ fun H1 s1=>h2 _ _ s1 fun H2 s2=> ?_;show nB [.int (Builtin.bitAnd (a:Int) (Builtin.bitNot (c:Int)))] H2 _;rw[Co];refine⟨_,n,rfl,Ij lt,le,fun pl hpl=> ?_⟩;have z:=aj hpl (.lst ((cH (anot a c)).map fun(i:Nat)=>V.int (i:Int)));exact⟨⟨_,SqL.of aa⟩,k _ pl (fun x o h=>z x o (s2 x o (s1 x o h))) aa fun T tg=>((tg.same s1).same s2).free hpl⟩
def xi(sc:vn K D)(sa:lU D B b l T H sh S)(hf:Fi.has x t y∈S.facts)(h0:jl tb σ (.ref b))(h1:jl ta σ (.int (x:Int)))(h2:jl tt σ (.str t))(h3:jl tc σ (.int (y:Int)))(k:∀H',Same H H'->Q (.int (S.facts.idxOf (.has x t y):Nat)) H'):xH (zJ K tb "places") (GE (dY ta (dY tt (dY tc iS)))) σ H Q:=by
 obtain⟨kvs,e,r⟩:=kJ sa (.has x t y);refine h0 _ _ ⟨D,_,_,_,sa.ob,sc.c,sc.m3,D_ B l,h1 _ _ (h2 _ _ (h3 _ _ ⟨by show 3<=sizeLine;decide,fun u hu=> ?_⟩))⟩;have z:=aj hu (.tup [.int (x:Int),.str t,.int (y:Int)]);exact⟨_,.inr ⟨kvs,(Fi.has x t y).key,u,.inl (z _ _ e),rfl,aa,by rw[r,aI hf]⟩,k _ z⟩
def Jd(sc:vn K D)(sa:lU D B b l T H sh S)(hf:Fi.is x y∈S.facts)(h0:jl tb σ (.ref b))(h1:jl ta σ (.int (x:Int)))(h3:∀Q:VK,Q (.int (y:Int)) H->tc σ H Q)(k:∀H',Same H H'->Q (.int (S.facts.idxOf (.is x y):Nat)) H'):xH (zJ K tb "places") (GE (dY ta (dY tc iS))) σ H Q:=by
 obtain⟨kvs,e,r⟩:=kJ sa (.is x y);refine h0 _ _ ⟨D,_,_,_,sa.ob,sc.c,sc.m3,D_ B l,h1 _ _ (h3 _ ⟨by show 2<=sizeLine;decide,fun u hu=> ?_⟩)⟩;have z:=aj hu (.tup [.int (x:Int),.int (y:Int)]);exact⟨_,.inr ⟨kvs,(Fi.is x y).key,u,.inl (z _ _ e),rfl,aa,by rw[r,aI hf]⟩,k _ z⟩
end
inductive pI(C D:Addr)(vs:List V)(H:Hp)(Q:VK):Prop
 | mk:∀(b l:Addr) (B:zt) (A:LoA) (N:Nat) (T:Tg) (L:LoI) (ts:List Str) (S:StI) (at' y k:Nat),(vs=[.ref b,.int (at':Int),.int (y:Int),.int (k:Int)])->(Ew C D B A b l N T H L ts S)->(Fi.is y k∈S.facts)->(∀H' T',Fr fb T T' H H'->Ew C D B A b l N T' H' L ts (StI.fromEnd L S at' y k)->Q .non H')->pI C D vs H Q
def uH(C D:Addr):Sp:=fun vs H Q _=>pI C D vs H Q
section
def scFE:bj ["self","at","y","kind","tie","whole","x"] BI (aJ oJ):=gy
def Ao(F:Fun K "from_end" "Still.from_end" oJ f fd)(lc:xu K C)(sc:vn K D)(Gti:Ml P w K mg base D 2 "tell_is" nF (gZ C D))(Gbo:Cl P w K mg base 1 "bits_of" ["mask"] oA)(mls:mg "list"=none):bW P w K mg base eW 3 f fd BI (uH C D):=by
 refine F.o scFE fun cdv A0 outer s0 H vs Q E hr h=> ?_;obtain⟨b,l,B,A,N,T,L,ts,S,at',y,k,rfl,ew,hf,q⟩:=h;have hu:=fh hr;refine⟨_,hG (jR (bS (sx hu (dv (dv aA)) bU (bV cz))) (eJ rfl (bw (e_ 4 scFE.nd) (bw (e_ 5 scFE.nd) dA))) (aV (jR (bS (dF Gbo hr (eP (bh mK (sx hu (dv aA) (cX (fg bH bX)) av) (nK qW (sx hu (dv aA) dH av)))))) (e_ 6 scFE.nd) (aV (be (ij aA sc.c Gti hr (bY dN (iU dH aS (bV (fg (Ah hu (dv aA) (cX (gc dN bX bH))) bf)) fL))))))))
  (aZ (bA (eI EA bU (dv (dv aA))) (aV (lE)) aQ)
  (aV (jR (bS (ei (fM rfl) rfl mls bF (eP (dv aA)))) (e_ 4 scFE.nd) (aV (jR (bS (dF Gbo hr (eP (bh mK (sx hu (dv aA) (cX (fg bH bX)) av) (nK qW (Ah hu (dv aA) bU)))))) (e_ 6 scFE.nd) (aV (be (ij aA sc.c Gti hr (bY dN (iU bU aS (bV (fg (Ah hu (dv aA) (cX (gc dN bX bH))) bf)) fL)))))))))),?_⟩
 refine⟨fun σ H'=>∃(o4 o5 o6:Option V) (T':Tg),σ=[some (.ref b),some (.int (at':Int)),some (.int (y:Int)),some (.int (k:Int)),o4,o5,o6]/\Fr fb T T' H H'/\Ew C D B A b l N T' H' L ts ((L.somes k).foldl (fun S e=>StI.byEnd L at' y "tie" S e.1 e.2) S),?_,?_⟩
 · refine⟨D,_,_,_,ew.ev.sa.ob,sc.c,sc.m0,qz B l,C,_,_,_,ew.ev.la.ob,lc.c,lc.n10,Me A,.inl ⟨_,.inl (id ew.ev.la.f10).2.choose_spec.1⟩,ay _,fun g0 hg0=> ?_⟩;obtain⟨kvs,qq,vs,ep,eg,eq,rv,stay⟩:=jM esm_mo ew.ev.la.f10 ew.ev.la.tg hg0 (.inl (k:Int));rw[wV] at rv;have z1:=aj hg0 (.lst []);have ew1:=ew.same z1;have f1:Fr fb T T H (upd H g0 (.lst [])):=Fr.of z1;generalize upd H g0 (.lst [])=H1 at ep eq rv stay ew1 f1⊢;refine⟨_,DGet.k (k:= .inl (k:Int)) ep,?_⟩;rw[eg];have lv:=aX rv;refine⟨⟨_,SqL.of eq⟩,bR (xs:=vs) (fun i σ H2=>∃(o4 o5 o6:Option V) (T2:Tg),σ=[some (.ref b),some (.int (at':Int)),some (.int (y:Int)),some (.int (k:Int)),o4,o5,o6]/\Fr fb T T2 H1 H2/\Ew C D B A b l N T2 H2 L ts (((L.somes k).take i).foldl (fun S e=>StI.byEnd L at' y "tie" S e.1 e.2) S)) ⟨none,none,none,T,rfl,Fr.refl,ew1⟩ ?_ ?_ ?_⟩
   · rintro i σ H2 _ ⟨o4,o5,o6,T2,rfl,f2,_⟩;exact SqL.of (stay f2 (by decide))
   · rintro i v σ H2 hv ⟨o4,o5,o6,T2,rfl,f2,ew2⟩;obtain⟨e,he,t0,rfl,ht⟩:=bT rv hv;have hin:=ak he;rw[dG _ _ he];generalize ((L.somes k).take i).foldl (fun S e=>StI.byEnd L at' y "tie" S e.1 e.2) S=S2 at ew2⊢;refine⟨_,SqT.of (f2.tups _ _ ht),rfl,?_⟩;have hk:=ew.wd.so k e hin;refine g2 ?_;refine(lO (a:=cL (cE S2.facts y e.1)) (c:=cL (iQ S2.facts e.2)) (n:=L.parts.length) ?_ ?_ (nO fun i hi=>(ew2.wf.rg _ (mem_startsOf.mp hi)).1) (au (au ew.ev.la.le ew.ev.hN) (by decide)) fun H4 pl z4 epl tpl=> ?_:mj _ _ _ _ _)
     · exact fun Q k=>mP sc sc.m9 (K_ B l) ew2.ev.sa.ob ew2.ev.sa.s8 (gv rfl) (gv rfl) (gv rfl) k
     · exact fun H3 Q z3 k=>KA sc sc.m6 (MU B l) (ew2.same z3).ev.sa.ob (ew2.same z3).ev.sa.s5 (gv rfl) (gv rfl) (k _ fun _ _ h=>h)
     have ew4:=ew2.same z4;replace tpl:=tpl _ ew2.ev.sa.tg;have f4:=f2.trans (Fr.of (S:=fb) (T:=T2) z4);refine bR (xs:=(cH (qf S2 y e.1 e.2)).map fun(i:Nat)=>V.int (i:Int)) (fun i σ H5=>∃(o6:Option V) (T5:Tg),σ=[some (.ref b),some (.int (at':Int)),some (.int (y:Int)),some (.int (k:Int)),some (.str e.1),some (.int (e.2:Int)),o6]/\Fr fb T2 T5 H4 H5/\Ew C D B A b l N T5 H5 L ts (((cH (qf S2 y e.1 e.2)).take i).foldl (StI.byTie L at' y e.1 e.2 "tie") S2)) ⟨o6,T2,rfl,Fr.refl,ew4⟩ ?_ ?_ ?_
     · rintro i σ H5 _ ⟨o6,T5,rfl,f5,_⟩;exact SqL.of (Fr.free f5 epl tpl).2
     · rintro i v σ H5 hv ⟨o6,T5,rfl,f5,ew5⟩;rw[bb,cj] at hv;obtain⟨x,hx,rfl⟩:=hv;have hm:=zf (ak hx);have hm5:=lM L at' y e.1 e.2 "tie" ((cH (qf S2 y e.1 e.2)).take i) hm;rw[dG _ _ hx];generalize ((cH (qf S2 y e.1 e.2)).take i).foldl (StI.byTie L at' y e.1 e.2 "tie") S2=S5 at ew5 hm5⊢;have hxx:=(ew2.wf.rg _ hm).1;refine⟨_,_,ew5.ev.sa.ob,dE B l,cV rfl (cV rfl ?_)⟩;refine xi sc ew5.ev.sa hm5 (gv rfl) (gv rfl) (gv rfl) (gv rfl) fun H6 z6=>⟨by show 2<=sizeLine;decide,fun pf hpf=> ?_⟩;have z7:=aj hpf (.lst [.int (S5.facts.idxOf (Fi.has x e.1 y):Nat),.int (at':Int)]);exact gS (nn:=none) (fr:=[((S5.facts.idxOf (Fi.has x e.1 y):Nat):Int),(at':Int)]) ((ew5.same z6).same z7) hxx hk aa ((ew5.same z6).ev.sa.tg.free hpf) fun H8 T8 f8 ew8=>⟨_,T8,rfl,((f5.trans (Fr.of z6)).trans (Fr.of z7)).trans f8,ew8⟩
     · rintro σ H5 ⟨o6,T5,rfl,f5,ew5⟩;rw[ao,bp] at ew5;exact⟨_,_,_,T5,rfl,f4.trans f5,ew5⟩
   · rintro σ H2 ⟨o4,o5,o6,T2,rfl,f2,ew2⟩;rw[lv,bp] at ew2;exact⟨o4,o5,o6,T2,rfl,f1.trans f2,ew2⟩
 rintro σ H' ⟨o4,o5,o6,T',rfl,fr,ew0⟩;have hf0:Fi.is y k∈((L.somes k).foldl (fun S e=>StI.byEnd L at' y "tie" S e.1 e.2) S).facts:=mQ L at' y "tie" (fun e=>e.1) (fun e=>e.2) (L.somes k) hf;unfold StI.fromEnd at q;dsimp only at q;generalize (L.somes k).foldl (fun S e=>StI.byEnd L at' y "tie" S e.1 e.2) S=S0 at ew0 hf0 q;refine⟨D,_,_,_,ew0.ev.sa.ob,sc.c,sc.m0,qz B l,C,_,_,_,ew0.ev.la.ob,lc.c,lc.n14,Fb ew0.ev.ex,?_⟩;by_cases hk1:k=1
 · subst hk1;rw[aI rfl] at q;have nd9:=ew0.ev.sa.s9.2.1;refine⟨D,_,_,_,ew0.ev.sa.ob,sc.c,sc.m10,LG B l,B.q9,_,eG S0.facts,rfl,nd9,oj _,fun p9 h9=> ?_⟩;have z1:=aj h9 (.lst ((eG S0.facts).map V.str));have ew1:=ew0.same z1;have f1:Fr fb T' T' H' (upd H' p9 (.lst ((eG S0.facts).map V.str))):=Fr.of z1;have e9:upd H' p9 (.lst ((eG S0.facts).map V.str)) p9=some (.lst ((eG S0.facts).map V.str)):=aa;have t9:=ew0.ev.sa.tg.free h9;refine⟨⟨_,SqL.of e9⟩,?_⟩;generalize upd H' p9 (.lst ((eG S0.facts).map V.str))=H1 at ew1 f1 e9⊢;have hn:=ew0.ev.p2;refine bR (xs:=(eG S0.facts).map V.str) (fun i σ H2=>∃(o4 o5 o6:Option V) (T2:Tg),σ=[some (.ref b),some (.int (at':Int)),some (.int (y:Int)),some (.int ((1:Nat):Int)),o4,o5,o6]/\Fr fb T' T2 H1 H2/\Ew C D B A b l N T2 H2 L ts (((eG S0.facts).take i).foldl (fun S t=>StI.byEnd L at' y "none" S t 1) S0)) ⟨o4,o5,o6,T',rfl,Fr.refl,ew1⟩ ?_ ?_ ?_
   · rintro i σ H2 _ ⟨o4,o5,o6,T2,rfl,f2,_⟩;exact SqL.of (Fr.free f2 e9 t9).2
   · rintro i v σ H2 hv ⟨o4,o5,o6,T2,rfl,f2,ew2⟩;rw[bb,cj] at hv;obtain⟨t,he,rfl⟩:=hv;have hf2:Fi.is y 1∈(((eG S0.facts).take i).foldl (fun S t=>StI.byEnd L at' y "none" S t 1) S0).facts:=mQ L at' y "none" (fun e=>e) (fun _=>1) ((eG S0.facts).take i) hf0;rw[dG _ _ he];generalize ((eG S0.facts).take i).foldl (fun S t=>StI.byEnd L at' y "none" S t 1) S0=S2 at ew2 hf2⊢;refine gn ?_;refine(lO (a:=cL (cE S2.facts y t)) (c:=cL (iQ S2.facts 1)) (n:=L.parts.length) ?_ ?_ (nO fun i hi=>(ew2.wf.rg _ (mem_startsOf.mp hi)).1) (au (au ew.ev.la.le ew.ev.hN) (by decide)) fun H4 pl z4 epl tpl=> ?_:mj _ _ _ _ _)
     · exact fun Q k=>mP sc sc.m9 (K_ B l) ew2.ev.sa.ob ew2.ev.sa.s8 (gv rfl) (gv rfl) (gv rfl) k
     · exact fun H3 Q z3 k=>Jc (x:=1) sc sc.m6 (MU B l) (ew2.same z3).ev.sa.ob (ew2.same z3).ev.sa.s5 (gv rfl) (gv rfl) (fun z=>by have:=mem_xsOf.mpr hf2;rw[z] at this;exact ai this) (k _ fun _ _ h=>h)
     have ew4:=ew2.same z4;replace tpl:=tpl _ ew2.ev.sa.tg;have f4:=f2.trans (Fr.of (S:=fb) (T:=T2) z4);refine bR (xs:=(cH (qf S2 y t 1)).map fun(i:Nat)=>V.int (i:Int)) (fun i σ H5=>∃(o6:Option V) (T5:Tg),σ=[some (.ref b),some (.int (at':Int)),some (.int (y:Int)),some (.int ((1:Nat):Int)),some (.str t),o5,o6]/\Fr fb T2 T5 H4 H5/\Ew C D B A b l N T5 H5 L ts (((cH (qf S2 y t 1)).take i).foldl (StI.byTie L at' y t 1 "none") S2)) ⟨o6,T2,rfl,Fr.refl,ew4⟩ ?_ ?_ ?_
     · rintro i σ H5 _ ⟨o6,T5,rfl,f5,_⟩;exact SqL.of (Fr.free f5 epl tpl).2
     · rintro i v σ H5 hv ⟨o6,T5,rfl,f5,ew5⟩;rw[bb,cj] at hv;obtain⟨x,hx,rfl⟩:=hv;have hm:=zf (ak hx);have hm5:=lM L at' y t 1 "none" ((cH (qf S2 y t 1)).take i) hm;rw[dG _ _ hx];generalize ((cH (qf S2 y t 1)).take i).foldl (StI.byTie L at' y t 1 "none") S2=S5 at ew5 hm5⊢;have hxx:=(ew2.wf.rg _ hm).1;refine⟨_,_,ew5.ev.sa.ob,dE B l,cV rfl (cV rfl ?_)⟩;refine xi sc ew5.ev.sa hm5 (gv rfl) (gv rfl) (gv rfl) (gv rfl) fun H6 z6=>⟨by show 2<=sizeLine;decide,fun pf hpf=> ?_⟩;have z7:=aj hpf (.lst [.int (S5.facts.idxOf (Fi.has x t y):Nat),.int (at':Int)]);exact gS (nn:=none) (fr:=[((S5.facts.idxOf (Fi.has x t y):Nat):Int),(at':Int)]) ((ew5.same z6).same z7) hxx hn aa ((ew5.same z6).ev.sa.tg.free hpf) fun H8 T8 f8 ew8=>⟨_,T8,rfl,((f5.trans (Fr.of z6)).trans (Fr.of z7)).trans f8,ew8⟩
     · rintro σ H5 ⟨o6,T5,rfl,f5,ew5⟩;rw[ao,bp] at ew5;exact⟨_,_,_,T5,rfl,f4.trans f5,ew5⟩
   · rintro σ H2 ⟨o4,o5,o6,T2,rfl,f2,ew2⟩;rw[ao,bp] at ew2;exact q H2 T2 ((fr.trans f1).trans f2) ew2
 · rw[aD hk1] at q;exact oN rfl (aq fun z=>hk1 (by injection z with z;lia)) (q H' T' fr ew0)
end
def nP(L:LoI)(S:StI)(x:Nat){f:Fi}(h:f∈S.facts):f∈(StI.letStand L S x).facts:=by
 unfold StI.letStand
 split
 · exact h
 · refine(bM L _ x 0 "all" [] none).1 f ?_
   split
   · exact h
   · exact(bM L _ x x "self" [] none).1 f h
def jd(L:LoI)(S:StI)(x:Nat)(t:Str)(y:Nat)(r:Str)(fr:List Int)(nn:Option Int){f:Fi}(h:f∈S.facts):f∈(StI.tellHas L S x t y r fr nn).facts:=by
 unfold StI.tellHas
 split
 · exact h
 · exact nP L _ y (aM _ h)
theorem hJ{α:Type}{g:StI->α->StI}(hg:∀S a f,f∈S.facts->f∈(g S a).facts){f:Fi}:∀(l:List α) {S:StI},f∈S.facts->f∈(l.foldl g S).facts
 | [],_,h=>h
 | a::l,S,h=>hJ hg l (hg S a f h)
noncomputable def StI.byWi(L:LoI)(at' x y:Nat)(S:StI)(e:Str × Int):StI:=StI.tellHas L S x e.1 y "within" [(at':Int)] (some e.2)
noncomputable def StI.byWh(L:LoI)(at' x:Nat)(t:Str)(y:Nat)(S:StI)(k:Nat):StI:=StI.tellIs L S x ((L.wholes t k).getD 0) "tie" [(at':Int),((S.facts.idxOf (Fi.is y k):Nat):Int)] none
noncomputable def ng(L:LoI)(S:StI)(x:Nat)(t:Str)(y:Nat):Nat:=cL (iX S.facts y)&&&anot ((L.fillers t).getD 0) (cL (fj L.shapes S.facts x t))
noncomputable def StI.fromTie(L:LoI)(S:StI)(at' x:Nat)(t:Str)(y:Nat):StI:=
 let S1:=(L.withins t).foldl (StI.byWi L at' x y) S
 let S2:=(cH (ng L S1 x t y)).foldl (StI.byWh L at' x t y) S1
 if Fi.is y 1∈S2.facts then StI.tellIs L S2 x 1 "none" [(at':Int),((S2.facts.idxOf (Fi.is y 1):Nat):Int)] none else S2
def FV(L:LoI)(at' x y:Nat)(S:StI)(e:Str × Int)(f:Fi)(h:f∈S.facts):f∈(StI.byWi L at' x y S e).facts:=jd L S x e.1 y "within" _ _ h
def FW(L:LoI)(at' x:Nat)(t:Str)(y:Nat)(S:StI)(k:Nat)(f:Fi)(h:f∈S.facts):f∈(StI.byWh L at' x t y S k).facts:=(bM L S x _ "tie" _ none).1 f h
def AB(f:Str->List α)(t:Str):kS f (.inr t)=f t:=rfl
def DP(h:k∈cH (ng L S x t y)):Fi.is y k∈S.facts/\∃m,L.fillers t=some m/\m.testBit k=true:=by
 rw[iL,ng,fA,jL,gB,bg,bg,cM] at h;refine⟨mem_ksOf.mp h.1,?_⟩;cases e:L.fillers t with
 | none=>rw[e] at h;simp at h
 | some m=>rw[e] at h;exact⟨m,rfl,h.2.1⟩
section
def lV(h:σ[i]? =some (some v))(q:ta σ H fun xs H1=>(v::xs).length<=sizeLine/\∀p,H1 p=none->tr σ (upd H1 p (.lst (v::xs))) fun ys H2=>Q (w:: .ref p::ys) H2):dY (tC w) (dY (Jr (dY (ow i) ta)) tr) σ H Q:=onV.of h q
def My{Q:VK}(k:Q (.int (anot a c:Nat)) H):rU (fun i=>V.int (Builtin.bitNot i)) (.int (c:Int)) H fun y H2=>BB (fun i j=>V.int (Builtin.bitAnd i j)) (.int (a:Int)) y H2 Q:=by
 show Q (.int (Builtin.bitAnd (a:Int) (Builtin.bitNot (c:Int)))) H;rw[Co];exact k
def OM(h:ta σ H fun x H1=>r x H1 Q):Ni r ta σ H Q:=h
def FY{a c:Nat}(h1:∀Q:VK,(∀H1,Same H H1->Q (.int (a:Int)) H1)->ta σ H Q)(h2:∀(H1:Hp) (Q:VK),Same H H1->(∀H2,Same H1 H2->Q (.int (c:Int)) H2)->tb σ H1 Q)(lt:a<2^n)(le:n<=100000)(k:∀H2 pl,Same H H2->H2 pl=some (.lst ((cH (a&&&c)).map fun(i:Nat)=>V.int (i:Int)))->(∀T,TgOk T H->T pl=none)->R (K6 K pl) H2):mj K (q_ oA [] E0 (dY (DT (BB fun i j=>V.int (Builtin.bitAnd i j)) ta tb) iS)) σ H R:=by
 refine h1 _ fun H1 s1=>h2 _ _ s1 fun H2 s2=> ?_;show nB [.int (Builtin.bitAnd (a:Int) (c:Int))] H2 _;rw[F4];refine⟨_,n,rfl,bz (F5 a c) lt,le,fun pl hpl=> ?_⟩;have z:=aj hpl (.lst ((cH (a&&&c)).map fun(i:Nat)=>V.int (i:Int)));exact⟨⟨_,SqL.of aa⟩,k _ pl (fun x o h=>z x o (s2 x o (s1 x o h))) aa fun T tg=>((tg.same s1).same s2).free hpl⟩
end
inductive pE(C D:Addr)(vs:List V)(H:Hp)(Q:VK):Prop
 | mk:∀(b l:Addr) (B:zt) (A:LoA) (N:Nat) (T:Tg) (L:LoI) (ts:List Str) (S:StI) (at' x:Nat) (t:Str) (y:Nat),(vs=[.ref b,.int (at':Int),.int (x:Int),.str t,.int (y:Int)])->(Ew C D B A b l N T H L ts S)->(Fi.has x t y∈S.facts)->(∀H' T',Fr fb T T' H H'->Ew C D B A b l N T' H' L ts (StI.fromTie L S at' x t y)->Q .non H')->pE C D vs H Q
def uG(C D:Addr):Sp:=fun vs H Q _=>pE C D vs H Q
section
def scFTi:bj ["self","at","x","tie","y","wider","number","wanted","kind"] pM (aJ oH):=gy
def An(F:Fun K "from_tie" "Still.from_tie" oH f fd)(lc:xu K C)(sc:vn K D)(Gti:Ml P w K mg base D 2 "tell_is" nF (gZ C D))(Gth:Ml P w K mg base D 6 "tell_has" si (jB C D))(Gbo:Cl P w K mg base 1 "bits_of" ["mask"] oA):bW P w K mg base eW 7 f fd pM (uG C D):=by
 refine F.o scFTi fun cdv A0 outer s0 H vs Q E hr h=> ?_;obtain⟨b,l,B,A,N,T,L,ts,S,at',x,t,y,rfl,ew,hf,q⟩:=h;have hu:=fh hr;have rg:=ew.wf.rg _ hf;have hnN:L.parts.length<=100000:=au (au ew.ev.la.le ew.ev.hN) (by decide);refine⟨_,hG (jR (bS (sx hu (dv (dv aA)) bU (bV cz))) (eJ rfl (bw (e_ 5 scFTi.nd) (bw (e_ 6 scFTi.nd) dA))) (aV (be (ij aA sc.c Gth hr (bY bH (bY dH (iU bX aS (bV (eP bf)) dN)))))))
  (aZ (fz 7 scFTi.nd (bh mK (sx hu (dv (dv aA)) bU av) (nK qW (sx hu (dv aA) (cX (fg bH bU)) av))))
  (hG (jR (bS (dF Gbo hr (eP (bh mK (Ah hu (dv aA) bX) gN)))) (e_ 8 scFTi.nd) (aV (be (ij aA sc.c Gti hr (bY bH (iU (Ah hu (dv (dv aA)) (cX (fg bU gM))) aS (bV (fg bf (Ah hu (dv aA) (cX (fg bX gM))))) fL))))))
  (aV (bA (eI (kO hu) (cX (fg bX (dv (dv aA)))) (dv aA)) (aV (be (ij aA sc.c Gti hr (bY bH (iU (dv (dv aA)) aS (bV (fg bf (Ah hu (dv aA) (cX (fg bX (dv (dv aA))))))) fL))))) aQ)))),?_⟩
 refine⟨fun σ H'=>∃(o5 o6 o7 o8:Option V) (T':Tg),σ=[some (.ref b),some (.int (at':Int)),some (.int (x:Int)),some (.str t),some (.int (y:Int)),o5,o6,o7,o8]/\Fr fb T T' H H'/\Ew C D B A b l N T' H' L ts ((L.withins t).foldl (StI.byWi L at' x y) S),?_,?_⟩
 · refine⟨D,_,_,_,ew.ev.sa.ob,sc.c,sc.m0,qz B l,C,_,_,_,ew.ev.la.ob,lc.c,lc.n6,Ot A,.inl ⟨_,.inl (id ew.ev.la.f6).2.choose_spec.1⟩,ay _,fun g0 hg0=> ?_⟩;obtain⟨kvs,qq,vs,ep,eg,eq,rv,stay⟩:=jM es2_mo ew.ev.la.f6 ew.ev.la.tg hg0 (.inr t);rw[AB] at rv;have z1:=aj hg0 (.lst []);have ew1:=ew.same z1;have f1:Fr fb T T H (upd H g0 (.lst [])):=Fr.of z1;generalize upd H g0 (.lst [])=H1 at ep eq rv stay ew1 f1⊢;refine⟨_,DGet.k (k:= .inr t) ep,?_⟩;rw[eg];have lv:=aX rv;refine⟨⟨_,SqL.of eq⟩,bR (xs:=vs) (fun i σ H2=>∃(o5 o6 o7 o8:Option V) (T2:Tg),σ=[some (.ref b),some (.int (at':Int)),some (.int (x:Int)),some (.str t),some (.int (y:Int)),o5,o6,o7,o8]/\Fr fb T T2 H1 H2/\Ew C D B A b l N T2 H2 L ts (((L.withins t).take i).foldl (StI.byWi L at' x y) S)) ⟨none,none,none,none,T,rfl,Fr.refl,ew1⟩ ?_ ?_ ?_⟩
   · rintro i σ H2 _ ⟨o5,o6,o7,o8,T2,rfl,f2,_⟩;exact SqL.of (stay f2 (by decide))
   · rintro i v σ H2 hv ⟨o5,o6,o7,o8,T2,rfl,f2,ew2⟩;obtain⟨e,he,t0,rfl,ht⟩:=bT rv hv;have hin:=ak he;rw[dG _ _ he];generalize ((L.withins t).take i).foldl (StI.byWi L at' x y) S=S2 at ew2⊢;refine⟨_,SqT.of (f2.tups _ _ ht),rfl,?_⟩;refine⟨_,_,ew2.ev.sa.ob,g_ B l,by show 1<=sizeLine;decide,fun pf hpf=> ?_⟩;have z3:=aj hpf (.lst [.int (at':Int)]);exact kr (nn:=some e.2) (fr:=[(at':Int)]) (ew2.same z3) rg.1 (ew.wd.wi t e hin) rg.2.2 aa (ew2.ev.sa.tg.free hpf) fun H4 T4 f4 ew4=>⟨_,_,_,_,T4,rfl,(f2.trans (Fr.of z3)).trans f4,ew4⟩
   · rintro σ H2 ⟨o5,o6,o7,o8,T2,rfl,f2,ew2⟩;rw[lv,bp] at ew2;exact⟨o5,o6,o7,o8,T2,rfl,f1.trans f2,ew2⟩
 rintro σ H' ⟨o5,o6,o7,o8,T',rfl,fr,ew0⟩;have hf0:Fi.has x t y∈((L.withins t).foldl (StI.byWi L at' x y) S).facts:=hJ (FV L at' x y) (L.withins t) hf;unfold StI.fromTie at q;dsimp only at q;generalize (L.withins t).foldl (StI.byWi L at' x y) S=S0 at ew0 hf0 q;obtain⟨_,kvf,ef,rf,_⟩:=id ew0.ev.la.f11;have vf:(cS kvf (.inr t)).getD (.int 0)= .int (((L.fillers t).getD 0:Nat):Int):=by
  rw[rf];show((L.fillers t).map fun(m:Nat)=>V.int (m:Int)).getD _=_;cases L.fillers t<;>rfl
 refine⟨D,_,_,_,ew0.ev.sa.ob,sc.c,sc.m0,qz B l,C,_,_,_,ew0.ev.la.ob,lc.c,lc.n11,Kf A,.inl ⟨_,.inl ef⟩,_,DGet.k (k:= .inr t) ef,?_⟩;rw[vf];refine OM (mP (x:=x) (t:=t) sc sc.m7 (Nw B l) ew0.ev.sa.ob ew0.ev.sa.s6 (gv rfl) (gv rfl) (gv rfl) fun H1 z1=> ?_);refine My (gn ?_);have ew1:=ew0.same z1;have f1:=fr.trans (Fr.of (S:=fb) (T:=T') z1);have wk:iX S0.facts y≠[]:=fun z=>by
  have:=mem_ksOf.mpr (ew0.wf.st0 y (ew0.wf.hs _ _ _ hf0));rw[z] at this;exact ai this
 refine⟨fun σ H'=>∃(o8:Option V) (T2:Tg),σ=[some (.ref b),some (.int (at':Int)),some (.int (x:Int)),some (.str t),some (.int (y:Int)),o5,o6,some (.int (anot ((L.fillers t).getD 0) (cL (fj L.shapes S0.facts x t)):Nat)),o8]/\Fr fb T T2 H H'/\Ew C D B A b l N T2 H' L ts ((cH (ng L S0 x t y)).foldl (StI.byWh L at' x t y) S0),?_,?_⟩
 · refine(FY (a:=cL (iX S0.facts y)) (c:=anot ((L.fillers t).getD 0) (cL (fj L.shapes S0.facts x t))) (n:=L.parts.length) ?_ ?_ (nO fun i hi=>(ew0.wf.rg _ (mem_ksOf.mp hi)).2) hnN fun H4 pl z4 epl tpl=> ?_:mj _ _ _ _ _)
   · exact fun Q k=>Jc sc sc.m5 (sk5 B l) ew1.ev.sa.ob ew1.ev.sa.s4 (gv rfl) (gv rfl) wk (k _ fun _ _ h=>h)
   · exact fun H3 Q z3 k=>(k _ fun _ _ h=>h)
   have ew4:=ew1.same z4;replace tpl:=tpl _ ew1.ev.sa.tg;have f4:=f1.trans (Fr.of (S:=fb) (T:=T') z4);refine bR (xs:=(cH (ng L S0 x t y)).map fun(i:Nat)=>V.int (i:Int)) (fun i σ H5=>∃(o8:Option V) (T5:Tg),σ=[some (.ref b),some (.int (at':Int)),some (.int (x:Int)),some (.str t),some (.int (y:Int)),o5,o6,some (.int (anot ((L.fillers t).getD 0) (cL (fj L.shapes S0.facts x t)):Nat)),o8]/\Fr fb T' T5 H4 H5/\Ew C D B A b l N T5 H5 L ts (((cH (ng L S0 x t y)).take i).foldl (StI.byWh L at' x t y) S0)) ⟨o8,T',rfl,Fr.refl,ew4⟩ ?_ ?_ ?_
   · rintro i σ H5 _ ⟨o8,T5,rfl,f5,_⟩;exact SqL.of (Fr.free f5 epl tpl).2
   · rintro i v σ H5 hv ⟨o8,T5,rfl,f5,ew5⟩;rw[bb,cj] at hv;obtain⟨k,hk,rfl⟩:=hv;obtain⟨hm,m,hm1,hm2⟩:=DP (ak hk);obtain⟨wh,hw1,hw2,hw3⟩:=ew.wd.fi t m k hm1 hm2;have hm5:=hJ (FW L at' x t y) ((cH (ng L S0 x t y)).take i) hm;rw[dG _ _ hk];generalize ((cH (ng L S0 x t y)).take i).foldl (StI.byWh L at' x t y) S0=S5 at ew5 hm5⊢;obtain⟨_,kw,e12,r12,_⟩:=id ew5.ev.la.f12;have v12:cS kw [.inr t,.inl (k:Int)]=some (.int (wh:Int)):=by
      rw[r12];show(if 0<=(k:Int) then(L.wholes t (k:Int).toNat).map fun(m:Nat)=>V.int (m:Int) else none)=_;rw[aI (by lia),cB,hw1];rfl
     refine⟨_,_,ew5.ev.sa.ob,dE B l,D,_,_,_,ew5.ev.sa.ob,sc.c,sc.m0,qz B l,C,_,_,_,ew5.ev.la.ob,lc.c,lc.n12,Md A,by show 2<=sizeLine;decide,fun u6 hu6=> ?_⟩;have z6:=aj hu6 (.tup [.str t,.int (k:Int)]);have ew6:=ew5.same z6;have h6:upd H5 u6 (.tup [.str t,.int (k:Int)]) u6=some (.tup [.str t,.int (k:Int)]):=aa;have e6:=z6 _ _ e12;have f6:=f5.trans (Fr.of (S:=fb) (T:=T5) z6);generalize upd H5 u6 (.tup [.str t,.int (k:Int)])=H6 at ew6 h6 e6 f6⊢;refine⟨_,.inr ⟨kw,[.inr t,.inl (k:Int)],u6,.inl e6,rfl,h6,v12.symm⟩,?_⟩;refine lV rfl ?_;refine Jd sc ew6.ev.sa hm5 (gv rfl) (gv rfl) (gv rfl _) fun H7 z7=>⟨by show 2<=sizeLine;decide,fun pf hpf=> ?_⟩;have z8:=aj hpf (.lst [.int (at':Int),.int (S5.facts.idxOf (Fi.is y k):Nat)]);refine gS (k:=wh) (nn:=none) (fr:=[(at':Int),((S5.facts.idxOf (Fi.is y k):Nat):Int)]) ((ew6.same z7).same z8) rg.1 hw2 aa ((ew6.same z7).ev.sa.tg.free hpf) fun H8 T8 f8 ew8=>⟨_,T8,rfl,((f6.trans (Fr.of z7)).trans (Fr.of z8)).trans f8,?_⟩;unfold StI.byWh;rw[hw1];exact ew8
   · rintro σ H5 ⟨o8,T5,rfl,f5,ew5⟩;rw[ao,bp] at ew5;exact⟨_,T5,rfl,f4.trans f5,ew5⟩
 rintro σ H2 ⟨o8,T2,rfl,f2,ew2⟩;generalize (cH (ng L S0 x t y)).foldl (StI.byWh L at' x t y) S0=S2 at ew2 q;refine⟨D,_,_,_,ew2.ev.sa.ob,sc.c,sc.m0,qz B l,C,_,_,_,ew2.ev.la.ob,lc.c,lc.n14,Fb ew2.ev.ex,by show 2<=sizeLine;decide,fun u hu'=> ?_⟩;have z3:=aj hu' (.tup [.int (y:Int),.int ((1:Nat):Int)]);have ew3:=ew2.same z3;have h3:upd H2 u (.tup [.int (y:Int),.int ((1:Nat):Int)]) u=some (.tup [.int (y:Int),.int ((1:Nat):Int)]):=aa;have f3:=f2.trans (Fr.of (S:=fb) (T:=T2) z3);generalize upd H2 u (.tup [.int (y:Int),.int ((1:Nat):Int)])=H3 at ew3 h3 f3⊢;obtain⟨kp,e4,r4⟩:=kJ ew3.ev.sa (.is y 1);refine⟨D,_,_,_,ew3.ev.sa.ob,sc.c,sc.m3,D_ B l,B.q2,_,rfl,DGet.t (k:=(Fi.is y 1).key) e4 h3,?_⟩;rw[r4];by_cases hn:Fi.is y 1∈S2.facts
 · rw[aI hn];rw[aI hn] at q;refine⟨_,_,ew3.ev.sa.ob,dE B l,D,_,_,_,ew3.ev.sa.ob,sc.c,sc.m0,qz B l,C,_,_,_,ew3.ev.la.ob,lc.c,lc.n14,Fb ew3.ev.ex,?_⟩;refine lV rfl ?_;refine Jd (y:=1) sc ew3.ev.sa hn (gv rfl) (gv rfl) (fun _ h=>⟨D,_,_,_,ew3.ev.sa.ob,sc.c,sc.m0,qz B l,C,_,_,_,ew3.ev.la.ob,lc.c,lc.n14,Fb ew3.ev.ex,h⟩) fun H7 z7=>⟨by show 2<=sizeLine;decide,fun pf hpf=> ?_⟩;have z8:=aj hpf (.lst [.int (at':Int),.int (S2.facts.idxOf (Fi.is y 1):Nat)]);exact gS (k:=1) (nn:=none) (fr:=[(at':Int),((S2.facts.idxOf (Fi.is y 1):Nat):Int)]) ((ew3.same z7).same z8) rg.1 ew.ev.p2 aa ((ew3.same z7).ev.sa.tg.free hpf) fun H8 T8 f8 ew8=>q H8 T8 (((f3.trans (Fr.of z7)).trans (Fr.of z8)).trans f8) ew8
 · rw[aD hn];rw[aD hn] at q;exact(q H3 T2 f3 ew3)
end
noncomputable def yP(S:StI)(x y:Nat)(e:Str × Str × Int):Nat:=anot (cL (eS S.facts y e.1)) (cL (eS S.facts x e.2.1))
noncomputable def yO(S:StI)(x y:Nat)(e:Str × Str × Int):Nat:=anot (cL (cE S.facts x e.1)) (cL (cE S.facts y e.2.1))
noncomputable def StI.mk1a(L:LoI)(at' x y:Nat)(e:Str × Str × Int)(S:StI)(z:Nat):StI:=StI.tellHas L S x e.2.1 z "makes" [(at':Int),((S.facts.idxOf (Fi.has y e.1 z):Nat):Int)] (some e.2.2)
noncomputable def StI.mk2a(L:LoI)(at' x y:Nat)(e:Str × Str × Int)(S:StI)(z:Nat):StI:=StI.tellHas L S z e.2.1 y "makes" [((S.facts.idxOf (Fi.has z e.1 x):Nat):Int),(at':Int)] (some e.2.2)
noncomputable def StI.byMk1(L:LoI)(at' x y:Nat)(S:StI)(e:Str × Str × Int):StI:=(cH (yP S x y e)).foldl (StI.mk1a L at' x y e) S
noncomputable def StI.byMk2(L:LoI)(at' x y:Nat)(S:StI)(e:Str × Str × Int):StI:=(cH (yO S x y e)).foldl (StI.mk2a L at' x y e) S
noncomputable def StI.fromChains(L:LoI)(S:StI)(at' x:Nat)(t:Str)(y:Nat):StI:=(L.mk2 t).foldl (StI.byMk2 L at' x y) ((L.mk1 t).foldl (StI.byMk1 L at' x y) S)
def E4(L:LoI)(at' x y:Nat)(e:Str × Str × Int)(S:StI)(z:Nat)(f:Fi)(h:f∈S.facts):f∈(StI.mk1a L at' x y e S z).facts:=jd L S _ _ _ _ _ _ h
def EZ(L:LoI)(at' x y:Nat)(e:Str × Str × Int)(S:StI)(z:Nat)(f:Fi)(h:f∈S.facts):f∈(StI.mk2a L at' x y e S z).facts:=jd L S _ _ _ _ _ _ h
def E5(h:z∈cH (yP S x y e)):Fi.has y e.1 z∈S.facts:=by
 rw[iL,yP,jL,gB,bg,cM] at h;exact mem_endsOf.mp h.1
def E1(h:z∈cH (yO S x y e)):Fi.has z e.1 x∈S.facts:=by
 rw[iL,yO,jL,gB,bg,cM] at h;exact mem_startsOf.mp h.1
inductive kF(C D:Addr)(vs:List V)(H:Hp)(Q:VK):Prop
 | mk:∀(b l:Addr) (B:zt) (A:LoA) (N:Nat) (T:Tg) (L:LoI) (ts:List Str) (S:StI) (at' x:Nat) (t:Str) (y:Nat),(vs=[.ref b,.int (at':Int),.int (x:Int),.str t,.int (y:Int)])->(Ew C D B A b l N T H L ts S)->(x<L.parts.length)->(y<L.parts.length)->(∀H' T',Fr fb T T' H H'->Ew C D B A b l N T' H' L ts (StI.fromChains L S at' x t y)->Q .non H')->kF C D vs H Q
def ny(C D:Addr):Sp:=fun vs H Q _=>kF C D vs H Q
section
def scFC:bj ["self","at","x","tie","y","onward","made","number","z","before","w"] pM (aJ jP):=gy
def tX(F:Fun K "from_chains" "Still.from_chains" jP f fd)(lc:xu K C)(sc:vn K D)(Gth:Ml P w K mg base D 6 "tell_has" si (jB C D))(Gbo:Cl P w K mg base 1 "bits_of" ["mask"] oA):bW P w K mg base eW 7 f fd pM (ny C D):=by
 refine F.o scFC fun cdv A0 outer s0 H vs Q E hr h=> ?_;obtain⟨b,l,B,A,N,T,L,ts,S,at',x,t,y,rfl,ew,hx,hy,q⟩:=h;have hu:=fh hr;have hnN:L.parts.length<=100000:=au (au ew.ev.la.le ew.ev.hN) (by decide);refine⟨_,hG (jR (bS (sx hu (dv (dv aA)) bU (bV cz))) (eJ rfl (bw (e_ 5 scFC.nd) (bw (e_ 6 scFC.nd) (bw (e_ 7 scFC.nd) dA)))) (aV (jR (bS (dF Gbo hr (eP (bh mK (sx hu (dv aA) (cX (fg bX dH)) av) (nK qW (sx hu (dv aA) (cX (fg bH dN)) av)))))) (e_ 8 scFC.nd) (aV (be (ij aA sc.c Gth hr (bY bH (bY dN (iU gM aS (bV (fg bf (Ah hu (dv aA) (cX (gc bX dH gM))))) gN)))))))))
  (aV (jR (bS (sx hu (dv (dv aA)) bU (bV cz))) (eJ rfl (bw (e_ 9 scFC.nd) (bw (e_ 6 scFC.nd) (bw (e_ 7 scFC.nd) dA)))) (aV (jR (bS (dF Gbo hr (eP (bh mK (sx hu (dv aA) (cX (fg bH lQ)) av) (nK qW (sx hu (dv aA) (cX (fg bX dN)) av)))))) (e_ 10 scFC.nd) (aV (be (ij aA sc.c Gth hr (bY (pv 10) (bY dN (iU bX aS (bV (fg (Ah hu (dv aA) (cX (gc (pv 10) lQ bH))) bf)) gN)))))))))),?_⟩
 refine⟨fun σ H'=>∃(o5 o6 o7 o8 o9 o10:Option V) (T':Tg),σ=[some (.ref b),some (.int (at':Int)),some (.int (x:Int)),some (.str t),some (.int (y:Int)),o5,o6,o7,o8,o9,o10]/\Fr fb T T' H H'/\Ew C D B A b l N T' H' L ts ((L.mk1 t).foldl (StI.byMk1 L at' x y) S),?_,?_⟩
 · have _:=hx;refine⟨D,_,_,_,ew.ev.sa.ob,sc.c,sc.m0,qz B l,C,_,_,_,ew.ev.la.ob,lc.c,lc.n7,Os A,.inl ⟨_,.inl (id ew.ev.la.f7).2.choose_spec.1⟩,ay _,fun g0 hg0=> ?_⟩;obtain⟨kvs,qq,vs,ep,eg,eq,rv,stay⟩:=jM es3_mo ew.ev.la.f7 ew.ev.la.tg hg0 (.inr t);rw[AB] at rv;have z1:=aj hg0 (.lst []);have ew1:=ew.same z1;have f1:Fr fb T T H (upd H g0 (.lst [])):=Fr.of z1;generalize upd H g0 (.lst [])=H1 at ep eq rv stay ew1 f1⊢;refine⟨_,DGet.k (k:= .inr t) ep,?_⟩;rw[eg];have lv:=aX rv;refine⟨⟨_,SqL.of eq⟩,bR (xs:=vs) (fun i σ H2=>∃(o5 o6 o7 o8 o9 o10:Option V) (T2:Tg),σ=[some (.ref b),some (.int (at':Int)),some (.int (x:Int)),some (.str t),some (.int (y:Int)),o5,o6,o7,o8,o9,o10]/\Fr fb T T2 H1 H2/\Ew C D B A b l N T2 H2 L ts (((L.mk1 t).take i).foldl (StI.byMk1 L at' x y) S)) ⟨none,none,none,none,none,none,T,rfl,Fr.refl,ew1⟩ ?_ ?_ ?_⟩
   · rintro i σ H2 _ ⟨o5,o6,o7,o8,o9,o10,T2,rfl,f2,_⟩;exact SqL.of (stay f2 (by decide))
   · rintro i v σ H2 hv ⟨o5,o6,o7,o8,o9,o10,T2,rfl,f2,ew2⟩;obtain⟨e,he,t0,rfl,ht⟩:=bT rv hv;have hin:=ak he;rw[dG _ _ he];generalize ((L.mk1 t).take i).foldl (StI.byMk1 L at' x y) S=S2 at ew2⊢;refine⟨_,SqT.of (f2.tups _ _ ht),rfl,?_⟩;refine g3 ?_;refine(lO (a:=cL (eS S2.facts y e.1)) (c:=cL (eS S2.facts x e.2.1)) (n:=L.parts.length) ?_ ?_ (nO fun i hi=>(ew2.wf.rg _ (mem_endsOf.mp hi)).2.2) hnN fun H4 pl z4 epl tpl=> ?_:mj _ _ _ _ _)
     · exact fun Q k=>mP sc sc.m8 (MT B l) ew2.ev.sa.ob ew2.ev.sa.s7 (gv rfl) (gv rfl) (gv rfl) k
     · exact fun H3 Q z3 k=>mP sc sc.m8 (MT B l) (ew2.same z3).ev.sa.ob (ew2.same z3).ev.sa.s7 (gv rfl) (gv rfl) (gv rfl) k
     have ew4:=ew2.same z4;replace tpl:=tpl _ ew2.ev.sa.tg;have f4:=f2.trans (Fr.of (S:=fb) (T:=T2) z4);refine bR (xs:=(cH (yP S2 x y e)).map fun(i:Nat)=>V.int (i:Int)) (fun i σ H5=>∃(oo:Option V) (T5:Tg),σ=[some (.ref b),some (.int (at':Int)),some (.int (x:Int)),some (.str t),some (.int (y:Int)),some (.str e.1),some (.str e.2.1),some (.int e.2.2),oo,o9,o10]/\Fr fb T2 T5 H4 H5/\Ew C D B A b l N T5 H5 L ts (((cH (yP S2 x y e)).take i).foldl (StI.mk1a L at' x y e) S2)) ⟨o8,T2,rfl,Fr.refl,ew4⟩ ?_ ?_ ?_
     · rintro i σ H5 _ ⟨oo,T5,rfl,f5,_⟩;exact SqL.of (Fr.free f5 epl tpl).2
     · rintro i v σ H5 hv ⟨oo,T5,rfl,f5,ew5⟩;rw[bb,cj] at hv;obtain⟨z,hz,rfl⟩:=hv;have hm:=E5 (ak hz);have hm5:=hJ (E4 L at' x y e) ((cH (yP S2 x y e)).take i) hm;rw[dG _ _ hz];generalize ((cH (yP S2 x y e)).take i).foldl (StI.mk1a L at' x y e) S2=S5 at ew5 hm5⊢;refine⟨_,_,ew5.ev.sa.ob,g_ B l,cV rfl (cV rfl (cV rfl (lV rfl ?_)))⟩;refine xi sc ew5.ev.sa hm5 (gv rfl) (gv rfl) (gv rfl) (gv rfl) fun H6 z6=>⟨by show 2<=sizeLine;decide,fun pf hpf=> ?_⟩;have z7:=aj hpf (.lst [.int (at':Int),.int (S5.facts.idxOf (Fi.has y e.1 z):Nat)]);exact kr (nn:=some e.2.2) (fr:=[(at':Int),((S5.facts.idxOf (Fi.has y e.1 z):Nat):Int)]) ((ew5.same z6).same z7) hx (ew.wd.m1 t e hin) (ew2.wf.rg _ hm).2.2 aa ((ew5.same z6).ev.sa.tg.free hpf) fun H8 T8 f8 ew8=>⟨_,T8,rfl,((f5.trans (Fr.of z6)).trans (Fr.of z7)).trans f8,ew8⟩
     · rintro σ H5 ⟨oo,T5,rfl,f5,ew5⟩;rw[ao,bp] at ew5;exact⟨_,_,_,_,_,_,T5,rfl,f4.trans f5,ew5⟩
   · rintro σ H2 ⟨o5,o6,o7,o8,o9,o10,T2,rfl,f2,ew2⟩;rw[lv,bp] at ew2;exact⟨o5,o6,o7,o8,o9,o10,T2,rfl,f1.trans f2,ew2⟩
 rintro σ H' ⟨o5,o6,o7,o8,o9,o10,T',rfl,fr,ew0⟩;unfold StI.fromChains at q;generalize (L.mk1 t).foldl (StI.byMk1 L at' x y) S=S0 at ew0 q;refine⟨D,_,_,_,ew0.ev.sa.ob,sc.c,sc.m0,qz B l,C,_,_,_,ew0.ev.la.ob,lc.c,lc.n8,Oq A,.inl ⟨_,.inl (id ew0.ev.la.f8).2.choose_spec.1⟩,ay _,fun g0 hg0=> ?_⟩;obtain⟨kvs,qq,vs,ep,eg,eq,rv,stay⟩:=jM es3_mo ew0.ev.la.f8 ew0.ev.la.tg hg0 (.inr t);rw[AB] at rv;have z1:=aj hg0 (.lst []);have ew1:=ew0.same z1;have f1:Fr fb T' T' H' (upd H' g0 (.lst [])):=Fr.of z1;generalize upd H' g0 (.lst [])=H1 at ep eq rv stay ew1 f1⊢;refine⟨_,DGet.k (k:= .inr t) ep,?_⟩;rw[eg];have lv:=aX rv;refine⟨⟨_,SqL.of eq⟩,bR (xs:=vs) (fun i σ H2=>∃(o5 o6 o7 o8 o9 o10:Option V) (T2:Tg),σ=[some (.ref b),some (.int (at':Int)),some (.int (x:Int)),some (.str t),some (.int (y:Int)),o5,o6,o7,o8,o9,o10]/\Fr fb T' T2 H1 H2/\Ew C D B A b l N T2 H2 L ts (((L.mk2 t).take i).foldl (StI.byMk2 L at' x y) S0)) ⟨o5,o6,o7,o8,o9,o10,T',rfl,Fr.refl,ew1⟩ ?_ ?_ ?_⟩
 · rintro i σ H2 _ ⟨o5,o6,o7,o8,o9,o10,T2,rfl,f2,_⟩;exact SqL.of (stay f2 (by decide))
 · rintro i v σ H2 hv ⟨o5,o6,o7,o8,o9,o10,T2,rfl,f2,ew2⟩;obtain⟨e,he,t0,rfl,ht⟩:=bT rv hv;have hin:=ak he;rw[dG _ _ he];generalize ((L.mk2 t).take i).foldl (StI.byMk2 L at' x y) S0=S2 at ew2⊢;refine⟨_,SqT.of (f2.tups _ _ ht),rfl,?_⟩;refine g3 ?_;refine(lO (a:=cL (cE S2.facts x e.1)) (c:=cL (cE S2.facts y e.2.1)) (n:=L.parts.length) ?_ ?_ (nO fun i hi=>(ew2.wf.rg _ (mem_startsOf.mp hi)).1) hnN fun H4 pl z4 epl tpl=> ?_:mj _ _ _ _ _)
   · exact fun Q k=>mP sc sc.m9 (K_ B l) ew2.ev.sa.ob ew2.ev.sa.s8 (gv rfl) (gv rfl) (gv rfl) k
   · exact fun H3 Q z3 k=>mP sc sc.m9 (K_ B l) (ew2.same z3).ev.sa.ob (ew2.same z3).ev.sa.s8 (gv rfl) (gv rfl) (gv rfl) k
   have ew4:=ew2.same z4;replace tpl:=tpl _ ew2.ev.sa.tg;have f4:=f2.trans (Fr.of (S:=fb) (T:=T2) z4);refine bR (xs:=(cH (yO S2 x y e)).map fun(i:Nat)=>V.int (i:Int)) (fun i σ H5=>∃(oo:Option V) (T5:Tg),σ=[some (.ref b),some (.int (at':Int)),some (.int (x:Int)),some (.str t),some (.int (y:Int)),o5,some (.str e.2.1),some (.int e.2.2),o8,some (.str e.1),oo]/\Fr fb T2 T5 H4 H5/\Ew C D B A b l N T5 H5 L ts (((cH (yO S2 x y e)).take i).foldl (StI.mk2a L at' x y e) S2)) ⟨o10,T2,rfl,Fr.refl,ew4⟩ ?_ ?_ ?_
   · rintro i σ H5 _ ⟨oo,T5,rfl,f5,_⟩;exact SqL.of (Fr.free f5 epl tpl).2
   · rintro i v σ H5 hv ⟨oo,T5,rfl,f5,ew5⟩;rw[bb,cj] at hv;obtain⟨z,hz,rfl⟩:=hv;have hm:=E1 (ak hz);have hm5:=hJ (EZ L at' x y e) ((cH (yO S2 x y e)).take i) hm;rw[dG _ _ hz];generalize ((cH (yO S2 x y e)).take i).foldl (StI.mk2a L at' x y e) S2=S5 at ew5 hm5⊢;refine⟨_,_,ew5.ev.sa.ob,g_ B l,cV rfl (cV rfl (cV rfl ?_))⟩;refine xi sc ew5.ev.sa hm5 (gv rfl) (gv rfl) (gv rfl) (gv rfl) fun H6 z6=>⟨by show 2<=sizeLine;decide,fun pf hpf=> ?_⟩;have z7:=aj hpf (.lst [.int (S5.facts.idxOf (Fi.has z e.1 x):Nat),.int (at':Int)]);exact kr (nn:=some e.2.2) (fr:=[((S5.facts.idxOf (Fi.has z e.1 x):Nat):Int),(at':Int)]) ((ew5.same z6).same z7) (ew2.wf.rg _ hm).1 (ew.wd.m2 t e hin) hy aa ((ew5.same z6).ev.sa.tg.free hpf) fun H8 T8 f8 ew8=>⟨_,T8,rfl,((f5.trans (Fr.of z6)).trans (Fr.of z7)).trans f8,ew8⟩
   · rintro σ H5 ⟨oo,T5,rfl,f5,ew5⟩;rw[ao,bp] at ew5;exact⟨_,_,_,_,_,_,T5,rfl,f4.trans f5,ew5⟩
 · rintro σ H2 ⟨o5,o6,o7,o8,o9,o10,T2,rfl,f2,ew2⟩;rw[lv,bp] at ew2;exact q H2 T2 ((fr.trans f1).trans f2) ew2
end
noncomputable def StI.turn(L:LoI)(S:StI)(at':Nat):Fi->StI
 | .is x k=>StI.fromEnd L (StI.fromPairs L (StI.fromKind L S at' x k) at' x k) at' x k
 | .has x t y=>StI.fromChains L (StI.fromTie L S at' x t y) at' x t y
def FX(L:LoI)(at' x:Nat)(S:StI)(e:Nat × Int × Bool)(f:Fi)(h:f∈S.facts):f∈(StI.byNo L at' x S e).facts:=by
 unfold StI.byNo
 split
 · exact(bM L S x 1 "no" _ _).1 f h
 · exact h
def AL(L:LoI)(at' x:Nat)(S:StI)(e:Nat × Nat × Bool)(f:Fi)(h:f∈S.facts):f∈(StI.byBoth L at' x S e).facts:=by
 unfold StI.byBoth
 split
 · exact(bM L S x e.2.1 "both" _ _).1 f h
 · exact h
def tZ(L:LoI)(S:StI)(at' x k:Nat){f:Fi}(h:f∈S.facts):f∈(StI.fromPairs L S at' x k).facts:=hJ (AL L at' x) _ (hJ (FX L at' x) _ h)
def w_(L:LoI)(S:StI)(at' x k:Nat){f:Fi}(h:f∈S.facts):f∈(StI.fromKind L S at' x k).facts:=by
 have h1:f∈((L.everys k).foldl (fun S e=>StI.tellIs L S x e.1 "every" [(at':Int)] (some e.2)) S).facts:=hJ (g:=fun S (e:Nat × Int)=>StI.tellIs L S x e.1 "every" [(at':Int)] (some e.2)) (fun S e f h=>(bM L S x e.1 "every" _ _).1 f h) _ h;unfold StI.fromKind;dsimp only
 split
 · exact(bM L _ x _ "second" _ _).1 f ((bM L _ x _ "first" _ _).1 f h1)
 · exact jd L _ x _ _ "some" _ _ h1
 · exact h1
noncomputable def NR(M:Nat):L2.St->Nat
 | _::some (.int i)::_=>M - i.toNat
 | _=>0
inductive xn(L:LoI)(S0:StI):Nat->StI->Prop where
 | zero:xn L S0 0 S0
 | step {i:Nat} {S:StI} {f:Fi}:xn L S0 i S->S.facts[i]? =some f->xn L S0 (i+1) (StI.turn L S i f)
inductive xX(C D:Addr)(vs:List V)(H:Hp)(Q:VK):Prop
 | mk:∀b l B A N T L ts S,(vs=[.ref b])->(Ew C D B A b l N T H L ts S)->(∀H' T' S' i,Fr fb T T' H H'->Ew C D B A b l N T' H' L ts S'->xn L S i S'->S'.facts.length<=i->Q .non H')->xX C D vs H Q
def D3(C D:Addr):Sp:=fun vs H Q _=>xX C D vs H Q
section
def scGO:bj ["self","at","x","kind","tie","y"] nE (aJ zV):=gy
def Ht(F:Fun K "go_on" "Still.go_on" zV f fd)(sc:vn K D)(ml:mg "len"=none)(Gfk:Ml P w K mg base D 7 "from_kind" pN (rL C D))(Gfp:Ml P w K mg base D 3 "from_pairs" pN (pH C D))(Gfe:Ml P w K mg base D 3 "from_end" BI (uH C D))(Gft:Ml P w K mg base D 7 "from_tie" pM (uG C D))(Gfc:Ml P w K mg base D 7 "from_chains" pM (ny C D)):bW P w K mg base eW 8 f fd nE (D3 C D):=by
 refine F.o scGO fun cdv A0 outer s0 H vs Q E hr h=> ?_;obtain⟨b,l,B,A,N,T,L,ts,S,rfl,ew,q⟩:=h;have hu:=fh hr;refine⟨_,aZ (fz 1 scGO.nd av)
  (aV (yt F8 (eI kM bf (tW ml (dv aA))) (aZ (bA (eI bN (tW ml (j7 cm (dv aA) bf)) av) (aZ (jo (j7 cm (dv aA) bf) (eJ rfl (bw (e_ 2 scGO.nd) (bw (e_ 3 scGO.nd) dA)))) (aZ (be (ij aA sc.c Gfk hr (gc bf bH bU))) (aZ (be (ij aA sc.c Gfp hr (gc bf bH bU))) (aV (be (ij aA sc.c Gfe hr (gc bf bH bU))))))) (aZ (jo (j7 cm (dv aA) bf) (eJ rfl (bw (e_ 2 scGO.nd) (bw (e_ 4 scGO.nd) (bw (e_ 5 scGO.nd) dA))))) (aZ (be (ij aA sc.c Gft hr (iU bf bH bX dH))) (aV (be (ij aA sc.c Gfc hr (iU bf bH bX dH))))))) (aV (Em (i:=1) scGO.nd rfl (Or.inl rfl) av Kz))))),?_⟩
 refine gn ?_;show vE _ _ {nx:=_,rt:=_,bk:=_,ct:=_} _ _;refine xF (fun σ H'=>∃(i:Nat) (o2 o3 o4 o5:Option V) (T':Tg) (S':StI),σ=[some (.ref b),some (.int (i:Int)),o2,o3,o4,o5]/\Fr fb T T' H H'/\Ew C D B A b l N T' H' L ts S'/\xn L S i S') (fun σ _=>NR (gL L.parts.length ts) σ) ⟨0,none,none,none,none,T,S,rfl,Fr.refl,ew,.zero⟩ ?_ (fun σ H Q Q' hm h=>by obtain⟨x,e,h1⟩:=onV.ex h;obtain⟨y,e',h2⟩:=onV.ex h1;obtain⟨a,rfl,C',dx,fs,v,h3,h4,h5,h6,p,ys,h7,h8,h9⟩:=onR.ex h2;obtain⟨i,rfl,h10⟩:=onI.ex h9;exact onV.of e (onV.of e' ⟨C',dx,fs,v,h3,h4,h5,h6,p,ys,h7,h8,hm _ _ h10⟩));rintro σ H1 ⟨i,o2,o3,o4,o5,T1,S1,rfl,f1,ew1,r1⟩;obtain⟨_,vs,e1,rv⟩:=id ew1.ev.sa.s1;have lv:vs.length=S1.facts.length:=aX rv;refine⟨D,_,_,_,ew1.ev.sa.ob,sc.c,sc.m2,La B l,B.q1,vs,rfl,.inl (SqL.of e1),?_⟩;by_cases hi:i<S1.facts.length
 · obtain⟨fa,hfa⟩:∃fa,S1.facts[i]? =some fa:=⟨_,aN hi⟩;have hin:=ak hfa;have rg:=ew1.wf.rg _ hin;obtain⟨v,hv,iv⟩:=qa rv hfa;have mu:∀o2 o3 o4 o5:Option V,NR (gL L.parts.length ts) [some (.ref b),some (.int ((i:Int)+1)),o2,o3,o4,o5]<NR (gL L.parts.length ts) [some (.ref b),some (.int (i:Int)),o2,o3,o4,o5]:=fun _ _ _ _=>by
    show gL L.parts.length ts - ((i:Int)+1).toNat<gL L.parts.length ts - (i:Int).toNat;have:=ew1.wf.cnt;unfold StI.cnt at this
    lia
   refine oI (aG (show(i:Int)<((vs.length:Nat):Int) by lia)) ⟨D,_,_,_,ew1.ev.sa.ob,sc.c,sc.m2,La B l,vs,v,SqL.of e1,aU hv,?_⟩;cases fa with
   | is x k=>
     obtain⟨pp,rfl,hpp⟩:=iv;refine⟨pp,_,rfl,.inr (SqT.of hpp),?_⟩;refine⟨D,_,_,_,ew1.ev.sa.ob,sc.c,sc.m2,La B l,vs,_,SqL.of e1,aU hv,_,SqT.of hpp,rfl,?_⟩;refine⟨_,_,ew1.ev.sa.ob,vL B l,?_⟩;refine⟨b,l,B,A,N,T1,L,ts,S1,i,x,k,rfl,ew1,rg.1,rg.2,fun H2 T2 f2 ew2=> ?_⟩;refine⟨_,_,ew2.ev.sa.ob,tU B l,?_⟩;refine⟨b,l,B,A,N,T2,L,ts,_,i,x,k,rfl,ew2,rg.1,fun H3 T3 f3 ew3=> ?_⟩;refine⟨_,_,ew3.ev.sa.ob,yb B l,?_⟩;refine⟨b,l,B,A,N,T3,L,ts,_,i,x,k,rfl,ew3,tZ L _ i x k (w_ L S1 i x k hin),fun H4 T4 f4 ew4=> ?_⟩;exact⟨_,rfl,_,_,rfl,rfl,⟨i+1,_,_,_,_,T4,_,rfl,((f1.trans f2).trans f3).trans f4,ew4,.step r1 hfa⟩,mu _ _ _ _⟩
   | has x t y=>
     obtain⟨pp,rfl,hpp⟩:=iv;refine⟨pp,_,rfl,.inr (SqT.of hpp),?_⟩;refine⟨D,_,_,_,ew1.ev.sa.ob,sc.c,sc.m2,La B l,vs,_,SqL.of e1,aU hv,_,SqT.of hpp,rfl,?_⟩;refine⟨_,_,ew1.ev.sa.ob,ya B l,?_⟩;refine⟨b,l,B,A,N,T1,L,ts,S1,i,x,t,y,rfl,ew1,hin,fun H2 T2 f2 ew2=> ?_⟩;refine⟨_,_,ew2.ev.sa.ob,rO B l,?_⟩;refine⟨b,l,B,A,N,T2,L,ts,_,i,x,t,y,rfl,ew2,rg.1,rg.2.2,fun H4 T4 f4 ew4=> ?_⟩;exact⟨_,rfl,_,_,rfl,rfl,⟨i+1,_,_,_,_,T4,_,rfl,(f1.trans f2).trans f4,ew4,.step r1 hfa⟩,mu _ _ _ _⟩
 · exact oI (aq (show ¬ (i:Int)<((vs.length:Nat):Int) by lia)) (q H1 T1 S1 i f1 ew1 r1 (by lia))
end
theorem LoI.num_shapes:∀k L,∃l,(LoI.num k L).shapes=L.shapes++l/\∀r j,Sh.some r j∈l->r∈Kd.tieL k
 | .nm x,L=>by
   rw[LoI.num]
   split
   · exact⟨[],by simp,fun _ _ h=>(ai h).elim⟩
   · exact⟨[.no],rfl,fun r j h=>by cases ag.mp h⟩
 | .two a b,L=>by
   rw[LoI.num];obtain⟨la,ea,ha⟩:=LoI.num_shapes a L;obtain⟨lb,eb,hb⟩:=LoI.num_shapes b (LoI.num a L)
   split
   · exact⟨[],by simp,fun _ _ h=>(ai h).elim⟩
   · refine⟨la++(lb++[.both ((LoI.num a L).ix a) ((LoI.num b (LoI.num a L)).ix b)]),by show(LoI.num b (LoI.num a L)).shapes++_=_;rw[eb,ea];simp,fun r j h=> ?_⟩;show r∈Kd.tieL a++Kd.tieL b;rcases aw.mp h with h | h
     · exact aM _ (ha r j h)
     · rcases aw.mp h with h | h
       · exact aL _ (hb r j h)
       · cases ag.mp h
 | .som t c,L=>by
   rw[LoI.num];obtain⟨lc,ec,hc⟩:=LoI.num_shapes c L
   split
   · exact⟨[],by simp,fun _ _ h=>(ai h).elim⟩
   · refine⟨lc++[.some t ((LoI.num c L).ix c)],by show(LoI.num c L).shapes++_=_;rw[ec];simp,fun r j h=> ?_⟩;show r∈t::Kd.tieL c;rcases aw.mp h with h | h
     · exact aK _ (hc r j h)
     · cases ag.mp h;exact aY
theorem LoI.num_len:∀k L,(LoI.num k L).parts.length<=L.parts.length+k.sz
 | .nm x,L=>by
   rw[LoI.num]
   split
   · lia
   · show(L.parts++[_]).length<=_;rw[ah];simp[Kd.sz]
 | .two a b,L=>by
   have h1:=LoI.num_len a L;have h2:=LoI.num_len b (LoI.num a L);rw[LoI.num]
   split
   · lia
   · show((LoI.num b (LoI.num a L)).parts++[_]).length<=_;rw[ah];simp only[Kd.sz,aR,cJ];lia
 | .som r c,L=>by
   have h1:=LoI.num_len c L;rw[LoI.num]
   split
   · lia
   · show((LoI.num c L).parts++[_]).length<=_;rw[ah];simp only[Kd.sz,aR,cJ];lia
def LoI.num_le(k:Kd)(L:LoI):L.parts.length<=(LoI.num k L).parts.length:=by
 obtain⟨l,e⟩:=LoI.num_sub k L;rw[e,ah];lia
def Dp(h:∀x k,Fi.is x k∈F->k<sh.length)(x:Nat)(r:Str):fj (sh++l) F x r=fj sh F x r:=by
 unfold fj
 induction F with
 | nil=>rfl
 | cons f F ih=>
   rw[hU,hU,ih fun x k hk=>h x k (aK _ hk)];cases f with
   | is a k=>dsimp only;rw[b_ (h a k aY)]
   | has a t y=>rfl
def Wf.mono(w:Wf n ts S)(h:n<=n'):Wf n' ts S:=by
 refine⟨w.nd,fun f hf=> ?_,w.sd,fun i hi=>ax (w.sr i hi) h,w.st0,w.hs⟩;have:=w.rg f hf;cases f with
 | is x k=>exact⟨ax this.1 h,ax this.2 h⟩
 | has x t y=>exact⟨ax this.1 h,this.2.1,ax this.2.2 h⟩
def LoI.Wd.num{L:LoI}{ts:List Str}(w:L.Wd ts){k:Kd}(ht:∀r∈Kd.tieL k,r∈ts):(LoI.num k L).Wd ts:=by
 obtain⟨_,e1,e2,e3,e4,e5,e6,e7,e8,e9⟩:=LoI.num_rest k L;have le:=LoI.num_le k L;refine⟨fun i e h=> ?_,fun i e h=> ?_,fun i e h=> ?_,fun i e h=> ?_,fun i e h=> ?_,fun i e h=> ?_,fun i e h=> ?_,fun r m i h1 h2=> ?_,fun i r j h=> ?_⟩
 · rw[e1] at h;exact ax (w.ev i e h) le
 · rw[e2] at h;exact ax (w.no i e h) le
 · rw[e3] at h;exact w.wi i e h
 · rw[e4] at h;exact w.m1 i e h
 · rw[e5] at h;exact w.m2 i e h
 · rw[e6] at h;exact⟨ax (w.bo i e h).1 le,ax (w.bo i e h).2 le⟩
 · rw[e7] at h;exact ax (w.so i e h) le
 · rw[e8] at h1;obtain⟨q,h3,h4,h5⟩:=w.fi r m i h1 h2;exact⟨q,by rw[e9];exact h3,ax h4 le,ax h5 le⟩
 · obtain⟨l,e,hl⟩:=LoI.num_shapes k L;rw[e] at h;rcases eV i L.shapes.length with c | c
   · rw[b_ c] at h;exact w.sh i r j h
   · rw[cT c] at h;exact ht r (hl r j (ak h))
def tL(h:n<=n'):gL n ts<=gL n' ts:=by
 have h2:n * n<=n' * n':=Nat.mul_le_mul h h;have h3:=Oz ts.length h2;unfold gL
 lia
def Ew.num(h:Ew C D B A b l N T H L ts S)(f:Fr [0,1,2] T T' H H')(la:LoreAt C A l (N+k.sz) T' H' (LoI.num k L))(ht:∀r∈Kd.tieL k,r∈ts)(hN:N+k.sz<=50000)(hM:(LoI.num k L).parts.length<=M)(bd:gL M ts<=9800000):Ew C D B A b l (N+k.sz) T' H' (LoI.num k L) ts S:=by
 obtain⟨sl,e,_⟩:=LoI.num_shapes k L;have le:=LoI.num_le k L;have sa:=StG.fr h.ev.sa f (by decide) la.tg;have eg:S.gd L.shapes=S.gd (LoI.num k L).shapes:=by
  unfold StI.gd;rw[e]
  congr 1
  exact iW fun x r=>(Dp (fun a c hc=>by rw[h.ev.ok.sl];exact(h.wf.rg _ hc).2) x r).symm
 refine⟨⟨?_,la,LoI.num_ok k h.ev.ok,h.ev.ex,hN,h.ev.sl,au h.ev.p2 le⟩,h.wf.mono le,h.wd.num ht,au (tL hM) bd⟩;show StG D B b l S.cnt T' H' (S.gd (LoI.num k L).shapes);rw[<-eg];exact sa
noncomputable abbrev SB:List Nat:=[0,1,2,13,14,15,16,17,18,19,20,21,22]
def OV(f:Fr [0,1,2] T T' H H'):Fr SB T T' H H':=f.mono (by decide)
def Jz(f:Fr fb T T' H H'):Fr SB T T' H H':=f.mono (by decide)
abbrev LS:=LoI × StI
noncomputable def kZ(p:LS)(k:Kd):LS:=(LoI.num k p.1,StI.letStand (LoI.num k p.1) p.2 ((LoI.num k p.1).ix k))
noncomputable def mR(p:LS)(q:Int × Sy):LS:=match q.2 with
 | .thing x c=>(LoI.num c (LoI.num (.nm x) p.1),StI.tellIs (LoI.num c (LoI.num (.nm x) p.1)) p.2 ((LoI.num (.nm x) p.1).ix (.nm x)) ((LoI.num c (LoI.num (.nm x) p.1)).ix c) "thing" [] (some q.1))
 | .tied x t y=>(LoI.num (.nm y) (LoI.num (.nm x) p.1),StI.tellHas (LoI.num (.nm y) (LoI.num (.nm x) p.1)) p.2 ((LoI.num (.nm x) p.1).ix (.nm x)) t ((LoI.num (.nm y) (LoI.num (.nm x) p.1)).ix (.nm y)) "tied" [] (some q.1))
 | _=>p
noncomputable def d5(ks:List Kd)(A:List Str)(ps:List (Int × Sy))(p:LS):LS:=ps.foldl mR ((ks++A.map Kd.nm).foldl kZ p)
noncomputable def gH(ks:List Kd):Nat:=(ks.map Kd.sz).sum
noncomputable def jt(ps:List (Int × Sy)):Nat:=(ps.map fun q=>q.2.szs).sum
def Sy.tsOk(ts:List Str)(s:Sy):Prop:=(∀c∈s.parts,∀r∈Kd.tieL c,r∈ts)/\∀x t y,s= .tied x t y->t∈ts
theorem sJ(H:Hp):∀(A:List Str),KL H (A.map V.str) (A.map Kd.nm)
 | []=> .nil
 | _::A=> .cons rfl (sJ H A)
theorem xI:∀(A:List Str),gH (A.map Kd.nm)=A.length
 | []=>rfl
 | _::A=>by
   have:=xI A;unfold gH at this⊢;rw[bQ,bQ,oh,this,aR];simp[Kd.sz];lia
def pA{s:Sy}(h:x∈s.things):Kd.nm x∈s.parts:=by
 cases s with
 | thing a c=>rw[show x=a by simpa[Sy.things] using h];simp[Sy.parts]
 | tied a t b=>rcases(show x=a\/x=b by simpa[Sy.things] using h) with e | e<;>(rw[e];simp[Sy.parts])
 | every a b=>simp[Sy.things] at h
 | no a b=>simp[Sy.things] at h
 | within a b=>simp[Sy.things] at h
 | makes a b c=>simp[Sy.things] at h
def oU(h:x∈dM ps):∃q∈ps,x∈q.2.things:=by
 unfold dM at h;obtain⟨l,hl,hx⟩:=List.mem_flatten.mp h;obtain⟨q,hq,rfl⟩:=bO.mp hl;exact⟨q,hq,hx⟩
def Ew.mono(h:Ew C D B A b l N T H L ts S)(hn:N<=N')(hN:N'<=50000):Ew C D B A b l N' T H L ts S:=⟨⟨h.ev.sa,h.ev.la.mono hn,h.ev.ok,h.ev.ex,hN,h.ev.sl,h.ev.p2⟩,h.wf,h.wd,h.bd⟩
def sE(ew:Ew C D B A b l N T H L ts S)(ik:IsK H k v)(gk:wI d k)(ht:∀r∈Kd.tieL k,r∈ts)(hN:N+k.sz<=50000)(hM:L.parts.length+k.sz<=M)(bd:gL M ts<=9800000)(q:∀H' T',Fr SB T T' H H'->Ew C D B A b l (N+k.sz) T' H' (LoI.num k L) ts S->Q (.int ((LoI.num k L).ix k:Nat)) H'):vK C d [.ref l,v] H Q:=⟨l,A,N,T,L,v,k,rfl,ew.ev.la,ik,gk.1,gk.2.1,gk.2.2,au hN (by decide),fun H' T' f la=>q H' T' (OV f) (ew.num f la ht hN (au (LoI.num_len k L) hM) bd)⟩
def Ki(ew:Ew C D B A b l N T H L ts S)(hx:x<L.parts.length)(q:∀H' T',Fr SB T T' H H'->Ew C D B A b l N T' H' L ts (StI.letStand L S x)->Q .non H'):jN C D [.ref b,.int (x:Int)] H Q:=⟨b,l,B,A,N,T,L,S,x,rfl,ew.ev,hx,au ew.cnt (by decide),fun H' T' f ev=>q H' T' (Jz f) (ew.tell ev (ew.wf.letStand hx))⟩
inductive uM(C D:Addr)(d:Nat)(vs:List V)(H:Hp)(Q:VK):Prop
 | mk:∀b l B A N M T L ts S lp ls ys zs ps ks,(vs=[.ref b,.ref lp,.ref ls])->(Ew C D B A b l N T H L ts S)->(H lp=some (.lst ys))->(T lp=none)->(PrL H ys ps)->(H ls=some (.lst zs))->(KL H zs ks)->((∀q∈ps,q.2.okS/\q.2.gd d/\q.2.tsOk ts))->((∀k∈ks,wI d k/\∀r∈Kd.tieL k,r∈ts))->(ps.length<=100)->(N+gH ks+3 * ps.length+jt ps<=50000)->(L.parts.length+gH ks+3 * ps.length+jt ps<=M)->(gL M ts<=9800000)->(∀H' T' Tn N',Fr SB T T' H H'->(Tn=Ls ps/\∀x,x∈Tn↔x∈dM ps)->Ew C D B A b l N' T' H' (d5 ks Tn ps (L,S)).1 ts (d5 ks Tn ps (L,S)).2->Q .non H')->uM C D d vs H Q
def Bu(C D:Addr)(d:Nat):Sp:=fun vs H Q _=>uM C D d vs H Q
section
def scBeg:bj ["self","pairs","starts","lore","x","number","saying"] BG (aJ vV):=gy
def ET(hd:d<=31)(F:Fun K "begin" "Still.begin" vV f fd)(lc:xu K C)(sc:vn K D)(mls:mg "list"=none)(Gti:Ml P w K mg base D 2 "tell_is" nF (gZ C D))(Gth:Ml P w K mg base D 6 "tell_has" si (jB C D))(Gno:Ml P w K mg base C (2 * d) "number_of" fJ (nu C d))(Gls:Ml P w K mg base D 5 "let_stand" fJ (my C D))(Gtn:Cl P w K mg base 63 "things_named" ["pairs"] ur):bW P w K mg base eW 64 f fd BG (Bu C D d):=by
 refine F.o scBeg fun cdv A0 outer s0 H vs Q E hr h=> ?_;obtain⟨b,l,B,A,N,M,T,L,ts,S,lp,ls,ys,zs,ps,ks,rfl,ew,elp,tlp,hps,els,hks,gp,gk,l100,hN,hM,bd,q⟩:=h;have hu:=fh hr;refine⟨_,aZ (fz 3 scBeg.nd (dv aA))
  (aZ (jR (bS (bh wD (ei eR rfl mls bF (eP bH)) (ei (fM rfl) rfl mls bF (eP (dF Gtn hr (eP bf)))))) (e_ 4 scBeg.nd) (aV (be (ij aA sc.c Gls hr (eP (ij bU lc.c Gno hr (eP bX)))))))
  (aV (jR (bS bf) (eJ rfl (bw (e_ 5 scBeg.nd) (bw (e_ 6 scBeg.nd) dA))) (aV (bA (eI bN (dj dN) aS) (aV (be (ij aA sc.c Gti hr (bY (ij bU lc.c Gno hr (eP (dj dN))) (iU (ij bU lc.c Gno hr (eP (dj dN))) aS (bV cz) dH))))) (aV (bA (eI bN (dj dN) aS) (aV (be (ij aA sc.c Gth hr (bY (ij bU lc.c Gno hr (eP (dj dN))) (bY (dj dN) (iU (ij bU lc.c Gno hr (eP (dj dN))) aS (bV cz) dH)))))) aQ))))))),?_⟩
 refine⟨D,_,_,_,ew.ev.sa.ob,sc.c,sc.m0,qz B l,?_⟩;refine gn ?_;refine⟨ls,zs,rfl,.inl (SqL.of els),fun p1 hp1=> ?_⟩;have y1:=aj hp1 (.lst zs);refine⟨lp,ys,ps,rfl,y1 _ _ elp,PrL.mono y1.tups hps,fun q' hq=>(gp q' hq).1,l100,fun dd Tn H2 s2 ed hTn lTn=> ?_⟩;refine⟨dd,_,Tn,rfl,ed,oj _,fun p3 hp3=> ?_⟩;have y3:=aj hp3 (.lst (Tn.map V.str));have lzs:zs.length=ks.length:=KL.len hks;have lks:ks.length<=gH ks:=by
  unfold gH;clear hks lzs gk hN hM q
  induction ks with
  | nil=>exact ay _
  | cons k ks ih=>
    rw[bQ,oh,aR];have:1<=k.sz:=by cases k<;>(simp only[Kd.sz];lia)
    lia
 refine⟨p1,p3,zs,Tn.map V.str,rfl,rfl,y3 _ _ (s2 _ _ aa),aa,by rw[ao];exact au (show zs.length+Tn.length<=50000 by lia) (by decide),fun p4 hp4=> ?_⟩;have y4:=aj hp4 (.lst (zs++Tn.map V.str));have sm:Same H (upd (upd H2 p3 (.lst (Tn.map V.str))) p4 (.lst (zs++Tn.map V.str))):=fun x o h=>y4 x o (y3 x o (s2 x o (y1 x o h)));have e4:upd (upd H2 p3 (.lst (Tn.map V.str))) p4 (.lst (zs++Tn.map V.str)) p4=some (.lst (zs++Tn.map V.str)):=aa;have t4:T p4=none:=(((ew.ev.sa.tg.same y1).same s2).same y3).free hp4;generalize upd (upd H2 p3 (.lst (Tn.map V.str))) p4 (.lst (zs++Tn.map V.str))=H4 at sm e4⊢;have ew4:=ew.same sm;have kx:KL H4 (zs++Tn.map V.str) (ks++Tn.map Kd.nm):=qb (KL.mono sm.tups hks) (sJ H4 Tn);have cx:gH (ks++Tn.map Kd.nm)=gH ks+Tn.length:=by
  have:=xI Tn;unfold gH at this⊢;rw[bx,gh,this]
 have gx:∀k∈ks++Tn.map Kd.nm,wI d k/\∀r∈Kd.tieL k,r∈ts:=fun k hk=>by
  rcases aw.mp hk with hk | hk
  · exact gk k hk
  · obtain⟨x,hx,rfl⟩:=bO.mp hk;obtain⟨q',hq,hxq⟩:=oU ((hTn.2 x).mp hx);obtain⟨g1,g2,g3,_⟩:=(gp q' hq).2.1 _ (pA hxq);exact⟨⟨g1,g2,g3⟩,fun r hr=>(ai hr).elim⟩
 replace q:=fun H' T' N' f e=>q H' T' Tn N' f hTn e;unfold d5 at q;generalize ks++Tn.map Kd.nm=xs at kx cx gx q;have lx:(zs++Tn.map V.str).length=xs.length:=KL.len kx;refine⟨⟨_,SqL.of e4⟩,bR (xs:=zs++Tn.map V.str) (fun i σ H5=>∃(o4:Option V) (T5:Tg),σ=[some (.ref b),some (.ref lp),some (.ref ls),some (.ref l),o4,none,none]/\Fr SB T T5 H4 H5/\Ew C D B A b l (N+gH (xs.take i)) T5 H5 ((xs.take i).foldl kZ (L,S)).1 ts ((xs.take i).foldl kZ (L,S)).2/\((xs.take i).foldl kZ (L,S)).1.parts.length<=L.parts.length+gH (xs.take i)) ⟨none,T,rfl,Fr.refl,ew4,ar _⟩ ?_ ?_ ?_⟩
 · rintro i σ H5 _ ⟨o4,T5,rfl,f5,_⟩;exact SqL.of (Fr.free f5 e4 t4).2
 · rintro i v σ H5 hv ⟨o4,T5,rfl,f5,ew5,le5⟩;obtain⟨k,hk,ik⟩:=KL.get kx hv;obtain⟨gk1,gk2⟩:=gx k (ak hk);have c3:gH (xs.take (i+1))=gH (xs.take i)+k.sz:=iO Kd.sz hk;have c4:gH (xs.take (i+1))<=gH xs:=iN Kd.sz xs (i+1);rw[lJ kZ _ hk,c3];generalize (xs.take i).foldl kZ (L,S)=pp at ew5 le5⊢;refine⟨_,_,ew5.ev.sa.ob,nC B l,_,_,ew5.ev.la.ob,ew5.ev.la.lkNo,?_⟩;refine sE (M:=M) ew5 (IsK.mono f5.tups ik) gk1 gk2 (by lia) (by lia) bd fun H6 T6 f6 ew6=> ?_;refine Ki ew6 (LoI.ix_lt (LoI.num_has k pp.1)) fun H7 T7 f7 ew7=> ?_;refine⟨_,T7,rfl,(f5.trans f6).trans f7,by rw[<-xA];exact ew7,?_⟩;show(LoI.num k pp.1).parts.length<=_;have:=LoI.num_len k pp.1
   lia
 rintro σ H5 ⟨o4,T5,rfl,f5,ew5,le5⟩;rw[lx,bp] at ew5 le5;generalize xs.foldl kZ (L,S)=pp at ew5 le5 q;have f0:Fr SB T T5 H H5:=(Fr.of sm).trans f5;obtain⟨tlp5,elp5⟩:=Fr.free f0 elp tlp;have hps5:=PrL.mono f0.tups hps;have lps:ys.length=ps.length:=aX hps;refine⟨⟨_,SqL.of elp5⟩,bR (xs:=ys) (fun i σ H6=>∃(o4 o5 o6:Option V) (T6:Tg),σ=[some (.ref b),some (.ref lp),some (.ref ls),some (.ref l),o4,o5,o6]/\Fr SB T5 T6 H5 H6/\Ew C D B A b l (N+gH xs+jt (ps.take i)) T6 H6 ((ps.take i).foldl mR pp).1 ts ((ps.take i).foldl mR pp).2/\((ps.take i).foldl mR pp).1.parts.length<=L.parts.length+gH xs+jt (ps.take i)) ⟨o4,none,none,T5,rfl,Fr.refl,ew5,le5⟩ ?_ ?_ ?_⟩
 · rintro i σ H6 _ ⟨o4,o5,o6,T6,rfl,f6,_⟩;exact SqL.of (Fr.free f6 elp5 tlp5).2
 · rintro i v σ H6 hv ⟨o4,o5,o6,T6,rfl,f6,ew6,le6⟩;obtain⟨pq,hpq,t,vy,rfl,ht,hsy⟩:=bT hps5 hv;obtain⟨gq1,gq2,gq3⟩:=gp pq (ak hpq);have c3:jt (ps.take (i+1))=jt (ps.take i)+pq.2.szs:=iO (fun q:Int × Sy=>q.2.szs) hpq;have c4:jt (ps.take (i+1))<=jt ps:=iN (fun q:Int × Sy=>q.2.szs) ps (i+1);rw[lJ mR _ hpq,c3];generalize (ps.take i).foldl mR pp=rr at ew6 le6⊢;obtain⟨n,s⟩:=pq;replace c3:jt (ps.take (i+1))=jt (ps.take i)+s.szs:=c3;obtain⟨pv,vs,rfl,hpv,hL⟩:=IsSy.mono f6.tups hsy;have bd':=bd;refine⟨_,SqT.of (f6.tups _ _ ht),rfl,?_⟩;cases s with
   | thing x c=>
     obtain⟨vx,vc,rfl,kx',kc⟩:=qd hL;obtain⟨x1,x2,x3,_⟩:=gq2 (.nm x) (by simp[Sy.parts]);obtain⟨c1,c2,c5,_⟩:=gq2 c (by simp[Sy.parts]);have hz:(Sy.thing x c).szs=1+c.sz:=by simp[Sy.szs,Sy.parts,Kd.sz]
     have z1:(Kd.nm x).sz=1:=rfl;refine(cQ hpv rfl (⟨_,_,ew6.ev.sa.ob,dE B l,_,_,ew6.ev.la.ob,ew6.ev.la.lkNo,cQ hpv rfl ?_⟩));refine sE (M:=M) (k:= .nm x) ew6 kx' ⟨x1,x2,x3⟩ (fun r hr=>(ai hr).elim) (by lia) (by lia) bd fun H7 T7 f7 ew7=> ?_;have l7:=LoI.num_len (.nm x) rr.1;refine⟨_,_,ew7.ev.la.ob,ew7.ev.la.lkNo,cQ (f7.tups _ _ hpv) rfl ?_⟩;refine sE (M:=M) (k:=c) ew7 (IsK.mono f7.tups kc) ⟨c1,c2,c5⟩ (gq3.1 c (by simp[Sy.parts])) (by lia) (by lia) bd fun H8 T8 f8 ew8=> ?_;have l8:=LoI.num_len c (LoI.num (.nm x) rr.1);have hx8:(LoI.num (.nm x) rr.1).ix (.nm x)<(LoI.num c (LoI.num (.nm x) rr.1)).parts.length:=ax (LoI.ix_lt (LoI.num_has _ _)) (LoI.num_le _ _);refine⟨ay _,fun pf hpf=> ?_⟩;have z9:=aj hpf (.lst []);refine gS (nn:=some n) (fr:=[]) (ew8.same z9) hx8 (LoI.ix_lt (LoI.num_has _ _)) aa (ew8.ev.sa.tg.free hpf) fun H9 T9 f9 ew9=>⟨_,_,_,T9,rfl,(((f6.trans f7).trans f8).trans (Fr.of z9)).trans (Jz f9),?_,?_⟩
     · rw[hz,show N+gH xs+(jt (ps.take i)+(1+c.sz))=N+gH xs+jt (ps.take i)+(Kd.nm x).sz+c.sz by lia];exact ew9
     · show(LoI.num c (LoI.num (.nm x) rr.1)).parts.length<=_;rw[hz];lia
   | tied x t' y=>
     obtain⟨vx,vt,vc,rfl,kx',kt,kc⟩:=HL hL;obtain rfl:vt= .str t':=kt;obtain⟨x1,x2,x3,_⟩:=gq2 (.nm x) (by simp[Sy.parts]);obtain⟨c1,c2,c5,_⟩:=gq2 (.nm y) (by simp[Sy.parts]);have hz:(Sy.tied x t' y).szs=3:=by simp[Sy.szs,Sy.parts,Kd.sz]
     have z1:(Kd.nm x).sz=1:=rfl;have z2:(Kd.nm y).sz=1:=rfl;refine(cQ hpv rfl ((cQ hpv rfl (⟨_,_,ew6.ev.sa.ob,g_ B l,_,_,ew6.ev.la.ob,ew6.ev.la.lkNo,cQ hpv rfl ?_⟩))));refine sE (M:=M) (k:= .nm x) ew6 kx' ⟨x1,x2,x3⟩ (fun r hr=>(ai hr).elim) (by lia) (by lia) bd fun H7 T7 f7 ew7=> ?_;have l7:=LoI.num_len (.nm x) rr.1;refine(cQ (f7.tups _ _ hpv) rfl ⟨_,_,ew7.ev.la.ob,ew7.ev.la.lkNo,cQ (f7.tups _ _ hpv) rfl ?_⟩);refine sE (M:=M) (k:= .nm y) ew7 (IsK.mono f7.tups kc) ⟨c1,c2,c5⟩ (fun r hr=>(ai hr).elim) (by lia) (by lia) bd fun H8 T8 f8 ew8=> ?_;have l8:=LoI.num_len (.nm y) (LoI.num (.nm x) rr.1);have hx8:(LoI.num (.nm x) rr.1).ix (.nm x)<(LoI.num (.nm y) (LoI.num (.nm x) rr.1)).parts.length:=ax (LoI.ix_lt (LoI.num_has _ _)) (LoI.num_le _ _);refine⟨ay _,fun pf hpf=> ?_⟩;have z9:=aj hpf (.lst []);refine kr (nn:=some n) (fr:=[]) (ew8.same z9) hx8 (gq3.2 x t' y rfl) (LoI.ix_lt (LoI.num_has _ _)) aa (ew8.ev.sa.tg.free hpf) fun H9 T9 f9 ew9=>⟨_,_,_,T9,rfl,(((f6.trans f7).trans f8).trans (Fr.of z9)).trans (Jz f9),?_,?_⟩
     · exact ew9.mono (by dsimp only;lia) (by dsimp only;lia)
     · show(LoI.num (.nm y) (LoI.num (.nm x) rr.1)).parts.length<=_;rw[hz];lia
   | every x y=>
     iterate 2 refine cQ hpv (aU (j:=0) rfl) ?_
     exact⟨_,_,_,T6,rfl,f6,ew6.mono (by lia) (by show N+gH xs+(jt (ps.take i)+(Sy.every x y).szs)<=50000;lia),by show rr.1.parts.length<=_;lia⟩
   | no x y=>
     iterate 2 refine cQ hpv (aU (j:=0) rfl) ?_
     exact⟨_,_,_,T6,rfl,f6,ew6.mono (by lia) (by show N+gH xs+(jt (ps.take i)+(Sy.no x y).szs)<=50000;lia),by show rr.1.parts.length<=_;lia⟩
   | within x y=>
     iterate 2 refine cQ hpv (aU (j:=0) rfl) ?_
     exact⟨_,_,_,T6,rfl,f6,ew6.mono (by lia) (by show N+gH xs+(jt (ps.take i)+(Sy.within x y).szs)<=50000;lia),by show rr.1.parts.length<=_;lia⟩
   | makes x y z=>
     iterate 2 refine cQ hpv (aU (j:=0) rfl) ?_
     exact⟨_,_,_,T6,rfl,f6,ew6.mono (by lia) (by show N+gH xs+(jt (ps.take i)+(Sy.makes x y z).szs)<=50000;lia),by show rr.1.parts.length<=_;lia⟩
 · rintro σ H6 ⟨o4,o5,o6,T6,rfl,f6,ew6,_⟩;rw[lps,bp] at ew6;exact q H6 T6 _ (f0.trans f6) ew6
end
def LoreAt.bt(h:LoreAt C A a N T H L)(z:Bt b H H')(t:Tups H H')(hT:T b=none)(ne:a≠b)(tg:TgOk T H'):LoreAt C A a N T H' L:=⟨tg,h.oT,z _ _ h.ob ne,h.f0.bt sO z t hT,h.f1.bt pL z t hT,h.f2.bt z hT,h.f3.bt z hT,h.f4.bt e2_mo z t hT,h.f5.bt e3_mo z t hT,h.f6.bt es2_mo z t hT,h.f7.bt es3_mo z t hT,h.f8.bt es3_mo z t hT,h.f9.bt eb_mo z t hT,h.f10.bt esm_mo z t hT,h.f11.bt z hT,h.f12.bt z hT,h.gd,h.le,h.sl,h.xo⟩
noncomputable def StI.emp:StI:=⟨[],[],[]⟩
def O2(k:Key):Au (iX []) k=none:=by
 cases k with
 | inl i=>exact aD (fun z=>z.2 rfl)
 | inr r=>rfl
def NT(k:Key):Au (iQ []) k=none:=by
 cases k with
 | inl i=>exact aD (fun z=>z.2 rfl)
 | inr r=>rfl
def NS(hg:∀i t,g i t=[])(k:List Key):Dc g k=none:=by
 match k with
 | []=>rfl
 | [.inl _]=>rfl
 | [.inr _]=>rfl
 | [.inr _,_]=>rfl
 | [.inl _,.inl _]=>rfl
 | [.inl i,.inr s]=>exact aD (fun z=>z.2 (hg _ _))
 | x::y::z::w=>cases x<;>cases y<;>rfl
def OY(k:List Key):BS [] k=none:=rfl
inductive uz(C D:Addr)(vs:List V)(H:Hp)(Q:VK):Prop
 | mk:∀b dx l A N T L,(vs=[.ref b,.ref l])->(H b=some (.ins D dx []))->(LoreAt C A l N T H L)->(T b=none)->(l≠b)->(∀H' B T',Bt b H H'->(∀c i,T' c=some i->T c=some i\/H c=none)->LoreAt C A l N T' H' L->lU D B b l T' H' L.shapes StI.emp->Q .non H')->uz C D vs H Q
def Bh(C D:Addr):Sp:=fun vs H Q _=>uz C D vs H Q
section
def GS:bj yl yl (aJ zU):=gy
def EH(F:Fun K "__init__" "Still.__init__" zU f fd)(sc:vn K D):bW P w K mg base eW 1 f fd yl (Bh C D):=by
 refine F.o GS fun cdv A0 outer s0 H vs Q E hr h=> ?_;obtain⟨b,dx,l,A,N,T,L,rfl,eb,la,tb,ne,q⟩:=h;refine⟨_,aZ (dP aA bf rfl) (aZ (dP aA (bV cz) rfl) (aZ (dP aA (bV cz) rfl) (aZ (dP aA kK rfl) (aZ (dP aA cO rfl) (aZ (dP aA cO rfl) (aZ (dP aA cO rfl) (aZ (dP aA kK rfl) (aZ (dP aA kK rfl) (aZ (dP aA kK rfl) (aV (dP aA cO rfl))))))))))),?_⟩;refine⟨b,D,dx,_,rfl,eb,sc.c,sc.m0,by show 0<1000;decide,?_⟩;have y0:jn "lore" (V.ref l) ([]:List (Str × V))=[(("lore":Str),V.ref l)]:=rfl;rw[y0];have i0:Ini H (upd H b (.ins D dx [(("lore":Str),V.ref l)])) D b dx [(("lore":Str),V.ref l)] []:=⟨aa,fun q hq=>(ai hq).elim,.nil,fun q hq=>(ai hq).elim,fun c o e n=>by rw[aB n];exact e⟩;generalize upd H b (.ins D dx [(("lore":Str),V.ref l)])=H0 at i0⊢;refine i0.lst sc.c sc.m1 rfl rfl rfl fun q0 H1 i1=> ?_;refine i1.lst sc.c sc.m2 rfl rfl rfl fun q1 H2 i2=> ?_;refine i2.dT sc.c sc.m3 rfl rfl rfl fun q2 H3 i3=> ?_;refine i3.dK sc.c sc.m4 rfl rfl rfl fun q3 H4 i4=> ?_;refine i4.dK sc.c sc.m5 rfl rfl rfl fun q4 H5 i5=> ?_;refine i5.dK sc.c sc.m6 rfl rfl rfl fun q5 H6 i6=> ?_;refine i6.dT sc.c sc.m7 rfl rfl rfl fun q6 H7 i7=> ?_;refine i7.dT sc.c sc.m8 rfl rfl rfl fun q7 H8 i8=> ?_;refine i8.dT sc.c sc.m9 rfl rfl rfl fun q8 H9 i9=> ?_;refine NB (i9.dK sc.c sc.m10 rfl rfl rfl fun q9 H10 i10=> ?_);clear i0 i1 i2 i3 i4 i5 i6 i7 i8 i9
 let qs:List Addr:=[q0,q1,q2,q3,q4,q5,q6,q7,q8,q9]
 let cs:List (Addr × HO):=[(q0,.lst []),(q1,.lst []),(q2,.dT []),(q3,.dK []),(q4,.dK []),(q5,.dK []),(q6,.dT []),(q7,.dT []),(q8,.dT []),(q9,.dK [])]
 have mp:∀c∈qs,∃o,(c,o)∈cs:=fun c hc=>by
  have:qs=cs.map (·.1):=rfl;rw[this] at hc;obtain⟨⟨c',o⟩,h,rfl⟩:=bO.mp hc;exact⟨o,h⟩
 have nw:∀c∈qs,H c=none/\c≠b/\T c=none:=fun c hc=>by
  obtain⟨o,ho⟩:=mp c hc;have:=i10.new _ ho;refine⟨this.1,this.2,?_⟩;cases z:T c with
  | none=>rfl
  | some i=>exact absurd this.1 (la.tg c i z)
 have nd:qs.Nodup:=i10.nd;have ct:∀{i:Nat} {c:Addr} {o:HO},cs[i]? =some (c,o)->H10 c=some o/\xx 13 qs c=some (13+i,none):=fun {i c o} h=>by
  refine⟨i10.at' _ (ak h),DS nd ?_⟩;have:=congrArg (Option.map (·.1)) h;rw[<-bb] at this;exact this
 let T':Tg:=fun c=>(xx 13 qs c).or (T c)
 have tq:∀{i:Nat} {c:Addr} {o:HO},cs[i]? =some (c,o)->T' c=some (13+i,none)/\H10 c=some o:=fun {i c o} h=>by
  have:=ct h;refine⟨?_,this.1⟩;show(xx 13 _ c).or (T c)=_;rw[this.2];rfl
 have tT:∀c i,T c=some i->T' c=some i:=fun c i h=>by
  show(xx 13 _ c).or (T c)=_;cases z:xx 13 qs c with
  | none=>rw[h];rfl
  | some j=>rw[(nw c (vD z)).2.2] at h;cases h
 have tN:∀c i,T' c=some i->T c=some i\/(c∈qs/\i.1∈fb):=fun c i h=>by
  have h':(xx 13 qs c).or (T c)=some i:=h;cases z:xx 13 qs c with
  | none=>rw[z] at h';exact .inl h'
  | some j=>
    rw[z] at h';obtain rfl:j=i:=by simpa using h'
    refine .inr ⟨vD z,?_⟩;unfold xx at z
    split at z
    · rename_i lt;simp only[mX] at z;rw[<-z];generalize List.idxOf c qs=m at lt;have lt':m<10:=lt;show 13+m∈fb;have:∀m:Fin 10,13+m.val∈fb:=by decide
      exact this ⟨m,lt'⟩
    · cases z
 obtain⟨Hn,hHn⟩:∃Hn,Hn=upd H b (.ins D dx [("lore",V.ref l),("steps",V.ref q0),(("facts":Str),V.ref q1),(("places":Str),V.ref q2),(("stand_ins":Str),V.ref q3),(("kinds_of":Str),V.ref q4),(("those_of":Str),V.ref q5),(("fillers_of":Str),V.ref q6),(("ends":Str),V.ref q7),(("starts":Str),V.ref q8),(("ties":Str),V.ref q9)]):=⟨_,rfl⟩;have z:Bt b H (Hn):=fun c o e n=>by rw[hHn,aB n];exact e
 have t:Tups H (Hn):=fun c xs e=>z c _ e (fun n=>by rw[n,eb] at e;cases e);have l1:=la.bt z t tb ne (fun c i h=>by
  by_cases n:c=b
  · rw[hHn,n,aa];intro z;cases z
  · rw[hHn,aB n];exact la.tg c i h)
 have keep:∀c o,Hn c=some o->H10 c=some o:=fun c o e=>by
  by_cases n:c=b
  · rw[hHn,n,aa] at e;rw[n,<-e];exact i10.ob
  · rw[hHn,aB n] at e;exact i10.old c o e n
 have there:∀c,Hn c≠none->H10 c≠none:=fun c h=>by
  cases e:Hn c with
  | none=>exact absurd e h
  | some o=>
    rw[keep c o e];intro z;cases z
 have fr:Fr fb T T' (Hn) H10:=⟨fun c o e _=>keep c o e,fun c xs e=>keep c _ e,there,tT,fun c i h=>by
  rcases tN c i h with h | ⟨h1,h2⟩
  · exact .inl h
  · exact .inr ⟨by rw[hHn,aB (nw c h1).2.1];exact(nw c h1).1,h2⟩⟩
 have tg:TgOk T' H10:=fun c i h=>by
  rcases tN c i h with h | ⟨h1,h2⟩
  · exact fr.there c (l1.tg c i h)
  · obtain⟨o,ho⟩:=mp c h1;rw[i10.at' _ ho];intro z;cases z
 refine q H10 ⟨dx,q0,q1,q2,q3,q4,q5,q6,q7,q8,q9⟩ T' (fun c o e n=>i10.old c o e n) (fun c i h=>(tN c i h).imp id fun h=>(nw c h.1).1) (l1.fr fr KB tg) ?_;refine⟨tg,?_,i10.ob,⟨(tq (i:=0) rfl).1,[],(tq (i:=0) rfl).2,.nil⟩,FLs.nil (tq (i:=1) rfl).1 (tq (i:=1) rfl).2,FT.nil OY (tq (i:=2) rfl).1 (tq (i:=2) rfl).2,FK.nil Ow (tq (i:=3) rfl).1 (tq (i:=3) rfl).2,FK.nil O2 (tq (i:=4) rfl).1 (tq (i:=4) rfl).2,FK.nil NT (tq (i:=5) rfl).1 (tq (i:=5) rfl).2,FT.nil (NS fun _ _=>rfl) (tq (i:=6) rfl).1 (tq (i:=6) rfl).2,FT.nil (NS fun _ _=>rfl) (tq (i:=7) rfl).1 (tq (i:=7) rfl).2,FT.nil (NS fun _ _=>rfl) (tq (i:=8) rfl).1 (tq (i:=8) rfl).2,(tq (i:=9) rfl).1,(tq (i:=9) rfl).2,ay _⟩;cases h:T' b with
 | none=>rfl
 | some i=>
   rcases tN b i h with h | ⟨h1,_⟩
   · rw[tb] at h;cases h
   · exact absurd rfl (nw b h1).2.1
end
def Bj:Sp:=fun _ _ _ _=>False
structure zr(ts:List Str)(ps:List (Int × Sy))(ks fs:List Kd)(Tn:List Str)(S':StI):Prop where
 tn:Tn=Ls ps/\∀x,x∈Tn↔x∈dM ps
 ok:(d5 ks Tn ps (LoI.of ps fs,StI.emp)).1.Ok
 wd:(d5 ks Tn ps (LoI.of ps fs,StI.emp)).1.Wd ts
 w0:Wf (d5 ks Tn ps (LoI.of ps fs,StI.emp)).1.parts.length ts (d5 ks Tn ps (LoI.of ps fs,StI.emp)).2
 wf:Wf (d5 ks Tn ps (LoI.of ps fs,StI.emp)).1.parts.length ts S'
 sl:S'.steps.length=S'.facts.length
 cb:gL (d5 ks Tn ps (LoI.of ps fs,StI.emp)).1.parts.length ts<=9800000
 rch:∃i,xn (d5 ks Tn ps (LoI.of ps fs,StI.emp)).1 (d5 ks Tn ps (LoI.of ps fs,StI.emp)).2 i S'/\S'.facts.length<=i
inductive uv(d:Nat)(vs:List V)(H:Hp)(Q:VK):Prop
 | mk:∀M ts lp ls lf ys zs us ps ks fs,(vs=[.ref lp,.ref ls,.ref lf,.non])->(H lp=some (.lst ys))->(PrL H ys ps)->(H ls=some (.lst zs))->(KL H zs ks)->(H lf=some (.lst us))->(KL H us fs)->((∀q∈ps,q.2.okS/\q.2.gd d/\q.2.tsOk ts))->((∀k∈ks,wI d k/\∀r∈Kd.tieL k,r∈ts))->((∀k∈fs,wI d k))->(ps.length<=100)->(2+iu ps+jk fs<=40000)->(2+iu ps+jk fs+gH ks+3 * ps.length+jt ps<=50000)->((LoI.of ps fs).parts.length+gH ks+3 * ps.length+jt ps<=M)->(gL M ts<=9800000)->((LoI.of ps fs).Wd ts)->(2<=(LoI.of ps fs).parts.length)->(∀H' q vs T Tn S',Same H H'->H q=none->H' q=some (.lst vs)->Paired (IsSt T H') vs S'.steps->(∀c j,T c=some j->H c=none)->zr ts ps ks fs Tn S'->Q (.ref q) H')->uv d vs H Q
def vI(d:Nat):Sp:=fun vs H Q _=>uv d vs H Q
section
def scStill:bj ["pairs","starts","further","steps","found"] uO (aJ vR):=gy
def yD{P:Program}{w:World}{K:Frag}{mg:Str->Option Value}{base:Heap}{f C D:Addr}{fd:FuncData}{d:Nat}(hd:d<=29){dV:Value}(F:FunD K "still" "still" vR dV f fd)(sc:vn K D)(Gsi:Il P w K mg base D 1 "Still" yl (Bh C D))(Gto:Ml P w K mg base D 1 "take_over" BF Bj)(Gbe:Ml P w K mg base D 64 "begin" BG (Bu C D d))(Ggo:Ml P w K mg base D 8 "go_on" nE (D3 C D))(Glo:Cl P w K mg base (2 * d+4) "lore_of" BJ (xU C d)):bW P w K mg base eW 65 f fd uO (vI d):=by
 refine F.ok scStill (fun vs H Q E h=>by cases h;subst_vars;rfl) fun cdv A0 outer s0 H vs Q E hr h=> ?_;obtain⟨M,ts,lp,ls,lf,ys,zs,us,ps,ks,fs,rfl,elp,hps,els,hks,elf,hfs,gp,gk,gf,l100,c1,c2,hM,bd,wd,p2,q⟩:=h;have hu:=fh hr;refine⟨_,aZ (fz 4 scStill.nd (OX Gsi hr (eP (dF Glo hr (fg aA bH)))))
  (aZ (bA (eI wC bU fL) (aV (be (ij bX sc.c Gto hr (eP bU)))) aQ)
  (aZ (be (ij bX sc.c Gbe hr (fg aA bf)))
  (aZ (be (NM bX sc.c Ggo hr))
  (aV (cI (dv bX)))))),?_⟩
 refine⟨lp,lf,ys,us,ps,fs,rfl,elp,hps,elf,hfs,fun q hq=>(gp q hq).2.1,gf,c1,fun H1 l A T1 s1 tn1 hl la ex=> ?_⟩;refine fun b dx hb hdx ne=> ?_;have y1:Same H1 (upd (upd H1 dx (.own b)) b (.ins D dx [])):=fun c o e=>by
  rw[aB (br e hb),aB (br e hdx)];exact e
 have lb:l≠b:=fun z=>by have:=la.ob;rw[z,hb] at this;cases this
 refine⟨b,dx,l,A,_,T1,_,rfl,aa,la.same y1,la.tg.free hb,lb,fun H2 B T2 bt tn2 la2 sa2=>⟨rfl,?_⟩⟩;have s2:Same H H2:=fun c o e=>bt c o (y1 c o (s1 c o e)) (br (s1 c o e) hb);have t2:∀c i,T2 c=some i->H c=none:=fun c i h=>by
  rcases tn2 c i h with h | h
  · exact tn1 c i h
  · cases e:H c with
    | none=>rfl
    | some o=>rw[y1 c o (s1 c o e)] at h;cases h
 have okL:(LoI.of ps fs).Ok:=jj (fun L q o=>LoI.kk_ok _ o) _ (jj (fun L q o=>LoI.learn_ok _ _ o) _ LoI.init_ok);have ew2:Ew C D B A b l (2+iu ps+jk fs) T2 H2 (LoI.of ps fs) ts StI.emp:=⟨⟨sa2,la2,okL,ex,by lia,rfl,p2⟩,⟨.nil,fun f h=>(ai h).elim,.nil,fun f h=>(ai h).elim,fun f h=>(ai h).elim,fun _ _ _ h=>(ai h).elim⟩,wd,au (tL (by lia)) bd⟩;have un:∀{c:Addr} {o:HO},H c=some o->T2 c=none:=fun {c o} e=>by
  cases z:T2 c with
  | none=>rfl
  | some i=>rw[t2 c i z] at e;cases e
 refine gn ?_;refine⟨rfl,?_⟩;refine⟨_,_,sa2.ob,D7 B l,?_⟩;refine⟨b,l,B,A,_,M,T2,_,ts,StI.emp,lp,ls,ys,zs,ps,ks,rfl,ew2,s2 _ _ elp,un elp,PrL.mono s2.tups hps,s2 _ _ els,KL.mono s2.tups hks,gp,gk,l100,c2,hM,bd,fun H3 T3 Tn N' f3 hTn ew3=> ?_⟩;refine⟨_,_,ew3.ev.sa.ob,D6 B l,?_⟩;refine⟨b,l,B,A,N',T3,_,ts,_,rfl,ew3,fun H4 T4 S4 i f4 ew4 rc hi=> ?_⟩;obtain⟨t0,vs,e0,rv⟩:=id ew4.ev.sa.s0;have s4:∀{c:Addr} {o:HO},H c=some o->T4 c=none/\H4 c=some o:=fun {c o} e=>by
  obtain⟨u1,u2⟩:=Fr.free f3 (s2 c o e) (un e);exact Fr.free f4 u2 u1
 have t4:∀c j,T4 c=some j->H c=none:=fun c j h=>by
  cases e:H c with
  | none=>rfl
  | some o=>rw[(s4 e).1] at h;cases h
 exact⟨D,_,_,_,ew4.ev.sa.ob,sc.c,sc.m1,LH B l,q H4 B.q0 vs T4 Tn S4 (fun c o e=>(s4 e).2) (t4 _ _ t0) e0 rv t4 ⟨hTn,ew3.ev.ok,ew3.wd,ew3.wf,ew4.wf,ew4.ev.sl,ew3.bd,i,rc,hi⟩⟩
def NC:bj ["self","steps","fact","rule","froms","number","step","x"] BF (aJ mF):=gy
def EI(F:Fun K "take_over" "Still.take_over" mF f fd):bW P w K mg base eW 1 f fd BF Bj:=F.ok NC (fun _ _ _ _ h=>h.elim) (fun _ _ _ _ _ _ _ _ _ h=>h.elim)
end
noncomputable abbrev F2:Kd:= .nm "anything"
noncomputable abbrev mh:Kd:= .nm "nothing"
noncomputable def O4:Kd->List Str->Bool
 | .nm t,A=>decide (t∈A)
 | _,_=>false
noncomputable def Gn(t:Str):Bool:=Txt.isupper (Txt.slice t none (some 1))
noncomputable def gV:Kd->Bool
 | .nm t=>Gn t
 | _=>false
noncomputable def FJ(L:LoI):Fi->Fa
 | .is x k=> .is (L.pt x) (L.pt k)
 | .has x t y=> .has (L.pt x) t (L.pt y)
section
def wY{F:List Fi}(h:f∈F):F[F.idxOf f]? =some f:=by
 have hl:=lg h;rw[aN hl,Pf hl]
def mI{L:LoI}(h:i<L.parts.length):L.pt i∈L.parts:=ak (LoI.pt_get h)
end
structure Le(S S':StI):Prop where
 fa:∀(i:Nat) (f:Fi),S.facts[i]? =some f->S'.facts[i]? =some f
 st:∀x∈S.stand,x∈S'.stand
def Le.refl(S:StI):Le S S:=⟨fun _ _ h=>h,fun _ h=>h⟩
def Le.trans(a:Le S S')(b:Le S' S''):Le S S'':=⟨fun i f h=>b.fa i f (a.fa i f h),fun x h=>b.st x (a.st x h)⟩
def Le.mem{S S':StI}(a:Le S S'){f:Fi}(h:f∈S.facts):f∈S'.facts:=ak (a.fa _ _ (wY h))
def Le.keep(S:StI)(f:Fi)(s:DB):Le S (S.keep f s):=⟨fun i g h=>by
 show(S.facts++[f])[i]? =_;rw[b_ (aO.mp h).1];exact h,fun _ h=>h⟩
def Le.tellIs(L:LoI)(S:StI)(x k:Nat)(r:Str)(fr:List Int)(nn:Option Int):Le S (StI.tellIs L S x k r fr nn):=by
 unfold StI.tellIs
 split
 · exact .refl S
 · exact .keep S _ _
def Le.letStand(L:LoI)(S:StI)(x:Nat):Le S (StI.letStand L S x):=by
 unfold StI.letStand
 split
 · exact .refl S
 · have a:Le S (S.addS x):=⟨fun _ _ h=>h,fun _ h=>aM _ h⟩;refine Le.trans ?_ (.tellIs L _ x 0 "all" [] none)
   split
   · exact a
   · exact a.trans (.tellIs L _ x x "self" [] none)
def Le.tellHas(L:LoI)(S:StI)(x:Nat)(t:Str)(y:Nat)(r:Str)(fr:List Int)(nn:Option Int):Le S (StI.tellHas L S x t y r fr nn):=by
 unfold StI.tellHas
 split
 · exact .refl S
 · exact(Le.keep S _ _).trans (.letStand L _ y)
theorem dQ{α:Type}{P:StI->Prop}{g:StI->α->StI}:∀{l:List α} {S:StI},P S->(∀S,∀e∈l,P S->P (g S e))->P (l.foldl g S)
 | [],_,h,_=>h
 | e::l,S,h,hg=>dQ (l:=l) (hg S e aY h) fun S e' he=>hg S e' (aK _ he)
def Px(L L':LoI):Prop:=∃l,L'.parts=L.parts++l
def Px.refl(L:LoI):Px L L:=⟨[],by simp⟩
def Px.trans(a:Px L L')(b:Px L' L''):Px L L'':=by
 obtain⟨l,e⟩:=a;obtain⟨l',e'⟩:=b;exact⟨l++l',by rw[e',e,cA]⟩
def Px.num(k:Kd)(L:LoI):Px L (LoI.num k L):=LoI.num_sub k L
def Px.mem{L L':LoI}(p:Px L L'){k:Kd}(h:k∈L.parts):k∈L'.parts:=by
 obtain⟨l,e⟩:=p;rw[e];exact aM _ h
def Px.ix{L L':LoI}(p:Px L L'){k:Kd}(h:k∈L.parts):L'.ix k=L.ix k:=by
 obtain⟨l,e⟩:=p;unfold LoI.ix;rw[e,jX h]
def Px.pt{L L':LoI}(p:Px L L'){i:Nat}(h:i<L.parts.length):L'.pt i=L.pt i:=by
 obtain⟨l,e⟩:=p;unfold LoI.pt;rw[e,fe,fe,b_ h]
def Px.le(p:Px L L'):L.parts.length<=L'.parts.length:=by
 obtain⟨l,e⟩:=p;rw[e,ah];lia
def nJ{L:LoI}(h:k∈L.parts):L.pt (L.ix k)=k:=by
 unfold LoI.pt LoI.ix;have hl:=lg h;rw[fe,aN hl,Pf hl]
 rfl
def ou{L L':LoI}(p:Px L L')(S:StI){x k:Nat}(hx:x<L.parts.length)(hk:k<L.parts.length)(r:Str)(fr:List Int)(nn:Option Int):StI.tellIs L S x k r fr nn=StI.tellIs L' S x k r fr nn:=by
 unfold StI.tellIs;rw[p.pt hx,p.pt hk]
def pS{L L':LoI}(p:Px L L')(S:StI){x:Nat}(hx:x<L.parts.length):StI.letStand L S x=StI.letStand L' S x:=by
 have h0:0<L.parts.length:=bz (ay _) hx;unfold StI.letStand;rw[p.pt hx,ou p (S.addS x) hx hx,ou p _ hx h0]
def zG{L L':LoI}(p:Px L L')(S:StI){x y:Nat}{t:Str}(hx:x<L.parts.length)(hy:y<L.parts.length)(r:Str)(fr:List Int)(nn:Option Int):StI.tellHas L S x t y r fr nn=StI.tellHas L' S x t y r fr nn:=by
 unfold StI.tellHas;rw[p.pt hx,p.pt hy,pS p _ hy]
def Ig(p:LS)(k:Kd):Px p.1 (kZ p k).1:=Px.num k p.1
def Ic(p:LS)(q:Int × Sy):Px p.1 (mR p q).1:=by
 obtain⟨n,s⟩:=q;cases s with
 | thing x c=>exact(Px.num (.nm x) p.1).trans (Px.num c _)
 | tied x t y=>exact(Px.num (.nm x) p.1).trans (Px.num (.nm y) _)
 | every a b=>exact .refl _
 | no a b=>exact .refl _
 | within a b=>exact .refl _
 | makes a b c=>exact .refl _
theorem sZ:∀(l:List Kd) (p:LS),Px p.1 (l.foldl kZ p).1
 | [],p=> .refl _
 | k::l,p=>(Ig p k).trans (sZ l _)
theorem nV:∀(l:List (Int × Sy)) (p:LS),Px p.1 (l.foldl mR p).1
 | [],p=> .refl _
 | k::l,p=>(Ic p k).trans (nV l _)
noncomputable def AM(L:LoI)(S:StI)(k:Kd):StI:=StI.letStand L S (L.ix k)
noncomputable def tM(L:LoI)(S:StI)(q:Int × Sy):StI:=match q.2 with
 | .thing x c=>StI.tellIs L S (L.ix (.nm x)) (L.ix c) "thing" [] (some q.1)
 | .tied x t y=>StI.tellHas L S (L.ix (.nm x)) t (L.ix (.nm y)) "tied" [] (some q.1)
 | _=>S
def Ih(h:Px (kZ p k).1 L):(kZ p k).2=AM L p.2 k/\k∈L.parts:=by
 have hk:=LoI.num_has k p.1;have h':Px (LoI.num k p.1) L:=h;refine⟨?_,h'.mem hk⟩;show StI.letStand (LoI.num k p.1) p.2 ((LoI.num k p.1).ix k)=StI.letStand L p.2 (L.ix k);rw[h'.ix hk,pS h' _ (LoI.ix_lt hk)]
def Ie(h:Px (mR p q).1 L):(mR p q).2=tM L p.2 q/\(∀x c,q.2= .thing x c->Kd.nm x∈L.parts/\c∈L.parts)/\(∀x t y,q.2= .tied x t y->Kd.nm x∈L.parts/\Kd.nm y∈L.parts):=by
 obtain⟨n,s⟩:=q;cases s with
 | thing x c=>
   have hc:=LoI.num_has c (LoI.num (.nm x) p.1);have hx:=(Px.num c (LoI.num (.nm x) p.1)).mem (LoI.num_has (.nm x) p.1);have h':Px (LoI.num c (LoI.num (.nm x) p.1)) L:=h;have ex:=(Px.num c (LoI.num (.nm x) p.1)).ix (LoI.num_has (.nm x) p.1);refine⟨?_,fun x' c' e=>by cases e;exact⟨h'.mem hx,h'.mem hc⟩,fun _ _ _ e=>(by cases e)⟩;show StI.tellIs (LoI.num c (LoI.num (.nm x) p.1)) p.2 ((LoI.num (.nm x) p.1).ix (.nm x)) ((LoI.num c (LoI.num (.nm x) p.1)).ix c) "thing" [] (some n)=StI.tellIs L p.2 (L.ix (.nm x)) (L.ix c) "thing" [] (some n);rw[<-ex,h'.ix hx,h'.ix hc,ou h' _ (LoI.ix_lt hx) (LoI.ix_lt hc)]
 | tied x t y=>
   have hc:=LoI.num_has (.nm y) (LoI.num (.nm x) p.1);have hx:=(Px.num (.nm y) (LoI.num (.nm x) p.1)).mem (LoI.num_has (.nm x) p.1);have h':Px (LoI.num (.nm y) (LoI.num (.nm x) p.1)) L:=h;have ex:=(Px.num (.nm y) (LoI.num (.nm x) p.1)).ix (LoI.num_has (.nm x) p.1);refine⟨?_,fun _ _ e=>(by cases e),fun x' t' y' e=>by cases e;exact⟨h'.mem hx,h'.mem hc⟩⟩;show StI.tellHas (LoI.num (.nm y) (LoI.num (.nm x) p.1)) p.2 ((LoI.num (.nm x) p.1).ix (.nm x)) t ((LoI.num (.nm y) (LoI.num (.nm x) p.1)).ix (.nm y)) "tied" [] (some n)=StI.tellHas L p.2 (L.ix (.nm x)) t (L.ix (.nm y)) "tied" [] (some n);rw[<-ex,h'.ix hx,h'.ix hc,zG h' _ (LoI.ix_lt hx) (LoI.ix_lt hc)]
 | every a b=>exact⟨rfl,fun _ _ e=>(by cases e),fun _ _ _ e=>(by cases e)⟩
 | no a b=>exact⟨rfl,fun _ _ e=>(by cases e),fun _ _ _ e=>(by cases e)⟩
 | within a b=>exact⟨rfl,fun _ _ e=>(by cases e),fun _ _ _ e=>(by cases e)⟩
 | makes a b c=>exact⟨rfl,fun _ _ e=>(by cases e),fun _ _ _ e=>(by cases e)⟩
theorem ze:∀(l:List Kd) {p:LS},Px (l.foldl kZ p).1 L->(l.foldl kZ p).2=l.foldl (AM L) p.2/\∀k∈l,k∈L.parts
 | [],_,_=>⟨rfl,fun _ h=>(ai h).elim⟩
 | k::l,p,h=>by
   obtain⟨e1,m1⟩:=Ih (p:=p) (k:=k) ((sZ l _).trans h);obtain⟨e2,m2⟩:=ze l (p:=kZ p k) h;refine⟨?_,fun y hy=> ?_⟩
   · rw[gi,e2,e1];rfl
   · rcases aE.mp hy with rfl | hy
     · exact m1
     · exact m2 y hy
theorem zd:∀(l:List (Int × Sy)) {p:LS},Px (l.foldl mR p).1 L->(l.foldl mR p).2=l.foldl (tM L) p.2/\∀q∈l,(∀x c,q.2= .thing x c->Kd.nm x∈L.parts/\c∈L.parts)/\(∀x t y,q.2= .tied x t y->Kd.nm x∈L.parts/\Kd.nm y∈L.parts)
 | [],_,_=>⟨rfl,fun _ h=>(ai h).elim⟩
 | k::l,p,h=>by
   obtain⟨e1,m1⟩:=Ie (p:=p) (q:=k) ((nV l _).trans h);obtain⟨e2,m2⟩:=zd l (p:=mR p k) h;refine⟨?_,fun y hy=> ?_⟩
   · rw[gi,e2,e1];rfl
   · rcases aE.mp hy with rfl | hy
     · exact m1
     · exact m2 y hy
def Le.bg1(L:LoI)(S:StI)(k:Kd):Le S (AM L S k):= .letStand L S _
def HA{κ α:Type}[DecidableEq κ]{f:κ->List α}{n i:κ}{x e:α}(h:e∈pZ f n x i):e∈f i\/(i=n/\e=x):=by
 unfold pZ at h;rcases aw.mp h with h | h
 · exact .inl h
 · split at h
   · exact .inr ⟨by assumption,ag.mp h⟩
   · exact(ai h).elim
def Her(P:Kd->Prop):Kd->Prop
 | .nm x=>P (.nm x)
 | .two a b=>P (.two a b)/\Her P a/\Her P b
 | .som r c=>P (.som r c)/\Her P c
theorem Her.self:∀{k:Kd},Her P k->P k
 | .nm _,h=>h
 | .two _ _,h=>h.1
 | .som _ _,h=>h.1
theorem jh:∀k L,(∀y∈L.parts,P y)->Her P k->∀y∈(LoI.num k L).parts,P y
 | .nm x,L,h,hk=>by
   rw[LoI.num]
   split
   · exact h
   · intro y hy;rcases aw.mp hy with hy | hy
     · exact h y hy
     · rw[ag.mp hy];exact hk
 | .two a b,L,h,hk=>by
   have h2:=jh b _ (jh a L h hk.2.1) hk.2.2;rw[LoI.num]
   split
   · exact h
   · intro y hy;rcases aw.mp hy with hy | hy
     · exact h2 y hy
     · rw[ag.mp hy];exact hk.1
 | .som r c,L,h,hk=>by
   have h2:=jh c L h hk.2;rw[LoI.num]
   split
   · exact h
   · intro y hy;rcases aw.mp hy with hy | hy
     · exact h2 y hy
     · rw[ag.mp hy];exact hk.1
section
def Px.of_eq(p:Px L' F)(e:L'.parts=L.parts):Px L F:=by obtain⟨l,el⟩:=p;exact⟨l,by rw[<-e];exact el⟩
def IY(k:Kd)(L:LoI):Px L (LoI.kk k L):=by
 obtain⟨l,e⟩:=LoI.num_sub k L;exact⟨l,by unfold LoI.kk;rw[(LoI.know_rest k _).1];exact e⟩
def Km(L:LoI)(p:Str × Kd):Px L (L.kkp p):=by
 unfold LoI.kkp
 split
 · exact IY _ _
 · exact .refl _
theorem qN:∀(l:List (Str × Kd)) (L:LoI),Px L (l.foldl LoI.kkp L)
 | [],L=> .refl L
 | q::l,L=>(Km L q).trans (qN l _)
def iR(n:Int)(s:Sy)(L:LoI):(LoI.tb n s L).parts=L.parts:=by cases s<;>rfl
def Fj(n:Int)(s:Sy)(L:LoI):Px L (LoI.learn n s L):=by
 obtain⟨l,e⟩:=qN s.sg.ps L;exact⟨l,by unfold LoI.learn;rw[iR];exact e⟩
end
noncomputable def Sy.knK:Sy->List Kd
 | .every a b=>[a,b] | .no a b=>[a,b] | .thing _ k=>[k] | _=>[]
noncomputable def Sy.tiesL:Sy->List Str
 | .every a b=>Kd.tieL a++Kd.tieL b | .no a b=>Kd.tieL a++Kd.tieL b | .thing _ k=>Kd.tieL k | .tied _ t _=>[t] | .within r s=>[r,s] | .makes r s t=>[r,s,t]
def MV:(("thing":Str)="kind")->False:=by decide+kernel
def NO:(("tie":Str)="kind")->False:=by decide+kernel
def GL{s:Sy}(h:q∈s.sg.ps)(e:q.1="kind"):q.2∈s.knK:=by
 cases s<;>simp only[Sy.sg,Sy.sorts,Sy.parts,zx,Pe,aE,ai,cF] at h
 case every a b=>rcases h with rfl | rfl<;>simp[Sy.knK]
 case no a b=>rcases h with rfl | rfl<;>simp[Sy.knK]
 case thing x k=>
  rcases h with rfl | rfl
  · exact(MV e).elim
  · simp[Sy.knK]
 case tied x t y=>rcases h with rfl | rfl | rfl<;>first | exact(MV e).elim | exact(NO e).elim
 case within x y=>rcases h with rfl | rfl<;>first | exact(MV e).elim | exact(NO e).elim
 case makes x y z=>rcases h with rfl | rfl | rfl<;>first | exact(MV e).elim | exact(NO e).elim
section
end
section
theorem iM:∀(l:List (Int × Sy)) (L:LoI),Px L (l.foldl (fun L q=>LoI.learn q.1 q.2 L) L)
 | [],L=> .refl L
 | q::l,L=>(Fj q.1 q.2 L).trans (iM l _)
theorem jW:∀(l:List Kd) (L:LoI),Px L (l.foldl (fun L k=>LoI.kk k L) L)
 | [],L=> .refl L
 | q::l,L=>(IY q L).trans (jW l _)
def IP(ps:List (Int × Sy))(fs:List Kd):Px LoI.init (LoI.of ps fs):=(iM ps _).trans (jW fs _)
theorem wU{Q:LoI->Prop}(hk:∀L i,Q L->Q (L.kn i))(hb:∀L i j k,Q L->Q (L.bo i j k))(hs:∀L r j k,Q L->Q (L.so r j k)):∀(k:Kd) {L:LoI},Q L->Q (LoI.know k L)
 | .nm x,L,h=>by
   rw[LoI.know]
   split
   · exact h
   · exact hk _ _ h
 | .two a b,L,h=>by
   rw[LoI.know]
   split
   · exact h
   · exact wU hk hb hs b (hb _ _ _ _ (wU hk hb hs a (hk _ _ h)))
 | .som r c,L,h=>by
   rw[LoI.know]
   split
   · exact h
   · exact wU hk hb hs c (hs _ _ _ _ (hk _ _ h))
def EV{ps:List (Int × Sy)}{Q:LoI->Prop}(hq:∀{L L':LoI},L'.parts=L.parts->L'.shapes=L.shapes->Q L->Q L')(h0:Q LoI.init){fs:List Kd}(hp:∀q∈ps,∀k∈q.2.knK,∀L,Q L->Q (LoI.num k L))(hf:∀k∈fs,∀L,Q L->Q (LoI.num k L)):Q (LoI.of ps fs):=by
 have kk:∀(k:Kd),(∀L,Q L->Q (LoI.num k L))->∀L,Q L->Q (LoI.kk k L):=fun k hk L h=>hq (LoI.know_rest k _).1 (LoI.know_rest k _).2 (hk L h);have inner:∀(s:Sy),(∀k∈s.knK,∀L,Q L->Q (LoI.num k L))->∀(l:List (Str × Kd)),(∀q∈l,q∈s.sg.ps)->∀L,Q L->Q (l.foldl LoI.kkp L):=fun s hs l=>by
  induction l with
  | nil=>intro _ L h;exact h
  | cons q l ih=>
    intro hl L h;refine ih (fun q' h'=>hl q' (aK _ h')) _ ?_;unfold LoI.kkp
    split
    · rename_i c;exact kk _ (hs _ (GL (hl q aY) c)) _ h
    · exact h
 have one:∀(n:Int) (s:Sy),(∀k∈s.knK,∀L,Q L->Q (LoI.num k L))->∀L,Q L->Q (LoI.learn n s L):=fun n s hs L h=>by
  unfold LoI.learn;refine hq (iR n s _) (by cases s<;>rfl) (inner s hs s.sg.ps (fun _ h=>h) L h)
 have lr:∀(l:List (Int × Sy)),(∀q∈l,q∈ps)->∀L,Q L->Q (l.foldl (fun L q=>LoI.learn q.1 q.2 L) L):=fun l=>by
  induction l with
  | nil=>intro _ L h;exact h
  | cons q l ih=>intro hl L h;exact ih (fun q' h'=>hl q' (aK _ h')) _ (one q.1 q.2 (hp q (hl q aY)) L h)
 have lf:∀(l:List Kd),(∀q∈l,q∈fs)->∀L,Q L->Q (l.foldl (fun L k=>LoI.kk k L) L):=fun l=>by
  induction l with
  | nil=>intro _ L h;exact h
  | cons q l ih=>intro hl L h;exact ih (fun q' h'=>hl q' (aK _ h')) _ (kk q (hf q (hl q aY)) L h)
 exact lf fs (fun _ h=>h) _ (lr ps (fun _ h=>h) _ h0)
def Fo{s:Sy}(h:k∈s.knK):∀r∈Kd.tieL k,r∈s.tiesL:=fun r hr=>by
 cases s with
 | every a b=>rcases(show k=a\/k=b by simpa[Sy.knK] using h) with rfl | rfl;exact aM _ hr;exact aL _ hr
 | no a b=>rcases(show k=a\/k=b by simpa[Sy.knK] using h) with rfl | rfl;exact aM _ hr;exact aL _ hr
 | thing x c=>obtain rfl:k=c:=by simpa[Sy.knK] using h
              exact hr
 | tied x t y=>simp[Sy.knK] at h
 | within x y=>simp[Sy.knK] at h
 | makes x y z=>simp[Sy.knK] at h
def ShT(ts:List Str)(L:LoI):Prop:=∀r j,Sh.some r j∈L.shapes->r∈ts
def ShT.num(ht:∀r∈Kd.tieL k,r∈ts)(h:ShT ts L):ShT ts (LoI.num k L):=fun r j hr=>by
 obtain⟨l,e,hl⟩:=LoI.num_shapes k L;rw[e] at hr;rcases aw.mp hr with hr | hr
 · exact h r j hr
 · exact ht r (hl r j hr)
def ShT.init:ShT ts LoI.init:=fun r j h=>by
 rw[mf] at h;have h':Sh.some r j∈([.no,.no]:List Sh):=h;simp at h'
def J8(ps:List (Int × Sy))(fs:List Kd):2<=(LoI.of ps fs).parts.length:=by
 have:=(IP ps fs).le;rw[mf] at this;exact this
def J9(ps:List (Int × Sy))(fs:List Kd):(LoI.of ps fs).parts.length<=2+jt ps+gH fs:=by
 have kk:∀(k:Kd) (L:LoI),(LoI.kk k L).parts.length<=L.parts.length+k.sz:=fun k L=>by unfold LoI.kk;rw[(LoI.know_rest k _).1];exact LoI.num_len k L
 have kp:∀(l:List (Str × Kd)) (L:LoI),(l.foldl LoI.kkp L).parts.length<=L.parts.length+(l.map fun p=>p.2.sz).sum:=fun l=>by
  induction l with
  | nil=>intro L;exact cY _ _
  | cons q l ih=>
    intro L;have h1:=ih (L.kkp q);have h2:(L.kkp q).parts.length<=L.parts.length+q.2.sz:=by
     unfold LoI.kkp
     split
     · exact kk _ _
     · lia
    rw[gi,bQ,oh];lia
 have lr:∀(l:List (Int × Sy)) (L:LoI),(l.foldl (fun L q=>LoI.learn q.1 q.2 L) L).parts.length<=L.parts.length+jt l:=fun l=>by
  induction l with
  | nil=>intro L;exact cY _ _
  | cons q l ih=>
    intro L;have h1:=ih (LoI.learn q.1 q.2 L);have h2:(LoI.learn q.1 q.2 L).parts.length<=L.parts.length+q.2.szs:=by
     unfold LoI.learn;rw[iR];have tot:(q.2.sg.ps.map fun p=>p.2.sz).sum=q.2.szs:=by unfold Sy.szs;rw[<-jG,qk];rfl
     have:=kp q.2.sg.ps L;rw[tot] at this;exact this
    unfold jt at h1⊢;rw[gi,bQ,oh];lia
 have lf:∀(l:List Kd) (L:LoI),(l.foldl (fun L k=>LoI.kk k L) L).parts.length<=L.parts.length+gH l:=fun l=>by
  induction l with
  | nil=>intro L;exact cY _ _
  | cons q l ih=>
    intro L;have h1:=ih (LoI.kk q L);have h2:=kk q L;unfold gH at h1⊢;rw[gi,bQ,oh];lia
 have a:=lr ps LoI.init;have b:=lf fs (ps.foldl (fun L q=>LoI.learn q.1 q.2 L) LoI.init);have c:LoI.init.parts.length=2:=by rw[mf];rfl
 unfold LoI.of
 lia
end
section
theorem zm{Q:LoI->Prop}:∀(l:List Kd),(∀k∈l,∀L,Q L->Q (LoI.num k L))->∀(p:LS),Q p.1->Q (l.foldl kZ p).1
 | [],_,_,h=>h
 | k::l,hk,p,h=>zm l (fun k' h'=>hk k' (aK _ h')) (kZ p k) (hk k aY _ h)
theorem zl{Q:LoI->Prop}:∀(l:List (Int × Sy)),(∀q∈l,(∀x∈q.2.things,∀L,Q L->Q (LoI.num (.nm x) L))/\∀k∈q.2.knK,∀L,Q L->Q (LoI.num k L))->∀(p:LS),Q p.1->Q (l.foldl mR p).1
 | [],_,_,h=>h
 | q::l,hk,p,h=>by
   refine zl l (fun k' h'=>hk k' (aK _ h')) (mR p q) ?_;obtain⟨h1,h2⟩:=hk q aY;obtain⟨n,s⟩:=q;cases s with
   | thing x c=>exact h2 c (by simp[Sy.knK]) _ (h1 x (by simp[Sy.things]) _ h)
   | tied x t y=>exact h1 y (by simp[Sy.things]) _ (h1 x (by simp[Sy.things]) _ h)
   | every a b=>exact h
   | no a b=>exact h
   | within a b=>exact h
   | makes a b c=>exact h
def Cm{Q:LoI->Prop}(hT:∀x,x∈Tn↔x∈dM ps)(h:Q p.1)(hk:∀k∈ks,∀L,Q L->Q (LoI.num k L))(hx:∀x∈dM ps,∀L,Q L->Q (LoI.num (.nm x) L))(hq:∀q∈ps,∀k∈q.2.knK,∀L,Q L->Q (LoI.num k L)):Q (d5 ks Tn ps p).1:=by
 refine zl ps (fun q hq'=>⟨fun x hx'=>hx x (List.mem_flatten.mpr ⟨_,kg (f:=fun q:Int × Sy=>q.2.things) hq',hx'⟩),hq q hq'⟩) _ (zm _ (fun k hk'=> ?_) p h);rcases aw.mp hk' with hk' | hk'
 · exact hk k hk'
 · obtain⟨x,hx',rfl⟩:=bO.mp hk';exact hx x ((hT x).mp hx')
def KS:Px p.1 (d5 ks Tn ps p).1:=(sZ _ p).trans (nV _ _)
def pW{L:LoI}(o:L.Ok){i:Nat}(h:i<L.parts.length):L.ix (L.pt i)=i:=by
 have e:L.pt i=L.parts[i]:=by
  unfold LoI.pt;rw[fe,aN h];rfl
 unfold LoI.ix;rw[e];exact List.Nodup.idxOf_getElem o.nd i h
def CC{L:LoI}(o:L.Ok){k j:Nat}{t:Str}(h:L.shapes[k]? =some (.some t j)):L.pt k= .som t (L.pt j):=by
 have hk:k<L.parts.length:=by rw[<-o.sl];exact(aO.mp h).1
 have s:=o.sh _ (mI hk);have ix:=pW o hk;cases e:L.pt k with
 | nm x=>
   rw[e] at s ix;have s':L.shapes[L.ix (.nm x)]? =some .no:=s;rw[ix,h] at s';cases s'
 | two a b=>
   rw[e] at s ix;obtain⟨ha,hb,s'⟩:=(show a∈L.parts/\b∈L.parts/\L.shapes[L.ix (.two a b)]? =some (.both (L.ix a) (L.ix b)) from s);rw[ix,h] at s';cases s'
 | som r c=>
   rw[e] at s ix;obtain⟨hc,s'⟩:=(show c∈L.parts/\L.shapes[L.ix (.som r c)]? =some (.some r (L.ix c)) from s);rw[ix,h] at s';cases s';rw[nJ hc]
end
def okP(sg:List Str)(k:Kd):Prop:=gU k=gV k/\(gV k=true->O4 k sg=true)
noncomputable def om:Kd->List Nat
 | .nm x=>39::(x.cps.toList++[39])
 | .two a b=>[40,39,98,111,116,104,39,44,32]++(om a++(44::32::(om b++[41])))
 | .som r c=>[40,39,115,111,109,101,39,44,32]++(39::(r.cps.toList++(39::44::32::(om c++[41]))))
def lj:rj (39::l):=by show jq 39=false;decide
theorem kI:∀{a b:Kd} {s t:List Nat},ju a->ju b->om a++s=om b++t->a=b/\s=t
 | .nm x,.nm y,s,t,ha,hb,e=>by
   simp only[om,bP,cA,bD,f_,dy] at e;obtain⟨h1,h2⟩:=gj (eC ha).2.2 (eC hb).2.2 lj lj e;simp only[bD,f_] at h2;exact⟨by rw[xJ h1],h2⟩
 | .nm x,.two b1 b2,s,t,_,_,e=>by simp[om] at e
 | .nm x,.som r' c',s,t,_,_,e=>by simp[om] at e
 | .two a1 a2,.nm y,s,t,_,_,e=>by simp[om] at e
 | .som r' c',.nm y,s,t,_,_,e=>by simp[om] at e
 | .two a1 a2,.som r' c',s,t,_,_,e=>by simp[om] at e
 | .som r' c',.two a1 a2,s,t,_,_,e=>by simp[om] at e
 | .two a1 a2,.two b1 b2,s,t,ha,hb,e=>by
   simp only[om,cA,dX] at e;obtain⟨h1,h2⟩:=kI (a:=a1) (b:=b1) ha.1 hb.1 e;simp only[bP,cA,bD,f_] at h2;obtain⟨h3,h4⟩:=kI (a:=a2) (b:=b2) ha.2 hb.2 h2;simp only[bP,dy,bD,f_] at h4;exact⟨by rw[h1,h3],h4⟩
 | .som r c,.som r' c',s,t,ha,hb,e=>by
   simp only[om,cA,dX,bP,bD,f_] at e;obtain⟨h1,h2⟩:=gj (jI ha.1).2.2.1 (jI hb.1).2.2.1 lj lj e;simp only[bP,cA,bD,f_] at h2;obtain⟨h3,h4⟩:=kI (a:=c) (b:=c') ha.2 hb.2 h2;simp only[bP,dy,bD,f_] at h4;exact⟨by rw[xJ h1,h3],h4⟩
noncomputable def FL:Fa->List Nat
 | .is x k=>[40,39,105,115,39,44,32]++(om x++(44::32::(om k++[41])))
 | .has x t y=>[40,39,104,97,115,39,44,32]++(om x++(44::32::39::(t.cps.toList++(39::44::32::(om y++[41])))))
def C7:Fa->Prop
 | .is x k=>ju x/\ju k
 | .has x t y=>ju x/\fU t=true/\ju y
theorem KI:∀{a b:Fa},C7 a->C7 b->FL a=FL b->a=b
 | .is x k,.is x' k',ha,hb,e=>by
   simp only[FL,dX] at e;obtain⟨h1,h2⟩:=kI ha.1 hb.1 e;simp only[bD,f_] at h2;obtain⟨h3,_⟩:=kI ha.2 hb.2 h2;rw[h1,h3]
 | .is _ _,.has _ _ _,_,_,e=>by simp[FL] at e
 | .has _ _ _,.is _ _,_,_,e=>by simp[FL] at e
 | .has x t y,.has x' t' y',ha,hb,e=>by
   simp only[FL,dX] at e;obtain⟨h1,h2⟩:=kI ha.1 hb.1 e;simp only[bD,f_] at h2;obtain⟨h3,h4⟩:=gj (eC ha.2.1).2.2 (eC hb.2.1).2.2 lj lj h2;simp only[bD,f_] at h4;obtain⟨h5,_⟩:=kI ha.2.2 hb.2.2 h4;rw[h1,xJ h3,h5]
def JG:∀c∈List.range 123,jq c=true->Builtin.Str.reprChar 39 c=[c]:=by decide+kernel
def Kj(h:jq c=true):c<123:=by
 unfold jq at h;simp only[qU,cM] at h
 lia
theorem BA:∀(l:List Nat) (acc:Array Nat),l.all jq=true->(l.foldl (fun out c=>out++(Builtin.Str.reprChar 39 c).toArray) acc).toList=acc.toList++l
 | [],acc,_=>by simp
 | c::l,acc,h=>by
   rw[fF,bg] at h;rw[gi,BA l _ h.2,JG c (dm.mpr (Kj h.1)) h.1];simp
def Ac(h:x.cps.toList.all jq=true):(reprText x).cps.toList=39::(x.cps.toList++[39]):=by
 have q:reprQuote x=39:=by
  unfold reprQuote;rw[aD];intro z;rw[bg] at z;have:39∈x.cps.toList:=by simpa using z.1
  have:=eZ.mp h 39 this;exact absurd this (by decide)
 unfold reprText;rw[q];show((x.cps.foldl (fun out c=>out++(Builtin.Str.reprChar 39 c).toArray) #[39]).push 39).toList=_;rw[Array.toList_push,<-Array.foldl_toList,BA _ _ h];simp
def sL(h:fU x=true):x.cps.toList.all jq=true:=(eC h).2.2
def Fc:(Str.ofString "(").cps.toList=[40]:=by decide+kernel
def Fe:(Str.ofString ")").cps.toList=[41]:=by decide+kernel
def Fd:(Str.ofString ", ").cps.toList=[44,32]:=by decide+kernel
def rb:(reprText (Str.ofString "both")).cps.toList=[39,98,111,116,104,39]:=by decide+kernel
def rs:(reprText (Str.ofString "some")).cps.toList=[39,115,111,109,101,39]:=by decide+kernel
def ri:(reprText (Str.ofString "is")).cps.toList=[39,105,115,39]:=by decide+kernel
def rh:(reprText (Str.ofString "has")).cps.toList=[39,104,97,115,39]:=by decide+kernel
def Ny(a b c:PyData):(PyData.tuple [a,b,c]).shown.cps.toList=40::(a.shown.cps.toList++(44::32::(b.shown.cps.toList++(44::32::(c.shown.cps.toList++[41]))))):=by
 rw[Pb];show((Str.ofString "("++(a.shown++Str.ofString ", "++(b.shown++Str.ofString ", "++c.shown)))++Str.ofString ")").cps.toList=_;simp only[Cn,Fc,Fe,Fd,cA,bP,dy]
def OU(a b c d:PyData):(PyData.tuple [a,b,c,d]).shown.cps.toList=40::(a.shown.cps.toList++(44::32::(b.shown.cps.toList++(44::32::(c.shown.cps.toList++(44::32::(d.shown.cps.toList++[41]))))))):=by
 rw[Pb];show((Str.ofString "("++(a.shown++Str.ofString ", "++(b.shown++Str.ofString ", "++(c.shown++Str.ofString ", "++d.shown))))++Str.ofString ")").cps.toList=_;simp only[Cn,Fc,Fe,Fd,cA,bP,dy]
theorem fV:∀k,ju k->k.tx.py.shown.cps.toList=om k
 | .nm x,h=>Ac (sL h)
 | .two a b,h=>by
   show(PyData.tuple [.str "both",a.tx.py,b.tx.py]).shown.cps.toList=_;rw[Ny,fV a h.1,fV b h.2];show 40::((reprText (Str.ofString "both")).cps.toList++_)=_;rw[rb];simp[om]
 | .som r c,h=>by
   show(PyData.tuple [.str "some",.str r,c.tx.py]).shown.cps.toList=_;rw[Ny,fV c h.2];show 40::((reprText (Str.ofString "some")).cps.toList++(44::32::((reprText r).cps.toList++_)))=_;rw[rs,Ac (sL h.1)];simp[om]
theorem nW:∀f,C7 f->f.tx.py.shown.cps.toList=FL f
 | .is x k,h=>by
   show(PyData.tuple [.str "is",x.tx.py,k.tx.py]).shown.cps.toList=_;rw[Ny,fV x h.1,fV k h.2];show 40::((reprText (Str.ofString "is")).cps.toList++_)=_;rw[ri];simp[FL]
 | .has x t y,h=>by
   show(PyData.tuple [.str "has",x.tx.py,.str t,y.tx.py]).shown.cps.toList=_;rw[OU,fV x h.1,fV y h.2.2];show 40::((reprText (Str.ofString "has")).cps.toList++(44::32::(_++(44::32::((reprText t).cps.toList++_)))))=_;rw[rh,Ac (sL h.2.1)];simp[FL]
noncomputable def rpK(k:Kd):Str:=k.tx.py.shown
noncomputable def yh(f:Fa):Str:=f.tx.py.shown
def Bz(ha:ju a)(hb:ju b)(e:rpK a=rpK b):a=b:=by
 have e':om a=om b:=by rw[<-fV a ha,<-fV b hb];exact congrArg (fun z:Str=>z.cps.toList) e
 exact(kI (s:=[]) (t:=[]) ha hb (by rw[e'])).1
def GX(ha:C7 a)(hb:C7 b)(e:yh a=yh b):a=b:=KI ha hb (by rw[<-nW a ha,<-nW b hb];exact congrArg (fun z:Str=>z.cps.toList) e)
theorem rZ:∀k,ju k->(om k).length<=30 * k.sz
 | .nm x,h=>by
   have:=(eC h).2.1;rw[nQ] at this;simp only[om,aR,ah,cJ,Kd.sz];lia
 | .two a b,h=>by
   have h1:=rZ a h.1;have h2:=rZ b h.2;simp only[om,aR,ah,cJ,Kd.sz];lia
 | .som r c,h=>by
   have h1:=rZ c h.2;have:=(eC h.1).2.1;rw[nQ] at this;simp only[om,aR,ah,cJ,Kd.sz];lia
def Fp(h:KL H xs [a,b]):∃x y,xs=[x,y]/\IsK H a x/\IsK H b y:=by
 cases h with
 | cons r t=>
   cases t with
   | cons r2 t2=>cases t2;exact⟨_,_,rfl,r,r2⟩
def Fs(h:KL H xs [a,b,c]):∃x y z,xs=[x,y,z]/\IsK H a x/\IsK H b y/\IsK H c z:=by
 cases h with
 | cons r t=>
   obtain⟨y,z,rfl,h1,h2⟩:=Fp t;exact⟨_,y,z,rfl,r,h1,h2⟩
section
end
def Kn(K:Frag):kitOne K (.type "int") (.type "int")=some true:=by first | rfl | decide | with_unfolding_all rfl
def Ko(K:Frag):kitOne K (.type "int") (.type "bool")=some false:=by first | rfl | decide | with_unfolding_all rfl
section
end
section
end
section
end
section
end
inductive rA(vs:List V)(H:Hp)(Q:VK):Prop
 | mk:∀v k,(vs=[v])->(IsK H k v)->(Fh k)->(Q (.bl (gV k)) H)->rA vs H Q
def xP:Sp:=fun vs H Q _=>rA vs H Q
inductive pC(vs:List V)(H:Hp)(Q:VK):Prop
 | mk:∀lp ys ps,(vs=[.ref lp])->(H lp=some (.lst ys))->(PrL H ys ps)->(ps.length<=100)->(∀l H',Same H H'->H l=none->H' l=some (.lst ((dM ps).map V.str))->Q (.ref l) H')->pC vs H Q
def uy:Sp:=fun vs H Q _=>pC vs H Q
section
def Eb:bj je je (aJ vT):=gy
def CU(F:Fun K "_law_single" "_law_single" vT f fd)(mi:mg "isinstance"=none)(ms:mg "str"=none):bW P w K mg base eW 1 f fd je xP:=by
 refine F.o Eb fun cdv A outer s H vs Q E hr h=> ?_;obtain⟨v,k,rfl,hk,hl,q⟩:=h;refine⟨_,aV (cI (gA (xy mi ms cv aA) (iT (Ag PySem.F.plainAttrs_str PySem.F.slot_str_isupper PySem.F.type_str_isupper As (d_ kG aA fu (eN av)))))),?_⟩;cases k with
 | nm x=>
   obtain rfl:v= .str x:=hk;have hx:x.length<=sizeLine:=bC hl;refine⟨_,_,_,true,rfl,TyOf.str x,eh K,?_⟩;exact⟨1,rfl,x,rfl,hx,rfl,_,rfl,rfl,q⟩
 | two a b=>
   obtain⟨p,x,y,rfl,hp,_,_⟩:=hk;exact⟨_,_,_,false,rfl,TyOf.tup hp,du K,q⟩
 | som r c=>
   obtain⟨p,y,rfl,hp,_⟩:=hk;exact⟨_,_,_,false,rfl,TyOf.tup hp,du K,q⟩
def scSingles:bj ["_law_pairs","_law_made","_law_number","_law_saying_here"] BM (aJ rS):=gy
def Ak(F:Fun K "_law_singles" "_law_singles" rS f fd):bW P w K mg base eW 1 f fd BM uy:=by
 refine F.o scSingles fun cdv A outer s H vs Q E hr h=> ?_;obtain⟨lp,ys,ps,rfl,hlp,hps,hz,q⟩:=h;refine⟨_,aZ (fz 1 scSingles.nd (bV cz)) (aZ (jR (bS aA) (eJ rfl (bw (e_ 2 scSingles.nd) (bw (e_ 3 scSingles.nd) dA))) (aZ (bA (eI bN (dj bU) aS) (aV (be (yy bf (dj bU)))) aQ) (aV (bA (eI bN (dj bU) aS) (aZ (be (yy bf (dj bU))) (aV (be (yy bf (dj bU))))) aQ)))) (aV (cI bf))),?_⟩;refine⟨ay _,fun l hl=> ?_⟩;have s0:=aj hl (.lst []);have lpl:lp≠l:=br hlp hl;have lL:ys.length=ps.length:=aX hps;have singlen:∀i,(dM (ps.take i)).length<=2 * i:=by
  intro i
  induction i with
  | zero=>simp[dM]
  | succ i ih=>
    cases c:ps[i]? with
    | none=>
      have:ps.take (i+1)=ps.take i:=by rw[bK,c];simp
      rw[this];lia
    | some pq=>
      rw[mE c,ah];have:pq.2.things.length<=2:=by cases pq.2<;>simp[Sy.things]
      lia
 refine⟨⟨_,SqL.of (s0 _ _ hlp)⟩,bR (xs:=ys) (fun i σ H'=>(∃o2 o3,σ=[some (.ref lp),some (.ref l),o2,o3])/\Same H H'/\H' l=some (.lst ((dM (ps.take i)).map V.str))) ⟨⟨_,_,rfl⟩,s0,aa⟩ ?_ ?_ ?_⟩
 · rintro i σ H' _ ⟨_,sm,_⟩;exact SqL.of (sm _ _ hlp)
 · rintro i x σ H' hx ⟨⟨o2,o3,rfl⟩,sm,el⟩;obtain⟨pq,hpq,t,vs,rfl,ht,psy,xs,rfl,hpsy,hk⟩:=bT hps hx;have il:i<ps.length:=(aO.mp hpq).1;have sl:=singlen i;have e1:=mE hpq;refine⟨_,SqT.of (sm _ _ ht),rfl,?_⟩;obtain⟨nn,sy⟩:=pq;have spsy:=sm _ _ hpsy;have nl:psy≠l:=br hpsy hl;have l5:((dM (ps.take i)).map V.str).length<=999:=by rw[ao];lia
   cases sy with
   | thing x1 k1=>
     obtain⟨v1,v2,rfl,i1,i2⟩:=Fp hk;obtain rfl:v1= .str x1:=i1;refine cQ spsy rfl ⟨.inl ⟨rfl,_,SqL.of el⟩,cQ spsy rfl ⟨_,el,bL (by lia),?_⟩⟩;refine cQ ((aB nl).trans spsy) rfl ⟨⟨_,_,rfl⟩,d9 sm hl,?_⟩;rw[aa,e1,bx]
     rfl
   | tied x1 x2 x3=>
     obtain⟨v1,v2,v3,rfl,i1,i2,i3⟩:=Fs hk;obtain rfl:v1= .str x1:=i1;obtain rfl:v3= .str x3:=i3;refine cQ spsy rfl ?_;refine cQ spsy rfl ⟨.inl ⟨rfl,_,SqL.of el⟩,cQ spsy rfl ⟨_,el,bL (by lia),.inl ⟨rfl,_,SqL.of aa⟩,?_⟩⟩;refine cQ ((aB nl).trans spsy) rfl ⟨_,aa,bL (by rw[ah];show _+1<=_;lia),⟨_,_,rfl⟩,?_,?_⟩
     · rw[qr];exact d9 sm hl
     · rw[aa,e1,bx,cA]
       rfl
   | _=>
     iterate 2 refine cQ spsy (aU (j:=0) rfl) ?_
     refine⟨⟨_,_,rfl⟩,sm,?_⟩;rw[e1];exact(qS _).symm ▸ el
 · rintro σ H' ⟨⟨o2,o3,rfl⟩,sm,el⟩;rw[lL,bp] at el;exact(q l H' sm hl el)
end
theorem uX:∀l:List Str,(l.map V.str).all kU=true
 | []=>rfl
 | _::l=>by rw[bQ,fF,uX l];rfl
theorem B9(x:Str):∀l:List Str,B_ (.str x) (l.map V.str)=decide (x∈l)
 | []=>by simp[B_]
 | y::l=>by
   have ih:=B9 x l;unfold B_ at ih⊢;rw[bQ,h_,ih];by_cases c:y=x
   · subst c;simp[DD]
   · have c':¬ x=y:=fun z=>c z.symm;simp[DD,c,c']
inductive x8(K:Frag)(vs:List V)(H:Hp)(Q:VK):Prop
 | mk:∀(a:Addr) (ns:List Int) (i:Int),(vs=[.ref a,.int i])->(SqL K H a (ns.map V.int))->(0<=i)->(∀r:Int,Q (.int r) H)->x8 K vs H Q
def D4(K:Frag):Sp:=fun vs H Q _=>x8 K vs H Q
section
def Jy:bj yo yo (aJ Ei):=gy
def Hv(F:Fun K "_law_cell" "_law_cell" Ei f fd)(ml:mg "len"=none):bW P w K mg base eW 1 f fd yo (D4 K):=by
 refine F.o Jy fun cdv A outer s H vs Q E hr h=> ?_;obtain⟨a,ns,i,rfl,hS,h0,q⟩:=h;refine⟨_,aZ (by exact bA (qE kM bf (dB j0 rfl ml ua (eO aA cz)) (sF _)) (fY (gO (jg cm aA bf (fun _ _=>rfl)))) aQ) (aV (by exact gO av)),?_⟩;refine⟨a,_,rfl,.inl hS,fS (fun h=> ?_) (fun h=>q 0)⟩;have h':i<((ns.map V.int).length:Int):=cK h;rw[ao] at h';have hi:i.toNat<ns.length:=by lia
 have z:zC (ns.map V.int) ((i.toNat:Nat):Int)=some (.int ns[i.toNat]):=aU (by rw[bb,aN hi];rfl);rw[show((i.toNat:Nat):Int)=i by lia] at z;exact⟨_,_,hS,z,q _⟩
end
noncomputable def kept:List Str:=["anything","nothing","every","no","is","tie","within","then","makes","both","some"]
noncomputable abbrev az:Str:="abcdefghijklmnopqrstuvwxyz"
noncomputable def FG(i:Nat):Bool:=i==2 || i==3 || i==5 || i==9 || i==11 || i==15 || i==16 || i==20 || i==23 || i==25
def FE:∀w'∈kept,∀c∈w'.cps.toList,FG (c - 97)=false:=by decide+kernel
def FF(hc:c∈z.cps.toList)(hg:FG (c - 97)=true):B_ (.str z) (kept.map V.str)=false:=by
 cases e:B_ (.str z) (kept.map V.str) with
 | false=>rfl
 | true=>
   exfalso
   unfold B_ at e;rw[List.any_eq_true] at e;obtain⟨y,hy,e⟩:=e;obtain⟨w',hw,rfl⟩:=bO.mp hy;have:w'=z:=by simpa[DD] using e
   subst this;have:=FE w' hw c hc;rw[this] at hg;cases hg
def Mw{i:Nat}(h:i<26):zC (az).cps.toList (i:Int)=some (97+i):=by
 have e:(az).cps.toList=List.range' 97 26:=by decide+kernel
 rw[e];exact aU (by rw[Ob h];simp)
def KU:(az).length=26:=by decide+kernel
def uY:(kept.map V.str).all kU=true:=by decide+kernel
def CA(z:Str):Prop:=∀c∈z.cps.toList,97<=c/\c<=122
def GK:CA ⟨#[]⟩:=fun c h=>by simp at h
def vM(ha:CA a)(hb:CA b):CA (a++b):=fun c h=>by
 rw[lS] at h;simp only[OH,aw] at h;exact h.elim (ha c) (hb c)
def jE(h:CA z):CA (Txt.slice z lo hi):=fun c hc=>by
 rw[jF] at hc;exact h c (N9 (fC hc))
def D8(h:j<26):CA ⟨#[97+j]⟩:=fun c hc=>by
 have:c=97+j:=by simpa using hc
 lia
def B2{a:Str}(h:c∈a.cps.toList\/c∈b.cps.toList):c∈(a++b).cps.toList:=by
 rw[lS];simpa using h
def wd(z:Str):Prop:=1<=z.length/\z.length<=12/\CA z
def HN(n:Nat):HP (n+1) 0=some 0:=by
 unfold HP;simp
inductive xY(vs:List V)(H:Hp)(Q:VK):Prop
 | mk:∀b x m rest,(vs=[.ref b,.int m])->(H b=some (.lst (.int x::rest)))->(0<m/\m<=1000)->(∀x' r,0<=r->r<m->Q (.int r) (upd H b (.lst (.int x'::rest))))->xY vs H Q
def oz:Sp:=fun vs H Q _=>xY vs H Q
inductive uq(vs:List V)(H:Hp)(Q:VK):Prop
 | mk:∀c m:Int,(vs=[.int c,.int m])->(0<m)->(m<=24)->(∀(p:Addr) (H':Hp) (ws:List Str),Same H H'->H p=none->H' p=some (.lst (ws.map V.str))->(ws.length:Int)<=m->1<=ws.length->(m<=3->(ws.length:Int)=m)->(∀z∈ws,wd z)->Q (.ref p) H')->uq vs H Q
def vH:Sp:=fun vs H Q _=>uq vs H Q
def L8:((([("_law_k":Str)]:List Str)++[("_law_word":Str),("_law_taken":Str)]):List Str).Nodup:=by decide+kernel
def OZ:((([("_law_word":Str)]:List Str)++[]):List Str).Nodup:=by decide+kernel
def jO(z:Str)(k:Nat):(Txt.slice z none (some (k:Int))).length=min k z.length:=by
 have e:=congrArg List.length (jF z none (some (k:Int)));have hz:z.cps.toList.length=z.length:=by simp[Str.length]
 have hs:(Txt.slice z none (some (k:Int))).cps.toList.length=(Txt.slice z none (some (k:Int))).length:=by simp[Str.length]
 rw[hs,cf,eY,hz,HT.sIx_nat] at e;have e2:HT.sIx z.length 0 none=0:=rfl;rw[e2] at e
 lia
def rP(z:Str)(k:Nat):(Txt.slice z (some (k:Int)) none).length=z.length - k:=by
 have e:=congrArg List.length (jF z (some (k:Int)) none);have hz:z.cps.toList.length=z.length:=by simp[Str.length]
 have hs:(Txt.slice z (some (k:Int)) none).cps.toList.length=(Txt.slice z (some (k:Int)) none).length:=by simp[Str.length]
 rw[hs,cf,eY,hz,HT.sIx_nat] at e;have e2:HT.sIx z.length z.length none=z.length:=rfl;rw[e2] at e
 lia
noncomputable def gg(z:Str)(k:Nat)(c:Nat):Str:=Txt.slice z none (some (k:Int))++⟨#[c]⟩++Txt.slice z (some ((k:Int)+1)) none
def C_(hz:CA z)(hl:z.length<=12)(hk:k<z.length)(h1:97<=c)(h2:c<=122):wd (gg z k c):=by
 have e1:=jO z k;have e2:=rP z (k+1);rw[show(((k+1:Nat):Int))=(k:Int)+1 by lia] at e2;have e3:(gg z k c).length=(Txt.slice z none (some (k:Int))).length+1+(Txt.slice z (some ((k:Int)+1)) none).length:=by
  unfold gg;rw[bJ,bJ];rfl
 refine⟨by lia,by lia,vM (vM (jE hz) ?_) (jE hz)⟩;intro d hd;have:d=c:=by simpa using hd
 lia
def FR(ws:List Str){m:Int}(h:0<=m):jJ (ws.map V.str) none (some m)=(ws.take m.toNat).map V.str:=by
 have h1:HT.sIx (ws.map V.str).length (ws.map V.str).length (some ((m.toNat:Nat):Int))=min m.toNat (ws.map V.str).length:=HT.sIx_nat _ _ _;have h2:HT.sIx (ws.map V.str).length 0 none=0:=rfl;rw[show((m.toNat:Nat):Int)=m by lia] at h1;unfold jJ;rw[h1,h2,ud,ME,K3];rcases qj m.toNat (ws.map V.str).length with g | g
 · rw[Ga g]
 · rw[DC g,cZ (ar _),cZ g]
def DQ{ws:List Str}(ha:a∈ws)(hb:b∈ws)(hc:c∈ws)(ab:a≠b)(ac:a≠c)(bc:b≠c):3<=ws.length:=by
 match ws with
 | []=>simp at ha
 | [x]=>
   simp only[ag] at ha hb;exact absurd (ha.trans hb.symm) ab
 | [x,y]=>
   simp only[aE,ai,cF] at ha hb hc;rcases ha with rfl | rfl<;>rcases hb with rfl | rfl<;>rcases hc with rfl | rfl<;>first | exact absurd rfl ab | exact absurd rfl ac | exact absurd rfl bc
 | _::_::_::r=>simp only[aR];lia
def KW(h:(az).cps[i]? =some c):i<26/\c=97+i:=by
 have e:(az).cps.toList=List.range' 97 26:=by decide+kernel
 have h':(az).cps.toList[i]? =some c:=by simpa using h
 rw[e] at h';obtain⟨h1,h2⟩:=aO.mp h';rw[List.length_range'] at h1;rw[List.getElem_range'] at h2;exact⟨h1,by lia⟩
def Ar(z:Str)(k c:Nat):c∈(gg z k c).cps.toList:=B2 (.inl (B2 (.inr (by simp))))
def mL(h:gg z k c=gg z k d):c=d:=by
 unfold gg at h;have h':=congrArg (fun s:Str=>s.cps.toList) h;simp only[lS,OH] at h';have h2:=List.append_cancel_right h';have h3:=List.append_cancel_left h2;simpa using h3
section
def scDraw:bj ["_law_bag","_law_many","_law_left"] yk (aJ Eh):=gy
def Hu(F:Fun K "_law_draw" "_law_draw" Eh f fd):bW P w K mg base eW 1 f fd yk oz:=by
 refine F.o scDraw fun cdv A outer s H vs Q E hr h=> ?_;obtain⟨b,x,m,rest,rfl,hb,⟨hm,hm2⟩,q⟩:=h;refine⟨_,aZ (bA (eI kM (zB aA) av) (aZ (fz 2 scDraw.nd (bh jS (nK vC av) (zB aA))) (aZ (jo (bh jS (nK vC av) (bh dJ bH bf)) (oP aA av jH)) (aZ (bA (eI kM bH bf) (aV (jo (bh de (bh sC bH av) av) (oP aA av jH))) aQ) (aV (cI (bh de bH bf)))))) aQ) (aZ (jo (bh de (bh hV (bh sC (zB aA) av) av) av) (oP aA av jH)) (aV (cI (bh de (bh dJ (bh de (bh sC (zB aA) (bh hV (bh dJ (zB aA) av) av)) av) av) bf)))),?_⟩;refine⟨_,_,SqL.of hb,aU (j:=0) rfl,?_⟩;by_cases hx:x<0
 · show if decide (x<0)=true then _ else _
   rw[aI (aG hx)];refine⟨_,_,SqL.of hb,aU (j:=0) rfl,⟨hm,by lia⟩,b,_,0,0,rfl,rfl,hb,HN _,?_⟩;by_cases hl: -1 - x<m
   · show if decide (-1 - x<m)=true then _ else _
     rw[aI (aG hl)];refine⟨.inr ⟨by decide,by decide⟩,(show(0:Int)<2147483647 by decide),b,_,0,0,rfl,rfl,aa,HN _,hm,?_⟩;rw[qr];exact q _ _ (cU _ (by lia)) (cq _ hm)
   · show if decide (-1 - x<m)=true then _ else _
     rw[aD (by rw[cM];exact hl)];exact⟨hm,q _ _ (cU _ (by lia)) (cq _ hm)⟩
 · show if decide (x<0)=true then _ else _
   rw[aD (by rw[cM];exact hx)];refine⟨_,_,SqL.of hb,aU (j:=0) rfl,.inr ⟨by decide,by decide⟩,(show(0:Int)<2147483647 by decide),b,_,0,0,rfl,rfl,hb,HN _,?_⟩;have h0:0<=(x * 48271+4099) % 2147483647:=cU _ (by decide);have h1:(x * 48271+4099) % 2147483647<2147483647:=cq _ (by decide);refine⟨_,_,SqL.of aa,aU (j:=0) rfl,_,_,SqL.of aa,aU (j:=0) rfl,⟨by decide,by decide⟩,.inl ⟨by lia,by lia⟩,(show(0:Int)<2147483629 by decide),⟨by decide,by decide⟩,hm,?_⟩;exact q _ _ (cU _ (by lia)) (cq _ hm)
def scWords:bj ["_law_cell_here","_law_many","_law_letters","_law_taken","_law_size","_law_rest","_law_word","_law_k","_law_made","_law_spot","_law_letter","_law_name"] wm (aJ zP):=gy
def ED(F:Fun K "_law_words" "_law_words" zP f fd)(ml:mg "len"=none)(mr:mg "range"=none):bW P w K mg base eW 1 f fd wm vH:=by
 refine F.o scWords fun cdv A outer s H vs Q E hr h=> ?_;obtain⟨c,m,rfl,hm0,hm3,q⟩:=h;refine⟨_,@fK _ _ _ _ _ (fz 2 scWords.nd aS) (@fK _ _ _ _ _ (@El _ _ 3 _ _ _ _ scWords.nd rfl (Or.inr rfl) (@bV _ _ _ _ (@BY _ _ kept rfl)) rfl (.inl rfl)) (@fK _ _ _ _ _ (fz 4 scWords.nd (bh hV av (bh de aA av))) (@fK _ _ _ _ _ (fz 5 scWords.nd (bh de (bh dJ aA av) (bh wB av av))) (@fK _ _ _ _ _ (fz 6 scWords.nd aS) (@wq _ _ _ _ _ (jR (iK rfl mr (eP bX)) (e_ 7 scWords.nd) (@fK _ _ _ _ _ (fz 6 scWords.nd (bh iV dN (j7 wW bH (bh de dH av)))) (@fY _ _ _ (fz 5 scWords.nd (bh hV (bh dJ dH av) (bh sC av gN)))))) (@fK _ _ _ _ _ (fz 8 scWords.nd (bV cz)) (@wq _ _ _ _ _ (bA (eI bN (bh de (bh dJ aA av) av) av) (@fY _ _ _ (fz 8 scWords.nd (d_ lC (lF yp ["_law_word","_law_taken"] [6,3] rfl (CM rfl mr (fg av (bh hV bX av))) (fun _ _ _=>e_ 0 L8) (fun _ _ _=>BR (eI (r:=Om K true) iH (d_ kG bf fu (eN aA)) bH)) (fun _ _ _=>(d_ kG bf fu (eN aA)))) fu (eN bf)))) aQ) (@fK _ _ _ _ _ (fz 9 scWords.nd (bh de (bh dJ aA av) bX)) (@fK _ _ _ _ _ (jR (Eo bH) (e_ 10 scWords.nd) (@fK _ _ _ _ _ (fz 11 scWords.nd (bh iV (bh iV (d_ kG dN fu (eN lQ)) (pv 10)) (d_ kG dN (eN (bh hV lQ av)) fu))) (@fY _ _ _ (bA (PW.pt (fq (eI kM (tW ml gM) bf) (fq (eI iH (pv 11) bU) (fm (eI iH (pv 11) gM))))) (@fY _ _ _ (be (yy gM (pv 11)))) aQ)))) (@fY _ _ _ (@gO _ _ _ _ gM))))))))))),?_⟩;have m0:=cU c (show(12:Int)≠0 by decide);have m1:=cq c (show(0:Int)<12 by decide);refine⟨(by show 11<=sizeLine;exact bC (by decide)),fun lk hlk=> ?_⟩;refine⟨(show(0:Int)<12 by decide),?_⟩;obtain⟨n,hn,hn1,hn2⟩:∃n:Nat,(n:Int)=1+c % 12/\1<=n/\n<=12:=⟨(1+c % 12).toNat,by lia,by lia,by lia⟩;refine⟨⟨by decide,by decide⟩,⟨by decide,by decide,by decide⟩,(show(0:Int)<10^20 by decide),?_⟩;have s0:=aj hlk (.lst (kept.map V.str));refine⟨fun σ H'=>H'=upd H lk (.lst (kept.map V.str))/\∃(z:Str) (o5 o7:Option V),σ=[some (.int c),some (.int m),some (.str az),some (.ref lk),some (.int (1+c % 12)),o5,some (.str z),o7,none,none,none,none]/\z.length=n/\CA z,?_,?_⟩
 · refine⟨_,rfl,by lia,by lia,?_⟩;refine uW (fun i σ H'=>H'=upd H lk (.lst (kept.map V.str))/\∃(z:Str) (x:Int) (o7:Option V),σ=[some (.int c),some (.int m),some (.str az),some (.ref lk),some (.int (1+c % 12)),some (.int x),some (.str z),o7,none,none,none,none]/\z.length=i/\CA z) ⟨rfl,⟨#[]⟩,_,none,rfl,rfl,GK⟩ ?_ ?_
   · rintro i σ H' hi ⟨rfl,z,x,o7,rfl,hz,hsm⟩;have n0:=cU x (show(26:Int)≠0 by decide);have n1:=cq x (show(0:Int)<26 by decide);have za:=Mw (i:=(x % 26).toNat) (by lia);rw[show(((x % 26).toNat:Nat):Int)=x % 26 by lia] at za;have hi':i<n:=by lia
     refine⟨(show(0:Int)<26 by decide),az,_,_,rfl,rfl,bC (by rw[KU];decide),za,z,_,rfl,rfl,?_,?_⟩
     · show z.length+1<=sizeLine;exact bC (by lia)
     · refine⟨⟨by decide,by decide⟩,.inl ⟨by decide,by decide⟩,rfl,_,_,_,rfl,?_,vM hsm (D8 (by lia))⟩;rw[bJ,hz];rfl
   · rintro σ H' ⟨rfl,z,x,o7,rfl,hz,hsm⟩;exact⟨rfl,z,_,o7,rfl,by lia,hsm⟩
 rintro σ H' ⟨rfl,z,o5,o7,rfl,hz,hsm⟩;refine⟨ay _,fun ln hln=> ?_⟩;have s1:=s0.trans (aj hln (.lst []));have hlnH:H ln=none:=cu s0 hln;have nkl:lk≠ln:=br aa hln;refine⟨fun σ H'=>∃(pm:Addr) (ws:List Str),σ=[some (.int c),some (.int m),some (.str az),some (.ref lk),some (.int (1+c % 12)),o5,some (.str z),o7,some (.ref pm),none,none,none]/\Same H H'/\H pm=none/\pm≠lk/\H' lk=some (.lst (kept.map V.str))/\H' pm=some (.lst (ws.map V.str))/\(ws.length:Int)<=m/\∀y∈ws,wd y,?_,?_⟩
 · refine⟨⟨by decide,by decide⟩,(show(0:Int)<2 by decide),?_⟩;have ek:(upd (upd H lk (.lst (kept.map V.str))) ln (.lst [])) lk=some (.lst (kept.map V.str)):=by rw[aB nkl];exact aa
   refine fS (fun _=> ?_) (fun _=> ?_)
   · refine⟨1,1+c % 12+1,rfl,⟨by lia,by lia,by lia,by lia⟩,fun D hD=> ?_⟩;have sD:=aj hD (.lst []);have nD:lk≠D:=br ek hD;refine jr (1+c % 12+1 - 1).toNat (fun i σ H'=>(∃o,σ=[o,some (.str z),some (.ref lk)])/\Same H H'/\H' lk=some (.lst (kept.map V.str))/\∃ws:List Str,H' D=some (.lst (ws.map V.str))/\ws.length<=i/\∀y∈ws,wd y) ⟨⟨_,rfl⟩,s1.trans sD,by rw[aB nD];exact ek,[],aa,ay _,fun y hy=>(nomatch hy)⟩ ?_ ?_
     · rintro σ H' ⟨_,sm,ek',ws,eD,hl,hw⟩;refine⟨ar _,m,rfl,D,_,rfl,SqL.of eD,fun p hp=> ?_⟩;rw[FR ws (by lia)];have sp:=aj hp (.lst ((ws.take m.toNat).map V.str));refine⟨p,ws.take m.toNat,rfl,sm.trans sp,cu sm hp,?_,sp _ _ ek',aa,?_,fun y hy=>hw y (fC hy)⟩
       · intro e;rw[e,ek'] at hp;cases hp
       · rw[cf];lia
     · rintro i σ H' hi ⟨⟨o,rfl⟩,sm,ek',ws,eD,hl,hw⟩;refine⟨hi,?_⟩;rintro y H2 ⟨rfl,rfl⟩;have hik:i+1<=n:=by lia
       have ls:=jO z (i+1);rw[show(((i+1:Nat):Int))=1+(i:Int) by lia] at ls;have hDn:D≠lk:=bG nD;refine⟨1+(i:Int),rfl,z,rfl,bC (by lia),lk,_,rfl,.inl (SqL.of ek'),rfl,uY,?_⟩;refine fS (fun _=> ?_) (fun _=> ?_)
       · refine⟨1+(i:Int),rfl,z,rfl,bC (by lia),_,eD,bL (by rw[ao];lia),⟨_,rfl⟩,?_,by rw[aB nD];exact ek',ws++[Txt.slice z none (some (1+(i:Int)))],?_,by rw[ah];show _+1<=_;lia,fun y hy=> ?_⟩
         · exact d9 sm (cu s1 hD)
         · rw[aa,bx];rfl
         · rcases aw.mp hy with hy | hy
           · exact hw y hy
           · have:y=_:=ag.mp hy;subst this;exact⟨by lia,by lia,jE hsm⟩
       · exact⟨⟨_,rfl⟩,sm,ek',ws,eD,by lia,hw⟩
   · exact⟨ln,[],rfl,s1,hlnH,bG nkl,ek,aa,by simp;lia,fun y hy=>(nomatch hy)⟩
 rintro σ H' ⟨pm,ws,rfl,sm,hpm,npk,ek,epm,hlm,hw⟩;have k0:=cU (c/7) (show(1+c % 12:Int)≠0 by lia);have k1:=cq (c/7) (show(0:Int)<1+c % 12 by lia);obtain⟨k,hk,hkn⟩:∃k:Nat,(k:Int)=c/7 % (1+c % 12)/\k<n:=⟨(c/7 % (1+c % 12)).toNat,by lia,by lia⟩;refine⟨⟨by decide,by decide⟩,(show(0:Int)<1+c % 12 by lia),?_⟩;refine⟨az,rfl,HW (fun i σ H'=>∃(ws:List Str) (o10 o11:Option V),σ=[some (.int c),some (.int m),some (.str az),some (.ref lk),some (.int (1+c % 12)),o5,some (.str z),o7,some (.ref pm),some (.int (c/7 % (1+c % 12))),o10,o11]/\Same H H'/\H' lk=some (.lst (kept.map V.str))/\H' pm=some (.lst (ws.map V.str))/\(ws.length:Int)<=m/\(∀y∈ws,wd y)/\((ws.length:Int)=m\/∀j,j<i->FG j=true->gg z k (97+j)∈ws))
  ⟨ws,none,none,rfl,sm,ek,epm,hlm,hw,.inr fun j hj=>absurd hj (Nat.not_lt_zero _)⟩ ?_ ?_⟩
 · rintro i cc σ H2 hc ⟨ws,o10,o11,rfl,sm2,ek2,ep2,hl2,hw2,hg2⟩;obtain⟨hi,rfl⟩:=KW hc;have e1:=jO z k;have e2:=rP z (k+1);rw[hk] at e1;rw[show(((k+1:Nat):Int))=c/7 % (1+c % 12)+1 by lia] at e2;have nm:(Txt.slice z none (some (c/7 % (1+c % 12)))++⟨#[97+i]⟩++Txt.slice z (some (c/7 % (1+c % 12)+1)) none:Str)=gg z k (97+i):=by
    unfold gg;rw[hk]
   have wn:=C_ (c:=97+i) hsm (by lia) (show k<z.length by lia) (by lia) (by lia);refine⟨_,rfl,z,rfl,bC (by lia),_,_,rfl,rfl,bC (by show _+1<=1000;lia),_,rfl,z,rfl,bC (by lia),_,_,rfl,rfl,bC (by rw[bJ];show _+1+_<=1000;lia),?_⟩;rw[nm];refine⟨pm,_,rfl,.inl (SqL.of ep2),?_⟩;rw[ao];refine fS (fun c1=> ?_) (fun c1=> ?_)
   · have c1':=cK c1;refine⟨lk,_,rfl,.inl (SqL.of ek2),rfl,uY,?_⟩;show if(!B_ (.str (gg z k (97+i))) (kept.map V.str))=true then _ else _
     cases c2:B_ (.str (gg z k (97+i))) (kept.map V.str) with
     | true=>
       refine(⟨ws,_,_,rfl,sm2,ek2,ep2,hl2,hw2,?_⟩);rcases hg2 with h | h
       · exact .inl h
       · refine .inr fun j hj hgj=> ?_;rcases eV j i with hji | hji
         · exact h j hji hgj
         · have:j=i:=by lia
           subst this;have:=FF (Ar z k (97+j)) (by rw[Nat.add_sub_cancel_left];exact hgj);rw[this] at c2;cases c2
     | false=>
       refine⟨pm,_,rfl,.inl (SqL.of ep2),rfl,uX ws,?_⟩;show if(!B_ (.str (gg z k (97+i))) (ws.map V.str))=true then _ else _
       rw[B9];by_cases c3:gg z k (97+i)∈ws
       · rw[aG c3];refine⟨ws,_,_,rfl,sm2,ek2,ep2,hl2,hw2,?_⟩;rcases hg2 with h | h
         · exact .inl h
         · refine .inr fun j hj hgj=> ?_;rcases eV j i with hji | hji
           · exact h j hji hgj
           · have:j=i:=by lia
             subst this;exact c3
       · rw[aq c3];refine⟨.inl ⟨rfl,_,SqL.of ep2⟩,_,ep2,bL (by rw[ao];lia),ws++[gg z k (97+i)],_,_,rfl,d9 sm2 hpm,by rw[aB (bG npk)];exact ek2,?_,by rw[ah];show((ws.length+1:Nat):Int)<=m;lia,fun y hy=> ?_,?_⟩
         · rw[aa,bx];rfl
         · rcases aw.mp hy with hy | hy
           · exact hw2 y hy
           · have:y=_:=ag.mp hy;subst this;exact wn
         · rcases hg2 with h | h
           · lia
           · refine .inr fun j hj hgj=> ?_;rcases eV j i with hji | hji
             · exact aM _ (h j hji hgj)
             · have:j=i:=by lia
               subst this;exact aL _ (by simp)
   · have c1':¬ (ws.length:Int)<m:=fun y=>c1 (aG y);exact⟨ws,_,_,rfl,sm2,ek2,ep2,hl2,hw2,.inl (by lia)⟩
 · rintro σ H2 ⟨ws,o10,o11,rfl,sm2,ek2,ep2,hl2,hw2,hg2⟩;have h3:(ws.length:Int)=m\/3<=ws.length:=by
    rcases hg2 with h | h
    · exact .inl h
    · have sz:(az).cps.size=26:=by decide+kernel
      rw[sz] at h;exact .inr (DQ (h 2 (by decide) (by decide)) (h 3 (by decide) (by decide)) (h 5 (by decide) (by decide)) (fun y=>by have:=mL y;lia) (fun y=>by have:=mL y;lia) (fun y=>by have:=mL y;lia))
   exact(q pm H2 ws sm2 hpm ep2 hl2 (by lia) (by lia) hw2)
end
noncomputable abbrev AZ:Str:="ABCDEFGHIJKLMNOPQRSTUVWXYZ"
def MQ{i:Nat}(h:i<26):zC (AZ).cps.toList (i:Int)=some (65+i):=by
 have e:(AZ).cps.toList=List.range' 65 26:=by decide+kernel
 rw[e];exact aU (by rw[Ob h];simp)
def Gj(i:Int):∃c,zC (AZ).cps.toList (i % 26)=some c/\65<=c/\c<=90:=by
 have n0:=cU i (show(26:Int)≠0 by decide);have n1:=cq i (show(0:Int)<26 by decide);have:=MQ (i:=(i % 26).toNat) (by lia);rw[show(((i % 26).toNat:Nat):Int)=i % 26 by lia] at this;exact⟨_,this,by lia,by lia⟩
def Gm:(AZ).length=26:=by decide+kernel
def thg(z:Str):Prop:=z.length<=12/\∃c r,z.cps.toList=c::r/\65<=c/\c<=90/\∀d∈r,97<=d/\d<=122
def DR(h1:65<=c)(h2:c<=90)(hl:e.length<=11)(hs:CA e):thg ((⟨#[c]⟩:Str)++e):=by
 refine⟨?_,c,e.cps.toList,?_,h1,h2,fun d hd=>hs d hd⟩
 · rw[bJ];show 1+_<=12;lia
 · rw[lS];simp
inductive rn(vs:List V)(H:Hp)(Q:VK):Prop
 | mk:∀c m:Int,(vs=[.int c,.int m])->(0<m)->(m<=3)->(∀(p:Addr) (H':Hp) (ws:List Str),Same H H'->H p=none->H' p=some (.lst (ws.map V.str))->(ws.length:Int)=m->(∀z∈ws,thg z)->Q (.ref p) H')->rn vs H Q
def xN:Sp:=fun vs H Q _=>rn vs H Q
def L_:((([("_law_end":Str)]:List Str)++[("_law_great":Str),("_law_cell_here":Str)]):List Str).Nodup:=by decide+kernel
def Ka:((([("_law_k":Str)]:List Str)++[("_law_great":Str),("_law_ends":Str),("_law_cell_here":Str)]):List Str).Nodup:=by decide+kernel
section
def scThings:bj ["_law_cell_here","_law_many","_law_great","_law_ends"] wm (aJ vQ):=gy
def CQ(F:Fun K "_law_things" "_law_things" vQ f fd)(mr:mg "range"=none)(Gw:Cl P w K mg base 1 "_law_words" wm vH):bW P w K mg base eW 2 f fd wm xN:=by
 refine F.o scThings fun cdv A outer s H vs Q E hr h=> ?_;obtain⟨c,m,rfl,hm0,hm3,q⟩:=h;refine⟨_,aZ (fz 2 scThings.nd aS) (aZ (fz 3 scThings.nd (lF ["_law_word"] [] [] rfl (bS (dF Gw hr (fg aA bf))) (fun _ _ _=>e_ 0 OZ) (fun _ _ _=>gW) (fun _ _ _=>(d_ kG aA fu (eN av))))) (aZ (bA (eI bN (bh de (bh dJ aA av) av) av) (aV (cI (lF ["_law_end"] ["_law_great","_law_cell_here"] [2,0] rfl (bS bU) (fun _ _ _=>e_ 0 L_) (fun _ _ _=>gW) (fun _ _ _=>(bh iV (j7 wW bf (bh de (bh dJ bH av) av)) aA))))) aQ) (aV (cI (lF yp ["_law_great","_law_ends","_law_cell_here"] [2,3,0] rfl (iK rfl mr (eP bf)) (fun _ _ _=>e_ 0 Ka) (fun _ _ _=>gW) (fun _ _ _=>(bh iV (j7 wW bf (bh de (bh hV (bh dJ bU av) (bh sC av aA)) av)) (d_ kG (j7 (r:=GZ K) cm bH av) (eN av) fu)))))))),?_⟩;refine⟨c,m,rfl,hm0,Int.le_trans hm3 (by decide),fun p H1 ws s1 hp e1 _ _ l1' w1=>⟨⟨_,SqL.of e1⟩,fun D hD=> ?_⟩⟩;have l1:=l1' hm3;have sD:=aj hD (.lst []);have npD:p≠D:=br e1 hD;refine jr (ws.map V.str).length (fun i σ H'=>(∃o,σ=[o])/\Same H H'/\H' p=some (.lst (ws.map V.str))/\∃es:List Str,H' D=some (.lst (es.map V.str))/\es.length=i/\∀y∈es,y.length<=11/\CA y) ⟨⟨_,rfl⟩,s1.trans sD,by rw[aB npD];exact e1,[],aa,rfl,fun y hy=>(nomatch hy)⟩ ?_ ?_
 · rintro σ H2 ⟨_,s2,e2,es,eD,le,we⟩;rw[ao] at le;refine⟨⟨_,SqL.of e2,ar _⟩,?_⟩;refine⟨⟨by decide,by decide⟩,(show(0:Int)<2 by decide),?_⟩;refine fS (fun _=> ?_) (fun _=> ?_)
   · refine⟨⟨_,SqL.of eD⟩,fun D2 hD2=> ?_⟩;have sD2:=aj hD2 (.lst []);have nD2:D≠D2:=br eD hD2;refine jr (es.map V.str).length (fun i σ H'=>(∃o,σ=[o,some (.str AZ),some (.int c)])/\Same H H'/\H' D=some (.lst (es.map V.str))/\∃ts:List Str,H' D2=some (.lst (ts.map V.str))/\ts.length=i/\∀y∈ts,thg y) ⟨⟨_,rfl⟩,s2.trans sD2,by rw[aB nD2];exact eD,[],aa,rfl,fun y hy=>(nomatch hy)⟩ ?_ ?_
     · rintro σ H3 ⟨_,s3,e3,ts,eT,lt,wt⟩;rw[ao] at lt;exact⟨⟨_,SqL.of e3,ar _⟩,q D2 H3 ts s3 (cu s2 hD2) eT (by lia) wt⟩
     · rintro i σ H3 hi ⟨⟨o,rfl⟩,s3,e3,ts,eT,lt,wt⟩;have hi':i<es.length:=by simpa using hi
       refine⟨⟨_,.str es[i],SqL.of e3,by simp[hi']⟩,?_⟩;rintro y H4 ⟨rfl,hy⟩;have hyi:=hy _ (SqL.of e3);rw[bb,aN hi'] at hyi;cases hyi;obtain⟨cc,ec,c1,c2⟩:=Gj (c/4);obtain⟨b1,b2⟩:=we _ (fQ hi');refine⟨⟨by decide,by decide⟩,(show(0:Int)<26 by decide),AZ,_,cc,rfl,rfl,bC (by rw[Gm];decide),ec,_,_,rfl,rfl,bC (by show 1+_<=1000;lia),_,eT,bL (by rw[ao];lia),⟨_,rfl⟩,d9 s3 (cu s2 hD2),by rw[aB nD2];exact e3,ts++[(⟨#[cc]⟩:Str)++es[i]],?_,by rw[ah,lt];rfl,fun y hy=> ?_⟩
       · rw[aa,bx];rfl
       · rcases aw.mp hy with hy | hy
         · exact wt y hy
         · have:y=_:=ag.mp hy;subst this;exact DR c1 c2 b1 b2
   · refine⟨m,rfl,by lia,by lia,fun D2 hD2=> ?_⟩;have sD2:=aj hD2 (.lst []);have nD2:D≠D2:=br eD hD2;have h0:0<es.length:=by lia
     refine jr m.toNat (fun i σ H'=>(∃o,σ=[o,some (.str AZ),some (.ref D),some (.int c)])/\Same H H'/\H' D=some (.lst (es.map V.str))/\∃ts:List Str,H' D2=some (.lst (ts.map V.str))/\ts.length=i/\∀y∈ts,thg y) ⟨⟨_,rfl⟩,s2.trans sD2,by rw[aB nD2];exact eD,[],aa,rfl,fun y hy=>(nomatch hy)⟩ ?_ ?_
     · rintro σ H3 ⟨_,s3,e3,ts,eT,lt,wt⟩;exact⟨ar _,q D2 H3 ts s3 (cu s2 hD2) eT (by lia) wt⟩
     · rintro i σ H3 hi ⟨⟨o,rfl⟩,s3,e3,ts,eT,lt,wt⟩;refine⟨hi,?_⟩;rintro y H4 ⟨rfl,rfl⟩;obtain⟨cc,ec,c1,c2⟩:=Gj (c/4+7 * (0+(i:Int)));obtain⟨b1,b2⟩:=we _ (fQ h0);have l1:=Mz es[0] (some 1) none;have at0:zC (es.map V.str) 0=some (.str es[0]):=aU (j:=0) (by rw[bb,aN h0];rfl);refine⟨⟨by decide,by decide⟩,.inl ⟨by decide,by decide⟩,(show(0:Int)<26 by decide),AZ,_,cc,rfl,rfl,bC (by rw[Gm];decide),ec,_,_,SqL.of e3,at0,1,rfl,es[0],rfl,bC (by lia),_,_,rfl,rfl,bC (by show 1+_<=1000;lia),_,eT,bL (by rw[ao];lia),⟨_,rfl⟩,d9 s3 (cu s2 hD2),by rw[aB nD2];exact e3,ts++[(⟨#[cc]⟩:Str)++Txt.slice es[0] (some 1) none],?_,by rw[ah,lt];rfl,fun y hy=> ?_⟩
       · rw[aa,bx];rfl
       · rcases aw.mp hy with hy | hy
         · exact wt y hy
         · have:y=_:=ag.mp hy;subst this;exact DR c1 c2 (by lia) (jE b2)
 · rintro i σ H2 hi ⟨⟨o,rfl⟩,s2,e2,es,eD,le,we⟩;have hi':i<ws.length:=by simpa using hi
   refine⟨⟨_,.str ws[i],SqL.of e2,by simp[hi']⟩,?_⟩;rintro y H4 ⟨rfl,hy⟩;have hyi:=hy _ (SqL.of e2);rw[bb,aN hi'] at hyi;cases hyi;obtain⟨b1,b2,b3⟩:=w1 _ (fQ hi');have ls:=jO ws[i] 11;refine⟨11,rfl,ws[i],rfl,bC (by lia),_,eD,bL (by rw[ao];lia),⟨_,rfl⟩,d9 s2 (cu s1 hD),by rw[aB npD];exact e2,es++[Txt.slice ws[i] none (some 11)],?_,by rw[ah,le];rfl,fun y hy=> ?_⟩
   · rw[aa,bx];rfl
   · rcases aw.mp hy with hy | hy
     · exact we y hy
     · have:y=_:=ag.mp hy;subst this;have ls':(Txt.slice ws[i] none (some 11)).length=min 11 ws[i].length:=ls;exact⟨by lia,jE b3⟩
end
def oa(ws ts:List Str):Kd->Prop
 | .nm t=>t∈ws\/t="anything"\/t="nothing"
 | .two a b=>oa ws ts a/\oa ws ts b
 | .som r c=>r∈ts/\oa ws ts c
inductive rH(n:Nat)(vs:List V)(H:Hp)(Q:VK):Prop
 | mk:∀(b lk lt:Addr) (x y u3:Int) (ws ts:List Str) (d:Nat),(vs=[.ref b,.ref lk,.ref lt,.int (d:Int)])->(H b=some (.lst [.int x,.int y,.int u3]))->(H lk=some (.lst (ws.map V.str)))->(H lt=some (.lst (ts.map V.str)))->(lk≠b)->(lt≠b)->(0<ws.length)->(ws.length<=100)->(0<ts.length)->(ts.length<=100)->(d<n)->(∀(v:V) (H':Hp) (k:Kd) (x' y':Int),Kp [b] H H'->H' b=some (.lst [.int x',.int y',.int u3])->IsK H' k v->k.nt+1<=2^d->k.dep<=d->oa ws ts k->Q v H')->rH n vs H Q
def mC(n:Nat):Sp:=fun vs H Q _=>rH n vs H Q
section
def gT{ws:List Str}(h0:0<=r)(h1:r<(ws.length:Int)):∃z∈ws,zC (ws.map V.str) r=some (.str z):=by
 have hj:r.toNat<ws.length:=by lia
 refine⟨ws[r.toNat],fQ hj,?_⟩;have z:zC (ws.map V.str) ((r.toNat:Nat):Int)=some (.str ws[r.toNat]):=aU (by rw[bb,aN hj];rfl)
 rwa [show((r.toNat:Nat):Int)=r by lia] at z
def scKind:bj ["_law_bag","_law_kin","_law_ties","_law_deep","_law_way","_law_one"] wo (aJ By):=gy
def Hs(hk0:1<=k0)(F:Fun K "_law_kind" "_law_kind" By f fd)(Gk:Cl P w K mg base k0 "_law_kind" wo (mC n))(ml:mg "len"=none)(Gdr:Cl P w K mg base 1 "_law_draw" yk oz):bW P w K mg base eW (k0+1) f fd wo (mC (n+1)):=by
 refine F.o scKind fun cdv A outer s H vs Q E hr h=> ?_;obtain⟨b,lk,lt,x,y,u3,ws,ts,d,rfl,hb,hlk,hlt,nk,nt,w0,w1,t0,t1,hd,q⟩:=h;have kGk:=F.kp;refine⟨_,aZ (fz 4 scKind.nd (dF Gdr hr (fg aA av)))
  (aZ (bA (PW.pt (jf (eI bN bU av) (jf (eI bN (zB aA) av) (jm (eI LZ bX av))))) (aZ (bA (eI bN bX av) (aV (cI (j7 cm (bV (fg aS aS)) (bh dJ (dF Gdr hr (fg aA av)) av)))) aQ) (aV (cI (j7 cm bf (dF Gdr hr (fg aA (tW ml bf))))))) aQ)
  (aZ (jo (bh jS (zB aA) av) (oP aA av jH))
  (aZ (bA (eI kM bX av) (aV (cI (cX (gc aS (j7 cm bH (dF Gdr hr (fg aA (tW ml bH)))) (dF Gk hr (iU aA bf bH (bh jS bU av))))))) aQ)
  (aZ (fz 5 scKind.nd (dF Gk hr (iU aA bf bH (bh jS bU av))))
  (aV (cI (cX (gc aS dH (dF Gk hr (iU aA bf bH (bh jS bU av))))))))))),?_⟩
 have bm:b∈[b]:=ag.mpr rfl;have nk':lk∉[b]:=fun z=>nk (ag.mp z);have nt':lt∉[b]:=fun z=>nt (ag.mp z);refine⟨b,x,9,_,rfl,hb,by decide,fun x1 way y0 y1=> ?_⟩;have k1:Kp [b] H (upd H b (.lst [.int x1,.int y,.int u3])):=Kp.lst bm hb;have b1:upd H b (.lst [.int x1,.int y,.int u3]) b=some (.lst [.int x1,.int y,.int u3]):=aa;generalize upd H b (.lst [.int x1,.int y,.int u3])=H1 at k1 b1⊢;have lk1:=k1.but _ _ nk' hlk;have lt1:=k1.but _ _ nt' hlt;have leaf:∀(H2:Hp) (v:V) (t:Str) (x2:Int),Kp [b] H1 H2->H2 b=some (.lst [.int x2,.int y,.int u3])->v= .str t->(t∈ws\/t="anything"\/t="nothing")->Q v H2:=fun H2 v t x2 k2 b2 e ht=>
  q v H2 (.nm t) x2 y (k1.trans k2) b2 e (Nat.one_le_two_pow) (ay _) ht
 refine(fun lf=>fS (fun _=>lf) fun hd0=>⟨_,_,SqL.of b1,aU (j:=1) rfl,fS (fun _=>lf) fun _=>fS (fun _=>lf) fun _=> ?_⟩) ?_
 · show if decide (V.int way=V.int 8)=true then _ else _
   refine fS (fun _=> ?_) (fun _=> ?_)
   · refine⟨bC (by show 2<=1000;decide),fun l hl=> ?_⟩;have sl:=aj hl (.lst [.str "anything",.str "nothing"]);have nlb:l≠b:=fun z=>by rw[z,b1] at hl;cases hl
     refine⟨b,x1,5,_,rfl,sl _ _ b1,by decide,fun x2 r2 r0 r1=> ?_⟩;have k2:Kp [b] H1 (upd (upd H1 l (.lst [.str "anything",.str "nothing"])) b (.lst [.int x2,.int y,.int u3])):=(Kp.of sl).trans (Kp.lst bm (sl _ _ b1));have el:upd (upd H1 l (.lst [.str "anything",.str "nothing"])) b (.lst [.int x2,.int y,.int u3]) l=some (.lst [.str "anything",.str "nothing"]):=by rw[aB nlb];exact aa
     have e01:r2/4=0\/r2/4=1:=by lia
     rcases e01 with e01 | e01
     · refine⟨⟨by decide,by decide⟩,_,.str "anything",SqL.of el,?_,leaf _ _ "anything" x2 k2 aa rfl (.inr (.inl rfl))⟩;rw[e01];exact aU (j:=0) rfl
     · refine⟨⟨by decide,by decide⟩,_,.str "nothing",SqL.of el,?_,leaf _ _ "nothing" x2 k2 aa rfl (.inr (.inr rfl))⟩;rw[e01];exact aU (j:=1) rfl
   · refine⟨lk,_,rfl,.inl (SqL.of lk1),b,x1,_,_,rfl,b1,?_,fun x2 r2 r0 r1=> ?_⟩
     · rw[ao];lia
     rw[ao] at r1;obtain⟨z,hz,ez⟩:=gT r0 r1;have k2:Kp [b] H1 (upd H1 b (.lst [.int x2,.int y,.int u3])):=Kp.lst bm b1;exact⟨_,_,SqL.of (k2.but _ _ nk' lk1),ez,leaf _ _ z x2 k2 aa rfl (.inl hz)⟩
 obtain⟨e,rfl⟩:∃e,d=e+1:=⟨d - 1,by have:d≠0:=fun z=>hd0 (aG (by rw[z];rfl));lia⟩;refine⟨_,_,SqL.of b1,aU (j:=1) rfl,b,_,1,1,rfl,rfl,b1,rfl,?_⟩;have k2:Kp [b] H1 (upd H1 b (.lst [.int x1,.int (y - 1),.int u3])):=Kp.lst bm b1;have b2:upd H1 b (.lst [.int x1,.int (y - 1),.int u3]) b=some (.lst [.int x1,.int (y - 1),.int u3]):=aa;have lk2:=k2.but _ _ nk' lk1;have lt2:=k2.but _ _ nt' lt1;have ed:((e+1:Nat):Int) - 1=(e:Int):=by lia
 have p2:2^(e+1)=2 * 2^e:=by rw[k_];lia
 refine(fS (fun _=> ?_) (fun _=> ?_))
 · refine⟨lt,_,rfl,.inl (SqL.of lt2),b,x1,_,_,rfl,b2,?_,fun x3 r3 r0 r1=> ?_⟩
   · rw[ao];lia
   rw[ao] at r1;obtain⟨z,hz,ez⟩:=gT r0 r1;have k3:Kp [b] (upd H1 b (.lst [.int x1,.int (y - 1),.int u3])) (upd (upd H1 b (.lst [.int x1,.int (y - 1),.int u3])) b (.lst [.int x3,.int (y - 1),.int u3])):=Kp.lst bm b2;refine⟨_,_,SqL.of (k3.but _ _ nt' lt2),ez,?_⟩;refine⟨b,lk,lt,x3,y - 1,u3,ws,ts,e,by rw[<-ed];rfl,aa,k3.but _ _ nk' lk2,k3.but _ _ nt' lt2,nk,nt,w0,w1,t0,t1,by lia,fun v4 H4 kd x4 y4 k4 b4 i4 n4 dp4 nm4=> ?_⟩;refine⟨bC (by show 3<=1000;decide),fun t ht=> ?_⟩;have s5:=aj ht (.tup [.str "some",.str z,v4]);refine q (.ref t) _ (.som z kd) x4 y4 ((k1.trans k2).trans ((k3.trans k4).trans (.of s5))) (s5 _ _ b4) ⟨t,v4,rfl,aa,i4.mono s5.tups⟩ ?_ (by show 1+kd.dep<=_;lia) ⟨hz,nm4⟩;show 1+kd.nt+1<=_
   lia
 · refine⟨b,lk,lt,x1,y - 1,u3,ws,ts,e,by rw[<-ed];rfl,b2,lk2,lt2,nk,nt,w0,w1,t0,t1,by lia,fun v4 H4 kd x4 y4 k4 b4 i4 n4 dp4 nm4=> ?_⟩;refine⟨b,lk,lt,x4,y4,u3,ws,ts,e,by rw[<-ed];rfl,b4,k4.but _ _ nk' lk2,k4.but _ _ nt' lt2,nk,nt,w0,w1,t0,t1,by lia,fun v5 H5 kd2 x5 y5 k5 b5 i5 n5 dp5 nm5=> ?_⟩;refine⟨bC (by show 3<=1000;decide),fun t ht=> ?_⟩;have s6:=aj ht (.tup [.str "both",v4,v5]);refine q (.ref t) _ (.two kd kd2) x5 y5 ((k1.trans k2).trans ((k4.trans k5).trans (.of s6))) (s6 _ _ b5) ⟨t,v4,v5,rfl,aa,(i4.mono k5.tups).mono s6.tups,i5.mono s6.tups⟩ ?_ (by show 1+max kd.dep kd2.dep<=_;lia) ⟨nm4,nm5⟩;show 1+kd.nt+kd2.nt+1<=_
   lia
def Df:bW P w K mg base eW 1 f fd wo (mC 0):=by
 have no:∀vs H Q E,¬ mC 0 vs H Q E:=fun vs H Q E h=>by
  obtain⟨b,lk,lt,x,y,u,ws,ts,d,_,_,_,_,_,_,_,_,_,_,h,_⟩:=h
  lia
 exact⟨fun vs H Q E h=>absurd h (no vs H Q E),fun A outer s H args us vs Q E _ _ _ _ h=>absurd h (no vs H Q E)⟩
theorem yW(A:Fq K mg "_law_kind" By wo)(ml:mg "len"=none)(Gdr:Cl P w K mg base 1 "_law_draw" yk oz):∀n:Nat,Cl P w K mg base (n+1) "_law_kind" wo (mC n)
 | 0=>A.cl fun _=>Df
 | n+1=>A.cl fun F=>Hs (by lia) F (yW A ml Gdr n) ml Gdr
end
def dk(k:Kd):Prop:=k.dep<=2/\k.sz<=7/\Fh k/\gU k=gV k
def wG{s:Sy}(h:∀k∈s.parts,k.dep<=2/\k.sz<=7):s.okS:=⟨fun k hk=>au (h k hk).2 (by decide),fun k hk=>au (h k hk).1 (by decide)⟩
def C6(ha:dk a)(hb:dk b):(Sy.every a b).okS:=wG fun k hk=>by
 simp only[Sy.parts,aE,ai,cF] at hk;rcases hk with rfl | rfl
 · exact⟨ha.1,ha.2.1⟩
 · exact⟨hb.1,hb.2.1⟩
def J6(ha:dk a)(hb:dk b):(Sy.no a b).okS:=wG fun k hk=>by
 simp only[Sy.parts,aE,ai,cF] at hk;rcases hk with rfl | rfl
 · exact⟨ha.1,ha.2.1⟩
 · exact⟨hb.1,hb.2.1⟩
def IQ(x:Str):(Kd.nm x).dep<=2/\(Kd.nm x).sz<=7:=⟨ay _,by show 1<=7;decide⟩
def C4(hb:dk b):(Sy.thing x b).okS:=wG fun k hk=>by
 simp only[Sy.parts,aE,ai,cF] at hk;rcases hk with rfl | rfl
 · exact IQ _
 · exact⟨hb.1,hb.2.1⟩
def wH{s:Sy}(h:∀k∈s.parts,∃x,k= .nm x):s.okS:=wG fun k hk=>by
 obtain⟨x,rfl⟩:=h k hk;exact IQ x
def EU(x t y:Str):(Sy.tied x t y).okS:=wH fun k hk=>by
 simp only[Sy.parts,aE,ai,cF] at hk;rcases hk with rfl | rfl | rfl<;>exact⟨_,rfl⟩
def Aq(x t:Str):(Sy.within x t).okS:=wH fun k hk=>by
 simp only[Sy.parts,aE,ai,cF] at hk;rcases hk with rfl | rfl<;>exact⟨_,rfl⟩
def C5(x t y:Str):(Sy.makes x t y).okS:=wH fun k hk=>by
 simp only[Sy.parts,aE,ai,cF] at hk;rcases hk with rfl | rfl | rfl<;>exact⟨_,rfl⟩
def OS(z:Str):(Txt.slice z none (some 1)).cps.toList=z.cps.toList.take 1:=by
 rw[jF];have hz:z.cps.toList.length=z.length:=by simp[Str.length]
 have e:HT.sIx z.length z.length (some 1)=min 1 z.length:=HT.sIx_nat z.length z.length 1;have e2:HT.sIx z.length 0 none=0:=rfl;rw[e,e2,ud,ME];rcases zw z.length with h | h
 · have:z.cps.toList=[]:=DF (by lia);rw[this];simp
 · have:min 1 z.length=1:=by lia
   rw[this]
def mo(h:t.cps.toList=c::r)(hc:c<128):Gn t=decide (65<=c/\c<=90):=by
 have e:Txt.slice t none (some 1)=⟨#[c]⟩:=by
  have:=OS t;rw[h] at this;have e2:(Txt.slice t none (some 1)).cps.toList=[c]:=this;cases hs:Txt.slice t none (some 1) with
  | mk a=>
    rw[hs] at e2
    congr 1
    exact Array.toList_inj.mp e2
 have big:∀c,c<128->Txt.isupper ⟨#[c]⟩=decide (65<=c/\c<=90):=by decide+kernel
 unfold Gn;rw[e,big c hc]
def qK(t:Str):t.cps.toList.length=t.length:=by simp[Str.length]
def Jb(h:wd t):dk (.nm t):=by
 obtain⟨h1,h2,h3⟩:=h;refine⟨ay _,by show 1<=7;decide,by show t.length<=1000;lia,?_⟩;show gb t=Gn t;cases e:t.cps.toList with
 | nil=>have:=qK t;rw[e] at this;simp at this;lia
 | cons c r=>
   obtain⟨c1,c2⟩:=h3 c (by rw[e];simp);rw[mo e (by lia),aq (by lia)];unfold gb;rw[e];have:nY c=false:=by unfold nY;exact aq (by lia)
   show(t_ t&&(nY c&&r.all fI))=false;rw[this,uf,ug]
def FP(h:thg t):dk (.nm t):=by
 obtain⟨h1,c,r,e,c1,c2,h3⟩:=h;refine⟨ay _,by show 1<=7;decide,by show t.length<=1000;lia,?_⟩;show gb t=Gn t;rw[mo e (by lia),aG ⟨c1,c2⟩];unfold gb t_;have hl:=qK t;rw[e] at hl;simp only[aR] at hl;rw[e,aG (show 1<=t.length by lia),aG h1];have b1:nY c=true:=by unfold nY;exact aG ⟨c1,c2⟩
 have b2:r.all fI=true:=eZ.mpr fun d hd=>by unfold fI;exact aG (h3 d hd)
 show(true&&true&&(nY c&&r.all fI))=true;rw[b1,b2];rfl
def dk_anyK:dk (.nm "anything"):=⟨ay _,by show 1<=7;decide,by show(Str.ofString "anything").length<=1000;decide+kernel,by
 show gb "anything"=Gn "anything";rw[mo (c:=97) (r:=[110,121,116,104,105,110,103]) (by decide+kernel) (by decide)]
 decide+kernel⟩
def dk_nothK:dk (.nm "nothing"):=⟨ay _,by show 1<=7;decide,by show(Str.ofString "nothing").length<=1000;decide+kernel,by
 show gb "nothing"=Gn "nothing";rw[mo (c:=110) (r:=[111,116,104,105,110,103]) (by decide+kernel) (by decide)]
 decide+kernel⟩
theorem gY:∀k:Kd,k.sz<=2 * k.nt+1
 | .nm _=>by simp[Kd.nt,Kd.sz]
 | .two a b=>by have:=gY a;have:=gY b;simp only[Kd.nt,Kd.sz];lia
 | .som _ c=>by have:=gY c;simp only[Kd.nt,Kd.sz];lia
def H_(hn:k.nt+1<=2^2)(hd:k.dep<=2)(hi:oa ws ts k)(hw:∀z∈ws,dk (.nm z)):dk k:=by
 have:=gY k;have hs:k.sz<=7:=by lia
 cases k with
 | nm t=>
   rcases hi with h | h | h
   · exact hw t h
   · rw[h];exact dk_anyK
   · rw[h];exact dk_nothK
 | two a b=>exact⟨hd,hs,trivial,rfl⟩
 | som r c=>exact⟨hd,hs,trivial,rfl⟩
def Mg{ts:List Str}(e:ts.length=3):∃a b c,ts=[a,b,c]:=by
 match ts,e with
 | [a,b,c],_=>exact⟨a,b,c,rfl⟩
section
end
def dn(ws ts:List Str)(k:Kd):Prop:=dk k/\k.nt<=3/\oa ws ts k
def xb(hn:k.nt+1<=2^2)(hd:k.dep<=2)(hi:oa ws ts k)(hw:∀z∈ws,dk (.nm z)):dn ws ts k:=⟨H_ hn hd hi hw,by lia,hi⟩
def dS(ws ts hs:List Str):Sy->Prop
 | .every a b=>dn ws ts a/\dn ws ts b
 | .no a b=>dn ws ts a/\dn ws ts b
 | .thing x k=>(x∈hs/\dk (.nm x))/\dn ws ts k
 | .tied x t y=>(x∈hs/\dk (.nm x))/\(y∈hs/\dk (.nm y))/\t∈ts
 | .within r s=>r∈ts/\s∈ts
 | .makes r s t=>r∈ts/\s∈ts/\t∈ts
theorem dS.okS:∀{s:Sy},dS ws ts hs s->s.okS
 | .every _ _,h=>C6 h.1.1 h.2.1
 | .no _ _,h=>J6 h.1.1 h.2.1
 | .thing _ _,h=>C4 h.2.1
 | .tied _ _ _,_=>EU _ _ _
 | .within _ _,_=>Aq _ _
 | .makes _ _ _,_=>C5 _ _ _
structure Env(H:Hp)(b lk lt lh:Addr)(ws ts hs:List Str):Prop where
 hk:H lk=some (.lst (ws.map V.str))
 lw:ws.length=3
 dw:∀z∈ws,dk (.nm z)
 ht:H lt=some (.lst (ts.map V.str))
 lt':ts.length=2
 hh:H lh=some (.lst (hs.map V.str))
 lh':hs.length=2
 dh:∀z∈hs,dk (.nm z)
 nk:lk≠b
 nt:lt≠b
 nh:lh≠b
def di{a:Addr}(h:a≠b):a∉[b]:=fun z=>h (ag.mp z)
def Env.kp(e:Env H b lk lt lh ws ts hs)(k:Kp [b] H H'):Env H' b lk lt lh ws ts hs:=⟨k.but _ _ (di e.nk) e.hk,e.lw,e.dw,k.but _ _ (di e.nt) e.ht,e.lt',k.but _ _ (di e.nh) e.hh,e.lh',e.dh,e.nk,e.nt,e.nh⟩
inductive rB(vs:List V)(H:Hp)(Q:VK):Prop
 | mk:∀b lk lt lh x y u3 ws ts hs,(vs=[.ref b,.ref lk,.ref lt,.ref lh])->(H b=some (.lst [.int x,.int y,.int u3]))->(Env H b lk lt lh ws ts hs)->(∀v H' s x' y' u',Kp [b] H H'->H' b=some (.lst [.int x',.int y',.int u'])->IsSy H' s v->dS ws ts hs s->Q v H')->rB vs H Q
def xR:Sp:=fun vs H Q _=>rB vs H Q
def L9:((([("_law_k":Str)]:List Str)++[("_law_ties":Str),("_law_bag":Str)]):List Str).Nodup:=by decide+kernel
def Dx:mn X (.builtin "len") (fun xs H Q=>∃p ys,xs=[V.ref p]/\H p=some (.lst ys)/\Q (.int (ys.length:Int)) H):=fun pins s σ H xs us Q I r ⟨p,ys,e,h,q⟩=>
 j0 pins s σ H xs us Q I r ⟨p,ys,e,.inl (SqL.of h),q⟩
def Env.p1(e:Env H b lk lt lh ws ts hs):0<ws.length:=by have:=e.lw;lia
def Env.p2(e:Env H b lk lt lh ws ts hs):ws.length<=100:=by have:=e.lw;lia
def Env.p3(e:Env H b lk lt lh ws ts hs):0<ts.length:=by have:=e.lt';lia
def Env.p4(e:Env H b lk lt lh ws ts hs):ts.length<=100:=by have:=e.lt';lia
def Env.kind(e:Env H b lk lt lh ws ts hs)(hb:H b=some (.lst [.int x,.int y,.int u3]))(q:∀v H' k x' y',Kp [b] H H'->H' b=some (.lst [.int x',.int y',.int u3])->IsK H' k v->k.nt+1<=2^2->k.dep<=2->oa ws ts k->Q v H'):rH 3 [.ref b,.ref lk,.ref lt,.int ((2:Nat):Int)] H Q:=⟨b,lk,lt,x,y,u3,ws,ts,2,rfl,hb,e.hk,e.ht,e.nk,e.nt,e.p1,e.p2,e.p3,e.p4,by decide,q⟩
def Gq(x1:Int)(hb:H b=some (.lst [.int x,.int y,.int u3])):Kp [b] H (upd H b (.lst [.int x1,.int y,.int u3]))/\upd H b (.lst [.int x1,.int y,.int u3]) b=some (.lst [.int x1,.int y,.int u3]):=⟨Kp.lst (ag.mpr rfl) hb,aa⟩
def qA(ht:H t=none)(k:KL H xs s.parts):IsSy (upd H t (.tup (.str (Lb s.hd)::xs))) s (.ref t):=⟨t,xs,rfl,aa,KL.mono (aj ht _).tups k⟩
section
def scSaying:bj ["_law_bag","_law_kin","_law_ties","_law_things_here","_law_way","_law_form","_law_one","_law_thing","_law_some"] Hc (aJ vU):=gy
def CV(F:Fun K "_law_saying" "_law_saying" vU f fd)(ml:mg "len"=none)(mr:mg "range"=none)(Gdr:Cl P w K mg base 1 "_law_draw" yk oz)(Gk:Cl P w K mg base 4 "_law_kind" wo (mC 3)):bW P w K mg base eW 5 f fd Hc xR:=by
 refine F.o scSaying fun cdv A outer s H vs Q E hr h=> ?_;obtain⟨b,lk,lt,lh,x,y,u3,ws,ts,hs,rfl,hb,en,q⟩:=h;refine⟨_,aZ (fz 4 scSaying.nd (dF Gdr hr (fg aA av))) (aZ (bA (eI kM bX av) (aZ (fz 5 scSaying.nd aS) (hG (bA (eI bN bX av) (aV (fz 5 scSaying.nd aS)) aQ) (aZ (fz 6 scSaying.nd (dF Gk hr (iU aA bf bH av))) (aV (cI (cX (gc dH dN (dF Gk hr (iU aA bf bH av))))))))) aQ) (aZ (fz 7 scSaying.nd (j7 cm bU (dF Gdr hr (fg aA (tW ml bU))))) (aZ (bA (eI kM bX av) (aV (cI (cX (gc aS gN (dF Gk hr (iU aA bf bH av)))))) aQ) (aZ (qF (i:=8) yp ["_law_ties","_law_bag"] [2,0] scSaying.nd rfl rfl (iK rfl mr (eP av)) (fun _ _ _=>e_ 0 L9) (fun _ _ _=>gW) (fun _ _ _=>(j7 (r:=GZ K) cm bf (dF Gdr hr (fg bH (dB Dx rfl ml ua (eP bf))))))) (aZ (bA (eI kM bX av) (aV (cI (cX (iU aS gN (zB gM) (j7 cm bU (dF Gdr hr (fg aA (tW ml bU)))))))) aQ) (aZ (bA (PW.pt (jf (eI bN bX av) (jm (eI bN (zB aA) av)))) (aV (cI (cX (gc aS (zB gM) (zB gM))))) aQ) (aZ (jo (bh jS (zB aA) av) (oP aA av jH)) (aV (cI (cX (iU aS (zB gM) (zB gM) (zB gM)))))))))))),?_⟩;have fin:∀{H':Hp} {x' y' u':Int} {t:Addr} {xs:List V} (s:Sy),Kp [b] H H'->H' b=some (.lst [.int x',.int y',.int u'])->H' t=none->KL H' xs s.parts->dS ws ts hs s->Q (.ref t) (upd H' t (.tup (.str (Lb s.hd)::xs))):=
  fun s k b' ht kl ds=>q _ _ s _ _ _ (k.trans (.of (aj ht _))) ((aj ht _) _ _ b') (qA ht kl) ds
 have lhs:=en.lh';have lts:=en.lt';refine⟨b,x,12,[.int y,.int u3],rfl,hb,by decide,fun x1 way _ _=> ?_⟩;obtain⟨k1,b1⟩:=Gq x1 hb;generalize upd H b (.lst [.int x1,.int y,.int u3])=H1 at k1 b1⊢;have e1:=en.kp k1;refine(fS (fun _=> ?_) (fun _=> ?_))
 · refine⟨fun σ H'=>∃fo:Str,(fo="every"\/fo="no")/\σ=[some (.ref b),some (.ref lk),some (.ref lt),some (.ref lh),some (.int way),some (.str fo),none,none,none]/\H'=H1,?_,?_⟩
   · refine(fS (fun _=> ?_) (fun _=> ?_))
     · exact⟨"no",.inr rfl,rfl,rfl⟩
     · exact⟨"every",.inl rfl,rfl,rfl⟩
   rintro σ H' ⟨fo,hfo,rfl,rfl⟩;refine e1.kind b1 fun v1 H2 q1 x2 y2 k2 b2 i1 nt1 dp1 nm1=> ?_;have e2:=e1.kp k2;refine e2.kind b2 fun v2 H3 q2 x3 y3 k3 b3 i2 nt2 dp2 nm2=> ?_;refine⟨bC (by show 3<=1000;decide),fun t ht=> ?_⟩;have k03:=(k1.trans k2).trans k3;have kl:KL H3 [v1,v2] [q1,q2]:= .cons (i1.mono k3.tups) (.cons i2 .nil);have n1:=xb nt1 dp1 nm1 en.dw;have n2:=xb nt2 dp2 nm2 en.dw;rcases hfo with rfl | rfl
   · exact fin (.every q1 q2) k03 b3 ht kl ⟨n1,n2⟩
   · exact fin (.no q1 q2) k03 b3 ht kl ⟨n1,n2⟩
 refine⟨lh,_,rfl,.inl (SqL.of e1.hh),b,x1,_,[.int y,.int u3],rfl,b1,by rw[ao,lhs];decide,fun x2 r r0 rm=> ?_⟩;obtain⟨k2,b2⟩:=Gq x2 b1;generalize upd H1 b (.lst [.int x2,.int y,.int u3])=H2 at k2 b2⊢;have e2:=e1.kp k2;obtain⟨z,hz,ez⟩:=gT (ws:=hs) r0 (by rw[ao] at rm;exact rm);refine⟨_,_,SqL.of e2.hh,ez,?_⟩;have k02:=k1.trans k2;have dz:=en.dh z hz;refine(fS (fun _=> ?_) (fun _=> ?_))
 · refine e2.kind b2 fun v2 H3 q2 x3 y3 k3 b3 i2 nt2 dp2 nm2=> ?_;refine⟨bC (by show 3<=1000;decide),fun t ht=> ?_⟩;exact fin (.thing z q2) (k02.trans k3) b3 ht (.cons rfl (.cons i2 .nil)) ⟨⟨hz,dz⟩,xb nt2 dp2 nm2 en.dw⟩
 refine⟨3,rfl,by decide,by decide,fun D hD=> ?_⟩;have nDb:D≠b:=fun z=>by rw[z,b2] at hD;cases hD
 have ntD:lt≠D:=br e2.ht hD;refine jr 3 (fun i σ H'=>(∃o,σ=[o,some (.ref lt),some (.ref b)])/\Kp [b,D] H2 H'/\(∃x' y',H' b=some (.lst [.int x',.int y',.int u3]))/\∃us:List Str,H' D=some (.lst (us.map V.str))/\us.length=i/\∀u∈us,u∈ts) ⟨⟨_,rfl⟩,.of (aj hD _),⟨_,_,(aj hD _) _ _ b2⟩,[],aa,rfl,fun _ h=>(ai h).elim⟩ ?_ ?_
 · rintro σ H3 ⟨_,kD,⟨x3,y3,b3⟩,us,eD,lus,hus⟩;have k3:Kp [b] H2 H3:=⟨fun c o hc hco=>kD.but c o (by
    simp only[aE,ai,cF,L6];exact⟨fun z=>hc (by rw[z];exact ag.mpr rfl),fun z=>by rw[z,hD] at hco;cases hco⟩) hco,kD.tups⟩
   have e3:=e2.kp k3;have k03:=k02.trans k3;obtain⟨u0,u1,u2,rfl⟩:=Mg lus;refine⟨ar _,?_⟩;have s0:SqL K H3 D [.str u0,.str u1,.str u2]:=SqL.of eD;refine(fS (fun _=> ?_) (fun _=> ?_))
   · refine⟨_,_,s0,rfl,lh,_,rfl,.inl (SqL.of e3.hh),b,x3,_,[.int y3,.int u3],rfl,b3,by rw[ao,lhs];decide,fun x4 r' r0' rm'=> ?_⟩;obtain⟨k4,b4⟩:=Gq x4 b3;generalize upd H3 b (.lst [.int x4,.int y3,.int u3])=H4 at k4 b4⊢;obtain⟨z',hz',ez'⟩:=gT (ws:=hs) r0' (by rw[ao] at rm';exact rm');refine⟨_,_,SqL.of (e3.kp k4).hh,ez',bC (by show 4<=1000;decide),fun t ht=> ?_⟩;exact fin (.tied z u0 z') (k03.trans k4) b4 ht (.cons rfl (.cons rfl (.cons rfl .nil))) ⟨⟨hz,dz⟩,⟨hz',en.dh z' hz'⟩,hus u0 (by simp)⟩
   refine(fun lf=>fS (fun _=>lf) fun _=>⟨_,_,SqL.of b3,aU (j:=2) rfl,fS (fun _=>lf) fun _=> ?_⟩) ?_
   · refine⟨_,_,s0,rfl,_,_,s0,rfl,bC (by show 3<=1000;decide),fun t ht=> ?_⟩;exact fin (.within u0 u1) k03 b3 ht (.cons rfl (.cons rfl .nil)) ⟨hus u0 (by simp),hus u1 (by simp)⟩
   refine⟨_,_,SqL.of b3,aU (j:=2) rfl,b,_,2,2,rfl,rfl,b3,rfl,?_⟩;have k4:Kp [b] H3 (upd H3 b (.lst [.int x3,.int y3,.int (u3 - 1)])):=Kp.lst (ag.mpr rfl) b3;have b4:upd H3 b (.lst [.int x3,.int y3,.int (u3 - 1)]) b=some (.lst [.int x3,.int y3,.int (u3 - 1)]):=aa;have s4:SqL K (upd H3 b (.lst [.int x3,.int y3,.int (u3 - 1)])) D [.str u0,.str u1,.str u2]:=SqL.of (by rw[aB nDb];exact eD);refine⟨_,_,s4,rfl,_,_,s4,rfl,_,_,s4,rfl,bC (by show 4<=1000;decide),fun t ht=> ?_⟩;exact fin (.makes u0 u1 u2) (k03.trans k4) b4 ht (.cons rfl (.cons rfl (.cons rfl .nil))) ⟨hus u0 (by simp),hus u1 (by simp),hus u2 (by simp)⟩
 · rintro i σ H' hi ⟨⟨o,rfl⟩,kD,⟨x',y',b'⟩,us,eD,lus,hus⟩;refine⟨hi,?_⟩;rintro v H4 ⟨rfl,rfl⟩;have ntL:lt∉[b,D]:=by simp only[aE,ai,cF,L6];exact⟨en.nt,ntD⟩
   refine⟨lt,_,rfl,kD.but _ _ ntL e2.ht,b,x',_,[.int y',.int u3],rfl,b',by rw[ao,lts];decide,fun x4 r2 r0 r3=> ?_⟩;have kb2:Kp [b,D] H4 (upd H4 b (.lst [.int x4,.int y',.int u3])):=Kp.lst (by simp) b';have kD2:=kD.trans kb2;obtain⟨z,hz,ez⟩:=gT (ws:=ts) r0 (by rw[ao] at r3;exact r3);have eD2:upd H4 b (.lst [.int x4,.int y',.int u3]) D=some (.lst (us.map V.str)):=by rw[aB nDb];exact eD
   have kD3:Kp [b,D] (upd H4 b (.lst [.int x4,.int y',.int u3])) (upd (upd H4 b (.lst [.int x4,.int y',.int u3])) D (.lst (us.map V.str++[.str z]))):=Kp.lst (by simp) eD2;have hi3:i<3:=hi;refine⟨_,_,SqL.of (kD2.but _ _ ntL e2.ht),ez,_,eD2,bL (by rw[ao];lia),⟨_,rfl⟩,kD2.trans kD3,⟨x4,y',by rw[aB (bG nDb)];exact aa⟩,us++[z],?_,by rw[ah,lus];rfl,fun u hu=>(aw.mp hu).elim (hus u) fun h=>(ag.mp h) ▸ hz⟩;rw[aa,bx];rfl
end
end K19
namespace L2
open PySem PySem.Spec PyProof.Rows
section
def Hk:lP X (binaryOp .Mult) (rI IntMulOk fun i j=> .int (i * j)):=Ld fun _ _ _ _ _ _ _ hc q=>mul_int q hc
end
end L2
namespace K19
open PySem L2
def Ma:IntMulOk (10^(40:Int).toNat) (10^(40:Int).toNat):=by unfold IntMulOk;decide+kernel
inductive uw(vs:List V)(H:Hp)(Q:VK):Prop
 | mk:∀b x c rest,(vs=[.ref b,.int c])->(H b=some (.lst (.int x::rest)))->(∀r:Int,Q (.int r) H)->uw vs H Q
def vJ:Sp:=fun vs H Q _=>uw vs H Q
section
def GQ:bj CJ CJ (aJ zS):=gy
def EF(F:Fun K "_law_start" "_law_start" zS f fd):bW P w K mg base eW 1 f fd CJ vJ:=by
 refine F.o GQ fun cdv A outer s H vs Q E hr h=> ?_;obtain⟨b,x,c,rest,rfl,hb,q⟩:=h;refine⟨_,aZ (bA (eI bN (bh de bf av) av) (aV (cI (bh jS (nK vC av) (bh de (bh dJ bf av) (bh Hk (bh wB av av) (bh wB av av)))))) aQ) (aV (cI (bh de (bh hV (zB aA) bf) av))),?_⟩;refine⟨(show(0:Int)<2 by decide),?_⟩;refine(fS (fun _=> ?_) (fun _=> ?_))
 · refine⟨⟨by decide,by decide⟩,⟨by decide,by decide,by decide⟩,⟨by decide,by decide,by decide⟩,Ma,(show(0:Int)<10^(40:Int).toNat * 10^(40:Int).toNat by decide),q _⟩
 · exact⟨_,_,SqL.of hb,aU (j:=0) rfl,(show(0:Int)<2147483647 by decide),q _⟩
end
inductive nr(vs:List V)(H:Hp)(Q:VK):Prop
 | mk:∀(lc b lk lt lh:Addr) (x y u3:Int) (cs:List Int) (ws ts hs:List Str),(vs=[.ref lc,.ref b,.ref lk,.ref lt,.ref lh])->(H lc=some (.lst (cs.map V.int)))->(lc≠b)->(cs.length<=90)->(H b=some (.lst [.int x,.int y,.int u3]))->(Env H b lk lt lh ws ts hs)->(∀(l:Addr) (H':Hp) (ys:List V) (ps:List (Int × Sy)) (x' y' u3:Int),Kp [b] H H'->H l=none->H' l=some (.lst ys)->PrL H' ys ps->ps.length=cs.length->(∀q∈ps,dS ws ts hs q.2)->H' b=some (.lst [.int x',.int y',.int u3])->Q (.ref l) H')->nr vs H Q
def rD:Sp:=fun vs H Q _=>nr vs H Q
def Kp.drop(hl:H l=none)(k:Kp [b,l] H H1):Kp [b] H H1:=⟨fun c o hc hco=>k.but c o (by
 simp only[aE,ai,cF,L6];exact⟨fun z=>hc (by rw[z];exact ag.mpr rfl),fun z=>by rw[z,hl] at hco;cases hco⟩) hco,k.tups⟩
def Gz{a:Addr}(h:a≠b)(h':a≠l):a∉[b,l]:=by
 simp only[aE,ai,cF,L6];exact⟨h,h'⟩
section
def scNumbered:bj ["_law_cells","_law_bag","_law_kin","_law_ties","_law_things_here","_law_pairs","_law_number","_law_cell_here"] Hb (aJ oK):=gy
def yF(F:Fun K "_law_numbered" "_law_numbered" oK f fd)(Gsr:Cl P w K mg base 1 "_law_start" CJ vJ)(Gdr:Cl P w K mg base 1 "_law_draw" yk oz)(Gsy:Cl P w K mg base 5 "_law_saying" Hc xR):bW P w K mg base eW 6 f fd Hb rD:=by
 refine F.o scNumbered fun cdv A outer s H vs Q E hr h=> ?_;obtain⟨lc,b,lk,lt,lh,x,y,u3,cs,ws,ts,hs,rfl,hc,ncb,hz,hb,en,q⟩:=h;refine⟨_,aZ (fz 5 scNumbered.nd (bV cz)) (aZ (fz 6 scNumbered.nd av) (aZ (jR (bS aA) (e_ 7 scNumbered.nd) (aZ (jo (dF Gsr hr (fg bf gN)) (oP bf av jH)) (aZ (fz 6 scNumbered.nd (bh hV (bh hV dN av) (dF Gdr hr (fg bf av)))) (hG (bA (eI bN (dF Gdr hr (fg bf av)) av) (aV (fz 6 scNumbered.nd (bh hV dN (bh de gN (bh wB av av))))) aQ) (aV (be (yy dH (cX (fg dN (dF Gsy hr (iU bf bH bU bX))))))))))) (aV (cI dH)))),?_⟩;have cpow:K9 10 20:=⟨by decide,by decide,by decide⟩;refine⟨ay _,fun l hl=> ?_⟩;have s1:=aj hl (.lst []);have nlb:l≠b:=fun z=>by rw[z,hb] at hl;cases hl
 have ncl:=br hc hl;refine⟨⟨_,SqL.of (s1 _ _ hc)⟩,bR (xs:=cs.map V.int) (fun i σ H'=>(∃(n:Int) (o:Option V),σ=[some (.ref lc),some (.ref b),some (.ref lk),some (.ref lt),some (.ref lh),some (.ref l),some (.int n),o])/\Kp [b,l] H H'/\(∃x' y' u3,H' b=some (.lst [.int x',.int y',.int u3]))/\∃ys ps,H' l=some (.lst ys)/\PrL H' ys ps/\ps.length=i/\(∀q∈ps,dS ws ts hs q.2))
  ⟨⟨_,_,rfl⟩,.of s1,⟨_,_,_,s1 _ _ hb⟩,[],[],aa,.nil,rfl,fun _ h=>(ai h).elim⟩ ?_ ?_ ?_⟩
 · rintro i σ H' hi ⟨_,k,_⟩;exact SqL.of (k.but _ _ (Gz ncb ncl) hc)
 · rintro i v σ H' hx ⟨⟨n,o,rfl⟩,k,⟨x',y',u3,b'⟩,ys,ps,el,pr,lps,dps⟩;have hi:i<cs.length:=by have:=(aO.mp hx).1;rwa [ao] at this
   obtain⟨c,rfl⟩:∃c:Int,v= .int c:=by
    obtain⟨c,_,e⟩:=bO.mp (ak hx);exact⟨c,e.symm⟩
   refine⟨b,x',c,_,rfl,b',fun xr=> ?_⟩;refine⟨b,_,0,0,rfl,rfl,b',HN _,?_⟩;have kb:Kp [b,l] H (upd H' b (.lst [.int xr,.int y',.int u3])):=k.trans (Kp.lst (by simp) b');have el2:upd H' b (.lst [.int xr,.int y',.int u3]) l=some (.lst ys):=by rw[aB nlb];exact el
   have b2:upd H' b (.lst [.int xr,.int y',.int u3]) b=some (.lst [.int xr,.int y',.int u3]):=aa;have pr2:=PrL.mono (Kp.lst (L:=[b]) (o:= .lst [.int xr,.int y',.int u3]) (by simp) b').tups pr;show zH _ _ _ _ (upd H' b (.lst [.int xr,.int y',.int u3]));generalize upd H' b (.lst [.int xr,.int y',.int u3])=H2 at kb el2 b2 pr2⊢;refine⟨b,xr,3,[.int y',.int u3],rfl,b2,by decide,fun x3 r hr0 _=> ?_⟩;obtain⟨k3,b3⟩:=Gq x3 b2;generalize upd H2 b (.lst [.int x3,.int y',.int u3])=H3 at k3 b3⊢;refine⟨fun σ H'=>∃(n' x4:Int),σ=[some (.ref lc),some (.ref b),some (.ref lk),some (.ref lt),some (.ref lh),some (.ref l),some (.int n'),some (.int c)]/\Kp [b] H2 H'/\H' b=some (.lst [.int x4,.int y',.int u3]),?_,?_⟩
   · refine⟨b,x3,12,[.int y',.int u3],rfl,b3,by decide,fun x4 r' _ _=> ?_⟩;obtain⟨k4,b4⟩:=Gq x4 b3;generalize upd H3 b (.lst [.int x4,.int y',.int u3])=H4 at k4 b4⊢;refine(fS (fun _=> ?_) (fun _=> ?_))
     · exact⟨cpow,(show(0:Int)<10^(20:Int).toNat by decide),_,x4,rfl,k3.trans k4,b4⟩
     · exact⟨_,x4,rfl,k3.trans k4,b4⟩
   rintro σ H4 ⟨n',x4,rfl,k4,b4⟩;have nlb1:l∉[b]:=di nlb;have el4:=k4.but _ _ nlb1 el2;have en4:=(en.kp (kb.drop hl)).kp k4;refine⟨.inl ⟨rfl,_,SqL.of el4⟩,b,lk,lt,lh,x4,y',u3,ws,ts,hs,rfl,b4,en4,fun v H5 sy x5 y5 u5 k5 b5 is ds=> ?_⟩;have el5:=k5.but _ _ nlb1 el4;refine⟨bC (by show 2<=1000;decide),fun t ht=> ?_⟩;have st:=aj ht (.tup [.int n',v]);have el6:=st _ _ el5;have lys:ys.length=i:=by rw[aX pr];exact lps
   have k46:Kp [b,l] H2 (upd H5 t (.tup [.int n',v])):=((k4.trans k5).trans (.of st)).mono (by simp);have k67:Kp [b,l] (upd H5 t (.tup [.int n',v])) (upd (upd H5 t (.tup [.int n',v])) l (.lst (ys++[.ref t]))):=Kp.lst (by simp) el6;have pr6:PrL (upd (upd H5 t (.tup [.int n',v])) l (.lst (ys++[.ref t]))) (ys++[.ref t]) (ps++[(n',sy)]):=by
    refine sA (PrL.mono (k46.trans k67).tups pr2) (.cons ?_ .nil);exact⟨t,v,rfl,k67.tups _ _ aa,IsSy.mono (st.tups.trans k67.tups) is⟩
   refine⟨ys,el6,bL (by lia),⟨_,_,rfl⟩,(kb.trans k46).trans k67,⟨x5,y5,u5,by rw[aB (bG nlb)];exact st _ _ b5⟩,_,_,aa,pr6,by rw[ah,lps];rfl,fun q hq=> ?_⟩;rcases aw.mp hq with hq | hq
   · exact dps q hq
   · rw[ag.mp hq];exact ds
 · rintro σ H' ⟨⟨n,o,rfl⟩,k,⟨x',y',u3,b'⟩,ys,ps,el,pr,lps,dps⟩;rw[ao] at lps;exact(q l H' ys ps x' y' u3 (k.drop hl) hl el pr lps dps b')
end
def iY(K:Frag):kitOne K (.type "tuple") (.type "tuple")=some true:=by first | rfl | decide | with_unfolding_all rfl
def Az(K:Frag):kitOne K (.type "str") (.type "tuple")=some false:=by first | rfl | decide | with_unfolding_all rfl
def Fw(K:Frag):kitOne K (.type "tuple") (.type "str")=some false:=by first | rfl | decide | with_unfolding_all rfl
def Fx(K:Frag):kitOne K (.type "list") (.type "list")=some true:=by first | rfl | decide | with_unfolding_all rfl
def L7:((([("_law_low":Str)]:List Str)++[]):List Str).Nodup:=by decide+kernel
inductive rk(vs:List V)(H:Hp)(Q:VK):Prop
 | mk:∀i:Int,(vs=[.int i])->(Q (.bl true) H)->rk vs H Q
def xK:Sp:=fun vs H Q _=>rk vs H Q
inductive rG(n:Nat)(vs:List V)(H:Hp)(Q:VK):Prop
 | mk:∀v k,(vs=[v])->(IsK H k v)->(k.dep<n)->(Q (.bl true) H)->rG n vs H Q
def jC(n:Nat):Sp:=fun vs H Q _=>rG n vs H Q
inductive uI(vs:List V)(H:Hp)(Q:VK):Prop
 | mk:∀v f,(vs=[v])->(IsF H f v)->(f.lo 25)->(Q (.bl true) H)->uI vs H Q
def Bq:Sp:=fun vs H Q _=>uI vs H Q
inductive Bv(vs:List V)(H:Hp)(Q:VK):Prop
 | mk:∀l xs ss,(vs=[.ref l])->(H l=some (.lst xs))->(StL [] H xs ss)->((∀s∈ss,s.f.lo 25/\s.fr.length<=2))->(∀H',Same H H'->Q (.bl true) H')->Bv vs H Q
def IG:Sp:=fun vs H Q _=>Bv vs H Q
section
def GO:bj nI nI (aJ zQ):=gy
def CP(F:Fun K "_law_whole" "_law_whole" zQ f fd)(mi:mg "isinstance"=none)(mint:mg "int"=none)(mb:mg "bool"=none):bW P w K mg base eW 1 f fd nI xK:=by
 refine F.o GO fun cdv A outer s H vs Q E hr h=> ?_;obtain⟨i,rfl,q⟩:=h;refine⟨_,aV (cI (gA (xy mi mint PyProof.Rows.boot_int aA) (iT (JN (xy mi mb PyProof.Rows.boot_bool aA))))),?_⟩;exact⟨_,_,_,true,rfl,TyOf.int i,Kn K,⟨_,_,_,false,rfl,TyOf.int i,Ko K,q⟩⟩
def Ec:bj je je (aJ qB):=gy
def CZ(F:Fun K "_law_kindly" "_law_kindly" qB f fd)(Gkd:Cl P w K mg base k0 "_law_kindly" je (jC n))(mi:mg "isinstance"=none)(ms:mg "str"=none)(mt:mg "tuple"=none)(ml:mg "len"=none):bW P w K mg base eW (k0+1) f fd je (jC (n+1)):=by
 refine F.o Ec fun cdv A outer s H vs Q E hr h=> ?_;obtain⟨v,k,rfl,ik,hd,q⟩:=h;have kGkd:=F.kp;refine⟨_,aZ (bA (cw (xy mi ms cv aA)) (aV (cI dq)) aQ)
  (aZ (bA (PW.pt (jf (dO (cw (xy mi mt eK aA))) (jm (eI EA (tW ml aA) av)))) (aV (cI dq)) aQ)
  (aZ (bA (eI bN (dj aA) aS) (aV (cI (gA (xy mi ms cv (dj aA)) (iT (dF Gkd hr (eP (dj aA))))))) aQ)
  (aV (cI (gA (JK bN (dj aA) aS) (gA (dF Gkd hr (eP (dj aA))) (iT (dF Gkd hr (eP (dj aA)))))))))),?_⟩
 cases k with
 | nm x=>
   cases ik;exact⟨_,_,_,true,rfl,TyOf.str x,eh K,q⟩
 | two a b=>
   obtain⟨p,x,y,rfl,hp,ia,ib⟩:=ik;have hd':1+max a.dep b.dep<n+1:=hd;refine⟨_,_,_,false,rfl,TyOf.tup hp,Fw K,⟨_,_,_,true,rfl,TyOf.tup hp,iY K,⟨p,_,rfl,.inr (SqT.of hp),?_⟩⟩⟩;refine⟨_,_,SqT.of hp,rfl,?_⟩;refine⟨_,_,SqT.of hp,rfl,?_⟩;exact⟨_,_,SqT.of hp,rfl,x,a,rfl,ia,by lia,⟨_,_,SqT.of hp,rfl,y,b,rfl,ib,by lia,q⟩⟩
 | som r c=>
   obtain⟨p,y,rfl,hp,ic⟩:=ik;have hd':1+c.dep<n+1:=hd;refine⟨_,_,_,false,rfl,TyOf.tup hp,Fw K,⟨_,_,_,true,rfl,TyOf.tup hp,iY K,⟨p,_,rfl,.inr (SqT.of hp),?_⟩⟩⟩;refine⟨_,_,SqT.of hp,rfl,?_⟩;exact⟨_,_,SqT.of hp,rfl,_,_,_,true,rfl,TyOf.str _,eh K,⟨_,_,SqT.of hp,rfl,y,c,rfl,ic,by lia,q⟩⟩
def yV:bW P w K mg base eW 1 f fd je (jC 0):=by
 have no:∀vs H Q E,¬ jC 0 vs H Q E:=fun vs H Q E h=>by
  obtain⟨v,k,_,_,h,_⟩:=h
  lia
 exact⟨fun vs H Q E h=>absurd h (no vs H Q E),fun A outer s H args us vs Q E _ _ _ _ h=>absurd h (no vs H Q E)⟩
theorem sQ(A:Fq K mg "_law_kindly" qB je)(mi:mg "isinstance"=none)(ms:mg "str"=none)(mt:mg "tuple"=none)(ml:mg "len"=none):∀n:Nat,Cl P w K mg base (n+1) "_law_kindly" je (jC n)
 | 0=>A.cl fun _=>yV
 | n+1=>A.cl fun F=>CZ F (sQ A mi ms mt ml n) mi ms mt ml
def GV:bj yq yq (aJ zZ):=gy
def EO(F:Fun K "_law_is_claim" "_law_is_claim" zZ f fd)(mi:mg "isinstance"=none)(ms:mg "str"=none)(mt:mg "tuple"=none)(ml:mg "len"=none)(Gkd:Cl P w K mg base 27 "_law_kindly" je (jC 26)):bW P w K mg base eW 28 f fd yq Bq:=by
 refine F.o GV fun cdv A outer s H vs Q E hr h=> ?_;obtain⟨v,f,rfl,iff,lo,q⟩:=h;refine⟨_,aZ (bA (PW.pt (jf (dO (cw (xy mi mt eK aA))) (jf (eI kM (tW ml aA) av) (jm (dO (cw (dF Gkd hr (eP (dj aA))))))))) (aV (cI dq)) aQ) (aZ (bA (eI bN (dj aA) aS) (aV (cI (gA (JK bN (tW ml aA) av) (iT (dF Gkd hr (eP (dj aA))))))) aQ) (aV (cI (gA (JK bN (dj aA) aS) (gA (JK bN (tW ml aA) av) (gA (xy mi ms cv (dj aA)) (iT (dF Gkd hr (eP (dj aA)))))))))),?_⟩;cases f with
 | is x k=>
   obtain⟨p,a,b,rfl,hp,ia,ib⟩:=iff;obtain⟨l1,l2⟩:=lo;refine⟨_,_,_,true,rfl,TyOf.tup hp,iY K,⟨p,_,rfl,.inr (SqT.of hp),⟨_,_,SqT.of hp,rfl,a,x,rfl,ia,by lia,?_⟩⟩⟩;refine⟨_,_,SqT.of hp,rfl,?_⟩;exact⟨p,_,rfl,.inr (SqT.of hp),⟨_,_,SqT.of hp,rfl,b,k,rfl,ib,by lia,q⟩⟩
 | has x r y=>
   obtain⟨p,a,b,rfl,hp,ia,ib⟩:=iff;obtain⟨l1,l2⟩:=lo;refine⟨_,_,_,true,rfl,TyOf.tup hp,iY K,⟨p,_,rfl,.inr (SqT.of hp),⟨_,_,SqT.of hp,rfl,a,x,rfl,ia,by lia,?_⟩⟩⟩;refine⟨_,_,SqT.of hp,rfl,?_⟩;refine⟨_,_,SqT.of hp,rfl,?_⟩;exact⟨p,_,rfl,.inr (SqT.of hp),⟨_,_,SqT.of hp,rfl,_,_,_,true,rfl,TyOf.str _,eh K,⟨_,_,SqT.of hp,rfl,b,y,rfl,ib,by lia,q⟩⟩⟩
def scAre:bj ["_law_found","_law_step"] nI (aJ JC):=gy
def J4(F:Fun K "_law_are_steps" "_law_are_steps" JC f fd)(mi:mg "isinstance"=none)(ms:mg "str"=none)(mt:mg "tuple"=none)(mls:mg "list"=none)(ml:mg "len"=none)(ma:mg "all"=none)(Gcl:Cl P w K mg base 28 "_law_is_claim" yq Bq)(Gwh:Cl P w K mg base 1 "_law_whole" nI xK):bW P w K mg base eW 29 f fd nI IG:=by
 refine F.o scAre fun cdv A outer s H vs Q E hr h=> ?_;obtain⟨l,xs,ss,rfl,hl,hst,oks,q⟩:=h;refine⟨_,aZ (bA (dO (cw (xy mi mls bF aA))) (aV (cI dq)) aQ) (aZ (jR (bS aA) (e_ 1 scAre.nd) (aZ (bA (PW.pt (jf (dO (cw (xy mi mt eK bf))) (jf (eI EA (tW ml bf) av) (jm (dO (cw (dF Gcl hr (eP (dj bf))))))))) (aV (cI dq)) aQ) (aZ (bA (PW.pt (jf (dO (cw (xy mi ms cv (dj bf)))) (jm (dO (cw (xy mi mls bF (dj bf))))))) (aV (cI dq)) aQ) (aZ (bA (dO (yr (dB (u_ rfl) rfl ma M4 (eP (lF ["_law_low"] [] [] rfl (bS (dj bf)) (fun _ _ _=>e_ 0 L7) (fun _ _ _=>gW) (fun _ _ _=>(dF Gwh hr (eP aA)))))) (fun _=>rfl))) (aV (cI dq)) aQ) (aV (bA (PW.pt (fq (eI wC (dj bf) fL) (fm (dO (cw (dF Gwh hr (eP (dj bf)))))))) (aV (cI dq)) aQ)))))) (aV (cI dq))),?_⟩;refine⟨_,_,_,true,rfl,TyOf.lst hl,Fx K,?_⟩;refine⟨⟨_,SqL.of hl⟩,bR (xs:=xs) (fun i σ H'=>(∃o,σ=[some (.ref l),o])/\Same H H') ⟨⟨_,rfl⟩,Same.refl _⟩ ?_ ?_ ?_⟩
 · rintro i σ H' hi ⟨_,sm⟩;exact SqL.of (sm _ _ hl)
 · rintro i x σ H' hx ⟨⟨o,rfl⟩,sm⟩;obtain⟨st,hs,p,pf,vf,rfl,hp,ig,hpf,_⟩:=bT (StL.keep (.of sm) hst) hx;obtain⟨lo,lf⟩:=oks st (ak hs);refine⟨_,_,_,true,rfl,TyOf.tup hp,iY K,⟨p,_,rfl,.inr (SqT.of hp),⟨_,_,SqT.of hp,rfl,vf,st.f,rfl,ig,lo,?_⟩⟩⟩;refine⟨_,_,SqT.of hp,rfl,_,_,_,true,rfl,TyOf.str _,eh K,⟨_,_,SqT.of hp,rfl,_,_,_,true,rfl,TyOf.lst hpf,Fx K,?_⟩⟩;refine⟨_,_,SqT.of hp,rfl,⟨_,SqL.of hpf⟩,fun D hD=> ?_⟩;have lm:(st.fr.map V.int).length=st.fr.length:=ao ..;refine jr st.fr.length (fun k σ H3=>(∃o,σ=[o])/\Same H' H3/\H3 D=some (.lst ((List.replicate k true).map V.bl))) ⟨⟨_,rfl⟩,aj hD _,aa⟩ ?_ ?_
   · rintro σ H3 ⟨_,s3,e3⟩;refine⟨⟨_,SqL.of (s3 _ _ hpf),by rw[lm];exact ar _⟩,?_⟩;refine⟨D,_,rfl,SqL.of e3,_,rfl,?_⟩;rw[show(List.replicate st.fr.length true).all id=true by simp];refine⟨_,_,SqT.of (s3 _ _ hp),rfl,?_⟩;cases en:st.n with
     | none=>
       refine⟨rfl,?_⟩;rw[show(!decide (qc none=V.non))=false by simp[qc]];exact(⟨⟨_,rfl⟩,sm.trans s3⟩)
     | some n=>
       refine⟨rfl,?_⟩;rw[show(!decide (qc (some n)=V.non))=true by simp[qc]];exact⟨_,_,SqT.of (s3 _ _ hp),rfl,n,by rw[en];rfl,⟨⟨_,rfl⟩,sm.trans s3⟩⟩
   · rintro k σ H3 hk ⟨⟨o,rfl⟩,s3,e3⟩;have hpf3:=s3 _ _ hpf;refine⟨⟨_,_,SqL.of hpf3,aN (by rw[lm];exact hk)⟩,?_⟩;rintro x H4 ⟨rfl,hx1⟩;have hx2:=hx1 _ (SqL.of hpf3);rw[bb] at hx2;obtain⟨y,hy,rfl⟩:=cj.mp hx2;refine⟨y,rfl,_,e3,bL (by rw[ao,fk];lia),⟨_,rfl⟩,d9 s3 hD,?_⟩;rw[aa,List.replicate_succ',bx]
     rfl
 · rintro σ H' ⟨⟨o,rfl⟩,sm⟩;exact q H' sm
end
inductive uJ(vs:List V)(H:Hp)(Q:VK):Prop
 | mk:∀(b lk lt:Addr) (x y u3:Int) (ws ts:List Str) (n:Nat),(vs=[.ref b,.ref lk,.ref lt,.int (n:Int)])->(H b=some (.lst [.int x,.int y,.int u3]))->(H lk=some (.lst (ws.map V.str)))->(H lt=some (.lst (ts.map V.str)))->(lk≠b)->(lt≠b)->(0<ws.length)->(ws.length<=100)->(0<ts.length)->(ts.length<=100)->(n<=20)->(∀(v:V) (H':Hp) (k:Kd) (x' y':Int),Kp [b] H H'->H' b=some (.lst [.int x',.int y',.int u3])->IsK H' k v->k.nt<=n->k.dep<=n->oa ws ts k->Q v H')->uJ vs H Q
def Br:Sp:=fun vs H Q _=>uJ vs H Q
section
def scChain:bj ["_law_bag","_law_kin","_law_ties","_law_long","_law_made","_law_k","_law_way"] Hd (aJ z_):=gy
def ER(F:Fun K "_law_chain" "_law_chain" z_ f fd)(ml:mg "len"=none)(mr:mg "range"=none)(Gdr:Cl P w K mg base 1 "_law_draw" yk oz):bW P w K mg base eW 2 f fd Hd Br:=by
 refine F.o scChain fun cdv A outer s H vs Q E hr h=> ?_;obtain⟨b,lk,lt,x,y,u3,ws,ts,n,rfl,hb,hk,ht,nk,nt,w0,w1,t0,t1,hn,q⟩:=h;refine⟨_,aZ (fz 4 scChain.nd (j7 cm bf (dF Gdr hr (fg aA (tW ml bf))))) (aZ (jR (iK rfl mr (eP bU)) (e_ 5 scChain.nd) (aZ (fz 6 scChain.nd (dF Gdr hr (fg aA av))) (aV (bA (eI kM dN av) (aV (fz 4 scChain.nd (cX (gc aS (j7 cm bH (dF Gdr hr (fg aA (tW ml bH)))) bX)))) (aV (bA (eI bN dN av) (aV (fz 4 scChain.nd (cX (gc aS (j7 cm bf (dF Gdr hr (fg aA (tW ml bf)))) bX)))) (aV (fz 4 scChain.nd (cX (gc aS bX (j7 cm bf (dF Gdr hr (fg aA (tW ml bf)))))))))))))) (aV (cI bX))),?_⟩;have bd:∀{H1:Hp} {z:List Str} {l:Addr},H1 l=some (.lst (z.map V.str))->SqL K H1 l (z.map V.str):=fun h=>SqL.of h;refine⟨lk,_,rfl,.inl (SqL.of hk),b,x,_,[.int y,.int u3],rfl,hb,by rw[ao];lia,fun x1 r r0 rm=> ?_⟩;obtain⟨k1,b1⟩:=Gq x1 hb;generalize upd H b (.lst [.int x1,.int y,.int u3])=H1 at k1 b1⊢;obtain⟨z,hz,ez⟩:=gT (ws:=ws) r0 (by rw[ao] at rm;exact rm);refine⟨_,_,SqL.of (k1.but _ _ (di nk) hk),ez,?_⟩;refine gn ?_;refine⟨_,rfl,by lia,by lia,?_⟩;refine uW (fun i σ H'=>∃(v:V) (k:Kd) (x' y':Int) (o5 o6:Option V),σ=[some (.ref b),some (.ref lk),some (.ref lt),some (.int (n:Int)),some v,o5,o6]/\Kp [b] H H'/\H' b=some (.lst [.int x',.int y',.int u3])/\IsK H' k v/\k.nt<=i/\k.dep<=i/\oa ws ts k) ⟨.str z,.nm z,x1,y,none,none,rfl,k1,b1,rfl,ar _,ar _,.inl hz⟩ ?_ ?_
 · rintro i σ H2 hi ⟨v,k,x',y',o5,o6,rfl,k2,b2,ik,nt',dp,nm⟩;refine gn ?_;refine⟨b,x',4,[.int y',.int u3],rfl,b2,by decide,fun x3 way _ _=> ?_⟩;obtain⟨k3,b3⟩:=Gq x3 b2;generalize upd H2 b (.lst [.int x3,.int y',.int u3])=H3 at k3 b3⊢;have k03:=k2.trans k3;have ik3:=IsK.mono k3.tups ik;refine gn ?_;refine(fS (fun _=> ?_) (fun _=> ?_))
   · refine⟨lt,_,rfl,.inl (SqL.of (k03.but _ _ (di nt) ht)),b,x3,_,[.int y',.int u3],rfl,b3,by rw[ao];lia,fun x4 r r0 rm=> ?_⟩;obtain⟨k4,b4⟩:=Gq x4 b3;generalize upd H3 b (.lst [.int x4,.int y',.int u3])=H4 at k4 b4⊢;obtain⟨u,hu,eu⟩:=gT (ws:=ts) r0 (by rw[ao] at rm;exact rm);refine⟨_,_,SqL.of ((k03.trans k4).but _ _ (di nt) ht),eu,by show 3<=sizeLine;decide,fun t ht'=> ?_⟩;have st:=aj ht' (.tup [.str "some",.str u,v]);exact⟨.ref t,.som u k,x4,y',_,_,rfl,(k03.trans k4).trans (.of st),st _ _ b4,⟨t,v,rfl,aa,IsK.mono (k4.tups.trans st.tups) ik3⟩,by show 1+k.nt<=_;lia,by show 1+k.dep<=_;lia,hu,nm⟩
   · refine(fS (fun _=> ?_) (fun _=> ?_))
     · refine⟨lk,_,rfl,.inl (SqL.of (k03.but _ _ (di nk) hk)),b,x3,_,[.int y',.int u3],rfl,b3,by rw[ao];lia,fun x4 r r0 rm=> ?_⟩;obtain⟨k4,b4⟩:=Gq x4 b3;generalize upd H3 b (.lst [.int x4,.int y',.int u3])=H4 at k4 b4⊢;obtain⟨u,hu,eu⟩:=gT (ws:=ws) r0 (by rw[ao] at rm;exact rm);refine⟨_,_,SqL.of ((k03.trans k4).but _ _ (di nk) hk),eu,by show 3<=sizeLine;decide,fun t ht'=> ?_⟩;have st:=aj ht' (.tup [.str "both",.str u,v]);exact⟨.ref t,.two (.nm u) k,x4,y',_,_,rfl,(k03.trans k4).trans (.of st),st _ _ b4,⟨t,_,v,rfl,aa,rfl,IsK.mono (k4.tups.trans st.tups) ik3⟩,by show 1+0+k.nt<=_;lia,by show 1+max 0 k.dep<=_;lia,.inl hu,nm⟩
     · refine⟨lk,_,rfl,.inl (SqL.of (k03.but _ _ (di nk) hk)),b,x3,_,[.int y',.int u3],rfl,b3,by rw[ao];lia,fun x4 r r0 rm=> ?_⟩;obtain⟨k4,b4⟩:=Gq x4 b3;generalize upd H3 b (.lst [.int x4,.int y',.int u3])=H4 at k4 b4⊢;obtain⟨u,hu,eu⟩:=gT (ws:=ws) r0 (by rw[ao] at rm;exact rm);refine⟨_,_,SqL.of ((k03.trans k4).but _ _ (di nk) hk),eu,by show 3<=sizeLine;decide,fun t ht'=> ?_⟩;have st:=aj ht' (.tup [.str "both",v,.str u]);exact⟨.ref t,.two k (.nm u),x4,y',_,_,rfl,(k03.trans k4).trans (.of st),st _ _ b4,⟨t,v,_,rfl,aa,IsK.mono (k4.tups.trans st.tups) ik3,rfl⟩,by show 1+k.nt+0<=_;lia,by show 1+max k.dep 0<=_;lia,nm,.inl hu⟩
 · rintro σ H2 ⟨v,k,x',y',o5,o6,rfl,k2,b2,ik,nt',dp,nm⟩;rw[cB] at nt' dp;exact(q v H2 k x' y' k2 b2 ik nt' dp nm)
end
theorem Her.imp(h:∀k,P k->P' k):∀{k:Kd},Her P k->Her P' k
 | .nm _,a=>h _ a
 | .two _ _,a=>⟨h _ a.1,Her.imp h a.2.1,Her.imp h a.2.2⟩
 | .som _ _,a=>⟨h _ a.1,Her.imp h a.2⟩
theorem pV:∀(k:Kd),k.tx.tt
 | .nm _=>trivial
 | .two a b=>⟨trivial,pV a,pV b,trivial⟩
 | .som _ c=>⟨trivial,trivial,pV c,trivial⟩
theorem kR:∀(k:Kd),k.tx.py.depth=k.dep
 | .nm _=>rfl
 | .two a b=>by
   show max 0 (max a.tx.py.depth (max b.tx.py.depth 0))+1=1+max a.dep b.dep;rw[kR a,kR b];lia
 | .som _ c=>by
   show max 0 (max 0 (max c.tx.py.depth 0))+1=1+c.dep;rw[kR c];lia
def GW(h:ju k):(rpK k).length<=30 * k.sz:=by
 rw[nQ];unfold rpK;rw[fV k h];exact rZ k h
def wc(ik:IsK H k v)(ok:ju k)(hd:k.dep<=26)(hs:k.sz<=1000)(q:Q (.str (rpK k)) H):gz [v] H Q:=⟨v,k.tx,rfl,ik.xa,pV k,by rw[kR];lia,by have:=GW ok;unfold rpK at this;exact au this (au (Oz 30 hs) (by decide)),q⟩
def KnAt(kn:Kd->Prop)(H:Hp)(kvs:List (Key × V)):Prop:=∀e∈kvs,∃k,e.1= .inr (rpK k)/\IsK H k e.2/\kn k
def mem_putK{κ:Type}[DecidableEq κ]{kvs:List (κ × V)}{k:κ}{v:V}{e:κ × V}(h:e∈bZ kvs k v):e∈kvs\/e=(k,v):=by
 unfold bZ at h
 split at h
 · obtain⟨x,hx,rfl⟩:=bO.mp h
   split
   · rename_i c;rw[c];exact .inr rfl
   · exact .inl hx
 · exact(aw.mp h).imp id ag.mp
def KnAt.mono(t:Tups H H')(h:KnAt kn H kvs):KnAt kn H' kvs:=fun e he=>by
 obtain⟨k,a,b,c⟩:=h e he;exact⟨k,a,IsK.mono t b,c⟩
def KnAt.put(h:KnAt kn H kvs)(ik:IsK H k v)(hk:kn k):KnAt kn H (bZ kvs (.inr (rpK k)) v):=fun e he=>by
 rcases mem_putK he with he | rfl
 · exact h e he
 · exact⟨k,rfl,ik,hk⟩
inductive rK(n:Nat)(vs:List V)(H:Hp)(Q:VK):Prop
 | mk:∀v d k kvs kn,(vs=[v,.ref d])->(IsK H k v)->(ju k)->(k.dep<n)->(n<=26)->(k.sz<=1000)->(H d=some (.dK kvs))->(kvs.length+k.sz<=2500000)->Her kn k->KnAt kn H kvs->(∀H' kvs',(∀b o,H b=some o->b≠d->H' b=some o)->H' d=some (.dK kvs')->kvs'.length<=kvs.length+k.sz->KnAt kn H' kvs'->Q .non H')->rK n vs H Q
def jD(n:Nat):Sp:=fun vs H Q _=>rK n vs H Q
section
def Ee:bj nH nH (aJ qC):=gy
def C2(F:Fun K "_law_inside" "_law_inside" qC f fd)(Gis:Cl P w K mg base k0 "_law_inside" nH (jD n))(mrp:mg "repr"=none)(mi:mg "isinstance"=none)(mt:mg "tuple"=none):bW P w K mg base eW (k0+1) f fd nH (jD (n+1)):=by
 refine F.o Ee fun cdv A outer s H vs Q E hr h=> ?_;obtain⟨v,d,k,kvs,kn,rfl,ik,ok,hd,hn,hs,ed,hl,hk,ka,q⟩:=h;have kGis:=F.kp;have hu:=fh hr;refine⟨_,aZ (dI hu bf (dB (fO hr.gd hr.units) rfl mrp cG (eP aA)) aA rfl)
  (aV (bA (cw (xy mi mt eK aA)) (aZ (be (dF Gis hr (fg (dj aA) bf))) (aV (bA (eI bN (dj aA) aS) (aV (be (dF Gis hr (fg (dj aA) bf)))) aQ))) aQ)),?_⟩
 have put:Tups H (upd H d (.dK (bZ kvs (.inr (rpK k)) v))):=fun b xs e=>by rw[aB (fun z=>by rw[z,ed] at e;cases e)];exact e
 have kp:∀b o,H b=some o->b≠d->upd H d (.dK (bZ kvs (.inr (rpK k)) v)) b=some o:=fun b o e n=>by rw[aB n];exact e
 have lp:=dt kvs (.inr (rpK k)) v;dsimp only[iS];refine wc ik ok (by lia) hs ?_;refine⟨_,.inl ⟨kvs,.inr (rpK k),ed,rfl,bz (show kvs.length<=2500000 by lia) (by decide),rfl⟩,?_⟩;have e1:upd H d (.dK (bZ kvs (.inr (rpK k)) v)) d=some (.dK (bZ kvs (.inr (rpK k)) v)):=aa;have ik1:=IsK.mono put ik;have k1:KnAt kn (upd H d (.dK (bZ kvs (.inr (rpK k)) v))) (bZ kvs (.inr (rpK k)) v):=(ka.put ik hk.self).mono put;generalize bZ kvs (.inr (rpK k)) v=kv1 at put kp lp e1 ik1 k1⊢;generalize upd H d (.dK kv1)=H1 at put kp e1 ik1 k1⊢;cases k with
 | nm x=>
   cases ik1;exact⟨_,_,_,false,rfl,TyOf.str x,Az K,(q H1 kv1 kp e1 (by simp only[Kd.sz];lia) k1)⟩
 | two a b=>
   obtain⟨p,x,y,rfl,hp,ia,ib⟩:=ik1;have hd':1+max a.dep b.dep<n+1:=hd;have hz:(Kd.two a b).sz=1+a.sz+b.sz:=rfl;refine⟨_,_,_,true,rfl,TyOf.tup hp,iY K,⟨_,_,SqT.of hp,rfl,?_⟩⟩;refine⟨y,d,b,kv1,kn,rfl,ib,ok.2,by lia,by lia,by lia,e1,by lia,hk.2.2,k1,fun H2 kv2 k2 e2 l2 h2=> ?_⟩;have nd:∀{c:Addr} {xs:List V},H1 c=some (.tup xs)->c≠d:=fun {c xs} e z=>by rw[z,e1] at e;cases e
   have t2:Tups H1 H2:=fun c xs e=>k2 c _ e (nd e);refine⟨_,_,SqT.of (t2 _ _ hp),rfl,?_⟩;refine⟨_,_,SqT.of (t2 _ _ hp),rfl,?_⟩;refine⟨x,d,a,kv2,kn,rfl,IsK.mono t2 ia,ok.1,by lia,by lia,by lia,e2,by lia,hk.2.1,h2,fun H3 kv3 k3 e3 l3 h3=> ?_⟩;exact q H3 kv3 (fun c o e n=>k3 c o (k2 c o (kp c o e n) n) n) e3 (by lia) h3
 | som r c=>
   obtain⟨p,y,rfl,hp,ic⟩:=ik1;have hd':1+c.dep<n+1:=hd;have hz:(Kd.som r c).sz=1+c.sz:=rfl;refine⟨_,_,_,true,rfl,TyOf.tup hp,iY K,⟨_,_,SqT.of hp,rfl,?_⟩⟩;refine⟨y,d,c,kv1,kn,rfl,ic,ok.2,by lia,by lia,by lia,e1,by lia,hk.2,k1,fun H2 kv2 k2 e2 l2 h2=> ?_⟩;have nd:∀{c:Addr} {xs:List V},H1 c=some (.tup xs)->c≠d:=fun {c xs} e z=>by rw[z,e1] at e;cases e
   have t2:Tups H1 H2:=fun c xs e=>k2 c _ e (nd e);refine⟨_,_,SqT.of (t2 _ _ hp),rfl,?_⟩;exact(q H2 kv2 (fun c o e n=>k2 c o (kp c o e n) n) e2 (by lia) h2)
def yZ:bW P w K mg base eW 1 f fd nH (jD 0):=by
 have no:∀vs H Q E,¬ jD 0 vs H Q E:=fun vs H Q E h=>by
  obtain⟨v,d,k,kvs,kn,_,_,_,h,_⟩:=h
  lia
 exact⟨fun vs H Q E h=>absurd h (no vs H Q E),fun A outer s H args us vs Q E _ _ _ _ h=>absurd h (no vs H Q E)⟩
theorem sV(A:Fq K mg "_law_inside" qC nH)(mrp:mg "repr"=none)(mi:mg "isinstance"=none)(mt:mg "tuple"=none):∀n:Nat,Cl P w K mg base (n+1) "_law_inside" nH (jD n)
 | 0=>A.cl fun _=>yZ
 | n+1=>A.cl fun F=>C2 F (sV A mrp mi mt n) mrp mi mt
end
inductive uD(vs:List V)(H:Hp)(Q:VK):Prop
 | mk:∀lp lf ys us ps fs kn,(vs=[.ref lp,.ref lf])->(H lp=some (.lst ys))->(PrL H ys ps)->(H lf=some (.lst us))->(KL H us fs)->((∀q∈ps,∀k∈q.2.parts,ju k/\k.dep<=25/\k.sz<=1000))->((∀k∈fs,ju k/\k.dep<=25/\k.sz<=1000))->(gH fs+jt ps<=2000000)->(∀q∈ps,∀k∈q.2.knK,Her kn k)->(∀k∈fs,Her kn k)->(∀d H' kvs,Same H H'->H d=none->H' d=some (.dK kvs)->KnAt kn H' kvs->Q (.ref d) H')->uD vs H Q
def Bp:Sp:=fun vs H Q _=>uD vs H Q
section
def scKnown:bj ["_law_pairs","_law_further","_law_known_here","_law_kind_here","_law_number","_law_saying_here"] BO (aJ zX):=gy
def EM(F:Fun K "_law_known" "_law_known" zX f fd)(Gis:Cl P w K mg base 27 "_law_inside" nH (jD 26)):bW P w K mg base eW 28 f fd BO Bp:=by
 refine F.o scKnown fun cdv A outer s0 H vs Q E hr h=> ?_;obtain⟨lp,lf,ys,us,ps,fs,kn,rfl,elp,hps,elf,hfs,gp,gf,hz,kp,kf,q⟩:=h;have hu:=fh hr;refine⟨_,aZ (fz 2 scKnown.nd cO)
  (aZ (jR (bS bf) (e_ 3 scKnown.nd) (aV (be (dF Gis hr (fg bU bH)))))
  (aZ (jR (bS aA) (eJ rfl (bw (e_ 4 scKnown.nd) (bw (e_ 5 scKnown.nd) dA))) (aZ (bA (PW.pt (jf (eI bN (dj dH) aS) (jm (eI bN (dj dH) aS)))) (aV (be (dF Gis hr (fg (dj dH) bH)))) aQ) (aV (bA (PW.pt (jf (eI bN (dj dH) aS) (jf (eI bN (dj dH) aS) (jm (eI bN (dj dH) aS))))) (aV (be (dF Gis hr (fg (dj dH) bH)))) aQ))))
  (aV (cI bH)))),?_⟩
 refine fun d hd=> ?_;refine gn ?_;have s1:=aj hd (.dK []);have step:∀{H1 H2:Hp},Same H H1->(∀b o,H1 b=some o->b≠d->H2 b=some o)->Same H H2:=fun a b c o e=>b c o (a c o e) (br e hd);have lps:ys.length=ps.length:=aX hps;have lfs:us.length=fs.length:=aX hfs;refine⟨⟨_,SqL.of (s1 _ _ elf)⟩,bR (xs:=us) (fun i σ H'=>∃(o3:Option V) (kvs:List (Key × V)),σ=[some (.ref lp),some (.ref lf),some (.ref d),o3,none,none]/\Same H H'/\H' d=some (.dK kvs)/\kvs.length<=gH (fs.take i)/\KnAt kn H' kvs) ⟨none,[],rfl,s1,aa,ay _,fun _ h=>(ai h).elim⟩ ?_ ?_ ?_⟩
 · rintro i σ H' _ ⟨o3,kvs,rfl,sm,_⟩;exact SqL.of (sm _ _ elf)
 · rintro i v σ H' hv ⟨o3,kvs,rfl,sm,ek,lk,hh⟩;obtain⟨k,hk,ik⟩:=KL.get hfs hv;obtain⟨g1,g2,g3⟩:=gf k (ak hk);have c3:gH (fs.take (i+1))=gH (fs.take i)+k.sz:=iO Kd.sz hk;have c4:gH (fs.take (i+1))<=gH fs:=iN Kd.sz fs (i+1);refine⟨v,d,k,kvs,kn,rfl,IsK.mono sm.tups ik,g1,by lia,by lia,g3,ek,by lia,kf k (ak hk),hh,fun H2 kv2 k2 e2 l2 h2=> ?_⟩;exact⟨_,kv2,rfl,step sm k2,e2,by lia,h2⟩
 rintro σ H' ⟨o3,kvs,rfl,sm,ek,lk,hh⟩;rw[lfs,bp] at lk;refine⟨⟨_,SqL.of (sm _ _ elp)⟩,bR (xs:=ys) (fun i σ H2=>∃(o4 o5:Option V) (kvs:List (Key × V)),σ=[some (.ref lp),some (.ref lf),some (.ref d),o3,o4,o5]/\Same H H2/\H2 d=some (.dK kvs)/\kvs.length<=gH fs+jt (ps.take i)/\KnAt kn H2 kvs) ⟨none,none,kvs,rfl,sm,ek,by lia,hh⟩ ?_ ?_ ?_⟩
 · rintro i σ H2 _ ⟨o4,o5,kv,rfl,s2,_⟩;exact SqL.of (s2 _ _ elp)
 · rintro i v σ H2 hv ⟨o4,o5,kv,rfl,s2,e2,l2,h2⟩;obtain⟨pq,hpq,t,vy,rfl,ht,hsy⟩:=bT hps hv;have gq:=gp pq (ak hpq);have kq:=kp pq (ak hpq);have c3:jt (ps.take (i+1))=jt (ps.take i)+pq.2.szs:=iO (fun q:Int × Sy=>q.2.szs) hpq;have c4:jt (ps.take (i+1))<=jt ps:=iN (fun q:Int × Sy=>q.2.szs) ps (i+1);have tk:ps.take (i+1)=ps.take i++[pq]:=by rw[bK,hpq];rfl
   rw[c3];obtain⟨n,s⟩:=pq;replace c3:jt (ps.take (i+1))=jt (ps.take i)+s.szs:=c3;obtain⟨pv,vs,rfl,hpv,hL⟩:=IsSy.mono s2.tups hsy;refine⟨_,SqT.of (s2 _ _ ht),rfl,?_⟩;have fin:∀{H3:Hp} {kv3:List (Key × V)},Same H H3->H3 d=some (.dK kv3)->kv3.length<=kv.length+s.szs->KnAt kn H3 kv3->∃(o4 o5:Option V) (kvs:List (Key × V)),[some (V.ref lp),some (V.ref lf),some (V.ref d),o3,some (V.int n),some (V.ref pv)]=[some (V.ref lp),some (V.ref lf),some (V.ref d),o3,o4,o5]/\Same H H3/\H3 d=some (.dK kvs)/\kvs.length<=gH fs+(jt (ps.take i)+s.szs)/\KnAt kn H3 kvs:=fun {H3 kv3} s3 e3 l3 h3=>⟨_,_,kv3,rfl,s3,e3,by lia,h3⟩;cases s with
   | every a b=>
     obtain⟨va,vb,rfl,ka,kb⟩:=qd hL;obtain⟨a1',a2',a3'⟩:=gq a (by simp[Sy.parts]);obtain⟨b1',b2',b3'⟩:=gq b (by simp[Sy.parts]);have hz2:(Sy.every a b).szs=a.sz+b.sz:=by simp[Sy.szs,Sy.parts]
     refine(cQ hpv rfl ((?_)));refine(cQ hpv rfl ?_);refine⟨va,d,a,kv,kn,rfl,ka,a1',by lia,by lia,a3',e2,by lia,kq a (by simp[Sy.knK]),h2,fun H3 kv3 k3 e3 l3 h3=> ?_⟩;have nd:∀{c:Addr} {xs:List V},H2 c=some (.tup xs)->c≠d:=fun {c xs} e z=>by rw[z,e2] at e;cases e
     have t3:Tups H2 H3:=fun c xs e=>k3 c _ e (nd e);refine(cQ (t3 _ _ hpv) rfl ((?_)));refine(cQ (t3 _ _ hpv) rfl ?_);refine⟨vb,d,b,kv3,kn,rfl,IsK.mono t3 kb,b1',by lia,by lia,b3',e3,by lia,kq b (by simp[Sy.knK]),h3,fun H4 kv4 k4 e4 l4 h4=> ?_⟩;exact fin (step (step s2 k3) k4) e4 (by lia) h4
   | no a b=>
     obtain⟨va,vb,rfl,ka,kb⟩:=qd hL;obtain⟨a1',a2',a3'⟩:=gq a (by simp[Sy.parts]);obtain⟨b1',b2',b3'⟩:=gq b (by simp[Sy.parts]);have hz2:(Sy.no a b).szs=a.sz+b.sz:=by simp[Sy.szs,Sy.parts]
     refine(cQ hpv rfl (?_));refine(cQ hpv rfl (?_));refine(cQ hpv rfl ?_);refine⟨va,d,a,kv,kn,rfl,ka,a1',by lia,by lia,a3',e2,by lia,kq a (by simp[Sy.knK]),h2,fun H3 kv3 k3 e3 l3 h3=> ?_⟩;have nd:∀{c:Addr} {xs:List V},H2 c=some (.tup xs)->c≠d:=fun {c xs} e z=>by rw[z,e2] at e;cases e
     have t3:Tups H2 H3:=fun c xs e=>k3 c _ e (nd e);refine(cQ (t3 _ _ hpv) rfl (?_));refine(cQ (t3 _ _ hpv) rfl ((?_)));refine(cQ (t3 _ _ hpv) rfl ?_);refine⟨vb,d,b,kv3,kn,rfl,IsK.mono t3 kb,b1',by lia,by lia,b3',e3,by lia,kq b (by simp[Sy.knK]),h3,fun H4 kv4 k4 e4 l4 h4=> ?_⟩;exact fin (step (step s2 k3) k4) e4 (by lia) h4
   | thing x c=>
     obtain⟨va,vb,rfl,ka,kb⟩:=qd hL;obtain⟨b1',b2',b3'⟩:=gq c (by simp[Sy.parts]);have hz2:(Sy.thing x c).szs=1+c.sz:=by simp[Sy.szs,Sy.parts,Kd.sz]
     refine(cQ hpv rfl (?_));refine(cQ hpv rfl (?_));refine(cQ hpv rfl (?_));refine(cQ hpv rfl (?_));refine(cQ hpv rfl (?_));refine(cQ hpv rfl ?_);refine⟨vb,d,c,kv,kn,rfl,kb,b1',by lia,by lia,b3',e2,by lia,kq c (by simp[Sy.knK]),h2,fun H4 kv4 k4 e4 l4 h4=> ?_⟩;exact fin (step s2 k4) e4 (by lia) h4
   | _=>
     iterate 5 refine cQ hpv (aU (j:=0) rfl) ?_
     exact fin s2 e2 (cY _ _) h2
 · rintro σ H2 ⟨o4,o5,kv,rfl,s2,e2,l2,h2⟩;exact q d H2 kv s2 hd e2 h2
end
def LF(h:Paired (IsSt T H) vs ss):StL [] H vs ss:=Paired.imp' (fun v s ⟨p,pf,vf,e,h1,h2,h3,_⟩=>⟨p,pf,vf,e,h1,h2,h3,ai⟩) h
theorem Le.fold{α:Type}{g:StI->α->StI}(h:∀S e,Le S (g S e)):∀(l:List α) (S:StI),Le S (l.foldl g S)
 | [],S=> .refl S
 | e::l,S=>(h S e).trans (Le.fold h l _)
theorem eE{α:Type}{g:StI->α->StI}{f:Fi}{P:StI->Prop}(le:∀S e,Le S (g S e))(hP:∀{S S'},Le S S'->P S->P S'){e:α}(he:∀S,P S->f∈(g S e).facts):∀{l:List α},e∈l->∀{S:StI},P S->f∈(l.foldl g S).facts
 | a::l,h,S,p=>by
   rcases aE.mp h with h | h
   · subst h;exact(Le.fold le l _).mem (he S p)
   · exact eE le hP he h (hP (le S a) p)
structure Ind(L:LoI)(Q:StI->Prop):Prop where
 is:∀{S:StI} (x k:Nat) (r:Str) (fr:List Int) (nn:Option Int),fr.length<=2->Q S->Q (StI.tellIs L S x k r fr nn)
 has:∀{S:StI} (x:Nat) (t:Str) (y:Nat) (r:Str) (fr:List Int) (nn:Option Int),fr.length<=2->Q S->Q (StI.tellHas L S x t y r fr nn)
def yA(i j:Int)(b:Bool):(CO i j b).length<=2:=by cases b<;>exact ar 2
section
variable {L:LoI}{Q:StI->Prop}(I:Ind L Q)(i:Nat){S:StI}
include I
theorem Ind.byNo(x:Nat)(e:Nat × Int × Bool)(h:Q S):Q (StI.byNo L i x S e):=by
 unfold StI.byNo
 split
 · exact I.is _ _ _ _ _ (yA ..) h
 · exact h
theorem Ind.byBoth(x:Nat)(e:Nat × Nat × Bool)(h:Q S):Q (StI.byBoth L i x S e):=by
 unfold StI.byBoth
 split
 · exact I.is _ _ _ _ _ (yA ..) h
 · exact h
theorem Ind.byEnd(y:Nat)(r t:Str)(k:Nat)(h:Q S):Q (StI.byEnd L i y r S t k):=dQ h fun _ _ _ h=>I.is _ _ _ _ _ (ar 2) h
theorem Ind.byMk1(x y:Nat)(e:Str × Str × Int)(h:Q S):Q (StI.byMk1 L i x y S e):=dQ h fun _ _ _ h=>I.has _ _ _ _ _ _ (ar 2) h
theorem Ind.byMk2(x y:Nat)(e:Str × Str × Int)(h:Q S):Q (StI.byMk2 L i x y S e):=dQ h fun _ _ _ h=>I.has _ _ _ _ _ _ (ar 2) h
theorem Ind.fromPairs(x k:Nat)(h:Q S):Q (StI.fromPairs L S i x k):=dQ (dQ h fun _ e _ h=>I.byNo i x e h) fun _ e _ h=>I.byBoth i x e h
theorem Ind.fromKind(x k:Nat)(h:Q S):Q (StI.fromKind L S i x k):=by
 have h:Q ((L.everys k).foldl (fun S e=>StI.tellIs L S x e.1 "every" [(i:Int)] (some e.2)) S):=dQ h fun _ _ _ h=>I.is _ _ _ _ _ (bu 1) h;unfold StI.fromKind;dsimp only
 split
 · exact I.is _ _ _ _ _ (bu 1) (I.is _ _ _ _ _ (bu 1) h)
 · exact I.has _ _ _ _ _ _ (bu 1) h
 · exact h
theorem Ind.fromEnd(y k:Nat)(h:Q S):Q (StI.fromEnd L S i y k):=by
 have h1:Q ((L.somes k).foldl (fun S e=>StI.byEnd L i y "tie" S e.1 e.2) S):=dQ h fun _ _ _ h=>I.byEnd i y _ _ _ h;unfold StI.fromEnd;dsimp only
 split
 · exact dQ h1 fun _ _ _ h=>I.byEnd i y _ _ _ h
 · exact h1
theorem Ind.fromTie(x:Nat)(t:Str)(y:Nat)(h:Q S):Q (StI.fromTie L S i x t y):=by
 have h:Q ((cH (ng L ((L.withins t).foldl (StI.byWi L i x y) S) x t y)).foldl (StI.byWh L i x t y) ((L.withins t).foldl (StI.byWi L i x y) S)):=dQ (dQ h fun _ _ _ h=>I.has _ _ _ _ _ _ (bu 1) h) fun _ _ _ h=>I.is _ _ _ _ _ (ar 2) h;unfold StI.fromTie;dsimp only
 split
 · exact I.is _ _ _ _ _ (ar 2) h
 · exact h
theorem Ind.fromChains(x:Nat)(t:Str)(y:Nat)(h:Q S):Q (StI.fromChains L S i x t y):=dQ (dQ h fun _ e _ h=>I.byMk1 i x y e h) fun _ e _ h=>I.byMk2 i x y e h
theorem Ind.turn(f:Fi)(h:Q S):Q (StI.turn L S i f):=by
 cases f with
 | is x k=>exact I.fromEnd i x k (I.fromPairs i x k (I.fromKind i x k h))
 | has x t y=>exact I.fromChains i x t y (I.fromTie i x t y h)
end
section
variable (L:LoI)(i:Nat)
theorem Le.ind(S:StI):Ind L (Le S):=⟨fun _ _ _ _ _ _ h=>h.trans (.tellIs ..),fun _ _ _ _ _ _ _ h=>h.trans (.tellHas ..)⟩
theorem Le.byNo(x:Nat)(S:StI)(e:Nat × Int × Bool):Le S (StI.byNo L i x S e):=(Le.ind L S).byNo i x e (.refl S)
theorem Le.byBoth(x:Nat)(S:StI)(e:Nat × Nat × Bool):Le S (StI.byBoth L i x S e):=(Le.ind L S).byBoth i x e (.refl S)
theorem Le.byEnd(y:Nat)(r:Str)(S:StI)(t:Str)(k:Nat):Le S (StI.byEnd L i y r S t k):=(Le.ind L S).byEnd i y r t k (.refl S)
theorem Le.byMk1(x y:Nat)(S:StI)(e:Str × Str × Int):Le S (StI.byMk1 L i x y S e):=(Le.ind L S).byMk1 i x y e (.refl S)
theorem Le.byMk2(x y:Nat)(S:StI)(e:Str × Str × Int):Le S (StI.byMk2 L i x y S e):=(Le.ind L S).byMk2 i x y e (.refl S)
theorem Le.fromPairs(S:StI)(x k:Nat):Le S (StI.fromPairs L S i x k):=(Le.ind L S).fromPairs i x k (.refl S)
theorem Le.fromKind(S:StI)(x k:Nat):Le S (StI.fromKind L S i x k):=(Le.ind L S).fromKind i x k (.refl S)
theorem Le.fromEnd(S:StI)(y k:Nat):Le S (StI.fromEnd L S i y k):=(Le.ind L S).fromEnd i y k (.refl S)
theorem Le.fromTie(S:StI)(x:Nat)(t:Str)(y:Nat):Le S (StI.fromTie L S i x t y):=(Le.ind L S).fromTie i x t y (.refl S)
theorem Le.fromChains(S:StI)(x:Nat)(t:Str)(y:Nat):Le S (StI.fromChains L S i x t y):=(Le.ind L S).fromChains i x t y (.refl S)
theorem Le.turn(S:StI)(f:Fi):Le S (StI.turn L S i f):=(Le.ind L S).turn i f (.refl S)
end
def ki(L:LoI)(S:StI)(x:Nat)(t:Str)(y:Nat)(r:Str)(fr:List Int)(nn:Option Int):Fi.has x t y∈(StI.tellHas L S x t y r fr nn).facts:=by
 unfold StI.tellHas
 split
 · assumption
 · exact nP L _ y (aL _ (ag.mpr rfl))
def wJ(h:i∉cH (anot (cL l) (cL m)))(hl:i∈l):i∈m:=by
 rw[iL,jL,gB,gB,aG hl] at h;simpa using h
def JE(r:xn L S0 n S):Le S0 S:=by
 induction r with
 | zero=>exact .refl _
 | step _ _ ih=>exact ih.trans (.turn ..)
def JF(r:xn L S0 n S):∀i,i<n->∃Si f,Si.facts[i]? =some f/\Le (StI.turn L Si i f) S:=by
 induction r with
 | zero=>intro i h;exact absurd h (Nat.not_lt_zero _)
 | @step m S f r e ih=>
   intro i h;rcases Nat.lt_succ_iff_lt_or_eq.mp h with h | h
   · obtain⟨Si,g,a,b⟩:=ih i h;exact⟨Si,g,a,b.trans (.turn ..)⟩
   · subst h;exact⟨S,f,e,.refl _⟩
section
def turned{L:LoI}{S0 S:StI}{n:Nat}(r:xn L S0 n S)(hn:S.facts.length<=n){f:Fi}(h:f∈S.facts):∃Si,Si.facts[S.facts.idxOf f]? =some f/\Le (StI.turn L Si (S.facts.idxOf f) f) S:=by
 have e:=wY h;obtain⟨Si,g,a,b⟩:=JF r _ (ax (aO.mp e).1 hn);have:=b.fa _ _ ((Le.turn L _ Si g).fa _ _ a);rw[e] at this;cases this;exact⟨Si,a,b⟩
def Tw(L:LoI)(S:StI)(f g:Fi):Prop:=∃Si i,Si.facts[i]? =some f/\g∈Si.facts/\Le (StI.turn L Si i f) S
def GD{L:LoI}{S0 S:StI}{n:Nat}(r:xn L S0 n S)(hn:S.facts.length<=n){f:Fi}(h:f∈S.facts):Tw L S f f:=by
 obtain⟨Si,a,b⟩:=turned r hn h;exact⟨Si,_,a,ak a,b⟩
def GC{L:LoI}{S0 S:StI}{n:Nat}(r:xn L S0 n S)(hn:S.facts.length<=n){f g:Fi}(hf:f∈S.facts)(hg:g∈S.facts):Tw L S f g\/Tw L S g f:=by
 have key:∀{f g:Fi},f∈S.facts->g∈S.facts->S.facts.idxOf g<=S.facts.idxOf f->Tw L S f g:=fun {f g} hf hg le=>by
  obtain⟨Si,a,b⟩:=turned r hn hf;refine⟨Si,_,a,?_,b⟩;have lt:S.facts.idxOf g<Si.facts.length:=bz le (aO.mp a).1;have z:=b.fa _ _ ((Le.turn L _ Si f).fa _ _ (aN lt));rw[wY hg] at z
  injection z with z
  rw[z];exact fQ lt
 rcases qj (S.facts.idxOf g) (S.facts.idxOf f) with h | h
 · exact .inl (key hf hg h)
 · exact .inr (key hg hf h)
def DM(h:Tw L S (.is x k) (.is x k))(he:e∈L.everys k):Fi.is x e.1∈S.facts:=by
 obtain⟨Si,i,a,_,le⟩:=h;refine le.mem ((Le.fromEnd L i _ x k).mem ((Le.fromPairs L i _ x k).mem ?_));have h1:Fi.is x e.1∈((L.everys k).foldl (fun S e=>StI.tellIs L S x e.1 "every" [(i:Int)] (some e.2)) Si).facts:=eE (g:=fun S (e:Nat × Int)=>StI.tellIs L S x e.1 "every" [(i:Int)] (some e.2)) (P:=fun _=>True) (fun _ _=> .tellIs ..) (fun _ h=>h) (fun S _=>(bM L S x e.1 "every" _ _).2.2) he trivial;unfold StI.fromKind;dsimp only
 split
 · exact(Le.tellIs ..).mem ((Le.tellIs ..).mem h1)
 · exact(Le.tellHas ..).mem h1
 · exact h1
def DL(h:Tw L S (.is x k) (.is x k))(hs:L.shapes[k]? =some (.both a b)):Fi.is x a∈S.facts/\Fi.is x b∈S.facts:=by
 obtain⟨Si,i,_,_,le⟩:=h;have key:∀f,f∈(StI.fromKind L Si i x k).facts->f∈S.facts:=fun f hf=>le.mem ((Le.fromEnd L i _ x k).mem ((Le.fromPairs L i _ x k).mem hf));unfold StI.fromKind at key;dsimp only at key;rw[hs] at key;exact⟨key _ ((Le.tellIs ..).mem (bM L _ x a "first" _ _).2.2),key _ (bM L _ x b "second" _ _).2.2⟩
def GB(h:Tw L S (.is x k) (.is x k))(hs:L.shapes[k]? =some (.some r b)):Fi.has x r b∈S.facts:=by
 obtain⟨Si,i,_,_,le⟩:=h;have key:∀f,f∈(StI.fromKind L Si i x k).facts->f∈S.facts:=fun f hf=>le.mem ((Le.fromEnd L i _ x k).mem ((Le.fromPairs L i _ x k).mem hf));unfold StI.fromKind at key;dsimp only at key;rw[hs] at key;exact key _ (ki ..)
def Iw(h:Tw L S (.is x k) (.is x e.1))(he:e∈L.nos k):Fi.is x 1∈S.facts:=by
 obtain⟨Si,i,_,m,le⟩:=h;refine le.mem ((Le.fromEnd L i _ x k).mem ((Le.fold (Le.byBoth L i x) _ _).mem ?_));refine eE (P:=fun S=>Fi.is x e.1∈S.facts) (Le.byNo L i x) (fun l h=>l.mem h) (fun S p=> ?_) he ((Le.fromKind L i Si x k).mem m);unfold StI.byNo;rw[aI p];exact(bM L S x 1 "no" _ _).2.2
def AS(h:Tw L S (.is x k) (.is x e.1))(he:e∈L.boths k):Fi.is x e.2.1∈S.facts:=by
 obtain⟨Si,i,_,m,le⟩:=h;refine le.mem ((Le.fromEnd L i _ x k).mem ?_);refine eE (P:=fun S=>Fi.is x e.1∈S.facts) (Le.byBoth L i x) (fun l h=>l.mem h) (fun S p=> ?_) he ((Le.fold (Le.byNo L i x) _ _).mem ((Le.fromKind L i Si x k).mem m));unfold StI.byBoth;rw[aI p];exact(bM L S x e.2.1 "both" _ _).2.2
def vd(p:Fi.has x t y∈S.facts):Fi.is x k∈(StI.byEnd L i y r S t k).facts:=by
 by_cases h:x∈cH (qf S y t k)
 · exact eE (g:=StI.byTie L i y t k r) (P:=fun _=>True) (fun _ _=> .tellIs ..) (fun _ h=>h) (fun S _=>(bM L S x k r _ _).2.2) h trivial
 · exact(Le.byEnd L i y r S t k).mem (mem_xsOf.mp (wJ h (mem_startsOf.mpr p)))
def Jo{t:Str}(h:Tw L S (.is y k) (.has x e.1 y))(he:e∈L.somes k):Fi.is x e.2∈S.facts:=by
 obtain⟨Si,i,_,m,le⟩:=h;have h1:Fi.is x e.2∈((L.somes k).foldl (fun S e=>StI.byEnd L i y "tie" S e.1 e.2) (StI.fromPairs L (StI.fromKind L Si i y k) i y k)).facts:=eE (g:=fun S (e:Str × Nat)=>StI.byEnd L i y "tie" S e.1 e.2) (P:=fun S=>Fi.has x e.1 y∈S.facts) (fun S e=>Le.byEnd L i y "tie" S e.1 e.2) (fun l h=>l.mem h) (fun S p=>vd p) he ((Le.fromPairs L i _ y k).mem ((Le.fromKind L i Si y k).mem m));refine le.mem (?_:_∈(StI.fromEnd L (StI.fromPairs L (StI.fromKind L Si i y k) i y k) i y k).facts);unfold StI.fromEnd;dsimp only
 split
 · exact(Le.fold (fun S e=>Le.byEnd L i y "none" S e k) _ _).mem h1
 · exact h1
def E6(h:Fi.has x t y∈F):t∈eG F:=by
 unfold eG;rw[jV];exact .inr (ph.mpr ⟨_,h,ag.mpr rfl⟩)
def GA(h:Tw L S (.is y 1) (.has x t y)):Fi.is x 1∈S.facts:=by
 obtain⟨Si,i,_,m,le⟩:=h;have m1:Fi.has x t y∈((L.somes 1).foldl (fun S e=>StI.byEnd L i y "tie" S e.1 e.2) (StI.fromPairs L (StI.fromKind L Si i y 1) i y 1)).facts:=(Le.fold (g:=fun S (e:Str × Nat)=>StI.byEnd L i y "tie" S e.1 e.2) (fun S e=>Le.byEnd L i y "tie" S e.1 e.2) _ _).mem ((Le.fromPairs L i _ y 1).mem ((Le.fromKind L i Si y 1).mem m));refine le.mem (?_:_∈(StI.fromEnd L (StI.fromPairs L (StI.fromKind L Si i y 1) i y 1) i y 1).facts);unfold StI.fromEnd;dsimp only;rw[aI rfl];exact eE (g:=fun S t=>StI.byEnd L i y "none" S t 1) (P:=fun S=>Fi.has x t y∈S.facts) (fun S e=>Le.byEnd L i y "none" S e 1) (fun l h=>l.mem h) (fun S p=>vd p) (E6 m1) m1
def Cs(h:Tw L S (.has x t y) (.has x t y))(he:e∈L.withins t):Fi.has x e.1 y∈S.facts:=by
 obtain⟨Si,i,_,_,le⟩:=h;have h1:Fi.has x e.1 y∈((L.withins t).foldl (StI.byWi L i x y) Si).facts:=eE (g:=StI.byWi L i x y) (P:=fun _=>True) (fun _ _=> .tellHas ..) (fun _ h=>h) (fun S _=>ki ..) he trivial;refine le.mem ((Le.fromChains L i _ x t y).mem ?_);unfold StI.fromTie;dsimp only
 split
 · exact(Le.tellIs ..).mem ((Le.fold (fun _ _=> .tellIs ..) _ _).mem h1)
 · exact(Le.fold (fun _ _=> .tellIs ..) _ _).mem h1
def Hz(h:k∈fj sh F x t):∃w,Fi.is x w∈F/\sh[w]? =some (.some t k):=by
 obtain⟨f,hf,e⟩:=fc.mp h;cases f with
 | has a b c=>cases e
 | is a b=>
   dsimp only at e
   split at e
   · rename_i ea;subst ea
     split at e
     · rename_i r c es
       split at e
       · rename_i er;subst er;cases e;exact⟨b,hf,es⟩
       · cases e
     · cases e
   · cases e
def Jl(h:Tw L S (.has x t y) (.is y k))(hf:L.fillers t=some m)(hm:m.testBit k=true)(hw:L.wholes t k=some w)(hu:∀v,L.shapes[v]? =some (.some t k)->v=w):Fi.is x w∈S.facts:=by
 obtain⟨Si,i,_,mm,le⟩:=h;have m1:Fi.is y k∈((L.withins t).foldl (StI.byWi L i x y) Si).facts:=(Le.fold (fun _ _=> .tellHas ..) _ _).mem mm;have h2:Fi.is x w∈((cH (ng L ((L.withins t).foldl (StI.byWi L i x y) Si) x t y)).foldl (StI.byWh L i x t y) ((L.withins t).foldl (StI.byWi L i x y) Si)).facts:=by
  by_cases c:k∈cH (ng L ((L.withins t).foldl (StI.byWi L i x y) Si) x t y)
  · refine eE (g:=StI.byWh L i x t y) (P:=fun _=>True) (fun _ _=> .tellIs ..) (fun _ h=>h) (fun S _=> ?_) c trivial;unfold StI.byWh;rw[hw];exact(bM L S x w "tie" _ _).2.2
  · refine(Le.fold (fun _ _=> .tellIs ..) _ _).mem ?_;rw[iL,ng,fA,jL,gB,gB,hf,aG (mem_ksOf.mpr m1)] at c;have c':k∈fj L.shapes ((L.withins t).foldl (StI.byWi L i x y) Si).facts x t:=by simpa[hm] using c
    obtain⟨v,hv,hs⟩:=Hz c';rw[<-hu v hs];exact hv
 refine le.mem ((Le.fromChains L i _ x t y).mem ?_);unfold StI.fromTie;dsimp only
 split
 · exact(Le.tellIs ..).mem h2
 · exact h2
def DK(h:Tw L S (.has x t y) (.is y 1)):Fi.is x 1∈S.facts:=by
 obtain⟨Si,i,_,mm,le⟩:=h;have m2:Fi.is y 1∈((cH (ng L ((L.withins t).foldl (StI.byWi L i x y) Si) x t y)).foldl (StI.byWh L i x t y) ((L.withins t).foldl (StI.byWi L i x y) Si)).facts:=(Le.fold (fun _ _=> .tellIs ..) _ _).mem ((Le.fold (fun _ _=> .tellHas ..) _ _).mem mm);refine le.mem ((Le.fromChains L i _ x t y).mem ?_);unfold StI.fromTie;dsimp only;rw[aI m2];exact(bM ..).2.2
def Jn(h:Tw L S (.has x r y) (.has y e.1 z))(he:e∈L.mk1 r):Fi.has x e.2.1 z∈S.facts:=by
 obtain⟨Si,i,_,m,le⟩:=h;refine le.mem ((Le.fold (Le.byMk2 L i x y) _ _).mem ?_);refine eE (P:=fun S=>Fi.has y e.1 z∈S.facts) (Le.byMk1 L i x y) (fun l h=>l.mem h) (fun S p=> ?_) he ((Le.fromTie L i Si x r y).mem m);by_cases c:z∈cH (yP S x y e)
 · exact eE (g:=StI.mk1a L i x y e) (P:=fun _=>True) (fun _ _=> .tellHas ..) (fun _ h=>h) (fun S _=>ki ..) c trivial
 · exact(Le.byMk1 L i x y S e).mem (mem_endsOf.mp (wJ c (mem_endsOf.mpr p)))
def Jm(h:Tw L S (.has y s z) (.has x e.1 y))(he:e∈L.mk2 s):Fi.has x e.2.1 z∈S.facts:=by
 obtain⟨Si,i,_,m,le⟩:=h;refine le.mem (?_:_∈(StI.fromChains L (StI.fromTie L Si i y s z) i y s z).facts);unfold StI.fromChains;refine eE (P:=fun S=>Fi.has x e.1 y∈S.facts) (Le.byMk2 L i y z) (fun l h=>l.mem h) (fun S p=> ?_) he ((Le.fold (Le.byMk1 L i y z) _ _).mem ((Le.fromTie L i Si y s z).mem m));by_cases c:x∈cH (yO S y z e)
 · exact eE (g:=StI.mk2a L i y z e) (P:=fun _=>True) (fun _ _=> .tellHas ..) (fun _ h=>h) (fun S _=>ki ..) c trivial
 · exact(Le.byMk2 L i y z S e).mem (mem_startsOf.mp (wJ c (mem_startsOf.mpr p)))
end
structure TV(F:LoI)(ts:List Str)(L:LoI):Prop where
 ev:∀k,∀e∈L.everys k,e.1<F.parts.length
 no:∀k,∀e∈L.nos k,e.1<F.parts.length
 wi:∀r,∀e∈L.withins r,e.1∈ts
 m1:∀r,∀e∈L.mk1 r,e.2.1∈ts
 m2:∀r,∀e∈L.mk2 r,e.2.1∈ts
 bo:∀k,∀e∈L.boths k,e.1<F.parts.length/\e.2.1<F.parts.length
 so:∀k,∀e∈L.somes k,e.2<F.parts.length
 fi:∀(r:Str) (m i:Nat),L.fillers r=some m->m.testBit i=true->∃k,L.wholes r i=some k/\k<F.parts.length/\i<F.parts.length
section
def j4{κ α:Type}[DecidableEq κ]{P:α->Prop}{f:κ->List α}{n:κ}{x:α}(h:∀i,∀e∈f i,P e)(hx:P x):∀i,∀e∈pZ f n x i,P e:=fun i e he=>(HA he).elim (h i e) fun z=>z.2 ▸ hx
def TV.num(h:TV F ts L)(k:Kd):TV F ts (LoI.num k L):=by
 obtain⟨_,e1,e2,e3,e4,e5,e6,e7,e8,e9⟩:=LoI.num_rest k L;exact⟨by rw[e1];exact h.ev,by rw[e2];exact h.no,by rw[e3];exact h.wi,by rw[e4];exact h.m1,by rw[e5];exact h.m2,by rw[e6];exact h.bo,by rw[e7];exact h.so,by rw[e8,e9];exact h.fi⟩
def TV.kn'(h:TV F ts L)(i:Nat):TV F ts (L.kn i):=⟨h.ev,h.no,h.wi,h.m1,h.m2,h.bo,h.so,h.fi⟩
def TV.so'{F L:LoI}{ts:List Str}(h:TV F ts L){r:Str}{j k:Nat}(hj:j<F.parts.length)(hk:k<F.parts.length):TV F ts (L.so r j k):=by
 refine⟨h.ev,h.no,h.wi,h.m1,h.m2,h.bo,j4 h.so hk,fun s m i h1 h2=> ?_⟩;have h1':vP L.fillers r ((L.fillers r).getD 0 ||| 2^j) s=some m:=h1;show ∃k',vO L.wholes r j k s i=some k'/\_;unfold vP at h1';unfold vO;by_cases c:s=r
 · subst c;rw[aI rfl] at h1';obtain rfl:_=m:=by simpa using h1'
   by_cases c2:i=j
   · subst c2;exact⟨k,aI ⟨rfl,rfl⟩,hk,hj⟩
   · rw[xh,aq (fun z=>c2 z.symm),xC] at h2;rw[aD (fun z=>c2 z.2)];cases hf:L.fillers s with
     | none=>rw[hf] at h2;simp at h2
     | some m'=>rw[hf] at h2;exact h.fi s m' i hf h2
 · rw[aD c] at h1';rw[aD (fun z=>c z.1)];exact h.fi s m i h1' h2
theorem TV.know:∀(k:Kd) {L:LoI},TV F ts L->L.parts.length<=F.parts.length->L.Ok->k∈L.parts->TV F ts (LoI.know k L)
 | .nm x,L,h,p,o,hm=>by
   rw[LoI.know]
   split
   · exact h
   · exact h.kn' _
 | .two a b,L,h,p,o,hm=>by
   rw[LoI.know]
   split
   · exact h
   · obtain⟨ha,hb,_⟩:=o.sh _ hm;have lt:∀{k:Kd},k∈L.parts->L.ix k<F.parts.length:=fun h=>ax (LoI.ix_lt h) p;have r1:=LoI.know_rest a (L.kn (L.ix (.two a b)));have h1:=TV.know a (h.kn' (L.ix (.two a b))) p (o.of rfl rfl) ha;generalize LoI.know a (L.kn (L.ix (.two a b)))=L1 at r1 h1⊢;have e1:L1.parts=L.parts:=r1.1;exact TV.know b (L:=L1.bo _ _ _) ⟨h1.ev,h1.no,h1.wi,h1.m1,h1.m2,j4 (j4 h1.bo ⟨lt hb,lt hm⟩) ⟨lt ha,lt hm⟩,h1.so,h1.fi⟩ (by show L1.parts.length<=_;rw[e1];exact p) (o.of r1.1 r1.2) (by show b∈L1.parts;rw[e1];exact hb)
 | .som r c,L,h,p,o,hm=>by
   rw[LoI.know]
   split
   · exact h
   · obtain⟨hc,_⟩:=o.sh _ hm;exact TV.know c (L:=(L.kn _).so r _ _) ((h.kn' _).so' (ax (LoI.ix_lt hc) p) (ax (LoI.ix_lt hm) p)) p (o.of rfl rfl) hc
def TV.kk{F L:LoI}{ts:List Str}(h:TV F ts L)(o:L.Ok){k:Kd}(p:Px (LoI.kk k L) F):TV F ts (LoI.kk k L):=TV.know k (h.num k) (p.of_eq (LoI.know_rest k _).1).le (LoI.num_ok k o) (LoI.num_has k L)
theorem TV.kks:∀(l:List (Str × Kd)) {L:LoI},TV F ts L->L.Ok->Px (l.foldl LoI.kkp L) F->TV F ts (l.foldl LoI.kkp L)
 | [],L,h,_,_=>h
 | q::l,L,h,o,p=>by
   refine TV.kks l ?_ (LoI.kkp_ok q o) p;have p1:=(qN l (L.kkp q)).trans p;unfold LoI.kkp at p1⊢
   split
   · rename_i c;rw[aI c] at p1;exact h.kk o p1
   · exact h
end
def wR{s:Sy}(h:k∈s.knK):((Str.ofString "kind",k):Str × Kd)∈s.sg.ps:=by
 cases s<;>simp only[Sy.knK,aE,ai,cF] at h
 · rcases h with rfl | rfl
   · exact aY
   · exact aK _ aY
 · rcases h with rfl | rfl
   · exact aY
   · exact aK _ aY
 · subst h;exact aK _ aY
def TV.learn{F L:LoI}{ts:List Str}(h:TV F ts L)(o:L.Ok){n:Int}{s:Sy}(p:Px (LoI.learn n s L) F)(ht:∀r∈s.tiesL,r∈ts):TV F ts (LoI.learn n s L):=by
 have p1:Px (LoI.kks s L) F:=p.of_eq (iR n s _);have h1:TV F ts (LoI.kks s L):=TV.kks s.sg.ps h o p1;have lt:∀{k:Kd},k∈s.knK->(LoI.kks s L).ix k<F.parts.length:=fun h=>ax (LoI.ix_lt (mO L (wR h))) p1.le;obtain⟨z1,z2,z3,z4,z5,z6,z7,z8⟩:=h1;cases s with
 | every a b=>exact⟨j4 z1 (lt (k:=b) (by simp[Sy.knK])),z2,z3,z4,z5,z6,z7,z8⟩
 | no a b=>exact⟨z1,j4 (j4 z2 (lt (k:=b) (by simp[Sy.knK]))) (lt (k:=a) (by simp[Sy.knK])),z3,z4,z5,z6,z7,z8⟩
 | within r s=>exact⟨z1,z2,j4 z3 (ht s (by simp[Sy.tiesL])),z4,z5,z6,z7,z8⟩
 | makes r s t=>exact⟨z1,z2,z3,j4 z4 (ht t (by simp[Sy.tiesL])),j4 z5 (ht t (by simp[Sy.tiesL])),z6,z7,z8⟩
 | thing _ _=>exact⟨z1,z2,z3,z4,z5,z6,z7,z8⟩
 | tied _ _ _=>exact⟨z1,z2,z3,z4,z5,z6,z7,z8⟩
theorem TV.learns:∀(l:List (Int × Sy)) {L:LoI},TV F ts L->L.Ok->Px (l.foldl (fun L q=>LoI.learn q.1 q.2 L) L) F->(∀q∈l,∀r∈q.2.tiesL,r∈ts)->TV F ts (l.foldl (fun L q=>LoI.learn q.1 q.2 L) L)
 | [],L,h,_,_,_=>h
 | q::l,L,h,o,p,hq=>TV.learns l (h.learn o ((iM l _).trans p) (hq q aY)) (LoI.learn_ok _ _ o) p fun q' h'=>hq q' (aK _ h')
theorem TV.kkl:∀(l:List Kd) {L:LoI},TV F ts L->L.Ok->Px (l.foldl (fun L k=>LoI.kk k L) L) F->TV F ts (l.foldl (fun L k=>LoI.kk k L) L)
 | [],L,h,_,_=>h
 | k::l,L,h,o,p=>TV.kkl l (h.kk o ((jW l _).trans p)) (LoI.kk_ok k o) p
def J7(hq:∀q∈ps,∀r∈q.2.tiesL,r∈ts)(hk:∀k∈fs,∀r∈Kd.tieL k,r∈ts):(LoI.of ps fs).Wd ts:=by
 have e:∀{α:Type} {x:α},x∉([]:List α):=fun h=>ai h;have t0:TV (LoI.of ps fs) ts LoI.init:=by rw[mf];exact⟨fun _ _ h=>(e h).elim,fun _ _ h=>(e h).elim,fun _ _ h=>(e h).elim,fun _ _ h=>(e h).elim,fun _ _ h=>(e h).elim,fun _ _ h=>(e h).elim,fun _ _ h=>(e h).elim,fun _ _ _ h=>by cases h⟩
 have t:TV (LoI.of ps fs) ts (LoI.of ps fs):=TV.kkl fs (TV.learns ps t0 LoI.init_ok (jW fs _) hq) (jj (fun L q o=>LoI.learn_ok _ _ o) _ LoI.init_ok) (.refl _);have s:ShT ts (LoI.of ps fs):=EV (Q:=ShT ts) (fun _ e h=>by unfold ShT at h⊢;rw[e];exact h) ShT.init (fun q h k hk' L hL=>ShT.num (fun r hr=>hq q h r (Fo hk' r hr)) hL) (fun k hk' L hL=>ShT.num (hk k hk') hL);exact⟨t.ev,t.no,t.wi,t.m1,t.m2,t.bo,t.so,t.fi,fun i r j h=>s r j (ak h)⟩
def ji{κ α:Type}[DecidableEq κ]{f:κ->List α}{n i:κ}{x e:α}(h:e∈f i):e∈pZ f n x i:=aM _ h
def j3{κ α:Type}[DecidableEq κ]{f:κ->List α}{n:κ}{x:α}:x∈pZ f n x n:=aL _ (by rw[aI rfl];exact ag.mpr rfl)
def Ct(F L:LoI):Kd->Prop
 | .nm _=>True
 | .two a b=>(F.ix b,F.ix (.two a b),true)∈L.boths (F.ix a)/\(F.ix a,F.ix (.two a b),false)∈L.boths (F.ix b)
 | .som r c=>(r,F.ix (.som r c))∈L.somes (F.ix c)/\(∃m,L.fillers r=some m/\m.testBit (F.ix c)=true)/\L.wholes r (F.ix c)=some (F.ix (.som r c))
def Ch(F L:LoI):Kd->Prop
 | .nm _=>True
 | .two a b=>F.ix a∈L.known/\F.ix b∈L.known
 | .som _ c=>F.ix c∈L.known
def Kni(F:LoI)(X:Kd->Prop)(L:LoI):Prop:=∀k∈F.parts,F.ix k∈L.known->¬ X k->Ct F L k/\Ch F L k
structure Mk(F L L':LoI):Prop where
 kn:∀i∈L.known,i∈L'.known
 ct:∀k∈F.parts,Ct F L k->Ct F L' k
section
def Mk.co{F L L':LoI}(m:Mk F L L'){k:Kd}(hk:k∈F.parts)(h:Ct F L k/\Ch F L k):Ct F L' k/\Ch F L' k:=⟨m.ct k hk h.1,by
 cases k with
 | nm _=>trivial
 | two a b=>exact⟨m.kn _ h.2.1,m.kn _ h.2.2⟩
 | som r c=>exact m.kn _ h.2⟩
def Mk.refl(F L:LoI):Mk F L L:=⟨fun _ h=>h,fun _ _ h=>h⟩
def Mk.trans(a:Mk F L L')(b:Mk F L' L''):Mk F L L'':=⟨fun i h=>b.kn i (a.kn i h),fun k hk h=>b.ct k hk (a.ct k hk h)⟩
def Mk.kn'(F L:LoI)(i:Nat):Mk F L (L.kn i):=⟨fun j h=>aM _ h,fun k _ h=>by cases k<;>exact h⟩
def Mk.bo'(F L:LoI)(i j n:Nat):Mk F L (L.bo i j n):=by
 refine⟨fun _ h=>h,fun k _ h=> ?_⟩;cases k with
 | nm _=>trivial
 | two a b=>exact⟨ji (ji h.1),ji (ji h.2)⟩
 | som r c=>exact h
def wX{F:LoI}(ha:a∈F.parts)(hb:b∈F.parts)(e:F.ix a=F.ix b):a=b:=by rw[<-nJ ha,<-nJ hb,e]
def Mk.so'{F:LoI}(o:F.Ok)(L:LoI){r:Str}{c:Kd}(hc:c∈F.parts):Mk F L (L.so r (F.ix c) (F.ix (.som r c))):=by
 refine⟨fun _ h=>h,fun k hk h=> ?_⟩;cases k with
 | nm _=>trivial
 | two a b=>exact h
 | som s d=>
   obtain⟨h1,⟨m,h2,h3⟩,h4⟩:=h;refine⟨ji h1,?_,?_⟩
   · show ∃m,vP L.fillers r ((L.fillers r).getD 0 ||| 2^F.ix c) s=some m/\_;unfold vP;by_cases e:s=r
     · subst e;rw[aI rfl,h2];exact⟨_,rfl,by rw[xh];show(m.testBit _ || _)=true;rw[h3];rfl⟩
     · rw[aD e];exact⟨m,h2,h3⟩
   · show vO L.wholes r (F.ix c) (F.ix (.som r c)) s (F.ix d)=_;unfold vO;by_cases e:s=r/\F.ix d=F.ix c
     · rw[aI e,e.1,wX (o.sh _ hk).1 hc e.2]
     · rw[aD e];exact h4
def Kni.mk(h:Kni F X L)(m:Mk F L L')(k':∀i∈L'.known,i∈L.known):Kni F X L':=fun k hk hi nx=>m.co hk (h k hk (k' _ hi) nx)
theorem qM(o:F.Ok):∀(k:Kd) (X:Kd->Prop) {L:LoI},Px L F->L.Ok->k∈L.parts->(∀x,X x->k.sz<x.sz)->Kni F X L->Kni F X (LoI.know k L)/\Mk F L (LoI.know k L)/\F.ix k∈(LoI.know k L).known
 | .nm x,X,L,p,ol,hk,hX,h=>by
   rw[LoI.know]
   split
   · rename_i c;exact⟨h,.refl F L,by rw[p.ix hk];exact c⟩
   · refine⟨fun k' hk' hi nx=> ?_,.kn' F L _,by rw[p.ix hk];exact aL _ (ag.mpr rfl)⟩;rcases aw.mp hi with hi | hi
     · exact(Mk.kn' F L _).co hk' (h k' hk' hi nx)
     · have:=ag.mp hi;rw[<-p.ix hk] at this;rw[wX hk' (p.mem hk) this];exact⟨trivial,trivial⟩
 | .two a b,X,L,p,ol,hk,hX,h=>by
   obtain⟨ha,hb,_⟩:=ol.sh _ hk;have hz:(Kd.two a b).sz=1+a.sz+b.sz:=rfl;rw[LoI.know,<-p.ix hk,<-p.ix ha,<-p.ix hb]
   split
   · rename_i c;exact⟨h,.refl F L,c⟩
   · have h1:Kni F (fun k=>X k\/k= .two a b) (L.kn (F.ix (.two a b))):=fun k' hk' hi nx=>by
      rcases aw.mp hi with hi | hi
      · exact(Mk.kn' F L _).co hk' (h k' hk' hi fun z=>nx (.inl z))
      · exact(nx (.inr (wX hk' (p.mem hk) (ag.mp hi)))).elim
     have m1:=Mk.kn' F L (F.ix (.two a b));have n1:F.ix (.two a b)∈(L.kn (F.ix (.two a b))).known:=aL _ (ag.mpr rfl);generalize hL1:L.kn (F.ix (.two a b))=L1 at h1 m1 n1⊢;have e1:L1.parts=L.parts:=by rw[<-hL1];rfl
     have p1:Px L1 F:=p.of_eq e1.symm;have o1:L1.Ok:=ol.of e1 (by rw[<-hL1];rfl);obtain⟨h2,m2,n2⟩:=qM o a (fun k=>X k\/k= .two a b) p1 o1 (by rw[e1];exact ha) (fun x hx=>by
      rcases hx with hx | hx
      · have:=hX x hx;lia
      · rw[hx];lia) h1
     have e2:=LoI.know_rest a L1;generalize LoI.know a L1=L2 at h2 m2 n2 e2⊢;have m3:=Mk.bo' F L2 (F.ix a) (F.ix b) (F.ix (.two a b));have h3:Kni F (fun k=>X k\/k= .two a b) (L2.bo (F.ix a) (F.ix b) (F.ix (.two a b))):=h2.mk m3 fun _ h=>h;have b3:Ct F (L2.bo (F.ix a) (F.ix b) (F.ix (.two a b))) (.two a b):=⟨ji j3,j3⟩;have e3:(L2.bo (F.ix a) (F.ix b) (F.ix (.two a b))).parts=L.parts:=e2.1.trans e1;have o3:(L2.bo (F.ix a) (F.ix b) (F.ix (.two a b))).Ok:=o1.of e2.1 e2.2;have n3:=m3.kn _ n2;generalize L2.bo (F.ix a) (F.ix b) (F.ix (.two a b))=L3 at m3 h3 b3 e3 o3 n3⊢;obtain⟨h4,m4,n4⟩:=qM o b (fun k=>X k\/k= .two a b) (p.of_eq e3.symm) o3 (by rw[e3];exact hb) (fun x hx=>by
      rcases hx with hx | hx
      · have:=hX x hx;lia
      · rw[hx];lia) h3
     refine⟨fun k' hk' hi nx=> ?_,((m1.trans m2).trans m3).trans m4,m4.kn _ (m3.kn _ (m2.kn _ n1))⟩;by_cases e:k'= .two a b
     · subst e;exact⟨m4.ct _ hk' b3,m4.kn _ n3,n4⟩
     · exact h4 k' hk' hi fun z=>z.elim nx e
 | .som r c,X,L,p,ol,hk,hX,h=>by
   obtain⟨hc,_⟩:=ol.sh _ hk;have hz:(Kd.som r c).sz=1+c.sz:=rfl;rw[LoI.know,<-p.ix hk,<-p.ix hc]
   split
   · rename_i c;exact⟨h,.refl F L,c⟩
   · have h1:Kni F (fun k=>X k\/k= .som r c) (L.kn (F.ix (.som r c))):=fun k' hk' hi nx=>by
      rcases aw.mp hi with hi | hi
      · exact(Mk.kn' F L _).co hk' (h k' hk' hi fun z=>nx (.inl z))
      · exact(nx (.inr (wX hk' (p.mem hk) (ag.mp hi)))).elim
     have m1:=Mk.kn' F L (F.ix (.som r c));have n1:F.ix (.som r c)∈(L.kn (F.ix (.som r c))).known:=aL _ (ag.mpr rfl);generalize hL1:L.kn (F.ix (.som r c))=L1 at h1 m1 n1⊢;have e1:L1.parts=L.parts:=by rw[<-hL1];rfl
     have m3:=Mk.so' o L1 (r:=r) (p.mem hc);have h3:Kni F (fun k=>X k\/k= .som r c) (L1.so r (F.ix c) (F.ix (.som r c))):=h1.mk m3 fun _ h=>h;have b3:Ct F (L1.so r (F.ix c) (F.ix (.som r c))) (.som r c):=⟨j3,⟨(L1.fillers r).getD 0 ||| 2^F.ix c,aI rfl,by rw[xh];simp⟩,aI ⟨rfl,rfl⟩⟩;have e3:(L1.so r (F.ix c) (F.ix (.som r c))).parts=L.parts:=e1;have o3:(L1.so r (F.ix c) (F.ix (.som r c))).Ok:=ol.of e1 (by rw[<-hL1];rfl);have n3:=m3.kn _ n1;generalize L1.so r (F.ix c) (F.ix (.som r c))=L3 at m3 h3 b3 e3 o3 n3⊢;obtain⟨h4,m4,n4⟩:=qM o c (fun k=>X k\/k= .som r c) (p.of_eq e3.symm) o3 (by rw[e3];exact hc) (fun x hx=>by
      rcases hx with hx | hx
      · have:=hX x hx;lia
      · rw[hx];lia) h3
     refine⟨fun k' hk' hi nx=> ?_,(m1.trans m3).trans m4,m4.kn _ n3⟩;by_cases e:k'= .som r c
     · subst e;exact⟨m4.ct _ hk' b3,n4⟩
     · exact h4 k' hk' hi fun z=>z.elim nx e
def Ct.of_eq(h2:L'.boths=L.boths)(h3:L'.somes=L.somes)(h4:L'.fillers=L.fillers)(h5:L'.wholes=L.wholes)(k:Kd):Ct F L' k=Ct F L k:=by
 cases k<;>simp only[Ct,h2,h3,h4,h5]
def Mk.of_eq(h1:L'.known=L.known)(h2:L'.boths=L.boths)(h3:L'.somes=L.somes)(h4:L'.fillers=L.fillers)(h5:L'.wholes=L.wholes):Mk F L L':=⟨fun i h=>by rw[h1];exact h,fun k _ h=>by rw[Ct.of_eq h2 h3 h4 h5];exact h⟩
abbrev Gr(F L:LoI):Prop:=Kni F (fun _=>False) L
structure Ks(F L L':LoI):Prop where
 k0:Gr F L'
 kn:∀i∈L.known,i∈L'.known
def Ks.trans(a:Ks F L L')(b:Ks F L' L''):Ks F L L'':=⟨b.k0,fun i h=>b.kn i (a.kn i h)⟩
def Fv{F L:LoI}(o:F.Ok){k:Kd}(h:Gr F L)(ol:L.Ok)(p:Px (LoI.kk k L) F):Ks F L (LoI.kk k L)/\F.ix k∈(LoI.kk k L).known:=by
 obtain⟨e0,_,_,_,_,_,e6,e7,e8,e9⟩:=LoI.num_rest k L;have m:Mk F L (LoI.num k L):= .of_eq e0 e6 e7 e8 e9;obtain⟨a,b,c⟩:=qM o k (fun _=>False) (p.of_eq (LoI.know_rest k _).1) (LoI.num_ok k ol) (LoI.num_has k L) (fun _ h=>h.elim) (h.mk m fun i hi=>by rw[e0] at hi;exact hi);exact⟨⟨a,fun i hi=>b.kn i (m.kn i hi)⟩,c⟩
theorem Ft(o:F.Ok):∀(l:List (Str × Kd)) {L:LoI},Gr F L->L.Ok->Px (l.foldl LoI.kkp L) F->Ks F L (l.foldl LoI.kkp L)/\∀q∈l,q.1="kind"->F.ix q.2∈(l.foldl LoI.kkp L).known
 | [],L,h,_,_=>⟨⟨h,fun _ h=>h⟩,fun _ h=>(ai h).elim⟩
 | q::l,L,h,ol,p=>by
   have p1:Px (L.kkp q) F:=(qN l _).trans p;have key:Ks F L (L.kkp q)/\(q.1="kind"->F.ix q.2∈(L.kkp q).known):=by
    unfold LoI.kkp at p1⊢
    split at p1
    · rename_i c;rw[aI c];exact⟨(Fv o h ol p1).1,fun _=>(Fv o h ol p1).2⟩
    · rename_i c;rw[aD c];exact⟨⟨h,fun _ h=>h⟩,fun z=>(c z).elim⟩
   obtain⟨a,b⟩:=Ft o l key.1.k0 (LoI.kkp_ok q ol) p;refine⟨key.1.trans a,fun q' hq e=> ?_⟩;rcases aE.mp hq with hq | hq
   · subst hq;exact a.kn _ (key.2 e)
   · exact b q' hq e
def Lu(h:Gr F L):Gr F (LoI.tb n s L)/\(LoI.tb n s L).known=L.known:=by cases s<;>exact⟨h.mk (.of_eq rfl rfl rfl rfl rfl) fun _ h=>h,rfl⟩
def Fk{F L:LoI}(o:F.Ok){n:Int}{s:Sy}(h:Gr F L)(ol:L.Ok)(p:Px (LoI.learn n s L) F):Ks F L (LoI.learn n s L)/\∀k∈s.knK,F.ix k∈(LoI.learn n s L).known:=by
 obtain⟨a,b⟩:=Ft o s.sg.ps h ol (p.of_eq (iR n s _));obtain⟨c,d⟩:=Lu (n:=n) (s:=s) a.k0;refine⟨⟨c,fun i hi=> ?_⟩,fun k hk=> ?_⟩
 · show i∈(LoI.tb n s (s.sg.ps.foldl LoI.kkp L)).known;rw[d];exact a.kn i hi
 · show _∈(LoI.tb n s (s.sg.ps.foldl LoI.kkp L)).known;rw[d];exact b _ (wR hk) rfl
theorem uT(o:F.Ok):∀(l:List (Int × Sy)) {L:LoI},Gr F L->L.Ok->Px (l.foldl (fun L q=>LoI.learn q.1 q.2 L) L) F->Ks F L (l.foldl (fun L q=>LoI.learn q.1 q.2 L) L)/\∀q∈l,∀k∈q.2.knK,F.ix k∈(l.foldl (fun L q=>LoI.learn q.1 q.2 L) L).known
 | [],L,h,_,_=>⟨⟨h,fun _ h=>h⟩,fun _ h=>(ai h).elim⟩
 | q::l,L,h,ol,p=>by
   obtain⟨c,d⟩:=Fk o h ol ((iM l _).trans p);obtain⟨a,b⟩:=uT o l c.k0 (LoI.learn_ok q.1 q.2 ol) p;refine⟨c.trans a,fun q' hq k hk=> ?_⟩;rcases aE.mp hq with hq | hq
   · subst hq;exact a.kn _ (d k hk)
   · exact b q' hq k hk
theorem Fu(o:F.Ok):∀(l:List Kd) {L:LoI},Gr F L->L.Ok->Px (l.foldl (fun L k=>LoI.kk k L) L) F->Ks F L (l.foldl (fun L k=>LoI.kk k L) L)/\∀k∈l,F.ix k∈(l.foldl (fun L k=>LoI.kk k L) L).known
 | [],L,h,_,_=>⟨⟨h,fun _ h=>h⟩,fun _ h=>(ai h).elim⟩
 | q::l,L,h,ol,p=>by
   obtain⟨c,d⟩:=Fv o h ol ((jW l _).trans p);obtain⟨a,b⟩:=Fu o l c.k0 (LoI.kk_ok q ol) p;refine⟨c.trans a,fun k hk=> ?_⟩;rcases aE.mp hk with hk | hk
   · subst hk;exact a.kn _ d
   · exact b k hk
theorem sW(o:F.Ok)(h:Gr F L):∀k,k∈F.parts->F.ix k∈L.known->Her (Ct F L) k
 | .nm x,hk,hi=>(h _ hk hi fun z=>z).1
 | .two a b,hk,hi=>by
   obtain⟨c,d⟩:=h _ hk hi fun z=>z;obtain⟨ha,hb,_⟩:=o.sh _ hk;exact⟨c,sW o h a ha d.1,sW o h b hb d.2⟩
 | .som r c,hk,hi=>by
   obtain⟨e,d⟩:=h _ hk hi fun z=>z;exact⟨e,sW o h c (o.sh _ hk).1 d⟩
def L4(o:F.Ok)(p:Px (LoI.of ps fs) F):(∀q∈ps,∀k∈q.2.knK,k∈F.parts->Her (Ct F (LoI.of ps fs)) k)/\∀k∈fs,k∈F.parts->Her (Ct F (LoI.of ps fs)) k:=by
 have h0:Gr F LoI.init:=fun k _ hi _=>by
  rw[mf] at hi;cases hi
 obtain⟨a,b⟩:=uT o ps h0 LoI.init_ok ((jW fs _).trans p);obtain⟨c,d⟩:=Fu o fs a.k0 (jj (fun L q o=>LoI.learn_ok _ _ o) _ LoI.init_ok) p;exact⟨fun q hq k hk hp=>sW o c.k0 k hp (c.kn _ (b q hq k hk)),fun k hk hp=>sW o c.k0 k hp (d k hk)⟩
def Ent(F L:LoI)(n:Int):Sy->Prop
 | .every a b=>(F.ix b,n)∈L.everys (F.ix a)
 | .no a b=>(F.ix b,n,true)∈L.nos (F.ix a)/\(F.ix a,n,false)∈L.nos (F.ix b)
 | .within r s=>(s,n)∈L.withins r
 | .makes r s t=>(s,t,n)∈L.mk1 r/\(r,t,n)∈L.mk2 s
 | _=>True
def Ent.of_eq(e1:L'.everys=L.everys)(e2:L'.nos=L.nos)(e3:L'.withins=L.withins)(e4:L'.mk1=L.mk1)(e5:L'.mk2=L.mk2)(h:Ent F L n s):Ent F L' n s:=by
 cases s<;>simp only[Ent,e1,e2,e3,e4,e5] at h⊢ <;>exact h
def Ent.kk(k:Kd)(h:Ent F L n s):Ent F (LoI.kk k L) n s:=by
 obtain⟨_,e1,e2,e3,e4,e5,_⟩:=LoI.num_rest k L;exact wU (Q:=fun L=>Ent F L n s) (fun _ _ h=>h.of_eq rfl rfl rfl rfl rfl) (fun _ _ _ _ h=>h.of_eq rfl rfl rfl rfl rfl) (fun _ _ _ _ h=>h.of_eq rfl rfl rfl rfl rfl) k (h.of_eq e1 e2 e3 e4 e5)
def Ent.kkp(p:Str × Kd)(h:Ent F L n s):Ent F (L.kkp p) n s:=by
 unfold LoI.kkp
 split
 · exact h.kk _
 · exact h
theorem Ent.kks:∀(l:List (Str × Kd)) {L:LoI},Ent F L n s->Ent F (l.foldl LoI.kkp L) n s
 | [],_,h=>h
 | q::l,_,h=>Ent.kks l (h.kkp q)
def Ent.learn(m:Int)(u:Sy)(h:Ent F L n s):Ent F (LoI.learn m u L) n s:=by
 have h1:Ent F (LoI.kks u L) n s:=h.kks u.sg.ps;unfold LoI.learn;generalize LoI.kks u L=L1 at h1⊢;cases u<;>cases s<;>first | exact h1 | exact ji h1 | exact⟨ji (ji h1.1),ji (ji h1.2)⟩ | exact⟨ji h1.1,ji h1.2⟩
def Ent.new(p:Px (LoI.learn n s L) F):Ent F (LoI.learn n s L) n s:=by
 have hp:Px (LoI.kks s L) F:=p.of_eq (iR n s _);have ix:∀{k:Kd},k∈s.knK->F.ix k=(LoI.kks s L).ix k:=fun h=>hp.ix (mO L (wR h));unfold LoI.learn;cases s with
 | every a b=>
   have ha:=ix (k:=a) (by simp[Sy.knK]);have hb:=ix (k:=b) (by simp[Sy.knK]);show(F.ix b,n)∈pZ _ _ _ (F.ix a);rw[ha,hb];exact j3
 | no a b=>
   have ha:=ix (k:=a) (by simp[Sy.knK]);have hb:=ix (k:=b) (by simp[Sy.knK]);show(F.ix b,n,true)∈pZ _ _ _ (F.ix a)/\(F.ix a,n,false)∈pZ _ _ _ (F.ix b);rw[ha,hb];exact⟨ji j3,j3⟩
 | within r t=>exact j3
 | makes r t u=>exact⟨j3,j3⟩
 | thing _ _=>trivial
 | tied _ _ _=>trivial
theorem Ent.learns:∀(l:List (Int × Sy)) {L:LoI},Ent F L n s->Ent F (l.foldl (fun L q=>LoI.learn q.1 q.2 L) L) n s
 | [],_,h=>h
 | q::l,_,h=>Ent.learns l (h.learn q.1 q.2)
theorem Ent.kkl:∀(l:List Kd) {L:LoI},Ent F L n s->Ent F (l.foldl (fun L k=>LoI.kk k L) L) n s
 | [],_,h=>h
 | q::l,_,h=>Ent.kkl l (h.kk q)
theorem tf:∀(l:List (Int × Sy)) {L:LoI},Px (l.foldl (fun L q=>LoI.learn q.1 q.2 L) L) F->∀q∈l,Ent F (l.foldl (fun L q=>LoI.learn q.1 q.2 L) L) q.1 q.2
 | [],_,_,_,h=>(ai h).elim
 | q::l,L,p,q',hq=>by
   rcases aE.mp hq with hq | hq
   · subst hq;exact Ent.learns l (Ent.new ((iM l _).trans p))
   · exact tf l p q' hq
def J_(p:Px (LoI.of ps fs) F):∀q∈ps,Ent F (LoI.of ps fs) q.1 q.2:=fun q hq=>Ent.kkl fs (tf ps ((jW fs _).trans p) q hq)
end
structure Rl(L:LoI)(S:StI):Prop where
 rel:S.steps.map (·.f)=S.facts.map (FJ L)
 fr:∀s∈S.steps,s.fr.length<=2
section
def Rl.keep{L:LoI}{S:StI}(h:Rl L S)(f:Fi)(r:Str){fr:List Int}(nn:Option Int)(hf:fr.length<=2):Rl L (S.keep f ⟨FJ L f,r,fr,nn⟩):=by
 refine⟨?_,fun s hs=> ?_⟩
 · show(S.steps++[_]).map _=(S.facts++[f]).map _;rw[bx,bx,h.rel];rfl
 · rcases aw.mp hs with hs | hs
   · exact h.fr s hs
   · rw[ag.mp hs];exact hf
def Rl.tellIs(h:Rl L S)(x k:Nat)(r:Str)(fr:List Int)(nn:Option Int)(hf:fr.length<=2):Rl L (StI.tellIs L S x k r fr nn):=by
 unfold StI.tellIs
 split
 · exact h
 · exact h.keep (.is x k) r nn hf
def Rl.letStand(h:Rl L S)(x:Nat):Rl L (StI.letStand L S x):=by
 unfold StI.letStand
 split
 · exact h
 · refine Rl.tellIs ?_ x 0 "all" [] none (ay _);have h1:Rl L (S.addS x):=⟨h.rel,h.fr⟩
   split
   · exact h1
   · exact h1.tellIs x x "self" [] none (ay _)
def Rl.ind(L:LoI):Ind L (Rl L):=⟨fun x k r fr nn hf h=>h.tellIs x k r fr nn hf,fun x t y r fr nn hf h=>by
 unfold StI.tellHas
 split
 · exact h
 · exact(h.keep (.has x t y) r nn hf).letStand y⟩
def Sf(L:LoI)(S:StI):Prop:=∀i∈S.stand,gU (L.pt i)=true\/Fi.is i i∈S.facts
def Sf.letStand(h:Sf L S)(x:Nat):Sf L (StI.letStand L S x):=by
 unfold StI.letStand
 split
 · exact h
 · intro i hi;have t0:=fun S=>bM L S x 0 "all" [] none;have t1:=bM L (S.addS x) x x "self" [] none;rw[(t0 _).2.1] at hi;by_cases c:gU (L.pt x)=true
   · rw[aI c] at hi⊢;rcases aw.mp hi with hi | hi
     · exact(h i hi).imp id fun z=>(t0 _).1 _ z
     · rw[ag.mp hi];exact .inl c
   · rw[aD c] at hi⊢;rw[t1.2.1] at hi;rcases aw.mp hi with hi | hi
     · exact(h i hi).imp id fun z=>(t0 _).1 _ (t1.1 _ z)
     · rw[ag.mp hi];exact .inr ((t0 _).1 _ t1.2.2)
def Sf.ind(L:LoI):Ind L (Sf L):=⟨fun x k r fr nn hf h i hi=>by
 obtain⟨a,b,_⟩:=bM L _ x k r fr nn;rw[b] at hi;exact(h i hi).imp id (a _),fun x t y r fr nn hf h=>by
 unfold StI.tellHas
 split
 · exact h
 · refine Sf.letStand ?_ y;intro i hi;exact(h i hi).imp id fun z=>aM _ z⟩
def Kk(L:LoI)(S:StI)(x:Nat):x∈(StI.letStand L S x).stand:=by
 unfold StI.letStand
 split
 · assumption
 · rw[(bM L _ x 0 "all" [] none).2.1]
   split
   · exact aL _ (ag.mpr rfl)
   · rw[(bM L _ x x "self" [] none).2.1];exact aL _ (ag.mpr rfl)
def B8{L:LoI}{S:StI}{Q:StI->Prop}(I:Ind L Q){S0:StI}{n:Nat}(r:xn L S0 n S)(h:Q S0):Q S:=by
 induction r with
 | zero=>exact h
 | step _ _ ih=>exact I.turn _ _ ih
def nZ(I:Ind L Q)(q:Int × Sy)(h:Q S):Q (tM L S q):=by
 unfold tM
 split
 · exact I.is _ _ _ _ _ (ay _) h
 · exact I.has _ _ _ _ _ _ (ay _) h
 · exact h
theorem FZ:∀{l:List Kd} {S:StI} {k:Kd},k∈l->L.ix k∈(l.foldl (AM L) S).stand
 | a::l,S,k,h=>by
   rcases aE.mp h with h | h
   · subst h;exact(Le.fold (fun S k=>Le.bg1 L S k) l _).st _ (Kk L S _)
   · exact FZ (l:=l) h
def Mv(ks:List Kd)(ps:List (Int × Sy)):Rl L (ps.foldl (tM L) (ks.foldl (AM L) StI.emp))/\Sf L (ps.foldl (tM L) (ks.foldl (AM L) StI.emp)):=⟨dQ (dQ ⟨rfl,fun _ h=>(ai h).elim⟩ fun _ _ _ h=>h.letStand _) fun _ q _ h=>nZ (Rl.ind L) q h,dQ (P:=Sf L) (dQ (P:=Sf L) (fun _ h=>(ai h).elim) fun _ _ _ h=>h.letStand _) fun _ q _ h=>nZ (Sf.ind L) q h⟩
end
structure Na(ps:List (Int × Sy))(roots:List Kd)(kn:Kd->Prop)(C:List Fa):Prop where
 ev:∀q∈ps,∀a b X,q.2= .every a b->Fa.is X a∈C->Fa.is X b∈C
 no:∀q∈ps,∀a b X,q.2= .no a b->Fa.is X a∈C->Fa.is X b∈C->Fa.is X mh∈C
 wi:∀q∈ps,∀r s X Y,q.2= .within r s->Fa.has X r Y∈C->Fa.has X s Y∈C
 ma:∀q∈ps,∀r s t X Y Z,q.2= .makes r s t->Fa.has X r Y∈C->Fa.has Y s Z∈C->Fa.has X t Z∈C
 th:∀q∈ps,∀x c,q.2= .thing x c->Fa.is (.nm x) c∈C
 ti:∀q∈ps,∀x t y,q.2= .tied x t y->Fa.has (.nm x) t (.nm y)∈C
 bo:∀a b X,kn (.two a b)->Fa.is X a∈C->Fa.is X b∈C->Fa.is X (.two a b)∈C
 tw:∀a b X,Fa.is X (.two a b)∈C->Fa.is X a∈C/\Fa.is X b∈C
 so:∀r c X,Fa.is X (.som r c)∈C->Fa.has X r c∈C
 ke:∀r c X Y,kn (.som r c)->Fa.has X r Y∈C->Fa.is Y c∈C->Fa.is X (.som r c)∈C
 vo:∀r X Y,Fa.has X r Y∈C->Fa.is Y mh∈C->Fa.is X mh∈C
 rt:∀k,(k∈roots\/∃X r,Fa.has X r k∈C)->Fa.is k F2∈C/\(gV k=true\/Fa.is k k∈C)
def Tb(A L:LoI):Prop:=L.known=A.known/\L.everys=A.everys/\L.nos=A.nos/\L.withins=A.withins/\L.mk1=A.mk1/\L.mk2=A.mk2/\L.boths=A.boths/\L.somes=A.somes/\L.fillers=A.fillers/\L.wholes=A.wholes
def Tb.num(h:Tb A L)(k:Kd):Tb A (LoI.num k L):=by
 obtain⟨a0,a1,a2,a3,a4,a5,a6,a7,a8,a9⟩:=LoI.num_rest k L;obtain⟨b0,b1,b2,b3,b4,b5,b6,b7,b8,b9⟩:=h;exact⟨a0.trans b0,a1.trans b1,a2.trans b2,a3.trans b3,a4.trans b4,a5.trans b5,a6.trans b6,a7.trans b7,a8.trans b8,a9.trans b9⟩
theorem sN:∀(l:List (Int × Sy)) {L:LoI},∀q∈l,∀k∈q.2.knK,k∈(l.foldl (fun L q=>LoI.learn q.1 q.2 L) L).parts
 | [],_,_,h,_,_=>(ai h).elim
 | q::l,L,q',hq,k,hk=>by
   rcases aE.mp hq with hq | hq
   · subst hq;refine(iM l _).mem (?_:k∈(LoI.tb q'.1 q'.2 (LoI.kks q'.2 L)).parts);rw[iR];exact mO L (wR hk)
   · exact sN l q' hq k hk
theorem B4:∀(l:List Kd) {L:LoI},∀k∈l,k∈(l.foldl (fun L k=>LoI.kk k L) L).parts
 | [],_,_,h=>(ai h).elim
 | q::l,L,k,hk=>by
   rcases aE.mp hk with hk | hk
   · subst hk;refine(jW l _).mem (?_:k∈(LoI.know k (LoI.num k L)).parts);rw[(LoI.know_rest k _).1];exact LoI.num_has k L
   · exact B4 l k hk
def vG(st:zr ts ps ks fs Tn S')(pp:∀k∈(d5 ks Tn ps (LoI.of ps fs,StI.emp)).1.parts,gU k=true->gV k=true):∃kn:Kd->Prop,Na ps (ks++(dM ps).map Kd.nm) kn (S'.steps.map (·.f))/\(∀q∈ps,∀k∈q.2.knK,Her kn k)/\(∀k∈fs,Her kn k)/\(∀s∈S'.steps,s.fr.length<=2/\∃f∈S'.facts,s.f=FJ (d5 ks Tn ps (LoI.of ps fs,StI.emp)).1 f/\f.rg (d5 ks Tn ps (LoI.of ps fs,StI.emp)).1.parts.length ts):=by
 have px1:Px (LoI.of ps fs) (d5 ks Tn ps (LoI.of ps fs,StI.emp)).1:=KS;have tb:Tb (LoI.of ps fs) (d5 ks Tn ps (LoI.of ps fs,StI.emp)).1:=Cm (Q:=Tb (LoI.of ps fs)) st.tn.2 ⟨rfl,rfl,rfl,rfl,rfl,rfl,rfl,rfl,rfl,rfl⟩ (fun k _ L h=>h.num k) (fun x _ L h=>h.num _) (fun q _ k _ L h=>h.num k);have o:=st.ok;have wf:=st.wf;obtain⟨n,rc,hn⟩:=st.rch;have e2:=zd (L:=(d5 ks Tn ps (LoI.of ps fs,StI.emp)).1) ps (p:=(ks++Tn.map Kd.nm).foldl kZ (LoI.of ps fs,StI.emp)) (Px.refl _);have e1:=ze (L:=(d5 ks Tn ps (LoI.of ps fs,StI.emp)).1) (ks++Tn.map Kd.nm) (p:=(LoI.of ps fs,StI.emp)) (nV ps _);have eB:(d5 ks Tn ps (LoI.of ps fs,StI.emp)).2=ps.foldl (tM (d5 ks Tn ps (LoI.of ps fs,StI.emp)).1) ((ks++Tn.map Kd.nm).foldl (AM (d5 ks Tn ps (LoI.of ps fs,StI.emp)).1) StI.emp):=by
  have:=e2.1;rw[e1.1] at this;exact this
 have m1:=e1.2;have m2:=e2.2;clear e1 e2;have pi:=(IP ps fs).trans px1;generalize d5 ks Tn ps (LoI.of ps fs,StI.emp)=B at px1 tb o wf rc eB m1 m2 pi pp⊢;obtain⟨L,S0⟩:=B;dsimp only at px1 tb o wf rc eB m1 m2 pi pp⊢;obtain⟨b1,b2⟩:=Mv (L:=L) (ks++Tn.map Kd.nm) ps;rw[<-eB] at b1 b2;have rl:=B8 (Rl.ind L) rc b1;have sf:=B8 (Sf.ind L) rc b2;have le:=JE rc;have li:LoI.init.parts.length=2:=by rw[mf];rfl
 have i0:L.ix F2=0:=by rw[<-pW o (i:=0) (ax (by rw[li];decide) pi.le),pi.pt (by rw[li];decide),mf];rfl
 have i1:L.ix mh=1:=by rw[<-pW o (i:=1) (ax (by rw[li];decide) pi.le),pi.pt (by rw[li];decide),mf];rfl
 have inP:∀{k:Kd},L.ix k<L.parts.length->k∈L.parts:=fun {k} h=>K4.mp h;have ofI:∀{X K:Kd},Fi.is (L.ix X) (L.ix K)∈S'.facts->Fa.is X K∈S'.steps.map (·.f):=fun {X K} h=>by
  have rg:=wf.rg _ h;rw[rl.rel];refine bO.mpr ⟨_,h,?_⟩;show Fa.is (L.pt (L.ix X)) (L.pt (L.ix K))=_;rw[nJ (inP rg.1),nJ (inP rg.2)]
 have ofH:∀{X Y:Kd} {t:Str},Fi.has (L.ix X) t (L.ix Y)∈S'.facts->Fa.has X t Y∈S'.steps.map (·.f):=fun {X Y t} h=>by
  have rg:=wf.rg _ h;rw[rl.rel];refine bO.mpr ⟨_,h,?_⟩;show Fa.has (L.pt (L.ix X)) t (L.pt (L.ix Y))=_;rw[nJ (inP rg.1),nJ (inP rg.2.2)]
 have toI:∀{X K:Kd},Fa.is X K∈S'.steps.map (·.f)->Fi.is (L.ix X) (L.ix K)∈S'.facts/\K∈L.parts:=fun {X K} h=>by
  rw[rl.rel] at h;obtain⟨f,hf,e⟩:=bO.mp h;have rg:=wf.rg _ hf;cases f with
  | is x k=>cases e;rw[pW o rg.1,pW o rg.2];exact⟨hf,mI rg.2⟩
  | has x t y=>cases e
 have toH:∀{X Y:Kd} {t:Str},Fa.has X t Y∈S'.steps.map (·.f)->Fi.has (L.ix X) t (L.ix Y)∈S'.facts/\Y∈L.parts:=fun {X Y t} h=>by
  rw[rl.rel] at h;obtain⟨f,hf,e⟩:=bO.mp h;have rg:=wf.rg _ hf;cases f with
  | is x k=>cases e
  | has x t y=>cases e;rw[pW o rg.1,pW o rg.2.2];exact⟨hf,mI rg.2.2⟩
 have T1:∀{f:Fi},f∈S'.facts->Tw L S' f f:=GD rc hn;have T2:∀{f g:Fi},f∈S'.facts->g∈S'.facts->Tw L S' f g\/Tw L S' g f:=GC rc hn;obtain⟨t0,t1,t2,t3,t4,t5,t6,t7,t8,t9⟩:=tb;have en:∀q∈ps,Ent L L q.1 q.2:=fun q hq=>(J_ px1 q hq).of_eq t1 t2 t3 t4 t5;have cte:∀k,Ct L L k=Ct L (LoI.of ps fs) k:=Ct.of_eq t6 t7 t8 t9;obtain⟨c1,c2⟩:=L4 (ps:=ps) (fs:=fs) o px1;have std:∀{k:Kd},k∈L.parts->L.ix k∈S'.stand->Fa.is k F2∈S'.steps.map (·.f)/\(gV k=true\/Fa.is k k∈S'.steps.map (·.f)):=fun {k} hk hs=>by
  refine⟨ofI (by rw[i0];exact wf.st0 _ hs),(sf _ hs).imp (fun z=> ?_) fun z=>ofI z⟩;rw[nJ hk] at z;exact pp k hk z
 refine⟨Ct L L,⟨fun q hq a b X e h=> ?_,fun q hq a b X e h1 h2=> ?_,fun q hq r s X Y e h=> ?_,fun q hq r s t X Y Z e h1 h2=> ?_,fun q hq x c e=> ?_,fun q hq x t y e=> ?_,fun a b X k h1 h2=> ?_,fun a b X h=> ?_,fun r c X h=> ?_,fun r c X Y k h1 h2=> ?_,fun r X Y h1 h2=> ?_,fun k h=> ?_⟩,fun q hq k hk=> ?_,fun k hk=> ?_,fun s hs=>⟨rl.fr s hs,?_⟩⟩
 · have en:=en q hq;rw[e] at en;exact ofI (DM (T1 (toI h).1) en)
 · have en:=en q hq;rw[e] at en;refine ofI (?_:Fi.is (L.ix X) (L.ix mh)∈_);rw[i1];rcases T2 (toI h1).1 (toI h2).1 with t | t
   · exact Iw (e:=(L.ix b,q.1,true)) t en.1
   · exact Iw (e:=(L.ix a,q.1,false)) t en.2
 · have en:=en q hq;rw[e] at en;exact ofH (Cs (T1 (toH h).1) en)
 · have en:=en q hq;rw[e] at en;rcases T2 (toH h1).1 (toH h2).1 with z | z
   · exact ofH (Jn (e:=(s,t,q.1)) z en.1)
   · exact ofH (Jm (e:=(r,t,q.1)) z en.2)
 · refine ofI (le.mem ?_);rw[eB];refine eE (g:=tM L) (P:=fun _=>True) (fun S q=>nZ (Le.ind L S) q (.refl S)) (fun _ h=>h) (fun S _=> ?_) hq trivial;unfold tM;rw[e];exact(bM ..).2.2
 · refine ofH (le.mem ?_);rw[eB];refine eE (g:=tM L) (P:=fun _=>True) (fun S q=>nZ (Le.ind L S) q (.refl S)) (fun _ h=>h) (fun S _=> ?_) hq trivial;unfold tM;rw[e];exact ki ..
 · rcases T2 (toI h1).1 (toI h2).1 with t | t
   · exact ofI (AS (e:=(L.ix b,L.ix (.two a b),true)) t k.1)
   · exact ofI (AS (e:=(L.ix a,L.ix (.two a b),false)) t k.2)
 · obtain⟨h1,h2⟩:=toI h;obtain⟨z1,z2⟩:=DL (T1 h1) (o.sh _ h2).2.2;exact⟨ofI z1,ofI z2⟩
 · obtain⟨h1,h2⟩:=toI h;exact ofH (GB (T1 h1) (o.sh _ h2).2)
 · obtain⟨k1,⟨m,k2,k3⟩,k4⟩:=k;obtain⟨z1,z2⟩:=toI h2;rcases T2 (toH h1).1 z1 with t | t
   · refine ofI (Jl t k2 k3 k4 fun v hv=> ?_);have lv:v<L.parts.length:=by rw[<-o.sl];exact(aO.mp hv).1
     have:=CC o hv;rw[nJ z2] at this;rw[<-this,pW o lv]
   · exact ofI (Jo (t:=r) (e:=(r,L.ix (.som r c))) t k1)
 · refine ofI (?_:Fi.is (L.ix X) (L.ix mh)∈_);have z:=(toI h2).1;rw[i1] at z⊢;rcases T2 (toH h1).1 z with t | t
   · exact DK t
   · exact GA t
 · rcases h with h | ⟨X,r,h⟩
   · have hk:k∈ks++Tn.map Kd.nm:=by
      rcases aw.mp h with h | h
      · exact aM _ h
      · obtain⟨x,hx,rfl⟩:=bO.mp h;exact aL _ (bO.mpr ⟨x,(st.tn.2 x).mpr hx,rfl⟩)
     refine std (m1 k hk) (le.st _ ?_);rw[eB];exact(Le.fold (fun S q=>nZ (Le.ind L S) q (.refl S)) ps _).st _ (FZ hk)
   · obtain⟨h1,h2⟩:=toH h;exact std h2 (wf.hs _ _ _ h1)
 · rw[funext cte];exact c1 q hq k hk (px1.mem ((jW fs _).mem (sN ps q hq k hk)))
 · rw[funext cte];exact c2 k hk (px1.mem (B4 fs k hk))
 · have:=kg (f:=(·.f)) hs;rw[rl.rel] at this;obtain⟨f,hf,e⟩:=bO.mp this;exact⟨f,hf,e.symm,wf.rg f hf⟩
def GY(r:xn L S0 i S)(hi:S.facts.length<=i)(r':xn L S0 j S')(hj:S'.facts.length<=j):S.facts.length=S'.facts.length:=by
 have det:∀{i:Nat} {S:StI},xn L S0 i S->∀{S':StI},xn L S0 i S'->S=S':=fun {i S} r=>by
  induction r with
  | zero=>intro S' r';cases r';rfl
  | step _ e ih=>
    intro S' r';cases r' with
    | step r2 e2=>cases ih r2;rw[e] at e2;cases e2;rfl
 have bnd:∀{i:Nat} {S:StI},xn L S0 i S->i<=S.facts.length:=fun {i S} r=>by
  induction r with
  | zero=>exact ay _
  | step _ e ih=>exact ax (aO.mp ((Le.turn ..).fa _ _ e)).1 (ar _)
 have stop:∀{i j:Nat} {S S':StI},xn L S0 i S->S.facts.length<=i->xn L S0 j S'->j<=i:=fun {i j S S'} r hi r'=>by
  induction r' with
  | zero=>exact ay _
  | @step m T f r2 e ih=>
    rcases eV m i with h | h
    · exact h
    · have:m=i:=by lia
      subst this;cases det r r2;have:=(aO.mp e).1
      lia
 have h1:=stop r hi r';have h2:=stop r' hj r;have:i=j:=by lia
 subst this;rw[det r r']
def Cz(a:zr ts ps ks fs Tn S)(b:zr ts ps ks fs Tn' S'):S.steps.length=S'.steps.length:=by
 obtain⟨i,r,hi⟩:=a.rch;obtain⟨j,r',hj⟩:=b.rch;rw[a.tn.1] at r;rw[b.tn.1] at r';rw[a.sl,b.sl];exact GY r hi r' hj
def D0(k:Kd):Prop:=gU k=false/\gV k=false
def gK(ts:List Str)(k:Kd):Prop:=ju k/\k.nt<=20/\k.dep<=20/\k.sz<=60/\(∀r∈Kd.tieL k,r∈ts)/\Her D0 k
def iF(h:wd t):fU t=true:=by
 obtain⟨h1,h2,h3⟩:=h;unfold fU;rw[aG h1,aG h2];refine eZ.mpr fun c hc=> ?_;obtain⟨c1,c2⟩:=h3 c hc;unfold jq
 first
 | exact aG (Or.inr ⟨c1,c2⟩)
 | (simp only[qU,cM];lia)
def nj(h:thg t):fU t=true:=by
 obtain⟨h1,c,r,e,c1,c2,h3⟩:=h;have hl:=qK t;rw[e] at hl;simp only[aR] at hl;unfold fU;rw[aG (show 1<=t.length by lia),aG h1];refine eZ.mpr fun d hd=> ?_;rw[e] at hd;have:65<=d/\d<=90\/97<=d/\d<=122:=by
  rcases aE.mp hd with rfl | hd
  · exact .inl ⟨c1,c2⟩
  · exact .inr (h3 d hd)
 unfold jq
 first
 | exact aG this
 | (simp only[qU,cM];lia)
def Jj(h:wd t):D0 (.nm t):=by
 obtain⟨h1,h2,h3⟩:=h;have hs:Gn t=false:=by
  cases e:t.cps.toList with
  | nil=>have:=qK t;rw[e] at this;simp at this;lia
  | cons c r=>
    obtain⟨c1,c2⟩:=h3 c (by rw[e];simp);rw[mo e (by lia),aq (by lia)]
 have:=(Jb ⟨h1,h2,h3⟩).2.2.2;exact⟨this.trans hs,hs⟩
def F1:Gn "anything"=false:=by
 rw[mo (c:=97) (r:=[110,121,116,104,105,110,103]) (by decide+kernel) (by decide)];decide
def B0:Gn "nothing"=false:=by
 rw[mo (c:=110) (r:=[111,116,104,105,110,103]) (by decide+kernel) (by decide)];decide
def any_std:D0 (.nm "anything"):=⟨dk_anyK.2.2.2.trans F1,F1⟩
def noth_std:D0 (.nm "nothing"):=⟨dk_nothK.2.2.2.trans B0,B0⟩
theorem wK(hw:∀z∈ws,wd z):∀{k:Kd},oa ws ts k->Her D0 k
 | .nm t,h=>by
   rcases h with h | h | h
   · exact Jj (hw t h)
   · rw[h];exact any_std
   · rw[h];exact noth_std
 | .two a b,h=>⟨⟨rfl,rfl⟩,wK hw h.1,wK hw h.2⟩
 | .som r c,h=>⟨⟨rfl,rfl⟩,wK hw h.2⟩
theorem wL(hw:∀z∈ws,wd z)(ht:∀z∈ts,wd z):∀{k:Kd},oa ws ts k->ju k
 | .nm t,h=>by
   rcases h with h | h | h
   · exact iF (hw t h)
   · rw[h];show fU _=true;decide+kernel
   · rw[h];show fU _=true;decide+kernel
 | .two a b,h=>⟨wL hw ht h.1,wL hw ht h.2⟩
 | .som r c,h=>⟨iF (ht r h.1),wL hw ht h.2⟩
theorem jU:∀{k:Kd},oa ws ts k->∀r∈Kd.tieL k,r∈ts
 | .nm t,_,r,hr=>by cases hr
 | .two a b,h,r,hr=>(aw.mp hr).elim (jU h.1 r) (jU h.2 r)
 | .som t c,h,r,hr=>(aE.mp hr).elim (fun e=>e ▸ h.1) (jU h.2 r)
def Cd(hw:∀z∈ws,wd z)(ht:∀z∈ts,wd z)(h:oa ws ts k)(nt:k.nt<=20)(dp:k.dep<=20):gK ts k:=⟨wL hw ht h,nt,dp,by have:=gY k;lia,jU h,wK hw h⟩
def gP(k:Kd):Prop:=ju k/\k.dep<=20/\k.sz<=60
theorem jY:∀{k:Kd},gP k->Her gP k
 | .nm _,h=>h
 | .two a b,h=>by
   obtain⟨h1,h2,h3⟩:=id h;have e2:1+max a.dep b.dep<=20:=h2;simp only[Kd.sz] at h3;exact⟨h,jY ⟨h1.1,by lia,by lia⟩,jY ⟨h1.2,by lia,by lia⟩⟩
 | .som r c,h=>by
   obtain⟨h1,h2,h3⟩:=id h;have e2:1+c.dep<=20:=h2;simp only[Kd.sz] at h3;exact⟨h,jY ⟨h1.2,by lia,by lia⟩⟩
def gK.gP{ts:List Str}{k:Kd}(h:gK ts k):gP k:=⟨h.1,h.2.2.1,h.2.2.2.1⟩
def gP.len(h:gP k):Fh k:=by
 cases k with
 | nm t=>exact au (eC h.1).2.1 (by decide)
 | two a b=>trivial
 | som r c=>trivial
structure LawD(ts hs:List Str)(ps:List (Int × Sy))(ks fs:List Kd):Prop where
 ht:∀z∈ts,wd z
 lt:ts.length=2
 hh:∀z∈hs,thg z
 pq:∃ws:List Str,(∀z∈ws,wd z)/\∀q∈ps,dS ws ts hs q.2
 pk:∀k∈ks,gK ts k
 pf:∀k∈fs,gK ts k
 l24:ps.length<=24
 sq:jt ps<=252
 sk:gH ks<=57
 sf:gH fs<=57
section
def dS.kn(hw:∀z∈ws,wd z)(ht:∀z∈ts,wd z)(h:dS ws ts hs s):∀k∈s.knK,gK ts k/\k.sz<=7:=by
 have g:∀{k:Kd},dn ws ts k->gK ts k/\k.sz<=7:=fun {k} ⟨h1,h2,h3⟩=>⟨Cd hw ht h3 (by lia) (au h1.1 (by decide)),h1.2.1⟩;intro k hk;cases s<;>simp only[Sy.knK,aE,ai,cF] at hk
 · rcases hk with rfl | rfl
   · exact g h.1
   · exact g h.2
 · rcases hk with rfl | rfl
   · exact g h.1
   · exact g h.2
 · subst hk;exact g h.2
def dS.parts{ts hs ws:List Str}{s:Sy}(hw:∀z∈ws,wd z)(ht:∀z∈ts,wd z)(hh:∀z∈hs,thg z)(h:dS ws ts hs s):∀k∈s.parts,gP k/\k.nt<=20/\k.sz<=7/\∀r∈Kd.tieL k,r∈ts:=by
 have kn:=dS.kn hw ht h;have g:∀{k:Kd},k∈s.knK->gP k/\k.nt<=20/\k.sz<=7/\∀r∈Kd.tieL k,r∈ts:=fun {k} hk=>⟨(kn k hk).1.gP,(kn k hk).1.2.1,(kn k hk).2,(kn k hk).1.2.2.2.2.1⟩;have n:∀{x:Str},fU x=true->gP (.nm x)/\(Kd.nm x).nt<=20/\(Kd.nm x).sz<=7/\∀r∈Kd.tieL (.nm x),r∈ts:=fun {x} hx=>⟨⟨hx,ay _,by show 1<=60;decide⟩,ay _,by show 1<=7;decide,fun r hr=>by cases hr⟩;intro k hk;cases s<;>simp only[Sy.parts,aE,ai,cF] at hk
 · exact g (by simpa[Sy.knK] using hk)
 · exact g (by simpa[Sy.knK] using hk)
 · rcases hk with rfl | rfl
   · exact n (nj (hh _ h.1.1))
   · exact g (by simp[Sy.knK])
 · rcases hk with rfl | rfl | rfl
   · exact n (nj (hh _ h.1.1))
   · exact n (iF (ht _ h.2.2))
   · exact n (nj (hh _ h.2.1.1))
 · rcases hk with rfl | rfl
   · exact n (iF (ht _ h.1))
   · exact n (iF (ht _ h.2))
 · rcases hk with rfl | rfl | rfl
   · exact n (iF (ht _ h.1))
   · exact n (iF (ht _ h.2.1))
   · exact n (iF (ht _ h.2.2))
def dS.ties(h:dS ws ts hs s):∀r∈s.tiesL,r∈ts:=by
 intro r hr;cases s<;>simp only[Sy.tiesL,aw,aE,ai,cF] at hr
 · exact hr.elim (jU h.1.2.2 r) (jU h.2.2.2 r)
 · exact hr.elim (jU h.1.2.2 r) (jU h.2.2.2 r)
 · exact jU h.2.2.2 r hr
 · rw[hr];exact h.2.2
 · rcases hr with rfl | rfl
   · exact h.1
   · exact h.2
 · rcases hr with rfl | rfl | rfl
   · exact h.1
   · exact h.2.1
   · exact h.2.2
def dS.thg{ts hs ws:List Str}{s:Sy}(hh:∀z∈hs,thg z)(h:dS ws ts hs s):∀x∈s.things,K19.thg x:=by
 intro x hx;cases s<;>simp only[Sy.things,aE,ai,cF] at hx
 · subst hx;exact hh _ h.1.1
 · rcases hx with rfl | rfl
   · exact hh _ h.1.1
   · exact hh _ h.2.1.1
def dS.szs(h:dS ws ts hs s):s.szs<=14:=by
 have g:∀{k:Kd},dn ws ts k->k.sz<=7:=fun h=>h.1.2.1;cases s with
 | every a b=>have:=g h.1;have:=g h.2;simp[Sy.szs,Sy.parts];lia
 | no a b=>have:=g h.1;have:=g h.2;simp[Sy.szs,Sy.parts];lia
 | thing x k=>have:=g h.2;simp[Sy.szs,Sy.parts,Kd.sz];lia
 | tied x t y=>simp[Sy.szs,Sy.parts,Kd.sz]
 | within r s=>simp[Sy.szs,Sy.parts,Kd.sz]
 | makes r s t=>simp[Sy.szs,Sy.parts,Kd.sz]
theorem DY:∀{ps:List (Int × Sy)},(∀q∈ps,q.2.szs<=n)->jt ps<=n * ps.length
 | [],_=>ay _
 | q::ps,h=>by
   have h1:=DY (n:=n) (ps:=ps) fun q' hq=>h q' (aK _ hq);have h2:=h q aY;show q.2.szs+jt ps<=n * (ps.length+1);rw[Nat.mul_succ];lia
theorem zK:∀{ks:List Kd},(∀k∈ks,k.sz<=n)->gH ks<=n * ks.length
 | [],_=>ay _
 | q::ks,h=>by
   have h1:=zK (n:=n) (ks:=ks) fun q' hq=>h q' (aK _ hq);have h2:=h q aY;show q.sz+gH ks<=n * (ks.length+1);rw[Nat.mul_succ];lia
theorem tE:∀ps,iu ps=6 * jt ps+2 * ps.length
 | []=>rfl
 | q::ps=>by
   have:=tE ps;show 6 * q.2.szs+2+iu ps=6 * (q.2.szs+jt ps)+2 * (ps.length+1)
   lia
theorem tF:∀ks,jk ks=5 * gH ks
 | []=>rfl
 | k::ks=>by
   have:=tF ks;show 5 * k.sz+jk ks=5 * (k.sz+gH ks)
   lia
theorem qu:∀ks,ks.length<=gH ks
 | []=>ar _
 | k::ks=>by
   have:=qu ks;have:=kP k;show ks.length+1<=k.sz+gH ks
   lia
def LawD.still(d:LawD ts hs ps ks fs):(∀q∈ps,q.2.okS/\q.2.gd 25/\q.2.tsOk ts)/\(∀k∈ks,wI 25 k/\∀r∈Kd.tieL k,r∈ts)/\(∀k∈fs,wI 25 k)/\ps.length<=100/\2+iu ps+jk fs<=40000/\2+iu ps+jk fs+gH ks+3 * ps.length+jt ps<=50000/\(LoI.of ps fs).parts.length+gH ks+3 * ps.length+jt ps<=700/\gL 700 ts<=9800000/\(LoI.of ps fs).Wd ts/\2<=(LoI.of ps fs).parts.length:=by
 obtain⟨ws,hw,pq⟩:=d.pq;have gk:∀{k:Kd},gK ts k->wI 25 k:=fun h=>⟨h.1,au h.2.1 (by decide),bz h.2.2.1 (by decide)⟩;have ol:=J9 ps fs;have l1:=d.l24;have l2:=d.sq;have l3:=d.sk;have l4:=d.sf;refine⟨fun q hq=>⟨(pq q hq).okS,fun k hk=> ?_,fun k hk=>((pq q hq).parts hw d.ht d.hh k hk).2.2.2,fun x t y e=> ?_⟩,fun k hk=>⟨gk (d.pk k hk),(d.pk k hk).2.2.2.2.1⟩,fun k hk=>gk (d.pf k hk),by lia,?_,?_,by lia,?_,J7 (fun q hq=>(pq q hq).ties) fun k hk=>(d.pf k hk).2.2.2.2.1,J8 ps fs⟩
 · obtain⟨h1,h2,h3,_⟩:=(pq q hq).parts hw d.ht d.hh k hk;exact⟨h1.1,by lia,bz h1.2.1 (by decide),by lia⟩
 · have h:=pq q hq;rw[e] at h;exact h.2.2
 · rw[tE,tF];lia
 · rw[tE,tF];lia
 · unfold gL;rw[d.lt];decide
end
theorem Her.and:∀{k:Kd},Her P k->Her Q k->Her (fun k=>P k/\Q k) k
 | .nm _,a,b=>⟨a,b⟩
 | .two _ _,a,b=>⟨⟨a.1,b.1⟩,Her.and a.2.1 b.2.1,Her.and a.2.2 b.2.2⟩
 | .som _ _,a,b=>⟨⟨a.1,b.1⟩,Her.and a.2 b.2⟩
def FOk:Fa->Prop
 | .is x k=>gP x/\gP k
 | .has x t y=>gP x/\fU t=true/\gP y
section
def gQ(k:Kd):Prop:=gP k/\(gU k=true->gV k=true)
def Cb(h:gK ts k):Her gQ k:=Her.and (jY h.gP) (h.2.2.2.2.2.imp fun _ z y=>by rw[z.1] at y;cases y)
def LawD.parts(d:LawD ts hs ps ks fs):∀q∈ps,(∀k∈q.2.parts,gP k/\k.sz<=7)/\(∀k∈q.2.knK,gK ts k)/\∀x∈q.2.things,thg x:=fun q hq=>by
 obtain⟨ws,hw,pq⟩:=d.pq;exact⟨fun k hk=>⟨((pq q hq).parts hw d.ht d.hh k hk).1,((pq q hq).parts hw d.ht d.hh k hk).2.2.1⟩,fun k hk=>((pq q hq).kn hw d.ht k hk).1,(pq q hq).thg d.hh⟩
def LawD.closed{ts hs:List Str}{ps:List (Int × Sy)}{ks fs:List Kd}(d:LawD ts hs ps ks fs){Tn:List Str}{S':StI}(st:zr ts ps ks fs Tn S'):∃kn:Kd->Prop,Na ps (ks++(dM ps).map Kd.nm) kn (S'.steps.map (·.f))/\(∀q∈ps,∀k∈q.2.knK,Her (fun k=>kn k/\gP k) k)/\(∀k∈fs,Her (fun k=>kn k/\gP k) k)/\(∀s∈S'.steps,s.fr.length<=2/\FOk s.f)/\S'.steps.length<=2000000:=by
 have gq:=d.parts;have pp:∀k∈(d5 ks Tn ps (LoI.of ps fs,StI.emp)).1.parts,gQ k:=by
  refine Cm (Q:=fun L=>∀k∈L.parts,gQ k) st.tn.2 (EV (Q:=fun L=>∀k∈L.parts,gQ k) (fun e _ h=>by rw[e];exact h) ?_ (fun q h k hk L hL=>jh k L hL (Cb ((gq q h).2.1 k hk))) (fun k hk L hL=>jh k L hL (Cb (d.pf k hk)))) (fun k hk L hL=>jh k L hL (Cb (d.pk k hk))) (fun x hx L hL=>jh (.nm x) L hL ?_) (fun q h k hk L hL=>jh k L hL (Cb ((gq q h).2.1 k hk)))
  · rw[mf];intro k hk;have hk':k∈([anyW,nothW]:List Kd):=hk;rcases(show k=anyW\/k=nothW by simpa using hk') with rfl | rfl
    · exact⟨⟨by show fU _=true;decide+kernel,ay _,by show 1<=60;decide⟩,fun z=>by rw[any_std.1] at z;cases z⟩
    · exact⟨⟨by show fU _=true;decide+kernel,ay _,by show 1<=60;decide⟩,fun z=>by rw[noth_std.1] at z;cases z⟩
  · obtain⟨q,hq,hx'⟩:=oU hx;have t:=(gq q hq).2.2 x hx';exact⟨⟨nj t,ay _,by show 1<=60;decide⟩,fun z=>by rw[(FP t).2.2.2] at z;exact z⟩
 obtain⟨kn,c,h1,h2,h3⟩:=vG st fun k hk=>(pp k hk).2;refine⟨kn,c,fun q hq k hk=>Her.and (h1 q hq k hk) (jY ((gq q hq).2.1 k hk).gP),fun k hk=>Her.and (h2 k hk) (jY (d.pf k hk).gP),fun s hs=>⟨(h3 s hs).1,?_⟩,?_⟩
 · obtain⟨f,hf,e,rg⟩:=(h3 s hs).2;rw[e];cases f with
   | is x k=>exact⟨(pp _ (mI rg.1)).1,(pp _ (mI rg.2)).1⟩
   | has x t y=>exact⟨(pp _ (mI rg.1)).1,iF (d.ht t rg.2.1),(pp _ (mI rg.2.2)).1⟩
 · have le:=st.wf.cnt;have cb:=st.cb;have sl:=st.sl;have:6 * S'.facts.length+S'.stand.length<=9800000:=au le cb
   lia
end
theorem FOk.ok:∀{f:Fa},FOk f->C7 f
 | .is _ _,h=>⟨h.1.1,h.2.1⟩
 | .has _ _ _,h=>⟨h.1.1,h.2.1,h.2.2.1⟩
theorem FOk.x:∀{f:Fa},FOk f->gP f.x
 | .is _ _,h=>h.1
 | .has _ _ _,h=>h.1
def gP.rp(h:gP k):(om k).length<=1800:=by have:=rZ k h.1;have:=h.2.2;lia
def qD(ik:IsK H k v)(g:gP k)(q:Q (.str (rpK k)) H):gz [v] H Q:=wc ik g.1 (au g.2.1 (by decide)) (au g.2.2 (by decide)) q
def wg(ik:IsF H f v)(o:FOk f)(q:Q (.str (yh f)) H):gz [v] H Q:=by
 cases f with
 | is x k=>
   have l1:=o.1.rp;have l2:=o.2.rp;obtain⟨p,a,b,rfl,hp,ia,ib⟩:=ik;refine⟨.ref p,(Fa.is x k).tx,rfl,⟨p,_,rfl,hp,_,_,rfl,rfl,_,_,rfl,ia.xa,_,_,rfl,ib.xa,rfl⟩,⟨trivial,pV x,pV k,trivial⟩,?_,?_,q⟩
   · show max 0 (max x.tx.py.depth (max k.tx.py.depth 0))+1<=60;rw[kR,kR];have:=o.1.2.1;have:=o.2.2.1;lia
   · rw[nQ,nW _ o.ok];simp only[FL,aR,ah,cJ];exact au (show _<=100000 by lia) (by decide)
 | has x t y=>
   have l1:=o.1.rp;have l2:=o.2.2.rp;have l3:=(eC o.2.1).2.1;rw[nQ] at l3;obtain⟨p,a,b,rfl,hp,ia,ib⟩:=ik;refine⟨.ref p,(Fa.has x t y).tx,rfl,⟨p,_,rfl,hp,_,_,rfl,rfl,_,_,rfl,ia.xa,_,_,rfl,rfl,_,_,rfl,ib.xa,rfl⟩,⟨trivial,pV x,trivial,pV y,trivial⟩,?_,?_,q⟩
   · show max 0 (max x.tx.py.depth (max 0 (max y.tx.py.depth 0)))+1<=60;rw[kR,kR];have:=o.1.2.1;have:=o.2.2.2.1;lia
   · rw[nQ,nW _ o.ok];simp only[FL,aR,ah,cJ];exact au (show _<=100000 by lia) (by decide)
def Nb(kvs:List (Key × V))(C:List Fa):Prop:=∀f,FOk f->(cS kvs (.inr (yh f))).isSome=decide (f∈C)
inductive mD(vs:List V)(H:Hp)(Q:VK):Prop
 | mk:∀d kvs C x k a b,(vs=[.ref d,a,b])->Rd H d (.dK kvs)->Nb kvs C->IsK H x a->IsK H k b->FOk (.is x k)->(∀H',Same H H'->Q (.bl (decide (Fa.is x k∈C))) H')->mD vs H Q
def kB:Sp:=fun vs H Q _=>mD vs H Q
inductive kC(vs:List V)(H:Hp)(Q:VK):Prop
 | mk:∀d kvs C x t y a b,(vs=[.ref d,a,.str t,b])->Rd H d (.dK kvs)->Nb kvs C->IsK H x a->IsK H y b->FOk (.has x t y)->(∀H',Same H H'->Q (.bl (decide (Fa.has x t y∈C))) H')->kC vs H Q
def lB:Sp:=fun vs H Q _=>kC vs H Q
def wj(h:Rd H d u)(s:Same H H'):Rd H' d u:=h.imp (fun z=>s _ _ z) fun⟨o,z⟩=>⟨o,s _ _ z⟩
section
def Ed:bj pP pP (aJ v_):=gy
def C1(F:Fun K "_law_is_told" "_law_is_told" v_ f fd)(mrp:mg "repr"=none):bW P w K mg base eW 1 f fd pP kB:=by
 refine F.o Ed fun cdv A outer s H vs Q E hr h=> ?_;obtain⟨d,kvs,C,x,k,a,b,rfl,hd,hc,ia,ib,ok,q⟩:=h;have hu:=fh hr;refine⟨_,aV (cI (JK (kO hu) (dB (fO hr.gd hr.units) rfl mrp cG (eP (cX (gc aS bf bH)))) aA)),?_⟩;refine⟨by show 3<=sizeLine;decide,fun t0 ht=> ?_⟩;have st:=aj ht (.tup [.str "is",a,b]);dsimp only[iS];refine wg (f:= .is x k) ⟨t0,a,b,rfl,aa,IsK.mono st.tups ia,IsK.mono st.tups ib⟩ ok ?_;refine⟨d,_,rfl,.inl ⟨kvs,.inr (yh (.is x k)),wj hd st,rfl,rfl⟩,?_⟩;rw[hc _ ok];exact q _ st
def CG:bj sj sj (aJ rX):=gy
def Am(F:Fun K "_law_has_told" "_law_has_told" rX f fd)(mrp:mg "repr"=none):bW P w K mg base eW 1 f fd sj lB:=by
 refine F.o CG fun cdv A outer s H vs Q E hr h=> ?_;obtain⟨d,kvs,C,x,t,y,a,b,rfl,hd,hc,ia,ib,ok,q⟩:=h;have hu:=fh hr;refine⟨_,aV (cI (JK (kO hu) (dB (fO hr.gd hr.units) rfl mrp cG (eP (cX (iU aS bf bH bU)))) aA)),?_⟩;refine⟨by show 4<=sizeLine;decide,fun t0 ht=> ?_⟩;have st:=aj ht (.tup [.str "has",a,.str t,b]);dsimp only[iS];refine wg (f:= .has x t y) ⟨t0,a,b,rfl,aa,IsK.mono st.tups ia,IsK.mono st.tups ib⟩ ok ?_;refine⟨d,_,rfl,.inl ⟨kvs,.inr (yh (.has x t y)),wj hd st,rfl,rfl⟩,?_⟩;rw[hc _ ok];exact q _ st
end
structure CE(H:Hp)(dc lp:Addr)(ps:List (Int × Sy))(roots:List Kd)(kn:Kd->Prop)(C:List Fa):Prop where
 cl:∃kvs,Rd H dc (.dK kvs)/\Nb kvs C
 pr:∃ys,H lp=some (.lst ys)/\PrL H ys ps
 pg:∀q∈ps,∀k∈q.2.parts,gP k
 cg:∀f∈C,FOk f
 clo:Na ps roots kn C
section
def CE.same(c:CE H dc lp ps roots kn C)(s:Same H H'):CE H' dc lp ps roots kn C:=by
 obtain⟨⟨kvs,h1,h2⟩,⟨ys,h3,h4⟩,h5,h6,h7⟩:=c;exact⟨⟨kvs,wj h1 s,h2⟩,⟨ys,s _ _ h3,PrL.mono s.tups h4⟩,h5,h6,h7⟩
def zE(hd:H d=some (.dK kvs)):Tups H (upd H d u):=fun b xs e=>by rw[aB (fun z=>by rw[z,hd] at e;cases e)];exact e
def Lr(hd:H d=some (.lst xs)):Tups H (upd H d u):=fun b xs e=>by rw[aB (fun z=>by rw[z,hd] at e;cases e)];exact e
def HF(hd:H d=some (.dK kvs))(e:H q=some (.lst vs)):upd H d u q=some (.lst vs):=by rw[aB (fun z=>by rw[z,hd] at e;cases e)];exact e
def CE.frz{H:Hp}{dc lp d:Addr}{ps:List (Int × Sy)}{roots:List Kd}{kn:Kd->Prop}{C:List Fa}{kvs:List (Key × V)}{o:Obj}(c:CE H dc lp ps roots kn C)(n:dc≠d)(hd:H d=some (.dK kvs)):CE (upd H d (.frz o (.dK kvs))) dc lp ps roots kn C:=by
 obtain⟨⟨kv,h1,h2⟩,⟨ys,h3,h4⟩,h5,h6,h7⟩:=c;exact⟨⟨kv,by unfold Rd;rw[aB n];exact h1,h2⟩,⟨ys,HF hd h3,PrL.mono (zE hd) h4⟩,h5,h6,h7⟩
def ot(hd:H d=some (.dK kvs))(s:Same (upd H d (.frz o (.dK kvs))) H'):Same H (upd H' d (.dK kvs)):=fun b u e=>by
 by_cases z:b=d
 · subst z;rw[hd] at e;rw[aa,e]
 · rw[aB z];exact s b u (by rw[aB z];exact e)
def CE.is{H:Hp}{dc lp:Addr}{ps:List (Int × Sy)}{roots:List Kd}{kn:Kd->Prop}{C:List Fa}(c:CE H dc lp ps roots kn C){x k:Kd}{a b:V}{Q:VK}(ia:IsK H x a)(ib:IsK H k b)(gx:gP x)(gk:gP k)(q:∀H' z,Same H H'->(z=true↔Fa.is x k∈C)->Q (.bl z) H'):mD [.ref dc,a,b] H Q:=by
 obtain⟨kvs,h1,h2⟩:=c.cl;exact⟨dc,kvs,C,x,k,a,b,rfl,h1,h2,ia,ib,⟨gx,gk⟩,fun H' s=>q H' _ s O8⟩
def CE.has{H:Hp}{dc lp:Addr}{ps:List (Int × Sy)}{roots:List Kd}{kn:Kd->Prop}{C:List Fa}(c:CE H dc lp ps roots kn C){x y:Kd}{t:Str}{a b:V}{Q:VK}(ia:IsK H x a)(ib:IsK H y b)(gx:gP x)(gt:gP (.nm t))(gk:gP y)(q:∀H' z,Same H H'->(z=true↔Fa.has x t y∈C)->Q (.bl z) H'):kC [.ref dc,a,.str t,b] H Q:=by
 obtain⟨kvs,h1,h2⟩:=c.cl;exact⟨dc,kvs,C,x,t,y,a,b,rfl,h1,h2,ia,ib,⟨gx,gt.1,gk⟩,fun H' s=>q H' _ s O8⟩
def vB{e:Key × V}(h:e∈kvs):∃v,cS kvs e.1=some v/\(e.1,v)∈kvs:=by
 unfold cS;cases z:kvs.find? fun kv=>decide (kv.1=e.1) with
 | none=>exact absurd (List.find?_eq_none.mp z e h) (by simp)
 | some u=>
   have h1:=List.find?_some z;have h2:=Jf z;refine⟨u.2,rfl,?_⟩;have:u.1=e.1:=by simpa using h1
   rw[<-this];exact h2
end
def KD:gP F2:=⟨by show fU _=true;decide+kernel,ay _,by show 1<=60;decide⟩
def Cc:gP mh:=⟨by show fU _=true;decide+kernel,ay _,by show 1<=60;decide⟩
def gP.two(h:gP (.two a b)):gP a/\gP b:=⟨(jY h).2.1.self,(jY h).2.2.self⟩
def gP.som(h:gP (.som r c)):gP (.nm r)/\gP c:=⟨⟨h.1.1,ay _,by show 1<=60;decide⟩,(jY h).2.self⟩
inductive pJ(vs:List V)(H:Hp)(Q:VK):Prop
 | mk:∀a dc lp dn x ps roots kn C kvk,(vs=[a,.ref dc,.ref lp,.ref dn])->IsK H x a->gP x->CE H dc lp ps roots kn C->dc≠dn->H dn=some (.dK kvk)->KnAt (fun k=>kn k/\gP k) H kvk->(x∈roots\/∃X r,Fa.has X r x∈C)->(∀H',Same H H'->Q (.bl true) H')->pJ vs H Q
def uL:Sp:=fun vs H Q _=>pJ vs H Q
section
def scByKinds:bj ["_law_x","_law_claims","_law_pairs","_law_known_here","_law_written","_law_kind_here","_law_number","_law_saying_here"] BL (aJ rY):=gy
def Ap(F:Fun K "_law_by_kinds" "_law_by_kinds" rY f fd)(mi:mg "isinstance"=none)(mt:mg "tuple"=none)(Git:Cl P w K mg base 1 "_law_is_told" pP kB)(Gsg:Cl P w K mg base 1 "_law_single" je xP):bW P w K mg base eW 2 f fd BL uL:=by
 refine F.o scByKinds fun cdv A outer s H vs Q E hr h=> ?_;obtain⟨a,dc,lp,dn,x,ps,roots,kn,C,kvk,rfl,ia,gx,ce,ndc,hdn,ka,hw,q⟩:=h;have hu:=fh hr;refine⟨_,aZ (wu (jR (wy bU) (e_ 4 scByKinds.nd) (aZ (fz 5 scByKinds.nd (Ah hu bU bX)) (aV (bA (PW.pt (fq (cw (xy mi mt eK dH)) (fq (eI bN (dj dH) aS) (fm (dO (cw (dF Git hr (gc bf aA dH)))))))) (aV (bA (PW.pt (fq (cw (dF Git hr (gc bf aA (dj dH)))) (fm (cw (dF Git hr (gc bf aA (dj dH))))))) (aV (cI dq)) aQ)) aQ)))))
  (aZ (jR (bS bH) (eJ rfl (bw (e_ 6 scByKinds.nd) (bw (e_ 7 scByKinds.nd) dA))) (aZ (bA (PW.pt (fq (eI bN (dj gN) aS) (fq (cw (dF Git hr (gc bf aA (dj gN)))) (fm (dO (cw (dF Git hr (gc bf aA (dj gN))))))))) (aV (cI dq)) aQ) (aV (bA (PW.pt (fq (eI bN (dj gN) aS) (fm (dO (cw (dF Git hr (gc bf aA aS))))))) (aV (bA (PW.pt (fq (cw (dF Git hr (gc bf aA (dj gN)))) (fm (cw (dF Git hr (gc bf aA (dj gN))))))) (aV (cI dq)) aQ)) aQ))))
  (aV (cI (gA (dF Git hr (gc bf aA aS)) (iT (LX (dF Gsg hr (eP aA)) (iT (dF Git hr (gc bf aA aA))))))))),?_⟩
 refine⟨dn,kvk,hdn,dn,kvk,rfl,hdn,fun o=> ?_⟩;have c1:=ce.frz (o:=o) ndc hdn;have i1:=IsK.mono (zE (u:= .frz o (.dK kvk)) hdn) ia;have k1:=ka.mono (zE (u:= .frz o (.dK kvk)) hdn);refine sY (fun i σ H'=>(∃o4 o5:Option V,σ=[some a,some (.ref dc),some (.ref lp),some (.ref dn),o4,o5,none,none])/\Same (upd H dn (.frz o (.dK kvk))) H') ⟨⟨none,none,rfl⟩,fun _ _ h=>h⟩ ?_ ?_ ?_
 · rintro i σ H' _ ⟨_,s1⟩;exact s1 _ _ aa
 · rintro i kv σ H' hkv ⟨⟨o4,o5,rfl⟩,s1⟩;obtain⟨v,hv,hm⟩:=vB (ak hkv);obtain⟨k,_,ik,kk,gk⟩:=k1 _ hm;replace ik:=IsK.mono s1.tups ik;have c2:=c1.same s1;have i2:=IsK.mono s1.tups i1;refine⟨v,.inl ⟨kvk,kv.1,.inr ⟨o,s1 _ _ aa⟩,rfl,hv.symm⟩,?_⟩;cases k with
   | nm z=>
     cases ik;exact⟨_,_,_,false,rfl,TyOf.str z,Az K,⟨_,_,rfl⟩,s1⟩
   | two p q'=>
     obtain⟨t,va,vb,rfl,ht,ip,iq⟩:=id ik;refine⟨_,_,_,true,rfl,TyOf.tup ht,iY K,⟨_,_,SqT.of ht,rfl,?_⟩⟩;refine c2.is i2 ik gx gk fun H3 z s3 hz=> ?_;cases z with
     | true=>exact⟨⟨_,_,rfl⟩,s1.trans s3⟩
     | false=>
       have ht3:=s3 _ _ ht;refine⟨_,_,SqT.of ht3,rfl,?_⟩;refine(c2.same s3).is (IsK.mono s3.tups i2) (IsK.mono s3.tups ip) gx gk.two.1 fun H4 z1 s4 hz1=> ?_;cases z1 with
       | false=>exact⟨⟨_,_,rfl⟩,(s1.trans s3).trans s4⟩
       | true=>
         refine⟨_,_,SqT.of (s4 _ _ ht3),rfl,?_⟩;refine((c2.same s3).same s4).is (IsK.mono (s3.trans s4).tups i2) (IsK.mono (s3.trans s4).tups iq) gx gk.two.2 fun H5 z2 s5 hz2=> ?_;cases z2 with
         | false=>exact⟨⟨_,_,rfl⟩,((s1.trans s3).trans s4).trans s5⟩
         | true=>exact absurd (hz.mpr (ce.clo.bo _ _ _ kk (hz1.mp rfl) (hz2.mp rfl))) (by decide)
   | som r c=>
     obtain⟨t,vb,rfl,ht,ic⟩:=id ik;exact⟨_,_,_,true,rfl,TyOf.tup ht,iY K,⟨_,_,SqT.of ht,rfl,⟨_,_,rfl⟩,s1⟩⟩
 rintro σ H' ⟨⟨o4,o5,rfl⟩,s1⟩;refine⟨o,s1 _ _ aa,?_⟩;have s2:=ot hdn s1;generalize upd H' dn (.dK kvk)=H2 at s2⊢;have c2:=ce.same s2;have i2:=IsK.mono s2.tups ia;obtain⟨ys,ep,pr⟩:=c2.pr;refine⟨⟨_,SqL.of ep⟩,bR (xs:=ys) (fun i σ H3=>(∃o6 o7:Option V,σ=[some a,some (.ref dc),some (.ref lp),some (.ref dn),o4,o5,o6,o7])/\Same H2 H3) ⟨⟨none,none,rfl⟩,fun _ _ h=>h⟩ ?_ ?_ ?_⟩
 · rintro i σ H3 _ ⟨_,s3⟩;exact SqL.of (s3 _ _ ep)
 · rintro i v σ H3 hv ⟨⟨o6,o7,rfl⟩,s3⟩;obtain⟨⟨n,sy⟩,hq,t,vy,rfl,ht,hsy⟩:=bT pr hv;have hin:=ak hq;have c3:=c2.same s3;have i3:=IsK.mono s3.tups i2;obtain⟨pv,vs,rfl,hpv,hL⟩:=IsSy.mono s3.tups hsy;refine⟨_,SqT.of (s3 _ _ ht),rfl,?_⟩;have gp:=c3.pg _ hin;cases sy with
   | every p r=>
     obtain⟨va,vb,rfl,ka',kb'⟩:=qd hL;have g1:=gp p (by simp[Sy.parts]);have g2:=gp r (by simp[Sy.parts]);refine cQ hpv rfl (cQ hpv rfl ?_);refine c3.is i3 ka' gx g1 fun H4 z s4 hz=> ?_;have hp4:=s4 _ _ hpv;cases z with
     | false=>exact cQ hp4 rfl ⟨⟨_,_,rfl⟩,s3.trans s4⟩
     | true=>
       refine cQ hp4 rfl ?_;refine(c3.same s4).is (IsK.mono s4.tups i3) (IsK.mono s4.tups kb') gx g2 fun H5 z1 s5 hz1=> ?_;obtain rfl:z1=true:=hz1.mpr (ce.clo.ev _ hin _ _ _ rfl (hz.mp rfl));exact cQ (s5 _ _ hp4) rfl ⟨⟨_,_,rfl⟩,(s3.trans s4).trans s5⟩
   | no p r=>
     obtain⟨va,vb,rfl,ka',kb'⟩:=qd hL;have g1:=gp p (by simp[Sy.parts]);have g2:=gp r (by simp[Sy.parts]);refine cQ hpv rfl (cQ hpv rfl ?_);refine c3.is (k:=mh) i3 rfl gx Cc fun H4 z s4 hz=> ?_;have hp4:=s4 _ _ hpv;cases z with
     | true=>exact⟨⟨_,_,rfl⟩,s3.trans s4⟩
     | false=>
       refine cQ hp4 rfl ?_;refine(c3.same s4).is (IsK.mono s4.tups i3) (IsK.mono s4.tups ka') gx g1 fun H5 z1 s5 hz1=> ?_;cases z1 with
       | false=>exact⟨⟨_,_,rfl⟩,(s3.trans s4).trans s5⟩
       | true=>
         refine cQ (s5 _ _ hp4) rfl ?_;refine((c3.same s4).same s5).is (IsK.mono (s4.trans s5).tups i3) (IsK.mono (s4.trans s5).tups kb') gx g2 fun H6 z2 s6 hz2=> ?_;cases z2 with
         | false=>exact⟨⟨_,_,rfl⟩,((s3.trans s4).trans s5).trans s6⟩
         | true=>exact absurd (hz.mpr (ce.clo.no _ hin _ _ _ rfl (hz1.mp rfl) (hz2.mp rfl))) (by decide)
   | _=>
     refine cQ hpv (aU (j:=0) rfl) ?_;exact cQ hpv (aU (j:=0) rfl) ⟨⟨_,_,rfl⟩,s3⟩
 rintro σ H3 ⟨⟨o6,o7,rfl⟩,s3⟩;have c3:=c2.same s3;have i3:=IsK.mono s3.tups i2;obtain⟨w1,w2⟩:=ce.clo.rt x hw;refine c3.is (k:=F2) i3 rfl gx KD fun H4 z s4 hz=> ?_;obtain rfl:z=true:=hz.mpr w1;have i4:=IsK.mono s4.tups i3;refine⟨a,x,rfl,i4,gx.len,?_⟩;cases e:gV x with
 | true=>exact q _ ((s2.trans s3).trans s4)
 | false=>
   refine(c3.same s4).is i4 i4 gx gx fun H5 z1 s5 hz1=> ?_;obtain rfl:z1=true:=hz1.mpr (w2.resolve_left (by rw[e];decide));exact q _ (((s2.trans s3).trans s4).trans s5)
end
def Kw{A:Prop}(n:a≠b)(h:B):if decide (V.str a=V.str b)=true then A else B:=by rw[aD (by rw[cM];exact fun z=>n (by injection z))];exact h
inductive nA(vs:List V)(H:Hp)(Q:VK):Prop
 | mk:∀v dc lp f ps roots kn C,(vs=[v,.ref dc,.ref lp])->IsF H f v->f∈C->CE H dc lp ps roots kn C->(∀H',Same H H'->Q (.bl true) H')->nA vs H Q
def rN:Sp:=fun vs H Q _=>nA vs H Q
inductive xM(vs:List V)(H:Hp)(Q:VK):Prop
 | mk:∀dc lp ps roots kn C,(vs=[.ref dc,.ref lp])->CE H dc lp ps roots kn C->(∀H',Same H H'->Q (.bl true) H')->xM vs H Q
def D1:Sp:=fun vs H Q _=>xM vs H Q
section
def scByItself:bj ["_law_claim","_law_claims","_law_pairs","_law_x","_law_kind_here","_law_number","_law_saying_here"] G_ (aJ oM):=gy
def yI(F:Fun K "_law_by_itself" "_law_by_itself" oM f fd)(mi:mg "isinstance"=none)(mt:mg "tuple"=none)(Git:Cl P w K mg base 1 "_law_is_told" pP kB)(Ght:Cl P w K mg base 1 "_law_has_told" sj lB):bW P w K mg base eW 2 f fd G_ rN:=by
 refine F.o scByItself fun cdv A outer s H vs Q E hr h=> ?_;obtain⟨v,dc,lp,fa,ps,roots,kn,C,rfl,ig,hf,ce,q⟩:=h;have hu:=fh hr;refine⟨_,aZ (fz 3 scByItself.nd (dj aA))
  (aZ (fz 4 scByItself.nd (dj aA))
  (aZ (bA (eI bN (dj aA) aS) (aZ (jR (bS bH) (eJ rfl (bw (e_ 5 scByItself.nd) (bw (e_ 6 scByItself.nd) dA))) (aV (bA (PW.pt (fq (eI bN (dj dN) aS) (fq (eI bN (dj dN) bX) (fm (dO (cw (dF Ght hr (iU bf bU (dj dN) (dj aA))))))))) (aV (cI dq)) aQ))) (aV (cI dq))) aQ)
  (aZ (bA (dO (cw (xy mi mt eK bX))) (aV (cI dq)) aQ)
  (aZ (bA (eI bN (dj bX) aS) (aV (cI (dF Ght hr (iU bf bU (dj bX) (dj bX))))) aQ)
  (aV (cI (gA (dF Git hr (gc bf bU (dj bX))) (iT (dF Git hr (gc bf bU (dj bX))))))))))),?_⟩
 have ok:=ce.cg _ hf;cases fa with
 | is x k=>
   obtain⟨p,a,b,rfl,hp,ia,ib⟩:=ig;refine cQ hp rfl (cQ hp rfl (cQ hp rfl ?_));cases k with
   | nm z=>
     cases ib;exact⟨_,_,_,false,rfl,TyOf.str z,Az K,q _ fun _ _ h=>h⟩
   | two y z=>
     obtain⟨t,va,vb,rfl,ht,iy,iz⟩:=ib;obtain⟨h1,h2⟩:=ce.clo.tw _ _ _ hf;refine⟨_,_,_,true,rfl,TyOf.tup ht,iY K,?_⟩;refine⟨_,_,SqT.of ht,rfl,?_⟩;refine⟨_,_,SqT.of ht,rfl,?_⟩;refine ce.is ia iy ok.1 ok.2.two.1 fun H2 z1 s2 hz1=> ?_;obtain rfl:z1=true:=hz1.mpr h1;refine⟨_,_,SqT.of (s2 _ _ ht),rfl,?_⟩;refine(ce.same s2).is (IsK.mono s2.tups ia) (IsK.mono s2.tups iz) ok.1 ok.2.two.2 fun H3 z2 s3 hz2=> ?_;obtain rfl:z2=true:=hz2.mpr h2;exact q _ (s2.trans s3)
   | som r c=>
     obtain⟨t,vb,rfl,ht,ic⟩:=ib;refine⟨_,_,_,true,rfl,TyOf.tup ht,iY K,?_⟩;refine⟨_,_,SqT.of ht,rfl,?_⟩;refine⟨_,_,SqT.of ht,rfl,?_⟩;refine⟨_,_,SqT.of ht,rfl,?_⟩;refine ce.has ia ic ok.1 ok.2.som.1 ok.2.som.2 fun H2 z1 s2 hz1=> ?_;obtain rfl:z1=true:=hz1.mpr (ce.clo.so _ _ _ hf);exact q _ s2
 | has x r y=>
   obtain⟨p,a,b,rfl,hp,ia,ib⟩:=ig;refine cQ hp rfl (cQ hp rfl (cQ hp rfl ?_));obtain⟨ys,ep,pr⟩:=ce.pr;refine⟨⟨_,SqL.of ep⟩,bR (xs:=ys) (fun i σ H3=>(∃o6 o7:Option V,σ=[some (.ref p),some (.ref dc),some (.ref lp),some a,some (.str r),o6,o7])/\Same H H3) ⟨⟨none,none,rfl⟩,fun _ _ h=>h⟩ ?_ ?_ ?_⟩
   · rintro i σ H3 _ ⟨_,s3⟩;exact SqL.of (s3 _ _ ep)
   · rintro i v σ H3 hv ⟨⟨o6,o7,rfl⟩,s3⟩;obtain⟨⟨n,sy⟩,hq,t,vy,rfl,ht,hsy⟩:=bT pr hv;have hin:=ak hq;have c3:=ce.same s3;obtain⟨pv,vs,rfl,hpv,hL⟩:=IsSy.mono s3.tups hsy;refine⟨_,SqT.of (s3 _ _ ht),rfl,?_⟩;have gp:=c3.pg _ hin;cases sy with
     | within r' u=>
       obtain⟨va,vb,rfl,ka',kb'⟩:=qd hL;cases ka';cases kb';refine cQ hpv rfl (cQ hpv rfl ?_);by_cases e:r'=r
       · subst e;refine Kx rfl ?_;refine cQ hpv rfl (cQ (s3 _ _ hp) rfl ?_);refine c3.has (IsK.mono s3.tups ia) (IsK.mono s3.tups ib) ok.1 (gp (.nm u) (by simp[Sy.parts])) ok.2.2 fun H4 z s4 hz=> ?_;obtain rfl:z=true:=hz.mpr (ce.clo.wi _ hin _ _ _ _ rfl hf);exact⟨⟨_,_,rfl⟩,s3.trans s4⟩
       · exact Kw e ⟨⟨_,_,rfl⟩,s3⟩
     | _=>exact cQ hpv (aU (j:=0) rfl) ⟨⟨_,_,rfl⟩,s3⟩
   rintro σ H3 ⟨⟨o6,o7,rfl⟩,s3⟩;exact q _ s3
def scTold:bj ["_law_claims","_law_pairs","_law_number","_law_saying_here"] BQ (aJ Ef):=gy
def Hm(F:Fun K "_law_told" "_law_told" Ef f fd)(Git:Cl P w K mg base 1 "_law_is_told" pP kB)(Ght:Cl P w K mg base 1 "_law_has_told" sj lB):bW P w K mg base eW 2 f fd BQ D1:=by
 refine F.o scTold fun cdv A outer s H vs Q E hr h=> ?_;obtain⟨dc,lp,ps,roots,kn,C,rfl,ce,q⟩:=h;have hu:=fh hr;refine⟨_,aZ (jR (bS bf) (eJ rfl (bw (e_ 2 scTold.nd) (bw (e_ 3 scTold.nd) dA))) (aZ (bA (PW.pt (fq (eI bN (dj bU) aS) (fm (dO (cw (dF Git hr (gc aA (dj bU) (dj bU)))))))) (aV (cI dq)) aQ) (aV (bA (PW.pt (fq (eI bN (dj bU) aS) (fm (dO (cw (dF Ght hr (iU aA (dj bU) (dj bU) (dj bU)))))))) (aV (cI dq)) aQ))))
  (aV (cI dq)),?_⟩
 obtain⟨ys,ep,pr⟩:=ce.pr;refine⟨⟨_,SqL.of ep⟩,bR (xs:=ys) (fun i σ H3=>(∃o6 o7:Option V,σ=[some (.ref dc),some (.ref lp),o6,o7])/\Same H H3) ⟨⟨none,none,rfl⟩,fun _ _ h=>h⟩ ?_ ?_ ?_⟩
 · rintro i σ H3 _ ⟨_,s3⟩;exact SqL.of (s3 _ _ ep)
 · rintro i v σ H3 hv ⟨⟨o6,o7,rfl⟩,s3⟩;obtain⟨⟨n,sy⟩,hq,t,vy,rfl,ht,hsy⟩:=bT pr hv;have hin:=ak hq;have c3:=ce.same s3;obtain⟨pv,vs,rfl,hpv,hL⟩:=IsSy.mono s3.tups hsy;refine⟨_,SqT.of (s3 _ _ ht),rfl,?_⟩;have gp:=c3.pg _ hin;cases sy with
   | thing x c=>
     obtain⟨va,vb,rfl,ka',kb'⟩:=qd hL;refine cQ hpv rfl (cQ hpv rfl (cQ hpv rfl ?_));refine c3.is ka' kb' (gp (.nm x) (by simp[Sy.parts])) (gp c (by simp[Sy.parts])) fun H4 z s4 hz=> ?_;obtain rfl:z=true:=hz.mpr (ce.clo.th _ hin _ _ rfl);exact cQ (s4 _ _ hpv) rfl ⟨⟨_,_,rfl⟩,s3.trans s4⟩
   | tied x r y=>
     obtain⟨va,vb,vc,rfl,ka',kb',kc'⟩:=HL hL;cases kb';refine cQ hpv rfl (cQ hpv rfl (cQ hpv rfl (cQ hpv rfl (cQ hpv rfl ?_))));refine c3.has ka' kc' (gp (.nm x) (by simp[Sy.parts])) (gp (.nm r) (by simp[Sy.parts])) (gp (.nm y) (by simp[Sy.parts])) fun H4 z s4 hz=> ?_;obtain rfl:z=true:=hz.mpr (ce.clo.ti _ hin _ _ _ rfl);exact⟨⟨_,_,rfl⟩,s3.trans s4⟩
   | _=>
     refine cQ hpv (aU (j:=0) rfl) ?_;exact cQ hpv (aU (j:=0) rfl) ⟨⟨_,_,rfl⟩,s3⟩
 rintro σ H3 ⟨⟨o6,o7,rfl⟩,s3⟩;exact q _ s3
end
def zy(H:Hp)(v:V)(f:Fa):Prop:=IsF H f v
def fW(t:Tups H H')(h:IsF H f v):IsF H' f v:=by
 cases f with
 | is x k=>obtain⟨p,a,b,e,hp,ia,ib⟩:=h;exact⟨p,a,b,e,t _ _ hp,IsK.mono t ia,IsK.mono t ib⟩
 | has x r y=>obtain⟨p,a,b,e,hp,ia,ib⟩:=h;exact⟨p,a,b,e,t _ _ hp,IsK.mono t ia,IsK.mono t ib⟩
def s_:Mo zy:=fun _ _ _ _ t h=>fW t h
def Io(H:Hp)(v:V)(s:Sy):Prop:=IsSy H s v
def D5:Mo Io:=fun _ _ _ _ t h=>IsSy.mono t h
structure AE(H:Hp)(da lm:Addr)(ps:List (Int × Sy))(C:List Fa):Prop where
 ab:∃kva,H da=some (.dK kva)/\∀t,cS kva (.inr t)=none\/∃q vs fs,cS kva (.inr t)=some (.ref q)/\H q=some (.lst vs)/\Paired (zy H) vs fs/\∀f∈fs,f∈C/\rpK f.x=t
 mk':∃vs ss,H lm=some (.lst vs)/\Paired (Io H) vs ss/\∀s∈ss,(∃q∈ps,q.2=s)/\∃r u t,s= .makes r u t
def AE.same(a:AE H da lm ps C)(s:Same H H'):AE H' da lm ps C:=by
 obtain⟨⟨kva,h1,h2⟩,vs,ss,h3,h4,h5⟩:=a;refine⟨⟨kva,s _ _ h1,fun t=>(h2 t).imp id fun⟨q,us,fs,z1,z2,z3,z4⟩=>⟨q,us,fs,z1,s _ _ z2,zA s_ s.tups z3,z4⟩⟩,vs,ss,s _ _ h3,zA D5 s.tups h4,h5⟩
inductive uK(vs:List V)(H:Hp)(Q:VK):Prop
 | mk:∀v dc da lm dn lp x r y ps roots kn C kvk,(vs=[v,.ref dc,.ref da,.ref lm,.ref dn])->IsF H (.has x r y) v->Fa.has x r y∈C->CE H dc lp ps roots kn C->AE H da lm ps C->H dn=some (.dK kvk)->KnAt (fun k=>kn k/\gP k) H kvk->(∀H',Same H H'->Q (.bl true) H')->uK vs H Q
def Bs:Sp:=fun vs H Q _=>uK vs H Q
def Jk{k:Key}(h:(cS kvs k).isSome=true):∃v,(k,v)∈kvs:=by
 unfold cS at h;cases z:kvs.find? fun kv=>decide (kv.1=k) with
 | none=>rw[z] at h;cases h
 | some u=>
   have h1:=List.find?_some z;have:u.1=k:=by simpa using h1
   exact⟨u.2,by rw[<-this];exact Jf z⟩
section
def scByTie:bj ["_law_claim","_law_claims","_law_about","_law_makes","_law_known_here","_law_x","_law_other","_law_whole_here","_law_saying_here"] Ha (aJ Aa):=gy
def ES(F:Fun K "_law_by_tie" "_law_by_tie" Aa f fd)(mrp:mg "repr"=none)(Git:Cl P w K mg base 1 "_law_is_told" pP kB)(Ght:Cl P w K mg base 1 "_law_has_told" sj lB):bW P w K mg base eW 2 f fd Ha Bs:=by
 refine F.o scByTie fun cdv A outer s H vs Q E hr h=> ?_;obtain⟨v,dc,da,lm,dn,lp,x,r,y,ps,roots,kn,C,kvk,rfl,ig,hf,ce,ae,edn,ka,q⟩:=h;have hu:=fh hr;refine⟨_,aZ (fz 5 scByTie.nd (dj aA))
  (aZ (jR (bS (sx hu bH (dB (fO hr.gd hr.units) rfl mrp cG (eP (dj aA))) (bV cz))) (e_ 6 scByTie.nd) (aV (bA (eI bN (dj dN) aS) (aZ (fz 7 scByTie.nd (cX (gc aS (dj aA) (dj dN)))) (hG (bA (PW.pt (fq (eI (kO hu) (dB (fO hr.gd hr.units) rfl mrp cG (eP gN)) bX) (fm (dO (cw (dF Git hr (gc bf dH gN))))))) (aV (cI dq)) aQ) (aV (bA (PW.pt (fq (eI (JX hr.units) (dj dN) aS) (fm (dO (cw (dF Git hr (gc bf dH aS))))))) (aV (cI dq)) aQ)))) (aV (jR (bS bU) (e_ 8 scByTie.nd) (aV (bA (PW.pt (fq (eI bN (dj gM) (dj aA)) (fm (eI bN (dj gM) (dj dN))))) (aV (bA (dO (cw (dF Ght hr (iU bf dH (dj gM) (dj dN))))) (aV (cI dq)) aQ)) aQ)))))))
  (aV (cI dq))),?_⟩
 have ok:=ce.cg _ hf;obtain⟨p,a,b,rfl,hp,ia,ib⟩:=ig;refine cQ hp rfl ?_;obtain⟨kva,eda,ab⟩:=ae.ab;refine⟨.inl ⟨kva,.inl eda⟩,cQ hp rfl ?_⟩;show gz [b] H _;refine qD ib ok.2.2 ?_;refine⟨ay _,fun g0 hg0=> ?_⟩;have s0:=aj hg0 (.lst []);refine⟨_,DGet.k (k:= .inr (rpK y)) (s0 _ _ eda),?_⟩;obtain⟨ql,vl,fl,eq,hql,prl,hfl⟩:∃q vs fs,(cS kva (.inr (rpK y))).getD (.ref g0)= .ref q/\upd H g0 (.lst []) q=some (.lst vs)/\Paired (zy (upd H g0 (.lst []))) vs fs/\∀f∈fs,f∈C/\rpK f.x=rpK y:=by
  rcases ab (rpK y) with z | ⟨q,vs,fs,z1,z2,z3,z4⟩
  · exact⟨g0,[],[],by rw[z];rfl,aa,.nil,fun _ h=>(ai h).elim⟩
  · exact⟨q,vs,fs,by rw[z1];rfl,s0 _ _ z2,zA s_ s0.tups z3,z4⟩
 rw[eq];generalize upd H g0 (.lst [])=H1 at s0 hql prl⊢;refine⟨⟨_,SqL.of hql⟩,bR (xs:=vl) (fun i σ H2=>(∃o6 o7 o8:Option V,σ=[some (.ref p),some (.ref dc),some (.ref da),some (.ref lm),some (.ref dn),some a,o6,o7,o8])/\Same H1 H2) ⟨⟨none,none,none,rfl⟩,fun _ _ h=>h⟩ ?_ ?_ ?_⟩
 · rintro i σ H2 _ ⟨_,s2⟩;exact SqL.of (s2 _ _ hql)
 · rintro i v σ H2 hv ⟨⟨o6,o7,o8,rfl⟩,s2⟩;obtain⟨fo,hfo,iso⟩:=bT prl hv;obtain⟨hC,hx⟩:=hfl fo (ak hfo);have ok2:=ce.cg _ hC;have hxy:fo.x=y:=Bz ok2.x.1 ok.2.2.1 hx;have s02:=s0.trans s2;have c2:=ce.same s02;have hp2:=s02 _ _ hp;have ia2:=IsK.mono s02.tups ia;refine gn ?_;cases fo with
   | is y' c=>
     obtain rfl:y'=y:=hxy;obtain⟨po,va,vb,rfl,hpo,_,ic⟩:=fW s2.tups iso;refine cQ hpo rfl ?_;refine cQ hp2 rfl (cQ hpo rfl ⟨by show 3<=sizeLine;decide,fun t ht=> ?_⟩);have s3:=aj ht (.tup [.str "some",.str r,vb]);have iw:IsK (upd H2 t (.tup [.str "some",.str r,vb])) (.som r c) (.ref t):=⟨t,vb,rfl,aa,IsK.mono s3.tups ic⟩;generalize upd H2 t (.tup [.str "some",.str r,vb])=H3 at s3 iw⊢;have okw:ju (.som r c):=⟨ok.2.1,ok2.2.1⟩;refine gn ?_;refine⟨fun σ H'=>σ=[some (.ref p),some (.ref dc),some (.ref da),some (.ref lm),some (.ref dn),some a,some (.ref po),some (.ref t),o8]/\Same H3 H',?_,?_⟩
     · show gz [.ref t] H3 _;refine wc iw okw (by have:=ok2.2.2.1;show 1+c.dep<=26;lia) (by have:=ok2.2.2.2;show 1+c.sz<=1000;lia) ?_;refine⟨dn,_,rfl,.inl ⟨kvk,.inr (rpK (.som r c)),.inl ((s02.trans s3) _ _ edn),rfl,rfl⟩,?_⟩;cases hb:(cS kvk (.inr (rpK (.som r c)))).isSome with
       | false=>exact⟨rfl,fun _ _ h=>h⟩
       | true=>
         obtain⟨u,hu⟩:=Jk hb;obtain⟨k,ek,_,kk,gk⟩:=ka _ hu;obtain rfl:Kd.som r c=k:=Bz okw gk.1 (by injection ek);refine(c2.same s3).is (IsK.mono s3.tups ia2) iw ok.1 gk fun H4 z s4 hz=> ?_;obtain rfl:z=true:=hz.mpr (ce.clo.ke _ _ _ _ kk hf hC);exact⟨rfl,s4⟩
     rintro σ H4 ⟨rfl,s4⟩;have s34:=s3.trans s4;have ic4:=IsK.mono s34.tups ic;refine cQ (s34 _ _ hpo) rfl ⟨c.tx,.str "nothing",ic4.xa,rfl,by rw[Kd.tx_dp];have:=ok2.2.2.1;lia,?_⟩;by_cases e:c=mh
     · rw[aG (show c.tx= .str "nothing" by rw[e];rfl)];refine(c2.same s34).is (k:=mh) (IsK.mono s34.tups ia2) rfl ok.1 Cc fun H5 z s5 hz=> ?_;obtain rfl:z=true:=hz.mpr (ce.clo.vo _ _ _ hf (e ▸ hC));exact⟨⟨_,_,_,rfl⟩,(s2.trans s34).trans s5⟩
     · rw[aq (show ¬ c.tx= .str "nothing" from fun z=>e (Kd.tx_inj z))];exact⟨⟨_,_,_,rfl⟩,s2.trans s34⟩
   | has y' r2 z=>
     obtain rfl:y'=y:=hxy;obtain⟨po,va,vb,rfl,hpo,iy,iz⟩:=fW s2.tups iso;refine cQ hpo rfl ?_;obtain⟨ms,ss,elm,prm,hss⟩:=(ae.same s02).mk';refine⟨⟨_,SqL.of elm⟩,bR (xs:=ms) (fun i σ H3=>(∃o8:Option V,σ=[some (.ref p),some (.ref dc),some (.ref da),some (.ref lm),some (.ref dn),some a,some (.ref po),o7,o8])/\Same H2 H3) ⟨⟨o8,rfl⟩,fun _ _ h=>h⟩ ?_ ?_ ?_⟩
     · rintro j σ H3 _ ⟨_,s3⟩;exact SqL.of (s3 _ _ elm)
     · rintro j v σ H3 hv ⟨⟨o8,rfl⟩,s3⟩;obtain⟨sy,hsy,isy⟩:=bT prm hv;obtain⟨⟨pq,hpq,rfl⟩,r1,r2',r3,e⟩:=hss sy (ak hsy);obtain⟨pv,vs,rfl,hpv,hL⟩:=IsSy.mono s3.tups isy;have gp:=ce.pg _ hpq;rw[e] at hpv hL gp;obtain⟨w1,w2,w3,rfl,k1,k2,k3⟩:=HL hL;cases k1;cases k2;cases k3;have hp3:=s3 _ _ hp2;have hpo3:=s3 _ _ hpo;refine gn ?_;refine cQ hpv rfl (cQ hp3 rfl ?_);by_cases e1:r1=r
       · subst e1;refine Kx rfl ?_;refine cQ hpv rfl (cQ hpo3 rfl ?_);by_cases e2:r2'=r2
         · subst e2;refine Kx rfl ?_;refine cQ hpv rfl (cQ hpo3 rfl ?_);refine(c2.same s3).has (IsK.mono s3.tups ia2) (IsK.mono s3.tups iz) ok.1 (gp (.nm r3) (by simp[Sy.parts])) ok2.2.2 fun H4 z' s4 hz=> ?_;obtain rfl:z'=true:=hz.mpr (ce.clo.ma _ hpq _ _ _ _ _ _ e hf hC);exact⟨⟨_,rfl⟩,s3.trans s4⟩
         · exact Kw e2 ⟨⟨_,rfl⟩,s3⟩
       · exact Kw e1 ⟨⟨_,rfl⟩,s3⟩
     rintro σ H3 ⟨⟨o8,rfl⟩,s3⟩;exact⟨⟨_,_,_,rfl⟩,s2.trans s3⟩
 rintro σ H2 ⟨⟨o6,o7,o8,rfl⟩,s2⟩;exact q _ (s0.trans s2)
end
noncomputable def DA(C:List Fa):Key->List Fa
 | .inr t=>C.filter fun f=>decide (rpK f.x=t)
 | .inl _=>[]
def F6(C:List Fa)(f:Fa):(fun j:Key=>DA C j++if j= .inr (rpK f.x) then [f] else [])=DA (C++[f]):=by
 funext j
 cases j with
 | inl i=>rw[aD (by intro z;cases z)];rfl
 | inr u=>
   show C.filter _++_=(C++[f]).filter _;rw[lY]
   congr 1
   by_cases e:rpK f.x=u
   · rw[aI (by rw[e])];simp[e]
   · rw[aD (fun z=>e (by injection z with z;exact z.symm))];simp[e]
structure CK(H:Hp)(kvs:List (Key × V))(C:List Fa):Prop where
 k:Nb kvs C
 e:∀e∈kvs,∃f∈C,IsF H f e.2
def CK.put(h:CK H kvs C)(i:IsF H f v)(o:FOk f):CK H (bZ kvs (.inr (yh f)) v) (C++[f]):=by
 refine⟨fun g og=> ?_,fun e he=> ?_⟩
 · rw[jA];by_cases z:g=f
   · subst z;rw[aI rfl,aG (by simp)];rfl
   · rw[aD (fun y=>z (GX og.ok o.ok (by injection y))),h.k g og]
     congr 1
     simp[z]
 · rcases mem_putK he with he | rfl
   · obtain⟨g,hg,ig⟩:=h.e e he;exact⟨g,aM _ hg,ig⟩
   · exact⟨f,by simp,i⟩
def CK.mono(t:Tups H H')(h:CK H kvs C):CK H' kvs C:=⟨h.k,fun e he=>by
 obtain⟨f,hf,i⟩:=h.e e he;exact⟨f,hf,fW t i⟩⟩
def Whm(roots:List Kd)(C:List Fa)(k:Kd):Prop:=(k∈roots\/∃X r,Fa.has X r k∈C)/\gP k
def Whm.mono{roots:List Kd}{C C':List Fa}(h:∀f∈C,f∈C'){H:Hp}{kvs:List (Key × V)}(w:KnAt (Whm roots C) H kvs):KnAt (Whm roots C') H kvs:=fun e he=>by
 obtain⟨k,a,b,c,d⟩:=w e he;exact⟨k,a,b,c.imp id fun⟨X,r,z⟩=>⟨X,r,h _ z⟩,d⟩
theorem oC:∀ps,(dM ps).length<=2 * ps.length
 | []=>ar _
 | q::ps=>by
   have:=oC ps;have e:dM (q::ps)=q.2.things++dM ps:=rfl;have h:q.2.things.length<=2:=by cases q.2<;>simp[Sy.things]
   rw[e,ah,aR];lia
def HQ(h:IsF H f v):∃p z a rest,v= .ref p/\H p=some (.tup (.str z::a::rest))/\IsK H f.x a:=by
 cases f with
 | is x k=>obtain⟨p,a,b,rfl,hp,ia,ib⟩:=h;exact⟨p,_,a,_,rfl,hp,ia⟩
 | has x t y=>obtain⟨p,a,b,rfl,hp,ia,ib⟩:=h;exact⟨p,_,a,_,rfl,hp,ia⟩
def AE.frz{H:Hp}{da lm d:Addr}{ps:List (Int × Sy)}{C:List Fa}{kvs:List (Key × V)}{o:Obj}(a:AE H da lm ps C)(n:da≠d)(hd:H d=some (.dK kvs)):AE (upd H d (.frz o (.dK kvs))) da lm ps C:=by
 have t:=zE (u:= .frz o (.dK kvs)) hd;obtain⟨⟨kva,h1,h2⟩,vs,ss,h3,h4,h5⟩:=a;refine⟨⟨kva,by rw[aB n];exact h1,fun r=>(h2 r).imp id fun⟨q,us,fs,z1,z2,z3,z4⟩=>⟨q,us,fs,z1,HF hd z2,zA s_ t z3,z4⟩⟩,vs,ss,HF hd h3,zA D5 t h4,h5⟩
def NQ:((([("_law_pair":Str)]:List Str)++[]):List Str).Nodup:=by decide+kernel
noncomputable abbrev SC(l lp lr dn dc da dw:Addr)(o7 o8 o9 o10 o11:Option V):L2.St:=[some (.ref l),some (.ref lp),some (.ref lr),some (.ref dn),some (.ref dc),some (.ref da),some (.ref dw),o7,o8,o9,o10,o11]
inductive rM(vs:List V)(H:Hp)(Q:VK):Prop
 | mk:∀l lp lr dn xs ys zs ss ps ks kn kvk,(vs=[.ref l,.ref lp,.ref lr,.ref dn])->(H l=some (.lst xs))->(StL [] H xs ss)->(H lp=some (.lst ys))->(PrL H ys ps)->(H lr=some (.lst zs))->(KL H zs ks)->H dn=some (.dK kvk)->KnAt (fun k=>kn k/\gP k) H kvk->Na ps (ks++(dM ps).map Kd.nm) kn (ss.map (·.f))->(∀s∈ss,FOk s.f)->(∀q∈ps,∀k∈q.2.parts,gP k)->(∀k∈ks,gP k)->(ps.length<=100)->(ks.length<=1000)->(ss.length<=2000000)->(∀H',Same H H'->Q (.bl true) H')->rM vs H Q
def xZ:Sp:=fun vs H Q _=>rM vs H Q
section
def scClosed:bj ["_law_found","_law_pairs","_law_roots","_law_known_here","_law_claims","_law_about","_law_whom","_law_x","_law_step","_law_claim","_law_makes","_law_written"] BP (aJ wa):=gy
def C3(F:Fun K "_law_closed" "_law_closed" wa f fd)(mrp:mg "repr"=none)(Gss:Cl P w K mg base 1 "_law_singles" BM uy)(Gbk:Cl P w K mg base 2 "_law_by_kinds" BL uL)(Gbi:Cl P w K mg base 2 "_law_by_itself" G_ rN)(Gbt:Cl P w K mg base 2 "_law_by_tie" Ha Bs)(Gtd:Cl P w K mg base 2 "_law_told" BQ D1):bW P w K mg base eW 3 f fd BP xZ:=by
 refine F.o scClosed fun cdv A outer s0 H vs Q E hr h=> ?_;obtain⟨l,lp,lr,dn,xs,ys,zs,ss,ps,ks,kn,kvk,rfl,el,hss,elp,hps,elr,hks,edn,ka,clo,gs,gp,gk,l100,lk,ls,q⟩:=h;have hu:=fh hr;refine⟨_,aZ (fz 4 scClosed.nd cO)
  (aZ (fz 5 scClosed.nd cO)
  (aZ (fz 6 scClosed.nd cO)
  (aZ (jR (bS (bh wD bH (dF Gss hr (eP bf)))) (e_ 7 scClosed.nd) (aV (dI hu dN (dB (fO hr.gd hr.units) rfl mrp cG (eP gN)) gN rfl)))
  (aZ (jR (bS aA) (e_ 8 scClosed.nd) (aZ (fz 9 scClosed.nd (dj gM)) (aZ (dI hu bX (dB (fO hr.gd hr.units) rfl mrp cG (eP lQ)) lQ rfl) (hG (be (yy (yw dH (dB (fO hr.gd hr.units) rfl mrp cG (eP (dj lQ))) (bV cz) ⟨rfl,rfl,rfl,rfl⟩) lQ)) (aV (bA (eI bN (dj lQ) aS) (aV (dI hu dN (dB (fO hr.gd hr.units) rfl mrp cG (eP (dj lQ))) (dj lQ) rfl)) aQ))))))
  (hG (qF (i:=10) ["_law_pair"] [] [] scClosed.nd rfl rfl (bS bf) (fun _ _ _=>e_ 0 NQ) (fun _ _ _=>BR (eI bN (j7 (r:=CI K) gD (j7 (r:=CI K) gD aA av) av) aS)) (fun _ _ _=>(j7 (r:=CI K) gD aA av)))
  (aZ (wu (jR (wy dN) (e_ 11 scClosed.nd) (aV (bA (dO (cw (dF Gbk hr (iU (Ah hu dN (pv 11)) bX bf bU)))) (aV (cI dq)) aQ))))
  (aZ (wu (jR (wy bX) (e_ 11 scClosed.nd) (aZ (fz 9 scClosed.nd (Ah hu bX (pv 11))) (aZ (bA (dO (cw (dF Gbi hr (gc lQ bX bf)))) (aV (cI dq)) aQ) (aV (bA (PW.pt (fq (eI bN (dj lQ) aS) (fm (dO (cw (dF Gbt hr (bY lQ (iU bX dH (pv 10) bU)))))))) (aV (cI dq)) aQ))))))
  (aV (cI (dF Gtd hr (fg bX bf))))))))))),?_⟩
 refine fun dc hdc=> ?_;refine gn ?_;have y1:=aj hdc (.dK []);have e1:upd H dc (.dK []) dc=some (.dK []):=aa;generalize upd H dc (.dK [])=H1 at y1 e1⊢;refine fun da hda=> ?_;refine gn ?_;have y2:=aj hda (.dK []);have e2:upd H1 da (.dK []) da=some (.dK []):=aa;have ndac:da≠dc:=fun z=>by rw[z,e1] at hda;cases hda
 generalize upd H1 da (.dK [])=H2 at y2 e2⊢;refine fun dw hdw=> ?_;refine gn ?_;have y3:=aj hdw (.dK []);have e3:upd H2 dw (.dK []) dw=some (.dK []):=aa;have ndwc:dw≠dc:=fun z=>by rw[z,y2 _ _ e1] at hdw;cases hdw
 have ndwa:dw≠da:=fun z=>by rw[z,e2] at hdw;cases hdw
 generalize upd H2 dw (.dK [])=H3 at y3 e3⊢;have s03:Same H H3:=(y1.trans y2).trans y3;have ec3:=y3 _ _ (y2 _ _ e1);have ea3:=y3 _ _ e2;refine⟨lp,ys,ps,rfl,s03 _ _ elp,PrL.mono s03.tups hps,l100,fun lsg H4 s4 hlsg e4=> ?_⟩;refine⟨lr,lsg,zs,(dM ps).map V.str,rfl,rfl,s4 _ _ (s03 _ _ elr),e4,?_,fun lx hlx=> ?_⟩
 · have:=KL.len hks;have:=oC ps;rw[ao];exact au (show zs.length+(dM ps).length<=2000 by lia) (by decide)
 have y5:=aj hlx (.lst (zs++(dM ps).map V.str));have e5:upd H4 lx (.lst (zs++(dM ps).map V.str)) lx=some (.lst (zs++(dM ps).map V.str)):=aa;generalize upd H4 lx (.lst (zs++(dM ps).map V.str))=H5 at y5 e5⊢;have s35:Same H3 H5:=s4.trans y5;have kx:KL H5 (zs++(dM ps).map V.str) (ks++(dM ps).map Kd.nm):=qb (KL.mono (s03.trans s35).tups hks) (sJ _ _);have gx:∀k∈ks++(dM ps).map Kd.nm,gP k:=fun k h=>by
  rcases aw.mp h with h | h
  · exact gk k h
  · obtain⟨x,hx,rfl⟩:=bO.mp h;obtain⟨q',hq,hx'⟩:=oU hx;exact gp q' hq _ (pA hx')
 have lxv:(zs++(dM ps).map V.str).length<=1200:=by
  have:=KL.len hks;have:=oC ps;rw[ah,ao];lia
 generalize zs++(dM ps).map V.str=xv at e5 kx lxv;generalize ks++(dM ps).map Kd.nm=R at kx gx clo;have ew5:=s35 _ _ e3;have nxw:lx≠dw:=fun z=>by rw[z,ew5] at e5;cases e5
 have lx':xv.length=R.length:=KL.len kx;refine⟨⟨_,SqL.of e5⟩,bR (xs:=xv) (fun i σ H'=>∃(o7:Option V) (kvw:List (Key × V)),σ=SC l lp lr dn dc da dw o7 none none none none/\(∀b o,H5 b=some o->b≠dw->H' b=some o)/\H' dw=some (.dK kvw)/\kvw.length<=i/\KnAt (Whm R []) H' kvw) ⟨none,[],rfl,fun _ _ h _=>h,ew5,ar _,fun _ h=>(ai h).elim⟩ ?_ ?_ ?_⟩
 · rintro i σ H' _ ⟨o7,kvw,rfl,b6,_⟩;exact SqL.of (b6 _ _ e5 nxw)
 · rintro i v σ H' hv ⟨o7,kvw,rfl,b6,e6,l6,k6⟩;obtain⟨k,hk,ik⟩:=KL.get kx hv;have hin:=ak hk;have hi:i<xv.length:=(aO.mp hv).1;have t6:Tups H5 H':=fun b us e=>b6 b _ e (fun z=>by rw[z,ew5] at e;cases e);have ik6:=IsK.mono t6 ik;refine gn ?_;show gz [v] H' _;refine qD ik6 (gx k hin) ?_;refine⟨_,.inl ⟨kvw,.inr (rpK k),e6,rfl,bz (show kvw.length<=1200 by lia) (by decide),rfl⟩,?_⟩;exact⟨_,_,rfl,fun b o e n=>by rw[aB n];exact b6 b o e n,aa,au (dt _ _ _) (by lia),(k6.put ik6 ⟨.inl hin,gx k hin⟩).mono (zE e6)⟩
 rintro σ H6 ⟨o7,kvw0,rfl,b6,e6,l6,k6⟩;have fresh:∀{b:Addr} {o:HO},H b=some o->b≠dc/\b≠da/\b≠dw:=fun {b o} e=>⟨br e hdc,br (y1 _ _ e) hda,br (y2 _ _ (y1 _ _ e)) hdw⟩;have s06:Same H H6:=fun b o e=>b6 b o (s35 _ _ (s03 _ _ e)) (fresh e).2.2;have ec6:=b6 _ _ (s35 _ _ ec3) (bG ndwc);have ea6:=b6 _ _ (s35 _ _ ea3) (bG ndwa);have l6':kvw0.length<=1200:=au l6 lxv;clear y1 y2 y3 e1 e2 e3 s03 ec3 ea3 s4 e4 hlsg y5 e5 s35 ew5 b6 kx hlx nxw lx' l6;obtain⟨T,ta,tc,tw,tn⟩:∃T:Tg,T da=some (0,none)/\T dc=some (1,none)/\T dw=some (2,none)/\∀b,b≠dc/\b≠da/\b≠dw->T b=none:=⟨fun b=>if b=da then some (0,none) else if b=dc then some (1,none) else if b=dw then some (2,none) else none,aI rfl,by dsimp only;rw[aD (bG ndac),aI rfl],by dsimp only;rw[aD ndwa,aD ndwc,aI rfl],fun b h=>by dsimp only;rw[aD h.2.1,aD h.1,aD h.2.2]⟩;have tg6:TgOk T H6:=fun b i h hb=>by
  have:T b=none:=tn b ⟨(fun z=>by rw[z,ec6] at hb;cases hb),(fun z=>by rw[z,ea6] at hb;cases hb),(fun z=>by rw[z,e6] at hb;cases hb)⟩;rw[this] at h;cases h
 have ft6:FTb zy H6 T 0 da (DA []) 0:=FTb.nil (fun k=>by cases k<;>rfl) ta ea6;have old:∀{T':Tg} {H':Hp},Fr [0,1,2] T T' H6 H'->Same H H':=fun fr b o e=>(Fr.free fr (s06 b o e) (tn b (fresh e))).2;have lxs:xs.length=ss.length:=aX hss;refine⟨⟨_,SqL.of (s06 _ _ el)⟩,bR (xs:=xs) (fun i σ H'=>∃(o8 o9:Option V) (T':Tg) (kvc kvw:List (Key × V)),σ=SC l lp lr dn dc da dw o7 o8 o9 none none/\Fr [0,1,2] T T' H6 H'/\TgOk T' H'/\FTb zy H' T' 0 da (DA ((ss.take i).map (·.f))) i/\H' dc=some (.dK kvc)/\CK H' kvc ((ss.take i).map (·.f))/\kvc.length<=i/\H' dw=some (.dK kvw)/\KnAt (Whm R ((ss.take i).map (·.f))) H' kvw/\kvw.length<=1200+i) ⟨none,none,T,[],kvw0,rfl,Fr.refl,tg6,ft6,ec6,⟨fun f _=>by simp[cS],fun _ h=>(ai h).elim⟩,ar _,e6,k6,l6'⟩ ?_ ?_ ?_⟩
 · rintro i σ H' _ ⟨o8,o9,T',kvc,kvw,rfl,fr,_⟩;exact SqL.of (old fr _ _ el)
 · rintro i v σ H' hv ⟨o8,o9,T',kvc,kvw,rfl,fr,tg,ft,ec,ck,lc,ew,kw,lw⟩;obtain⟨st,hs,p,pf,vf,rfl,hp,ig,hpf,_⟩:=bT hss hv;have ok:=gs st (ak hs);have hi:i<ss.length:=(aO.mp hs).1;have sH:=old fr;have tk:(ss.take (i+1)).map (·.f)=(ss.take i).map (·.f)++[st.f]:=by rw[bK,hs,bx];rfl
   rw[tk];generalize (ss.take i).map (·.f)=Ci at ft ck kw⊢;replace ig:=fW sH.tups ig;refine gn ?_;refine cQ (sH _ _ hp) rfl ?_;refine gn ?_;show gz [vf] H' _;refine wg ig ok ?_;refine⟨_,.inl ⟨kvc,.inr (yh st.f),ec,rfl,bz (show kvc.length<=2000000 by lia) (by decide),rfl⟩,?_⟩;have tdc:T' dc=some (1,none):=fr.tg _ _ tc;have tdw:T' dw=some (2,none):=fr.tg _ _ tw;have fP:∀{S:List Nat},1∈S->Fr S T' T' H' (upd H' dc (.dK (bZ kvc (.inr (yh st.f)) vf))):=fun h=>Fr.put tdc h (fun xs z=>by rw[ec] at z;cases z);have f1:Fr [0,1,2] T T' H6 (upd H' dc (.dK (bZ kvc (.inr (yh st.f)) vf))):=fr.trans (fP (by simp));have t1:=(fP (S:=[1]) (by simp)).tups;have ft1:=ft.fr s_ (fP (S:=[1]) (by simp)) (by decide);have tg1:TgOk T' (upd H' dc (.dK (bZ kvc (.inr (yh st.f)) vf))):=tg.put;have ck1:=(ck.put ig ok).mono t1;have lc1:=dt kvc (.inr (yh st.f)) vf;have ec1:upd H' dc (.dK (bZ kvc (.inr (yh st.f)) vf)) dc=some (.dK (bZ kvc (.inr (yh st.f)) vf)):=aa;have ew1:upd H' dc (.dK (bZ kvc (.inr (yh st.f)) vf)) dw=some (.dK kvw):=by rw[aB ndwc];exact ew
   replace kw:=kw.mono t1;replace ig:=fW t1 ig;clear fP fr ft tg ck ec ew sH t1;generalize upd H' dc (.dK (bZ kvc (.inr (yh st.f)) vf))=H1 at f1 ft1 tg1 ck1 ec1 ew1 kw ig⊢;generalize bZ kvc (.inr (yh st.f)) vf=kvc1 at ck1 ec1 lc1;refine⟨fun σ H2=>σ=SC l lp lr dn dc da dw o7 (some (.ref p)) (some vf) none none/\∃T2,Fr [0] T' T2 H1 H2/\TgOk T2 H2/\FTb zy H2 T2 0 da (DA (Ci++[st.f])) (i+1),?_,?_⟩
   · obtain⟨dd,key,vv,kvs,heq,hd,hlen,nt⟩:=gX (key:= .inr (rpK st.f.x)) (v:=vf) (x:=st.f) (Q:=fun _ H2=>∃T2,Fr [0] T' T2 H1 H2/\TgOk T2 H2/\FTb zy H2 T2 0 da (DA (Ci++[st.f])) (i+1)) s_ tg1 ft1 (by lia) ig (fun H2 T2 f2 tg2 ft2=>⟨T2,f2,tg2,by rw[<-F6];exact ft2⟩);simp only[bD,V.ref.injEq,and_true] at heq;obtain⟨rfl,hk,rfl⟩:=heq;obtain rfl:Sum.inr (rpK st.f.x)=key:=Kv hk;obtain⟨pF,zF,aF,rF,rfl,hF,iaF⟩:=HQ ig;refine⟨da,rfl,.inl ⟨kvs,.inl hd⟩,cQ hF (aU (j:=1) rfl) ?_⟩;show gz [aF] H1 _;refine qD iaF ok.x ?_;refine⟨ay _,fun g hg=> ?_⟩;have pg:da≠g:=fun z=>by rw[z,hg] at hd;cases hd
     have hd1:upd H1 g (.lst []) da=some (.dK kvs):=by rw[aB pg];exact hd
     refine⟨kvs,.inr (rpK st.f.x),hd1,rfl,hlen,fun y' hy=> ?_,fun hy=> ?_⟩
     · rcases nt with⟨hn,_⟩ | ⟨q',us,hq,e,l',h⟩
       · rw[hn] at hy;cases hy
       · rw[hq] at hy;cases hy;have qg:q'≠g:=fun z=>by rw[z,hg] at e;cases e
         have e1:upd H1 g (.lst []) q'=some (.lst us):=by rw[aB qg];exact e
         exact⟨.inl ⟨rfl,_,SqL.of e1⟩,us,e1,l',rfl,h g hg _ rfl⟩
     · rcases nt with⟨_,h⟩ | ⟨q',us,hq,_⟩
       · have e1:upd (upd H1 g (.lst [])) da (.dK (bZ kvs (.inr (rpK st.f.x)) (.ref g))) g=some (.lst []):=by rw[aB (bG pg),aa]
         exact⟨.inl ⟨rfl,_,SqL.of e1⟩,[],e1,by decide,rfl,h g hg _ (Lo pg)⟩
       · rw[hq] at hy;cases hy
   rintro σ H2 ⟨rfl,T2,f2,tg2,ft2⟩;have f02:=f1.trans (f2.mono (by decide));have ec2:=Fr.at f2 (by decide) tdc ec1;have ew2:=Fr.at f2 (by decide) tdw ew1;have ck2:=ck1.mono f2.tups;replace kw:=Whm.mono (C':=Ci++[st.f]) (fun f h=>aM _ h) (kw.mono f2.tups);replace ig:=fW f2.tups ig;cases hf:st.f with
   | is x k=>
     rw[hf] at ig ft2 ck2 kw;obtain⟨pF,a,b,rfl,hF,ia,ib⟩:=ig;exact cQ hF rfl ⟨_,_,T2,_,kvw,rfl,f02,tg2,ft2,ec2,ck2,by lia,ew2,kw,by lia⟩
   | has x r y=>
     rw[hf] at ig ft2 ck2 kw ok;obtain⟨pF,a,b,rfl,hF,ia,ib⟩:=ig;refine cQ hF rfl (cQ hF rfl (cQ hF rfl ?_));show gz [b] H2 _;refine qD ib ok.2.2 ?_;refine⟨_,.inl ⟨kvw,.inr (rpK y),ew2,rfl,bz (show kvw.length<=2100000 by lia) (by decide),rfl⟩,?_⟩;have tdw2:T2 dw=some (2,none):=f2.tg _ _ tdw;have fP:∀{S:List Nat},2∈S->Fr S T2 T2 H2 (upd H2 dw (.dK (bZ kvw (.inr (rpK y)) b))):=fun h=>Fr.put tdw2 h (fun xs z=>by rw[ew2] at z;cases z);have t3:=(fP (S:=[2]) (by simp)).tups;refine⟨_,_,T2,_,_,rfl,f02.trans (fP (by simp)),tg2.put,ft2.fr s_ (fP (S:=[2]) (by simp)) (by decide),by rw[aB (bG ndwc)];exact ec2,ck2.mono t3,by lia,aa,(kw.put ib ⟨.inr ⟨x,r,by simp⟩,ok.2.2⟩).mono t3,au (dt _ _ _) (by lia)⟩
 rintro σ H7 ⟨o8,o9,T7,kvc,kvw,rfl,fr,tg,ft,ec,ck,lc,ew,kw,lw⟩;rw[lxs,bp] at ft ck kw;have s07:=old fr;have gC:∀f∈ss.map (·.f),FOk f:=fun f hf=>by
  obtain⟨st,hst,rfl⟩:=bO.mp hf;exact gs st hst
 generalize ss.map (·.f)=C at ft ck kw clo gC;clear fr tg tg6 ft6 ec6 ea6 e6 k6 tn old ta tc tw;have ab7:∃kva,H7 da=some (.dK kva)/\∀t,cS kva (.inr t)=none\/∃q vs fs,cS kva (.inr t)=some (.ref q)/\H7 q=some (.lst vs)/\Paired (zy H7) vs fs/\∀f∈fs,f∈C/\rpK f.x=t:=by
  obtain⟨_,kva,z1,_,_,z2⟩:=ft;refine⟨kva,z1,fun t=> ?_⟩;rcases z2 (.inr t) with⟨z,_⟩ | ⟨q,vs,w1,_,w3,w4⟩
  · exact .inl z
  · refine .inr ⟨q,vs,_,w1,w3,w4,fun f hf=> ?_⟩;have:=qR.mp (show f∈C.filter fun f=>decide (rpK f.x=t) from hf);exact⟨this.1,cK this.2⟩
 have elp7:=s07 _ _ elp;have pr7:=PrL.mono s07.tups hps;refine⟨fun σ H8=>∃lm,σ=SC l lp lr dn dc da dw o7 o8 o9 (some (.ref lm)) none/\Same H7 H8/\∃vs ss,H8 lm=some (.lst vs)/\Paired (Io H8) vs ss/\∀s∈ss,(∃q∈ps,q.2=s)/\∃r u t,s= .makes r u t,?_,?_⟩
 · refine⟨⟨_,SqL.of elp7⟩,fun D hD=> ?_⟩;have lps:ys.length=ps.length:=aX hps;refine jr ys.length (fun i σ H'=>(∃o,σ=[o])/\Same H7 H'/\∃vs ss,H' D=some (.lst vs)/\Paired (Io H') vs ss/\vs.length<=i/\∀s∈ss,(∃q∈ps,q.2=s)/\∃r u t,s= .makes r u t) ⟨⟨_,rfl⟩,aj hD _,[],[],aa,.nil,ay _,fun _ h=>(ai h).elim⟩ ?_ ?_
   · rintro σ H8 ⟨_,s8,vs,sl,e8,p8,_,g8⟩;exact⟨⟨_,SqL.of (s8 _ _ elp7),ar _⟩,D,rfl,s8,vs,sl,e8,p8,g8⟩
   · rintro i σ H8 hi ⟨⟨o,rfl⟩,s8,vs,sl,e8,p8,lv,g8⟩;have ep8:=s8 _ _ elp7;refine⟨⟨_,ys[i],SqL.of ep8,by simp[hi]⟩,?_⟩;rintro y H9 ⟨rfl,hy⟩;obtain⟨⟨n,sy⟩,hpq,t,vy,rfl,ht,hsy⟩:=bT pr7 (hy _ (SqL.of ep8));have hin:=ak hpq;have ht8:=s8 _ _ ht;have hsy8:=IsSy.mono s8.tups hsy;obtain⟨pv,us,rfl,hpv,hL⟩:=id hsy8;refine cQ ht8 rfl ?_;cases sy with
     | makes r u t'=>
       have tu:Tups H9 (upd H9 D (.lst (vs++[.ref pv]))):=Lr e8;refine cQ hpv (aU (j:=0) rfl) ?_;refine cQ ht8 rfl ?_;refine⟨_,e8,bL (by lia),⟨_,rfl⟩,d9 s8 hD,vs++[.ref pv],sl++[.makes r u t'],aa,qb (zA D5 tu p8) (.cons (IsSy.mono tu hsy8) .nil),by rw[ah];exact eX lv,fun s hs=> ?_⟩;rcases aw.mp hs with hs | hs
       · exact g8 s hs
       · rw[ag.mp hs];exact⟨⟨_,hin,rfl⟩,_,_,_,rfl⟩
     | _=>exact cQ hpv (aU (j:=0) rfl) ⟨⟨_,rfl⟩,s8,vs,sl,e8,p8,Pp lv,g8⟩
 rintro σ H8 ⟨lm,rfl,s8,vm,sm,elm,prm,gm⟩;have s08:=s07.trans s8;have ae8:AE H8 da lm ps C:=⟨by
  obtain⟨kva,z1,z2⟩:=ab7;exact⟨kva,s8 _ _ z1,fun t=>(z2 t).imp id fun⟨q,us,fs,w1,w2,w3,w4⟩=>⟨q,us,fs,w1,s8 _ _ w2,zA s_ s8.tups w3,w4⟩⟩,vm,sm,elm,prm,gm⟩
 have ec8:=s8 _ _ ec;have ew8:=s8 _ _ ew;have ce8:CE H8 dc lp ps R kn C:=⟨⟨kvc,.inl ec8,ck.k⟩,⟨ys,s08 _ _ elp,PrL.mono s08.tups hps⟩,gp,gC,clo⟩;have edn8:=s08 _ _ edn;have ka8:=ka.mono s08.tups;have ndn:=fresh edn;replace kw:=kw.mono s8.tups;replace ck:=ck.mono s8.tups;clear ab7 ft ec ew;refine⟨dw,kvw,ew8,dw,kvw,rfl,ew8,fun o=> ?_⟩;have c1:=ce8.frz (o:=o) (bG ndwc) ew8;have t1:=zE (u:= .frz o (.dK kvw)) ew8;have n1:upd H8 dw (.frz o (.dK kvw)) dn=some (.dK kvk):=by rw[aB ndn.2.2];exact edn8
 refine sY (fun i σ H'=>(∃o11:Option V,σ=SC l lp lr dn dc da dw o7 o8 o9 (some (.ref lm)) o11)/\Same (upd H8 dw (.frz o (.dK kvw))) H') ⟨⟨none,rfl⟩,fun _ _ h=>h⟩ ?_ ?_ ?_
 · rintro i σ H' _ ⟨_,s1⟩;exact s1 _ _ aa
 · rintro i kv σ H' hkv ⟨⟨o11,rfl⟩,s1⟩;obtain⟨v,hv,hm⟩:=vB (ak hkv);obtain⟨k,_,ik,wk,gk'⟩:=kw _ hm;refine⟨v,.inl ⟨kvw,kv.1,.inr ⟨o,s1 _ _ aa⟩,rfl,hv.symm⟩,?_⟩;exact⟨v,dc,lp,dn,k,ps,R,kn,C,kvk,rfl,IsK.mono (t1.trans s1.tups) ik,gk',c1.same s1,bG ndn.1,s1 _ _ n1,ka8.mono (t1.trans s1.tups),wk,fun H9 s9=>⟨⟨_,rfl⟩,s1.trans s9⟩⟩
 rintro σ H' ⟨⟨o11,rfl⟩,s1⟩;refine⟨o,s1 _ _ aa,?_⟩;have s2:=ot ew8 s1;generalize upd H' dw (.dK kvw)=H9 at s2⊢;have ec9:=s2 _ _ ec8;have ae9:=ae8.same s2;have ce9:=ce8.same s2;have ka9:=ka8.mono s2.tups;have edn9:=s2 _ _ edn8;replace ck:=ck.mono s2.tups;have s09:=s08.trans s2;clear s1 s2 c1 t1 n1 ec8 ew8 ae8 ce8 ka8 edn8 kw;refine⟨dc,kvc,ec9,dc,kvc,rfl,ec9,fun o'=> ?_⟩;have t1:=zE (u:= .frz o' (.dK kvc)) ec9;have c1:CE (upd H9 dc (.frz o' (.dK kvc))) dc lp ps R kn C:=by
  obtain⟨_,⟨ys',h3,h4⟩,h5,h6,h7⟩:=ce9;exact⟨⟨kvc,.inr ⟨o',aa⟩,ck.k⟩,⟨ys',HF ec9 h3,PrL.mono t1 h4⟩,h5,h6,h7⟩
 have a1:=ae9.frz (o:=o') ndac ec9;have n1:upd H9 dc (.frz o' (.dK kvc)) dn=some (.dK kvk):=by rw[aB ndn.1];exact edn9
 have k1:=ka9.mono t1;refine sY (fun i σ H'=>(∃o9 o11:Option V,σ=SC l lp lr dn dc da dw o7 o8 o9 (some (.ref lm)) o11)/\Same (upd H9 dc (.frz o' (.dK kvc))) H') ⟨⟨_,_,rfl⟩,fun _ _ h=>h⟩ ?_ ?_ ?_
 · rintro i σ H' _ ⟨_,s1⟩;exact s1 _ _ aa
 · rintro i kv σ H' hkv ⟨⟨o9,o11,rfl⟩,s1⟩;obtain⟨v,hv,hm⟩:=vB (ak hkv);obtain⟨fa,hfa,ifa⟩:=ck.e _ hm;have i1:=fW (t1.trans s1.tups) ifa;refine⟨v,.inl ⟨kvc,kv.1,.inr ⟨o',s1 _ _ aa⟩,rfl,hv.symm⟩,?_⟩;refine gn ?_;refine⟨v,dc,lp,fa,ps,R,kn,C,rfl,i1,hfa,c1.same s1,fun H10 s10=> ?_⟩;have s11:=s1.trans s10;cases fa with
   | is x k=>
     obtain⟨pF,a,b,rfl,hF,ia,ib⟩:=fW s10.tups i1;exact cQ hF rfl ⟨⟨_,_,rfl⟩,s11⟩
   | has x r y=>
     have i10:=fW s10.tups i1;obtain⟨pF,a,b,rfl,hF,ia,ib⟩:=id i10;refine cQ hF rfl ?_;exact⟨_,dc,da,lm,dn,lp,x,r,y,ps,R,kn,C,kvk,rfl,i10,hfa,c1.same s11,a1.same s11,s11 _ _ n1,k1.mono s11.tups,fun H12 s12=>⟨⟨_,_,rfl⟩,s11.trans s12⟩⟩
 rintro σ H' ⟨⟨o9,o11,rfl⟩,s1⟩;refine⟨o',s1 _ _ aa,?_⟩;have s2:=ot ec9 s1;generalize upd H' dc (.dK kvc)=H10 at s2⊢;exact⟨dc,lp,ps,R,kn,C,rfl,ce9.same s2,fun H11 s11=>q H11 ((s09.trans s2).trans s11)⟩
end
def Nz(h:SqL K H a xs)(k:∀o,H a=some o->H' a=some o):SqL K H' a xs:=by
 rcases h with(h | ⟨o,h⟩) | h
 · exact .inl (.inl (k _ h))
 · exact .inl (.inr ⟨o,k _ h⟩)
 · exact .inr h
def FS(ns:List Int)(lo hi:Option Int):∃ms:List Int,jJ (ns.map V.int) lo hi=ms.map V.int/\ms.length<=HT.sIx ns.length ns.length hi - HT.sIx ns.length 0 lo:=by
 refine⟨(ns.drop (HT.sIx ns.length 0 lo)).take (HT.sIx ns.length ns.length hi - HT.sIx ns.length 0 lo),?_,?_⟩
 · unfold jJ;rw[ao,<-List.map_drop,<-K3]
 · rw[cf];exact Nat.min_le_left _ _
def tD(xs:List V)(m:Nat):jJ xs none (some (m:Int))=xs.take m:=by
 have h1:HT.sIx xs.length xs.length (some (m:Int))=min m xs.length:=HT.sIx_nat _ _ _;have h2:HT.sIx xs.length 0 none=0:=rfl;unfold jJ;rw[h1,h2,ud,ME];rcases qj m xs.length with g | g
 · rw[Ga g]
 · rw[DC g,cZ (ar _),cZ g]
def FU(xs:List V)(m:Nat):jJ xs (some (m:Int)) none=xs.drop m:=by
 have h1:HT.sIx xs.length 0 (some (m:Int))=min m xs.length:=HT.sIx_nat _ _ _;have h2:HT.sIx xs.length xs.length none=xs.length:=rfl;unfold jJ;rw[h1,h2];rcases qj m xs.length with g | g
 · rw[Ga g,cZ (by rw[eY];lia)]
 · rw[DC g,MJ (ar _),MJ g];simp
theorem kL:∀{vs:List α} {ks:List β},Paired R vs ks->∀n,Paired R (vs.take n) (ks.take n)
 | _,_,.nil,n=>by cases n<;>exact .nil
 | _,_,.cons r t,0=> .nil
 | _,_,.cons r t,n+1=> .cons r (kL t n)
theorem pQ:∀{vs:List α} {ks:List β},Paired R vs ks->∀n,Paired R (vs.drop n) (ks.drop n)
 | _,_,.nil,n=>by cases n<;>exact .nil
 | _,_,.cons r t,0=> .cons r t
 | _,_,.cons r t,n+1=>pQ t n
def Bb(a b:List Kd):gH (a++b)=gH a+gH b:=by unfold gH;rw[bx,gh]
def LawD.deep(d:LawD ts hs ps ks fs)(n:Nat):LawD ts hs (ps.take n) ks fs:=by
 obtain⟨ws,h1,h2⟩:=d.pq;have l:=d.l24;refine⟨d.ht,d.lt,d.hh,⟨ws,h1,fun q hq=>h2 q (fC hq)⟩,d.pk,d.pf,by rw[cf];lia,?_,d.sk,d.sf⟩;have e:jt ps=jt (ps.take n)+jt (ps.drop n):=by
  have:=congrArg jt (jw n ps);rw[<-this];unfold jt;rw[bx,gh]
 have:=d.sq
 lia
def LawD.addS(d:LawD ts hs ps ks fs)(h:gH ks<=14)(g:gK ts k)(z:k.sz<=41):LawD ts hs ps (ks++[k]) fs:=⟨d.ht,d.lt,d.hh,d.pq,fun k' hk=>(aw.mp hk).elim (d.pk k') fun e=>(ag.mp e) ▸ g,d.pf,d.l24,d.sq,by rw[Bb];show gH ks+(k.sz+0)<=57;lia,d.sf⟩
def LawD.addF(d:LawD ts hs ps ks fs)(h:gH fs<=14)(g:gK ts k)(z:k.sz<=41):LawD ts hs ps ks (fs++[k]):=⟨d.ht,d.lt,d.hh,d.pq,d.pk,fun k' hk=>(aw.mp hk).elim (d.pf k') fun e=>(ag.mp e) ▸ g,d.l24,d.sq,d.sk,by rw[Bb];show gH fs+(k.sz+0)<=57;lia⟩
inductive rC(vs:List V)(H:Hp)(Q:VK):Prop
 | mk:∀lp lt lh ys ps ws ts hs,(vs=[.ref lp,.ref lt,.ref lh])->(H lp=some (.lst ys))->PrL H ys ps->(H lt=some (.lst (ts.map V.str)))->ts.length=2->(H lh=some (.lst (hs.map V.str)))->hs.length=2->(∀z∈hs,dk (.nm z))->(∀q∈ps,dS ws ts hs q.2)->ps.length<=90->(∀l H' ys' ps',Same H H'->H l=none->H' l=some (.lst ys')->PrL H' ys' ps'->ps'.length<=ps.length->(∀q∈ps',dS ws ts hs q.2)->Q (.ref l) H')->rC vs H Q
def xS:Sp:=fun vs H Q _=>rC vs H Q
def nM{ws:List Str}(h:ws.length=2):∃z∈ws,zC (ws.map V.str) (n % 2)=some (.str z):=gT (cU _ (by decide)) (by rw[h];exact cq _ (by decide))
section
def scOfTies:bj ["_law_pairs","_law_ties","_law_things_here","_law_made","_law_number","_law_saying_here","_law_thing"] BN (aJ vW):=gy
def CW(F:Fun K "_law_of_ties" "_law_of_ties" vW f fd):bW P w K mg base eW 1 f fd BN xS:=by
 refine F.o scOfTies fun cdv A outer s0 H vs Q E hr h=> ?_;obtain⟨lp,lt,lh,ys,ps,ws,ts,hs,rfl,elp,hps,elt,lts,elh,lhs,dh,dps,l90,q⟩:=h;have hu:=fh hr;refine⟨_,aZ (fz 3 scOfTies.nd (d_ lC aA fu (eN av)))
  (aZ (jR (bS (d_ lC aA (eN av) fu)) (eJ rfl (bw (e_ 4 scOfTies.nd) (bw (e_ 5 scOfTies.nd) dA))) (aZ (fz 6 scOfTies.nd (j7 cm bH (bh de bX av))) (hG (bA (eI bN (dj dH) aS) (aV (fz 5 scOfTies.nd (cX (iU aS dN (j7 cm bf (bh de (bh dJ bX av) av)) (j7 cm bH (bh de (bh dJ bX av) av)))))) aQ) (hG (bA (PW.pt (jf (eI bN (dj dH) aS) (jm (eI bN (dj dH) aS)))) (aV (fz 5 scOfTies.nd (cX (iU aS (j7 cm bf (bh de bX av)) (j7 cm bf (bh de (bh dJ bX av) av)) (j7 cm bf (bh de (bh dJ bX av) av)))))) aQ) (aV (be (yy bU (cX (fg bX dH)))))))))
  (aV (cI bU))),?_⟩
 refine⟨_,rfl,lp,_,rfl,SqL.of elp,fun l hl=> ?_⟩;rw[show jJ ys none (some 2)=ys.take 2 from tD ys 2];have y1:=aj hl (.lst (ys.take 2));refine⟨_,rfl,lp,_,rfl,SqL.of (y1 _ _ elp),fun l2 hl2=> ?_⟩;rw[show jJ ys (some 2) none=ys.drop 2 from FU ys 2];have y2:=aj hl2 (.lst (ys.drop 2));have e2:upd (upd H l (.lst (ys.take 2))) l2 (.lst (ys.drop 2)) l2=some (.lst (ys.drop 2)):=aa;have n2:l2≠l:=fun z=>by rw[z,aa] at hl2;cases hl2
 have e1:=y2 _ _ (show upd H l (.lst (ys.take 2)) l=some (.lst (ys.take 2)) from aa);have s02:=y1.trans y2;generalize upd (upd H l (.lst (ys.take 2))) l2 (.lst (ys.drop 2))=H2 at e1 e2 s02⊢;have pr2:=PrL.mono s02.tups hps;have lys:ys.length=ps.length:=aX hps;have dT:∀q∈ps.take 2,dS ws ts hs q.2:=fun q h=>dps q (fC h);refine⟨⟨_,SqL.of e2⟩,bR (xs:=ys.drop 2) (fun i σ H'=>(∃o4 o5 o6:Option V,σ=[some (.ref lp),some (.ref lt),some (.ref lh),some (.ref l),o4,o5,o6])/\Same H H'/\H' l2=some (.lst (ys.drop 2))/\Tups H2 H'/\∃ys1 ps1,H' l=some (.lst ys1)/\PrL H' ys1 ps1/\ys1.length<=(ps.take 2).length+i/\∀q∈ps1,dS ws ts hs q.2) ⟨⟨none,none,none,rfl⟩,s02,e2,Tups.refl H2,_,_,e1,kL pr2 2,by rw[cf,cf,lys];exact ar _,dT⟩ ?_ ?_ ?_⟩
 · rintro i σ H' _ ⟨_,_,e2',_⟩;exact SqL.of e2'
 · rintro i v σ H' hv ⟨⟨o4,o5,o6,rfl⟩,sH,e2',t2,ys1,ps1,e1',pr1,ly1,d1⟩;have hi:i<(ys.drop 2).length:=(aO.mp hv).1;rw[eY] at hi;obtain⟨⟨n,sy⟩,hq,t,vy,rfl,ht,hsy⟩:=bT (pQ pr2 2) hv;have hin:(n,sy)∈ps:=N9 (ak hq);have ht':=t2 _ _ ht;have hsy':=IsSy.mono t2 hsy;have ds:=dps _ hin;have elt':=sH _ _ elt;have elh':=sH _ _ elh;refine⟨_,SqT.of ht',rfl,?_⟩;refine⟨(show(0:Int)<2 by decide),?_⟩;obtain⟨z,hz,ez⟩:=nM (ws:=hs) (n:=n) lhs;refine⟨_,_,SqL.of elh',ez,?_⟩;refine gn ?_;obtain⟨a0,ha0,ea0⟩:=nM (ws:=ts) (n:=n) lts;obtain⟨a1,ha1,ea1⟩:=nM (ws:=ts) (n:=n/2) lts;obtain⟨a2,ha2,ea2⟩:=nM (ws:=ts) (n:=n/4) lts;obtain⟨z2,hz2,ez2⟩:=nM (ws:=hs) (n:=n/4) lhs;refine⟨fun σ H3=>∃(s1:Sy) (v1:V),σ=[some (.ref lp),some (.ref lt),some (.ref lh),some (.ref l),some (.int n),some v1,some (.str z)]/\Same H' H3/\IsSy H3 s1 v1/\dS ws ts hs s1,?_,?_⟩
   · obtain⟨pv,us,rfl,hpv,hL⟩:=id hsy';cases sy with
     | every a b=>
       refine cQ hpv (aU (j:=0) rfl) ?_;refine⟨⟨by decide,by decide⟩,(show(0:Int)<2 by decide),_,_,SqL.of elt',ea1,⟨by decide,by decide⟩,(show(0:Int)<2 by decide),_,_,SqL.of elh',ez2,bC (by show 4<=1000;decide),fun t3 ht3=> ?_⟩;exact⟨.tied z a1 z2,.ref t3,rfl,aj ht3 _,qA (s:= .tied z a1 z2) (xs:=[.str z,.str a1,.str z2]) ht3 (.cons rfl (.cons rfl (.cons rfl .nil))),⟨hz,dh z hz⟩,⟨hz2,dh z2 hz2⟩,ha1⟩
     | _=>exact cQ hpv (aU (j:=0) rfl) ⟨_,_,rfl,fun _ _ h=>h,hsy',ds⟩
   rintro σ H3 ⟨s1,v1,rfl,s3,i3,d3⟩;refine⟨fun σ H4=>∃(s1:Sy) (v1:V),σ=[some (.ref lp),some (.ref lt),some (.ref lh),some (.ref l),some (.int n),some v1,some (.str z)]/\Same H' H4/\IsSy H4 s1 v1/\dS ws ts hs s1,?_,?_⟩
   · obtain⟨pv,us,rfl,hpv,hL⟩:=id i3;have elt3:=s3 _ _ elt';cases s1 with
     | no a b=>
       refine cQ hpv (aU (j:=0) rfl) ?_;refine⟨(show(0:Int)<2 by decide),_,_,SqL.of elt3,ea0,⟨by decide,by decide⟩,(show(0:Int)<2 by decide),_,_,SqL.of elt3,ea1,⟨by decide,by decide⟩,(show(0:Int)<2 by decide),_,_,SqL.of elt3,ea2,bC (by show 4<=1000;decide),fun t3 ht3=> ?_⟩;exact⟨.makes a0 a1 a2,.ref t3,rfl,s3.trans (aj ht3 _),qA (s:= .makes a0 a1 a2) (xs:=[.str a0,.str a1,.str a2]) ht3 (.cons rfl (.cons rfl (.cons rfl .nil))),ha0,ha1,ha2⟩
     | thing a b=>
       refine cQ hpv (aU (j:=0) rfl) ?_;refine cQ hpv (aU (j:=0) rfl) ?_;refine⟨(show(0:Int)<2 by decide),_,_,SqL.of elt3,ea0,⟨by decide,by decide⟩,(show(0:Int)<2 by decide),_,_,SqL.of elt3,ea1,⟨by decide,by decide⟩,(show(0:Int)<2 by decide),_,_,SqL.of elt3,ea2,bC (by show 4<=1000;decide),fun t3 ht3=> ?_⟩;exact⟨.makes a0 a1 a2,.ref t3,rfl,s3.trans (aj ht3 _),qA (s:= .makes a0 a1 a2) (xs:=[.str a0,.str a1,.str a2]) ht3 (.cons rfl (.cons rfl (.cons rfl .nil))),ha0,ha1,ha2⟩
     | _=>
       refine cQ hpv (aU (j:=0) rfl) ?_;exact cQ hpv (aU (j:=0) rfl) ⟨_,_,rfl,s3,i3,d3⟩
   rintro σ H4 ⟨s2,v2,rfl,s4,i4,d4⟩;have e14:=s4 _ _ e1';refine⟨.inl ⟨rfl,_,SqL.of e14⟩,bC (by show 2<=1000;decide),fun t5 ht5=> ?_⟩;have s5:=aj ht5 (.tup [.int n,v2]);have e15:=s5 _ _ e14;have t6:Tups (upd H4 t5 (.tup [.int n,v2])) (upd (upd H4 t5 (.tup [.int n,v2])) l (.lst (ys1++[.ref t5]))):=Lr e15;refine⟨ys1,e15,bL (by rw[cf] at ly1;lia),⟨_,_,_,rfl⟩,d9 (sH.trans (s4.trans s5)) hl,by rw[aB n2];exact(s4.trans s5) _ _ e2',(t2.trans (s4.trans s5).tups).trans t6,ys1++[.ref t5],ps1++[(n,s2)],aa,qb (PrL.mono ((s4.trans s5).tups.trans t6) pr1) (.cons ⟨t5,v2,rfl,t6 _ _ aa,IsSy.mono (s5.tups.trans t6) i4⟩ .nil),by rw[ah];exact eX ly1,fun q' hq'=> ?_⟩;rcases aw.mp hq' with h | h
   · exact d1 q' h
   · rw[ag.mp h];exact d4
 rintro σ H' ⟨⟨o4,o5,o6,rfl⟩,sH,e2',t2,ys1,ps1,e1',pr1,ly1,d1⟩;have:=aX pr1;rw[cf,eY] at ly1;exact q l H' ys1 ps1 sH hl e1' pr1 (by lia) d1
end
inductive Bm(K:Frag)(vs:List V)(H:Hp)(Q:VK):Prop
 | mk:∀(a:Addr) (ns:List Int),(vs=[.ref a])->(SqL K H a (ns.map V.int))->(ns.length<=63)->(∀H',Q (.bl true) H')->Bm K vs H Q
def Bn(K:Frag):Sp:=fun vs H Q _=>Bm K vs H Q
def O7:Vals [V.non] [Value.none]:= .cons rfl .nil
def EX:((([("_law_k":Str)]:List Str)++[("_law_bag":Str),("_law_kin":Str),("_law_ties":Str)]):List Str).Nodup:=by decide+kernel
structure Oc(H:Hp)(lp ls lf:Addr)(ps:List (Int × Sy))(ks fs:List Kd):Prop where
 p:∃ys,H lp=some (.lst ys)/\PrL H ys ps
 s:∃zs,H ls=some (.lst zs)/\KL H zs ks
 f:∃us,H lf=some (.lst us)/\KL H us fs
theorem FOk.lo:∀{f:Fa},FOk f->f.lo 25
 | .is _ _,h=>⟨au h.1.2.1 (by decide),au h.2.2.1 (by decide)⟩
 | .has _ _ _,h=>⟨au h.1.2.1 (by decide),au h.2.2.2.1 (by decide)⟩
def OF(b lk lt D:Addr)(ts:List Str)(H:Hp)(i:Nat)(σ:L2.St)(H':Hp):Prop:=(∃o,σ=[o,some (.ref b),some (.ref lk),some (.ref lt)])/\Kp [b,D] H H'/\(∃x' y',H' b=some (.lst [.int x',.int y',.int 4]))/\∃vs ks,H' D=some (.lst vs)/\KL H' vs ks/\ks.length=i/\∀k∈ks,gK ts k/\k.sz<=7
noncomputable abbrev SL(a lk lt lh:Addr)(way:Int)(b:Addr)(o6 o7 o8 o9 o10 o11:Option V):L2.St:=[some (.ref a),some (.ref lk),some (.ref lt),some (.ref lh),some (.int way),some (.ref b),o6,o7,o8,o9,o10,o11]
section
def scLaw:bj ["_law_script","_law_kin","_law_ties","_law_things_here","_law_way","_law_bag","_law_starts","_law_further","_law_pairs","_law_deep","_law_found","_law_many"] yn (aJ JB):=gy
def J3(F:Fun K "law" "law" JB f fd)(ml:mg "len"=none)(mr:mg "range"=none)(mls:mg "list"=none)(Gc:Cl P w K mg base 1 "_law_cell" yo (D4 K))(Gw:Cl P w K mg base 1 "_law_words" wm vH)(Gt:Cl P w K mg base 2 "_law_things" wm xN)(Gsr:Cl P w K mg base 1 "_law_start" CJ vJ)(Gnu:Cl P w K mg base 6 "_law_numbered" Hb rD)(Gk:Cl P w K mg base 4 "_law_kind" wo (mC 3))(Got:Cl P w K mg base 1 "_law_of_ties" BN xS)(Gch:Cl P w K mg base 2 "_law_chain" Hd Br)(Gst:Dl P w K mg base 65 "still" uO [.none] (vI 25))(Gs4:Dl P w K mg base 65 "still" uO [] (vI 25))(Gas:Cl P w K mg base 29 "_law_are_steps" nI IG)(Gkw:Cl P w K mg base 28 "_law_known" BO Bp)(Gcd:Cl P w K mg base 3 "_law_closed" BP xZ):bW P w K mg base eW 66 f fd yn (Bn K):=by
 refine F.o scLaw fun cdv A outer s H vs Q E hr h=> ?_;obtain⟨a,ns,rfl,hS,h63,q⟩:=h;refine⟨_,aZ (fz 1 scLaw.nd (dF Gw hr (fg (dF Gc hr (fg aA av)) av))) (aZ (fz 2 scLaw.nd (dF Gw hr (fg (dF Gc hr (fg aA av)) av))) (hG (bA (eI bN (bh de (dF Gc hr (fg aA av)) av) av) (aV (fz 2 scLaw.nd (d_ lC bf fu (eN av)))) aQ) (aZ (fz 3 scLaw.nd (dF Gt hr (fg (dF Gc hr (fg aA av)) av))) (aZ (fz 4 scLaw.nd (dF Gc hr (fg aA av))) (aZ (fz 5 scLaw.nd (bV (gc (dF Gsr hr (fg (bV (eP av)) (dF Gc hr (fg aA av)))) av av))) (hG (qF (i:=6) yp LW [5,1,2] scLaw.nd rfl rfl (iK rfl mr (eP (bh de bX av))) (fun _ _ _=>e_ 0 EX) (fun _ _ _=>gW) (fun _ _ _=>(dF Gk hr (iU bf bH bU av)))) (hG (qF (i:=7) yp LW [5,1,2] scLaw.nd rfl rfl (iK rfl mr (eP (bh de (bh dJ bX av) av))) (fun _ _ _=>e_ 0 EX) (fun _ _ _=>gW) (fun _ _ _=>(dF Gk hr (iU bf bH bU av)))) (hG (bA (eI bN (bh de (bh dJ bX av) av) av) (aV (fz 7 scLaw.nd (ei eR rfl mls bF (eP dN)))) aQ) (hG (fz 8 scLaw.nd (dF Gnu hr (bY (bh wD (bh wD (bV (eP bX)) (d_ lC aA (eN av) (eN av))) (bV (eP av))) (iU dH bf bH bU)))) (hG (bA (eI bN (bh de (bh dJ bX av) av) av) (aV (fz 8 scLaw.nd (dF Got hr (gc gM bH bU)))) aQ) (hG (bA (eI bN (bh de (bh dJ bX av) av) av) (aZ (fz 8 scLaw.nd (d_ lC gM fu (eN av))) (aZ (fz 9 scLaw.nd (dF Gch hr (iU dH bf bH (bh hV av (bh de (bh dJ bX av) av))))) (aZ (be (yy dN lQ)) (aV (be (yy gN lQ)))))) aQ) (aZ (fz 10 scLaw.nd (On Gst O7 hr (gc (ei eR rfl mls bF (eP gM)) (ei eR rfl mls bF (eP dN)) (ei eR rfl mls bF (eP gN))))) (aZ (bA (PW.pt (jf (dO (cw (dF Gas hr (eP (pv 10))))) (jm (dO (cw (dF Gcd hr (iU (pv 10) gM dN (dF Gkw hr (fg gM gN))))))))) (aV (cI dq)) aQ) (aZ (fz 11 scLaw.nd (tW ml (pv 10))) (aZ (be (Ag Lj PySem.F.slot_list_clear PySem.F.type_list_clear EY (pv 10))) (aV (cI (JK bN (tW ml (On Gs4 .nil hr (iU (ei eR rfl mls bF (eP gM)) (ei eR rfl mls bF (eP dN)) (ei eR rfl mls bF (eP gN)) fL))) (pv 11))))))))))))))))))),?_⟩;refine⟨a,ns,0,rfl,hS,by decide,fun r0=>⟨_,3,rfl,by decide,by decide,fun lk H1 ws s1 f1 e1 _ _ l1' w1=> ?_⟩⟩;have l1:=l1' (by decide);refine⟨a,ns,1,rfl,s1.seq hS,by decide,fun r1=>⟨_,2,rfl,by decide,by decide,fun lt H2 ts s2 f2 e2 _ _ l2' w2=> ?_⟩⟩;have l2:=l2' (by decide);have s02:=s1.trans s2;refine⟨fun σ H'=>∃(lt:Addr) (ts:List Str),σ=[some (.ref a),some (.ref lk),some (.ref lt),none,none,none,none,none,none,none,none,none]/\Same H2 H'/\H' lt=some (.lst (ts.map V.str))/\ts.length=2/\∀z∈ts,wd z,?_,?_⟩
 · refine⟨a,ns,1,rfl,s02.seq hS,by decide,fun r2=>⟨(show(0:Int)<3 by decide),fS (fun _=> ?_) (fun _=> ?_)⟩⟩
   · refine⟨_,rfl,lk,_,rfl,SqL.of (s2 _ _ e1),fun l hl=> ?_⟩;rw[show jJ (ws.map V.str) none (some 2)=(ws.take 2).map V.str by rw[K3];exact tD _ 2];exact⟨l,ws.take 2,rfl,aj hl _,aa,by rw[cf];lia,fun z hz=>w1 z (fC hz)⟩
   · exact⟨lt,ts,rfl,fun _ _ h=>h,e2,by lia,w2⟩
 rintro σ H2' ⟨lt,ts,rfl,s2',e2,l2,w2⟩;replace s02:=s02.trans s2';refine⟨a,ns,2,rfl,s02.seq hS,by decide,fun r2=>⟨_,2,rfl,by decide,by decide,fun lh H3 hs s3 f3 e3 l3 w3=> ?_⟩⟩;have s03:=s02.trans s3;refine⟨a,ns,3,rfl,s03.seq hS,by decide,fun way=> ?_⟩;refine⟨bC (by show 1<=1000;decide),fun l0 hl0=> ?_⟩;have z0:=aj hl0 (.lst [.int 0]);refine⟨a,ns,4,rfl,(s03.trans z0).seq hS,by decide,fun r3=> ?_⟩;refine⟨l0,0,_,[],rfl,aa,fun xr=>⟨bC (by show 3<=1000;decide),fun b hb=> ?_⟩⟩;have s4:=z0.trans (aj hb (.lst [.int xr,.int 10,.int 4]));have hb0:H3 b=none:=by
  cases e:H3 b with
  | none=>rfl
  | some o=>rw[z0 _ _ e] at hb;cases hb
 have s04:=s03.trans s4;have e1':=((s2.trans s2').trans s3) _ _ e1;have e2':=s3 _ _ e2;have nkb:=br e1' hb0;have ntb:=br e2' hb0;have nhb:=br e3 hb0;have eb4:upd (upd H3 l0 (.lst [.int 0])) b (.lst [.int xr,.int 10,.int 4]) b=some (.lst [.int xr,.int 10,.int 4]):=aa;generalize upd (upd H3 l0 (.lst [.int 0])) b (.lst [.int xr,.int 10,.int 4])=H4 at s4 s04 eb4⊢;have nab:∀o,H a=some o->a≠b:=fun o h z=>by rw[z] at h;rw[s03 _ _ h] at hb0;cases hb0
 have en4:Env H4 b lk lt lh ws ts hs:=⟨s4 _ _ e1',by lia,fun z hz=>Jb (w1 z hz),s4 _ _ e2',l2,s4 _ _ e3,by lia,fun z hz=>FP (w3 z hz),nkb,ntb,nhb⟩;have nab4:∀{H':Hp},Kp [b] H4 H'->SqL K H' a (ns.map V.int):=fun {H'} k=>Nz hS fun o h=>k.but _ _ (di (nab o h)) (s04 _ _ h);clear l1' s1 s2 s2' s3 s4 e1 e2 e3 e1' e2' f1 f3 hS s02 s03 z0 hl0 hb hb0 s04;have n1:=cU way (show(3:Int)≠0 by decide);have n2:=cq way (show(0:Int)<3 by decide);refine⟨fun σ H'=>∃(ls:Addr) (ks:List Kd) (zs:List V) (x y:Int),σ=SL a lk lt lh way b (some (.ref ls)) none none none none none/\Kp [b] H4 H'/\H' b=some (.lst [.int x,.int y,.int 4])/\ls≠b/\H4 ls=none/\H' ls=some (.lst zs)/\KL H' zs ks/\gH ks<=14/\∀k∈ks,gK ts k,?_,?_⟩
 · refine⟨(show(0:Int)<3 by decide),way % 3,rfl,by lia,by lia,fun D hD=> ?_⟩;have nDb:D≠b:=fun z=>by rw[z,eb4] at hD;cases hD
   refine jr (way % 3).toNat (fun i σ H'=>OF b lk lt D ts H4 i σ H') ⟨⟨_,rfl⟩,.of (aj hD _),⟨_,_,(aj hD _) _ _ eb4⟩,[],[],aa,.nil,rfl,fun _ h=>(ai h).elim⟩ ?_ ?_
   · rintro σ HB ⟨_,kD,⟨xB,yB,bB⟩,vs,ks,eD,kl,lks,gk⟩;exact⟨ar _,D,ks,vs,xB,yB,rfl,Kp.drop hD kD,bB,nDb,hD,eD,kl,by have:=zK (n:=7) (fun k hk=>(gk k hk).2);lia,fun k hk=>(gk k hk).1⟩
   · rintro i σ HB hi ⟨⟨o,rfl⟩,kD,⟨xB,yB,bB⟩,vs,ks,eD,kl,lks,gk⟩;refine⟨hi,?_⟩;rintro v HC ⟨rfl,rfl⟩;refine(en4.kp (Kp.drop hD kD)).kind bB fun v1 HE k1 xE yE kE bE ik1 nt1 dp1 nm1=> ?_;have eD8:=kE.but _ _ (di nDb) eD;have lvs:vs.length=i:=by rw[aX kl];exact lks
     have hi':i<(way % 3).toNat:=hi;have kput:Kp [b,D] HE (upd HE D (.lst (vs++[v1]))):=Kp.lst (by simp) eD8;refine⟨_,eD8,bL (by lia),⟨_,rfl⟩,(kD.trans (kE.mono (by simp))).trans kput,⟨xE,yE,by rw[aB (bG nDb)];exact bE⟩,vs++[v1],ks++[k1],aa,qb (KL.mono (kE.tups.trans kput.tups) kl) (.cons (IsK.mono kput.tups ik1) .nil),by rw[ah,lks];rfl,fun k hk=> ?_⟩;rcases aw.mp hk with h | h
     · exact gk k h
     · rw[ag.mp h];exact⟨Cd w1 w2 nm1 (by lia) (by lia),by have:=gY k1;lia⟩
 rintro σ H5 ⟨ls,ks,zs,x5,y5,rfl,k5,b5,nsb,nls,es5,kl5,sk5,gk⟩;have n3:=cU (way/3) (show(3:Int)≠0 by decide);have n4:=cq (way/3) (show(0:Int)<3 by decide);have en5:=en4.kp k5;refine⟨fun σ H'=>∃(lf:Addr) (fs:List Kd) (us:List V) (x y:Int),σ=SL a lk lt lh way b (some (.ref ls)) (some (.ref lf)) none none none none/\Kp [b] H5 H'/\H' b=some (.lst [.int x,.int y,.int 4])/\lf≠b/\H5 lf=none/\H' lf=some (.lst us)/\KL H' us fs/\gH fs<=14/\∀k∈fs,gK ts k,?_,?_⟩
 · refine⟨⟨by decide,by decide⟩,(show(0:Int)<3 by decide),way/3 % 3,rfl,by lia,by lia,fun D hD=> ?_⟩;have nDb:D≠b:=fun z=>by rw[z,b5] at hD;cases hD
   refine jr (way/3 % 3).toNat (fun i σ H'=>OF b lk lt D ts H5 i σ H') ⟨⟨_,rfl⟩,.of (aj hD _),⟨_,_,(aj hD _) _ _ b5⟩,[],[],aa,.nil,rfl,fun _ h=>(ai h).elim⟩ ?_ ?_
   · rintro σ HB ⟨_,kD,⟨xB,yB,bB⟩,vs,ks,eD,kl,lks,gk⟩;exact⟨ar _,D,ks,vs,xB,yB,rfl,Kp.drop hD kD,bB,nDb,hD,eD,kl,by have:=zK (n:=7) (fun k hk=>(gk k hk).2);lia,fun k hk=>(gk k hk).1⟩
   · rintro i σ HB hi ⟨⟨o,rfl⟩,kD,⟨xB,yB,bB⟩,vs,ks,eD,kl,lks,gk⟩;refine⟨hi,?_⟩;rintro v HC ⟨rfl,rfl⟩;refine(en5.kp (Kp.drop hD kD)).kind bB fun v1 HE k1 xE yE kE bE ik1 nt1 dp1 nm1=> ?_;have eD8:=kE.but _ _ (di nDb) eD;have lvs:vs.length=i:=by rw[aX kl];exact lks
     have hi':i<(way/3 % 3).toNat:=hi;have kput:Kp [b,D] HE (upd HE D (.lst (vs++[v1]))):=Kp.lst (by simp) eD8;refine⟨_,eD8,bL (by lia),⟨_,rfl⟩,(kD.trans (kE.mono (by simp))).trans kput,⟨xE,yE,by rw[aB (bG nDb)];exact bE⟩,vs++[v1],ks++[k1],aa,qb (KL.mono (kE.tups.trans kput.tups) kl) (.cons (IsK.mono kput.tups ik1) .nil),by rw[ah,lks];rfl,fun k hk=> ?_⟩;rcases aw.mp hk with h | h
     · exact gk k h
     · rw[ag.mp h];exact⟨Cd w1 w2 nm1 (by lia) (by lia),by have:=gY k1;lia⟩
 rintro σ H6 ⟨lf,fs,us,x6,y6,rfl,k6,b6,nfb,nlf,ef6,kl6,sf6,gf⟩;refine⟨fun σ H'=>∃(lf:Addr) (fs:List Kd) (us:List V),σ=SL a lk lt lh way b (some (.ref ls)) (some (.ref lf)) none none none none/\Kp [b] H5 H'/\H' b=some (.lst [.int x6,.int y6,.int 4])/\lf≠b/\H5 lf=none/\H' lf=some (.lst us)/\KL H' us fs/\gH fs<=14/\∀k∈fs,gK ts k,?_,?_⟩
 · refine⟨⟨by decide,by decide⟩,(show(0:Int)<4 by decide),fS (fun _=> ?_) (fun _=> ?_)⟩
   · have es6:=k6.but _ _ (di nsb) es5;refine⟨ls,_,rfl,.inl (SqL.of es6),fun l hl=> ?_⟩;have y:=aj hl (.lst zs);have nlb:l≠b:=fun z=>by rw[z,b6] at hl;cases hl
     have h5:H5 l=none:=by
      cases e:H5 l with
      | none=>rfl
      | some o=>rw[k6.but _ _ (di nlb) e] at hl;cases hl
     exact⟨l,ks,zs,rfl,k6.trans (.of y),y _ _ b6,nlb,h5,aa,KL.mono (k6.tups.trans y.tups) kl5,sk5,gk⟩
   · exact⟨lf,fs,us,rfl,k6,b6,nfb,nlf,ef6,kl6,sf6,gf⟩
 clear k6 b6 nfb nlf ef6 kl6 sf6 gf lf fs us H6;rintro σ H6 ⟨lf,fs,us,rfl,k6,b6,nfb,nlf,ef6,kl6,sf6,gf⟩;have en6:=en5.kp k6;have k46:=k5.trans k6;have es6:=k6.but _ _ (di nsb) es5;have ks6:=KL.mono k6.tups kl5;have nsf:ls≠lf:=br es5 nlf;clear es5 kl5 b5 k5 k6 n1 n2 n3 n4 nlf en5;refine⟨fun σ H'=>∃(lp:Addr) (ps:List (Int × Sy)) (ys:List V) (x y u:Int),σ=SL a lk lt lh way b (some (.ref ls)) (some (.ref lf)) (some (.ref lp)) none none none/\Kp [b] H6 H'/\H' b=some (.lst [.int x,.int y,.int u])/\lp≠b/\H6 lp=none/\H' lp=some (.lst ys)/\PrL H' ys ps/\ps.length<=18/\(∀q∈ps,dS ws ts hs q.2),?_,?_⟩
 · refine⟨bC (by show 1<=1000;decide),fun l1 h1=> ?_⟩;have y1:=aj h1 (.lst [.int way]);refine⟨_,rfl,_,rfl,a,_,rfl,y1.seq (nab4 k46),fun l2 h2=> ?_⟩;obtain⟨ms,ems,lms⟩:=FS ns (some 5) (some 21);have lms':ms.length<=16:=by
    rw[show HT.sIx ns.length ns.length (some 21)=min 21 ns.length from HT.sIx_nat _ _ 21,show HT.sIx ns.length 0 (some 5)=min 5 ns.length from HT.sIx_nat _ _ 5] at lms
    lia
   rw[ems];have y2:=aj h2 (.lst (ms.map V.int));refine⟨l1,l2,_,_,rfl,rfl,y2 _ _ aa,aa,bC (by rw[ao];show 1+_<=1000;lia),fun l3 h3=> ?_⟩;have y3:=aj h3 (.lst ([.int way]++ms.map V.int));refine⟨bC (by show 1<=1000;decide),fun l4 h4=> ?_⟩;have y4:=aj h4 (.lst [.int 3]);refine⟨l3,l4,_,_,rfl,rfl,y4 _ _ aa,aa,bC (by rw[ah,ao];show 1+_+1<=1000;lia),fun lc h5=> ?_⟩;have y5:=aj h5 (.lst (([.int way]++ms.map V.int)++[.int 3]));have z5:=(((y1.trans y2).trans y3).trans y4).trans y5;have eb5:=z5 _ _ b6;have nlc:lc≠b:=fun z=>by rw[z,(((y1.trans y2).trans y3).trans y4) _ _ b6] at h5;cases h5
   have ecs:([V.int way]++ms.map V.int)++[V.int 3]=(way::(ms++[3])).map V.int:=by simp
   refine⟨lc,b,lk,lt,lh,_,_,_,way::(ms++[3]),ws,ts,hs,rfl,?_,nlc,?_,eb5,en6.kp (.of z5),fun lp H7 ys ps x7 y7 u7 k7 n7 e7 pr7 lps dps b7=> ?_⟩
   · rw[<-ecs];exact aa
   · rw[aR,ah];show _+1+1<=90;lia
   have npb:lp≠b:=fun z=>by rw[z,eb5] at n7;cases n7
   have h6:H6 lp=none:=by
    cases e:H6 lp with
    | none=>rfl
    | some o=>rw[z5 _ _ e] at n7;cases n7
   refine⟨lp,ps,ys,x7,y7,u7,rfl,(Kp.of z5).trans k7,b7,npb,h6,e7,pr7,?_,dps⟩;rw[lps,aR,ah];show ms.length+1+1<=18
   lia
 rintro σ H7 ⟨lp,ps,ys,x7,y7,u7,rfl,k7,b7,npb,h6p,ep7,pr7,lps,dps⟩;have en7:=en6.kp k7;refine⟨fun σ H'=>∃(lp:Addr) (ps:List (Int × Sy)) (ys:List V),σ=SL a lk lt lh way b (some (.ref ls)) (some (.ref lf)) (some (.ref lp)) none none none/\Kp [b] H6 H'/\H' b=some (.lst [.int x7,.int y7,.int u7])/\lp≠b/\H6 lp=none/\H' lp=some (.lst ys)/\PrL H' ys ps/\ps.length<=18/\(∀q∈ps,dS ws ts hs q.2),?_,?_⟩
 · refine⟨⟨by decide,by decide⟩,(show(0:Int)<5 by decide),fS (fun _=> ?_) (fun _=> ?_)⟩
   · refine⟨lp,lt,lh,ys,ps,ws,ts,hs,rfl,ep7,pr7,en7.ht,en7.lt',en7.hh,en7.lh',en7.dh,dps,by lia,fun l H8 ys' ps' s8 hl e8 pr8 l8 d8=> ?_⟩;have nlb:l≠b:=fun z=>by rw[z,b7] at hl;cases hl
     have h6:H6 l=none:=by
      cases e:H6 l with
      | none=>rfl
      | some o=>rw[k7.but _ _ (di nlb) e] at hl;cases hl
     exact⟨l,ps',ys',rfl,k7.trans (.of s8),s8 _ _ b7,nlb,h6,e8,pr8,by lia,d8⟩
   · exact⟨lp,ps,ys,rfl,k7,b7,npb,h6p,ep7,pr7,lps,dps⟩
 clear k7 npb h6p ep7 pr7 lps dps b7 en7 lp ps ys H7;rintro σ H7 ⟨lp,ps,ys,rfl,k7,b7,npb,h6p,ep7,pr7,lps,dps⟩;have en7:=en6.kp k7;have es7:=k7.but _ _ (di nsb) es6;have ef7:=k7.but _ _ (di nfb) ef6;have ks7:=KL.mono k7.tups ks6;have kl7:=KL.mono k7.tups kl6;have d7:LawD ts hs ps ks fs:=⟨w2,en4.lt',w3,⟨ws,w1,dps⟩,gk,gf,by lia,by have:=DY (n:=14) (ps:=ps) (fun q hq=>(dps q hq).szs);lia,by lia,by lia⟩;refine⟨fun σ H'=>∃(lp ls lf:Addr) (ps:List (Int × Sy)) (ks fs:List Kd) (o9:Option V),σ=SL a lk lt lh way b (some (.ref ls)) (some (.ref lf)) (some (.ref lp)) o9 none none/\Oc H' lp ls lf ps ks fs/\LawD ts hs ps ks fs,?_,?_⟩
 · refine⟨⟨by decide,by decide⟩,(show(0:Int)<5 by decide),fS (fun _=> ?_) (fun _=> ?_)⟩
   · refine⟨_,rfl,lp,_,rfl,SqL.of ep7,fun lq hq=> ?_⟩;rw[show jJ ys none (some 4)=ys.take 4 from tD ys 4];have y8:=aj hq (.lst (ys.take 4));have n1:=cU (way/180) (show(20:Int)≠0 by decide);have n2:=cq (way/180) (show(0:Int)<20 by decide);obtain⟨n,hn⟩:∃n:Nat,(n:Int)=1+way/180 % 20:=⟨(1+way/180 % 20).toNat,by lia⟩;have e8:=en7.kp (.of y8);have b8:=y8 _ _ b7;have ep8:upd H7 lq (.lst (ys.take 4)) lq=some (.lst (ys.take 4)):=aa;have nqb:lq≠b:=fun z=>by rw[z,b7] at hq;cases hq
     have nqs:lq≠ls:=fun z=>by rw[z,es7] at hq;cases hq
     have nqf:lq≠lf:=fun z=>by rw[z,ef7] at hq;cases hq
     generalize upd H7 lq (.lst (ys.take 4))=H8 at y8 e8 b8 ep8⊢;refine⟨⟨by decide,by decide⟩,(show(0:Int)<20 by decide),b,lk,lt,x7,y7,u7,ws,ts,n,(by rw[hn];rfl),b8,e8.hk,e8.ht,e8.nk,e8.nt,e8.p1,e8.p2,e8.p3,e8.p4,by lia,fun v H9 k x9 y9 k9 b9 ik nt dp nm=> ?_⟩;have g9:gK ts k:=Cd w1 w2 nm (by lia) (by lia);have z9:k.sz<=41:=by have:=gY k;lia
     have k89:Kp [b] H7 H9:=(Kp.of y8).trans k9;have ep9:=k9.but _ _ (di nqb) ep8;have es9:=k89.but _ _ (di nsb) es7;have ef9:=k89.but _ _ (di nfb) ef7;have pr9:PrL H9 (ys.take 4) (ps.take 4):=PrL.mono k89.tups (kL pr7 4);have ks9:=KL.mono k89.tups ks7;have fs9:=KL.mono k89.tups kl7;have lz:zs.length<=14:=by rw[KL.len ks7];exact au (qu ks) sk5
     have lu:us.length<=14:=by rw[KL.len kl7];exact au (qu fs) sf6
     refine⟨.inl ⟨rfl,_,SqL.of es9⟩,zs,es9,bL (by lia),?_⟩;have t1:Tups H9 (upd H9 ls (.lst (zs++[v]))):=(Kp.lst (L:=[ls]) (by simp) es9).tups;have ef1:upd H9 ls (.lst (zs++[v])) lf=some (.lst us):=by rw[aB (bG nsf)];exact ef9
     refine⟨.inl ⟨rfl,_,SqL.of ef1⟩,us,ef1,bL (by lia),?_⟩;have t2:Tups (upd H9 ls (.lst (zs++[v]))) (upd (upd H9 ls (.lst (zs++[v]))) lf (.lst (us++[v]))):=(Kp.lst (L:=[lf]) (by simp) ef1).tups;have t:=t1.trans t2;exact⟨lq,ls,lf,ps.take 4,ks++[k],fs++[k],_,rfl,⟨⟨_,by rw[aB nqf,aB nqs];exact ep9,PrL.mono t pr9⟩,⟨_,by rw[aB nsf];exact aa,qb (KL.mono t ks9) (.cons (IsK.mono t ik) .nil)⟩,⟨_,aa,qb (KL.mono t fs9) (.cons (IsK.mono t ik) .nil)⟩⟩,((d7.deep 4).addS sk5 g9 z9).addF sf6 g9 z9⟩
   · exact⟨lp,ls,lf,ps,ks,fs,_,rfl,⟨⟨_,ep7,pr7⟩,⟨_,es7,ks7⟩,⟨_,ef7,kl7⟩⟩,d7⟩
 clear d7 en7 ep7 pr7 es7 ks7 nsf b7 ef7 kl7 sf6 gf gk sk5 en6 npb nsb nfb lps dps k46 es6 ef6 ks6 kl6 k7 b6 h6p nls;clear lp ps ys H7 H6 lf fs us ls ks zs H5;rintro σ H1 ⟨lp,ls,lf,ps,ks,fs,o9,rfl,lw,d⟩;obtain⟨q1,q2,q3,q4,q5,q6,q7,q8,q9,q10⟩:=d.still;obtain⟨⟨ys,ep,pr⟩,⟨zs,es,kl⟩,⟨us,ef,fl⟩⟩:=id lw;refine⟨lp,_,rfl,.inl (SqL.of ep),fun l1 h1=> ?_⟩;have y1:=aj h1 (.lst ys);refine⟨ls,_,rfl,.inl (SqL.of (y1 _ _ es)),fun l2 h2=> ?_⟩;have y2:=aj h2 (.lst zs);refine⟨lf,_,rfl,.inl (SqL.of ((y1.trans y2) _ _ ef)),fun l3 h3=> ?_⟩;have y3:=aj h3 (.lst us);have s2:=(y1.trans y2).trans y3;have e1:=(y2.trans y3) _ _ (show upd H1 l1 (.lst ys) l1=_ from aa);have e2:=y3 _ _ (show upd (upd H1 l1 (.lst ys)) l2 (.lst zs) l2=_ from aa);have e3:upd (upd (upd H1 l1 (.lst ys)) l2 (.lst zs)) l3 (.lst us) l3=_:=aa;generalize upd (upd (upd H1 l1 (.lst ys)) l2 (.lst zs)) l3 (.lst us)=H2 at s2 e1 e2 e3⊢;refine⟨700,ts,l1,l2,l3,ys,zs,us,ps,ks,fs,rfl,e1,PrL.mono s2.tups pr,e2,KL.mono s2.tups kl,e3,KL.mono s2.tups fl,q1,q2,q3,q4,q5,q6,q7,q8,q9,q10,fun H3 lq vs T Tn S' s23 hq eq rv _ st=> ?_⟩;obtain⟨kn,clo,c1,c2,c3,c4⟩:=d.closed st;have gp:=d.parts;have stl:=LF rv;have lv:vs.length=S'.steps.length:=aX rv;have s03:=s2.trans s23;refine⟨lq,vs,S'.steps,rfl,eq,stl,fun s hs=>⟨(c3 s hs).2.lo,(c3 s hs).1⟩,fun H4' s34=> ?_⟩;have s04:=s03.trans s34;refine⟨lp,lf,ys,us,ps,fs,fun k=>kn k/\gP k,rfl,s04 _ _ ep,PrL.mono s04.tups pr,s04 _ _ ef,KL.mono s04.tups fl,fun q hq k hk=> ?_,fun k hk=> ?_,?_,c1,c2,fun dn H5 kvk s5 hdn edn ka=> ?_⟩
 · obtain⟨g1,g2,g3⟩:=((gp q hq).1 k hk).1;exact⟨g1,by lia,by lia⟩
 · obtain⟨g1,g2,g3⟩:=(d.pf k hk).gP;exact⟨g1,by lia,by lia⟩
 · have:=d.sf;have:=d.sq
   lia
 have s05:=s04.trans s5;have s35:=s34.trans s5;refine⟨lq,lp,ls,dn,vs,ys,zs,S'.steps,ps,ks,kn,kvk,rfl,s35 _ _ eq,StL.keep (.of s35) stl,s05 _ _ ep,PrL.mono s05.tups pr,s05 _ _ es,KL.mono s05.tups kl,edn,ka,clo,fun s hs=>(c3 s hs).2,fun q hq k hk=>((gp q hq).1 k hk).1,fun k hk=>(d.pk k hk).gP,q4,?_,c4,fun H6 s6=> ?_⟩
 · have:=qu ks;have:=d.sk
   lia
 have eq6:=s6 _ _ (s35 _ _ eq);refine⟨lq,_,rfl,.inl (SqL.of eq6),?_⟩;refine⟨.inl ⟨rfl,_,SqL.of eq6⟩,lq,_,rfl,rfl,eq6,?_⟩;have hq1:H1 lq=none:=by
  cases e:H1 lq with
  | none=>rfl
  | some o=>rw[s2 _ _ e] at hq;cases hq
 have s7:Same H1 (upd H6 lq (.lst [])):=d9 (s05.trans s6) hq1;generalize upd H6 lq (.lst [])=H7 at s7⊢;clear s05 s35 s04 s03 stl eq eq6 rv s6 s5 edn ka s34 s23 e1 e2 e3 s2 y1 y2 y3;refine⟨lp,_,rfl,.inl (SqL.of (s7 _ _ ep)),fun l1 h1=> ?_⟩;have y1:=aj h1 (.lst ys);refine⟨ls,_,rfl,.inl (SqL.of ((s7.trans y1) _ _ es)),fun l2 h2=> ?_⟩;have y2:=aj h2 (.lst zs);refine⟨lf,_,rfl,.inl (SqL.of (((s7.trans y1).trans y2) _ _ ef)),fun l3 h3=> ?_⟩;have y3:=aj h3 (.lst us);have s2:=((s7.trans y1).trans y2).trans y3;have e1:=(y2.trans y3) _ _ (show upd H7 l1 (.lst ys) l1=_ from aa);have e2:=y3 _ _ (show upd (upd H7 l1 (.lst ys)) l2 (.lst zs) l2=_ from aa);have e3:upd (upd (upd H7 l1 (.lst ys)) l2 (.lst zs)) l3 (.lst us) l3=_:=aa;generalize upd (upd (upd H7 l1 (.lst ys)) l2 (.lst zs)) l3 (.lst us)=H8 at s2 e1 e2 e3⊢;refine⟨700,ts,l1,l2,l3,ys,zs,us,ps,ks,fs,rfl,e1,PrL.mono s2.tups pr,e2,KL.mono s2.tups kl,e3,KL.mono s2.tups fl,q1,q2,q3,q4,q5,q6,q7,q8,q9,q10,fun H9 lq' vs' T' Tn' S'' s89 hq' eq' rv' _ st'=> ?_⟩;refine⟨lq',_,rfl,.inl (SqL.of eq'),?_⟩;have l9:vs'.length=vs.length:=by rw[aX rv',lv,Cz st' st]
 show Q (.bl (decide (V.int (vs'.length:Int)=V.int (vs.length:Int)))) H9;rw[l9,aG rfl];exact q H9
end
def mq(l:K.lookup a=some ⟨.type "tuple",od,.seq its n,sl⟩)(hs:its.size<=sizeLine)(hv:Vals xs its.toList):SqT K H a xs:= .inr ⟨_,its,n,l,rfl,rfl,hs,hv⟩
def Ke{p:List Value->Prop}(h:p [])(us:List Value)(e:us.length=0):p us:=by cases us with | nil=>exact h | cons=>cases e
def oq{p:List Value->Prop}(h:∀a us,us.length=n->p (a::us))(us:List Value)(e:us.length=n+1):p us:=by cases us with | nil=>cases e | cons a us=>exact h a us (Nat.succ.inj e)
def ln1{p:List Value->Prop}(h:∀a,p [a]):∀us:List Value,us.length=1->p us:=oq fun a=>Ke (h a)
def ln2{p:List Value->Prop}(h:∀a b,p [a,b]):∀us:List Value,us.length=2->p us:=oq fun a=>oq fun b=>Ke (h a b)
def ln3{p:List Value->Prop}(h:∀a b c,p [a,b,c]):∀us:List Value,us.length=3->p us:=oq fun a=>oq fun b=>oq fun c=>Ke (h a b c)
def ln4{p:List Value->Prop}(h:∀a b c d,p [a,b,c,d]):∀us:List Value,us.length=4->p us:=oq fun a=>oq fun b=>oq fun c=>oq fun d=>Ke (h a b c d)
def ln5{p:List Value->Prop}(h:∀a b c d e,p [a,b,c,d,e]):∀us:List Value,us.length=5->p us:=oq fun a=>oq fun b=>oq fun c=>oq fun d=>oq fun e=>Ke (h a b c d e)
def ln6{p:List Value->Prop}(h:∀a b c d e f,p [a,b,c,d,e,f]):∀us:List Value,us.length=6->p us:=oq fun a=>oq fun b=>oq fun c=>oq fun d=>oq fun e=>oq fun f=>Ke (h a b c d e f)
def ln7{p:List Value->Prop}(h:∀a b c d e f g,p [a,b,c,d,e,f,g]):∀us:List Value,us.length=7->p us:=oq fun a=>oq fun b=>oq fun c=>oq fun d=>oq fun e=>oq fun f=>oq fun g=>Ke (h a b c d e f g)
section
def fAt{K:Frag}{h:Heap}{mg:Str->Option Value}{x:Str}{st:Stmt}{ps:List Str}{a:Addr}{od an:Option Addr}{sl:Array (Option Value)}{oc kV dc pm cd ct:Value}(X:K.In h)(G:h.Ns mainGlobals mg)(e:nsIn K mainGlobals x=some (some (.ref a)):=by k_is)(l:K.lookup a=some ⟨oc,od,.func (fnOf x x (fD st) (eQ st) (aJ st) .none kV dc pm an cd ct),sl⟩:=by k_is)(c:codeIn K cd x=true:=by k_is)(k:keepIn K (.ref a)=true:=by k_is)(hb:∀(kV doc pm:Value) (an:Option Addr) (cdv ct:Value) (us:List Value),us.length=ps.length->bindArgs (fnOf x x (fD st) (eQ st) (aJ st) .none kV doc pm an cdv ct) ⟨us,[]⟩=pure (ps.zip us):=by first | exact fun _ _ _ _ _ _=>K19.ln1 fun _=>rfl | exact fun _ _ _ _ _ _=>K19.ln2 fun _ _=>rfl | exact fun _ _ _ _ _ _=>K19.ln3 fun _ _ _=>rfl | exact fun _ _ _ _ _ _=>K19.ln4 fun _ _ _ _=>rfl | exact fun _ _ _ _ _ _=>K19.ln5 fun _ _ _ _ _=>rfl | exact fun _ _ _ _ _ _=>K19.ln6 fun _ _ _ _ _ _=>rfl | exact fun _ _ _ _ _ _=>K19.ln7 fun _ _ _ _ _ _ _=>rfl):Fq K mg x st ps:=⟨_,_,w9 l c k,(w9 l c k).binds hb,mg_of X G e⟩
def fAtM{K:Frag}{x q:Str}{st:Stmt}{ps:List Str}{a C:Addr}{od an:Option Addr}{sl:Array (Option Value)}{oc kV dc pm cd ct:Value}(e:findIn K (.ref C) x=some (some (.ref a)):=by k_is)(n:isFn K (.ref a)=true:=by k_is)(l:K.lookup a=some ⟨oc,od,.func (fnOf x q (fD st) (eQ st) (aJ st) .none kV dc pm an cd ct),sl⟩:=by k_is)(c:codeIn K cd q=true:=by k_is)(k:keepIn K (.ref a)=true:=by k_is)(hb:∀(kV doc pm:Value) (an:Option Addr) (cdv ct:Value) (us:List Value),us.length=ps.length->bindArgs (fnOf x q (fD st) (eQ st) (aJ st) .none kV doc pm an cdv ct) ⟨us,[]⟩=pure (ps.zip us):=by first | exact fun _ _ _ _ _ _=>K19.ln1 fun _=>rfl | exact fun _ _ _ _ _ _=>K19.ln2 fun _ _=>rfl | exact fun _ _ _ _ _ _=>K19.ln3 fun _ _ _=>rfl | exact fun _ _ _ _ _ _=>K19.ln4 fun _ _ _ _=>rfl | exact fun _ _ _ _ _ _=>K19.ln5 fun _ _ _ _ _=>rfl | exact fun _ _ _ _ _ _=>K19.ln6 fun _ _ _ _ _ _=>rfl | exact fun _ _ _ _ _ _=>K19.ln7 fun _ _ _ _ _ _ _=>rfl):Mq K C x q st ps:=⟨_,_,w9 l c k,(w9 l c k).binds hb,e,n,k⟩
def fAtD{K:Frag}{h:Heap}{mg:Str->Option Value}{x:Str}{st:Stmt}{ps:List Str}{a T:Addr}{od an:Option Addr}{sl:Array (Option Value)}{oc kV dc pm cd ct:Value}{ds its:List Value}{n:Nat}{od':Option Addr}{sl':Array (Option Value)}{oc':Value}(X:K.In h)(G:h.Ns mainGlobals mg)(e:nsIn K mainGlobals x=some (some (.ref a)):=by k_is)(l:K.lookup a=some ⟨oc,od,.func (fnOf x x (fD st) (eQ st) (aJ st) (.ref T) kV dc pm an cd ct),sl⟩:=by k_is)(c:codeIn K cd x=true:=by k_is)(k:keepIn K (.ref a)=true:=by k_is)(lT:K.lookup T=some ⟨oc',od',.seq its.toArray n,sl'⟩:=by k_is)(hb:∀(kV doc pm:Value) (an:Option Addr) (cdv ct:Value) (us:List Value),us.length+ds.length=ps.length->∃k,bindArgs (fnOf x x (fD st) (eQ st) (aJ st) (.ref T) kV doc pm an cdv ct) ⟨us,[]⟩=seqItems? (.ref T)>>=k/\k (some its.toArray)=pure (ps.zip (us++ds))):Dq K mg x st ps ds:=⟨_,_,_,Ce l c k,(Ce l c k).binds lT rfl hb,mg_of X G e⟩
end
def all_mk{l:PySem.W.OpenLaw}{w:World}{K:Frag}{h:Heap}{mg:Str->Option Value}{fa:Addr}(X:K.In h)(G:h.Ns mainGlobals mg)(hfa:mg "law"=some (.ref fa)){C:Addr}(cC:nsIn K mainGlobals "Lore"=some (some (.ref C)))(lc:xu K C)(mkC:makesIn K C=true)(kcC:keepIn K (.ref C)=true){D:Addr}(cD:nsIn K mainGlobals "Still"=some (some (.ref D)))(sc:vn K D)(mkD:makesIn K D=true)(kcD:keepIn K (.ref D)=true)(A1:Fq K mg "inner_kinds" zY ie)(A2:Fq K mg "note_names" yf pO)(A3:Fq K mg "named" vX ["saying"])(A4:Fq K mg "is_small" zT qql45)(A5:Fq K mg "all_small" JD me)(A6:Fq K mg "is_thing" zR me)(A7:Fq K mg "show_kind" Bx ie)(A8:Fq K mg "note" NF se)(A9:Mq K C "__init__" "Lore.__init__" zW nE)(A10:Mq K C "number_of" "Lore.number_of" jQ fJ)(A11:Mq K C "shape_of" "Lore.shape_of" lD fJ)(A12:Mq K C "know" "Lore.know" v7 nG)(A13:Mq K C "learn" "Lore.learn" vZ BH)(A14:Fq K mg "lore_of" vY BJ)(A15:Fq K mg "stands_for_thing" vS ["x"])(A16:Fq K mg "things_named" rR ["pairs"])(A17:Fq K mg "bits_of" wb ["mask"])(A18:Fq K mg "in_order" rW ym)(A19:Mq K D "__init__" "Still.__init__" zU yl)(A20:Mq K D "keep_is" "Still.keep_is" rV BE)(A21:Mq K D "keep_has" "Still.keep_has" oG BD)(A22:Mq K D "tell_is" "Still.tell_is" rT nF)(A23:Mq K D "tell_has" "Still.tell_has" oF si)(A24:Mq K D "let_stand" "Still.let_stand" mG fJ)(A25:Mq K D "take_over" "Still.take_over" mF BF)(A26:Mq K D "begin" "Still.begin" vV BG)(A27:Mq K D "go_on" "Still.go_on" zV nE)(A28:Mq K D "from_kind" "Still.from_kind" mH pN)(A29:Mq K D "from_pairs" "Still.from_pairs" kH pN)(A30:Mq K D "from_end" "Still.from_end" oJ BI)(A31:Mq K D "from_tie" "Still.from_tie" oH pM)(A32:Mq K D "from_chains" "Still.from_chains" jP pM)(A33:Dq K mg "still" vR uO [.none])(A90:Dq K mg "still" vR uO [])(A34:Fq K mg "_law_cell" Ei yo)(A35:Fq K mg "_law_draw" Eh yk)(A36:Fq K mg "_law_start" zS CJ)(A37:Fq K mg "_law_words" zP wm)(A38:Fq K mg "_law_things" vQ wm)(A39:Fq K mg "_law_kind" By wo)(A40:Fq K mg "_law_saying" vU Hc)(A41:Fq K mg "_law_numbered" oK Hb)(A42:Fq K mg "_law_single" vT je)(A43:Fq K mg "_law_singles" rS BM)(A44:Fq K mg "_law_whole" zQ nI)(A45:Fq K mg "_law_kindly" qB je)(A46:Fq K mg "_law_is_claim" zZ yq)(A47:Fq K mg "_law_are_steps" JC nI)(A48:Fq K mg "_law_inside" qC nH)(A49:Fq K mg "_law_known" zX BO)(A50:Fq K mg "_law_is_told" v_ pP)(A51:Fq K mg "_law_has_told" rX sj)(A52:Fq K mg "_law_by_kinds" rY BL)(A53:Fq K mg "_law_by_itself" oM G_)(A54:Fq K mg "_law_by_tie" Aa Ha)(A55:Fq K mg "_law_told" Ef BQ)(A56:Fq K mg "_law_closed" wa BP)(A57:Fq K mg "_law_chain" z_ Hd)(A58:Fq K mg "_law_of_ties" vW BN)(A59:Fq K mg "law" JB yn){it1:Tok}(ia1:nsIn K mainGlobals "MOST_SIGNS"=some (some (.int 12 it1))){ta1:Addr}{tod1:Option Addr}{tn1:Nat}{tsl1:Array (Option Value)}{tt1_0 tt1_1:Tok}(sa1:nsIn K mainGlobals "WHOLES"=some (some (.ref ta1)))(sb1:K.lookup ta1=some ⟨.type "tuple",tod1,.seq #[.str "anything" tt1_0,.str "nothing" tt1_1] tn1,tsl1⟩){da1:Addr}{ddn1:Nat}{dt1_0 dt1_1 dt1_2 dt1_3 dt1_4 dt1_5:Tok}{de1_0 de1_1 de1_2 de1_3 de1_4 de1_5:Addr}(dA1:nsIn K mainGlobals "FORMS"=some (some (.ref da1)))(dB1:K.lookup da1=some ⟨.type "dict",none,.dict #[⟨PyData.keyHash w.params "every",.str "every" dt1_0,.ref de1_0⟩,⟨PyData.keyHash w.params "no",.str "no" dt1_1,.ref de1_1⟩,⟨PyData.keyHash w.params "thing",.str "thing" dt1_2,.ref de1_2⟩,⟨PyData.keyHash w.params "tied",.str "tied" dt1_3,.ref de1_3⟩,⟨PyData.keyHash w.params "within",.str "within" dt1_4,.ref de1_4⟩,⟨PyData.keyHash w.params "makes",.str "makes" dt1_5,.ref de1_5⟩] ddn1,#[]⟩){ddod1_0:Option Addr}{dm1_0:Nat}{ddsl1_0:Array (Option Value)}{du1_0_0 du1_0_1:Tok}(dC1_0:K.lookup de1_0=some ⟨.type "tuple",ddod1_0,.seq #[.str "kind" du1_0_0,.str "kind" du1_0_1] dm1_0,ddsl1_0⟩){ddod1_1:Option Addr}{dm1_1:Nat}{ddsl1_1:Array (Option Value)}{du1_1_0 du1_1_1:Tok}(dC1_1:K.lookup de1_1=some ⟨.type "tuple",ddod1_1,.seq #[.str "kind" du1_1_0,.str "kind" du1_1_1] dm1_1,ddsl1_1⟩){ddod1_2:Option Addr}{dm1_2:Nat}{ddsl1_2:Array (Option Value)}{du1_2_0 du1_2_1:Tok}(dC1_2:K.lookup de1_2=some ⟨.type "tuple",ddod1_2,.seq #[.str "thing" du1_2_0,.str "kind" du1_2_1] dm1_2,ddsl1_2⟩){ddod1_3:Option Addr}{dm1_3:Nat}{ddsl1_3:Array (Option Value)}{du1_3_0 du1_3_1 du1_3_2:Tok}(dC1_3:K.lookup de1_3=some ⟨.type "tuple",ddod1_3,.seq #[.str "thing" du1_3_0,.str "tie" du1_3_1,.str "thing" du1_3_2] dm1_3,ddsl1_3⟩){ddod1_4:Option Addr}{dm1_4:Nat}{ddsl1_4:Array (Option Value)}{du1_4_0 du1_4_1:Tok}(dC1_4:K.lookup de1_4=some ⟨.type "tuple",ddod1_4,.seq #[.str "tie" du1_4_0,.str "tie" du1_4_1] dm1_4,ddsl1_4⟩){ddod1_5:Option Addr}{dm1_5:Nat}{ddsl1_5:Array (Option Value)}{du1_5_0 du1_5_1 du1_5_2:Tok}(dC1_5:K.lookup de1_5=some ⟨.type "tuple",ddod1_5,.seq #[.str "tie" du1_5_0,.str "tie" du1_5_1,.str "tie" du1_5_2] dm1_5,ddsl1_5⟩)(z1:nsIn K mainGlobals "all"=some none)(z2:nsIn K mainGlobals "bool"=some none)(z3:nsIn K mainGlobals "int"=some none)(z4:nsIn K mainGlobals "isinstance"=some none)(z5:nsIn K mainGlobals "len"=some none)(z6:nsIn K mainGlobals "list"=some none)(z7:nsIn K mainGlobals "range"=some none)(z8:nsIn K mainGlobals "repr"=some none)(z9:nsIn K mainGlobals "str"=some none)(z10:nsIn K mainGlobals "tuple"=some none)(z11:nsIn K mainGlobals "zip"=some none):∃fd:FuncData,(∀s v,BindsTo s fd ⟨[v],[]⟩ [("_law_script",v)])/\∀base:Heap,K.In base->base.Ns mainGlobals mg->bW l.prog w K mg base eW 66 fa fd yn (Bn K):=by
 obtain⟨f0,d0,F0,_,m0⟩:=A59.ex;cases hfa.symm.trans m0;obtain⟨_,_,_,_,_,_,_,_,_,hd,_⟩:=id F0.ex;have mCC:=mg_of X G cC;have mCD:=mg_of X G cD;have mi1:=mg_of X G ia1;have ms1:=mg_of X G sa1;have md1:=mg_of X G dA1;have n1:=mg_none_of X G z1;have n2:=mg_none_of X G z2;have n3:=mg_none_of X G z3;have n4:=mg_none_of X G z4;have n5:=mg_none_of X G z5;have n6:=mg_none_of X G z6;have n7:=mg_none_of X G z7;have n8:=mg_none_of X G z8;have n9:=mg_none_of X G z9;have n10:=mg_none_of X G z10;have n11:=mg_none_of X G z11;refine⟨d0,fun s v=>by rw[hd];exact .of_eq rfl,fun base _ _=> ?_⟩;have hW:∀H,SqT K H ta1 [.str "anything",.str "nothing"]:=fun H=>mq sb1 (by show 2<=sizeLine;exact bC (by decide)) (.cons ⟨_,rfl⟩ (.cons ⟨_,rfl⟩ .nil));have kd:vp K l.prog w da1 [(Sum.inr "every",.ref de1_0),(Sum.inr "no",.ref de1_1),(Sum.inr "thing",.ref de1_2),(Sum.inr "tied",.ref de1_3),(Sum.inr "within",.ref de1_4),(Sum.inr "makes",.ref de1_5)]:=Fy [("every",dt1_0,.ref de1_0),("no",dt1_1,.ref de1_1),("thing",dt1_2,.ref de1_2),("tied",dt1_3,.ref de1_3),("within",dt1_4,.ref de1_4),("makes",dt1_5,.ref de1_5)] dB1 (.cons ⟨rfl,rfl⟩ (.cons ⟨rfl,rfl⟩ (.cons ⟨rfl,rfl⟩ (.cons ⟨rfl,rfl⟩ (.cons ⟨rfl,rfl⟩ (.cons ⟨rfl,rfl⟩ .nil)))))) (by show(["every","no","thing","tied","within","makes"]:List Str).Nodup;decide+kernel);have hF:∀(fo:Str) (ss:List Str),(fo,ss)∈jZ->∃kvs a,vp K l.prog w da1 kvs/\cS kvs (.inr fo)=some (.ref a)/\∀H,SqT K H a (ss.map V.str):=by
  intro fo ss hf;simp only[jZ,aE,ej,cF,Prod.mk.injEq] at hf;rcases hf with⟨rfl,rfl⟩ | ⟨rfl,rfl⟩ | ⟨rfl,rfl⟩ | ⟨rfl,rfl⟩ | ⟨rfl,rfl⟩ | ⟨rfl,rfl⟩
  · exact⟨_,de1_0,kd,rfl,fun H=>mq dC1_0 (by show 2<=sizeLine;exact bC (by decide)) (.cons ⟨_,rfl⟩ (.cons ⟨_,rfl⟩ .nil))⟩
  · exact⟨_,de1_1,kd,rfl,fun H=>mq dC1_1 (by show 2<=sizeLine;exact bC (by decide)) (.cons ⟨_,rfl⟩ (.cons ⟨_,rfl⟩ .nil))⟩
  · exact⟨_,de1_2,kd,rfl,fun H=>mq dC1_2 (by show 2<=sizeLine;exact bC (by decide)) (.cons ⟨_,rfl⟩ (.cons ⟨_,rfl⟩ .nil))⟩
  · exact⟨_,de1_3,kd,rfl,fun H=>mq dC1_3 (by show 3<=sizeLine;exact bC (by decide)) (.cons ⟨_,rfl⟩ (.cons ⟨_,rfl⟩ (.cons ⟨_,rfl⟩ .nil)))⟩
  · exact⟨_,de1_4,kd,rfl,fun H=>mq dC1_4 (by show 2<=sizeLine;exact bC (by decide)) (.cons ⟨_,rfl⟩ (.cons ⟨_,rfl⟩ .nil))⟩
  · exact⟨_,de1_5,kd,rfl,fun H=>mq dC1_5 (by show 3<=sizeLine;exact bC (by decide)) (.cons ⟨_,rfl⟩ (.cons ⟨_,rfl⟩ (.cons ⟨_,rfl⟩ .nil)))⟩
 have G1:=A1.cl (P:=l.prog) (w:=w) (base:=base) fun F=>EN F n4 n9;have G2:=yK (P:=l.prog) (w:=w) (base:=base) A2 G1 ms1 hW n4 n9 60;have G3:=A3.cl fun F=>EJ F G2 md1 hF n11 n6;have G4:=A4.cl (P:=l.prog) (w:=w) (base:=base) fun F=>EG F;have G5:=A5.cl fun F=>J5 F G4 n1;have G6:=A6.cl fun F=>EE F G5 n5 mi1;have G7:=ye (P:=l.prog) (w:=w) (base:=base) A7 n4 n9;have G8:=A8.cl (P:=l.prog) (w:=w) (base:=base) fun F=>L0 F;have G10:=BZ (P:=l.prog) (w:=w) (base:=base) A10 A11 lc n5 n4 n9 G7 25;have G9:=A9.il mkC kcC mCC fun F=>EK (by decide) F lc G10;have G12:=yU (P:=l.prog) (w:=w) (base:=base) A12 lc G8 25;have G13:=A13.ml fun F=>EL F lc n11 md1 hF G12 G10 G8;have G14:=A14.cl fun F=>CY F lc G9 G13 G12 G10;have G15:=A15.cl fun F=>CT F n4 n9 G6;have G16:=A16.cl fun F=>Ai F G3;have G17:=A17.cl (P:=l.prog) (w:=w) (base:=base) fun F=>Hw F;have G18:=A18.cl (P:=l.prog) (w:=w) (base:=base) fun F=>J1 F;have G19:=A19.il (P:=l.prog) (w:=w) (base:=base) mkD kcD mCD fun F=>EH (C:=C) F sc;have G20:=A20.ml (P:=l.prog) (w:=w) (mg:=mg) (base:=base) fun F=>C0 F lc sc n5;have G21:=A21.ml (P:=l.prog) (w:=w) (mg:=mg) (base:=base) fun F=>Al (C:=C) F sc n5;have G22:=A22.ml fun F=>CS F lc sc G20;have G24:=A24.ml fun F=>yG F lc sc G22 G15;have G23:=A23.ml fun F=>Aj F lc sc G21 G24;have G25:=A25.ml (P:=l.prog) (w:=w) (mg:=mg) (base:=base) fun F=>EI F;have G26:=A26.ml fun F=>ET (by decide) F lc sc n6 G22 G23 G10 G24 G16;have G28:=A28.ml fun F=>yH F lc sc G22 G23;have G29:=A29.ml fun F=>wF F lc sc G22 G18;have G30:=A30.ml fun F=>Ao F lc sc G22 G17 n6;have G31:=A31.ml fun F=>An F lc sc G22 G23 G17;have G32:=A32.ml fun F=>tX F lc sc G23 G17;have G27:=A27.ml fun F=>Ht F sc n5 G28 G29 G30 G31 G32;have G33:=A33.dl fun F=>yD (by decide) F sc G19 G25 G26 G27 G14;have G34:=A34.cl (P:=l.prog) (w:=w) (base:=base) fun F=>Hv F n5;have G35:=A35.cl (P:=l.prog) (w:=w) (base:=base) fun F=>Hu F;have G36:=A36.cl (P:=l.prog) (w:=w) (base:=base) fun F=>EF F;have G37:=A37.cl (P:=l.prog) (w:=w) (base:=base) fun F=>ED F n5 n7;have G38:=A38.cl fun F=>CQ F n7 G37;have G39:=yW (P:=l.prog) (w:=w) (base:=base) A39 n5 G35 3;have G40:=A40.cl fun F=>CV F n5 n7 G35 G39;have G41:=A41.cl fun F=>yF F G36 G35 G40;have G42:=A42.cl (P:=l.prog) (w:=w) (base:=base) fun F=>CU F n4 n9;have G43:=A43.cl (P:=l.prog) (w:=w) (base:=base) fun F=>Ak F;have G44:=A44.cl (P:=l.prog) (w:=w) (base:=base) fun F=>CP F n4 n3 n2;have G45:=sQ (P:=l.prog) (w:=w) (base:=base) A45 n4 n9 n10 n5 26;have G46:=A46.cl fun F=>EO F n4 n9 n10 n5 G45;have G47:=A47.cl fun F=>J4 F n4 n9 n10 n6 n5 n1 G46 G44;have G48:=sV (P:=l.prog) (w:=w) (base:=base) A48 n8 n4 n10 26;have G49:=A49.cl fun F=>EM F G48;have G50:=A50.cl (P:=l.prog) (w:=w) (base:=base) fun F=>C1 F n8;have G51:=A51.cl (P:=l.prog) (w:=w) (base:=base) fun F=>Am F n8;have G52:=A52.cl fun F=>Ap F n4 n10 G50 G42;have G53:=A53.cl fun F=>yI F n4 n10 G50 G51;have G54:=A54.cl fun F=>ES F n8 G50 G51;have G55:=A55.cl fun F=>Hm F G50 G51;have G56:=A56.cl fun F=>C3 F n8 G43 G52 G53 G54 G55;have G57:=A57.cl fun F=>ER F n5 n7 G35;have G58:=A58.cl (P:=l.prog) (w:=w) (base:=base) fun F=>CW F;have G90:=A90.dl fun F=>yD (by decide) F sc G19 G25 G26 G27 G14;exact J3 F0 n5 n7 n6 G34 G37 G38 G36 G41 G39 G58 G57 G33 G90 G47 G49 G56
def walk{l:PySem.W.OpenLaw}{K:Params->Frag}(hn:l.most=some 63)(hdf:d.params.defaults=[])(hY:∀w h,YP w h->(K w.params).In h)(F:∀w mg fa h,(K w.params).In h->h.Ns mainGlobals mg->mg d.name=some (.ref fa)->∃fd:FuncData,(∀s u,BindsTo s fd ⟨[u],[]⟩ [("_law_script",u)])/\∀base:Heap,(K w.params).In base->base.Ns mainGlobals mg->bW l.prog w (K w.params) mg base eW 66 fa fd yn (Bn (K w.params))):PySem.W.WalkO q loose XP YP l.row.toRowW d [] (fun f vs=>PySem.call f vs):=L2.walk_of (n:=63) (k:=66) (x:="_law_script") (CX:=fun _=>eW) (sp:=fun w=>Bn (K w.params)) hn (by decide) hdf ⟨rfl,by decide,by decide,rfl⟩ hY F (fun _ _ a ns hl _ hS=>⟨a,ns,rfl,hS,hl,fun _=>rfl⟩) fun _ _ _ _ _ z=>z
end K19
namespace PySem.W.Fast
def tw9257429270713492766:Unit:=()
def tw14727077764372734625:Unit:=()
def tw12169791691213363892:Unit:=()
def tw831345521757129696:Unit:=()
def tw2824382389284813645:Unit:=()
def tw13874446086082453017:Unit:=()
def tw8567969196228692832:Unit:=()
def tw4107361149263881055:Unit:=()
def tw7515982611033035634:Unit:=()
def tw12453027571617857250:Unit:=()
def tw17767636591428996497:Unit:=()
def tw4399977831836325684:Unit:=()
def tw15867839822492072936:Unit:=()
def tw10322847651803645693:Unit:=()
def tw8879702986621618089:Unit:=()
def tw3752953029947451882:Unit:=()
def tw1801630644119423853:Unit:=()
def tw7412956745981013598:Unit:=()
def tw9480033019621958676:Unit:=()
def tw9917363642007852281:Unit:=()
def tw7164729105747245284:Unit:=()
def tw5108717004012552417:Unit:=()
def tw10929090761456941879:Unit:=()
def tw14966689419288708900:Unit:=()
def tw10036421553837717957:Unit:=()
def tw4035892479986234084:Unit:=()
def tw10149417911671495347:Unit:=()
def tw882966161408951264:Unit:=()
def tw9445448142598044000:Unit:=()
def tw11346024237110533508:Unit:=()
def tw7006779960664442640:Unit:=()
def tw2220918358659518168:Unit:=()
def tw10038052368749118761:Unit:=()
def tw4532457864091815665:Unit:=()
def tw17248502470670635483:Unit:=()
def tw2917042988355230105:Unit:=()
def tw8876961722870296555:Unit:=()
def tw13913200561239013177:Unit:=()
def tw7837678035876470648:Unit:=()
def tw13456084927509084161:Unit:=()
def tw9932191033340751286:Unit:=()
def tw4113122028154777970:Unit:=()
def tw13944509778019782346:Unit:=()
def tw6677563252020352918:Unit:=()
def tw6368767563491565842:Unit:=()
def tw9226321284513586022:Unit:=()
def tw2599204398103680225:Unit:=()
def tw5507098458684847778:Unit:=()
def tw2256899300285457952:Unit:=()
def tw15215131014843287902:Unit:=()
def tw16530808996713698550:Unit:=()
def tw10203906454157388026:Unit:=()
def tw17176399771150844592:Unit:=()
def tw11098856862493931070:Unit:=()
def tw12636717951704366925:Unit:=()
def tw5231460320261443624:Unit:=()
def tw8494997634333214628:Unit:=()
def tw14984387752730944365:Unit:=()
def tw1288838737292593108:Unit:=()
def tw256201431024616629:Unit:=()
def tw877720590651584959:Unit:=()
def tw6649557009427177576:Unit:=()
def tw14289552009484665085:Unit:=()
def tw18120154709761021140:Unit:=()
def tw18032869705758587716:Unit:=()
def tw12824268591833523574:Unit:=()
def tw9424178428287744786:Unit:=()
def tw10298997493604731646:Unit:=()
def tw10582134503090817450:Unit:=()
def tw13045844642358203835:Unit:=()
def tw6250975603551669390:Unit:=()
def tw18180948812215777653:Unit:=()
def tw3815628164403870668:Unit:=()
def tw17745913908028637635:Unit:=()
def tw13880759330488574767:Unit:=()
def tw11498620985609405085:Unit:=()
def tw17287275141970604585:Unit:=()
def tw590782462825370636:Unit:=()
def tw2962444198323033973:Unit:=()
def tw1540161144224185816:Unit:=()
def tw17620687439249937311:Unit:=()
def tw5070786361875887385:Unit:=()
def tw10963756977209221041:Unit:=()
def tw3300327997908547793:Unit:=()
def tw2826082165873101685:Unit:=()
def tw538589859202541215:Unit:=()
def tw6522423350251359772:Unit:=()
def tw11497335864754866205:Unit:=()
def tw15264869894138680873:Unit:=()
def tw4937671255195904867:Unit:=()
def tw3889195653207203631:Unit:=()
def tw12377997808480241298:Unit:=()
def tw13572210045358974602:Unit:=()
def tw11514643978137482032:Unit:=()
def tw6992781174234242489:Unit:=()
def tw14252430735794765341:Unit:=()
def tw8593348289037959940:Unit:=()
def tw17267096346728278126:Unit:=()
def tw12600921050692537552:Unit:=()
def tw11192674683064096307:Unit:=()
def tw3142313831912736182:Unit:=()
def tw5407118319746775889:Unit:=()
def tw2290680925337597835:Unit:=()
def tw8978854409132763930:Unit:=()
def tw399243711114500704:Unit:=()
def tw16861665478418835352:Unit:=()
end PySem.W.Fast
open PySem PySem.W PyProof.Rows
set_option maxRecDepth 100000 in
set_option maxHeartbeats 0 in
theorem PySem.Challenge.cw_kinwords_k19_standstills_are_closed_holds : PySem.Challenge.rw_kinwords_k19_standstills_are_closed.Holds := by
 w_on;o_law;k_head;(case hw=>w_witness2)
 k_fill
 refine K19.walk (l:=PySem.Challenge.rw_kinwords_k19_standstills_are_closed) rfl rfl (fun w h Y=>PySem.W.kIn_of Y) ?F
 case F=>
  intro w mg fa h KX G hmg;refine' K19.all_mk KX G hmg ?p1 ?p2 ?p3 ?p4 ?p5 ?p6 ?p7 ?p8 ?p9 ?p10 ?p11 ?p12 ?p13 ?p14 ?p15 ?p16 ?p17 ?p18 ?p19 ?p20 ?p21 ?p22 ?p23 ?p24 ?p25 ?p26 ?p27 ?p28 ?p29 ?p30 ?p31 ?p32 ?p33 ?p34 ?p35 ?p36 ?p37 ?p38 ?p39 ?p40 ?p41 ?p42 ?p43 ?p44 ?p45 ?p46 ?p47 ?p48 ?p49 ?p50 ?p51 ?p52 ?p53 ?p54 ?p55 ?p56 ?p57 ?p58 ?p59 ?p60 ?p61 ?p62 ?p63 ?p64 ?p65 ?p66 ?p67 ?p68 ?p69 ?p70 ?p71 ?p72 ?p73 ?p74 ?p75 ?p76 ?p77 ?p78 ?p79 ?p80 ?p81 ?p82 ?p83 ?p84 ?p85 ?p86 ?p87 ?p88 ?p89 ?p90
  case p1 | p3 | p4 | p5 | p7 | p8 | p69 | p70 | p71 | p72 | p73 | p74 | p75 | p76 | p77 | p78 | p79 | p80 | p81 | p82 | p83 | p84 | p85 | p86 | p87 | p88 | p89 | p90=>k_is
  case p6=>refine⟨⟨?_,?_,?_,?_⟩,?_,?_,?_,?_,?_,?_,?_,?_,?_,?_,?_⟩<;>first | k_is | (unfold L2.NoAttr;k_is)
  case p2=>refine⟨⟨?_,?_,?_,?_⟩,?_,?_,?_,?_,?_,?_,?_,?_,?_,?_,?_,?_,?_,?_,?_⟩<;>first | k_is | (unfold L2.NoAttr;k_is)
  case p9 | p10 | p11 | p12 | p13 | p14 | p15 | p16 | p22 | p23 | p24 | p25 | p26 | p43 | p44 | p45 | p46 | p47 | p48 | p49 | p50 | p51 | p52 | p53 | p54 | p55 | p56 | p57 | p58 | p59 | p60 | p61 | p62 | p63 | p64 | p65 | p66 | p67 | p68=>exact K19.fAt KX G
  case p17 | p18 | p19 | p20 | p21 | p27 | p28 | p29 | p30 | p31 | p32 | p33 | p34 | p35 | p36 | p37 | p38 | p39 | p40=>exact K19.fAtM
  case p41=>exact K19.fAtD (its:=[.none]) KX G (hb:=fun _ _ _ _ _ _ us hl=>match us,hl with | [_,_,_],_=>⟨_,rfl,rfl⟩)
  case p42=>exact K19.fAtD (its:=[.none]) KX G (hb:=fun _ _ _ _ _ _ us hl=>match us,hl with | [_,_,_,_],_=>⟨_,rfl,rfl⟩)
