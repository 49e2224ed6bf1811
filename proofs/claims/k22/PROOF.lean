import PyProof.Rows.All
import Wide.All
import OpenK.AllK
import Wide.FinOn
import Lean
import PyProof.EqAt
import PyProof.EqKinds
import PyProof.TupleCall
import PyProof.NeKinds
import PyProof.Rows.FStr
import PyProof.Rows.Range3
import PyProof.StrLawsIn
import PyProof.WalksEnum
import PyProof.EnumMake
import PyProof.Rows.EnumRows
import PyProof.Rows.StrNews2
import PyProof.StrLawsFirst
import PyProof.StrLawsChain
import PyProof.StrLawsTight
import PyProof.StrBlockH
import KE.KEqDict
import PyProof.DictWalks
import PyProof.ListRange
import PyProof.ZipIter
import PyProof.Rows.SortRev
import PyProof.FactsAll.subtypes_5
import KE.KDictSum
import PyProof.Rows.SetFrom
import PyProof.AttrMiss
import PyProof.IsiH_list
import KE.KDictOf
import PyProof.FactsAll.NoneType_1
import PyProof.StrCalls
import PyProof.ReprRoads
import PyProof.CallFns
import PyProof.StrLawsRepr
import PyProof.ReprText
import PySem.Challenge.RW_kinwords_k22_whole_standstills_hold
def Aa:=@Bool.eq_false_iff
def BC:=@PySem.wpAny_execs_cons
def CB:=@List.mem_flatten
def CC:=@List.mem_flatMap
def CF:=@List.eq_nil_of_length_eq_zero
def CH:=@PySem.wpAny_ite_false
def Cq:=@decide_eq_decide
def Fe:=@PySem.F.slot_dict_setdefault
def Ff:=@PySem.PassesOwn.never
def Fh:=@Nat.testBit_xor
def Fj:=@Nat.min_le_left
def Fk:=@Nat.and_le_left
def Fm:=@List.of_mem_zip
def Fn:=@PySem.F.args_tuple_iterator_next_1
def Fx:=@PySem.F.entry_tuple_iterator_next
def GL:=@if_false
def Hb:=@PySem.boot_len
def Hd:=@Nat.mul_le_mul
def He:=@List.append_cancel_left_eq
def Hh:=@PySem.Calls.Name_function_global
def Ig:=@PySem.F.slot_dict_getitem
def Ij:=@PySem.wpAny_onRaise
def KG:=@PySem.seqIndex_neg
def Kk:=@decide_eq_false_iff_not
def Kl:=@PySem.F.plainAttrs_dict
def Km:=@PySem.F.args_dict_get_3
def Kz:=@PyProof.Rows.subscriptTail_builtinR
def L8:=@List.length_singleton
def L9:=@List.filterMap_append
def LB:=@PySem.F.entry_dict_get
def LD:=@Nat.sub_zero
def LF:=@Nat.le_total
def LG:=@Nat.div_div_eq_div_mul
def LI:=@List.map_nil
def LJ:=@List.getElem?_set_self
def LO:=@PySem.Heap.get?_update_other
def LR:=@PySem.wpAny_isTrue_Compare1
def Lr:=@PySem.call_meetsIn
def Lw:=@PySem.Txt.slice_le
def Lz:=@PySem.W.cellsFrom_some
def MB:=@PySem.seqIndex_of
def Mc:=@PySem.wpAny_updateSeq_pair
def Md:=@PySem.wpAny_newFunctionEnv
def Me:=@PySem.wpAny_loadName_local
def Mh:=@true_and
def Mz:=@PySem.sizeLine_eq
def NM:=@PySem.W.callWith_K0
def NO:=@List.map_congr_left
def NP:=@List.flatten_append
def NQ:=@List.flatMap_append
def NS:=@Int.toNat_of_nonneg
def NU:=@Array.toList_append
def NV:=@PySem.wpAny_pyIter_tuple
def NW:=@PySem.wpAny_Name
def NY:=@PySem.typeIs_str
def Nc:=@Sum.inr.inj
def Nh:=@PySem.Obj.data_mapDictKeys
def Ni:=@Nat.mul_add
def Nk:=@List.replicate_succ'
def Nl:=@List.pairwise_append
def Nm:=@List.length_take_le'
def Np:=@List.getElem?_set_ne
def Nq:=@List.getElem?_range'
def Nu:=@PySem.wpAny_loadName_cell
def OB:=@PyProof.Rows.assignInOrder_nil
def OC:=@PySem.W.kitx_list
def OD:=@PySem.W.kitx_dict
def OE:=@List.take_sublist
def OF:=@List.idxOf_append
def OG:=@List.ext_getElem?
def OH:=@PySem.F.args_zip_next_1
def Oh:=@PySem.findBy_of_findIdx?
def Oj:=@PyProof.Rows.boot_range
def Ol:=@PyProof.Rows.Subscript_
def Om:=@PySem.SeqAt.EqAt.str_int
def On:=@PySem.SeqAt.EqAt.int_str
def Oo:=@PySem.Obj.data_mapFields
def Oq:=@Nat.mod_lt
def Os:=@List.zip_nil_right
def Ot:=@List.getElem_idxOf
def Ou:=@List.filterMap_map
def Ov:=@Bool.false_eq_true
def Ow:=@PySem.wpAny_assign_Name
def Ox:=@PySem.wpAny_Call_method
def Oy:=@PySem.slot_list_getitem
def aA:=@if_neg
def aC:=@PySem.Heap.get?_push_of_some
def aE:=@if_pos
def aG:=@List.mem_cons_of_mem
def aH:=@List.getElem?_map
def aI:=@List.mem_cons
def aK:=@PySem.wpAny_pure
def aL:=@List.mem_cons_self
def aN:=@PySem.Heap.lt_size
def aO:=@Bool.false_ne_true
def aP:=@Bool.and_eq_true
def aQ:=@Option.map_eq_some_iff
def aR:=@List.mem_append_right
def aS:=@List.mem_append_left
def aU:=@List.getElem?_eq_some_iff
def aV:=@List.size_toArray
def aX:=@decide_eq_true_eq
def aY:=@List.take_length
def aZ:=@List.map_append
def a_:=@PySem.Heap.get?_push_size
def aa:=@PySem.wpAny_bind
def ae:=@List.length_map
def af:=@List.mem_singleton
def ag:=@decide_eq_false
def ah:=@decide_eq_true
def ai:=@Nat.le_trans
def ak:=@List.length_append
def ao:=@List.not_mem_nil
def aq:=@List.getElem?_eq_getElem
def ar:=@Nat.le_refl
def au:=@List.mem_of_getElem?
def av:=@Nat.zero_le
def ax:=@Nat.lt_of_lt_of_le
def ay:=@List.mem_append
def bA:=@of_decide_eq_true
def bD:=@Nat.le_succ
def bI:=@Nat.ne_of_lt
def bK:=@List.mem_map
def bM:=@List.map_cons
def bN:=@PySem.Str.length_append
def bO:=@Nat.lt_of_le_of_lt
def bQ:=@List.getElem?_append_left
def bU:=@PyProof.Rows.boot_list
def bV:=@List.cons.injEq
def bW:=@or_false
def bX:=@Int.emod_lt_of_pos
def bj:=@List.length_cons
def br:=@Ne.symm
def bu:=@PySem.Paired.length
def bx:=@List.take_add_one
def cJ:=@PySem.wpAny_mono
def cO:=@List.lookup_cons
def cP:=@List.all_eq_true
def cR:=@PyProof.Rows.locs
def cU:=@PySem.mem_of_lookup
def cW:=@PySem.wpAny_truthy_bool
def cm:=@PyProof.Rows.boot_str
def cq:=@beq_eq_false_iff_ne
def cu:=@Int.emod_nonneg
def cv:=@List.mem_range
def cw:=@List.length_take
def cy:=@List.getElem?_append_right
def cz:=@Int.toNat_natCast
def d5:=@Nat.testBit_two_pow_mul
def d6:=@List.length_range
def dA:=@PyProof.Rows.callWith_type1
def dC:=@PySem.wpAny_newObj_type
def dD:=@Nat.lt_succ_of_lt
def dE:=@List.take_of_length_le
def dH:=@List.mem_map_of_mem
def dJ:=@Option.some.inj
def dM:=@List.length_nil
def dN:=@List.foldl_cons
def dQ:=@List.length_replicate
def dU:=@List.mem_nil_iff
def dW:=@PySem.wpAny_holding
def dZ:=@PySem.Heap.size_push
def de:=@List.nodup_cons
def dj:=@PySem.wpAny_field
def dv:=@Nat.le_add_right
def eB:=@Nat.lt_or_ge
def eF:=@Nat.le_of_lt
def eK:=@List.getElem_mem
def eM:=@List.cons_append
def eO:=@List.getD_eq_getElem?_getD
def eP:=@PySem.Calls.spliced_cons
def eZ:=@List.mem_iff_getElem
def e_:=@List.foldl_append
def fG:=@PySem.wpAny_callSpecial?_slot
def fQ:=@List.mem_filterMap
def fU:=@PySem.wpAny_passesOwn
def fZ:=@Option.map_some
def f_:=@Nat.testBit_and
def fk:=@PySem.wpAny_standAt
def fm:=@List.all_cons
def g9:=@List.forIn_cons
def gD:=@Nat.succ_le_succ
def gE:=@List.any_eq_true
def gO:=@List.filterMap_cons
def gQ:=@Array.length_toList
def gZ:=@List.nil_append
def g_:=@List.find?_cons
def gb:=@List.mem_filter
def gc:=@Bool.eq_iff_iff
def gg:=@Nat.lt_irrefl
def gh:=@List.any_cons
def gw:=@PySem.wpAny_seqItems
def gy:=@Nat.eq_of_testBit_eq
def gz:=@PySem.F.slot_tuple_iterator_next
def hG:=@PySem.wpAny_setField_rec
def hJ:=@PySem.wpAny_Call_Name_kw
def hV:=@PySem.tupleKind_room_in1
def iE:=@Nat.ne_of_gt
def iF:=@List.map_map
def iG:=@PySem.Calls.spliced_nil
def iH:=@PySem.Calls.callWith_builtin
def iR:=@PyProof.Rows.slot_tuple_getitem
def iU:=@PyProof.Rows.boot_all
def iV:=@List.length_filter_le
def iW:=@List.getElem?_eq_none
def iX:=@PySem.wpAny_rule
def iY:=@PySem.wpAny_call_entry
def ie:=@List.filter_append
def ij:=@PyProof.Rows.boot_tuple
def ip:=@Nat.exists_eq_add_of_le
def jG:=@Nat.pow_pos
def jH:=@List.mem_of_mem_take
def jL:=@PyProof.Rows.boot_isinstance
def jM:=@List.sum_append
def jN:=@List.append_nil
def jm:=@Nat.lt_succ_self
def jo:=@List.length_drop
def kG:=@Nat.pow_succ
def kH:=@List.idxOf_lt_length_of_mem
def kr:=@if_true
def lC:=@Nat.mod_two_eq_zero_or_one
def lD:=@List.take_zero
def lH:=@Bool.and_false
def lj:=@beq_iff_eq
def lz:=@PySem.Str.cps_append
def mF:=@List.findIdx?_eq_none_iff
def mG:=@PySem.wpAny_of_eq
def mJ:=@Option.some.injEq
def mK:=@List.nodup_append
def mL:=@List.append_assoc
def mO:=@PySem.wpAny_comprehension_free
def nW:=@Option.isSome_iff_exists
def nX:=@Nat.mul_assoc
def nY:=@List.sum_cons
def oV:=@List.getElem?_replicate
def pS:=@Nat.testBit_lt_two_pow
def pU:=@Nat.not_lt
def pY:=@PySem.wpAny_execs_nil
def qA:=@Bool.or_eq_true
def qy:=@List.range_succ
def qz:=@PySem.F.slot_zip_next
def r_:=@PySem.W.methodCall_KW
def sJ:=@PySem.wpAny_newTuple
def sV:=@Nat.testBit_or
def sX:=@Nat.pow_le_pow_right
def sY:=@List.drop_zero
def sZ:=@PySem.Calls.evalArgs_plain
def s_:=@Bool.false_and
def se:=@PySem.F.slot_dict_get
def sj:=@List.take_append_drop
def su:=@PySem.Heap.get?_update_self
def v3:=@PySem.W.plainGet_of
def v_:=@Nat.testBit_two_pow
def wb:=@PySem.Heap.SameBut.update
def wm:=@Nat.add_assoc
def wo:=@Bool.or_false
def xD:=@not_or
def yi:=@PyProof.Rows.assignInOrder_cons
def yo:=@PySem.W.callWith_K
def yp:=@Nat.eq_zero_or_pos
def yq:=@List.zip_cons_cons
def yt:=@PySem.wpAny_pyIter_list
def zS:=@PySem.codeAny_mono
def zX:=@Option.isSome_map
def zY:=@List.all_map
def z_:=@Bool.not_eq_true'
open PySem.W (instObj Frag lookIn plainGet findIn isFn makesIn emptyDict keepIn kitOne kia_one fnOf codeIn nsIn mg_of mg_none_of)
set_option compiler.extract_closed false
set_option bootstrap.genMatcherCode false
set_option genSizeOf false
set_option Elab.async false
set_option linter.all false
set_option maxRecDepth 100000
namespace L2
open PySem PySem.Spec PyProof.Rows
abbrev Key:=Sum Int Str
noncomputable def rH:Key->Value->Bool
 | .inl k,v=>Value.isInt k v
 | .inr x,v=>Value.isStrOf x v
noncomputable def M5(w:World):Key->Int
 | .inl k=>hashInt k
 | .inr x=>hashStr w x
theorem keyIs_shape:∀{k:Key} {v:Value},rH k v=true->(∃i t,k=Sum.inl i/\v=Value.int i t)\/(∃x t,k=Sum.inr x/\v=Value.str x t)
 | .inl i,v,h=>by
   obtain⟨t,e⟩:=Value.isInt_shape (k:=i) (v:=v) h;exact .inl ⟨i,t,rfl,e⟩
 | .inr x,v,h=>by
   obtain⟨t,e⟩:=Value.isStrOf_shape (x:=x) (v:=v) h;exact .inr ⟨x,t,rfl,e⟩
def Ce(i:Int)(t:Tok):rH (.inl i) (.int i t)=true:=by simp[rH,Value.isInt]
def oO(x:Str)(t:Tok):rH (.inr x) (.str x t)=true:=by simp[rH,Value.isStrOf]
def JF(a b:Int):decide ((Sum.inl a:Key)=Sum.inl b)=(a==b):=by
 by_cases e:a=b
 · subst e;simp
 · have h:¬ (Sum.inl a:Key)=Sum.inl b:=fun q=>e (Sum.inl.inj q);rw[ag h];exact(cq.mpr e).symm
def JC(a b:Str):decide ((Sum.inr a:Key)=Sum.inr b)=decide (a=b):=by
 by_cases e:a=b
 · subst e;simp
 · have h:¬ (Sum.inr a:Key)=Sum.inr b:=fun q=>e (Nc q);rw[ag h,ag e]
def JE(a:Int)(b:Str):decide ((Sum.inl a:Key)=Sum.inr b)=false:=ag (fun q=>nomatch q)
def JD(a:Str)(b:Int):decide ((Sum.inr a:Key)=Sum.inl b)=false:=ag (fun q=>nomatch q)
noncomputable def cQ(prog:Program)(w:World):PySem.KeyKind prog w Key where
 is:=rH
 hash:=M5 w
 inj:=fun v a b ha hb=>by
  rcases keyIs_shape ha with⟨i,t,rfl,rfl⟩ | ⟨x,t,rfl,rfl⟩
  · rcases keyIs_shape hb with⟨j,u,rfl,e⟩ | ⟨y,u,rfl,e⟩
    · injection e with e1 _;rw[e1]
    · exact nomatch e
  · rcases keyIs_shape hb with⟨j,u,rfl,e⟩ | ⟨y,u,rfl,e⟩
    · exact nomatch e
    · injection e with e1 _;rw[e1]
 byValue:=fun k v h=>by
  rcases keyIs_shape h with⟨i,t,rfl,rfl⟩ | ⟨x,t,rfl,rfl⟩<;>rfl
 pyHash:=fun hv h=>by
  rcases keyIs_shape hv with⟨i,t,rfl,rfl⟩ | ⟨x,t,rfl,rfl⟩
  · exact wpAny_pyHash_int h
  · exact wpAny_pyHash_str h
 eqBool:=fun hu hv h=>by
  rcases keyIs_shape hu with⟨i,t,rfl,rfl⟩ | ⟨x,t,rfl,rfl⟩
  · rcases keyIs_shape hv with⟨j,u,rfl,rfl⟩ | ⟨y,u,rfl,rfl⟩
    · rw[JF] at h;exact wpAny_eqBool_int h
    · rw[JE] at h;exact On i t y u _ _ _ _ h
  · rcases keyIs_shape hv with⟨j,u,rfl,rfl⟩ | ⟨y,u,rfl,rfl⟩
    · rw[JD] at h;exact Om x t j u _ _ _ _ h
    · rw[JC] at h;exact wpAny_eqBool_str h
 «strs»:=fun k x t v h=>by
  rcases keyIs_shape h with⟨i,u,rfl,e⟩ | ⟨y,u,rfl,e⟩
  · exact nomatch e
  · injection e with e1 _
    subst e1;cases v<;>rfl
def zB(prog:Program)(w:World)(k:Key)(v:Value):(cQ prog w).is k v=rH k v:=rfl
def xO(prog:Program)(w:World)(i:Int)(t:Tok):(cQ prog w).is (.inl i) (.int i t)=true:=Ce i t
def xN(prog:Program)(w:World)(x:Str)(t:Tok):(cQ prog w).is (.inr x) (.str x t)=true:=oO x t
inductive V where
 | non | bl (b:Bool) | int (i:Int) | str (x:Str) | byt (b:Array UInt8) | flt (b:UInt64) | ref (a:Addr) | ty (n:String)
 deriving DecidableEq
def RelV:V->Value->Prop
 | .non,u=>u=Value.none
 | .bl b,u=>u=Value.bool b
 | .int i,u=>∃t,u=Value.int i t
 | .str x,u=>∃t,u=Value.str x t
 | .byt b,u=>∃t,u=Value.bytes b t
 | .flt b,u=>∃t,u=Value.float b t
 | .ref a,u=>u=Value.ref a
 | .ty n,u=>u=Value.type n
abbrev Vals:List V->List Value->Prop:=Paired RelV
def Vals.length(r:Vals xs us):xs.length=us.length:=bu r
theorem Vals.get:∀{xs:List V} {us:List Value} {i:Nat} {x:V},Vals xs us->xs[i]? =some x->∃u,us[i]? =some u/\RelV x u
 | _,_,_,_,.nil,e=>by simp at e
 | _,_,0,_,.cons r _,e=>by simp at e;subst e;exact⟨_,rfl,r⟩
 | _,_,i+1,x,.cons _ t,e=>by
   obtain⟨u,h1,h2⟩:=Vals.get (i:=i) (x:=x) t (by simpa using e);exact⟨u,by simpa using h1,h2⟩
theorem Vals.set(r:RelV x u):∀{xs:List V} {us:List Value} (i:Nat),Vals xs us->Vals (xs.set i x) (us.set i u)
 | _,_,_,.nil=> .nil
 | _,_,0,.cons _ t=> .cons r t
 | _,_,i+1,.cons q t=> .cons q (Vals.set r i t)
theorem Vals.append:∀{xs ys:List V} {us ws:List Value},Vals xs us->Vals ys ws->Vals (xs++ys) (us++ws)
 | _,_,_,_,.nil,s=>s
 | _,_,_,_,.cons r t,s=> .cons r (Vals.append t s)
theorem Vals.take:∀{xs:List V} {us:List Value} (n:Nat),Vals xs us->Vals (xs.take n) (us.take n)
 | _,_,0,_=> .nil
 | _,_,_+1,.nil=> .nil
 | _,_,n+1,.cons r t=> .cons r (Vals.take n t)
theorem Vals.drop:∀{xs:List V} {us:List Value} (n:Nat),Vals xs us->Vals (xs.drop n) (us.drop n)
 | _,_,0,r=>r
 | _,_,_+1,.nil=> .nil
 | _,_,n+1,.cons _ t=>Vals.drop n t
def RelO:Option V->Option Value->Prop
 | some v,some u=>RelV v u
 | none,none=>True
 | _,_=>False
def KV{κ:Type}:List (κ × V)->List (κ × Value)->Prop:=Paired fun p q=>p.1=q.1/\RelV p.2 q.2
noncomputable def kV:Key->V
 | .inl i=> .int i
 | .inr x=> .str x
inductive HO where
 /-- a list -/
 | lst (xs:List V)
 /-- a tuple (never changes) -/
 | tup (xs:List V)
 /-- a dict whose keys are ints and texts; one whose keys are tuples of ints and texts (the empty one is both) -/
 | dK (kvs:List (Key × V)) | dT (kvs:List (List Key × V))
 /-- a set of ints: its members, its size -/
 | set (S:Int->Bool) (n:Nat)
 /-- an instance of the class at C, its dict at dx, its attributes -/
 | ins (C dx:Addr) (fs:List (Str × V))
 /-- the dict of the instance at x -/
 | own (x:Addr)
 /-- the dict of an exception -/
 | xd (fs:List (Str × V))
 /-- a bound method, f of x -/
 | met (f x:Addr)
 /-- a range object lo, lo + 1, .. below hi -/
 | rng (lo hi:Int)
 /-- a thing that is known to the object (the script; a dict while a loop walks it): read, never written while it is so -/
 | frz (o:Obj) (u:HO)
 /-- a code object's table -/
 | tbl (ps:Array Value)
 /-- any other thing, by what is true of its one object (a def of one's own: SetO a S n := HO.ext fun h => ..) -/
 | ext (φ:Heap->Prop)
abbrev Hp:=Addr->Option HO
noncomputable def upd(H:Hp)(a:Addr)(o:HO):Hp:=fun b=>if b=a then some o else H b
def upd_same:upd H a o a=some o:=by unfold upd;rw[aE rfl]
def aB(h:b≠a):upd H a o b=H b:=by unfold upd;rw[aA h]
def uG:upd (upd H a o) a u=upd H a u:=by
 funext b;unfold upd;split<;>rfl
def HJ{H:Hp}(h:H a=some o)(h':H b=some u)(d:o≠u):a≠b:=by
 intro e;subst e;rw[h] at h';exact d (dJ h')
def bp{H:Hp}(h:H a=some o)(h':H b=none):a≠b:=by
 intro e;subst e;rw[h] at h';cases h'
section
variable (P:Program)(w:World)
def ObjOk(H:Hp)(h:Heap)(a:Addr):HO->Prop
 | .lst xs=>xs.length<=sizeLine/\∃(its:List Value) (n:Nat),Vals xs its/\h.get? a=some {cls:= .type "list",data:= .seq its.toArray n}
 | .tup xs=>xs.length<=sizeLine/\∃its:List Value,Vals xs its/\IsTup h a its.toArray
 | .dK kvs=>kvs.length<=sizeLine/\(a==sysModules)=false/\∃vs,KV kvs vs/\h.DictOf (cQ P w) a vs
 | .dT kvs=>kvs.length<=sizeLine/\(a==sysModules)=false/\∃xs:List (List Key × Addr × Value),Paired (fun(p:List Key × V) (q:List Key × Addr × Value)=>p.1=q.1/\H q.2.1=some (.tup (p.1.map kV))/\RelV p.2 q.2.2) kvs xs/\∃o es ep,h.get? a=some o/\o.ExactDict/\o.data= .dict es ep/\es.toList=xs.map (entryOfKey (tupleKind (cQ P w)))/\(xs.map (·.1)).Nodup
 | .set S n=>h.SetOf (intKind P w) a S n
 | .ins C dx fs=>H dx=some (.own a)/\fs.length<=1000/\dx≠a/\h.get? a=some (instObj C dx)/\∃mA,h.Ns1 dx mA/\(∀f,RelO (fs.lookup f) (mA f))/\PySem.Within mA (fs.map (·.1))
 | .own _=>∃o,h.get? a=some o
 | .xd fs=>∃mA,h.Ns1 a mA/\∀f,RelO (fs.lookup f) (mA f)
 | .rng lo hi=>∃t u v,h.get? a=some {cls:= .type "range",data:= .fields #[.int lo t,.int hi u,.int 1 v]}
 | .frz o u=>h.get? a=some o/\ObjOk H h a u
 | .tbl ps=>h.get? a=some {cls:= .none,data:= .fields ps}
 | .met f x=>h.get? a=some (PySem.W.methodObj (.ref f) (.ref x))
 | .ext φ=>φ h/\(∃o,h.get? a=some o)/\∀h1 h2:Heap,φ h1->(∀o,h1.get? a=some o->h2.get? a=some o)->φ h2
def HOk(H:Hp)(h:Heap):Prop:=∀a o,H a=some o->ObjOk P w H h a o
end
section
def ObjOk.lt(x:ObjOk P w H h a o):a<h.objs.size:=by
 cases o with
 | lst xs=>obtain⟨_,_,_,_,e⟩:=x;exact aN e
 | tup xs=>obtain⟨_,_,_,p⟩:=x;exact p.lt
 | dK kvs=>obtain⟨_,_,_,_,o,_,_,e,_⟩:=x;exact aN e
 | dT kvs=>obtain⟨_,_,_,_,o,_,_,e,_⟩:=x;exact aN e
 | set S n=>obtain⟨o,_,_,_,e,_⟩:=x;exact aN e
 | ins C dx fs=>obtain⟨_,_,_,e,_⟩:=x;exact aN e
 | own y=>obtain⟨_,e⟩:=x;exact aN e
 | xd fs=>obtain⟨_,⟨_,_,_,e,_⟩,_⟩:=x;exact aN e
 | rng lo hi=>obtain⟨_,_,_,e⟩:=x;exact aN e
 | frz ob u=>obtain⟨e,_⟩:=x;exact aN e
 | tbl ps=>exact aN (show h.get? a=some _ from x)
 | met f y=>exact aN (show h.get? a=some _ from x)
 | ext φ=>obtain⟨_,⟨_,e⟩,_⟩:=x;exact aN e
theorem Paired.mapP:∀{l₁:List α} {l₂:List β},Paired F l₁ l₂->(∀a b,F a b->G a b)->Paired G l₁ l₂
 | _,_,.nil,_=> .nil
 | _,_,.cons r t,f=> .cons (f _ _ r) (Paired.mapP t f)
def Paired.imp'{α β:Type}{F G:α->β->Prop}(f:∀a b,F a b->G a b){l₁:List α}{l₂:List β}(r:Paired F l₁ l₂):Paired G l₁ l₂:=Paired.mapP r f
def ObjOk.stay(x:ObjOk P w H h a o)(k:∀b u,(b=a\/H b=some (.own a))->h.get? b=some u->h'.get? b=some u)(ho:∀b,H b=some (.own a)->H' b=some (.own a))(ht:∀b xs,H b=some (.tup xs)->H' b=some (.tup xs)):ObjOk P w H' h' a o:=by
 induction o with
 | lst xs=>obtain⟨z,its,n,r,e⟩:=x;exact⟨z,its,n,r,k _ _ (.inl rfl) e⟩
 | tup xs=>obtain⟨z,its,r,ob,e,c⟩:=x;exact⟨z,its,r,ob,k _ _ (.inl rfl) e,c⟩
 | dK kvs=>obtain⟨z,y,vs,r,ob,es,ep,e,c⟩:=x;exact⟨z,y,vs,r,ob,es,ep,k _ _ (.inl rfl) e,c⟩
 | dT kvs=>
   obtain⟨z,y,xs,r,ob,es,ep,e,c⟩:=x;exact⟨z,y,xs,Paired.mapP r fun p q z=>⟨z.1,ht _ _ z.2.1,z.2.2⟩,ob,es,ep,k _ _ (.inl rfl) e,c⟩
 | set S n=>obtain⟨ob,es,ep,t,e,c⟩:=x;exact⟨ob,es,ep,t,k _ _ (.inl rfl) e,c⟩
 | ins C dx fs=>
   obtain⟨d,z,ne,e,mA,⟨od,es,ep,e2,c⟩,r⟩:=x;exact⟨ho _ d,z,ne,k _ _ (.inl rfl) e,mA,⟨od,es,ep,k _ _ (.inr d) e2,c⟩,r⟩
 | own y=>obtain⟨ob,e⟩:=x;exact⟨ob,k _ _ (.inl rfl) e⟩
 | xd fs=>obtain⟨mA,⟨od,es,ep,e,c⟩,r⟩:=x;exact⟨mA,⟨od,es,ep,k _ _ (.inl rfl) e,c⟩,r⟩
 | rng lo hi=>obtain⟨t,u,v,e⟩:=x;exact⟨t,u,v,k _ _ (.inl rfl) e⟩
 | frz ob u ih=>obtain⟨e,q⟩:=x;exact⟨k _ _ (.inl rfl) e,ih q⟩
 | tbl ps=>
   have e:h.get? a=some {cls:= .none,data:= .fields ps}:=x;show h'.get? a=some {cls:= .none,data:= .fields ps};exact k a _ (.inl rfl) e
 | met f y=>
   have e:h.get? a=some (PySem.W.methodObj (.ref f) (.ref y)):=x;show h'.get? a=some (PySem.W.methodObj (.ref f) (.ref y));exact k a _ (.inl rfl) e
 | ext φ=>obtain⟨p,⟨o,e⟩,st⟩:=x;exact⟨st _ _ p fun o q=>k _ _ (.inl rfl) q,⟨o,k _ _ (.inl rfl) e⟩,st⟩
def HOk.lt(x:HOk P w H h)(e:H a=some o):a<h.objs.size:=(x a o e).lt
def HOk.fresh{a:Addr}(x:HOk P w H h)(e:h.objs.size<=a):H a=none:=by
 cases q:H a with
 | none=>rfl
 | some u=>exact absurd (ax (x.lt q) e) (gg _)
def HOk.kept(x:HOk P w H h)(k:∀b u,h.get? b=some u->h'.get? b=some u):HOk P w H h':=fun a o e=>
 (x a o e).stay (fun b u _ q=>k b u q) (fun _ q=>q) fun _ _ q=>q
def HOk.laid{a:Addr}(x:HOk P w H h)(k:∀b u,h.get? b=some u->h'.get? b=some u)(hp:h.objs.size<=a)(new:ObjOk P w (upd H a o) h' a o):HOk P w (upd H a o) h':=fun b u e=>by
 have hn:=x.fresh hp;by_cases hb:b=a
 · subst hb;rw[upd_same] at e;cases e;exact new
 · rw[aB hb] at e;exact(x b u e).stay (fun c v _ q=>k c v q) (fun c q=>by rw[aB (bp q hn)];exact q) fun c xs q=>by rw[aB (bp q hn)];exact q
end
def Rd(H:Hp)(a:Addr)(u:HO):Prop:=H a=some u\/∃o,H a=some (.frz o u)
def Rd.ok(r:Rd H a u)(x:HOk P w H h):ObjOk P w H h a u:=by
 rcases r with r | ⟨o,r⟩
 · exact x a u r
 · obtain⟨_,q⟩:=x a _ r;exact q
def LH:Option HO->Prop
 | some (.lst _)=>True
 | some (.dK _)=>True
 | some (.dT _)=>True
 | some (.set _ _)=>True
 | some (.ins _ _ _)=>True
 | some (.ext _)=>True
 | _=>False
section
def HOk.write(ok:HOk P w H h)(mu:LH (H x))(he:e=x\/H e=some (.own x))(k:∀b u,b≠e->h.get? b=some u->h'.get? b=some u)(heo:∃u,h'.get? e=some u)(new:ObjOk P w (upd H x o') h' x o'):HOk P w (upd H x o') h':=fun b u q=>by
 have nown:∀c y,H c=some (.own y)->c≠x:=fun c y r z=>by subst z;rw[r] at mu;exact mu
 have ntup:∀c xs,H c=some (.tup xs)->c≠x:=fun c xs r z=>by subst z;rw[r] at mu;exact mu
 by_cases hb:b=x
 · subst hb;rw[upd_same] at q;cases q;exact new
 · rw[aB hb] at q;by_cases hbe:b=e
   · have q':H b=some (.own x):=by
      rcases he with z | z
      · exact absurd (hbe.trans z) hb
      · rw[hbe];exact z
     rw[q] at q';cases q';obtain⟨v,hv⟩:=heo;exact⟨v,by rw[hbe];exact hv⟩
   · refine(ok b u q).stay (fun c v hc r=>k c v ?_ r) (fun c r=>by rw[aB (nown c b r)];exact r) fun c xs r=>by rw[aB (ntup c xs r)];exact r
     rcases hc with rfl | hc
     · exact hbe
     · rintro rfl;rcases he with z | z
       · exact nown c b hc z
       · rw[hc] at z;cases z;exact hb rfl
end
structure Un(fs ex:List Addr)(H H':Hp)(h h':Heap):Prop where
 keep:∀b o,h.get? b=some o->H b=none->b∉fs->b∉ex->h'.get? b=some o
 slot:∀b o,h.get? b=some o->H b=none->b∈fs->b∉ex->∃sl,h'.get? b=some {o with slots:=sl}
 free:∀b o,h.get? b=some o->H b=none->b∉ex->H' b=none
 there:∀b o,h.get? b=some o->b∉ex->∃o',h'.get? b=some o'
 tups:∀b xs,H b=some (.tup xs)->H' b=some (.tup xs)
 frzs:∀b o u,H b=some (.frz o u)->H' b=some (.frz o u)
 tbls:∀b ps,H b=some (.tbl ps)->∃more,H' b=some (.tbl (ps++more))
section
def Un.any{fs ex:List Addr}{H H1:Hp}{h h1:Heap}(u:Un fs ex H H1 h h1){b:Addr}{ob:Obj}(q:h.get? b=some ob)(n:H b=none)(hx:b∉ex):∃sl,h1.get? b=some {ob with slots:=sl}:=by
 by_cases hb:b∈fs
 · exact u.slot b ob q n hb hx
 · exact⟨ob.slots,u.keep b ob q n hb hx⟩
def Un.kept(k:∀b u,h.get? b=some u->h'.get? b=some u):Un fs ex H H h h':=⟨fun b ob q _ _ _=>k b ob q,fun b ob q _ _ _=>⟨ob.slots,k b ob q⟩,fun _ _ _ n _=>n,fun b ob q _=>⟨ob,k b ob q⟩,fun _ _ q=>q,fun _ _ _ q=>q,fun _ ps q=>⟨#[],by rw[q];simp⟩⟩
def Un.refl:Un fs ex H H h h:=Un.kept fun _ _ q=>q
def Un.laid{h:Heap}{a:Addr}(k:∀b u,h.get? b=some u->h'.get? b=some u)(hp:h.objs.size<=a)(hn:H a=none):Un fs ex H (upd H a o) h h' where
 keep:=fun b u q _ _ _=>k b u q
 slot:=fun b u q _ _ _=>⟨u.slots,k b u q⟩
 free:=fun b u q n _=>by rw[aB (bI (ax (aN q) hp))];exact n
 there:=fun b u q _=>⟨u,k b u q⟩
 tups:=fun b xs q=>by rw[aB (bp q hn)];exact q
 frzs:=fun b u xs q=>by rw[aB (bp q hn)];exact q
 tbls:=fun b ps q=>⟨#[],by rw[aB (bp q hn),q];simp⟩
def Un.write(mu:LH (H x))(he:e=x\/H e=some (.own x))(k:∀b u,b≠e->h.get? b=some u->h'.get? b=some u)(heo:∃u,h'.get? e=some u):Un fs ex H (upd H x o) h h':=by
 have hx:∀b,H b=none->b≠x:=fun b n z=>by subst z;rw[n] at mu;exact mu
 have hb:∀b,H b=none->b≠e:=fun b n z=>by
  subst z;rcases he with r | r
  · exact hx b n r
  · rw[n] at r;cases r
 have hm:∀b u,H b=some u->¬ LH (some u)->b≠x:=fun b u q nm z=>by subst z;rw[q] at mu;exact nm mu
 refine⟨fun b u q n _ _=>k b u (hb b n) q,fun b u q n _ _=>⟨u.slots,k b u (hb b n) q⟩,fun b u q n _=>by rw[aB (hx b n)];exact n,fun b u q _=> ?_,fun b xs q=>by rw[aB (hm b _ q fun z=>z)];exact q,fun b u xs q=>by rw[aB (hm b _ q fun z=>z)];exact q,fun b ps q=>⟨#[],by rw[aB (hm b _ q fun z=>z),q];simp⟩⟩;by_cases hbe:b=e
 · subst hbe;exact heo
 · exact⟨u,k b u hbe q⟩
end
noncomputable def LU(h:Heap)(H:Hp):List Addr:=(List.range h.objs.size).filter fun a=>(H a).isSome
noncomputable def vP(h:Heap)(H:Hp):Heap:=PySem.W.hideAll h (LU h H)
def Ck(h:Heap)(H:Hp):(vP h H).objs.size=h.objs.size:=PySem.W.hideAll_size _ _
def EE(e:h.get? b=some o)(n:H b=none):(vP h H).get? b=some o:=PySem.W.hideAll_get _ e fun hm=>by
  have q:(H b).isSome=true:=(gb.mp hm).2;rw[n] at q;simp at q
def Gy(e:(vP h H).get? b=some o):h.get? b=some o/\H b=none:=by
 have e':h.get? b=some o:=PySem.W.of_hideAll (LU h H) e;refine⟨e',?_⟩;cases q:H b with
 | none=>rfl
 | some x=>
   have hm:b∈LU h H:=gb.mpr ⟨cv.mpr (aN e'),by simp[q]⟩;have z:(vP h H).get? b=none:=PySem.W.hideAll_none (LU h H) hm;rw[z] at e;cases e
noncomputable def Ha(g h:Heap)(L:Addr):List (Addr × Obj):=(List.range h.objs.size).filterMap fun a=>if a=L\/(g.get? a).isSome=true then none else(h.get? a).map fun o=>(a,o)
noncomputable def rest(g h:Heap)(L d:Addr):List (Addr × Obj):=(Ha g h L).filter fun p=>decide (p.1≠d)
structure Mod(K:Frag)(mg:Str->Option Value)(base:Heap):Prop where
 kin:K.In base
 glob:base.Ns mainGlobals mg
 blt:∃mb,base.Ns builtinsNs mb/\∀x:Str,x≠"__name__"->mb x=bootBuiltins x
 nolimit:base.NoLimit
/-- the context: a def's body (or a comprehension's block) running. base: fixed through the whole law; s₀, H₀: the entry; outer: the frames whose slots others may change (a def's callers); stack: all frames that run; ex:iterators that were made ahead of the entry and are walked here (a comprehension's);fn:the names whose cells were made at the entry (a def:all;a comprehension's block:its own);calm:not within an except suite;pn:pins that every state bears;xe:what is wanted of an exception that leaves the code -/
structure Cx where
 prog:Program
 w:World
 K:Frag
 mg:Str->Option Value
 base:Heap
 A:Around
 N:List Str
 s₀:Shared
 H₀:Hp
 env:Env
 outer:List Env
 stack:List Env
 ex:List Addr
 fn:Str->Bool
 calm:Bool
 pn:List (Addr × Obj)
 xe:Value->Shared->Prop
noncomputable def EM(l:List Env):List Addr:=l.filterMap (·.frame)
noncomputable abbrev Cx.fs(X:Cx):List Addr:=EM X.outer
def L1(sc:Scope)(x:Str):Prop:=sc.names.lookup x=some .local\/sc.names.lookup x=some .cell\/sc.names.lookup x=some .free
def J6(sc:Scope)(x:Str):Prop:=sc.names.lookup x=some .local\/sc.names.lookup x=some .cell
def Nj(env:Env)(h:Heap)(m:Str->Option Value)(x:Str)(u:Value):Prop:=(env.kindOf x=some .local/\m x=some u)\/((env.kindOf x=some .cell\/env.kindOf x=some .free)/\∃c,env.cells.lookup x=some c/\h.IsCell c (some u))
structure Cx.Ok(X:Cx):Prop where
 mod:Mod X.K X.mg X.base
 kind:X.env.scope.kind= .function
 glob:X.env.globals=mainGlobals
 blt:X.env.builtins=builtinsNs
 above:X.s₀.heap.objs.size<=X.env.locals
 inj:∀x y c,X.env.cells.lookup x=some c->X.env.cells.lookup y=some c->x=y
 has:∀x,(X.env.kindOf x=some .cell\/X.env.kindOf x=some .free)->∃c,X.env.cells.lookup x=some c
 cab:∀x c,X.fn x=true->X.env.cells.lookup x=some c->X.s₀.heap.objs.size<=c
 hd:X.calm=true->X.A.handled=none
 frames:X.A.frames=some X.stack
 stk:X.stack=X.outer\/(X.stack=X.env::X.outer/\X.env.frame=some X.env.locals)
 exf:∀b∈X.ex,b≠X.env.locals/\∀x c,X.env.cells.lookup x=some c->c≠b
 bs:∀b o,X.base.get? b=some o->X.s₀.heap.get? b=some o/\X.H₀ b=none
 bsz:X.base.objs.size<=X.s₀.heap.objs.size
 noex:∀b o,X.base.get? b=some o->b∉X.ex
 exfs:∀b∈X.ex,b∉X.fs
 funs:X.s₀.heap.FunFrames X.base X.outer
 frf:∀b∈X.fs,X.H₀ b=none
structure Inv(X:Cx)(pins:List (Addr × Obj))(σ:List (Option V))(H:Hp)(s:Shared):Prop where
 ok:X.Ok
 os:s.os=X.s₀.os
 bare:AllBare s.gens
 base:Un X.fs X.ex X.H₀ H X.s₀.heap s.heap
 loc:∃m,s.heap.Ns X.env.locals m/\∀(i:Nat) (x:Str) (v:V),X.N[i]? =some x->σ[i]? =some (some v)->L1 X.env.scope x->∃u,RelV v u/\Nj X.env s.heap m x u
 cell:∀x c,X.env.cells.lookup x=some c->∃v,s.heap.IsCell c v
 free:H X.env.locals=none
 freeC:∀x c,X.env.cells.lookup x=some c->H c=none
 pin:∀p∈X.pn++pins,s.heap.get? p.1=some p.2/\H p.1=none/\p.1≠X.env.locals/\p.1∉X.fs/\∀v,p.2.data≠ .cell v
 hok:HOk X.prog X.w H s.heap
 len:σ.length=X.N.length
section
def Cx.Ok.nofr{X:Cx}(ok:X.Ok){b:Addr}{o:Obj}(e:X.base.get? b=some o):b∉X.fs:=fun hb=>by
 have:=(ok.funs.mem hb).1;rw[e] at this;cases this
def Inv.bs(I:Inv X pins σ H s):∀b o,X.base.get? b=some o->s.heap.get? b=some o/\H b=none:=fun b o e=>
 ⟨I.base.keep b o (I.ok.bs b o e).1 (I.ok.bs b o e).2 (I.ok.nofr e) (I.ok.noex b o e),I.base.free b o (I.ok.bs b o e).1 (I.ok.bs b o e).2 (I.ok.noex b o e)⟩
def Inv.bk(I:Inv X pins σ H s):∀b o,X.base.get? b=some o->s.heap.get? b=some o:=fun b o e=>(I.bs b o e).1
def Inv.mod(I:Inv X pins σ H s):Mod X.K X.mg X.base:=I.ok.mod
def Inv.kIn(I:Inv X pins σ H s):X.K.In s.heap:=I.ok.mod.kin.keeps I.bk
def Inv.lt(I:Inv X pins σ H s):X.env.locals<s.heap.objs.size:=let⟨_,hn,_⟩:=I.loc;hn.lt
def Inv.sz(I:Inv X pins σ H s):X.s₀.heap.objs.size<=s.heap.objs.size:=ai I.ok.above (eF I.lt)
def Inv.nofs{X:Cx}{pins:List (Addr × Obj)}{σ:List (Option V)}{H:Hp}{s:Shared}(I:Inv X pins σ H s){a:Addr}(h:s.heap.objs.size<=a):a∉X.fs:=fun hb=>by
 obtain⟨_,o,ho,_⟩:=I.ok.funs.mem hb;exact absurd (ax (aN ho) (ai I.sz h)) (gg _)
def Inv.cne(I:Inv X pins σ H s):∀x c,X.env.cells.lookup x=some c->c≠X.env.locals:=fun x c e z=>by
 obtain⟨v,o,ho,hd⟩:=I.cell x c e;obtain⟨m,⟨o',es,ep,ho',hd',_⟩,_⟩:=I.loc;rw[z,ho'] at ho;cases ho;rw[hd'] at hd;cases hd
def Inv.funs(I:Inv X pins σ H s):s.heap.FunFrames X.base X.outer:=by
 have all:∀(l:List Env),(∀b∈EM l,b∈X.fs)->X.s₀.heap.FunFrames X.base l->s.heap.FunFrames X.base l:=by
  intro l
  induction l with
  | nil=>intro _ _;trivial
  | cons env r ih=>
    intro hs hl;obtain⟨hk,⟨L,o,hf,hn,ho,hd⟩,hr⟩:=hl;have hL:L∈X.fs:=hs L (by unfold EM;rw[gO,hf];exact aL);obtain⟨sl,e⟩:=I.base.slot L o ho (I.ok.frf L hL) hL fun z=>I.ok.exfs L z hL;exact⟨hk,⟨L,_,hf,hn,e,hd⟩,ih (fun b hb=>hs b (by unfold EM;rw[gO,hf];exact aG _ hb)) hr⟩
 exact all X.outer (fun _ hb=>hb) I.ok.funs
def Inv.stack(I:Inv X pins σ H s):s.heap.FunFrames X.base X.stack:=by
 rcases I.ok.stk with e | ⟨e,hf⟩
 · rw[e];exact I.funs
 · rw[e];obtain⟨m,hn,_⟩:=I.loc;refine .cons (by rw[I.ok.kind];decide) hf hn ?_ I.funs;exact Heap.get?_none_of_le (ai I.ok.bsz I.ok.above)
def Inv.stkSub(I:Inv X pins σ H s):∀b∈EM X.stack,b∈X.env.locals::X.fs:=fun b hb=>by
 rcases I.ok.stk with e | ⟨e,hf⟩
 · rw[e] at hb;exact aG _ hb
 · rw[e] at hb;unfold EM at hb;rw[gO,hf] at hb;exact hb
def Inv.stkFree(I:Inv X pins σ H s):∀b∈EM X.stack,H b=none:=fun b hb=>by
 rcases aI.mp (I.stkSub b hb) with e | hb
 · rw[e];exact I.free
 · obtain⟨_,o,ho,_⟩:=I.ok.funs.mem hb;exact I.base.free b o ho (I.ok.frf b hb) fun z=>I.ok.exfs b z hb
def Inv.step{ch:List Addr}(I:Inv X pins σ H s)(hch:∀b∈ch,(b∈X.ex\/X.s₀.heap.objs.size<=b)/\b≠X.env.locals/\(∀x c,X.env.cells.lookup x=some c->c≠b)/\∀p∈X.pn++pins,p.1≠b)(keep:∀b o,b≠X.env.locals->b∉X.fs->b∉ch->s.heap.get? b=some o->H b=none->h'.get? b=some o)(slot:∀b o,b≠X.env.locals->b∈X.fs->b∉ch->s.heap.get? b=some o->H b=none->∃sl,h'.get? b=some {o with slots:=sl})(free:∀b o,b∉ch->s.heap.get? b=some o->H b=none->H' b=none)(there:∀b o,b∉ch->s.heap.get? b=some o->∃o',h'.get? b=some o')(tups:∀b xs,H b=some (.tup xs)->H' b=some (.tup xs))(frzs:∀b o u,H b=some (.frz o u)->H' b=some (.frz o u))(tbls:∀b ps,H b=some (.tbl ps)->∃more,H' b=some (.tbl (ps++more)))(ns:∀m,s.heap.Ns X.env.locals m->h'.Ns X.env.locals m)(hok:HOk X.prog X.w H' h')(hg:AllBare g'):Inv X pins σ H' {s with heap:=h',gens:=g',drawn:=d',toks:=t'}:=by
 have neL:∀b o,X.s₀.heap.get? b=some o->b≠X.env.locals:=fun b o e=>bI (ax (aN e) I.ok.above);have neC:∀b o,X.s₀.heap.get? b=some o->b∉X.ex->b∉ch:=fun b o e hx hb=>by
  rcases(hch b hb).1 with z | z
  · exact hx z
  · exact absurd (ax (aN e) z) (gg _)
 have cellK:∀x c,X.env.cells.lookup x=some c->∀v,s.heap.IsCell c v->h'.IsCell c v:=fun x c e v ⟨o,ho,hd⟩=>by
  have nch:c∉ch:=fun z=>(hch c z).2.2.1 x c e rfl;by_cases hc:c∈X.fs
  · obtain⟨sl,q⟩:=slot c o (I.cne x c e) hc nch ho (I.freeC x c e);exact⟨_,q,hd⟩
  · exact⟨o,keep c o (I.cne x c e) hc nch ho (I.freeC x c e),hd⟩
 refine⟨I.ok,I.os,hg,⟨fun b o e n hb hx=> ?_,fun b o e n hb hx=> ?_,fun b o e n hx=> ?_,fun b o e hx=> ?_,fun b xs e=>tups b xs (I.base.tups b xs e),fun b o xs e=>frzs b o xs (I.base.frzs b o xs e),fun b ps e=> ?_⟩,?_,fun x c e=> ?_,?_,fun x c e=> ?_,fun p hp=> ?_,hok,I.len⟩
 · exact keep b o (neL b o e) hb (neC b o e hx) (I.base.keep b o e n hb hx) (I.base.free b o e n hx)
 · obtain⟨sl,e1⟩:=I.base.slot b o e n hb hx;obtain⟨sl',e2⟩:=slot b _ (neL b o e) hb (neC b o e hx) e1 (I.base.free b o e n hx);exact⟨sl',e2⟩
 · obtain⟨o',e1⟩:=I.base.there b o e hx;exact free b o' (neC b o e hx) e1 (I.base.free b o e n hx)
 · obtain⟨o',e1⟩:=I.base.there b o e hx;exact there b o' (neC b o e hx) e1
 · obtain⟨m1,e1⟩:=I.base.tbls b ps e;obtain⟨m2,e2⟩:=tbls b _ e1;exact⟨m1++m2,by rw[e2,Array.append_assoc]⟩
 · obtain⟨m,hn,hl⟩:=I.loc;refine⟨m,ns m hn,fun i x v e1 e2 e3=> ?_⟩;obtain⟨u,r,l⟩:=hl i x v e1 e2 e3;refine⟨u,r,?_⟩;rcases l with l | ⟨k,c,e,z⟩
   · exact .inl l
   · exact .inr ⟨k,c,e,cellK x c e _ z⟩
 · obtain⟨v,z⟩:=I.cell x c e;exact⟨v,cellK x c e v z⟩
 · obtain⟨m,⟨o,_,_,ho,_⟩,_⟩:=I.loc;exact free _ o (fun z=>(hch _ z).2.1 rfl) ho I.free
 · obtain⟨v,o,ho,hd⟩:=I.cell x c e;exact free c o (fun z=>(hch c z).2.2.1 x c e rfl) ho (I.freeC x c e)
 · obtain⟨e,n,ne,nf,d⟩:=I.pin p hp;have nch:p.1∉ch:=fun z=>(hch p.1 z).2.2.2 p hp rfl;exact⟨keep p.1 p.2 ne nf nch e n,free p.1 p.2 nch e n,ne,nf,d⟩
def Inv.un(I:Inv X pins σ H s)(u:Un X.fs [] H H' s.heap h')(hok:HOk X.prog X.w H' h'):Inv X pins σ H' {s with heap:=h',toks:=t'}:=by
 obtain⟨m,⟨o,es,ep,ho,r⟩,_⟩:=id I.loc;obtain⟨sl,hL⟩:=u.any ho I.free (by simp);exact I.step (g':=s.gens) (d':=s.drawn) (ch:=[]) (fun _ z=>nomatch z) (fun b o _ hb _ e n=>u.keep b o e n hb (by simp)) (fun b o _ hb _ e n=>u.slot b o e n hb (by simp)) (fun b o _ e n=>u.free b o e n (by simp)) (fun b o _ e=>u.there b o e (by simp)) u.tups u.frzs u.tbls (fun m' hm=>by
  obtain⟨o',es',ep',ho',r'⟩:=hm;rw[ho] at ho';cases ho';exact⟨_,es',ep',hL,r'⟩) hok I.bare
def Inv.call(I:Inv X pins σ H s)(u:Un (EM X.stack) ch H H' s.heap h')(hok:HOk X.prog X.w H' h')(hg:AllBare g')(hch:∀b∈ch,(b∈X.ex\/X.s₀.heap.objs.size<=b)/\b≠X.env.locals/\(∀x c,X.env.cells.lookup x=some c->c≠b)/\∀p∈X.pn++pins,p.1≠b):Inv X pins σ H' {s with heap:=h',gens:=g',drawn:=d',toks:=t'}:=by
 obtain⟨m,⟨o,es,ep,ho,r⟩,_⟩:=id I.loc;obtain⟨sl,hL⟩:=u.any ho I.free fun z=>(hch _ z).2.1 rfl;exact I.step (ch:=ch) hch (fun b o hL hb hc e n=>u.keep b o e n (fun z=>(aI.mp (I.stkSub b z)).elim hL hb) hc) (fun b o _ _ hc e n=>u.any e n hc) (fun b o hc e n=>u.free b o e n hc) (fun b o hc e=>u.there b o e hc) u.tups u.frzs u.tbls (fun m' hm=>by
  obtain⟨o',es',ep',ho',r'⟩:=hm;rw[ho] at ho';cases ho';exact⟨_,es',ep',hL,r'⟩) hok hg
def Inv.turned(I:Inv X pins σ H s)(k:∀b o,b≠it->s.heap.get? b=some o->h'.get? b=some o)(hn:H it=none)(hL:it≠X.env.locals)(h1:it∈X.ex\/X.s₀.heap.objs.size<=it)(h2:∀x c,X.env.cells.lookup x=some c->c≠it)(h3:∀p∈X.pn++pins,p.1≠it):Inv X pins σ H {s with heap:=h',toks:=t'}:=by
 have nit:∀b u,H b=some u->b≠it:=fun b u e z=>by rw[z,hn] at e;cases e
 refine I.step (g':=s.gens) (d':=s.drawn) (ch:=[it]) (fun b hb=> ?_) (fun b o _ _ hc e _=>k b o (fun z=>hc (by simp[z])) e) (fun b o _ _ hc e _=>⟨o.slots,k b o (fun z=>hc (by simp[z])) e⟩) (fun _ _ _ _ n=>n) (fun b o hc e=>⟨o,k b o (fun z=>hc (by simp[z])) e⟩) (fun _ _ e=>e) (fun _ _ _ e=>e) (fun b ps e=>⟨#[],by rw[e];simp⟩) (fun m hm=> ?_) (fun b u e=> ?_) I.bare
 · have e:b=it:=by simpa using hb
   subst e;exact⟨h1,hL,h2,h3⟩
 · obtain⟨o,es,ep,ho,r⟩:=hm;exact⟨o,es,ep,k _ o (br hL) ho,r⟩
 · refine(I.hok b u e).stay (fun c v hc q=>k c v ?_ q) (fun _ q=>q) fun _ _ q=>q;rcases hc with z | z
   · rw[z];exact nit b u e
   · exact nit c _ z
def Inv.tok(I:Inv X pins σ H s)(t:Nat):Inv X pins σ H {s with toks:=t}:=I.un (h':=s.heap) (t':=t) Un.refl I.hok
def Inv.kept(I:Inv X pins σ H s)(k:∀b u,s.heap.get? b=some u->h'.get? b=some u):Inv X pins σ H {s with heap:=h',toks:=t'}:=I.un (Un.kept k) (I.hok.kept k)
def Inv.laid{a:Addr}(I:Inv X pins σ H s)(k:∀b u,s.heap.get? b=some u->h'.get? b=some u)(hp:s.heap.objs.size<=a)(new:ObjOk X.prog X.w (upd H a o) h' a o):Inv X pins σ (upd H a o) {s with heap:=h',toks:=t'}:=I.un (Un.laid k hp (I.hok.fresh hp)) (I.hok.laid k hp new)
def Inv.write(I:Inv X pins σ H s)(mu:LH (H x))(he:e=x\/H e=some (.own x))(k:∀b u,b≠e->s.heap.get? b=some u->h'.get? b=some u)(heo:∃u,h'.get? e=some u)(new:ObjOk X.prog X.w (upd H x o) h' x o):Inv X pins σ (upd H x o) {s with heap:=h',toks:=t'}:=I.un (Un.write mu he k heo) (I.hok.write mu he k heo new)
def Inv.pins_of(I:Inv X pins σ H s)(h:∀p∈pins',s.heap.get? p.1=some p.2/\H p.1=none/\p.1≠X.env.locals/\p.1∉X.fs/\∀v,p.2.data≠ .cell v):Inv X pins' σ H s:=⟨I.ok,I.os,I.bare,I.base,I.loc,I.cell,I.free,I.freeC,fun p hp=>(ay.mp hp).elim (fun z=>I.pin p (aS _ z)) (h p),I.hok,I.len⟩
def xF{N:List Str}(hN:N.Nodup){i j:Nat}{x:Str}(a:N[i]? =some x)(b:N[j]? =some x):i=j:=by
 obtain⟨h1,e1⟩:=aU.mp a;obtain⟨h2,e2⟩:=aU.mp b;exact(List.getElem_inj hN).mp (e1.trans e2.symm)
def tE{X:Cx}{pins:List (Addr × Obj)}{σ:List (Option V)}{H:Hp}{s:Shared}{M:Model}{A:Around}{E:Value->Shared->Prop}{i:Nat}{x:Str}{v:V}{u:Value}{Q:Unit->Shared->Prop}(I:Inv X pins σ H s)(hN:X.N.Nodup)(hi:X.N[i]? =some x)(hx:J6 X.env.scope x)(r:RelV v u)(h:∀s',Inv X pins (σ.set i (some v)) H s'->(∃a,Heap.SameBut a s.heap s'.heap/\(a=X.env.locals\/X.env.cells.lookup x=some a))->Q () s')(hf:X.fn x=true\/X.env.scope.names.lookup x=some .local:=by first | exact .inl rfl | exact .inr rfl | assumption):wpAny M A (storeName X.env x u) Q E s:=by
 obtain⟨m,hn,hl⟩:=id I.loc;have hcls:(X.env.scope.kind== .class || (X.env.scope.kind== .module&&X.env.locals !=X.env.globals))=false:=by rw[I.ok.kind];rfl
 have hiσ:i<σ.length:=by rw[I.len];exact(aU.mp hi).1
 have cne:=I.cne;have tracked:∀{a:Addr} {h':Heap},(∃o,s.heap.get? a=some o/\H a=none)->Heap.SameBut a s.heap h'->HOk X.prog X.w H h':=fun {a h'} ha hs b ob e=>by
  obtain⟨_,_,hfree⟩:=ha;refine(I.hok b ob e).stay (fun c w' hc q=>(hs.2 c ?_).trans q) (fun _ q=>q) fun _ _ q=>q;rintro rfl;rcases hc with rfl | hc
  · rw[hfree] at e;cases e
  · rw[hfree] at hc;cases hc
 rcases hx with hk | hk
 · refine wpAny_storeName_local hk hn (fun h' hn' hs=> ?_) hcls;obtain⟨oL,_,_,hoL,_⟩:=id hn;refine h _ ⟨I.ok,I.os,I.bare,⟨fun b o e n hb hx=> ?_,fun b o e n hb hx=> ?_,I.base.free,fun b o e hx=> ?_,I.base.tups,I.base.frzs,I.base.tbls⟩,⟨_,hn',fun j y v' e1 e2 e3=> ?_⟩,fun y c e=> ?_,I.free,I.freeC,fun p hp=> ?_,tracked ⟨oL,hoL,I.free⟩ hs,by simpa using I.len⟩ ⟨_,hs,.inl rfl⟩
   · exact(hs.2 b (bI (ax (aN e) I.ok.above))).trans (I.base.keep b o e n hb hx)
   · obtain⟨sl,e1⟩:=I.base.slot b o e n hb hx;exact⟨sl,(hs.2 b (bI (ax (aN e) I.ok.above))).trans e1⟩
   · obtain⟨o',e1⟩:=I.base.there b o e hx;exact⟨o',(hs.2 b (bI (ax (aN e) I.ok.above))).trans e1⟩
   · by_cases hj:j=i
     · subst hj;rw[hi] at e1;cases e1;rw[LJ hiσ] at e2;cases e2;exact⟨u,r,.inl ⟨hk,by simp⟩⟩
     · rw[Np (br hj)] at e2;obtain⟨u',r',q⟩:=hl j y v' e1 e2 e3;refine⟨u',r',?_⟩;rcases q with⟨k,e⟩ | ⟨k,c,e,z⟩
       · refine .inl ⟨k,?_⟩;have:y≠x:=fun e=>hj (xF hN e1 (e ▸ hi));simp[this,e]
       · exact .inr ⟨k,c,e,z.sameBut hs (cne y c e)⟩
   · obtain⟨w',z⟩:=I.cell y c e;exact⟨w',z.sameBut hs (cne y c e)⟩
   · obtain⟨e,n,ne,nf,d⟩:=I.pin p hp;exact⟨(hs.2 p.1 ne).trans e,n,ne,nf,d⟩
 · have hfn:X.fn x=true:=by
    rcases hf with z | z
    · exact z
    · rw[z] at hk;cases hk
   obtain⟨c,hc⟩:=I.ok.has x (.inl hk);obtain⟨w',z⟩:=I.cell x c hc;refine wpAny_storeName_cell I.ok.kind hk hc z (fun h' hc' hs=> ?_);obtain⟨oc,hoc,hocd⟩:=id z;refine h {s with heap:=h'} ⟨I.ok,I.os,I.bare,⟨fun b o e n hb hx=> ?_,fun b o e n hb hx=> ?_,I.base.free,fun b o e hx=> ?_,I.base.tups,I.base.frzs,I.base.tbls⟩,⟨m,hn.sameBut hs (br (cne x c hc)),fun j y v' e1 e2 e3=> ?_⟩,fun y c' e=> ?_,I.free,I.freeC,fun p hp=> ?_,tracked ⟨oc,hoc,I.freeC x c hc⟩ hs,by simpa using I.len⟩ ⟨c,hs,.inr hc⟩
   · exact(hs.2 b (bI (ax (aN e) (I.ok.cab x c hfn hc)))).trans (I.base.keep b o e n hb hx)
   · obtain⟨sl,e1⟩:=I.base.slot b o e n hb hx;exact⟨sl,(hs.2 b (bI (ax (aN e) (I.ok.cab x c hfn hc)))).trans e1⟩
   · obtain⟨o',e1⟩:=I.base.there b o e hx;exact⟨o',(hs.2 b (bI (ax (aN e) (I.ok.cab x c hfn hc)))).trans e1⟩
   · by_cases hj:j=i
     · subst hj;rw[hi] at e1;cases e1;rw[LJ hiσ] at e2;cases e2;exact⟨u,r,.inr ⟨.inl hk,c,hc,hc'⟩⟩
     · rw[Np (br hj)] at e2;obtain⟨u',r',q⟩:=hl j y v' e1 e2 e3;refine⟨u',r',?_⟩;rcases q with q | ⟨k,c',e,z'⟩
       · exact .inl q
       · refine .inr ⟨k,c',e,z'.sameBut hs ?_⟩;rintro rfl;exact hj (xF hN e1 (I.ok.inj _ _ _ e hc ▸ hi))
   · by_cases hcc:c'=c
     · subst hcc;exact⟨_,hc'⟩
     · obtain⟨w2,z2⟩:=I.cell y c' e;exact⟨w2,z2.sameBut hs hcc⟩
   · obtain⟨e,n,ne,nf,d⟩:=I.pin p hp;refine⟨(hs.2 p.1 ?_).trans e,n,ne,nf,d⟩;intro q;rw[q,hoc] at e;have q':oc=p.2:=dJ e;exact d w' (by rw[<-q'];exact hocd)
def jU{X:Cx}{pins:List (Addr × Obj)}{σ:List (Option V)}{H:Hp}{s:Shared}{M:Model}{A:Around}{E:Value->Shared->Prop}{i:Nat}{x:Str}{v:V}{u:Value}{Q:Unit->Shared->Prop}(I:Inv X pins σ H s)(hN:X.N.Nodup)(hi:X.N[i]? =some x)(hx:J6 X.env.scope x)(r:RelV v u)(h:∀s',Inv X pins (σ.set i (some v)) H s'->Q () s')(hf:X.fn x=true\/X.env.scope.names.lookup x=some .local:=by first | exact .inl rfl | exact .inr rfl | assumption):wpAny M A (storeName X.env x u) Q E s:=tE I hN hi hx r (fun s' I' _=>h s' I') hf
def Inv.call'(I:Inv X pins σ H s)(ho:s'.os=s.os)(u:Un (EM X.stack) ch H H' s.heap s'.heap)(hok:HOk X.prog X.w H' s'.heap)(hg:AllBare s'.gens)(hch:∀b∈ch,(b∈X.ex\/X.s₀.heap.objs.size<=b)/\b≠X.env.locals/\(∀x c,X.env.cells.lookup x=some c->c≠b)/\∀p∈X.pn++pins,p.1≠b):Inv X pins σ H' s':=by
 obtain⟨h',g',d',t',o'⟩:=s';have e:o'=s.os:=ho;subst e;exact I.call (g':=g') (t':=t') (d':=d') u hok hg hch
end
abbrev XK:=Value->Option Addr->Hp->Prop
abbrev St:=List (Option V)
abbrev VK:=V->Hp->Prop
abbrev TE:=St->Hp->VK->Prop
abbrev TT:=St->Hp->(Bool->Hp->Prop)->Prop
abbrev TA:=St->Hp->(List V->Hp->Prop)->Prop
structure sx where
 nx:St->Hp->Prop
 rt:VK
 bk:St->Hp->Prop:=fun _ _=>False
 ct:St->Hp->Prop:=fun _ _=>False
abbrev TS:=sx->St->Hp->Prop
def EP(X:Cx)(pins:List (Addr × Obj))(σ:St)(Q:VK)(u:Value)(s':Shared):Prop:=∃v H',Inv X pins σ H' s'/\RelV v u/\Q v H'
def TP(X:Cx)(pins:List (Addr × Obj))(σ:St)(Q:Bool->Hp->Prop)(b:Bool)(s':Shared):Prop:=∃H',Inv X pins σ H' s'/\Q b H'
def AP(X:Cx)(pins:List (Addr × Obj))(σ:St)(Q:List V->Hp->Prop)(us:List Value)(s':Shared):Prop:=∃vs H',Inv X pins σ H' s'/\Vals vs us/\Q vs H'
def SP(X:Cx)(pins:List (Addr × Obj))(D:sx)(f:Flow)(s':Shared):Prop:=match f with
 | .next=>∃σ' H',Inv X pins σ' H' s'/\D.nx σ' H'
 | .brk=>∃σ' H',Inv X pins σ' H' s'/\D.bk σ' H'
 | .cont=>∃σ' H',Inv X pins σ' H' s'/\D.ct σ' H'
 | .ret u=>∃v σ' H',Inv X pins σ' H' s'/\RelV v u/\D.rt v H'
def PE(X:Cx)(e:Expr)(t:TE):Prop:=∀(pins:List (Addr × Obj)) (s:Shared) (σ:St) (H:Hp) (Q:VK),Inv X pins σ H s->t σ H Q->wpAny (model X.prog X.w) X.A (eval e X.env) (EP X pins σ Q) X.xe s
def PT(X:Cx)(e:Expr)(t:TT):Prop:=∀(pins:List (Addr × Obj)) (s:Shared) (σ:St) (H:Hp) (Q:Bool->Hp->Prop),Inv X pins σ H s->t σ H Q->wpAny (model X.prog X.w) X.A (isTrue e X.env (eval e X.env)) (TP X pins σ Q) X.xe s
def PW(X:Cx)(e:Expr)(t:TT):Prop:=∀(whole:Sem Value) (pins:List (Addr × Obj)) (s:Shared) (σ:St) (H:Hp) (Q:Bool->Hp->Prop),Inv X pins σ H s->t σ H Q->wpAny (model X.prog X.w) X.A (isTrue e X.env whole) (TP X pins σ Q) X.xe s
def PW.pt(h:PW X e t):PT X e t:=h _
def PA(X:Cx)(es:List Expr)(t:TA):Prop:=∀(pos:Pos) (pins:List (Addr × Obj)) (s:Shared) (σ:St) (H:Hp) (Q:List V->Hp->Prop),Inv X pins σ H s->t σ H Q->wpAny (model X.prog X.w) X.A (spliced (backTo pos (starEach es X.env))) (AP X pins σ Q) X.xe s
def PS(X:Cx)(st:Stmt)(t:TS):Prop:=∀(pins:List (Addr × Obj)) (s:Shared) (σ:St) (H:Hp) (D:sx),Inv X pins σ H s->t D σ H->wpAny (model X.prog X.w) X.A (exec st X.env) (SP X pins D) X.xe s
def PSs(X:Cx)(st:List Stmt)(t:TS):Prop:=∀(pins:List (Addr × Obj)) (s:Shared) (σ:St) (H:Hp) (D:sx),Inv X pins σ H s->t D σ H->wpAny (model X.prog X.w) X.A (execs st X.env) (SP X pins D) X.xe s
def cZ{t:Sem α}(h:wpAny M A t Q E s)(hQ:∀a s,Q a s->Q' a s):wpAny M A t Q' E s:=cJ h hQ fun _ _ x=>x
section
def OA{X:Cx}{a b:Expr}{ta tb:TE}(ha:PE X a ta)(hb:PE X b tb){pins:List (Addr × Obj)}{s:Shared}{σ:St}{H:Hp}{R:V->V->Hp->Prop}(I:Inv X pins σ H s)(h:ta σ H fun x H1=>tb σ H1 fun y H2=>R x y H2){α:Type}{Q:α->Shared->Prop}{f:Value->Value->Sem α}(hf:∀v u s2 x y H2,Inv X pins σ H2 s2->RelV x v->RelV y u->R x y H2->wpAny (model X.prog X.w) X.A (f v u) Q X.xe s2):wpAny (model X.prog X.w) X.A (eval a X.env) (fun v s₁=>wpAny (model X.prog X.w) X.A (eval b X.env) (fun u s₂=>wpAny (model X.prog X.w) X.A (f v u) Q X.xe s₂) X.xe s₁) X.xe s:=by
 refine cZ (ha pins s σ H _ I h) fun v s1 ⟨x,H1,I1,r1,q1⟩=> ?_;refine cZ (hb pins s1 σ H1 _ I1 q1) fun u s2 ⟨y,H2,I2,r2,q2⟩=> ?_;exact hf v u s2 x y H2 I2 r1 r2 q2
def onV(σ:St)(i:Nat)(Q:V->Prop):Prop:=match σ[i]? with | some (some v)=>Q v | _=>False
def onB(x:V)(Q:Bool->Prop):Prop:=match x with | .bl c=>Q c | _=>False
def onI(x:V)(Q:Int->Prop):Prop:=match x with | .int c=>Q c | _=>False
def onR(x:V)(Q:Addr->Prop):Prop:=match x with | .ref c=>Q c | _=>False
def onT(b:Bool)(Q:Prop):Prop:=match b with | true=>Q | false=>False
def onV.ex(h:onV σ i Q):∃v,σ[i]? =some (some v)/\Q v:=by
 unfold onV at h
 split at h
 · exact⟨_,by assumption,h⟩
 · exact h.elim
def onB.ex(h:onB x Q):∃c,x= .bl c/\Q c:=by cases x<;>first | exact⟨_,rfl,h⟩ | exact False.elim h
def onI.ex(h:onI x Q):∃c,x= .int c/\Q c:=by cases x<;>first | exact⟨_,rfl,h⟩ | exact False.elim h
def onR.ex(h:onR x Q):∃c,x= .ref c/\Q c:=by cases x<;>first | exact⟨_,rfl,h⟩ | exact False.elim h
def onT.ex(h:onT b Q):b=true/\Q:=by cases b<;>first | exact⟨rfl,h⟩ | exact False.elim h
def og(i:Nat):TE:=fun σ H Q=>onV σ i fun v=>Q v H
def tC(v:V):TE:=fun _ H Q=>Q v H
def IQ{X:Cx}{i:Nat}{x:Str}{pos:Pos}(hN:X.N[i]? =some x)(hv:L1 X.env.scope x)(hd:(x==("__debug__":Str))=false:=by decide)(hcd:(x==("__classdict__":Str))=false:=by decide):PE X (.Name x pos) (og i):=by
 intro pins s σ H Q I h;obtain⟨v,e,h⟩:=onV.ex h;obtain⟨m,hn,hl⟩:=I.loc;obtain⟨u,r,l⟩:=hl i x v hN e hv;have fin:EP X pins σ Q u s:=⟨v,H,I,r,h⟩;rcases l with⟨hk,hm⟩ | ⟨hk,c,hc,hcell⟩
 · exact NW (Me I.ok.kind hk hn hm fin) hd
 · rcases hk with hk | hk
   · exact NW (Nu I.ok.kind hk hc hcell fin) hd
   · exact NW (wpAny_loadName_free I.ok.kind hk hc hcell fin hcd) hd
def aw:PE X (.Constant (.int i) j pos) (tC (.int i)):=fun _ _ _ H _ I h=>wpAny_Constant_int ⟨.int i,H,I.tok _,⟨_,rfl⟩,h⟩
def eQ:PE X (.Constant (.bool b) j pos) (tC (.bl b)):=fun _ _ _ H _ I h=>Constant_bool ⟨.bl b,H,I,rfl,h⟩
def ej:PE X (.Constant .none j pos) (tC .non):=fun _ _ _ H _ I h=>Constant_none ⟨.non,H,I,rfl,h⟩
def bq:PE X (.Constant (.str x) j pos) (tC (.str x)):=fun _ _ _ H _ I h=>Calls.Constant_str ⟨.str x,H,I.tok _,⟨_,rfl⟩,h⟩
def Gl(X:Cx)(x:Str):Prop:=X.env.kindOf x=some .globalImplicit
def qr{X:Cx}{E:Value->Shared->Prop}{pins:List (Addr × Obj)}{s:Shared}{σ:St}{H:Hp}{x:Str}{u:Value}{pos:Pos}{Q:Value->Shared->Prop}(I:Inv X pins σ H s)(hg:Gl X x)(hm:X.mg x=some u)(h:Q u s)(hd:(x==("__debug__":Str))=false:=by decide):wpAny (model X.prog X.w) X.A (eval (.Name x pos) X.env) Q E s:=Hh I.ok.kind hg (Calls.loadGlobal_global (by rw[I.ok.glob];exact I.mod.glob.keeps I.bk) hm h) hd
def kg{X:Cx}{E:Value->Shared->Prop}{pins:List (Addr × Obj)}{s:Shared}{σ:St}{H:Hp}{x:Str}{u:Value}{pos:Pos}{Q:Value->Shared->Prop}(I:Inv X pins σ H s)(hg:Gl X x)(hm:X.mg x=none)(hv:bootBuiltins x=some u)(h:Q u s)(hn:x≠"__name__":=by decide)(hd:(x==("__debug__":Str))=false:=by decide):wpAny (model X.prog X.w) X.A (eval (.Name x pos) X.env) Q E s:=by
 obtain⟨mb,h1,h2⟩:=I.mod.blt;exact Hh I.ok.kind hg (Calls.loadGlobal_builtin (by rw[I.ok.glob];exact I.mod.glob.keeps I.bk) hm (by rw[I.ok.blt];exact h1.keeps I.bk) ((h2 x hn).trans hv) h) hd
def ql{X:Cx}{x:Str}{v:V}{u:Value}{pos:Pos}(hg:Gl X x)(hm:X.mg x=some u)(r:RelV v u)(hd:(x==("__debug__":Str))=false:=by decide):PE X (.Name x pos) (tC v):=fun _ _ _ H _ I h=>qr I hg hm ⟨v,H,I,r,h⟩ hd
def vp{X:Cx}{x:Str}{v:V}{u:Value}{pos:Pos}(hg:Gl X x)(hm:X.mg x=none)(hv:bootBuiltins x=some u)(r:RelV v u)(hn:x≠"__name__":=by decide)(hd:(x==("__debug__":Str))=false:=by decide):PE X (.Name x pos) (tC v):=fun _ _ _ H _ I h=>kg I hg hm hv ⟨v,H,I,r,h⟩ hn hd
def PC(X:Cx)(op:CmpOp)(a b:Expr)(t:TE):Prop:=∀(pins:List (Addr × Obj)) (s:Shared) (σ:St) (H:Hp) (Q:VK),Inv X pins σ H s->t σ H Q->wpAny (model X.prog X.w) X.A (eval a X.env) (fun v s₁=>wpAny (model X.prog X.w) X.A (eval b X.env) (fun u s₂=>wpAny (model X.prog X.w) X.A (compareOp op v u) (EP X pins σ Q) X.xe s₂) X.xe s₁) X.xe s
def Ea(b:Expr){op:CmpOp}(h:op≠ .In)(h2:op≠ .NotIn):behindInMarks op b=false:=by
 have e1:(op==CmpOp.In)=false:=by cases op<;>first | rfl | exact absurd rfl h
 have e2:(op==CmpOp.NotIn)=false:=by cases op<;>first | rfl | exact absurd rfl h2
 cases b<;>simp[behindInMarks,e1,e2]
def tB(t:TE):TT:=fun σ H Q=>t σ H fun x H1=>onB x fun c=>Q c H1
def MN{X:Cx}{a b:Expr}{pos:Pos}{op:CmpOp}{t:TE}(h:PC X op a b t)(h1:behindInMarks op b=false:=by first | exact Ea _ (by decide) (by decide) | rfl):PT X (.Compare a [op] [b] pos) (tB t):=by
 intro pins s σ H Q I hw;refine LR (cZ (h pins s σ H _ I hw) fun v s1 h1=>cZ h1 fun u s2 h2=>cZ h2 fun c s3 ⟨x,H1,I1,r1,q1⟩=> ?_) h1;obtain⟨d,rfl,q⟩:=onB.ex q1;cases r1;exact cW ⟨H1,I1,q⟩
def d4{X:Cx}{e:Expr}{t:TE}(h:PE X e t)(he:∀whole,isTrue e X.env whole=(do let v<-whole;standAt e.pos;holding [v] (truthy v)):=by intro _;rfl):PT X e (tB t):=by
 intro pins s σ H Q I hw;refine isTrue_plain (cZ (h pins s σ H _ I hw) fun v s1 ⟨x,H1,I1,r1,q1⟩=> ?_) (he _);obtain⟨d,rfl,q⟩:=onB.ex q1;cases r1;exact cW ⟨H1,I1,q⟩
def Mw(t u:TT):TT:=fun σ H Q=>t σ H fun c H1=>if c=true then u σ H1 Q else Q false H1
def N1(t u:TT):TT:=fun σ H Q=>t σ H fun c H1=>if c=true then Q true H1 else u σ H1 Q
def Mp(t:TT):TT:=fun σ H Q=>t σ H fun c H1=>Q (!c) H1
def kK(ha:PT X a tA):PW X (.BoolOp .And [a] pos) tA:=by
 intro wh pins s σ H Q I h;refine isTrue_and (cZ (ha pins s σ H Q I h) fun c s1 e=> ?_);cases c with
 | true=>exact isTrue_and_nil e
 | false=>exact e
def oz(ha:PT X a tA):PW X (.BoolOp .Or [a] pos) tA:=by
 intro wh pins s σ H Q I h;refine isTrue_or (cZ (ha pins s σ H Q I h) fun c s1 e=> ?_);cases c with
 | false=>exact isTrue_or_nil e
 | true=>exact e
def mh{rest:List Expr}(ha:PT X a tA)(hb:PW X (.BoolOp .And (b::rest) pos) tB'):PW X (.BoolOp .And (a::b::rest) pos) (Mw tA tB'):=by
 intro wh pins s σ H Q I h;refine isTrue_and (cZ (ha pins s σ H _ I h) fun c s1 ⟨H1,I1,q1⟩=> ?_);cases c with
 | true=>exact hb wh pins s1 σ H1 Q I1 q1
 | false=>exact⟨H1,I1,q1⟩
def nv{rest:List Expr}(ha:PT X a tA)(hb:PW X (.BoolOp .Or (b::rest) pos) tB'):PW X (.BoolOp .Or (a::b::rest) pos) (N1 tA tB'):=by
 intro wh pins s σ H Q I h;refine isTrue_or (cZ (ha pins s σ H _ I h) fun c s1 ⟨H1,I1,q1⟩=> ?_);cases c with
 | true=>exact⟨H1,I1,q1⟩
 | false=>exact hb wh pins s1 σ H1 Q I1 q1
def gi(ha:PT X a tA):PT X (.UnaryOp .Not a pos) (Mp tA):=by
 intro pins s σ H Q I h;exact isTrue_not (ha pins s σ H (fun c H1=>Q (!c) H1) I h)
def Ky(ta tb:TE):TE:=fun σ H Q=>ta σ H fun x H1=>onB x fun c=>if c=true then tb σ H1 Q else Q (.bl false) H1
def Ku(ta:TE):TE:=fun σ H Q=>ta σ H fun x H1=>onB x fun c=>Q (.bl (!c)) H1
def iw(h:PE X a t):PE X (.BoolOp op [a] pos) t:=fun pins s σ H Q I hw=>BoolOp_one (h pins s σ H Q I hw)
def fX{rest:List Expr}(ha:PE X a ta)(hb:PE X (.BoolOp .And (b::rest) pos) tb):PE X (.BoolOp .And (a::b::rest) pos) (Ky ta tb):=by
 intro pins s σ H Q I h;refine BoolOp_and (cZ (ha pins s σ H _ I h) fun v s1 ⟨x,H1,I1,r1,q1⟩=> ?_);obtain⟨c,rfl,q1⟩:=onB.ex q1;cases r1;refine cW ?_;cases c with
 | true=>exact hb pins s1 σ H1 Q I1 q1
 | false=>exact⟨.bl false,H1,I1,rfl,q1⟩
def IS(ha:PE X a ta):PE X (.UnaryOp .Not a pos) (Ku ta):=by
 intro pins s σ H Q I h;refine UnaryOp_ (cZ (ha pins s σ H _ I h) fun v s1 ⟨x,H1,I1,r1,q1⟩=> ?_);obtain⟨c,rfl,q1⟩:=onB.ex q1;cases r1;exact not_of (cW ⟨.bl (!c),H1,I1,rfl,q1⟩)
def N2(t:TT)(ta tb:TE):TE:=fun σ H Q=>t σ H fun c H1=>if c=true then ta σ H1 Q else tb σ H1 Q
def xr(hc:PT X c tA)(ha:PE X a ta)(hb:PE X b tb):PE X (.IfExp c a b pos) (N2 tA ta tb):=by
 intro pins s σ H Q I h;refine wpAny_IfExp (cZ (hc pins s σ H _ I h) fun d s1 ⟨H1,I1,q1⟩=> ?_);cases d with
 | true=>exact ha pins s1 σ H1 Q I1 q1
 | false=>exact hb pins s1 σ H1 Q I1 q1
end
def SqL(K:Frag)(H:Hp)(a:Addr)(xs:List V):Prop:=Rd H a (.lst xs)\/∃o its n,K.lookup a=some o/\o.cls= .type "list"/\o.dict=none/\o.data= .seq its n/\its.size<=sizeLine/\Vals xs its.toList
def SqT(K:Frag)(H:Hp)(a:Addr)(xs:List V):Prop:=Rd H a (.tup xs)\/∃o its n,K.lookup a=some o/\o.cls= .type "tuple"/\o.data= .seq its n/\its.size<=sizeLine/\Vals xs its.toList
noncomputable def Na:Value->Option V
 | .none=>some .non
 | .bool b=>some (.bl b)
 | .int i _=>some (.int i)
 | .str x _=>some (.str x)
 | .bytes b _=>some (.byt b)
 | .float b _=>some (.flt b)
 | .ref a=>some (.ref a)
 | .type n=>some (.ty n)
 | _=>none
def RelV.abs(r:RelV x u):Na u=some x:=by
 cases x with
 | non=>cases r;rfl
 | bl _=>cases r;rfl
 | int _=>obtain⟨t,rfl⟩:=r;rfl
 | str _=>obtain⟨t,rfl⟩:=r;rfl
 | byt _=>obtain⟨t,rfl⟩:=r;rfl
 | flt _=>obtain⟨t,rfl⟩:=r;rfl
 | ref _=>cases r;rfl
 | ty _=>cases r;rfl
def RelV.inj(r:RelV x u)(q:RelV y u):x=y:=dJ (r.abs.symm.trans q.abs)
theorem Vals.inj:∀{xs ys:List V} {us:List Value},Vals xs us->Vals ys us->xs=ys
 | _,_,_,.nil,.nil=>rfl
 | _,_,_,.cons r t,.cons r' t'=>by rw[r.inj r',Vals.inj t t']
section
def SqL.of{K:Frag}(h:H a=some (.lst xs)):SqL K H a xs:= .inl (.inl h)
def SqT.of{K:Frag}(h:H a=some (.tup xs)):SqT K H a xs:= .inl (.inl h)
def Inv.list{σ:St}(I:Inv X pins σ H s)(h:SqL X.K H a xs):∃its:List Value,Vals xs its/\PlainL s.heap a its.toArray/\xs.length<=sizeLine:=by
 rcases h with h | ⟨o,its,n,hk,hc,hd,hs,hz,r⟩
 · obtain⟨z,its,n,r,e⟩:=h.ok I.hok;exact⟨its,r,⟨_,n,e,rfl,rfl,rfl⟩,z⟩
 · refine⟨its.toList,r,⟨o,n,I.kIn a o hk,hc,hd,by simpa using hs⟩,?_⟩;have e:=r.length;simp only[gQ] at e
   lia
def Inv.tuple{σ:St}(I:Inv X pins σ H s)(h:SqT X.K H a xs):∃its:List Value,Vals xs its/\IsTup s.heap a its.toArray/\xs.length<=sizeLine:=by
 rcases h with h | ⟨o,its,n,hk,hc,hs,hz,r⟩
 · obtain⟨z,its,r,p⟩:=h.ok I.hok;exact⟨its,r,p,z⟩
 · refine⟨its.toList,r,⟨o,I.kIn a o hk,hc,n,by simpa using hs⟩,?_⟩;have e:=r.length;simp only[gQ] at e
   lia
def Inv.list_inj{σ:St}(I:Inv X pins σ H s)(h:SqL X.K H a xs)(h':SqL X.K H a ys):xs=ys:=by
 obtain⟨its,r,⟨o,n,e,_,_,d⟩,_⟩:=I.list h;obtain⟨its',r',⟨o',n',e',_,_,d'⟩,_⟩:=I.list h';rw[e] at e';cases e';rw[d] at d'
 injection d' with d1 _
 have:its=its':=by simpa using congrArg Array.toList d1
 subst this;exact r.inj r'
def Inv.tuple_inj{σ:St}(I:Inv X pins σ H s)(h:SqT X.K H a xs)(h':SqT X.K H a ys):xs=ys:=by
 obtain⟨its,r,⟨o,e,_,n,d⟩,_⟩:=I.tuple h;obtain⟨its',r',⟨o',e',_,n',d'⟩,_⟩:=I.tuple h';rw[e] at e';cases e';rw[d] at d'
 injection d' with d1 _
 have:its=its':=by simpa using congrArg Array.toList d1
 subst this;exact r.inj r'
end
noncomputable abbrev Cx.wish(X:Cx)(E:Value->Shared->Prop):Cx:={X with xe:=E}
noncomputable abbrev Cx.nox(X:Cx):Cx:=X.wish fun _ _=>False
def Cx.Ok.wish{X:Cx}(ok:X.Ok)(E:Value->Shared->Prop):(X.wish E).Ok:=⟨ok.mod,ok.kind,ok.glob,ok.blt,ok.above,ok.inj,ok.has,ok.cab,ok.hd,ok.frames,ok.stk,ok.exf,ok.bs,ok.bsz,ok.noex,ok.exfs,ok.funs,ok.frf⟩
def Cx.Ok.unwish{X:Cx}(ok:(X.wish E).Ok):X.Ok:=⟨ok.mod,ok.kind,ok.glob,ok.blt,ok.above,ok.inj,ok.has,ok.cab,ok.hd,ok.frames,ok.stk,ok.exf,ok.bs,ok.bsz,ok.noex,ok.exfs,ok.funs,ok.frf⟩
section
def Inv.wish{σ:St}(I:Inv X pins σ H s)(E:Value->Shared->Prop):Inv (X.wish E) pins σ H s:=⟨I.ok.wish E,I.os,I.bare,I.base,I.loc,I.cell,I.free,I.freeC,I.pin,I.hok,I.len⟩
def Inv.unwish{σ:St}(I:Inv (X.wish E) pins σ H s):Inv X pins σ H s:=⟨I.ok.unwish,I.os,I.bare,I.base,I.loc,I.cell,I.free,I.freeC,I.pin,I.hok,I.len⟩
def SP.unwish(h:SP (X.wish E) pins D f s'):SP X pins D f s':=by
 cases f with
 | next=>obtain⟨σ',H',I,q⟩:=h;exact⟨σ',H',I.unwish,q⟩
 | brk=>obtain⟨σ',H',I,q⟩:=h;exact⟨σ',H',I.unwish,q⟩
 | cont=>obtain⟨σ',H',I,q⟩:=h;exact⟨σ',H',I.unwish,q⟩
 | ret u=>obtain⟨v,σ',H',I,r,q⟩:=h;exact⟨v,σ',H',I.unwish,r,q⟩
def PSs.nox{st:List Stmt}(h:PSs X.nox st t):PSs X st t:=fun pins s σ H D I hw=>
 cJ (h pins s σ H D (I.wish _) hw) (fun _ _ q=>q.unwish) fun _ _ z=>False.elim z
end
section
def Kv:TS:=fun D σ H=>D.nx σ H
def BF(t u:TS):TS:=fun D σ H=>t {D with nx:=u D} σ H
def be:PSs X [] Kv:=fun _ _ σ H _ I h=>pY ⟨σ,H,I,h⟩
def fB{X:Cx}{st:Stmt}{rest:List Stmt}{t u:TS}(h1:PS X st t)(h2:PSs X rest u):PSs X (st::rest) (BF t u):=by
 intro pins s σ H D I h;refine BC (cZ (h1 pins s σ H {D with nx:=u D} I h) fun f s1 q=> ?_);cases f with
 | next=>
   obtain⟨σ',H',I',q⟩:=q;exact h2 pins s1 σ' H' D I' q
 | ret v=>exact q
 | brk=>exact q
 | cont=>exact q
def fS{X:Cx}{st:Stmt}{t:TS}(h1:PS X st t):PSs X [st] t:=by
 intro pins s σ H D I h;refine BC (cZ (h1 pins s σ H D I h) fun f s1 q=> ?_);cases f with
 | next=>exact pY q
 | ret v=>exact q
 | brk=>exact q
 | cont=>exact q
def Iw:TS:=fun D σ H=>D.bk σ H
def Ds:PS X (.Break pos) Iw:=fun _ _ σ H _ I h=>wpAny_Break ⟨σ,H,I,h⟩
def Inv.quiet{σ:St}(I:Inv X pins σ H s):interactive X.env=false:=by simp[interactive,I.ok.kind]
def Hq(te:TE):TS:=fun D σ H=>te σ H fun _ H1=>D.nx σ H1
def bC{X:Cx}{e:Expr}{te:TE}{pos:Pos}(he:PE X e te)(hs:swapsWith e none pos.line X.env=pure false:=by rfl):PS X (.Expr e pos) (Hq te):=by
 intro pins s σ H D I h;exact wpAny_Expr_any (cZ (he pins s σ H _ I h) fun v s1 ⟨x,H1,I1,r1,q1⟩=>⟨σ,H1,I1,q1⟩) I.quiet hs
def Mm(te:TE):TS:=fun D σ H=>te σ H D.rt
def gB{X:Cx}{e:Expr}{te:TE}{pos:Pos}(he:PE X e te):PS X (.Return (some e) pos) (Mm te):=by
 intro pins s σ H D I h;exact wpAny_Return_some (cZ (he pins s σ H _ I h) fun v s1 ⟨x,H1,I1,r1,q1⟩=>⟨x,σ,H1,I1,r1,q1⟩)
def Ks:TS:=fun D _ H=>D.rt .non H
def kL:PS X (.Return none pos) Ks:=fun _ _ σ H _ I h=>wpAny_Return_none ⟨.non,σ,H,I,rfl,h⟩
def Mt(c:TT)(t u:TS):TS:=fun D σ H=>c σ H fun b H1=>if b=true then t D σ H1 else u D σ H1
def bL(hc:PT X c tc)(ha:PSs X a t)(hb:PSs X b u):PS X (.If c a b pos) (Mt tc t u):=by
 intro pins s σ H D I h;refine wpAny_If (cZ (hc pins s σ H _ I h) fun d s1 ⟨H1,I1,q1⟩=> ?_);cases d with
 | true=>exact ha pins s1 σ H1 D I1 q1
 | false=>exact hb pins s1 σ H1 D I1 q1
end
abbrev TG:=V->St->Hp->(St->Hp->Prop)->Prop
abbrev J3:=List V->St->Hp->(St->Hp->Prop)->Prop
def PG(X:Cx)(target:Expr)(t:TG):Prop:=∀(pins:List (Addr × Obj)) (s:Shared) (σ:St) (H:Hp) (v:V) (u:Value) (Q:St->Hp->Prop),Inv X pins σ H s->RelV v u->t v σ H Q->wpAny (model X.prog X.w) X.A (assign target X.env u) (fun _ s'=>∃σ' H',Inv X pins σ' H' s'/\Q σ' H') X.xe s
def L6(X:Cx)(ts:List Expr)(t:J3):Prop:=∀(pins:List (Addr × Obj)) (s:Shared) (σ:St) (H:Hp) (vs:List V) (us:List Value) (Q:St->Hp->Prop),Inv X pins σ H s->Vals vs us->t vs σ H Q->wpAny (model X.prog X.w) X.A (assignInOrder ((assignEach ts X.env).map (·.2)) us) (fun _ s'=>∃σ' H',Inv X pins σ' H' s'/\Q σ' H') X.xe s
abbrev J2:=V->V->V->Hp->(Hp->Prop)->Prop
def LC(X:Cx)(t:J2):Prop:=∀(pins:List (Addr × Obj)) (s:Shared) (σ:St) (H:Hp) (o i v:V) (ov iv u:Value) (Q:Hp->Prop),Inv X pins σ H s->RelV o ov->RelV i iv->RelV v u->t o i v H Q->wpAny (model X.prog X.w) X.A (setItem ov iv u) (fun _ s'=>∃H',Inv X pins σ H' s'/\Q H') X.xe s
abbrev L4:=V->V->Hp->VK->Prop
def Nf(X:Cx)(op:Operator)(t:L4):Prop:=∀(pins:List (Addr × Obj)) (s:Shared) (σ:St) (H:Hp) (x y:V) (v u:Value) (Q:VK),Inv X pins σ H s->RelV x v->RelV y u->t x y H Q->wpAny (model X.prog X.w) X.A (inplaceOp op v u) (EP X pins σ Q) X.xe s
section
def gW(i:Nat):TG:=fun v σ H Q=>Q (σ.set i (some v)) H
def qk{X:Cx}{pos:Pos}{i:Nat}{x:Str}(hN:X.N.Nodup)(hi:X.N[i]? =some x)(hx:J6 X.env.scope x)(hf:X.fn x=true\/X.env.scope.names.lookup x=some .local:=by first | exact .inl rfl | exact .inr rfl | assumption):PG X (.Name x pos) (gW i):=by
 intro pins s σ H v u Q I r h;exact Ow (jU I hN hi hx r (fun s' I'=>⟨_,H,I',h⟩) hf)
def GP:J3:=fun vs σ H Q=>match vs with | []=>Q σ H | _=>False
def pJ(t:TG)(u:J3):J3:=fun vs σ H Q=>match vs with | v::r=>t v σ H (fun σ' H'=>u r σ' H' Q) | []=>False
def dX:L6 X [] GP:=by
 intro pins s σ H vs us Q I r h;cases r with
 | cons=>exact False.elim h
 | nil=>exact OB ⟨σ,H,I,h⟩
def bG{X:Cx}{e:Expr}{es:List Expr}{t:TG}{u:J3}(h1:PG X e t)(h2:L6 X es u)(hs:(assignEach (e::es) X.env).map (·.2)=assign e X.env::(assignEach es X.env).map (·.2):=by rfl):L6 X (e::es) (pJ t u):=by
 intro pins s σ H vs us Q I r h;cases r with
 | nil=>exact False.elim h
 | cons r rr=>
   rw[hs];refine yi (cZ (h1 pins s σ H _ _ _ I r h) fun _ s1 ⟨σ1,H1,I1,q1⟩=> ?_);exact h2 pins s1 σ1 H1 _ _ Q I1 rr q1
def Lk(K:Frag)(n:Nat)(t:J3):TG:=fun v σ H Q=>onR v fun a=>∃xs,SqT K H a xs/\xs.length=n/\t xs σ H Q
def eY{X:Cx}{pos:Pos}{es:List Expr}{k:Nat}{t:J3}{n:Nat}(hc:X.calm=true)(h:L6 X es t)(hn:(assignEach es X.env).length=n:=by rfl)(hst:(assignEach es X.env).findIdx? (·.1)=none:=by rfl):PG X (.Tuple es k pos) (Lk X.K n t):=by
 intro pins s σ H v u Q I r hw;obtain⟨a,e1,xs,hq,hl,hw'⟩:=onR.ex hw;subst e1;cases r;obtain⟨its,rv,ht,hz⟩:=I.tuple hq;refine assign_Tuple_tuple (I.ok.hd hc) ht (by simp[hn,<-hl,rv.length]) hst fun h' hx=> ?_;have I1:Inv X pins σ H {s with heap:=h'}:=I.kept (t':=s.toks) fun b o e=>hx b o (bI (aN e)) e;exact h pins _ σ H xs _ Q I1 (by simpa using rv) hw'
def M7(to ti:TE)(t:J2):TG:=fun v σ H Q=>to σ H fun o H1=>ti σ H1 fun i H2=>t o i v H2 fun H3=>Q σ H3
def oB{X:Cx}{pos:Pos}{o i:Expr}{to ti:TE}{t:J2}(ho:PE X o to)(hi:PE X i ti)(hs:LC X t)(ha:∀v,assign (.Subscript o i pos) X.env v=(do
 let ov<-holding [v] (eval o X.env)
 let iv<-holding [v,ov] (eval i X.env)
 standAt pos
 holding [v,ov,iv] (setItem ov iv v)
 release [v,ov,iv] []):=by intro _;rfl):PG X (.Subscript o i pos) (M7 to ti t):=by
 intro pins s σ H v u Q I r h;rw[ha];refine aa (dW (cZ (ho pins s σ H _ I h) fun ov s1 ⟨x,H1,I1,r1,q1⟩=> ?_));refine aa (dW (cZ (hi pins s1 σ H1 _ I1 q1) fun iv s2 ⟨y,H2,I2,r2,q2⟩=> ?_));refine aa (fk (aa (dW (cZ (hs pins s2 σ H2 x y v ov iv u _ I2 r1 r2 r q2) fun _ s3 ⟨H3,I3,q3⟩=> ?_))));exact wpAny_release ⟨σ,H3,I3,q3⟩
def FG(te:TE)(g:TG):TS:=fun D σ H=>te σ H fun x H1=>g x σ H1 D.nx
def iP{X:Cx}{pos:Pos}{tg e:Expr}{te:TE}{g:TG}(he:PE X e te)(hg:PG X tg g)(hs:swapsWithSole [tg] e pos.line X.env=pure false:=by rfl)(hw:swappedStores [tg] e X.env=pure none:=by rfl)(h1:(assignEach [tg] X.env).map (·.2)=[assign tg X.env]:=by rfl):PS X (.Assign [tg] e pos) (FG te g):=by
 intro pins s σ H D I h;refine wpAny_Assign_stores (cZ (he pins s σ H _ I h) fun v s1 ⟨x,H1,I1,r1,q1⟩=> ?_) hs hw;rw[h1];exact cZ (hg pins s1 σ H1 x v _ I1 r1 q1) fun _ s2 q=>q
def Dr{X:Cx}{pos:Pos}{i:Nat}{x:Str}{e:Expr}{te:TE}{pos':Pos}(hN:X.N.Nodup)(hi:X.N[i]? =some x)(hx:J6 X.env.scope x)(he:PE X e te)(hs:swapsWith e (some (.Name x pos')) pos.line X.env=pure false:=by rfl)(hf:X.fn x=true\/X.env.scope.names.lookup x=some .local:=by first | exact .inl rfl | exact .inr rfl | assumption):PS X (.Assign [.Name x pos'] e pos) (FG te (gW i)):=by
 intro pins s σ H D I h;refine wpAny_Assign_Name (cZ (he pins s σ H _ I h) fun v s1 ⟨y,H1,I1,r1,q1⟩=> ?_) hs;exact jU I1 hN hi hx r1 (fun s2 I2=>⟨_,H1,I2,q1⟩) hf
def Mn(i j:Nat)(ta:TA):TS:=fun D σ H=>ta σ H fun vs H1=>∃v w,vs=[v,w]/\D.nx ((σ.set i (some v)).set j (some w)) H1
def IL{X:Cx}{pos:Pos}{i j:Nat}{x y:Str}{a b:Expr}{ta:TA}{px py pt:Pos}{kt k2 pt2}(hc:X.calm=true)(hN:X.N.Nodup)(hi:X.N[i]? =some x)(hj:X.N[j]? =some y)(hij:i≠j)(hx:X.env.scope.names.lookup x=some .local)(hy:X.env.scope.names.lookup y=some .local)(ha:PA X [a,b] ta)(hw:swappedStores [.Tuple [.Name x px,.Name y py] kt pt] (.Tuple [a,b] k2 pt2) X.env=pure (some [x,y]))(hs:swapsWithSole [.Tuple [.Name x px,.Name y py] kt pt] (.Tuple [a,b] k2 pt2) pos.line X.env=pure false:=by rfl):PS X (.Assign [.Tuple [.Name x px,.Name y py] kt pt] (.Tuple [a,b] k2 pt2) pos) (Mn i j ta):=by
 intro pins s σ H D I h;rw[exec_Assign_arm];refine aa (fk ?_);rw[hs];refine aa (aK ?_);rw[aA (by decide)];refine aa (Tuple_ (cZ (ha _ pins s σ H _ I h) fun us s1 ⟨vs,H1,I1,r1,q1⟩=> ?_));obtain⟨v,w,e1,q1⟩:=q1;subst e1;obtain⟨u1,u2,rfl,rv,rw'⟩:∃u1 u2,us=[u1,u2]/\RelV v u1/\RelV w u2:=by
  cases r1 with
  | cons p q=>
    cases q with
    | cons p' q'=>
      cases q';exact⟨_,_,rfl,p,p'⟩
 refine dC ?_ (by show 2<=sizeLine;decide);have I2:Inv X pins σ H1 {s1 with heap:=s1.heap.push {cls:= .type "tuple",data:= .seq [u1,u2].toArray}}:=I1.kept (t':=s1.toks) fun b o e=>aC _ e;rw[hw];refine aa (aK ?_);show wpAny (model X.prog X.w) X.A (do rule "assign.swapped-stores";let items<-unpackItems (.ref s1.heap.objs.size) 2 none;assignInOrder [fun v=>bindName X.env y v,fun v=>bindName X.env x v] items.reverse;pure Flow.next) _ _ _;refine aa (iX (aa (unpackItems_tuple (items:= #[u1,u2]) (I.ok.hd hc) (IsTup.new s1.heap _) fun h' hx'=> ?_)));have I3:=I2.kept (h':=h') (t':=s1.toks) fun b o e=>hx' b o (bI (aN e)) e;show wpAny _ _ (assignInOrder [fun v=>bindName X.env y v,fun v=>bindName X.env x v] [u2,u1]>>=fun _=>pure Flow.next) _ _ _;refine aa (yi (wpAny_bindName (jU I3 hN hj (.inl hy) rw' (fun s2 I4=> ?_) (.inr hy))));refine yi (wpAny_bindName (jU I4 hN hi (.inl hx) rv (fun s3 I5=>OB (aK ?_)) (.inr hx)));rw[List.set_comm _ _ (br hij)] at I5;exact⟨_,H1,I5,q1⟩
def Mv(i:Nat)(te:TE)(ti:L4):TS:=fun D σ H=>∃x,σ[i]? =some (some x)/\te σ H fun y H1=>ti x y H1 fun z H2=>D.nx (σ.set i (some z)) H2
def Dt{X:Cx}{pos:Pos}{i:Nat}{x:Str}{e:Expr}{te:TE}{op:Operator}{ti:L4}{pos':Pos}(hN:X.N.Nodup)(hi:X.N[i]? =some x)(hx:J6 X.env.scope x)(he:PE X e te)(ho:Nf X op ti)(hf:X.fn x=true\/X.env.scope.names.lookup x=some .local:=by first | exact .inl rfl | exact .inr rfl | assumption):PS X (.AugAssign (.Name x pos') op e pos) (Mv i te ti):=by
 intro pins s σ H D I h;obtain⟨v,e1,h⟩:=h;obtain⟨m,hn,hl⟩:=I.loc;have vis:L1 X.env.scope x:=by rcases hx with k | k;exact .inl k;exact .inr (.inl k)
 obtain⟨u,r,l⟩:=hl i x v hi e1 vis;refine wpAny_AugAssign_Name ?_;have go:wpAny (model X.prog X.w) X.A (eval e X.env) (fun w s₂=>wpAny (model X.prog X.w) X.A (inplaceOp op u w) (fun r s₃=>wpAny (model X.prog X.w) X.A (storeName X.env x r) (fun _=>SP X pins D .next) X.xe s₃) X.xe s₂) X.xe s:=by
  refine cZ (he pins s σ H _ I h) fun w s1 ⟨y,H1,I1,r1,q1⟩=> ?_;refine cZ (ho pins s1 σ H1 v y u w _ I1 r r1 q1) fun z s2 ⟨zv,H2,I2,r2,q2⟩=> ?_;exact jU I2 hN hi hx r2 (fun s3 I3=>⟨_,H2,I3,q2⟩) hf
 rcases l with⟨hk,hm⟩ | ⟨hk,c,hc,hcell⟩
 · exact Me I.ok.kind hk hn hm go
 · rcases hk with hk | hk
   · exact Nu I.ok.kind hk hc hcell go
   · rcases hx with k | k
     · have:X.env.scope.names.lookup x=some .free:=hk;rw[k] at this;cases this
     · have:X.env.scope.names.lookup x=some .free:=hk;rw[k] at this;cases this
def NK(f:Int->Int->Int):L4:=fun x y H Q=>∃i j,x= .int i/\y= .int j/\Q (.int (f i j)) H
def JH:Nf X .Add (NK fun i j=>i+j):=by
 intro pins s σ H x y v u Q I r1 r2 h;obtain⟨i,j,e1,e2,q⟩:=h;subst e1;subst e2;obtain⟨t,rfl⟩:=r1;obtain⟨t',rfl⟩:=r2;exact iadd_int ⟨.int _,H,I.tok _,⟨_,rfl⟩,q⟩
end
section
def uJ(c:TT)(tb:TS):TS:=fun D σ H=>∃W:Nat->St->Hp->Prop,(∃m,W m σ H)/\∀m σ H,W m σ H->c σ H fun b H1=>if b=true then ∃N:St->Hp->Prop,(∀σ' H',N σ' H'->∃m',m'<m/\W m' σ' H')/\tb {D with nx:=N,ct:=N,bk:=D.nx} σ H1 else D.nx σ H1
def xn(hp:PassesOwn (model X.prog X.w) X.A X.env X.xe)(hc:PT X c tc)(hb:PSs X body tb):PS X (.While c body [] pos) (uJ tc tb):=by
 intro pins s σ H D I h;obtain⟨W,⟨m0,w0⟩,turn⟩:=h;refine wpAny_While (codeAny_whileLoop (fun n s'=>∃σ' H',Inv X pins σ' H' s'/\W n σ' H') ?_ m0 ⟨σ,H,I,w0⟩);rintro n s1 ⟨σ1,H1,I1,w1⟩;refine fU hp (cZ (hc pins s1 σ1 H1 _ I1 (turn n σ1 H1 w1)) fun b s2 ⟨H2,I2,q2⟩=> ?_);cases b with
 | true=>
   obtain⟨N,hN,q2⟩:=q2;rw[aE rfl];refine fU hp (cZ (hb pins s2 σ1 H2 _ I2 q2) fun f s3 q3=> ?_);cases f with
   | next=>
     obtain⟨σ3,H3,I3,n3⟩:=q3;obtain⟨m',hm,w3⟩:=hN σ3 H3 n3;exact⟨m',hm,σ3,H3,I3,w3⟩
   | cont=>
     obtain⟨σ3,H3,I3,n3⟩:=q3;obtain⟨m',hm,w3⟩:=hN σ3 H3 n3;exact⟨m',hm,σ3,H3,I3,w3⟩
   | brk=>exact q3
   | ret v=>exact q3
 | false=>
   rw[aA aO];exact pY ⟨σ1,H2,I2,q2⟩
end
structure It where
 go:Nat->Hp->Prop
 yld:Nat->Hp->V->Hp->Prop
 stop:Nat->Hp->Prop
def lF(X:Cx)(pins:List (Addr × Obj))(H:Hp)(b:Addr):Prop:=H b=none/\b≠X.env.locals/\b∉X.fs/\(b∈X.ex\/X.s₀.heap.objs.size<=b)/\(∀x c,X.env.cells.lookup x=some c->c≠b)/\∀p∈X.pn++pins,p.1≠b
def Inv.fpOk{σ:St}{b:Addr}(I:Inv X pins σ H s)(hb:s.heap.objs.size<=b)(hn:H' b=none):lF X pins H' b:=by
 refine⟨hn,iE (ax I.lt hb),I.nofs hb,.inr (ai I.sz hb),fun x c e z=> ?_,fun p hp z=> ?_⟩
 · obtain⟨v,q⟩:=I.cell x c e;exact absurd (ax q.lt (by rw[z];exact hb)) (gg _)
 · exact absurd (ax (aN (I.pin p hp).1) (by rw[z];exact hb)) (gg _)
structure yl(P:Program)(w:World)(K:Frag)(tg:Expr)(J:It)(fp:List Addr)(it:Addr)(tn:Nat->Heap->Prop):Prop where
 mem:it∈fp
 obj:∀i h,tn i h->∀b∈fp,∃o,h.get? b=some o/\∀v,o.data≠ .cell v
 keep:∀i h h',tn i h->(∀b∈fp,∀o,h.get? b=some o->h'.get? b=some o)->tn i h'
 item:∀(X:Cx),X.prog=P->X.w=w->X.K=K->X.calm=true->∀(i:Nat) (pins:List (Addr × Obj)) (s:Shared) (σ:St) (H:Hp) (E:Value->Shared->Prop),Inv X pins σ H s->(∀b∈fp,lF X pins H b)->tn i s.heap->J.go i H->wpAny (model P w) X.A (pyNext (.ref it)) (fun r s1=>∃u,r=some u/\wpAny (model P w) X.A (letOwnedTupleGo tg (.ref it) u) (fun _ s2=>∃x H',Inv X pins σ H' s2/\RelV x u/\J.yld i H x H'/\tn (i+1) s2.heap/\∀b∈fp,H' b=none) E s1) E s
 done:∀(X:Cx),X.prog=P->X.w=w->X.K=K->X.calm=true->∀(i:Nat) (pins:List (Addr × Obj)) (s:Shared) (σ:St) (H:Hp) (E:Value->Shared->Prop),Inv X pins σ H s->(∀b∈fp,lF X pins H b)->tn i s.heap->J.stop i H->wpAny (model P w) X.A (pyNext (.ref it)) (fun r s1=>r=none/\Inv X pins σ H s1) E s
 self:∀(A:Around) (i:Nat) (s:Shared) (Q:Value->Shared->Prop) (E:Value->Shared->Prop),tn i s.heap->Q (.ref it) s->wpAny (model P w) A (pyIter (.ref it)) Q E s
abbrev TI:=St->Hp->(It->Hp->Prop)->Prop
def Ng(X:Cx)(pins:List (Addr × Obj))(σ:St)(tg:Expr)(R:It->Hp->Prop)(itv:Value)(s2:Shared):Prop:=∃it fp tn J H',itv= .ref it/\Inv X pins σ H' s2/\yl X.prog X.w X.K tg J fp it tn/\tn 0 s2.heap/\(∀b∈fp,lF X pins H' b)/\R J H'
def PI(X:Cx)(tg iter:Expr)(wi:TI):Prop:=∀(pins:List (Addr × Obj)) (s:Shared) (σ:St) (H:Hp) (R:It->Hp->Prop),Inv X pins σ H s->wi σ H R->wpAny (model X.prog X.w) X.A (eval iter X.env) (fun v s1=>wpAny (model X.prog X.w) X.A (pyIter v) (Ng X pins σ tg R) X.xe s1) X.xe s
def EJ(ho:s.heap.get? it=some o)(hc:o.cls= .type n)(hd:o.data= .fields vs)(hn:["enumerate","zip","dict_itemiterator","dict_reverseitemiterator","odict_iterator","itertools.zip_longest","itertools.pairwise"].contains n=false)(hQ:Q () s):wpAny M A (letOwnedTupleGo tg (.ref it) u) Q E s:=by
 unfold letOwnedTupleGo;cases tg<;>first
  | exact aK hQ
  | (cases u<;>first
   | exact aK hQ
   | (refine aa (wpAny_load ho ?_)
      rw[hc,hd];show wpAny M A (if(["enumerate","zip","dict_itemiterator","dict_reverseitemiterator","odict_iterator","itertools.zip_longest","itertools.pairwise"].contains n&&vs[0]? ==some (rawInt _))=true then _ else _) Q E s;rw[aA (by intro h;rw[hn,s_] at h;cases h)];exact aK hQ))
noncomputable def J8(K:Frag)(a:Addr):It:=⟨fun i H=>∃xs x,SqL K H a xs/\xs[i]? =some x,fun i H x H'=>H'=H/\∀xs,SqL K H a xs->xs[i]? =some x,fun i H=>∃xs,SqL K H a xs/\xs.length<=i⟩
noncomputable def J7(lo:Int)(n:Nat):It:=⟨fun i _=>i<n,fun i H x H'=>H'=H/\x= .int (lo+i),fun i _=>n<=i⟩
def BE{K:Frag}(a it:Addr):yl P w K tg (J8 K a) [it] it (fun i h=>h.IsListIter it a i) where
 mem:=by simp
 obj:=fun i h st b hb=>by
  have e:b=it:=by simpa using hb
  subst e;obtain⟨o,e,c,d⟩:=st;exact⟨o,e,fun v z=>by rw[d] at z;cases z⟩
 keep:=fun i h h' st k=>st.at fun o e=>k it (by simp) o e
 item:=by
  intro X hP hw hK hc i pins s σ H E I hf st hg;subst hP hw hK;obtain⟨xs,x,hq,hx⟩:=hg;obtain⟨its,rv,p,hz⟩:=I.list hq;obtain⟨u,hu,ru⟩:=rv.get hx;obtain⟨f0,f1,f2,f3,f4,f5⟩:=hf it (by simp);refine wpAny_pyNext_list_item st p.isList (x:=u) (by simpa using hu) fun h' st' sb=> ?_;have I1:Inv X pins σ H {s with heap:=h'}:=I.turned (t':=s.toks) (fun b o hb e=>(sb.2 b hb).trans e) f0 f1 f3 f4 f5;obtain⟨o,e,c,d⟩:=id st';exact⟨u,rfl,EJ (s:={s with heap:=h'}) e c d (by decide) ⟨x,H,I1,ru,⟨rfl,fun ys hy=>by rw[I.list_inj hy hq];exact hx⟩,st',fun b hb=>(hf b hb).1⟩⟩
 done:=by
  intro X hP hw hK hc i pins s σ H E I hf st hg;subst hP hw hK;obtain⟨xs,hq,hx⟩:=hg;obtain⟨its,rv,p,hz⟩:=I.list hq;obtain⟨f0,f1,f2,f3,f4,f5⟩:=hf it (by simp);have hl:=rv.length;exact wpAny_pyNext_list_end (I.ok.hd hc) st p.isList (by simp;lia) fun h' eb=>⟨rfl,I.turned (t':=s.toks) (fun b o hb e=>eb b o hb e) f0 f1 f3 f4 f5⟩
 self:=fun _ _ _ _ _ st h=>wpAny_pyIter_listiter st h
def yu{K:Frag}(it:Addr)(lo:Int)(n:Nat):yl P w K tg (J7 lo n) [it] it (fun i h=>IsRangeIter h it (lo+(i:Nat) * 1) ((n:Int) - (i:Nat)) 1) where
 mem:=by simp
 obj:=fun i h st b hb=>by
  have e:b=it:=by simpa using hb
  subst e;exact⟨_,st,fun v z=>by
   have z':Data.fields _=Data.cell v:=z;cases z'⟩
 keep:=fun i h h' st k=>k it (by simp) _ st
 item:=by
  intro X hP hw hK hc i pins s σ H E I hf st hg;subst hP hw hK;obtain⟨f0,f1,f2,f3,f4,f5⟩:=hf it (by simp);have W:=Walks.range (prog:=X.prog) (w:=X.w) (I.ok.hd hc) it lo 1 n;refine W.item i s _ _ hg st fun v h' tk hv st' kk=> ?_;obtain⟨t,rfl⟩:=hv;have I1:Inv X pins σ H {s with heap:=h',toks:=tk}:=I.turned (fun b o hb e=>kk b o (by simpa using hb) e) f0 f1 f3 f4 f5;refine⟨_,rfl,EJ (s:={s with heap:=h',toks:=tk}) (n:="range_iterator") st' rfl rfl (by decide) ⟨.int (lo+i),H,I1,⟨t,?_⟩,⟨rfl,rfl⟩,st',fun b hb=>(hf b hb).1⟩⟩;rw[Int.mul_one]
 done:=by
  intro X hP hw hK hc i pins s σ H E I hf st hg;subst hP hw hK;obtain⟨f0,f1,f2,f3,f4,f5⟩:=hf it (by simp);exact wpAny_pyNext_range_end (I.ok.hd hc) st (by have:n<=i:=hg;lia) fun h' eb=>⟨rfl,I.turned (t':=s.toks) (fun b o hb e=>eb b o hb e) f0 f1 f3 f4 f5⟩
 self:=fun _ _ _ _ _ st h=>wpAny_pyIter_rangeiter st h
section
def lQ(K:Frag)(tl:TE):TI:=fun σ H R=>tl σ H fun x H1=>onR x fun a=>(∃xs,SqL K H1 a xs)/\R (J8 K a) H1
def bT(hl:PE X l tl):PI X tg l (lQ X.K tl):=by
 intro pins s σ H R I h;refine cZ (hl pins s σ H _ I h) fun v s1 ⟨x,H1,I1,r1,q1⟩=> ?_;obtain⟨a,e,⟨xs,hq⟩,q⟩:=onR.ex q1;subst e;cases r1;obtain⟨its,rv,p,hz⟩:=I1.list hq;refine yt p.isList ?_;refine⟨s1.heap.objs.size,[s1.heap.objs.size],_,_,H1,rfl,I1.kept (t':=s1.toks) fun b o e=>aC _ e,BE a _,⟨_,a_ _ rfl,rfl,rfl⟩,fun b hb=> ?_,q⟩;have e:b=s1.heap.objs.size:=by simpa using hb
 subst e;exact I1.fpOk (ar _) (I1.hok.fresh (ar _))
def xg{σ:St}{lo:Int}(I:Inv X pins σ H s)(h1: -(2^62)<=lo)(h2:lo<2^62)(h3: -(2^62)<=hi)(h4:hi<2^62)(q:R (J7 lo (hi - lo).toNat) H):wpAny (model X.prog X.w) X.A (pyIter (.ref s.heap.objs.size)) (Ng X pins σ tg R) E {s with heap:=s.heap.push {cls:= .type "range",data:= .fields #[.int lo t,.int hi u,.int 1 v]},toks:=tk}:=by
 refine wpAny_pyIter_range (IsRange.new ..) (small_one h1 h2 h3 h4) ?_;have I1:Inv X pins σ H {s with heap:=s.heap.push {cls:= .type "range",data:= .fields #[.int lo t,.int hi u,.int 1 v]},toks:=tk}:=I.kept fun b o e=>aC _ e;refine⟨(s.heap.push {cls:= .type "range",data:= .fields #[.int lo t,.int hi u,.int 1 v]}).objs.size,[(s.heap.push {cls:= .type "range",data:= .fields #[.int lo t,.int hi u,.int 1 v]}).objs.size],_,_,H,rfl,
  I1.kept (t':=tk) fun b o e=>aC _ e,yu _ lo (hi - lo).toNat,?_,fun b hb=> ?_,q⟩
 · have e1:lo+((0:Nat):Int) * 1=lo:=by simp
   have e2:(((hi - lo).toNat:Nat):Int) - ((0:Nat):Int)=Builtin.Range.rangeSize lo hi 1:=by rw[rangeSize_one];split<;>lia
   show IsRangeIter _ _ (lo+((0:Nat):Int) * 1) ((((hi - lo).toNat:Nat):Int) - ((0:Nat):Int)) 1;rw[e1,e2];exact a_ _ rfl
 · have e:b=(s.heap.push {cls:= .type "range",data:= .fields #[.int lo t,.int hi u,.int 1 v]}).objs.size:=by simpa using hb
   subst e;exact I1.fpOk (ar _) (I1.hok.fresh (ar _))
def Lj(ta:TA):TI:=fun σ H R=>ta σ H fun vs H1=>∃j:Int,vs=[.int j]/\ -(2^62)<=j/\j<2^62/\R (J7 0 j.toNat) H1
def Li(ta:TA):TI:=fun σ H R=>ta σ H fun vs H1=>∃i j:Int,vs=[.int i,.int j]/\(-(2^62)<=i/\i<2^62/\ -(2^62)<=j/\j<2^62)/\R (J7 i (j - i).toNat) H1
def fH{X:Cx}{tg a:Expr}{ta:TA}{p pos:Pos}(hg:Gl X "range")(hm:X.mg "range"=none)(ha:PA X [a] ta)(hs:starEach [a] X.env=[(false,eval a X.env)]:=by rfl):PI X tg (.Call (.Name "range" p) [a] [] pos) (Lj ta):=by
 intro pins s σ H R I h;refine Call_ (kg I hg hm Oj (dA (cZ (ha pos pins s σ H _ I h) fun us s1 ⟨vs,H1,I1,r1,q1⟩=> ?_) hs rfl));obtain⟨j,e,q1,q2,q⟩:=q1;subst e;cases r1 with
 | cons r rr=>
   cases rr;obtain⟨t,rfl⟩:=r;exact call_range_1 (xg I1 (by lia) (by lia) q1 q2 (by simpa using q))
def BS{X:Cx}{tg a b:Expr}{ta:TA}{p pos:Pos}(hg:Gl X "range")(hm:X.mg "range"=none)(ha:PA X [a,b] ta)(hs:starEach [a,b] X.env=[(false,eval a X.env),(false,eval b X.env)]:=by rfl)(hs2:starEach [b] X.env=[(false,eval b X.env)]:=by rfl):PI X tg (.Call (.Name "range" p) [a,b] [] pos) (Li ta):=by
 intro pins s σ H R I h;refine Call_ (kg I hg hm Oj (dA (cZ (ha pos pins s σ H _ I h) fun us s1 ⟨vs,H1,I1,r1,q1⟩=> ?_) (by rw[hs,hs2]) (by rw[hs2];rfl)));obtain⟨i,j,e,⟨q1,q2,q3,q4⟩,q⟩:=q1;subst e;cases r1 with
 | cons r rr=>
   cases rr with
   | cons r' rr=>
     cases rr;obtain⟨t,rfl⟩:=r;obtain⟨t',rfl⟩:=r';exact call_range_2 (xg I1 q1 q2 q3 q4 q)
def Ir(wi:TI)(g:TG)(tb:TS):TS:=fun D σ H=>wi σ H fun J H1=>∃W:Nat->Nat->St->Hp->Prop,(∃m,W 0 m σ H1)/\∀i m σ H,W i m σ H->(J.stop i H/\D.nx σ H)\/(J.go i H/\∃N:St->Hp->Prop,(∀σ' H',N σ' H'->∃m',m'<m/\W (i+1) m' σ' H')/\∀x H',J.yld i H x H'->g x σ H' fun σ2 H2=>tb {D with nx:=N,ct:=N,bk:=D.nx} σ2 H2)
noncomputable def mj(fp:List Addr)(h:Heap):List (Addr × Obj):=fp.filterMap fun b=>(h.get? b).map fun o=>(b,o)
def gC(hb:b∈fp)(e:h.get? b=some o):(b,o)∈mj fp h:=fQ.mpr ⟨b,hb,by rw[e];rfl⟩
def B7(hp:p∈mj fp h):p.1∈fp/\h.get? p.1=some p.2:=by
 obtain⟨b,hb,e⟩:=fQ.mp hp;cases q:h.get? b with
 | none=>rw[q] at e;cases e
 | some o=>
   rw[q] at e;have e':(b,o)=p:=dJ e;subst e';exact⟨hb,q⟩
def Inv.pinned{σ:St}(I:Inv X pins σ H s)(hf:∀b∈fp,lF X pins H b)(ho:∀b∈fp,∃o,s.heap.get? b=some o/\∀v,o.data≠ .cell v):Inv X (pins++mj fp s.heap) σ H s:=I.pins_of fun p hp=>(ay.mp hp).elim (fun z=>I.pin p (aR _ z)) fun z=>by
  obtain⟨hb,e⟩:=B7 z;obtain⟨f0,f1,f2,_⟩:=hf p.1 hb;obtain⟨o,e',d⟩:=ho p.1 hb;rw[e] at e';cases e';exact⟨e,f0,f1,f2,d⟩
def Inv.unpinned{σ:St}(I:Inv X (pins++pl) σ H s):Inv X pins σ H s:=I.pins_of fun p hp=>I.pin p (aR _ (aS _ hp))
def IM{X:Cx}{tg iter:Expr}{body:List Stmt}{wi:TI}{g:TG}{tb:TS}{pos:Pos}(hp:PassesOwn (model X.prog X.w) X.A X.env X.xe)(hc:X.calm=true)(hi:PI X tg iter wi)(hg:PG X tg g)(hb:PSs X body tb)(hs:∀x,foldedSetIterable iter X.env x=pure x:=by intro _;rfl):PS X (.For tg iter body [] pos) (Ir wi g tb):=by
 intro pins s σ H D I h;refine wpAny_For (cZ (hi pins s σ H _ I h) fun v s1 h1=>cZ h1 fun itv s2 h2=> ?_) hs;obtain⟨it,fp,tn,J,H2,e,I2,T,st2,f2,W,⟨m0,w0⟩,turn⟩:=h2;subst e;have stat:∀{H':Hp},(∀b∈fp,H' b=none)->∀b∈fp,lF X pins H' b:=fun hn b hb=>⟨hn b hb,(f2 b hb).2⟩;refine codeAny_forLoop_any (fun n s'=>∃i σ' H',Inv X pins σ' H' s'/\tn i s'.heap/\(∀b∈fp,H' b=none)/\W i n σ' H') ?_ m0 ⟨0,σ,H2,I2,st2,fun b hb=>(f2 b hb).1,w0⟩;rintro n s3 ⟨i,σ3,H3,I3,st3,fr3,w3⟩;rcases turn i n σ3 H3 w3 with⟨stop,qn⟩ | ⟨go,N,hN,step⟩
 · refine fU hp (cZ (T.done X rfl rfl rfl hc i pins s3 σ3 H3 X.xe I3 (stat fr3) st3 stop) fun r s4 ⟨hr,I4⟩=> ?_);subst hr;exact pY ⟨σ3,H3,I4,qn⟩
 · refine fU hp (cZ (T.item X rfl rfl rfl hc i pins s3 σ3 H3 X.xe I3 (stat fr3) st3 go) fun r s4 ⟨u,hr,h4⟩=> ?_);subst hr;refine fU hp (cZ h4 fun _ s5 ⟨x,H5,I5,r5,y5,st5,fr5⟩=> ?_);have I5':=I5.pinned (stat fr5) (T.obj _ _ st5);refine fU hp (cZ (hg _ s5 σ3 H5 x u _ I5' r5 (step x H5 y5)) fun _ s6 ⟨σ6,H6,I6,q6⟩=> ?_);refine fU hp (cZ (hb _ s6 σ6 H6 _ I6 q6) fun f s7 q7=> ?_);have again:∀{σ7:St} {H7:Hp},Inv X (pins++mj fp s5.heap) σ7 H7 s7->N σ7 H7->∃m,m<n/\∃i σ' H',Inv X pins σ' H' s7/\tn i s7.heap/\(∀b∈fp,H' b=none)/\W i m σ' H':=fun {σ7 H7} I7 n7=>by
    obtain⟨m',hm,w7⟩:=hN σ7 H7 n7;refine⟨m',hm,i+1,σ7,H7,I7.unpinned,T.keep _ _ _ st5 fun b hb o e=>(I7.pin (b,o) (aR _ (aR _ (gC hb e)))).1,fun b hb=> ?_,w7⟩;obtain⟨o,e,d⟩:=T.obj _ _ st5 b hb;exact(I7.pin (b,o) (aR _ (aR _ (gC hb e)))).2.1
   cases f with
   | next=>obtain⟨σ7,H7,I7,n7⟩:=q7;exact again I7 n7
   | cont=>obtain⟨σ7,H7,I7,n7⟩:=q7;exact again I7 n7
   | brk=>obtain⟨σ7,H7,I7,q7⟩:=q7;exact⟨σ7,H7,I7.unpinned,q7⟩
   | ret v=>obtain⟨x7,σ7,H7,I7,r7,q7⟩:=q7;exact⟨x7,σ7,H7,I7.unpinned,r7,q7⟩
end
def ck{K:Frag}{g:TG}{tb:TS}{D:sx}(Pv:Nat->St->Hp->Prop)(h0:Pv 0 σ H)(hl:∀i σ H,i<=xs.length->Pv i σ H->SqL K H a xs)(hs:∀i x σ H,xs[i]? =some x->Pv i σ H->g x σ H fun σ2 H2=>tb {D with nx:=Pv (i+1),ct:=Pv (i+1),bk:=D.nx} σ2 H2)(hd:∀σ H,Pv xs.length σ H->D.nx σ H):∃W:Nat->Nat->St->Hp->Prop,(∃m,W 0 m σ H)/\∀i m σ H,W i m σ H->((J8 K a).stop i H/\D.nx σ H)\/((J8 K a).go i H/\∃N:St->Hp->Prop,(∀σ' H',N σ' H'->∃m',m'<m/\W (i+1) m' σ' H')/\∀x H',(J8 K a).yld i H x H'->g x σ H' fun σ2 H2=>tb {D with nx:=N,ct:=N,bk:=D.nx} σ2 H2):=by
 refine⟨fun i m σ H=>m=xs.length - i/\i<=xs.length/\Pv i σ H,⟨xs.length,by simp,av _,h0⟩,?_⟩;rintro i m σ H ⟨rfl,hi,p⟩;have q:=hl i σ H hi p;by_cases hlt:i<xs.length
 · refine .inr ⟨⟨xs,xs[i],q,by simp[hlt]⟩,Pv (i+1),fun σ' H' p'=>⟨xs.length - (i+1),by lia,rfl,hlt,p'⟩,fun x H' y=> ?_⟩;obtain⟨e,y⟩:=y;subst e;exact hs i x σ _ (y xs q) p
 · have e:i=xs.length:=by lia
   subst e;exact .inl ⟨⟨xs,q,ar _⟩,hd σ H p⟩
def oS{lo:Int}{g:TG}{tb:TS}{D:sx}(Pv:Nat->St->Hp->Prop)(h0:Pv 0 σ H)(hs:∀i σ H,i<n->Pv i σ H->g (.int (lo+i)) σ H fun σ2 H2=>tb {D with nx:=Pv (i+1),ct:=Pv (i+1),bk:=D.nx} σ2 H2)(hd:∀σ H,Pv n σ H->D.nx σ H):∃W:Nat->Nat->St->Hp->Prop,(∃m,W 0 m σ H)/\∀i m σ H,W i m σ H->((J7 lo n).stop i H/\D.nx σ H)\/((J7 lo n).go i H/\∃N:St->Hp->Prop,(∀σ' H',N σ' H'->∃m',m'<m/\W (i+1) m' σ' H')/\∀x H',(J7 lo n).yld i H x H'->g x σ H' fun σ2 H2=>tb {D with nx:=N,ct:=N,bk:=D.nx} σ2 H2):=by
 refine⟨fun i m σ H=>m=n - i/\i<=n/\Pv i σ H,⟨n,by simp,av _,h0⟩,?_⟩;rintro i m σ H ⟨rfl,hi,p⟩;by_cases hlt:i<n
 · refine .inr ⟨hlt,Pv (i+1),fun σ' H' p'=>⟨n - (i+1),by lia,rfl,hlt,p'⟩,fun x H' y=> ?_⟩;obtain⟨e,y⟩:=y;subst e y;exact hs i σ _ hlt p
 · have e:i=n:=by lia
   subst e;exact .inl ⟨ar _,hd σ H p⟩
def wu(Pv:St->Hp->Prop)(μ:St->Hp->Nat)(h0:Pv σ H)(hs:∀σ H,Pv σ H->c σ H fun b H1=>if b=true then tb {D with nx:=fun σ' H'=>Pv σ' H'/\μ σ' H'<μ σ H,ct:=fun σ' H'=>Pv σ' H'/\μ σ' H'<μ σ H,bk:=D.nx} σ H1 else D.nx σ H1)(mono:∀σ H Q Q',(∀b H1,Q b H1->Q' b H1)->c σ H Q->c σ H Q'):uJ c tb D σ H:=by
 refine⟨fun m σ H=>m=μ σ H/\Pv σ H,⟨_,rfl,h0⟩,?_⟩;rintro m σ H ⟨rfl,p⟩;refine mono σ H _ _ (fun b H1 q=> ?_) (hs σ H p);cases b with
 | true=>exact⟨_,fun σ' H' ⟨p',l⟩=>⟨_,l,rfl,p'⟩,q⟩
 | false=>exact q
abbrev R2:=V->V->Hp->VK->Prop
def jO(X:Cx)(f:Value->Value->Sem Value)(r:R2):Prop:=∀(pins:List (Addr × Obj)) (s:Shared) (σ:St) (H:Hp) (x y:V) (v u:Value) (Q:VK),Inv X pins σ H s->RelV x v->RelV y u->r x y H Q->wpAny (model X.prog X.w) X.A (f v u) (EP X pins σ Q) X.xe s
def L3(X:Cx)(f:Value->Sem Value)(r:V->Hp->VK->Prop):Prop:=∀(pins:List (Addr × Obj)) (s:Shared) (σ:St) (H:Hp) (x:V) (v:Value) (Q:VK),Inv X pins σ H s->RelV x v->r x H Q->wpAny (model X.prog X.w) X.A (f v) (EP X pins σ Q) X.xe s
def n_(X:Cx)(f:Value)(r:List V->Hp->VK->Prop):Prop:=∀(pins:List (Addr × Obj)) (s:Shared) (σ:St) (H:Hp) (xs:List V) (us:List Value) (Q:VK),Inv X pins σ H s->Vals xs us->r xs H Q->wpAny (model X.prog X.w) X.A (call f us) (EP X pins σ Q) X.xe s
def Nb(X:Cx)(r:V->Hp->(Bool->Hp->Prop)->Prop):Prop:=∀(pins:List (Addr × Obj)) (s:Shared) (σ:St) (H:Hp) (x:V) (v:Value) (Q:Bool->Hp->Prop),Inv X pins σ H s->RelV x v->r x H Q->wpAny (model X.prog X.w) X.A (truthy v) (TP X pins σ Q) X.xe s
def CQ(r:R2)(ta tb:TE):TE:=fun σ H Q=>ta σ H fun x H1=>tb σ H1 fun y H2=>r x y H2 Q
def Mj(r:V->Hp->VK->Prop)(ta:TE):TE:=fun σ H Q=>ta σ H fun x H1=>r x H1 Q
def rI(C:Int->Int->Prop)(g:Int->Int->V):R2:=fun x y H Q=>onI x fun i=>onI y fun j=>C i j/\Q (g i j) H
def AL(g:Int->Int->V):R2:=fun x y H Q=>onI x fun i=>onI y fun j=>Q (g i j) H
def rU(g:Int->V):V->Hp->VK->Prop:=fun x H Q=>onI x fun i=>Q (g i) H
section
def JW{X:Cx}{a b:Expr}{ta tb:TE}(ha:PE X a ta)(hb:PE X b tb){pins:List (Addr × Obj)}{s:Shared}{σ:St}{H:Hp}{R:V->V->Hp->Prop}(I:Inv X pins σ H s)(h:ta σ H fun x H1=>tb σ H1 fun y H2=>R x y H2){Q:Value->Shared->Prop}{f:Value->Value->Sem Value}(hf:∀v u s2 x y H2,Inv X pins σ H2 s2->RelV x v->RelV y u->R x y H2->wpAny (model X.prog X.w) X.A (f v u) Q X.xe s2):wpAny (model X.prog X.w) X.A (eval a X.env) (fun v s₁=>wpAny (model X.prog X.w) X.A (eval b X.env) (fun u s₂=>wpAny (model X.prog X.w) X.A (f v u) Q X.xe s₂) X.xe s₁) X.xe s:=by
 refine cZ (ha pins s σ H _ I h) fun v s1 ⟨x,H1,I1,r1,q1⟩=> ?_;refine cZ (hb pins s1 σ H1 _ I1 q1) fun u s2 ⟨y,H2,I2,r2,q2⟩=> ?_;exact hf v u s2 x y H2 I2 r1 r2 q2
def bF(ho:jO X (binaryOp op) r)(ha:PE X a ta)(hb:PE X b tb):PE X (.BinOp a op b pos) (CQ r ta tb):=by
 intro pins s σ H Q I h;exact wpAny_BinOp (JW ha hb I h fun v u s2 x y H2 I2 rx ry q=>ho pins s2 σ H2 x y v u Q I2 rx ry q)
def nA(ho:L3 X (unaryOp op) r)(ha:PE X a ta):PE X (.UnaryOp op a pos) (Mj r ta):=by
 intro pins s σ H Q I h;exact UnaryOp_ (cZ (ha pins s σ H _ I h) fun v s1 ⟨x,H1,I1,r1,q1⟩=>ho pins s1 σ H1 x v Q I1 r1 q1)
def Ke{g:Int->Int->Int}(rule:∀i j t u s Q E,C i j->Q (.int (g i j) s.toks) {s with toks:=s.toks+1}->wpAny (model X.prog X.w) X.A (f (.int i t) (.int j u)) Q E s):jO X f (rI C fun i j=> .int (g i j)):=by
 intro pins s σ H x y v u Q I rx ry h;obtain⟨i,rfl,h'⟩:=onI.ex h;obtain⟨j,rfl,hc,q⟩:=onI.ex h';obtain⟨t,rfl⟩:=rx;obtain⟨t',rfl⟩:=ry;exact rule i j t t' s _ _ hc ⟨.int (g i j),H,I.tok _,⟨_,rfl⟩,q⟩
def Ge{g:Int->Int->Int}(rule:∀i j t u s Q E,Q (.int (g i j) s.toks) {s with toks:=s.toks+1}->wpAny (model X.prog X.w) X.A (f (.int i t) (.int j u)) Q E s):jO X f (AL fun i j=> .int (g i j)):=by
 intro pins s σ H x y v u Q I rx ry h;obtain⟨i,rfl,h'⟩:=onI.ex h;obtain⟨j,rfl,q⟩:=onI.ex h';obtain⟨t,rfl⟩:=rx;obtain⟨t',rfl⟩:=ry;exact rule i j t t' s _ _ ⟨.int (g i j),H,I.tok _,⟨_,rfl⟩,q⟩
def Jb{g:Int->Int->Bool}(rule:∀i j t u s Q E,Q (.bool (g i j)) s->wpAny (model X.prog X.w) X.A (f (.int i t) (.int j u)) Q E s):jO X f (AL fun i j=> .bl (g i j)):=by
 intro pins s σ H x y v u Q I rx ry h;obtain⟨i,rfl,h'⟩:=onI.ex h;obtain⟨j,rfl,q⟩:=onI.ex h';obtain⟨t,rfl⟩:=rx;obtain⟨t',rfl⟩:=ry;exact rule i j t t' s _ _ ⟨.bl (g i j),H,I,rfl,q⟩
def Nt(i j:Int):Prop:=0<j/\j<1073741824
def LP(i j:Int):Prop:=0<=j/\j<=1000000/\i.natAbs<2^64
def CMul(i j:Int):Prop:=(-(2^64)<i/\i<2^64)\/(-(2^64)<j/\j<2^64)
def CMul.ok(h:CMul i j):IntMulOk i j:=by
 rcases h with⟨h1,h2⟩ | ⟨h1,h2⟩
 · exact .of_left (intBits_le_64 h1 h2)
 · exact .of_right (intBits_le_64 h1 h2)
def iQ:jO X (binaryOp .Add) (AL fun i j=> .int (i+j)):=Ge fun _ _ _ _ _ _ _ q=>add_int q
def j7:jO X (binaryOp .Sub) (AL fun i j=> .int (i - j)):=Ge fun _ _ _ _ _ _ _ q=>sub_int q
def rn:jO X (binaryOp .Mult) (rI CMul fun i j=> .int (i * j)):=Ke fun _ _ _ _ _ _ _ hc q=>mul_int q hc.ok
def fJ:jO X (binaryOp .FloorDiv) (rI Nt fun i j=> .int (i/j)):=Ke fun i j _ _ _ _ _ hc q=>by
 have h1:(0:Int)<j:=hc.1;have h2:j<1073741824:=hc.2;exact floordiv_int (by lia) (by rw[Int.fdiv_eq_ediv_of_nonneg i (by lia)];exact q) (.inl (PyProof.noPylong_small (by lia)))
def eJ:jO X (binaryOp .Mod) (rI (fun _ j=>0<j) fun i j=> .int (i % j)):=Ke fun i j _ _ _ _ _ hc q=>by
 have h1:(0:Int)<j:=hc;exact mod_int' (by lia) (by rw[Int.fmod_eq_emod_of_nonneg i (by lia)];exact q)
def vq:jO X (binaryOp .Pow) (rI LP fun i j=> .int (i^j.toNat)):=Ke fun _ _ _ _ _ _ _ hc q=>pow_int_small hc.1 hc.2.1 hc.2.2 q
def oE:jO X (binaryOp .LShift) (rI LP fun i j=> .int (i * 2^j.toNat)):=Ke fun _ _ _ _ _ _ _ hc q=>lshift_int_small hc.1 hc.2.1 hc.2.2 q
def mo:jO X (binaryOp .BitAnd) (AL fun i j=> .int (Builtin.bitAnd i j)):=Ge fun _ _ _ _ _ _ _ q=>and_int q
def ui:jO X (binaryOp .BitOr) (AL fun i j=> .int (Builtin.bitOr i j)):=Ge fun _ _ _ _ _ _ _ q=>or_int q
def Nv{g:Int->Int}(rule:∀i t s Q E,Q (.int (g i) s.toks) {s with toks:=s.toks+1}->wpAny (model X.prog X.w) X.A (f (.int i t)) Q E s):L3 X f (rU fun i=> .int (g i)):=by
 intro pins s σ H x v Q I rx h;obtain⟨i,rfl,q⟩:=onI.ex h;obtain⟨t,rfl⟩:=rx;exact rule i t s _ _ ⟨.int (g i),H,I.tok _,⟨_,rfl⟩,q⟩
def uH:L3 X (unaryOp .USub) (rU fun i=> .int (-i)):=Nv fun _ _ _ _ _ q=>neg_int q
def qC:L3 X (unaryOp .Invert) (rU fun i=> .int (Builtin.bitNot i)):=Nv fun _ _ _ _ _ q=>invert_int q
end
noncomputable def FM:V->V->Bool
 | .non,.non=>true | .non,.int _=>true | .int _,.non=>true | .non,.bl _=>true | .bl _,.non=>true | .non,.str _=>true | .str _,.non=>true
 | .int _,.int _=>true | .bl _,.bl _=>true | .str _,.str _=>true | .byt _,.byt _=>true
 | .int _,.str _=>true | .str _,.int _=>true | .bl _,.str _=>true | .str _,.bl _=>true
 | _,_=>false
def N8:R2:=fun x y H Q=>onT (FM x y) (Q (.bl (decide (x=y))) H)
def Nz:R2:=fun x y H Q=>onT (FM x y) (Q (.bl (!decide (x=y))) H)
def By:decide (V.int i=V.int j)=(i==j):=by
 rw[gc];simp
def EU:decide (V.bl i=V.bl j)=(i==j):=by
 rw[gc];simp
def Bx:decide (V.str i=V.str j)=(i==j):=by
 rw[gc];simp
def Bz:decide (V.byt i=V.byt j)=(i.toList==j.toList):=by
 rw[gc];cases i;cases j;simp
section
def cI{σ:St}(I:Inv X pins σ H s)(q:Q (.bl k) H)(e:k=k'):EP X pins σ Q (.bool k') s:=by
 subst e;exact⟨.bl k,H,I,rfl,q⟩
def cT:jO X (compareOp .Eq) N8:=by
 intro pins s σ H x y v u Q I rx ry h;obtain⟨hs,q⟩:=onT.ex h;cases x with
 | non=>
   cases rx;cases y with
   | non=>cases ry;exact PySem.EqNone.eq_none_none (cI I q (by simp))
   | bl j=>cases ry;exact PySem.EqNone.eq_none_bool (cI I q (by simp))
   | int j=>obtain⟨t',rfl⟩:=ry;exact PySem.EqNone.eq_none_int (cI I q (by simp))
   | str j=>obtain⟨t',rfl⟩:=ry;exact PySem.EqNone.eq_none_str (cI I q (by simp))
   | _=>exact absurd (show false=true from hs) aO
 | bl i=>
   cases rx;cases y with
   | non=>cases ry;exact PySem.EqNone.eq_bool_none (cI I q (by simp))
   | bl j=>cases ry;exact eq_bool (cI I q EU)
   | str j=>obtain⟨t',rfl⟩:=ry;exact PySem.EqMixed.eq_bool_str (cI I q (by simp))
   | _=>exact absurd (show false=true from hs) aO
 | int i=>
   obtain⟨t,rfl⟩:=rx;cases y with
   | non=>cases ry;exact PySem.EqNone.eq_int_none (cI I q (by simp))
   | int j=>obtain⟨t',rfl⟩:=ry;exact eq_int (cI I q By)
   | str j=>obtain⟨t',rfl⟩:=ry;exact PySem.EqMixed.eq_int_str (cI I q (by simp))
   | _=>exact absurd (show false=true from hs) aO
 | str i=>
   obtain⟨t,rfl⟩:=rx;cases y with
   | non=>cases ry;exact PySem.EqNone.eq_str_none (cI I q (by simp))
   | bl j=>cases ry;exact PySem.EqMixed.eq_str_bool (cI I q (by simp))
   | int j=>obtain⟨t',rfl⟩:=ry;exact PySem.EqMixed.eq_str_int (cI I q (by simp))
   | str j=>obtain⟨t',rfl⟩:=ry;exact eq_str (cI I q Bx)
   | _=>exact absurd (show false=true from hs) aO
 | byt i=>
   obtain⟨t,rfl⟩:=rx;cases y with
   | byt j=>obtain⟨t',rfl⟩:=ry;exact PySem.W.eq_bytes (cI I q Bz)
   | _=>exact absurd (show false=true from hs) aO
 | _=>cases y<;>exact absurd (show false=true from hs) aO
def DI:jO X (compareOp .NotEq) Nz:=by
 intro pins s σ H x y v u Q I rx ry h;obtain⟨hs,q⟩:=onT.ex h;cases x with
 | non=>
   cases rx;cases y with
   | non=>cases ry;exact PySem.EqNone.ne_none_none (cI I q (by simp))
   | bl j=>cases ry;exact PySem.EqNone.ne_none_bool (cI I q (by simp))
   | int j=>obtain⟨t',rfl⟩:=ry;exact PySem.EqNone.ne_none_int (cI I q (by simp))
   | str j=>obtain⟨t',rfl⟩:=ry;exact PySem.EqNone.ne_none_str (cI I q (by simp))
   | _=>exact absurd (show false=true from hs) aO
 | bl i=>
   cases rx;cases y with
   | non=>cases ry;exact PySem.EqNone.ne_bool_none (cI I q (by simp))
   | bl j=>cases ry;exact ne_bool (cI I q (congrArg not EU))
   | str j=>obtain⟨t',rfl⟩:=ry;exact PySem.EqMixed.ne_bool_str (cI I q (by simp))
   | _=>exact absurd (show false=true from hs) aO
 | int i=>
   obtain⟨t,rfl⟩:=rx;cases y with
   | non=>cases ry;exact PySem.EqNone.ne_int_none (cI I q (by simp))
   | int j=>obtain⟨t',rfl⟩:=ry;exact ne_int (cI I q (congrArg not By))
   | str j=>obtain⟨t',rfl⟩:=ry;exact PySem.EqMixed.ne_int_str (cI I q (by simp))
   | _=>exact absurd (show false=true from hs) aO
 | str i=>
   obtain⟨t,rfl⟩:=rx;cases y with
   | non=>cases ry;exact PySem.EqNone.ne_str_none (cI I q (by simp))
   | bl j=>cases ry;exact PySem.EqMixed.ne_str_bool (cI I q (by simp))
   | int j=>obtain⟨t',rfl⟩:=ry;exact PySem.EqMixed.ne_str_int (cI I q (by simp))
   | str j=>obtain⟨t',rfl⟩:=ry;exact ne_str (cI I q (congrArg not Bx))
   | _=>exact absurd (show false=true from hs) aO
 | byt i=>
   obtain⟨t,rfl⟩:=rx;cases y with
   | byt j=>obtain⟨t',rfl⟩:=ry;exact PySem.W.ne_bytes (cI I q (congrArg not Bz))
   | _=>exact absurd (show false=true from hs) aO
 | _=>cases y<;>exact absurd (show false=true from hs) aO
def lP:jO X (compareOp .Lt) (AL fun i j=> .bl (decide (i<j))):=Jb fun _ _ _ _ _ _ _ q=>lt_int q
def Bi:jO X (compareOp .LtE) (AL fun i j=> .bl (decide (i<=j))):=Jb fun _ _ _ _ _ _ _ q=>le_int q
def DJ:jO X (compareOp .Gt) (AL fun i j=> .bl (decide (j<i))):=Jb fun _ _ _ _ _ _ _ q=>gt_int q
def vr:jO X (compareOp .Is) (fun x y H Q=>y= .non/\Q (.bl (decide (x= .non))) H):=by
 intro pins s σ H x y v u Q I rx ry h;obtain⟨rfl,q⟩:=h;cases ry;refine is_none_gen (cI I q ?_);cases x<;>first
  | (cases rx;rfl)
  | (obtain⟨t,rfl⟩:=rx;rfl)
def nB:jO X (compareOp .IsNot) (fun x y H Q=>y= .non/\Q (.bl (!decide (x= .non))) H):=by
 intro pins s σ H x y v u Q I rx ry h;obtain⟨rfl,q⟩:=h;cases ry;refine isnot_none_gen (cI I q ?_);cases x<;>first
  | (cases rx;rfl)
  | (obtain⟨t,rfl⟩:=rx;rfl)
def rA(b:Expr){op:CmpOp}(h:op≠ .In:=by decide)(h2:op≠ .NotIn:=by decide):behindInMarks op b=false:=by
 have e1:(op==CmpOp.In)=false:=by cases op<;>first | rfl | exact absurd rfl h
 have e2:(op==CmpOp.NotIn)=false:=by cases op<;>first | rfl | exact absurd rfl h2
 cases b<;>simp[behindInMarks,e1,e2]
def F_(ho:jO X (compareOp op) r)(ha:PE X a ta)(hb:PE X b tb)(hm:behindInMarks op b=false):PE X (.Compare a [op] [b] pos) (CQ r ta tb):=by
 intro pins s σ H Q I h;exact wpAny_Compare1 (JW ha hb I h fun v u s2 x y H2 I2 rx ry q=>ho pins s2 σ H2 x y v u Q I2 rx ry q) hm
def Hm(t:TE):TT:=fun σ H Q=>t σ H fun x H1=>onB x fun c=>Q c H1
def qj(ho:jO X (compareOp op) r)(ha:PE X a ta)(hb:PE X b tb)(hm:behindInMarks op b=false):PT X (.Compare a [op] [b] pos) (Hm (CQ r ta tb)):=by
 intro pins s σ H Q I h;refine LR (cZ (ha pins s σ H _ I h) fun v s1 ⟨x,H1,I1,r1,q1⟩=>cZ (hb pins s1 σ H1 _ I1 q1) fun u s2 ⟨y,H2,I2,r2,q2⟩=>
  cZ (ho pins s2 σ H2 x y v u _ I2 r1 r2 q2) fun c s3 ⟨z,H3,I3,r3,q0⟩=> ?_) hm
 obtain⟨k,e,q3⟩:=onB.ex q0;subst e;cases r3;exact cW ⟨H3,I3,q3⟩
def Iv(r r':R2)(ta tb tc:TE):TE:=fun σ H Q=>ta σ H fun x H1=>tb σ H1 fun y H2=>r x y H2 fun z H3=>∃k,z= .bl k/\(if k=true then tc σ H3 fun w' H4=>r' y w' H4 Q else Q (.bl false) H3)
def rj{X:Cx}{a b c:Expr}{ta tb tc:TE}{pos:Pos}{op op':CmpOp}{r r':R2}(ho:jO X (compareOp op) r)(ho':jO X (compareOp op') r')(ha:PE X a ta)(hb:PE X b tb)(hc:PE X c tc)(hm:lastMarks [op,op'] [b,c]=false:=by with_unfolding_all rfl):PE X (.Compare a [op,op'] [b,c] pos) (Iv r r' ta tb tc):=by
 intro pins s σ H Q I h;refine Compare_chain (cZ (ha pins s σ H _ I h) fun v s1 ⟨x,H1,I1,r1,q1⟩=>chain_link (cZ (hb pins s1 σ H1 _ I1 q1) fun u s2 ⟨y,H2,I2,r2,q2⟩=>
  cZ (ho pins s2 σ H2 x y v u _ I2 r1 r2 q2) fun d s3 ⟨z,H3,I3,r3,k,e,q3⟩=> ?_)) hm
 subst e;cases r3;refine cW ?_;cases k with
 | false=>exact ite_ff ⟨.bl false,H3,I3,rfl,q3⟩
 | true=>exact ite_tt (chain_last (cZ (hc pins s3 σ H3 _ I3 q3) fun w' s4 ⟨z',H4,I4,r4,q4⟩=>ho' pins s4 σ H4 y z' u w' Q I4 r2 r4 q4))
def Lx(K:Frag)(x:V)(H:Hp)(k:Bool):Prop:=match x with
 | .non=>k=false
 | .bl b=>k=b
 | .int i=>k=(i !=0)
 | .str y=>y.length<=sizeLine/\k=((y.length:Int) !=0)
 | .byt y=>y.size<=sizeLine/\k=((y.size:Int) !=0)
 | .ref p=>(∃xs,SqL K H p xs/\k= !xs.isEmpty)\/(∃xs,SqT K H p xs/\k= !xs.isEmpty)\/∃kvs,H p=some (.dK kvs)/\k= !kvs.isEmpty
 | _=>False
def zJ{kvs:List (κ × V)}(r:KV kvs vs):(!vs.isEmpty)= !kvs.isEmpty:=by
 cases r<;>rfl
def rJ(r:Vals xs its):(!its.toArray.isEmpty)= !xs.isEmpty:=by
 cases r<;>simp
def mw:(sizeLine:Nat)<2^63:=by rw[Mz];decide
def Im:Nb X (fun x H Q=>∃k,Lx X.K x H k/\Q k H):=by
 intro pins s σ H x v Q I rx h;obtain⟨k,e,q⟩:=h;have hl:=mw;have hs:sizeLine=16777216:=Mz;cases x with
 | non=>
   cases rx;have e':k=false:=e;subst e';exact truthy_none ⟨H,I,q⟩
 | bl b=>
   cases rx;have e':k=b:=e;subst e';exact cW ⟨H,I,q⟩
 | int i=>
   obtain⟨t,rfl⟩:=rx;have e':k=(i !=0):=e;subst e';exact PySem.P.truthy_int ⟨H,I,q⟩
 | str y=>
   obtain⟨t,rfl⟩:=rx;obtain⟨hy,e'⟩:y.length<=sizeLine/\k=((y.length:Int) !=0):=e;subst e';exact PySem.P.truthy_str (by lia) ⟨H,I.tok _,q⟩
 | byt y=>
   obtain⟨t,rfl⟩:=rx;obtain⟨hy,e'⟩:y.size<=sizeLine/\k=((y.size:Int) !=0):=e;subst e';exact PySem.W.truthy_bytes (by lia) ⟨H,I.tok _,q⟩
 | ref p=>
   cases rx;have e':(∃xs,SqL X.K H p xs/\k= !xs.isEmpty)\/(∃xs,SqT X.K H p xs/\k= !xs.isEmpty)\/∃kvs,H p=some (.dK kvs)/\k= !kvs.isEmpty:=e;rcases e' with⟨xs,hx,e'⟩ | ⟨xs,hx,e'⟩ | ⟨kvs,hx,e'⟩
   · subst e';obtain⟨its,r,pl,hz⟩:=I.list hx;have hlen:=r.length;exact wpAny_truthy_list pl.isList (by simp only[aV];lia) ⟨H,I.tok _,by rw[rJ r];exact q⟩
   · subst e';obtain⟨its,r,pl,hz⟩:=I.tuple hx;have hlen:=r.length;exact truthy_tuple pl (by simp only[aV];lia) ⟨H,I.tok _,by rw[rJ r];exact q⟩
   · subst e';obtain⟨hz,hS,vs,r,m⟩:kvs.length<=sizeLine/\(p==sysModules)=false/\∃vs,KV kvs vs/\s.heap.DictOf (cQ X.prog X.w) p vs:=I.hok p _ hx;have hlen:kvs.length=vs.length:=bu r;exact wpAny_truthy_dict hS m (by lia) ⟨H,I.tok _,by rw[zJ r];exact q⟩
 | _=>exact(show False from e).elim
def xm(ha:PE X a ta)(he:∀whole,isTrue a X.env whole=(do let v<-whole;standAt a.pos;holding [v] (truthy v))):
 PT X a (fun σ H Q=>ta σ H fun x H'=>∃k,Lx X.K x H' k/\Q k H'):=by
 intro pins s σ H Q I h;exact isTrue_plain (cZ (ha pins s σ H _ I h) fun v s1 ⟨x,H1,I1,r1,q1⟩=>Im pins s1 σ H1 x v Q I1 r1 q1) (he _)
def iz:jO X (binaryOp .Add) (fun x y H Q=>∃i j,x= .str i/\y= .str j/\i.length+j.length<=sizeLine/\Q (.str (i++j)) H):=by
 intro pins s σ H x y v u Q I rx ry h;obtain⟨i,j,rfl,rfl,hz,q⟩:=h;obtain⟨t,rfl⟩:=rx;obtain⟨t',rfl⟩:=ry;exact add_str (fun t' tk=>⟨.str (i++j),H,I.tok _,⟨_,rfl⟩,q⟩) hz
def CI(r:Vals [x] us):∃u,us=[u]/\RelV x u:=by
 cases r with
 | cons r1 r2=>cases r2;exact⟨_,rfl,r1⟩
end
structure ObjM(h:Heap)(x dx C:Addr)(mA:Str->Option Value):Prop where
 obj:h.get? x=some (instObj C dx)
 ns:h.Ns1 dx mA
 ne:dx≠x
def Cb{h:Heap}(n:h.Ns1 dx mA):∃od,h.get? dx=some od/\∀name,lookIn name od=some (mA name):=by
 obtain⟨o,es,ep,ho,hd,hk,_,hm⟩:=n;refine⟨o,ho,fun name=> ?_⟩;have e:=hm name;unfold nsFind findBy at e;rw[<-Array.find?_toList] at e;unfold lookIn;rw[hd];dsimp only
 split
 · rename_i y q;rw[q] at e;exact congrArg some e
 · rename_i q;rw[q] at e;have a:es.toList.any (·.refKey)=false:=by
    rw[List.any_eq_false];intro y hy;obtain⟨z,t,hkey⟩:=hk y (Array.mem_toList_iff.mp hy);simp[DictEntry.refKey,hkey]
   have a':¬ es.toList.any (·.refKey)=true:=by rw[a];exact aO
   rw[aA a'];exact congrArg some e
def ObjM.look(I:ObjM h x dx C mA):∃od,PySem.W.InstAt h x (instObj C dx) C (some od)/\∀name,lookIn name od=some (mA name):=
 let⟨od,ho,hl⟩:=Cb I.ns
 ⟨od,⟨I.obj,rfl,rfl,ho⟩,hl⟩
section
def GO{K:Frag}(X:K.In s.heap)(I:ObjM s.heap x dx C mA)(hg:plainGet K C name=true)(hh:PySem.W.hasDictIn K C=true)(ha:findIn K (.ref C) name=some none)(hv:mA name=some v)(hv':PySem.W.handedIn v=true)(h:Q v {s with toks:=s.toks+1}):wpAny (model prog w) A (getAttr (.ref x) name expr) Q E s:=by
 obtain⟨od,J,hl⟩:=I.look;exact PySem.W.get_value X J (v3 hg).1 (PySem.W.findObj_own hh ha rfl (by rw[hl,hv])) hv' h
def EK{K:Frag}(X:K.In s.heap)(I:ObjM s.heap x dx C mA)(hg:plainGet K C name=true)(hf:findIn K (.ref C) name=some (some (.ref f)))(ht:isFn K (.ref f)=true)(hv:mA name=none)(h:Q (.ref f,[.ref x]) s):wpAny (model prog w) A (getMethod (.ref x) name pl) Q E s:=by
 obtain⟨od,J,hl⟩:=I.look;exact PySem.W.method_fn X J (v3 hg).1 (v3 hg).2 hf (lj.mp ht) (by show(lookIn name od).map (·.isSome)=some false;rw[hl,hv];rfl) h
def FJ{K:Frag}(X:K.In s.heap)(I:ObjM s.heap x dx C mA)(hs:findIn K (.ref C) "__setattr__"=some (some (.builtin "object.__setattr__")))(hp:PySem.W.plainOver K C=true)(ht:PySem.W.takerIn K C name=some none)(hh:PySem.W.hasDictIn K C=true)(hw:PySem.Within mA ns)(hsz:ns.length<=sizeLine)(h:∀h',ObjM h' x dx C (fun y=>if y=name then some v else mA y)->Heap.SameBut dx s.heap h'->Q () {s with heap:=h',toks:=s.toks+2}):wpAny (model prog w) A (setAttr (.ref x) name v) Q E s:=by
 obtain⟨od,J,hl⟩:=I.look;refine PySem.W.set_plain X J hs (PySem.W.osa_open (s:={s with toks:=s.toks+1}) (r:=none) X J hp ht fun b=> ?_);obtain⟨cd,hc,hd'⟩:=PySem.W.any_some hh;have hx:s.heap.get? x=some ⟨.ref C,some dx,.plain,#[]⟩:=I.obj;refine aa (aK (aa (aa (wpAny_loadPart hx (aa (PySem.W.Looks.here (s:={s with toks:=s.toks+1}) (PySem.W.looks_clsIn X hc) ?_))))));rw[hd'];refine aK (a:=some dx) (aa (aK (aa ?_)));refine wpAny_nsSet1 (s:={s with toks:=s.toks+1}) I.ns fun h' hn2 hs2=> ?_;obtain⟨oD,esD,epD,hoD,hdD,hcD⟩:=hn2.count (PySem.Within.cons name v hw);refine aa (wpAny_lookBehind hoD (by rw[hdD];exact pastItsLine_dict (ai hcD (by rw[bj];lia))) ?_);exact aK (h _ ⟨(hs2.2 _ (br I.ne)).trans I.obj,hn2,I.ne⟩ hs2)
def Eg{s:Shared}{K:Frag}(X:K.In s.heap)(hm:makesIn K C=true)(hi:findIn K (.ref C) "__init__"=some (some (.ref f)))(hf:PySem.W.typeIn K (.ref f)=some (.type "function"))(h:codeAny (model prog w) (A.under (.builtin "type.__call__" ⟨.ref C::vs,kw⟩)) (.call (.ref f) ⟨.ref (s.heap.objs.size+1)::vs,kw⟩) (PySem.W.InitBack (s.heap.objs.size+1) R) {s with heap:=(s.heap.push emptyDict).push (instObj C s.heap.objs.size)}):codeAny (model prog w) A (.call (.ref C) ⟨vs,kw⟩) R s:=by
 obtain⟨hh,g,d,t,os⟩:=s;exact PySem.W.make_core (PySem.W.makes_of X hm) (PySem.W.looks_findIn X hi) (fun self=>PySem.W.bind_fn X self hf) (.inl rfl) h
end
noncomputable def iO(f:Str)(v:V):List (Str × V)->List (Str × V)
 | []=>[(f,v)]
 | (g,x)::r=>if g=f then(g,v)::r else(g,x)::iO f v r
theorem pF(f g:Str)(v:V):∀fs:List (Str × V),(iO f v fs).lookup g=if g=f then some v else fs.lookup g
 | []=>by
   show List.lookup g [(f,v)]=_;by_cases h:g=f
   · have hb:(g==f)=true:=lj.mpr h;simp only[List.lookup,hb,aE h]
   · have hb:(g==f)=false:=cq.mpr h;simp only[List.lookup,hb,aA h]
 | (k,x)::r=>by
   have ih:=pF f g v r;rw[show iO f v ((k,x)::r)=(if k=f then(k,v)::r else(k,x)::iO f v r) from rfl];by_cases hk:k=f
   · rw[aE hk];by_cases h:g=k
     · have hb:(g==k)=true:=lj.mpr h;simp only[List.lookup,hb,aE (h.trans hk)]
     · have hb:(g==k)=false:=cq.mpr h;simp only[List.lookup,hb,aA (fun e:g=f=>h (e.trans hk.symm))]
   · rw[aA hk];by_cases h:g=k
     · have hb:(g==k)=true:=lj.mpr h;simp only[List.lookup,hb,aA (fun e:g=f=>hk (h.symm.trans e))]
     · have hb:(g==k)=false:=cq.mpr h;simp only[List.lookup,hb];exact ih
theorem oK(f:Str)(v:V):∀fs:List (Str × V),f∈(iO f v fs).map (·.1)/\∀g,g∈fs.map (·.1)->g∈(iO f v fs).map (·.1)
 | []=>⟨by simp[iO],fun g h=>by simp at h⟩
 | (k,x)::r=>by
   obtain⟨i1,i2⟩:=oK f v r;rw[show iO f v ((k,x)::r)=(if k=f then(k,v)::r else(k,x)::iO f v r) from rfl];by_cases hk:k=f
   · rw[aE hk];subst hk;exact⟨by simp,fun g h=>by simpa using h⟩
   · rw[aA hk];refine⟨?_,fun g h=> ?_⟩
     · rw[bM];exact aG _ i1
     · rw[bM] at h⊢;rcases aI.mp h with e | e
       · exact aI.mpr (.inl e)
       · exact aG _ (i2 g e)
theorem pI(f:Str)(v:V):∀fs:List (Str × V),(iO f v fs).length<=fs.length+1
 | []=>by simp[iO]
 | (k,x)::r=>by
   have ih:=pI f v r;rw[show iO f v ((k,x)::r)=(if k=f then(k,v)::r else(k,x)::iO f v r) from rfl];by_cases hk:k=f
   · rw[aE hk,bj,bj];lia
   · rw[aA hk,bj,bj];lia
def RelO.some_of(r:RelO (some v) o):∃u,o=some u/\RelV v u:=by
 cases o with
 | none=>exact(show False from r).elim
 | some u=>exact⟨u,rfl,r⟩
def RelO.none_of(r:RelO none o):o=none:=by
 cases o with
 | none=>rfl
 | some u=>exact(show False from r).elim
def Cm(r:RelV v u):PySem.W.handedIn u=true:=by
 cases v with
 | non=>cases(show u=Value.none from r);rfl
 | bl b=>cases(show u=Value.bool b from r);rfl
 | int i=>obtain⟨t,e⟩:=(show ∃t,u=Value.int i t from r);cases e;rfl
 | str x=>obtain⟨t,e⟩:=(show ∃t,u=Value.str x t from r);cases e;rfl
 | byt b=>obtain⟨t,e⟩:=(show ∃t,u=Value.bytes b t from r);cases e;rfl
 | flt b=>obtain⟨t,e⟩:=(show ∃t,u=Value.float b t from r);cases e;rfl
 | ref a=>cases(show u=Value.ref a from r);rfl
 | ty n=>cases(show u=Value.type n from r);rfl
section
def qu(hok:HOk P w H h)(e:H a=some (.ins C dx fs)):∃mA,ObjM h a dx C mA/\(∀f,RelO (fs.lookup f) (mA f))/\PySem.Within mA (fs.map (·.1))/\fs.length<=1000/\H dx=some (.own a):=by
 obtain⟨d,z,ne,ob,mA,n,r,q⟩:=(show ObjOk P w H h a (.ins C dx fs) from hok a _ e);exact⟨mA,⟨ob,n,ne⟩,r,q,z,d⟩
end
structure Cls(K:Frag)(C:Addr):Prop where
 pg:plainGet K C Str.empty=true
 hd:PySem.W.hasDictIn K C=true
 po:PySem.W.plainOver K C=true
 sa:findIn K (.ref C) "__setattr__"=some (some (.builtin "object.__setattr__"))
def Cls.get{K:Frag}(c:Cls K C)(f:Str):plainGet K C f=true:=c.pg
def NoAttr(K:Frag)(C:Addr)(f:Str):Prop:=findIn K (.ref C) f=some none
def NoAttr.taker{K:Frag}(n:NoAttr K C f):PySem.W.takerIn K C f=some none:=by
 unfold PySem.W.takerIn;rw[show findIn K (.ref C) f=some none from n]
 rfl
structure CA(K:Frag)(C:Addr)(m:Str)(f:Addr):Prop where
 at_:findIn K (.ref C) m=some (some (.ref f))
 fn:isFn K (.ref f)=true
 kp:keepIn K (.ref f)=true
section
def zL{σ:St}(I:Inv X pins σ H s)(e:H a=some (.ins C dx fs))(c:Cls X.K C)(n:NoAttr X.K C f)(l:fs.lookup f=some v)(h:∀u s',Inv X pins σ H s'->RelV v u->Q u s'):wpAny (model X.prog X.w) A (getAttr (.ref a) f b) Q E s:=by
 obtain⟨mA,O,r,_,_,_⟩:=qu I.hok e;obtain⟨u,hu,ru⟩:=RelO.some_of (v:=v) (o:=mA f) (by rw[<-l];exact r f);exact GO I.kIn O (c.get f) c.hd n hu (Cm ru) (h u _ (I.tok _) ru)
def my{σ:St}(I:Inv X pins σ H s)(e:H a=some (.ins C dx fs))(c:Cls X.K C)(k:CA X.K C m g)(l:fs.lookup m=none)(h:Q (.ref g,[.ref a]) s):wpAny (model X.prog X.w) A (getMethod (.ref a) m pl) Q E s:=by
 obtain⟨mA,O,r,_,_,_⟩:=qu I.hok e;have hn:mA m=none:=RelO.none_of (by rw[<-l];exact r m);exact EK I.kIn O (c.get m) k.at_ k.fn hn h
def yI{σ:St}(I:Inv X pins σ H s)(e:H a=some (.ins C dx fs))(c:Cls X.K C)(n:NoAttr X.K C f)(hl:fs.length<1000)(ry:RelV y u)(h:∀s',Inv X pins σ (upd H a (.ins C dx (iO f y fs))) s'->Q () s'):wpAny (model X.prog X.w) A (setAttr (.ref a) f u) Q E s:=by
 obtain⟨mA,O,r,wi,_,ho⟩:=qu I.hok e;have hz:(fs.map (·.1)).length<=sizeLine:=by rw[ae,Mz];lia
 refine FJ I.kIn O c.sa c.po n.taker c.hd wi hz fun h' O' sb=>h _ ?_;have hd:∃o,h'.get? dx=some o:=let⟨o,_,_,e',_⟩:=O'.ns;⟨o,e'⟩
 refine I.write (x:=a) (e:=dx) (by rw[e];exact True.intro) (.inr ho) (fun b q hb z=>(sb.2 b hb).trans z) hd ?_;refine⟨by rw[aB O.ne];exact ho,?_,O.ne,O'.obj,_,O'.ns,fun g=> ?_,fun g hg=> ?_⟩
 · have:=pI f y fs;lia
 · show RelO ((iO f y fs).lookup g) (if g=f then some u else mA g);rw[pF];by_cases q:g=f
   · rw[aE q,aE q];exact ry
   · rw[aA q,aA q];exact r g
 · by_cases q:g=f
   · rw[q];exact(oK f y fs).1
   · refine(oK f y fs).2 g (wi g fun z=>hg ?_);show(if g=f then some u else mA g)=none;rw[aA q];exact z
def Inv.made{σ:St}(I:Inv X pins σ H s):Inv X pins σ (upd (upd H s.heap.objs.size (.own (s.heap.objs.size+1))) (s.heap.objs.size+1) (.ins C s.heap.objs.size [])) {s with heap:=(s.heap.push emptyDict).push (instObj C s.heap.objs.size)}:=by
 have e1:(s.heap.push emptyDict).get? s.heap.objs.size=some emptyDict:=a_ s.heap rfl;have e2:((s.heap.push emptyDict).push (instObj C s.heap.objs.size)).get? (s.heap.objs.size+1)=some (instObj C s.heap.objs.size):=by
  have:=a_ (s.heap.push emptyDict) (o:=instObj C s.heap.objs.size) rfl
  rwa [dZ] at this
 have e3:(s.heap.push emptyDict).Ns s.heap.objs.size (fun _=>none):=⟨emptyDict,#[],_,e1,rfl,(fun e he=>absurd he (by simp)),fun _=>rfl⟩;have I1:=I.laid (a:=s.heap.objs.size) (o:= .own (s.heap.objs.size+1)) (h':=s.heap.push emptyDict) (t':=s.toks) (fun b u q=>aC _ q) (ar _) ⟨_,e1⟩;refine I1.laid (a:=s.heap.objs.size+1) (o:= .ins C s.heap.objs.size []) (t':=s.toks) (fun b u q=>aC _ q) (Nat.le_of_eq (dZ _ _)) ?_;have ne:s.heap.objs.size≠s.heap.objs.size+1:=bI (jm _);refine⟨by rw[aB ne,upd_same],av _,ne,e2,fun _=>none,(Heap.Ns1.of_empty e3).at fun o q=>aC _ q,fun _=>True.intro,fun y hy=>absurd rfl hy⟩
def G0(hb:attributeBase e f env (eval e env)=eval e env)(h:wpAny (model prog w) A (eval e env) (fun o s₁=>wpAny (model prog w) A (getAttr o f true) Q E s₁) E s):wpAny (model prog w) A (eval (.Attribute e f pos) env) Q E s:=Attribute_any_ h (by rw[arm_eval_Attribute,hb])
end
inductive CS(K:Frag)(f:Str)(Q:VK)(H1:Hp)(a:Addr):Prop
 | mk:∀C dx fs v,(H1 a=some (.ins C dx fs))->(Cls K C)->(NoAttr K C f)->(fs.lookup f=some v)->(Q v H1)->CS K f Q H1 a
def yx(K:Frag)(ta:TE)(f:Str):TE:=fun σ H Q=>ta σ H fun x H1=>onR x fun a=>CS K f Q H1 a
def Dh(K:Frag)(ta tv:TE)(f:Str):TS:=fun D σ H=>tv σ H fun y H1=>ta σ H1 fun x H2=>∃a C dx fs,x= .ref a/\H2 a=some (.ins C dx fs)/\Cls K C/\NoAttr K C f/\fs.length<1000/\D.nx σ (upd H2 a (.ins C dx (iO f y fs)))
section
def IT(he:PE X e ta)(hb:attributeBase e f X.env (eval e X.env)=eval e X.env):PE X (.Attribute e f pos) (yx X.K ta f):=by
 intro pins s σ H Q I h;refine G0 hb (cZ (he pins s σ H _ I h) fun u s1 ⟨x,H1,I1,rx,q0⟩=> ?_);obtain⟨a,ex,C,dx,fs,v,ea,c,n,l,q⟩:=onR.ex q0;subst ex;obtain rfl:u=Value.ref a:=rx;exact zL I1 ea c n l fun u' s2 I2 ru=>⟨v,H1,I2,ru,q⟩
def dB(ha:PE X o ta)(hv:PE X value tv)(hs:swapsWith value (some (.Attribute o f pos')) pos.line X.env=pure false):PS X (.Assign [.Attribute o f pos'] value pos) (Dh X.K ta tv f):=by
 intro pins s σ H D I h;refine plainObj_wpAny_Assign_Attribute (cZ (hv pins s σ H _ I h) fun u s1 ⟨y,H1,I1,ry,q⟩=>cZ (ha pins s1 σ H1 _ I1 q) fun ov s2 ⟨x,H2,I2,rx,a,C,dx,fs,ex,ea,c,n,l,q2⟩=> ?_) hs;subst ex;obtain rfl:ov=Value.ref a:=rx;exact yI I2 ea c n l ry fun s3 I3=>⟨σ,_,I3,q2⟩
def HM{X:Cx}{e:Expr}{pos:Pos}{pl:Sem Bool}{m:Str}{apos:Pos}{args:List Expr}{pins:List (Addr × Obj)}{s:Shared}{σ:St}{H:Hp}{Q:Value->Shared->Prop}{te:TE}(he:PE X e te)(I:Inv X pins σ H s)(h:te σ H fun x H1=>∃a C dx fs g,x= .ref a/\H1 a=some (.ins C dx fs)/\Cls X.K C/\CA X.K C m g/\fs.lookup m=none/\∀s1,Inv X pins σ H1 s1->wpAny (model X.prog X.w) X.A (callWith pos (.ref g) [.ref a] (backTo pos (starEach args X.env)) (backToKw pos (keywordEach [] X.env))) Q X.xe s1) (ht:eval (.Call (.Attribute e m apos) args [] pos) X.env=(do
 let ov<-eval e X.env
 standAt apos.atName
 let(f,first)<-holding [ov] (getMethod ov m pl)
 callWith pos f first (backTo pos (starEach args X.env)) (backToKw pos (keywordEach [] X.env)))):
 wpAny (model X.prog X.w) X.A (eval (.Call (.Attribute e m apos) args [] pos) X.env) Q X.xe s:=by
 refine r_ (pl:=pl) (cZ (he pins s σ H _ I h) fun u s1 ⟨x,H1,I1,rx,a,C,dx,fs,g,ex,ea,c,k,l,q⟩=> ?_) ht;subst ex;obtain rfl:u=Value.ref a:=rx;exact my I1 ea c k l (q s1 I1)
end
section
inductive TyOf(K:Frag)(H:Hp):V->Value->Prop where
 | non:TyOf K H .non (.type "NoneType")
 | bl (x:Bool):TyOf K H (.bl x) (.type "bool")
 | int (i:Int):TyOf K H (.int i) (.type "int")
 | str (x:Str):TyOf K H (.str x) (.type "str")
 | flt (x:UInt64):TyOf K H (.flt x) (.type "float")
 | lst {a:Addr} {xs:List V} (e:H a=some (.lst xs)):TyOf K H (.ref a) (.type "list")
 | frz {a:Addr} {o:Obj} {xs:List V} (e:H a=some (.frz o (.lst xs))):TyOf K H (.ref a) (.type "list")
 | tup {a:Addr} {xs:List V} (e:H a=some (.tup xs)):TyOf K H (.ref a) (.type "tuple")
 | dK {a:Addr} {kvs:List (Key × V)} (e:H a=some (.dK kvs)):TyOf K H (.ref a) (.type "dict")
 | dT {a:Addr} {kvs:List (List Key × V)} (e:H a=some (.dT kvs)):TyOf K H (.ref a) (.type "dict")
 | ins {a C dx:Addr} {fs:List (Str × V)} (e:H a=some (.ins C dx fs)) (cl:Cls K C) (ha:findIn K (.ref C) "__class__"=some (some (.builtin "object.__class__"))) (hn:PySem.W.specialIn K (.builtin "object.__class__") "__get__"=some (some (.builtin "getset_descriptor.__get__"))) (htk:PySem.W.takesIn K (.builtin "object.__class__")=some true) (hm:PySem.W.mroIn K C (.type "object")=some true):TyOf K H (.ref a) (.ref C)
def Cf{σ:St}(I:Inv X pins σ H s)(rx:RelV x u)(ty:TyOf X.K H x t)(e:kitOne X.K t c=some b)(h:∀tk,Q (.bool b) {s with toks:=tk}):wpAny (model X.prog X.w) A (call (.builtin "isinstance") [u,c]) Q E s:=by
 cases ty with
 | non=>cases(show u=Value.none from rx);exact kia_one PySem.W.kitx_none I.kIn True.intro e (fun z=>nomatch z) h
 | bl y=>cases(show u=Value.bool y from rx);exact kia_one PySem.W.kitx_bool I.kIn True.intro e (fun z=>nomatch z) h
 | int i=>obtain⟨t,q⟩:=(show ∃t,u=Value.int i t from rx);cases q;exact kia_one PySem.W.kitx_int I.kIn True.intro e (fun z=>nomatch z) h
 | str y=>obtain⟨t,q⟩:=(show ∃t,u=Value.str y t from rx);cases q;exact kia_one PySem.W.kitx_str I.kIn True.intro e (fun z=>nomatch z) h
 | flt y=>obtain⟨t,q⟩:=(show ∃t,u=Value.float y t from rx);cases q;exact kia_one PySem.W.kitx_float I.kIn True.intro e (fun z=>nomatch z) h
 | @lst a xs ea=>
   cases(show u=Value.ref a from rx);obtain⟨_,_,n,_,h1⟩:=(show ObjOk X.prog X.w H s.heap a (.lst xs) from I.hok a _ ea);exact kia_one OC I.kIn ⟨_,h1,rfl⟩ e (fun z=>nomatch z) h
 | @frz a ob xs ea=>
   cases(show u=Value.ref a from rx);obtain⟨_,_,_,n,_,h1⟩:=(show ObjOk X.prog X.w H s.heap a (.frz ob (.lst xs)) from I.hok a _ ea);exact kia_one OC I.kIn ⟨_,h1,rfl⟩ e (fun z=>nomatch z) h
 | @tup a xs ea=>
   cases(show u=Value.ref a from rx);obtain⟨_,_,_,p⟩:=(show ObjOk X.prog X.w H s.heap a (.tup xs) from I.hok a _ ea);obtain⟨o,h1,h2,_⟩:=p;exact kia_one PySem.W.kitx_tuple I.kIn ⟨o,h1,h2⟩ e (fun z=>nomatch z) h
 | @dK a kvs ea=>
   cases(show u=Value.ref a from rx);obtain⟨_,_,vs,_,p⟩:=(show ObjOk X.prog X.w H s.heap a (.dK kvs) from I.hok a _ ea);obtain⟨o,es,ep,h1,h2,_⟩:=p;exact kia_one OD I.kIn ⟨o,h1,h2.1⟩ e (fun z=>nomatch z) h
 | @dT a kvs ea=>
   cases(show u=Value.ref a from rx);obtain⟨_,_,xs,_,o,es,ep,h1,h2,_⟩:=(show ObjOk X.prog X.w H s.heap a (.dT kvs) from I.hok a _ ea);exact kia_one OD I.kIn ⟨o,h1,h2.1⟩ e (fun z=>nomatch z) h
 | @ins a C dx fs ea cl ha hn htk hm=>
   cases(show u=Value.ref a from rx);obtain⟨mA,O,_⟩:=qu I.hok ea;obtain⟨od,J,_⟩:=O.look;exact kia_one (PySem.W.kitx_own (cl.get _) cl.hd ha hn htk hm) I.kIn J e (fun z=>nomatch z) h
end
structure Room(k:Nat)(A:Around):Prop where
 hd:A.handled=none
 dp:A.depth+3 * k+5<recursionLimit
 un:A.units+16 * k+200<cLine
 gd:A.guards=some []
def Room.mono(r:Room k A)(h:j<=k):Room j A:=⟨r.hd,by have:=r.dp;lia,by have:=r.un;lia,r.gd⟩
def Room.deeper(r:Room (k+1) A)(env:Env):Room k (A.deeper env):=⟨r.hd,by have:=r.dp;show A.depth+1+3 * k+5<_;lia,by have:=r.un;show A.units+3+16 * k+200<_;lia,r.gd⟩
def zE{A:Around}:(A.under (.builtin "type.__call__" ⟨.ref C::us,kw⟩)).depth=A.depth+1:=by
 first | rfl | simp[Around.under,Code.weight,Code.isCreation,Code.isGuard,Code.isCaller,Code.frames,Code.isFrame,guardIds]
def zD{A:Around}:(A.under (.builtin "type.__call__" ⟨.ref C::us,kw⟩)).units=A.units+1:=by
 first | rfl | simp[Around.under,Code.cUnits,Code.frames,Code.isFrame]
def xQ{A:Around}(h:A.guards=some []):(A.under (.builtin "type.__call__" ⟨.ref C::us,kw⟩)).guards=some []:=by
 first | (show pushGuards _ A.guards=_;rw[h];rfl) | simp[Around.under,pushGuards,Code.guards,Code.isGuard,guardIds,h]
def Room.make(r:Room (k+1) A)(C:Addr)(us:List Value)(kw:List (Str × Value)):Room k (A.under (.builtin "type.__call__" ⟨.ref C::us,kw⟩)):=⟨r.hd,by have:=r.dp;rw[zE];lia,by have:=r.un;rw[zD];lia,xQ r.gd⟩
def Room.depth(r:Room k A):A.depth<recursionLimit:=by have:=r.dp;lia
def Room.units(r:Room k A):A.units+64<cLine:=by have:=r.un;lia
def iZ:TA:=fun _ H Q=>Q [] H
def dF(ta:TE)(tr:TA):TA:=fun σ H Q=>ta σ H fun x H1=>tr σ H1 fun xs H2=>Q (x::xs) H2
section
def cf:PA X [] iZ:=fun _ _ _ _ H Q I h=>iG ⟨[],H,I,.nil,h⟩
def d8{X:Cx}{e:Expr}{es:List Expr}{te:TE}{t:TA}(ha:PE X e te)(hr:PA X es t)(hs:starEach (e::es) X.env=(false,eval e X.env)::starEach es X.env:=by rfl):PA X (e::es) (dF te t):=by
 intro pos pins s σ H Q I h;rw[hs];show wpAny _ _ (spliced ((false,eval e X.env)::backTo pos (starEach es X.env))) _ _ s;refine eP (cZ (ha pins s σ H _ I h) fun u s1 ⟨x,H1,I1,r1,q1⟩=> ?_);exact cZ (hr pos pins s1 σ H1 _ I1 q1) fun us s2 ⟨xs,H2,I2,r2,q2⟩=>⟨x::xs,H2,I2,.cons r1 r2,q2⟩
def FC(t:TA):TE:=fun σ H Q=>t σ H fun xs H1=>xs.length<=sizeLine/\∀p,H1 p=none->Q (.ref p) (upd H1 p (.tup xs))
def Iq(t:TA):TE:=fun σ H Q=>t σ H fun xs H1=>xs.length<=sizeLine/\∀p,H1 p=none->Q (.ref p) (upd H1 p (.lst xs))
def IR{X:Cx}{es:List Expr}{t:TA}{pos:Pos}{x1}(h:PA X es t):PE X (.Tuple es x1 pos) (FC t):=by
 intro pins s σ H Q I hq;refine wpAny_Tuple_spliced (cZ (h pos pins s σ H _ I hq) fun us s1 ⟨xs,H1,I1,r,z,q⟩=>⟨by rw[<-r.length];exact z,?_⟩);have hf:H1 s1.heap.objs.size=none:=I1.hok.fresh (ar _);refine⟨.ref s1.heap.objs.size,upd H1 s1.heap.objs.size (.tup xs),I1.laid (t':=s1.toks) (fun b u e=>aC _ e) (ar _) ?_,rfl,q _ hf⟩;exact⟨z,us,r,⟨_,a_ _ rfl,rfl,_,rfl⟩⟩
def bS{X:Cx}{es:List Expr}{t:TA}{pos:Pos}(h:PA X es t):PE X (.List es pos) (Iq t):=by
 intro pins s σ H Q I hq;refine wpAny_List_spliced (cZ (h pos pins s σ H _ I hq) fun us s1 ⟨xs,H1,I1,r,z,q⟩=>⟨by rw[<-r.length];exact z,?_⟩);have hf:H1 s1.heap.objs.size=none:=I1.hok.fresh (ar _);refine⟨.ref s1.heap.objs.size,upd H1 s1.heap.objs.size (.lst xs),I1.laid (t':=s1.toks) (fun b u e=>aC _ e) (ar _) ?_,rfl,q _ hf⟩;exact⟨z,us,0,r,a_ _ rfl⟩
end
abbrev Sp:=List V->Hp->VK->XK->Prop
abbrev Fo:=List Env->Hp->Shared->XK->Value->Shared->Prop
structure Env0(P:Program)(w:World)(K:Frag)(mg:Str->Option Value)(base:Heap)(A:Around)(outer:List Env)(s:Shared)(H:Hp):Prop where
 frames:A.frames=some outer
 mod:Mod K mg base
 bs:∀b o,base.get? b=some o->s.heap.get? b=some o/\H b=none
 bsz:base.objs.size<=s.heap.objs.size
 funs:s.heap.FunFrames base outer
 frf:∀b∈EM outer,H b=none
 hok:HOk P w H s.heap
 bare:AllBare s.gens
def CE(outer:List Env)(P:Program)(w:World)(H:Hp)(s:Shared)(Q:VK)(u:Value)(s':Shared):Prop:=∃v H',s'.os=s.os/\AllBare s'.gens/\Un (EM outer) [] H H' s.heap s'.heap/\HOk P w H' s'.heap/\RelV v u/\Q v H'
def CR(CX:Fo)(outer:List Env)(P:Program)(w:World)(H:Hp)(s:Shared)(Q:VK)(E:XK)(r:Result)(s':Shared):Prop:=match r with
 | .ok (.ret u)=>CE outer P w H s Q u s'
 | .ok _=>False
 | .error e=>CX outer H s E e s'
structure b_(P:Program)(w:World)(K:Frag)(mg:Str->Option Value)(base:Heap)(CX:Fo)(k:Nat)(f:Addr)(fd:FuncData)(ps:List Str)(sp:Sp):Prop where
 len:∀vs H Q E,sp vs H Q E->vs.length=ps.length
 run:∀(A:Around) (outer:List Env) (s:Shared) (H:Hp) (args:Args) (us:List Value) (vs:List V) (Q:VK) (E:XK),Room k A->Env0 P w K mg base A outer s H->BindsTo s fd args (ps.zip us)->Vals vs us->sp vs H Q E->codeAny (model P w) A (.call (.ref f) args) (CR CX outer P w H s Q E) s
def Env0.make{K:Frag}(e:Env0 P w K mg base A outer s H)(C:Addr)(us:List Value)(kw:List (Str × Value)):Env0 P w K mg base (A.under (.builtin "type.__call__" ⟨.ref C::us,kw⟩)) outer s H:=⟨by first | exact e.frames | (simpa[Around.under,Code.envs,Code.isFrame,pushEnvs] using e.frames),e.mod,e.bs,e.bsz,e.funs,e.frf,e.hok,e.bare⟩
section
def Inv.env0{σ:St}(I:Inv X pins σ H s):Env0 X.prog X.w X.K X.mg X.base X.A X.stack s H:=⟨I.ok.frames,I.ok.mod,I.bs,ai I.ok.bsz I.sz,I.stack,I.stkFree,I.hok,I.bare⟩
def Inv.after{σ:St}(I:Inv X pins σ H s)(h:CE X.stack X.prog X.w H s Q u s'):EP X pins σ Q u s':=by
 obtain⟨v,H',os,bare,un,hok,r,q⟩:=h;obtain⟨hh,g,d,t,os'⟩:=s';obtain rfl:os'=s.os:=os;exact⟨v,H',I.call (h':=hh) (g':=g) (d':=d) (t':=t) (ch:=[]) un hok bare (fun b z=>absurd z (by simp)),r,q⟩
end
def qH(sp:Sp)(dvs:List V)(E:XK)(t:TA):TE:=fun σ H Q=>t σ H fun vs H1=>sp (vs++dvs) H1 Q E
inductive Ad(C:Addr)(m:Str)(sp:Sp)(dvs:List V)(E:XK)(t:TA)(σ:St)(Q:VK)(x:V)(H1:Hp)(a:Addr):Prop
 | mk:∀dx fs,(H1 a=some (.ins C dx fs))->(fs.lookup m=none)->(t σ H1 fun vs H2=>sp (x::(vs++dvs)) H2 Q E)->Ad C m sp dvs E t σ Q x H1 a
def Ae(C:Addr)(m:Str)(sp:Sp)(dvs:List V)(E:XK)(ta:TE)(t:TA):TE:=fun σ H Q=>ta σ H fun x H1=>onR x fun a=>Ad C m sp dvs E t σ Q x H1 a
def Af(C:Addr)(sp:Sp)(dvs:List V)(E:XK)(t:TA):TE:=fun σ H Q=>t σ H fun vs H1=>∀x dx,H1 x=none->H1 dx=none->dx≠x->sp (.ref x::(vs++dvs)) (upd (upd H1 dx (.own x)) x (.ins C dx [])) (fun v H2=>v= .non/\Q (.ref x) H2) E
def Binds(K:Frag)(fd:FuncData)(ps:List Str)(ds:List Value):Prop:=∀s us,K.In s.heap->(us++ds).length=ps.length->BindsTo s fd ⟨us,[]⟩ (ps.zip (us++ds))
def Binds.all{K:Frag}(h:∀us:List Value,us.length=ps.length->bindArgs fd ⟨us,[]⟩=pure (ps.zip us)):Binds K fd ps []:=fun s us _ hl=>by
 rw[jN] at hl⊢;exact .of_eq (h us hl)
def kF(CX:Fo)(X:Cx)(E:XK):Prop:=∀(pins:List (Addr × Obj)) (σ:St) (H:Hp) (s:Shared) (e:Value) (s':Shared),Inv X pins σ H s->CX X.stack H s E e s'->X.xe e s'
section
def y_{σ:St}(F:b_ X.prog X.w X.K X.mg X.base CX k f fd ps sp)(hr:Room k X.A)(hb:Binds X.K fd ps ds)(hd:Vals dvs ds)(hx:kF CX X E)(I:Inv X pins σ H s)(r:Vals vs us)(h:sp (vs++dvs) H Q E):wpAny (model X.prog X.w) X.A (call (.ref f) us) (EP X pins σ Q) X.xe s:=by
 have r2:Vals (vs++dvs) (us++ds):=r.append hd;have hl:(us++ds).length=ps.length:=by rw[<-r2.length];exact F.len _ _ _ _ h
 refine wpAny_call (zS (F.run X.A X.stack s H ⟨us,[]⟩ (us++ds) (vs++dvs) Q E hr I.env0 (hb s us I.kIn hl) r2 h) fun r s' hq=> ?_);cases r with
 | error e=>exact hx pins σ H s e s' I hq
 | ok fl=>
   cases fl with
   | ret u=>exact I.after hq
   | next=>exact False.elim hq
   | brk=>exact False.elim hq
   | cont=>exact False.elim hq
def Bg{X:Cx}{CX:Fo}{k:Nat}{f:Addr}{fd:FuncData}{ps:List Str}{sp:Sp}{dvs:List V}{ds:List Value}{E:XK}{x:Str}{p pos:Pos}{e:Expr}{es:List Expr}{t:TA}(F:b_ X.prog X.w X.K X.mg X.base CX k f fd ps sp)(hr:Room k X.A)(hg:Gl X x)(hm:X.mg x=some (.ref f))(hk:keepIn X.K (.ref f)=true)(hb:Binds X.K fd ps ds)(hd:Vals dvs ds)(hx:kF CX X E)(ha:PA X (e::es) t)(hdb:(x==("__debug__":Str))=false:=by decide)(he:starEach (e::es) X.env=(false,eval e X.env)::starEach es X.env:=by rfl)(hpl:(backTo pos (starEach es X.env)).any (·.1)=false:=by rfl):PE X (.Call (.Name x p) (e::es) [] pos) (qH sp dvs E t):=by
 intro pins s σ H Q I h;refine hJ (qr I hg hm ?_ hdb);refine yo (h₀:=X.base) I.ok.mod.kin hk (cZ (ha pos pins s σ H _ I h) fun us s1 ⟨vs,H1,I1,r,q⟩=>⟨I1.kIn,?_⟩) he hpl;exact y_ F hr hb hd hx I1 r q
def F7{X:Cx}{CX:Fo}{k:Nat}{f C:Addr}{fd:FuncData}{ps:List Str}{sp:Sp}{dvs:List V}{ds:List Value}{E:XK}{m:Str}{pos apos:Pos}{e o:Expr}{es:List Expr}{ta:TE}{t:TA}{pl:Sem Bool}(he:PE X o ta)(c:Cls X.K C)(hm:CA X.K C m f)(F:b_ X.prog X.w X.K X.mg X.base CX k f fd ps sp)(hr:Room k X.A)(hb:Binds X.K fd ps ds)(hd:Vals dvs ds)(hx:kF CX X E)(ha:PA X (e::es) t)(hst:starEach (e::es) X.env=(false,eval e X.env)::starEach es X.env:=by rfl)(hpl:(backTo pos (starEach es X.env)).any (·.1)=false:=by rfl)(ht:eval (.Call (.Attribute o m apos) (e::es) [] pos) X.env=(do
 let ov<-eval o X.env
 standAt apos.atName
 let(f,first)<-holding [ov] (getMethod ov m pl)
 callWith pos f first (backTo pos (starEach (e::es) X.env)) (backToKw pos (keywordEach [] X.env))):=by rfl):
 PE X (.Call (.Attribute o m apos) (e::es) [] pos) (Ae C m sp dvs E ta t):=by
 intro pins s σ H Q I h;refine r_ (pl:=pl) (cZ (he pins s σ H _ I h) fun u s1 ⟨x,H1,I1,rx,q0⟩=> ?_) ht;obtain⟨a,ex,dx,fs,ea,l,q⟩:=onR.ex q0;subst ex;obtain rfl:u=Value.ref a:=rx;refine my I1 ea c hm l ?_;refine yo (first:=[.ref a]) (h₀:=X.base) I.ok.mod.kin hm.kp (cZ (ha pos pins s1 σ H1 _ I1 q) fun us s2 ⟨vs,H2,I2,r,q2⟩=>⟨I2.kIn,?_⟩) hst hpl;exact y_ (us:= .ref a::us) (vs:= .ref a::vs) F hr hb hd hx I2 (.cons rfl r) q2
def Dz{X:Cx}{CX:Fo}{k:Nat}{f C:Addr}{fd:FuncData}{ps:List Str}{sp:Sp}{dvs:List V}{ds:List Value}{E:XK}{m:Str}{pos apos:Pos}{o:Expr}{ta:TE}{pl:Sem Bool}(he:PE X o ta)(c:Cls X.K C)(hm:CA X.K C m f)(F:b_ X.prog X.w X.K X.mg X.base CX k f fd ps sp)(hr:Room k X.A)(hb:Binds X.K fd ps ds)(hd:Vals dvs ds)(hx:kF CX X E)(ht:eval (.Call (.Attribute o m apos) [] [] pos) X.env=(do
 let ov<-eval o X.env
 standAt apos.atName
 let(f,first)<-holding [ov] (getMethod ov m pl)
 callWith pos f first (backTo pos (starEach [] X.env)) (backToKw pos (keywordEach [] X.env))):=by rfl):
 PE X (.Call (.Attribute o m apos) [] [] pos) (Ae C m sp dvs E ta iZ):=by
 intro pins s σ H Q I h;refine r_ (pl:=pl) (cZ (he pins s σ H _ I h) fun u s1 ⟨x,H1,I1,rx,q0⟩=> ?_) ht;obtain⟨a,ex,dx,fs,ea,l,q⟩:=onR.ex q0;subst ex;obtain rfl:u=Value.ref a:=rx;refine my I1 ea c hm l ?_;exact NM (first:=[.ref a]) I1.kIn hm.kp (y_ (us:=[.ref a]) (vs:=[.ref a]) F hr hb hd hx I1 (.cons rfl .nil) q)
structure Mk(K:Frag)(C f:Addr):Prop where
 makes:makesIn K C=true
 init:findIn K (.ref C) "__init__"=some (some (.ref f))
 fn:isFn K (.ref f)=true
 kp:keepIn K (.ref C)=true
def xf{σ:St}(M:Mk X.K C f)(F:b_ X.prog X.w X.K X.mg X.base CX k f fd ps sp)(hr:Room (k+1) X.A)(hb:Binds X.K fd ps ds)(hd:Vals dvs ds)(hx:kF CX X E)(I:Inv X pins σ H s)(r:Vals vs us)(h:∀x dx,H x=none->H dx=none->dx≠x->sp (.ref x::(vs++dvs)) (upd (upd H dx (.own x)) x (.ins C dx [])) (fun v H2=>v= .non/\Q (.ref x) H2) E):wpAny (model X.prog X.w) X.A (call (.ref C) us) (EP X pins σ Q) X.xe s:=by
 have hq:=h (s.heap.objs.size+1) s.heap.objs.size (I.hok.fresh (bD _)) (I.hok.fresh (ar _)) (bI (jm _));have I2:=Inv.made (C:=C) I;have r2:Vals (V.ref (s.heap.objs.size+1)::(vs++dvs)) (Value.ref (s.heap.objs.size+1)::(us++ds)):= .cons rfl (r.append hd);have hl:(Value.ref (s.heap.objs.size+1)::us++ds).length=ps.length:=by
  have e:=r2.length;rw[F.len _ _ _ _ hq] at e;exact e.symm
 refine wpAny_call (Eg (f:=f) I.kIn M.makes M.init (lj.mp M.fn) (zS (F.run _ X.stack _ _ ⟨Value.ref (s.heap.objs.size+1)::us,[]⟩ (Value.ref (s.heap.objs.size+1)::(us++ds)) _ _ E (hr.make C us []) (I2.env0.make C us []) (hb _ (Value.ref (s.heap.objs.size+1)::us) I2.kIn hl) r2 hq) fun r s' hq'=> ?_));cases r with
 | error e=>exact hx pins σ _ _ e s' I2 hq'
 | ok fl=>
   cases fl with
   | ret u=>
     obtain⟨v,H',I3,rv,ev,q3⟩:=I2.after hq';subst ev;exact⟨rv,⟨V.ref (s.heap.objs.size+1),H',I3,rfl,q3⟩⟩
   | next=>exact False.elim hq'
   | brk=>exact False.elim hq'
   | cont=>exact False.elim hq'
def F8{X:Cx}{CX:Fo}{k:Nat}{f C:Addr}{fd:FuncData}{ps:List Str}{sp:Sp}{dvs:List V}{ds:List Value}{E:XK}{x:Str}{p pos:Pos}{e:Expr}{es:List Expr}{t:TA}(M:Mk X.K C f)(F:b_ X.prog X.w X.K X.mg X.base CX k f fd ps sp)(hr:Room (k+1) X.A)(hg:Gl X x)(hm:X.mg x=some (.ref C))(hb:Binds X.K fd ps ds)(hd:Vals dvs ds)(hx:kF CX X E)(ha:PA X (e::es) t)(hdb:(x==("__debug__":Str))=false:=by decide)(he:starEach (e::es) X.env=(false,eval e X.env)::starEach es X.env:=by rfl)(hpl:(backTo pos (starEach es X.env)).any (·.1)=false:=by rfl):PE X (.Call (.Name x p) (e::es) [] pos) (Af C sp dvs E t):=by
 intro pins s σ H Q I h;refine hJ (qr I hg hm ?_ hdb);refine yo (h₀:=X.base) I.ok.mod.kin M.kp (cZ (ha pos pins s σ H _ I h) fun us s1 ⟨vs,H1,I1,r,q⟩=>⟨I1.kIn,?_⟩) he hpl;exact xf M F hr hb hd hx I1 r q
def DA{X:Cx}{CX:Fo}{k:Nat}{f C:Addr}{fd:FuncData}{ps:List Str}{sp:Sp}{dvs:List V}{ds:List Value}{E:XK}{x:Str}{p pos:Pos}(M:Mk X.K C f)(F:b_ X.prog X.w X.K X.mg X.base CX k f fd ps sp)(hr:Room (k+1) X.A)(hg:Gl X x)(hm:X.mg x=some (.ref C))(hb:Binds X.K fd ps ds)(hd:Vals dvs ds)(hx:kF CX X E)(hdb:(x==("__debug__":Str))=false:=by decide):PE X (.Call (.Name x p) [] [] pos) (Af C sp dvs E iZ):=by
 intro pins s σ H Q I h;refine hJ (qr I hg hm ?_ hdb);exact NM I.kIn M.kp (xf (us:=[]) M F hr hb hd hx I .nil h)
end
section
end
structure bw(N P:List Str)(sc:Scope):Prop where
 kind:sc.kind= .function
 co:sc.isCoroutine=false
 gen:sc.isGenerator=false
 nd:N.Nodup
 pre:N.take P.length=P
 par:∀x∈P,sc.names.lookup x=some .local\/sc.names.lookup x=some .cell
 nofree:∀y∈sc.names,y.2≠ .free
theorem uw{kindOf:Str->Option NameKind}:∀{binds:List (Str × Value)} {m:Str->Option Value},(∀v,(x,v)∉binds)->bindL kindOf binds m x=m x
 | [],_,_=>rfl
 | (n,v)::r,m,h=>by
   unfold bindL;rw[uw fun w hw=>h w (aG _ hw)]
   split
   · have:x≠n:=by rintro rfl;exact h v aL
     simp[this]
   · rfl
theorem uy{kindOf:Str->Option NameKind}:∀{binds:List (Str × Value)} {m:Str->Option Value},(∀v,(x,v)∉binds)->bindC kindOf binds m x=m x
 | [],_,_=>rfl
 | (n,v)::r,m,h=>by
   unfold bindC;rw[uy fun w hw=>h w (aG _ hw)]
   split
   · rfl
   · have:x≠n:=by rintro rfl;exact h v aL
     simp[this]
theorem ux{kindOf:Str->Option NameKind}:∀{P:List Str} {vs:List Value} {i:Nat} {m:Str->Option Value},P.Nodup->P[i]? =some x->vs[i]? =some v->kindOf x=some .local->bindL kindOf (P.zip vs) m x=some v
 | [],_,_,_,_,h,_,_=>by simp at h
 | _::_,[],_,_,_,_,h,_=>by simp at h
 | p::P,w::vs,0,m,nd,h1,h2,hk=>by
   simp at h1 h2;subst h1;subst h2;show bindL kindOf ((p,w)::P.zip vs) m p=_;unfold bindL;rw[uw fun v hv=>(de.mp nd).1 (Fm hv).1,aE hk];simp
 | p::P,w::vs,i+1,m,nd,h1,h2,hk=>by
   show bindL kindOf ((p,w)::P.zip vs) m x=_;unfold bindL;exact ux (i:=i) (de.mp nd).2 (by simpa using h1) (by simpa using h2) hk
theorem uz{kindOf:Str->Option NameKind}:∀{P:List Str} {vs:List Value} {i:Nat} {m:Str->Option Value},P.Nodup->P[i]? =some x->vs[i]? =some v->kindOf x≠some .local->bindC kindOf (P.zip vs) m x=some v
 | [],_,_,_,_,h,_,_=>by simp at h
 | _::_,[],_,_,_,_,h,_=>by simp at h
 | p::P,w::vs,0,m,nd,h1,h2,hk=>by
   simp at h1 h2;subst h1;subst h2;show bindC kindOf ((p,w)::P.zip vs) m p=_;unfold bindC;rw[uy fun v hv=>(de.mp nd).1 (Fm hv).1,aA hk];simp
 | p::P,w::vs,i+1,m,nd,h1,h2,hk=>by
   show bindC kindOf ((p,w)::P.zip vs) m x=_;unfold bindC;exact uz (i:=i) (de.mp nd).2 (by simpa using h1) (by simpa using h2) hk
noncomputable def lI(N:List Str)(vs:List V):St:=vs.map some++List.replicate (N.length - vs.length) none
noncomputable def ye(CX:Fo)(P:Program)(w:World)(K:Frag)(mg:Str->Option Value)(base:Heap)(N:List Str)(qual:Str)(scope:Scope)(f:Addr)(cd:Value)(A:Around)(outer:List Env)(s:Shared)(H:Hp)(E:XK):Cx where
 prog:=P
 w:=w
 K:=K
 mg:=mg
 base:=base
 A:=A.deeper (envOfC qual scope s.heap.objs.size f cd)
 N:=N
 s₀:=s
 H₀:=H
 env:=envOfC qual scope s.heap.objs.size f cd
 outer:=outer
 stack:=envOfC qual scope s.heap.objs.size f cd::outer
 ex:=[]
 calm:=true
 fn:=fun _=>true
 pn:=[]
 xe:=fun e s'=>wpAny (model P w) (A.deeper (envOfC qual scope s.heap.objs.size f cd)) (leaving (envOfC qual scope s.heap.objs.size f cd) e) (fun _ s''=>CX outer H s E e s'') (fun e' s''=>CX outer H s E e' s'') s'
def yf{sc:Scope}(h:sc.names.lookup x=some .cell):∃c,(cellsFrom n sc.names []).lookup x=some c:=by
 have q:=Lz sc.names n [] (.inl h);exact nW.mp q
def Cg{K:Frag}(S:bw N ps scope)(hd:A.handled=none)(e0:Env0 P w K mg base A outer s H)(hl:vs.length=ps.length)(r:Vals vs us)(x:InCallC s s.heap.objs.size (bindL (envOfC qual scope s.heap.objs.size f cd).kindOf (ps.zip us) fun _=>none) (cellsFrom (s.heap.objs.size+1) scope.names []) (bindC (envOfC qual scope s.heap.objs.size f cd).kindOf (ps.zip us) fun _=>none) s1):Inv (ye CX P w K mg base N qual scope f cd A outer s H E) [] (lI N vs) H s1:=by
 have hpl:ps.length<=N.length:=by have:=congrArg List.length S.pre;rw[cw] at this;lia
 obtain⟨h1,tk,rfl,hk⟩:=x.done;have noA:∀b:Addr,b∉(ye CX P w K mg base N qual scope f cd A outer s H E).ex:=fun b z=>absurd (show b∈([]:List Addr) from z) (by simp);refine⟨⟨e0.mod,S.kind,rfl,rfl,ar _,fun y z c h1 h2=> ?_,fun y hy=> ?_,fun y c _ h=> ?_,fun _=>hd,Around.frames_deeper e0.frames,.inr ⟨rfl,rfl⟩,fun b z=>absurd z (noA b),e0.bs,e0.bsz,fun b _ _=>noA b,fun b z=>absurd z (noA b),e0.funs,e0.frf⟩,
  rfl,e0.bare,Un.kept hk,⟨_,x.toInCall.ns,fun i y v h1 h2 h3=> ?_⟩,fun y c h=>⟨_,x.cell y c h⟩,e0.hok.fresh (ar _),fun y c h=> ?_,fun p hp=>absurd (show p∈([]:List (Addr × Obj)) from hp) (by simp),e0.hok.kept hk,?_⟩
 · exact name_of_addr x.apart (cU h1) (cU h2)
 · have hy:scope.names.lookup y=some .cell\/scope.names.lookup y=some .free:=hy;rcases hy with hy | hy
   · exact yf hy
   · exact absurd rfl (S.nofree _ (cU hy))
 · exact eF (x.above y c (cU h))
 · have hi:i<vs.length:=by
    unfold lI at h2;by_cases hi:i<vs.length
    · exact hi
    · rw[cy (by simpa using hi)] at h2;rw[oV] at h2
      split at h2<;>cases h2
   have ha:vs[i]? =some v:=by
    unfold lI at h2;rw[bQ (by simpa using hi),aH] at h2;cases e:vs[i]? with
    | none=>rw[e] at h2;cases h2
    | some a=>rw[e] at h2;cases h2;rfl
   obtain⟨u,hu,rv⟩:=r.get ha;have hp:ps[i]? =some y:=by
    rw[<-S.pre,List.getElem?_take_of_lt (by lia)];exact h1
   have ndP:ps.Nodup:=by rw[<-S.pre];exact S.nd.sublist (OE _ _)
   refine⟨u,rv,?_⟩;rcases S.par y (au hp) with k | k
   · exact .inl ⟨k,ux ndP hp hu k⟩
   · obtain⟨c,e⟩:=yf (n:=s.heap.objs.size+1) k;refine .inr ⟨.inl k,c,e,?_⟩;have q:=x.cell y c e;rw[uz ndP hp hu (by show scope.names.lookup y≠_;rw[k];decide)] at q;exact q
 · exact e0.hok.fresh (eF (x.above y c (cU h)))
 · unfold lI;show _=N.length;rw[ak,ae,dQ]
   lia
def HX{K:Frag}{kV:Value}(lk:K.lookup f=some ⟨oc,od,.func (fnOf name qual params body scope dV kV doc pm an cdv ct),osl⟩)(hcd:codeIn K cdv qual=true)(S:bw N ps scope)(len:∀vs H Q E,sp vs H Q E->vs.length=ps.length)(hbody:∀A outer s H vs Q E,Room k (A.deeper (envOfC qual scope s.heap.objs.size f cdv))->sp vs H Q E->∃t,PSs (ye CX P w K mg base N qual scope f cdv A outer s H E) body t/\t {nx:=fun _ H'=>Q .non H',rt:=Q} (lI N vs) H):b_ P w K mg base CX (k+1) f (fnOf name qual params body scope dV kV doc pm an cdv ct) ps sp:=by
 refine⟨len,fun A outer s H args us vs Q E hr e0 hb r hsp=> ?_⟩;have hl:=len _ _ _ _ hsp;have KX:K.In s.heap:=e0.mod.kin.keeps fun b o e=>(e0.bs b o e).1;have lim:s.heap.NoLimit:=e0.mod.nolimit.keeps fun b o e=>(e0.bs b o e).1;have hkind:∀y∈ps.zip us,scope.names.lookup y.1=some .local\/(scope.names.lookup y.1=some .cell/\((cellsFrom (s.heap.objs.size+1) scope.names []).lookup y.1).isSome=true):=fun⟨n,v⟩ hy=>by
  rcases S.par n (Fm hy).1 with q | q
  · exact .inl q
  · exact .inr ⟨q,Lz _ _ _ (.inl q)⟩
 refine codeAny_call_function hr.depth (KX _ _ lk) rfl S.co S.gen rfl (PySem.W.codeRec_of KX hcd) (hb _ _ _ _ ?_);refine wpAny_newFunctionEnv_cells S.kind hkind fun env he s1 x=> ?_;subst he;refine⟨lim.keeps x.toInCall.keep,codeAny_func ?_⟩;obtain⟨t,ht,hq⟩:=hbody A outer s H vs Q E (hr.deeper _) hsp;have I:Inv (ye CX P w K mg base N qual scope f cdv A outer s H E) [] (lI N vs) H s1:=Cg S hr.hd e0 hl r x;refine cJ (ht [] s1 (lI N vs) H _ I hq) (fun fl s' hs=> ?_) fun e s' hs=>hs;have fin:∀{σ':St} {H':Hp} {v:V} {u:Value},Inv (ye CX P w K mg base N qual scope f cdv A outer s H E) [] σ' H' s'->RelV v u->Q v H'->CE outer P w H s Q u s':=
  fun {σ' H' v u} J rv q=>⟨v,H',J.os,J.bare,J.base,J.hok,rv,q⟩
 cases fl with
 | ret u=>
   obtain⟨v,σ',H',J,rv,q⟩:=hs;exact fin J rv q
 | next=>
   obtain⟨σ',H',J,q⟩:=hs;exact fin (v:=V.non) (u:=Value.none) J rfl q
 | brk=>
   obtain⟨_,_,_,q⟩:=hs;exact False.elim q
 | cont=>
   obtain⟨_,_,_,q⟩:=hs;exact False.elim q
section
def LV(r:List V->Hp->VK->Prop)(t:TA):TE:=fun σ H Q=>t σ H fun vs H1=>r vs H1 Q
def fC{X:Cx}{x:Str}{p pos:Pos}{e:Expr}{es:List Expr}{t:TA}{id:String}{r:List V->Hp->VK->Prop}(hc:n_ X (.builtin id) r)(hg:Gl X x)(hm:X.mg x=none)(hv:bootBuiltins x=some (.builtin id))(ha:PA X (e::es) t)(hn:x≠"__name__":=by decide)(hdb:(x==("__debug__":Str))=false:=by decide)(he:starEach (e::es) X.env=(false,eval e X.env)::starEach es X.env:=by rfl)(hpl:(backTo pos (starEach es X.env)).any (·.1)=false:=by rfl):PE X (.Call (.Name x p) (e::es) [] pos) (LV r t):=by
 intro pins s σ H Q I h;refine hJ (kg I hg hm hv ?_ hn hdb);exact PyProof.Rows.callWith_builtin1 (cZ (ha pos pins s σ H _ I h) fun us s1 ⟨vs,H1,I1,r1,q1⟩=>hc pins s1 σ H1 vs us Q I1 r1 q1) he hpl
def fI{X:Cx}{x:Str}{p pos:Pos}{e:Expr}{es:List Expr}{t:TA}{T:String}{r:List V->Hp->VK->Prop}(hc:n_ X (.type T) r)(hg:Gl X x)(hm:X.mg x=none)(hv:bootBuiltins x=some (.type T))(ha:PA X (e::es) t)(hn:x≠"__name__":=by decide)(hdb:(x==("__debug__":Str))=false:=by decide)(he:starEach (e::es) X.env=(false,eval e X.env)::starEach es X.env:=by rfl)(hpl:(backTo pos (starEach es X.env)).any (·.1)=false:=by rfl):PE X (.Call (.Name x p) (e::es) [] pos) (LV r t):=by
 intro pins s σ H Q I h;refine hJ (kg I hg hm hv ?_ hn hdb);exact dA (cZ (ha pos pins s σ H _ I h) fun us s1 ⟨vs,H1,I1,r1,q1⟩=>hc pins s1 σ H1 vs us Q I1 r1 q1) he hpl
end
end L2
namespace HT
open PySem PyProof.Rows
section
open PySem.SeqAt
open PySem.AutoSeq1 (wpAny_loadPart')
open PySem.MeetsSeq PySem.MeetsSeq2 PySem.MeetsSeq3
end
section
noncomputable def sIx(n d:Nat):Option Int->Nat
 | none=>d
 | some v=>if v<0 then(v+(n:Int)).toNat else min v.toNat n
def sIx_nat(n d k:Nat):sIx n d (some (k:Int))=min k n:=by
 show(if(k:Int)<0 then((k:Int)+(n:Int)).toNat else min (k:Int).toNat n)=min k n;rw[aA (by lia),cz]
def sIx_le(n d:Nat)(hd:d<=n)(o:Option Int):sIx n d o<=n:=by
 cases o with
 | none=>exact hd
 | some v=>
   show(if v<0 then(v+(n:Int)).toNat else min v.toNat n)<=n;by_cases hv:v<0
   · rw[aE hv];lia
   · rw[aA hv];exact Nat.min_le_right _ _
def clip_eq(v:Int)(n d:Nat):(if v<0 then max (v+(n:Int)) 0 else min v (n:Int))=((sIx n d (some v):Nat):Int):=by
 show(if v<0 then max (v+(n:Int)) 0 else min v (n:Int))=(((if v<0 then(v+(n:Int)).toNat else min v.toNat n):Nat):Int);by_cases hv:v<0
 · simp only[aE hv];lia
 · simp only[aA hv];lia
def zW(lo hi:Option Int)(n:Nat):Builtin.Slice.sliceAdjust lo hi 1 (n:Int)=(((sIx n 0 lo:Nat):Int),((sIx n n hi:Nat):Int)):=by
 have h1:¬ ((1:Int)<0):=by lia
 unfold Builtin.Slice.sliceAdjust;simp only[h1,GL];refine Prod.ext ?_ ?_
 · cases lo with
   | none=>rfl
   | some v=>exact clip_eq v n 0
 · cases hi with
   | none=>rfl
   | some v=>exact clip_eq v n n
def zg(i j:Nat):Builtin.Slice.slicePlaces (i:Int) (j:Int) 1=j - i:=by
 unfold Builtin.Slice.slicePlaces;have h1:(1:Int)>0:=by lia
 simp only[h1,kr,Int.ediv_one]
 split<;>lia
def qT(p:IsPart v o)(h:Q o s):wpAny (model prog w) A (Builtin.Slice.slicePartIndex v) Q E s:=by
 cases p with
 | none=>exact slicePart_none h
 | int i t=>exact slicePart_int h
def oj{lo:Option Int}{n:Nat}(hs:s.heap.IsSliceOf sl vl vu .none)(pl:IsPart vl lo)(pu:IsPart vu hi)(h:Q (((sIx n 0 lo:Nat):Int),1,sIx n n hi - sIx n 0 lo) s):wpAny (model prog w) A (Builtin.Slice.sliceApplied (.ref sl) (pure (n:Int))) Q E s:=by
 obtain⟨os,hos,hcs,hds⟩:=id hs;unfold Builtin.Slice.sliceApplied Builtin.Slice.sliceFields;refine aa (aa (dj hos hds (x:=vl) rfl (aa (dj hos hds (x:=vu) rfl (aa (dj hos hds (x:= .none) rfl (aK ?_)))))));refine aa (slicePart_none ?_);show wpAny _ _ (if((1:Int)==0)=true then _ else _) _ _ s;rw[aA (by decide)];refine aa (qT pl (aa (qT pu (aa (aK ?_)))));show wpAny _ _ (match Builtin.Slice.sliceAdjust lo hi 1 (n:Int) with | (lo,hi)=>pure (lo,(1:Int),Builtin.Slice.slicePlaces lo hi 1)) _ _ s;rw[zW lo hi n];show wpAny _ _ (pure (((sIx n 0 lo:Nat):Int),(1:Int),Builtin.Slice.slicePlaces ((sIx n 0 lo:Nat):Int) ((sIx n n hi:Nat):Int) 1)) _ _ s;rw[zg];exact aK h
def Dv(xs:Array Value)(i k:Nat):((List.range k).filterMap fun(m:Nat)=>xs[((i:Int)+(m:Int) * 1).toNat]?).toArray=((xs.toList.drop i).take k).toArray:=by
 have e:(fun(m:Nat)=>xs[((i:Int)+(m:Int) * 1).toNat]?)=fun m=>xs[i+m]? :=by
  funext m
  have:((i:Int)+(m:Int) * 1).toNat=i+m:=by lia
  rw[this]
 rw[e];have:=pick_run xs i k;rw[Ou] at this;have e2:((fun x=>xs[x]?)∘fun x=>i+x)=fun m=>xs[i+m]? :=rfl;rw[e2] at this;rw[this]
def getItem_tuple_cut{lo:Option Int}(ht:IsTup s.heap t items)(hs:s.heap.IsSliceOf sl vl vu .none)(pl:IsPart vl lo)(pu:IsPart vu hi)(hw:¬ (sIx items.size 0 lo=0/\sIx items.size items.size hi=items.size))(h:Q (.ref s.heap.objs.size) {s with heap:=s.heap.push {cls:= .type "tuple",data:= .seq ((items.toList.drop (sIx items.size 0 lo)).take (sIx items.size items.size hi - sIx items.size 0 lo)).toArray}})(hsz:items.size<=sizeLine):wpAny (model prog w) A (getItem (.ref t) (.ref sl)) Q E s:=by
 have htake:sizeOk (.seq ((items.toList.drop (sIx items.size 0 lo)).take (sIx items.size items.size hi - sIx items.size 0 lo)).toArray):=by
  show((items.toList.drop (sIx items.size 0 lo)).take (sIx items.size items.size hi - sIx items.size 0 lo)).toArray.size<=sizeLine;rw[aV,cw,jo,gQ]
  lia
 have hj:sIx items.size items.size hi<=items.size:=sIx_le _ _ (ar _) hi;obtain⟨os,hos,hcs,hds⟩:=id hs;have hTs:s.TypeIs (.ref sl) "slice":=⟨os,hos,hcs⟩;unfold getItem
 try with_reducible refine dW ?_
 first | refine aa (aK ?_) | skip
 refine aa (wpAny_sequenceKey ht.typeIs (by decide) ?_);refine aa (fG (name:=Str.ofString "__getitem__") ht.typeIs iR (iY iR ht.typeIs entry_tuple_getitem ?_ (args_tuple_getitem _ _)));show wpAny _ _ (Builtin.Tuple.tupleItemsOf (.ref t)>>=_) _ _ s;refine aa (tupleItemsOf_ ht ?_);refine aa (wpAny_typeOf hTs ?_);rw[aE (by decide)];refine aa (oj hs pl pu ?_);have hno:¬ ((((sIx items.size 0 lo:Nat):Int)==0&&(1:Int)==1&&(sIx items.size items.size hi - sIx items.size 0 lo)==items.size)=true):=by
  intro q;rw[aP,aP] at q;have q1:((sIx items.size 0 lo:Nat):Int)=0:=eq_of_beq q.1.1;have q2:sIx items.size items.size hi - sIx items.size 0 lo=items.size:=eq_of_beq q.2;exact hw ⟨by lia,by lia⟩
 show wpAny _ _ (if(((sIx items.size 0 lo:Nat):Int)==0&&(1:Int)==1&&(sIx items.size items.size hi - sIx items.size 0 lo)==items.size)=true then _ else _) _ _ s;rw[aA hno,Dv]
 first
  | exact aa (m:=Builtin.Tuple.tupleExact _) (dC (aK ⟨_,rfl,aK h⟩) htake)
  | exact aa (m:=Builtin.Tuple.tupleExact _) (dC (aa (aK (aK ⟨_,rfl,aK h⟩))) htake)
  | exact aa (aa (m:=Builtin.Tuple.tupleExact _) (dC (aK (aK ⟨_,rfl,aK h⟩)) htake))
  | exact aa (aa (m:=Builtin.Tuple.tupleExact _) (dC (aK ⟨_,rfl,aK h⟩) htake))
end
end HT
namespace L2
open PySem PySem.Spec PyProof.Rows
abbrev TO:=St->Hp->(Option Int->Hp->Prop)->Prop
def PO(X:Cx)(e:Option Expr)(t:TO):Prop:=∀(pins:List (Addr × Obj)) (s:Shared) (σ:St) (H:Hp) (Q:Option Int->Hp->Prop),Inv X pins σ H s->t σ H Q->wpAny (model X.prog X.w) X.A (evalPart e X.env) (fun u s'=>∃o H',Inv X pins σ H' s'/\IsPart u o/\Q o H') X.xe s
def FD:TO:=fun _ H Q=>Q none H
def Kt(t:TE):TO:=fun σ H Q=>t σ H fun x H1=>∃i,x= .int i/\Q (some i) H1
section
def fT:PO X none FD:=by
 intro pins s σ H Q I h;rw[evalPart_none];exact aK ⟨none,H,I,.none,h⟩
def fe(h:PE X e te):PO X (some e) (Kt te):=by
 intro pins s σ H Q I hw;rw[evalPart_some];refine cZ (h pins s σ H _ I hw) fun u s1 ⟨x,H1,I1,r1,q1⟩=> ?_;obtain⟨i,rfl,q⟩:=q1;obtain⟨t,rfl⟩:=r1;exact⟨some i,H1,I1,.int i t,q⟩
def L5(X:Cx)(r:V->Option Int->Option Int->Hp->VK->Prop):Prop:=∀(pins:List (Addr × Obj)) (s:Shared) (σ:St) (H:Hp) (x:V) (v vl vu:Value) (lo hi:Option Int) (sl:Addr) (Q:VK),Inv X pins σ H s->RelV x v->s.heap.IsSliceOf sl vl vu .none->IsPart vl lo->IsPart vu hi->r x lo hi H Q->∃T id,typeLookup (.type T) "__getitem__"=pure (some (.builtin id))/\s.TypeIs v T/\wpAny (model X.prog X.w) X.A (getItem v (.ref sl)) (EP X pins σ Q) X.xe s
def N0(r:V->Option Int->Option Int->Hp->VK->Prop)(te:TE)(tl th:TO):TE:=fun σ H Q=>te σ H fun x H1=>tl σ H1 fun l H2=>th σ H2 fun u H3=>r x l u H3 Q
def eI{lo:Option Expr}(hr:L5 X r)(he:PE X e te)(hl:PO X lo tl)(hu:PO X hi th):PE X (.Subscript e (.Slice lo hi none p2) pos) (N0 r te tl th):=by
 intro pins s σ H Q I h;refine Ol (cZ (he pins s σ H _ I h) fun v s1 ⟨x,H1,I1,r1,q1⟩=> ?_);refine wpAny_Slice (cZ (hl pins s1 σ H1 _ I1 q1) fun vl s2 ⟨l,H2,I2,pl,q2⟩=>cZ (hu pins s2 σ H2 _ I2 q2) fun vu s3 ⟨u,H3,I3,pu,q3⟩=> ?_);rw[evalPart_none];refine aK ?_;have I4:Inv X pins σ H3 {s3 with heap:=s3.heap.push {cls:= .type "slice",data:= .fields #[vl,vu,.none]}}:=I3.kept (t':=s3.toks) fun b ob q=>aC _ q;obtain⟨T,id,hT,ht,hg⟩:=hr pins {s3 with heap:=s3.heap.push {cls:= .type "slice",data:= .fields #[vl,vu,.none]}} σ H3 x v vl vu l u s3.heap.objs.size Q I4 r1 (Heap.IsSliceOf.new ..) pl pu q3;show wpAny (model X.prog X.w) X.A (subscriptTail e (.Slice lo hi none p2) v (.ref s3.heap.objs.size)) (EP X pins σ Q) X.xe {s3 with heap:=s3.heap.push {cls:= .type "slice",data:= .fields #[vl,vu,.none]}};exact tail_any (ops:=[.ref s3.heap.objs.size,v]) ht hT hg (by with_unfolding_all rfl)
noncomputable def mC(xs:List V)(lo hi:Option Int):List V:=(xs.drop (HT.sIx xs.length 0 lo)).take (HT.sIx xs.length xs.length hi - HT.sIx xs.length 0 lo)
def pL(xs:List V)(lo hi:Option Int):(mC xs lo hi).length<=xs.length:=by
 unfold mC;rw[cw,jo]
 lia
def MG(K:Frag):V->Option Int->Option Int->Hp->VK->Prop:=fun x lo hi H Q=>∃a xs,x= .ref a/\SqT K H a xs/\¬ (HT.sIx xs.length 0 lo=0/\HT.sIx xs.length xs.length hi=xs.length)/\∀p,H p=none->Q (.ref p) (upd H p (.tup (mC xs lo hi)))
def C8:L5 X (MG X.K):=by
 intro pins s σ H x v vl vu lo hi sl Q I rx hs pl pu h;obtain⟨a,xs,rfl,hx,hw,q⟩:=h;cases rx;obtain⟨its,r,ht,hz⟩:=I.tuple hx;have hlen:its.toArray.size=xs.length:=by rw[aV];exact r.length.symm
 refine⟨"tuple",_,iR.lookup,ht.typeIs,?_⟩;refine HT.getItem_tuple_cut ht hs pl pu (by rw[hlen];exact hw) ?_ (by rw[hlen];exact hz);rw[hlen];refine⟨.ref s.heap.objs.size,_,I.laid (t':=s.toks) (o:= .tup (mC xs lo hi)) (fun b ob q=>aC _ q) (ar _) ?_,rfl,q _ (I.hok.fresh (ar _))⟩;exact⟨ai (pL xs lo hi) hz,_,(r.drop (HT.sIx xs.length 0 lo)).take (HT.sIx xs.length xs.length hi - HT.sIx xs.length 0 lo),IsTup.new _ _⟩
end
noncomputable def GJ(n:Nat)(i:Int):Option Nat:=if 0<=i then(if i<n then some i.toNat else none) else if -(n:Int)<=i then some (i+n).toNat else none
noncomputable def zU{α:Type}(xs:List α)(i:Int):Option α:=(GJ xs.length i).bind fun j=>xs[j]?
def Br(h:GJ n i=some j):seqIndex? i n=some j/\j<n/\ -(n:Int)<=i/\i<n:=by
 unfold GJ at h;by_cases h0:0<=i
 · rw[aE h0] at h;by_cases h1:i<n
   · rw[aE h1] at h;have e:i.toNat=j:=dJ h;exact⟨by rw[MB h0 h1,e],by lia,by lia,h1⟩
   · rw[aA h1] at h;cases h
 · rw[aA h0] at h;by_cases h1: -(n:Int)<=i
   · rw[aE h1] at h;have e:(i+n).toNat=j:=dJ h;exact⟨by rw[KG (by lia) h1,e],by lia,h1,by lia⟩
   · rw[aA h1] at h;cases h
def vX{v:α}(h:zU xs i=some v):∃j,seqIndex? i xs.length=some j/\xs[j]? =some v/\j<xs.length/\ -(xs.length:Int)<=i/\i<xs.length:=by
 unfold zU at h;cases e:GJ xs.length i with
 | none=>rw[e] at h;cases h
 | some j=>
   rw[e] at h;obtain⟨h1,h2,h3,h4⟩:=Br e;exact⟨j,h1,h,h2,h3,h4⟩
def aJ{j:Nat}{v:α}(h:xs[j]? =some v):zU xs (j:Int)=some v:=by
 have hj:j<xs.length:=(aU.mp h).1;have e:GJ xs.length (j:Int)=some j:=by
  unfold GJ;rw[aE (by lia),aE (by lia)];simp
 unfold zU;rw[e];exact h
def BB(b:Expr):Prop:=∀o i,subscripted b false o i=operate [o,i] (getItem o i)
def LK(X:Cx)(r:R2):Prop:=∀(value slice:Expr) (pins:List (Addr × Obj)) (s:Shared) (σ:St) (H:Hp) (x y:V) (v u:Value) (Q:VK),Inv X pins σ H s->RelV x v->RelV y u->r x y H Q->subscripted slice false v u=operate [v,u] (getItem v u)->wpAny (model X.prog X.w) X.A (subscriptTail value slice v u) (EP X pins σ Q) X.xe s
def L7(X:Cx)(id:String)(r:V->List V->Hp->VK->Prop):Prop:=∀(pins:List (Addr × Obj)) (s:Shared) (σ:St) (H:Hp) (x:V) (xs:List V) (v:Value) (us:List Value) (Q:VK),Inv X pins σ H s->RelV x v->Vals xs us->r x xs H Q->wpAny (model X.prog X.w) X.A (call (.builtin id) (v::us)) (EP X pins σ Q) X.xe s
section
def iJ(hr:LK X r)(ha:PE X a ta)(hb:PE X b tb)(hs:BB b):PE X (.Subscript a b pos) (CQ r ta tb):=by
 intro pins s σ H Q I h;exact Ol (JW ha hb I h fun v u s2 x y H2 I2 rx ry q=>hr a b pins s2 σ H2 x y v u Q I2 rx ry q (hs _ _))
inductive Dk(K:Frag)(H:Hp)(Q:VK)(p:Addr)(i:Int):Prop
 | mk:∀xs v,(SqL K H p xs)->(zU xs i=some v)->(Q v H)->Dk K H Q p i
def FZ(K:Frag):R2:=fun x y H Q=>onR x fun p=>onI y fun i=>Dk K H Q p i
inductive zd(K:Frag)(H:Hp)(Q:VK)(p:Addr)(i:Int):Prop
 | mk:∀xs v,(SqT K H p xs)->(zU xs i=some v)->(Q v H)->zd K H Q p i
def BP(K:Frag):R2:=fun x y H Q=>onR x fun p=>onI y fun i=>zd K H Q p i
def MJ:R2:=fun x y H Q=>∃z i c,x= .str z/\y= .int i/\z.length<=sizeLine/\zU z.cps.toList i=some c/\Q (.str ⟨#[c]⟩) H
def di:LK X (FZ X.K):=by
 intro value slice pins s σ H x y v u Q I rx ry h hs;obtain⟨p,rfl,h'⟩:=onR.ex h;obtain⟨i,rfl,xs,z,hq,he,q⟩:=onI.ex h';cases rx;obtain⟨t,rfl⟩:=ry;obtain⟨its,r,pl,hz⟩:=I.list hq;obtain⟨j,h1,h2,h3,h4,h5⟩:=vX he;obtain⟨w,ew,rw'⟩:=r.get h2;have hl:=r.length;have hn:=mw;have fin:EP X pins σ Q w s:=⟨z,H,I,rw',q⟩;by_cases h0:0<=i
 · have hj:i.toNat=j:=by
    rw[MB h0 h5] at h1;exact dJ h1
   exact item_listR pl.isList h0 (by lia) (by rw[hj];simpa using ew) fin hs
 · have hj:(i+(its.toArray.size:Int)).toNat=j:=by
    rw[KG (by lia) h4] at h1;rw[aV,<-hl];exact dJ h1
   exact Kz (x:=w) pl.isList.typeIs Oy.lookup (wpAny_getItem_list_neg (Q:=fun r s'=>r=w/\EP X pins σ Q r s') pl.isList (by lia) (by rw[aV]<;>lia) (by lia) (by rw[hj];simpa using ew) ⟨rfl,fin⟩) hs
def gm:LK X (BP X.K):=by
 intro value slice pins s σ H x y v u Q I rx ry h hs;obtain⟨p,rfl,h'⟩:=onR.ex h;obtain⟨i,rfl,xs,z,hq,he,q⟩:=onI.ex h';cases rx;obtain⟨t,rfl⟩:=ry;obtain⟨its,r,pl,hz⟩:=I.tuple hq;obtain⟨j,h1,h2,h3,h4,h5⟩:=vX he;obtain⟨w,ew,rw'⟩:=r.get h2;have hl:=r.length;have hn:=mw;have fin:EP X pins σ Q w s:=⟨z,H,I,rw',q⟩;exact Kz (x:=w) pl.typeIs slot_tuple_getitem.lookup
  (getItem_tuple (j:=j) (Q:=fun r s'=>r=w/\EP X pins σ Q r s') pl (by lia) (by lia) (by rw[aV,<-hl];exact h1) (by simpa using ew) ⟨rfl,fin⟩) hs
def vO:LK X MJ:=by
 intro value slice pins s σ H x y v u Q I rx ry h hs;obtain⟨z,i,c,rfl,rfl,hz,he,q⟩:=h;obtain⟨t,rfl⟩:=rx;obtain⟨t',rfl⟩:=ry;obtain⟨j,h1,h2,h3,h4,h5⟩:=vX he;have hl:z.cps.toList.length=z.length:=by simp[Str.length]
 rw[hl] at h1 h4 h5;have hn:=mw;exact tail_any (NY s z t) slot_str_getitem.lookup (getItem_str (c:=c) (by
  have e1:decide (i< -(2^63:Int))=false:=ag (by lia);have e2:decide (i≥2^63)=false:=ag (by lia);rw[e1,e2,wo]) (by rw[h1];simpa using h2) ⟨.str ⟨#[c]⟩,H,I.tok _,⟨_,rfl⟩,q⟩) hs
def zC(its:List Value)(n j:Nat)(u:Value):Obj.mapSeq (·.setIfInBounds j u) {cls:= .type "list",data:= .seq its.toArray n}={cls:= .type "list",data:= .seq (its.set j u).toArray n}:=by
 simp[Obj.mapSeq]
def Inv.lst{X:Cx}{pins:List (Addr × Obj)}{σ:St}{H:Hp}{s:Shared}{p:Addr}{xs:List V}(I:Inv X pins σ H s)(h:H p=some (.lst xs)):∃its n,Vals xs its/\s.heap.get? p=some {cls:= .type "list",data:= .seq its.toArray n}/\xs.length<=sizeLine:=by
 obtain⟨z,its,n,r,e⟩:=I.hok p _ h;exact⟨its,n,r,e,z⟩
def Inv.lstUpd{σ:St}{its:List Value}(I:Inv X pins σ H s)(h:H p=some (.lst xs))(ho:s.heap.get? p=some {cls:= .type "list",data:= .seq its.toArray n})(hf:f {cls:= .type "list",data:= .seq its.toArray n}={cls:= .type "list",data:= .seq its'.toArray n'})(r:Vals ys its')(hz:ys.length<=sizeLine)(t:Nat):Inv X pins σ (upd H p (.lst ys)) {s with heap:=s.heap.update p f,toks:=t}:=by
 have e:(s.heap.update p f).get? p=some {cls:= .type "list",data:= .seq its'.toArray n'}:=by
  rw[su f ho (by rw[hf]<;>rfl),hf]
 refine I.write (x:=p) (e:=p) (by rw[h];trivial) (.inl rfl) (fun b u hb q=>(LO _ _ (br hb)).trans q) ⟨_,e⟩ ?_;exact⟨hz,its',n',r,e⟩
def KP:V->V->V->Hp->(Hp->Prop)->Prop:=fun o i v H Q=>∃p xs k j,o= .ref p/\i= .int k/\H p=some (.lst xs)/\GJ xs.length k=some j/\Q (upd H p (.lst (xs.set j v)))
def jg:LC X KP:=by
 intro pins s σ H o i v ov iv u Q I ro ri rv h;obtain⟨p,xs,k,j,rfl,rfl,hp,hj,q⟩:=h;cases ro;obtain⟨t,rfl⟩:=ri;obtain⟨its,n,r,ho,hz⟩:=I.lst hp;obtain⟨h1,h2,h3,h4⟩:=Br hj;have hl:=r.length;have hn:=mw;have I':Inv X pins σ (upd H p (.lst (xs.set j v))) {s with heap:=s.heap.update p (Obj.mapSeq (·.setIfInBounds j u))}:=
  I.lstUpd hp ho (zC its n j u) (r.set rv j) (by rw[List.length_set];exact hz) s.toks
 by_cases h0:0<=k
 · have hk:k.toNat=j:=by
    rw[MB h0 h4] at h1;exact dJ h1
   exact PySem.W.ki_setAt ho h0 (by lia) (by rw[aV,<-hl];exact h4) (by rw[hk];exact⟨_,I',q⟩)
 · have hk:(k+(its.toArray.size:Int)).toNat=j:=by
    rw[KG (by lia) h3] at h1;rw[aV,<-hl];exact dJ h1
   exact PySem.W.ki_setBack ho (by lia) (by rw[aV,<-hl];exact h3) (by lia) (by rw[hk];exact⟨_,I',q⟩)
def uR(lo hi:Option Int)(n:Nat):(sliceBounds lo hi none n).1=((HT.sIx n 0 lo:Nat):Int)/\(sliceBounds lo hi none n).2.1=((HT.sIx n n hi:Nat):Int)/\(sliceBounds lo hi none n).2.2=1:=by
 refine⟨?_,?_,rfl⟩
 · cases lo with
   | none=>simp[sliceBounds,HT.sIx]
   | some i=>
     simp only[sliceBounds,HT.sIx,Option.getD_none,show(1:Int)>0 by decide,kr];by_cases h:i<0
     · simp only[h,kr]<;>lia
     · simp only[h,GL]<;>lia
 · cases hi with
   | none=>simp[sliceBounds,HT.sIx]
   | some i=>
     simp only[sliceBounds,HT.sIx,Option.getD_none,show(1:Int)>0 by decide,kr];by_cases h:i<0
     · simp only[h,kr]<;>lia
     · simp only[h,GL]<;>lia
def sM(its:List Value)(lo hi:Option Int):slicePick its.toArray lo hi none=((its.drop (HT.sIx its.length 0 lo)).take (HT.sIx its.length its.length hi - HT.sIx its.length 0 lo)).toArray:=by
 obtain⟨h1,h2,h3⟩:=uR lo hi its.toArray.size;unfold slicePick;rw[h1,h2,h3];simp only[sliceRange_one,pick_run,aV]<;>rfl
def MI(K:Frag):V->Option Int->Option Int->Hp->VK->Prop:=fun x lo hi H Q=>∃a xs,x= .ref a/\SqL K H a xs/\∀p,H p=none->Q (.ref p) (upd H p (.lst (mC xs lo hi)))
def uS:L5 X (MI X.K):=by
 intro pins s σ H x v vl vu lo hi sl Q I rx hs pl pu h;obtain⟨a,xs,rfl,hx,q⟩:=h;cases rx;obtain⟨its,r,ht,hz⟩:=I.list hx;have hlen:=r.length;refine⟨"list",_,Oy.lookup,ht.isList.typeIs,?_⟩;refine wpAny_getItem_list_slice ht.isList hs pl pu .none (by simp) ?_ (by rw[aV]<;>lia);rw[sM,<-hlen];refine⟨.ref s.heap.objs.size,_,I.laid (t':=s.toks) (o:= .lst (mC xs lo hi)) (fun b ob q=>aC _ q) (ar _) ?_,rfl,q _ (I.hok.fresh (ar _))⟩;exact⟨ai (pL xs lo hi) hz,_,0,(r.drop (HT.sIx xs.length 0 lo)).take (HT.sIx xs.length xs.length hi - HT.sIx xs.length 0 lo),a_ _ rfl⟩
noncomputable def jJ:V->Bool
 | .non=>true
 | .bl _=>true
 | .int _=>true
 | .str _=>true
 | _=>false
noncomputable def Bu:V->V->Bool
 | .non,.non=>true
 | .bl a,.bl b=>a==b
 | .bl a,.int b=>(if a then 1 else 0)==b
 | .int a,.bl b=>a==(if b then 1 else 0)
 | .int a,.int b=>a==b
 | .str a,.str b=>a==b
 | _,_=>false
def JQ(ry:RelV y u)(rx:RelV x v)(fy:jJ y=true)(fx:jJ x=true):SeqAt.EqAt A s u v (Bu y x):=by
 cases y with
 | non=>
   cases ry;cases x with
   | non=>cases rx;exact SeqAt.EqAt.same _
   | bl b=>cases rx;exact SeqAt.EqAt.none_bool b
   | int b=>obtain⟨t,rfl⟩:=rx;exact SeqAt.EqAt.none_int b t
   | str b=>obtain⟨t,rfl⟩:=rx;exact SeqAt.EqAt.none_str b t
   | _=>exact absurd (show false=true from fx) aO
 | bl a=>
   cases ry;cases x with
   | non=>cases rx;exact SeqAt.EqAt.bool_none a
   | bl b=>cases rx;exact SeqAt.EqAt.bool_bool a b
   | int b=>obtain⟨t,rfl⟩:=rx;exact SeqAt.EqAt.bool_int a b t
   | str b=>obtain⟨t,rfl⟩:=rx;exact SeqAt.EqAt.bool_str a b t
   | _=>exact absurd (show false=true from fx) aO
 | int a=>
   obtain⟨t',rfl⟩:=ry;cases x with
   | non=>cases rx;exact SeqAt.EqAt.int_none a t'
   | bl b=>cases rx;exact SeqAt.EqAt.int_bool a t' b
   | int b=>obtain⟨t,rfl⟩:=rx;exact SeqAt.EqAt.int_int a t' b t
   | str b=>obtain⟨t,rfl⟩:=rx;exact On a t' b t
   | _=>exact absurd (show false=true from fx) aO
 | str a=>
   obtain⟨t',rfl⟩:=ry;cases x with
   | non=>cases rx;exact SeqAt.EqAt.str_none a t'
   | bl b=>cases rx;exact SeqAt.EqAt.str_bool a t' b
   | int b=>obtain⟨t,rfl⟩:=rx;exact Om a t' b t
   | str b=>obtain⟨t,rfl⟩:=rx;exact SeqAt.EqAt.str_str a t' b t
   | _=>exact absurd (show false=true from fx) aO
 | _=>exact absurd (show false=true from fy) aO
noncomputable def zP(x:V)(u:Value):Bool:=match u with
 | .none=>Bu .non x
 | .bool b=>Bu (.bl b) x
 | .int i _=>Bu (.int i) x
 | .str z _=>Bu (.str z) x
 | _=>false
def EO(r:RelV y u)(f:jJ y=true):zP x u=Bu y x:=by
 cases y with
 | non=>cases r;rfl
 | bl b=>cases r;rfl
 | int i=>obtain⟨t,rfl⟩:=r;rfl
 | str z=>obtain⟨t,rfl⟩:=r;rfl
 | _=>exact absurd (show false=true from f) aO
theorem nR:∀{xs:List V} {us:List Value},Vals xs us->xs.all jJ=true->us.any (zP x)=xs.any fun y=>Bu y x
 | _,_,.nil,_=>rfl
 | y::xs,u::us,.cons r t,f=>by
   rw[fm,aP] at f;rw[gh,gh,EO r f.1,nR t f.2]
theorem j_(rx:RelV x v)(fx:jJ x=true):∀{xs:List V} {us:List Value},Vals xs us->xs.all jJ=true->∀u∈us,SeqAt.EqAt A s u v (zP x u)
 | _,_,.nil,_=>fun u hu=>by cases hu
 | y::xs,u::us,.cons r t,f=>fun u' hu=>by
   rw[fm,aP] at f;rcases aI.mp hu with rfl | hu
   · rw[EO r f.1];exact JQ r rx f.1 fx
   · exact j_ rx fx t f.2 u' hu
noncomputable def wj(x:V)(xs:List V):Bool:=xs.any fun y=>Bu y x
def KQ(K:Frag)(neg:Bool):R2:=fun x y H Q=>∃p xs,y= .ref p/\(SqL K H p xs\/SqT K H p xs)/\jJ x=true/\xs.all jJ=true/\Q (.bl (if neg then !wj x xs else wj x xs)) H
def oG:jO X (compareOp .In) (KQ X.K false):=by
 intro pins s σ H x y v u Q I rx ry h;obtain⟨p,xs,rfl,hq,fx,fs,q⟩:=h;cases ry;rcases hq with hq | hq
 · obtain⟨its,r,pl,hz⟩:=I.list hq;refine SeqAt.in_listAt (zP x) pl.isList (fun w hw=>j_ rx fx r fs w (by simpa using hw)) ⟨.bl _,H,I,rfl,?_⟩;rw[show its.toArray.any (zP x)=its.any (zP x) by simp,nR r fs];exact q
 · obtain⟨its,r,pl,hz⟩:=I.tuple hq;refine SeqAt.in_tupleAt (zP x) pl (fun w hw=>j_ rx fx r fs w (by simpa using hw)) ⟨.bl _,H,I,rfl,?_⟩;rw[show its.toArray.any (zP x)=its.any (zP x) by simp,nR r fs];exact q
def gj:jO X (compareOp .NotIn) (KQ X.K true):=by
 intro pins s σ H x y v u Q I rx ry h;obtain⟨p,xs,rfl,hq,fx,fs,q⟩:=h;cases ry;rcases hq with hq | hq
 · obtain⟨its,r,pl,hz⟩:=I.list hq;refine SeqAt.notIn_listAt (zP x) pl.isList (fun w hw=>j_ rx fx r fs w (by simpa using hw)) ⟨.bl _,H,I,rfl,?_⟩;rw[show its.toArray.any (zP x)=its.any (zP x) by simp,nR r fs];exact q
 · obtain⟨its,r,pl,hz⟩:=I.tuple hq;refine SeqAt.notIn_tupleAt (zP x) pl (fun w hw=>j_ rx fx r fs w (by simpa using hw)) ⟨.bl _,H,I,rfl,?_⟩;rw[show its.toArray.any (zP x)=its.any (zP x) by simp,nR r fs];exact q
def nO:n_ X (.builtin "len") (fun xs H Q=>∃p ys,xs=[.ref p]/\(SqL X.K H p ys\/SqT X.K H p ys)/\Q (.int ys.length) H):=by
 intro pins s σ H xs us Q I r h;obtain⟨p,ys,rfl,hq,q⟩:=h;obtain⟨u,rfl,rx⟩:=CI r;cases rx;have hn:=mw;rcases hq with hq | hq
 · obtain⟨its,r',pl,hz⟩:=I.list hq;have hlen:=r'.length;exact Calls.call_len_list pl.isList (by simp only[aV]<;>lia) ⟨.int ys.length,H,I.tok _,⟨s.toks+1,by rw[aV,hlen]⟩,q⟩
 · obtain⟨its,r',pl,hz⟩:=I.tuple hq;have hlen:=r'.length;exact len_tuple pl (by simp only[aV]<;>lia) ⟨.int ys.length,H,I.tok _,⟨s.toks+1,by rw[aV,hlen]⟩,q⟩
def vV:n_ X (.builtin "len") (fun xs H Q=>∃z,xs=[.str z]/\z.length<=sizeLine/\Q (.int z.length) H):=by
 intro pins s σ H xs us Q I r h;obtain⟨z,rfl,hz,q⟩:=h;obtain⟨u,rfl,t,rfl⟩:=CI r;have hn:=mw;exact len_str (by lia) ⟨.int z.length,H,I.tok _,⟨_,rfl⟩,q⟩
def hZ:n_ X (.type "list") (fun xs H Q=>∃p ys,xs=[.ref p]/\(SqL X.K H p ys\/SqT X.K H p ys)/\∀l,H l=none->Q (.ref l) (upd H l (.lst ys))):=by
 intro pins s σ H xs us Q I r h;obtain⟨p,ys,rfl,hq,q⟩:=h;obtain⟨u,rfl,rx⟩:=CI r;cases rx;have fin:∀(its:List Value),Vals ys its->ys.length<=sizeLine->∀(h':Heap) (c':Nat),(∀b o',s.heap.get? b=some o'->h'.get? b=some o')->
  h'.get? s.heap.objs.size=some {cls:= .type "list",dict:=none,data:= .seq its.toArray c',slots:= #[]}->EP X pins σ Q (.ref s.heap.objs.size) {s with heap:=h'}:=fun its r' hz h' c' kp e=>
  ⟨.ref s.heap.objs.size,_,I.laid (t':=s.toks) kp (ar _) (show ObjOk X.prog X.w _ h' _ (.lst ys) from⟨hz,its,c',r',e⟩),rfl,q _ (I.hok.fresh (ar _))⟩
 rcases hq with hq | hq
 · obtain⟨its,r',pl,hz⟩:=I.list hq;have hlen:=r'.length;obtain⟨o,ho,hc,n,hd⟩:=pl.isList;exact call_list_seq p (.inl rfl) ho hc hd (fun h' c' kp e=>fin its r' hz h' c' kp e) (by simp only[aV]<;>lia)
 · obtain⟨its,r',pl,hz⟩:=I.tuple hq;have hlen:=r'.length;obtain⟨o,ho,hc,n,hd⟩:=pl;exact call_list_seq p (.inr rfl) ho hc hd (fun h' c' kp e=>fin its r' hz h' c' kp e) (by simp only[aV]<;>lia)
def Mg(K:Frag)(T:String)(x:V)(H:Hp):Prop:=match x with
 | .str _=>T="str"
 | .int _=>T="int"
 | .ref p=>(T="list"/\∃xs,SqL K H p xs)\/(T="tuple"/\∃o,K.lookup p=some o/\o.cls= .type "tuple"/\o.dict=none)\/(T="dict"/\((∃kvs,H p=some (.dK kvs))\/∃kvs,H p=some (.dT kvs)))\/(T="set"/\∃S n,H p=some (.set S n))
 | _=>False
def CK{σ:St}(I:Inv X pins σ H s)(r:RelV x v)(ty:Mg X.K T x H):s.TypeIs v T/\∀a,v= .ref a->∃ob,s.heap.get? a=some ob/\ob.dict=none:=by
 cases x with
 | str z=>
   obtain⟨t,rfl⟩:=r;cases(show T="str" from ty);exact⟨NY s z t,fun _ e=>nomatch e⟩
 | int i=>
   obtain⟨t,rfl⟩:=r;cases(show T="int" from ty);exact⟨typeIs_int s i t,fun _ e=>nomatch e⟩
 | ref p=>
   cases r;rcases ty with⟨rfl,xs,hq⟩ | ⟨rfl,o,hk,hc,hd⟩ | ⟨rfl,hk⟩ | ⟨rfl,S,n,hk⟩
   · obtain⟨its,_,pl,_⟩:=I.list hq;refine⟨pl.isList.typeIs,fun a e=> ?_⟩;cases e;obtain⟨o,n,e,c,hd,_⟩:=pl;exact⟨o,e,hd⟩
   · refine⟨⟨o,I.kIn p o hk,hc⟩,fun a e=> ?_⟩;cases e;exact⟨o,I.kIn _ o hk,hd⟩
   · have z:∃o,s.heap.get? p=some o/\o.ExactDict:=by
      rcases hk with⟨kvs,hk⟩ | ⟨kvs,hk⟩
      · obtain⟨_,_,_,_,o,_,_,e,ex,_⟩:=I.hok p _ hk;exact⟨o,e,ex⟩
      · obtain⟨_,_,_,_,o,_,_,e,ex,_⟩:=I.hok p _ hk;exact⟨o,e,ex⟩
     obtain⟨o,e,ex⟩:=z;refine⟨⟨o,e,ex.1⟩,fun a e2=> ?_⟩;cases e2;exact⟨o,e,ex.2.1⟩
   · obtain⟨o,_,_,_,e,ex,_⟩:=I.hok p _ hk;refine⟨⟨o,e,ex.1⟩,fun a e2=> ?_⟩;cases e2;exact⟨o,e,ex.2.1⟩
 | _=>exact False.elim ty
def Mu(K:Frag)(T:String)(r:V->List V->Hp->VK->Prop)(to:TE):TE:=fun σ H Q=>to σ H fun x H1=>Mg K T x H1/\r x [] H1 Q
def Nx(K:Frag)(T:String)(r:V->List V->Hp->VK->Prop)(to:TE)(t:TA):TE:=fun σ H Q=>to σ H fun x H1=>Mg K T x H1/\t σ H1 fun xs H2=>r x xs H2 Q
def DD{X:Cx}{o:Expr}{to:TE}{name:Str}{apos cpos:Pos}{T id:String}{r:V->List V->Hp->VK->Prop}(pa:PlainAttrs T)(slot:Slot T name id)(hty:typeOf (.builtin id)=pure (.type "method_descriptor"))(hm:L7 X id r)(ho:PE X o to)(hbase:attributeBase o name X.env (eval o X.env)=eval o X.env:=by rfl)(hline:(apos.endLine==cpos.line)=true:=by rfl):PE X (.Call (.Attribute o name apos) [] [] cpos) (Mu X.K T r to):=by
 intro pins s σ H Q I h;refine wpAny_Call_method0_late hbase hline (cZ (ho pins s σ H _ I h) fun v s1 ⟨x,H1,I1,r1,ty,q1⟩=> ?_);obtain⟨h1,h2⟩:=CK I1 r1 ty;exact⟨T,id,pa,slot,hty,h1,h2,iH rfl (PySem.evalArgs_none (hm pins s1 σ H1 x [] v [] Q I1 r1 .nil q1))⟩
def KS{X:Cx}{o e:Expr}{es:List Expr}{to:TE}{t:TA}{name:Str}{apos cpos:Pos}{T id:String}{r:V->List V->Hp->VK->Prop}(pa:PlainAttrs T)(slot:Slot T name id)(hty:typeOf (.builtin id)=pure (.type "method_descriptor"))(hm:L7 X id r)(ho:PE X o to)(ha:PA X (e::es) t)(hbase:attributeBase o name X.env (eval o X.env)=eval o X.env:=by rfl)(hfew:((backTo cpos (starEach (e::es) X.env)).all (fun x=> !x.1)&&(backToKw cpos (keywordEach [] X.env)).all (fun x=>x.1.isSome)&&decide ((e::es).length+([]:List Keyword).length+(if([]:List Keyword).isEmpty then 0 else 1)<30))=true:=by rfl) (hline:(apos.endLine==cpos.line)=true:=by rfl) (hs:starEach (e::es) X.env=(false,eval e X.env)::starEach es X.env:=by rfl) (hplain:(backTo cpos (starEach es X.env)).any (·.1)=false:=by rfl):PE X (.Call (.Attribute o name apos) (e::es) [] cpos) (Nx X.K T r to t):=by
 intro pins s σ H Q I h;refine wpAny_Call_method_late hbase hfew hline rfl (cZ (ho pins s σ H _ I h) fun v s1 ⟨x,H1,I1,r1,ty,q1⟩=> ?_);obtain⟨h1,h2⟩:=CK I1 r1 ty;refine⟨T,id,pa,slot,hty,h1,h2,?_⟩;have hA:=ha cpos pins s1 σ H1 _ I1 q1;rw[hs] at hA⊢;refine iH (by show(false || (backTo cpos (starEach es X.env)).any (·.1))=false;rw[hplain]<;>rfl) (sZ ?_);exact cZ hA fun us s2 ⟨vs,H2,I2,r2,q2⟩=>hm pins s2 σ H2 x vs v us Q I2 r1 r2 q2
/- xs.append(e), list.index on a module's tuple .. are MtR facts of 06m -/
end
def NN(X:Cx)(id:String)(r:V->List V->Hp->VK->Prop):Prop:=∀(pins:List (Addr × Obj)) (s:Shared) (σ:St) (H:Hp) (x:V) (xs:List V) (v:Value) (us:List Value) (Q:VK),Inv X pins σ H s->RelV x v->Vals xs us->r x xs H Q->wpAny (model X.prog X.w) X.A (call (.builtin id) (v::us)) (EP X pins σ Q) X.xe s
theorem Vals.one:∀{x:V} {us:List Value},Vals [x] us->∃u,us=[u]/\RelV x u
 | _,_,.cons r .nil=>⟨_,rfl,r⟩
theorem Vals.two:∀{x y:V} {us:List Value},Vals [x,y] us->∃u v,us=[u,v]/\RelV x u/\RelV y v
 | _,_,_,.cons r (.cons q .nil)=>⟨_,_,rfl,r,q⟩
section
def Inv.lset{σ:St}{its:List Value}(I:Inv X pins σ H s)(hH:H l=some (.lst xs))(e:s.heap.get? l=some {cls:= .type "list",data:= .seq its.toArray n})(hf:f its.toArray=its'.toArray)(hv:Vals ys its')(hz:ys.length<=sizeLine):Inv X pins σ (upd H l (.lst ys)) {s with heap:=s.heap.update l (Obj.mapSeq f),toks:=t'}:=by
 have q:=PySem.IsL.update e f;rw[hf] at q;refine I.write (x:=l) (e:=l) (by rw[hH];exact trivial) (.inl rfl) (fun b' u hb hu=>(LO s.heap (Obj.mapSeq f) (br hb)).trans hu) ⟨_,q⟩ ?_;exact⟨hz,its',_,hv,q⟩
def Inv.lnew{σ:St}(I:Inv X pins σ H s)(hv:Vals ys its)(hz:ys.length<=sizeLine):Inv X pins σ (upd H s.heap.objs.size (.lst ys)) {s with heap:=s.heap.push {cls:= .type "list",data:= .seq its.toArray},toks:=t'}:=I.laid (fun _ _ q=>aC _ q) (ar _) ⟨hz,its,0,hv,a_ _ rfl⟩
def Inv.fresh{σ:St}(I:Inv X pins σ H s):H s.heap.objs.size=none:=I.hok.fresh (ar _)
def Inv.lstM{σ:St}(I:Inv X pins σ H s)(hH:H l=some (.lst xs)):xs.length<=sizeLine/\∃its n,Vals xs its/\xs.length=its.length/\s.heap.get? l=some {cls:= .type "list",data:= .seq its.toArray n}:=by
 obtain⟨z,its,n,r,e⟩:=I.hok l _ hH;exact⟨z,its,n,r,r.length,e⟩
def D_(h:n<=sizeLine):Builtin.List.listTooLong n=false:=by
 unfold Builtin.List.listTooLong;exact ag (by lia)
end
section
def AM:V->List V->Hp->VK->Prop:=fun x vs H Q=>onR x fun l=>match vs with | [y]=>∃xs,H l=some (.lst xs)/\xs.length<sizeLine/\Q .non (upd H l (.lst (xs++[y]))) | _=>False
def uj:NN X "list.append" AM:=by
 intro pins s σ H x vs v us Q I rx rv h;obtain⟨l,rfl,h'⟩:=onR.ex h;obtain⟨y,rfl,xs,hH,hz,q⟩:∃y,vs=[y]/\∃xs,H l=some (.lst xs)/\xs.length<sizeLine/\Q .non (upd H l (.lst (xs++[y]))):=by
  split at h'
  · exact⟨_,rfl,h'⟩
  · exact h'.elim
 cases rx;obtain⟨u,rfl,ru⟩:=rv.one;obtain⟨z,its,n,r,hl,e⟩:=I.lstM hH;refine call_meets F.slot_list_append ⟨_,e,rfl⟩ F.entry_list_append (F.args_list_append_2 _ _) (PySem.list_append l its.toArray n u (by rw[aV];lia)) ⟨e,?_⟩;refine⟨.non,_,I.lset (its':=its++[u]) hH e (by simp) (r.append (.cons ru .nil)) ?_,rfl,q⟩;rw[ak,L8]
 lia
def F1:V->List V->Hp->VK->Prop:=fun x vs H Q=>∃l b xs zs,x= .ref l/\vs=[.ref b]/\H l=some (.lst xs)/\H b=some (.lst zs)/\xs.length+zs.length<=sizeLine/\Q .non (upd H l (.lst (xs++zs)))
def Kf:NN X "list.extend" F1:=by
 intro pins s σ H x vs v us Q I rx rv h;obtain⟨l,b,xs,zs,rfl,rfl,hH,hB,hz,q⟩:=h;cases rx;obtain⟨u,rfl,ru⟩:=rv.one;cases ru;obtain⟨z,its,n,r,hl,e⟩:=I.lstM hH;obtain⟨z2,its2,n2,r2,hl2,e2⟩:=I.lstM hB;have hsz:its.toArray.size+its2.toArray.size<=sizeLine:=by rw[aV,aV];lia
 have hlong:¬ (!its.toArray.isEmpty&&Builtin.List.listTooLong (its.toArray.size+its2.toArray.size))=true:=by
  rw[D_ hsz,lH];exact aO
 refine call_meets F.slot_list_extend ⟨_,e,rfl⟩ F.entry_list_extend (F.args_list_extend_2 _ _) (AutoSeq1.list_extend_list_list_0 l its.toArray n b its2.toArray n2 hlong (by rw[aV];lia) (by lia)) ⟨e,e2,?_⟩;refine⟨.non,_,I.lset (its':=its++its2) hH e (by simp) (r.append r2) ?_,rfl,q⟩;rw[ak]
 lia
def MM:R2:=fun x y H Q=>∃l b xs zs,x= .ref l/\y= .ref b/\H l=some (.lst xs)/\H b=some (.lst zs)/\xs.length+zs.length<=sizeLine/\∀p,H p=none->Q (.ref p) (upd H p (.lst (xs++zs)))
def zj:jO X (binaryOp .Add) MM:=by
 intro pins s σ H x y v u Q I rx ry h;obtain⟨l,b,xs,zs,rfl,rfl,hH,hB,hz,q⟩:=h;cases rx;cases ry;obtain⟨z,its,n,r,hl,e⟩:=I.lstM hH;obtain⟨z2,its2,n2,r2,hl2,e2⟩:=I.lstM hB;refine PySem.P.add_list e e2 ?_ (by rw[aV,aV];lia);have ea:its.toArray++its2.toArray=(its++its2).toArray:=by simp
 rw[ea];exact⟨.ref _,_,I.lnew (t':=s.toks) (r.append r2) (by rw[ak];lia),rfl,q _ I.fresh⟩
end
section
end
section
end
end L2
namespace Att
open PySem PySem.W PySem.Calls PyProof.Rows
def pR:∀ns vs,WellAll P h vs (ns.map WData.int)->IntsAre vs ns:=by
 intro ns
 induction ns with
 | nil=>
   intro vs w;rw[LI] at w;cases w;exact .nil
 | cons n ns ih=>
   intro vs w;rw[bM] at w;cases w with
   | cons a b=>
     cases a;exact .cons _ _ (ih _ b)
def BL{l:OpenLaw}{n:Nat}(hn:l.most=some n){P:Params}{h:Heap}{args:List WData}{vals:List Value}(hpre:l.row.toRowW.claim.pre args=true)(hwl:WellAll P h vals args):∃a vs ns,vals=[Value.ref a]/\args=[WData.list (ns.map WData.int)]/\h.get? a=some {cls:= .type "list",data:= .seq vs.toArray}/\IntsAre vs ns/\ns.length<=n:=by
 have hsh:WShape.hasAll [] args [.list .int]=true:=(pre_splitW hpre).1;have hc:l.pre.holds [] {args:=args}=true:=(pre_splitW hpre).2;obtain⟨d,r,rfl,h1,h2⟩:=hasAllW_cons hsh;obtain rfl:=hasAllW_nil h2;obtain⟨xs,rfl,h3⟩:=hasW_list h1;obtain⟨ns,rfl⟩:=items_int h3;have hlen:ns.length<=n:=by
  unfold OpenLaw.pre at hc;have h4:(WTm.not (.lt (.lit (.int (n:Int))) (.len (.arg 0)))).holds [] {args:=[.list (ns.map .int)]}=true:=by
   have h4:=(holds_andW hc).1;rw[hn] at h4;exact h4
  have h5:=condW_of h4 (w_not (w_lt w_lit (w_len_list (w_arg rfl))));rw[ae] at h5;refine Nat.le_of_not_lt fun q=> ?_;have q':(n:Int)<((ns.length:Nat):Int):=by lia
  first
   | (rw[ah q'] at h5;exact absurd h5 (by decide))
   | (simp at h5;lia)
 cases hwl with
 | cons w1 w2=>
   cases w2;cases w1 with
   | list ho hall=>exact⟨_,_,ns,rfl,rfl,ho,pR ns _ hall,hlen⟩
def BQ(l:OpenLaw)(args:List WData):l.row.toRowW.claim.post args (.bool true) args=true:=postW_of (r:=l.row.toRowW) (X:=(true==true)) (show WShape.has [] (.bool true) .bool=true by first | rfl | decide | simp[WShape.has,WShape.arms,WShape.armsAll])
  (show(WTm.eq .res (.lit (.bool true))).value [] {args:=args,res:=some (.bool true),after:=args}=some (.bool (true==true)) from w_eq_bool (w_res rfl) w_lit) rfl
def attach_call{l:OpenLaw}(hn:l.most=some n)(hdf:d.params.defaults=[])(call:∀w s₀ s₁ mg mb fa o pm cd doc a vs ns,Ground q loose [] XP w s₀ mg mb s₁.heap->YP w s₁.heap->s₁.heap.get? fa=some o->o.data= .func (docDef d.name d.params d.body d.scope pm cd doc)->s₁.heap.CodeRec cd d.name->mg d.name=some (.ref fa)->s₁.heap.get? a=some {cls:= .type "list",data:= .seq vs.toArray}->IntsAre vs ns->ns.length<=n->s₁.gens= #[]->codeAny (model l.prog w) callerA (.call (.ref fa) ⟨[.ref a],[]⟩) (fun r s'=>r= .ok (.ret (.bool true))/\OldK s₁.heap s'.heap/\s'.os=s₁.os/\AllBare s'.gens) s₁):WalkO q loose XP YP l.row.toRowW d [] (fun f vs=>PySem.call f vs):=by
 intro w s₀ s₁ mg mb G Y fa o pm cd doc dV kV ho hd hcd hD hmg hg args vals as hpre hlay hrd hwl hlo;obtain rfl:dV= .none:=Dflts.none hD hdf;obtain rfl:kV= .none:=Dflts.noKw hD;obtain⟨a,vs,ns,rfl,rfl,hobj,hints,hlen⟩:=BL hn hpre hwl;refine enter_call (zS (call w s₀ s₁ mg mb fa o pm cd doc a vs ns G Y ho (fd_plain hd) hcd hmg hobj hints hlen hg) fun r s' hq=> ?_);obtain⟨rfl,h2,h3,h4⟩:=hq;exact⟨.inl ⟨.bool true,.bool true,[],rfl,fun _=>rfl,.bool true,BQ l _,fun _=>⟨List.Pairwise.nil,fun _ hm=>(nomatch hm)⟩⟩,h2,h3,h4⟩
section
end
end Att
namespace L2
open PySem PySem.Spec PyProof.Rows
theorem tj:∀{vs:List Value} {ns:List Int},IntsAre vs ns->Vals (ns.map V.int) vs
 | _,_,.nil=> .nil
 | _,_,.cons n t h=> .cons ⟨t,rfl⟩ (tj h)
def J5(H:Hp):Prop:=∀b,H b=none\/∃o xs,H b=some (.frz o (.lst xs))
def Ep{K:Frag}(KX:K.In s₁.heap)(hns:s₁.heap.Ns mainGlobals mg)(hb:s₁.heap.Ns builtinsNs mb)(hbb:∀x:Str,x≠"__name__"->mb x=bootBuiltins x)(hlim:s₁.heap.NoLimit)(hg:s₁.gens= #[])(ha:s₁.heap.get? a=some {cls:= .type "list",data:= .seq vs.toArray})(hi:IntsAre vs ns)(hl:ns.length<=sizeLine)(hr:Room k callerA)(F:∀base:Heap,K.In base->base.Ns mainGlobals mg->b_ P w K mg base CX k fa fd [x] sp)(hbind:∀s u,BindsTo s fd ⟨[u],[]⟩ [(x,u)])(hsp:∀H:Hp,J5 H->SqL K H a (ns.map V.int)->sp [.ref a] H (fun v _=>v= .bl true) fun _ _ _=>False)(hCX:∀H e s',CX [] H s₁ (fun _ _ _=>False) e s'->False):codeAny (model P w) callerA (.call (.ref fa) ⟨[.ref a],[]⟩) (fun r s'=>r= .ok (.ret (.bool true))/\OldK s₁.heap s'.heap/\s'.os=s₁.os/\AllBare s'.gens) s₁:=by
 have rv:=tj hi;have lenV:=hi.length;have core:∀H:Hp,J5 H->SqL K H a (ns.map V.int)->HOk P w H s₁.heap->(∀b,H b≠none->b=a)->(H a≠none->K.lookup a=none)->
  codeAny (model P w) callerA (.call (.ref fa) ⟨[.ref a],[]⟩) (fun r s'=>r= .ok (.ret (.bool true))/\OldK s₁.heap s'.heap/\s'.os=s₁.os/\AllBare s'.gens) s₁:=by
  intro H hO hS hok hA hK;have base_of:∀{b:Addr} {o:Obj},s₁.heap.get? b=some o->H b=none->(vP s₁.heap H).get? b=some o:=fun e n=>EE e n;have noA:∀{b:Addr} {o:Obj} {es:Array DictEntry} {ep:Nat},s₁.heap.get? b=some o->o.data= .dict es ep->H b=none:=fun {b o es ep} e d=>by
   cases q:H b with
   | none=>rfl
   | some u=>
     have e':b=a:=hA b (by rw[q];simp);subst e';rw[ha] at e;cases e;have d':Data.seq vs.toArray _=Data.dict es ep:=d;cases d'
  have nsK:∀{b:Addr} {m:Str->Option Value},s₁.heap.Ns b m->(vP s₁.heap H).Ns b m:=fun {b m} ⟨o,es,ep,e,d,r⟩=>⟨o,es,ep,base_of e (noA e d),d,r⟩;have hKb:K.In (vP s₁.heap H):=fun b o e=>base_of (KX b o e) (by
   cases q:H b with
   | none=>rfl
   | some u=>
     have e':b=a:=hA b (by rw[q];simp);subst e';rw[hK (by rw[q];simp)] at e;cases e)
  have hM:Mod K mg (vP s₁.heap H):=⟨hKb,nsK hns,⟨mb,nsK hb,hbb⟩,let⟨mc,h1,h2⟩:=hlim;⟨mc,nsK h1,h2⟩⟩;have e0:Env0 P w K mg (vP s₁.heap H) callerA [] s₁ H:=⟨rfl,hM,fun b o e=>Gy e,Nat.le_of_eq (Ck _ _),trivial,fun b hb=>absurd (show b∈([]:List Addr) from hb) (by simp),hok,.of_eq hg⟩;refine zS ((F _ hKb (nsK hns)).run callerA [] s₁ H ⟨[.ref a],[]⟩ [.ref a] [.ref a] _ _ hr e0 (hbind s₁ (.ref a)) (.cons rfl .nil) (hsp H hO hS)) fun r s' h=> ?_;cases r with
  | error e=>exact(hCX H e s' h).elim
  | ok fl=>
    cases fl with
    | next=>exact False.elim h
    | brk=>exact False.elim h
    | cont=>exact False.elim h
    | ret u=>
      obtain⟨v,H',os,bare,un,hok',r',q⟩:=h;have q':v= .bl true:=q;subst q';obtain rfl:u=Value.bool true:=r';refine⟨rfl,OldK.of_keep fun b o e=> ?_,os,bare⟩;cases q:H b with
      | none=>exact un.keep b o e q (by intro z;exact absurd (show b∈([]:List Addr) from z) (by simp)) (by simp)
      | some u=>
        rcases hO b with z | ⟨ob,xs,z⟩
        · rw[q] at z;cases z
        · have z2:=un.frzs b ob _ z;obtain⟨e1,_⟩:=hok b _ z;obtain⟨e2,_⟩:=hok' b _ z2;rw[e] at e1;cases e1;exact e2
 cases hk:K.lookup a with
 | some o=>
   have e:=KX a o hk;rw[ha] at e;cases e;refine core (fun _=>none) (fun _=> .inl rfl) (.inr ⟨_,vs.toArray,_,hk,rfl,rfl,rfl,by rw[aV,lenV];exact hl,by simpa using rv⟩) (fun b u z=>by have z':(none:Option HO)=some u:=z;cases z') (fun b z=>absurd rfl z) fun z=>absurd rfl z
 | none=>
   refine core (fun b=>if b=a then some (.frz {cls:= .type "list",data:= .seq vs.toArray} (.lst (ns.map V.int))) else none) (fun b=> ?_) (.inl (.inr ⟨{cls:= .type "list",data:= .seq vs.toArray},aE rfl⟩)) (fun b u z=> ?_) (fun b z=> ?_) fun _=>hk
   · by_cases hb:b=a
     · exact .inr ⟨_,_,aE hb⟩
     · exact .inl (aA hb)
   · by_cases hb:b=a
     · have z':=(aE hb).symm.trans z;cases z';subst hb;exact⟨ha,by rw[ae];exact hl,vs,_,rv,ha⟩
     · have z':=(aA hb).symm.trans z;cases z'
   · by_cases hb:b=a
     · exact hb
     · exact absurd (aA hb) z
def walk_of{l:PySem.W.OpenLaw}{K:Params->Frag}{CX:World->Fo}{sp:World->Sp}(hn:l.most=some n)(hn2:n<=sizeLine)(hdf:d.params.defaults=[])(hr:Room k callerA)(hY:∀(w:World) (h:Heap),YP w h->(K w.params).In h)(F:∀(w:World) (mg:Str->Option Value) (fa:Addr) (h:Heap),(K w.params).In h->h.Ns mainGlobals mg->mg d.name=some (.ref fa)->∃fd:FuncData,(∀(s:Shared) (u:Value),BindsTo s fd ⟨[u],[]⟩ [(x,u)])/\∀base:Heap,(K w.params).In base->base.Ns mainGlobals mg->b_ l.prog w (K w.params) mg base (CX w) k fa fd [x] (sp w)) (hsp:∀(w:World) (H:Hp) (a:Addr) (ns:List Int),ns.length<=n->J5 H->SqL (K w.params) H a (ns.map V.int)->sp w [.ref a] H (fun v _=>v= .bl true) fun _ _ _=>False) (hCX:∀(w:World) (H:Hp) (s:Shared) (e:Value) (s':Shared),CX w [] H s (fun _ _ _=>False) e s'->False):PySem.W.WalkO q loose XP YP l.row.toRowW d [] (fun f vs=>PySem.call f vs):=by
 refine Att.attach_call hn hdf fun w s₀ s₁ mg mb fa o pm cd doc a vs ns G Y ho hd hcd hmg hobj hints hlen hg=> ?_;have KX:=hY w _ Y;obtain⟨fd,hb,hF⟩:=F w mg fa _ KX G.T.g hmg;exact Ep KX G.T.g G.T.b G.T.builtins G.T.nolimit hg hobj hints (ai hlen hn2) hr hF hb (fun H hO hS=>hsp w H a ns hlen hO hS) fun H e s'=>hCX w H s₁ e s'
noncomputable def dP(s:Stmt)(j:Nat):Stmt:=match s with
 | .ClassDef _ _ _ body _ _ _ _ _ _ _=>body.getD j (.Pass ⟨0,0,0,0⟩)
 | _=> .Pass ⟨0,0,0,0⟩
noncomputable def fj(s:Stmt):Arguments:=match s with
 | .FunctionDef _ a _ _ _ _ _ _ _ _=>a
 | _=>{posonlyargs:=[],args:=[],vararg:=none,kwonlyargs:=[],kw_defaults:=[],kwarg:=none,defaults:=[]}
noncomputable def d_(s:Stmt):List Stmt:=match s with
 | .FunctionDef _ _ b _ _ _ _ _ _ _=>b
 | _=>[]
noncomputable def aM(s:Stmt):Scope:=match s with
 | .FunctionDef _ _ _ _ _ _ sc _ _ _=>sc
 | _=>{kind:= .function,names:=[],isGenerator:=false,isCoroutine:=false}
abbrev eU:Fo:=fun _ _ _ _ _ _=>False
abbrev E0:XK:=fun _ _ _=>False
def uh:kF eU X E0:=fun _ _ _ _ _ _ _ h=>h.elim
structure Fun(K:Frag)(x qual:Str)(st:Stmt)(f:Addr)(fd:FuncData):Prop where
 ex:∃(oc:Value) (od:Option Addr) (kV doc pm:Value) (an:Option Addr) (cdv ct:Value) (osl:Array (Option Value)),fd=fnOf x qual (fj st) (d_ st) (aM st) .none kV doc pm an cdv ct/\K.lookup f=some ⟨oc,od,.func fd,osl⟩/\codeIn K cdv qual=true
 kp:keepIn K (.ref f)=true
section
def Fun.ok{K:Frag}{st:Stmt}(F:Fun K x qual st f fd)(S:bw N ps (aM st))(len:∀vs H Q E,sp vs H Q E->vs.length=ps.length)(hbody:∀cdv A outer s H vs Q E,Room k (A.deeper (envOfC qual (aM st) s.heap.objs.size f cdv))->sp vs H Q E->∃t,PSs (ye eU P w K mg base N qual (aM st) f cdv A outer s H E).nox (d_ st) t/\t {nx:=fun _ H'=>Q .non H',rt:=Q} (lI N vs) H):b_ P w K mg base eU (k+1) f fd ps sp:=by
 obtain⟨oc,od,kV,doc,pm,an,cdv,ct,osl,rfl,lk,hcd⟩:=F.ex;refine HX lk hcd S len fun A outer s H vs Q E hr hsp=> ?_;obtain⟨t,h,q⟩:=hbody cdv A outer s H vs Q E hr hsp;exact⟨t,h.nox,q⟩
def Fun.binds{K:Frag}{st:Stmt}(F:Fun K x qual st f fd)(h:∀kV doc pm an cdv ct us,us.length=ps.length->bindArgs (fnOf x qual (fj st) (d_ st) (aM st) .none kV doc pm an cdv ct) ⟨us,[]⟩=pure (ps.zip us)):Binds K fd ps []:=by
 obtain⟨oc,od,kV,doc,pm,an,cdv,ct,osl,rfl,lk,hcd⟩:=F.ex;exact .all (h kV doc pm an cdv ct)
def vQ{K:Frag}{st:Stmt}{kV:Value}(l:K.lookup f=some ⟨oc,od,.func (fnOf x qual (fj st) (d_ st) (aM st) .none kV doc pm an cdv ct),osl⟩)(c:codeIn K cdv qual=true)(k:keepIn K (.ref f)=true):Fun K x qual st f (fnOf x qual (fj st) (d_ st) (aM st) .none kV doc pm an cdv ct):=⟨⟨oc,od,kV,doc,pm,an,cdv,ct,osl,rfl,l,c⟩,k⟩
end
def fL(hr:Room k A):A.units+1<cLine:=bO (Nat.add_le_add_left (by decide:1<=64) _) hr.units
def bH(h:n<=1000):n<sizeLine:=bO h (by decide)
section
def pv{X:Cx}(i:Nat){x:Str}{pos:Pos}(hN:X.N[i]? =some x:=by rfl)(hv:L1 X.env.scope x:=by first | exact Or.inl rfl | exact Or.inr (Or.inl rfl) | exact Or.inr (Or.inr rfl))(hd:(x==("__debug__":Str))=false:=by decide)(hcd:(x==("__classdict__":Str))=false:=by decide):PE X (.Name x pos) (og i):=IQ hN hv hd hcd
def aD:=fun {a b c}=> @pv a 0 b c
def bf:=fun {a b c}=> @pv a 1 b c
def bJ:=fun {a b c}=> @pv a 2 b c
def cE:=fun {a b c}=> @pv a 3 b c
def cG:=fun {a b c}=> @pv a 4 b c
def ee:=fun {a b c}=> @pv a 5 b c
def eW:=fun {a b c}=> @pv a 6 b c
def jh:=fun {a b c}=> @pv a 7 b c
def m_:=fun {a b c}=> @pv a 8 b c
def sN:=fun {a b c}=> @pv a 9 b c
end
def fY{c A B:Prop}[Decidable c](h1:c->A)(h2:¬ c->B):if c then A else B:=by
 by_cases h:c
 · rw[aE h];exact h1 h
 · rw[aA h];exact h2 h
def Same(H H':Hp):Prop:=∀b o,H b=some o->H' b=some o
def Same.refl(H:Hp):Same H H:=fun _ _ h=>h
def Same.trans(a:Same H H1)(b:Same H1 H2):Same H H2:=fun c o h=>b c o (a c o h)
def Same.seq{K:Frag}(e:Same H H')(h:SqL K H a xs):SqL K H' a xs:=by
 rcases h with(h | ⟨o,h⟩) | h
 · exact .inl (.inl (e _ _ h))
 · exact .inl (.inr ⟨o,e _ _ h⟩)
 · exact .inr h
end L2
set_option maxHeartbeats 4000000
namespace L2
open PySem PySem.Spec PyProof.Rows
def aj(h:H p=none)(o:HO):Same H (upd H p o):=fun b u q=>by rw[aB (bp q h)];exact q
def Mr(t u:TS):TS:=fun D σ H=>∃M:St->Hp->Prop,t {D with nx:=M} σ H/\∀σ' H',M σ' H'->u D σ' H'
def vi{X:Cx}{st:Stmt}{rest:List Stmt}{t u:TS}(h1:PS X st t)(h2:PSs X rest u):PSs X (st::rest) (Mr t u):=by
 intro pins s σ H D I ⟨M,h,hM⟩;refine BC (cZ (h1 pins s σ H {D with nx:=M} I h) fun f s1 q=> ?_);cases f with
 | next=>
   obtain⟨σ',H',I',q⟩:=q;exact h2 pins s1 σ' H' D I' (hM _ _ q)
 | ret v=>exact q
 | brk=>exact q
 | cont=>exact q
noncomputable def CZ:Expr->Option Str
 | .Constant (.str x) _ _=>some x
 | _=>none
noncomputable def oh:List Expr->Option (List Str)
 | []=>some []
 | e::r=>(CZ e).bind fun x=>(oh r).map fun xs=>x::xs
def Ho(xs:List Str):TA:=fun _ H Q=>Q (xs.map V.str) H
theorem Bh{X:Cx}:∀{es:List Expr} (xs:List Str),oh es=some xs->PA X es (Ho xs)
 | [],xs,h=>by
   cases h;exact cf
 | e::r,xs,h=>by
   cases he:CZ e with
   | none=>rw[oh,he] at h;cases h
   | some x=>
     cases hr:oh r with
     | none=>rw[oh,he,hr] at h;cases h
     | some ys=>
       rw[oh,he,hr] at h;cases h;have hc:∃k p,e= .Constant (.str x) k p:=by
        unfold CZ at he
        split at he
        · cases he;exact⟨_,_,rfl⟩
        · cases he
       obtain⟨k,p,rfl⟩:=hc;intro pos pins s σ H Q I q;have z:PA X (.Constant (.str x) k p::r) (dF (tC (.str x)) (Ho ys)):=d8 bq (Bh ys hr);exact z pos pins s σ H Q I q
noncomputable def iC(cells:List (Str × Addr)):List (Str × NameKind)->List (Str × Addr)->List (Str × Addr)
 | [],acc=>acc
 | (n,k)::r,acc=>iC cells r (if k== .free then(n,(cells.lookup n).getD 0)::acc else acc)
theorem rX(env:Env):∀names acc,(∀y∈names,y.2= .free->∃c,env.cells.lookup y.1=some c)->(forIn names acc (fun x cs=>if(x.2==NameKind.free)=true then do let a<-cellOf env x.1;pure (ForInStep.yield ((x.1,a)::cs)) else pure (ForInStep.yield cs)):Sem (List (Str × Addr)))=pure (iC env.cells names acc)
 | [],acc,_=>rfl
 | (n,k)::r,acc,h=>by
   have ih:=fun acc'=>rX env r acc' fun y hy=>h y (aG _ hy);rw[g9];cases hk:k==NameKind.free with
   | false=>
     simp only[iC,hk,Ov,GL,pure_bind];exact ih acc
   | true=>
     obtain⟨c,hc⟩:=h (n,k) aL (by simpa using hk);have hc':env.cells.lookup n=some c:=hc;have e:cellOf env n=pure c:=by unfold cellOf;rw[hc']
     simp only[iC,hk,kr,e,pure_bind,hc',Option.getD_some];exact ih _
def ku(h:∀y∈scope.names,y.2= .free->∃c,env.cells.lookup y.1=some c):closureFor scope env=pure (iC env.cells scope.names []):=by
 unfold closureFor;have q:=rX env scope.names [] h
 first
  | exact q
  | (simp only[bind_pure];exact q)
  | (rw[show(forIn scope.names [] _:Sem (List (Str × Addr)))=_ from q];rfl)
theorem capOf_some:∀names acc,(∀y∈names,y.2= .free->∃c,cells.lookup y.1=some c)->(iC cells names acc).lookup x=some c->acc.lookup x=some c\/cells.lookup x=some c
 | [],acc,_,h=> .inl h
 | (n,k)::r,acc,hf,h=>by
   have hf':∀y∈r,y.2= .free->∃c,cells.lookup y.1=some c:=fun y hy=>hf y (aG _ hy);cases hk:k==NameKind.free with
   | false=>
     simp only[iC,hk,Ov,GL] at h;exact capOf_some r acc hf' h
   | true=>
     simp only[iC,hk,kr] at h;rcases capOf_some r _ hf' h with h | h
     · rw[cO] at h;cases hx:x==n with
       | true=>
         rw[hx] at h;obtain⟨c',hc⟩:=hf (n,k) aL (by simpa using hk);have hc':cells.lookup n=some c':=hc;have e:x=n:=by simpa using hx
         simp only[hc',Option.getD_some] at h;cases h;exact .inr (by rw[e];exact hc')
       | false=>rw[hx] at h;exact .inl h
     · exact .inr h
theorem rY:∀names acc,(∃c,acc.lookup x=some c)->∃c,(iC cells names acc).lookup x=some c
 | [],_,h=>h
 | (n,k)::r,acc,h=>by
   unfold iC;refine rY r _ ?_;cases hk:k==NameKind.free with
   | false=>simpa using h
   | true=>
     simp only[kr];rw[cO];cases hx:x==n with
     | true=>exact⟨_,rfl⟩
     | false=>exact h
theorem kX:∀names acc,(x,NameKind.free)∈names->∃c,(iC cells names acc).lookup x=some c
 | [],_,h=>nomatch h
 | (n,k)::r,acc,h=>by
   rcases aI.mp h with e | h
   · cases e;unfold iC;refine rY r _ ?_;simp only[beq_self_eq_true,kr];refine⟨(cells.lookup x).getD 0,?_⟩;rw[cO];simp
   · exact kX r _ h
noncomputable def kB(scope outer:Scope):Bool:=(scope.kind== .function)&&scope.names.all fun y=>(y.2 != .cell)&&(y.2 != .local || scope.names.lookup y.1==some .local)&&(y.2 != .free || (outer.names.lookup y.1==some .cell || outer.names.lookup y.1==some .free))
def jk(h:kB scope outer=true):scope.kind= .function:=by
 unfold kB at h;rw[aP] at h;simpa using h.1
def h_(h:kB scope outer=true):∀y∈scope.names,y.2≠ .cell/\(y.2= .local->scope.names.lookup y.1=some .local)/\(y.2= .free->outer.names.lookup y.1=some .cell\/outer.names.lookup y.1=some .free):=by
 unfold kB at h;rw[aP,cP] at h;intro y hy;have q:=h.2 y hy;simp only[aP,qA,bne_iff_ne,lj,ne_eq] at q;refine⟨q.1.1,fun e=> ?_,fun e=> ?_⟩
 · rcases q.1.2 with z | z
   · exact absurd e z
   · exact z
 · rcases q.2 with z | z
   · exact absurd e z
   · exact z
noncomputable def gu(XN:List Str)(scope:Scope):List Str->List Nat->Bool
 | [],[]=>true
 | x::r,i::t=>(XN[i]? ==some x)&&(scope.names.lookup x==some .free)&&gu XN scope r t
 | _,_=>false
theorem rW:∀{cs:List Str} {caps:List Nat} {j:Nat} {x:Str},gu XN scope cs caps=true->cs[j]? =some x->∃i,caps[j]? =some i/\XN[i]? =some x/\scope.names.lookup x=some .free
 | [],_,j,x,_,h=>by simp at h
 | y::r,[],j,x,h,_=>by simp[gu] at h
 | y::r,i::t,0,x,h,e=>by
   simp only[gu,aP,lj] at h;simp at e;subst e;exact⟨i,rfl,h.1.1,h.1.2⟩
 | y::r,i::t,j+1,x,h,e=>by
   simp only[gu,aP] at h;obtain⟨k,h1,h2⟩:=rW (j:=j) (x:=x) h.2 (by simpa using e);exact⟨k,by simpa using h1,h2⟩
theorem rV:∀{cs:List Str} {caps:List Nat},gu XN scope cs caps=true->cs.length=caps.length
 | [],[],_=>rfl
 | [],_::_,h=>by simp[gu] at h
 | _::_,[],h=>by simp[gu] at h
 | y::r,i::t,h=>by
   simp only[gu,aP] at h;simp[rV h.2]
noncomputable def Al(nl:Nat)(caps:List Nat)(σ:St):St:=List.replicate nl none++caps.map fun i=>(σ[i]?).getD none
noncomputable def iT(X:Cx)(scope:Scope)(N:List Str)(s:Shared)(H:Hp)(fp:List Addr):Cx:={X with N:=N,s₀:=s,H₀:=H,env:=compEnvC scope (iC X.env.cells scope.names []) (s.heap.objs.size+1) X.env,outer:=X.stack,stack:=X.stack,ex:=fp,fn:=fun _=>false,pn:=[],xe:=fun _ _=>False}
section
theorem d7{env:Env}{x:Str}{k:NameKind}:∀{names:List (Str × NameKind)},(names.map fun(n,k)=>if(k==NameKind.free&&env.scope.kind== .function&&env.kindOf n==some .cell) then(n,NameKind.cell) else(n,k)).lookup x=some k->(k= .cell\/k= .free)->(x,NameKind.cell)∈names\/(x,NameKind.free)∈names
 | [],h,_=>by simp at h
 | (n,k')::r,h,hk=>by
   have h':List.lookup x ((if(k'==NameKind.free&&env.scope.kind== .function&&env.kindOf n==some .cell)=true then(n,NameKind.cell) else(n,k'))::(r.map fun(n,k)=>if(k==NameKind.free&&env.scope.kind== .function&&env.kindOf n==some .cell) then(n,NameKind.cell) else(n,k)))=some k:=h;by_cases hc:(k'==NameKind.free&&env.scope.kind== .function&&env.kindOf n==some .cell)=true
   · rw[aE hc,cO] at h';cases hx:x==n with
     | true=>
       have e:x=n:=by simpa using hx
       have e2:k'= .free:=by
        rw[aP,aP] at hc;simpa using hc.1.1
       subst e;subst e2;exact .inr aL
     | false=>
       rw[hx] at h';exact(d7 h' hk).imp (aG _) (aG _)
   · rw[aA hc,cO] at h';cases hx:x==n with
     | true=>
       rw[hx] at h';have e:x=n:=by simpa using hx
       cases h';subst e;rcases hk with rfl | rfl
       · exact .inl aL
       · exact .inr aL
     | false=>
       rw[hx] at h';exact(d7 h' hk).imp (aG _) (aG _)
theorem fN{env:Env}:∀{names:List (Str × NameKind)} {x:Str},names.lookup x=some .free->(names.map fun(n,k)=>if(k==NameKind.free&&env.scope.kind== .function&&env.kindOf n==some .cell) then(n,NameKind.cell) else(n,k)).lookup x=some .cell\/(names.map fun(n,k)=>if(k==NameKind.free&&env.scope.kind== .function&&env.kindOf n==some .cell) then(n,NameKind.cell) else(n,k)).lookup x=some .free
 | [],_,h=>by simp at h
 | (n,k)::r,x,h=>by
   have ih:= @fN env r x;show List.lookup x ((if(k==NameKind.free&&env.scope.kind== .function&&env.kindOf n==some .cell)=true then(n,NameKind.cell) else(n,k))::_)=_\/List.lookup x ((if(k==NameKind.free&&env.scope.kind== .function&&env.kindOf n==some .cell)=true then(n,NameKind.cell) else(n,k))::_)=_;cases hx:x==n with
   | true=>
     simp only[cO,hx] at h;cases h;by_cases hc:(NameKind.free==NameKind.free&&env.scope.kind== .function&&env.kindOf n==some .cell)=true
     · rw[aE hc];left;simp[cO,hx]
     · rw[aA hc];right;simp[cO,hx]
   | false=>
     simp only[cO,hx] at h;by_cases hc:(k==NameKind.free&&env.scope.kind== .function&&env.kindOf n==some .cell)=true
     · rw[aE hc];simp only[cO,hx];exact ih h
     · rw[aA hc];simp only[cO,hx];exact ih h
def dI{σ:St}(I:Inv X pins σ H s)(hb:kB scope X.env.scope=true):∀y∈scope.names,y.2= .free->∃c,X.env.cells.lookup y.1=some c:=fun y hy e=>
 I.ok.has y.1 ((h_ hb y hy).2.2 e)
def vU{σ:St}{fp:List Addr}(I:Inv X pins σ H s)(hb:kB scope X.env.scope=true)(hf:∀b∈fp,lF X pins H b)(hlt:∀b∈fp,b<s.heap.objs.size):(iT X scope N s H fp).Ok where
 mod:=I.ok.mod
 kind:=show scope.kind= .function from jk (outer:=X.env.scope) hb
 glob:=I.ok.glob
 blt:=I.ok.blt
 above:=bD _
 inj:=fun x y c h1 h2=>by
  have q1:=(capOf_some scope.names [] (dI I hb) h1).resolve_left (by simp);have q2:=(capOf_some scope.names [] (dI I hb) h2).resolve_left (by simp);exact I.ok.inj x y c q1 q2
 has:=fun x hx=>by
  have hx':(relabel scope X.env).names.lookup x=some .cell\/(relabel scope X.env).names.lookup x=some .free:=hx;have q:(x,NameKind.cell)∈scope.names\/(x,NameKind.free)∈scope.names:=by
   rcases hx' with z | z
   · exact d7 z (.inl rfl)
   · exact d7 z (.inr rfl)
  rcases q with q | q
  · exact absurd rfl (h_ hb _ q).1
  · exact kX scope.names [] q
 cab:=fun x c h=>nomatch h
 hd:=I.ok.hd
 frames:=I.ok.frames
 stk:= .inl rfl
 exf:=fun b hbm=>⟨bI (dD (hlt b hbm)),fun x c e=>by
  have q:=(capOf_some scope.names [] (dI I hb) e).resolve_left (by simp);exact(hf b hbm).2.2.2.2.1 x c q⟩
 bs:=I.bs
 bsz:=ai I.ok.bsz I.sz
 noex:=fun b o e hbm=>by
  rcases(hf b hbm).2.2.2.1 with z | z
  · exact I.ok.noex b o e z
  · exact absurd (ax (aN e) (ai I.ok.bsz z)) (gg _)
 exfs:=fun b hbm z=>by
  rcases aI.mp (I.stkSub b z) with e | e
  · exact(hf b hbm).2.1 e
  · exact(hf b hbm).2.2.1 e
 funs:=I.stack
 frf:=I.stkFree
def rQ{σ σ':St}(I:Inv X pins σ H s)(hf:∀b∈fp,lF X pins H b)(J:Inv (iT X scope N s H fp) [] σ' H' s'):Inv X pins σ H' s':=I.call' J.os J.base J.hok J.bare fun b hb=>⟨(hf b hb).2.2.2.1,(hf b hb).2.1,(hf b hb).2.2.2.2.1,(hf b hb).2.2.2.2.2⟩
end
def Fg(X:Cx)(ifs:List Expr)(t:TT):Prop:=∀(pins:List (Addr × Obj)) (s:Shared) (σ:St) (H:Hp) (Q:Bool->Hp->Prop),Inv X pins σ H s->t σ H Q->wpAny (model X.prog X.w) X.A (forIn ifs true fun c r=>if r=true then do let ok<-isTrue c X.env (eval c X.env);pure (ForInStep.yield ok) else pure (ForInStep.yield r)) (TP X pins σ Q) X.xe s
def Mi:TT:=fun _ H Q=>Q true H
def fb:Fg X [] Mi:=fun _ _ _ H _ I h=>wpAny_tests_nil ⟨H,I,h⟩
def ny(hc:PT X c t):Fg X [c] t:=fun pins s σ H Q I h=>wpAny_tests_one (hc pins s σ H Q I h)
theorem Cu{prog:Program}{w:World}{A:Around}{R:Result->Shared->Prop}{s:Shared}{elt target iter:Expr}{ifs:List Expr}{scope:Scope}{pos:Pos}{it acc:Value}{env:Env}(I:Nat->Shared->Prop)(turn:∀n s,I n s->wpAny (model prog w) A (pyNext it) (fun r s₁=>match r with
 | none=>R (.ok .next) s₁
 | some v=>wpAny (model prog w) A (letOwnedTupleGo target it v) (fun _ s₁'=>wpAny (model prog w) A (assign target env v) (fun _ s₂=>
  wpAny (model prog w) A (forIn ifs true fun c r=>if r=true then do let ok<-isTrue c env (eval c env);pure (ForInStep.yield ok) else pure (ForInStep.yield r)) (fun ok s₃=>
   if ok=true then wpAny (model prog w) A (eval elt env) (fun x s₄=>
    wpAny (model prog w) A (call (.builtin "list.append") [acc,x]) (fun _ s₅=>∃m,m<n/\I m s₅) (fun _ _=>False) s₄) (fun _ _=>False) s₃
   else ∃m,m<n/\I m s₃) (fun _ _=>False) s₂) (fun _ _=>False) s₁') (fun _ _=>False) s₁) (fun _ _=>False) s) (n:Nat) (h:I n s):codeAny (model prog w) A (.compLoop (.ListComp elt [⟨target,iter,ifs,0⟩] scope pos) 0 it acc env) R s:=by
 refine codeAny_loop rfl I (fun n s hI=> ?_) n h;show wpAny _ A ((compTurn (.ListComp elt [⟨target,iter,ifs,0⟩] scope pos) 0 it acc env).onRaise (fun x=>do noteFrame x env;theTreesLotGoes x)) _ _ s;refine wpAny_noted ?_;refine wpAny_noRaise ?_;rw[compTurn_list];refine aa (fk (aa (cJ (turn n s hI) (fun r s₁ h₁=> ?_) fun _ _ h'=>h')));cases r with
 | none=>exact aK h₁
 | some v=>
   refine aa (cJ h₁ (fun _ s₁' h₁'=> ?_) fun _ _ h'=>h');refine aa (cJ h₁' (fun _ s₂ h₂=>aa (cJ h₂ (fun ok s₃ h₃=> ?_) fun _ _ h'=>h')) fun _ _ h'=>h');cases ok with
   | false=>exact aK ⟨rfl,h₃⟩
   | true=>
     exact aa (aa (cJ h₃ (fun x s₄ h₄=>aa (cJ h₄ (fun _ s₅ h₅=>aK (aK ⟨rfl,h₅⟩)) fun _ _ h'=>h')) fun _ _ h'=>h'))
def JT(J:It)(g:TG)(tc:TT)(te:TE)(D:Addr)(Fin:Hp->Prop)(σ0:St)(H0:Hp):Prop:=∃W:Nat->Nat->St->Hp->Prop,(∃m,W 0 m σ0 H0)/\∀i m σ H,W i m σ H->(J.stop i H/\Fin H)\/(J.go i H/\∃N:St->Hp->Prop,(∀σ' H',N σ' H'->∃m',m'<m/\W (i+1) m' σ' H')/\∀x H1,J.yld i H x H1->g x σ H1 fun σ2 H2=>tc σ2 H2 fun b H3=>
   if b=true then te σ2 H3 fun v H4=>∃xs,H4 D=some (.lst xs)/\xs.length<sizeLine/\N σ2 (upd H4 D (.lst (xs++[v]))) else N σ2 H3)
def fD{Fin:Hp->Prop}(n:Nat)(Pv:Nat->St->Hp->Prop)(h0:Pv 0 σ0 H0)(hend:∀σ H,Pv n σ H->J.stop n H/\Fin H)(hs:∀i σ H,i<n->Pv i σ H->J.go i H/\∀x H1,J.yld i H x H1->g x σ H1 fun σ2 H2=>tc σ2 H2 fun b H3=>
 if b=true then te σ2 H3 fun v H4=>∃xs,H4 D=some (.lst xs)/\xs.length<sizeLine/\Pv (i+1) σ2 (upd H4 D (.lst (xs++[v]))) else Pv (i+1) σ2 H3):JT J g tc te D Fin σ0 H0:=by
 refine⟨fun i m σ H=>m=n - i/\i<=n/\Pv i σ H,⟨n,by simp,av _,h0⟩,?_⟩;rintro i m σ H ⟨rfl,hi,p⟩;by_cases hlt:i<n
 · obtain⟨q1,q2⟩:=hs i σ H hlt p;exact .inr ⟨q1,Pv (i+1),fun σ' H' p'=>⟨n - (i+1),by lia,rfl,hlt,p'⟩,q2⟩
 · have e:i=n:=by lia
   subst e;exact .inl (hend σ H p)
def Hr(wi:TI)(g:TG)(tc:TT)(te:TE)(nl:Nat)(caps:List Nat):TE:=fun σ H Q=>
 wi σ H fun J H1=>∀D,H1 D=none->JT J g tc te D (fun H'=>Q (.ref D) H') (Al nl caps σ) (upd H1 D (.lst []))
section
def rT{cR:List Str}{σ:St}{RR:Value->Addr->Result->Shared->Prop}{Fin:Hp->Prop}(hc:X.calm=true)(hb:kB scope X.env.scope=true)(hcap:gu X.N scope cs caps=true)(I:Inv X pins σ H s)(T:yl X.prog X.w X.K tg J fp it tn)(st:tn 0 s.heap)(hf:∀b∈fp,lF X pins H b)(hg:PG (iT X scope (cR++cs) s H fp) tg g)(ht:Fg (iT X scope (cR++cs) s H fp) ifs tc)(he:PE (iT X scope (cR++cs) s H fp) elt te)(h:JT J g tc te s.heap.objs.size Fin (Al cR.length caps σ) (upd H s.heap.objs.size (.lst [])))(hRR:∀σ' H' s',Inv (iT X scope (cR++cs) s H fp) [] σ' H' s'->Fin H'->RR (.ref s.heap.objs.size) (s.heap.objs.size+1) (.ok .next) s'):wpAny (model X.prog X.w) X.A (newList []) (fun acc s₃=>wpAny (model X.prog X.w) X.A (newFunctionEnv scope X.env.globals (iC X.env.cells scope.names []) [] X.env.qual none .none (some X.env)) (fun cenv s₄=>
  codeAny (model X.prog X.w) X.A (.compStart (.ListComp elt [⟨tg,iter,ifs,0⟩] scope pos) 0 (.ref it) acc {cenv with scope:=relabel scope X.env}) (RR acc cenv.locals) s₄) E s₃) E s:=by
 have hcell:∀y∈scope.names,y.2≠ .cell:=fun y hy=>(h_ hb y hy).1;have hkind:=jk hb;have hlt:∀b∈fp,b<s.heap.objs.size:=fun b hbm=>by
  obtain⟨o,e,_⟩:=T.obj 0 _ st b hbm;exact aN e
 refine dC (Md hcell (by intro y hy;simp at hy) (fun h₁ hns₁ hsb₁=> ?_) hkind);dsimp only at hns₁ hsb₁⊢;generalize hH2:s.heap.push {cls:= .type "list",dict:=none,data:= .seq ([]:List Value).toArray}=H2 at hns₁ hsb₁⊢;have hC:H2.objs.size=s.heap.objs.size+1:=by rw[<-hH2,dZ]
 rw[hC] at hns₁ hsb₁⊢;have hDC:s.heap.objs.size≠s.heap.objs.size+1:=bI (jm _);have below:∀b,b<s.heap.objs.size->b≠s.heap.objs.size+1:=fun b hb=>bI (dD hb);have old:∀b o,s.heap.get? b=some o->h₁.get? b=some o:=fun b o e=>hsb₁.extBut b o (below b (aN e)) (aC _ (hH2 ▸ aC _ e));have hD:h₁.get? s.heap.objs.size=some {cls:= .type "list",dict:=none,data:= .seq ([]:List Value).toArray}:=
  hsb₁.extBut _ _ hDC (aC _ (hH2 ▸ a_ _ rfl))
 have frC:H (s.heap.objs.size+1)=none:=I.hok.fresh (bD _);have frD:H s.heap.objs.size=none:=I.hok.fresh (ar _);have J0:Inv (iT X scope (cR++cs) s H fp) [] (Al cR.length caps σ) (upd H s.heap.objs.size (.lst [])) {s with heap:=h₁,toks:=s.toks+([]:List (Str × Value)).length}:=by
  refine⟨vU I hb hf hlt,rfl,I.bare,Un.laid old (ar _) frD,⟨_,hns₁,fun i x v e1 e2 e3=> ?_⟩,fun x c e=> ?_,?_,fun x c e=> ?_,fun p hp=>absurd (show p∈([]:List (Addr × Obj)) from hp) (by simp),?_,?_⟩
  · have e1':(cR++cs)[i]? =some x:=e1;have hi:cR.length<=i:=by
     rcases eB i cR.length with hi | hi
     · unfold Al at e2;rw[bQ (by simpa using hi),oV] at e2
       split at e2<;>cases e2
     · exact hi
    rw[cy hi] at e1';obtain⟨k,q1,q2,q3⟩:=rW hcap e1';unfold Al at e2;rw[cy (by simpa using hi),dQ,aH,q1] at e2;have e2':(σ[k]?).getD none=some v:=by simpa using e2
    have e4:σ[k]? =some (some v):=by
     cases z:σ[k]? with
     | none=>rw[z] at e2';cases e2'
     | some o=>rw[z] at e2';simp at e2';rw[e2']
    have hfr:=(h_ hb _ (cU q3)).2.2 rfl;obtain⟨m,hn,hl⟩:=I.loc;obtain⟨u,r,l⟩:=hl k x v q2 e4 (hfr.elim (fun z=> .inr (.inl z)) fun z=> .inr (.inr z));refine⟨u,r,.inr ⟨?_,?_⟩⟩
    · exact fN q3
    · rcases l with⟨k1,_⟩ | ⟨_,c,ec,z⟩
      · exfalso
        have k1':X.env.scope.names.lookup x=some .local:=k1;rcases hfr with z | z<;>(rw[k1'] at z;cases z)
      · obtain⟨c',ec'⟩:=kX (cells:=X.env.cells) scope.names [] (cU q3);have q:=(capOf_some scope.names [] (dI I hb) ec').resolve_left (by simp);rw[ec] at q;cases q;obtain⟨o,ho,hd⟩:=z;exact⟨c,ec',o,old _ _ ho,hd⟩
  · have q:=(capOf_some scope.names [] (dI I hb) e).resolve_left (by simp);obtain⟨v,o,ho,hd⟩:=I.cell x c q;exact⟨v,o,old _ _ ho,hd⟩
  · show upd H s.heap.objs.size (.lst []) (s.heap.objs.size+1)=none;rw[aB (br hDC)];exact frC
  · have q:=(capOf_some scope.names [] (dI I hb) e).resolve_left (by simp);obtain⟨v,o,ho,hd⟩:=I.cell x c q;rw[aB (bI (aN ho))];exact I.freeC x c q
  · exact I.hok.laid old (ar _) ⟨av _,[],0,.nil,hD⟩
  · show(Al cR.length caps σ).length=(cR++cs).length;unfold Al;rw[ak,dQ,ae,ak,rV hcap]
 obtain⟨W,⟨m0,w0⟩,turn⟩:=h;have stat:∀{H':Hp},(∀b∈fp,H' b=none)->∀b∈fp,lF (iT X scope (cR++cs) s H fp) [] H' b:=fun {H'} hn b hbm=>by
  have q:=(vU (N:=cR++cs) I hb hf hlt);refine⟨hn b hbm,(q.exf b hbm).1,q.exfs b hbm,.inl hbm,(q.exf b hbm).2,fun p hp=>absurd (show p∈([]:List (Addr × Obj)) from hp) (by simp)⟩
 have fr0:∀b∈fp,upd H s.heap.objs.size (.lst []) b=none:=fun b hbm=>by rw[aB (bI (hlt b hbm))];exact(hf b hbm).1
 have loop:∀s₃:Shared,s₃={s with heap:=h₁,toks:=s.toks+([]:List (Str × Value)).length}->
  codeAny (model X.prog X.w) X.A (.compLoop (.ListComp elt [⟨tg,iter,ifs,0⟩] scope pos) 0 (.ref it) (.ref s.heap.objs.size) (iT X scope (cR++cs) s H fp).env) (RR (.ref s.heap.objs.size) (s.heap.objs.size+1)) s₃:=by
  rintro s₃ rfl;refine Cu (fun n s'=>∃i σ' H',Inv (iT X scope (cR++cs) s H fp) [] σ' H' s'/\tn i s'.heap/\(∀b∈fp,H' b=none)/\W i n σ' H') ?_ m0 ⟨0,_,_,J0,T.keep _ _ _ st fun b _ o e=>old b o e,fr0,w0⟩;rintro n s3 ⟨i,σ3,H3,I3,st3,fr3,w3⟩;rcases turn i n σ3 H3 w3 with⟨stop,qn⟩ | ⟨go,Nn,hNn,step⟩
  · refine cZ (T.done (iT X scope (cR++cs) s H fp) rfl rfl rfl hc i [] s3 σ3 H3 _ I3 (stat fr3) st3 stop) fun r s4 ⟨hr,I4⟩=> ?_;subst hr;exact hRR σ3 H3 s4 I4 qn
  · refine cZ (T.item (iT X scope (cR++cs) s H fp) rfl rfl rfl hc i [] s3 σ3 H3 _ I3 (stat fr3) st3 go) fun r s4 ⟨u,hr,h4⟩=> ?_;subst hr;refine cZ h4 fun _ s5 ⟨x,H5,I5,r5,y5,st5,fr5⟩=> ?_;have I5':=I5.pinned (stat fr5) (T.obj _ _ st5);have again:∀{σ7:St} {H7:Hp} {s7:Shared},Inv (iT X scope (cR++cs) s H fp) ([]++mj fp s5.heap) σ7 H7 s7->Nn σ7 H7->
     ∃m,m<n/\∃i σ' H',Inv (iT X scope (cR++cs) s H fp) [] σ' H' s7/\tn i s7.heap/\(∀b∈fp,H' b=none)/\W i m σ' H':=fun {σ7 H7 s7} I7 n7=>by
     obtain⟨m',hm,w7⟩:=hNn σ7 H7 n7;refine⟨m',hm,i+1,σ7,H7,I7.unpinned,T.keep _ _ _ st5 fun b hb o e=>(I7.pin (b,o) (aR _ (aR _ (gC hb e)))).1,fun b hb=> ?_,w7⟩;obtain⟨o,e,d⟩:=T.obj _ _ st5 b hb;exact(I7.pin (b,o) (aR _ (aR _ (gC hb e)))).2.1
    refine cZ (hg _ s5 σ3 H5 x u _ I5' r5 (step x H5 y5)) fun _ s6 ⟨σ6,H6,I6,q6⟩=> ?_;refine cZ (ht _ s6 σ6 H6 _ I6 q6) fun b s7 ⟨H7,I7,q7⟩=> ?_;cases b with
    | false=>exact again I7 q7
    | true=>
      refine cZ (he _ s7 σ6 H7 _ I7 q7) fun u8 s8 ⟨v8,H8,I8,r8,xs,e8,z8,q8⟩=> ?_;refine cZ (uj (X:=iT X scope (cR++cs) s H fp) ([]++mj fp s5.heap) s8 σ6 H8 (.ref s.heap.objs.size) [v8] (.ref s.heap.objs.size) [u8] (fun _ H9=>Nn σ6 H9) I8 rfl (.cons r8 .nil) ⟨xs,e8,z8,q8⟩) fun _ s9 ⟨_,H9,I9,_,q9⟩=> ?_;exact again I9 q9
 exact codeAny_compStart_list (loop _ rfl) (T.self _ 0 _ _ _ (T.keep _ _ _ st fun b _ o e=>old b o e) (loop _ rfl))
def fg{X:Cx}{tg iter elt:Expr}{ifs:List Expr}{scope:Scope}{pos:Pos}{wi:TI}{g:TG}{tc:TT}{te:TE}(cR cs:List Str)(caps:List Nat)(hc:X.calm=true)(hi:PI X tg iter wi)(hg:∀s H fp,PG (iT X scope (cR++cs) s H fp) tg g)(ht:∀s H fp,Fg (iT X scope (cR++cs) s H fp) ifs tc)(he:∀s H fp,PE (iT X scope (cR++cs) s H fp) elt te)(hb:kB scope X.env.scope=true:=by rfl)(hcap:gu X.N scope cs caps=true:=by rfl)(hs:∀x,foldedSetIterable iter X.env x=pure x:=by intro _;rfl):PE X (.ListComp elt [⟨tg,iter,ifs,0⟩] scope pos) (Hr wi g tc te cR.length caps):=by
 intro pins s σ H Q I h;rw[eval_ListComp];refine mO (use:=none) rfl hs (ku (dI I hb)) (jk hb) (fun y hy=>(h_ hb y hy).2.1) (cZ (hi pins s σ H _ I h) fun v s1 h1=>cZ h1 fun itv s2 h2=> ?_);obtain⟨it,fp,tn,J,H2,e,I2,T,st2,f2,q⟩:=h2;subst e;refine rT (RR:=fun acc C=>compPost (model X.prog X.w) X.A X.xe none (EP X pins σ Q) acc C) (cR:=cR) (cs:=cs) (Fin:=fun H'=>Q (.ref s2.heap.objs.size) H') hc hb hcap I2 T st2 f2 (hg _ _ _) (ht _ _ _) (he _ _ _) (q _ (I2.hok.fresh (ar _))) ?_;intro σ' H' s' J' q';obtain⟨m,hn,_⟩:=J'.loc;refine⟨m,hn,fun h' hs'=> ?_⟩;have I3:=rQ I2 f2 J';have fr:H' (s2.heap.objs.size+1)=none:=J'.free;refine⟨.ref s2.heap.objs.size,H',I3.turned (t':=s'.toks) (it:=s2.heap.objs.size+1) (fun b o hb e=>(hs'.2 b hb).trans e) fr ?_ (.inr (ai I2.sz (bD _))) ?_ ?_,rfl,q'⟩
 · exact iE (dD I2.lt)
 · intro x c e z;obtain⟨v,hv⟩:=I2.cell x c e;have h1:s2.heap.objs.size+1<s2.heap.objs.size:=z ▸ hv.lt;exact absurd h1 (pU.mpr (bD _))
 · intro p hp z;have h1:s2.heap.objs.size+1<s2.heap.objs.size:=z ▸ aN (I2.pin p hp).1;exact absurd h1 (pU.mpr (bD _))
def vj{X:Cx}{tg iter elt:Expr}{ifs:List Expr}{scope:Scope}{pos:Pos}{wi:TI}{g:TG}{tc:TT}{te:TE}{i:Nat}{y:Str}{py spos:Pos}(cR cs:List Str)(caps:List Nat)(hN:X.N.Nodup)(hiy:X.N[i]? =some y)(hc:X.calm=true)(hi:PI X tg iter wi)(hg:∀s H fp,PG (iT X scope (cR++cs) s H fp) tg g)(ht:∀s H fp,Fg (iT X scope (cR++cs) s H fp) ifs tc)(he:∀s H fp,PE (iT X scope (cR++cs) s H fp) elt te)(hy:X.env.scope.names.lookup y=some .local:=by rfl)(hsw:swapsWith (.ListComp elt [⟨tg,iter,ifs,0⟩] scope pos) (some (.Name y py)) spos.line X.env=pure true:=by rfl)(hb:kB scope X.env.scope=true:=by rfl)(hcap:gu X.N scope cs caps=true:=by rfl)(hs:∀x,foldedSetIterable iter X.env x=pure x:=by intro _;rfl):PS X (.Assign [.Name y py] (.ListComp elt [⟨tg,iter,ifs,0⟩] scope pos) spos) (FG (Hr wi g tc te cR.length caps) (gW i)):=by
 intro pins s σ H D I h;rw[exec_Assign_Name_used _ _ _ _ hsw];refine aa (fk (aa ?_));show wpAny _ X.A (do let _<-comprehension (.ListComp elt [⟨tg,iter,ifs,0⟩] scope pos) scope X.env _ (newList []) false (eval iter X.env) (some (assign (.Name y py) X.env))) _ _ s;refine aa (cJ (mO (use:=some (assign (.Name y py) X.env)) (Q:=fun _ s'=>SP X pins D .next s') rfl hs (ku (dI I hb)) (jk hb) (fun y hy=>(h_ hb y hy).2.1)
  (cZ (hi pins s σ H _ I h) fun v s1 h1=>cZ h1 fun itv s2 h2=> ?_)) (fun _ s' hq=>aK (aK hq)) fun _ _ e=>e)
 obtain⟨it,fp,tn,J,H2,e,I2,T,st2,f2,q⟩:=h2;subst e;refine rT (RR:=fun acc C=>compPost (model X.prog X.w) X.A X.xe (some (assign (.Name y py) X.env)) (fun _ s'=>SP X pins D .next s') acc C) (cR:=cR) (cs:=cs) (Fin:=fun H'=>gW i (.ref s2.heap.objs.size) σ H' D.nx) hc hb hcap I2 T st2 f2 (hg _ _ _) (ht _ _ _) (he _ _ _) (q _ (I2.hok.fresh (ar _))) ?_;intro σ' H' s' J' q';obtain⟨m,hn,_⟩:=J'.loc;have I3:=rQ I2 f2 J';have fr:H' (s2.heap.objs.size+1)=none:=J'.free;have neL:s2.heap.objs.size+1≠X.env.locals:=iE (dD I2.lt);have neC:∀x c,X.env.cells.lookup x=some c->c≠s2.heap.objs.size+1:=fun x c e z=>by
  obtain⟨v,hv⟩:=I2.cell x c e;have h1:s2.heap.objs.size+1<s2.heap.objs.size:=z ▸ hv.lt;exact absurd h1 (pU.mpr (bD _))
 show wpAny _ X.A (assign (.Name y py) X.env (.ref s2.heap.objs.size)) _ _ s';refine Ow (tE I3 hN hiy (.inl hy) (v:= .ref s2.heap.objs.size) rfl (fun s4 I4 hsb=> ?_) (.inr hy));obtain⟨a,sb,ha⟩:=hsb;have ane:s2.heap.objs.size+1≠a:=by
  rcases ha with rfl | ha
  · exact neL
  · exact br (neC _ _ ha)
 refine⟨m,hn.sameBut sb ane,fun h' hs'=> ?_⟩;refine⟨_,H',I4.turned (t':=s4.toks) (it:=s2.heap.objs.size+1) (fun b o hb e=>(hs'.2 b hb).trans e) fr neL (.inr (ai I2.sz (bD _))) neC ?_,q'⟩;intro p hp z;have h1:s2.heap.objs.size+1<s2.heap.objs.size:=z ▸ aN (I2.pin p hp).1;exact absurd h1 (pU.mpr (bD _))
end
noncomputable def LL(x:Str):It:=⟨fun i _=>i<x.cps.size,fun i H v H'=>H'=H/\∃c,x.cps[i]? =some c/\v= .str ⟨#[c]⟩,fun i _=>i=x.cps.size⟩
def CL{K:Frag}(it:Addr)(x:Str)(t:Tok)(T:String)(hT:T="str_ascii_iterator"\/T="str_iterator")(W:∀A':Around,A'.handled=none->Walks P w A' it [it] [it] x.cps.size (SignAt x) (fun i h=>h.IsStrIter it T x t i)):yl P w K tg (LL x) [it] it (fun i h=>h.IsStrIter it T x t i) where
 mem:=by simp
 obj:=fun i h st b hb=>by
  have e:b=it:=by simpa using hb
  subst e;obtain⟨o,e,c,d⟩:=st;exact⟨o,e,fun v z=>by rw[d] at z;cases z⟩
 keep:=fun i h h' st k=>by
  obtain⟨o,e,r⟩:=st;exact⟨o,k it (by simp) o e,r⟩
 item:=by
  intro X hP hw hK hc i pins s σ H E I hf st hg;subst hP hw hK;obtain⟨f0,f1,f2,f3,f4,f5⟩:=hf it (by simp);refine(W X.A (I.ok.hd hc)).item i s _ _ hg st fun v h' tk hv st' kk=> ?_;obtain⟨c,u,hcx,rfl⟩:=hv;have I1:Inv X pins σ H {s with heap:=h',toks:=tk}:=I.turned (fun b o hb e=>kk b o (by simpa using hb) e) f0 f1 f3 f4 f5;obtain⟨o,e,c1,d⟩:=id st';refine⟨_,rfl,EJ (s:={s with heap:=h',toks:=tk}) e c1 d (by rcases hT with rfl | rfl<;>decide) ⟨.str ⟨#[c]⟩,H,I1,⟨u,rfl⟩,⟨rfl,c,hcx,rfl⟩,st',fun b hb=>(hf b hb).1⟩⟩
 done:=by
  intro X hP hw hK hc i pins s σ H E I hf st hg;subst hP hw hK;have hg':i=x.cps.size:=hg;subst hg';obtain⟨f0,f1,f2,f3,f4,f5⟩:=hf it (by simp);exact(W X.A (I.ok.hd hc)).done s _ _ st fun h' tk kk=>⟨rfl,I.turned (fun b o hb e=>kk b o (by simpa using hb) e) f0 f1 f3 f4 f5⟩
 self:=fun A i s Q E st h=>by
  rcases hT with rfl | rfl
  · exact wpAny_pyIter_striter_ascii st h
  · exact wpAny_pyIter_striter_wide st h
section
def M6(tl:TE):TI:=fun σ H R=>tl σ H fun x H1=>∃z,x= .str z/\R (LL z) H1
def Dw(hl:PE X l tl):PI X tg l (M6 tl):=by
 intro pins s σ H R I h;refine cZ (hl pins s σ H _ I h) fun v s1 ⟨x,H1,I1,r1,q1⟩=> ?_;obtain⟨z,rfl,q⟩:=q1;obtain⟨t,rfl⟩:=r1;have fin:∀(T:String) (o:Obj),(T="str_ascii_iterator"\/T="str_iterator")->(∀A':Around,A'.handled=none->Walks X.prog X.w A' s1.heap.objs.size [s1.heap.objs.size] [s1.heap.objs.size] z.cps.size (SignAt z) (fun i h=>h.IsStrIter s1.heap.objs.size T z t i))->
  (s1.heap.push o).IsStrIter s1.heap.objs.size T z t 0->Ng X pins σ tg R (.ref s1.heap.objs.size) {s1 with heap:=s1.heap.push o}:=fun T o hT W st=>by
  refine⟨s1.heap.objs.size,[s1.heap.objs.size],_,_,H1,rfl,I1.kept (t':=s1.toks) fun b o e=>aC _ e,CL _ z t T hT W,st,fun b hb=> ?_,q⟩;have e:b=s1.heap.objs.size:=by simpa using hb
  subst e;exact I1.fpOk (ar _) (I1.hok.fresh (ar _))
 cases ha:z.cps.all (· <128)
 · exact wpAny_pyIter_wide ha (fin "str_iterator" _ (.inr rfl) (fun A' hA=>Walks.strWide hA _ z t) ⟨_,a_ _ rfl,rfl,rfl⟩)
 · exact wpAny_pyIter_ascii ha (fin "str_ascii_iterator" _ (.inl rfl) (fun A' hA=>Walks.strAscii hA _ z t) ⟨_,a_ _ rfl,rfl,rfl⟩)
end
def GQ{g:TG}{tb:TS}{D:sx}(Pv:Nat->St->Hp->Prop)(h0:Pv 0 σ H)(hs:∀i c σ H,z.cps[i]? =some c->Pv i σ H->g (.str ⟨#[c]⟩) σ H fun σ2 H2=>tb {D with nx:=Pv (i+1),ct:=Pv (i+1),bk:=D.nx} σ2 H2)(hd:∀σ H,Pv z.cps.size σ H->D.nx σ H):∃W:Nat->Nat->St->Hp->Prop,(∃m,W 0 m σ H)/\∀i m σ H,W i m σ H->((LL z).stop i H/\D.nx σ H)\/((LL z).go i H/\∃N:St->Hp->Prop,(∀σ' H',N σ' H'->∃m',m'<m/\W (i+1) m' σ' H')/\∀x H',(LL z).yld i H x H'->g x σ H' fun σ2 H2=>tb {D with nx:=N,ct:=N,bk:=D.nx} σ2 H2):=by
 refine⟨fun i m σ H=>m=z.cps.size - i/\i<=z.cps.size/\Pv i σ H,⟨z.cps.size,by simp,av _,h0⟩,?_⟩;rintro i m σ H ⟨rfl,hi,p⟩;by_cases hlt:i<z.cps.size
 · refine .inr ⟨hlt,Pv (i+1),fun σ' H' p'=>⟨z.cps.size - (i+1),by lia,rfl,hlt,p'⟩,fun x H' y=> ?_⟩;obtain⟨e,c,hc,rfl⟩:=y;subst e;exact hs i c σ _ hc p
 · have e:i=z.cps.size:=by lia
   subst e;exact .inl ⟨rfl,hd σ H p⟩
section
def xt(p:IsPart u o):∃l:Option (Int × Tok),u=partValue l/\l.map (·.1)=o:=by
 cases p with
 | none=>exact⟨none,rfl,rfl⟩
 | int i t=>exact⟨some (i,t),rfl,rfl⟩
def MH:V->Option Int->Option Int->Hp->VK->Prop:=fun x lo hi H Q=>∃z,x= .str z/\z.length<=sizeLine/\Q (.str (Txt.slice z lo hi)) H
def jY:L5 X MH:=by
 intro pins s σ H x v vl vu lo hi sl Q I rx hs pl pu h;obtain⟨z,rfl,hz,q⟩:=h;obtain⟨t,rfl⟩:=rx;obtain⟨l,rfl,rfl⟩:=xt pl;obtain⟨u,rfl,rfl⟩:=xt pu;refine⟨"str",_,F.slot_str_getitem.lookup,NY _ _ _,wpAny_getItem_str_slice (l:=l) (u:=u) (st:=none) hs rfl ?_⟩;exact post_val_or_str ⟨ai (Lw z _ _) hz,fun t' k=>⟨.str (Txt.slice z (l.map (·.1)) (u.map (·.1))),H,I.tok _,⟨t',rfl⟩,q⟩⟩
def GM(lo hi:Option Int)(n:Nat):Builtin.Str.strSliceIndices lo hi 1 n=(List.range (HT.sIx n n hi - HT.sIx n 0 lo)).map fun k=>HT.sIx n 0 lo+k:=by
 have c:∀(v:Int) (d:Nat),max 0 (min (if v<0 then v+(n:Int) else v) (n:Int))=((HT.sIx n d (some v):Nat):Int):=fun v d=>by
  rw[<-HT.clip_eq v n d];by_cases hv:v<0
  · simp only[aE hv];lia
  · simp only[aA hv];lia
 have key:∀i j:Nat,sliceRange (i:Int) (j:Int) 1=(List.range (j - i)).map fun k=>i+k:=fun i j=>by
  unfold sliceRange;simp only[show(1:Int)>0 by decide,kr];have e:(if(i:Int)<(j:Int) then((j:Int) - i+1 - 1)/1 else 0).toNat=j - i:=by
   split<;>lia
  rw[e];refine NO fun k _=> ?_
  lia
 rw[<-key];unfold Builtin.Str.strSliceIndices;simp only[show(1:Int)>0 by decide,kr];cases lo with
 | none=>
   cases hi with
   | none=>rfl
   | some v=>rw[<-c v n];rfl
 | some u=>
   cases hi with
   | none=>rw[<-c u 0];rfl
   | some v=>rw[<-c v n,<-c u 0]
def je(x:Str)(lo hi:Option Int):(Txt.slice x lo hi).cps.toList=(x.cps.toList.drop (HT.sIx x.length 0 lo)).take (HT.sIx x.length x.length hi - HT.sIx x.length 0 lo):=by
 have h0:=HT.sIx_le x.length 0 (av _) lo;have h1:=HT.sIx_le x.length x.length (ar _) hi;have hx:x.cps.toList.length=x.length:=by simp[Str.length]
 unfold Txt.slice;rw[GM]
 split
 · rename_i h;rw[aP] at h;have h':HT.sIx x.length x.length hi - HT.sIx x.length 0 lo=x.length:=by
    have z:=h.2;rw[ae,d6] at z;exact eq_of_beq z
   have h2:HT.sIx x.length 0 lo=0:=by lia
   rw[h',h2,sY,dE (by lia)]
 · show(List.filterMap _ _).toArray.toList=_;rw[Ou];apply OG;intro k;have key:(List.range (HT.sIx x.length x.length hi - HT.sIx x.length 0 lo)).filterMap ((fun i=>x.cps[i]?)∘fun k=>HT.sIx x.length 0 lo+k)=(x.cps.toList.drop (HT.sIx x.length 0 lo)).take (HT.sIx x.length x.length hi - HT.sIx x.length 0 lo):=by
    generalize HT.sIx x.length 0 lo=i at h0⊢;have hj:i+(HT.sIx x.length x.length hi - i)<=x.length\/HT.sIx x.length x.length hi - i=0:=by lia
    generalize HT.sIx x.length x.length hi - i=d at hj⊢
    induction d with
    | zero=>simp
    | succ d ih=>
      rw[qy,L9,ih (by lia),bx]
      congr 1
      have hlt:i+d<x.cps.size:=by simp[Str.length] at hj;lia
      simp[hlt]
   simpa using congrArg (fun l:List Nat=>l[k]?) key
def kM:jO X (compareOp .LtE) (fun x y H Q=>∃i j,x= .str i/\y= .str j/\Q (.bl (!decide (j.cps.toList<i.cps.toList))) H):=by
 intro pins s σ H x y v u Q I rx ry h;obtain⟨i,j,rfl,rfl,q⟩:=h;obtain⟨t,rfl⟩:=rx;obtain⟨t',rfl⟩:=ry;exact P.le_str ⟨.bl (!decide (j.cps.toList<i.cps.toList)),H,I,rfl,q⟩
def BO(bs:List Bool):(List.range bs.length).all (fun i=>(bs[i]?).getD true)=bs.all id:=by
 rw[gc,cP,cP];constructor
 · intro h b hb;obtain⟨i,hi,e⟩:=eZ.mp hb;have q:=h i (cv.mpr hi);rw[aq hi,e] at q;exact q
 · intro h i hi;have hi':=cv.mp hi;rw[aq hi'];exact h _ (eK hi')
def kY(hc:X.calm=true):n_ X (.builtin "all") (fun xs H Q=>∃(p:Addr) (bs:List Bool),xs=[.ref p]/\SqL X.K H p (bs.map V.bl)/\Q (.bl (bs.all id)) H):=by
 intro pins s σ H xs us Q I r h;obtain⟨p,bs,rfl,hp,q⟩:=h;obtain⟨u,rfl,ru⟩:=r.one;cases ru;obtain⟨its,rv,pl,hz⟩:=I.list hp;have hh:X.A.in1.handled=none:=I.ok.hd hc;have hlt:p<s.heap.objs.size:=by obtain⟨_,e,_⟩:=pl.isList;exact aN e
 have hlen:its.length=bs.length:=by have:=rv.length;simpa using this.symm
 refine call_all_walk (yt pl.isList ⟨s.heap.objs.size,[s.heap.objs.size,p],[s.heap.objs.size],its.toArray.size,_,_,fun i=>(bs[i]?).getD true,rfl,Walks.list hh _ _ (bI hlt) its.toArray,⟨⟨_,a_ _ rfl,rfl,rfl⟩,pl.isList.push _⟩,?_,?_⟩)
 · intro i v s' Q' E' hv hq;have hv':its[i]? =some v:=by simpa using hv
   cases hb:bs[i]? with
   | none=>
     have z:bs.length<=i:=by simpa using hb
     rw[iW (by lia)] at hv';cases hv'
   | some b=>
     obtain⟨u,hu,ru⟩:=rv.get (i:=i) (x:=V.bl b) (by rw[aH,hb];rfl);rw[hv'] at hu;cases hu;obtain rfl:v=Value.bool b:=ru;have hq':Q' b s':=by
      have z:(fun i=>(bs[i]?).getD true) i=b:=by simp[hb]
      rw[z] at hq;exact hq
     exact cW hq'
 · intro h' tk hk;have I1:Inv X pins σ H {s with heap:=h',toks:=tk}:=I.kept fun b o e=>hk b o (fun z=>by
    have z':b=s.heap.objs.size:=by simpa using z
    exact absurd (z' ▸ aN e) (gg _)) (aC _ e)
   refine⟨.bl (bs.all id),H,I1,?_,q⟩;show Value.bool _=Value.bool _;rw[aV,hlen,BO]
def kA:n_ X (.builtin "isinstance") (fun xs H Q=>∃x n t b,xs=[x,.ty n]/\TyOf X.K H x t/\kitOne X.K t (.type n)=some b/\Q (.bl b) H):=by
 intro pins s σ H xs us Q I r h;obtain⟨x,n,t,b,rfl,ty,e,q⟩:=h;obtain⟨u,v,rfl,ru,rv⟩:=r.two;cases rv;exact Cf I ru ty e fun tk=>⟨.bl b,H,I.tok _,rfl,q⟩
end
section
end
inductive Kd where
 | nm (x:Str)
 | two (a b:Kd)
 | som (r:Str) (c:Kd)
 deriving DecidableEq
noncomputable def Kd.dep:Kd->Nat
 | .nm _=>0
 | .two a b=>1+max a.dep b.dep
 | .som _ c=>1+c.dep
noncomputable def Kd.nt:Kd->Nat
 | .nm _=>0
 | .two a b=>1+a.nt+b.nt
 | .som _ c=>1+c.nt
noncomputable def Kd.sz:Kd->Nat
 | .nm _=>1
 | .two a b=>1+a.sz+b.sz
 | .som _ c=>1+c.sz
noncomputable def Kd.inner:Kd->List Kd
 | .nm _=>[]
 | .two a b=>[a,b]
 | .som _ c=>[c]
theorem Kd.dep_le_nt:∀k:Kd,k.dep<=k.nt
 | .nm _=>ar _
 | .two a b=>by
   have h1:=dep_le_nt a;have h2:=dep_le_nt b;simp only[Kd.dep,Kd.nt];lia
 | .som _ c=>by
   have h1:=dep_le_nt c;simp only[Kd.dep,Kd.nt];lia
def IsK(H:Hp):Kd->V->Prop
 | .nm x,v=>v= .str x
 | .two a b,v=>∃(p:Addr) (x y:V),v= .ref p/\H p=some (.tup [.str "both",x,y])/\IsK H a x/\IsK H b y
 | .som r c,v=>∃(p:Addr) (y:V),v= .ref p/\H p=some (.tup [.str "some",.str r,y])/\IsK H c y
def Tups(H H':Hp):Prop:=∀b xs,H b=some (.tup xs)->H' b=some (.tup xs)
def Tups.refl(H:Hp):Tups H H:=fun _ _ h=>h
def Tups.trans(a:Tups H H1)(b:Tups H1 H2):Tups H H2:=fun c o h=>b c o (a c o h)
def Same.tups(h:Same H H'):Tups H H':=fun b xs e=>h b _ e
def CM(h:H p=some (.lst xs)):Tups H (upd H p o):=fun b ys e=>by
 rw[aB (HJ e h (by intro z;cases z))];exact e
theorem IsK.mono(t:Tups H H'):∀{k:Kd} {v:V},IsK H k v->IsK H' k v
 | .nm _,_,h=>h
 | .two _ _,_,⟨p,x,y,e,h,ha,hb⟩=>⟨p,x,y,e,t _ _ h,IsK.mono t ha,IsK.mono t hb⟩
 | .som _ _,_,⟨p,y,e,h,hc⟩=>⟨p,y,e,t _ _ h,IsK.mono t hc⟩
def nP:(Str.ofString "both":Str)≠Str.ofString "some":=by decide+kernel
section
def jj(A:Around):A.in1.units=A.units+1:=rfl
end
def KL(H:Hp):List V->List Kd->Prop:=Paired fun v k=>IsK H k v
def KL.mono{H H':Hp}(t:Tups H H'){xs:List V}{ks:List Kd}(h:KL H xs ks):KL H' xs ks:=Paired.imp' (fun _ _ q=>IsK.mono t q) h
def KL.len(h:KL H xs ks):xs.length=ks.length:=bu h
theorem KL.get:∀{xs:List V} {ks:List Kd} {i:Nat} {v:V},KL H xs ks->xs[i]? =some v->∃k,ks[i]? =some k/\IsK H k v
 | _,_,_,_,.nil,e=>by simp at e
 | _,_,0,_,.cons r _,e=>by simp at e;subst e;exact⟨_,rfl,r⟩
 | _,_,i+1,v,.cons _ t,e=>by
   obtain⟨u,h1,h2⟩:=KL.get (i:=i) (v:=v) t (by simpa using e);exact⟨u,by simpa using h1,h2⟩
section
end
section
abbrev TF:=Str->St->Hp->(Str->Hp->Prop)->Prop
def PF(X:Cx)(es:List Expr)(t:TF):Prop:=∀(pins:List (Addr × Obj)) (s:Shared) (σ:St) (H:Hp) (out:Str) (Q:Str->Hp->Prop),Inv X pins σ H s->t out σ H Q->wpAny (model X.prog X.w) X.A (joinParts out (evalEach es X.env)) (fun v s'=>∃z H',Inv X pins σ H' s'/\RelV (.str z) v/\Q z H') X.xe s
def N4:TF:=fun out _ H Q=>out.length<=sizeLine/\Q out H
def Nw(te:TE)(t:TF):TF:=fun out σ H Q=>te σ H fun x H1=>∃y,x= .str y/\y.length<=sizeLine/\(out++y).length<=sizeLine/\t (out++y) σ H1 Q
def Dy:PF X [] N4:=fun pins s σ H out Q I h=>joinParts_nil ⟨out,H,I.tok _,⟨_,rfl⟩,h.2⟩ h.1
def oC(he:PE X e te)(hr:PF X es t):PF X (e::es) (Nw te t):=by
 intro pins s σ H out Q I h;show wpAny _ _ (joinParts out (eval e X.env::evalEach es X.env)) _ _ s;refine joinParts_cons (cZ (he pins s σ H _ I h) fun v s1 ⟨x,H1,I1,r1,q1⟩=> ?_);obtain⟨y,rfl,_,hz,q⟩:=q1;obtain⟨u,rfl⟩:=r1;exact⟨hz,hr pins s1 σ H1 (out++y) Q I1 q⟩
def vn(he:PE X e te)(hr:PF X es t):PF X (.FormattedValue e (-1) none pos::es) (Nw te t):=by
 intro pins s σ H out Q I h;show wpAny _ _ (joinParts out (eval (.FormattedValue e (-1) none pos) X.env::evalEach es X.env)) _ _ s;refine joinParts_cons (FormattedValue_plain (cZ (he pins s σ H _ I h) fun v s1 ⟨x,H1,I1,r1,q1⟩=> ?_));obtain⟨y,rfl,hy,hz,q⟩:=q1;obtain⟨u,rfl⟩:=r1;exact formatField_str (fun t' tk=>⟨hz,hr pins _ σ H1 (out++y) Q (I1.tok _) q⟩) hy
def N3(t:TF):TE:=fun σ H Q=>t Str.empty σ H fun z H'=>Q (.str z) H'
def Bf{rest:List Expr}(h:PF X (v1::v2::rest) t):PE X (.JoinedStr (v1::v2::rest) pos) (N3 t):=by
 intro pins s σ H Q I q;refine JoinedStr_many (cZ (h pins s σ H Str.empty _ I q) fun v s1 ⟨z,H1,I1,r1,q1⟩=>⟨.str z,H1,I1,r1,q1⟩)
end
section
end
section
end
section
def Inv.turnedL{σ:St}{fp:List Addr}(I:Inv X pins σ H s)(hf:∀b∈fp,lF X pins H b)(k:∀b o,b∉fp->s.heap.get? b=some o->h'.get? b=some o):Inv X pins σ H {s with heap:=h',toks:=t'}:=by
 have nit:∀b u,H b=some u->b∉fp:=fun b u e z=>by rw[(hf b z).1] at e;cases e
 refine I.step (g':=s.gens) (d':=s.drawn) (ch:=fp) (fun b hb=> ?_) (fun b o _ _ hc e _=>k b o hc e) (fun b o _ _ hc e _=>⟨o.slots,k b o hc e⟩) (fun _ _ _ _ n=>n) (fun b o hc e=>⟨o,k b o hc e⟩) (fun _ _ e=>e) (fun _ _ _ e=>e) (fun b ps e=>⟨#[],by rw[e];simp⟩) (fun m hm=> ?_) (fun b u e=> ?_) I.bare
 · obtain⟨f0,f1,f2,f3,f4,f5⟩:=hf b hb;exact⟨f3,f1,f4,f5⟩
 · obtain⟨o,es,ep,ho,r⟩:=hm;exact⟨o,es,ep,k _ o (fun z=>(hf _ z).2.1 rfl) ho,r⟩
 · refine(I.hok b u e).stay (fun c v hc q=>k c v ?_ q) (fun _ q=>q) fun _ _ q=>q;rcases hc with z | z
   · rw[z];exact nit b u e
   · exact nit c _ z
def Inv.turnedT{σ:St}{fp:List Addr}{T:Addr}(I:Inv X pins σ H s)(hf:∀b∈fp,lF X pins H b)(k:∀b o,b∉fp->s.heap.get? b=some o->h'.get? b=some o)(hT:s.heap.objs.size<=T)(new:ObjOk X.prog X.w (upd H T u) h' T u):Inv X pins σ (upd H T u) {s with heap:=h',toks:=t'}:=by
 have nit:∀b u,H b=some u->b∉fp:=fun b u e z=>by rw[(hf b z).1] at e;cases e
 have hn:H T=none:=I.hok.fresh hT;have nT:∀b o,s.heap.get? b=some o->b≠T:=fun b o e=>bI (ax (aN e) hT);refine I.step (g':=s.gens) (d':=s.drawn) (ch:=fp) (fun b hb=> ?_) (fun b o _ _ hc e _=>k b o hc e) (fun b o _ _ hc e _=>⟨o.slots,k b o hc e⟩) (fun b o _ e n=>by rw[aB (nT b o e)];exact n)
  (fun b o hc e=>⟨o,k b o hc e⟩) (fun b xs e=>by rw[aB (bp e hn)];exact e) (fun b o u e=>by rw[aB (bp e hn)];exact e) (fun b ps e=>⟨#[],by rw[aB (bp e hn),e];simp⟩) (fun m hm=> ?_) (fun b u' e=> ?_) I.bare
 · obtain⟨f0,f1,f2,f3,f4,f5⟩:=hf b hb;exact⟨f3,f1,f4,f5⟩
 · obtain⟨o,es,ep,ho,r⟩:=hm;exact⟨o,es,ep,k _ o (fun z=>(hf _ z).2.1 rfl) ho,r⟩
 · by_cases hb:b=T
   · subst hb;rw[upd_same] at e;cases e;exact new
   · rw[aB hb] at e;refine(I.hok b u' e).stay (fun c v hc q=>k c v ?_ q) (fun c q=>by rw[aB (bp q hn)];exact q) fun c xs q=>by rw[aB (bp q hn)];exact q
     rcases hc with z | z
     · rw[z];exact nit b u' e
     · exact nit c _ z
end
section
def parts_len(x:Str)(cuts:List Nat)(n:Nat):(Builtin.Str.partsBetween x cuts n).length=cuts.length+1:=by
 unfold Builtin.Str.partsBetween;simp
end
section
variable {κ:Type}[DecidableEq κ]
noncomputable def cB(kvs:List (κ × V))(k:κ):Option V:=(kvs.find? fun kv=>decide (kv.1=k)).map (·.2)
noncomputable def bZ(kvs:List (κ × V))(k:κ)(v:V):List (κ × V):=if(kvs.any fun kv=>decide (kv.1=k))=true then kvs.map (fun kv=>if kv.1=k then(kv.1,v) else kv) else kvs++[(k,v)]
theorem fu{p:κ × V}{r:List (κ × V)}{k:κ}(e:p.1=k):cB (p::r) k=some p.2:=by simp[cB,g_,e]
theorem fw{p:κ × V}{r:List (κ × V)}{k:κ}(e:¬ p.1=k):cB (p::r) k=cB r k:=by simp[cB,g_,e]
theorem mP(k:κ):∀kvs:List (κ × V),(kvs.any fun kv=>decide (kv.1=k))=(cB kvs k).isSome
 | []=>rfl
 | p::r=>by
   rw[gh];by_cases e:p.1=k
   · simp only[fu e,ah e,Bool.true_or,Option.isSome_some]
   · rw[fw e,ag e,Bool.false_or];exact mP k r
theorem wx(k j:κ)(y:V):∀kvs:List (κ × V),cB (kvs.map fun kv=>if kv.1=k then(kv.1,y) else kv) j=(cB kvs j).map fun x=>if j=k then y else x
 | []=>rfl
 | p::r=>by
   have ih:=wx k j y r;rw[bM];by_cases h:p.1=k
   · rw[aE h];by_cases e:p.1=j
     · rw[fu (p:=(p.1,y)) e,fu e,fZ,aE (e.symm.trans h)]
     · rw[fw (p:=(p.1,y)) e,fw e,ih]
   · rw[aA h];by_cases e:p.1=j
     · rw[fu (p:=p) e,fu e,fZ,aA (fun z=>h (e.trans z))]
     · rw[fw (p:=p) e,fw e,ih]
theorem tm(k j:κ)(y:V):∀kvs:List (κ × V),cB kvs k=none->cB (kvs++[(k,y)]) j=if j=k then some y else cB kvs j
 | [],_=>by
   by_cases e:k=j
   · rw[aE e.symm];exact fu (p:=(k,y)) e
   · rw[aA (fun z=>e z.symm)];exact fw (p:=(k,y)) e
 | p::r,hn=>by
   rw[eM];have hk:¬ p.1=k:=fun z=>by rw[fu z] at hn;cases hn
   rw[fw hk] at hn;have ih:=tm k j y r hn;by_cases e:p.1=j
   · rw[fu e,fu e,aA (fun z=>hk (e.trans z))]
   · rw[fw e,fw e,ih]
theorem fq(kvs:List (κ × V))(k j:κ)(y:V):cB (bZ kvs k y) j=if j=k then some y else cB kvs j:=by
 unfold bZ;by_cases a:(kvs.any fun kv=>decide (kv.1=k))=true
 · rw[aE a,wx];rw[mP] at a;by_cases e:j=k
   · obtain⟨x,hx⟩:=nW.mp a;rw[aE e,e,hx,fZ,aE rfl]
   · rw[aA e];cases cB kvs j with
     | none=>rfl
     | some x=>rw[fZ,aA e]
 · rw[aA a];refine tm k j y kvs ?_;rw[mP] at a;cases q:cB kvs k with
   | none=>rfl
   | some x=>rw[q] at a;exact(a rfl).elim
theorem cM(kvs:List (κ × V))(k:κ)(v:V):(bZ kvs k v).length<=kvs.length+1:=by
 unfold bZ
 split
 · rw[ae];lia
 · rw[ak,bj,dM];lia
theorem RelO.isSome_eq{o:Option V}{u:Option Value}(r:RelO o u):o.isSome=u.isSome:=by
 cases o with
 | none=>cases u with
   | none=>rfl
   | some _=>exact(show False from r).elim
 | some _=>cases u with
   | none=>exact(show False from r).elim
   | some _=>rfl
theorem RelO.getD{o:Option V}{u:Option Value}{d:V}{d':Value}(r:RelO o u)(rd:RelV d d'):RelV (o.getD d) (u.getD d'):=by
 cases o with
 | none=>cases u with
   | none=>exact rd
   | some _=>exact(show False from r).elim
 | some _=>cases u with
   | none=>exact(show False from r).elim
   | some _=>exact r
theorem KV.val{kvs:List (κ × V)}{vs:List (κ × Value)}(r:KV kvs vs)(k:κ):RelO (cB kvs k) (valueAt vs k):=by
 unfold KV at r
 induction r with
 | nil=>exact True.intro
 | @cons p q ps qs h t ih=>
   obtain⟨h1,h2⟩:=h;by_cases e:p.1=k
   · have e':q.1=k:=h1.symm.trans e;have b:valueAt (q::qs) k=some q.2:=by simp[valueAt,g_,e']
     rw[fu e,b];exact h2
   · have e':¬ q.1=k:=fun z=>e (h1.trans z);have b:valueAt (q::qs) k=valueAt qs k:=by simp[valueAt,g_,e']
     rw[fw e,b];exact ih
theorem KV.any{kvs:List (κ × V)}{vs:List (κ × Value)}(r:KV kvs vs)(k:κ):(kvs.any fun kv=>decide (kv.1=k))=vs.any fun kv=>decide (kv.1=k):=by
 unfold KV at r
 induction r with
 | nil=>rfl
 | cons h t ih=>rw[gh,gh,ih,h.1]
theorem KV.repl{kvs:List (κ × V)}{vs:List (κ × Value)}(r:KV kvs vs)(k:κ){y:V}{u:Value}(ry:RelV y u):KV (kvs.map fun kv=>if kv.1=k then(kv.1,y) else kv) (vs.map fun kv=>if kv.1=k then(kv.1,u) else kv):=by
 unfold KV at r⊢
 induction r with
 | nil=>exact .nil
 | @cons p q ps qs h t ih=>
   rw[bM,bM];refine .cons ?_ ih;obtain⟨h1,h2⟩:=h;by_cases e:p.1=k
   · rw[aE e,aE (h1.symm.trans e)];exact⟨h1,ry⟩
   · rw[aA e,aA (fun z=>e (h1.trans z))];exact⟨h1,h2⟩
theorem KV.put{kvs:List (κ × V)}{vs:List (κ × Value)}(r:KV kvs vs)(k:κ){y:V}{u:Value}(ry:RelV y u):KV (bZ kvs k y) (stored vs k u):=by
 unfold bZ stored;rw[r.any k];by_cases e:(vs.any fun kv=>decide (kv.1=k))=true
 · rw[aE e,aE e];exact r.repl k ry
 · rw[aA e,aA e];exact Paired.snoc r ⟨rfl,ry⟩
theorem KV.length{kvs:List (κ × V)}{vs:List (κ × Value)}(r:KV kvs vs):kvs.length=vs.length:=bu r
end
def nK(r:RelV (kV k) u):(cQ P w).is k u=true:=by
 cases k with
 | inl i=>obtain⟨t,e⟩:=(show ∃t,u=Value.int i t from r);subst e;exact xO P w i t
 | inr x=>obtain⟨t,e⟩:=(show ∃t,u=Value.str x t from r);subst e;exact xN P w x t
theorem um:∀{ks:List Key} {us:List Value},Vals (ks.map kV) us->ItemsAre (cQ P w) ks us
 | [],_,r=>by rw[LI] at r;cases r;exact .nil
 | k::ks,_,r=>by
   rw[bM] at r;cases r with
   | cons h t=>exact .cons (nK h) (um t)
abbrev KT(H:Hp):List (List Key × V)->List (List Key × Addr × Value)->Prop:=Paired fun p q=>p.1=q.1/\H q.2.1=some (.tup (p.1.map kV))/\RelV p.2 q.2.2
def KT.val(r:KT H kvs xs)(k:List Key):RelO (cB kvs k) ((atKey xs k).map (·.2)):=by
 induction r with
 | nil=>exact True.intro
 | @cons p q ps qs h t ih=>
   obtain⟨h1,_,h2⟩:=h;by_cases e:p.1=k
   · have e':q.1=k:=h1.symm.trans e;have b:atKey (q::qs) k=some q.2:=by simp[atKey,g_,e']
     rw[fu e,b];exact h2
   · have e':¬ q.1=k:=fun z=>e (h1.trans z);have b:atKey (q::qs) k=atKey qs k:=by simp[atKey,g_,e']
     rw[fw e,b];exact ih
def KT.repl{H:Hp}{kvs:List (List Key × V)}{xs:List (List Key × Addr × Value)}(r:KT H kvs xs)(k:List Key){y:V}{u:Value}(ry:RelV y u):KT H (kvs.map fun kv=>if kv.1=k then(kv.1,y) else kv) (xs.map (putAt k u)):=by
 induction r with
 | nil=>exact .nil
 | @cons p q ps qs h t ih=>
   rw[bM,bM];refine .cons ?_ ih;obtain⟨h1,h2,h3⟩:=h;unfold putAt;by_cases e:p.1=k
   · rw[aE e,aE (h1.symm.trans e)];exact⟨h1,h2,ry⟩
   · rw[aA e,aA (fun z=>e (h1.trans z))];exact⟨h1,h2,h3⟩
def KT.put{H:Hp}{kvs:List (List Key × V)}{xs:List (List Key × Addr × Value)}(r:KT H kvs xs)(k:List Key){b:Addr}{y:V}{u:Value}(hb:H b=some (.tup (k.map kV)))(ry:RelV y u):KT H (bZ kvs k y) (storedH xs k b u):=by
 have e:(kvs.any fun kv=>decide (kv.1=k))=(atKey xs k).isSome:=by
  rw[mP,(r.val k).isSome_eq,zX]
 unfold bZ storedH;rw[e];by_cases q:(atKey xs k).isSome=true
 · rw[aE q,aE q];exact r.repl k ry
 · rw[aA q,aA q];exact Paired.snoc r ⟨rfl,hb,ry⟩
def KT.keeps(r:KT H kvs xs)(ht:∀b ys,H b=some (.tup ys)->H' b=some (.tup ys)):KT H' kvs xs:=Paired.mapP r fun _ _ z=>⟨z.1,ht _ _ z.2.1,z.2.2⟩
section
def Hy(ok:HOk P w H h)(e:Rd H a u):ObjOk P w H h a u:=e.ok ok
def rP(ok:HOk P w H h)(e:Rd H a (.dK kvs)):kvs.length<=sizeLine/\(a==sysModules)=false/\∃vs,KV kvs vs/\h.DictOf (cQ P w) a vs:=
 show ObjOk P w H h a (.dK kvs) from Hy ok e
def Bv(ok:HOk P w H h)(e:H a=some (.dK kvs)):kvs.length<=sizeLine/\(a==sysModules)=false/\∃vs,KV kvs vs/\h.DictOf (cQ P w) a vs:=rP ok (.inl e)
def oM(ok:HOk P w H h)(e:H a=some (.tup (ks.map kV))):(tupleKind (cQ P w)).is h ks a:=by
 obtain⟨_,its,r,o,h1,h2,n,h3⟩:=(show ObjOk P w H h a (.tup (ks.map kV)) from ok a _ e);exact⟨o,its.toArray,n,h1,h2,h3,by simpa using um r⟩
def rO(ok:HOk P w H h)(e:Rd H a (.dT kvs)):kvs.length<=sizeLine/\(a==sysModules)=false/\∃xs,KT H kvs xs/\h.DictOfH (tupleKind (cQ P w)) a xs:=by
 obtain⟨z,y,xs,r,o,es,ep,h1,h2,h3,h4,h5⟩:=(show ObjOk P w H h a (.dT kvs) from Hy ok e);refine⟨z,y,xs,r,o,es,ep,h1,h2,h3,h4,fun x hx=> ?_,h5⟩;have all:∀{l:List (List Key × V)} {m:List (List Key × Addr × Value)},KT H l m->∀x∈m,(tupleKind (cQ P w)).is h x.1 x.2.1:=by
  intro l m q
  induction q with
  | nil=>intro x hx;exact nomatch hx
  | @cons p q ps qs hq t ih=>
    intro x hx;rcases aI.mp hx with e | hx
    · subst e;exact oM ok (by rw[<-hq.1];exact hq.2.1)
    · exact ih x hx
 exact all r x hx
def Ln(ok:HOk P w H h)(e:H a=some (.dT kvs)):kvs.length<=sizeLine/\(a==sysModules)=false/\∃xs,KT H kvs xs/\h.DictOfH (tupleKind (cQ P w)) a xs:=rO ok (.inl e)
end
def DGet(H:Hp)(a:Addr)(y:V)(r:Option V):Prop:=(∃kvs k,Rd H a (.dK kvs)/\y=kV k/\r=cB kvs k)\/∃kvs k b,Rd H a (.dT kvs)/\y= .ref b/\H b=some (.tup (k.map kV))/\r=cB kvs k
def DPut(H:Hp)(a:Addr)(y v:V)(H':Hp):Prop:=(∃kvs k,H a=some (.dK kvs)/\y=kV k/\kvs.length<sizeLine/\H'=upd H a (.dK (bZ kvs k v)))\/∃kvs k b,H a=some (.dT kvs)/\y= .ref b/\H b=some (.tup (k.map kV))/\kvs.length<sizeLine/\H'=upd H a (.dT (bZ kvs k v))
def DGet.k{k:Key}(e:H a=some (.dK kvs)):DGet H a (kV k) (cB kvs k):= .inl ⟨kvs,k,.inl e,rfl,rfl⟩
def DGet.t{k:List Key}(e:H a=some (.dT kvs))(eb:H b=some (.tup (k.map kV))):DGet H a (.ref b) (cB kvs k):= .inr ⟨kvs,k,b,.inl e,rfl,eb,rfl⟩
def DPut.k{k:Key}(e:H a=some (.dK kvs))(hl:kvs.length<sizeLine):DPut H a (kV k) v (upd H a (.dK (bZ kvs k v))):= .inl ⟨kvs,k,e,rfl,hl,rfl⟩
section
def Inv.big{σ:St}(I:Inv X pins σ H s):sysModules<s.heap.objs.size:=by
 have h:mainGlobals<s.heap.objs.size:=(I.mod.glob.keeps I.bk).lt;exact Nat.lt_trans (by decide) h
def Cs{σ:St}(hu:A.units+1<cLine)(I:Inv X pins σ H s)(g:DGet H a y (some v))(ry:RelV y u)(h:∀w' s',Inv X pins σ H s'->RelV v w'->Q w' s'):wpAny (model X.prog X.w) A (getItem (.ref a) u) Q E s:=by
 rcases g with⟨kvs,k,e,ey,l⟩ | ⟨kvs,k,b,e,ey,eb,l⟩
 · subst ey;obtain⟨z,hd,vs,rel,dd⟩:=rP I.hok e;obtain⟨w',hw,rw'⟩:=RelO.some_of (v:=v) (o:=valueAt vs k) (by rw[l];exact rel.val k);exact wpAny_getItem_of (nK ry) dd.mapOf hw (h w' _ (I.tok _) rw')
 · subst ey;cases(show u=Value.ref b from ry);obtain⟨z,hd,xs,rel,dd⟩:=rO I.hok e;obtain⟨w',hw,rw'⟩:=RelO.some_of (v:=v) (o:=(atKey xs k).map (·.2)) (by rw[l];exact rel.val k);obtain⟨p,hp,hp2⟩:=aQ.mp hw;refine wpAny_getItem_heap (hV hu) (oM I.hok eb) dd hp ?_;rw[hp2];exact h w' _ (I.tok _) rw'
def M8{σ:St}(hu:A.units+1<cLine)(I:Inv X pins σ H s)(g:DGet H a y o)(ry:RelV y u)(h:∀s',Inv X pins σ H s'->Q (.bool o.isSome) s'):wpAny (model X.prog X.w) A (compareOp .In u (.ref a)) Q E s:=by
 rcases g with⟨kvs,k,e,ey,l⟩ | ⟨kvs,k,b,e,ey,eb,l⟩
 · subst ey;obtain⟨z,hd,vs,rel,dd⟩:=rP I.hok e;refine wpAny_in_of (nK ry) hd dd.mapOf ?_;rw[<-(rel.val k).isSome_eq,<-l];exact h _ (I.tok _)
 · subst ey;cases(show u=Value.ref b from ry);obtain⟨z,hd,xs,rel,dd⟩:=rO I.hok e;refine wpAny_in_heap (hV hu) (oM I.hok eb) hd dd ?_;have q:=(rel.val k).isSome_eq;rw[zX] at q;rw[<-q,<-l];exact h _ (I.tok _)
def GV{σ:St}(hu:A.units+1<cLine)(I:Inv X pins σ H s)(g:DGet H a y o)(ry:RelV y u)(h:∀s',Inv X pins σ H s'->Q (.bool (!o.isSome)) s'):wpAny (model X.prog X.w) A (compareOp .NotIn u (.ref a)) Q E s:=by
 rcases g with⟨kvs,k,e,ey,l⟩ | ⟨kvs,k,b,e,ey,eb,l⟩
 · subst ey;obtain⟨z,hd,vs,rel,dd⟩:=rP I.hok e;refine wpAny_notIn_of (nK ry) hd dd.mapOf ?_;rw[<-(rel.val k).isSome_eq,<-l];exact h _ (I.tok _)
 · subst ey;cases(show u=Value.ref b from ry);obtain⟨z,hd,xs,rel,dd⟩:=rO I.hok e;refine wpAny_notIn_heap (hV hu) (oM I.hok eb) hd dd ?_;have q:=(rel.val k).isSome_eq;rw[zX] at q;rw[<-q,<-l];exact h _ (I.tok _)
def qw{σ:St}(I:Inv X pins σ H s)(mu:LH (H a))(hs:Heap.SameBut a s.heap h')(he:∃q,h'.get? a=some q)(new:ObjOk X.prog X.w (upd H a ob) h' a ob):Inv X pins σ (upd H a ob) {s with heap:=h',toks:=t'}:=I.write (x:=a) (e:=a) mu (.inl rfl) (fun b q hb z=>(hs.2 b hb).trans z) he new
def zR(z:kvs.length<=sizeLine)(hd:(a==sysModules)=false)(rel:KV kvs vs)(dd:h'.DictOf (cQ P w) a vs):ObjOk P w H' h' a (.dK kvs):=⟨z,hd,vs,rel,dd⟩
def Cr{σ:St}(hu:A.units+1<cLine)(I:Inv X pins σ H s)(g:DPut H a y v H')(ry:RelV y u)(rv:RelV v r)(h:∀s',Inv X pins σ H' s'->Q () s'):wpAny (model X.prog X.w) A (setItem (.ref a) u r) Q E s:=by
 rcases g with⟨kvs,k,e,ey,l,eH⟩ | ⟨kvs,k,b,e,ey,eb,l,eH⟩
 · subst ey eH;obtain⟨z,hd,vs,rel,dd⟩:=Bv I.hok e;have hz:vs.length<=sizeLine:=by rw[<-rel.length];exact z
   have hl:(bZ kvs k v).length<=sizeLine:=by have:=cM kvs k v;lia
   refine wpAny_setItem_pairs (hsz:=hz) (nK ry) dd fun h' dd' hs=>h _ ?_;have he:∃q,h'.get? a=some q:=let⟨q,_,_,hq,_⟩:=dd';⟨q,hq⟩
   exact qw I (by rw[e];exact True.intro) hs he (zR hl hd (rel.put k rv) dd')
 · subst ey eH;cases(show u=Value.ref b from ry);obtain⟨z,hd,xs,rel,dd⟩:=Ln I.hok e;have hz:xs.length<=sizeLine:=by rw[<-bu rel];exact z
   have hl:(bZ kvs k v).length<=sizeLine:=by have:=cM kvs k v;lia
   refine wpAny_setItem_heap (hsz:=hz) (hV hu) (oM I.hok eb) dd fun h' dd' hs=>h _ ?_;obtain⟨q,es,ep,hq,h2,h3,h4,_,h5⟩:=dd';refine qw I (by rw[e];exact True.intro) hs ⟨q,hq⟩ ⟨hl,hd,_,(rel.put k eb rv).keeps fun c ys ec=> ?_,q,es,ep,hq,h2,h3,h4,h5⟩;rw[aB (HJ ec e (fun z=>nomatch z))];exact ec
end
section
end
def Hc(i:Expr):Prop:=∀ov iv,subscripted i false ov iv=operate [ov,iv] (getItem ov iv)
def Ak{id:String}(hl:typeLookup (.type T) "__getitem__"=pure (some (.builtin id)))(hs:Hc slice)(h:wpAny (model prog w) A (eval value env) (fun o s₁=>wpAny (model prog w) A (eval slice env) (fun i s₂=>s₂.TypeIs o T/\wpAny (model prog w) A (getItem o i) Q E s₂) E s₁) E s):wpAny (model prog w) A (eval (.Subscript value slice pos) env) Q E s:=by
 refine Ol (cJ h (fun o s₁ h₁=>cJ h₁ (fun i s₂ h₂=> ?_) fun _ _ x=>x) fun _ _ x=>x);obtain⟨hT,h₂⟩:=h₂;unfold subscriptTail;refine aa ?_;rw[getitemInPython_of_ne hT.not_modules];refine aa (wpAny_specialOf hT hl ?_);have fin:wpAny (model prog w) A (subscripted slice false o i) (fun r s₃=>wpAny (model prog w) A (letTemporaryGo value o r>>=fun _=>pure r) Q E s₃) E s₂:=by
  rw[hs o i];exact wpAny_operating (cJ h₂ (fun r s₃ h₃=>aa (wpAny_letTemporaryGo (aK h₃))) fun _ _ x=>x)
 first
  | exact aK (aa fin)
  | exact aa (aK (aa fin))
  | exact aa fin
def yd{σ:St}(I:Inv X pins σ H s)(g:DGet H a y o):s.TypeIs (.ref a) "dict":=by
 rcases g with⟨kvs,k,e,_,_⟩ | ⟨kvs,k,b,e,_,_,_⟩
 · obtain⟨_,_,vs,_,dd⟩:=rP I.hok e;exact dd.typeIs
 · obtain⟨_,_,xs,_,dd⟩:=rO I.hok e;exact dd.typeIs
def wB(td ty:TE):TE:=fun σ H Q=>td σ H fun x H1=>ty σ H1 fun y H2=>onR x fun a=>∃v,DGet H2 a y (some v)/\Q v H2
def KO(td ty tv:TE):TS:=fun D σ H=>tv σ H fun v H1=>td σ H1 fun x H2=>ty σ H2 fun y H3=>onR x fun a=>∃H4,DPut H3 a y v H4/\D.nx σ H4
section
def F9(hu:X.A.units+1<cLine)(ho:PE X o td)(hi:PE X i ty)(hs:Hc i):PE X (.Subscript o i pos) (wB td ty):=by
 intro pins s σ H Q I h;refine Ak Ig.lookup hs (cZ (ho pins s σ H _ I h) fun u s1 ⟨x,H1,I1,rx,q1⟩=>cZ (hi pins s1 σ H1 _ I1 q1) fun iv s2 ⟨y,H2,I2,ry,q0⟩=> ?_);obtain⟨a,ex,v,g,q2⟩:=onR.ex q0;subst ex;obtain rfl:u=Value.ref a:=rx;exact⟨yd I2 g,Cs hu I2 g ry fun w' s3 I3 rw'=>⟨v,H2,I3,rw',q2⟩⟩
def df(hu:X.A.units+1<cLine)(ho:PE X o td)(hi:PE X i ty)(hv:PE X value tv)(hs:swapsWith value (some (.Subscript o i pos')) pos.line X.env=pure false):PS X (.Assign [.Subscript o i pos'] value pos) (KO td ty tv):=by
 intro pins s σ H D I h;refine wpAny_Assign_Subscript (cZ (hv pins s σ H _ I h) fun r s1 ⟨v,H1,I1,rv,q1⟩=>cZ (ho pins s1 σ H1 _ I1 q1) fun u s2 ⟨x,H2,I2,rx,q2⟩=>cZ (hi pins s2 σ H2 _ I2 q2) fun iv s3 ⟨y,H3,I3,ry,q0⟩=> ?_) hs;obtain⟨a,ex,H4,g,q3⟩:=onR.ex q0;subst ex;obtain rfl:u=Value.ref a:=rx;exact Cr hu I3 g ry rv fun s4 I4=>⟨σ,H4,I4,q3⟩
end
def yc(h:Heap)(hb:sysModules<h.objs.size):ObjOk P w H (h.push {cls:= .type "dict",data:= .dict #[]}) h.objs.size (.dK []):=⟨av _,cq.mpr (br (bI hb)),[],.nil,Heap.DictOf.new h⟩
def ES(h:Heap)(hb:sysModules<h.objs.size):ObjOk P w H (h.push {cls:= .type "dict",data:= .dict #[]}) h.objs.size (.dT []):=⟨av _,cq.mpr (br (bI hb)),[],.nil,_,#[],0,a_ _ rfl,⟨rfl,rfl,rfl⟩,rfl,rfl,List.nodup_nil⟩
def CU:TE:=fun _ H Q=>∀p,H p=none->Q (.ref p) (upd H p (.dK []))
def CT:TE:=fun _ H Q=>∀p,H p=none->Q (.ref p) (upd H p (.dT []))
section
def cL:PE X (.Dict [] [] pos) CU:=fun pins s σ H Q I h=>
 wpAny_Dict_empty ⟨.ref s.heap.objs.size,_,I.laid (a:=s.heap.objs.size) (o:= .dK []) (t':=s.toks) (fun _ _ q=>aC _ q) (ar _) (yc s.heap I.big),rfl,h _ (I.hok.fresh (ar _))⟩
def j5:PE X (.Dict [] [] pos) CT:=fun pins s σ H Q I h=>
 wpAny_Dict_empty ⟨.ref s.heap.objs.size,_,I.laid (a:=s.heap.objs.size) (o:= .dT []) (t':=s.toks) (fun _ _ q=>aC _ q) (ar _) (ES s.heap I.big),rfl,h _ (I.hok.fresh (ar _))⟩
end
structure M2(X:Cx)(o:Expr)(m:Str)(apos:Pos)(e f:Expr)(cpos:Pos):Prop where
 base:attributeBase o m X.env (eval o X.env)=eval o X.env
 few:((backTo cpos (starEach [e,f] X.env)).all (fun x=> !x.1)&&(backToKw cpos (keywordEach [] X.env)).all (fun x=>x.1.isSome)&&decide (([e,f]:List Expr).length+([]:List Keyword).length+(if([]:List Keyword).isEmpty then 0 else 1)<30))=true
 line:(apos.endLine==cpos.line)=true
 trees:backTo cpos (starEach [e,f] X.env)=[(false,eval e X.env),(false,eval f X.env)]
def Nr(H:Hp)(a:Addr):Prop:=(∃kvs,Rd H a (.dK kvs))\/∃kvs,Rd H a (.dT kvs)
def EC{σ:St}(I:Inv X pins σ H s)(d:Nr H a):s.TypeIs (.ref a) "dict"/\(∀b,Value.ref a= .ref b->∃ob,s.heap.get? b=some ob/\ob.dict=none)/\(a==sysModules)=false:=by
 rcases d with⟨kvs,e⟩ | ⟨kvs,e⟩
 · obtain⟨_,hd,vs,_,dd⟩:=rP I.hok e;refine⟨dd.typeIs,fun b q=> ?_,hd⟩;cases q;obtain⟨ob,_,_,h1,h2,_⟩:=dd;exact⟨ob,h1,h2.2.1⟩
 · obtain⟨_,hd,xs,_,dd⟩:=rO I.hok e;refine⟨dd.typeIs,fun b q=> ?_,hd⟩;cases q;obtain⟨ob,_,_,h1,h2,_⟩:=dd;exact⟨ob,h1,h2.2.1⟩
section
def JS{σ:St}(hu:A.units+1<cLine)(I:Inv X pins σ H s)(g:DGet H a y o)(ry:RelV y u)(rd:RelV d r)(h:∀w' s',Inv X pins σ H s'->RelV (o.getD d) w'->Q w' s'):wpAny (model X.prog X.w) A (call (.builtin "dict.get") [.ref a,u,r]) Q E s:=by
 rcases g with⟨kvs,k,e,ey,l⟩ | ⟨kvs,k,b,e,ey,eb,l⟩
 · subst ey;obtain⟨z,hd,vs,rel,dd⟩:=rP I.hok e;refine Lr se dd.typeIs LB (Km _ _ _) (meets_dict_get_default (cQ X.prog X.w) a (nK ry) hd r) ⟨_,dd.mapOf,h _ _ (I.tok _) ?_⟩;rw[l];exact(rel.val k).getD rd
 · subst ey;cases(show u=Value.ref b from ry);obtain⟨z,hd,xs,rel,dd⟩:=rO I.hok e;refine Lr se dd.typeIs LB (Km _ _ _) (meetsH_dict_get_default (tupleKind (cQ X.prog X.w)) a b hd r) ⟨hV hu,k,xs,oM I.hok eb,dd,h _ _ (I.tok _) ?_⟩;rw[l];exact(rel.val k).getD rd
end
def uK(td ty tx:TE):TE:=fun σ H Q=>td σ H fun x H1=>onR x fun a=>Nr H1 a/\ty σ H1 fun y H2=>tx σ H2 fun z H3=>∃o,DGet H3 a y o/\Q (o.getD z) H3
section
def DC(hu:X.A.units+1<cLine)(ho:PE X o td)(he:PE X e ty)(hf:PE X f tx)(m:M2 X o "get" apos e f cpos):PE X (.Call (.Attribute o "get" apos) [e,f] [] cpos) (uK td ty tx):=by
 intro pins s σ H Q I h;refine Ox m.base m.few m.line Kl se PySem.F.type_dict_get (cZ (ho pins s σ H _ I h) fun u s1 ⟨x,H1,I1,rx,q0⟩=> ?_);obtain⟨a,ex,d,q1⟩:=onR.ex q0;subst ex;obtain rfl:u=Value.ref a:=rx;obtain⟨t1,t2,_⟩:=EC I1 d;refine⟨t1,t2,?_⟩;rw[m.trees];refine iH rfl (sZ (eP (cZ (he pins s1 σ H1 _ I1 q1) fun iv s2 ⟨y,H2,I2,ry,q2⟩=>
  eP (cZ (hf pins s2 σ H2 _ I2 q2) fun fv s3 ⟨z,H3,I3,rz,ov,g,q3⟩=>iG ?_))))
 exact JS hu I3 g ry rz fun w' s4 I4 rw'=>⟨_,H3,I4,rw',q3⟩
end
section
end
section
end
section
variable {κ:Type}[DecidableEq κ]
end
def zb(h:(cQ P w).is k u=true):RelV (kV k) u:=by
 rw[zB] at h;rcases keyIs_shape h with⟨i,t,rfl,rfl⟩ | ⟨x,t,rfl,rfl⟩
 · exact⟨t,rfl⟩
 · exact⟨t,rfl⟩
section
end
theorem Ab:∀{xs:List V} {us:List Value},xs.length=us.length->(∀(j:Nat) (v:Value),us[j]? =some v->∃x,xs[j]? =some x/\RelV x v)->Vals xs us
 | [],[],_,_=> .nil
 | x::xs,u::us,hl,h=>by
   obtain⟨y,h1,h2⟩:=h 0 u rfl;simp at h1;subst h1;exact .cons h2 (Ab (by simpa using hl) fun j v hv=>by
    obtain⟨y,g1,g2⟩:=h (j+1) v (by simpa using hv);exact⟨y,by simpa using g1,g2⟩)
section
def Kw(te:TE):TE:=fun σ H Q=>te σ H fun x H1=>∃n:Nat,x= .int (n:Int)/\n<=1000/\∀p,H1 p=none->Q (.ref p) (upd H1 p (.lst ((List.range n).map fun(i:Nat)=>V.int (i:Int))))
def vo{X:Cx}{a:Expr}{te:TE}{p1 p2 p3 pos:Pos}(hcalm:X.calm=true)(hg:Gl X "range")(hm:X.mg "range"=none)(hgl:Gl X "list")(hml:X.mg "list"=none)(ha:PE X a te)(hs:starEach [a] X.env=[(false,eval a X.env)]:=by rfl)(hs2:starEach [.Call (.Name "range" p2) [a] [] p3] X.env=[(false,eval (.Call (.Name "range" p2) [a] [] p3) X.env)]:=by rfl):PE X (.Call (.Name "list" p1) [.Call (.Name "range" p2) [a] [] p3] [] pos) (Kw te):=by
 intro pins s σ H Q I h;refine Call_ (kg I hgl hml boot_list (dA ?_ hs2 rfl));rw[hs2];refine eP ?_;refine Call_ (kg I hg hm Oj (dA ?_ hs rfl));rw[hs];refine eP (cZ (ha pins s σ H _ I h) fun u s1 ⟨x,H1,I1,r1,q1⟩=>iG ?_);obtain⟨n,rfl,hn,q⟩:=q1;obtain⟨t,rfl⟩:=r1;refine call_range_1 (iG ?_);have I2:Inv X pins σ H1 {s1 with heap:=s1.heap.push {cls:= .type "range",data:= .fields #[.int 0 s1.toks,.int (n:Int) t,.int 1 (s1.toks+1)]},toks:=s1.toks+1+1}:=I1.kept fun b o e=>aC _ e;refine call_list_range (n:=n) (I1.ok.hd hcalm) (IsRange.new ..) (small_one (by lia) (by lia) (by lia) (by lia)) (by rw[rangeSize_one];split<;>lia) (by lia) fun h' tk acc' c' hk hS hacc=> ?_;have hf:=I2.hok.fresh (ar _);refine⟨.ref _,_,I2.laid (t':=tk) (o:= .lst ((List.range n).map fun(i:Nat)=>V.int (i:Int))) hk (ar _) ?_,rfl,q _ hf⟩;obtain⟨hsz,hit⟩:=hacc;refine⟨by rw[ae,d6];exact eF (bH hn),acc'.toList,c',?_,by rw[hS]⟩;refine Ab (by rw[ae,d6,gQ,hsz]) fun j v hv=> ?_;have hv':acc'[j]? =some v:=by simpa using hv
 obtain⟨t',e⟩:=hit j v hv';have hj:j<n:=by
  have:=(Array.getElem?_eq_some_iff.mp hv').1
  lia
 refine⟨.int (j:Int),by rw[aH,List.getElem?_range hj];rfl,t',?_⟩;rw[e]
 congr 1
 lia
end
inductive Dat where
 | int (i:Int)
 | str (x:Str)
 | tup (ds:List Dat)
 | lst (ds:List Dat)
 | dct (ks:List (Str × Dat))
mutual
def Da(H:Hp):Dat->V->Prop
 | .int i,v=>v= .int i
 | .str x,v=>v= .str x
 | .tup ds,v=>∃p xs,v= .ref p/\H p=some (.tup xs)/\Mb H ds xs
 | .lst ds,v=>∃p xs,v= .ref p/\H p=some (.lst xs)/\Mb H ds xs
 | .dct ks,v=>∃p l,v= .ref p/\H p=some (.dK l)/\NT H ks l
def Mb(H:Hp):List Dat->List V->Prop
 | [],xs=>xs=[]
 | d::ds,xs=>∃x r,xs=x::r/\Da H d x/\Mb H ds r
def NT(H:Hp):List (Str × Dat)->List (Key × V)->Prop
 | [],l=>l=[]
 | (k,d)::ks,l=>∃x r,l=(.inr k,x)::r/\Da H d x/\NT H ks r
end
example (H:Hp) (i:Int) (v:V):Da H (.int i) v=(v= .int i):=rfl
example (H:Hp) (ds:List Dat) (v:V):Da H (.tup ds) v=(∃p xs,v= .ref p/\H p=some (.tup xs)/\Mb H ds xs):=rfl
mutual
def Dat.nd:Dat->Prop
 | .int _=>True
 | .str _=>True
 | .tup ds=>MT ds
 | .lst ds=>MT ds
 | .dct ks=>(ks.map (·.1)).Nodup/\NB ks
def MT:List Dat->Prop
 | []=>True
 | d::ds=>d.nd/\MT ds
def NB:List (Str × Dat)->Prop
 | []=>True
 | (_,d)::ks=>d.nd/\NB ks
end
section
end
end L2
set_option maxHeartbeats 400000
namespace L2
open PySem PySem.Spec PyProof.Rows
section
end
section
end
structure Wd where
 many:Nat
 kinds:List (Str × List Nat)
 pairs:List (Str × List (Nat × Nat))
 homes:List (Str × Nat)
section
end
section
end
def Ct{σ:St}(I:Inv X pins σ H s)(e:H a=some (.dK kvs))(l:kvs.length<sizeLine)(ry:RelV (kV k) u)(rv:RelV v r)(h:∀s',Inv X pins σ (upd H a (.dK (bZ kvs k v))) s'->Q () s'):wpAny (model X.prog X.w) A (dictSet a u r) Q E s:=by
 obtain⟨z,hd,vs,rel,dd⟩:=Bv I.hok e;have hz:vs.length<=sizeLine:=by rw[<-rel.length];exact z
 have hl:(bZ kvs k v).length<=sizeLine:=by have:=cM kvs k v;lia
 refine wpAny_dictSet_pairs (nK ry) dd (fun h' dd' hs=>h _ ?_) hz;have he:∃q,h'.get? a=some q:=let⟨q,_,_,hq,_⟩:=dd';⟨q,hq⟩
 exact qw I (by rw[e];exact True.intro) hs he (zR hl hd (rel.put k rv) dd')
section
end
section
def mn(hu:X.A.units+1<cLine):jO X (compareOp .In) (fun x y H Q=>∃a o,y= .ref a/\DGet H a x o/\Q (.bl o.isSome) H):=by
 intro pins s σ H x y v u Q I rx ry h;obtain⟨a,o,rfl,g,q⟩:=h;cases ry;exact M8 hu I g rx fun s' I'=>⟨.bl o.isSome,H,I',rfl,q⟩
def oF(hu:X.A.units+1<cLine):jO X (compareOp .NotIn) (fun x y H Q=>∃a o,y= .ref a/\DGet H a x o/\Q (.bl (!o.isSome)) H):=by
 intro pins s σ H x y v u Q I rx ry h;obtain⟨a,o,rfl,g,q⟩:=h;cases ry;exact GV hu I g rx fun s' I'=>⟨.bl (!o.isSome),H,I',rfl,q⟩
theorem tf:∀{kvs:List (Key × V)} {vs:List (Key × Value)} {ss:List Str} {acc:List Value},KV kvs vs->kvs.map (·.1)=ss.map Sum.inr->acc.length=vs.length->(∀(j:Nat) (v:Value),acc[j]? =some v->∃k x,vs[j]? =some (k,x)/\(cQ P w).is k v=true)->Vals (ss.map V.str) acc
 | [],_,ss,acc,.nil,e,hl,_=>by
   cases ss with
   | nil=>cases acc with
     | nil=>exact .nil
     | cons a l=>simp at hl
   | cons a l=>simp at e
 | kv::kvs,_,ss,acc,.cons (b:=q) (l₂:=vs) r t,e,hl,h=>by
   cases ss with
   | nil=>simp at e
   | cons y ss=>
     cases acc with
     | nil=>simp at hl
     | cons u acc=>
       simp only[bM,bV] at e;obtain⟨k,x,e1,e2⟩:=h 0 u rfl;simp only[List.getElem?_cons_zero,mJ] at e1;subst e1;have r1:kv.1=k:=r.1;have hk:k=Sum.inr y:=r1.symm.trans e.1;subst hk;refine .cons (zb e2) (tf (P:=P) (w:=w) t e.2 (by simpa using hl) fun j v hj=> ?_);exact h (j+1) v (by simpa using hj)
end
end L2
set_option maxHeartbeats 1000000
namespace L2
open PySem PySem.Spec PyProof.Rows
section
def jI(hit:s.heap.IsTupleIter it t i)(ht:s.heap.IsTuple t items)(hx:items[i]? =some x)(hQ:∀h':Heap,h'.IsTupleIter it t (i+1)->Heap.SameBut it s.heap h'->Q x {s with heap:=h'}):wpAny (model prog w) A (Builtin.SmallTypes.nextOf (.ref it)) Q E s:=by
 obtain⟨o,ho,hc,hd⟩:=id hit;obtain⟨ol,hol,_,nl,hdl⟩:=ht;refine aa (fG hit.typeIs gz (iY gz hit.typeIs Fx ?_ (Fn _)));refine aa (mG (a:=(Value.ref it,[])) rfl ?_);refine aa (dj ho hd rfl ?_);show wpAny _ _ (do
  let __x<-field (.ref it) 1
  _) _ _ _
 refine aa (dj ho hd rfl ?_);refine aa (gw hol hdl ?_);have e:items[(Int.toNat (i:Int))]? =some x:=by simpa using hx
 simp only[e];refine aa (wpAny_setField ho hd (by simp) (aK ⟨x,rfl,aK (hQ _ ⟨_,su _ ho (Obj.isFreed_of_fields (Oo hd _)),?_,?_⟩ (wb _ _ _))⟩))
 · rw[Obj.cls_mapFields];exact hc
 · rw[Oo hd];simp[rawInt]
def rC(hh:A.handled=none)(hit:s.heap.IsTupleIter it t i)(ht:s.heap.IsTuple t items)(hx:items[i]? =none)(hE:∀h' e,Heap.ExtBut it s.heap h'->(∃o,h'.get? e=some o/\o.cls= .type "StopIteration")->E (.ref e) {s with heap:=h'}):wpAny (model prog w) A (Builtin.SmallTypes.nextOf (.ref it)) Q E s:=by
 obtain⟨o,ho,hc,hd⟩:=id hit;obtain⟨ol,hol,_,nl,hdl⟩:=ht;refine aa (fG hit.typeIs gz (iY gz hit.typeIs Fx ?_ (Fn _)));refine aa (mG (a:=(Value.ref it,[])) rfl ?_);refine aa (dj ho hd rfl ?_);show wpAny _ _ (do
  let __x<-field (.ref it) 1
  _) _ _ _
 refine aa (dj ho hd rfl ?_);refine aa (gw hol hdl ?_);have e:items[(Int.toNat (i:Int))]? =none:=by simpa using hx
 simp only[e];refine aa (iX (aa (wpAny_setField ho hd (by simp) ?_)));refine aa (aa (sJ ?_));refine aa (mG rfl ?_);refine dC ?_ (sizeOk_excFields _ _ _ _ _ _ _ _);refine wpAny_raiseNew_none hh (hE _ _ ?_ ⟨_,a_ _ rfl,rfl⟩);exact Heap.ExtBut.push (Heap.ExtBut.push (Heap.SameBut.extBut (wb _ _ _)) _) _
end
section
def gq(ht:h.IsTuple p us)(e:Heap.ExtBut q h h')(hn:p≠q):h'.IsTuple p us:=by
 obtain⟨o,ho,r⟩:=ht;exact⟨o,e p o hn ho,r⟩
def qB{TI TO:Addr}{Q:Value->Shared->Prop}(D:ZipApart z TI TO i1 i2 l1 l2)(hz:IsZip s.heap z TI TO .none)(hTI:IsPair s.heap TI (.ref i1) (.ref i2))(hTO:IsPair s.heap TO a b)(h1:s.heap.IsTupleIter i1 l1 k1)(h2:s.heap.IsTupleIter i2 l2 k2)(hl1:s.heap.IsTuple l1 xs)(hl2:s.heap.IsTuple l2 ys)(hx:xs[k1]? =some x)(hy:ys[k2]? =some y)(hQ:∀h':Heap,IsZip h' z TI TO (rawInt ↑(Array.size s.heap.objs))->IsPair h' TO x y->h'.IsTupleIter i1 l1 (k1+1)->h'.IsTupleIter i2 l2 (k2+1)->IsPair h' (Array.size s.heap.objs) x y->Array.size h'.objs=Array.size s.heap.objs+1->(∀c o,c≠z->c≠TO->c≠i1->c≠i2->s.heap.get? c=some o->h'.get? c=some o)->Q (.ref (Array.size s.heap.objs)) {s with heap:=h'}):wpAny (model prog w) A (Builtin.«zip.__next__» {pos:=[.ref z]}) (fun fin s'=>∃v,fin=Fin.done (Flow.ret v)/\Q v s') E s:=by
 refine aa (mG (a:=(Value.ref z,[])) rfl ?_);refine aa (dj hz rfl rfl ?_);refine aa (dj hz rfl rfl ?_);refine aa (gw hTI rfl ?_);show wpAny _ _ (do
  let __do_lift<-Builtin.SmallTypes.ownedTupleIsFree (.ref z)
  _) _ _ _
 refine aa (aa (dj hz rfl rfl (aK ?_)));show wpAny _ _ (do
  rule "zip.__next__.owned-tuple-again"
  _) _ _ _
 refine aa (iX (aa (dj hz rfl rfl ?_)));refine aa (hG hz (by simp) fun h₁ hz₁ hs₁=> ?_);have hz₁:IsZip h₁ z TI TO .ellipsis:=hz₁;refine aa ?_;show wpAny _ _ (forIn [(Value.ref i1,0),(Value.ref i2,1)] (none,()) _) _ _ _;rw[g9];refine aa (aa (Ij ?_));show wpAny _ _ (do
  let v<-Builtin.SmallTypes.nextOf (.ref i1)
  pure (some v)) _ _ _
 refine aa (jI (h1.extBut hs₁.extBut D.i1z) (gq hl1 hs₁.extBut D.l1z) hx fun h₂ h1₂ hs₂=>aK ?_);have hTO₂:IsPair h₂ TO a b:=hs₂.extBut TO _ D.TOi1 (hs₁.extBut TO _ D.TOz hTO);refine aa (gw hTO₂ rfl (aa (Mc hTO₂ fun h₃ hTO₃ hs₃=> ?_)));have hTO₃:IsPair h₃ TO x b:=hTO₃;refine aa (wpAny_letGo (aK ?_));show wpAny _ _ (forIn [(Value.ref i2,1)] (none,()) _) _ _ _;rw[g9];refine aa (aa (Ij ?_));show wpAny _ _ (do
  let v<-Builtin.SmallTypes.nextOf (.ref i2)
  pure (some v)) _ _ _
 refine aa (jI (((h2.extBut hs₁.extBut D.i2z).extBut hs₂.extBut (br D.i12)).extBut hs₃.extBut (br D.TOi2)) (gq (gq (gq hl2 hs₁.extBut D.l2z) hs₂.extBut D.l2i1) hs₃.extBut D.l2TO) hy fun h₄ h2₄ hs₄=>aK ?_);have hTO₄:IsPair h₄ TO x b:=hs₄.extBut TO _ D.TOi2 hTO₃;refine aa (gw hTO₄ rfl (aa (Mc hTO₄ fun h₅ hTO₅ hs₅=> ?_)));have hTO₅:IsPair h₅ TO x y:=hTO₅;refine aa (wpAny_letGo (aK ?_));show wpAny _ _ (forIn [] (none,()) _) _ _ _;rw[List.forIn_nil];refine aK ?_;refine aa (gw hTO₅ rfl (aa (sJ ?_)));have hsz:h₅.objs.size=s.heap.objs.size:=by rw[hs₅.1,hs₄.1,hs₃.1,hs₂.1,hs₁.1]
 have hz₅:IsZip h₅ z TI TO .ellipsis:=hs₅.extBut z _ (br D.TOz) (hs₄.extBut z _ (br D.i2z) (hs₃.extBut z _ (br D.TOz) (hs₂.extBut z _ (br D.i1z) hz₁)));have hk₅:∀c o,c≠z->c≠TO->c≠i1->c≠i2->s.heap.get? c=some o->h₅.get? c=some o:=fun c o c1 c2 c3 c4 e=>hs₅.extBut c o c2 (hs₄.extBut c o c4 (hs₃.extBut c o c2 (hs₂.extBut c o c3 (hs₁.extBut c o c1 e))));have h1₅:=((h1₂.extBut hs₃.extBut (br D.TOi1)).extBut hs₄.extBut D.i12).extBut hs₅.extBut (br D.TOi1);have h2₅:=h2₄.extBut hs₅.extBut (br D.TOi2);have hzlt:=aN hz₅;have hTOlt:=aN hTO₅;have hi1lt:i1<h₅.objs.size:=by obtain⟨o,e,_⟩:=h1₅;exact aN e
 have hi2lt:i2<h₅.objs.size:=by obtain⟨o,e,_⟩:=h2₅;exact aN e
 refine aa ?_;have hz₆:IsZip (h₅.push {cls:= .type "tuple",data:= .seq [x,y].toArray}) z TI TO .ellipsis:=aC _ hz₅;refine aa (hG hz₆ (by simp) fun h₇ hz₇ hs₇=> ?_);refine hG hz₇ (by simp) fun h₈ hz₈ hs₈=> ?_;have up:∀c o,c≠z->h₅.get? c=some o->h₈.get? c=some o:=fun c o c1 e=>hs₈.extBut c o c1 (hs₇.extBut c o c1 (aC _ e));have hT₈:IsPair h₈ h₅.objs.size x y:=hs₈.extBut _ _ (iE hzlt) (hs₇.extBut _ _ (iE hzlt) (a_ h₅ rfl));refine aK ⟨_,rfl,?_⟩;show Q (.ref h₅.objs.size) _;rw[hsz] at hT₈⊢;refine hQ h₈ ?_ (up _ _ D.TOz hTO₅) ?_ ?_ hT₈ ?_ fun c o c1 c2 c3 c4 e=>up c o c1 (hk₅ c o c1 c2 c3 c4 e)
 · rw[<-hsz];exact hz₈
 · obtain⟨o,e,r⟩:=h1₅;exact⟨o,up _ _ D.i1z e,r⟩
 · obtain⟨o,e,r⟩:=h2₅;exact⟨o,up _ _ D.i2z e,r⟩
 · rw[hs₈.1,hs₇.1,dZ,hsz]
def sG{TI TO:Addr}(hh:A.handled=none)(D:ZipApart z TI TO i1 i2 l1 l2)(hz:IsZip s.heap z TI TO .none)(hTI:IsPair s.heap TI (.ref i1) (.ref i2))(h1:s.heap.IsTupleIter i1 l1 k1)(hl1:s.heap.IsTuple l1 xs)(hx:xs[k1]? =none)(hE:∀h' e,(∀c o,c≠z->c≠TO->c≠i1->c≠i2->s.heap.get? c=some o->h'.get? c=some o)->(∃o,h'.get? e=some o/\o.cls= .type "StopIteration")->E (.ref e) {s with heap:=h'}):wpAny (model prog w) A (Builtin.«zip.__next__» {pos:=[.ref z]}) Q E s:=by
 refine aa (mG (a:=(Value.ref z,[])) rfl ?_);refine aa (dj hz rfl rfl ?_);refine aa (dj hz rfl rfl ?_);refine aa (gw hTI rfl ?_);show wpAny _ _ (do
  let __do_lift<-Builtin.SmallTypes.ownedTupleIsFree (.ref z)
  _) _ _ _
 refine aa (aa (dj hz rfl rfl (aK ?_)));show wpAny _ _ (do
  rule "zip.__next__.owned-tuple-again"
  _) _ _ _
 refine aa (iX (aa (dj hz rfl rfl ?_)));refine aa (hG hz (by simp) fun h₁ hz₁ hs₁=> ?_);have hz₁:IsZip h₁ z TI TO .ellipsis:=hz₁;refine aa ?_;show wpAny _ _ (forIn [(Value.ref i1,0),(Value.ref i2,1)] (none,()) _) _ _ _;rw[g9];refine aa (aa (Ij ?_));show wpAny _ _ (do
  let v<-Builtin.SmallTypes.nextOf (.ref i1)
  pure (some v)) _ _ _
 refine aa (rC hh (h1.extBut hs₁.extBut D.i1z) (gq hl1 hs₁.extBut D.l1z) hx fun h₂ e eb₂ he=> ?_);have hz₂:IsZip h₂ z TI TO .ellipsis:=eb₂ z _ (br D.i1z) hz₁;refine hG hz₂ (by simp) fun h₃ hz₃ hs₃=> ?_;obtain⟨o,ho,hc⟩:=he;have hez:e≠z:=fun q=>by
  rw[q,hz₂] at ho;cases ho;exact absurd (Value.type.inj hc) (by decide)
 exact hE h₃ e (fun c o c1 c2 c3 c4 q=>hs₃.extBut c o c1 (eb₂ c o c3 (hs₁.extBut c o c1 q))) ⟨o,hs₃.extBut e o hez ho,hc⟩
end
section
def ox{TI TO:Addr}(D:ZipApart z TI TO i1 i2 l1 l2)(hz:IsZip s.heap z TI TO .none)(hTI:IsPair s.heap TI (.ref i1) (.ref i2))(hTO:IsPair s.heap TO a b)(h1:s.heap.IsTupleIter i1 l1 k1)(h2:s.heap.IsTupleIter i2 l2 k2)(hl1:s.heap.IsTuple l1 xs)(hl2:s.heap.IsTuple l2 ys)(hx:xs[k1]? =some x)(hy:ys[k2]? =some y)(hQ:∀h':Heap,IsZip h' z TI TO (rawInt ↑(Array.size s.heap.objs))->IsPair h' TO x y->h'.IsTupleIter i1 l1 (k1+1)->h'.IsTupleIter i2 l2 (k2+1)->IsPair h' (Array.size s.heap.objs) x y->Array.size h'.objs=Array.size s.heap.objs+1->(∀c o,c≠z->c≠TO->c≠i1->c≠i2->s.heap.get? c=some o->h'.get? c=some o)->Q (some (.ref (Array.size s.heap.objs))) {s with heap:=h'}):wpAny (model prog w) A (pyNext (.ref z)) Q E s:=by
 have hT:s.TypeIs (.ref z) "zip":=⟨_,hz,rfl⟩;exact aa (wpAny_attempt (fG hT qz (iY qz hT F.entry_zip_next
  (qB D hz hTI hTO h1 h2 hl1 hl2 hx hy fun h' a1 a2 a3 a4 a5 a6 a7=>aK (hQ h' a1 a2 a3 a4 a5 a6 a7)) (OH _))))
def pN{TI TO:Addr}(hh:A.handled=none)(D:ZipApart z TI TO i1 i2 l1 l2)(hz:IsZip s.heap z TI TO .none)(hTI:IsPair s.heap TI (.ref i1) (.ref i2))(h1:s.heap.IsTupleIter i1 l1 k1)(hl1:s.heap.IsTuple l1 xs)(hx:xs[k1]? =none)(hQ:∀h':Heap,(∀c o,c≠z->c≠TO->c≠i1->c≠i2->s.heap.get? c=some o->h'.get? c=some o)->Q none {s with heap:=h'}):wpAny (model prog w) A (pyNext (.ref z)) Q E s:=by
 have hT:s.TypeIs (.ref z) "zip":=⟨_,hz,rfl⟩;refine aa (wpAny_attempt (fG hT qz (iY qz hT F.entry_zip_next
  (sG (TO:=TO) hh D hz hTI h1 hl1 hx fun h' e hk he=> ?_) (OH _))))
 obtain⟨o,ho,hc⟩:=he;exact aa (wpAny_isInstance ⟨o,ho,hc⟩ isSubtype_stop (aK (hQ h' hk)))
def vG(hQ:Q (.ref s.heap.objs.size) {s with heap:=s.heap.push {cls:= .type T,data:= .fields vs.toArray}})(hz:vs.length<=sizeLine):wpAny (model prog w) A (Builtin.SmallTypes.newRecord (.type T) vs) Q E s:=by
 show wpAny _ _ (newObj (.type T) (.fields vs.toArray)) _ _ _;refine dC hQ ?_;show vs.toArray.size<=sizeLine+2;rw[aV];lia
def CG{s:Shared}(hl1:s.heap.IsTuple l1 xs)(hl2:s.heap.IsTuple l2 ys)(hQ:∀h':Heap,IsZip h' (s.heap.objs.size+4) (s.heap.objs.size+2) (s.heap.objs.size+3) .none->IsPair h' (s.heap.objs.size+2) (.ref s.heap.objs.size) (.ref (s.heap.objs.size+1))->IsPair h' (s.heap.objs.size+3) .none .none->h'.IsTupleIter s.heap.objs.size l1 0->h'.IsTupleIter (s.heap.objs.size+1) l2 0->h'.objs.size=s.heap.objs.size+5->(∀c o,s.heap.get? c=some o->h'.get? c=some o)->Q (.done (.ret (.ref (s.heap.objs.size+4)))) {s with heap:=h'}):wpAny (model prog w) A (Builtin.«zip.__new__» {pos:=[.type "zip",.ref l1,.ref l2]}) Q E s:=by
 have hL2:(s.heap.push {cls:= .type "tuple_iterator",data:= .fields #[.ref l1,.int 0 0]}).IsTuple l2 ys:=by
  obtain⟨o,ho,r⟩:=hl2;exact⟨o,aC _ ho,r⟩
 refine aa (aa (aK ?_));refine CH rfl (aa (mG sub_zip ?_));refine CH rfl (aK ?_);refine CH rfl ?_;refine aa ?_;refine aa ?_;show wpAny _ _ (forIn [Value.ref l1,Value.ref l2] #[] _) _ _ _;rw[g9];refine aa (aa (dW (NV hl1 (aK ?_))));show wpAny _ _ (forIn [Value.ref l2] _ _) _ _ _;rw[g9];refine aa (aa (dW (NV hL2 (aK ?_))));show wpAny _ _ (forIn [] _ _) _ _ _;rw[List.forIn_nil];refine aK (aK ?_);refine aa (sJ ?_ (show 2<=sizeLine from eF (bH (by decide))));refine aa (sJ ?_ (show 2<=sizeLine from eF (bH (by decide))));refine aa (vG (aK ?_) (show 5<=sizeLine from eF (bH (by decide))));have z1:=dZ s.heap {cls:= .type "tuple_iterator",data:= .fields #[.ref l1,.int 0 0]};generalize hh1:s.heap.push {cls:= .type "tuple_iterator",data:= .fields #[.ref l1,.int 0 0]}=H1 at z1⊢;have z2:=dZ H1 {cls:= .type "tuple_iterator",data:= .fields #[.ref l2,.int 0 0]};have g1:H1.get? s.heap.objs.size=some {cls:= .type "tuple_iterator",data:= .fields #[.ref l1,.int 0 0]}:=by rw[<-hh1];exact a_ _ rfl
 have o1:∀c o,s.heap.get? c=some o->H1.get? c=some o:=fun c o e=>by rw[<-hh1];exact aC _ e
 generalize hh2:H1.push {cls:= .type "tuple_iterator",data:= .fields #[.ref l2,.int 0 0]}=H2 at z2⊢;have g2:H2.get? H1.objs.size=some {cls:= .type "tuple_iterator",data:= .fields #[.ref l2,.int 0 0]}:=by rw[<-hh2];exact a_ _ rfl
 have o2:∀c o,H1.get? c=some o->H2.get? c=some o:=fun c o e=>by rw[<-hh2];exact aC _ e
 rw[z1] at z2 g2;show Q (.done (.ret (.ref ((H2.push {cls:= .type "tuple",data:= .seq #[.ref s.heap.objs.size,.ref H1.objs.size]}).push {cls:= .type "tuple",data:= .seq #[.none,.none]}).objs.size)))
  {s with heap:=(((H2.push {cls:= .type "tuple",data:= .seq #[.ref s.heap.objs.size,.ref H1.objs.size]}).push {cls:= .type "tuple",data:= .seq #[.none,.none]}) |>.push ({cls:= .type "zip",data:= .fields #[.none,.bool false,.bool false,.ref H2.objs.size,.ref (H2.push {cls:= .type "tuple",data:= .seq #[.ref s.heap.objs.size,.ref H1.objs.size]}).objs.size]}:Obj))}
 rw[z1];generalize hh3:H2.push {cls:= .type "tuple",data:= .seq #[.ref s.heap.objs.size,.ref (s.heap.objs.size+1)]}=H3;have z3:H3.objs.size=H2.objs.size+1:=by rw[<-hh3,dZ]
 have g3:H3.get? H2.objs.size=some {cls:= .type "tuple",data:= .seq #[.ref s.heap.objs.size,.ref (s.heap.objs.size+1)]}:=by rw[<-hh3];exact a_ _ rfl
 have o3:∀c o,H2.get? c=some o->H3.get? c=some o:=fun c o e=>by rw[<-hh3];exact aC _ e
 generalize hh4:H3.push {cls:= .type "tuple",data:= .seq #[.none,.none]}=H4;have z4:H4.objs.size=H3.objs.size+1:=by rw[<-hh4,dZ]
 have g4:H4.get? H3.objs.size=some {cls:= .type "tuple",data:= .seq #[.none,.none]}:=by rw[<-hh4];exact a_ _ rfl
 have o4:∀c o,H3.get? c=some o->H4.get? c=some o:=fun c o e=>by rw[<-hh4];exact aC _ e
 rw[z2] at z3 g3;rw[z3] at z4 g4;have e4:H4.objs.size=s.heap.objs.size+4:=z4;have o5:=fun(c:Addr) (o:Obj) (Z:Obj) (e:H4.get? c=some o)=>aC Z e;rw[z2,z3,e4];refine hQ _ ?_ (o5 _ _ _ (o4 _ _ g3)) (o5 _ _ _ g4) ⟨_,o5 _ _ _ (o4 _ _ (o3 _ _ (o2 _ _ g1))),rfl,rfl⟩ ⟨_,o5 _ _ _ (o4 _ _ (o3 _ _ g2)),rfl,rfl⟩ ?_ fun c o e=>o5 _ _ _ (o4 _ _ (o3 _ _ (o2 _ _ (o1 _ _ e))))
 · have:=a_ H4 (o:={cls:= .type "zip",data:= .fields #[.none,.bool false,.bool false,.ref (s.heap.objs.size+1+1),.ref (s.heap.objs.size+1+1+1)]}) rfl;rw[e4] at this;exact this
 · rw[dZ,e4]
def Cv{s:Shared}(hl1:s.heap.IsTuple l1 xs)(hl2:s.heap.IsTuple l2 ys)(hQ:∀h':Heap,IsZip h' (s.heap.objs.size+4) (s.heap.objs.size+2) (s.heap.objs.size+3) .none->IsPair h' (s.heap.objs.size+2) (.ref s.heap.objs.size) (.ref (s.heap.objs.size+1))->IsPair h' (s.heap.objs.size+3) .none .none->h'.IsTupleIter s.heap.objs.size l1 0->h'.IsTupleIter (s.heap.objs.size+1) l2 0->h'.objs.size=s.heap.objs.size+5->(∀c o,s.heap.get? c=some o->h'.get? c=some o)->Q (.ref (s.heap.objs.size+4)) {s with heap:=h'}):wpAny (model prog w) A (call (.type "zip") [.ref l1,.ref l2]) Q E s:=by
 have M:Meets (Builtin.«zip.__new__» {pos:=[.type "zip",.ref l1,.ref l2]}) (fun _ R s=>s.heap.IsTuple l1 xs/\s.heap.IsTuple l2 ys/\
  ∀h':Heap,IsZip h' (s.heap.objs.size+4) (s.heap.objs.size+2) (s.heap.objs.size+3) .none->IsPair h' (s.heap.objs.size+2) (.ref s.heap.objs.size) (.ref (s.heap.objs.size+1))->IsPair h' (s.heap.objs.size+3) .none .none->h'.IsTupleIter s.heap.objs.size l1 0->h'.IsTupleIter (s.heap.objs.size+1) l2 0->h'.objs.size=s.heap.objs.size+5->(∀c o,s.heap.get? c=some o->h'.get? c=some o)->R (.ok (.ret (.ref (s.heap.objs.size+4)))) {s with heap:=h'}):=
  Meets.of_wp fun prog w A R s h=>CG h.1 h.2.1 fun h' a1 a2 a3 a4 a5 a6 a7=>⟨_,rfl,h.2.2 h' a1 a2 a3 a4 a5 a6 a7⟩
 refine callType_new F.called_zip (by decide) (F.typeCall_zip_2 _ _) (F.newCall_zip_2 _ _) (fun obj=>F.args_object_init_3 obj _ _) F.entry_zip_new M ⟨hl1,hl2,fun h' a1 a2 a3 a4 a5 a6 a7=> ?_⟩;exact⟨⟨_,a1,rfl⟩,hQ h' a1 a2 a3 a4 a5 a6 a7⟩
end
noncomputable def LM(K:Frag)(a1 a2:Addr):It:=⟨fun i H=>∃xs ys x y,SqT K H a1 xs/\SqT K H a2 ys/\xs[i]? =some x/\ys[i]? =some y,fun i H v H'=>∃T x y,v= .ref T/\H T=none/\H'=upd H T (.tup [x,y])/\(∀xs,SqT K H a1 xs->xs[i]? =some x)/\∀ys,SqT K H a2 ys->ys[i]? =some y,fun i H=>∃xs ys,SqT K H a1 xs/\SqT K H a2 ys/\xs.length<=i⟩
def BD{K:Frag}{TI TO:Addr}(D:ZipApart z TI TO i1 i2 a1 a2):yl P w K (.Tuple elts k pos) (LM K a1 a2) [z,TI,TO,i1,i2] z (fun i h=>IsZip h z TI TO .none/\IsPair h TI (.ref i1) (.ref i2)/\(∃a b,IsPair h TO a b)/\h.IsTupleIter i1 a1 i/\h.IsTupleIter i2 a2 i) where
 mem:=by simp
 obj:=fun i h st b hb=>by
  obtain⟨hz,hTI,⟨a,b',hTO⟩,⟨o1,g1,c1,d1⟩,⟨o2,g2,c2,d2⟩⟩:=st;simp only[aI,dU,bW] at hb;rcases hb with rfl | rfl | rfl | rfl | rfl
  · exact⟨_,hz,fun v e=>by cases(show Data.fields _=Data.cell v from e)⟩
  · exact⟨_,hTI,fun v e=>by cases(show Data.seq _ _=Data.cell v from e)⟩
  · exact⟨_,hTO,fun v e=>by cases(show Data.seq _ _=Data.cell v from e)⟩
  · exact⟨_,g1,fun v e=>by rw[d1] at e;cases e⟩
  · exact⟨_,g2,fun v e=>by rw[d2] at e;cases e⟩
 keep:=fun i h h' st kk=>by
  obtain⟨hz,hTI,⟨a,b',hTO⟩,⟨o1,g1,r1⟩,⟨o2,g2,r2⟩⟩:=st;exact⟨kk z (by simp) _ hz,kk TI (by simp) _ hTI,⟨a,b',kk TO (by simp) _ hTO⟩,⟨o1,kk i1 (by simp) _ g1,r1⟩,⟨o2,kk i2 (by simp) _ g2,r2⟩⟩
 item:=by
  intro X hP hw hK hc i pins s σ H E I hf st hg;subst hP hw hK;obtain⟨xs,ys,x,y,q1,q2,hx,hy⟩:=hg;obtain⟨hz,hTI,⟨a,b',hTO⟩,h1,h2⟩:=st;obtain⟨us,rv1,p1,hz1⟩:=I.tuple q1;obtain⟨vs,rv2,p2,hz2⟩:=I.tuple q2;obtain⟨u,hu,ru⟩:=rv1.get hx;obtain⟨v,hv,rv⟩:=rv2.get hy;refine ox D hz hTI hTO h1 h2 p1 p2 (x:=u) (y:=v) (by simpa using hu) (by simpa using hv) fun h' e1 e2 e3 e4 e5 e6 e7=>⟨_,rfl,?_⟩;refine wpAny_letOwnedTupleGo_zip e1 fun h'' f1 f2=> ?_;have nT:s.heap.objs.size≠z:=iE (aN hz);have kk:∀b o,b∉[z,TI,TO,i1,i2]->s.heap.get? b=some o->h''.get? b=some o:=fun b o hb q=>by
   simp only[aI,dU,bW,xD] at hb;exact f2.extBut b o hb.1 (e7 b o hb.1 hb.2.2.1 hb.2.2.2.1 hb.2.2.2.2 q)
  have hT2:h''.IsTuple s.heap.objs.size #[u,v]:=⟨_,f2.extBut _ _ nT e5,rfl,0,rfl⟩;refine⟨.ref s.heap.objs.size,upd H s.heap.objs.size (.tup [x,y]),I.turnedT (t':=s.toks) hf kk (ar _) ?_,rfl,⟨_,x,y,rfl,I.hok.fresh (ar _),rfl,fun zs hzs=>by rw[I.tuple_inj hzs q1];exact hx,fun zs hzs=>by rw[I.tuple_inj hzs q2];exact hy⟩,⟨f1,?_,⟨u,v,?_⟩,?_,?_⟩,fun b hb=> ?_⟩
  · exact⟨by show 2<=sizeLine;exact eF (bH (by decide)),[u,v],.cons ru (.cons rv .nil),hT2⟩
  · refine f2.extBut _ _ D.TIz (e7 _ _ D.TIz D.TITO D.TIi1 D.TIi2 hTI)
  · exact f2.extBut _ _ D.TOz e2
  · exact e3.extBut f2.extBut D.i1z
  · exact e4.extBut f2.extBut D.i2z
  · have:b≠s.heap.objs.size:=fun q=>by
     obtain⟨o,ho,_⟩:∃o,s.heap.get? b=some o/\True:=by
      simp only[aI,dU,bW] at hb;obtain⟨o1,g1,_⟩:=h1;obtain⟨o2,g2,_⟩:=h2;rcases hb with rfl | rfl | rfl | rfl | rfl
      · exact⟨_,hz,trivial⟩
      · exact⟨_,hTI,trivial⟩
      · exact⟨_,hTO,trivial⟩
      · exact⟨_,g1,trivial⟩
      · exact⟨_,g2,trivial⟩
     exact absurd q (bI (aN ho))
    rw[aB this];exact(hf b hb).1
 done:=by
  intro X hP hw hK hc i pins s σ H E I hf st hg;subst hP hw hK;obtain⟨xs,ys,q1,q2,hx⟩:=hg;obtain⟨hz,hTI,⟨a,b',hTO⟩,h1,h2⟩:=st;obtain⟨us,rv1,p1,hz1⟩:=I.tuple q1;have hl:=rv1.length;refine pN (TO:=TO) (I.ok.hd hc) D hz hTI h1 p1 (Array.getElem?_eq_none (by simp;lia)) fun h' e7=>⟨rfl,I.turnedL (t':=s.toks) hf fun b o hb q=> ?_⟩;simp only[aI,dU,bW,xD] at hb;exact e7 b o hb.1 hb.2.2.1 hb.2.2.2.1 hb.2.2.2.2 q
 self:=fun _ _ _ _ _ st h=>wpAny_pyIter_zip st.1 h
def Lh(K:Frag)(ta:TA):TI:=fun σ H R=>ta σ H fun vs H1=>∃a1 a2,vs=[.ref a1,.ref a2]/\(∃xs,SqT K H1 a1 xs)/\(∃ys,SqT K H1 a2 ys)/\R (LM K a1 a2) H1
def Bd{X:Cx}{elts:List Expr}{k:Nat}{tpos:Pos}{e1 e2:Expr}{ta:TA}{p pos:Pos}(hg:Gl X "zip")(hm:X.mg "zip"=none)(ha:PA X [e1,e2] ta)(hs:starEach [e1,e2] X.env=(false,eval e1 X.env)::starEach [e2] X.env:=by rfl)(hs2:(backTo pos (starEach [e2] X.env)).any (·.1)=false:=by rfl):PI X (.Tuple elts k tpos) (.Call (.Name "zip" p) [e1,e2] [] pos) (Lh X.K ta):=by
 intro pins s σ H R I h;refine Call_ (kg I hg hm PyProof.Rows.Boot.zip (dA (cZ (ha pos pins s σ H _ I h) fun us s1 ⟨vs,H1,I1,r1,q1⟩=> ?_) hs hs2));obtain⟨a1,a2,e,⟨xs,hq1⟩,⟨ys,hq2⟩,q⟩:=q1;subst e;cases r1 with
 | cons ra rr=>
   cases rr with
   | cons rb rr=>
     cases rr;cases ra;cases rb;obtain⟨us,rv1,p1,hz1⟩:=I1.tuple hq1;obtain⟨vs,rv2,p2,hz2⟩:=I1.tuple hq2;have l1:a1<s1.heap.objs.size:=by obtain⟨o,ho,_⟩:=p1;exact aN ho
     have l2:a2<s1.heap.objs.size:=by obtain⟨o,ho,_⟩:=p2;exact aN ho
     refine Cv p1 p2 fun h' f1 f2 f3 f4 f5 f6 f7=> ?_;refine wpAny_pyIter_zip f1 ?_;have I2:Inv X pins σ H1 {s1 with heap:=h'}:=I1.kept (t':=s1.toks) f7;refine⟨_,_,_,_,H1,rfl,I2,BD (zipApart_new l1 l2),⟨f1,f2,⟨_,_,f3⟩,f4,f5⟩,fun b hb=> ?_,q⟩;have hb':s1.heap.objs.size<=b:=by
      simp only[aI,dU,bW] at hb;rcases hb with h | h | h | h | h<;>rw[h]<;>first | exact ar _ | exact dv _ _
     exact I1.fpOk hb' (I1.hok.fresh hb')
def x_{K:Frag}{g:TG}{tb:TS}{D:sx}(hlen:xs.length=ys.length)(Pv:Nat->St->Hp->Prop)(h0:Pv 0 σ H)(hl:∀i σ H,i<=xs.length->Pv i σ H->SqT K H a1 xs/\SqT K H a2 ys)(hs:∀i x y σ H T,xs[i]? =some x->ys[i]? =some y->Pv i σ H->H T=none->g (.ref T) σ (upd H T (.tup [x,y])) fun σ2 H2=>tb {D with nx:=Pv (i+1),ct:=Pv (i+1),bk:=D.nx} σ2 H2)(hd:∀σ H,Pv xs.length σ H->D.nx σ H):∃W:Nat->Nat->St->Hp->Prop,(∃m,W 0 m σ H)/\∀i m σ H,W i m σ H->((LM K a1 a2).stop i H/\D.nx σ H)\/((LM K a1 a2).go i H/\∃N:St->Hp->Prop,(∀σ' H',N σ' H'->∃m',m'<m/\W (i+1) m' σ' H')/\∀x H',(LM K a1 a2).yld i H x H'->g x σ H' fun σ2 H2=>tb {D with nx:=N,ct:=N,bk:=D.nx} σ2 H2):=by
 refine⟨fun i m σ H=>m=xs.length - i/\i<=xs.length/\Pv i σ H,⟨xs.length,by simp,av _,h0⟩,?_⟩;rintro i m σ H ⟨rfl,hi,p⟩;obtain⟨q1,q2⟩:=hl i σ H hi p;by_cases hlt:i<xs.length
 · have hlt2:i<ys.length:=by lia
   refine .inr ⟨⟨xs,ys,xs[i],ys[i],q1,q2,by simp[hlt],by simp[hlt2]⟩,Pv (i+1),fun σ' H' p'=>⟨xs.length - (i+1),by lia,rfl,hlt,p'⟩,fun v H' y=> ?_⟩;obtain⟨T,x,y,rfl,hT,rfl,y1,y2⟩:=y;exact hs i x y σ _ T (y1 xs q1) (y2 ys q2) p hT
 · have e:i=xs.length:=by lia
   subst e;exact .inl ⟨⟨xs,ys,q1,q2,ar _⟩,hd σ H p⟩
def uC(K:Frag)(P:Program)(w:World)(a:Addr)(kvs:List (Key × V)):Prop:=∀h:Heap,(∀b o,K.lookup b=some o->h.get? b=some o)->∃vs,KV kvs vs/\h.DictOf (cQ P w) a vs
def Kx(K:Frag)(P:Program)(w:World)(td ty:TE):TE:=fun σ H Q=>td σ H fun x H1=>ty σ H1 fun y H2=>∃a kvs k v,x= .ref a/\y=kV k/\uC K P w a kvs/\cB kvs k=some v/\Q v H2
def Be(ho:PE X o td)(hi:PE X i ty)(hs:Hc i):PE X (.Subscript o i pos) (Kx X.K X.prog X.w td ty):=by
 intro pins s σ H Q I h;refine Ak Ig.lookup hs (cZ (ho pins s σ H _ I h) fun u s1 ⟨x,H1,I1,rx,q1⟩=>cZ (hi pins s1 σ H1 _ I1 q1) fun iv s2 ⟨y,H2,I2,ry,a,kvs,k,v,ex,ey,kd,l,q2⟩=> ?_);subst ex ey;obtain rfl:u=Value.ref a:=rx;obtain⟨vs,rel,dd⟩:=kd s2.heap I2.kIn;obtain⟨w',hw,rw'⟩:=RelO.some_of (v:=v) (o:=valueAt vs k) (by rw[<-l];exact rel.val k);exact⟨dd.typeIs,wpAny_getItem_of (nK ry) dd.mapOf hw ⟨v,H2,I2.tok _,rw',q2⟩⟩
noncomputable def Ez(w:World)(e:Str × Tok × Value):DictEntry:=⟨PyData.keyHash w.params e.1,.str e.1 e.2.1,e.2.2⟩
def Ih:List (Key × V)->List (Str × Tok × Value)->Prop:=Paired fun kv e=>kv.1=Sum.inr e.1/\RelV kv.2 e.2.2
theorem xV:∀l:List (Str × Tok × Value),Pairs (cQ P w) (l.map (Ez w)) (l.map fun e=>(Sum.inr e.1,e.2.2))
 | []=> .nil
 | e::l=> .cons (kv:=(Sum.inr e.1,e.2.2)) (oO e.1 e.2.1) rfl (xV l)
theorem HV:∀{kvs:List (Key × V)} {l:List (Str × Tok × Value)},Ih kvs l->KV kvs (l.map fun e=>(Sum.inr e.1,e.2.2))
 | _,_,.nil=> .nil
 | _,_,.cons r t=> .cons ⟨r.1,r.2⟩ (HV t)
def Ey{K:Frag}(l:List (Str × Tok × Value))(hl:K.lookup a=some {cls:= .type "dict",dict:=none,data:= .dict (l.map (Ez w)).toArray ep,slots:= #[]})(hr:Ih kvs l)(hn:(l.map (·.1)).Nodup):uC K P w a kvs:=fun h hk=>by
 refine⟨_,HV hr,_,_,_,hk _ _ hl,⟨rfl,rfl,rfl⟩,rfl,fun e he=> ?_,?_,?_⟩
 · have he':e∈l.map (Ez w):=by simpa using he
   obtain⟨x,_,rfl⟩:=bK.mp he';exact⟨Sum.inr x.1,oO x.1 x.2.1,rfl⟩
 · exact xV l
 · rw[iF];have:(l.map ((fun x:Key × Value=>x.1)∘fun e=>(Sum.inr e.1,e.2.2)))=(l.map (·.1)).map Sum.inr:=by
    rw[iF];rfl
   rw[this];exact List.Pairwise.map _ (fun a b hab e=>hab (Nc e)) hn
section
end
section
end
section
end
noncomputable def eS:Expr->Bool
 | .Starred _ _=>false
 | _=>true
def qc(h:eS e=true):starEach (e::es) env=(false,eval e env)::starEach es env:=by
 cases e<;>first | (cases h;done) | (rw[starEach.eq_def])
def bY{X:Cx}{e:Expr}{es:List Expr}{te:TE}{t:TA}(ha:PE X e te)(hr:PA X es t)(h:eS e=true:=by rfl):PA X (e::es) (dF te t):=d8 ha hr (qc h)
section
end
inductive Tx where
 | non
 | int (i:Int)
 | str (x:Str)
 | tup (ds:List Tx)
 | lst (ds:List Tx)
noncomputable instance:DecidableEq Tx:=fun a b=>Classical.propDecidable (a=b)
mutual
def Xa(H:Hp):Tx->V->Prop
 | .non,v=>v= .non
 | .int i,v=>v= .int i
 | .str x,v=>v= .str x
 | .tup ds,v=>∃p xs,v= .ref p/\H p=some (.tup xs)/\Xas H ds xs
 | .lst ds,v=>∃p xs,v= .ref p/\H p=some (.lst xs)/\Xas H ds xs
def Xas(H:Hp):List Tx->List V->Prop
 | [],xs=>xs=[]
 | d::ds,xs=>∃x r,xs=x::r/\Xa H d x/\Xas H ds r
end
mutual
noncomputable def Tx.dp:Tx->Nat
 | .non=>0
 | .int _=>0
 | .str _=>0
 | .tup ds=>1+pM ds
 | .lst ds=>1+pM ds
noncomputable def pM:List Tx->Nat
 | []=>0
 | d::ds=>max d.dp (pM ds)
end
theorem Xas.len:∀{ds:List Tx} {xs:List V},Xas H ds xs->xs.length=ds.length
 | [],_,h=>by cases h;rfl
 | _::_,_,⟨x,r,e,_,q⟩=>by rw[e,bj,bj,Xas.len q]
theorem Xas.get:∀{ds:List Tx} {xs:List V} {j:Nat} {x:V},Xas H ds xs->xs[j]? =some x->∃d,ds[j]? =some d/\Xa H d x
 | [],_,_,_,h,e=>by cases h;simp at e
 | d::_,_,0,x,⟨y,r,e,h,q⟩,g=>by subst e;simp at g;subst g;exact⟨d,rfl,h⟩
 | d::ds,_,j+1,x,⟨y,r,e,h,q⟩,g=>by
   subst e;obtain⟨d',g1,g2⟩:=Xas.get (j:=j) q (by simpa using g);exact⟨d',by simpa using g1,g2⟩
theorem wq:∀{ds:List Tx} {d:Tx},d∈ds->d.dp<=pM ds
 | e::ds,d,h=>by
   rcases aI.mp h with rfl | h
   · exact Nat.le_max_left _ _
   · exact ai (wq h) (Nat.le_max_right _ _)
def Fy(h:∀d∈ds,d.dp<=n):pM ds<=n:=by
 induction ds with
 | nil=>exact av _
 | cons a r ih=>exact Nat.max_le.mpr ⟨h a aL,ih fun d hd=>h d (aG _ hd)⟩
theorem Xas.inj(ih:∀d d' v,d.dp<=n->Xa H d v->Xa H d' v->d=d'):∀{ds es:List Tx} {xs:List V},pM ds<=n->Xas H ds xs->Xas H es xs->ds=es
 | [],[],_,_,_,_=>rfl
 | [],_::_,_,_,h,⟨x,r,e,_⟩=>by have h':_=[]:=h;rw[h'] at e;cases e
 | _::_,[],_,_,⟨x,r,e,_⟩,h=>by have h':_=[]:=h;rw[h'] at e;cases e
 | d::ds,e::es,_,hn,⟨x,r,e1,h1,q1⟩,⟨y,r',e2,h2,q2⟩=>by
   rw[e1] at e2;cases e2;have m:max d.dp (pM ds)<=n:=hn;rw[ih d e x (by lia) h1 h2,Xas.inj ih (by lia) q1 q2]
def Xa.inj_n(n:Nat):∀d d' v,d.dp<=n->Xa H d v->Xa H d' v->d=d':=by
 induction n with
 | zero=>
   intro d d' v hn h h';cases d with
   | tup ds=>simp only[Tx.dp] at hn;lia
   | lst ds=>simp only[Tx.dp] at hn;lia
   | non=>
     have e:v= .non:=h;subst e;cases d' with
     | non=>rfl
     | int i=>exact absurd (show V.non= .int i from h') (by intro z;cases z)
     | str i=>exact absurd (show V.non= .str i from h') (by intro z;cases z)
     | tup es=>obtain⟨p,xs,e,_⟩:=(show ∃p xs,V.non= .ref p/\H p=some (.tup xs)/\Xas H es xs from h');cases e
     | lst es=>obtain⟨p,xs,e,_⟩:=(show ∃p xs,V.non= .ref p/\H p=some (.lst xs)/\Xas H es xs from h');cases e
   | int j=>
     have e:v= .int j:=h;subst e;cases d' with
     | non=>exact absurd (show V.int j= .non from h') (by intro z;cases z)
     | int i=>have z:V.int j= .int i:=h';cases z;rfl
     | str i=>exact absurd (show V.int j= .str i from h') (by intro z;cases z)
     | tup es=>obtain⟨p,xs,e,_⟩:=(show ∃p xs,V.int j= .ref p/\H p=some (.tup xs)/\Xas H es xs from h');cases e
     | lst es=>obtain⟨p,xs,e,_⟩:=(show ∃p xs,V.int j= .ref p/\H p=some (.lst xs)/\Xas H es xs from h');cases e
   | str j=>
     have e:v= .str j:=h;subst e;cases d' with
     | non=>exact absurd (show V.str j= .non from h') (by intro z;cases z)
     | int i=>exact absurd (show V.str j= .int i from h') (by intro z;cases z)
     | str i=>have z:V.str j= .str i:=h';cases z;rfl
     | tup es=>obtain⟨p,xs,e,_⟩:=(show ∃p xs,V.str j= .ref p/\H p=some (.tup xs)/\Xas H es xs from h');cases e
     | lst es=>obtain⟨p,xs,e,_⟩:=(show ∃p xs,V.str j= .ref p/\H p=some (.lst xs)/\Xas H es xs from h');cases e
 | succ n ih=>
   intro d d' v hn h h';by_cases hz:d.dp<=n
   · exact ih d d' v hz h h'
   cases d with
   | non=>exact absurd (av n) hz
   | int _=>exact absurd (av n) hz
   | str _=>exact absurd (av n) hz
   | tup ds=>
     obtain⟨p,xs,rfl,e1,q1⟩:=(show ∃p xs,v= .ref p/\H p=some (.tup xs)/\Xas H ds xs from h);simp only[Tx.dp] at hn;cases d' with
     | non=>exact absurd (show V.ref p= .non from h') (by intro z;cases z)
     | int i=>exact absurd (show V.ref p= .int i from h') (by intro z;cases z)
     | str i=>exact absurd (show V.ref p= .str i from h') (by intro z;cases z)
     | tup es=>
       obtain⟨p',ys,e,e2,q2⟩:=(show ∃p' xs,V.ref p= .ref p'/\H p'=some (.tup xs)/\Xas H es xs from h');cases e;rw[e1] at e2;cases e2;rw[Xas.inj ih (by lia) q1 q2]
     | lst es=>
       obtain⟨p',ys,e,e2,q2⟩:=(show ∃p' xs,V.ref p= .ref p'/\H p'=some (.lst xs)/\Xas H es xs from h');cases e;rw[e1] at e2;cases e2
   | lst ds=>
     obtain⟨p,xs,rfl,e1,q1⟩:=(show ∃p xs,v= .ref p/\H p=some (.lst xs)/\Xas H ds xs from h);simp only[Tx.dp] at hn;cases d' with
     | non=>exact absurd (show V.ref p= .non from h') (by intro z;cases z)
     | int i=>exact absurd (show V.ref p= .int i from h') (by intro z;cases z)
     | str i=>exact absurd (show V.ref p= .str i from h') (by intro z;cases z)
     | lst es=>
       obtain⟨p',ys,e,e2,q2⟩:=(show ∃p' xs,V.ref p= .ref p'/\H p'=some (.lst xs)/\Xas H es xs from h');cases e;rw[e1] at e2;cases e2;rw[Xas.inj ih (by lia) q1 q2]
     | tup es=>
       obtain⟨p',ys,e,e2,q2⟩:=(show ∃p' xs,V.ref p= .ref p'/\H p'=some (.tup xs)/\Xas H es xs from h');cases e;rw[e1] at e2;cases e2
def Xa.inj(h:Xa H d v)(h':Xa H d' v):d=d':=Xa.inj_n d.dp d d' v (ar _) h h'
def vZ(ds es:List Tx):((List.range (min ds.length es.length)).all (fun j=>decide (ds[j]? =es[j]?))&&ds.length==es.length)=decide (ds=es):=by
 by_cases h:ds=es
 · subst h;simp
 · rw[ag h];by_cases hl:ds.length=es.length
   · have:¬ (List.range (min ds.length es.length)).all (fun j=>decide (ds[j]? =es[j]?))=true:=by
      intro ha;apply h;apply OG;intro j;by_cases hj:j<ds.length
      · have:=(cP.mp ha) j (cv.mpr (by lia));simpa using this
      · rw[iW (by lia),iW (by lia)]
     rw[Aa.mpr this];rfl
   · rw[cq.mpr hl,lH]
def Bw(ds es:List Tx):decide (Tx.tup ds=Tx.tup es)=decide (ds=es):=by
 by_cases h:ds=es
 · subst h;simp
 · rw[ag h,ag (by intro z;cases z;exact h rfl)]
def GU(ds es:List Tx):decide (Tx.lst ds=Tx.lst es)=decide (ds=es):=by
 by_cases h:ds=es
 · subst h;simp
 · rw[ag h,ag (by intro z;cases z;exact h rfl)]
section
def oU(hx:Xa H d x)(hy:Xa H d' y)(ru:RelV x u)(rv:RelV y v)(h:SeqAt.RcAt A s u v (decide (d=d'))):SeqAt.EqAt A s u v (decide (d=d')):=by
 by_cases z:u=v
 · subst z;have e:x=y:=RelV.inj ru rv;subst e;rw[ah (Xa.inj hx hy)];exact SeqAt.EqAt.same _
 · intro prog w E Q hq;unfold eqBool;refine dW ?_;refine wpAny_ite_split (fun hab=>absurd (eq_of_beq hab) z) (fun _=> ?_);have nf:∀b t,u≠ .float b t:=by
    rintro b t rfl;cases d with
    | non=>have e:x= .non:=hx;subst e;cases ru
    | int i=>have e:x= .int i:=hx;subst e;obtain⟨_,e⟩:=ru;cases e
    | str i=>have e:x= .str i:=hx;subst e;obtain⟨_,e⟩:=ru;cases e
    | tup ds=>obtain⟨p,xs,rfl,_⟩:=(show ∃p xs,x= .ref p/\H p=some (.tup xs)/\Xas H ds xs from hx);cases ru
    | lst ds=>obtain⟨p,xs,rfl,_⟩:=(show ∃p xs,x= .ref p/\H p=some (.lst xs)/\Xas H ds xs from hx);cases ru
   cases u with
   | float b t=>exact absurd rfl (nf b t)
   | _=>exact aa (h prog w E _ (cW hq))
def KF(hx:Xas H ds xs)(hy:Xas H es ys)(r1:Vals xs its)(r2:Vals ys jts)(hn:pM ds<=n)(ih:∀d d' x y u v,d.dp<=n->Xa H d x->Xa H d' y->RelV x u->RelV y v->SeqAt.EqAt A s u v (decide (d=d'))):its.toArray.size=ds.length/\jts.toArray.size=es.length/\∀j (g1:j<its.toArray.size) (g2:j<jts.toArray.size),SeqAt.EqAt A s its.toArray[j] jts.toArray[j] ((fun j=>decide (ds[j]? =es[j]?)) j):=by
 have l1:its.toArray.size=ds.length:=by rw[aV,<-r1.length,hx.len]
 have l2:jts.toArray.size=es.length:=by rw[aV,<-r2.length,hy.len]
 refine⟨l1,l2,fun j g1 g2=> ?_⟩;have j1:j<xs.length:=by rw[hx.len,<-l1];exact g1
 have j2:j<ys.length:=by rw[hy.len,<-l2];exact g2
 obtain⟨k1,e1,i1⟩:=hx.get (aq j1);obtain⟨k2,e2,i2⟩:=hy.get (aq j2);obtain⟨u1,a1,b1⟩:=r1.get (aq j1);obtain⟨u2,a2,b2⟩:=r2.get (aq j2);have c1:its.toArray[j]=u1:=by
  have:=(aU.mp a1).2;simpa using this
 have c2:jts.toArray[j]=u2:=by
  have:=(aU.mp a2).2;simpa using this
 rw[c1,c2];show SeqAt.EqAt A s u1 u2 (decide (ds[j]? =es[j]?));rw[e1,e2];have:decide (some k1=some k2)=decide (k1=k2):=by
  by_cases h:k1=k2
  · subst h;simp
  · rw[ag h,ag (by intro z;cases z;exact h rfl)]
 rw[this];exact ih k1 k2 _ _ _ _ (ai (wq (au e1)) hn) i1 i2 b1 b2
def Hz{σ:St}(I:Inv X pins σ H s)(n:Nat):∀d d' A x y u v,d.dp<=n->Xa H d x->Xa H d' y->RelV x u->RelV y v->A.units+d.dp<cLine->SeqAt.RcAt A s u v (decide (d=d'))/\SeqAt.RcNeAt A s u v (!decide (d=d')):=by
 have tupA:∀{es:List Tx} {y:V} {v:Value},Xa H (.tup es) y->RelV y v->∃p ys jts,y= .ref p/\v= .ref p/\Xas H es ys/\Vals ys jts/\s.heap.IsTuple p jts.toArray:=by
  intro es y v h r;obtain⟨p,ys,rfl,e,q⟩:=(show ∃p xs,y= .ref p/\H p=some (.tup xs)/\Xas H es xs from h);obtain⟨_,its,r1,t1⟩:=(show ObjOk X.prog X.w H s.heap p (.tup ys) from I.hok p _ e);exact⟨p,ys,its,rfl,r,q,r1,t1⟩
 have lstA:∀{es:List Tx} {y:V} {v:Value},Xa H (.lst es) y->RelV y v->∃p ys jts,y= .ref p/\v= .ref p/\Xas H es ys/\Vals ys jts/\s.heap.IsList p jts.toArray:=by
  intro es y v h r;obtain⟨p,ys,rfl,e,q⟩:=(show ∃p xs,y= .ref p/\H p=some (.lst xs)/\Xas H es xs from h);obtain⟨its,r1,t1,_⟩:=I.list (SqL.of e);exact⟨p,ys,its,rfl,r,q,r1,t1.isList⟩
 have base:∀(d d':Tx) (A:Around) (x y:V) (u v:Value),d.dp<=0->Xa H d x->Xa H d' y->RelV x u->RelV y v->A.units+d.dp<cLine->SeqAt.RcAt A s u v (decide (d=d'))/\SeqAt.RcNeAt A s u v (!decide (d=d')):=by
  intro d d' A x y u v hn hx hy ru rv hl;have hl0:A.units<cLine:=by lia
  cases d with
  | tup ds=>simp only[Tx.dp] at hn;lia
  | lst ds=>simp only[Tx.dp] at hn;lia
  | non=>
    have ex:x= .non:=hx;subst ex;have eu:u= .none:=ru;subst eu;cases d' with
    | non=>
      have ey:y= .non:=hy;subst ey;have ev:v= .none:=rv;subst ev;rw[ah rfl];exact⟨SeqAt.RcAt.none_none,SeqAt.RcNeAt.none_none⟩
    | int i=>
      have ey:y= .int i:=hy;subst ey;obtain⟨t,rfl⟩:=rv;rw[ag (by intro z;cases z)];exact⟨SeqAt.RcAt.none_int _ _,SeqAt.RcNeAt.none_int _ _⟩
    | str i=>
      have ey:y= .str i:=hy;subst ey;obtain⟨t,rfl⟩:=rv;rw[ag (by intro z;cases z)];exact⟨SeqAt.RcAt.none_str _ _,SeqAt.RcNeAt.none_str _ _⟩
    | tup es=>
      obtain⟨p,ys,jts,rfl,rfl,_,_,t⟩:=tupA hy rv;rw[ag (by intro z;cases z)];exact⟨SeqAt.RcAt.none_tuple t hl0,SeqAt.RcNeAt.none_tuple t hl0⟩
    | lst es=>
      obtain⟨p,ys,jts,rfl,rfl,_,_,t⟩:=lstA hy rv;rw[ag (by intro z;cases z)];exact⟨SeqAt.RcAt.none_list t hl0,SeqAt.RcNeAt.none_list t hl0⟩
  | int j=>
    have ex:x= .int j:=hx;subst ex;obtain⟨t0,rfl⟩:=ru;cases d' with
    | non=>
      have ey:y= .non:=hy;subst ey;have ev:v= .none:=rv;subst ev;rw[ag (by intro z;cases z)];exact⟨SeqAt.RcAt.int_none _ _,SeqAt.RcNeAt.int_none _ _⟩
    | int i=>
      have ey:y= .int i:=hy;subst ey;obtain⟨t,rfl⟩:=rv;have e:decide (Tx.int j=Tx.int i)=(j==i):=by
       by_cases h:j=i
       · subst h;simp
       · rw[ag (by intro z;cases z;exact h rfl),cq.mpr h]
      rw[e];exact⟨SeqAt.RcAt.int_int _ _ _ _,SeqAt.RcNeAt.int_int _ _ _ _⟩
    | str i=>
      have ey:y= .str i:=hy;subst ey;obtain⟨t,rfl⟩:=rv;rw[ag (by intro z;cases z)];exact⟨SeqAt.RcAt.int_str _ _ _ _,SeqAt.RcNeAt.int_str _ _ _ _⟩
    | tup es=>
      obtain⟨p,ys,jts,rfl,rfl,_,_,t⟩:=tupA hy rv;rw[ag (by intro z;cases z)];exact⟨SeqAt.RcAt.int_tuple _ _ t hl0,SeqAt.RcNeAt.int_tuple _ _ t hl0⟩
    | lst es=>
      obtain⟨p,ys,jts,rfl,rfl,_,_,t⟩:=lstA hy rv;rw[ag (by intro z;cases z)];exact⟨SeqAt.RcAt.int_list _ _ t hl0,SeqAt.RcNeAt.int_list _ _ t hl0⟩
  | str j=>
    have ex:x= .str j:=hx;subst ex;obtain⟨t0,rfl⟩:=ru;cases d' with
    | non=>
      have ey:y= .non:=hy;subst ey;have ev:v= .none:=rv;subst ev;rw[ag (by intro z;cases z)];exact⟨SeqAt.RcAt.str_none _ _,SeqAt.RcNeAt.str_none _ _⟩
    | int i=>
      have ey:y= .int i:=hy;subst ey;obtain⟨t,rfl⟩:=rv;rw[ag (by intro z;cases z)];exact⟨SeqAt.RcAt.str_int _ _ _ _,SeqAt.RcNeAt.str_int _ _ _ _⟩
    | str i=>
      have ey:y= .str i:=hy;subst ey;obtain⟨t,rfl⟩:=rv;have e:decide (Tx.str j=Tx.str i)=(j==i):=by
       by_cases h:j=i
       · subst h;simp
       · rw[ag (by intro z;cases z;exact h rfl),cq.mpr h]
      rw[e];exact⟨SeqAt.RcAt.str_str _ _ _ _,SeqAt.RcNeAt.str_str _ _ _ _⟩
    | tup es=>
      obtain⟨p,ys,jts,rfl,rfl,_,_,t⟩:=tupA hy rv;rw[ag (by intro z;cases z)];exact⟨SeqAt.RcAt.str_tuple _ _ t hl0,SeqAt.RcNeAt.str_tuple _ _ t hl0⟩
    | lst es=>
      obtain⟨p,ys,jts,rfl,rfl,_,_,t⟩:=lstA hy rv;rw[ag (by intro z;cases z)];exact⟨SeqAt.RcAt.str_list _ _ t hl0,SeqAt.RcNeAt.str_list _ _ t hl0⟩
 induction n with
 | zero=>exact fun d d' A x y u v hn=>base d d' A x y u v (by lia)
 | succ n ih=>
   intro d d' A x y u v hn hx hy ru rv hl;have hl0:A.units<cLine:=by lia
   cases d with
   | non=>exact base _ d' A x y u v (ar _) hx hy ru rv hl
   | int _=>exact base _ d' A x y u v (ar _) hx hy ru rv hl
   | str _=>exact base _ d' A x y u v (ar _) hx hy ru rv hl
   | tup ds=>
     obtain⟨p0,xs,its,rfl,rfl,q1,r1,t1⟩:=tupA hx ru;simp only[Tx.dp] at hn hl;cases d' with
     | non=>
       have ey:y= .non:=hy;subst ey;have ev:v= .none:=rv;subst ev;rw[ag (by intro z;cases z)];exact⟨SeqAt.RcAt.tuple_none t1 hl0,SeqAt.RcNeAt.tuple_none t1 hl0⟩
     | int i=>
       have ey:y= .int i:=hy;subst ey;obtain⟨t,rfl⟩:=rv;rw[ag (by intro z;cases z)];exact⟨SeqAt.RcAt.tuple_int _ _ t1 hl0,SeqAt.RcNeAt.tuple_int _ _ t1 hl0⟩
     | str i=>
       have ey:y= .str i:=hy;subst ey;obtain⟨t,rfl⟩:=rv;rw[ag (by intro z;cases z)];exact⟨SeqAt.RcAt.tuple_str _ _ t1 hl0,SeqAt.RcNeAt.tuple_str _ _ t1 hl0⟩
     | tup es=>
       obtain⟨p,ys,jts,rfl,rfl,q2,r2,t2⟩:=tupA hy rv;obtain⟨l1,l2,he⟩:=KF (A:=A.in1) (s:=s) (n:=min n (pM ds)) q1 q2 r1 r2 (by lia) fun d d' x y u v hd a b c e=>
        oU a b c e (ih d d' A.in1 x y u v (by lia) a b c e (by rw[jj];lia)).1
       have g1:=SeqAt.RcAt.tuples (A:=A) t1 t2 hl0 he;have g2:=SeqAt.RcNeAt.tuples (A:=A) t1 t2 hl0 he;rw[l1,l2,vZ,<-Bw] at g1;rw[l1,l2,vZ,<-Bw] at g2;exact⟨g1,g2⟩
     | lst es=>
       obtain⟨p,ys,jts,rfl,rfl,_,_,t⟩:=lstA hy rv;rw[ag (by intro z;cases z)];exact⟨SeqAt.RcAt.tuple_list t1 t hl0,SeqAt.RcNeAt.tuple_list t1 t hl0⟩
   | lst ds=>
     obtain⟨p0,xs,its,rfl,rfl,q1,r1,t1⟩:=lstA hx ru;simp only[Tx.dp] at hn hl;cases d' with
     | non=>
       have ey:y= .non:=hy;subst ey;have ev:v= .none:=rv;subst ev;rw[ag (by intro z;cases z)];exact⟨SeqAt.RcAt.list_none t1 hl0,SeqAt.RcNeAt.list_none t1 hl0⟩
     | int i=>
       have ey:y= .int i:=hy;subst ey;obtain⟨t,rfl⟩:=rv;rw[ag (by intro z;cases z)];exact⟨SeqAt.RcAt.list_int _ _ t1 hl0,SeqAt.RcNeAt.list_int _ _ t1 hl0⟩
     | str i=>
       have ey:y= .str i:=hy;subst ey;obtain⟨t,rfl⟩:=rv;rw[ag (by intro z;cases z)];exact⟨SeqAt.RcAt.list_str _ _ t1 hl0,SeqAt.RcNeAt.list_str _ _ t1 hl0⟩
     | tup es=>
       obtain⟨p,ys,jts,rfl,rfl,_,_,t⟩:=tupA hy rv;rw[ag (by intro z;cases z)];exact⟨SeqAt.RcAt.list_tuple t1 t hl0,SeqAt.RcNeAt.list_tuple t1 t hl0⟩
     | lst es=>
       obtain⟨p,ys,jts,rfl,rfl,q2,r2,t2⟩:=lstA hy rv;obtain⟨l1,l2,he⟩:=KF (A:=A.in1) (s:=s) (n:=min n (pM ds)) q1 q2 r1 r2 (by lia) fun d d' x y u v hd a b c e=>
        oU a b c e (ih d d' A.in1 x y u v (by lia) a b c e (by rw[jj];lia)).1
       by_cases hz:ds.length=es.length
       · have g1:=SeqAt.RcAt.lists (A:=A) t1 t2 (by rw[l1,l2,hz]) hl0 he;have g2:=SeqAt.RcNeAt.lists (A:=A) t1 t2 (by rw[l1,l2,hz]) hl0 he;have e:(List.range its.toArray.size).all (fun j=>decide (ds[j]? =es[j]?))=decide (Tx.lst ds=Tx.lst es):=by
          have:=vZ ds es;rw[hz,Nat.min_self,beq_self_eq_true,Bool.and_true] at this;rw[l1,hz,this,GU]
         rw[e] at g1;rw[e] at g2;exact⟨g1,g2⟩
       · have hz':(its.toArray.size !=jts.toArray.size)=true:=by rw[l1,l2];simp[hz]
         rw[ag (by intro z;cases z;exact hz rfl)];exact⟨SeqAt.RcAt.lists_lengths t1 t2 hz' hl0,SeqAt.RcNeAt.lists_lengths t1 t2 hz' hl0⟩
def NL{X:Cx}{pins:List (Addr × Obj)}{σ:St}{H:Hp}{s:Shared}(I:Inv X pins σ H s){d d':Tx}{A:Around}{x y:V}{u v:Value}(hx:Xa H d x)(hy:Xa H d' y)(ru:RelV x u)(rv:RelV y v)(hl:A.units+d.dp<cLine):SeqAt.EqAt A s u v (decide (d=d')):=oU hx hy ru rv (Hz I d.dp d d' A x y u v (ar _) hx hy ru rv hl).1
end
section
def ML:R2:=fun x y H Q=>∃k k':Tx,Xa H k x/\Xa H k' y/\k.dp<=60/\Q (.bl (decide (k=k'))) H
def DK(hu:X.A.units+64<cLine):jO X (compareOp .Eq) ML:=by
 intro pins s σ H x y v u Q I rx ry h;obtain⟨k,k',h1,h2,hd,q⟩:=h;exact(Hz I k.dp k k' X.A x y v u (ar _) h1 h2 rx ry (by lia)).1 _ _ _ _ ⟨.bl _,H,I,rfl,q⟩
end
noncomputable def Kd.tx:Kd->Tx
 | .nm x=> .str x
 | .two a b=> .tup [.str "both",a.tx,b.tx]
 | .som r c=> .tup [.str "some",.str r,c.tx]
theorem IsK.xa:∀{k:Kd} {v:V},IsK H k v->Xa H k.tx v
 | .nm _,_,h=>h
 | .two _ _,_,⟨p,x,y,e,h,ha,hb⟩=>⟨p,_,e,h,_,_,rfl,rfl,_,_,rfl,ha.xa,_,_,rfl,hb.xa,rfl⟩
 | .som _ _,_,⟨p,y,e,h,hc⟩=>⟨p,_,e,h,_,_,rfl,rfl,_,_,rfl,rfl,_,_,rfl,hc.xa,rfl⟩
theorem Kd.tx_inj:∀{a b:Kd},a.tx=b.tx->a=b
 | .nm _,.nm _,h=>by injection h with h;rw[h]
 | .nm _,.two _ _,h=>by cases h
 | .nm _,.som _ _,h=>by cases h
 | .two _ _,.nm _,h=>by cases h
 | .som _ _,.nm _,h=>by cases h
 | .two _ _,.two _ _,h=>by
   injection h with h
   injection h with _ h
   injection h with h1 h
   injection h with h2 _
   rw[Kd.tx_inj h1,Kd.tx_inj h2]
 | .two _ _,.som _ _,h=>by
   injection h with h
   injection h with h _
   injection h with h
   exact absurd h nP
 | .som _ _,.two _ _,h=>by
   injection h with h
   injection h with h _
   injection h with h
   exact absurd h.symm nP
 | .som _ _,.som _ _,h=>by
   injection h with h
   injection h with _ h
   injection h with h1 h
   injection h with h2 _
   injection h1 with h1
   rw[h1,Kd.tx_inj h2]
theorem Kd.tx_dp:∀k:Kd,k.tx.dp=k.dep
 | .nm _=>rfl
 | .two a b=>by
   show 1+max 0 (max a.tx.dp (max b.tx.dp 0))=1+max a.dep b.dep;rw[tx_dp a,tx_dp b];lia
 | .som _ c=>by
   show 1+max 0 (max 0 (max c.tx.dp 0))=1+c.dep;rw[tx_dp c];lia
open PySem
open PySem PyProof.Rows
section
end
section
end
section
variable {prog:Program}{w:World}{κ:Type}[DecidableEq κ]{knd:KeyKind prog w κ}{A:Around}{E:Value->Shared->Prop}{s:Shared}
end
section
variable {prog:Program}{w:World}{κ:Type}[DecidableEq κ]{knd:KeyKind prog w κ}{A:Around}{E:Value->Shared->Prop}{s:Shared}
end
section
variable {prog:Program}{w:World}{κ:Type}[DecidableEq κ]{knd:KeyKind prog w κ}{A:Around}{E:Value->Shared->Prop}{s:Shared}
end
section
variable {prog:Program}{w:World}{κ:Type}[DecidableEq κ]{knd:KeyKind prog w κ}{A:Around}{E:Value->Shared->Prop}{s:Shared}
end
section
variable {prog:Program}{w:World}{κ:Type}[DecidableEq κ]{knd:KeyKind prog w κ}{A:Around}{E:Value->Shared->Prop}{s:Shared}
end
section
end
section
end
section
end
def F6(hK:X.K=K')(hc:X.calm=true)(hN:X.N.Nodup)(hi:X.N[i]? =some x)(hj:X.N[j]? =some y)(lx:X.env.scope.names.lookup x=some .local)(ly:X.env.scope.names.lookup y=some .local):PG X (.Tuple [.Name x p1,.Name y p2] k pos) (Lk K' 2 (pJ (gW i) (pJ (gW j) GP))):=by
 subst hK;exact eY hc (bG (qk hN hi (.inl lx) (.inr lx)) (bG (qk hN hj (.inl ly) (.inr ly)) dX))
section
end
section
def onV.of(e:σ[i]? =some (some v))(q:Q v):onV σ i Q:=by unfold onV;rw[e];exact q
end
section
end
section
variable {prog:Program}{w:World}{κ:Type}[DecidableEq κ]{knd:KeyKind prog w κ}
end
section
end
section
end
section
def Dm:V->List V->Hp->VK->Prop:=fun x vs H Q=>∃z,x= .str z/\vs=[]/\Q (.bl (Txt.isupper z)) H
def zw:L7 X "str.isupper" Dm:=by
 intro pins s σ H x xs v us Q I rx rs h;obtain⟨z,rfl,rfl,q⟩:=h;obtain⟨t,rfl⟩:=rx;cases rs;exact SC.isupper ⟨.bl (Txt.isupper z),H,I,rfl,q⟩
end
section
end
section
end
noncomputable def qD(e:Expr)(depth:Nat)(it acc:Value)(env:Env)(p:Pos)(target:Expr)(ifs:List Expr)(B:Sem Fin->Sem Fin):Sem Fin:=do
 standAt p
 match<-pyNext it with
 | none=>pure (.done .next)
 | some v=>
   letOwnedTupleGo target it v
   assign target env v
   let mut ok:=true
   for c in ifs do
    if ok then ok<-isTrue c env (eval c env)
   if ok then B (again (.compLoop e depth it acc env)) else again (.compLoop e depth it acc env)
noncomputable def HZ(kx vx:Expr)(D:Addr)(env:Env):Sem Unit:=do
 let kv<-eval kx env
 let vv<-holding [kv] (eval vx env)
 standAt {kx.pos with endLine:=vx.pos.endLine,endCol:=vx.pos.endCol}
 holding [kv,vv] (dictSet D kv vv)
noncomputable def ER(kx vx:Expr)(D:Addr)(env:Env)(k:Sem Fin):Sem Fin:=do
 HZ kx vx D env
 k
noncomputable def zK(e:Expr)(iter2:Expr)(acc:Value)(env:Env)(k:Sem Fin):Sem Fin:=do
 let x<-eval iter2 env
 standAt iter2.pos
 let x<-foldedSetIterable iter2 env x
 let _<-runOwn (.compStart e 1 (<-holding [x] (pyIter x)) acc env) env
 k
def Kr(kx vx tg iter:Expr)(ifs:List Expr)(tg2 iter2:Expr)(ifs2:List Expr)(scope:Scope)(pos:Pos)(it:Value)(D:Addr)(env:Env):compTurn (.DictComp kx vx [⟨tg,iter,ifs,0⟩,⟨tg2,iter2,ifs2,0⟩] scope pos) 0 it (.ref D) env=qD (.DictComp kx vx [⟨tg,iter,ifs,0⟩,⟨tg2,iter2,ifs2,0⟩] scope pos) 0 it (.ref D) env iter.pos tg ifs (zK (.DictComp kx vx [⟨tg,iter,ifs,0⟩,⟨tg2,iter2,ifs2,0⟩] scope pos) iter2 (.ref D) env):=by rfl
def Kq(kx vx tg iter:Expr)(ifs:List Expr)(tg2 iter2:Expr)(ifs2:List Expr)(scope:Scope)(pos:Pos)(it:Value)(D:Addr)(env:Env):compTurn (.DictComp kx vx [⟨tg,iter,ifs,0⟩,⟨tg2,iter2,ifs2,0⟩] scope pos) 1 it (.ref D) env=qD (.DictComp kx vx [⟨tg,iter,ifs,0⟩,⟨tg2,iter2,ifs2,0⟩] scope pos) 1 it (.ref D) env iter2.pos tg2 ifs2 (ER kx vx D env):=by rfl
theorem GB{prog:Program}{w:World}{A:Around}{R:Result->Shared->Prop}{s:Shared}{kx vx target:Expr}{gs:List Comprehension}{scope:Scope}{pos:Pos}{depth:Nat}{p:Pos}{ifs:List Expr}{it acc:Value}{env:Env}{B:Sem Fin->Sem Fin}(ht:compTurn (.DictComp kx vx gs scope pos) depth it acc env=qD (.DictComp kx vx gs scope pos) depth it acc env p target ifs B)(I:Nat->Shared->Prop)(turn:∀n s,I n s->wpAny (model prog w) A (pyNext it) (fun r s₁=>match r with
 | none=>R (.ok .next) s₁
 | some v=>wpAny (model prog w) A (letOwnedTupleGo target it v) (fun _ s₁'=>wpAny (model prog w) A (assign target env v) (fun _ s₂=>
  wpAny (model prog w) A (forIn ifs true fun c r=>if r=true then do let ok<-isTrue c env (eval c env);pure (ForInStep.yield ok) else pure (ForInStep.yield r)) (fun ok s₃=>
   if ok=true then(∀(k:Sem Fin) (Q:Fin->Shared->Prop),(∀s₆,(∃m,m<n/\I m s₆)->wpAny (model prog w) A k Q (fun _ _=>False) s₆)->wpAny (model prog w) A (B k) Q (fun _ _=>False) s₃)
   else ∃m,m<n/\I m s₃) (fun _ _=>False) s₂) (fun _ _=>False) s₁') (fun _ _=>False) s₁) (fun _ _=>False) s) (n:Nat) (h:I n s):codeAny (model prog w) A (.compLoop (.DictComp kx vx gs scope pos) depth it acc env) R s:=by
 refine codeAny_loop rfl I (fun n s hI=> ?_) n h;show wpAny _ A ((compTurn (.DictComp kx vx gs scope pos) depth it acc env).onRaise (fun x=>do noteFrame x env;theTreesLotGoes x)) _ _ s;refine wpAny_noted ?_;refine wpAny_noRaise ?_;rw[ht];unfold qD;refine aa (fk (aa (cJ (turn n s hI) (fun r s₁ h₁=> ?_) fun _ _ h'=>h')));cases r with
 | none=>exact aK h₁
 | some v=>
   refine aa (cJ h₁ (fun _ s₁' h₁'=> ?_) fun _ _ h'=>h');refine aa (cJ h₁' (fun _ s₂ h₂=>aa (cJ h₂ (fun ok s₃ h₃=> ?_) fun _ _ h'=>h')) fun _ _ h'=>h');cases ok with
   | false=>exact aK ⟨rfl,h₃⟩
   | true=>exact h₃ _ _ fun s₆ h₆=>aK ⟨rfl,h₆⟩
abbrev TB:=St->Hp->(St->Hp->Prop)->Prop
def K8(J:It)(g:TG)(tc:TT)(tb:TB)(Fin:St->Hp->Prop)(σ0:St)(H0:Hp):Prop:=∃W:Nat->Nat->St->Hp->Prop,(∃m,W 0 m σ0 H0)/\∀i m σ H,W i m σ H->(J.stop i H/\Fin σ H)\/(J.go i H/\∃N:St->Hp->Prop,(∀σ' H',N σ' H'->∃m',m'<m/\W (i+1) m' σ' H')/\∀x H1,J.yld i H x H1->g x σ H1 fun σ2 H2=>tc σ2 H2 fun b H3=>
   if b=true then tb σ2 H3 N else N σ2 H3)
def HN{Fin:St->Hp->Prop}(n:Nat)(Pv:Nat->St->Hp->Prop)(h0:Pv 0 σ0 H0)(hend:∀σ H,Pv n σ H->J.stop n H/\Fin σ H)(hs:∀i σ H,i<n->Pv i σ H->J.go i H/\∀x H1,J.yld i H x H1->g x σ H1 fun σ2 H2=>tc σ2 H2 fun b H3=>
 if b=true then tb σ2 H3 (Pv (i+1)) else Pv (i+1) σ2 H3):K8 J g tc tb Fin σ0 H0:=by
 refine⟨fun i m σ H=>m=n - i/\i<=n/\Pv i σ H,⟨n,by simp,av _,h0⟩,?_⟩;rintro i m σ H ⟨rfl,hi,p⟩;by_cases hlt:i<n
 · obtain⟨q1,q2⟩:=hs i σ H hlt p;exact .inr ⟨q1,Pv (i+1),fun σ' H' p'=>⟨n - (i+1),by lia,rfl,hlt,p'⟩,q2⟩
 · have e:i=n:=by lia
   subst e;exact .inl (hend σ H p)
def Ah(tk tv:TE)(D:Addr):TB:=fun σ H N=>tk σ H fun y H4=>tv σ H4 fun v H5=>∃kvs k,y=kV k/\H5 D=some (.dK kvs)/\kvs.length<sizeLine/\N σ (upd H5 D (.dK (bZ kvs k v)))
def Ms(wi:TI)(g:TG)(tc:TT)(tb:TB):TB:=fun σ H N=>wi σ H fun J H1=>K8 J g tc tb N σ H1
def FF(wi:TI)(g:TG)(tc:TT)(wi2:TI)(g2:TG)(tc2:TT)(tk tv:TE)(nl:Nat)(caps:List Nat):TE:=fun σ H Q=>
 wi σ H fun J H1=>∀D,H1 D=none->K8 J g tc (Ms wi2 g2 tc2 (Ah tk tv D)) (fun _ H'=>Q (.ref D) H') (Al nl caps σ) (upd H1 D (.dK []))
def PB(X:Cx)(B:Sem Fin->Sem Fin)(tb:TB):Prop:=∀(pins:List (Addr × Obj)) (s:Shared) (σ:St) (H:Hp) (N:St->Hp->Prop),Inv X pins σ H s->tb σ H N->∀(k:Sem Fin) (Q:Fin->Shared->Prop),(∀s' σ' H',Inv X pins σ' H' s'->N σ' H'->wpAny (model X.prog X.w) X.A k Q X.xe s')->wpAny (model X.prog X.w) X.A (B k) Q X.xe s
section
def Eh{σ:St}{Fin:St->Hp->Prop}(hx:X.xe=fun _ _=>False)(hturn:compTurn (.DictComp kx vx gs scope pos) depth (.ref it) acc X.env=qD (.DictComp kx vx gs scope pos) depth (.ref it) acc X.env p tg ifs B)(hc:X.calm=true)(hB:PB X B tb)(I:Inv X pins σ H s)(T:yl X.prog X.w X.K tg J fp it tn)(st:tn 0 s.heap)(hf:∀b∈fp,lF X pins H b)(hg:PG X tg g)(ht:Fg X ifs tc)(h:K8 J g tc tb Fin σ H)(hR:∀σ' H' s',Inv X pins σ' H' s'->Fin σ' H'->R (.ok .next) s'):codeAny (model X.prog X.w) X.A (.compLoop (.DictComp kx vx gs scope pos) depth (.ref it) acc X.env) R s:=by
 obtain⟨W,⟨m0,w0⟩,turn⟩:=h;have stat:∀{H':Hp},(∀b∈fp,H' b=none)->∀b∈fp,lF X pins H' b:=fun hn b hb=>⟨hn b hb,(hf b hb).2⟩;refine GB hturn (fun n s'=>∃i σ' H',Inv X pins σ' H' s'/\tn i s'.heap/\(∀b∈fp,H' b=none)/\W i n σ' H') ?_ m0 ⟨0,σ,H,I,st,fun b hb=>(hf b hb).1,w0⟩;rintro n s3 ⟨i,σ3,H3,I3,st3,fr3,w3⟩;rw[<-hx];rcases turn i n σ3 H3 w3 with⟨stop,qn⟩ | ⟨go,Nn,hNn,step⟩
 · refine cZ (T.done X rfl rfl rfl hc i pins s3 σ3 H3 _ I3 (stat fr3) st3 stop) fun r s4 ⟨hr,I4⟩=> ?_;subst hr;exact hR σ3 H3 s4 I4 qn
 · refine cZ (T.item X rfl rfl rfl hc i pins s3 σ3 H3 _ I3 (stat fr3) st3 go) fun r s4 ⟨u,hr,h4⟩=> ?_;subst hr;refine cZ h4 fun _ s5 ⟨x,H5,I5,r5,y5,st5,fr5⟩=> ?_;have I5':=I5.pinned (stat fr5) (T.obj _ _ st5);have again:∀{σ7:St} {H7:Hp} {s7:Shared},Inv X (pins++mj fp s5.heap) σ7 H7 s7->Nn σ7 H7->
    ∃m,m<n/\∃i σ' H',Inv X pins σ' H' s7/\tn i s7.heap/\(∀b∈fp,H' b=none)/\W i m σ' H':=fun {σ7 H7 s7} I7 n7=>by
    obtain⟨m',hm,w7⟩:=hNn σ7 H7 n7;refine⟨m',hm,i+1,σ7,H7,I7.unpinned,T.keep _ _ _ st5 fun b hb o e=>(I7.pin (b,o) (aR _ (aR _ (gC hb e)))).1,fun b hb=> ?_,w7⟩;obtain⟨o,e,d⟩:=T.obj _ _ st5 b hb;exact(I7.pin (b,o) (aR _ (aR _ (gC hb e)))).2.1
   refine cZ (hg _ s5 σ3 H5 x u _ I5' r5 (step x H5 y5)) fun _ s6 ⟨σ6,H6,I6,q6⟩=> ?_;refine cZ (ht _ s6 σ6 H6 _ I6 q6) fun b s7 ⟨H7,I7,q7⟩=> ?_;cases b with
   | false=>exact again I7 q7
   | true=>
     intro k Q hk;have hB':=hB _ s7 σ6 H7 _ I7 q7 k Q;rw[hx] at hB';rw[hx] at hk;rw[hx];exact hB' fun s8 σ8 H8 I8 q8=>hk s8 (again I8 q8)
def IU(hk:PE X kx tk)(hv:PE X vx tv):PB X (ER kx vx D X.env) (Ah tk tv D):=by
 intro pins s σ H N I h k Q hq;unfold ER HZ;refine aa (aa (cZ (hk pins s σ H _ I h) fun u8 s8 ⟨v8,H8,I8,r8,q8⟩=>aa (dW (cZ (hv pins s8 σ H8 _ I8 q8) fun u9 s9 ⟨v9,H9,I9,r9,kvs,kk,e9,f9,z9,q9⟩=> ?_))));subst e9;exact aa (fk (dW (Ct I9 f9 z9 r8 r9 fun s' I'=>hq s' σ _ I' q9)))
def Iy(h0:codeAny (model prog w) A (.compLoop (.DictComp kx vx [⟨tg,iter,ifs,0⟩,⟨tg2,iter2,ifs2,0⟩] scope pos) 1 it acc env) R s)(h:wpAny (model prog w) A (pyIter it) (fun it' s'=>codeAny (model prog w) A (.compLoop (.DictComp kx vx [⟨tg,iter,ifs,0⟩,⟨tg2,iter2,ifs2,0⟩] scope pos) 1 it' acc env) R s') (notedBy (model prog w) A env fun x s'=>R (.error x) s') s):codeAny (model prog w) A (.compStart (.DictComp kx vx [⟨tg,iter,ifs,0⟩,⟨tg2,iter2,ifs2,0⟩] scope pos) 1 it acc env) R s:=by
 refine codeAny_of_tree ?_;show wpAny _ A ((compStart (.DictComp kx vx [⟨tg,iter,ifs,0⟩,⟨tg2,iter2,ifs2,0⟩] scope pos) 1 it acc env).onRaise (fun x=>do noteFrame x env;standAt theWindowsPlace)) _ _ s;refine wpAny_notedAt ?_;unfold compStart;show wpAny _ A (ask>>=_) _ _ s;refine aa (wpAny_askSetting (wpAny_ite ?_))
 split
 · first
    | exact aa (aK (aK (And.intro rfl h0)))
    | exact aK (And.intro rfl h0)
 · first
    | exact aa (iX (aa (fk (aa (cJ h (fun it' s' h'=>aK (And.intro rfl h')) fun _ _ x=>x)))))
    | (refine aa (iX ?_);show wpAny _ _ (standAt iter2.pos>>=_) _ _ s;exact aa (fk (aa (cJ h (fun it' s' h'=>aK (And.intro rfl h')) fun _ _ x=>x))))
def Ga(hx:X.xe=fun _ _=>False)(hc:X.calm=true)(hi2:PI X tg2 iter2 wi2)(hs2:∀x,foldedSetIterable iter2 X.env x=pure x)(hg2:PG X tg2 g2)(ht2:Fg X ifs2 tc2)(hk:PE X kx tk)(hv:PE X vx tv):PB X (zK (.DictComp kx vx [⟨tg,iter,ifs,0⟩,⟨tg2,iter2,ifs2,0⟩] scope pos) iter2 (.ref D) X.env) (Ms wi2 g2 tc2 (Ah tk tv D)):=by
 intro pins s σ H N I h k Q hq;unfold zK;refine aa (cZ (hi2 pins s σ H _ I h) fun v s1 h1=>aa (fk ?_));rw[hs2];refine aa (aK (aa (dW (cZ h1 fun itv s2 h2=> ?_))));obtain⟨it,fp,tn,J,H2,e,I2,T,st2,f2,q⟩:=h2;subst e;refine aa (wpAny_runOwn ?_);have loop:=Eh (R:=fun r s'=>match r with | .ok f=>wpAny (model X.prog X.w) X.A k Q X.xe s' | .error e=>cameBackBy (model X.prog X.w) X.A X.env X.xe e s') hx (Kq kx vx tg iter ifs tg2 iter2 ifs2 scope pos (.ref it) D X.env) hc (IU hk hv) I2 T st2 f2 hg2 ht2 q
  fun σ' H' s' I' q'=>hq s' σ' H' I' q'
 exact Iy loop (T.self _ 0 _ _ _ st2 loop)
def vT{cR:List Str}{σ:St}{RR:Value->Addr->Result->Shared->Prop}{Fin:Hp->Prop}(hc:X.calm=true)(hb:kB scope X.env.scope=true)(hcap:gu X.N scope cs caps=true)(I:Inv X pins σ H s)(T:yl X.prog X.w X.K tg J fp it tn)(st:tn 0 s.heap)(hf:∀b∈fp,lF X pins H b)(hg:PG (iT X scope (cR++cs) s H fp) tg g)(ht:Fg (iT X scope (cR++cs) s H fp) ifs tc)(hi2:PI (iT X scope (cR++cs) s H fp) tg2 iter2 wi2)(hs2:∀x,foldedSetIterable iter2 (iT X scope (cR++cs) s H fp).env x=pure x)(hg2:PG (iT X scope (cR++cs) s H fp) tg2 g2)(ht2:Fg (iT X scope (cR++cs) s H fp) ifs2 tc2)(hk:PE (iT X scope (cR++cs) s H fp) kx tk)(hv:PE (iT X scope (cR++cs) s H fp) vx tv)(h:K8 J g tc (Ms wi2 g2 tc2 (Ah tk tv s.heap.objs.size)) (fun _ H'=>Fin H') (Al cR.length caps σ) (upd H s.heap.objs.size (.dK [])))(hRR:∀σ' H' s',Inv (iT X scope (cR++cs) s H fp) [] σ' H' s'->Fin H'->RR (.ref s.heap.objs.size) (s.heap.objs.size+1) (.ok .next) s'):wpAny (model X.prog X.w) X.A newDict (fun acc s₃=>wpAny (model X.prog X.w) X.A (newFunctionEnv scope X.env.globals (iC X.env.cells scope.names []) [] X.env.qual none .none (some X.env)) (fun cenv s₄=>
  codeAny (model X.prog X.w) X.A (.compStart (.DictComp kx vx [⟨tg,iter,ifs,0⟩,⟨tg2,iter2,ifs2,0⟩] scope pos) 0 (.ref it) acc {cenv with scope:=relabel scope X.env}) (RR acc cenv.locals) s₄) E s₃) E s:=by
 have hcell:∀y∈scope.names,y.2≠ .cell:=fun y hy=>(h_ hb y hy).1;have hkind:=jk hb;have hlt:∀b∈fp,b<s.heap.objs.size:=fun b hbm=>by
  obtain⟨o,e,_⟩:=T.obj 0 _ st b hbm;exact aN e
 refine dC (Md hcell (by intro y hy;simp at hy) (fun h₁ hns₁ hsb₁=> ?_) hkind);dsimp only at hns₁ hsb₁⊢;generalize hH2:s.heap.push {cls:= .type "dict",dict:=none,data:= .dict #[]}=H2 at hns₁ hsb₁⊢;have hC:H2.objs.size=s.heap.objs.size+1:=by rw[<-hH2,dZ]
 rw[hC] at hns₁ hsb₁⊢;have hDC:s.heap.objs.size≠s.heap.objs.size+1:=bI (jm _);have below:∀b,b<s.heap.objs.size->b≠s.heap.objs.size+1:=fun b hb=>bI (dD hb);have old:∀b o,s.heap.get? b=some o->h₁.get? b=some o:=fun b o e=>hsb₁.extBut b o (below b (aN e)) (aC _ (hH2 ▸ aC _ e));have hD:h₁.get? s.heap.objs.size=some {cls:= .type "dict",dict:=none,data:= .dict #[]}:=
  hsb₁.extBut _ _ hDC (aC _ (hH2 ▸ a_ _ rfl))
 have frC:H (s.heap.objs.size+1)=none:=I.hok.fresh (bD _);have frD:H s.heap.objs.size=none:=I.hok.fresh (ar _);have J0:Inv (iT X scope (cR++cs) s H fp) [] (Al cR.length caps σ) (upd H s.heap.objs.size (.dK [])) {s with heap:=h₁,toks:=s.toks+([]:List (Str × Value)).length}:=by
  refine⟨vU I hb hf hlt,rfl,I.bare,Un.laid old (ar _) frD,⟨_,hns₁,fun i x v e1 e2 e3=> ?_⟩,fun x c e=> ?_,?_,fun x c e=> ?_,fun p hp=>absurd (show p∈([]:List (Addr × Obj)) from hp) (by simp),?_,?_⟩
  · have e1':(cR++cs)[i]? =some x:=e1;have hi:cR.length<=i:=by
     rcases eB i cR.length with hi | hi
     · unfold Al at e2;rw[bQ (by simpa using hi),oV] at e2
       split at e2<;>cases e2
     · exact hi
    rw[cy hi] at e1';obtain⟨k,q1,q2,q3⟩:=rW hcap e1';unfold Al at e2;rw[cy (by simpa using hi),dQ,aH,q1] at e2;have e2':(σ[k]?).getD none=some v:=by simpa using e2
    have e4:σ[k]? =some (some v):=by
     cases z:σ[k]? with
     | none=>rw[z] at e2';cases e2'
     | some o=>rw[z] at e2';simp at e2';rw[e2']
    have hfr:=(h_ hb _ (cU q3)).2.2 rfl;obtain⟨m,hn,hl⟩:=I.loc;obtain⟨u,r,l⟩:=hl k x v q2 e4 (hfr.elim (fun z=> .inr (.inl z)) fun z=> .inr (.inr z));refine⟨u,r,.inr ⟨?_,?_⟩⟩
    · exact fN q3
    · rcases l with⟨k1,_⟩ | ⟨_,c,ec,z⟩
      · exfalso
        have k1':X.env.scope.names.lookup x=some .local:=k1;rcases hfr with z | z<;>(rw[k1'] at z;cases z)
      · obtain⟨c',ec'⟩:=kX (cells:=X.env.cells) scope.names [] (cU q3);have q:=(capOf_some scope.names [] (dI I hb) ec').resolve_left (by simp);rw[ec] at q;cases q;obtain⟨o,ho,hd⟩:=z;exact⟨c,ec',o,old _ _ ho,hd⟩
  · have q:=(capOf_some scope.names [] (dI I hb) e).resolve_left (by simp);obtain⟨v,o,ho,hd⟩:=I.cell x c q;exact⟨v,o,old _ _ ho,hd⟩
  · show upd H s.heap.objs.size (.dK []) (s.heap.objs.size+1)=none;rw[aB (br hDC)];exact frC
  · have q:=(capOf_some scope.names [] (dI I hb) e).resolve_left (by simp);obtain⟨v,o,ho,hd⟩:=I.cell x c q;rw[aB (bI (aN ho))];exact I.freeC x c q
  · refine I.hok.laid old (ar _) ?_;have hb':=I.big;obtain⟨z1,z2,z3⟩:=yc (P:=X.prog) (w:=X.w) (H:=upd H s.heap.objs.size (.dK [])) s.heap hb';obtain⟨vs,rel,o,es,ep,ho,hr⟩:=z3;rw[a_ _ rfl] at ho;cases ho;exact⟨z1,z2,vs,rel,_,es,ep,hD,hr⟩
  · show(Al cR.length caps σ).length=(cR++cs).length;unfold Al;rw[ak,dQ,ae,ak,rV hcap]
 have fr0:∀b∈fp,upd H s.heap.objs.size (.dK []) b=none:=fun b hbm=>by rw[aB (bI (hlt b hbm))];exact(hf b hbm).1
 have fp0:∀b∈fp,lF (iT X scope (cR++cs) s H fp) [] (upd H s.heap.objs.size (.dK [])) b:=fun b hbm=>by
  have q:=(vU (N:=cR++cs) I hb hf hlt);refine⟨fr0 b hbm,(q.exf b hbm).1,q.exfs b hbm,.inl hbm,(q.exf b hbm).2,fun p hp=>absurd (show p∈([]:List (Addr × Obj)) from hp) (by simp)⟩
 have st0:=T.keep _ _ _ st fun b _ o e=>old b o e;have loop:∀s₃:Shared,s₃={s with heap:=h₁,toks:=s.toks+([]:List (Str × Value)).length}->
  codeAny (model X.prog X.w) X.A (.compLoop (.DictComp kx vx [⟨tg,iter,ifs,0⟩,⟨tg2,iter2,ifs2,0⟩] scope pos) 0 (.ref it) (.ref s.heap.objs.size) (iT X scope (cR++cs) s H fp).env) (RR (.ref s.heap.objs.size) (s.heap.objs.size+1)) s₃:=by
  rintro s₃ rfl;refine Eh (X:=iT X scope (cR++cs) s H fp) rfl (Kr ..) hc (Ga rfl hc hi2 hs2 hg2 ht2 hk hv) J0 T st0 fp0 hg ht h ?_;intro σ' H' s' I' q';exact hRR σ' H' s' I' q'
 exact codeAny_compStart_dict (loop _ rfl) (T.self _ 0 _ _ _ st0 (loop _ rfl))
def BU{X:Cx}{tg iter kx vx tg2 iter2:Expr}{ifs ifs2:List Expr}{scope:Scope}{pos:Pos}{wi wi2:TI}{g g2:TG}{tc tc2:TT}{tk tv:TE}(cR cs:List Str)(caps:List Nat)(hc:X.calm=true)(hi:PI X tg iter wi)(hg:∀s H fp,PG (iT X scope (cR++cs) s H fp) tg g)(ht:∀s H fp,Fg (iT X scope (cR++cs) s H fp) ifs tc)(hi2:∀s H fp,PI (iT X scope (cR++cs) s H fp) tg2 iter2 wi2)(hg2:∀s H fp,PG (iT X scope (cR++cs) s H fp) tg2 g2)(ht2:∀s H fp,Fg (iT X scope (cR++cs) s H fp) ifs2 tc2)(hk:∀s H fp,PE (iT X scope (cR++cs) s H fp) kx tk)(hv:∀s H fp,PE (iT X scope (cR++cs) s H fp) vx tv)(hb:kB scope X.env.scope=true:=by rfl)(hcap:gu X.N scope cs caps=true:=by rfl)(hs:∀x,foldedSetIterable iter X.env x=pure x:=by intro _;rfl)(hs2:∀s H fp x,foldedSetIterable iter2 (iT X scope (cR++cs) s H fp).env x=pure x:=by intro _ _ _ _;rfl):PE X (.DictComp kx vx [⟨tg,iter,ifs,0⟩,⟨tg2,iter2,ifs2,0⟩] scope pos) (FF wi g tc wi2 g2 tc2 tk tv cR.length caps):=by
 intro pins s σ H Q I h;rw[arm_eval_DictComp];refine mO (use:=none) rfl hs (ku (dI I hb)) (jk hb) (fun y hy=>(h_ hb y hy).2.1) (cZ (hi pins s σ H _ I h) fun v s1 h1=>cZ h1 fun itv s2 h2=> ?_);obtain⟨it,fp,tn,J,H2,e,I2,T,st2,f2,q⟩:=h2;subst e;refine vT (RR:=fun acc C=>compPost (model X.prog X.w) X.A X.xe none (EP X pins σ Q) acc C) (cR:=cR) (cs:=cs) (Fin:=fun H'=>Q (.ref s2.heap.objs.size) H') hc hb hcap I2 T st2 f2 (hg _ _ _) (ht _ _ _) (hi2 _ _ _) (hs2 _ _ _) (hg2 _ _ _) (ht2 _ _ _) (hk _ _ _) (hv _ _ _) (q _ (I2.hok.fresh (ar _))) ?_;intro σ' H' s' J' q';obtain⟨m,hn,_⟩:=J'.loc;refine⟨m,hn,fun h' hs'=> ?_⟩;have I3:=rQ I2 f2 J';have fr:H' (s2.heap.objs.size+1)=none:=J'.free;refine⟨.ref s2.heap.objs.size,H',I3.turned (t':=s'.toks) (it:=s2.heap.objs.size+1) (fun b o hb e=>(hs'.2 b hb).trans e) fr ?_ (.inr (ai I2.sz (bD _))) ?_ ?_,rfl,q'⟩
 · exact iE (dD I2.lt)
 · intro x c e z;obtain⟨v,hv⟩:=I2.cell x c e;have h1:s2.heap.objs.size+1<s2.heap.objs.size:=z ▸ hv.lt;exact absurd h1 (pU.mpr (bD _))
 · intro p hp z;have h1:s2.heap.objs.size+1<s2.heap.objs.size:=z ▸ aN (I2.pin p hp).1;exact absurd h1 (pU.mpr (bD _))
end
section
end
section
end
section
end
section
end
section
end
section
end
section
end
section
end
section
end
section
end
section
end
section
end
section
end
section
end
section
end
section
def EN{X:Cx}{pins:List (Addr × Obj)}{s:Shared}{σ:St}{H:Hp}(I:Inv X pins σ H s){xs:List V}{its:List Value}{ds:List Tx}{k:Tx}{x:V}{v:Value}(hL:Xas H ds xs)(rv:Vals xs its)(hk:Xa H k x)(rx:RelV x v)(hd:∀d∈ds,d.dp<=60)(hu:X.A.units+64<cLine):∃e:Value->Bool,(∀y,y∈its.toArray->SeqAt.EqAt X.A.in1.in1 s y v (e y)/\SeqAt.EqAt X.A.in1 s y v (e y))/\∀(i:Nat) (y:Value),its[i]? =some y->∃d,ds[i]? =some d/\e y=decide (d=k):=by
 classical
 let e:Value->Bool:=fun u=>decide (∃x',RelV x' u/\Xa H k x')
 have at_:∀(i:Nat) (y:Value),its[i]? =some y->∃x' d,RelV x' y/\Xa H d x'/\ds[i]? =some d:=fun i y hy=>by
  have hi:i<xs.length:=by rw[rv.length];exact(aU.mp hy).1
  obtain⟨u',hu',ru'⟩:=rv.get (aq hi);rw[hy] at hu';cases hu';obtain⟨d,hd',hx'⟩:=Xas.get hL (aq hi);exact⟨_,d,ru',hx',hd'⟩
 have he:∀{x' d u},RelV x' u->Xa H d x'->e u=decide (d=k):=fun {x' d u} r i=>by
  show decide (∃x',RelV x' u/\Xa H k x')=_;by_cases c:d=k
  · subst c;rw[ah ⟨x',r,i⟩,ah rfl]
  · rw[ag c,ag];rintro⟨x2,r2,i2⟩;rw[RelV.inj r2 r] at i2;exact c (Xa.inj i i2)
 refine⟨e,fun y hy=> ?_,fun i y hy=> ?_⟩
 · obtain⟨i,hi,ei⟩:=eZ.mp (show y∈its by simpa using hy);obtain⟨x',d,r',i',hd'⟩:=at_ i y (by rw[aq hi,ei])
   have dd:=hd d (au hd');rw[he r' i'];exact⟨NL I i' hk r' rx (by rw[jj,jj];lia),NL I i' hk r' rx (by rw[jj];lia)⟩
 · obtain⟨x',d,r',i',hd'⟩:=at_ i y hy
   exact⟨d,hd',he r' i'⟩
def MK:R2:=fun x y H Q=>∃p k xs ds,y= .ref p/\H p=some (.lst xs)/\Xas H ds xs/\Xa H k x/\(∀d∈ds,d.dp<=60)/\Q (.bl (decide (k∈ds))) H
def Ja(hu:X.A.units+64<cLine):jO X (compareOp .In) MK:=by
 intro pins s σ H x y v u Q I rx ry h;obtain⟨p,k,xs,ds,rfl,hp,hL,hk,hd,q⟩:=h;cases ry;obtain⟨its,rv,pl,hz⟩:=I.list (SqL.of hp);obtain⟨e,h1,h2⟩:=EN I hL rv hk rx hd hu;refine SeqAt.in_listAt (items:=its.toArray) e pl.isList (fun y hy=>(h1 y hy).2) ?_;have ea:its.toArray.any e=decide (k∈ds):=by
  rw[gc,decide_eq_true_iff];simp only[List.any_toArray,gE];constructor
  · rintro⟨y,hy,ey⟩;obtain⟨i,hi,ei⟩:=eZ.mp hy;obtain⟨d,hd',e'⟩:=h2 i y (by rw[aq hi,ei]);rw[ey] at e';rw[<-bA e'.symm];exact au hd'
  · intro hm;obtain⟨i,hi,ei⟩:=eZ.mp hm;have hl:i<its.length:=by rw[<-rv.length,Xas.len hL];exact hi
    refine⟨its[i],eK hl,?_⟩;obtain⟨d,hd',e'⟩:=h2 i its[i] (aq hl);rw[aq hi,ei] at hd';cases hd';rw[e',ah rfl]
 rw[ea];exact⟨.bl (decide (k∈ds)),H,I,rfl,q⟩
end
section
end
section
end
section
end
section
end
section
end
section
end
section
end
abbrev Tg:=Addr->Option (Nat × Option Key)
structure Fr(S:List Nat)(T T':Tg)(H H':Hp):Prop where
 but:∀b o,H b=some o->(∀i k,T b=some (i,k)->i∉S)->H' b=some o
 tups:Tups H H'
 there:∀b,H b≠none->H' b≠none
 tg:∀b i,T b=some i->T' b=some i
 new:∀b i,T' b=some i->T b=some i\/(H b=none/\i.1∈S)
def TgOk(T:Tg)(H:Hp):Prop:=∀b i,T b=some i->H b≠none
def Fr.refl:Fr S T T H H:=⟨fun _ _ e _=>e,Tups.refl H,fun _ h=>h,fun _ _ h=>h,fun _ _ h=> .inl h⟩
def Fr.trans(a:Fr S T T1 H H1)(b:Fr S T1 T2 H1 H2):Fr S T T2 H H2 where
 but:=fun c o e n=>b.but c o (a.but c o e n) fun i k h=>by
  rcases a.new c (i,k) h with h | ⟨h,_⟩
  · exact n i k h
  · rw[h] at e;cases e
 tups:=a.tups.trans b.tups
 there:=fun c h=>b.there c (a.there c h)
 tg:=fun c i h=>b.tg c i (a.tg c i h)
 new:=fun c i h=>by
  rcases b.new c i h with h | ⟨h,hi⟩
  · exact a.new c i h
  · refine .inr ⟨?_,hi⟩;cases e:H c with
    | none=>rfl
    | some o=>exact absurd h (a.there c (by rw[e];intro z;cases z))
def Fr.mono(a:Fr S T T' H H')(h:∀i∈S,i∈S'):Fr S' T T' H H':=⟨fun c o e n=>a.but c o e fun i k z m=>n i k z (h i m),a.tups,a.there,a.tg,fun c i e=>(a.new c i e).imp id fun z=>⟨z.1,h _ z.2⟩⟩
def qF(s:Same H H'):∀b,H b≠none->H' b≠none:=fun b h=>by
 cases e:H b with
 | none=>exact absurd e h
 | some o=>rw[s b o e];intro z;cases z
def Fr.of(s:Same H H'):Fr S T T H H':=⟨fun b o e _=>s b o e,s.tups,qF s,fun _ _ h=>h,fun _ _ h=> .inl h⟩
def TgOk.same(h:TgOk T H)(s:Same H H'):TgOk T H':=fun b i e=>qF s b (h b i e)
def TgOk.free{T:Tg}{H:Hp}(h:TgOk T H){b:Addr}(e:H b=none):T b=none:=by
 cases c:T b with
 | none=>rfl
 | some i=>exact absurd e (h b i c)
def Fr.put(t:T p=some (i,k))(hi:i∈S)(nt:∀xs,H p≠some (.tup xs)):Fr S T T H (upd H p o) where
 but:=fun b u e n=>by
  by_cases h:b=p
  · subst h;exact absurd hi (n i k t)
  · rw[aB h];exact e
 tups:=fun b xs e=>by
  by_cases h:b=p
  · subst h;exact absurd e (nt xs)
  · rw[aB h];exact e
 there:=fun b e=>by
  by_cases h:b=p
  · subst h;rw[upd_same];intro z;cases z
  · rw[aB h];exact e
 tg:=fun _ _ h=>h
 new:=fun _ _ h=> .inl h
def TgOk.put(h:TgOk T H):TgOk T (upd H p o):=fun b i e=>by
 by_cases z:b=p
 · subst z;rw[upd_same];intro z;cases z
 · rw[aB z];exact h b i e
noncomputable def jS(T:Tg)(p:Addr)(i:Nat × Option Key):Tg:=fun b=>if b=p then some i else T b
def qG:jS T p i p=some i:=aE rfl
def jR(h:b≠p):jS T p i b=T b:=aA h
def Fr.new'(ok:TgOk T H)(hp:H p=none)(hi:i.1∈S):Fr S T (jS T p i) H (upd H p o) where
 but:=fun b u e _=>aj hp o b u e
 tups:=(aj hp o).tups
 there:=qF (aj hp o)
 tg:=fun b j h=>by
  have:b≠p:=fun z=>ok b j h (by rw[z];exact hp);rw[jR this];exact h
 new:=fun b j h=>by
  by_cases z:b=p
  · subst z;rw[qG] at h;cases h;exact .inr ⟨hp,hi⟩
  · rw[jR z] at h;exact .inl h
def TgOk.new(ok:TgOk T H)(hp:H p=none):TgOk (jS T p i) (upd H p o):=fun b j h=>by
 by_cases z:b=p
 · subst z;rw[upd_same];intro z;cases z
 · rw[aB z];rw[jR z] at h;exact ok b j h
def Mo{α:Type}(R:Hp->V->α->Prop):Prop:=∀H H' v x,Tups H H'->R H v x->R H' v x
section
def FLs{α:Type}(R:Hp->V->α->Prop)(H:Hp)(T:Tg)(i:Nat)(p:Addr)(xs:List α):Prop:=T p=some (i,none)/\∃vs,H p=some (.lst vs)/\Paired (R H) vs xs
def FK(H:Hp)(T:Tg)(i:Nat)(p:Addr)(f:Key->Option V)(n:Nat):Prop:=T p=some (i,none)/\∃kvs,H p=some (.dK kvs)/\(∀k,cB kvs k=f k)/\kvs.length<=n
def FT(H:Hp)(T:Tg)(i:Nat)(p:Addr)(f:List Key->Option V)(n:Nat):Prop:=T p=some (i,none)/\∃kvs,H p=some (.dT kvs)/\(∀k,cB kvs k=f k)/\kvs.length<=n
def FTb{α:Type}(R:Hp->V->α->Prop)(H:Hp)(T:Tg)(i:Nat)(p:Addr)(f:Key->List α)(n:Nat):Prop:=T p=some (i,none)/\∃kvs,H p=some (.dK kvs)/\kvs.length<=n/\(∀k,(f k).length<=n)/\∀k,(cB kvs k=none/\f k=[])\/∃q vs,cB kvs k=some (.ref q)/\T q=some (i,some k)/\H q=some (.lst vs)/\Paired (R H) vs (f k)
theorem zi:∀{l l':List α} {k k':List β},Paired R l k->Paired R l' k'->Paired R (l++l') (k++k')
 | _,_,_,_,.nil,s=>s
 | _,_,_,_,.cons r t,s=> .cons r (zi t s)
def F5{α:Type}{R:Hp->V->α->Prop}{H H':Hp}(m:Mo R)(t:Tups H H'){vs:List V}{xs:List α}(h:Paired (R H) vs xs):Paired (R H') vs xs:=Paired.imp' (fun _ _ q=>m _ _ _ _ t q) h
def Fr.at(f:Fr S T T' H H')(hi:i∉S)(t:T b=some (i,k))(e:H b=some o):H' b=some o:=f.but b o e fun j k' z=>by rw[t] at z;cases z;exact hi
def FLs.fr{xs:List α}(m:Mo R)(f:Fr S T T' H H')(hi:i∉S)(h:FLs R H T i p xs):FLs R H' T' i p xs:=by
 obtain⟨t,vs,e,r⟩:=h;exact⟨f.tg _ _ t,vs,f.at hi t e,F5 m f.tups r⟩
def FK.fr(f:Fr S T T' H H')(hi:i∉S)(h:FK H T i p g n):FK H' T' i p g n:=by
 obtain⟨t,kvs,e,r⟩:=h;exact⟨f.tg _ _ t,kvs,f.at hi t e,r⟩
def FT.fr(f:Fr S T T' H H')(hi:i∉S)(h:FT H T i p g n):FT H' T' i p g n:=by
 obtain⟨t,kvs,e,r⟩:=h;exact⟨f.tg _ _ t,kvs,f.at hi t e,r⟩
def FTb.fr{g:Key->List α}(m:Mo R)(f:Fr S T T' H H')(hi:i∉S)(h:FTb R H T i p g n):FTb R H' T' i p g n:=by
 obtain⟨t,kvs,e,l,ll,r⟩:=h;refine⟨f.tg _ _ t,kvs,f.at hi t e,l,ll,fun k=> ?_⟩;rcases r k with z | ⟨q,vs,z1,z2,z3,z4⟩
 · exact .inl z
 · exact .inr ⟨q,vs,z1,f.tg _ _ z2,f.at hi z2 z3,F5 m f.tups z4⟩
def FLs.app{x:α}(m:Mo R)(h:FLs R H T i p xs)(e:H p=some (.lst vs))(r:R H v x):FLs R (upd H p (.lst (vs++[v]))) T i p (xs++[x])/\Fr [i] T T H (upd H p (.lst (vs++[v]))):=by
 obtain⟨t,vs',e',rs⟩:=h;rw[e] at e';cases e';have f:Fr [i] T T H (upd H p (.lst (vs++[v]))):=Fr.put t (by simp) (fun xs z=>by rw[e] at z;cases z);exact⟨⟨t,_,upd_same,zi (F5 m f.tups rs) (.cons (m _ _ _ _ f.tups r) .nil)⟩,f⟩
def FK.put(h:FK H T i p g n)(e:H p=some (.dK kvs)):FK (upd H p (.dK (bZ kvs k v))) T i p (fun j=>if j=k then some v else g j) (n+1)/\Fr [i] T T H (upd H p (.dK (bZ kvs k v))):=by
 obtain⟨t,kvs',e',r,l⟩:=h;rw[e] at e';cases e';refine⟨⟨t,_,upd_same,fun j=> ?_,ai (cM _ _ _) (gD l)⟩,Fr.put t (by simp) (fun xs z=>by rw[e] at z;cases z)⟩;rw[fq,r]
def FT.put(h:FT H T i p g n)(e:H p=some (.dT kvs)):FT (upd H p (.dT (bZ kvs k v))) T i p (fun j=>if j=k then some v else g j) (n+1)/\Fr [i] T T H (upd H p (.dT (bZ kvs k v))):=by
 obtain⟨t,kvs',e',r,l⟩:=h;rw[e] at e';cases e';refine⟨⟨t,_,upd_same,fun j=> ?_,ai (cM _ _ _) (gD l)⟩,Fr.put t (by simp) (fun xs z=>by rw[e] at z;cases z)⟩;rw[fq,r]
def HQ{α:Type}{g:Key->List α}{x:α}(h:∀k,(g k).length<=n):∀j,(g j++if j=k then [x] else []).length<=n+1:=fun j=>by
 rw[ak];have:=h j
 split<;>simp only[bj,dM]<;>lia
def FTb.app{x:α}(m:Mo R)(h:FTb R H T i p g n)(e:H p=some (.dK kvs))(eq:cB kvs k=some (.ref q))(hq:H q=some (.lst vs))(r:R H v x):FTb R (upd H q (.lst (vs++[v]))) T i p (fun j=>g j++if j=k then [x] else []) (n+1)/\Fr [i] T T H (upd H q (.lst (vs++[v]))):=by
 obtain⟨t,kvs',e',l,ll,rs⟩:=h;rw[e] at e';cases e';rcases rs k with⟨z,_⟩ | ⟨q',vs',z1,z2,z3,z4⟩
 · rw[eq] at z;cases z
 rw[eq] at z1;cases z1;rw[hq] at z3;cases z3;have f:Fr [i] T T H (upd H q (.lst (vs++[v]))):=Fr.put z2 (by simp) (fun xs z=>by rw[hq] at z;cases z);refine⟨⟨t,kvs,?_,Nat.le_succ_of_le l,HQ ll,fun j=> ?_⟩,f⟩
 · rw[aB (fun z=>by rw[z,hq] at e;cases e)];exact e
 · by_cases hj:j=k
   · subst hj;dsimp only;rw[aE rfl];exact .inr ⟨q,_,eq,z2,upd_same,zi (F5 m f.tups z4) (.cons (m _ _ _ _ f.tups r) .nil)⟩
   · dsimp only;rw[aA hj,jN];rcases rs j with z | ⟨q2,vs2,y1,y2,y3,y4⟩
     · exact .inl z
     · refine .inr ⟨q2,vs2,y1,y2,?_,F5 m f.tups y4⟩;rw[aB (fun z=>by rw[z,z2] at y2;cases y2;exact hj rfl)];exact y3
def FTb.new{x:α}(m:Mo R)(ok:TgOk T H)(h:FTb R H T i p g n)(e:H p=some (.dK kvs))(eq:cB kvs k=none)(hq:H q=none)(r:R H v x)(H':Hp)(hH:H'=upd (upd H q (.lst [v])) p (.dK (bZ kvs k (.ref q)))):FTb R H' (jS T q (i,some k)) i p (fun j=>g j++if j=k then [x] else []) (n+1)/\Fr [i] T (jS T q (i,some k)) H H'/\TgOk (jS T q (i,some k)) H':=by
 subst hH;obtain⟨t,kvs',e',l,ll,rs⟩:=h;rw[e] at e';cases e';have pq:p≠q:=fun z=>by rw[z,hq] at e;cases e
 have f1:Fr [i] T (jS T q (i,some k)) H (upd H q (.lst [v])):=Fr.new' ok hq (by simp);have t1:jS T q (i,some k) p=some (i,none):=by rw[jR pq];exact t
 have e1:upd H q (.lst [v]) p=some (.dK kvs):=by rw[aB pq];exact e
 have f2:Fr [i] (jS T q (i,some k)) (jS T q (i,some k)) (upd H q (.lst [v])) (upd (upd H q (.lst [v])) p (.dK (bZ kvs k (.ref q)))):=Fr.put t1 (by simp) (fun xs z=>by rw[e1] at z;cases z);have ft:=f1.trans f2;refine⟨⟨t1,_,upd_same,ai (cM _ _ _) (gD l),HQ ll,fun j=> ?_⟩,ft,(TgOk.new ok hq).put⟩;have gk:g k=[]:=by
  rcases rs k with z | ⟨q2,vs2,y1,_⟩
  · exact z.2
  · rw[eq] at y1;cases y1
 by_cases hj:j=k
 · subst hj;dsimp only;rw[aE rfl,gk];exact .inr ⟨q,[v],by rw[fq,aE rfl],qG,by rw[aB (br pq),upd_same],.cons (m _ _ _ _ ft.tups r) .nil⟩
 · dsimp only;rw[aA hj,jN,fq,aA hj];rcases rs j with z | ⟨q2,vs2,y1,y2,y3,y4⟩
   · exact .inl z
   · have q2p:q2≠p:=fun z=>by rw[z,e] at y3;cases y3
     have q2q:q2≠q:=fun z=>by rw[z,hq] at y3;cases y3
     exact .inr ⟨q2,vs2,y1,by rw[jR q2q];exact y2,by rw[aB q2p,aB q2q];exact y3,F5 m ft.tups y4⟩
end
def Bt(a:Addr)(H H':Hp):Prop:=∀b o,H b=some o->b≠a->H' b=some o
section
def FLs.bt{xs:List α}(m:Mo R)(b:Bt a H H')(t:Tups H H')(hT:T a=none)(h:FLs R H T i p xs):FLs R H' T i p xs:=by
 obtain⟨t0,vs,e,r⟩:=h;exact⟨t0,vs,b _ _ e (fun z=>by rw[z,hT] at t0;cases t0),F5 m t r⟩
def FK.bt(b:Bt a H H')(hT:T a=none)(h:FK H T i p f n):FK H' T i p f n:=by
 obtain⟨t0,kvs,e,r⟩:=h;exact⟨t0,kvs,b _ _ e (fun z=>by rw[z,hT] at t0;cases t0),r⟩
def FT.bt(b:Bt a H H')(hT:T a=none)(h:FT H T i p f n):FT H' T i p f n:=by
 obtain⟨t0,kvs,e,r⟩:=h;exact⟨t0,kvs,b _ _ e (fun z=>by rw[z,hT] at t0;cases t0),r⟩
def FTb.bt{f:Key->List α}(m:Mo R)(b:Bt a H H')(t:Tups H H')(hT:T a=none)(h:FTb R H T i p f n):FTb R H' T i p f n:=by
 obtain⟨t0,kvs,e,l,ll,r⟩:=h;refine⟨t0,kvs,b _ _ e (fun z=>by rw[z,hT] at t0;cases t0),l,ll,fun k=> ?_⟩;rcases r k with z | ⟨q,vs,z1,z2,z3,z4⟩
 · exact .inl z
 · exact .inr ⟨q,vs,z1,z2,b _ _ z3 (fun z=>by rw[z,hT] at z2;cases z2),F5 m t z4⟩
def FLs.nil{R:Hp->V->α->Prop}(t:T p=some (i,none))(e:H p=some (.lst [])):FLs R H T i p []:=⟨t,[],e,.nil⟩
def FK.nil(hf:∀k,f k=none)(t:T p=some (i,none))(e:H p=some (.dK [])):FK H T i p f n:=⟨t,[],e,fun k=>(hf k).symm,av _⟩
def FT.nil(hf:∀k,f k=none)(t:T p=some (i,none))(e:H p=some (.dT [])):FT H T i p f n:=⟨t,[],e,fun k=>(hf k).symm,av _⟩
def FTb.nil{f:Key->List α}(hf:∀k,f k=[])(t:T p=some (i,none))(e:H p=some (.dK [])):FTb R H T i p f n:=⟨t,[],e,av _,fun k=>by rw[hf];exact av _,fun k=> .inl ⟨rfl,hf k⟩⟩
end
def gH{N P:List Str}{sc:Scope}(a:sc.kind= .function:=by rfl)(b:sc.isCoroutine=false:=by rfl)(c:sc.isGenerator=false:=by rfl)(d:N.Nodup:=by decide+kernel)(e:N.take P.length=P:=by rfl)(f:∀x∈P,sc.names.lookup x=some .local\/sc.names.lookup x=some .cell:=by decide+kernel)(g:∀y∈sc.names,y.2≠ .free:=by decide+kernel):bw N P sc:=⟨a,b,c,d,e,f,g⟩
def Fun.o{P:Program}{w:World}{K:Frag}{mg:Str->Option Value}{base:Heap}{x qual:Str}{st:Stmt}{f:Addr}{fd:FuncData}{N ps:List Str}{k:Nat}{sp:Sp}(F:Fun K x qual st f fd)(S:bw N ps (aM st))(hbody:∀(cdv:Value) (A:Around) (outer:List Env) (s:Shared) (H:Hp) (vs:List V) (Q:VK) (E:XK),Room k (A.deeper (envOfC qual (aM st) s.heap.objs.size f cdv))->sp vs H Q E->∃t,PSs (ye eU P w K mg base N qual (aM st) f cdv A outer s H E).nox (d_ st) t/\t {nx:=fun _ H'=>Q .non H',rt:=Q} (lI N vs) H) (len:∀vs H Q E,sp vs H Q E->vs.length=ps.length:=by intro vs H Q E h;cases h;subst_vars;rfl):b_ P w K mg base eU (k+1) f fd ps sp:=F.ok S len hbody
section
def JG:Nf X .BitXor (NK fun i j=>Builtin.bitXor i j):=by
 intro pins s σ H x y v u Q I r1 r2 h;obtain⟨i,j,e1,e2,q⟩:=h;subst e1;subst e2;obtain⟨t,rfl⟩:=r1;obtain⟨t',rfl⟩:=r2;exact ixor_int ⟨.int _,H,I.tok _,⟨_,rfl⟩,q⟩
def F2:V->List V->Hp->VK->Prop:=fun x vs H Q=>∃i,x= .int i/\vs=[]/\Q (.int ((Builtin.Int.intBits i:Nat):Int)) H
def sQ:L7 X "int.bit_length" F2:=by
 intro pins s σ H x xs v us Q I rx rs h;obtain⟨i,rfl,rfl,q⟩:=h;obtain⟨t,rfl⟩:=rx;cases rs;exact call_int_bit_length ⟨.int _,H,I.tok _,⟨_,rfl⟩,q⟩
end
def bn(x:Int):Builtin.bitNot x= -x - 1:=by first | rfl | (unfold Builtin.bitNot;lia)
def E_(a b:Nat):Builtin.bitAnd (a:Int) (b:Int)=((a&&&b:Nat):Int):=by
 have h1:decide (0<=(a:Int))=true:=ah (by lia);have h2:decide (0<=(b:Int))=true:=ah (by lia);unfold Builtin.bitAnd;rw[h1,h2]
 rfl
def HF(a b:Nat):Builtin.bitOr (a:Int) (b:Int)=((a ||| b:Nat):Int):=by
 have h1:decide (0<=Builtin.bitNot (a:Int))=false:=ag (by rw[bn];lia);have h2:decide (0<=Builtin.bitNot (b:Int))=false:=ag (by rw[bn];lia);have n1:∀x:Int,Builtin.bitNot (Builtin.bitNot x)=x:=fun x=>by rw[bn,bn];lia
 unfold Builtin.bitOr Builtin.bitAnd;rw[h1,h2];show Builtin.bitNot (Builtin.bitNot (((Builtin.bitNot (Builtin.bitNot (a:Int))).toNat ||| (Builtin.bitNot (Builtin.bitNot (b:Int))).toNat:Nat):Int))=_;rw[n1,n1,n1]
 rfl
def I_:∀a b,a&&&b=0->a ||| b=a+b:=by
 intro a
 induction a using Nat.strongRecOn with
 | ind a ih=>
   intro b h;by_cases ha:a=0
   · subst ha;simp
   have hd:a/2&&&b/2=0:=by
    have:=congrArg (· /2) h;simpa[Nat.and_div_two] using this
   have e1:=ih (a/2) (by lia) (b/2) hd;have e2:(a ||| b)/2=a/2 ||| b/2:=Nat.or_div_two
   have m1:(a&&&b).testBit 0=false:=by rw[h];simp
   have m2:(a ||| b).testBit 0=(a.testBit 0 || b.testBit 0):=sV ..;rw[f_] at m1;simp only[Nat.testBit_zero] at m1 m2;have l:a % 2<2:=Oq _ (by decide);have l2:b % 2<2:=Oq _ (by decide);have l3:(a ||| b) % 2<2:=Oq _ (by decide);have e3:(a ||| b)/2=a/2+b/2:=e2.trans e1;have e4:(a ||| b) % 2=a % 2+b % 2:=by
    rcases lC a with p | p<;>rcases lC b with q | q<;>rw[p,q] at m1 m2⊢ <;>revert m1 m2<;>rcases lC (a ||| b) with r | r<;>rw[r]<;>decide
   lia
def Of(m:Nat):0<m->∃j q,m=2^j * (2 * q+1):=by
 induction m using Nat.strongRecOn with
 | ind m ih=>
   intro h;by_cases p:m % 2=1
   · exact⟨0,m/2,by rw[Nat.pow_zero];lia⟩
   · obtain⟨j,q,e⟩:=ih (m/2) (by lia) (by lia);refine⟨j+1,q,?_⟩;have:m=2 * (m/2):=by lia
     rw[this,e,kG,Nat.mul_comm (2^j) 2,nX]
def GE(j q:Nat):(2^j * (2 * q+1))&&&(2^j * (2 * q+1) - 1)=2^(j+1) * q:=by
 have hp:0<2^j:=jG (by decide);have e1:2^j * (2 * q+1) - 1=2^j * (2 * q)+(2^j - 1):=by rw[Ni];lia
 have e2:2^(j+1) * q=2^j * (2 * q):=by rw[kG,nX]
 rw[e1,e2];refine gy fun i=> ?_;rw[f_,d5,Nat.testBit_two_pow_mul_add _ (by lia),d5];by_cases h:i<j
 · rw[ag (by lia)];simp
 · rw[aA h,ah (by lia:i≥j)];simp only[Bool.true_and];cases hk:i - j with
   | zero=>simp
   | succ k=>
     rw[Nat.testBit_succ,Nat.testBit_succ,show(2 * q+1)/2=q by lia,show 2 * q/2=q by lia,Bool.and_self]
def GC(j q:Nat):2^j * (2 * q+1) - 2^(j+1) * q=2^j:=by
 rw[kG,Ni,nX];lia
def Ei(j q:Nat):(2^j * (2 * q+1))&&&2^j=2^j:=by
 refine gy fun i=> ?_;rw[f_,d5,v_];by_cases h:j=i
 · subst h;simp
 · rw[ag h,lH]
def Jq(j q:Nat):(2^j * (2 * q+1)) ||| 2^j=2^j * (2 * q+1):=by
 refine gy fun i=> ?_;rw[sV,d5,v_];by_cases h:j=i
 · subst h;simp
 · rw[ag h,wo]
noncomputable def cN(m:Nat):List Nat:=(List.range (m.log2+1)).filter m.testBit
def Cy(m t:Nat)(h:m<2^t):(List.range t).filter m.testBit=cN m:=by
 have key:∀n k,(∀i,n<=i->m.testBit i=false)->(List.range (n+k)).filter m.testBit=(List.range n).filter m.testBit:=fun n k hn=>by
  induction k with
  | zero=>rfl
  | succ k ih=>rw[<-wm,qy,ie,ih];simp[hn (n+k) (by lia)]
 have z:∀t,m<2^t->∀i,t<=i->m.testBit i=false:=fun t h i hi=>pS (ax h (sX (by decide) hi));have l:m<2^(m.log2+1):=Nat.lt_log2_self;unfold cN;rcases LF t (m.log2+1) with c | c
 · obtain⟨k,e⟩:=ip c;rw[e];exact(key t k (z t h)).symm
 · obtain⟨k,e⟩:=ip c;rw[e];exact key _ k (z _ l)
def kP:i∈cN m↔m.testBit i=true:=by
 unfold cN;rw[gb,cv];refine⟨fun h=>h.2,fun h=>⟨?_,h⟩⟩;rcases eB i (m.log2+1) with c | c
 · exact c
 · rw[pS (ax Nat.lt_log2_self (sX (by decide) c))] at h;cases h
def Cz(h:0<2^t * (m/2^t)):∃t',t<=t'/\m.testBit t'=true/\(∀i,t<=i->i<t'->m.testBit i=false)/\∃q,2^t * (m/2^t)=2^t' * (2 * q+1)/\2^(t'+1) * (m/2^(t'+1))=2^(t'+1) * q:=by
 have hp:0<2^t:=jG (by decide);have hm:0<m/2^t:=Nat.pos_of_ne_zero fun z=>by rw[z] at h;simp at h
 obtain⟨j,q,e⟩:=Of _ hm;have tb:∀i,m.testBit (t+i)=(m/2^t).testBit i:=fun i=>by rw[Nat.testBit_div_two_pow,Nat.add_comm]
 refine⟨t+j,by lia,?_,fun i h1 h2=> ?_,q,?_,?_⟩
 · rw[tb,e,d5];simp
 · obtain⟨k,rfl⟩:=ip h1;rw[tb,e,d5,ag (by lia)];rfl
 · rw[e,Nat.pow_add,nX]
 · congr 1
   rw[wm,Nat.pow_add,<-LG,e,kG,<-LG,Nat.mul_div_cancel_left _ (jG (by decide))]
   lia
def zc{m:Nat}(h1:t<=t')(h2:m.testBit t'=true)(h3:∀i,t<=i->i<t'->m.testBit i=false):(List.range (t'+1)).filter m.testBit=(List.range t).filter m.testBit++[t']:=by
 obtain⟨k,rfl⟩:=ip h1;have key:∀k,(∀i,t<=i->i<t+k->m.testBit i=false)->(List.range (t+k)).filter m.testBit=(List.range t).filter m.testBit:=fun k hk=>by
  induction k with
  | zero=>rfl
  | succ k ih=>rw[<-wm,qy,ie,ih fun i a b=>hk i a (by lia)];simp[hk (t+k) (by lia) (by lia)]
 rw[qy,ie,key k h3];simp[h2]
noncomputable def anot(a b:Nat):Nat:=a - (a&&&b)
def Fb(a b:Nat):a&&&b<=a:=Fk
def BA(a b:Nat):Builtin.bitAnd (a:Int) (Builtin.bitNot (b:Int))=((anot a b:Nat):Int):=by
 have h1:decide (0<=(a:Int))=true:=ah (by lia);have h2:decide (0<=Builtin.bitNot (b:Int))=false:=ag (by rw[bn];lia);have n1:Builtin.bitNot (Builtin.bitNot (b:Int))=b:=by rw[bn,bn];lia
 unfold Builtin.bitAnd;rw[h1,h2];show(a:Int) - (((a:Int).toNat&&&(Builtin.bitNot (Builtin.bitNot (b:Int))).toNat:Nat):Int)=_;rw[n1];show(a:Int) - ((a&&&b:Nat):Int)=((a - (a&&&b):Nat):Int);have:=Fb a b
 lia
def E9(a b:Nat):anot a b=a^^^(a&&&b):=by
 have e:(a^^^(a&&&b))&&&(a&&&b)=0:=gy fun i=>by
  simp only[f_,Fh,Nat.zero_testBit];cases a.testBit i<;>cases b.testBit i<;>rfl
 have o:(a^^^(a&&&b)) ||| (a&&&b)=a:=gy fun i=>by
  simp only[f_,sV,Fh];cases a.testBit i<;>cases b.testBit i<;>rfl
 have s:(a^^^(a&&&b))+(a&&&b)=a:=by
  rw[<-I_ _ _ e];exact o
 unfold anot
 lia
def nU(a b i:Nat):(anot a b).testBit i=(a.testBit i&& !b.testBit i):=by
 rw[E9,Fh,f_];cases a.testBit i<;>cases b.testBit i<;>rfl
def E6(a i j:Nat):(a ||| 2^i).testBit j=(a.testBit j || decide (i=j)):=by rw[sV,v_]
def GD{m:Nat}(e:m=2^j * (2 * q+1)):Builtin.bitAnd (m:Int) (-(m:Int))=((2^j:Nat):Int)/\Builtin.bitXor (m:Int) ((2^j:Nat):Int)=((2^(j+1) * q:Nat):Int):=by
 have hp:0<2^j:=jG (by decide);have mp:0<m:=by rw[e];exact Nat.mul_pos hp (by lia)
 have o1:=GC j q;have a1:=GE j q;rw[<-e] at o1 a1;constructor
 · have h1:decide (0<=(m:Int))=true:=ah (by lia);have h2:decide (0<= -(m:Int))=false:=ag (by lia);unfold Builtin.bitAnd;rw[h1,h2];show(m:Int) - (((m:Int).toNat&&&(Builtin.bitNot (-(m:Int))).toNat:Nat):Int)=_;rw[bn,show(-(-(m:Int)) - 1).toNat=m - 1 by lia,show(m:Int).toNat=m by lia,a1];have:2^(j+1) * q<=m:=by rw[<-a1];exact Fk
   lia
 · unfold Builtin.bitXor;have x1:=Ei j q;have x2:=Jq j q;rw[<-e] at x1 x2;rw[HF,E_,x1,x2];have:2^j<=m:=by rw[<-x1];exact Fk
   lia
def xW(j:Nat):Builtin.Int.intBits ((2^j:Nat):Int)=j+1:=by
 unfold Builtin.Int.intBits;have hp:0<2^j:=jG (by decide);have hz:¬ ((((2^j:Nat):Int)==0)=true):=fun z=>by
  have:=eq_of_beq z
  lia
 rw[aA hz];show(2^j).log2+1=j+1;rw[Nat.log2_two_pow]
section
variable {prog:Program}{w:World}{κ:Type}[DecidableEq κ]{knd:KeyKind prog w κ}{A:Around}{E:Value->Shared->Prop}{s:Shared}
theorem om{d:Addr}{kvs:List (κ × Value)}{k:κ}{key dflt:Value}{Q:Value->Shared->Prop}(hkey:knd.is k key=true)(hm:s.heap.DictOf knd d kvs)(hthere:∀v,valueAt kvs k=some v->Q v {s with toks:=s.toks+1})(hnew:valueAt kvs k=none->∀h',h'.DictOf knd d (stored kvs k dflt)->Heap.SameBut d s.heap h'->Q dflt {s with heap:=h',toks:=s.toks+1})(hsz:kvs.length<=sizeLine):wpAny (model prog w) A (dictSetDefault d key dflt) Q E s:=by
 have hval:=hm.mapOf;obtain⟨o,es,ep,ho,hc,hd,hk,hp,hn⟩:=hm;have hf:∀x,findBy knd.is es x=valueAt kvs x:=fun x=>by
  rw[<-hp.find x];obtain⟨l⟩:=es;simp[findBy]
 have hes:es.size<=sizeLine:=by
  have e1:=hp.length;have e2:es.toList.length=es.size:=by simp
  lia
 unfold dictSetDefault
 try with_reducible refine dW ?_
 refine aa (knd.pyHash hkey ?_);refine aa (wpAny_dictFind_of (s:={s with toks:=s.toks+1}) hkey ho hd hk ?_);have hidx:(es.findIdx? fun e=>knd.is k e.key)=kvs.findIdx? fun kv=>decide (kv.1=k):=by
  rw[<-hp.findIdx k];obtain⟨l⟩:=es;simp
 cases hi:es.findIdx? fun e=>knd.is k e.key with
 | some i=>
   have hfk:valueAt kvs k=(es[i]?).map (·.val):=by rw[<-hf k,Oh,hi]
   refine aa (wpAny_dictEntries (s:={s with toks:=s.toks+1}) ho hd ?_);cases he:es[i]? with
   | none=>
     exfalso
     have:=Array.findIdx?_eq_some_iff_findIdx_eq.mp hi;have hlt:i<es.size:=this.1;rw[Array.getElem?_eq_getElem hlt] at he;exact nomatch he
   | some e=>
     rw[he] at hfk;exact aa (iX (aK (hthere e.val hfk)))
 | none=>
   have hfk:valueAt kvs k=none:=by rw[<-hf k,Oh,hi]
   have hnot:k∉kvs.map (·.1):=not_mem_of_findIdx_none (hidx ▸ hi);have hany:¬ (kvs.any fun kv=>decide (kv.1=k))=true:=by
    rw[gE];rintro⟨kv,hkv,he⟩;exact hnot (bK.mpr ⟨kv,hkv,bA he⟩)
   refine aa (iX (aa (wpAny_updateDictKeys (hz:=hes) (s:={s with toks:=s.toks+1}) ho hd (aK (hnew hfk _ ⟨_,_,ep+1,su _ ho (Obj.isFreed_of_dict (Nh hd _)),hc.mapDictKeys _,Nh hd _,hk.push hkey _,?_,?_⟩ (wb ..))))))
   · rw[stored,aA hany];have:=hp.append hkey (knd.hash k) dflt;obtain⟨l⟩:=es;simpa using this
   · rw[stored,aA hany,aZ,mK];refine⟨hn,by simp,?_⟩;intro a ha b hb;simp only[bM,LI,af] at hb;subst hb;exact fun e=>hnot (e ▸ ha)
theorem oH{d:Addr}{k:κ}{key:Value}(hkey:knd.is k key=true)(hd:(d==sysModules)=false)(dflt:Value):MeetsIn prog w (Builtin.«dict.setdefault» ⟨[.ref d,key,dflt],[]⟩) (fun _ R s=>∃kvs,s.heap.DictOf knd d kvs/\kvs.length<=sizeLine/\(∀v,valueAt kvs k=some v->R (.ok (.ret v)) {s with toks:=s.toks+1})/\(valueAt kvs k=none->∀h',h'.DictOf knd d (stored kvs k dflt)->Heap.SameBut d s.heap h'->R (.ok (.ret dflt)) {s with heap:=h',toks:=s.toks+1})):= .of_wp fun A R s ⟨kvs,hm,hz,h1,h2⟩=>by
  unfold Builtin.«dict.setdefault»;refine aa ?_;unfold Builtin.Dict.keyAndDefault;refine aa (wpAny_notOrdered_dict hm.typeIs ?_);show wpAny _ _ (pure (d,key,some dflt)) _ _ s;refine aK ?_;show wpAny _ _ (if(d==sysModules)=true then _ else(dictSetDefault d key dflt>>=_)) _ _ s;rw[aA (by rw[hd];exact aO)];exact aa (om hkey hm (fun v hv=>aK ⟨v,rfl,h1 v hv⟩) (fun hn h' hm' hs'=>aK ⟨dflt,rfl,h2 hn h' hm' hs'⟩) hz)
end
section
def Iu(td ty tx:TE):TE:=fun σ H Q=>td σ H fun x H1=>∃a,x= .ref a/\Nr H1 a/\ty σ H1 fun y H2=>tx σ H2 fun z H3=>∃kvs k,H3 a=some (.dK kvs)/\y=kV k/\kvs.length<sizeLine/\(∀v,cB kvs k=some v->Q v H3)/\(cB kvs k=none->Q z (upd H3 a (.dK (bZ kvs k z))))
def DB(ho:PE X o td)(he:PE X e ty)(hf:PE X f tx)(m:M2 X o "setdefault" apos e f cpos):PE X (.Call (.Attribute o "setdefault" apos) [e,f] [] cpos) (Iu td ty tx):=by
 intro pins s σ H Q I h;refine Ox m.base m.few m.line Kl Fe PySem.F.type_dict_setdefault (cZ (ho pins s σ H _ I h) fun u s1 ⟨x,H1,I1,rx,a,ex,d,q1⟩=> ?_);subst ex;obtain rfl:u=Value.ref a:=rx;obtain⟨t1,t2,_⟩:=EC I1 d;refine⟨t1,t2,?_⟩;rw[m.trees];refine iH rfl (sZ (eP (cZ (he pins s1 σ H1 _ I1 q1) fun iv s2 ⟨y,H2,I2,ry,q2⟩=>
  eP (cZ (hf pins s2 σ H2 _ I2 q2) fun fv s3 ⟨z,H3,I3,rz,kvs,k,e3,ey,l3,qt,qn⟩=>iG ?_))))
 subst ey;obtain⟨zz,hd,vs,rel,dd⟩:=Bv I3.hok e3;have hz:vs.length<=sizeLine:=by rw[<-rel.length];exact zz
 refine Lr Fe dd.typeIs PySem.F.entry_dict_setdefault (PySem.F.args_dict_setdefault_3 _ _ _) (oH (knd:=cQ X.prog X.w) (nK ry) hd fv) ⟨vs,dd,hz,fun v hv=> ?_,fun hv h' dd' hs=> ?_⟩
 · have rv:=rel.val k;rw[hv] at rv;cases hk:cB kvs k with
   | none=>rw[hk] at rv;cases rv
   | some v'=>
     rw[hk] at rv;exact⟨v',H3,I3.tok _,rv,qt v' hk⟩
 · have rv:=rel.val k;rw[hv] at rv;cases hk:cB kvs k with
   | some v'=>rw[hk] at rv;cases rv
   | none=>
     have hl:(bZ kvs k z).length<=sizeLine:=by have:=cM kvs k z;lia
     have hex:∃q,h'.get? a=some q:=let⟨q,_,_,hq,_⟩:=dd';⟨q,hq⟩
     exact⟨z,_,qw I3 (by rw[e3];exact True.intro) hs hex (zR hl hd (rel.put k rz) dd'),rz,qn hk⟩
end
section
end
structure FunD(K:Frag)(x qual:Str)(st:Stmt)(dV:Value)(f:Addr)(fd:FuncData):Prop where
 ex:∃(oc:Value) (od:Option Addr) (kV doc pm:Value) (an:Option Addr) (cdv ct:Value) (osl:Array (Option Value)),fd=fnOf x qual (fj st) (d_ st) (aM st) dV kV doc pm an cdv ct/\K.lookup f=some ⟨oc,od,.func fd,osl⟩/\codeIn K cdv qual=true
 kp:keepIn K (.ref f)=true
section
def FunD.ok{K:Frag}{st:Stmt}(F:FunD K x qual st dV f fd)(S:bw N ps (aM st))(len:∀vs H Q E,sp vs H Q E->vs.length=ps.length)(hbody:∀cdv A outer s H vs Q E,Room k (A.deeper (envOfC qual (aM st) s.heap.objs.size f cdv))->sp vs H Q E->∃t,PSs (ye eU P w K mg base N qual (aM st) f cdv A outer s H E).nox (d_ st) t/\t {nx:=fun _ H'=>Q .non H',rt:=Q} (lI N vs) H):b_ P w K mg base eU (k+1) f fd ps sp:=by
 obtain⟨oc,od,kV,doc,pm,an,cdv,ct,osl,rfl,lk,hcd⟩:=F.ex;refine HX lk hcd S len fun A outer s H vs Q E hr hsp=> ?_;obtain⟨t,h,q⟩:=hbody cdv A outer s H vs Q E hr hsp;exact⟨t,h.nox,q⟩
def FunD.binds{K:Frag}{st:Stmt}{items:List Value}(F:FunD K x qual st (.ref T) f fd)(lT:K.lookup T=some o)(hs:o.data= .seq items.toArray n)(h:∀kV doc pm an cdv ct us,us.length+ds.length=ps.length->∃k,bindArgs (fnOf x qual (fj st) (d_ st) (aM st) (.ref T) kV doc pm an cdv ct) ⟨us,[]⟩=seqItems? (.ref T)>>=k/\k (some items.toArray)=pure (ps.zip (us++ds))):Binds K fd ps ds:=by
 obtain⟨oc,od,kV,doc,pm,an,cdv,ct,osl,rfl,lk,hcd⟩:=F.ex;intro s us KX hl;obtain⟨k,h1,h2⟩:=h kV doc pm an cdv ct us (by rw[<-ak];exact hl);exact BindsTo.of_defaults rfl (KX _ _ lT) hs h1 h2
def Bs{K:Frag}{st:Stmt}{kV:Value}(l:K.lookup f=some ⟨oc,od,.func (fnOf x qual (fj st) (d_ st) (aM st) dV kV doc pm an cdv ct),osl⟩)(c:codeIn K cdv qual=true)(k:keepIn K (.ref f)=true):FunD K x qual st dV f (fnOf x qual (fj st) (d_ st) (aM st) dV kV doc pm an cdv ct):=⟨⟨oc,od,kV,doc,pm,an,cdv,ct,osl,rfl,l,c⟩,k⟩
end
section
end
structure Cl(P:Program)(w:World)(K:Frag)(mg:Str->Option Value)(base:Heap)(k:Nat)(x:Str)(ps:List Str)(sp:Sp):Prop where
 ex:∃f fd,b_ P w K mg base eU k f fd ps sp/\Binds K fd ps []/\keepIn K (.ref f)=true/\mg x=some (.ref f)
structure Ml(P:Program)(w:World)(K:Frag)(mg:Str->Option Value)(base:Heap)(C:Addr)(k:Nat)(x:Str)(ps:List Str)(sp:Sp):Prop where
 ex:∃f fd,b_ P w K mg base eU k f fd ps sp/\Binds K fd ps []/\CA K C x f
structure Il(P:Program)(w:World)(K:Frag)(mg:Str->Option Value)(base:Heap)(C:Addr)(k:Nat)(x:Str)(ps:List Str)(sp:Sp):Prop where
 ex:∃f fd,b_ P w K mg base eU k f fd ps sp/\Binds K fd ps []/\Mk K C f/\mg x=some (.ref C)
structure Dl(P:Program)(w:World)(K:Frag)(mg:Str->Option Value)(base:Heap)(k:Nat)(x:Str)(ps:List Str)(ds:List Value)(sp:Sp):Prop where
 ex:∃f fd,b_ P w K mg base eU k f fd ps sp/\Binds K fd ps ds/\keepIn K (.ref f)=true/\mg x=some (.ref f)
structure Fq(K:Frag)(mg:Str->Option Value)(x:Str)(st:Stmt)(ps:List Str):Prop where
 ex:∃f fd,Fun K x x st f fd/\Binds K fd ps []/\mg x=some (.ref f)
structure Mq(K:Frag)(C:Addr)(x q:Str)(st:Stmt)(ps:List Str):Prop where
 ex:∃f fd,Fun K x q st f fd/\Binds K fd ps []/\CA K C x f
structure Dq(K:Frag)(mg:Str->Option Value)(x:Str)(st:Stmt)(ps:List Str)(ds:List Value):Prop where
 ex:∃f fd T,FunD K x x st (.ref T) f fd/\Binds K fd ps ds/\mg x=some (.ref f)
section
def Fq.cl{K:Frag}{st:Stmt}(A:Fq K mg x st ps)(h:∀{f fd},Fun K x x st f fd->b_ P w K mg base eU k f fd ps sp):Cl P w K mg base k x ps sp:=by
 obtain⟨f,fd,F,b,m⟩:=A.ex;exact⟨f,fd,h F,b,F.kp,m⟩
def Mq.ml{K:Frag}{st:Stmt}(A:Mq K C x q st ps)(h:∀{f fd},Fun K x q st f fd->b_ P w K mg base eU k f fd ps sp):Ml P w K mg base C k x ps sp:=by
 obtain⟨f,fd,F,b,m⟩:=A.ex;exact⟨f,fd,h F,b,m⟩
def Mq.il{P:Program}{w:World}{K:Frag}{mg:Str->Option Value}{base:Heap}{C:Addr}{k:Nat}{x q y:Str}{st:Stmt}{ps:List Str}{sp:Sp}(A:Mq K C x q st ps)(mk:makesIn K C=true)(kc:keepIn K (.ref C)=true)(mc:mg y=some (.ref C))(h:∀{f fd},Fun K x q st f fd->b_ P w K mg base eU k f fd ps sp)(hx:x="__init__":=by rfl):Il P w K mg base C k y ps sp:=by
 subst hx;obtain⟨f,fd,F,b,m⟩:=A.ex;exact⟨f,fd,h F,b,⟨mk,m.at_,m.fn,kc⟩,mc⟩
def Dq.dl{K:Frag}{st:Stmt}(A:Dq K mg x st ps ds)(h:∀{f fd T},FunD K x x st (.ref T) f fd->b_ P w K mg base eU k f fd ps sp):Dl P w K mg base k x ps ds sp:=by
 obtain⟨f,fd,T,F,b,m⟩:=A.ex;exact⟨f,fd,h F,b,F.kp,m⟩
end
section
def dG{X:Cx}{j k:Nat}{x:Str}{ps:List Str}{sp:Sp}{e:Expr}{es:List Expr}{t:TA}{p pos:Pos}(c:Cl X.prog X.w X.K X.mg X.base k x ps sp)(hr:Room j X.A)(ha:PA X (e::es) t)(hj:k<=j:=by first | decide | lia)(hg:Gl X x:=by rfl)(hdb:(x==("__debug__":Str))=false:=by decide)(he:starEach (e::es) X.env=(false,eval e X.env)::starEach es X.env:=by rfl)(hpl:(backTo pos (starEach es X.env)).any (·.1)=false:=by rfl):PE X (.Call (.Name x p) (e::es) [] pos) (qH sp [] E0 t):=by
 obtain⟨f,fd,F,b,k,m⟩:=c.ex;exact Bg F (hr.mono hj) hg m k b .nil uh ha hdb he hpl
def gU{X:Cx}{j k:Nat}{x:Str}{ps:List Str}{sp:Sp}{e o:Expr}{es:List Expr}{t:TA}{ta:TE}{pos apos:Pos}{C:Addr}{pl:Sem Bool}(ho:PE X o ta)(c:Cls X.K C)(m:Ml X.prog X.w X.K X.mg X.base C k x ps sp)(hr:Room j X.A)(ha:PA X (e::es) t)(hj:k<=j:=by first | decide | lia)(he:starEach (e::es) X.env=(false,eval e X.env)::starEach es X.env:=by rfl)(hpl:(backTo pos (starEach es X.env)).any (·.1)=false:=by rfl)(ht:eval (.Call (.Attribute o x apos) (e::es) [] pos) X.env=(do
 let ov<-eval o X.env
 standAt apos.atName
 let(f,first)<-holding [ov] (getMethod ov x pl)
 callWith pos f first (backTo pos (starEach (e::es) X.env)) (backToKw pos (keywordEach [] X.env))):=by rfl):
 PE X (.Call (.Attribute o x apos) (e::es) [] pos) (Ae C x sp [] E0 ta t):=by
 obtain⟨f,fd,F,b,m⟩:=m.ex;exact F7 ho c m F (hr.mono hj) b .nil uh ha he hpl ht
def N9{X:Cx}{j k:Nat}{x:Str}{ps:List Str}{sp:Sp}{e:Expr}{es:List Expr}{t:TA}{p pos:Pos}{C:Addr}(c:Il X.prog X.w X.K X.mg X.base C k x ps sp)(hr:Room j X.A)(ha:PA X (e::es) t)(hj:k+1<=j:=by first | decide | lia)(hg:Gl X x:=by rfl)(hdb:(x==("__debug__":Str))=false:=by decide)(he:starEach (e::es) X.env=(false,eval e X.env)::starEach es X.env:=by rfl)(hpl:(backTo pos (starEach es X.env)).any (·.1)=false:=by rfl):PE X (.Call (.Name x p) (e::es) [] pos) (Af C sp [] E0 t):=by
 obtain⟨f,fd,F,b,m,y⟩:=c.ex;exact F8 m F (hr.mono hj) hg y b .nil uh ha hdb he hpl
def MP{X:Cx}{j k:Nat}{x:Str}{ps:List Str}{sp:Sp}{p pos:Pos}{C:Addr}(c:Il X.prog X.w X.K X.mg X.base C k x ps sp)(hr:Room j X.A)(hj:k+1<=j:=by first | decide | lia)(hg:Gl X x:=by rfl)(hdb:(x==("__debug__":Str))=false:=by decide):PE X (.Call (.Name x p) [] [] pos) (Af C sp [] E0 iZ):=by
 obtain⟨f,fd,F,b,m,y⟩:=c.ex;exact DA m F (hr.mono hj) hg y b .nil uh hdb
def Oa{X:Cx}{j k:Nat}{x:Str}{ps:List Str}{sp:Sp}{e:Expr}{es:List Expr}{t:TA}{p pos:Pos}{ds:List Value}{dvs:List V}(c:Dl X.prog X.w X.K X.mg X.base k x ps ds sp)(hd:Vals dvs ds)(hr:Room j X.A)(ha:PA X (e::es) t)(hj:k<=j:=by first | decide | lia)(hg:Gl X x:=by rfl)(hdb:(x==("__debug__":Str))=false:=by decide)(he:starEach (e::es) X.env=(false,eval e X.env)::starEach es X.env:=by rfl)(hpl:(backTo pos (starEach es X.env)).any (·.1)=false:=by rfl):PE X (.Call (.Name x p) (e::es) [] pos) (qH sp dvs E0 t):=by
 obtain⟨f,fd,F,b,k,m⟩:=c.ex;exact Bg F (hr.mono hj) hg m k b hd uh ha hdb he hpl
def MO{X:Cx}{j k:Nat}{x:Str}{ps:List Str}{sp:Sp}{o:Expr}{ta:TE}{pos apos:Pos}{C:Addr}{pl:Sem Bool}(ho:PE X o ta)(c:Cls X.K C)(m:Ml X.prog X.w X.K X.mg X.base C k x ps sp)(hr:Room j X.A)(hj:k<=j:=by first | decide | lia)(ht:eval (.Call (.Attribute o x apos) [] [] pos) X.env=(do
 let ov<-eval o X.env
 standAt apos.atName
 let(f,first)<-holding [ov] (getMethod ov x pl)
 callWith pos f first (backTo pos (starEach [] X.env)) (backToKw pos (keywordEach [] X.env))):=by rfl):
 PE X (.Call (.Attribute o x apos) [] [] pos) (Ae C x sp [] E0 ta iZ):=by
 obtain⟨f,fd,F,b,m⟩:=m.ex;exact Dz ho c m F (hr.mono hj) b .nil uh ht
def fR{X:Cx}{x:Str}{e:Expr}{te:TE}{pos:Pos}(i:Nat)(hN:X.N.Nodup){pos':Pos}(he:PE X e te)(hi:X.N[i]? =some x:=by rfl)(hx:J6 X.env.scope x:=by first | exact .inl rfl | exact .inr rfl)(hs:swapsWith e (some (.Name x pos')) pos.line X.env=pure false:=by rfl)(hf:X.fn x=true\/X.env.scope.names.lookup x=some .local:=by first | exact .inl rfl | exact .inr rfl | assumption):PS X (.Assign [.Name x pos'] e pos) (FG te (gW i)):=Dr hN hi hx he hs hf
def eV{X:Cx}{x:Str}{pos:Pos}(i:Nat)(hN:X.N.Nodup)(hi:X.N[i]? =some x:=by rfl)(hx:J6 X.env.scope x:=by first | exact .inl rfl | exact .inr rfl)(hf:X.fn x=true\/X.env.scope.names.lookup x=some .local:=by first | exact .inl rfl | exact .inr rfl | assumption):PG X (.Name x pos) (gW i):=qk hN hi hx hf
def lO{X:Cx}{pos:Pos}{tg iter:Expr}{body:List Stmt}{wi:TI}{g:TG}{tb:TS}(hi:PI X tg iter wi)(hg:PG X tg g)(hb:PSs X body tb)(hp:PassesOwn (model X.prog X.w) X.A X.env X.xe:=by exact Ff)(hc:X.calm=true:=by rfl)(hs:∀x,foldedSetIterable iter X.env x=pure x:=by intro _;rfl):PS X (.For tg iter body [] pos) (Ir wi g tb):=IM hp hc hi hg hb hs
def oA{X:Cx}{a b:Expr}{ta tb:TE}{pos:Pos}{r:R2}(hr:LK X r)(ha:PE X a ta)(hb:PE X b tb)(hs:BB b:=by exact fun _ _=>rfl):PE X (.Subscript a b pos) (CQ r ta tb):=iJ hr ha hb hs
def eh(ha:PE X a ta):PE X (.Subscript a (.Constant (.int z) q p) pos) (CQ (BP X.K) ta (tC (.int z))):=iJ gm ha aw fun _ _=>rfl
def zh(ha:PE X a ta):PE X (.Subscript a (.Constant (.int z) q p) pos) (CQ (FZ X.K) ta (tC (.int z))):=iJ di ha aw fun _ _=>rfl
def eX{X:Cx}{a b:Expr}{ta tb:TE}{pos:Pos}{op:CmpOp}{r:R2}(ho:jO X (compareOp op) r)(ha:PE X a ta)(hb:PE X b tb)(hm:behindInMarks op b=false:=by first | exact rA _ | rfl):PT X (.Compare a [op] [b] pos) (Hm (CQ r ta tb)):=qj ho ha hb hm
def Ft{X:Cx}{a b:Expr}{ta tb:TE}{pos:Pos}{op:CmpOp}{r:R2}(ho:jO X (compareOp op) r)(ha:PE X a ta)(hb:PE X b tb)(hm:behindInMarks op b=false:=by first | exact rA _ | rfl):PE X (.Compare a [op] [b] pos) (CQ r ta tb):=F_ ho ha hb hm
def eR{X:Cx}{a:Expr}{ta:TE}(ha:PE X a ta)(h:eS a=true:=by rfl):PA X [a] (dF ta iZ):=bY ha cf h
def dO{X:Cx}{a b:Expr}{ta tb:TE}(ha:PE X a ta)(hb:PE X b tb)(h:eS a=true:=by rfl)(h2:eS b=true:=by rfl):PA X [a,b] (dF ta (dF tb iZ)):=bY ha (eR hb h2) h
def iS{X:Cx}{a b c:Expr}{ta tb tc:TE}(ha:PE X a ta)(hb:PE X b tb)(hc:PE X c tc)(h:eS a=true:=by rfl)(h2:eS b=true:=by rfl)(h3:eS c=true:=by rfl):PA X [a,b,c] (dF ta (dF tb (dF tc iZ))):=bY ha (dO hb hc h2 h3) h
def jz{X:Cx}{a b c d:Expr}{ta tb tc td:TE}(ha:PE X a ta)(hb:PE X b tb)(hc:PE X c tc)(hd:PE X d td)(h:eS a=true:=by rfl)(h2:eS b=true:=by rfl)(h3:eS c=true:=by rfl)(h4:eS d=true:=by rfl):PA X [a,b,c,d] (dF ta (dF tb (dF tc (dF td iZ)))):=bY ha (iS hb hc hd h2 h3 h4) h
def DE{X:Cx}{a o:Expr}{ta tb:TE}{pos apos:Pos}(ho:PE X o ta)(ha:PE X a tb)(hs:eS a=true:=by rfl)(hbase:attributeBase o "append" X.env (eval o X.env)=eval o X.env:=by rfl)(hfew:((backTo pos (starEach [a] X.env)).all (fun x=> !x.1)&&(backToKw pos (keywordEach [] X.env)).all (fun x=>x.1.isSome)&&decide ([a].length+([]:List Keyword).length+(if([]:List Keyword).isEmpty then 0 else 1)<30))=true:=by rfl) (hline:(apos.endLine==pos.line)=true:=by rfl):PE X (.Call (.Attribute o "append" apos) [a] [] pos) (Nx X.K "list" AM ta (dF tb iZ)):=KS PySem.F.plainAttrs_list PySem.F.slot_list_append PySem.F.type_list_append uj ho (eR ha hs) hbase hfew hline (qc hs) rfl
def BR{X:Cx}{a:Expr}{ta:TE}{p pos:Pos}(m:X.mg "len"=none)(ha:PE X a ta)(hs:eS a=true:=by rfl)(hg:Gl X "len":=by rfl):PE X (.Call (.Name "len" p) [a] [] pos) (LV (fun xs H Q=>∃p ys,xs=[V.ref p]/\(SqL X.K H p ys\/SqT X.K H p ys)/\Q (V.int ↑ys.length) H) (dF ta iZ)):=fC nO hg m Hb (eR ha hs) (by decide) (by decide) (qc hs) rfl
def yr{X:Cx}{x:Str}{a:Expr}{ta:TE}{p pos:Pos}{n:String}(m:X.mg "isinstance"=none)(m2:X.mg x=none)(hb:bootBuiltins x=some (.type n))(ha:PE X a ta)(hs:eS a=true:=by rfl)(hg:Gl X "isinstance":=by rfl)(hg2:Gl X x:=by rfl)(hn:x≠"__name__":=by decide)(hd:(x==("__debug__":Str))=false:=by decide){q:Pos}:PE X (.Call (.Name "isinstance" p) [a,.Name x q] [] pos) (LV (fun xs H Q=>∃x n t b,xs=[x,V.ty n]/\TyOf X.K H x t/\kitOne X.K t (Value.type n)=some b/\Q (V.bl b) H) (dF ta (dF (tC (.ty n)) iZ))):=fC kA hg m jL (dO ha (vp hg2 m2 hb rfl hn hd) hs) (by decide) (by decide) (qc hs) rfl
def pP{X:Cx}{e o:Expr}{td:TE}{pos apos:Pos}{f:Expr}{ty tx:TE}(hu:X.A.units+1<cLine)(ho:PE X o td)(he:PE X e ty)(hf:PE X f tx)(m:M2 X o "get" apos e f pos:=by exact⟨rfl,rfl,rfl,rfl⟩):PE X (.Call (.Attribute o "get" apos) [e,f] [] pos) (uK td ty tx):=DC hu ho he hf m
def wg{X:Cx}{o:Expr}{td:TE}{pos:Pos}{i:Expr}{ty:TE}(hu:X.A.units+1<cLine)(ho:PE X o td)(hi:PE X i ty)(hs:Hc i:=by exact fun _ _=>rfl):PE X (.Subscript o i pos) (wB td ty):=F9 hu ho hi hs
def c_{X:Cx}{e:Expr}{ta:TE}{pos:Pos}{f:Str}(he:PE X e ta)(hb:attributeBase e f X.env (eval e X.env)=eval e X.env:=by rfl):PE X (.Attribute e f pos) (yx X.K ta f):=IT he hb
end
end L2
namespace K22
open PySem L2
abbrev zf:List Str:=["_law_bag","_law_cell_here"]
abbrev vd:List Str:=["_law_bag","_law_kin","_law_ties","_law_deep"]
abbrev F3:List Str:=["_law_bag","_law_kin","_law_ties","_law_things_here"]
abbrev KR:List Str:=["_law_bag","_law_kin","_law_ties"]
abbrev ze:List Str:=["_law_bag","_law_many"]
abbrev vb:List Str:=["_law_cell_here","_law_many"]
abbrev Dp:List Str:=["_law_claim"]
abbrev va:List Str:=["_law_found"]
abbrev Do:List Str:=["_law_k"]
abbrev qql9:List Str:=["_law_p","_law_thick","_law_bag"]
abbrev qql10:List Str:=["_law_p"]
abbrev Bb:List Str:=["_law_script","_law_bag","_law_world_here","_law_kin","_law_ties","_law_things_here"]
abbrev uf:List Str:=["_law_script","_law_k"]
abbrev Ba:List Str:=["_law_script","_law_kin","_law_ties","_law_things_here"]
abbrev xl:List Str:=["_law_script"]
abbrev ue:List Str:=["_law_some","_law_others"]
abbrev ud:List Str:=["_law_some","_law_p"]
abbrev A_:List Str:=["_law_world_here","_law_claim"]
abbrev lM:List Str:=["_law_world_here","_law_kind_here"]
abbrev AY:List Str:=["_law_world_here","_law_saying_here"]
abbrev xj:List Str:=["_law_world_here","_law_x","_law_tie","_law_y"]
abbrev q_:List Str:=["_law_world_here","_law_x"]
abbrev nr:List Str:=["_law_x"]
abbrev xi:List Str:=["at","other","is_first"]
abbrev AX:List Str:=["kind","kind"]
abbrev pD:List Str:=["kind","kinds","ties"]
abbrev gT:List Str:=["kind"]
abbrev AW:List Str:=["pairs","further"]
abbrev AV:List Str:=["pairs","starts","further","steps"]
abbrev pC:List Str:=["self","at","x","kind"]
abbrev pA:List Str:=["self","at","x","tie","y"]
abbrev AU:List Str:=["self","at","y","kind"]
abbrev nj:List Str:=["self","kind"]
abbrev xh:List Str:=["self","lore"]
abbrev AS:List Str:=["self","number","saying"]
abbrev AR:List Str:=["self","pairs","starts"]
abbrev AQ:List Str:=["self","steps"]
abbrev ni:List Str:=["self","x","kind","rule","froms","number"]
abbrev AO:List Str:=["self","x","kind","step"]
abbrev qZ:List Str:=["self","x","tie","y","rule","froms","number"]
abbrev AN:List Str:=["self","x","tie","y","step"]
abbrev fA:List Str:=["self","x"]
abbrev ng:List Str:=["self"]
abbrev qql43:List Str:=["sign"]
abbrev qY:List Str:=["table","key","entry"]
abbrev lK:List Str:=["text"]
noncomputable def gF(i:Nat):Stmt:=PySem.Challenge.pw_kinwords_k22_whole_standstills_hold.main.body.getD i (.Pass ⟨0,0,0,0⟩)
noncomputable abbrev yW:Stmt:=gF 3
noncomputable abbrev xc:Stmt:=gF 4
noncomputable abbrev uY:Stmt:=gF 5
noncomputable abbrev yR:Stmt:=gF 8
noncomputable abbrev IJ:Stmt:=gF 9
noncomputable abbrev yO:Stmt:=gF 10
noncomputable abbrev AI:Stmt:=gF 11
noncomputable abbrev MF:Stmt:=gF 13
noncomputable abbrev yV:Stmt:=dP (gF 14) 0
noncomputable abbrev jy:Stmt:=dP (gF 14) 1
noncomputable abbrev kJ:Stmt:=dP (gF 14) 2
noncomputable abbrev u7:Stmt:=dP (gF 14) 3
noncomputable abbrev u3:Stmt:=dP (gF 14) 4
noncomputable abbrev uZ:Stmt:=gF 15
noncomputable abbrev uV:Stmt:=gF 17
noncomputable abbrev qU:Stmt:=gF 18
noncomputable abbrev u_:Stmt:=gF 20
noncomputable abbrev qX:Stmt:=gF 21
noncomputable abbrev yS:Stmt:=dP (gF 22) 0
noncomputable abbrev qW:Stmt:=dP (gF 22) 1
noncomputable abbrev ot:Stmt:=dP (gF 22) 2
noncomputable abbrev qV:Stmt:=dP (gF 22) 3
noncomputable abbrev oq:Stmt:=dP (gF 22) 4
noncomputable abbrev md:Stmt:=dP (gF 22) 5
noncomputable abbrev l_:Stmt:=dP (gF 22) 6
noncomputable abbrev uX:Stmt:=dP (gF 22) 7
noncomputable abbrev yT:Stmt:=dP (gF 22) 8
noncomputable abbrev mf:Stmt:=dP (gF 22) 9
noncomputable abbrev jZ:Stmt:=dP (gF 22) 10
noncomputable abbrev ow:Stmt:=dP (gF 22) 11
noncomputable abbrev ou:Stmt:=dP (gF 22) 12
noncomputable abbrev jx:Stmt:=dP (gF 22) 13
noncomputable abbrev yP:Stmt:=gF 23
noncomputable abbrev Dj:Stmt:=gF 25
noncomputable abbrev Di:Stmt:=gF 26
noncomputable abbrev yQ:Stmt:=gF 27
noncomputable abbrev yM:Stmt:=gF 28
noncomputable abbrev uU:Stmt:=gF 29
noncomputable abbrev AJ:Stmt:=gF 30
noncomputable abbrev yN:Stmt:=gF 31
noncomputable abbrev qi:Stmt:=gF 32
noncomputable abbrev yY:Stmt:=gF 33
noncomputable abbrev II:Stmt:=gF 34
noncomputable abbrev uW:Stmt:=gF 35
noncomputable abbrev yL:Stmt:=gF 36
noncomputable abbrev LX:Stmt:=gF 37
noncomputable abbrev yZ:Stmt:=gF 38
noncomputable abbrev yU:Stmt:=gF 39
noncomputable abbrev Dg:Stmt:=gF 40
noncomputable abbrev Df:Stmt:=gF 41
noncomputable abbrev IH:Stmt:=gF 42
noncomputable abbrev yX:Stmt:=gF 43
noncomputable abbrev De:Stmt:=gF 44
noncomputable abbrev IG:Stmt:=gF 45
def bz(h:n<=1000):n<=sizeLine:=eF (bH h)
def bR(h:Same H H')(hp:H p=none):Same H (upd H' p o):=fun b u q=>by
 rw[aB (bp q hp)];exact h b u q
def bP(h:Same H H')(hp:H' p=none):H p=none:=by
 cases c:H p with
 | none=>rfl
 | some oo=>rw[h _ _ c] at hp;cases hp
structure Kp(L:List Addr)(H H':Hp):Prop where
 but:∀c o,c∉L->H c=some o->H' c=some o
 tups:Tups H H'
def Kp.refl(L:List Addr)(H:Hp):Kp L H H:=⟨fun _ _ _ h=>h,Tups.refl H⟩
def Kp.trans(a:Kp L H H1)(b:Kp L H1 H2):Kp L H H2:=⟨fun c o h e=>b.but c o h (a.but c o h e),a.tups.trans b.tups⟩
def Kp.of(s:Same H H1):Kp L H H1:=⟨fun c o _ e=>s c o e,s.tups⟩
def Kp.lst{L:List Addr}{H:Hp}{l:Addr}{xs:List V}{o:HO}(hl:l∈L)(e:H l=some (.lst xs)):Kp L H (upd H l o):=⟨fun c u hc h=>by rw[aB (show c≠l from fun z=>hc (by rw[z];exact hl))];exact h,CM e⟩
def Kp.mono(a:Kp L H H1)(h:∀x∈L,x∈L'):Kp L' H H1:=⟨fun c o hc e=>a.but c o (fun z=>hc (h c z)) e,a.tups⟩
inductive Fa where
 | is (x k:Kd)
 | has (x:Kd) (t:Str) (y:Kd)
 deriving DecidableEq
noncomputable def Fa.x:Fa->Kd
 | .is x _=>x
 | .has x _ _=>x
def IsF(H:Hp):Fa->V->Prop
 | .is x k,v=>∃(p:Addr) (a b:V),v= .ref p/\H p=some (.tup [.str "is",a,b])/\IsK H x a/\IsK H k b
 | .has x t y,v=>∃(p:Addr) (a b:V),v= .ref p/\H p=some (.tup [.str "has",a,.str t,b])/\IsK H x a/\IsK H y b
theorem IsF.mono(t:Tups H H'):∀{f:Fa} {v:V},IsF H f v->IsF H' f v
 | .is _ _,_,⟨p,a,b,e,h,ha,hb⟩=>⟨p,a,b,e,t _ _ h,ha.mono t,hb.mono t⟩
 | .has _ _ _,_,⟨p,a,b,e,h,ha,hb⟩=>⟨p,a,b,e,t _ _ h,ha.mono t,hb.mono t⟩
def Fa.lo(n:Nat):Fa->Prop
 | .is x k=>x.dep<=n/\k.dep<=n
 | .has x _ y=>x.dep<=n/\y.dep<=n
inductive Ru where
 | self | all | thing | tied | every | first | second | some | within | no | both | tie | none | makes | oth
 deriving DecidableEq
noncomputable def AK:Ru->Str
 | .self=>"self" | .all=>"all" | .thing=>"thing" | .tied=>"tied" | .every=>"every" | .first=>"first" | .second=>"second" | .some=>"some"
 | .within=>"within" | .no=>"no" | .both=>"both" | .tie=>"tie" | .none=>"none" | .makes=>"makes" | .oth=>""
inductive Sy where
 | every (a b:Kd) | no (a b:Kd) | thing (x:Str) (k:Kd) | tied (x t y:Str) | within (r s:Str) | makes (r s t:Str)
 deriving DecidableEq
noncomputable def Sy.hd:Sy->Ru
 | .every _ _=> .every | .no _ _=> .no | .thing _ _=> .thing | .tied _ _ _=> .tied | .within _ _=> .within | .makes _ _ _=> .makes
noncomputable def Sy.parts:Sy->List Kd
 | .every a b=>[a,b] | .no a b=>[a,b] | .thing x k=>[.nm x,k] | .tied x t y=>[.nm x,.nm t,.nm y] | .within r s=>[.nm r,.nm s] | .makes r s t=>[.nm r,.nm s,.nm t]
def IsSy(H:Hp)(s:Sy)(v:V):Prop:=∃p xs,v= .ref p/\H p=some (.tup (.str (AK s.hd)::xs))/\KL H xs s.parts
def IsSy.mono{H H':Hp}(t:Tups H H'){s:Sy}{v:V}(h:IsSy H s v):IsSy H' s v:=by
 obtain⟨p,xs,e,h1,h2⟩:=h;exact⟨p,xs,e,t _ _ h1,KL.mono t h2⟩
def Sy.lo(n:Nat)(s:Sy):Prop:=∀k∈s.parts,k.dep<=n
structure sF where
 f:Fa
 r:Str
 fr:List Int
 n:Option Int
noncomputable def pQ:Option Int->V
 | none=> .non
 | some i=> .int i
def IsStp(L:List Addr)(H:Hp)(s:sF)(v:V):Prop:=∃p pf vf,v= .ref p/\H p=some (.tup [vf,.str s.r,.ref pf,pQ s.n])/\IsF H s.f vf/\H pf=some (.lst (s.fr.map V.int))/\pf∉L
def IsStp.keep{L:List Addr}{H H':Hp}(k:Kp L H H'){s:sF}{v:V}(h:IsStp L H s v):IsStp L H' s v:=by
 obtain⟨p,pf,vf,e,h1,h2,h3,h4⟩:=h;exact⟨p,pf,vf,e,k.tups _ _ h1,h2.mono k.tups,k.but _ _ h4 h3,h4⟩
def StL(L:List Addr)(H:Hp):List V->List sF->Prop:=Paired fun v s=>IsStp L H s v
def StL.keep{L:List Addr}{H H':Hp}(k:Kp L H H'){xs:List V}{ss:List sF}(h:StL L H xs ss):StL L H' xs ss:=Paired.imp' (fun _ _ q=>IsStp.keep k q) h
theorem rl:∀{xs ys:List α} {ks ls:List β},Paired R xs ks->Paired R ys ls->Paired R (xs++ys) (ks++ls)
 | _,_,_,_,.nil,s=>s
 | _,_,_,_,.cons r t,s=> .cons r (rl t s)
theorem dt:∀{xs:List α} {ks:List β} {i:Nat} {v:α},Paired R xs ks->xs[i]? =some v->∃k,ks[i]? =some k/\R v k
 | _,_,_,_,.nil,e=>by simp at e
 | _,_,0,_,.cons r _,e=>by simp at e;subst e;exact⟨_,rfl,r⟩
 | _,_,i+1,v,.cons _ t,e=>by
   obtain⟨u,h1,h2⟩:=dt (i:=i) (v:=v) t (by simpa using e);exact⟨u,by simpa using h1,h2⟩
def IsPr(H:Hp)(q:Int × Sy)(v:V):Prop:=∃p vs,v= .ref p/\H p=some (.tup [.int q.1,vs])/\IsSy H q.2 vs
def IsPr.mono{H H':Hp}(t:Tups H H'){q:Int × Sy}{v:V}(h:IsPr H q v):IsPr H' q v:=by
 obtain⟨p,vs,e,h1,h2⟩:=h;exact⟨p,vs,e,t _ _ h1,h2.mono t⟩
def PrL(H:Hp):List V->List (Int × Sy)->Prop:=Paired fun v q=>IsPr H q v
def PrL.mono{H H':Hp}(t:Tups H H'){xs:List V}{qs:List (Int × Sy)}(h:PrL H xs qs):PrL H' xs qs:=Paired.imp' (fun _ _ q=>IsPr.mono t q) h
def jq(h:H p=some (.tup xs))(e:zU xs i=some v)(q:Q v H):zd K H Q p i:=⟨xs,v,SqT.of h,e,q⟩
noncomputable def Kd.tieL:Kd->List Str
 | .nm _=>[]
 | .two a b=>Kd.tieL a++Kd.tieL b
 | .som r c=>r::Kd.tieL c
def dR(K:Frag):kitOne K (.type "str") (.type "str")=some true:=rfl
def cY(K:Frag):kitOne K (.type "tuple") (.type "str")=some false:=by
 first | rfl | decide | with_unfolding_all rfl
inductive tX(vs:List V)(H:Hp)(Q:VK):Prop
 | mk:∀v k,(vs=[v])->(IsK H k v)->(∀p xs,H p=none->KL H xs k.inner->Q (.ref p) (upd H p (.lst xs)))->tX vs H Q
def qf:Sp:=fun vs H Q _=>tX vs H Q
section
def FV:bw gT gT (aM yW):=gH
def ba:=fun {a b c d e}=> @fB a b c d e
def bg:=fun {a b c}=> @fS a b c
def DX(F:Fun K "inner_kinds" "inner_kinds" yW f fd)(mi:mg "isinstance"=none)(ms:mg "str"=none):b_ P w K mg base eU 1 f fd gT qf:=by
 refine F.o FV fun cdv A outer s H vs Q E hr h=> ?_;obtain⟨v,k,rfl,hk,q⟩:=h;refine⟨_,ba (by exact bL (d4 (fC kA rfl mi jL (d8 aD (d8 (vp (v:= .ty "str") rfl ms cm rfl) cf)))) (fS (gB (bS cf))) be) (ba (by exact bL (qj cT (iJ gm aD aw (fun _ _=>rfl)) bq (rA _)) (fS (gB (bS (d8 (iJ gm aD aw (fun _ _=>rfl)) (d8 (iJ gm aD aw (fun _ _=>rfl)) cf))))) be) (bg (by exact gB (bS (d8 (iJ gm aD aw (fun _ _=>rfl)) cf))))),?_⟩;cases k with
 | nm x=>
   obtain rfl:v= .str x:=hk;exact⟨_,_,_,true,rfl,TyOf.str x,dR K,⟨av _,fun p hp=>q p [] hp .nil⟩⟩
 | two a b=>
   obtain⟨p,x,y,rfl,hp,ha,hb⟩:=id hk;refine⟨_,_,_,false,rfl,TyOf.tup hp,cY K,?_⟩;refine⟨_,_,SqT.of hp,aJ (j:=0) rfl,?_⟩;refine⟨_,_,SqT.of hp,aJ (j:=1) rfl,_,_,SqT.of hp,aJ (j:=2) rfl,bz (by show 2<=1000;decide),fun r hr'=> ?_⟩;exact q r [x,y] hr' (.cons ha (.cons hb .nil))
 | som r c=>
   obtain⟨p,y,rfl,hp,hc⟩:=id hk;refine⟨_,_,_,false,rfl,TyOf.tup hp,cY K,?_⟩;refine⟨_,_,SqT.of hp,aJ (j:=0) rfl,?_⟩;refine⟨_,_,SqT.of hp,aJ (j:=2) rfl,bz (by show 1<=1000;decide),fun t ht=> ?_⟩;exact q t [y] ht (.cons hc .nil)
end
end K22
namespace L2
open PySem PySem.Spec PyProof.Rows
def fF(hc:X.calm=true):n_ X (.type "list") (fun xs H Q=>∃(a:Addr) (kvs:List (Key × V)) (ss:List Str),xs=[.ref a]/\H a=some (.dK kvs)/\kvs.map (·.1)=ss.map Sum.inr/\∀p,H p=none->Q (.ref p) (upd H p (.lst (ss.map V.str)))):=by
 intro pins s σ H xs us Q I r h;obtain⟨a,kvs,ss,rfl,ha,hk,q⟩:=h;obtain⟨u,rfl,ru⟩:=r.one;cases ru;obtain⟨z,hd,vs,rel,o,es,ep,ho,hx,hdat,hks,hps,hnd⟩:=Bv I.hok ha;have da:s.heap.DictAt (cQ X.prog X.w) a vs ep:=⟨o,es,ho,hx,hdat,hks,hps,hnd⟩;have hlen:=rel.length;refine PySem.W.kdl_call (PySem.W.kdl_dict (knd:=cQ X.prog X.w) (kvs:=vs) (ep:=ep) hd) (I.ok.hd hc) da (by lia) fun h' tk acc c' hk' hl hit=> ?_;have hacc:acc.toList.length=vs.length:=by rw[gQ];exact hit.1
 have hv:Vals (ss.map V.str) acc.toList:=tf (P:=X.prog) (w:=X.w) rel hk hacc fun j v hj=>hit.2 j v (by simpa using hj);have hsl:(ss.map V.str).length<=sizeLine:=by rw[hv.length,hacc];lia
 exact⟨.ref s.heap.objs.size,_,I.laid (t':=tk) hk' (ar _) (show ObjOk X.prog X.w _ _ _ (.lst (ss.map V.str)) from⟨hsl,acc.toList,c',hv,hl⟩),rfl,q _ (I.hok.fresh (ar _))⟩
end L2
namespace K22
open PySem L2
noncomputable def whole(x:Str):Bool:=x=="anything" || x=="nothing"
noncomputable def Kd.kindL:Kd->List Str
 | .nm x=>if whole x then [] else [x]
 | .two a b=>Kd.kindL a++Kd.kindL b
 | .som _ c=>Kd.kindL c
noncomputable def nV(A:List Str)(x:Str):List Str:=if x∈A then A else A++[x]
noncomputable def cS(A:List Str)(xs:List Str):List Str:=xs.foldl nV A
def iD(A xs ys:List Str):cS A (xs++ys)=cS (cS A xs) ys:=by simp[cS]
noncomputable def Dn(A:List Str):List (Key × V):=A.map fun x=>(Sum.inr x,V.bl true)
def oY(A:List Str):(Dn A).length=A.length:=by simp[Dn]
def nZ(A:List Str):(Dn A).map (·.1)=A.map Sum.inr:=by simp[Dn]
def J_(A:List Str)(x:Str):(Dn A).any (fun kv=>decide (kv.1=Sum.inr x))=decide (x∈A):=by
 induction A with
 | nil=>rfl
 | cons a A ih=>
   show(decide ((Sum.inr a:Key)=Sum.inr x) || (Dn A).any (fun kv=>decide (kv.1=Sum.inr x)))=_;rw[ih];by_cases e:a=x
   · subst e;simp
   · have h1:¬ (Sum.inr a:Key)=Sum.inr x:=fun z=>e (Nc z);rw[ag h1,Bool.false_or]
     congr 1
     simp[br e]
def oX(A:List Str)(x:Str):bZ (Dn A) (.inr x) (.bl true)=Dn (nV A x):=by
 unfold bZ nV;rw[J_];by_cases e:x∈A
 · rw[aE (ah e),aE e];unfold Dn;rw[iF]
   congr 1
   funext y
   show(if(Sum.inr y:Key)=Sum.inr x then((Sum.inr y:Key),V.bl true) else(Sum.inr y,V.bl true))=_
   split<;>rfl
 · rw[aA (by rw[ag e];decide),aA e];simp[Dn]
def yk(A:List Str)(x:Str):(nV A x).length<=A.length+1:=by
 unfold nV
 split
 · lia
 · simp
theorem er:∀xs A,(cS A xs).length<=A.length+xs.length
 | [],A=>by simp[cS]
 | x::xs,A=>by
   have:=er xs (nV A x);have h2:=yk A x;show(cS (nV A x) xs).length<=A.length+(xs.length+1)
   lia
theorem kj:∀k:Kd,(Kd.kindL k).length<=k.sz
 | .nm x=>by unfold Kd.kindL;split<;>simp[Kd.sz]
 | .two a b=>by have:=kj a;have:=kj b;simp only[Kd.kindL,ak,Kd.sz];lia
 | .som _ c=>by have:=kj c;simp only[Kd.kindL,Kd.sz];lia
theorem mQ:∀k:Kd,(Kd.tieL k).length<=k.sz
 | .nm x=>by simp[Kd.tieL,Kd.sz]
 | .two a b=>by have:=mQ a;have:=mQ b;simp only[Kd.tieL,ak,Kd.sz];lia
 | .som _ c=>by have:=mQ c;simp only[Kd.tieL,Kd.sz,bj];lia
def But2(a b:Addr)(H H':Hp):Prop:=∀c o,c≠a->c≠b->H c=some o->H' c=some o
def But2.refl(a b:Addr)(H:Hp):But2 a b H H:=fun c o _ _ h=>h
def But2.trans(x:But2 a b H H1)(y:But2 a b H1 H2):But2 a b H H2:=fun c o h1 h2 h=>y c o h1 h2 (x c o h1 h2 h)
def Same.but2(x:Same H H1):But2 a b H H1:=fun c o _ _ h=>x c o h
def JV:But2 a b H (upd H a o):=fun c u h1 _ h=>by rw[aB h1];exact h
def JU:But2 a b H (upd H b o):=fun c u _ h2 h=>by rw[aB h2];exact h
def But2.tups(q:But2 a b H H1)(ha:H a=some (.dK x))(hb:H b=some (.dK y)):Tups H H1:=fun c xs h=>by
 refine q c _ (fun e=> ?_) (fun e=> ?_) h
 · rw[e,ha] at h;cases h
 · rw[e,hb] at h;cases h
noncomputable def szs(l:List Kd):Nat:=(l.map Kd.sz).sum
def Ai(a b:List Kd):szs (a++b)=szs a+szs b:=by simp[szs]
def BG(k:Kd):k.sz=1+szs k.inner:=by
 cases k<;>simp[szs,Kd.inner,Kd.sz]<;>lia
noncomputable def zI(l:List Kd):List Str:=(l.map Kd.kindL).flatten
noncomputable def yw(l:List Kd):List Str:=(l.map Kd.tieL).flatten
def GG(a b:List Kd):zI (a++b)=zI a++zI b:=by simp[zI]
def FE(a b:List Kd):yw (a++b)=yw a++yw b:=by simp[yw]
theorem Bp:∀l:List Kd,(zI l).length<=szs l
 | []=>by simp[zI]
 | k::l=>by
   have h1:=Bp l;have h2:=kj k;have e1:zI (k::l)=Kd.kindL k++zI l:=by simp[zI]
   have e2:szs (k::l)=k.sz+szs l:=by simp[szs]
   rw[e1,e2,ak];lia
theorem Ag:∀l:List Kd,(yw l).length<=szs l
 | []=>by simp[yw]
 | k::l=>by
   have h1:=Ag l;have h2:=mQ k;have e1:yw (k::l)=Kd.tieL k++yw l:=by simp[yw]
   have e2:szs (k::l)=k.sz+szs l:=by simp[szs]
   rw[e1,e2,ak];lia
def CV(l:List Kd)(i:Nat):szs (l.take i)<=szs l:=by
 have:szs l=szs (l.take i)+szs (l.drop i):=by rw[<-Ai,sj]
 lia
def zN:([V.str "anything",V.str "nothing"]:List V).all jJ=true:=by decide+kernel
def ED(x:Str):wj (.str x) [V.str "anything",V.str "nothing"]=whole x:=by
 unfold wj whole;simp only[gh,List.any_nil,wo,Bu];rw[Bool.beq_comm (a:=Str.ofString "anything"),Bool.beq_comm (a:=Str.ofString "nothing")]
noncomputable def Kd.pre:Kd->List Str
 | .som r _=>[r]
 | _=>[]
def zG(h:∀x,k≠ .nm x):Kd.kindL k=zI k.inner/\Kd.tieL k=Kd.pre k++yw k.inner:=by
 cases k with
 | nm x=>exact absurd rfl (h x)
 | two a b=>constructor<;>simp[Kd.kindL,Kd.tieL,Kd.pre,zI,yw,Kd.inner]
 | som r c=>constructor<;>simp[Kd.kindL,Kd.tieL,Kd.pre,zI,yw,Kd.inner]
inductive wK(n:Nat)(vs:List V)(H:Hp)(Q:VK):Prop
 | mk:∀v k a b A B,(vs=[v,.ref a,.ref b])->(IsK H k v)->(a≠b)->(H a=some (.dK (Dn A)))->(H b=some (.dK (Dn B)))->(A.length+k.sz<=900)->(B.length+k.sz<=900)->(k.dep<n)->(∀H',But2 a b H H'->H' a=some (.dK (Dn (cS A (Kd.kindL k))))->H' b=some (.dK (Dn (cS B (Kd.tieL k))))->Q .non H')->wK n vs H Q
def lW(n:Nat):Sp:=fun vs H Q _=>wK n vs H Q
section
def scNote:bw ["kind","kinds","ties","part"] pD (aM xc):=gH
def j0:=fun {a b c d e}=> @vi a b c d e
def Gh(hk0:1<=k0)(F:Fun K "note_names" "note_names" xc f fd)(Gno:Cl P w K mg base k0 "note_names" pD (lW n))(Gi:Cl P w K mg base 1 "inner_kinds" gT qf)(mW:mg "WHOLES"=some (.ref aW))(hW:∀H,SqT K H aW [.str "anything",.str "nothing"])(mi:mg "isinstance"=none)(ms:mg "str"=none):b_ P w K mg base eU (k0+1) f fd pD (lW (n+1)):=by
 refine F.o scNote fun cdv A outer s H vs Q E hr h=> ?_;obtain⟨v,k,a,b,A',B,rfl,hk,hab,ha,hb,hA,hB,hd,q⟩:=h;have kGno:=F.kp;have hu:(A.deeper (PyProof.Rows.envOfC "note_names" (aM xc) s.heap.objs.size f cdv)).units+1<cLine:=by have:=hr.un;lia
 refine⟨_,ba (bL (d4 (yr mi ms cm aD)) (j0 (bL (eX gj aD (ql (v:= .ref aW) rfl mW rfl)) (bg (df hu bf aD eQ rfl)) be) (bg (kL))) be) (j0 (bL (eX cT (eh aD) bq) (bg (df hu bJ (eh aD) eQ rfl)) be) (bg (lO (bT (dG Gi hr (eR aD))) (eV 3 scNote.nd) (bg (bC (dG Gno hr (iS cE bf bJ))))))),?_⟩;have fin:∀(H1:Hp) (B1:List Str),(∀x,k≠ .nm x)->B1=cS B (Kd.pre k)->But2 a b H H1->H1 a=some (.dK (Dn A'))->H1 b=some (.dK (Dn B1))->
  Ir (lQ K (qH qf [] E0 (dF (og 0) iZ))) (gW 3) (Hq (qH (lW n) [] E0 (dF (og 3) (dF (og 1) (dF (og 2) iZ))))) {nx:=fun x H'=>Q V.non H',rt:=Q} [some v,some (.ref a),some (.ref b),none] H1:=by
  intro H1 B1 hnm hB1 q1 e1 e2;have t1:Tups H H1:=q1.tups ha hb;have hk1:=IsK.mono t1 hk;refine⟨v,k,rfl,hk1,fun p xs hp hL=>⟨⟨_,SqL.of upd_same⟩,?_⟩⟩;have pa:p≠a:=fun z=>by rw[z,e1] at hp;cases hp
  have pb:p≠b:=fun z=>by rw[z,e2] at hp;cases hp
  have sp:=aj hp (.lst xs);have lL:=KL.len hL;have hsz:=BG k;have hpl:(Kd.pre k).length<=1:=by cases k<;>simp[Kd.pre]
  have hBl:B1.length<=B.length+1:=by rw[hB1];have:=er (Kd.pre k) B;lia
  obtain⟨ek,et⟩:=zG hnm;refine ck (xs:=xs) (fun i σ H3=>∃o3:Option V,σ=[some v,some (.ref a),some (.ref b),o3]/\But2 a b (upd H1 p (.lst xs)) H3/\H3 a=some (.dK (Dn (cS A' (zI (k.inner.take i)))))/\H3 b=some (.dK (Dn (cS B1 (yw (k.inner.take i)))))) ⟨none,rfl,But2.refl _ _ _,by rw[lD];exact sp _ _ e1,by rw[lD];exact sp _ _ e2⟩ ?_ ?_ ?_
  · rintro i σ H3 hi ⟨o3,rfl,q3,_⟩;exact SqL.of (q3 _ _ pa pb upd_same)
  · rintro i x σ H3 hx ⟨o3,rfl,q3,ea,eb⟩;obtain⟨kk,hk2,ik⟩:=KL.get hL hx;have hkm:kk∈k.inner:=au hk2;have t3:Tups (upd H1 p (.lst xs)) H3:=q3.tups (sp _ _ e1) (sp _ _ e2);have hsum:szs (k.inner.take i)+kk.sz<=szs k.inner:=by
     have h1:=CV k.inner (i+1);rw[bx,hk2,Ai] at h1;simpa[szs] using h1
    have la:=er (zI (k.inner.take i)) A';have lb:=er (yw (k.inner.take i)) B1;have la2:=Bp (k.inner.take i);have lb2:=Ag (k.inner.take i);have hdep:kk.dep<k.dep:=by
     cases k with
     | nm x=>exact absurd rfl (hnm x)
     | two c d=>
       simp only[Kd.inner,aI,dU,bW] at hkm;rcases hkm with rfl | rfl<;>simp only[Kd.dep]<;>lia
     | som r c=>
       simp only[Kd.inner,aI,dU,bW] at hkm;subst hkm;simp only[Kd.dep];lia
    refine⟨x,kk,a,b,_,_,rfl,IsK.mono (sp.tups.trans t3) ik,hab,ea,eb,by lia,by lia,by lia,fun H4 q4 ea4 eb4=> ?_⟩;refine⟨_,rfl,q3.trans q4,?_,?_⟩
    · rw[bx,hk2,GG,iD];simpa[zI] using ea4
    · rw[bx,hk2,FE,iD];simpa[yw] using eb4
  · rintro σ H3 ⟨o3,rfl,q3,ea,eb⟩;rw[lL,aY] at ea eb;refine q H3 (q1.trans ((Same.but2 sp).trans q3)) (by rw[ek];exact ea) ?_;rw[et,iD,<-hB1];exact eb
 cases k with
 | nm x=>
   obtain rfl:v= .str x:=hk;refine⟨_,_,_,true,rfl,TyOf.str x,dR K,?_⟩;refine⟨fun σ' H'=>But2 a b H H'/\H' a=some (.dK (Dn (cS A' (Kd.kindL (.nm x)))))/\H' b=some (.dK (Dn B)),?_,fun σ' H' ⟨q1,e1,e2⟩=>q H' q1 e1 e2⟩;refine⟨aW,_,rfl,.inr (hW _),rfl,zN,?_⟩;show if(!wj (.str x) [V.str "anything",V.str "nothing"])=true then _ else _
   rw[ED];refine fY (fun c1=> ?_) (fun c1=> ?_)
   · have hw:whole x=false:=by simpa using c1
     refine⟨_,DPut.k (k:=Sum.inr x) ha (bH (by rw[oY];lia)),JV,?_,by rw[aB (br hab)];exact hb⟩;rw[upd_same,oX];have e0:Kd.kindL (.nm x)=[x]:=by unfold Kd.kindL;rw[hw];rfl
     rw[e0];rfl
   · have hw:whole x=true:=by simpa using c1
     have e0:Kd.kindL (.nm x)=[]:=by unfold Kd.kindL;rw[hw];rfl
     exact⟨But2.refl _ _ _,by rw[e0];exact ha,hb⟩
 | two c d=>
   obtain⟨p,x,y,rfl,hp,hc,hd'⟩:=id hk;refine⟨_,_,_,false,rfl,TyOf.tup hp,cY K,?_⟩;refine⟨fun σ' H'=>σ'=[some (.ref p),some (.ref a),some (.ref b),none]/\H'=H,?_,?_⟩
   · refine⟨_,_,SqT.of hp,aJ (j:=0) rfl,?_⟩;exact⟨rfl,rfl⟩
   · rintro σ' H' ⟨rfl,rfl⟩;exact fin H' B (fun x z=>by cases z) rfl (But2.refl _ _ _) ha hb
 | som r c=>
   obtain⟨p,y,rfl,hp,hc⟩:=id hk;refine⟨_,_,_,false,rfl,TyOf.tup hp,cY K,?_⟩;refine⟨fun σ' H'=>σ'=[some (.ref p),some (.ref a),some (.ref b),none]/\But2 a b H H'/\H' a=some (.dK (Dn A'))/\H' b=some (.dK (Dn (cS B [r]))),?_,?_⟩
   · refine⟨_,_,SqT.of hp,aJ (j:=0) rfl,?_⟩;refine⟨_,_,SqT.of hp,aJ (j:=1) rfl,_,DPut.k (k:=Sum.inr r) hb (bH (by rw[oY];lia)),rfl,JU,by rw[aB hab];exact ha,?_⟩;rw[upd_same,oX];rfl
   · rintro σ' H' ⟨rfl,q1,e1,e2⟩;exact fin H' _ (fun x z=>by cases z) rfl q1 e1 e2
def B8:b_ P w K mg base eU 1 f fd pD (lW 0):=by
 have no:∀vs H Q E,¬ lW 0 vs H Q E:=fun vs H Q E h=>by
  obtain⟨v,k,a,b,A,B,_,_,_,_,_,_,_,h,_⟩:=h
  lia
 exact⟨fun vs H Q E h=>absurd h (no vs H Q E),fun A outer s H args us vs Q E _ _ _ _ h=>absurd h (no vs H Q E)⟩
theorem xC(A:Fq K mg "note_names" xc pD)(Gi:Cl P w K mg base 1 "inner_kinds" gT qf)(mW:mg "WHOLES"=some (.ref aW))(hW:∀H,SqT K H aW [.str "anything",.str "nothing"])(mi:mg "isinstance"=none)(ms:mg "str"=none):∀n:Nat,Cl P w K mg base (n+1) "note_names" pD (lW n)
 | 0=>A.cl fun _=>B8
 | n+1=>A.cl fun F=>Gh (by lia) F (xC A Gi mW hW mi ms n) Gi mW hW mi ms
end
structure Sg where
 form:Str
 ps:List (Str × Kd)
noncomputable def jE:List (Str × List Str):=[("every",AX),("no",AX),("thing",["thing","kind"]),("tied",["thing","tie","thing"]),("within",["tie","tie"]),("makes",["tie","tie","tie"])]
def v7(p:Str × Kd):Prop:=(p.1="kind"/\p.2.sz<=60)\/((p.1="tie"\/p.1="thing")/\∃x,p.2= .nm x)
structure Sg.Ok(S:Sg):Prop where
 fo:(S.form,S.ps.map (·.1))∈jE
 po:∀p∈S.ps,v7 p
def NR(H:Hp)(S:Sg)(v:V):Prop:=∃p xs,v= .ref p/\H p=some (.tup (.str S.form::xs))/\KL H xs (S.ps.map (·.2))
noncomputable def pK(p:Str × Kd):List Str:=if p.1="kind" then Kd.kindL p.2 else []
noncomputable def pT(p:Str × Kd):List Str:=if p.1="kind" then Kd.tieL p.2 else if p.1="tie" then(match p.2 with | .nm x=>[x] | _=>[]) else []
noncomputable def pG(p:Str × Kd):List Str:=if p.1="thing" then(match p.2 with | .nm x=>[x] | _=>[]) else []
noncomputable def IZ(S:Sg):List Str:=cS [] ((S.ps.map pK).flatten)
noncomputable def IY(S:Sg):List Str:=cS [] ((S.ps.map pT).flatten)
noncomputable def j6(S:Sg):List Str:=cS [] ((S.ps.map pG).flatten)
def Lq(x:V)(xs:List V):mC (x::xs) (some 1) none=xs:=by
 have h1:HT.sIx (x::xs).length 0 (some ((1:Nat):Int))=1:=by rw[HT.sIx_nat];simp only[bj];lia
 have h2:HT.sIx (x::xs).length (x::xs).length none=(x::xs).length:=rfl;unfold mC;rw[show(some 1:Option Int)=some ((1:Nat):Int) from rfl,h1,h2];simp
def KN(x:V)(xs:List V):¬ (HT.sIx (x::xs).length 0 (some 1)=0/\HT.sIx (x::xs).length (x::xs).length none=(x::xs).length):=by
 have h1:HT.sIx (x::xs).length 0 (some ((1:Nat):Int))=1:=by rw[HT.sIx_nat];simp only[bj];lia
 rw[show(some 1:Option Int)=some ((1:Nat):Int) from rfl,h1]
 lia
theorem j8:∀k:Kd,k.nt<k.sz
 | .nm _=>by simp[Kd.nt,Kd.sz]
 | .two a b=>by have:=j8 a;have:=j8 b;simp only[Kd.nt,Kd.sz];lia
 | .som _ c=>by have:=j8 c;simp only[Kd.nt,Kd.sz];lia
def parts_len{l:List (Str × Kd)}{f:Str × Kd->List Str}(h:∀p∈l,(f p).length<=60):((l.map f).flatten).length<=60 * l.length:=by
 induction l with
 | nil=>simp
 | cons p l ih=>
   have h1:=h p (by simp);have h2:=ih fun q hq=>h q (aG _ hq);simp only[bM,List.flatten_cons,ak,bj]
   lia
def IW(h:v7 p):(pK p).length<=60:=by
 unfold pK
 split
 · rename_i e;rcases h with⟨_,h⟩ | ⟨h | h,_⟩
   · have:=kj p.2;lia
   · rw[h] at e;exact absurd e (by decide+kernel)
   · rw[h] at e;exact absurd e (by decide+kernel)
 · simp
def IV(h:v7 p):(pT p).length<=60:=by
 unfold pT
 split
 · rename_i e;rcases h with⟨_,h⟩ | ⟨h | h,_⟩
   · have:=mQ p.2;lia
   · rw[h] at e;exact absurd e (by decide+kernel)
   · rw[h] at e;exact absurd e (by decide+kernel)
 · split
   · split<;>simp
   · simp
def IX(p:Str × Kd):(pG p).length<=60:=by
 unfold pG
 split
 · split<;>simp
 · simp
def Co(h:(f,ss)∈jE):ss.length<=3:=by
 simp only[jE,aI,dU,bW,Prod.mk.injEq] at h;rcases h with⟨_,rfl⟩ | ⟨_,rfl⟩ | ⟨_,rfl⟩ | ⟨_,rfl⟩ | ⟨_,rfl⟩ | ⟨_,rfl⟩<;>simp
inductive tQ(vs:List V)(H:Hp)(Q:VK):Prop
 | mk:∀v S,(vs=[v])->(NR H S v)->(S.Ok)->(∀q a b c H',Same H H'->H' q=some (.tup [.ref a,.ref b,.ref c])->H' a=some (.lst ((IZ S).map V.str))->H' b=some (.lst ((IY S).map V.str))->H' c=some (.lst ((j6 S).map V.str))->H q=none->H a=none->H b=none->H c=none->a≠b->a≠c->b≠c->Q (.ref q) H')->tQ vs H Q
def Av:Sp:=fun vs H Q _=>tQ vs H Q
section
def scNamed:bw ["saying","kinds","ties","things","sort","part"] ["saying"] (aM uY):=gH
def cX:=fun {a b c d e}=> @IR a b c d e
def cK:=fun {a b c d}=> @gB a b c d
def DT(F:Fun K "named" "named" uY f fd)(Gno:Cl P w K mg base 61 "note_names" pD (lW 60))(mF0:mg "FORMS"=some (.ref aF))(hF:∀fo ss,(fo,ss)∈jE->∃kvs a,uC K P w aF kvs/\cB kvs (.inr fo)=some (.ref a)/\∀H,SqT K H a (ss.map V.str))(mz:mg "zip"=none)(mls:mg "list"=none):b_ P w K mg base eU 62 f fd ["saying"] Av:=by
 refine F.o scNamed fun cdv A outer s H vs Q E hr h=> ?_;obtain⟨v,S,rfl,hv,hS,q⟩:=h;have hu:(A.deeper (PyProof.Rows.envOfC "named" (aM uY) s.heap.objs.size f cdv)).units+1<cLine:=by have:=hr.un;lia
 refine⟨_,ba (fR 1 scNamed.nd cL) (ba (fR 2 scNamed.nd cL) (ba (fR 3 scNamed.nd cL) (j0 (lO (Bd rfl mz (dO (Be (ql (v:= .ref aF) rfl mF0 rfl) (eh aD) (fun _ _=>rfl)) (eI C8 aD (fe aw) fT))) (eY rfl (bG (eV 4 scNamed.nd) (bG (eV 5 scNamed.nd) dX))) (bg (bL (eX cT cG bq) (bg (bC (dG Gno hr (iS ee bf bJ)))) (bg (bL (eX cT cG bq) (bg (df hu bJ ee eQ rfl)) (bg (df hu cE ee eQ rfl))))))) (bg (cK (cX (iS (fI (fF rfl) rfl mls bU (eR bf)) (fI (fF rfl) rfl mls bU (eR bJ)) (fI (fF rfl) rfl mls bU (eR cE))))))))),?_⟩;obtain⟨pv,xs,rfl,hpv,hL⟩:=hv;obtain⟨kvs,aT,hkd,hval,hT⟩:=hF _ _ hS.fo;have lL:=KL.len hL;rw[ae] at lL;have l3:=Co hS.fo;rw[ae] at l3;refine fun a ha=>fun b hb=>fun c hc=> ?_;have ab:a≠b:=bp upd_same hb;have hb0:H b=none:=by rw[aB (br ab)] at hb;exact hb
 have bc:b≠c:=bp upd_same hc;have ac:a≠c:=fun z=>by rw[<-z,aB ab,upd_same] at hc;cases hc
 have hc0:H c=none:=by rw[aB (br bc),aB (br ac)] at hc;exact hc
 have s3:Same H (upd (upd (upd H a (.dK [])) b (.dK [])) c (.dK [])):=bR (bR (aj ha _) hb0) hc0;have ea0:(upd (upd (upd H a (.dK [])) b (.dK [])) c (.dK [])) a=some (.dK (Dn [])):=by rw[aB ac,aB ab];exact upd_same
 have eb0:(upd (upd (upd H a (.dK [])) b (.dK [])) c (.dK [])) b=some (.dK (Dn [])):=by rw[aB bc];exact upd_same
 have ec0:(upd (upd (upd H a (.dK [])) b (.dK [])) c (.dK [])) c=some (.dK (Dn [])):=upd_same;generalize upd (upd (upd H a (.dK [])) b (.dK [])) c (.dK [])=H3 at s3 ea0 eb0 ec0⊢;refine⟨fun σ' H'=>∃o4 o5:Option V,σ'=[some (.ref pv),some (.ref a),some (.ref b),some (.ref c),o4,o5]/\Same H H'/\H' a=some (.dK (Dn (IZ S)))/\H' b=some (.dK (Dn (IY S)))/\H' c=some (.dK (Dn (j6 S))),?_,?_⟩
 · refine⟨_,_,SqT.of (s3 _ _ hpv),aJ (j:=0) rfl,aF,kvs,.inr S.form,.ref aT,rfl,rfl,hkd,hval,1,rfl,pv,_,rfl,SqT.of (s3 _ _ hpv),KN _ _,fun pt hpt=> ?_⟩;rw[Lq];have spt:=aj hpt (.tup xs);refine⟨aT,pt,rfl,⟨_,hT _⟩,⟨_,SqT.of upd_same⟩,?_⟩;have npa:pt≠a:=fun z=>by rw[z,ea0] at hpt;cases hpt
   have npb:pt≠b:=fun z=>by rw[z,eb0] at hpt;cases hpt
   have npc:pt≠c:=fun z=>by rw[z,ec0] at hpt;cases hpt
   refine x_ (xs:=(S.ps.map (·.1)).map V.str) (ys:=xs) (by rw[ae,ae];lia) (fun i σ H4=>∃o4 o5:Option V,σ=[some (.ref pv),some (.ref a),some (.ref b),some (.ref c),o4,o5]/\Same H H4/\H4 pt=some (.tup xs)/\H4 a=some (.dK (Dn (cS [] (((S.ps.take i).map pK).flatten))))/\H4 b=some (.dK (Dn (cS [] (((S.ps.take i).map pT).flatten))))/\H4 c=some (.dK (Dn (cS [] (((S.ps.take i).map pG).flatten))))) ⟨none,none,rfl,s3.trans spt,upd_same,by rw[lD];exact spt _ _ ea0,by rw[lD];exact spt _ _ eb0,by rw[lD];exact spt _ _ ec0⟩ ?_ ?_ ?_
   · rintro i σ H4 hi ⟨o4,o5,rfl,_,e,_⟩;exact⟨hT _,SqT.of e⟩
   · rintro i x y σ H4 T hx hy ⟨o4,o5,rfl,s4,e4,ea,eb,ec⟩ hTn;obtain⟨k',hk1,ik⟩:=KL.get hL hy;rw[aH] at hk1;obtain⟨p,hp,rfl⟩:=aQ.mp hk1;rw[aH,aH,hp] at hx;simp only[fZ,mJ] at hx;subst hx;have hpm:=au hp;have hpo:=hS.po p hpm;have sT:=aj hTn (.tup [.str p.1,y]);have ik4:=IsK.mono (s4.trans sT).tups ik;have il:i<S.ps.length:=(aU.mp hp).1;have lt:(S.ps.take i).length<=3:=ai (Nm _ _) l3;have hin:∀p'∈S.ps.take i,v7 p':=fun p' h'=>hS.po p' (jH h');have la:=er (((S.ps.take i).map pK).flatten) [];have lb:=er (((S.ps.take i).map pT).flatten) [];have lc:=er (((S.ps.take i).map pG).flatten) [];have la2:=parts_len (f:=pK) fun p' h'=>IW (hin p' h');have lb2:=parts_len (f:=pT) fun p' h'=>IV (hin p' h');have lc2:=parts_len (l:=S.ps.take i) (f:=pG) fun p' h'=>IX p';rw[dM] at la lb lc;have stp:∀(ff:Str × Kd->List Str),cS [] (((S.ps.take (i+1)).map ff).flatten)=cS (cS [] (((S.ps.take i).map ff).flatten)) (ff p):=fun ff=>by
      rw[bx,hp,aZ,NP,iD];simp
     refine⟨_,SqT.of upd_same,rfl,?_⟩;refine(fY (fun c1=> ?_) (fun c1=> ?_))
     · have e1:p.1="kind":=by
        have:=bA c1
        injection this
       have hsz:p.2.sz<=60:=by
        rcases hpo with⟨_,h⟩ | ⟨h | h,_⟩
        · exact h
        · rw[h] at e1;exact absurd e1 (by decide+kernel)
        · rw[h] at e1;exact absurd e1 (by decide+kernel)
       have hdp:p.2.dep<60:=by
        have h1:=Kd.dep_le_nt p.2;have h2:p.2.nt<p.2.sz:=j8 p.2
        lia
       refine⟨y,p.2,a,b,_,_,rfl,ik4,ab,sT _ _ ea,sT _ _ eb,by lia,by lia,hdp,fun H5 q5 ea5 eb5=> ?_⟩;refine⟨_,_,rfl,fun z o hz=> ?_,?_,?_,?_,?_⟩
       · exact q5 z o (fun e=>by rw[e,ha] at hz;cases hz) (fun e=>by rw[e,hb0] at hz;cases hz) ((s4.trans sT) _ _ hz)
       · exact q5 _ _ npa npb (sT _ _ e4)
       · rw[stp,ea5];unfold pK;rw[aE e1]
       · rw[stp,eb5];unfold pT;rw[aE e1]
       · rw[stp];have:pG p=[]:=by unfold pG;rw[aA (by rw[e1];decide+kernel)]
         rw[this];exact q5 _ _ (br ac) (br bc) (sT _ _ ec)
     · have n1:p.1≠"kind":=fun z=>c1 (by rw[z];exact ah rfl);rcases hpo with⟨h,_⟩ | ⟨hso,x,hx⟩
       · exact absurd h n1
       rw[hx] at ik4;obtain rfl:y= .str x:=ik4;refine(fY (fun c2=> ?_) (fun c2=> ?_))
       · have e2:p.1="tie":=by
          have:=bA c2
          injection this
         refine⟨_,DPut.k (k:=Sum.inr x) (sT _ _ eb) (bH (by rw[oY];lia)),_,_,rfl,bR (s4.trans sT) hb0,by rw[aB npb];exact sT _ _ e4,?_,?_,?_⟩
         · rw[aB ab,stp];have:pK p=[]:=by unfold pK;rw[aA n1]
           rw[this];exact sT _ _ ea
         · rw[upd_same,stp,oX];have:pT p=[x]:=by unfold pT;rw[aA n1,aE e2,hx]
           rw[this];rfl
         · rw[aB (br bc),stp];have:pG p=[]:=by unfold pG;rw[aA (by rw[e2];decide+kernel)]
           rw[this];exact sT _ _ ec
       · have n2:p.1≠"tie":=fun z=>c2 (by rw[z];exact ah rfl);have e2:p.1="thing":=hso.resolve_left n2;refine⟨_,DPut.k (k:=Sum.inr x) (sT _ _ ec) (bH (by rw[oY];lia)),_,_,rfl,bR (s4.trans sT) hc0,by rw[aB npc];exact sT _ _ e4,?_,?_,?_⟩
         · rw[aB ac,stp];have:pK p=[]:=by unfold pK;rw[aA n1]
           rw[this];exact sT _ _ ea
         · rw[aB bc,stp];have:pT p=[]:=by unfold pT;rw[aA n1,aA n2]
           rw[this];exact sT _ _ eb
         · rw[upd_same,stp,oX];have:pG p=[x]:=by unfold pG;rw[aE e2,hx]
           rw[this];rfl
   · rintro σ H4 ⟨o4,o5,rfl,s4,e4,ea,eb,ec⟩;rw[ae,ae,aY] at ea eb ec;exact⟨o4,o5,rfl,s4,ea,eb,ec⟩
 · rintro σ' H4 ⟨o4,o5,rfl,s4,ea,eb,ec⟩;refine⟨a,_,_,rfl,ea,nZ _,fun l1 h1=>⟨b,_,_,rfl,aj h1 _ _ _ eb,nZ _,fun l2 h2=>⟨c,_,_,rfl,aj h2 _ _ _ (aj h1 _ _ _ ec),nZ _,fun l3 h3=>⟨bz (by show 3<=1000;decide),fun qq hq=> ?_⟩⟩⟩⟩;have t1:=aj h1 (.lst ((IZ S).map V.str));have t2:=aj h2 (.lst ((IY S).map V.str));have t3:=aj h3 (.lst ((j6 S).map V.str));have t4:=aj hq (.tup [.ref l1,.ref l2,.ref l3]);have h2':=bP t1 h2;have h3':=bP (t1.trans t2) h3;have hq':=bP ((t1.trans t2).trans t3) hq;exact q qq l1 l2 l3 _ (((s4.trans t1).trans t2).trans (t3.trans t4)) upd_same (((t2.trans t3).trans t4) _ _ upd_same) ((t3.trans t4) _ _ upd_same) (t4 _ _ upd_same) (bP s4 hq') (bP s4 h1) (bP s4 h2') (bP s4 h3')
    (bp upd_same h2) (bp (t2 _ _ upd_same) h3) (bp upd_same h3)
end
noncomputable def fz(c:Nat):Bool:=decide (97<=c/\c<=122)
noncomputable def nQ(c:Nat):Bool:=decide (65<=c/\c<=90)
noncomputable def sS(z:Str):Bool:=decide (1<=z.length)&&decide (z.length<=12)
noncomputable def fV(z:Str):Bool:=sS z&&(match z.cps.toList with | []=>false | c::r=>nQ c&&r.all fz)
def vK(c d:Nat):(!decide ([d]<[c]))=decide (c<=d):=by
 have h:([d]<[c])↔d<c:=by
  simp[List.cons_lt_cons_iff]
 by_cases q:d<c
 · rw[ah (h.mpr q),ag (by lia)];rfl
 · rw[ag (fun z=>q (h.mp z)),ah (by lia)];rfl
inductive tO(vs:List V)(H:Hp)(Q:VK):Prop
 | mk:∀c:Nat,(vs=[.str ⟨#[c]⟩])->(Q (.bl (fz c)) H)->tO vs H Q
def Ap:Sp:=fun vs H Q _=>tO vs H Q
inductive AF(vs:List V)(H:Hp)(Q:VK):Prop
 | mk:∀z:Str,(vs=[.str z])->(z.length<=1000)->(∀H',Same H H'->Q (.bl (z.cps.toList.all fz)) H')->AF vs H Q
def Hv:Sp:=fun vs H Q _=>AF vs H Q
inductive tK(vs:List V)(H:Hp)(Q:VK):Prop
 | mk:∀z:Str,(vs=[.str z])->(z.length<=1000)->(∀H',Same H H'->Q (.bl (fV z)) H')->tK vs H Q
def An:Sp:=fun vs H Q _=>tK vs H Q
section
def FQ:bw qql43 qql43 (aM yR):=gH
def DQ(F:Fun K "is_small" "is_small" yR f fd):b_ P w K mg base eU 1 f fd qql43 Ap:=by
 refine F.o FQ fun cdv A outer s H vs Q E hr h=> ?_;obtain⟨c,rfl,q⟩:=h;refine⟨_,fS (gB (rj kM kM bq aD bq)),?_⟩;refine⟨_,_,rfl,rfl,_,rfl,?_⟩;have e1:(!decide (([c]:List Nat)<[97]))=decide (97<=c):=vK 97 c;have e2:(!decide (([122]:List Nat)<[c]))=decide (c<=122):=vK c 122;show if(!decide (([c]:List Nat)<[97]))=true then _ else _
 rw[e1];refine fY (fun h=> ?_) (fun h=> ?_)
 · refine⟨_,_,rfl,rfl,?_⟩;show Q (.bl (!decide (([122]:List Nat)<[c]))) H;rw[e2];have h':97<=c:=bA h;have:fz c=decide (c<=122):=by unfold fz;rw[Cq];lia
   rw[<-this];exact q
 · have h':¬ 97<=c:=fun z=>h (ah z);have:fz c=false:=by unfold fz;rw[Kk];lia
   rw[<-this];exact q
def Oc:(((qql43:List Str)++[]):List Str).Nodup:=by decide+kernel
def KJ:bw lK lK (aM IJ):=gH
def Ji(F:Fun K "all_small" "all_small" IJ f fd)(G:Cl P w K mg base 1 "is_small" qql43 Ap)(ma:mg "all"=none):b_ P w K mg base eU 2 f fd lK Hv:=by
 refine F.o KJ fun cdv A outer s H vs Q E hr h=> ?_;obtain⟨z,rfl,hz,q⟩:=h;refine⟨_,fS (gB (fC (kY rfl) rfl ma iU (d8 (fg qql43 [] [] rfl (Dw aD) (fun _ _ _=>qk (i:=0) Oc rfl (Or.inl rfl)) (fun _ _ _=>fb) (fun _ _ _=>dG G hr (d8 aD cf))) cf))),?_⟩;refine⟨z,rfl,fun D hD=> ?_⟩;have hsz:z.cps.size=z.length:=rfl;refine fD z.cps.size (fun i σ H'=>(∃o,σ=[o])/\H'=upd H D (.lst (((z.cps.toList.take i).map fz).map V.bl))) ⟨⟨_,rfl⟩,rfl⟩ ?_ ?_
 · rintro σ H' ⟨_,rfl⟩;refine⟨rfl,D,(z.cps.toList.map fz),rfl,SqL.of ?_,?_⟩
   · rw[upd_same,dE (by simp)]
   · have e:(z.cps.toList.map fz).all id=z.cps.toList.all fz:=by rw[zY];rfl
     rw[e];exact q _ (aj hD _)
 · rintro i σ H' hi ⟨⟨o,rfl⟩,rfl⟩;refine⟨hi,?_⟩;rintro x H1 ⟨rfl,c,hc,rfl⟩;refine⟨c,rfl,_,upd_same,?_,⟨_,rfl⟩,?_⟩
   · rw[ae,ae,cw];exact bH (by lia)
   · rw[uG];have hc':z.cps.toList[i]? =some c:=by simpa using hc
     rw[bx,hc',aZ,aZ]
     rfl
def N6(z:Str):(Txt.slice z (some 1) none).cps.toList=z.cps.toList.drop 1:=by
 rw[je];have hx:z.cps.toList.length=z.length:=by simp[Str.length]
 have e:HT.sIx z.length 0 (some 1)=min 1 z.length:=HT.sIx_nat z.length 0 1;have e2:HT.sIx z.length z.length none=z.length:=rfl;rw[e,e2];rcases yp z.length with h | h
 · have:z.cps.toList=[]:=CF (by lia);rw[this];simp
 · have:min 1 z.length=1:=by lia
   rw[this,dE (by rw[jo];lia)]
def FO:bw lK lK (aM yO):=gH
def DN(F:Fun K "is_thing" "is_thing" yO f fd)(G:Cl P w K mg base 2 "all_small" lK Hv)(ml:mg "len"=none)(mM:mg "MOST_SIGNS"=some (.int 12 tk)):b_ P w K mg base eU 3 f fd lK An:=by
 refine F.o FO fun cdv A outer s H vs Q E hr h=> ?_;obtain⟨z,rfl,hz,q⟩:=h;refine⟨_,fS (gB (fX (rj Bi Bi aw (fC vV rfl ml Hb (d8 aD cf)) (ql (v:= .int 12) rfl mM ⟨_,rfl⟩)) (fX (rj kM kM bq (iJ vO aD aw (fun _ _=>rfl)) bq) (iw (dG G hr (d8 (eI jY aD (fe aw) fT) cf)))))),?_⟩;have hzl:z.length<=sizeLine:=eF (bH hz);have hx:z.cps.toList.length=z.length:=by simp[Str.length]
 refine⟨z,rfl,hzl,_,rfl,?_⟩;have e1:decide ((1:Int)<=(z.length:Int))=decide (1<=z.length):=by rw[Cq];lia
 have e2:decide ((z.length:Int)<=12)=decide (z.length<=12):=by rw[Cq];lia
 have no:sS z=false->fV z=false:=fun e=>by unfold fV;rw[e,s_]
 have sH:=q H (Same.refl H);refine fY (fun h1=> ?_) (fun h1=> ?_)
 · refine ?_;refine fY (fun h2=> ?_) (fun h2=> ?_)
   · have hf:sS z=true:=by unfold sS;rw[<-e1,<-e2,h1,h2];rfl
     have h1':1<=z.length:=by have:=bA h1;lia
     obtain⟨c,r,ecr⟩:∃c r,z.cps.toList=c::r:=by
      cases e:z.cps.toList with
      | nil=>rw[e] at hx;simp at hx;lia
      | cons c r=>exact⟨c,r,rfl⟩
     have et:fV z=(nQ c&&r.all fz):=by unfold fV;rw[hf,ecr];rfl
     refine⟨z,0,c,rfl,rfl,hzl,?_,_,_,rfl,rfl,_,rfl,?_⟩
     · exact aJ (j:=0) (by rw[ecr];rfl)
     have a1:(!decide (([c]:List Nat)<[65]))=decide (65<=c):=vK 65 c;have a2:(!decide (([90]:List Nat)<[c]))=decide (c<=90):=vK c 90;show if(!decide (([c]:List Nat)<[65]))=true then _ else _
     rw[a1];refine fY (fun h3=> ?_) (fun h3=> ?_)
     · have h3':65<=c:=bA h3;refine⟨_,_,rfl,rfl,?_⟩;show if(!decide (([90]:List Nat)<[c]))=true then _ else _
       rw[a2];refine fY (fun h4=> ?_) (fun h4=> ?_)
       · have h4':c<=90:=bA h4;have hb:nQ c=true:=by unfold nQ;exact ah ⟨h3',h4'⟩
         have hl:(Txt.slice z (some 1) none).length<=1000:=ai (Lw z _ _) hz;refine⟨_,rfl,z,rfl,hzl,_,rfl,hl,fun H' sm=> ?_⟩;have e5:(Txt.slice z (some 1) none).cps.toList.all fz=fV z:=by rw[N6,ecr,et,hb];rfl
         rw[e5];exact q H' sm
       · have h4':¬ c<=90:=fun k=>h4 (ah k);have hb:nQ c=false:=by unfold nQ;exact ag fun k=>h4' k.2
         have e5:fV z=false:=by rw[et,hb];rfl
         rw[<-e5];exact sH
     · have h3':¬ 65<=c:=fun k=>h3 (ah k);have hb:nQ c=false:=by unfold nQ;exact ag fun k=>h3' k.1
       have e5:fV z=false:=by rw[et,hb];rfl
       show Q (.bl false) H;rw[<-e5];exact sH
   · have hf:sS z=false:=by
      unfold sS;have h2':decide (z.length<=12)=false:=by rw[<-e2];exact Aa.mpr h2
      rw[h2',lH]
     rw[<-no hf];exact sH
 · have hf:sS z=false:=by
    unfold sS;have h1':decide (1<=z.length)=false:=by rw[<-e1];exact Aa.mpr h1
    rw[h1',s_]
   show Q (.bl false) H;rw[<-no hf];exact sH
end
noncomputable def ju:Kd->Bool
 | .nm t=>fV t
 | _=>false
def lg:Kd->Prop
 | .nm t=>t.length<=1000
 | _=>True
inductive qK(vs:List V)(H:Hp)(Q:VK):Prop
 | mk:∀v k,(vs=[v])->(IsK H k v)->(lg k)->(∀H',Same H H'->Q (.bl (ju k)) H')->qK vs H Q
def wH:Sp:=fun vs H Q _=>qK vs H Q
noncomputable def Sy.things:Sy->List Str
 | .thing x _=>[x]
 | .tied x _ y=>[x,y]
 | _=>[]
noncomputable def d3(ps:List (Int × Sy)):List Str:=(ps.map fun q=>q.2.things).flatten
noncomputable def Sy.sorts:Sy->List Str
 | .every _ _=>AX | .no _ _=>AX | .thing _ _=>["thing","kind"] | .tied _ _ _=>["thing","tie","thing"] | .within _ _=>["tie","tie"] | .makes _ _ _=>["tie","tie","tie"]
noncomputable def Sy.sg(s:Sy):Sg:=⟨AK s.hd,s.sorts.zip s.parts⟩
def jf(s:Sy):s.sg.ps.map (·.2)=s.parts:=by cases s<;>rfl
def Hw(h:IsSy H s v):NR H s.sg v:=by
 obtain⟨p,xs,e,h1,h2⟩:=h;exact⟨p,xs,e,h1,by rw[jf];exact h2⟩
def Sy.okS(s:Sy):Prop:=(∀k∈s.parts,k.sz<=60)/\s.lo 25
def KD{s:Sy}(h:s.okS):s.sg.Ok:=by
 have h1:=h.1;refine⟨by cases s<;>simp[Sy.sg,Sy.sorts,Sy.parts,Sy.hd,AK,jE],fun p hp=> ?_⟩;cases s<;>simp only[Sy.sg,Sy.sorts,Sy.parts,yq,Os,aI,ao,bW] at hp h1
 · rcases hp with rfl | rfl
   · exact .inl ⟨rfl,h1 _ (.inl rfl)⟩
   · exact .inl ⟨rfl,h1 _ (.inr rfl)⟩
 · rcases hp with rfl | rfl
   · exact .inl ⟨rfl,h1 _ (.inl rfl)⟩
   · exact .inl ⟨rfl,h1 _ (.inr rfl)⟩
 · rcases hp with rfl | rfl
   · exact .inr ⟨.inr rfl,_,rfl⟩
   · exact .inl ⟨rfl,h1 _ (.inr rfl)⟩
 · rcases hp with rfl | rfl | rfl
   · exact .inr ⟨.inr rfl,_,rfl⟩
   · exact .inr ⟨.inl rfl,_,rfl⟩
   · exact .inr ⟨.inr rfl,_,rfl⟩
 · rcases hp with rfl | rfl
   · exact .inr ⟨.inl rfl,_,rfl⟩
   · exact .inr ⟨.inl rfl,_,rfl⟩
 · rcases hp with rfl | rfl | rfl
   · exact .inr ⟨.inl rfl,_,rfl⟩
   · exact .inr ⟨.inl rfl,_,rfl⟩
   · exact .inr ⟨.inl rfl,_,rfl⟩
def Ee(A:List Str)(x y:Str):y∈nV A x↔y∈A\/y=x:=by
 unfold nV
 split
 · constructor
   · exact .inl
   · rintro(h | rfl)
     · exact h
     · assumption
 · simp
theorem mv:∀xs A y,y∈cS A xs↔y∈A\/y∈xs
 | [],A,y=>by simp[cS]
 | x::xs,A,y=>by
   show y∈cS (nV A x) xs↔_;rw[mv xs (nV A x) y,Ee,aI];constructor
   · rintro((h | h) | h)
     · exact .inl h
     · exact .inr (.inl h)
     · exact .inr (.inr h)
   · rintro(h | h | h)
     · exact .inl (.inl h)
     · exact .inl (.inr h)
     · exact .inr h
def rG:¬ (Str.ofString "kind":Str)=Str.ofString "thing":=by decide+kernel
def tD:¬ (Str.ofString "tie":Str)=Str.ofString "thing":=by decide+kernel
def DF(s:Sy)(y:Str):y∈j6 s.sg↔y∈s.things:=by
 unfold j6;rw[mv];cases s<;>simp[Sy.sg,Sy.sorts,Sy.parts,pG,Sy.things,rG,tD]
def DG(s:Sy):(j6 s.sg).length<=3:=by
 have:=er ((s.sg.ps.map pG).flatten) [];have h2:((s.sg.ps.map pG).flatten).length<=3:=by
  cases s<;>simp[Sy.sg,Sy.sorts,Sy.parts,pG,rG,tD]
 unfold j6;simp only[dM] at this
 lia
def Dx(hK:X.K=K')(hl:PE X l tl):PI X tg l (lQ K' tl):=by subst hK;exact bT hl
inductive o_(vs:List V)(H:Hp)(Q:VK):Prop
 | mk:∀lp ys ps,(vs=[.ref lp])->(H lp=some (.lst ys))->(PrL H ys ps)->((∀q∈ps,q.2.okS))->(ps.length<=100)->(∀d A H',Same H H'->H' d=some (.dK (Dn A))->(∀x,x∈A↔x∈d3 ps)->A.length<=3 * ps.length->Q (.ref d) H')->o_ vs H Q
def tJ:Sp:=fun vs H Q _=>o_ vs H Q
def HK:((([("number":Str),("saying":Str),("thing":Str)]:List Str)++[]):List Str).Nodup:=by decide+kernel
def yH{ps:List (Int × Sy)}(h:ps[i]? =some q):d3 (ps.take (i+1))=d3 (ps.take i)++q.2.things:=by
 unfold d3;rw[bx,h,aZ,NP];simp
section
def Dc:bw ["x"] ["x"] (aM uV):=gH
def BY(F:Fun K "stands_for_thing" "stands_for_thing" uV f fd)(mi:mg "isinstance"=none)(ms:mg "str"=none)(Git:Cl P w K mg base 3 "is_thing" lK An):b_ P w K mg base eU 4 f fd ["x"] wH:=by
 refine F.o Dc fun cdv A outer s H vs Q E hr h=> ?_;obtain⟨v,k,rfl,hk,hl,q⟩:=h;refine⟨_,bg (cK (fX (yr mi ms cm aD) (iw (dG Git hr (eR aD))))),?_⟩;cases k with
 | nm x=>
   obtain rfl:v= .str x:=hk;exact⟨_,_,_,true,rfl,TyOf.str x,dR K,⟨x,rfl,hl,q⟩⟩
 | two a b=>
   obtain⟨p,x,y,rfl,hp,_,_⟩:=hk;exact⟨_,_,_,false,rfl,TyOf.tup hp,cY K,(q H (Same.refl H))⟩
 | som r c=>
   obtain⟨p,y,rfl,hp,_⟩:=hk;exact⟨_,_,_,false,rfl,TyOf.tup hp,cY K,(q H (Same.refl H))⟩
def BM:bw ["pairs"] ["pairs"] (aM qU):=gH
def zl(F:Fun K "things_named" "things_named" qU f fd)(Gnd:Cl P w K mg base 62 "named" ["saying"] Av):b_ P w K mg base eU 63 f fd ["pairs"] tJ:=by
 refine F.o BM fun cdv A outer s H vs Q E hr h=> ?_;obtain⟨lp,ys,ps,rfl,hl,hps,hok,hz,q⟩:=h;refine⟨_,bg (cK (BU ["number","saying","thing"] [] [] rfl (bT aD) (fun _ _ _=>F6 (K':=K) (i:=0) (j:=1) rfl rfl HK rfl rfl rfl rfl) (fun _ _ _=>fb) (fun _ _ _=>Dx (K':=K) rfl (oA (r:=BP K) gm (dG Gnd hr (eR bf)) aw)) (fun _ _ _=>eV 2 HK) (fun _ _ _=>fb) (fun _ _ _=>bJ) (fun _ _ _=>eQ))),?_⟩;have lL:ys.length=ps.length:=bu hps;refine⟨⟨_,SqL.of hl⟩,fun D hD=> ?_⟩;refine HN ys.length (fun i σ H'=>(∃o0 o1 o2,σ=[o0,o1,o2])/\Same H H'/\∃A,H' D=some (.dK (Dn A))/\(∀x,x∈A↔x∈d3 (ps.take i))/\A.length<=3 * i) ⟨⟨_,_,_,rfl⟩,aj hD _,[],upd_same,by simp[d3],by simp⟩ ?_ ?_
 · rintro σ H' ⟨_,sm,A,eA,hA,lA⟩;rw[lL,aY] at hA;exact⟨⟨_,SqL.of (sm _ _ hl),ar _⟩,q D A H' sm eA hA (by rw[lL] at lA;exact lA)⟩
 · rintro i σ H' hi ⟨⟨o0,o1,o2,rfl⟩,sm,A',eA,hA,lA⟩;have ho:=sm _ _ hl;refine⟨⟨_,ys[i],SqL.of ho,by simp[hi]⟩,?_⟩;rintro y H1 ⟨rfl,hy⟩;have hyi:=hy _ (SqL.of ho);obtain⟨pq,hpq,t,vs,rfl,ht,hsy⟩:=dt hps hyi;have okq:=hok pq (au hpq);refine⟨_,SqT.of (sm _ _ ht),rfl,?_⟩;refine⟨vs,pq.2.sg,rfl,Hw (hsy.mono sm.tups),KD okq,fun qq a b c H2 s2 hq ha hb hc nq na nb nc nab nac nbc=> ?_⟩;refine⟨_,_,SqT.of hq,aJ (j:=2) rfl,⟨_,SqL.of hc⟩,?_⟩;have cD:c≠D:=fun z=>by rw[z,eA] at nc;cases nc
   have lG:=DG pq.2;refine HN ((j6 pq.2.sg).map V.str).length (fun j σ' H'=>(∃o2,σ'=[some (.int pq.1),some vs,o2])/\Same H H'/\H' c=some (.lst ((j6 pq.2.sg).map V.str))/\H' D=some (.dK (Dn (cS A' ((j6 pq.2.sg).take j))))) ⟨⟨_,rfl⟩,sm.trans s2,hc,s2 _ _ eA⟩ ?_ ?_
   · rintro σ' H3 ⟨⟨o2',rfl⟩,sm3,ec,eD⟩;rw[ae,aY] at eD;refine⟨⟨_,SqL.of ec,ar _⟩,⟨_,_,_,rfl⟩,sm3,_,eD,fun x=> ?_,?_⟩
     · rw[mv,hA,DF,yH hpq,ay]
     · have:=er (j6 pq.2.sg) A'
       lia
   · rintro j σ' H3 hj ⟨⟨o2',rfl⟩,sm3,ec,eD⟩;have hj':j<(j6 pq.2.sg).length:=by simpa using hj
     refine⟨⟨_,.str (j6 pq.2.sg)[j],SqL.of ec,by simp[hj']⟩,?_⟩;rintro y2 H4 ⟨rfl,hy2⟩;have hy2i:=hy2 _ (SqL.of ec);rw[aH,aq hj'] at hy2i;cases hy2i;have la:=er ((j6 pq.2.sg).take j) A';have lt:((j6 pq.2.sg).take j).length<=3:=ai (Nm _ _) lG;refine⟨Dn (cS A' ((j6 pq.2.sg).take j)),Sum.inr (j6 pq.2.sg)[j],rfl,eD,bH (by rw[oY];lia),⟨_,rfl⟩,bR sm3 hD,by rw[aB cD];exact ec,?_⟩;rw[upd_same,oX,bx,aq hj',iD]
     rfl
end
noncomputable def nI(c:Nat):Bool:=decide (97<=c/\c<=122) || decide (65<=c/\c<=90)
noncomputable def gM(z:Str):Bool:=decide (1<=z.length)&&decide (z.length<=12)&&z.cps.toList.all nI
noncomputable def Kg(l:List Nat):Str:=⟨l.toArray⟩
def xI(l:List Nat):(Kg l).cps.toList=l:=by simp[Kg]
def Gz(l:List Nat):(Kg l).length=l.length:=by simp[Kg,Str.length]
def CY{a:Str}(h:a.cps.toList=b.cps.toList):a=b:=by
 cases a;cases b;simp only[Str.mk.injEq];exact Array.toList_inj.mp h
def Jp(z:Str):Kg z.cps.toList=z:=CY (xI _)
def Ie(a b:Str):(a++b).cps.toList=a.cps.toList++b.cps.toList:=by rw[lz];simp
def Em(z:Str):z.length=z.cps.toList.length:=by simp[Str.length]
def Jv:(Str.ofString "(both ").cps.toList=[40,98,111,116,104,32]:=by decide+kernel
def Jt:(Str.ofString "(some ").cps.toList=[40,115,111,109,101,32]:=by decide+kernel
def El:(Str.ofString " ").cps.toList=[32]:=by decide+kernel
def Ek:(Str.ofString ")").cps.toList=[41]:=by decide+kernel
def HP:(Str.empty).cps.toList=[]:=by decide+kernel
noncomputable def pX:Kd->List Nat
 | .nm x=>x.cps.toList
 | .two a b=>[40,98,111,116,104,32]++pX a++[32]++pX b++[41]
 | .som r c=>[40,115,111,109,101,32]++r.cps.toList++[32]++pX c++[41]
noncomputable def sI(k:Kd):Str:=Kg (pX k)
def kO:Kd->Prop
 | .nm x=>gM x=true
 | .two a b=>kO a/\kO b
 | .som r c=>gM r=true/\kO c
def gI(h:gM x=true):1<=x.length/\x.length<=12/\x.cps.toList.all nI=true:=by
 unfold gM at h;simp only[aP,aX] at h;exact⟨h.1.1,h.1.2,h.2⟩
def nE(h:gM x=true):1<=x.length/\x.length<=12/\x.cps.toList.all nI=true/\True:=by
 obtain⟨a,b,c⟩:=gI h;exact⟨a,b,c,trivial⟩
theorem uD:∀{k:Kd},kO k->(pX k).length<=12+32 * k.nt
 | .nm x,h=>by
   have:=gI h;rw[Em] at this;simp only[pX,Kd.nt];lia
 | .two a b,h=>by
   have h1:=uD h.1;have h2:=uD h.2;simp only[pX,Kd.nt,ak,bj,dM];lia
 | .som r c,h=>by
   have h1:=nE h.1;have h2:=uD h.2;rw[Em] at h1;simp only[pX,Kd.nt,ak,bj,dM];lia
def tF:List Nat->Prop
 | []=>True
 | c::_=>nI c=false
theorem jX:∀{x y s t:List Nat},x.all nI=true->y.all nI=true->tF s->tF t->x++s=y++t->x=y/\s=t
 | [],[],s,t,_,_,_,_,e=>⟨rfl,e⟩
 | [],b::y,s,t,_,hy,hs,_,e=>by
   simp only[gZ] at e;subst e;simp only[fm,aP] at hy;have:nI b=false:=hs;rw[this] at hy;exact absurd hy.1 (by decide)
 | a::x,[],s,t,hx,_,_,ht,e=>by
   simp only[gZ] at e;subst e;simp only[fm,aP] at hx;have:nI a=false:=ht;rw[this] at hx;exact absurd hx.1 (by decide)
 | a::x,b::y,s,t,hx,hy,hs,ht,e=>by
   simp only[eM,bV] at e;simp only[fm,aP] at hx hy;obtain⟨h1,h2⟩:=jX hx.2 hy.2 hs ht e.2;exact⟨by rw[e.1,h1],h2⟩
def qb:tF (32::l):=by show nI 32=false;decide
def qa:tF (41::l):=by show nI 41=false;decide
def nC(h:kO (.nm x)):∃c r,x.cps.toList=c::r/\nI c=true:=by
 obtain⟨h1,_,h3⟩:=gI h;have hl:=Em x;cases e:x.cps.toList with
 | nil=>rw[e] at hl;simp at hl;lia
 | cons c r=>
   rw[e] at h3;simp only[fm,aP] at h3;exact⟨c,r,rfl,h3.1⟩
def LZ:nI 40=false:=by decide
theorem uE:∀{a b:Kd} {s t:List Nat},kO a->kO b->tF s->tF t->pX a++s=pX b++t->a=b/\s=t
 | .nm x,.nm y,s,t,ha,hb,hs,ht,e=>by
   obtain⟨h1,h2⟩:=jX (gI ha).2.2 (gI hb).2.2 hs ht e;exact⟨by rw[CY h1],h2⟩
 | .nm x,.two b1 b2,s,t,ha,_,_,_,e=>by
   obtain⟨c,r,e1,hc⟩:=nC ha;simp only[pX,e1,eM,bV] at e;rw[e.1,LZ] at hc;cases hc
 | .nm x,.som r' c',s,t,ha,_,_,_,e=>by
   obtain⟨c,r,e1,hc⟩:=nC ha;simp only[pX,e1,eM,bV] at e;rw[e.1,LZ] at hc;cases hc
 | .two a1 a2,.nm y,s,t,_,hb,_,_,e=>by
   obtain⟨c,r,e1,hc⟩:=nC hb;simp only[pX,e1,eM,bV] at e;rw[<-e.1,LZ] at hc;cases hc
 | .som r' c',.nm y,s,t,_,hb,_,_,e=>by
   obtain⟨c,r,e1,hc⟩:=nC hb;simp only[pX,e1,eM,bV] at e;rw[<-e.1,LZ] at hc;cases hc
 | .two a1 a2,.som r' c',s,t,_,_,_,_,e=>by
   simp[pX] at e
 | .som r' c',.two a1 a2,s,t,_,_,_,_,e=>by
   simp[pX] at e
 | .two a1 a2,.two b1 b2,s,t,ha,hb,hs,ht,e=>by
   simp only[pX,mL,He] at e;obtain⟨h1,h2⟩:=uE (a:=a1) (b:=b1) ha.1 hb.1 qb qb e;simp only[eM,gZ,bV,Mh] at h2;obtain⟨h3,h4⟩:=uE (a:=a2) (b:=b2) ha.2 hb.2 qa qa h2;simp only[bV,Mh] at h4;exact⟨by rw[h1,h3],h4⟩
 | .som r c,.som r' c',s,t,ha,hb,hs,ht,e=>by
   simp only[pX,mL,He] at e;obtain⟨h1,h2⟩:=jX (nE ha.1).2.2.1 (nE hb.1).2.2.1 qb qb e;simp only[eM,gZ,bV,Mh] at h2;obtain⟨h3,h4⟩:=uE (a:=c) (b:=c') ha.2 hb.2 qa qa h2;simp only[bV,Mh] at h4;exact⟨by rw[CY h1,h3],h4⟩
def FA(ha:kO a)(hb:kO b)(e:pX a=pX b):a=b:=(uE (s:=[]) (t:=[]) ha hb True.intro True.intro (by rw[e])).1
def Fz(ha:kO a)(hb:kO b)(e:sI a=sI b):a=b:=FA ha hb (by rw[<-xI (pX a),<-xI (pX b)];exact congrArg (fun z:Str=>z.cps.toList) e)
inductive wI(n:Nat)(vs:List V)(H:Hp)(Q:VK):Prop
 | mk:∀v k,(vs=[v])->(IsK H k v)->(kO k)->(k.nt<=24)->(k.dep<n)->(Q (.str (sI k)) H)->wI n vs H Q
def lU(n:Nat):Sp:=fun vs H Q _=>wI n vs H Q
def w9(a b:Kd):Str.empty++"(both "++sI a++" "++sI b++")"=sI (.two a b):=by
 apply CY;simp only[Ie,HP,Jv,El,Ek,sI,xI,pX,gZ]
def w_(r:Str)(c:Kd):Str.empty++"(some "++r++" "++sI c++")"=sI (.som r c):=by
 apply CY;simp only[Ie,HP,Jt,El,Ek,sI,xI,pX,gZ]
def uF(h:kO k):(sI k).length<=12+32 * k.nt:=by
 rw[sI,Gz];exact uD h
section
def IB:bw gT gT (aM AI):=gH
def Gg(F:Fun K "show_kind" "show_kind" AI f fd)(Gsh:Cl P w K mg base k0 "show_kind" gT (lU n))(mi:mg "isinstance"=none)(ms:mg "str"=none):b_ P w K mg base eU (k0+1) f fd gT (lU (n+1)):=by
 refine F.o IB fun cdv A outer s H vs Q E hr h=> ?_;obtain⟨v,k,rfl,hk,ok,hnt,hd,q⟩:=h;have kGsh:=F.kp;refine⟨_,ba (bL (d4 (fC kA rfl mi jL (d8 aD (d8 (vp (v:= .ty "str") rfl ms cm rfl) cf)))) (bg (gB aD)) be)
  (ba (bL (qj cT (iJ gm aD aw (fun _ _=>rfl)) bq (rA _)) (bg (gB (Bf (oC bq (vn (dG Gsh hr (d8 (iJ gm aD aw (fun _ _=>rfl)) cf)) (oC bq (vn (dG Gsh hr (d8 (iJ gm aD aw (fun _ _=>rfl)) cf)) (oC bq Dy)))))))) be)
  (bg (gB (Bf (oC bq (vn (iJ gm aD aw (fun _ _=>rfl)) (oC bq (vn (dG Gsh hr (d8 (iJ gm aD aw (fun _ _=>rfl)) cf)) (oC bq Dy))))))))),?_⟩
 cases k with
 | nm x=>
   obtain rfl:v= .str x:=hk;refine⟨_,_,_,true,rfl,TyOf.str x,dR K,?_⟩;have:sI (.nm x)=x:=Jp x;rw[this] at q;exact q
 | two a b=>
   obtain⟨p,x,y,rfl,hp,ha,hb⟩:=id hk;refine⟨_,_,_,false,rfl,TyOf.tup hp,cY K,?_⟩;refine⟨_,_,SqT.of hp,aJ (j:=0) rfl,?_⟩;simp only[Kd.nt,Kd.dep] at hnt hd;have la:=uF ok.1;have lb:=uF ok.2;have l1:(Str.ofString "(both ").length=6:=by decide+kernel
   have l2:(Str.ofString " ").length=1:=by decide+kernel
   have l3:(Str.ofString ")").length=1:=by decide+kernel
   have l0:Str.empty.length=0:=by decide+kernel
   refine⟨_,rfl,bz (by lia),bz (by rw[bN];lia),_,_,SqT.of hp,aJ (j:=1) rfl,x,a,rfl,ha,ok.1,by lia,by lia,_,rfl,bz (by lia),bz (by simp only[bN];lia),_,rfl,bz (by lia),bz (by simp only[bN];lia),_,_,SqT.of hp,aJ (j:=2) rfl,y,b,rfl,hb,ok.2,by lia,by lia,_,rfl,bz (by lia),bz (by simp only[bN];lia),_,rfl,bz (by lia),bz (by simp only[bN];lia),bz (by simp only[bN];lia),?_⟩;rw[w9];exact q
 | som r c=>
   obtain⟨p,y,rfl,hp,hc⟩:=id hk;refine⟨_,_,_,false,rfl,TyOf.tup hp,cY K,?_⟩;refine⟨_,_,SqT.of hp,aJ (j:=0) rfl,?_⟩;simp only[Kd.nt,Kd.dep] at hnt hd;have la:=nE ok.1;have lb:=uF ok.2;have l1:(Str.ofString "(some ").length=6:=by decide+kernel
   have l2:(Str.ofString " ").length=1:=by decide+kernel
   have l3:(Str.ofString ")").length=1:=by decide+kernel
   have l0:Str.empty.length=0:=by decide+kernel
   refine⟨_,rfl,bz (by lia),bz (by rw[bN];lia),_,_,SqT.of hp,aJ (j:=1) rfl,r,rfl,bz (by lia),bz (by simp only[bN];lia),_,rfl,bz (by lia),bz (by simp only[bN];lia),_,_,SqT.of hp,aJ (j:=2) rfl,y,c,rfl,hc,ok.2,by lia,by lia,_,rfl,bz (by lia),bz (by simp only[bN];lia),_,rfl,bz (by lia),bz (by simp only[bN];lia),bz (by simp only[bN];lia),?_⟩;rw[w_];exact q
def BI:b_ P w K mg base eU 0 f fd gT (lU 0):=by
 have no:∀vs H Q E,¬ lU 0 vs H Q E:=fun vs H Q E h=>by
  obtain⟨v,k,_,_,_,_,h,_⟩:=h
  lia
 exact⟨fun vs H Q E h=>absurd h (no vs H Q E),fun A outer s H args us vs Q E _ _ _ _ h=>absurd h (no vs H Q E)⟩
theorem xb(A:Fq K mg "show_kind" AI gT)(mi:mg "isinstance"=none)(ms:mg "str"=none):∀n:Nat,Cl P w K mg base n "show_kind" gT (lU n)
 | 0=>A.cl fun _=>BI
 | n+1=>A.cl fun F=>Gg F (xb A mi ms n) mi ms
end
inductive yC(vs:List V)(H:Hp)(Q:VK):Prop
 | mk:∀p key v kvs,(vs=[.ref p,kV key,v])->(H p=some (.dK kvs))->(kvs.length<sizeLine)->(((cB kvs key=none/\∀q,H q=none->∀H',H'=upd (upd H q (.lst [v])) p (.dK (bZ kvs key (.ref q)))->Q .non H')\/∃q xs,cB kvs key=some (.ref q)/\H q=some (.lst xs)/\xs.length<sizeLine/\∀g,H g=none->∀H',H'=upd (upd H g (.lst [])) q (.lst (xs++[v]))->Q .non H'))->yC vs H Q
def FH:Sp:=fun vs H Q _=>yC vs H Q
noncomputable def xw(i j:Int)(b:Bool):List V:=if b then [.int i,.int j] else [.int j,.int i]
inductive As(vs:List V)(H:Hp)(Q:VK):Prop
 | mk:∀i j b,(vs=[.int i,.int j,.bl b])->(∀l,H l=none->Q (.ref l) (upd H l (.lst (xw i j b))))->As vs H Q
def Ht:Sp:=fun vs H Q _=>As vs H Q
inductive mY(vs:List V)(H:Hp)(Q:VK):Prop
 | mk:∀m n:Nat,(vs=[.int (m:Int)])->(m<2^n)->(n<=100000)->(∀l,H l=none->Q (.ref l) (upd H l (.lst ((cN m).map fun(i:Nat)=>V.int (i:Int)))))->mY vs H Q
def oi:Sp:=fun vs H Q _=>mY vs H Q
def Mf(h:p≠q):upd (upd (upd H q a) p d) q b=upd (upd H q b) p d:=by
 funext c
 by_cases h1:c=q
 · subst h1;rw[upd_same,aB (br h),upd_same]
 · by_cases h2:c=p
   · subst h2;rw[aB h1,upd_same,upd_same]
   · rw[aB h1,aB h2,aB h1,aB h2,aB h1]
noncomputable def Od(σ:St):Nat:=match σ with
 | some (.int i)::_=>i.toNat
 | _=>0
section
def ME:bw qY qY (aM MF):=gH
def KW(F:Fun K "note" "note" MF f fd):b_ P w K mg base eU 1 f fd qY FH:=by
 refine F.o ME fun cdv A outer s H vs Q E hr h=> ?_;obtain⟨p,key,v,kvs,rfl,hp,hl,h⟩:=h;refine⟨_,bg (bC (DE (DB aD bf (bS cf) ⟨rfl,rfl,rfl,rfl⟩) bJ)),?_⟩;refine⟨p,rfl,.inl ⟨kvs,.inl hp⟩,av _,fun g hg=> ?_⟩;have pg:p≠g:=fun z=>by rw[z,hg] at hp;cases hp
 have hp1:upd H g (.lst []) p=some (.dK kvs):=by rw[aB pg];exact hp
 refine⟨kvs,key,hp1,rfl,hl,fun y hy=> ?_,fun hy=> ?_⟩
 · rcases h with⟨hn,_⟩ | ⟨q,xs,hq,e,l,h⟩
   · rw[hn] at hy;cases hy
   · rw[hq] at hy;cases hy;have qg:q≠g:=fun z=>by rw[z,hg] at e;cases e
     have e1:upd H g (.lst []) q=some (.lst xs):=by rw[aB qg];exact e
     exact⟨.inl ⟨rfl,_,SqL.of e1⟩,xs,e1,l,h g hg _ rfl⟩
 · rcases h with⟨_,h⟩ | ⟨q,xs,hq,_⟩
   · have e1:upd (upd H g (.lst [])) p (.dK (bZ kvs key (.ref g))) g=some (.lst []):=by rw[aB (br pg),upd_same]
     exact⟨.inl ⟨rfl,_,SqL.of e1⟩,[],e1,by decide,h g hg _ (Mf pg)⟩
   · rw[hq] at hy;cases hy
def KI:bw xi xi (aM qX):=gH
def Jd(F:Fun K "in_order" "in_order" qX f fd):b_ P w K mg base eU 1 f fd xi Ht:=by
 refine F.o KI fun cdv A outer s H vs Q E hr h=> ?_;obtain⟨i,j,b,rfl,q⟩:=h;refine⟨_,bg (cK (xr (d4 bJ) (bS (dO aD bf)) (bS (dO bf aD)))),?_⟩;cases b with
 | true=>exact(⟨by show 2<=sizeLine;decide,q⟩)
 | false=>exact(⟨by show 2<=sizeLine;decide,q⟩)
def scBits:bw ["mask","found","lowest"] ["mask"] (aM u_):=gH
def Gv(F:Fun K "bits_of" "bits_of" u_ f fd):b_ P w K mg base eU 1 f fd ["mask"] oi:=by
 refine F.o scBits fun cdv A outer s H vs Q E hr h=> ?_;obtain⟨m,n,rfl,hm,hn,q⟩:=h;refine⟨_,ba (fR 1 scBits.nd (bS cf)) (ba (xn Ff (xm aD (fun _=>rfl)) (ba (fR 2 scBits.nd (bF mo aD (nA uH aD))) (ba (bC (DE bf (bF j7 (DD PySem.F.plainAttrs_int PySem.F.slot_int_bit_length PySem.F.type_int_bit_length sQ bJ) aw))) (bg (Dt (i:=0) scBits.nd rfl (Or.inl rfl) bJ JG))))) (bg (cK bf))),?_⟩;refine⟨av _,fun l hl=> ?_⟩;dsimp only[gW];show uJ _ _ {nx:=_,rt:=_,bk:=_,ct:=_} _ _;refine wu (fun σ H'=>∃(t:Nat) (o2:Option V),t<=n/\σ=[some (.int ((2^t * (m/2^t):Nat):Int)),some (.ref l),o2]/\H'=upd H l (.lst (((List.range t).filter m.testBit).map fun(i:Nat)=>V.int (i:Int)))) (fun σ _=>Od σ) ⟨0,none,av _,by rw[Nat.pow_zero,Nat.div_one,Nat.one_mul];rfl,rfl⟩ ?_ (fun σ H Q Q' hm h=>by obtain⟨x,e,k,tk,q⟩:=onV.ex h;exact onV.of e ⟨k,tk,hm _ _ q⟩);rintro σ H' ⟨t,o2,ht,rfl,rfl⟩;refine⟨_,rfl,?_⟩;rcases yp (2^t * (m/2^t)) with z | z
 · rw[z];have hlt:m<2^t:=by
    rcases eB m (2^t) with c | c
    · exact c
    · have hp:0<2^t:=jG (by decide);have:0<m/2^t:=Nat.div_pos c hp;have:=Nat.mul_pos hp this
      lia
   rw[Cy m t hlt];exact q l hl
 · have nz:(((2^t * (m/2^t):Nat):Int) !=0)=true:=by
    rw[bne_iff_ne];lia
   rw[nz];obtain⟨t',h1,h2,h3,q',e1,e2⟩:=Cz z;obtain⟨b1,b2⟩:=GD e1;have lt':t'<n:=by
    rcases eB t' n with c | c
    · exact c
    · rw[pS (ax hm (sX (by decide) c))] at h2;cases h2
   have ln:(((List.range t).filter m.testBit).map fun(i:Nat)=>V.int (i:Int)).length<sizeLine:=by
    rw[ae];exact bO (ai (iV _ _) (by rw[d6];exact ai ht hn)) (by decide)
   refine⟨.inl ⟨rfl,_,SqL.of upd_same⟩,rfl,_,rfl,rfl,_,upd_same,ln,_,rfl,_,_,rfl,rfl,?_⟩;dsimp only[List.set];rw[b1,b2,xW];refine⟨⟨t'+1,some (.int ((2^t':Nat):Int)),lt',?_,?_⟩,?_⟩
   · rw[e2]
   · rw[uG,zc h1 h2 h3,aZ];rw[show(((t'+1:Nat):Int) - 1)=(t':Int) by lia]
     rfl
   · show((2^(t'+1) * q':Nat):Int).toNat<((2^t * (m/2^t):Nat):Int).toNat;rw[cz,cz,e1];have hp:0<2^t':=jG (by decide);rw[kG,Ni,nX]
     lia
end
inductive Sh where
 | no | both (i j:Nat) | some (r:Str) (j:Nat)
 deriving DecidableEq
def Hf(H:Hp)(v:V):Sh->Prop
 | .no=>v= .non
 | .both i j=>∃p:Addr,v= .ref p/\H p=some (.tup [.str "both",.int (i:Int),.int (j:Int)])
 | .some r j=>∃p:Addr,v= .ref p/\H p=some (.tup [.str "some",.str r,.int (j:Int)])
def pz:Mo Hf:=fun H H' v s t h=>by
 cases s with
 | no=>exact h
 | both i j=>obtain⟨p,e,h⟩:=h;exact⟨p,e,t _ _ h⟩
 | some r j=>obtain⟨p,e,h⟩:=h;exact⟨p,e,t _ _ h⟩
def LN(H:Hp)(v:V)(k:Kd):Prop:=IsK H k v
def rD:Mo LN:=fun _ _ _ _ t h=>IsK.mono t h
structure LoI where
 parts:List Kd
 shapes:List Sh
 known:List Nat
 everys:Nat->List (Nat × Int)
 nos:Nat->List (Nat × Int × Bool)
 withins:Str->List (Str × Int)
 mk1:Str->List (Str × Str × Int)
 mk2:Str->List (Str × Str × Int)
 boths:Nat->List (Nat × Nat × Bool)
 somes:Nat->List (Str × Nat)
 fillers:Str->Option Nat
 wholes:Str->Nat->Option Nat
noncomputable def LoI.ix(L:LoI)(k:Kd):Nat:=L.parts.idxOf k
noncomputable def LoI.add(L:LoI)(k:Kd)(s:Sh):LoI:={L with parts:=L.parts++[k],shapes:=L.shapes++[s]}
noncomputable def LoI.num:Kd->LoI->LoI
 | .nm x,L=>if Kd.nm x∈L.parts then L else L.add (.nm x) .no
 | .two a b,L=>if Kd.two a b∈L.parts then L else(num b (num a L)).add (.two a b) (.both ((num a L).ix a) ((num b (num a L)).ix b))
 | .som r c,L=>if Kd.som r c∈L.parts then L else(num c L).add (.som r c) (.some r ((num c L).ix c))
noncomputable def LoI.pre:Kd->LoI->LoI
 | .nm _,L=>L
 | .two a b,L=>num b (num a L)
 | .som _ c,L=>num c L
noncomputable def LoI.shp:Kd->LoI->Sh
 | .nm _,_=> .no
 | .two a b,L=> .both ((num a L).ix a) ((num b (num a L)).ix b)
 | .som r c,L=> .some r ((num c L).ix c)
def LoI.num_eq(k:Kd)(L:LoI):LoI.num k L=if k∈L.parts then L else(LoI.pre k L).add k (LoI.shp k L):=by
 cases k with
 | nm x=>rw[LoI.num];rfl
 | two a b=>rw[LoI.num];rfl
 | som r c=>rw[LoI.num];rfl
def LoI.num_in(h:k∈L.parts):LoI.num k L=L:=by rw[LoI.num_eq,aE h]
theorem LoI.num_rest:∀k L,(LoI.num k L).known=L.known/\(LoI.num k L).everys=L.everys/\(LoI.num k L).nos=L.nos/\(LoI.num k L).withins=L.withins/\(LoI.num k L).mk1=L.mk1/\(LoI.num k L).mk2=L.mk2/\(LoI.num k L).boths=L.boths/\(LoI.num k L).somes=L.somes/\(LoI.num k L).fillers=L.fillers/\(LoI.num k L).wholes=L.wholes
 | .nm x,L=>by
   rw[LoI.num]
   split<;>exact⟨rfl,rfl,rfl,rfl,rfl,rfl,rfl,rfl,rfl,rfl⟩
 | .two a b,L=>by
   obtain⟨a0,a1,a2,a3,a4,a5,a6,a7,a8,a9⟩:=LoI.num_rest a L;obtain⟨b0,b1,b2,b3,b4,b5,b6,b7,b8,b9⟩:=LoI.num_rest b (LoI.num a L);rw[LoI.num]
   split
   · exact⟨rfl,rfl,rfl,rfl,rfl,rfl,rfl,rfl,rfl,rfl⟩
   · exact⟨b0.trans a0,b1.trans a1,b2.trans a2,b3.trans a3,b4.trans a4,b5.trans a5,b6.trans a6,b7.trans a7,b8.trans a8,b9.trans a9⟩
 | .som r c,L=>by
   have h:=LoI.num_rest c L;rw[LoI.num]
   split
   · exact⟨rfl,rfl,rfl,rfl,rfl,rfl,rfl,rfl,rfl,rfl⟩
   · exact h
theorem LoI.num_mem:∀k L y,y∈(LoI.num k L).parts->y∈L.parts\/y.sz<=k.sz
 | .nm x,L,y,h=>by
   rw[LoI.num] at h
   split at h
   · exact .inl h
   · rcases ay.mp h with h | h
     · exact .inl h
     · rw[af.mp h];exact .inr (ar _)
 | .two a b,L,y,h=>by
   rw[LoI.num] at h
   split at h
   · exact .inl h
   · rcases ay.mp h with h | h
     · rcases LoI.num_mem b _ y h with h | h
       · rcases LoI.num_mem a _ y h with h | h
         · exact .inl h
         · right;simp only[Kd.sz];lia
       · right;simp only[Kd.sz];lia
     · rw[af.mp h];exact .inr (ar _)
 | .som r c,L,y,h=>by
   rw[LoI.num] at h
   split at h
   · exact .inl h
   · rcases ay.mp h with h | h
     · rcases LoI.num_mem c _ y h with h | h
       · exact .inl h
       · right;simp only[Kd.sz];lia
     · rw[af.mp h];exact .inr (ar _)
theorem LoI.num_sub:∀k L,∃l,(LoI.num k L).parts=L.parts++l
 | .nm x,L=>by
   rw[LoI.num]
   split
   · exact⟨[],by simp⟩
   · exact⟨[.nm x],rfl⟩
 | .two a b,L=>by
   obtain⟨l,e⟩:=LoI.num_sub a L;obtain⟨l',e'⟩:=LoI.num_sub b (LoI.num a L);rw[LoI.num]
   split
   · exact⟨[],by simp⟩
   · exact⟨l++l'++[.two a b],by show(LoI.num b (LoI.num a L)).parts++_=_;rw[e',e];simp⟩
 | .som r c,L=>by
   obtain⟨l,e⟩:=LoI.num_sub c L;rw[LoI.num]
   split
   · exact⟨[],by simp⟩
   · exact⟨l++[.som r c],by show(LoI.num c L).parts++_=_;rw[e];simp⟩
def LoI.num_has(k:Kd)(L:LoI):k∈(LoI.num k L).parts:=by
 rw[LoI.num_eq]
 split
 · assumption
 · show k∈_++[k];simp
def LoI.pre_not(h:k∉L.parts):k∉(LoI.pre k L).parts:=fun hm=>by
 cases k with
 | nm x=>exact h hm
 | two a b=>
   rcases LoI.num_mem b _ _ hm with hm | hm
   · rcases LoI.num_mem a _ _ hm with hm | hm
     · exact h hm
     · simp only[Kd.sz] at hm;lia
   · simp only[Kd.sz] at hm;lia
 | som r c=>
   rcases LoI.num_mem c _ _ hm with hm | hm
   · exact h hm
   · simp only[Kd.sz] at hm;lia
def jC{l:List Kd}(h:k∈l):(l++l').idxOf k=l.idxOf k:=by rw[OF,aE h]
def kR{k:Kd}(h:k∉l):(l++[k]).idxOf k=l.length:=by
 rw[OF];simp[h]
def E2(H:Hp)(v:V)(e:Nat × Int):Prop:=∃p:Addr,v= .ref p/\H p=some (.tup [.int (e.1:Int),.int e.2])
def E3(H:Hp)(v:V)(e:Nat × Int × Bool):Prop:=∃p:Addr,v= .ref p/\H p=some (.tup [.int (e.1:Int),.int e.2.1,.bl e.2.2])
def Ma(H:Hp)(v:V)(e:Str × Int):Prop:=∃p:Addr,v= .ref p/\H p=some (.tup [.str e.1,.int e.2])
def J9(H:Hp)(v:V)(e:Str × Str × Int):Prop:=∃p:Addr,v= .ref p/\H p=some (.tup [.str e.1,.str e.2.1,.int e.2.2])
def EB(H:Hp)(v:V)(e:Nat × Nat × Bool):Prop:=∃p:Addr,v= .ref p/\H p=some (.tup [.int (e.1:Int),.int (e.2.1:Int),.bl e.2.2])
def L_(H:Hp)(v:V)(e:Str × Nat):Prop:=∃p:Addr,v= .ref p/\H p=some (.tup [.str e.1,.int (e.2:Int)])
def e2_mo:Mo E2:=fun _ _ _ _ t ⟨p,e,h⟩=>⟨p,e,t _ _ h⟩
def e3_mo:Mo E3:=fun _ _ _ _ t ⟨p,e,h⟩=>⟨p,e,t _ _ h⟩
def es2_mo:Mo Ma:=fun _ _ _ _ t ⟨p,e,h⟩=>⟨p,e,t _ _ h⟩
def es3_mo:Mo J9:=fun _ _ _ _ t ⟨p,e,h⟩=>⟨p,e,t _ _ h⟩
def eb_mo:Mo EB:=fun _ _ _ _ t ⟨p,e,h⟩=>⟨p,e,t _ _ h⟩
def esm_mo:Mo L_:=fun _ _ _ _ t ⟨p,e,h⟩=>⟨p,e,t _ _ h⟩
noncomputable def kN{α:Type}(f:Nat->List α):Key->List α
 | .inl i=>if 0<=i then f i.toNat else []
 | .inr _=>[]
noncomputable def kS{α:Type}(f:Str->List α):Key->List α
 | .inl _=>[]
 | .inr r=>f r
noncomputable def uA{κ α:Type}[DecidableEq κ](f:κ->List α)(n:κ)(x:α):κ->List α:=fun i=>f i++if i=n then [x] else []
def Bo(f:Nat->List α)(n:Nat)(x:α):(fun j:Key=>kN f j++if j= .inl (n:Int) then [x] else [])=kN (uA f n x):=by
 funext j
 cases j with
 | inl i=>
   show(if 0<=i then f i.toNat else [])++_=if 0<=i then f i.toNat++_ else []
   by_cases h:0<=i
   · rw[aE h,aE h]
     congr 1
     by_cases e:i=(n:Int)
     · rw[aE (by rw[e]),aE (by lia)]
     · rw[aA (fun z=>e (by injection z)),aA (by lia)]
   · rw[aA h,aA h,aA (fun z=>by injection z with z;lia)];rfl
 | inr r=>rw[aA (by intro z;cases z)];rfl
def EA(f:Str->List α)(n:Str)(x:α):(fun j:Key=>kS f j++if j= .inr n then [x] else [])=kS (uA f n x):=by
 funext j
 cases j with
 | inl i=>rw[aA (by intro z;cases z)];rfl
 | inr r=>
   show f r++_=f r++_
   congr 1
   by_cases e:r=n
   · rw[aE (by rw[e]),aE e]
   · rw[aA (fun z=>e (by injection z)),aA e]
noncomputable def Kh(l:List Nat):Key->Option V
 | .inl i=>if 0<=i/\i.toNat∈l then some (.bl true) else none
 | .inr _=>none
noncomputable def Ll(f:Str->Option Nat):Key->Option V
 | .inl _=>none
 | .inr r=>(f r).map fun(m:Nat)=>V.int (m:Int)
noncomputable def Kn(f:Str->Nat->Option Nat):List Key->Option V
 | [.inr r,.inl i]=>if 0<=i then(f r i.toNat).map fun(m:Nat)=>V.int (m:Int) else none
 | _=>none
structure LoA where
 ex:List (Str × V)
 (dx p0 p1 p2 p3 p4 p5 p6 p7 p8 p9 p10 p11 p12:Addr)
noncomputable def mI(A:LoA):List (Str × V):=([("parts",.ref A.p0),("shapes",.ref A.p1),("numbers",.ref A.p2),("known",.ref A.p3),("everys",.ref A.p4),("nos",.ref A.p5),("withins",.ref A.p6),("makes_first",.ref A.p7),("makes_second",.ref A.p8),("boths",.ref A.p9),("somes",.ref A.p10),("fillers",.ref A.p11),("wholes",.ref A.p12)]:List (Str × V))++A.ex
noncomputable def Kj:List (Str × V):=[("anything",.int 0)]
noncomputable def Fw:List (Str × V):=[("anything",.int 0),("nothing",.int 1)]
def FNum(H:Hp)(T:Tg)(p:Addr)(ps:List Kd):Prop:=T p=some (2,none)/\∃kvs,H p=some (.dK kvs)/\(∀k,kO k->cB kvs (.inr (sI k))=if k∈ps then some (.int (ps.idxOf k:Nat)) else none)/\kvs.length<=ps.length
def FNum.fr(f:Fr S T T' H H')(hi:2∉S)(h:FNum H T p ps):FNum H' T' p ps:=by
 obtain⟨t,kvs,e,r⟩:=h;exact⟨f.tg _ _ t,kvs,f.at hi t e,r⟩
structure LoreAt(C:Addr)(A:LoA)(a:Addr)(N:Nat)(T:Tg)(H:Hp)(L:LoI):Prop where
 tg:TgOk T H
 oT:T a=none
 ob:H a=some (.ins C A.dx (mI A))
 f0:FLs LN H T 0 A.p0 L.parts
 f1:FLs Hf H T 1 A.p1 L.shapes
 f2:FNum H T A.p2 L.parts
 f3:FK H T 3 A.p3 (Kh L.known) N
 f4:FTb E2 H T 4 A.p4 (kN L.everys) N
 f5:FTb E3 H T 5 A.p5 (kN L.nos) N
 f6:FTb Ma H T 6 A.p6 (kS L.withins) N
 f7:FTb J9 H T 7 A.p7 (kS L.mk1) N
 f8:FTb J9 H T 8 A.p8 (kS L.mk2) N
 f9:FTb EB H T 9 A.p9 (kN L.boths) N
 f10:FTb L_ H T 10 A.p10 (kN L.somes) N
 f11:FK H T 11 A.p11 (Ll L.fillers) N
 f12:FT H T 12 A.p12 (Kn L.wholes) N
 gd:∀k∈L.parts,kO k
 le:L.parts.length<=N
 sl:L.shapes.length=L.parts.length
 xo:A.ex=[]\/A.ex=Kj\/A.ex=Fw
structure wa(K:Frag)(C:Addr):Prop where
 c:Cls K C
 n0:NoAttr K C "parts"
 n1:NoAttr K C "shapes"
 n2:NoAttr K C "numbers"
 n3:NoAttr K C "known"
 n4:NoAttr K C "everys"
 n5:NoAttr K C "nos"
 n6:NoAttr K C "withins"
 n7:NoAttr K C "makes_first"
 n8:NoAttr K C "makes_second"
 n9:NoAttr K C "boths"
 n10:NoAttr K C "somes"
 n11:NoAttr K C "fillers"
 n12:NoAttr K C "wholes"
 n13:NoAttr K C "anything"
 n14:NoAttr K C "nothing"
section
variable (A:LoA)
theorem Lb:(mI A).lookup ("parts":Str)=some (V.ref A.p0):=rfl
theorem lk1:(mI A).lookup ("shapes":Str)=some (V.ref A.p1):=rfl
theorem lk2:(mI A).lookup ("numbers":Str)=some (V.ref A.p2):=rfl
theorem NH:(mI A).lookup ("known":Str)=some (V.ref A.p3):=rfl
theorem NG:(mI A).lookup ("everys":Str)=some (V.ref A.p4):=rfl
theorem M4:(mI A).lookup ("nos":Str)=some (V.ref A.p5):=rfl
theorem NF:(mI A).lookup ("withins":Str)=some (V.ref A.p6):=rfl
theorem ND:(mI A).lookup ("makes_first":Str)=some (V.ref A.p7):=rfl
theorem NC:(mI A).lookup ("makes_second":Str)=some (V.ref A.p8):=rfl
theorem M3:(mI A).lookup ("boths":Str)=some (V.ref A.p9):=rfl
theorem La:(mI A).lookup ("somes":Str)=some (V.ref A.p10):=rfl
theorem Js:(mI A).lookup ("fillers":Str)=some (V.ref A.p11):=rfl
theorem K_:(mI A).lookup ("wholes":Str)=some (V.ref A.p12):=rfl
end
section
variable {C:Addr}{A:LoA}{a:Addr}{N:Nat}{T:Tg}{H:Hp}{L:LoI}(h:LoreAt C A a N T H L)
include h in
theorem LoreAt.lkNo:(mI A).lookup ("number_of":Str)=none:=by
 obtain⟨ex,dx,p0,p1,p2,p3,p4,p5,p6,p7,p8,p9,p10,p11,p12⟩:=A;rcases h.xo with e | e | e<;>(cases e;rfl)
include h in
theorem LoreAt.lkSh:(mI A).lookup ("shape_of":Str)=none:=by
 obtain⟨ex,dx,p0,p1,p2,p3,p4,p5,p6,p7,p8,p9,p10,p11,p12⟩:=A;rcases h.xo with e | e | e<;>(cases e;rfl)
include h in
theorem LoreAt.lkKn:(mI A).lookup ("know":Str)=none:=by
 obtain⟨ex,dx,p0,p1,p2,p3,p4,p5,p6,p7,p8,p9,p10,p11,p12⟩:=A;rcases h.xo with e | e | e<;>(cases e;rfl)
include h in
theorem LoreAt.lkLe:(mI A).lookup ("learn":Str)=none:=by
 obtain⟨ex,dx,p0,p1,p2,p3,p4,p5,p6,p7,p8,p9,p10,p11,p12⟩:=A;rcases h.xo with e | e | e<;>(cases e;rfl)
theorem K9(e:A.ex=Fw):(mI A).lookup ("anything":Str)=some (V.int 0):=by
 obtain⟨ex,dx,p0,p1,p2,p3,p4,p5,p6,p7,p8,p9,p10,p11,p12⟩:=A;cases e;rfl
theorem Ej(e:A.ex=Fw):(mI A).lookup ("nothing":Str)=some (V.int 1):=by
 obtain⟨ex,dx,p0,p1,p2,p3,p4,p5,p6,p7,p8,p9,p10,p11,p12⟩:=A;cases e;rfl
end
inductive uN(C:Addr)(d:Nat)(vs:List V)(H:Hp)(Q:VK):Prop
 | mk:∀a A N T L v k,(vs=[.ref a,v])->(LoreAt C A a N T H L)->(IsK H k v)->(kO k)->(k.nt<=24)->(k.dep<d)->(N+k.sz<=100000)->(∀H' T',Fr [0,1,2] T T' H H'->LoreAt C A a (N+k.sz) T' H' (LoI.num k L)->Q (.int ((LoI.num k L).ix k:Nat)) H')->uN C d vs H Q
def mU(C:Addr)(d:Nat):Sp:=fun vs H Q _=>uN C d vs H Q
inductive Aq(C:Addr)(d:Nat)(vs:List V)(H:Hp)(Q:VK):Prop
 | mk:∀a A N T L v k,(vs=[.ref a,v])->(LoreAt C A a N T H L)->(IsK H k v)->(kO k)->(k.nt<=24)->(k.dep<d)->(N+k.sz<=100000)->(∀H' T' v',Fr [0,1,2] T T' H H'->LoreAt C A a (N+k.sz - 1) T' H' (LoI.pre k L)->Hf H' v' (LoI.shp k L)->Q v' H')->Aq C d vs H Q
def Hs(C:Addr)(d:Nat):Sp:=fun vs H Q _=>Aq C d vs H Q
def LoreAt.mono(h:LoreAt C A a N T H L)(hn:N<=N'):LoreAt C A a N' T H L:=by
 have k:∀{i p f},FK H T i p f N->FK H T i p f N':=fun⟨t,kvs,e,r,l⟩=>⟨t,kvs,e,r,ai l hn⟩;have b:∀{α:Type} {R:Hp->V->α->Prop} {i p f},FTb R H T i p f N->FTb R H T i p f N':=fun⟨t,kvs,e,l,ll,r⟩=>⟨t,kvs,e,ai l hn,fun k=>ai (ll k) hn,r⟩;have f:∀{i p f},FT H T i p f N->FT H T i p f N':=fun⟨t,kvs,e,r,l⟩=>⟨t,kvs,e,r,ai l hn⟩;exact⟨h.tg,h.oT,h.ob,h.f0,h.f1,h.f2,k h.f3,b h.f4,b h.f5,b h.f6,b h.f7,b h.f8,b h.f9,b h.f10,k h.f11,f h.f12,h.gd,ai h.le hn,h.sl,h.xo⟩
def LoreAt.fr(h:LoreAt C A a N T H L)(f:Fr S T T' H H')(hS:∀i∈S,13<=i)(tg:TgOk T' H'):LoreAt C A a N T' H' L:=by
 have n:∀{i},i<13->i∉S:=fun hi z=>by have:=hS _ z;lia
 have oT':T' a=none:=by
  cases e:T' a with
  | none=>rfl
  | some j=>
    rcases f.new a j e with z | z
    · rw[h.oT] at z;cases z
    · rw[h.ob] at z;cases z.1
 exact⟨tg,oT',f.but a _ h.ob (fun i k z=>by rw[h.oT] at z;cases z),h.f0.fr rD f (n (by decide)),h.f1.fr pz f (n (by decide)),h.f2.fr f (n (by decide)),h.f3.fr f (n (by decide)),h.f4.fr e2_mo f (n (by decide)),h.f5.fr e3_mo f (n (by decide)),h.f6.fr es2_mo f (n (by decide)),h.f7.fr es3_mo f (n (by decide)),h.f8.fr es3_mo f (n (by decide)),h.f9.fr eb_mo f (n (by decide)),h.f10.fr esm_mo f (n (by decide)),h.f11.fr f (n (by decide)),h.f12.fr f (n (by decide)),h.gd,h.le,h.sl,h.xo⟩
def LoreAt.same(h:LoreAt C A a N T H L)(s:Same H H'):LoreAt C A a N T H' L:=h.fr (S:=[]) (Fr.of s) (fun i z=>(ao z).elim) (h.tg.same s)
def LoreAt.addp(h:LoreAt C A a N T H L)(ik:IsK H k v)(ok:kO k)(is:Hf H v' s)(hk:k∉L.parts)(e2:H A.p2=some (.dK kvs))(e0:H A.p0=some (.lst ps))(e1:H A.p1=some (.lst ss))(H':Hp)(hH:H'=upd (upd (upd H A.p2 (.dK (bZ kvs (.inr (sI k)) (.int (L.parts.length:Nat))))) A.p0 (.lst (ps++[v]))) A.p1 (.lst (ss++[v']))):Fr [0,1,2] T T H H'/\LoreAt C A a (N+1) T H' (L.add k s):=by
 subst hH;obtain⟨t2,kvs',e2',r2,l2⟩:=h.f2;rw[e2] at e2';cases e2';have g2:Fr [2] T T H (upd H A.p2 (.dK (bZ kvs (.inr (sI k)) (.int (L.parts.length:Nat))))):=Fr.put t2 (by simp) (fun xs z=>by rw[e2] at z;cases z);have d02:A.p0≠A.p2:=fun z=>by rw[z,e2] at e0;cases e0
 have d12:A.p1≠A.p2:=fun z=>by rw[z,e2] at e1;cases e1
 have d10:A.p1≠A.p0:=fun z=>by have a1:=h.f1.1;rw[z,h.f0.1] at a1;cases a1
 obtain⟨f0,g0⟩:=(h.f0.fr rD g2 (by decide)).app (vs:=ps) (v:=v) (x:=k) rD (by rw[aB d02];exact e0) (IsK.mono g2.tups ik);have g20:=(g2.mono (S':=[0,1,2]) (by simp)).trans (g0.mono (S':=[0,1,2]) (by simp));obtain⟨f1,g1⟩:=((h.f1.fr pz g2 (by decide)).fr pz g0 (by decide)).app (vs:=ss) (v:=v') (x:=s) pz (by rw[aB d10,aB d12];exact e1) (pz _ _ _ _ g20.tups is);have g:=g20.trans (g1.mono (S':=[0,1,2]) (by simp));have n:∀{i},3<=i->i∉[0,1,2]:=fun hi z=>by simp at z;lia
 have h':=h.mono (bD N);refine⟨g,⟨((h.tg.put).put).put,h.oT,g.but a _ h.ob (fun i k z=>by rw[h.oT] at z;cases z),f0.fr rD g1 (by decide),f1,?_,h'.f3.fr g (n (by decide)),h'.f4.fr e2_mo g (n (by decide)),h'.f5.fr e3_mo g (n (by decide)),h'.f6.fr es2_mo g (n (by decide)),h'.f7.fr es3_mo g (n (by decide)),h'.f8.fr es3_mo g (n (by decide)),h'.f9.fr eb_mo g (n (by decide)),h'.f10.fr esm_mo g (n (by decide)),h'.f11.fr g (n (by decide)),h'.f12.fr g (n (by decide)),?_,?_,?_,h.xo⟩⟩
 · refine⟨t2,bZ kvs (.inr (sI k)) (.int (L.parts.length:Nat)),?_,fun y oy=> ?_,?_⟩
   · rw[aB (br d12),aB (br d02),upd_same]
   · rw[fq];show _=if y∈L.parts++[k] then some (V.int ((L.parts++[k]).idxOf y:Nat)) else none
     by_cases e:y=k
     · subst e;rw[aE rfl,aE (by simp),kR hk]
     · rw[aA (fun z=>e (Fz oy ok (by injection z))),r2 y oy];by_cases m:y∈L.parts
       · rw[aE m,aE (by simp[m]),jC m]
       · rw[aA m,aA (by simp[m,e])]
   · show _<=(L.parts++[k]).length;rw[ak];exact ai (cM _ _ _) (gD l2)
 · intro y hy;rcases ay.mp hy with hy | hy
   · exact h.gd y hy
   · rw[af.mp hy];exact ok
 · show(L.parts++[k]).length<=N+1;rw[ak];exact gD h.le
 · show(L.shapes++[s]).length=(L.parts++[k]).length;rw[ak,ak,h.sl];rfl
section
def KH:bw fA fA (aM kJ):=gH
def Jc(F:Fun K "shape_of" "Lore.shape_of" kJ f fd)(lc:wa K C)(mi:mg "isinstance"=none)(ms:mg "str"=none)(Gno:Ml P w K mg base C (2 * d) "number_of" fA (mU C d)):b_ P w K mg base eU (2 * d+1) f fd fA (Hs C (d+1)):=by
 refine F.o KH fun cdv A outer s H vs Q E hr h=> ?_;obtain⟨a,B,N,T,L,v,k,rfl,la,ik,ok,hnt,hd,hN,q⟩:=h;refine⟨_,ba (bL (d4 (yr mi ms cm bf)) (bg (cK ej)) be) (ba (bL (eX cT (eh bf) bq) (bg (cK (cX (iS bq (gU aD lc.c Gno hr (eR (eh bf))) (gU aD lc.c Gno hr (eR (eh bf))))))) be) (bg (cK (cX (iS bq (eh bf) (gU aD lc.c Gno hr (eR (eh bf)))))))),?_⟩;cases k with
 | nm x=>
   obtain rfl:v= .str x:=ik;exact⟨_,_,_,true,rfl,TyOf.str x,dR K,(q H T .non Fr.refl (la.mono (by simp[Kd.sz])) rfl)⟩
 | two a' b'=>
   obtain⟨p,x,y,rfl,hp,ha,hb⟩:=id ik;simp only[Kd.nt,Kd.dep] at hnt hd;have hz:(Kd.two a' b').sz=1+a'.sz+b'.sz:=rfl;refine⟨_,_,_,false,rfl,TyOf.tup hp,cY K,⟨_,_,SqT.of hp,aJ (j:=0) rfl,?_⟩⟩;refine⟨_,_,la.ob,la.lkNo,_,_,SqT.of hp,aJ (j:=1) rfl,a,B,N,T,L,x,a',rfl,la,ha,ok.1,by lia,by lia,by lia,fun H1 T1 f1 l1=> ?_⟩;have hp1:=f1.tups _ _ hp;refine⟨_,_,l1.ob,l1.lkNo,_,_,SqT.of hp1,aJ (j:=2) rfl,a,B,_,T1,_,y,b',rfl,l1,IsK.mono f1.tups hb,ok.2,by lia,by lia,by lia,fun H2 T2 f2 l2=>⟨by show 3<=sizeLine;decide,fun t ht=>q _ T2 _ ((f1.trans f2).trans (Fr.of (aj ht _))) ((l2.same (aj ht _)).mono (by lia)) ⟨t,rfl,upd_same⟩⟩⟩
 | som r c=>
   obtain⟨p,y,rfl,hp,hc⟩:=id ik;simp only[Kd.nt,Kd.dep] at hnt hd;have hz:(Kd.som r c).sz=1+c.sz:=rfl;refine⟨_,_,_,false,rfl,TyOf.tup hp,cY K,⟨_,_,SqT.of hp,aJ (j:=0) rfl,?_⟩⟩;refine⟨_,_,SqT.of hp,aJ (j:=1) rfl,_,_,la.ob,la.lkNo,_,_,SqT.of hp,aJ (j:=2) rfl,a,B,N,T,L,y,c,rfl,la,hc,ok.2,by lia,by lia,by lia,fun H1 T1 f1 l1=>⟨by show 3<=sizeLine;decide,fun t ht=>q _ T1 _ (f1.trans (Fr.of (aj ht _))) ((l1.same (aj ht _)).mono (by lia)) ⟨t,rfl,upd_same⟩⟩⟩
def scNum:bw ["self","x","text","shape"] fA (aM jy):=gH
def Je(F:Fun K "number_of" "Lore.number_of" jy f fd)(lc:wa K C)(ml:mg "len"=none)(Gsh:Ml P w K mg base C (2 * d+1) "shape_of" fA (Hs C (d+1)))(Gsk:Cl P w K mg base (d+1) "show_kind" gT (lU (d+1))):b_ P w K mg base eU (2 * (d+1)) f fd fA (mU C (d+1)):=by
 refine F.o scNum fun cdv A outer s H vs Q E hr h=> ?_;obtain⟨a,B,N,T,L,v,k,rfl,la,ik,ok,hnt,hd,hN,q⟩:=h;have hu:=fL hr;refine⟨_,ba (fR 2 scNum.nd (dG Gsk hr (eR bf)))
  (ba (bL (eX (oF hu) bJ (c_ aD)) (ba (fR 3 scNum.nd (gU aD lc.c Gsh hr (eR bf))) (ba (df hu (c_ aD) bJ (BR ml (c_ aD)) rfl) (ba (bC (DE (c_ aD) bf)) (bg (bC (DE (c_ aD) cE)))))) be)
  (bg (cK (wg hu (c_ aD) bJ)))),?_⟩
 refine⟨v,k,rfl,ik,ok,hnt,hd,?_⟩;obtain⟨t2,kvs,e2,r2,l2⟩:=la.f2;refine⟨C,_,_,_,la.ob,lc.c,lc.n2,lk2 B,B.p2,_,rfl,DGet.k (k:= .inr (sI k)) e2,?_⟩;rw[r2 k ok];by_cases hk:k∈L.parts
 · rw[aE hk];refine⟨C,_,_,_,la.ob,lc.c,lc.n2,lk2 B,_,.inl ⟨kvs,.inr (sI k),.inl e2,rfl,by rw[r2 k ok,aE hk]⟩,?_⟩;have q0:=q H T Fr.refl;rw[LoI.num_in hk] at q0;exact q0 (la.mono (dv _ _))
 · rw[aA hk];refine⟨_,_,la.ob,la.lkSh,a,B,N,T,L,v,k,rfl,la,ik,ok,hnt,hd,hN,fun H1 T1 v1 f1 l1 is1=> ?_⟩;obtain⟨t0,ps,e0,r0⟩:=l1.f0;obtain⟨t1,ss,e1,r1⟩:=l1.f1;obtain⟨t2',kvs1,e21,r21,l21⟩:=l1.f2;have pl:ps.length=(LoI.pre k L).parts.length:=bu r0;have sl:ss.length=(LoI.pre k L).parts.length:=(bu r1).trans l1.sl;have le1:=l1.le;have hz:1<=k.sz:=by cases k<;>simp only[Kd.sz]<;>lia
   have small:(LoI.pre k L).parts.length<sizeLine:=bO (show _<=100000 by lia) (by decide);have d02:B.p0≠B.p2:=fun z=>by rw[z,e21] at e0;cases e0
   have d12:B.p1≠B.p2:=fun z=>by rw[z,e21] at e1;cases e1
   have d10:B.p1≠B.p0:=fun z=>by rw[z,t0] at t1;cases t1
   obtain⟨g,lN⟩:=l1.addp (IsK.mono f1.tups ik) ok is1 (LoI.pre_not hk) e21 e0 e1 _ rfl;have nd2:∀{o:HO},B.p2≠a:=fun {o} z=>by rw[z,l1.ob] at e21;cases e21
   have nd0:B.p0≠a:=fun z=>by rw[z,l1.ob] at e0;cases e0
   refine⟨C,_,_,_,l1.ob,lc.c,lc.n0,Lb B,B.p0,ps,rfl,.inl (SqL.of e0),C,_,_,_,l1.ob,lc.c,lc.n2,lk2 B,_,DPut.k (k:= .inr (sI k)) e21 (bO l21 small),?_⟩;rw[pl];have ob1:∀{o:HO},upd H1 B.p2 o a=some (.ins C B.dx (mI B)):=fun {o}=>by rw[aB (br (nd2 (o:=o)))];exact l1.ob
   have e01:∀{o:HO},upd H1 B.p2 o B.p0=some (.lst ps):=fun {o}=>by rw[aB d02];exact e0
   refine⟨C,_,_,_,ob1,lc.c,lc.n0,Lb B,.inl ⟨rfl,_,SqL.of e01⟩,ps,e01,by rw[pl];exact small,?_⟩;have ob2:∀{o o':HO},upd (upd H1 B.p2 o) B.p0 o' a=some (.ins C B.dx (mI B)):=fun {o o'}=>by rw[aB (br nd0)];exact ob1
   have e11:∀{o o':HO},upd (upd H1 B.p2 o) B.p0 o' B.p1=some (.lst ss):=fun {o o'}=>by rw[aB d10,aB d12];exact e1
   refine⟨C,_,_,_,ob2,lc.c,lc.n1,lk1 B,.inl ⟨rfl,_,SqL.of e11⟩,ss,e11,by rw[sl];exact small,?_⟩;obtain⟨t3,kvs3,e3,r3,l3⟩:=lN.f2;have hin:k∈((LoI.pre k L).add k (LoI.shp k L)).parts:=by show k∈_++[k];simp
   refine⟨C,_,_,_,lN.ob,lc.c,lc.n2,lk2 B,_,.inl ⟨kvs3,.inr (sI k),.inl e3,rfl,by rw[r3 k ok,aE hin]⟩,?_⟩;have q0:=q _ T1 (f1.trans g);rw[LoI.num_eq,aA hk] at q0;exact q0 (lN.mono (by lia))
end
section
def D9:b_ P w K mg base eU (2 * 0) f fd fA (mU C 0):=by
 have no:∀vs H Q E,¬ mU C 0 vs H Q E:=fun vs H Q E h=>by
  obtain⟨a,A,N,T,L,v,k,_,_,_,_,_,h,_⟩:=h
  lia
 exact⟨fun vs H Q E h=>absurd h (no vs H Q E),fun A outer s H args us vs Q E _ _ _ _ h=>absurd h (no vs H Q E)⟩
theorem Bj(A:Mq K C "number_of" "Lore.number_of" jy fA)(A':Mq K C "shape_of" "Lore.shape_of" kJ fA)(lc:wa K C)(ml:mg "len"=none)(mi:mg "isinstance"=none)(ms:mg "str"=none)(Gsk:∀n,Cl P w K mg base n "show_kind" gT (lU n)):∀d:Nat,Ml P w K mg base C (2 * d) "number_of" fA (mU C d)
 | 0=>A.ml fun _=>D9
 | d+1=>A.ml fun F=>Je F lc ml (A'.ml fun F'=>Jc F' lc mi ms (Bj A A' lc ml mi ms Gsk d)) (Gsk (d+1))
end
def LoI.ok1(L:LoI):Kd->Prop
 | .nm x=>L.shapes[L.ix (.nm x)]? =some .no
 | .two a b=>a∈L.parts/\b∈L.parts/\L.shapes[L.ix (.two a b)]? =some (.both (L.ix a) (L.ix b))
 | .som r c=>c∈L.parts/\L.shapes[L.ix (.som r c)]? =some (.some r (L.ix c))
def Sh.lt(n:Nat):Sh->Prop
 | .no=>True
 | .both i j=>i<n/\j<n
 | .some _ j=>j<n
def Sh.lt_mono{n m:Nat}(h:n<=m){s:Sh}(l:s.lt n):s.lt m:=by
 cases s with
 | no=>trivial
 | both i j=>exact⟨ax l.1 h,ax l.2 h⟩
 | some r j=>exact ax (show j<n from l) h
structure LoI.Ok(L:LoI):Prop where
 sl:L.shapes.length=L.parts.length
 sh:∀k∈L.parts,L.ok1 k
 lt:∀(i:Nat) (s:Sh),L.shapes[i]? =some s->s.lt L.parts.length
 nd:L.parts.Nodup
def LoI.ix_lt{L:LoI}(h:k∈L.parts):L.ix k<L.parts.length:=kH h
def LoI.add_ok{L:LoI}(o:L.Ok)(hk:k∉L.parts)(hs:(L.add k s).ok1 k)(hl:s.lt (L.parts.length+1)):(L.add k s).Ok:=by
 refine⟨by show(L.shapes++[s]).length=(L.parts++[k]).length;rw[ak,ak,o.sl];rfl,fun y hy=> ?_,fun i q e=> ?_,?_⟩
 case refine_2=>
  have pl:(L.add k s).parts.length=L.parts.length+1:=by show(L.parts++[k]).length=_;rw[ak];rfl
  rw[pl];have e':(L.shapes++[s])[i]? =some q:=e;rcases eB i L.shapes.length with c | c
  · rw[bQ c] at e';exact Sh.lt_mono (bD _) (o.lt i q e')
  · rw[cy c] at e';have:q∈[s]:=au e';rw[af.mp this];exact hl
 case refine_3=>
  show(L.parts++[k]).Nodup;rw[mK];exact⟨o.nd,by simp,fun x hx y hy=>by rw[show y=k by simpa using hy];exact fun z=>hk (by rw[<-z];exact hx)⟩
 rcases ay.mp hy with h | h
 · have ix:∀{z},z∈L.parts->(L.add k s).ix z=L.ix z:=fun hz=>jC hz;have gt:∀{z},z∈L.parts->∀t,L.shapes[L.ix z]? =some t->(L.add k s).shapes[(L.add k s).ix z]? =some t:=fun hz t e=>by
    rw[ix hz];show(L.shapes++[s])[_]? =_;rw[bQ (by rw[o.sl];exact LoI.ix_lt hz)];exact e
   have old:=o.sh y h;have mem:∀{z},z∈L.parts->z∈(L.add k s).parts:=fun hz=>aS _ hz;cases y with
   | nm x=>exact gt h _ old
   | two a b=>exact⟨mem old.1,mem old.2.1,by rw[ix old.1,ix old.2.1];exact gt h _ old.2.2⟩
   | som r c=>exact⟨mem old.1,by rw[ix old.1];exact gt h _ old.2⟩
 · rw[af.mp h];exact hs
theorem LoI.num_ok:∀(k:Kd) {L:LoI},L.Ok->(LoI.num k L).Ok
 | .nm x,L,o=>by
   rw[LoI.num]
   split
   · exact o
   · rename_i h;refine LoI.add_ok o h ?_ trivial;show(L.shapes++[Sh.no])[(L.parts++[Kd.nm x]).idxOf (.nm x)]? =_;rw[kR h,<-o.sl];simp
 | .two a b,L,o=>by
   have o2:=LoI.num_ok b (LoI.num_ok a o);rw[LoI.num]
   split
   · exact o
   · rename_i h;have hn:Kd.two a b∉(LoI.num b (LoI.num a L)).parts:=LoI.pre_not (k:= .two a b) h;obtain⟨l,e⟩:=LoI.num_sub b (LoI.num a L);have ha:a∈(LoI.num b (LoI.num a L)).parts:=by rw[e];exact aS _ (LoI.num_has a L)
     have hb:=LoI.num_has b (LoI.num a L);have ia:(LoI.num b (LoI.num a L)).ix a=(LoI.num a L).ix a:=by unfold LoI.ix;rw[e,jC (LoI.num_has a L)]
     refine LoI.add_ok o2 hn ⟨aS _ ha,aS _ hb,?_⟩ ⟨by rw[<-ia];exact dD (LoI.ix_lt ha),dD (LoI.ix_lt hb)⟩;show((LoI.num b (LoI.num a L)).shapes++[_])[((LoI.num b (LoI.num a L)).parts++[Kd.two a b]).idxOf (.two a b)]? =some (.both (((LoI.num b (LoI.num a L)).parts++[_]).idxOf a) (((LoI.num b (LoI.num a L)).parts++[_]).idxOf b));rw[kR hn,jC ha,jC hb,<-o2.sl,<-ia];simp[LoI.ix]
 | .som r c,L,o=>by
   have o2:=LoI.num_ok c o;rw[LoI.num]
   split
   · exact o
   · rename_i h;have hn:Kd.som r c∉(LoI.num c L).parts:=LoI.pre_not (k:= .som r c) h;have hc:=LoI.num_has c L;refine LoI.add_ok o2 hn ⟨aS _ hc,?_⟩ (dD (LoI.ix_lt hc));show((LoI.num c L).shapes++[_])[((LoI.num c L).parts++[Kd.som r c]).idxOf (.som r c)]? =some (.some r (((LoI.num c L).parts++[_]).idxOf c));rw[kR hn,jC hc,<-o2.sl];simp[LoI.ix]
noncomputable def yJ{κ α:Type}[DecidableEq κ](f:κ->Option α)(n:κ)(x:α):κ->Option α:=fun i=>if i=n then some x else f i
noncomputable def uT(f:Str->Nat->Option Nat)(r:Str)(n x:Nat):Str->Nat->Option Nat:=fun s i=>if s=r/\i=n then some x else f s i
noncomputable def LoI.kn(L:LoI)(i:Nat):LoI:={L with known:=L.known++[i]}
noncomputable def LoI.bo(L:LoI)(i j k:Nat):LoI:={L with boths:=uA (uA L.boths i (j,k,true)) j (i,k,false)}
noncomputable def LoI.so(L:LoI)(r:Str)(j k:Nat):LoI:={L with somes:=uA L.somes j (r,k),fillers:=yJ L.fillers r ((L.fillers r).getD 0 ||| 2^j),wholes:=uT L.wholes r j k}
noncomputable def LoI.know:Kd->LoI->LoI
 | .nm x,L=>if L.ix (.nm x)∈L.known then L else L.kn (L.ix (.nm x))
 | .two a b,L=>if L.ix (.two a b)∈L.known then L else know b ((know a (L.kn (L.ix (.two a b)))).bo (L.ix a) (L.ix b) (L.ix (.two a b)))
 | .som r c,L=>if L.ix (.som r c)∈L.known then L else know c ((L.kn (L.ix (.som r c))).so r (L.ix c) (L.ix (.som r c)))
theorem LoI.know_rest:∀k L,(LoI.know k L).parts=L.parts/\(LoI.know k L).shapes=L.shapes
 | .nm x,L=>by rw[LoI.know];split<;>exact⟨rfl,rfl⟩
 | .two a b,L=>by
   rw[LoI.know]
   split
   · exact⟨rfl,rfl⟩
   · obtain⟨h1,h2⟩:=LoI.know_rest b ((LoI.know a (L.kn (L.ix (.two a b)))).bo (L.ix a) (L.ix b) (L.ix (.two a b)));obtain⟨h3,h4⟩:=LoI.know_rest a (L.kn (L.ix (.two a b)));exact⟨h1.trans h3,h2.trans h4⟩
 | .som r c,L=>by
   rw[LoI.know]
   split
   · exact⟨rfl,rfl⟩
   · exact LoI.know_rest c _
def LoI.Ok.of{L L':LoI}(o:L.Ok)(h1:L'.parts=L.parts)(h2:L'.shapes=L.shapes):L'.Ok:=by
 have ix:∀z,L'.ix z=L.ix z:=fun z=>by unfold LoI.ix;rw[h1]
 refine⟨by rw[h1,h2];exact o.sl,fun k hk=> ?_,fun i s e=>by rw[h1];exact o.lt i s (by rw[<-h2];exact e),by rw[h1];exact o.nd⟩;rw[h1] at hk;have old:=o.sh k hk;cases k with
 | nm x=>show L'.shapes[_]? =_;rw[h2,ix];exact old
 | two a b=>exact⟨h1 ▸ old.1,h1 ▸ old.2.1,by rw[h2,ix,ix,ix];exact old.2.2⟩
 | som r c=>exact⟨h1 ▸ old.1,by rw[h2,ix,ix];exact old.2⟩
def hX{α:Type}{R:Hp->V->α->Prop}(m:Mo R){H:Hp}{T:Tg}{i:Nat}{p:Addr}{g:Key->List α}{n:Nat}{key:Key}{v:V}{x:α}{Q:VK}(tg:TgOk T H)(h:FTb R H T i p g n)(hn:n<=5000000)(r:R H v x)(q:∀H' T',Fr [i] T T' H H'->TgOk T' H'->FTb R H' T' i p (fun j=>g j++if j=key then [x] else []) (n+1)->Q .non H'):yC [.ref p,kV key,v] H Q:=by
 obtain⟨t,kvs,e,l,ll,rs⟩:=id h;refine⟨p,key,v,kvs,rfl,e,bO (ai l hn) (by decide),?_⟩;rcases rs key with⟨z,_⟩ | ⟨q0,vs,z1,z2,z3,z4⟩
 · refine .inl ⟨z,fun q0 hq H' hH=> ?_⟩;obtain⟨n1,n2,n3⟩:=FTb.new m tg h e z hq r H' hH;exact q H' _ n2 n3 n1
 · refine .inr ⟨q0,vs,z1,z3,by rw[bu z4];exact bO (ai (ll key) hn) (by decide),fun g0 hg H' hH=> ?_⟩;subst hH;have s:=aj hg (.lst []);have h1:=h.fr m (Fr.of (S:=[]) s) (ao);obtain⟨n1,n2⟩:=FTb.app m h1 (s _ _ e) z1 (s _ _ z3) (m _ _ _ _ s.tups r);exact q _ T ((Fr.of s).trans n2) ((tg.same s).put) n1
def LoreAt.renew{C:Addr}{A:LoA}{a:Addr}{N N':Nat}{S:List Nat}{T T':Tg}{H H':Hp}{L L':LoI}(h:LoreAt C A a N T H L)(hN:N<=N')(f:Fr S T T' H H')(tg:TgOk T' H')(hp:L'.parts=L.parts)(hs:L'.shapes=L.shapes)(n2:∀i∈S,3<=i)(c3:FK H' T' 3 A.p3 (Kh L'.known) N'\/(3∉S/\L'.known=L.known):=by exact .inr ⟨by decide,rfl⟩)(c4:FTb E2 H' T' 4 A.p4 (kN L'.everys) N'\/(4∉S/\L'.everys=L.everys):=by exact .inr ⟨by decide,rfl⟩)(c5:FTb E3 H' T' 5 A.p5 (kN L'.nos) N'\/(5∉S/\L'.nos=L.nos):=by exact .inr ⟨by decide,rfl⟩)(c6:FTb Ma H' T' 6 A.p6 (kS L'.withins) N'\/(6∉S/\L'.withins=L.withins):=by exact .inr ⟨by decide,rfl⟩)(c7:FTb J9 H' T' 7 A.p7 (kS L'.mk1) N'\/(7∉S/\L'.mk1=L.mk1):=by exact .inr ⟨by decide,rfl⟩)(c8:FTb J9 H' T' 8 A.p8 (kS L'.mk2) N'\/(8∉S/\L'.mk2=L.mk2):=by exact .inr ⟨by decide,rfl⟩)(c9:FTb EB H' T' 9 A.p9 (kN L'.boths) N'\/(9∉S/\L'.boths=L.boths):=by exact .inr ⟨by decide,rfl⟩)(c10:FTb L_ H' T' 10 A.p10 (kN L'.somes) N'\/(10∉S/\L'.somes=L.somes):=by exact .inr ⟨by decide,rfl⟩)(c11:FK H' T' 11 A.p11 (Ll L'.fillers) N'\/(11∉S/\L'.fillers=L.fillers):=by exact .inr ⟨by decide,rfl⟩)(c12:FT H' T' 12 A.p12 (Kn L'.wholes) N'\/(12∉S/\L'.wholes=L.wholes):=by exact .inr ⟨by decide,rfl⟩):LoreAt C A a N' T' H' L':=by
 have h':=h.mono hN;have n:∀{i},i<3->i∉S:=fun hi z=>by have:=n2 _ z;lia
 have oT':T' a=none:=by
  cases e:T' a with
  | none=>rfl
  | some j=>
    rcases f.new a j e with z | z
    · rw[h.oT] at z;cases z
    · rw[h.ob] at z;cases z.1
 refine⟨tg,oT',f.but a _ h.ob (fun i k z=>by rw[h.oT] at z;cases z),by rw[hp];exact h'.f0.fr rD f (n (by decide)),by rw[hs];exact h'.f1.fr pz f (n (by decide)),by rw[hp];exact h'.f2.fr f (n (by decide)),?_,?_,?_,?_,?_,?_,?_,?_,?_,?_,by rw[hp];exact h'.gd,by rw[hp];exact h'.le,by rw[hp,hs];exact h'.sl,h'.xo⟩
 · rcases c3 with c | ⟨c,e⟩;exact c;rw[e];exact h'.f3.fr f c
 · rcases c4 with c | ⟨c,e⟩;exact c;rw[e];exact h'.f4.fr e2_mo f c
 · rcases c5 with c | ⟨c,e⟩;exact c;rw[e];exact h'.f5.fr e3_mo f c
 · rcases c6 with c | ⟨c,e⟩;exact c;rw[e];exact h'.f6.fr es2_mo f c
 · rcases c7 with c | ⟨c,e⟩;exact c;rw[e];exact h'.f7.fr es3_mo f c
 · rcases c8 with c | ⟨c,e⟩;exact c;rw[e];exact h'.f8.fr es3_mo f c
 · rcases c9 with c | ⟨c,e⟩;exact c;rw[e];exact h'.f9.fr eb_mo f c
 · rcases c10 with c | ⟨c,e⟩;exact c;rw[e];exact h'.f10.fr esm_mo f c
 · rcases c11 with c | ⟨c,e⟩;exact c;rw[e];exact h'.f11.fr f c
 · rcases c12 with c | ⟨c,e⟩;exact c;rw[e];exact h'.f12.fr f c
def Bn(l:List Nat)(i:Nat):(fun j:Key=>if j= .inl (i:Int) then some (V.bl true) else Kh l j)=Kh (l++[i]):=by
 funext j
 cases j with
 | inl n=>
   show _=if 0<=n/\n.toNat∈l++[i] then some (V.bl true) else none
   by_cases e:n=(i:Int)
   · rw[aE (by rw[e]),aE (by refine⟨by lia,?_⟩;rw[e];simp)]
   · rw[aA (fun z=>e (by injection z))];show(if 0<=n/\n.toNat∈l then some (V.bl true) else none)=_;by_cases c:0<=n/\n.toNat∈l
     · rw[aE c,aE ⟨c.1,aS _ c.2⟩]
     · rw[aA c,aA (fun z=>c ⟨z.1,(ay.mp z.2).resolve_right fun y=>by have:=af.mp y;lia⟩)]
 | inr r=>rw[aA (by intro z;cases z)];rfl
def GS(f:Str->Option Nat)(r:Str)(m:Nat):(fun j:Key=>if j= .inr r then some (V.int (m:Int)) else Ll f j)=Ll (yJ f r m):=by
 funext j
 cases j with
 | inl n=>rw[aA (by intro z;cases z)];rfl
 | inr s=>
   show _=(yJ f r m s).map _;unfold yJ;by_cases e:s=r
   · rw[aE (by rw[e]),aE e];rfl
   · rw[aA (fun z=>e (by injection z)),aA e];rfl
def FB(f:Str->Nat->Option Nat)(r:Str)(n m:Nat):(fun j:List Key=>if j=[.inr r,.inl (n:Int)] then some (V.int (m:Int)) else Kn f j)=Kn (uT f r n m):=by
 funext j
 by_cases e:j=[.inr r,.inl (n:Int)]
 · subst e;rw[aE rfl];show _=if 0<=(n:Int) then _ else none
   rw[aE (show 0<=(n:Int) by lia)];unfold uT;have c:r=r/\(n:Int).toNat=n:=⟨rfl,by lia⟩;rw[aE c]
   rfl
 · rw[aA e]
   match j,e with
   | [.inr s,.inl i],e=>
     show(if 0<=i then _ else none)=if 0<=i then _ else none
     by_cases c:0<=i
     · rw[aE c,aE c];unfold uT;rw[aA (fun z=>e (by rw[z.1,<-z.2,NS c]))]
     · rw[aA c,aA c]
   | [],_=>rfl
   | [.inl _],_=>rfl
   | [.inr _],_=>rfl
   | [.inl _,_],_=>rfl
   | [.inr _,.inr _],_=>rfl
   | x::y::z::w,_=>cases x<;>cases y<;>rfl
inductive wN(C:Addr)(d:Nat)(vs:List V)(H:Hp)(Q:VK):Prop
 | mk:∀a A N T L k,(vs=[.ref a,.int (L.ix k:Nat)])->(LoreAt C A a N T H L)->(L.Ok)->(k∈L.parts)->(k.dep<d)->(N+4 * k.sz<=100000)->(∀H' T',Fr [3,9,10,11,12] T T' H H'->LoreAt C A a (N+4 * k.sz) T' H' (LoI.know k L)->Q .non H')->wN C d vs H Q
def lY(C:Addr)(d:Nat):Sp:=fun vs H Q _=>wN C d vs H Q
theorem pO:∀{l:List α} {k:List β} {i:Nat} {y:β},Paired R l k->k[i]? =some y->∃x,l[i]? =some x/\R x y
 | _,_,0,_,.cons r _,e=>⟨_,rfl,by simp at e;subst e;exact r⟩
 | _,_,i+1,_,.cons _ t,e=>by
   obtain⟨x,h1,h2⟩:=pO (i:=i) t (by simpa using e);exact⟨x,by simpa using h1,h2⟩
 | _,_,_,_,.nil,e=>by simp at e
def I0(m j:Nat):Builtin.bitOr (m:Int) (1 * 2^((j:Int).toNat))=((m ||| 2^j:Nat):Int):=by
 rw[<-HF]
 congr 1
 rw[Int.one_mul,cz];simp
def Kc{m j:Nat}(q:Q (.int ((m ||| 2^j:Nat):Int)) H):AL (fun i j=>V.int (Builtin.bitOr i j)) (.int (m:Int)) (.int (1 * 2^((j:Int).toNat))) H Q:=by
 show Q (.int (Builtin.bitOr (m:Int) (1 * 2^((j:Int).toNat)))) H;rw[I0];exact q
def LoI.know_in(h:L.ix k∈L.known):LoI.know k L=L:=by
 cases k<;>(rw[LoI.know];exact aE h)
def LoreAt.nt9{i:Nat}(h:LoreAt C A a N T H L)(f:Fr [9] T T' H H')(tg:TgOk T' H')(n:FTb EB H' T' 9 A.p9 (fun j=>kN L.boths j++if j= .inl (i:Int) then [e] else []) (N+1)):LoreAt C A a (N+1) T' H' {L with boths:=uA L.boths i e}:=by
 rw[Bo] at n;exact h.renew (bD N) f tg rfl rfl (by simp) (c9:= .inl n)
def LoreAt.nt10{i:Nat}(h:LoreAt C A a N T H L)(f:Fr [10] T T' H H')(tg:TgOk T' H')(n:FTb L_ H' T' 10 A.p10 (fun j=>kN L.somes j++if j= .inl (i:Int) then [e] else []) (N+1)):LoreAt C A a (N+1) T' H' {L with somes:=uA L.somes i e}:=by
 rw[Bo] at n;exact h.renew (bD N) f tg rfl rfl (by simp) (c10:= .inl n)
def LoreAt.put3{i:Nat}(h:LoreAt C A a N T H L)(e:H A.p3=some (.dK kvs)):Fr [3] T T H (upd H A.p3 (.dK (bZ kvs (.inl (i:Int)) (.bl true))))/\LoreAt C A a (N+1) T (upd H A.p3 (.dK (bZ kvs (.inl (i:Int)) (.bl true)))) (L.kn i):=by
 obtain⟨n,f⟩:=h.f3.put (k:= .inl (i:Int)) (v:= .bl true) e;rw[Bn] at n;exact⟨f,h.renew (bD N) f h.tg.put rfl rfl (by simp) (c3:= .inl n)⟩
def LoreAt.put11{m:Nat}(h:LoreAt C A a N T H L)(e:H A.p11=some (.dK kvs)):Fr [11] T T H (upd H A.p11 (.dK (bZ kvs (.inr r) (.int (m:Int)))))/\LoreAt C A a (N+1) T (upd H A.p11 (.dK (bZ kvs (.inr r) (.int (m:Int))))) {L with fillers:=yJ L.fillers r m}:=by
 obtain⟨n,f⟩:=h.f11.put (k:= .inr r) (v:= .int (m:Int)) e;rw[GS] at n;exact⟨f,h.renew (bD N) f h.tg.put rfl rfl (by simp) (c11:= .inl n)⟩
def LoreAt.put12{i m:Nat}(h:LoreAt C A a N T H L)(e:H A.p12=some (.dT kvs)):Fr [12] T T H (upd H A.p12 (.dT (bZ kvs [.inr r,.inl (i:Int)] (.int (m:Int)))))/\LoreAt C A a (N+1) T (upd H A.p12 (.dT (bZ kvs [.inr r,.inl (i:Int)] (.int (m:Int))))) {L with wholes:=uT L.wholes r i m}:=by
 obtain⟨n,f⟩:=h.f12.put (k:=[.inr r,.inl (i:Int)]) (v:= .int (m:Int)) e;rw[FB] at n;exact⟨f,h.renew (bD N) f h.tg.put rfl rfl (by simp) (c12:= .inl n)⟩
section
def scKnow:bw ["self","kind","form","first","second"] nj (aM u7):=gH
def Gm(F:Fun K "know" "Lore.know" u7 f fd)(lc:wa K C)(Gkn:Ml P w K mg base C (d+1) "know" nj (lY C d))(Gnt:Cl P w K mg base 1 "note" qY FH):b_ P w K mg base eU (d+2) f fd nj (lY C (d+1)):=by
 refine F.o scKnow fun cdv A outer s H vs Q E hr h=> ?_;obtain⟨a,B,N,T,L,k,rfl,la,ok,kin,hd,hN,q⟩:=h;have hu:=fL hr;refine⟨_,ba (bL (eX (mn hu) bf (c_ aD)) (bg (kL)) be)
  (ba (df hu (c_ aD) bf eQ rfl)
  (ba (bL (eX vr (oA di (c_ aD) bf) ej) (bg (kL)) be)
  (ba (iP (oA di (c_ aD) bf) (eY rfl (bG (eV 2 scKnow.nd) (bG (eV 3 scKnow.nd) (bG (eV 4 scKnow.nd) dX)))))
  (j0 (bL (eX cT bJ bq) (ba (bC (gU aD lc.c Gkn hr (eR cE))) (ba (bC (dG Gnt hr (iS (c_ aD) cE (cX (iS cG bf eQ))))) (bg (bC (dG Gnt hr (iS (c_ aD) cG (cX (iS cE bf eQ)))))))) (ba (bC (dG Gnt hr (iS (c_ aD) cG (cX (dO cE bf))))) (ba (df hu (c_ aD) cE (bF ui (pP hu (c_ aD) cE aw) (bF oE aw cG)) rfl) (bg (df hu (c_ aD) (cX (dO cE cG)) bf rfl)))))
  (bg (bC (gU aD lc.c Gkn hr (eR cG)))))))),?_⟩
 obtain⟨t3,kvs3,e3,r3,l3⟩:=id la.f3;have i3:cB kvs3 (.inl ((L.ix k:Nat):Int))=if L.ix k∈L.known then some (.bl true) else none:=by
  rw[r3];show(if 0<=((L.ix k:Nat):Int)/\((L.ix k:Nat):Int).toNat∈L.known then _ else _)=_;simp
 have small:∀{n:Nat},n<=100000->n<sizeLine:=fun {n} h=>bO h (by decide);refine⟨C,_,_,_,la.ob,lc.c,lc.n3,NH B,B.p3,_,rfl,DGet.k (k:= .inl (L.ix k:Nat)) e3,?_⟩;rw[i3];by_cases hk:L.ix k∈L.known
 · rw[aE hk];have q0:=q H T Fr.refl;rw[LoI.know_in hk] at q0;exact q0 (la.mono (by lia))
 rw[aA hk];obtain⟨g1,l1⟩:=la.put3 (i:=L.ix k) e3;refine⟨C,_,_,_,la.ob,lc.c,lc.n3,NH B,_,DPut.k (k:= .inl (L.ix k:Nat)) e3 (small (by lia)),?_⟩;generalize upd H B.p3 (.dK (bZ kvs3 (.inl ((L.ix k:Nat):Int)) (.bl true)))=H1 at g1 l1⊢;obtain⟨t1,ss,e1,r1⟩:=l1.f1;have shk:=ok.sh k kin;have S5:∀{i:Nat},i=3\/i=9\/i=10\/i=11\/i=12->∀j∈[i],j∈[3,9,10,11,12]:=fun {i} h j hj=>by
  rw[af.mp hj];simp;lia
 have ok1:(L.kn (L.ix k)).Ok:=ok.of rfl rfl;have hz:1<=k.sz:=by cases k<;>simp only[Kd.sz]<;>lia
 cases k with
 | nm x=>
   obtain⟨v,hv,iv⟩:=pO r1 (show(L.kn (L.ix (.nm x))).shapes[L.ix (.nm x)]? =some .no from shk);have iv':v= .non:=iv;refine⟨C,_,_,_,l1.ob,lc.c,lc.n1,lk1 B,ss,v,SqL.of e1,aJ hv,rfl,?_⟩;rw[ah iv'];have q0:=q H1 T (g1.mono (S5 (.inl rfl)));rw[LoI.know,aA hk] at q0;exact q0 (l1.mono (by simp only[Kd.sz];lia))
 | two x y=>
   obtain⟨xin,yin,shk⟩:=shk;obtain⟨v,hv,p,rfl,hp⟩:=pO r1 (show(L.kn (L.ix (.two x y))).shapes[L.ix (.two x y)]? =some _ from shk);simp only[Kd.dep] at hd;have hz2:(Kd.two x y).sz=1+x.sz+y.sz:=rfl;refine⟨C,_,_,_,l1.ob,lc.c,lc.n1,lk1 B,ss,_,SqL.of e1,aJ hv,rfl,?_⟩;refine⟨C,_,_,_,l1.ob,lc.c,lc.n1,lk1 B,ss,_,SqL.of e1,aJ hv,_,SqT.of hp,rfl,?_⟩;refine⟨fun σ H'=>∃T',σ=[some (.ref a),some (.int (L.ix (.two x y):Nat)),some (.str "both"),some (.int (L.ix x:Nat)),some (.int (L.ix y:Nat))]/\Fr [3,9,10,11,12] T T' H H'/\LoreAt C B a (N+3+4 * x.sz) T' H' ((LoI.know x (L.kn (L.ix (.two x y)))).bo (L.ix x) (L.ix y) (L.ix (.two x y))),?_,?_⟩
   · refine⟨_,_,l1.ob,l1.lkKn,a,B,_,T,L.kn (L.ix (.two x y)),x,rfl,l1,ok1,xin,by lia,by lia,fun H2 T2 f2 l2=> ?_⟩;refine⟨C,_,_,_,l2.ob,lc.c,lc.n9,M3 B,by show 3<=sizeLine;decide,fun t ht=> ?_⟩;have s2:=aj ht (.tup [.int (L.ix y:Nat),.int (L.ix (.two x y):Nat),.bl true]);have l2':=l2.same s2;refine hX (key:= .inl ((L.ix x:Nat):Int)) (x:=(L.ix y,L.ix (.two x y),true)) eb_mo l2'.tg l2'.f9 (by lia) ⟨t,rfl,upd_same⟩ fun H3 T3 f3 tg3 n3=> ?_;have l3':=l2'.nt9 f3 tg3 n3;refine⟨C,_,_,_,l3'.ob,lc.c,lc.n9,M3 B,by show 3<=sizeLine;decide,fun t4 ht4=> ?_⟩;have s4:=aj ht4 (.tup [.int (L.ix x:Nat),.int (L.ix (.two x y):Nat),.bl false]);have l4:=l3'.same s4;refine hX (key:= .inl ((L.ix y:Nat):Int)) (x:=(L.ix x,L.ix (.two x y),false)) eb_mo l4.tg l4.f9 (by lia) ⟨t4,rfl,upd_same⟩ fun H5 T5 f5 tg5 n5=> ?_;have l5:=l4.nt9 f5 tg5 n5;refine⟨T5,rfl,?_,l5.mono (by lia)⟩;exact((((((g1.mono (S5 (.inl rfl))).trans f2).trans (Fr.of s2)).trans (f3.mono (S5 (by simp)))).trans (Fr.of s4)).trans (f5.mono (S5 (by simp))))
   rintro σ H' ⟨T',rfl,fr,l6⟩;have kp:=LoI.know_rest x (L.kn (L.ix (.two x y)));have ok6:((LoI.know x (L.kn (L.ix (.two x y)))).bo (L.ix x) (L.ix y) (L.ix (.two x y))).Ok:=ok.of kp.1 kp.2;have iy:((LoI.know x (L.kn (L.ix (.two x y)))).bo (L.ix x) (L.ix y) (L.ix (.two x y))).ix y=L.ix y:=by show(LoI.know x (L.kn (L.ix (.two x y)))).parts.idxOf y=_;rw[kp.1];rfl
   refine⟨_,_,l6.ob,l6.lkKn,a,B,_,T',_,y,by rw[iy];rfl,l6,ok6,by show y∈(LoI.know x _).parts;rw[kp.1];exact yin,by lia,by lia,fun H7 T7 f7 l7=> ?_⟩;have q0:=q H7 T7 (fr.trans f7);rw[LoI.know,aA hk] at q0;exact q0 (l7.mono (by lia))
 | som r y=>
   obtain⟨yin,shk⟩:=shk;obtain⟨v,hv,p,rfl,hp⟩:=pO r1 (show(L.kn (L.ix (.som r y))).shapes[L.ix (.som r y)]? =some _ from shk);simp only[Kd.dep] at hd;have hz2:(Kd.som r y).sz=1+y.sz:=rfl;refine⟨C,_,_,_,l1.ob,lc.c,lc.n1,lk1 B,ss,_,SqL.of e1,aJ hv,rfl,?_⟩;refine⟨C,_,_,_,l1.ob,lc.c,lc.n1,lk1 B,ss,_,SqL.of e1,aJ hv,_,SqT.of hp,rfl,?_⟩;refine⟨fun σ H'=>∃T',σ=[some (.ref a),some (.int (L.ix (.som r y):Nat)),some (.str "some"),some (.str r),some (.int (L.ix y:Nat))]/\Fr [3,9,10,11,12] T T' H H'/\LoreAt C B a (N+4) T' H' ((L.kn (L.ix (.som r y))).so r (L.ix y) (L.ix (.som r y))),?_,?_⟩
   · refine⟨C,_,_,_,l1.ob,lc.c,lc.n10,La B,by show 2<=sizeLine;decide,fun t ht=> ?_⟩;have s2:=aj ht (.tup [.str r,.int (L.ix (.som r y):Nat)]);have l2:=l1.same s2;refine hX (key:= .inl ((L.ix y:Nat):Int)) (x:=(r,L.ix (.som r y))) esm_mo l2.tg l2.f10 (by lia) ⟨t,rfl,upd_same⟩ fun H3 T3 f3 tg3 n3=> ?_;have l3':=l2.nt10 f3 tg3 n3;obtain⟨t11,kvs11,e11,r11,l11⟩:=id l3'.f11;have lty:L.ix y<L.parts.length:=LoI.ix_lt yin;have lle:=la.le;have val:(cB kvs11 (.inr r)).getD (.int 0)= .int (((L.fillers r).getD 0:Nat):Int):=by
      rw[r11];show(((L.fillers r).map fun(m:Nat)=>V.int (m:Int))).getD (.int 0)=_;cases L.fillers r<;>rfl
     refine⟨C,_,_,_,l3'.ob,lc.c,lc.n11,Js B,.inl ⟨_,.inl e11⟩,_,DGet.k (k:= .inr r) e11,⟨by lia,by lia,by decide⟩,?_⟩;rw[val];refine Kc ?_;obtain⟨g4,l4⟩:=l3'.put11 (r:=r) (m:=(L.fillers r).getD 0 ||| 2^L.ix y) e11;refine⟨C,_,_,_,l3'.ob,lc.c,lc.n11,Js B,_,DPut.k (k:= .inr r) e11 (small (by lia)),?_⟩;generalize upd H3 B.p11 (.dK (bZ kvs11 (.inr r) (.int (((L.fillers r).getD 0 ||| 2^L.ix y:Nat):Int))))=H4 at g4 l4⊢;refine⟨C,_,_,_,l4.ob,lc.c,lc.n12,K_ B,by show 2<=sizeLine;decide,fun t5 ht5=> ?_⟩;have s5:=aj ht5 (.tup [.str r,.int (L.ix y:Nat)]);have l5:=l4.same s5;have h5:upd H4 t5 (.tup [.str r,.int (L.ix y:Nat)]) t5=some (.tup [.str r,.int (L.ix y:Nat)]):=upd_same;generalize upd H4 t5 (.tup [.str r,.int (L.ix y:Nat)])=H5 at s5 l5 h5⊢;obtain⟨t12,kvs12,e12,r12,l12⟩:=id l5.f12;obtain⟨g6,l6⟩:=l5.put12 (r:=r) (i:=L.ix y) (m:=L.ix (.som r y)) e12;refine⟨_,.inr ⟨kvs12,[.inr r,.inl ((L.ix y:Nat):Int)],t5,e12,rfl,h5,small (by lia),rfl⟩,T3,rfl,?_,l6.mono (by lia)⟩;exact((((((g1.mono (S5 (.inl rfl))).trans (Fr.of s2)).trans (f3.mono (S5 (by simp)))).trans (g4.mono (S5 (by simp)))).trans (Fr.of s5)).trans (g6.mono (S5 (by simp))))
   rintro σ H' ⟨T',rfl,fr,l6⟩;have ok6:((L.kn (L.ix (.som r y))).so r (L.ix y) (L.ix (.som r y))).Ok:=ok.of rfl rfl;refine⟨_,_,l6.ob,l6.lkKn,a,B,N+4,T',(L.kn (L.ix (.som r y))).so r (L.ix y) (L.ix (.som r y)),y,rfl,l6,ok6,yin,by lia,by lia,fun H7 T7 f7 l7=> ?_⟩;have q0:=q H7 T7 (fr.trans f7);rw[LoI.know,aA hk] at q0;exact q0 (l7.mono (by lia))
def Cc:b_ P w K mg base eU (0+1) f fd nj (lY C 0):=by
 have no:∀vs H Q E,¬ lY C 0 vs H Q E:=fun vs H Q E h=>by
  obtain⟨a,A,N,T,L,k,_,_,_,_,h,_⟩:=h
  lia
 exact⟨fun vs H Q E h=>absurd h (no vs H Q E),fun A outer s H args us vs Q E _ _ _ _ h=>absurd h (no vs H Q E)⟩
theorem xR(A:Mq K C "know" "Lore.know" u7 nj)(lc:wa K C)(Gnt:Cl P w K mg base 1 "note" qY FH):∀d:Nat,Ml P w K mg base C (d+1) "know" nj (lY C d)
 | 0=>A.ml fun _=>Cc
 | d+1=>A.ml fun F=>Gm F lc (xR A lc Gnt d) Gnt
end
noncomputable def LoI.kk(k:Kd)(L:LoI):LoI:=LoI.know k (LoI.num k L)
noncomputable def LoI.kkp(L:LoI)(p:Str × Kd):LoI:=if p.1="kind" then LoI.kk p.2 L else L
noncomputable def LoI.kks(s:Sy)(L:LoI):LoI:=s.sg.ps.foldl LoI.kkp L
noncomputable def LoI.tb(n:Int):Sy->LoI->LoI
 | .every a b,L=>{L with everys:=uA L.everys (L.ix a) (L.ix b,n)}
 | .no a b,L=>{L with nos:=uA (uA L.nos (L.ix a) (L.ix b,n,true)) (L.ix b) (L.ix a,n,false)}
 | .within r s,L=>{L with withins:=uA L.withins r (s,n)}
 | .makes r s t,L=>{L with mk1:=uA L.mk1 r (s,t,n),mk2:=uA L.mk2 s (r,t,n)}
 | .thing _ _,L=>L
 | .tied _ _ _,L=>L
noncomputable def LoI.learn(n:Int)(s:Sy)(L:LoI):LoI:=LoI.tb n s (LoI.kks s L)
def LoI.know_ok(k:Kd){L:LoI}(o:L.Ok):(LoI.know k L).Ok:=o.of (LoI.know_rest k L).1 (LoI.know_rest k L).2
def LoI.kk_ok(k:Kd){L:LoI}(o:L.Ok):(LoI.kk k L).Ok:=LoI.know_ok k (LoI.num_ok k o)
def LoI.kkp_ok(p:Str × Kd){L:LoI}(o:L.Ok):(L.kkp p).Ok:=by
 unfold LoI.kkp
 split
 · exact LoI.kk_ok _ o
 · exact o
def LoI.kks_ok(o:L.Ok):∀ps:List (Str × Kd),(ps.foldl LoI.kkp L).Ok:=fun ps=>by
 induction ps generalizing L with
 | nil=>exact o
 | cons p ps ih=>exact ih (LoI.kkp_ok p o)
def LoI.kkp_sub(p:Str × Kd)(L:LoI):∃l,(L.kkp p).parts=L.parts++l:=by
 unfold LoI.kkp
 split
 · unfold LoI.kk;rw[(LoI.know_rest _ _).1];exact LoI.num_sub _ _
 · exact⟨[],by simp⟩
theorem LoI.kks_sub:∀(ps:List (Str × Kd)) (L:LoI),∃l,(ps.foldl LoI.kkp L).parts=L.parts++l
 | [],L=>⟨[],by simp⟩
 | p::ps,L=>by
   obtain⟨l,e⟩:=LoI.kkp_sub p L;obtain⟨l',e'⟩:=LoI.kks_sub ps (L.kkp p);exact⟨l++l',by show(ps.foldl LoI.kkp (L.kkp p)).parts=_;rw[e',e,mL]⟩
theorem LoI.kks_has{p:Str × Kd}(hp:p.1="kind"):∀{ps:List (Str × Kd)} (L:LoI),p∈ps->p.2∈(ps.foldl LoI.kkp L).parts
 | q::ps,L,h=>by
   rcases aI.mp h with e | h
   · subst e;obtain⟨l,e⟩:=LoI.kks_sub ps (L.kkp p);show p.2∈(ps.foldl LoI.kkp (L.kkp p)).parts;rw[e];refine aS _ ?_;unfold LoI.kkp;rw[aE hp];unfold LoI.kk;rw[(LoI.know_rest _ _).1];exact LoI.num_has _ _
   · exact LoI.kks_has hp (L.kkp q) h
noncomputable def Sy.szs(s:Sy):Nat:=(s.parts.map Kd.sz).sum
def Sy.gd(d:Nat)(s:Sy):Prop:=∀k∈s.parts,kO k/\k.nt<=24/\k.dep<d/\k.sz<=60
def Iz{s:Sy}(h:s.gd d):s.sg.Ok:=by
 refine⟨?_,fun p hp=> ?_⟩
 · cases s<;>simp[Sy.sg,Sy.sorts,Sy.parts,Sy.hd,AK,jE]
 · have hm:p.2∈s.parts:=by rw[<-jf];exact dH hp
   have hz:=(h p.2 hm).2.2.2;cases s<;>(simp only[Sy.sg,Sy.sorts,Sy.parts,yq,List.zip_nil_left,aI,ao,bW] at hp)
   all_goals first
    | (rcases hp with rfl | rfl)<;>first | exact .inl ⟨rfl,hz⟩ | exact .inr ⟨.inl rfl,_,rfl⟩ | exact .inr ⟨.inr rfl,_,rfl⟩
    | (rcases hp with rfl | rfl | rfl)<;>first | exact .inl ⟨rfl,hz⟩ | exact .inr ⟨.inl rfl,_,rfl⟩ | exact .inr ⟨.inr rfl,_,rfl⟩
def LoreAt.nt4{i:Nat}(h:LoreAt C A a N T H L)(f:Fr [4] T T' H H')(tg:TgOk T' H')(n:FTb E2 H' T' 4 A.p4 (fun j=>kN L.everys j++if j= .inl (i:Int) then [e] else []) (N+1)):LoreAt C A a (N+1) T' H' {L with everys:=uA L.everys i e}:=by
 rw[Bo] at n;exact h.renew (bD N) f tg rfl rfl (by simp) (c4:= .inl n)
def LoreAt.nt5{i:Nat}(h:LoreAt C A a N T H L)(f:Fr [5] T T' H H')(tg:TgOk T' H')(n:FTb E3 H' T' 5 A.p5 (fun j=>kN L.nos j++if j= .inl (i:Int) then [e] else []) (N+1)):LoreAt C A a (N+1) T' H' {L with nos:=uA L.nos i e}:=by
 rw[Bo] at n;exact h.renew (bD N) f tg rfl rfl (by simp) (c5:= .inl n)
def LoreAt.nt6(h:LoreAt C A a N T H L)(f:Fr [6] T T' H H')(tg:TgOk T' H')(n:FTb Ma H' T' 6 A.p6 (fun j=>kS L.withins j++if j= .inr i then [e] else []) (N+1)):LoreAt C A a (N+1) T' H' {L with withins:=uA L.withins i e}:=by
 rw[EA] at n;exact h.renew (bD N) f tg rfl rfl (by simp) (c6:= .inl n)
def LoreAt.nt7(h:LoreAt C A a N T H L)(f:Fr [7] T T' H H')(tg:TgOk T' H')(n:FTb J9 H' T' 7 A.p7 (fun j=>kS L.mk1 j++if j= .inr i then [e] else []) (N+1)):LoreAt C A a (N+1) T' H' {L with mk1:=uA L.mk1 i e}:=by
 rw[EA] at n;exact h.renew (bD N) f tg rfl rfl (by simp) (c7:= .inl n)
def LoreAt.nt8(h:LoreAt C A a N T H L)(f:Fr [8] T T' H H')(tg:TgOk T' H')(n:FTb J9 H' T' 8 A.p8 (fun j=>kS L.mk2 j++if j= .inr i then [e] else []) (N+1)):LoreAt C A a (N+1) T' H' {L with mk2:=uA L.mk2 i e}:=by
 rw[EA] at n;exact h.renew (bD N) f tg rfl rfl (by simp) (c8:= .inl n)
section
end
noncomputable abbrev CD:List Nat:=[0,1,2,3,4,5,6,7,8,9,10,11,12]
def Cj(h:i<13):∀j∈[i],j∈CD:=fun j hj=>by
 rw[af.mp hj];have:i∈List.range 13:=cv.mpr h;exact this
def ki(L:LoI)(h:(((Str.ofString "kind",k):Str × Kd)∈s.sg.ps)):k∈(LoI.kks s L).parts:=LoI.kks_has (p:=(Str.ofString "kind",k)) rfl L h
def Et(h:KL H xs [a,b]):∃x y,xs=[x,y]/\IsK H a x/\IsK H b y:=by
 cases h with
 | cons r t=>
   cases t with
   | cons r2 t2=>cases t2;exact⟨_,_,rfl,r,r2⟩
def Ld(h:KL H xs [a,b,c]):∃x y z,xs=[x,y,z]/\IsK H a x/\IsK H b y/\IsK H c z:=by
 cases h with
 | cons r t=>
   obtain⟨y,z,rfl,h1,h2⟩:=Et t;exact⟨_,y,z,rfl,r,h1,h2⟩
inductive tU(C:Addr)(d:Nat)(vs:List V)(H:Hp)(Q:VK):Prop
 | mk:∀a A N T L n v s,(vs=[.ref a,.int n,v])->(LoreAt C A a N T H L)->(L.Ok)->(IsSy H s v)->(s.gd d)->(N+6 * s.szs+2<=50000)->(∀H' T',Fr CD T T' H H'->LoreAt C A a (N+6 * s.szs+2) T' H' (LoI.learn n s L)->Q .non H')->tU C d vs H Q
def Aw(C:Addr)(d:Nat):Sp:=fun vs H Q _=>tU C d vs H Q
section
def scLearn:bw ["self","number","saying","sort","part","first","second"] AS (aM u3):=gH
def DW(F:Fun K "learn" "Lore.learn" u3 f fd)(lc:wa K C)(mz:mg "zip"=none)(mF0:mg "FORMS"=some (.ref aF))(hF:∀fo ss,(fo,ss)∈jE->∃kvs a,uC K P w aF kvs/\cB kvs (.inr fo)=some (.ref a)/\∀H,SqT K H a (ss.map V.str))(Gkn:Ml P w K mg base C (d+1) "know" nj (lY C d))(Gno:Ml P w K mg base C (2 * d) "number_of" fA (mU C d))(Gnt:Cl P w K mg base 1 "note" qY FH):b_ P w K mg base eU (2 * d+3) f fd AS (Aw C d):=by
 refine F.o scLearn fun cdv A outer s0 H vs Q E hr h=> ?_;obtain⟨a,B,N,T,L,n,v,s,rfl,la,ok,is,gs,hN,q⟩:=h;have hu:=fL hr;refine⟨_,j0 (lO (Bd rfl mz (dO (Be (ql (v:= .ref aF) rfl mF0 rfl) (eh bJ) (fun _ _=>rfl)) (eI C8 bJ (fe aw) fT))) (eY rfl (bG (eV 3 scLearn.nd) (bG (eV 4 scLearn.nd) dX))) (bg (bL (eX cT cE bq) (bg (bC (gU aD lc.c Gkn hr (eR (gU aD lc.c Gno hr (eR cG)))))) be)))
  (bg (bL (eX cT (eh bJ) bq) (bg (bC (dG Gnt hr (iS (c_ aD) (gU aD lc.c Gno hr (eR (eh bJ))) (cX (dO (gU aD lc.c Gno hr (eR (eh bJ))) bf)))))) (bg (bL (eX cT (eh bJ) bq) (ba (IL (i:=5) (j:=6) rfl scLearn.nd rfl rfl (by decide) rfl rfl (dO (gU aD lc.c Gno hr (eR (eh bJ))) (gU aD lc.c Gno hr (eR (eh bJ)))) rfl) (ba (bC (dG Gnt hr (iS (c_ aD) ee (cX (iS eW bf eQ))))) (bg (bC (dG Gnt hr (iS (c_ aD) eW (cX (iS ee bf eQ)))))))) (bg (bL (eX cT (eh bJ) bq) (bg (bC (dG Gnt hr (iS (c_ aD) (eh bJ) (cX (dO (eh bJ) bf)))))) (bg (bL (eX cT (eh bJ) bq) (ba (bC (dG Gnt hr (iS (c_ aD) (eh bJ) (cX (iS (eh bJ) (eh bJ) bf))))) (bg (bC (dG Gnt hr (iS (c_ aD) (eh bJ) (cX (iS (eh bJ) (eh bJ) bf))))))) be)))))))),?_⟩
 obtain⟨pv,xs,rfl,hpv,hL⟩:=id (Hw is);have hS:=Iz gs;obtain⟨kvs,aT,hkd,hval,hT⟩:=hF _ _ hS.fo;have lL:=KL.len hL;rw[ae] at lL;have inp:∀{p:Str × Kd},p∈s.sg.ps->p.2∈s.parts:=fun {p} hp=>by rw[<-jf];exact dH hp
 have tot:(s.sg.ps.map fun p=>p.2.sz).sum=s.szs:=by unfold Sy.szs;rw[<-jf,iF];rfl
 have sub:∀i,((s.sg.ps.take i).map fun p=>p.2.sz).sum<=s.szs:=fun i=>by
  rw[<-tot]
  conv=>rhs;rw[<-sj i s.sg.ps,aZ,jM]
  exact dv _ _
 have S012:∀j∈[0,1,2],j∈CD:=by decide
 have S5:∀j∈[3,9,10,11,12],j∈CD:=by decide
 refine⟨fun σ H'=>∃(o3 o4:Option V) (T':Tg),σ=[some (.ref a),some (.int n),some (.ref pv),o3,o4,none,none]/\Fr CD T T' H H'/\LoreAt C B a (N+5 * s.szs) T' H' (LoI.kks s L),?_,?_⟩
 · refine⟨_,_,SqT.of hpv,aJ (j:=0) rfl,aF,kvs,.inr s.sg.form,.ref aT,rfl,rfl,hkd,hval,1,rfl,pv,_,rfl,SqT.of hpv,KN _ _,fun pt hpt=> ?_⟩;rw[Lq];have spt:=aj hpt (.tup xs);refine⟨aT,pt,rfl,⟨_,hT _⟩,⟨_,SqT.of upd_same⟩,?_⟩;refine x_ (xs:=(s.sg.ps.map (·.1)).map V.str) (ys:=xs) (by rw[ae,ae];lia) (fun i σ H4=>∃(o3 o4:Option V) (T4:Tg),σ=[some (.ref a),some (.int n),some (.ref pv),o3,o4,none,none]/\Fr CD T T4 H H4/\H4 pt=some (.tup xs)/\LoreAt C B a (N+5 * ((s.sg.ps.take i).map fun p=>p.2.sz).sum) T4 H4 ((s.sg.ps.take i).foldl LoI.kkp L)) ⟨none,none,T,rfl,Fr.of spt,upd_same,(la.same spt).mono (dv _ _)⟩ ?_ ?_ ?_
   · rintro i σ H4 hi ⟨o3,o4,T4,rfl,_,e,_⟩;exact⟨hT _,SqT.of e⟩
   · rintro i x y σ H4 Tn hx hy ⟨o3,o4,T4,rfl,f4,e4,l4⟩ hTn;obtain⟨k',hk1,ik⟩:=KL.get hL hy;rw[aH] at hk1;obtain⟨p,hp,rfl⟩:=aQ.mp hk1;rw[aH,aH,hp] at hx;simp only[fZ,mJ] at hx;subst hx;obtain⟨g1,g2,g3,g4⟩:=gs _ (inp (au hp));have sT:=aj hTn (.tup [.str p.1,y]);have l5:=l4.same sT;have f5:Fr CD T T4 H (upd H4 Tn (.tup [.str p.1,y])):=f4.trans (Fr.of sT);have ik5:=IsK.mono f5.tups ik;have sm:((s.sg.ps.take (i+1)).map fun p=>p.2.sz).sum=((s.sg.ps.take i).map fun p=>p.2.sz).sum+p.2.sz:=by
      rw[bx,hp,aZ,jM];simp
     have fo:(s.sg.ps.take (i+1)).foldl LoI.kkp L=((s.sg.ps.take i).foldl LoI.kkp L).kkp p:=by
      rw[bx,hp,e_];rfl
     have le1:=sub (i+1);rw[sm] at le1;refine⟨_,SqT.of upd_same,rfl,?_⟩;have e5:=sT _ _ e4;generalize upd H4 Tn (.tup [.str p.1,y])=H5 at l5 f5 ik5 e5⊢;refine(fY (fun c1=> ?_) (fun c1=> ?_))
     · have e1:p.1="kind":=by
        have:=bA c1
        injection this
       refine⟨_,_,l5.ob,l5.lkKn,_,_,l5.ob,l5.lkNo,a,B,_,T4,_,y,p.2,rfl,l5,ik5,g1,g2,g3,by lia,fun H6 T6 f6 l6=> ?_⟩;refine⟨a,B,_,T6,_,p.2,rfl,l6,LoI.num_ok _ (LoI.kks_ok ok _),LoI.num_has _ _,g3,by lia,fun H7 T7 f7 l7=> ?_⟩;refine⟨_,_,T7,rfl,(f5.trans (f6.mono S012)).trans (f7.mono S5),f7.tups _ _ (f6.tups _ _ e5),?_⟩;rw[sm,fo];unfold LoI.kkp;rw[aE e1];exact l7.mono (by lia)
     · have e1:¬ p.1="kind":=fun z=>c1 (by rw[z];exact ah rfl);refine⟨_,_,T4,rfl,f5,e5,?_⟩;rw[sm,fo];unfold LoI.kkp;rw[aA e1];exact l5.mono (by lia)
   · rintro σ H4 ⟨o3,o4,T4,rfl,f4,e4,l4⟩;refine⟨o3,o4,T4,rfl,f4,?_⟩;rw[ae,ae,aY,tot] at l4;exact l4
 rintro σ H' ⟨o3,o4,T',rfl,fr,l⟩;rw[jf] at hL;have hpv':=fr.tups _ _ hpv;have hs:s.szs=(s.parts.map Kd.sz).sum:=rfl;cases s with
 | every x y=>
   obtain⟨vx,vy,rfl,kx,ky⟩:=Et hL;obtain⟨x1,x2,x3,x4⟩:=gs x (by simp[Sy.parts]);obtain⟨y1,y2,y3,y4⟩:=gs y (by simp[Sy.parts]);have hx:x∈(LoI.kks (.every x y) L).parts:=ki (s:= .every x y) L (by simp[Sy.sg,Sy.sorts,Sy.parts]);have hy:y∈(LoI.kks (.every x y) L).parts:=ki (s:= .every x y) L (by simp[Sy.sg,Sy.sorts,Sy.parts]);have hz:(Sy.every x y).szs=x.sz+y.sz:=by simp[Sy.szs,Sy.parts]
   refine(jq hpv' rfl (⟨C,_,_,_,l.ob,lc.c,lc.n4,NG B,_,_,l.ob,l.lkNo,jq hpv' rfl ⟨a,B,_,T',_,vx,x,rfl,l,IsK.mono fr.tups kx,x1,x2,x3,by lia,fun H1 T1 f1 l1=> ?_⟩⟩));rw[LoI.num_in hx] at l1⊢;have fr1:=fr.trans (f1.mono S012);refine⟨_,_,l1.ob,l1.lkNo,jq (fr1.tups _ _ hpv) rfl ⟨a,B,_,T1,_,vy,y,rfl,l1,IsK.mono fr1.tups ky,y1,y2,y3,by lia,fun H2 T2 f2 l2=> ?_⟩⟩;rw[LoI.num_in hy] at l2⊢;have fr2:=fr1.trans (f2.mono S012);refine⟨by show 2<=sizeLine;decide,fun t ht=> ?_⟩;have s3:=aj ht (.tup [.int ((LoI.kks (.every x y) L).ix y:Nat),.int n]);have l3:=l2.same s3;refine hX (key:= .inl (((LoI.kks (.every x y) L).ix x:Nat):Int)) (x:=((LoI.kks (.every x y) L).ix y,n)) e2_mo l3.tg l3.f4 (by lia) ⟨t,rfl,upd_same⟩ fun H4 T4 f4 tg4 n4=> ?_;exact q H4 T4 ((fr2.trans (Fr.of s3)).trans (f4.mono (Cj (by decide)))) ((l3.nt4 f4 tg4 n4).mono (by lia))
 | no x y=>
   obtain⟨vx,vy,rfl,kx,ky⟩:=Et hL;obtain⟨x1,x2,x3,x4⟩:=gs x (by simp[Sy.parts]);obtain⟨y1,y2,y3,y4⟩:=gs y (by simp[Sy.parts]);have hx:x∈(LoI.kks (.no x y) L).parts:=ki (s:= .no x y) L (by simp[Sy.sg,Sy.sorts,Sy.parts]);have hy:y∈(LoI.kks (.no x y) L).parts:=ki (s:= .no x y) L (by simp[Sy.sg,Sy.sorts,Sy.parts]);have hz:(Sy.no x y).szs=x.sz+y.sz:=by simp[Sy.szs,Sy.parts]
   refine(jq hpv' rfl ((jq hpv' rfl (⟨_,_,l.ob,l.lkNo,jq hpv' rfl ⟨a,B,_,T',_,vx,x,rfl,l,IsK.mono fr.tups kx,x1,x2,x3,by lia,fun H1 T1 f1 l1=> ?_⟩⟩))));rw[LoI.num_in hx] at l1⊢;have fr1:=fr.trans (f1.mono S012);refine⟨_,_,l1.ob,l1.lkNo,jq (fr1.tups _ _ hpv) rfl ⟨a,B,_,T1,_,vy,y,rfl,l1,IsK.mono fr1.tups ky,y1,y2,y3,by lia,fun H2 T2 f2 l2=> ?_⟩⟩;rw[LoI.num_in hy] at l2⊢;have fr2:=fr1.trans (f2.mono S012);refine⟨_,_,rfl,C,_,_,_,l2.ob,lc.c,lc.n5,M4 B,by show 3<=sizeLine;decide,fun t ht=> ?_⟩;have s3:=aj ht (.tup [.int ((LoI.kks (.no x y) L).ix y:Nat),.int n,.bl true]);have l3:=l2.same s3;refine hX (key:= .inl (((LoI.kks (.no x y) L).ix x:Nat):Int)) (x:=((LoI.kks (.no x y) L).ix y,n,true)) e3_mo l3.tg l3.f5 (by lia) ⟨t,rfl,upd_same⟩ fun H4 T4 f4 tg4 n4=> ?_;have l4:=l3.nt5 f4 tg4 n4;refine⟨C,_,_,_,l4.ob,lc.c,lc.n5,M4 B,by show 3<=sizeLine;decide,fun t5 ht5=> ?_⟩;have s5:=aj ht5 (.tup [.int ((LoI.kks (.no x y) L).ix x:Nat),.int n,.bl false]);have l5:=l4.same s5;refine hX (key:= .inl (((LoI.kks (.no x y) L).ix y:Nat):Int)) (x:=((LoI.kks (.no x y) L).ix x,n,false)) e3_mo l5.tg l5.f5 (by lia) ⟨t5,rfl,upd_same⟩ fun H6 T6 f6 tg6 n6=> ?_;exact q H6 T6 ((((fr2.trans (Fr.of s3)).trans (f4.mono (Cj (by decide)))).trans (Fr.of s5)).trans (f6.mono (Cj (by decide)))) ((l5.nt5 f6 tg6 n6).mono (by lia))
 | within r s'=>
   obtain⟨vx,vy,rfl,kx,ky⟩:=Et hL;obtain rfl:vx= .str r:=kx;obtain rfl:vy= .str s':=ky;refine(jq hpv' rfl ((jq hpv' rfl ((jq hpv' rfl (⟨C,_,_,_,l.ob,lc.c,lc.n6,NF B,jq hpv' rfl (jq hpv' rfl ⟨by show 2<=sizeLine;decide,fun t ht=> ?_⟩)⟩))))));have s3:=aj ht (.tup [.str s',.int n]);have l3:=l.same s3;refine hX (key:= .inr r) (x:=(s',n)) es2_mo l3.tg l3.f6 (by lia) ⟨t,rfl,upd_same⟩ fun H4 T4 f4 tg4 n4=> ?_;exact q H4 T4 ((fr.trans (Fr.of s3)).trans (f4.mono (Cj (by decide)))) ((l3.nt6 f4 tg4 n4).mono (by lia))
 | makes r s' u=>
   obtain⟨vx,vy,vz,rfl,kx,ky,kz⟩:=Ld hL;obtain rfl:vx= .str r:=kx;obtain rfl:vy= .str s':=ky;obtain rfl:vz= .str u:=kz;refine(jq hpv' rfl ((jq hpv' rfl ((jq hpv' rfl ((jq hpv' rfl (⟨C,_,_,_,l.ob,lc.c,lc.n7,ND B,jq hpv' rfl (jq hpv' rfl (jq hpv' rfl ⟨by show 3<=sizeLine;decide,fun t ht=> ?_⟩))⟩))))))));have s3:=aj ht (.tup [.str s',.str u,.int n]);have l3:=l.same s3;refine hX (key:= .inr r) (x:=(s',u,n)) es3_mo l3.tg l3.f7 (by lia) ⟨t,rfl,upd_same⟩ fun H4 T4 f4 tg4 n4=> ?_;have l4:=l3.nt7 f4 tg4 n4;have fr4:=(fr.trans (Fr.of s3)).trans (f4.mono (Cj (i:=7) (by decide)));have hp4:=fr4.tups _ _ hpv;refine⟨C,_,_,_,l4.ob,lc.c,lc.n8,NC B,jq hp4 rfl (jq hp4 rfl (jq hp4 rfl ⟨by show 3<=sizeLine;decide,fun t5 ht5=> ?_⟩))⟩;have s5:=aj ht5 (.tup [.str r,.str u,.int n]);have l5:=l4.same s5;refine hX (key:= .inr s') (x:=(r,u,n)) es3_mo l5.tg l5.f8 (by lia) ⟨t5,rfl,upd_same⟩ fun H6 T6 f6 tg6 n6=> ?_;exact q H6 T6 ((fr4.trans (Fr.of s5)).trans (f6.mono (Cj (by decide)))) ((l5.nt8 f6 tg6 n6).mono (by lia))
 | thing x y=>
   iterate 4 refine jq hpv' (aJ (j:=0) rfl) ?_
   exact q H' T' fr (l.mono (by lia))
 | tied x r y=>
   iterate 4 refine jq hpv' (aJ (j:=0) rfl) ?_
   exact q H' T' fr (l.mono (by lia))
end
structure Ini(H0 H:Hp)(C a dx:Addr)(fs:List (Str × V))(cs:List (Addr × HO)):Prop where
 ob:H a=some (.ins C dx fs)
 at':∀q∈cs,H q.1=some q.2
 nd:(cs.map (·.1)).Nodup
 new:∀q∈cs,H0 q.1=none/\q.1≠a
 old:∀b o,H0 b=some o->b≠a->H b=some o
def Ini.step(h:Ini H0 H C a dx fs cs)(hp:H p=none)(fs':List (Str × V))(hf:iO f (.ref p) fs=fs'):upd H p o a=some (.ins C dx fs)/\Ini H0 (upd (upd H p o) a (.ins C dx fs')) C a dx fs' (cs++[(p,o)]):=by
 subst hf;have pa:p≠a:=fun z=>by rw[z,h.ob] at hp;cases hp
 refine⟨by rw[aB (br pa)];exact h.ob,upd_same,fun q hq=> ?_,?_,fun q hq=> ?_,fun b u e nb=> ?_⟩
 · rcases ay.mp hq with hq | hq
   · have e:=h.at' q hq;rw[aB (h.new q hq).2,aB (fun z=>by rw[z,hp] at e;cases e)];exact e
   · rw[af.mp hq,aB pa,upd_same]
 · rw[aZ,mK];refine⟨h.nd,by simp,fun x hx y hy=> ?_⟩;obtain⟨q,hq,rfl⟩:=bK.mp hx;have e:=h.at' q hq;rw[show y=p by simpa using hy];exact fun z=>by rw[z,hp] at e;cases e
 · rcases ay.mp hq with hq | hq
   · exact h.new q hq
   · rw[af.mp hq];refine⟨?_,pa⟩;cases c:H0 p with
     | none=>rfl
     | some u=>rw[h.old p u c pa] at hp;cases hp
 · have e1:=h.old b u e nb;rw[aB nb,aB (fun z=>by rw[z,hp] at e1;cases e1)];exact e1
theorem rh:∀{fs:List (Str × V)},(fs.all fun q=> !decide (q.1=f))=true->iO f v fs=fs++[(f,v)]
 | [],_=>rfl
 | (g,x)::r,h=>by
   simp only[fm,aP,z_,Kk] at h;show(if g=f then _ else _)=_;rw[aA h.1,rh h.2];rfl
section
def Ini.put(i:Ini H0 H C a dx fs cs)(ht:∀Q:VK,(∀p,H p=none->Q (.ref p) (upd H p o))->t σ H Q)(hσ:σ[0]? =some (some (.ref a)))(c:Cls K C)(n:NoAttr K C f)(hl:Nat.blt fs.length 1000=true)(hf:(fs.all fun q=> !decide (q.1=f))=true)(k:∀p H',Ini H0 H' C a dx (fs++[(f,.ref p)]) (cs++[(p,o)])->u D σ H'):BF (Dh K (og 0) t f) u D σ H:=by
 refine ht _ fun p hp=> ?_;obtain⟨b,i'⟩:=i.step (o:=o) (f:=f) hp _ (rh hf);refine onV.of hσ ⟨a,C,dx,fs,rfl,b,c,n,Nat.le_of_ble_eq_true hl,?_⟩;rw[rh hf];exact k p _ i'
def MC(h:BF t (fun D=>D.nx) D σ H):t D σ H:=h
def Ini.lst{K:Frag}{H0 H:Hp}{C a dx:Addr}{fs:List (Str × V)}{cs:List (Addr × HO)}{f:Str}{D:sx}{u:TS}{σ:L2.St}(i:Ini H0 H C a dx fs cs)(c:Cls K C)(n:NoAttr K C f)(hσ:σ[0]? =some (some (.ref a)))(hl:Nat.blt fs.length 1000=true)(hf:(fs.all fun q=> !decide (q.1=f))=true)(k:∀p H',Ini H0 H' C a dx (fs++[(f,.ref p)]) (cs++[(p,.lst [])])->u D σ H'):BF (Dh K (og 0) (Iq iZ) f) u D σ H:=i.put (fun Q h=>⟨av _,h⟩) hσ c n hl hf k
def Ini.dK{K:Frag}{H0 H:Hp}{C a dx:Addr}{fs:List (Str × V)}{cs:List (Addr × HO)}{f:Str}{D:sx}{u:TS}{σ:L2.St}(i:Ini H0 H C a dx fs cs)(c:Cls K C)(n:NoAttr K C f)(hσ:σ[0]? =some (some (.ref a)))(hl:Nat.blt fs.length 1000=true)(hf:(fs.all fun q=> !decide (q.1=f))=true)(k:∀p H',Ini H0 H' C a dx (fs++[(f,.ref p)]) (cs++[(p,.dK [])])->u D σ H'):BF (Dh K (og 0) CU f) u D σ H:=i.put (fun Q h=>h) hσ c n hl hf k
def Ini.dT{K:Frag}{H0 H:Hp}{C a dx:Addr}{fs:List (Str × V)}{cs:List (Addr × HO)}{f:Str}{D:sx}{u:TS}{σ:L2.St}(i:Ini H0 H C a dx fs cs)(c:Cls K C)(n:NoAttr K C f)(hσ:σ[0]? =some (some (.ref a)))(hl:Nat.blt fs.length 1000=true)(hf:(fs.all fun q=> !decide (q.1=f))=true)(k:∀p H',Ini H0 H' C a dx (fs++[(f,.ref p)]) (cs++[(p,.dT [])])->u D σ H'):BF (Dh K (og 0) CT f) u D σ H:=i.put (fun Q h=>h) hσ c n hl hf k
end
theorem xY:∀{l:List Addr} {i:Nat},l.Nodup->(h:i<l.length)->l.idxOf l[i]=i
 | x::l,0,_,_=>by simp
 | x::l,i+1,nd,h=>by
   have hm:l[i]'(by simpa using h)∈l:=eK _;have hx:=(de.mp nd).1;have hne:(x==l[i]'(by simpa using h))=false:=cq.mpr fun e=>hx (by rw[e];exact hm);rw[List.getElem_cons_succ,List.idxOf_cons,hne,cond_false,xY (de.mp nd).2]
noncomputable def wc(n:Nat)(ps:List Addr):Tg:=fun b=>if ps.idxOf b<ps.length then some (n+ps.idxOf b,none) else none
def CP{n:Nat}{ps:List Addr}(nd:ps.Nodup){i:Nat}{p:Addr}(h:ps[i]? =some p):wc n ps p=some (n+i,none):=by
 obtain⟨hi,e⟩:=aU.mp h;have:ps.idxOf p=i:=by rw[<-e];exact xY nd hi
 unfold wc;rw[this,aE hi]
def uI(h:wc n ps b=some i):b∈ps:=by
 unfold wc at h
 split at h
 · rename_i c;exact List.idxOf_lt_length_iff.mp c
 · cases h
def FNum.bt(b:Bt a H H')(hT:T a=none)(h:FNum H T p ps):FNum H' T p ps:=by
 obtain⟨t0,kvs,e,r⟩:=h;exact⟨t0,kvs,b _ _ e (fun z=>by rw[z,hT] at t0;cases t0),r⟩
def LoreAt.setex(h:LoreAt C A a N T H L)(e:A'={A with ex:=A'.ex})(xo:A'.ex=[]\/A'.ex=Kj\/A'.ex=Fw)(ho:o= .ins C A.dx (mI A')):LoreAt C A' a N T (upd H a o) L:=by
 obtain⟨ex,dx,p0,p1,p2,p3,p4,p5,p6,p7,p8,p9,p10,p11,p12⟩:=A';cases e;subst ho;have b:Bt a H (upd H a (.ins C A.dx (mI {A with ex:=ex}))):=fun c u q n=>by rw[aB n];exact q
 have t:Tups H (upd H a (.ins C A.dx (mI {A with ex:=ex}))):=fun c xs q=>b c _ q (fun z=>by rw[z,h.ob] at q;cases q);exact⟨h.tg.put,h.oT,upd_same,h.f0.bt rD b t h.oT,h.f1.bt pz b t h.oT,h.f2.bt b h.oT,h.f3.bt b h.oT,h.f4.bt e2_mo b t h.oT,h.f5.bt e3_mo b t h.oT,h.f6.bt es2_mo b t h.oT,h.f7.bt es3_mo b t h.oT,h.f8.bt es3_mo b t h.oT,h.f9.bt eb_mo b t h.oT,h.f10.bt esm_mo b t h.oT,h.f11.bt b h.oT,h.f12.bt b h.oT,h.gd,h.le,h.sl,xo⟩
noncomputable def LoI.emp:LoI:=⟨[],[],[],fun _=>[],fun _=>[],fun _=>[],fun _=>[],fun _=>[],fun _=>[],fun _=>[],fun _=>none,fun _ _=>none⟩
noncomputable abbrev anyW:Kd:= .nm "anything"
noncomputable abbrev nothW:Kd:= .nm "nothing"
noncomputable def LoI.init:LoI:=LoI.num nothW (LoI.num anyW LoI.emp)
def LoI.emp_ok:LoI.emp.Ok:=⟨rfl,fun k h=>(ao h).elim,fun i s h=>by have h':([]:List Sh)[i]? =some s:=h;simp at h',.nil⟩
def LoI.init_ok:LoI.init.Ok:=LoI.num_ok _ (LoI.num_ok _ LoI.emp_ok)
def Lu:LoI.num anyW LoI.emp=LoI.emp.add anyW .no:=by rw[LoI.num];exact aA (ao)
def M_:(LoI.num anyW LoI.emp).ix anyW=0:=by rw[Lu];exact kR (l:=[]) (ao)
def xA:nothW≠anyW:=by decide+kernel
def j9:LoI.init=(LoI.emp.add anyW .no).add nothW .no:=by
 unfold LoI.init;rw[Lu,LoI.num];exact aA (by show ¬ nothW∈[anyW];rw[af];exact xA)
def K1:LoI.init.ix nothW=1:=by rw[j9];exact kR (l:=[anyW]) (by rw[af];exact xA)
def NI(k:Key):Kh [] k=none:=by
 cases k with
 | inl i=>exact aA (fun z=>ao z.2)
 | inr r=>rfl
def Og(k:Key):Ll (fun _=>none) k=none:=by cases k<;>rfl
def NX(k:List Key):Kn (fun _ _=>none) k=none:=by
 match k with
 | []=>rfl
 | [.inl _]=>rfl
 | [.inr _]=>rfl
 | [.inl _,_]=>rfl
 | [.inr _,.inr _]=>rfl
 | [.inr s,.inl i]=>show(if _ then _ else _)=_;split<;>rfl
 | x::y::z::w=>cases x<;>cases y<;>rfl
inductive tV(C:Addr)(vs:List V)(H:Hp)(Q:VK):Prop
 | mk:∀a dx,(vs=[.ref a])->(H a=some (.ins C dx []))->(∀H' A T,Bt a H H'->(∀b i,T b=some i->H b=none)->LoreAt C A a 2 T H' LoI.init->A.ex=Fw->Q .non H')->tV C vs H Q
def Az(C:Addr):Sp:=fun vs H Q _=>tV C vs H Q
section
def FU:bw ng ng (aM yV):=gH
def DV(hd:0<d)(F:Fun K "__init__" "Lore.__init__" yV f fd)(lc:wa K C)(Gno:Ml P w K mg base C (2 * d) "number_of" fA (mU C d)):b_ P w K mg base eU (2 * d+1) f fd ng (Az C):=by
 refine F.o FU fun cdv A outer s0 H vs Q E hr h=> ?_;obtain⟨a,dx,rfl,ea,q⟩:=h;refine⟨_,ba (dB aD (bS cf) rfl) (ba (dB aD (bS cf) rfl) (ba (dB aD cL rfl) (ba (dB aD cL rfl) (ba (dB aD cL rfl) (ba (dB aD cL rfl) (ba (dB aD cL rfl) (ba (dB aD cL rfl) (ba (dB aD cL rfl) (ba (dB aD cL rfl) (ba (dB aD cL rfl) (ba (dB aD cL rfl) (ba (dB aD j5 rfl) (ba (dB aD (gU aD lc.c Gno hr (eR bq)) rfl) (bg (dB aD (gU aD lc.c Gno hr (eR bq)) rfl))))))))))))))),?_⟩;have i0:Ini H H C a dx [] []:=⟨ea,fun q hq=>(ao hq).elim,.nil,fun q hq=>(ao hq).elim,fun _ _ e _=>e⟩;refine i0.lst lc.c lc.n0 rfl rfl rfl fun p0 H1 i1=> ?_;refine i1.lst lc.c lc.n1 rfl rfl rfl fun p1 H2 i2=> ?_;refine i2.dK lc.c lc.n2 rfl rfl rfl fun p2 H3 i3=> ?_;refine i3.dK lc.c lc.n3 rfl rfl rfl fun p3 H4 i4=> ?_;refine i4.dK lc.c lc.n4 rfl rfl rfl fun p4 H5 i5=> ?_;refine i5.dK lc.c lc.n5 rfl rfl rfl fun p5 H6 i6=> ?_;refine i6.dK lc.c lc.n6 rfl rfl rfl fun p6 H7 i7=> ?_;refine i7.dK lc.c lc.n7 rfl rfl rfl fun p7 H8 i8=> ?_;refine i8.dK lc.c lc.n8 rfl rfl rfl fun p8 H9 i9=> ?_;refine i9.dK lc.c lc.n9 rfl rfl rfl fun p9 H10 i10=> ?_;refine i10.dK lc.c lc.n10 rfl rfl rfl fun p10 H11 i11=> ?_;refine i11.dK lc.c lc.n11 rfl rfl rfl fun p11 H12 i12=> ?_;refine i12.dT lc.c lc.n12 rfl rfl rfl fun p12 H13 i13=> ?_;clear i0 i1 i2 i3 i4 i5 i6 i7 i8 i9 i10 i11 i12
 let ps:List Addr:=[p0,p1,p2,p3,p4,p5,p6,p7,p8,p9,p10,p11,p12]
 let cs:List (Addr × HO):=[(p0,.lst []),(p1,.lst []),(p2,.dK []),(p3,.dK []),(p4,.dK []),(p5,.dK []),(p6,.dK []),(p7,.dK []),(p8,.dK []),(p9,.dK []),(p10,.dK []),(p11,.dK []),(p12,.dT [])]
 let LA:=fun ex=>LoA.mk ex dx p0 p1 p2 p3 p4 p5 p6 p7 p8 p9 p10 p11 p12
 have nd:ps.Nodup:=i13.nd;have ct:∀{i:Nat} {p:Addr} {c:HO},(cs[i]? =some (p,c))->H13 p=some c/\wc 0 ps p=some (0+i,none):=fun {i p c} h=>⟨i13.at' _ (au h),CP nd (by have:=congrArg (Option.map (·.1)) h;rw[<-aH] at this;exact this)⟩;have tin:∀b i,wc 0 ps b=some i->∃o,(b,o)∈cs:=fun b i h=>by
  have hm:b∈(cs.map (·.1)):=uI h;obtain⟨q,hq,rfl⟩:=bK.mp hm;exact⟨q.2,hq⟩
 have aT:wc 0 ps a=none:=by
  cases h:wc 0 ps a with
  | none=>rfl
  | some i=>obtain⟨o,ho⟩:=tin a i h;exact absurd rfl (i13.new _ ho).2
 have nN:∀{α:Type} (k:Key),kN (fun _=>([]:List α)) k=[]:=fun {α} k=>by cases k with | inl i=>show(if _ then _ else _)=_;split<;>rfl | inr r=>rfl
 have nS:∀{α:Type} (k:Key),kS (fun _=>([]:List α)) k=[]:=fun {α} k=>by cases k<;>rfl
 have l0:LoreAt C (LA []) a 0 (wc 0 ps) H13 LoI.emp:=⟨(fun b i h=>by obtain⟨o,ho⟩:=tin b i h;rw[i13.at' _ ho];intro z;cases z),aT,i13.ob,FLs.nil (ct (i:=0) rfl).2 (ct (i:=0) rfl).1,FLs.nil (ct (i:=1) rfl).2 (ct (i:=1) rfl).1,⟨(ct (i:=2) rfl).2,[],(ct (i:=2) rfl).1,fun k _=>rfl,av _⟩,FK.nil NI (ct (i:=3) rfl).2 (ct (i:=3) rfl).1,FTb.nil nN (ct (i:=4) rfl).2 (ct (i:=4) rfl).1,FTb.nil nN (ct (i:=5) rfl).2 (ct (i:=5) rfl).1,FTb.nil nS (ct (i:=6) rfl).2 (ct (i:=6) rfl).1,FTb.nil nS (ct (i:=7) rfl).2 (ct (i:=7) rfl).1,FTb.nil nS (ct (i:=8) rfl).2 (ct (i:=8) rfl).1,FTb.nil nN (ct (i:=9) rfl).2 (ct (i:=9) rfl).1,FTb.nil nN (ct (i:=10) rfl).2 (ct (i:=10) rfl).1,FK.nil Og (ct (i:=11) rfl).2 (ct (i:=11) rfl).1,FT.nil NX (ct (i:=12) rfl).2 (ct (i:=12) rfl).1,fun k h=>(ao h).elim,av _,rfl,.inl rfl⟩;have nm1:kO anyW:=by show gM _=true;decide+kernel
 have nm2:kO nothW:=by show gM _=true;decide+kernel
 refine⟨_,_,l0.ob,l0.lkNo,a,_,0,_,_,_,anyW,rfl,l0,rfl,nm1,by decide,hd,by decide,fun H14 T14 f14 l14=> ?_⟩;rw[M_];refine⟨a,C,dx,_,rfl,l14.ob,lc.c,lc.n13,by show 13<1000;decide,?_⟩;have l15:=l14.setex (A':=(LA Kj)) rfl (.inr (.inl rfl)) rfl;have y15:iO "anything" (.int ((0:Nat):Int)) (mI (LA []))=mI (LA Kj):=rfl;rw[y15];refine⟨_,_,l15.ob,l15.lkNo,a,_,_,_,_,_,nothW,rfl,l15,rfl,nm2,by decide,hd,by decide,fun H16 T16 f16 l16=> ?_⟩;rw[show(LoI.num nothW (LoI.num anyW LoI.emp)).ix nothW=1 from K1];refine⟨a,C,dx,_,rfl,l16.ob,lc.c,lc.n14,by show 14<1000;decide,?_⟩;have l17:=l16.setex (A':=(LA Fw)) rfl (.inr (.inr rfl)) rfl;have y17:iO "nothing" (.int ((1:Nat):Int)) (mI (LA Kj))=mI (LA Fw):=rfl;rw[y17];generalize hT0:wc 0 ps=T0 at f14 tin aT;have un:∀{b o},H b=some o->b≠a->H13 b=some o/\∀i k,T0 b=some (i,k)->i∉[0,1,2]:=fun {b o} e n=>⟨i13.old b o e n,fun i k z=>by
  obtain⟨o',ho⟩:=tin b _ z;have:=(i13.new _ ho).1;rw[e] at this;cases this⟩
 have un14:∀{b o},H b=some o->b≠a->H14 b=some o/\∀i k,T14 b=some (i,k)->i∉[0,1,2]:=fun {b o} e n=>by
  obtain⟨u1,u2⟩:=un e n;refine⟨f14.but b o u1 u2,fun i k z=> ?_⟩;rcases f14.new b _ z with z | z
  · exact u2 i k z
  · rw[u1] at z;cases z.1
 have un16:∀{b o},H b=some o->b≠a->H16 b=some o/\∀i k,T16 b=some (i,k)->False:=fun {b o} e n=>by
  obtain⟨u1,u2⟩:=un14 e n;have e15:upd H14 a (.ins C dx (mI (LA Kj))) b=some o:=by rw[aB n];exact u1
  refine⟨f16.but b o e15 u2,fun i k z=> ?_⟩;rcases f16.new b _ z with z | z
  · rcases f14.new b _ z with z | z
    · obtain⟨o',ho⟩:=tin b _ z;have:=(i13.new _ ho).1;rw[e] at this;cases this
    · rw[(un e n).1] at z;cases z.1
  · rw[e15] at z;cases z.1
 refine q _ (LA Fw) T16 (fun b o e n=>by rw[aB n];exact(un16 e n).1) (fun b i z=> ?_) l17 rfl;have nb:b≠a:=fun e=>by rw[e,l16.oT] at z;cases z
 cases e:H b with
 | none=>rfl
 | some o=>exact((un16 e nb).2 i.1 i.2 z).elim
end
noncomputable def LoI.of(ps:List (Int × Sy))(ks:List Kd):LoI:=ks.foldl (fun L k=>LoI.kk k L) (ps.foldl (fun L q=>LoI.learn q.1 q.2 L) LoI.init)
noncomputable def gY(ps:List (Int × Sy)):Nat:=(ps.map fun q=>6 * q.2.szs+2).sum
noncomputable def iM(ks:List Kd):Nat:=(ks.map fun k=>5 * k.sz).sum
def kU{α:Type}(f:α->Nat)(l:List α)(i:Nat):((l.take i).map f).sum<=(l.map f).sum:=by
 conv=>rhs;rw[<-sj i l,aZ,jM]
 exact dv _ _
def kW{α:Type}(f:α->Nat){l:List α}{i:Nat}{x:α}(h:l[i]? =some x):((l.take (i+1)).map f).sum=((l.take i).map f).sum+f x:=by
 rw[bx,h,aZ,jM];simp
def kT{α β:Type}(f:β->α->β)(b:β){l:List α}{i:Nat}{x:α}(h:l[i]? =some x):(l.take (i+1)).foldl f b=f ((l.take i).foldl f b) x:=by
 rw[bx,h,e_];rfl
def LoI.tb_rest(n:Int)(s:Sy)(L:LoI):(LoI.tb n s L).parts=L.parts/\(LoI.tb n s L).shapes=L.shapes:=by cases s<;>exact⟨rfl,rfl⟩
def LoI.learn_ok(n:Int)(s:Sy){L:LoI}(o:L.Ok):(LoI.learn n s L).Ok:=(LoI.kks_ok o _).of (LoI.tb_rest _ _ _).1 (LoI.tb_rest _ _ _).2
theorem jF{α:Type}{f:LoI->α->LoI}(hf:∀L x,L.Ok->(f L x).Ok):∀(l:List α) {L:LoI},L.Ok->(l.foldl f L).Ok
 | [],_,o=>o
 | x::l,_,o=>jF hf l (hf _ x o)
def vC(d:Nat)(k:Kd):Prop:=kO k/\k.nt<=24/\k.dep<d
inductive qM(C:Addr)(d:Nat)(vs:List V)(H:Hp)(Q:VK):Prop
 | mk:∀lp lf ys zs ps ks,(vs=[.ref lp,.ref lf])->(H lp=some (.lst ys))->(PrL H ys ps)->(H lf=some (.lst zs))->(KL H zs ks)->((∀q∈ps,q.2.gd d))->((∀k∈ks,vC d k))->(2+gY ps+iM ks<=40000)->(∀H' a A T,Same H H'->(∀b i,T b=some i->H b=none)->H a=none->LoreAt C A a (2+gY ps+iM ks) T H' (LoI.of ps ks)->A.ex=Fw->Q (.ref a) H')->qM C d vs H Q
def wM(C:Addr)(d:Nat):Sp:=fun vs H Q _=>qM C d vs H Q
section
def scLoreOf:bw ["pairs","further","lore","number","saying","kind"] AW (aM uZ):=gH
def B0(F:Fun K "lore_of" "lore_of" uZ f fd)(lc:wa K C)(Gin:Il P w K mg base C (2 * d+1) "Lore" ng (Az C))(Gle:Ml P w K mg base C (2 * d+3) "learn" AS (Aw C d))(Gkn:Ml P w K mg base C (d+1) "know" nj (lY C d))(Gno:Ml P w K mg base C (2 * d) "number_of" fA (mU C d)):b_ P w K mg base eU (2 * d+4) f fd AW (wM C d):=by
 refine F.o scLoreOf fun cdv A outer s0 H vs Q E hr h=> ?_;obtain⟨lp,lf,ys,zs,ps,ks,rfl,elp,hps,elf,hks,gp,gk,hN,q⟩:=h;refine⟨_,ba (fR 2 scLoreOf.nd (MP Gin hr)) (j0 (lO (bT aD) (eY rfl (bG (eV 3 scLoreOf.nd) (bG (eV 4 scLoreOf.nd) dX))) (bg (bC (gU bJ lc.c Gle hr (dO cE cG))))) (ba (lO (bT bf) (eV 5 scLoreOf.nd) (bg (bC (gU bJ lc.c Gkn hr (eR (gU bJ lc.c Gno hr (eR ee))))))) (bg (cK bJ)))),?_⟩;refine fun a dx ha hdx ne=> ?_;refine⟨a,dx,rfl,upd_same,fun H1 B T1 bt tn l1 ex=>⟨rfl,?_⟩⟩;have s1:Same H H1:=fun b o e=>by
  have nb:b≠a:=bp e ha;have nd:b≠dx:=bp e hdx;exact bt b o (by rw[aB nb,aB nd];exact e) nb
 have t1:∀b i,T1 b=some i->H b=none:=fun b i z=>by
  have:=tn b i z;by_cases h1:b=a
  · rw[h1];exact ha
  · by_cases h2:b=dx
    · rw[h2];exact hdx
    · rw[aB h1,aB h2] at this;exact this
 have frS:∀{S:List Nat} {T2:Tg} {H2:Hp},Fr S T1 T2 H1 H2->Same H H2/\∀b i,T2 b=some i->H b=none:=fun {S T2 H2} fr=>⟨fun b o e=>fr.but b o (s1 b o e) (fun i k z=>by rw[t1 b _ z] at e;cases e),fun b i z=>by
  rcases fr.new b i z with z | z
  · exact t1 b i z
  · cases e:H b with
    | none=>rfl
    | some o=>rw[s1 b o e] at z;cases z.1⟩
 have okI:=LoI.init_ok;have lp2:ys.length=ps.length:=bu hps;have lk2:zs.length=ks.length:=bu hks;refine⟨fun σ H'=>∃(o3 o4 o5:Option V) (T':Tg),σ=[some (.ref lp),some (.ref lf),some (.ref a),o3,o4,o5]/\Fr CD T1 T' H1 H'/\LoreAt C B a (2+gY ps) T' H' (ps.foldl (fun L q=>LoI.learn q.1 q.2 L) LoI.init),?_,?_⟩
 · refine⟨⟨_,SqL.of (s1 _ _ elp)⟩,ck (xs:=ys) (fun i σ H'=>∃(o3 o4 o5:Option V) (T':Tg),σ=[some (.ref lp),some (.ref lf),some (.ref a),o3,o4,o5]/\Fr CD T1 T' H1 H'/\LoreAt C B a (2+gY (ps.take i)) T' H' ((ps.take i).foldl (fun L q=>LoI.learn q.1 q.2 L) LoI.init)) ⟨none,none,none,T1,rfl,Fr.refl,l1.mono (dv _ _)⟩ ?_ ?_ ?_⟩
   · rintro i σ H' _ ⟨o3,o4,o5,T',rfl,fr,_⟩;exact SqL.of ((frS fr).1 _ _ elp)
   · rintro i x σ H' hx ⟨o3,o4,o5,T',rfl,fr,l⟩;obtain⟨pq,hpq,t,vy,rfl,ht,hsy⟩:=dt hps hx;have sm:=(frS fr).1;have c1:=kW (fun q:Int × Sy=>6 * q.2.szs+2) hpq;have c2:=kU (fun q:Int × Sy=>6 * q.2.szs+2) ps (i+1);have c3:gY (ps.take (i+1))=gY (ps.take i)+(6 * pq.2.szs+2):=c1;have c4:gY (ps.take (i+1))<=gY ps:=c2;refine⟨_,SqT.of (sm _ _ ht),rfl,?_⟩;refine⟨_,_,l.ob,l.lkLe,a,B,_,T',_,pq.1,vy,pq.2,rfl,l,jF (fun L q o=>LoI.learn_ok _ _ o) _ okI,hsy.mono sm.tups,gp _ (au hpq),by lia,fun H2 T2 f2 l2=>⟨_,_,_,T2,rfl,fr.trans f2,?_⟩⟩;rw[c3,kT _ _ hpq];exact l2.mono (by lia)
   · rintro σ H' ⟨o3,o4,o5,T',rfl,fr,l⟩;rw[lp2,aY] at l;exact⟨o3,o4,o5,T',rfl,fr,l⟩
 rintro σ H' ⟨o3,o4,o5,T',rfl,fr,l⟩;have S012:∀j∈[0,1,2],j∈CD:=by decide
 have S5:∀j∈[3,9,10,11,12],j∈CD:=by decide
 have okP:(ps.foldl (fun L q=>LoI.learn q.1 q.2 L) LoI.init).Ok:=jF (fun L q o=>LoI.learn_ok _ _ o) _ okI;refine⟨⟨_,SqL.of ((frS fr).1 _ _ elf)⟩,ck (xs:=zs) (fun i σ H2=>∃(o5:Option V) (T2:Tg),σ=[some (.ref lp),some (.ref lf),some (.ref a),o3,o4,o5]/\Fr CD T1 T2 H1 H2/\LoreAt C B a (2+gY ps+iM (ks.take i)) T2 H2 ((ks.take i).foldl (fun L k=>LoI.kk k L) (ps.foldl (fun L q=>LoI.learn q.1 q.2 L) LoI.init))) ⟨o5,T',rfl,fr,l.mono (dv _ _)⟩ ?_ ?_ ?_⟩
 · rintro i σ H2 _ ⟨o5,T2,rfl,f2,_⟩;exact SqL.of ((frS f2).1 _ _ elf)
 · rintro i x σ H2 hx ⟨o5,T2,rfl,f2,l2⟩;obtain⟨k,hk,ik⟩:=KL.get hks hx;have sm:=(frS f2).1;obtain⟨g1,g2,g3⟩:=gk k (au hk);have c3:iM (ks.take (i+1))=iM (ks.take i)+5 * k.sz:=kW (fun k:Kd=>5 * k.sz) hk;have c4:iM (ks.take (i+1))<=iM ks:=kU (fun k:Kd=>5 * k.sz) ks (i+1);refine⟨_,_,l2.ob,l2.lkKn,_,_,l2.ob,l2.lkNo,a,B,_,T2,_,x,k,rfl,l2,IsK.mono sm.tups ik,g1,g2,g3,by lia,fun H3 T3 f3 l3=> ?_⟩;refine⟨a,B,_,T3,_,k,rfl,l3,LoI.num_ok _ (jF (fun L q o=>LoI.kk_ok _ o) _ okP),LoI.num_has _ _,g3,by lia,fun H4 T4 f4 l4=>⟨_,T4,rfl,(f2.trans (f3.mono S012)).trans (f4.mono S5),?_⟩⟩;rw[c3,kT _ _ hk];exact l4.mono (by lia)
 · rintro σ H2 ⟨o5,T2,rfl,f2,l2⟩;rw[lk2,aY] at l2;exact(q H2 a B T2 (frS f2).1 (frS f2).2 ha l2 ex)
end
inductive Fi where
 | is (x k:Nat) | has (x:Nat) (t:Str) (y:Nat)
 deriving DecidableEq
structure StI where
 steps:List sF
 facts:List Fi
 stand:List Nat
def Hg(H:Hp)(v:V):Fi->Prop
 | .is x k=>∃p:Addr,v= .ref p/\H p=some (.tup [.int (x:Int),.int (k:Int)])
 | .has x t y=>∃p:Addr,v= .ref p/\H p=some (.tup [.int (x:Int),.str t,.int (y:Int)])
def fi_mo:Mo Hg:=fun H H' v f t h=>by
 cases f with
 | is x k=>obtain⟨p,e,h⟩:=h;exact⟨p,e,t _ _ h⟩
 | has x r y=>obtain⟨p,e,h⟩:=h;exact⟨p,e,t _ _ h⟩
noncomputable def Fi.key:Fi->List Key
 | .is x k=>[.inl (x:Int),.inl (k:Int)]
 | .has x t y=>[.inl (x:Int),.inr t,.inl (y:Int)]
theorem Fi.key_inj:∀{a b:Fi},a.key=b.key->a=b
 | .is x k,.is x' k',h=>by simp only[Fi.key,bV,Sum.inl.injEq,and_true] at h;rw[show x=x' by lia,show k=k' by lia]
 | .is _ _,.has _ _ _,h=>by simp[Fi.key] at h
 | .has _ _ _,.is _ _,h=>by simp[Fi.key] at h
 | .has x t y,.has x' t' y',h=>by simp only[Fi.key,bV,Sum.inl.injEq,Sum.inr.injEq,and_true] at h;rw[show x=x' by lia,h.2.1,show y=y' by lia]
noncomputable def cH(l:List Nat):Nat:=l.foldl (fun m i=>m ||| 2^i) 0
def xP(l:List Nat)(i:Nat):cH (l++[i])=cH l ||| 2^i:=by unfold cH;rw[e_];rfl
def kf(l:List Nat)(i:Nat):(cH l).testBit i=decide (i∈l):=by
 have key:∀(l:List Nat) (m:Nat),(l.foldl (fun m i=>m ||| 2^i) m).testBit i=(m.testBit i || decide (i∈l)):=fun l=>by
  induction l with
  | nil=>intro m;simp
  | cons j l ih=>
    intro m;rw[dN,ih,E6];by_cases e:j=i
    · subst e;simp
    · have:¬ i=j:=fun z=>e z.symm;simp[e,this]
 show(l.foldl _ 0).testBit i=_;rw[key l 0];simp
def nG(h:∀i∈l,i<n):cH l<2^n:=by
 refine Nat.lt_pow_two_of_testBit _ fun i hi=> ?_;rw[kf,ag];exact fun z=>by have:=h i z;lia
noncomputable def iB(F:List Fi)(x:Nat):List Nat:=F.filterMap fun | .is x' k=>if x'=x then some k else none | _=>none
noncomputable def iq(F:List Fi)(k:Nat):List Nat:=F.filterMap fun | .is x k'=>if k'=k then some x else none | _=>none
noncomputable def fh(sh:List Sh)(F:List Fi)(x:Nat)(r:Str):List Nat:=F.filterMap fun
 | .is x' k=>if x'=x then(match sh[k]? with | some (.some r' c)=>if r'=r then some c else none | _=>none) else none
 | _=>none
noncomputable def eo(F:List Fi)(x:Nat)(t:Str):List Nat:=F.filterMap fun | .has x' t' y=>if x'=x/\t'=t then some y else none | _=>none
noncomputable def cA(F:List Fi)(y:Nat)(t:Str):List Nat:=F.filterMap fun | .has x t' y'=>if y'=y/\t'=t then some x else none | _=>none
noncomputable def Hk:Fi->List Str
 | .is _ _=>[]
 | .has _ t _=>[t]
noncomputable def eG(F:List Fi):List Str:=cS [] (F.flatMap Hk)
noncomputable def Bc(F:List Fi)(ks:List Key):Option V:=(F.findIdx? fun f=>f.key=ks).map fun(i:Nat)=>V.int (i:Int)
noncomputable def zx(g:Nat->List Nat):Key->Option V
 | .inl i=>if 0<=i/\g i.toNat≠[] then some (.int (cH (g i.toNat):Nat)) else none
 | .inr _=>none
noncomputable def Ca(g:Nat->Str->List Nat):List Key->Option V
 | [.inl i,.inr t]=>if 0<=i/\g i.toNat t≠[] then some (.int (cH (g i.toNat t):Nat)) else none
 | _=>none
def vI(g:Nat->List Nat)(i:Nat):(zx g (.inl (i:Int))).getD (.int 0)= .int (cH (g i):Nat):=by
 show Option.getD (if 0<=(i:Int)/\g (i:Int).toNat≠[] then some (V.int (cH (g (i:Int).toNat):Nat)) else none) _=_;rw[cz];by_cases e:g i=[]
 · rw[aA (fun z=>z.2 e),e];rfl
 · rw[aE ⟨by lia,e⟩];rfl
def qm(g:Nat->Str->List Nat)(i:Nat)(t:Str):(Ca g [.inl (i:Int),.inr t]).getD (.int 0)= .int (cH (g i t):Nat):=by
 show Option.getD (if 0<=(i:Int)/\g (i:Int).toNat t≠[] then some (V.int (cH (g (i:Int).toNat t):Nat)) else none) _=_;rw[cz];by_cases e:g i t=[]
 · rw[aA (fun z=>z.2 e),e];rfl
 · rw[aE ⟨by lia,e⟩];rfl
def qo{n:Nat}(h1:g' n=g n++[j])(h2:∀i,i≠n->g' i=g i):(fun k:Key=>if k= .inl (n:Int) then some (V.int ((cH (g n) ||| 2^j:Nat):Int)) else zx g k)=zx g':=by
 funext k
 cases k with
 | inl i=>
   by_cases e:i=(n:Int)
   · subst e;rw[aE rfl];show _=if 0<=(n:Int)/\g' (n:Int).toNat≠[] then some (V.int (cH (g' (n:Int).toNat):Nat)) else none
     rw[cz,h1,aE ⟨by lia,by simp⟩,xP]
   · rw[aA (fun z=>e (by injection z))];show(if 0<=i/\g i.toNat≠[] then some (V.int (cH (g i.toNat):Nat)) else none)=if 0<=i/\g' i.toNat≠[] then some (V.int (cH (g' i.toNat):Nat)) else none
     by_cases c:0<=i
     · rw[h2 i.toNat (by lia)]
     · rw[aA (fun z=>c z.1),aA (fun z=>c z.1)]
 | inr r=>rw[aA (by intro z;cases z)];rfl
def vH{n:Nat}(h1:g' n t=g n t++[j])(h2:∀i s,¬ (i=n/\s=t)->g' i s=g i s):(fun k:List Key=>if k=[.inl (n:Int),.inr t] then some (V.int ((cH (g n t) ||| 2^j:Nat):Int)) else Ca g k)=Ca g':=by
 funext k
 by_cases e:k=[.inl (n:Int),.inr t]
 · subst e;rw[aE rfl];show _=if 0<=(n:Int)/\g' (n:Int).toNat t≠[] then some (V.int (cH (g' (n:Int).toNat t):Nat)) else none
   rw[cz,h1,aE ⟨by lia,by simp⟩,xP]
 · rw[aA e]
   match k,e with
   | [.inl i,.inr s],e=>
     show(if 0<=i/\g i.toNat s≠[] then some (V.int (cH (g i.toNat s):Nat)) else none)=if 0<=i/\g' i.toNat s≠[] then some (V.int (cH (g' i.toNat s):Nat)) else none
     by_cases c:0<=i
     · rw[h2 i.toNat s (fun z=>e (by rw[z.2,<-z.1,NS c]))]
     · rw[aA (fun z=>c z.1),aA (fun z=>c z.1)]
   | [],_=>rfl
   | [.inl _],_=>rfl
   | [.inr _],_=>rfl
   | [.inr _,_],_=>rfl
   | [.inl _,.inl _],_=>rfl
   | x::y::z::w,_=>cases x<;>cases y<;>rfl
def xJ(h:∀i,g' i=g i):zx g'=zx g:=by rw[funext h]
def iA(h:∀i t,g' i t=g i t):Ca g'=Ca g:=by rw[show g'=g from funext fun i=>funext (h i)]
def xq(h:f∉F):Bc F f.key=none:=by
 unfold Bc;rw[mF.mpr (fun g hg=>ag fun e=>h (by rw[<-Fi.key_inj e];exact hg))]
 rfl
def xp(h:f∈F):Bc F f.key=some (.int (F.idxOf f:Nat)):=by
 unfold Bc;have:(F.findIdx? fun g=>decide (g.key=f.key))=some (F.idxOf f):=by
  induction F with
  | nil=>exact(ao h).elim
  | cons g F ih=>
    rw[List.findIdx?_cons,List.idxOf_cons];by_cases e:g=f
    · subst e;simp
    · have e1:¬ g.key=f.key:=fun z=>e (Fi.key_inj z);rw[aA (by simp[e1]),cq.mpr e,cond_false,ih ((aI.mp h).resolve_left (fun z=>e z.symm))]
      rfl
 rw[this];rfl
def vm(h:f∉F):(fun k:List Key=>if k=f.key then some (V.int (F.length:Nat)) else Bc F k)=Bc (F++[f]):=by
 funext k
 unfold Bc;rw[List.findIdx?_append];by_cases e:k=f.key
 · subst e;rw[aE rfl,mF.mpr (fun g hg=>ag fun e=>h (by rw[<-Fi.key_inj e];exact hg))];simp
 · rw[aA e];have:([f].findIdx? fun g=>decide (g.key=k))=none:=mF.mpr fun g hg=>by
    rw[af.mp hg];exact ag fun z=>e z.symm
   rw[this];cases F.findIdx? fun g=>decide (g.key=k)<;>rfl
def IsSt(T:Tg)(H:Hp)(v:V)(s:sF):Prop:=∃p pf vf,v= .ref p/\H p=some (.tup [vf,.str s.r,.ref pf,pQ s.n])/\IsF H s.f vf/\H pf=some (.lst (s.fr.map V.int))/\T pf=none
def Fr.free(f:Fr S T T' H H')(e:H b=some o)(t:T b=none):T' b=none/\H' b=some o:=by
 refine⟨?_,f.but b o e (fun i k z=>by rw[t] at z;cases z)⟩;cases c:T' b with
 | none=>rfl
 | some j=>
   rcases f.new b j c with z | z
   · rw[t] at z;cases z
   · rw[e] at z;cases z.1
def IsSt.fr(f:Fr S T T' H H')(h:IsSt T H v s):IsSt T' H' v s:=by
 obtain⟨p,pf,vf,e,h1,h2,h3,h4⟩:=h;obtain⟨t,e'⟩:=Fr.free f h3 h4;exact⟨p,pf,vf,e,f.tups _ _ h1,h2.mono f.tups,e',t⟩
def FSt(H:Hp)(T:Tg)(q:Addr)(ss:List sF):Prop:=T q=some (13,none)/\∃vs,H q=some (.lst vs)/\Paired (IsSt T H) vs ss
def FSt.fr(f:Fr S T T' H H')(hi:13∉S)(h:FSt H T q ss):FSt H' T' q ss:=by
 obtain⟨t,vs,e,r⟩:=h;exact⟨f.tg _ _ t,vs,f.at hi t e,Paired.imp' (fun _ _ z=>IsSt.fr f z) r⟩
structure yn where
 (dx q0 q1 q2 q3 q4 q5 q6 q7 q8 q9:Addr)
noncomputable def mH(B:yn)(l:Addr):List (Str × V):=[("lore",.ref l),("steps",.ref B.q0),("facts",.ref B.q1),("places",.ref B.q2),("stand_ins",.ref B.q3),("kinds_of",.ref B.q4),("those_of",.ref B.q5),("fillers_of",.ref B.q6),("ends",.ref B.q7),("starts",.ref B.q8),("ties",.ref B.q9)]
structure Gd where
 steps:List sF
 facts:List Fi
 pl:List Key->Option V
 st:Key->Option V
 ko:Key->Option V
 to:Key->Option V
 fo:List Key->Option V
 en:List Key->Option V
 sa:List Key->Option V
 ti:List Str
noncomputable def StI.gd(sh:List Sh)(S:StI):Gd:=⟨S.steps,S.facts,Bc S.facts,Kh S.stand,zx (iB S.facts),zx (iq S.facts),Ca (fh sh S.facts),Ca (eo S.facts),Ca (cA S.facts),eG S.facts⟩
structure StG(D:Addr)(B:yn)(b l:Addr)(n:Nat)(T:Tg)(H:Hp)(G:Gd):Prop where
 tg:TgOk T H
 oT:T b=none
 ob:H b=some (.ins D B.dx (mH B l))
 s0:FSt H T B.q0 G.steps
 s1:FLs Hg H T 14 B.q1 G.facts
 s2:FT H T 15 B.q2 G.pl n
 s3:FK H T 16 B.q3 G.st n
 s4:FK H T 17 B.q4 G.ko n
 s5:FK H T 18 B.q5 G.to n
 s6:FT H T 19 B.q6 G.fo n
 s7:FT H T 20 B.q7 G.en n
 s8:FT H T 21 B.q8 G.sa n
 s9:T B.q9=some (22,none)/\H B.q9=some (.dK (Dn G.ti))/\G.ti.length<=n
noncomputable abbrev eN:List Nat:=[13,14,15,16,17,18,19,20,21,22]
def StG.renew{D:Addr}{B:yn}{b l:Addr}{n n':Nat}{S:List Nat}{T T':Tg}{H H':Hp}{G G':Gd}(h:StG D B b l n T H G)(hn:n<=n')(f:Fr S T T' H H')(tg:TgOk T' H')(c0:FSt H' T' B.q0 G'.steps\/(13∉S/\G'.steps=G.steps):=by exact .inr ⟨by decide,rfl⟩)(c1:FLs Hg H' T' 14 B.q1 G'.facts\/(14∉S/\G'.facts=G.facts):=by exact .inr ⟨by decide,rfl⟩)(c2:FT H' T' 15 B.q2 G'.pl n'\/(15∉S/\G'.pl=G.pl):=by exact .inr ⟨by decide,rfl⟩)(c3:FK H' T' 16 B.q3 G'.st n'\/(16∉S/\G'.st=G.st):=by exact .inr ⟨by decide,rfl⟩)(c4:FK H' T' 17 B.q4 G'.ko n'\/(17∉S/\G'.ko=G.ko):=by exact .inr ⟨by decide,rfl⟩)(c5:FK H' T' 18 B.q5 G'.to n'\/(18∉S/\G'.to=G.to):=by exact .inr ⟨by decide,rfl⟩)(c6:FT H' T' 19 B.q6 G'.fo n'\/(19∉S/\G'.fo=G.fo):=by exact .inr ⟨by decide,rfl⟩)(c7:FT H' T' 20 B.q7 G'.en n'\/(20∉S/\G'.en=G.en):=by exact .inr ⟨by decide,rfl⟩)(c8:FT H' T' 21 B.q8 G'.sa n'\/(21∉S/\G'.sa=G.sa):=by exact .inr ⟨by decide,rfl⟩)(c9:(H' B.q9=some (.dK (Dn G'.ti))/\G'.ti.length<=n')\/(22∉S/\G'.ti=G.ti):=by exact .inr ⟨by decide,rfl⟩):StG D B b l n' T' H' G':=by
 have k:∀{i p g},FK H T i p g n->i∉S->FK H' T' i p g n':=fun z hi=>by
  obtain⟨t,kvs,e,r,le⟩:=z.fr f hi;exact⟨t,kvs,e,r,ai le hn⟩
 have t:∀{i p g},FT H T i p g n->i∉S->FT H' T' i p g n':=fun z hi=>by
  obtain⟨t,kvs,e,r,le⟩:=z.fr f hi;exact⟨t,kvs,e,r,ai le hn⟩
 obtain⟨o1,o2⟩:=Fr.free f h.ob h.oT;refine⟨tg,o1,o2,?_,?_,?_,?_,?_,?_,?_,?_,?_,f.tg _ _ h.s9.1,?_⟩
 · rcases c0 with c | ⟨c,e⟩;exact c;rw[e];exact h.s0.fr f c
 · rcases c1 with c | ⟨c,e⟩;exact c;rw[e];exact h.s1.fr fi_mo f c
 · rcases c2 with c | ⟨c,e⟩;exact c;rw[e];exact t h.s2 c
 · rcases c3 with c | ⟨c,e⟩;exact c;rw[e];exact k h.s3 c
 · rcases c4 with c | ⟨c,e⟩;exact c;rw[e];exact k h.s4 c
 · rcases c5 with c | ⟨c,e⟩;exact c;rw[e];exact k h.s5 c
 · rcases c6 with c | ⟨c,e⟩;exact c;rw[e];exact t h.s6 c
 · rcases c7 with c | ⟨c,e⟩;exact c;rw[e];exact t h.s7 c
 · rcases c8 with c | ⟨c,e⟩;exact c;rw[e];exact t h.s8 c
 · rcases c9 with c | ⟨c,e⟩;exact c;rw[e];exact⟨f.at c h.s9.1 h.s9.2.1,ai h.s9.2.2 hn⟩
abbrev nc{p q:Prop}(h:q):p\/q:= .inr h
def StG.same(h:StG D B b l n T H G)(s:Same H H'):StG D B b l n T H' G:=by
 have z:∀{i:Nat},i∉([]:List Nat):=fun h=>ao h;exact h.renew (ar _) (Fr.of (S:=[]) s) (h.tg.same s) (nc ⟨z,rfl⟩) (nc ⟨z,rfl⟩) (nc ⟨z,rfl⟩) (nc ⟨z,rfl⟩) (nc ⟨z,rfl⟩) (nc ⟨z,rfl⟩) (nc ⟨z,rfl⟩) (nc ⟨z,rfl⟩) (nc ⟨z,rfl⟩) (nc ⟨z,rfl⟩)
def StG.fr(h:StG D B b l n T H G)(f:Fr S T T' H H')(hS:∀i∈S,i<13)(tg:TgOk T' H'):StG D B b l n T' H' G:=by
 have z:∀{i:Nat},13<=i->i∉S:=fun hi m=>by have:=hS _ m;lia
 exact h.renew (ar _) f tg (nc ⟨z (by decide),rfl⟩) (nc ⟨z (by decide),rfl⟩) (nc ⟨z (by decide),rfl⟩) (nc ⟨z (by decide),rfl⟩) (nc ⟨z (by decide),rfl⟩) (nc ⟨z (by decide),rfl⟩) (nc ⟨z (by decide),rfl⟩) (nc ⟨z (by decide),rfl⟩) (nc ⟨z (by decide),rfl⟩) (nc ⟨z (by decide),rfl⟩)
section
def StG.put15(h:StG D B b l n T H G)(e:H B.q2=some (.dT kvs)):Fr [15] T T H (upd H B.q2 (.dT (bZ kvs k v)))/\StG D B b l (n+1) T (upd H B.q2 (.dT (bZ kvs k v))) {G with pl:=fun j=>if j=k then some v else G.pl j}:=by
 obtain⟨n',f⟩:=h.s2.put (k:=k) (v:=v) e;exact⟨f,h.renew (bD n) f h.tg.put (c2:= .inl n')⟩
def StG.put16(h:StG D B b l n T H G)(e:H B.q3=some (.dK kvs)):Fr [16] T T H (upd H B.q3 (.dK (bZ kvs k v)))/\StG D B b l (n+1) T (upd H B.q3 (.dK (bZ kvs k v))) {G with st:=fun j=>if j=k then some v else G.st j}:=by
 obtain⟨n',f⟩:=h.s3.put (k:=k) (v:=v) e;exact⟨f,h.renew (bD n) f h.tg.put (c3:= .inl n')⟩
def StG.put17(h:StG D B b l n T H G)(e:H B.q4=some (.dK kvs)):Fr [17] T T H (upd H B.q4 (.dK (bZ kvs k v)))/\StG D B b l (n+1) T (upd H B.q4 (.dK (bZ kvs k v))) {G with ko:=fun j=>if j=k then some v else G.ko j}:=by
 obtain⟨n',f⟩:=h.s4.put (k:=k) (v:=v) e;exact⟨f,h.renew (bD n) f h.tg.put (c4:= .inl n')⟩
def StG.put18(h:StG D B b l n T H G)(e:H B.q5=some (.dK kvs)):Fr [18] T T H (upd H B.q5 (.dK (bZ kvs k v)))/\StG D B b l (n+1) T (upd H B.q5 (.dK (bZ kvs k v))) {G with to:=fun j=>if j=k then some v else G.to j}:=by
 obtain⟨n',f⟩:=h.s5.put (k:=k) (v:=v) e;exact⟨f,h.renew (bD n) f h.tg.put (c5:= .inl n')⟩
def StG.put19(h:StG D B b l n T H G)(e:H B.q6=some (.dT kvs)):Fr [19] T T H (upd H B.q6 (.dT (bZ kvs k v)))/\StG D B b l (n+1) T (upd H B.q6 (.dT (bZ kvs k v))) {G with fo:=fun j=>if j=k then some v else G.fo j}:=by
 obtain⟨n',f⟩:=h.s6.put (k:=k) (v:=v) e;exact⟨f,h.renew (bD n) f h.tg.put (c6:= .inl n')⟩
def StG.put20(h:StG D B b l n T H G)(e:H B.q7=some (.dT kvs)):Fr [20] T T H (upd H B.q7 (.dT (bZ kvs k v)))/\StG D B b l (n+1) T (upd H B.q7 (.dT (bZ kvs k v))) {G with en:=fun j=>if j=k then some v else G.en j}:=by
 obtain⟨n',f⟩:=h.s7.put (k:=k) (v:=v) e;exact⟨f,h.renew (bD n) f h.tg.put (c7:= .inl n')⟩
def StG.put21(h:StG D B b l n T H G)(e:H B.q8=some (.dT kvs)):Fr [21] T T H (upd H B.q8 (.dT (bZ kvs k v)))/\StG D B b l (n+1) T (upd H B.q8 (.dT (bZ kvs k v))) {G with sa:=fun j=>if j=k then some v else G.sa j}:=by
 obtain⟨n',f⟩:=h.s8.put (k:=k) (v:=v) e;exact⟨f,h.renew (bD n) f h.tg.put (c8:= .inl n')⟩
def StG.app14(h:StG D B b l n T H G)(e:H B.q1=some (.lst vs))(r:Hg H v f):Fr [14] T T H (upd H B.q1 (.lst (vs++[v])))/\StG D B b l n T (upd H B.q1 (.lst (vs++[v]))) {G with facts:=G.facts++[f]}:=by
 obtain⟨n',f⟩:=h.s1.app (v:=v) (x:=f) fi_mo e r;exact⟨f,h.renew (ar n) f h.tg.put (c1:= .inl n')⟩
def StG.app13(h:StG D B b l n T H G)(e:H B.q0=some (.lst vs))(r:IsSt T H v s):Fr [13] T T H (upd H B.q0 (.lst (vs++[v])))/\StG D B b l n T (upd H B.q0 (.lst (vs++[v]))) {G with steps:=G.steps++[s]}:=by
 obtain⟨t,vs',e',rs⟩:=id h.s0;rw[e] at e';cases e';have f:Fr [13] T T H (upd H B.q0 (.lst (vs++[v]))):=Fr.put t (by simp) (fun xs z=>by rw[e] at z;cases z);have n':FSt (upd H B.q0 (.lst (vs++[v]))) T B.q0 (G.steps++[s]):=⟨t,_,upd_same,zi (Paired.imp' (fun _ _ z=>IsSt.fr f z) rs) (.cons (IsSt.fr f r) .nil)⟩;exact⟨f,h.renew (ar n) f h.tg.put (c0:= .inl n')⟩
def StG.put22(h:StG D B b l n T H G):Fr [22] T T H (upd H B.q9 (.dK (bZ (Dn G.ti) (.inr t) (.bl true))))/\StG D B b l (n+1) T (upd H B.q9 (.dK (bZ (Dn G.ti) (.inr t) (.bl true)))) {G with ti:=nV G.ti t}:=by
 have f:Fr [22] T T H (upd H B.q9 (.dK (bZ (Dn G.ti) (.inr t) (.bl true)))):=Fr.put h.s9.1 (by simp) (fun xs z=>by rw[h.s9.2.1] at z;cases z);exact⟨f,h.renew (bD n) f h.tg.put (c9:= .inl ⟨by rw[upd_same,oX],ai (yk _ _) (gD h.s9.2.2)⟩)⟩
end
structure uB(K:Frag)(D:Addr):Prop where
 c:Cls K D
 m0:NoAttr K D "lore"
 m1:NoAttr K D "steps"
 m2:NoAttr K D "facts"
 m3:NoAttr K D "places"
 m4:NoAttr K D "stand_ins"
 m5:NoAttr K D "kinds_of"
 m6:NoAttr K D "those_of"
 m7:NoAttr K D "fillers_of"
 m8:NoAttr K D "ends"
 m9:NoAttr K D "starts"
 m10:NoAttr K D "ties"
section
variable (B:yn)(l:Addr)
theorem qh:(mH B l).lookup ("lore":Str)=some (V.ref l):=rfl
theorem KC:(mH B l).lookup ("steps":Str)=some (V.ref B.q0):=rfl
theorem Kb:(mH B l).lookup ("facts":Str)=some (V.ref B.q1):=rfl
theorem C9:(mH B l).lookup ("places":Str)=some (V.ref B.q2):=rfl
theorem Ny:(mH B l).lookup ("stand_ins":Str)=some (V.ref B.q3):=rfl
theorem My:(mH B l).lookup ("kinds_of":Str)=some (V.ref B.q4):=rfl
theorem sk6:(mH B l).lookup ("those_of":Str)=some (V.ref B.q5):=rfl
theorem Mx:(mH B l).lookup ("fillers_of":Str)=some (V.ref B.q6):=rfl
theorem LW:(mH B l).lookup ("ends":Str)=some (V.ref B.q7):=rfl
theorem Ka:(mH B l).lookup ("starts":Str)=some (V.ref B.q8):=rfl
theorem KB:(mH B l).lookup ("ties":Str)=some (V.ref B.q9):=rfl
theorem yG:(mH B l).lookup ("keep_is":Str)=none:=rfl
theorem wX:(mH B l).lookup ("keep_has":Str)=none:=rfl
theorem dq:(mH B l).lookup ("tell_is":Str)=none:=rfl
theorem gL:(mH B l).lookup ("tell_has":Str)=none:=rfl
theorem mZ:(mH B l).lookup ("let_stand":Str)=none:=rfl
theorem C6:(mH B l).lookup ("begin":Str)=none:=rfl
theorem C5:(mH B l).lookup ("go_on":Str)=none:=rfl
theorem uP:(mH B l).lookup ("from_kind":Str)=none:=rfl
theorem sL:(mH B l).lookup ("from_pairs":Str)=none:=rfl
theorem wZ:(mH B l).lookup ("from_end":Str)=none:=rfl
theorem wY:(mH B l).lookup ("from_tie":Str)=none:=rfl
theorem qR:(mH B l).lookup ("from_chains":Str)=none:=rfl
end
noncomputable def StI.keep(S:StI)(f:Fi)(st:sF):StI:=⟨S.steps++[st],S.facts++[f],S.stand⟩
noncomputable def StI.cnt(S:StI):Nat:=6 * S.facts.length+S.stand.length
def fO{β:Type}(g:Fi->Option β)(F:List Fi)(f:Fi):(F++[f]).filterMap g=F.filterMap g++(match g f with | some y=>[y] | none=>[]):=by
 rw[L9]
 congr 1
 cases e:g f<;>simp[e]
def HS(F:List Fi)(x k:Nat):iB (F++[.is x k]) x=iB F x++[k]:=by unfold iB;rw[fO];simp
def HR(F:List Fi){x k i:Nat}(h:i≠x):iB (F++[.is x k]) i=iB F i:=by unfold iB;rw[fO];simp[br h]
def Jx(F:List Fi)(x:Nat)(t:Str)(y i:Nat):iB (F++[.has x t y]) i=iB F i:=by unfold iB;rw[fO];simp
def Hj(F:List Fi)(x k:Nat):iq (F++[.is x k]) k=iq F k++[x]:=by unfold iq;rw[fO];simp
def Hi(F:List Fi){x k i:Nat}(h:i≠k):iq (F++[.is x k]) i=iq F i:=by unfold iq;rw[fO];simp[br h]
def Ii(F:List Fi)(x:Nat)(t:Str)(y i:Nat):iq (F++[.has x t y]) i=iq F i:=by unfold iq;rw[fO];simp
def JP{sh:List Sh}(F:List Fi){x k c:Nat}{r:Str}(h:sh[k]? =some (.some r c)):fh sh (F++[.is x k]) x r=fh sh F x r++[c]:=by unfold fh;rw[fO];simp[h]
def JO{sh:List Sh}(F:List Fi){x k c i:Nat}{r s:Str}(h:sh[k]? =some (.some r c))(n:¬ (i=x/\s=r)):fh sh (F++[.is x k]) i s=fh sh F i s:=by
 unfold fh;rw[fO];simp only[h];by_cases e:x=i
 · subst e;have:¬ r=s:=fun z=>n ⟨rfl,z.symm⟩;simp[this]
 · simp[e]
def JN{sh:List Sh}(F:List Fi){x k:Nat}(h:∀r c,sh[k]? ≠some (.some r c))(i:Nat)(s:Str):fh sh (F++[.is x k]) i s=fh sh F i s:=by
 unfold fh;rw[fO];cases e:sh[k]? with
 | none=>by_cases e2:x=i<;>simp[e,e2]
 | some q=>
   cases q with
   | no=>by_cases e2:x=i<;>simp[e,e2]
   | both a b=>by_cases e2:x=i<;>simp[e,e2]
   | some r c=>exact absurd e (h r c)
def GR(F:List Fi)(x:Nat)(t:Str)(y i:Nat)(s:Str):fh sh (F++[.has x t y]) i s=fh sh F i s:=by unfold fh;rw[fO];simp
def JR(F:List Fi)(x:Nat)(t:Str)(y:Nat):eo (F++[.has x t y]) x t=eo F x t++[y]:=by unfold eo;rw[fO];simp
def Lm(F:List Fi){x y i:Nat}{t s:Str}(n:¬ (i=x/\s=t)):eo (F++[.has x t y]) i s=eo F i s:=by
 unfold eo;rw[fO];have:¬ (x=i/\t=s):=fun z=>n ⟨z.1.symm,z.2.symm⟩;simp[this]
def HY(F:List Fi)(x k i:Nat)(s:Str):eo (F++[.is x k]) i s=eo F i s:=by unfold eo;rw[fO];simp
def IF(F:List Fi)(x:Nat)(t:Str)(y:Nat):cA (F++[.has x t y]) y t=cA F y t++[x]:=by unfold cA;rw[fO];simp
def KM(F:List Fi){x y i:Nat}{t s:Str}(n:¬ (i=y/\s=t)):cA (F++[.has x t y]) i s=cA F i s:=by
 unfold cA;rw[fO];have:¬ (y=i/\t=s):=fun z=>n ⟨z.1.symm,z.2.symm⟩;simp[this]
def Hx(F:List Fi)(x k i:Nat)(s:Str):cA (F++[.is x k]) i s=cA F i s:=by unfold cA;rw[fO];simp
def Hl(F:List Fi)(x k:Nat):eG (F++[.is x k])=eG F:=by unfold eG;rw[NQ];simp[Hk]
def Io(F:List Fi)(x:Nat)(t:Str)(y:Nat):eG (F++[.has x t y])=nV (eG F) t:=by
 unfold eG cS;rw[NQ,e_]
 rfl
abbrev lB(D:Addr)(B:yn)(b l:Addr)(T:Tg)(H:Hp)(sh:List Sh)(S:StI):Prop:=StG D B b l S.cnt T H (S.gd sh)
def StG.mono(h:StG D B b l n T H G)(hn:n<=n'):StG D B b l n' T H G:=by
 have z:∀{i:Nat},i∉([]:List Nat):=fun h=>ao h;exact h.renew hn (Fr.refl (S:=[])) h.tg (nc ⟨z,rfl⟩) (nc ⟨z,rfl⟩) (nc ⟨z,rfl⟩) (nc ⟨z,rfl⟩) (nc ⟨z,rfl⟩) (nc ⟨z,rfl⟩) (nc ⟨z,rfl⟩) (nc ⟨z,rfl⟩) (nc ⟨z,rfl⟩) (nc ⟨z,rfl⟩)
def x8{S:StI}(nf:Fi.is x k∉S.facts)(hs:∀r c,sh[k]? ≠some (.some r c)):(S.keep (.is x k) st).gd sh={S.gd sh with steps:=S.steps++[st],facts:=S.facts++[.is x k],pl:=fun j=>if j=(Fi.is x k).key then some (V.int (S.facts.length:Nat)) else Bc S.facts j,ko:=fun j=>if j= .inl (x:Int) then some (V.int ((cH (iB S.facts x) ||| 2^k:Nat):Int)) else zx (iB S.facts) j,to:=fun j=>if j= .inl (k:Int) then some (V.int ((cH (iq S.facts k) ||| 2^x:Nat):Int)) else zx (iq S.facts) j}:=by
 unfold StI.gd StI.keep;rw[vm nf,qo (HS _ _ _) (fun i h=>HR _ h),qo (Hj _ _ _) (fun i h=>Hi _ h),iA (JN _ hs),iA (HY _ _ _),iA (Hx _ _ _),Hl]
def zM{S:StI}(nf:Fi.is x k∉S.facts)(hs:sh[k]? =some (.some r c)):(S.keep (.is x k) st).gd sh={S.gd sh with steps:=S.steps++[st],facts:=S.facts++[.is x k],pl:=fun j=>if j=(Fi.is x k).key then some (V.int (S.facts.length:Nat)) else Bc S.facts j,ko:=fun j=>if j= .inl (x:Int) then some (V.int ((cH (iB S.facts x) ||| 2^k:Nat):Int)) else zx (iB S.facts) j,to:=fun j=>if j= .inl (k:Int) then some (V.int ((cH (iq S.facts k) ||| 2^x:Nat):Int)) else zx (iq S.facts) j,fo:=fun j=>if j=[.inl (x:Int),.inr r] then some (V.int ((cH (fh sh S.facts x r) ||| 2^c:Nat):Int)) else Ca (fh sh S.facts) j}:=by
 unfold StI.gd StI.keep;rw[vm nf,qo (HS _ _ _) (fun i h=>HR _ h),qo (Hj _ _ _) (fun i h=>Hi _ h),vH (JP _ hs) (fun i s n=>JO _ hs n),iA (HY _ _ _),iA (Hx _ _ _),Hl]
def JM{S:StI}(nf:Fi.has x t y∉S.facts):(S.keep (.has x t y) st).gd sh={S.gd sh with steps:=S.steps++[st],facts:=S.facts++[.has x t y],pl:=fun j=>if j=(Fi.has x t y).key then some (V.int (S.facts.length:Nat)) else Bc S.facts j,en:=fun j=>if j=[.inl (x:Int),.inr t] then some (V.int ((cH (eo S.facts x t) ||| 2^y:Nat):Int)) else Ca (eo S.facts) j,sa:=fun j=>if j=[.inl (y:Int),.inr t] then some (V.int ((cH (cA S.facts y t) ||| 2^x:Nat):Int)) else Ca (cA S.facts) j,ti:=nV (eG S.facts) t}:=by
 unfold StI.gd StI.keep;rw[vm nf,xJ (Jx _ _ _ _),xJ (Ii _ _ _ _),iA (GR _ _ _ _),vH (JR _ _ _ _) (fun i s n=>Lm _ n),vH (IF _ _ _ _) (fun i s n=>KM _ n),Io]
def oP(h:13<=i/\i<23):∀j∈[i],j∈eN:=fun j hj=>by
 rw[af.mp hj];simp
 lia
def JL:∀i∈eN,13<=i:=by decide
def nH(h:n<=m)(hm:m<=9999999):n<sizeLine:=bO (ai h hm) (by decide)
inductive qO(C D:Addr)(vs:List V)(H:Hp)(Q:VK):Prop
 | mk:∀(b l:Addr) (B:yn) (A:LoA) (N:Nat) (T:Tg) (L:LoI) (S:StI) (x k:Nat) (v:V) (st:sF),(vs=[.ref b,.int (x:Int),.int (k:Int),v])->(lB D B b l T H L.shapes S)->(LoreAt C A l N T H L)->(L.Ok)->(Fi.is x k∉S.facts)->(x<L.parts.length)->(k<L.parts.length)->(N<=50000)->(S.cnt<=9900000)->(S.steps.length=S.facts.length)->(IsSt T H v st)->(∀H' T',Fr eN T T' H H'->lB D B b l T' H' L.shapes (S.keep (.is x k) st)->Q .non H')->qO C D vs H Q
def wR(C D:Addr):Sp:=fun vs H Q _=>qO C D vs H Q
section
def scKeepIs:bw ["self","x","kind","step","fact","shape","key"] AO (aM qW):=gH
def B3(F:Fun K "keep_is" "Still.keep_is" qW f fd)(lc:wa K C)(sc:uB K D)(ml:mg "len"=none):b_ P w K mg base eU 1 f fd AO (wR C D):=by
 refine F.o scKeepIs fun cdv A0 outer s0 H vs Q E hr h=> ?_;obtain⟨b,l,B,A,N,T,L,S,x,k,v,st,rfl,sa,la,lok,nf,hx,hk,hN,hc,sl,ist,q⟩:=h;have hu:=fL hr;refine⟨_,ba (fR 4 scKeepIs.nd (cX (dO bf bJ)))
  (ba (df hu (c_ aD) cG (BR ml (c_ aD)) rfl)
  (ba (bC (DE (c_ aD) cG))
  (ba (bC (DE (c_ aD) cE))
  (ba (df hu (c_ aD) bf (bF ui (pP hu (c_ aD) bf aw) (bF oE aw bJ)) rfl)
  (ba (df hu (c_ aD) bJ (bF ui (pP hu (c_ aD) bJ aw) (bF oE aw bf)) rfl)
  (ba (fR 5 scKeepIs.nd (oA di (c_ (c_ aD)) bJ))
  (bg (bL (PW.pt (mh (eX nB ee ej) (kK (eX cT (eh ee) bq)))) (ba (fR 6 scKeepIs.nd (cX (dO bf (eh ee)))) (bg (df hu (c_ aD) eW (bF ui (pP hu (c_ aD) eW aw) (bF oE aw (eh ee))) rfl))) be)))))))),?_⟩
 refine⟨by show 2<=sizeLine;decide,fun t0 ht0=> ?_⟩;have z1:=aj ht0 (.tup [.int (x:Int),.int (k:Int)]);have s1:=sa.same z1;have i1:=IsSt.fr (Fr.of (S:=eN) (T:=T) z1) ist;have h1:upd H t0 (.tup [.int (x:Int),.int (k:Int)]) t0=some (.tup [.int (x:Int),.int (k:Int)]):=upd_same;have f1:Fr eN T T H (upd H t0 (.tup [.int (x:Int),.int (k:Int)])):=Fr.of z1;generalize upd H t0 (.tup [.int (x:Int),.int (k:Int)])=H1 at s1 i1 h1 f1⊢;obtain⟨_,vs0,e0,r0⟩:=id s1.s0;obtain⟨_,kv2,e2,_,l2⟩:=id s1.s2;have v0:vs0.length=S.facts.length:=(bu r0).trans sl;obtain⟨g2,s2⟩:=s1.put15 (k:=(Fi.is x k).key) (v:= .int (vs0.length:Nat)) e2;refine⟨D,_,_,_,s1.ob,sc.c,sc.m1,KC B l,B.q0,vs0,rfl,.inl (SqL.of e0),D,_,_,_,s1.ob,sc.c,sc.m3,C9 B l,_,.inr ⟨kv2,(Fi.is x k).key,t0,e2,rfl,h1,nH l2 (by lia),rfl⟩,?_⟩;have i2:=IsSt.fr g2 i1;have h2:=g2.tups _ _ h1;have f2:=f1.trans (g2.mono (oP (by decide)));generalize upd H1 B.q2 (.dT (bZ kv2 (Fi.is x k).key (.int (vs0.length:Nat))))=H2 at s2 i2 h2 f2⊢;obtain⟨_,vs1,e3,r3⟩:=id s2.s1;obtain⟨g3,s3⟩:=s2.app14 (v:= .ref t0) (f:= .is x k) e3 ⟨t0,rfl,h2⟩;have v1:vs1.length<=S.cnt:=by rw[bu r3];show S.facts.length<=6 * S.facts.length+S.stand.length;lia
 refine⟨D,_,_,_,s2.ob,sc.c,sc.m2,Kb B l,.inl ⟨rfl,_,SqL.of e3⟩,vs1,e3,nH v1 (by lia),?_⟩;have i3:=IsSt.fr g3 i2;have f3:=f2.trans (g3.mono (oP (by decide)));generalize upd H2 B.q1 (.lst (vs1++[.ref t0]))=H3 at s3 i3 f3⊢;obtain⟨_,vs2,e4,r4⟩:=id s3.s0;obtain⟨g4,s4⟩:=s3.app13 (v:=v) (s:=st) e4 i3;have v2:vs2.length<=S.cnt:=by rw[bu r4];show S.steps.length<=6 * S.facts.length+S.stand.length;lia
 refine⟨D,_,_,_,s3.ob,sc.c,sc.m1,KC B l,.inl ⟨rfl,_,SqL.of e4⟩,vs2,e4,nH v2 (by lia),?_⟩;have f4:=f3.trans (g4.mono (oP (by decide)));generalize upd H3 B.q0 (.lst (vs2++[v]))=H4 at s4 f4⊢;obtain⟨_,kv4,e5,r5,l5⟩:=id s4.s4;have w5:(cB kv4 (.inl (x:Int))).getD (.int 0)= .int (cH (iB S.facts x):Nat):=by rw[r5];exact vI _ _
 obtain⟨g5,s5⟩:=s4.put17 (k:= .inl (x:Int)) (v:= .int ((cH (iB S.facts x) ||| 2^k:Nat):Int)) e5;have lle:=la.le;refine⟨D,_,_,_,s4.ob,sc.c,sc.m5,My B l,.inl ⟨_,.inl e5⟩,_,DGet.k (k:= .inl (x:Int)) e5,⟨by lia,by lia,by decide⟩,?_⟩;rw[w5];refine Kc ⟨D,_,_,_,s4.ob,sc.c,sc.m5,My B l,_,DPut.k (k:= .inl (x:Int)) e5 (nH l5 (by lia)),?_⟩;have f5:=f4.trans (g5.mono (oP (by decide)));generalize upd H4 B.q4 (.dK (bZ kv4 (.inl (x:Int)) (.int ((cH (iB S.facts x) ||| 2^k:Nat):Int))))=H5 at s5 f5⊢;obtain⟨_,kv5,e6,r6,l6⟩:=id s5.s5;have w6:(cB kv5 (.inl (k:Int))).getD (.int 0)= .int (cH (iq S.facts k):Nat):=by rw[r6];exact vI _ _
 obtain⟨g6,s6⟩:=s5.put18 (k:= .inl (k:Int)) (v:= .int ((cH (iq S.facts k) ||| 2^x:Nat):Int)) e6;refine⟨D,_,_,_,s5.ob,sc.c,sc.m6,sk6 B l,.inl ⟨_,.inl e6⟩,_,DGet.k (k:= .inl (k:Int)) e6,⟨by lia,by lia,by decide⟩,?_⟩;rw[w6];refine Kc ⟨D,_,_,_,s5.ob,sc.c,sc.m6,sk6 B l,_,DPut.k (k:= .inl (k:Int)) e6 (nH l6 (by lia)),?_⟩;have f6:=f5.trans (g6.mono (oP (by decide)));generalize upd H5 B.q5 (.dK (bZ kv5 (.inl (k:Int)) (.int ((cH (iq S.facts k) ||| 2^x:Nat):Int))))=H6 at s6 f6⊢;have la6:=la.fr f6 JL s6.tg;obtain⟨_,ss,e7,r7⟩:=id la6.f1;obtain⟨sk,hsk⟩:∃sk,L.shapes[k]? =some sk:=⟨_,aq (by rw[la.sl];exact hk)⟩;obtain⟨vsk,hv,ivk⟩:=pO r7 hsk;refine⟨D,_,_,_,s6.ob,sc.c,sc.m0,qh B l,C,_,_,_,la6.ob,lc.c,lc.n1,lk1 A,ss,vsk,SqL.of e7,aJ hv,?_⟩;have cn:(S.keep (.is x k) st).cnt=S.cnt+6:=by show 6 * (S.facts++[_]).length+S.stand.length=_;rw[ak];show 6 * (S.facts.length+1)+_=6 * S.facts.length+_+6;lia
 cases sk with
 | no=>
   obtain rfl:vsk= .non:=ivk;refine⟨rfl,?_⟩;refine(q H6 T f6 ?_);rw[lB,cn,x8 nf (fun r c z=>by rw[hsk] at z;cases z),<-v0];exact s6.mono (by lia)
 | both i j=>
   obtain⟨pp,rfl,hpp⟩:=ivk;refine⟨rfl,?_⟩;refine(jq hpp rfl ?_);refine(q H6 T f6 ?_);rw[lB,cn,x8 nf (fun r c z=>by rw[hsk] at z;cases z),<-v0];exact s6.mono (by lia)
 | some r c=>
   obtain⟨pp,rfl,hpp⟩:=ivk;refine⟨rfl,?_⟩;refine(jq hpp rfl ?_);have hc7:c<L.parts.length:=lok.lt _ _ hsk;refine(jq hpp rfl ⟨by show 2<=sizeLine;decide,fun t7 ht7=> ?_⟩);have z7:=aj ht7 (.tup [.int (x:Int),.str r]);have s7:=s6.same z7;have h7:upd H6 t7 (.tup [.int (x:Int),.str r]) t7=some (.tup [.int (x:Int),.str r]):=upd_same;have f7:=f6.trans (Fr.of (S:=eN) (T:=T) z7);have hpp7:=z7.tups _ _ hpp;generalize upd H6 t7 (.tup [.int (x:Int),.str r])=H7 at s7 h7 f7 hpp7⊢;obtain⟨_,kv6,e8,r8,l8⟩:=id s7.s6;have w8:(cB kv6 [.inl (x:Int),.inr r]).getD (.int 0)= .int (cH (fh L.shapes S.facts x r):Nat):=by rw[r8];exact qm _ _ _
   obtain⟨g8,s8⟩:=s7.put19 (k:=[.inl (x:Int),.inr r]) (v:= .int ((cH (fh L.shapes S.facts x r) ||| 2^c:Nat):Int)) e8;refine⟨D,_,_,_,s7.ob,sc.c,sc.m7,Mx B l,.inr ⟨_,.inl e8⟩,_,DGet.t (k:=[.inl (x:Int),.inr r]) e8 h7,jq hpp7 rfl ⟨⟨by lia,by lia,by decide⟩,?_⟩⟩;rw[w8];refine Kc ⟨D,_,_,_,s7.ob,sc.c,sc.m7,Mx B l,_,.inr ⟨kv6,[.inl (x:Int),.inr r],t7,e8,rfl,h7,nH l8 (by lia),rfl⟩,q _ T (f7.trans (g8.mono (oP (by decide)))) ?_⟩;rw[lB,cn,zM nf hsk,<-v0];exact s8.mono (by lia)
end
inductive pd(D:Addr)(vs:List V)(H:Hp)(Q:VK):Prop
 | mk:∀(b l:Addr) (B:yn) (sh:List Sh) (T:Tg) (S:StI) (x y:Nat) (t:Str) (v:V) (st:sF),(vs=[.ref b,.int (x:Int),.str t,.int (y:Int),v])->(lB D B b l T H sh S)->(Fi.has x t y∉S.facts)->(x<=50000)->(y<=50000)->(S.cnt<=9900000)->(S.steps.length=S.facts.length)->(IsSt T H v st)->(∀H' T',Fr eN T T' H H'->lB D B b l T' H' sh (S.keep (.has x t y) st)->Q .non H')->pd D vs H Q
def tW(C D:Addr):Sp:=fun vs H Q _=>pd D vs H Q
section
def scKeepHas:bw ["self","x","tie","y","step","fact"] AN (aM ot):=gH
def zp(F:Fun K "keep_has" "Still.keep_has" ot f fd)(sc:uB K D)(ml:mg "len"=none):b_ P w K mg base eU 1 f fd AN (tW C D):=by
 refine F.o scKeepHas fun cdv A0 outer s0 H vs Q E hr h=> ?_;obtain⟨b,l,B,sh,T,S,x,y,t,v,st,rfl,sa,nf,hx,hy,hc,sl,ist,q⟩:=h;have hu:=fL hr;refine⟨_,ba (fR 5 scKeepHas.nd (cX (iS bf bJ cE)))
  (ba (df hu (c_ aD) ee (BR ml (c_ aD)) rfl)
  (ba (bC (DE (c_ aD) ee))
  (ba (bC (DE (c_ aD) cG))
  (ba (df hu (c_ aD) (cX (dO bf bJ)) (bF ui (pP hu (c_ aD) (cX (dO bf bJ)) aw) (bF oE aw cE)) rfl)
  (ba (df hu (c_ aD) (cX (dO cE bJ)) (bF ui (pP hu (c_ aD) (cX (dO cE bJ)) aw) (bF oE aw bf)) rfl)
  (bg (df hu (c_ aD) bJ eQ rfl))))))),?_⟩
 refine⟨by show 3<=sizeLine;decide,fun t0 ht0=> ?_⟩;have z1:=aj ht0 (.tup [.int (x:Int),.str t,.int (y:Int)]);have s1:=sa.same z1;have i1:=IsSt.fr (Fr.of (S:=eN) (T:=T) z1) ist;have h1:upd H t0 (.tup [.int (x:Int),.str t,.int (y:Int)]) t0=some (.tup [.int (x:Int),.str t,.int (y:Int)]):=upd_same;have f1:Fr eN T T H (upd H t0 (.tup [.int (x:Int),.str t,.int (y:Int)])):=Fr.of z1;generalize upd H t0 (.tup [.int (x:Int),.str t,.int (y:Int)])=H1 at s1 i1 h1 f1⊢;obtain⟨_,vs0,e0,r0⟩:=id s1.s0;obtain⟨_,kv2,e2,_,l2⟩:=id s1.s2;have v0:vs0.length=S.facts.length:=(bu r0).trans sl;obtain⟨g2,s2⟩:=s1.put15 (k:=(Fi.has x t y).key) (v:= .int (vs0.length:Nat)) e2;refine⟨D,_,_,_,s1.ob,sc.c,sc.m1,KC B l,B.q0,vs0,rfl,.inl (SqL.of e0),D,_,_,_,s1.ob,sc.c,sc.m3,C9 B l,_,.inr ⟨kv2,(Fi.has x t y).key,t0,e2,rfl,h1,nH l2 (by lia),rfl⟩,?_⟩;have i2:=IsSt.fr g2 i1;have h2:=g2.tups _ _ h1;have f2:=f1.trans (g2.mono (oP (by decide)));generalize upd H1 B.q2 (.dT (bZ kv2 (Fi.has x t y).key (.int (vs0.length:Nat))))=H2 at s2 i2 h2 f2⊢;obtain⟨_,vs1,e3,r3⟩:=id s2.s1;obtain⟨g3,s3⟩:=s2.app14 (v:= .ref t0) (f:= .has x t y) e3 ⟨t0,rfl,h2⟩;have v1:vs1.length<=S.cnt:=by rw[bu r3];show S.facts.length<=6 * S.facts.length+S.stand.length;lia
 refine⟨D,_,_,_,s2.ob,sc.c,sc.m2,Kb B l,.inl ⟨rfl,_,SqL.of e3⟩,vs1,e3,nH v1 (by lia),?_⟩;have i3:=IsSt.fr g3 i2;have f3:=f2.trans (g3.mono (oP (by decide)));generalize upd H2 B.q1 (.lst (vs1++[.ref t0]))=H3 at s3 i3 f3⊢;obtain⟨_,vs2,e4,r4⟩:=id s3.s0;obtain⟨g4,s4⟩:=s3.app13 (v:=v) (s:=st) e4 i3;have v2:vs2.length<=S.cnt:=by rw[bu r4];show S.steps.length<=6 * S.facts.length+S.stand.length;lia
 refine⟨D,_,_,_,s3.ob,sc.c,sc.m1,KC B l,.inl ⟨rfl,_,SqL.of e4⟩,vs2,e4,nH v2 (by lia),?_⟩;have f4:=f3.trans (g4.mono (oP (by decide)));generalize upd H3 B.q0 (.lst (vs2++[v]))=H4 at s4 f4⊢;obtain⟨_,kw4,e4a,r4a,l4a⟩:=id s4.s7;refine⟨D,_,_,_,s4.ob,sc.c,sc.m8,LW B l,.inr ⟨_,.inl e4a⟩,by show 2<=sizeLine;decide,fun u4 hu4=> ?_⟩;have zz4:=aj hu4 (.tup [.int (x:Int),.str t]);have s4b:=s4.same zz4;have h4b:upd H4 u4 (.tup [.int (x:Int),.str t]) u4=some (.tup [.int (x:Int),.str t]):=upd_same;have f4b:=f4.trans (Fr.of (S:=eN) (T:=T) zz4);generalize upd H4 u4 (.tup [.int (x:Int),.str t])=H4b at s4b h4b f4b⊢;obtain⟨_,kv4b,e4b,r4b,l4b⟩:=id s4b.s7;have w4b:(cB kv4b [.inl (x:Int),.inr t]).getD (.int 0)= .int (cH (eo S.facts x t):Nat):=by rw[r4b];exact qm _ _ _
 refine⟨_,DGet.t (k:=[.inl (x:Int),.inr t]) e4b h4b,⟨by lia,by lia,by decide⟩,?_⟩;rw[w4b];refine Kc ⟨D,_,_,_,s4b.ob,sc.c,sc.m8,LW B l,by show 2<=sizeLine;decide,fun w4 hw4=> ?_⟩;have zy4:=aj hw4 (.tup [.int (x:Int),.str t]);have s4c:=s4b.same zy4;have h4c:upd H4b w4 (.tup [.int (x:Int),.str t]) w4=some (.tup [.int (x:Int),.str t]):=upd_same;have f4c:=f4b.trans (Fr.of (S:=eN) (T:=T) zy4);have e4c:=zy4 _ _ e4b;generalize upd H4b w4 (.tup [.int (x:Int),.str t])=H4c at s4c h4c f4c e4c⊢;obtain⟨g5,s5⟩:=s4c.put20 (k:=[.inl (x:Int),.inr t]) (v:= .int ((cH (eo S.facts x t) ||| 2^y:Nat):Int)) e4c;refine⟨_,.inr ⟨kv4b,[.inl (x:Int),.inr t],w4,e4c,rfl,h4c,nH l4b (by lia),rfl⟩,?_⟩;have f5:=f4c.trans (g5.mono (oP (by decide)));generalize upd H4c B.q7 (.dT (bZ kv4b [.inl (x:Int),.inr t] (.int ((cH (eo S.facts x t) ||| 2^y:Nat):Int))))=H5 at s5 f5⊢;obtain⟨_,kw5,e5a,r5a,l5a⟩:=id s5.s8;refine⟨D,_,_,_,s5.ob,sc.c,sc.m9,Ka B l,.inr ⟨_,.inl e5a⟩,by show 2<=sizeLine;decide,fun u5 hu5=> ?_⟩;have zz5:=aj hu5 (.tup [.int (y:Int),.str t]);have s5b:=s5.same zz5;have h5b:upd H5 u5 (.tup [.int (y:Int),.str t]) u5=some (.tup [.int (y:Int),.str t]):=upd_same;have f5b:=f5.trans (Fr.of (S:=eN) (T:=T) zz5);generalize upd H5 u5 (.tup [.int (y:Int),.str t])=H5b at s5b h5b f5b⊢;obtain⟨_,kv5b,e5b,r5b,l5b⟩:=id s5b.s8;have w5b:(cB kv5b [.inl (y:Int),.inr t]).getD (.int 0)= .int (cH (cA S.facts y t):Nat):=by rw[r5b];exact qm _ _ _
 refine⟨_,DGet.t (k:=[.inl (y:Int),.inr t]) e5b h5b,⟨by lia,by lia,by decide⟩,?_⟩;rw[w5b];refine Kc ⟨D,_,_,_,s5b.ob,sc.c,sc.m9,Ka B l,by show 2<=sizeLine;decide,fun w5 hw5=> ?_⟩;have zy5:=aj hw5 (.tup [.int (y:Int),.str t]);have s5c:=s5b.same zy5;have h5c:upd H5b w5 (.tup [.int (y:Int),.str t]) w5=some (.tup [.int (y:Int),.str t]):=upd_same;have f5c:=f5b.trans (Fr.of (S:=eN) (T:=T) zy5);have e5c:=zy5 _ _ e5b;generalize upd H5b w5 (.tup [.int (y:Int),.str t])=H5c at s5c h5c f5c e5c⊢;obtain⟨g6,s6⟩:=s5c.put21 (k:=[.inl (y:Int),.inr t]) (v:= .int ((cH (cA S.facts y t) ||| 2^x:Nat):Int)) e5c;refine⟨_,.inr ⟨kv5b,[.inl (y:Int),.inr t],w5,e5c,rfl,h5c,nH l5b (by lia),rfl⟩,?_⟩;have f6:=f5c.trans (g6.mono (oP (by decide)));generalize upd H5c B.q8 (.dT (bZ kv5b [.inl (y:Int),.inr t] (.int ((cH (cA S.facts y t) ||| 2^x:Nat):Int))))=H6 at s6 f6⊢;obtain⟨g7,s7⟩:=s6.put22 (t:=t);refine⟨D,_,_,_,s6.ob,sc.c,sc.m10,KB B l,_,DPut.k (k:= .inr t) s6.s9.2.1 (by rw[oY];exact nH s6.s9.2.2 (by lia)),q _ T (f6.trans (g7.mono (oP (by decide)))) ?_⟩;have cn:(S.keep (.has x t y) st).cnt=S.cnt+6:=by show 6 * (S.facts++[_]).length+S.stand.length=_;rw[ak];show 6 * (S.facts.length+1)+_=6 * S.facts.length+_+6;lia
 rw[lB,cn,JM nf,<-v0];exact s7.mono (by lia)
end
structure Ev(C D:Addr)(B:yn)(A:LoA)(b l:Addr)(N:Nat)(T:Tg)(H:Hp)(L:LoI)(S:StI):Prop where
 sa:lB D B b l T H L.shapes S
 la:LoreAt C A l N T H L
 ok:L.Ok
 ex:A.ex=Fw
 hN:N<=50000
 sl:S.steps.length=S.facts.length
 p2:2<=L.parts.length
section
def Ev.next(h:Ev C D B A b l N T H L S)(f:Fr eN T T' H H')(sa:lB D B b l T' H' L.shapes S')(sl:S'.steps.length=S'.facts.length):Ev C D B A b l N T' H' L S':=⟨sa,h.la.fr f JL sa.tg,h.ok,h.ex,h.hN,sl,h.p2⟩
def Ev.same(h:Ev C D B A b l N T H L S)(s:Same H H'):Ev C D B A b l N T H' L S:=⟨StG.same h.sa s,h.la.same s,h.ok,h.ex,h.hN,h.sl,h.p2⟩
end
noncomputable def LoI.pt(L:LoI)(i:Nat):Kd:=L.parts.getD i (.nm "")
def LoI.pt_get{L:LoI}(h:i<L.parts.length):L.parts[i]? =some (L.pt i):=by
 unfold LoI.pt;rw[eO,aq h]
 rfl
noncomputable def StI.tellIs(L:LoI)(S:StI)(x k:Nat)(r:Str)(fr:List Int)(nn:Option Int):StI:=if Fi.is x k∈S.facts then S else S.keep (.is x k) ⟨.is (L.pt x) (L.pt k),r,fr,nn⟩
noncomputable def StI.addS(S:StI)(x:Nat):StI:=⟨S.steps,S.facts,S.stand++[x]⟩
noncomputable def StI.letStand(L:LoI)(S:StI)(x:Nat):StI:=if x∈S.stand then S else StI.tellIs L (if ju (L.pt x)=true then S.addS x else StI.tellIs L (S.addS x) x x "self" [] none) x 0 "all" [] none
noncomputable def StI.tellHas(L:LoI)(S:StI)(x:Nat)(t:Str)(y:Nat)(r:Str)(fr:List Int)(nn:Option Int):StI:=if Fi.has x t y∈S.facts then S else StI.letStand L (S.keep (.has x t y) ⟨.has (L.pt x) t (L.pt y),r,fr,nn⟩) y
def StI.keep_sl{S:StI}(h:S.steps.length=S.facts.length):(S.keep f st).steps.length=(S.keep f st).facts.length:=by
 show(S.steps++[st]).length=(S.facts++[f]).length;rw[ak,ak,h];rfl
def StI.keep_cnt(S:StI)(f:Fi)(st:sF):(S.keep f st).cnt=S.cnt+6:=by show 6 * (S.facts++[_]).length+S.stand.length=_;rw[ak];show 6 * (S.facts.length+1)+_=6 * S.facts.length+_+6;lia
def StI.tellIs_cnt(L:LoI)(S:StI)(x k:Nat)(r:Str)(fr:List Int)(nn:Option Int):(StI.tellIs L S x k r fr nn).cnt<=S.cnt+6:=by
 unfold StI.tellIs
 split
 · lia
 · rw[StI.keep_cnt];lia
def StI.addS_cnt(S:StI)(x:Nat):(S.addS x).cnt=S.cnt+1:=by show 6 * S.facts.length+(S.stand++[x]).length=_;rw[ak];show _+(_+1)=6 * S.facts.length+S.stand.length+1;lia
def ug(F:List Fi)(f:Fi):(Bc F f.key).isSome=decide (f∈F):=by
 by_cases h:f∈F
 · rw[xp h,ah h];rfl
 · rw[xq h,ag h];rfl
inductive lS(C D:Addr)(vs:List V)(H:Hp)(Q:VK):Prop
 | mk:∀(b l:Addr) (B:yn) (A:LoA) (N:Nat) (T:Tg) (L:LoI) (S:StI) (x k:Nat) (r:Str) (pf:Addr) (fr:List Int) (nn:Option Int),(vs=[.ref b,.int (x:Int),.int (k:Int),.str r,.ref pf,pQ nn])->(Ev C D B A b l N T H L S)->(x<L.parts.length)->(k<L.parts.length)->(S.cnt<=9900000)->(H pf=some (.lst (fr.map V.int)))->(T pf=none)->(∀H' T',Fr eN T T' H H'->Ev C D B A b l N T' H' L (StI.tellIs L S x k r fr nn)->Q .non H')->lS C D vs H Q
def gJ(C D:Addr):Sp:=fun vs H Q _=>lS C D vs H Q
inductive jv(C D:Addr)(vs:List V)(H:Hp)(Q:VK):Prop
 | mk:∀(b l:Addr) (B:yn) (A:LoA) (N:Nat) (T:Tg) (L:LoI) (S:StI) (x:Nat),(vs=[.ref b,.int (x:Int)])->(Ev C D B A b l N T H L S)->(x<L.parts.length)->(S.cnt<=9890000)->(∀H' T',Fr eN T T' H H'->Ev C D B A b l N T' H' L (StI.letStand L S x)->Q .non H')->jv C D vs H Q
def lX(C D:Addr):Sp:=fun vs H Q _=>jv C D vs H Q
inductive jV(C D:Addr)(vs:List V)(H:Hp)(Q:VK):Prop
 | mk:∀(b l:Addr) (B:yn) (A:LoA) (N:Nat) (T:Tg) (L:LoI) (S:StI) (x:Nat) (t:Str) (y:Nat) (r:Str) (pf:Addr) (fr:List Int) (nn:Option Int),(vs=[.ref b,.int (x:Int),.str t,.int (y:Int),.str r,.ref pf,pQ nn])->(Ev C D B A b l N T H L S)->(x<L.parts.length)->(y<L.parts.length)->(S.cnt<=9880000)->(H pf=some (.lst (fr.map V.int)))->(T pf=none)->(∀H' T',Fr eN T T' H H'->Ev C D B A b l N T' H' L (StI.tellHas L S x t y r fr nn)->Q .non H')->jV C D vs H Q
def jb(C D:Addr):Sp:=fun vs H Q _=>jV C D vs H Q
section
def scTellIs:bw ["self","x","kind","rule","froms","number","parts"] ni (aM qV):=gH
def BX(F:Fun K "tell_is" "Still.tell_is" qV f fd)(lc:wa K C)(sc:uB K D)(Gki:Ml P w K mg base D 1 "keep_is" AO (wR C D)):b_ P w K mg base eU 2 f fd ni (gJ C D):=by
 refine F.o scTellIs fun cdv A0 outer s0 H vs Q E hr h=> ?_;obtain⟨b,l,B,A,N,T,L,S,x,k,r,pf,fr,nn,rfl,ev,hx,hk,hc,epf,tpf,q⟩:=h;have hu:=fL hr;refine⟨_,bg (bL (eX (oF hu) (cX (dO bf bJ)) (c_ aD)) (ba (fR 6 scTellIs.nd (c_ (c_ aD))) (bg (bC (gU aD sc.c Gki hr (iS bf bJ (cX (jz (cX (iS bq (oA di eW bf) (oA di eW bJ))) cE cG ee))))))) be),?_⟩;refine⟨by show 2<=sizeLine;decide,fun t0 ht0=> ?_⟩;have z1:=aj ht0 (.tup [.int (x:Int),.int (k:Int)]);have ev1:=ev.same z1;have h1:upd H t0 (.tup [.int (x:Int),.int (k:Int)]) t0=some (.tup [.int (x:Int),.int (k:Int)]):=upd_same;have f1:Fr eN T T H (upd H t0 (.tup [.int (x:Int),.int (k:Int)])):=Fr.of z1;have epf1:=z1 _ _ epf;generalize upd H t0 (.tup [.int (x:Int),.int (k:Int)])=H1 at ev1 h1 f1 epf1⊢;obtain⟨_,kv2,e2,r2,l2⟩:=id ev1.sa.s2;have w2:(cB kv2 (Fi.is x k).key).isSome=decide (Fi.is x k∈S.facts):=by rw[r2];exact ug _ _
 refine⟨D,_,_,_,ev1.sa.ob,sc.c,sc.m3,C9 B l,B.q2,_,rfl,DGet.t (k:=(Fi.is x k).key) e2 h1,?_⟩;rw[w2];unfold StI.tellIs at q;by_cases hin:Fi.is x k∈S.facts
 · rw[ah hin];rw[aE hin] at q;exact(q H1 T f1 ev1)
 rw[ag hin];rw[aA hin] at q;obtain⟨_,ps,e3,r3⟩:=id ev1.la.f0;obtain⟨vx,hvx,ivx⟩:=pO r3 (LoI.pt_get hx);obtain⟨vk,hvk,ivk⟩:=pO r3 (LoI.pt_get hk);refine⟨D,_,_,_,ev1.sa.ob,sc.c,sc.m0,qh B l,C,_,_,_,ev1.la.ob,lc.c,lc.n0,Lb A,?_⟩;refine⟨_,_,ev1.sa.ob,yG B l,ps,vx,SqL.of e3,aJ hvx,ps,vk,SqL.of e3,aJ hvk,by show 3<=sizeLine;decide,fun t4 ht4=> ?_⟩;have z4:=aj ht4 (.tup [.str "is",vx,vk]);refine⟨by show 4<=sizeLine;decide,fun t5 ht5=> ?_⟩;have z5:=aj ht5 (.tup [.ref t4,.str r,.ref pf,pQ nn]);have z45:=z4.trans z5;have ev5:=ev1.same z45;have f5:=f1.trans (Fr.of (S:=eN) (T:=T) z45);refine⟨b,l,B,A,N,T,L,S,x,k,.ref t5,⟨.is (L.pt x) (L.pt k),r,fr,nn⟩,rfl,ev5.sa,ev5.la,ev.ok,hin,hx,hk,ev.hN,hc,ev.sl,⟨t5,pf,.ref t4,rfl,upd_same,⟨t4,vx,vk,rfl,z5 _ _ upd_same,IsK.mono z45.tups ivx,IsK.mono z45.tups ivk⟩,z45 _ _ epf1,tpf⟩,fun H6 T6 f6 s6=>q H6 T6 (f5.trans f6) (ev5.next f6 s6 (StI.keep_sl ev.sl))⟩
def yK:bw fA fA (aM md):=gH
def xx(F:Fun K "let_stand" "Still.let_stand" md f fd)(lc:wa K C)(sc:uB K D)(Gti:Ml P w K mg base D 2 "tell_is" ni (gJ C D))(Gst:Cl P w K mg base 4 "stands_for_thing" ["x"] wH):b_ P w K mg base eU 5 f fd fA (lX C D):=by
 refine F.o yK fun cdv A0 outer s0 H vs Q E hr h=> ?_;obtain⟨b,l,B,A,N,T,L,S,x,rfl,ev,hx,hc,q⟩:=h;have hu:=fL hr;refine⟨_,ba (bL (eX (mn hu) bf (c_ aD)) (bg (kL)) be)
  (ba (df hu (c_ aD) bf eQ rfl)
  (ba (bL (gi (d4 (dG Gst hr (eR (oA di (c_ (c_ aD)) bf))))) (bg (bC (gU aD sc.c Gti hr (bY bf (jz bf bq (bS cf) ej))))) be)
  (bg (bC (gU aD sc.c Gti hr (bY bf (jz (c_ (c_ aD)) bq (bS cf) ej))))))),?_⟩
 obtain⟨_,kv3,e3,r3,l3⟩:=id ev.sa.s3;have w3:cB kv3 (.inl (x:Int))=if x∈S.stand then some (.bl true) else none:=by
  rw[r3];show(if 0<=(x:Int)/\(x:Int).toNat∈S.stand then _ else _)=_;simp
 refine⟨D,_,_,_,ev.sa.ob,sc.c,sc.m4,Ny B l,B.q3,_,rfl,DGet.k (k:= .inl (x:Int)) e3,?_⟩;rw[w3];unfold StI.letStand at q;by_cases hin:x∈S.stand
 · rw[aE hin];rw[aE hin] at q;exact(q H T Fr.refl ev)
 rw[aA hin];rw[aA hin] at q;obtain⟨g1,s1⟩:=ev.sa.put16 (k:= .inl (x:Int)) (v:= .bl true) e3;refine⟨D,_,_,_,ev.sa.ob,sc.c,sc.m4,Ny B l,_,DPut.k (k:= .inl (x:Int)) e3 (nH l3 (by lia)),?_⟩;have gd1:(S.addS x).gd L.shapes={S.gd L.shapes with st:=fun j=>if j= .inl (x:Int) then some (.bl true) else(S.gd L.shapes).st j}:=by
  unfold StI.gd StI.addS;rw[<-Bn]
 have sa1:lB D B b l T (upd H B.q3 (.dK (bZ kv3 (.inl (x:Int)) (.bl true)))) L.shapes (S.addS x):=by
  rw[lB,StI.addS_cnt,gd1];exact s1
 have f1:=g1.mono (S':=eN) (oP (by decide));have ev1:Ev C D B A b l N T _ L (S.addS x):=ev.next f1 sa1 ev.sl;generalize upd H B.q3 (.dK (bZ kv3 (.inl (x:Int)) (.bl true)))=H1 at f1 ev1⊢;have c1:=StI.addS_cnt S x;obtain⟨_,ps,e4,r4⟩:=id ev1.la.f0;obtain⟨vx,hvx,ivx⟩:=pO r4 (LoI.pt_get hx);have okx:kO (L.pt x):=ev.la.gd _ (au (LoI.pt_get hx));have lnx:lg (L.pt x):=by
  cases e:L.pt x with
  | nm z=>rw[e] at okx;exact ai (gI okx).2.1 (by decide)
  | two _ _=>trivial
  | som _ _=>trivial
 have p0:0<L.parts.length:=by have:=ev.p2;lia
 have fin:∀(H2:Hp) (T2:Tg) (S2:StI),Fr eN T T2 H H2->Ev C D B A b l N T2 H2 L S2->S2.cnt<=S.cnt+7->(∀H' T',Fr eN T T' H H'->Ev C D B A b l N T' H' L (StI.tellIs L S2 x 0 "all" [] none)->Q .non H')->∀pf,H2 pf=none->gJ C D [.ref b,.int (x:Int),.int 0,.str "all",.ref pf,.non] (upd H2 pf (.lst [])) (fun _ H'=>Q .non H') E0:=fun H2 T2 S2 f2 ev2 c2 q2 pf hpf=>
  ⟨b,l,B,A,N,T2,L,S2,x,0,"all",pf,[],none,rfl,ev2.same (aj hpf _),hx,p0,by lia,upd_same,ev2.sa.tg.free hpf,fun H3 T3 f3 ev3=>q2 H3 T3 ((f2.trans (Fr.of (aj hpf _))).trans f3) ev3⟩
 refine⟨D,_,_,_,ev1.sa.ob,sc.c,sc.m0,qh B l,C,_,_,_,ev1.la.ob,lc.c,lc.n0,Lb A,ps,vx,SqL.of e4,aJ hvx,vx,L.pt x,rfl,ivx,lnx,fun H2 z2=> ?_⟩;have ev2:=ev1.same z2;have f2:=f1.trans (Fr.of (S:=eN) (T:=T) z2);cases hst:ju (L.pt x) with
 | true=>
   rw[aE hst] at q;refine⟨_,_,ev2.sa.ob,dq B l,D,_,_,_,ev2.sa.ob,sc.c,sc.m0,qh B l,C,_,_,_,ev2.la.ob,lc.c,lc.n13,K9 ev.ex,av _,fun pf hpf=> ?_⟩;exact fin H2 T _ f2 ev2 (by lia) q pf hpf
 | false=>
   rw[aA (by rw[hst];exact aO)] at q;refine⟨_,_,ev2.sa.ob,dq B l,av _,fun pf hpf=> ?_⟩;refine⟨b,l,B,A,N,T,L,S.addS x,x,x,"self",pf,[],none,rfl,ev2.same (aj hpf _),hx,hx,by lia,upd_same,ev2.sa.tg.free hpf,fun H3 T3 f3 ev3=> ?_⟩;have f3':=(f2.trans (Fr.of (S:=eN) (T:=T) (aj hpf (.lst [])))).trans f3;have c3:=StI.tellIs_cnt L (S.addS x) x x "self" [] none;refine⟨_,_,ev3.sa.ob,dq B l,D,_,_,_,ev3.sa.ob,sc.c,sc.m0,qh B l,C,_,_,_,ev3.la.ob,lc.c,lc.n13,K9 ev.ex,av _,fun pf' hpf'=> ?_⟩;exact fin H3 T3 _ f3' ev3 (by lia) q pf' hpf'
def scTellHas:bw ["self","x","tie","y","rule","froms","number","parts"] qZ (aM oq):=gH
def zm(F:Fun K "tell_has" "Still.tell_has" oq f fd)(lc:wa K C)(sc:uB K D)(Gkh:Ml P w K mg base D 1 "keep_has" AN (tW C D))(Gls:Ml P w K mg base D 5 "let_stand" fA (lX C D)):b_ P w K mg base eU 6 f fd qZ (jb C D):=by
 refine F.o scTellHas fun cdv A0 outer s0 H vs Q E hr h=> ?_;obtain⟨b,l,B,A,N,T,L,S,x,t,y,r,pf,fr,nn,rfl,ev,hx,hy,hc,epf,tpf,q⟩:=h;have hu:=fL hr;refine⟨_,bg (bL (eX (oF hu) (cX (iS bf bJ cE)) (c_ aD)) (ba (fR 7 scTellHas.nd (c_ (c_ aD))) (ba (bC (gU aD sc.c Gkh hr (jz bf bJ cE (cX (jz (cX (jz bq (oA di jh bf) bJ (oA di jh cE))) cG ee eW))))) (bg (bC (gU aD sc.c Gls hr (eR cE)))))) be),?_⟩;refine⟨by show 3<=sizeLine;decide,fun t0 ht0=> ?_⟩;have z1:=aj ht0 (.tup [.int (x:Int),.str t,.int (y:Int)]);have ev1:=ev.same z1;have h1:upd H t0 (.tup [.int (x:Int),.str t,.int (y:Int)]) t0=some (.tup [.int (x:Int),.str t,.int (y:Int)]):=upd_same;have f1:Fr eN T T H (upd H t0 (.tup [.int (x:Int),.str t,.int (y:Int)])):=Fr.of z1;have epf1:=z1 _ _ epf;generalize upd H t0 (.tup [.int (x:Int),.str t,.int (y:Int)])=H1 at ev1 h1 f1 epf1⊢;obtain⟨_,kv2,e2,r2,l2⟩:=id ev1.sa.s2;have w2:(cB kv2 (Fi.has x t y).key).isSome=decide (Fi.has x t y∈S.facts):=by rw[r2];exact ug _ _
 refine⟨D,_,_,_,ev1.sa.ob,sc.c,sc.m3,C9 B l,B.q2,_,rfl,DGet.t (k:=(Fi.has x t y).key) e2 h1,?_⟩;rw[w2];unfold StI.tellHas at q;by_cases hin:Fi.has x t y∈S.facts
 · rw[ah hin];rw[aE hin] at q;exact(q H1 T f1 ev1)
 rw[ag hin];rw[aA hin] at q;obtain⟨_,ps,e3,r3⟩:=id ev1.la.f0;obtain⟨vx,hvx,ivx⟩:=pO r3 (LoI.pt_get hx);obtain⟨vy,hvy,ivy⟩:=pO r3 (LoI.pt_get hy);refine⟨D,_,_,_,ev1.sa.ob,sc.c,sc.m0,qh B l,C,_,_,_,ev1.la.ob,lc.c,lc.n0,Lb A,?_⟩;refine⟨_,_,ev1.sa.ob,wX B l,ps,vx,SqL.of e3,aJ hvx,ps,vy,SqL.of e3,aJ hvy,by show 4<=sizeLine;decide,fun t4 ht4=> ?_⟩;have z4:=aj ht4 (.tup [.str "has",vx,.str t,vy]);refine⟨by show 4<=sizeLine;decide,fun t5 ht5=> ?_⟩;have z5:=aj ht5 (.tup [.ref t4,.str r,.ref pf,pQ nn]);have z45:=z4.trans z5;have ev5:=ev1.same z45;have f5:=f1.trans (Fr.of (S:=eN) (T:=T) z45);have lle:=ev.la.le;have hN:=ev.hN;refine⟨b,l,B,L.shapes,T,S,x,y,t,.ref t5,⟨.has (L.pt x) t (L.pt y),r,fr,nn⟩,rfl,ev5.sa,hin,by lia,by lia,by lia,ev.sl,⟨t5,pf,.ref t4,rfl,upd_same,⟨t4,vx,vy,rfl,z5 _ _ upd_same,IsK.mono z45.tups ivx,IsK.mono z45.tups ivy⟩,z45 _ _ epf1,tpf⟩,fun H6 T6 f6 s6=> ?_⟩;have ev6:=ev5.next f6 s6 (StI.keep_sl ev.sl);have c6:=StI.keep_cnt S (.has x t y) ⟨.has (L.pt x) t (L.pt y),r,fr,nn⟩;exact⟨_,_,ev6.sa.ob,mZ B l,b,l,B,A,N,T6,L,_,y,rfl,ev6,hy,by lia,fun H7 T7 f7 ev7=>q H7 T7 ((f5.trans f6).trans f7) ev7⟩
end
def Fi.rg(n:Nat)(ts:List Str):Fi->Prop
 | .is x k=>x<n/\k<n
 | .has x t y=>x<n/\t∈ts/\y<n
structure Wf(n:Nat)(ts:List Str)(S:StI):Prop where
 nd:S.facts.Nodup
 rg:∀f∈S.facts,f.rg n ts
 sd:S.stand.Nodup
 sr:∀i∈S.stand,i<n
 st0:∀i∈S.stand,Fi.is i 0∈S.facts
 hs:∀x t y,Fi.has x t y∈S.facts->y∈S.stand
noncomputable def yj(n:Nat)(ts:List Str):List Fi:=((List.range n).flatMap fun x=>(List.range n).map fun k=>Fi.is x k)++ts.flatMap fun t=>(List.range n).flatMap fun x=>(List.range n).map fun y=>Fi.has x t y
def GA(h:f.rg n ts):f∈yj n ts:=by
 unfold yj;cases f with
 | is x k=>exact aS _ (CC.mpr ⟨x,cv.mpr h.1,bK.mpr ⟨k,cv.mpr h.2,rfl⟩⟩)
 | has x t y=>exact aR _ (CC.mpr ⟨t,h.2.1,CC.mpr ⟨x,cv.mpr h.1,bK.mpr ⟨y,cv.mpr h.2.2,rfl⟩⟩⟩)
theorem nJ{α β:Type}{f:α->List β}:∀{l:List α},(∀x∈l,(f x).length=n)->(l.flatMap f).length=l.length * n
 | [],_=>by simp
 | x::l,h=>by
   rw[List.flatMap_cons,ak,h x aL,nJ fun y hy=>h y (aG _ hy),bj,Nat.add_mul,Nat.one_mul,Nat.add_comm]
def GF(n:Nat)(ts:List Str):(yj n ts).length=n * n+ts.length * (n * n):=by
 unfold yj;rw[ak,nJ (n:=n) (fun x _=>by simp),d6,nJ (n:=n * n) (fun t _=>by rw[nJ (n:=n) (fun x _=>by simp),d6])]
theorem rB{α:Type}[DecidableEq α]:∀{l m:List α},l.Nodup->(∀x∈l,x∈m)->l.length<=m.length
 | [],_,_,_=>av _
 | x::l,m,nd,h=>by
   have hx:=h x aL;have:=rB (l:=l) (m:=m.erase x) (de.mp nd).2 fun y hy=>by
    have ne:y≠x:=fun e=>(de.mp nd).1 (by rw[<-e];exact hy);exact(List.mem_erase_of_ne ne).mpr (h y (aG _ hy))
   rw[List.length_erase_of_mem hx] at this;have pos:0<m.length:=List.length_pos_of_mem hx;rw[bj];lia
noncomputable def gA(n:Nat)(ts:List Str):Nat:=6 * (n * n+ts.length * (n * n))+n
def Wf.cnt(w:Wf n ts S):S.cnt<=gA n ts:=by
 have h1:S.facts.length<=(yj n ts).length:=rB w.nd fun f hf=>GA (w.rg f hf);have h2:S.stand.length<=(List.range n).length:=rB w.sd fun i hi=>cv.mpr (w.sr i hi);rw[GF] at h1;rw[d6] at h2;unfold StI.cnt gA
 lia
def jA{α:Type}{l:List α}{x:α}(h:l.Nodup)(hx:x∉l):(l++[x]).Nodup:=by
 rw[mK];exact⟨h,by simp,fun y hy z hz=>by rw[show z=x by simpa using hz];exact fun e=>hx (by rw[<-e];exact hy)⟩
section
def Wf.tellIs{n:Nat}{ts:List Str}{S:StI}{L:LoI}(w:Wf n ts S){x k:Nat}(hx:x<n)(hk:k<n)(r:Str)(fr:List Int)(nn:Option Int):Wf n ts (StI.tellIs L S x k r fr nn):=by
 unfold StI.tellIs
 split
 · exact w
 · rename_i h;have mem:∀{f},f∈S.facts->f∈S.facts++[Fi.is x k]:=fun hf=>aS _ hf;refine⟨jA w.nd h,fun f hf=> ?_,w.sd,w.sr,fun i hi=>mem (w.st0 i hi),fun a t y hf=> ?_⟩
   · rcases ay.mp hf with hf | hf
     · exact w.rg f hf
     · rw[af.mp hf];exact⟨hx,hk⟩
   · rcases ay.mp hf with hf | hf
     · exact w.hs a t y hf
     · cases af.mp hf
def dm(L:LoI)(S:StI)(x k:Nat)(r:Str)(fr:List Int)(nn:Option Int):(∀f∈S.facts,f∈(StI.tellIs L S x k r fr nn).facts)/\(StI.tellIs L S x k r fr nn).stand=S.stand/\Fi.is x k∈(StI.tellIs L S x k r fr nn).facts:=by
 unfold StI.tellIs
 split
 · rename_i h;exact⟨fun f hf=>hf,rfl,h⟩
 · exact⟨fun f hf=>aS _ hf,rfl,by show _∈S.facts++[_];simp⟩
def Wf.letStand'(nd:S.facts.Nodup)(rg:∀f∈S.facts,f.rg n ts)(sd:S.stand.Nodup)(sr:∀i∈S.stand,i<n)(st0:∀i∈S.stand,Fi.is i 0∈S.facts)(hs:∀a t y,Fi.has a t y∈S.facts->y∈S.stand\/y=x)(hx:x<n)(h0:0<n):Wf n ts (StI.letStand L S x):=by
 have isf:∀{S1:StI} {a k:Nat} {r:Str},S1.facts.Nodup/\(∀f∈S1.facts,f.rg n ts)/\S1.stand=S.stand++[x]/\(∀f∈S.facts,f∈S1.facts)/\(∀a t y,Fi.has a t y∈S1.facts->Fi.has a t y∈S.facts)->a<n->k<n->(StI.tellIs L S1 a k r [] none).facts.Nodup/\(∀f∈(StI.tellIs L S1 a k r [] none).facts,f.rg n ts)/\(StI.tellIs L S1 a k r [] none).stand=S.stand++[x]/\(∀f∈S.facts,f∈(StI.tellIs L S1 a k r [] none).facts)/\(∀a' t y,Fi.has a' t y∈(StI.tellIs L S1 a k r [] none).facts->Fi.has a' t y∈S.facts):=fun {S1 a k r} ⟨h1,h2,h3,h4,h5⟩ ha hk=>by
  unfold StI.tellIs
  split
  · exact⟨h1,h2,h3,h4,h5⟩
  · rename_i h;refine⟨jA h1 h,fun f hf=> ?_,h3,fun f hf=>aS _ (h4 f hf),fun a' t y hf=> ?_⟩
    · rcases ay.mp hf with hf | hf
      · exact h2 f hf
      · rw[af.mp hf];exact⟨ha,hk⟩
    · rcases ay.mp hf with hf | hf
      · exact h5 a' t y hf
      · cases af.mp hf
 unfold StI.letStand
 split
 · rename_i h;refine⟨nd,rg,sd,sr,st0,fun a t y hf=>(hs a t y hf).elim id fun e=>by rw[e];exact h⟩
 · rename_i h;have b0:(S.addS x).facts.Nodup/\(∀f∈(S.addS x).facts,f.rg n ts)/\(S.addS x).stand=S.stand++[x]/\(∀f∈S.facts,f∈(S.addS x).facts)/\(∀a t y,Fi.has a t y∈(S.addS x).facts->Fi.has a t y∈S.facts):=⟨nd,rg,rfl,fun f hf=>hf,fun _ _ _ hf=>hf⟩;have fin:∀{S2:StI},S2.facts.Nodup/\(∀f∈S2.facts,f.rg n ts)/\S2.stand=S.stand++[x]/\(∀f∈S.facts,f∈S2.facts)/\(∀a t y,Fi.has a t y∈S2.facts->Fi.has a t y∈S.facts)->Wf n ts (StI.tellIs L S2 x 0 "all" [] none):=fun {S2} b2=>by
    obtain⟨h1,h2,h3,h4,h5⟩:=isf (r:="all") b2 hx h0;have h6:=(dm L S2 x 0 "all" [] none).2.2;refine⟨h1,h2,by rw[h3];exact jA sd h,fun i hi=> ?_,fun i hi=> ?_,fun a t y hf=> ?_⟩
    · rw[h3] at hi;rcases ay.mp hi with hi | hi
      · exact sr i hi
      · rw[af.mp hi];exact hx
    · rw[h3] at hi;rcases ay.mp hi with hi | hi
      · exact h4 _ (st0 i hi)
      · rw[af.mp hi];exact h6
    · rw[h3];rcases hs a t y (h5 a t y hf) with z | z
      · exact aS _ z
      · rw[z];simp
   split
   · exact fin b0
   · exact fin (isf (r:="self") b0 hx hx)
def Wf.letStand{n:Nat}{ts:List Str}{S:StI}{L:LoI}(w:Wf n ts S){x:Nat}(hx:x<n):Wf n ts (StI.letStand L S x):=Wf.letStand' w.nd w.rg w.sd w.sr w.st0 (fun a t y h=> .inl (w.hs a t y h)) hx (bO (av _) hx)
def Wf.tellHas{n:Nat}{ts:List Str}{S:StI}{L:LoI}(w:Wf n ts S){x y:Nat}{t:Str}(hx:x<n)(ht:t∈ts)(hy:y<n)(r:Str)(fr:List Int)(nn:Option Int):Wf n ts (StI.tellHas L S x t y r fr nn):=by
 unfold StI.tellHas
 split
 · exact w
 · rename_i h;refine Wf.letStand' (jA w.nd h) (fun f hf=> ?_) w.sd w.sr (fun i hi=>aS _ (w.st0 i hi)) (fun a s z hf=> ?_) hy (bO (av _) hy)
   · rcases ay.mp hf with hf | hf
     · exact w.rg f hf
     · rw[af.mp hf];exact⟨hx,ht,hy⟩
   · rcases ay.mp hf with hf | hf
     · exact .inl (w.hs a s z hf)
     · cases af.mp hf;exact .inr rfl
end
structure LoI.Wd(L:LoI)(ts:List Str):Prop where
 ev:∀k,∀e∈L.everys k,e.1<L.parts.length
 no:∀k,∀e∈L.nos k,e.1<L.parts.length
 wi:∀r,∀e∈L.withins r,e.1∈ts
 m1:∀r,∀e∈L.mk1 r,e.2.1∈ts
 m2:∀r,∀e∈L.mk2 r,e.2.1∈ts
 bo:∀k,∀e∈L.boths k,e.1<L.parts.length/\e.2.1<L.parts.length
 so:∀k,∀e∈L.somes k,e.2<L.parts.length
 fi:∀(r:Str) (m i:Nat),L.fillers r=some m->m.testBit i=true->∃k,L.wholes r i=some k/\k<L.parts.length/\i<L.parts.length
 sh:∀(i:Nat) (r:Str) (j:Nat),L.shapes[i]? =some (Sh.some r j)->r∈ts
structure Ew(C D:Addr)(B:yn)(A:LoA)(b l:Addr)(N:Nat)(T:Tg)(H:Hp)(L:LoI)(ts:List Str)(S:StI):Prop where
 ev:Ev C D B A b l N T H L S
 wf:Wf L.parts.length ts S
 wd:L.Wd ts
 bd:gA L.parts.length ts<=9800000
section
def Ew.same(h:Ew C D B A b l N T H L ts S)(s:Same H H'):Ew C D B A b l N T H' L ts S:=⟨h.ev.same s,h.wf,h.wd,h.bd⟩
def Ew.cnt(h:Ew C D B A b l N T H L ts S):S.cnt<=9800000:=ai h.wf.cnt h.bd
end
def jr{α:Type}{R:Hp->V->α->Prop}(m:Mo R){H:Hp}{T:Tg}{i n:Nat}{p:Addr}{f:Key->List α}(h:FTb R H T i p f n)(tg:TgOk T H){g:Addr}(hg:H g=none)(k:Key):∃kvs q vs,upd H g (.lst []) p=some (.dK kvs)/\(cB kvs k).getD (.ref g)= .ref q/\upd H g (.lst []) q=some (.lst vs)/\Paired (R (upd H g (.lst []))) vs (f k)/\∀{S:List Nat} {T':Tg} {H':Hp},Fr S T T' (upd H g (.lst [])) H'->i∉S->H' q=some (.lst vs):=by
 have s:=aj hg (.lst []);obtain⟨t,kvs,e,l,ll,r⟩:=h;refine⟨kvs,?_⟩;rcases r k with⟨z,z'⟩ | ⟨q,vs,z1,z2,z3,z4⟩
 · refine⟨g,[],s _ _ e,by rw[z];rfl,upd_same,by rw[z'];exact .nil,fun {S T' H'} fr hi=>(Fr.free fr upd_same (tg.free hg)).2⟩
 · exact⟨q,vs,s _ _ e,by rw[z1];rfl,s _ _ z3,F5 m s.tups z4,fun {S T' H'} fr hi=>fr.at hi z2 (s _ _ z3)⟩
noncomputable def StI.fromKind(L:LoI)(S:StI)(at' x k:Nat):StI:=
 let S1:=(L.everys k).foldl (fun S e=>StI.tellIs L S x e.1 "every" [(at':Int)] (some e.2)) S
 match L.shapes[k]? with
 | some (.both i j)=>StI.tellIs L (StI.tellIs L S1 x i "first" [(at':Int)] none) x j "second" [(at':Int)] none
 | some (.some r j)=>StI.tellHas L S1 x r j "some" [(at':Int)] none
 | _=>S1
def Ew.tell(h:Ew C D B A b l N T H L ts S)(ev:Ev C D B A b l N T' H' L S')(w:Wf L.parts.length ts S'):Ew C D B A b l N T' H' L ts S':=⟨ev,w,h.wd,h.bd⟩
def gG(ew:Ew C D B A b l N T H L ts S)(hx:x<L.parts.length)(hk:k<L.parts.length)(epf:H pf=some (.lst (fr.map V.int)))(tpf:T pf=none)(q:∀H' T',Fr eN T T' H H'->Ew C D B A b l N T' H' L ts (StI.tellIs L S x k r fr nn)->Q .non H'):lS C D [.ref b,.int (x:Int),.int (k:Int),.str r,.ref pf,pQ nn] H Q:=⟨b,l,B,A,N,T,L,S,x,k,r,pf,fr,nn,rfl,ew.ev,hx,hk,ai ew.cnt (by decide),epf,tpf,fun H' T' f ev=>q H' T' f (ew.tell ev (ew.wf.tellIs hx hk r fr nn))⟩
def jT(ew:Ew C D B A b l N T H L ts S)(hx:x<L.parts.length)(ht:t∈ts)(hy:y<L.parts.length)(epf:H pf=some (.lst (fr.map V.int)))(tpf:T pf=none)(q:∀H' T',Fr eN T T' H H'->Ew C D B A b l N T' H' L ts (StI.tellHas L S x t y r fr nn)->Q .non H'):jV C D [.ref b,.int (x:Int),.str t,.int (y:Int),.str r,.ref pf,pQ nn] H Q:=⟨b,l,B,A,N,T,L,S,x,t,y,r,pf,fr,nn,rfl,ew.ev,hx,hy,ai ew.cnt (by decide),epf,tpf,fun H' T' f ev=>q H' T' f (ew.tell ev (ew.wf.tellHas hx ht hy r fr nn))⟩
def vN(f:Nat->List α)(k:Nat):kN f (.inl (k:Int))=f k:=by
 show(if 0<=(k:Int) then f (k:Int).toNat else [])=_;rw[aE (by lia),cz]
def du{α:Type}(g:StI->α->StI)(S:StI){l:List α}{i:Nat}{x:α}(h:l[i]? =some x):(l.take (i+1)).foldl g S=g ((l.take i).foldl g S) x:=by
 rw[bx,h,e_];rfl
inductive mV(C D:Addr)(vs:List V)(H:Hp)(Q:VK):Prop
 | mk:∀(b l:Addr) (B:yn) (A:LoA) (N:Nat) (T:Tg) (L:LoI) (ts:List Str) (S:StI) (at' x k:Nat),(vs=[.ref b,.int (at':Int),.int (x:Int),.int (k:Int)])->(Ew C D B A b l N T H L ts S)->(x<L.parts.length)->(k<L.parts.length)->(∀H' T',Fr eN T T' H H'->Ew C D B A b l N T' H' L ts (StI.fromKind L S at' x k)->Q .non H')->mV C D vs H Q
def qP(C D:Addr):Sp:=fun vs H Q _=>mV C D vs H Q
section
def scFK:bw ["self","at","x","kind","other","number","form","first","second"] pC (aM mf):=gH
def xy(F:Fun K "from_kind" "Still.from_kind" mf f fd)(lc:wa K C)(sc:uB K D)(Gti:Ml P w K mg base D 2 "tell_is" ni (gJ C D))(Gth:Ml P w K mg base D 6 "tell_has" qZ (jb C D)):b_ P w K mg base eU 7 f fd pC (qP C D):=by
 refine F.o scFK fun cdv A0 outer s0 H vs Q E hr h=> ?_;obtain⟨b,l,B,A,N,T,L,ts,S,at',x,k,rfl,ew,hx,hk,q⟩:=h;have hu:=fL hr;refine⟨_,j0 (lO (bT (pP hu (c_ (c_ aD)) cE (bS cf))) (eY rfl (bG (eV 4 scFK.nd) (bG (eV 5 scFK.nd) dX))) (bg (bC (gU aD sc.c Gti hr (bY bJ (jz cG bq (bS (eR bf)) ee))))))
  (ba (bL (eX vr (oA di (c_ (c_ aD)) cE) ej) (bg (kL)) be)
  (ba (iP (oA di (c_ (c_ aD)) cE) (eY rfl (bG (eV 6 scFK.nd) (bG (eV 7 scFK.nd) (bG (eV 8 scFK.nd) dX)))))
  (bg (bL (eX cT eW bq) (ba (bC (gU aD sc.c Gti hr (bY bJ (jz jh bq (bS (eR bf)) ej)))) (bg (bC (gU aD sc.c Gti hr (bY bJ (jz m_ bq (bS (eR bf)) ej)))))) (bg (bC (gU aD sc.c Gth hr (bY bJ (bY jh (jz m_ bq (bS (eR bf)) ej)))))))))),?_⟩
 refine⟨fun σ H'=>∃(o4 o5 o6 o7 o8:Option V) (T':Tg),σ=[some (.ref b),some (.int (at':Int)),some (.int (x:Int)),some (.int (k:Int)),o4,o5,o6,o7,o8]/\Fr eN T T' H H'/\Ew C D B A b l N T' H' L ts ((L.everys k).foldl (fun S e=>StI.tellIs L S x e.1 "every" [(at':Int)] (some e.2)) S),?_,?_⟩
 · refine⟨D,_,_,_,ew.ev.sa.ob,sc.c,sc.m0,qh B l,C,_,_,_,ew.ev.la.ob,lc.c,lc.n4,NG A,.inl ⟨_,.inl (id ew.ev.la.f4).2.choose_spec.1⟩,av _,fun g0 hg0=> ?_⟩;obtain⟨kvs,qq,vs,ep,eg,eq,rv,stay⟩:=jr e2_mo ew.ev.la.f4 ew.ev.la.tg hg0 (.inl (k:Int));rw[vN] at rv;have z1:=aj hg0 (.lst []);have ew1:=ew.same z1;have f1:Fr eN T T H (upd H g0 (.lst [])):=Fr.of z1;generalize upd H g0 (.lst [])=H1 at ep eq rv stay ew1 f1⊢;refine⟨_,DGet.k (k:= .inl (k:Int)) ep,?_⟩;rw[eg];have lv:=bu rv;refine⟨⟨_,SqL.of eq⟩,ck (xs:=vs) (fun i σ H2=>∃(o4 o5:Option V) (T2:Tg),σ=[some (.ref b),some (.int (at':Int)),some (.int (x:Int)),some (.int (k:Int)),o4,o5,none,none,none]/\Fr eN T T2 H1 H2/\Ew C D B A b l N T2 H2 L ts (((L.everys k).take i).foldl (fun S e=>StI.tellIs L S x e.1 "every" [(at':Int)] (some e.2)) S)) ⟨none,none,T,rfl,Fr.refl,ew1⟩ ?_ ?_ ?_⟩
   · rintro i σ H2 _ ⟨o4,o5,T2,rfl,f2,_⟩;exact SqL.of (stay f2 (by decide))
   · rintro i y σ H2 hy ⟨o4,o5,T2,rfl,f2,ew2⟩;obtain⟨e,he,t0,rfl,ht⟩:=dt rv hy;have hin:=au he;refine⟨_,SqT.of (f2.tups _ _ ht),rfl,?_⟩;refine⟨_,_,ew2.ev.sa.ob,dq B l,by show 1<=sizeLine;decide,fun pf hpf=> ?_⟩;have z3:=aj hpf (.lst [.int (at':Int)]);refine gG (nn:=some e.2) (fr:=[(at':Int)]) (ew2.same z3) hx (ew.wd.ev k e hin) upd_same (ew2.ev.sa.tg.free hpf) fun H4 T4 f4 ew4=>⟨_,_,T4,rfl,(f2.trans (Fr.of z3)).trans f4,?_⟩;rw[du _ _ he];exact ew4
   · rintro σ H2 ⟨o4,o5,T2,rfl,f2,ew2⟩;rw[lv,aY] at ew2;exact⟨o4,o5,none,none,none,T2,rfl,f1.trans f2,ew2⟩
 rintro σ H' ⟨o4,o5,o6,o7,o8,T',rfl,fr,ew1⟩;unfold StI.fromKind at q;dsimp only at q;generalize (L.everys k).foldl (fun S e=>StI.tellIs L S x e.1 "every" [(at':Int)] (some e.2)) S=S1 at ew1 q;obtain⟨_,ss,e7,r7⟩:=id ew1.ev.la.f1;obtain⟨sk,hsk⟩:∃sk,L.shapes[k]? =some sk:=⟨_,aq (by rw[ew.ev.la.sl];exact hk)⟩;obtain⟨vsk,hv,ivk⟩:=pO r7 hsk;rw[hsk] at q;have slt:=ew.ev.ok.lt _ _ hsk;refine⟨D,_,_,_,ew1.ev.sa.ob,sc.c,sc.m0,qh B l,C,_,_,_,ew1.ev.la.ob,lc.c,lc.n1,lk1 A,ss,vsk,SqL.of e7,aJ hv,rfl,?_⟩;cases sk with
 | no=>
   obtain rfl:vsk= .non:=ivk;exact(q H' T' fr ew1)
 | both i j=>
   obtain⟨pp,rfl,hpp⟩:=ivk;refine⟨D,_,_,_,ew1.ev.sa.ob,sc.c,sc.m0,qh B l,C,_,_,_,ew1.ev.la.ob,lc.c,lc.n1,lk1 A,ss,_,SqL.of e7,aJ hv,_,SqT.of hpp,rfl,?_⟩;refine⟨_,_,ew1.ev.sa.ob,dq B l,by show 1<=sizeLine;decide,fun pf hpf=> ?_⟩;have z3:=aj hpf (.lst [.int (at':Int)]);refine gG (nn:=none) (fr:=[(at':Int)]) (ew1.same z3) hx slt.1 upd_same (ew1.ev.sa.tg.free hpf) fun H4 T4 f4 ew4=> ?_;refine⟨_,_,ew4.ev.sa.ob,dq B l,by show 1<=sizeLine;decide,fun pf' hpf'=> ?_⟩;have z5:=aj hpf' (.lst [.int (at':Int)]);exact gG (nn:=none) (fr:=[(at':Int)]) (ew4.same z5) hx slt.2 upd_same (ew4.ev.sa.tg.free hpf') fun H6 T6 f6 ew6=>q H6 T6 ((((fr.trans (Fr.of z3)).trans f4).trans (Fr.of z5)).trans f6) ew6
 | some r j=>
   obtain⟨pp,rfl,hpp⟩:=ivk;refine⟨D,_,_,_,ew1.ev.sa.ob,sc.c,sc.m0,qh B l,C,_,_,_,ew1.ev.la.ob,lc.c,lc.n1,lk1 A,ss,_,SqL.of e7,aJ hv,_,SqT.of hpp,rfl,?_⟩;refine⟨_,_,ew1.ev.sa.ob,gL B l,by show 1<=sizeLine;decide,fun pf hpf=> ?_⟩;have z3:=aj hpf (.lst [.int (at':Int)]);exact jT (nn:=none) (fr:=[(at':Int)]) (ew1.same z3) hx (ew.wd.sh _ _ _ hsk) slt upd_same (ew1.ev.sa.tg.free hpf) fun H4 T4 f4 ew4=>q H4 T4 ((fr.trans (Fr.of z3)).trans f4) ew4
end
noncomputable def DH(i j:Int)(b:Bool):List Int:=if b then [i,j] else [j,i]
def xu(i j:Int)(b:Bool):xw i j b=(DH i j b).map V.int:=by cases b<;>rfl
noncomputable def StI.byNo(L:LoI)(at' x:Nat)(S:StI)(e:Nat × Int × Bool):StI:=if Fi.is x e.1∈S.facts then StI.tellIs L S x 1 "no" (DH (at':Int) (S.facts.idxOf (.is x e.1):Nat) e.2.2) (some e.2.1) else S
noncomputable def StI.byBoth(L:LoI)(at' x:Nat)(S:StI)(e:Nat × Nat × Bool):StI:=if Fi.is x e.1∈S.facts then StI.tellIs L S x e.2.1 "both" (DH (at':Int) (S.facts.idxOf (.is x e.1):Nat) e.2.2) none else S
noncomputable def StI.fromPairs(L:LoI)(S:StI)(at' x k:Nat):StI:=(L.boths k).foldl (StI.byBoth L at' x) ((L.nos k).foldl (StI.byNo L at' x) S)
def j4(sa:lB D B b l T H sh S)(f:Fi):∃kvs,H B.q2=some (.dT kvs)/\cB kvs f.key=if f∈S.facts then some (.int (S.facts.idxOf f:Nat)) else none:=by
 obtain⟨_,kvs,e,r,_⟩:=id sa.s2;refine⟨kvs,e,?_⟩;rw[r];show Bc S.facts f.key=_
 split
 · rename_i h;exact xp h
 · rename_i h;exact xq h
inductive lJ(C D:Addr)(vs:List V)(H:Hp)(Q:VK):Prop
 | mk:∀(b l:Addr) (B:yn) (A:LoA) (N:Nat) (T:Tg) (L:LoI) (ts:List Str) (S:StI) (at' x k:Nat),(vs=[.ref b,.int (at':Int),.int (x:Int),.int (k:Int)])->(Ew C D B A b l N T H L ts S)->(x<L.parts.length)->(∀H' T',Fr eN T T' H H'->Ew C D B A b l N T' H' L ts (StI.fromPairs L S at' x k)->Q .non H')->lJ C D vs H Q
def ph(C D:Addr):Sp:=fun vs H Q _=>lJ C D vs H Q
section
def scFP:bw ["self","at","x","kind","other","number","is_first","froms","whole"] pC (aM jZ):=gH
def vw(F:Fun K "from_pairs" "Still.from_pairs" jZ f fd)(lc:wa K C)(sc:uB K D)(Gti:Ml P w K mg base D 2 "tell_is" ni (gJ C D))(Gio:Cl P w K mg base 1 "in_order" xi Ht):b_ P w K mg base eU 3 f fd pC (ph C D):=by
 refine F.o scFP fun cdv A0 outer s0 H vs Q E hr h=> ?_;obtain⟨b,l,B,A,N,T,L,ts,S,at',x,k,rfl,ew,hx,q⟩:=h;have hu:=fL hr;refine⟨_,j0 (lO (bT (pP hu (c_ (c_ aD)) cE (bS cf))) (eY rfl (bG (eV 4 scFP.nd) (bG (eV 5 scFP.nd) (bG (eV 6 scFP.nd) dX)))) (bg (bL (eX (mn hu) (cX (dO bJ cG)) (c_ aD)) (ba (fR 7 scFP.nd (dG Gio hr (iS bf (wg hu (c_ aD) (cX (dO bJ cG))) eW))) (bg (bC (gU aD sc.c Gti hr (bY bJ (jz (c_ (c_ aD)) bq jh ee)))))) be)))
  (bg (lO (bT (pP hu (c_ (c_ aD)) cE (bS cf))) (eY rfl (bG (eV 4 scFP.nd) (bG (eV 8 scFP.nd) (bG (eV 6 scFP.nd) dX)))) (bg (bL (eX (mn hu) (cX (dO bJ cG)) (c_ aD)) (bg (bC (gU aD sc.c Gti hr (bY bJ (jz m_ bq (dG Gio hr (iS bf (wg hu (c_ aD) (cX (dO bJ cG))) eW)) ej))))) be)))),?_⟩
 have p1:1<L.parts.length:=ew.ev.p2;refine⟨fun σ H'=>∃(o4 o5 o6 o7 o8:Option V) (T':Tg),σ=[some (.ref b),some (.int (at':Int)),some (.int (x:Int)),some (.int (k:Int)),o4,o5,o6,o7,o8]/\Fr eN T T' H H'/\Ew C D B A b l N T' H' L ts ((L.nos k).foldl (StI.byNo L at' x) S),?_,?_⟩
 · refine⟨D,_,_,_,ew.ev.sa.ob,sc.c,sc.m0,qh B l,C,_,_,_,ew.ev.la.ob,lc.c,lc.n5,M4 A,.inl ⟨_,.inl (id ew.ev.la.f5).2.choose_spec.1⟩,av _,fun g0 hg0=> ?_⟩;obtain⟨kvs,qq,vs,ep,eg,eq,rv,stay⟩:=jr e3_mo ew.ev.la.f5 ew.ev.la.tg hg0 (.inl (k:Int));rw[vN] at rv;have z1:=aj hg0 (.lst []);have ew1:=ew.same z1;have f1:Fr eN T T H (upd H g0 (.lst [])):=Fr.of z1;generalize upd H g0 (.lst [])=H1 at ep eq rv stay ew1 f1⊢;refine⟨_,DGet.k (k:= .inl (k:Int)) ep,?_⟩;rw[eg];have lv:=bu rv;refine⟨⟨_,SqL.of eq⟩,ck (xs:=vs) (fun i σ H2=>∃(o4 o5 o6 o7 o8:Option V) (T2:Tg),σ=[some (.ref b),some (.int (at':Int)),some (.int (x:Int)),some (.int (k:Int)),o4,o5,o6,o7,o8]/\Fr eN T T2 H1 H2/\Ew C D B A b l N T2 H2 L ts (((L.nos k).take i).foldl (StI.byNo L at' x) S)) ⟨none,none,none,none,none,T,rfl,Fr.refl,ew1⟩ ?_ ?_ ?_⟩
   · rintro i σ H2 _ ⟨o4,o5,o6,o7,o8,T2,rfl,f2,_⟩;exact SqL.of (stay f2 (by decide))
   · rintro i y σ H2 hy ⟨o4,o5,o6,o7,o8,T2,rfl,f2,ew2⟩;obtain⟨e,he,t0,rfl,ht⟩:=dt rv hy;have hin:=au he;rw[du _ _ he];generalize ((L.nos k).take i).foldl (StI.byNo L at' x) S=S2 at ew2⊢;refine⟨_,SqT.of (f2.tups _ _ ht),rfl,?_⟩;refine⟨by show 2<=sizeLine;decide,fun u hu'=> ?_⟩;have z3:=aj hu' (.tup [.int (x:Int),.int (e.1:Int)]);have ew3:=ew2.same z3;have h3:upd H2 u (.tup [.int (x:Int),.int (e.1:Int)]) u=some (.tup [.int (x:Int),.int (e.1:Int)]):=upd_same;have f3:=f2.trans (Fr.of (S:=eN) (T:=T2) z3);generalize upd H2 u (.tup [.int (x:Int),.int (e.1:Int)])=H3 at ew3 h3 f3⊢;obtain⟨kp,e4,r4⟩:=j4 ew3.ev.sa (.is x e.1);refine⟨D,_,_,_,ew3.ev.sa.ob,sc.c,sc.m3,C9 B l,B.q2,_,rfl,DGet.t (k:=(Fi.is x e.1).key) e4 h3,?_⟩;rw[r4];unfold StI.byNo;by_cases hf:Fi.is x e.1∈S2.facts
     · rw[aE hf,aE hf];refine⟨D,_,_,_,ew3.ev.sa.ob,sc.c,sc.m3,C9 B l,by show 2<=sizeLine;decide,fun u5 hu5=> ?_⟩;have z5:=aj hu5 (.tup [.int (x:Int),.int (e.1:Int)]);have ew5:=ew3.same z5;have h5:upd H3 u5 (.tup [.int (x:Int),.int (e.1:Int)]) u5=some (.tup [.int (x:Int),.int (e.1:Int)]):=upd_same;have f5:=f3.trans (Fr.of (S:=eN) (T:=T2) z5);have e5:=z5 _ _ e4;generalize upd H3 u5 (.tup [.int (x:Int),.int (e.1:Int)])=H5 at ew5 h5 f5 e5⊢;refine⟨_,.inr ⟨kp,(Fi.is x e.1).key,u5,.inl e5,rfl,h5,by rw[r4,aE hf]⟩,(at':Int),(S2.facts.idxOf (.is x e.1):Nat),e.2.2,rfl,fun pf hpf=> ?_⟩;have z6:=aj hpf (.lst (xw (at':Int) (S2.facts.idxOf (.is x e.1):Nat) e.2.2));have ew6:=ew5.same z6;have e6:upd H5 pf (.lst (xw (at':Int) (S2.facts.idxOf (.is x e.1):Nat) e.2.2)) pf=some (.lst ((DH (at':Int) (S2.facts.idxOf (.is x e.1):Nat) e.2.2).map V.int)):=by rw[upd_same,xu]
       have f6:=f5.trans (Fr.of (S:=eN) (T:=T2) z6);have t6:=ew5.ev.sa.tg.free hpf;generalize upd H5 pf (.lst (xw (at':Int) (S2.facts.idxOf (.is x e.1):Nat) e.2.2))=H6 at ew6 e6 f6⊢;refine⟨_,_,ew6.ev.sa.ob,dq B l,D,_,_,_,ew6.ev.sa.ob,sc.c,sc.m0,qh B l,C,_,_,_,ew6.ev.la.ob,lc.c,lc.n14,Ej ew.ev.ex,?_⟩;exact gG (k:=1) (nn:=some e.2.1) ew6 hx p1 e6 t6 fun H7 T7 f7 ew7=>⟨_,_,_,_,_,T7,rfl,f6.trans f7,ew7⟩
     · rw[aA hf,aA hf];exact⟨_,_,_,_,_,T2,rfl,f3,ew3⟩
   · rintro σ H2 ⟨o4,o5,o6,o7,o8,T2,rfl,f2,ew2⟩;rw[lv,aY] at ew2;exact⟨o4,o5,o6,o7,o8,T2,rfl,f1.trans f2,ew2⟩
 rintro σ H' ⟨o4,o5,o6,o7,o8,T',rfl,fr,ew0⟩;unfold StI.fromPairs at q;generalize (L.nos k).foldl (StI.byNo L at' x) S=S0 at ew0 q;refine⟨D,_,_,_,ew0.ev.sa.ob,sc.c,sc.m0,qh B l,C,_,_,_,ew0.ev.la.ob,lc.c,lc.n9,M3 A,.inl ⟨_,.inl (id ew0.ev.la.f9).2.choose_spec.1⟩,av _,fun g0 hg0=> ?_⟩;obtain⟨kvs,qq,vs,ep,eg,eq,rv,stay⟩:=jr eb_mo ew0.ev.la.f9 ew0.ev.la.tg hg0 (.inl (k:Int));rw[vN] at rv;have z1:=aj hg0 (.lst []);have ew1:=ew0.same z1;have f1:Fr eN T' T' H' (upd H' g0 (.lst [])):=Fr.of z1;generalize upd H' g0 (.lst [])=H1 at ep eq rv stay ew1 f1⊢;refine⟨_,DGet.k (k:= .inl (k:Int)) ep,?_⟩;rw[eg];have lv:=bu rv;refine⟨⟨_,SqL.of eq⟩,ck (xs:=vs) (fun i σ H2=>∃(o4 o5 o6 o7 o8:Option V) (T2:Tg),σ=[some (.ref b),some (.int (at':Int)),some (.int (x:Int)),some (.int (k:Int)),o4,o5,o6,o7,o8]/\Fr eN T' T2 H1 H2/\Ew C D B A b l N T2 H2 L ts (((L.boths k).take i).foldl (StI.byBoth L at' x) S0)) ⟨o4,o5,o6,o7,o8,T',rfl,Fr.refl,ew1⟩ ?_ ?_ ?_⟩
 · rintro i σ H2 _ ⟨o4,o5,o6,o7,o8,T2,rfl,f2,_⟩;exact SqL.of (stay f2 (by decide))
 · rintro i y σ H2 hy ⟨o4,o5,o6,o7,o8,T2,rfl,f2,ew2⟩;obtain⟨e,he,t0,rfl,ht⟩:=dt rv hy;have hin:=au he;rw[du _ _ he];generalize ((L.boths k).take i).foldl (StI.byBoth L at' x) S0=S2 at ew2⊢;refine⟨_,SqT.of (f2.tups _ _ ht),rfl,?_⟩;refine⟨by show 2<=sizeLine;decide,fun u hu'=> ?_⟩;have z3:=aj hu' (.tup [.int (x:Int),.int (e.1:Int)]);have ew3:=ew2.same z3;have h3:upd H2 u (.tup [.int (x:Int),.int (e.1:Int)]) u=some (.tup [.int (x:Int),.int (e.1:Int)]):=upd_same;have f3:=f2.trans (Fr.of (S:=eN) (T:=T2) z3);generalize upd H2 u (.tup [.int (x:Int),.int (e.1:Int)])=H3 at ew3 h3 f3⊢;obtain⟨kp,e4,r4⟩:=j4 ew3.ev.sa (.is x e.1);refine⟨D,_,_,_,ew3.ev.sa.ob,sc.c,sc.m3,C9 B l,B.q2,_,rfl,DGet.t (k:=(Fi.is x e.1).key) e4 h3,?_⟩;rw[r4];unfold StI.byBoth;by_cases hf:Fi.is x e.1∈S2.facts
   · rw[aE hf,aE hf];refine⟨_,_,ew3.ev.sa.ob,dq B l,D,_,_,_,ew3.ev.sa.ob,sc.c,sc.m3,C9 B l,by show 2<=sizeLine;decide,fun u5 hu5=> ?_⟩;have z5:=aj hu5 (.tup [.int (x:Int),.int (e.1:Int)]);have ew5:=ew3.same z5;have h5:upd H3 u5 (.tup [.int (x:Int),.int (e.1:Int)]) u5=some (.tup [.int (x:Int),.int (e.1:Int)]):=upd_same;have f5:=f3.trans (Fr.of (S:=eN) (T:=T2) z5);have e5:=z5 _ _ e4;generalize upd H3 u5 (.tup [.int (x:Int),.int (e.1:Int)])=H5 at ew5 h5 f5 e5⊢;refine⟨_,.inr ⟨kp,(Fi.is x e.1).key,u5,.inl e5,rfl,h5,by rw[r4,aE hf]⟩,(at':Int),(S2.facts.idxOf (.is x e.1):Nat),e.2.2,rfl,fun pf hpf=> ?_⟩;have z6:=aj hpf (.lst (xw (at':Int) (S2.facts.idxOf (.is x e.1):Nat) e.2.2));have ew6:=ew5.same z6;have e6:upd H5 pf (.lst (xw (at':Int) (S2.facts.idxOf (.is x e.1):Nat) e.2.2)) pf=some (.lst ((DH (at':Int) (S2.facts.idxOf (.is x e.1):Nat) e.2.2).map V.int)):=by rw[upd_same,xu]
     have f6:=f5.trans (Fr.of (S:=eN) (T:=T2) z6);have t6:=ew5.ev.sa.tg.free hpf;generalize upd H5 pf (.lst (xw (at':Int) (S2.facts.idxOf (.is x e.1):Nat) e.2.2))=H6 at ew6 e6 f6⊢;exact gG (k:=e.2.1) (nn:=none) ew6 hx (ew.wd.bo k e hin).2 e6 t6 fun H7 T7 f7 ew7=>⟨_,_,_,_,_,T7,rfl,f6.trans f7,ew7⟩
   · rw[aA hf,aA hf];exact⟨_,_,_,_,_,T2,rfl,f3,ew3⟩
 · rintro σ H2 ⟨o4,o5,o6,o7,o8,T2,rfl,f2,ew2⟩;rw[lv,aY] at ew2;exact q H2 T2 ((fr.trans f1).trans f2) ew2
end
noncomputable def StI.byTie(L:LoI)(at' y:Nat)(t:Str)(k:Nat)(r:Str)(S:StI)(x:Nat):StI:=StI.tellIs L S x k r [(S.facts.idxOf (.has x t y):Nat),(at':Int)] none
noncomputable def rN(S:StI)(y:Nat)(t:Str)(k:Nat):Nat:=anot (cH (cA S.facts y t)) (cH (iq S.facts k))
noncomputable def StI.byEnd(L:LoI)(at' y:Nat)(r:Str)(S:StI)(t:Str)(k:Nat):StI:=(cN (rN S y t k)).foldl (StI.byTie L at' y t k r) S
noncomputable def StI.fromEnd(L:LoI)(S:StI)(at' y k:Nat):StI:=
 let S1:=(L.somes k).foldl (fun S e=>StI.byEnd L at' y "tie" S e.1 e.2) S
 if k=1 then(eG S1.facts).foldl (fun S t=>StI.byEnd L at' y "none" S t k) S1 else S1
theorem kZ(L:LoI)(at' y:Nat)(t:Str)(k:Nat)(r:Str){f:Fi}:∀(l:List Nat) {S:StI},f∈S.facts->f∈(l.foldl (StI.byTie L at' y t k r) S).facts
 | [],_,h=>h
 | x::l,S,h=>kZ L at' y t k r l ((dm L S x k r _ none).1 f h)
theorem mD{α:Type}(L:LoI)(at' y:Nat)(r:Str)(g:α->Str)(h:α->Nat){f:Fi}:∀(l:List α) {S:StI},f∈S.facts->f∈(l.foldl (fun S e=>StI.byEnd L at' y r S (g e) (h e)) S).facts
 | [],_,z=>z
 | x::l,S,z=>mD L at' y r g h l (kZ L at' y (g x) (h x) r _ z)
def mem_startsOf:x∈cA F y t↔Fi.has x t y∈F:=by
 unfold cA;rw[fQ];constructor
 · rintro⟨f,hf,h⟩;cases f with
   | is a b=>cases h
   | has a s b=>
     dsimp only at h
     split at h
     · rename_i c;cases h;rw[<-c.1,<-c.2];exact hf
     · cases h
 · intro h;exact⟨_,h,aE ⟨rfl,rfl⟩⟩
def mem_endsOf:y∈eo F x t↔Fi.has x t y∈F:=by
 unfold eo;rw[fQ];constructor
 · rintro⟨f,hf,h⟩;cases f with
   | is a b=>cases h
   | has a s b=>
     dsimp only at h
     split at h
     · rename_i c;cases h;rw[<-c.1,<-c.2];exact hf
     · cases h
 · intro h;exact⟨_,h,aE ⟨rfl,rfl⟩⟩
def mem_ksOf:k∈iB F x↔Fi.is x k∈F:=by
 unfold iB;rw[fQ];constructor
 · rintro⟨f,hf,h⟩;cases f with
   | is a b=>
     dsimp only at h
     split at h
     · rename_i c;cases h;rw[<-c];exact hf
     · cases h
   | has a s b=>cases h
 · intro h;exact⟨_,h,aE rfl⟩
def mem_xsOf:x∈iq F k↔Fi.is x k∈F:=by
 unfold iq;rw[fQ];constructor
 · rintro⟨f,hf,h⟩;cases f with
   | is a b=>
     dsimp only at h
     split at h
     · rename_i c;cases h;rw[<-c];exact hf
     · cases h
   | has a s b=>cases h
 · intro h;exact⟨_,h,aE rfl⟩
def G_(h:a<2^n):anot a b<2^n:=bO (Nat.sub_le _ _) h
def rM(h:x∈cN (rN S y t k)):Fi.has x t y∈S.facts:=by
 rw[kP,rN,nU,kf,aP,aX] at h;exact mem_startsOf.mp h.1
section
abbrev iN(t:TE)(σ:L2.St)(v:V):Prop:=∀H Q,Q v H->t σ H Q
def gv(h:σ[i]? =some (some v)):iN (og i) σ v:=fun _ _ k=>onV.of h k
def cV(h:σ[i]? =some (some v))(q:ta σ H fun xs H2=>Q (v::xs) H2):dF (og i) ta σ H Q:=onV.of h q
def oI{g:Int->Int->Bool}{Q:Bool->Hp->Prop}(c:g i j=k)(q:Q k H):AL (fun i j=>V.bl (g i j)) (.int i) (.int j) H fun x H1=>onB x fun c=>Q c H1:=by
 show Q (g i j) H;rw[c];exact q
def oN{Q:Bool->Hp->Prop}(s:FM a b=true)(c:decide (a=b)=k)(q:Q (!k) H):Nz a b H fun x H1=>onB x fun c=>Q c H1:=by
 show onT (FM a b) _;rw[s];show Q (!decide (a=b)) H;rw[c];exact q
def gn(h:Q (σ.set i (some v)) H):gW i v σ H Q:=h
def g3(h:Q (((σ.set i (some v)).set j (some w)).set k (some u)) H):pJ (gW i) (pJ (gW j) (pJ (gW k) GP)) [v,w,u] σ H Q:=h
def g2(h:Q ((σ.set i (some v)).set j (some w)) H):pJ (gW i) (pJ (gW j) GP) [v,w] σ H Q:=h
def mB{x:Nat}(sc:uB K D)(hn:NoAttr K D nm)(hl:(mH B l).lookup nm=some (.ref q))(ob:H b=some (.ins D B.dx (mH B l)))(ft:FT H T i q (Ca g) n)(h0:iN tb σ (.ref b))(h1:iN ta σ (.int (x:Int)))(h2:iN tt σ (.str t))(k:∀H',Same H H'->Q (.int (cH (g x t):Nat)) H'):uK (yx K tb nm) (FC (dF ta (dF tt iZ))) (tC (.int 0)) σ H Q:=by
 obtain⟨_,kvs,e,r,_⟩:=ft;refine h0 _ _ ⟨D,_,_,_,ob,sc.c,hn,hl,.inr ⟨_,.inl e⟩,h1 _ _ (h2 _ _ ⟨by show 2<=sizeLine;decide,fun u hu=> ?_⟩)⟩;have z:=aj hu (.tup [.int (x:Int),.str t]);refine⟨_,DGet.t (k:=[.inl (x:Int),.inr t]) (z _ _ e) upd_same,?_⟩;rw[r,qm];exact k _ z
def JK{x:Nat}(sc:uB K D)(hn:NoAttr K D nm)(hl:(mH B l).lookup nm=some (.ref q))(ob:H b=some (.ins D B.dx (mH B l)))(ft:FK H T i q (zx g) n)(h0:iN tb σ (.ref b))(h1:iN ta σ (.int (x:Int)))(k:Q (.int (cH (g x):Nat)) H):uK (yx K tb nm) ta (tC (.int 0)) σ H Q:=by
 obtain⟨_,kvs,e,r,_⟩:=ft;refine h0 _ _ ⟨D,_,_,_,ob,sc.c,hn,hl,.inl ⟨_,.inl e⟩,h1 _ _ ⟨_,DGet.k (k:= .inl (x:Int)) e,?_⟩⟩;rw[r,vI];exact k
def Ib{x:Nat}(sc:uB K D)(hn:NoAttr K D nm)(hl:(mH B l).lookup nm=some (.ref q))(ob:H b=some (.ins D B.dx (mH B l)))(ft:FK H T i q (zx g) n)(h0:iN tb σ (.ref b))(h1:iN ta σ (.int (x:Int)))(ne:g x≠[])(k:Q (.int (cH (g x):Nat)) H):wB (yx K tb nm) ta σ H Q:=by
 obtain⟨_,kvs,e,r,_⟩:=ft;refine h0 _ _ ⟨D,_,_,_,ob,sc.c,hn,hl,h1 _ _ ⟨.int (cH (g x):Nat),?_,k⟩⟩;refine .inl ⟨kvs,.inl (x:Int),.inl e,rfl,?_⟩;rw[r];show _=(if 0<=(x:Int)/\g (x:Int).toNat≠[] then some (V.int (cH (g (x:Int).toNat):Nat)) else none);rw[cz,aE ⟨by lia,ne⟩]
def k_{a c:Nat}(h1:∀Q:VK,(∀H1,Same H H1->Q (.int (a:Int)) H1)->ta σ H Q)(h2:∀(H1:Hp) (Q:VK),Same H H1->(∀H2,Same H1 H2->Q (.int (c:Int)) H2)->tb σ H1 Q)(lt:a<2^n)(le:n<=100000)(k:∀H2 pl,Same H H2->H2 pl=some (.lst ((cN (anot a c)).map fun(i:Nat)=>V.int (i:Int)))->(∀T,TgOk T H->T pl=none)->R (J8 K pl) H2):lQ K (qH oi [] E0 (dF (CQ (AL fun i j=>V.int (Builtin.bitAnd i j)) ta (Mj (rU fun i=>V.int (Builtin.bitNot i)) tb)) iZ)) σ H R:=by
 refine h1 _ fun H1 s1=>h2 _ _ s1 fun H2 s2=> ?_;show mY [.int (Builtin.bitAnd (a:Int) (Builtin.bitNot (c:Int)))] H2 _;rw[BA];refine⟨_,n,rfl,G_ lt,le,fun pl hpl=> ?_⟩;have z:=aj hpl (.lst ((cN (anot a c)).map fun(i:Nat)=>V.int (i:Int)));exact⟨⟨_,SqL.of upd_same⟩,k _ pl (fun x o h=>z x o (s2 x o (s1 x o h))) upd_same fun T tg=>((tg.same s1).same s2).free hpl⟩
def vW(sc:uB K D)(sa:lB D B b l T H sh S)(hf:Fi.has x t y∈S.facts)(h0:iN tb σ (.ref b))(h1:iN ta σ (.int (x:Int)))(h2:iN tt σ (.str t))(h3:iN tc σ (.int (y:Int)))(k:∀H',Same H H'->Q (.int (S.facts.idxOf (.has x t y):Nat)) H'):wB (yx K tb "places") (FC (dF ta (dF tt (dF tc iZ)))) σ H Q:=by
 obtain⟨kvs,e,r⟩:=j4 sa (.has x t y);refine h0 _ _ ⟨D,_,_,_,sa.ob,sc.c,sc.m3,C9 B l,h1 _ _ (h2 _ _ (h3 _ _ ⟨by show 3<=sizeLine;decide,fun u hu=> ?_⟩))⟩;have z:=aj hu (.tup [.int (x:Int),.str t,.int (y:Int)]);exact⟨_,.inr ⟨kvs,(Fi.has x t y).key,u,.inl (z _ _ e),rfl,upd_same,by rw[r,aE hf]⟩,k _ z⟩
def Ic(sc:uB K D)(sa:lB D B b l T H sh S)(hf:Fi.is x y∈S.facts)(h0:iN tb σ (.ref b))(h1:iN ta σ (.int (x:Int)))(h3:∀Q:VK,Q (.int (y:Int)) H->tc σ H Q)(k:∀H',Same H H'->Q (.int (S.facts.idxOf (.is x y):Nat)) H'):wB (yx K tb "places") (FC (dF ta (dF tc iZ))) σ H Q:=by
 obtain⟨kvs,e,r⟩:=j4 sa (.is x y);refine h0 _ _ ⟨D,_,_,_,sa.ob,sc.c,sc.m3,C9 B l,h1 _ _ (h3 _ ⟨by show 2<=sizeLine;decide,fun u hu=> ?_⟩)⟩;have z:=aj hu (.tup [.int (x:Int),.int (y:Int)]);exact⟨_,.inr ⟨kvs,(Fi.is x y).key,u,.inl (z _ _ e),rfl,upd_same,by rw[r,aE hf]⟩,k _ z⟩
end
inductive pj(C D:Addr)(vs:List V)(H:Hp)(Q:VK):Prop
 | mk:∀(b l:Addr) (B:yn) (A:LoA) (N:Nat) (T:Tg) (L:LoI) (ts:List Str) (S:StI) (at' y k:Nat),(vs=[.ref b,.int (at':Int),.int (y:Int),.int (k:Int)])->(Ew C D B A b l N T H L ts S)->(Fi.is y k∈S.facts)->(∀H' T',Fr eN T T' H H'->Ew C D B A b l N T' H' L ts (StI.fromEnd L S at' y k)->Q .non H')->pj C D vs H Q
def t_(C D:Addr):Sp:=fun vs H Q _=>pj C D vs H Q
section
def scFE:bw ["self","at","y","kind","tie","whole","x"] AU (aM ow):=gH
def zr(F:Fun K "from_end" "Still.from_end" ow f fd)(lc:wa K C)(sc:uB K D)(Gti:Ml P w K mg base D 2 "tell_is" ni (gJ C D))(Gbo:Cl P w K mg base 1 "bits_of" ["mask"] oi)(mls:mg "list"=none):b_ P w K mg base eU 3 f fd AU (t_ C D):=by
 refine F.o scFE fun cdv A0 outer s0 H vs Q E hr h=> ?_;obtain⟨b,l,B,A,N,T,L,ts,S,at',y,k,rfl,ew,hf,q⟩:=h;have hu:=fL hr;refine⟨_,j0 (lO (bT (pP hu (c_ (c_ aD)) cE (bS cf))) (eY rfl (bG (eV 4 scFE.nd) (bG (eV 5 scFE.nd) dX))) (bg (lO (bT (dG Gbo hr (eR (bF mo (pP hu (c_ aD) (cX (dO bJ cG)) aw) (nA qC (pP hu (c_ aD) ee aw)))))) (eV 6 scFE.nd) (bg (bC (gU aD sc.c Gti hr (bY eW (jz ee bq (bS (dO (wg hu (c_ aD) (cX (iS eW cG bJ))) bf)) ej))))))))
  (ba (bL (eX DI cE (c_ (c_ aD))) (bg (kL)) be)
  (bg (lO (bT (fI (fF rfl) rfl mls bU (eR (c_ aD)))) (eV 4 scFE.nd) (bg (lO (bT (dG Gbo hr (eR (bF mo (pP hu (c_ aD) (cX (dO bJ cG)) aw) (nA qC (wg hu (c_ aD) cE)))))) (eV 6 scFE.nd) (bg (bC (gU aD sc.c Gti hr (bY eW (jz cE bq (bS (dO (wg hu (c_ aD) (cX (iS eW cG bJ))) bf)) ej)))))))))),?_⟩
 refine⟨fun σ H'=>∃(o4 o5 o6:Option V) (T':Tg),σ=[some (.ref b),some (.int (at':Int)),some (.int (y:Int)),some (.int (k:Int)),o4,o5,o6]/\Fr eN T T' H H'/\Ew C D B A b l N T' H' L ts ((L.somes k).foldl (fun S e=>StI.byEnd L at' y "tie" S e.1 e.2) S),?_,?_⟩
 · refine⟨D,_,_,_,ew.ev.sa.ob,sc.c,sc.m0,qh B l,C,_,_,_,ew.ev.la.ob,lc.c,lc.n10,La A,.inl ⟨_,.inl (id ew.ev.la.f10).2.choose_spec.1⟩,av _,fun g0 hg0=> ?_⟩;obtain⟨kvs,qq,vs,ep,eg,eq,rv,stay⟩:=jr esm_mo ew.ev.la.f10 ew.ev.la.tg hg0 (.inl (k:Int));rw[vN] at rv;have z1:=aj hg0 (.lst []);have ew1:=ew.same z1;have f1:Fr eN T T H (upd H g0 (.lst [])):=Fr.of z1;generalize upd H g0 (.lst [])=H1 at ep eq rv stay ew1 f1⊢;refine⟨_,DGet.k (k:= .inl (k:Int)) ep,?_⟩;rw[eg];have lv:=bu rv;refine⟨⟨_,SqL.of eq⟩,ck (xs:=vs) (fun i σ H2=>∃(o4 o5 o6:Option V) (T2:Tg),σ=[some (.ref b),some (.int (at':Int)),some (.int (y:Int)),some (.int (k:Int)),o4,o5,o6]/\Fr eN T T2 H1 H2/\Ew C D B A b l N T2 H2 L ts (((L.somes k).take i).foldl (fun S e=>StI.byEnd L at' y "tie" S e.1 e.2) S)) ⟨none,none,none,T,rfl,Fr.refl,ew1⟩ ?_ ?_ ?_⟩
   · rintro i σ H2 _ ⟨o4,o5,o6,T2,rfl,f2,_⟩;exact SqL.of (stay f2 (by decide))
   · rintro i v σ H2 hv ⟨o4,o5,o6,T2,rfl,f2,ew2⟩;obtain⟨e,he,t0,rfl,ht⟩:=dt rv hv;have hin:=au he;rw[du _ _ he];generalize ((L.somes k).take i).foldl (fun S e=>StI.byEnd L at' y "tie" S e.1 e.2) S=S2 at ew2⊢;refine⟨_,SqT.of (f2.tups _ _ ht),rfl,?_⟩;have hk:=ew.wd.so k e hin;refine g2 ?_;refine(k_ (a:=cH (cA S2.facts y e.1)) (c:=cH (iq S2.facts e.2)) (n:=L.parts.length) ?_ ?_ (nG fun i hi=>(ew2.wf.rg _ (mem_startsOf.mp hi)).1) (ai (ai ew.ev.la.le ew.ev.hN) (by decide)) fun H4 pl z4 epl tpl=> ?_:lQ _ _ _ _ _)
     · exact fun Q k=>mB sc sc.m9 (Ka B l) ew2.ev.sa.ob ew2.ev.sa.s8 (gv rfl) (gv rfl) (gv rfl) k
     · exact fun H3 Q z3 k=>JK sc sc.m6 (sk6 B l) (ew2.same z3).ev.sa.ob (ew2.same z3).ev.sa.s5 (gv rfl) (gv rfl) (k _ fun _ _ h=>h)
     have ew4:=ew2.same z4;replace tpl:=tpl _ ew2.ev.sa.tg;have f4:=f2.trans (Fr.of (S:=eN) (T:=T2) z4);refine ck (xs:=(cN (rN S2 y e.1 e.2)).map fun(i:Nat)=>V.int (i:Int)) (fun i σ H5=>∃(o6:Option V) (T5:Tg),σ=[some (.ref b),some (.int (at':Int)),some (.int (y:Int)),some (.int (k:Int)),some (.str e.1),some (.int (e.2:Int)),o6]/\Fr eN T2 T5 H4 H5/\Ew C D B A b l N T5 H5 L ts (((cN (rN S2 y e.1 e.2)).take i).foldl (StI.byTie L at' y e.1 e.2 "tie") S2)) ⟨o6,T2,rfl,Fr.refl,ew4⟩ ?_ ?_ ?_
     · rintro i σ H5 _ ⟨o6,T5,rfl,f5,_⟩;exact SqL.of (Fr.free f5 epl tpl).2
     · rintro i v σ H5 hv ⟨o6,T5,rfl,f5,ew5⟩;rw[aH,aQ] at hv;obtain⟨x,hx,rfl⟩:=hv;have hm:=rM (au hx);have hm5:=kZ L at' y e.1 e.2 "tie" ((cN (rN S2 y e.1 e.2)).take i) hm;rw[du _ _ hx];generalize ((cN (rN S2 y e.1 e.2)).take i).foldl (StI.byTie L at' y e.1 e.2 "tie") S2=S5 at ew5 hm5⊢;have hxx:=(ew2.wf.rg _ hm).1;refine⟨_,_,ew5.ev.sa.ob,dq B l,cV rfl (cV rfl ?_)⟩;refine vW sc ew5.ev.sa hm5 (gv rfl) (gv rfl) (gv rfl) (gv rfl) fun H6 z6=>⟨by show 2<=sizeLine;decide,fun pf hpf=> ?_⟩;have z7:=aj hpf (.lst [.int (S5.facts.idxOf (Fi.has x e.1 y):Nat),.int (at':Int)]);exact gG (nn:=none) (fr:=[((S5.facts.idxOf (Fi.has x e.1 y):Nat):Int),(at':Int)]) ((ew5.same z6).same z7) hxx hk upd_same ((ew5.same z6).ev.sa.tg.free hpf) fun H8 T8 f8 ew8=>⟨_,T8,rfl,((f5.trans (Fr.of z6)).trans (Fr.of z7)).trans f8,ew8⟩
     · rintro σ H5 ⟨o6,T5,rfl,f5,ew5⟩;rw[ae,aY] at ew5;exact⟨_,_,_,T5,rfl,f4.trans f5,ew5⟩
   · rintro σ H2 ⟨o4,o5,o6,T2,rfl,f2,ew2⟩;rw[lv,aY] at ew2;exact⟨o4,o5,o6,T2,rfl,f1.trans f2,ew2⟩
 rintro σ H' ⟨o4,o5,o6,T',rfl,fr,ew0⟩;have hf0:Fi.is y k∈((L.somes k).foldl (fun S e=>StI.byEnd L at' y "tie" S e.1 e.2) S).facts:=mD L at' y "tie" (fun e=>e.1) (fun e=>e.2) (L.somes k) hf;unfold StI.fromEnd at q;dsimp only at q;generalize (L.somes k).foldl (fun S e=>StI.byEnd L at' y "tie" S e.1 e.2) S=S0 at ew0 hf0 q;refine⟨D,_,_,_,ew0.ev.sa.ob,sc.c,sc.m0,qh B l,C,_,_,_,ew0.ev.la.ob,lc.c,lc.n14,Ej ew0.ev.ex,?_⟩;by_cases hk1:k=1
 · subst hk1;rw[aE rfl] at q;have nd9:=ew0.ev.sa.s9.2.1;refine⟨D,_,_,_,ew0.ev.sa.ob,sc.c,sc.m10,KB B l,B.q9,_,eG S0.facts,rfl,nd9,nZ _,fun p9 h9=> ?_⟩;have z1:=aj h9 (.lst ((eG S0.facts).map V.str));have ew1:=ew0.same z1;have f1:Fr eN T' T' H' (upd H' p9 (.lst ((eG S0.facts).map V.str))):=Fr.of z1;have e9:upd H' p9 (.lst ((eG S0.facts).map V.str)) p9=some (.lst ((eG S0.facts).map V.str)):=upd_same;have t9:=ew0.ev.sa.tg.free h9;refine⟨⟨_,SqL.of e9⟩,?_⟩;generalize upd H' p9 (.lst ((eG S0.facts).map V.str))=H1 at ew1 f1 e9⊢;have hn:=ew0.ev.p2;refine ck (xs:=(eG S0.facts).map V.str) (fun i σ H2=>∃(o4 o5 o6:Option V) (T2:Tg),σ=[some (.ref b),some (.int (at':Int)),some (.int (y:Int)),some (.int ((1:Nat):Int)),o4,o5,o6]/\Fr eN T' T2 H1 H2/\Ew C D B A b l N T2 H2 L ts (((eG S0.facts).take i).foldl (fun S t=>StI.byEnd L at' y "none" S t 1) S0)) ⟨o4,o5,o6,T',rfl,Fr.refl,ew1⟩ ?_ ?_ ?_
   · rintro i σ H2 _ ⟨o4,o5,o6,T2,rfl,f2,_⟩;exact SqL.of (Fr.free f2 e9 t9).2
   · rintro i v σ H2 hv ⟨o4,o5,o6,T2,rfl,f2,ew2⟩;rw[aH,aQ] at hv;obtain⟨t,he,rfl⟩:=hv;have hf2:Fi.is y 1∈(((eG S0.facts).take i).foldl (fun S t=>StI.byEnd L at' y "none" S t 1) S0).facts:=mD L at' y "none" (fun e=>e) (fun _=>1) ((eG S0.facts).take i) hf0;rw[du _ _ he];generalize ((eG S0.facts).take i).foldl (fun S t=>StI.byEnd L at' y "none" S t 1) S0=S2 at ew2 hf2⊢;refine gn ?_;refine(k_ (a:=cH (cA S2.facts y t)) (c:=cH (iq S2.facts 1)) (n:=L.parts.length) ?_ ?_ (nG fun i hi=>(ew2.wf.rg _ (mem_startsOf.mp hi)).1) (ai (ai ew.ev.la.le ew.ev.hN) (by decide)) fun H4 pl z4 epl tpl=> ?_:lQ _ _ _ _ _)
     · exact fun Q k=>mB sc sc.m9 (Ka B l) ew2.ev.sa.ob ew2.ev.sa.s8 (gv rfl) (gv rfl) (gv rfl) k
     · exact fun H3 Q z3 k=>Ib (x:=1) sc sc.m6 (sk6 B l) (ew2.same z3).ev.sa.ob (ew2.same z3).ev.sa.s5 (gv rfl) (gv rfl) (fun z=>by have:=mem_xsOf.mpr hf2;rw[z] at this;exact ao this) (k _ fun _ _ h=>h)
     have ew4:=ew2.same z4;replace tpl:=tpl _ ew2.ev.sa.tg;have f4:=f2.trans (Fr.of (S:=eN) (T:=T2) z4);refine ck (xs:=(cN (rN S2 y t 1)).map fun(i:Nat)=>V.int (i:Int)) (fun i σ H5=>∃(o6:Option V) (T5:Tg),σ=[some (.ref b),some (.int (at':Int)),some (.int (y:Int)),some (.int ((1:Nat):Int)),some (.str t),o5,o6]/\Fr eN T2 T5 H4 H5/\Ew C D B A b l N T5 H5 L ts (((cN (rN S2 y t 1)).take i).foldl (StI.byTie L at' y t 1 "none") S2)) ⟨o6,T2,rfl,Fr.refl,ew4⟩ ?_ ?_ ?_
     · rintro i σ H5 _ ⟨o6,T5,rfl,f5,_⟩;exact SqL.of (Fr.free f5 epl tpl).2
     · rintro i v σ H5 hv ⟨o6,T5,rfl,f5,ew5⟩;rw[aH,aQ] at hv;obtain⟨x,hx,rfl⟩:=hv;have hm:=rM (au hx);have hm5:=kZ L at' y t 1 "none" ((cN (rN S2 y t 1)).take i) hm;rw[du _ _ hx];generalize ((cN (rN S2 y t 1)).take i).foldl (StI.byTie L at' y t 1 "none") S2=S5 at ew5 hm5⊢;have hxx:=(ew2.wf.rg _ hm).1;refine⟨_,_,ew5.ev.sa.ob,dq B l,cV rfl (cV rfl ?_)⟩;refine vW sc ew5.ev.sa hm5 (gv rfl) (gv rfl) (gv rfl) (gv rfl) fun H6 z6=>⟨by show 2<=sizeLine;decide,fun pf hpf=> ?_⟩;have z7:=aj hpf (.lst [.int (S5.facts.idxOf (Fi.has x t y):Nat),.int (at':Int)]);exact gG (nn:=none) (fr:=[((S5.facts.idxOf (Fi.has x t y):Nat):Int),(at':Int)]) ((ew5.same z6).same z7) hxx hn upd_same ((ew5.same z6).ev.sa.tg.free hpf) fun H8 T8 f8 ew8=>⟨_,T8,rfl,((f5.trans (Fr.of z6)).trans (Fr.of z7)).trans f8,ew8⟩
     · rintro σ H5 ⟨o6,T5,rfl,f5,ew5⟩;rw[ae,aY] at ew5;exact⟨_,_,_,T5,rfl,f4.trans f5,ew5⟩
   · rintro σ H2 ⟨o4,o5,o6,T2,rfl,f2,ew2⟩;rw[ae,aY] at ew2;exact q H2 T2 ((fr.trans f1).trans f2) ew2
 · rw[aA hk1] at q;exact oN rfl (ag fun z=>hk1 (by injection z with z;lia)) (q H' T' fr ew0)
end
def vJ(L:LoI)(S:StI)(x:Nat){f:Fi}(h:f∈S.facts):f∈(StI.letStand L S x).facts:=by
 unfold StI.letStand
 split
 · exact h
 · refine(dm L _ x 0 "all" [] none).1 f ?_
   split
   · exact h
   · exact(dm L _ x x "self" [] none).1 f h
def iI(L:LoI)(S:StI)(x:Nat)(t:Str)(y:Nat)(r:Str)(fr:List Int)(nn:Option Int){f:Fi}(h:f∈S.facts):f∈(StI.tellHas L S x t y r fr nn).facts:=by
 unfold StI.tellHas
 split
 · exact h
 · exact vJ L _ y (aS _ h)
theorem gN{α:Type}{g:StI->α->StI}(hg:∀S a f,f∈S.facts->f∈(g S a).facts){f:Fi}:∀(l:List α) {S:StI},f∈S.facts->f∈(l.foldl g S).facts
 | [],_,h=>h
 | a::l,S,h=>gN hg l (hg S a f h)
noncomputable def StI.byWi(L:LoI)(at' x y:Nat)(S:StI)(e:Str × Int):StI:=StI.tellHas L S x e.1 y "within" [(at':Int)] (some e.2)
noncomputable def StI.byWh(L:LoI)(at' x:Nat)(t:Str)(y:Nat)(S:StI)(k:Nat):StI:=StI.tellIs L S x ((L.wholes t k).getD 0) "tie" [(at':Int),((S.facts.idxOf (Fi.is y k):Nat):Int)] none
noncomputable def qE(L:LoI)(S:StI)(x:Nat)(t:Str)(y:Nat):Nat:=cH (iB S.facts y)&&&anot ((L.fillers t).getD 0) (cH (fh L.shapes S.facts x t))
noncomputable def StI.fromTie(L:LoI)(S:StI)(at' x:Nat)(t:Str)(y:Nat):StI:=
 let S1:=(L.withins t).foldl (StI.byWi L at' x y) S
 let S2:=(cN (qE L S1 x t y)).foldl (StI.byWh L at' x t y) S1
 if Fi.is y 1∈S2.facts then StI.tellIs L S2 x 1 "none" [(at':Int),((S2.facts.idxOf (Fi.is y 1):Nat):Int)] none else S2
def EZ(L:LoI)(at' x y:Nat)(S:StI)(e:Str × Int)(f:Fi)(h:f∈S.facts):f∈(StI.byWi L at' x y S e).facts:=iI L S x e.1 y "within" _ _ h
def E1(L:LoI)(at' x:Nat)(t:Str)(y:Nat)(S:StI)(k:Nat)(f:Fi)(h:f∈S.facts):f∈(StI.byWh L at' x t y S k).facts:=(dm L S x _ "tie" _ none).1 f h
def zH(f:Str->List α)(t:Str):kS f (.inr t)=f t:=rfl
def wz(h:k∈cN (qE L S x t y)):Fi.is y k∈S.facts/\∃m,L.fillers t=some m/\m.testBit k=true:=by
 rw[kP,qE,f_,nU,kf,aP,aP,aX] at h;refine⟨mem_ksOf.mp h.1,?_⟩;cases e:L.fillers t with
 | none=>rw[e] at h;simp at h
 | some m=>rw[e] at h;exact⟨m,rfl,h.2.1⟩
section
def lV(h:σ[i]? =some (some v))(q:ta σ H fun xs H1=>(v::xs).length<=sizeLine/\∀p,H1 p=none->tr σ (upd H1 p (.lst (v::xs))) fun ys H2=>Q (w:: .ref p::ys) H2):dF (tC w) (dF (Iq (dF (og i) ta)) tr) σ H Q:=onV.of h q
def Lv{Q:VK}(k:Q (.int (anot a c:Nat)) H):rU (fun i=>V.int (Builtin.bitNot i)) (.int (c:Int)) H fun y H2=>AL (fun i j=>V.int (Builtin.bitAnd i j)) (.int (a:Int)) y H2 Q:=by
 show Q (.int (Builtin.bitAnd (a:Int) (Builtin.bitNot (c:Int)))) H;rw[BA];exact k
def NZ(h:ta σ H fun x H1=>r x H1 Q):Mj r ta σ H Q:=h
def E5{a c:Nat}(h1:∀Q:VK,(∀H1,Same H H1->Q (.int (a:Int)) H1)->ta σ H Q)(h2:∀(H1:Hp) (Q:VK),Same H H1->(∀H2,Same H1 H2->Q (.int (c:Int)) H2)->tb σ H1 Q)(lt:a<2^n)(le:n<=100000)(k:∀H2 pl,Same H H2->H2 pl=some (.lst ((cN (a&&&c)).map fun(i:Nat)=>V.int (i:Int)))->(∀T,TgOk T H->T pl=none)->R (J8 K pl) H2):lQ K (qH oi [] E0 (dF (CQ (AL fun i j=>V.int (Builtin.bitAnd i j)) ta tb) iZ)) σ H R:=by
 refine h1 _ fun H1 s1=>h2 _ _ s1 fun H2 s2=> ?_;show mY [.int (Builtin.bitAnd (a:Int) (c:Int))] H2 _;rw[E_];refine⟨_,n,rfl,bO (Fb a c) lt,le,fun pl hpl=> ?_⟩;have z:=aj hpl (.lst ((cN (a&&&c)).map fun(i:Nat)=>V.int (i:Int)));exact⟨⟨_,SqL.of upd_same⟩,k _ pl (fun x o h=>z x o (s2 x o (s1 x o h))) upd_same fun T tg=>((tg.same s1).same s2).free hpl⟩
end
inductive pe(C D:Addr)(vs:List V)(H:Hp)(Q:VK):Prop
 | mk:∀(b l:Addr) (B:yn) (A:LoA) (N:Nat) (T:Tg) (L:LoI) (ts:List Str) (S:StI) (at' x:Nat) (t:Str) (y:Nat),(vs=[.ref b,.int (at':Int),.int (x:Int),.str t,.int (y:Int)])->(Ew C D B A b l N T H L ts S)->(Fi.has x t y∈S.facts)->(∀H' T',Fr eN T T' H H'->Ew C D B A b l N T' H' L ts (StI.fromTie L S at' x t y)->Q .non H')->pe C D vs H Q
def tZ(C D:Addr):Sp:=fun vs H Q _=>pe C D vs H Q
section
def scFTi:bw ["self","at","x","tie","y","wider","number","wanted","kind"] pA (aM ou):=gH
def zq(F:Fun K "from_tie" "Still.from_tie" ou f fd)(lc:wa K C)(sc:uB K D)(Gti:Ml P w K mg base D 2 "tell_is" ni (gJ C D))(Gth:Ml P w K mg base D 6 "tell_has" qZ (jb C D))(Gbo:Cl P w K mg base 1 "bits_of" ["mask"] oi):b_ P w K mg base eU 7 f fd pA (tZ C D):=by
 refine F.o scFTi fun cdv A0 outer s0 H vs Q E hr h=> ?_;obtain⟨b,l,B,A,N,T,L,ts,S,at',x,t,y,rfl,ew,hf,q⟩:=h;have hu:=fL hr;have rg:=ew.wf.rg _ hf;have hnN:L.parts.length<=100000:=ai (ai ew.ev.la.le ew.ev.hN) (by decide);refine⟨_,j0 (lO (bT (pP hu (c_ (c_ aD)) cE (bS cf))) (eY rfl (bG (eV 5 scFTi.nd) (bG (eV 6 scFTi.nd) dX))) (bg (bC (gU aD sc.c Gth hr (bY bJ (bY ee (jz cG bq (bS (eR bf)) eW)))))))
  (ba (fR 7 scFTi.nd (bF mo (pP hu (c_ (c_ aD)) cE aw) (nA qC (pP hu (c_ aD) (cX (dO bJ cE)) aw))))
  (j0 (lO (bT (dG Gbo hr (eR (bF mo (wg hu (c_ aD) cG) jh)))) (eV 8 scFTi.nd) (bg (bC (gU aD sc.c Gti hr (bY bJ (jz (wg hu (c_ (c_ aD)) (cX (dO cE m_))) bq (bS (dO bf (wg hu (c_ aD) (cX (dO cG m_))))) ej))))))
  (bg (bL (eX (mn hu) (cX (dO cG (c_ (c_ aD)))) (c_ aD)) (bg (bC (gU aD sc.c Gti hr (bY bJ (jz (c_ (c_ aD)) bq (bS (dO bf (wg hu (c_ aD) (cX (dO cG (c_ (c_ aD))))))) ej))))) be)))),?_⟩
 refine⟨fun σ H'=>∃(o5 o6 o7 o8:Option V) (T':Tg),σ=[some (.ref b),some (.int (at':Int)),some (.int (x:Int)),some (.str t),some (.int (y:Int)),o5,o6,o7,o8]/\Fr eN T T' H H'/\Ew C D B A b l N T' H' L ts ((L.withins t).foldl (StI.byWi L at' x y) S),?_,?_⟩
 · refine⟨D,_,_,_,ew.ev.sa.ob,sc.c,sc.m0,qh B l,C,_,_,_,ew.ev.la.ob,lc.c,lc.n6,NF A,.inl ⟨_,.inl (id ew.ev.la.f6).2.choose_spec.1⟩,av _,fun g0 hg0=> ?_⟩;obtain⟨kvs,qq,vs,ep,eg,eq,rv,stay⟩:=jr es2_mo ew.ev.la.f6 ew.ev.la.tg hg0 (.inr t);rw[zH] at rv;have z1:=aj hg0 (.lst []);have ew1:=ew.same z1;have f1:Fr eN T T H (upd H g0 (.lst [])):=Fr.of z1;generalize upd H g0 (.lst [])=H1 at ep eq rv stay ew1 f1⊢;refine⟨_,DGet.k (k:= .inr t) ep,?_⟩;rw[eg];have lv:=bu rv;refine⟨⟨_,SqL.of eq⟩,ck (xs:=vs) (fun i σ H2=>∃(o5 o6 o7 o8:Option V) (T2:Tg),σ=[some (.ref b),some (.int (at':Int)),some (.int (x:Int)),some (.str t),some (.int (y:Int)),o5,o6,o7,o8]/\Fr eN T T2 H1 H2/\Ew C D B A b l N T2 H2 L ts (((L.withins t).take i).foldl (StI.byWi L at' x y) S)) ⟨none,none,none,none,T,rfl,Fr.refl,ew1⟩ ?_ ?_ ?_⟩
   · rintro i σ H2 _ ⟨o5,o6,o7,o8,T2,rfl,f2,_⟩;exact SqL.of (stay f2 (by decide))
   · rintro i v σ H2 hv ⟨o5,o6,o7,o8,T2,rfl,f2,ew2⟩;obtain⟨e,he,t0,rfl,ht⟩:=dt rv hv;have hin:=au he;rw[du _ _ he];generalize ((L.withins t).take i).foldl (StI.byWi L at' x y) S=S2 at ew2⊢;refine⟨_,SqT.of (f2.tups _ _ ht),rfl,?_⟩;refine⟨_,_,ew2.ev.sa.ob,gL B l,by show 1<=sizeLine;decide,fun pf hpf=> ?_⟩;have z3:=aj hpf (.lst [.int (at':Int)]);exact jT (nn:=some e.2) (fr:=[(at':Int)]) (ew2.same z3) rg.1 (ew.wd.wi t e hin) rg.2.2 upd_same (ew2.ev.sa.tg.free hpf) fun H4 T4 f4 ew4=>⟨_,_,_,_,T4,rfl,(f2.trans (Fr.of z3)).trans f4,ew4⟩
   · rintro σ H2 ⟨o5,o6,o7,o8,T2,rfl,f2,ew2⟩;rw[lv,aY] at ew2;exact⟨o5,o6,o7,o8,T2,rfl,f1.trans f2,ew2⟩
 rintro σ H' ⟨o5,o6,o7,o8,T',rfl,fr,ew0⟩;have hf0:Fi.has x t y∈((L.withins t).foldl (StI.byWi L at' x y) S).facts:=gN (EZ L at' x y) (L.withins t) hf;unfold StI.fromTie at q;dsimp only at q;generalize (L.withins t).foldl (StI.byWi L at' x y) S=S0 at ew0 hf0 q;obtain⟨_,kvf,ef,rf,_⟩:=id ew0.ev.la.f11;have vf:(cB kvf (.inr t)).getD (.int 0)= .int (((L.fillers t).getD 0:Nat):Int):=by
  rw[rf];show((L.fillers t).map fun(m:Nat)=>V.int (m:Int)).getD _=_;cases L.fillers t<;>rfl
 refine⟨D,_,_,_,ew0.ev.sa.ob,sc.c,sc.m0,qh B l,C,_,_,_,ew0.ev.la.ob,lc.c,lc.n11,Js A,.inl ⟨_,.inl ef⟩,_,DGet.k (k:= .inr t) ef,?_⟩;rw[vf];refine NZ (mB (x:=x) (t:=t) sc sc.m7 (Mx B l) ew0.ev.sa.ob ew0.ev.sa.s6 (gv rfl) (gv rfl) (gv rfl) fun H1 z1=> ?_);refine Lv (gn ?_);have ew1:=ew0.same z1;have f1:=fr.trans (Fr.of (S:=eN) (T:=T') z1);have wk:iB S0.facts y≠[]:=fun z=>by
  have:=mem_ksOf.mpr (ew0.wf.st0 y (ew0.wf.hs _ _ _ hf0));rw[z] at this;exact ao this
 refine⟨fun σ H'=>∃(o8:Option V) (T2:Tg),σ=[some (.ref b),some (.int (at':Int)),some (.int (x:Int)),some (.str t),some (.int (y:Int)),o5,o6,some (.int (anot ((L.fillers t).getD 0) (cH (fh L.shapes S0.facts x t)):Nat)),o8]/\Fr eN T T2 H H'/\Ew C D B A b l N T2 H' L ts ((cN (qE L S0 x t y)).foldl (StI.byWh L at' x t y) S0),?_,?_⟩
 · refine(E5 (a:=cH (iB S0.facts y)) (c:=anot ((L.fillers t).getD 0) (cH (fh L.shapes S0.facts x t))) (n:=L.parts.length) ?_ ?_ (nG fun i hi=>(ew0.wf.rg _ (mem_ksOf.mp hi)).2) hnN fun H4 pl z4 epl tpl=> ?_:lQ _ _ _ _ _)
   · exact fun Q k=>Ib sc sc.m5 (My B l) ew1.ev.sa.ob ew1.ev.sa.s4 (gv rfl) (gv rfl) wk (k _ fun _ _ h=>h)
   · exact fun H3 Q z3 k=>(k _ fun _ _ h=>h)
   have ew4:=ew1.same z4;replace tpl:=tpl _ ew1.ev.sa.tg;have f4:=f1.trans (Fr.of (S:=eN) (T:=T') z4);refine ck (xs:=(cN (qE L S0 x t y)).map fun(i:Nat)=>V.int (i:Int)) (fun i σ H5=>∃(o8:Option V) (T5:Tg),σ=[some (.ref b),some (.int (at':Int)),some (.int (x:Int)),some (.str t),some (.int (y:Int)),o5,o6,some (.int (anot ((L.fillers t).getD 0) (cH (fh L.shapes S0.facts x t)):Nat)),o8]/\Fr eN T' T5 H4 H5/\Ew C D B A b l N T5 H5 L ts (((cN (qE L S0 x t y)).take i).foldl (StI.byWh L at' x t y) S0)) ⟨o8,T',rfl,Fr.refl,ew4⟩ ?_ ?_ ?_
   · rintro i σ H5 _ ⟨o8,T5,rfl,f5,_⟩;exact SqL.of (Fr.free f5 epl tpl).2
   · rintro i v σ H5 hv ⟨o8,T5,rfl,f5,ew5⟩;rw[aH,aQ] at hv;obtain⟨k,hk,rfl⟩:=hv;obtain⟨hm,m,hm1,hm2⟩:=wz (au hk);obtain⟨wh,hw1,hw2,hw3⟩:=ew.wd.fi t m k hm1 hm2;have hm5:=gN (E1 L at' x t y) ((cN (qE L S0 x t y)).take i) hm;rw[du _ _ hk];generalize ((cN (qE L S0 x t y)).take i).foldl (StI.byWh L at' x t y) S0=S5 at ew5 hm5⊢;obtain⟨_,kw,e12,r12,_⟩:=id ew5.ev.la.f12;have v12:cB kw [.inr t,.inl (k:Int)]=some (.int (wh:Int)):=by
      rw[r12];show(if 0<=(k:Int) then(L.wholes t (k:Int).toNat).map fun(m:Nat)=>V.int (m:Int) else none)=_;rw[aE (by lia),cz,hw1];rfl
     refine⟨_,_,ew5.ev.sa.ob,dq B l,D,_,_,_,ew5.ev.sa.ob,sc.c,sc.m0,qh B l,C,_,_,_,ew5.ev.la.ob,lc.c,lc.n12,K_ A,by show 2<=sizeLine;decide,fun u6 hu6=> ?_⟩;have z6:=aj hu6 (.tup [.str t,.int (k:Int)]);have ew6:=ew5.same z6;have h6:upd H5 u6 (.tup [.str t,.int (k:Int)]) u6=some (.tup [.str t,.int (k:Int)]):=upd_same;have e6:=z6 _ _ e12;have f6:=f5.trans (Fr.of (S:=eN) (T:=T5) z6);generalize upd H5 u6 (.tup [.str t,.int (k:Int)])=H6 at ew6 h6 e6 f6⊢;refine⟨_,.inr ⟨kw,[.inr t,.inl (k:Int)],u6,.inl e6,rfl,h6,v12.symm⟩,?_⟩;refine lV rfl ?_;refine Ic sc ew6.ev.sa hm5 (gv rfl) (gv rfl) (gv rfl _) fun H7 z7=>⟨by show 2<=sizeLine;decide,fun pf hpf=> ?_⟩;have z8:=aj hpf (.lst [.int (at':Int),.int (S5.facts.idxOf (Fi.is y k):Nat)]);refine gG (k:=wh) (nn:=none) (fr:=[(at':Int),((S5.facts.idxOf (Fi.is y k):Nat):Int)]) ((ew6.same z7).same z8) rg.1 hw2 upd_same ((ew6.same z7).ev.sa.tg.free hpf) fun H8 T8 f8 ew8=>⟨_,T8,rfl,((f6.trans (Fr.of z7)).trans (Fr.of z8)).trans f8,?_⟩;unfold StI.byWh;rw[hw1];exact ew8
   · rintro σ H5 ⟨o8,T5,rfl,f5,ew5⟩;rw[ae,aY] at ew5;exact⟨_,T5,rfl,f4.trans f5,ew5⟩
 rintro σ H2 ⟨o8,T2,rfl,f2,ew2⟩;generalize (cN (qE L S0 x t y)).foldl (StI.byWh L at' x t y) S0=S2 at ew2 q;refine⟨D,_,_,_,ew2.ev.sa.ob,sc.c,sc.m0,qh B l,C,_,_,_,ew2.ev.la.ob,lc.c,lc.n14,Ej ew2.ev.ex,by show 2<=sizeLine;decide,fun u hu'=> ?_⟩;have z3:=aj hu' (.tup [.int (y:Int),.int ((1:Nat):Int)]);have ew3:=ew2.same z3;have h3:upd H2 u (.tup [.int (y:Int),.int ((1:Nat):Int)]) u=some (.tup [.int (y:Int),.int ((1:Nat):Int)]):=upd_same;have f3:=f2.trans (Fr.of (S:=eN) (T:=T2) z3);generalize upd H2 u (.tup [.int (y:Int),.int ((1:Nat):Int)])=H3 at ew3 h3 f3⊢;obtain⟨kp,e4,r4⟩:=j4 ew3.ev.sa (.is y 1);refine⟨D,_,_,_,ew3.ev.sa.ob,sc.c,sc.m3,C9 B l,B.q2,_,rfl,DGet.t (k:=(Fi.is y 1).key) e4 h3,?_⟩;rw[r4];by_cases hn:Fi.is y 1∈S2.facts
 · rw[aE hn];rw[aE hn] at q;refine⟨_,_,ew3.ev.sa.ob,dq B l,D,_,_,_,ew3.ev.sa.ob,sc.c,sc.m0,qh B l,C,_,_,_,ew3.ev.la.ob,lc.c,lc.n14,Ej ew3.ev.ex,?_⟩;refine lV rfl ?_;refine Ic (y:=1) sc ew3.ev.sa hn (gv rfl) (gv rfl) (fun _ h=>⟨D,_,_,_,ew3.ev.sa.ob,sc.c,sc.m0,qh B l,C,_,_,_,ew3.ev.la.ob,lc.c,lc.n14,Ej ew3.ev.ex,h⟩) fun H7 z7=>⟨by show 2<=sizeLine;decide,fun pf hpf=> ?_⟩;have z8:=aj hpf (.lst [.int (at':Int),.int (S2.facts.idxOf (Fi.is y 1):Nat)]);exact gG (k:=1) (nn:=none) (fr:=[(at':Int),((S2.facts.idxOf (Fi.is y 1):Nat):Int)]) ((ew3.same z7).same z8) rg.1 ew.ev.p2 upd_same ((ew3.same z7).ev.sa.tg.free hpf) fun H8 T8 f8 ew8=>q H8 T8 (((f3.trans (Fr.of z7)).trans (Fr.of z8)).trans f8) ew8
 · rw[aA hn];rw[aA hn] at q;exact(q H3 T2 f3 ew3)
end
noncomputable def zA(S:StI)(x y:Nat)(e:Str × Str × Int):Nat:=anot (cH (eo S.facts y e.1)) (cH (eo S.facts x e.2.1))
noncomputable def zy(S:StI)(x y:Nat)(e:Str × Str × Int):Nat:=anot (cH (cA S.facts x e.1)) (cH (cA S.facts y e.2.1))
noncomputable def StI.mk1a(L:LoI)(at' x y:Nat)(e:Str × Str × Int)(S:StI)(z:Nat):StI:=StI.tellHas L S x e.2.1 z "makes" [(at':Int),((S.facts.idxOf (Fi.has y e.1 z):Nat):Int)] (some e.2.2)
noncomputable def StI.mk2a(L:LoI)(at' x y:Nat)(e:Str × Str × Int)(S:StI)(z:Nat):StI:=StI.tellHas L S z e.2.1 y "makes" [((S.facts.idxOf (Fi.has z e.1 x):Nat):Int),(at':Int)] (some e.2.2)
noncomputable def StI.byMk1(L:LoI)(at' x y:Nat)(S:StI)(e:Str × Str × Int):StI:=(cN (zA S x y e)).foldl (StI.mk1a L at' x y e) S
noncomputable def StI.byMk2(L:LoI)(at' x y:Nat)(S:StI)(e:Str × Str × Int):StI:=(cN (zy S x y e)).foldl (StI.mk2a L at' x y e) S
noncomputable def StI.fromChains(L:LoI)(S:StI)(at' x:Nat)(t:Str)(y:Nat):StI:=(L.mk2 t).foldl (StI.byMk2 L at' x y) ((L.mk1 t).foldl (StI.byMk1 L at' x y) S)
def Ed(L:LoI)(at' x y:Nat)(e:Str × Str × Int)(S:StI)(z:Nat)(f:Fi)(h:f∈S.facts):f∈(StI.mk1a L at' x y e S z).facts:=iI L S _ _ _ _ _ _ h
def Ec(L:LoI)(at' x y:Nat)(e:Str × Str × Int)(S:StI)(z:Nat)(f:Fi)(h:f∈S.facts):f∈(StI.mk2a L at' x y e S z).facts:=iI L S _ _ _ _ _ _ h
def xM(h:z∈cN (zA S x y e)):Fi.has y e.1 z∈S.facts:=by
 rw[kP,zA,nU,kf,aP,aX] at h;exact mem_endsOf.mp h.1
def xK(h:z∈cN (zy S x y e)):Fi.has z e.1 x∈S.facts:=by
 rw[kP,zy,nU,kf,aP,aX] at h;exact mem_startsOf.mp h.1
inductive jW(C D:Addr)(vs:List V)(H:Hp)(Q:VK):Prop
 | mk:∀(b l:Addr) (B:yn) (A:LoA) (N:Nat) (T:Tg) (L:LoI) (ts:List Str) (S:StI) (at' x:Nat) (t:Str) (y:Nat),(vs=[.ref b,.int (at':Int),.int (x:Int),.str t,.int (y:Int)])->(Ew C D B A b l N T H L ts S)->(x<L.parts.length)->(y<L.parts.length)->(∀H' T',Fr eN T T' H H'->Ew C D B A b l N T' H' L ts (StI.fromChains L S at' x t y)->Q .non H')->jW C D vs H Q
def mX(C D:Addr):Sp:=fun vs H Q _=>jW C D vs H Q
section
def scFC:bw ["self","at","x","tie","y","onward","made","number","z","before","w"] pA (aM jx):=gH
def sO(F:Fun K "from_chains" "Still.from_chains" jx f fd)(lc:wa K C)(sc:uB K D)(Gth:Ml P w K mg base D 6 "tell_has" qZ (jb C D))(Gbo:Cl P w K mg base 1 "bits_of" ["mask"] oi):b_ P w K mg base eU 7 f fd pA (mX C D):=by
 refine F.o scFC fun cdv A0 outer s0 H vs Q E hr h=> ?_;obtain⟨b,l,B,A,N,T,L,ts,S,at',x,t,y,rfl,ew,hx,hy,q⟩:=h;have hu:=fL hr;have hnN:L.parts.length<=100000:=ai (ai ew.ev.la.le ew.ev.hN) (by decide);refine⟨_,j0 (lO (bT (pP hu (c_ (c_ aD)) cE (bS cf))) (eY rfl (bG (eV 5 scFC.nd) (bG (eV 6 scFC.nd) (bG (eV 7 scFC.nd) dX)))) (bg (lO (bT (dG Gbo hr (eR (bF mo (pP hu (c_ aD) (cX (dO cG ee)) aw) (nA qC (pP hu (c_ aD) (cX (dO bJ eW)) aw)))))) (eV 8 scFC.nd) (bg (bC (gU aD sc.c Gth hr (bY bJ (bY eW (jz m_ bq (bS (dO bf (wg hu (c_ aD) (cX (iS cG ee m_))))) jh)))))))))
  (bg (lO (bT (pP hu (c_ (c_ aD)) cE (bS cf))) (eY rfl (bG (eV 9 scFC.nd) (bG (eV 6 scFC.nd) (bG (eV 7 scFC.nd) dX)))) (bg (lO (bT (dG Gbo hr (eR (bF mo (pP hu (c_ aD) (cX (dO bJ sN)) aw) (nA qC (pP hu (c_ aD) (cX (dO cG eW)) aw)))))) (eV 10 scFC.nd) (bg (bC (gU aD sc.c Gth hr (bY (pv 10) (bY eW (jz cG bq (bS (dO (wg hu (c_ aD) (cX (iS (pv 10) sN bJ))) bf)) jh)))))))))),?_⟩
 refine⟨fun σ H'=>∃(o5 o6 o7 o8 o9 o10:Option V) (T':Tg),σ=[some (.ref b),some (.int (at':Int)),some (.int (x:Int)),some (.str t),some (.int (y:Int)),o5,o6,o7,o8,o9,o10]/\Fr eN T T' H H'/\Ew C D B A b l N T' H' L ts ((L.mk1 t).foldl (StI.byMk1 L at' x y) S),?_,?_⟩
 · have _:=hx;refine⟨D,_,_,_,ew.ev.sa.ob,sc.c,sc.m0,qh B l,C,_,_,_,ew.ev.la.ob,lc.c,lc.n7,ND A,.inl ⟨_,.inl (id ew.ev.la.f7).2.choose_spec.1⟩,av _,fun g0 hg0=> ?_⟩;obtain⟨kvs,qq,vs,ep,eg,eq,rv,stay⟩:=jr es3_mo ew.ev.la.f7 ew.ev.la.tg hg0 (.inr t);rw[zH] at rv;have z1:=aj hg0 (.lst []);have ew1:=ew.same z1;have f1:Fr eN T T H (upd H g0 (.lst [])):=Fr.of z1;generalize upd H g0 (.lst [])=H1 at ep eq rv stay ew1 f1⊢;refine⟨_,DGet.k (k:= .inr t) ep,?_⟩;rw[eg];have lv:=bu rv;refine⟨⟨_,SqL.of eq⟩,ck (xs:=vs) (fun i σ H2=>∃(o5 o6 o7 o8 o9 o10:Option V) (T2:Tg),σ=[some (.ref b),some (.int (at':Int)),some (.int (x:Int)),some (.str t),some (.int (y:Int)),o5,o6,o7,o8,o9,o10]/\Fr eN T T2 H1 H2/\Ew C D B A b l N T2 H2 L ts (((L.mk1 t).take i).foldl (StI.byMk1 L at' x y) S)) ⟨none,none,none,none,none,none,T,rfl,Fr.refl,ew1⟩ ?_ ?_ ?_⟩
   · rintro i σ H2 _ ⟨o5,o6,o7,o8,o9,o10,T2,rfl,f2,_⟩;exact SqL.of (stay f2 (by decide))
   · rintro i v σ H2 hv ⟨o5,o6,o7,o8,o9,o10,T2,rfl,f2,ew2⟩;obtain⟨e,he,t0,rfl,ht⟩:=dt rv hv;have hin:=au he;rw[du _ _ he];generalize ((L.mk1 t).take i).foldl (StI.byMk1 L at' x y) S=S2 at ew2⊢;refine⟨_,SqT.of (f2.tups _ _ ht),rfl,?_⟩;refine g3 ?_;refine(k_ (a:=cH (eo S2.facts y e.1)) (c:=cH (eo S2.facts x e.2.1)) (n:=L.parts.length) ?_ ?_ (nG fun i hi=>(ew2.wf.rg _ (mem_endsOf.mp hi)).2.2) hnN fun H4 pl z4 epl tpl=> ?_:lQ _ _ _ _ _)
     · exact fun Q k=>mB sc sc.m8 (LW B l) ew2.ev.sa.ob ew2.ev.sa.s7 (gv rfl) (gv rfl) (gv rfl) k
     · exact fun H3 Q z3 k=>mB sc sc.m8 (LW B l) (ew2.same z3).ev.sa.ob (ew2.same z3).ev.sa.s7 (gv rfl) (gv rfl) (gv rfl) k
     have ew4:=ew2.same z4;replace tpl:=tpl _ ew2.ev.sa.tg;have f4:=f2.trans (Fr.of (S:=eN) (T:=T2) z4);refine ck (xs:=(cN (zA S2 x y e)).map fun(i:Nat)=>V.int (i:Int)) (fun i σ H5=>∃(oo:Option V) (T5:Tg),σ=[some (.ref b),some (.int (at':Int)),some (.int (x:Int)),some (.str t),some (.int (y:Int)),some (.str e.1),some (.str e.2.1),some (.int e.2.2),oo,o9,o10]/\Fr eN T2 T5 H4 H5/\Ew C D B A b l N T5 H5 L ts (((cN (zA S2 x y e)).take i).foldl (StI.mk1a L at' x y e) S2)) ⟨o8,T2,rfl,Fr.refl,ew4⟩ ?_ ?_ ?_
     · rintro i σ H5 _ ⟨oo,T5,rfl,f5,_⟩;exact SqL.of (Fr.free f5 epl tpl).2
     · rintro i v σ H5 hv ⟨oo,T5,rfl,f5,ew5⟩;rw[aH,aQ] at hv;obtain⟨z,hz,rfl⟩:=hv;have hm:=xM (au hz);have hm5:=gN (Ed L at' x y e) ((cN (zA S2 x y e)).take i) hm;rw[du _ _ hz];generalize ((cN (zA S2 x y e)).take i).foldl (StI.mk1a L at' x y e) S2=S5 at ew5 hm5⊢;refine⟨_,_,ew5.ev.sa.ob,gL B l,cV rfl (cV rfl (cV rfl (lV rfl ?_)))⟩;refine vW sc ew5.ev.sa hm5 (gv rfl) (gv rfl) (gv rfl) (gv rfl) fun H6 z6=>⟨by show 2<=sizeLine;decide,fun pf hpf=> ?_⟩;have z7:=aj hpf (.lst [.int (at':Int),.int (S5.facts.idxOf (Fi.has y e.1 z):Nat)]);exact jT (nn:=some e.2.2) (fr:=[(at':Int),((S5.facts.idxOf (Fi.has y e.1 z):Nat):Int)]) ((ew5.same z6).same z7) hx (ew.wd.m1 t e hin) (ew2.wf.rg _ hm).2.2 upd_same ((ew5.same z6).ev.sa.tg.free hpf) fun H8 T8 f8 ew8=>⟨_,T8,rfl,((f5.trans (Fr.of z6)).trans (Fr.of z7)).trans f8,ew8⟩
     · rintro σ H5 ⟨oo,T5,rfl,f5,ew5⟩;rw[ae,aY] at ew5;exact⟨_,_,_,_,_,_,T5,rfl,f4.trans f5,ew5⟩
   · rintro σ H2 ⟨o5,o6,o7,o8,o9,o10,T2,rfl,f2,ew2⟩;rw[lv,aY] at ew2;exact⟨o5,o6,o7,o8,o9,o10,T2,rfl,f1.trans f2,ew2⟩
 rintro σ H' ⟨o5,o6,o7,o8,o9,o10,T',rfl,fr,ew0⟩;unfold StI.fromChains at q;generalize (L.mk1 t).foldl (StI.byMk1 L at' x y) S=S0 at ew0 q;refine⟨D,_,_,_,ew0.ev.sa.ob,sc.c,sc.m0,qh B l,C,_,_,_,ew0.ev.la.ob,lc.c,lc.n8,NC A,.inl ⟨_,.inl (id ew0.ev.la.f8).2.choose_spec.1⟩,av _,fun g0 hg0=> ?_⟩;obtain⟨kvs,qq,vs,ep,eg,eq,rv,stay⟩:=jr es3_mo ew0.ev.la.f8 ew0.ev.la.tg hg0 (.inr t);rw[zH] at rv;have z1:=aj hg0 (.lst []);have ew1:=ew0.same z1;have f1:Fr eN T' T' H' (upd H' g0 (.lst [])):=Fr.of z1;generalize upd H' g0 (.lst [])=H1 at ep eq rv stay ew1 f1⊢;refine⟨_,DGet.k (k:= .inr t) ep,?_⟩;rw[eg];have lv:=bu rv;refine⟨⟨_,SqL.of eq⟩,ck (xs:=vs) (fun i σ H2=>∃(o5 o6 o7 o8 o9 o10:Option V) (T2:Tg),σ=[some (.ref b),some (.int (at':Int)),some (.int (x:Int)),some (.str t),some (.int (y:Int)),o5,o6,o7,o8,o9,o10]/\Fr eN T' T2 H1 H2/\Ew C D B A b l N T2 H2 L ts (((L.mk2 t).take i).foldl (StI.byMk2 L at' x y) S0)) ⟨o5,o6,o7,o8,o9,o10,T',rfl,Fr.refl,ew1⟩ ?_ ?_ ?_⟩
 · rintro i σ H2 _ ⟨o5,o6,o7,o8,o9,o10,T2,rfl,f2,_⟩;exact SqL.of (stay f2 (by decide))
 · rintro i v σ H2 hv ⟨o5,o6,o7,o8,o9,o10,T2,rfl,f2,ew2⟩;obtain⟨e,he,t0,rfl,ht⟩:=dt rv hv;have hin:=au he;rw[du _ _ he];generalize ((L.mk2 t).take i).foldl (StI.byMk2 L at' x y) S0=S2 at ew2⊢;refine⟨_,SqT.of (f2.tups _ _ ht),rfl,?_⟩;refine g3 ?_;refine(k_ (a:=cH (cA S2.facts x e.1)) (c:=cH (cA S2.facts y e.2.1)) (n:=L.parts.length) ?_ ?_ (nG fun i hi=>(ew2.wf.rg _ (mem_startsOf.mp hi)).1) hnN fun H4 pl z4 epl tpl=> ?_:lQ _ _ _ _ _)
   · exact fun Q k=>mB sc sc.m9 (Ka B l) ew2.ev.sa.ob ew2.ev.sa.s8 (gv rfl) (gv rfl) (gv rfl) k
   · exact fun H3 Q z3 k=>mB sc sc.m9 (Ka B l) (ew2.same z3).ev.sa.ob (ew2.same z3).ev.sa.s8 (gv rfl) (gv rfl) (gv rfl) k
   have ew4:=ew2.same z4;replace tpl:=tpl _ ew2.ev.sa.tg;have f4:=f2.trans (Fr.of (S:=eN) (T:=T2) z4);refine ck (xs:=(cN (zy S2 x y e)).map fun(i:Nat)=>V.int (i:Int)) (fun i σ H5=>∃(oo:Option V) (T5:Tg),σ=[some (.ref b),some (.int (at':Int)),some (.int (x:Int)),some (.str t),some (.int (y:Int)),o5,some (.str e.2.1),some (.int e.2.2),o8,some (.str e.1),oo]/\Fr eN T2 T5 H4 H5/\Ew C D B A b l N T5 H5 L ts (((cN (zy S2 x y e)).take i).foldl (StI.mk2a L at' x y e) S2)) ⟨o10,T2,rfl,Fr.refl,ew4⟩ ?_ ?_ ?_
   · rintro i σ H5 _ ⟨oo,T5,rfl,f5,_⟩;exact SqL.of (Fr.free f5 epl tpl).2
   · rintro i v σ H5 hv ⟨oo,T5,rfl,f5,ew5⟩;rw[aH,aQ] at hv;obtain⟨z,hz,rfl⟩:=hv;have hm:=xK (au hz);have hm5:=gN (Ec L at' x y e) ((cN (zy S2 x y e)).take i) hm;rw[du _ _ hz];generalize ((cN (zy S2 x y e)).take i).foldl (StI.mk2a L at' x y e) S2=S5 at ew5 hm5⊢;refine⟨_,_,ew5.ev.sa.ob,gL B l,cV rfl (cV rfl (cV rfl ?_))⟩;refine vW sc ew5.ev.sa hm5 (gv rfl) (gv rfl) (gv rfl) (gv rfl) fun H6 z6=>⟨by show 2<=sizeLine;decide,fun pf hpf=> ?_⟩;have z7:=aj hpf (.lst [.int (S5.facts.idxOf (Fi.has z e.1 x):Nat),.int (at':Int)]);exact jT (nn:=some e.2.2) (fr:=[((S5.facts.idxOf (Fi.has z e.1 x):Nat):Int),(at':Int)]) ((ew5.same z6).same z7) (ew2.wf.rg _ hm).1 (ew.wd.m2 t e hin) hy upd_same ((ew5.same z6).ev.sa.tg.free hpf) fun H8 T8 f8 ew8=>⟨_,T8,rfl,((f5.trans (Fr.of z6)).trans (Fr.of z7)).trans f8,ew8⟩
   · rintro σ H5 ⟨oo,T5,rfl,f5,ew5⟩;rw[ae,aY] at ew5;exact⟨_,_,_,_,_,_,T5,rfl,f4.trans f5,ew5⟩
 · rintro σ H2 ⟨o5,o6,o7,o8,o9,o10,T2,rfl,f2,ew2⟩;rw[lv,aY] at ew2;exact q H2 T2 ((fr.trans f1).trans f2) ew2
end
noncomputable def StI.turn(L:LoI)(S:StI)(at':Nat):Fi->StI
 | .is x k=>StI.fromEnd L (StI.fromPairs L (StI.fromKind L S at' x k) at' x k) at' x k
 | .has x t y=>StI.fromChains L (StI.fromTie L S at' x t y) at' x t y
def E4(L:LoI)(at' x:Nat)(S:StI)(e:Nat × Int × Bool)(f:Fi)(h:f∈S.facts):f∈(StI.byNo L at' x S e).facts:=by
 unfold StI.byNo
 split
 · exact(dm L S x 1 "no" _ _).1 f h
 · exact h
def zT(L:LoI)(at' x:Nat)(S:StI)(e:Nat × Nat × Bool)(f:Fi)(h:f∈S.facts):f∈(StI.byBoth L at' x S e).facts:=by
 unfold StI.byBoth
 split
 · exact(dm L S x e.2.1 "both" _ _).1 f h
 · exact h
def sR(L:LoI)(S:StI)(at' x k:Nat){f:Fi}(h:f∈S.facts):f∈(StI.fromPairs L S at' x k).facts:=gN (zT L at' x) _ (gN (E4 L at' x) _ h)
def vR(L:LoI)(S:StI)(at' x k:Nat){f:Fi}(h:f∈S.facts):f∈(StI.fromKind L S at' x k).facts:=by
 have h1:f∈((L.everys k).foldl (fun S e=>StI.tellIs L S x e.1 "every" [(at':Int)] (some e.2)) S).facts:=gN (g:=fun S (e:Nat × Int)=>StI.tellIs L S x e.1 "every" [(at':Int)] (some e.2)) (fun S e f h=>(dm L S x e.1 "every" _ _).1 f h) _ h;unfold StI.fromKind;dsimp only
 split
 · exact(dm L _ x _ "second" _ _).1 f ((dm L _ x _ "first" _ _).1 f h1)
 · exact iI L _ x _ _ "some" _ _ h1
 · exact h1
noncomputable def MY(M:Nat):L2.St->Nat
 | _::some (.int i)::_=>M - i.toNat
 | _=>0
inductive J4(L:LoI)(S0:StI):Nat->StI->Prop where
 | zero:J4 L S0 0 S0
 | step {i:Nat} {S:StI} {f:Fi}:J4 L S0 i S->S.facts[i]? =some f->J4 L S0 (i+1) (StI.turn L S i f)
inductive wU(C D:Addr)(vs:List V)(H:Hp)(Q:VK):Prop
 | mk:∀b l B A N T L ts S,(vs=[.ref b])->(Ew C D B A b l N T H L ts S)->(∀H' T' S' i,Fr eN T T' H H'->Ew C D B A b l N T' H' L ts S'->J4 L S i S'->S'.facts.length<=i->Q .non H')->wU C D vs H Q
def C4(C D:Addr):Sp:=fun vs H Q _=>wU C D vs H Q
section
def scGO:bw ["self","at","x","kind","tie","y"] ng (aM yT):=gH
def Gq(F:Fun K "go_on" "Still.go_on" yT f fd)(sc:uB K D)(ml:mg "len"=none)(Gfk:Ml P w K mg base D 7 "from_kind" pC (qP C D))(Gfp:Ml P w K mg base D 3 "from_pairs" pC (ph C D))(Gfe:Ml P w K mg base D 3 "from_end" AU (t_ C D))(Gft:Ml P w K mg base D 7 "from_tie" pA (tZ C D))(Gfc:Ml P w K mg base D 7 "from_chains" pA (mX C D)):b_ P w K mg base eU 8 f fd ng (C4 C D):=by
 refine F.o scGO fun cdv A0 outer s0 H vs Q E hr h=> ?_;obtain⟨b,l,B,A,N,T,L,ts,S,rfl,ew,q⟩:=h;have hu:=fL hr;refine⟨_,ba (fR 1 scGO.nd aw)
  (bg (xn Ff (eX lP bf (BR ml (c_ aD))) (ba (bL (eX cT (BR ml (oA di (c_ aD) bf)) aw) (ba (iP (oA di (c_ aD) bf) (eY rfl (bG (eV 2 scGO.nd) (bG (eV 3 scGO.nd) dX)))) (ba (bC (gU aD sc.c Gfk hr (iS bf bJ cE))) (ba (bC (gU aD sc.c Gfp hr (iS bf bJ cE))) (bg (bC (gU aD sc.c Gfe hr (iS bf bJ cE))))))) (ba (iP (oA di (c_ aD) bf) (eY rfl (bG (eV 2 scGO.nd) (bG (eV 4 scGO.nd) (bG (eV 5 scGO.nd) dX))))) (ba (bC (gU aD sc.c Gft hr (jz bf bJ cG ee))) (bg (bC (gU aD sc.c Gfc hr (jz bf bJ cG ee))))))) (bg (Dt (i:=1) scGO.nd rfl (Or.inl rfl) aw JH))))),?_⟩
 refine gn ?_;show uJ _ _ {nx:=_,rt:=_,bk:=_,ct:=_} _ _;refine wu (fun σ H'=>∃(i:Nat) (o2 o3 o4 o5:Option V) (T':Tg) (S':StI),σ=[some (.ref b),some (.int (i:Int)),o2,o3,o4,o5]/\Fr eN T T' H H'/\Ew C D B A b l N T' H' L ts S'/\J4 L S i S') (fun σ _=>MY (gA L.parts.length ts) σ) ⟨0,none,none,none,none,T,S,rfl,Fr.refl,ew,.zero⟩ ?_ (fun σ H Q Q' hm h=>by obtain⟨x,e,h1⟩:=onV.ex h;obtain⟨y,e',h2⟩:=onV.ex h1;obtain⟨a,rfl,C',dx,fs,v,h3,h4,h5,h6,p,ys,h7,h8,h9⟩:=onR.ex h2;obtain⟨i,rfl,h10⟩:=onI.ex h9;exact onV.of e (onV.of e' ⟨C',dx,fs,v,h3,h4,h5,h6,p,ys,h7,h8,hm _ _ h10⟩));rintro σ H1 ⟨i,o2,o3,o4,o5,T1,S1,rfl,f1,ew1,r1⟩;obtain⟨_,vs,e1,rv⟩:=id ew1.ev.sa.s1;have lv:vs.length=S1.facts.length:=bu rv;refine⟨D,_,_,_,ew1.ev.sa.ob,sc.c,sc.m2,Kb B l,B.q1,vs,rfl,.inl (SqL.of e1),?_⟩;by_cases hi:i<S1.facts.length
 · obtain⟨fa,hfa⟩:∃fa,S1.facts[i]? =some fa:=⟨_,aq hi⟩;have hin:=au hfa;have rg:=ew1.wf.rg _ hin;obtain⟨v,hv,iv⟩:=pO rv hfa;have mu:∀o2 o3 o4 o5:Option V,MY (gA L.parts.length ts) [some (.ref b),some (.int ((i:Int)+1)),o2,o3,o4,o5]<MY (gA L.parts.length ts) [some (.ref b),some (.int (i:Int)),o2,o3,o4,o5]:=fun _ _ _ _=>by
    show gA L.parts.length ts - ((i:Int)+1).toNat<gA L.parts.length ts - (i:Int).toNat;have:=ew1.wf.cnt;unfold StI.cnt at this
    lia
   refine oI (ah (show(i:Int)<((vs.length:Nat):Int) by lia)) ⟨D,_,_,_,ew1.ev.sa.ob,sc.c,sc.m2,Kb B l,vs,v,SqL.of e1,aJ hv,?_⟩;cases fa with
   | is x k=>
     obtain⟨pp,rfl,hpp⟩:=iv;refine⟨pp,_,rfl,.inr (SqT.of hpp),?_⟩;refine⟨D,_,_,_,ew1.ev.sa.ob,sc.c,sc.m2,Kb B l,vs,_,SqL.of e1,aJ hv,_,SqT.of hpp,rfl,?_⟩;refine⟨_,_,ew1.ev.sa.ob,uP B l,?_⟩;refine⟨b,l,B,A,N,T1,L,ts,S1,i,x,k,rfl,ew1,rg.1,rg.2,fun H2 T2 f2 ew2=> ?_⟩;refine⟨_,_,ew2.ev.sa.ob,sL B l,?_⟩;refine⟨b,l,B,A,N,T2,L,ts,_,i,x,k,rfl,ew2,rg.1,fun H3 T3 f3 ew3=> ?_⟩;refine⟨_,_,ew3.ev.sa.ob,wZ B l,?_⟩;refine⟨b,l,B,A,N,T3,L,ts,_,i,x,k,rfl,ew3,sR L _ i x k (vR L S1 i x k hin),fun H4 T4 f4 ew4=> ?_⟩;exact⟨_,rfl,_,_,rfl,rfl,⟨i+1,_,_,_,_,T4,_,rfl,((f1.trans f2).trans f3).trans f4,ew4,.step r1 hfa⟩,mu _ _ _ _⟩
   | has x t y=>
     obtain⟨pp,rfl,hpp⟩:=iv;refine⟨pp,_,rfl,.inr (SqT.of hpp),?_⟩;refine⟨D,_,_,_,ew1.ev.sa.ob,sc.c,sc.m2,Kb B l,vs,_,SqL.of e1,aJ hv,_,SqT.of hpp,rfl,?_⟩;refine⟨_,_,ew1.ev.sa.ob,wY B l,?_⟩;refine⟨b,l,B,A,N,T1,L,ts,S1,i,x,t,y,rfl,ew1,hin,fun H2 T2 f2 ew2=> ?_⟩;refine⟨_,_,ew2.ev.sa.ob,qR B l,?_⟩;refine⟨b,l,B,A,N,T2,L,ts,_,i,x,t,y,rfl,ew2,rg.1,rg.2.2,fun H4 T4 f4 ew4=> ?_⟩;exact⟨_,rfl,_,_,rfl,rfl,⟨i+1,_,_,_,_,T4,_,rfl,(f1.trans f2).trans f4,ew4,.step r1 hfa⟩,mu _ _ _ _⟩
 · exact oI (ag (show ¬ (i:Int)<((vs.length:Nat):Int) by lia)) (q H1 T1 S1 i f1 ew1 r1 (by lia))
end
theorem LoI.num_shapes:∀k L,∃l,(LoI.num k L).shapes=L.shapes++l/\∀r j,Sh.some r j∈l->r∈Kd.tieL k
 | .nm x,L=>by
   rw[LoI.num]
   split
   · exact⟨[],by simp,fun _ _ h=>(ao h).elim⟩
   · exact⟨[.no],rfl,fun r j h=>by cases af.mp h⟩
 | .two a b,L=>by
   rw[LoI.num];obtain⟨la,ea,ha⟩:=LoI.num_shapes a L;obtain⟨lb,eb,hb⟩:=LoI.num_shapes b (LoI.num a L)
   split
   · exact⟨[],by simp,fun _ _ h=>(ao h).elim⟩
   · refine⟨la++(lb++[.both ((LoI.num a L).ix a) ((LoI.num b (LoI.num a L)).ix b)]),by show(LoI.num b (LoI.num a L)).shapes++_=_;rw[eb,ea];simp,fun r j h=> ?_⟩;show r∈Kd.tieL a++Kd.tieL b;rcases ay.mp h with h | h
     · exact aS _ (ha r j h)
     · rcases ay.mp h with h | h
       · exact aR _ (hb r j h)
       · cases af.mp h
 | .som t c,L=>by
   rw[LoI.num];obtain⟨lc,ec,hc⟩:=LoI.num_shapes c L
   split
   · exact⟨[],by simp,fun _ _ h=>(ao h).elim⟩
   · refine⟨lc++[.some t ((LoI.num c L).ix c)],by show(LoI.num c L).shapes++_=_;rw[ec];simp,fun r j h=> ?_⟩;show r∈t::Kd.tieL c;rcases ay.mp h with h | h
     · exact aG _ (hc r j h)
     · cases af.mp h;exact aL
theorem LoI.num_len:∀k L,(LoI.num k L).parts.length<=L.parts.length+k.sz
 | .nm x,L=>by
   rw[LoI.num]
   split
   · lia
   · show(L.parts++[_]).length<=_;rw[ak];simp[Kd.sz]
 | .two a b,L=>by
   have h1:=LoI.num_len a L;have h2:=LoI.num_len b (LoI.num a L);rw[LoI.num]
   split
   · lia
   · show((LoI.num b (LoI.num a L)).parts++[_]).length<=_;rw[ak];simp only[Kd.sz,bj,dM];lia
 | .som r c,L=>by
   have h1:=LoI.num_len c L;rw[LoI.num]
   split
   · lia
   · show((LoI.num c L).parts++[_]).length<=_;rw[ak];simp only[Kd.sz,bj,dM];lia
def LoI.num_le(k:Kd)(L:LoI):L.parts.length<=(LoI.num k L).parts.length:=by
 obtain⟨l,e⟩:=LoI.num_sub k L;rw[e,ak];lia
def Cp(h:∀x k,Fi.is x k∈F->k<sh.length)(x:Nat)(r:Str):fh (sh++l) F x r=fh sh F x r:=by
 unfold fh
 induction F with
 | nil=>rfl
 | cons f F ih=>
   rw[gO,gO,ih fun x k hk=>h x k (aG _ hk)];cases f with
   | is a k=>dsimp only;rw[bQ (h a k aL)]
   | has a t y=>rfl
def Wf.mono(w:Wf n ts S)(h:n<=n'):Wf n' ts S:=by
 refine⟨w.nd,fun f hf=> ?_,w.sd,fun i hi=>ax (w.sr i hi) h,w.st0,w.hs⟩;have:=w.rg f hf;cases f with
 | is x k=>exact⟨ax this.1 h,ax this.2 h⟩
 | has x t y=>exact⟨ax this.1 h,this.2.1,ax this.2.2 h⟩
def LoI.Wd.num{L:LoI}{ts:List Str}(w:L.Wd ts){k:Kd}(ht:∀r∈Kd.tieL k,r∈ts):(LoI.num k L).Wd ts:=by
 obtain⟨_,e1,e2,e3,e4,e5,e6,e7,e8,e9⟩:=LoI.num_rest k L;have le:=LoI.num_le k L;refine⟨fun i e h=> ?_,fun i e h=> ?_,fun i e h=> ?_,fun i e h=> ?_,fun i e h=> ?_,fun i e h=> ?_,fun i e h=> ?_,fun r m i h1 h2=> ?_,fun i r j h=> ?_⟩
 · rw[e1] at h;exact ax (w.ev i e h) le
 · rw[e2] at h;exact ax (w.no i e h) le
 · rw[e3] at h;exact w.wi i e h
 · rw[e4] at h;exact w.m1 i e h
 · rw[e5] at h;exact w.m2 i e h
 · rw[e6] at h;exact⟨ax (w.bo i e h).1 le,ax (w.bo i e h).2 le⟩
 · rw[e7] at h;exact ax (w.so i e h) le
 · rw[e8] at h1;obtain⟨q,h3,h4,h5⟩:=w.fi r m i h1 h2;exact⟨q,by rw[e9];exact h3,ax h4 le,ax h5 le⟩
 · obtain⟨l,e,hl⟩:=LoI.num_shapes k L;rw[e] at h;rcases eB i L.shapes.length with c | c
   · rw[bQ c] at h;exact w.sh i r j h
   · rw[cy c] at h;exact ht r (hl r j (au h))
def rZ(h:n<=n'):gA n ts<=gA n' ts:=by
 have h2:n * n<=n' * n':=Hd h h;have h3:=Nat.mul_le_mul_left ts.length h2;unfold gA
 lia
def Ew.num(h:Ew C D B A b l N T H L ts S)(f:Fr [0,1,2] T T' H H')(la:LoreAt C A l (N+k.sz) T' H' (LoI.num k L))(ht:∀r∈Kd.tieL k,r∈ts)(hN:N+k.sz<=50000)(hM:(LoI.num k L).parts.length<=M)(bd:gA M ts<=9800000):Ew C D B A b l (N+k.sz) T' H' (LoI.num k L) ts S:=by
 obtain⟨sl,e,_⟩:=LoI.num_shapes k L;have le:=LoI.num_le k L;have sa:=StG.fr h.ev.sa f (by decide) la.tg;have eg:S.gd L.shapes=S.gd (LoI.num k L).shapes:=by
  unfold StI.gd;rw[e]
  congr 1
  exact iA fun x r=>(Cp (fun a c hc=>by rw[h.ev.ok.sl];exact(h.wf.rg _ hc).2) x r).symm
 refine⟨⟨?_,la,LoI.num_ok k h.ev.ok,h.ev.ex,hN,h.ev.sl,ai h.ev.p2 le⟩,h.wf.mono le,h.wd.num ht,ai (rZ hM) bd⟩;show StG D B b l S.cnt T' H' (S.gd (LoI.num k L).shapes);rw[<-eg];exact sa
noncomputable abbrev SB:List Nat:=[0,1,2,13,14,15,16,17,18,19,20,21,22]
def N7(f:Fr [0,1,2] T T' H H'):Fr SB T T' H H':=f.mono (by decide)
def IE(f:Fr eN T T' H H'):Fr SB T T' H H':=f.mono (by decide)
abbrev LS:=LoI × StI
noncomputable def jK(p:LS)(k:Kd):LS:=(LoI.num k p.1,StI.letStand (LoI.num k p.1) p.2 ((LoI.num k p.1).ix k))
noncomputable def kC(p:LS)(q:Int × Sy):LS:=match q.2 with
 | .thing x c=>(LoI.num c (LoI.num (.nm x) p.1),StI.tellIs (LoI.num c (LoI.num (.nm x) p.1)) p.2 ((LoI.num (.nm x) p.1).ix (.nm x)) ((LoI.num c (LoI.num (.nm x) p.1)).ix c) "thing" [] (some q.1))
 | .tied x t y=>(LoI.num (.nm y) (LoI.num (.nm x) p.1),StI.tellHas (LoI.num (.nm y) (LoI.num (.nm x) p.1)) p.2 ((LoI.num (.nm x) p.1).ix (.nm x)) t ((LoI.num (.nm y) (LoI.num (.nm x) p.1)).ix (.nm y)) "tied" [] (some q.1))
 | _=>p
noncomputable def cj(ks:List Kd)(A:List Str)(ps:List (Int × Sy))(p:LS):LS:=ps.foldl kC ((ks++A.map Kd.nm).foldl jK p)
noncomputable def i_(ks:List Kd):Nat:=(ks.map Kd.sz).sum
noncomputable def mT(ps:List (Int × Sy)):Nat:=(ps.map fun q=>q.2.szs).sum
def Sy.tsOk(ts:List Str)(s:Sy):Prop:=(∀c∈s.parts,∀r∈Kd.tieL c,r∈ts)/\∀x t y,s= .tied x t y->t∈ts
theorem xH(H:Hp):∀(A:List Str),KL H (A.map V.str) (A.map Kd.nm)
 | []=> .nil
 | _::A=> .cons rfl (xH H A)
theorem wC:∀(A:List Str),i_ (A.map Kd.nm)=A.length
 | []=>rfl
 | _::A=>by
   have:=wC A;unfold i_ at this⊢;rw[bM,bM,nY,this,bj];simp[Kd.sz];lia
def wA{s:Sy}(h:x∈s.things):Kd.nm x∈s.parts:=by
 cases s with
 | thing a c=>rw[show x=a by simpa[Sy.things] using h];simp[Sy.parts]
 | tied a t b=>rcases(show x=a\/x=b by simpa[Sy.things] using h) with e | e<;>(rw[e];simp[Sy.parts])
 | every a b=>simp[Sy.things] at h
 | no a b=>simp[Sy.things] at h
 | within a b=>simp[Sy.things] at h
 | makes a b c=>simp[Sy.things] at h
def ji(h:x∈d3 ps):∃q∈ps,x∈q.2.things:=by
 unfold d3 at h;obtain⟨l,hl,hx⟩:=CB.mp h;obtain⟨q,hq,rfl⟩:=bK.mp hl;exact⟨q,hq,hx⟩
def Ew.mono(h:Ew C D B A b l N T H L ts S)(hn:N<=N')(hN:N'<=50000):Ew C D B A b l N' T H L ts S:=⟨⟨h.ev.sa,h.ev.la.mono hn,h.ev.ok,h.ev.ex,hN,h.ev.sl,h.ev.p2⟩,h.wf,h.wd,h.bd⟩
def rp(ew:Ew C D B A b l N T H L ts S)(ik:IsK H k v)(gk:vC d k)(ht:∀r∈Kd.tieL k,r∈ts)(hN:N+k.sz<=50000)(hM:L.parts.length+k.sz<=M)(bd:gA M ts<=9800000)(q:∀H' T',Fr SB T T' H H'->Ew C D B A b l (N+k.sz) T' H' (LoI.num k L) ts S->Q (.int ((LoI.num k L).ix k:Nat)) H'):uN C d [.ref l,v] H Q:=⟨l,A,N,T,L,v,k,rfl,ew.ev.la,ik,gk.1,gk.2.1,gk.2.2,ai hN (by decide),fun H' T' f la=>q H' T' (N7 f) (ew.num f la ht hN (ai (LoI.num_len k L) hM) bd)⟩
def Jw(ew:Ew C D B A b l N T H L ts S)(hx:x<L.parts.length)(q:∀H' T',Fr SB T T' H H'->Ew C D B A b l N T' H' L ts (StI.letStand L S x)->Q .non H'):jv C D [.ref b,.int (x:Int)] H Q:=⟨b,l,B,A,N,T,L,S,x,rfl,ew.ev,hx,ai ew.cnt (by decide),fun H' T' f ev=>q H' T' (IE f) (ew.tell ev (ew.wf.letStand hx))⟩
inductive ub(C D:Addr)(d:Nat)(vs:List V)(H:Hp)(Q:VK):Prop
 | mk:∀b l B A N M T L ts S lp ls ys zs ps ks,(vs=[.ref b,.ref lp,.ref ls])->(Ew C D B A b l N T H L ts S)->(H lp=some (.lst ys))->(T lp=none)->(PrL H ys ps)->(H ls=some (.lst zs))->(KL H zs ks)->((∀q∈ps,q.2.okS/\q.2.gd d/\q.2.tsOk ts))->((∀k∈ks,vC d k/\∀r∈Kd.tieL k,r∈ts))->(ps.length<=100)->(N+i_ ks+3 * ps.length+mT ps<=50000)->(L.parts.length+i_ ks+3 * ps.length+mT ps<=M)->(gA M ts<=9800000)->(∀H' T' Tn N',Fr SB T T' H H'->(∀x,x∈Tn↔x∈d3 ps)->Ew C D B A b l N' T' H' (cj ks Tn ps (L,S)).1 ts (cj ks Tn ps (L,S)).2->Q .non H')->ub C D d vs H Q
def AD(C D:Addr)(d:Nat):Sp:=fun vs H Q _=>ub C D d vs H Q
section
def scBeg:bw ["self","pairs","starts","lore","x","number","saying"] AR (aM uX):=gH
def D5(hd:d<=31)(F:Fun K "begin" "Still.begin" uX f fd)(lc:wa K C)(sc:uB K D)(mls:mg "list"=none)(Gti:Ml P w K mg base D 2 "tell_is" ni (gJ C D))(Gth:Ml P w K mg base D 6 "tell_has" qZ (jb C D))(Gno:Ml P w K mg base C (2 * d) "number_of" fA (mU C d))(Gls:Ml P w K mg base D 5 "let_stand" fA (lX C D))(Gtn:Cl P w K mg base 63 "things_named" ["pairs"] tJ):b_ P w K mg base eU 64 f fd AR (AD C D d):=by
 refine F.o scBeg fun cdv A0 outer s0 H vs Q E hr h=> ?_;obtain⟨b,l,B,A,N,M,T,L,ts,S,lp,ls,ys,zs,ps,ks,rfl,ew,elp,tlp,hps,els,hks,gp,gk,l100,hN,hM,bd,q⟩:=h;have hu:=fL hr;refine⟨_,ba (fR 3 scBeg.nd (c_ aD))
  (ba (lO (bT (bF zj (fI hZ rfl mls bU (eR bJ)) (fI (fF rfl) rfl mls bU (eR (dG Gtn hr (eR bf)))))) (eV 4 scBeg.nd) (bg (bC (gU aD sc.c Gls hr (eR (gU cE lc.c Gno hr (eR cG)))))))
  (bg (lO (bT bf) (eY rfl (bG (eV 5 scBeg.nd) (bG (eV 6 scBeg.nd) dX))) (bg (bL (eX cT (eh eW) bq) (bg (bC (gU aD sc.c Gti hr (bY (gU cE lc.c Gno hr (eR (eh eW))) (jz (gU cE lc.c Gno hr (eR (eh eW))) bq (bS cf) ee))))) (bg (bL (eX cT (eh eW) bq) (bg (bC (gU aD sc.c Gth hr (bY (gU cE lc.c Gno hr (eR (eh eW))) (bY (eh eW) (jz (gU cE lc.c Gno hr (eR (eh eW))) bq (bS cf) ee)))))) be))))))),?_⟩
 refine⟨D,_,_,_,ew.ev.sa.ob,sc.c,sc.m0,qh B l,?_⟩;refine gn ?_;refine⟨ls,zs,rfl,.inl (SqL.of els),fun p1 hp1=> ?_⟩;have y1:=aj hp1 (.lst zs);refine⟨lp,ys,ps,rfl,y1 _ _ elp,PrL.mono y1.tups hps,fun q' hq=>(gp q' hq).1,l100,fun dd Tn H2 s2 ed hTn lTn=> ?_⟩;refine⟨dd,_,Tn,rfl,ed,nZ _,fun p3 hp3=> ?_⟩;have y3:=aj hp3 (.lst (Tn.map V.str));have lzs:zs.length=ks.length:=KL.len hks;have lks:ks.length<=i_ ks:=by
  unfold i_;clear hks lzs gk hN hM q
  induction ks with
  | nil=>exact av _
  | cons k ks ih=>
    rw[bM,nY,bj];have:1<=k.sz:=by cases k<;>(simp only[Kd.sz];lia)
    lia
 refine⟨p1,p3,zs,Tn.map V.str,rfl,rfl,y3 _ _ (s2 _ _ upd_same),upd_same,by rw[ae];exact ai (show zs.length+Tn.length<=50000 by lia) (by decide),fun p4 hp4=> ?_⟩;have y4:=aj hp4 (.lst (zs++Tn.map V.str));have sm:Same H (upd (upd H2 p3 (.lst (Tn.map V.str))) p4 (.lst (zs++Tn.map V.str))):=fun x o h=>y4 x o (y3 x o (s2 x o (y1 x o h)));have e4:upd (upd H2 p3 (.lst (Tn.map V.str))) p4 (.lst (zs++Tn.map V.str)) p4=some (.lst (zs++Tn.map V.str)):=upd_same;have t4:T p4=none:=(((ew.ev.sa.tg.same y1).same s2).same y3).free hp4;generalize upd (upd H2 p3 (.lst (Tn.map V.str))) p4 (.lst (zs++Tn.map V.str))=H4 at sm e4⊢;have ew4:=ew.same sm;have kx:KL H4 (zs++Tn.map V.str) (ks++Tn.map Kd.nm):=zi (KL.mono sm.tups hks) (xH H4 Tn);have cx:i_ (ks++Tn.map Kd.nm)=i_ ks+Tn.length:=by
  have:=wC Tn;unfold i_ at this⊢;rw[aZ,jM,this]
 have gx:∀k∈ks++Tn.map Kd.nm,vC d k/\∀r∈Kd.tieL k,r∈ts:=fun k hk=>by
  rcases ay.mp hk with hk | hk
  · exact gk k hk
  · obtain⟨x,hx,rfl⟩:=bK.mp hk;obtain⟨q',hq,hxq⟩:=ji ((hTn x).mp hx);obtain⟨g1,g2,g3,_⟩:=(gp q' hq).2.1 _ (wA hxq);exact⟨⟨g1,g2,g3⟩,fun r hr=>(ao hr).elim⟩
 replace q:=fun H' T' N' f e=>q H' T' Tn N' f hTn e;unfold cj at q;generalize ks++Tn.map Kd.nm=xs at kx cx gx q;have lx:(zs++Tn.map V.str).length=xs.length:=KL.len kx;refine⟨⟨_,SqL.of e4⟩,ck (xs:=zs++Tn.map V.str) (fun i σ H5=>∃(o4:Option V) (T5:Tg),σ=[some (.ref b),some (.ref lp),some (.ref ls),some (.ref l),o4,none,none]/\Fr SB T T5 H4 H5/\Ew C D B A b l (N+i_ (xs.take i)) T5 H5 ((xs.take i).foldl jK (L,S)).1 ts ((xs.take i).foldl jK (L,S)).2/\((xs.take i).foldl jK (L,S)).1.parts.length<=L.parts.length+i_ (xs.take i)) ⟨none,T,rfl,Fr.refl,ew4,ar _⟩ ?_ ?_ ?_⟩
 · rintro i σ H5 _ ⟨o4,T5,rfl,f5,_⟩;exact SqL.of (Fr.free f5 e4 t4).2
 · rintro i v σ H5 hv ⟨o4,T5,rfl,f5,ew5,le5⟩;obtain⟨k,hk,ik⟩:=KL.get kx hv;obtain⟨gk1,gk2⟩:=gx k (au hk);have c3:i_ (xs.take (i+1))=i_ (xs.take i)+k.sz:=kW Kd.sz hk;have c4:i_ (xs.take (i+1))<=i_ xs:=kU Kd.sz xs (i+1);rw[kT jK _ hk,c3];generalize (xs.take i).foldl jK (L,S)=pp at ew5 le5⊢;refine⟨_,_,ew5.ev.sa.ob,mZ B l,_,_,ew5.ev.la.ob,ew5.ev.la.lkNo,?_⟩;refine rp (M:=M) ew5 (IsK.mono f5.tups ik) gk1 gk2 (by lia) (by lia) bd fun H6 T6 f6 ew6=> ?_;refine Jw ew6 (LoI.ix_lt (LoI.num_has k pp.1)) fun H7 T7 f7 ew7=> ?_;refine⟨_,T7,rfl,(f5.trans f6).trans f7,by rw[<-wm];exact ew7,?_⟩;show(LoI.num k pp.1).parts.length<=_;have:=LoI.num_len k pp.1
   lia
 rintro σ H5 ⟨o4,T5,rfl,f5,ew5,le5⟩;rw[lx,aY] at ew5 le5;generalize xs.foldl jK (L,S)=pp at ew5 le5 q;have f0:Fr SB T T5 H H5:=(Fr.of sm).trans f5;obtain⟨tlp5,elp5⟩:=Fr.free f0 elp tlp;have hps5:=PrL.mono f0.tups hps;have lps:ys.length=ps.length:=bu hps;refine⟨⟨_,SqL.of elp5⟩,ck (xs:=ys) (fun i σ H6=>∃(o4 o5 o6:Option V) (T6:Tg),σ=[some (.ref b),some (.ref lp),some (.ref ls),some (.ref l),o4,o5,o6]/\Fr SB T5 T6 H5 H6/\Ew C D B A b l (N+i_ xs+mT (ps.take i)) T6 H6 ((ps.take i).foldl kC pp).1 ts ((ps.take i).foldl kC pp).2/\((ps.take i).foldl kC pp).1.parts.length<=L.parts.length+i_ xs+mT (ps.take i)) ⟨o4,none,none,T5,rfl,Fr.refl,ew5,le5⟩ ?_ ?_ ?_⟩
 · rintro i σ H6 _ ⟨o4,o5,o6,T6,rfl,f6,_⟩;exact SqL.of (Fr.free f6 elp5 tlp5).2
 · rintro i v σ H6 hv ⟨o4,o5,o6,T6,rfl,f6,ew6,le6⟩;obtain⟨pq,hpq,t,vy,rfl,ht,hsy⟩:=dt hps5 hv;obtain⟨gq1,gq2,gq3⟩:=gp pq (au hpq);have c3:mT (ps.take (i+1))=mT (ps.take i)+pq.2.szs:=kW (fun q:Int × Sy=>q.2.szs) hpq;have c4:mT (ps.take (i+1))<=mT ps:=kU (fun q:Int × Sy=>q.2.szs) ps (i+1);rw[kT kC _ hpq,c3];generalize (ps.take i).foldl kC pp=rr at ew6 le6⊢;obtain⟨n,s⟩:=pq;replace c3:mT (ps.take (i+1))=mT (ps.take i)+s.szs:=c3;obtain⟨pv,vs,rfl,hpv,hL⟩:=IsSy.mono f6.tups hsy;have bd':=bd;refine⟨_,SqT.of (f6.tups _ _ ht),rfl,?_⟩;cases s with
   | thing x c=>
     obtain⟨vx,vc,rfl,kx',kc⟩:=Et hL;obtain⟨x1,x2,x3,_⟩:=gq2 (.nm x) (by simp[Sy.parts]);obtain⟨c1,c2,c5,_⟩:=gq2 c (by simp[Sy.parts]);have hz:(Sy.thing x c).szs=1+c.sz:=by simp[Sy.szs,Sy.parts,Kd.sz]
     have z1:(Kd.nm x).sz=1:=rfl;refine(jq hpv rfl (⟨_,_,ew6.ev.sa.ob,dq B l,_,_,ew6.ev.la.ob,ew6.ev.la.lkNo,jq hpv rfl ?_⟩));refine rp (M:=M) (k:= .nm x) ew6 kx' ⟨x1,x2,x3⟩ (fun r hr=>(ao hr).elim) (by lia) (by lia) bd fun H7 T7 f7 ew7=> ?_;have l7:=LoI.num_len (.nm x) rr.1;refine⟨_,_,ew7.ev.la.ob,ew7.ev.la.lkNo,jq (f7.tups _ _ hpv) rfl ?_⟩;refine rp (M:=M) (k:=c) ew7 (IsK.mono f7.tups kc) ⟨c1,c2,c5⟩ (gq3.1 c (by simp[Sy.parts])) (by lia) (by lia) bd fun H8 T8 f8 ew8=> ?_;have l8:=LoI.num_len c (LoI.num (.nm x) rr.1);have hx8:(LoI.num (.nm x) rr.1).ix (.nm x)<(LoI.num c (LoI.num (.nm x) rr.1)).parts.length:=ax (LoI.ix_lt (LoI.num_has _ _)) (LoI.num_le _ _);refine⟨av _,fun pf hpf=> ?_⟩;have z9:=aj hpf (.lst []);refine gG (nn:=some n) (fr:=[]) (ew8.same z9) hx8 (LoI.ix_lt (LoI.num_has _ _)) upd_same (ew8.ev.sa.tg.free hpf) fun H9 T9 f9 ew9=>⟨_,_,_,T9,rfl,(((f6.trans f7).trans f8).trans (Fr.of z9)).trans (IE f9),?_,?_⟩
     · rw[hz,show N+i_ xs+(mT (ps.take i)+(1+c.sz))=N+i_ xs+mT (ps.take i)+(Kd.nm x).sz+c.sz by lia];exact ew9
     · show(LoI.num c (LoI.num (.nm x) rr.1)).parts.length<=_;rw[hz];lia
   | tied x t' y=>
     obtain⟨vx,vt,vc,rfl,kx',kt,kc⟩:=Ld hL;obtain rfl:vt= .str t':=kt;obtain⟨x1,x2,x3,_⟩:=gq2 (.nm x) (by simp[Sy.parts]);obtain⟨c1,c2,c5,_⟩:=gq2 (.nm y) (by simp[Sy.parts]);have hz:(Sy.tied x t' y).szs=3:=by simp[Sy.szs,Sy.parts,Kd.sz]
     have z1:(Kd.nm x).sz=1:=rfl;have z2:(Kd.nm y).sz=1:=rfl;refine(jq hpv rfl ((jq hpv rfl (⟨_,_,ew6.ev.sa.ob,gL B l,_,_,ew6.ev.la.ob,ew6.ev.la.lkNo,jq hpv rfl ?_⟩))));refine rp (M:=M) (k:= .nm x) ew6 kx' ⟨x1,x2,x3⟩ (fun r hr=>(ao hr).elim) (by lia) (by lia) bd fun H7 T7 f7 ew7=> ?_;have l7:=LoI.num_len (.nm x) rr.1;refine(jq (f7.tups _ _ hpv) rfl ⟨_,_,ew7.ev.la.ob,ew7.ev.la.lkNo,jq (f7.tups _ _ hpv) rfl ?_⟩);refine rp (M:=M) (k:= .nm y) ew7 (IsK.mono f7.tups kc) ⟨c1,c2,c5⟩ (fun r hr=>(ao hr).elim) (by lia) (by lia) bd fun H8 T8 f8 ew8=> ?_;have l8:=LoI.num_len (.nm y) (LoI.num (.nm x) rr.1);have hx8:(LoI.num (.nm x) rr.1).ix (.nm x)<(LoI.num (.nm y) (LoI.num (.nm x) rr.1)).parts.length:=ax (LoI.ix_lt (LoI.num_has _ _)) (LoI.num_le _ _);refine⟨av _,fun pf hpf=> ?_⟩;have z9:=aj hpf (.lst []);refine jT (nn:=some n) (fr:=[]) (ew8.same z9) hx8 (gq3.2 x t' y rfl) (LoI.ix_lt (LoI.num_has _ _)) upd_same (ew8.ev.sa.tg.free hpf) fun H9 T9 f9 ew9=>⟨_,_,_,T9,rfl,(((f6.trans f7).trans f8).trans (Fr.of z9)).trans (IE f9),?_,?_⟩
     · exact ew9.mono (by dsimp only;lia) (by dsimp only;lia)
     · show(LoI.num (.nm y) (LoI.num (.nm x) rr.1)).parts.length<=_;rw[hz];lia
   | every x y=>
     iterate 2 refine jq hpv (aJ (j:=0) rfl) ?_
     exact⟨_,_,_,T6,rfl,f6,ew6.mono (by lia) (by show N+i_ xs+(mT (ps.take i)+(Sy.every x y).szs)<=50000;lia),by show rr.1.parts.length<=_;lia⟩
   | no x y=>
     iterate 2 refine jq hpv (aJ (j:=0) rfl) ?_
     exact⟨_,_,_,T6,rfl,f6,ew6.mono (by lia) (by show N+i_ xs+(mT (ps.take i)+(Sy.no x y).szs)<=50000;lia),by show rr.1.parts.length<=_;lia⟩
   | within x y=>
     iterate 2 refine jq hpv (aJ (j:=0) rfl) ?_
     exact⟨_,_,_,T6,rfl,f6,ew6.mono (by lia) (by show N+i_ xs+(mT (ps.take i)+(Sy.within x y).szs)<=50000;lia),by show rr.1.parts.length<=_;lia⟩
   | makes x y z=>
     iterate 2 refine jq hpv (aJ (j:=0) rfl) ?_
     exact⟨_,_,_,T6,rfl,f6,ew6.mono (by lia) (by show N+i_ xs+(mT (ps.take i)+(Sy.makes x y z).szs)<=50000;lia),by show rr.1.parts.length<=_;lia⟩
 · rintro σ H6 ⟨o4,o5,o6,T6,rfl,f6,ew6,_⟩;rw[lps,aY] at ew6;exact q H6 T6 _ (f0.trans f6) ew6
end
def LoreAt.bt(h:LoreAt C A a N T H L)(z:Bt b H H')(t:Tups H H')(hT:T b=none)(ne:a≠b)(tg:TgOk T H'):LoreAt C A a N T H' L:=⟨tg,h.oT,z _ _ h.ob ne,h.f0.bt rD z t hT,h.f1.bt pz z t hT,h.f2.bt z hT,h.f3.bt z hT,h.f4.bt e2_mo z t hT,h.f5.bt e3_mo z t hT,h.f6.bt es2_mo z t hT,h.f7.bt es3_mo z t hT,h.f8.bt es3_mo z t hT,h.f9.bt eb_mo z t hT,h.f10.bt esm_mo z t hT,h.f11.bt z hT,h.f12.bt z hT,h.gd,h.le,h.sl,h.xo⟩
noncomputable def StI.emp:StI:=⟨[],[],[]⟩
def Oe(k:Key):zx (iB []) k=none:=by
 cases k with
 | inl i=>exact aA (fun z=>z.2 rfl)
 | inr r=>rfl
def M0(k:Key):zx (iq []) k=none:=by
 cases k with
 | inl i=>exact aA (fun z=>z.2 rfl)
 | inr r=>rfl
def MZ(hg:∀i t,g i t=[])(k:List Key):Ca g k=none:=by
 match k with
 | []=>rfl
 | [.inl _]=>rfl
 | [.inr _]=>rfl
 | [.inr _,_]=>rfl
 | [.inl _,.inl _]=>rfl
 | [.inl i,.inr s]=>exact aA (fun z=>z.2 (hg _ _))
 | x::y::z::w=>cases x<;>cases y<;>rfl
def N_(k:List Key):Bc [] k=none:=rfl
inductive tP(C D:Addr)(vs:List V)(H:Hp)(Q:VK):Prop
 | mk:∀b dx l A N T L,(vs=[.ref b,.ref l])->(H b=some (.ins D dx []))->(LoreAt C A l N T H L)->(T b=none)->(l≠b)->(∀H' B T',Bt b H H'->(∀c i,T' c=some i->T c=some i\/H c=none)->LoreAt C A l N T' H' L->lB D B b l T' H' L.shapes StI.emp->Q .non H')->tP C D vs H Q
def Ar(C D:Addr):Sp:=fun vs H Q _=>tP C D vs H Q
section
def FR:bw xh xh (aM yS):=gH
def DR(F:Fun K "__init__" "Still.__init__" yS f fd)(sc:uB K D):b_ P w K mg base eU 1 f fd xh (Ar C D):=by
 refine F.o FR fun cdv A0 outer s0 H vs Q E hr h=> ?_;obtain⟨b,dx,l,A,N,T,L,rfl,eb,la,tb,ne,q⟩:=h;refine⟨_,ba (dB aD bf rfl) (ba (dB aD (bS cf) rfl) (ba (dB aD (bS cf) rfl) (ba (dB aD j5 rfl) (ba (dB aD cL rfl) (ba (dB aD cL rfl) (ba (dB aD cL rfl) (ba (dB aD j5 rfl) (ba (dB aD j5 rfl) (ba (dB aD j5 rfl) (bg (dB aD cL rfl))))))))))),?_⟩;refine⟨b,D,dx,_,rfl,eb,sc.c,sc.m0,by show 0<1000;decide,?_⟩;have y0:iO "lore" (V.ref l) ([]:List (Str × V))=[(("lore":Str),V.ref l)]:=rfl;rw[y0];have i0:Ini H (upd H b (.ins D dx [(("lore":Str),V.ref l)])) D b dx [(("lore":Str),V.ref l)] []:=⟨upd_same,fun q hq=>(ao hq).elim,.nil,fun q hq=>(ao hq).elim,fun c o e n=>by rw[aB n];exact e⟩;generalize upd H b (.ins D dx [(("lore":Str),V.ref l)])=H0 at i0⊢;refine i0.lst sc.c sc.m1 rfl rfl rfl fun q0 H1 i1=> ?_;refine i1.lst sc.c sc.m2 rfl rfl rfl fun q1 H2 i2=> ?_;refine i2.dT sc.c sc.m3 rfl rfl rfl fun q2 H3 i3=> ?_;refine i3.dK sc.c sc.m4 rfl rfl rfl fun q3 H4 i4=> ?_;refine i4.dK sc.c sc.m5 rfl rfl rfl fun q4 H5 i5=> ?_;refine i5.dK sc.c sc.m6 rfl rfl rfl fun q5 H6 i6=> ?_;refine i6.dT sc.c sc.m7 rfl rfl rfl fun q6 H7 i7=> ?_;refine i7.dT sc.c sc.m8 rfl rfl rfl fun q7 H8 i8=> ?_;refine i8.dT sc.c sc.m9 rfl rfl rfl fun q8 H9 i9=> ?_;refine MC (i9.dK sc.c sc.m10 rfl rfl rfl fun q9 H10 i10=> ?_);clear i0 i1 i2 i3 i4 i5 i6 i7 i8 i9
 let qs:List Addr:=[q0,q1,q2,q3,q4,q5,q6,q7,q8,q9]
 let cs:List (Addr × HO):=[(q0,.lst []),(q1,.lst []),(q2,.dT []),(q3,.dK []),(q4,.dK []),(q5,.dK []),(q6,.dT []),(q7,.dT []),(q8,.dT []),(q9,.dK [])]
 have mp:∀c∈qs,∃o,(c,o)∈cs:=fun c hc=>by
  have:qs=cs.map (·.1):=rfl;rw[this] at hc;obtain⟨⟨c',o⟩,h,rfl⟩:=bK.mp hc;exact⟨o,h⟩
 have nw:∀c∈qs,H c=none/\c≠b/\T c=none:=fun c hc=>by
  obtain⟨o,ho⟩:=mp c hc;have:=i10.new _ ho;refine⟨this.1,this.2,?_⟩;cases z:T c with
  | none=>rfl
  | some i=>exact absurd this.1 (la.tg c i z)
 have nd:qs.Nodup:=i10.nd;have ct:∀{i:Nat} {c:Addr} {o:HO},cs[i]? =some (c,o)->H10 c=some o/\wc 13 qs c=some (13+i,none):=fun {i c o} h=>by
  refine⟨i10.at' _ (au h),CP nd ?_⟩;have:=congrArg (Option.map (·.1)) h;rw[<-aH] at this;exact this
 let T':Tg:=fun c=>(wc 13 qs c).or (T c)
 have tq:∀{i:Nat} {c:Addr} {o:HO},cs[i]? =some (c,o)->T' c=some (13+i,none)/\H10 c=some o:=fun {i c o} h=>by
  have:=ct h;refine⟨?_,this.1⟩;show(wc 13 _ c).or (T c)=_;rw[this.2];rfl
 have tT:∀c i,T c=some i->T' c=some i:=fun c i h=>by
  show(wc 13 _ c).or (T c)=_;cases z:wc 13 qs c with
  | none=>rw[h];rfl
  | some j=>rw[(nw c (uI z)).2.2] at h;cases h
 have tN:∀c i,T' c=some i->T c=some i\/(c∈qs/\i.1∈eN):=fun c i h=>by
  have h':(wc 13 qs c).or (T c)=some i:=h;cases z:wc 13 qs c with
  | none=>rw[z] at h';exact .inl h'
  | some j=>
    rw[z] at h';obtain rfl:j=i:=by simpa using h'
    refine .inr ⟨uI z,?_⟩;unfold wc at z
    split at z
    · rename_i lt;simp only[mJ] at z;rw[<-z];generalize List.idxOf c qs=m at lt;have lt':m<10:=lt;show 13+m∈eN;have:∀m:Fin 10,13+m.val∈eN:=by decide
      exact this ⟨m,lt'⟩
    · cases z
 obtain⟨Hn,hHn⟩:∃Hn,Hn=upd H b (.ins D dx [("lore",V.ref l),("steps",V.ref q0),(("facts":Str),V.ref q1),(("places":Str),V.ref q2),(("stand_ins":Str),V.ref q3),(("kinds_of":Str),V.ref q4),(("those_of":Str),V.ref q5),(("fillers_of":Str),V.ref q6),(("ends":Str),V.ref q7),(("starts":Str),V.ref q8),(("ties":Str),V.ref q9)]):=⟨_,rfl⟩;have z:Bt b H (Hn):=fun c o e n=>by rw[hHn,aB n];exact e
 have t:Tups H (Hn):=fun c xs e=>z c _ e (fun n=>by rw[n,eb] at e;cases e);have l1:=la.bt z t tb ne (fun c i h=>by
  by_cases n:c=b
  · rw[hHn,n,upd_same];intro z;cases z
  · rw[hHn,aB n];exact la.tg c i h)
 have keep:∀c o,Hn c=some o->H10 c=some o:=fun c o e=>by
  by_cases n:c=b
  · rw[hHn,n,upd_same] at e;rw[n,<-e];exact i10.ob
  · rw[hHn,aB n] at e;exact i10.old c o e n
 have there:∀c,Hn c≠none->H10 c≠none:=fun c h=>by
  cases e:Hn c with
  | none=>exact absurd e h
  | some o=>
    rw[keep c o e];intro z;cases z
 have fr:Fr eN T T' (Hn) H10:=⟨fun c o e _=>keep c o e,fun c xs e=>keep c _ e,there,tT,fun c i h=>by
  rcases tN c i h with h | ⟨h1,h2⟩
  · exact .inl h
  · exact .inr ⟨by rw[hHn,aB (nw c h1).2.1];exact(nw c h1).1,h2⟩⟩
 have tg:TgOk T' H10:=fun c i h=>by
  rcases tN c i h with h | ⟨h1,h2⟩
  · exact fr.there c (l1.tg c i h)
  · obtain⟨o,ho⟩:=mp c h1;rw[i10.at' _ ho];intro z;cases z
 refine q H10 ⟨dx,q0,q1,q2,q3,q4,q5,q6,q7,q8,q9⟩ T' (fun c o e n=>i10.old c o e n) (fun c i h=>(tN c i h).imp id fun h=>(nw c h.1).1) (l1.fr fr JL tg) ?_;refine⟨tg,?_,i10.ob,⟨(tq (i:=0) rfl).1,[],(tq (i:=0) rfl).2,.nil⟩,FLs.nil (tq (i:=1) rfl).1 (tq (i:=1) rfl).2,FT.nil N_ (tq (i:=2) rfl).1 (tq (i:=2) rfl).2,FK.nil NI (tq (i:=3) rfl).1 (tq (i:=3) rfl).2,FK.nil Oe (tq (i:=4) rfl).1 (tq (i:=4) rfl).2,FK.nil M0 (tq (i:=5) rfl).1 (tq (i:=5) rfl).2,FT.nil (MZ fun _ _=>rfl) (tq (i:=6) rfl).1 (tq (i:=6) rfl).2,FT.nil (MZ fun _ _=>rfl) (tq (i:=7) rfl).1 (tq (i:=7) rfl).2,FT.nil (MZ fun _ _=>rfl) (tq (i:=8) rfl).1 (tq (i:=8) rfl).2,(tq (i:=9) rfl).1,(tq (i:=9) rfl).2,av _⟩;cases h:T' b with
 | none=>rfl
 | some i=>
   rcases tN b i h with h | ⟨h1,_⟩
   · rw[tb] at h;cases h
   · exact absurd rfl (nw b h1).2.1
end
def Au:Sp:=fun _ _ _ _=>False
structure ym(ts:List Str)(ps:List (Int × Sy))(ks fs:List Kd)(Tn:List Str)(S':StI):Prop where
 tn:∀x,x∈Tn↔x∈d3 ps
 ok:(cj ks Tn ps (LoI.of ps fs,StI.emp)).1.Ok
 wd:(cj ks Tn ps (LoI.of ps fs,StI.emp)).1.Wd ts
 w0:Wf (cj ks Tn ps (LoI.of ps fs,StI.emp)).1.parts.length ts (cj ks Tn ps (LoI.of ps fs,StI.emp)).2
 wf:Wf (cj ks Tn ps (LoI.of ps fs,StI.emp)).1.parts.length ts S'
 sl:S'.steps.length=S'.facts.length
 cb:gA (cj ks Tn ps (LoI.of ps fs,StI.emp)).1.parts.length ts<=9800000
 rch:∃i,J4 (cj ks Tn ps (LoI.of ps fs,StI.emp)).1 (cj ks Tn ps (LoI.of ps fs,StI.emp)).2 i S'/\S'.facts.length<=i
inductive tL(d:Nat)(vs:List V)(H:Hp)(Q:VK):Prop
 | mk:∀M ts lp ls lf ys zs us ps ks fs,(vs=[.ref lp,.ref ls,.ref lf,.non])->(H lp=some (.lst ys))->(PrL H ys ps)->(H ls=some (.lst zs))->(KL H zs ks)->(H lf=some (.lst us))->(KL H us fs)->((∀q∈ps,q.2.okS/\q.2.gd d/\q.2.tsOk ts))->((∀k∈ks,vC d k/\∀r∈Kd.tieL k,r∈ts))->((∀k∈fs,vC d k))->(ps.length<=100)->(2+gY ps+iM fs<=40000)->(2+gY ps+iM fs+i_ ks+3 * ps.length+mT ps<=50000)->((LoI.of ps fs).parts.length+i_ ks+3 * ps.length+mT ps<=M)->(gA M ts<=9800000)->((LoI.of ps fs).Wd ts)->(2<=(LoI.of ps fs).parts.length)->(∀H' q vs T Tn S',Same H H'->H q=none->H' q=some (.lst vs)->Paired (IsSt T H') vs S'.steps->(∀c j,T c=some j->H c=none)->ym ts ps ks fs Tn S'->Q (.ref q) H')->tL d vs H Q
def Ao(d:Nat):Sp:=fun vs H Q _=>tL d vs H Q
section
def scStill:bw ["pairs","starts","further","steps","found"] AV (aM yP):=gH
def DO{P:Program}{w:World}{K:Frag}{mg:Str->Option Value}{base:Heap}{f C D:Addr}{fd:FuncData}{d:Nat}(hd:d<=29){dV:Value}(F:FunD K "still" "still" yP dV f fd)(sc:uB K D)(Gsi:Il P w K mg base D 1 "Still" xh (Ar C D))(Gto:Ml P w K mg base D 1 "take_over" AQ Au)(Gbe:Ml P w K mg base D 64 "begin" AR (AD C D d))(Ggo:Ml P w K mg base D 8 "go_on" ng (C4 C D))(Glo:Cl P w K mg base (2 * d+4) "lore_of" AW (wM C d)):b_ P w K mg base eU 65 f fd AV (Ao d):=by
 refine F.ok scStill (fun vs H Q E h=>by cases h;subst_vars;rfl) fun cdv A0 outer s0 H vs Q E hr h=> ?_;obtain⟨M,ts,lp,ls,lf,ys,zs,us,ps,ks,fs,rfl,elp,hps,els,hks,elf,hfs,gp,gk,gf,l100,c1,c2,hM,bd,wd,p2,q⟩:=h;have hu:=fL hr;refine⟨_,ba (fR 4 scStill.nd (N9 Gsi hr (eR (dG Glo hr (dO aD bJ)))))
  (ba (bL (eX nB cE ej) (bg (bC (gU cG sc.c Gto hr (eR cE)))) be)
  (ba (bC (gU cG sc.c Gbe hr (dO aD bf)))
  (ba (bC (MO cG sc.c Ggo hr))
  (bg (cK (c_ cG)))))),?_⟩
 refine⟨lp,lf,ys,us,ps,fs,rfl,elp,hps,elf,hfs,fun q hq=>(gp q hq).2.1,gf,c1,fun H1 l A T1 s1 tn1 hl la ex=> ?_⟩;refine fun b dx hb hdx ne=> ?_;have y1:Same H1 (upd (upd H1 dx (.own b)) b (.ins D dx [])):=fun c o e=>by
  rw[aB (bp e hb),aB (bp e hdx)];exact e
 have lb:l≠b:=fun z=>by have:=la.ob;rw[z,hb] at this;cases this
 refine⟨b,dx,l,A,_,T1,_,rfl,upd_same,la.same y1,la.tg.free hb,lb,fun H2 B T2 bt tn2 la2 sa2=>⟨rfl,?_⟩⟩;have s2:Same H H2:=fun c o e=>bt c o (y1 c o (s1 c o e)) (bp (s1 c o e) hb);have t2:∀c i,T2 c=some i->H c=none:=fun c i h=>by
  rcases tn2 c i h with h | h
  · exact tn1 c i h
  · cases e:H c with
    | none=>rfl
    | some o=>rw[y1 c o (s1 c o e)] at h;cases h
 have okL:(LoI.of ps fs).Ok:=jF (fun L q o=>LoI.kk_ok _ o) _ (jF (fun L q o=>LoI.learn_ok _ _ o) _ LoI.init_ok);have ew2:Ew C D B A b l (2+gY ps+iM fs) T2 H2 (LoI.of ps fs) ts StI.emp:=⟨⟨sa2,la2,okL,ex,by lia,rfl,p2⟩,⟨.nil,fun f h=>(ao h).elim,.nil,fun f h=>(ao h).elim,fun f h=>(ao h).elim,fun _ _ _ h=>(ao h).elim⟩,wd,ai (rZ (by lia)) bd⟩;have un:∀{c:Addr} {o:HO},H c=some o->T2 c=none:=fun {c o} e=>by
  cases z:T2 c with
  | none=>rfl
  | some i=>rw[t2 c i z] at e;cases e
 refine gn ?_;refine⟨rfl,?_⟩;refine⟨_,_,sa2.ob,C6 B l,?_⟩;refine⟨b,l,B,A,_,M,T2,_,ts,StI.emp,lp,ls,ys,zs,ps,ks,rfl,ew2,s2 _ _ elp,un elp,PrL.mono s2.tups hps,s2 _ _ els,KL.mono s2.tups hks,gp,gk,l100,c2,hM,bd,fun H3 T3 Tn N' f3 hTn ew3=> ?_⟩;refine⟨_,_,ew3.ev.sa.ob,C5 B l,?_⟩;refine⟨b,l,B,A,N',T3,_,ts,_,rfl,ew3,fun H4 T4 S4 i f4 ew4 rc hi=> ?_⟩;obtain⟨t0,vs,e0,rv⟩:=id ew4.ev.sa.s0;have s4:∀{c:Addr} {o:HO},H c=some o->T4 c=none/\H4 c=some o:=fun {c o} e=>by
  obtain⟨u1,u2⟩:=Fr.free f3 (s2 c o e) (un e);exact Fr.free f4 u2 u1
 have t4:∀c j,T4 c=some j->H c=none:=fun c j h=>by
  cases e:H c with
  | none=>rfl
  | some o=>rw[(s4 e).1] at h;cases h
 exact⟨D,_,_,_,ew4.ev.sa.ob,sc.c,sc.m1,KC B l,q H4 B.q0 vs T4 Tn S4 (fun c o e=>(s4 e).2) (t4 _ _ t0) e0 rv t4 ⟨hTn,ew3.ev.ok,ew3.wd,ew3.wf,ew4.wf,ew4.ev.sl,ew3.bd,i,rc,hi⟩⟩
def MD:bw ["self","steps","fact","rule","froms","number","step","x"] AQ (aM l_):=gH
def DS(F:Fun K "take_over" "Still.take_over" l_ f fd):b_ P w K mg base eU 1 f fd AQ Au:=F.ok MD (fun _ _ _ _ h=>h.elim) (fun _ _ _ _ _ _ _ _ _ h=>h.elim)
end
noncomputable abbrev E8:Kd:= .nm "anything"
noncomputable abbrev gV:Kd:= .nm "nothing"
noncomputable def Ki:Kd->List Str->Bool
 | .nm t,A=>decide (t∈A)
 | _,_=>false
noncomputable def Ci(at':Int)(i:Int):Bool:=decide (0<=i)&&decide (i<at')
noncomputable def Er(ps:List (Int × Sy))(n:Int):Option Sy:=ps.foldl (fun o q=>if q.1=n then some q.2 else o) none
noncomputable def gR(ss:List sF)(i:Int):Fa:=match ss[i.toNat]? with
 | some s=>s.f
 | none=> .is gV gV
noncomputable def fW(ps:List (Int × Sy)):Option Int->Option Sy
 | none=>none
 | some i=>Er ps i
noncomputable def CJ(t:Str):Bool:=Txt.isupper (Txt.slice t none (some 1))
noncomputable def cF:Kd->Bool
 | .nm t=>CJ t
 | _=>false
noncomputable def rK(r:Ru)(f:Fa)(sy:Option Sy)(sg:List Str):Bool:=match sy with
 | none=>if r= .self then !cF f.x&&decide (f= .is f.x f.x) else if r= .all then decide (f= .is f.x E8)&&(!cF f.x || Ki f.x sg) else false
 | some s=>if s.hd=r then(match s with | .thing x k=>decide (f= .is (.nm x) k) | .tied x t y=>decide (f= .has (.nm x) t (.nm y)) | _=>false) else false
noncomputable def jD(r:Ru)(f o:Fa):Option Sy->Bool
 | some (.every a b)=>if r= .every/\o= .is o.x a then decide (f= .is o.x b) else false
 | some (.within s t)=>(match o with | .has x u y=>if r= .within/\u=s then decide (f= .has x t y) else false | _=>false)
 | some _=>false
 | none=>(match o with
   | .is x (.som t k)=>decide (r= .some)&&decide (f= .has x t k)
   | .is x (.two a b)=>if r= .first then decide (f= .is x a) else decide (r= .second)&&decide (f= .is x b)
   | _=>false)
noncomputable def iL(r:Ru)(f o u:Fa)(sy:Option Sy):Bool:=match o with
 | .is x k=>(match u with
   | .has _ _ _=>false
   | .is z l=>if z=x then(match sy with
     | none=>decide (r= .both)&&decide (f= .is x (.two k l))
     | some s=>decide (r= .no)&&(decide (s= .no k l)&&decide (f= .is x gV))) else false)
 | .has x t y=>if u.x=y then(match sy with
   | some s=>(match u with
     | .is _ _=>false
     | .has _ t2 y2=>(match s with | .makes a b c=>if r= .makes/\a=t/\b=t2 then decide (f= .has x c y2) else false | _=>false))
   | none=>(match u with
     | .has _ _ _=>false
     | .is _ l=>if r= .tie then decide (f= .is x (.som t l)) else decide (r= .none)&&(decide (l=gV)&&decide (f= .is x gV)))) else false
noncomputable def ur(r:Ru)(f:Fa)(olds:List Fa)(sy:Option Sy)(sg:List Str):Bool:=match olds with
 | []=>rK r f sy sg
 | [o]=>jD r f o sy
 | [o,u]=>iL r f o u sy
 | _=>false
noncomputable def uv(r:Ru)(s:sF)(at':Nat)(ss:List sF)(ps:List (Int × Sy))(sg:List Str):Bool:=if s.fr.all (Ci at')=false then false else
 if s.n.isSome=true/\fW ps s.n=none then false else
 ur r s.f (s.fr.map (gR ss)) (fW ps s.n) sg
noncomputable def gX(L:LoI):Fi->Fa
 | .is x k=> .is (L.pt x) (L.pt k)
 | .has x t y=> .has (L.pt x) t (L.pt y)
noncomputable def Fi.sb:Fi->Nat
 | .is x _=>x
 | .has x _ _=>x
inductive Rc(rt:Nat->Prop)(F:List Fi):Nat->Prop where
 | root {i:Nat}:rt i->Rc rt F i
 | step {x y:Nat} {t:Str}:Rc rt F x->Fi.has x t y∈F->Rc rt F y
def Rc.mono{rt:Nat->Prop}{F F':List Fi}(h:∀f∈F,f∈F'){i:Nat}(r:Rc rt F i):Rc rt F' i:=by
 induction r with
 | root h'=>exact .root h'
 | step _ hf ih=>exact .step ih (h _ hf)
structure LoI.Tr(L:LoI)(ps:List (Int × Sy))(sg:List Str)(kn:Kd->Prop):Prop where
 p0:L.pt 0=E8
 p1:L.pt 1=gV
 sb:∀k i j,L.shapes[k]? =some (.both i j)->L.pt k= .two (L.pt i) (L.pt j)
 ss:∀k r j,L.shapes[k]? =some (.some r j)->L.pt k= .som r (L.pt j)
 ev:∀k e,e∈L.everys k->fW ps (some e.2)=some (.every (L.pt k) (L.pt e.1))
 no:∀k e,e∈L.nos k->fW ps (some e.2.1)=some (if e.2.2=true then .no (L.pt k) (L.pt e.1) else .no (L.pt e.1) (L.pt k))
 wi:∀r e,e∈L.withins r->fW ps (some e.2)=some (.within r e.1)
 m1:∀r e,e∈L.mk1 r->fW ps (some e.2.2)=some (.makes r e.1 e.2.1)
 m2:∀r e,e∈L.mk2 r->fW ps (some e.2.2)=some (.makes e.1 r e.2.1)
 bo:∀k e,e∈L.boths k->L.pt e.2.1=(if e.2.2=true then .two (L.pt k) (L.pt e.1) else .two (L.pt e.1) (L.pt k))/\kn (L.pt e.2.1)
 so:∀k e,e∈L.somes k->L.pt e.2= .som e.1 (L.pt k)/\kn (L.pt e.2)
 wh:∀r i k,L.wholes r i=some k->L.pt k= .som r (L.pt i)/\kn (L.pt k)
 st:∀k∈L.parts,ju k=cF k/\(cF k=true->Ki k sg=true)
structure Ju(ps:List (Int × Sy))(sg:List Str)(kn:Kd->Prop)(ss:List sF)(r:Ru)(f:Fa)(fr:List Int)(nn:Option Int):Prop where
 no:r≠ .oth
 rg:fr.all (Ci (ss.length:Nat))=true
 nu:¬ (nn.isSome=true/\fW ps nn=none)
 fi:ur r f (fr.map (gR ss)) (fW ps nn) sg=true
 kn:r= .both\/r= .tie->∃x k,f= .is x k/\kn k
 le:fr.length<=2
structure zZ(ps:List (Int × Sy))(sg:List Str)(kn:Kd->Prop)(ss:List sF)(i:Nat)(s:sF):Prop where
 ex:∃r,r≠ .oth/\s.r=AK r/\uv r s i ss ps sg=true/\(r= .both\/r= .tie->∃x k,s.f= .is x k/\kn k)
 le:s.fr.length<=2
structure Sd(L:LoI)(ps:List (Int × Sy))(sg:List Str)(kn:Kd->Prop)(rt:Nat->Prop)(S:StI):Prop where
 rel:S.steps.map (·.f)=S.facts.map (gX L)
 fine:∀i s,S.steps[i]? =some s->zZ ps sg kn S.steps i s
 sub:∀f∈S.facts,f.sb∈S.stand
 rea:∀i∈S.stand,Rc rt S.facts i
 rg:∀x t y,Fi.has x t y∈S.facts->y<L.parts.length
def uu(h:i<=ss.length):uv r s i (ss++l) ps sg=uv r s i ss ps sg:=by
 unfold uv;by_cases c:s.fr.all (Ci (i:Int))=false
 · rw[aE c,aE c]
 · rw[aA c,aA c];have e:s.fr.map (gR (ss++l))=s.fr.map (gR ss):=NO fun z hz=>by
    have c':s.fr.all (Ci (i:Int))=true:=by simpa using c
    have:=cP.mp c' z hz;unfold Ci at this;rw[aP,aX,aX] at this;unfold gR;rw[bQ (by lia)]
   rw[e]
section
def Sd.len(h:Sd L ps sg kn rt S):S.steps.length=S.facts.length:=by have:=congrArg List.length h.rel;simpa using this
def Sd.at{L:LoI}{ps:List (Int × Sy)}{sg:List Str}{kn:Kd->Prop}{rt:Nat->Prop}{S:StI}(h:Sd L ps sg kn rt S){i:Nat}{f:Fi}(e:S.facts[i]? =some f):gR S.steps (i:Int)=gX L f:=by
 have h1:=congrArg (fun l:List Fa=>l[i]?) h.rel;simp only[aH,e,fZ] at h1;obtain⟨s,hs,hf⟩:=aQ.mp h1;unfold gR;rw[cz,hs];exact hf
def Sd.at_in{L:LoI}{ps:List (Int × Sy)}{sg:List Str}{kn:Kd->Prop}{rt:Nat->Prop}{S:StI}(h:Sd L ps sg kn rt S){i:Nat}{f:Fi}(e:S.facts[i]? =some f):Ci (S.steps.length:Nat) (i:Int)=true:=by
 have:=(aU.mp e).1;rw[<-h.len] at this;unfold Ci;rw[aP,aX,aX]
 lia
def iK{F:List Fi}(h:f∈F):F[F.idxOf f]? =some f:=by
 have hl:=kH h;rw[aq hl,Ot hl]
def Sd.keep{L:LoI}{ps:List (Int × Sy)}{sg:List Str}{kn:Kd->Prop}{rt:Nat->Prop}{S:StI}(h:Sd L ps sg kn rt S){f:Fi}{r:Ru}{fr:List Int}{nn:Option Int}(j:Ju ps sg kn S.steps r (gX L f) fr nn)(hs:f.sb∈S.stand)(hr:∀x t y,f= .has x t y->y<L.parts.length):Sd L ps sg kn rt (S.keep f ⟨gX L f,AK r,fr,nn⟩):=by
 refine⟨?_,fun i s e=> ?_,fun g hg=> ?_,fun i hi=>(h.rea i hi).mono fun g hg=>aS _ hg,fun x t y hg=> ?_⟩
 · show(S.steps++[_]).map _=(S.facts++[f]).map _;rw[aZ,aZ,h.rel];rfl
 · have e':(S.steps++[⟨gX L f,AK r,fr,nn⟩])[i]? =some s:=e;show zZ ps sg kn (S.steps++[_]) i s;rcases eB i S.steps.length with c | c
   · rw[bQ c] at e';obtain⟨⟨q,q1,q2,q3,q4⟩,q5⟩:=h.fine i s e';exact⟨⟨q,q1,q2,by rw[uu (eF c)];exact q3,q4⟩,q5⟩
   · have hl:=(aU.mp e').1;rw[ak,L8] at hl;obtain rfl:i=S.steps.length:=by lia
     rw[cy (ar _),Nat.sub_self] at e';obtain rfl:_=s:=by simpa using e'
     refine⟨⟨r,j.no,rfl,?_,j.kn⟩,j.le⟩;rw[uu (ar _)];unfold uv;rw[aA (by rw[j.rg];decide),aA j.nu];exact j.fi
 · rcases ay.mp hg with hg | hg
   · exact h.sub g hg
   · rw[af.mp hg];exact hs
 · rcases ay.mp hg with hg | hg
   · exact h.rg x t y hg
   · exact hr x t y (af.mp hg).symm
def Sd.tellIs{L:LoI}{ps:List (Int × Sy)}{sg:List Str}{kn:Kd->Prop}{rt:Nat->Prop}{S:StI}(h:Sd L ps sg kn rt S){x k:Nat}{r:Ru}{fr:List Int}{nn:Option Int}(hx:x∈S.stand)(j:Ju ps sg kn S.steps r (.is (L.pt x) (L.pt k)) fr nn){z:Str}(e:z=AK r):Sd L ps sg kn rt (StI.tellIs L S x k z fr nn):=by
 subst e;unfold StI.tellIs
 split
 · exact h
 · exact h.keep (f:= .is x k) j hx (fun _ _ _ z=>by cases z)
def Sd.addS{L:LoI}{ps:List (Int × Sy)}{sg:List Str}{kn:Kd->Prop}{rt:Nat->Prop}{S:StI}(h:Sd L ps sg kn rt S){x:Nat}(r:Rc rt S.facts x):Sd L ps sg kn rt (S.addS x):=⟨h.rel,h.fine,fun f hf=>aS _ (h.sub f hf),fun i hi=>by
 rcases ay.mp hi with hi | hi
 · exact h.rea i hi
 · rw[af.mp hi];exact r,h.rg⟩
def j3{L:LoI}(h:i<L.parts.length):L.pt i∈L.parts:=au (LoI.pt_get h)
def Fu:¬ ((none:Option Int).isSome=true/\fW ps none=none):=fun z=>by cases z.1
def HH(h:fW ps (some n)=some s):¬ ((some n:Option Int).isSome=true/\fW ps (some n)=none):=fun z=>by rw[h] at z;cases z.2
def Fv{kn:Kd->Prop}{r:Ru}{f:Fa}(h:r≠ .both/\r≠ .tie):r= .both\/r= .tie->∃x k,f= .is x k/\kn k:=fun z=>z.elim (fun e=>(h.1 e).elim) fun e=>(h.2 e).elim
def Sd.letStand{L:LoI}{ps:List (Int × Sy)}{sg:List Str}{kn:Kd->Prop}{rt:Nat->Prop}{S:StI}(t:L.Tr ps sg kn)(h:Sd L ps sg kn rt S){x:Nat}(hx:x<L.parts.length)(r:Rc rt S.facts x):Sd L ps sg kn rt (StI.letStand L S x):=by
 obtain⟨s1,s2⟩:=t.st _ (j3 hx);have ja:∀ss,Ju ps sg kn ss .all (.is (L.pt x) (L.pt 0)) [] none:=fun ss=>⟨by decide,rfl,Fu,by
  show rK .all (.is (L.pt x) (L.pt 0)) none sg=true;rw[t.p0];show(decide (Fa.is (L.pt x) E8= .is (L.pt x) E8)&&(!cF (L.pt x) || Ki (L.pt x) sg))=true;rw[ah rfl,Bool.true_and];cases c:cF (L.pt x) with
  | false=>rfl
  | true=>rw[s2 c];rfl,Fv (by decide),av _⟩
 unfold StI.letStand
 split
 · exact h
 · have h1:=h.addS r;have m1:x∈(S.addS x).stand:=aR _ (af.mpr rfl)
   split
   · exact h1.tellIs m1 (ja _) rfl
   · rename_i c;have c':cF (L.pt x)=false:=by rw[<-s1];simpa using c
     have js:Ju ps sg kn (S.addS x).steps .self (.is (L.pt x) (L.pt x)) [] none:=⟨by decide,rfl,Fu,by
      show(!cF (L.pt x)&&decide (Fa.is (L.pt x) (L.pt x)= .is (L.pt x) (L.pt x)))=true;rw[c',ah rfl];rfl,Fv (by decide),av _⟩
     refine(h1.tellIs m1 js (z:="self") rfl).tellIs ?_ (ja _) rfl;rw[(dm L (S.addS x) x x "self" [] none).2.1];exact m1
def Sd.tellHas{L:LoI}{ps:List (Int × Sy)}{sg:List Str}{kn:Kd->Prop}{rt:Nat->Prop}{S:StI}(t':L.Tr ps sg kn)(h:Sd L ps sg kn rt S){x y:Nat}{t:Str}{r:Ru}{fr:List Int}{nn:Option Int}(hx:x∈S.stand)(hy:y<L.parts.length)(j:Ju ps sg kn S.steps r (.has (L.pt x) t (L.pt y)) fr nn){z:Str}(e:z=AK r):Sd L ps sg kn rt (StI.tellHas L S x t y z fr nn):=by
 subst e;unfold StI.tellHas
 split
 · exact h
 · exact Sd.letStand t' (h.keep (f:= .has x t y) j hx (fun _ _ _ z=>by cases z;exact hy)) hy (.step ((h.rea x hx).mono fun g hg=>aS _ hg) (aR _ (af.mpr rfl)))
end
structure Le(S S':StI):Prop where
 fa:∀(i:Nat) (f:Fi),S.facts[i]? =some f->S'.facts[i]? =some f
 st:∀x∈S.stand,x∈S'.stand
def Le.refl(S:StI):Le S S:=⟨fun _ _ h=>h,fun _ h=>h⟩
def Le.trans(a:Le S S')(b:Le S' S''):Le S S'':=⟨fun i f h=>b.fa i f (a.fa i f h),fun x h=>b.st x (a.st x h)⟩
def Le.mem{S S':StI}(a:Le S S'){f:Fi}(h:f∈S.facts):f∈S'.facts:=au (a.fa _ _ (iK h))
def Le.keep(S:StI)(f:Fi)(s:sF):Le S (S.keep f s):=⟨fun i g h=>by
 show(S.facts++[f])[i]? =_;rw[bQ (aU.mp h).1];exact h,fun _ h=>h⟩
def Le.tellIs(L:LoI)(S:StI)(x k:Nat)(r:Str)(fr:List Int)(nn:Option Int):Le S (StI.tellIs L S x k r fr nn):=by
 unfold StI.tellIs
 split
 · exact .refl S
 · exact .keep S _ _
def Le.letStand(L:LoI)(S:StI)(x:Nat):Le S (StI.letStand L S x):=by
 unfold StI.letStand
 split
 · exact .refl S
 · have a:Le S (S.addS x):=⟨fun _ _ h=>h,fun _ h=>aS _ h⟩;refine Le.trans ?_ (.tellIs L _ x 0 "all" [] none)
   split
   · exact a
   · exact a.trans (.tellIs L _ x x "self" [] none)
def Le.tellHas(L:LoI)(S:StI)(x:Nat)(t:Str)(y:Nat)(r:Str)(fr:List Int)(nn:Option Int):Le S (StI.tellHas L S x t y r fr nn):=by
 unfold StI.tellHas
 split
 · exact .refl S
 · exact(Le.keep S _ _).trans (.letStand L _ y)
theorem d9{α:Type}{P:StI->Prop}{g:StI->α->StI}:∀{l:List α} {S:StI},P S->(∀S,∀e∈l,P S->P (g S e))->P (l.foldl g S)
 | [],_,h,_=>h
 | e::l,S,h,hg=>d9 (l:=l) (hg S e aL h) fun S e' he=>hg S e' (aG _ he)
section
variable {L:LoI}{ps:List (Int × Sy)}{sg:List Str}{kn:Kd->Prop}{rt:Nat->Prop}{S:StI}{ts:List Str}
structure Gr(L:LoI)(ps:List (Int × Sy))(sg:List Str)(kn:Kd->Prop)(rt:Nat->Prop)(S0 S:StI):Prop where
 sd:Sd L ps sg kn rt S
 le:Le S0 S
theorem Gr.tellIs{S0:StI}(h:Gr L ps sg kn rt S0 S){x k:Nat}{r:Ru}{fr:List Int}{nn:Option Int}(hx:x∈S.stand)(j:Ju ps sg kn S.steps r (.is (L.pt x) (L.pt k)) fr nn){z:Str}(e:z=AK r):Gr L ps sg kn rt S0 (StI.tellIs L S x k z fr nn):=⟨h.sd.tellIs hx j e,h.le.trans (.tellIs ..)⟩
theorem Gr.tellHas(t':L.Tr ps sg kn){S0:StI}(h:Gr L ps sg kn rt S0 S){x y:Nat}{t:Str}{r:Ru}{fr:List Int}{nn:Option Int}(hx:x∈S.stand)(hy:y<L.parts.length)(j:Ju ps sg kn S.steps r (.has (L.pt x) t (L.pt y)) fr nn){z:Str}(e:z=AK r):Gr L ps sg kn rt S0 (StI.tellHas L S x t y z fr nn):=⟨h.sd.tellHas t' hx hy j e,h.le.trans (.tellHas ..)⟩
theorem Lg(h:Sd L ps sg kn rt S){i:Nat}{o:Fi}(e:S.facts[i]? =some o){r:Ru}{f:Fa}{nn:Option Int}(hr:r≠ .oth/\r≠ .both/\r≠ .tie)(nu:¬ (nn.isSome=true/\fW ps nn=none))(fi:jD r f (gX L o) (fW ps nn)=true):Ju ps sg kn S.steps r f [(i:Int)] nn:=by
 refine⟨hr.1,?_,nu,?_,Fv hr.2,by show 1<=2;decide⟩
 · show(Ci _ (i:Int)&&true)=true;rw[h.at_in e];rfl
 · show ur r f [gR S.steps (i:Int)] (fW ps nn) sg=true;rw[h.at e];exact fi
theorem GH(h:Sd L ps sg kn rt S){i j:Nat}{o u:Fi}(e:S.facts[i]? =some o)(e':S.facts[j]? =some u){r:Ru}{f:Fa}{nn:Option Int}(hr:r≠ .oth)(hk:r= .both\/r= .tie->∃x k,f= .is x k/\kn k)(nu:¬ (nn.isSome=true/\fW ps nn=none))(fi:iL r f (gX L o) (gX L u) (fW ps nn)=true):Ju ps sg kn S.steps r f [(i:Int),(j:Int)] nn:=by
 refine⟨hr,?_,nu,?_,hk,by show 2<=2;decide⟩
 · show(Ci _ (i:Int)&&(Ci _ (j:Int)&&true))=true;rw[h.at_in e,h.at_in e'];rfl
 · show ur r f [gR S.steps (i:Int),gR S.steps (j:Int)] (fW ps nn) sg=true;rw[h.at e,h.at e'];exact fi
variable (t':L.Tr ps sg kn)(w:L.Wd ts)(o:L.Ok)
include t' w o
theorem GN{S0:StI}{i x k:Nat}(e0:S0.facts[i]? =some (.is x k))(h:Sd L ps sg kn rt S0):Gr L ps sg kn rt S0 (StI.fromKind L S0 i x k):=by
 have hx:x∈S0.stand:=h.sub _ (au e0);have g1:Gr L ps sg kn rt S0 ((L.everys k).foldl (fun S e=>StI.tellIs L S x e.1 "every" [(i:Int)] (some e.2)) S0):=by
  refine d9 (P:=Gr L ps sg kn rt S0) ⟨h,.refl S0⟩ fun S e he g=> ?_;have so:=t'.ev k e he;refine g.tellIs (r:= .every) (g.le.st _ hx) (Lg g.sd (g.le.fa _ _ e0) (by decide) (HH so) ?_) rfl;rw[so];show(if Ru.every= .every/\Fa.is (L.pt x) (L.pt k)= .is (L.pt x) (L.pt k) then decide (Fa.is (L.pt x) (L.pt e.1)= .is (L.pt x) (L.pt e.1)) else false)=true;rw[aE ⟨rfl,rfl⟩,ah rfl]
 unfold StI.fromKind;dsimp only
 split
 · rename_i a c hs;have e:=t'.sb _ _ _ hs;have g2:=g1.tellIs (k:=a) (r:= .first) (nn:=none) (z:="first") (g1.le.st _ hx) (Lg g1.sd (g1.le.fa _ _ e0) (by decide) Fu (by
    show jD .first _ (.is (L.pt x) (L.pt k)) none=true
    rw[e];show decide (Fa.is (L.pt x) (L.pt a)= .is (L.pt x) (L.pt a))=true;exact ah rfl)) rfl
   exact g2.tellIs (k:=c) (r:= .second) (nn:=none) (z:="second") (g2.le.st _ hx) (Lg g2.sd (g2.le.fa _ _ e0) (by decide) Fu (by
    show jD .second _ (.is (L.pt x) (L.pt k)) none=true;rw[e];show decide (Fa.is (L.pt x) (L.pt c)= .is (L.pt x) (L.pt c))=true;exact ah rfl)) rfl
 · rename_i a c hs;have e:=t'.ss _ _ _ hs;exact g1.tellHas t' (t:=a) (y:=c) (r:= .some) (nn:=none) (z:="some") (g1.le.st _ hx) (o.lt _ _ hs) (Lg g1.sd (g1.le.fa _ _ e0) (by decide) Fu (by
    show jD .some _ (.is (L.pt x) (L.pt k)) none=true;rw[e];show(decide (Ru.some= .some)&&decide (Fa.has (L.pt x) a (L.pt c)= .has (L.pt x) a (L.pt c)))=true;rw[ah rfl,ah rfl];rfl)) rfl
 · exact g1
theorem EF{S0:StI}{i x k:Nat}(e0:S0.facts[i]? =some (.is x k))(h:Sd L ps sg kn rt S0):Gr L ps sg kn rt S0 (StI.fromPairs L S0 i x k):=by
 have hx:x∈S0.stand:=h.sub _ (au e0);unfold StI.fromPairs;refine d9 (P:=Gr L ps sg kn rt S0) (d9 (P:=Gr L ps sg kn rt S0) ⟨h,.refl S0⟩ fun S e he g=> ?_) fun S e he g=> ?_
 · unfold StI.byNo
   split
   · rename_i hf;have so:=t'.no k e he;have ei:=iK hf;cases c:e.2.2 with
     | true=>
       rw[c,aE rfl] at so;refine g.tellIs (k:=1) (r:= .no) (g.le.st _ hx) (GH g.sd (g.le.fa _ _ e0) ei (by decide) (Fv (by decide)) (HH so) ?_) rfl;rw[so];show(if L.pt x=L.pt x then(decide (Ru.no= .no)&&(decide (Sy.no (L.pt k) (L.pt e.1)= .no (L.pt k) (L.pt e.1))&&decide (Fa.is (L.pt x) (L.pt 1)= .is (L.pt x) gV))) else false)=true;rw[aE rfl,t'.p1,ah rfl,ah rfl,ah rfl];rfl
     | false=>
       rw[c,aA (by decide)] at so;refine g.tellIs (k:=1) (r:= .no) (g.le.st _ hx) (GH g.sd ei (g.le.fa _ _ e0) (by decide) (Fv (by decide)) (HH so) ?_) rfl;rw[so];show(if L.pt x=L.pt x then(decide (Ru.no= .no)&&(decide (Sy.no (L.pt e.1) (L.pt k)= .no (L.pt e.1) (L.pt k))&&decide (Fa.is (L.pt x) (L.pt 1)= .is (L.pt x) gV))) else false)=true;rw[aE rfl,t'.p1,ah rfl,ah rfl,ah rfl];rfl
   · exact g
 · unfold StI.byBoth
   split
   · rename_i hf;obtain⟨so,kw⟩:=t'.bo k e he;have ei:=iK hf;cases c:e.2.2 with
     | true=>
       rw[c,aE rfl] at so;refine g.tellIs (k:=e.2.1) (r:= .both) (g.le.st _ hx) (GH g.sd (g.le.fa _ _ e0) ei (by decide) (fun _=>⟨_,_,rfl,kw⟩) Fu ?_) rfl;show(if L.pt x=L.pt x then(decide (Ru.both= .both)&&decide (Fa.is (L.pt x) (L.pt e.2.1)= .is (L.pt x) (.two (L.pt k) (L.pt e.1)))) else false)=true;rw[aE rfl,so,ah rfl,ah rfl];rfl
     | false=>
       rw[c,aA (by decide)] at so;refine g.tellIs (k:=e.2.1) (r:= .both) (g.le.st _ hx) (GH g.sd ei (g.le.fa _ _ e0) (by decide) (fun _=>⟨_,_,rfl,kw⟩) Fu ?_) rfl;show(if L.pt x=L.pt x then(decide (Ru.both= .both)&&decide (Fa.is (L.pt x) (L.pt e.2.1)= .is (L.pt x) (.two (L.pt e.1) (L.pt k)))) else false)=true;rw[aE rfl,so,ah rfl,ah rfl];rfl
   · exact g
end
section
variable {L:LoI}{ps:List (Int × Sy)}{sg:List Str}{kn:Kd->Prop}{rt:Nat->Prop}{S:StI}{ts:List Str}
theorem Ac{X Y K:Kd}{t:Str}:iL .tie (.is X (.som t K)) (.has X t Y) (.is Y K) none=true:=by
 show(if Y=Y then(if Ru.tie= .tie then decide (Fa.is X (.som t K)= .is X (.som t K)) else _) else false)=true;rw[aE rfl,aE rfl,ah rfl]
theorem wy{X Y:Kd}{t:Str}:iL .none (.is X gV) (.has X t Y) (.is Y gV) none=true:=by
 show(if Y=Y then(if Ru.none= .tie then _ else decide (Ru.none= .none)&&(decide (gV=gV)&&decide (Fa.is X gV= .is X gV))) else false)=true;rw[aE rfl,aA (by decide),ah rfl,ah rfl,ah rfl];rfl
theorem tp{X Y Z:Kd}{a b c:Str}:iL .makes (.has X c Z) (.has X a Y) (.has Y b Z) (some (.makes a b c))=true:=by
 show(if Y=Y then(if Ru.makes= .makes/\a=a/\b=b then decide (Fa.has X c Z= .has X c Z) else false) else false)=true;rw[aE rfl,aE ⟨rfl,rfl,rfl⟩,ah rfl]
theorem zk{X Y:Kd}{s t:Str}:jD .within (.has X t Y) (.has X s Y) (some (.within s t))=true:=by
 show(if Ru.within= .within/\s=s then decide (Fa.has X t Y= .has X t Y) else false)=true;rw[aE ⟨rfl,rfl⟩,ah rfl]
theorem xZ{S0 S1:StI}(g:Gr L ps sg kn rt S0 S1){i y k k2:Nat}{t:Str}{r:Ru}(e0:S0.facts[i]? =some (.is y k))(hr:r≠ .oth)(hf:∀X,iL r (.is X (L.pt k2)) (.has X t (L.pt y)) (.is (L.pt y) (L.pt k)) none=true)(hk:r= .both\/r= .tie->kn (L.pt k2)){z:Str}(ez:z=AK r):Gr L ps sg kn rt S0 (StI.byEnd L i y z S1 t k2):=by
 unfold StI.byEnd;refine(d9 (P:=fun S=>Gr L ps sg kn rt S0 S/\Le S1 S) ⟨g,.refl S1⟩ fun S x hx ⟨g,l⟩=> ?_).1;have m1:=l.mem (rM hx);unfold StI.byTie;exact⟨g.tellIs (g.sd.sub _ m1) (GH g.sd (iK m1) (g.le.fa _ _ e0) hr (fun c=>⟨_,_,rfl,hk c⟩) Fu (hf _)) ez,l.trans (.tellIs ..)⟩
variable (t':L.Tr ps sg kn)(w:L.Wd ts)(o:L.Ok)
include t' w o
theorem JJ{S0:StI}{i y k:Nat}(e0:S0.facts[i]? =some (.is y k))(h:Sd L ps sg kn rt S0):Gr L ps sg kn rt S0 (StI.fromEnd L S0 i y k):=by
 have g1:Gr L ps sg kn rt S0 ((L.somes k).foldl (fun S e=>StI.byEnd L i y "tie" S e.1 e.2) S0):=by
  refine d9 (P:=Gr L ps sg kn rt S0) ⟨h,.refl S0⟩ fun S e he g=> ?_;obtain⟨so,kw⟩:=t'.so k e he;exact xZ g (r:= .tie) e0 (by decide) (fun X=>by rw[so];exact Ac) (fun _=>kw) rfl
 unfold StI.fromEnd;dsimp only
 split
 · rename_i hk;subst hk;refine d9 (P:=Gr L ps sg kn rt S0) g1 fun S e he g=> ?_;exact xZ g (r:= .none) e0 (by decide) (fun X=>by rw[t'.p1];exact wy) (fun c=>by rcases c with c | c<;>cases c) rfl
 · exact g1
theorem JI{S0:StI}{i x y:Nat}{t:Str}(e0:S0.facts[i]? =some (.has x t y))(h:Sd L ps sg kn rt S0):Gr L ps sg kn rt S0 (StI.fromTie L S0 i x t y):=by
 have hx:x∈S0.stand:=h.sub _ (au e0);have hy:=h.rg _ _ _ (au e0);have g1:Gr L ps sg kn rt S0 ((L.withins t).foldl (StI.byWi L i x y) S0):=by
  refine d9 (P:=Gr L ps sg kn rt S0) ⟨h,.refl S0⟩ fun S e he g=> ?_;have so:=t'.wi t e he;unfold StI.byWi;exact g.tellHas t' (r:= .within) (g.le.st _ hx) hy (Lg g.sd (g.le.fa _ _ e0) (by decide) (HH so) (by rw[so];exact zk)) rfl
 unfold StI.fromTie;dsimp only;generalize (L.withins t).foldl (StI.byWi L i x y) S0=S1 at g1⊢;have g2:Gr L ps sg kn rt S0 ((cN (qE L S1 x t y)).foldl (StI.byWh L i x t y) S1):=by
  refine(d9 (P:=fun S=>Gr L ps sg kn rt S0 S/\Le S1 S) ⟨g1,.refl S1⟩ fun S k hk ⟨g,l⟩=> ?_).1;obtain⟨hm,m,hm1,hm2⟩:=wz hk;obtain⟨wh,hw1,hw2,hw3⟩:=w.fi t m k hm1 hm2;obtain⟨so,kw⟩:=t'.wh t k wh hw1;have m1:=l.mem hm;unfold StI.byWh;rw[hw1];exact⟨g.tellIs (k:=wh) (r:= .tie) (g.le.st _ hx) (GH g.sd (g.le.fa _ _ e0) (iK m1) (by decide) (fun _=>⟨_,_,rfl,kw⟩) Fu (by rw[so];exact Ac)) rfl,l.trans (.tellIs ..)⟩
 generalize (cN (qE L S1 x t y)).foldl (StI.byWh L i x t y) S1=S2 at g2⊢
 split
 · rename_i hf;exact g2.tellIs (k:=1) (r:= .none) (g2.le.st _ hx) (GH g2.sd (g2.le.fa _ _ e0) (iK hf) (by decide) (Fv (by decide)) Fu (by
    show iL .none (.is (L.pt x) (L.pt 1)) (.has (L.pt x) t (L.pt y)) (.is (L.pt y) (L.pt 1)) none=true;rw[t'.p1];exact wy)) rfl
 · exact g2
theorem Cn{S0:StI}{i x y:Nat}{t:Str}(e0:S0.facts[i]? =some (.has x t y))(h:Sd L ps sg kn rt S0):Gr L ps sg kn rt S0 (StI.fromChains L S0 i x t y):=by
 have hx:x∈S0.stand:=h.sub _ (au e0);have hy:=h.rg _ _ _ (au e0);unfold StI.fromChains;refine d9 (P:=Gr L ps sg kn rt S0) (d9 (P:=Gr L ps sg kn rt S0) ⟨h,.refl S0⟩ fun S1 e he g1=> ?_) fun S1 e he g1=> ?_
 · have so:=t'.m1 t e he;unfold StI.byMk1;refine(d9 (P:=fun S=>Gr L ps sg kn rt S0 S/\Le S1 S) ⟨g1,.refl S1⟩ fun S z hz ⟨g,l⟩=> ?_).1;have m1:=l.mem (xM hz);unfold StI.mk1a;exact⟨g.tellHas t' (r:= .makes) (g.le.st _ hx) (g.sd.rg _ _ _ m1) (GH g.sd (g.le.fa _ _ e0) (iK m1) (by decide) (Fv (by decide)) (HH so) (by rw[so];exact tp)) rfl,l.trans (.tellHas ..)⟩
 · have so:=t'.m2 t e he;unfold StI.byMk2;refine(d9 (P:=fun S=>Gr L ps sg kn rt S0 S/\Le S1 S) ⟨g1,.refl S1⟩ fun S z hz ⟨g,l⟩=> ?_).1;have m1:=l.mem (xK hz);unfold StI.mk2a;exact⟨g.tellHas t' (r:= .makes) (g.sd.sub _ m1) hy (GH g.sd (iK m1) (g.le.fa _ _ e0) (by decide) (Fv (by decide)) (HH so) (by rw[so];exact tp)) rfl,l.trans (.tellHas ..)⟩
theorem FL{S0:StI}{i:Nat}{f:Fi}(e0:S0.facts[i]? =some f)(h:Sd L ps sg kn rt S0):Sd L ps sg kn rt (StI.turn L S0 i f):=by
 cases f with
 | is x k=>
   have g1:=GN t' w o e0 h;have g2:=EF t' w o (g1.le.fa _ _ e0) g1.sd;exact(JJ t' w o (g2.le.fa _ _ (g1.le.fa _ _ e0)) g2.sd).sd
 | has x t y=>
   have g1:=JI t' w o e0 h;exact(Cn t' w o (g1.le.fa _ _ e0) g1.sd).sd
end
def IA{L:LoI}{ps:List (Int × Sy)}{sg:List Str}{kn:Kd->Prop}{rt:Nat->Prop}{ts:List Str}(t':L.Tr ps sg kn)(w:L.Wd ts)(o:L.Ok){S0 S:StI}{i:Nat}(h:Sd L ps sg kn rt S0)(r:J4 L S0 i S):Sd L ps sg kn rt S:=by
 induction r with
 | zero=>exact h
 | step _ e ih=>exact FL t' w o e ih
def Px(L L':LoI):Prop:=∃l,L'.parts=L.parts++l
def Px.refl(L:LoI):Px L L:=⟨[],by simp⟩
def Px.trans(a:Px L L')(b:Px L' L''):Px L L'':=by
 obtain⟨l,e⟩:=a;obtain⟨l',e'⟩:=b;exact⟨l++l',by rw[e',e,mL]⟩
def Px.num(k:Kd)(L:LoI):Px L (LoI.num k L):=LoI.num_sub k L
def Px.mem{L L':LoI}(p:Px L L'){k:Kd}(h:k∈L.parts):k∈L'.parts:=by
 obtain⟨l,e⟩:=p;rw[e];exact aS _ h
def Px.ix{L L':LoI}(p:Px L L'){k:Kd}(h:k∈L.parts):L'.ix k=L.ix k:=by
 obtain⟨l,e⟩:=p;unfold LoI.ix;rw[e,jC h]
def Px.pt{L L':LoI}(p:Px L L'){i:Nat}(h:i<L.parts.length):L'.pt i=L.pt i:=by
 obtain⟨l,e⟩:=p;unfold LoI.pt;rw[e,eO,eO,bQ h]
def Px.le(p:Px L L'):L.parts.length<=L'.parts.length:=by
 obtain⟨l,e⟩:=p;rw[e,ak];lia
def fP{L:LoI}(h:k∈L.parts):L.pt (L.ix k)=k:=by
 unfold LoI.pt LoI.ix;have hl:=kH h;rw[eO,aq hl,Ot hl]
 rfl
def oe{L L':LoI}(p:Px L L')(S:StI){x k:Nat}(hx:x<L.parts.length)(hk:k<L.parts.length)(r:Str)(fr:List Int)(nn:Option Int):StI.tellIs L S x k r fr nn=StI.tellIs L' S x k r fr nn:=by
 unfold StI.tellIs;rw[p.pt hx,p.pt hk]
def pH{L L':LoI}(p:Px L L')(S:StI){x:Nat}(hx:x<L.parts.length):StI.letStand L S x=StI.letStand L' S x:=by
 have h0:0<L.parts.length:=bO (av _) hx;unfold StI.letStand;rw[p.pt hx,oe p (S.addS x) hx hx,oe p _ hx h0]
def yv{L L':LoI}(p:Px L L')(S:StI){x y:Nat}{t:Str}(hx:x<L.parts.length)(hy:y<L.parts.length)(r:Str)(fr:List Int)(nn:Option Int):StI.tellHas L S x t y r fr nn=StI.tellHas L' S x t y r fr nn:=by
 unfold StI.tellHas;rw[p.pt hx,p.pt hy,pH p _ hy]
def GY(p:LS)(k:Kd):Px p.1 (jK p k).1:=Px.num k p.1
def GW(p:LS)(q:Int × Sy):Px p.1 (kC p q).1:=by
 obtain⟨n,s⟩:=q;cases s with
 | thing x c=>exact(Px.num (.nm x) p.1).trans (Px.num c _)
 | tied x t y=>exact(Px.num (.nm x) p.1).trans (Px.num (.nm y) _)
 | every a b=>exact .refl _
 | no a b=>exact .refl _
 | within a b=>exact .refl _
 | makes a b c=>exact .refl _
theorem rL:∀(l:List Kd) (p:LS),Px p.1 (l.foldl jK p).1
 | [],p=> .refl _
 | k::l,p=>(GY p k).trans (rL l _)
theorem nL:∀(l:List (Int × Sy)) (p:LS),Px p.1 (l.foldl kC p).1
 | [],p=> .refl _
 | k::l,p=>(GW p k).trans (nL l _)
noncomputable def sU(L:LoI)(S:StI)(k:Kd):StI:=StI.letStand L S (L.ix k)
noncomputable def JX(L:LoI)(S:StI)(q:Int × Sy):StI:=match q.2 with
 | .thing x c=>StI.tellIs L S (L.ix (.nm x)) (L.ix c) "thing" [] (some q.1)
 | .tied x t y=>StI.tellHas L S (L.ix (.nm x)) t (L.ix (.nm y)) "tied" [] (some q.1)
 | _=>S
def GZ(h:Px (jK p k).1 L):(jK p k).2=sU L p.2 k/\k∈L.parts:=by
 have hk:=LoI.num_has k p.1;have h':Px (LoI.num k p.1) L:=h;refine⟨?_,h'.mem hk⟩;show StI.letStand (LoI.num k p.1) p.2 ((LoI.num k p.1).ix k)=StI.letStand L p.2 (L.ix k);rw[h'.ix hk,pH h' _ (LoI.ix_lt hk)]
def GX(h:Px (kC p q).1 L):(kC p q).2=JX L p.2 q/\(∀x c,q.2= .thing x c->Kd.nm x∈L.parts/\c∈L.parts)/\(∀x t y,q.2= .tied x t y->Kd.nm x∈L.parts/\Kd.nm y∈L.parts):=by
 obtain⟨n,s⟩:=q;cases s with
 | thing x c=>
   have hc:=LoI.num_has c (LoI.num (.nm x) p.1);have hx:=(Px.num c (LoI.num (.nm x) p.1)).mem (LoI.num_has (.nm x) p.1);have h':Px (LoI.num c (LoI.num (.nm x) p.1)) L:=h;have ex:=(Px.num c (LoI.num (.nm x) p.1)).ix (LoI.num_has (.nm x) p.1);refine⟨?_,fun x' c' e=>by cases e;exact⟨h'.mem hx,h'.mem hc⟩,fun _ _ _ e=>(by cases e)⟩;show StI.tellIs (LoI.num c (LoI.num (.nm x) p.1)) p.2 ((LoI.num (.nm x) p.1).ix (.nm x)) ((LoI.num c (LoI.num (.nm x) p.1)).ix c) "thing" [] (some n)=StI.tellIs L p.2 (L.ix (.nm x)) (L.ix c) "thing" [] (some n);rw[<-ex,h'.ix hx,h'.ix hc,oe h' _ (LoI.ix_lt hx) (LoI.ix_lt hc)]
 | tied x t y=>
   have hc:=LoI.num_has (.nm y) (LoI.num (.nm x) p.1);have hx:=(Px.num (.nm y) (LoI.num (.nm x) p.1)).mem (LoI.num_has (.nm x) p.1);have h':Px (LoI.num (.nm y) (LoI.num (.nm x) p.1)) L:=h;have ex:=(Px.num (.nm y) (LoI.num (.nm x) p.1)).ix (LoI.num_has (.nm x) p.1);refine⟨?_,fun _ _ e=>(by cases e),fun x' t' y' e=>by cases e;exact⟨h'.mem hx,h'.mem hc⟩⟩;show StI.tellHas (LoI.num (.nm y) (LoI.num (.nm x) p.1)) p.2 ((LoI.num (.nm x) p.1).ix (.nm x)) t ((LoI.num (.nm y) (LoI.num (.nm x) p.1)).ix (.nm y)) "tied" [] (some n)=StI.tellHas L p.2 (L.ix (.nm x)) t (L.ix (.nm y)) "tied" [] (some n);rw[<-ex,h'.ix hx,h'.ix hc,yv h' _ (LoI.ix_lt hx) (LoI.ix_lt hc)]
 | every a b=>exact⟨rfl,fun _ _ e=>(by cases e),fun _ _ _ e=>(by cases e)⟩
 | no a b=>exact⟨rfl,fun _ _ e=>(by cases e),fun _ _ _ e=>(by cases e)⟩
 | within a b=>exact⟨rfl,fun _ _ e=>(by cases e),fun _ _ _ e=>(by cases e)⟩
 | makes a b c=>exact⟨rfl,fun _ _ e=>(by cases e),fun _ _ _ e=>(by cases e)⟩
theorem yb:∀(l:List Kd) {p:LS},Px (l.foldl jK p).1 L->(l.foldl jK p).2=l.foldl (sU L) p.2/\∀k∈l,k∈L.parts
 | [],_,_=>⟨rfl,fun _ h=>(ao h).elim⟩
 | k::l,p,h=>by
   obtain⟨e1,m1⟩:=GZ (p:=p) (k:=k) ((rL l _).trans h);obtain⟨e2,m2⟩:=yb l (p:=jK p k) h;refine⟨?_,fun y hy=> ?_⟩
   · rw[dN,e2,e1];rfl
   · rcases aI.mp hy with rfl | hy
     · exact m1
     · exact m2 y hy
theorem ya:∀(l:List (Int × Sy)) {p:LS},Px (l.foldl kC p).1 L->(l.foldl kC p).2=l.foldl (JX L) p.2/\∀q∈l,(∀x c,q.2= .thing x c->Kd.nm x∈L.parts/\c∈L.parts)/\(∀x t y,q.2= .tied x t y->Kd.nm x∈L.parts/\Kd.nm y∈L.parts)
 | [],_,_=>⟨rfl,fun _ h=>(ao h).elim⟩
 | k::l,p,h=>by
   obtain⟨e1,m1⟩:=GX (p:=p) (q:=k) ((nL l _).trans h);obtain⟨e2,m2⟩:=ya l (p:=kC p k) h;refine⟨?_,fun y hy=> ?_⟩
   · rw[dN,e2,e1];rfl
   · rcases aI.mp hy with rfl | hy
     · exact m1
     · exact m2 y hy
def Le.bg1(L:LoI)(S:StI)(k:Kd):Le S (sU L S k):= .letStand L S _
def C_{ts:List Str}(hT:∀x,x∈Tn↔x∈d3 ps)(hn:∀q∈ps,fW ps (some q.1)=some q.2)(t':(cj ks Tn ps (L0,StI.emp)).1.Tr ps sg kn):Sd (cj ks Tn ps (L0,StI.emp)).1 ps sg kn (fun i=>(cj ks Tn ps (L0,StI.emp)).1.pt i∈ks++(d3 ps).map Kd.nm) (cj ks Tn ps (L0,StI.emp)).2:=by
 have e:cj ks Tn ps (L0,StI.emp)=ps.foldl kC ((ks++Tn.map Kd.nm).foldl jK (L0,StI.emp)):=rfl;generalize hLf:(cj ks Tn ps (L0,StI.emp)).1=Lf at t'⊢;have pf:Px (ps.foldl kC ((ks++Tn.map Kd.nm).foldl jK (L0,StI.emp))).1 Lf:=by rw[<-hLf,<-e];exact .refl _
 obtain⟨e2,m2⟩:=ya ps pf;obtain⟨e1,m1⟩:=yb (ks++Tn.map Kd.nm) (p:=(L0,StI.emp)) ((nL ps _).trans pf);rw[e,e2,e1];show Sd Lf ps sg kn _ (ps.foldl (JX Lf) ((ks++Tn.map Kd.nm).foldl (sU Lf) StI.emp));have h1:∀(l:List Kd) (S:StI),(∀k∈l,k∈ks++Tn.map Kd.nm)->Sd Lf ps sg kn (fun i=>Lf.pt i∈ks++(d3 ps).map Kd.nm) S->Sd Lf ps sg kn (fun i=>Lf.pt i∈ks++(d3 ps).map Kd.nm) (l.foldl (sU Lf) S)/\(∀x∈S.stand,x∈(l.foldl (sU Lf) S).stand)/\∀k∈l,Lf.ix k∈(l.foldl (sU Lf) S).stand:=fun l=>by
  induction l with
  | nil=>intro S _ h;exact⟨h,fun _ h=>h,fun _ h=>(ao h).elim⟩
  | cons k l ih=>
    intro S hk h;have hm:=m1 k (hk k aL);have root:Lf.pt (Lf.ix k)∈ks++(d3 ps).map Kd.nm:=by
     rw[fP hm];rcases ay.mp (hk k aL) with z | z
     · exact aS _ z
     · obtain⟨x,hx,rfl⟩:=bK.mp z;exact aR _ (dH ((hT x).mp hx))
    obtain⟨q1,q2,q3⟩:=ih (sU Lf S k) (fun y hy=>hk y (aG _ hy)) (Sd.letStand t' h (LoI.ix_lt hm) (.root root));refine⟨q1,fun x hx=>q2 x ((Le.bg1 Lf S k).st x hx),fun y hy=> ?_⟩;rcases aI.mp hy with rfl | hy
    · refine q2 _ ?_;show Lf.ix y∈(StI.letStand Lf S (Lf.ix y)).stand;unfold StI.letStand
      split
      · assumption
      · rw[(dm Lf _ _ 0 "all" [] none).2.1]
        split
        · exact aR _ (af.mpr rfl)
        · rw[(dm Lf _ _ _ "self" [] none).2.1];exact aR _ (af.mpr rfl)
    · exact q3 y hy
 obtain⟨q1,_,q3⟩:=h1 _ StI.emp (fun k hk=>hk) ⟨rfl,fun i s h=>(by cases h),fun f h=>(ao h).elim,fun i h=>(ao h).elim,fun _ _ _ h=>(ao h).elim⟩;have st:∀q∈ps,∀x∈q.2.things,Lf.ix (.nm x)∈((ks++Tn.map Kd.nm).foldl (sU Lf) StI.emp).stand:=fun q hq x hx=>q3 _ (aR _ (dH ((hT x).mpr (CB.mpr ⟨_,dH (f:=fun q:Int × Sy=>q.2.things) hq,hx⟩))));generalize (ks++Tn.map Kd.nm).foldl (sU Lf) StI.emp=S1 at q1 st⊢;refine(d9 (P:=fun S=>Sd Lf ps sg kn (fun i=>Lf.pt i∈ks++(d3 ps).map Kd.nm) S/\∀x∈S1.stand,x∈S.stand) ⟨q1,fun _ h=>h⟩ fun S q hq ⟨h,l⟩=> ?_).1;have so:=hn q hq;have stq:=st q hq;obtain⟨n1,n2⟩:=m2 q hq;obtain⟨n,s⟩:=q;cases s with
 | thing x c=>
   obtain⟨hx,hc⟩:=n1 x c rfl;refine⟨h.tellIs (r:= .thing) (l _ (stq x (by simp[Sy.things]))) ⟨by decide,rfl,HH so,?_,Fv (by decide),av _⟩ rfl,fun y hy=>(Le.tellIs ..).st y (l y hy)⟩;rw[so,fP hx,fP hc];show(if(Sy.thing x c).hd= .thing then decide (Fa.is (.nm x) c= .is (.nm x) c) else false)=true;rw[aE (show(Sy.thing x c).hd= .thing from rfl),ah rfl]
 | tied x t y=>
   obtain⟨hx,hy⟩:=n2 x t y rfl;refine⟨h.tellHas t' (r:= .tied) (l _ (stq x (by simp[Sy.things]))) (LoI.ix_lt hy) ⟨by decide,rfl,HH so,?_,Fv (by decide),av _⟩ rfl,fun z hz=>(Le.tellHas ..).st z (l z hz)⟩;rw[so,fP hx,fP hy];show(if(Sy.tied x t y).hd= .tied then decide (Fa.has (.nm x) t (.nm y)= .has (.nm x) t (.nm y)) else false)=true;rw[aE (show(Sy.tied x t y).hd= .tied from rfl),ah rfl]
 | every a b=>exact⟨h,l⟩
 | no a b=>exact⟨h,l⟩
 | within a b=>exact⟨h,l⟩
 | makes a b c=>exact⟨h,l⟩
def mem_at1{κ α:Type}[DecidableEq κ]{f:κ->List α}{n i:κ}{x e:α}(h:e∈uA f n x i):e∈f i\/(i=n/\e=x):=by
 unfold uA at h;rcases ay.mp h with h | h
 · exact .inl h
 · split at h
   · exact .inr ⟨by assumption,af.mp h⟩
   · exact(ao h).elim
def Her(P:Kd->Prop):Kd->Prop
 | .nm x=>P (.nm x)
 | .two a b=>P (.two a b)/\Her P a/\Her P b
 | .som r c=>P (.som r c)/\Her P c
theorem dY:∀k L,(∀y∈L.parts,P y)->Her P k->∀y∈(LoI.num k L).parts,P y
 | .nm x,L,h,hk=>by
   rw[LoI.num]
   split
   · exact h
   · intro y hy;rcases ay.mp hy with hy | hy
     · exact h y hy
     · rw[af.mp hy];exact hk
 | .two a b,L,h,hk=>by
   have h2:=dY b _ (dY a L h hk.2.1) hk.2.2;rw[LoI.num]
   split
   · exact h
   · intro y hy;rcases ay.mp hy with hy | hy
     · exact h2 y hy
     · rw[af.mp hy];exact hk.1
 | .som r c,L,h,hk=>by
   have h2:=dY c L h hk.2;rw[LoI.num]
   split
   · exact h
   · intro y hy;rcases ay.mp hy with hy | hy
     · exact h2 y hy
     · rw[af.mp hy];exact hk.1
structure TW(F:LoI)(ps:List (Int × Sy))(kn:Kd->Prop)(ts:List Str)(L:LoI):Prop where
 ev:∀k,∀e∈L.everys k,e.1<F.parts.length/\fW ps (some e.2)=some (.every (F.pt k) (F.pt e.1))
 no:∀k,∀e∈L.nos k,e.1<F.parts.length/\fW ps (some e.2.1)=some (if e.2.2=true then .no (F.pt k) (F.pt e.1) else .no (F.pt e.1) (F.pt k))
 wi:∀r,∀e∈L.withins r,e.1∈ts/\fW ps (some e.2)=some (.within r e.1)
 m1:∀r,∀e∈L.mk1 r,e.2.1∈ts/\fW ps (some e.2.2)=some (.makes r e.1 e.2.1)
 m2:∀r,∀e∈L.mk2 r,e.2.1∈ts/\fW ps (some e.2.2)=some (.makes e.1 r e.2.1)
 bo:∀k,∀e∈L.boths k,e.1<F.parts.length/\e.2.1<F.parts.length/\F.pt e.2.1=(if e.2.2=true then .two (F.pt k) (F.pt e.1) else .two (F.pt e.1) (F.pt k))/\kn (F.pt e.2.1)
 so:∀k,∀e∈L.somes k,e.2<F.parts.length/\F.pt e.2= .som e.1 (F.pt k)/\kn (F.pt e.2)
 fi:∀(r:Str) (m i:Nat),L.fillers r=some m->m.testBit i=true->∃k,L.wholes r i=some k/\k<F.parts.length/\i<F.parts.length
 wh:∀r i k,L.wholes r i=some k->F.pt k= .som r (F.pt i)/\kn (F.pt k)
section
def TW.of_eq(h:TW F ps kn ts L)(e1:L'.everys=L.everys)(e2:L'.nos=L.nos)(e3:L'.withins=L.withins)(e4:L'.mk1=L.mk1)(e5:L'.mk2=L.mk2)(e6:L'.boths=L.boths)(e7:L'.somes=L.somes)(e8:L'.fillers=L.fillers)(e9:L'.wholes=L.wholes):TW F ps kn ts L':=⟨by rw[e1];exact h.ev,by rw[e2];exact h.no,by rw[e3];exact h.wi,by rw[e4];exact h.m1,by rw[e5];exact h.m2,by rw[e6];exact h.bo,by rw[e7];exact h.so,by rw[e8,e9];exact h.fi,by rw[e9];exact h.wh⟩
def TW.num(h:TW F ps kn ts L)(k:Kd):TW F ps kn ts (LoI.num k L):=by
 obtain⟨_,e1,e2,e3,e4,e5,e6,e7,e8,e9⟩:=LoI.num_rest k L;exact h.of_eq e1 e2 e3 e4 e5 e6 e7 e8 e9
def TW.kn'(h:TW F ps kn ts L)(i:Nat):TW F ps kn ts (L.kn i):=h.of_eq rfl rfl rfl rfl rfl rfl rfl rfl rfl
def TW.bo'{F L:LoI}{ps:List (Int × Sy)}{kn:Kd->Prop}{ts:List Str}(h:TW F ps kn ts L){i j k:Nat}(hi:i<F.parts.length)(hj:j<F.parts.length)(hk:k<F.parts.length)(e:F.pt k= .two (F.pt i) (F.pt j))(kk:kn (F.pt k)):TW F ps kn ts (L.bo i j k):=by
 refine⟨h.ev,h.no,h.wi,h.m1,h.m2,fun q e' he=> ?_,h.so,h.fi,h.wh⟩;rcases mem_at1 he with he | ⟨rfl,rfl⟩
 · rcases mem_at1 he with he | ⟨rfl,rfl⟩
   · exact h.bo q e' he
   · exact⟨hj,hk,e,kk⟩
 · exact⟨hi,hk,e,kk⟩
def TW.so'{F L:LoI}{ps:List (Int × Sy)}{kn:Kd->Prop}{ts:List Str}(h:TW F ps kn ts L){r:Str}{j k:Nat}(hj:j<F.parts.length)(hk:k<F.parts.length)(e:F.pt k= .som r (F.pt j))(kk:kn (F.pt k)):TW F ps kn ts (L.so r j k):=by
 refine⟨h.ev,h.no,h.wi,h.m1,h.m2,h.bo,fun q e' he=> ?_,fun s m i h1 h2=> ?_,fun s i k' h1=> ?_⟩
 · rcases mem_at1 he with he | ⟨rfl,rfl⟩
   · exact h.so q e' he
   · exact⟨hk,e,kk⟩
 · have h1':yJ L.fillers r ((L.fillers r).getD 0 ||| 2^j) s=some m:=h1;show ∃k',uT L.wholes r j k s i=some k'/\_;unfold yJ at h1';unfold uT;by_cases c:s=r
   · subst c;rw[aE rfl] at h1';obtain rfl:_=m:=by simpa using h1'
     by_cases c2:i=j
     · subst c2;exact⟨k,aE ⟨rfl,rfl⟩,hk,hj⟩
     · rw[E6,ag (fun z=>c2 z.symm),wo] at h2;cases hf:L.fillers s with
       | none=>rw[hf] at h2;simp at h2
       | some m'=>
         rw[hf] at h2;obtain⟨k',q1,q2,q3⟩:=h.fi s m' i hf h2;exact⟨k',by rw[aA (fun z=>c2 z.2)];exact q1,q2,q3⟩
   · rw[aA c] at h1';obtain⟨k',q1,q2,q3⟩:=h.fi s m i h1' h2;exact⟨k',by rw[aA (fun z=>c z.1)];exact q1,q2,q3⟩
 · have h1':uT L.wholes r j k s i=some k':=h1;unfold uT at h1'
   split at h1'
   · rename_i c;obtain rfl:k=k':=by simpa using h1'
     rw[c.1,c.2];exact⟨e,kk⟩
   · exact h.wh s i k' h1'
theorem TW.know:∀(k:Kd) {L:LoI},TW F ps kn ts L->Px L F->L.Ok->k∈L.parts->Her kn k->TW F ps kn ts (LoI.know k L)
 | .nm x,L,h,p,o,hm,hk=>by
   rw[LoI.know]
   split
   · exact h
   · exact h.kn' _
 | .two a b,L,h,p,o,hm,hk=>by
   rw[LoI.know]
   split
   · exact h
   · obtain⟨ha,hb,_⟩:=o.sh _ hm;have r1:=LoI.know_rest a (L.kn (L.ix (.two a b)));have p1:∀{L':LoI},L'.parts=L.parts->Px L' F:=fun {L'} e=>by obtain⟨l,el⟩:=p;exact⟨l,by rw[e];exact el⟩
     have h1:=TW.know a (h.kn' (L.ix (.two a b))) (p1 rfl) (o.of rfl rfl) ha hk.2.1;have h2:=h1.bo' (i:=L.ix a) (j:=L.ix b) (k:=L.ix (.two a b)) (ax (LoI.ix_lt ha) p.le) (ax (LoI.ix_lt hb) p.le) (ax (LoI.ix_lt hm) p.le) (by rw[<-p.ix ha,<-p.ix hb,<-p.ix hm,fP (p.mem ha),fP (p.mem hb),fP (p.mem hm)]) (by rw[<-p.ix hm,fP (p.mem hm)];exact hk.1);exact TW.know b h2 (p1 r1.1) (o.of r1.1 r1.2) (by show b∈(LoI.know a (L.kn (L.ix (.two a b)))).parts;rw[r1.1];exact hb) hk.2.2
 | .som r c,L,h,p,o,hm,hk=>by
   rw[LoI.know]
   split
   · exact h
   · obtain⟨hc,_⟩:=o.sh _ hm;have p1:∀{L':LoI},L'.parts=L.parts->Px L' F:=fun {L'} e=>by obtain⟨l,el⟩:=p;exact⟨l,by rw[e];exact el⟩
     have h2:=(h.kn' (L.ix (.som r c))).so' (r:=r) (j:=L.ix c) (k:=L.ix (.som r c)) (ax (LoI.ix_lt hc) p.le) (ax (LoI.ix_lt hm) p.le) (by rw[<-p.ix hc,<-p.ix hm,fP (p.mem hc),fP (p.mem hm)]) (by rw[<-p.ix hm,fP (p.mem hm)];exact hk.1);exact TW.know c h2 (p1 rfl) (o.of rfl rfl) hc hk.2
def Px.of_eq(p:Px L' F)(e:L'.parts=L.parts):Px L F:=by obtain⟨l,el⟩:=p;exact⟨l,by rw[<-e];exact el⟩
def TW.kk{F L:LoI}{ps:List (Int × Sy)}{kn:Kd->Prop}{ts:List Str}(h:TW F ps kn ts L)(o:L.Ok){k:Kd}(p:Px (LoI.kk k L) F)(hk:Her kn k):TW F ps kn ts (LoI.kk k L):=TW.know k (h.num k) (p.of_eq (LoI.know_rest k _).1) (LoI.num_ok k o) (LoI.num_has k L) hk
def HU(k:Kd)(L:LoI):Px L (LoI.kk k L):=by
 obtain⟨l,e⟩:=LoI.num_sub k L;exact⟨l,by unfold LoI.kk;rw[(LoI.know_rest k _).1];exact e⟩
def Jy(L:LoI)(p:Str × Kd):Px L (L.kkp p):=by
 unfold LoI.kkp
 split
 · exact HU _ _
 · exact .refl _
theorem vM:∀(l:List (Str × Kd)) (L:LoI),Px L (l.foldl LoI.kkp L)
 | [],L=> .refl L
 | q::l,L=>(Jy L q).trans (vM l _)
def mS(n:Int)(s:Sy)(L:LoI):(LoI.tb n s L).parts=L.parts:=by cases s<;>rfl
def Eo(n:Int)(s:Sy)(L:LoI):Px L (LoI.learn n s L):=by
 obtain⟨l,e⟩:=vM s.sg.ps L;exact⟨l,by unfold LoI.learn;rw[mS];exact e⟩
theorem TW.kks:∀(l:List (Str × Kd)) {L:LoI},TW F ps kn ts L->L.Ok->Px (l.foldl LoI.kkp L) F->(∀q∈l,q.1="kind"->Her kn q.2)->TW F ps kn ts (l.foldl LoI.kkp L)
 | [],L,h,_,_,_=>h
 | q::l,L,h,o,p,hk=>by
   refine TW.kks l ?_ (LoI.kkp_ok q o) p fun q' hq=>hk q' (aG _ hq);have p1:=(vM l (L.kkp q)).trans p;unfold LoI.kkp at p1⊢
   split
   · rename_i c;rw[aE c] at p1;exact h.kk o p1 (hk q aL c)
   · exact h
end
noncomputable def Sy.knK:Sy->List Kd
 | .every a b=>[a,b] | .no a b=>[a,b] | .thing _ k=>[k] | _=>[]
noncomputable def Sy.tiesL:Sy->List Str
 | .every a b=>Kd.tieL a++Kd.tieL b | .no a b=>Kd.tieL a++Kd.tieL b | .thing _ k=>Kd.tieL k | .tied _ t _=>[t] | .within r s=>[r,s] | .makes r s t=>[r,s,t]
def LY:(("thing":Str)="kind")->False:=by decide+kernel
def MQ:(("tie":Str)="kind")->False:=by decide+kernel
def AH{s:Sy}(h:q∈s.sg.ps)(e:q.1="kind"):q.2∈s.knK:=by
 cases s<;>simp only[Sy.sg,Sy.sorts,Sy.parts,yq,Os,aI,ao,bW] at h
 case every a b=>rcases h with rfl | rfl<;>simp[Sy.knK]
 case no a b=>rcases h with rfl | rfl<;>simp[Sy.knK]
 case thing x k=>
  rcases h with rfl | rfl
  · exact(LY e).elim
  · simp[Sy.knK]
 case tied x t y=>rcases h with rfl | rfl | rfl<;>first | exact(LY e).elim | exact(MQ e).elim
 case within x y=>rcases h with rfl | rfl<;>first | exact(LY e).elim | exact(MQ e).elim
 case makes x y z=>rcases h with rfl | rfl | rfl<;>first | exact(LY e).elim | exact(MQ e).elim
section
def TW.learn{F L:LoI}{ps:List (Int × Sy)}{kn:Kd->Prop}{ts:List Str}(h:TW F ps kn ts L)(o:L.Ok){n:Int}{s:Sy}(p:Px (LoI.learn n s L) F)(so:fW ps (some n)=some s)(hk:∀k∈s.knK,Her kn k)(ht:∀r∈s.tiesL,r∈ts):TW F ps kn ts (LoI.learn n s L):=by
 have p1:Px (LoI.kks s L) F:=p.of_eq (mS n s _);have h1:TW F ps kn ts (LoI.kks s L):=TW.kks s.sg.ps h o p1 fun q hq e=>hk _ (AH hq e);cases s with
 | every a b=>
   have ha:a∈(LoI.kks (.every a b) L).parts:=ki (s:= .every a b) L (by simp[Sy.sg,Sy.sorts,Sy.parts]);have hb:b∈(LoI.kks (.every a b) L).parts:=ki (s:= .every a b) L (by simp[Sy.sg,Sy.sorts,Sy.parts]);refine⟨fun k e he=> ?_,h1.no,h1.wi,h1.m1,h1.m2,h1.bo,h1.so,h1.fi,h1.wh⟩;rcases mem_at1 he with he | ⟨rfl,rfl⟩
   · exact h1.ev k e he
   · refine⟨ax (LoI.ix_lt hb) p1.le,?_⟩;rw[<-p1.ix ha,<-p1.ix hb,fP (p1.mem ha),fP (p1.mem hb)];exact so
 | no a b=>
   have ha:a∈(LoI.kks (.no a b) L).parts:=ki (s:= .no a b) L (by simp[Sy.sg,Sy.sorts,Sy.parts]);have hb:b∈(LoI.kks (.no a b) L).parts:=ki (s:= .no a b) L (by simp[Sy.sg,Sy.sorts,Sy.parts]);refine⟨h1.ev,fun k e he=> ?_,h1.wi,h1.m1,h1.m2,h1.bo,h1.so,h1.fi,h1.wh⟩;rcases mem_at1 he with he | ⟨rfl,rfl⟩
   · rcases mem_at1 he with he | ⟨rfl,rfl⟩
     · exact h1.no k e he
     · refine⟨ax (LoI.ix_lt hb) p1.le,?_⟩;rw[<-p1.ix ha,<-p1.ix hb,fP (p1.mem ha),fP (p1.mem hb)];exact so
   · refine⟨ax (LoI.ix_lt ha) p1.le,?_⟩;rw[<-p1.ix ha,<-p1.ix hb,fP (p1.mem ha),fP (p1.mem hb)];exact so
 | within r s'=>
   refine⟨h1.ev,h1.no,fun k e he=> ?_,h1.m1,h1.m2,h1.bo,h1.so,h1.fi,h1.wh⟩;rcases mem_at1 he with he | ⟨rfl,rfl⟩
   · exact h1.wi k e he
   · exact⟨ht _ (by simp[Sy.tiesL]),so⟩
 | makes r s' t=>
   refine⟨h1.ev,h1.no,h1.wi,fun k e he=> ?_,fun k e he=> ?_,h1.bo,h1.so,h1.fi,h1.wh⟩
   · rcases mem_at1 he with he | ⟨rfl,rfl⟩
     · exact h1.m1 k e he
     · exact⟨ht _ (by simp[Sy.tiesL]),so⟩
   · rcases mem_at1 he with he | ⟨rfl,rfl⟩
     · exact h1.m2 k e he
     · exact⟨ht _ (by simp[Sy.tiesL]),so⟩
 | thing x k=>exact h1
 | tied x t y=>exact h1
end
section
theorem oJ:∀(l:List (Int × Sy)) (L:LoI),Px L (l.foldl (fun L q=>LoI.learn q.1 q.2 L) L)
 | [],L=> .refl L
 | q::l,L=>(Eo q.1 q.2 L).trans (oJ l _)
theorem vL:∀(l:List Kd) (L:LoI),Px L (l.foldl (fun L k=>LoI.kk k L) L)
 | [],L=> .refl L
 | q::l,L=>(HU q L).trans (vL l _)
theorem TW.learns:∀(l:List (Int × Sy)) {L:LoI},TW F ps kn ts L->L.Ok->Px (l.foldl (fun L q=>LoI.learn q.1 q.2 L) L) F->(∀q∈l,fW ps (some q.1)=some q.2/\(∀k∈q.2.knK,Her kn k)/\∀r∈q.2.tiesL,r∈ts)->TW F ps kn ts (l.foldl (fun L q=>LoI.learn q.1 q.2 L) L)
 | [],L,h,_,_,_=>h
 | q::l,L,h,o,p,hq=>by
   obtain⟨q1,q2,q3⟩:=hq q aL;exact TW.learns l (h.learn o ((oJ l _).trans p) q1 q2 q3) (LoI.learn_ok _ _ o) p fun q' h'=>hq q' (aG _ h')
theorem TW.kkl:∀(l:List Kd) {L:LoI},TW F ps kn ts L->L.Ok->Px (l.foldl (fun L k=>LoI.kk k L) L) F->(∀k∈l,Her kn k)->TW F ps kn ts (l.foldl (fun L k=>LoI.kk k L) L)
 | [],L,h,_,_,_=>h
 | k::l,L,h,o,p,hk=>TW.kkl l (h.kk o ((vL l _).trans p) (hk k aL)) (LoI.kk_ok k o) p fun q' h'=>hk q' (aG _ h')
def TW.init:TW F ps kn ts LoI.init:=by
 have e:∀{α:Type} {x:α},x∉([]:List α):=fun h=>ao h;rw[j9];exact⟨fun _ _ h=>(e h).elim,fun _ _ h=>(e h).elim,fun _ _ h=>(e h).elim,fun _ _ h=>(e h).elim,fun _ _ h=>(e h).elim,fun _ _ h=>(e h).elim,fun _ _ h=>(e h).elim,fun _ _ _ h=>(by cases h),fun _ _ _ h=>(by cases h)⟩
def HG(ps:List (Int × Sy))(fs:List Kd):Px LoI.init (LoI.of ps fs):=(oJ ps _).trans (vL fs _)
def TW.of(p:Px (LoI.of ps fs) F)(hq:∀q∈ps,fW ps (some q.1)=some q.2/\(∀k∈q.2.knK,Her kn k)/\∀r∈q.2.tiesL,r∈ts)(hk:∀k∈fs,Her kn k):TW F ps kn ts (LoI.of ps fs):=TW.kkl fs (TW.learns ps TW.init LoI.init_ok ((vL fs _).trans p) hq) (jF (fun L q o=>LoI.learn_ok _ _ o) _ LoI.init_ok) p hk
def vD{ps:List (Int × Sy)}{Q:LoI->Prop}(hq:∀{L L':LoI},L'.parts=L.parts->L'.shapes=L.shapes->Q L->Q L')(h0:Q LoI.init){fs:List Kd}(hp:∀q∈ps,∀k∈q.2.knK,∀L,Q L->Q (LoI.num k L))(hf:∀k∈fs,∀L,Q L->Q (LoI.num k L)):Q (LoI.of ps fs):=by
 have kk:∀(k:Kd),(∀L,Q L->Q (LoI.num k L))->∀L,Q L->Q (LoI.kk k L):=fun k hk L h=>hq (LoI.know_rest k _).1 (LoI.know_rest k _).2 (hk L h);have inner:∀(s:Sy),(∀k∈s.knK,∀L,Q L->Q (LoI.num k L))->∀(l:List (Str × Kd)),(∀q∈l,q∈s.sg.ps)->∀L,Q L->Q (l.foldl LoI.kkp L):=fun s hs l=>by
  induction l with
  | nil=>intro _ L h;exact h
  | cons q l ih=>
    intro hl L h;refine ih (fun q' h'=>hl q' (aG _ h')) _ ?_;unfold LoI.kkp
    split
    · rename_i c;exact kk _ (hs _ (AH (hl q aL) c)) _ h
    · exact h
 have one:∀(n:Int) (s:Sy),(∀k∈s.knK,∀L,Q L->Q (LoI.num k L))->∀L,Q L->Q (LoI.learn n s L):=fun n s hs L h=>by
  unfold LoI.learn;refine hq (mS n s _) (by cases s<;>rfl) (inner s hs s.sg.ps (fun _ h=>h) L h)
 have lr:∀(l:List (Int × Sy)),(∀q∈l,q∈ps)->∀L,Q L->Q (l.foldl (fun L q=>LoI.learn q.1 q.2 L) L):=fun l=>by
  induction l with
  | nil=>intro _ L h;exact h
  | cons q l ih=>intro hl L h;exact ih (fun q' h'=>hl q' (aG _ h')) _ (one q.1 q.2 (hp q (hl q aL)) L h)
 have lf:∀(l:List Kd),(∀q∈l,q∈fs)->∀L,Q L->Q (l.foldl (fun L k=>LoI.kk k L) L):=fun l=>by
  induction l with
  | nil=>intro _ L h;exact h
  | cons q l ih=>intro hl L h;exact ih (fun q' h'=>hl q' (aG _ h')) _ (kk q (hf q (hl q aL)) L h)
 exact lf fs (fun _ h=>h) _ (lr ps (fun _ h=>h) _ h0)
def Es{s:Sy}(h:k∈s.knK):∀r∈Kd.tieL k,r∈s.tiesL:=fun r hr=>by
 cases s with
 | every a b=>rcases(show k=a\/k=b by simpa[Sy.knK] using h) with rfl | rfl;exact aS _ hr;exact aR _ hr
 | no a b=>rcases(show k=a\/k=b by simpa[Sy.knK] using h) with rfl | rfl;exact aS _ hr;exact aR _ hr
 | thing x c=>obtain rfl:k=c:=by simpa[Sy.knK] using h
              exact hr
 | tied x t y=>simp[Sy.knK] at h
 | within x y=>simp[Sy.knK] at h
 | makes x y z=>simp[Sy.knK] at h
def ShT(ts:List Str)(L:LoI):Prop:=∀r j,Sh.some r j∈L.shapes->r∈ts
def ShT.num(ht:∀r∈Kd.tieL k,r∈ts)(h:ShT ts L):ShT ts (LoI.num k L):=fun r j hr=>by
 obtain⟨l,e,hl⟩:=LoI.num_shapes k L;rw[e] at hr;rcases ay.mp hr with hr | hr
 · exact h r j hr
 · exact ht r (hl r j hr)
def ShT.init:ShT ts LoI.init:=fun r j h=>by
 rw[j9] at h;have h':Sh.some r j∈([.no,.no]:List Sh):=h;simp at h'
def K0(hq:∀q∈ps,fW ps (some q.1)=some q.2/\∀r∈q.2.tiesL,r∈ts)(hk:∀k∈fs,∀r∈Kd.tieL k,r∈ts):(LoI.of ps fs).Wd ts:=by
 have her:∀k:Kd,Her (fun _=>True) k:=fun k=>by
  induction k with
  | nm x=>trivial
  | two a b ha hb=>exact⟨trivial,ha,hb⟩
  | som r c hc=>exact⟨trivial,hc⟩
 have t:TW (LoI.of ps fs) ps (fun _=>True) ts (LoI.of ps fs):=TW.of (.refl _) (fun q h=>⟨(hq q h).1,fun k _=>her k,(hq q h).2⟩) fun k _=>her k;have s:ShT ts (LoI.of ps fs):=vD (Q:=ShT ts) (fun _ e h=>by unfold ShT at h⊢;rw[e];exact h) ShT.init (fun q h k hk' L hL=>ShT.num (fun r hr=>(hq q h).2 r (Es hk' r hr)) hL) (fun k hk' L hL=>ShT.num (hk k hk') hL);exact⟨fun k e h=>(t.ev k e h).1,fun k e h=>(t.no k e h).1,fun k e h=>(t.wi k e h).1,fun k e h=>(t.m1 k e h).1,fun k e h=>(t.m2 k e h).1,fun k e h=>⟨(t.bo k e h).1,(t.bo k e h).2.1⟩,fun k e h=>(t.so k e h).1,t.fi,fun i r j h=>s r j (au h)⟩
def Jk(ps:List (Int × Sy))(fs:List Kd):2<=(LoI.of ps fs).parts.length:=by
 have:=(HG ps fs).le;rw[j9] at this;exact this
def Jl(ps:List (Int × Sy))(fs:List Kd):(LoI.of ps fs).parts.length<=2+mT ps+i_ fs:=by
 have kk:∀(k:Kd) (L:LoI),(LoI.kk k L).parts.length<=L.parts.length+k.sz:=fun k L=>by unfold LoI.kk;rw[(LoI.know_rest k _).1];exact LoI.num_len k L
 have kp:∀(l:List (Str × Kd)) (L:LoI),(l.foldl LoI.kkp L).parts.length<=L.parts.length+(l.map fun p=>p.2.sz).sum:=fun l=>by
  induction l with
  | nil=>intro L;exact dv _ _
  | cons q l ih=>
    intro L;have h1:=ih (L.kkp q);have h2:(L.kkp q).parts.length<=L.parts.length+q.2.sz:=by
     unfold LoI.kkp
     split
     · exact kk _ _
     · lia
    rw[dN,bM,nY];lia
 have lr:∀(l:List (Int × Sy)) (L:LoI),(l.foldl (fun L q=>LoI.learn q.1 q.2 L) L).parts.length<=L.parts.length+mT l:=fun l=>by
  induction l with
  | nil=>intro L;exact dv _ _
  | cons q l ih=>
    intro L;have h1:=ih (LoI.learn q.1 q.2 L);have h2:(LoI.learn q.1 q.2 L).parts.length<=L.parts.length+q.2.szs:=by
     unfold LoI.learn;rw[mS];have tot:(q.2.sg.ps.map fun p=>p.2.sz).sum=q.2.szs:=by unfold Sy.szs;rw[<-jf,iF];rfl
     have:=kp q.2.sg.ps L;rw[tot] at this;exact this
    unfold mT at h1⊢;rw[dN,bM,nY];lia
 have lf:∀(l:List Kd) (L:LoI),(l.foldl (fun L k=>LoI.kk k L) L).parts.length<=L.parts.length+i_ l:=fun l=>by
  induction l with
  | nil=>intro L;exact dv _ _
  | cons q l ih=>
    intro L;have h1:=ih (LoI.kk q L);have h2:=kk q L;unfold i_ at h1⊢;rw[dN,bM,nY];lia
 have a:=lr ps LoI.init;have b:=lf fs (ps.foldl (fun L q=>LoI.learn q.1 q.2 L) LoI.init);have c:LoI.init.parts.length=2:=by rw[j9];rfl
 unfold LoI.of
 lia
end
section
theorem yh{Q:LoI->Prop}:∀(l:List Kd),(∀k∈l,∀L,Q L->Q (LoI.num k L))->∀(p:LS),Q p.1->Q (l.foldl jK p).1
 | [],_,_,h=>h
 | k::l,hk,p,h=>yh l (fun k' h'=>hk k' (aG _ h')) (jK p k) (hk k aL _ h)
theorem yg{Q:LoI->Prop}:∀(l:List (Int × Sy)),(∀q∈l,(∀x∈q.2.things,∀L,Q L->Q (LoI.num (.nm x) L))/\∀k∈q.2.knK,∀L,Q L->Q (LoI.num k L))->∀(p:LS),Q p.1->Q (l.foldl kC p).1
 | [],_,_,h=>h
 | q::l,hk,p,h=>by
   refine yg l (fun k' h'=>hk k' (aG _ h')) (kC p q) ?_;obtain⟨h1,h2⟩:=hk q aL;obtain⟨n,s⟩:=q;cases s with
   | thing x c=>exact h2 c (by simp[Sy.knK]) _ (h1 x (by simp[Sy.things]) _ h)
   | tied x t y=>exact h1 y (by simp[Sy.things]) _ (h1 x (by simp[Sy.things]) _ h)
   | every a b=>exact h
   | no a b=>exact h
   | within a b=>exact h
   | makes a b c=>exact h
def qx{Q:LoI->Prop}(hT:∀x,x∈Tn↔x∈d3 ps)(h:Q p.1)(hk:∀k∈ks,∀L,Q L->Q (LoI.num k L))(hx:∀x∈d3 ps,∀L,Q L->Q (LoI.num (.nm x) L))(hq:∀q∈ps,∀k∈q.2.knK,∀L,Q L->Q (LoI.num k L)):Q (cj ks Tn ps p).1:=by
 refine yg ps (fun q hq'=>⟨fun x hx'=>hx x (CB.mpr ⟨_,dH (f:=fun q:Int × Sy=>q.2.things) hq',hx'⟩),hq q hq'⟩) _ (yh _ (fun k hk'=> ?_) p h);rcases ay.mp hk' with hk' | hk'
 · exact hk k hk'
 · obtain⟨x,hx',rfl⟩:=bK.mp hk';exact hx x ((hT x).mp hx')
def JY:Px p.1 (cj ks Tn ps p).1:=(rL _ p).trans (nL _ _)
def Bq{L:LoI}(o:L.Ok){i:Nat}(h:i<L.parts.length):L.ix (L.pt i)=i:=by
 have e:L.pt i=L.parts[i]:=by
  unfold LoI.pt;rw[eO,aq h];rfl
 unfold LoI.ix;rw[e];exact List.Nodup.idxOf_getElem o.nd i h
def BJ{L:LoI}(o:L.Ok){k i j:Nat}(h:L.shapes[k]? =some (.both i j)):L.pt k= .two (L.pt i) (L.pt j):=by
 have hk:k<L.parts.length:=by rw[<-o.sl];exact(aU.mp h).1
 have s:=o.sh _ (j3 hk);have ix:=Bq o hk;cases e:L.pt k with
 | nm x=>
   rw[e] at s ix;have s':L.shapes[L.ix (.nm x)]? =some .no:=s;rw[ix,h] at s';cases s'
 | two a b=>
   rw[e] at s ix;obtain⟨ha,hb,s'⟩:=(show a∈L.parts/\b∈L.parts/\L.shapes[L.ix (.two a b)]? =some (.both (L.ix a) (L.ix b)) from s);rw[ix,h] at s';cases s';rw[fP ha,fP hb]
 | som r c=>
   rw[e] at s ix;obtain⟨hc,s'⟩:=(show c∈L.parts/\L.shapes[L.ix (.som r c)]? =some (.some r (L.ix c)) from s);rw[ix,h] at s';cases s'
def BK{L:LoI}(o:L.Ok){k j:Nat}{t:Str}(h:L.shapes[k]? =some (.some t j)):L.pt k= .som t (L.pt j):=by
 have hk:k<L.parts.length:=by rw[<-o.sl];exact(aU.mp h).1
 have s:=o.sh _ (j3 hk);have ix:=Bq o hk;cases e:L.pt k with
 | nm x=>
   rw[e] at s ix;have s':L.shapes[L.ix (.nm x)]? =some .no:=s;rw[ix,h] at s';cases s'
 | two a b=>
   rw[e] at s ix;obtain⟨ha,hb,s'⟩:=(show a∈L.parts/\b∈L.parts/\L.shapes[L.ix (.two a b)]? =some (.both (L.ix a) (L.ix b)) from s);rw[ix,h] at s';cases s'
 | som r c=>
   rw[e] at s ix;obtain⟨hc,s'⟩:=(show c∈L.parts/\L.shapes[L.ix (.som r c)]? =some (.some r (L.ix c)) from s);rw[ix,h] at s';cases s';rw[fP hc]
end
inductive Ly(roots:List Kd)(fs:List Fa):Kd->Prop where
 | root {k:Kd}:k∈roots->Ly roots fs k
 | step {x y:Kd} {t:Str}:Ly roots fs x->Fa.has x t y∈fs->Ly roots fs y
def okP(sg:List Str)(k:Kd):Prop:=ju k=cF k/\(cF k=true->Ki k sg=true)
structure Fd(ps:List (Int × Sy))(sg:List Str)(kn:Kd->Prop)(roots:List Kd)(ss:List sF):Prop where
 fine:∀i s,ss[i]? =some s->zZ ps sg kn ss i s
 nd:(ss.map (·.f)).Nodup
 rea:∀s∈ss,Ly roots (ss.map (·.f)) s.f.x
def oZ(st:ym ts ps ks fs Tn S')(hq:∀q∈ps,fW ps (some q.1)=some q.2/\(∀k∈q.2.knK,Her kn k)/\∀r∈q.2.tiesL,r∈ts)(hf:∀k∈fs,Her kn k)(p0:okP sg anyW)(p1:okP sg nothW)(pq:∀q∈ps,∀k∈q.2.knK,Her (okP sg) k)(px:∀x∈d3 ps,okP sg (.nm x))(pk:∀k∈ks,Her (okP sg) k)(pf:∀k∈fs,Her (okP sg) k):Fd ps sg kn (ks++(d3 ps).map Kd.nm) S'.steps/\∀s∈S'.steps,∃f∈S'.facts,s.f=gX (cj ks Tn ps (LoI.of ps fs,StI.emp)).1 f/\f.rg (cj ks Tn ps (LoI.of ps fs,StI.emp)).1.parts.length ts:=by
 have sdb:=C_ (ps:=ps) (sg:=sg) (kn:=kn) (ts:=ts) (ks:=ks) (Tn:=Tn) (L0:=LoI.of ps fs) st.tn (fun q h=>(hq q h).1);have o:=st.ok;have w:=st.wd;have px1:Px (LoI.of ps fs) (cj ks Tn ps (LoI.of ps fs,StI.emp)).1:=JY;have tw:TW (cj ks Tn ps (LoI.of ps fs,StI.emp)).1 ps kn ts (cj ks Tn ps (LoI.of ps fs,StI.emp)).1:=qx (Q:=TW _ ps kn ts) st.tn (TW.of px1 hq hf) (fun k _ L h=>h.num k) (fun x _ L h=>h.num _) (fun q _ k _ L h=>h.num k);have pp:∀k∈(cj ks Tn ps (LoI.of ps fs,StI.emp)).1.parts,okP sg k:=qx (Q:=fun L=>∀k∈L.parts,okP sg k) st.tn (vD (Q:=fun L=>∀k∈L.parts,okP sg k) (fun e _ h=>by rw[e];exact h) (by
  rw[j9];intro k hk;have hk':k∈([anyW,nothW]:List Kd):=hk;rcases(show k=anyW\/k=nothW by simpa using hk') with rfl | rfl
  · exact p0
  · exact p1) (fun q h k hk L hL=>dY k L hL (pq q h k hk)) (fun k hk L hL=>dY k L hL (pf k hk))) (fun k hk L hL=>dY k L hL (pk k hk)) (fun x hx L hL=>dY (.nm x) L hL (px x hx)) (fun q h k hk L hL=>dY k L hL (pq q h k hk))
 have pi:=(HG ps fs).trans px1;have wf:=st.wf;have sl:=st.sl;obtain⟨i,rc,hi⟩:=st.rch;generalize hB:cj ks Tn ps (LoI.of ps fs,StI.emp)=p at sdb o w tw pp pi rc wf px1⊢;obtain⟨Lf,S0⟩:=p;have li:LoI.init.parts.length=2:=by rw[j9];rfl
 have tr:Lf.Tr ps sg kn:=by
  refine⟨?_,?_,fun k i j h=>BJ o h,fun k r j h=>BK o h,fun k e h=>(tw.ev k e h).2,fun k e h=>(tw.no k e h).2,fun k e h=>(tw.wi k e h).2,fun k e h=>(tw.m1 k e h).2,fun k e h=>(tw.m2 k e h).2,fun k e h=>(tw.bo k e h).2.2,fun k e h=>(tw.so k e h).2,tw.wh,pp⟩
  · rw[pi.pt (by rw[li];decide),j9];rfl
  · rw[pi.pt (by rw[li];decide),j9];rfl
 have sd:=IA tr w o (sdb tr) rc;have ptinj:∀{a b:Nat},a<Lf.parts.length->b<Lf.parts.length->Lf.pt a=Lf.pt b->a=b:=fun {a b} ha hb e=>by rw[<-Bq o ha,<-Bq o hb,e]
 have inj:∀a∈S'.facts,∀b∈S'.facts,gX Lf a=gX Lf b->a=b:=fun a ha b hb e=>by
  have ra:=wf.rg a ha;have rb:=wf.rg b hb;cases a with
  | is x k=>
    cases b with
    | is x' k'=>injection e with e1 e2;rw[ptinj ra.1 rb.1 e1,ptinj ra.2 rb.2 e2]
    | has x' t' y'=>cases e
  | has x t y=>
    cases b with
    | is x' k'=>cases e
    | has x' t' y'=>injection e with e1 e2 e3;rw[ptinj ra.1 rb.1 e1,e2,ptinj ra.2.2 rb.2.2 e3]
 have nodup:∀(l:List Fi),l.Nodup->(∀a∈l,a∈S'.facts)->(l.map (gX Lf)).Nodup:=fun l=>by
  induction l with
  | nil=>intro _ _;exact .nil
  | cons a l ih=>
    intro nd h;rw[bM,de];refine⟨fun hm=> ?_,ih (de.mp nd).2 fun b hb=>h b (aG _ hb)⟩;obtain⟨b,hb,e⟩:=bK.mp hm;have:=inj b (h b (aG _ hb)) a (h a aL) e;rw[this] at hb;exact(de.mp nd).1 hb
 have ex:∀s∈S'.steps,∃f∈S'.facts,s.f=gX Lf f/\f.rg Lf.parts.length ts:=fun s hs=>by
  have:s.f∈S'.facts.map (gX Lf):=by rw[<-sd.rel];exact dH hs
  obtain⟨f,hf',e⟩:=bK.mp this;exact⟨f,hf',e.symm,wf.rg f hf'⟩
 have rk:∀i,Rc (fun i=>Lf.pt i∈ks++(d3 ps).map Kd.nm) S'.facts i->Ly (ks++(d3 ps).map Kd.nm) (S'.steps.map (·.f)) (Lf.pt i):=fun i r=>by
  induction r with
  | root h=>exact .root h
  | step _ hf' ih=>exact .step ih (by rw[sd.rel];exact dH (f:=gX Lf) hf')
 refine⟨⟨sd.fine,?_,fun s hs=> ?_⟩,ex⟩
 · rw[sd.rel];exact nodup _ wf.nd fun _ h=>h
 · obtain⟨f,hf',e,_⟩:=ex s hs;have:=rk _ (sd.rea _ (sd.sub f hf'));rw[e];cases f<;>exact this
noncomputable def IK:Kd->List Nat
 | .nm x=>39::(x.cps.toList++[39])
 | .two a b=>[40,39,98,111,116,104,39,44,32]++(IK a++(44::32::(IK b++[41])))
 | .som r c=>[40,39,115,111,109,101,39,44,32]++(39::(r.cps.toList++(39::44::32::(IK c++[41]))))
noncomputable def Oz:Fa->List Nat
 | .is x k=>[40,39,105,115,39,44,32]++(IK x++(44::32::(IK k++[41])))
 | .has x t y=>[40,39,104,97,115,39,44,32]++(IK x++(44::32::39::(t.cps.toList++(39::44::32::(IK y++[41])))))
def KZ:Fa->Prop
 | .is x k=>kO x/\kO k
 | .has x t y=>kO x/\gM t=true/\kO y
def rb:(reprText (Str.ofString "both")).cps.toList=[39,98,111,116,104,39]:=by decide+kernel
def rs:(reprText (Str.ofString "some")).cps.toList=[39,115,111,109,101,39]:=by decide+kernel
def ri:(reprText (Str.ofString "is")).cps.toList=[39,105,115,39]:=by decide+kernel
def rE(h:KL H xs [a,b]):∃x y,xs=[x,y]/\IsK H a x/\IsK H b y:=by
 cases h with
 | cons r t=>
   cases t with
   | cons r2 t2=>cases t2;exact⟨_,_,rfl,r,r2⟩
def xS(h:KL H xs [a,b,c]):∃x y z,xs=[x,y,z]/\IsK H a x/\IsK H b y/\IsK H c z:=by
 cases h with
 | cons r t=>
   obtain⟨y,z,rfl,h1,h2⟩:=rE t;exact⟨_,y,z,rfl,r,h1,h2⟩
section
end
def JA(K:Frag):kitOne K (.type "int") (.type "int")=some true:=by first | rfl | decide | with_unfolding_all rfl
def JB(K:Frag):kitOne K (.type "int") (.type "bool")=some false:=by first | rfl | decide | with_unfolding_all rfl
section
end
section
end
section
end
section
end
theorem uo:∀l:List Str,(l.map V.str).all jJ=true
 | []=>rfl
 | _::l=>by rw[bM,fm,uo l];rfl
theorem qv(x:Str):∀l:List Str,wj (.str x) (l.map V.str)=decide (x∈l)
 | []=>by simp[wj]
 | y::l=>by
   have ih:=qv x l;unfold wj at ih⊢;rw[bM,gh,ih];by_cases c:y=x
   · subst c;simp[Bu]
   · have c':¬ x=y:=fun z=>c z.symm;simp[Bu,c,c']
inductive wW(K:Frag)(vs:List V)(H:Hp)(Q:VK):Prop
 | mk:∀(a:Addr) (ns:List Int) (i:Int),(vs=[.ref a,.int i])->(SqL K H a (ns.map V.int))->(0<=i)->(∀r:Int,Q (.int r) H)->wW K vs H Q
def yF(K:Frag):Sp:=fun vs H Q _=>wW K vs H Q
section
def ID:bw uf uf (aM Dj):=gH
def Gu(F:Fun K "_law_cell" "_law_cell" Dj f fd)(ml:mg "len"=none):b_ P w K mg base eU 1 f fd uf (yF K):=by
 refine F.o ID fun cdv A outer s H vs Q E hr h=> ?_;obtain⟨a,ns,i,rfl,hS,h0,q⟩:=h;refine⟨_,ba (by exact bL (qj lP bf (fC nO rfl ml Hb (d8 aD cf)) (rA _)) (fS (gB (iJ di aD bf (fun _ _=>rfl)))) be) (bg (by exact gB aw)),?_⟩;refine⟨a,_,rfl,.inl hS,fY (fun h=> ?_) (fun h=>q 0)⟩;have h':i<((ns.map V.int).length:Int):=bA h;rw[ae] at h';have hi:i.toNat<ns.length:=by lia
 have z:zU (ns.map V.int) ((i.toNat:Nat):Int)=some (.int ns[i.toNat]):=aJ (by rw[aH,aq hi];rfl);rw[show((i.toNat:Nat):Int)=i by lia] at z;exact⟨_,_,hS,z,q _⟩
end
noncomputable def kept:List Str:=["anything","nothing","every","no","is","tie","within","then","makes","both","some"]
noncomputable abbrev az:Str:="abcdefghijklmnopqrstuvwxyz"
noncomputable def EI(i:Nat):Bool:=i==2 || i==3 || i==5 || i==9 || i==11 || i==15 || i==16 || i==20 || i==23 || i==25
def EG:∀w'∈kept,∀c∈w'.cps.toList,EI (c - 97)=false:=by decide+kernel
def EH(hc:c∈z.cps.toList)(hg:EI (c - 97)=true):wj (.str z) (kept.map V.str)=false:=by
 cases e:wj (.str z) (kept.map V.str) with
 | false=>rfl
 | true=>
   exfalso
   unfold wj at e;rw[gE] at e;obtain⟨y,hy,e⟩:=e;obtain⟨w',hw,rfl⟩:=bK.mp hy;have:w'=z:=by simpa[Bu] using e
   subst this;have:=EG w' hw c hc;rw[this] at hg;cases hg
def Ls{i:Nat}(h:i<26):zU (az).cps.toList (i:Int)=some (97+i):=by
 have e:(az).cps.toList=List.range' 97 26:=by decide+kernel
 rw[e];exact aJ (by rw[Nq h];simp)
def JZ:(az).length=26:=by decide+kernel
def uq:(kept.map V.str).all jJ=true:=by decide+kernel
def BH(z:Str):Prop:=∀c∈z.cps.toList,97<=c/\c<=122
def FI:BH ⟨#[]⟩:=fun c h=>by simp at h
def uQ(ha:BH a)(hb:BH b):BH (a++b):=fun c h=>by
 rw[lz] at h;simp only[NU,ay] at h;exact h.elim (ha c) (hb c)
def jd(h:BH z):BH (Txt.slice z lo hi):=fun c hc=>by
 rw[je] at hc;exact h c (List.mem_of_mem_drop (jH hc))
def C7(h:j<26):BH ⟨#[97+j]⟩:=fun c hc=>by
 have:c=97+j:=by simpa using hc
 lia
def Bm{a:Str}(h:c∈a.cps.toList\/c∈b.cps.toList):c∈(a++b).cps.toList:=by
 rw[lz];simpa using h
def wd(z:Str):Prop:=1<=z.length/\z.length<=12/\BH z
def GI(n:Nat):GJ (n+1) 0=some 0:=by
 unfold GJ;simp
inductive wV(vs:List V)(H:Hp)(Q:VK):Prop
 | mk:∀b x m rest,(vs=[.ref b,.int m])->(H b=some (.lst (.int x::rest)))->(0<m/\m<=1000)->(∀x' r,0<=r->r<m->Q (.int r) (upd H b (.lst (.int x'::rest))))->wV vs H Q
def qQ:Sp:=fun vs H Q _=>wV vs H Q
def Ko(z:Str):Prop:=wd z/\z∉kept
inductive tI(vs:List V)(H:Hp)(Q:VK):Prop
 | mk:∀c m:Int,(vs=[.int c,.int m])->(0<m)->(m<=24)->(∀(p:Addr) (H':Hp) (ws:List Str),Same H H'->H p=none->H' p=some (.lst (ws.map V.str))->(ws.length:Int)<=m->1<=ws.length->(m<=3->(ws.length:Int)=m)->(∀z∈ws,Ko z)->Q (.ref p) H')->tI vs H Q
def uL:Sp:=fun vs H Q _=>tI vs H Q
def K4:((([("_law_k":Str)]:List Str)++[("_law_word":Str),("_law_taken":Str)]):List Str).Nodup:=by decide+kernel
def Ob:((([("_law_word":Str)]:List Str)++[]):List Str).Nodup:=by decide+kernel
def jw(z:Str)(k:Nat):(Txt.slice z none (some (k:Int))).length=min k z.length:=by
 have e:=congrArg List.length (je z none (some (k:Int)));have hz:z.cps.toList.length=z.length:=by simp[Str.length]
 have hs:(Txt.slice z none (some (k:Int))).cps.toList.length=(Txt.slice z none (some (k:Int))).length:=by simp[Str.length]
 rw[hs,cw,jo,hz,HT.sIx_nat] at e;have e2:HT.sIx z.length 0 none=0:=rfl;rw[e2] at e
 lia
def qS(z:Str)(k:Nat):(Txt.slice z (some (k:Int)) none).length=z.length - k:=by
 have e:=congrArg List.length (je z (some (k:Int)) none);have hz:z.cps.toList.length=z.length:=by simp[Str.length]
 have hs:(Txt.slice z (some (k:Int)) none).cps.toList.length=(Txt.slice z (some (k:Int)) none).length:=by simp[Str.length]
 rw[hs,cw,jo,hz,HT.sIx_nat] at e;have e2:HT.sIx z.length z.length none=z.length:=rfl;rw[e2] at e
 lia
noncomputable def fM(z:Str)(k:Nat)(c:Nat):Str:=Txt.slice z none (some (k:Int))++⟨#[c]⟩++Txt.slice z (some ((k:Int)+1)) none
def B_(hz:BH z)(hl:z.length<=12)(hk:k<z.length)(h1:97<=c)(h2:c<=122):wd (fM z k c):=by
 have e1:=jw z k;have e2:=qS z (k+1);rw[show(((k+1:Nat):Int))=(k:Int)+1 by lia] at e2;have e3:(fM z k c).length=(Txt.slice z none (some (k:Int))).length+1+(Txt.slice z (some ((k:Int)+1)) none).length:=by
  unfold fM;rw[bN,bN];rfl
 refine⟨by lia,by lia,uQ (uQ (jd hz) ?_) (jd hz)⟩;intro d hd;have:d=c:=by simpa using hd
 lia
def EX(ws:List Str){m:Int}(h:0<=m):mC (ws.map V.str) none (some m)=(ws.take m.toNat).map V.str:=by
 have h1:HT.sIx (ws.map V.str).length (ws.map V.str).length (some ((m.toNat:Nat):Int))=min m.toNat (ws.map V.str).length:=HT.sIx_nat _ _ _;have h2:HT.sIx (ws.map V.str).length 0 none=0:=rfl;rw[show((m.toNat:Nat):Int)=m by lia] at h1;unfold mC;rw[h1,h2,sY,LD,List.map_take];rcases LF m.toNat (ws.map V.str).length with g | g
 · rw[Nat.min_eq_left g]
 · rw[Nat.min_eq_right g,dE (ar _),dE g]
def CN{ws:List Str}(ha:a∈ws)(hb:b∈ws)(hc:c∈ws)(ab:a≠b)(ac:a≠c)(bc:b≠c):3<=ws.length:=by
 match ws with
 | []=>simp at ha
 | [x]=>
   simp only[af] at ha hb;exact absurd (ha.trans hb.symm) ab
 | [x,y]=>
   simp only[aI,ao,bW] at ha hb hc;rcases ha with rfl | rfl<;>rcases hb with rfl | rfl<;>rcases hc with rfl | rfl<;>first | exact absurd rfl ab | exact absurd rfl ac | exact absurd rfl bc
 | _::_::_::r=>simp only[bj];lia
def J1(h:(az).cps[i]? =some c):i<26/\c=97+i:=by
 have e:(az).cps.toList=List.range' 97 26:=by decide+kernel
 have h':(az).cps.toList[i]? =some c:=by simpa using h
 rw[e] at h';obtain⟨h1,h2⟩:=aU.mp h';rw[List.length_range'] at h1;rw[List.getElem_range'] at h2;exact⟨h1,by lia⟩
def zu(z:Str)(k c:Nat):c∈(fM z k c).cps.toList:=Bm (.inl (Bm (.inr (by simp))))
def mq(h:fM z k c=fM z k d):c=d:=by
 unfold fM at h;have h':=congrArg (fun s:Str=>s.cps.toList) h;simp only[lz,NU] at h';have h2:=List.append_cancel_right h';have h3:=List.append_cancel_left h2;simpa using h3
section
def scDraw:bw ["_law_bag","_law_many","_law_left"] ze (aM Di):=gH
def Gs(F:Fun K "_law_draw" "_law_draw" Di f fd):b_ P w K mg base eU 1 f fd ze qQ:=by
 refine F.o scDraw fun cdv A outer s H vs Q E hr h=> ?_;obtain⟨b,x,m,rest,rfl,hb,⟨hm,hm2⟩,q⟩:=h;refine⟨_,ba (bL (eX lP (zh aD) aw) (ba (fR 2 scDraw.nd (bF j7 (nA uH aw) (zh aD))) (ba (iP (bF j7 (nA uH aw) (bF fJ bJ bf)) (oB aD aw jg)) (ba (bL (eX lP bJ bf) (bg (iP (bF eJ (bF rn bJ aw) aw) (oB aD aw jg))) be) (bg (cK (bF eJ bJ bf)))))) be) (ba (iP (bF eJ (bF iQ (bF rn (zh aD) aw) aw) aw) (oB aD aw jg)) (bg (cK (bF eJ (bF fJ (bF eJ (bF rn (zh aD) (bF iQ (bF fJ (zh aD) aw) aw)) aw) aw) bf)))),?_⟩;refine⟨_,_,SqL.of hb,aJ (j:=0) rfl,?_⟩;by_cases hx:x<0
 · show if decide (x<0)=true then _ else _
   rw[aE (ah hx)];refine⟨_,_,SqL.of hb,aJ (j:=0) rfl,⟨hm,by lia⟩,b,_,0,0,rfl,rfl,hb,GI _,?_⟩;by_cases hl: -1 - x<m
   · show if decide (-1 - x<m)=true then _ else _
     rw[aE (ah hl)];refine⟨.inr ⟨by decide,by decide⟩,(show(0:Int)<2147483647 by decide),b,_,0,0,rfl,rfl,upd_same,GI _,hm,?_⟩;rw[uG];exact q _ _ (cu _ (by lia)) (bX _ hm)
   · show if decide (-1 - x<m)=true then _ else _
     rw[aA (by rw[aX];exact hl)];exact⟨hm,q _ _ (cu _ (by lia)) (bX _ hm)⟩
 · show if decide (x<0)=true then _ else _
   rw[aA (by rw[aX];exact hx)];refine⟨_,_,SqL.of hb,aJ (j:=0) rfl,.inr ⟨by decide,by decide⟩,(show(0:Int)<2147483647 by decide),b,_,0,0,rfl,rfl,hb,GI _,?_⟩;have h0:0<=(x * 48271+4099) % 2147483647:=cu _ (by decide);have h1:(x * 48271+4099) % 2147483647<2147483647:=bX _ (by decide);refine⟨_,_,SqL.of upd_same,aJ (j:=0) rfl,_,_,SqL.of upd_same,aJ (j:=0) rfl,⟨by decide,by decide⟩,.inl ⟨by lia,by lia⟩,(show(0:Int)<2147483629 by decide),⟨by decide,by decide⟩,hm,?_⟩;exact q _ _ (cu _ (by lia)) (bX _ hm)
def scWords:bw ["_law_cell_here","_law_many","_law_letters","_law_taken","_law_size","_law_rest","_law_word","_law_k","_law_made","_law_spot","_law_letter","_law_name"] vb (aM yM):=gH
def DM(F:Fun K "_law_words" "_law_words" yM f fd)(ml:mg "len"=none)(mr:mg "range"=none):b_ P w K mg base eU 1 f fd vb uL:=by
 refine F.o scWords fun cdv A outer s H vs Q E hr h=> ?_;obtain⟨c,m,rfl,hm0,hm3,q⟩:=h;refine⟨_,@fB _ _ _ _ _ (fR 2 scWords.nd bq) (@fB _ _ _ _ _ (@Dr _ _ 3 _ _ _ _ scWords.nd rfl (Or.inr rfl) (@bS _ _ _ _ (@Bh _ _ kept rfl)) rfl (.inl rfl)) (@fB _ _ _ _ _ (fR 4 scWords.nd (bF iQ aw (bF eJ aD aw))) (@fB _ _ _ _ _ (fR 5 scWords.nd (bF eJ (bF fJ aD aw) (bF vq aw aw))) (@fB _ _ _ _ _ (fR 6 scWords.nd bq) (@vi _ _ _ _ _ (lO (fH rfl mr (eR cG)) (eV 7 scWords.nd) (@fB _ _ _ _ _ (fR 6 scWords.nd (bF iz eW (oA vO bJ (bF eJ ee aw)))) (@fS _ _ _ (fR 5 scWords.nd (bF iQ (bF fJ ee aw) (bF rn aw jh)))))) (@fB _ _ _ _ _ (fR 8 scWords.nd (bS cf)) (@vi _ _ _ _ _ (bL (eX cT (bF eJ (bF fJ aD aw) aw) aw) (@fS _ _ _ (fR 8 scWords.nd (eI uS (fg Do ["_law_word","_law_taken"] [6,3] rfl (BS rfl mr (dO aw (bF iQ cG aw))) (fun _ _ _=>eV 0 K4) (fun _ _ _=>ny (eX (r:=KQ K true) gj (eI jY bf fT (fe aD)) bJ)) (fun _ _ _=>(eI jY bf fT (fe aD)))) fT (fe bf)))) be) (@fB _ _ _ _ _ (fR 9 scWords.nd (bF eJ (bF fJ aD aw) cG)) (@fB _ _ _ _ _ (lO (Dw bJ) (eV 10 scWords.nd) (@fB _ _ _ _ _ (fR 11 scWords.nd (bF iz (bF iz (eI jY eW fT (fe sN)) (pv 10)) (eI jY eW (fe (bF iQ sN aw)) fT))) (@fS _ _ _ (bL (PW.pt (mh (eX lP (BR ml m_) bf) (mh (eX gj (pv 11) cE) (kK (eX gj (pv 11) m_))))) (@fS _ _ _ (bC (DE m_ (pv 11)))) be)))) (@fS _ _ _ (@gB _ _ _ _ m_))))))))))),?_⟩;have m0:=cu c (show(12:Int)≠0 by decide);have m1:=bX c (show(0:Int)<12 by decide);refine⟨(by show 11<=sizeLine;exact bz (by decide)),fun lk hlk=> ?_⟩;refine⟨(show(0:Int)<12 by decide),?_⟩;obtain⟨n,hn,hn1,hn2⟩:∃n:Nat,(n:Int)=1+c % 12/\1<=n/\n<=12:=⟨(1+c % 12).toNat,by lia,by lia,by lia⟩;refine⟨⟨by decide,by decide⟩,⟨by decide,by decide,by decide⟩,(show(0:Int)<10^20 by decide),?_⟩;have s0:=aj hlk (.lst (kept.map V.str));refine⟨fun σ H'=>H'=upd H lk (.lst (kept.map V.str))/\∃(z:Str) (o5 o7:Option V),σ=[some (.int c),some (.int m),some (.str az),some (.ref lk),some (.int (1+c % 12)),o5,some (.str z),o7,none,none,none,none]/\z.length=n/\BH z,?_,?_⟩
 · refine⟨_,rfl,by lia,by lia,?_⟩;refine oS (fun i σ H'=>H'=upd H lk (.lst (kept.map V.str))/\∃(z:Str) (x:Int) (o7:Option V),σ=[some (.int c),some (.int m),some (.str az),some (.ref lk),some (.int (1+c % 12)),some (.int x),some (.str z),o7,none,none,none,none]/\z.length=i/\BH z) ⟨rfl,⟨#[]⟩,_,none,rfl,rfl,FI⟩ ?_ ?_
   · rintro i σ H' hi ⟨rfl,z,x,o7,rfl,hz,hsm⟩;have n0:=cu x (show(26:Int)≠0 by decide);have n1:=bX x (show(0:Int)<26 by decide);have za:=Ls (i:=(x % 26).toNat) (by lia);rw[show(((x % 26).toNat:Nat):Int)=x % 26 by lia] at za;have hi':i<n:=by lia
     refine⟨(show(0:Int)<26 by decide),az,_,_,rfl,rfl,bz (by rw[JZ];decide),za,z,_,rfl,rfl,?_,?_⟩
     · show z.length+1<=sizeLine;exact bz (by lia)
     · refine⟨⟨by decide,by decide⟩,.inl ⟨by decide,by decide⟩,rfl,_,_,_,rfl,?_,uQ hsm (C7 (by lia))⟩;rw[bN,hz];rfl
   · rintro σ H' ⟨rfl,z,x,o7,rfl,hz,hsm⟩;exact⟨rfl,z,_,o7,rfl,by lia,hsm⟩
 rintro σ H' ⟨rfl,z,o5,o7,rfl,hz,hsm⟩;refine⟨av _,fun ln hln=> ?_⟩;have s1:=s0.trans (aj hln (.lst []));have hlnH:H ln=none:=bP s0 hln;have nkl:lk≠ln:=bp upd_same hln;refine⟨fun σ H'=>∃(pm:Addr) (ws:List Str),σ=[some (.int c),some (.int m),some (.str az),some (.ref lk),some (.int (1+c % 12)),o5,some (.str z),o7,some (.ref pm),none,none,none]/\Same H H'/\H pm=none/\pm≠lk/\H' lk=some (.lst (kept.map V.str))/\H' pm=some (.lst (ws.map V.str))/\(ws.length:Int)<=m/\∀y∈ws,Ko y,?_,?_⟩
 · refine⟨⟨by decide,by decide⟩,(show(0:Int)<2 by decide),?_⟩;have ek:(upd (upd H lk (.lst (kept.map V.str))) ln (.lst [])) lk=some (.lst (kept.map V.str)):=by rw[aB nkl];exact upd_same
   refine fY (fun _=> ?_) (fun _=> ?_)
   · refine⟨1,1+c % 12+1,rfl,⟨by lia,by lia,by lia,by lia⟩,fun D hD=> ?_⟩;have sD:=aj hD (.lst []);have nD:lk≠D:=bp ek hD;refine fD (1+c % 12+1 - 1).toNat (fun i σ H'=>(∃o,σ=[o,some (.str z),some (.ref lk)])/\Same H H'/\H' lk=some (.lst (kept.map V.str))/\∃ws:List Str,H' D=some (.lst (ws.map V.str))/\ws.length<=i/\∀y∈ws,Ko y) ⟨⟨_,rfl⟩,s1.trans sD,by rw[aB nD];exact ek,[],upd_same,av _,fun y hy=>(nomatch hy)⟩ ?_ ?_
     · rintro σ H' ⟨_,sm,ek',ws,eD,hl,hw⟩;refine⟨ar _,m,rfl,D,_,rfl,SqL.of eD,fun p hp=> ?_⟩;rw[EX ws (by lia)];have sp:=aj hp (.lst ((ws.take m.toNat).map V.str));refine⟨p,ws.take m.toNat,rfl,sm.trans sp,bP sm hp,?_,sp _ _ ek',upd_same,?_,fun y hy=>hw y (jH hy)⟩
       · intro e;rw[e,ek'] at hp;cases hp
       · rw[cw];lia
     · rintro i σ H' hi ⟨⟨o,rfl⟩,sm,ek',ws,eD,hl,hw⟩;refine⟨hi,?_⟩;rintro y H2 ⟨rfl,rfl⟩;have hik:i+1<=n:=by lia
       have ls:=jw z (i+1);rw[show(((i+1:Nat):Int))=1+(i:Int) by lia] at ls;have hDn:D≠lk:=br nD;refine⟨1+(i:Int),rfl,z,rfl,bz (by lia),lk,_,rfl,.inl (SqL.of ek'),rfl,uq,?_⟩;refine fY (fun c0=> ?_) (fun _=> ?_)
       · have c0':(!wj (.str (Txt.slice z none (some (1+(i:Int))))) (kept.map V.str))=true:=c0;refine⟨1+(i:Int),rfl,z,rfl,bz (by lia),_,eD,bH (by rw[ae];lia),⟨_,rfl⟩,?_,by rw[aB nD];exact ek',ws++[Txt.slice z none (some (1+(i:Int)))],?_,by rw[ak];show _+1<=_;lia,fun y hy=> ?_⟩
         · exact bR sm (bP s1 hD)
         · rw[upd_same,aZ];rfl
         · rcases ay.mp hy with hy | hy
           · exact hw y hy
           · have:y=_:=af.mp hy;subst this;exact⟨⟨by lia,by lia,jd hsm⟩,fun hk=>by rw[qv,ah hk] at c0';cases c0'⟩
       · exact⟨⟨_,rfl⟩,sm,ek',ws,eD,by lia,hw⟩
   · exact⟨ln,[],rfl,s1,hlnH,br nkl,ek,upd_same,by simp;lia,fun y hy=>(nomatch hy)⟩
 rintro σ H' ⟨pm,ws,rfl,sm,hpm,npk,ek,epm,hlm,hw⟩;have k0:=cu (c/7) (show(1+c % 12:Int)≠0 by lia);have k1:=bX (c/7) (show(0:Int)<1+c % 12 by lia);obtain⟨k,hk,hkn⟩:∃k:Nat,(k:Int)=c/7 % (1+c % 12)/\k<n:=⟨(c/7 % (1+c % 12)).toNat,by lia,by lia⟩;refine⟨⟨by decide,by decide⟩,(show(0:Int)<1+c % 12 by lia),?_⟩;refine⟨az,rfl,GQ (fun i σ H'=>∃(ws:List Str) (o10 o11:Option V),σ=[some (.int c),some (.int m),some (.str az),some (.ref lk),some (.int (1+c % 12)),o5,some (.str z),o7,some (.ref pm),some (.int (c/7 % (1+c % 12))),o10,o11]/\Same H H'/\H' lk=some (.lst (kept.map V.str))/\H' pm=some (.lst (ws.map V.str))/\(ws.length:Int)<=m/\(∀y∈ws,Ko y)/\((ws.length:Int)=m\/∀j,j<i->EI j=true->fM z k (97+j)∈ws))
  ⟨ws,none,none,rfl,sm,ek,epm,hlm,hw,.inr fun j hj=>absurd hj (Nat.not_lt_zero _)⟩ ?_ ?_⟩
 · rintro i cc σ H2 hc ⟨ws,o10,o11,rfl,sm2,ek2,ep2,hl2,hw2,hg2⟩;obtain⟨hi,rfl⟩:=J1 hc;have e1:=jw z k;have e2:=qS z (k+1);rw[hk] at e1;rw[show(((k+1:Nat):Int))=c/7 % (1+c % 12)+1 by lia] at e2;have nm:(Txt.slice z none (some (c/7 % (1+c % 12)))++⟨#[97+i]⟩++Txt.slice z (some (c/7 % (1+c % 12)+1)) none:Str)=fM z k (97+i):=by
    unfold fM;rw[hk]
   have wn0:=B_ (c:=97+i) hsm (by lia) (show k<z.length by lia) (by lia) (by lia);refine⟨_,rfl,z,rfl,bz (by lia),_,_,rfl,rfl,bz (by show _+1<=1000;lia),_,rfl,z,rfl,bz (by lia),_,_,rfl,rfl,bz (by rw[bN];show _+1+_<=1000;lia),?_⟩;rw[nm];refine⟨pm,_,rfl,.inl (SqL.of ep2),?_⟩;rw[ae];refine fY (fun c1=> ?_) (fun c1=> ?_)
   · have c1':=bA c1;refine⟨lk,_,rfl,.inl (SqL.of ek2),rfl,uq,?_⟩;show if(!wj (.str (fM z k (97+i))) (kept.map V.str))=true then _ else _
     cases c2:wj (.str (fM z k (97+i))) (kept.map V.str) with
     | true=>
       refine(⟨ws,_,_,rfl,sm2,ek2,ep2,hl2,hw2,?_⟩);rcases hg2 with h | h
       · exact .inl h
       · refine .inr fun j hj hgj=> ?_;rcases eB j i with hji | hji
         · exact h j hji hgj
         · have:j=i:=by lia
           subst this;have:=EH (zu z k (97+j)) (by rw[Nat.add_sub_cancel_left];exact hgj);rw[this] at c2;cases c2
     | false=>
       have wn:Ko (fM z k (97+i)):=⟨wn0,fun hk=>by rw[qv,ah hk] at c2;cases c2⟩;refine⟨pm,_,rfl,.inl (SqL.of ep2),rfl,uo ws,?_⟩;show if(!wj (.str (fM z k (97+i))) (ws.map V.str))=true then _ else _
       rw[qv];by_cases c3:fM z k (97+i)∈ws
       · rw[ah c3];refine⟨ws,_,_,rfl,sm2,ek2,ep2,hl2,hw2,?_⟩;rcases hg2 with h | h
         · exact .inl h
         · refine .inr fun j hj hgj=> ?_;rcases eB j i with hji | hji
           · exact h j hji hgj
           · have:j=i:=by lia
             subst this;exact c3
       · rw[ag c3];refine⟨.inl ⟨rfl,_,SqL.of ep2⟩,_,ep2,bH (by rw[ae];lia),ws++[fM z k (97+i)],_,_,rfl,bR sm2 hpm,by rw[aB (br npk)];exact ek2,?_,by rw[ak];show((ws.length+1:Nat):Int)<=m;lia,fun y hy=> ?_,?_⟩
         · rw[upd_same,aZ];rfl
         · rcases ay.mp hy with hy | hy
           · exact hw2 y hy
           · have:y=_:=af.mp hy;subst this;exact wn
         · rcases hg2 with h | h
           · lia
           · refine .inr fun j hj hgj=> ?_;rcases eB j i with hji | hji
             · exact aS _ (h j hji hgj)
             · have:j=i:=by lia
               subst this;exact aR _ (by simp)
   · have c1':¬ (ws.length:Int)<m:=fun y=>c1 (ah y);exact⟨ws,_,_,rfl,sm2,ek2,ep2,hl2,hw2,.inl (by lia)⟩
 · rintro σ H2 ⟨ws,o10,o11,rfl,sm2,ek2,ep2,hl2,hw2,hg2⟩;have h3:(ws.length:Int)=m\/3<=ws.length:=by
    rcases hg2 with h | h
    · exact .inl h
    · have sz:(az).cps.size=26:=by decide+kernel
      rw[sz] at h;exact .inr (CN (h 2 (by decide) (by decide)) (h 3 (by decide) (by decide)) (h 5 (by decide) (by decide)) (fun y=>by have:=mq y;lia) (fun y=>by have:=mq y;lia) (fun y=>by have:=mq y;lia))
   exact(q pm H2 ws sm2 hpm ep2 hl2 (by lia) (by lia) hw2)
end
noncomputable abbrev AZ:Str:="ABCDEFGHIJKLMNOPQRSTUVWXYZ"
def LQ{i:Nat}(h:i<26):zU (AZ).cps.toList (i:Int)=some (65+i):=by
 have e:(AZ).cps.toList=List.range' 65 26:=by decide+kernel
 rw[e];exact aJ (by rw[Nq h];simp)
def Fp(i:Int):∃c,zU (AZ).cps.toList (i % 26)=some c/\65<=c/\c<=90:=by
 have n0:=cu i (show(26:Int)≠0 by decide);have n1:=bX i (show(0:Int)<26 by decide);have:=LQ (i:=(i % 26).toNat) (by lia);rw[show(((i % 26).toNat:Nat):Int)=i % 26 by lia] at this;exact⟨_,this,by lia,by lia⟩
def Fs:(AZ).length=26:=by decide+kernel
def thg(z:Str):Prop:=z.length<=12/\∃c r,z.cps.toList=c::r/\65<=c/\c<=90/\∀d∈r,97<=d/\d<=122
def CO(h1:65<=c)(h2:c<=90)(hl:e.length<=11)(hs:BH e):thg ((⟨#[c]⟩:Str)++e):=by
 refine⟨?_,c,e.cps.toList,?_,h1,h2,fun d hd=>hs d hd⟩
 · rw[bN];show 1+_<=12;lia
 · rw[lz];simp
inductive qJ(vs:List V)(H:Hp)(Q:VK):Prop
 | mk:∀c m:Int,(vs=[.int c,.int m])->(0<m)->(m<=3)->(∀(p:Addr) (H':Hp) (ws:List Str),Same H H'->H p=none->H' p=some (.lst (ws.map V.str))->(ws.length:Int)=m->(∀z∈ws,thg z)->Q (.ref p) H')->qJ vs H Q
def wG:Sp:=fun vs H Q _=>qJ vs H Q
def K6:((([("_law_end":Str)]:List Str)++[("_law_great":Str),("_law_cell_here":Str)]):List Str).Nodup:=by decide+kernel
def Jn:((([("_law_k":Str)]:List Str)++[("_law_great":Str),("_law_ends":Str),("_law_cell_here":Str)]):List Str).Nodup:=by decide+kernel
section
def scThings:bw ["_law_cell_here","_law_many","_law_great","_law_ends"] vb (aM uU):=gH
def BW(F:Fun K "_law_things" "_law_things" uU f fd)(mr:mg "range"=none)(Gw:Cl P w K mg base 1 "_law_words" vb uL):b_ P w K mg base eU 2 f fd vb wG:=by
 refine F.o scThings fun cdv A outer s H vs Q E hr h=> ?_;obtain⟨c,m,rfl,hm0,hm3,q⟩:=h;refine⟨_,ba (fR 2 scThings.nd bq) (ba (fR 3 scThings.nd (fg ["_law_word"] [] [] rfl (bT (dG Gw hr (dO aD bf))) (fun _ _ _=>eV 0 Ob) (fun _ _ _=>fb) (fun _ _ _=>(eI jY aD fT (fe aw))))) (ba (bL (eX cT (bF eJ (bF fJ aD aw) aw) aw) (bg (cK (fg ["_law_end"] ["_law_great","_law_cell_here"] [2,0] rfl (bT cE) (fun _ _ _=>eV 0 K6) (fun _ _ _=>fb) (fun _ _ _=>(bF iz (oA vO bf (bF eJ (bF fJ bJ aw) aw)) aD))))) be) (bg (cK (fg Do ["_law_great","_law_ends","_law_cell_here"] [2,3,0] rfl (fH rfl mr (eR bf)) (fun _ _ _=>eV 0 Jn) (fun _ _ _=>fb) (fun _ _ _=>(bF iz (oA vO bf (bF eJ (bF iQ (bF fJ cE aw) (bF rn aw aD)) aw)) (eI jY (oA (r:=FZ K) di bJ aw) (fe aw) fT)))))))),?_⟩;refine⟨c,m,rfl,hm0,Int.le_trans hm3 (by decide),fun p H1 ws s1 hp e1 _ _ l1' w1=>⟨⟨_,SqL.of e1⟩,fun D hD=> ?_⟩⟩;have l1:=l1' hm3;have sD:=aj hD (.lst []);have npD:p≠D:=bp e1 hD;refine fD (ws.map V.str).length (fun i σ H'=>(∃o,σ=[o])/\Same H H'/\H' p=some (.lst (ws.map V.str))/\∃es:List Str,H' D=some (.lst (es.map V.str))/\es.length=i/\∀y∈es,y.length<=11/\BH y) ⟨⟨_,rfl⟩,s1.trans sD,by rw[aB npD];exact e1,[],upd_same,rfl,fun y hy=>(nomatch hy)⟩ ?_ ?_
 · rintro σ H2 ⟨_,s2,e2,es,eD,le,we⟩;rw[ae] at le;refine⟨⟨_,SqL.of e2,ar _⟩,?_⟩;refine⟨⟨by decide,by decide⟩,(show(0:Int)<2 by decide),?_⟩;refine fY (fun _=> ?_) (fun _=> ?_)
   · refine⟨⟨_,SqL.of eD⟩,fun D2 hD2=> ?_⟩;have sD2:=aj hD2 (.lst []);have nD2:D≠D2:=bp eD hD2;refine fD (es.map V.str).length (fun i σ H'=>(∃o,σ=[o,some (.str AZ),some (.int c)])/\Same H H'/\H' D=some (.lst (es.map V.str))/\∃ts:List Str,H' D2=some (.lst (ts.map V.str))/\ts.length=i/\∀y∈ts,thg y) ⟨⟨_,rfl⟩,s2.trans sD2,by rw[aB nD2];exact eD,[],upd_same,rfl,fun y hy=>(nomatch hy)⟩ ?_ ?_
     · rintro σ H3 ⟨_,s3,e3,ts,eT,lt,wt⟩;rw[ae] at lt;exact⟨⟨_,SqL.of e3,ar _⟩,q D2 H3 ts s3 (bP s2 hD2) eT (by lia) wt⟩
     · rintro i σ H3 hi ⟨⟨o,rfl⟩,s3,e3,ts,eT,lt,wt⟩;have hi':i<es.length:=by simpa using hi
       refine⟨⟨_,.str es[i],SqL.of e3,by simp[hi']⟩,?_⟩;rintro y H4 ⟨rfl,hy⟩;have hyi:=hy _ (SqL.of e3);rw[aH,aq hi'] at hyi;cases hyi;obtain⟨cc,ec,c1,c2⟩:=Fp (c/4);obtain⟨b1,b2⟩:=we _ (eK hi');refine⟨⟨by decide,by decide⟩,(show(0:Int)<26 by decide),AZ,_,cc,rfl,rfl,bz (by rw[Fs];decide),ec,_,_,rfl,rfl,bz (by show 1+_<=1000;lia),_,eT,bH (by rw[ae];lia),⟨_,rfl⟩,bR s3 (bP s2 hD2),by rw[aB nD2];exact e3,ts++[(⟨#[cc]⟩:Str)++es[i]],?_,by rw[ak,lt];rfl,fun y hy=> ?_⟩
       · rw[upd_same,aZ];rfl
       · rcases ay.mp hy with hy | hy
         · exact wt y hy
         · have:y=_:=af.mp hy;subst this;exact CO c1 c2 b1 b2
   · refine⟨m,rfl,by lia,by lia,fun D2 hD2=> ?_⟩;have sD2:=aj hD2 (.lst []);have nD2:D≠D2:=bp eD hD2;have h0:0<es.length:=by lia
     refine fD m.toNat (fun i σ H'=>(∃o,σ=[o,some (.str AZ),some (.ref D),some (.int c)])/\Same H H'/\H' D=some (.lst (es.map V.str))/\∃ts:List Str,H' D2=some (.lst (ts.map V.str))/\ts.length=i/\∀y∈ts,thg y) ⟨⟨_,rfl⟩,s2.trans sD2,by rw[aB nD2];exact eD,[],upd_same,rfl,fun y hy=>(nomatch hy)⟩ ?_ ?_
     · rintro σ H3 ⟨_,s3,e3,ts,eT,lt,wt⟩;exact⟨ar _,q D2 H3 ts s3 (bP s2 hD2) eT (by lia) wt⟩
     · rintro i σ H3 hi ⟨⟨o,rfl⟩,s3,e3,ts,eT,lt,wt⟩;refine⟨hi,?_⟩;rintro y H4 ⟨rfl,rfl⟩;obtain⟨cc,ec,c1,c2⟩:=Fp (c/4+7 * (0+(i:Int)));obtain⟨b1,b2⟩:=we _ (eK h0);have l1:=Lw es[0] (some 1) none;have at0:zU (es.map V.str) 0=some (.str es[0]):=aJ (j:=0) (by rw[aH,aq h0];rfl);refine⟨⟨by decide,by decide⟩,.inl ⟨by decide,by decide⟩,(show(0:Int)<26 by decide),AZ,_,cc,rfl,rfl,bz (by rw[Fs];decide),ec,_,_,SqL.of e3,at0,1,rfl,es[0],rfl,bz (by lia),_,_,rfl,rfl,bz (by show 1+_<=1000;lia),_,eT,bH (by rw[ae];lia),⟨_,rfl⟩,bR s3 (bP s2 hD2),by rw[aB nD2];exact e3,ts++[(⟨#[cc]⟩:Str)++Txt.slice es[0] (some 1) none],?_,by rw[ak,lt];rfl,fun y hy=> ?_⟩
       · rw[upd_same,aZ];rfl
       · rcases ay.mp hy with hy | hy
         · exact wt y hy
         · have:y=_:=af.mp hy;subst this;exact CO c1 c2 (by lia) (jd b2)
 · rintro i σ H2 hi ⟨⟨o,rfl⟩,s2,e2,es,eD,le,we⟩;have hi':i<ws.length:=by simpa using hi
   refine⟨⟨_,.str ws[i],SqL.of e2,by simp[hi']⟩,?_⟩;rintro y H4 ⟨rfl,hy⟩;have hyi:=hy _ (SqL.of e2);rw[aH,aq hi'] at hyi;cases hyi;obtain⟨b1,b2,b3⟩:=(w1 _ (eK hi')).1;have ls:=jw ws[i] 11;refine⟨11,rfl,ws[i],rfl,bz (by lia),_,eD,bH (by rw[ae];lia),⟨_,rfl⟩,bR s2 (bP s1 hD),by rw[aB npD];exact e2,es++[Txt.slice ws[i] none (some 11)],?_,by rw[ak,le];rfl,fun y hy=> ?_⟩
   · rw[upd_same,aZ];rfl
   · rcases ay.mp hy with hy | hy
     · exact we y hy
     · have:y=_:=af.mp hy;subst this;have ls':(Txt.slice ws[i] none (some 11)).length=min 11 ws[i].length:=ls;exact⟨by lia,jd b3⟩
end
def si(ws ts:List Str):Kd->Prop
 | .nm t=>t∈ws\/t="anything"\/t="nothing"
 | .two a b=>si ws ts a/\si ws ts b
 | .som r c=>r∈ts/\si ws ts c
inductive wO(n:Nat)(vs:List V)(H:Hp)(Q:VK):Prop
 | mk:∀(b lk lt:Addr) (x y u:Int) (ws ts:List Str) (d:Nat),(vs=[.ref b,.ref lk,.ref lt,.int (d:Int)])->(H b=some (.lst [.int x,.int y]))->(H lk=some (.lst (ws.map V.str)))->(H lt=some (.lst (ts.map V.str)))->(lk≠b)->(lt≠b)->(0<ws.length)->(ws.length<=100)->(0<ts.length)->(ts.length<=100)->(d<n)->(∀(v:V) (H':Hp) (k:Kd) (x' y':Int),Kp [b] H H'->H' b=some (.lst [.int x',.int y'])->IsK H' k v->k.nt+1<=2^d->k.dep<=d->si ws ts k->Q v H')->wO n vs H Q
def lZ(n:Nat):Sp:=fun vs H Q _=>wO n vs H Q
section
def jt{ws:List Str}(h0:0<=r)(h1:r<(ws.length:Int)):∃z∈ws,zU (ws.map V.str) r=some (.str z):=by
 have hj:r.toNat<ws.length:=by lia
 refine⟨ws[r.toNat],eK hj,?_⟩;have z:zU (ws.map V.str) ((r.toNat:Nat):Int)=some (.str ws[r.toNat]):=aJ (by rw[aH,aq hj];rfl)
 rwa [show((r.toNat:Nat):Int)=r by lia] at z
def scKind:bw ["_law_bag","_law_kin","_law_ties","_law_deep","_law_way","_law_one"] vd (aM AJ):=gH
def Gn(hk0:1<=k0)(F:Fun K "_law_kind" "_law_kind" AJ f fd)(Gk:Cl P w K mg base k0 "_law_kind" vd (lZ n))(ml:mg "len"=none)(Gdr:Cl P w K mg base 1 "_law_draw" ze qQ):b_ P w K mg base eU (k0+1) f fd vd (lZ (n+1)):=by
 refine F.o scKind fun cdv A outer s H vs Q E hr h=> ?_;obtain⟨b,lk,lt,x,y,u,ws,ts,d,rfl,hb,hlk,hlt,nk,nt,w0,w1,t0,t1,hd,q⟩:=h;have kGk:=F.kp;refine⟨_,ba (fR 4 scKind.nd (dG Gdr hr (dO aD aw)))
  (ba (bL (PW.pt (nv (eX cT cE aw) (nv (eX cT (zh aD) aw) (oz (eX DJ cG aw))))) (ba (bL (eX cT cG aw) (bg (cK (oA di (bS (dO bq bq)) (bF fJ (dG Gdr hr (dO aD aw)) aw)))) be) (bg (cK (oA di bf (dG Gdr hr (dO aD (BR ml bf))))))) be)
  (ba (iP (bF j7 (zh aD) aw) (oB aD aw jg))
  (ba (bL (eX lP cG aw) (bg (cK (cX (iS bq (oA di bJ (dG Gdr hr (dO aD (BR ml bJ)))) (dG Gk hr (jz aD bf bJ (bF j7 cE aw))))))) be)
  (ba (fR 5 scKind.nd (dG Gk hr (jz aD bf bJ (bF j7 cE aw))))
  (bg (cK (cX (iS bq ee (dG Gk hr (jz aD bf bJ (bF j7 cE aw))))))))))),?_⟩
 have bm:b∈[b]:=af.mpr rfl;have nk':lk∉[b]:=fun z=>nk (af.mp z);have nt':lt∉[b]:=fun z=>nt (af.mp z);refine⟨b,x,9,_,rfl,hb,by decide,fun x1 way y0 y1=> ?_⟩;have k1:Kp [b] H (upd H b (.lst [.int x1,.int y])):=Kp.lst bm hb;have b1:upd H b (.lst [.int x1,.int y]) b=some (.lst [.int x1,.int y]):=upd_same;generalize upd H b (.lst [.int x1,.int y])=H1 at k1 b1⊢;have lk1:=k1.but _ _ nk' hlk;have lt1:=k1.but _ _ nt' hlt;have leaf:∀(H2:Hp) (v:V) (t:Str) (x2:Int),Kp [b] H1 H2->H2 b=some (.lst [.int x2,.int y])->v= .str t->(t∈ws\/t="anything"\/t="nothing")->Q v H2:=fun H2 v t x2 k2 b2 e ht=>
  q v H2 (.nm t) x2 y (k1.trans k2) b2 e (Nat.one_le_two_pow) (av _) ht
 by_cases hd0:d=0
 · subst hd0;refine(fY (fun _=> ?_) (fun _=> ?_))
   · refine⟨bz (by show 2<=1000;decide),fun l hl=> ?_⟩;have sl:=aj hl (.lst [.str "anything",.str "nothing"]);have nlb:l≠b:=fun z=>by rw[z,b1] at hl;cases hl
     refine⟨b,x1,5,_,rfl,sl _ _ b1,by decide,fun x2 r2 r0 r1=> ?_⟩;have k2:Kp [b] H1 (upd (upd H1 l (.lst [.str "anything",.str "nothing"])) b (.lst [.int x2,.int y])):=(Kp.of sl).trans (Kp.lst bm (sl _ _ b1));have el:upd (upd H1 l (.lst [.str "anything",.str "nothing"])) b (.lst [.int x2,.int y]) l=some (.lst [.str "anything",.str "nothing"]):=by rw[aB nlb];exact upd_same
     have e01:r2/4=0\/r2/4=1:=by lia
     rcases e01 with e01 | e01
     · refine⟨⟨by decide,by decide⟩,_,.str "anything",SqL.of el,?_,leaf _ _ "anything" x2 k2 upd_same rfl (.inr (.inl rfl))⟩;rw[e01];exact aJ (j:=0) rfl
     · refine⟨⟨by decide,by decide⟩,_,.str "nothing",SqL.of el,?_,leaf _ _ "nothing" x2 k2 upd_same rfl (.inr (.inr rfl))⟩;rw[e01];exact aJ (j:=1) rfl
   · refine⟨lk,_,rfl,.inl (SqL.of lk1),b,x1,_,_,rfl,b1,?_,fun x2 r2 r0 r1=> ?_⟩
     · rw[ae];lia
     rw[ae] at r1;obtain⟨z,hz,ez⟩:=jt r0 r1;have k2:Kp [b] H1 (upd H1 b (.lst [.int x2,.int y])):=Kp.lst bm b1;exact⟨_,_,SqL.of (k2.but _ _ nk' lk1),ez,leaf _ _ z x2 k2 upd_same rfl (.inl hz)⟩
 show if decide (V.int (d:Int)=V.int 0)=true then _ else _
 rw[ag (show ¬ V.int (d:Int)=V.int 0 from fun z=>hd0 (by injection z with z;lia))];refine⟨_,_,SqL.of b1,aJ (j:=1) rfl,fY (fun _=> ?_) (fun _=> ?_)⟩
 · show if decide (V.int way=V.int 8)=true then _ else _
   refine fY (fun _=> ?_) (fun _=> ?_)
   · refine⟨bz (by show 2<=1000;decide),fun l hl=> ?_⟩;have sl:=aj hl (.lst [.str "anything",.str "nothing"]);have nlb:l≠b:=fun z=>by rw[z,b1] at hl;cases hl
     refine⟨b,x1,5,_,rfl,sl _ _ b1,by decide,fun x2 r2 r0 r1=> ?_⟩;have k2:Kp [b] H1 (upd (upd H1 l (.lst [.str "anything",.str "nothing"])) b (.lst [.int x2,.int y])):=(Kp.of sl).trans (Kp.lst bm (sl _ _ b1));have el:upd (upd H1 l (.lst [.str "anything",.str "nothing"])) b (.lst [.int x2,.int y]) l=some (.lst [.str "anything",.str "nothing"]):=by rw[aB nlb];exact upd_same
     have e01:r2/4=0\/r2/4=1:=by lia
     rcases e01 with e01 | e01
     · refine⟨⟨by decide,by decide⟩,_,.str "anything",SqL.of el,?_,leaf _ _ "anything" x2 k2 upd_same rfl (.inr (.inl rfl))⟩;rw[e01];exact aJ (j:=0) rfl
     · refine⟨⟨by decide,by decide⟩,_,.str "nothing",SqL.of el,?_,leaf _ _ "nothing" x2 k2 upd_same rfl (.inr (.inr rfl))⟩;rw[e01];exact aJ (j:=1) rfl
   · refine⟨lk,_,rfl,.inl (SqL.of lk1),b,x1,_,_,rfl,b1,?_,fun x2 r2 r0 r1=> ?_⟩
     · rw[ae];lia
     rw[ae] at r1;obtain⟨z,hz,ez⟩:=jt r0 r1;have k2:Kp [b] H1 (upd H1 b (.lst [.int x2,.int y])):=Kp.lst bm b1;exact⟨_,_,SqL.of (k2.but _ _ nk' lk1),ez,leaf _ _ z x2 k2 upd_same rfl (.inl hz)⟩
 refine(fY (fun _=> ?_) (fun _=> ?_))
 · refine(fY (fun _=> ?_) (fun _=> ?_))
   · refine⟨bz (by show 2<=1000;decide),fun l hl=> ?_⟩;have sl:=aj hl (.lst [.str "anything",.str "nothing"]);have nlb:l≠b:=fun z=>by rw[z,b1] at hl;cases hl
     refine⟨b,x1,5,_,rfl,sl _ _ b1,by decide,fun x2 r2 r0 r1=> ?_⟩;have k2:Kp [b] H1 (upd (upd H1 l (.lst [.str "anything",.str "nothing"])) b (.lst [.int x2,.int y])):=(Kp.of sl).trans (Kp.lst bm (sl _ _ b1));have el:upd (upd H1 l (.lst [.str "anything",.str "nothing"])) b (.lst [.int x2,.int y]) l=some (.lst [.str "anything",.str "nothing"]):=by rw[aB nlb];exact upd_same
     have e01:r2/4=0\/r2/4=1:=by lia
     rcases e01 with e01 | e01
     · refine⟨⟨by decide,by decide⟩,_,.str "anything",SqL.of el,?_,leaf _ _ "anything" x2 k2 upd_same rfl (.inr (.inl rfl))⟩;rw[e01];exact aJ (j:=0) rfl
     · refine⟨⟨by decide,by decide⟩,_,.str "nothing",SqL.of el,?_,leaf _ _ "nothing" x2 k2 upd_same rfl (.inr (.inr rfl))⟩;rw[e01];exact aJ (j:=1) rfl
   · refine⟨lk,_,rfl,.inl (SqL.of lk1),b,x1,_,_,rfl,b1,?_,fun x2 r2 r0 r1=> ?_⟩
     · rw[ae];lia
     rw[ae] at r1;obtain⟨z,hz,ez⟩:=jt r0 r1;have k2:Kp [b] H1 (upd H1 b (.lst [.int x2,.int y])):=Kp.lst bm b1;exact⟨_,_,SqL.of (k2.but _ _ nk' lk1),ez,leaf _ _ z x2 k2 upd_same rfl (.inl hz)⟩
 obtain⟨e,rfl⟩:∃e,d=e+1:=⟨d - 1,by lia⟩;refine⟨_,_,SqL.of b1,aJ (j:=1) rfl,b,_,1,1,rfl,rfl,b1,rfl,?_⟩;have k2:Kp [b] H1 (upd H1 b (.lst [.int x1,.int (y - 1)])):=Kp.lst bm b1;have b2:upd H1 b (.lst [.int x1,.int (y - 1)]) b=some (.lst [.int x1,.int (y - 1)]):=upd_same;have lk2:=k2.but _ _ nk' lk1;have lt2:=k2.but _ _ nt' lt1;have ed:((e+1:Nat):Int) - 1=(e:Int):=by lia
 have p2:2^(e+1)=2 * 2^e:=by rw[kG];lia
 refine(fY (fun _=> ?_) (fun _=> ?_))
 · refine⟨lt,_,rfl,.inl (SqL.of lt2),b,x1,_,_,rfl,b2,?_,fun x3 r3 r0 r1=> ?_⟩
   · rw[ae];lia
   rw[ae] at r1;obtain⟨z,hz,ez⟩:=jt r0 r1;have k3:Kp [b] (upd H1 b (.lst [.int x1,.int (y - 1)])) (upd (upd H1 b (.lst [.int x1,.int (y - 1)])) b (.lst [.int x3,.int (y - 1)])):=Kp.lst bm b2;refine⟨_,_,SqL.of (k3.but _ _ nt' lt2),ez,?_⟩;refine⟨b,lk,lt,x3,y - 1,u,ws,ts,e,by rw[<-ed];rfl,upd_same,k3.but _ _ nk' lk2,k3.but _ _ nt' lt2,nk,nt,w0,w1,t0,t1,by lia,fun v4 H4 kd x4 y4 k4 b4 i4 n4 dp4 nm4=> ?_⟩;refine⟨bz (by show 3<=1000;decide),fun t ht=> ?_⟩;have s5:=aj ht (.tup [.str "some",.str z,v4]);refine q (.ref t) _ (.som z kd) x4 y4 ((k1.trans k2).trans ((k3.trans k4).trans (.of s5))) (s5 _ _ b4) ⟨t,v4,rfl,upd_same,i4.mono s5.tups⟩ ?_ (by show 1+kd.dep<=_;lia) ⟨hz,nm4⟩;show 1+kd.nt+1<=_
   lia
 · refine⟨b,lk,lt,x1,y - 1,u,ws,ts,e,by rw[<-ed];rfl,b2,lk2,lt2,nk,nt,w0,w1,t0,t1,by lia,fun v4 H4 kd x4 y4 k4 b4 i4 n4 dp4 nm4=> ?_⟩;refine⟨b,lk,lt,x4,y4,u,ws,ts,e,by rw[<-ed];rfl,b4,k4.but _ _ nk' lk2,k4.but _ _ nt' lt2,nk,nt,w0,w1,t0,t1,by lia,fun v5 H5 kd2 x5 y5 k5 b5 i5 n5 dp5 nm5=> ?_⟩;refine⟨bz (by show 3<=1000;decide),fun t ht=> ?_⟩;have s6:=aj ht (.tup [.str "both",v4,v5]);refine q (.ref t) _ (.two kd kd2) x5 y5 ((k1.trans k2).trans ((k4.trans k5).trans (.of s6))) (s6 _ _ b5) ⟨t,v4,v5,rfl,upd_same,(i4.mono k5.tups).mono s6.tups,i5.mono s6.tups⟩ ?_ (by show 1+max kd.dep kd2.dep<=_;lia) ⟨nm4,nm5⟩;show 1+kd.nt+kd2.nt+1<=_
   lia
def Cd:b_ P w K mg base eU 1 f fd vd (lZ 0):=by
 have no:∀vs H Q E,¬ lZ 0 vs H Q E:=fun vs H Q E h=>by
  obtain⟨b,lk,lt,x,y,u,ws,ts,d,_,_,_,_,_,_,_,_,_,_,h,_⟩:=h
  lia
 exact⟨fun vs H Q E h=>absurd h (no vs H Q E),fun A outer s H args us vs Q E _ _ _ _ h=>absurd h (no vs H Q E)⟩
theorem xU(A:Fq K mg "_law_kind" AJ vd)(ml:mg "len"=none)(Gdr:Cl P w K mg base 1 "_law_draw" ze qQ):∀n:Nat,Cl P w K mg base (n+1) "_law_kind" vd (lZ n)
 | 0=>A.cl fun _=>Cd
 | n+1=>A.cl fun F=>Gn (by lia) F (xU A ml Gdr n) ml Gdr
end
def dk(k:Kd):Prop:=k.dep<=2/\k.sz<=7/\lg k/\ju k=cF k
def vA{s:Sy}(h:∀k∈s.parts,k.dep<=2/\k.sz<=7):s.okS:=⟨fun k hk=>ai (h k hk).2 (by decide),fun k hk=>ai (h k hk).1 (by decide)⟩
def B6(ha:dk a)(hb:dk b):(Sy.every a b).okS:=vA fun k hk=>by
 simp only[Sy.parts,aI,ao,bW] at hk;rcases hk with rfl | rfl
 · exact⟨ha.1,ha.2.1⟩
 · exact⟨hb.1,hb.2.1⟩
def Jj(ha:dk a)(hb:dk b):(Sy.no a b).okS:=vA fun k hk=>by
 simp only[Sy.parts,aI,ao,bW] at hk;rcases hk with rfl | rfl
 · exact⟨ha.1,ha.2.1⟩
 · exact⟨hb.1,hb.2.1⟩
def HI(x:Str):(Kd.nm x).dep<=2/\(Kd.nm x).sz<=7:=⟨av _,by show 1<=7;decide⟩
def B4(hb:dk b):(Sy.thing x b).okS:=vA fun k hk=>by
 simp only[Sy.parts,aI,ao,bW] at hk;rcases hk with rfl | rfl
 · exact HI _
 · exact⟨hb.1,hb.2.1⟩
def vB{s:Sy}(h:∀k∈s.parts,∃x,k= .nm x):s.okS:=vA fun k hk=>by
 obtain⟨x,rfl⟩:=h k hk;exact HI x
def D7(x t y:Str):(Sy.tied x t y).okS:=vB fun k hk=>by
 simp only[Sy.parts,aI,ao,bW] at hk;rcases hk with rfl | rfl | rfl<;>exact⟨_,rfl⟩
def zt(x t:Str):(Sy.within x t).okS:=vB fun k hk=>by
 simp only[Sy.parts,aI,ao,bW] at hk;rcases hk with rfl | rfl<;>exact⟨_,rfl⟩
def B5(x t y:Str):(Sy.makes x t y).okS:=vB fun k hk=>by
 simp only[Sy.parts,aI,ao,bW] at hk;rcases hk with rfl | rfl | rfl<;>exact⟨_,rfl⟩
def N5(z:Str):(Txt.slice z none (some 1)).cps.toList=z.cps.toList.take 1:=by
 rw[je];have hz:z.cps.toList.length=z.length:=by simp[Str.length]
 have e:HT.sIx z.length z.length (some 1)=min 1 z.length:=HT.sIx_nat z.length z.length 1;have e2:HT.sIx z.length 0 none=0:=rfl;rw[e,e2,sY,LD];rcases yp z.length with h | h
 · have:z.cps.toList=[]:=CF (by lia);rw[this];simp
 · have:min 1 z.length=1:=by lia
   rw[this]
def jQ(h:t.cps.toList=c::r)(hc:c<128):CJ t=decide (65<=c/\c<=90):=by
 have e:Txt.slice t none (some 1)=⟨#[c]⟩:=by
  have:=N5 t;rw[h] at this;have e2:(Txt.slice t none (some 1)).cps.toList=[c]:=this;cases hs:Txt.slice t none (some 1) with
  | mk a=>
    rw[hs] at e2
    congr 1
    exact Array.toList_inj.mp e2
 have big:∀c,c<128->Txt.isupper ⟨#[c]⟩=decide (65<=c/\c<=90):=by decide+kernel
 unfold CJ;rw[e,big c hc]
def qp(t:Str):t.cps.toList.length=t.length:=by simp[Str.length]
def Ia(h:wd t):dk (.nm t):=by
 obtain⟨h1,h2,h3⟩:=h;refine⟨av _,by show 1<=7;decide,by show t.length<=1000;lia,?_⟩;show fV t=CJ t;cases e:t.cps.toList with
 | nil=>have:=qp t;rw[e] at this;simp at this;lia
 | cons c r=>
   obtain⟨c1,c2⟩:=h3 c (by rw[e];simp);rw[jQ e (by lia),ag (by lia)];unfold fV;rw[e];have:nQ c=false:=by unfold nQ;exact ag (by lia)
   show(sS t&&(nQ c&&r.all fz))=false;rw[this,s_,lH]
def zQ(h:thg t):dk (.nm t):=by
 obtain⟨h1,c,r,e,c1,c2,h3⟩:=h;refine⟨av _,by show 1<=7;decide,by show t.length<=1000;lia,?_⟩;show fV t=CJ t;rw[jQ e (by lia),ah ⟨c1,c2⟩];unfold fV sS;have hl:=qp t;rw[e] at hl;simp only[bj] at hl;rw[e,ah (show 1<=t.length by lia),ah h1];have b1:nQ c=true:=by unfold nQ;exact ah ⟨c1,c2⟩
 have b2:r.all fz=true:=cP.mpr fun d hd=>by unfold fz;exact ah (h3 d hd)
 show(true&&true&&(nQ c&&r.all fz))=true;rw[b1,b2];rfl
def dk_anyK:dk (.nm "anything"):=⟨av _,by show 1<=7;decide,by show(Str.ofString "anything").length<=1000;decide+kernel,by
 show fV "anything"=CJ "anything";rw[jQ (c:=97) (r:=[110,121,116,104,105,110,103]) (by decide+kernel) (by decide)]
 decide+kernel⟩
def dk_nothK:dk (.nm "nothing"):=⟨av _,by show 1<=7;decide,by show(Str.ofString "nothing").length<=1000;decide+kernel,by
 show fV "nothing"=CJ "nothing";rw[jQ (c:=110) (r:=[111,116,104,105,110,103]) (by decide+kernel) (by decide)]
 decide+kernel⟩
theorem ir:∀k:Kd,k.sz<=2 * k.nt+1
 | .nm _=>by simp[Kd.nt,Kd.sz]
 | .two a b=>by have:=ir a;have:=ir b;simp only[Kd.nt,Kd.sz];lia
 | .som _ c=>by have:=ir c;simp only[Kd.nt,Kd.sz];lia
def GT(hn:k.nt+1<=2^2)(hd:k.dep<=2)(hi:si ws ts k)(hw:∀z∈ws,dk (.nm z)):dk k:=by
 have:=ir k;have hs:k.sz<=7:=by lia
 cases k with
 | nm t=>
   rcases hi with h | h | h
   · exact hw t h
   · rw[h];exact dk_anyK
   · rw[h];exact dk_nothK
 | two a b=>exact⟨hd,hs,trivial,rfl⟩
 | som r c=>exact⟨hd,hs,trivial,rfl⟩
def Lc{ts:List Str}(e:ts.length=3):∃a b c,ts=[a,b,c]:=by
 match ts,e with
 | [a,b,c],_=>exact⟨a,b,c,rfl⟩
def GK(l:List Int):pM (l.map Tx.int)<=0:=Fy fun d hd=>by
 obtain⟨c,_,rfl⟩:=bK.mp hd;exact ar _
section
end
def dn(ws ts:List Str)(k:Kd):Prop:=dk k/\k.nt<=3/\si ws ts k
def vS(hn:k.nt+1<=2^2)(hd:k.dep<=2)(hi:si ws ts k)(hw:∀z∈ws,dk (.nm z)):dn ws ts k:=⟨GT hn hd hi hw,by lia,hi⟩
def dS(ws ts hs:List Str):Sy->Prop
 | .every a b=>dn ws ts a/\dn ws ts b
 | .no a b=>dn ws ts a/\dn ws ts b
 | .thing x k=>(x∈hs/\dk (.nm x))/\dn ws ts k
 | .tied x t y=>(x∈hs/\dk (.nm x))/\(y∈hs/\dk (.nm y))/\t∈ts
 | .within r s=>r∈ts/\s∈ts
 | .makes r s t=>r∈ts/\s∈ts/\t∈ts
theorem dS.okS:∀{s:Sy},dS ws ts hs s->s.okS
 | .every _ _,h=>B6 h.1.1 h.2.1
 | .no _ _,h=>Jj h.1.1 h.2.1
 | .thing _ _,h=>B4 h.2.1
 | .tied _ _ _,_=>D7 _ _ _
 | .within _ _,_=>zt _ _
 | .makes _ _ _,_=>B5 _ _ _
structure Env(H:Hp)(b lk lt lh:Addr)(ws ts hs:List Str):Prop where
 hk:H lk=some (.lst (ws.map V.str))
 lw:ws.length=3
 dw:∀z∈ws,dk (.nm z)
 ht:H lt=some (.lst (ts.map V.str))
 lt':ts.length=2
 hh:H lh=some (.lst (hs.map V.str))
 lh':hs.length=2
 dh:∀z∈hs,dk (.nm z)
 nk:lk≠b
 nt:lt≠b
 nh:lh≠b
def fK{a:Addr}(h:a≠b):a∉[b]:=fun z=>h (af.mp z)
def Env.kp(e:Env H b lk lt lh ws ts hs)(k:Kp [b] H H'):Env H' b lk lt lh ws ts hs:=⟨k.but _ _ (fK e.nk) e.hk,e.lw,e.dw,k.but _ _ (fK e.nt) e.ht,e.lt',k.but _ _ (fK e.nh) e.hh,e.lh',e.dh,e.nk,e.nt,e.nh⟩
inductive qL(vs:List V)(H:Hp)(Q:VK):Prop
 | mk:∀b lk lt lh x y ws ts hs,(vs=[.ref b,.ref lk,.ref lt,.ref lh])->(H b=some (.lst [.int x,.int y]))->(Env H b lk lt lh ws ts hs)->(∀v H' s x' y',Kp [b] H H'->H' b=some (.lst [.int x',.int y'])->IsSy H' s v->dS ws ts hs s->Q v H')->qL vs H Q
def wJ:Sp:=fun vs H Q _=>qL vs H Q
def K5:((([("_law_k":Str)]:List Str)++[("_law_ties":Str),("_law_bag":Str)]):List Str).Nodup:=by decide+kernel
def Env.p1(e:Env H b lk lt lh ws ts hs):0<ws.length:=by have:=e.lw;lia
def Env.p2(e:Env H b lk lt lh ws ts hs):ws.length<=100:=by have:=e.lw;lia
def Env.p3(e:Env H b lk lt lh ws ts hs):0<ts.length:=by have:=e.lt';lia
def Env.p4(e:Env H b lk lt lh ws ts hs):ts.length<=100:=by have:=e.lt';lia
def M9(x1:Int)(hb:H b=some (.lst [.int x,.int y])):Kp [b] H (upd H b (.lst [.int x1,.int y]))/\upd H b (.lst [.int x1,.int y]) b=some (.lst [.int x1,.int y]):=⟨Kp.lst (af.mpr rfl) hb,upd_same⟩
def FY(ht:H t=none)(k:KL H xs s.parts):IsSy (upd H t (.tup (.str (AK s.hd)::xs))) s (.ref t):=⟨t,xs,rfl,upd_same,KL.mono (aj ht _).tups k⟩
section
def scSaying:bw ["_law_bag","_law_kin","_law_ties","_law_things_here","_law_way","_law_one","_law_thing","_law_some"] F3 (aM uW):=gH
def BZ(F:Fun K "_law_saying" "_law_saying" uW f fd)(mr:mg "range"=none)(Gdr:Cl P w K mg base 1 "_law_draw" ze qQ)(Gk:Cl P w K mg base 4 "_law_kind" vd (lZ 3)):b_ P w K mg base eU 5 f fd F3 wJ:=by
 refine F.o scSaying fun cdv A outer s H vs Q E hr h=> ?_;obtain⟨b,lk,lt,lh,x,y,ws,ts,hs,rfl,hb,en,q⟩:=h;refine⟨_,ba (fR 4 scSaying.nd (dG Gdr hr (dO aD aw))) (ba (fR 5 scSaying.nd (dG Gk hr (jz aD bf bJ aw))) (ba (bL (eX lP cG aw) (bg (cK (cX (iS bq ee (dG Gk hr (jz aD bf bJ aw)))))) be) (ba (bL (eX cT cG aw) (bg (cK (cX (iS bq ee (dG Gk hr (jz aD bf bJ aw)))))) be) (ba (fR 6 scSaying.nd (oA di cE (dG Gdr hr (dO aD aw)))) (ba (bL (eX lP cG aw) (bg (cK (cX (iS bq eW ee)))) be) (ba (vj (i:=7) Do ["_law_ties","_law_bag"] [2,0] scSaying.nd rfl rfl (fH rfl mr (eR aw)) (fun _ _ _=>eV 0 K5) (fun _ _ _=>fb) (fun _ _ _=>(oA (r:=FZ K) di bf (dG Gdr hr (dO bJ aw))))) (ba (bL (eX lP cG aw) (bg (cK (cX (jz bq eW (zh jh) (oA di cE (dG Gdr hr (dO aD aw))))))) be) (ba (bL (eX cT cG aw) (bg (cK (cX (iS bq (zh jh) (zh jh))))) be) (bg (cK (cX (jz bq (zh jh) (zh jh) (zh jh))))))))))))),?_⟩;have fin:∀{H':Hp} {x' y':Int} {t:Addr} {xs:List V} (s:Sy),Kp [b] H H'->H' b=some (.lst [.int x',.int y'])->H' t=none->KL H' xs s.parts->dS ws ts hs s->Q (.ref t) (upd H' t (.tup (.str (AK s.hd)::xs))):=
  fun s k b' ht kl ds=>q _ _ s _ _ (k.trans (.of (aj ht _))) ((aj ht _) _ _ b') (FY ht kl) ds
 have lhs:=en.lh';have lts:=en.lt';refine⟨b,x,11,[.int y],rfl,hb,by decide,fun x1 way _ _=> ?_⟩;obtain⟨k1,b1⟩:=M9 x1 hb;generalize upd H b (.lst [.int x1,.int y])=H1 at k1 b1⊢;have e1:=en.kp k1;refine⟨b,lk,lt,x1,y,0,ws,ts,2,rfl,b1,e1.hk,e1.ht,e1.nk,e1.nt,e1.p1,e1.p2,e1.p3,e1.p4,by decide,fun v1 H1' q1 x1' y1' k1' b1' i1 nt1 dp1 nm1=> ?_⟩;have e1':=e1.kp k1';have k01:=k1.trans k1';have n1:=vS nt1 dp1 nm1 en.dw;refine(fY (fun _=> ?_) (fun _=> ?_))
 · refine⟨b,lk,lt,x1',y1',0,ws,ts,2,rfl,b1',e1'.hk,e1'.ht,e1'.nk,e1'.nt,e1'.p1,e1'.p2,e1'.p3,e1'.p4,by decide,fun v2 H3 q2 x3 y3 k3 b3 i2 nt2 dp2 nm2=> ?_⟩;refine⟨bz (by show 3<=1000;decide),fun t ht=> ?_⟩;exact fin (.every q1 q2) (k01.trans k3) b3 ht (.cons (i1.mono k3.tups) (.cons i2 .nil)) ⟨n1,vS nt2 dp2 nm2 en.dw⟩
 refine(fY (fun _=> ?_) (fun _=> ?_))
 · refine⟨b,lk,lt,x1',y1',0,ws,ts,2,rfl,b1',e1'.hk,e1'.ht,e1'.nk,e1'.nt,e1'.p1,e1'.p2,e1'.p3,e1'.p4,by decide,fun v2 H3 q2 x3 y3 k3 b3 i2 nt2 dp2 nm2=> ?_⟩;refine⟨bz (by show 3<=1000;decide),fun t ht=> ?_⟩;exact fin (.no q1 q2) (k01.trans k3) b3 ht (.cons (i1.mono k3.tups) (.cons i2 .nil)) ⟨n1,vS nt2 dp2 nm2 en.dw⟩
 refine⟨b,x1',2,[.int y1'],rfl,b1',by decide,fun x2 r r0 rm=> ?_⟩;obtain⟨k2,b2⟩:=M9 x2 b1';generalize upd H1' b (.lst [.int x2,.int y1'])=H2 at k2 b2⊢;have e2:=e1'.kp k2;obtain⟨z,hz,ez⟩:=jt (ws:=hs) r0 (by rw[lhs];exact rm);refine⟨_,_,SqL.of e2.hh,ez,?_⟩;have k02:=k01.trans k2;have dz:=en.dh z hz;refine(fY (fun _=> ?_) (fun _=> ?_))
 · refine⟨bz (by show 3<=1000;decide),fun t ht=> ?_⟩;exact fin (.thing z q1) k02 b2 ht (.cons rfl (.cons (i1.mono k2.tups) .nil)) ⟨⟨hz,dz⟩,n1⟩
 refine⟨3,rfl,by decide,by decide,fun D hD=> ?_⟩;have nDb:D≠b:=fun z=>by rw[z,b2] at hD;cases hD
 have ntD:lt≠D:=bp e2.ht hD;refine fD 3 (fun i σ H'=>(∃o,σ=[o,some (.ref lt),some (.ref b)])/\Kp [b,D] H2 H'/\(∃x' y',H' b=some (.lst [.int x',.int y']))/\∃us:List Str,H' D=some (.lst (us.map V.str))/\us.length=i/\∀u∈us,u∈ts) ⟨⟨_,rfl⟩,.of (aj hD _),⟨_,_,(aj hD _) _ _ b2⟩,[],upd_same,rfl,fun _ h=>(ao h).elim⟩ ?_ ?_
 · rintro σ H3 ⟨_,kD,⟨x3,y3,b3⟩,us,eD,lus,hus⟩;have k3:Kp [b] H2 H3:=⟨fun c o hc hco=>kD.but c o (by
    simp only[aI,ao,bW,xD];exact⟨fun z=>hc (by rw[z];exact af.mpr rfl),fun z=>by rw[z,hD] at hco;cases hco⟩) hco,kD.tups⟩
   have e3:=e2.kp k3;have k03:=k02.trans k3;obtain⟨u0,u1,u2,rfl⟩:=Lc lus;refine⟨ar _,?_⟩;have s0:SqL K H3 D [.str u0,.str u1,.str u2]:=SqL.of eD;refine(fY (fun _=> ?_) (fun _=> ?_))
   · refine⟨_,_,s0,rfl,b,x3,2,[.int y3],rfl,b3,by decide,fun x4 r' r0' rm'=> ?_⟩;obtain⟨k4,b4⟩:=M9 x4 b3;generalize upd H3 b (.lst [.int x4,.int y3])=H4 at k4 b4⊢;obtain⟨z',hz',ez'⟩:=jt (ws:=hs) r0' (by rw[lhs];exact rm');refine⟨_,_,SqL.of (e3.kp k4).hh,ez',bz (by show 4<=1000;decide),fun t ht=> ?_⟩;exact fin (.tied z u0 z') (k03.trans k4) b4 ht (.cons rfl (.cons rfl (.cons rfl .nil))) ⟨⟨hz,dz⟩,⟨hz',en.dh z' hz'⟩,hus u0 (by simp)⟩
   refine(fY (fun _=> ?_) (fun _=> ?_))
   · refine⟨_,_,s0,rfl,_,_,s0,rfl,bz (by show 3<=1000;decide),fun t ht=> ?_⟩;exact fin (.within u0 u1) k03 b3 ht (.cons rfl (.cons rfl .nil)) ⟨hus u0 (by simp),hus u1 (by simp)⟩
   · refine⟨_,_,s0,rfl,_,_,s0,rfl,_,_,s0,rfl,bz (by show 4<=1000;decide),fun t ht=> ?_⟩;exact fin (.makes u0 u1 u2) k03 b3 ht (.cons rfl (.cons rfl (.cons rfl .nil))) ⟨hus u0 (by simp),hus u1 (by simp),hus u2 (by simp)⟩
 · rintro i σ H' hi ⟨⟨o,rfl⟩,kD,⟨x',y',b'⟩,us,eD,lus,hus⟩;refine⟨hi,?_⟩;rintro v H4 ⟨rfl,rfl⟩;have ntL:lt∉[b,D]:=by simp only[aI,ao,bW,xD];exact⟨en.nt,ntD⟩
   refine⟨b,x',2,[.int y'],rfl,b',by decide,fun x4 r2 r0 r3=> ?_⟩;have kb2:Kp [b,D] H4 (upd H4 b (.lst [.int x4,.int y'])):=Kp.lst (by simp) b';have kD2:=kD.trans kb2;obtain⟨z,hz,ez⟩:=jt (ws:=ts) r0 (by rw[lts];exact r3);have eD2:upd H4 b (.lst [.int x4,.int y']) D=some (.lst (us.map V.str)):=by rw[aB nDb];exact eD
   have kD3:Kp [b,D] (upd H4 b (.lst [.int x4,.int y'])) (upd (upd H4 b (.lst [.int x4,.int y'])) D (.lst (us.map V.str++[.str z]))):=Kp.lst (by simp) eD2;have hi3:i<3:=hi;refine⟨_,_,SqL.of (kD2.but _ _ ntL e2.ht),ez,_,eD2,bH (by rw[ae];lia),⟨_,rfl⟩,kD2.trans kD3,⟨x4,y',by rw[aB (br nDb)];exact upd_same⟩,us++[z],?_,by rw[ak,lus];rfl,fun u hu=>(ay.mp hu).elim (hus u) fun h=>(af.mp h) ▸ hz⟩;rw[upd_same,aZ];rfl
end
def mx(K:Frag):kitOne K (.type "tuple") (.type "tuple")=some true:=by first | rfl | decide | with_unfolding_all rfl
def Eu(K:Frag):kitOne K (.type "tuple") (.type "str")=some false:=by first | rfl | decide | with_unfolding_all rfl
def Ex(K:Frag):kitOne K (.type "list") (.type "list")=some true:=by first | rfl | decide | with_unfolding_all rfl
def K3:((([("_law_low":Str)]:List Str)++[]):List Str).Nodup:=by decide+kernel
inductive qI(vs:List V)(H:Hp)(Q:VK):Prop
 | mk:∀i:Int,(vs=[.int i])->(Q (.bl true) H)->qI vs H Q
def wD:Sp:=fun vs H Q _=>qI vs H Q
inductive qN(n:Nat)(vs:List V)(H:Hp)(Q:VK):Prop
 | mk:∀v k,(vs=[v])->(IsK H k v)->(k.dep<n)->(Q (.bl true) H)->qN n vs H Q
def jc(n:Nat):Sp:=fun vs H Q _=>qN n vs H Q
inductive ua(vs:List V)(H:Hp)(Q:VK):Prop
 | mk:∀v f,(vs=[v])->(IsF H f v)->(f.lo 25)->(Q (.bl true) H)->ua vs H Q
def AC:Sp:=fun vs H Q _=>ua vs H Q
inductive AE(vs:List V)(H:Hp)(Q:VK):Prop
 | mk:∀l xs ss,(vs=[.ref l])->(H l=some (.lst xs))->(StL [] H xs ss)->((∀s∈ss,s.f.lo 25/\s.fr.length<=2))->(∀H',Same H H'->Q (.bl true) H')->AE vs H Q
def Hu:Sp:=fun vs H Q _=>AE vs H Q
section
def FN:bw va va (aM yN):=gH
def BV(F:Fun K "_law_whole" "_law_whole" yN f fd)(mi:mg "isinstance"=none)(mint:mg "int"=none)(mb:mg "bool"=none):b_ P w K mg base eU 1 f fd va wD:=by
 refine F.o FN fun cdv A outer s H vs Q E hr h=> ?_;obtain⟨i,rfl,q⟩:=h;refine⟨_,bg (cK (fX (yr mi mint PyProof.Rows.boot_int aD) (iw (IS (yr mi mb PyProof.Rows.boot_bool aD))))),?_⟩;exact⟨_,_,_,true,rfl,TyOf.int i,JA K,⟨_,_,_,false,rfl,TyOf.int i,JB K,q⟩⟩
def Dd:bw nr nr (aM qi):=gH
def B2(F:Fun K "_law_kindly" "_law_kindly" qi f fd)(Gkd:Cl P w K mg base k0 "_law_kindly" nr (jc n))(mi:mg "isinstance"=none)(ms:mg "str"=none)(mt:mg "tuple"=none)(ml:mg "len"=none):b_ P w K mg base eU (k0+1) f fd nr (jc (n+1)):=by
 refine F.o Dd fun cdv A outer s H vs Q E hr h=> ?_;obtain⟨v,k,rfl,ik,hd,q⟩:=h;have kGkd:=F.kp;refine⟨_,ba (bL (d4 (yr mi ms cm aD)) (bg (cK eQ)) be)
  (ba (bL (PW.pt (nv (gi (d4 (yr mi mt ij aD))) (oz (eX DI (BR ml aD) aw)))) (bg (cK eQ)) be)
  (ba (bL (eX cT (eh aD) bq) (bg (cK (fX (yr mi ms cm (eh aD)) (iw (dG Gkd hr (eR (eh aD))))))) be)
  (bg (cK (fX (Ft cT (eh aD) bq) (fX (dG Gkd hr (eR (eh aD))) (iw (dG Gkd hr (eR (eh aD)))))))))),?_⟩
 cases k with
 | nm x=>
   cases ik;exact⟨_,_,_,true,rfl,TyOf.str x,dR K,q⟩
 | two a b=>
   obtain⟨p,x,y,rfl,hp,ia,ib⟩:=ik;have hd':1+max a.dep b.dep<n+1:=hd;refine⟨_,_,_,false,rfl,TyOf.tup hp,Eu K,⟨_,_,_,true,rfl,TyOf.tup hp,mx K,⟨p,_,rfl,.inr (SqT.of hp),?_⟩⟩⟩;refine⟨_,_,SqT.of hp,rfl,?_⟩;refine⟨_,_,SqT.of hp,rfl,?_⟩;exact⟨_,_,SqT.of hp,rfl,x,a,rfl,ia,by lia,⟨_,_,SqT.of hp,rfl,y,b,rfl,ib,by lia,q⟩⟩
 | som r c=>
   obtain⟨p,y,rfl,hp,ic⟩:=ik;have hd':1+c.dep<n+1:=hd;refine⟨_,_,_,false,rfl,TyOf.tup hp,Eu K,⟨_,_,_,true,rfl,TyOf.tup hp,mx K,⟨p,_,rfl,.inr (SqT.of hp),?_⟩⟩⟩;refine⟨_,_,SqT.of hp,rfl,?_⟩;exact⟨_,_,SqT.of hp,rfl,_,_,_,true,rfl,TyOf.str _,dR K,⟨_,_,SqT.of hp,rfl,y,c,rfl,ic,by lia,q⟩⟩
def xT:b_ P w K mg base eU 1 f fd nr (jc 0):=by
 have no:∀vs H Q E,¬ jc 0 vs H Q E:=fun vs H Q E h=>by
  obtain⟨v,k,_,_,h,_⟩:=h
  lia
 exact⟨fun vs H Q E h=>absurd h (no vs H Q E),fun A outer s H args us vs Q E _ _ _ _ h=>absurd h (no vs H Q E)⟩
theorem rF(A:Fq K mg "_law_kindly" qi nr)(mi:mg "isinstance"=none)(ms:mg "str"=none)(mt:mg "tuple"=none)(ml:mg "len"=none):∀n:Nat,Cl P w K mg base (n+1) "_law_kindly" nr (jc n)
 | 0=>A.cl fun _=>xT
 | n+1=>A.cl fun F=>B2 F (rF A mi ms mt ml n) mi ms mt ml
def FW:bw Dp Dp (aM yY):=gH
def DZ(F:Fun K "_law_is_claim" "_law_is_claim" yY f fd)(mi:mg "isinstance"=none)(ms:mg "str"=none)(mt:mg "tuple"=none)(ml:mg "len"=none)(Gkd:Cl P w K mg base 27 "_law_kindly" nr (jc 26)):b_ P w K mg base eU 28 f fd Dp AC:=by
 refine F.o FW fun cdv A outer s H vs Q E hr h=> ?_;obtain⟨v,f,rfl,iff,lo,q⟩:=h;refine⟨_,ba (bL (PW.pt (nv (gi (d4 (yr mi mt ij aD))) (nv (eX lP (BR ml aD) aw) (oz (gi (d4 (dG Gkd hr (eR (eh aD))))))))) (bg (cK eQ)) be) (ba (bL (eX cT (eh aD) bq) (bg (cK (fX (Ft cT (BR ml aD) aw) (iw (dG Gkd hr (eR (eh aD))))))) be) (bg (cK (fX (Ft cT (eh aD) bq) (fX (Ft cT (BR ml aD) aw) (fX (yr mi ms cm (eh aD)) (iw (dG Gkd hr (eR (eh aD)))))))))),?_⟩;cases f with
 | is x k=>
   obtain⟨p,a,b,rfl,hp,ia,ib⟩:=iff;obtain⟨l1,l2⟩:=lo;refine⟨_,_,_,true,rfl,TyOf.tup hp,mx K,⟨p,_,rfl,.inr (SqT.of hp),⟨_,_,SqT.of hp,rfl,a,x,rfl,ia,by lia,?_⟩⟩⟩;refine⟨_,_,SqT.of hp,rfl,?_⟩;exact⟨p,_,rfl,.inr (SqT.of hp),⟨_,_,SqT.of hp,rfl,b,k,rfl,ib,by lia,q⟩⟩
 | has x r y=>
   obtain⟨p,a,b,rfl,hp,ia,ib⟩:=iff;obtain⟨l1,l2⟩:=lo;refine⟨_,_,_,true,rfl,TyOf.tup hp,mx K,⟨p,_,rfl,.inr (SqT.of hp),⟨_,_,SqT.of hp,rfl,a,x,rfl,ia,by lia,?_⟩⟩⟩;refine⟨_,_,SqT.of hp,rfl,?_⟩;refine⟨_,_,SqT.of hp,rfl,?_⟩;exact⟨p,_,rfl,.inr (SqT.of hp),⟨_,_,SqT.of hp,rfl,_,_,_,true,rfl,TyOf.str _,dR K,⟨_,_,SqT.of hp,rfl,b,y,rfl,ib,by lia,q⟩⟩⟩
def scAre:bw ["_law_found","_law_step"] va (aM II):=gH
def Jh(F:Fun K "_law_are_steps" "_law_are_steps" II f fd)(mi:mg "isinstance"=none)(ms:mg "str"=none)(mt:mg "tuple"=none)(mls:mg "list"=none)(ml:mg "len"=none)(ma:mg "all"=none)(Gcl:Cl P w K mg base 28 "_law_is_claim" Dp AC)(Gwh:Cl P w K mg base 1 "_law_whole" va wD):b_ P w K mg base eU 29 f fd va Hu:=by
 refine F.o scAre fun cdv A outer s H vs Q E hr h=> ?_;obtain⟨l,xs,ss,rfl,hl,hst,oks,q⟩:=h;refine⟨_,ba (bL (gi (d4 (yr mi mls bU aD))) (bg (cK eQ)) be) (ba (lO (bT aD) (eV 1 scAre.nd) (ba (bL (PW.pt (nv (gi (d4 (yr mi mt ij bf))) (nv (eX DI (BR ml bf) aw) (oz (gi (d4 (dG Gcl hr (eR (eh bf))))))))) (bg (cK eQ)) be) (ba (bL (PW.pt (nv (gi (d4 (yr mi ms cm (eh bf)))) (oz (gi (d4 (yr mi mls bU (eh bf))))))) (bg (cK eQ)) be) (ba (bL (gi (xm (fC (kY rfl) rfl ma iU (eR (fg ["_law_low"] [] [] rfl (bT (eh bf)) (fun _ _ _=>eV 0 K3) (fun _ _ _=>fb) (fun _ _ _=>(dG Gwh hr (eR aD)))))) (fun _=>rfl))) (bg (cK eQ)) be) (bg (bL (PW.pt (mh (eX nB (eh bf) ej) (kK (gi (d4 (dG Gwh hr (eR (eh bf)))))))) (bg (cK eQ)) be)))))) (bg (cK eQ))),?_⟩;refine⟨_,_,_,true,rfl,TyOf.lst hl,Ex K,?_⟩;refine⟨⟨_,SqL.of hl⟩,ck (xs:=xs) (fun i σ H'=>(∃o,σ=[some (.ref l),o])/\Same H H') ⟨⟨_,rfl⟩,Same.refl _⟩ ?_ ?_ ?_⟩
 · rintro i σ H' hi ⟨_,sm⟩;exact SqL.of (sm _ _ hl)
 · rintro i x σ H' hx ⟨⟨o,rfl⟩,sm⟩;obtain⟨st,hs,p,pf,vf,rfl,hp,ig,hpf,_⟩:=dt (StL.keep (.of sm) hst) hx;obtain⟨lo,lf⟩:=oks st (au hs);refine⟨_,_,_,true,rfl,TyOf.tup hp,mx K,⟨p,_,rfl,.inr (SqT.of hp),⟨_,_,SqT.of hp,rfl,vf,st.f,rfl,ig,lo,?_⟩⟩⟩;refine⟨_,_,SqT.of hp,rfl,_,_,_,true,rfl,TyOf.str _,dR K,⟨_,_,SqT.of hp,rfl,_,_,_,true,rfl,TyOf.lst hpf,Ex K,?_⟩⟩;refine⟨_,_,SqT.of hp,rfl,⟨_,SqL.of hpf⟩,fun D hD=> ?_⟩;have lm:(st.fr.map V.int).length=st.fr.length:=ae ..;refine fD st.fr.length (fun k σ H3=>(∃o,σ=[o])/\Same H' H3/\H3 D=some (.lst ((List.replicate k true).map V.bl))) ⟨⟨_,rfl⟩,aj hD _,upd_same⟩ ?_ ?_
   · rintro σ H3 ⟨_,s3,e3⟩;refine⟨⟨_,SqL.of (s3 _ _ hpf),by rw[lm];exact ar _⟩,?_⟩;refine⟨D,_,rfl,SqL.of e3,_,rfl,?_⟩;rw[show(List.replicate st.fr.length true).all id=true by simp];refine⟨_,_,SqT.of (s3 _ _ hp),rfl,?_⟩;cases en:st.n with
     | none=>
       refine⟨rfl,?_⟩;rw[show(!decide (pQ none=V.non))=false by simp[pQ]];exact(⟨⟨_,rfl⟩,sm.trans s3⟩)
     | some n=>
       refine⟨rfl,?_⟩;rw[show(!decide (pQ (some n)=V.non))=true by simp[pQ]];exact⟨_,_,SqT.of (s3 _ _ hp),rfl,n,by rw[en];rfl,⟨⟨_,rfl⟩,sm.trans s3⟩⟩
   · rintro k σ H3 hk ⟨⟨o,rfl⟩,s3,e3⟩;have hpf3:=s3 _ _ hpf;refine⟨⟨_,_,SqL.of hpf3,aq (by rw[lm];exact hk)⟩,?_⟩;rintro x H4 ⟨rfl,hx1⟩;have hx2:=hx1 _ (SqL.of hpf3);rw[aH] at hx2;obtain⟨y,hy,rfl⟩:=aQ.mp hx2;refine⟨y,rfl,_,e3,bH (by rw[ae,dQ];lia),⟨_,rfl⟩,bR s3 hD,?_⟩;rw[upd_same,Nk,aZ]
     rfl
 · rintro σ H' ⟨⟨o,rfl⟩,sm⟩;exact q H' sm
end
structure Wo where
 n:Nat
 kd:Str->Option (List Int)
 pr:Str->Option (List (Int × Int))
 hm:Str->Option Int
noncomputable def Wo.prs(W:Wo)(t:Str):List (Int × Int):=(W.pr t).getD []
noncomputable def put1(A m:List Int)(q:Int × Int):List Int:=if q.2∈A/\q.1∉m then m++[q.1] else m
noncomputable def Wo.of(W:Wo):Kd->List Int
 | .nm t=>if t="anything" then(List.range W.n).map fun(i:Nat)=>(i:Int) else(W.kd t).getD []
 | .two a b=>(W.of a).filter fun p=>decide (p∈W.of b)
 | .som r c=>(W.prs r).foldl (put1 (W.of c)) []
noncomputable def Wo.meant(W:Wo)(x:Kd):Option (List Int):=if cF x=true then(match x with | .nm t=>(W.hm t).map fun h=>[h] | _=>none) else some (W.of x)
def Wo.holds(W:Wo):Fa->Prop
 | .is x k=>∃l,W.meant x=some l/\∀p∈l,p∈W.of k
 | .has x t y=>∃l m,W.meant x=some l/\W.meant y=some m/\∀p∈l,∃q∈m,(p,q)∈W.prs t
def Wo.keeps(W:Wo):Sy->Prop
 | .every a b=>∀p∈W.of a,p∈W.of b
 | .no a b=>W.of (.two a b)=[]
 | .thing x k=>W.holds (.is (.nm x) k)
 | .tied x t y=>W.holds (.has (.nm x) t (.nm y))
 | .within r s=>∀q∈W.prs r,q∈W.prs s
 | .makes r s t=>∀q∈W.prs r,∀z∈W.prs s,z.1=q.2->(q.1,z.2)∈W.prs t
structure Wo.Ok(W:Wo):Prop where
 kd:∀t p,p∈(W.kd t).getD []->0<=p/\p<W.n
 no:W.kd "nothing"=none
 pr:∀t q,q∈W.prs t->0<=q.1/\q.1<W.n
 hm:∀t h,W.hm t=some h->0<=h/\h<W.n
theorem Bl(A:List Int)(p:Int):∀(qs:List (Int × Int)) (m:List Int),p∈qs.foldl (put1 A) m↔p∈m\/∃q∈qs,q.1=p/\q.2∈A
 | [],m=>by simp
 | q::qs,m=>by
   rw[dN,Bl A p qs];unfold put1
   split
   · rename_i h;simp only[ay,aI,ao,bW,exists_eq_or_imp];constructor
     · rintro((h1 | rfl) | h1)
       · exact .inl h1
       · exact .inr (.inl ⟨rfl,h.1⟩)
       · exact .inr (.inr h1)
     · rintro(h1 | ⟨rfl,_⟩ | h1)
       · exact .inl (.inl h1)
       · exact .inl (.inr rfl)
       · exact .inr h1
   · rename_i h;simp only[aI,exists_eq_or_imp];constructor
     · rintro(h1 | h1)
       · exact .inl h1
       · exact .inr (.inr h1)
     · rintro(h1 | ⟨rfl,h2⟩ | h1)
       · exact .inl h1
       · exact .inl (Classical.byContradiction fun n=>h ⟨h2,n⟩)
       · exact .inr h1
def mo_two{W:Wo}:p∈W.of (.two a b)↔p∈W.of a/\p∈W.of b:=by
 rw[Wo.of,gb,aX]
def mo_som{W:Wo}:p∈W.of (.som r c)↔∃q,(p,q)∈W.prs r/\q∈W.of c:=by
 rw[Wo.of,Bl];constructor
 · rintro(h | ⟨q,h,rfl,h2⟩)
   · cases h
   · exact⟨q.2,h,h2⟩
 · rintro⟨q,h,h2⟩;exact .inr ⟨_,h,rfl,h2⟩
def mo_any{W:Wo}:p∈W.of E8↔0<=p/\p<W.n:=by
 rw[Wo.of,aE rfl,bK];constructor
 · rintro⟨i,h,rfl⟩;have:=cv.mp h
   lia
 · intro h;exact⟨p.toNat,cv.mpr (by lia),by lia⟩
def Jo{W:Wo}(o:W.Ok):W.of gV=[]:=by
 rw[Wo.of,aA (by decide),o.no];rfl
theorem HL{W:Wo}(o:W.Ok):∀k p,p∈W.of k->0<=p/\p<W.n
 | .nm t,p,h=>by
   by_cases e:t="anything"
   · subst e;exact mo_any.mp h
   · rw[Wo.of,aA e] at h;exact o.kd t p h
 | .two a b,p,h=>HL o a p (mo_two.mp h).1
 | .som r c,p,h=>by
   obtain⟨q,h1,_⟩:=mo_som.mp h;exact o.pr r _ h1
def Ef{W:Wo}(o:W.Ok){x:Kd}{l:List Int}(h:W.meant x=some l)(p:Int)(hp:p∈l):0<=p/\p<W.n:=by
 unfold Wo.meant at h
 split at h
 · cases x with
   | nm t=>
     obtain⟨z,e,rfl⟩:=aQ.mp h;rw[af.mp hp];exact o.hm t z e
   | two a b=>cases h
   | som r c=>cases h
 · cases h;exact HL o x p hp
def nF{W:Wo}(h:cF x=false):W.meant x=some (W.of x):=by unfold Wo.meant;rw[aA (by rw[h];exact aO)]
def B9{l:List Int}{W:Wo}(o:W.Ok)(h:∀p∈l,p∈W.of gV):∀p∈l,False:=fun p hp=>by
 have:=h p hp;rw[Jo o] at this;cases this
def zO{W:Wo}(o:W.Ok){r:Ru}{f:Fa}{olds:List Fa}{sy:Option Sy}{sg:List Str}(hs:∀s,sy=some s->W.keeps s)(hg:∀x,Ki x sg=true->∃l,W.meant x=some l)(ho:∀z∈olds,W.holds z)(hc:∀x t k,Fa.is x (.som t k)∈olds->cF k=false)(h:ur r f olds sy sg=true):W.holds f:=by
 unfold ur at h
 split at h
 · -- from none
   unfold rK at h
   split at h
   · split at h
     · rename_i e;simp only[aP,z_,aX] at h;rw[h.2];exact⟨_,nF h.1,fun p hp=>hp⟩
     · split at h
       · simp only[aP,qA,z_,aX] at h;rw[h.1];obtain⟨l,hl⟩:∃l,W.meant f.x=some l:=by
          rcases h.2 with h2 | h2
          · exact⟨_,nF h2⟩
          · exact hg _ h2
         exact⟨l,hl,fun p hp=>mo_any.mpr (Ef o hl p hp)⟩
       · cases h
   · rename_i s;have k:=hs s rfl
     split at h
     · split at h
       · rw[bA h];exact k
       · rw[bA h];exact k
       · cases h
     · cases h
 · rename_i z;have hz:=ho z aL;unfold jD at h
   split at h
   · rename_i a b;have k:=hs _ rfl
     split at h
     · rename_i e;rw[bA h];rw[e.2] at hz;obtain⟨l,h1,h2⟩:=hz;exact⟨l,h1,fun p hp=>k p (h2 p hp)⟩
     · cases h
   · rename_i s t;have k:=hs _ rfl
     split at h
     · split at h
       · rename_i e;rw[bA h];obtain⟨l,m,h1,h2,h3⟩:=hz;refine⟨l,m,h1,h2,fun p hp=> ?_⟩;obtain⟨q,hq,h4⟩:=h3 p hp;rw[e.2] at h4;exact⟨q,hq,k _ h4⟩
       · cases h
     · cases h
   · cases h
   · split at h
     · rename_i x t k;simp only[aP,aX] at h;rw[h.2];obtain⟨l,h1,h2⟩:=hz;refine⟨l,_,h1,nF (hc _ _ _ aL),fun p hp=> ?_⟩;obtain⟨q,h3,h4⟩:=mo_som.mp (h2 p hp);exact⟨q,h4,h3⟩
     · rename_i x a b;obtain⟨l,h1,h2⟩:=hz
       split at h
       · rw[bA h];exact⟨l,h1,fun p hp=>(mo_two.mp (h2 p hp)).1⟩
       · simp only[aP,aX] at h;rw[h.2];exact⟨l,h1,fun p hp=>(mo_two.mp (h2 p hp)).2⟩
     · cases h
 · rename_i z u;have hz:=ho z aL;have hu:=ho u (aG _ aL);unfold iL at h
   split at h
   · rename_i x k
     split at h
     · cases h
     · rename_i y l
       split at h
       · rename_i e;subst e;obtain⟨a,h1,h2⟩:=hz;obtain⟨b,h3,h4⟩:=hu;cases h1.symm.trans h3
         split at h
         · simp only[aP,aX] at h;rw[h.2];exact⟨a,h1,fun p hp=>mo_two.mpr ⟨h2 p hp,h4 p hp⟩⟩
         · rename_i s;simp only[aP,aX] at h;have kk:=hs _ rfl;rw[h.2.1] at kk;rw[h.2.2];refine⟨a,h1,fun p hp=> ?_⟩;have:=mo_two.mpr ⟨h2 p hp,h4 p hp⟩;rw[show W.of (.two k l)=[] from kk] at this;cases this
       · cases h
   · rename_i x t y
     split at h
     · rename_i e;obtain⟨a,b,h1,h2,h3⟩:=hz
       split at h
       · rename_i s;have kk:=hs _ rfl
         split at h
         · cases h
         · rename_i y' t2 y2;have e':y'=y:=e;subst e';obtain⟨c,d,h4,h5,h6⟩:=hu;cases h2.symm.trans h4
           split at h
           · rename_i m1 m2 m3
             split at h
             · rename_i q;obtain⟨_,rfl,rfl⟩:=q;rw[bA h];refine⟨a,d,h1,h5,fun p hp=> ?_⟩;obtain⟨q,hq,h7⟩:=h3 p hp;obtain⟨z,hz,h8⟩:=h6 q hq;exact⟨z,hz,kk _ h7 _ h8 rfl⟩
             · cases h
           · cases h
       · split at h
         · cases h
         · rename_i y' l;have e':y'=y:=e;subst e';obtain⟨c,h4,h5⟩:=hu;cases h2.symm.trans h4
           split at h
           · rw[bA h];refine⟨a,h1,fun p hp=> ?_⟩;obtain⟨q,hq,h7⟩:=h3 p hp;exact mo_som.mpr ⟨q,h7,h5 q hq⟩
           · simp only[aP,aX] at h;rw[h.2.2];rw[h.2.1] at h5;refine⟨a,h1,fun p hp=> ?_⟩;obtain⟨q,hq,h7⟩:=h3 p hp;exact(B9 o h5 q hq).elim
     · cases h
 · cases h
end K22
namespace L2
open PySem PySem.Spec PyProof.Rows
def BN(bs:List Bool):(List.range bs.length).any (fun i=>(bs[i]?).getD false)=bs.any id:=by
 rw[gc,gE,gE];constructor
 · rintro⟨i,hi,q⟩;have hi':=cv.mp hi;rw[aq hi'] at q;exact⟨_,eK hi',q⟩
 · rintro⟨b,hb,q⟩;obtain⟨i,hi,e⟩:=eZ.mp hb;refine⟨i,cv.mpr hi,?_⟩;rw[aq hi,e];exact q
section
def Gb:jO X (binaryOp .Mult) (rI IntMulOk fun i j=> .int (i * j)):=Ke fun _ _ _ _ _ _ _ hc q=>mul_int q hc
def Cw(hc:X.calm=true):n_ X (.builtin "any") (fun xs H Q=>∃(p:Addr) (bs:List Bool),xs=[.ref p]/\SqL X.K H p (bs.map V.bl)/\Q (.bl (bs.any id)) H):=by
 intro pins s σ H xs us Q I r h;obtain⟨p,bs,rfl,hp,q⟩:=h;obtain⟨u,rfl,ru⟩:=r.one;cases ru;obtain⟨its,rv,pl,hz⟩:=I.list hp;have hh:X.A.in1.handled=none:=I.ok.hd hc;have hlt:p<s.heap.objs.size:=by obtain⟨_,e,_⟩:=pl.isList;exact aN e
 have hlen:its.length=bs.length:=by have:=rv.length;simpa using this.symm
 refine call_any_walk (yt pl.isList ⟨s.heap.objs.size,[s.heap.objs.size,p],[s.heap.objs.size],its.toArray.size,_,_,fun i=>(bs[i]?).getD false,rfl,Walks.list hh _ _ (bI hlt) its.toArray,⟨⟨_,a_ _ rfl,rfl,rfl⟩,pl.isList.push _⟩,?_,?_⟩)
 · intro i v s' Q' E' hv hq;have hv':its[i]? =some v:=by simpa using hv
   cases hb:bs[i]? with
   | none=>
     have z:bs.length<=i:=by simpa using hb
     rw[iW (by lia)] at hv';cases hv'
   | some b=>
     obtain⟨u,hu,ru⟩:=rv.get (i:=i) (x:=V.bl b) (by rw[aH,hb];rfl);rw[hv'] at hu;cases hu;obtain rfl:v=Value.bool b:=ru;have hq':Q' b s':=by
      have z:(fun i=>(bs[i]?).getD false) i=b:=by simp[hb]
      rw[z] at hq;exact hq
     exact cW hq'
 · intro h' tk hk;have I1:Inv X pins σ H {s with heap:=h',toks:=tk}:=I.kept fun b o e=>hk b o (fun z=>by
    have z':b=s.heap.objs.size:=by simpa using z
    exact absurd (z' ▸ aN e) (gg _)) (aC _ e)
   refine⟨.bl (bs.any id),H,I1,?_,q⟩;show Value.bool _=Value.bool _;rw[aV,hlen,BN]
end
end L2
namespace K22
open PySem L2
def MW:((qql10:List Str)++(["_law_others"]:List Str)).Nodup:=by decide+kernel
def MV:((["_law_pair"]:List Str)++(qql10:List Str)).Nodup:=by decide+kernel
theorem kI:∀{ds:List Tx} {xs:List V},Xas H ds xs->xs.length=ds.length
 | [],_,h=>by rw[show _=[] from h];rfl
 | _::_,_,⟨_,_,e,_,h⟩=>by rw[e];exact congrArg (· +1) (kI h)
theorem mN:∀{ds:List Tx} {xs:List V} {i:Nat} {x:V},Xas H ds xs->xs[i]? =some x->∃d,ds[i]? =some d/\Xa H d x
 | [],_,i,x,h,e=>by rw[show _=[] from h] at e;simp at e
 | d::ds,xs,0,x,h,e=>by obtain⟨y,r,rfl,h,_⟩:=h;cases e;exact⟨d,rfl,h⟩
 | d::ds,xs,i+1,x,h,e=>by obtain⟨y,r,rfl,_,h⟩:=h;exact mN (ds:=ds) (i:=i) h e
def En{α:Type}(g:α->Bool)(l:List α)(k:Nat):((l.take k).filter g).length<=k:=ai (iV _ _) (by rw[cw];exact Fj _ _)
noncomputable abbrev iv(l:List Int):List V:=l.map V.int
noncomputable def pq(q:Int × Int):Tx:= .tup [.int q.1,.int q.2]
theorem jP:∀l,Xas H (l.map Tx.int) (iv l)
 | []=>rfl
 | x::l=>⟨_,_,rfl,rfl,jP l⟩
def Du(h:Xa H (pq q) v):∃t,v= .ref t/\H t=some (.tup [.int q.1,.int q.2]):=by
 obtain⟨p,xs,rfl,hp,x1,r1,rfl,e1,x2,r2,rfl,e2,e3⟩:=h;obtain rfl:x1= .int q.1:=e1;obtain rfl:x2= .int q.2:=e2;obtain rfl:r2=[]:=e3;exact⟨p,rfl,hp⟩
inductive uc(vs:List V)(H:Hp)(Q:VK):Prop
 | mk:∀a b xs ys ds es,(vs=[.ref a,.ref b])->(H a=some (.lst xs))->(H b=some (.lst ys))->(∀H',Same H H'->Xas H' ds xs/\Xas H' es ys)->(∀d∈es,d.dp<=60)->(ds.length<=1000)->(∀H',Same H H'->Q (.bl (ds.all fun d=>decide (d∈es))) H')->uc vs H Q
def uO:Sp:=fun vs H Q _=>uc vs H Q
inductive wL(vs:List V)(H:Hp)(Q:VK):Prop
 | mk:∀(a:Addr) (p:Int) (xs:List V) (l:List (Int × Int)),(vs=[.ref a,.int p])->(H a=some (.lst xs))->(∀H',Same H H'->Xas H' (l.map pq) xs)->(l.length<=1000)->(∀D H',Same H H'->H' D=some (.lst (iv ((l.filter fun q=>decide (q.1=p)).map (·.2))))->Q (.ref D) H')->wL vs H Q
def yD:Sp:=fun vs H Q _=>wL vs H Q
section
def FX:bw ue ue (aM yZ):=gH
def D6(F:Fun K "_law_all_of" "_law_all_of" yZ f fd)(ma:mg "all"=none):b_ P w K mg base eU 1 f fd ue uO:=by
 refine F.o FX fun cdv A outer s H vs Q E hr h=> ?_;obtain⟨a,b,xs,ys,ds,es,rfl,ha,hb,hxy,he,hl,q⟩:=h;refine⟨_,bg (cK (fC (kY rfl) rfl ma iU (eR (fg qql10 ["_law_others"] [1] rfl (bT aD) (fun _ _ _=>eV 0 MW) (fun _ _ _=>fb) (fun _ _ _=>(Ft (Ja hr.units) aD bf)))))),?_⟩;refine⟨⟨_,SqL.of ha⟩,fun D hD=> ?_⟩;have lx:=kI (hxy H (fun _ _ e=>e)).1;refine fD xs.length (fun k σ H3=>(∃o,σ=[o,some (.ref b)])/\Same H H3/\H3 D=some (.lst (((ds.take k).map fun d=>decide (d∈es)).map V.bl))) ⟨⟨_,rfl⟩,aj hD _,upd_same⟩ ?_ ?_
 · rintro σ H3 ⟨_,s3,e3⟩;refine⟨⟨_,SqL.of (s3 _ _ ha),ar _⟩,?_⟩;refine⟨D,_,rfl,SqL.of e3,?_⟩;rw[lx,aY,zY];exact q H3 s3
 · rintro k σ H3 hk ⟨⟨o,rfl⟩,s3,e3⟩;have ha3:=s3 _ _ ha;refine⟨⟨_,_,SqL.of ha3,aq hk⟩,?_⟩;rintro x H4 ⟨rfl,hx1⟩;have hx2:=hx1 _ (SqL.of ha3);obtain⟨x3,y3⟩:=hxy _ s3;obtain⟨d,hd,xd⟩:=mN x3 hx2;refine⟨b,d,ys,es,rfl,s3 _ _ hb,y3,xd,he,_,e3,bH (by rw[ae,ae,cw];lia),⟨_,rfl⟩,bR s3 hD,?_⟩;rw[upd_same,bx,hd];simp
def IC:bw ud ud (aM Df):=gH
def Gj(F:Fun K "_law_next" "_law_next" Df f fd):b_ P w K mg base eU 1 f fd ud yD:=by
 refine F.o IC fun cdv A outer s H vs Q E hr h=> ?_;obtain⟨a,p,xs,l,rfl,ha,hx,hl,q⟩:=h;refine⟨_,bg (cK (fg ["_law_pair"] qql10 [1] rfl (bT aD) (fun _ _ _=>eV 0 MV) (fun _ _ _=>ny (eX cT (oA (r:=BP K) gm aD aw) bf)) (fun _ _ _=>(oA (r:=BP K) gm aD aw)))),?_⟩;refine⟨⟨_,SqL.of ha⟩,fun D hD=> ?_⟩;have lx:=kI (hx H (fun _ _ e=>e));rw[ae] at lx;refine fD xs.length (fun k σ H3=>(∃o,σ=[o,some (.int p)])/\Same H H3/\H3 D=some (.lst (iv (((l.take k).filter fun q=>decide (q.1=p)).map (·.2))))) ⟨⟨_,rfl⟩,aj hD _,upd_same⟩ ?_ ?_
 · rintro σ H3 ⟨_,s3,e3⟩;refine⟨⟨_,SqL.of (s3 _ _ ha),ar _⟩,?_⟩;rw[lx,aY] at e3;exact q D H3 s3 e3
 · rintro k σ H3 hk ⟨⟨o,rfl⟩,s3,e3⟩;have ha3:=s3 _ _ ha;refine⟨⟨_,_,SqL.of ha3,aq hk⟩,?_⟩;rintro x H4 ⟨rfl,hx1⟩;have hx2:=hx1 _ (SqL.of ha3);obtain⟨d,hd,xd⟩:=mN (hx _ s3) hx2;rw[aH] at hd;obtain⟨z,hz,rfl⟩:=aQ.mp hd;obtain⟨t,rfl,ht⟩:=Du xd;refine⟨_,_,SqT.of ht,rfl,?_⟩;show if decide (V.int z.1=V.int p)=true then _ else _
   have tk:∀(g:Int × Int->Bool),((l.take (k+1)).filter g)=(l.take k).filter g++if g z=true then [z] else []:=fun g=>by
    rw[bx,hz,ie];cases e:g z<;>simp[e]
   by_cases e:z.1=p
   · rw[aE (ah (by rw[e]))];refine⟨_,_,SqT.of ht,rfl,_,e3,bH (by rw[ae,ae];exact ai (En _ _ _) (show k<=1000 by lia)),⟨_,rfl⟩,bR s3 hD,?_⟩;rw[upd_same,tk,aE (ah e)];simp only[iv,aZ]
     rfl
   · rw[aA (by rw[aX];exact fun z=>e (by injection z))];refine⟨⟨_,rfl⟩,s3,?_⟩;rw[tk,aA (by rw[aX];exact e),jN];exact e3
end
def Jz(K:Frag):kitOne K (.type "str") (.type "tuple")=some false:=by first | rfl | decide | with_unfolding_all rfl
def MX:((qql10:List Str)++(["_law_inner"]:List Str)).Nodup:=by decide+kernel
structure IsW(H:Hp)(v:V)(W:Wo):Prop where
 ex:∃(t a b c:Addr) (ka kb kc:List (Key × V)),v= .ref t/\H t=some (.tup [.int (W.n:Int),.ref a,.ref b,.ref c])/\H a=some (.dK ka)/\H b=some (.dK kb)/\H c=some (.dK kc)/\(∀x l,W.kd x=some l->∃p,cB ka (.inr x)=some (.ref p)/\H p=some (.lst (iv l)))/\(∀x,W.kd x=none->cB ka (.inr x)=none)/\(∀x l,W.pr x=some l->∃p xs,cB kb (.inr x)=some (.ref p)/\H p=some (.lst xs)/\∀H',Same H H'->Xas H' (l.map pq) xs)/\(∀x,W.pr x=none->cB kb (.inr x)=none)/\(∀x,cB kc (.inr x)=(W.hm x).map V.int)
def Same.trans'(s:Same a b)(t:Same b c):Same a c:=fun x o e=>t x o (s x o e)
def IsW.same(h:IsW H v W)(s:Same H H'):IsW H' v W:=by
 obtain⟨t,a,b,c,ka,kb,kc,rfl,ht,ha,hb,hc,k1,k2,p1,p2,m⟩:=h.ex;refine⟨t,a,b,c,ka,kb,kc,rfl,s _ _ ht,s _ _ ha,s _ _ hb,s _ _ hc,fun x l e=> ?_,k2,fun x l e=> ?_,p2,m⟩
 · obtain⟨p,e1,e2⟩:=k1 x l e;exact⟨p,e1,s _ _ e2⟩
 · obtain⟨p,xs,e1,e2,e3⟩:=p1 x l e;exact⟨p,xs,e1,s _ _ e2,fun H2 s2=>e3 H2 (Same.trans' s s2)⟩
structure Wo.Sm(W:Wo):Prop where
 n:W.n<=100
 kd:∀x l,W.kd x=some l->l.length<=100
 pr:∀x,(W.prs x).length<=100
theorem vg(A:List Int):∀(qs:List (Int × Int)) (m:List Int),(qs.foldl (put1 A) m).length<=m.length+qs.length
 | [],m=>ar _
 | q::qs,m=>by
   rw[dN];refine ai (vg A qs _) ?_;have:(put1 A m q).length<=m.length+1:=by
    unfold put1
    split
    · rw[ak];exact ar _
    · lia
   rw[bj];lia
theorem pZ{W:Wo}(s:W.Sm):∀k,(W.of k).length<=100
 | .nm t=>by
   rw[Wo.of]
   split
   · rw[ae,d6];exact s.n
   · cases e:W.kd t with
     | none=>exact av _
     | some l=>exact s.kd t l e
 | .two a b=>by
   rw[Wo.of];exact ai (iV _ _) (pZ s a)
 | .som r c=>by
   rw[Wo.of];have h1:=vg (W.of c) (W.prs r) [];have h2:=s.pr r;exact ai h1 (by rw[dM];lia)
theorem xX(x:Int):∀l:List Int,wj (.int x) (iv l)=decide (x∈l)
 | []=>by simp[wj]
 | y::l=>by
   have ih:=xX x l;unfold wj iv at ih⊢;rw[bM,gh,ih];by_cases c:y=x
   · subst c;simp[Bu]
   · have c':¬ x=y:=fun z=>c z.symm;simp[Bu,c,c']
theorem nM:∀l:List Int,(iv l).all jJ=true
 | []=>rfl
 | _::l=>by unfold iv;rw[bM,fm];exact(aP _ _).mpr ⟨rfl,nM l⟩
inductive C1(n:Nat)(vs:List V)(H:Hp)(Q:VK):Prop
 | mk:∀v u W k,(vs=[v,u])->(IsW H v W)->(W.Sm)->(IsK H k u)->(k.dep<n)->(k.dep<=60)->(∀D H',Same H H'->H' D=some (.lst (iv (W.of k)))->Q (.ref D) H')->C1 n vs H Q
def uM(n:Nat):Sp:=fun vs H Q _=>C1 n vs H Q
section
def scOf:bw ["_law_world_here","_law_kind_here","_law_inner","_law_made","_law_p","_law_q"] lM (aM LX):=gH
def KU(hk0:1<=k0)(F:Fun K "_law_of" "_law_of" LX f fd)(Gof:Cl P w K mg base k0 "_law_of" lM (uM n))(mi:mg "isinstance"=none)(mt:mg "tuple"=none)(mls:mg "list"=none)(mr:mg "range"=none):b_ P w K mg base eU (k0+1) f fd lM (uM (n+1)):=by
 refine F.o scOf fun cdv A outer s H vs Q E hr h=> ?_;obtain⟨v,u,W,k,rfl,hW,sm,ik,hd,hd6,q⟩:=h;have hu:=fL hr;refine⟨_,ba (bL (eX (DK hr.units) bf bq) (bg (cK (vo rfl rfl mr rfl mls (eh aD)))) be)
  (ba (bL (gi (d4 (yr mi mt ij bf))) (bg (cK (pP hu (eh aD) bf (bS cf)))) be)
  (ba (fR 2 scOf.nd (dG Gof hr (dO aD (eh bf))))
  (ba (bL (eX cT (eh bf) bq) (bg (cK (fg qql10 ["_law_inner"] [2] rfl (bT (dG Gof hr (dO aD (eh bf)))) (fun _ _ _=>eV 0 MX) (fun _ _ _=>ny (eX (r:=KQ K false) oG aD bf)) (fun _ _ _=>aD)))) be)
  (ba (fR 3 scOf.nd (bS cf))
  (ba (lO (bT (pP hu (eh aD) (eh bf) (bS cf))) (eY rfl (bG (eV 4 scOf.nd) (bG (eV 5 scOf.nd) dX))) (bg (bL (PW.pt (mh (eX oG ee bJ) (kK (eX gj cG cE)))) (bg (bC (DE cE cG))) be)))
  (bg (cK cE))))))),?_⟩
 have xk:=ik.xa;refine⟨k.tx,.str "anything",xk,rfl,by rw[Kd.tx_dp];exact hd6,?_⟩;by_cases hany:k= .nm "anything"
 · subst hany;rw[show decide (Kd.tx (.nm "anything")= .str "anything")=true from ah rfl];obtain⟨t,a,b,c,ka,kb,kc,rfl,ht,ha,hb,hc,k1,k2,p1,p2,m⟩:=hW.ex;refine⟨_,_,SqT.of ht,rfl,W.n,rfl,ai sm.n (by decide),fun D hD=>q D _ (aj hD _) ?_⟩;rw[upd_same,Wo.of,aE rfl];simp only[iv,iF]
   rfl
 rw[show decide (k.tx= .str "anything")=false from ag fun z=>hany (Kd.tx_inj z)];cases k with
 | nm x=>
   obtain rfl:u= .str x:=ik;refine⟨_,_,_,false,rfl,TyOf.str x,Jz K,?_⟩;obtain⟨t,a,b,c,ka,kb,kc,rfl,ht,ha,hb,hc,k1,k2,p1,p2,m⟩:=hW.ex;have hx:x≠"anything":=fun z=>hany (by rw[z]);refine⟨_,_,SqT.of ht,rfl,.inl ⟨_,.inl ha⟩,av _,fun D hD=> ?_⟩;have sD:=aj hD (.lst []);refine⟨_,DGet.k (k:= .inr x) (sD _ _ ha),?_⟩;cases e:W.kd x with
   | none=>
     rw[k2 x e];refine q D _ sD ?_;rw[upd_same,Wo.of,aA hx,e];rfl
   | some l=>
     obtain⟨p,e1,e2⟩:=k1 x l e;rw[e1];refine q p _ sD ?_;rw[sD _ _ e2,Wo.of,aA hx,e];rfl
 | two a' b'=>
   obtain⟨p,x,y,rfl,hp,ia,ib⟩:=ik;have hd':a'.dep<n/\b'.dep<n:=by simp only[Kd.dep] at hd;lia
   have hd6':a'.dep<=60/\b'.dep<=60:=by simp only[Kd.dep] at hd6;lia
   refine⟨_,_,_,true,rfl,TyOf.tup hp,mx K,?_⟩;refine⟨_,_,SqT.of hp,aJ (j:=2) rfl,v,y,W,b',rfl,hW,sm,ib,hd'.2,hd6'.2,fun D1 H1 s1 e1=> ?_⟩;refine⟨_,_,SqT.of (s1 _ _ hp),aJ (j:=0) rfl,?_⟩;refine⟨_,_,SqT.of (s1 _ _ hp),aJ (j:=1) rfl,v,x,W,a',rfl,hW.same s1,sm,IsK.mono (fun b xs h=>s1 _ _ h) ia,hd'.1,hd6'.1,fun D2 H2 s2 e2=> ?_⟩;refine⟨⟨_,SqL.of e2⟩,fun D hD=> ?_⟩;have s02:Same H H2:=Same.trans' s1 s2;refine fD (W.of a').length (fun k σ H3=>(∃o,σ=[o,some (.ref D1)])/\Same H2 H3/\H3 D=some (.lst (iv (((W.of a').take k).filter fun p=>decide (p∈W.of b'))))) ⟨⟨_,rfl⟩,aj hD _,upd_same⟩ ?_ ?_
   · rintro σ H3 ⟨_,s3,e3⟩;refine⟨⟨_,SqL.of (s3 _ _ e2),by rw[ae];exact ar _⟩,?_⟩;rw[aY] at e3;exact q D H3 (Same.trans' s02 s3) (by rw[e3,Wo.of])
   · rintro k σ H3 hk ⟨⟨o,rfl⟩,s3,e3⟩;have ha3:=s3 _ _ e2;refine⟨⟨_,_,SqL.of ha3,aq (by rw[ae];exact hk)⟩,?_⟩;rintro x H4 ⟨rfl,hx1⟩;have hx2:=hx1 _ (SqL.of ha3);rw[aH] at hx2;obtain⟨z,hz,rfl⟩:=aQ.mp hx2;have tk:∀(g:Int->Bool),(((W.of a').take (k+1)).filter g)=((W.of a').take k).filter g++if g z=true then [z] else []:=fun g=>by
      rw[bx,hz,ie];cases e:g z<;>simp[e]
     refine⟨D1,_,rfl,.inl (SqL.of (s3 _ _ (s2 _ _ e1))),rfl,nM _,?_⟩;have hl:=pZ sm a';rw[xX];by_cases e:z∈W.of b'
     · rw[ah e];refine⟨_,e3,bH (by rw[ae];exact ai (En _ _ _) (show k<=1000 by lia)),⟨_,rfl⟩,bR s3 hD,?_⟩;rw[upd_same,tk,aE (ah e)];simp only[iv,aZ]
       rfl
     · rw[ag e];refine⟨⟨_,rfl⟩,s3,?_⟩;rw[tk,aA (by rw[aX];exact e),jN];exact e3
 | som r c'=>
   obtain⟨p,y,rfl,hp,ic⟩:=ik;have hd':c'.dep<n:=by simp only[Kd.dep] at hd;lia
   have hd6':c'.dep<=60:=by simp only[Kd.dep] at hd6;lia
   refine⟨_,_,_,true,rfl,TyOf.tup hp,mx K,?_⟩;refine⟨_,_,SqT.of hp,aJ (j:=2) rfl,v,y,W,c',rfl,hW,sm,ic,hd',hd6',fun D1 H1 s1 e1=> ?_⟩;refine⟨_,_,SqT.of (s1 _ _ hp),aJ (j:=0) rfl,?_⟩;obtain⟨t,a,b,c,ka,kb,kc,rfl,ht,ha,hb,hc,k1,k2,p1,p2,m⟩:=(hW.same s1).ex;refine⟨av _,fun D hD=> ?_⟩;have sD:=aj hD (.lst []);refine⟨_,_,SqT.of (sD _ _ ht),rfl,.inl ⟨_,.inl (sD _ _ hb)⟩,_,_,SqT.of (sD _ _ (s1 _ _ hp)),aJ (j:=1) rfl,av _,fun D2 hD2=> ?_⟩;have sD2:=aj hD2 (.lst []);have nD:D2≠D:=fun z=>by rw[z,upd_same] at hD2;cases hD2
   refine⟨_,DGet.k (k:= .inr r) (sD2 _ _ (sD _ _ hb)),?_⟩;have eD:upd (upd H1 D (.lst [])) D2 (.lst []) D=some (.lst []):=by rw[aB (br nD)];exact upd_same
   have s3:Same H1 (upd (upd H1 D (.lst [])) D2 (.lst [])):=Same.trans' sD sD2;obtain⟨pl,xs,l,ev,epl,hx,el,npl⟩:∃pl xs l,(cB kb (.inr r)).getD (.ref D2)= .ref pl/\upd (upd H1 D (.lst [])) D2 (.lst []) pl=some (.lst xs)/\(∀H',Same H1 H'->Xas H' (l.map pq) xs)/\W.prs r=l/\pl≠D:=by
    cases e:W.pr r with
    | none=>exact⟨D2,[],[],by rw[p2 r e];rfl,upd_same,fun _ _=>rfl,by unfold Wo.prs;rw[e];rfl,nD⟩
    | some l=>
      obtain⟨pp,xs,e1,e2,e3⟩:=p1 r l e;exact⟨pp,xs,l,by rw[e1];rfl,s3 _ _ e2,e3,by unfold Wo.prs;rw[e];rfl,fun z=>by rw[z,hD] at e2;cases e2⟩
   rw[ev];generalize upd (upd H1 D (.lst [])) D2 (.lst [])=H3 at eD s3 epl⊢;have lx:=kI (hx H3 s3);rw[ae] at lx;have ll:=sm.pr r;rw[el] at ll;refine⟨⟨_,SqL.of epl⟩,ck (xs:=xs) (fun i σ H'=>∃(o4 o5:Option V),σ=[some (.ref t),some (.ref p),some (.ref D1),some (.ref D),o4,o5]/\Same H1 H'/\H' pl=some (.lst xs)/\H' D=some (.lst (iv ((l.take i).foldl (put1 (W.of c')) [])))) ⟨none,none,rfl,s3,epl,eD⟩ ?_ ?_ ?_⟩
   · rintro i σ H' _ ⟨o4,o5,rfl,s4,e4,_⟩;exact SqL.of e4
   · rintro i x σ H' hxi ⟨o4,o5,rfl,s4,e4,e5⟩;obtain⟨d,hd1,xd⟩:=mN (hx _ s4) hxi;rw[aH] at hd1;obtain⟨z,hz,rfl⟩:=aQ.mp hd1;obtain⟨tz,rfl,htz⟩:=Du xd;refine⟨_,SqT.of htz,rfl,?_⟩;have st:(l.take (i+1)).foldl (put1 (W.of c')) []=put1 (W.of c') ((l.take i).foldl (put1 (W.of c')) []) z:=by
      rw[bx,hz,e_];rfl
     have hml:((l.take i).foldl (put1 (W.of c')) []).length<=100:=by
      have h1:=vg (W.of c') (l.take i) [];rw[cw,dM] at h1
      lia
     generalize (l.take i).foldl (put1 (W.of c')) []=M at e5 st hml;rw[st];refine⟨D1,_,rfl,.inl (SqL.of (s4 _ _ e1)),rfl,nM _,?_⟩;rw[xX];unfold put1;by_cases e:z.2∈W.of c'
     · rw[ah e];refine⟨D,_,rfl,.inl (SqL.of e5),rfl,nM _,?_⟩;rw[xX];by_cases e':z.1∈M
       · rw[ah e'];exact⟨_,_,rfl,s4,e4,by rw[aA (fun z=>z.2 e')];exact e5⟩
       · rw[ag e'];refine⟨.inl ⟨rfl,_,SqL.of e5⟩,_,e5,bH (by rw[ae];lia),?_⟩;refine⟨_,_,rfl,bR s4 hD,by rw[aB npl];exact e4,?_⟩;rw[upd_same,aE ⟨e,e'⟩];simp only[iv,aZ]
         rfl
     · rw[ag e];exact⟨_,_,rfl,s4,e4,by rw[aA (fun z=>e z.1)];exact e5⟩
   · rintro σ H' ⟨o4,o5,rfl,s4,e4,e5⟩;rw[lx,aY] at e5;exact q D H' (Same.trans' s1 s4) (by rw[e5,Wo.of,el])
def Gx:b_ P w K mg base eU 1 f fd lM (uM 0):=by
 have no:∀vs H Q E,¬ uM 0 vs H Q E:=fun vs H Q E h=>by
  obtain⟨v,u,W,k,_,_,_,_,h,_⟩:=h
  lia
 exact⟨fun vs H Q E h=>absurd h (no vs H Q E),fun A outer s H args us vs Q E _ _ _ _ h=>absurd h (no vs H Q E)⟩
theorem D8(A:Fq K mg "_law_of" LX lM)(mi:mg "isinstance"=none)(mt:mg "tuple"=none)(mls:mg "list"=none)(mr:mg "range"=none):∀n:Nat,Cl P w K mg base (n+1) "_law_of" lM (uM n)
 | 0=>A.cl fun _=>Gx
 | n+1=>A.cl fun F=>KU (by lia) F (D8 A mi mt mls mr n) mi mt mls mr
end
def MU:((["_law_q"]:List Str)++(["_law_there"]:List Str)).Nodup:=by decide+kernel
inductive tS(vs:List V)(H:Hp)(Q:VK):Prop
 | mk:∀v u W k,(vs=[v,u])->(IsW H v W)->(W.Sm)->(IsK H k u)->(lg k)->(k.dep<=30)->(W.meant k=none->∀H',Same H H'->Q .non H')->(∀l,W.meant k=some l->∀D H',Same H H'->H' D=some (.lst (iv l))->Q (.ref D) H')->tS vs H Q
def qe:Sp:=fun vs H Q _=>tS vs H Q
def kQ{W:Wo}(s:W.Sm){k:Kd}{l:List Int}(h:W.meant k=some l):l.length<=100:=by
 unfold Wo.meant at h
 split at h
 · cases k with
   | nm t=>
     obtain⟨z,e,rfl⟩:=aQ.mp h;show 1<=100
     decide
   | two a b=>cases h
   | som r c=>cases h
 · cases h;exact pZ s k
section
def FS:bw q_ q_ (aM yU):=gH
def DU(F:Fun K "_law_meant" "_law_meant" yU f fd)(mi:mg "isinstance"=none)(ms:mg "str"=none)(Gof:Cl P w K mg base 32 "_law_of" lM (uM 31)):b_ P w K mg base eU 33 f fd q_ qe:=by
 refine F.o FS fun cdv A outer s H vs Q E hr h=> ?_;obtain⟨v,u,W,k,rfl,hW,sm,ik,hl,hd,q0,q1⟩:=h;have hu:=fL hr;refine⟨_,ba (bL (PW.pt (mh (d4 (yr mi ms cm bf)) (kK (d4 (DD PySem.F.plainAttrs_str PySem.F.slot_str_isupper PySem.F.type_str_isupper zw (eI jY bf fT (fe aw))))))) (bg (cK (xr (eX (mn hu) bf (eh aD)) (bS (eR (wg hu (eh aD) bf))) ej))) be)
  (bg (cK (dG Gof hr (dO aD bf)))),?_⟩
 have rest:cF k=false->uM 31 [v,u] H Q E0:=fun hs=>⟨v,u,W,k,rfl,hW,sm,ik,by lia,by lia,fun D H' sH e=>q1 _ (nF hs) D H' sH e⟩;cases k with
 | nm x=>
   obtain rfl:u= .str x:=ik;have hx:x.length<=sizeLine:=bz hl;refine⟨_,_,_,true,rfl,TyOf.str x,dR K,1,rfl,x,rfl,hx,rfl,_,rfl,rfl,?_⟩;by_cases hs:cF (.nm x)=true
   · have hs':Txt.isupper (Txt.slice x none (some 1))=true:=hs;obtain⟨t,a,b,c,ka,kb,kc,rfl,ht,ha,hb,hc,k1,k2,p1,p2,m⟩:=hW.ex;have me:W.meant (.nm x)=(W.hm x).map fun h=>[h]:=by unfold Wo.meant;rw[aE hs]
     show if Txt.isupper (Txt.slice x none (some 1))=true then _ else _
     rw[aE hs'];refine⟨_,_,SqT.of ht,aJ (j:=3) rfl,c,_,rfl,DGet.k (k:= .inr x) hc,?_⟩;cases e:W.hm x with
     | none=>
       rw[e] at me;rw[show cB kc (.inr x)=none by rw[m x,e];rfl];exact q0 me H (fun _ _ e=>e)
     | some z=>
       rw[e] at me;have ev:cB kc (.inr x)=some (.int z):=by rw[m x,e];rfl
       rw[ev];refine⟨_,_,SqT.of ht,aJ (j:=3) rfl,.int z,?_,(by show 1<=sizeLine;exact bz (by decide)),fun D hD=>q1 [z] me D _ (aj hD _) upd_same⟩;rw[<-ev];exact DGet.k (k:= .inr x) hc
   · have hs':cF (.nm x)=false:=by cases e:cF (.nm x)<;>first | rfl | exact absurd e hs
     show if Txt.isupper (Txt.slice x none (some 1))=true then _ else _
     rw[aA (show ¬ Txt.isupper (Txt.slice x none (some 1))=true from hs)];exact rest hs'
 | two a b=>
   obtain⟨p,x,y,rfl,hp,_,_⟩:=id ik;exact⟨_,_,_,false,rfl,TyOf.tup hp,cY K,rest rfl⟩
 | som r c=>
   obtain⟨p,y,rfl,hp,_⟩:=id ik;exact⟨_,_,_,false,rfl,TyOf.tup hp,cY K,rest rfl⟩
inductive AB(vs:List V)(H:Hp)(Q:VK):Prop
 | mk:∀v u u' t W x y,(vs=[v,u,.str t,u'])->(IsW H v W)->(W.Sm)->(IsK H x u)->(lg x)->(x.dep<=30)->(IsK H y u')->(lg y)->(y.dep<=30)->(∀(b:Bool) H',Same H H'->(b=true↔W.holds (.has x t y))->Q (.bl b) H')->AB vs H Q
def C3:Sp:=fun vs H Q _=>AB vs H Q
def xG{l:List (Int × Int)}(z:Int)(h:l.length<=100):((l.filter fun q=>decide (q.1=z)).map (·.2)).length<=100:=by
 rw[ae];exact ai (iV _ _) h
def F4{H:Hp}{v:V}{W:Wo}(hW:IsW H v W)(t:Str){D:Addr}(hD:H D=some (.lst [])):∃tt a b c pl kb xs,v= .ref tt/\H tt=some (.tup [.int (W.n:Int),.ref a,.ref b,.ref c])/\H b=some (.dK kb)/\(cB kb (.inr t)).getD (.ref D)= .ref pl/\H pl=some (.lst xs)/\∀H',Same H H'->Xas H' ((W.prs t).map pq) xs:=by
 obtain⟨tt,a,b,c,ka,kb,kc,rfl,ht,ha,hb,hc,k1,k2,p1,p2,m⟩:=hW.ex;refine⟨tt,a,b,c,?_⟩;cases e:W.pr t with
 | none=>exact⟨D,kb,[],rfl,ht,hb,by rw[p2 t e];rfl,hD,fun _ _=>by unfold Wo.prs;rw[e];rfl⟩
 | some l=>
   obtain⟨pp,xs,e1,e2,e3⟩:=p1 t l e;exact⟨pp,kb,xs,rfl,ht,hb,by rw[e1];rfl,e2,fun H' s=>by unfold Wo.prs;rw[e];exact e3 H' s⟩
def scHas:bw ["_law_world_here","_law_x","_law_tie","_law_y","_law_here","_law_there","_law_p"] xj (aM IH):=gH
def Jg(F:Fun K "_law_has" "_law_has" IH f fd)(man:mg "any"=none)(Gme:Cl P w K mg base 33 "_law_meant" q_ qe)(Gnx:Cl P w K mg base 1 "_law_next" ud yD):b_ P w K mg base eU 34 f fd xj C3:=by
 refine F.o scHas fun cdv A outer s H vs Q E hr h=> ?_;obtain⟨v,u,u',t,W,x,y,rfl,hW,sm,ix,lx,dx,iy,ly,dy,q⟩:=h;have hu:=fL hr;refine⟨_,ba (fR 4 scHas.nd (dG Gme hr (dO aD bf)))
  (ba (fR 5 scHas.nd (dG Gme hr (dO aD cE)))
  (ba (bL (PW.pt (nv (eX vr cG ej) (oz (eX vr ee ej)))) (bg (cK eQ)) be)
  (ba (lO (bT cG) (eV 6 scHas.nd) (bg (bL (gi (d4 (fC (Cw rfl) rfl man PyProof.Rows.boot_any (eR (fg ["_law_q"] ["_law_there"] [5] rfl (bT (dG Gnx hr (dO (pP hu (eh aD) bJ (bS cf)) eW))) (fun _ _ _=>eV 0 MU) (fun _ _ _=>fb) (fun _ _ _=>(Ft (r:=KQ K false) oG aD bf))))))) (bg (cK eQ)) be)))
  (bg (cK eQ))))),?_⟩
 have tN:decide (V.non=V.non)=true:=ah rfl;have tR:∀a:Addr,decide (V.ref a=V.non)=false:=fun a=>ag fun z=>by cases z
 refine⟨v,u,W,x,rfl,hW,sm,ix,lx,dx,fun e1 H1 s1=> ?_,fun l1 e1 D1 H1 s1 h1=> ?_⟩
 · have no:∀H2,Same H H2->Q (.bl false) H2:=fun H2 s2=>q false H2 s2 ⟨fun h=>(aO h).elim,fun⟨l,m,h,_⟩=>by rw[e1] at h;cases h⟩;refine⟨v,u',W,y,rfl,hW.same s1,sm,IsK.mono (fun b xs h=>s1 _ _ h) iy,ly,dy,fun e2 H2 s2=> ?_,fun l2 e2 D2 H2 s2 h2=> ?_⟩
   · refine⟨rfl,?_⟩;rw[tN];exact no H2 (Same.trans' s1 s2)
   · refine⟨rfl,?_⟩;rw[tN];exact no H2 (Same.trans' s1 s2)
 refine⟨v,u',W,y,rfl,hW.same s1,sm,IsK.mono (fun b xs h=>s1 _ _ h) iy,ly,dy,fun e2 H2 s2=> ?_,fun l2 e2 D2 H2 s2 h2=> ?_⟩
 · refine⟨rfl,?_⟩;rw[tR];refine⟨rfl,?_⟩;rw[tN];exact q false H2 (Same.trans' s1 s2) ⟨fun h=>(aO h).elim,fun⟨l,m,_,h,_⟩=>by rw[e2] at h;cases h⟩
 refine⟨rfl,?_⟩;rw[tR];refine⟨rfl,?_⟩;rw[tR];have s02:=Same.trans' s1 s2;have len1:=kQ sm e1;have len2:=kQ sm e2;have lenp:=sm.pr t;refine⟨⟨_,SqL.of (s2 _ _ h1)⟩,ck (xs:=iv l1) (fun i σ H'=>∃o,σ=[some v,some u,some (.str t),some u',some (.ref D1),some (.ref D2),o]/\Same H2 H'/\∀p∈l1.take i,∃q∈l2,(p,q)∈W.prs t) ⟨none,rfl,fun _ _ e=>e,fun p hp=>by cases hp⟩ ?_ ?_ ?_⟩
 · rintro i σ H' _ ⟨o,rfl,s3,_⟩;exact SqL.of (s3 _ _ (s2 _ _ h1))
 · rintro i z' σ H' hz0 ⟨o,rfl,s3,al⟩;rw[aH] at hz0;obtain⟨z,hz,rfl⟩:=aQ.mp hz0;have s03:=Same.trans' s02 s3;have hW3:=hW.same s03;obtain⟨tt,_,b,_,ka,kb,kc,ev,ht,ha,hb,hc,_⟩:=hW3.ex;subst ev;refine⟨_,_,SqT.of ht,aJ (j:=2) rfl,.inl ⟨_,.inl hb⟩,av _,fun D hD=> ?_⟩;have sD:=aj hD (.lst []);refine⟨_,DGet.k (k:= .inr t) (sD _ _ hb),?_⟩;obtain⟨tt',_,b',_,pl,kb',xs,ev,ht',hb',e4,e5,e6⟩:=F4 (hW3.same sD) t upd_same;cases ev;have eb:b'=b:=by
    have:=(sD _ _ ht).symm.trans ht'
    injection this with this
    injection this with this
    simp only[bV,V.ref.injEq] at this;exact this.2.2.1.symm
   subst eb;have ek:kb'=kb:=by
    have:=(sD _ _ hb).symm.trans hb'
    injection this with this
    injection this with this
    exact this.symm
   subst ek;rw[e4];refine⟨pl,z,xs,W.prs t,rfl,e5,e6,by lia,fun D3 H3 s4 e7=>⟨⟨_,SqL.of e7⟩,fun D4 hD4=> ?_⟩⟩;have s34:=Same.trans' sD s4;have nl:=xG z lenp;generalize en:((W.prs t).filter fun q=>decide (q.1=z)).map (·.2)=N at e7 nl;refine fD N.length (fun k σ H5=>(∃o,σ=[o,some (.ref D2)])/\Same H3 H5/\H5 D4=some (.lst ((((N.take k).map fun q=>decide (q∈l2))).map V.bl))) ⟨⟨_,rfl⟩,aj hD4 _,upd_same⟩ ?_ ?_
   · rintro σ H5 ⟨_,s5,e8⟩;refine⟨⟨_,SqL.of (s5 _ _ e7),by rw[ae];exact ar _⟩,?_⟩;rw[aY] at e8;have s35:Same H2 H5:=Same.trans' s3 (Same.trans' s34 s5);refine⟨D4,_,rfl,SqL.of e8,?_⟩;have hany:((N.map fun q=>decide (q∈l2)).any id=true)↔∃q∈l2,(z,q)∈W.prs t:=by
      rw[List.any_map,gE,<-en];simp only[bK,gb,Function.comp,id,aX];constructor
      · rintro⟨x,⟨⟨a,b⟩,⟨h1,rfl⟩,rfl⟩,h2⟩;exact⟨_,h2,h1⟩
      · rintro⟨x,h1,h2⟩;exact⟨x,⟨_,⟨h2,rfl⟩,rfl⟩,h1⟩
     cases ea:(N.map fun q=>decide (q∈l2)).any id with
     | true=>
       refine⟨_,rfl,s35,fun p hp=> ?_⟩;rw[bx,hz] at hp;rcases ay.mp hp with hp | hp
       · exact al p hp
       · rw[show p=z by simpa using hp];exact hany.mp ea
     | false=>
       refine q false H5 (Same.trans' s02 s35) ⟨fun h=>(aO h).elim,fun⟨l,m,h1',h2',h3⟩=> ?_⟩;cases e1.symm.trans h1';cases e2.symm.trans h2';have:=hany.mpr (h3 z (au hz));rw[ea] at this;exact this
   · rintro k σ H5 hk ⟨⟨o,rfl⟩,s5,e8⟩;have ha3:=s5 _ _ e7;refine⟨⟨_,_,SqL.of ha3,aq (by rw[ae];exact hk)⟩,?_⟩;rintro x H6 ⟨rfl,hx1⟩;have hx2:=hx1 _ (SqL.of ha3);rw[aH] at hx2;obtain⟨n,hn,rfl⟩:=aQ.mp hx2;refine⟨D2,_,rfl,.inl (SqL.of (s5 _ _ (s34 _ _ (s3 _ _ h2)))),rfl,nM _,_,e8,bH (by rw[ae,ae,cw];lia),⟨_,rfl⟩,bR s5 hD4,?_⟩;rw[upd_same,bx,hn,xX];simp
 · rintro σ H' ⟨o,rfl,s3,al⟩;rw[ae,aY] at al;exact q true H' (Same.trans' s02 s3) ⟨fun _=>⟨l1,l2,e1,e2,al⟩,fun _=>rfl⟩
end
def MR:((["_law_z"]:List Str)++(qql10:List Str)).Nodup:=by decide+kernel
def Fa.ln:Fa->Prop
 | .is x _=>lg x
 | .has x _ y=>lg x/\lg y
inductive tY(vs:List V)(H:Hp)(Q:VK):Prop
 | mk:∀v u W f,(vs=[v,u])->(IsW H v W)->(W.Sm)->(IsF H f u)->(f.lo 30)->(f.ln)->(∀(b:Bool) H',Same H H'->(b=true↔W.holds f)->Q (.bl b) H')->tY vs H Q
def AA:Sp:=fun vs H Q _=>tY vs H Q
def zV(l m:List Int):((l.map Tx.int).all fun d=>decide (d∈m.map Tx.int))=true↔∀p∈l,p∈m:=by
 rw[zY,cP];simp only[Function.comp,aX,bK];constructor
 · intro h p hp;obtain⟨q,h1,h2⟩:=h p hp
   injection h2 with h2
   exact h2 ▸ h1
 · intro h p hp;exact⟨p,h p hp,rfl⟩
def ET(l:List Int):∀d∈l.map Tx.int,d.dp<=60:=fun d hd=>by
 obtain⟨p,_,rfl⟩:=bK.mp hd;exact av _
section
def scHolds:bw ["_law_world_here","_law_claim","_law_here"] A_ (aM yX):=gH
def DY(F:Fun K "_law_holds" "_law_holds" yX f fd)(Gme:Cl P w K mg base 33 "_law_meant" q_ qe)(Gha:Cl P w K mg base 34 "_law_has" xj C3)(Gao:Cl P w K mg base 1 "_law_all_of" ue uO)(Gof:Cl P w K mg base 32 "_law_of" lM (uM 31)):b_ P w K mg base eU 35 f fd A_ AA:=by
 refine F.o scHolds fun cdv A outer s H vs Q E hr h=> ?_;obtain⟨v,u,W,fa,rfl,hW,sm,iu,hlo,hln,q⟩:=h;refine⟨_,ba (bL (eX cT (eh bf) bq) (bg (cK (dG Gha hr (jz aD (eh bf) (eh bf) (eh bf))))) be) (ba (fR 2 scHolds.nd (dG Gme hr (dO aD (eh bf)))) (bg (cK (fX (Ft nB bJ ej) (iw (dG Gao hr (dO bJ (dG Gof hr (dO aD (eh bf)))))))))),?_⟩;cases fa with
 | has x t y=>
   obtain⟨p,a,b,rfl,hp,ia,ib⟩:=iu;refine⟨_,_,SqT.of hp,aJ (j:=0) rfl,?_⟩;exact⟨_,_,SqT.of hp,aJ (j:=1) rfl,_,_,SqT.of hp,aJ (j:=2) rfl,_,_,SqT.of hp,aJ (j:=3) rfl,v,a,b,t,W,x,y,rfl,hW,sm,ia,hln.1,hlo.1,ib,hln.2,hlo.2,q⟩
 | is x k=>
   obtain⟨p,a,b,rfl,hp,ia,ib⟩:=iu;refine⟨_,_,SqT.of hp,aJ (j:=0) rfl,?_⟩;have hd:k.dep<=30:=hlo.2;refine⟨_,_,SqT.of hp,aJ (j:=1) rfl,v,a,W,x,rfl,hW,sm,ia,hln,hlo.1,fun e1 H1 s1=> ?_,fun l1 e1 D1 H1 s1 h1=> ?_⟩
   · refine⟨rfl,?_⟩;rw[show(!decide (V.non=V.non))=false by simp];exact q false H1 s1 ⟨fun h=>(aO h).elim,fun⟨l,h,_⟩=>by rw[e1] at h;cases h⟩
   · refine⟨rfl,?_⟩;rw[show(!decide (V.ref D1=V.non))=true by simp];refine⟨_,_,SqT.of (s1 _ _ hp),aJ (j:=2) rfl,v,b,W,k,rfl,hW.same s1,sm,IsK.mono (fun b xs h=>s1 _ _ h) ib,by lia,by lia,fun D2 H2 s2 h2=> ?_⟩;refine⟨D1,D2,_,_,l1.map Tx.int,(W.of k).map Tx.int,rfl,s2 _ _ h1,h2,fun H' s=>⟨jP _,jP _⟩,ET _,by rw[ae];have:=kQ sm e1;lia,fun H3 s3=> ?_⟩;refine q _ H3 (Same.trans' s1 (Same.trans' s2 s3)) ((zV _ _).trans ⟨fun h=>⟨l1,e1,h⟩,fun⟨l,h,h'⟩=> ?_⟩);cases e1.symm.trans h;exact h'
end
noncomputable def Sy.tk:Sy->List Str
 | .within r s=>[r,s]
 | .makes r s t=>[r,s,t]
 | _=>[]
def Sy.up:Sy->Prop
 | .tied x _ _=>cF (.nm x)=true
 | _=>True
inductive wQ(vs:List V)(H:Hp)(Q:VK):Prop
 | mk:∀v u W s,(vs=[v,u])->(IsW H v W)->(W.Sm)->(IsSy H s u)->(∀k∈s.parts,k.dep<=29/\lg k)->(∀r∈s.tk,(W.pr r).isSome=true)->(s.up)->(∀(b:Bool) H',Same H H'->(b=true↔W.keeps s)->Q (.bl b) H')->wQ vs H Q
def C2:Sp:=fun vs H Q _=>wQ vs H Q
def IP(h:pq a=pq b):a=b:=by
 unfold pq at h
 injection h with h
 simp only[bV,Tx.int.injEq] at h;exact Prod.ext h.1 h.2.1
def Fc(l m:List (Int × Int)):((l.map pq).all fun d=>decide (d∈m.map pq))=true↔∀p∈l,p∈m:=by
 rw[zY,cP];simp only[Function.comp,aX,bK];constructor
 · intro h p hp;obtain⟨q,h1,h2⟩:=h p hp;exact IP h2 ▸ h1
 · intro h p hp;exact⟨p,h p hp,rfl⟩
def H_(l:List (Int × Int)):∀d∈l.map pq,d.dp<=60:=fun d hd=>by
 obtain⟨p,_,rfl⟩:=bK.mp hd;show 1+max 0 (max 0 0)<=60
 decide
def IsW.tie{H:Hp}{v:V}{W:Wo}(hW:IsW H v W){r:Str}(h:(W.pr r).isSome=true):∃(t a b c pl:Addr) (kb:List (Key × V)) (xs:List V),v= .ref t/\H t=some (.tup [.int (W.n:Int),.ref a,.ref b,.ref c])/\(∀H',Same H H'->DGet H' b (.str r) (some (.ref pl)))/\H pl=some (.lst xs)/\∀H',Same H H'->Xas H' ((W.prs r).map pq) xs:=by
 obtain⟨t,a,b,c,ka,kb,kc,rfl,ht,ha,hb,hc,k1,k2,p1,p2,m⟩:=hW.ex;obtain⟨l,e⟩:=nW.mp h;obtain⟨pl,xs,e1,e2,e3⟩:=p1 r l e;refine⟨t,a,b,c,pl,kb,xs,rfl,ht,fun H' s=> ?_,e2,fun H' s=>by unfold Wo.prs;rw[e];exact e3 H' s⟩;rw[<-e1];exact DGet.k (k:= .inr r) (s _ _ hb)
theorem pV:∀{ds es:List Tx} {xs ys:List V},Xas H ds xs->Xas H es ys->Xas H (ds++es) (xs++ys)
 | [],_,_,_,h,h'=>by rw[show _=[] from h];exact h'
 | d::ds,es,xs,ys,h,h'=>by obtain⟨x,r,rfl,h1,h2⟩:=h;exact⟨x,r++ys,rfl,h1,pV h2 h'⟩
def IsW.one{H:Hp}(h:H t=some (.tup [n,.ref a,.ref b,.ref c]))(h':H t=some (.tup [n',.ref a',.ref b',.ref c'])):b'=b:=by
 have:=h.symm.trans h'
 injection this with this
 injection this with this
 simp only[bV,V.ref.injEq] at this;exact this.2.2.1.symm
section
def scKept:bw ["_law_world_here","_law_saying_here","_law_form","_law_here","_law_one","_law_two","_law_p","_law_q"] AY (aM Dg):=gH
def Gp(F:Fun K "_law_kept" "_law_kept" Dg f fd)(Gme:Cl P w K mg base 33 "_law_meant" q_ qe)(Gha:Cl P w K mg base 34 "_law_has" xj C3)(Gao:Cl P w K mg base 1 "_law_all_of" ue uO)(Gof:Cl P w K mg base 32 "_law_of" lM (uM 31))(Gnx:Cl P w K mg base 1 "_law_next" ud yD):b_ P w K mg base eU 35 f fd AY C2:=by
 refine F.o scKept fun cdv A outer s H vs Q E hr h=> ?_;obtain⟨v,u,W,sy,rfl,hW,sm,iu,hpp,htk,hup,q⟩:=h;have hu:=fL hr;refine⟨_,ba (fR 2 scKept.nd (eh bf))
  (ba (bL (eX cT bJ bq) (bg (cK (dG Gao hr (dO (dG Gof hr (dO aD (eh bf))) (dG Gof hr (dO aD (eh bf))))))) be)
  (ba (bL (eX cT bJ bq) (bg (cK (Ft (DK hr.units) (dG Gof hr (dO aD (cX (iS bq (eh bf) (eh bf))))) (bS cf)))) be)
  (ba (bL (eX cT bJ bq) (ba (fR 3 scKept.nd (dG Gme hr (dO aD (eh bf)))) (bg (cK (fX (Ft nB cE ej) (iw (dG Gao hr (dO cE (dG Gof hr (dO aD (eh bf)))))))))) be)
  (ba (bL (eX cT bJ bq) (bg (cK (fX (Ft (mn hu) (eh bf) (eh aD)) (iw (dG Gha hr (jz aD (eh bf) (eh bf) (eh bf))))))) be)
  (ba (fR 4 scKept.nd (wg hu (eh aD) (eh bf)))
  (ba (fR 5 scKept.nd (wg hu (eh aD) (eh bf)))
  (ba (bL (eX cT bJ bq) (bg (cK (dG Gao hr (dO cG ee)))) be)
  (ba (lO (bT cG) (eY rfl (bG (eV 6 scKept.nd) (bG (eV 7 scKept.nd) dX))) (bg (bL (gi (d4 (dG Gao hr (dO (fg ["_law_z"] qql10 [6] rfl (bT (dG Gnx hr (dO ee jh))) (fun _ _ _=>eV 0 MR) (fun _ _ _=>fb) (fun _ _ _=>(cX (dO bf aD)))) (wg hu (eh aD) (eh bf)))))) (bg (cK eQ)) be)))
  (bg (cK eQ)))))))))),?_⟩
 obtain⟨p,xs,rfl,hp,kl⟩:=iu;have tu:∀{H'},Same H H'->Tups H H':=fun s b xs h=>s _ _ h;refine⟨_,_,SqT.of hp,aJ (j:=0) rfl,?_⟩;cases sy with
 | every a b=>
   obtain⟨x,y,rfl,ia,ib⟩:=rE kl;obtain⟨da,_⟩:=hpp a (by simp[Sy.parts]);obtain⟨db,_⟩:=hpp b (by simp[Sy.parts]);refine⟨_,_,SqT.of hp,aJ (j:=1) rfl,v,x,W,a,rfl,hW,sm,ia,by lia,by lia,fun D1 H1 s1 h1=> ?_⟩;refine⟨_,_,SqT.of (s1 _ _ hp),aJ (j:=2) rfl,v,y,W,b,rfl,hW.same s1,sm,IsK.mono (tu s1) ib,by lia,by lia,fun D2 H2 s2 h2=> ?_⟩;refine⟨D1,D2,_,_,(W.of a).map Tx.int,(W.of b).map Tx.int,rfl,s2 _ _ h1,h2,fun H' s=>⟨jP _,jP _⟩,ET _,by rw[ae];have:=pZ sm a;lia,fun H3 s3=> ?_⟩;exact q _ H3 (Same.trans' s1 (Same.trans' s2 s3)) (zV _ _)
 | no a b=>
   obtain⟨x,y,rfl,ia,ib⟩:=rE kl;obtain⟨da,_⟩:=hpp a (by simp[Sy.parts]);obtain⟨db,_⟩:=hpp b (by simp[Sy.parts]);refine⟨_,_,SqT.of hp,aJ (j:=1) rfl,_,_,SqT.of hp,aJ (j:=2) rfl,bz (by show 3<=1000;decide),fun t ht=> ?_⟩;have s1:=aj ht (.tup [.str "both",x,y]);refine⟨v,.ref t,W,.two a b,rfl,hW.same s1,sm,⟨t,x,y,rfl,upd_same,IsK.mono (tu s1) ia,IsK.mono (tu s1) ib⟩,by simp only[Kd.dep];lia,by simp only[Kd.dep];lia,fun D1 H2 s2 h1=>⟨av _,fun D2 hD2=> ?_⟩⟩;have s3:=aj hD2 (.lst []);refine⟨.lst ((W.of (.two a b)).map Tx.int),.lst [],⟨_,_,rfl,s3 _ _ h1,jP _⟩,⟨_,_,rfl,upd_same,rfl⟩,?_,?_⟩
   · have:pM ((W.of (.two a b)).map Tx.int)<=0:=GK _;show 1+_<=60
     lia
   · refine q _ _ (Same.trans' s1 (Same.trans' s2 s3)) ?_;rw[aX];constructor
     · intro h
       injection h with h
       exact List.map_eq_nil_iff.mp h
     · intro h;rw[show W.of (.two a b)=[] from h];rfl
 | thing x k=>
   obtain⟨x',y,rfl,ia,ib⟩:=rE kl;obtain⟨db,_⟩:=hpp k (by simp[Sy.parts]);obtain⟨dx,lx⟩:=hpp (.nm x) (by simp[Sy.parts]);refine⟨_,_,SqT.of hp,aJ (j:=1) rfl,v,x',W,.nm x,rfl,hW,sm,ia,lx,av _,fun e1 H1 s1=> ?_,fun l1 e1 D1 H1 s1 h1=> ?_⟩
   · refine⟨rfl,?_⟩;rw[show(!decide (V.non=V.non))=false by simp];exact q false H1 s1 ⟨fun h=>(aO h).elim,fun⟨l,h,_⟩=>by rw[e1] at h;cases h⟩
   · refine⟨rfl,?_⟩;rw[show(!decide (V.ref D1=V.non))=true by simp];refine⟨_,_,SqT.of (s1 _ _ hp),aJ (j:=2) rfl,v,y,W,k,rfl,hW.same s1,sm,IsK.mono (tu s1) ib,by lia,by lia,fun D2 H2 s2 h2=> ?_⟩;refine⟨D1,D2,_,_,l1.map Tx.int,(W.of k).map Tx.int,rfl,s2 _ _ h1,h2,fun H' s=>⟨jP _,jP _⟩,ET _,by rw[ae];have:=kQ sm e1;lia,fun H3 s3=> ?_⟩;refine q _ H3 (Same.trans' s1 (Same.trans' s2 s3)) ((zV _ _).trans ⟨fun h=>⟨l1,e1,h⟩,fun⟨l,h,h'⟩=> ?_⟩);cases e1.symm.trans h;exact h'
 | tied x t y=>
   obtain⟨x',t',y',rfl,ia,ib,ic⟩:=xS kl;obtain rfl:t'= .str t:=ib;obtain rfl:x'= .str x:=ia;obtain⟨_,lx⟩:=hpp (.nm x) (by simp[Sy.parts]);obtain⟨_,ly⟩:=hpp (.nm y) (by simp[Sy.parts]);obtain⟨tt,a,b,c,ka,kb,kc,rfl,ht,ha,hb,hc,k1,k2,p1,p2,m⟩:=hW.ex;refine⟨_,_,SqT.of hp,aJ (j:=1) rfl,_,_,SqT.of ht,aJ (j:=3) rfl,c,_,rfl,DGet.k (k:= .inr x) hc,?_⟩;have hup':cF (.nm x)=true:=hup;cases e:W.hm x with
   | none=>
     rw[show cB kc (.inr x)=none by rw[m x,e];rfl];refine q false H (fun _ _ e=>e) ⟨fun h=>(aO h).elim,fun⟨l,m,h,_⟩=> ?_⟩;unfold Wo.meant at h;rw[aE hup'] at h;simp only[e] at h;cases h
   | some z=>
     rw[show cB kc (.inr x)=some (.int z) by rw[m x,e];rfl];exact⟨_,_,SqT.of hp,aJ (j:=1) rfl,_,_,SqT.of hp,aJ (j:=2) rfl,_,_,SqT.of hp,aJ (j:=3) rfl,.ref tt,.str x,y',t,W,.nm x,.nm y,rfl,hW,sm,rfl,lx,av _,ic,ly,av _,q⟩
 | within r t=>
   obtain⟨x',y',rfl,ia,ib⟩:=rE kl;obtain rfl:x'= .str r:=ia;obtain rfl:y'= .str t:=ib;obtain⟨tt,a,b,c,pl,kb,us,rfl,ht,dg,epl,hx⟩:=hW.tie (htk r (by simp[Sy.tk]));obtain⟨tt',a',b',c',pl',kb',us',ev,ht',dg',epl',hx'⟩:=hW.tie (htk t (by simp[Sy.tk]));cases ev;have:=ht.symm.trans ht'
   injection this with this
   injection this with this
   simp only[bV,V.ref.injEq] at this;obtain⟨_,_,rfl,_⟩:=this;refine⟨_,_,SqT.of ht,aJ (j:=2) rfl,_,_,SqT.of hp,aJ (j:=1) rfl,_,dg H (fun _ _ e=>e),?_⟩;refine⟨_,_,SqT.of ht,aJ (j:=2) rfl,_,_,SqT.of hp,aJ (j:=2) rfl,_,dg' H (fun _ _ e=>e),?_⟩;refine⟨pl,pl',us,us',(W.prs r).map pq,(W.prs t).map pq,rfl,epl,epl',fun H' s=>⟨hx H' s,hx' H' s⟩,H_ _,by rw[ae];have:=sm.pr r;lia,fun H3 s3=> ?_⟩;exact q _ H3 s3 (Fc _ _)
 | makes r s' t=>
   obtain⟨x',y',z',rfl,ia,ib,ic⟩:=xS kl;obtain rfl:x'= .str r:=ia;obtain rfl:y'= .str s':=ib;obtain rfl:z'= .str t:=ic;obtain⟨tt,a,b,c,pl,kb,us,rfl,ht,dg,epl,hx⟩:=hW.tie (htk r (by simp[Sy.tk]));obtain⟨tt2,a2,b2,c2,pl2,kb2,us2,ev,ht2,dg2,epl2,hx2⟩:=hW.tie (htk s' (by simp[Sy.tk]));cases ev;obtain rfl:=IsW.one ht ht2;obtain⟨tt3,a3,b3,c3,pl3,kb3,us3,ev,ht3,dg3,epl3,hx3⟩:=hW.tie (htk t (by simp[Sy.tk]));cases ev;obtain rfl:=IsW.one ht ht3;refine⟨_,_,SqT.of ht,aJ (j:=2) rfl,_,_,SqT.of hp,aJ (j:=1) rfl,_,dg H (fun _ _ e=>e),?_⟩;refine⟨_,_,SqT.of ht,aJ (j:=2) rfl,_,_,SqT.of hp,aJ (j:=2) rfl,_,dg2 H (fun _ _ e=>e),?_⟩;have lu:=kI (hx H (fun _ _ e=>e));rw[ae] at lu;have lr:=sm.pr r;have ls:=sm.pr s';refine⟨⟨_,SqL.of epl⟩,ck (xs:=us) (fun i σ H'=>∃o6 o7,σ=[some (.ref tt),some (.ref p),some (.str "makes"),none,some (.ref pl),some (.ref pl2),o6,o7]/\Same H H'/\∀q∈(W.prs r).take i,∀z∈W.prs s',z.1=q.2->(q.1,z.2)∈W.prs t) ⟨none,none,rfl,fun _ _ e=>e,fun p hp=>by cases hp⟩ ?_ ?_ ?_⟩
   · rintro i σ H' _ ⟨o6,o7,rfl,s3,_⟩;exact SqL.of (s3 _ _ epl)
   · rintro i z' σ H' hz0 ⟨o6,o7,rfl,s3,al⟩;obtain⟨d,hd1,xd⟩:=mN (hx _ s3) hz0;rw[aH] at hd1;obtain⟨z,hz,rfl⟩:=aQ.mp hd1;obtain⟨tz,rfl,htz⟩:=Du xd;refine⟨_,SqT.of htz,rfl,?_⟩;refine⟨pl2,z.2,us2,W.prs s',rfl,s3 _ _ epl2,fun H' s=>hx2 H' (Same.trans' s3 s),by lia,fun D3 H3 s4 e7=>⟨⟨_,SqL.of e7⟩,fun D4 hD4=> ?_⟩⟩;have nl:=xG z.2 ls;generalize en:((W.prs s').filter fun q=>decide (q.1=z.2)).map (·.2)=N at e7 nl;refine fD N.length (fun k σ H5=>(∃o,σ=[o,some (.int z.1)])/\Same H3 H5/\∃vs,H5 D4=some (.lst vs)/\vs.length=k/\∀H',Tups H5 H'->Xas H' ((N.take k).map fun n=>pq (z.1,n)) vs) ⟨⟨_,rfl⟩,aj hD4 _,[],upd_same,rfl,fun _ _=>rfl⟩ ?_ ?_
     · rintro σ H5 ⟨_,s5,vs,e8,lv,xv⟩;refine⟨⟨_,SqL.of (s5 _ _ e7),by rw[ae];exact ar _⟩,?_⟩;rw[aY] at xv;have s05:Same H H5:=Same.trans' s3 (Same.trans' s4 s5);refine⟨_,_,SqT.of (s05 _ _ ht),aJ (j:=2) rfl,_,_,SqT.of (s05 _ _ hp),aJ (j:=3) rfl,_,dg3 H5 s05,?_⟩;refine⟨D4,pl3,vs,us3,(N.map fun n=>pq (z.1,n)),(W.prs t).map pq,rfl,e8,s05 _ _ epl3,fun H' s=>⟨xv H' (fun b xs h=>s _ _ h),hx3 H' (Same.trans' s05 s)⟩,H_ _,by rw[ae];lia,fun H6 s6=> ?_⟩;have s06:=Same.trans' s05 s6;have hall:((N.map fun n=>pq (z.1,n)).all fun d=>decide (d∈(W.prs t).map pq))=true↔∀y∈W.prs s',y.1=z.2->(z.1,y.2)∈W.prs t:=by
        rw[show(N.map fun n=>pq (z.1,n))=(N.map fun n=>(z.1,n)).map pq by rw[iF];rfl,Fc,<-en];constructor
        · intro h y hy e;exact h _ (bK.mpr ⟨y.2,bK.mpr ⟨y,gb.mpr ⟨hy,ah e⟩,rfl⟩,rfl⟩)
        · intro h y hy;obtain⟨n,hn,rfl⟩:=bK.mp hy;obtain⟨w,hw,rfl⟩:=bK.mp hn;obtain⟨h1,h2⟩:=gb.mp hw;exact h w h1 (bA h2)
       cases ea:(N.map fun n=>pq (z.1,n)).all fun d=>decide (d∈(W.prs t).map pq) with
       | true=>
         refine⟨_,_,rfl,s06,fun p hp=> ?_⟩;rw[bx,hz] at hp;rcases ay.mp hp with hp | hp
         · exact al p hp
         · rw[show p=z by simpa using hp];exact hall.mp ea
       | false=>
         refine q false H6 s06 ⟨fun h=>(aO h).elim,fun h=> ?_⟩;have:=hall.mpr (h z (au hz));rw[ea] at this;exact this
     · rintro k σ H5 hk ⟨⟨o,rfl⟩,s5,vs,e8,lv,xv⟩;have ha3:=s5 _ _ e7;refine⟨⟨_,_,SqL.of ha3,aq (by rw[ae];exact hk)⟩,?_⟩;rintro x H6 ⟨rfl,hx1⟩;have hx2:=hx1 _ (SqL.of ha3);rw[aH] at hx2;obtain⟨n,hn,rfl⟩:=aQ.mp hx2;refine⟨bz (by show 2<=1000;decide),fun tn htn=> ?_⟩;have s6:=aj htn (.tup [.int z.1,.int n]);have nt:D4≠tn:=fun z=>by rw[z,htn] at e8;cases e8
       refine⟨vs,s6 _ _ e8,bH (by lia),⟨_,rfl⟩,bR (Same.trans' s5 s6) hD4,_,upd_same,by rw[ak,lv];rfl,fun H' tH=> ?_⟩;rw[bx,hn,aZ];refine pV (xv H' fun b xs h=>tH b xs ?_) ⟨_,_,rfl,⟨tn,_,rfl,tH tn _ (by rw[aB (br nt)];exact upd_same),_,_,rfl,rfl,_,_,rfl,rfl,rfl⟩,rfl⟩;rw[aB (fun z=>by rw[z,e8] at h;cases h)];exact s6 _ _ h
   · rintro σ H' ⟨o6,o7,rfl,s3,al⟩;rw[lu,aY] at al;exact q true H' s3 ⟨fun _=>al,fun _=>rfl⟩
end
def K7:IntMulOk (10^(40:Int).toNat) (10^(40:Int).toNat):=by unfold IntMulOk;decide+kernel
inductive tM(vs:List V)(H:Hp)(Q:VK):Prop
 | mk:∀b x c rest,(vs=[.ref b,.int c])->(H b=some (.lst (.int x::rest)))->(∀r:Int,Q (.int r) H)->tM vs H Q
def qd:Sp:=fun vs H Q _=>tM vs H Q
section
def FP:bw zf zf (aM yQ):=gH
def DP(F:Fun K "_law_start" "_law_start" yQ f fd):b_ P w K mg base eU 1 f fd zf qd:=by
 refine F.o FP fun cdv A outer s H vs Q E hr h=> ?_;obtain⟨b,x,c,rest,rfl,hb,q⟩:=h;refine⟨_,ba (bL (eX cT (bF eJ bf aw) aw) (bg (cK (bF j7 (nA uH aw) (bF eJ (bF fJ bf aw) (bF Gb (bF vq aw aw) (bF vq aw aw)))))) be) (bg (cK (bF eJ (bF iQ (zh aD) bf) aw))),?_⟩;refine⟨(show(0:Int)<2 by decide),?_⟩;refine(fY (fun _=> ?_) (fun _=> ?_))
 · refine⟨⟨by decide,by decide⟩,⟨by decide,by decide,by decide⟩,⟨by decide,by decide,by decide⟩,K7,(show(0:Int)<10^(40:Int).toNat * 10^(40:Int).toNat by decide),q _⟩
 · exact⟨_,_,SqL.of hb,aJ (j:=0) rfl,(show(0:Int)<2147483647 by decide),q _⟩
end
def K2:((qql10:List Str)++(["_law_thick","_law_bag"]:List Str)).Nodup:=by decide+kernel
def Jm:((["_law_q"]:List Str)++(qql9:List Str)).Nodup:=by decide+kernel
def Kp.new(k:Kp L H H')(hD:H D=none)(o:HO):Kp L H (upd H' D o):=⟨fun c x hc h=>by rw[aB (bp h hD)];exact k.but c x hc h,fun c xs h=>by rw[aB (bp h hD)];exact k.tups c xs h⟩
def Kp.up(k:Kp L H H')(m:D∈L)(nt:∀xs,H D≠some (.tup xs))(o:HO):Kp L H (upd H' D o):=⟨fun c x hc h=>by rw[aB (fun z=>hc (by rw[z];exact m))];exact k.but c x hc h,fun c xs h=>by rw[aB (fun z=>nt xs (by rw[<-z];exact h))];exact k.tups c xs h⟩
structure KdAt(S:List Addr)(H:Hp)(ka:List (Key × V))(m:Str->Option (List Int)):Prop where
 has:∀x l,m x=some l->∃p,cB ka (.inr x)=some (.ref p)/\H p=some (.lst (iv l))/\p∉S
 no:∀x,m x=none->cB ka (.inr x)=none
def KdAt.kp(h:KdAt S H ka m)(k:Kp S H H'):KdAt S H' ka m:=⟨fun x l e=>by obtain⟨p,e1,e2,e3⟩:=h.has x l e;exact⟨p,e1,k.but _ _ e3 e2,e3⟩,h.no⟩
def KdAt.put{S:List Addr}{H:Hp}{ka:List (Key × V)}{m:Str->Option (List Int)}(h:KdAt S H ka m){x:Str}{p:Addr}{l:List Int}(e:H p=some (.lst (iv l)))(np:p∉S):KdAt S H (bZ ka (.inr x) (.ref p)) (fun y=>if y=x then some l else m y):=by
 refine⟨fun y l' hy=> ?_,fun y hy=> ?_⟩
 · rw[fq];by_cases c:y=x
   · subst c;rw[aE rfl] at hy;cases hy;exact⟨p,by rw[aE rfl],e,np⟩
   · rw[aA c] at hy;rw[aA (fun z=>c (by injection z))];exact h.has y l' hy
 · rw[fq];by_cases c:y=x
   · rw[aE c] at hy;cases hy
   · rw[aA c] at hy;rw[aA (fun z=>c (by injection z))];exact h.no y hy
def NJ(n:Nat)(ws:List Str)(m:Str->Option (List Int)):Prop:=∀x l,m x=some l->x∈ws/\l.length<=n/\∀p∈l,0<=p/\p<(n:Int)
structure PrAt(S:List Addr)(H:Hp)(ka:List (Key × V))(m:Str->Option (List (Int × Int))):Prop where
 has:∀x l,m x=some l->∃p xs,cB ka (.inr x)=some (.ref p)/\H p=some (.lst xs)/\p∉S/\∀H',Tups H H'->Xas H' (l.map pq) xs
 no:∀x,m x=none->cB ka (.inr x)=none
def PrAt.kp(h:PrAt S H ka m)(k:Kp S H H'):PrAt S H' ka m:=⟨fun x l e=>by obtain⟨p,xs,e1,e2,e3,e4⟩:=h.has x l e;exact⟨p,xs,e1,k.but _ _ e3 e2,e3,fun H2 t=>e4 H2 (k.tups.trans t)⟩,h.no⟩
def PrAt.put{S:List Addr}{H:Hp}{ka:List (Key × V)}{m:Str->Option (List (Int × Int))}(h:PrAt S H ka m){x:Str}{p:Addr}{l:List (Int × Int)}{xs:List V}(e:H p=some (.lst xs))(np:p∉S)(hx:∀H',Tups H H'->Xas H' (l.map pq) xs):PrAt S H (bZ ka (.inr x) (.ref p)) (fun y=>if y=x then some l else m y):=by
 refine⟨fun y l' hy=> ?_,fun y hy=> ?_⟩
 · rw[fq];by_cases c:y=x
   · subst c;rw[aE rfl] at hy;cases hy;exact⟨p,xs,by rw[aE rfl],e,np,hx⟩
   · rw[aA c] at hy;rw[aA (fun z=>c (by injection z))];exact h.has y l' hy
 · rw[fq];by_cases c:y=x
   · rw[aE c] at hy;cases hy
   · rw[aA c] at hy;rw[aA (fun z=>c (by injection z))];exact h.no y hy
def NA(n:Nat)(m:Str->Option (List (Int × Int))):Prop:=∀x l,m x=some l->l.length<=n * n/\∀q∈l,0<=q.1/\q.1<(n:Int)
inductive tG(K:Frag)(vs:List V)(H:Hp)(Q:VK):Prop
 | mk:∀(ls lk lt lh:Addr) (ns:List Int) (ws ts hs:List Str),(vs=[.ref ls,.ref lk,.ref lt,.ref lh])->(∀H',Same H H'->SqL K H' ls (ns.map V.int))->(H lk=some (.lst (ws.map V.str)))->(H lt=some (.lst (ts.map V.str)))->(H lh=some (.lst (hs.map V.str)))->(ws.length<=10)->(ts.length<=10)->(hs.length<=10)->(0<hs.length)->(∀z∈ws,z∉kept)->(∀(v:V) (H':Hp) (W:Wo),Same H H'->IsW H' v W->W.Ok->W.Sm->(∀t∈ts,(W.pr t).isSome=true)->Q v H')->tG K vs H Q
def Am(K:Frag):Sp:=fun vs H Q _=>tG K vs H Q
section
def scWorld:bw ["_law_script","_law_kin","_law_ties","_law_things_here","_law_many","_law_bag","_law_kinds","_law_name","_law_thick","_law_pairs","_law_tie","_law_p","_law_homes","_law_thing"] Ba (aM yL):=gH
def DL(F:Fun K "_law_world" "_law_world" yL f fd)(mr:mg "range"=none)(Gc:Cl P w K mg base 1 "_law_cell" uf (yF K))(Gdr:Cl P w K mg base 1 "_law_draw" ze qQ)(Gsr:Cl P w K mg base 1 "_law_start" zf qd):b_ P w K mg base eU 2 f fd Ba (Am K):=by
 refine F.o scWorld fun cdv A outer s H vs Q E hr h=> ?_;obtain⟨ls,lk,lt,lh,ns,ws,ts,hs,rfl,hls,hlk,hlt,hlh,lw,ltn,lhn,lh0,nk,q⟩:=h;have hu:=fL hr;refine⟨_,ba (fR 4 scWorld.nd (bF eJ (dG Gc hr (dO aD aw)) aw))
  (ba (fR 5 scWorld.nd (bS (dO (dG Gsr hr (dO (bS (eR aw)) (dG Gc hr (dO aD aw)))) aw)))
  (ba (fR 6 scWorld.nd cL)
  (j0 (lO (bT bf) (eV 7 scWorld.nd) (ba (fR 8 scWorld.nd (dG Gdr hr (dO ee aw))) (bg (df hu eW jh (fg qql10 ["_law_thick","_law_bag"] [8,5] rfl (fH rfl mr (eR cG)) (fun _ _ _=>eV 0 K2) (fun _ _ _=>ny (eX Bi (dG Gdr hr (dO bJ aw)) bf)) (fun _ _ _=>aD)) rfl))))
  (ba (fR 9 scWorld.nd cL)
  (j0 (lO (bT bJ) (eV 10 scWorld.nd) (ba (fR 8 scWorld.nd (dG Gdr hr (dO ee aw))) (ba (df hu sN (pv 10) (bS cf) rfl) (bg (lO (fH rfl mr (eR cG)) (eV 11 scWorld.nd) (bg (df hu sN (pv 10) (bF zj (wg hu sN (pv 10)) (fg ["_law_q"] qql9 [11,8,5] rfl (fH rfl mr (eR cG)) (fun _ _ _=>eV 0 Jm) (fun _ _ _=>ny (eX Bi (dG Gdr hr (dO cE aw)) bJ)) (fun _ _ _=>(cX (dO bf aD))))) rfl)))))))
  (ba (fR 12 scWorld.nd cL)
  (j0 (lO (bT cE) (eV 13 scWorld.nd) (bg (bL (PW.pt (mh (eX DJ cG aw) (kK (eX DJ (dG Gdr hr (dO ee aw)) aw)))) (ba (df hu (pv 12) (pv 13) (dG Gdr hr (dO ee cG)) rfl) (bg (bL (eX cT (dG Gdr hr (dO ee aw)) aw) (bg (df hu (pv 12) (zh cE) (wg hu (pv 12) (pv 13)) rfl)) be))) be)))
  (bg (cK (cX (jz cG eW sN (pv 12)))))))))))),?_⟩
 refine⟨ls,ns,3,rfl,hls H (fun _ _ e=>e),by decide,fun c3=>⟨(show(0:Int)<7 by decide),?_⟩⟩;obtain⟨n,hn,hn6⟩:∃n:Nat,(n:Int)=c3 % 7/\n<=6:=⟨(c3 % 7).toNat,by have:=cu c3 (show(7:Int)≠0 by decide);lia,by have:=bX c3 (show(0:Int)<7 by decide);lia⟩;refine⟨by show 1<=sizeLine;exact bz (by decide),fun l0 hl0=> ?_⟩;have s1:=aj hl0 (.lst [.int 0]);refine⟨ls,ns,4,rfl,hls _ s1,by decide,fun c4=>⟨l0,0,c4,[],rfl,upd_same,fun x0=> ?_⟩⟩;refine⟨by show 2<=sizeLine;exact bz (by decide),fun b hb=> ?_⟩;have s2:=Same.trans' s1 (aj hb (.lst [.int x0,.int 0]));have eb:upd (upd H l0 (.lst [.int 0])) b (.lst [.int x0,.int 0]) b=some (.lst [.int x0,.int 0]):=upd_same;have hbH:H b=none:=bP s1 hb;generalize upd (upd H l0 (.lst [.int 0])) b (.lst [.int x0,.int 0])=H2 at s2 eb⊢;refine fun a ha=> ?_;have s3:=Same.trans' s2 (aj ha (.dK []));have haH:H a=none:=bP s2 ha;have nab:a≠b:=fun z=>by rw[z,eb] at ha;cases ha
 have eb3:upd H2 a (.dK []) b=some (.lst [.int x0,.int 0]):=by rw[aB (br nab)];exact eb
 have ea3:upd H2 a (.dK []) a=some (.dK []):=upd_same;generalize upd H2 a (.dK [])=H3 at s3 eb3 ea3⊢;have ab:a∈[b,a]:=by simp
 have bb:b∈[b,a]:=by simp
 refine⟨fun σ H'=>∃(o7 o8:Option V) (x':Int) (ka:List (Key × V)) (m:Str->Option (List Int)),σ=[some (.ref ls),some (.ref lk),some (.ref lt),some (.ref lh),some (.int (c3 % 7)),some (.ref b),some (.ref a),o7,o8,none,none,none,none,none]/\Same H H'/\H' b=some (.lst [.int x',.int 0])/\H' a=some (.dK ka)/\KdAt [b,a] H' ka m/\NJ n ws m,?_,?_⟩
 · refine⟨⟨_,SqL.of (s3 _ _ hlk)⟩,ck (xs:=ws.map V.str) (fun i σ H'=>∃(o7 o8:Option V) (x':Int) (ka:List (Key × V)) (m:Str->Option (List Int)),σ=[some (.ref ls),some (.ref lk),some (.ref lt),some (.ref lh),some (.int (c3 % 7)),some (.ref b),some (.ref a),o7,o8,none,none,none,none,none]/\Same H H'/\H' b=some (.lst [.int x',.int 0])/\H' a=some (.dK ka)/\ka.length<=i/\KdAt [b,a] H' ka m/\NJ n ws m) ⟨none,none,x0,[],fun _=>none,rfl,s3,eb3,ea3,ar _,⟨fun x l e=>(by cases e),fun x _=>rfl⟩,fun x l e=>(by cases e)⟩ ?_ ?_ ?_⟩
   · rintro i σ H' _ ⟨o7,o8,x',ka,m,rfl,s4,_⟩;exact SqL.of (s4 _ _ hlk)
   · rintro i v σ H' hv ⟨o7,o8,x',ka,m,rfl,s4,e4,e5,l5,km,kb⟩;have hi:i<ws.length:=by
      have:=(aU.mp hv).1;rw[ae] at this;exact this
     rw[aH] at hv;obtain⟨z,hz,rfl⟩:=aQ.mp hv;refine⟨b,x',4,[.int 0],rfl,e4,by decide,fun x1 th t0 t1=> ?_⟩;have k1:Kp [b,a] H' (upd H' b (.lst [.int x1,.int 0])):=Kp.up (Kp.refl _ _) bb (fun xs z=>by rw[e4] at z;cases z) _;have s5:=bR s4 hbH (o:= .lst [.int x1,.int 0]);have e6:upd H' b (.lst [.int x1,.int 0]) b=some (.lst [.int x1,.int 0]):=upd_same;have e7:upd H' b (.lst [.int x1,.int 0]) a=some (.dK ka):=by rw[aB nab];exact e5
     generalize upd H' b (.lst [.int x1,.int 0])=H4 at k1 s5 e6 e7⊢;refine⟨c3 % 7,rfl,by lia,by lia,fun D hD=> ?_⟩;have nDb:D≠b:=fun z=>by rw[z,e6] at hD;cases hD
     have nDa:D≠a:=fun z=>by rw[z,e7] at hD;cases hD
     have hDH:H D=none:=bP s5 hD;have kp0:Kp [b,a] H4 (upd H4 D (.lst [])):=Kp.new (Kp.refl _ _) hD _;refine fD (c3 % 7).toNat (fun k σ H5=>(∃o,σ=[o,some (.int th),some (.ref b)])/\Kp [b,a] H4 H5/\Same H H5/\(∃x5,H5 b=some (.lst [.int x5,.int 0]))/\H5 a=some (.dK ka)/\∃l:List Int,H5 D=some (.lst (iv l))/\l.length<=k/\∀p∈l,0<=p/\p<(k:Int)) ⟨⟨_,rfl⟩,kp0,bR s5 hDH,⟨x1,by rw[aB (br nDb)];exact e6⟩,by rw[aB (br nDa)];exact e7,[],upd_same,av _,fun p hp=>(by cases hp)⟩ ?_ ?_
     · rintro σ H5 ⟨_,k5,s6,⟨x5,e8⟩,e9,l,e10,l1,l2⟩;refine⟨ar _,_,DPut.k (k:= .inr z) e9 (bH (by lia)),?_⟩;refine⟨_,_,x5,_,fun y=>if y=z then some l else m y,rfl,bR s6 haH,by rw[aB (br nab)];exact e8,upd_same,ai (cM _ _ _) (by lia),?_,?_⟩
       · refine KdAt.kp (H:=H5) ?_ (Kp.up (Kp.refl _ _) ab (fun xs z=>by rw[e9] at z;cases z) _);exact(km.kp (k1.trans k5)).put e10 (by simp only[aI,ao,bW,xD];exact⟨nDb,nDa⟩)
       · intro y l' hy;dsimp only at hy;by_cases c:y=z
         · rw[aE c] at hy;cases hy;exact⟨by rw[c];exact au hz,by lia,fun p hp=>by have:=l2 p hp;lia⟩
         · rw[aA c] at hy;exact kb y l' hy
     · rintro k σ H5 hk ⟨⟨o,rfl⟩,k5,s6,⟨x5,e8⟩,e9,l,e10,l1,l2⟩;refine⟨hk,?_⟩;rintro v H6 ⟨rfl,rfl⟩;refine⟨b,x5,4,[.int 0],rfl,e8,by decide,fun x6 r r0 r1=> ?_⟩;have k6:Kp [b,a] H4 (upd H6 b (.lst [.int x6,.int 0])):=Kp.up k5 bb (fun xs z=>by rw[e6] at z;cases z) _;have e11:upd H6 b (.lst [.int x6,.int 0]) D=some (.lst (iv l)):=by rw[aB nDb];exact e10
       have e12:upd H6 b (.lst [.int x6,.int 0]) a=some (.dK ka):=by rw[aB nab];exact e9
       have s7:=bR s6 hbH (o:= .lst [.int x6,.int 0]);have e13:upd H6 b (.lst [.int x6,.int 0]) b=some (.lst [.int x6,.int 0]):=upd_same;generalize upd H6 b (.lst [.int x6,.int 0])=H7 at k6 e11 e12 s7 e13⊢;refine fY (fun _=> ?_) (fun _=> ?_)
       · refine⟨_,e11,bH (by rw[ae];lia),⟨_,rfl⟩,Kp.new k6 hD _,bR s7 hDH,⟨x6,by rw[aB (br nDb)];exact e13⟩,by rw[aB (br nDa)];exact e12,l++[0+(k:Int)],?_,by rw[ak];show _+1<=_;lia,fun p hp=> ?_⟩
         · rw[upd_same];simp only[iv,aZ]
           rfl
         · rcases ay.mp hp with hp | hp
           · have:=l2 p hp;lia
           · rw[af.mp hp];lia
       · exact⟨⟨_,rfl⟩,k6,s7,⟨x6,e13⟩,e12,l,e11,by lia,fun p hp=>by have:=l2 p hp;lia⟩
   · rintro σ H' ⟨o7,o8,x',ka,m,rfl,s4,e4,e5,l5,km,kb⟩;exact⟨o7,o8,x',ka,m,rfl,s4,e4,e5,km,kb⟩
 rintro σ H' ⟨o7,o8,x',ka,m,rfl,s4,e4,e5,km,kb⟩;refine fun pb hpb=> ?_;have spb:=aj hpb (.dK []);have npb:pb≠b:=fun z=>by rw[z,e4] at hpb;cases hpb
 have npa:pb≠a:=fun z=>by rw[z,e5] at hpb;cases hpb
 have hpH:H pb=none:=bP s4 hpb;have bs:b∈[b]:=by simp
 have b2:b∈[b,pb]:=by simp
 have p2:pb∈[b,pb]:=by simp
 have nt4:∀xs,H' b≠some (.tup xs):=fun xs z=>by rw[e4] at z;cases z
 refine⟨fun σ H''=>∃(o8 o10 o11:Option V) (x2:Int) (kc:List (Key × V)) (mp:Str->Option (List (Int × Int))),σ=[some (.ref ls),some (.ref lk),some (.ref lt),some (.ref lh),some (.int (c3 % 7)),some (.ref b),some (.ref a),o7,o8,some (.ref pb),o10,o11,none,none]/\Same H H''/\Kp [b] H' H''/\H'' b=some (.lst [.int x2,.int 0])/\H'' pb=some (.dK kc)/\PrAt [b,pb] H'' kc mp/\NA n mp/\∀t∈ts,(mp t).isSome=true,?_,?_⟩
 · refine⟨⟨_,SqL.of (spb _ _ (s4 _ _ hlt))⟩,ck (xs:=ts.map V.str) (fun i σ H''=>∃(o8 o10 o11:Option V) (x2:Int) (kc:List (Key × V)) (mp:Str->Option (List (Int × Int))),σ=[some (.ref ls),some (.ref lk),some (.ref lt),some (.ref lh),some (.int (c3 % 7)),some (.ref b),some (.ref a),o7,o8,some (.ref pb),o10,o11,none,none]/\Same H H''/\Kp [b] H' H''/\H'' b=some (.lst [.int x2,.int 0])/\H'' pb=some (.dK kc)/\kc.length<=8 * i/\PrAt [b,pb] H'' kc mp/\NA n mp/\∀t∈ts.take i,(mp t).isSome=true) ⟨o8,none,none,x',[],fun _=>none,rfl,Same.trans' s4 spb,Kp.of spb,spb _ _ e4,upd_same,ar _,⟨fun x l e=>(by cases e),fun x _=>rfl⟩,fun x l e=>(by cases e),fun t h=>(by cases h)⟩ ?_ ?_ ?_⟩
   · rintro i σ H'' _ ⟨o8,o10,o11,x2,kc,mp,rfl,s5,_⟩;exact SqL.of (s5 _ _ hlt)
   · rintro i v σ H'' hv ⟨o8,o10,o11,x2,kc,mp,rfl,s5,k5,e6,e7,l7,pm,pB,al⟩;have hi:i<ts.length:=by
      have:=(aU.mp hv).1;rw[ae] at this;exact this
     rw[aH] at hv;obtain⟨z,hz,rfl⟩:=aQ.mp hv;refine⟨b,x2,5,[.int 0],rfl,e6,by decide,fun x1 th t0 t1=>⟨av _,fun D0 hD0=> ?_⟩⟩;have k6:Kp [b] H' (upd H'' b (.lst [.int x1,.int 0])):=Kp.up k5 bs nt4 _;have k7:Kp [b,pb] H'' (upd H'' b (.lst [.int x1,.int 0])):=Kp.up (Kp.refl _ _) b2 (fun xs z=>by rw[e6] at z;cases z) _;have s6:=bR s5 hbH (o:= .lst [.int x1,.int 0]);have e8:upd H'' b (.lst [.int x1,.int 0]) b=some (.lst [.int x1,.int 0]):=upd_same;have e9:upd H'' b (.lst [.int x1,.int 0]) pb=some (.dK kc):=by rw[aB npb];exact e7
     generalize upd H'' b (.lst [.int x1,.int 0])=H4 at k6 k7 s6 e8 e9 hD0⊢;have n0b:D0≠b:=fun z=>by rw[z,e8] at hD0;cases hD0
     have n0p:D0≠pb:=fun z=>by rw[z,e9] at hD0;cases hD0
     have s0:=aj hD0 (.lst []);have pm4:=(pm.kp k7).kp (Kp.of (L:=[b,pb]) s0);refine⟨_,DPut.k (k:= .inr z) (s0 _ _ e9) (bH (by lia)),?_⟩;have mE:=(pm4.put (x:=z) (l:=[]) (xs:=[]) upd_same (by simp only[aI,ao,bW,xD];exact⟨n0b,n0p⟩) (fun _ _=>rfl)).kp (Kp.up (Kp.refl _ _) p2 (fun xs z=>by rw[s0 _ _ e9] at z;cases z) (.dK (bZ kc (.inr z) (.ref D0))));have kE:Kp [b] H' (upd (upd H4 D0 (.lst [])) pb (.dK (bZ kc (.inr z) (.ref D0)))):=Kp.new (k6.trans (Kp.of s0)) hpb _;have sE:Same H (upd (upd H4 D0 (.lst [])) pb (.dK (bZ kc (.inr z) (.ref D0)))):=bR (Same.trans' s6 s0) hpH;have eE:upd (upd H4 D0 (.lst [])) pb (.dK (bZ kc (.inr z) (.ref D0))) b=some (.lst [.int x1,.int 0]):=by rw[aB (br npb)];exact s0 _ _ e8
     have fE:upd (upd H4 D0 (.lst [])) pb (.dK (bZ kc (.inr z) (.ref D0))) pb=some (.dK (bZ kc (.inr z) (.ref D0))):=upd_same;have lE:(bZ kc (.inr z:Key) (.ref D0)).length<=8 * i+1:=ai (cM _ _ _) (by lia);generalize upd (upd H4 D0 (.lst [])) pb (.dK (bZ kc (.inr z) (.ref D0)))=H5 at mE kE sE eE fE⊢;generalize bZ kc (.inr z:Key) (.ref D0)=kd at mE fE lE;refine⟨c3 % 7,rfl,by lia,by lia,?_⟩;refine oS (fun j σ H6=>∃(o11:Option V) (x3:Int) (ke:List (Key × V)) (l:List (Int × Int)),σ=[some (.ref ls),some (.ref lk),some (.ref lt),some (.ref lh),some (.int (c3 % 7)),some (.ref b),some (.ref a),o7,some (.int th),some (.ref pb),some (.str z),o11,none,none]/\Same H H6/\Kp [b] H' H6/\H6 b=some (.lst [.int x3,.int 0])/\H6 pb=some (.dK ke)/\ke.length<=8 * i+1+j/\PrAt [b,pb] H6 ke (fun y=>if y=z then some l else mp y)/\l.length<=j * n/\∀q∈l,0<=q.1/\q.1<(n:Int)) ⟨o11,x1,kd,[],rfl,sE,kE,eE,fE,lE,mE,av _,fun q hq=>(by cases hq)⟩ ?_ ?_
     · rintro j σ H6 hj ⟨o11,x3,ke,l,rfl,s7,k8,e10,e11,l11,mm,ll,lb⟩;obtain⟨pl,xs,ev,epl,npl,hxs⟩:=mm.has z l (aE rfl);have jn:j<n:=by lia
       refine⟨.ref pl,by rw[<-ev];exact DGet.k (k:= .inr z) e11,c3 % 7,rfl,by lia,by lia,fun D hD=> ?_⟩;have nDb:D≠b:=fun z=>by rw[z,e10] at hD;cases hD
       have nDp:D≠pb:=fun z=>by rw[z,e11] at hD;cases hD
       have hDH:H D=none:=bP s7 hD;have n6:∀xs,H6 b≠some (.tup xs):=fun xs z=>by rw[e10] at z;cases z
       have hD':H' D=none:=by
        cases e:H' D with
        | none=>rfl
        | some o=>rw[k8.but D o (fun z=>nDb (af.mp z)) e] at hD;cases hD
       refine fD (c3 % 7).toNat (fun k σ H7=>(∃o,σ=[o,some (.int (0+(j:Int))),some (.int th),some (.ref b)])/\Kp [b,pb] H6 H7/\Kp [b] H' H7/\Same H H7/\(∃x5,H7 b=some (.lst [.int x5,.int 0]))/\H7 pb=some (.dK ke)/\∃(vs:List V) (l':List (Int × Int)),H7 D=some (.lst vs)/\vs.length=l'.length/\l'.length<=k/\(∀H8,Tups H7 H8->Xas H8 (l'.map pq) vs)/\∀q∈l',q.1=(j:Int)) ⟨⟨_,rfl⟩,Kp.new (Kp.refl _ _) hD _,Kp.new k8 hD' _,bR s7 hDH,⟨x3,by rw[aB (br nDb)];exact e10⟩,by rw[aB (br nDp)];exact e11,[],[],upd_same,rfl,av _,fun _ _=>rfl,fun q hq=>(by cases hq)⟩ ?_ ?_
       · rintro σ H7 ⟨_,k9,k10,s8,⟨x5,e12⟩,e13,vs,l',e14,lv,lk',xv,lq⟩;have epl7:=k9.but _ _ npl epl;have lxs:=kI (hxs H6 (Tups.refl _));rw[ae] at lxs;have b1:l.length<=36:=ai ll (ai (Hd (show j<=6 by lia) hn6) (by decide));refine⟨ar _,pl,D,xs,vs,rfl,rfl,epl7,e14,bz (by lia),fun D2 hD2=> ?_⟩;have s9:=aj hD2 (.lst (xs++vs));have n2b:D2≠b:=fun z=>by rw[z,e12] at hD2;cases hD2
         have n2p:D2≠pb:=fun z=>by rw[z,e13] at hD2;cases hD2
         refine⟨_,DPut.k (k:= .inr z) (s9 _ _ e13) (bH (by lia)),?_⟩;have m7:=(mm.kp k9).kp (Kp.of (L:=[b,pb]) s9);have m8:=(m7.put (x:=z) (l:=l++l') (xs:=xs++vs) upd_same (by simp only[aI,ao,bW,xD];exact⟨n2b,n2p⟩) (fun H8 t8=>by
          rw[aZ];exact pV (hxs H8 ((k9.tups.trans s9.tups).trans t8)) (xv H8 (s9.tups.trans t8)))).kp (Kp.up (Kp.refl _ _) p2 (fun xs z=>by rw[s9 _ _ e13] at z;cases z) (.dK (bZ ke (.inr z) (.ref D2))))
         refine⟨_,x5,_,l++l',rfl,bR (Same.trans' s8 s9) hpH,Kp.new (k10.trans (Kp.of s9)) hpb _,by rw[aB (br npb)];exact s9 _ _ e12,upd_same,ai (cM _ _ _) (by lia),⟨fun y l3 hy=>m8.has y l3 ?_,fun y hy=>m8.no y ?_⟩,?_,fun q hq=> ?_⟩
         · by_cases c:y=z
           · rw[aE c] at hy⊢;exact hy
           · rw[aA c] at hy⊢;rw[aA c];exact hy
         · by_cases c:y=z
           · rw[aE c] at hy;cases hy
           · rw[aA c] at hy⊢;rw[aA c];exact hy
         · rw[ak,Nat.succ_mul];lia
         · rcases ay.mp hq with hq | hq
           · exact lb q hq
           · have:=lq q hq;lia
       · rintro k σ H7 hk ⟨⟨o,rfl⟩,k9,k10,s8,⟨x5,e12⟩,e13,vs,l',e14,lv,lk',xv,lq⟩;refine⟨hk,?_⟩;rintro v H8 ⟨rfl,rfl⟩;refine⟨b,x5,5,[.int 0],rfl,e12,by decide,fun x6 r r0 r1=> ?_⟩;have k11:Kp [b,pb] H6 (upd H8 b (.lst [.int x6,.int 0])):=Kp.up k9 b2 n6 _;have k12:Kp [b] H' (upd H8 b (.lst [.int x6,.int 0])):=Kp.up k10 bs nt4 _;have t12:Tups H8 (upd H8 b (.lst [.int x6,.int 0])):=(Kp.up (Kp.refl [b] H8) bs (fun xs z=>by rw[e12] at z;cases z) _).tups;have e15:upd H8 b (.lst [.int x6,.int 0]) D=some (.lst vs):=by rw[aB nDb];exact e14
         have e16:upd H8 b (.lst [.int x6,.int 0]) pb=some (.dK ke):=by rw[aB npb];exact e13
         have s9:=bR s8 hbH (o:= .lst [.int x6,.int 0]);have e17:upd H8 b (.lst [.int x6,.int 0]) b=some (.lst [.int x6,.int 0]):=upd_same;generalize upd H8 b (.lst [.int x6,.int 0])=H9 at k11 k12 t12 e15 e16 s9 e17⊢;refine fY (fun _=> ?_) (fun _=> ?_)
         · refine⟨bz (by show 2<=1000;decide),fun tn htn=> ?_⟩;have s10:=aj htn (.tup [.int (0+(j:Int)),.int (0+(k:Int))]);have nt:D≠tn:=fun z=>by rw[z,htn] at e15;cases e15
           refine⟨vs,s10 _ _ e15,bH (by lia),⟨_,rfl⟩,Kp.new (k11.trans (Kp.of s10)) hD _,Kp.new (k12.trans (Kp.of s10)) hD' _,bR (Same.trans' s9 s10) hDH,⟨x6,by rw[aB (br nDb)];exact s10 _ _ e17⟩,by rw[aB (br nDp)];exact s10 _ _ e16,_,l'++[(0+(j:Int),0+(k:Int))],upd_same,by rw[ak,ak,lv];rfl,by rw[ak];show _+1<=_;lia,fun H10 t10=> ?_,fun q hq=> ?_⟩
           · rw[aZ];refine pV (xv H10 fun c xs h=>t10 c xs ?_) ⟨_,_,rfl,⟨tn,_,rfl,t10 tn _ (by rw[aB (br nt)];exact upd_same),_,_,rfl,rfl,_,_,rfl,rfl,rfl⟩,rfl⟩;have h9:=t12 c xs h;rw[aB (fun z=>by rw[z,e15] at h9;cases h9)];exact s10 _ _ h9
           · rcases ay.mp hq with hq | hq
             · exact lq q hq
             · rw[af.mp hq];show(0:Int)+j=j;lia
         · exact⟨⟨_,rfl⟩,k11,k12,s9,⟨x6,e17⟩,e16,vs,l',e15,lv,by lia,fun H10 t10=>xv H10 (t12.trans t10),lq⟩
     · rintro σ H6 ⟨o11,x3,ke,l,rfl,s7,k8,e10,e11,l11,mm,ll,lb⟩;have tn:(c3 % 7).toNat=n:=by lia
       refine⟨_,_,_,x3,ke,_,rfl,s7,k8,e10,e11,by lia,mm,?_,fun t ht=> ?_⟩
       · intro y l' hy;dsimp only at hy;by_cases c:y=z
         · rw[aE c] at hy;cases hy;rw[tn] at ll;exact⟨ll,lb⟩
         · rw[aA c] at hy;exact pB y l' hy
       · by_cases c:t=z
         · rw[aE c];rfl
         · rw[aA c];rw[bx,hz] at ht;rcases ay.mp ht with ht | ht
           · exact al t ht
           · exact absurd (by simpa using ht) c
   · rintro σ H'' ⟨o8,o10,o11,x2,kc,mp,rfl,s5,k5,e6,e7,l7,pm,pB,al⟩;rw[ae,aY] at al;exact⟨o8,o10,o11,x2,kc,mp,rfl,s5,k5,e6,e7,pm,pB,al⟩
 rintro σ H'' ⟨o8,o10,o11,x2,kc,mp,rfl,s5,k5,e6,e7,pm,pB,al⟩;refine fun hd hhd=> ?_;have shd:=aj hhd (.dK []);have nhb:hd≠b:=fun z=>by rw[z,e6] at hhd;cases hhd
 have hhH:H hd=none:=bP s5 hhd;have nt6:∀xs,H'' b≠some (.tup xs):=fun xs z=>by rw[e6] at z;cases z
 refine⟨fun σ H3=>∃(o13:Option V) (x3:Int) (kh:List (Key × V)) (hm:Str->Option Int),σ=[some (.ref ls),some (.ref lk),some (.ref lt),some (.ref lh),some (.int (c3 % 7)),some (.ref b),some (.ref a),o7,o8,some (.ref pb),o10,o11,some (.ref hd),o13]/\Same H H3/\Kp [b] H'' H3/\H3 b=some (.lst [.int x3,.int 0])/\H3 hd=some (.dK kh)/\(∀x,cB kh (.inr x)=(hm x).map V.int)/\∀x h,hm x=some h->0<=h/\h<(n:Int),?_,?_⟩
 · refine⟨⟨_,SqL.of (shd _ _ (s5 _ _ hlh))⟩,ck (xs:=hs.map V.str) (fun i σ H3=>∃(o13:Option V) (x3:Int) (kh:List (Key × V)) (hm:Str->Option Int),σ=[some (.ref ls),some (.ref lk),some (.ref lt),some (.ref lh),some (.int (c3 % 7)),some (.ref b),some (.ref a),o7,o8,some (.ref pb),o10,o11,some (.ref hd),o13]/\Same H H3/\Kp [b] H'' H3/\H3 b=some (.lst [.int x3,.int 0])/\H3 hd=some (.dK kh)/\kh.length<=2 * i/\(∀x,cB kh (.inr x)=(hm x).map V.int)/\∀x h,hm x=some h->0<=h/\h<(n:Int)) ⟨none,x2,[],fun _=>none,rfl,Same.trans' s5 shd,Kp.of shd,shd _ _ e6,upd_same,ar _,fun _=>rfl,fun x h e=>(by cases e)⟩ ?_ ?_ ?_⟩
   · rintro i σ H3 _ ⟨o13,x3,kh,hm,rfl,s6,_⟩;exact SqL.of (s6 _ _ hlh)
   · rintro i v σ H3 hv ⟨o13,x3,kh,hm,rfl,s6,k6,e8,e9,l9,vh,bh⟩;have hi:i<hs.length:=by
      have:=(aU.mp hv).1;rw[ae] at this;exact this
     rw[aH] at hv;obtain⟨z,hz,rfl⟩:=aQ.mp hv;have put1:∀{kh:List (Key × V)} {hm:Str->Option Int} (x:Str) (h:Int),(∀x,cB kh (.inr x)=(hm x).map V.int)->∀y,cB (bZ kh (.inr x) (.int h)) (.inr y)=((fun y=>if y=x then some h else hm y) y).map V.int:=fun {kh hm} x h vh y=>by
      rw[fq];by_cases c:y=x
      · subst c;rw[aE rfl];simp
      · rw[aA (fun z=>c (by injection z)),vh y];simp[c]
     have putB:∀{hm:Str->Option Int} (x:Str) (h:Int),0<=h->h<(n:Int)->(∀x h,hm x=some h->0<=h/\h<(n:Int))->∀y h',(fun y=>if y=x then some h else hm y) y=some h'->0<=h'/\h'<(n:Int):=fun {hm} x h h0 h1 bh y h' e=>by
      dsimp only at e;by_cases c:y=x
      · rw[aE c] at e;cases e;exact⟨h0,h1⟩
      · rw[aA c] at e;exact bh y h' e
     refine fY (fun c0=> ?_) (fun _=> ?_)
     · have c0':c3 % 7>0:=bA c0;refine⟨b,x3,4,[.int 0],rfl,e8,by decide,fun x4 r r0 r1=> ?_⟩;have k7:Kp [b] H'' (upd H3 b (.lst [.int x4,.int 0])):=Kp.up k6 bs nt6 _;have s7:=bR s6 hbH (o:= .lst [.int x4,.int 0]);have e10:upd H3 b (.lst [.int x4,.int 0]) b=some (.lst [.int x4,.int 0]):=upd_same;have e11:upd H3 b (.lst [.int x4,.int 0]) hd=some (.dK kh):=by rw[aB nhb];exact e9
       generalize upd H3 b (.lst [.int x4,.int 0])=H4 at k7 s7 e10 e11⊢;refine fY (fun _=> ?_) (fun _=> ?_)
       · refine⟨b,x4,c3 % 7,[.int 0],rfl,e10,⟨c0',by lia⟩,fun x5 h h0 h1=> ?_⟩;have k8:Kp [b] H'' (upd H4 b (.lst [.int x5,.int 0])):=Kp.up k7 bs nt6 _;have s8:=bR s7 hbH (o:= .lst [.int x5,.int 0]);have e12:upd H4 b (.lst [.int x5,.int 0]) b=some (.lst [.int x5,.int 0]):=upd_same;have e13:upd H4 b (.lst [.int x5,.int 0]) hd=some (.dK kh):=by rw[aB nhb];exact e11
         generalize upd H4 b (.lst [.int x5,.int 0])=H5 at k8 s8 e12 e13⊢;refine⟨_,DPut.k (k:= .inr z) e13 (bH (by lia)),?_⟩;have k9:Kp [b] H'' (upd H5 hd (.dK (bZ kh (.inr z) (.int h)))):=Kp.new k8 hhd _;have s9:=bR s8 hhH (o:= .dK (bZ kh (.inr z) (.int h)));have e14:upd H5 hd (.dK (bZ kh (.inr z) (.int h))) b=some (.lst [.int x5,.int 0]):=by rw[aB (br nhb)];exact e12
         have e15:upd H5 hd (.dK (bZ kh (.inr z) (.int h))) hd=some (.dK (bZ kh (.inr z) (.int h))):=upd_same;have l15:=cM kh (.inr z:Key) (V.int h);have vh2:=put1 z h vh;have bh2:=putB z h h0 (by lia) bh;generalize upd H5 hd (.dK (bZ kh (.inr z) (.int h)))=H6 at k9 s9 e14 e15⊢;have vz:cB (bZ kh (.inr z) (.int h)) (.inr z)=some (.int h):=by rw[fq,aE rfl]
         generalize bZ kh (.inr z:Key) (.int h)=kh2 at e15 l15 vh2 vz;generalize (fun y=>if y=z then some h else hm y)=hm2 at vh2 bh2;refine⟨b,x5,4,[.int 0],rfl,e14,by decide,fun x6 r' r0' r1'=> ?_⟩;have k10:Kp [b] H'' (upd H6 b (.lst [.int x6,.int 0])):=Kp.up k9 bs nt6 _;have s10:=bR s9 hbH (o:= .lst [.int x6,.int 0]);have e16:upd H6 b (.lst [.int x6,.int 0]) b=some (.lst [.int x6,.int 0]):=upd_same;have e17:upd H6 b (.lst [.int x6,.int 0]) hd=some (.dK kh2):=by rw[aB nhb];exact e15
         generalize upd H6 b (.lst [.int x6,.int 0])=H7 at k10 s10 e16 e17⊢;refine fY (fun _=> ?_) (fun _=> ?_)
         · obtain⟨z0,hz0⟩:∃z0,hs[0]? =some z0:=⟨_,aq lh0⟩;refine⟨.int h,by rw[<-vz];exact DGet.k (k:= .inr z) e17,_,_,SqL.of (s10 _ _ hlh),aJ (j:=0) (by rw[aH,hz0];rfl),_,DPut.k (k:= .inr z0) e17 (bH (by lia)),?_⟩;exact⟨_,x6,_,_,rfl,bR s10 hhH,Kp.new k10 hhd _,by rw[aB (br nhb)];exact e16,upd_same,ai (cM _ _ _) (by lia),put1 z0 h vh2,putB z0 h h0 (by lia) bh2⟩
         · exact⟨_,x6,kh2,hm2,rfl,s10,k10,e16,e17,by lia,vh2,bh2⟩
       · exact⟨_,x4,kh,hm,rfl,s7,k7,e10,e11,by lia,vh,bh⟩
     · exact⟨_,x3,kh,hm,rfl,s6,k6,e8,e9,by lia,vh,bh⟩
   · rintro σ H3 ⟨o13,x3,kh,hm,rfl,s6,k6,e8,e9,l9,vh,bh⟩;exact⟨o13,x3,kh,hm,rfl,s6,k6,e8,e9,vh,bh⟩
 rintro σ H3 ⟨o13,x3,kh,hm,rfl,s6,k6,e8,e9,vh,bh⟩;refine⟨bz (by show 4<=1000;decide),fun t ht=> ?_⟩;have s7:=aj ht (.tup [.int (c3 % 7),.ref a,.ref pb,.ref hd]);have wk:∀{x:Addr} {A B:Hp},Kp [b] A B->Kp [b,x] A B:=fun k=>⟨fun c o hc h=>k.but c o (fun z=>hc (by rw[af.mp z];simp)) h,k.tups⟩;have km3:=km.kp (wk (k5.trans k6));have pm3:=pm.kp (wk k6);have ea4:H3 a=some (.dK ka):=k6.but _ _ (fun z=>nab (af.mp z)) (k5.but _ _ (fun z=>nab (af.mp z)) e5);have ep4:H3 pb=some (.dK kc):=k6.but _ _ (fun z=>npb (af.mp z)) e7;refine q (.ref t) _ ⟨n,m,mp,hm⟩ (Same.trans' s6 s7) ⟨t,a,pb,hd,ka,kc,kh,rfl,by rw[upd_same,hn],s7 _ _ ea4,s7 _ _ ep4,s7 _ _ e9,fun x l e=> ?_,km3.no,fun x l e=> ?_,pm3.no,vh⟩ ⟨fun t p hp=> ?_,?_,fun t q hq=> ?_,bh⟩ ⟨show n<=100 by lia,fun x l e=>by have:=(kb x l e).2.1;lia,fun x=> ?_⟩ al
 · obtain⟨p,h1,h2,_⟩:=km3.has x l e;exact⟨p,h1,s7 _ _ h2⟩
 · obtain⟨p,xs,h1,h2,_,h3⟩:=pm3.has x l e;exact⟨p,xs,h1,s7 _ _ h2,fun H8 s8=>h3 H8 fun c ys h=>s8 _ _ (s7 _ _ h)⟩
 · change p∈(m t).getD [] at hp
   cases e:m t with
   | none=>rw[e] at hp;cases hp
   | some l=>rw[e] at hp;exact(kb t l e).2.2 p hp
 · show m "nothing"=none;cases e:m "nothing" with
   | none=>rfl
   | some l=>exact absurd (by decide+kernel) (nk _ (kb _ _ e).1)
 · change q∈(mp t).getD [] at hq
   cases e:mp t with
   | none=>rw[e] at hq;cases hq
   | some l=>rw[e] at hq;exact(pB t l e).2 q hq
 · show((mp x).getD []).length<=100;cases e:mp x with
   | none=>exact av _
   | some l=>exact ai (pB x l e).1 (ai (Hd hn6 hn6) (by decide))
end
def EY(ns:List Int)(lo hi:Option Int):∃ms:List Int,mC (ns.map V.int) lo hi=ms.map V.int/\ms.length<=HT.sIx ns.length ns.length hi - HT.sIx ns.length 0 lo:=by
 refine⟨(ns.drop (HT.sIx ns.length 0 lo)).take (HT.sIx ns.length ns.length hi - HT.sIx ns.length 0 lo),?_,?_⟩
 · unfold mC;rw[ae,<-List.map_drop,<-List.map_take]
 · rw[cw];exact Fj _ _
def EW(xs:List V)(m:Nat):mC xs none (some (m:Int))=xs.take m:=by
 have h1:HT.sIx xs.length xs.length (some (m:Int))=min m xs.length:=HT.sIx_nat _ _ _;have h2:HT.sIx xs.length 0 none=0:=rfl;unfold mC;rw[h1,h2,sY,LD];rcases LF m xs.length with g | g
 · rw[Nat.min_eq_left g]
 · rw[Nat.min_eq_right g,dE (ar _),dE g]
theorem pE:∀{vs:List α} {ks:List β},Paired R vs ks->∀n,Paired R (vs.take n) (ks.take n)
 | _,_,.nil,n=>by cases n<;>exact .nil
 | _,_,.cons r t,0=> .nil
 | _,_,.cons r t,n+1=> .cons r (pE t n)
inductive wF(K:Frag)(vs:List V)(H:Hp)(Q:VK):Prop
 | mk:∀(ls b lk lt lh:Addr) (v:V) (ns:List Int) (x y:Int) (W:Wo) (H0:Hp) (ws ts hs:List Str),(vs=[.ref ls,.ref b,v,.ref lk,.ref lt,.ref lh])->(∀H',Kp [b] H H'->SqL K H' ls (ns.map V.int))->(ns.length<=63)->(H b=some (.lst [.int x,.int y]))->(Env H b lk lt lh ws ts hs)->(IsW H0 v W)->(H0 b=none)->(Same H0 H)->(W.Sm)->(∀t∈ts,(W.pr t).isSome=true/\t.length<=1000)->(∀z∈hs,cF (.nm z)=true)->
   (∀(l:Addr) (H':Hp) (ys:List V) (ps:List (Int × Sy)) (x' y':Int),Kp [b] H H'->H l=none->H' l=some (.lst ys)->PrL H' ys ps->ps.length<=16->(∀q∈ps,dS ws ts hs q.2/\W.keeps q.2)->ps.Pairwise (fun a b=>a.1<b.1)->H' b=some (.lst [.int x',.int y'])->Q (.ref l) H')->wF K vs H Q
def C0(K:Frag):Sp:=fun vs H Q _=>wF K vs H Q
def EV{ws ts hs:List Str}(ht:∀t∈ts,t.length<=1000){s:Sy}(h:dS ws ts hs s):∀k∈s.parts,k.dep<=29/\lg k:=by
 have dn2:∀{k:Kd},dk k->k.dep<=29/\lg k:=fun h=>⟨ai h.1 (by decide),h.2.2.1⟩;have t2:∀{t:Str},t∈ts->(Kd.nm t).dep<=29/\lg (.nm t):=fun h=>⟨av _,ht _ h⟩;intro k hk;cases s<;>simp only[Sy.parts,aI,ao,bW] at hk
 · rcases hk with rfl | rfl
   · exact dn2 h.1.1
   · exact dn2 h.2.1
 · rcases hk with rfl | rfl
   · exact dn2 h.1.1
   · exact dn2 h.2.1
 · rcases hk with rfl | rfl
   · exact dn2 h.1.2
   · exact dn2 h.2.1
 · rcases hk with rfl | rfl | rfl
   · exact dn2 h.1.2
   · exact t2 h.2.2
   · exact dn2 h.2.1.2
 · rcases hk with rfl | rfl
   · exact t2 h.1
   · exact t2 h.2
 · rcases hk with rfl | rfl | rfl
   · exact t2 h.1
   · exact t2 h.2.1
   · exact t2 h.2.2
def Lp(h:dS ws ts hs s):∀r∈s.tk,r∈ts:=by
 intro r hr;cases s<;>simp only[Sy.tk,aI,ao,bW] at hr
 · rcases hr with rfl | rfl
   · exact h.1
   · exact h.2
 · rcases hr with rfl | rfl | rfl
   · exact h.1
   · exact h.2.1
   · exact h.2.2
def Lo{ws ts hs:List Str}(hh:∀z∈hs,cF (.nm z)=true){s:Sy}(h:dS ws ts hs s):s.up:=by
 cases s<;>first | trivial | exact hh _ h.1.1
section
def scTold:bw ["_law_script","_law_bag","_law_world_here","_law_kin","_law_ties","_law_things_here","_law_pairs","_law_number","_law_cell_here","_law_turn","_law_saying_here"] Bb (aM De):=gH
def Gf(F:Fun K "_law_told" "_law_told" De f fd)(mr:mg "range"=none)(Gsr:Cl P w K mg base 1 "_law_start" zf qd)(Gsy:Cl P w K mg base 5 "_law_saying" F3 wJ)(Gke:Cl P w K mg base 35 "_law_kept" AY C2):b_ P w K mg base eU 36 f fd Bb (C0 K):=by
 refine F.o scTold fun cdv A outer s H vs Q E hr h=> ?_;obtain⟨ls,b,lk,lt,lh,v,ns,x,y,W,H0,ws,ts,hs,rfl,hls,hns,hb,en,hW,h0b,s0,sm,htt,hup,q⟩:=h;have hu:=fL hr;refine⟨_,ba (fR 6 scTold.nd (bS cf))
  (ba (fR 7 scTold.nd aw)
  (ba (lO (bT (bF zj (eI uS aD (fe aw) (fe aw)) (bS (dO aw aw)))) (eV 8 scTold.nd) (ba (iP (dG Gsr hr (dO bf m_)) (oB bf aw jg)) (ba (fR 7 scTold.nd (bF iQ (bF iQ jh aw) (bF eJ m_ (bF vq aw aw)))) (bg (lO (fH rfl mr (eR aw)) (eV 9 scTold.nd) (ba (fR 10 scTold.nd (dG Gsy hr (jz bf cE cG ee))) (bg (bL (d4 (dG Gke hr (dO bJ (pv 10)))) (ba (bC (DE eW (cX (dO jh (pv 10))))) (bg (Ds))) be))))))))
  (bg (cK (eI uS eW fT (fe aw)))))),?_⟩
 refine⟨av _,fun l hl=> ?_⟩;have y0:=aj hl (.lst []);have nlb:l≠b:=fun z=>by rw[z,hb] at hl;cases hl
 have k00:Kp [b] H (upd H l (.lst [])):= .of y0;refine⟨6,rfl,36,rfl,ls,_,rfl,hls _ k00,fun l2 h2=> ?_⟩;obtain⟨ms,ems,lms⟩:=EY ns (some 6) (some 36);have lms':ms.length<=30:=by
  rw[show HT.sIx ns.length ns.length (some 36)=min 36 ns.length from HT.sIx_nat _ _ 36,show HT.sIx ns.length 0 (some 6)=min 6 ns.length from HT.sIx_nat _ _ 6] at lms
  lia
 rw[ems];have y2:=aj h2 (.lst (ms.map V.int));refine⟨bz (by show 2<=1000;decide),fun l3 h3=> ?_⟩;have y3:=aj h3 (.lst [.int 5,.int 6]);refine⟨l2,l3,_,_,rfl,rfl,y3 _ _ upd_same,upd_same,bz (by rw[ae];show _+2<=1000;lia),fun lc hc=> ?_⟩;have y4:=aj hc (.lst (ms.map V.int++[.int 5,.int 6]));have yA:=Same.trans' (Same.trans' (Same.trans' y0 y2) y3) y4;have eL:=y4 _ _ (y3 _ _ (y2 _ _ (upd_same:upd H l (.lst []) l=some (.lst []))));have nlc:lc≠l:=fun z=>by rw[z,y3 _ _ (y2 _ _ (upd_same:upd H l (.lst []) l=some (.lst [])))] at hc;cases hc
 have eC:upd (upd (upd (upd H l (.lst [])) l2 (.lst (ms.map V.int))) l3 (.lst [.int 5,.int 6])) lc (.lst (ms.map V.int++[.int 5,.int 6])) lc=some (.lst ((ms++[5,6]).map V.int)):=by rw[upd_same,aZ];rfl
 have ncb:lc≠b:=fun z=>by rw[z,y3 _ _ (y2 _ _ (y0 _ _ hb))] at hc;cases hc
 generalize upd (upd (upd (upd H l (.lst [])) l2 (.lst (ms.map V.int))) l3 (.lst [.int 5,.int 6])) lc (.lst (ms.map V.int++[.int 5,.int 6]))=H2 at yA eL eC⊢;have lcs:(ms++[5,6]).length<=32:=by rw[ak];show _+2<=32;lia
 generalize ms++[5,6]=cs at eC lcs;have bs:b∈[b]:=by simp
 have ntb:∀xs,H b≠some (.tup xs):=fun xs z=>by rw[hb] at z;cases z
 refine⟨⟨_,SqL.of eC⟩,ck (xs:=cs.map V.int) (fun i σ H'=>∃(o8 o9 o10:Option V) (x' y' nb:Int) (ys:List V) (ps:List (Int × Sy)),σ=[some (.ref ls),some (.ref b),some v,some (.ref lk),some (.ref lt),some (.ref lh),some (.ref l),some (.int nb),o8,o9,o10]/\Kp [b] H H'/\H' b=some (.lst [.int x',.int y'])/\H' lc=some (.lst (cs.map V.int))/\H' l=some (.lst ys)/\PrL H' ys ps/\ps.length<=i/\(∀q∈ps,dS ws ts hs q.2/\W.keeps q.2)/\ps.Pairwise (fun a b=>a.1<b.1)/\∀q∈ps,q.1<=nb) ⟨none,none,none,x,y,0,[],[],rfl,.of yA,yA _ _ hb,eC,eL,.nil,ar _,fun q hq=>(by cases hq),.nil,fun q hq=>(by cases hq)⟩ ?_ ?_ ?_⟩
 · rintro i σ H' _ ⟨o8,o9,o10,x',y',nb,ys,ps,rfl,k1,e1,e2,_⟩;exact SqL.of e2
 · rintro i u σ H' hv ⟨o8,o9,o10,x',y',nb,ys,ps,rfl,k1,e1,e2,e3,pl,lp,gd,pw,le⟩;have hi:i<cs.length:=by
    have:=(aU.mp hv).1;rw[ae] at this;exact this
   rw[aH] at hv;obtain⟨c,hc',rfl⟩:=aQ.mp hv;refine⟨b,x',c,[.int y'],rfl,e1,fun x1=>⟨b,_,0,0,rfl,rfl,e1,GI _,⟨by decide,by decide,by decide⟩,(show(0:Int)<10^(9:Int).toNat by decide),5,rfl,by decide,by decide,?_⟩⟩;have k2:Kp [b] H (upd H' b (.lst ([V.int x',V.int y'].set 0 (V.int x1)))):=Kp.up k1 bs ntb _;have t2:Tups H' (upd H' b (.lst ([V.int x',V.int y'].set 0 (V.int x1)))):=(Kp.up (Kp.refl [b] H') bs (fun xs z=>by rw[e1] at z;cases z) _).tups;have e4:upd H' b (.lst ([V.int x',V.int y'].set 0 (V.int x1))) b=some (.lst [.int x1,.int y']):=upd_same;have e5:upd H' b (.lst ([V.int x',V.int y'].set 0 (V.int x1))) lc=some (.lst (cs.map V.int)):=by rw[aB ncb];exact e2
   have e6:upd H' b (.lst ([V.int x',V.int y'].set 0 (V.int x1))) l=some (.lst ys):=by rw[aB nlb];exact e3
   have pl2:=PrL.mono t2 pl;show ∃W:Nat->Nat->St->Hp->Prop,_;generalize upd H' b (.lst ([V.int x',V.int y'].set 0 (V.int x1)))=H3 at k2 e4 e5 e6 pl2⊢;have m0:=cu c (show(10^(9:Int).toNat:Int)≠0 by decide);obtain⟨nb2,enb⟩:∃nb2:Int,nb+1+c % 10^(9:Int).toNat=nb2:=⟨_,rfl⟩;have hnb:nb<nb2:=by lia
   refine oS (fun j σ H4=>∃(o9 o10:Option V) (x2 y2:Int),σ=[some (.ref ls),some (.ref b),some v,some (.ref lk),some (.ref lt),some (.ref lh),some (.ref l),some (.int nb2),some (.int c),o9,o10]/\Kp [b] H H4/\H4 b=some (.lst [.int x2,.int y2])/\H4 lc=some (.lst (cs.map V.int))/\H4 l=some (.lst ys)/\PrL H4 ys ps) ⟨o9,o10,x1,y',by rw[<-enb];rfl,k2,e4,e5,e6,pl2⟩ ?_ ?_
   · rintro j σ H4 hj ⟨o9,o10,x2,y2,rfl,k3,e7,e8,e9,pl3⟩;refine⟨b,lk,lt,lh,x2,y2,ws,ts,hs,rfl,e7,en.kp k3,fun sv H5 sy x3 y3 k4 e10 isy ds=> ?_⟩;have k5:=k3.trans k4;have s05:Same H0 H5:=fun c o e=>k5.but c o (fun z=>by rw[af.mp z,h0b] at e;cases e) (s0 _ _ e);have e11:=k4.but _ _ (fK ncb) e8;have e12:=k4.but _ _ (fK nlb) e9;refine⟨v,sv,W,sy,rfl,hW.same s05,sm,isy,EV (fun t ht=>(htt t ht).2) ds,fun r hr=>(htt r (Lp ds r hr)).1,Lo hup ds,fun bb H6 s6 iff=> ?_⟩;cases bb with
     | true=>
       have e13:=s6 _ _ e12;refine⟨.inl ⟨rfl,_,SqL.of e13⟩,bz (by show 2<=1000;decide),fun tn htn=> ?_⟩;have s7:=aj htn (.tup [.int nb2,sv]);have k7:=(k5.trans (.of s6)).trans (.of s7);have pl7:=PrL.mono ((k4.trans (.of s6)).trans (.of s7)).tups pl3;have lys:ys.length=ps.length:=bu pl;have nlt:l≠tn:=fun z=>by rw[z,htn] at e13;cases e13
       have tup:Tups (upd H6 tn (.tup [.int nb2,sv])) (upd (upd H6 tn (.tup [.int nb2,sv])) l (.lst (ys++[.ref tn]))):=fun c xs h=>by
        rw[aB (fun z=>by rw[z,s7 _ _ e13] at h;cases h)];exact h
       refine⟨ys,s7 _ _ e13,bH (by lia),?_⟩;refine⟨_,_,_,x3,y3,nb2,ys++[.ref tn],ps++[(nb2,sy)],rfl,Kp.new k7 hl _,by rw[aB (br nlb)];exact s7 _ _ (s6 _ _ e10),by rw[aB nlc];exact s7 _ _ (s6 _ _ e11),upd_same,PrL.mono tup (rl pl7 (.cons ⟨tn,sv,rfl,upd_same,IsSy.mono (s6.tups.trans s7.tups) isy⟩ .nil)),by rw[ak];show _+1<=_;lia,fun q hq=> ?_,?_,fun q hq=> ?_⟩
       · rcases ay.mp hq with hq | hq
         · exact gd q hq
         · rw[af.mp hq];exact⟨ds,iff.mp rfl⟩
       · rw[Nl];refine⟨pw,List.pairwise_singleton _ _,fun a ha c hc=> ?_⟩;rw[af.mp hc];have:=le a ha;show a.1<nb2
         lia
       · rcases ay.mp hq with hq | hq
         · have:=le q hq;lia
         · rw[af.mp hq];exact Int.le_refl _
     | false=>
       exact⟨_,_,x3,y3,rfl,k5.trans (.of s6),s6 _ _ e10,s6 _ _ e11,s6 _ _ e12,PrL.mono (k4.trans (.of s6)).tups pl3⟩
   · rintro σ H4 ⟨o9,o10,x2,y2,rfl,k3,e7,e8,e9,pl3⟩;exact⟨_,_,_,x2,y2,nb2,ys,ps,rfl,k3,e7,e8,e9,pl3,by lia,gd,pw,fun q hq=>by have:=le q hq;lia⟩
 · rintro σ H' ⟨o8,o9,o10,x',y',nb,ys,ps,rfl,k1,e1,e2,e3,pl,lp,gd,pw,le⟩;refine⟨_,rfl,l,_,rfl,SqL.of e3,fun lq hq=> ?_⟩;rw[show mC ys none (some 16)=ys.take 16 from EW ys 16];have y8:=aj hq (.lst (ys.take 16));have hqH:H lq=none:=by
    cases e:H lq with
    | none=>rfl
    | some o=>rw[k1.but lq o (fun z=>by rw[af.mp z,e1] at hq;cases hq) e] at hq;cases hq
   exact q lq _ _ (ps.take 16) x' y' (k1.trans (.of y8)) hqH upd_same (PrL.mono y8.tups (pE pl 16)) (by rw[cw];exact Fj _ _) (fun q hq=>gd q (jH hq)) (pw.sublist (OE _ _)) (y8 _ _ e1)
end
theorem uk:∀(l:List (Int × Sy)) (o:Option Sy),(∀q∈l,q.1≠n)->l.foldl (fun o q=>if q.1=n then some q.2 else o) o=o
 | [],_,_=>rfl
 | q::l,o,h=>by
   rw[dN,aA (h q aL)];exact uk l o fun q' hq=>h q' (aG _ hq)
def AG(h:ps.Pairwise fun a b=>a.1<b.1):∀q∈ps,fW ps (some q.1)=some q.2:=fun q hq=>by
 obtain⟨a,b,rfl⟩:=List.append_of_mem hq;show(a++q::b).foldl (fun o p=>if p.1=q.1 then some p.2 else o) none=some q.2;rw[e_,dN,aE rfl];have hb:=(List.pairwise_cons.mp (Nl.mp h).2.1).1;exact uk b _ fun q' h' e=>by have:=hb q' h';lia
def KA(h:Paired (IsSt T H) vs ss):StL [] H vs ss:=Paired.imp' (fun v s ⟨p,pf,vf,e,h1,h2,h3,_⟩=>⟨p,pf,vf,e,h1,h2,h3,ao⟩) h
theorem Her.imp(h:∀k,P k->P' k):∀{k:Kd},Her P k->Her P' k
 | .nm _,a=>h _ a
 | .two _ _,a=>⟨h _ a.1,Her.imp h a.2.1,Her.imp h a.2.2⟩
 | .som _ _,a=>⟨h _ a.1,Her.imp h a.2⟩
structure Nd(s:sF):Prop where
 ok:KZ s.f
 lo:s.f.lo 25
 ln:lg s.f.x
 sz:∀k,(s.f.x=k\/(∃x t,s.f= .has x t k)\/∃x,s.f= .is x k)->k.sz<=1000
def yz(k:Kd):Prop:=ju k=false/\cF k=false
def gK(ts:List Str)(k:Kd):Prop:=kO k/\k.nt<=20/\k.dep<=20/\k.sz<=60/\(∀r∈Kd.tieL k,r∈ts)/\Her yz k
def hU(h:wd t):gM t=true:=by
 obtain⟨h1,h2,h3⟩:=h;unfold gM;rw[ah h1,ah h2];refine cP.mpr fun c hc=> ?_;obtain⟨c1,c2⟩:=h3 c hc;unfold nI
 first
 | exact ah (Or.inr ⟨c1,c2⟩)
 | (simp only[qA,aX];lia)
def mR(h:thg t):gM t=true:=by
 obtain⟨h1,c,r,e,c1,c2,h3⟩:=h;have hl:=qp t;rw[e] at hl;simp only[bj] at hl;unfold gM;rw[ah (show 1<=t.length by lia),ah h1];refine cP.mpr fun d hd=> ?_;rw[e] at hd;have:65<=d/\d<=90\/97<=d/\d<=122:=by
  rcases aI.mp hd with rfl | hd
  · exact .inl ⟨c1,c2⟩
  · exact .inr (h3 d hd)
 unfold nI
 first
 | exact ah this
 | (simp only[qA,aX];lia)
def Ik(h:wd t):yz (.nm t):=by
 obtain⟨h1,h2,h3⟩:=h;have hs:CJ t=false:=by
  cases e:t.cps.toList with
  | nil=>have:=qp t;rw[e] at this;simp at this;lia
  | cons c r=>
    obtain⟨c1,c2⟩:=h3 c (by rw[e];simp);rw[jQ e (by lia),ag (by lia)]
 have:=(Ia ⟨h1,h2,h3⟩).2.2.2;exact⟨this.trans hs,hs⟩
def E7:CJ "anything"=false:=by
 rw[jQ (c:=97) (r:=[110,121,116,104,105,110,103]) (by decide+kernel) (by decide)];decide
def Bk:CJ "nothing"=false:=by
 rw[jQ (c:=110) (r:=[111,116,104,105,110,103]) (by decide+kernel) (by decide)];decide
def vY:yz (.nm "anything"):=⟨dk_anyK.2.2.2.trans E7,E7⟩
def rq:yz (.nm "nothing"):=⟨dk_nothK.2.2.2.trans Bk,Bk⟩
theorem vE(hw:∀z∈ws,wd z):∀{k:Kd},si ws ts k->Her yz k
 | .nm t,h=>by
   rcases h with h | h | h
   · exact Ik (hw t h)
   · rw[h];exact vY
   · rw[h];exact rq
 | .two a b,h=>⟨⟨rfl,rfl⟩,vE hw h.1,vE hw h.2⟩
 | .som r c,h=>⟨⟨rfl,rfl⟩,vE hw h.2⟩
theorem vF(hw:∀z∈ws,wd z)(ht:∀z∈ts,wd z):∀{k:Kd},si ws ts k->kO k
 | .nm t,h=>by
   rcases h with h | h | h
   · exact hU (hw t h)
   · rw[h];show gM _=true;decide+kernel
   · rw[h];show gM _=true;decide+kernel
 | .two a b,h=>⟨vF hw ht h.1,vF hw ht h.2⟩
 | .som r c,h=>⟨hU (ht r h.1),vF hw ht h.2⟩
theorem jB:∀{k:Kd},si ws ts k->∀r∈Kd.tieL k,r∈ts
 | .nm t,_,r,hr=>by cases hr
 | .two a b,h,r,hr=>(ay.mp hr).elim (jB h.1 r) (jB h.2 r)
 | .som t c,h,r,hr=>(aI.mp hr).elim (fun e=>e ▸ h.1) (jB h.2 r)
def EL(hw:∀z∈ws,wd z)(ht:∀z∈ts,wd z)(h:si ws ts k)(nt:k.nt<=20)(dp:k.dep<=20):gK ts k:=⟨vF hw ht h,nt,dp,by have:=ir k;lia,jB h,vE hw h⟩
def Her.okP{sg:List Str}{k:Kd}(h:Her yz k):Her (okP sg) k:=Her.imp (fun k h=>⟨h.1.trans h.2.symm,fun e=>by rw[h.2] at e;cases e⟩) h
def gP(k:Kd):Prop:=kO k/\k.dep<=20/\k.sz<=60
theorem oR:∀{k:Kd},gP k->Her gP k
 | .nm _,h=>h
 | .two a b,h=>by
   obtain⟨h1,h2,h3⟩:=id h;have e2:1+max a.dep b.dep<=20:=h2;simp only[Kd.sz] at h3;exact⟨h,oR ⟨h1.1,by lia,by lia⟩,oR ⟨h1.2,by lia,by lia⟩⟩
 | .som r c,h=>by
   obtain⟨h1,h2,h3⟩:=id h;have e2:1+c.dep<=20:=h2;simp only[Kd.sz] at h3;exact⟨h,oR ⟨h1.2,by lia,by lia⟩⟩
def gK.gP{ts:List Str}{k:Kd}(h:gK ts k):gP k:=⟨h.1,h.2.2.1,h.2.2.2.1⟩
def gP.len(h:gP k):lg k:=by
 cases k with
 | nm t=>exact ai (gI h.1).2.1 (by decide)
 | two a b=>trivial
 | som r c=>trivial
theorem gr:∀k,Her (fun _=>True) k
 | .nm _=>trivial
 | .two a b=>⟨trivial,gr a,gr b⟩
 | .som _ c=>⟨trivial,gr c⟩
structure LawD(ts hs:List Str)(ps:List (Int × Sy))(ks fs:List Kd):Prop where
 ht:∀z∈ts,wd z
 lt:ts.length=2
 hh:∀z∈hs,thg z
 inc:ps.Pairwise fun a b=>a.1<b.1
 pq:∃ws:List Str,(∀z∈ws,wd z)/\∀q∈ps,dS ws ts hs q.2
 pk:∀k∈ks,gK ts k
 pf:∀k∈fs,gK ts k
 l24:ps.length<=24
 sq:mT ps<=252
 sk:i_ ks<=57
 sf:i_ fs<=57
section
def dS.kn(hw:∀z∈ws,wd z)(ht:∀z∈ts,wd z)(h:dS ws ts hs s):∀k∈s.knK,gK ts k/\k.sz<=7:=by
 have g:∀{k:Kd},dn ws ts k->gK ts k/\k.sz<=7:=fun {k} ⟨h1,h2,h3⟩=>⟨EL hw ht h3 (by lia) (ai h1.1 (by decide)),h1.2.1⟩;intro k hk;cases s<;>simp only[Sy.knK,aI,ao,bW] at hk
 · rcases hk with rfl | rfl
   · exact g h.1
   · exact g h.2
 · rcases hk with rfl | rfl
   · exact g h.1
   · exact g h.2
 · subst hk;exact g h.2
def dS.parts{ts hs ws:List Str}{s:Sy}(hw:∀z∈ws,wd z)(ht:∀z∈ts,wd z)(hh:∀z∈hs,thg z)(h:dS ws ts hs s):∀k∈s.parts,gP k/\k.nt<=20/\k.sz<=7/\∀r∈Kd.tieL k,r∈ts:=by
 have kn:=dS.kn hw ht h;have g:∀{k:Kd},k∈s.knK->gP k/\k.nt<=20/\k.sz<=7/\∀r∈Kd.tieL k,r∈ts:=fun {k} hk=>⟨(kn k hk).1.gP,(kn k hk).1.2.1,(kn k hk).2,(kn k hk).1.2.2.2.2.1⟩;have n:∀{x:Str},gM x=true->gP (.nm x)/\(Kd.nm x).nt<=20/\(Kd.nm x).sz<=7/\∀r∈Kd.tieL (.nm x),r∈ts:=fun {x} hx=>⟨⟨hx,av _,by show 1<=60;decide⟩,av _,by show 1<=7;decide,fun r hr=>by cases hr⟩;intro k hk;cases s<;>simp only[Sy.parts,aI,ao,bW] at hk
 · exact g (by simpa[Sy.knK] using hk)
 · exact g (by simpa[Sy.knK] using hk)
 · rcases hk with rfl | rfl
   · exact n (mR (hh _ h.1.1))
   · exact g (by simp[Sy.knK])
 · rcases hk with rfl | rfl | rfl
   · exact n (mR (hh _ h.1.1))
   · exact n (hU (ht _ h.2.2))
   · exact n (mR (hh _ h.2.1.1))
 · rcases hk with rfl | rfl
   · exact n (hU (ht _ h.1))
   · exact n (hU (ht _ h.2))
 · rcases hk with rfl | rfl | rfl
   · exact n (hU (ht _ h.1))
   · exact n (hU (ht _ h.2.1))
   · exact n (hU (ht _ h.2.2))
def dS.ties(h:dS ws ts hs s):∀r∈s.tiesL,r∈ts:=by
 intro r hr;cases s<;>simp only[Sy.tiesL,ay,aI,ao,bW] at hr
 · exact hr.elim (jB h.1.2.2 r) (jB h.2.2.2 r)
 · exact hr.elim (jB h.1.2.2 r) (jB h.2.2.2 r)
 · exact jB h.2.2.2 r hr
 · rw[hr];exact h.2.2
 · rcases hr with rfl | rfl
   · exact h.1
   · exact h.2
 · rcases hr with rfl | rfl | rfl
   · exact h.1
   · exact h.2.1
   · exact h.2.2
def dS.thg{ts hs ws:List Str}{s:Sy}(hh:∀z∈hs,thg z)(h:dS ws ts hs s):∀x∈s.things,K22.thg x:=by
 intro x hx;cases s<;>simp only[Sy.things,aI,ao,bW] at hx
 · subst hx;exact hh _ h.1.1
 · rcases hx with rfl | rfl
   · exact hh _ h.1.1
   · exact hh _ h.2.1.1
def dS.szs(h:dS ws ts hs s):s.szs<=14:=by
 have g:∀{k:Kd},dn ws ts k->k.sz<=7:=fun h=>h.1.2.1;cases s with
 | every a b=>have:=g h.1;have:=g h.2;simp[Sy.szs,Sy.parts];lia
 | no a b=>have:=g h.1;have:=g h.2;simp[Sy.szs,Sy.parts];lia
 | thing x k=>have:=g h.2;simp[Sy.szs,Sy.parts,Kd.sz];lia
 | tied x t y=>simp[Sy.szs,Sy.parts,Kd.sz]
 | within r s=>simp[Sy.szs,Sy.parts,Kd.sz]
 | makes r s t=>simp[Sy.szs,Sy.parts,Kd.sz]
theorem CW:∀{ps:List (Int × Sy)},(∀q∈ps,q.2.szs<=n)->mT ps<=n * ps.length
 | [],_=>av _
 | q::ps,h=>by
   have h1:=CW (n:=n) (ps:=ps) fun q' hq=>h q' (aG _ hq);have h2:=h q aL;show q.2.szs+mT ps<=n * (ps.length+1);rw[Nat.mul_succ];lia
theorem yy:∀{ks:List Kd},(∀k∈ks,k.sz<=n)->i_ ks<=n * ks.length
 | [],_=>av _
 | q::ks,h=>by
   have h1:=yy (n:=n) (ks:=ks) fun q' hq=>h q' (aG _ hq);have h2:=h q aL;show q.sz+i_ ks<=n * (ks.length+1);rw[Nat.mul_succ];lia
theorem rR:∀ps,gY ps=6 * mT ps+2 * ps.length
 | []=>rfl
 | q::ps=>by
   have:=rR ps;show 6 * q.2.szs+2+gY ps=6 * (q.2.szs+mT ps)+2 * (ps.length+1)
   lia
theorem rS:∀ks,iM ks=5 * i_ ks
 | []=>rfl
 | k::ks=>by
   have:=rS ks;show 5 * k.sz+iM ks=5 * (k.sz+i_ ks)
   lia
theorem Aj:∀ks,ks.length<=i_ ks
 | []=>ar _
 | k::ks=>by
   have:=Aj ks;have:=j8 k;show ks.length+1<=k.sz+i_ ks
   lia
def LawD.still(d:LawD ts hs ps ks fs):(∀q∈ps,q.2.okS/\q.2.gd 25/\q.2.tsOk ts)/\(∀k∈ks,vC 25 k/\∀r∈Kd.tieL k,r∈ts)/\(∀k∈fs,vC 25 k)/\ps.length<=100/\2+gY ps+iM fs<=40000/\2+gY ps+iM fs+i_ ks+3 * ps.length+mT ps<=50000/\(LoI.of ps fs).parts.length+i_ ks+3 * ps.length+mT ps<=700/\gA 700 ts<=9800000/\(LoI.of ps fs).Wd ts/\2<=(LoI.of ps fs).parts.length:=by
 obtain⟨ws,hw,pq⟩:=d.pq;have gk:∀{k:Kd},gK ts k->vC 25 k:=fun h=>⟨h.1,ai h.2.1 (by decide),bO h.2.2.1 (by decide)⟩;have ol:=Jl ps fs;have l1:=d.l24;have l2:=d.sq;have l3:=d.sk;have l4:=d.sf;have so:=AG d.inc;refine⟨fun q hq=>⟨(pq q hq).okS,fun k hk=> ?_,fun k hk=>((pq q hq).parts hw d.ht d.hh k hk).2.2.2,fun x t y e=> ?_⟩,fun k hk=>⟨gk (d.pk k hk),(d.pk k hk).2.2.2.2.1⟩,fun k hk=>gk (d.pf k hk),by lia,?_,?_,by lia,?_,K0 (fun q hq=>⟨so q hq,(pq q hq).ties⟩) fun k hk=>(d.pf k hk).2.2.2.2.1,Jk ps fs⟩
 · obtain⟨h1,h2,h3,_⟩:=(pq q hq).parts hw d.ht d.hh k hk;exact⟨h1.1,by lia,bO h1.2.1 (by decide),by lia⟩
 · have h:=pq q hq;rw[e] at h;exact h.2.2
 · rw[rR,rS];lia
 · rw[rR,rS];lia
 · unfold gA;rw[d.lt];decide
def LawD.sound{ts hs:List Str}{ps:List (Int × Sy)}{ks fs:List Kd}(d:LawD ts hs ps ks fs){Tn:List Str}{S':StI}(st:ym ts ps ks fs Tn S'):(∀s∈S'.steps,Nd s/\s.fr.length<=2)/\(∀q∈ps,q.2.lo 25/\∀k∈q.2.parts,kO k/\k.dep<=25/\k.sz<=1000)/\(∀k∈fs,kO k/\k.dep<=25/\k.sz<=1000)/\(∀k∈ks,kO k/\k.dep<=25/\k.sz<=1000)/\i_ fs+mT ps<=2000000/\S'.steps.length<=2000000/\ks.length<=1000/\ps.length<=100/\∀kn:Kd->Prop,(∀q∈ps,∀k∈q.2.knK,Her kn k)->(∀k∈fs,Her kn k)->Fd ps (d3 ps) kn (ks++(d3 ps).map Kd.nm) S'.steps:=by
 obtain⟨ws,hw,pq⟩:=d.pq;have l1:=d.l24;have l2:=d.sq;have l3:=d.sk;have l4:=d.sf;have so:=AG d.inc;have sP:∀kn:Kd->Prop,(∀q∈ps,∀k∈q.2.knK,Her kn k)->(∀k∈fs,Her kn k)->Fd ps (d3 ps) kn (ks++(d3 ps).map Kd.nm) S'.steps/\∀s∈S'.steps,∃f∈S'.facts,s.f=gX (cj ks Tn ps (LoI.of ps fs,StI.emp)).1 f/\f.rg (cj ks Tn ps (LoI.of ps fs,StI.emp)).1.parts.length ts:=fun kn h1 h2=>
  oZ (sg:=d3 ps) st (fun q hq=>⟨so q hq,h1 q hq,(pq q hq).ties⟩) h2 (Her.okP (k:= .nm "anything") vY) (Her.okP (k:= .nm "nothing") rq) (fun q hq k hk=>Her.okP ((pq q hq).kn hw d.ht k hk).1.2.2.2.2.2) (fun x hx=>by
   obtain⟨q,hq,hx'⟩:=ji hx;refine⟨(zQ ((pq q hq).thg d.hh x hx')).2.2.2,fun _=>ah hx⟩) (fun k hk=>Her.okP (d.pk k hk).2.2.2.2.2) (fun k hk=>Her.okP (d.pf k hk).2.2.2.2.2)
 have pp:∀k∈(cj ks Tn ps (LoI.of ps fs,StI.emp)).1.parts,gP k:=by
  have pqk:∀q∈ps,∀k∈q.2.knK,Her gP k:=fun q hq k hk=>oR ((pq q hq).kn hw d.ht k hk).1.gP;refine qx (Q:=fun L=>∀k∈L.parts,gP k) st.tn (vD (Q:=fun L=>∀k∈L.parts,gP k) (fun e _ h=>by rw[e];exact h) ?_ (fun q h k hk L hL=>dY k L hL (pqk q h k hk)) (fun k hk L hL=>dY k L hL (oR (d.pf k hk).gP))) (fun k hk L hL=>dY k L hL (oR (d.pk k hk).gP)) (fun x hx L hL=>dY (.nm x) L hL ?_) (fun q h k hk L hL=>dY k L hL (pqk q h k hk))
  · rw[j9];intro k hk;have hk':k∈([anyW,nothW]:List Kd):=hk;rcases(show k=anyW\/k=nothW by simpa using hk') with rfl | rfl
    · exact⟨by show gM _=true;decide+kernel,av _,by show 1<=60;decide⟩
    · exact⟨by show gM _=true;decide+kernel,av _,by show 1<=60;decide⟩
  · obtain⟨q,hq,hx'⟩:=ji hx;exact⟨mR ((pq q hq).thg d.hh x hx'),av _,by show 1<=60;decide⟩
 obtain⟨s1,s2⟩:=sP (fun _=>True) (fun q _ k _=>gr k) (fun k _=>gr k);have le:=st.wf.cnt;have cb:=st.cb;have sl:=st.sl;refine⟨fun s hs=>⟨?_,?_⟩,fun q hq=>⟨(pq q hq).okS.2,fun k hk=> ?_⟩,fun k hk=> ?_,fun k hk=> ?_,by lia,?_,?_,by lia,fun kn h1 h2=>(sP kn h1 h2).1⟩
 · obtain⟨f,hf,e,rg⟩:=s2 s hs;cases f with
   | is x k=>
     have g1:=pp _ (j3 rg.1);have g2:=pp _ (j3 rg.2);have e':s.f= .is ((cj ks Tn ps (LoI.of ps fs,StI.emp)).1.pt x) ((cj ks Tn ps (LoI.of ps fs,StI.emp)).1.pt k):=e;generalize (cj ks Tn ps (LoI.of ps fs,StI.emp)).1.pt x=X at g1 e';generalize (cj ks Tn ps (LoI.of ps fs,StI.emp)).1.pt k=Y at g2 e';refine⟨by rw[e'];exact⟨g1.1,g2.1⟩,by rw[e'];exact⟨ai g1.2.1 (by decide),ai g2.2.1 (by decide)⟩,by rw[e'];exact g1.len,fun z hz=> ?_⟩;rw[e'] at hz;rcases hz with h | ⟨_,_,h⟩ | ⟨_,h⟩
     · exact ai (show z.sz<=60 from(show X=z from h) ▸ g1.2.2) (by decide)
     · cases h
     · cases h;exact ai g2.2.2 (by decide)
   | has x t y=>
     have g1:=pp _ (j3 rg.1);have g2:=pp _ (j3 rg.2.2);have e':s.f= .has ((cj ks Tn ps (LoI.of ps fs,StI.emp)).1.pt x) t ((cj ks Tn ps (LoI.of ps fs,StI.emp)).1.pt y):=e;generalize (cj ks Tn ps (LoI.of ps fs,StI.emp)).1.pt x=X at g1 e';generalize (cj ks Tn ps (LoI.of ps fs,StI.emp)).1.pt y=Y at g2 e';refine⟨by rw[e'];exact⟨g1.1,hU (d.ht t rg.2.1),g2.1⟩,by rw[e'];exact⟨ai g1.2.1 (by decide),ai g2.2.1 (by decide)⟩,by rw[e'];exact g1.len,fun z hz=> ?_⟩;rw[e'] at hz;rcases hz with h | ⟨_,_,h⟩ | ⟨_,h⟩
     · exact ai (show z.sz<=60 from(show X=z from h) ▸ g1.2.2) (by decide)
     · cases h;exact ai g2.2.2 (by decide)
     · cases h
 · obtain⟨i,hi⟩:=List.getElem?_of_mem hs;exact(s1.fine i s hi).le
 · obtain⟨h1,h2,h3,_⟩:=(pq q hq).parts hw d.ht d.hh k hk;exact⟨h1.1,ai h1.2.1 (by decide),by lia⟩
 · obtain⟨h1,h2,h3⟩:=(d.pf k hk).gP;exact⟨h1,by lia,by lia⟩
 · obtain⟨h1,h2,h3⟩:=(d.pk k hk).gP;exact⟨h1,by lia,by lia⟩
 · have:6 * S'.facts.length+S'.stand.length<=9800000:=ai le cb
   lia
 · have:=Aj ks
   lia
end
def gS(k:Kd):Prop:=∀r c,k= .som r c->cF c=false
theorem oQ:∀{k:Kd},Her yz k->Her gS k
 | .nm _,_=>fun _ _ e=>by cases e
 | .two a b,h=>⟨fun _ _ e=>(by cases e),oQ h.2.1,oQ h.2.2⟩
 | .som r c,h=>⟨fun _ _ e=>(by cases e;cases c<;>first | exact h.2.2 | exact h.2.1.2 | rfl),oQ h.2⟩
def zF{W:Wo}{ps:List (Int × Sy)}(hk:∀q∈ps,W.keeps q.2){n:Int}{s:Sy}(e:Er ps n=some s):W.keeps s:=by
 have g:∀(l:List (Int × Sy)) (o:Option Sy),(∀q∈l,W.keeps q.2)->(∀s,o=some s->W.keeps s)->∀s,l.foldl (fun o q=>if q.1=n then some q.2 else o) o=some s->W.keeps s:=by
  intro l
  induction l with
  | nil=>intro o _ ho s e;exact ho s e
  | cons q l ih=>
    intro o hl ho s e;refine ih _ (fun q' h=>hl q' (aG _ h)) (fun s' e'=> ?_) s e;have e2:(if q.1=n then some q.2 else o)=some s':=e'
    split at e2
    · cases e2;exact hl q aL
    · exact ho s' e2
 exact g ps none hk (fun _ e=>by cases e) s e
section
def LawD.soms{ts hs:List Str}{ps:List (Int × Sy)}{ks fs:List Kd}(d:LawD ts hs ps ks fs){Tn:List Str}{S':StI}(st:ym ts ps ks fs Tn S'):∀s∈S'.steps,∀x t k,s.f= .is x (.som t k)->cF k=false:=by
 obtain⟨ws,hw,pq⟩:=d.pq;have so:=AG d.inc;obtain⟨_,s2⟩:=oZ (kn:=fun _=>True) (sg:=d3 ps) st (fun q hq=>⟨so q hq,fun k _=>gr k,(pq q hq).ties⟩) (fun k _=>gr k) (Her.okP (k:= .nm "anything") vY) (Her.okP (k:= .nm "nothing") rq) (fun q hq k hk=>Her.okP ((pq q hq).kn hw d.ht k hk).1.2.2.2.2.2) (fun x hx=>by
  obtain⟨q,hq,hx'⟩:=ji hx;refine⟨(zQ ((pq q hq).thg d.hh x hx')).2.2.2,fun _=>ah hx⟩) (fun k hk=>Her.okP (d.pk k hk).2.2.2.2.2) (fun k hk=>Her.okP (d.pf k hk).2.2.2.2.2)
 have pp:∀k∈(cj ks Tn ps (LoI.of ps fs,StI.emp)).1.parts,gS k:=by
  have pqk:∀q∈ps,∀k∈q.2.knK,Her gS k:=fun q hq k hk=>oQ ((pq q hq).kn hw d.ht k hk).1.2.2.2.2.2;refine qx (Q:=fun L=>∀k∈L.parts,gS k) st.tn (vD (Q:=fun L=>∀k∈L.parts,gS k) (fun e _ h=>by rw[e];exact h) ?_ (fun q h k hk L hL=>dY k L hL (pqk q h k hk)) (fun k hk L hL=>dY k L hL (oQ (d.pf k hk).2.2.2.2.2))) (fun k hk L hL=>dY k L hL (oQ (d.pk k hk).2.2.2.2.2)) (fun x hx L hL=>dY (.nm x) L hL (show gS (.nm x) from fun _ _ e=>by cases e)) (fun q h k hk L hL=>dY k L hL (pqk q h k hk));rw[j9];intro k hk;have hk':k∈([anyW,nothW]:List Kd):=hk;rcases(show k=anyW\/k=nothW by simpa using hk') with rfl | rfl
  · exact fun _ _ e=>by cases e
  · exact fun _ _ e=>by cases e
 intro s hs x t k e;obtain⟨f,hf,e',rg⟩:=s2 s hs;cases f with
 | is x' k'=>
   have g2:=pp _ (j3 rg.2);have e2:s.f= .is ((cj ks Tn ps (LoI.of ps fs,StI.emp)).1.pt x') ((cj ks Tn ps (LoI.of ps fs,StI.emp)).1.pt k'):=e';rw[e] at e2
   injection e2 with _ e3
   exact g2 t k e3.symm
 | has x' t' y'=>rw[e] at e';cases e'
def LawD.truths{ts hs:List Str}{ps:List (Int × Sy)}{ks fs:List Kd}{W:Wo}(o:W.Ok)(d:LawD ts hs ps ks fs)(hk:∀q∈ps,W.keeps q.2){Tn:List Str}{S':StI}(st:ym ts ps ks fs Tn S'):∀s∈S'.steps,W.holds s.f:=by
 have sm:=d.soms st;obtain⟨_,_,_,_,_,_,_,_,snd⟩:=d.sound st;have sd:=snd (fun _=>True) (fun q _ k _=>gr k) (fun k _=>gr k);have so:=AG d.inc;have hg:∀x,Ki x (d3 ps)=true->∃l,W.meant x=some l:=by
  intro x hx;cases x with
  | nm z=>
    have hz:z∈d3 ps:=bA hx;obtain⟨q,hq,hx'⟩:=ji hz;have kq:=hk q hq;obtain⟨n,s⟩:=q;cases s with
    | thing a k=>
      obtain rfl:z=a:=by simpa[Sy.things] using hx'
      obtain⟨l,h,_⟩:=kq;exact⟨l,h⟩
    | tied a t b=>
      obtain⟨l,m,h1,h2,_⟩:=kq;rcases(show z=a\/z=b by simpa[Sy.things] using hx') with rfl | rfl
      · exact⟨l,h1⟩
      · exact⟨m,h2⟩
    | every a b=>simp[Sy.things] at hx'
    | no a b=>simp[Sy.things] at hx'
    | within a b=>simp[Sy.things] at hx'
    | makes a b c=>simp[Sy.things] at hx'
  | two a b=>cases hx
  | som r c=>cases hx
 have hs:∀n s,fW ps n=some s->W.keeps s:=by
  intro n s e;cases n with
  | none=>cases e
  | some n=>exact zF hk e
 have main:∀(n i:Nat) (s:sF),i<n->S'.steps[i]? =some s->W.holds s.f:=by
  intro n
  induction n with
  | zero=>intro i s h;exact absurd h (Nat.not_lt_zero _)
  | succ n ih=>
    intro i s hi e;obtain⟨r,_,_,fc,_⟩:=(sd.fine i s e).ex;unfold uv at fc
    split at fc
    · cases fc
    · rename_i hin
      split at fc
      · cases fc
      · have fin:∀f∈s.fr.map (gR S'.steps),∃j s',j<i/\S'.steps[j]? =some s'/\f=s'.f:=by
         intro f hf;obtain⟨j,hj,rfl⟩:=bK.mp hf;have hall:s.fr.all (Ci i)=true:=by cases h:s.fr.all (Ci i)<;>first | rfl | exact absurd h hin
         have hj':=cP.mp hall j hj;unfold Ci at hj';simp only[aP,aX] at hj';have il:i<S'.steps.length:=(aU.mp e).1;have jl:j.toNat<S'.steps.length:=by lia
         refine⟨j.toNat,S'.steps[j.toNat],by lia,aq jl,?_⟩;unfold gR;rw[aq jl]
        refine zO o (hs s.n) hg (fun f hf=> ?_) (fun x t k hf=> ?_) fc
        · obtain⟨j,s',hj,e',rfl⟩:=fin f hf;exact ih j s' (by lia) e'
        · obtain⟨j,s',hj,e',e2⟩:=fin _ hf;exact sm s' (au e') x t k e2.symm
 intro s hs';obtain⟨i,hi,e⟩:=eZ.mp hs';exact main (i+1) i s (jm _) (by rw[aq hi,e])
end
def MA(h:SqL K H a xs)(k:∀o,H a=some o->H' a=some o):SqL K H' a xs:=by
 rcases h with(h | ⟨o,h⟩) | h
 · exact .inl (.inl (k _ h))
 · exact .inl (.inr ⟨o,k _ h⟩)
 · exact .inr h
def Oi:Vals [V.non] [Value.none]:= .cons rfl .nil
def Eb:((([("_law_k":Str)]:List Str)++[("_law_bag":Str),("_law_kin":Str),("_law_ties":Str)]):List Str).Nodup:=by decide+kernel
def p_{a:Addr}(h:a≠b)(h':a≠l):a∉[b,l]:=by
 simp only[aI,ao,bW,xD];exact⟨h,h'⟩
def Kp.drop(hl:H l=none)(k:Kp [b,l] H H1):Kp [b] H H1:=⟨fun c o hc hco=>k.but c o (by
 simp only[aI,ao,bW,xD];exact⟨fun z=>hc (by rw[z];exact af.mpr rfl),fun z=>by rw[z,hl] at hco;cases hco⟩) hco,k.tups⟩
inductive Ax(K:Frag)(vs:List V)(H:Hp)(Q:VK):Prop
 | mk:∀(a:Addr) (ns:List Int),(vs=[.ref a])->(SqL K H a (ns.map V.int))->(ns.length<=63)->(∀H',Q (.bl true) H')->Ax K vs H Q
def Ay(K:Frag):Sp:=fun vs H Q _=>Ax K vs H Q
def MS:((["_law_step"]:List Str)++(["_law_world_here"]:List Str)).Nodup:=by decide+kernel
def zo(h:kO k):lg k:=by
 cases k with
 | nm t=>exact ai (gI h).2.1 (by decide)
 | two a b=>trivial
 | som r c=>trivial
def KY(h:KZ f):f.ln:=by
 cases f with
 | is x k=>exact zo h.1
 | has x t y=>exact⟨zo h.1,zo h.2.2⟩
def Ip(h:thg z):cF (.nm z)=true:=by
 obtain⟨h1,c,r,e,c1,c2,h3⟩:=h;show CJ z=true;rw[jQ e (by lia)];simp[c1,c2]
section
def scLaw:bw ["_law_script","_law_kin","_law_ties","_law_things_here","_law_world_here","_law_bag","_law_starts","_law_further","_law_pairs","_law_found"] xl (aM IG):=gH
def Jf(F:Fun K "law" "law" IG f fd)(mr:mg "range"=none)(mls:mg "list"=none)(ma:mg "all"=none)(Gc:Cl P w K mg base 1 "_law_cell" uf (yF K))(Gw:Cl P w K mg base 1 "_law_words" vb uL)(Gt:Cl P w K mg base 2 "_law_things" vb wG)(Gwo:Cl P w K mg base 2 "_law_world" Ba (Am K))(Gsr:Cl P w K mg base 1 "_law_start" zf qd)(Gk:Cl P w K mg base 4 "_law_kind" vd (lZ 3))(Gtd:Cl P w K mg base 36 "_law_told" Bb (C0 K))(Gst:Dl P w K mg base 65 "still" AV [.none] (Ao 25))(Gas:Cl P w K mg base 29 "_law_are_steps" va Hu)(Ghl:Cl P w K mg base 35 "_law_holds" A_ AA):b_ P w K mg base eU 66 f fd xl (Ay K):=by
 refine F.o scLaw fun cdv A outer s H vs Q E hr h=> ?_;obtain⟨a,ns,rfl,hS,h63,q⟩:=h;refine⟨_,ba (fR 1 scLaw.nd (dG Gw hr (dO (dG Gc hr (dO aD aw)) aw))) (ba (fR 2 scLaw.nd (dG Gw hr (dO (dG Gc hr (dO aD aw)) aw))) (ba (fR 3 scLaw.nd (dG Gt hr (dO (dG Gc hr (dO aD aw)) aw))) (ba (fR 4 scLaw.nd (dG Gwo hr (jz aD bf bJ cE))) (ba (fR 5 scLaw.nd (bS (dO (dG Gsr hr (dO (bS (eR aw)) (dG Gc hr (dO aD aw)))) aw))) (j0 (vj (i:=6) Do KR [5,1,2] scLaw.nd rfl rfl (fH rfl mr (eR (bF eJ (dG Gc hr (dO aD aw)) aw))) (fun _ _ _=>eV 0 Eb) (fun _ _ _=>fb) (fun _ _ _=>(dG Gk hr (jz bf bJ cE aw)))) (j0 (vj (i:=7) Do KR [5,1,2] scLaw.nd rfl rfl (fH rfl mr (eR (bF eJ (bF fJ (dG Gc hr (dO aD aw)) aw) aw))) (fun _ _ _=>eV 0 Eb) (fun _ _ _=>fb) (fun _ _ _=>(dG Gk hr (jz bf bJ cE aw)))) (ba (iP aw (oB ee aw jg)) (ba (fR 8 scLaw.nd (dG Gtd hr (bY aD (bY ee (jz cG bf bJ cE))))) (ba (fR 9 scLaw.nd (Oa Gst Oi hr (iS (fI hZ rfl mls bU (eR m_)) (fI hZ rfl mls bU (eR eW)) (fI hZ rfl mls bU (eR jh))))) (bg (cK (fX (dG Gas hr (eR sN)) (iw (fC (kY rfl) rfl ma iU (eR (fg ["_law_step"] ["_law_world_here"] [4] rfl (bT sN) (fun _ _ _=>eV 0 MS) (fun _ _ _=>fb) (fun _ _ _=>(dG Ghl hr (dO bf (oA (r:=BP K) gm aD aw)))))))))))))))))))),?_⟩;refine⟨a,ns,0,rfl,hS,by decide,fun r0=>⟨_,3,rfl,by decide,by decide,fun lk H1 ws s1 f1 e1 _ _ l1' w1=> ?_⟩⟩;have l1:=l1' (by decide);refine⟨a,ns,1,rfl,s1.seq hS,by decide,fun r1=>⟨_,2,rfl,by decide,by decide,fun lt H2 ts s2 f2 e2 _ _ l2' w2=> ?_⟩⟩;have l2:=l2' (by decide);have s02:=s1.trans s2;refine⟨a,ns,2,rfl,s02.seq hS,by decide,fun r2=>⟨_,2,rfl,by decide,by decide,fun lh H3 hs s3 f3 e3 l3 w3=> ?_⟩⟩;have s03:=s02.trans s3;refine⟨a,lk,lt,lh,ns,ws,ts,hs,rfl,fun H' s=>(s03.trans s).seq hS,s3 _ _ (s2 _ _ e1),s3 _ _ e2,e3,by lia,by lia,by lia,by lia,fun z hz=>(w1 z hz).2,fun v HW W sW hW oW smW pW=> ?_⟩;have s0W:=s03.trans sW;refine⟨bz (by show 1<=1000;decide),fun l0 hl0=> ?_⟩;have y0:=aj hl0 (.lst [.int 0]);refine⟨a,ns,5,rfl,(s0W.trans y0).seq hS,by decide,fun c5=>⟨l0,0,c5,[],rfl,upd_same,fun x0=>⟨bz (by show 2<=1000;decide),fun b hb=> ?_⟩⟩⟩;have s4:=aj hb (.lst [.int x0,.int 3]);have sWb:Same HW (upd HW l0 (.lst [.int 0])):=y0;have hWb:=hW.same y0;have s0b:=s0W.trans y0;have s04:=s0b.trans s4;have e1':=(sW.trans y0) _ _ (s3 _ _ (s2 _ _ e1));have e2':=(sW.trans y0) _ _ (s3 _ _ e2);have e3':=(sW.trans y0) _ _ e3;have nkb:=bp e1' hb;have ntb:=bp e2' hb;have nhb:=bp e3' hb;have eb4:upd (upd HW l0 (.lst [.int 0])) b (.lst [.int x0,.int 3]) b=some (.lst [.int x0,.int 3]):=upd_same;have nab:∀o,H a=some o->a≠b:=fun o h z=>by rw[z] at h;rw[s0b _ _ h] at hb;cases hb
 generalize upd HW l0 (.lst [.int 0])=HB at s4 s04 eb4 hb hWb s0b e1' e2' e3'⊢;generalize upd HB b (.lst [.int x0,.int 3])=H4 at s4 s04 eb4⊢;have en4:Env H4 b lk lt lh ws ts hs:=⟨s4 _ _ e1',by lia,fun z hz=>Ia (w1 z hz).1,s4 _ _ e2',by lia,s4 _ _ e3',by lia,fun z hz=>zQ (w3 z hz),nkb,ntb,nhb⟩;have nab4:∀{H':Hp},Kp [b] H4 H'->SqL K H' a (ns.map V.int):=fun {H'} k=>MA hS fun o h=>k.but _ _ (fK (nab o h)) (s04 _ _ h);have w1':∀z∈ws,wd z:=fun z hz=>(w1 z hz).1;have w2':∀z∈ts,wd z:=fun z hz=>(w2 z hz).1;refine⟨fun σ H'=>∃(ls:Addr) (ks:List Kd) (zs:List V) (x y:Int),σ=[some (.ref a),some (.ref lk),some (.ref lt),some (.ref lh),some v,some (.ref b),some (.ref ls),none,none,none]/\Kp [b] H4 H'/\H' b=some (.lst [.int x,.int y])/\ls≠b/\H4 ls=none/\H' ls=some (.lst zs)/\KL H' zs ks/\i_ ks<=28/\∀k∈ks,gK ts k,?_,?_⟩
 · refine⟨a,ns,5,rfl,nab4 (Kp.refl _ _),by decide,fun c6=>⟨(show(0:Int)<4 by decide),c6 % 4,rfl,?_,?_,fun D hD=> ?_⟩⟩
   · have:=cu c6 (show(4:Int)≠0 by decide);lia
   · have:=bX c6 (show(0:Int)<4 by decide);lia
   have n1:=cu c6 (show(4:Int)≠0 by decide);have n2:=bX c6 (show(0:Int)<4 by decide);have nDb:D≠b:=fun z=>by rw[z,eb4] at hD;cases hD
   have nkD:lk≠D:=bp en4.hk hD;have ntD:lt≠D:=bp en4.ht hD;refine fD (c6 % 4).toNat (fun i σ H'=>(∃o,σ=[o,some (.ref b),some (.ref lk),some (.ref lt)])/\Kp [b,D] H4 H'/\(∃x' y',H' b=some (.lst [.int x',.int y']))/\∃(vs:List V) (ks:List Kd),H' D=some (.lst vs)/\KL H' vs ks/\ks.length=i/\∀k∈ks,gK ts k/\k.sz<=7) ⟨⟨_,rfl⟩,.of (aj hD _),⟨_,_,(aj hD _) _ _ eb4⟩,[],[],upd_same,.nil,rfl,fun _ h=>(ao h).elim⟩ ?_ ?_
   · rintro σ HB ⟨_,kD,⟨xB,yB,bB⟩,vs,ks,eD,kl,lks,gk⟩;exact⟨ar _,D,ks,vs,xB,yB,rfl,Kp.drop hD kD,bB,nDb,hD,eD,kl,by have:=yy (n:=7) (fun k hk=>(gk k hk).2);lia,fun k hk=>(gk k hk).1⟩
   · rintro i σ HB hi ⟨⟨o,rfl⟩,kD,⟨xB,yB,bB⟩,vs,ks,eD,kl,lks,gk⟩;refine⟨hi,?_⟩;rintro v HC ⟨rfl,rfl⟩;refine⟨b,lk,lt,xB,yB,0,ws,ts,2,rfl,bB,kD.but _ _ (p_ en4.nk nkD) en4.hk,kD.but _ _ (p_ en4.nt ntD) en4.ht,en4.nk,en4.nt,en4.p1,en4.p2,en4.p3,en4.p4,by decide,fun v1 HE k1 xE yE kE bE ik1 nt1 dp1 nm1=> ?_⟩;have eD8:=kE.but _ _ (fK nDb) eD;have lvs:vs.length=i:=by rw[bu kl];exact lks
     have hi':i<(c6 % 4).toNat:=hi;have kput:Kp [b,D] HE (upd HE D (.lst (vs++[v1]))):=Kp.lst (by simp) eD8;refine⟨_,eD8,bH (by lia),⟨_,rfl⟩,(kD.trans (kE.mono (by simp))).trans kput,⟨xE,yE,by rw[aB (br nDb)];exact bE⟩,vs++[v1],ks++[k1],upd_same,zi (KL.mono (kE.tups.trans kput.tups) kl) (.cons (IsK.mono kput.tups ik1) .nil),by rw[ak,lks];rfl,fun k hk=> ?_⟩;rcases ay.mp hk with h | h
     · exact gk k h
     · rw[af.mp h];exact⟨EL w1' w2' nm1 (by lia) (by lia),by have:=ir k1;lia⟩
 rintro σ H6 ⟨ls,ks,zs,x6,y6,rfl,k6,b6,nsb,nls,es6,kl6,sk6,gk⟩;have en6:=en4.kp k6;refine⟨fun σ H'=>∃(lf:Addr) (fs:List Kd) (us:List V) (x y:Int),σ=[some (.ref a),some (.ref lk),some (.ref lt),some (.ref lh),some v,some (.ref b),some (.ref ls),some (.ref lf),none,none]/\Kp [b] H6 H'/\H' b=some (.lst [.int x,.int y])/\lf≠b/\H6 lf=none/\H' lf=some (.lst us)/\KL H' us fs/\i_ fs<=28/\∀k∈fs,gK ts k,?_,?_⟩
 · refine⟨a,ns,5,rfl,nab4 k6,by decide,fun c6=>⟨⟨by decide,by decide⟩,(show(0:Int)<3 by decide),c6/4 % 3,rfl,?_,?_,fun D hD=> ?_⟩⟩
   · have:=cu (c6/4) (show(3:Int)≠0 by decide);lia
   · have:=bX (c6/4) (show(0:Int)<3 by decide);lia
   have n1:=cu (c6/4) (show(3:Int)≠0 by decide);have n2:=bX (c6/4) (show(0:Int)<3 by decide);have nDb:D≠b:=fun z=>by rw[z,b6] at hD;cases hD
   have nkD:lk≠D:=bp en6.hk hD;have ntD:lt≠D:=bp en6.ht hD;refine fD (c6/4 % 3).toNat (fun i σ H'=>(∃o,σ=[o,some (.ref b),some (.ref lk),some (.ref lt)])/\Kp [b,D] H6 H'/\(∃x' y',H' b=some (.lst [.int x',.int y']))/\∃(vs:List V) (ks:List Kd),H' D=some (.lst vs)/\KL H' vs ks/\ks.length=i/\∀k∈ks,gK ts k/\k.sz<=7) ⟨⟨_,rfl⟩,.of (aj hD _),⟨_,_,(aj hD _) _ _ b6⟩,[],[],upd_same,.nil,rfl,fun _ h=>(ao h).elim⟩ ?_ ?_
   · rintro σ HB ⟨_,kD,⟨xB,yB,bB⟩,vs,ks,eD,kl,lks,gk⟩;exact⟨ar _,D,ks,vs,xB,yB,rfl,Kp.drop hD kD,bB,nDb,hD,eD,kl,by have:=yy (n:=7) (fun k hk=>(gk k hk).2);lia,fun k hk=>(gk k hk).1⟩
   · rintro i σ HB hi ⟨⟨o,rfl⟩,kD,⟨xB,yB,bB⟩,vs,ks,eD,kl,lks,gk⟩;refine⟨hi,?_⟩;rintro v HC ⟨rfl,rfl⟩;refine⟨b,lk,lt,xB,yB,0,ws,ts,1,rfl,bB,kD.but _ _ (p_ en6.nk nkD) en6.hk,kD.but _ _ (p_ en6.nt ntD) en6.ht,en6.nk,en6.nt,en6.p1,en6.p2,en6.p3,en6.p4,by decide,fun v1 HE k1 xE yE kE bE ik1 nt1 dp1 nm1=> ?_⟩;have eD8:=kE.but _ _ (fK nDb) eD;have lvs:vs.length=i:=by rw[bu kl];exact lks
     have hi':i<(c6/4 % 3).toNat:=hi;have kput:Kp [b,D] HE (upd HE D (.lst (vs++[v1]))):=Kp.lst (by simp) eD8;refine⟨_,eD8,bH (by lia),⟨_,rfl⟩,(kD.trans (kE.mono (by simp))).trans kput,⟨xE,yE,by rw[aB (br nDb)];exact bE⟩,vs++[v1],ks++[k1],upd_same,zi (KL.mono (kE.tups.trans kput.tups) kl) (.cons (IsK.mono kput.tups ik1) .nil),by rw[ak,lks];rfl,fun k hk=> ?_⟩;rcases ay.mp hk with h | h
     · exact gk k h
     · rw[af.mp h];exact⟨EL w1' w2' nm1 (by lia) (by lia),by have:=ir k1;lia⟩
 rintro σ H7 ⟨lf,fs,us,x7,y7,rfl,k7,b7,nfb,nlf,ef7,fl7,sf7,gf⟩;have k47:=k6.trans k7;have k78:Kp [b] H7 (upd H7 b (.lst ([V.int x7,V.int y7].set 1 (V.int 9)))):=Kp.lst (by simp) b7;have es7:=k7.but _ _ (fK nsb) es6;have kl7:=KL.mono k7.tups kl6;have nsf:ls≠lf:=bp es6 nlf;refine⟨b,_,1,1,rfl,rfl,b7,rfl,?_⟩;have b8:upd H7 b (.lst ([V.int x7,V.int y7].set 1 (V.int 9))) b=some (.lst [.int x7,.int 9]):=upd_same;generalize upd H7 b (.lst ([V.int x7,V.int y7].set 1 (V.int 9)))=H8 at k78 b8⊢;have k48:=k47.trans k78;have es8:=k78.but _ _ (fK nsb) es7;have ef8:=k78.but _ _ (fK nfb) ef7;have kl8:=KL.mono k78.tups kl7;have fl8:=KL.mono k78.tups fl7;have sB8:Same HB H8:=fun c o e=>k48.but c o (fun z=>by rw[af.mp z,hb] at e;cases e) (s4 _ _ e);refine⟨a,b,lk,lt,lh,v,ns,x7,9,W,HB,ws,ts,hs,rfl,fun H' k=>nab4 (k48.trans k),h63,b8,en4.kp k48,hWb,hb,sB8,smW,fun t ht=>⟨pW t ht,ai (w2' t ht).2.1 (by decide)⟩,fun z hz=>Ip (w3 z hz),fun lp H9 ys ps x9 y9 k89 nlp ep9 pr9 lps gd inc b9=> ?_⟩;have es9:=k89.but _ _ (fK nsb) es8;have ef9:=k89.but _ _ (fK nfb) ef8;have kl9:=KL.mono k89.tups kl8;have fl9:=KL.mono k89.tups fl8;have k49:=k48.trans k89;have sB9:Same HB H9:=fun c o e=>k89.but c o (fun z=>by rw[af.mp z,hb] at e;cases e) (sB8 _ _ e);have d:LawD ts hs ps ks fs:=⟨w2',en4.lt',w3,inc,⟨ws,w1',fun q hq=>(gd q hq).1⟩,gk,gf,by lia,by have:=CW (n:=14) (ps:=ps) (fun q hq=>(gd q hq).1.szs);lia,by lia,by lia⟩;refine⟨lp,_,rfl,.inl (SqL.of ep9),fun m1 h1=> ?_⟩;have z1:=aj h1 (.lst ys);refine⟨ls,_,rfl,.inl (SqL.of (z1 _ _ es9)),fun m2 h2=> ?_⟩;have z2:=aj h2 (.lst zs);refine⟨lf,_,rfl,.inl (SqL.of ((z1.trans z2) _ _ ef9)),fun m3 h3=> ?_⟩;have z3:=aj h3 (.lst us);have sA:=(z1.trans z2).trans z3;have g1:=(z2.trans z3) _ _ (show upd H9 m1 (.lst ys) m1=_ from upd_same);have g2:=z3 _ _ (show upd (upd H9 m1 (.lst ys)) m2 (.lst zs) m2=_ from upd_same);have g3:upd (upd (upd H9 m1 (.lst ys)) m2 (.lst zs)) m3 (.lst us) m3=_:=upd_same;generalize upd (upd (upd H9 m1 (.lst ys)) m2 (.lst zs)) m3 (.lst us)=HA at sA g1 g2 g3⊢;obtain⟨q1,q2,q3,q4,q5,q6,q7,q8,q9,q10⟩:=d.still;refine⟨700,ts,m1,m2,m3,ys,zs,us,ps,ks,fs,rfl,g1,PrL.mono sA.tups pr9,g2,KL.mono sA.tups kl9,g3,KL.mono sA.tups fl9,q1,q2,q3,q4,q5,q6,q7,q8,q9,q10,fun HC lq vs T Tn S' sC hq eq rv _ st=> ?_⟩;obtain⟨r1,r2,r3,r4,r5,r6,r7,r8,r9⟩:=d.sound st;have tr:=d.truths oW (fun q hq=>(gd q hq).2) st;have stl:=KA rv;refine⟨lq,vs,S'.steps,rfl,eq,stl,fun s hs=>⟨(r1 s hs).1.lo,(r1 s hs).2⟩,fun HD sD=> ?_⟩;have lvs:=bu stl;have sBD:Same HB HD:=((sB9.trans sA).trans sC).trans sD;refine⟨⟨_,SqL.of (sD _ _ eq)⟩,fun D hD=> ?_⟩;refine fD vs.length (fun k σ H5=>(∃o,σ=[o,some v])/\Same HD H5/\H5 D=some (.lst ((List.replicate k true).map V.bl))) ⟨⟨_,rfl⟩,aj hD _,upd_same⟩ ?_ ?_
 · rintro σ H5 ⟨_,s5,e5⟩;refine⟨⟨_,SqL.of (s5 _ _ (sD _ _ eq)),ar _⟩,D,_,rfl,SqL.of e5,?_⟩;rw[show(List.replicate vs.length true).all id=true by simp];exact q _
 · rintro k σ H5 hk ⟨⟨o,rfl⟩,s5,e5⟩;have e6:=s5 _ _ (sD _ _ eq);refine⟨⟨_,_,SqL.of e6,aq hk⟩,?_⟩;rintro x H6 ⟨rfl,hx1⟩;have hx2:=hx1 _ (SqL.of e6);obtain⟨sp,hsp,p,pf,vf,rfl,hp,hf,_,_⟩:=dt stl hx2;have s6:=sD.trans s5;have mem:=au hsp;obtain⟨o1,_⟩:=r1 sp mem;refine⟨_,vf,SqT.of (s6 _ _ hp),aJ (j:=0) rfl,v,vf,W,sp.f,rfl,hWb.same (sBD.trans s5),smW,hf.mono s6.tups,?_,KY o1.ok,fun bb H7 s7 iff=> ?_⟩
   · have:=o1.lo;cases e:sp.f with
     | is x k=>rw[e] at this;exact⟨ai this.1 (by decide),ai this.2 (by decide)⟩
     | has x t y=>rw[e] at this;exact⟨ai this.1 (by decide),ai this.2 (by decide)⟩
   obtain rfl:bb=true:=iff.mpr (tr sp mem);refine⟨_,s7 _ _ e5,nH (m:=2000000) (by rw[ae,dQ];lia) (by decide),⟨_,rfl⟩,bR (s5.trans s7) hD,?_⟩;rw[upd_same,Nk,aZ]
   rfl
end
def lR(l:K.lookup a=some ⟨.type "tuple",od,.seq its n,sl⟩)(hs:its.size<=sizeLine)(hv:Vals xs its.toList):SqT K H a xs:= .inr ⟨_,its,n,l,rfl,rfl,hs,hv⟩
def Jr{p:List Value->Prop}(h:p [])(us:List Value)(e:us.length=0):p us:=by cases us with | nil=>exact h | cons=>cases e
def oa{p:List Value->Prop}(h:∀a us,us.length=n->p (a::us))(us:List Value)(e:us.length=n+1):p us:=by cases us with | nil=>cases e | cons a us=>exact h a us (Nat.succ.inj e)
def ln1{p:List Value->Prop}(h:∀a,p [a]):∀us:List Value,us.length=1->p us:=oa fun a=>Jr (h a)
def ln2{p:List Value->Prop}(h:∀a b,p [a,b]):∀us:List Value,us.length=2->p us:=oa fun a=>oa fun b=>Jr (h a b)
def ln3{p:List Value->Prop}(h:∀a b c,p [a,b,c]):∀us:List Value,us.length=3->p us:=oa fun a=>oa fun b=>oa fun c=>Jr (h a b c)
def ln4{p:List Value->Prop}(h:∀a b c d,p [a,b,c,d]):∀us:List Value,us.length=4->p us:=oa fun a=>oa fun b=>oa fun c=>oa fun d=>Jr (h a b c d)
def ln5{p:List Value->Prop}(h:∀a b c d e,p [a,b,c,d,e]):∀us:List Value,us.length=5->p us:=oa fun a=>oa fun b=>oa fun c=>oa fun d=>oa fun e=>Jr (h a b c d e)
def ln6{p:List Value->Prop}(h:∀a b c d e f,p [a,b,c,d,e,f]):∀us:List Value,us.length=6->p us:=oa fun a=>oa fun b=>oa fun c=>oa fun d=>oa fun e=>oa fun f=>Jr (h a b c d e f)
def ln7{p:List Value->Prop}(h:∀a b c d e f g,p [a,b,c,d,e,f,g]):∀us:List Value,us.length=7->p us:=oa fun a=>oa fun b=>oa fun c=>oa fun d=>oa fun e=>oa fun f=>oa fun g=>Jr (h a b c d e f g)
section
def fAt{K:Frag}{h:Heap}{mg:Str->Option Value}{x:Str}{st:Stmt}{ps:List Str}{a:Addr}{od an:Option Addr}{sl:Array (Option Value)}{oc kV dc pm cd ct:Value}(X:K.In h)(G:h.Ns mainGlobals mg)(e:nsIn K mainGlobals x=some (some (.ref a)):=by k_is)(l:K.lookup a=some ⟨oc,od,.func (fnOf x x (fj st) (d_ st) (aM st) .none kV dc pm an cd ct),sl⟩:=by k_is)(c:codeIn K cd x=true:=by k_is)(k:keepIn K (.ref a)=true:=by k_is)(hb:∀(kV doc pm:Value) (an:Option Addr) (cdv ct:Value) (us:List Value),us.length=ps.length->bindArgs (fnOf x x (fj st) (d_ st) (aM st) .none kV doc pm an cdv ct) ⟨us,[]⟩=pure (ps.zip us):=by first | exact fun _ _ _ _ _ _=>K22.ln1 fun _=>rfl | exact fun _ _ _ _ _ _=>K22.ln2 fun _ _=>rfl | exact fun _ _ _ _ _ _=>K22.ln3 fun _ _ _=>rfl | exact fun _ _ _ _ _ _=>K22.ln4 fun _ _ _ _=>rfl | exact fun _ _ _ _ _ _=>K22.ln5 fun _ _ _ _ _=>rfl | exact fun _ _ _ _ _ _=>K22.ln6 fun _ _ _ _ _ _=>rfl | exact fun _ _ _ _ _ _=>K22.ln7 fun _ _ _ _ _ _ _=>rfl):Fq K mg x st ps:=⟨_,_,vQ l c k,(vQ l c k).binds hb,mg_of X G e⟩
def fAtM{K:Frag}{x q:Str}{st:Stmt}{ps:List Str}{a C:Addr}{od an:Option Addr}{sl:Array (Option Value)}{oc kV dc pm cd ct:Value}(e:findIn K (.ref C) x=some (some (.ref a)):=by k_is)(n:isFn K (.ref a)=true:=by k_is)(l:K.lookup a=some ⟨oc,od,.func (fnOf x q (fj st) (d_ st) (aM st) .none kV dc pm an cd ct),sl⟩:=by k_is)(c:codeIn K cd q=true:=by k_is)(k:keepIn K (.ref a)=true:=by k_is)(hb:∀(kV doc pm:Value) (an:Option Addr) (cdv ct:Value) (us:List Value),us.length=ps.length->bindArgs (fnOf x q (fj st) (d_ st) (aM st) .none kV doc pm an cdv ct) ⟨us,[]⟩=pure (ps.zip us):=by first | exact fun _ _ _ _ _ _=>K22.ln1 fun _=>rfl | exact fun _ _ _ _ _ _=>K22.ln2 fun _ _=>rfl | exact fun _ _ _ _ _ _=>K22.ln3 fun _ _ _=>rfl | exact fun _ _ _ _ _ _=>K22.ln4 fun _ _ _ _=>rfl | exact fun _ _ _ _ _ _=>K22.ln5 fun _ _ _ _ _=>rfl | exact fun _ _ _ _ _ _=>K22.ln6 fun _ _ _ _ _ _=>rfl | exact fun _ _ _ _ _ _=>K22.ln7 fun _ _ _ _ _ _ _=>rfl):Mq K C x q st ps:=⟨_,_,vQ l c k,(vQ l c k).binds hb,e,n,k⟩
def fAtD{K:Frag}{h:Heap}{mg:Str->Option Value}{x:Str}{st:Stmt}{ps:List Str}{a T:Addr}{od an:Option Addr}{sl:Array (Option Value)}{oc kV dc pm cd ct:Value}{ds its:List Value}{n:Nat}{od':Option Addr}{sl':Array (Option Value)}{oc':Value}(X:K.In h)(G:h.Ns mainGlobals mg)(e:nsIn K mainGlobals x=some (some (.ref a)):=by k_is)(l:K.lookup a=some ⟨oc,od,.func (fnOf x x (fj st) (d_ st) (aM st) (.ref T) kV dc pm an cd ct),sl⟩:=by k_is)(c:codeIn K cd x=true:=by k_is)(k:keepIn K (.ref a)=true:=by k_is)(lT:K.lookup T=some ⟨oc',od',.seq its.toArray n,sl'⟩:=by k_is)(hb:∀(kV doc pm:Value) (an:Option Addr) (cdv ct:Value) (us:List Value),us.length+ds.length=ps.length->∃k,bindArgs (fnOf x x (fj st) (d_ st) (aM st) (.ref T) kV doc pm an cdv ct) ⟨us,[]⟩=seqItems? (.ref T)>>=k/\k (some its.toArray)=pure (ps.zip (us++ds))):Dq K mg x st ps ds:=⟨_,_,_,Bs l c k,(Bs l c k).binds lT rfl hb,mg_of X G e⟩
end
def all_mk{l:PySem.W.OpenLaw}{w:World}{K:Frag}{h:Heap}{mg:Str->Option Value}{fa:Addr}(X:K.In h)(G:h.Ns mainGlobals mg)(hfa:mg "law"=some (.ref fa)){C:Addr}(cC:nsIn K mainGlobals "Lore"=some (some (.ref C)))(lc:wa K C)(mkC:makesIn K C=true)(kcC:keepIn K (.ref C)=true){D:Addr}(cD:nsIn K mainGlobals "Still"=some (some (.ref D)))(sc:uB K D)(mkD:makesIn K D=true)(kcD:keepIn K (.ref D)=true)(A1:Fq K mg "inner_kinds" yW gT)(A2:Fq K mg "note_names" xc pD)(A3:Fq K mg "named" uY ["saying"])(A4:Fq K mg "is_small" yR qql43)(A5:Fq K mg "all_small" IJ lK)(A6:Fq K mg "is_thing" yO lK)(A7:Fq K mg "show_kind" AI gT)(A8:Fq K mg "note" MF qY)(A9:Mq K C "__init__" "Lore.__init__" yV ng)(A10:Mq K C "number_of" "Lore.number_of" jy fA)(A11:Mq K C "shape_of" "Lore.shape_of" kJ fA)(A12:Mq K C "know" "Lore.know" u7 nj)(A13:Mq K C "learn" "Lore.learn" u3 AS)(A14:Fq K mg "lore_of" uZ AW)(A15:Fq K mg "stands_for_thing" uV ["x"])(A16:Fq K mg "things_named" qU ["pairs"])(A17:Fq K mg "bits_of" u_ ["mask"])(A18:Fq K mg "in_order" qX xi)(A19:Mq K D "__init__" "Still.__init__" yS xh)(A20:Mq K D "keep_is" "Still.keep_is" qW AO)(A21:Mq K D "keep_has" "Still.keep_has" ot AN)(A22:Mq K D "tell_is" "Still.tell_is" qV ni)(A23:Mq K D "tell_has" "Still.tell_has" oq qZ)(A24:Mq K D "let_stand" "Still.let_stand" md fA)(A25:Mq K D "take_over" "Still.take_over" l_ AQ)(A26:Mq K D "begin" "Still.begin" uX AR)(A27:Mq K D "go_on" "Still.go_on" yT ng)(A28:Mq K D "from_kind" "Still.from_kind" mf pC)(A29:Mq K D "from_pairs" "Still.from_pairs" jZ pC)(A30:Mq K D "from_end" "Still.from_end" ow AU)(A31:Mq K D "from_tie" "Still.from_tie" ou pA)(A32:Mq K D "from_chains" "Still.from_chains" jx pA)(A33:Dq K mg "still" yP AV [.none])(A34:Fq K mg "_law_cell" Dj uf)(A35:Fq K mg "_law_draw" Di ze)(A36:Fq K mg "_law_start" yQ zf)(A37:Fq K mg "_law_words" yM vb)(A38:Fq K mg "_law_things" uU vb)(A39:Fq K mg "_law_kind" AJ vd)(A40:Fq K mg "_law_whole" yN va)(A41:Fq K mg "_law_kindly" qi nr)(A42:Fq K mg "_law_is_claim" yY Dp)(A43:Fq K mg "_law_are_steps" II va)(A44:Fq K mg "_law_saying" uW F3)(A45:Fq K mg "_law_world" yL Ba)(A46:Fq K mg "_law_of" LX lM)(A47:Fq K mg "_law_all_of" yZ ue)(A48:Fq K mg "_law_meant" yU q_)(A49:Fq K mg "_law_kept" Dg AY)(A50:Fq K mg "_law_next" Df ud)(A51:Fq K mg "_law_has" IH xj)(A52:Fq K mg "_law_holds" yX A_)(A53:Fq K mg "_law_told" De Bb)(A54:Fq K mg "law" IG xl){it1:Tok}(ia1:nsIn K mainGlobals "MOST_SIGNS"=some (some (.int 12 it1))){ta1:Addr}{tod1:Option Addr}{tn1:Nat}{tsl1:Array (Option Value)}{tt1_0 tt1_1:Tok}(sa1:nsIn K mainGlobals "WHOLES"=some (some (.ref ta1)))(sb1:K.lookup ta1=some ⟨.type "tuple",tod1,.seq #[.str "anything" tt1_0,.str "nothing" tt1_1] tn1,tsl1⟩){da1:Addr}{ddn1:Nat}{dt1_0 dt1_1 dt1_2 dt1_3 dt1_4 dt1_5:Tok}{de1_0 de1_1 de1_2 de1_3 de1_4 de1_5:Addr}(dA1:nsIn K mainGlobals "FORMS"=some (some (.ref da1)))(dB1:K.lookup da1=some ⟨.type "dict",none,.dict #[⟨PyData.keyHash w.params "every",.str "every" dt1_0,.ref de1_0⟩,⟨PyData.keyHash w.params "no",.str "no" dt1_1,.ref de1_1⟩,⟨PyData.keyHash w.params "thing",.str "thing" dt1_2,.ref de1_2⟩,⟨PyData.keyHash w.params "tied",.str "tied" dt1_3,.ref de1_3⟩,⟨PyData.keyHash w.params "within",.str "within" dt1_4,.ref de1_4⟩,⟨PyData.keyHash w.params "makes",.str "makes" dt1_5,.ref de1_5⟩] ddn1,#[]⟩){ddod1_0:Option Addr}{dm1_0:Nat}{ddsl1_0:Array (Option Value)}{du1_0_0 du1_0_1:Tok}(dC1_0:K.lookup de1_0=some ⟨.type "tuple",ddod1_0,.seq #[.str "kind" du1_0_0,.str "kind" du1_0_1] dm1_0,ddsl1_0⟩){ddod1_1:Option Addr}{dm1_1:Nat}{ddsl1_1:Array (Option Value)}{du1_1_0 du1_1_1:Tok}(dC1_1:K.lookup de1_1=some ⟨.type "tuple",ddod1_1,.seq #[.str "kind" du1_1_0,.str "kind" du1_1_1] dm1_1,ddsl1_1⟩){ddod1_2:Option Addr}{dm1_2:Nat}{ddsl1_2:Array (Option Value)}{du1_2_0 du1_2_1:Tok}(dC1_2:K.lookup de1_2=some ⟨.type "tuple",ddod1_2,.seq #[.str "thing" du1_2_0,.str "kind" du1_2_1] dm1_2,ddsl1_2⟩){ddod1_3:Option Addr}{dm1_3:Nat}{ddsl1_3:Array (Option Value)}{du1_3_0 du1_3_1 du1_3_2:Tok}(dC1_3:K.lookup de1_3=some ⟨.type "tuple",ddod1_3,.seq #[.str "thing" du1_3_0,.str "tie" du1_3_1,.str "thing" du1_3_2] dm1_3,ddsl1_3⟩){ddod1_4:Option Addr}{dm1_4:Nat}{ddsl1_4:Array (Option Value)}{du1_4_0 du1_4_1:Tok}(dC1_4:K.lookup de1_4=some ⟨.type "tuple",ddod1_4,.seq #[.str "tie" du1_4_0,.str "tie" du1_4_1] dm1_4,ddsl1_4⟩){ddod1_5:Option Addr}{dm1_5:Nat}{ddsl1_5:Array (Option Value)}{du1_5_0 du1_5_1 du1_5_2:Tok}(dC1_5:K.lookup de1_5=some ⟨.type "tuple",ddod1_5,.seq #[.str "tie" du1_5_0,.str "tie" du1_5_1,.str "tie" du1_5_2] dm1_5,ddsl1_5⟩)(z1:nsIn K mainGlobals "all"=some none)(z2:nsIn K mainGlobals "any"=some none)(z3:nsIn K mainGlobals "bool"=some none)(z4:nsIn K mainGlobals "int"=some none)(z5:nsIn K mainGlobals "isinstance"=some none)(z6:nsIn K mainGlobals "len"=some none)(z7:nsIn K mainGlobals "list"=some none)(z8:nsIn K mainGlobals "range"=some none)(z9:nsIn K mainGlobals "str"=some none)(z10:nsIn K mainGlobals "tuple"=some none)(z11:nsIn K mainGlobals "zip"=some none):∃fd:FuncData,(∀s v,BindsTo s fd ⟨[v],[]⟩ [("_law_script",v)])/\∀base:Heap,K.In base->base.Ns mainGlobals mg->b_ l.prog w K mg base eU 66 fa fd xl (Ay K):=by
 obtain⟨f0,d0,F0,_,m0⟩:=A54.ex;cases hfa.symm.trans m0;obtain⟨_,_,_,_,_,_,_,_,_,hd,_⟩:=id F0.ex;have mCC:=mg_of X G cC;have mCD:=mg_of X G cD;have mi1:=mg_of X G ia1;have ms1:=mg_of X G sa1;have md1:=mg_of X G dA1;have n1:=mg_none_of X G z1;have n2:=mg_none_of X G z2;have n3:=mg_none_of X G z3;have n4:=mg_none_of X G z4;have n5:=mg_none_of X G z5;have n6:=mg_none_of X G z6;have n7:=mg_none_of X G z7;have n8:=mg_none_of X G z8;have n9:=mg_none_of X G z9;have n10:=mg_none_of X G z10;have n11:=mg_none_of X G z11;refine⟨d0,fun s v=>by rw[hd];exact .of_eq rfl,fun base _ _=> ?_⟩;have hW:∀H,SqT K H ta1 [.str "anything",.str "nothing"]:=fun H=>lR sb1 (by show 2<=sizeLine;exact bz (by decide)) (.cons ⟨_,rfl⟩ (.cons ⟨_,rfl⟩ .nil));have kd:uC K l.prog w da1 [(Sum.inr "every",.ref de1_0),(Sum.inr "no",.ref de1_1),(Sum.inr "thing",.ref de1_2),(Sum.inr "tied",.ref de1_3),(Sum.inr "within",.ref de1_4),(Sum.inr "makes",.ref de1_5)]:=Ey [("every",dt1_0,.ref de1_0),("no",dt1_1,.ref de1_1),("thing",dt1_2,.ref de1_2),("tied",dt1_3,.ref de1_3),("within",dt1_4,.ref de1_4),("makes",dt1_5,.ref de1_5)] dB1 (.cons ⟨rfl,rfl⟩ (.cons ⟨rfl,rfl⟩ (.cons ⟨rfl,rfl⟩ (.cons ⟨rfl,rfl⟩ (.cons ⟨rfl,rfl⟩ (.cons ⟨rfl,rfl⟩ .nil)))))) (by show(["every","no","thing","tied","within","makes"]:List Str).Nodup;decide+kernel);have hF:∀(fo:Str) (ss:List Str),(fo,ss)∈jE->∃kvs a,uC K l.prog w da1 kvs/\cB kvs (.inr fo)=some (.ref a)/\∀H,SqT K H a (ss.map V.str):=by
  intro fo ss hf;simp only[jE,aI,dU,bW,Prod.mk.injEq] at hf;rcases hf with⟨rfl,rfl⟩ | ⟨rfl,rfl⟩ | ⟨rfl,rfl⟩ | ⟨rfl,rfl⟩ | ⟨rfl,rfl⟩ | ⟨rfl,rfl⟩
  · exact⟨_,de1_0,kd,rfl,fun H=>lR dC1_0 (by show 2<=sizeLine;exact bz (by decide)) (.cons ⟨_,rfl⟩ (.cons ⟨_,rfl⟩ .nil))⟩
  · exact⟨_,de1_1,kd,rfl,fun H=>lR dC1_1 (by show 2<=sizeLine;exact bz (by decide)) (.cons ⟨_,rfl⟩ (.cons ⟨_,rfl⟩ .nil))⟩
  · exact⟨_,de1_2,kd,rfl,fun H=>lR dC1_2 (by show 2<=sizeLine;exact bz (by decide)) (.cons ⟨_,rfl⟩ (.cons ⟨_,rfl⟩ .nil))⟩
  · exact⟨_,de1_3,kd,rfl,fun H=>lR dC1_3 (by show 3<=sizeLine;exact bz (by decide)) (.cons ⟨_,rfl⟩ (.cons ⟨_,rfl⟩ (.cons ⟨_,rfl⟩ .nil)))⟩
  · exact⟨_,de1_4,kd,rfl,fun H=>lR dC1_4 (by show 2<=sizeLine;exact bz (by decide)) (.cons ⟨_,rfl⟩ (.cons ⟨_,rfl⟩ .nil))⟩
  · exact⟨_,de1_5,kd,rfl,fun H=>lR dC1_5 (by show 3<=sizeLine;exact bz (by decide)) (.cons ⟨_,rfl⟩ (.cons ⟨_,rfl⟩ (.cons ⟨_,rfl⟩ .nil)))⟩
 have G1:=A1.cl (P:=l.prog) (w:=w) (base:=base) fun F=>DX F n5 n9;have G2:=xC (P:=l.prog) (w:=w) (base:=base) A2 G1 ms1 hW n5 n9 60;have G3:=A3.cl fun F=>DT F G2 md1 hF n11 n7;have G4:=A4.cl (P:=l.prog) (w:=w) (base:=base) fun F=>DQ F;have G5:=A5.cl fun F=>Ji F G4 n1;have G6:=A6.cl fun F=>DN F G5 n6 mi1;have G7:=xb (P:=l.prog) (w:=w) (base:=base) A7 n5 n9;have G8:=A8.cl (P:=l.prog) (w:=w) (base:=base) fun F=>KW F;have G10:=Bj (P:=l.prog) (w:=w) (base:=base) A10 A11 lc n6 n5 n9 G7 25;have G9:=A9.il mkC kcC mCC fun F=>DV (by decide) F lc G10;have G12:=xR (P:=l.prog) (w:=w) (base:=base) A12 lc G8 25;have G13:=A13.ml fun F=>DW F lc n11 md1 hF G12 G10 G8;have G14:=A14.cl fun F=>B0 F lc G9 G13 G12 G10;have G15:=A15.cl fun F=>BY F n5 n9 G6;have G16:=A16.cl fun F=>zl F G3;have G17:=A17.cl (P:=l.prog) (w:=w) (base:=base) fun F=>Gv F;have G18:=A18.cl (P:=l.prog) (w:=w) (base:=base) fun F=>Jd F;have G19:=A19.il (P:=l.prog) (w:=w) (base:=base) mkD kcD mCD fun F=>DR (C:=C) F sc;have G20:=A20.ml (P:=l.prog) (w:=w) (mg:=mg) (base:=base) fun F=>B3 F lc sc n6;have G21:=A21.ml (P:=l.prog) (w:=w) (mg:=mg) (base:=base) fun F=>zp (C:=C) F sc n6;have G22:=A22.ml fun F=>BX F lc sc G20;have G24:=A24.ml fun F=>xx F lc sc G22 G15;have G23:=A23.ml fun F=>zm F lc sc G21 G24;have G25:=A25.ml (P:=l.prog) (w:=w) (mg:=mg) (base:=base) fun F=>DS F;have G26:=A26.ml fun F=>D5 (by decide) F lc sc n7 G22 G23 G10 G24 G16;have G28:=A28.ml fun F=>xy F lc sc G22 G23;have G29:=A29.ml fun F=>vw F lc sc G22 G18;have G30:=A30.ml fun F=>zr F lc sc G22 G17 n7;have G31:=A31.ml fun F=>zq F lc sc G22 G23 G17;have G32:=A32.ml fun F=>sO F lc sc G23 G17;have G27:=A27.ml fun F=>Gq F sc n6 G28 G29 G30 G31 G32;have G33:=A33.dl fun F=>DO (by decide) F sc G19 G25 G26 G27 G14;have G34:=A34.cl (P:=l.prog) (w:=w) (base:=base) fun F=>Gu F n6;have G35:=A35.cl (P:=l.prog) (w:=w) (base:=base) fun F=>Gs F;have G36:=A36.cl (P:=l.prog) (w:=w) (base:=base) fun F=>DP F;have G37:=A37.cl (P:=l.prog) (w:=w) (base:=base) fun F=>DM F n6 n8;have G38:=A38.cl fun F=>BW F n8 G37;have G39:=xU (P:=l.prog) (w:=w) (base:=base) A39 n6 G35 3;have G40:=A40.cl (P:=l.prog) (w:=w) (base:=base) fun F=>BV F n5 n4 n3;have G41:=rF (P:=l.prog) (w:=w) (base:=base) A41 n5 n9 n10 n6 26;have G42:=A42.cl fun F=>DZ F n5 n9 n10 n6 G41;have G43:=A43.cl fun F=>Jh F n5 n9 n10 n7 n6 n1 G42 G40;have G44:=A44.cl fun F=>BZ F n8 G35 G39;have G47:=A47.cl (P:=l.prog) (w:=w) (base:=base) fun F=>D6 F n1;have G50:=A50.cl (P:=l.prog) (w:=w) (base:=base) fun F=>Gj F;have G46:=D8 (P:=l.prog) (w:=w) (base:=base) A46 n5 n10 n7 n8 31;have G48:=A48.cl fun F=>DU F n5 n9 G46;have G51:=A51.cl fun F=>Jg F n2 G48 G50;have G52:=A52.cl fun F=>DY F G48 G51 G47 G46;have G49:=A49.cl fun F=>Gp F G48 G51 G47 G46 G50;have G45:=A45.cl fun F=>DL F n8 G34 G35 G36;have G53:=A53.cl fun F=>Gf F n8 G36 G44 G49;exact Jf F0 n8 n7 n1 G34 G37 G38 G45 G36 G39 G53 G33 G43 G52
def walk{l:PySem.W.OpenLaw}{K:Params->Frag}(hn:l.most=some 63)(hdf:d.params.defaults=[])(hY:∀w h,YP w h->(K w.params).In h)(F:∀w mg fa h,(K w.params).In h->h.Ns mainGlobals mg->mg d.name=some (.ref fa)->∃fd:FuncData,(∀s u,BindsTo s fd ⟨[u],[]⟩ [("_law_script",u)])/\∀base:Heap,(K w.params).In base->base.Ns mainGlobals mg->b_ l.prog w (K w.params) mg base eU 66 fa fd xl (Ay (K w.params))):PySem.W.WalkO q loose XP YP l.row.toRowW d [] (fun f vs=>PySem.call f vs):=L2.walk_of (n:=63) (k:=66) (x:="_law_script") (CX:=fun _=>eU) (sp:=fun w=>Ay (K w.params)) hn (by decide) hdf ⟨rfl,by decide,by decide,rfl⟩ hY F (fun _ _ a ns hl _ hS=>⟨a,ns,rfl,hS,hl,fun _=>rfl⟩) fun _ _ _ _ _ z=>z
end K22
namespace PySem.W.Fast
def tw925154743432212394:Unit:=()
def tw2666701587977993008:Unit:=()
def tw8897149119810544605:Unit:=()
def tw13130755499846719960:Unit:=()
def tw13223363372250736461:Unit:=()
def tw5859192803324162845:Unit:=()
def tw1020304814678479165:Unit:=()
def tw5303453811396503060:Unit:=()
def tw12187718897737578580:Unit:=()
def tw12248945988463299865:Unit:=()
def tw543512581996969327:Unit:=()
def tw10845737121011803907:Unit:=()
def tw17266361978421233449:Unit:=()
def tw3042408837459739952:Unit:=()
def tw9316270141681813987:Unit:=()
def tw9939574448391527092:Unit:=()
def tw13081005209206138031:Unit:=()
def tw1247606058987524959:Unit:=()
def tw4096766428737186488:Unit:=()
def tw16368022108269604703:Unit:=()
def tw4326719170875636037:Unit:=()
def tw11399943069081702034:Unit:=()
def tw12828729315816872477:Unit:=()
def tw16962504299583935949:Unit:=()
def tw4730962811891531857:Unit:=()
def tw9672000607465910780:Unit:=()
def tw11140394561799461238:Unit:=()
def tw17755961900130041011:Unit:=()
def tw11889784545203543524:Unit:=()
def tw2949548386877830938:Unit:=()
def tw5914630570055680143:Unit:=()
def tw14613124036185263962:Unit:=()
def tw17846606999222362340:Unit:=()
def tw12652774567050549510:Unit:=()
def tw3508143812448991716:Unit:=()
def tw14396604520524756399:Unit:=()
def tw15331824796677917957:Unit:=()
def tw11035182809828862019:Unit:=()
def tw11418275299660137656:Unit:=()
def tw16203009018770257518:Unit:=()
def tw14105666141888554708:Unit:=()
def tw6533738758358483221:Unit:=()
def tw14081226624023762484:Unit:=()
def tw14950755404828972618:Unit:=()
def tw2462477161115735331:Unit:=()
def tw7288419801756427224:Unit:=()
def tw4185049341589694675:Unit:=()
def tw4093442405689381737:Unit:=()
def tw15166385883750691041:Unit:=()
def tw1197442749411866790:Unit:=()
def tw15955469076843461102:Unit:=()
def tw12684579389890450010:Unit:=()
def tw17722626726452284109:Unit:=()
def tw8405810274259801214:Unit:=()
def tw14324239415805960476:Unit:=()
def tw15084402471512385231:Unit:=()
def tw6557764539885650656:Unit:=()
def tw14820202433629088505:Unit:=()
def tw8812856322635858727:Unit:=()
def tw14819960186140927351:Unit:=()
def tw8093929704350075323:Unit:=()
def tw16785836020474858546:Unit:=()
def tw1343659126722191221:Unit:=()
def tw17697400090252417339:Unit:=()
def tw5128522253249468623:Unit:=()
def tw11240779450372314932:Unit:=()
def tw12453189855022394691:Unit:=()
def tw2597531580804580392:Unit:=()
def tw6073299176638679473:Unit:=()
def tw300714000603865595:Unit:=()
def tw1178649506944050873:Unit:=()
def tw14048700909569825725:Unit:=()
def tw18001077320844823127:Unit:=()
def tw12897158482220129788:Unit:=()
def tw8988001453286355525:Unit:=()
def tw1500377182958858743:Unit:=()
def tw7172336137873889764:Unit:=()
def tw3630773574903348053:Unit:=()
def tw5187107717998660744:Unit:=()
def tw8024933934290978920:Unit:=()
def tw2136364098300347102:Unit:=()
def tw17930768182610357626:Unit:=()
def tw18090956385974814537:Unit:=()
def tw998763343387912935:Unit:=()
def tw372015524086375445:Unit:=()
def tw10011676876955922313:Unit:=()
def tw16121503634511314520:Unit:=()
def tw6446901409974180249:Unit:=()
def tw6696471444291640990:Unit:=()
def tw7060507430918004249:Unit:=()
def tw7321719805716700092:Unit:=()
def tw11467636381538373:Unit:=()
def tw3196873807511230221:Unit:=()
def tw1246376495548623055:Unit:=()
def tw2490102686070104212:Unit:=()
def tw8336583105665772950:Unit:=()
def tw18067134330129039817:Unit:=()
end PySem.W.Fast
open PySem PySem.W PyProof.Rows
set_option maxRecDepth 100000 in
set_option maxHeartbeats 0 in
theorem PySem.Challenge.cw_kinwords_k22_whole_standstills_hold_holds : PySem.Challenge.rw_kinwords_k22_whole_standstills_hold.Holds := by
 w_on;o_law;k_head;(case hw=>w_witness2)
 k_fill
 refine K22.walk (l:=PySem.Challenge.rw_kinwords_k22_whole_standstills_hold) rfl rfl (fun w h Y=>PySem.W.kIn_of Y) ?F
 case F=>
  intro w mg fa h KX G hmg;refine' K22.all_mk KX G hmg ?p1 ?p2 ?p3 ?p4 ?p5 ?p6 ?p7 ?p8 ?p9 ?p10 ?p11 ?p12 ?p13 ?p14 ?p15 ?p16 ?p17 ?p18 ?p19 ?p20 ?p21 ?p22 ?p23 ?p24 ?p25 ?p26 ?p27 ?p28 ?p29 ?p30 ?p31 ?p32 ?p33 ?p34 ?p35 ?p36 ?p37 ?p38 ?p39 ?p40 ?p41 ?p42 ?p43 ?p44 ?p45 ?p46 ?p47 ?p48 ?p49 ?p50 ?p51 ?p52 ?p53 ?p54 ?p55 ?p56 ?p57 ?p58 ?p59 ?p60 ?p61 ?p62 ?p63 ?p64 ?p65 ?p66 ?p67 ?p68 ?p69 ?p70 ?p71 ?p72 ?p73 ?p74 ?p75 ?p76 ?p77 ?p78 ?p79 ?p80 ?p81 ?p82 ?p83 ?p84
  case p1 | p3 | p4 | p5 | p7 | p8 | p63 | p64 | p65 | p66 | p67 | p68 | p69 | p70 | p71 | p72 | p73 | p74 | p75 | p76 | p77 | p78 | p79 | p80 | p81 | p82 | p83 | p84=>k_is
  case p6=>refine⟨⟨?_,?_,?_,?_⟩,?_,?_,?_,?_,?_,?_,?_,?_,?_,?_,?_⟩<;>first | k_is | (unfold L2.NoAttr;k_is)
  case p2=>refine⟨⟨?_,?_,?_,?_⟩,?_,?_,?_,?_,?_,?_,?_,?_,?_,?_,?_,?_,?_,?_,?_⟩<;>first | k_is | (unfold L2.NoAttr;k_is)
  case p9 | p10 | p11 | p12 | p13 | p14 | p15 | p16 | p22 | p23 | p24 | p25 | p26 | p42 | p43 | p44 | p45 | p46 | p47 | p48 | p49 | p50 | p51 | p52 | p53 | p54 | p55 | p56 | p57 | p58 | p59 | p60 | p61 | p62=>exact K22.fAt KX G
  case p17 | p18 | p19 | p20 | p21 | p27 | p28 | p29 | p30 | p31 | p32 | p33 | p34 | p35 | p36 | p37 | p38 | p39 | p40=>exact K22.fAtM
  case p41=>exact K22.fAtD (its:=[.none]) KX G (hb:=fun _ _ _ _ _ _ us hl=>match us,hl with | [_,_,_],_=>⟨_,rfl,rfl⟩)
