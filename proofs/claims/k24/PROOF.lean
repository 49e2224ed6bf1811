import PyProof.Rows.All
import Wide.All
import OpenK.AllK
import Wide.FinOn
import Lean
import PyProof.EqAt
import PyProof.EqKinds
import PyProof.TupleCall
import PyProof.NeKinds
import PyProof.Rows.FStr
import PyProof.Rows.Range3
import PyProof.StrLawsIn
import PyProof.WalksEnum
import PyProof.EnumMake
import PyProof.Rows.EnumRows
import PyProof.Rows.StrNews2
import PyProof.StrLawsFirst
import PyProof.StrLawsChain
import PyProof.StrLawsTight
import PyProof.StrBlockH
import KE.KEqDict
import PyProof.DictWalks
import PyProof.ListRange
import PyProof.ZipIter
import PyProof.Rows.SortRev
import PyProof.FactsAll.subtypes_5
import KE.KDictSum
import PyProof.Rows.SetFrom
import PyProof.AttrMiss
import PyProof.IsiH_list
import KE.KDictOf
import PyProof.FactsAll.NoneType_1
import PyProof.StrCalls
import PyProof.ReprRoads
import PyProof.CallFns
import PyProof.StrLawsRepr
import PySem.Challenge.RW_kinwords_k24_goals_and_what_is_not_asked
def BE:=@List.eq_nil_of_length_eq_zero
def BJ:=@PySem.wpAny_ite_false
def Bl:=@decide_eq_decide
def By:=@List.mem_flatMap
def D0:=@PySem.F.slot_dict_setdefault
def D1:=@Nat.testBit_xor
def D2:=@Nat.and_le_left
def D4:=@List.of_mem_zip
def D5:=@List.mem_filter
def D6:=@PySem.F.args_tuple_iterator_next_1
def D7:=@Bool.or_eq_true
def Eb:=@PySem.F.entry_tuple_iterator_next
def Eg:=@PySem.wpAny_Expr_any
def FN:=@PySem.boot_len
def FP:=@List.drop_zero
def FQ:=@List.append_cancel_left_eq
def FU:=@PySem.Calls.Name_function_global
def Ft:=@if_false
def GC:=@PySem.F.slot_dict_getitem
def GI:=@PySem.wpAny_onRaise
def IG:=@Bool.or_false
def IR:=@decide_eq_false_iff_not
def IS:=@PySem.F.plainAttrs_dict
def IT:=@PySem.F.args_dict_get_3
def IU:=@PyProof.Rows.boot_tuple
def Iw:=@Option.isSome_iff_exists
def J2:=@List.map_nil
def J6:=@List.getElem?_set_self
def JP:=@PySem.call_meetsIn
def JV:=@PySem.W.cellsFrom_some
def JW:=@PySem.F.entry_dict_get
def JX:=@Nat.le_of_eq
def JY:=@Nat.div_div_eq_div_mul
def Jk:=@PyProof.Rows.subscriptTail_builtinR
def KO:=@PySem.sizeLine_eq
def Kg:=@PySem.codeAny_handlers_test
def Km:=@PySem.W.methodCall_KW
def Ko:=@List.filterMap_append
def Ks:=@PySem.wpAny_updateSeq_pair
def Kt:=@PySem.wpAny_newFunctionEnv
def Ku:=@PySem.wpAny_loadName_local
def Kx:=@true_and
def L5:=@List.flatten_append
def L6:=@List.flatMap_append
def L9:=@Int.toNat_of_nonneg
def LD:=@PySem.wpAny_raiseNew_none
def LF:=@PySem.wpAny_loadName_cell
def LG:=@PySem.wpAny_handleBy_cons
def LZ:=@PySem.W.callWith_K0
def Ln:=@PySem.codeAny_call_builtin
def Lr:=@Sum.inr.inj
def Lv:=@PySem.Obj.data_mapDictKeys
def Lw:=@Nat.mul_add
def Lz:=@List.getElem?_set_ne
def MB:=@PySem.call_meets
def MC:=@PyProof.Rows.Subscript_
def MD:=@PySem.SeqAt.EqAt.str_int
def ME:=@PySem.SeqAt.EqAt.int_str
def MF:=@Nat.mod_lt
def MG:=@List.zip_nil_right
def MH:=@List.filterMap_map
def MI:=@PySem.Code.quiet_builtin
def MJ:=@Bool.false_eq_true
def MK:=@PySem.wpAny_pyIter_list
def ML:=@PySem.wpAny_assign_Name
def MM:=@PySem.wpAny_Call_method
def MN:=@PySem.slot_list_getitem
def MO:=@PyProof.Rows.assignInOrder_nil
def MP:=@PySem.W.kitx_list
def MQ:=@PySem.W.kitx_dict
def MR:=@PySem.Obj.cls_mapFields
def MS:=@Nat.le_succ_of_le
def MT:=@List.idxOf_append
def MU:=@List.ext_getElem?
def MV:=@PySem.F.attr_ValueError
def MW:=@PySem.F.args_zip_next_1
def Ma:=@PySem.wpAny_pyIter_tuple
def Mb:=@PySem.wpAny_Name
def Md:=@PySem.typeIs_str
def Mz:=@PySem.findBy_of_findIdx?
def aA:=@PySem.wpAny_pure
def aB:=@PySem.Heap.lt_size
def aE:=@List.getElem?_eq_getElem
def aG:=@if_neg
def aH:=@List.mem_cons_of_mem
def aI:=@List.mem_append
def aK:=@if_pos
def aL:=@List.mem_cons
def aO:=@List.mem_cons_self
def aP:=@Bool.false_ne_true
def aQ:=@List.size_toArray
def aR:=@PySem.Paired.length
def aS:=@List.mem_append_left
def aU:=@PySem.Heap.get?_push_size
def aV:=@List.getElem?_map
def aY:=@Nat.le_succ
def a_:=@List.take_length
def aa:=@PySem.wpAny_bind
def ag:=@decide_eq_false
def ah:=@Nat.lt_of_lt_of_le
def ai:=@List.not_mem_nil
def ak:=@List.length_append
def ao:=@Nat.le_trans
def aq:=@Nat.le_refl
def ar:=@PySem.Heap.get?_push_of_some
def au:=@Nat.zero_le
def av:=@List.mem_of_getElem?
def aw:=@List.length_map
def ax:=@decide_eq_true
def ay:=@List.mem_singleton
def bA:=@Nat.lt_of_le_of_lt
def bB:=@Ne.symm
def bC:=@List.map_append
def bF:=@List.take_add_one
def bG:=@List.map_cons
def bJ:=@PySem.wpAny_mono
def bM:=@List.getElem?_append_left
def bP:=@PyProof.Rows.boot_isinstance
def bQ:=@PyProof.Rows.boot_list
def bT:=@PySem.wpAny_field
def bU:=@beq_eq_false_iff_ne
def bV:=@List.getElem?_append_right
def bW:=@Int.toNat_natCast
def b_:=@Option.map_eq_some_iff
def ba:=@Bool.and_eq_true
def be:=@List.mem_append_right
def bf:=@Nat.ne_of_lt
def bj:=@List.length_cons
def bp:=@List.getElem?_eq_some_iff
def bw:=@PySem.Str.length_append
def cA:=@List.lookup_cons
def cF:=@PyProof.Rows.locs
def cH:=@PySem.mem_of_lookup
def cI:=@PySem.wpAny_newObj_type
def cJ:=@Nat.lt_succ_of_lt
def cK:=@PySem.wpAny_holding
def cR:=@Nat.le_add_right
def cS:=@List.length_take
def cY:=@PySem.wpAny_truthy_bool
def cc:=@List.mem_map
def cj:=@or_false
def ck:=@of_decide_eq_true
def cy:=@List.mem_range
def cz:=@List.cons.injEq
def d7:=@PySem.wpAny_execs_nil
def dF:=@PySem.Heap.get?_update_other
def dG:=@PySem.wpAny_standAt
def dQ:=@Nat.succ_le_succ
def dR:=@List.cons_append
def dU:=@List.all_eq_true
def dZ:=@PySem.Heap.get?_update_self
def d_:=@Option.some.inj
def de:=@PySem.Heap.size_push
def dm:=@PySem.wpAny_Call_Name_kw
def dq:=@List.mem_nil_iff
def dt:=@Int.emod_lt_of_pos
def dy:=@decide_eq_true_eq
def dz:=@Nat.testBit_two_pow_mul
def eC:=@Nat.ne_of_gt
def eQ:=@PySem.wpAny_callSpecial?_slot
def ee:=@List.nodup_cons
def eh:=@List.length_nil
def ej:=@Int.emod_nonneg
def fA:=@List.length_replicate
def fB:=@List.foldl_append
def fI:=@PySem.wpAny_seqItems
def fJ:=@Nat.eq_of_testBit_eq
def fK:=@PySem.F.slot_tuple_iterator_next
def fL:=@Array.getElem?_eq_some_iff
def fP:=@Nat.lt_or_ge
def f_:=@List.mem_map_of_mem
def fc:=@PySem.Obj.data_mapFields
def fe:=@Nat.le_of_lt
def ff:=@List.mem_filterMap
def fg:=@PySem.wpAny_passesOwn
def fh:=@Nat.testBit_and
def fj:=@List.nil_append
def fk:=@List.append_nil
def fm:=@Nat.lt_irrefl
def fq:=@List.all_cons
def fz:=@PyProof.Rows.boot_str
def g9:=@PySem.codeAny_mono
def gA:=@List.find?_cons
def gB:=@Bool.eq_iff_iff
def gC:=@PySem.wpAny_setField_rec
def gD:=@PySem.tupleKind_room_in1
def gM:=@PySem.Calls.spliced_cons
def gQ:=@Nat.exists_eq_add_of_le
def g_:=@List.length_range
def gc:=@List.filterMap_cons
def gu:=@Option.map_some
def gw:=@List.forIn_cons
def gz:=@List.foldl_cons
def hG:=@PySem.Calls.callWith_builtin
def hJ:=@Bool.and_false
def iA:=@PySem.wpAny_rule
def iB:=@PySem.wpAny_execs_cons
def iC:=@PySem.wpAny_call_entry
def iD:=@PySem.wpAny_call
def iL:=@beq_iff_eq
def iM:=@List.length_drop
def iO:=@List.getElem_mem
def iP:=@Nat.add_assoc
def iQ:=@List.any_cons
def iR:=@PySem.wpAny_of_eq
def ir:=@PyProof.Rows.slot_tuple_getitem
def iz:=@PySem.Obj.isFreed_of_fields
def jR:=@if_true
def jX:=@PyProof.Rows.callWith_type1
def jY:=@Nat.pow_succ
def ji:=@Nat.pow_pos
def jj:=@Nat.pow_le_pow_right
def jk:=@List.mem_iff_getElem
def jr:=@List.sum_append
def jt:=@List.range_succ
def jv:=@Array.length_toList
def kB:=@Nat.mod_two_eq_zero_or_one
def kD:=@List.getD_eq_getElem?_getD
def kE:=@List.filter_append
def kr:=@PySem.wpAny_setField
def lJ:=@List.findIdx?_eq_none_iff
def lO:=@Option.some.injEq
def lP:=@List.nodup_append
def lQ:=@List.append_assoc
def lR:=@Bool.eq_false_iff
def lU:=@PySem.wpAny_comprehension_free
def mU:=@Nat.mul_assoc
def mV:=@List.sum_cons
def nQ:=@PySem.W.Looks.ld
def nR:=@PySem.F.plainAttrs_list
def nU:=@Nat.lt_succ_self
def nV:=@List.getElem?_replicate
def nW:=@List.any_eq_true
def oU:=@Nat.testBit_lt_two_pow
def oV:=@Nat.not_lt
def oW:=@List.take_of_length_le
def oX:=@List.map_map
def pL:=@PySem.PassesOwn.never
def pM:=@PySem.F.slot_zip_next
def rE:=@PySem.wpAny_newTuple
def rR:=@PySem.Str.cps_append
def rS:=@Nat.testBit_or
def rT:=@PySem.Calls.evalArgs_plain
def rV:=@Bool.false_and
def ro:=@PySem.F.slot_dict_get
def rp:=@List.take_append_drop
def rq:=@List.getElem?_eq_none
def vd:=@PySem.W.plainGet_of
def vg:=@Nat.testBit_two_pow
def vi:=@PySem.Heap.SameBut.update
def vm:=@PySem.wpAny_attempt
def xA:=@PySem.wpAny_loadPart_at
def xp:=@PyProof.Rows.assignInOrder_cons
def xu:=@Nat.eq_zero_or_pos
def xv:=@List.zip_cons_cons
def yS:=@Option.isSome_map
def yT:=@PySem.Calls.spliced_nil
open PySem.W (instObj Frag lookIn plainGet hasDictIn findIn isFn makesIn typeIn emptyDict keepIn mroIn kitOne kia_one callWith_K fnOf codeIn nsOkIn nsIn exmOne subIn isClsIn mg_of mg_none_of)
set_option compiler.extract_closed false
set_option bootstrap.genMatcherCode false
set_option genSizeOf false
set_option Elab.async false
set_option linter.all false
set_option maxRecDepth 100000
namespace L2
open PySem PySem.Spec PyProof.Rows
abbrev Key:=Sum Int Str
noncomputable def qL:Key->Value->Bool
 | .inl k,v=>Value.isInt k v
 | .inr x,v=>Value.isStrOf x v
noncomputable def Lj(w:World):Key->Int
 | .inl k=>hashInt k
 | .inr x=>hashStr w x
theorem keyIs_shape:∀{k:Key} {v:Value},qL k v=true->(∃i t,k=Sum.inl i/\v=Value.int i t)\/(∃x t,k=Sum.inr x/\v=Value.str x t)
 | .inl i,v,h=>by
   obtain⟨t,e⟩:=Value.isInt_shape (k:=i) (v:=v) h;exact .inl ⟨i,t,rfl,e⟩
 | .inr x,v,h=>by
   obtain⟨t,e⟩:=Value.isStrOf_shape (x:=x) (v:=v) h;exact .inr ⟨x,t,rfl,e⟩
def A_(i:Int)(t:Tok):qL (.inl i) (.int i t)=true:=by simp[qL,Value.isInt]
def nL(x:Str)(t:Tok):qL (.inr x) (.str x t)=true:=by simp[qL,Value.isStrOf]
def HY(a b:Int):decide ((Sum.inl a:Key)=Sum.inl b)=(a==b):=by
 by_cases e:a=b
 · subst e;simp
 · have h:¬ (Sum.inl a:Key)=Sum.inl b:=fun q=>e (Sum.inl.inj q);rw[ag h];exact(bU.mpr e).symm
def HV(a b:Str):decide ((Sum.inr a:Key)=Sum.inr b)=decide (a=b):=by
 by_cases e:a=b
 · subst e;simp
 · have h:¬ (Sum.inr a:Key)=Sum.inr b:=fun q=>e (Lr q);rw[ag h,ag e]
def HX(a:Int)(b:Str):decide ((Sum.inl a:Key)=Sum.inr b)=false:=ag (fun q=>nomatch q)
def HW(a:Str)(b:Int):decide ((Sum.inr a:Key)=Sum.inl b)=false:=ag (fun q=>nomatch q)
noncomputable def cE(prog:Program)(w:World):PySem.KeyKind prog w Key where
 is:=qL
 hash:=Lj w
 inj:=fun v a b ha hb=>by
  rcases keyIs_shape ha with⟨i,t,rfl,rfl⟩ | ⟨x,t,rfl,rfl⟩
  · rcases keyIs_shape hb with⟨j,u,rfl,e⟩ | ⟨y,u,rfl,e⟩
    · injection e with e1 _;rw[e1]
    · exact nomatch e
  · rcases keyIs_shape hb with⟨j,u,rfl,e⟩ | ⟨y,u,rfl,e⟩
    · exact nomatch e
    · injection e with e1 _;rw[e1]
 byValue:=fun k v h=>by
  rcases keyIs_shape h with⟨i,t,rfl,rfl⟩ | ⟨x,t,rfl,rfl⟩<;>rfl
 pyHash:=fun hv h=>by
  rcases keyIs_shape hv with⟨i,t,rfl,rfl⟩ | ⟨x,t,rfl,rfl⟩
  · exact wpAny_pyHash_int h
  · exact wpAny_pyHash_str h
 eqBool:=fun hu hv h=>by
  rcases keyIs_shape hu with⟨i,t,rfl,rfl⟩ | ⟨x,t,rfl,rfl⟩
  · rcases keyIs_shape hv with⟨j,u,rfl,rfl⟩ | ⟨y,u,rfl,rfl⟩
    · rw[HY] at h;exact wpAny_eqBool_int h
    · rw[HX] at h;exact ME i t y u _ _ _ _ h
  · rcases keyIs_shape hv with⟨j,u,rfl,rfl⟩ | ⟨y,u,rfl,rfl⟩
    · rw[HW] at h;exact MD x t j u _ _ _ _ h
    · rw[HV] at h;exact wpAny_eqBool_str h
 «strs»:=fun k x t v h=>by
  rcases keyIs_shape h with⟨i,u,rfl,e⟩ | ⟨y,u,rfl,e⟩
  · exact nomatch e
  · injection e with e1 _
    subst e1;cases v<;>rfl
def yz(prog:Program)(w:World)(k:Key)(v:Value):(cE prog w).is k v=qL k v:=rfl
def wM(prog:Program)(w:World)(i:Int)(t:Tok):(cE prog w).is (.inl i) (.int i t)=true:=A_ i t
def wL(prog:Program)(w:World)(x:Str)(t:Tok):(cE prog w).is (.inr x) (.str x t)=true:=nL x t
inductive V where
 | non | bl (b:Bool) | int (i:Int) | str (x:Str) | byt (b:Array UInt8) | flt (b:UInt64) | ref (a:Addr) | ty (n:String)
 deriving DecidableEq
def RelV:V->Value->Prop
 | .non,u=>u=Value.none
 | .bl b,u=>u=Value.bool b
 | .int i,u=>∃t,u=Value.int i t
 | .str x,u=>∃t,u=Value.str x t
 | .byt b,u=>∃t,u=Value.bytes b t
 | .flt b,u=>∃t,u=Value.float b t
 | .ref a,u=>u=Value.ref a
 | .ty n,u=>u=Value.type n
abbrev Vals:List V->List Value->Prop:=Paired RelV
def Vals.length(r:Vals xs us):xs.length=us.length:=aR r
theorem Vals.get:∀{xs:List V} {us:List Value} {i:Nat} {x:V},Vals xs us->xs[i]? =some x->∃u,us[i]? =some u/\RelV x u
 | _,_,_,_,.nil,e=>by simp at e
 | _,_,0,_,.cons r _,e=>by simp at e;subst e;exact⟨_,rfl,r⟩
 | _,_,i+1,x,.cons _ t,e=>by
   obtain⟨u,h1,h2⟩:=Vals.get (i:=i) (x:=x) t (by simpa using e);exact⟨u,by simpa using h1,h2⟩
theorem Vals.append:∀{xs ys:List V} {us ws:List Value},Vals xs us->Vals ys ws->Vals (xs++ys) (us++ws)
 | _,_,_,_,.nil,s=>s
 | _,_,_,_,.cons r t,s=> .cons r (Vals.append t s)
theorem Vals.take:∀{xs:List V} {us:List Value} (n:Nat),Vals xs us->Vals (xs.take n) (us.take n)
 | _,_,0,_=> .nil
 | _,_,_+1,.nil=> .nil
 | _,_,n+1,.cons r t=> .cons r (Vals.take n t)
theorem Vals.drop:∀{xs:List V} {us:List Value} (n:Nat),Vals xs us->Vals (xs.drop n) (us.drop n)
 | _,_,0,r=>r
 | _,_,_+1,.nil=> .nil
 | _,_,n+1,.cons _ t=>Vals.drop n t
def RelO:Option V->Option Value->Prop
 | some v,some u=>RelV v u
 | none,none=>True
 | _,_=>False
def KV{κ:Type}:List (κ × V)->List (κ × Value)->Prop:=Paired fun p q=>p.1=q.1/\RelV p.2 q.2
noncomputable def kV:Key->V
 | .inl i=> .int i
 | .inr x=> .str x
inductive HO where
 /-- a list -/
 | lst (xs:List V)
 /-- a tuple (never changes) -/
 | tup (xs:List V)
 /-- a dict whose keys are ints and texts; one whose keys are tuples of ints and texts (the empty one is both) -/
 | dK (kvs:List (Key × V)) | dT (kvs:List (List Key × V))
 /-- a set of ints: its members, its size -/
 | set (S:Int->Bool) (n:Nat)
 /-- an instance of the class at C, its dict at dx, its attributes -/
 | ins (C dx:Addr) (fs:List (Str × V))
 /-- the dict of the instance at x -/
 | own (x:Addr)
 /-- the dict of an exception -/
 | xd (fs:List (Str × V))
 /-- a bound method, f of x -/
 | met (f x:Addr)
 /-- a range object lo, lo + 1, .. below hi -/
 | rng (lo hi:Int)
 /-- a thing that is known to the object (the script; a dict while a loop walks it): read, never written while it is so -/
 | frz (o:Obj) (u:HO)
 /-- a code object's table -/
 | tbl (ps:Array Value)
 /-- any other thing, by what is true of its one object (a def of one's own: SetO a S n := HO.ext fun h => ..) -/
 | ext (φ:Heap->Prop)
abbrev Hp:=Addr->Option HO
noncomputable def upd(H:Hp)(a:Addr)(o:HO):Hp:=fun b=>if b=a then some o else H b
def ae:upd H a o a=some o:=by unfold upd;rw[aK rfl]
def aM(h:b≠a):upd H a o b=H b:=by unfold upd;rw[aG h]
def yW:upd (upd H a o) a u=upd H a u:=by
 funext b;unfold upd;split<;>rfl
def JB{H:Hp}(h:H a=some o)(h':H b=some u)(d:o≠u):a≠b:=by
 intro e;subst e;rw[h] at h';exact d (d_ h')
def bI{H:Hp}(h:H a=some o)(h':H b=none):a≠b:=by
 intro e;subst e;rw[h] at h';cases h'
section
variable (P:Program)(w:World)
def ObjOk(H:Hp)(h:Heap)(a:Addr):HO->Prop
 | .lst xs=>xs.length<=sizeLine/\∃(its:List Value) (n:Nat),Vals xs its/\h.get? a=some {cls:= .type "list",data:= .seq its.toArray n}
 | .tup xs=>xs.length<=sizeLine/\∃its:List Value,Vals xs its/\IsTup h a its.toArray
 | .dK kvs=>kvs.length<=sizeLine/\(a==sysModules)=false/\∃vs,KV kvs vs/\h.DictOf (cE P w) a vs
 | .dT kvs=>kvs.length<=sizeLine/\(a==sysModules)=false/\∃xs:List (List Key × Addr × Value),Paired (fun(p:List Key × V) (q:List Key × Addr × Value)=>p.1=q.1/\H q.2.1=some (.tup (p.1.map kV))/\RelV p.2 q.2.2) kvs xs/\∃o es ep,h.get? a=some o/\o.ExactDict/\o.data= .dict es ep/\es.toList=xs.map (entryOfKey (tupleKind (cE P w)))/\(xs.map (·.1)).Nodup
 | .set S n=>h.SetOf (intKind P w) a S n
 | .ins C dx fs=>H dx=some (.own a)/\fs.length<=1000/\dx≠a/\h.get? a=some (instObj C dx)/\∃mA,h.Ns1 dx mA/\(∀f,RelO (fs.lookup f) (mA f))/\PySem.Within mA (fs.map (·.1))
 | .own _=>∃o,h.get? a=some o
 | .xd fs=>∃mA,h.Ns1 a mA/\∀f,RelO (fs.lookup f) (mA f)
 | .rng lo hi=>∃t u v,h.get? a=some {cls:= .type "range",data:= .fields #[.int lo t,.int hi u,.int 1 v]}
 | .frz o u=>h.get? a=some o/\ObjOk H h a u
 | .tbl ps=>h.get? a=some {cls:= .none,data:= .fields ps}
 | .met f x=>h.get? a=some (PySem.W.methodObj (.ref f) (.ref x))
 | .ext φ=>φ h/\(∃o,h.get? a=some o)/\∀h1 h2:Heap,φ h1->(∀o,h1.get? a=some o->h2.get? a=some o)->φ h2
def HOk(H:Hp)(h:Heap):Prop:=∀a o,H a=some o->ObjOk P w H h a o
end
section
def ObjOk.lt(x:ObjOk P w H h a o):a<h.objs.size:=by
 cases o with
 | lst xs=>obtain⟨_,_,_,_,e⟩:=x;exact aB e
 | tup xs=>obtain⟨_,_,_,p⟩:=x;exact p.lt
 | dK kvs=>obtain⟨_,_,_,_,o,_,_,e,_⟩:=x;exact aB e
 | dT kvs=>obtain⟨_,_,_,_,o,_,_,e,_⟩:=x;exact aB e
 | set S n=>obtain⟨o,_,_,_,e,_⟩:=x;exact aB e
 | ins C dx fs=>obtain⟨_,_,_,e,_⟩:=x;exact aB e
 | own y=>obtain⟨_,e⟩:=x;exact aB e
 | xd fs=>obtain⟨_,⟨_,_,_,e,_⟩,_⟩:=x;exact aB e
 | rng lo hi=>obtain⟨_,_,_,e⟩:=x;exact aB e
 | frz ob u=>obtain⟨e,_⟩:=x;exact aB e
 | tbl ps=>exact aB (show h.get? a=some _ from x)
 | met f y=>exact aB (show h.get? a=some _ from x)
 | ext φ=>obtain⟨_,⟨_,e⟩,_⟩:=x;exact aB e
theorem Paired.mapP:∀{l₁:List α} {l₂:List β},Paired F l₁ l₂->(∀a b,F a b->G a b)->Paired G l₁ l₂
 | _,_,.nil,_=> .nil
 | _,_,.cons r t,f=> .cons (f _ _ r) (Paired.mapP t f)
def Paired.imp'{α β:Type}{F G:α->β->Prop}(f:∀a b,F a b->G a b){l₁:List α}{l₂:List β}(r:Paired F l₁ l₂):Paired G l₁ l₂:=Paired.mapP r f
def ObjOk.stay(x:ObjOk P w H h a o)(k:∀b u,(b=a\/H b=some (.own a))->h.get? b=some u->h'.get? b=some u)(ho:∀b,H b=some (.own a)->H' b=some (.own a))(ht:∀b xs,H b=some (.tup xs)->H' b=some (.tup xs)):ObjOk P w H' h' a o:=by
 induction o with
 | lst xs=>obtain⟨z,its,n,r,e⟩:=x;exact⟨z,its,n,r,k _ _ (.inl rfl) e⟩
 | tup xs=>obtain⟨z,its,r,ob,e,c⟩:=x;exact⟨z,its,r,ob,k _ _ (.inl rfl) e,c⟩
 | dK kvs=>obtain⟨z,y,vs,r,ob,es,ep,e,c⟩:=x;exact⟨z,y,vs,r,ob,es,ep,k _ _ (.inl rfl) e,c⟩
 | dT kvs=>
   obtain⟨z,y,xs,r,ob,es,ep,e,c⟩:=x;exact⟨z,y,xs,Paired.mapP r fun p q z=>⟨z.1,ht _ _ z.2.1,z.2.2⟩,ob,es,ep,k _ _ (.inl rfl) e,c⟩
 | set S n=>obtain⟨ob,es,ep,t,e,c⟩:=x;exact⟨ob,es,ep,t,k _ _ (.inl rfl) e,c⟩
 | ins C dx fs=>
   obtain⟨d,z,ne,e,mA,⟨od,es,ep,e2,c⟩,r⟩:=x;exact⟨ho _ d,z,ne,k _ _ (.inl rfl) e,mA,⟨od,es,ep,k _ _ (.inr d) e2,c⟩,r⟩
 | own y=>obtain⟨ob,e⟩:=x;exact⟨ob,k _ _ (.inl rfl) e⟩
 | xd fs=>obtain⟨mA,⟨od,es,ep,e,c⟩,r⟩:=x;exact⟨mA,⟨od,es,ep,k _ _ (.inl rfl) e,c⟩,r⟩
 | rng lo hi=>obtain⟨t,u,v,e⟩:=x;exact⟨t,u,v,k _ _ (.inl rfl) e⟩
 | frz ob u ih=>obtain⟨e,q⟩:=x;exact⟨k _ _ (.inl rfl) e,ih q⟩
 | tbl ps=>
   have e:h.get? a=some {cls:= .none,data:= .fields ps}:=x;show h'.get? a=some {cls:= .none,data:= .fields ps};exact k a _ (.inl rfl) e
 | met f y=>
   have e:h.get? a=some (PySem.W.methodObj (.ref f) (.ref y)):=x;show h'.get? a=some (PySem.W.methodObj (.ref f) (.ref y));exact k a _ (.inl rfl) e
 | ext φ=>obtain⟨p,⟨o,e⟩,st⟩:=x;exact⟨st _ _ p fun o q=>k _ _ (.inl rfl) q,⟨o,k _ _ (.inl rfl) e⟩,st⟩
def HOk.lt(x:HOk P w H h)(e:H a=some o):a<h.objs.size:=(x a o e).lt
def HOk.fresh{a:Addr}(x:HOk P w H h)(e:h.objs.size<=a):H a=none:=by
 cases q:H a with
 | none=>rfl
 | some u=>exact absurd (ah (x.lt q) e) (fm _)
def HOk.kept(x:HOk P w H h)(k:∀b u,h.get? b=some u->h'.get? b=some u):HOk P w H h':=fun a o e=>
 (x a o e).stay (fun b u _ q=>k b u q) (fun _ q=>q) fun _ _ q=>q
def HOk.laid{a:Addr}(x:HOk P w H h)(k:∀b u,h.get? b=some u->h'.get? b=some u)(hp:h.objs.size<=a)(new:ObjOk P w (upd H a o) h' a o):HOk P w (upd H a o) h':=fun b u e=>by
 have hn:=x.fresh hp;by_cases hb:b=a
 · subst hb;rw[ae] at e;cases e;exact new
 · rw[aM hb] at e;exact(x b u e).stay (fun c v _ q=>k c v q) (fun c q=>by rw[aM (bI q hn)];exact q) fun c xs q=>by rw[aM (bI q hn)];exact q
end
def Rd(H:Hp)(a:Addr)(u:HO):Prop:=H a=some u\/∃o,H a=some (.frz o u)
def Rd.ok(r:Rd H a u)(x:HOk P w H h):ObjOk P w H h a u:=by
 rcases r with r | ⟨o,r⟩
 · exact x a u r
 · obtain⟨_,q⟩:=x a _ r;exact q
def JZ:Option HO->Prop
 | some (.lst _)=>True
 | some (.dK _)=>True
 | some (.dT _)=>True
 | some (.set _ _)=>True
 | some (.ins _ _ _)=>True
 | some (.ext _)=>True
 | _=>False
section
def HOk.write(ok:HOk P w H h)(mu:JZ (H x))(he:e=x\/H e=some (.own x))(k:∀b u,b≠e->h.get? b=some u->h'.get? b=some u)(heo:∃u,h'.get? e=some u)(new:ObjOk P w (upd H x o') h' x o'):HOk P w (upd H x o') h':=fun b u q=>by
 have nown:∀c y,H c=some (.own y)->c≠x:=fun c y r z=>by subst z;rw[r] at mu;exact mu
 have ntup:∀c xs,H c=some (.tup xs)->c≠x:=fun c xs r z=>by subst z;rw[r] at mu;exact mu
 by_cases hb:b=x
 · subst hb;rw[ae] at q;cases q;exact new
 · rw[aM hb] at q;by_cases hbe:b=e
   · have q':H b=some (.own x):=by
      rcases he with z | z
      · exact absurd (hbe.trans z) hb
      · rw[hbe];exact z
     rw[q] at q';cases q';obtain⟨v,hv⟩:=heo;exact⟨v,by rw[hbe];exact hv⟩
   · refine(ok b u q).stay (fun c v hc r=>k c v ?_ r) (fun c r=>by rw[aM (nown c b r)];exact r) fun c xs r=>by rw[aM (ntup c xs r)];exact r
     rcases hc with rfl | hc
     · exact hbe
     · rintro rfl;rcases he with z | z
       · exact nown c b hc z
       · rw[hc] at z;cases z;exact hb rfl
end
structure Un(fs ex:List Addr)(H H':Hp)(h h':Heap):Prop where
 keep:∀b o,h.get? b=some o->H b=none->b∉fs->b∉ex->h'.get? b=some o
 slot:∀b o,h.get? b=some o->H b=none->b∈fs->b∉ex->∃sl,h'.get? b=some {o with slots:=sl}
 free:∀b o,h.get? b=some o->H b=none->b∉ex->H' b=none
 there:∀b o,h.get? b=some o->b∉ex->∃o',h'.get? b=some o'
 tups:∀b xs,H b=some (.tup xs)->H' b=some (.tup xs)
 frzs:∀b o u,H b=some (.frz o u)->H' b=some (.frz o u)
 tbls:∀b ps,H b=some (.tbl ps)->∃more,H' b=some (.tbl (ps++more))
section
def Un.any{fs ex:List Addr}{H H1:Hp}{h h1:Heap}(u:Un fs ex H H1 h h1){b:Addr}{ob:Obj}(q:h.get? b=some ob)(n:H b=none)(hx:b∉ex):∃sl,h1.get? b=some {ob with slots:=sl}:=by
 by_cases hb:b∈fs
 · exact u.slot b ob q n hb hx
 · exact⟨ob.slots,u.keep b ob q n hb hx⟩
def Un.kept(k:∀b u,h.get? b=some u->h'.get? b=some u):Un fs ex H H h h':=⟨fun b ob q _ _ _=>k b ob q,fun b ob q _ _ _=>⟨ob.slots,k b ob q⟩,fun _ _ _ n _=>n,fun b ob q _=>⟨ob,k b ob q⟩,fun _ _ q=>q,fun _ _ _ q=>q,fun _ ps q=>⟨#[],by rw[q];simp⟩⟩
def Un.refl:Un fs ex H H h h:=Un.kept fun _ _ q=>q
def Un.laid{h:Heap}{a:Addr}(k:∀b u,h.get? b=some u->h'.get? b=some u)(hp:h.objs.size<=a)(hn:H a=none):Un fs ex H (upd H a o) h h' where
 keep:=fun b u q _ _ _=>k b u q
 slot:=fun b u q _ _ _=>⟨u.slots,k b u q⟩
 free:=fun b u q n _=>by rw[aM (bf (ah (aB q) hp))];exact n
 there:=fun b u q _=>⟨u,k b u q⟩
 tups:=fun b xs q=>by rw[aM (bI q hn)];exact q
 frzs:=fun b u xs q=>by rw[aM (bI q hn)];exact q
 tbls:=fun b ps q=>⟨#[],by rw[aM (bI q hn),q];simp⟩
def Un.write(mu:JZ (H x))(he:e=x\/H e=some (.own x))(k:∀b u,b≠e->h.get? b=some u->h'.get? b=some u)(heo:∃u,h'.get? e=some u):Un fs ex H (upd H x o) h h':=by
 have hx:∀b,H b=none->b≠x:=fun b n z=>by subst z;rw[n] at mu;exact mu
 have hb:∀b,H b=none->b≠e:=fun b n z=>by
  subst z;rcases he with r | r
  · exact hx b n r
  · rw[n] at r;cases r
 have hm:∀b u,H b=some u->¬ JZ (some u)->b≠x:=fun b u q nm z=>by subst z;rw[q] at mu;exact nm mu
 refine⟨fun b u q n _ _=>k b u (hb b n) q,fun b u q n _ _=>⟨u.slots,k b u (hb b n) q⟩,fun b u q n _=>by rw[aM (hx b n)];exact n,fun b u q _=> ?_,fun b xs q=>by rw[aM (hm b _ q fun z=>z)];exact q,fun b u xs q=>by rw[aM (hm b _ q fun z=>z)];exact q,fun b ps q=>⟨#[],by rw[aM (hm b _ q fun z=>z),q];simp⟩⟩;by_cases hbe:b=e
 · subst hbe;exact heo
 · exact⟨u,k b u hbe q⟩
end
noncomputable def Ka(h:Heap)(H:Hp):List Addr:=(List.range h.objs.size).filter fun a=>(H a).isSome
noncomputable def uR(h:Heap)(H:Hp):Heap:=PySem.W.hideAll h (Ka h H)
def Bd(h:Heap)(H:Hp):(uR h H).objs.size=h.objs.size:=PySem.W.hideAll_size _ _
def Dt(e:h.get? b=some o)(n:H b=none):(uR h H).get? b=some o:=PySem.W.hideAll_get _ e fun hm=>by
  have q:(H b).isSome=true:=(D5.mp hm).2;rw[n] at q;simp at q
def Fb(e:(uR h H).get? b=some o):h.get? b=some o/\H b=none:=by
 have e':h.get? b=some o:=PySem.W.of_hideAll (Ka h H) e;refine⟨e',?_⟩;cases q:H b with
 | none=>rfl
 | some x=>
   have hm:b∈Ka h H:=D5.mpr ⟨cy.mpr (aB e'),by simp[q]⟩;have z:(uR h H).get? b=none:=PySem.W.hideAll_none (Ka h H) hm;rw[z] at e;cases e
noncomputable def FM(g h:Heap)(L:Addr):List (Addr × Obj):=(List.range h.objs.size).filterMap fun a=>if a=L\/(g.get? a).isSome=true then none else(h.get? a).map fun o=>(a,o)
noncomputable def rest(g h:Heap)(L d:Addr):List (Addr × Obj):=(FM g h L).filter fun p=>decide (p.1≠d)
structure Mod(K:Frag)(mg:Str->Option Value)(base:Heap):Prop where
 kin:K.In base
 glob:base.Ns mainGlobals mg
 blt:∃mb,base.Ns builtinsNs mb/\∀x:Str,x≠"__name__"->mb x=bootBuiltins x
 nolimit:base.NoLimit
/-- the context: a def's body (or a comprehension's block) running. base: fixed through the whole law; s₀, H₀: the entry; outer: the frames whose slots others may change (a def's callers); stack: all frames that run; ex:iterators that were made ahead of the entry and are walked here (a comprehension's);fn:the names whose cells were made at the entry (a def:all;a comprehension's block:its own);calm:not within an except suite;pn:pins that every state bears;xe:what is wanted of an exception that leaves the code -/
structure Cx where
 prog:Program
 w:World
 K:Frag
 mg:Str->Option Value
 base:Heap
 A:Around
 N:List Str
 s₀:Shared
 H₀:Hp
 env:Env
 outer:List Env
 stack:List Env
 ex:List Addr
 fn:Str->Bool
 calm:Bool
 pn:List (Addr × Obj)
 xe:Value->Shared->Prop
noncomputable def qO(l:List Env):List Addr:=l.filterMap (·.frame)
noncomputable abbrev Cx.fs(X:Cx):List Addr:=qO X.outer
def Ki(sc:Scope)(x:Str):Prop:=sc.names.lookup x=some .local\/sc.names.lookup x=some .cell\/sc.names.lookup x=some .free
def IA(sc:Scope)(x:Str):Prop:=sc.names.lookup x=some .local\/sc.names.lookup x=some .cell
def Ly(env:Env)(h:Heap)(m:Str->Option Value)(x:Str)(u:Value):Prop:=(env.kindOf x=some .local/\m x=some u)\/((env.kindOf x=some .cell\/env.kindOf x=some .free)/\∃c,env.cells.lookup x=some c/\h.IsCell c (some u))
structure Cx.Ok(X:Cx):Prop where
 mod:Mod X.K X.mg X.base
 kind:X.env.scope.kind= .function
 glob:X.env.globals=mainGlobals
 blt:X.env.builtins=builtinsNs
 above:X.s₀.heap.objs.size<=X.env.locals
 inj:∀x y c,X.env.cells.lookup x=some c->X.env.cells.lookup y=some c->x=y
 has:∀x,(X.env.kindOf x=some .cell\/X.env.kindOf x=some .free)->∃c,X.env.cells.lookup x=some c
 cab:∀x c,X.fn x=true->X.env.cells.lookup x=some c->X.s₀.heap.objs.size<=c
 hd:X.calm=true->X.A.handled=none
 frames:X.A.frames=some X.stack
 stk:X.stack=X.outer\/(X.stack=X.env::X.outer/\X.env.frame=some X.env.locals)
 exf:∀b∈X.ex,b≠X.env.locals/\∀x c,X.env.cells.lookup x=some c->c≠b
 bs:∀b o,X.base.get? b=some o->X.s₀.heap.get? b=some o/\X.H₀ b=none
 bsz:X.base.objs.size<=X.s₀.heap.objs.size
 noex:∀b o,X.base.get? b=some o->b∉X.ex
 exfs:∀b∈X.ex,b∉X.fs
 funs:X.s₀.heap.FunFrames X.base X.outer
 frf:∀b∈X.fs,X.H₀ b=none
structure Inv(X:Cx)(pins:List (Addr × Obj))(σ:List (Option V))(H:Hp)(s:Shared):Prop where
 ok:X.Ok
 os:s.os=X.s₀.os
 bare:AllBare s.gens
 base:Un X.fs X.ex X.H₀ H X.s₀.heap s.heap
 loc:∃m,s.heap.Ns X.env.locals m/\∀(i:Nat) (x:Str) (v:V),X.N[i]? =some x->σ[i]? =some (some v)->Ki X.env.scope x->∃u,RelV v u/\Ly X.env s.heap m x u
 cell:∀x c,X.env.cells.lookup x=some c->∃v,s.heap.IsCell c v
 free:H X.env.locals=none
 freeC:∀x c,X.env.cells.lookup x=some c->H c=none
 pin:∀p∈X.pn++pins,s.heap.get? p.1=some p.2/\H p.1=none/\p.1≠X.env.locals/\p.1∉X.fs/\∀v,p.2.data≠ .cell v
 hok:HOk X.prog X.w H s.heap
 len:σ.length=X.N.length
section
def Cx.Ok.nofr{X:Cx}(ok:X.Ok){b:Addr}{o:Obj}(e:X.base.get? b=some o):b∉X.fs:=fun hb=>by
 have:=(ok.funs.mem hb).1;rw[e] at this;cases this
def Inv.bs(I:Inv X pins σ H s):∀b o,X.base.get? b=some o->s.heap.get? b=some o/\H b=none:=fun b o e=>
 ⟨I.base.keep b o (I.ok.bs b o e).1 (I.ok.bs b o e).2 (I.ok.nofr e) (I.ok.noex b o e),I.base.free b o (I.ok.bs b o e).1 (I.ok.bs b o e).2 (I.ok.noex b o e)⟩
def Inv.bk(I:Inv X pins σ H s):∀b o,X.base.get? b=some o->s.heap.get? b=some o:=fun b o e=>(I.bs b o e).1
def Inv.mod(I:Inv X pins σ H s):Mod X.K X.mg X.base:=I.ok.mod
def Inv.kIn(I:Inv X pins σ H s):X.K.In s.heap:=I.ok.mod.kin.keeps I.bk
def Inv.lt(I:Inv X pins σ H s):X.env.locals<s.heap.objs.size:=let⟨_,hn,_⟩:=I.loc;hn.lt
def Inv.sz(I:Inv X pins σ H s):X.s₀.heap.objs.size<=s.heap.objs.size:=ao I.ok.above (fe I.lt)
def Inv.nofs{X:Cx}{pins:List (Addr × Obj)}{σ:List (Option V)}{H:Hp}{s:Shared}(I:Inv X pins σ H s){a:Addr}(h:s.heap.objs.size<=a):a∉X.fs:=fun hb=>by
 obtain⟨_,o,ho,_⟩:=I.ok.funs.mem hb;exact absurd (ah (aB ho) (ao I.sz h)) (fm _)
def Inv.cne(I:Inv X pins σ H s):∀x c,X.env.cells.lookup x=some c->c≠X.env.locals:=fun x c e z=>by
 obtain⟨v,o,ho,hd⟩:=I.cell x c e;obtain⟨m,⟨o',es,ep,ho',hd',_⟩,_⟩:=I.loc;rw[z,ho'] at ho;cases ho;rw[hd'] at hd;cases hd
def Inv.funs(I:Inv X pins σ H s):s.heap.FunFrames X.base X.outer:=by
 have all:∀(l:List Env),(∀b∈qO l,b∈X.fs)->X.s₀.heap.FunFrames X.base l->s.heap.FunFrames X.base l:=by
  intro l
  induction l with
  | nil=>intro _ _;trivial
  | cons env r ih=>
    intro hs hl;obtain⟨hk,⟨L,o,hf,hn,ho,hd⟩,hr⟩:=hl;have hL:L∈X.fs:=hs L (by unfold qO;rw[gc,hf];exact aO);obtain⟨sl,e⟩:=I.base.slot L o ho (I.ok.frf L hL) hL fun z=>I.ok.exfs L z hL;exact⟨hk,⟨L,_,hf,hn,e,hd⟩,ih (fun b hb=>hs b (by unfold qO;rw[gc,hf];exact aH _ hb)) hr⟩
 exact all X.outer (fun _ hb=>hb) I.ok.funs
def Inv.stack(I:Inv X pins σ H s):s.heap.FunFrames X.base X.stack:=by
 rcases I.ok.stk with e | ⟨e,hf⟩
 · rw[e];exact I.funs
 · rw[e];obtain⟨m,hn,_⟩:=I.loc;refine .cons (by rw[I.ok.kind];decide) hf hn ?_ I.funs;exact Heap.get?_none_of_le (ao I.ok.bsz I.ok.above)
def Inv.stkSub(I:Inv X pins σ H s):∀b∈qO X.stack,b∈X.env.locals::X.fs:=fun b hb=>by
 rcases I.ok.stk with e | ⟨e,hf⟩
 · rw[e] at hb;exact aH _ hb
 · rw[e] at hb;unfold qO at hb;rw[gc,hf] at hb;exact hb
def Inv.stkFree(I:Inv X pins σ H s):∀b∈qO X.stack,H b=none:=fun b hb=>by
 rcases aL.mp (I.stkSub b hb) with e | hb
 · rw[e];exact I.free
 · obtain⟨_,o,ho,_⟩:=I.ok.funs.mem hb;exact I.base.free b o ho (I.ok.frf b hb) fun z=>I.ok.exfs b z hb
def Inv.step{X:Cx}{pins:List (Addr × Obj)}{σ:List (Option V)}{H H':Hp}{s:Shared}{h':Heap}{g':Array GenState}{t':Nat}{d':Drawn}{ch:List Addr}(I:Inv X pins σ H s)(hch:∀b∈ch,(b∈X.ex\/X.s₀.heap.objs.size<=b)/\b≠X.env.locals/\(∀x c,X.env.cells.lookup x=some c->c≠b)/\∀p∈X.pn++pins,p.1≠b)(keep:∀b o,b≠X.env.locals->b∉X.fs->b∉ch->s.heap.get? b=some o->H b=none->h'.get? b=some o)(slot:∀b o,b≠X.env.locals->b∈X.fs->b∉ch->s.heap.get? b=some o->H b=none->∃sl,h'.get? b=some {o with slots:=sl})(free:∀b o,b∉ch->s.heap.get? b=some o->H b=none->H' b=none)(there:∀b o,b∉ch->s.heap.get? b=some o->∃o',h'.get? b=some o')(tups:∀b xs,H b=some (.tup xs)->H' b=some (.tup xs))(frzs:∀b o u,H b=some (.frz o u)->H' b=some (.frz o u))(tbls:∀b ps,H b=some (.tbl ps)->∃more,H' b=some (.tbl (ps++more)))(ns:∀m,s.heap.Ns X.env.locals m->h'.Ns X.env.locals m)(hok:HOk X.prog X.w H' h')(hg:AllBare g'):Inv X pins σ H' {s with heap:=h',gens:=g',drawn:=d',toks:=t'}:=by
 have neL:∀b o,X.s₀.heap.get? b=some o->b≠X.env.locals:=fun b o e=>bf (ah (aB e) I.ok.above);have neC:∀b o,X.s₀.heap.get? b=some o->b∉X.ex->b∉ch:=fun b o e hx hb=>by
  rcases(hch b hb).1 with z | z
  · exact hx z
  · exact absurd (ah (aB e) z) (fm _)
 have cellK:∀x c,X.env.cells.lookup x=some c->∀v,s.heap.IsCell c v->h'.IsCell c v:=fun x c e v ⟨o,ho,hd⟩=>by
  have nch:c∉ch:=fun z=>(hch c z).2.2.1 x c e rfl;by_cases hc:c∈X.fs
  · obtain⟨sl,q⟩:=slot c o (I.cne x c e) hc nch ho (I.freeC x c e);exact⟨_,q,hd⟩
  · exact⟨o,keep c o (I.cne x c e) hc nch ho (I.freeC x c e),hd⟩
 refine⟨I.ok,I.os,hg,⟨fun b o e n hb hx=> ?_,fun b o e n hb hx=> ?_,fun b o e n hx=> ?_,fun b o e hx=> ?_,fun b xs e=>tups b xs (I.base.tups b xs e),fun b o xs e=>frzs b o xs (I.base.frzs b o xs e),fun b ps e=> ?_⟩,?_,fun x c e=> ?_,?_,fun x c e=> ?_,fun p hp=> ?_,hok,I.len⟩
 · exact keep b o (neL b o e) hb (neC b o e hx) (I.base.keep b o e n hb hx) (I.base.free b o e n hx)
 · obtain⟨sl,e1⟩:=I.base.slot b o e n hb hx;obtain⟨sl',e2⟩:=slot b _ (neL b o e) hb (neC b o e hx) e1 (I.base.free b o e n hx);exact⟨sl',e2⟩
 · obtain⟨o',e1⟩:=I.base.there b o e hx;exact free b o' (neC b o e hx) e1 (I.base.free b o e n hx)
 · obtain⟨o',e1⟩:=I.base.there b o e hx;exact there b o' (neC b o e hx) e1
 · obtain⟨m1,e1⟩:=I.base.tbls b ps e;obtain⟨m2,e2⟩:=tbls b _ e1;exact⟨m1++m2,by rw[e2,Array.append_assoc]⟩
 · obtain⟨m,hn,hl⟩:=I.loc;refine⟨m,ns m hn,fun i x v e1 e2 e3=> ?_⟩;obtain⟨u,r,l⟩:=hl i x v e1 e2 e3;refine⟨u,r,?_⟩;rcases l with l | ⟨k,c,e,z⟩
   · exact .inl l
   · exact .inr ⟨k,c,e,cellK x c e _ z⟩
 · obtain⟨v,z⟩:=I.cell x c e;exact⟨v,cellK x c e v z⟩
 · obtain⟨m,⟨o,_,_,ho,_⟩,_⟩:=I.loc;exact free _ o (fun z=>(hch _ z).2.1 rfl) ho I.free
 · obtain⟨v,o,ho,hd⟩:=I.cell x c e;exact free c o (fun z=>(hch c z).2.2.1 x c e rfl) ho (I.freeC x c e)
 · obtain⟨e,n,ne,nf,d⟩:=I.pin p hp;have nch:p.1∉ch:=fun z=>(hch p.1 z).2.2.2 p hp rfl;exact⟨keep p.1 p.2 ne nf nch e n,free p.1 p.2 nch e n,ne,nf,d⟩
def Inv.un(I:Inv X pins σ H s)(u:Un X.fs [] H H' s.heap h')(hok:HOk X.prog X.w H' h'):Inv X pins σ H' {s with heap:=h',toks:=t'}:=by
 obtain⟨m,⟨o,es,ep,ho,r⟩,_⟩:=id I.loc;obtain⟨sl,hL⟩:=u.any ho I.free (by simp);exact I.step (g':=s.gens) (d':=s.drawn) (ch:=[]) (fun _ z=>nomatch z) (fun b o _ hb _ e n=>u.keep b o e n hb (by simp)) (fun b o _ hb _ e n=>u.slot b o e n hb (by simp)) (fun b o _ e n=>u.free b o e n (by simp)) (fun b o _ e=>u.there b o e (by simp)) u.tups u.frzs u.tbls (fun m' hm=>by
  obtain⟨o',es',ep',ho',r'⟩:=hm;rw[ho] at ho';cases ho';exact⟨_,es',ep',hL,r'⟩) hok I.bare
def Inv.call(I:Inv X pins σ H s)(u:Un (qO X.stack) ch H H' s.heap h')(hok:HOk X.prog X.w H' h')(hg:AllBare g')(hch:∀b∈ch,(b∈X.ex\/X.s₀.heap.objs.size<=b)/\b≠X.env.locals/\(∀x c,X.env.cells.lookup x=some c->c≠b)/\∀p∈X.pn++pins,p.1≠b):Inv X pins σ H' {s with heap:=h',gens:=g',drawn:=d',toks:=t'}:=by
 obtain⟨m,⟨o,es,ep,ho,r⟩,_⟩:=id I.loc;obtain⟨sl,hL⟩:=u.any ho I.free fun z=>(hch _ z).2.1 rfl;exact I.step (ch:=ch) hch (fun b o hL hb hc e n=>u.keep b o e n (fun z=>(aL.mp (I.stkSub b z)).elim hL hb) hc) (fun b o _ _ hc e n=>u.any e n hc) (fun b o hc e n=>u.free b o e n hc) (fun b o hc e=>u.there b o e hc) u.tups u.frzs u.tbls (fun m' hm=>by
  obtain⟨o',es',ep',ho',r'⟩:=hm;rw[ho] at ho';cases ho';exact⟨_,es',ep',hL,r'⟩) hok hg
def Inv.turned(I:Inv X pins σ H s)(k:∀b o,b≠it->s.heap.get? b=some o->h'.get? b=some o)(hn:H it=none)(hL:it≠X.env.locals)(h1:it∈X.ex\/X.s₀.heap.objs.size<=it)(h2:∀x c,X.env.cells.lookup x=some c->c≠it)(h3:∀p∈X.pn++pins,p.1≠it):Inv X pins σ H {s with heap:=h',toks:=t'}:=by
 have nit:∀b u,H b=some u->b≠it:=fun b u e z=>by rw[z,hn] at e;cases e
 refine I.step (g':=s.gens) (d':=s.drawn) (ch:=[it]) (fun b hb=> ?_) (fun b o _ _ hc e _=>k b o (fun z=>hc (by simp[z])) e) (fun b o _ _ hc e _=>⟨o.slots,k b o (fun z=>hc (by simp[z])) e⟩) (fun _ _ _ _ n=>n) (fun b o hc e=>⟨o,k b o (fun z=>hc (by simp[z])) e⟩) (fun _ _ e=>e) (fun _ _ _ e=>e) (fun b ps e=>⟨#[],by rw[e];simp⟩) (fun m hm=> ?_) (fun b u e=> ?_) I.bare
 · have e:b=it:=by simpa using hb
   subst e;exact⟨h1,hL,h2,h3⟩
 · obtain⟨o,es,ep,ho,r⟩:=hm;exact⟨o,es,ep,k _ o (bB hL) ho,r⟩
 · refine(I.hok b u e).stay (fun c v hc q=>k c v ?_ q) (fun _ q=>q) fun _ _ q=>q;rcases hc with z | z
   · rw[z];exact nit b u e
   · exact nit c _ z
def Inv.tok(I:Inv X pins σ H s)(t:Nat):Inv X pins σ H {s with toks:=t}:=I.un (h':=s.heap) (t':=t) Un.refl I.hok
def Inv.kept(I:Inv X pins σ H s)(k:∀b u,s.heap.get? b=some u->h'.get? b=some u):Inv X pins σ H {s with heap:=h',toks:=t'}:=I.un (Un.kept k) (I.hok.kept k)
def Inv.laid{a:Addr}(I:Inv X pins σ H s)(k:∀b u,s.heap.get? b=some u->h'.get? b=some u)(hp:s.heap.objs.size<=a)(new:ObjOk X.prog X.w (upd H a o) h' a o):Inv X pins σ (upd H a o) {s with heap:=h',toks:=t'}:=I.un (Un.laid k hp (I.hok.fresh hp)) (I.hok.laid k hp new)
def Inv.write(I:Inv X pins σ H s)(mu:JZ (H x))(he:e=x\/H e=some (.own x))(k:∀b u,b≠e->s.heap.get? b=some u->h'.get? b=some u)(heo:∃u,h'.get? e=some u)(new:ObjOk X.prog X.w (upd H x o) h' x o):Inv X pins σ (upd H x o) {s with heap:=h',toks:=t'}:=I.un (Un.write mu he k heo) (I.hok.write mu he k heo new)
def Inv.pins_of(I:Inv X pins σ H s)(h:∀p∈pins',s.heap.get? p.1=some p.2/\H p.1=none/\p.1≠X.env.locals/\p.1∉X.fs/\∀v,p.2.data≠ .cell v):Inv X pins' σ H s:=⟨I.ok,I.os,I.bare,I.base,I.loc,I.cell,I.free,I.freeC,fun p hp=>(aI.mp hp).elim (fun z=>I.pin p (aS _ z)) (h p),I.hok,I.len⟩
def wH{N:List Str}(hN:N.Nodup){i j:Nat}{x:Str}(a:N[i]? =some x)(b:N[j]? =some x):i=j:=by
 obtain⟨h1,e1⟩:=bp.mp a;obtain⟨h2,e2⟩:=bp.mp b;exact(List.getElem_inj hN).mp (e1.trans e2.symm)
def r_{X:Cx}{pins:List (Addr × Obj)}{σ:List (Option V)}{H:Hp}{s:Shared}{M:Model}{A:Around}{E:Value->Shared->Prop}{i:Nat}{x:Str}{v:V}{u:Value}{Q:Unit->Shared->Prop}(I:Inv X pins σ H s)(hN:X.N.Nodup)(hi:X.N[i]? =some x)(hx:IA X.env.scope x)(r:RelV v u)(h:∀s',Inv X pins (σ.set i (some v)) H s'->(∃a,Heap.SameBut a s.heap s'.heap/\(a=X.env.locals\/X.env.cells.lookup x=some a))->Q () s')(hf:X.fn x=true\/X.env.scope.names.lookup x=some .local:=by first | exact .inl rfl | exact .inr rfl | assumption):wpAny M A (storeName X.env x u) Q E s:=by
 obtain⟨m,hn,hl⟩:=id I.loc;have hcls:(X.env.scope.kind== .class || (X.env.scope.kind== .module&&X.env.locals !=X.env.globals))=false:=by rw[I.ok.kind];rfl
 have hiσ:i<σ.length:=by rw[I.len];exact(bp.mp hi).1
 have cne:=I.cne;have tracked:∀{a:Addr} {h':Heap},(∃o,s.heap.get? a=some o/\H a=none)->Heap.SameBut a s.heap h'->HOk X.prog X.w H h':=fun {a h'} ha hs b ob e=>by
  obtain⟨_,_,hfree⟩:=ha;refine(I.hok b ob e).stay (fun c w' hc q=>(hs.2 c ?_).trans q) (fun _ q=>q) fun _ _ q=>q;rintro rfl;rcases hc with rfl | hc
  · rw[hfree] at e;cases e
  · rw[hfree] at hc;cases hc
 rcases hx with hk | hk
 · refine wpAny_storeName_local hk hn (fun h' hn' hs=> ?_) hcls;obtain⟨oL,_,_,hoL,_⟩:=id hn;refine h _ ⟨I.ok,I.os,I.bare,⟨fun b o e n hb hx=> ?_,fun b o e n hb hx=> ?_,I.base.free,fun b o e hx=> ?_,I.base.tups,I.base.frzs,I.base.tbls⟩,⟨_,hn',fun j y v' e1 e2 e3=> ?_⟩,fun y c e=> ?_,I.free,I.freeC,fun p hp=> ?_,tracked ⟨oL,hoL,I.free⟩ hs,by simpa using I.len⟩ ⟨_,hs,.inl rfl⟩
   · exact(hs.2 b (bf (ah (aB e) I.ok.above))).trans (I.base.keep b o e n hb hx)
   · obtain⟨sl,e1⟩:=I.base.slot b o e n hb hx;exact⟨sl,(hs.2 b (bf (ah (aB e) I.ok.above))).trans e1⟩
   · obtain⟨o',e1⟩:=I.base.there b o e hx;exact⟨o',(hs.2 b (bf (ah (aB e) I.ok.above))).trans e1⟩
   · by_cases hj:j=i
     · subst hj;rw[hi] at e1;cases e1;rw[J6 hiσ] at e2;cases e2;exact⟨u,r,.inl ⟨hk,by simp⟩⟩
     · rw[Lz (bB hj)] at e2;obtain⟨u',r',q⟩:=hl j y v' e1 e2 e3;refine⟨u',r',?_⟩;rcases q with⟨k,e⟩ | ⟨k,c,e,z⟩
       · refine .inl ⟨k,?_⟩;have:y≠x:=fun e=>hj (wH hN e1 (e ▸ hi));simp[this,e]
       · exact .inr ⟨k,c,e,z.sameBut hs (cne y c e)⟩
   · obtain⟨w',z⟩:=I.cell y c e;exact⟨w',z.sameBut hs (cne y c e)⟩
   · obtain⟨e,n,ne,nf,d⟩:=I.pin p hp;exact⟨(hs.2 p.1 ne).trans e,n,ne,nf,d⟩
 · have hfn:X.fn x=true:=by
    rcases hf with z | z
    · exact z
    · rw[z] at hk;cases hk
   obtain⟨c,hc⟩:=I.ok.has x (.inl hk);obtain⟨w',z⟩:=I.cell x c hc;refine wpAny_storeName_cell I.ok.kind hk hc z (fun h' hc' hs=> ?_);obtain⟨oc,hoc,hocd⟩:=id z;refine h {s with heap:=h'} ⟨I.ok,I.os,I.bare,⟨fun b o e n hb hx=> ?_,fun b o e n hb hx=> ?_,I.base.free,fun b o e hx=> ?_,I.base.tups,I.base.frzs,I.base.tbls⟩,⟨m,hn.sameBut hs (bB (cne x c hc)),fun j y v' e1 e2 e3=> ?_⟩,fun y c' e=> ?_,I.free,I.freeC,fun p hp=> ?_,tracked ⟨oc,hoc,I.freeC x c hc⟩ hs,by simpa using I.len⟩ ⟨c,hs,.inr hc⟩
   · exact(hs.2 b (bf (ah (aB e) (I.ok.cab x c hfn hc)))).trans (I.base.keep b o e n hb hx)
   · obtain⟨sl,e1⟩:=I.base.slot b o e n hb hx;exact⟨sl,(hs.2 b (bf (ah (aB e) (I.ok.cab x c hfn hc)))).trans e1⟩
   · obtain⟨o',e1⟩:=I.base.there b o e hx;exact⟨o',(hs.2 b (bf (ah (aB e) (I.ok.cab x c hfn hc)))).trans e1⟩
   · by_cases hj:j=i
     · subst hj;rw[hi] at e1;cases e1;rw[J6 hiσ] at e2;cases e2;exact⟨u,r,.inr ⟨.inl hk,c,hc,hc'⟩⟩
     · rw[Lz (bB hj)] at e2;obtain⟨u',r',q⟩:=hl j y v' e1 e2 e3;refine⟨u',r',?_⟩;rcases q with q | ⟨k,c',e,z'⟩
       · exact .inl q
       · refine .inr ⟨k,c',e,z'.sameBut hs ?_⟩;rintro rfl;exact hj (wH hN e1 (I.ok.inj _ _ _ e hc ▸ hi))
   · by_cases hcc:c'=c
     · subst hcc;exact⟨_,hc'⟩
     · obtain⟨w2,z2⟩:=I.cell y c' e;exact⟨w2,z2.sameBut hs hcc⟩
   · obtain⟨e,n,ne,nf,d⟩:=I.pin p hp;refine⟨(hs.2 p.1 ?_).trans e,n,ne,nf,d⟩;intro q;rw[q,hoc] at e;have q':oc=p.2:=d_ e;exact d w' (by rw[<-q'];exact hocd)
def iG{X:Cx}{pins:List (Addr × Obj)}{σ:List (Option V)}{H:Hp}{s:Shared}{M:Model}{A:Around}{E:Value->Shared->Prop}{i:Nat}{x:Str}{v:V}{u:Value}{Q:Unit->Shared->Prop}(I:Inv X pins σ H s)(hN:X.N.Nodup)(hi:X.N[i]? =some x)(hx:IA X.env.scope x)(r:RelV v u)(h:∀s',Inv X pins (σ.set i (some v)) H s'->Q () s')(hf:X.fn x=true\/X.env.scope.names.lookup x=some .local:=by first | exact .inl rfl | exact .inr rfl | assumption):wpAny M A (storeName X.env x u) Q E s:=r_ I hN hi hx r (fun s' I' _=>h s' I') hf
def Inv.call'(I:Inv X pins σ H s)(ho:s'.os=s.os)(u:Un (qO X.stack) ch H H' s.heap s'.heap)(hok:HOk X.prog X.w H' s'.heap)(hg:AllBare s'.gens)(hch:∀b∈ch,(b∈X.ex\/X.s₀.heap.objs.size<=b)/\b≠X.env.locals/\(∀x c,X.env.cells.lookup x=some c->c≠b)/\∀p∈X.pn++pins,p.1≠b):Inv X pins σ H' s':=by
 obtain⟨h',g',d',t',o'⟩:=s';have e:o'=s.os:=ho;subst e;exact I.call (g':=g') (t':=t') (d':=d') u hok hg hch
end
abbrev XK:=Value->Option Addr->Hp->Prop
abbrev St:=List (Option V)
abbrev VK:=V->Hp->Prop
abbrev TE:=St->Hp->VK->Prop
abbrev TT:=St->Hp->(Bool->Hp->Prop)->Prop
abbrev TA:=St->Hp->(List V->Hp->Prop)->Prop
structure oY where
 nx:St->Hp->Prop
 rt:VK
 bk:St->Hp->Prop:=fun _ _=>False
 ct:St->Hp->Prop:=fun _ _=>False
abbrev TS:=oY->St->Hp->Prop
def EP(X:Cx)(pins:List (Addr × Obj))(σ:St)(Q:VK)(u:Value)(s':Shared):Prop:=∃v H',Inv X pins σ H' s'/\RelV v u/\Q v H'
def TP(X:Cx)(pins:List (Addr × Obj))(σ:St)(Q:Bool->Hp->Prop)(b:Bool)(s':Shared):Prop:=∃H',Inv X pins σ H' s'/\Q b H'
def AP(X:Cx)(pins:List (Addr × Obj))(σ:St)(Q:List V->Hp->Prop)(us:List Value)(s':Shared):Prop:=∃vs H',Inv X pins σ H' s'/\Vals vs us/\Q vs H'
def SP(X:Cx)(pins:List (Addr × Obj))(D:oY)(f:Flow)(s':Shared):Prop:=match f with
 | .next=>∃σ' H',Inv X pins σ' H' s'/\D.nx σ' H'
 | .brk=>∃σ' H',Inv X pins σ' H' s'/\D.bk σ' H'
 | .cont=>∃σ' H',Inv X pins σ' H' s'/\D.ct σ' H'
 | .ret u=>∃v σ' H',Inv X pins σ' H' s'/\RelV v u/\D.rt v H'
def PE(X:Cx)(e:Expr)(t:TE):Prop:=∀(pins:List (Addr × Obj)) (s:Shared) (σ:St) (H:Hp) (Q:VK),Inv X pins σ H s->t σ H Q->wpAny (model X.prog X.w) X.A (eval e X.env) (EP X pins σ Q) X.xe s
def PT(X:Cx)(e:Expr)(t:TT):Prop:=∀(pins:List (Addr × Obj)) (s:Shared) (σ:St) (H:Hp) (Q:Bool->Hp->Prop),Inv X pins σ H s->t σ H Q->wpAny (model X.prog X.w) X.A (isTrue e X.env (eval e X.env)) (TP X pins σ Q) X.xe s
def PW(X:Cx)(e:Expr)(t:TT):Prop:=∀(whole:Sem Value) (pins:List (Addr × Obj)) (s:Shared) (σ:St) (H:Hp) (Q:Bool->Hp->Prop),Inv X pins σ H s->t σ H Q->wpAny (model X.prog X.w) X.A (isTrue e X.env whole) (TP X pins σ Q) X.xe s
def PW.pt(h:PW X e t):PT X e t:=h _
def PA(X:Cx)(es:List Expr)(t:TA):Prop:=∀(pos:Pos) (pins:List (Addr × Obj)) (s:Shared) (σ:St) (H:Hp) (Q:List V->Hp->Prop),Inv X pins σ H s->t σ H Q->wpAny (model X.prog X.w) X.A (spliced (backTo pos (starEach es X.env))) (AP X pins σ Q) X.xe s
def PS(X:Cx)(st:Stmt)(t:TS):Prop:=∀(pins:List (Addr × Obj)) (s:Shared) (σ:St) (H:Hp) (D:oY),Inv X pins σ H s->t D σ H->wpAny (model X.prog X.w) X.A (exec st X.env) (SP X pins D) X.xe s
def PSs(X:Cx)(st:List Stmt)(t:TS):Prop:=∀(pins:List (Addr × Obj)) (s:Shared) (σ:St) (H:Hp) (D:oY),Inv X pins σ H s->t D σ H->wpAny (model X.prog X.w) X.A (execs st X.env) (SP X pins D) X.xe s
def cX{t:Sem α}(h:wpAny M A t Q E s)(hQ:∀a s,Q a s->Q' a s):wpAny M A t Q' E s:=bJ h hQ fun _ _ x=>x
section
def onV(σ:St)(i:Nat)(Q:V->Prop):Prop:=match σ[i]? with | some (some v)=>Q v | _=>False
def onB(x:V)(Q:Bool->Prop):Prop:=match x with | .bl c=>Q c | _=>False
def onI(x:V)(Q:Int->Prop):Prop:=match x with | .int c=>Q c | _=>False
def onR(x:V)(Q:Addr->Prop):Prop:=match x with | .ref c=>Q c | _=>False
def onT(b:Bool)(Q:Prop):Prop:=match b with | true=>Q | false=>False
def onV.ex(h:onV σ i Q):∃v,σ[i]? =some (some v)/\Q v:=by
 unfold onV at h
 split at h
 · exact⟨_,by assumption,h⟩
 · exact h.elim
def onB.ex(h:onB x Q):∃c,x= .bl c/\Q c:=by cases x<;>first | exact⟨_,rfl,h⟩ | exact False.elim h
def onI.ex(h:onI x Q):∃c,x= .int c/\Q c:=by cases x<;>first | exact⟨_,rfl,h⟩ | exact False.elim h
def onR.ex(h:onR x Q):∃c,x= .ref c/\Q c:=by cases x<;>first | exact⟨_,rfl,h⟩ | exact False.elim h
def onT.ex(h:onT b Q):b=true/\Q:=by cases b<;>first | exact⟨rfl,h⟩ | exact False.elim h
def ng(i:Nat):TE:=fun σ H Q=>onV σ i fun v=>Q v H
def tC(v:V):TE:=fun _ H Q=>Q v H
def Hi{X:Cx}{i:Nat}{x:Str}{pos:Pos}(hN:X.N[i]? =some x)(hv:Ki X.env.scope x)(hd:(x==("__debug__":Str))=false:=by decide)(hcd:(x==("__classdict__":Str))=false:=by decide):PE X (.Name x pos) (ng i):=by
 intro pins s σ H Q I h;obtain⟨v,e,h⟩:=onV.ex h;obtain⟨m,hn,hl⟩:=I.loc;obtain⟨u,r,l⟩:=hl i x v hN e hv;have fin:EP X pins σ Q u s:=⟨v,H,I,r,h⟩;rcases l with⟨hk,hm⟩ | ⟨hk,c,hc,hcell⟩
 · exact Mb (Ku I.ok.kind hk hn hm fin) hd
 · rcases hk with hk | hk
   · exact Mb (LF I.ok.kind hk hc hcell fin) hd
   · exact Mb (wpAny_loadName_free I.ok.kind hk hc hcell fin hcd) hd
def aD:PE X (.Constant (.int i) j pos) (tC (.int i)):=fun _ _ _ H _ I h=>wpAny_Constant_int ⟨.int i,H,I.tok _,⟨_,rfl⟩,h⟩
def fD:PE X (.Constant (.bool b) j pos) (tC (.bl b)):=fun _ _ _ H _ I h=>Constant_bool ⟨.bl b,H,I,rfl,h⟩
def eo:PE X (.Constant .none j pos) (tC .non):=fun _ _ _ H _ I h=>Constant_none ⟨.non,H,I,rfl,h⟩
def aN:PE X (.Constant (.str x) j pos) (tC (.str x)):=fun _ _ _ H _ I h=>Calls.Constant_str ⟨.str x,H,I.tok _,⟨_,rfl⟩,h⟩
def Gl(X:Cx)(x:Str):Prop:=X.env.kindOf x=some .globalImplicit
def gI{X:Cx}{E:Value->Shared->Prop}{pins:List (Addr × Obj)}{s:Shared}{σ:St}{H:Hp}{x:Str}{u:Value}{pos:Pos}{Q:Value->Shared->Prop}(I:Inv X pins σ H s)(hg:Gl X x)(hm:X.mg x=some u)(h:Q u s)(hd:(x==("__debug__":Str))=false:=by decide):wpAny (model X.prog X.w) X.A (eval (.Name x pos) X.env) Q E s:=FU I.ok.kind hg (Calls.loadGlobal_global (by rw[I.ok.glob];exact I.mod.glob.keeps I.bk) hm h) hd
def qH{X:Cx}{E:Value->Shared->Prop}{pins:List (Addr × Obj)}{s:Shared}{σ:St}{H:Hp}{x:Str}{u:Value}{pos:Pos}{Q:Value->Shared->Prop}(I:Inv X pins σ H s)(hg:Gl X x)(hm:X.mg x=none)(hv:bootBuiltins x=some u)(h:Q u s)(hn:x≠"__name__":=by decide)(hd:(x==("__debug__":Str))=false:=by decide):wpAny (model X.prog X.w) X.A (eval (.Name x pos) X.env) Q E s:=by
 obtain⟨mb,h1,h2⟩:=I.mod.blt;exact FU I.ok.kind hg (Calls.loadGlobal_builtin (by rw[I.ok.glob];exact I.mod.glob.keeps I.bk) hm (by rw[I.ok.blt];exact h1.keeps I.bk) ((h2 x hn).trans hv) h) hd
def gF{X:Cx}{x:Str}{v:V}{u:Value}{pos:Pos}(hg:Gl X x)(hm:X.mg x=some u)(r:RelV v u)(hd:(x==("__debug__":Str))=false:=by decide):PE X (.Name x pos) (tC v):=fun _ _ _ H _ I h=>gI I hg hm ⟨v,H,I,r,h⟩ hd
def uo{X:Cx}{x:Str}{v:V}{u:Value}{pos:Pos}(hg:Gl X x)(hm:X.mg x=none)(hv:bootBuiltins x=some u)(r:RelV v u)(hn:x≠"__name__":=by decide)(hd:(x==("__debug__":Str))=false:=by decide):PE X (.Name x pos) (tC v):=fun _ _ _ H _ I h=>qH I hg hm hv ⟨v,H,I,r,h⟩ hn hd
def tB(t:TE):TT:=fun σ H Q=>t σ H fun x H1=>onB x fun c=>Q c H1
def fN{X:Cx}{e:Expr}{t:TE}(h:PE X e t)(he:∀whole,isTrue e X.env whole=(do let v<-whole;standAt e.pos;holding [v] (truthy v)):=by intro _;rfl):PT X e (tB t):=by
 intro pins s σ H Q I hw;refine isTrue_plain (cX (h pins s σ H _ I hw) fun v s1 ⟨x,H1,I1,r1,q1⟩=> ?_) (he _);obtain⟨d,rfl,q⟩:=onB.ex q1;cases r1;exact cY ⟨H1,I1,q⟩
def KJ(t u:TT):TT:=fun σ H Q=>t σ H fun c H1=>if c=true then u σ H1 Q else Q false H1
def Mg(t u:TT):TT:=fun σ H Q=>t σ H fun c H1=>if c=true then Q true H1 else u σ H1 Q
def KD(t:TT):TT:=fun σ H Q=>t σ H fun c H1=>Q (!c) H1
def pC(ha:PT X a tA):PW X (.BoolOp .And [a] pos) tA:=by
 intro wh pins s σ H Q I h;refine isTrue_and (cX (ha pins s σ H Q I h) fun c s1 e=> ?_);cases c with
 | true=>exact isTrue_and_nil e
 | false=>exact e
def yc(ha:PT X a tA):PW X (.BoolOp .Or [a] pos) tA:=by
 intro wh pins s σ H Q I h;refine isTrue_or (cX (ha pins s σ H Q I h) fun c s1 e=> ?_);cases c with
 | false=>exact isTrue_or_nil e
 | true=>exact e
def qu{rest:List Expr}(ha:PT X a tA)(hb:PW X (.BoolOp .And (b::rest) pos) tB'):PW X (.BoolOp .And (a::b::rest) pos) (KJ tA tB'):=by
 intro wh pins s σ H Q I h;refine isTrue_and (cX (ha pins s σ H _ I h) fun c s1 ⟨H1,I1,q1⟩=> ?_);cases c with
 | true=>exact hb wh pins s1 σ H1 Q I1 q1
 | false=>exact⟨H1,I1,q1⟩
def Ci{rest:List Expr}(ha:PT X a tA)(hb:PW X (.BoolOp .Or (b::rest) pos) tB'):PW X (.BoolOp .Or (a::b::rest) pos) (Mg tA tB'):=by
 intro wh pins s σ H Q I h;refine isTrue_or (cX (ha pins s σ H _ I h) fun c s1 ⟨H1,I1,q1⟩=> ?_);cases c with
 | true=>exact⟨H1,I1,q1⟩
 | false=>exact hb wh pins s1 σ H1 Q I1 q1
def qw(ha:PT X a tA):PT X (.UnaryOp .Not a pos) (KD tA):=by
 intro pins s σ H Q I h;exact isTrue_not (ha pins s σ H (fun c H1=>Q (!c) H1) I h)
def Jj(ta tb:TE):TE:=fun σ H Q=>ta σ H fun x H1=>onB x fun c=>if c=true then tb σ H1 Q else Q (.bl false) H1
def KC(ta tb:TE):TE:=fun σ H Q=>ta σ H fun x H1=>onB x fun c=>if c=true then Q (.bl true) H1 else tb σ H1 Q
def Je(ta:TE):TE:=fun σ H Q=>ta σ H fun x H1=>onB x fun c=>Q (.bl (!c)) H1
def uk(h:PE X a t):PE X (.BoolOp op [a] pos) t:=fun pins s σ H Q I hw=>BoolOp_one (h pins s σ H Q I hw)
def qB{rest:List Expr}(ha:PE X a ta)(hb:PE X (.BoolOp .And (b::rest) pos) tb):PE X (.BoolOp .And (a::b::rest) pos) (Jj ta tb):=by
 intro pins s σ H Q I h;refine BoolOp_and (cX (ha pins s σ H _ I h) fun v s1 ⟨x,H1,I1,r1,q1⟩=> ?_);obtain⟨c,rfl,q1⟩:=onB.ex q1;cases r1;refine cY ?_;cases c with
 | true=>exact hb pins s1 σ H1 Q I1 q1
 | false=>exact⟨.bl false,H1,I1,rfl,q1⟩
def Cr{rest:List Expr}(ha:PE X a ta)(hb:PE X (.BoolOp .Or (b::rest) pos) tb):PE X (.BoolOp .Or (a::b::rest) pos) (KC ta tb):=by
 intro pins s σ H Q I h;refine BoolOp_or (cX (ha pins s σ H _ I h) fun v s1 ⟨x,H1,I1,r1,q1⟩=> ?_);obtain⟨c,rfl,q1⟩:=onB.ex q1;cases r1;refine cY ?_;cases c with
 | false=>exact hb pins s1 σ H1 Q I1 q1
 | true=>exact⟨.bl true,H1,I1,rfl,q1⟩
def Hj(ha:PE X a ta):PE X (.UnaryOp .Not a pos) (Je ta):=by
 intro pins s σ H Q I h;refine UnaryOp_ (cX (ha pins s σ H _ I h) fun v s1 ⟨x,H1,I1,r1,q1⟩=> ?_);obtain⟨c,rfl,q1⟩:=onB.ex q1;cases r1;exact not_of (cY ⟨.bl (!c),H1,I1,rfl,q1⟩)
def Mh(t:TT)(ta tb:TE):TE:=fun σ H Q=>t σ H fun c H1=>if c=true then ta σ H1 Q else tb σ H1 Q
def qz(hc:PT X c tA)(ha:PE X a ta)(hb:PE X b tb):PE X (.IfExp c a b pos) (Mh tA ta tb):=by
 intro pins s σ H Q I h;refine wpAny_IfExp (cX (hc pins s σ H _ I h) fun d s1 ⟨H1,I1,q1⟩=> ?_);cases d with
 | true=>exact ha pins s1 σ H1 Q I1 q1
 | false=>exact hb pins s1 σ H1 Q I1 q1
end
def SqL(K:Frag)(H:Hp)(a:Addr)(xs:List V):Prop:=Rd H a (.lst xs)\/∃o its n,K.lookup a=some o/\o.cls= .type "list"/\o.dict=none/\o.data= .seq its n/\its.size<=sizeLine/\Vals xs its.toList
def SqT(K:Frag)(H:Hp)(a:Addr)(xs:List V):Prop:=Rd H a (.tup xs)\/∃o its n,K.lookup a=some o/\o.cls= .type "tuple"/\o.data= .seq its n/\its.size<=sizeLine/\Vals xs its.toList
noncomputable def Lp:Value->Option V
 | .none=>some .non
 | .bool b=>some (.bl b)
 | .int i _=>some (.int i)
 | .str x _=>some (.str x)
 | .bytes b _=>some (.byt b)
 | .float b _=>some (.flt b)
 | .ref a=>some (.ref a)
 | .type n=>some (.ty n)
 | _=>none
def RelV.abs(r:RelV x u):Lp u=some x:=by
 cases x with
 | non=>cases r;rfl
 | bl _=>cases r;rfl
 | int _=>obtain⟨t,rfl⟩:=r;rfl
 | str _=>obtain⟨t,rfl⟩:=r;rfl
 | byt _=>obtain⟨t,rfl⟩:=r;rfl
 | flt _=>obtain⟨t,rfl⟩:=r;rfl
 | ref _=>cases r;rfl
 | ty _=>cases r;rfl
def RelV.inj(r:RelV x u)(q:RelV y u):x=y:=d_ (r.abs.symm.trans q.abs)
theorem Vals.inj:∀{xs ys:List V} {us:List Value},Vals xs us->Vals ys us->xs=ys
 | _,_,_,.nil,.nil=>rfl
 | _,_,_,.cons r t,.cons r' t'=>by rw[r.inj r',Vals.inj t t']
section
def SqL.of{K:Frag}(h:H a=some (.lst xs)):SqL K H a xs:= .inl (.inl h)
def SqT.of{K:Frag}(h:H a=some (.tup xs)):SqT K H a xs:= .inl (.inl h)
def Inv.list{σ:St}(I:Inv X pins σ H s)(h:SqL X.K H a xs):∃its:List Value,Vals xs its/\PlainL s.heap a its.toArray/\xs.length<=sizeLine:=by
 rcases h with h | ⟨o,its,n,hk,hc,hd,hs,hz,r⟩
 · obtain⟨z,its,n,r,e⟩:=h.ok I.hok;exact⟨its,r,⟨_,n,e,rfl,rfl,rfl⟩,z⟩
 · refine⟨its.toList,r,⟨o,n,I.kIn a o hk,hc,hd,by simpa using hs⟩,?_⟩;have e:=r.length;simp only[jv] at e
   lia
def Inv.tuple{σ:St}(I:Inv X pins σ H s)(h:SqT X.K H a xs):∃its:List Value,Vals xs its/\IsTup s.heap a its.toArray/\xs.length<=sizeLine:=by
 rcases h with h | ⟨o,its,n,hk,hc,hs,hz,r⟩
 · obtain⟨z,its,r,p⟩:=h.ok I.hok;exact⟨its,r,p,z⟩
 · refine⟨its.toList,r,⟨o,I.kIn a o hk,hc,n,by simpa using hs⟩,?_⟩;have e:=r.length;simp only[jv] at e
   lia
def Inv.list_inj{σ:St}(I:Inv X pins σ H s)(h:SqL X.K H a xs)(h':SqL X.K H a ys):xs=ys:=by
 obtain⟨its,r,⟨o,n,e,_,_,d⟩,_⟩:=I.list h;obtain⟨its',r',⟨o',n',e',_,_,d'⟩,_⟩:=I.list h';rw[e] at e';cases e';rw[d] at d'
 injection d' with d1 _
 have:its=its':=by simpa using congrArg Array.toList d1
 subst this;exact r.inj r'
def Inv.tuple_inj{σ:St}(I:Inv X pins σ H s)(h:SqT X.K H a xs)(h':SqT X.K H a ys):xs=ys:=by
 obtain⟨its,r,⟨o,e,_,n,d⟩,_⟩:=I.tuple h;obtain⟨its',r',⟨o',e',_,n',d'⟩,_⟩:=I.tuple h';rw[e] at e';cases e';rw[d] at d'
 injection d' with d1 _
 have:its=its':=by simpa using congrArg Array.toList d1
 subst this;exact r.inj r'
end
noncomputable abbrev Cx.wish(X:Cx)(E:Value->Shared->Prop):Cx:={X with xe:=E}
noncomputable abbrev Cx.nox(X:Cx):Cx:=X.wish fun _ _=>False
def Cx.Ok.wish{X:Cx}(ok:X.Ok)(E:Value->Shared->Prop):(X.wish E).Ok:=⟨ok.mod,ok.kind,ok.glob,ok.blt,ok.above,ok.inj,ok.has,ok.cab,ok.hd,ok.frames,ok.stk,ok.exf,ok.bs,ok.bsz,ok.noex,ok.exfs,ok.funs,ok.frf⟩
def Cx.Ok.unwish{X:Cx}(ok:(X.wish E).Ok):X.Ok:=⟨ok.mod,ok.kind,ok.glob,ok.blt,ok.above,ok.inj,ok.has,ok.cab,ok.hd,ok.frames,ok.stk,ok.exf,ok.bs,ok.bsz,ok.noex,ok.exfs,ok.funs,ok.frf⟩
section
def Inv.wish{σ:St}(I:Inv X pins σ H s)(E:Value->Shared->Prop):Inv (X.wish E) pins σ H s:=⟨I.ok.wish E,I.os,I.bare,I.base,I.loc,I.cell,I.free,I.freeC,I.pin,I.hok,I.len⟩
def Inv.unwish{σ:St}(I:Inv (X.wish E) pins σ H s):Inv X pins σ H s:=⟨I.ok.unwish,I.os,I.bare,I.base,I.loc,I.cell,I.free,I.freeC,I.pin,I.hok,I.len⟩
def SP.unwish(h:SP (X.wish E) pins D f s'):SP X pins D f s':=by
 cases f with
 | next=>obtain⟨σ',H',I,q⟩:=h;exact⟨σ',H',I.unwish,q⟩
 | brk=>obtain⟨σ',H',I,q⟩:=h;exact⟨σ',H',I.unwish,q⟩
 | cont=>obtain⟨σ',H',I,q⟩:=h;exact⟨σ',H',I.unwish,q⟩
 | ret u=>obtain⟨v,σ',H',I,r,q⟩:=h;exact⟨v,σ',H',I.unwish,r,q⟩
def PSs.nox{st:List Stmt}(h:PSs X.nox st t):PSs X st t:=fun pins s σ H D I hw=>
 bJ (h pins s σ H D (I.wish _) hw) (fun _ _ q=>q.unwish) fun _ _ z=>False.elim z
end
section
def Jf:TS:=fun D σ H=>D.nx σ H
def Aq(t u:TS):TS:=fun D σ H=>t {D with nx:=u D} σ H
def br:PSs X [] Jf:=fun _ _ σ H _ I h=>d7 ⟨σ,H,I,h⟩
def e_{X:Cx}{st:Stmt}{rest:List Stmt}{t u:TS}(h1:PS X st t)(h2:PSs X rest u):PSs X (st::rest) (Aq t u):=by
 intro pins s σ H D I h;refine iB (cX (h1 pins s σ H {D with nx:=u D} I h) fun f s1 q=> ?_);cases f with
 | next=>
   obtain⟨σ',H',I',q⟩:=q;exact h2 pins s1 σ' H' D I' q
 | ret v=>exact q
 | brk=>exact q
 | cont=>exact q
def fT{X:Cx}{st:Stmt}{t:TS}(h1:PS X st t):PSs X [st] t:=by
 intro pins s σ H D I h;refine iB (cX (h1 pins s σ H D I h) fun f s1 q=> ?_);cases f with
 | next=>exact d7 q
 | ret v=>exact q
 | brk=>exact q
 | cont=>exact q
def Jh:TS:=fun D σ H=>D.ct σ H
def wg:PS X (.Continue pos) Jh:=fun _ _ σ H _ I h=>wpAny_Continue ⟨σ,H,I,h⟩
def Inv.quiet{σ:St}(I:Inv X pins σ H s):interactive X.env=false:=by simp[interactive,I.ok.kind]
def F2(te:TE):TS:=fun D σ H=>te σ H fun _ H1=>D.nx σ H1
def bh{X:Cx}{e:Expr}{te:TE}{pos:Pos}(he:PE X e te)(hs:swapsWith e none pos.line X.env=pure false:=by rfl):PS X (.Expr e pos) (F2 te):=by
 intro pins s σ H D I h;exact Eg (cX (he pins s σ H _ I h) fun v s1 ⟨x,H1,I1,r1,q1⟩=>⟨σ,H1,I1,q1⟩) I.quiet hs
def KA(te:TE):TS:=fun D σ H=>te σ H D.rt
def ip{X:Cx}{e:Expr}{te:TE}{pos:Pos}(he:PE X e te):PS X (.Return (some e) pos) (KA te):=by
 intro pins s σ H D I h;exact wpAny_Return_some (cX (he pins s σ H _ I h) fun v s1 ⟨x,H1,I1,r1,q1⟩=>⟨x,σ,H1,I1,r1,q1⟩)
def Jc:TS:=fun D _ H=>D.rt .non H
def j6:PS X (.Return none pos) Jc:=fun _ _ σ H _ I h=>wpAny_Return_none ⟨.non,σ,H,I,rfl,h⟩
def KH(c:TT)(t u:TS):TS:=fun D σ H=>c σ H fun b H1=>if b=true then t D σ H1 else u D σ H1
def bH(hc:PT X c tc)(ha:PSs X a t)(hb:PSs X b u):PS X (.If c a b pos) (KH tc t u):=by
 intro pins s σ H D I h;refine wpAny_If (cX (hc pins s σ H _ I h) fun d s1 ⟨H1,I1,q1⟩=> ?_);cases d with
 | true=>exact ha pins s1 σ H1 D I1 q1
 | false=>exact hb pins s1 σ H1 D I1 q1
def BQ:TS:=fun _ _ _=>False
def Co{st:Stmt}:PS X st BQ:=fun _ _ _ _ _ _ h=>h.elim
def sO:PSs X sts BQ:=fun _ _ _ _ _ _ h=>h.elim
end
abbrev TG:=V->St->Hp->(St->Hp->Prop)->Prop
abbrev Iu:=List V->St->Hp->(St->Hp->Prop)->Prop
def PG(X:Cx)(target:Expr)(t:TG):Prop:=∀(pins:List (Addr × Obj)) (s:Shared) (σ:St) (H:Hp) (v:V) (u:Value) (Q:St->Hp->Prop),Inv X pins σ H s->RelV v u->t v σ H Q->wpAny (model X.prog X.w) X.A (assign target X.env u) (fun _ s'=>∃σ' H',Inv X pins σ' H' s'/\Q σ' H') X.xe s
def Kn(X:Cx)(ts:List Expr)(t:Iu):Prop:=∀(pins:List (Addr × Obj)) (s:Shared) (σ:St) (H:Hp) (vs:List V) (us:List Value) (Q:St->Hp->Prop),Inv X pins σ H s->Vals vs us->t vs σ H Q->wpAny (model X.prog X.w) X.A (assignInOrder ((assignEach ts X.env).map (·.2)) us) (fun _ s'=>∃σ' H',Inv X pins σ' H' s'/\Q σ' H') X.xe s
abbrev Kk:=V->V->Hp->VK->Prop
def Ls(X:Cx)(op:Operator)(t:Kk):Prop:=∀(pins:List (Addr × Obj)) (s:Shared) (σ:St) (H:Hp) (x y:V) (v u:Value) (Q:VK),Inv X pins σ H s->RelV x v->RelV y u->t x y H Q->wpAny (model X.prog X.w) X.A (inplaceOp op v u) (EP X pins σ Q) X.xe s
section
def gm(i:Nat):TG:=fun v σ H Q=>Q (σ.set i (some v)) H
def pD{X:Cx}{pos:Pos}{i:Nat}{x:Str}(hN:X.N.Nodup)(hi:X.N[i]? =some x)(hx:IA X.env.scope x)(hf:X.fn x=true\/X.env.scope.names.lookup x=some .local:=by first | exact .inl rfl | exact .inr rfl | assumption):PG X (.Name x pos) (gm i):=by
 intro pins s σ H v u Q I r h;exact ML (iG I hN hi hx r (fun s' I'=>⟨_,H,I',h⟩) hf)
def Fw:Iu:=fun vs σ H Q=>match vs with | []=>Q σ H | _=>False
def oH(t:TG)(u:Iu):Iu:=fun vs σ H Q=>match vs with | v::r=>t v σ H (fun σ' H'=>u r σ' H' Q) | []=>False
def dD:Kn X [] Fw:=by
 intro pins s σ H vs us Q I r h;cases r with
 | cons=>exact False.elim h
 | nil=>exact MO ⟨σ,H,I,h⟩
def bz{X:Cx}{e:Expr}{es:List Expr}{t:TG}{u:Iu}(h1:PG X e t)(h2:Kn X es u)(hs:(assignEach (e::es) X.env).map (·.2)=assign e X.env::(assignEach es X.env).map (·.2):=by rfl):Kn X (e::es) (oH t u):=by
 intro pins s σ H vs us Q I r h;cases r with
 | nil=>exact False.elim h
 | cons r rr=>
   rw[hs];refine xp (cX (h1 pins s σ H _ _ _ I r h) fun _ s1 ⟨σ1,H1,I1,q1⟩=> ?_);exact h2 pins s1 σ1 H1 _ _ Q I1 rr q1
def JL(K:Frag)(n:Nat)(t:Iu):TG:=fun v σ H Q=>onR v fun a=>∃xs,SqT K H a xs/\xs.length=n/\t xs σ H Q
def eO{X:Cx}{pos:Pos}{es:List Expr}{k:Nat}{t:Iu}{n:Nat}(hc:X.calm=true)(h:Kn X es t)(hn:(assignEach es X.env).length=n:=by rfl)(hst:(assignEach es X.env).findIdx? (·.1)=none:=by rfl):PG X (.Tuple es k pos) (JL X.K n t):=by
 intro pins s σ H v u Q I r hw;obtain⟨a,e1,xs,hq,hl,hw'⟩:=onR.ex hw;subst e1;cases r;obtain⟨its,rv,ht,hz⟩:=I.tuple hq;refine assign_Tuple_tuple (I.ok.hd hc) ht (by simp[hn,<-hl,rv.length]) hst fun h' hx=> ?_;have I1:Inv X pins σ H {s with heap:=h'}:=I.kept (t':=s.toks) fun b o e=>hx b o (bf (aB e)) e;exact h pins _ σ H xs _ Q I1 (by simpa using rv) hw'
def Em(te:TE)(g:TG):TS:=fun D σ H=>te σ H fun x H1=>g x σ H1 D.nx
def ui{X:Cx}{pos:Pos}{tg e:Expr}{te:TE}{g:TG}(he:PE X e te)(hg:PG X tg g)(hs:swapsWithSole [tg] e pos.line X.env=pure false:=by rfl)(hw:swappedStores [tg] e X.env=pure none:=by rfl)(h1:(assignEach [tg] X.env).map (·.2)=[assign tg X.env]:=by rfl):PS X (.Assign [tg] e pos) (Em te g):=by
 intro pins s σ H D I h;refine wpAny_Assign_stores (cX (he pins s σ H _ I h) fun v s1 ⟨x,H1,I1,r1,q1⟩=> ?_) hs hw;rw[h1];exact cX (hg pins s1 σ H1 x v _ I1 r1 q1) fun _ s2 q=>q
def Cn{X:Cx}{pos:Pos}{i:Nat}{x:Str}{e:Expr}{te:TE}{pos':Pos}(hN:X.N.Nodup)(hi:X.N[i]? =some x)(hx:IA X.env.scope x)(he:PE X e te)(hs:swapsWith e (some (.Name x pos')) pos.line X.env=pure false:=by rfl)(hf:X.fn x=true\/X.env.scope.names.lookup x=some .local:=by first | exact .inl rfl | exact .inr rfl | assumption):PS X (.Assign [.Name x pos'] e pos) (Em te (gm i)):=by
 intro pins s σ H D I h;refine wpAny_Assign_Name (cX (he pins s σ H _ I h) fun v s1 ⟨y,H1,I1,r1,q1⟩=> ?_) hs;exact iG I1 hN hi hx r1 (fun s2 I2=>⟨_,H1,I2,q1⟩) hf
def KB(i j:Nat)(ta:TA):TS:=fun D σ H=>ta σ H fun vs H1=>∃v w,vs=[v,w]/\D.nx ((σ.set i (some v)).set j (some w)) H1
def He{X:Cx}{pos:Pos}{i j:Nat}{x y:Str}{a b:Expr}{ta:TA}{px py pt:Pos}{kt k2 pt2}(hc:X.calm=true)(hN:X.N.Nodup)(hi:X.N[i]? =some x)(hj:X.N[j]? =some y)(hij:i≠j)(hx:X.env.scope.names.lookup x=some .local)(hy:X.env.scope.names.lookup y=some .local)(ha:PA X [a,b] ta)(hw:swappedStores [.Tuple [.Name x px,.Name y py] kt pt] (.Tuple [a,b] k2 pt2) X.env=pure (some [x,y]))(hs:swapsWithSole [.Tuple [.Name x px,.Name y py] kt pt] (.Tuple [a,b] k2 pt2) pos.line X.env=pure false:=by rfl):PS X (.Assign [.Tuple [.Name x px,.Name y py] kt pt] (.Tuple [a,b] k2 pt2) pos) (KB i j ta):=by
 intro pins s σ H D I h;rw[exec_Assign_arm];refine aa (dG ?_);rw[hs];refine aa (aA ?_);rw[aG (by decide)];refine aa (Tuple_ (cX (ha _ pins s σ H _ I h) fun us s1 ⟨vs,H1,I1,r1,q1⟩=> ?_));obtain⟨v,w,e1,q1⟩:=q1;subst e1;obtain⟨u1,u2,rfl,rv,rw'⟩:∃u1 u2,us=[u1,u2]/\RelV v u1/\RelV w u2:=by
  cases r1 with
  | cons p q=>
    cases q with
    | cons p' q'=>
      cases q';exact⟨_,_,rfl,p,p'⟩
 refine cI ?_ (by show 2<=sizeLine;decide);have I2:Inv X pins σ H1 {s1 with heap:=s1.heap.push {cls:= .type "tuple",data:= .seq [u1,u2].toArray}}:=I1.kept (t':=s1.toks) fun b o e=>ar _ e;rw[hw];refine aa (aA ?_);show wpAny (model X.prog X.w) X.A (do rule "assign.swapped-stores";let items<-unpackItems (.ref s1.heap.objs.size) 2 none;assignInOrder [fun v=>bindName X.env y v,fun v=>bindName X.env x v] items.reverse;pure Flow.next) _ _ _;refine aa (iA (aa (unpackItems_tuple (items:= #[u1,u2]) (I.ok.hd hc) (IsTup.new s1.heap _) fun h' hx'=> ?_)));have I3:=I2.kept (h':=h') (t':=s1.toks) fun b o e=>hx' b o (bf (aB e)) e;show wpAny _ _ (assignInOrder [fun v=>bindName X.env y v,fun v=>bindName X.env x v] [u2,u1]>>=fun _=>pure Flow.next) _ _ _;refine aa (xp (wpAny_bindName (iG I3 hN hj (.inl hy) rw' (fun s2 I4=> ?_) (.inr hy))));refine xp (wpAny_bindName (iG I4 hN hi (.inl hx) rv (fun s3 I5=>MO (aA ?_)) (.inr hx)));rw[List.set_comm _ _ (bB hij)] at I5;exact⟨_,H1,I5,q1⟩
def KI(i:Nat)(te:TE)(ti:Kk):TS:=fun D σ H=>∃x,σ[i]? =some (some x)/\te σ H fun y H1=>ti x y H1 fun z H2=>D.nx (σ.set i (some z)) H2
def uh{X:Cx}{pos:Pos}{i:Nat}{x:Str}{e:Expr}{te:TE}{op:Operator}{ti:Kk}{pos':Pos}(hN:X.N.Nodup)(hi:X.N[i]? =some x)(hx:IA X.env.scope x)(he:PE X e te)(ho:Ls X op ti)(hf:X.fn x=true\/X.env.scope.names.lookup x=some .local:=by first | exact .inl rfl | exact .inr rfl | assumption):PS X (.AugAssign (.Name x pos') op e pos) (KI i te ti):=by
 intro pins s σ H D I h;obtain⟨v,e1,h⟩:=h;obtain⟨m,hn,hl⟩:=I.loc;have vis:Ki X.env.scope x:=by rcases hx with k | k;exact .inl k;exact .inr (.inl k)
 obtain⟨u,r,l⟩:=hl i x v hi e1 vis;refine wpAny_AugAssign_Name ?_;have go:wpAny (model X.prog X.w) X.A (eval e X.env) (fun w s₂=>wpAny (model X.prog X.w) X.A (inplaceOp op u w) (fun r s₃=>wpAny (model X.prog X.w) X.A (storeName X.env x r) (fun _=>SP X pins D .next) X.xe s₃) X.xe s₂) X.xe s:=by
  refine cX (he pins s σ H _ I h) fun w s1 ⟨y,H1,I1,r1,q1⟩=> ?_;refine cX (ho pins s1 σ H1 v y u w _ I1 r r1 q1) fun z s2 ⟨zv,H2,I2,r2,q2⟩=> ?_;exact iG I2 hN hi hx r2 (fun s3 I3=>⟨_,H2,I3,q2⟩) hf
 rcases l with⟨hk,hm⟩ | ⟨hk,c,hc,hcell⟩
 · exact Ku I.ok.kind hk hn hm go
 · rcases hk with hk | hk
   · exact LF I.ok.kind hk hc hcell go
   · rcases hx with k | k
     · have:X.env.scope.names.lookup x=some .free:=hk;rw[k] at this;cases this
     · have:X.env.scope.names.lookup x=some .free:=hk;rw[k] at this;cases this
def LW(f:Int->Int->Int):Kk:=fun x y H Q=>∃i j,x= .int i/\y= .int j/\Q (.int (f i j)) H
def yF:Ls X .Add (LW fun i j=>i+j):=by
 intro pins s σ H x y v u Q I r1 r2 h;obtain⟨i,j,e1,e2,q⟩:=h;subst e1;subst e2;obtain⟨t,rfl⟩:=r1;obtain⟨t',rfl⟩:=r2;exact iadd_int ⟨.int _,H,I.tok _,⟨_,rfl⟩,q⟩
end
section
def tG(c:TT)(tb:TS):TS:=fun D σ H=>∃W:Nat->St->Hp->Prop,(∃m,W m σ H)/\∀m σ H,W m σ H->c σ H fun b H1=>if b=true then ∃N:St->Hp->Prop,(∀σ' H',N σ' H'->∃m',m'<m/\W m' σ' H')/\tb {D with nx:=N,ct:=N,bk:=D.nx} σ H1 else D.nx σ H1
def qx(hp:PassesOwn (model X.prog X.w) X.A X.env X.xe)(hc:PT X c tc)(hb:PSs X body tb):PS X (.While c body [] pos) (tG tc tb):=by
 intro pins s σ H D I h;obtain⟨W,⟨m0,w0⟩,turn⟩:=h;refine wpAny_While (codeAny_whileLoop (fun n s'=>∃σ' H',Inv X pins σ' H' s'/\W n σ' H') ?_ m0 ⟨σ,H,I,w0⟩);rintro n s1 ⟨σ1,H1,I1,w1⟩;refine fg hp (cX (hc pins s1 σ1 H1 _ I1 (turn n σ1 H1 w1)) fun b s2 ⟨H2,I2,q2⟩=> ?_);cases b with
 | true=>
   obtain⟨N,hN,q2⟩:=q2;rw[aK rfl];refine fg hp (cX (hb pins s2 σ1 H2 _ I2 q2) fun f s3 q3=> ?_);cases f with
   | next=>
     obtain⟨σ3,H3,I3,n3⟩:=q3;obtain⟨m',hm,w3⟩:=hN σ3 H3 n3;exact⟨m',hm,σ3,H3,I3,w3⟩
   | cont=>
     obtain⟨σ3,H3,I3,n3⟩:=q3;obtain⟨m',hm,w3⟩:=hN σ3 H3 n3;exact⟨m',hm,σ3,H3,I3,w3⟩
   | brk=>exact q3
   | ret v=>exact q3
 | false=>
   rw[aG aP];exact d7 ⟨σ1,H2,I2,q2⟩
end
structure It where
 go:Nat->Hp->Prop
 yld:Nat->Hp->V->Hp->Prop
 stop:Nat->Hp->Prop
def kF(X:Cx)(pins:List (Addr × Obj))(H:Hp)(b:Addr):Prop:=H b=none/\b≠X.env.locals/\b∉X.fs/\(b∈X.ex\/X.s₀.heap.objs.size<=b)/\(∀x c,X.env.cells.lookup x=some c->c≠b)/\∀p∈X.pn++pins,p.1≠b
def Inv.fpOk{σ:St}{b:Addr}(I:Inv X pins σ H s)(hb:s.heap.objs.size<=b)(hn:H' b=none):kF X pins H' b:=by
 refine⟨hn,eC (ah I.lt hb),I.nofs hb,.inr (ao I.sz hb),fun x c e z=> ?_,fun p hp z=> ?_⟩
 · obtain⟨v,q⟩:=I.cell x c e;exact absurd (ah q.lt (by rw[z];exact hb)) (fm _)
 · exact absurd (ah (aB (I.pin p hp).1) (by rw[z];exact hb)) (fm _)
structure xr(P:Program)(w:World)(K:Frag)(tg:Expr)(J:It)(fp:List Addr)(it:Addr)(tn:Nat->Heap->Prop):Prop where
 mem:it∈fp
 obj:∀i h,tn i h->∀b∈fp,∃o,h.get? b=some o/\∀v,o.data≠ .cell v
 keep:∀i h h',tn i h->(∀b∈fp,∀o,h.get? b=some o->h'.get? b=some o)->tn i h'
 item:∀(X:Cx),X.prog=P->X.w=w->X.K=K->X.calm=true->∀(i:Nat) (pins:List (Addr × Obj)) (s:Shared) (σ:St) (H:Hp) (E:Value->Shared->Prop),Inv X pins σ H s->(∀b∈fp,kF X pins H b)->tn i s.heap->J.go i H->wpAny (model P w) X.A (pyNext (.ref it)) (fun r s1=>∃u,r=some u/\wpAny (model P w) X.A (letOwnedTupleGo tg (.ref it) u) (fun _ s2=>∃x H',Inv X pins σ H' s2/\RelV x u/\J.yld i H x H'/\tn (i+1) s2.heap/\∀b∈fp,H' b=none) E s1) E s
 done:∀(X:Cx),X.prog=P->X.w=w->X.K=K->X.calm=true->∀(i:Nat) (pins:List (Addr × Obj)) (s:Shared) (σ:St) (H:Hp) (E:Value->Shared->Prop),Inv X pins σ H s->(∀b∈fp,kF X pins H b)->tn i s.heap->J.stop i H->wpAny (model P w) X.A (pyNext (.ref it)) (fun r s1=>r=none/\Inv X pins σ H s1) E s
 self:∀(A:Around) (i:Nat) (s:Shared) (Q:Value->Shared->Prop) (E:Value->Shared->Prop),tn i s.heap->Q (.ref it) s->wpAny (model P w) A (pyIter (.ref it)) Q E s
abbrev TI:=St->Hp->(It->Hp->Prop)->Prop
def Lu(X:Cx)(pins:List (Addr × Obj))(σ:St)(tg:Expr)(R:It->Hp->Prop)(itv:Value)(s2:Shared):Prop:=∃it fp tn J H',itv= .ref it/\Inv X pins σ H' s2/\xr X.prog X.w X.K tg J fp it tn/\tn 0 s2.heap/\(∀b∈fp,kF X pins H' b)/\R J H'
def PI(X:Cx)(tg iter:Expr)(wi:TI):Prop:=∀(pins:List (Addr × Obj)) (s:Shared) (σ:St) (H:Hp) (R:It->Hp->Prop),Inv X pins σ H s->wi σ H R->wpAny (model X.prog X.w) X.A (eval iter X.env) (fun v s1=>wpAny (model X.prog X.w) X.A (pyIter v) (Lu X pins σ tg R) X.xe s1) X.xe s
def Dy(ho:s.heap.get? it=some o)(hc:o.cls= .type n)(hd:o.data= .fields vs)(hn:["enumerate","zip","dict_itemiterator","dict_reverseitemiterator","odict_iterator","itertools.zip_longest","itertools.pairwise"].contains n=false)(hQ:Q () s):wpAny M A (letOwnedTupleGo tg (.ref it) u) Q E s:=by
 unfold letOwnedTupleGo;cases tg<;>first
  | exact aA hQ
  | (cases u<;>first
   | exact aA hQ
   | (refine aa (wpAny_load ho ?_)
      rw[hc,hd];show wpAny M A (if(["enumerate","zip","dict_itemiterator","dict_reverseitemiterator","odict_iterator","itertools.zip_longest","itertools.pairwise"].contains n&&vs[0]? ==some (rawInt _))=true then _ else _) Q E s;rw[aG (by intro h;rw[hn,rV] at h;cases h)];exact aA hQ))
noncomputable def IB(K:Frag)(a:Addr):It:=⟨fun i H=>∃xs x,SqL K H a xs/\xs[i]? =some x,fun i H x H'=>H'=H/\∀xs,SqL K H a xs->xs[i]? =some x,fun i H=>∃xs,SqL K H a xs/\xs.length<=i⟩
noncomputable def IV(lo:Int)(n:Nat):It:=⟨fun i _=>i<n,fun i H x H'=>H'=H/\x= .int (lo+i),fun i _=>n<=i⟩
def Ap{K:Frag}(a it:Addr):xr P w K tg (IB K a) [it] it (fun i h=>h.IsListIter it a i) where
 mem:=by simp
 obj:=fun i h st b hb=>by
  have e:b=it:=by simpa using hb
  subst e;obtain⟨o,e,c,d⟩:=st;exact⟨o,e,fun v z=>by rw[d] at z;cases z⟩
 keep:=fun i h h' st k=>st.at fun o e=>k it (by simp) o e
 item:=by
  intro X hP hw hK hc i pins s σ H E I hf st hg;subst hP hw hK;obtain⟨xs,x,hq,hx⟩:=hg;obtain⟨its,rv,p,hz⟩:=I.list hq;obtain⟨u,hu,ru⟩:=rv.get hx;obtain⟨f0,f1,f2,f3,f4,f5⟩:=hf it (by simp);refine wpAny_pyNext_list_item st p.isList (x:=u) (by simpa using hu) fun h' st' sb=> ?_;have I1:Inv X pins σ H {s with heap:=h'}:=I.turned (t':=s.toks) (fun b o hb e=>(sb.2 b hb).trans e) f0 f1 f3 f4 f5;obtain⟨o,e,c,d⟩:=id st';exact⟨u,rfl,Dy (s:={s with heap:=h'}) e c d (by decide) ⟨x,H,I1,ru,⟨rfl,fun ys hy=>by rw[I.list_inj hy hq];exact hx⟩,st',fun b hb=>(hf b hb).1⟩⟩
 done:=by
  intro X hP hw hK hc i pins s σ H E I hf st hg;subst hP hw hK;obtain⟨xs,hq,hx⟩:=hg;obtain⟨its,rv,p,hz⟩:=I.list hq;obtain⟨f0,f1,f2,f3,f4,f5⟩:=hf it (by simp);have hl:=rv.length;exact wpAny_pyNext_list_end (I.ok.hd hc) st p.isList (by simp;lia) fun h' eb=>⟨rfl,I.turned (t':=s.toks) (fun b o hb e=>eb b o hb e) f0 f1 f3 f4 f5⟩
 self:=fun _ _ _ _ _ st h=>wpAny_pyIter_listiter st h
def xD{K:Frag}(it:Addr)(lo:Int)(n:Nat):xr P w K tg (IV lo n) [it] it (fun i h=>IsRangeIter h it (lo+(i:Nat) * 1) ((n:Int) - (i:Nat)) 1) where
 mem:=by simp
 obj:=fun i h st b hb=>by
  have e:b=it:=by simpa using hb
  subst e;exact⟨_,st,fun v z=>by
   have z':Data.fields _=Data.cell v:=z;cases z'⟩
 keep:=fun i h h' st k=>k it (by simp) _ st
 item:=by
  intro X hP hw hK hc i pins s σ H E I hf st hg;subst hP hw hK;obtain⟨f0,f1,f2,f3,f4,f5⟩:=hf it (by simp);have W:=Walks.range (prog:=X.prog) (w:=X.w) (I.ok.hd hc) it lo 1 n;refine W.item i s _ _ hg st fun v h' tk hv st' kk=> ?_;obtain⟨t,rfl⟩:=hv;have I1:Inv X pins σ H {s with heap:=h',toks:=tk}:=I.turned (fun b o hb e=>kk b o (by simpa using hb) e) f0 f1 f3 f4 f5;refine⟨_,rfl,Dy (s:={s with heap:=h',toks:=tk}) (n:="range_iterator") st' rfl rfl (by decide) ⟨.int (lo+i),H,I1,⟨t,?_⟩,⟨rfl,rfl⟩,st',fun b hb=>(hf b hb).1⟩⟩;rw[Int.mul_one]
 done:=by
  intro X hP hw hK hc i pins s σ H E I hf st hg;subst hP hw hK;obtain⟨f0,f1,f2,f3,f4,f5⟩:=hf it (by simp);exact wpAny_pyNext_range_end (I.ok.hd hc) st (by have:n<=i:=hg;lia) fun h' eb=>⟨rfl,I.turned (t':=s.toks) (fun b o hb e=>eb b o hb e) f0 f1 f3 f4 f5⟩
 self:=fun _ _ _ _ _ st h=>wpAny_pyIter_rangeiter st h
section
def kL(K:Frag)(tl:TE):TI:=fun σ H R=>tl σ H fun x H1=>onR x fun a=>(∃xs,SqL K H1 a xs)/\R (IB K a) H1
def bY(hl:PE X l tl):PI X tg l (kL X.K tl):=by
 intro pins s σ H R I h;refine cX (hl pins s σ H _ I h) fun v s1 ⟨x,H1,I1,r1,q1⟩=> ?_;obtain⟨a,e,⟨xs,hq⟩,q⟩:=onR.ex q1;subst e;cases r1;obtain⟨its,rv,p,hz⟩:=I1.list hq;refine MK p.isList ?_;refine⟨s1.heap.objs.size,[s1.heap.objs.size],_,_,H1,rfl,I1.kept (t':=s1.toks) fun b o e=>ar _ e,Ap a _,⟨_,aU _ rfl,rfl,rfl⟩,fun b hb=> ?_,q⟩;have e:b=s1.heap.objs.size:=by simpa using hb
 subst e;exact I1.fpOk (aq _) (I1.hok.fresh (aq _))
def Cc{σ:St}{lo:Int}(I:Inv X pins σ H s)(h1: -(2^62)<=lo)(h2:lo<2^62)(h3: -(2^62)<=hi)(h4:hi<2^62)(q:R (IV lo (hi - lo).toNat) H):wpAny (model X.prog X.w) X.A (pyIter (.ref s.heap.objs.size)) (Lu X pins σ tg R) E {s with heap:=s.heap.push {cls:= .type "range",data:= .fields #[.int lo t,.int hi u,.int 1 v]},toks:=tk}:=by
 refine wpAny_pyIter_range (IsRange.new ..) (small_one h1 h2 h3 h4) ?_;have I1:Inv X pins σ H {s with heap:=s.heap.push {cls:= .type "range",data:= .fields #[.int lo t,.int hi u,.int 1 v]},toks:=tk}:=I.kept fun b o e=>ar _ e;refine⟨(s.heap.push {cls:= .type "range",data:= .fields #[.int lo t,.int hi u,.int 1 v]}).objs.size,[(s.heap.push {cls:= .type "range",data:= .fields #[.int lo t,.int hi u,.int 1 v]}).objs.size],_,_,H,rfl,
  I1.kept (t':=tk) fun b o e=>ar _ e,xD _ lo (hi - lo).toNat,?_,fun b hb=> ?_,q⟩
 · have e1:lo+((0:Nat):Int) * 1=lo:=by simp
   have e2:(((hi - lo).toNat:Nat):Int) - ((0:Nat):Int)=Builtin.Range.rangeSize lo hi 1:=by rw[rangeSize_one];split<;>lia
   show IsRangeIter _ _ (lo+((0:Nat):Int) * 1) ((((hi - lo).toNat:Nat):Int) - ((0:Nat):Int)) 1;rw[e1,e2];exact aU _ rfl
 · have e:b=(s.heap.push {cls:= .type "range",data:= .fields #[.int lo t,.int hi u,.int 1 v]}).objs.size:=by simpa using hb
   subst e;exact I1.fpOk (aq _) (I1.hok.fresh (aq _))
def JK(ta:TA):TI:=fun σ H R=>ta σ H fun vs H1=>∃j:Int,vs=[.int j]/\ -(2^62)<=j/\j<2^62/\R (IV 0 j.toNat) H1
def j7{X:Cx}{tg a:Expr}{ta:TA}{p pos:Pos}(hg:Gl X "range")(hm:X.mg "range"=none)(ha:PA X [a] ta)(hs:starEach [a] X.env=[(false,eval a X.env)]:=by rfl):PI X tg (.Call (.Name "range" p) [a] [] pos) (JK ta):=by
 intro pins s σ H R I h;refine Call_ (qH I hg hm boot_range (jX (cX (ha pos pins s σ H _ I h) fun us s1 ⟨vs,H1,I1,r1,q1⟩=> ?_) hs rfl));obtain⟨j,e,q1,q2,q⟩:=q1;subst e;cases r1 with
 | cons r rr=>
   cases rr;obtain⟨t,rfl⟩:=r;exact call_range_1 (Cc I1 (by lia) (by lia) q1 q2 (by simpa using q))
def GR(wi:TI)(g:TG)(tb:TS):TS:=fun D σ H=>wi σ H fun J H1=>∃W:Nat->Nat->St->Hp->Prop,(∃m,W 0 m σ H1)/\∀i m σ H,W i m σ H->(J.stop i H/\D.nx σ H)\/(J.go i H/\∃N:St->Hp->Prop,(∀σ' H',N σ' H'->∃m',m'<m/\W (i+1) m' σ' H')/\∀x H',J.yld i H x H'->g x σ H' fun σ2 H2=>tb {D with nx:=N,ct:=N,bk:=D.nx} σ2 H2)
noncomputable def k9(fp:List Addr)(h:Heap):List (Addr × Obj):=fp.filterMap fun b=>(h.get? b).map fun o=>(b,o)
def fO(hb:b∈fp)(e:h.get? b=some o):(b,o)∈k9 fp h:=ff.mpr ⟨b,hb,by rw[e];rfl⟩
def AO(hp:p∈k9 fp h):p.1∈fp/\h.get? p.1=some p.2:=by
 obtain⟨b,hb,e⟩:=ff.mp hp;cases q:h.get? b with
 | none=>rw[q] at e;cases e
 | some o=>
   rw[q] at e;have e':(b,o)=p:=d_ e;subst e';exact⟨hb,q⟩
def Inv.pinned{σ:St}(I:Inv X pins σ H s)(hf:∀b∈fp,kF X pins H b)(ho:∀b∈fp,∃o,s.heap.get? b=some o/\∀v,o.data≠ .cell v):Inv X (pins++k9 fp s.heap) σ H s:=I.pins_of fun p hp=>(aI.mp hp).elim (fun z=>I.pin p (be _ z)) fun z=>by
  obtain⟨hb,e⟩:=AO z;obtain⟨f0,f1,f2,_⟩:=hf p.1 hb;obtain⟨o,e',d⟩:=ho p.1 hb;rw[e] at e';cases e';exact⟨e,f0,f1,f2,d⟩
def Inv.unpinned{σ:St}(I:Inv X (pins++pl) σ H s):Inv X pins σ H s:=I.pins_of fun p hp=>I.pin p (be _ (aS _ hp))
def Hf{X:Cx}{tg iter:Expr}{body:List Stmt}{wi:TI}{g:TG}{tb:TS}{pos:Pos}(hp:PassesOwn (model X.prog X.w) X.A X.env X.xe)(hc:X.calm=true)(hi:PI X tg iter wi)(hg:PG X tg g)(hb:PSs X body tb)(hs:∀x,foldedSetIterable iter X.env x=pure x:=by intro _;rfl):PS X (.For tg iter body [] pos) (GR wi g tb):=by
 intro pins s σ H D I h;refine wpAny_For (cX (hi pins s σ H _ I h) fun v s1 h1=>cX h1 fun itv s2 h2=> ?_) hs;obtain⟨it,fp,tn,J,H2,e,I2,T,st2,f2,W,⟨m0,w0⟩,turn⟩:=h2;subst e;have stat:∀{H':Hp},(∀b∈fp,H' b=none)->∀b∈fp,kF X pins H' b:=fun hn b hb=>⟨hn b hb,(f2 b hb).2⟩;refine codeAny_forLoop_any (fun n s'=>∃i σ' H',Inv X pins σ' H' s'/\tn i s'.heap/\(∀b∈fp,H' b=none)/\W i n σ' H') ?_ m0 ⟨0,σ,H2,I2,st2,fun b hb=>(f2 b hb).1,w0⟩;rintro n s3 ⟨i,σ3,H3,I3,st3,fr3,w3⟩;rcases turn i n σ3 H3 w3 with⟨stop,qn⟩ | ⟨go,N,hN,step⟩
 · refine fg hp (cX (T.done X rfl rfl rfl hc i pins s3 σ3 H3 X.xe I3 (stat fr3) st3 stop) fun r s4 ⟨hr,I4⟩=> ?_);subst hr;exact d7 ⟨σ3,H3,I4,qn⟩
 · refine fg hp (cX (T.item X rfl rfl rfl hc i pins s3 σ3 H3 X.xe I3 (stat fr3) st3 go) fun r s4 ⟨u,hr,h4⟩=> ?_);subst hr;refine fg hp (cX h4 fun _ s5 ⟨x,H5,I5,r5,y5,st5,fr5⟩=> ?_);have I5':=I5.pinned (stat fr5) (T.obj _ _ st5);refine fg hp (cX (hg _ s5 σ3 H5 x u _ I5' r5 (step x H5 y5)) fun _ s6 ⟨σ6,H6,I6,q6⟩=> ?_);refine fg hp (cX (hb _ s6 σ6 H6 _ I6 q6) fun f s7 q7=> ?_);have again:∀{σ7:St} {H7:Hp},Inv X (pins++k9 fp s5.heap) σ7 H7 s7->N σ7 H7->∃m,m<n/\∃i σ' H',Inv X pins σ' H' s7/\tn i s7.heap/\(∀b∈fp,H' b=none)/\W i m σ' H':=fun {σ7 H7} I7 n7=>by
    obtain⟨m',hm,w7⟩:=hN σ7 H7 n7;refine⟨m',hm,i+1,σ7,H7,I7.unpinned,T.keep _ _ _ st5 fun b hb o e=>(I7.pin (b,o) (be _ (be _ (fO hb e)))).1,fun b hb=> ?_,w7⟩;obtain⟨o,e,d⟩:=T.obj _ _ st5 b hb;exact(I7.pin (b,o) (be _ (be _ (fO hb e)))).2.1
   cases f with
   | next=>obtain⟨σ7,H7,I7,n7⟩:=q7;exact again I7 n7
   | cont=>obtain⟨σ7,H7,I7,n7⟩:=q7;exact again I7 n7
   | brk=>obtain⟨σ7,H7,I7,q7⟩:=q7;exact⟨σ7,H7,I7.unpinned,q7⟩
   | ret v=>obtain⟨x7,σ7,H7,I7,r7,q7⟩:=q7;exact⟨x7,σ7,H7,I7.unpinned,r7,q7⟩
end
def cf{K:Frag}{g:TG}{tb:TS}{D:oY}(Pv:Nat->St->Hp->Prop)(h0:Pv 0 σ H)(hl:∀i σ H,i<=xs.length->Pv i σ H->SqL K H a xs)(hs:∀i x σ H,xs[i]? =some x->Pv i σ H->g x σ H fun σ2 H2=>tb {D with nx:=Pv (i+1),ct:=Pv (i+1),bk:=D.nx} σ2 H2)(hd:∀σ H,Pv xs.length σ H->D.nx σ H):∃W:Nat->Nat->St->Hp->Prop,(∃m,W 0 m σ H)/\∀i m σ H,W i m σ H->((IB K a).stop i H/\D.nx σ H)\/((IB K a).go i H/\∃N:St->Hp->Prop,(∀σ' H',N σ' H'->∃m',m'<m/\W (i+1) m' σ' H')/\∀x H',(IB K a).yld i H x H'->g x σ H' fun σ2 H2=>tb {D with nx:=N,ct:=N,bk:=D.nx} σ2 H2):=by
 refine⟨fun i m σ H=>m=xs.length - i/\i<=xs.length/\Pv i σ H,⟨xs.length,by simp,au _,h0⟩,?_⟩;rintro i m σ H ⟨rfl,hi,p⟩;have q:=hl i σ H hi p;by_cases hlt:i<xs.length
 · refine .inr ⟨⟨xs,xs[i],q,by simp[hlt]⟩,Pv (i+1),fun σ' H' p'=>⟨xs.length - (i+1),by lia,rfl,hlt,p'⟩,fun x H' y=> ?_⟩;obtain⟨e,y⟩:=y;subst e;exact hs i x σ _ (y xs q) p
 · have e:i=xs.length:=by lia
   subst e;exact .inl ⟨⟨xs,q,aq _⟩,hd σ H p⟩
def ke{lo:Int}{g:TG}{tb:TS}{D:oY}(Pv:Nat->St->Hp->Prop)(h0:Pv 0 σ H)(hs:∀i σ H,i<n->Pv i σ H->g (.int (lo+i)) σ H fun σ2 H2=>tb {D with nx:=Pv (i+1),ct:=Pv (i+1),bk:=D.nx} σ2 H2)(hd:∀σ H,Pv n σ H->D.nx σ H):∃W:Nat->Nat->St->Hp->Prop,(∃m,W 0 m σ H)/\∀i m σ H,W i m σ H->((IV lo n).stop i H/\D.nx σ H)\/((IV lo n).go i H/\∃N:St->Hp->Prop,(∀σ' H',N σ' H'->∃m',m'<m/\W (i+1) m' σ' H')/\∀x H',(IV lo n).yld i H x H'->g x σ H' fun σ2 H2=>tb {D with nx:=N,ct:=N,bk:=D.nx} σ2 H2):=by
 refine⟨fun i m σ H=>m=n - i/\i<=n/\Pv i σ H,⟨n,by simp,au _,h0⟩,?_⟩;rintro i m σ H ⟨rfl,hi,p⟩;by_cases hlt:i<n
 · refine .inr ⟨hlt,Pv (i+1),fun σ' H' p'=>⟨n - (i+1),by lia,rfl,hlt,p'⟩,fun x H' y=> ?_⟩;obtain⟨e,y⟩:=y;subst e y;exact hs i σ _ hlt p
 · have e:i=n:=by lia
   subst e;exact .inl ⟨aq _,hd σ H p⟩
def vw(Pv:St->Hp->Prop)(μ:St->Hp->Nat)(h0:Pv σ H)(hs:∀σ H,Pv σ H->c σ H fun b H1=>if b=true then tb {D with nx:=fun σ' H'=>Pv σ' H'/\μ σ' H'<μ σ H,ct:=fun σ' H'=>Pv σ' H'/\μ σ' H'<μ σ H,bk:=D.nx} σ H1 else D.nx σ H1)(mono:∀σ H Q Q',(∀b H1,Q b H1->Q' b H1)->c σ H Q->c σ H Q'):tG c tb D σ H:=by
 refine⟨fun m σ H=>m=μ σ H/\Pv σ H,⟨_,rfl,h0⟩,?_⟩;rintro m σ H ⟨rfl,p⟩;refine mono σ H _ _ (fun b H1 q=> ?_) (hs σ H p);cases b with
 | true=>exact⟨_,fun σ' H' ⟨p',l⟩=>⟨_,l,rfl,p'⟩,q⟩
 | false=>exact q
abbrev R2:=V->V->Hp->VK->Prop
def ju(X:Cx)(f:Value->Value->Sem Value)(r:R2):Prop:=∀(pins:List (Addr × Obj)) (s:Shared) (σ:St) (H:Hp) (x y:V) (v u:Value) (Q:VK),Inv X pins σ H s->RelV x v->RelV y u->r x y H Q->wpAny (model X.prog X.w) X.A (f v u) (EP X pins σ Q) X.xe s
def Kj(X:Cx)(f:Value->Sem Value)(r:V->Hp->VK->Prop):Prop:=∀(pins:List (Addr × Obj)) (s:Shared) (σ:St) (H:Hp) (x:V) (v:Value) (Q:VK),Inv X pins σ H s->RelV x v->r x H Q->wpAny (model X.prog X.w) X.A (f v) (EP X pins σ Q) X.xe s
def jZ(X:Cx)(f:Value)(r:List V->Hp->VK->Prop):Prop:=∀(pins:List (Addr × Obj)) (s:Shared) (σ:St) (H:Hp) (xs:List V) (us:List Value) (Q:VK),Inv X pins σ H s->Vals xs us->r xs H Q->wpAny (model X.prog X.w) X.A (call f us) (EP X pins σ Q) X.xe s
def Lq(X:Cx)(r:V->Hp->(Bool->Hp->Prop)->Prop):Prop:=∀(pins:List (Addr × Obj)) (s:Shared) (σ:St) (H:Hp) (x:V) (v:Value) (Q:Bool->Hp->Prop),Inv X pins σ H s->RelV x v->r x H Q->wpAny (model X.prog X.w) X.A (truthy v) (TP X pins σ Q) X.xe s
def BP(r:R2)(ta tb:TE):TE:=fun σ H Q=>ta σ H fun x H1=>tb σ H1 fun y H2=>r x y H2 Q
def Kz(r:V->Hp->VK->Prop)(ta:TE):TE:=fun σ H Q=>ta σ H fun x H1=>r x H1 Q
def rI(C:Int->Int->Prop)(g:Int->Int->V):R2:=fun x y H Q=>onI x fun i=>onI y fun j=>C i j/\Q (g i j) H
def zD(g:Int->Int->V):R2:=fun x y H Q=>onI x fun i=>onI y fun j=>Q (g i j) H
def rU(g:Int->V):V->Hp->VK->Prop:=fun x H Q=>onI x fun i=>Q (g i) H
section
def Iq{X:Cx}{a b:Expr}{ta tb:TE}(ha:PE X a ta)(hb:PE X b tb){pins:List (Addr × Obj)}{s:Shared}{σ:St}{H:Hp}{R:V->V->Hp->Prop}(I:Inv X pins σ H s)(h:ta σ H fun x H1=>tb σ H1 fun y H2=>R x y H2){Q:Value->Shared->Prop}{f:Value->Value->Sem Value}(hf:∀v u s2 x y H2,Inv X pins σ H2 s2->RelV x v->RelV y u->R x y H2->wpAny (model X.prog X.w) X.A (f v u) Q X.xe s2):wpAny (model X.prog X.w) X.A (eval a X.env) (fun v s₁=>wpAny (model X.prog X.w) X.A (eval b X.env) (fun u s₂=>wpAny (model X.prog X.w) X.A (f v u) Q X.xe s₂) X.xe s₁) X.xe s:=by
 refine cX (ha pins s σ H _ I h) fun v s1 ⟨x,H1,I1,r1,q1⟩=> ?_;refine cX (hb pins s1 σ H1 _ I1 q1) fun u s2 ⟨y,H2,I2,r2,q2⟩=> ?_;exact hf v u s2 x y H2 I2 r1 r2 q2
def bq(ho:ju X (binaryOp op) r)(ha:PE X a ta)(hb:PE X b tb):PE X (.BinOp a op b pos) (BP r ta tb):=by
 intro pins s σ H Q I h;exact wpAny_BinOp (Iq ha hb I h fun v u s2 x y H2 I2 rx ry q=>ho pins s2 σ H2 x y v u Q I2 rx ry q)
def oA(ho:Kj X (unaryOp op) r)(ha:PE X a ta):PE X (.UnaryOp op a pos) (Kz r ta):=by
 intro pins s σ H Q I h;exact UnaryOp_ (cX (ha pins s σ H _ I h) fun v s1 ⟨x,H1,I1,r1,q1⟩=>ho pins s1 σ H1 x v Q I1 r1 q1)
def Jx{g:Int->Int->Int}(rule:∀i j t u s Q E,C i j->Q (.int (g i j) s.toks) {s with toks:=s.toks+1}->wpAny (model X.prog X.w) X.A (f (.int i t) (.int j u)) Q E s):ju X f (rI C fun i j=> .int (g i j)):=by
 intro pins s σ H x y v u Q I rx ry h;obtain⟨i,rfl,h'⟩:=onI.ex h;obtain⟨j,rfl,hc,q⟩:=onI.ex h';obtain⟨t,rfl⟩:=rx;obtain⟨t',rfl⟩:=ry;exact rule i j t t' s _ _ hc ⟨.int (g i j),H,I.tok _,⟨_,rfl⟩,q⟩
def EY{g:Int->Int->Int}(rule:∀i j t u s Q E,Q (.int (g i j) s.toks) {s with toks:=s.toks+1}->wpAny (model X.prog X.w) X.A (f (.int i t) (.int j u)) Q E s):ju X f (zD fun i j=> .int (g i j)):=by
 intro pins s σ H x y v u Q I rx ry h;obtain⟨i,rfl,h'⟩:=onI.ex h;obtain⟨j,rfl,q⟩:=onI.ex h';obtain⟨t,rfl⟩:=rx;obtain⟨t',rfl⟩:=ry;exact rule i j t t' s _ _ ⟨.int (g i j),H,I.tok _,⟨_,rfl⟩,q⟩
def Hs{g:Int->Int->Bool}(rule:∀i j t u s Q E,Q (.bool (g i j)) s->wpAny (model X.prog X.w) X.A (f (.int i t) (.int j u)) Q E s):ju X f (zD fun i j=> .bl (g i j)):=by
 intro pins s σ H x y v u Q I rx ry h;obtain⟨i,rfl,h'⟩:=onI.ex h;obtain⟨j,rfl,q⟩:=onI.ex h';obtain⟨t,rfl⟩:=rx;obtain⟨t',rfl⟩:=ry;exact rule i j t t' s _ _ ⟨.bl (g i j),H,I,rfl,q⟩
def LC(i j:Int):Prop:=0<j/\j<1073741824
def IF(i j:Int):Prop:=0<=j/\j<=1000000/\i.natAbs<2^64
def CMul(i j:Int):Prop:=(-(2^64)<i/\i<2^64)\/(-(2^64)<j/\j<2^64)
def CMul.ok(h:CMul i j):IntMulOk i j:=by
 rcases h with⟨h1,h2⟩ | ⟨h1,h2⟩
 · exact .of_left (intBits_le_64 h1 h2)
 · exact .of_right (intBits_le_64 h1 h2)
def gU:ju X (binaryOp .Add) (zD fun i j=> .int (i+j)):=EY fun _ _ _ _ _ _ _ q=>add_int q
def yh:ju X (binaryOp .Sub) (zD fun i j=> .int (i - j)):=EY fun _ _ _ _ _ _ _ q=>sub_int q
def yi:ju X (binaryOp .Mult) (rI CMul fun i j=> .int (i * j)):=Jx fun _ _ _ _ _ _ _ hc q=>mul_int q hc.ok
def d5:ju X (binaryOp .FloorDiv) (rI LC fun i j=> .int (i/j)):=Jx fun i j _ _ _ _ _ hc q=>by
 have h1:(0:Int)<j:=hc.1;have h2:j<1073741824:=hc.2;exact floordiv_int (by lia) (by rw[Int.fdiv_eq_ediv_of_nonneg i (by lia)];exact q) (.inl (PyProof.noPylong_small (by lia)))
def cN:ju X (binaryOp .Mod) (rI (fun _ j=>0<j) fun i j=> .int (i % j)):=Jx fun i j _ _ _ _ _ hc q=>by
 have h1:(0:Int)<j:=hc;exact mod_int' (by lia) (by rw[Int.fmod_eq_emod_of_nonneg i (by lia)];exact q)
def uq:ju X (binaryOp .Pow) (rI IF fun i j=> .int (i^j.toNat)):=Jx fun _ _ _ _ _ _ _ hc q=>pow_int_small hc.1 hc.2.1 hc.2.2 q
def nD:ju X (binaryOp .LShift) (rI IF fun i j=> .int (i * 2^j.toNat)):=Jx fun _ _ _ _ _ _ _ hc q=>lshift_int_small hc.1 hc.2.1 hc.2.2 q
def k_:ju X (binaryOp .BitAnd) (zD fun i j=> .int (Builtin.bitAnd i j)):=EY fun _ _ _ _ _ _ _ q=>and_int q
def sS:ju X (binaryOp .BitOr) (zD fun i j=> .int (Builtin.bitOr i j)):=EY fun _ _ _ _ _ _ _ q=>or_int q
def LH{g:Int->Int}(rule:∀i t s Q E,Q (.int (g i) s.toks) {s with toks:=s.toks+1}->wpAny (model X.prog X.w) X.A (f (.int i t)) Q E s):Kj X f (rU fun i=> .int (g i)):=by
 intro pins s σ H x v Q I rx h;obtain⟨i,rfl,q⟩:=onI.ex h;obtain⟨t,rfl⟩:=rx;exact rule i t s _ _ ⟨.int (g i),H,I.tok _,⟨_,rfl⟩,q⟩
def xB:Kj X (unaryOp .USub) (rU fun i=> .int (-i)):=LH fun _ _ _ _ _ q=>neg_int q
def pO:Kj X (unaryOp .Invert) (rU fun i=> .int (Builtin.bitNot i)):=LH fun _ _ _ _ _ q=>invert_int q
end
noncomputable def Ex:V->V->Bool
 | .non,.non=>true | .non,.int _=>true | .int _,.non=>true | .non,.bl _=>true | .bl _,.non=>true | .non,.str _=>true | .str _,.non=>true
 | .int _,.int _=>true | .bl _,.bl _=>true | .str _,.str _=>true | .byt _,.byt _=>true
 | .int _,.str _=>true | .str _,.int _=>true | .bl _,.str _=>true | .str _,.bl _=>true
 | _,_=>false
def Mp:R2:=fun x y H Q=>onT (Ex x y) (Q (.bl (decide (x=y))) H)
def LL:R2:=fun x y H Q=>onT (Ex x y) (Q (.bl (!decide (x=y))) H)
def Ah:decide (V.int i=V.int j)=(i==j):=by
 rw[gB];simp
def DK:decide (V.bl i=V.bl j)=(i==j):=by
 rw[gB];simp
def Ag:decide (V.str i=V.str j)=(i==j):=by
 rw[gB];simp
def Ai:decide (V.byt i=V.byt j)=(i.toList==j.toList):=by
 rw[gB];cases i;cases j;simp
section
def cw{σ:St}(I:Inv X pins σ H s)(q:Q (.bl k) H)(e:k=k'):EP X pins σ Q (.bool k') s:=by
 subst e;exact⟨.bl k,H,I,rfl,q⟩
def dv:ju X (compareOp .Eq) Mp:=by
 intro pins s σ H x y v u Q I rx ry h;obtain⟨hs,q⟩:=onT.ex h;cases x with
 | non=>
   cases rx;cases y with
   | non=>cases ry;exact PySem.EqNone.eq_none_none (cw I q (by simp))
   | bl j=>cases ry;exact PySem.EqNone.eq_none_bool (cw I q (by simp))
   | int j=>obtain⟨t',rfl⟩:=ry;exact PySem.EqNone.eq_none_int (cw I q (by simp))
   | str j=>obtain⟨t',rfl⟩:=ry;exact PySem.EqNone.eq_none_str (cw I q (by simp))
   | _=>exact absurd (show false=true from hs) aP
 | bl i=>
   cases rx;cases y with
   | non=>cases ry;exact PySem.EqNone.eq_bool_none (cw I q (by simp))
   | bl j=>cases ry;exact eq_bool (cw I q DK)
   | str j=>obtain⟨t',rfl⟩:=ry;exact PySem.EqMixed.eq_bool_str (cw I q (by simp))
   | _=>exact absurd (show false=true from hs) aP
 | int i=>
   obtain⟨t,rfl⟩:=rx;cases y with
   | non=>cases ry;exact PySem.EqNone.eq_int_none (cw I q (by simp))
   | int j=>obtain⟨t',rfl⟩:=ry;exact eq_int (cw I q Ah)
   | str j=>obtain⟨t',rfl⟩:=ry;exact PySem.EqMixed.eq_int_str (cw I q (by simp))
   | _=>exact absurd (show false=true from hs) aP
 | str i=>
   obtain⟨t,rfl⟩:=rx;cases y with
   | non=>cases ry;exact PySem.EqNone.eq_str_none (cw I q (by simp))
   | bl j=>cases ry;exact PySem.EqMixed.eq_str_bool (cw I q (by simp))
   | int j=>obtain⟨t',rfl⟩:=ry;exact PySem.EqMixed.eq_str_int (cw I q (by simp))
   | str j=>obtain⟨t',rfl⟩:=ry;exact eq_str (cw I q Ag)
   | _=>exact absurd (show false=true from hs) aP
 | byt i=>
   obtain⟨t,rfl⟩:=rx;cases y with
   | byt j=>obtain⟨t',rfl⟩:=ry;exact PySem.W.eq_bytes (cw I q Ai)
   | _=>exact absurd (show false=true from hs) aP
 | _=>cases y<;>exact absurd (show false=true from hs) aP
def Gf:ju X (compareOp .NotEq) LL:=by
 intro pins s σ H x y v u Q I rx ry h;obtain⟨hs,q⟩:=onT.ex h;cases x with
 | non=>
   cases rx;cases y with
   | non=>cases ry;exact PySem.EqNone.ne_none_none (cw I q (by simp))
   | bl j=>cases ry;exact PySem.EqNone.ne_none_bool (cw I q (by simp))
   | int j=>obtain⟨t',rfl⟩:=ry;exact PySem.EqNone.ne_none_int (cw I q (by simp))
   | str j=>obtain⟨t',rfl⟩:=ry;exact PySem.EqNone.ne_none_str (cw I q (by simp))
   | _=>exact absurd (show false=true from hs) aP
 | bl i=>
   cases rx;cases y with
   | non=>cases ry;exact PySem.EqNone.ne_bool_none (cw I q (by simp))
   | bl j=>cases ry;exact ne_bool (cw I q (congrArg not DK))
   | str j=>obtain⟨t',rfl⟩:=ry;exact PySem.EqMixed.ne_bool_str (cw I q (by simp))
   | _=>exact absurd (show false=true from hs) aP
 | int i=>
   obtain⟨t,rfl⟩:=rx;cases y with
   | non=>cases ry;exact PySem.EqNone.ne_int_none (cw I q (by simp))
   | int j=>obtain⟨t',rfl⟩:=ry;exact ne_int (cw I q (congrArg not Ah))
   | str j=>obtain⟨t',rfl⟩:=ry;exact PySem.EqMixed.ne_int_str (cw I q (by simp))
   | _=>exact absurd (show false=true from hs) aP
 | str i=>
   obtain⟨t,rfl⟩:=rx;cases y with
   | non=>cases ry;exact PySem.EqNone.ne_str_none (cw I q (by simp))
   | bl j=>cases ry;exact PySem.EqMixed.ne_str_bool (cw I q (by simp))
   | int j=>obtain⟨t',rfl⟩:=ry;exact PySem.EqMixed.ne_str_int (cw I q (by simp))
   | str j=>obtain⟨t',rfl⟩:=ry;exact ne_str (cw I q (congrArg not Ag))
   | _=>exact absurd (show false=true from hs) aP
 | byt i=>
   obtain⟨t,rfl⟩:=rx;cases y with
   | byt j=>obtain⟨t',rfl⟩:=ry;exact PySem.W.ne_bytes (cw I q (congrArg not Ai))
   | _=>exact absurd (show false=true from hs) aP
 | _=>cases y<;>exact absurd (show false=true from hs) aP
def mB:ju X (compareOp .Lt) (zD fun i j=> .bl (decide (i<j))):=Hs fun _ _ _ _ _ _ _ q=>lt_int q
def Gg:ju X (compareOp .LtE) (zD fun i j=> .bl (decide (i<=j))):=Hs fun _ _ _ _ _ _ _ q=>le_int q
def Gh:ju X (compareOp .Gt) (zD fun i j=> .bl (decide (j<i))):=Hs fun _ _ _ _ _ _ _ q=>gt_int q
def CB:ju X (compareOp .Is) (fun x y H Q=>y= .non/\Q (.bl (decide (x= .non))) H):=by
 intro pins s σ H x y v u Q I rx ry h;obtain⟨rfl,q⟩:=h;cases ry;refine is_none_gen (cw I q ?_);cases x<;>first
  | (cases rx;rfl)
  | (obtain⟨t,rfl⟩:=rx;rfl)
def ur:ju X (compareOp .IsNot) (fun x y H Q=>y= .non/\Q (.bl (!decide (x= .non))) H):=by
 intro pins s σ H x y v u Q I rx ry h;obtain⟨rfl,q⟩:=h;cases ry;refine isnot_none_gen (cw I q ?_);cases x<;>first
  | (cases rx;rfl)
  | (obtain⟨t,rfl⟩:=rx;rfl)
def uB(b:Expr){op:CmpOp}(h:op≠ .In:=by decide)(h2:op≠ .NotIn:=by decide):behindInMarks op b=false:=by
 have e1:(op==CmpOp.In)=false:=by cases op<;>first | rfl | exact absurd rfl h
 have e2:(op==CmpOp.NotIn)=false:=by cases op<;>first | rfl | exact absurd rfl h2
 cases b<;>simp[behindInMarks,e1,e2]
def EV(ho:ju X (compareOp op) r)(ha:PE X a ta)(hb:PE X b tb)(hm:behindInMarks op b=false):PE X (.Compare a [op] [b] pos) (BP r ta tb):=by
 intro pins s σ H Q I h;exact wpAny_Compare1 (Iq ha hb I h fun v u s2 x y H2 I2 rx ry q=>ho pins s2 σ H2 x y v u Q I2 rx ry q) hm
def FZ(t:TE):TT:=fun σ H Q=>t σ H fun x H1=>onB x fun c=>Q c H1
def uf(ho:ju X (compareOp op) r)(ha:PE X a ta)(hb:PE X b tb)(hm:behindInMarks op b=false):PT X (.Compare a [op] [b] pos) (FZ (BP r ta tb)):=by
 intro pins s σ H Q I h;refine wpAny_isTrue_Compare1 (cX (ha pins s σ H _ I h) fun v s1 ⟨x,H1,I1,r1,q1⟩=>cX (hb pins s1 σ H1 _ I1 q1) fun u s2 ⟨y,H2,I2,r2,q2⟩=>
  cX (ho pins s2 σ H2 x y v u _ I2 r1 r2 q2) fun c s3 ⟨z,H3,I3,r3,q0⟩=> ?_) hm
 obtain⟨k,e,q3⟩:=onB.ex q0;subst e;cases r3;exact cY ⟨H3,I3,q3⟩
def GT(r r':R2)(ta tb tc:TE):TE:=fun σ H Q=>ta σ H fun x H1=>tb σ H1 fun y H2=>r x y H2 fun z H3=>∃k,z= .bl k/\(if k=true then tc σ H3 fun w' H4=>r' y w' H4 Q else Q (.bl false) H3)
def qA{X:Cx}{a b c:Expr}{ta tb tc:TE}{pos:Pos}{op op':CmpOp}{r r':R2}(ho:ju X (compareOp op) r)(ho':ju X (compareOp op') r')(ha:PE X a ta)(hb:PE X b tb)(hc:PE X c tc)(hm:lastMarks [op,op'] [b,c]=false:=by with_unfolding_all rfl):PE X (.Compare a [op,op'] [b,c] pos) (GT r r' ta tb tc):=by
 intro pins s σ H Q I h;refine Compare_chain (cX (ha pins s σ H _ I h) fun v s1 ⟨x,H1,I1,r1,q1⟩=>chain_link (cX (hb pins s1 σ H1 _ I1 q1) fun u s2 ⟨y,H2,I2,r2,q2⟩=>
  cX (ho pins s2 σ H2 x y v u _ I2 r1 r2 q2) fun d s3 ⟨z,H3,I3,r3,k,e,q3⟩=> ?_)) hm
 subst e;cases r3;refine cY ?_;cases k with
 | false=>exact ite_ff ⟨.bl false,H3,I3,rfl,q3⟩
 | true=>exact ite_tt (chain_last (cX (hc pins s3 σ H3 _ I3 q3) fun w' s4 ⟨z',H4,I4,r4,q4⟩=>ho' pins s4 σ H4 y z' u w' Q I4 r2 r4 q4))
def JU(K:Frag)(x:V)(H:Hp)(k:Bool):Prop:=match x with
 | .non=>k=false
 | .bl b=>k=b
 | .int i=>k=(i !=0)
 | .str y=>y.length<=sizeLine/\k=((y.length:Int) !=0)
 | .byt y=>y.size<=sizeLine/\k=((y.size:Int) !=0)
 | .ref p=>(∃xs,SqL K H p xs/\k= !xs.isEmpty)\/(∃xs,SqT K H p xs/\k= !xs.isEmpty)\/∃kvs,H p=some (.dK kvs)/\k= !kvs.isEmpty
 | _=>False
def yE{kvs:List (κ × V)}(r:KV kvs vs):(!vs.isEmpty)= !kvs.isEmpty:=by
 cases r<;>rfl
def qM(r:Vals xs its):(!its.toArray.isEmpty)= !xs.isEmpty:=by
 cases r<;>simp
def nH:(sizeLine:Nat)<2^63:=by rw[KO];decide
def GM:Lq X (fun x H Q=>∃k,JU X.K x H k/\Q k H):=by
 intro pins s σ H x v Q I rx h;obtain⟨k,e,q⟩:=h;have hl:=nH;have hs:sizeLine=16777216:=KO;cases x with
 | non=>
   cases rx;have e':k=false:=e;subst e';exact truthy_none ⟨H,I,q⟩
 | bl b=>
   cases rx;have e':k=b:=e;subst e';exact cY ⟨H,I,q⟩
 | int i=>
   obtain⟨t,rfl⟩:=rx;have e':k=(i !=0):=e;subst e';exact PySem.P.truthy_int ⟨H,I,q⟩
 | str y=>
   obtain⟨t,rfl⟩:=rx;obtain⟨hy,e'⟩:y.length<=sizeLine/\k=((y.length:Int) !=0):=e;subst e';exact PySem.P.truthy_str (by lia) ⟨H,I.tok _,q⟩
 | byt y=>
   obtain⟨t,rfl⟩:=rx;obtain⟨hy,e'⟩:y.size<=sizeLine/\k=((y.size:Int) !=0):=e;subst e';exact PySem.W.truthy_bytes (by lia) ⟨H,I.tok _,q⟩
 | ref p=>
   cases rx;have e':(∃xs,SqL X.K H p xs/\k= !xs.isEmpty)\/(∃xs,SqT X.K H p xs/\k= !xs.isEmpty)\/∃kvs,H p=some (.dK kvs)/\k= !kvs.isEmpty:=e;rcases e' with⟨xs,hx,e'⟩ | ⟨xs,hx,e'⟩ | ⟨kvs,hx,e'⟩
   · subst e';obtain⟨its,r,pl,hz⟩:=I.list hx;have hlen:=r.length;exact wpAny_truthy_list pl.isList (by simp only[aQ];lia) ⟨H,I.tok _,by rw[qM r];exact q⟩
   · subst e';obtain⟨its,r,pl,hz⟩:=I.tuple hx;have hlen:=r.length;exact truthy_tuple pl (by simp only[aQ];lia) ⟨H,I.tok _,by rw[qM r];exact q⟩
   · subst e';obtain⟨hz,hS,vs,r,m⟩:kvs.length<=sizeLine/\(p==sysModules)=false/\∃vs,KV kvs vs/\s.heap.DictOf (cE X.prog X.w) p vs:=I.hok p _ hx;have hlen:kvs.length=vs.length:=aR r;exact wpAny_truthy_dict hS m (by lia) ⟨H,I.tok _,by rw[yE r];exact q⟩
 | _=>exact(show False from e).elim
def Cj(ha:PE X a ta)(he:∀whole,isTrue a X.env whole=(do let v<-whole;standAt a.pos;holding [v] (truthy v))):
 PT X a (fun σ H Q=>ta σ H fun x H'=>∃k,JU X.K x H' k/\Q k H'):=by
 intro pins s σ H Q I h;exact isTrue_plain (cX (ha pins s σ H _ I h) fun v s1 ⟨x,H1,I1,r1,q1⟩=>GM pins s1 σ H1 x v Q I1 r1 q1) (he _)
def gT:ju X (binaryOp .Add) (fun x y H Q=>∃i j,x= .str i/\y= .str j/\i.length+j.length<=sizeLine/\Q (.str (i++j)) H):=by
 intro pins s σ H x y v u Q I rx ry h;obtain⟨i,j,rfl,rfl,hz,q⟩:=h;obtain⟨t,rfl⟩:=rx;obtain⟨t',rfl⟩:=ry;exact add_str (fun t' tk=>⟨.str (i++j),H,I.tok _,⟨_,rfl⟩,q⟩) hz
def vA(r:Vals [x] us):∃u,us=[u]/\RelV x u:=by
 cases r with
 | cons r1 r2=>cases r2;exact⟨_,rfl,r1⟩
def IZ(r:Vals [x,y] us):∃u w',us=[u,w']/\RelV x u/\RelV y w':=by
 cases r with
 | cons r1 r2=>
   cases r2 with
   | cons r3 r4=>cases r4;exact⟨_,_,rfl,r1,r3⟩
def Bs(hc:X.calm=true):jZ X (.builtin "min") (fun xs H Q=>∃i j,xs=[.int i,.int j]/\Q (.int (if j<i then j else i)) H):=by
 intro pins s σ H xs us Q I r h;obtain⟨i,j,rfl,q⟩:=h;obtain⟨u,w',rfl,⟨t,rfl⟩,⟨t',rfl⟩⟩:=IZ r;refine min_two_ints (I.ok.hd hc) fun h' tk k=>⟨_,H,I.kept k,?_,q⟩;by_cases hj:j<i
 · rw[aK hj,aK hj];exact⟨_,rfl⟩
 · rw[aG hj,aG hj];exact⟨_,rfl⟩
def Bu:jZ X (.type "int") (fun xs H Q=>(∃i,xs=[.int i]/\Q (.int i) H)\/∃k,xs=[.bl k]/\Q (.int (if k then 1 else 0)) H):=by
 intro pins s σ H xs us Q I r h;rcases h with⟨i,rfl,q⟩ | ⟨k,rfl,q⟩
 · obtain⟨u,rfl,t,rfl⟩:=vA r;exact call_int_int ⟨.int i,H,I,⟨_,rfl⟩,q⟩
 · obtain⟨u,rfl,r1⟩:=vA r;cases r1;exact call_int_bool ⟨.int (if k then 1 else 0),H,I.tok _,⟨_,rfl⟩,q⟩
end
structure ObjM(h:Heap)(x dx C:Addr)(mA:Str->Option Value):Prop where
 obj:h.get? x=some (instObj C dx)
 ns:h.Ns1 dx mA
 ne:dx≠x
def AW{h:Heap}(n:h.Ns1 dx mA):∃od,h.get? dx=some od/\∀name,lookIn name od=some (mA name):=by
 obtain⟨o,es,ep,ho,hd,hk,_,hm⟩:=n;refine⟨o,ho,fun name=> ?_⟩;have e:=hm name;unfold nsFind findBy at e;rw[<-Array.find?_toList] at e;unfold lookIn;rw[hd];dsimp only
 split
 · rename_i y q;rw[q] at e;exact congrArg some e
 · rename_i q;rw[q] at e;have a:es.toList.any (·.refKey)=false:=by
    rw[List.any_eq_false];intro y hy;obtain⟨z,t,hkey⟩:=hk y (Array.mem_toList_iff.mp hy);simp[DictEntry.refKey,hkey]
   have a':¬ es.toList.any (·.refKey)=true:=by rw[a];exact aP
   rw[aG a'];exact congrArg some e
def ObjM.look(I:ObjM h x dx C mA):∃od,PySem.W.InstAt h x (instObj C dx) C (some od)/\∀name,lookIn name od=some (mA name):=
 let⟨od,ho,hl⟩:=AW I.ns
 ⟨od,⟨I.obj,rfl,rfl,ho⟩,hl⟩
section
def Fv{K:Frag}(X:K.In s.heap)(I:ObjM s.heap x dx C mA)(hg:plainGet K C name=true)(hh:hasDictIn K C=true)(ha:findIn K (.ref C) name=some none)(hv:mA name=some v)(hv':PySem.W.handedIn v=true)(h:Q v {s with toks:=s.toks+1}):wpAny (model prog w) A (getAttr (.ref x) name expr) Q E s:=by
 obtain⟨od,J,hl⟩:=I.look;exact PySem.W.get_value X J (vd hg).1 (PySem.W.findObj_own hh ha rfl (by rw[hl,hv])) hv' h
def Dz{K:Frag}(X:K.In s.heap)(I:ObjM s.heap x dx C mA)(hg:plainGet K C name=true)(hf:findIn K (.ref C) name=some (some (.ref f)))(ht:isFn K (.ref f)=true)(hv:mA name=none)(h:Q (.ref f,[.ref x]) s):wpAny (model prog w) A (getMethod (.ref x) name pl) Q E s:=by
 obtain⟨od,J,hl⟩:=I.look;exact PySem.W.method_fn X J (vd hg).1 (vd hg).2 hf (iL.mp ht) (by show(lookIn name od).map (·.isSome)=some false;rw[hl,hv];rfl) h
def Eu{K:Frag}(X:K.In s.heap)(I:ObjM s.heap x dx C mA)(hs:findIn K (.ref C) "__setattr__"=some (some (.builtin "object.__setattr__")))(hp:PySem.W.plainOver K C=true)(ht:PySem.W.takerIn K C name=some none)(hh:hasDictIn K C=true)(hw:PySem.Within mA ns)(hsz:ns.length<=sizeLine)(h:∀h',ObjM h' x dx C (fun y=>if y=name then some v else mA y)->Heap.SameBut dx s.heap h'->Q () {s with heap:=h',toks:=s.toks+2}):wpAny (model prog w) A (setAttr (.ref x) name v) Q E s:=by
 obtain⟨od,J,hl⟩:=I.look;refine PySem.W.set_plain X J hs (PySem.W.osa_open (s:={s with toks:=s.toks+1}) (r:=none) X J hp ht fun b=> ?_);obtain⟨cd,hc,hd'⟩:=PySem.W.any_some hh;have hx:s.heap.get? x=some ⟨.ref C,some dx,.plain,#[]⟩:=I.obj;refine aa (aA (aa (aa (wpAny_loadPart hx (aa (PySem.W.Looks.here (s:={s with toks:=s.toks+1}) (PySem.W.looks_clsIn X hc) ?_))))));rw[hd'];refine aA (a:=some dx) (aa (aA (aa ?_)));refine wpAny_nsSet1 (s:={s with toks:=s.toks+1}) I.ns fun h' hn2 hs2=> ?_;obtain⟨oD,esD,epD,hoD,hdD,hcD⟩:=hn2.count (PySem.Within.cons name v hw);refine aa (wpAny_lookBehind hoD (by rw[hdD];exact pastItsLine_dict (ao hcD (by rw[bj];lia))) ?_);exact aA (h _ ⟨(hs2.2 _ (bB I.ne)).trans I.obj,hn2,I.ne⟩ hs2)
def C9{s:Shared}{K:Frag}(X:K.In s.heap)(hm:makesIn K C=true)(hi:findIn K (.ref C) "__init__"=some (some (.ref f)))(hf:typeIn K (.ref f)=some (.type "function"))(h:codeAny (model prog w) (A.under (.builtin "type.__call__" ⟨.ref C::vs,kw⟩)) (.call (.ref f) ⟨.ref (s.heap.objs.size+1)::vs,kw⟩) (PySem.W.InitBack (s.heap.objs.size+1) R) {s with heap:=(s.heap.push emptyDict).push (instObj C s.heap.objs.size)}):codeAny (model prog w) A (.call (.ref C) ⟨vs,kw⟩) R s:=by
 obtain⟨hh,g,d,t,os⟩:=s;exact PySem.W.make_core (PySem.W.makes_of X hm) (PySem.W.looks_findIn X hi) (fun self=>PySem.W.bind_fn X self hf) (.inl rfl) h
end
noncomputable def ij(f:Str)(v:V):List (Str × V)->List (Str × V)
 | []=>[(f,v)]
 | (g,x)::r=>if g=f then(g,v)::r else(g,x)::ij f v r
theorem oE(f g:Str)(v:V):∀fs:List (Str × V),(ij f v fs).lookup g=if g=f then some v else fs.lookup g
 | []=>by
   show List.lookup g [(f,v)]=_;by_cases h:g=f
   · have hb:(g==f)=true:=iL.mpr h;simp only[List.lookup,hb,aK h]
   · have hb:(g==f)=false:=bU.mpr h;simp only[List.lookup,hb,aG h]
 | (k,x)::r=>by
   have ih:=oE f g v r;rw[show ij f v ((k,x)::r)=(if k=f then(k,v)::r else(k,x)::ij f v r) from rfl];by_cases hk:k=f
   · rw[aK hk];by_cases h:g=k
     · have hb:(g==k)=true:=iL.mpr h;simp only[List.lookup,hb,aK (h.trans hk)]
     · have hb:(g==k)=false:=bU.mpr h;simp only[List.lookup,hb,aG (fun e:g=f=>h (e.trans hk.symm))]
   · rw[aG hk];by_cases h:g=k
     · have hb:(g==k)=true:=iL.mpr h;simp only[List.lookup,hb,aG (fun e:g=f=>hk (h.symm.trans e))]
     · have hb:(g==k)=false:=bU.mpr h;simp only[List.lookup,hb];exact ih
theorem nJ(f:Str)(v:V):∀fs:List (Str × V),f∈(ij f v fs).map (·.1)/\∀g,g∈fs.map (·.1)->g∈(ij f v fs).map (·.1)
 | []=>⟨by simp[ij],fun g h=>by simp at h⟩
 | (k,x)::r=>by
   obtain⟨i1,i2⟩:=nJ f v r;rw[show ij f v ((k,x)::r)=(if k=f then(k,v)::r else(k,x)::ij f v r) from rfl];by_cases hk:k=f
   · rw[aK hk];subst hk;exact⟨by simp,fun g h=>by simpa using h⟩
   · rw[aG hk];refine⟨?_,fun g h=> ?_⟩
     · rw[bG];exact aH _ i1
     · rw[bG] at h⊢;rcases aL.mp h with e | e
       · exact aL.mpr (.inl e)
       · exact aH _ (i2 g e)
theorem oG(f:Str)(v:V):∀fs:List (Str × V),(ij f v fs).length<=fs.length+1
 | []=>by simp[ij]
 | (k,x)::r=>by
   have ih:=oG f v r;rw[show ij f v ((k,x)::r)=(if k=f then(k,v)::r else(k,x)::ij f v r) from rfl];by_cases hk:k=f
   · rw[aK hk,bj,bj];lia
   · rw[aG hk,bj,bj];lia
def RelO.some_of(r:RelO (some v) o):∃u,o=some u/\RelV v u:=by
 cases o with
 | none=>exact(show False from r).elim
 | some u=>exact⟨u,rfl,r⟩
def RelO.none_of(r:RelO none o):o=none:=by
 cases o with
 | none=>rfl
 | some u=>exact(show False from r).elim
def Be(r:RelV v u):PySem.W.handedIn u=true:=by
 cases v with
 | non=>cases(show u=Value.none from r);rfl
 | bl b=>cases(show u=Value.bool b from r);rfl
 | int i=>obtain⟨t,e⟩:=(show ∃t,u=Value.int i t from r);cases e;rfl
 | str x=>obtain⟨t,e⟩:=(show ∃t,u=Value.str x t from r);cases e;rfl
 | byt b=>obtain⟨t,e⟩:=(show ∃t,u=Value.bytes b t from r);cases e;rfl
 | flt b=>obtain⟨t,e⟩:=(show ∃t,u=Value.float b t from r);cases e;rfl
 | ref a=>cases(show u=Value.ref a from r);rfl
 | ty n=>cases(show u=Value.type n from r);rfl
section
def pJ(hok:HOk P w H h)(e:H a=some (.ins C dx fs)):∃mA,ObjM h a dx C mA/\(∀f,RelO (fs.lookup f) (mA f))/\PySem.Within mA (fs.map (·.1))/\fs.length<=1000/\H dx=some (.own a):=by
 obtain⟨d,z,ne,ob,mA,n,r,q⟩:=(show ObjOk P w H h a (.ins C dx fs) from hok a _ e);exact⟨mA,⟨ob,n,ne⟩,r,q,z,d⟩
end
structure Cls(K:Frag)(C:Addr):Prop where
 pg:plainGet K C Str.empty=true
 hd:hasDictIn K C=true
 po:PySem.W.plainOver K C=true
 sa:findIn K (.ref C) "__setattr__"=some (some (.builtin "object.__setattr__"))
def Cls.get{K:Frag}(c:Cls K C)(f:Str):plainGet K C f=true:=c.pg
def NoAttr(K:Frag)(C:Addr)(f:Str):Prop:=findIn K (.ref C) f=some none
def NoAttr.taker{K:Frag}(n:NoAttr K C f):PySem.W.takerIn K C f=some none:=by
 unfold PySem.W.takerIn;rw[show findIn K (.ref C) f=some none from n]
 rfl
structure D3(K:Frag)(C:Addr)(m:Str)(f:Addr):Prop where
 at_:findIn K (.ref C) m=some (some (.ref f))
 fn:isFn K (.ref f)=true
 kp:keepIn K (.ref f)=true
section
def yI{σ:St}(I:Inv X pins σ H s)(e:H a=some (.ins C dx fs))(c:Cls X.K C)(n:NoAttr X.K C f)(l:fs.lookup f=some v)(h:∀u s',Inv X pins σ H s'->RelV v u->Q u s'):wpAny (model X.prog X.w) A (getAttr (.ref a) f b) Q E s:=by
 obtain⟨mA,O,r,_,_,_⟩:=pJ I.hok e;obtain⟨u,hu,ru⟩:=RelO.some_of (v:=v) (o:=mA f) (by rw[<-l];exact r f);exact Fv I.kIn O (c.get f) c.hd n hu (Be ru) (h u _ (I.tok _) ru)
def qN{σ:St}(I:Inv X pins σ H s)(e:H a=some (.ins C dx fs))(c:Cls X.K C)(k:D3 X.K C m g)(l:fs.lookup m=none)(h:Q (.ref g,[.ref a]) s):wpAny (model X.prog X.w) A (getMethod (.ref a) m pl) Q E s:=by
 obtain⟨mA,O,r,_,_,_⟩:=pJ I.hok e;have hn:mA m=none:=RelO.none_of (by rw[<-l];exact r m);exact Dz I.kIn O (c.get m) k.at_ k.fn hn h
def xM{σ:St}(I:Inv X pins σ H s)(e:H a=some (.ins C dx fs))(c:Cls X.K C)(n:NoAttr X.K C f)(hl:fs.length<1000)(ry:RelV y u)(h:∀s',Inv X pins σ (upd H a (.ins C dx (ij f y fs))) s'->Q () s'):wpAny (model X.prog X.w) A (setAttr (.ref a) f u) Q E s:=by
 obtain⟨mA,O,r,wi,_,ho⟩:=pJ I.hok e;have hz:(fs.map (·.1)).length<=sizeLine:=by rw[aw,KO];lia
 refine Eu I.kIn O c.sa c.po n.taker c.hd wi hz fun h' O' sb=>h _ ?_;have hd:∃o,h'.get? dx=some o:=let⟨o,_,_,e',_⟩:=O'.ns;⟨o,e'⟩
 refine I.write (x:=a) (e:=dx) (by rw[e];exact True.intro) (.inr ho) (fun b q hb z=>(sb.2 b hb).trans z) hd ?_;refine⟨by rw[aM O.ne];exact ho,?_,O.ne,O'.obj,_,O'.ns,fun g=> ?_,fun g hg=> ?_⟩
 · have:=oG f y fs;lia
 · show RelO ((ij f y fs).lookup g) (if g=f then some u else mA g);rw[oE];by_cases q:g=f
   · rw[aK q,aK q];exact ry
   · rw[aG q,aG q];exact r g
 · by_cases q:g=f
   · rw[q];exact(nJ f y fs).1
   · refine(nJ f y fs).2 g (wi g fun z=>hg ?_);show(if g=f then some u else mA g)=none;rw[aG q];exact z
def Inv.made{σ:St}(I:Inv X pins σ H s):Inv X pins σ (upd (upd H s.heap.objs.size (.own (s.heap.objs.size+1))) (s.heap.objs.size+1) (.ins C s.heap.objs.size [])) {s with heap:=(s.heap.push emptyDict).push (instObj C s.heap.objs.size)}:=by
 have e1:(s.heap.push emptyDict).get? s.heap.objs.size=some emptyDict:=aU s.heap rfl;have e2:((s.heap.push emptyDict).push (instObj C s.heap.objs.size)).get? (s.heap.objs.size+1)=some (instObj C s.heap.objs.size):=by
  have:=aU (s.heap.push emptyDict) (o:=instObj C s.heap.objs.size) rfl
  rwa [de] at this
 have e3:(s.heap.push emptyDict).Ns s.heap.objs.size (fun _=>none):=⟨emptyDict,#[],_,e1,rfl,(fun e he=>absurd he (by simp)),fun _=>rfl⟩;have I1:=I.laid (a:=s.heap.objs.size) (o:= .own (s.heap.objs.size+1)) (h':=s.heap.push emptyDict) (t':=s.toks) (fun b u q=>ar _ q) (aq _) ⟨_,e1⟩;refine I1.laid (a:=s.heap.objs.size+1) (o:= .ins C s.heap.objs.size []) (t':=s.toks) (fun b u q=>ar _ q) (JX (de _ _)) ?_;have ne:s.heap.objs.size≠s.heap.objs.size+1:=bf (nU _);refine⟨by rw[aM ne,ae],au _,ne,e2,fun _=>none,(Heap.Ns1.of_empty e3).at fun o q=>ar _ q,fun _=>True.intro,fun y hy=>absurd rfl hy⟩
def FH(hb:attributeBase e f env (eval e env)=eval e env)(h:wpAny (model prog w) A (eval e env) (fun o s₁=>wpAny (model prog w) A (getAttr o f true) Q E s₁) E s):wpAny (model prog w) A (eval (.Attribute e f pos) env) Q E s:=Attribute_any_ h (by rw[arm_eval_Attribute,hb])
end
inductive BR(K:Frag)(f:Str)(Q:VK)(H1:Hp)(a:Addr):Prop
 | mk:∀C dx fs v,(H1 a=some (.ins C dx fs))->(Cls K C)->(NoAttr K C f)->(fs.lookup f=some v)->(Q v H1)->BR K f Q H1 a
def xF(K:Frag)(ta:TE)(f:Str):TE:=fun σ H Q=>ta σ H fun x H1=>onR x fun a=>BR K f Q H1 a
def B_(K:Frag)(ta tv:TE)(f:Str):TS:=fun D σ H=>tv σ H fun y H1=>ta σ H1 fun x H2=>∃a C dx fs,x= .ref a/\H2 a=some (.ins C dx fs)/\Cls K C/\NoAttr K C f/\fs.length<1000/\D.nx σ (upd H2 a (.ins C dx (ij f y fs)))
section
def Hk(he:PE X e ta)(hb:attributeBase e f X.env (eval e X.env)=eval e X.env):PE X (.Attribute e f pos) (xF X.K ta f):=by
 intro pins s σ H Q I h;refine FH hb (cX (he pins s σ H _ I h) fun u s1 ⟨x,H1,I1,rx,q0⟩=> ?_);obtain⟨a,ex,C,dx,fs,v,ea,c,n,l,q⟩:=onR.ex q0;subst ex;obtain rfl:u=Value.ref a:=rx;exact yI I1 ea c n l fun u' s2 I2 ru=>⟨v,H1,I2,ru,q⟩
def cT(ha:PE X o ta)(hv:PE X value tv)(hs:swapsWith value (some (.Attribute o f pos')) pos.line X.env=pure false):PS X (.Assign [.Attribute o f pos'] value pos) (B_ X.K ta tv f):=by
 intro pins s σ H D I h;refine plainObj_wpAny_Assign_Attribute (cX (hv pins s σ H _ I h) fun u s1 ⟨y,H1,I1,ry,q⟩=>cX (ha pins s1 σ H1 _ I1 q) fun ov s2 ⟨x,H2,I2,rx,a,C,dx,fs,ex,ea,c,n,l,q2⟩=> ?_) hs;subst ex;obtain rfl:ov=Value.ref a:=rx;exact xM I2 ea c n l ry fun s3 I3=>⟨σ,_,I3,q2⟩
end
section
inductive TyOf(K:Frag)(H:Hp):V->Value->Prop where
 | non:TyOf K H .non (.type "NoneType")
 | bl (x:Bool):TyOf K H (.bl x) (.type "bool")
 | int (i:Int):TyOf K H (.int i) (.type "int")
 | str (x:Str):TyOf K H (.str x) (.type "str")
 | flt (x:UInt64):TyOf K H (.flt x) (.type "float")
 | lst {a:Addr} {xs:List V} (e:H a=some (.lst xs)):TyOf K H (.ref a) (.type "list")
 | frz {a:Addr} {o:Obj} {xs:List V} (e:H a=some (.frz o (.lst xs))):TyOf K H (.ref a) (.type "list")
 | tup {a:Addr} {xs:List V} (e:H a=some (.tup xs)):TyOf K H (.ref a) (.type "tuple")
 | dK {a:Addr} {kvs:List (Key × V)} (e:H a=some (.dK kvs)):TyOf K H (.ref a) (.type "dict")
 | dT {a:Addr} {kvs:List (List Key × V)} (e:H a=some (.dT kvs)):TyOf K H (.ref a) (.type "dict")
 | ins {a C dx:Addr} {fs:List (Str × V)} (e:H a=some (.ins C dx fs)) (cl:Cls K C) (ha:findIn K (.ref C) "__class__"=some (some (.builtin "object.__class__"))) (hn:PySem.W.specialIn K (.builtin "object.__class__") "__get__"=some (some (.builtin "getset_descriptor.__get__"))) (htk:PySem.W.takesIn K (.builtin "object.__class__")=some true) (hm:mroIn K C (.type "object")=some true):TyOf K H (.ref a) (.ref C)
def Ba{σ:St}(I:Inv X pins σ H s)(rx:RelV x u)(ty:TyOf X.K H x t)(e:kitOne X.K t c=some b)(h:∀tk,Q (.bool b) {s with toks:=tk}):wpAny (model X.prog X.w) A (call (.builtin "isinstance") [u,c]) Q E s:=by
 cases ty with
 | non=>cases(show u=Value.none from rx);exact kia_one PySem.W.kitx_none I.kIn True.intro e (fun z=>nomatch z) h
 | bl y=>cases(show u=Value.bool y from rx);exact kia_one PySem.W.kitx_bool I.kIn True.intro e (fun z=>nomatch z) h
 | int i=>obtain⟨t,q⟩:=(show ∃t,u=Value.int i t from rx);cases q;exact kia_one PySem.W.kitx_int I.kIn True.intro e (fun z=>nomatch z) h
 | str y=>obtain⟨t,q⟩:=(show ∃t,u=Value.str y t from rx);cases q;exact kia_one PySem.W.kitx_str I.kIn True.intro e (fun z=>nomatch z) h
 | flt y=>obtain⟨t,q⟩:=(show ∃t,u=Value.float y t from rx);cases q;exact kia_one PySem.W.kitx_float I.kIn True.intro e (fun z=>nomatch z) h
 | @lst a xs ea=>
   cases(show u=Value.ref a from rx);obtain⟨_,_,n,_,h1⟩:=(show ObjOk X.prog X.w H s.heap a (.lst xs) from I.hok a _ ea);exact kia_one MP I.kIn ⟨_,h1,rfl⟩ e (fun z=>nomatch z) h
 | @frz a ob xs ea=>
   cases(show u=Value.ref a from rx);obtain⟨_,_,_,n,_,h1⟩:=(show ObjOk X.prog X.w H s.heap a (.frz ob (.lst xs)) from I.hok a _ ea);exact kia_one MP I.kIn ⟨_,h1,rfl⟩ e (fun z=>nomatch z) h
 | @tup a xs ea=>
   cases(show u=Value.ref a from rx);obtain⟨_,_,_,p⟩:=(show ObjOk X.prog X.w H s.heap a (.tup xs) from I.hok a _ ea);obtain⟨o,h1,h2,_⟩:=p;exact kia_one PySem.W.kitx_tuple I.kIn ⟨o,h1,h2⟩ e (fun z=>nomatch z) h
 | @dK a kvs ea=>
   cases(show u=Value.ref a from rx);obtain⟨_,_,vs,_,p⟩:=(show ObjOk X.prog X.w H s.heap a (.dK kvs) from I.hok a _ ea);obtain⟨o,es,ep,h1,h2,_⟩:=p;exact kia_one MQ I.kIn ⟨o,h1,h2.1⟩ e (fun z=>nomatch z) h
 | @dT a kvs ea=>
   cases(show u=Value.ref a from rx);obtain⟨_,_,xs,_,o,es,ep,h1,h2,_⟩:=(show ObjOk X.prog X.w H s.heap a (.dT kvs) from I.hok a _ ea);exact kia_one MQ I.kIn ⟨o,h1,h2.1⟩ e (fun z=>nomatch z) h
 | @ins a C dx fs ea cl ha hn htk hm=>
   cases(show u=Value.ref a from rx);obtain⟨mA,O,_⟩:=pJ I.hok ea;obtain⟨od,J,_⟩:=O.look;exact kia_one (PySem.W.kitx_own (cl.get _) cl.hd ha hn htk hm) I.kIn J e (fun z=>nomatch z) h
end
structure Room(k:Nat)(A:Around):Prop where
 hd:A.handled=none
 dp:A.depth+3 * k+5<recursionLimit
 un:A.units+16 * k+200<cLine
 gd:A.guards=some []
def Room.mono(r:Room k A)(h:j<=k):Room j A:=⟨r.hd,by have:=r.dp;lia,by have:=r.un;lia,r.gd⟩
def Room.deeper(r:Room (k+1) A)(env:Env):Room k (A.deeper env):=⟨r.hd,by have:=r.dp;show A.depth+1+3 * k+5<_;lia,by have:=r.un;show A.units+3+16 * k+200<_;lia,r.gd⟩
def yB{A:Around}:(A.under (.builtin "type.__call__" ⟨.ref C::us,kw⟩)).depth=A.depth+1:=by
 first | rfl | simp[Around.under,Code.weight,Code.isCreation,Code.isGuard,Code.isCaller,Code.frames,Code.isFrame,guardIds]
def yA{A:Around}:(A.under (.builtin "type.__call__" ⟨.ref C::us,kw⟩)).units=A.units+1:=by
 first | rfl | simp[Around.under,Code.cUnits,Code.frames,Code.isFrame]
def wO{A:Around}(h:A.guards=some []):(A.under (.builtin "type.__call__" ⟨.ref C::us,kw⟩)).guards=some []:=by
 first | (show pushGuards _ A.guards=_;rw[h];rfl) | simp[Around.under,pushGuards,Code.guards,Code.isGuard,guardIds,h]
def Room.make(r:Room (k+1) A)(C:Addr)(us:List Value)(kw:List (Str × Value)):Room k (A.under (.builtin "type.__call__" ⟨.ref C::us,kw⟩)):=⟨r.hd,by have:=r.dp;rw[yB];lia,by have:=r.un;rw[yA];lia,wO r.gd⟩
def Room.depth(r:Room k A):A.depth<recursionLimit:=by have:=r.dp;lia
def Room.units(r:Room k A):A.units+64<cLine:=by have:=r.un;lia
def iE:TA:=fun _ H Q=>Q [] H
def df(ta:TE)(tr:TA):TA:=fun σ H Q=>ta σ H fun x H1=>tr σ H1 fun xs H2=>Q (x::xs) H2
section
def bO:PA X [] iE:=fun _ _ _ _ H Q I h=>yT ⟨[],H,I,.nil,h⟩
def cB{X:Cx}{e:Expr}{es:List Expr}{te:TE}{t:TA}(ha:PE X e te)(hr:PA X es t)(hs:starEach (e::es) X.env=(false,eval e X.env)::starEach es X.env:=by rfl):PA X (e::es) (df te t):=by
 intro pos pins s σ H Q I h;rw[hs];show wpAny _ _ (spliced ((false,eval e X.env)::backTo pos (starEach es X.env))) _ _ s;refine gM (cX (ha pins s σ H _ I h) fun u s1 ⟨x,H1,I1,r1,q1⟩=> ?_);exact cX (hr pos pins s1 σ H1 _ I1 q1) fun us s2 ⟨xs,H2,I2,r2,q2⟩=>⟨x::xs,H2,I2,.cons r1 r2,q2⟩
def Ei(t:TA):TE:=fun σ H Q=>t σ H fun xs H1=>xs.length<=sizeLine/\∀p,H1 p=none->Q (.ref p) (upd H1 p (.tup xs))
def GQ(t:TA):TE:=fun σ H Q=>t σ H fun xs H1=>xs.length<=sizeLine/\∀p,H1 p=none->Q (.ref p) (upd H1 p (.lst xs))
def yf{X:Cx}{es:List Expr}{t:TA}{pos:Pos}{x1}(h:PA X es t):PE X (.Tuple es x1 pos) (Ei t):=by
 intro pins s σ H Q I hq;refine wpAny_Tuple_spliced (cX (h pos pins s σ H _ I hq) fun us s1 ⟨xs,H1,I1,r,z,q⟩=>⟨by rw[<-r.length];exact z,?_⟩);have hf:H1 s1.heap.objs.size=none:=I1.hok.fresh (aq _);refine⟨.ref s1.heap.objs.size,upd H1 s1.heap.objs.size (.tup xs),I1.laid (t':=s1.toks) (fun b u e=>ar _ e) (aq _) ?_,rfl,q _ hf⟩;exact⟨z,us,r,⟨_,aU _ rfl,rfl,_,rfl⟩⟩
def bE{X:Cx}{es:List Expr}{t:TA}{pos:Pos}(h:PA X es t):PE X (.List es pos) (GQ t):=by
 intro pins s σ H Q I hq;refine wpAny_List_spliced (cX (h pos pins s σ H _ I hq) fun us s1 ⟨xs,H1,I1,r,z,q⟩=>⟨by rw[<-r.length];exact z,?_⟩);have hf:H1 s1.heap.objs.size=none:=I1.hok.fresh (aq _);refine⟨.ref s1.heap.objs.size,upd H1 s1.heap.objs.size (.lst xs),I1.laid (t':=s1.toks) (fun b u e=>ar _ e) (aq _) ?_,rfl,q _ hf⟩;exact⟨z,us,0,r,aU _ rfl⟩
end
abbrev Sp:=List V->Hp->VK->XK->Prop
abbrev BF:=List Env->Hp->Shared->XK->Value->Shared->Prop
structure Env0(P:Program)(w:World)(K:Frag)(mg:Str->Option Value)(base:Heap)(A:Around)(outer:List Env)(s:Shared)(H:Hp):Prop where
 frames:A.frames=some outer
 mod:Mod K mg base
 bs:∀b o,base.get? b=some o->s.heap.get? b=some o/\H b=none
 bsz:base.objs.size<=s.heap.objs.size
 funs:s.heap.FunFrames base outer
 frf:∀b∈qO outer,H b=none
 hok:HOk P w H s.heap
 bare:AllBare s.gens
def CE(outer:List Env)(P:Program)(w:World)(H:Hp)(s:Shared)(Q:VK)(u:Value)(s':Shared):Prop:=∃v H',s'.os=s.os/\AllBare s'.gens/\Un (qO outer) [] H H' s.heap s'.heap/\HOk P w H' s'.heap/\RelV v u/\Q v H'
def CR(CX:BF)(outer:List Env)(P:Program)(w:World)(H:Hp)(s:Shared)(Q:VK)(E:XK)(r:Result)(s':Shared):Prop:=match r with
 | .ok (.ret u)=>CE outer P w H s Q u s'
 | .ok _=>False
 | .error e=>CX outer H s E e s'
structure bK(P:Program)(w:World)(K:Frag)(mg:Str->Option Value)(base:Heap)(CX:BF)(k:Nat)(f:Addr)(fd:FuncData)(ps:List Str)(sp:Sp):Prop where
 len:∀vs H Q E,sp vs H Q E->vs.length=ps.length
 run:∀(A:Around) (outer:List Env) (s:Shared) (H:Hp) (args:Args) (us:List Value) (vs:List V) (Q:VK) (E:XK),Room k A->Env0 P w K mg base A outer s H->BindsTo s fd args (ps.zip us)->Vals vs us->sp vs H Q E->codeAny (model P w) A (.call (.ref f) args) (CR CX outer P w H s Q E) s
def Env0.make{K:Frag}(e:Env0 P w K mg base A outer s H)(C:Addr)(us:List Value)(kw:List (Str × Value)):Env0 P w K mg base (A.under (.builtin "type.__call__" ⟨.ref C::us,kw⟩)) outer s H:=⟨by first | exact e.frames | (simpa[Around.under,Code.envs,Code.isFrame,pushEnvs] using e.frames),e.mod,e.bs,e.bsz,e.funs,e.frf,e.hok,e.bare⟩
section
def Inv.env0{σ:St}(I:Inv X pins σ H s):Env0 X.prog X.w X.K X.mg X.base X.A X.stack s H:=⟨I.ok.frames,I.ok.mod,I.bs,ao I.ok.bsz I.sz,I.stack,I.stkFree,I.hok,I.bare⟩
def Inv.after{σ:St}(I:Inv X pins σ H s)(h:CE X.stack X.prog X.w H s Q u s'):EP X pins σ Q u s':=by
 obtain⟨v,H',os,bare,un,hok,r,q⟩:=h;obtain⟨hh,g,d,t,os'⟩:=s';obtain rfl:os'=s.os:=os;exact⟨v,H',I.call (h':=hh) (g':=g) (d':=d) (t':=t) (ch:=[]) un hok bare (fun b z=>absurd z (by simp)),r,q⟩
end
def pT(sp:Sp)(dvs:List V)(E:XK)(t:TA):TE:=fun σ H Q=>t σ H fun vs H1=>sp (vs++dvs) H1 Q E
inductive yX(C:Addr)(m:Str)(sp:Sp)(dvs:List V)(E:XK)(t:TA)(σ:St)(Q:VK)(x:V)(H1:Hp)(a:Addr):Prop
 | mk:∀dx fs,(H1 a=some (.ins C dx fs))->(fs.lookup m=none)->(t σ H1 fun vs H2=>sp (x::(vs++dvs)) H2 Q E)->yX C m sp dvs E t σ Q x H1 a
def yY(C:Addr)(m:Str)(sp:Sp)(dvs:List V)(E:XK)(ta:TE)(t:TA):TE:=fun σ H Q=>ta σ H fun x H1=>onR x fun a=>yX C m sp dvs E t σ Q x H1 a
def yZ(C:Addr)(sp:Sp)(dvs:List V)(E:XK)(t:TA):TE:=fun σ H Q=>t σ H fun vs H1=>∀x dx,H1 x=none->H1 dx=none->dx≠x->sp (.ref x::(vs++dvs)) (upd (upd H1 dx (.own x)) x (.ins C dx [])) (fun v H2=>v= .non/\Q (.ref x) H2) E
def Binds(K:Frag)(fd:FuncData)(ps:List Str)(ds:List Value):Prop:=∀s us,K.In s.heap->(us++ds).length=ps.length->BindsTo s fd ⟨us,[]⟩ (ps.zip (us++ds))
def Binds.all{K:Frag}(h:∀us:List Value,us.length=ps.length->bindArgs fd ⟨us,[]⟩=pure (ps.zip us)):Binds K fd ps []:=fun s us _ hl=>by
 rw[fk] at hl⊢;exact .of_eq (h us hl)
def jh(CX:BF)(X:Cx)(E:XK):Prop:=∀(pins:List (Addr × Obj)) (σ:St) (H:Hp) (s:Shared) (e:Value) (s':Shared),Inv X pins σ H s->CX X.stack H s E e s'->X.xe e s'
section
def x6{σ:St}(F:bK X.prog X.w X.K X.mg X.base CX k f fd ps sp)(hr:Room k X.A)(hb:Binds X.K fd ps ds)(hd:Vals dvs ds)(hx:jh CX X E)(I:Inv X pins σ H s)(r:Vals vs us)(h:sp (vs++dvs) H Q E):wpAny (model X.prog X.w) X.A (call (.ref f) us) (EP X pins σ Q) X.xe s:=by
 have r2:Vals (vs++dvs) (us++ds):=r.append hd;have hl:(us++ds).length=ps.length:=by rw[<-r2.length];exact F.len _ _ _ _ h
 refine iD (g9 (F.run X.A X.stack s H ⟨us,[]⟩ (us++ds) (vs++dvs) Q E hr I.env0 (hb s us I.kIn hl) r2 h) fun r s' hq=> ?_);cases r with
 | error e=>exact hx pins σ H s e s' I hq
 | ok fl=>
   cases fl with
   | ret u=>exact I.after hq
   | next=>exact False.elim hq
   | brk=>exact False.elim hq
   | cont=>exact False.elim hq
def iZ{X:Cx}{CX:BF}{k:Nat}{f:Addr}{fd:FuncData}{ps:List Str}{sp:Sp}{dvs:List V}{ds:List Value}{E:XK}{x:Str}{p pos:Pos}{e:Expr}{es:List Expr}{t:TA}(F:bK X.prog X.w X.K X.mg X.base CX k f fd ps sp)(hr:Room k X.A)(hg:Gl X x)(hm:X.mg x=some (.ref f))(hk:keepIn X.K (.ref f)=true)(hb:Binds X.K fd ps ds)(hd:Vals dvs ds)(hx:jh CX X E)(ha:PA X (e::es) t)(hdb:(x==("__debug__":Str))=false:=by decide)(he:starEach (e::es) X.env=(false,eval e X.env)::starEach es X.env:=by rfl)(hpl:(backTo pos (starEach es X.env)).any (·.1)=false:=by rfl):PE X (.Call (.Name x p) (e::es) [] pos) (pT sp dvs E t):=by
 intro pins s σ H Q I h;refine dm (gI I hg hm ?_ hdb);refine callWith_K (h₀:=X.base) I.ok.mod.kin hk (cX (ha pos pins s σ H _ I h) fun us s1 ⟨vs,H1,I1,r,q⟩=>⟨I1.kIn,?_⟩) he hpl;exact x6 F hr hb hd hx I1 r q
def ES{X:Cx}{CX:BF}{k:Nat}{f C:Addr}{fd:FuncData}{ps:List Str}{sp:Sp}{dvs:List V}{ds:List Value}{E:XK}{m:Str}{pos apos:Pos}{e o:Expr}{es:List Expr}{ta:TE}{t:TA}{pl:Sem Bool}(he:PE X o ta)(c:Cls X.K C)(hm:D3 X.K C m f)(F:bK X.prog X.w X.K X.mg X.base CX k f fd ps sp)(hr:Room k X.A)(hb:Binds X.K fd ps ds)(hd:Vals dvs ds)(hx:jh CX X E)(ha:PA X (e::es) t)(hst:starEach (e::es) X.env=(false,eval e X.env)::starEach es X.env:=by rfl)(hpl:(backTo pos (starEach es X.env)).any (·.1)=false:=by rfl)(ht:eval (.Call (.Attribute o m apos) (e::es) [] pos) X.env=(do
 let ov<-eval o X.env
 standAt apos.atName
 let(f,first)<-holding [ov] (getMethod ov m pl)
 callWith pos f first (backTo pos (starEach (e::es) X.env)) (backToKw pos (keywordEach [] X.env))):=by rfl):
 PE X (.Call (.Attribute o m apos) (e::es) [] pos) (yY C m sp dvs E ta t):=by
 intro pins s σ H Q I h;refine Km (pl:=pl) (cX (he pins s σ H _ I h) fun u s1 ⟨x,H1,I1,rx,q0⟩=> ?_) ht;obtain⟨a,ex,dx,fs,ea,l,q⟩:=onR.ex q0;subst ex;obtain rfl:u=Value.ref a:=rx;refine qN I1 ea c hm l ?_;refine callWith_K (first:=[.ref a]) (h₀:=X.base) I.ok.mod.kin hm.kp (cX (ha pos pins s1 σ H1 _ I1 q) fun us s2 ⟨vs,H2,I2,r,q2⟩=>⟨I2.kIn,?_⟩) hst hpl;exact x6 (us:= .ref a::us) (vs:= .ref a::vs) F hr hb hd hx I2 (.cons rfl r) q2
def Cs{X:Cx}{CX:BF}{k:Nat}{f C:Addr}{fd:FuncData}{ps:List Str}{sp:Sp}{dvs:List V}{ds:List Value}{E:XK}{m:Str}{pos apos:Pos}{o:Expr}{ta:TE}{pl:Sem Bool}(he:PE X o ta)(c:Cls X.K C)(hm:D3 X.K C m f)(F:bK X.prog X.w X.K X.mg X.base CX k f fd ps sp)(hr:Room k X.A)(hb:Binds X.K fd ps ds)(hd:Vals dvs ds)(hx:jh CX X E)(ht:eval (.Call (.Attribute o m apos) [] [] pos) X.env=(do
 let ov<-eval o X.env
 standAt apos.atName
 let(f,first)<-holding [ov] (getMethod ov m pl)
 callWith pos f first (backTo pos (starEach [] X.env)) (backToKw pos (keywordEach [] X.env))):=by rfl):
 PE X (.Call (.Attribute o m apos) [] [] pos) (yY C m sp dvs E ta iE):=by
 intro pins s σ H Q I h;refine Km (pl:=pl) (cX (he pins s σ H _ I h) fun u s1 ⟨x,H1,I1,rx,q0⟩=> ?_) ht;obtain⟨a,ex,dx,fs,ea,l,q⟩:=onR.ex q0;subst ex;obtain rfl:u=Value.ref a:=rx;refine qN I1 ea c hm l ?_;exact LZ (first:=[.ref a]) I1.kIn hm.kp (x6 (us:=[.ref a]) (vs:=[.ref a]) F hr hb hd hx I1 (.cons rfl .nil) q)
structure Mk(K:Frag)(C f:Addr):Prop where
 makes:makesIn K C=true
 init:findIn K (.ref C) "__init__"=some (some (.ref f))
 fn:isFn K (.ref f)=true
 kp:keepIn K (.ref C)=true
def wa{σ:St}(M:Mk X.K C f)(F:bK X.prog X.w X.K X.mg X.base CX k f fd ps sp)(hr:Room (k+1) X.A)(hb:Binds X.K fd ps ds)(hd:Vals dvs ds)(hx:jh CX X E)(I:Inv X pins σ H s)(r:Vals vs us)(h:∀x dx,H x=none->H dx=none->dx≠x->sp (.ref x::(vs++dvs)) (upd (upd H dx (.own x)) x (.ins C dx [])) (fun v H2=>v= .non/\Q (.ref x) H2) E):wpAny (model X.prog X.w) X.A (call (.ref C) us) (EP X pins σ Q) X.xe s:=by
 have hq:=h (s.heap.objs.size+1) s.heap.objs.size (I.hok.fresh (aY _)) (I.hok.fresh (aq _)) (bf (nU _));have I2:=Inv.made (C:=C) I;have r2:Vals (V.ref (s.heap.objs.size+1)::(vs++dvs)) (Value.ref (s.heap.objs.size+1)::(us++ds)):= .cons rfl (r.append hd);have hl:(Value.ref (s.heap.objs.size+1)::us++ds).length=ps.length:=by
  have e:=r2.length;rw[F.len _ _ _ _ hq] at e;exact e.symm
 refine iD (C9 (f:=f) I.kIn M.makes M.init (iL.mp M.fn) (g9 (F.run _ X.stack _ _ ⟨Value.ref (s.heap.objs.size+1)::us,[]⟩ (Value.ref (s.heap.objs.size+1)::(us++ds)) _ _ E (hr.make C us []) (I2.env0.make C us []) (hb _ (Value.ref (s.heap.objs.size+1)::us) I2.kIn hl) r2 hq) fun r s' hq'=> ?_));cases r with
 | error e=>exact hx pins σ _ _ e s' I2 hq'
 | ok fl=>
   cases fl with
   | ret u=>
     obtain⟨v,H',I3,rv,ev,q3⟩:=I2.after hq';subst ev;exact⟨rv,⟨V.ref (s.heap.objs.size+1),H',I3,rfl,q3⟩⟩
   | next=>exact False.elim hq'
   | brk=>exact False.elim hq'
   | cont=>exact False.elim hq'
def ET{X:Cx}{CX:BF}{k:Nat}{f C:Addr}{fd:FuncData}{ps:List Str}{sp:Sp}{dvs:List V}{ds:List Value}{E:XK}{x:Str}{p pos:Pos}{e:Expr}{es:List Expr}{t:TA}(M:Mk X.K C f)(F:bK X.prog X.w X.K X.mg X.base CX k f fd ps sp)(hr:Room (k+1) X.A)(hg:Gl X x)(hm:X.mg x=some (.ref C))(hb:Binds X.K fd ps ds)(hd:Vals dvs ds)(hx:jh CX X E)(ha:PA X (e::es) t)(hdb:(x==("__debug__":Str))=false:=by decide)(he:starEach (e::es) X.env=(false,eval e X.env)::starEach es X.env:=by rfl)(hpl:(backTo pos (starEach es X.env)).any (·.1)=false:=by rfl):PE X (.Call (.Name x p) (e::es) [] pos) (yZ C sp dvs E t):=by
 intro pins s σ H Q I h;refine dm (gI I hg hm ?_ hdb);refine callWith_K (h₀:=X.base) I.ok.mod.kin M.kp (cX (ha pos pins s σ H _ I h) fun us s1 ⟨vs,H1,I1,r,q⟩=>⟨I1.kIn,?_⟩) he hpl;exact wa M F hr hb hd hx I1 r q
def Cu{X:Cx}{CX:BF}{k:Nat}{f C:Addr}{fd:FuncData}{ps:List Str}{sp:Sp}{dvs:List V}{ds:List Value}{E:XK}{x:Str}{p pos:Pos}(M:Mk X.K C f)(F:bK X.prog X.w X.K X.mg X.base CX k f fd ps sp)(hr:Room (k+1) X.A)(hg:Gl X x)(hm:X.mg x=some (.ref C))(hb:Binds X.K fd ps ds)(hd:Vals dvs ds)(hx:jh CX X E)(hdb:(x==("__debug__":Str))=false:=by decide):PE X (.Call (.Name x p) [] [] pos) (yZ C sp dvs E iE):=by
 intro pins s σ H Q I h;refine dm (gI I hg hm ?_ hdb);exact LZ I.kIn M.kp (wa (us:=[]) M F hr hb hd hx I .nil h)
end
section
end
structure bb(N P:List Str)(sc:Scope):Prop where
 kind:sc.kind= .function
 co:sc.isCoroutine=false
 gen:sc.isGenerator=false
 nd:N.Nodup
 pre:N.take P.length=P
 par:∀x∈P,sc.names.lookup x=some .local\/sc.names.lookup x=some .cell
 nofree:∀y∈sc.names,y.2≠ .free
theorem sZ{kindOf:Str->Option NameKind}:∀{binds:List (Str × Value)} {m:Str->Option Value},(∀v,(x,v)∉binds)->bindL kindOf binds m x=m x
 | [],_,_=>rfl
 | (n,v)::r,m,h=>by
   unfold bindL;rw[sZ fun w hw=>h w (aH _ hw)]
   split
   · have:x≠n:=by rintro rfl;exact h v aO
     simp[this]
   · rfl
theorem tf{kindOf:Str->Option NameKind}:∀{binds:List (Str × Value)} {m:Str->Option Value},(∀v,(x,v)∉binds)->bindC kindOf binds m x=m x
 | [],_,_=>rfl
 | (n,v)::r,m,h=>by
   unfold bindC;rw[tf fun w hw=>h w (aH _ hw)]
   split
   · rfl
   · have:x≠n:=by rintro rfl;exact h v aO
     simp[this]
theorem s_{kindOf:Str->Option NameKind}:∀{P:List Str} {vs:List Value} {i:Nat} {m:Str->Option Value},P.Nodup->P[i]? =some x->vs[i]? =some v->kindOf x=some .local->bindL kindOf (P.zip vs) m x=some v
 | [],_,_,_,_,h,_,_=>by simp at h
 | _::_,[],_,_,_,_,h,_=>by simp at h
 | p::P,w::vs,0,m,nd,h1,h2,hk=>by
   simp at h1 h2;subst h1;subst h2;show bindL kindOf ((p,w)::P.zip vs) m p=_;unfold bindL;rw[sZ fun v hv=>(ee.mp nd).1 (D4 hv).1,aK hk];simp
 | p::P,w::vs,i+1,m,nd,h1,h2,hk=>by
   show bindL kindOf ((p,w)::P.zip vs) m x=_;unfold bindL;exact s_ (i:=i) (ee.mp nd).2 (by simpa using h1) (by simpa using h2) hk
theorem tj{kindOf:Str->Option NameKind}:∀{P:List Str} {vs:List Value} {i:Nat} {m:Str->Option Value},P.Nodup->P[i]? =some x->vs[i]? =some v->kindOf x≠some .local->bindC kindOf (P.zip vs) m x=some v
 | [],_,_,_,_,h,_,_=>by simp at h
 | _::_,[],_,_,_,_,h,_=>by simp at h
 | p::P,w::vs,0,m,nd,h1,h2,hk=>by
   simp at h1 h2;subst h1;subst h2;show bindC kindOf ((p,w)::P.zip vs) m p=_;unfold bindC;rw[tf fun v hv=>(ee.mp nd).1 (D4 hv).1,aG hk];simp
 | p::P,w::vs,i+1,m,nd,h1,h2,hk=>by
   show bindC kindOf ((p,w)::P.zip vs) m x=_;unfold bindC;exact tj (i:=i) (ee.mp nd).2 (by simpa using h1) (by simpa using h2) hk
noncomputable def jB(N:List Str)(vs:List V):St:=vs.map some++List.replicate (N.length - vs.length) none
noncomputable def oS(CX:BF)(P:Program)(w:World)(K:Frag)(mg:Str->Option Value)(base:Heap)(N:List Str)(qual:Str)(scope:Scope)(f:Addr)(cd:Value)(A:Around)(outer:List Env)(s:Shared)(H:Hp)(E:XK):Cx where
 prog:=P
 w:=w
 K:=K
 mg:=mg
 base:=base
 A:=A.deeper (envOfC qual scope s.heap.objs.size f cd)
 N:=N
 s₀:=s
 H₀:=H
 env:=envOfC qual scope s.heap.objs.size f cd
 outer:=outer
 stack:=envOfC qual scope s.heap.objs.size f cd::outer
 ex:=[]
 calm:=true
 fn:=fun _=>true
 pn:=[]
 xe:=fun e s'=>wpAny (model P w) (A.deeper (envOfC qual scope s.heap.objs.size f cd)) (leaving (envOfC qual scope s.heap.objs.size f cd) e) (fun _ s''=>CX outer H s E e s'') (fun e' s''=>CX outer H s E e' s'') s'
def xj{sc:Scope}(h:sc.names.lookup x=some .cell):∃c,(cellsFrom n sc.names []).lookup x=some c:=by
 have q:=JV sc.names n [] (.inl h);exact Iw.mp q
def Bb{K:Frag}(S:bb N ps scope)(hd:A.handled=none)(e0:Env0 P w K mg base A outer s H)(hl:vs.length=ps.length)(r:Vals vs us)(x:InCallC s s.heap.objs.size (bindL (envOfC qual scope s.heap.objs.size f cd).kindOf (ps.zip us) fun _=>none) (cellsFrom (s.heap.objs.size+1) scope.names []) (bindC (envOfC qual scope s.heap.objs.size f cd).kindOf (ps.zip us) fun _=>none) s1):Inv (oS CX P w K mg base N qual scope f cd A outer s H E) [] (jB N vs) H s1:=by
 have hpl:ps.length<=N.length:=by have:=congrArg List.length S.pre;rw[cS] at this;lia
 obtain⟨h1,tk,rfl,hk⟩:=x.done;have noA:∀b:Addr,b∉(oS CX P w K mg base N qual scope f cd A outer s H E).ex:=fun b z=>absurd (show b∈([]:List Addr) from z) (by simp);refine⟨⟨e0.mod,S.kind,rfl,rfl,aq _,fun y z c h1 h2=> ?_,fun y hy=> ?_,fun y c _ h=> ?_,fun _=>hd,Around.frames_deeper e0.frames,.inr ⟨rfl,rfl⟩,fun b z=>absurd z (noA b),e0.bs,e0.bsz,fun b _ _=>noA b,fun b z=>absurd z (noA b),e0.funs,e0.frf⟩,
  rfl,e0.bare,Un.kept hk,⟨_,x.toInCall.ns,fun i y v h1 h2 h3=> ?_⟩,fun y c h=>⟨_,x.cell y c h⟩,e0.hok.fresh (aq _),fun y c h=> ?_,fun p hp=>absurd (show p∈([]:List (Addr × Obj)) from hp) (by simp),e0.hok.kept hk,?_⟩
 · exact name_of_addr x.apart (cH h1) (cH h2)
 · have hy:scope.names.lookup y=some .cell\/scope.names.lookup y=some .free:=hy;rcases hy with hy | hy
   · exact xj hy
   · exact absurd rfl (S.nofree _ (cH hy))
 · exact fe (x.above y c (cH h))
 · have hi:i<vs.length:=by
    unfold jB at h2;by_cases hi:i<vs.length
    · exact hi
    · rw[bV (by simpa using hi)] at h2;rw[nV] at h2
      split at h2<;>cases h2
   have ha:vs[i]? =some v:=by
    unfold jB at h2;rw[bM (by simpa using hi),aV] at h2;cases e:vs[i]? with
    | none=>rw[e] at h2;cases h2
    | some a=>rw[e] at h2;cases h2;rfl
   obtain⟨u,hu,rv⟩:=r.get ha;have hp:ps[i]? =some y:=by
    rw[<-S.pre,List.getElem?_take_of_lt (by lia)];exact h1
   have ndP:ps.Nodup:=by rw[<-S.pre];exact S.nd.sublist (List.take_sublist _ _)
   refine⟨u,rv,?_⟩;rcases S.par y (av hp) with k | k
   · exact .inl ⟨k,s_ ndP hp hu k⟩
   · obtain⟨c,e⟩:=xj (n:=s.heap.objs.size+1) k;refine .inr ⟨.inl k,c,e,?_⟩;have q:=x.cell y c e;rw[tj ndP hp hu (by show scope.names.lookup y≠_;rw[k];decide)] at q;exact q
 · exact e0.hok.fresh (fe (x.above y c (cH h)))
 · unfold jB;show _=N.length;rw[ak,aw,fA]
   lia
def DB{K:Frag}{kV:Value}(lk:K.lookup f=some ⟨oc,od,.func (fnOf name qual params body scope dV kV doc pm an cdv ct),osl⟩)(hcd:codeIn K cdv qual=true)(S:bb N ps scope)(len:∀vs H Q E,sp vs H Q E->vs.length=ps.length)(hbody:∀A outer s H vs Q E,Room k (A.deeper (envOfC qual scope s.heap.objs.size f cdv))->sp vs H Q E->∃t,PSs (oS CX P w K mg base N qual scope f cdv A outer s H E) body t/\t {nx:=fun _ H'=>Q .non H',rt:=Q} (jB N vs) H):bK P w K mg base CX (k+1) f (fnOf name qual params body scope dV kV doc pm an cdv ct) ps sp:=by
 refine⟨len,fun A outer s H args us vs Q E hr e0 hb r hsp=> ?_⟩;have hl:=len _ _ _ _ hsp;have KX:K.In s.heap:=e0.mod.kin.keeps fun b o e=>(e0.bs b o e).1;have lim:s.heap.NoLimit:=e0.mod.nolimit.keeps fun b o e=>(e0.bs b o e).1;have hkind:∀y∈ps.zip us,scope.names.lookup y.1=some .local\/(scope.names.lookup y.1=some .cell/\((cellsFrom (s.heap.objs.size+1) scope.names []).lookup y.1).isSome=true):=fun⟨n,v⟩ hy=>by
  rcases S.par n (D4 hy).1 with q | q
  · exact .inl q
  · exact .inr ⟨q,JV _ _ _ (.inl q)⟩
 refine codeAny_call_function hr.depth (KX _ _ lk) rfl S.co S.gen rfl (PySem.W.codeRec_of KX hcd) (hb _ _ _ _ ?_);refine wpAny_newFunctionEnv_cells S.kind hkind fun env he s1 x=> ?_;subst he;refine⟨lim.keeps x.toInCall.keep,codeAny_func ?_⟩;obtain⟨t,ht,hq⟩:=hbody A outer s H vs Q E (hr.deeper _) hsp;have I:Inv (oS CX P w K mg base N qual scope f cdv A outer s H E) [] (jB N vs) H s1:=Bb S hr.hd e0 hl r x;refine bJ (ht [] s1 (jB N vs) H _ I hq) (fun fl s' hs=> ?_) fun e s' hs=>hs;have fin:∀{σ':St} {H':Hp} {v:V} {u:Value},Inv (oS CX P w K mg base N qual scope f cdv A outer s H E) [] σ' H' s'->RelV v u->Q v H'->CE outer P w H s Q u s':=
  fun {σ' H' v u} J rv q=>⟨v,H',J.os,J.bare,J.base,J.hok,rv,q⟩
 cases fl with
 | ret u=>
   obtain⟨v,σ',H',J,rv,q⟩:=hs;exact fin J rv q
 | next=>
   obtain⟨σ',H',J,q⟩:=hs;exact fin (v:=V.non) (u:=Value.none) J rfl q
 | brk=>
   obtain⟨_,_,_,q⟩:=hs;exact False.elim q
 | cont=>
   obtain⟨_,_,_,q⟩:=hs;exact False.elim q
section
def Kb(r:List V->Hp->VK->Prop)(t:TA):TE:=fun σ H Q=>t σ H fun vs H1=>r vs H1 Q
def dN{X:Cx}{x:Str}{p pos:Pos}{e:Expr}{es:List Expr}{t:TA}{id:String}{r:List V->Hp->VK->Prop}(hc:jZ X (.builtin id) r)(hg:Gl X x)(hm:X.mg x=none)(hv:bootBuiltins x=some (.builtin id))(ha:PA X (e::es) t)(hn:x≠"__name__":=by decide)(hdb:(x==("__debug__":Str))=false:=by decide)(he:starEach (e::es) X.env=(false,eval e X.env)::starEach es X.env:=by rfl)(hpl:(backTo pos (starEach es X.env)).any (·.1)=false:=by rfl):PE X (.Call (.Name x p) (e::es) [] pos) (Kb r t):=by
 intro pins s σ H Q I h;refine dm (qH I hg hm hv ?_ hn hdb);exact PyProof.Rows.callWith_builtin1 (cX (ha pos pins s σ H _ I h) fun us s1 ⟨vs,H1,I1,r1,q1⟩=>hc pins s1 σ H1 vs us Q I1 r1 q1) he hpl
def dM{X:Cx}{x:Str}{p pos:Pos}{e:Expr}{es:List Expr}{t:TA}{T:String}{r:List V->Hp->VK->Prop}(hc:jZ X (.type T) r)(hg:Gl X x)(hm:X.mg x=none)(hv:bootBuiltins x=some (.type T))(ha:PA X (e::es) t)(hn:x≠"__name__":=by decide)(hdb:(x==("__debug__":Str))=false:=by decide)(he:starEach (e::es) X.env=(false,eval e X.env)::starEach es X.env:=by rfl)(hpl:(backTo pos (starEach es X.env)).any (·.1)=false:=by rfl):PE X (.Call (.Name x p) (e::es) [] pos) (Kb r t):=by
 intro pins s σ H Q I h;refine dm (qH I hg hm hv ?_ hn hdb);exact jX (cX (ha pos pins s σ H _ I h) fun us s1 ⟨vs,H1,I1,r1,q1⟩=>hc pins s1 σ H1 vs us Q I1 r1 q1) he hpl
end
end L2
namespace HT
open PySem PyProof.Rows
section
open PySem.SeqAt
open PySem.AutoSeq1 (wpAny_loadPart')
open PySem.MeetsSeq PySem.MeetsSeq2 PySem.MeetsSeq3
end
section
noncomputable def sIx(n d:Nat):Option Int->Nat
 | none=>d
 | some v=>if v<0 then(v+(n:Int)).toNat else min v.toNat n
def sIx_nat(n d k:Nat):sIx n d (some (k:Int))=min k n:=by
 show(if(k:Int)<0 then((k:Int)+(n:Int)).toNat else min (k:Int).toNat n)=min k n;rw[aG (by lia),bW]
def sIx_le(n d:Nat)(hd:d<=n)(o:Option Int):sIx n d o<=n:=by
 cases o with
 | none=>exact hd
 | some v=>
   show(if v<0 then(v+(n:Int)).toNat else min v.toNat n)<=n;by_cases hv:v<0
   · rw[aK hv];lia
   · rw[aG hv];exact Nat.min_le_right _ _
def clip_eq(v:Int)(n d:Nat):(if v<0 then max (v+(n:Int)) 0 else min v (n:Int))=((sIx n d (some v):Nat):Int):=by
 show(if v<0 then max (v+(n:Int)) 0 else min v (n:Int))=(((if v<0 then(v+(n:Int)).toNat else min v.toNat n):Nat):Int);by_cases hv:v<0
 · simp only[aK hv];lia
 · simp only[aG hv];lia
def yR(lo hi:Option Int)(n:Nat):Builtin.Slice.sliceAdjust lo hi 1 (n:Int)=(((sIx n 0 lo:Nat):Int),((sIx n n hi:Nat):Int)):=by
 have h1:¬ ((1:Int)<0):=by lia
 unfold Builtin.Slice.sliceAdjust;simp only[h1,Ft];refine Prod.ext ?_ ?_
 · cases lo with
   | none=>rfl
   | some v=>exact clip_eq v n 0
 · cases hi with
   | none=>rfl
   | some v=>exact clip_eq v n n
def yd(i j:Nat):Builtin.Slice.slicePlaces (i:Int) (j:Int) 1=j - i:=by
 unfold Builtin.Slice.slicePlaces;have h1:(1:Int)>0:=by lia
 simp only[h1,jR,Int.ediv_one]
 split<;>lia
def qh(p:IsPart v o)(h:Q o s):wpAny (model prog w) A (Builtin.Slice.slicePartIndex v) Q E s:=by
 cases p with
 | none=>exact slicePart_none h
 | int i t=>exact slicePart_int h
def nk{lo:Option Int}{n:Nat}(hs:s.heap.IsSliceOf sl vl vu .none)(pl:IsPart vl lo)(pu:IsPart vu hi)(h:Q (((sIx n 0 lo:Nat):Int),1,sIx n n hi - sIx n 0 lo) s):wpAny (model prog w) A (Builtin.Slice.sliceApplied (.ref sl) (pure (n:Int))) Q E s:=by
 obtain⟨os,hos,hcs,hds⟩:=id hs;unfold Builtin.Slice.sliceApplied Builtin.Slice.sliceFields;refine aa (aa (bT hos hds (x:=vl) rfl (aa (bT hos hds (x:=vu) rfl (aa (bT hos hds (x:= .none) rfl (aA ?_)))))));refine aa (slicePart_none ?_);show wpAny _ _ (if((1:Int)==0)=true then _ else _) _ _ s;rw[aG (by decide)];refine aa (qh pl (aa (qh pu (aa (aA ?_)))));show wpAny _ _ (match Builtin.Slice.sliceAdjust lo hi 1 (n:Int) with | (lo,hi)=>pure (lo,(1:Int),Builtin.Slice.slicePlaces lo hi 1)) _ _ s;rw[yR lo hi n];show wpAny _ _ (pure (((sIx n 0 lo:Nat):Int),(1:Int),Builtin.Slice.slicePlaces ((sIx n 0 lo:Nat):Int) ((sIx n n hi:Nat):Int) 1)) _ _ s;rw[yd];exact aA h
def Cp(xs:Array Value)(i k:Nat):((List.range k).filterMap fun(m:Nat)=>xs[((i:Int)+(m:Int) * 1).toNat]?).toArray=((xs.toList.drop i).take k).toArray:=by
 have e:(fun(m:Nat)=>xs[((i:Int)+(m:Int) * 1).toNat]?)=fun m=>xs[i+m]? :=by
  funext m
  have:((i:Int)+(m:Int) * 1).toNat=i+m:=by lia
  rw[this]
 rw[e];have:=pick_run xs i k;rw[MH] at this;have e2:((fun x=>xs[x]?)∘fun x=>i+x)=fun m=>xs[i+m]? :=rfl;rw[e2] at this;rw[this]
def getItem_tuple_cut{lo:Option Int}(ht:IsTup s.heap t items)(hs:s.heap.IsSliceOf sl vl vu .none)(pl:IsPart vl lo)(pu:IsPart vu hi)(hw:¬ (sIx items.size 0 lo=0/\sIx items.size items.size hi=items.size))(h:Q (.ref s.heap.objs.size) {s with heap:=s.heap.push {cls:= .type "tuple",data:= .seq ((items.toList.drop (sIx items.size 0 lo)).take (sIx items.size items.size hi - sIx items.size 0 lo)).toArray}})(hsz:items.size<=sizeLine):wpAny (model prog w) A (getItem (.ref t) (.ref sl)) Q E s:=by
 have htake:sizeOk (.seq ((items.toList.drop (sIx items.size 0 lo)).take (sIx items.size items.size hi - sIx items.size 0 lo)).toArray):=by
  show((items.toList.drop (sIx items.size 0 lo)).take (sIx items.size items.size hi - sIx items.size 0 lo)).toArray.size<=sizeLine;rw[aQ,cS,iM,jv]
  lia
 have hj:sIx items.size items.size hi<=items.size:=sIx_le _ _ (aq _) hi;obtain⟨os,hos,hcs,hds⟩:=id hs;have hTs:s.TypeIs (.ref sl) "slice":=⟨os,hos,hcs⟩;unfold getItem
 try with_reducible refine cK ?_
 first | refine aa (aA ?_) | skip
 refine aa (wpAny_sequenceKey ht.typeIs (by decide) ?_);refine aa (eQ (name:=Str.ofString "__getitem__") ht.typeIs ir (iC ir ht.typeIs entry_tuple_getitem ?_ (args_tuple_getitem _ _)));show wpAny _ _ (Builtin.Tuple.tupleItemsOf (.ref t)>>=_) _ _ s;refine aa (tupleItemsOf_ ht ?_);refine aa (wpAny_typeOf hTs ?_);rw[aK (by decide)];refine aa (nk hs pl pu ?_);have hno:¬ ((((sIx items.size 0 lo:Nat):Int)==0&&(1:Int)==1&&(sIx items.size items.size hi - sIx items.size 0 lo)==items.size)=true):=by
  intro q;rw[ba,ba] at q;have q1:((sIx items.size 0 lo:Nat):Int)=0:=eq_of_beq q.1.1;have q2:sIx items.size items.size hi - sIx items.size 0 lo=items.size:=eq_of_beq q.2;exact hw ⟨by lia,by lia⟩
 show wpAny _ _ (if(((sIx items.size 0 lo:Nat):Int)==0&&(1:Int)==1&&(sIx items.size items.size hi - sIx items.size 0 lo)==items.size)=true then _ else _) _ _ s;rw[aG hno,Cp]
 first
  | exact aa (m:=Builtin.Tuple.tupleExact _) (cI (aA ⟨_,rfl,aA h⟩) htake)
  | exact aa (m:=Builtin.Tuple.tupleExact _) (cI (aa (aA (aA ⟨_,rfl,aA h⟩))) htake)
  | exact aa (aa (m:=Builtin.Tuple.tupleExact _) (cI (aA (aA ⟨_,rfl,aA h⟩)) htake))
  | exact aa (aa (m:=Builtin.Tuple.tupleExact _) (cI (aA ⟨_,rfl,aA h⟩) htake))
end
end HT
namespace L2
open PySem PySem.Spec PyProof.Rows
abbrev TO:=St->Hp->(Option Int->Hp->Prop)->Prop
def PO(X:Cx)(e:Option Expr)(t:TO):Prop:=∀(pins:List (Addr × Obj)) (s:Shared) (σ:St) (H:Hp) (Q:Option Int->Hp->Prop),Inv X pins σ H s->t σ H Q->wpAny (model X.prog X.w) X.A (evalPart e X.env) (fun u s'=>∃o H',Inv X pins σ H' s'/\IsPart u o/\Q o H') X.xe s
def Ek:TO:=fun _ H Q=>Q none H
def Jd(t:TE):TO:=fun σ H Q=>t σ H fun x H1=>∃i,x= .int i/\Q (some i) H1
section
def gE:PO X none Ek:=by
 intro pins s σ H Q I h;rw[evalPart_none];exact aA ⟨none,H,I,.none,h⟩
def fC(h:PE X e te):PO X (some e) (Jd te):=by
 intro pins s σ H Q I hw;rw[evalPart_some];refine cX (h pins s σ H _ I hw) fun u s1 ⟨x,H1,I1,r1,q1⟩=> ?_;obtain⟨i,rfl,q⟩:=q1;obtain⟨t,rfl⟩:=r1;exact⟨some i,H1,I1,.int i t,q⟩
def Kl(X:Cx)(r:V->Option Int->Option Int->Hp->VK->Prop):Prop:=∀(pins:List (Addr × Obj)) (s:Shared) (σ:St) (H:Hp) (x:V) (v vl vu:Value) (lo hi:Option Int) (sl:Addr) (Q:VK),Inv X pins σ H s->RelV x v->s.heap.IsSliceOf sl vl vu .none->IsPart vl lo->IsPart vu hi->r x lo hi H Q->∃T id,typeLookup (.type T) "__getitem__"=pure (some (.builtin id))/\s.TypeIs v T/\wpAny (model X.prog X.w) X.A (getItem v (.ref sl)) (EP X pins σ Q) X.xe s
def Mf(r:V->Option Int->Option Int->Hp->VK->Prop)(te:TE)(tl th:TO):TE:=fun σ H Q=>te σ H fun x H1=>tl σ H1 fun l H2=>th σ H2 fun u H3=>r x l u H3 Q
def fb{lo:Option Expr}(hr:Kl X r)(he:PE X e te)(hl:PO X lo tl)(hu:PO X hi th):PE X (.Subscript e (.Slice lo hi none p2) pos) (Mf r te tl th):=by
 intro pins s σ H Q I h;refine MC (cX (he pins s σ H _ I h) fun v s1 ⟨x,H1,I1,r1,q1⟩=> ?_);refine wpAny_Slice (cX (hl pins s1 σ H1 _ I1 q1) fun vl s2 ⟨l,H2,I2,pl,q2⟩=>cX (hu pins s2 σ H2 _ I2 q2) fun vu s3 ⟨u,H3,I3,pu,q3⟩=> ?_);rw[evalPart_none];refine aA ?_;have I4:Inv X pins σ H3 {s3 with heap:=s3.heap.push {cls:= .type "slice",data:= .fields #[vl,vu,.none]}}:=I3.kept (t':=s3.toks) fun b ob q=>ar _ q;obtain⟨T,id,hT,ht,hg⟩:=hr pins {s3 with heap:=s3.heap.push {cls:= .type "slice",data:= .fields #[vl,vu,.none]}} σ H3 x v vl vu l u s3.heap.objs.size Q I4 r1 (Heap.IsSliceOf.new ..) pl pu q3;show wpAny (model X.prog X.w) X.A (subscriptTail e (.Slice lo hi none p2) v (.ref s3.heap.objs.size)) (EP X pins σ Q) X.xe {s3 with heap:=s3.heap.push {cls:= .type "slice",data:= .fields #[vl,vu,.none]}};exact tail_any (ops:=[.ref s3.heap.objs.size,v]) ht hT hg (by with_unfolding_all rfl)
noncomputable def rP(xs:List V)(lo hi:Option Int):List V:=(xs.drop (HT.sIx xs.length 0 lo)).take (HT.sIx xs.length xs.length hi - HT.sIx xs.length 0 lo)
def oJ(xs:List V)(lo hi:Option Int):(rP xs lo hi).length<=xs.length:=by
 unfold rP;rw[cS,iM]
 lia
def KY(K:Frag):V->Option Int->Option Int->Hp->VK->Prop:=fun x lo hi H Q=>∃a xs,x= .ref a/\SqT K H a xs/\¬ (HT.sIx xs.length 0 lo=0/\HT.sIx xs.length xs.length hi=xs.length)/\∀p,H p=none->Q (.ref p) (upd H p (.tup (rP xs lo hi)))
def tO:Kl X (KY X.K):=by
 intro pins s σ H x v vl vu lo hi sl Q I rx hs pl pu h;obtain⟨a,xs,rfl,hx,hw,q⟩:=h;cases rx;obtain⟨its,r,ht,hz⟩:=I.tuple hx;have hlen:its.toArray.size=xs.length:=by rw[aQ];exact r.length.symm
 refine⟨"tuple",_,ir.lookup,ht.typeIs,?_⟩;refine HT.getItem_tuple_cut ht hs pl pu (by rw[hlen];exact hw) ?_ (by rw[hlen];exact hz);rw[hlen];refine⟨.ref s.heap.objs.size,_,I.laid (t':=s.toks) (o:= .tup (rP xs lo hi)) (fun b ob q=>ar _ q) (aq _) ?_,rfl,q _ (I.hok.fresh (aq _))⟩;exact⟨ao (oJ xs lo hi) hz,_,(r.drop (HT.sIx xs.length 0 lo)).take (HT.sIx xs.length xs.length hi - HT.sIx xs.length 0 lo),IsTup.new _ _⟩
end
noncomputable def Fp(n:Nat)(i:Int):Option Nat:=if 0<=i then(if i<n then some i.toNat else none) else if -(n:Int)<=i then some (i+n).toNat else none
noncomputable def rB{α:Type}(xs:List α)(i:Int):Option α:=(Fp xs.length i).bind fun j=>xs[j]?
def Fo(h:Fp n i=some j):seqIndex? i n=some j/\j<n/\ -(n:Int)<=i/\i<n:=by
 unfold Fp at h;by_cases h0:0<=i
 · rw[aK h0] at h;by_cases h1:i<n
   · rw[aK h1] at h;have e:i.toNat=j:=d_ h;exact⟨by rw[seqIndex_of h0 h1,e],by lia,by lia,h1⟩
   · rw[aG h1] at h;cases h
 · rw[aG h0] at h;by_cases h1: -(n:Int)<=i
   · rw[aK h1] at h;have e:(i+n).toNat=j:=d_ h;exact⟨by rw[seqIndex_neg (by lia) h1,e],by lia,h1,by lia⟩
   · rw[aG h1] at h;cases h
def u7{v:α}(h:rB xs i=some v):∃j,seqIndex? i xs.length=some j/\xs[j]? =some v/\j<xs.length/\ -(xs.length:Int)<=i/\i<xs.length:=by
 unfold rB at h;cases e:Fp xs.length i with
 | none=>rw[e] at h;cases h
 | some j=>
   rw[e] at h;obtain⟨h1,h2,h3,h4⟩:=Fo e;exact⟨j,h1,h,h2,h3,h4⟩
def aX{j:Nat}{v:α}(h:xs[j]? =some v):rB xs (j:Int)=some v:=by
 have hj:j<xs.length:=(bp.mp h).1;have e:Fp xs.length (j:Int)=some j:=by
  unfold Fp;rw[aK (by lia),aK (by lia)];simp
 unfold rB;rw[e];exact h
def atI_last(xs:List α)(v:α):rB (xs++[v]) (-1)=some v:=by
 have hl:(xs++[v]).length=xs.length+1:=by simp
 have e:Fp (xs++[v]).length (-1)=some xs.length:=by
  unfold Fp;rw[hl,aG (by decide),aK (by lia)]
  congr 1
  lia
 unfold rB;rw[e];show(xs++[v])[xs.length]? =some v;simp
def Am(b:Expr):Prop:=∀o i,subscripted b false o i=operate [o,i] (getItem o i)
def J7(X:Cx)(r:R2):Prop:=∀(value slice:Expr) (pins:List (Addr × Obj)) (s:Shared) (σ:St) (H:Hp) (x y:V) (v u:Value) (Q:VK),Inv X pins σ H s->RelV x v->RelV y u->r x y H Q->subscripted slice false v u=operate [v,u] (getItem v u)->wpAny (model X.prog X.w) X.A (subscriptTail value slice v u) (EP X pins σ Q) X.xe s
def J1(X:Cx)(id:String)(r:V->List V->Hp->VK->Prop):Prop:=∀(pins:List (Addr × Obj)) (s:Shared) (σ:St) (H:Hp) (x:V) (xs:List V) (v:Value) (us:List Value) (Q:VK),Inv X pins σ H s->RelV x v->Vals xs us->r x xs H Q->wpAny (model X.prog X.w) X.A (call (.builtin id) (v::us)) (EP X pins σ Q) X.xe s
section
def kK(hr:J7 X r)(ha:PE X a ta)(hb:PE X b tb)(hs:Am b):PE X (.Subscript a b pos) (BP r ta tb):=by
 intro pins s σ H Q I h;exact MC (Iq ha hb I h fun v u s2 x y H2 I2 rx ry q=>hr a b pins s2 σ H2 x y v u Q I2 rx ry q (hs _ _))
inductive Ce(K:Frag)(H:Hp)(Q:VK)(p:Addr)(i:Int):Prop
 | mk:∀xs v,(SqL K H p xs)->(rB xs i=some v)->(Q v H)->Ce K H Q p i
def Jw(K:Frag):R2:=fun x y H Q=>onR x fun p=>onI y fun i=>Ce K H Q p i
inductive ya(K:Frag)(H:Hp)(Q:VK)(p:Addr)(i:Int):Prop
 | mk:∀xs v,(SqT K H p xs)->(rB xs i=some v)->(Q v H)->ya K H Q p i
def Cd(K:Frag):R2:=fun x y H Q=>onR x fun p=>onI y fun i=>ya K H Q p i
def K3:R2:=fun x y H Q=>∃z i c,x= .str z/\y= .int i/\z.length<=sizeLine/\rB z.cps.toList i=some c/\Q (.str ⟨#[c]⟩) H
def bS:J7 X (Jw X.K):=by
 intro value slice pins s σ H x y v u Q I rx ry h hs;obtain⟨p,rfl,h'⟩:=onR.ex h;obtain⟨i,rfl,xs,z,hq,he,q⟩:=onI.ex h';cases rx;obtain⟨t,rfl⟩:=ry;obtain⟨its,r,pl,hz⟩:=I.list hq;obtain⟨j,h1,h2,h3,h4,h5⟩:=u7 he;obtain⟨w,ew,rw'⟩:=r.get h2;have hl:=r.length;have hn:=nH;have fin:EP X pins σ Q w s:=⟨z,H,I,rw',q⟩;by_cases h0:0<=i
 · have hj:i.toNat=j:=by
    rw[seqIndex_of h0 h5] at h1;exact d_ h1
   exact item_listR pl.isList h0 (by lia) (by rw[hj];simpa using ew) fin hs
 · have hj:(i+(its.toArray.size:Int)).toNat=j:=by
    rw[seqIndex_neg (by lia) h4] at h1;rw[aQ,<-hl];exact d_ h1
   exact Jk (x:=w) pl.isList.typeIs MN.lookup (wpAny_getItem_list_neg (Q:=fun r s'=>r=w/\EP X pins σ Q r s') pl.isList (by lia) (by rw[aQ]<;>lia) (by lia) (by rw[hj];simpa using ew) ⟨rfl,fin⟩) hs
def jb:J7 X (Cd X.K):=by
 intro value slice pins s σ H x y v u Q I rx ry h hs;obtain⟨p,rfl,h'⟩:=onR.ex h;obtain⟨i,rfl,xs,z,hq,he,q⟩:=onI.ex h';cases rx;obtain⟨t,rfl⟩:=ry;obtain⟨its,r,pl,hz⟩:=I.tuple hq;obtain⟨j,h1,h2,h3,h4,h5⟩:=u7 he;obtain⟨w,ew,rw'⟩:=r.get h2;have hl:=r.length;have hn:=nH;have fin:EP X pins σ Q w s:=⟨z,H,I,rw',q⟩;exact Jk (x:=w) pl.typeIs slot_tuple_getitem.lookup
  (getItem_tuple (j:=j) (Q:=fun r s'=>r=w/\EP X pins σ Q r s') pl (by lia) (by lia) (by rw[aQ,<-hl];exact h1) (by simpa using ew) ⟨rfl,fin⟩) hs
def uO:J7 X K3:=by
 intro value slice pins s σ H x y v u Q I rx ry h hs;obtain⟨z,i,c,rfl,rfl,hz,he,q⟩:=h;obtain⟨t,rfl⟩:=rx;obtain⟨t',rfl⟩:=ry;obtain⟨j,h1,h2,h3,h4,h5⟩:=u7 he;have hl:z.cps.toList.length=z.length:=by simp[Str.length]
 rw[hl] at h1 h4 h5;have hn:=nH;exact tail_any (Md s z t) slot_str_getitem.lookup (getItem_str (c:=c) (by
  have e1:decide (i< -(2^63:Int))=false:=ag (by lia);have e2:decide (i≥2^63)=false:=ag (by lia);rw[e1,e2,IG]) (by rw[h1];simpa using h2) ⟨.str ⟨#[c]⟩,H,I.tok _,⟨_,rfl⟩,q⟩) hs
def tM(lo hi:Option Int)(n:Nat):(sliceBounds lo hi none n).1=((HT.sIx n 0 lo:Nat):Int)/\(sliceBounds lo hi none n).2.1=((HT.sIx n n hi:Nat):Int)/\(sliceBounds lo hi none n).2.2=1:=by
 refine⟨?_,?_,rfl⟩
 · cases lo with
   | none=>simp[sliceBounds,HT.sIx]
   | some i=>
     simp only[sliceBounds,HT.sIx,Option.getD_none,show(1:Int)>0 by decide,jR];by_cases h:i<0
     · simp only[h,jR]<;>lia
     · simp only[h,Ft]<;>lia
 · cases hi with
   | none=>simp[sliceBounds,HT.sIx]
   | some i=>
     simp only[sliceBounds,HT.sIx,Option.getD_none,show(1:Int)>0 by decide,jR];by_cases h:i<0
     · simp only[h,jR]<;>lia
     · simp only[h,Ft]<;>lia
def rH(its:List Value)(lo hi:Option Int):slicePick its.toArray lo hi none=((its.drop (HT.sIx its.length 0 lo)).take (HT.sIx its.length its.length hi - HT.sIx its.length 0 lo)).toArray:=by
 obtain⟨h1,h2,h3⟩:=tM lo hi its.toArray.size;unfold slicePick;rw[h1,h2,h3];simp only[sliceRange_one,pick_run,aQ]<;>rfl
def K0(K:Frag):V->Option Int->Option Int->Hp->VK->Prop:=fun x lo hi H Q=>∃a xs,x= .ref a/\SqL K H a xs/\∀p,H p=none->Q (.ref p) (upd H p (.lst (rP xs lo hi)))
def Es:Kl X (K0 X.K):=by
 intro pins s σ H x v vl vu lo hi sl Q I rx hs pl pu h;obtain⟨a,xs,rfl,hx,q⟩:=h;cases rx;obtain⟨its,r,ht,hz⟩:=I.list hx;have hlen:=r.length;refine⟨"list",_,MN.lookup,ht.isList.typeIs,?_⟩;refine wpAny_getItem_list_slice ht.isList hs pl pu .none (by simp) ?_ (by rw[aQ]<;>lia);rw[rH,<-hlen];refine⟨.ref s.heap.objs.size,_,I.laid (t':=s.toks) (o:= .lst (rP xs lo hi)) (fun b ob q=>ar _ q) (aq _) ?_,rfl,q _ (I.hok.fresh (aq _))⟩;exact⟨ao (oJ xs lo hi) hz,_,0,(r.drop (HT.sIx xs.length 0 lo)).take (HT.sIx xs.length xs.length hi - HT.sIx xs.length 0 lo),aU _ rfl⟩
noncomputable def jS:V->Bool
 | .non=>true
 | .bl _=>true
 | .int _=>true
 | .str _=>true
 | _=>false
noncomputable def DF:V->V->Bool
 | .non,.non=>true
 | .bl a,.bl b=>a==b
 | .bl a,.int b=>(if a then 1 else 0)==b
 | .int a,.bl b=>a==(if b then 1 else 0)
 | .int a,.int b=>a==b
 | .str a,.str b=>a==b
 | _,_=>false
def Ii(ry:RelV y u)(rx:RelV x v)(fy:jS y=true)(fx:jS x=true):SeqAt.EqAt A s u v (DF y x):=by
 cases y with
 | non=>
   cases ry;cases x with
   | non=>cases rx;exact SeqAt.EqAt.same _
   | bl b=>cases rx;exact SeqAt.EqAt.none_bool b
   | int b=>obtain⟨t,rfl⟩:=rx;exact SeqAt.EqAt.none_int b t
   | str b=>obtain⟨t,rfl⟩:=rx;exact SeqAt.EqAt.none_str b t
   | _=>exact absurd (show false=true from fx) aP
 | bl a=>
   cases ry;cases x with
   | non=>cases rx;exact SeqAt.EqAt.bool_none a
   | bl b=>cases rx;exact SeqAt.EqAt.bool_bool a b
   | int b=>obtain⟨t,rfl⟩:=rx;exact SeqAt.EqAt.bool_int a b t
   | str b=>obtain⟨t,rfl⟩:=rx;exact SeqAt.EqAt.bool_str a b t
   | _=>exact absurd (show false=true from fx) aP
 | int a=>
   obtain⟨t',rfl⟩:=ry;cases x with
   | non=>cases rx;exact SeqAt.EqAt.int_none a t'
   | bl b=>cases rx;exact SeqAt.EqAt.int_bool a t' b
   | int b=>obtain⟨t,rfl⟩:=rx;exact SeqAt.EqAt.int_int a t' b t
   | str b=>obtain⟨t,rfl⟩:=rx;exact ME a t' b t
   | _=>exact absurd (show false=true from fx) aP
 | str a=>
   obtain⟨t',rfl⟩:=ry;cases x with
   | non=>cases rx;exact SeqAt.EqAt.str_none a t'
   | bl b=>cases rx;exact SeqAt.EqAt.str_bool a t' b
   | int b=>obtain⟨t,rfl⟩:=rx;exact MD a t' b t
   | str b=>obtain⟨t,rfl⟩:=rx;exact SeqAt.EqAt.str_str a t' b t
   | _=>exact absurd (show false=true from fx) aP
 | _=>exact absurd (show false=true from fy) aP
noncomputable def yN(x:V)(u:Value):Bool:=match u with
 | .none=>DF .non x
 | .bool b=>DF (.bl b) x
 | .int i _=>DF (.int i) x
 | .str z _=>DF (.str z) x
 | _=>false
def DG(r:RelV y u)(f:jS y=true):yN x u=DF y x:=by
 cases y with
 | non=>cases r;rfl
 | bl b=>cases r;rfl
 | int i=>obtain⟨t,rfl⟩:=r;rfl
 | str z=>obtain⟨t,rfl⟩:=r;rfl
 | _=>exact absurd (show false=true from f) aP
theorem mQ:∀{xs:List V} {us:List Value},Vals xs us->xs.all jS=true->us.any (yN x)=xs.any fun y=>DF y x
 | _,_,.nil,_=>rfl
 | y::xs,u::us,.cons r t,f=>by
   rw[fq,ba] at f;rw[iQ,iQ,DG r f.1,mQ t f.2]
theorem jP(rx:RelV x v)(fx:jS x=true):∀{xs:List V} {us:List Value},Vals xs us->xs.all jS=true->∀u∈us,SeqAt.EqAt A s u v (yN x u)
 | _,_,.nil,_=>fun u hu=>by cases hu
 | y::xs,u::us,.cons r t,f=>fun u' hu=>by
   rw[fq,ba] at f;rcases aL.mp hu with rfl | hu
   · rw[DG r f.1];exact Ii r rx f.1 fx
   · exact jP rx fx t f.2 u' hu
noncomputable def BC(x:V)(xs:List V):Bool:=xs.any fun y=>DF y x
def LM(K:Frag)(neg:Bool):R2:=fun x y H Q=>∃p xs,y= .ref p/\(SqL K H p xs\/SqT K H p xs)/\jS x=true/\xs.all jS=true/\Q (.bl (if neg then !BC x xs else BC x xs)) H
def nF:ju X (compareOp .In) (LM X.K false):=by
 intro pins s σ H x y v u Q I rx ry h;obtain⟨p,xs,rfl,hq,fx,fs,q⟩:=h;cases ry;rcases hq with hq | hq
 · obtain⟨its,r,pl,hz⟩:=I.list hq;refine SeqAt.in_listAt (yN x) pl.isList (fun w hw=>jP rx fx r fs w (by simpa using hw)) ⟨.bl _,H,I,rfl,?_⟩;rw[show its.toArray.any (yN x)=its.any (yN x) by simp,mQ r fs];exact q
 · obtain⟨its,r,pl,hz⟩:=I.tuple hq;refine SeqAt.in_tupleAt (yN x) pl (fun w hw=>jP rx fx r fs w (by simpa using hw)) ⟨.bl _,H,I,rfl,?_⟩;rw[show its.toArray.any (yN x)=its.any (yN x) by simp,mQ r fs];exact q
def my:ju X (compareOp .NotIn) (LM X.K true):=by
 intro pins s σ H x y v u Q I rx ry h;obtain⟨p,xs,rfl,hq,fx,fs,q⟩:=h;cases ry;rcases hq with hq | hq
 · obtain⟨its,r,pl,hz⟩:=I.list hq;refine SeqAt.notIn_listAt (yN x) pl.isList (fun w hw=>jP rx fx r fs w (by simpa using hw)) ⟨.bl _,H,I,rfl,?_⟩;rw[show its.toArray.any (yN x)=its.any (yN x) by simp,mQ r fs];exact q
 · obtain⟨its,r,pl,hz⟩:=I.tuple hq;refine SeqAt.notIn_tupleAt (yN x) pl (fun w hw=>jP rx fx r fs w (by simpa using hw)) ⟨.bl _,H,I,rfl,?_⟩;rw[show its.toArray.any (yN x)=its.any (yN x) by simp,mQ r fs];exact q
def mO:jZ X (.builtin "len") (fun xs H Q=>∃p ys,xs=[.ref p]/\(SqL X.K H p ys\/SqT X.K H p ys)/\Q (.int ys.length) H):=by
 intro pins s σ H xs us Q I r h;obtain⟨p,ys,rfl,hq,q⟩:=h;obtain⟨u,rfl,rx⟩:=vA r;cases rx;have hn:=nH;rcases hq with hq | hq
 · obtain⟨its,r',pl,hz⟩:=I.list hq;have hlen:=r'.length;exact Calls.call_len_list pl.isList (by simp only[aQ]<;>lia) ⟨.int ys.length,H,I.tok _,⟨s.toks+1,by rw[aQ,hlen]⟩,q⟩
 · obtain⟨its,r',pl,hz⟩:=I.tuple hq;have hlen:=r'.length;exact len_tuple pl (by simp only[aQ]<;>lia) ⟨.int ys.length,H,I.tok _,⟨s.toks+1,by rw[aQ,hlen]⟩,q⟩
def uZ:jZ X (.builtin "len") (fun xs H Q=>∃z,xs=[.str z]/\z.length<=sizeLine/\Q (.int z.length) H):=by
 intro pins s σ H xs us Q I r h;obtain⟨z,rfl,hz,q⟩:=h;obtain⟨u,rfl,t,rfl⟩:=vA r;have hn:=nH;exact len_str (by lia) ⟨.int z.length,H,I.tok _,⟨_,rfl⟩,q⟩
def fH:jZ X (.type "list") (fun xs H Q=>∃p ys,xs=[.ref p]/\(SqL X.K H p ys\/SqT X.K H p ys)/\∀l,H l=none->Q (.ref l) (upd H l (.lst ys))):=by
 intro pins s σ H xs us Q I r h;obtain⟨p,ys,rfl,hq,q⟩:=h;obtain⟨u,rfl,rx⟩:=vA r;cases rx;have fin:∀(its:List Value),Vals ys its->ys.length<=sizeLine->∀(h':Heap) (c':Nat),(∀b o',s.heap.get? b=some o'->h'.get? b=some o')->
  h'.get? s.heap.objs.size=some {cls:= .type "list",dict:=none,data:= .seq its.toArray c',slots:= #[]}->EP X pins σ Q (.ref s.heap.objs.size) {s with heap:=h'}:=fun its r' hz h' c' kp e=>
  ⟨.ref s.heap.objs.size,_,I.laid (t':=s.toks) kp (aq _) (show ObjOk X.prog X.w _ h' _ (.lst ys) from⟨hz,its,c',r',e⟩),rfl,q _ (I.hok.fresh (aq _))⟩
 rcases hq with hq | hq
 · obtain⟨its,r',pl,hz⟩:=I.list hq;have hlen:=r'.length;obtain⟨o,ho,hc,n,hd⟩:=pl.isList;exact call_list_seq p (.inl rfl) ho hc hd (fun h' c' kp e=>fin its r' hz h' c' kp e) (by simp only[aQ]<;>lia)
 · obtain⟨its,r',pl,hz⟩:=I.tuple hq;have hlen:=r'.length;obtain⟨o,ho,hc,n,hd⟩:=pl;exact call_list_seq p (.inr rfl) ho hc hd (fun h' c' kp e=>fin its r' hz h' c' kp e) (by simp only[aQ]<;>lia)
def Kw(K:Frag)(T:String)(x:V)(H:Hp):Prop:=match x with
 | .str _=>T="str"
 | .int _=>T="int"
 | .ref p=>(T="list"/\∃xs,SqL K H p xs)\/(T="tuple"/\∃o,K.lookup p=some o/\o.cls= .type "tuple"/\o.dict=none)\/(T="dict"/\((∃kvs,H p=some (.dK kvs))\/∃kvs,H p=some (.dT kvs)))\/(T="set"/\∃S n,H p=some (.set S n))
 | _=>False
def BK{σ:St}(I:Inv X pins σ H s)(r:RelV x v)(ty:Kw X.K T x H):s.TypeIs v T/\∀a,v= .ref a->∃ob,s.heap.get? a=some ob/\ob.dict=none:=by
 cases x with
 | str z=>
   obtain⟨t,rfl⟩:=r;cases(show T="str" from ty);exact⟨Md s z t,fun _ e=>nomatch e⟩
 | int i=>
   obtain⟨t,rfl⟩:=r;cases(show T="int" from ty);exact⟨typeIs_int s i t,fun _ e=>nomatch e⟩
 | ref p=>
   cases r;rcases ty with⟨rfl,xs,hq⟩ | ⟨rfl,o,hk,hc,hd⟩ | ⟨rfl,hk⟩ | ⟨rfl,S,n,hk⟩
   · obtain⟨its,_,pl,_⟩:=I.list hq;refine⟨pl.isList.typeIs,fun a e=> ?_⟩;cases e;obtain⟨o,n,e,c,hd,_⟩:=pl;exact⟨o,e,hd⟩
   · refine⟨⟨o,I.kIn p o hk,hc⟩,fun a e=> ?_⟩;cases e;exact⟨o,I.kIn _ o hk,hd⟩
   · have z:∃o,s.heap.get? p=some o/\o.ExactDict:=by
      rcases hk with⟨kvs,hk⟩ | ⟨kvs,hk⟩
      · obtain⟨_,_,_,_,o,_,_,e,ex,_⟩:=I.hok p _ hk;exact⟨o,e,ex⟩
      · obtain⟨_,_,_,_,o,_,_,e,ex,_⟩:=I.hok p _ hk;exact⟨o,e,ex⟩
     obtain⟨o,e,ex⟩:=z;refine⟨⟨o,e,ex.1⟩,fun a e2=> ?_⟩;cases e2;exact⟨o,e,ex.2.1⟩
   · obtain⟨o,_,_,_,e,ex,_⟩:=I.hok p _ hk;refine⟨⟨o,e,ex.1⟩,fun a e2=> ?_⟩;cases e2;exact⟨o,e,ex.2.1⟩
 | _=>exact False.elim ty
def Ji(K:Frag)(T:String)(r:V->List V->Hp->VK->Prop)(to:TE):TE:=fun σ H Q=>to σ H fun x H1=>Kw K T x H1/\r x [] H1 Q
def LJ(K:Frag)(T:String)(r:V->List V->Hp->VK->Prop)(to:TE)(t:TA):TE:=fun σ H Q=>to σ H fun x H1=>Kw K T x H1/\t σ H1 fun xs H2=>r x xs H2 Q
def yg{X:Cx}{o:Expr}{to:TE}{name:Str}{apos cpos:Pos}{T id:String}{r:V->List V->Hp->VK->Prop}(pa:PlainAttrs T)(slot:Slot T name id)(hty:typeOf (.builtin id)=pure (.type "method_descriptor"))(hm:J1 X id r)(ho:PE X o to)(hbase:attributeBase o name X.env (eval o X.env)=eval o X.env:=by rfl)(hline:(apos.endLine==cpos.line)=true:=by rfl):PE X (.Call (.Attribute o name apos) [] [] cpos) (Ji X.K T r to):=by
 intro pins s σ H Q I h;refine wpAny_Call_method0_late hbase hline (cX (ho pins s σ H _ I h) fun v s1 ⟨x,H1,I1,r1,ty,q1⟩=> ?_);obtain⟨h1,h2⟩:=BK I1 r1 ty;exact⟨T,id,pa,slot,hty,h1,h2,hG rfl (PySem.evalArgs_none (hm pins s1 σ H1 x [] v [] Q I1 r1 .nil q1))⟩
def Gb{X:Cx}{o e:Expr}{es:List Expr}{to:TE}{t:TA}{name:Str}{apos cpos:Pos}{T id:String}{r:V->List V->Hp->VK->Prop}(pa:PlainAttrs T)(slot:Slot T name id)(hty:typeOf (.builtin id)=pure (.type "method_descriptor"))(hm:J1 X id r)(ho:PE X o to)(ha:PA X (e::es) t)(hbase:attributeBase o name X.env (eval o X.env)=eval o X.env:=by rfl)(hfew:((backTo cpos (starEach (e::es) X.env)).all (fun x=> !x.1)&&(backToKw cpos (keywordEach [] X.env)).all (fun x=>x.1.isSome)&&decide ((e::es).length+([]:List Keyword).length+(if([]:List Keyword).isEmpty then 0 else 1)<30))=true:=by rfl) (hline:(apos.endLine==cpos.line)=true:=by rfl) (hs:starEach (e::es) X.env=(false,eval e X.env)::starEach es X.env:=by rfl) (hplain:(backTo cpos (starEach es X.env)).any (·.1)=false:=by rfl):PE X (.Call (.Attribute o name apos) (e::es) [] cpos) (LJ X.K T r to t):=by
 intro pins s σ H Q I h;refine wpAny_Call_method_late hbase hfew hline rfl (cX (ho pins s σ H _ I h) fun v s1 ⟨x,H1,I1,r1,ty,q1⟩=> ?_);obtain⟨h1,h2⟩:=BK I1 r1 ty;refine⟨T,id,pa,slot,hty,h1,h2,?_⟩;have hA:=ha cpos pins s1 σ H1 _ I1 q1;rw[hs] at hA⊢;refine hG (by show(false || (backTo cpos (starEach es X.env)).any (·.1))=false;rw[hplain]<;>rfl) (rT ?_);exact cX hA fun us s2 ⟨vs,H2,I2,r2,q2⟩=>hm pins s2 σ H2 x vs v us Q I2 r1 r2 q2
/- xs.append(e), list.index on a module's tuple .. are MtR facts of 06m -/
end
def Lx(X:Cx)(id:String)(r:V->List V->Hp->VK->Prop):Prop:=∀(pins:List (Addr × Obj)) (s:Shared) (σ:St) (H:Hp) (x:V) (xs:List V) (v:Value) (us:List Value) (Q:VK),Inv X pins σ H s->RelV x v->Vals xs us->r x xs H Q->wpAny (model X.prog X.w) X.A (call (.builtin id) (v::us)) (EP X pins σ Q) X.xe s
theorem Vals.one:∀{x:V} {us:List Value},Vals [x] us->∃u,us=[u]/\RelV x u
 | _,_,.cons r .nil=>⟨_,rfl,r⟩
theorem Vals.two:∀{x y:V} {us:List Value},Vals [x,y] us->∃u v,us=[u,v]/\RelV x u/\RelV y v
 | _,_,_,.cons r (.cons q .nil)=>⟨_,_,rfl,r,q⟩
theorem Vals.zero:∀{us:List Value},Vals [] us->us=[]
 | _,.nil=>rfl
def Vals.dropLast(h:Vals xs us):Vals xs.dropLast us.dropLast:=by
 induction h with
 | nil=>exact .nil
 | cons r t ih=>
   cases t with
   | nil=>exact .nil
   | cons q t'=>exact .cons r ih
def yM{α:Type}(l:List α):l.eraseIdx (l.length - 1)=l.dropLast:=by
 induction l with
 | nil=>rfl
 | cons a r ih=>
   cases r with
   | nil=>rfl
   | cons b r=>
     have e:(a::b::r).length - 1=((b::r).length - 1)+1:=by
      have h1:(a::b::r).length=r.length+2:=rfl;have h2:(b::r).length=r.length+1:=rfl
      lia
     rw[e,List.eraseIdx_cons_succ,ih]
     all_goals rfl
section
def Inv.lset{σ:St}{its:List Value}(I:Inv X pins σ H s)(hH:H l=some (.lst xs))(e:s.heap.get? l=some {cls:= .type "list",data:= .seq its.toArray n})(hf:f its.toArray=its'.toArray)(hv:Vals ys its')(hz:ys.length<=sizeLine):Inv X pins σ (upd H l (.lst ys)) {s with heap:=s.heap.update l (Obj.mapSeq f),toks:=t'}:=by
 have q:=PySem.IsL.update e f;rw[hf] at q;refine I.write (x:=l) (e:=l) (by rw[hH];exact trivial) (.inl rfl) (fun b' u hb hu=>(dF s.heap (Obj.mapSeq f) (bB hb)).trans hu) ⟨_,q⟩ ?_;exact⟨hz,its',_,hv,q⟩
def Inv.lnew{σ:St}(I:Inv X pins σ H s)(hv:Vals ys its)(hz:ys.length<=sizeLine):Inv X pins σ (upd H s.heap.objs.size (.lst ys)) {s with heap:=s.heap.push {cls:= .type "list",data:= .seq its.toArray},toks:=t'}:=I.laid (fun _ _ q=>ar _ q) (aq _) ⟨hz,its,0,hv,aU _ rfl⟩
def Inv.fresh{σ:St}(I:Inv X pins σ H s):H s.heap.objs.size=none:=I.hok.fresh (aq _)
def Inv.lstM{σ:St}(I:Inv X pins σ H s)(hH:H l=some (.lst xs)):xs.length<=sizeLine/\∃its n,Vals xs its/\xs.length=its.length/\s.heap.get? l=some {cls:= .type "list",data:= .seq its.toArray n}:=by
 obtain⟨z,its,n,r,e⟩:=I.hok l _ hH;exact⟨z,its,n,r,r.length,e⟩
def CZ(h:n<=sizeLine):Builtin.List.listTooLong n=false:=by
 unfold Builtin.List.listTooLong;exact ag (by lia)
end
section
def zE:V->List V->Hp->VK->Prop:=fun x vs H Q=>onR x fun l=>match vs with | [y]=>∃xs,H l=some (.lst xs)/\xs.length<sizeLine/\Q .non (upd H l (.lst (xs++[y]))) | _=>False
def sW:Lx X "list.append" zE:=by
 intro pins s σ H x vs v us Q I rx rv h;obtain⟨l,rfl,h'⟩:=onR.ex h;obtain⟨y,rfl,xs,hH,hz,q⟩:∃y,vs=[y]/\∃xs,H l=some (.lst xs)/\xs.length<sizeLine/\Q .non (upd H l (.lst (xs++[y]))):=by
  split at h'
  · exact⟨_,rfl,h'⟩
  · exact h'.elim
 cases rx;obtain⟨u,rfl,ru⟩:=rv.one;obtain⟨z,its,n,r,hl,e⟩:=I.lstM hH;refine MB F.slot_list_append ⟨_,e,rfl⟩ F.entry_list_append (F.args_list_append_2 _ _) (PySem.list_append l its.toArray n u (by rw[aQ];lia)) ⟨e,?_⟩;refine⟨.non,_,I.lset (its':=its++[u]) hH e (by simp) (r.append (.cons ru .nil)) ?_,rfl,q⟩;rw[ak,List.length_singleton]
 lia
def EG:V->List V->Hp->VK->Prop:=fun x vs H Q=>∃l b xs zs,x= .ref l/\vs=[.ref b]/\H l=some (.lst xs)/\H b=some (.lst zs)/\xs.length+zs.length<=sizeLine/\Q .non (upd H l (.lst (xs++zs)))
def AU:Lx X "list.extend" EG:=by
 intro pins s σ H x vs v us Q I rx rv h;obtain⟨l,b,xs,zs,rfl,rfl,hH,hB,hz,q⟩:=h;cases rx;obtain⟨u,rfl,ru⟩:=rv.one;cases ru;obtain⟨z,its,n,r,hl,e⟩:=I.lstM hH;obtain⟨z2,its2,n2,r2,hl2,e2⟩:=I.lstM hB;have hsz:its.toArray.size+its2.toArray.size<=sizeLine:=by rw[aQ,aQ];lia
 have hlong:¬ (!its.toArray.isEmpty&&Builtin.List.listTooLong (its.toArray.size+its2.toArray.size))=true:=by
  rw[CZ hsz,hJ];exact aP
 refine MB F.slot_list_extend ⟨_,e,rfl⟩ F.entry_list_extend (F.args_list_extend_2 _ _) (AutoSeq1.list_extend_list_list_0 l its.toArray n b its2.toArray n2 hlong (by rw[aQ];lia) (by lia)) ⟨e,e2,?_⟩;refine⟨.non,_,I.lset (its':=its++its2) hH e (by simp) (r.append r2) ?_,rfl,q⟩;rw[ak]
 lia
def K1:V->List V->Hp->VK->Prop:=fun x vs H Q=>∃l xs y,x= .ref l/\vs=[]/\H l=some (.lst xs)/\xs[xs.length - 1]? =some y/\Q y (upd H l (.lst xs.dropLast))
def HF:Lx X "list.pop" K1:=by
 intro pins s σ H x vs v us Q I rx rv h;obtain⟨l,xs,y,rfl,rfl,hH,hy,q⟩:=h;cases rx;have hus:=rv.zero;subst hus;obtain⟨z,its,n,r,hl,e⟩:=I.lstM hH;obtain⟨u,hu,ru⟩:=r.get hy;have hy':its.toArray[its.toArray.size - 1]? =some u:=by
  show its.toArray[its.length - 1]? =some u;rw[<-Array.getElem?_toList,<-hl];exact hu
 refine MB F.slot_list_pop ⟨_,e,rfl⟩ F.entry_list_pop (F.args_list_pop_1 _) (MeetsSeq.list_pop_last l its.toArray n u hy' (by rw[aQ];lia)) ⟨e,?_⟩;refine⟨y,_,I.lset (its':=its.dropLast) hH e ?_ r.dropLast ?_,ru,q⟩
 · show its.toArray.eraseIdxIfInBounds (its.toArray.size - 1)=its.dropLast.toArray;rw[aQ,List.eraseIdxIfInBounds_toArray,yM]
 · rw[List.length_dropLast]
   lia
def K6:R2:=fun x y H Q=>∃l b xs zs,x= .ref l/\y= .ref b/\H l=some (.lst xs)/\H b=some (.lst zs)/\xs.length+zs.length<=sizeLine/\∀p,H p=none->Q (.ref p) (upd H p (.lst (xs++zs)))
def qD:ju X (binaryOp .Add) K6:=by
 intro pins s σ H x y v u Q I rx ry h;obtain⟨l,b,xs,zs,rfl,rfl,hH,hB,hz,q⟩:=h;cases rx;cases ry;obtain⟨z,its,n,r,hl,e⟩:=I.lstM hH;obtain⟨z2,its2,n2,r2,hl2,e2⟩:=I.lstM hB;refine PySem.P.add_list e e2 ?_ (by rw[aQ,aQ];lia);have ea:its.toArray++its2.toArray=(its++its2).toArray:=by simp
 rw[ea];exact⟨.ref _,_,I.lnew (t':=s.toks) (r.append r2) (by rw[ak];lia),rfl,q _ I.fresh⟩
end
section
end
section
end
end L2
namespace Att
open PySem PySem.W PySem.Calls PyProof.Rows
def oR:∀ns vs,WellAll P h vs (ns.map WData.int)->IntsAre vs ns:=by
 intro ns
 induction ns with
 | nil=>
   intro vs w;rw[J2] at w;cases w;exact .nil
 | cons n ns ih=>
   intro vs w;rw[bG] at w;cases w with
   | cons a b=>
     cases a;exact .cons _ _ (ih _ b)
def Av{l:OpenLaw}{n:Nat}(hn:l.most=some n){P:Params}{h:Heap}{args:List WData}{vals:List Value}(hpre:l.row.toRowW.claim.pre args=true)(hwl:WellAll P h vals args):∃a vs ns,vals=[Value.ref a]/\args=[WData.list (ns.map WData.int)]/\h.get? a=some {cls:= .type "list",data:= .seq vs.toArray}/\IntsAre vs ns/\ns.length<=n:=by
 have hsh:WShape.hasAll [] args [.list .int]=true:=(pre_splitW hpre).1;have hc:l.pre.holds [] {args:=args}=true:=(pre_splitW hpre).2;obtain⟨d,r,rfl,h1,h2⟩:=hasAllW_cons hsh;obtain rfl:=hasAllW_nil h2;obtain⟨xs,rfl,h3⟩:=hasW_list h1;obtain⟨ns,rfl⟩:=items_int h3;have hlen:ns.length<=n:=by
  unfold OpenLaw.pre at hc;have h4:(WTm.not (.lt (.lit (.int (n:Int))) (.len (.arg 0)))).holds [] {args:=[.list (ns.map .int)]}=true:=by
   have h4:=(holds_andW hc).1;rw[hn] at h4;exact h4
  have h5:=condW_of h4 (w_not (w_lt w_lit (w_len_list (w_arg rfl))));rw[aw] at h5;refine Nat.le_of_not_lt fun q=> ?_;have q':(n:Int)<((ns.length:Nat):Int):=by lia
  first
   | (rw[ax q'] at h5;exact absurd h5 (by decide))
   | (simp at h5;lia)
 cases hwl with
 | cons w1 w2=>
   cases w2;cases w1 with
   | list ho hall=>exact⟨_,_,ns,rfl,rfl,ho,oR ns _ hall,hlen⟩
def AA(l:OpenLaw)(args:List WData):l.row.toRowW.claim.post args (.bool true) args=true:=postW_of (r:=l.row.toRowW) (X:=(true==true)) (show WShape.has [] (.bool true) .bool=true by first | rfl | decide | simp[WShape.has,WShape.arms,WShape.armsAll])
  (show(WTm.eq .res (.lit (.bool true))).value [] {args:=args,res:=some (.bool true),after:=args}=some (.bool (true==true)) from w_eq_bool (w_res rfl) w_lit) rfl
def attach_call{l:OpenLaw}(hn:l.most=some n)(hdf:d.params.defaults=[])(call:∀w s₀ s₁ mg mb fa o pm cd doc a vs ns,Ground q loose [] XP w s₀ mg mb s₁.heap->YP w s₁.heap->s₁.heap.get? fa=some o->o.data= .func (docDef d.name d.params d.body d.scope pm cd doc)->s₁.heap.CodeRec cd d.name->mg d.name=some (.ref fa)->s₁.heap.get? a=some {cls:= .type "list",data:= .seq vs.toArray}->IntsAre vs ns->ns.length<=n->s₁.gens= #[]->codeAny (model l.prog w) callerA (.call (.ref fa) ⟨[.ref a],[]⟩) (fun r s'=>r= .ok (.ret (.bool true))/\OldK s₁.heap s'.heap/\s'.os=s₁.os/\AllBare s'.gens) s₁):WalkO q loose XP YP l.row.toRowW d [] (fun f vs=>PySem.call f vs):=by
 intro w s₀ s₁ mg mb G Y fa o pm cd doc dV kV ho hd hcd hD hmg hg args vals as hpre hlay hrd hwl hlo;obtain rfl:dV= .none:=Dflts.none hD hdf;obtain rfl:kV= .none:=Dflts.noKw hD;obtain⟨a,vs,ns,rfl,rfl,hobj,hints,hlen⟩:=Av hn hpre hwl;refine enter_call (g9 (call w s₀ s₁ mg mb fa o pm cd doc a vs ns G Y ho (fd_plain hd) hcd hmg hobj hints hlen hg) fun r s' hq=> ?_);obtain⟨rfl,h2,h3,h4⟩:=hq;exact⟨.inl ⟨.bool true,.bool true,[],rfl,fun _=>rfl,.bool true,AA l _,fun _=>⟨List.Pairwise.nil,fun _ hm=>(nomatch hm)⟩⟩,h2,h3,h4⟩
section
end
end Att
namespace L2
open PySem PySem.Spec PyProof.Rows
theorem rX:∀{vs:List Value} {ns:List Int},IntsAre vs ns->Vals (ns.map V.int) vs
 | _,_,.nil=> .nil
 | _,_,.cons n t h=> .cons ⟨t,rfl⟩ (rX h)
def Iy(H:Hp):Prop:=∀b,H b=none\/∃o xs,H b=some (.frz o (.lst xs))
def Di{K:Frag}(KX:K.In s₁.heap)(hns:s₁.heap.Ns mainGlobals mg)(hb:s₁.heap.Ns builtinsNs mb)(hbb:∀x:Str,x≠"__name__"->mb x=bootBuiltins x)(hlim:s₁.heap.NoLimit)(hg:s₁.gens= #[])(ha:s₁.heap.get? a=some {cls:= .type "list",data:= .seq vs.toArray})(hi:IntsAre vs ns)(hl:ns.length<=sizeLine)(hr:Room k callerA)(F:∀base:Heap,K.In base->base.Ns mainGlobals mg->bK P w K mg base CX k fa fd [x] sp)(hbind:∀s u,BindsTo s fd ⟨[u],[]⟩ [(x,u)])(hsp:∀H:Hp,Iy H->SqL K H a (ns.map V.int)->sp [.ref a] H (fun v _=>v= .bl true) fun _ _ _=>False)(hCX:∀H e s',CX [] H s₁ (fun _ _ _=>False) e s'->False):codeAny (model P w) callerA (.call (.ref fa) ⟨[.ref a],[]⟩) (fun r s'=>r= .ok (.ret (.bool true))/\OldK s₁.heap s'.heap/\s'.os=s₁.os/\AllBare s'.gens) s₁:=by
 have rv:=rX hi;have lenV:=hi.length;have core:∀H:Hp,Iy H->SqL K H a (ns.map V.int)->HOk P w H s₁.heap->(∀b,H b≠none->b=a)->(H a≠none->K.lookup a=none)->
  codeAny (model P w) callerA (.call (.ref fa) ⟨[.ref a],[]⟩) (fun r s'=>r= .ok (.ret (.bool true))/\OldK s₁.heap s'.heap/\s'.os=s₁.os/\AllBare s'.gens) s₁:=by
  intro H hO hS hok hA hK;have base_of:∀{b:Addr} {o:Obj},s₁.heap.get? b=some o->H b=none->(uR s₁.heap H).get? b=some o:=fun e n=>Dt e n;have noA:∀{b:Addr} {o:Obj} {es:Array DictEntry} {ep:Nat},s₁.heap.get? b=some o->o.data= .dict es ep->H b=none:=fun {b o es ep} e d=>by
   cases q:H b with
   | none=>rfl
   | some u=>
     have e':b=a:=hA b (by rw[q];simp);subst e';rw[ha] at e;cases e;have d':Data.seq vs.toArray _=Data.dict es ep:=d;cases d'
  have nsK:∀{b:Addr} {m:Str->Option Value},s₁.heap.Ns b m->(uR s₁.heap H).Ns b m:=fun {b m} ⟨o,es,ep,e,d,r⟩=>⟨o,es,ep,base_of e (noA e d),d,r⟩;have hKb:K.In (uR s₁.heap H):=fun b o e=>base_of (KX b o e) (by
   cases q:H b with
   | none=>rfl
   | some u=>
     have e':b=a:=hA b (by rw[q];simp);subst e';rw[hK (by rw[q];simp)] at e;cases e)
  have hM:Mod K mg (uR s₁.heap H):=⟨hKb,nsK hns,⟨mb,nsK hb,hbb⟩,let⟨mc,h1,h2⟩:=hlim;⟨mc,nsK h1,h2⟩⟩;have e0:Env0 P w K mg (uR s₁.heap H) callerA [] s₁ H:=⟨rfl,hM,fun b o e=>Fb e,JX (Bd _ _),trivial,fun b hb=>absurd (show b∈([]:List Addr) from hb) (by simp),hok,.of_eq hg⟩;refine g9 ((F _ hKb (nsK hns)).run callerA [] s₁ H ⟨[.ref a],[]⟩ [.ref a] [.ref a] _ _ hr e0 (hbind s₁ (.ref a)) (.cons rfl .nil) (hsp H hO hS)) fun r s' h=> ?_;cases r with
  | error e=>exact(hCX H e s' h).elim
  | ok fl=>
    cases fl with
    | next=>exact False.elim h
    | brk=>exact False.elim h
    | cont=>exact False.elim h
    | ret u=>
      obtain⟨v,H',os,bare,un,hok',r',q⟩:=h;have q':v= .bl true:=q;subst q';obtain rfl:u=Value.bool true:=r';refine⟨rfl,OldK.of_keep fun b o e=> ?_,os,bare⟩;cases q:H b with
      | none=>exact un.keep b o e q (by intro z;exact absurd (show b∈([]:List Addr) from z) (by simp)) (by simp)
      | some u=>
        rcases hO b with z | ⟨ob,xs,z⟩
        · rw[q] at z;cases z
        · have z2:=un.frzs b ob _ z;obtain⟨e1,_⟩:=hok b _ z;obtain⟨e2,_⟩:=hok' b _ z2;rw[e] at e1;cases e1;exact e2
 cases hk:K.lookup a with
 | some o=>
   have e:=KX a o hk;rw[ha] at e;cases e;refine core (fun _=>none) (fun _=> .inl rfl) (.inr ⟨_,vs.toArray,_,hk,rfl,rfl,rfl,by rw[aQ,lenV];exact hl,by simpa using rv⟩) (fun b u z=>by have z':(none:Option HO)=some u:=z;cases z') (fun b z=>absurd rfl z) fun z=>absurd rfl z
 | none=>
   refine core (fun b=>if b=a then some (.frz {cls:= .type "list",data:= .seq vs.toArray} (.lst (ns.map V.int))) else none) (fun b=> ?_) (.inl (.inr ⟨{cls:= .type "list",data:= .seq vs.toArray},aK rfl⟩)) (fun b u z=> ?_) (fun b z=> ?_) fun _=>hk
   · by_cases hb:b=a
     · exact .inr ⟨_,_,aK hb⟩
     · exact .inl (aG hb)
   · by_cases hb:b=a
     · have z':=(aK hb).symm.trans z;cases z';subst hb;exact⟨ha,by rw[aw];exact hl,vs,_,rv,ha⟩
     · have z':=(aG hb).symm.trans z;cases z'
   · by_cases hb:b=a
     · exact hb
     · exact absurd (aG hb) z
def walk_of{l:PySem.W.OpenLaw}{K:Params->Frag}{CX:World->BF}{sp:World->Sp}(hn:l.most=some n)(hn2:n<=sizeLine)(hdf:d.params.defaults=[])(hr:Room k callerA)(hY:∀(w:World) (h:Heap),YP w h->(K w.params).In h)(F:∀(w:World) (mg:Str->Option Value) (fa:Addr) (h:Heap),(K w.params).In h->h.Ns mainGlobals mg->mg d.name=some (.ref fa)->∃fd:FuncData,(∀(s:Shared) (u:Value),BindsTo s fd ⟨[u],[]⟩ [(x,u)])/\∀base:Heap,(K w.params).In base->base.Ns mainGlobals mg->bK l.prog w (K w.params) mg base (CX w) k fa fd [x] (sp w)) (hsp:∀(w:World) (H:Hp) (a:Addr) (ns:List Int),ns.length<=n->Iy H->SqL (K w.params) H a (ns.map V.int)->sp w [.ref a] H (fun v _=>v= .bl true) fun _ _ _=>False) (hCX:∀(w:World) (H:Hp) (s:Shared) (e:Value) (s':Shared),CX w [] H s (fun _ _ _=>False) e s'->False):PySem.W.WalkO q loose XP YP l.row.toRowW d [] (fun f vs=>PySem.call f vs):=by
 refine Att.attach_call hn hdf fun w s₀ s₁ mg mb fa o pm cd doc a vs ns G Y ho hd hcd hmg hobj hints hlen hg=> ?_;have KX:=hY w _ Y;obtain⟨fd,hb,hF⟩:=F w mg fa _ KX G.T.g hmg;exact Di KX G.T.g G.T.b G.T.builtins G.T.nolimit hg hobj hints (ao hlen hn2) hr hF hb (fun H hO hS=>hsp w H a ns hlen hO hS) fun H e s'=>hCX w H s₁ e s'
noncomputable def di(s:Stmt)(j:Nat):Stmt:=match s with
 | .ClassDef _ _ _ body _ _ _ _ _ _ _=>body.getD j (.Pass ⟨0,0,0,0⟩)
 | _=> .Pass ⟨0,0,0,0⟩
noncomputable def eI(s:Stmt):Arguments:=match s with
 | .FunctionDef _ a _ _ _ _ _ _ _ _=>a
 | _=>{posonlyargs:=[],args:=[],vararg:=none,kwonlyargs:=[],kw_defaults:=[],kwarg:=none,defaults:=[]}
noncomputable def du(s:Stmt):List Stmt:=match s with
 | .FunctionDef _ _ b _ _ _ _ _ _ _=>b
 | _=>[]
noncomputable def aJ(s:Stmt):Scope:=match s with
 | .FunctionDef _ _ _ _ _ _ sc _ _ _=>sc
 | _=>{kind:= .function,names:=[],isGenerator:=false,isCoroutine:=false}
abbrev eJ:BF:=fun _ _ _ _ _ _=>False
abbrev E0:XK:=fun _ _ _=>False
def sQ:jh eJ X E0:=fun _ _ _ _ _ _ _ h=>h.elim
structure Fun(K:Frag)(x qual:Str)(st:Stmt)(f:Addr)(fd:FuncData):Prop where
 ex:∃(oc:Value) (od:Option Addr) (kV doc pm:Value) (an:Option Addr) (cdv ct:Value) (osl:Array (Option Value)),fd=fnOf x qual (eI st) (du st) (aJ st) .none kV doc pm an cdv ct/\K.lookup f=some ⟨oc,od,.func fd,osl⟩/\codeIn K cdv qual=true
 kp:keepIn K (.ref f)=true
section
def Fun.ok{K:Frag}{st:Stmt}(F:Fun K x qual st f fd)(S:bb N ps (aJ st))(len:∀vs H Q E,sp vs H Q E->vs.length=ps.length)(hbody:∀cdv A outer s H vs Q E,Room k (A.deeper (envOfC qual (aJ st) s.heap.objs.size f cdv))->sp vs H Q E->∃t,PSs (oS eJ P w K mg base N qual (aJ st) f cdv A outer s H E).nox (du st) t/\t {nx:=fun _ H'=>Q .non H',rt:=Q} (jB N vs) H):bK P w K mg base eJ (k+1) f fd ps sp:=by
 obtain⟨oc,od,kV,doc,pm,an,cdv,ct,osl,rfl,lk,hcd⟩:=F.ex;refine DB lk hcd S len fun A outer s H vs Q E hr hsp=> ?_;obtain⟨t,h,q⟩:=hbody cdv A outer s H vs Q E hr hsp;exact⟨t,h.nox,q⟩
def Fun.binds{K:Frag}{st:Stmt}(F:Fun K x qual st f fd)(h:∀kV doc pm an cdv ct us,us.length=ps.length->bindArgs (fnOf x qual (eI st) (du st) (aJ st) .none kV doc pm an cdv ct) ⟨us,[]⟩=pure (ps.zip us)):Binds K fd ps []:=by
 obtain⟨oc,od,kV,doc,pm,an,cdv,ct,osl,rfl,lk,hcd⟩:=F.ex;exact .all (h kV doc pm an cdv ct)
def uU{K:Frag}{st:Stmt}{kV:Value}(l:K.lookup f=some ⟨oc,od,.func (fnOf x qual (eI st) (du st) (aJ st) .none kV doc pm an cdv ct),osl⟩)(c:codeIn K cdv qual=true)(k:keepIn K (.ref f)=true):Fun K x qual st f (fnOf x qual (eI st) (du st) (aJ st) .none kV doc pm an cdv ct):=⟨⟨oc,od,kV,doc,pm,an,cdv,ct,osl,rfl,l,c⟩,k⟩
end
def fY(hr:Room k A):A.units+1<cLine:=bA (Nat.add_le_add_left (by decide:1<=64) _) hr.units
def cm(h:n<=1000):n<sizeLine:=bA h (by decide)
section
def pv{X:Cx}(i:Nat){x:Str}{pos:Pos}(hN:X.N[i]? =some x:=by rfl)(hv:Ki X.env.scope x:=by first | exact Or.inl rfl | exact Or.inr (Or.inl rfl) | exact Or.inr (Or.inr rfl))(hd:(x==("__debug__":Str))=false:=by decide)(hcd:(x==("__classdict__":Str))=false:=by decide):PE X (.Name x pos) (ng i):=Hi hN hv hd hcd
def aC:=fun {a b c}=> @pv a 0 b c
def bu:=fun {a b c}=> @pv a 1 b c
def bx:=fun {a b c}=> @pv a 2 b c
def bZ:=fun {a b c}=> @pv a 3 b c
def cL:=fun {a b c}=> @pv a 4 b c
def dJ:=fun {a b c}=> @pv a 5 b c
def eZ:=fun {a b c}=> @pv a 6 b c
def iX:=fun {a b c}=> @pv a 7 b c
def ku:=fun {a b c}=> @pv a 8 b c
def jJ:=fun {a b c}=> @pv a 10 b c
end
def gJ{c A B:Prop}[Decidable c](h1:c->A)(h2:¬ c->B):if c then A else B:=by
 by_cases h:c
 · rw[aK h];exact h1 h
 · rw[aG h];exact h2 h
def Same(H H':Hp):Prop:=∀b o,H b=some o->H' b=some o
def Same.refl(H:Hp):Same H H:=fun _ _ h=>h
def Same.trans(a:Same H H1)(b:Same H1 H2):Same H H2:=fun c o h=>b c o (a c o h)
def Same.seq{K:Frag}(e:Same H H')(h:SqL K H a xs):SqL K H' a xs:=by
 rcases h with(h | ⟨o,h⟩) | h
 · exact .inl (.inl (e _ _ h))
 · exact .inl (.inr ⟨o,e _ _ h⟩)
 · exact .inr h
end L2
set_option maxHeartbeats 9000000
namespace L2
open PySem PySem.Spec PyProof.Rows
def af(h:H p=none)(o:HO):Same H (upd H p o):=fun b u q=>by rw[aM (bI q h)];exact q
def KF(t u:TS):TS:=fun D σ H=>∃M:St->Hp->Prop,t {D with nx:=M} σ H/\∀σ' H',M σ' H'->u D σ' H'
def ug{X:Cx}{st:Stmt}{rest:List Stmt}{t u:TS}(h1:PS X st t)(h2:PSs X rest u):PSs X (st::rest) (KF t u):=by
 intro pins s σ H D I ⟨M,h,hM⟩;refine iB (cX (h1 pins s σ H {D with nx:=M} I h) fun f s1 q=> ?_);cases f with
 | next=>
   obtain⟨σ',H',I',q⟩:=q;exact h2 pins s1 σ' H' D I' (hM _ _ q)
 | ret v=>exact q
 | brk=>exact q
 | cont=>exact q
noncomputable def BX:Expr->Option Str
 | .Constant (.str x) _ _=>some x
 | _=>none
noncomputable def nh:List Expr->Option (List Str)
 | []=>some []
 | e::r=>(BX e).bind fun x=>(nh r).map fun xs=>x::xs
def F1(xs:List Str):TA:=fun _ H Q=>Q (xs.map V.str) H
theorem pF{X:Cx}:∀{es:List Expr} (xs:List Str),nh es=some xs->PA X es (F1 xs)
 | [],xs,h=>by
   cases h;exact bO
 | e::r,xs,h=>by
   cases he:BX e with
   | none=>rw[nh,he] at h;cases h
   | some x=>
     cases hr:nh r with
     | none=>rw[nh,he,hr] at h;cases h
     | some ys=>
       rw[nh,he,hr] at h;cases h;have hc:∃k p,e= .Constant (.str x) k p:=by
        unfold BX at he
        split at he
        · cases he;exact⟨_,_,rfl⟩
        · cases he
       obtain⟨k,p,rfl⟩:=hc;intro pos pins s σ H Q I q;have z:PA X (.Constant (.str x) k p::r) (df (tC (.str x)) (F1 ys)):=cB aN (pF ys hr);exact z pos pins s σ H Q I q
noncomputable def gY(cells:List (Str × Addr)):List (Str × NameKind)->List (Str × Addr)->List (Str × Addr)
 | [],acc=>acc
 | (n,k)::r,acc=>gY cells r (if k== .free then(n,(cells.lookup n).getD 0)::acc else acc)
theorem rh(env:Env):∀names acc,(∀y∈names,y.2= .free->∃c,env.cells.lookup y.1=some c)->(forIn names acc (fun x cs=>if(x.2==NameKind.free)=true then do let a<-cellOf env x.1;pure (ForInStep.yield ((x.1,a)::cs)) else pure (ForInStep.yield cs)):Sem (List (Str × Addr)))=pure (gY env.cells names acc)
 | [],acc,_=>rfl
 | (n,k)::r,acc,h=>by
   have ih:=fun acc'=>rh env r acc' fun y hy=>h y (aH _ hy);rw[gw];cases hk:k==NameKind.free with
   | false=>
     simp only[gY,hk,MJ,Ft,pure_bind];exact ih acc
   | true=>
     obtain⟨c,hc⟩:=h (n,k) aO (by simpa using hk);have hc':env.cells.lookup n=some c:=hc;have e:cellOf env n=pure c:=by unfold cellOf;rw[hc']
     simp only[gY,hk,jR,e,pure_bind,hc',Option.getD_some];exact ih _
def jT(h:∀y∈scope.names,y.2= .free->∃c,env.cells.lookup y.1=some c):closureFor scope env=pure (gY env.cells scope.names []):=by
 unfold closureFor;have q:=rh env scope.names [] h
 first
  | exact q
  | (simp only[bind_pure];exact q)
  | (rw[show(forIn scope.names [] _:Sem (List (Str × Addr)))=_ from q];rfl)
theorem capOf_some:∀names acc,(∀y∈names,y.2= .free->∃c,cells.lookup y.1=some c)->(gY cells names acc).lookup x=some c->acc.lookup x=some c\/cells.lookup x=some c
 | [],acc,_,h=> .inl h
 | (n,k)::r,acc,hf,h=>by
   have hf':∀y∈r,y.2= .free->∃c,cells.lookup y.1=some c:=fun y hy=>hf y (aH _ hy);cases hk:k==NameKind.free with
   | false=>
     simp only[gY,hk,MJ,Ft] at h;exact capOf_some r acc hf' h
   | true=>
     simp only[gY,hk,jR] at h;rcases capOf_some r _ hf' h with h | h
     · rw[cA] at h;cases hx:x==n with
       | true=>
         rw[hx] at h;obtain⟨c',hc⟩:=hf (n,k) aO (by simpa using hk);have hc':cells.lookup n=some c':=hc;have e:x=n:=by simpa using hx
         simp only[hc',Option.getD_some] at h;cases h;exact .inr (by rw[e];exact hc')
       | false=>rw[hx] at h;exact .inl h
     · exact .inr h
theorem ri:∀names acc,(∃c,acc.lookup x=some c)->∃c,(gY cells names acc).lookup x=some c
 | [],_,h=>h
 | (n,k)::r,acc,h=>by
   unfold gY;refine ri r _ ?_;cases hk:k==NameKind.free with
   | false=>simpa using h
   | true=>
     simp only[jR];rw[cA];cases hx:x==n with
     | true=>exact⟨_,rfl⟩
     | false=>exact h
theorem kj:∀names acc,(x,NameKind.free)∈names->∃c,(gY cells names acc).lookup x=some c
 | [],_,h=>nomatch h
 | (n,k)::r,acc,h=>by
   rcases aL.mp h with e | h
   · cases e;unfold gY;refine ri r _ ?_;simp only[beq_self_eq_true,jR];refine⟨(cells.lookup x).getD 0,?_⟩;rw[cA];simp
   · exact kj r _ h
noncomputable def jU(scope outer:Scope):Bool:=(scope.kind== .function)&&scope.names.all fun y=>(y.2 != .cell)&&(y.2 != .local || scope.names.lookup y.1==some .local)&&(y.2 != .free || (outer.names.lookup y.1==some .cell || outer.names.lookup y.1==some .free))
def iK(h:jU scope outer=true):scope.kind= .function:=by
 unfold jU at h;rw[ba] at h;simpa using h.1
def gL(h:jU scope outer=true):∀y∈scope.names,y.2≠ .cell/\(y.2= .local->scope.names.lookup y.1=some .local)/\(y.2= .free->outer.names.lookup y.1=some .cell\/outer.names.lookup y.1=some .free):=by
 unfold jU at h;rw[ba,dU] at h;intro y hy;have q:=h.2 y hy;simp only[ba,D7,bne_iff_ne,iL,ne_eq] at q;refine⟨q.1.1,fun e=> ?_,fun e=> ?_⟩
 · rcases q.1.2 with z | z
   · exact absurd e z
   · exact z
 · rcases q.2 with z | z
   · exact absurd e z
   · exact z
noncomputable def fG(XN:List Str)(scope:Scope):List Str->List Nat->Bool
 | [],[]=>true
 | x::r,i::t=>(XN[i]? ==some x)&&(scope.names.lookup x==some .free)&&fG XN scope r t
 | _,_=>false
theorem q_:∀{cs:List Str} {caps:List Nat} {j:Nat} {x:Str},fG XN scope cs caps=true->cs[j]? =some x->∃i,caps[j]? =some i/\XN[i]? =some x/\scope.names.lookup x=some .free
 | [],_,j,x,_,h=>by simp at h
 | y::r,[],j,x,h,_=>by simp[fG] at h
 | y::r,i::t,0,x,h,e=>by
   simp only[fG,ba,iL] at h;simp at e;subst e;exact⟨i,rfl,h.1.1,h.1.2⟩
 | y::r,i::t,j+1,x,h,e=>by
   simp only[fG,ba] at h;obtain⟨k,h1,h2⟩:=q_ (j:=j) (x:=x) h.2 (by simpa using e);exact⟨k,by simpa using h1,h2⟩
theorem qZ:∀{cs:List Str} {caps:List Nat},fG XN scope cs caps=true->cs.length=caps.length
 | [],[],_=>rfl
 | [],_::_,h=>by simp[fG] at h
 | _::_,[],h=>by simp[fG] at h
 | y::r,i::t,h=>by
   simp only[fG,ba] at h;simp[qZ h.2]
noncomputable def zf(nl:Nat)(caps:List Nat)(σ:St):St:=List.replicate nl none++caps.map fun i=>(σ[i]?).getD none
noncomputable def iw(X:Cx)(scope:Scope)(N:List Str)(s:Shared)(H:Hp)(fp:List Addr):Cx:={X with N:=N,s₀:=s,H₀:=H,env:=compEnvC scope (gY X.env.cells scope.names []) (s.heap.objs.size+1) X.env,outer:=X.stack,stack:=X.stack,ex:=fp,fn:=fun _=>false,pn:=[],xe:=fun _ _=>False}
section
theorem dB{env:Env}{x:Str}{k:NameKind}:∀{names:List (Str × NameKind)},(names.map fun(n,k)=>if(k==NameKind.free&&env.scope.kind== .function&&env.kindOf n==some .cell) then(n,NameKind.cell) else(n,k)).lookup x=some k->(k= .cell\/k= .free)->(x,NameKind.cell)∈names\/(x,NameKind.free)∈names
 | [],h,_=>by simp at h
 | (n,k')::r,h,hk=>by
   have h':List.lookup x ((if(k'==NameKind.free&&env.scope.kind== .function&&env.kindOf n==some .cell)=true then(n,NameKind.cell) else(n,k'))::(r.map fun(n,k)=>if(k==NameKind.free&&env.scope.kind== .function&&env.kindOf n==some .cell) then(n,NameKind.cell) else(n,k)))=some k:=h;by_cases hc:(k'==NameKind.free&&env.scope.kind== .function&&env.kindOf n==some .cell)=true
   · rw[aK hc,cA] at h';cases hx:x==n with
     | true=>
       have e:x=n:=by simpa using hx
       have e2:k'= .free:=by
        rw[ba,ba] at hc;simpa using hc.1.1
       subst e;subst e2;exact .inr aO
     | false=>
       rw[hx] at h';exact(dB h' hk).imp (aH _) (aH _)
   · rw[aG hc,cA] at h';cases hx:x==n with
     | true=>
       rw[hx] at h';have e:x=n:=by simpa using hx
       cases h';subst e;rcases hk with rfl | rfl
       · exact .inl aO
       · exact .inr aO
     | false=>
       rw[hx] at h';exact(dB h' hk).imp (aH _) (aH _)
theorem eW{env:Env}:∀{names:List (Str × NameKind)} {x:Str},names.lookup x=some .free->(names.map fun(n,k)=>if(k==NameKind.free&&env.scope.kind== .function&&env.kindOf n==some .cell) then(n,NameKind.cell) else(n,k)).lookup x=some .cell\/(names.map fun(n,k)=>if(k==NameKind.free&&env.scope.kind== .function&&env.kindOf n==some .cell) then(n,NameKind.cell) else(n,k)).lookup x=some .free
 | [],_,h=>by simp at h
 | (n,k)::r,x,h=>by
   have ih:= @eW env r x;show List.lookup x ((if(k==NameKind.free&&env.scope.kind== .function&&env.kindOf n==some .cell)=true then(n,NameKind.cell) else(n,k))::_)=_\/List.lookup x ((if(k==NameKind.free&&env.scope.kind== .function&&env.kindOf n==some .cell)=true then(n,NameKind.cell) else(n,k))::_)=_;cases hx:x==n with
   | true=>
     simp only[cA,hx] at h;cases h;by_cases hc:(NameKind.free==NameKind.free&&env.scope.kind== .function&&env.kindOf n==some .cell)=true
     · rw[aK hc];left;simp[cA,hx]
     · rw[aG hc];right;simp[cA,hx]
   | false=>
     simp only[cA,hx] at h;by_cases hc:(k==NameKind.free&&env.scope.kind== .function&&env.kindOf n==some .cell)=true
     · rw[aK hc];simp only[cA,hx];exact ih h
     · rw[aG hc];simp only[cA,hx];exact ih h
def dg{σ:St}(I:Inv X pins σ H s)(hb:jU scope X.env.scope=true):∀y∈scope.names,y.2= .free->∃c,X.env.cells.lookup y.1=some c:=fun y hy e=>
 I.ok.has y.1 ((gL hb y hy).2.2 e)
def uY{σ:St}{fp:List Addr}(I:Inv X pins σ H s)(hb:jU scope X.env.scope=true)(hf:∀b∈fp,kF X pins H b)(hlt:∀b∈fp,b<s.heap.objs.size):(iw X scope N s H fp).Ok where
 mod:=I.ok.mod
 kind:=show scope.kind= .function from iK (outer:=X.env.scope) hb
 glob:=I.ok.glob
 blt:=I.ok.blt
 above:=aY _
 inj:=fun x y c h1 h2=>by
  have q1:=(capOf_some scope.names [] (dg I hb) h1).resolve_left (by simp);have q2:=(capOf_some scope.names [] (dg I hb) h2).resolve_left (by simp);exact I.ok.inj x y c q1 q2
 has:=fun x hx=>by
  have hx':(relabel scope X.env).names.lookup x=some .cell\/(relabel scope X.env).names.lookup x=some .free:=hx;have q:(x,NameKind.cell)∈scope.names\/(x,NameKind.free)∈scope.names:=by
   rcases hx' with z | z
   · exact dB z (.inl rfl)
   · exact dB z (.inr rfl)
  rcases q with q | q
  · exact absurd rfl (gL hb _ q).1
  · exact kj scope.names [] q
 cab:=fun x c h=>nomatch h
 hd:=I.ok.hd
 frames:=I.ok.frames
 stk:= .inl rfl
 exf:=fun b hbm=>⟨bf (cJ (hlt b hbm)),fun x c e=>by
  have q:=(capOf_some scope.names [] (dg I hb) e).resolve_left (by simp);exact(hf b hbm).2.2.2.2.1 x c q⟩
 bs:=I.bs
 bsz:=ao I.ok.bsz I.sz
 noex:=fun b o e hbm=>by
  rcases(hf b hbm).2.2.2.1 with z | z
  · exact I.ok.noex b o e z
  · exact absurd (ah (aB e) (ao I.ok.bsz z)) (fm _)
 exfs:=fun b hbm z=>by
  rcases aL.mp (I.stkSub b z) with e | e
  · exact(hf b hbm).2.1 e
  · exact(hf b hbm).2.2.1 e
 funs:=I.stack
 frf:=I.stkFree
def qU{σ σ':St}(I:Inv X pins σ H s)(hf:∀b∈fp,kF X pins H b)(J:Inv (iw X scope N s H fp) [] σ' H' s'):Inv X pins σ H' s':=I.call' J.os J.base J.hok J.bare fun b hb=>⟨(hf b hb).2.2.2.1,(hf b hb).2.1,(hf b hb).2.2.2.2.1,(hf b hb).2.2.2.2.2⟩
end
def Ea(X:Cx)(ifs:List Expr)(t:TT):Prop:=∀(pins:List (Addr × Obj)) (s:Shared) (σ:St) (H:Hp) (Q:Bool->Hp->Prop),Inv X pins σ H s->t σ H Q->wpAny (model X.prog X.w) X.A (forIn ifs true fun c r=>if r=true then do let ok<-isTrue c X.env (eval c X.env);pure (ForInStep.yield ok) else pure (ForInStep.yield r)) (TP X pins σ Q) X.xe s
def Ky:TT:=fun _ H Q=>Q true H
def iY:Ea X [] Ky:=fun _ _ _ H _ I h=>wpAny_tests_nil ⟨H,I,h⟩
theorem Bp{prog:Program}{w:World}{A:Around}{R:Result->Shared->Prop}{s:Shared}{elt target iter:Expr}{ifs:List Expr}{scope:Scope}{pos:Pos}{it acc:Value}{env:Env}(I:Nat->Shared->Prop)(turn:∀n s,I n s->wpAny (model prog w) A (pyNext it) (fun r s₁=>match r with
 | none=>R (.ok .next) s₁
 | some v=>wpAny (model prog w) A (letOwnedTupleGo target it v) (fun _ s₁'=>wpAny (model prog w) A (assign target env v) (fun _ s₂=>
  wpAny (model prog w) A (forIn ifs true fun c r=>if r=true then do let ok<-isTrue c env (eval c env);pure (ForInStep.yield ok) else pure (ForInStep.yield r)) (fun ok s₃=>
   if ok=true then wpAny (model prog w) A (eval elt env) (fun x s₄=>
    wpAny (model prog w) A (call (.builtin "list.append") [acc,x]) (fun _ s₅=>∃m,m<n/\I m s₅) (fun _ _=>False) s₄) (fun _ _=>False) s₃
   else ∃m,m<n/\I m s₃) (fun _ _=>False) s₂) (fun _ _=>False) s₁') (fun _ _=>False) s₁) (fun _ _=>False) s) (n:Nat) (h:I n s):codeAny (model prog w) A (.compLoop (.ListComp elt [⟨target,iter,ifs,0⟩] scope pos) 0 it acc env) R s:=by
 refine codeAny_loop rfl I (fun n s hI=> ?_) n h;show wpAny _ A ((compTurn (.ListComp elt [⟨target,iter,ifs,0⟩] scope pos) 0 it acc env).onRaise (fun x=>do noteFrame x env;theTreesLotGoes x)) _ _ s;refine wpAny_noted ?_;refine wpAny_noRaise ?_;rw[compTurn_list];refine aa (dG (aa (bJ (turn n s hI) (fun r s₁ h₁=> ?_) fun _ _ h'=>h')));cases r with
 | none=>exact aA h₁
 | some v=>
   refine aa (bJ h₁ (fun _ s₁' h₁'=> ?_) fun _ _ h'=>h');refine aa (bJ h₁' (fun _ s₂ h₂=>aa (bJ h₂ (fun ok s₃ h₃=> ?_) fun _ _ h'=>h')) fun _ _ h'=>h');cases ok with
   | false=>exact aA ⟨rfl,h₃⟩
   | true=>
     exact aa (aa (bJ h₃ (fun x s₄ h₄=>aa (bJ h₄ (fun _ s₅ h₅=>aA (aA ⟨rfl,h₅⟩)) fun _ _ h'=>h')) fun _ _ h'=>h'))
def Im(J:It)(g:TG)(tc:TT)(te:TE)(D:Addr)(Fin:Hp->Prop)(σ0:St)(H0:Hp):Prop:=∃W:Nat->Nat->St->Hp->Prop,(∃m,W 0 m σ0 H0)/\∀i m σ H,W i m σ H->(J.stop i H/\Fin H)\/(J.go i H/\∃N:St->Hp->Prop,(∀σ' H',N σ' H'->∃m',m'<m/\W (i+1) m' σ' H')/\∀x H1,J.yld i H x H1->g x σ H1 fun σ2 H2=>tc σ2 H2 fun b H3=>
   if b=true then te σ2 H3 fun v H4=>∃xs,H4 D=some (.lst xs)/\xs.length<sizeLine/\N σ2 (upd H4 D (.lst (xs++[v]))) else N σ2 H3)
def qY{Fin:Hp->Prop}(n:Nat)(Pv:Nat->St->Hp->Prop)(h0:Pv 0 σ0 H0)(hend:∀σ H,Pv n σ H->J.stop n H/\Fin H)(hs:∀i σ H,i<n->Pv i σ H->J.go i H/\∀x H1,J.yld i H x H1->g x σ H1 fun σ2 H2=>tc σ2 H2 fun b H3=>
 if b=true then te σ2 H3 fun v H4=>∃xs,H4 D=some (.lst xs)/\xs.length<sizeLine/\Pv (i+1) σ2 (upd H4 D (.lst (xs++[v]))) else Pv (i+1) σ2 H3):Im J g tc te D Fin σ0 H0:=by
 refine⟨fun i m σ H=>m=n - i/\i<=n/\Pv i σ H,⟨n,by simp,au _,h0⟩,?_⟩;rintro i m σ H ⟨rfl,hi,p⟩;by_cases hlt:i<n
 · obtain⟨q1,q2⟩:=hs i σ H hlt p;exact .inr ⟨q1,Pv (i+1),fun σ' H' p'=>⟨n - (i+1),by lia,rfl,hlt,p'⟩,q2⟩
 · have e:i=n:=by lia
   subst e;exact .inl (hend σ H p)
def F3(wi:TI)(g:TG)(tc:TT)(te:TE)(nl:Nat)(caps:List Nat):TE:=fun σ H Q=>
 wi σ H fun J H1=>∀D,H1 D=none->Im J g tc te D (fun H'=>Q (.ref D) H') (zf nl caps σ) (upd H1 D (.lst []))
section
def qX{cF:List Str}{σ:St}{RR:Value->Addr->Result->Shared->Prop}{Fin:Hp->Prop}(hc:X.calm=true)(hb:jU scope X.env.scope=true)(hcap:fG X.N scope cs caps=true)(I:Inv X pins σ H s)(T:xr X.prog X.w X.K tg J fp it tn)(st:tn 0 s.heap)(hf:∀b∈fp,kF X pins H b)(hg:PG (iw X scope (cF++cs) s H fp) tg g)(ht:Ea (iw X scope (cF++cs) s H fp) ifs tc)(he:PE (iw X scope (cF++cs) s H fp) elt te)(h:Im J g tc te s.heap.objs.size Fin (zf cF.length caps σ) (upd H s.heap.objs.size (.lst [])))(hRR:∀σ' H' s',Inv (iw X scope (cF++cs) s H fp) [] σ' H' s'->Fin H'->RR (.ref s.heap.objs.size) (s.heap.objs.size+1) (.ok .next) s'):wpAny (model X.prog X.w) X.A (newList []) (fun acc s₃=>wpAny (model X.prog X.w) X.A (newFunctionEnv scope X.env.globals (gY X.env.cells scope.names []) [] X.env.qual none .none (some X.env)) (fun cenv s₄=>
  codeAny (model X.prog X.w) X.A (.compStart (.ListComp elt [⟨tg,iter,ifs,0⟩] scope pos) 0 (.ref it) acc {cenv with scope:=relabel scope X.env}) (RR acc cenv.locals) s₄) E s₃) E s:=by
 have hcell:∀y∈scope.names,y.2≠ .cell:=fun y hy=>(gL hb y hy).1;have hkind:=iK hb;have hlt:∀b∈fp,b<s.heap.objs.size:=fun b hbm=>by
  obtain⟨o,e,_⟩:=T.obj 0 _ st b hbm;exact aB e
 refine cI (Kt hcell (by intro y hy;simp at hy) (fun h₁ hns₁ hsb₁=> ?_) hkind);dsimp only at hns₁ hsb₁⊢;generalize hH2:s.heap.push {cls:= .type "list",dict:=none,data:= .seq ([]:List Value).toArray}=H2 at hns₁ hsb₁⊢;have hC:H2.objs.size=s.heap.objs.size+1:=by rw[<-hH2,de]
 rw[hC] at hns₁ hsb₁⊢;have hDC:s.heap.objs.size≠s.heap.objs.size+1:=bf (nU _);have below:∀b,b<s.heap.objs.size->b≠s.heap.objs.size+1:=fun b hb=>bf (cJ hb);have old:∀b o,s.heap.get? b=some o->h₁.get? b=some o:=fun b o e=>hsb₁.extBut b o (below b (aB e)) (ar _ (hH2 ▸ ar _ e));have hD:h₁.get? s.heap.objs.size=some {cls:= .type "list",dict:=none,data:= .seq ([]:List Value).toArray}:=
  hsb₁.extBut _ _ hDC (ar _ (hH2 ▸ aU _ rfl))
 have frC:H (s.heap.objs.size+1)=none:=I.hok.fresh (aY _);have frD:H s.heap.objs.size=none:=I.hok.fresh (aq _);have J0:Inv (iw X scope (cF++cs) s H fp) [] (zf cF.length caps σ) (upd H s.heap.objs.size (.lst [])) {s with heap:=h₁,toks:=s.toks+([]:List (Str × Value)).length}:=by
  refine⟨uY I hb hf hlt,rfl,I.bare,Un.laid old (aq _) frD,⟨_,hns₁,fun i x v e1 e2 e3=> ?_⟩,fun x c e=> ?_,?_,fun x c e=> ?_,fun p hp=>absurd (show p∈([]:List (Addr × Obj)) from hp) (by simp),?_,?_⟩
  · have e1':(cF++cs)[i]? =some x:=e1;have hi:cF.length<=i:=by
     rcases fP i cF.length with hi | hi
     · unfold zf at e2;rw[bM (by simpa using hi),nV] at e2
       split at e2<;>cases e2
     · exact hi
    rw[bV hi] at e1';obtain⟨k,q1,q2,q3⟩:=q_ hcap e1';unfold zf at e2;rw[bV (by simpa using hi),fA,aV,q1] at e2;have e2':(σ[k]?).getD none=some v:=by simpa using e2
    have e4:σ[k]? =some (some v):=by
     cases z:σ[k]? with
     | none=>rw[z] at e2';cases e2'
     | some o=>rw[z] at e2';simp at e2';rw[e2']
    have hfr:=(gL hb _ (cH q3)).2.2 rfl;obtain⟨m,hn,hl⟩:=I.loc;obtain⟨u,r,l⟩:=hl k x v q2 e4 (hfr.elim (fun z=> .inr (.inl z)) fun z=> .inr (.inr z));refine⟨u,r,.inr ⟨?_,?_⟩⟩
    · exact eW q3
    · rcases l with⟨k1,_⟩ | ⟨_,c,ec,z⟩
      · exfalso
        have k1':X.env.scope.names.lookup x=some .local:=k1;rcases hfr with z | z<;>(rw[k1'] at z;cases z)
      · obtain⟨c',ec'⟩:=kj (cells:=X.env.cells) scope.names [] (cH q3);have q:=(capOf_some scope.names [] (dg I hb) ec').resolve_left (by simp);rw[ec] at q;cases q;obtain⟨o,ho,hd⟩:=z;exact⟨c,ec',o,old _ _ ho,hd⟩
  · have q:=(capOf_some scope.names [] (dg I hb) e).resolve_left (by simp);obtain⟨v,o,ho,hd⟩:=I.cell x c q;exact⟨v,o,old _ _ ho,hd⟩
  · show upd H s.heap.objs.size (.lst []) (s.heap.objs.size+1)=none;rw[aM (bB hDC)];exact frC
  · have q:=(capOf_some scope.names [] (dg I hb) e).resolve_left (by simp);obtain⟨v,o,ho,hd⟩:=I.cell x c q;rw[aM (bf (aB ho))];exact I.freeC x c q
  · exact I.hok.laid old (aq _) ⟨au _,[],0,.nil,hD⟩
  · show(zf cF.length caps σ).length=(cF++cs).length;unfold zf;rw[ak,fA,aw,ak,qZ hcap]
 obtain⟨W,⟨m0,w0⟩,turn⟩:=h;have stat:∀{H':Hp},(∀b∈fp,H' b=none)->∀b∈fp,kF (iw X scope (cF++cs) s H fp) [] H' b:=fun {H'} hn b hbm=>by
  have q:=(uY (N:=cF++cs) I hb hf hlt);refine⟨hn b hbm,(q.exf b hbm).1,q.exfs b hbm,.inl hbm,(q.exf b hbm).2,fun p hp=>absurd (show p∈([]:List (Addr × Obj)) from hp) (by simp)⟩
 have fr0:∀b∈fp,upd H s.heap.objs.size (.lst []) b=none:=fun b hbm=>by rw[aM (bf (hlt b hbm))];exact(hf b hbm).1
 have loop:∀s₃:Shared,s₃={s with heap:=h₁,toks:=s.toks+([]:List (Str × Value)).length}->
  codeAny (model X.prog X.w) X.A (.compLoop (.ListComp elt [⟨tg,iter,ifs,0⟩] scope pos) 0 (.ref it) (.ref s.heap.objs.size) (iw X scope (cF++cs) s H fp).env) (RR (.ref s.heap.objs.size) (s.heap.objs.size+1)) s₃:=by
  rintro s₃ rfl;refine Bp (fun n s'=>∃i σ' H',Inv (iw X scope (cF++cs) s H fp) [] σ' H' s'/\tn i s'.heap/\(∀b∈fp,H' b=none)/\W i n σ' H') ?_ m0 ⟨0,_,_,J0,T.keep _ _ _ st fun b _ o e=>old b o e,fr0,w0⟩;rintro n s3 ⟨i,σ3,H3,I3,st3,fr3,w3⟩;rcases turn i n σ3 H3 w3 with⟨stop,qn⟩ | ⟨go,Nn,hNn,step⟩
  · refine cX (T.done (iw X scope (cF++cs) s H fp) rfl rfl rfl hc i [] s3 σ3 H3 _ I3 (stat fr3) st3 stop) fun r s4 ⟨hr,I4⟩=> ?_;subst hr;exact hRR σ3 H3 s4 I4 qn
  · refine cX (T.item (iw X scope (cF++cs) s H fp) rfl rfl rfl hc i [] s3 σ3 H3 _ I3 (stat fr3) st3 go) fun r s4 ⟨u,hr,h4⟩=> ?_;subst hr;refine cX h4 fun _ s5 ⟨x,H5,I5,r5,y5,st5,fr5⟩=> ?_;have I5':=I5.pinned (stat fr5) (T.obj _ _ st5);have again:∀{σ7:St} {H7:Hp} {s7:Shared},Inv (iw X scope (cF++cs) s H fp) ([]++k9 fp s5.heap) σ7 H7 s7->Nn σ7 H7->
     ∃m,m<n/\∃i σ' H',Inv (iw X scope (cF++cs) s H fp) [] σ' H' s7/\tn i s7.heap/\(∀b∈fp,H' b=none)/\W i m σ' H':=fun {σ7 H7 s7} I7 n7=>by
     obtain⟨m',hm,w7⟩:=hNn σ7 H7 n7;refine⟨m',hm,i+1,σ7,H7,I7.unpinned,T.keep _ _ _ st5 fun b hb o e=>(I7.pin (b,o) (be _ (be _ (fO hb e)))).1,fun b hb=> ?_,w7⟩;obtain⟨o,e,d⟩:=T.obj _ _ st5 b hb;exact(I7.pin (b,o) (be _ (be _ (fO hb e)))).2.1
    refine cX (hg _ s5 σ3 H5 x u _ I5' r5 (step x H5 y5)) fun _ s6 ⟨σ6,H6,I6,q6⟩=> ?_;refine cX (ht _ s6 σ6 H6 _ I6 q6) fun b s7 ⟨H7,I7,q7⟩=> ?_;cases b with
    | false=>exact again I7 q7
    | true=>
      refine cX (he _ s7 σ6 H7 _ I7 q7) fun u8 s8 ⟨v8,H8,I8,r8,xs,e8,z8,q8⟩=> ?_;refine cX (sW (X:=iw X scope (cF++cs) s H fp) ([]++k9 fp s5.heap) s8 σ6 H8 (.ref s.heap.objs.size) [v8] (.ref s.heap.objs.size) [u8] (fun _ H9=>Nn σ6 H9) I8 rfl (.cons r8 .nil) ⟨xs,e8,z8,q8⟩) fun _ s9 ⟨_,H9,I9,_,q9⟩=> ?_;exact again I9 q9
 exact codeAny_compStart_list (loop _ rfl) (T.self _ 0 _ _ _ (T.keep _ _ _ st fun b _ o e=>old b o e) (loop _ rfl))
def pE{X:Cx}{tg iter elt:Expr}{ifs:List Expr}{scope:Scope}{pos:Pos}{wi:TI}{g:TG}{tc:TT}{te:TE}(cF cs:List Str)(caps:List Nat)(hc:X.calm=true)(hi:PI X tg iter wi)(hg:∀s H fp,PG (iw X scope (cF++cs) s H fp) tg g)(ht:∀s H fp,Ea (iw X scope (cF++cs) s H fp) ifs tc)(he:∀s H fp,PE (iw X scope (cF++cs) s H fp) elt te)(hb:jU scope X.env.scope=true:=by rfl)(hcap:fG X.N scope cs caps=true:=by rfl)(hs:∀x,foldedSetIterable iter X.env x=pure x:=by intro _;rfl):PE X (.ListComp elt [⟨tg,iter,ifs,0⟩] scope pos) (F3 wi g tc te cF.length caps):=by
 intro pins s σ H Q I h;rw[eval_ListComp];refine lU (use:=none) rfl hs (jT (dg I hb)) (iK hb) (fun y hy=>(gL hb y hy).2.1) (cX (hi pins s σ H _ I h) fun v s1 h1=>cX h1 fun itv s2 h2=> ?_);obtain⟨it,fp,tn,J,H2,e,I2,T,st2,f2,q⟩:=h2;subst e;refine qX (RR:=fun acc C=>compPost (model X.prog X.w) X.A X.xe none (EP X pins σ Q) acc C) (cF:=cF) (cs:=cs) (Fin:=fun H'=>Q (.ref s2.heap.objs.size) H') hc hb hcap I2 T st2 f2 (hg _ _ _) (ht _ _ _) (he _ _ _) (q _ (I2.hok.fresh (aq _))) ?_;intro σ' H' s' J' q';obtain⟨m,hn,_⟩:=J'.loc;refine⟨m,hn,fun h' hs'=> ?_⟩;have I3:=qU I2 f2 J';have fr:H' (s2.heap.objs.size+1)=none:=J'.free;refine⟨.ref s2.heap.objs.size,H',I3.turned (t':=s'.toks) (it:=s2.heap.objs.size+1) (fun b o hb e=>(hs'.2 b hb).trans e) fr ?_ (.inr (ao I2.sz (aY _))) ?_ ?_,rfl,q'⟩
 · exact eC (cJ I2.lt)
 · intro x c e z;obtain⟨v,hv⟩:=I2.cell x c e;have h1:s2.heap.objs.size+1<s2.heap.objs.size:=z ▸ hv.lt;exact absurd h1 (oV.mpr (aY _))
 · intro p hp z;have h1:s2.heap.objs.size+1<s2.heap.objs.size:=z ▸ aB (I2.pin p hp).1;exact absurd h1 (oV.mpr (aY _))
def EN{X:Cx}{tg iter elt:Expr}{ifs:List Expr}{scope:Scope}{pos:Pos}{wi:TI}{g:TG}{tc:TT}{te:TE}{i:Nat}{y:Str}{py spos:Pos}(cF cs:List Str)(caps:List Nat)(hN:X.N.Nodup)(hiy:X.N[i]? =some y)(hc:X.calm=true)(hi:PI X tg iter wi)(hg:∀s H fp,PG (iw X scope (cF++cs) s H fp) tg g)(ht:∀s H fp,Ea (iw X scope (cF++cs) s H fp) ifs tc)(he:∀s H fp,PE (iw X scope (cF++cs) s H fp) elt te)(hy:X.env.scope.names.lookup y=some .local:=by rfl)(hsw:swapsWith (.ListComp elt [⟨tg,iter,ifs,0⟩] scope pos) (some (.Name y py)) spos.line X.env=pure true:=by rfl)(hb:jU scope X.env.scope=true:=by rfl)(hcap:fG X.N scope cs caps=true:=by rfl)(hs:∀x,foldedSetIterable iter X.env x=pure x:=by intro _;rfl):PS X (.Assign [.Name y py] (.ListComp elt [⟨tg,iter,ifs,0⟩] scope pos) spos) (Em (F3 wi g tc te cF.length caps) (gm i)):=by
 intro pins s σ H D I h;rw[exec_Assign_Name_used _ _ _ _ hsw];refine aa (dG (aa ?_));show wpAny _ X.A (do let _<-comprehension (.ListComp elt [⟨tg,iter,ifs,0⟩] scope pos) scope X.env _ (newList []) false (eval iter X.env) (some (assign (.Name y py) X.env))) _ _ s;refine aa (bJ (lU (use:=some (assign (.Name y py) X.env)) (Q:=fun _ s'=>SP X pins D .next s') rfl hs (jT (dg I hb)) (iK hb) (fun y hy=>(gL hb y hy).2.1)
  (cX (hi pins s σ H _ I h) fun v s1 h1=>cX h1 fun itv s2 h2=> ?_)) (fun _ s' hq=>aA (aA hq)) fun _ _ e=>e)
 obtain⟨it,fp,tn,J,H2,e,I2,T,st2,f2,q⟩:=h2;subst e;refine qX (RR:=fun acc C=>compPost (model X.prog X.w) X.A X.xe (some (assign (.Name y py) X.env)) (fun _ s'=>SP X pins D .next s') acc C) (cF:=cF) (cs:=cs) (Fin:=fun H'=>gm i (.ref s2.heap.objs.size) σ H' D.nx) hc hb hcap I2 T st2 f2 (hg _ _ _) (ht _ _ _) (he _ _ _) (q _ (I2.hok.fresh (aq _))) ?_;intro σ' H' s' J' q';obtain⟨m,hn,_⟩:=J'.loc;have I3:=qU I2 f2 J';have fr:H' (s2.heap.objs.size+1)=none:=J'.free;have neL:s2.heap.objs.size+1≠X.env.locals:=eC (cJ I2.lt);have neC:∀x c,X.env.cells.lookup x=some c->c≠s2.heap.objs.size+1:=fun x c e z=>by
  obtain⟨v,hv⟩:=I2.cell x c e;have h1:s2.heap.objs.size+1<s2.heap.objs.size:=z ▸ hv.lt;exact absurd h1 (oV.mpr (aY _))
 show wpAny _ X.A (assign (.Name y py) X.env (.ref s2.heap.objs.size)) _ _ s';refine ML (r_ I3 hN hiy (.inl hy) (v:= .ref s2.heap.objs.size) rfl (fun s4 I4 hsb=> ?_) (.inr hy));obtain⟨a,sb,ha⟩:=hsb;have ane:s2.heap.objs.size+1≠a:=by
  rcases ha with rfl | ha
  · exact neL
  · exact bB (neC _ _ ha)
 refine⟨m,hn.sameBut sb ane,fun h' hs'=> ?_⟩;refine⟨_,H',I4.turned (t':=s4.toks) (it:=s2.heap.objs.size+1) (fun b o hb e=>(hs'.2 b hb).trans e) fr neL (.inr (ao I2.sz (aY _))) neC ?_,q'⟩;intro p hp z;have h1:s2.heap.objs.size+1<s2.heap.objs.size:=z ▸ aB (I2.pin p hp).1;exact absurd h1 (oV.mpr (aY _))
end
noncomputable def L7(x:Str):It:=⟨fun i _=>i<x.cps.size,fun i H v H'=>H'=H/\∃c,x.cps[i]? =some c/\v= .str ⟨#[c]⟩,fun i _=>i=x.cps.size⟩
def BL{K:Frag}(it:Addr)(x:Str)(t:Tok)(T:String)(hT:T="str_ascii_iterator"\/T="str_iterator")(W:∀A':Around,A'.handled=none->Walks P w A' it [it] [it] x.cps.size (SignAt x) (fun i h=>h.IsStrIter it T x t i)):xr P w K tg (L7 x) [it] it (fun i h=>h.IsStrIter it T x t i) where
 mem:=by simp
 obj:=fun i h st b hb=>by
  have e:b=it:=by simpa using hb
  subst e;obtain⟨o,e,c,d⟩:=st;exact⟨o,e,fun v z=>by rw[d] at z;cases z⟩
 keep:=fun i h h' st k=>by
  obtain⟨o,e,r⟩:=st;exact⟨o,k it (by simp) o e,r⟩
 item:=by
  intro X hP hw hK hc i pins s σ H E I hf st hg;subst hP hw hK;obtain⟨f0,f1,f2,f3,f4,f5⟩:=hf it (by simp);refine(W X.A (I.ok.hd hc)).item i s _ _ hg st fun v h' tk hv st' kk=> ?_;obtain⟨c,u,hcx,rfl⟩:=hv;have I1:Inv X pins σ H {s with heap:=h',toks:=tk}:=I.turned (fun b o hb e=>kk b o (by simpa using hb) e) f0 f1 f3 f4 f5;obtain⟨o,e,c1,d⟩:=id st';refine⟨_,rfl,Dy (s:={s with heap:=h',toks:=tk}) e c1 d (by rcases hT with rfl | rfl<;>decide) ⟨.str ⟨#[c]⟩,H,I1,⟨u,rfl⟩,⟨rfl,c,hcx,rfl⟩,st',fun b hb=>(hf b hb).1⟩⟩
 done:=by
  intro X hP hw hK hc i pins s σ H E I hf st hg;subst hP hw hK;have hg':i=x.cps.size:=hg;subst hg';obtain⟨f0,f1,f2,f3,f4,f5⟩:=hf it (by simp);exact(W X.A (I.ok.hd hc)).done s _ _ st fun h' tk kk=>⟨rfl,I.turned (fun b o hb e=>kk b o (by simpa using hb) e) f0 f1 f3 f4 f5⟩
 self:=fun A i s Q E st h=>by
  rcases hT with rfl | rfl
  · exact wpAny_pyIter_striter_ascii st h
  · exact wpAny_pyIter_striter_wide st h
section
def Lk(tl:TE):TI:=fun σ H R=>tl σ H fun x H1=>∃z,x= .str z/\R (L7 z) H1
def Hh(hl:PE X l tl):PI X tg l (Lk tl):=by
 intro pins s σ H R I h;refine cX (hl pins s σ H _ I h) fun v s1 ⟨x,H1,I1,r1,q1⟩=> ?_;obtain⟨z,rfl,q⟩:=q1;obtain⟨t,rfl⟩:=r1;have fin:∀(T:String) (o:Obj),(T="str_ascii_iterator"\/T="str_iterator")->(∀A':Around,A'.handled=none->Walks X.prog X.w A' s1.heap.objs.size [s1.heap.objs.size] [s1.heap.objs.size] z.cps.size (SignAt z) (fun i h=>h.IsStrIter s1.heap.objs.size T z t i))->
  (s1.heap.push o).IsStrIter s1.heap.objs.size T z t 0->Lu X pins σ tg R (.ref s1.heap.objs.size) {s1 with heap:=s1.heap.push o}:=fun T o hT W st=>by
  refine⟨s1.heap.objs.size,[s1.heap.objs.size],_,_,H1,rfl,I1.kept (t':=s1.toks) fun b o e=>ar _ e,BL _ z t T hT W,st,fun b hb=> ?_,q⟩;have e:b=s1.heap.objs.size:=by simpa using hb
  subst e;exact I1.fpOk (aq _) (I1.hok.fresh (aq _))
 cases ha:z.cps.all (· <128)
 · exact wpAny_pyIter_wide ha (fin "str_iterator" _ (.inr rfl) (fun A' hA=>Walks.strWide hA _ z t) ⟨_,aU _ rfl,rfl,rfl⟩)
 · exact wpAny_pyIter_ascii ha (fin "str_ascii_iterator" _ (.inl rfl) (fun A' hA=>Walks.strAscii hA _ z t) ⟨_,aU _ rfl,rfl,rfl⟩)
end
section
def wo(p:IsPart u o):∃l:Option (Int × Tok),u=partValue l/\l.map (·.1)=o:=by
 cases p with
 | none=>exact⟨none,rfl,rfl⟩
 | int i t=>exact⟨some (i,t),rfl,rfl⟩
def KZ:V->Option Int->Option Int->Hp->VK->Prop:=fun x lo hi H Q=>∃z,x= .str z/\z.length<=sizeLine/\Q (.str (Txt.slice z lo hi)) H
def qi:Kl X KZ:=by
 intro pins s σ H x v vl vu lo hi sl Q I rx hs pl pu h;obtain⟨z,rfl,hz,q⟩:=h;obtain⟨t,rfl⟩:=rx;obtain⟨l,rfl,rfl⟩:=wo pl;obtain⟨u,rfl,rfl⟩:=wo pu;refine⟨"str",_,F.slot_str_getitem.lookup,Md _ _ _,wpAny_getItem_str_slice (l:=l) (u:=u) (st:=none) hs rfl ?_⟩;exact post_val_or_str ⟨ao (Txt.slice_le z _ _) hz,fun t' k=>⟨.str (Txt.slice z (l.map (·.1)) (u.map (·.1))),H,I.tok _,⟨t',rfl⟩,q⟩⟩
def Fu(lo hi:Option Int)(n:Nat):Builtin.Str.strSliceIndices lo hi 1 n=(List.range (HT.sIx n n hi - HT.sIx n 0 lo)).map fun k=>HT.sIx n 0 lo+k:=by
 have c:∀(v:Int) (d:Nat),max 0 (min (if v<0 then v+(n:Int) else v) (n:Int))=((HT.sIx n d (some v):Nat):Int):=fun v d=>by
  rw[<-HT.clip_eq v n d];by_cases hv:v<0
  · simp only[aK hv];lia
  · simp only[aG hv];lia
 have key:∀i j:Nat,sliceRange (i:Int) (j:Int) 1=(List.range (j - i)).map fun k=>i+k:=fun i j=>by
  unfold sliceRange;simp only[show(1:Int)>0 by decide,jR];have e:(if(i:Int)<(j:Int) then((j:Int) - i+1 - 1)/1 else 0).toNat=j - i:=by
   split<;>lia
  rw[e];refine List.map_congr_left fun k _=> ?_
  lia
 rw[<-key];unfold Builtin.Str.strSliceIndices;simp only[show(1:Int)>0 by decide,jR];cases lo with
 | none=>
   cases hi with
   | none=>rfl
   | some v=>rw[<-c v n];rfl
 | some u=>
   cases hi with
   | none=>rw[<-c u 0];rfl
   | some v=>rw[<-c v n,<-c u 0]
def gN(x:Str)(lo hi:Option Int):(Txt.slice x lo hi).cps.toList=(x.cps.toList.drop (HT.sIx x.length 0 lo)).take (HT.sIx x.length x.length hi - HT.sIx x.length 0 lo):=by
 have h0:=HT.sIx_le x.length 0 (au _) lo;have h1:=HT.sIx_le x.length x.length (aq _) hi;have hx:x.cps.toList.length=x.length:=by simp[Str.length]
 unfold Txt.slice;rw[Fu]
 split
 · rename_i h;rw[ba] at h;have h':HT.sIx x.length x.length hi - HT.sIx x.length 0 lo=x.length:=by
    have z:=h.2;rw[aw,g_] at z;exact eq_of_beq z
   have h2:HT.sIx x.length 0 lo=0:=by lia
   rw[h',h2,FP,oW (by lia)]
 · show(List.filterMap _ _).toArray.toList=_;rw[MH];apply MU;intro k;have key:(List.range (HT.sIx x.length x.length hi - HT.sIx x.length 0 lo)).filterMap ((fun i=>x.cps[i]?)∘fun k=>HT.sIx x.length 0 lo+k)=(x.cps.toList.drop (HT.sIx x.length 0 lo)).take (HT.sIx x.length x.length hi - HT.sIx x.length 0 lo):=by
    generalize HT.sIx x.length 0 lo=i at h0⊢;have hj:i+(HT.sIx x.length x.length hi - i)<=x.length\/HT.sIx x.length x.length hi - i=0:=by lia
    generalize HT.sIx x.length x.length hi - i=d at hj⊢
    induction d with
    | zero=>simp
    | succ d ih=>
      rw[jt,Ko,ih (by lia),bF]
      congr 1
      have hlt:i+d<x.cps.size:=by simp[Str.length] at hj;lia
      simp[hlt]
   simpa using congrArg (fun l:List Nat=>l[k]?) key
def Hd:V->List V->Hp->VK->Prop:=fun x vs H Q=>∃z,x= .str z/\vs=[]/\z.length<=1000/\Q (.str (Txt.upper z)) H
def C1:J1 X "str.upper" Hd:=by
 intro pins s σ H x xs v us Q I rx rs h;obtain⟨z,rfl,rfl,hz,q⟩:=h;obtain⟨t,rfl⟩:=rx;cases rs;exact SCL.upper (by lia) fun _=>⟨.str (Txt.upper z),H,I.tok _,⟨_,rfl⟩,q⟩
def j8:ju X (compareOp .LtE) (fun x y H Q=>∃i j,x= .str i/\y= .str j/\Q (.bl (!decide (j.cps.toList<i.cps.toList))) H):=by
 intro pins s σ H x y v u Q I rx ry h;obtain⟨i,j,rfl,rfl,q⟩:=h;obtain⟨t,rfl⟩:=rx;obtain⟨t',rfl⟩:=ry;exact P.le_str ⟨.bl (!decide (j.cps.toList<i.cps.toList)),H,I,rfl,q⟩
def Ay(bs:List Bool):(List.range bs.length).all (fun i=>(bs[i]?).getD true)=bs.all id:=by
 rw[gB,dU,dU];constructor
 · intro h b hb;obtain⟨i,hi,e⟩:=jk.mp hb;have q:=h i (cy.mpr hi);rw[aE hi,e] at q;exact q
 · intro h i hi;have hi':=cy.mp hi;rw[aE hi'];exact h _ (iO hi')
def Bv(hc:X.calm=true):jZ X (.builtin "all") (fun xs H Q=>∃(p:Addr) (bs:List Bool),xs=[.ref p]/\SqL X.K H p (bs.map V.bl)/\Q (.bl (bs.all id)) H):=by
 intro pins s σ H xs us Q I r h;obtain⟨p,bs,rfl,hp,q⟩:=h;obtain⟨u,rfl,ru⟩:=r.one;cases ru;obtain⟨its,rv,pl,hz⟩:=I.list hp;have hh:X.A.in1.handled=none:=I.ok.hd hc;have hlt:p<s.heap.objs.size:=by obtain⟨_,e,_⟩:=pl.isList;exact aB e
 have hlen:its.length=bs.length:=by have:=rv.length;simpa using this.symm
 refine call_all_walk (MK pl.isList ⟨s.heap.objs.size,[s.heap.objs.size,p],[s.heap.objs.size],its.toArray.size,_,_,fun i=>(bs[i]?).getD true,rfl,Walks.list hh _ _ (bf hlt) its.toArray,⟨⟨_,aU _ rfl,rfl,rfl⟩,pl.isList.push _⟩,?_,?_⟩)
 · intro i v s' Q' E' hv hq;have hv':its[i]? =some v:=by simpa using hv
   cases hb:bs[i]? with
   | none=>
     have z:bs.length<=i:=by simpa using hb
     rw[rq (by lia)] at hv';cases hv'
   | some b=>
     obtain⟨u,hu,ru⟩:=rv.get (i:=i) (x:=V.bl b) (by rw[aV,hb];rfl);rw[hv'] at hu;cases hu;obtain rfl:v=Value.bool b:=ru;have hq':Q' b s':=by
      have z:(fun i=>(bs[i]?).getD true) i=b:=by simp[hb]
      rw[z] at hq;exact hq
     exact cY hq'
 · intro h' tk hk;have I1:Inv X pins σ H {s with heap:=h',toks:=tk}:=I.kept fun b o e=>hk b o (fun z=>by
    have z':b=s.heap.objs.size:=by simpa using z
    exact absurd (z' ▸ aB e) (fm _)) (ar _ e)
   refine⟨.bl (bs.all id),H,I1,?_,q⟩;show Value.bool _=Value.bool _;rw[aQ,hlen,Ay]
def oK:jZ X (.builtin "isinstance") (fun xs H Q=>∃x n t b,xs=[x,.ty n]/\TyOf X.K H x t/\kitOne X.K t (.type n)=some b/\Q (.bl b) H):=by
 intro pins s σ H xs us Q I r h;obtain⟨x,n,t,b,rfl,ty,e,q⟩:=h;obtain⟨u,v,rfl,ru,rv⟩:=r.two;cases rv;exact Ba I ru ty e fun tk=>⟨.bl b,H,I.tok _,rfl,q⟩
end
section
end
inductive Kd where
 | nm (x:Str)
 | two (a b:Kd)
 | som (r:Str) (c:Kd)
 deriving DecidableEq
noncomputable def Kd.dep:Kd->Nat
 | .nm _=>0
 | .two a b=>1+max a.dep b.dep
 | .som _ c=>1+c.dep
noncomputable def Kd.nt:Kd->Nat
 | .nm _=>0
 | .two a b=>1+a.nt+b.nt
 | .som _ c=>1+c.nt
noncomputable def Kd.sz:Kd->Nat
 | .nm _=>1
 | .two a b=>1+a.sz+b.sz
 | .som _ c=>1+c.sz
noncomputable def Kd.inner:Kd->List Kd
 | .nm _=>[]
 | .two a b=>[a,b]
 | .som _ c=>[c]
theorem Kd.dep_le_nt:∀k:Kd,k.dep<=k.nt
 | .nm _=>aq _
 | .two a b=>by
   have h1:=dep_le_nt a;have h2:=dep_le_nt b;simp only[Kd.dep,Kd.nt];lia
 | .som _ c=>by
   have h1:=dep_le_nt c;simp only[Kd.dep,Kd.nt];lia
def IsK(H:Hp):Kd->V->Prop
 | .nm x,v=>v= .str x
 | .two a b,v=>∃(p:Addr) (x y:V),v= .ref p/\H p=some (.tup [.str "both",x,y])/\IsK H a x/\IsK H b y
 | .som r c,v=>∃(p:Addr) (y:V),v= .ref p/\H p=some (.tup [.str "some",.str r,y])/\IsK H c y
def Tups(H H':Hp):Prop:=∀b xs,H b=some (.tup xs)->H' b=some (.tup xs)
def Tups.refl(H:Hp):Tups H H:=fun _ _ h=>h
def Tups.trans(a:Tups H H1)(b:Tups H1 H2):Tups H H2:=fun c o h=>b c o (a c o h)
def Same.tups(h:Same H H'):Tups H H':=fun b xs e=>h b _ e
def lX(h:H p=none):Tups H (upd H p o):=(af h o).tups
theorem IsK.mono(t:Tups H H'):∀{k:Kd} {v:V},IsK H k v->IsK H' k v
 | .nm _,_,h=>h
 | .two _ _,_,⟨p,x,y,e,h,ha,hb⟩=>⟨p,x,y,e,t _ _ h,IsK.mono t ha,IsK.mono t hb⟩
 | .som _ _,_,⟨p,y,e,h,hc⟩=>⟨p,y,e,t _ _ h,IsK.mono t hc⟩
def mP:(Str.ofString "both":Str)≠Str.ofString "some":=by decide+kernel
section
def iJ(A:Around):A.in1.units=A.units+1:=rfl
end
def KL(H:Hp):List V->List Kd->Prop:=Paired fun v k=>IsK H k v
def KL.mono{H H':Hp}(t:Tups H H'){xs:List V}{ks:List Kd}(h:KL H xs ks):KL H' xs ks:=Paired.imp' (fun _ _ q=>IsK.mono t q) h
def KL.len(h:KL H xs ks):xs.length=ks.length:=aR h
theorem KL.get:∀{xs:List V} {ks:List Kd} {i:Nat} {v:V},KL H xs ks->xs[i]? =some v->∃k,ks[i]? =some k/\IsK H k v
 | _,_,_,_,.nil,e=>by simp at e
 | _,_,0,_,.cons r _,e=>by simp at e;subst e;exact⟨_,rfl,r⟩
 | _,_,i+1,v,.cons _ t,e=>by
   obtain⟨u,h1,h2⟩:=KL.get (i:=i) (v:=v) t (by simpa using e);exact⟨u,by simpa using h1,h2⟩
section
end
section
abbrev TF:=Str->St->Hp->(Str->Hp->Prop)->Prop
def PF(X:Cx)(es:List Expr)(t:TF):Prop:=∀(pins:List (Addr × Obj)) (s:Shared) (σ:St) (H:Hp) (out:Str) (Q:Str->Hp->Prop),Inv X pins σ H s->t out σ H Q->wpAny (model X.prog X.w) X.A (joinParts out (evalEach es X.env)) (fun v s'=>∃z H',Inv X pins σ H' s'/\RelV (.str z) v/\Q z H') X.xe s
def Mj:TF:=fun out _ H Q=>out.length<=sizeLine/\Q out H
def LI(te:TE)(t:TF):TF:=fun out σ H Q=>te σ H fun x H1=>∃y,x= .str y/\y.length<=sizeLine/\(out++y).length<=sizeLine/\t (out++y) σ H1 Q
def ye:PF X [] Mj:=fun pins s σ H out Q I h=>joinParts_nil ⟨out,H,I.tok _,⟨_,rfl⟩,h.2⟩ h.1
def jN(he:PE X e te)(hr:PF X es t):PF X (e::es) (LI te t):=by
 intro pins s σ H out Q I h;show wpAny _ _ (joinParts out (eval e X.env::evalEach es X.env)) _ _ s;refine joinParts_cons (cX (he pins s σ H _ I h) fun v s1 ⟨x,H1,I1,r1,q1⟩=> ?_);obtain⟨y,rfl,_,hz,q⟩:=q1;obtain⟨u,rfl⟩:=r1;exact⟨hz,hr pins s1 σ H1 (out++y) Q I1 q⟩
def qy(he:PE X e te)(hr:PF X es t):PF X (.FormattedValue e (-1) none pos::es) (LI te t):=by
 intro pins s σ H out Q I h;show wpAny _ _ (joinParts out (eval (.FormattedValue e (-1) none pos) X.env::evalEach es X.env)) _ _ s;refine joinParts_cons (FormattedValue_plain (cX (he pins s σ H _ I h) fun v s1 ⟨x,H1,I1,r1,q1⟩=> ?_));obtain⟨y,rfl,hy,hz,q⟩:=q1;obtain⟨u,rfl⟩:=r1;exact formatField_str (fun t' tk=>⟨hz,hr pins _ σ H1 (out++y) Q (I1.tok _) q⟩) hy
def Mi(t:TF):TE:=fun σ H Q=>t Str.empty σ H fun z H'=>Q (.str z) H'
def um{rest:List Expr}(h:PF X (v1::v2::rest) t):PE X (.JoinedStr (v1::v2::rest) pos) (Mi t):=by
 intro pins s σ H Q I q;refine JoinedStr_many (cX (h pins s σ H Str.empty _ I q) fun v s1 ⟨z,H1,I1,r1,q1⟩=>⟨.str z,H1,I1,r1,q1⟩)
end
section
end
section
end
section
def Inv.turnedL{σ:St}{fp:List Addr}(I:Inv X pins σ H s)(hf:∀b∈fp,kF X pins H b)(k:∀b o,b∉fp->s.heap.get? b=some o->h'.get? b=some o):Inv X pins σ H {s with heap:=h',toks:=t'}:=by
 have nit:∀b u,H b=some u->b∉fp:=fun b u e z=>by rw[(hf b z).1] at e;cases e
 refine I.step (g':=s.gens) (d':=s.drawn) (ch:=fp) (fun b hb=> ?_) (fun b o _ _ hc e _=>k b o hc e) (fun b o _ _ hc e _=>⟨o.slots,k b o hc e⟩) (fun _ _ _ _ n=>n) (fun b o hc e=>⟨o,k b o hc e⟩) (fun _ _ e=>e) (fun _ _ _ e=>e) (fun b ps e=>⟨#[],by rw[e];simp⟩) (fun m hm=> ?_) (fun b u e=> ?_) I.bare
 · obtain⟨f0,f1,f2,f3,f4,f5⟩:=hf b hb;exact⟨f3,f1,f4,f5⟩
 · obtain⟨o,es,ep,ho,r⟩:=hm;exact⟨o,es,ep,k _ o (fun z=>(hf _ z).2.1 rfl) ho,r⟩
 · refine(I.hok b u e).stay (fun c v hc q=>k c v ?_ q) (fun _ q=>q) fun _ _ q=>q;rcases hc with z | z
   · rw[z];exact nit b u e
   · exact nit c _ z
def Inv.turnedT{σ:St}{fp:List Addr}{T:Addr}(I:Inv X pins σ H s)(hf:∀b∈fp,kF X pins H b)(k:∀b o,b∉fp->s.heap.get? b=some o->h'.get? b=some o)(hT:s.heap.objs.size<=T)(new:ObjOk X.prog X.w (upd H T u) h' T u):Inv X pins σ (upd H T u) {s with heap:=h',toks:=t'}:=by
 have nit:∀b u,H b=some u->b∉fp:=fun b u e z=>by rw[(hf b z).1] at e;cases e
 have hn:H T=none:=I.hok.fresh hT;have nT:∀b o,s.heap.get? b=some o->b≠T:=fun b o e=>bf (ah (aB e) hT);refine I.step (g':=s.gens) (d':=s.drawn) (ch:=fp) (fun b hb=> ?_) (fun b o _ _ hc e _=>k b o hc e) (fun b o _ _ hc e _=>⟨o.slots,k b o hc e⟩) (fun b o _ e n=>by rw[aM (nT b o e)];exact n)
  (fun b o hc e=>⟨o,k b o hc e⟩) (fun b xs e=>by rw[aM (bI e hn)];exact e) (fun b o u e=>by rw[aM (bI e hn)];exact e) (fun b ps e=>⟨#[],by rw[aM (bI e hn),e];simp⟩) (fun m hm=> ?_) (fun b u' e=> ?_) I.bare
 · obtain⟨f0,f1,f2,f3,f4,f5⟩:=hf b hb;exact⟨f3,f1,f4,f5⟩
 · obtain⟨o,es,ep,ho,r⟩:=hm;exact⟨o,es,ep,k _ o (fun z=>(hf _ z).2.1 rfl) ho,r⟩
 · by_cases hb:b=T
   · subst hb;rw[ae] at e;cases e;exact new
   · rw[aM hb] at e;refine(I.hok b u' e).stay (fun c v hc q=>k c v ?_ q) (fun c q=>by rw[aM (bI q hn)];exact q) fun c xs q=>by rw[aM (bI q hn)];exact q
     rcases hc with z | z
     · rw[z];exact nit b u' e
     · exact nit c _ z
end
section
def parts_len(x:Str)(cuts:List Nat)(n:Nat):(Builtin.Str.partsBetween x cuts n).length=cuts.length+1:=by
 unfold Builtin.Str.partsBetween;simp
end
section
variable {κ:Type}[DecidableEq κ]
noncomputable def cZ(kvs:List (κ × V))(k:κ):Option V:=(kvs.find? fun kv=>decide (kv.1=k)).map (·.2)
noncomputable def cq(kvs:List (κ × V))(k:κ)(v:V):List (κ × V):=if(kvs.any fun kv=>decide (kv.1=k))=true then kvs.map (fun kv=>if kv.1=k then(kv.1,v) else kv) else kvs++[(k,v)]
theorem eK{p:κ × V}{r:List (κ × V)}{k:κ}(e:p.1=k):cZ (p::r) k=some p.2:=by simp[cZ,gA,e]
theorem eL{p:κ × V}{r:List (κ × V)}{k:κ}(e:¬ p.1=k):cZ (p::r) k=cZ r k:=by simp[cZ,gA,e]
theorem lW(k:κ):∀kvs:List (κ × V),(kvs.any fun kv=>decide (kv.1=k))=(cZ kvs k).isSome
 | []=>rfl
 | p::r=>by
   rw[iQ];by_cases e:p.1=k
   · simp only[eK e,ax e,Bool.true_or,Option.isSome_some]
   · rw[eL e,ag e,Bool.false_or];exact lW k r
theorem vB(k j:κ)(y:V):∀kvs:List (κ × V),cZ (kvs.map fun kv=>if kv.1=k then(kv.1,y) else kv) j=(cZ kvs j).map fun x=>if j=k then y else x
 | []=>rfl
 | p::r=>by
   have ih:=vB k j y r;rw[bG];by_cases h:p.1=k
   · rw[aK h];by_cases e:p.1=j
     · rw[eK (p:=(p.1,y)) e,eK e,gu,aK (e.symm.trans h)]
     · rw[eL (p:=(p.1,y)) e,eL e,ih]
   · rw[aG h];by_cases e:p.1=j
     · rw[eK (p:=p) e,eK e,gu,aG (fun z=>h (e.trans z))]
     · rw[eL (p:=p) e,eL e,ih]
theorem rY(k j:κ)(y:V):∀kvs:List (κ × V),cZ kvs k=none->cZ (kvs++[(k,y)]) j=if j=k then some y else cZ kvs j
 | [],_=>by
   by_cases e:k=j
   · rw[aK e.symm];exact eK (p:=(k,y)) e
   · rw[aG (fun z=>e z.symm)];exact eL (p:=(k,y)) e
 | p::r,hn=>by
   rw[dR];have hk:¬ p.1=k:=fun z=>by rw[eK z] at hn;cases hn
   rw[eL hk] at hn;have ih:=rY k j y r hn;by_cases e:p.1=j
   · rw[eK e,eK e,aG (fun z=>hk (e.trans z))]
   · rw[eL e,eL e,ih]
theorem jw(kvs:List (κ × V))(k j:κ)(y:V):cZ (cq kvs k y) j=if j=k then some y else cZ kvs j:=by
 unfold cq;by_cases a:(kvs.any fun kv=>decide (kv.1=k))=true
 · rw[aK a,vB];rw[lW] at a;by_cases e:j=k
   · obtain⟨x,hx⟩:=Iw.mp a;rw[aK e,e,hx,gu,aK rfl]
   · rw[aG e];cases cZ kvs j with
     | none=>rfl
     | some x=>rw[gu,aG e]
 · rw[aG a];refine rY k j y kvs ?_;rw[lW] at a;cases q:cZ kvs k with
   | none=>rfl
   | some x=>rw[q] at a;exact(a rfl).elim
theorem dY(kvs:List (κ × V))(k:κ)(v:V):(cq kvs k v).length<=kvs.length+1:=by
 unfold cq
 split
 · rw[aw];lia
 · rw[ak,bj,eh];lia
theorem RelO.isSome_eq{o:Option V}{u:Option Value}(r:RelO o u):o.isSome=u.isSome:=by
 cases o with
 | none=>cases u with
   | none=>rfl
   | some _=>exact(show False from r).elim
 | some _=>cases u with
   | none=>exact(show False from r).elim
   | some _=>rfl
theorem RelO.getD{o:Option V}{u:Option Value}{d:V}{d':Value}(r:RelO o u)(rd:RelV d d'):RelV (o.getD d) (u.getD d'):=by
 cases o with
 | none=>cases u with
   | none=>exact rd
   | some _=>exact(show False from r).elim
 | some _=>cases u with
   | none=>exact(show False from r).elim
   | some _=>exact r
theorem KV.val{kvs:List (κ × V)}{vs:List (κ × Value)}(r:KV kvs vs)(k:κ):RelO (cZ kvs k) (valueAt vs k):=by
 unfold KV at r
 induction r with
 | nil=>exact True.intro
 | @cons p q ps qs h t ih=>
   obtain⟨h1,h2⟩:=h;by_cases e:p.1=k
   · have e':q.1=k:=h1.symm.trans e;have b:valueAt (q::qs) k=some q.2:=by simp[valueAt,gA,e']
     rw[eK e,b];exact h2
   · have e':¬ q.1=k:=fun z=>e (h1.trans z);have b:valueAt (q::qs) k=valueAt qs k:=by simp[valueAt,gA,e']
     rw[eL e,b];exact ih
theorem KV.any{kvs:List (κ × V)}{vs:List (κ × Value)}(r:KV kvs vs)(k:κ):(kvs.any fun kv=>decide (kv.1=k))=vs.any fun kv=>decide (kv.1=k):=by
 unfold KV at r
 induction r with
 | nil=>rfl
 | cons h t ih=>rw[iQ,iQ,ih,h.1]
theorem KV.repl{kvs:List (κ × V)}{vs:List (κ × Value)}(r:KV kvs vs)(k:κ){y:V}{u:Value}(ry:RelV y u):KV (kvs.map fun kv=>if kv.1=k then(kv.1,y) else kv) (vs.map fun kv=>if kv.1=k then(kv.1,u) else kv):=by
 unfold KV at r⊢
 induction r with
 | nil=>exact .nil
 | @cons p q ps qs h t ih=>
   rw[bG,bG];refine .cons ?_ ih;obtain⟨h1,h2⟩:=h;by_cases e:p.1=k
   · rw[aK e,aK (h1.symm.trans e)];exact⟨h1,ry⟩
   · rw[aG e,aG (fun z=>e (h1.trans z))];exact⟨h1,h2⟩
theorem KV.put{kvs:List (κ × V)}{vs:List (κ × Value)}(r:KV kvs vs)(k:κ){y:V}{u:Value}(ry:RelV y u):KV (cq kvs k y) (stored vs k u):=by
 unfold cq stored;rw[r.any k];by_cases e:(vs.any fun kv=>decide (kv.1=k))=true
 · rw[aK e,aK e];exact r.repl k ry
 · rw[aG e,aG e];exact Paired.snoc r ⟨rfl,ry⟩
theorem KV.length{kvs:List (κ × V)}{vs:List (κ × Value)}(r:KV kvs vs):kvs.length=vs.length:=aR r
end
def mK(r:RelV (kV k) u):(cE P w).is k u=true:=by
 cases k with
 | inl i=>obtain⟨t,e⟩:=(show ∃t,u=Value.int i t from r);subst e;exact wM P w i t
 | inr x=>obtain⟨t,e⟩:=(show ∃t,u=Value.str x t from r);subst e;exact wL P w x t
theorem sY:∀{ks:List Key} {us:List Value},Vals (ks.map kV) us->ItemsAre (cE P w) ks us
 | [],_,r=>by rw[J2] at r;cases r;exact .nil
 | k::ks,_,r=>by
   rw[bG] at r;cases r with
   | cons h t=>exact .cons (mK h) (sY t)
abbrev KT(H:Hp):List (List Key × V)->List (List Key × Addr × Value)->Prop:=Paired fun p q=>p.1=q.1/\H q.2.1=some (.tup (p.1.map kV))/\RelV p.2 q.2.2
def KT.val(r:KT H kvs xs)(k:List Key):RelO (cZ kvs k) ((atKey xs k).map (·.2)):=by
 induction r with
 | nil=>exact True.intro
 | @cons p q ps qs h t ih=>
   obtain⟨h1,_,h2⟩:=h;by_cases e:p.1=k
   · have e':q.1=k:=h1.symm.trans e;have b:atKey (q::qs) k=some q.2:=by simp[atKey,gA,e']
     rw[eK e,b];exact h2
   · have e':¬ q.1=k:=fun z=>e (h1.trans z);have b:atKey (q::qs) k=atKey qs k:=by simp[atKey,gA,e']
     rw[eL e,b];exact ih
def KT.repl{H:Hp}{kvs:List (List Key × V)}{xs:List (List Key × Addr × Value)}(r:KT H kvs xs)(k:List Key){y:V}{u:Value}(ry:RelV y u):KT H (kvs.map fun kv=>if kv.1=k then(kv.1,y) else kv) (xs.map (putAt k u)):=by
 induction r with
 | nil=>exact .nil
 | @cons p q ps qs h t ih=>
   rw[bG,bG];refine .cons ?_ ih;obtain⟨h1,h2,h3⟩:=h;unfold putAt;by_cases e:p.1=k
   · rw[aK e,aK (h1.symm.trans e)];exact⟨h1,h2,ry⟩
   · rw[aG e,aG (fun z=>e (h1.trans z))];exact⟨h1,h2,h3⟩
def KT.put{H:Hp}{kvs:List (List Key × V)}{xs:List (List Key × Addr × Value)}(r:KT H kvs xs)(k:List Key){b:Addr}{y:V}{u:Value}(hb:H b=some (.tup (k.map kV)))(ry:RelV y u):KT H (cq kvs k y) (storedH xs k b u):=by
 have e:(kvs.any fun kv=>decide (kv.1=k))=(atKey xs k).isSome:=by
  rw[lW,(r.val k).isSome_eq,yS]
 unfold cq storedH;rw[e];by_cases q:(atKey xs k).isSome=true
 · rw[aK q,aK q];exact r.repl k ry
 · rw[aG q,aG q];exact Paired.snoc r ⟨rfl,hb,ry⟩
def KT.keeps(r:KT H kvs xs)(ht:∀b ys,H b=some (.tup ys)->H' b=some (.tup ys)):KT H' kvs xs:=Paired.mapP r fun _ _ z=>⟨z.1,ht _ _ z.2.1,z.2.2⟩
section
def F_(ok:HOk P w H h)(e:Rd H a u):ObjOk P w H h a u:=e.ok ok
def qT(ok:HOk P w H h)(e:Rd H a (.dK kvs)):kvs.length<=sizeLine/\(a==sysModules)=false/\∃vs,KV kvs vs/\h.DictOf (cE P w) a vs:=
 show ObjOk P w H h a (.dK kvs) from F_ ok e
def Ae(ok:HOk P w H h)(e:H a=some (.dK kvs)):kvs.length<=sizeLine/\(a==sysModules)=false/\∃vs,KV kvs vs/\h.DictOf (cE P w) a vs:=qT ok (.inl e)
def nK(ok:HOk P w H h)(e:H a=some (.tup (ks.map kV))):(tupleKind (cE P w)).is h ks a:=by
 obtain⟨_,its,r,o,h1,h2,n,h3⟩:=(show ObjOk P w H h a (.tup (ks.map kV)) from ok a _ e);exact⟨o,its.toArray,n,h1,h2,h3,by simpa using sY r⟩
def qS(ok:HOk P w H h)(e:Rd H a (.dT kvs)):kvs.length<=sizeLine/\(a==sysModules)=false/\∃xs,KT H kvs xs/\h.DictOfH (tupleKind (cE P w)) a xs:=by
 obtain⟨z,y,xs,r,o,es,ep,h1,h2,h3,h4,h5⟩:=(show ObjOk P w H h a (.dT kvs) from F_ ok e);refine⟨z,y,xs,r,o,es,ep,h1,h2,h3,h4,fun x hx=> ?_,h5⟩;have all:∀{l:List (List Key × V)} {m:List (List Key × Addr × Value)},KT H l m->∀x∈m,(tupleKind (cE P w)).is h x.1 x.2.1:=by
  intro l m q
  induction q with
  | nil=>intro x hx;exact nomatch hx
  | @cons p q ps qs hq t ih=>
    intro x hx;rcases aL.mp hx with e | hx
    · subst e;exact nK ok (by rw[<-hq.1];exact hq.2.1)
    · exact ih x hx
 exact all r x hx
def JO(ok:HOk P w H h)(e:H a=some (.dT kvs)):kvs.length<=sizeLine/\(a==sysModules)=false/\∃xs,KT H kvs xs/\h.DictOfH (tupleKind (cE P w)) a xs:=qS ok (.inl e)
end
def DGet(H:Hp)(a:Addr)(y:V)(r:Option V):Prop:=(∃kvs k,Rd H a (.dK kvs)/\y=kV k/\r=cZ kvs k)\/∃kvs k b,Rd H a (.dT kvs)/\y= .ref b/\H b=some (.tup (k.map kV))/\r=cZ kvs k
def DPut(H:Hp)(a:Addr)(y v:V)(H':Hp):Prop:=(∃kvs k,H a=some (.dK kvs)/\y=kV k/\kvs.length<sizeLine/\H'=upd H a (.dK (cq kvs k v)))\/∃kvs k b,H a=some (.dT kvs)/\y= .ref b/\H b=some (.tup (k.map kV))/\kvs.length<sizeLine/\H'=upd H a (.dT (cq kvs k v))
def DGet.k{k:Key}(e:H a=some (.dK kvs)):DGet H a (kV k) (cZ kvs k):= .inl ⟨kvs,k,.inl e,rfl,rfl⟩
def DGet.t{k:List Key}(e:H a=some (.dT kvs))(eb:H b=some (.tup (k.map kV))):DGet H a (.ref b) (cZ kvs k):= .inr ⟨kvs,k,b,.inl e,rfl,eb,rfl⟩
def DPut.k{k:Key}(e:H a=some (.dK kvs))(hl:kvs.length<sizeLine):DPut H a (kV k) v (upd H a (.dK (cq kvs k v))):= .inl ⟨kvs,k,e,rfl,hl,rfl⟩
section
def Inv.big{σ:St}(I:Inv X pins σ H s):sysModules<s.heap.objs.size:=by
 have h:mainGlobals<s.heap.objs.size:=(I.mod.glob.keeps I.bk).lt;exact Nat.lt_trans (by decide) h
def Bn{σ:St}(hu:A.units+1<cLine)(I:Inv X pins σ H s)(g:DGet H a y (some v))(ry:RelV y u)(h:∀w' s',Inv X pins σ H s'->RelV v w'->Q w' s'):wpAny (model X.prog X.w) A (getItem (.ref a) u) Q E s:=by
 rcases g with⟨kvs,k,e,ey,l⟩ | ⟨kvs,k,b,e,ey,eb,l⟩
 · subst ey;obtain⟨z,hd,vs,rel,dd⟩:=qT I.hok e;obtain⟨w',hw,rw'⟩:=RelO.some_of (v:=v) (o:=valueAt vs k) (by rw[l];exact rel.val k);exact wpAny_getItem_of (mK ry) dd.mapOf hw (h w' _ (I.tok _) rw')
 · subst ey;cases(show u=Value.ref b from ry);obtain⟨z,hd,xs,rel,dd⟩:=qS I.hok e;obtain⟨w',hw,rw'⟩:=RelO.some_of (v:=v) (o:=(atKey xs k).map (·.2)) (by rw[l];exact rel.val k);obtain⟨p,hp,hp2⟩:=b_.mp hw;refine wpAny_getItem_heap (gD hu) (nK I.hok eb) dd hp ?_;rw[hp2];exact h w' _ (I.tok _) rw'
def Lm{σ:St}(hu:A.units+1<cLine)(I:Inv X pins σ H s)(g:DGet H a y o)(ry:RelV y u)(h:∀s',Inv X pins σ H s'->Q (.bool o.isSome) s'):wpAny (model X.prog X.w) A (compareOp .In u (.ref a)) Q E s:=by
 rcases g with⟨kvs,k,e,ey,l⟩ | ⟨kvs,k,b,e,ey,eb,l⟩
 · subst ey;obtain⟨z,hd,vs,rel,dd⟩:=qT I.hok e;refine wpAny_in_of (mK ry) hd dd.mapOf ?_;rw[<-(rel.val k).isSome_eq,<-l];exact h _ (I.tok _)
 · subst ey;cases(show u=Value.ref b from ry);obtain⟨z,hd,xs,rel,dd⟩:=qS I.hok e;refine wpAny_in_heap (gD hu) (nK I.hok eb) hd dd ?_;have q:=(rel.val k).isSome_eq;rw[yS] at q;rw[<-q,<-l];exact h _ (I.tok _)
def FB{σ:St}(hu:A.units+1<cLine)(I:Inv X pins σ H s)(g:DGet H a y o)(ry:RelV y u)(h:∀s',Inv X pins σ H s'->Q (.bool (!o.isSome)) s'):wpAny (model X.prog X.w) A (compareOp .NotIn u (.ref a)) Q E s:=by
 rcases g with⟨kvs,k,e,ey,l⟩ | ⟨kvs,k,b,e,ey,eb,l⟩
 · subst ey;obtain⟨z,hd,vs,rel,dd⟩:=qT I.hok e;refine wpAny_notIn_of (mK ry) hd dd.mapOf ?_;rw[<-(rel.val k).isSome_eq,<-l];exact h _ (I.tok _)
 · subst ey;cases(show u=Value.ref b from ry);obtain⟨z,hd,xs,rel,dd⟩:=qS I.hok e;refine wpAny_notIn_heap (gD hu) (nK I.hok eb) hd dd ?_;have q:=(rel.val k).isSome_eq;rw[yS] at q;rw[<-q,<-l];exact h _ (I.tok _)
def pK{σ:St}(I:Inv X pins σ H s)(mu:JZ (H a))(hs:Heap.SameBut a s.heap h')(he:∃q,h'.get? a=some q)(new:ObjOk X.prog X.w (upd H a ob) h' a ob):Inv X pins σ (upd H a ob) {s with heap:=h',toks:=t'}:=I.write (x:=a) (e:=a) mu (.inl rfl) (fun b q hb z=>(hs.2 b hb).trans z) he new
def yO(z:kvs.length<=sizeLine)(hd:(a==sysModules)=false)(rel:KV kvs vs)(dd:h'.DictOf (cE P w) a vs):ObjOk P w H' h' a (.dK kvs):=⟨z,hd,vs,rel,dd⟩
def Bm{σ:St}(hu:A.units+1<cLine)(I:Inv X pins σ H s)(g:DPut H a y v H')(ry:RelV y u)(rv:RelV v r)(h:∀s',Inv X pins σ H' s'->Q () s'):wpAny (model X.prog X.w) A (setItem (.ref a) u r) Q E s:=by
 rcases g with⟨kvs,k,e,ey,l,eH⟩ | ⟨kvs,k,b,e,ey,eb,l,eH⟩
 · subst ey eH;obtain⟨z,hd,vs,rel,dd⟩:=Ae I.hok e;have hz:vs.length<=sizeLine:=by rw[<-rel.length];exact z
   have hl:(cq kvs k v).length<=sizeLine:=by have:=dY kvs k v;lia
   refine wpAny_setItem_pairs (hsz:=hz) (mK ry) dd fun h' dd' hs=>h _ ?_;have he:∃q,h'.get? a=some q:=let⟨q,_,_,hq,_⟩:=dd';⟨q,hq⟩
   exact pK I (by rw[e];exact True.intro) hs he (yO hl hd (rel.put k rv) dd')
 · subst ey eH;cases(show u=Value.ref b from ry);obtain⟨z,hd,xs,rel,dd⟩:=JO I.hok e;have hz:xs.length<=sizeLine:=by rw[<-aR rel];exact z
   have hl:(cq kvs k v).length<=sizeLine:=by have:=dY kvs k v;lia
   refine wpAny_setItem_heap (hsz:=hz) (gD hu) (nK I.hok eb) dd fun h' dd' hs=>h _ ?_;obtain⟨q,es,ep,hq,h2,h3,h4,_,h5⟩:=dd';refine pK I (by rw[e];exact True.intro) hs ⟨q,hq⟩ ⟨hl,hd,_,(rel.put k eb rv).keeps fun c ys ec=> ?_,q,es,ep,hq,h2,h3,h4,h5⟩;rw[aM (JB ec e (fun z=>nomatch z))];exact ec
end
section
end
def FO(i:Expr):Prop:=∀ov iv,subscripted i false ov iv=operate [ov,iv] (getItem ov iv)
def zd{id:String}(hl:typeLookup (.type T) "__getitem__"=pure (some (.builtin id)))(hs:FO slice)(h:wpAny (model prog w) A (eval value env) (fun o s₁=>wpAny (model prog w) A (eval slice env) (fun i s₂=>s₂.TypeIs o T/\wpAny (model prog w) A (getItem o i) Q E s₂) E s₁) E s):wpAny (model prog w) A (eval (.Subscript value slice pos) env) Q E s:=by
 refine MC (bJ h (fun o s₁ h₁=>bJ h₁ (fun i s₂ h₂=> ?_) fun _ _ x=>x) fun _ _ x=>x);obtain⟨hT,h₂⟩:=h₂;unfold subscriptTail;refine aa ?_;rw[getitemInPython_of_ne hT.not_modules];refine aa (wpAny_specialOf hT hl ?_);have fin:wpAny (model prog w) A (subscripted slice false o i) (fun r s₃=>wpAny (model prog w) A (letTemporaryGo value o r>>=fun _=>pure r) Q E s₃) E s₂:=by
  rw[hs o i];exact wpAny_operating (bJ h₂ (fun r s₃ h₃=>aa (wpAny_letTemporaryGo (aA h₃))) fun _ _ x=>x)
 first
  | exact aA (aa fin)
  | exact aa (aA (aa fin))
  | exact aa fin
def xi{σ:St}(I:Inv X pins σ H s)(g:DGet H a y o):s.TypeIs (.ref a) "dict":=by
 rcases g with⟨kvs,k,e,_,_⟩ | ⟨kvs,k,b,e,_,_,_⟩
 · obtain⟨_,_,vs,_,dd⟩:=qT I.hok e;exact dd.typeIs
 · obtain⟨_,_,xs,_,dd⟩:=qS I.hok e;exact dd.typeIs
def vD(td ty:TE):TE:=fun σ H Q=>td σ H fun x H1=>ty σ H1 fun y H2=>onR x fun a=>∃v,DGet H2 a y (some v)/\Q v H2
def Ju(td ty tv:TE):TS:=fun D σ H=>tv σ H fun v H1=>td σ H1 fun x H2=>ty σ H2 fun y H3=>onR x fun a=>∃H4,DPut H3 a y v H4/\D.nx σ H4
section
def EU(hu:X.A.units+1<cLine)(ho:PE X o td)(hi:PE X i ty)(hs:FO i):PE X (.Subscript o i pos) (vD td ty):=by
 intro pins s σ H Q I h;refine zd GC.lookup hs (cX (ho pins s σ H _ I h) fun u s1 ⟨x,H1,I1,rx,q1⟩=>cX (hi pins s1 σ H1 _ I1 q1) fun iv s2 ⟨y,H2,I2,ry,q0⟩=> ?_);obtain⟨a,ex,v,g,q2⟩:=onR.ex q0;subst ex;obtain rfl:u=Value.ref a:=rx;exact⟨xi I2 g,Bn hu I2 g ry fun w' s3 I3 rw'=>⟨v,H2,I3,rw',q2⟩⟩
def dC(hu:X.A.units+1<cLine)(ho:PE X o td)(hi:PE X i ty)(hv:PE X value tv)(hs:swapsWith value (some (.Subscript o i pos')) pos.line X.env=pure false):PS X (.Assign [.Subscript o i pos'] value pos) (Ju td ty tv):=by
 intro pins s σ H D I h;refine wpAny_Assign_Subscript (cX (hv pins s σ H _ I h) fun r s1 ⟨v,H1,I1,rv,q1⟩=>cX (ho pins s1 σ H1 _ I1 q1) fun u s2 ⟨x,H2,I2,rx,q2⟩=>cX (hi pins s2 σ H2 _ I2 q2) fun iv s3 ⟨y,H3,I3,ry,q0⟩=> ?_) hs;obtain⟨a,ex,H4,g,q3⟩:=onR.ex q0;subst ex;obtain rfl:u=Value.ref a:=rx;exact Bm hu I3 g ry rv fun s4 I4=>⟨σ,H4,I4,q3⟩
end
def xh(h:Heap)(hb:sysModules<h.objs.size):ObjOk P w H (h.push {cls:= .type "dict",data:= .dict #[]}) h.objs.size (.dK []):=⟨au _,bU.mpr (bB (bf hb)),[],.nil,Heap.DictOf.new h⟩
def DI(h:Heap)(hb:sysModules<h.objs.size):ObjOk P w H (h.push {cls:= .type "dict",data:= .dict #[]}) h.objs.size (.dT []):=⟨au _,bU.mpr (bB (bf hb)),[],.nil,_,#[],0,aU _ rfl,⟨rfl,rfl,rfl⟩,rfl,rfl,List.nodup_nil⟩
def BU:TE:=fun _ H Q=>∀p,H p=none->Q (.ref p) (upd H p (.dK []))
def BS:TE:=fun _ H Q=>∀p,H p=none->Q (.ref p) (upd H p (.dT []))
section
def cU:PE X (.Dict [] [] pos) BU:=fun pins s σ H Q I h=>
 wpAny_Dict_empty ⟨.ref s.heap.objs.size,_,I.laid (a:=s.heap.objs.size) (o:= .dK []) (t':=s.toks) (fun _ _ q=>ar _ q) (aq _) (xh s.heap I.big),rfl,h _ (I.hok.fresh (aq _))⟩
def jO:PE X (.Dict [] [] pos) BS:=fun pins s σ H Q I h=>
 wpAny_Dict_empty ⟨.ref s.heap.objs.size,_,I.laid (a:=s.heap.objs.size) (o:= .dT []) (t':=s.toks) (fun _ _ q=>ar _ q) (aq _) (DI s.heap I.big),rfl,h _ (I.hok.fresh (aq _))⟩
end
structure M2(X:Cx)(o:Expr)(m:Str)(apos:Pos)(e f:Expr)(cpos:Pos):Prop where
 base:attributeBase o m X.env (eval o X.env)=eval o X.env
 few:((backTo cpos (starEach [e,f] X.env)).all (fun x=> !x.1)&&(backToKw cpos (keywordEach [] X.env)).all (fun x=>x.1.isSome)&&decide (([e,f]:List Expr).length+([]:List Keyword).length+(if([]:List Keyword).isEmpty then 0 else 1)<30))=true
 line:(apos.endLine==cpos.line)=true
 trees:backTo cpos (starEach [e,f] X.env)=[(false,eval e X.env),(false,eval f X.env)]
def LB(H:Hp)(a:Addr):Prop:=(∃kvs,Rd H a (.dK kvs))\/∃kvs,Rd H a (.dT kvs)
def Ds{σ:St}(I:Inv X pins σ H s)(d:LB H a):s.TypeIs (.ref a) "dict"/\(∀b,Value.ref a= .ref b->∃ob,s.heap.get? b=some ob/\ob.dict=none)/\(a==sysModules)=false:=by
 rcases d with⟨kvs,e⟩ | ⟨kvs,e⟩
 · obtain⟨_,hd,vs,_,dd⟩:=qT I.hok e;refine⟨dd.typeIs,fun b q=> ?_,hd⟩;cases q;obtain⟨ob,_,_,h1,h2,_⟩:=dd;exact⟨ob,h1,h2.2.1⟩
 · obtain⟨_,hd,xs,_,dd⟩:=qS I.hok e;refine⟨dd.typeIs,fun b q=> ?_,hd⟩;cases q;obtain⟨ob,_,_,h1,h2,_⟩:=dd;exact⟨ob,h1,h2.2.1⟩
section
def Ik{σ:St}(hu:A.units+1<cLine)(I:Inv X pins σ H s)(g:DGet H a y o)(ry:RelV y u)(rd:RelV d r)(h:∀w' s',Inv X pins σ H s'->RelV (o.getD d) w'->Q w' s'):wpAny (model X.prog X.w) A (call (.builtin "dict.get") [.ref a,u,r]) Q E s:=by
 rcases g with⟨kvs,k,e,ey,l⟩ | ⟨kvs,k,b,e,ey,eb,l⟩
 · subst ey;obtain⟨z,hd,vs,rel,dd⟩:=qT I.hok e;refine JP ro dd.typeIs JW (IT _ _ _) (meets_dict_get_default (cE X.prog X.w) a (mK ry) hd r) ⟨_,dd.mapOf,h _ _ (I.tok _) ?_⟩;rw[l];exact(rel.val k).getD rd
 · subst ey;cases(show u=Value.ref b from ry);obtain⟨z,hd,xs,rel,dd⟩:=qS I.hok e;refine JP ro dd.typeIs JW (IT _ _ _) (meetsH_dict_get_default (tupleKind (cE X.prog X.w)) a b hd r) ⟨gD hu,k,xs,nK I.hok eb,dd,h _ _ (I.tok _) ?_⟩;rw[l];exact(rel.val k).getD rd
end
def tH(td ty tx:TE):TE:=fun σ H Q=>td σ H fun x H1=>onR x fun a=>LB H1 a/\ty σ H1 fun y H2=>tx σ H2 fun z H3=>∃o,DGet H3 a y o/\Q (o.getD z) H3
section
def Cw(hu:X.A.units+1<cLine)(ho:PE X o td)(he:PE X e ty)(hf:PE X f tx)(m:M2 X o "get" apos e f cpos):PE X (.Call (.Attribute o "get" apos) [e,f] [] cpos) (tH td ty tx):=by
 intro pins s σ H Q I h;refine MM m.base m.few m.line IS ro PySem.F.type_dict_get (cX (ho pins s σ H _ I h) fun u s1 ⟨x,H1,I1,rx,q0⟩=> ?_);obtain⟨a,ex,d,q1⟩:=onR.ex q0;subst ex;obtain rfl:u=Value.ref a:=rx;obtain⟨t1,t2,_⟩:=Ds I1 d;refine⟨t1,t2,?_⟩;rw[m.trees];refine hG rfl (rT (gM (cX (he pins s1 σ H1 _ I1 q1) fun iv s2 ⟨y,H2,I2,ry,q2⟩=>
  gM (cX (hf pins s2 σ H2 _ I2 q2) fun fv s3 ⟨z,H3,I3,rz,ov,g,q3⟩=>yT ?_))))
 exact Ik hu I3 g ry rz fun w' s4 I4 rw'=>⟨_,H3,I4,rw',q3⟩
end
section
end
section
end
section
variable {κ:Type}[DecidableEq κ]
end
def x8(h:(cE P w).is k u=true):RelV (kV k) u:=by
 rw[yz] at h;rcases keyIs_shape h with⟨i,t,rfl,rfl⟩ | ⟨x,t,rfl,rfl⟩
 · exact⟨t,rfl⟩
 · exact⟨t,rfl⟩
section
end
section
end
inductive Dat where
 | int (i:Int)
 | str (x:Str)
 | tup (ds:List Dat)
 | lst (ds:List Dat)
 | dct (ks:List (Str × Dat))
mutual
def Da(H:Hp):Dat->V->Prop
 | .int i,v=>v= .int i
 | .str x,v=>v= .str x
 | .tup ds,v=>∃p xs,v= .ref p/\H p=some (.tup xs)/\Kr H ds xs
 | .lst ds,v=>∃p xs,v= .ref p/\H p=some (.lst xs)/\Kr H ds xs
 | .dct ks,v=>∃p l,v= .ref p/\H p=some (.dK l)/\L_ H ks l
def Kr(H:Hp):List Dat->List V->Prop
 | [],xs=>xs=[]
 | d::ds,xs=>∃x r,xs=x::r/\Da H d x/\Kr H ds r
def L_(H:Hp):List (Str × Dat)->List (Key × V)->Prop
 | [],l=>l=[]
 | (k,d)::ks,l=>∃x r,l=(.inr k,x)::r/\Da H d x/\L_ H ks r
end
example (H:Hp) (i:Int) (v:V):Da H (.int i) v=(v= .int i):=rfl
example (H:Hp) (ds:List Dat) (v:V):Da H (.tup ds) v=(∃p xs,v= .ref p/\H p=some (.tup xs)/\Kr H ds xs):=rfl
mutual
def Dat.nd:Dat->Prop
 | .int _=>True
 | .str _=>True
 | .tup ds=>La ds
 | .lst ds=>La ds
 | .dct ks=>(ks.map (·.1)).Nodup/\LN ks
def La:List Dat->Prop
 | []=>True
 | d::ds=>d.nd/\La ds
def LN:List (Str × Dat)->Prop
 | []=>True
 | (_,d)::ks=>d.nd/\LN ks
end
section
end
end L2
namespace L2
open PySem PySem.Spec PyProof.Rows
section
end
section
end
section
end
section
end
def Bo{σ:St}(I:Inv X pins σ H s)(e:H a=some (.dK kvs))(l:kvs.length<sizeLine)(ry:RelV (kV k) u)(rv:RelV v r)(h:∀s',Inv X pins σ (upd H a (.dK (cq kvs k v))) s'->Q () s'):wpAny (model X.prog X.w) A (dictSet a u r) Q E s:=by
 obtain⟨z,hd,vs,rel,dd⟩:=Ae I.hok e;have hz:vs.length<=sizeLine:=by rw[<-rel.length];exact z
 have hl:(cq kvs k v).length<=sizeLine:=by have:=dY kvs k v;lia
 refine wpAny_dictSet_pairs (mK ry) dd (fun h' dd' hs=>h _ ?_) hz;have he:∃q,h'.get? a=some q:=let⟨q,_,_,hq,_⟩:=dd';⟨q,hq⟩
 exact pK I (by rw[e];exact True.intro) hs he (yO hl hd (rel.put k rv) dd')
section
end
section
def qC(hu:X.A.units+1<cLine):ju X (compareOp .In) (fun x y H Q=>∃a o,y= .ref a/\DGet H a x o/\Q (.bl o.isSome) H):=by
 intro pins s σ H x y v u Q I rx ry h;obtain⟨a,o,rfl,g,q⟩:=h;cases ry;exact Lm hu I g rx fun s' I'=>⟨.bl o.isSome,H,I',rfl,q⟩
def nE(hu:X.A.units+1<cLine):ju X (compareOp .NotIn) (fun x y H Q=>∃a o,y= .ref a/\DGet H a x o/\Q (.bl (!o.isSome)) H):=by
 intro pins s σ H x y v u Q I rx ry h;obtain⟨a,o,rfl,g,q⟩:=h;cases ry;exact FB hu I g rx fun s' I'=>⟨.bl (!o.isSome),H,I',rfl,q⟩
theorem rW:∀{kvs:List (Key × V)} {vs:List (Key × Value)} {ss:List Str} {acc:List Value},KV kvs vs->kvs.map (·.1)=ss.map Sum.inr->acc.length=vs.length->(∀(j:Nat) (v:Value),acc[j]? =some v->∃k x,vs[j]? =some (k,x)/\(cE P w).is k v=true)->Vals (ss.map V.str) acc
 | [],_,ss,acc,.nil,e,hl,_=>by
   cases ss with
   | nil=>cases acc with
     | nil=>exact .nil
     | cons a l=>simp at hl
   | cons a l=>simp at e
 | kv::kvs,_,ss,acc,.cons (b:=q) (l₂:=vs) r t,e,hl,h=>by
   cases ss with
   | nil=>simp at e
   | cons y ss=>
     cases acc with
     | nil=>simp at hl
     | cons u acc=>
       simp only[bG,cz] at e;obtain⟨k,x,e1,e2⟩:=h 0 u rfl;simp only[List.getElem?_cons_zero,lO] at e1;subst e1;have r1:kv.1=k:=r.1;have hk:k=Sum.inr y:=r1.symm.trans e.1;subst hk;refine .cons (x8 e2) (rW (P:=P) (w:=w) t e.2 (by simpa using hl) fun j v hj=> ?_);exact h (j+1) v (by simpa using hj)
end
end L2
namespace L2
open PySem PySem.Spec PyProof.Rows
section
def jm(hit:s.heap.IsTupleIter it t i)(ht:s.heap.IsTuple t items)(hx:items[i]? =some x)(hQ:∀h':Heap,h'.IsTupleIter it t (i+1)->Heap.SameBut it s.heap h'->Q x {s with heap:=h'}):wpAny (model prog w) A (Builtin.SmallTypes.nextOf (.ref it)) Q E s:=by
 obtain⟨o,ho,hc,hd⟩:=id hit;obtain⟨ol,hol,_,nl,hdl⟩:=ht;refine aa (eQ hit.typeIs fK (iC fK hit.typeIs Eb ?_ (D6 _)));refine aa (iR (a:=(Value.ref it,[])) rfl ?_);refine aa (bT ho hd rfl ?_);show wpAny _ _ (do
  let __x<-field (.ref it) 1
  _) _ _ _
 refine aa (bT ho hd rfl ?_);refine aa (fI hol hdl ?_);have e:items[(Int.toNat (i:Int))]? =some x:=by simpa using hx
 simp only[e];refine aa (kr ho hd (by simp) (aA ⟨x,rfl,aA (hQ _ ⟨_,dZ _ ho (iz (fc hd _)),?_,?_⟩ (vi _ _ _))⟩))
 · rw[MR];exact hc
 · rw[fc hd];simp[rawInt]
def qG(hh:A.handled=none)(hit:s.heap.IsTupleIter it t i)(ht:s.heap.IsTuple t items)(hx:items[i]? =none)(hE:∀h' e,Heap.ExtBut it s.heap h'->(∃o,h'.get? e=some o/\o.cls= .type "StopIteration")->E (.ref e) {s with heap:=h'}):wpAny (model prog w) A (Builtin.SmallTypes.nextOf (.ref it)) Q E s:=by
 obtain⟨o,ho,hc,hd⟩:=id hit;obtain⟨ol,hol,_,nl,hdl⟩:=ht;refine aa (eQ hit.typeIs fK (iC fK hit.typeIs Eb ?_ (D6 _)));refine aa (iR (a:=(Value.ref it,[])) rfl ?_);refine aa (bT ho hd rfl ?_);show wpAny _ _ (do
  let __x<-field (.ref it) 1
  _) _ _ _
 refine aa (bT ho hd rfl ?_);refine aa (fI hol hdl ?_);have e:items[(Int.toNat (i:Int))]? =none:=by simpa using hx
 simp only[e];refine aa (iA (aa (kr ho hd (by simp) ?_)));refine aa (aa (rE ?_));refine aa (iR rfl ?_);refine cI ?_ (sizeOk_excFields _ _ _ _ _ _ _ _);refine LD hh (hE _ _ ?_ ⟨_,aU _ rfl,rfl⟩);exact Heap.ExtBut.push (Heap.ExtBut.push (Heap.SameBut.extBut (vi _ _ _)) _) _
end
section
def fF(ht:h.IsTuple p us)(e:Heap.ExtBut q h h')(hn:p≠q):h'.IsTuple p us:=by
 obtain⟨o,ho,r⟩:=ht;exact⟨o,e p o hn ho,r⟩
def pN{TI TO:Addr}{Q:Value->Shared->Prop}(D:ZipApart z TI TO i1 i2 l1 l2)(hz:IsZip s.heap z TI TO .none)(hTI:IsPair s.heap TI (.ref i1) (.ref i2))(hTO:IsPair s.heap TO a b)(h1:s.heap.IsTupleIter i1 l1 k1)(h2:s.heap.IsTupleIter i2 l2 k2)(hl1:s.heap.IsTuple l1 xs)(hl2:s.heap.IsTuple l2 ys)(hx:xs[k1]? =some x)(hy:ys[k2]? =some y)(hQ:∀h':Heap,IsZip h' z TI TO (rawInt ↑(Array.size s.heap.objs))->IsPair h' TO x y->h'.IsTupleIter i1 l1 (k1+1)->h'.IsTupleIter i2 l2 (k2+1)->IsPair h' (Array.size s.heap.objs) x y->Array.size h'.objs=Array.size s.heap.objs+1->(∀c o,c≠z->c≠TO->c≠i1->c≠i2->s.heap.get? c=some o->h'.get? c=some o)->Q (.ref (Array.size s.heap.objs)) {s with heap:=h'}):wpAny (model prog w) A (Builtin.«zip.__next__» {pos:=[.ref z]}) (fun fin s'=>∃v,fin=Fin.done (Flow.ret v)/\Q v s') E s:=by
 refine aa (iR (a:=(Value.ref z,[])) rfl ?_);refine aa (bT hz rfl rfl ?_);refine aa (bT hz rfl rfl ?_);refine aa (fI hTI rfl ?_);show wpAny _ _ (do
  let __do_lift<-Builtin.SmallTypes.ownedTupleIsFree (.ref z)
  _) _ _ _
 refine aa (aa (bT hz rfl rfl (aA ?_)));show wpAny _ _ (do
  rule "zip.__next__.owned-tuple-again"
  _) _ _ _
 refine aa (iA (aa (bT hz rfl rfl ?_)));refine aa (gC hz (by simp) fun h₁ hz₁ hs₁=> ?_);have hz₁:IsZip h₁ z TI TO .ellipsis:=hz₁;refine aa ?_;show wpAny _ _ (forIn [(Value.ref i1,0),(Value.ref i2,1)] (none,()) _) _ _ _;rw[gw];refine aa (aa (GI ?_));show wpAny _ _ (do
  let v<-Builtin.SmallTypes.nextOf (.ref i1)
  pure (some v)) _ _ _
 refine aa (jm (h1.extBut hs₁.extBut D.i1z) (fF hl1 hs₁.extBut D.l1z) hx fun h₂ h1₂ hs₂=>aA ?_);have hTO₂:IsPair h₂ TO a b:=hs₂.extBut TO _ D.TOi1 (hs₁.extBut TO _ D.TOz hTO);refine aa (fI hTO₂ rfl (aa (Ks hTO₂ fun h₃ hTO₃ hs₃=> ?_)));have hTO₃:IsPair h₃ TO x b:=hTO₃;refine aa (wpAny_letGo (aA ?_));show wpAny _ _ (forIn [(Value.ref i2,1)] (none,()) _) _ _ _;rw[gw];refine aa (aa (GI ?_));show wpAny _ _ (do
  let v<-Builtin.SmallTypes.nextOf (.ref i2)
  pure (some v)) _ _ _
 refine aa (jm (((h2.extBut hs₁.extBut D.i2z).extBut hs₂.extBut (bB D.i12)).extBut hs₃.extBut (bB D.TOi2)) (fF (fF (fF hl2 hs₁.extBut D.l2z) hs₂.extBut D.l2i1) hs₃.extBut D.l2TO) hy fun h₄ h2₄ hs₄=>aA ?_);have hTO₄:IsPair h₄ TO x b:=hs₄.extBut TO _ D.TOi2 hTO₃;refine aa (fI hTO₄ rfl (aa (Ks hTO₄ fun h₅ hTO₅ hs₅=> ?_)));have hTO₅:IsPair h₅ TO x y:=hTO₅;refine aa (wpAny_letGo (aA ?_));show wpAny _ _ (forIn [] (none,()) _) _ _ _;rw[List.forIn_nil];refine aA ?_;refine aa (fI hTO₅ rfl (aa (rE ?_)));have hsz:h₅.objs.size=s.heap.objs.size:=by rw[hs₅.1,hs₄.1,hs₃.1,hs₂.1,hs₁.1]
 have hz₅:IsZip h₅ z TI TO .ellipsis:=hs₅.extBut z _ (bB D.TOz) (hs₄.extBut z _ (bB D.i2z) (hs₃.extBut z _ (bB D.TOz) (hs₂.extBut z _ (bB D.i1z) hz₁)));have hk₅:∀c o,c≠z->c≠TO->c≠i1->c≠i2->s.heap.get? c=some o->h₅.get? c=some o:=fun c o c1 c2 c3 c4 e=>hs₅.extBut c o c2 (hs₄.extBut c o c4 (hs₃.extBut c o c2 (hs₂.extBut c o c3 (hs₁.extBut c o c1 e))));have h1₅:=((h1₂.extBut hs₃.extBut (bB D.TOi1)).extBut hs₄.extBut D.i12).extBut hs₅.extBut (bB D.TOi1);have h2₅:=h2₄.extBut hs₅.extBut (bB D.TOi2);have hzlt:=aB hz₅;have hTOlt:=aB hTO₅;have hi1lt:i1<h₅.objs.size:=by obtain⟨o,e,_⟩:=h1₅;exact aB e
 have hi2lt:i2<h₅.objs.size:=by obtain⟨o,e,_⟩:=h2₅;exact aB e
 refine aa ?_;have hz₆:IsZip (h₅.push {cls:= .type "tuple",data:= .seq [x,y].toArray}) z TI TO .ellipsis:=ar _ hz₅;refine aa (gC hz₆ (by simp) fun h₇ hz₇ hs₇=> ?_);refine gC hz₇ (by simp) fun h₈ hz₈ hs₈=> ?_;have up:∀c o,c≠z->h₅.get? c=some o->h₈.get? c=some o:=fun c o c1 e=>hs₈.extBut c o c1 (hs₇.extBut c o c1 (ar _ e));have hT₈:IsPair h₈ h₅.objs.size x y:=hs₈.extBut _ _ (eC hzlt) (hs₇.extBut _ _ (eC hzlt) (aU h₅ rfl));refine aA ⟨_,rfl,?_⟩;show Q (.ref h₅.objs.size) _;rw[hsz] at hT₈⊢;refine hQ h₈ ?_ (up _ _ D.TOz hTO₅) ?_ ?_ hT₈ ?_ fun c o c1 c2 c3 c4 e=>up c o c1 (hk₅ c o c1 c2 c3 c4 e)
 · rw[<-hsz];exact hz₈
 · obtain⟨o,e,r⟩:=h1₅;exact⟨o,up _ _ D.i1z e,r⟩
 · obtain⟨o,e,r⟩:=h2₅;exact⟨o,up _ _ D.i2z e,r⟩
 · rw[hs₈.1,hs₇.1,de,hsz]
def rC{TI TO:Addr}(hh:A.handled=none)(D:ZipApart z TI TO i1 i2 l1 l2)(hz:IsZip s.heap z TI TO .none)(hTI:IsPair s.heap TI (.ref i1) (.ref i2))(h1:s.heap.IsTupleIter i1 l1 k1)(hl1:s.heap.IsTuple l1 xs)(hx:xs[k1]? =none)(hE:∀h' e,(∀c o,c≠z->c≠TO->c≠i1->c≠i2->s.heap.get? c=some o->h'.get? c=some o)->(∃o,h'.get? e=some o/\o.cls= .type "StopIteration")->E (.ref e) {s with heap:=h'}):wpAny (model prog w) A (Builtin.«zip.__next__» {pos:=[.ref z]}) Q E s:=by
 refine aa (iR (a:=(Value.ref z,[])) rfl ?_);refine aa (bT hz rfl rfl ?_);refine aa (bT hz rfl rfl ?_);refine aa (fI hTI rfl ?_);show wpAny _ _ (do
  let __do_lift<-Builtin.SmallTypes.ownedTupleIsFree (.ref z)
  _) _ _ _
 refine aa (aa (bT hz rfl rfl (aA ?_)));show wpAny _ _ (do
  rule "zip.__next__.owned-tuple-again"
  _) _ _ _
 refine aa (iA (aa (bT hz rfl rfl ?_)));refine aa (gC hz (by simp) fun h₁ hz₁ hs₁=> ?_);have hz₁:IsZip h₁ z TI TO .ellipsis:=hz₁;refine aa ?_;show wpAny _ _ (forIn [(Value.ref i1,0),(Value.ref i2,1)] (none,()) _) _ _ _;rw[gw];refine aa (aa (GI ?_));show wpAny _ _ (do
  let v<-Builtin.SmallTypes.nextOf (.ref i1)
  pure (some v)) _ _ _
 refine aa (qG hh (h1.extBut hs₁.extBut D.i1z) (fF hl1 hs₁.extBut D.l1z) hx fun h₂ e eb₂ he=> ?_);have hz₂:IsZip h₂ z TI TO .ellipsis:=eb₂ z _ (bB D.i1z) hz₁;refine gC hz₂ (by simp) fun h₃ hz₃ hs₃=> ?_;obtain⟨o,ho,hc⟩:=he;have hez:e≠z:=fun q=>by
  rw[q,hz₂] at ho;cases ho;exact absurd (Value.type.inj hc) (by decide)
 exact hE h₃ e (fun c o c1 c2 c3 c4 q=>hs₃.extBut c o c1 (eb₂ c o c3 (hs₁.extBut c o c1 q))) ⟨o,hs₃.extBut e o hez ho,hc⟩
end
section
def nC{TI TO:Addr}(D:ZipApart z TI TO i1 i2 l1 l2)(hz:IsZip s.heap z TI TO .none)(hTI:IsPair s.heap TI (.ref i1) (.ref i2))(hTO:IsPair s.heap TO a b)(h1:s.heap.IsTupleIter i1 l1 k1)(h2:s.heap.IsTupleIter i2 l2 k2)(hl1:s.heap.IsTuple l1 xs)(hl2:s.heap.IsTuple l2 ys)(hx:xs[k1]? =some x)(hy:ys[k2]? =some y)(hQ:∀h':Heap,IsZip h' z TI TO (rawInt ↑(Array.size s.heap.objs))->IsPair h' TO x y->h'.IsTupleIter i1 l1 (k1+1)->h'.IsTupleIter i2 l2 (k2+1)->IsPair h' (Array.size s.heap.objs) x y->Array.size h'.objs=Array.size s.heap.objs+1->(∀c o,c≠z->c≠TO->c≠i1->c≠i2->s.heap.get? c=some o->h'.get? c=some o)->Q (some (.ref (Array.size s.heap.objs))) {s with heap:=h'}):wpAny (model prog w) A (pyNext (.ref z)) Q E s:=by
 have hT:s.TypeIs (.ref z) "zip":=⟨_,hz,rfl⟩;exact aa (vm (eQ hT pM (iC pM hT F.entry_zip_next
  (pN D hz hTI hTO h1 h2 hl1 hl2 hx hy fun h' a1 a2 a3 a4 a5 a6 a7=>aA (hQ h' a1 a2 a3 a4 a5 a6 a7)) (MW _))))
def oO{TI TO:Addr}(hh:A.handled=none)(D:ZipApart z TI TO i1 i2 l1 l2)(hz:IsZip s.heap z TI TO .none)(hTI:IsPair s.heap TI (.ref i1) (.ref i2))(h1:s.heap.IsTupleIter i1 l1 k1)(hl1:s.heap.IsTuple l1 xs)(hx:xs[k1]? =none)(hQ:∀h':Heap,(∀c o,c≠z->c≠TO->c≠i1->c≠i2->s.heap.get? c=some o->h'.get? c=some o)->Q none {s with heap:=h'}):wpAny (model prog w) A (pyNext (.ref z)) Q E s:=by
 have hT:s.TypeIs (.ref z) "zip":=⟨_,hz,rfl⟩;refine aa (vm (eQ hT pM (iC pM hT F.entry_zip_next
  (rC (TO:=TO) hh D hz hTI h1 hl1 hx fun h' e hk he=> ?_) (MW _))))
 obtain⟨o,ho,hc⟩:=he;exact aa (wpAny_isInstance ⟨o,ho,hc⟩ isSubtype_stop (aA (hQ h' hk)))
def uE(hQ:Q (.ref s.heap.objs.size) {s with heap:=s.heap.push {cls:= .type T,data:= .fields vs.toArray}})(hz:vs.length<=sizeLine):wpAny (model prog w) A (Builtin.SmallTypes.newRecord (.type T) vs) Q E s:=by
 show wpAny _ _ (newObj (.type T) (.fields vs.toArray)) _ _ _;refine cI hQ ?_;show vs.toArray.size<=sizeLine+2;rw[aQ];lia
def BG{s:Shared}(hl1:s.heap.IsTuple l1 xs)(hl2:s.heap.IsTuple l2 ys)(hQ:∀h':Heap,IsZip h' (s.heap.objs.size+4) (s.heap.objs.size+2) (s.heap.objs.size+3) .none->IsPair h' (s.heap.objs.size+2) (.ref s.heap.objs.size) (.ref (s.heap.objs.size+1))->IsPair h' (s.heap.objs.size+3) .none .none->h'.IsTupleIter s.heap.objs.size l1 0->h'.IsTupleIter (s.heap.objs.size+1) l2 0->h'.objs.size=s.heap.objs.size+5->(∀c o,s.heap.get? c=some o->h'.get? c=some o)->Q (.done (.ret (.ref (s.heap.objs.size+4)))) {s with heap:=h'}):wpAny (model prog w) A (Builtin.«zip.__new__» {pos:=[.type "zip",.ref l1,.ref l2]}) Q E s:=by
 have hL2:(s.heap.push {cls:= .type "tuple_iterator",data:= .fields #[.ref l1,.int 0 0]}).IsTuple l2 ys:=by
  obtain⟨o,ho,r⟩:=hl2;exact⟨o,ar _ ho,r⟩
 refine aa (aa (aA ?_));refine BJ rfl (aa (iR sub_zip ?_));refine BJ rfl (aA ?_);refine BJ rfl ?_;refine aa ?_;refine aa ?_;show wpAny _ _ (forIn [Value.ref l1,Value.ref l2] #[] _) _ _ _;rw[gw];refine aa (aa (cK (Ma hl1 (aA ?_))));show wpAny _ _ (forIn [Value.ref l2] _ _) _ _ _;rw[gw];refine aa (aa (cK (Ma hL2 (aA ?_))));show wpAny _ _ (forIn [] _ _) _ _ _;rw[List.forIn_nil];refine aA (aA ?_);refine aa (rE ?_ (show 2<=sizeLine from fe (cm (by decide))));refine aa (rE ?_ (show 2<=sizeLine from fe (cm (by decide))));refine aa (uE (aA ?_) (show 5<=sizeLine from fe (cm (by decide))));have z1:=de s.heap {cls:= .type "tuple_iterator",data:= .fields #[.ref l1,.int 0 0]};generalize hh1:s.heap.push {cls:= .type "tuple_iterator",data:= .fields #[.ref l1,.int 0 0]}=H1 at z1⊢;have z2:=de H1 {cls:= .type "tuple_iterator",data:= .fields #[.ref l2,.int 0 0]};have g1:H1.get? s.heap.objs.size=some {cls:= .type "tuple_iterator",data:= .fields #[.ref l1,.int 0 0]}:=by rw[<-hh1];exact aU _ rfl
 have o1:∀c o,s.heap.get? c=some o->H1.get? c=some o:=fun c o e=>by rw[<-hh1];exact ar _ e
 generalize hh2:H1.push {cls:= .type "tuple_iterator",data:= .fields #[.ref l2,.int 0 0]}=H2 at z2⊢;have g2:H2.get? H1.objs.size=some {cls:= .type "tuple_iterator",data:= .fields #[.ref l2,.int 0 0]}:=by rw[<-hh2];exact aU _ rfl
 have o2:∀c o,H1.get? c=some o->H2.get? c=some o:=fun c o e=>by rw[<-hh2];exact ar _ e
 rw[z1] at z2 g2;show Q (.done (.ret (.ref ((H2.push {cls:= .type "tuple",data:= .seq #[.ref s.heap.objs.size,.ref H1.objs.size]}).push {cls:= .type "tuple",data:= .seq #[.none,.none]}).objs.size)))
  {s with heap:=(((H2.push {cls:= .type "tuple",data:= .seq #[.ref s.heap.objs.size,.ref H1.objs.size]}).push {cls:= .type "tuple",data:= .seq #[.none,.none]}) |>.push ({cls:= .type "zip",data:= .fields #[.none,.bool false,.bool false,.ref H2.objs.size,.ref (H2.push {cls:= .type "tuple",data:= .seq #[.ref s.heap.objs.size,.ref H1.objs.size]}).objs.size]}:Obj))}
 rw[z1];generalize hh3:H2.push {cls:= .type "tuple",data:= .seq #[.ref s.heap.objs.size,.ref (s.heap.objs.size+1)]}=H3;have z3:H3.objs.size=H2.objs.size+1:=by rw[<-hh3,de]
 have g3:H3.get? H2.objs.size=some {cls:= .type "tuple",data:= .seq #[.ref s.heap.objs.size,.ref (s.heap.objs.size+1)]}:=by rw[<-hh3];exact aU _ rfl
 have o3:∀c o,H2.get? c=some o->H3.get? c=some o:=fun c o e=>by rw[<-hh3];exact ar _ e
 generalize hh4:H3.push {cls:= .type "tuple",data:= .seq #[.none,.none]}=H4;have z4:H4.objs.size=H3.objs.size+1:=by rw[<-hh4,de]
 have g4:H4.get? H3.objs.size=some {cls:= .type "tuple",data:= .seq #[.none,.none]}:=by rw[<-hh4];exact aU _ rfl
 have o4:∀c o,H3.get? c=some o->H4.get? c=some o:=fun c o e=>by rw[<-hh4];exact ar _ e
 rw[z2] at z3 g3;rw[z3] at z4 g4;have e4:H4.objs.size=s.heap.objs.size+4:=z4;have o5:=fun(c:Addr) (o:Obj) (Z:Obj) (e:H4.get? c=some o)=>ar Z e;rw[z2,z3,e4];refine hQ _ ?_ (o5 _ _ _ (o4 _ _ g3)) (o5 _ _ _ g4) ⟨_,o5 _ _ _ (o4 _ _ (o3 _ _ (o2 _ _ g1))),rfl,rfl⟩ ⟨_,o5 _ _ _ (o4 _ _ (o3 _ _ g2)),rfl,rfl⟩ ?_ fun c o e=>o5 _ _ _ (o4 _ _ (o3 _ _ (o2 _ _ (o1 _ _ e))))
 · have:=aU H4 (o:={cls:= .type "zip",data:= .fields #[.none,.bool false,.bool false,.ref (s.heap.objs.size+1+1),.ref (s.heap.objs.size+1+1+1)]}) rfl;rw[e4] at this;exact this
 · rw[de,e4]
def Br{s:Shared}(hl1:s.heap.IsTuple l1 xs)(hl2:s.heap.IsTuple l2 ys)(hQ:∀h':Heap,IsZip h' (s.heap.objs.size+4) (s.heap.objs.size+2) (s.heap.objs.size+3) .none->IsPair h' (s.heap.objs.size+2) (.ref s.heap.objs.size) (.ref (s.heap.objs.size+1))->IsPair h' (s.heap.objs.size+3) .none .none->h'.IsTupleIter s.heap.objs.size l1 0->h'.IsTupleIter (s.heap.objs.size+1) l2 0->h'.objs.size=s.heap.objs.size+5->(∀c o,s.heap.get? c=some o->h'.get? c=some o)->Q (.ref (s.heap.objs.size+4)) {s with heap:=h'}):wpAny (model prog w) A (call (.type "zip") [.ref l1,.ref l2]) Q E s:=by
 have M:Meets (Builtin.«zip.__new__» {pos:=[.type "zip",.ref l1,.ref l2]}) (fun _ R s=>s.heap.IsTuple l1 xs/\s.heap.IsTuple l2 ys/\
  ∀h':Heap,IsZip h' (s.heap.objs.size+4) (s.heap.objs.size+2) (s.heap.objs.size+3) .none->IsPair h' (s.heap.objs.size+2) (.ref s.heap.objs.size) (.ref (s.heap.objs.size+1))->IsPair h' (s.heap.objs.size+3) .none .none->h'.IsTupleIter s.heap.objs.size l1 0->h'.IsTupleIter (s.heap.objs.size+1) l2 0->h'.objs.size=s.heap.objs.size+5->(∀c o,s.heap.get? c=some o->h'.get? c=some o)->R (.ok (.ret (.ref (s.heap.objs.size+4)))) {s with heap:=h'}):=
  Meets.of_wp fun prog w A R s h=>BG h.1 h.2.1 fun h' a1 a2 a3 a4 a5 a6 a7=>⟨_,rfl,h.2.2 h' a1 a2 a3 a4 a5 a6 a7⟩
 refine callType_new F.called_zip (by decide) (F.typeCall_zip_2 _ _) (F.newCall_zip_2 _ _) (fun obj=>F.args_object_init_3 obj _ _) F.entry_zip_new M ⟨hl1,hl2,fun h' a1 a2 a3 a4 a5 a6 a7=> ?_⟩;exact⟨⟨_,a1,rfl⟩,hQ h' a1 a2 a3 a4 a5 a6 a7⟩
end
noncomputable def J8(K:Frag)(a1 a2:Addr):It:=⟨fun i H=>∃xs ys x y,SqT K H a1 xs/\SqT K H a2 ys/\xs[i]? =some x/\ys[i]? =some y,fun i H v H'=>∃T x y,v= .ref T/\H T=none/\H'=upd H T (.tup [x,y])/\(∀xs,SqT K H a1 xs->xs[i]? =some x)/\∀ys,SqT K H a2 ys->ys[i]? =some y,fun i H=>∃xs ys,SqT K H a1 xs/\SqT K H a2 ys/\xs.length<=i⟩
def Ao{K:Frag}{TI TO:Addr}(D:ZipApart z TI TO i1 i2 a1 a2):xr P w K (.Tuple elts k pos) (J8 K a1 a2) [z,TI,TO,i1,i2] z (fun i h=>IsZip h z TI TO .none/\IsPair h TI (.ref i1) (.ref i2)/\(∃a b,IsPair h TO a b)/\h.IsTupleIter i1 a1 i/\h.IsTupleIter i2 a2 i) where
 mem:=by simp
 obj:=fun i h st b hb=>by
  obtain⟨hz,hTI,⟨a,b',hTO⟩,⟨o1,g1,c1,d1⟩,⟨o2,g2,c2,d2⟩⟩:=st;simp only[aL,dq,cj] at hb;rcases hb with rfl | rfl | rfl | rfl | rfl
  · exact⟨_,hz,fun v e=>by cases(show Data.fields _=Data.cell v from e)⟩
  · exact⟨_,hTI,fun v e=>by cases(show Data.seq _ _=Data.cell v from e)⟩
  · exact⟨_,hTO,fun v e=>by cases(show Data.seq _ _=Data.cell v from e)⟩
  · exact⟨_,g1,fun v e=>by rw[d1] at e;cases e⟩
  · exact⟨_,g2,fun v e=>by rw[d2] at e;cases e⟩
 keep:=fun i h h' st kk=>by
  obtain⟨hz,hTI,⟨a,b',hTO⟩,⟨o1,g1,r1⟩,⟨o2,g2,r2⟩⟩:=st;exact⟨kk z (by simp) _ hz,kk TI (by simp) _ hTI,⟨a,b',kk TO (by simp) _ hTO⟩,⟨o1,kk i1 (by simp) _ g1,r1⟩,⟨o2,kk i2 (by simp) _ g2,r2⟩⟩
 item:=by
  intro X hP hw hK hc i pins s σ H E I hf st hg;subst hP hw hK;obtain⟨xs,ys,x,y,q1,q2,hx,hy⟩:=hg;obtain⟨hz,hTI,⟨a,b',hTO⟩,h1,h2⟩:=st;obtain⟨us,rv1,p1,hz1⟩:=I.tuple q1;obtain⟨vs,rv2,p2,hz2⟩:=I.tuple q2;obtain⟨u,hu,ru⟩:=rv1.get hx;obtain⟨v,hv,rv⟩:=rv2.get hy;refine nC D hz hTI hTO h1 h2 p1 p2 (x:=u) (y:=v) (by simpa using hu) (by simpa using hv) fun h' e1 e2 e3 e4 e5 e6 e7=>⟨_,rfl,?_⟩;refine wpAny_letOwnedTupleGo_zip e1 fun h'' f1 f2=> ?_;have nT:s.heap.objs.size≠z:=eC (aB hz);have kk:∀b o,b∉[z,TI,TO,i1,i2]->s.heap.get? b=some o->h''.get? b=some o:=fun b o hb q=>by
   simp only[aL,dq,cj,not_or] at hb;exact f2.extBut b o hb.1 (e7 b o hb.1 hb.2.2.1 hb.2.2.2.1 hb.2.2.2.2 q)
  have hT2:h''.IsTuple s.heap.objs.size #[u,v]:=⟨_,f2.extBut _ _ nT e5,rfl,0,rfl⟩;refine⟨.ref s.heap.objs.size,upd H s.heap.objs.size (.tup [x,y]),I.turnedT (t':=s.toks) hf kk (aq _) ?_,rfl,⟨_,x,y,rfl,I.hok.fresh (aq _),rfl,fun zs hzs=>by rw[I.tuple_inj hzs q1];exact hx,fun zs hzs=>by rw[I.tuple_inj hzs q2];exact hy⟩,⟨f1,?_,⟨u,v,?_⟩,?_,?_⟩,fun b hb=> ?_⟩
  · exact⟨by show 2<=sizeLine;exact fe (cm (by decide)),[u,v],.cons ru (.cons rv .nil),hT2⟩
  · refine f2.extBut _ _ D.TIz (e7 _ _ D.TIz D.TITO D.TIi1 D.TIi2 hTI)
  · exact f2.extBut _ _ D.TOz e2
  · exact e3.extBut f2.extBut D.i1z
  · exact e4.extBut f2.extBut D.i2z
  · have:b≠s.heap.objs.size:=fun q=>by
     obtain⟨o,ho,_⟩:∃o,s.heap.get? b=some o/\True:=by
      simp only[aL,dq,cj] at hb;obtain⟨o1,g1,_⟩:=h1;obtain⟨o2,g2,_⟩:=h2;rcases hb with rfl | rfl | rfl | rfl | rfl
      · exact⟨_,hz,trivial⟩
      · exact⟨_,hTI,trivial⟩
      · exact⟨_,hTO,trivial⟩
      · exact⟨_,g1,trivial⟩
      · exact⟨_,g2,trivial⟩
     exact absurd q (bf (aB ho))
    rw[aM this];exact(hf b hb).1
 done:=by
  intro X hP hw hK hc i pins s σ H E I hf st hg;subst hP hw hK;obtain⟨xs,ys,q1,q2,hx⟩:=hg;obtain⟨hz,hTI,⟨a,b',hTO⟩,h1,h2⟩:=st;obtain⟨us,rv1,p1,hz1⟩:=I.tuple q1;have hl:=rv1.length;refine oO (TO:=TO) (I.ok.hd hc) D hz hTI h1 p1 (Array.getElem?_eq_none (by simp;lia)) fun h' e7=>⟨rfl,I.turnedL (t':=s.toks) hf fun b o hb q=> ?_⟩;simp only[aL,dq,cj,not_or] at hb;exact e7 b o hb.1 hb.2.2.1 hb.2.2.2.1 hb.2.2.2.2 q
 self:=fun _ _ _ _ _ st h=>wpAny_pyIter_zip st.1 h
def JJ(K:Frag)(ta:TA):TI:=fun σ H R=>ta σ H fun vs H1=>∃a1 a2,vs=[.ref a1,.ref a2]/\(∃xs,SqT K H1 a1 xs)/\(∃ys,SqT K H1 a2 ys)/\R (J8 K a1 a2) H1
def zR{X:Cx}{elts:List Expr}{k:Nat}{tpos:Pos}{e1 e2:Expr}{ta:TA}{p pos:Pos}(hg:Gl X "zip")(hm:X.mg "zip"=none)(ha:PA X [e1,e2] ta)(hs:starEach [e1,e2] X.env=(false,eval e1 X.env)::starEach [e2] X.env:=by rfl)(hs2:(backTo pos (starEach [e2] X.env)).any (·.1)=false:=by rfl):PI X (.Tuple elts k tpos) (.Call (.Name "zip" p) [e1,e2] [] pos) (JJ X.K ta):=by
 intro pins s σ H R I h;refine Call_ (qH I hg hm PyProof.Rows.Boot.zip (jX (cX (ha pos pins s σ H _ I h) fun us s1 ⟨vs,H1,I1,r1,q1⟩=> ?_) hs hs2));obtain⟨a1,a2,e,⟨xs,hq1⟩,⟨ys,hq2⟩,q⟩:=q1;subst e;cases r1 with
 | cons ra rr=>
   cases rr with
   | cons rb rr=>
     cases rr;cases ra;cases rb;obtain⟨us,rv1,p1,hz1⟩:=I1.tuple hq1;obtain⟨vs,rv2,p2,hz2⟩:=I1.tuple hq2;have l1:a1<s1.heap.objs.size:=by obtain⟨o,ho,_⟩:=p1;exact aB ho
     have l2:a2<s1.heap.objs.size:=by obtain⟨o,ho,_⟩:=p2;exact aB ho
     refine Br p1 p2 fun h' f1 f2 f3 f4 f5 f6 f7=> ?_;refine wpAny_pyIter_zip f1 ?_;have I2:Inv X pins σ H1 {s1 with heap:=h'}:=I1.kept (t':=s1.toks) f7;refine⟨_,_,_,_,H1,rfl,I2,Ao (zipApart_new l1 l2),⟨f1,f2,⟨_,_,f3⟩,f4,f5⟩,fun b hb=> ?_,q⟩;have hb':s1.heap.objs.size<=b:=by
      simp only[aL,dq,cj] at hb;rcases hb with h | h | h | h | h<;>rw[h]<;>first | exact aq _ | exact cR _ _
     exact I1.fpOk hb' (I1.hok.fresh hb')
def w9{K:Frag}{g:TG}{tb:TS}{D:oY}(hlen:xs.length=ys.length)(Pv:Nat->St->Hp->Prop)(h0:Pv 0 σ H)(hl:∀i σ H,i<=xs.length->Pv i σ H->SqT K H a1 xs/\SqT K H a2 ys)(hs:∀i x y σ H T,xs[i]? =some x->ys[i]? =some y->Pv i σ H->H T=none->g (.ref T) σ (upd H T (.tup [x,y])) fun σ2 H2=>tb {D with nx:=Pv (i+1),ct:=Pv (i+1),bk:=D.nx} σ2 H2)(hd:∀σ H,Pv xs.length σ H->D.nx σ H):∃W:Nat->Nat->St->Hp->Prop,(∃m,W 0 m σ H)/\∀i m σ H,W i m σ H->((J8 K a1 a2).stop i H/\D.nx σ H)\/((J8 K a1 a2).go i H/\∃N:St->Hp->Prop,(∀σ' H',N σ' H'->∃m',m'<m/\W (i+1) m' σ' H')/\∀x H',(J8 K a1 a2).yld i H x H'->g x σ H' fun σ2 H2=>tb {D with nx:=N,ct:=N,bk:=D.nx} σ2 H2):=by
 refine⟨fun i m σ H=>m=xs.length - i/\i<=xs.length/\Pv i σ H,⟨xs.length,by simp,au _,h0⟩,?_⟩;rintro i m σ H ⟨rfl,hi,p⟩;obtain⟨q1,q2⟩:=hl i σ H hi p;by_cases hlt:i<xs.length
 · have hlt2:i<ys.length:=by lia
   refine .inr ⟨⟨xs,ys,xs[i],ys[i],q1,q2,by simp[hlt],by simp[hlt2]⟩,Pv (i+1),fun σ' H' p'=>⟨xs.length - (i+1),by lia,rfl,hlt,p'⟩,fun v H' y=> ?_⟩;obtain⟨T,x,y,rfl,hT,rfl,y1,y2⟩:=y;exact hs i x y σ _ T (y1 xs q1) (y2 ys q2) p hT
 · have e:i=xs.length:=by lia
   subst e;exact .inl ⟨⟨xs,ys,q1,q2,aq _⟩,hd σ H p⟩
def tw(K:Frag)(P:Program)(w:World)(a:Addr)(kvs:List (Key × V)):Prop:=∀h:Heap,(∀b o,K.lookup b=some o->h.get? b=some o)->∃vs,KV kvs vs/\h.DictOf (cE P w) a vs
def Jg(K:Frag)(P:Program)(w:World)(td ty:TE):TE:=fun σ H Q=>td σ H fun x H1=>ty σ H1 fun y H2=>∃a kvs k v,x= .ref a/\y=kV k/\tw K P w a kvs/\cZ kvs k=some v/\Q v H2
def zS(ho:PE X o td)(hi:PE X i ty)(hs:FO i):PE X (.Subscript o i pos) (Jg X.K X.prog X.w td ty):=by
 intro pins s σ H Q I h;refine zd GC.lookup hs (cX (ho pins s σ H _ I h) fun u s1 ⟨x,H1,I1,rx,q1⟩=>cX (hi pins s1 σ H1 _ I1 q1) fun iv s2 ⟨y,H2,I2,ry,a,kvs,k,v,ex,ey,kd,l,q2⟩=> ?_);subst ex ey;obtain rfl:u=Value.ref a:=rx;obtain⟨vs,rel,dd⟩:=kd s2.heap I2.kIn;obtain⟨w',hw,rw'⟩:=RelO.some_of (v:=v) (o:=valueAt vs k) (by rw[<-l];exact rel.val k);exact⟨dd.typeIs,wpAny_getItem_of (mK ry) dd.mapOf hw ⟨v,H2,I2.tok _,rw',q2⟩⟩
noncomputable def Dp(w:World)(e:Str × Tok × Value):DictEntry:=⟨PyData.keyHash w.params e.1,.str e.1 e.2.1,e.2.2⟩
def GD:List (Key × V)->List (Str × Tok × Value)->Prop:=Paired fun kv e=>kv.1=Sum.inr e.1/\RelV kv.2 e.2.2
theorem wV:∀l:List (Str × Tok × Value),Pairs (cE P w) (l.map (Dp w)) (l.map fun e=>(Sum.inr e.1,e.2.2))
 | []=> .nil
 | e::l=> .cons (kv:=(Sum.inr e.1,e.2.2)) (nL e.1 e.2.1) rfl (wV l)
theorem Gv:∀{kvs:List (Key × V)} {l:List (Str × Tok × Value)},GD kvs l->KV kvs (l.map fun e=>(Sum.inr e.1,e.2.2))
 | _,_,.nil=> .nil
 | _,_,.cons r t=> .cons ⟨r.1,r.2⟩ (Gv t)
def Do{K:Frag}(l:List (Str × Tok × Value))(hl:K.lookup a=some {cls:= .type "dict",dict:=none,data:= .dict (l.map (Dp w)).toArray ep,slots:= #[]})(hr:GD kvs l)(hn:(l.map (·.1)).Nodup):tw K P w a kvs:=fun h hk=>by
 refine⟨_,Gv hr,_,_,_,hk _ _ hl,⟨rfl,rfl,rfl⟩,rfl,fun e he=> ?_,?_,?_⟩
 · have he':e∈l.map (Dp w):=by simpa using he
   obtain⟨x,_,rfl⟩:=cc.mp he';exact⟨Sum.inr x.1,nL x.1 x.2.1,rfl⟩
 · exact wV l
 · rw[oX];have:(l.map ((fun x:Key × Value=>x.1)∘fun e=>(Sum.inr e.1,e.2.2)))=(l.map (·.1)).map Sum.inr:=by
    rw[oX];rfl
   rw[this];exact List.Pairwise.map _ (fun a b hab e=>hab (Lr e)) hn
section
end
section
end
section
end
noncomputable def d6:Expr->Bool
 | .Starred _ _=>false
 | _=>true
def ph(h:d6 e=true):starEach (e::es) env=(false,eval e env)::starEach es env:=by
 cases e<;>first | (cases h;done) | (rw[starEach.eq_def])
def bR{X:Cx}{e:Expr}{es:List Expr}{te:TE}{t:TA}(ha:PE X e te)(hr:PA X es t)(h:d6 e=true:=by rfl):PA X (e::es) (df te t):=cB ha hr (ph h)
section
end
inductive Tx where
 | non
 | int (i:Int)
 | str (x:Str)
 | tup (ds:List Tx)
 | lst (ds:List Tx)
noncomputable instance:DecidableEq Tx:=fun a b=>Classical.propDecidable (a=b)
mutual
def Xa(H:Hp):Tx->V->Prop
 | .non,v=>v= .non
 | .int i,v=>v= .int i
 | .str x,v=>v= .str x
 | .tup ds,v=>∃p xs,v= .ref p/\H p=some (.tup xs)/\Xas H ds xs
 | .lst ds,v=>∃p xs,v= .ref p/\H p=some (.lst xs)/\Xas H ds xs
def Xas(H:Hp):List Tx->List V->Prop
 | [],xs=>xs=[]
 | d::ds,xs=>∃x r,xs=x::r/\Xa H d x/\Xas H ds r
end
mutual
noncomputable def Tx.dp:Tx->Nat
 | .non=>0
 | .int _=>0
 | .str _=>0
 | .tup ds=>1+lS ds
 | .lst ds=>1+lS ds
noncomputable def lS:List Tx->Nat
 | []=>0
 | d::ds=>max d.dp (lS ds)
end
theorem Xas.len:∀{ds:List Tx} {xs:List V},Xas H ds xs->xs.length=ds.length
 | [],_,h=>by cases h;rfl
 | _::_,_,⟨x,r,e,_,q⟩=>by rw[e,bj,bj,Xas.len q]
theorem Xas.get:∀{ds:List Tx} {xs:List V} {j:Nat} {x:V},Xas H ds xs->xs[j]? =some x->∃d,ds[j]? =some d/\Xa H d x
 | [],_,_,_,h,e=>by cases h;simp at e
 | d::_,_,0,x,⟨y,r,e,h,q⟩,g=>by subst e;simp at g;subst g;exact⟨d,rfl,h⟩
 | d::ds,_,j+1,x,⟨y,r,e,h,q⟩,g=>by
   subst e;obtain⟨d',g1,g2⟩:=Xas.get (j:=j) q (by simpa using g);exact⟨d',by simpa using g1,g2⟩
theorem vr:∀{ds:List Tx} {d:Tx},d∈ds->d.dp<=lS ds
 | e::ds,d,h=>by
   rcases aL.mp h with rfl | h
   · exact Nat.le_max_left _ _
   · exact ao (vr h) (Nat.le_max_right _ _)
def yV(h:∀d∈ds,d.dp<=n):lS ds<=n:=by
 induction ds with
 | nil=>exact au _
 | cons a r ih=>exact Nat.max_le.mpr ⟨h a aO,ih fun d hd=>h d (aH _ hd)⟩
theorem Xas.inj(ih:∀d d' v,d.dp<=n->Xa H d v->Xa H d' v->d=d'):∀{ds es:List Tx} {xs:List V},lS ds<=n->Xas H ds xs->Xas H es xs->ds=es
 | [],[],_,_,_,_=>rfl
 | [],_::_,_,_,h,⟨x,r,e,_⟩=>by have h':_=[]:=h;rw[h'] at e;cases e
 | _::_,[],_,_,⟨x,r,e,_⟩,h=>by have h':_=[]:=h;rw[h'] at e;cases e
 | d::ds,e::es,_,hn,⟨x,r,e1,h1,q1⟩,⟨y,r',e2,h2,q2⟩=>by
   rw[e1] at e2;cases e2;have m:max d.dp (lS ds)<=n:=hn;rw[ih d e x (by lia) h1 h2,Xas.inj ih (by lia) q1 q2]
def Xa.inj_n(n:Nat):∀d d' v,d.dp<=n->Xa H d v->Xa H d' v->d=d':=by
 induction n with
 | zero=>
   intro d d' v hn h h';cases d with
   | tup ds=>simp only[Tx.dp] at hn;lia
   | lst ds=>simp only[Tx.dp] at hn;lia
   | non=>
     have e:v= .non:=h;subst e;cases d' with
     | non=>rfl
     | int i=>exact absurd (show V.non= .int i from h') (by intro z;cases z)
     | str i=>exact absurd (show V.non= .str i from h') (by intro z;cases z)
     | tup es=>obtain⟨p,xs,e,_⟩:=(show ∃p xs,V.non= .ref p/\H p=some (.tup xs)/\Xas H es xs from h');cases e
     | lst es=>obtain⟨p,xs,e,_⟩:=(show ∃p xs,V.non= .ref p/\H p=some (.lst xs)/\Xas H es xs from h');cases e
   | int j=>
     have e:v= .int j:=h;subst e;cases d' with
     | non=>exact absurd (show V.int j= .non from h') (by intro z;cases z)
     | int i=>have z:V.int j= .int i:=h';cases z;rfl
     | str i=>exact absurd (show V.int j= .str i from h') (by intro z;cases z)
     | tup es=>obtain⟨p,xs,e,_⟩:=(show ∃p xs,V.int j= .ref p/\H p=some (.tup xs)/\Xas H es xs from h');cases e
     | lst es=>obtain⟨p,xs,e,_⟩:=(show ∃p xs,V.int j= .ref p/\H p=some (.lst xs)/\Xas H es xs from h');cases e
   | str j=>
     have e:v= .str j:=h;subst e;cases d' with
     | non=>exact absurd (show V.str j= .non from h') (by intro z;cases z)
     | int i=>exact absurd (show V.str j= .int i from h') (by intro z;cases z)
     | str i=>have z:V.str j= .str i:=h';cases z;rfl
     | tup es=>obtain⟨p,xs,e,_⟩:=(show ∃p xs,V.str j= .ref p/\H p=some (.tup xs)/\Xas H es xs from h');cases e
     | lst es=>obtain⟨p,xs,e,_⟩:=(show ∃p xs,V.str j= .ref p/\H p=some (.lst xs)/\Xas H es xs from h');cases e
 | succ n ih=>
   intro d d' v hn h h';by_cases hz:d.dp<=n
   · exact ih d d' v hz h h'
   cases d with
   | non=>exact absurd (au n) hz
   | int _=>exact absurd (au n) hz
   | str _=>exact absurd (au n) hz
   | tup ds=>
     obtain⟨p,xs,rfl,e1,q1⟩:=(show ∃p xs,v= .ref p/\H p=some (.tup xs)/\Xas H ds xs from h);simp only[Tx.dp] at hn;cases d' with
     | non=>exact absurd (show V.ref p= .non from h') (by intro z;cases z)
     | int i=>exact absurd (show V.ref p= .int i from h') (by intro z;cases z)
     | str i=>exact absurd (show V.ref p= .str i from h') (by intro z;cases z)
     | tup es=>
       obtain⟨p',ys,e,e2,q2⟩:=(show ∃p' xs,V.ref p= .ref p'/\H p'=some (.tup xs)/\Xas H es xs from h');cases e;rw[e1] at e2;cases e2;rw[Xas.inj ih (by lia) q1 q2]
     | lst es=>
       obtain⟨p',ys,e,e2,q2⟩:=(show ∃p' xs,V.ref p= .ref p'/\H p'=some (.lst xs)/\Xas H es xs from h');cases e;rw[e1] at e2;cases e2
   | lst ds=>
     obtain⟨p,xs,rfl,e1,q1⟩:=(show ∃p xs,v= .ref p/\H p=some (.lst xs)/\Xas H ds xs from h);simp only[Tx.dp] at hn;cases d' with
     | non=>exact absurd (show V.ref p= .non from h') (by intro z;cases z)
     | int i=>exact absurd (show V.ref p= .int i from h') (by intro z;cases z)
     | str i=>exact absurd (show V.ref p= .str i from h') (by intro z;cases z)
     | lst es=>
       obtain⟨p',ys,e,e2,q2⟩:=(show ∃p' xs,V.ref p= .ref p'/\H p'=some (.lst xs)/\Xas H es xs from h');cases e;rw[e1] at e2;cases e2;rw[Xas.inj ih (by lia) q1 q2]
     | tup es=>
       obtain⟨p',ys,e,e2,q2⟩:=(show ∃p' xs,V.ref p= .ref p'/\H p'=some (.tup xs)/\Xas H es xs from h');cases e;rw[e1] at e2;cases e2
def Xa.inj(h:Xa H d v)(h':Xa H d' v):d=d':=Xa.inj_n d.dp d d' v (aq _) h h'
def u_(ds es:List Tx):((List.range (min ds.length es.length)).all (fun j=>decide (ds[j]? =es[j]?))&&ds.length==es.length)=decide (ds=es):=by
 by_cases h:ds=es
 · subst h;simp
 · rw[ag h];by_cases hl:ds.length=es.length
   · have:¬ (List.range (min ds.length es.length)).all (fun j=>decide (ds[j]? =es[j]?))=true:=by
      intro ha;apply h;apply MU;intro j;by_cases hj:j<ds.length
      · have:=(dU.mp ha) j (cy.mpr (by lia));simpa using this
      · rw[rq (by lia),rq (by lia)]
     rw[lR.mpr this];rfl
   · rw[bU.mpr hl,hJ]
def Af(ds es:List Tx):decide (Tx.tup ds=Tx.tup es)=decide (ds=es):=by
 by_cases h:ds=es
 · subst h;simp
 · rw[ag h,ag (by intro z;cases z;exact h rfl)]
def FA(ds es:List Tx):decide (Tx.lst ds=Tx.lst es)=decide (ds=es):=by
 by_cases h:ds=es
 · subst h;simp
 · rw[ag h,ag (by intro z;cases z;exact h rfl)]
section
def nP(hx:Xa H d x)(hy:Xa H d' y)(ru:RelV x u)(rv:RelV y v)(h:SeqAt.RcAt A s u v (decide (d=d'))):SeqAt.EqAt A s u v (decide (d=d')):=by
 by_cases z:u=v
 · subst z;have e:x=y:=RelV.inj ru rv;subst e;rw[ax (Xa.inj hx hy)];exact SeqAt.EqAt.same _
 · intro prog w E Q hq;unfold eqBool;refine cK ?_;refine wpAny_ite_split (fun hab=>absurd (eq_of_beq hab) z) (fun _=> ?_);have nf:∀b t,u≠ .float b t:=by
    rintro b t rfl;cases d with
    | non=>have e:x= .non:=hx;subst e;cases ru
    | int i=>have e:x= .int i:=hx;subst e;obtain⟨_,e⟩:=ru;cases e
    | str i=>have e:x= .str i:=hx;subst e;obtain⟨_,e⟩:=ru;cases e
    | tup ds=>obtain⟨p,xs,rfl,_⟩:=(show ∃p xs,x= .ref p/\H p=some (.tup xs)/\Xas H ds xs from hx);cases ru
    | lst ds=>obtain⟨p,xs,rfl,_⟩:=(show ∃p xs,x= .ref p/\H p=some (.lst xs)/\Xas H ds xs from hx);cases ru
   cases u with
   | float b t=>exact absurd rfl (nf b t)
   | _=>exact aa (h prog w E _ (cY hq))
def Jp(hx:Xas H ds xs)(hy:Xas H es ys)(r1:Vals xs its)(r2:Vals ys jts)(hn:lS ds<=n)(ih:∀d d' x y u v,d.dp<=n->Xa H d x->Xa H d' y->RelV x u->RelV y v->SeqAt.EqAt A s u v (decide (d=d'))):its.toArray.size=ds.length/\jts.toArray.size=es.length/\∀j (g1:j<its.toArray.size) (g2:j<jts.toArray.size),SeqAt.EqAt A s its.toArray[j] jts.toArray[j] ((fun j=>decide (ds[j]? =es[j]?)) j):=by
 have l1:its.toArray.size=ds.length:=by rw[aQ,<-r1.length,hx.len]
 have l2:jts.toArray.size=es.length:=by rw[aQ,<-r2.length,hy.len]
 refine⟨l1,l2,fun j g1 g2=> ?_⟩;have j1:j<xs.length:=by rw[hx.len,<-l1];exact g1
 have j2:j<ys.length:=by rw[hy.len,<-l2];exact g2
 obtain⟨k1,e1,i1⟩:=hx.get (aE j1);obtain⟨k2,e2,i2⟩:=hy.get (aE j2);obtain⟨u1,a1,b1⟩:=r1.get (aE j1);obtain⟨u2,a2,b2⟩:=r2.get (aE j2);have c1:its.toArray[j]=u1:=by
  have:=(bp.mp a1).2;simpa using this
 have c2:jts.toArray[j]=u2:=by
  have:=(bp.mp a2).2;simpa using this
 rw[c1,c2];show SeqAt.EqAt A s u1 u2 (decide (ds[j]? =es[j]?));rw[e1,e2];have:decide (some k1=some k2)=decide (k1=k2):=by
  by_cases h:k1=k2
  · subst h;simp
  · rw[ag h,ag (by intro z;cases z;exact h rfl)]
 rw[this];exact ih k1 k2 _ _ _ _ (ao (vr (av e1)) hn) i1 i2 b1 b2
def Cb{σ:St}(I:Inv X pins σ H s)(n:Nat):∀d d' A x y u v,d.dp<=n->Xa H d x->Xa H d' y->RelV x u->RelV y v->A.units+d.dp<cLine->SeqAt.RcAt A s u v (decide (d=d'))/\SeqAt.RcNeAt A s u v (!decide (d=d')):=by
 have tupA:∀{es:List Tx} {y:V} {v:Value},Xa H (.tup es) y->RelV y v->∃p ys jts,y= .ref p/\v= .ref p/\Xas H es ys/\Vals ys jts/\s.heap.IsTuple p jts.toArray:=by
  intro es y v h r;obtain⟨p,ys,rfl,e,q⟩:=(show ∃p xs,y= .ref p/\H p=some (.tup xs)/\Xas H es xs from h);obtain⟨_,its,r1,t1⟩:=(show ObjOk X.prog X.w H s.heap p (.tup ys) from I.hok p _ e);exact⟨p,ys,its,rfl,r,q,r1,t1⟩
 have lstA:∀{es:List Tx} {y:V} {v:Value},Xa H (.lst es) y->RelV y v->∃p ys jts,y= .ref p/\v= .ref p/\Xas H es ys/\Vals ys jts/\s.heap.IsList p jts.toArray:=by
  intro es y v h r;obtain⟨p,ys,rfl,e,q⟩:=(show ∃p xs,y= .ref p/\H p=some (.lst xs)/\Xas H es xs from h);obtain⟨its,r1,t1,_⟩:=I.list (SqL.of e);exact⟨p,ys,its,rfl,r,q,r1,t1.isList⟩
 have base:∀(d d':Tx) (A:Around) (x y:V) (u v:Value),d.dp<=0->Xa H d x->Xa H d' y->RelV x u->RelV y v->A.units+d.dp<cLine->SeqAt.RcAt A s u v (decide (d=d'))/\SeqAt.RcNeAt A s u v (!decide (d=d')):=by
  intro d d' A x y u v hn hx hy ru rv hl;have hl0:A.units<cLine:=by lia
  cases d with
  | tup ds=>simp only[Tx.dp] at hn;lia
  | lst ds=>simp only[Tx.dp] at hn;lia
  | non=>
    have ex:x= .non:=hx;subst ex;have eu:u= .none:=ru;subst eu;cases d' with
    | non=>
      have ey:y= .non:=hy;subst ey;have ev:v= .none:=rv;subst ev;rw[ax rfl];exact⟨SeqAt.RcAt.none_none,SeqAt.RcNeAt.none_none⟩
    | int i=>
      have ey:y= .int i:=hy;subst ey;obtain⟨t,rfl⟩:=rv;rw[ag (by intro z;cases z)];exact⟨SeqAt.RcAt.none_int _ _,SeqAt.RcNeAt.none_int _ _⟩
    | str i=>
      have ey:y= .str i:=hy;subst ey;obtain⟨t,rfl⟩:=rv;rw[ag (by intro z;cases z)];exact⟨SeqAt.RcAt.none_str _ _,SeqAt.RcNeAt.none_str _ _⟩
    | tup es=>
      obtain⟨p,ys,jts,rfl,rfl,_,_,t⟩:=tupA hy rv;rw[ag (by intro z;cases z)];exact⟨SeqAt.RcAt.none_tuple t hl0,SeqAt.RcNeAt.none_tuple t hl0⟩
    | lst es=>
      obtain⟨p,ys,jts,rfl,rfl,_,_,t⟩:=lstA hy rv;rw[ag (by intro z;cases z)];exact⟨SeqAt.RcAt.none_list t hl0,SeqAt.RcNeAt.none_list t hl0⟩
  | int j=>
    have ex:x= .int j:=hx;subst ex;obtain⟨t0,rfl⟩:=ru;cases d' with
    | non=>
      have ey:y= .non:=hy;subst ey;have ev:v= .none:=rv;subst ev;rw[ag (by intro z;cases z)];exact⟨SeqAt.RcAt.int_none _ _,SeqAt.RcNeAt.int_none _ _⟩
    | int i=>
      have ey:y= .int i:=hy;subst ey;obtain⟨t,rfl⟩:=rv;have e:decide (Tx.int j=Tx.int i)=(j==i):=by
       by_cases h:j=i
       · subst h;simp
       · rw[ag (by intro z;cases z;exact h rfl),bU.mpr h]
      rw[e];exact⟨SeqAt.RcAt.int_int _ _ _ _,SeqAt.RcNeAt.int_int _ _ _ _⟩
    | str i=>
      have ey:y= .str i:=hy;subst ey;obtain⟨t,rfl⟩:=rv;rw[ag (by intro z;cases z)];exact⟨SeqAt.RcAt.int_str _ _ _ _,SeqAt.RcNeAt.int_str _ _ _ _⟩
    | tup es=>
      obtain⟨p,ys,jts,rfl,rfl,_,_,t⟩:=tupA hy rv;rw[ag (by intro z;cases z)];exact⟨SeqAt.RcAt.int_tuple _ _ t hl0,SeqAt.RcNeAt.int_tuple _ _ t hl0⟩
    | lst es=>
      obtain⟨p,ys,jts,rfl,rfl,_,_,t⟩:=lstA hy rv;rw[ag (by intro z;cases z)];exact⟨SeqAt.RcAt.int_list _ _ t hl0,SeqAt.RcNeAt.int_list _ _ t hl0⟩
  | str j=>
    have ex:x= .str j:=hx;subst ex;obtain⟨t0,rfl⟩:=ru;cases d' with
    | non=>
      have ey:y= .non:=hy;subst ey;have ev:v= .none:=rv;subst ev;rw[ag (by intro z;cases z)];exact⟨SeqAt.RcAt.str_none _ _,SeqAt.RcNeAt.str_none _ _⟩
    | int i=>
      have ey:y= .int i:=hy;subst ey;obtain⟨t,rfl⟩:=rv;rw[ag (by intro z;cases z)];exact⟨SeqAt.RcAt.str_int _ _ _ _,SeqAt.RcNeAt.str_int _ _ _ _⟩
    | str i=>
      have ey:y= .str i:=hy;subst ey;obtain⟨t,rfl⟩:=rv;have e:decide (Tx.str j=Tx.str i)=(j==i):=by
       by_cases h:j=i
       · subst h;simp
       · rw[ag (by intro z;cases z;exact h rfl),bU.mpr h]
      rw[e];exact⟨SeqAt.RcAt.str_str _ _ _ _,SeqAt.RcNeAt.str_str _ _ _ _⟩
    | tup es=>
      obtain⟨p,ys,jts,rfl,rfl,_,_,t⟩:=tupA hy rv;rw[ag (by intro z;cases z)];exact⟨SeqAt.RcAt.str_tuple _ _ t hl0,SeqAt.RcNeAt.str_tuple _ _ t hl0⟩
    | lst es=>
      obtain⟨p,ys,jts,rfl,rfl,_,_,t⟩:=lstA hy rv;rw[ag (by intro z;cases z)];exact⟨SeqAt.RcAt.str_list _ _ t hl0,SeqAt.RcNeAt.str_list _ _ t hl0⟩
 induction n with
 | zero=>exact fun d d' A x y u v hn=>base d d' A x y u v (by lia)
 | succ n ih=>
   intro d d' A x y u v hn hx hy ru rv hl;have hl0:A.units<cLine:=by lia
   cases d with
   | non=>exact base _ d' A x y u v (aq _) hx hy ru rv hl
   | int _=>exact base _ d' A x y u v (aq _) hx hy ru rv hl
   | str _=>exact base _ d' A x y u v (aq _) hx hy ru rv hl
   | tup ds=>
     obtain⟨p0,xs,its,rfl,rfl,q1,r1,t1⟩:=tupA hx ru;simp only[Tx.dp] at hn hl;cases d' with
     | non=>
       have ey:y= .non:=hy;subst ey;have ev:v= .none:=rv;subst ev;rw[ag (by intro z;cases z)];exact⟨SeqAt.RcAt.tuple_none t1 hl0,SeqAt.RcNeAt.tuple_none t1 hl0⟩
     | int i=>
       have ey:y= .int i:=hy;subst ey;obtain⟨t,rfl⟩:=rv;rw[ag (by intro z;cases z)];exact⟨SeqAt.RcAt.tuple_int _ _ t1 hl0,SeqAt.RcNeAt.tuple_int _ _ t1 hl0⟩
     | str i=>
       have ey:y= .str i:=hy;subst ey;obtain⟨t,rfl⟩:=rv;rw[ag (by intro z;cases z)];exact⟨SeqAt.RcAt.tuple_str _ _ t1 hl0,SeqAt.RcNeAt.tuple_str _ _ t1 hl0⟩
     | tup es=>
       obtain⟨p,ys,jts,rfl,rfl,q2,r2,t2⟩:=tupA hy rv;obtain⟨l1,l2,he⟩:=Jp (A:=A.in1) (s:=s) (n:=min n (lS ds)) q1 q2 r1 r2 (by lia) fun d d' x y u v hd a b c e=>
        nP a b c e (ih d d' A.in1 x y u v (by lia) a b c e (by rw[iJ];lia)).1
       have g1:=SeqAt.RcAt.tuples (A:=A) t1 t2 hl0 he;have g2:=SeqAt.RcNeAt.tuples (A:=A) t1 t2 hl0 he;rw[l1,l2,u_,<-Af] at g1;rw[l1,l2,u_,<-Af] at g2;exact⟨g1,g2⟩
     | lst es=>
       obtain⟨p,ys,jts,rfl,rfl,_,_,t⟩:=lstA hy rv;rw[ag (by intro z;cases z)];exact⟨SeqAt.RcAt.tuple_list t1 t hl0,SeqAt.RcNeAt.tuple_list t1 t hl0⟩
   | lst ds=>
     obtain⟨p0,xs,its,rfl,rfl,q1,r1,t1⟩:=lstA hx ru;simp only[Tx.dp] at hn hl;cases d' with
     | non=>
       have ey:y= .non:=hy;subst ey;have ev:v= .none:=rv;subst ev;rw[ag (by intro z;cases z)];exact⟨SeqAt.RcAt.list_none t1 hl0,SeqAt.RcNeAt.list_none t1 hl0⟩
     | int i=>
       have ey:y= .int i:=hy;subst ey;obtain⟨t,rfl⟩:=rv;rw[ag (by intro z;cases z)];exact⟨SeqAt.RcAt.list_int _ _ t1 hl0,SeqAt.RcNeAt.list_int _ _ t1 hl0⟩
     | str i=>
       have ey:y= .str i:=hy;subst ey;obtain⟨t,rfl⟩:=rv;rw[ag (by intro z;cases z)];exact⟨SeqAt.RcAt.list_str _ _ t1 hl0,SeqAt.RcNeAt.list_str _ _ t1 hl0⟩
     | tup es=>
       obtain⟨p,ys,jts,rfl,rfl,_,_,t⟩:=tupA hy rv;rw[ag (by intro z;cases z)];exact⟨SeqAt.RcAt.list_tuple t1 t hl0,SeqAt.RcNeAt.list_tuple t1 t hl0⟩
     | lst es=>
       obtain⟨p,ys,jts,rfl,rfl,q2,r2,t2⟩:=lstA hy rv;obtain⟨l1,l2,he⟩:=Jp (A:=A.in1) (s:=s) (n:=min n (lS ds)) q1 q2 r1 r2 (by lia) fun d d' x y u v hd a b c e=>
        nP a b c e (ih d d' A.in1 x y u v (by lia) a b c e (by rw[iJ];lia)).1
       by_cases hz:ds.length=es.length
       · have g1:=SeqAt.RcAt.lists (A:=A) t1 t2 (by rw[l1,l2,hz]) hl0 he;have g2:=SeqAt.RcNeAt.lists (A:=A) t1 t2 (by rw[l1,l2,hz]) hl0 he;have e:(List.range its.toArray.size).all (fun j=>decide (ds[j]? =es[j]?))=decide (Tx.lst ds=Tx.lst es):=by
          have:=u_ ds es;rw[hz,Nat.min_self,beq_self_eq_true,Bool.and_true] at this;rw[l1,hz,this,FA]
         rw[e] at g1;rw[e] at g2;exact⟨g1,g2⟩
       · have hz':(its.toArray.size !=jts.toArray.size)=true:=by rw[l1,l2];simp[hz]
         rw[ag (by intro z;cases z;exact hz rfl)];exact⟨SeqAt.RcAt.lists_lengths t1 t2 hz' hl0,SeqAt.RcNeAt.lists_lengths t1 t2 hz' hl0⟩
def LX{X:Cx}{pins:List (Addr × Obj)}{σ:St}{H:Hp}{s:Shared}(I:Inv X pins σ H s){d d':Tx}{A:Around}{x y:V}{u v:Value}(hx:Xa H d x)(hy:Xa H d' y)(ru:RelV x u)(rv:RelV y v)(hl:A.units+d.dp<cLine):SeqAt.EqAt A s u v (decide (d=d')):=nP hx hy ru rv (Cb I d.dp d d' A x y u v (aq _) hx hy ru rv hl).1
end
section
def K5:R2:=fun x y H Q=>∃k k':Tx,Xa H k x/\Xa H k' y/\k.dp<=60/\Q (.bl (decide (k=k'))) H
def K2:R2:=fun x y H Q=>∃k k':Tx,Xa H k x/\Xa H k' y/\k.dp<=60/\Q (.bl (!decide (k=k'))) H
def CD(hu:X.A.units+64<cLine):ju X (compareOp .Eq) K5:=by
 intro pins s σ H x y v u Q I rx ry h;obtain⟨k,k',h1,h2,hd,q⟩:=h;exact(Cb I k.dp k k' X.A x y v u (aq _) h1 h2 rx ry (by lia)).1 _ _ _ _ ⟨.bl _,H,I,rfl,q⟩
def Hr(hu:X.A.units+64<cLine):ju X (compareOp .NotEq) K2:=by
 intro pins s σ H x y v u Q I rx ry h;obtain⟨k,k',h1,h2,hd,q⟩:=h;exact(Cb I k.dp k k' X.A x y v u (aq _) h1 h2 rx ry (by lia)).2 _ _ _ _ ⟨.bl _,H,I,rfl,q⟩
end
noncomputable def Kd.tx:Kd->Tx
 | .nm x=> .str x
 | .two a b=> .tup [.str "both",a.tx,b.tx]
 | .som r c=> .tup [.str "some",.str r,c.tx]
theorem IsK.xa:∀{k:Kd} {v:V},IsK H k v->Xa H k.tx v
 | .nm _,_,h=>h
 | .two _ _,_,⟨p,x,y,e,h,ha,hb⟩=>⟨p,_,e,h,_,_,rfl,rfl,_,_,rfl,ha.xa,_,_,rfl,hb.xa,rfl⟩
 | .som _ _,_,⟨p,y,e,h,hc⟩=>⟨p,_,e,h,_,_,rfl,rfl,_,_,rfl,rfl,_,_,rfl,hc.xa,rfl⟩
theorem Kd.tx_inj:∀{a b:Kd},a.tx=b.tx->a=b
 | .nm _,.nm _,h=>by injection h with h;rw[h]
 | .nm _,.two _ _,h=>by cases h
 | .nm _,.som _ _,h=>by cases h
 | .two _ _,.nm _,h=>by cases h
 | .som _ _,.nm _,h=>by cases h
 | .two _ _,.two _ _,h=>by
   injection h with h
   injection h with _ h
   injection h with h1 h
   injection h with h2 _
   rw[Kd.tx_inj h1,Kd.tx_inj h2]
 | .two _ _,.som _ _,h=>by
   injection h with h
   injection h with h _
   injection h with h
   exact absurd h mP
 | .som _ _,.two _ _,h=>by
   injection h with h
   injection h with h _
   injection h with h
   exact absurd h.symm mP
 | .som _ _,.som _ _,h=>by
   injection h with h
   injection h with _ h
   injection h with h1 h
   injection h with h2 _
   injection h1 with h1
   rw[h1,Kd.tx_inj h2]
theorem Kd.tx_dp:∀k:Kd,k.tx.dp=k.dep
 | .nm _=>rfl
 | .two a b=>by
   show 1+max 0 (max a.tx.dp (max b.tx.dp 0))=1+max a.dep b.dep;rw[tx_dp a,tx_dp b];lia
 | .som _ c=>by
   show 1+max 0 (max 0 (max c.tx.dp 0))=1+c.dep;rw[tx_dp c];lia
open PySem
open PySem PyProof.Rows
section
end
section
end
section
variable {prog:Program}{w:World}{κ:Type}[DecidableEq κ]{knd:KeyKind prog w κ}{A:Around}{E:Value->Shared->Prop}{s:Shared}
end
section
variable {prog:Program}{w:World}{κ:Type}[DecidableEq κ]{knd:KeyKind prog w κ}{A:Around}{E:Value->Shared->Prop}{s:Shared}
end
section
variable {prog:Program}{w:World}{κ:Type}[DecidableEq κ]{knd:KeyKind prog w κ}{A:Around}{E:Value->Shared->Prop}{s:Shared}
end
section
variable {prog:Program}{w:World}{κ:Type}[DecidableEq κ]{knd:KeyKind prog w κ}{A:Around}{E:Value->Shared->Prop}{s:Shared}
end
section
variable {prog:Program}{w:World}{κ:Type}[DecidableEq κ]{knd:KeyKind prog w κ}{A:Around}{E:Value->Shared->Prop}{s:Shared}
end
section
end
section
end
section
end
def ER(hK:X.K=K')(hc:X.calm=true)(hN:X.N.Nodup)(hi:X.N[i]? =some x)(hj:X.N[j]? =some y)(lx:X.env.scope.names.lookup x=some .local)(ly:X.env.scope.names.lookup y=some .local):PG X (.Tuple [.Name x p1,.Name y p2] k pos) (JL K' 2 (oH (gm i) (oH (gm j) Fw))):=by
 subst hK;exact eO hc (bz (pD hN hi (.inl lx) (.inr lx)) (bz (pD hN hj (.inl ly) (.inr ly)) dD))
section
end
section
def onV.of(e:σ[i]? =some (some v))(q:Q v):onV σ i Q:=by unfold onV;rw[e];exact q
end
section
end
section
variable {prog:Program}{w:World}{κ:Type}[DecidableEq κ]{knd:KeyKind prog w κ}
end
section
end
section
end
section
end
section
end
section
end
noncomputable def pP(e:Expr)(depth:Nat)(it acc:Value)(env:Env)(p:Pos)(target:Expr)(ifs:List Expr)(B:Sem Fin->Sem Fin):Sem Fin:=do
 standAt p
 match<-pyNext it with
 | none=>pure (.done .next)
 | some v=>
   letOwnedTupleGo target it v
   assign target env v
   let mut ok:=true
   for c in ifs do
    if ok then ok<-isTrue c env (eval c env)
   if ok then B (again (.compLoop e depth it acc env)) else again (.compLoop e depth it acc env)
noncomputable def Gx(kx vx:Expr)(D:Addr)(env:Env):Sem Unit:=do
 let kv<-eval kx env
 let vv<-holding [kv] (eval vx env)
 standAt {kx.pos with endLine:=vx.pos.endLine,endCol:=vx.pos.endCol}
 holding [kv,vv] (dictSet D kv vv)
noncomputable def DH(kx vx:Expr)(D:Addr)(env:Env)(k:Sem Fin):Sem Fin:=do
 Gx kx vx D env
 k
noncomputable def yG(e:Expr)(iter2:Expr)(acc:Value)(env:Env)(k:Sem Fin):Sem Fin:=do
 let x<-eval iter2 env
 standAt iter2.pos
 let x<-foldedSetIterable iter2 env x
 let _<-runOwn (.compStart e 1 (<-holding [x] (pyIter x)) acc env) env
 k
def I_(kx vx tg iter:Expr)(ifs:List Expr)(tg2 iter2:Expr)(ifs2:List Expr)(scope:Scope)(pos:Pos)(it:Value)(D:Addr)(env:Env):compTurn (.DictComp kx vx [⟨tg,iter,ifs,0⟩,⟨tg2,iter2,ifs2,0⟩] scope pos) 0 it (.ref D) env=pP (.DictComp kx vx [⟨tg,iter,ifs,0⟩,⟨tg2,iter2,ifs2,0⟩] scope pos) 0 it (.ref D) env iter.pos tg ifs (yG (.DictComp kx vx [⟨tg,iter,ifs,0⟩,⟨tg2,iter2,ifs2,0⟩] scope pos) iter2 (.ref D) env):=by rfl
def I0(kx vx tg iter:Expr)(ifs:List Expr)(tg2 iter2:Expr)(ifs2:List Expr)(scope:Scope)(pos:Pos)(it:Value)(D:Addr)(env:Env):compTurn (.DictComp kx vx [⟨tg,iter,ifs,0⟩,⟨tg2,iter2,ifs2,0⟩] scope pos) 1 it (.ref D) env=pP (.DictComp kx vx [⟨tg,iter,ifs,0⟩,⟨tg2,iter2,ifs2,0⟩] scope pos) 1 it (.ref D) env iter2.pos tg2 ifs2 (DH kx vx D env):=by rfl
theorem Fg{prog:Program}{w:World}{A:Around}{R:Result->Shared->Prop}{s:Shared}{kx vx target:Expr}{gs:List Comprehension}{scope:Scope}{pos:Pos}{depth:Nat}{p:Pos}{ifs:List Expr}{it acc:Value}{env:Env}{B:Sem Fin->Sem Fin}(ht:compTurn (.DictComp kx vx gs scope pos) depth it acc env=pP (.DictComp kx vx gs scope pos) depth it acc env p target ifs B)(I:Nat->Shared->Prop)(turn:∀n s,I n s->wpAny (model prog w) A (pyNext it) (fun r s₁=>match r with
 | none=>R (.ok .next) s₁
 | some v=>wpAny (model prog w) A (letOwnedTupleGo target it v) (fun _ s₁'=>wpAny (model prog w) A (assign target env v) (fun _ s₂=>
  wpAny (model prog w) A (forIn ifs true fun c r=>if r=true then do let ok<-isTrue c env (eval c env);pure (ForInStep.yield ok) else pure (ForInStep.yield r)) (fun ok s₃=>
   if ok=true then(∀(k:Sem Fin) (Q:Fin->Shared->Prop),(∀s₆,(∃m,m<n/\I m s₆)->wpAny (model prog w) A k Q (fun _ _=>False) s₆)->wpAny (model prog w) A (B k) Q (fun _ _=>False) s₃)
   else ∃m,m<n/\I m s₃) (fun _ _=>False) s₂) (fun _ _=>False) s₁') (fun _ _=>False) s₁) (fun _ _=>False) s) (n:Nat) (h:I n s):codeAny (model prog w) A (.compLoop (.DictComp kx vx gs scope pos) depth it acc env) R s:=by
 refine codeAny_loop rfl I (fun n s hI=> ?_) n h;show wpAny _ A ((compTurn (.DictComp kx vx gs scope pos) depth it acc env).onRaise (fun x=>do noteFrame x env;theTreesLotGoes x)) _ _ s;refine wpAny_noted ?_;refine wpAny_noRaise ?_;rw[ht];unfold pP;refine aa (dG (aa (bJ (turn n s hI) (fun r s₁ h₁=> ?_) fun _ _ h'=>h')));cases r with
 | none=>exact aA h₁
 | some v=>
   refine aa (bJ h₁ (fun _ s₁' h₁'=> ?_) fun _ _ h'=>h');refine aa (bJ h₁' (fun _ s₂ h₂=>aa (bJ h₂ (fun ok s₃ h₃=> ?_) fun _ _ h'=>h')) fun _ _ h'=>h');cases ok with
   | false=>exact aA ⟨rfl,h₃⟩
   | true=>exact h₃ _ _ fun s₆ h₆=>aA ⟨rfl,h₆⟩
abbrev TB:=St->Hp->(St->Hp->Prop)->Prop
def JD(J:It)(g:TG)(tc:TT)(tb:TB)(Fin:St->Hp->Prop)(σ0:St)(H0:Hp):Prop:=∃W:Nat->Nat->St->Hp->Prop,(∃m,W 0 m σ0 H0)/\∀i m σ H,W i m σ H->(J.stop i H/\Fin σ H)\/(J.go i H/\∃N:St->Hp->Prop,(∀σ' H',N σ' H'->∃m',m'<m/\W (i+1) m' σ' H')/\∀x H1,J.yld i H x H1->g x σ H1 fun σ2 H2=>tc σ2 H2 fun b H3=>
   if b=true then tb σ2 H3 N else N σ2 H3)
def Gn{Fin:St->Hp->Prop}(n:Nat)(Pv:Nat->St->Hp->Prop)(h0:Pv 0 σ0 H0)(hend:∀σ H,Pv n σ H->J.stop n H/\Fin σ H)(hs:∀i σ H,i<n->Pv i σ H->J.go i H/\∀x H1,J.yld i H x H1->g x σ H1 fun σ2 H2=>tc σ2 H2 fun b H3=>
 if b=true then tb σ2 H3 (Pv (i+1)) else Pv (i+1) σ2 H3):JD J g tc tb Fin σ0 H0:=by
 refine⟨fun i m σ H=>m=n - i/\i<=n/\Pv i σ H,⟨n,by simp,au _,h0⟩,?_⟩;rintro i m σ H ⟨rfl,hi,p⟩;by_cases hlt:i<n
 · obtain⟨q1,q2⟩:=hs i σ H hlt p;exact .inr ⟨q1,Pv (i+1),fun σ' H' p'=>⟨n - (i+1),by lia,rfl,hlt,p'⟩,q2⟩
 · have e:i=n:=by lia
   subst e;exact .inl (hend σ H p)
def y_(tk tv:TE)(D:Addr):TB:=fun σ H N=>tk σ H fun y H4=>tv σ H4 fun v H5=>∃kvs k,y=kV k/\H5 D=some (.dK kvs)/\kvs.length<sizeLine/\N σ (upd H5 D (.dK (cq kvs k v)))
def KG(wi:TI)(g:TG)(tc:TT)(tb:TB):TB:=fun σ H N=>wi σ H fun J H1=>JD J g tc tb N σ H1
def El(wi:TI)(g:TG)(tc:TT)(wi2:TI)(g2:TG)(tc2:TT)(tk tv:TE)(nl:Nat)(caps:List Nat):TE:=fun σ H Q=>
 wi σ H fun J H1=>∀D,H1 D=none->JD J g tc (KG wi2 g2 tc2 (y_ tk tv D)) (fun _ H'=>Q (.ref D) H') (zf nl caps σ) (upd H1 D (.dK []))
def PB(X:Cx)(B:Sem Fin->Sem Fin)(tb:TB):Prop:=∀(pins:List (Addr × Obj)) (s:Shared) (σ:St) (H:Hp) (N:St->Hp->Prop),Inv X pins σ H s->tb σ H N->∀(k:Sem Fin) (Q:Fin->Shared->Prop),(∀s' σ' H',Inv X pins σ' H' s'->N σ' H'->wpAny (model X.prog X.w) X.A k Q X.xe s')->wpAny (model X.prog X.w) X.A (B k) Q X.xe s
section
def C_{σ:St}{Fin:St->Hp->Prop}(hx:X.xe=fun _ _=>False)(hturn:compTurn (.DictComp kx vx gs scope pos) depth (.ref it) acc X.env=pP (.DictComp kx vx gs scope pos) depth (.ref it) acc X.env p tg ifs B)(hc:X.calm=true)(hB:PB X B tb)(I:Inv X pins σ H s)(T:xr X.prog X.w X.K tg J fp it tn)(st:tn 0 s.heap)(hf:∀b∈fp,kF X pins H b)(hg:PG X tg g)(ht:Ea X ifs tc)(h:JD J g tc tb Fin σ H)(hR:∀σ' H' s',Inv X pins σ' H' s'->Fin σ' H'->R (.ok .next) s'):codeAny (model X.prog X.w) X.A (.compLoop (.DictComp kx vx gs scope pos) depth (.ref it) acc X.env) R s:=by
 obtain⟨W,⟨m0,w0⟩,turn⟩:=h;have stat:∀{H':Hp},(∀b∈fp,H' b=none)->∀b∈fp,kF X pins H' b:=fun hn b hb=>⟨hn b hb,(hf b hb).2⟩;refine Fg hturn (fun n s'=>∃i σ' H',Inv X pins σ' H' s'/\tn i s'.heap/\(∀b∈fp,H' b=none)/\W i n σ' H') ?_ m0 ⟨0,σ,H,I,st,fun b hb=>(hf b hb).1,w0⟩;rintro n s3 ⟨i,σ3,H3,I3,st3,fr3,w3⟩;rw[<-hx];rcases turn i n σ3 H3 w3 with⟨stop,qn⟩ | ⟨go,Nn,hNn,step⟩
 · refine cX (T.done X rfl rfl rfl hc i pins s3 σ3 H3 _ I3 (stat fr3) st3 stop) fun r s4 ⟨hr,I4⟩=> ?_;subst hr;exact hR σ3 H3 s4 I4 qn
 · refine cX (T.item X rfl rfl rfl hc i pins s3 σ3 H3 _ I3 (stat fr3) st3 go) fun r s4 ⟨u,hr,h4⟩=> ?_;subst hr;refine cX h4 fun _ s5 ⟨x,H5,I5,r5,y5,st5,fr5⟩=> ?_;have I5':=I5.pinned (stat fr5) (T.obj _ _ st5);have again:∀{σ7:St} {H7:Hp} {s7:Shared},Inv X (pins++k9 fp s5.heap) σ7 H7 s7->Nn σ7 H7->
    ∃m,m<n/\∃i σ' H',Inv X pins σ' H' s7/\tn i s7.heap/\(∀b∈fp,H' b=none)/\W i m σ' H':=fun {σ7 H7 s7} I7 n7=>by
    obtain⟨m',hm,w7⟩:=hNn σ7 H7 n7;refine⟨m',hm,i+1,σ7,H7,I7.unpinned,T.keep _ _ _ st5 fun b hb o e=>(I7.pin (b,o) (be _ (be _ (fO hb e)))).1,fun b hb=> ?_,w7⟩;obtain⟨o,e,d⟩:=T.obj _ _ st5 b hb;exact(I7.pin (b,o) (be _ (be _ (fO hb e)))).2.1
   refine cX (hg _ s5 σ3 H5 x u _ I5' r5 (step x H5 y5)) fun _ s6 ⟨σ6,H6,I6,q6⟩=> ?_;refine cX (ht _ s6 σ6 H6 _ I6 q6) fun b s7 ⟨H7,I7,q7⟩=> ?_;cases b with
   | false=>exact again I7 q7
   | true=>
     intro k Q hk;have hB':=hB _ s7 σ6 H7 _ I7 q7 k Q;rw[hx] at hB';rw[hx] at hk;rw[hx];exact hB' fun s8 σ8 H8 I8 q8=>hk s8 (again I8 q8)
def Hl(hk:PE X kx tk)(hv:PE X vx tv):PB X (DH kx vx D X.env) (y_ tk tv D):=by
 intro pins s σ H N I h k Q hq;unfold DH Gx;refine aa (aa (cX (hk pins s σ H _ I h) fun u8 s8 ⟨v8,H8,I8,r8,q8⟩=>aa (cK (cX (hv pins s8 σ H8 _ I8 q8) fun u9 s9 ⟨v9,H9,I9,r9,kvs,kk,e9,f9,z9,q9⟩=> ?_))));subst e9;exact aa (dG (cK (Bo I9 f9 z9 r8 r9 fun s' I'=>hq s' σ _ I' q9)))
def GU(h0:codeAny (model prog w) A (.compLoop (.DictComp kx vx [⟨tg,iter,ifs,0⟩,⟨tg2,iter2,ifs2,0⟩] scope pos) 1 it acc env) R s)(h:wpAny (model prog w) A (pyIter it) (fun it' s'=>codeAny (model prog w) A (.compLoop (.DictComp kx vx [⟨tg,iter,ifs,0⟩,⟨tg2,iter2,ifs2,0⟩] scope pos) 1 it' acc env) R s') (notedBy (model prog w) A env fun x s'=>R (.error x) s') s):codeAny (model prog w) A (.compStart (.DictComp kx vx [⟨tg,iter,ifs,0⟩,⟨tg2,iter2,ifs2,0⟩] scope pos) 1 it acc env) R s:=by
 refine codeAny_of_tree ?_;show wpAny _ A ((compStart (.DictComp kx vx [⟨tg,iter,ifs,0⟩,⟨tg2,iter2,ifs2,0⟩] scope pos) 1 it acc env).onRaise (fun x=>do noteFrame x env;standAt theWindowsPlace)) _ _ s;refine wpAny_notedAt ?_;unfold compStart;show wpAny _ A (ask>>=_) _ _ s;refine aa (wpAny_askSetting (wpAny_ite ?_))
 split
 · first
    | exact aa (aA (aA (And.intro rfl h0)))
    | exact aA (And.intro rfl h0)
 · first
    | exact aa (iA (aa (dG (aa (bJ h (fun it' s' h'=>aA (And.intro rfl h')) fun _ _ x=>x)))))
    | (refine aa (iA ?_);show wpAny _ _ (standAt iter2.pos>>=_) _ _ s;exact aa (dG (aa (bJ h (fun it' s' h'=>aA (And.intro rfl h')) fun _ _ x=>x))))
def EX(hx:X.xe=fun _ _=>False)(hc:X.calm=true)(hi2:PI X tg2 iter2 wi2)(hs2:∀x,foldedSetIterable iter2 X.env x=pure x)(hg2:PG X tg2 g2)(ht2:Ea X ifs2 tc2)(hk:PE X kx tk)(hv:PE X vx tv):PB X (yG (.DictComp kx vx [⟨tg,iter,ifs,0⟩,⟨tg2,iter2,ifs2,0⟩] scope pos) iter2 (.ref D) X.env) (KG wi2 g2 tc2 (y_ tk tv D)):=by
 intro pins s σ H N I h k Q hq;unfold yG;refine aa (cX (hi2 pins s σ H _ I h) fun v s1 h1=>aa (dG ?_));rw[hs2];refine aa (aA (aa (cK (cX h1 fun itv s2 h2=> ?_))));obtain⟨it,fp,tn,J,H2,e,I2,T,st2,f2,q⟩:=h2;subst e;refine aa (wpAny_runOwn ?_);have loop:=C_ (R:=fun r s'=>match r with | .ok f=>wpAny (model X.prog X.w) X.A k Q X.xe s' | .error e=>cameBackBy (model X.prog X.w) X.A X.env X.xe e s') hx (I0 kx vx tg iter ifs tg2 iter2 ifs2 scope pos (.ref it) D X.env) hc (Hl hk hv) I2 T st2 f2 hg2 ht2 q
  fun σ' H' s' I' q'=>hq s' σ' H' I' q'
 exact GU loop (T.self _ 0 _ _ _ st2 loop)
def uX{cF:List Str}{σ:St}{RR:Value->Addr->Result->Shared->Prop}{Fin:Hp->Prop}(hc:X.calm=true)(hb:jU scope X.env.scope=true)(hcap:fG X.N scope cs caps=true)(I:Inv X pins σ H s)(T:xr X.prog X.w X.K tg J fp it tn)(st:tn 0 s.heap)(hf:∀b∈fp,kF X pins H b)(hg:PG (iw X scope (cF++cs) s H fp) tg g)(ht:Ea (iw X scope (cF++cs) s H fp) ifs tc)(hi2:PI (iw X scope (cF++cs) s H fp) tg2 iter2 wi2)(hs2:∀x,foldedSetIterable iter2 (iw X scope (cF++cs) s H fp).env x=pure x)(hg2:PG (iw X scope (cF++cs) s H fp) tg2 g2)(ht2:Ea (iw X scope (cF++cs) s H fp) ifs2 tc2)(hk:PE (iw X scope (cF++cs) s H fp) kx tk)(hv:PE (iw X scope (cF++cs) s H fp) vx tv)(h:JD J g tc (KG wi2 g2 tc2 (y_ tk tv s.heap.objs.size)) (fun _ H'=>Fin H') (zf cF.length caps σ) (upd H s.heap.objs.size (.dK [])))(hRR:∀σ' H' s',Inv (iw X scope (cF++cs) s H fp) [] σ' H' s'->Fin H'->RR (.ref s.heap.objs.size) (s.heap.objs.size+1) (.ok .next) s'):wpAny (model X.prog X.w) X.A newDict (fun acc s₃=>wpAny (model X.prog X.w) X.A (newFunctionEnv scope X.env.globals (gY X.env.cells scope.names []) [] X.env.qual none .none (some X.env)) (fun cenv s₄=>
  codeAny (model X.prog X.w) X.A (.compStart (.DictComp kx vx [⟨tg,iter,ifs,0⟩,⟨tg2,iter2,ifs2,0⟩] scope pos) 0 (.ref it) acc {cenv with scope:=relabel scope X.env}) (RR acc cenv.locals) s₄) E s₃) E s:=by
 have hcell:∀y∈scope.names,y.2≠ .cell:=fun y hy=>(gL hb y hy).1;have hkind:=iK hb;have hlt:∀b∈fp,b<s.heap.objs.size:=fun b hbm=>by
  obtain⟨o,e,_⟩:=T.obj 0 _ st b hbm;exact aB e
 refine cI (Kt hcell (by intro y hy;simp at hy) (fun h₁ hns₁ hsb₁=> ?_) hkind);dsimp only at hns₁ hsb₁⊢;generalize hH2:s.heap.push {cls:= .type "dict",dict:=none,data:= .dict #[]}=H2 at hns₁ hsb₁⊢;have hC:H2.objs.size=s.heap.objs.size+1:=by rw[<-hH2,de]
 rw[hC] at hns₁ hsb₁⊢;have hDC:s.heap.objs.size≠s.heap.objs.size+1:=bf (nU _);have below:∀b,b<s.heap.objs.size->b≠s.heap.objs.size+1:=fun b hb=>bf (cJ hb);have old:∀b o,s.heap.get? b=some o->h₁.get? b=some o:=fun b o e=>hsb₁.extBut b o (below b (aB e)) (ar _ (hH2 ▸ ar _ e));have hD:h₁.get? s.heap.objs.size=some {cls:= .type "dict",dict:=none,data:= .dict #[]}:=
  hsb₁.extBut _ _ hDC (ar _ (hH2 ▸ aU _ rfl))
 have frC:H (s.heap.objs.size+1)=none:=I.hok.fresh (aY _);have frD:H s.heap.objs.size=none:=I.hok.fresh (aq _);have J0:Inv (iw X scope (cF++cs) s H fp) [] (zf cF.length caps σ) (upd H s.heap.objs.size (.dK [])) {s with heap:=h₁,toks:=s.toks+([]:List (Str × Value)).length}:=by
  refine⟨uY I hb hf hlt,rfl,I.bare,Un.laid old (aq _) frD,⟨_,hns₁,fun i x v e1 e2 e3=> ?_⟩,fun x c e=> ?_,?_,fun x c e=> ?_,fun p hp=>absurd (show p∈([]:List (Addr × Obj)) from hp) (by simp),?_,?_⟩
  · have e1':(cF++cs)[i]? =some x:=e1;have hi:cF.length<=i:=by
     rcases fP i cF.length with hi | hi
     · unfold zf at e2;rw[bM (by simpa using hi),nV] at e2
       split at e2<;>cases e2
     · exact hi
    rw[bV hi] at e1';obtain⟨k,q1,q2,q3⟩:=q_ hcap e1';unfold zf at e2;rw[bV (by simpa using hi),fA,aV,q1] at e2;have e2':(σ[k]?).getD none=some v:=by simpa using e2
    have e4:σ[k]? =some (some v):=by
     cases z:σ[k]? with
     | none=>rw[z] at e2';cases e2'
     | some o=>rw[z] at e2';simp at e2';rw[e2']
    have hfr:=(gL hb _ (cH q3)).2.2 rfl;obtain⟨m,hn,hl⟩:=I.loc;obtain⟨u,r,l⟩:=hl k x v q2 e4 (hfr.elim (fun z=> .inr (.inl z)) fun z=> .inr (.inr z));refine⟨u,r,.inr ⟨?_,?_⟩⟩
    · exact eW q3
    · rcases l with⟨k1,_⟩ | ⟨_,c,ec,z⟩
      · exfalso
        have k1':X.env.scope.names.lookup x=some .local:=k1;rcases hfr with z | z<;>(rw[k1'] at z;cases z)
      · obtain⟨c',ec'⟩:=kj (cells:=X.env.cells) scope.names [] (cH q3);have q:=(capOf_some scope.names [] (dg I hb) ec').resolve_left (by simp);rw[ec] at q;cases q;obtain⟨o,ho,hd⟩:=z;exact⟨c,ec',o,old _ _ ho,hd⟩
  · have q:=(capOf_some scope.names [] (dg I hb) e).resolve_left (by simp);obtain⟨v,o,ho,hd⟩:=I.cell x c q;exact⟨v,o,old _ _ ho,hd⟩
  · show upd H s.heap.objs.size (.dK []) (s.heap.objs.size+1)=none;rw[aM (bB hDC)];exact frC
  · have q:=(capOf_some scope.names [] (dg I hb) e).resolve_left (by simp);obtain⟨v,o,ho,hd⟩:=I.cell x c q;rw[aM (bf (aB ho))];exact I.freeC x c q
  · refine I.hok.laid old (aq _) ?_;have hb':=I.big;obtain⟨z1,z2,z3⟩:=xh (P:=X.prog) (w:=X.w) (H:=upd H s.heap.objs.size (.dK [])) s.heap hb';obtain⟨vs,rel,o,es,ep,ho,hr⟩:=z3;rw[aU _ rfl] at ho;cases ho;exact⟨z1,z2,vs,rel,_,es,ep,hD,hr⟩
  · show(zf cF.length caps σ).length=(cF++cs).length;unfold zf;rw[ak,fA,aw,ak,qZ hcap]
 have fr0:∀b∈fp,upd H s.heap.objs.size (.dK []) b=none:=fun b hbm=>by rw[aM (bf (hlt b hbm))];exact(hf b hbm).1
 have fp0:∀b∈fp,kF (iw X scope (cF++cs) s H fp) [] (upd H s.heap.objs.size (.dK [])) b:=fun b hbm=>by
  have q:=(uY (N:=cF++cs) I hb hf hlt);refine⟨fr0 b hbm,(q.exf b hbm).1,q.exfs b hbm,.inl hbm,(q.exf b hbm).2,fun p hp=>absurd (show p∈([]:List (Addr × Obj)) from hp) (by simp)⟩
 have st0:=T.keep _ _ _ st fun b _ o e=>old b o e;have loop:∀s₃:Shared,s₃={s with heap:=h₁,toks:=s.toks+([]:List (Str × Value)).length}->
  codeAny (model X.prog X.w) X.A (.compLoop (.DictComp kx vx [⟨tg,iter,ifs,0⟩,⟨tg2,iter2,ifs2,0⟩] scope pos) 0 (.ref it) (.ref s.heap.objs.size) (iw X scope (cF++cs) s H fp).env) (RR (.ref s.heap.objs.size) (s.heap.objs.size+1)) s₃:=by
  rintro s₃ rfl;refine C_ (X:=iw X scope (cF++cs) s H fp) rfl (I_ ..) hc (EX rfl hc hi2 hs2 hg2 ht2 hk hv) J0 T st0 fp0 hg ht h ?_;intro σ' H' s' I' q';exact hRR σ' H' s' I' q'
 exact codeAny_compStart_dict (loop _ rfl) (T.self _ 0 _ _ _ st0 (loop _ rfl))
def AB{X:Cx}{tg iter kx vx tg2 iter2:Expr}{ifs ifs2:List Expr}{scope:Scope}{pos:Pos}{wi wi2:TI}{g g2:TG}{tc tc2:TT}{tk tv:TE}(cF cs:List Str)(caps:List Nat)(hc:X.calm=true)(hi:PI X tg iter wi)(hg:∀s H fp,PG (iw X scope (cF++cs) s H fp) tg g)(ht:∀s H fp,Ea (iw X scope (cF++cs) s H fp) ifs tc)(hi2:∀s H fp,PI (iw X scope (cF++cs) s H fp) tg2 iter2 wi2)(hg2:∀s H fp,PG (iw X scope (cF++cs) s H fp) tg2 g2)(ht2:∀s H fp,Ea (iw X scope (cF++cs) s H fp) ifs2 tc2)(hk:∀s H fp,PE (iw X scope (cF++cs) s H fp) kx tk)(hv:∀s H fp,PE (iw X scope (cF++cs) s H fp) vx tv)(hb:jU scope X.env.scope=true:=by rfl)(hcap:fG X.N scope cs caps=true:=by rfl)(hs:∀x,foldedSetIterable iter X.env x=pure x:=by intro _;rfl)(hs2:∀s H fp x,foldedSetIterable iter2 (iw X scope (cF++cs) s H fp).env x=pure x:=by intro _ _ _ _;rfl):PE X (.DictComp kx vx [⟨tg,iter,ifs,0⟩,⟨tg2,iter2,ifs2,0⟩] scope pos) (El wi g tc wi2 g2 tc2 tk tv cF.length caps):=by
 intro pins s σ H Q I h;rw[arm_eval_DictComp];refine lU (use:=none) rfl hs (jT (dg I hb)) (iK hb) (fun y hy=>(gL hb y hy).2.1) (cX (hi pins s σ H _ I h) fun v s1 h1=>cX h1 fun itv s2 h2=> ?_);obtain⟨it,fp,tn,J,H2,e,I2,T,st2,f2,q⟩:=h2;subst e;refine uX (RR:=fun acc C=>compPost (model X.prog X.w) X.A X.xe none (EP X pins σ Q) acc C) (cF:=cF) (cs:=cs) (Fin:=fun H'=>Q (.ref s2.heap.objs.size) H') hc hb hcap I2 T st2 f2 (hg _ _ _) (ht _ _ _) (hi2 _ _ _) (hs2 _ _ _) (hg2 _ _ _) (ht2 _ _ _) (hk _ _ _) (hv _ _ _) (q _ (I2.hok.fresh (aq _))) ?_;intro σ' H' s' J' q';obtain⟨m,hn,_⟩:=J'.loc;refine⟨m,hn,fun h' hs'=> ?_⟩;have I3:=qU I2 f2 J';have fr:H' (s2.heap.objs.size+1)=none:=J'.free;refine⟨.ref s2.heap.objs.size,H',I3.turned (t':=s'.toks) (it:=s2.heap.objs.size+1) (fun b o hb e=>(hs'.2 b hb).trans e) fr ?_ (.inr (ao I2.sz (aY _))) ?_ ?_,rfl,q'⟩
 · exact eC (cJ I2.lt)
 · intro x c e z;obtain⟨v,hv⟩:=I2.cell x c e;have h1:s2.heap.objs.size+1<s2.heap.objs.size:=z ▸ hv.lt;exact absurd h1 (oV.mpr (aY _))
 · intro p hp z;have h1:s2.heap.objs.size+1<s2.heap.objs.size:=z ▸ aB (I2.pin p hp).1;exact absurd h1 (oV.mpr (aY _))
end
section
end
section
end
section
end
structure Fl(h:Heap)(x T:Addr)(cls:Value)(od:Option Addr)(fl:Value):Prop where
 ex:∃(oe:Obj) (vs:Array Value),h.get? x=some oe/\oe.cls=cls/\oe.dict=od/\oe.data= .fields vs/\vs[1]? =some (.ref T)
 ne:T≠x
 nt:∃(oT:Obj) (ts:Array Value),h.get? T=some oT/\oT.data= .fields ts/\ts[3]? =some fl
structure Chg(fs:List Addr)(x T:Addr)(h h':Heap):Prop where
 keep:∀b o,h.get? b=some o->b≠x->b≠T->b∉fs->h'.get? b=some o
 slot:∀b o,h.get? b=some o->b≠x->b≠T->∃sl,h'.get? b=some {o with slots:=sl}
 hx:∃o,h'.get? x=some o
 hT:∀o,h.get? T=some o->∃o',h'.get? T=some o'
section
def Bk(o:Obj)(f:Array Value->Array Value):(o.mapFields f).dict=o.dict:=by
 obtain⟨_,_,z,_⟩:=o;cases z<;>rfl
def KW{pl:List Value}{L:Addr}:([head,.ref L,.none,rawInt L,.none]++(if pl.isEmpty then List.replicate 6 Value.none else pl)).toArray[3]? =some (rawInt L):=by simp
def nO(f:Fl s.heap x T cls od fl)(h:∀h',(∀b o,b≠T->s.heap.get? b=some o->h'.get? b=some o)->Fl h' x T cls od .none->Q () {s with heap:=h'}):wpAny M A (setFlight (.ref x) none) Q E s:=by
 obtain⟨⟨oe,vs,e1,e2,e3,e4,e5⟩,ne,oT,ts,g1,g2,g3⟩:=f;have z3:3<ts.size:=(fL.mp g3).1;unfold setFlight;refine aa (bT e1 e4 e5 ?_);rw[aK (by simp)];have oth:∀b,b≠T->(s.heap.update T (Obj.mapFields fun a=>a.setIfInBounds 3 (Option.elim none Value.none fun f=>rawInt f))).get? b=s.heap.get? b:=fun b hb=>dF _ _ (bB hb);refine kr g1 g2 z3 (h _ (fun b o hb e=>(oth b hb).trans e) ⟨⟨oe,vs,(oth x (bB ne)).trans e1,e2,e3,e4,e5⟩,ne,_,_,dZ _ g1 (iz (fc g2 _)),fc g2 _,?_⟩);simp[z3]
def sV{s:Shared}(hA:A.frames=some (env::outer))(hl:s.heap.FunFrames base (env::outer))(hf:env.frame=some L)(he:s.heap.get? x=some oe)(hd:oe.data= .fields vs)(hz:1<vs.size)(h:∀h' T,Chg (qO (env::outer)) x x s.heap h'->Fl h' x T oe.cls oe.dict (rawInt L)->s.heap.objs.size<=T->Q () {s with heap:=h'}):wpAny M A (do let a<-frameOf env;let pl<-entryPlaceOf L hn;let b<-EntryCells.newEntry head a .none (rawInt L) .none pl;setField (.ref x) 1 b) Q E s:=by
 have nx:x∉qO (env::outer):=fun hm=>by
  obtain⟨_,o,ho,no⟩:=hl.mem hm;rw[he] at ho;cases ho;exact no vs hd
 refine aa (wpAny_frameOf_fun hA hl hf fun h1 k1=>aa (wpAny_entryPlaceOf fun pl hpl=> ?_));unfold EntryCells.newEntry newFields;refine aa (cI ?_ (hpl.sizeOk5 _ _ _ _ _));have e1:h1.get? x=some oe:=(k1.2.1 x nx).trans he;generalize ho:({cls:= .type "traceback",dict:=none,data:= .fields ([head,.ref L,.none,rawInt L,.none]++(if pl.isEmpty then List.replicate 6 Value.none else pl)).toArray}:Obj)=ot;have e2:(h1.push ot).get? x=some oe:=ar _ e1;refine kr e2 hd hz ?_;have nTx:h1.objs.size≠x:=eC (aB e1);have hd3:=fc hd fun a=>a.setIfInBounds 1 (Value.ref h1.objs.size);have e3:=dZ (Obj.mapFields fun a=>a.setIfInBounds 1 (Value.ref h1.objs.size)) e2 (iz hd3);have eT:(h1.push ot).get? h1.objs.size=some ot:=aU h1 (by rw[<-ho];rfl);have oth:∀b o,b≠x->h1.get? b=some o->((h1.push ot).update x (Obj.mapFields fun a=>a.setIfInBounds 1 (Value.ref h1.objs.size))).get? b=some o:=fun b o hb e=>by
  rw[dF _ _ (bB hb)];exact ar _ e
 refine h _ h1.objs.size ⟨fun b o e n1 _ n3=>oth b o n1 ((k1.2.1 b n3).trans e),fun b o e n1 _=> ?_,⟨_,e3⟩,fun _ _=>⟨_,e3⟩⟩ ⟨⟨_,_,e3,MR _ _,Bk _ _,hd3,?_⟩,nTx,ot,_,?_,by rw[<-ho],KW⟩ (JX k1.1.symm)
 · obtain⟨sl,q⟩:=k1.2.2 b o e;exact⟨sl,oth b _ n1 q⟩
 · simp[hz]
 · rw[dF _ _ (bB nTx)];exact eT
def AR{s:Shared}(hA:A.frames=some (env::outer))(hl:s.heap.FunFrames base (env::outer))(hf:env.frame=some L)(he:s.heap.get? x=some oe)(hd:oe.data= .fields vs)(h1:vs[1]? =some .none)(h:∀h' T,Chg (qO (env::outer)) x x s.heap h'->Fl h' x T oe.cls oe.dict (rawInt L)->s.heap.objs.size<=T->Q () {s with heap:=h'}):wpAny M A (noteFrame (.ref x) env) Q E s:=by
 unfold noteFrame;simp only[hf];refine aa (bT he hd h1 ?_);rw[aG (by decide)];exact sV hA hl hf he hd (fL.mp h1).1 h
def uA{s:Shared}(hA:A.frames=some (env::outer))(hl:s.heap.FunFrames base (env::outer))(hf:env.frame=some L)(f:Fl s.heap x T cls od .none)(h:∀h' T',Chg (qO (env::outer)) x T s.heap h'->Fl h' x T' cls od (rawInt L)->s.heap.objs.size<=T'->Q () {s with heap:=h'}):wpAny M A (noteFrame (.ref x) env) Q E s:=by
 obtain⟨⟨oe,vs,e1,rfl,rfl,e4,e5⟩,ne,oT,ts,g1,g2,g3⟩:=f;have nT:T∉qO (env::outer):=fun hm=>by
  obtain⟨_,o,ho,no⟩:=hl.mem hm;rw[g1] at ho;cases ho;exact no ts g2
 unfold noteFrame;simp only[hf];refine aa (bT e1 e4 e5 ?_);rw[aK (by simp)];refine aa (bT g1 g2 g3 ?_);rw[aG (by simp[rawInt])];refine aa (kr g1 g2 (fL.mp g3).1 ?_);have oth:∀b,b≠T->(s.heap.update T (Obj.mapFields fun a=>a.setIfInBounds 3 Value.none)).get? b=s.heap.get? b:=fun b hb=>dF _ _ (bB hb);have eT:=dZ (Obj.mapFields fun a=>a.setIfInBounds 3 Value.none) g1 (iz (fc g2 _));have nr:∀b o,s.heap.get? b=some o->(∀vs,o.data≠ .fields vs)->b≠T:=fun b o e no z=>by
  rw[z,g1] at e;cases e;exact no ts g2
 refine sV (s:={s with heap:=s.heap.update T (Obj.mapFields fun a=>a.setIfInBounds 3 Value.none)}) hA (hl.of_keeps fun b o e no=>⟨o,(oth b (nr b o e no)).trans e,rfl⟩) hf ((oth x (bB ne)).trans e1) e4 (fL.mp e5).1 fun h' T' c f' z=>h h' T' ?_ f' ?_
 · refine⟨fun b o e n1 n2 n3=>c.keep b o ((oth b n2).trans e) n1 n1 n3,fun b o e n1 n2=>c.slot b o ((oth b n2).trans e) n1 n1,c.hx,fun o e=> ?_⟩;exact⟨_,c.keep T _ eT ne ne nT⟩
 · have q:(s.heap.update T (Obj.mapFields fun a=>a.setIfInBounds 3 Value.none)).objs.size=s.heap.objs.size:=by
    obtain⟨os⟩:=s.heap;simp[Heap.update]
   have z':(s.heap.update T (Obj.mapFields fun a=>a.setIfInBounds 3 Value.none)).objs.size<=T':=z;rw[q] at z';exact z'
end
def yU(P:Program)(w:World):BF:=fun outer H s E e s'=>∃(x T:Addr) (cls:Value) (od:Option Addr) (H':Hp),e= .ref x/\s'.os=s.os/\AllBare s'.gens/\Un (qO outer) [] H H' s.heap s'.heap/\HOk P w H' s'.heap/\s.heap.objs.size<=x/\s.heap.objs.size<=T/\H' x=none/\H' T=none/\Fl s'.heap x T cls od .none/\E cls od H'
def HOk.chg(ok:HOk P w H h)(c:Chg fs x T h h')(hx:H x=none)(hT:H T=none)(hf:∀b∈fs,H b=none):HOk P w H h':=fun a o e=>
 (ok a o e).stay (fun b u hb q=>by
  have nb:∃o',H b=some o':=by
   rcases hb with rfl | hb
   · exact⟨o,e⟩
   · exact⟨_,hb⟩
  obtain⟨o',nb⟩:=nb;exact c.keep b u q (bI nb hx) (bI nb hT) fun z=>by rw[hf b z] at nb;cases nb) (fun _ q=>q) fun _ _ q=>q
def Un.chg(u:Un fs ex H H' h0 h1)(c:Chg fs2 x T h1 h2)(zx:h0.objs.size<=x)(zT:h0.objs.size<=T)(sub:∀b o,h0.get? b=some o->b∈fs2->b∈fs):Un fs ex H H' h0 h2:=by
 have nx:∀{b o},h0.get? b=some o->b≠x/\b≠T:=fun {b o} e=>⟨bf (ah (aB e) zx),bf (ah (aB e) zT)⟩;refine⟨fun b o q n hb he=>c.keep b o (u.keep b o q n hb he) (nx q).1 (nx q).2 fun z=>hb (sub b o q z),fun b o q n hb he=> ?_,u.free,fun b o q he=> ?_,u.tups,u.frzs,u.tbls⟩
 · obtain⟨sl,e⟩:=u.slot b o q n hb he;obtain⟨sl2,e2⟩:=c.slot b {o with slots:=sl} e (nx q).1 (nx q).2;exact⟨sl2,e2⟩
 · obtain⟨o',e⟩:=u.there b o q he;obtain⟨sl,e2⟩:=c.slot b o' e (nx q).1 (nx q).2;exact⟨_,e2⟩
def Chg.set{T2:Addr}(c:Chg fs x T h h2)(z:h.objs.size<=T2)(k:∀b o,b≠T2->h2.get? b=some o->h3.get? b=some o)(hx:∃o,h3.get? x=some o):Chg fs x T h h3:=by
 have nT:∀{b o},h.get? b=some o->b≠T2:=fun {b o} e=>bf (ah (aB e) z);refine⟨fun b o e n1 n2 n3=>k b o (nT e) (c.keep b o e n1 n2 n3),fun b o e n1 n2=> ?_,hx,fun o e=> ?_⟩
 · obtain⟨sl,q⟩:=c.slot b o e n1 n2;exact⟨sl,k b _ (nT e) q⟩
 · obtain⟨o',q⟩:=c.hT o e;exact⟨o',k T _ (nT e) q⟩
def Fl.hx(f:Fl h x T cls od fl):∃o,h.get? x=some o:=let⟨oe,_,e,_⟩:=f.ex;⟨oe,e⟩
section
def XE(X:Cx)(E:XK):Prop:=∀(pins:List (Addr × Obj)) (σ:St) (H:Hp) (s:Shared) (x:Addr) (oe:Obj) (vs:Array Value),Inv X pins σ H s->H x=none->X.s₀.heap.objs.size<=x->s.heap.get? x=some oe->oe.data= .fields vs->vs[1]? =some .none->E oe.cls oe.dict H->X.xe (.ref x) s
def zY{K:Frag}{σ:St}(J:Inv (oS (yU P w) P w K mg base N qual scope f cd A outer s₀ H₀ E) pins σ H s)(c:Chg (qO (envOfC qual scope s₀.heap.objs.size f cd::outer)) x T s.heap h2)(f2:Fl h3 x T2 cls od .none)(z2:s.heap.objs.size<=T2)(k3:∀b o,b≠T2->h2.get? b=some o->h3.get? b=some o)(zx:s₀.heap.objs.size<=x)(zT:s₀.heap.objs.size<=T)(hx:H x=none)(hT:H T=none)(q:E cls od H):yU P w outer H₀ s₀ E (.ref x) {s with heap:=h3}:=by
 have c3:=c.set z2 k3 f2.hx;refine⟨x,T2,cls,od,H,rfl,J.os,J.bare,Un.chg J.base c3 zx zT fun b o e hb=> ?_,HOk.chg J.hok c3 hx hT fun b hb=>J.stkFree b hb,zx,ao J.sz z2,hx,J.hok.fresh z2,f2,q⟩;rcases aL.mp (J.stkSub b hb) with e2 | e2
 · rw[e2] at e;exact absurd (ah (aB e) J.ok.above) (fm _)
 · exact e2
def mx{K:Frag}:jh (yU P w) (oS (yU P w) P w K mg base N qual scope f cd A outer s₀ H₀ E) E:=by
 rintro pins σ H s e s' I ⟨x,T,cls,od,H',rfl,os,bare,un,hok,zx,zT,hx,hT,fl,q⟩;have J:=I.call' os un hok bare (fun b z=>absurd z (by simp));show wpAny _ _ (leaving _ _) _ _ _;unfold leaving;refine aa (uA J.ok.frames J.stack rfl fl fun h2 T2 c f2 z2=>nO f2 fun h3 k3 f3=> ?_);exact zY (s:=s') J c f3 z2 k3 (ao I.sz zx) (ao I.sz zT) hx hT q
def IX{K:Frag}:XE (oS (yU P w) P w K mg base N qual scope f cd A outer s₀ H₀ E) E:=by
 intro pins σ H s x oe vs J hx zx he hd h1 q;show wpAny _ _ (leaving _ _) _ _ _;unfold leaving;refine aa (AR J.ok.frames J.stack rfl he hd h1 fun h2 T2 c f2 z2=>nO f2 fun h3 k3 f3=> ?_);exact zY (s:=s) J c f3 z2 k3 zx zx hx hx q
end
section
def Fun.okX{K:Frag}{st:Stmt}(F:Fun K x qual st f fd)(S:bb N ps (aJ st))(len:∀vs H Q E,sp vs H Q E->vs.length=ps.length)(hbody:∀cdv A outer s H vs Q E,Room k (A.deeper (envOfC qual (aJ st) s.heap.objs.size f cdv))->sp vs H Q E->∃t,PSs (oS (yU P w) P w K mg base N qual (aJ st) f cdv A outer s H E) (du st) t/\t {nx:=fun _ H'=>Q .non H',rt:=Q} (jB N vs) H):bK P w K mg base (yU P w) (k+1) f fd ps sp:=by
 obtain⟨oc,od,kV,doc,pm,an,cdv,ct,osl,rfl,lk,hcd⟩:=F.ex;exact DB lk hcd S len fun A outer s H vs Q E hr hsp=>hbody cdv A outer s H vs Q E hr hsp
end
def PS.nox{st:Stmt}(h:PS X.nox st t):PS X st t:=fun pins s σ H D I hw=>
 bJ (h pins s σ H D (I.wish _) hw) (fun _ _ q=>q.unwish) fun _ _ z=>False.elim z
structure Ir(K:Frag)(C:Addr):Prop where
 hd:hasDictIn K C=true
 ve:mroIn K C (.type "BaseException")=some true
 ob:mroIn K C (.type "object")=some true
 rf:∃cd,PySem.W.clsIn K C=some cd/\∀self,refuseLoop self "__setattr__" cd.mro=pure ()
 ga:findIn K (.ref C) "__getattribute__"=some (some (.builtin "BaseException.__getattribute__"))
 gt:findIn K (.ref C) "__getattr__"=some none
 sa:findIn K (.ref C) "__setattr__"=some (some (.builtin "object.__setattr__"))
 cl:findIn K (.ref C) "__class__"=some (some (.builtin "object.__class__"))
 cg:PySem.W.specialIn K (.builtin "object.__class__") "__get__"=some (some (.builtin "getset_descriptor.__get__"))
 ct:PySem.W.takesIn K (.builtin "object.__class__")=some true
def HZ:builtinKind "BaseException.__getattribute__"=some .slot:=by decide+kernel
def GV:splitId "BaseException.__getattribute__"=some ("BaseException","__getattribute__"):=by decide+kernel
def HD:(Value.builtin "BaseException.__getattribute__"==Value.builtin "object.__getattribute__")=false:=by decide+kernel
section
open PySem.W in
open PySem.W in
theorem IW{prog:Program}{w:World}{A:Around}{s:Shared}{K:Frag}{x C:Addr}{ox:Obj}{od:Option Obj}{R:Result->Shared->Prop}(X:K.In s.heap)(c:Ir K C)(I:InstAt s.heap x ox C od)(hf:findObj K C od "__class__"=some (.bind (.builtin "getset_descriptor.__get__") (.builtin "object.__class__")))(q:R (.ok (.ret (.ref C))) s):codeAny (model prog w) A (.call (.builtin "BaseException.__getattribute__") ⟨[.ref x,.str "__class__" tk],[]⟩) R s:=by
 have sub:Looks (model prog w) s.heap (isInstance (.ref x) (.type "BaseException")) true:=I.type.andThen (looks_mroIn X c.ve);have L0:=I.type (M:=model prog w);have L1:=looks_find (M:=model prog w) X I hf;refine Ln MV.ga.plain F.entry_bexc_ga (@check_slot (model prog w) _ _ s "BaseException.__getattribute__" "BaseException" "__getattribute__" (.ref x) [.str "__class__" tk] [] _ HZ GV sub (F.args_bexc_ga (.ref x) (.str "__class__" tk)) ?_);obtain⟨hh,g,d,t,os⟩:=s;unfold Builtin.«object.__getattribute__»;refine aa (aA (aa (aA (aa (L0.at (aa (L1.at ?_)))))));show wpAny _ _ (holding [.builtin "object.__class__"] (call (.builtin "getset_descriptor.__get__") [.builtin "object.__class__",.ref x,.ref C])>>=ret) _ _ _;refine aa (cK (iD (class_get X I c.ob ?_)));exact aA q
open PySem.W in
theorem Ed{K:Frag}{fill:Bool}(X:K.In s.heap)(c:Ir K C)(I:InstAt s.heap x ox C od)(h:codeAny (model prog w) A (.call (.builtin "BaseException.__getattribute__") ⟨[.ref x,.str name tk],[]⟩) (fun r s'=>∃v,r= .ok (.ret v)/\handedIn v=true/\Q v s') s):wpAny (model prog w) A (getAttrBy (.ref x) (.str name tk) fill expr) Q E s:=by
 have L0:=I.type (M:=model prog w);have L1:=looks_findIn (M:=model prog w) X c.ga;have L2:=looks_findIn (M:=model prog w) X c.gt;obtain⟨hh,g,d,t,os⟩:=s;unfold getAttrBy;refine cK (aa (L0.at (aa (L1.at ?_))));show wpAny _ _ (if(onTheHeap (.ref C)&&Value.builtin "BaseException.__getattribute__"==Value.builtin "object.__getattribute__")=true then _ else _) _ _ _;rw[HD,hJ,aG aP];unfold getAttrByItsOwn;refine aa (L2.at (aa (vm (cK ?_))));unfold callGetattribute;rw[aG (by cases expr<;>exact aP)];unfold boundAndCalled;rw[MV.ga.bind];refine aa (aA (iD (g9 h fun r s' z=> ?_)));obtain⟨v,rfl,hv,q⟩:=z;show wpAny _ _ (handedOut v) _ _ _;exact handed_on hv q
end
section
end
section
end
section
def Inv.track{σ:St}(J:Inv X pins σ H s)(hd:H d=none)(z:X.s₀.heap.objs.size<=d)(nl:d≠X.env.locals)(nc:∀y c,X.env.cells.lookup y=some c->c≠d)(np:∀p∈X.pn++pins,p.1≠d)(new:ObjOk X.prog X.w (upd H d o) s.heap d o):Inv X pins σ (upd H d o) s:=by
 have un:∀{b u},H b=some u->upd H d o b=some u:=fun {b u} e=>by rw[aM (bI e hd)];exact e
 refine⟨J.ok,J.os,J.bare,⟨J.base.keep,J.base.slot,fun b u q n he=> ?_,J.base.there,fun b xs q=>un (J.base.tups b xs q),fun b v u q=>un (J.base.frzs b v u q),fun b ps q=> ?_⟩,J.loc,J.cell,?_,fun y c e=> ?_,fun p hp=> ?_,fun a u e=> ?_,J.len⟩
 · rw[aM (bf (ah (aB q) z))];exact J.base.free b u q n he
 · obtain⟨m,e⟩:=J.base.tbls b ps q;exact⟨m,un e⟩
 · rw[aM (bB nl)];exact J.free
 · rw[aM (nc y c e)];exact J.freeC y c e
 · obtain⟨a1,a2,a3⟩:=J.pin p hp;exact⟨a1,by rw[aM (np p hp)];exact a2,a3⟩
 · by_cases q:a=d
   · subst q;rw[ae] at e;cases e;exact new
   · rw[aM q] at e;exact(J.hok a u e).stay (fun _ _ _ q=>q) (fun b q=>un q) fun b xs q=>un q
def Inv.old{σ:St}{d:Addr}(I:Inv X pins σ H s)(z:s.heap.objs.size<=d):X.s₀.heap.objs.size<=d/\d≠X.env.locals/\(∀y c,X.env.cells.lookup y=some c->c≠d)/\∀p∈X.pn++pins,p.1≠d:=⟨ao I.sz z,eC (ah I.lt z),fun y c e=>by
  obtain⟨v,ob,ho,_⟩:=I.cell y c e;exact bf (ah (aB ho) z),fun p hp=>bf (ah (aB (I.pin p hp).1) z)⟩
end
section
end
section
noncomputable abbrev BI(us:List Value):Obj:={cls:= .type "tuple",data:= .seq us.toArray}
noncomputable abbrev BH(C a:Addr):Obj:={cls:= .ref C,data:= .fields #[.ref a,.none,.none,.none,.bool false,.none]}
end
noncomputable def IH:List Value:=[.type "ValueError",.type "Exception",.type "BaseException",.type "object"]
section
def x_(hh:A.handled=none)(h:wpAny M A m (fun v s1=>∃x C ox vs,v= .ref x/\s1.heap.get? x=some ox/\ox.cls= .ref C/\ox.data= .fields vs/\vs[1]? =some .none/\PySem.W.Looks M s1.heap (isSubtype (.ref C) (.type "BaseException")) true/\PySem.W.Looks M s1.heap (typeOf (.ref C)) (.type "type")/\E' (.ref x) s1) E' s0):wpAny M A (raiseStmt env (some m) none) Q E' s0:=by
 unfold raiseStmt;refine aa (bJ h (fun v s1 h1=> ?_) fun _ _ x=>x);obtain⟨x,C,ox,vs,rfl,hx,hc,hd,h1,L1,L2,hE⟩:=h1;obtain⟨hp,g,d,tk,os⟩:=s1;have L0:PySem.W.Looks M hp (typeOf (.ref x)) (.ref C):=hc ▸ (nQ hx).andThen .now;have L3:PySem.W.Looks M hp (isType (.ref x)) false:=by
  refine(nQ hx).andThen ?_;rw[hd];exact .now
 have L4:PySem.W.Looks M hp (isInstance (.ref x) (.type "BaseException")) true:=L0.andThen L1;refine aa (aA (aa (cK ?_)));unfold excFromValue isExcClass;refine aa (aa (L3.at (aA ?_)));rw[aG aP];refine aa (L4.at ?_);rw[aK rfl];refine aA (aa (L3.at ?_));rw[aG aP];unfold raisedInstance;refine aa (aa (L0.at (aa (L2.at ?_))));rw[aK (by decide)];refine aA (aa ?_);unfold setFlight;refine aa (bT hx hd h1 ?_);rw[aG (by decide)];exact aA (LD hh hE)
end
noncomputable abbrev Cx.inside(X:Cx)(x:Addr):Cx:={X with A:=X.A.mark (some (.ref x)),calm:=false,xe:=fun _ _=>False}
section
def Cx.Ok.inside{X:Cx}(ok:X.Ok)(x:Addr):(X.inside x).Ok:=⟨ok.mod,ok.kind,ok.glob,ok.blt,ok.above,ok.inj,ok.has,ok.cab,(fun z=>by cases z),ok.frames,ok.stk,ok.exf,ok.bs,ok.bsz,ok.noex,ok.exfs,ok.funs,ok.frf⟩
def Inv.inside{σ:St}(I:Inv X pins σ H s)(x:Addr):Inv (X.inside x) pins σ H s:=⟨I.ok.inside x,I.os,I.bare,I.base,I.loc,I.cell,I.free,I.freeC,I.pin,I.hok,I.len⟩
def Inv.outside{σ:St}(I:Inv (X.inside x) pins σ H s)(ok:X.Ok):Inv X pins σ H s:=⟨ok,I.os,I.bare,I.base,I.loc,I.cell,I.free,I.freeC,I.pin,I.hok,I.len⟩
def Inv.forget{σ:St}(I:Inv X pins σ H s)(hn:h'.Ns X.env.locals m')(sb:Heap.SameBut X.env.locals s.heap h'):Inv X pins (σ.map fun _=>none) H {s with heap:=h',toks:=t'}:=by
 have ne:∀{b o},X.s₀.heap.get? b=some o->b≠X.env.locals:=fun {b o} e=>bf (ah (aB e) I.ok.above);refine⟨I.ok,I.os,I.bare,⟨fun b o q n hb he=>(sb.2 b (ne q)).trans (I.base.keep b o q n hb he),fun b o q n hb he=> ?_,I.base.free,fun b o q he=> ?_,I.base.tups,I.base.frzs,I.base.tbls⟩,⟨m',hn,fun i y v e1 e2 _=> ?_⟩,fun y c e=> ?_,I.free,I.freeC,fun p hp=> ?_,fun a o e=> ?_,by rw[aw];exact I.len⟩
 · obtain⟨sl,e⟩:=I.base.slot b o q n hb he;exact⟨sl,(sb.2 b (ne q)).trans e⟩
 · obtain⟨o',e⟩:=I.base.there b o q he;exact⟨o',(sb.2 b (ne q)).trans e⟩
 · rw[aV] at e2;cases c:σ[i]? with
   | none=>rw[c] at e2;cases e2
   | some z=>rw[c] at e2;cases e2
 · obtain⟨v,o,ho,hd⟩:=I.cell y c e;exact⟨v,o,(sb.2 c (I.cne y c e)).trans ho,hd⟩
 · obtain⟨a1,a2,a3,a4⟩:=I.pin p hp;exact⟨(sb.2 p.1 a3).trans a1,a2,a3,a4⟩
 · refine(I.hok a o e).stay (fun b u hb q=>(sb.2 b ?_).trans q) (fun _ q=>q) fun _ _ q=>q;intro z;rcases hb with hb | hb
   · rw[<-hb,z,I.free] at e;cases e
   · rw[z,I.free] at hb;cases hb
def Inv.caught{σ:St}{x T:Addr}(I:Inv X pins σ H s)(J:Inv X pins σ H' s')(zx:s.heap.objs.size<=x)(zT:s.heap.objs.size<=T)(hx:H' x=none)(hT:H' T=none)(c:Chg (qO X.stack) x T s'.heap h3):Inv X pins σ H' {s' with heap:=h3,toks:=t'}:=by
 refine J.call' (ch:=[x,T]) rfl ⟨fun b o q n hb he=> ?_,fun b o q n hb he=> ?_,fun b o q n he=>n,fun b o q he=> ?_,fun _ _ q=>q,fun _ _ _ q=>q,fun b ps q=>⟨#[],by rw[q];simp⟩⟩ (HOk.chg J.hok c hx hT fun b hb=>J.stkFree b hb) J.bare fun b hb=> ?_
 · exact c.keep b o q (fun z=>he (by rw[z];simp)) (fun z=>he (by rw[z];simp)) hb
 · exact c.slot b o q (fun z=>he (by rw[z];simp)) fun z=>he (by rw[z];simp)
 · obtain⟨sl,e⟩:=c.slot b o q (fun z=>he (by rw[z];simp)) fun z=>he (by rw[z];simp);exact⟨_,e⟩
 · have zb:s.heap.objs.size<=b:=by
    rcases aL.mp hb with rfl | hb
    · exact zx
    · rw[ay.mp hb];exact zT
   obtain⟨z1,z2,z3,z4⟩:=I.old zb;exact⟨.inr z1,bB (bB z2),z3,z4⟩
end
noncomputable def yu(D:oY):oY:={nx:=fun σ H=>D.nx (σ.map fun _=>none) H,rt:=D.rt,bk:=fun σ H=>D.bk (σ.map fun _=>none) H,ct:=fun σ H=>D.ct (σ.map fun _=>none) H}
section
def SP.forget(ok:X.Ok)(h:SP (X.inside x) pins (yu D) fl s)(hn:h'.Ns X.env.locals m')(sb:Heap.SameBut X.env.locals s.heap h'):SP X pins D fl {s with heap:=h',toks:=t'}:=by
 cases fl with
 | next=>obtain⟨σ',H',I,q⟩:=h;exact⟨_,H',(I.outside ok).forget hn sb,q⟩
 | brk=>obtain⟨σ',H',I,q⟩:=h;exact⟨_,H',(I.outside ok).forget hn sb,q⟩
 | cont=>obtain⟨σ',H',I,q⟩:=h;exact⟨_,H',(I.outside ok).forget hn sb,q⟩
 | ret u=>obtain⟨v,σ',H',I,r,q⟩:=h;exact⟨v,_,H',(I.outside ok).forget hn sb,r,q⟩
def SP.locals{X:Cx}(h:SP (X.inside x) pins D fl s):∃m,s.heap.Ns X.env.locals m:=by
 cases fl with
 | next=>obtain⟨σ',H',I,q⟩:=h;obtain⟨m,hn,_⟩:=I.loc;exact⟨m,hn⟩
 | brk=>obtain⟨σ',H',I,q⟩:=h;obtain⟨m,hn,_⟩:=I.loc;exact⟨m,hn⟩
 | cont=>obtain⟨σ',H',I,q⟩:=h;obtain⟨m,hn,_⟩:=I.loc;exact⟨m,hn⟩
 | ret u=>obtain⟨v,σ',H',I,r,q⟩:=h;obtain⟨m,hn,_⟩:=I.loc;exact⟨m,hn⟩
end
section
def DE{X:Cx}{pins:List (Addr × Obj)}{s:Shared}{σ:St}{H:Hp}(I:Inv X pins σ H s){xs:List V}{its:List Value}{ds:List Tx}{k:Tx}{x:V}{v:Value}(hL:Xas H ds xs)(rv:Vals xs its)(hk:Xa H k x)(rx:RelV x v)(hd:∀d∈ds,d.dp<=60)(hu:X.A.units+64<cLine):∃e:Value->Bool,(∀y,y∈its.toArray->SeqAt.EqAt X.A.in1.in1 s y v (e y)/\SeqAt.EqAt X.A.in1 s y v (e y))/\∀(i:Nat) (y:Value),its[i]? =some y->∃d,ds[i]? =some d/\e y=decide (d=k):=by
 classical
 let e:Value->Bool:=fun u=>decide (∃x',RelV x' u/\Xa H k x')
 have at_:∀(i:Nat) (y:Value),its[i]? =some y->∃x' d,RelV x' y/\Xa H d x'/\ds[i]? =some d:=fun i y hy=>by
  have hi:i<xs.length:=by rw[rv.length];exact(bp.mp hy).1
  obtain⟨u',hu',ru'⟩:=rv.get (aE hi);rw[hy] at hu';cases hu';obtain⟨d,hd',hx'⟩:=Xas.get hL (aE hi);exact⟨_,d,ru',hx',hd'⟩
 have he:∀{x' d u},RelV x' u->Xa H d x'->e u=decide (d=k):=fun {x' d u} r i=>by
  show decide (∃x',RelV x' u/\Xa H k x')=_;by_cases c:d=k
  · subst c;rw[ax ⟨x',r,i⟩,ax rfl]
  · rw[ag c,ag];rintro⟨x2,r2,i2⟩;rw[RelV.inj r2 r] at i2;exact c (Xa.inj i i2)
 refine⟨e,fun y hy=> ?_,fun i y hy=> ?_⟩
 · obtain⟨i,hi,ei⟩:=jk.mp (show y∈its by simpa using hy);obtain⟨x',d,r',i',hd'⟩:=at_ i y (by rw[aE hi,ei])
   have dd:=hd d (av hd');rw[he r' i'];exact⟨LX I i' hk r' rx (by rw[iJ,iJ];lia),LX I i' hk r' rx (by rw[iJ];lia)⟩
 · obtain⟨x',d,r',i',hd'⟩:=at_ i y hy
   exact⟨d,hd',he r' i'⟩
def K4:R2:=fun x y H Q=>∃p k xs ds,y= .ref p/\H p=some (.lst xs)/\Xas H ds xs/\Xa H k x/\(∀d∈ds,d.dp<=60)/\Q (.bl (decide (k∈ds))) H
def CC(hu:X.A.units+64<cLine):ju X (compareOp .In) K4:=by
 intro pins s σ H x y v u Q I rx ry h;obtain⟨p,k,xs,ds,rfl,hp,hL,hk,hd,q⟩:=h;cases ry;obtain⟨its,rv,pl,hz⟩:=I.list (SqL.of hp);obtain⟨e,h1,h2⟩:=DE I hL rv hk rx hd hu;refine SeqAt.in_listAt (items:=its.toArray) e pl.isList (fun y hy=>(h1 y hy).2) ?_;have ea:its.toArray.any e=decide (k∈ds):=by
  rw[gB,decide_eq_true_iff];simp only[List.any_toArray,nW];constructor
  · rintro⟨y,hy,ey⟩;obtain⟨i,hi,ei⟩:=jk.mp hy;obtain⟨d,hd',e'⟩:=h2 i y (by rw[aE hi,ei]);rw[ey] at e';rw[<-ck e'.symm];exact av hd'
  · intro hm;obtain⟨i,hi,ei⟩:=jk.mp hm;have hl:i<its.length:=by rw[<-rv.length,Xas.len hL];exact hi
    refine⟨its[i],iO hl,?_⟩;obtain⟨d,hd',e'⟩:=h2 i its[i] (aE hl);rw[aE hi,ei] at hd';cases hd';rw[e',ax rfl]
 rw[ea];exact⟨.bl (decide (k∈ds)),H,I,rfl,q⟩
end
section
end
structure Iz(K:Frag)(C:Addr):Prop where
 cls:∃(nm q:Str) (N:Addr) (bs bm:List Value) (hdct:Bool) (sn:List Str) (sub:List Value) (ab:Bool) (col:Option Bool) (dd:Option Addr) (k0 k1 k2 k3 k5:Option Value),K.lookup C=some (excClassObj nm q C N bs bm hdct sn sub ab col dd k0 k1 k2 k3 k5 "ValueError.__new__")/\nsOkIn K N=true/\nsIn K N "__init__"=some none/\PySem.W.tailIn K IH bm=true
 kp:keepIn K (.ref C)=true
 ve:mroIn K C (.type "BaseException")=some true
 ty:typeIn K (.ref C)=some (.type "type")
section
def DY(C:Addr)(h h':Heap):Prop:=(∀b o,h.get? b=some o->h'.get? b=some o)/\∃t0:Addr,h'.get? (h.objs.size+1)=some (BH C t0)
def vp{os:OsState}(F:ExcBaseFacts B newId initId bmB)(T:OwnTail h bmB bm)(hC:h.get? C=some (excClassObj nm q C N bs bm hdct sn sub ab col dd k0 k1 k2 k3 k5 newId))(hN:h.Ns N mN)(hi:mN "__init__"=none)(hz:us.length<=sizeLine)(hq:∀h',DY C h h'->Q (.done (.ret (.ref (h.objs.size+1)))) ⟨h',g,d,t,os⟩):wpAny (model prog w) A (Builtin.«type.__call__» ⟨.ref C::us,[]⟩) Q E ⟨h,g,d,t,os⟩:=by
 repeat (first | with_reducible refine xA hC ?_ | with_reducible refine wpAny_madeBy_exc hC ?_ | wp_step)
 refine codeAny_call_builtin_code (MI _ F.quiet) (wpAny_check_new_subT F T hC (codeAny_exc_new_subT F T hC ?_ hz));show wpAny _ _ _ _ _ _;have up:∀{b o},h.get? b=some o->((h.push (BI us)).push (BH C h.objs.size)).get? b=some o:=fun e=>ar _ (ar _ e);have gx:((h.push (BI us)).push (BH C h.objs.size)).get? (h.objs.size+1)=some (BH C h.objs.size):=by heap_get
 have mine:(Value.ref C::bm).contains (.ref C)=true:=by simp
 have T2:=T.keeps (h':=(h.push (BI us)).push (BH C h.objs.size)) fun b o e=>up e;have C2:=up hC;unfold isInstance
 repeat (first | with_reducible refine xA gx ?_ | (with_reducible refine wpAny_isSubtype_exc C2 ?_;rw[mine]) | wp_step)
 show wpAny _ _ (typeLookup (.ref C) _) _ _ _;refine wpAny_typeLookup_tail C2 (hN.keeps fun b o e=>up e) T2 F.mroIs F.init.lookup ?_;rw[hi];refine cK (aa (iR (F.init.bind _) (aa (iD (Ln F.init.plain F.initEntry (wpAny_check_init_subT F T2 C2 gx rfl ?_))))))
 wp_walk
 refine hq _ ⟨fun b o e=> ?_,h.objs.size+2,?_⟩
 · rw[dF _ _ (eC (cJ (aB e)))];exact ar _ (up e)
 · rw[dZ _ (ar _ gx) rfl];simp only[de]
   rfl
def GH{os:OsState}(F:ExcBaseFacts B newId initId bmB)(T:OwnTail h bmB bm)(hC:h.get? C=some (excClassObj nm q C N bs bm hdct sn sub ab col dd k0 k1 k2 k3 k5 newId))(hN:h.Ns N mN)(hi:mN "__init__"=none)(hz:us.length<=sizeLine)(hq:∀h',DY C h h'->Q (.ref (h.objs.size+1)) ⟨h',g,d,t,os⟩):wpAny (model prog w) A (call (.ref C) us) Q E ⟨h,g,d,t,os⟩:=by
 have y1:=tc_lookup;have y2:=tc_bind (.ref C);have y3:(⟨h,g,d,t,os⟩:Shared).TypeIs (.ref C) "type":=⟨_,hC,rfl⟩;refine iD (codeAny_of_tree ?_);show wpAny _ _ (callAny (.ref C) _) _ _ _
 repeat (any_goals (first | assumption | with_reducible refine xA hC ?_ | wp_step))
 exact⟨rfl,codeAny_call_builtin_at (MI _ (by decide+kernel)) entry_typeCall (wpAny_check_type_call_sub hC (vp F T hC hN hi hz fun h' z=>hq h' z))⟩
end
def Ej(C:Addr)(E:XK)(t:TA):TS:=fun _ σ H=>t σ H fun vs H1=>vs.length<=sizeLine/\E (.ref C) none H1
section
def Az{X:Cx}{C:Addr}{E:XK}{cn:Str}{p cpos pos:Pos}{e:Expr}{es:List Expr}{t:TA}(hc:X.calm=true)(hx:XE X E)(M:Iz X.K C)(hg:Gl X cn)(hm:X.mg cn=some (.ref C))(ha:PA X (e::es) t)(hdb:(cn==("__debug__":Str))=false:=by decide)(he:starEach (e::es) X.env=(false,eval e X.env)::starEach es X.env:=by rfl)(hpl:(backTo cpos (starEach es X.env)).any (·.1)=false:=by rfl):PS X (.Raise (some (.Call (.Name cn p) (e::es) [] cpos)) none pos) (Ej C E t):=by
 intro pins s σ H D I h;rw[arm_exec_Raise];refine aa (dG (x_ (I.ok.hd hc) ?_));show wpAny _ _ (do let v<-eval (.Call (.Name cn p) (e::es) [] cpos) X.env;standAt pos;pure v) _ _ _;refine aa (dm (gI I hg hm ?_ hdb));refine callWith_K (h₀:=X.base) I.ok.mod.kin M.kp (cX (ha cpos pins s σ H _ I h) fun us s1 ⟨vs,H1,I1,r,hz,q⟩=>⟨I1.kIn,?_⟩) he hpl;obtain⟨nm,qn,N,bs,bm,hdct,sn,sub,ab,col,dd,k0,k1,k2,k3,k5,lC,ok,hi,tl⟩:=M.cls;have G:s1.heap.Ns N (s1.heap.nsMap N):= .of_isNs (PySem.W.isNs_of_in I1.kIn ok);have gi:s1.heap.nsMap N "__init__"=none:=PySem.W.nsMap_none_of_in I1.kIn ok hi;have T:=PySem.W.tail_of_in I1.kIn tl;obtain⟨hh,g,d,tk,os⟩:=s1;refine GH PySem.F.excBase_ValueError T (I1.kIn _ _ lC) G gi (by rw[fj,<-r.length];exact hz) (fun h' md=>aa (dG (aA ?_)));obtain⟨keeps,t0,gx⟩:=md;have zx:hh.objs.size<=hh.objs.size+1:=aY _;have I2:Inv X pins σ H1 ⟨h',g,d,tk,os⟩:=I1.kept (t':=tk) keeps;exact⟨_,C,_,_,rfl,gx,rfl,rfl,rfl,PySem.W.looks_mroIn I2.kIn M.ve,PySem.W.looks_typeIn I2.kIn M.ty,hx pins σ H1 _ _ _ _ I2 (I1.hok.fresh zx) (ao I1.sz zx) gx rfl rfl q⟩
end
noncomputable def ie(C x:Addr):HO:= .ext fun h=>∃oe vs,h.get? x=some oe/\oe.cls= .ref C/\oe.dict=none/\oe.data= .fields vs
def An(e:h.get? x=some oe)(c:oe.cls= .ref C)(o:oe.dict=none)(v:oe.data= .fields vs):ObjOk P w H h x (ie C x):=⟨⟨oe,vs,e,c,o,v⟩,⟨_,e⟩,fun _ _ ⟨oe,vs,p,r⟩ k=>⟨oe,vs,k _ p,r⟩⟩
section
open PySem.W in
theorem Ec{K:Frag}(X:K.In s.heap)(c:Ir K C)(I:InstAt s.heap x ox C none)(q:Q (some (.ref C)) {s with toks:=s.toks+1}):wpAny (model prog w) A (getAttr? (.ref x) "__class__") Q E s:=by
 obtain⟨cd,hc,_⟩:=any_some c.hd;have hf:findObj K C none "__class__"=some (.bind (.builtin "getset_descriptor.__get__") (.builtin "object.__class__")):=by
  unfold findObj;rw[hc,Option.bind_some,c.cl,Option.bind_some];simp[c.cg,c.ct]
 unfold getAttr? getAttrBy?;refine aa (wpAny_mkText (aa (vm ?_)));refine Ed (s:={s with toks:=s.toks+1}) X c I (IW (s:={s with toks:=s.toks+1}) X c I hf ⟨_,rfl,rfl,?_⟩)
 first | exact q | exact aA q
open PySem.W in
theorem HR{K:Frag}(c:Ir K C):KitX K (.ref x) (.ref C) (fun h=>InstAt h x ox C none) where
 ty:=fun _ _ _ I=>I.type
 it:=fun _ _ X _=>by
  obtain⟨cd,hc,_⟩:=any_some c.hd;unfold clsIn at hc
  split at hc
  · rename_i lo;intro A' Q' E' s' k q;unfold isType loadHead;exact aa (wpAny_loadPart (k _ _ (X _ _ lo)) (aA q))
  · cases hc
 ne:=fun h tp dd its n sl X htp=>by
  obtain⟨cd,hc,_⟩:=any_some c.hd;refine lR.mpr fun q=> ?_;obtain rfl:C=tp:=Value.ref.inj (iL.mp q);unfold clsIn at hc
  split at hc
  · rename_i lo;cases(X _ _ lo).symm.trans htp
  · cases hc
 ca:=fun X I k=>Ec X c I k
end
section
def Du{σ:St}(I:Inv X pins σ H s)(hx:H x=some (ie C x)):∃ox:Obj,PySem.W.InstAt s.heap x ox C none:=by
 obtain⟨⟨oe,vs,e1,e2,e3,e4⟩,_⟩:=(show ObjOk X.prog X.w H s.heap x (ie C x) from I.hok x _ hx);refine⟨oe,⟨e1,e2,?_,?_⟩⟩
 · unfold PySem.W.notCls;rw[e4]
 · rw[e3];first | trivial | exact rfl
def gO(hK:X.K=K'):jZ X (.builtin "isinstance") (fun xs H Q=>∃x C cv c b,xs=[.ref x,cv]/\H x=some (ie C x)/\Ir K' C/\((∃n,cv= .ty n/\c= .type n)\/∃D,cv= .ref D/\c= .ref D)/\kitOne K' (.ref C) c=some b/\Q (.bl b) H):=by
 subst hK;intro pins s σ H xs us Q I r h;obtain⟨x,C,cv,c,b,rfl,ea,xc,hc,e,q⟩:=h;obtain⟨u,v,rfl,ru,rv⟩:=r.two;cases ru;obtain⟨ox,J⟩:=Du I ea;have hv:v=c:=by
  rcases hc with⟨n,rfl,rfl⟩ | ⟨D,rfl,rfl⟩
  · cases rv;rfl
  · cases rv;rfl
 subst hv;exact kia_one (HR (ox:=ox) xc) I.kIn J e (fun z=>nomatch z) fun tk=>⟨.bl b,H,I.tok _,rfl,q⟩
end
def GP(K:Frag)(i:Nat)(Ck:Addr)(sp:Sp)(t:TA)(ts:TS):TS:=fun D σ H=>t σ H fun vs H1=>sp vs H1 (fun _ H2=>D.nx σ H2) fun cls od H2=>∃C,cls= .ref C/\od=none/\exmOne K (.ref C) (.ref Ck)=some true/\∀x,H2 x=none->ts (yu D) (σ.set i (some (.ref x))) (upd H2 x (ie C x))
section
def Cm{X:Cx}{k i:Nat}{f Ck:Addr}{fd:FuncData}{ps:List Str}{sp:Sp}{fn cn n:Str}{p cpos epos np hpos pos:Pos}{e:Expr}{es:List Expr}{t:TA}{b0:Stmt}{suite:List Stmt}{ts:TS}(F:bK X.prog X.w X.K X.mg X.base (yU X.prog X.w) k f fd ps sp)(hr:Room k X.A)(hg:Gl X fn)(hm:X.mg fn=some (.ref f))(hk:keepIn X.K (.ref f)=true)(hb:Binds X.K fd ps [])(ha:PA X.nox (e::es) t)(hgc:Gl X cn)(hmc:X.mg cn=some (.ref Ck))(hN:X.N.Nodup)(hi:X.N[i]? =some n)(hl:X.env.scope.names.lookup n=some .local)(hs:∀x,PSs (X.inside x) (b0::suite) ts)(hst:X.stack=X.env::X.outer)(hfr:X.env.frame=some X.env.locals)(hfn:X.fn n=true\/X.env.scope.names.lookup n=some .local:=by first | exact .inl rfl | exact .inr rfl)(hdb:(fn==("__debug__":Str))=false:=by decide)(hdc:(cn==("__debug__":Str))=false:=by decide)(he:starEach (e::es) X.env=(false,eval e X.env)::starEach es X.env:=by rfl)(hpl:(backTo cpos (starEach es X.env)).any (·.1)=false:=by rfl)(hsw:swapsWith (.Call (.Name fn p) (e::es) [] cpos) none epos.line X.env=pure false:=by rfl):PS X (.Try [.Expr (.Call (.Name fn p) (e::es) [] cpos) epos] [.ExceptHandler (some (.Name cn np)) (some n) (b0::suite) hpos] [] [] pos) (GP X.K i Ck sp t ts):=by
 intro pins s σ H D I h;refine wpAny_Try_except (iB (Eg ?_ I.quiet hsw));refine dm (gI I hg hm ?_ hdb);refine callWith_K (h₀:=X.base) I.ok.mod.kin hk (bJ (ha cpos pins s σ H _ (I.wish _) h) (fun us s1 ⟨vs,H1,I1',r,q⟩=>⟨I1'.unwish.kIn,?_⟩) fun _ _ z=>z.elim) he hpl;have I1:=I1'.unwish;have hln:(us++[]).length=ps.length:=by rw[fk,<-r.length];exact F.len _ _ _ _ q
 refine iD (g9 (F.run X.A X.stack s1 H1 ⟨us,[]⟩ us vs _ _ hr I1.env0 (by have b:=hb s1 us I1.kIn hln;rw[fk] at b;exact b) r q) fun r s2 hq=> ?_);cases r with
 | ok fl=>
   cases fl with
   | ret u=>
     obtain⟨v,H',I3,_,q3⟩:=I1.after hq;exact d7 (d7 ⟨σ,H',I3,q3⟩)
   | next=>exact False.elim hq
   | brk=>exact False.elim hq
   | cont=>exact False.elim hq
 | error ex=>
   obtain⟨x,T,cls,od,H',rfl,os,bare,un,hok,zx,zT,hx,hT,fl,C,rfl,rfl,xm,q3⟩:=hq;have J:=I1.call' os un hok bare (fun b z=>absurd z (by simp));have hA:X.A.frames=some (X.env::X.outer):=by rw[<-hst];exact J.ok.frames
   have hF:s2.heap.FunFrames X.base (X.env::X.outer):=by rw[<-hst];exact J.stack
   refine uA hA hF hfr fl fun h2 T2 c f2 z2=>nO f2 fun h3 k3 f3=> ?_;have c3:Chg (qO X.stack) x T s2.heap h3:=by rw[hst];exact c.set z2 k3 f3.hx
   have J3:=I1.caught (t':=s2.toks) J zx zT hx hT c3;refine LG (Kg ?_) (by intro z;cases z);refine gI (J3.inside x) hgc hmc ?_ hdc;obtain⟨oe,vs3,e1,e2,e3,e4,e5⟩:=f3.ex;have LT:PySem.W.Looks (model X.prog X.w) h3 (typeOf (.ref x)) (.ref C):=e2 ▸ (nQ e1).andThen .now;refine(PySem.W.exm_one (M:=model X.prog X.w) (h:=h3) J3.kIn LT xm).at ?_;refine codeAny_handlers_suite_as (nO f3 fun h4 k4 f4=> ?_);have c4:Chg (qO X.stack) x T s2.heap h4:=c3.set z2 k4 f4.hx;have J4:=I1.caught (t':=s2.toks) J zx zT hx hT c4;obtain⟨o4,vs4,g1,g2,g3,g4,g5⟩:=f4.ex;obtain⟨y1,y2,y3,y4⟩:=I1.old zx;have J5:=J4.track (d:=x) (o:=ie C x) hx y1 y2 y3 y4 (An g1 g2 g3 g4);refine iG J5 hN hi (.inl hl) (show RelV (.ref x) (.ref x) from rfl) (fun s5 I5=> ?_) hfn;refine bJ (hs x pins s5 _ _ (yu D) (I5.inside x) (q3 x hx)) (fun fl5 s6 sp6=> ?_) fun _ _ z=>z.elim;obtain⟨m6,n6⟩:=SP.locals sp6;have hcls:(X.env.scope.kind== .class || (X.env.scope.kind== .module&&X.env.locals !=X.env.globals))=false:=by rw[I.ok.kind];rfl
   exact wpAny_nameGoes hl n6 hcls fun h7 m7 n7 sb=>SP.forget J.ok sp6 n7 sb
end
section
end
abbrev Tg:=Addr->Option (Nat × Option Key)
structure Fr(S:List Nat)(T T':Tg)(H H':Hp):Prop where
 but:∀b o,H b=some o->(∀i k,T b=some (i,k)->i∉S)->H' b=some o
 tups:Tups H H'
 there:∀b,H b≠none->H' b≠none
 tg:∀b i,T b=some i->T' b=some i
 new:∀b i,T' b=some i->T b=some i\/(H b=none/\i.1∈S)
def TgOk(T:Tg)(H:Hp):Prop:=∀b i,T b=some i->H b≠none
def Fr.refl:Fr S T T H H:=⟨fun _ _ e _=>e,Tups.refl H,fun _ h=>h,fun _ _ h=>h,fun _ _ h=> .inl h⟩
def Fr.trans(a:Fr S T T1 H H1)(b:Fr S T1 T2 H1 H2):Fr S T T2 H H2 where
 but:=fun c o e n=>b.but c o (a.but c o e n) fun i k h=>by
  rcases a.new c (i,k) h with h | ⟨h,_⟩
  · exact n i k h
  · rw[h] at e;cases e
 tups:=a.tups.trans b.tups
 there:=fun c h=>b.there c (a.there c h)
 tg:=fun c i h=>b.tg c i (a.tg c i h)
 new:=fun c i h=>by
  rcases b.new c i h with h | ⟨h,hi⟩
  · exact a.new c i h
  · refine .inr ⟨?_,hi⟩;cases e:H c with
    | none=>rfl
    | some o=>exact absurd h (a.there c (by rw[e];intro z;cases z))
def Fr.mono(a:Fr S T T' H H')(h:∀i∈S,i∈S'):Fr S' T T' H H':=⟨fun c o e n=>a.but c o e fun i k z m=>n i k z (h i m),a.tups,a.there,a.tg,fun c i e=>(a.new c i e).imp id fun z=>⟨z.1,h _ z.2⟩⟩
def pR(s:Same H H'):∀b,H b≠none->H' b≠none:=fun b h=>by
 cases e:H b with
 | none=>exact absurd e h
 | some o=>rw[s b o e];intro z;cases z
def Fr.of(s:Same H H'):Fr S T T H H':=⟨fun b o e _=>s b o e,s.tups,pR s,fun _ _ h=>h,fun _ _ h=> .inl h⟩
def TgOk.same(h:TgOk T H)(s:Same H H'):TgOk T H':=fun b i e=>pR s b (h b i e)
def TgOk.free{T:Tg}{H:Hp}(h:TgOk T H){b:Addr}(e:H b=none):T b=none:=by
 cases c:T b with
 | none=>rfl
 | some i=>exact absurd e (h b i c)
def Fr.put(t:T p=some (i,k))(hi:i∈S)(nt:∀xs,H p≠some (.tup xs)):Fr S T T H (upd H p o) where
 but:=fun b u e n=>by
  by_cases h:b=p
  · subst h;exact absurd hi (n i k t)
  · rw[aM h];exact e
 tups:=fun b xs e=>by
  by_cases h:b=p
  · subst h;exact absurd e (nt xs)
  · rw[aM h];exact e
 there:=fun b e=>by
  by_cases h:b=p
  · subst h;rw[ae];intro z;cases z
  · rw[aM h];exact e
 tg:=fun _ _ h=>h
 new:=fun _ _ h=> .inl h
def TgOk.put(h:TgOk T H):TgOk T (upd H p o):=fun b i e=>by
 by_cases z:b=p
 · subst z;rw[ae];intro z;cases z
 · rw[aM z];exact h b i e
noncomputable def jz(T:Tg)(p:Addr)(i:Nat × Option Key):Tg:=fun b=>if b=p then some i else T b
def pS:jz T p i p=some i:=aK rfl
def jy(h:b≠p):jz T p i b=T b:=aG h
def Fr.new'(ok:TgOk T H)(hp:H p=none)(hi:i.1∈S):Fr S T (jz T p i) H (upd H p o) where
 but:=fun b u e _=>af hp o b u e
 tups:=(af hp o).tups
 there:=pR (af hp o)
 tg:=fun b j h=>by
  have:b≠p:=fun z=>ok b j h (by rw[z];exact hp);rw[jy this];exact h
 new:=fun b j h=>by
  by_cases z:b=p
  · subst z;rw[pS] at h;cases h;exact .inr ⟨hp,hi⟩
  · rw[jy z] at h;exact .inl h
def TgOk.new(ok:TgOk T H)(hp:H p=none):TgOk (jz T p i) (upd H p o):=fun b j h=>by
 by_cases z:b=p
 · subst z;rw[ae];intro z;cases z
 · rw[aM z];rw[jy z] at h;exact ok b j h
def Mo{α:Type}(R:Hp->V->α->Prop):Prop:=∀H H' v x,Tups H H'->R H v x->R H' v x
section
def FLs{α:Type}(R:Hp->V->α->Prop)(H:Hp)(T:Tg)(i:Nat)(p:Addr)(xs:List α):Prop:=T p=some (i,none)/\∃vs,H p=some (.lst vs)/\Paired (R H) vs xs
def FK(H:Hp)(T:Tg)(i:Nat)(p:Addr)(f:Key->Option V)(n:Nat):Prop:=T p=some (i,none)/\∃kvs,H p=some (.dK kvs)/\(∀k,cZ kvs k=f k)/\kvs.length<=n
def FT(H:Hp)(T:Tg)(i:Nat)(p:Addr)(f:List Key->Option V)(n:Nat):Prop:=T p=some (i,none)/\∃kvs,H p=some (.dT kvs)/\(∀k,cZ kvs k=f k)/\kvs.length<=n
def FTb{α:Type}(R:Hp->V->α->Prop)(H:Hp)(T:Tg)(i:Nat)(p:Addr)(f:Key->List α)(n:Nat):Prop:=T p=some (i,none)/\∃kvs,H p=some (.dK kvs)/\kvs.length<=n/\(∀k,(f k).length<=n)/\∀k,(cZ kvs k=none/\f k=[])\/∃q vs,cZ kvs k=some (.ref q)/\T q=some (i,some k)/\H q=some (.lst vs)/\Paired (R H) vs (f k)
theorem oQ:∀{l l':List α} {k k':List β},Paired R l k->Paired R l' k'->Paired R (l++l') (k++k')
 | _,_,_,_,.nil,s=>s
 | _,_,_,_,.cons r t,s=> .cons r (oQ t s)
def zP{α:Type}{R:Hp->V->α->Prop}{H H':Hp}(m:Mo R)(t:Tups H H'){vs:List V}{xs:List α}(h:Paired (R H) vs xs):Paired (R H') vs xs:=Paired.imp' (fun _ _ q=>m _ _ _ _ t q) h
def Fr.at(f:Fr S T T' H H')(hi:i∉S)(t:T b=some (i,k))(e:H b=some o):H' b=some o:=f.but b o e fun j k' z=>by rw[t] at z;cases z;exact hi
def FLs.fr{xs:List α}(m:Mo R)(f:Fr S T T' H H')(hi:i∉S)(h:FLs R H T i p xs):FLs R H' T' i p xs:=by
 obtain⟨t,vs,e,r⟩:=h;exact⟨f.tg _ _ t,vs,f.at hi t e,zP m f.tups r⟩
def FK.fr(f:Fr S T T' H H')(hi:i∉S)(h:FK H T i p g n):FK H' T' i p g n:=by
 obtain⟨t,kvs,e,r⟩:=h;exact⟨f.tg _ _ t,kvs,f.at hi t e,r⟩
def FT.fr(f:Fr S T T' H H')(hi:i∉S)(h:FT H T i p g n):FT H' T' i p g n:=by
 obtain⟨t,kvs,e,r⟩:=h;exact⟨f.tg _ _ t,kvs,f.at hi t e,r⟩
def FTb.fr{g:Key->List α}(m:Mo R)(f:Fr S T T' H H')(hi:i∉S)(h:FTb R H T i p g n):FTb R H' T' i p g n:=by
 obtain⟨t,kvs,e,l,ll,r⟩:=h;refine⟨f.tg _ _ t,kvs,f.at hi t e,l,ll,fun k=> ?_⟩;rcases r k with z | ⟨q,vs,z1,z2,z3,z4⟩
 · exact .inl z
 · exact .inr ⟨q,vs,z1,f.tg _ _ z2,f.at hi z2 z3,zP m f.tups z4⟩
def FLs.app{x:α}(m:Mo R)(h:FLs R H T i p xs)(e:H p=some (.lst vs))(r:R H v x):FLs R (upd H p (.lst (vs++[v]))) T i p (xs++[x])/\Fr [i] T T H (upd H p (.lst (vs++[v]))):=by
 obtain⟨t,vs',e',rs⟩:=h;rw[e] at e';cases e';have f:Fr [i] T T H (upd H p (.lst (vs++[v]))):=Fr.put t (by simp) (fun xs z=>by rw[e] at z;cases z);exact⟨⟨t,_,ae,oQ (zP m f.tups rs) (.cons (m _ _ _ _ f.tups r) .nil)⟩,f⟩
def FK.put(h:FK H T i p g n)(e:H p=some (.dK kvs)):FK (upd H p (.dK (cq kvs k v))) T i p (fun j=>if j=k then some v else g j) (n+1)/\Fr [i] T T H (upd H p (.dK (cq kvs k v))):=by
 obtain⟨t,kvs',e',r,l⟩:=h;rw[e] at e';cases e';refine⟨⟨t,_,ae,fun j=> ?_,ao (dY _ _ _) (dQ l)⟩,Fr.put t (by simp) (fun xs z=>by rw[e] at z;cases z)⟩;rw[jw,r]
def FT.put(h:FT H T i p g n)(e:H p=some (.dT kvs)):FT (upd H p (.dT (cq kvs k v))) T i p (fun j=>if j=k then some v else g j) (n+1)/\Fr [i] T T H (upd H p (.dT (cq kvs k v))):=by
 obtain⟨t,kvs',e',r,l⟩:=h;rw[e] at e';cases e';refine⟨⟨t,_,ae,fun j=> ?_,ao (dY _ _ _) (dQ l)⟩,Fr.put t (by simp) (fun xs z=>by rw[e] at z;cases z)⟩;rw[jw,r]
def Gq{α:Type}{g:Key->List α}{x:α}(h:∀k,(g k).length<=n):∀j,(g j++if j=k then [x] else []).length<=n+1:=fun j=>by
 rw[ak];have:=h j
 split<;>simp only[bj,eh]<;>lia
def FTb.app{x:α}(m:Mo R)(h:FTb R H T i p g n)(e:H p=some (.dK kvs))(eq:cZ kvs k=some (.ref q))(hq:H q=some (.lst vs))(r:R H v x):FTb R (upd H q (.lst (vs++[v]))) T i p (fun j=>g j++if j=k then [x] else []) (n+1)/\Fr [i] T T H (upd H q (.lst (vs++[v]))):=by
 obtain⟨t,kvs',e',l,ll,rs⟩:=h;rw[e] at e';cases e';rcases rs k with⟨z,_⟩ | ⟨q',vs',z1,z2,z3,z4⟩
 · rw[eq] at z;cases z
 rw[eq] at z1;cases z1;rw[hq] at z3;cases z3;have f:Fr [i] T T H (upd H q (.lst (vs++[v]))):=Fr.put z2 (by simp) (fun xs z=>by rw[hq] at z;cases z);refine⟨⟨t,kvs,?_,MS l,Gq ll,fun j=> ?_⟩,f⟩
 · rw[aM (fun z=>by rw[z,hq] at e;cases e)];exact e
 · by_cases hj:j=k
   · subst hj;dsimp only;rw[aK rfl];exact .inr ⟨q,_,eq,z2,ae,oQ (zP m f.tups z4) (.cons (m _ _ _ _ f.tups r) .nil)⟩
   · dsimp only;rw[aG hj,fk];rcases rs j with z | ⟨q2,vs2,y1,y2,y3,y4⟩
     · exact .inl z
     · refine .inr ⟨q2,vs2,y1,y2,?_,zP m f.tups y4⟩;rw[aM (fun z=>by rw[z,z2] at y2;cases y2;exact hj rfl)];exact y3
def FTb.new{x:α}(m:Mo R)(ok:TgOk T H)(h:FTb R H T i p g n)(e:H p=some (.dK kvs))(eq:cZ kvs k=none)(hq:H q=none)(r:R H v x)(H':Hp)(hH:H'=upd (upd H q (.lst [v])) p (.dK (cq kvs k (.ref q)))):FTb R H' (jz T q (i,some k)) i p (fun j=>g j++if j=k then [x] else []) (n+1)/\Fr [i] T (jz T q (i,some k)) H H'/\TgOk (jz T q (i,some k)) H':=by
 subst hH;obtain⟨t,kvs',e',l,ll,rs⟩:=h;rw[e] at e';cases e';have pq:p≠q:=fun z=>by rw[z,hq] at e;cases e
 have f1:Fr [i] T (jz T q (i,some k)) H (upd H q (.lst [v])):=Fr.new' ok hq (by simp);have t1:jz T q (i,some k) p=some (i,none):=by rw[jy pq];exact t
 have e1:upd H q (.lst [v]) p=some (.dK kvs):=by rw[aM pq];exact e
 have f2:Fr [i] (jz T q (i,some k)) (jz T q (i,some k)) (upd H q (.lst [v])) (upd (upd H q (.lst [v])) p (.dK (cq kvs k (.ref q)))):=Fr.put t1 (by simp) (fun xs z=>by rw[e1] at z;cases z);have ft:=f1.trans f2;refine⟨⟨t1,_,ae,ao (dY _ _ _) (dQ l),Gq ll,fun j=> ?_⟩,ft,(TgOk.new ok hq).put⟩;have gk:g k=[]:=by
  rcases rs k with z | ⟨q2,vs2,y1,_⟩
  · exact z.2
  · rw[eq] at y1;cases y1
 by_cases hj:j=k
 · subst hj;dsimp only;rw[aK rfl,gk];exact .inr ⟨q,[v],by rw[jw,aK rfl],pS,by rw[aM (bB pq),ae],.cons (m _ _ _ _ ft.tups r) .nil⟩
 · dsimp only;rw[aG hj,fk,jw,aG hj];rcases rs j with z | ⟨q2,vs2,y1,y2,y3,y4⟩
   · exact .inl z
   · have q2p:q2≠p:=fun z=>by rw[z,e] at y3;cases y3
     have q2q:q2≠q:=fun z=>by rw[z,hq] at y3;cases y3
     exact .inr ⟨q2,vs2,y1,by rw[jy q2q];exact y2,by rw[aM q2p,aM q2q];exact y3,zP m ft.tups y4⟩
end
def Bt(a:Addr)(H H':Hp):Prop:=∀b o,H b=some o->b≠a->H' b=some o
section
def FLs.bt{xs:List α}(m:Mo R)(b:Bt a H H')(t:Tups H H')(hT:T a=none)(h:FLs R H T i p xs):FLs R H' T i p xs:=by
 obtain⟨t0,vs,e,r⟩:=h;exact⟨t0,vs,b _ _ e (fun z=>by rw[z,hT] at t0;cases t0),zP m t r⟩
def FK.bt(b:Bt a H H')(hT:T a=none)(h:FK H T i p f n):FK H' T i p f n:=by
 obtain⟨t0,kvs,e,r⟩:=h;exact⟨t0,kvs,b _ _ e (fun z=>by rw[z,hT] at t0;cases t0),r⟩
def FT.bt(b:Bt a H H')(hT:T a=none)(h:FT H T i p f n):FT H' T i p f n:=by
 obtain⟨t0,kvs,e,r⟩:=h;exact⟨t0,kvs,b _ _ e (fun z=>by rw[z,hT] at t0;cases t0),r⟩
def FTb.bt{f:Key->List α}(m:Mo R)(b:Bt a H H')(t:Tups H H')(hT:T a=none)(h:FTb R H T i p f n):FTb R H' T i p f n:=by
 obtain⟨t0,kvs,e,l,ll,r⟩:=h;refine⟨t0,kvs,b _ _ e (fun z=>by rw[z,hT] at t0;cases t0),l,ll,fun k=> ?_⟩;rcases r k with z | ⟨q,vs,z1,z2,z3,z4⟩
 · exact .inl z
 · exact .inr ⟨q,vs,z1,z2,b _ _ z3 (fun z=>by rw[z,hT] at z2;cases z2),zP m t z4⟩
def FLs.nil{R:Hp->V->α->Prop}(t:T p=some (i,none))(e:H p=some (.lst [])):FLs R H T i p []:=⟨t,[],e,.nil⟩
def FK.nil(hf:∀k,f k=none)(t:T p=some (i,none))(e:H p=some (.dK [])):FK H T i p f n:=⟨t,[],e,fun k=>(hf k).symm,au _⟩
def FT.nil(hf:∀k,f k=none)(t:T p=some (i,none))(e:H p=some (.dT [])):FT H T i p f n:=⟨t,[],e,fun k=>(hf k).symm,au _⟩
def FTb.nil{f:Key->List α}(hf:∀k,f k=[])(t:T p=some (i,none))(e:H p=some (.dK [])):FTb R H T i p f n:=⟨t,[],e,au _,fun k=>by rw[hf];exact au _,fun k=> .inl ⟨rfl,hf k⟩⟩
end
def fS{N P:List Str}{sc:Scope}(a:sc.kind= .function:=by rfl)(b:sc.isCoroutine=false:=by rfl)(c:sc.isGenerator=false:=by rfl)(d:N.Nodup:=by decide+kernel)(e:N.take P.length=P:=by rfl)(f:∀x∈P,sc.names.lookup x=some .local\/sc.names.lookup x=some .cell:=by decide+kernel)(g:∀y∈sc.names,y.2≠ .free:=by decide+kernel):bb N P sc:=⟨a,b,c,d,e,f,g⟩
def Fun.o{P:Program}{w:World}{K:Frag}{mg:Str->Option Value}{base:Heap}{x qual:Str}{st:Stmt}{f:Addr}{fd:FuncData}{N ps:List Str}{k:Nat}{sp:Sp}(F:Fun K x qual st f fd)(S:bb N ps (aJ st))(hbody:∀(cdv:Value) (A:Around) (outer:List Env) (s:Shared) (H:Hp) (vs:List V) (Q:VK) (E:XK),Room k (A.deeper (envOfC qual (aJ st) s.heap.objs.size f cdv))->sp vs H Q E->∃t,PSs (oS eJ P w K mg base N qual (aJ st) f cdv A outer s H E).nox (du st) t/\t {nx:=fun _ H'=>Q .non H',rt:=Q} (jB N vs) H) (len:∀vs H Q E,sp vs H Q E->vs.length=ps.length:=by intro vs H Q E h;cases h;subst_vars;rfl):bK P w K mg base eJ (k+1) f fd ps sp:=F.ok S len hbody
section
def H_:Ls X .BitXor (LW fun i j=>Builtin.bitXor i j):=by
 intro pins s σ H x y v u Q I r1 r2 h;obtain⟨i,j,e1,e2,q⟩:=h;subst e1;subst e2;obtain⟨t,rfl⟩:=r1;obtain⟨t',rfl⟩:=r2;exact ixor_int ⟨.int _,H,I.tok _,⟨_,rfl⟩,q⟩
def EH:V->List V->Hp->VK->Prop:=fun x vs H Q=>∃i,x= .int i/\vs=[]/\Q (.int ((Builtin.Int.intBits i:Nat):Int)) H
def rM:J1 X "int.bit_length" EH:=by
 intro pins s σ H x xs v us Q I rx rs h;obtain⟨i,rfl,rfl,q⟩:=h;obtain⟨t,rfl⟩:=rx;cases rs;exact call_int_bit_length ⟨.int _,H,I.tok _,⟨_,rfl⟩,q⟩
end
def bn(x:Int):Builtin.bitNot x= -x - 1:=by first | rfl | (unfold Builtin.bitNot;lia)
def DW(a b:Nat):Builtin.bitAnd (a:Int) (b:Int)=((a&&&b:Nat):Int):=by
 have h1:decide (0<=(a:Int))=true:=ax (by lia);have h2:decide (0<=(b:Int))=true:=ax (by lia);unfold Builtin.bitAnd;rw[h1,h2]
 rfl
def Ge(a b:Nat):Builtin.bitOr (a:Int) (b:Int)=((a ||| b:Nat):Int):=by
 have h1:decide (0<=Builtin.bitNot (a:Int))=false:=ag (by rw[bn];lia);have h2:decide (0<=Builtin.bitNot (b:Int))=false:=ag (by rw[bn];lia);have n1:∀x:Int,Builtin.bitNot (Builtin.bitNot x)=x:=fun x=>by rw[bn,bn];lia
 unfold Builtin.bitOr Builtin.bitAnd;rw[h1,h2];show Builtin.bitNot (Builtin.bitNot (((Builtin.bitNot (Builtin.bitNot (a:Int))).toNat ||| (Builtin.bitNot (Builtin.bitNot (b:Int))).toNat:Nat):Int))=_;rw[n1,n1,n1]
 rfl
def Hq:∀a b,a&&&b=0->a ||| b=a+b:=by
 intro a
 induction a using Nat.strongRecOn with
 | ind a ih=>
   intro b h;by_cases ha:a=0
   · subst ha;simp
   have hd:a/2&&&b/2=0:=by
    have:=congrArg (· /2) h;simpa[Nat.and_div_two] using this
   have e1:=ih (a/2) (by lia) (b/2) hd;have e2:(a ||| b)/2=a/2 ||| b/2:=Nat.or_div_two
   have m1:(a&&&b).testBit 0=false:=by rw[h];simp
   have m2:(a ||| b).testBit 0=(a.testBit 0 || b.testBit 0):=rS ..;rw[fh] at m1;simp only[Nat.testBit_zero] at m1 m2;have l:a % 2<2:=MF _ (by decide);have l2:b % 2<2:=MF _ (by decide);have l3:(a ||| b) % 2<2:=MF _ (by decide);have e3:(a ||| b)/2=a/2+b/2:=e2.trans e1;have e4:(a ||| b) % 2=a % 2+b % 2:=by
    rcases kB a with p | p<;>rcases kB b with q | q<;>rw[p,q] at m1 m2⊢ <;>revert m1 m2<;>rcases kB (a ||| b) with r | r<;>rw[r]<;>decide
   lia
def Mw(m:Nat):0<m->∃j q,m=2^j * (2 * q+1):=by
 induction m using Nat.strongRecOn with
 | ind m ih=>
   intro h;by_cases p:m % 2=1
   · exact⟨0,m/2,by rw[Nat.pow_zero];lia⟩
   · obtain⟨j,q,e⟩:=ih (m/2) (by lia) (by lia);refine⟨j+1,q,?_⟩;have:m=2 * (m/2):=by lia
     rw[this,e,jY,Nat.mul_comm (2^j) 2,mU]
def Fk(j q:Nat):(2^j * (2 * q+1))&&&(2^j * (2 * q+1) - 1)=2^(j+1) * q:=by
 have hp:0<2^j:=ji (by decide);have e1:2^j * (2 * q+1) - 1=2^j * (2 * q)+(2^j - 1):=by rw[Lw];lia
 have e2:2^(j+1) * q=2^j * (2 * q):=by rw[jY,mU]
 rw[e1,e2];refine fJ fun i=> ?_;rw[fh,dz,Nat.testBit_two_pow_mul_add _ (by lia),dz];by_cases h:i<j
 · rw[ag (by lia)];simp
 · rw[aG h,ax (by lia:i≥j)];simp only[Bool.true_and];cases hk:i - j with
   | zero=>simp
   | succ k=>
     rw[Nat.testBit_succ,Nat.testBit_succ,show(2 * q+1)/2=q by lia,show 2 * q/2=q by lia,Bool.and_self]
def Fh(j q:Nat):2^j * (2 * q+1) - 2^(j+1) * q=2^j:=by
 rw[jY,Lw,mU];lia
def Dc(j q:Nat):(2^j * (2 * q+1))&&&2^j=2^j:=by
 refine fJ fun i=> ?_;rw[fh,dz,vg];by_cases h:j=i
 · subst h;simp
 · rw[ag h,hJ]
def HH(j q:Nat):(2^j * (2 * q+1)) ||| 2^j=2^j * (2 * q+1):=by
 refine fJ fun i=> ?_;rw[rS,dz,vg];by_cases h:j=i
 · subst h;simp
 · rw[ag h,IG]
noncomputable def cG(m:Nat):List Nat:=(List.range (m.log2+1)).filter m.testBit
def Bw(m t:Nat)(h:m<2^t):(List.range t).filter m.testBit=cG m:=by
 have key:∀n k,(∀i,n<=i->m.testBit i=false)->(List.range (n+k)).filter m.testBit=(List.range n).filter m.testBit:=fun n k hn=>by
  induction k with
  | zero=>rfl
  | succ k ih=>rw[<-iP,jt,kE,ih];simp[hn (n+k) (by lia)]
 have z:∀t,m<2^t->∀i,t<=i->m.testBit i=false:=fun t h i hi=>oU (ah h (jj (by decide) hi));have l:m<2^(m.log2+1):=Nat.lt_log2_self;unfold cG;rcases Nat.le_total t (m.log2+1) with c | c
 · obtain⟨k,e⟩:=gQ c;rw[e];exact(key t k (z t h)).symm
 · obtain⟨k,e⟩:=gQ c;rw[e];exact key _ k (z _ l)
def j9:i∈cG m↔m.testBit i=true:=by
 unfold cG;rw[D5,cy];refine⟨fun h=>h.2,fun h=>⟨?_,h⟩⟩;rcases fP i (m.log2+1) with c | c
 · exact c
 · rw[oU (ah Nat.lt_log2_self (jj (by decide) c))] at h;cases h
def Bx(h:0<2^t * (m/2^t)):∃t',t<=t'/\m.testBit t'=true/\(∀i,t<=i->i<t'->m.testBit i=false)/\∃q,2^t * (m/2^t)=2^t' * (2 * q+1)/\2^(t'+1) * (m/2^(t'+1))=2^(t'+1) * q:=by
 have hp:0<2^t:=ji (by decide);have hm:0<m/2^t:=Nat.pos_of_ne_zero fun z=>by rw[z] at h;simp at h
 obtain⟨j,q,e⟩:=Mw _ hm;have tb:∀i,m.testBit (t+i)=(m/2^t).testBit i:=fun i=>by rw[Nat.testBit_div_two_pow,Nat.add_comm]
 refine⟨t+j,by lia,?_,fun i h1 h2=> ?_,q,?_,?_⟩
 · rw[tb,e,dz];simp
 · obtain⟨k,rfl⟩:=gQ h1;rw[tb,e,dz,ag (by lia)];rfl
 · rw[e,Nat.pow_add,mU]
 · congr 1
   rw[iP,Nat.pow_add,<-JY,e,jY,<-JY,Nat.mul_div_cancel_left _ (ji (by decide))]
   lia
def x9{m:Nat}(h1:t<=t')(h2:m.testBit t'=true)(h3:∀i,t<=i->i<t'->m.testBit i=false):(List.range (t'+1)).filter m.testBit=(List.range t).filter m.testBit++[t']:=by
 obtain⟨k,rfl⟩:=gQ h1;have key:∀k,(∀i,t<=i->i<t+k->m.testBit i=false)->(List.range (t+k)).filter m.testBit=(List.range t).filter m.testBit:=fun k hk=>by
  induction k with
  | zero=>rfl
  | succ k ih=>rw[<-iP,jt,kE,ih fun i a b=>hk i a (by lia)];simp[hk (t+k) (by lia) (by lia)]
 rw[jt,kE,key k h3];simp[h2]
noncomputable def anot(a b:Nat):Nat:=a - (a&&&b)
def DX(a b:Nat):a&&&b<=a:=D2
def Ak(a b:Nat):Builtin.bitAnd (a:Int) (Builtin.bitNot (b:Int))=((anot a b:Nat):Int):=by
 have h1:decide (0<=(a:Int))=true:=ax (by lia);have h2:decide (0<=Builtin.bitNot (b:Int))=false:=ag (by rw[bn];lia);have n1:Builtin.bitNot (Builtin.bitNot (b:Int))=b:=by rw[bn,bn];lia
 unfold Builtin.bitAnd;rw[h1,h2];show(a:Int) - (((a:Int).toNat&&&(Builtin.bitNot (Builtin.bitNot (b:Int))).toNat:Nat):Int)=_;rw[n1];show(a:Int) - ((a&&&b:Nat):Int)=((a - (a&&&b):Nat):Int);have:=DX a b
 lia
def DV(a b:Nat):anot a b=a^^^(a&&&b):=by
 have e:(a^^^(a&&&b))&&&(a&&&b)=0:=fJ fun i=>by
  simp only[fh,D1,Nat.zero_testBit];cases a.testBit i<;>cases b.testBit i<;>rfl
 have o:(a^^^(a&&&b)) ||| (a&&&b)=a:=fJ fun i=>by
  simp only[fh,rS,D1];cases a.testBit i<;>cases b.testBit i<;>rfl
 have s:(a^^^(a&&&b))+(a&&&b)=a:=by
  rw[<-Hq _ _ e];exact o
 unfold anot
 lia
def mR(a b i:Nat):(anot a b).testBit i=(a.testBit i&& !b.testBit i):=by
 rw[DV,D1,fh];cases a.testBit i<;>cases b.testBit i<;>rfl
def DR(a i j:Nat):(a ||| 2^i).testBit j=(a.testBit j || decide (i=j)):=by rw[rS,vg]
def Fj{m:Nat}(e:m=2^j * (2 * q+1)):Builtin.bitAnd (m:Int) (-(m:Int))=((2^j:Nat):Int)/\Builtin.bitXor (m:Int) ((2^j:Nat):Int)=((2^(j+1) * q:Nat):Int):=by
 have hp:0<2^j:=ji (by decide);have mp:0<m:=by rw[e];exact Nat.mul_pos hp (by lia)
 have o1:=Fh j q;have a1:=Fk j q;rw[<-e] at o1 a1;constructor
 · have h1:decide (0<=(m:Int))=true:=ax (by lia);have h2:decide (0<= -(m:Int))=false:=ag (by lia);unfold Builtin.bitAnd;rw[h1,h2];show(m:Int) - (((m:Int).toNat&&&(Builtin.bitNot (-(m:Int))).toNat:Nat):Int)=_;rw[bn,show(-(-(m:Int)) - 1).toNat=m - 1 by lia,show(m:Int).toNat=m by lia,a1];have:2^(j+1) * q<=m:=by rw[<-a1];exact D2
   lia
 · unfold Builtin.bitXor;have x1:=Dc j q;have x2:=HH j q;rw[<-e] at x1 x2;rw[Ge,DW,x1,x2];have:2^j<=m:=by rw[<-x1];exact D2
   lia
def wW(j:Nat):Builtin.Int.intBits ((2^j:Nat):Int)=j+1:=by
 unfold Builtin.Int.intBits;have hp:0<2^j:=ji (by decide);have hz:¬ ((((2^j:Nat):Int)==0)=true):=fun z=>by
  have:=eq_of_beq z
  lia
 rw[aG hz];show(2^j).log2+1=j+1;rw[Nat.log2_two_pow]
section
variable {prog:Program}{w:World}{κ:Type}[DecidableEq κ]{knd:KeyKind prog w κ}{A:Around}{E:Value->Shared->Prop}{s:Shared}
theorem nq{d:Addr}{kvs:List (κ × Value)}{k:κ}{key dflt:Value}{Q:Value->Shared->Prop}(hkey:knd.is k key=true)(hm:s.heap.DictOf knd d kvs)(hthere:∀v,valueAt kvs k=some v->Q v {s with toks:=s.toks+1})(hnew:valueAt kvs k=none->∀h',h'.DictOf knd d (stored kvs k dflt)->Heap.SameBut d s.heap h'->Q dflt {s with heap:=h',toks:=s.toks+1})(hsz:kvs.length<=sizeLine):wpAny (model prog w) A (dictSetDefault d key dflt) Q E s:=by
 have hval:=hm.mapOf;obtain⟨o,es,ep,ho,hc,hd,hk,hp,hn⟩:=hm;have hf:∀x,findBy knd.is es x=valueAt kvs x:=fun x=>by
  rw[<-hp.find x];obtain⟨l⟩:=es;simp[findBy]
 have hes:es.size<=sizeLine:=by
  have e1:=hp.length;have e2:es.toList.length=es.size:=by simp
  lia
 unfold dictSetDefault
 try with_reducible refine cK ?_
 refine aa (knd.pyHash hkey ?_);refine aa (wpAny_dictFind_of (s:={s with toks:=s.toks+1}) hkey ho hd hk ?_);have hidx:(es.findIdx? fun e=>knd.is k e.key)=kvs.findIdx? fun kv=>decide (kv.1=k):=by
  rw[<-hp.findIdx k];obtain⟨l⟩:=es;simp
 cases hi:es.findIdx? fun e=>knd.is k e.key with
 | some i=>
   have hfk:valueAt kvs k=(es[i]?).map (·.val):=by rw[<-hf k,Mz,hi]
   refine aa (wpAny_dictEntries (s:={s with toks:=s.toks+1}) ho hd ?_);cases he:es[i]? with
   | none=>
     exfalso
     have:=Array.findIdx?_eq_some_iff_findIdx_eq.mp hi;have hlt:i<es.size:=this.1;rw[Array.getElem?_eq_getElem hlt] at he;exact nomatch he
   | some e=>
     rw[he] at hfk;exact aa (iA (aA (hthere e.val hfk)))
 | none=>
   have hfk:valueAt kvs k=none:=by rw[<-hf k,Mz,hi]
   have hnot:k∉kvs.map (·.1):=not_mem_of_findIdx_none (hidx ▸ hi);have hany:¬ (kvs.any fun kv=>decide (kv.1=k))=true:=by
    rw[nW];rintro⟨kv,hkv,he⟩;exact hnot (cc.mpr ⟨kv,hkv,ck he⟩)
   refine aa (iA (aa (wpAny_updateDictKeys (hz:=hes) (s:={s with toks:=s.toks+1}) ho hd (aA (hnew hfk _ ⟨_,_,ep+1,dZ _ ho (Obj.isFreed_of_dict (Lv hd _)),hc.mapDictKeys _,Lv hd _,hk.push hkey _,?_,?_⟩ (vi ..))))))
   · rw[stored,aG hany];have:=hp.append hkey (knd.hash k) dflt;obtain⟨l⟩:=es;simpa using this
   · rw[stored,aG hany,bC,lP];refine⟨hn,by simp,?_⟩;intro a ha b hb;simp only[bG,J2,ay] at hb;subst hb;exact fun e=>hnot (e ▸ ha)
theorem nG{d:Addr}{k:κ}{key:Value}(hkey:knd.is k key=true)(hd:(d==sysModules)=false)(dflt:Value):MeetsIn prog w (Builtin.«dict.setdefault» ⟨[.ref d,key,dflt],[]⟩) (fun _ R s=>∃kvs,s.heap.DictOf knd d kvs/\kvs.length<=sizeLine/\(∀v,valueAt kvs k=some v->R (.ok (.ret v)) {s with toks:=s.toks+1})/\(valueAt kvs k=none->∀h',h'.DictOf knd d (stored kvs k dflt)->Heap.SameBut d s.heap h'->R (.ok (.ret dflt)) {s with heap:=h',toks:=s.toks+1})):= .of_wp fun A R s ⟨kvs,hm,hz,h1,h2⟩=>by
  unfold Builtin.«dict.setdefault»;refine aa ?_;unfold Builtin.Dict.keyAndDefault;refine aa (wpAny_notOrdered_dict hm.typeIs ?_);show wpAny _ _ (pure (d,key,some dflt)) _ _ s;refine aA ?_;show wpAny _ _ (if(d==sysModules)=true then _ else(dictSetDefault d key dflt>>=_)) _ _ s;rw[aG (by rw[hd];exact aP)];exact aa (nq hkey hm (fun v hv=>aA ⟨v,rfl,h1 v hv⟩) (fun hn h' hm' hs'=>aA ⟨dflt,rfl,h2 hn h' hm' hs'⟩) hz)
end
section
def GS(td ty tx:TE):TE:=fun σ H Q=>td σ H fun x H1=>∃a,x= .ref a/\LB H1 a/\ty σ H1 fun y H2=>tx σ H2 fun z H3=>∃kvs k,H3 a=some (.dK kvs)/\y=kV k/\kvs.length<sizeLine/\(∀v,cZ kvs k=some v->Q v H3)/\(cZ kvs k=none->Q z (upd H3 a (.dK (cq kvs k z))))
def Cv(ho:PE X o td)(he:PE X e ty)(hf:PE X f tx)(m:M2 X o "setdefault" apos e f cpos):PE X (.Call (.Attribute o "setdefault" apos) [e,f] [] cpos) (GS td ty tx):=by
 intro pins s σ H Q I h;refine MM m.base m.few m.line IS D0 PySem.F.type_dict_setdefault (cX (ho pins s σ H _ I h) fun u s1 ⟨x,H1,I1,rx,a,ex,d,q1⟩=> ?_);subst ex;obtain rfl:u=Value.ref a:=rx;obtain⟨t1,t2,_⟩:=Ds I1 d;refine⟨t1,t2,?_⟩;rw[m.trees];refine hG rfl (rT (gM (cX (he pins s1 σ H1 _ I1 q1) fun iv s2 ⟨y,H2,I2,ry,q2⟩=>
  gM (cX (hf pins s2 σ H2 _ I2 q2) fun fv s3 ⟨z,H3,I3,rz,kvs,k,e3,ey,l3,qt,qn⟩=>yT ?_))))
 subst ey;obtain⟨zz,hd,vs,rel,dd⟩:=Ae I3.hok e3;have hz:vs.length<=sizeLine:=by rw[<-rel.length];exact zz
 refine JP D0 dd.typeIs PySem.F.entry_dict_setdefault (PySem.F.args_dict_setdefault_3 _ _ _) (nG (knd:=cE X.prog X.w) (mK ry) hd fv) ⟨vs,dd,hz,fun v hv=> ?_,fun hv h' dd' hs=> ?_⟩
 · have rv:=rel.val k;rw[hv] at rv;cases hk:cZ kvs k with
   | none=>rw[hk] at rv;cases rv
   | some v'=>
     rw[hk] at rv;exact⟨v',H3,I3.tok _,rv,qt v' hk⟩
 · have rv:=rel.val k;rw[hv] at rv;cases hk:cZ kvs k with
   | some v'=>rw[hk] at rv;cases rv
   | none=>
     have hl:(cq kvs k z).length<=sizeLine:=by have:=dY kvs k z;lia
     have hex:∃q,h'.get? a=some q:=let⟨q,_,_,hq,_⟩:=dd';⟨q,hq⟩
     exact⟨z,_,pK I3 (by rw[e3];exact True.intro) hs hex (yO hl hd (rel.put k rz) dd'),rz,qn hk⟩
end
section
end
structure FunD(K:Frag)(x qual:Str)(st:Stmt)(dV:Value)(f:Addr)(fd:FuncData):Prop where
 ex:∃(oc:Value) (od:Option Addr) (kV doc pm:Value) (an:Option Addr) (cdv ct:Value) (osl:Array (Option Value)),fd=fnOf x qual (eI st) (du st) (aJ st) dV kV doc pm an cdv ct/\K.lookup f=some ⟨oc,od,.func fd,osl⟩/\codeIn K cdv qual=true
 kp:keepIn K (.ref f)=true
section
def FunD.ok{K:Frag}{st:Stmt}(F:FunD K x qual st dV f fd)(S:bb N ps (aJ st))(len:∀vs H Q E,sp vs H Q E->vs.length=ps.length)(hbody:∀cdv A outer s H vs Q E,Room k (A.deeper (envOfC qual (aJ st) s.heap.objs.size f cdv))->sp vs H Q E->∃t,PSs (oS eJ P w K mg base N qual (aJ st) f cdv A outer s H E).nox (du st) t/\t {nx:=fun _ H'=>Q .non H',rt:=Q} (jB N vs) H):bK P w K mg base eJ (k+1) f fd ps sp:=by
 obtain⟨oc,od,kV,doc,pm,an,cdv,ct,osl,rfl,lk,hcd⟩:=F.ex;refine DB lk hcd S len fun A outer s H vs Q E hr hsp=> ?_;obtain⟨t,h,q⟩:=hbody cdv A outer s H vs Q E hr hsp;exact⟨t,h.nox,q⟩
def FunD.binds{K:Frag}{st:Stmt}{items:List Value}(F:FunD K x qual st (.ref T) f fd)(lT:K.lookup T=some o)(hs:o.data= .seq items.toArray n)(h:∀kV doc pm an cdv ct us,us.length+ds.length=ps.length->∃k,bindArgs (fnOf x qual (eI st) (du st) (aJ st) (.ref T) kV doc pm an cdv ct) ⟨us,[]⟩=seqItems? (.ref T)>>=k/\k (some items.toArray)=pure (ps.zip (us++ds))):Binds K fd ps ds:=by
 obtain⟨oc,od,kV,doc,pm,an,cdv,ct,osl,rfl,lk,hcd⟩:=F.ex;intro s us KX hl;obtain⟨k,h1,h2⟩:=h kV doc pm an cdv ct us (by rw[<-ak];exact hl);exact BindsTo.of_defaults rfl (KX _ _ lT) hs h1 h2
def Ab{K:Frag}{st:Stmt}{kV:Value}(l:K.lookup f=some ⟨oc,od,.func (fnOf x qual (eI st) (du st) (aJ st) dV kV doc pm an cdv ct),osl⟩)(c:codeIn K cdv qual=true)(k:keepIn K (.ref f)=true):FunD K x qual st dV f (fnOf x qual (eI st) (du st) (aJ st) dV kV doc pm an cdv ct):=⟨⟨oc,od,kV,doc,pm,an,cdv,ct,osl,rfl,l,c⟩,k⟩
end
section
end
structure Cl(P:Program)(w:World)(K:Frag)(mg:Str->Option Value)(base:Heap)(k:Nat)(x:Str)(ps:List Str)(sp:Sp):Prop where
 ex:∃f fd,bK P w K mg base eJ k f fd ps sp/\Binds K fd ps []/\keepIn K (.ref f)=true/\mg x=some (.ref f)
structure Ml(P:Program)(w:World)(K:Frag)(mg:Str->Option Value)(base:Heap)(C:Addr)(k:Nat)(x:Str)(ps:List Str)(sp:Sp):Prop where
 ex:∃f fd,bK P w K mg base eJ k f fd ps sp/\Binds K fd ps []/\D3 K C x f
structure Il(P:Program)(w:World)(K:Frag)(mg:Str->Option Value)(base:Heap)(C:Addr)(k:Nat)(x:Str)(ps:List Str)(sp:Sp):Prop where
 ex:∃f fd,bK P w K mg base eJ k f fd ps sp/\Binds K fd ps []/\Mk K C f/\mg x=some (.ref C)
structure Dl(P:Program)(w:World)(K:Frag)(mg:Str->Option Value)(base:Heap)(k:Nat)(x:Str)(ps:List Str)(ds:List Value)(sp:Sp):Prop where
 ex:∃f fd,bK P w K mg base eJ k f fd ps sp/\Binds K fd ps ds/\keepIn K (.ref f)=true/\mg x=some (.ref f)
structure Fq(K:Frag)(mg:Str->Option Value)(x:Str)(st:Stmt)(ps:List Str):Prop where
 ex:∃f fd,Fun K x x st f fd/\Binds K fd ps []/\mg x=some (.ref f)
structure Mq(K:Frag)(C:Addr)(x q:Str)(st:Stmt)(ps:List Str):Prop where
 ex:∃f fd,Fun K x q st f fd/\Binds K fd ps []/\D3 K C x f
structure Dq(K:Frag)(mg:Str->Option Value)(x:Str)(st:Stmt)(ps:List Str)(ds:List Value):Prop where
 ex:∃f fd T,FunD K x x st (.ref T) f fd/\Binds K fd ps ds/\mg x=some (.ref f)
section
def Fq.cl{K:Frag}{st:Stmt}(A:Fq K mg x st ps)(h:∀{f fd},Fun K x x st f fd->bK P w K mg base eJ k f fd ps sp):Cl P w K mg base k x ps sp:=by
 obtain⟨f,fd,F,b,m⟩:=A.ex;exact⟨f,fd,h F,b,F.kp,m⟩
def Mq.ml{K:Frag}{st:Stmt}(A:Mq K C x q st ps)(h:∀{f fd},Fun K x q st f fd->bK P w K mg base eJ k f fd ps sp):Ml P w K mg base C k x ps sp:=by
 obtain⟨f,fd,F,b,m⟩:=A.ex;exact⟨f,fd,h F,b,m⟩
def Mq.il{P:Program}{w:World}{K:Frag}{mg:Str->Option Value}{base:Heap}{C:Addr}{k:Nat}{x q y:Str}{st:Stmt}{ps:List Str}{sp:Sp}(A:Mq K C x q st ps)(mk:makesIn K C=true)(kc:keepIn K (.ref C)=true)(mc:mg y=some (.ref C))(h:∀{f fd},Fun K x q st f fd->bK P w K mg base eJ k f fd ps sp)(hx:x="__init__":=by rfl):Il P w K mg base C k y ps sp:=by
 subst hx;obtain⟨f,fd,F,b,m⟩:=A.ex;exact⟨f,fd,h F,b,⟨mk,m.at_,m.fn,kc⟩,mc⟩
def Dq.dl{K:Frag}{st:Stmt}(A:Dq K mg x st ps ds)(h:∀{f fd T},FunD K x x st (.ref T) f fd->bK P w K mg base eJ k f fd ps sp):Dl P w K mg base k x ps ds sp:=by
 obtain⟨f,fd,T,F,b,m⟩:=A.ex;exact⟨f,fd,h F,b,F.kp,m⟩
end
section
def eU{X:Cx}{j k:Nat}{x:Str}{ps:List Str}{sp:Sp}{e:Expr}{es:List Expr}{t:TA}{p pos:Pos}(c:Cl X.prog X.w X.K X.mg X.base k x ps sp)(hr:Room j X.A)(ha:PA X (e::es) t)(hj:k<=j:=by first | decide | lia)(hg:Gl X x:=by rfl)(hdb:(x==("__debug__":Str))=false:=by decide)(he:starEach (e::es) X.env=(false,eval e X.env)::starEach es X.env:=by rfl)(hpl:(backTo pos (starEach es X.env)).any (·.1)=false:=by rfl):PE X (.Call (.Name x p) (e::es) [] pos) (pT sp [] E0 t):=by
 obtain⟨f,fd,F,b,k,m⟩:=c.ex;exact iZ F (hr.mono hj) hg m k b .nil sQ ha hdb he hpl
def gj{X:Cx}{j k:Nat}{x:Str}{ps:List Str}{sp:Sp}{e o:Expr}{es:List Expr}{t:TA}{ta:TE}{pos apos:Pos}{C:Addr}{pl:Sem Bool}(ho:PE X o ta)(c:Cls X.K C)(m:Ml X.prog X.w X.K X.mg X.base C k x ps sp)(hr:Room j X.A)(ha:PA X (e::es) t)(hj:k<=j:=by first | decide | lia)(he:starEach (e::es) X.env=(false,eval e X.env)::starEach es X.env:=by rfl)(hpl:(backTo pos (starEach es X.env)).any (·.1)=false:=by rfl)(ht:eval (.Call (.Attribute o x apos) (e::es) [] pos) X.env=(do
 let ov<-eval o X.env
 standAt apos.atName
 let(f,first)<-holding [ov] (getMethod ov x pl)
 callWith pos f first (backTo pos (starEach (e::es) X.env)) (backToKw pos (keywordEach [] X.env))):=by rfl):
 PE X (.Call (.Attribute o x apos) (e::es) [] pos) (yY C x sp [] E0 ta t):=by
 obtain⟨f,fd,F,b,m⟩:=m.ex;exact ES ho c m F (hr.mono hj) b .nil sQ ha he hpl ht
def Mr{X:Cx}{j k:Nat}{x:Str}{ps:List Str}{sp:Sp}{e:Expr}{es:List Expr}{t:TA}{p pos:Pos}{C:Addr}(c:Il X.prog X.w X.K X.mg X.base C k x ps sp)(hr:Room j X.A)(ha:PA X (e::es) t)(hj:k+1<=j:=by first | decide | lia)(hg:Gl X x:=by rfl)(hdb:(x==("__debug__":Str))=false:=by decide)(he:starEach (e::es) X.env=(false,eval e X.env)::starEach es X.env:=by rfl)(hpl:(backTo pos (starEach es X.env)).any (·.1)=false:=by rfl):PE X (.Call (.Name x p) (e::es) [] pos) (yZ C sp [] E0 t):=by
 obtain⟨f,fd,F,b,m,y⟩:=c.ex;exact ET m F (hr.mono hj) hg y b .nil sQ ha hdb he hpl
def K8{X:Cx}{j k:Nat}{x:Str}{ps:List Str}{sp:Sp}{p pos:Pos}{C:Addr}(c:Il X.prog X.w X.K X.mg X.base C k x ps sp)(hr:Room j X.A)(hj:k+1<=j:=by first | decide | lia)(hg:Gl X x:=by rfl)(hdb:(x==("__debug__":Str))=false:=by decide):PE X (.Call (.Name x p) [] [] pos) (yZ C sp [] E0 iE):=by
 obtain⟨f,fd,F,b,m,y⟩:=c.ex;exact Cu m F (hr.mono hj) hg y b .nil sQ hdb
def pdl{X:Cx}{j k:Nat}{x:Str}{ps:List Str}{sp:Sp}{e:Expr}{es:List Expr}{t:TA}{p pos:Pos}{ds:List Value}{dvs:List V}(c:Dl X.prog X.w X.K X.mg X.base k x ps ds sp)(hd:Vals dvs ds)(hr:Room j X.A)(ha:PA X (e::es) t)(hj:k<=j:=by first | decide | lia)(hg:Gl X x:=by rfl)(hdb:(x==("__debug__":Str))=false:=by decide)(he:starEach (e::es) X.env=(false,eval e X.env)::starEach es X.env:=by rfl)(hpl:(backTo pos (starEach es X.env)).any (·.1)=false:=by rfl):PE X (.Call (.Name x p) (e::es) [] pos) (pT sp dvs E0 t):=by
 obtain⟨f,fd,F,b,k,m⟩:=c.ex;exact iZ F (hr.mono hj) hg m k b hd sQ ha hdb he hpl
def K7{X:Cx}{j k:Nat}{x:Str}{ps:List Str}{sp:Sp}{o:Expr}{ta:TE}{pos apos:Pos}{C:Addr}{pl:Sem Bool}(ho:PE X o ta)(c:Cls X.K C)(m:Ml X.prog X.w X.K X.mg X.base C k x ps sp)(hr:Room j X.A)(hj:k<=j:=by first | decide | lia)(ht:eval (.Call (.Attribute o x apos) [] [] pos) X.env=(do
 let ov<-eval o X.env
 standAt apos.atName
 let(f,first)<-holding [ov] (getMethod ov x pl)
 callWith pos f first (backTo pos (starEach [] X.env)) (backToKw pos (keywordEach [] X.env))):=by rfl):
 PE X (.Call (.Attribute o x apos) [] [] pos) (yY C x sp [] E0 ta iE):=by
 obtain⟨f,fd,F,b,m⟩:=m.ex;exact Cs ho c m F (hr.mono hj) b .nil sQ ht
def eV{X:Cx}{x:Str}{e:Expr}{te:TE}{pos:Pos}(i:Nat)(hN:X.N.Nodup){pos':Pos}(he:PE X e te)(hi:X.N[i]? =some x:=by rfl)(hx:IA X.env.scope x:=by first | exact .inl rfl | exact .inr rfl)(hs:swapsWith e (some (.Name x pos')) pos.line X.env=pure false:=by rfl)(hf:X.fn x=true\/X.env.scope.names.lookup x=some .local:=by first | exact .inl rfl | exact .inr rfl | assumption):PS X (.Assign [.Name x pos'] e pos) (Em te (gm i)):=Cn hN hi hx he hs hf
def fw{X:Cx}{x:Str}{pos:Pos}(i:Nat)(hN:X.N.Nodup)(hi:X.N[i]? =some x:=by rfl)(hx:IA X.env.scope x:=by first | exact .inl rfl | exact .inr rfl)(hf:X.fn x=true\/X.env.scope.names.lookup x=some .local:=by first | exact .inl rfl | exact .inr rfl | assumption):PG X (.Name x pos) (gm i):=pD hN hi hx hf
def mw{X:Cx}{pos:Pos}{tg iter:Expr}{body:List Stmt}{wi:TI}{g:TG}{tb:TS}(hi:PI X tg iter wi)(hg:PG X tg g)(hb:PSs X body tb)(hp:PassesOwn (model X.prog X.w) X.A X.env X.xe:=by exact pL)(hc:X.calm=true:=by rfl)(hs:∀x,foldedSetIterable iter X.env x=pure x:=by intro _;rfl):PS X (.For tg iter body [] pos) (GR wi g tb):=Hf hp hc hi hg hb hs
def jM{X:Cx}{a b:Expr}{ta tb:TE}{pos:Pos}{r:R2}(hr:J7 X r)(ha:PE X a ta)(hb:PE X b tb)(hs:Am b:=by exact fun _ _=>rfl):PE X (.Subscript a b pos) (BP r ta tb):=kK hr ha hb hs
def eS(ha:PE X a ta):PE X (.Subscript a (.Constant (.int z) q p) pos) (BP (Cd X.K) ta (tC (.int z))):=kK jb ha aD fun _ _=>rfl
def EO(ha:PE X a ta):PE X (.Subscript a (.Constant (.int z) q p) pos) (BP (Jw X.K) ta (tC (.int z))):=kK bS ha aD fun _ _=>rfl
def fu{X:Cx}{a b:Expr}{ta tb:TE}{pos:Pos}{op:CmpOp}{r:R2}(ho:ju X (compareOp op) r)(ha:PE X a ta)(hb:PE X b tb)(hm:behindInMarks op b=false:=by first | exact uB _ | rfl):PT X (.Compare a [op] [b] pos) (FZ (BP r ta tb)):=uf ho ha hb hm
def K9{X:Cx}{a b:Expr}{ta tb:TE}{pos:Pos}{op:CmpOp}{r:R2}(ho:ju X (compareOp op) r)(ha:PE X a ta)(hb:PE X b tb)(hm:behindInMarks op b=false:=by first | exact uB _ | rfl):PE X (.Compare a [op] [b] pos) (BP r ta tb):=EV ho ha hb hm
def eE{X:Cx}{a:Expr}{ta:TE}(ha:PE X a ta)(h:d6 a=true:=by rfl):PA X [a] (df ta iE):=bR ha bO h
def dW{X:Cx}{a b:Expr}{ta tb:TE}(ha:PE X a ta)(hb:PE X b tb)(h:d6 a=true:=by rfl)(h2:d6 b=true:=by rfl):PA X [a,b] (df ta (df tb iE)):=bR ha (eE hb h2) h
def eY{X:Cx}{a b c:Expr}{ta tb tc:TE}(ha:PE X a ta)(hb:PE X b tb)(hc:PE X c tc)(h:d6 a=true:=by rfl)(h2:d6 b=true:=by rfl)(h3:d6 c=true:=by rfl):PA X [a,b,c] (df ta (df tb (df tc iE))):=bR ha (dW hb hc h2 h3) h
def jo{X:Cx}{a b c d:Expr}{ta tb tc td:TE}(ha:PE X a ta)(hb:PE X b tb)(hc:PE X c tc)(hd:PE X d td)(h:d6 a=true:=by rfl)(h2:d6 b=true:=by rfl)(h3:d6 c=true:=by rfl)(h4:d6 d=true:=by rfl):PA X [a,b,c,d] (df ta (df tb (df tc (df td iE)))):=bR ha (eY hb hc hd h2 h3 h4) h
def BB{X:Cx}{a o:Expr}{ta tb:TE}{pos apos:Pos}(ho:PE X o ta)(ha:PE X a tb)(hs:d6 a=true:=by rfl)(hbase:attributeBase o "append" X.env (eval o X.env)=eval o X.env:=by rfl)(hfew:((backTo pos (starEach [a] X.env)).all (fun x=> !x.1)&&(backToKw pos (keywordEach [] X.env)).all (fun x=>x.1.isSome)&&decide ([a].length+([]:List Keyword).length+(if([]:List Keyword).isEmpty then 0 else 1)<30))=true:=by rfl) (hline:(apos.endLine==pos.line)=true:=by rfl):PE X (.Call (.Attribute o "append" apos) [a] [] pos) (LJ X.K "list" zE ta (df tb iE)):=Gb nR PySem.F.slot_list_append PySem.F.type_list_append sW ho (eE ha hs) hbase hfew hline (ph hs) rfl
def xx{X:Cx}{a:Expr}{ta:TE}{p pos:Pos}(m:X.mg "len"=none)(ha:PE X a ta)(hs:d6 a=true:=by rfl)(hg:Gl X "len":=by rfl):PE X (.Call (.Name "len" p) [a] [] pos) (Kb (fun xs H Q=>∃p ys,xs=[V.ref p]/\(SqL X.K H p ys\/SqT X.K H p ys)/\Q (V.int ↑ys.length) H) (df ta iE)):=dN mO hg m FN (eE ha hs) (by decide) (by decide) (ph hs) rfl
def Hg{X:Cx}{x:Str}{a:Expr}{ta:TE}{p pos:Pos}{n:String}(m:X.mg "isinstance"=none)(m2:X.mg x=none)(hb:bootBuiltins x=some (.type n))(ha:PE X a ta)(hs:d6 a=true:=by rfl)(hg:Gl X "isinstance":=by rfl)(hg2:Gl X x:=by rfl)(hn:x≠"__name__":=by decide)(hd:(x==("__debug__":Str))=false:=by decide){q:Pos}:PE X (.Call (.Name "isinstance" p) [a,.Name x q] [] pos) (Kb (fun xs H Q=>∃x n t b,xs=[x,V.ty n]/\TyOf X.K H x t/\kitOne X.K t (Value.type n)=some b/\Q (V.bl b) H) (df ta (df (tC (.ty n)) iE))):=dN oK hg m bP (dW ha (uo hg2 m2 hb rfl hn hd) hs) (by decide) (by decide) (ph hs) rfl
def rA{X:Cx}{e o:Expr}{td:TE}{pos apos:Pos}{f:Expr}{ty tx:TE}(hu:X.A.units+1<cLine)(ho:PE X o td)(he:PE X e ty)(hf:PE X f tx)(m:M2 X o "get" apos e f pos:=by exact⟨rfl,rfl,rfl,rfl⟩):PE X (.Call (.Attribute o "get" apos) [e,f] [] pos) (tH td ty tx):=Cw hu ho he hf m
def BA{X:Cx}{o:Expr}{td:TE}{pos:Pos}{i:Expr}{ty:TE}(hu:X.A.units+1<cLine)(ho:PE X o td)(hi:PE X i ty)(hs:FO i:=by exact fun _ _=>rfl):PE X (.Subscript o i pos) (vD td ty):=EU hu ho hi hs
def cM{X:Cx}{e:Expr}{ta:TE}{pos:Pos}{f:Str}(he:PE X e ta)(hb:attributeBase e f X.env (eval e X.env)=eval e X.env:=by rfl):PE X (.Attribute e f pos) (xF X.K ta f):=Hk he hb
end
end L2
namespace K24
open PySem L2
abbrev yb:List Str:=["_law_cell_here","_law_k"]
abbrev rJ:List Str:=["_law_cell_here","_law_many"]
abbrev ud:List Str:=["_law_cell_here","_law_names_here","_law_ties","_law_deep"]
abbrev EL:List Str:=["_law_cell_here","_law_names_here","_law_ties","_law_things_here"]
abbrev EK:List Str:=["_law_saying_here"]
abbrev EJ:List Str:=["_law_sayings","_law_cell_here"]
abbrev EI:List Str:=["_law_sayings","_law_most"]
abbrev Cg:List Str:=["_law_script","_law_k"]
abbrev Cf:List Str:=["_law_script"]
abbrev k8:List Str:=["_law_way","_law_pairs","_law_question"]
abbrev we:List Str:=["at","other","is_first"]
abbrev zO:List Str:=["facts","aim"]
abbrev zN:List Str:=["kind","kind"]
abbrev oz:List Str:=["kind","kinds","ties"]
abbrev gh:List Str:=["kind"]
abbrev wc:List Str:=["pairs","aim"]
abbrev zM:List Str:=["pairs","further"]
abbrev Ga:List Str:=["pairs","question","aim","facts"]
abbrev jK:List Str:=["pairs","question"]
abbrev zL:List Str:=["pairs","starts","further","steps"]
abbrev kJ:List Str:=["question"]
abbrev ow:List Str:=["self","at","x","kind"]
abbrev ou:List Str:=["self","at","x","tie","y"]
abbrev zK:List Str:=["self","at","y","kind"]
abbrev mv:List Str:=["self","kind"]
abbrev wb:List Str:=["self","lore"]
abbrev zJ:List Str:=["self","number","saying"]
abbrev zI:List Str:=["self","pairs","starts"]
abbrev zH:List Str:=["self","steps"]
abbrev mq:List Str:=["self","x","kind","rule","froms","number"]
abbrev zG:List Str:=["self","x","kind","step"]
abbrev qr:List Str:=["self","x","tie","y","rule","froms","number"]
abbrev zF:List Str:=["self","x","tie","y","step"]
abbrev eN:List Str:=["self","x"]
abbrev mo:List Str:=["self"]
abbrev qql35:List Str:=["sign"]
abbrev qp:List Str:=["table","key","entry"]
abbrev kI:List Str:=["text"]
noncomputable def gg(i:Nat):Stmt:=PySem.Challenge.pw_kinwords_k24_goals_and_what_is_not_asked.main.body.getD i (.Pass ⟨0,0,0,0⟩)
noncomputable abbrev xY:Stmt:=gg 14
noncomputable abbrev v7:Stmt:=gg 15
noncomputable abbrev tV:Stmt:=gg 16
noncomputable abbrev xT:Stmt:=gg 19
noncomputable abbrev Hc:Stmt:=gg 20
noncomputable abbrev xQ:Stmt:=gg 21
noncomputable abbrev zB:Stmt:=gg 22
noncomputable abbrev tR:Stmt:=gg 24
noncomputable abbrev qj:Stmt:=gg 25
noncomputable abbrev KS:Stmt:=gg 33
noncomputable abbrev xX:Stmt:=di (gg 34) 0
noncomputable abbrev iW:Stmt:=di (gg 34) 1
noncomputable abbrev j5:Stmt:=di (gg 34) 2
noncomputable abbrev tY:Stmt:=di (gg 34) 3
noncomputable abbrev tX:Stmt:=di (gg 34) 4
noncomputable abbrev tW:Stmt:=gg 35
noncomputable abbrev ub:Stmt:=gg 37
noncomputable abbrev qo:Stmt:=gg 38
noncomputable abbrev xU:Stmt:=di (gg 39) 0
noncomputable abbrev ql:Stmt:=di (gg 39) 1
noncomputable abbrev nv:Stmt:=di (gg 39) 2
noncomputable abbrev qk:Stmt:=di (gg 39) 3
noncomputable abbrev nu:Stmt:=di (gg 39) 4
noncomputable abbrev k6:Stmt:=di (gg 39) 5
noncomputable abbrev kZ:Stmt:=di (gg 39) 6
noncomputable abbrev tU:Stmt:=di (gg 39) 7
noncomputable abbrev xV:Stmt:=di (gg 39) 8
noncomputable abbrev k7:Stmt:=di (gg 39) 9
noncomputable abbrev jH:Stmt:=di (gg 39) 10
noncomputable abbrev nA:Stmt:=di (gg 39) 11
noncomputable abbrev ny:Stmt:=di (gg 39) 12
noncomputable abbrev iV:Stmt:=di (gg 39) 13
noncomputable abbrev xR:Stmt:=gg 40
noncomputable abbrev v_:Stmt:=gg 42
noncomputable abbrev kY:Stmt:=gg 43
noncomputable abbrev jG:Stmt:=gg 44
noncomputable abbrev tZ:Stmt:=gg 45
noncomputable abbrev jI:Stmt:=gg 46
noncomputable abbrev uc:Stmt:=gg 47
noncomputable abbrev Ca:Stmt:=gg 49
noncomputable abbrev B8:Stmt:=gg 50
noncomputable abbrev xW:Stmt:=gg 51
noncomputable abbrev tQ:Stmt:=gg 52
noncomputable abbrev zC:Stmt:=gg 53
noncomputable abbrev tS:Stmt:=gg 54
noncomputable abbrev xS:Stmt:=gg 55
noncomputable abbrev Hb:Stmt:=gg 56
noncomputable abbrev nB:Stmt:=gg 57
noncomputable abbrev xZ:Stmt:=gg 58
noncomputable abbrev qm:Stmt:=gg 59
noncomputable abbrev t_:Stmt:=gg 60
noncomputable abbrev Ha:Stmt:=gg 61
def bD(h:n<=1000):n<=sizeLine:=fe (cm h)
def dh(h:Same H H')(hp:H p=none):Same H (upd H' p o):=fun b u q=>by
 rw[aM (bI q hp)];exact h b u q
def fE(h:Same H H')(hp:H' p=none):H p=none:=by
 cases c:H p with
 | none=>rfl
 | some oo=>rw[h _ _ c] at hp;cases hp
inductive Fa where
 | is (x k:Kd)
 | has (x:Kd) (t:Str) (y:Kd)
 deriving DecidableEq
noncomputable def Fa.x:Fa->Kd
 | .is x _=>x
 | .has x _ _=>x
noncomputable def Fa.tx:Fa->Tx
 | .is x k=> .tup [.str "is",x.tx,k.tx]
 | .has x t y=> .tup [.str "has",x.tx,.str t,y.tx]
def IsF(H:Hp):Fa->V->Prop
 | .is x k,v=>∃(p:Addr) (a b:V),v= .ref p/\H p=some (.tup [.str "is",a,b])/\IsK H x a/\IsK H k b
 | .has x t y,v=>∃(p:Addr) (a b:V),v= .ref p/\H p=some (.tup [.str "has",a,.str t,b])/\IsK H x a/\IsK H y b
theorem IsF.mono(t:Tups H H'):∀{f:Fa} {v:V},IsF H f v->IsF H' f v
 | .is _ _,_,⟨p,a,b,e,h,ha,hb⟩=>⟨p,a,b,e,t _ _ h,ha.mono t,hb.mono t⟩
 | .has _ _ _,_,⟨p,a,b,e,h,ha,hb⟩=>⟨p,a,b,e,t _ _ h,ha.mono t,hb.mono t⟩
theorem IsF.xa:∀{f:Fa} {v:V},IsF H f v->Xa H f.tx v
 | .is _ _,_,⟨p,a,b,e,h,ha,hb⟩=>⟨p,_,e,h,_,_,rfl,rfl,_,_,rfl,ha.xa,_,_,rfl,hb.xa,rfl⟩
 | .has _ _ _,_,⟨p,a,b,e,h,ha,hb⟩=>⟨p,_,e,h,_,_,rfl,rfl,_,_,rfl,ha.xa,_,_,rfl,rfl,_,_,rfl,hb.xa,rfl⟩
theorem Fa.tx_inj:∀{a b:Fa},a.tx=b.tx->a=b
 | .is _ _,.is _ _,h=>by
   injection h with h
   injection h with _ h
   injection h with h1 h
   injection h with h2 _
   rw[Kd.tx_inj h1,Kd.tx_inj h2]
 | .is _ _,.has _ _ _,h=>by
   injection h with h
   injection h with _ h
   injection h with _ h
   injection h with _ h
   cases h
 | .has _ _ _,.is _ _,h=>by
   injection h with h
   injection h with _ h
   injection h with _ h
   injection h with _ h
   cases h
 | .has _ _ _,.has _ _ _,h=>by
   injection h with h
   injection h with _ h
   injection h with h1 h
   injection h with h2 h
   injection h with h3 _
   injection h2 with h2
   rw[Kd.tx_inj h1,h2,Kd.tx_inj h3]
def Fa.lo(n:Nat):Fa->Prop
 | .is x k=>x.dep<=n/\k.dep<=n
 | .has x _ y=>x.dep<=n/\y.dep<=n
theorem Fa.dp:∀{f:Fa},f.lo n->f.tx.dp<=n+1
 | .is x k,h=>by
   have h1:x.dep<=n/\k.dep<=n:=h;show 1+max 0 (max x.tx.dp (max k.tx.dp 0))<=n+1;rw[Kd.tx_dp,Kd.tx_dp];lia
 | .has x t y,h=>by
   have h1:x.dep<=n/\y.dep<=n:=h;show 1+max 0 (max x.tx.dp (max 0 (max y.tx.dp 0)))<=n+1;rw[Kd.tx_dp,Kd.tx_dp];lia
def Fa.dp60{f:Fa}(h:f.lo 25):f.tx.dp<=60:=ao (Fa.dp h) (by decide)
inductive Ru where
 | self | all | thing | tied | every | first | second | some | within | no | both | tie | none | makes | oth
 deriving DecidableEq
noncomputable def vo:Ru->Str
 | .self=>"self" | .all=>"all" | .thing=>"thing" | .tied=>"tied" | .every=>"every" | .first=>"first" | .second=>"second" | .some=>"some"
 | .within=>"within" | .no=>"no" | .both=>"both" | .tie=>"tie" | .none=>"none" | .makes=>"makes" | .oth=>""
inductive Sy where
 | every (a b:Kd) | no (a b:Kd) | thing (x:Str) (k:Kd) | tied (x t y:Str) | within (r s:Str) | makes (r s t:Str)
 deriving DecidableEq
noncomputable def Sy.hd:Sy->Ru
 | .every _ _=> .every | .no _ _=> .no | .thing _ _=> .thing | .tied _ _ _=> .tied | .within _ _=> .within | .makes _ _ _=> .makes
noncomputable def Sy.parts:Sy->List Kd
 | .every a b=>[a,b] | .no a b=>[a,b] | .thing x k=>[.nm x,k] | .tied x t y=>[.nm x,.nm t,.nm y] | .within r s=>[.nm r,.nm s] | .makes r s t=>[.nm r,.nm s,.nm t]
def IsSy(H:Hp)(s:Sy)(v:V):Prop:=∃p xs,v= .ref p/\H p=some (.tup (.str (vo s.hd)::xs))/\KL H xs s.parts
def IsSy.mono{H H':Hp}(t:Tups H H'){s:Sy}{v:V}(h:IsSy H s v):IsSy H' s v:=by
 obtain⟨p,xs,e,h1,h2⟩:=h;exact⟨p,xs,e,t _ _ h1,KL.mono t h2⟩
noncomputable def Sy.tx(s:Sy):Tx:= .tup (.str (vo s.hd)::s.parts.map Kd.tx)
theorem KL.xas:∀{xs:List V} {ks:List Kd},KL H xs ks->Xas H (ks.map Kd.tx) xs
 | _,_,.nil=>rfl
 | _,_,.cons r t=>⟨_,_,rfl,r.xa,KL.xas t⟩
def IsSy.xa(h:IsSy H s v):Xa H s.tx v:=by
 obtain⟨p,xs,e,h1,h2⟩:=h;exact⟨p,_,e,h1,_,_,rfl,rfl,KL.xas h2⟩
def Sy.lo(n:Nat)(s:Sy):Prop:=∀k∈s.parts,k.dep<=n
structure DZ where
 f:Fa
 r:Str
 fr:List Int
 n:Option Int
noncomputable def wD:Option Int->V
 | none=> .non
 | some i=> .int i
def J9(L:List Addr)(H:Hp)(s:DZ)(v:V):Prop:=∃p pf vf,v= .ref p/\H p=some (.tup [vf,.str s.r,.ref pf,wD s.n])/\IsF H s.f vf/\H pf=some (.lst (s.fr.map V.int))/\pf∉L
def LY(L:List Addr)(H:Hp):List V->List DZ->Prop:=Paired fun v s=>J9 L H s v
theorem bN:∀{xs:List α} {ks:List β} {i:Nat} {v:α},Paired R xs ks->xs[i]? =some v->∃k,ks[i]? =some k/\R v k
 | _,_,_,_,.nil,e=>by simp at e
 | _,_,0,_,.cons r _,e=>by simp at e;subst e;exact⟨_,rfl,r⟩
 | _,_,i+1,v,.cons _ t,e=>by
   obtain⟨u,h1,h2⟩:=bN (i:=i) (v:=v) t (by simpa using e);exact⟨u,by simpa using h1,h2⟩
def IsPr(H:Hp)(q:Int × Sy)(v:V):Prop:=∃p vs,v= .ref p/\H p=some (.tup [.int q.1,vs])/\IsSy H q.2 vs
def IsPr.mono{H H':Hp}(t:Tups H H'){q:Int × Sy}{v:V}(h:IsPr H q v):IsPr H' q v:=by
 obtain⟨p,vs,e,h1,h2⟩:=h;exact⟨p,vs,e,t _ _ h1,h2.mono t⟩
def PrL(H:Hp):List V->List (Int × Sy)->Prop:=Paired fun v q=>IsPr H q v
def PrL.mono{H H':Hp}(t:Tups H H'){xs:List V}{qs:List (Int × Sy)}(h:PrL H xs qs):PrL H' xs qs:=Paired.imp' (fun _ _ q=>IsPr.mono t q) h
noncomputable def IK(q:Int × Sy):Tx:= .tup [.int q.1,q.2.tx]
def IsPr.xa(h:IsPr H q v):Xa H (IK q) v:=by
 obtain⟨p,vs,e,h1,h2⟩:=h;exact⟨p,_,e,h1,_,_,rfl,rfl,_,_,rfl,h2.xa,rfl⟩
theorem PrL.xas:∀{xs:List V} {qs:List (Int × Sy)},PrL H xs qs->Xas H (qs.map IK) xs
 | _,_,.nil=>rfl
 | _,_,.cons r t=>⟨_,_,rfl,r.xa,PrL.xas t⟩
def FL(H:Hp):List V->List Fa->Prop:=Paired fun v f=>IsF H f v
def FL.mono{H H':Hp}(t:Tups H H'){xs:List V}{fs:List Fa}(h:FL H xs fs):FL H' xs fs:=Paired.imp' (fun _ _ q=>IsF.mono t q) h
def eF(h:H p=some (.tup xs))(e:rB xs i=some v)(q:Q v H):ya K H Q p i:=⟨xs,v,SqT.of h,e,q⟩
noncomputable def Kd.tieL:Kd->List Str
 | .nm _=>[]
 | .two a b=>Kd.tieL a++Kd.tieL b
 | .som r c=>r::Kd.tieL c
def fX(K:Frag):kitOne K (.type "str") (.type "str")=some true:=rfl
def dj(K:Frag):kitOne K (.type "tuple") (.type "str")=some false:=by
 first | rfl | decide | with_unfolding_all rfl
inductive sG(vs:List V)(H:Hp)(Q:VK):Prop
 | mk:∀v k,(vs=[v])->(IsK H k v)->(∀p xs,H p=none->KL H xs k.inner->Q (.ref p) (upd H p (.lst xs)))->sG vs H Q
def pj:Sp:=fun vs H Q _=>sG vs H Q
section
def ED:bb gh gh (aJ xY):=fS
def c_:=fun {a b c d}=> @ip a b c d
def aZ:=fun {a b c d e}=> @e_ a b c d e
def bg:=fun {a b c}=> @fT a b c
def CP(F:Fun K "inner_kinds" "inner_kinds" xY f fd)(mi:mg "isinstance"=none)(ms:mg "str"=none):bK P w K mg base eJ 1 f fd gh pj:=by
 refine F.o ED fun cdv A outer s H vs Q E hr h=> ?_;obtain⟨v,k,rfl,hk,q⟩:=h;refine⟨_,aZ (bH (fN (Hg mi ms fz aC)) (bg (c_ (bE bO))) br) (aZ (bH (fu dv (eS aC) aN) (bg (c_ (bE (dW (eS aC) (eS aC))))) br) (bg (c_ (bE (eE (eS aC)))))),?_⟩;cases k with
 | nm x=>
   obtain rfl:v= .str x:=hk;exact⟨_,_,_,true,rfl,TyOf.str x,fX K,⟨au _,fun p hp=>q p [] hp .nil⟩⟩
 | two a b=>
   obtain⟨p,x,y,rfl,hp,ha,hb⟩:=id hk;refine⟨_,_,_,false,rfl,TyOf.tup hp,dj K,?_⟩;refine⟨_,_,SqT.of hp,aX (j:=0) rfl,?_⟩;refine⟨_,_,SqT.of hp,aX (j:=1) rfl,_,_,SqT.of hp,aX (j:=2) rfl,bD (by show 2<=1000;decide),fun r hr'=> ?_⟩;exact q r [x,y] hr' (.cons ha (.cons hb .nil))
 | som r c=>
   obtain⟨p,y,rfl,hp,hc⟩:=id hk;refine⟨_,_,_,false,rfl,TyOf.tup hp,dj K,?_⟩;refine⟨_,_,SqT.of hp,aX (j:=0) rfl,?_⟩;refine⟨_,_,SqT.of hp,aX (j:=2) rfl,bD (by show 1<=1000;decide),fun t ht=> ?_⟩;exact q t [y] ht (.cons hc .nil)
end
end K24
namespace L2
open PySem PySem.Spec PyProof.Rows
def eP(hc:X.calm=true):jZ X (.type "list") (fun xs H Q=>∃(a:Addr) (kvs:List (Key × V)) (ss:List Str),xs=[.ref a]/\H a=some (.dK kvs)/\kvs.map (·.1)=ss.map Sum.inr/\∀p,H p=none->Q (.ref p) (upd H p (.lst (ss.map V.str)))):=by
 intro pins s σ H xs us Q I r h;obtain⟨a,kvs,ss,rfl,ha,hk,q⟩:=h;obtain⟨u,rfl,ru⟩:=r.one;cases ru;obtain⟨z,hd,vs,rel,o,es,ep,ho,hx,hdat,hks,hps,hnd⟩:=Ae I.hok ha;have da:s.heap.DictAt (cE X.prog X.w) a vs ep:=⟨o,es,ho,hx,hdat,hks,hps,hnd⟩;have hlen:=rel.length;refine PySem.W.kdl_call (PySem.W.kdl_dict (knd:=cE X.prog X.w) (kvs:=vs) (ep:=ep) hd) (I.ok.hd hc) da (by lia) fun h' tk acc c' hk' hl hit=> ?_;have hacc:acc.toList.length=vs.length:=by rw[jv];exact hit.1
 have hv:Vals (ss.map V.str) acc.toList:=rW (P:=X.prog) (w:=X.w) rel hk hacc fun j v hj=>hit.2 j v (by simpa using hj);have hsl:(ss.map V.str).length<=sizeLine:=by rw[hv.length,hacc];lia
 exact⟨.ref s.heap.objs.size,_,I.laid (t':=tk) hk' (aq _) (show ObjOk X.prog X.w _ _ _ (.lst (ss.map V.str)) from⟨hsl,acc.toList,c',hv,hl⟩),rfl,q _ (I.hok.fresh (aq _))⟩
end L2
namespace K24
open PySem L2
noncomputable def lI(A:List Str)(x:Str):List Str:=if x∈A then A else A++[x]
noncomputable def dP(A:List Str)(xs:List Str):List Str:=xs.foldl lI A
def rk(A xs ys:List Str):dP A (xs++ys)=dP (dP A xs) ys:=by simp[dP]
noncomputable def Dn(A:List Str):List (Key × V):=A.map fun x=>(Sum.inr x,V.bl true)
def nX(A:List Str):(Dn A).length=A.length:=by simp[Dn]
def mX(A:List Str):(Dn A).map (·.1)=A.map Sum.inr:=by simp[Dn]
def IE(A:List Str)(x:Str):(Dn A).any (fun kv=>decide (kv.1=Sum.inr x))=decide (x∈A):=by
 induction A with
 | nil=>rfl
 | cons a A ih=>
   show(decide ((Sum.inr a:Key)=Sum.inr x) || (Dn A).any (fun kv=>decide (kv.1=Sum.inr x)))=_;rw[ih];by_cases e:a=x
   · subst e;simp
   · have h1:¬ (Sum.inr a:Key)=Sum.inr x:=fun z=>e (Lr z);rw[ag h1,Bool.false_or]
     congr 1
     simp[bB e]
def vj(A:List Str)(x:Str):cq (Dn A) (.inr x) (.bl true)=Dn (lI A x):=by
 unfold cq lI;rw[IE];by_cases e:x∈A
 · rw[aK (ax e),aK e];unfold Dn;rw[oX]
   congr 1
   funext y
   show(if(Sum.inr y:Key)=Sum.inr x then((Sum.inr y:Key),V.bl true) else(Sum.inr y,V.bl true))=_
   split<;>rfl
 · rw[aG (by rw[ag e];decide),aG e];simp[Dn]
def rm(A:List Str)(x:Str):(lI A x).length<=A.length+1:=by
 unfold lI
 split
 · lia
 · simp
theorem gZ:∀xs A,(dP A xs).length<=A.length+xs.length
 | [],A=>by simp[dP]
 | x::xs,A=>by
   have:=gZ xs (lI A x);have h2:=rm A x;show(dP (lI A x) xs).length<=A.length+(xs.length+1)
   lia
def But2(a b:Addr)(H H':Hp):Prop:=∀c o,c≠a->c≠b->H c=some o->H' c=some o
def But2.refl(a b:Addr)(H:Hp):But2 a b H H:=fun c o _ _ h=>h
def But2.trans(x:But2 a b H H1)(y:But2 a b H1 H2):But2 a b H H2:=fun c o h1 h2 h=>y c o h1 h2 (x c o h1 h2 h)
def Same.but2(x:Same H H1):But2 a b H H1:=fun c o _ _ h=>x c o h
def Ip:But2 a b H (upd H a o):=fun c u h1 _ h=>by rw[aM h1];exact h
def Io:But2 a b H (upd H b o):=fun c u _ h2 h=>by rw[aM h2];exact h
def But2.tups(q:But2 a b H H1)(ha:H a=some (.dK x))(hb:H b=some (.dK y)):Tups H H1:=fun c xs h=>by
 refine q c _ (fun e=> ?_) (fun e=> ?_) h
 · rw[e,ha] at h;cases h
 · rw[e,hb] at h;cases h
noncomputable def szs(l:List Kd):Nat:=(l.map Kd.sz).sum
def zc(a b:List Kd):szs (a++b)=szs a+szs b:=by simp[szs]
def Ar(k:Kd):k.sz=1+szs k.inner:=by
 cases k<;>simp[szs,Kd.inner,Kd.sz]<;>lia
def BV(l:List Kd)(i:Nat):szs (l.take i)<=szs l:=by
 have:szs l=szs (l.take i)+szs (l.drop i):=by rw[<-zc,rp]
 lia
def yL:([V.str "anything",V.str "nothing"]:List V).all jS=true:=by decide+kernel
def DnE(H:Hp)(a:Addr)(m:Nat):Prop:=∃A:List Str,H a=some (.dK (Dn A))/\A.length<=m
def DnE.le(h:DnE H a m)(l:m<=n):DnE H a n:=by obtain⟨A,e,z⟩:=h;exact⟨A,e,ao z l⟩
def DnE.put(x:Str)(l:A.length<=m):DnE (upd H a (.dK (cq (Dn A) (.inr x) (.bl true)))) a (m+1):=⟨lI A x,by rw[ae,vj],by have:=rm A x;lia⟩
inductive vI(n:Nat)(vs:List V)(H:Hp)(Q:VK):Prop
 | mk:∀v k a b m,(vs=[v,.ref a,.ref b])->(IsK H k v)->(a≠b)->DnE H a m->DnE H b m->(m+k.sz<=900)->(k.dep<n)->(∀H',But2 a b H H'->DnE H' a (m+k.sz)->DnE H' b (m+k.sz)->Q .non H')->vI n vs H Q
def kR(n:Nat):Sp:=fun vs H Q _=>vI n vs H Q
section
def scNote:bb ["kind","kinds","ties","part"] oz (aJ v7):=fS
def jn:=fun {a b c d e}=> @ug a b c d e
def E1(hk0:1<=k0)(F:Fun K "note_names" "note_names" v7 f fd)(Gno:Cl P w K mg base k0 "note_names" oz (kR n))(Gi:Cl P w K mg base 1 "inner_kinds" gh pj)(mW:mg "WHOLES"=some (.ref aW))(hW:∀H,SqT K H aW [.str "anything",.str "nothing"])(mi:mg "isinstance"=none)(ms:mg "str"=none):bK P w K mg base eJ (k0+1) f fd oz (kR (n+1)):=by
 refine F.o scNote fun cdv A outer s H vs Q E hr h=> ?_;obtain⟨v,k,a,b,m,rfl,hk,hab,hA,hB,hm,hd,q⟩:=h;have kGno:=F.kp;have hu:(A.deeper (PyProof.Rows.envOfC "note_names" (aJ v7) s.heap.objs.size f cdv)).units+1<cLine:=by have:=hr.un;lia
 refine⟨_,aZ (bH (fN (Hg mi ms fz aC)) (jn (bH (fu my aC (gF (v:= .ref aW) rfl mW rfl)) (bg (dC hu bu aC fD rfl)) br) (bg (j6))) br) (jn (bH (fu dv (eS aC) aN) (bg (dC hu bx (eS aC) fD rfl)) br) (bg (mw (bY (eU Gi hr (eE aC))) (fw 3 scNote.nd) (bg (bh (eU Gno hr (eY bZ bu bx))))))),?_⟩;obtain⟨A',ha,lA⟩:=id hA;obtain⟨B,hb,lB⟩:=id hB;have fin:∀(H1:Hp),(∀x,k≠ .nm x)->But2 a b H H1->DnE H1 a (m+1)->DnE H1 b (m+1)->
  GR (kL K (pT pj [] E0 (df (ng 0) iE))) (gm 3) (F2 (pT (kR n) [] E0 (df (ng 3) (df (ng 1) (df (ng 2) iE))))) {nx:=fun x H'=>Q V.non H',rt:=Q} [some v,some (.ref a),some (.ref b),none] H1:=by
  intro H1 hnm q1 e1 e2;have t1:Tups H H1:=q1.tups ha hb;refine⟨v,k,rfl,IsK.mono t1 hk,fun p xs hp hL=>⟨⟨_,SqL.of ae⟩,?_⟩⟩;have sp:=af hp (.lst xs);have lL:=KL.len hL;have hsz:=Ar k;obtain⟨A1,a1,la1⟩:=id e1;obtain⟨B1,b1,lb1⟩:=id e2;have pa:p≠a:=fun z=>by rw[z,a1] at hp;cases hp
  have pb:p≠b:=fun z=>by rw[z,b1] at hp;cases hp
  refine cf (xs:=xs) (fun i σ H3=>∃o3:Option V,σ=[some v,some (.ref a),some (.ref b),o3]/\But2 a b (upd H1 p (.lst xs)) H3/\DnE H3 a (m+1+szs (k.inner.take i))/\DnE H3 b (m+1+szs (k.inner.take i))) ⟨none,rfl,But2.refl _ _ _,⟨A1,sp _ _ a1,la1⟩,⟨B1,sp _ _ b1,lb1⟩⟩ ?_ ?_ ?_
  · rintro i σ H3 hi ⟨o3,rfl,q3,_⟩;exact SqL.of (q3 _ _ pa pb ae)
  · rintro i x σ H3 hx ⟨o3,rfl,q3,ea,eb⟩;obtain⟨kk,hk2,ik⟩:=KL.get hL hx;have hkm:kk∈k.inner:=av hk2;have t3:Tups (upd H1 p (.lst xs)) H3:=q3.tups (sp _ _ a1) (sp _ _ b1);have h0:szs (k.inner.take (i+1))=szs (k.inner.take i)+kk.sz:=by rw[bF,hk2,zc];simp[szs]
    have h1:=BV k.inner (i+1);have hdep:kk.dep<k.dep:=by
     cases k with
     | nm x=>exact absurd rfl (hnm x)
     | two c d=>
       simp only[Kd.inner,aL,dq,cj] at hkm;rcases hkm with rfl | rfl<;>simp only[Kd.dep]<;>lia
     | som r c=>
       simp only[Kd.inner,aL,dq,cj] at hkm;subst hkm;simp only[Kd.dep];lia
    refine⟨x,kk,a,b,_,rfl,IsK.mono (sp.tups.trans t3) ik,hab,ea,eb,by lia,by lia,fun H4 q4 ea4 eb4=> ?_⟩;exact⟨_,rfl,q3.trans q4,by rw[h0,<-iP];exact ea4,by rw[h0,<-iP];exact eb4⟩
  · rintro σ H3 ⟨o3,rfl,q3,ea,eb⟩;rw[lL,a_] at ea eb;exact q H3 (q1.trans ((Same.but2 sp).trans q3)) (ea.le (by lia)) (eb.le (by lia))
 cases k with
 | nm x=>
   obtain rfl:v= .str x:=hk;refine⟨_,_,_,true,rfl,TyOf.str x,fX K,?_⟩;refine⟨fun σ' H'=>But2 a b H H'/\DnE H' a (m+1)/\DnE H' b m,?_,fun σ' H' ⟨q1,e1,e2⟩=>q H' q1 e1 (e2.le (by lia))⟩;refine⟨aW,_,rfl,.inr (hW _),rfl,yL,gJ (fun _=> ?_) (fun _=> ?_)⟩
   · exact⟨_,DPut.k (k:=Sum.inr x) ha (cm (by rw[nX];lia)),Ip,.put x lA,B,by rw[aM (bB hab)];exact hb,lB⟩
   · exact⟨But2.refl _ _ _,hA.le (by lia),hB⟩
 | two c d=>
   obtain⟨p,x,y,rfl,hp,hc,hd'⟩:=id hk;refine⟨_,_,_,false,rfl,TyOf.tup hp,dj K,?_⟩;refine⟨fun σ' H'=>σ'=[some (.ref p),some (.ref a),some (.ref b),none]/\H'=H,?_,?_⟩
   · exact eF hp rfl ⟨rfl,rfl⟩
   · rintro σ' H' ⟨rfl,rfl⟩;exact fin H' (fun x z=>by cases z) (But2.refl _ _ _) (hA.le (by lia)) (hB.le (by lia))
 | som r c=>
   obtain⟨p,y,rfl,hp,hc⟩:=id hk;refine⟨_,_,_,false,rfl,TyOf.tup hp,dj K,?_⟩;refine⟨fun σ' H'=>σ'=[some (.ref p),some (.ref a),some (.ref b),none]/\But2 a b H H'/\DnE H' a (m+1)/\DnE H' b (m+1),?_,?_⟩
   · refine eF hp rfl (eF hp rfl ?_);exact⟨_,DPut.k (k:=Sum.inr r) hb (cm (by rw[nX];lia)),rfl,Io,⟨A',by rw[aM hab];exact ha,by lia⟩,.put r lB⟩
   · rintro σ' H' ⟨rfl,q1,e1,e2⟩;exact fin H' (fun x z=>by cases z) q1 e1 e2
def AQ:bK P w K mg base eJ 1 f fd oz (kR 0):=by
 have no:∀vs H Q E,¬ kR 0 vs H Q E:=fun vs H Q E h=>by
  obtain⟨v,k,a,b,m,_,_,_,_,_,_,h,_⟩:=h
  lia
 exact⟨fun vs H Q E h=>absurd h (no vs H Q E),fun A outer s H args us vs Q E _ _ _ _ h=>absurd h (no vs H Q E)⟩
theorem wG(A:Fq K mg "note_names" v7 oz)(Gi:Cl P w K mg base 1 "inner_kinds" gh pj)(mW:mg "WHOLES"=some (.ref aW))(hW:∀H,SqT K H aW [.str "anything",.str "nothing"])(mi:mg "isinstance"=none)(ms:mg "str"=none):∀n:Nat,Cl P w K mg base (n+1) "note_names" oz (kR n)
 | 0=>A.cl fun _=>AQ
 | n+1=>A.cl fun F=>E1 (by lia) F (wG A Gi mW hW mi ms n) Gi mW hW mi ms
end
structure Sg where
 form:Str
 ps:List (Str × Kd)
noncomputable def je:List (Str × List Str):=[("every",zN),("no",zN),("thing",["thing","kind"]),("tied",["thing","tie","thing"]),("within",["tie","tie"]),("makes",["tie","tie","tie"])]
def Iv(p:Str × Kd):Prop:=(p.1="kind"/\p.2.sz<=60)\/((p.1="tie"\/p.1="thing")/\∃x,p.2= .nm x)
structure Sg.Ok(S:Sg):Prop where
 fo:(S.form,S.ps.map (·.1))∈je
 po:∀p∈S.ps,Iv p
def L8(H:Hp)(S:Sg)(v:V):Prop:=∃p xs,v= .ref p/\H p=some (.tup (.str S.form::xs))/\KL H xs (S.ps.map (·.2))
noncomputable def pG(p:Str × Kd):List Str:=if p.1="thing" then(match p.2 with | .nm x=>[x] | _=>[]) else []
noncomputable def jq(S:Sg):List Str:=dP [] ((S.ps.map pG).flatten)
def DM(x:V)(xs:List V):rP (x::xs) (some 1) none=xs:=by
 have h1:HT.sIx (x::xs).length 0 (some ((1:Nat):Int))=1:=by rw[HT.sIx_nat];simp only[bj];lia
 have h2:HT.sIx (x::xs).length (x::xs).length none=(x::xs).length:=rfl;unfold rP;rw[show(some 1:Option Int)=some ((1:Nat):Int) from rfl,h1,h2];simp
def B9(x:V)(xs:List V):¬ (HT.sIx (x::xs).length 0 (some 1)=0/\HT.sIx (x::xs).length (x::xs).length none=(x::xs).length):=by
 have h1:HT.sIx (x::xs).length 0 (some ((1:Nat):Int))=1:=by rw[HT.sIx_nat];simp only[bj];lia
 rw[show(some 1:Option Int)=some ((1:Nat):Int) from rfl,h1]
 lia
theorem mC:∀k:Kd,k.nt<k.sz
 | .nm _=>by simp[Kd.nt,Kd.sz]
 | .two a b=>by have:=mC a;have:=mC b;simp only[Kd.nt,Kd.sz];lia
 | .som _ c=>by have:=mC c;simp only[Kd.nt,Kd.sz];lia
def parts_len{l:List (Str × Kd)}{f:Str × Kd->List Str}(h:∀p∈l,(f p).length<=60):((l.map f).flatten).length<=60 * l.length:=by
 induction l with
 | nil=>simp
 | cons p l ih=>
   have h1:=h p (by simp);have h2:=ih fun q hq=>h q (aH _ hq);simp only[bG,List.flatten_cons,ak,bj]
   lia
def Hm(p:Str × Kd):(pG p).length<=60:=by
 unfold pG
 split
 · split<;>simp
 · simp
def Bh(h:(f,ss)∈je):ss.length<=3:=by
 simp only[je,aL,dq,cj,Prod.mk.injEq] at h;rcases h with⟨_,rfl⟩ | ⟨_,rfl⟩ | ⟨_,rfl⟩ | ⟨_,rfl⟩ | ⟨_,rfl⟩ | ⟨_,rfl⟩<;>simp
inductive sC(vs:List V)(H:Hp)(Q:VK):Prop
 | mk:∀v S,(vs=[v])->(L8 H S v)->(S.Ok)->(∀q a b c H',Same H H'->H' q=some (.tup [.ref a,.ref b,.ref c])->H' c=some (.lst ((jq S).map V.str))->H c=none->Q (.ref q) H')->sC vs H Q
def zp:Sp:=fun vs H Q _=>sC vs H Q
section
def scNamed:bb ["saying","kinds","ties","things","sort","part"] ["saying"] (aJ tV):=fS
def bL:=fun {a b c d e}=> @yf a b c d e
def CM(F:Fun K "named" "named" tV f fd)(Gno:Cl P w K mg base 61 "note_names" oz (kR 60))(mF0:mg "FORMS"=some (.ref aF))(hF:∀fo ss,(fo,ss)∈je->∃kvs a,tw K P w aF kvs/\cZ kvs (.inr fo)=some (.ref a)/\∀H,SqT K H a (ss.map V.str))(mz:mg "zip"=none)(mls:mg "list"=none):bK P w K mg base eJ 62 f fd ["saying"] zp:=by
 refine F.o scNamed fun cdv A outer s H vs Q E hr h=> ?_;obtain⟨v,S,rfl,hv,hS,q⟩:=h;have hu:(A.deeper (PyProof.Rows.envOfC "named" (aJ tV) s.heap.objs.size f cdv)).units+1<cLine:=by have:=hr.un;lia
 refine⟨_,aZ (eV 1 scNamed.nd cU) (aZ (eV 2 scNamed.nd cU) (aZ (eV 3 scNamed.nd cU) (jn (mw (zR rfl mz (dW (zS (gF (v:= .ref aF) rfl mF0 rfl) (eS aC) (fun _ _=>rfl)) (fb tO aC (fC aD) gE))) (eO rfl (bz (fw 4 scNamed.nd) (bz (fw 5 scNamed.nd) dD))) (bg (bH (fu dv cL aN) (bg (bh (eU Gno hr (eY dJ bu bx)))) (bg (bH (fu dv cL aN) (bg (dC hu bx dJ fD rfl)) (bg (dC hu bZ dJ fD rfl))))))) (bg (c_ (bL (eY (dM (eP rfl) rfl mls bQ (eE bu)) (dM (eP rfl) rfl mls bQ (eE bx)) (dM (eP rfl) rfl mls bQ (eE bZ))))))))),?_⟩;obtain⟨pv,xs,rfl,hpv,hL⟩:=hv;obtain⟨kvs,aT,hkd,hval,hT⟩:=hF _ _ hS.fo;have lL:=KL.len hL;rw[aw] at lL;have l3:=Bh hS.fo;rw[aw] at l3;refine fun a ha=>fun b hb=>fun c hc=> ?_;have ab:a≠b:=bI ae hb;have hb0:H b=none:=by rw[aM (bB ab)] at hb;exact hb
 have bc:b≠c:=bI ae hc;have ac:a≠c:=fun z=>by rw[<-z,aM ab,ae] at hc;cases hc
 have hc0:H c=none:=by rw[aM (bB bc),aM (bB ac)] at hc;exact hc
 have s3:Same H (upd (upd (upd H a (.dK [])) b (.dK [])) c (.dK [])):=dh (dh (af ha _) hb0) hc0;have ea0:(upd (upd (upd H a (.dK [])) b (.dK [])) c (.dK [])) a=some (.dK (Dn [])):=by rw[aM ac,aM ab];exact ae
 have eb0:(upd (upd (upd H a (.dK [])) b (.dK [])) c (.dK [])) b=some (.dK (Dn [])):=by rw[aM bc];exact ae
 have ec0:(upd (upd (upd H a (.dK [])) b (.dK [])) c (.dK [])) c=some (.dK (Dn [])):=ae;generalize upd (upd (upd H a (.dK [])) b (.dK [])) c (.dK [])=H3 at s3 ea0 eb0 ec0⊢;refine⟨fun σ' H'=>∃o4 o5:Option V,σ'=[some (.ref pv),some (.ref a),some (.ref b),some (.ref c),o4,o5]/\Same H H'/\DnE H' a 180/\DnE H' b 180/\H' c=some (.dK (Dn (jq S))),?_,?_⟩
 · refine⟨_,_,SqT.of (s3 _ _ hpv),aX (j:=0) rfl,aF,kvs,.inr S.form,.ref aT,rfl,rfl,hkd,hval,1,rfl,pv,_,rfl,SqT.of (s3 _ _ hpv),B9 _ _,fun pt hpt=> ?_⟩;rw[DM];have spt:=af hpt (.tup xs);refine⟨aT,pt,rfl,⟨_,hT _⟩,⟨_,SqT.of ae⟩,?_⟩;have npa:pt≠a:=fun z=>by rw[z,ea0] at hpt;cases hpt
   have npb:pt≠b:=fun z=>by rw[z,eb0] at hpt;cases hpt
   have npc:pt≠c:=fun z=>by rw[z,ec0] at hpt;cases hpt
   refine w9 (xs:=(S.ps.map (·.1)).map V.str) (ys:=xs) (by rw[aw,aw];lia) (fun i σ H4=>∃o4 o5:Option V,σ=[some (.ref pv),some (.ref a),some (.ref b),some (.ref c),o4,o5]/\Same H H4/\H4 pt=some (.tup xs)/\DnE H4 a (60 * i)/\DnE H4 b (60 * i)/\H4 c=some (.dK (Dn (dP [] (((S.ps.take i).map pG).flatten))))) ⟨none,none,rfl,s3.trans spt,ae,⟨[],spt _ _ ea0,aq _⟩,⟨[],spt _ _ eb0,aq _⟩,by rw[List.take_zero];exact spt _ _ ec0⟩ ?_ ?_ ?_
   · rintro i σ H4 hi ⟨o4,o5,rfl,_,e,_⟩;exact⟨hT _,SqT.of e⟩
   · rintro i x y σ H4 T hx hy ⟨o4,o5,rfl,s4,e4,⟨A4,ea,la⟩,⟨B4,eb,lb⟩,ec⟩ hTn;obtain⟨k',hk1,ik⟩:=KL.get hL hy;rw[aV] at hk1;obtain⟨p,hp,rfl⟩:=b_.mp hk1;rw[aV,aV,hp] at hx;simp only[gu,lO] at hx;subst hx;have hpo:=hS.po p (av hp);have sT:=af hTn (.tup [.str p.1,y]);have ik4:=IsK.mono (s4.trans sT).tups ik;have il:i<S.ps.length:=(bp.mp hp).1;have lc:=gZ (((S.ps.take i).map pG).flatten) [];have lc2:=parts_len (l:=S.ps.take i) (f:=pG) fun p' h'=>Hm p';rw[eh] at lc;rw[cS] at lc2;have stp:dP [] (((S.ps.take (i+1)).map pG).flatten)=dP (dP [] (((S.ps.take i).map pG).flatten)) (pG p):=by
      rw[bF,hp,bC,L5,rk];simp
     rw[stp];refine⟨_,SqT.of ae,rfl,?_⟩;refine(gJ (fun c1=> ?_) (fun c1=> ?_))
     · have e1:p.1="kind":=by
        have:=ck c1
        injection this
       have hsz:p.2.sz<=60:=by
        rcases hpo with⟨_,h⟩ | ⟨h | h,_⟩
        · exact h
        · rw[h] at e1;exact absurd e1 (by decide+kernel)
        · rw[h] at e1;exact absurd e1 (by decide+kernel)
       have hdp:p.2.dep<60:=by
        have h1:=Kd.dep_le_nt p.2;have h2:p.2.nt<p.2.sz:=mC p.2
        lia
       refine⟨y,p.2,a,b,60 * i,rfl,ik4,ab,⟨A4,sT _ _ ea,la⟩,⟨B4,sT _ _ eb,lb⟩,by lia,hdp,fun H5 q5 ea5 eb5=> ?_⟩;refine⟨_,_,rfl,fun z o hz=> ?_,q5 _ _ npa npb (sT _ _ e4),ea5.le (by lia),eb5.le (by lia),?_⟩
       · exact q5 z o (fun e=>by rw[e,ha] at hz;cases hz) (fun e=>by rw[e,hb0] at hz;cases hz) ((s4.trans sT) _ _ hz)
       · rw[show pG p=[] by unfold pG;rw[aG (by rw[e1];decide+kernel)]];exact q5 _ _ (bB ac) (bB bc) (sT _ _ ec)
     · have n1:p.1≠"kind":=fun z=>c1 (by rw[z];exact ax rfl);rcases hpo with⟨h,_⟩ | ⟨hso,x,hx⟩
       · exact absurd h n1
       rw[hx] at ik4;obtain rfl:y= .str x:=ik4;refine(gJ (fun c2=> ?_) (fun c2=> ?_))
       · have e2:p.1="tie":=by
          have:=ck c2
          injection this
         refine⟨_,DPut.k (k:=Sum.inr x) (sT _ _ eb) (cm (by rw[nX];lia)),_,_,rfl,dh (s4.trans sT) hb0,by rw[aM npb];exact sT _ _ e4,⟨A4,by rw[aM ab];exact sT _ _ ea,by lia⟩,(DnE.put x lb).le (by lia),?_⟩;rw[aM (bB bc),show pG p=[] by unfold pG;rw[aG (by rw[e2];decide+kernel)]];exact sT _ _ ec
       · have n2:p.1≠"tie":=fun z=>c2 (by rw[z];exact ax rfl);refine⟨_,DPut.k (k:=Sum.inr x) (sT _ _ ec) (cm (by rw[nX];lia)),_,_,rfl,dh (s4.trans sT) hc0,by rw[aM npc];exact sT _ _ e4,⟨A4,by rw[aM ac];exact sT _ _ ea,by lia⟩,⟨B4,by rw[aM bc];exact sT _ _ eb,by lia⟩,?_⟩;rw[ae,vj,show pG p=[x] by unfold pG;rw[aK (hso.resolve_left n2),hx]];rfl
   · rintro σ H4 ⟨o4,o5,rfl,s4,e4,ea,eb,ec⟩;rw[aw,aw] at ea eb ec;rw[a_] at ec;exact⟨o4,o5,rfl,s4,ea.le (by lia),eb.le (by lia),ec⟩
 · rintro σ' H4 ⟨o4,o5,rfl,s4,⟨A4,ea,la⟩,⟨B4,eb,lb⟩,ec⟩;refine⟨a,_,_,rfl,ea,mX _,fun l1 h1=> ?_⟩;have t1:=af h1 (.lst (A4.map V.str));refine⟨b,_,_,rfl,t1 _ _ eb,mX _,fun l2 h2=> ?_⟩;have t2:=t1.trans (af h2 (.lst (B4.map V.str)));refine⟨c,_,_,rfl,t2 _ _ ec,mX _,fun l3 h3=>⟨bD (by show 3<=1000;decide),fun qq hq=> ?_⟩⟩;have t3:=af h3 (.lst ((jq S).map V.str));have t4:=af hq (.tup [.ref l1,.ref l2,.ref l3]);exact q qq l1 l2 l3 _ ((s4.trans t2).trans (t3.trans t4)) ae (t4 _ _ ae) (fE (s4.trans t2) h3)
end
noncomputable def dI(c:Nat):Bool:=decide (97<=c/\c<=122)
noncomputable def jV(c:Nat):Bool:=decide (65<=c/\c<=90)
noncomputable def qQ(z:Str):Bool:=decide (1<=z.length)&&decide (z.length<=12)
noncomputable def eM(z:Str):Bool:=qQ z&&(match z.cps.toList with | []=>false | c::r=>jV c&&r.all dI)
def uJ(c d:Nat):(!decide ([d]<[c]))=decide (c<=d):=by
 have h:([d]<[c])↔d<c:=by
  simp[List.cons_lt_cons_iff]
 by_cases q:d<c
 · rw[ax (h.mpr q),ag (by lia)];rfl
 · rw[ag (fun z=>q (h.mp z)),ax (by lia)];rfl
inductive sv(vs:List V)(H:Hp)(Q:VK):Prop
 | mk:∀c:Nat,(vs=[.str ⟨#[c]⟩])->(Q (.bl (dI c)) H)->sv vs H Q
def zj:Sp:=fun vs H Q _=>sv vs H Q
inductive zA(vs:List V)(H:Hp)(Q:VK):Prop
 | mk:∀z:Str,(vs=[.str z])->(z.length<=1000)->(∀H',Same H H'->Q (.bl (z.cps.toList.all dI)) H')->zA vs H Q
def F7:Sp:=fun vs H Q _=>zA vs H Q
inductive sj(vs:List V)(H:Hp)(Q:VK):Prop
 | mk:∀z:Str,(vs=[.str z])->(z.length<=1000)->(∀H',Same H H'->Q (.bl (eM z)) H')->sj vs H Q
def zg:Sp:=fun vs H Q _=>sj vs H Q
section
def Ez:bb qql35 qql35 (aJ xT):=fS
def CI(F:Fun K "is_small" "is_small" xT f fd):bK P w K mg base eJ 1 f fd qql35 zj:=by
 refine F.o Ez fun cdv A outer s H vs Q E hr h=> ?_;obtain⟨c,rfl,q⟩:=h;refine⟨_,fT (ip (qA j8 j8 aN aC aN)),?_⟩;refine⟨_,_,rfl,rfl,_,rfl,?_⟩;have e1:(!decide (([c]:List Nat)<[97]))=decide (97<=c):=uJ 97 c;have e2:(!decide (([122]:List Nat)<[c]))=decide (c<=122):=uJ c 122;show if(!decide (([c]:List Nat)<[97]))=true then _ else _
 rw[e1];refine gJ (fun h=> ?_) (fun h=> ?_)
 · refine⟨_,_,rfl,rfl,?_⟩;show Q (.bl (!decide (([122]:List Nat)<[c]))) H;rw[e2];have h':97<=c:=ck h;have:dI c=decide (c<=122):=by unfold dI;rw[Bl];lia
   rw[<-this];exact q
 · have h':¬ 97<=c:=fun z=>h (ax z);have:dI c=false:=by unfold dI;rw[IR];lia
   rw[<-this];exact q
def Mt:(((qql35:List Str)++[]):List Str).Nodup:=by decide+kernel
def Js:bb kI kI (aJ Hc):=fS
def Hy(F:Fun K "all_small" "all_small" Hc f fd)(G:Cl P w K mg base 1 "is_small" qql35 zj)(ma:mg "all"=none):bK P w K mg base eJ 2 f fd kI F7:=by
 refine F.o Js fun cdv A outer s H vs Q E hr h=> ?_;obtain⟨z,rfl,hz,q⟩:=h;refine⟨_,fT (ip (dN (Bv rfl) rfl ma PyProof.Rows.boot_all (cB (pE qql35 [] [] rfl (Hh aC) (fun _ _ _=>pD (i:=0) Mt rfl (Or.inl rfl)) (fun _ _ _=>iY) (fun _ _ _=>eU G hr (cB aC bO))) bO))),?_⟩;refine⟨z,rfl,fun D hD=> ?_⟩;have hsz:z.cps.size=z.length:=rfl;refine qY z.cps.size (fun i σ H'=>(∃o,σ=[o])/\H'=upd H D (.lst (((z.cps.toList.take i).map dI).map V.bl))) ⟨⟨_,rfl⟩,rfl⟩ ?_ ?_
 · rintro σ H' ⟨_,rfl⟩;refine⟨rfl,D,(z.cps.toList.map dI),rfl,SqL.of ?_,?_⟩
   · rw[ae,oW (by simp)]
   · have e:(z.cps.toList.map dI).all id=z.cps.toList.all dI:=by rw[List.all_map];rfl
     rw[e];exact q _ (af hD _)
 · rintro i σ H' hi ⟨⟨o,rfl⟩,rfl⟩;refine⟨hi,?_⟩;rintro x H1 ⟨rfl,c,hc,rfl⟩;refine⟨c,rfl,_,ae,?_,⟨_,rfl⟩,?_⟩
   · rw[aw,aw,cS];exact cm (by lia)
   · rw[yW];have hc':z.cps.toList[i]? =some c:=by simpa using hc
     rw[bF,hc',bC,bC]
     rfl
def Mm(z:Str):(Txt.slice z (some 1) none).cps.toList=z.cps.toList.drop 1:=by
 rw[gN];have hx:z.cps.toList.length=z.length:=by simp[Str.length]
 have e:HT.sIx z.length 0 (some 1)=min 1 z.length:=HT.sIx_nat z.length 0 1;have e2:HT.sIx z.length z.length none=z.length:=rfl;rw[e,e2];rcases xu z.length with h | h
 · have:z.cps.toList=[]:=BE (by lia);rw[this];simp
 · have:min 1 z.length=1:=by lia
   rw[this,oW (by rw[iM];lia)]
def Ey:bb kI kI (aJ xQ):=fS
def CF(F:Fun K "is_thing" "is_thing" xQ f fd)(G:Cl P w K mg base 2 "all_small" kI F7)(ml:mg "len"=none)(mM:mg "MOST_SIGNS"=some (.int 12 tk)):bK P w K mg base eJ 3 f fd kI zg:=by
 refine F.o Ey fun cdv A outer s H vs Q E hr h=> ?_;obtain⟨z,rfl,hz,q⟩:=h;refine⟨_,fT (ip (qB (qA Gg Gg aD (dN uZ rfl ml FN (cB aC bO)) (gF (v:= .int 12) rfl mM ⟨_,rfl⟩)) (qB (qA j8 j8 aN (kK uO aC aD (fun _ _=>rfl)) aN) (uk (eU G hr (cB (fb qi aC (fC aD) gE) bO)))))),?_⟩;have hzl:z.length<=sizeLine:=fe (cm hz);have hx:z.cps.toList.length=z.length:=by simp[Str.length]
 refine⟨z,rfl,hzl,_,rfl,?_⟩;have e1:decide ((1:Int)<=(z.length:Int))=decide (1<=z.length):=by rw[Bl];lia
 have e2:decide ((z.length:Int)<=12)=decide (z.length<=12):=by rw[Bl];lia
 have no:qQ z=false->eM z=false:=fun e=>by unfold eM;rw[e,rV]
 have sH:=q H (Same.refl H);refine gJ (fun h1=> ?_) (fun h1=> ?_)
 · refine ?_;refine gJ (fun h2=> ?_) (fun h2=> ?_)
   · have hf:qQ z=true:=by unfold qQ;rw[<-e1,<-e2,h1,h2];rfl
     have h1':1<=z.length:=by have:=ck h1;lia
     obtain⟨c,r,ecr⟩:∃c r,z.cps.toList=c::r:=by
      cases e:z.cps.toList with
      | nil=>rw[e] at hx;simp at hx;lia
      | cons c r=>exact⟨c,r,rfl⟩
     have et:eM z=(jV c&&r.all dI):=by unfold eM;rw[hf,ecr];rfl
     refine⟨z,0,c,rfl,rfl,hzl,?_,_,_,rfl,rfl,_,rfl,?_⟩
     · exact aX (j:=0) (by rw[ecr];rfl)
     have a1:(!decide (([c]:List Nat)<[65]))=decide (65<=c):=uJ 65 c;have a2:(!decide (([90]:List Nat)<[c]))=decide (c<=90):=uJ c 90;show if(!decide (([c]:List Nat)<[65]))=true then _ else _
     rw[a1];refine gJ (fun h3=> ?_) (fun h3=> ?_)
     · have h3':65<=c:=ck h3;refine⟨_,_,rfl,rfl,?_⟩;show if(!decide (([90]:List Nat)<[c]))=true then _ else _
       rw[a2];refine gJ (fun h4=> ?_) (fun h4=> ?_)
       · have h4':c<=90:=ck h4;have hb:jV c=true:=by unfold jV;exact ax ⟨h3',h4'⟩
         have hl:(Txt.slice z (some 1) none).length<=1000:=ao (Txt.slice_le z _ _) hz;refine⟨_,rfl,z,rfl,hzl,_,rfl,hl,fun H' sm=> ?_⟩;have e5:(Txt.slice z (some 1) none).cps.toList.all dI=eM z:=by rw[Mm,ecr,et,hb];rfl
         rw[e5];exact q H' sm
       · have h4':¬ c<=90:=fun k=>h4 (ax k);have hb:jV c=false:=by unfold jV;exact ag fun k=>h4' k.2
         have e5:eM z=false:=by rw[et,hb];rfl
         rw[<-e5];exact sH
     · have h3':¬ 65<=c:=fun k=>h3 (ax k);have hb:jV c=false:=by unfold jV;exact ag fun k=>h3' k.1
       have e5:eM z=false:=by rw[et,hb];rfl
       show Q (.bl false) H;rw[<-e5];exact sH
   · have hf:qQ z=false:=by
      unfold qQ;have h2':decide (z.length<=12)=false:=by rw[<-e2];exact lR.mpr h2
      rw[h2',hJ]
     rw[<-no hf];exact sH
 · have hf:qQ z=false:=by
    unfold qQ;have h1':decide (1<=z.length)=false:=by rw[<-e1];exact lR.mpr h1
    rw[h1',rV]
   show Q (.bl false) H;rw[<-no hf];exact sH
end
noncomputable def dA:Kd->Bool
 | .nm t=>eM t
 | _=>false
def AX:Kd->Prop
 | .nm t=>t.length<=1000
 | _=>True
inductive pV(vs:List V)(H:Hp)(Q:VK):Prop
 | mk:∀v k,(vs=[v])->(IsK H k v)->(AX k)->(∀H',Same H H'->Q (.bl (dA k)) H')->pV vs H Q
def l9:Sp:=fun vs H Q _=>pV vs H Q
noncomputable def Sy.things:Sy->List Str
 | .thing x _=>[x]
 | .tied x _ y=>[x,y]
 | _=>[]
noncomputable def jl(ps:List (Int × Sy)):List Str:=(ps.map fun q=>q.2.things).flatten
noncomputable def Sy.sorts:Sy->List Str
 | .every _ _=>zN | .no _ _=>zN | .thing _ _=>["thing","kind"] | .tied _ _ _=>["thing","tie","thing"] | .within _ _=>["tie","tie"] | .makes _ _ _=>["tie","tie","tie"]
noncomputable def Sy.sg(s:Sy):Sg:=⟨vo s.hd,s.sorts.zip s.parts⟩
def iI(s:Sy):s.sg.ps.map (·.2)=s.parts:=by cases s<;>rfl
def F8(h:IsSy H s v):L8 H s.sg v:=by
 obtain⟨p,xs,e,h1,h2⟩:=h;exact⟨p,xs,e,h1,by rw[iI];exact h2⟩
def Sy.okS(s:Sy):Prop:=(∀k∈s.parts,k.sz<=60)/\s.lo 25
def Jo{s:Sy}(h:s.okS):s.sg.Ok:=by
 have h1:=h.1;refine⟨by cases s<;>simp[Sy.sg,Sy.sorts,Sy.parts,Sy.hd,vo,je],fun p hp=> ?_⟩;cases s<;>simp only[Sy.sg,Sy.sorts,Sy.parts,xv,MG,aL,ai,cj] at hp h1
 · rcases hp with rfl | rfl
   · exact .inl ⟨rfl,h1 _ (.inl rfl)⟩
   · exact .inl ⟨rfl,h1 _ (.inr rfl)⟩
 · rcases hp with rfl | rfl
   · exact .inl ⟨rfl,h1 _ (.inl rfl)⟩
   · exact .inl ⟨rfl,h1 _ (.inr rfl)⟩
 · rcases hp with rfl | rfl
   · exact .inr ⟨.inr rfl,_,rfl⟩
   · exact .inl ⟨rfl,h1 _ (.inr rfl)⟩
 · rcases hp with rfl | rfl | rfl
   · exact .inr ⟨.inr rfl,_,rfl⟩
   · exact .inr ⟨.inl rfl,_,rfl⟩
   · exact .inr ⟨.inr rfl,_,rfl⟩
 · rcases hp with rfl | rfl
   · exact .inr ⟨.inl rfl,_,rfl⟩
   · exact .inr ⟨.inl rfl,_,rfl⟩
 · rcases hp with rfl | rfl | rfl
   · exact .inr ⟨.inl rfl,_,rfl⟩
   · exact .inr ⟨.inl rfl,_,rfl⟩
   · exact .inr ⟨.inl rfl,_,rfl⟩
def C8(A:List Str)(x y:Str):y∈lI A x↔y∈A\/y=x:=by
 unfold lI
 split
 · constructor
   · exact .inl
   · rintro(h | rfl)
     · exact h
     · assumption
 · simp
theorem lD:∀xs A y,y∈dP A xs↔y∈A\/y∈xs
 | [],A,y=>by simp[dP]
 | x::xs,A,y=>by
   show y∈dP (lI A x) xs↔_;rw[lD xs (lI A x) y,C8,aL];constructor
   · rintro((h | h) | h)
     · exact .inl h
     · exact .inr (.inl h)
     · exact .inr (.inr h)
   · rintro(h | h | h)
     · exact .inl (.inl h)
     · exact .inl (.inr h)
     · exact .inr h
def qK:¬ (Str.ofString "kind":Str)=Str.ofString "thing":=by decide+kernel
def rZ:¬ (Str.ofString "tie":Str)=Str.ofString "thing":=by decide+kernel
def Cz(s:Sy)(y:Str):y∈jq s.sg↔y∈s.things:=by
 unfold jq;rw[lD];cases s<;>simp[Sy.sg,Sy.sorts,Sy.parts,pG,Sy.things,qK,rZ]
def CA(s:Sy):(jq s.sg).length<=3:=by
 have:=gZ ((s.sg.ps.map pG).flatten) [];have h2:((s.sg.ps.map pG).flatten).length<=3:=by
  cases s<;>simp[Sy.sg,Sy.sorts,Sy.parts,pG,qK,rZ]
 unfold jq;simp only[eh] at this
 lia
def Cq(hK:X.K=K')(hl:PE X l tl):PI X tg l (kL K' tl):=by subst hK;exact bY hl
noncomputable def Ja(ps:List (Int × Sy)):List Str:=ps.foldl (fun A q=>dP A (jq q.2.sg)) []
inductive nY(vs:List V)(H:Hp)(Q:VK):Prop
 | mk:∀lp ys ps,(vs=[.ref lp])->(H lp=some (.lst ys))->(PrL H ys ps)->((∀q∈ps,q.2.okS))->(ps.length<=100)->(∀d A H',Same H H'->H' d=some (.dK (Dn A))->(A=Ja ps/\∀x,x∈A↔x∈jl ps)->A.length<=3 * ps.length->Q (.ref d) H')->nY vs H Q
def si:Sp:=fun vs H Q _=>nY vs H Q
def Gm:((([("number":Str),("saying":Str),("thing":Str)]:List Str)++[]):List Str).Nodup:=by decide+kernel
def xK{ps:List (Int × Sy)}(h:ps[i]? =some q):jl (ps.take (i+1))=jl (ps.take i)++q.2.things:=by
 unfold jl;rw[bF,h,bC,L5];simp
section
def B7:bb ["x"] ["x"] (aJ tR):=fS
def AF(F:Fun K "stands_for_thing" "stands_for_thing" tR f fd)(mi:mg "isinstance"=none)(ms:mg "str"=none)(Git:Cl P w K mg base 3 "is_thing" kI zg):bK P w K mg base eJ 4 f fd ["x"] l9:=by
 refine F.o B7 fun cdv A outer s H vs Q E hr h=> ?_;obtain⟨v,k,rfl,hk,hl,q⟩:=h;refine⟨_,bg (c_ (qB (Hg mi ms fz aC) (uk (eU Git hr (eE aC))))),?_⟩;cases k with
 | nm x=>
   obtain rfl:v= .str x:=hk;exact⟨_,_,_,true,rfl,TyOf.str x,fX K,⟨x,rfl,hl,q⟩⟩
 | two a b=>
   obtain⟨p,x,y,rfl,hp,_,_⟩:=hk;exact⟨_,_,_,false,rfl,TyOf.tup hp,dj K,(q H (Same.refl H))⟩
 | som r c=>
   obtain⟨p,y,rfl,hp,_⟩:=hk;exact⟨_,_,_,false,rfl,TyOf.tup hp,dj K,(q H (Same.refl H))⟩
def Aw:bb ["pairs"] ["pairs"] (aJ qj):=fS
def yj(F:Fun K "things_named" "things_named" qj f fd)(Gnd:Cl P w K mg base 62 "named" ["saying"] zp):bK P w K mg base eJ 63 f fd ["pairs"] si:=by
 refine F.o Aw fun cdv A outer s H vs Q E hr h=> ?_;obtain⟨lp,ys,ps,rfl,hl,hps,hok,hz,q⟩:=h;refine⟨_,bg (c_ (AB ["number","saying","thing"] [] [] rfl (bY aC) (fun _ _ _=>ER (K':=K) (i:=0) (j:=1) rfl rfl Gm rfl rfl rfl rfl) (fun _ _ _=>iY) (fun _ _ _=>Cq (K':=K) rfl (jM (r:=Cd K) jb (eU Gnd hr (eE bu)) aD)) (fun _ _ _=>fw 2 Gm) (fun _ _ _=>iY) (fun _ _ _=>bx) (fun _ _ _=>fD))),?_⟩;have lL:ys.length=ps.length:=aR hps;refine⟨⟨_,SqL.of hl⟩,fun D hD=> ?_⟩;refine Gn ys.length (fun i σ H'=>(∃o0 o1 o2,σ=[o0,o1,o2])/\Same H H'/\∃A,H' D=some (.dK (Dn A))/\(A=Ja (ps.take i)/\∀x,x∈A↔x∈jl (ps.take i))/\A.length<=3 * i) ⟨⟨_,_,_,rfl⟩,af hD _,[],ae,⟨rfl,by simp[jl]⟩,by simp⟩ ?_ ?_
 · rintro σ H' ⟨_,sm,A,eA,hA,lA⟩;rw[lL,a_] at hA;exact⟨⟨_,SqL.of (sm _ _ hl),aq _⟩,q D A H' sm eA hA (by rw[lL] at lA;exact lA)⟩
 · rintro i σ H' hi ⟨⟨o0,o1,o2,rfl⟩,sm,A',eA,hA,lA⟩;have ho:=sm _ _ hl;refine⟨⟨_,ys[i],SqL.of ho,by simp[hi]⟩,?_⟩;rintro y H1 ⟨rfl,hy⟩;have hyi:=hy _ (SqL.of ho);obtain⟨pq,hpq,t,vs,rfl,ht,hsy⟩:=bN hps hyi;have okq:=hok pq (av hpq);refine⟨_,SqT.of (sm _ _ ht),rfl,?_⟩;refine⟨vs,pq.2.sg,rfl,F8 (hsy.mono sm.tups),Jo okq,fun qq a b c H2 s2 hq hc nc=> ?_⟩;refine⟨_,_,SqT.of hq,aX (j:=2) rfl,⟨_,SqL.of hc⟩,?_⟩;have cD:c≠D:=fun z=>by rw[z,eA] at nc;cases nc
   have lG:=CA pq.2;refine Gn ((jq pq.2.sg).map V.str).length (fun j σ' H'=>(∃o2,σ'=[some (.int pq.1),some vs,o2])/\Same H H'/\H' c=some (.lst ((jq pq.2.sg).map V.str))/\H' D=some (.dK (Dn (dP A' ((jq pq.2.sg).take j))))) ⟨⟨_,rfl⟩,sm.trans s2,hc,s2 _ _ eA⟩ ?_ ?_
   · rintro σ' H3 ⟨⟨o2',rfl⟩,sm3,ec,eD⟩;rw[aw,a_] at eD;refine⟨⟨_,SqL.of ec,aq _⟩,⟨_,_,_,rfl⟩,sm3,_,eD,⟨?_,fun x=> ?_⟩,?_⟩
     · rw[hA.1];unfold Ja;rw[bF,hpq,fB];rfl
     · rw[lD,hA.2,Cz,xK hpq,aI]
     · have:=gZ (jq pq.2.sg) A'
       lia
   · rintro j σ' H3 hj ⟨⟨o2',rfl⟩,sm3,ec,eD⟩;have hj':j<(jq pq.2.sg).length:=by simpa using hj
     refine⟨⟨_,.str (jq pq.2.sg)[j],SqL.of ec,by simp[hj']⟩,?_⟩;rintro y2 H4 ⟨rfl,hy2⟩;have hy2i:=hy2 _ (SqL.of ec);rw[aV,aE hj'] at hy2i;cases hy2i;have la:=gZ ((jq pq.2.sg).take j) A';have lt:((jq pq.2.sg).take j).length<=3:=ao (List.length_take_le' _ _) lG;refine⟨Dn (dP A' ((jq pq.2.sg).take j)),Sum.inr (jq pq.2.sg)[j],rfl,eD,cm (by rw[nX];lia),⟨_,rfl⟩,dh sm3 hD,by rw[aM cD];exact ec,?_⟩;rw[ae,vj,bF,aE hj',rk]
     rfl
end
noncomputable def mI(c:Nat):Bool:=decide (97<=c/\c<=122) || decide (65<=c/\c<=90)
noncomputable def fW(z:Str):Bool:=decide (1<=z.length)&&decide (z.length<=12)&&z.cps.toList.all mI
noncomputable def IM(l:List Nat):Str:=⟨l.toArray⟩
def wJ(l:List Nat):(IM l).cps.toList=l:=by simp[IM]
def Fc(l:List Nat):(IM l).length=l.length:=by simp[IM,Str.length]
def BW{a:Str}(h:a.cps.toList=b.cps.toList):a=b:=by
 cases a;cases b;simp only[Str.mk.injEq];exact Array.toList_inj.mp h
def HG(z:Str):IM z.cps.toList=z:=BW (wJ _)
def GB(a b:Str):(a++b).cps.toList=a.cps.toList++b.cps.toList:=by rw[rR];simp
def Dg(z:Str):z.length=z.cps.toList.length:=by simp[Str.length]
def HL:(Str.ofString "(both ").cps.toList=[40,98,111,116,104,32]:=by decide+kernel
def HK:(Str.ofString "(some ").cps.toList=[40,115,111,109,101,32]:=by decide+kernel
def Df:(Str.ofString " ").cps.toList=[32]:=by decide+kernel
def De:(Str.ofString ")").cps.toList=[41]:=by decide+kernel
def Gp:(Str.empty).cps.toList=[]:=by decide+kernel
noncomputable def oZ:Kd->List Nat
 | .nm x=>x.cps.toList
 | .two a b=>[40,98,111,116,104,32]++oZ a++[32]++oZ b++[41]
 | .som r c=>[40,115,111,109,101,32]++r.cps.toList++[32]++oZ c++[41]
noncomputable def rD(k:Kd):Str:=IM (oZ k)
def oB:Kd->Prop
 | .nm x=>fW x=true
 | .two a b=>oB a/\oB b
 | .som r c=>fW r=true/\oB c
def gS(h:fW x=true):1<=x.length/\x.length<=12/\x.cps.toList.all mI=true:=by
 unfold fW at h;simp only[ba,dy] at h;exact⟨h.1.1,h.1.2,h.2⟩
def mE(h:fW x=true):1<=x.length/\x.length<=12/\x.cps.toList.all mI=true/\True:=by
 obtain⟨a,b,c⟩:=gS h;exact⟨a,b,c,trivial⟩
theorem tz:∀{k:Kd},oB k->(oZ k).length<=12+32 * k.nt
 | .nm x,h=>by
   have:=gS h;rw[Dg] at this;simp only[oZ,Kd.nt];lia
 | .two a b,h=>by
   have h1:=tz h.1;have h2:=tz h.2;simp only[oZ,Kd.nt,ak,bj,eh];lia
 | .som r c,h=>by
   have h1:=mE h.1;have h2:=tz h.2;rw[Dg] at h1;simp only[oZ,Kd.nt,ak,bj,eh];lia
def se:List Nat->Prop
 | []=>True
 | c::_=>mI c=false
theorem jF:∀{x y s t:List Nat},x.all mI=true->y.all mI=true->se s->se t->x++s=y++t->x=y/\s=t
 | [],[],s,t,_,_,_,_,e=>⟨rfl,e⟩
 | [],b::y,s,t,_,hy,hs,_,e=>by
   simp only[fj] at e;subst e;simp only[fq,ba] at hy;have:mI b=false:=hs;rw[this] at hy;exact absurd hy.1 (by decide)
 | a::x,[],s,t,hx,_,_,ht,e=>by
   simp only[fj] at e;subst e;simp only[fq,ba] at hx;have:mI a=false:=ht;rw[this] at hx;exact absurd hx.1 (by decide)
 | a::x,b::y,s,t,hx,hy,hs,ht,e=>by
   simp only[dR,cz] at e;simp only[fq,ba] at hx hy;obtain⟨h1,h2⟩:=jF hx.2 hy.2 hs ht e.2;exact⟨by rw[e.1,h1],h2⟩
def pe:se (32::l):=by show mI 32=false;decide
def o_:se (41::l):=by show mI 41=false;decide
def mD(h:oB (.nm x)):∃c r,x.cps.toList=c::r/\mI c=true:=by
 obtain⟨h1,_,h3⟩:=gS h;have hl:=Dg x;cases e:x.cps.toList with
 | nil=>rw[e] at hl;simp at hl;lia
 | cons c r=>
   rw[e] at h3;simp only[fq,ba] at h3;exact⟨c,r,rfl,h3.1⟩
def Kh:mI 40=false:=by decide
theorem tD:∀{a b:Kd} {s t:List Nat},oB a->oB b->se s->se t->oZ a++s=oZ b++t->a=b/\s=t
 | .nm x,.nm y,s,t,ha,hb,hs,ht,e=>by
   obtain⟨h1,h2⟩:=jF (gS ha).2.2 (gS hb).2.2 hs ht e;exact⟨by rw[BW h1],h2⟩
 | .nm x,.two b1 b2,s,t,ha,_,_,_,e=>by
   obtain⟨c,r,e1,hc⟩:=mD ha;simp only[oZ,e1,dR,cz] at e;rw[e.1,Kh] at hc;cases hc
 | .nm x,.som r' c',s,t,ha,_,_,_,e=>by
   obtain⟨c,r,e1,hc⟩:=mD ha;simp only[oZ,e1,dR,cz] at e;rw[e.1,Kh] at hc;cases hc
 | .two a1 a2,.nm y,s,t,_,hb,_,_,e=>by
   obtain⟨c,r,e1,hc⟩:=mD hb;simp only[oZ,e1,dR,cz] at e;rw[<-e.1,Kh] at hc;cases hc
 | .som r' c',.nm y,s,t,_,hb,_,_,e=>by
   obtain⟨c,r,e1,hc⟩:=mD hb;simp only[oZ,e1,dR,cz] at e;rw[<-e.1,Kh] at hc;cases hc
 | .two a1 a2,.som r' c',s,t,_,_,_,_,e=>by
   simp[oZ] at e
 | .som r' c',.two a1 a2,s,t,_,_,_,_,e=>by
   simp[oZ] at e
 | .two a1 a2,.two b1 b2,s,t,ha,hb,hs,ht,e=>by
   simp only[oZ,lQ,FQ] at e;obtain⟨h1,h2⟩:=tD (a:=a1) (b:=b1) ha.1 hb.1 pe pe e;simp only[dR,fj,cz,Kx] at h2;obtain⟨h3,h4⟩:=tD (a:=a2) (b:=b2) ha.2 hb.2 o_ o_ h2;simp only[cz,Kx] at h4;exact⟨by rw[h1,h3],h4⟩
 | .som r c,.som r' c',s,t,ha,hb,hs,ht,e=>by
   simp only[oZ,lQ,FQ] at e;obtain⟨h1,h2⟩:=jF (mE ha.1).2.2.1 (mE hb.1).2.2.1 pe pe e;simp only[dR,fj,cz,Kx] at h2;obtain⟨h3,h4⟩:=tD (a:=c) (b:=c') ha.2 hb.2 o_ o_ h2;simp only[cz,Kx] at h4;exact⟨by rw[BW h1,h3],h4⟩
def Ef(ha:oB a)(hb:oB b)(e:oZ a=oZ b):a=b:=(tD (s:=[]) (t:=[]) ha hb True.intro True.intro (by rw[e])).1
def Ee(ha:oB a)(hb:oB b)(e:rD a=rD b):a=b:=Ef ha hb (by rw[<-wJ (oZ a),<-wJ (oZ b)];exact congrArg (fun z:Str=>z.cps.toList) e)
inductive vG(n:Nat)(vs:List V)(H:Hp)(Q:VK):Prop
 | mk:∀v k,(vs=[v])->(IsK H k v)->(oB k)->(k.nt<=24)->(k.dep<n)->(Q (.str (rD k)) H)->vG n vs H Q
def kQ(n:Nat):Sp:=fun vs H Q _=>vG n vs H Q
def vX(a b:Kd):Str.empty++"(both "++rD a++" "++rD b++")"=rD (.two a b):=by
 apply BW;simp only[GB,Gp,HL,Df,De,rD,wJ,oZ,fj]
def vY(r:Str)(c:Kd):Str.empty++"(some "++r++" "++rD c++")"=rD (.som r c):=by
 apply BW;simp only[GB,Gp,HK,Df,De,rD,wJ,oZ,fj]
def tE(h:oB k):(rD k).length<=12+32 * k.nt:=by
 rw[rD,Fc];exact tz h
section
def GX:bb gh gh (aJ zB):=fS
def EZ(F:Fun K "show_kind" "show_kind" zB f fd)(Gsh:Cl P w K mg base k0 "show_kind" gh (kQ n))(mi:mg "isinstance"=none)(ms:mg "str"=none):bK P w K mg base eJ (k0+1) f fd gh (kQ (n+1)):=by
 refine F.o GX fun cdv A outer s H vs Q E hr h=> ?_;obtain⟨v,k,rfl,hk,ok,hnt,hd,q⟩:=h;have kGsh:=F.kp;refine⟨_,aZ (bH (fN (dN oK rfl mi bP (cB aC (cB (uo (v:= .ty "str") rfl ms fz rfl) bO)))) (bg (ip aC)) br)
  (aZ (bH (uf dv (kK jb aC aD (fun _ _=>rfl)) aN (uB _)) (bg (ip (um (jN aN (qy (eU Gsh hr (cB (kK jb aC aD (fun _ _=>rfl)) bO)) (jN aN (qy (eU Gsh hr (cB (kK jb aC aD (fun _ _=>rfl)) bO)) (jN aN ye)))))))) br)
  (bg (ip (um (jN aN (qy (kK jb aC aD (fun _ _=>rfl)) (jN aN (qy (eU Gsh hr (cB (kK jb aC aD (fun _ _=>rfl)) bO)) (jN aN ye))))))))),?_⟩
 cases k with
 | nm x=>
   obtain rfl:v= .str x:=hk;refine⟨_,_,_,true,rfl,TyOf.str x,fX K,?_⟩;have:rD (.nm x)=x:=HG x;rw[this] at q;exact q
 | two a b=>
   obtain⟨p,x,y,rfl,hp,ha,hb⟩:=id hk;refine⟨_,_,_,false,rfl,TyOf.tup hp,dj K,?_⟩;refine⟨_,_,SqT.of hp,aX (j:=0) rfl,?_⟩;simp only[Kd.nt,Kd.dep] at hnt hd;have la:=tE ok.1;have lb:=tE ok.2;have l1:(Str.ofString "(both ").length=6:=by decide+kernel
   have l2:(Str.ofString " ").length=1:=by decide+kernel
   have l3:(Str.ofString ")").length=1:=by decide+kernel
   have l0:Str.empty.length=0:=by decide+kernel
   refine⟨_,rfl,bD (by lia),bD (by rw[bw];lia),_,_,SqT.of hp,aX (j:=1) rfl,x,a,rfl,ha,ok.1,by lia,by lia,_,rfl,bD (by lia),bD (by simp only[bw];lia),_,rfl,bD (by lia),bD (by simp only[bw];lia),_,_,SqT.of hp,aX (j:=2) rfl,y,b,rfl,hb,ok.2,by lia,by lia,_,rfl,bD (by lia),bD (by simp only[bw];lia),_,rfl,bD (by lia),bD (by simp only[bw];lia),bD (by simp only[bw];lia),?_⟩;rw[vX];exact q
 | som r c=>
   obtain⟨p,y,rfl,hp,hc⟩:=id hk;refine⟨_,_,_,false,rfl,TyOf.tup hp,dj K,?_⟩;refine⟨_,_,SqT.of hp,aX (j:=0) rfl,?_⟩;simp only[Kd.nt,Kd.dep] at hnt hd;have la:=mE ok.1;have lb:=tE ok.2;have l1:(Str.ofString "(some ").length=6:=by decide+kernel
   have l2:(Str.ofString " ").length=1:=by decide+kernel
   have l3:(Str.ofString ")").length=1:=by decide+kernel
   have l0:Str.empty.length=0:=by decide+kernel
   refine⟨_,rfl,bD (by lia),bD (by rw[bw];lia),_,_,SqT.of hp,aX (j:=1) rfl,r,rfl,bD (by lia),bD (by simp only[bw];lia),_,rfl,bD (by lia),bD (by simp only[bw];lia),_,_,SqT.of hp,aX (j:=2) rfl,y,c,rfl,hc,ok.2,by lia,by lia,_,rfl,bD (by lia),bD (by simp only[bw];lia),_,rfl,bD (by lia),bD (by simp only[bw];lia),bD (by simp only[bw];lia),?_⟩;rw[vY];exact q
def Au:bK P w K mg base eJ 0 f fd gh (kQ 0):=by
 have no:∀vs H Q E,¬ kQ 0 vs H Q E:=fun vs H Q E h=>by
  obtain⟨v,k,_,_,_,_,h,_⟩:=h
  lia
 exact⟨fun vs H Q E h=>absurd h (no vs H Q E),fun A outer s H args us vs Q E _ _ _ _ h=>absurd h (no vs H Q E)⟩
theorem vZ(A:Fq K mg "show_kind" zB gh)(mi:mg "isinstance"=none)(ms:mg "str"=none):∀n:Nat,Cl P w K mg base n "show_kind" gh (kQ n)
 | 0=>A.cl fun _=>Au
 | n+1=>A.cl fun F=>EZ F (vZ A mi ms n) mi ms
end
inductive xH(vs:List V)(H:Hp)(Q:VK):Prop
 | mk:∀p key v kvs,(vs=[.ref p,kV key,v])->(H p=some (.dK kvs))->(kvs.length<sizeLine)->(((cZ kvs key=none/\∀q,H q=none->∀H',H'=upd (upd H q (.lst [v])) p (.dK (cq kvs key (.ref q)))->Q .non H')\/∃q xs,cZ kvs key=some (.ref q)/\H q=some (.lst xs)/\xs.length<sizeLine/\∀g,H g=none->∀H',H'=upd (upd H g (.lst [])) q (.lst (xs++[v]))->Q .non H'))->xH vs H Q
def Eo:Sp:=fun vs H Q _=>xH vs H Q
noncomputable def wx(i j:Int)(b:Bool):List V:=if b then [.int i,.int j] else [.int j,.int i]
inductive zm(vs:List V)(H:Hp)(Q:VK):Prop
 | mk:∀i j b,(vs=[.int i,.int j,.bl b])->(∀l,H l=none->Q (.ref l) (upd H l (.lst (wx i j b))))->zm vs H Q
def F5:Sp:=fun vs H Q _=>zm vs H Q
inductive mm(vs:List V)(H:Hp)(Q:VK):Prop
 | mk:∀m n:Nat,(vs=[.int (m:Int)])->(m<2^n)->(n<=100000)->(∀l,H l=none->Q (.ref l) (upd H l (.lst ((cG m).map fun(i:Nat)=>V.int (i:Int)))))->mm vs H Q
def nj:Sp:=fun vs H Q _=>mm vs H Q
def Kv(h:p≠q):upd (upd (upd H q a) p d) q b=upd (upd H q b) p d:=by
 funext c
 by_cases h1:c=q
 · subst h1;rw[ae,aM (bB h),ae]
 · by_cases h2:c=p
   · subst h2;rw[aM h1,ae,ae]
   · rw[aM h1,aM h2,aM h1,aM h2,aM h1]
noncomputable def Mu(σ:St):Nat:=match σ with
 | some (.int i)::_=>i.toNat
 | _=>0
section
def KR:bb qp qp (aJ KS):=fS
def Jy(F:Fun K "note" "note" KS f fd):bK P w K mg base eJ 1 f fd qp Eo:=by
 refine F.o KR fun cdv A outer s H vs Q E hr h=> ?_;obtain⟨p,key,v,kvs,rfl,hp,hl,h⟩:=h;refine⟨_,bg (bh (BB (Cv aC bu (bE bO) ⟨rfl,rfl,rfl,rfl⟩) bx)),?_⟩;refine⟨p,rfl,.inl ⟨kvs,.inl hp⟩,au _,fun g hg=> ?_⟩;have pg:p≠g:=fun z=>by rw[z,hg] at hp;cases hp
 have hp1:upd H g (.lst []) p=some (.dK kvs):=by rw[aM pg];exact hp
 refine⟨kvs,key,hp1,rfl,hl,fun y hy=> ?_,fun hy=> ?_⟩
 · rcases h with⟨hn,_⟩ | ⟨q,xs,hq,e,l,h⟩
   · rw[hn] at hy;cases hy
   · rw[hq] at hy;cases hy;have qg:q≠g:=fun z=>by rw[z,hg] at e;cases e
     have e1:upd H g (.lst []) q=some (.lst xs):=by rw[aM qg];exact e
     exact⟨.inl ⟨rfl,_,SqL.of e1⟩,xs,e1,l,h g hg _ rfl⟩
 · rcases h with⟨_,h⟩ | ⟨q,xs,hq,_⟩
   · have e1:upd (upd H g (.lst [])) p (.dK (cq kvs key (.ref g))) g=some (.lst []):=by rw[aM (bB pg),ae]
     exact⟨.inl ⟨rfl,_,SqL.of e1⟩,[],e1,by decide,h g hg _ (Kv pg)⟩
   · rw[hq] at hy;cases hy
def Jr:bb we we (aJ qo):=fS
def Hu(F:Fun K "in_order" "in_order" qo f fd):bK P w K mg base eJ 1 f fd we F5:=by
 refine F.o Jr fun cdv A outer s H vs Q E hr h=> ?_;obtain⟨i,j,b,rfl,q⟩:=h;refine⟨_,bg (c_ (qz (fN bx) (bE (dW aC bu)) (bE (dW bu aC)))),?_⟩;cases b with
 | true=>exact(⟨by show 2<=sizeLine;decide,q⟩)
 | false=>exact(⟨by show 2<=sizeLine;decide,q⟩)
def scBits:bb ["mask","found","lowest"] ["mask"] (aJ ub):=fS
def E_(F:Fun K "bits_of" "bits_of" ub f fd):bK P w K mg base eJ 1 f fd ["mask"] nj:=by
 refine F.o scBits fun cdv A outer s H vs Q E hr h=> ?_;obtain⟨m,n,rfl,hm,hn,q⟩:=h;refine⟨_,aZ (eV 1 scBits.nd (bE bO)) (aZ (qx pL (Cj aC (fun _=>rfl)) (aZ (eV 2 scBits.nd (bq k_ aC (oA xB aC))) (aZ (bh (BB bu (bq yh (yg PySem.F.plainAttrs_int PySem.F.slot_int_bit_length PySem.F.type_int_bit_length rM bx) aD))) (bg (uh (i:=0) scBits.nd rfl (Or.inl rfl) bx H_))))) (bg (c_ bu))),?_⟩;refine⟨au _,fun l hl=> ?_⟩;dsimp only[gm];show tG _ _ {nx:=_,rt:=_,bk:=_,ct:=_} _ _;refine vw (fun σ H'=>∃(t:Nat) (o2:Option V),t<=n/\σ=[some (.int ((2^t * (m/2^t):Nat):Int)),some (.ref l),o2]/\H'=upd H l (.lst (((List.range t).filter m.testBit).map fun(i:Nat)=>V.int (i:Int)))) (fun σ _=>Mu σ) ⟨0,none,au _,by rw[Nat.pow_zero,Nat.div_one,Nat.one_mul];rfl,rfl⟩ ?_ (fun σ H Q Q' hm h=>by obtain⟨x,e,k,tk,q⟩:=onV.ex h;exact onV.of e ⟨k,tk,hm _ _ q⟩);rintro σ H' ⟨t,o2,ht,rfl,rfl⟩;refine⟨_,rfl,?_⟩;rcases xu (2^t * (m/2^t)) with z | z
 · rw[z];have hlt:m<2^t:=by
    rcases fP m (2^t) with c | c
    · exact c
    · have hp:0<2^t:=ji (by decide);have:0<m/2^t:=Nat.div_pos c hp;have:=Nat.mul_pos hp this
      lia
   rw[Bw m t hlt];exact q l hl
 · have nz:(((2^t * (m/2^t):Nat):Int) !=0)=true:=by
    rw[bne_iff_ne];lia
   rw[nz];obtain⟨t',h1,h2,h3,q',e1,e2⟩:=Bx z;obtain⟨b1,b2⟩:=Fj e1;have lt':t'<n:=by
    rcases fP t' n with c | c
    · exact c
    · rw[oU (ah hm (jj (by decide) c))] at h2;cases h2
   have ln:(((List.range t).filter m.testBit).map fun(i:Nat)=>V.int (i:Int)).length<sizeLine:=by
    rw[aw];exact bA (ao (List.length_filter_le _ _) (by rw[g_];exact ao ht hn)) (by decide)
   refine⟨.inl ⟨rfl,_,SqL.of ae⟩,rfl,_,rfl,rfl,_,ae,ln,_,rfl,_,_,rfl,rfl,?_⟩;dsimp only[List.set];rw[b1,b2,wW];refine⟨⟨t'+1,some (.int ((2^t':Nat):Int)),lt',?_,?_⟩,?_⟩
   · rw[e2]
   · rw[yW,x9 h1 h2 h3,bC];rw[show(((t'+1:Nat):Int) - 1)=(t':Int) by lia]
     rfl
   · show((2^(t'+1) * q':Nat):Int).toNat<((2^t * (m/2^t):Nat):Int).toNat;rw[bW,bW,e1];have hp:0<2^t':=ji (by decide);rw[jY,Lw,mU]
     lia
end
inductive Sh where
 | no | both (i j:Nat) | some (r:Str) (j:Nat)
 deriving DecidableEq
def FR(H:Hp)(v:V):Sh->Prop
 | .no=>v= .non
 | .both i j=>∃p:Addr,v= .ref p/\H p=some (.tup [.str "both",.int (i:Int),.int (j:Int)])
 | .some r j=>∃p:Addr,v= .ref p/\H p=some (.tup [.str "some",.str r,.int (j:Int)])
def oq:Mo FR:=fun H H' v s t h=>by
 cases s with
 | no=>exact h
 | both i j=>obtain⟨p,e,h⟩:=h;exact⟨p,e,t _ _ h⟩
 | some r j=>obtain⟨p,e,h⟩:=h;exact⟨p,e,t _ _ h⟩
def J_(H:Hp)(v:V)(k:Kd):Prop:=IsK H k v
def qI:Mo J_:=fun _ _ _ _ t h=>IsK.mono t h
structure LoI where
 parts:List Kd
 shapes:List Sh
 known:List Nat
 everys:Nat->List (Nat × Int)
 nos:Nat->List (Nat × Int × Bool)
 withins:Str->List (Str × Int)
 mk1:Str->List (Str × Str × Int)
 mk2:Str->List (Str × Str × Int)
 boths:Nat->List (Nat × Nat × Bool)
 somes:Nat->List (Str × Nat)
 fillers:Str->Option Nat
 wholes:Str->Nat->Option Nat
noncomputable def LoI.ix(L:LoI)(k:Kd):Nat:=L.parts.idxOf k
noncomputable def LoI.add(L:LoI)(k:Kd)(s:Sh):LoI:={L with parts:=L.parts++[k],shapes:=L.shapes++[s]}
noncomputable def LoI.num:Kd->LoI->LoI
 | .nm x,L=>if Kd.nm x∈L.parts then L else L.add (.nm x) .no
 | .two a b,L=>if Kd.two a b∈L.parts then L else(num b (num a L)).add (.two a b) (.both ((num a L).ix a) ((num b (num a L)).ix b))
 | .som r c,L=>if Kd.som r c∈L.parts then L else(num c L).add (.som r c) (.some r ((num c L).ix c))
noncomputable def LoI.pre:Kd->LoI->LoI
 | .nm _,L=>L
 | .two a b,L=>num b (num a L)
 | .som _ c,L=>num c L
noncomputable def LoI.shp:Kd->LoI->Sh
 | .nm _,_=> .no
 | .two a b,L=> .both ((num a L).ix a) ((num b (num a L)).ix b)
 | .som r c,L=> .some r ((num c L).ix c)
def LoI.num_eq(k:Kd)(L:LoI):LoI.num k L=if k∈L.parts then L else(LoI.pre k L).add k (LoI.shp k L):=by
 cases k with
 | nm x=>rw[LoI.num];rfl
 | two a b=>rw[LoI.num];rfl
 | som r c=>rw[LoI.num];rfl
def LoI.num_in(h:k∈L.parts):LoI.num k L=L:=by rw[LoI.num_eq,aK h]
theorem LoI.num_rest:∀k L,(LoI.num k L).known=L.known/\(LoI.num k L).everys=L.everys/\(LoI.num k L).nos=L.nos/\(LoI.num k L).withins=L.withins/\(LoI.num k L).mk1=L.mk1/\(LoI.num k L).mk2=L.mk2/\(LoI.num k L).boths=L.boths/\(LoI.num k L).somes=L.somes/\(LoI.num k L).fillers=L.fillers/\(LoI.num k L).wholes=L.wholes
 | .nm x,L=>by
   rw[LoI.num]
   split<;>exact⟨rfl,rfl,rfl,rfl,rfl,rfl,rfl,rfl,rfl,rfl⟩
 | .two a b,L=>by
   obtain⟨a0,a1,a2,a3,a4,a5,a6,a7,a8,a9⟩:=LoI.num_rest a L;obtain⟨b0,b1,b2,b3,b4,b5,b6,b7,b8,b9⟩:=LoI.num_rest b (LoI.num a L);rw[LoI.num]
   split
   · exact⟨rfl,rfl,rfl,rfl,rfl,rfl,rfl,rfl,rfl,rfl⟩
   · exact⟨b0.trans a0,b1.trans a1,b2.trans a2,b3.trans a3,b4.trans a4,b5.trans a5,b6.trans a6,b7.trans a7,b8.trans a8,b9.trans a9⟩
 | .som r c,L=>by
   have h:=LoI.num_rest c L;rw[LoI.num]
   split
   · exact⟨rfl,rfl,rfl,rfl,rfl,rfl,rfl,rfl,rfl,rfl⟩
   · exact h
theorem LoI.num_mem:∀k L y,y∈(LoI.num k L).parts->y∈L.parts\/y.sz<=k.sz
 | .nm x,L,y,h=>by
   rw[LoI.num] at h
   split at h
   · exact .inl h
   · rcases aI.mp h with h | h
     · exact .inl h
     · rw[ay.mp h];exact .inr (aq _)
 | .two a b,L,y,h=>by
   rw[LoI.num] at h
   split at h
   · exact .inl h
   · rcases aI.mp h with h | h
     · rcases LoI.num_mem b _ y h with h | h
       · rcases LoI.num_mem a _ y h with h | h
         · exact .inl h
         · right;simp only[Kd.sz];lia
       · right;simp only[Kd.sz];lia
     · rw[ay.mp h];exact .inr (aq _)
 | .som r c,L,y,h=>by
   rw[LoI.num] at h
   split at h
   · exact .inl h
   · rcases aI.mp h with h | h
     · rcases LoI.num_mem c _ y h with h | h
       · exact .inl h
       · right;simp only[Kd.sz];lia
     · rw[ay.mp h];exact .inr (aq _)
theorem LoI.num_sub:∀k L,∃l,(LoI.num k L).parts=L.parts++l
 | .nm x,L=>by
   rw[LoI.num]
   split
   · exact⟨[],by simp⟩
   · exact⟨[.nm x],rfl⟩
 | .two a b,L=>by
   obtain⟨l,e⟩:=LoI.num_sub a L;obtain⟨l',e'⟩:=LoI.num_sub b (LoI.num a L);rw[LoI.num]
   split
   · exact⟨[],by simp⟩
   · exact⟨l++l'++[.two a b],by show(LoI.num b (LoI.num a L)).parts++_=_;rw[e',e];simp⟩
 | .som r c,L=>by
   obtain⟨l,e⟩:=LoI.num_sub c L;rw[LoI.num]
   split
   · exact⟨[],by simp⟩
   · exact⟨l++[.som r c],by show(LoI.num c L).parts++_=_;rw[e];simp⟩
def LoI.num_has(k:Kd)(L:LoI):k∈(LoI.num k L).parts:=by
 rw[LoI.num_eq]
 split
 · assumption
 · show k∈_++[k];simp
def LoI.pre_not(h:k∉L.parts):k∉(LoI.pre k L).parts:=fun hm=>by
 cases k with
 | nm x=>exact h hm
 | two a b=>
   rcases LoI.num_mem b _ _ hm with hm | hm
   · rcases LoI.num_mem a _ _ hm with hm | hm
     · exact h hm
     · simp only[Kd.sz] at hm;lia
   · simp only[Kd.sz] at hm;lia
 | som r c=>
   rcases LoI.num_mem c _ _ hm with hm | hm
   · exact h hm
   · simp only[Kd.sz] at hm;lia
def jd{l:List Kd}(h:k∈l):(l++l').idxOf k=l.idxOf k:=by rw[MT,aK h]
def j_{k:Kd}(h:k∉l):(l++[k]).idxOf k=l.length:=by
 rw[MT];simp[h]
def E2(H:Hp)(v:V)(e:Nat × Int):Prop:=∃p:Addr,v= .ref p/\H p=some (.tup [.int (e.1:Int),.int e.2])
def E3(H:Hp)(v:V)(e:Nat × Int × Bool):Prop:=∃p:Addr,v= .ref p/\H p=some (.tup [.int (e.1:Int),.int e.2.1,.bl e.2.2])
def Kq(H:Hp)(v:V)(e:Str × Int):Prop:=∃p:Addr,v= .ref p/\H p=some (.tup [.str e.1,.int e.2])
def ID(H:Hp)(v:V)(e:Str × Str × Int):Prop:=∃p:Addr,v= .ref p/\H p=some (.tup [.str e.1,.str e.2.1,.int e.2.2])
def EB(H:Hp)(v:V)(e:Nat × Nat × Bool):Prop:=∃p:Addr,v= .ref p/\H p=some (.tup [.int (e.1:Int),.int (e.2.1:Int),.bl e.2.2])
def Kp(H:Hp)(v:V)(e:Str × Nat):Prop:=∃p:Addr,v= .ref p/\H p=some (.tup [.str e.1,.int (e.2:Int)])
def e2_mo:Mo E2:=fun _ _ _ _ t ⟨p,e,h⟩=>⟨p,e,t _ _ h⟩
def e3_mo:Mo E3:=fun _ _ _ _ t ⟨p,e,h⟩=>⟨p,e,t _ _ h⟩
def es2_mo:Mo Kq:=fun _ _ _ _ t ⟨p,e,h⟩=>⟨p,e,t _ _ h⟩
def es3_mo:Mo ID:=fun _ _ _ _ t ⟨p,e,h⟩=>⟨p,e,t _ _ h⟩
def eb_mo:Mo EB:=fun _ _ _ _ t ⟨p,e,h⟩=>⟨p,e,t _ _ h⟩
def esm_mo:Mo Kp:=fun _ _ _ _ t ⟨p,e,h⟩=>⟨p,e,t _ _ h⟩
noncomputable def kN{α:Type}(f:Nat->List α):Key->List α
 | .inl i=>if 0<=i then f i.toNat else []
 | .inr _=>[]
noncomputable def kS{α:Type}(f:Str->List α):Key->List α
 | .inl _=>[]
 | .inr r=>f r
noncomputable def rQ{κ α:Type}[DecidableEq κ](f:κ->List α)(n:κ)(x:α):κ->List α:=fun i=>f i++if i=n then [x] else []
def z_(f:Nat->List α)(n:Nat)(x:α):(fun j:Key=>kN f j++if j= .inl (n:Int) then [x] else [])=kN (rQ f n x):=by
 funext j
 cases j with
 | inl i=>
   show(if 0<=i then f i.toNat else [])++_=if 0<=i then f i.toNat++_ else []
   by_cases h:0<=i
   · rw[aK h,aK h]
     congr 1
     by_cases e:i=(n:Int)
     · rw[aK (by rw[e]),aK (by lia)]
     · rw[aG (fun z=>e (by injection z)),aG (by lia)]
   · rw[aG h,aG h,aG (fun z=>by injection z with z;lia)];rfl
 | inr r=>rw[aG (by intro z;cases z)];rfl
def Dr(f:Str->List α)(n:Str)(x:α):(fun j:Key=>kS f j++if j= .inr n then [x] else [])=kS (rQ f n x):=by
 funext j
 cases j with
 | inl i=>rw[aG (by intro z;cases z)];rfl
 | inr r=>
   show f r++_=f r++_
   congr 1
   by_cases e:r=n
   · rw[aK (by rw[e]),aK e]
   · rw[aG (fun z=>e (by injection z)),aG e]
noncomputable def IP(l:List Nat):Key->Option V
 | .inl i=>if 0<=i/\i.toNat∈l then some (.bl true) else none
 | .inr _=>none
noncomputable def JM(f:Str->Option Nat):Key->Option V
 | .inl _=>none
 | .inr r=>(f r).map fun(m:Nat)=>V.int (m:Int)
noncomputable def IY(f:Str->Nat->Option Nat):List Key->Option V
 | [.inr r,.inl i]=>if 0<=i then(f r i.toNat).map fun(m:Nat)=>V.int (m:Int) else none
 | _=>none
structure LoA where
 ex:List (Str × V)
 (dx p0 p1 p2 p3 p4 p5 p6 p7 p8 p9 p10 p11 p12:Addr)
noncomputable def lM(A:LoA):List (Str × V):=([("parts",.ref A.p0),("shapes",.ref A.p1),("numbers",.ref A.p2),("known",.ref A.p3),("everys",.ref A.p4),("nos",.ref A.p5),("withins",.ref A.p6),("makes_first",.ref A.p7),("makes_second",.ref A.p8),("boths",.ref A.p9),("somes",.ref A.p10),("fillers",.ref A.p11),("wholes",.ref A.p12)]:List (Str × V))++A.ex
noncomputable def IQ:List (Str × V):=[("anything",.int 0)]
noncomputable def D_:List (Str × V):=[("anything",.int 0),("nothing",.int 1)]
def FNum(H:Hp)(T:Tg)(p:Addr)(ps:List Kd):Prop:=T p=some (2,none)/\∃kvs,H p=some (.dK kvs)/\(∀k,oB k->cZ kvs (.inr (rD k))=if k∈ps then some (.int (ps.idxOf k:Nat)) else none)/\kvs.length<=ps.length
def FNum.fr(f:Fr S T T' H H')(hi:2∉S)(h:FNum H T p ps):FNum H' T' p ps:=by
 obtain⟨t,kvs,e,r⟩:=h;exact⟨f.tg _ _ t,kvs,f.at hi t e,r⟩
structure LoreAt(C:Addr)(A:LoA)(a:Addr)(N:Nat)(T:Tg)(H:Hp)(L:LoI):Prop where
 tg:TgOk T H
 oT:T a=none
 ob:H a=some (.ins C A.dx (lM A))
 f0:FLs J_ H T 0 A.p0 L.parts
 f1:FLs FR H T 1 A.p1 L.shapes
 f2:FNum H T A.p2 L.parts
 f3:FK H T 3 A.p3 (IP L.known) N
 f4:FTb E2 H T 4 A.p4 (kN L.everys) N
 f5:FTb E3 H T 5 A.p5 (kN L.nos) N
 f6:FTb Kq H T 6 A.p6 (kS L.withins) N
 f7:FTb ID H T 7 A.p7 (kS L.mk1) N
 f8:FTb ID H T 8 A.p8 (kS L.mk2) N
 f9:FTb EB H T 9 A.p9 (kN L.boths) N
 f10:FTb Kp H T 10 A.p10 (kN L.somes) N
 f11:FK H T 11 A.p11 (JM L.fillers) N
 f12:FT H T 12 A.p12 (IY L.wholes) N
 gd:∀k∈L.parts,oB k
 le:L.parts.length<=N
 sl:L.shapes.length=L.parts.length
 xo:A.ex=[]\/A.ex=IQ\/A.ex=D_
structure vh(K:Frag)(C:Addr):Prop where
 c:Cls K C
 n0:NoAttr K C "parts"
 n1:NoAttr K C "shapes"
 n2:NoAttr K C "numbers"
 n3:NoAttr K C "known"
 n4:NoAttr K C "everys"
 n5:NoAttr K C "nos"
 n6:NoAttr K C "withins"
 n7:NoAttr K C "makes_first"
 n8:NoAttr K C "makes_second"
 n9:NoAttr K C "boths"
 n10:NoAttr K C "somes"
 n11:NoAttr K C "fillers"
 n12:NoAttr K C "wholes"
 n13:NoAttr K C "anything"
 n14:NoAttr K C "nothing"
section
variable (A:LoA)
theorem JH:(lM A).lookup ("parts":Str)=some (V.ref A.p0):=rfl
theorem D9:(lM A).lookup ("shapes":Str)=some (V.ref A.p1):=rfl
theorem lk2:(lM A).lookup ("numbers":Str)=some (V.ref A.p2):=rfl
theorem LU:(lM A).lookup ("known":Str)=some (V.ref A.p3):=rfl
theorem LR:(lM A).lookup ("everys":Str)=some (V.ref A.p4):=rfl
theorem Li:(lM A).lookup ("nos":Str)=some (V.ref A.p5):=rfl
theorem LQ:(lM A).lookup ("withins":Str)=some (V.ref A.p6):=rfl
theorem LP:(lM A).lookup ("makes_first":Str)=some (V.ref A.p7):=rfl
theorem LO:(lM A).lookup ("makes_second":Str)=some (V.ref A.p8):=rfl
theorem Lh:(lM A).lookup ("boths":Str)=some (V.ref A.p9):=rfl
theorem JG:(lM A).lookup ("somes":Str)=some (V.ref A.p10):=rfl
theorem HJ:(lM A).lookup ("fillers":Str)=some (V.ref A.p11):=rfl
theorem JF:(lM A).lookup ("wholes":Str)=some (V.ref A.p12):=rfl
end
section
variable {C:Addr}{A:LoA}{a:Addr}{N:Nat}{T:Tg}{H:Hp}{L:LoI}(h:LoreAt C A a N T H L)
include h in
theorem LoreAt.lkNo:(lM A).lookup ("number_of":Str)=none:=by
 obtain⟨ex,dx,p0,p1,p2,p3,p4,p5,p6,p7,p8,p9,p10,p11,p12⟩:=A;rcases h.xo with e | e | e<;>(cases e;rfl)
include h in
theorem LoreAt.lkSh:(lM A).lookup ("shape_of":Str)=none:=by
 obtain⟨ex,dx,p0,p1,p2,p3,p4,p5,p6,p7,p8,p9,p10,p11,p12⟩:=A;rcases h.xo with e | e | e<;>(cases e;rfl)
include h in
theorem LoreAt.lkKn:(lM A).lookup ("know":Str)=none:=by
 obtain⟨ex,dx,p0,p1,p2,p3,p4,p5,p6,p7,p8,p9,p10,p11,p12⟩:=A;rcases h.xo with e | e | e<;>(cases e;rfl)
include h in
theorem LoreAt.lkLe:(lM A).lookup ("learn":Str)=none:=by
 obtain⟨ex,dx,p0,p1,p2,p3,p4,p5,p6,p7,p8,p9,p10,p11,p12⟩:=A;rcases h.xo with e | e | e<;>(cases e;rfl)
theorem JE(e:A.ex=D_):(lM A).lookup ("anything":Str)=some (V.int 0):=by
 obtain⟨ex,dx,p0,p1,p2,p3,p4,p5,p6,p7,p8,p9,p10,p11,p12⟩:=A;cases e;rfl
theorem Dd(e:A.ex=D_):(lM A).lookup ("nothing":Str)=some (V.int 1):=by
 obtain⟨ex,dx,p0,p1,p2,p3,p4,p5,p6,p7,p8,p9,p10,p11,p12⟩:=A;cases e;rfl
end
inductive tI(C:Addr)(d:Nat)(vs:List V)(H:Hp)(Q:VK):Prop
 | mk:∀a A N T L v k,(vs=[.ref a,v])->(LoreAt C A a N T H L)->(IsK H k v)->(oB k)->(k.nt<=24)->(k.dep<d)->(N+k.sz<=100000)->(∀H' T',Fr [0,1,2] T T' H H'->LoreAt C A a (N+k.sz) T' H' (LoI.num k L)->Q (.int ((LoI.num k L).ix k:Nat)) H')->tI C d vs H Q
def me(C:Addr)(d:Nat):Sp:=fun vs H Q _=>tI C d vs H Q
inductive zk(C:Addr)(d:Nat)(vs:List V)(H:Hp)(Q:VK):Prop
 | mk:∀a A N T L v k,(vs=[.ref a,v])->(LoreAt C A a N T H L)->(IsK H k v)->(oB k)->(k.nt<=24)->(k.dep<d)->(N+k.sz<=100000)->(∀H' T' v',Fr [0,1,2] T T' H H'->LoreAt C A a (N+k.sz - 1) T' H' (LoI.pre k L)->FR H' v' (LoI.shp k L)->Q v' H')->zk C d vs H Q
def F4(C:Addr)(d:Nat):Sp:=fun vs H Q _=>zk C d vs H Q
def LoreAt.mono(h:LoreAt C A a N T H L)(hn:N<=N'):LoreAt C A a N' T H L:=by
 have k:∀{i p f},FK H T i p f N->FK H T i p f N':=fun⟨t,kvs,e,r,l⟩=>⟨t,kvs,e,r,ao l hn⟩;have b:∀{α:Type} {R:Hp->V->α->Prop} {i p f},FTb R H T i p f N->FTb R H T i p f N':=fun⟨t,kvs,e,l,ll,r⟩=>⟨t,kvs,e,ao l hn,fun k=>ao (ll k) hn,r⟩;have f:∀{i p f},FT H T i p f N->FT H T i p f N':=fun⟨t,kvs,e,r,l⟩=>⟨t,kvs,e,r,ao l hn⟩;exact⟨h.tg,h.oT,h.ob,h.f0,h.f1,h.f2,k h.f3,b h.f4,b h.f5,b h.f6,b h.f7,b h.f8,b h.f9,b h.f10,k h.f11,f h.f12,h.gd,ao h.le hn,h.sl,h.xo⟩
def LoreAt.fr(h:LoreAt C A a N T H L)(f:Fr S T T' H H')(hS:∀i∈S,13<=i)(tg:TgOk T' H'):LoreAt C A a N T' H' L:=by
 have n:∀{i},i<13->i∉S:=fun hi z=>by have:=hS _ z;lia
 have oT':T' a=none:=by
  cases e:T' a with
  | none=>rfl
  | some j=>
    rcases f.new a j e with z | z
    · rw[h.oT] at z;cases z
    · rw[h.ob] at z;cases z.1
 exact⟨tg,oT',f.but a _ h.ob (fun i k z=>by rw[h.oT] at z;cases z),h.f0.fr qI f (n (by decide)),h.f1.fr oq f (n (by decide)),h.f2.fr f (n (by decide)),h.f3.fr f (n (by decide)),h.f4.fr e2_mo f (n (by decide)),h.f5.fr e3_mo f (n (by decide)),h.f6.fr es2_mo f (n (by decide)),h.f7.fr es3_mo f (n (by decide)),h.f8.fr es3_mo f (n (by decide)),h.f9.fr eb_mo f (n (by decide)),h.f10.fr esm_mo f (n (by decide)),h.f11.fr f (n (by decide)),h.f12.fr f (n (by decide)),h.gd,h.le,h.sl,h.xo⟩
def LoreAt.same(h:LoreAt C A a N T H L)(s:Same H H'):LoreAt C A a N T H' L:=h.fr (S:=[]) (Fr.of s) (fun i z=>(ai z).elim) (h.tg.same s)
def LoreAt.addp(h:LoreAt C A a N T H L)(ik:IsK H k v)(ok:oB k)(is:FR H v' s)(hk:k∉L.parts)(e2:H A.p2=some (.dK kvs))(e0:H A.p0=some (.lst ps))(e1:H A.p1=some (.lst ss))(H':Hp)(hH:H'=upd (upd (upd H A.p2 (.dK (cq kvs (.inr (rD k)) (.int (L.parts.length:Nat))))) A.p0 (.lst (ps++[v]))) A.p1 (.lst (ss++[v']))):Fr [0,1,2] T T H H'/\LoreAt C A a (N+1) T H' (L.add k s):=by
 subst hH;obtain⟨t2,kvs',e2',r2,l2⟩:=h.f2;rw[e2] at e2';cases e2';have g2:Fr [2] T T H (upd H A.p2 (.dK (cq kvs (.inr (rD k)) (.int (L.parts.length:Nat))))):=Fr.put t2 (by simp) (fun xs z=>by rw[e2] at z;cases z);have d02:A.p0≠A.p2:=fun z=>by rw[z,e2] at e0;cases e0
 have d12:A.p1≠A.p2:=fun z=>by rw[z,e2] at e1;cases e1
 have d10:A.p1≠A.p0:=fun z=>by have a1:=h.f1.1;rw[z,h.f0.1] at a1;cases a1
 obtain⟨f0,g0⟩:=(h.f0.fr qI g2 (by decide)).app (vs:=ps) (v:=v) (x:=k) qI (by rw[aM d02];exact e0) (IsK.mono g2.tups ik);have g20:=(g2.mono (S':=[0,1,2]) (by simp)).trans (g0.mono (S':=[0,1,2]) (by simp));obtain⟨f1,g1⟩:=((h.f1.fr oq g2 (by decide)).fr oq g0 (by decide)).app (vs:=ss) (v:=v') (x:=s) oq (by rw[aM d10,aM d12];exact e1) (oq _ _ _ _ g20.tups is);have g:=g20.trans (g1.mono (S':=[0,1,2]) (by simp));have n:∀{i},3<=i->i∉[0,1,2]:=fun hi z=>by simp at z;lia
 have h':=h.mono (aY N);refine⟨g,⟨((h.tg.put).put).put,h.oT,g.but a _ h.ob (fun i k z=>by rw[h.oT] at z;cases z),f0.fr qI g1 (by decide),f1,?_,h'.f3.fr g (n (by decide)),h'.f4.fr e2_mo g (n (by decide)),h'.f5.fr e3_mo g (n (by decide)),h'.f6.fr es2_mo g (n (by decide)),h'.f7.fr es3_mo g (n (by decide)),h'.f8.fr es3_mo g (n (by decide)),h'.f9.fr eb_mo g (n (by decide)),h'.f10.fr esm_mo g (n (by decide)),h'.f11.fr g (n (by decide)),h'.f12.fr g (n (by decide)),?_,?_,?_,h.xo⟩⟩
 · refine⟨t2,cq kvs (.inr (rD k)) (.int (L.parts.length:Nat)),?_,fun y oy=> ?_,?_⟩
   · rw[aM (bB d12),aM (bB d02),ae]
   · rw[jw];show _=if y∈L.parts++[k] then some (V.int ((L.parts++[k]).idxOf y:Nat)) else none
     by_cases e:y=k
     · subst e;rw[aK rfl,aK (by simp),j_ hk]
     · rw[aG (fun z=>e (Ee oy ok (by injection z))),r2 y oy];by_cases m:y∈L.parts
       · rw[aK m,aK (by simp[m]),jd m]
       · rw[aG m,aG (by simp[m,e])]
   · show _<=(L.parts++[k]).length;rw[ak];exact ao (dY _ _ _) (dQ l2)
 · intro y hy;rcases aI.mp hy with hy | hy
   · exact h.gd y hy
   · rw[ay.mp hy];exact ok
 · show(L.parts++[k]).length<=N+1;rw[ak];exact dQ h.le
 · show(L.shapes++[s]).length=(L.parts++[k]).length;rw[ak,ak,h.sl];rfl
section
def Jq:bb eN eN (aJ j5):=fS
def Ht(F:Fun K "shape_of" "Lore.shape_of" j5 f fd)(lc:vh K C)(mi:mg "isinstance"=none)(ms:mg "str"=none)(Gno:Ml P w K mg base C (2 * d) "number_of" eN (me C d)):bK P w K mg base eJ (2 * d+1) f fd eN (F4 C (d+1)):=by
 refine F.o Jq fun cdv A outer s H vs Q E hr h=> ?_;obtain⟨a,B,N,T,L,v,k,rfl,la,ik,ok,hnt,hd,hN,q⟩:=h;refine⟨_,aZ (bH (fN (Hg mi ms fz bu)) (bg (c_ eo)) br) (aZ (bH (fu dv (eS bu) aN) (bg (c_ (bL (eY aN (gj aC lc.c Gno hr (eE (eS bu))) (gj aC lc.c Gno hr (eE (eS bu))))))) br) (bg (c_ (bL (eY aN (eS bu) (gj aC lc.c Gno hr (eE (eS bu)))))))),?_⟩;cases k with
 | nm x=>
   obtain rfl:v= .str x:=ik;exact⟨_,_,_,true,rfl,TyOf.str x,fX K,(q H T .non Fr.refl (la.mono (by simp[Kd.sz])) rfl)⟩
 | two a' b'=>
   obtain⟨p,x,y,rfl,hp,ha,hb⟩:=id ik;simp only[Kd.nt,Kd.dep] at hnt hd;have hz:(Kd.two a' b').sz=1+a'.sz+b'.sz:=rfl;refine⟨_,_,_,false,rfl,TyOf.tup hp,dj K,⟨_,_,SqT.of hp,aX (j:=0) rfl,?_⟩⟩;refine⟨_,_,la.ob,la.lkNo,_,_,SqT.of hp,aX (j:=1) rfl,a,B,N,T,L,x,a',rfl,la,ha,ok.1,by lia,by lia,by lia,fun H1 T1 f1 l1=> ?_⟩;have hp1:=f1.tups _ _ hp;refine⟨_,_,l1.ob,l1.lkNo,_,_,SqT.of hp1,aX (j:=2) rfl,a,B,_,T1,_,y,b',rfl,l1,IsK.mono f1.tups hb,ok.2,by lia,by lia,by lia,fun H2 T2 f2 l2=>⟨by show 3<=sizeLine;decide,fun t ht=>q _ T2 _ ((f1.trans f2).trans (Fr.of (af ht _))) ((l2.same (af ht _)).mono (by lia)) ⟨t,rfl,ae⟩⟩⟩
 | som r c=>
   obtain⟨p,y,rfl,hp,hc⟩:=id ik;simp only[Kd.nt,Kd.dep] at hnt hd;have hz:(Kd.som r c).sz=1+c.sz:=rfl;refine⟨_,_,_,false,rfl,TyOf.tup hp,dj K,⟨_,_,SqT.of hp,aX (j:=0) rfl,?_⟩⟩;refine⟨_,_,SqT.of hp,aX (j:=1) rfl,_,_,la.ob,la.lkNo,_,_,SqT.of hp,aX (j:=2) rfl,a,B,N,T,L,y,c,rfl,la,hc,ok.2,by lia,by lia,by lia,fun H1 T1 f1 l1=>⟨by show 3<=sizeLine;decide,fun t ht=>q _ T1 _ (f1.trans (Fr.of (af ht _))) ((l1.same (af ht _)).mono (by lia)) ⟨t,rfl,ae⟩⟩⟩
def scNum:bb ["self","x","text","shape"] eN (aJ iW):=fS
def Hv(F:Fun K "number_of" "Lore.number_of" iW f fd)(lc:vh K C)(ml:mg "len"=none)(Gsh:Ml P w K mg base C (2 * d+1) "shape_of" eN (F4 C (d+1)))(Gsk:Cl P w K mg base (d+1) "show_kind" gh (kQ (d+1))):bK P w K mg base eJ (2 * (d+1)) f fd eN (me C (d+1)):=by
 refine F.o scNum fun cdv A outer s H vs Q E hr h=> ?_;obtain⟨a,B,N,T,L,v,k,rfl,la,ik,ok,hnt,hd,hN,q⟩:=h;have hu:=fY hr;refine⟨_,aZ (eV 2 scNum.nd (eU Gsk hr (eE bu)))
  (aZ (bH (fu (nE hu) bx (cM aC)) (aZ (eV 3 scNum.nd (gj aC lc.c Gsh hr (eE bu))) (aZ (dC hu (cM aC) bx (xx ml (cM aC)) rfl) (aZ (bh (BB (cM aC) bu)) (bg (bh (BB (cM aC) bZ)))))) br)
  (bg (c_ (BA hu (cM aC) bx)))),?_⟩
 refine⟨v,k,rfl,ik,ok,hnt,hd,?_⟩;obtain⟨t2,kvs,e2,r2,l2⟩:=la.f2;refine⟨C,_,_,_,la.ob,lc.c,lc.n2,lk2 B,B.p2,_,rfl,DGet.k (k:= .inr (rD k)) e2,?_⟩;rw[r2 k ok];by_cases hk:k∈L.parts
 · rw[aK hk];refine⟨C,_,_,_,la.ob,lc.c,lc.n2,lk2 B,_,.inl ⟨kvs,.inr (rD k),.inl e2,rfl,by rw[r2 k ok,aK hk]⟩,?_⟩;have q0:=q H T Fr.refl;rw[LoI.num_in hk] at q0;exact q0 (la.mono (cR _ _))
 · rw[aG hk];refine⟨_,_,la.ob,la.lkSh,a,B,N,T,L,v,k,rfl,la,ik,ok,hnt,hd,hN,fun H1 T1 v1 f1 l1 is1=> ?_⟩;obtain⟨t0,ps,e0,r0⟩:=l1.f0;obtain⟨t1,ss,e1,r1⟩:=l1.f1;obtain⟨t2',kvs1,e21,r21,l21⟩:=l1.f2;have pl:ps.length=(LoI.pre k L).parts.length:=aR r0;have sl:ss.length=(LoI.pre k L).parts.length:=(aR r1).trans l1.sl;have le1:=l1.le;have hz:1<=k.sz:=by cases k<;>simp only[Kd.sz]<;>lia
   have small:(LoI.pre k L).parts.length<sizeLine:=bA (show _<=100000 by lia) (by decide);have d02:B.p0≠B.p2:=fun z=>by rw[z,e21] at e0;cases e0
   have d12:B.p1≠B.p2:=fun z=>by rw[z,e21] at e1;cases e1
   have d10:B.p1≠B.p0:=fun z=>by rw[z,t0] at t1;cases t1
   obtain⟨g,lN⟩:=l1.addp (IsK.mono f1.tups ik) ok is1 (LoI.pre_not hk) e21 e0 e1 _ rfl;have nd2:∀{o:HO},B.p2≠a:=fun {o} z=>by rw[z,l1.ob] at e21;cases e21
   have nd0:B.p0≠a:=fun z=>by rw[z,l1.ob] at e0;cases e0
   refine⟨C,_,_,_,l1.ob,lc.c,lc.n0,JH B,B.p0,ps,rfl,.inl (SqL.of e0),C,_,_,_,l1.ob,lc.c,lc.n2,lk2 B,_,DPut.k (k:= .inr (rD k)) e21 (bA l21 small),?_⟩;rw[pl];have ob1:∀{o:HO},upd H1 B.p2 o a=some (.ins C B.dx (lM B)):=fun {o}=>by rw[aM (bB (nd2 (o:=o)))];exact l1.ob
   have e01:∀{o:HO},upd H1 B.p2 o B.p0=some (.lst ps):=fun {o}=>by rw[aM d02];exact e0
   refine⟨C,_,_,_,ob1,lc.c,lc.n0,JH B,.inl ⟨rfl,_,SqL.of e01⟩,ps,e01,by rw[pl];exact small,?_⟩;have ob2:∀{o o':HO},upd (upd H1 B.p2 o) B.p0 o' a=some (.ins C B.dx (lM B)):=fun {o o'}=>by rw[aM (bB nd0)];exact ob1
   have e11:∀{o o':HO},upd (upd H1 B.p2 o) B.p0 o' B.p1=some (.lst ss):=fun {o o'}=>by rw[aM d10,aM d12];exact e1
   refine⟨C,_,_,_,ob2,lc.c,lc.n1,D9 B,.inl ⟨rfl,_,SqL.of e11⟩,ss,e11,by rw[sl];exact small,?_⟩;obtain⟨t3,kvs3,e3,r3,l3⟩:=lN.f2;have hin:k∈((LoI.pre k L).add k (LoI.shp k L)).parts:=by show k∈_++[k];simp
   refine⟨C,_,_,_,lN.ob,lc.c,lc.n2,lk2 B,_,.inl ⟨kvs3,.inr (rD k),.inl e3,rfl,by rw[r3 k ok,aK hin]⟩,?_⟩;have q0:=q _ T1 (f1.trans g);rw[LoI.num_eq,aG hk] at q0;exact q0 (lN.mono (by lia))
end
section
def CW:bK P w K mg base eJ (2 * 0) f fd eN (me C 0):=by
 have no:∀vs H Q E,¬ me C 0 vs H Q E:=fun vs H Q E h=>by
  obtain⟨a,A,N,T,L,v,k,_,_,_,_,_,h,_⟩:=h
  lia
 exact⟨fun vs H Q E h=>absurd h (no vs H Q E),fun A outer s H args us vs Q E _ _ _ _ h=>absurd h (no vs H Q E)⟩
theorem zU(A:Mq K C "number_of" "Lore.number_of" iW eN)(A':Mq K C "shape_of" "Lore.shape_of" j5 eN)(lc:vh K C)(ml:mg "len"=none)(mi:mg "isinstance"=none)(ms:mg "str"=none)(Gsk:∀n,Cl P w K mg base n "show_kind" gh (kQ n)):∀d:Nat,Ml P w K mg base C (2 * d) "number_of" eN (me C d)
 | 0=>A.ml fun _=>CW
 | d+1=>A.ml fun F=>Hv F lc ml (A'.ml fun F'=>Ht F' lc mi ms (zU A A' lc ml mi ms Gsk d)) (Gsk (d+1))
end
def LoI.ok1(L:LoI):Kd->Prop
 | .nm x=>L.shapes[L.ix (.nm x)]? =some .no
 | .two a b=>a∈L.parts/\b∈L.parts/\L.shapes[L.ix (.two a b)]? =some (.both (L.ix a) (L.ix b))
 | .som r c=>c∈L.parts/\L.shapes[L.ix (.som r c)]? =some (.some r (L.ix c))
def Sh.lt(n:Nat):Sh->Prop
 | .no=>True
 | .both i j=>i<n/\j<n
 | .some _ j=>j<n
def Sh.lt_mono{n m:Nat}(h:n<=m){s:Sh}(l:s.lt n):s.lt m:=by
 cases s with
 | no=>trivial
 | both i j=>exact⟨ah l.1 h,ah l.2 h⟩
 | some r j=>exact ah (show j<n from l) h
structure LoI.Ok(L:LoI):Prop where
 sl:L.shapes.length=L.parts.length
 sh:∀k∈L.parts,L.ok1 k
 lt:∀(i:Nat) (s:Sh),L.shapes[i]? =some s->s.lt L.parts.length
 nd:L.parts.Nodup
def LoI.ix_lt{L:LoI}(h:k∈L.parts):L.ix k<L.parts.length:=List.idxOf_lt_length_of_mem h
def LoI.add_ok{L:LoI}(o:L.Ok)(hk:k∉L.parts)(hs:(L.add k s).ok1 k)(hl:s.lt (L.parts.length+1)):(L.add k s).Ok:=by
 refine⟨by show(L.shapes++[s]).length=(L.parts++[k]).length;rw[ak,ak,o.sl];rfl,fun y hy=> ?_,fun i q e=> ?_,?_⟩
 case refine_2=>
  have pl:(L.add k s).parts.length=L.parts.length+1:=by show(L.parts++[k]).length=_;rw[ak];rfl
  rw[pl];have e':(L.shapes++[s])[i]? =some q:=e;rcases fP i L.shapes.length with c | c
  · rw[bM c] at e';exact Sh.lt_mono (aY _) (o.lt i q e')
  · rw[bV c] at e';have:q∈[s]:=av e';rw[ay.mp this];exact hl
 case refine_3=>
  show(L.parts++[k]).Nodup;rw[lP];exact⟨o.nd,by simp,fun x hx y hy=>by rw[show y=k by simpa using hy];exact fun z=>hk (by rw[<-z];exact hx)⟩
 rcases aI.mp hy with h | h
 · have ix:∀{z},z∈L.parts->(L.add k s).ix z=L.ix z:=fun hz=>jd hz;have gt:∀{z},z∈L.parts->∀t,L.shapes[L.ix z]? =some t->(L.add k s).shapes[(L.add k s).ix z]? =some t:=fun hz t e=>by
    rw[ix hz];show(L.shapes++[s])[_]? =_;rw[bM (by rw[o.sl];exact LoI.ix_lt hz)];exact e
   have old:=o.sh y h;have mem:∀{z},z∈L.parts->z∈(L.add k s).parts:=fun hz=>aS _ hz;cases y with
   | nm x=>exact gt h _ old
   | two a b=>exact⟨mem old.1,mem old.2.1,by rw[ix old.1,ix old.2.1];exact gt h _ old.2.2⟩
   | som r c=>exact⟨mem old.1,by rw[ix old.1];exact gt h _ old.2⟩
 · rw[ay.mp h];exact hs
theorem LoI.num_ok:∀(k:Kd) {L:LoI},L.Ok->(LoI.num k L).Ok
 | .nm x,L,o=>by
   rw[LoI.num]
   split
   · exact o
   · rename_i h;refine LoI.add_ok o h ?_ trivial;show(L.shapes++[Sh.no])[(L.parts++[Kd.nm x]).idxOf (.nm x)]? =_;rw[j_ h,<-o.sl];simp
 | .two a b,L,o=>by
   have o2:=LoI.num_ok b (LoI.num_ok a o);rw[LoI.num]
   split
   · exact o
   · rename_i h;have hn:Kd.two a b∉(LoI.num b (LoI.num a L)).parts:=LoI.pre_not (k:= .two a b) h;obtain⟨l,e⟩:=LoI.num_sub b (LoI.num a L);have ha:a∈(LoI.num b (LoI.num a L)).parts:=by rw[e];exact aS _ (LoI.num_has a L)
     have hb:=LoI.num_has b (LoI.num a L);have ia:(LoI.num b (LoI.num a L)).ix a=(LoI.num a L).ix a:=by unfold LoI.ix;rw[e,jd (LoI.num_has a L)]
     refine LoI.add_ok o2 hn ⟨aS _ ha,aS _ hb,?_⟩ ⟨by rw[<-ia];exact cJ (LoI.ix_lt ha),cJ (LoI.ix_lt hb)⟩;show((LoI.num b (LoI.num a L)).shapes++[_])[((LoI.num b (LoI.num a L)).parts++[Kd.two a b]).idxOf (.two a b)]? =some (.both (((LoI.num b (LoI.num a L)).parts++[_]).idxOf a) (((LoI.num b (LoI.num a L)).parts++[_]).idxOf b));rw[j_ hn,jd ha,jd hb,<-o2.sl,<-ia];simp[LoI.ix]
 | .som r c,L,o=>by
   have o2:=LoI.num_ok c o;rw[LoI.num]
   split
   · exact o
   · rename_i h;have hn:Kd.som r c∉(LoI.num c L).parts:=LoI.pre_not (k:= .som r c) h;have hc:=LoI.num_has c L;refine LoI.add_ok o2 hn ⟨aS _ hc,?_⟩ (cJ (LoI.ix_lt hc));show((LoI.num c L).shapes++[_])[((LoI.num c L).parts++[Kd.som r c]).idxOf (.som r c)]? =some (.some r (((LoI.num c L).parts++[_]).idxOf c));rw[j_ hn,jd hc,<-o2.sl];simp[LoI.ix]
noncomputable def xO{κ α:Type}[DecidableEq κ](f:κ->Option α)(n:κ)(x:α):κ->Option α:=fun i=>if i=n then some x else f i
noncomputable def xN(f:Str->Nat->Option Nat)(r:Str)(n x:Nat):Str->Nat->Option Nat:=fun s i=>if s=r/\i=n then some x else f s i
noncomputable def LoI.kn(L:LoI)(i:Nat):LoI:={L with known:=L.known++[i]}
noncomputable def LoI.bo(L:LoI)(i j k:Nat):LoI:={L with boths:=rQ (rQ L.boths i (j,k,true)) j (i,k,false)}
noncomputable def LoI.so(L:LoI)(r:Str)(j k:Nat):LoI:={L with somes:=rQ L.somes j (r,k),fillers:=xO L.fillers r ((L.fillers r).getD 0 ||| 2^j),wholes:=xN L.wholes r j k}
noncomputable def LoI.know:Kd->LoI->LoI
 | .nm x,L=>if L.ix (.nm x)∈L.known then L else L.kn (L.ix (.nm x))
 | .two a b,L=>if L.ix (.two a b)∈L.known then L else know b ((know a (L.kn (L.ix (.two a b)))).bo (L.ix a) (L.ix b) (L.ix (.two a b)))
 | .som r c,L=>if L.ix (.som r c)∈L.known then L else know c ((L.kn (L.ix (.som r c))).so r (L.ix c) (L.ix (.som r c)))
theorem LoI.know_rest:∀k L,(LoI.know k L).parts=L.parts/\(LoI.know k L).shapes=L.shapes
 | .nm x,L=>by rw[LoI.know];split<;>exact⟨rfl,rfl⟩
 | .two a b,L=>by
   rw[LoI.know]
   split
   · exact⟨rfl,rfl⟩
   · obtain⟨h1,h2⟩:=LoI.know_rest b ((LoI.know a (L.kn (L.ix (.two a b)))).bo (L.ix a) (L.ix b) (L.ix (.two a b)));obtain⟨h3,h4⟩:=LoI.know_rest a (L.kn (L.ix (.two a b)));exact⟨h1.trans h3,h2.trans h4⟩
 | .som r c,L=>by
   rw[LoI.know]
   split
   · exact⟨rfl,rfl⟩
   · exact LoI.know_rest c _
def LoI.Ok.of{L L':LoI}(o:L.Ok)(h1:L'.parts=L.parts)(h2:L'.shapes=L.shapes):L'.Ok:=by
 have ix:∀z,L'.ix z=L.ix z:=fun z=>by unfold LoI.ix;rw[h1]
 refine⟨by rw[h1,h2];exact o.sl,fun k hk=> ?_,fun i s e=>by rw[h1];exact o.lt i s (by rw[<-h2];exact e),by rw[h1];exact o.nd⟩;rw[h1] at hk;have old:=o.sh k hk;cases k with
 | nm x=>show L'.shapes[_]? =_;rw[h2,ix];exact old
 | two a b=>exact⟨h1 ▸ old.1,h1 ▸ old.2.1,by rw[h2,ix,ix,ix];exact old.2.2⟩
 | som r c=>exact⟨h1 ▸ old.1,by rw[h2,ix,ix];exact old.2⟩
def gG{α:Type}{R:Hp->V->α->Prop}(m:Mo R){H:Hp}{T:Tg}{i:Nat}{p:Addr}{g:Key->List α}{n:Nat}{key:Key}{v:V}{x:α}{Q:VK}(tg:TgOk T H)(h:FTb R H T i p g n)(hn:n<=5000000)(r:R H v x)(q:∀H' T',Fr [i] T T' H H'->TgOk T' H'->FTb R H' T' i p (fun j=>g j++if j=key then [x] else []) (n+1)->Q .non H'):xH [.ref p,kV key,v] H Q:=by
 obtain⟨t,kvs,e,l,ll,rs⟩:=id h;refine⟨p,key,v,kvs,rfl,e,bA (ao l hn) (by decide),?_⟩;rcases rs key with⟨z,_⟩ | ⟨q0,vs,z1,z2,z3,z4⟩
 · refine .inl ⟨z,fun q0 hq H' hH=> ?_⟩;obtain⟨n1,n2,n3⟩:=FTb.new m tg h e z hq r H' hH;exact q H' _ n2 n3 n1
 · refine .inr ⟨q0,vs,z1,z3,by rw[aR z4];exact bA (ao (ll key) hn) (by decide),fun g0 hg H' hH=> ?_⟩;subst hH;have s:=af hg (.lst []);have h1:=h.fr m (Fr.of (S:=[]) s) (ai);obtain⟨n1,n2⟩:=FTb.app m h1 (s _ _ e) z1 (s _ _ z3) (m _ _ _ _ s.tups r);exact q _ T ((Fr.of s).trans n2) ((tg.same s).put) n1
def LoreAt.renew{C:Addr}{A:LoA}{a:Addr}{N N':Nat}{S:List Nat}{T T':Tg}{H H':Hp}{L L':LoI}(h:LoreAt C A a N T H L)(hN:N<=N')(f:Fr S T T' H H')(tg:TgOk T' H')(hp:L'.parts=L.parts)(hs:L'.shapes=L.shapes)(n2:∀i∈S,3<=i)(c3:FK H' T' 3 A.p3 (IP L'.known) N'\/(3∉S/\L'.known=L.known):=by exact .inr ⟨by decide,rfl⟩)(c4:FTb E2 H' T' 4 A.p4 (kN L'.everys) N'\/(4∉S/\L'.everys=L.everys):=by exact .inr ⟨by decide,rfl⟩)(c5:FTb E3 H' T' 5 A.p5 (kN L'.nos) N'\/(5∉S/\L'.nos=L.nos):=by exact .inr ⟨by decide,rfl⟩)(c6:FTb Kq H' T' 6 A.p6 (kS L'.withins) N'\/(6∉S/\L'.withins=L.withins):=by exact .inr ⟨by decide,rfl⟩)(c7:FTb ID H' T' 7 A.p7 (kS L'.mk1) N'\/(7∉S/\L'.mk1=L.mk1):=by exact .inr ⟨by decide,rfl⟩)(c8:FTb ID H' T' 8 A.p8 (kS L'.mk2) N'\/(8∉S/\L'.mk2=L.mk2):=by exact .inr ⟨by decide,rfl⟩)(c9:FTb EB H' T' 9 A.p9 (kN L'.boths) N'\/(9∉S/\L'.boths=L.boths):=by exact .inr ⟨by decide,rfl⟩)(c10:FTb Kp H' T' 10 A.p10 (kN L'.somes) N'\/(10∉S/\L'.somes=L.somes):=by exact .inr ⟨by decide,rfl⟩)(c11:FK H' T' 11 A.p11 (JM L'.fillers) N'\/(11∉S/\L'.fillers=L.fillers):=by exact .inr ⟨by decide,rfl⟩)(c12:FT H' T' 12 A.p12 (IY L'.wholes) N'\/(12∉S/\L'.wholes=L.wholes):=by exact .inr ⟨by decide,rfl⟩):LoreAt C A a N' T' H' L':=by
 have h':=h.mono hN;have n:∀{i},i<3->i∉S:=fun hi z=>by have:=n2 _ z;lia
 have oT':T' a=none:=by
  cases e:T' a with
  | none=>rfl
  | some j=>
    rcases f.new a j e with z | z
    · rw[h.oT] at z;cases z
    · rw[h.ob] at z;cases z.1
 refine⟨tg,oT',f.but a _ h.ob (fun i k z=>by rw[h.oT] at z;cases z),by rw[hp];exact h'.f0.fr qI f (n (by decide)),by rw[hs];exact h'.f1.fr oq f (n (by decide)),by rw[hp];exact h'.f2.fr f (n (by decide)),?_,?_,?_,?_,?_,?_,?_,?_,?_,?_,by rw[hp];exact h'.gd,by rw[hp];exact h'.le,by rw[hp,hs];exact h'.sl,h'.xo⟩
 · rcases c3 with c | ⟨c,e⟩;exact c;rw[e];exact h'.f3.fr f c
 · rcases c4 with c | ⟨c,e⟩;exact c;rw[e];exact h'.f4.fr e2_mo f c
 · rcases c5 with c | ⟨c,e⟩;exact c;rw[e];exact h'.f5.fr e3_mo f c
 · rcases c6 with c | ⟨c,e⟩;exact c;rw[e];exact h'.f6.fr es2_mo f c
 · rcases c7 with c | ⟨c,e⟩;exact c;rw[e];exact h'.f7.fr es3_mo f c
 · rcases c8 with c | ⟨c,e⟩;exact c;rw[e];exact h'.f8.fr es3_mo f c
 · rcases c9 with c | ⟨c,e⟩;exact c;rw[e];exact h'.f9.fr eb_mo f c
 · rcases c10 with c | ⟨c,e⟩;exact c;rw[e];exact h'.f10.fr esm_mo f c
 · rcases c11 with c | ⟨c,e⟩;exact c;rw[e];exact h'.f11.fr f c
 · rcases c12 with c | ⟨c,e⟩;exact c;rw[e];exact h'.f12.fr f c
def zZ(l:List Nat)(i:Nat):(fun j:Key=>if j= .inl (i:Int) then some (V.bl true) else IP l j)=IP (l++[i]):=by
 funext j
 cases j with
 | inl n=>
   show _=if 0<=n/\n.toNat∈l++[i] then some (V.bl true) else none
   by_cases e:n=(i:Int)
   · rw[aK (by rw[e]),aK (by refine⟨by lia,?_⟩;rw[e];simp)]
   · rw[aG (fun z=>e (by injection z))];show(if 0<=n/\n.toNat∈l then some (V.bl true) else none)=_;by_cases c:0<=n/\n.toNat∈l
     · rw[aK c,aK ⟨c.1,aS _ c.2⟩]
     · rw[aG c,aG (fun z=>c ⟨z.1,(aI.mp z.2).resolve_right fun y=>by have:=ay.mp y;lia⟩)]
 | inr r=>rw[aG (by intro z;cases z)];rfl
def Fy(f:Str->Option Nat)(r:Str)(m:Nat):(fun j:Key=>if j= .inr r then some (V.int (m:Int)) else JM f j)=JM (xO f r m):=by
 funext j
 cases j with
 | inl n=>rw[aG (by intro z;cases z)];rfl
 | inr s=>
   show _=(xO f r m s).map _;unfold xO;by_cases e:s=r
   · rw[aK (by rw[e]),aK e];rfl
   · rw[aG (fun z=>e (by injection z)),aG e];rfl
def Eh(f:Str->Nat->Option Nat)(r:Str)(n m:Nat):(fun j:List Key=>if j=[.inr r,.inl (n:Int)] then some (V.int (m:Int)) else IY f j)=IY (xN f r n m):=by
 funext j
 by_cases e:j=[.inr r,.inl (n:Int)]
 · subst e;rw[aK rfl];show _=if 0<=(n:Int) then _ else none
   rw[aK (show 0<=(n:Int) by lia)];unfold xN;have c:r=r/\(n:Int).toNat=n:=⟨rfl,by lia⟩;rw[aK c]
   rfl
 · rw[aG e]
   match j,e with
   | [.inr s,.inl i],e=>
     show(if 0<=i then _ else none)=if 0<=i then _ else none
     by_cases c:0<=i
     · rw[aK c,aK c];unfold xN;rw[aG (fun z=>e (by rw[z.1,<-z.2,L9 c]))]
     · rw[aG c,aG c]
   | [],_=>rfl
   | [.inl _],_=>rfl
   | [.inr _],_=>rfl
   | [.inl _,_],_=>rfl
   | [.inr _,.inr _],_=>rfl
   | x::y::z::w,_=>cases x<;>cases y<;>rfl
inductive vL(C:Addr)(d:Nat)(vs:List V)(H:Hp)(Q:VK):Prop
 | mk:∀a A N T L k,(vs=[.ref a,.int (L.ix k:Nat)])->(LoreAt C A a N T H L)->(L.Ok)->(k∈L.parts)->(k.dep<d)->(N+4 * k.sz<=100000)->(∀H' T',Fr [3,9,10,11,12] T T' H H'->LoreAt C A a (N+4 * k.sz) T' H' (LoI.know k L)->Q .non H')->vL C d vs H Q
def kU(C:Addr)(d:Nat):Sp:=fun vs H Q _=>vL C d vs H Q
theorem oP:∀{l:List α} {k:List β} {i:Nat} {y:β},Paired R l k->k[i]? =some y->∃x,l[i]? =some x/\R x y
 | _,_,0,_,.cons r _,e=>⟨_,rfl,by simp at e;subst e;exact r⟩
 | _,_,i+1,_,.cons _ t,e=>by
   obtain⟨x,h1,h2⟩:=oP (i:=i) t (by simpa using e);exact⟨x,by simpa using h1,h2⟩
 | _,_,_,_,.nil,e=>by simp at e
def Ho(m j:Nat):Builtin.bitOr (m:Int) (1 * 2^((j:Int).toNat))=((m ||| 2^j:Nat):Int):=by
 rw[<-Ge]
 congr 1
 rw[Int.one_mul,bW];simp
def IL{m j:Nat}(q:Q (.int ((m ||| 2^j:Nat):Int)) H):zD (fun i j=>V.int (Builtin.bitOr i j)) (.int (m:Int)) (.int (1 * 2^((j:Int).toNat))) H Q:=by
 show Q (.int (Builtin.bitOr (m:Int) (1 * 2^((j:Int).toNat)))) H;rw[Ho];exact q
def LoI.know_in(h:L.ix k∈L.known):LoI.know k L=L:=by
 cases k<;>(rw[LoI.know];exact aK h)
def LoreAt.nt9{i:Nat}(h:LoreAt C A a N T H L)(f:Fr [9] T T' H H')(tg:TgOk T' H')(n:FTb EB H' T' 9 A.p9 (fun j=>kN L.boths j++if j= .inl (i:Int) then [e] else []) (N+1)):LoreAt C A a (N+1) T' H' {L with boths:=rQ L.boths i e}:=by
 rw[z_] at n;exact h.renew (aY N) f tg rfl rfl (by simp) (c9:= .inl n)
def LoreAt.nt10{i:Nat}(h:LoreAt C A a N T H L)(f:Fr [10] T T' H H')(tg:TgOk T' H')(n:FTb Kp H' T' 10 A.p10 (fun j=>kN L.somes j++if j= .inl (i:Int) then [e] else []) (N+1)):LoreAt C A a (N+1) T' H' {L with somes:=rQ L.somes i e}:=by
 rw[z_] at n;exact h.renew (aY N) f tg rfl rfl (by simp) (c10:= .inl n)
def LoreAt.put3{i:Nat}(h:LoreAt C A a N T H L)(e:H A.p3=some (.dK kvs)):Fr [3] T T H (upd H A.p3 (.dK (cq kvs (.inl (i:Int)) (.bl true))))/\LoreAt C A a (N+1) T (upd H A.p3 (.dK (cq kvs (.inl (i:Int)) (.bl true)))) (L.kn i):=by
 obtain⟨n,f⟩:=h.f3.put (k:= .inl (i:Int)) (v:= .bl true) e;rw[zZ] at n;exact⟨f,h.renew (aY N) f h.tg.put rfl rfl (by simp) (c3:= .inl n)⟩
def LoreAt.put11{m:Nat}(h:LoreAt C A a N T H L)(e:H A.p11=some (.dK kvs)):Fr [11] T T H (upd H A.p11 (.dK (cq kvs (.inr r) (.int (m:Int)))))/\LoreAt C A a (N+1) T (upd H A.p11 (.dK (cq kvs (.inr r) (.int (m:Int))))) {L with fillers:=xO L.fillers r m}:=by
 obtain⟨n,f⟩:=h.f11.put (k:= .inr r) (v:= .int (m:Int)) e;rw[Fy] at n;exact⟨f,h.renew (aY N) f h.tg.put rfl rfl (by simp) (c11:= .inl n)⟩
def LoreAt.put12{i m:Nat}(h:LoreAt C A a N T H L)(e:H A.p12=some (.dT kvs)):Fr [12] T T H (upd H A.p12 (.dT (cq kvs [.inr r,.inl (i:Int)] (.int (m:Int)))))/\LoreAt C A a (N+1) T (upd H A.p12 (.dT (cq kvs [.inr r,.inl (i:Int)] (.int (m:Int))))) {L with wholes:=xN L.wholes r i m}:=by
 obtain⟨n,f⟩:=h.f12.put (k:=[.inr r,.inl (i:Int)]) (v:= .int (m:Int)) e;rw[Eh] at n;exact⟨f,h.renew (aY N) f h.tg.put rfl rfl (by simp) (c12:= .inl n)⟩
section
def scKnow:bb ["self","kind","form","first","second"] mv (aJ tY):=fS
def E5(F:Fun K "know" "Lore.know" tY f fd)(lc:vh K C)(Gkn:Ml P w K mg base C (d+1) "know" mv (kU C d))(Gnt:Cl P w K mg base 1 "note" qp Eo):bK P w K mg base eJ (d+2) f fd mv (kU C (d+1)):=by
 refine F.o scKnow fun cdv A outer s H vs Q E hr h=> ?_;obtain⟨a,B,N,T,L,k,rfl,la,ok,kin,hd,hN,q⟩:=h;have hu:=fY hr;refine⟨_,aZ (bH (fu (qC hu) bu (cM aC)) (bg (j6)) br)
  (aZ (dC hu (cM aC) bu fD rfl)
  (aZ (bH (fu CB (jM bS (cM aC) bu) eo) (bg (j6)) br)
  (aZ (ui (jM bS (cM aC) bu) (eO rfl (bz (fw 2 scKnow.nd) (bz (fw 3 scKnow.nd) (bz (fw 4 scKnow.nd) dD)))))
  (jn (bH (fu dv bx aN) (aZ (bh (gj aC lc.c Gkn hr (eE bZ))) (aZ (bh (eU Gnt hr (eY (cM aC) bZ (bL (eY cL bu fD))))) (bg (bh (eU Gnt hr (eY (cM aC) cL (bL (eY bZ bu fD)))))))) (aZ (bh (eU Gnt hr (eY (cM aC) cL (bL (dW bZ bu))))) (aZ (dC hu (cM aC) bZ (bq sS (rA hu (cM aC) bZ aD) (bq nD aD cL)) rfl) (bg (dC hu (cM aC) (bL (dW bZ cL)) bu rfl)))))
  (bg (bh (gj aC lc.c Gkn hr (eE cL)))))))),?_⟩
 obtain⟨t3,kvs3,e3,r3,l3⟩:=id la.f3;have i3:cZ kvs3 (.inl ((L.ix k:Nat):Int))=if L.ix k∈L.known then some (.bl true) else none:=by
  rw[r3];show(if 0<=((L.ix k:Nat):Int)/\((L.ix k:Nat):Int).toNat∈L.known then _ else _)=_;simp
 have small:∀{n:Nat},n<=100000->n<sizeLine:=fun {n} h=>bA h (by decide);refine⟨C,_,_,_,la.ob,lc.c,lc.n3,LU B,B.p3,_,rfl,DGet.k (k:= .inl (L.ix k:Nat)) e3,?_⟩;rw[i3];by_cases hk:L.ix k∈L.known
 · rw[aK hk];have q0:=q H T Fr.refl;rw[LoI.know_in hk] at q0;exact q0 (la.mono (by lia))
 rw[aG hk];obtain⟨g1,l1⟩:=la.put3 (i:=L.ix k) e3;refine⟨C,_,_,_,la.ob,lc.c,lc.n3,LU B,_,DPut.k (k:= .inl (L.ix k:Nat)) e3 (small (by lia)),?_⟩;generalize upd H B.p3 (.dK (cq kvs3 (.inl ((L.ix k:Nat):Int)) (.bl true)))=H1 at g1 l1⊢;obtain⟨t1,ss,e1,r1⟩:=l1.f1;have shk:=ok.sh k kin;have S5:∀{i:Nat},i=3\/i=9\/i=10\/i=11\/i=12->∀j∈[i],j∈[3,9,10,11,12]:=fun {i} h j hj=>by
  rw[ay.mp hj];simp;lia
 have ok1:(L.kn (L.ix k)).Ok:=ok.of rfl rfl;have hz:1<=k.sz:=by cases k<;>simp only[Kd.sz]<;>lia
 cases k with
 | nm x=>
   obtain⟨v,hv,iv⟩:=oP r1 (show(L.kn (L.ix (.nm x))).shapes[L.ix (.nm x)]? =some .no from shk);have iv':v= .non:=iv;refine⟨C,_,_,_,l1.ob,lc.c,lc.n1,D9 B,ss,v,SqL.of e1,aX hv,rfl,?_⟩;rw[ax iv'];have q0:=q H1 T (g1.mono (S5 (.inl rfl)));rw[LoI.know,aG hk] at q0;exact q0 (l1.mono (by simp only[Kd.sz];lia))
 | two x y=>
   obtain⟨xin,yin,shk⟩:=shk;obtain⟨v,hv,p,rfl,hp⟩:=oP r1 (show(L.kn (L.ix (.two x y))).shapes[L.ix (.two x y)]? =some _ from shk);simp only[Kd.dep] at hd;have hz2:(Kd.two x y).sz=1+x.sz+y.sz:=rfl;refine⟨C,_,_,_,l1.ob,lc.c,lc.n1,D9 B,ss,_,SqL.of e1,aX hv,rfl,?_⟩;refine⟨C,_,_,_,l1.ob,lc.c,lc.n1,D9 B,ss,_,SqL.of e1,aX hv,_,SqT.of hp,rfl,?_⟩;refine⟨fun σ H'=>∃T',σ=[some (.ref a),some (.int (L.ix (.two x y):Nat)),some (.str "both"),some (.int (L.ix x:Nat)),some (.int (L.ix y:Nat))]/\Fr [3,9,10,11,12] T T' H H'/\LoreAt C B a (N+3+4 * x.sz) T' H' ((LoI.know x (L.kn (L.ix (.two x y)))).bo (L.ix x) (L.ix y) (L.ix (.two x y))),?_,?_⟩
   · refine⟨_,_,l1.ob,l1.lkKn,a,B,_,T,L.kn (L.ix (.two x y)),x,rfl,l1,ok1,xin,by lia,by lia,fun H2 T2 f2 l2=> ?_⟩;refine⟨C,_,_,_,l2.ob,lc.c,lc.n9,Lh B,by show 3<=sizeLine;decide,fun t ht=> ?_⟩;have s2:=af ht (.tup [.int (L.ix y:Nat),.int (L.ix (.two x y):Nat),.bl true]);have l2':=l2.same s2;refine gG (key:= .inl ((L.ix x:Nat):Int)) (x:=(L.ix y,L.ix (.two x y),true)) eb_mo l2'.tg l2'.f9 (by lia) ⟨t,rfl,ae⟩ fun H3 T3 f3 tg3 n3=> ?_;have l3':=l2'.nt9 f3 tg3 n3;refine⟨C,_,_,_,l3'.ob,lc.c,lc.n9,Lh B,by show 3<=sizeLine;decide,fun t4 ht4=> ?_⟩;have s4:=af ht4 (.tup [.int (L.ix x:Nat),.int (L.ix (.two x y):Nat),.bl false]);have l4:=l3'.same s4;refine gG (key:= .inl ((L.ix y:Nat):Int)) (x:=(L.ix x,L.ix (.two x y),false)) eb_mo l4.tg l4.f9 (by lia) ⟨t4,rfl,ae⟩ fun H5 T5 f5 tg5 n5=> ?_;have l5:=l4.nt9 f5 tg5 n5;refine⟨T5,rfl,?_,l5.mono (by lia)⟩;exact((((((g1.mono (S5 (.inl rfl))).trans f2).trans (Fr.of s2)).trans (f3.mono (S5 (by simp)))).trans (Fr.of s4)).trans (f5.mono (S5 (by simp))))
   rintro σ H' ⟨T',rfl,fr,l6⟩;have kp:=LoI.know_rest x (L.kn (L.ix (.two x y)));have ok6:((LoI.know x (L.kn (L.ix (.two x y)))).bo (L.ix x) (L.ix y) (L.ix (.two x y))).Ok:=ok.of kp.1 kp.2;have iy:((LoI.know x (L.kn (L.ix (.two x y)))).bo (L.ix x) (L.ix y) (L.ix (.two x y))).ix y=L.ix y:=by show(LoI.know x (L.kn (L.ix (.two x y)))).parts.idxOf y=_;rw[kp.1];rfl
   refine⟨_,_,l6.ob,l6.lkKn,a,B,_,T',_,y,by rw[iy];rfl,l6,ok6,by show y∈(LoI.know x _).parts;rw[kp.1];exact yin,by lia,by lia,fun H7 T7 f7 l7=> ?_⟩;have q0:=q H7 T7 (fr.trans f7);rw[LoI.know,aG hk] at q0;exact q0 (l7.mono (by lia))
 | som r y=>
   obtain⟨yin,shk⟩:=shk;obtain⟨v,hv,p,rfl,hp⟩:=oP r1 (show(L.kn (L.ix (.som r y))).shapes[L.ix (.som r y)]? =some _ from shk);simp only[Kd.dep] at hd;have hz2:(Kd.som r y).sz=1+y.sz:=rfl;refine⟨C,_,_,_,l1.ob,lc.c,lc.n1,D9 B,ss,_,SqL.of e1,aX hv,rfl,?_⟩;refine⟨C,_,_,_,l1.ob,lc.c,lc.n1,D9 B,ss,_,SqL.of e1,aX hv,_,SqT.of hp,rfl,?_⟩;refine⟨fun σ H'=>∃T',σ=[some (.ref a),some (.int (L.ix (.som r y):Nat)),some (.str "some"),some (.str r),some (.int (L.ix y:Nat))]/\Fr [3,9,10,11,12] T T' H H'/\LoreAt C B a (N+4) T' H' ((L.kn (L.ix (.som r y))).so r (L.ix y) (L.ix (.som r y))),?_,?_⟩
   · refine⟨C,_,_,_,l1.ob,lc.c,lc.n10,JG B,by show 2<=sizeLine;decide,fun t ht=> ?_⟩;have s2:=af ht (.tup [.str r,.int (L.ix (.som r y):Nat)]);have l2:=l1.same s2;refine gG (key:= .inl ((L.ix y:Nat):Int)) (x:=(r,L.ix (.som r y))) esm_mo l2.tg l2.f10 (by lia) ⟨t,rfl,ae⟩ fun H3 T3 f3 tg3 n3=> ?_;have l3':=l2.nt10 f3 tg3 n3;obtain⟨t11,kvs11,e11,r11,l11⟩:=id l3'.f11;have lty:L.ix y<L.parts.length:=LoI.ix_lt yin;have lle:=la.le;have val:(cZ kvs11 (.inr r)).getD (.int 0)= .int (((L.fillers r).getD 0:Nat):Int):=by
      rw[r11];show(((L.fillers r).map fun(m:Nat)=>V.int (m:Int))).getD (.int 0)=_;cases L.fillers r<;>rfl
     refine⟨C,_,_,_,l3'.ob,lc.c,lc.n11,HJ B,.inl ⟨_,.inl e11⟩,_,DGet.k (k:= .inr r) e11,⟨by lia,by lia,by decide⟩,?_⟩;rw[val];refine IL ?_;obtain⟨g4,l4⟩:=l3'.put11 (r:=r) (m:=(L.fillers r).getD 0 ||| 2^L.ix y) e11;refine⟨C,_,_,_,l3'.ob,lc.c,lc.n11,HJ B,_,DPut.k (k:= .inr r) e11 (small (by lia)),?_⟩;generalize upd H3 B.p11 (.dK (cq kvs11 (.inr r) (.int (((L.fillers r).getD 0 ||| 2^L.ix y:Nat):Int))))=H4 at g4 l4⊢;refine⟨C,_,_,_,l4.ob,lc.c,lc.n12,JF B,by show 2<=sizeLine;decide,fun t5 ht5=> ?_⟩;have s5:=af ht5 (.tup [.str r,.int (L.ix y:Nat)]);have l5:=l4.same s5;have h5:upd H4 t5 (.tup [.str r,.int (L.ix y:Nat)]) t5=some (.tup [.str r,.int (L.ix y:Nat)]):=ae;generalize upd H4 t5 (.tup [.str r,.int (L.ix y:Nat)])=H5 at s5 l5 h5⊢;obtain⟨t12,kvs12,e12,r12,l12⟩:=id l5.f12;obtain⟨g6,l6⟩:=l5.put12 (r:=r) (i:=L.ix y) (m:=L.ix (.som r y)) e12;refine⟨_,.inr ⟨kvs12,[.inr r,.inl ((L.ix y:Nat):Int)],t5,e12,rfl,h5,small (by lia),rfl⟩,T3,rfl,?_,l6.mono (by lia)⟩;exact((((((g1.mono (S5 (.inl rfl))).trans (Fr.of s2)).trans (f3.mono (S5 (by simp)))).trans (g4.mono (S5 (by simp)))).trans (Fr.of s5)).trans (g6.mono (S5 (by simp))))
   rintro σ H' ⟨T',rfl,fr,l6⟩;have ok6:((L.kn (L.ix (.som r y))).so r (L.ix y) (L.ix (.som r y))).Ok:=ok.of rfl rfl;refine⟨_,_,l6.ob,l6.lkKn,a,B,N+4,T',(L.kn (L.ix (.som r y))).so r (L.ix y) (L.ix (.som r y)),y,rfl,l6,ok6,yin,by lia,by lia,fun H7 T7 f7 l7=> ?_⟩;have q0:=q H7 T7 (fr.trans f7);rw[LoI.know,aG hk] at q0;exact q0 (l7.mono (by lia))
def AY:bK P w K mg base eJ (0+1) f fd mv (kU C 0):=by
 have no:∀vs H Q E,¬ kU C 0 vs H Q E:=fun vs H Q E h=>by
  obtain⟨a,A,N,T,L,k,_,_,_,_,h,_⟩:=h
  lia
 exact⟨fun vs H Q E h=>absurd h (no vs H Q E),fun A outer s H args us vs Q E _ _ _ _ h=>absurd h (no vs H Q E)⟩
theorem wQ(A:Mq K C "know" "Lore.know" tY mv)(lc:vh K C)(Gnt:Cl P w K mg base 1 "note" qp Eo):∀d:Nat,Ml P w K mg base C (d+1) "know" mv (kU C d)
 | 0=>A.ml fun _=>AY
 | d+1=>A.ml fun F=>E5 F lc (wQ A lc Gnt d) Gnt
end
noncomputable def LoI.kk(k:Kd)(L:LoI):LoI:=LoI.know k (LoI.num k L)
noncomputable def LoI.kkp(L:LoI)(p:Str × Kd):LoI:=if p.1="kind" then LoI.kk p.2 L else L
noncomputable def LoI.kks(s:Sy)(L:LoI):LoI:=s.sg.ps.foldl LoI.kkp L
noncomputable def LoI.tb(n:Int):Sy->LoI->LoI
 | .every a b,L=>{L with everys:=rQ L.everys (L.ix a) (L.ix b,n)}
 | .no a b,L=>{L with nos:=rQ (rQ L.nos (L.ix a) (L.ix b,n,true)) (L.ix b) (L.ix a,n,false)}
 | .within r s,L=>{L with withins:=rQ L.withins r (s,n)}
 | .makes r s t,L=>{L with mk1:=rQ L.mk1 r (s,t,n),mk2:=rQ L.mk2 s (r,t,n)}
 | .thing _ _,L=>L
 | .tied _ _ _,L=>L
noncomputable def LoI.learn(n:Int)(s:Sy)(L:LoI):LoI:=LoI.tb n s (LoI.kks s L)
def LoI.know_ok(k:Kd){L:LoI}(o:L.Ok):(LoI.know k L).Ok:=o.of (LoI.know_rest k L).1 (LoI.know_rest k L).2
def LoI.kk_ok(k:Kd){L:LoI}(o:L.Ok):(LoI.kk k L).Ok:=LoI.know_ok k (LoI.num_ok k o)
def LoI.kkp_ok(p:Str × Kd){L:LoI}(o:L.Ok):(L.kkp p).Ok:=by
 unfold LoI.kkp
 split
 · exact LoI.kk_ok _ o
 · exact o
def LoI.kks_ok(o:L.Ok):∀ps:List (Str × Kd),(ps.foldl LoI.kkp L).Ok:=fun ps=>by
 induction ps generalizing L with
 | nil=>exact o
 | cons p ps ih=>exact ih (LoI.kkp_ok p o)
def LoI.kkp_sub(p:Str × Kd)(L:LoI):∃l,(L.kkp p).parts=L.parts++l:=by
 unfold LoI.kkp
 split
 · unfold LoI.kk;rw[(LoI.know_rest _ _).1];exact LoI.num_sub _ _
 · exact⟨[],by simp⟩
theorem LoI.kks_sub:∀(ps:List (Str × Kd)) (L:LoI),∃l,(ps.foldl LoI.kkp L).parts=L.parts++l
 | [],L=>⟨[],by simp⟩
 | p::ps,L=>by
   obtain⟨l,e⟩:=LoI.kkp_sub p L;obtain⟨l',e'⟩:=LoI.kks_sub ps (L.kkp p);exact⟨l++l',by show(ps.foldl LoI.kkp (L.kkp p)).parts=_;rw[e',e,lQ]⟩
theorem LoI.kks_has{p:Str × Kd}(hp:p.1="kind"):∀{ps:List (Str × Kd)} (L:LoI),p∈ps->p.2∈(ps.foldl LoI.kkp L).parts
 | q::ps,L,h=>by
   rcases aL.mp h with e | h
   · subst e;obtain⟨l,e⟩:=LoI.kks_sub ps (L.kkp p);show p.2∈(ps.foldl LoI.kkp (L.kkp p)).parts;rw[e];refine aS _ ?_;unfold LoI.kkp;rw[aK hp];unfold LoI.kk;rw[(LoI.know_rest _ _).1];exact LoI.num_has _ _
   · exact LoI.kks_has hp (L.kkp q) h
noncomputable def Sy.szs(s:Sy):Nat:=(s.parts.map Kd.sz).sum
def Sy.gd(d:Nat)(s:Sy):Prop:=∀k∈s.parts,oB k/\k.nt<=24/\k.dep<d/\k.sz<=60
def GW{s:Sy}(h:s.gd d):s.sg.Ok:=by
 refine⟨?_,fun p hp=> ?_⟩
 · cases s<;>simp[Sy.sg,Sy.sorts,Sy.parts,Sy.hd,vo,je]
 · have hm:p.2∈s.parts:=by rw[<-iI];exact f_ hp
   have hz:=(h p.2 hm).2.2.2;cases s<;>(simp only[Sy.sg,Sy.sorts,Sy.parts,xv,List.zip_nil_left,aL,ai,cj] at hp)
   all_goals first
    | (rcases hp with rfl | rfl)<;>first | exact .inl ⟨rfl,hz⟩ | exact .inr ⟨.inl rfl,_,rfl⟩ | exact .inr ⟨.inr rfl,_,rfl⟩
    | (rcases hp with rfl | rfl | rfl)<;>first | exact .inl ⟨rfl,hz⟩ | exact .inr ⟨.inl rfl,_,rfl⟩ | exact .inr ⟨.inr rfl,_,rfl⟩
def LoreAt.nt4{i:Nat}(h:LoreAt C A a N T H L)(f:Fr [4] T T' H H')(tg:TgOk T' H')(n:FTb E2 H' T' 4 A.p4 (fun j=>kN L.everys j++if j= .inl (i:Int) then [e] else []) (N+1)):LoreAt C A a (N+1) T' H' {L with everys:=rQ L.everys i e}:=by
 rw[z_] at n;exact h.renew (aY N) f tg rfl rfl (by simp) (c4:= .inl n)
def LoreAt.nt5{i:Nat}(h:LoreAt C A a N T H L)(f:Fr [5] T T' H H')(tg:TgOk T' H')(n:FTb E3 H' T' 5 A.p5 (fun j=>kN L.nos j++if j= .inl (i:Int) then [e] else []) (N+1)):LoreAt C A a (N+1) T' H' {L with nos:=rQ L.nos i e}:=by
 rw[z_] at n;exact h.renew (aY N) f tg rfl rfl (by simp) (c5:= .inl n)
def LoreAt.nt6(h:LoreAt C A a N T H L)(f:Fr [6] T T' H H')(tg:TgOk T' H')(n:FTb Kq H' T' 6 A.p6 (fun j=>kS L.withins j++if j= .inr i then [e] else []) (N+1)):LoreAt C A a (N+1) T' H' {L with withins:=rQ L.withins i e}:=by
 rw[Dr] at n;exact h.renew (aY N) f tg rfl rfl (by simp) (c6:= .inl n)
def LoreAt.nt7(h:LoreAt C A a N T H L)(f:Fr [7] T T' H H')(tg:TgOk T' H')(n:FTb ID H' T' 7 A.p7 (fun j=>kS L.mk1 j++if j= .inr i then [e] else []) (N+1)):LoreAt C A a (N+1) T' H' {L with mk1:=rQ L.mk1 i e}:=by
 rw[Dr] at n;exact h.renew (aY N) f tg rfl rfl (by simp) (c7:= .inl n)
def LoreAt.nt8(h:LoreAt C A a N T H L)(f:Fr [8] T T' H H')(tg:TgOk T' H')(n:FTb ID H' T' 8 A.p8 (fun j=>kS L.mk2 j++if j= .inr i then [e] else []) (N+1)):LoreAt C A a (N+1) T' H' {L with mk2:=rQ L.mk2 i e}:=by
 rw[Dr] at n;exact h.renew (aY N) f tg rfl rfl (by simp) (c8:= .inl n)
section
end
noncomputable abbrev BD:List Nat:=[0,1,2,3,4,5,6,7,8,9,10,11,12]
def Bc(h:i<13):∀j∈[i],j∈BD:=fun j hj=>by
 rw[ay.mp hj];have:i∈List.range 13:=cy.mpr h;exact this
def qJ(L:LoI)(h:(((Str.ofString "kind",k):Str × Kd)∈s.sg.ps)):k∈(LoI.kks s L).parts:=LoI.kks_has (p:=(Str.ofString "kind",k)) rfl L h
def wR(h:KL H xs [a,b]):∃x y,xs=[x,y]/\IsK H a x/\IsK H b y:=by
 cases h with
 | cons r t=>
   cases t with
   | cons r2 t2=>cases t2;exact⟨_,_,rfl,r,r2⟩
def Fn(h:KL H xs [a,b,c]):∃x y z,xs=[x,y,z]/\IsK H a x/\IsK H b y/\IsK H c z:=by
 cases h with
 | cons r t=>
   obtain⟨y,z,rfl,h1,h2⟩:=wR t;exact⟨_,y,z,rfl,r,h1,h2⟩
inductive sD(C:Addr)(d:Nat)(vs:List V)(H:Hp)(Q:VK):Prop
 | mk:∀a A N T L n v s,(vs=[.ref a,.int n,v])->(LoreAt C A a N T H L)->(L.Ok)->(IsSy H s v)->(s.gd d)->(N+6 * s.szs+2<=50000)->(∀H' T',Fr BD T T' H H'->LoreAt C A a (N+6 * s.szs+2) T' H' (LoI.learn n s L)->Q .non H')->sD C d vs H Q
def zq(C:Addr)(d:Nat):Sp:=fun vs H Q _=>sD C d vs H Q
section
def scLearn:bb ["self","number","saying","sort","part","first","second"] zJ (aJ tX):=fS
def CO(F:Fun K "learn" "Lore.learn" tX f fd)(lc:vh K C)(mz:mg "zip"=none)(mF0:mg "FORMS"=some (.ref aF))(hF:∀fo ss,(fo,ss)∈je->∃kvs a,tw K P w aF kvs/\cZ kvs (.inr fo)=some (.ref a)/\∀H,SqT K H a (ss.map V.str))(Gkn:Ml P w K mg base C (d+1) "know" mv (kU C d))(Gno:Ml P w K mg base C (2 * d) "number_of" eN (me C d))(Gnt:Cl P w K mg base 1 "note" qp Eo):bK P w K mg base eJ (2 * d+3) f fd zJ (zq C d):=by
 refine F.o scLearn fun cdv A outer s0 H vs Q E hr h=> ?_;obtain⟨a,B,N,T,L,n,v,s,rfl,la,ok,is,gs,hN,q⟩:=h;have hu:=fY hr;refine⟨_,jn (mw (zR rfl mz (dW (zS (gF (v:= .ref aF) rfl mF0 rfl) (eS bx) (fun _ _=>rfl)) (fb tO bx (fC aD) gE))) (eO rfl (bz (fw 3 scLearn.nd) (bz (fw 4 scLearn.nd) dD))) (bg (bH (fu dv bZ aN) (bg (bh (gj aC lc.c Gkn hr (eE (gj aC lc.c Gno hr (eE cL)))))) br)))
  (bg (bH (fu dv (eS bx) aN) (bg (bh (eU Gnt hr (eY (cM aC) (gj aC lc.c Gno hr (eE (eS bx))) (bL (dW (gj aC lc.c Gno hr (eE (eS bx))) bu)))))) (bg (bH (fu dv (eS bx) aN) (aZ (He (i:=5) (j:=6) rfl scLearn.nd rfl rfl (by decide) rfl rfl (dW (gj aC lc.c Gno hr (eE (eS bx))) (gj aC lc.c Gno hr (eE (eS bx)))) rfl) (aZ (bh (eU Gnt hr (eY (cM aC) dJ (bL (eY eZ bu fD))))) (bg (bh (eU Gnt hr (eY (cM aC) eZ (bL (eY dJ bu fD)))))))) (bg (bH (fu dv (eS bx) aN) (bg (bh (eU Gnt hr (eY (cM aC) (eS bx) (bL (dW (eS bx) bu)))))) (bg (bH (fu dv (eS bx) aN) (aZ (bh (eU Gnt hr (eY (cM aC) (eS bx) (bL (eY (eS bx) (eS bx) bu))))) (bg (bh (eU Gnt hr (eY (cM aC) (eS bx) (bL (eY (eS bx) (eS bx) bu))))))) br)))))))),?_⟩
 obtain⟨pv,xs,rfl,hpv,hL⟩:=id (F8 is);have hS:=GW gs;obtain⟨kvs,aT,hkd,hval,hT⟩:=hF _ _ hS.fo;have lL:=KL.len hL;rw[aw] at lL;have inp:∀{p:Str × Kd},p∈s.sg.ps->p.2∈s.parts:=fun {p} hp=>by rw[<-iI];exact f_ hp
 have tot:(s.sg.ps.map fun p=>p.2.sz).sum=s.szs:=by unfold Sy.szs;rw[<-iI,oX];rfl
 have sub:∀i,((s.sg.ps.take i).map fun p=>p.2.sz).sum<=s.szs:=fun i=>by
  rw[<-tot]
  conv=>rhs;rw[<-rp i s.sg.ps,bC,jr]
  exact cR _ _
 have S012:∀j∈[0,1,2],j∈BD:=by decide
 have S5:∀j∈[3,9,10,11,12],j∈BD:=by decide
 refine⟨fun σ H'=>∃(o3 o4:Option V) (T':Tg),σ=[some (.ref a),some (.int n),some (.ref pv),o3,o4,none,none]/\Fr BD T T' H H'/\LoreAt C B a (N+5 * s.szs) T' H' (LoI.kks s L),?_,?_⟩
 · refine⟨_,_,SqT.of hpv,aX (j:=0) rfl,aF,kvs,.inr s.sg.form,.ref aT,rfl,rfl,hkd,hval,1,rfl,pv,_,rfl,SqT.of hpv,B9 _ _,fun pt hpt=> ?_⟩;rw[DM];have spt:=af hpt (.tup xs);refine⟨aT,pt,rfl,⟨_,hT _⟩,⟨_,SqT.of ae⟩,?_⟩;refine w9 (xs:=(s.sg.ps.map (·.1)).map V.str) (ys:=xs) (by rw[aw,aw];lia) (fun i σ H4=>∃(o3 o4:Option V) (T4:Tg),σ=[some (.ref a),some (.int n),some (.ref pv),o3,o4,none,none]/\Fr BD T T4 H H4/\H4 pt=some (.tup xs)/\LoreAt C B a (N+5 * ((s.sg.ps.take i).map fun p=>p.2.sz).sum) T4 H4 ((s.sg.ps.take i).foldl LoI.kkp L)) ⟨none,none,T,rfl,Fr.of spt,ae,(la.same spt).mono (cR _ _)⟩ ?_ ?_ ?_
   · rintro i σ H4 hi ⟨o3,o4,T4,rfl,_,e,_⟩;exact⟨hT _,SqT.of e⟩
   · rintro i x y σ H4 Tn hx hy ⟨o3,o4,T4,rfl,f4,e4,l4⟩ hTn;obtain⟨k',hk1,ik⟩:=KL.get hL hy;rw[aV] at hk1;obtain⟨p,hp,rfl⟩:=b_.mp hk1;rw[aV,aV,hp] at hx;simp only[gu,lO] at hx;subst hx;obtain⟨g1,g2,g3,g4⟩:=gs _ (inp (av hp));have sT:=af hTn (.tup [.str p.1,y]);have l5:=l4.same sT;have f5:Fr BD T T4 H (upd H4 Tn (.tup [.str p.1,y])):=f4.trans (Fr.of sT);have ik5:=IsK.mono f5.tups ik;have sm:((s.sg.ps.take (i+1)).map fun p=>p.2.sz).sum=((s.sg.ps.take i).map fun p=>p.2.sz).sum+p.2.sz:=by
      rw[bF,hp,bC,jr];simp
     have fo:(s.sg.ps.take (i+1)).foldl LoI.kkp L=((s.sg.ps.take i).foldl LoI.kkp L).kkp p:=by
      rw[bF,hp,fB];rfl
     have le1:=sub (i+1);rw[sm] at le1;refine⟨_,SqT.of ae,rfl,?_⟩;have e5:=sT _ _ e4;generalize upd H4 Tn (.tup [.str p.1,y])=H5 at l5 f5 ik5 e5⊢;refine(gJ (fun c1=> ?_) (fun c1=> ?_))
     · have e1:p.1="kind":=by
        have:=ck c1
        injection this
       refine⟨_,_,l5.ob,l5.lkKn,_,_,l5.ob,l5.lkNo,a,B,_,T4,_,y,p.2,rfl,l5,ik5,g1,g2,g3,by lia,fun H6 T6 f6 l6=> ?_⟩;refine⟨a,B,_,T6,_,p.2,rfl,l6,LoI.num_ok _ (LoI.kks_ok ok _),LoI.num_has _ _,g3,by lia,fun H7 T7 f7 l7=> ?_⟩;refine⟨_,_,T7,rfl,(f5.trans (f6.mono S012)).trans (f7.mono S5),f7.tups _ _ (f6.tups _ _ e5),?_⟩;rw[sm,fo];unfold LoI.kkp;rw[aK e1];exact l7.mono (by lia)
     · have e1:¬ p.1="kind":=fun z=>c1 (by rw[z];exact ax rfl);refine⟨_,_,T4,rfl,f5,e5,?_⟩;rw[sm,fo];unfold LoI.kkp;rw[aG e1];exact l5.mono (by lia)
   · rintro σ H4 ⟨o3,o4,T4,rfl,f4,e4,l4⟩;refine⟨o3,o4,T4,rfl,f4,?_⟩;rw[aw,aw,a_,tot] at l4;exact l4
 rintro σ H' ⟨o3,o4,T',rfl,fr,l⟩;rw[iI] at hL;have hpv':=fr.tups _ _ hpv;have hs:s.szs=(s.parts.map Kd.sz).sum:=rfl;cases s with
 | every x y=>
   obtain⟨vx,vy,rfl,kx,ky⟩:=wR hL;obtain⟨x1,x2,x3,x4⟩:=gs x (by simp[Sy.parts]);obtain⟨y1,y2,y3,y4⟩:=gs y (by simp[Sy.parts]);have hx:x∈(LoI.kks (.every x y) L).parts:=qJ (s:= .every x y) L (by simp[Sy.sg,Sy.sorts,Sy.parts]);have hy:y∈(LoI.kks (.every x y) L).parts:=qJ (s:= .every x y) L (by simp[Sy.sg,Sy.sorts,Sy.parts]);have hz:(Sy.every x y).szs=x.sz+y.sz:=by simp[Sy.szs,Sy.parts]
   refine(eF hpv' rfl (⟨C,_,_,_,l.ob,lc.c,lc.n4,LR B,_,_,l.ob,l.lkNo,eF hpv' rfl ⟨a,B,_,T',_,vx,x,rfl,l,IsK.mono fr.tups kx,x1,x2,x3,by lia,fun H1 T1 f1 l1=> ?_⟩⟩));rw[LoI.num_in hx] at l1⊢;have fr1:=fr.trans (f1.mono S012);refine⟨_,_,l1.ob,l1.lkNo,eF (fr1.tups _ _ hpv) rfl ⟨a,B,_,T1,_,vy,y,rfl,l1,IsK.mono fr1.tups ky,y1,y2,y3,by lia,fun H2 T2 f2 l2=> ?_⟩⟩;rw[LoI.num_in hy] at l2⊢;have fr2:=fr1.trans (f2.mono S012);refine⟨by show 2<=sizeLine;decide,fun t ht=> ?_⟩;have s3:=af ht (.tup [.int ((LoI.kks (.every x y) L).ix y:Nat),.int n]);have l3:=l2.same s3;refine gG (key:= .inl (((LoI.kks (.every x y) L).ix x:Nat):Int)) (x:=((LoI.kks (.every x y) L).ix y,n)) e2_mo l3.tg l3.f4 (by lia) ⟨t,rfl,ae⟩ fun H4 T4 f4 tg4 n4=> ?_;exact q H4 T4 ((fr2.trans (Fr.of s3)).trans (f4.mono (Bc (by decide)))) ((l3.nt4 f4 tg4 n4).mono (by lia))
 | no x y=>
   obtain⟨vx,vy,rfl,kx,ky⟩:=wR hL;obtain⟨x1,x2,x3,x4⟩:=gs x (by simp[Sy.parts]);obtain⟨y1,y2,y3,y4⟩:=gs y (by simp[Sy.parts]);have hx:x∈(LoI.kks (.no x y) L).parts:=qJ (s:= .no x y) L (by simp[Sy.sg,Sy.sorts,Sy.parts]);have hy:y∈(LoI.kks (.no x y) L).parts:=qJ (s:= .no x y) L (by simp[Sy.sg,Sy.sorts,Sy.parts]);have hz:(Sy.no x y).szs=x.sz+y.sz:=by simp[Sy.szs,Sy.parts]
   refine(eF hpv' rfl ((eF hpv' rfl (⟨_,_,l.ob,l.lkNo,eF hpv' rfl ⟨a,B,_,T',_,vx,x,rfl,l,IsK.mono fr.tups kx,x1,x2,x3,by lia,fun H1 T1 f1 l1=> ?_⟩⟩))));rw[LoI.num_in hx] at l1⊢;have fr1:=fr.trans (f1.mono S012);refine⟨_,_,l1.ob,l1.lkNo,eF (fr1.tups _ _ hpv) rfl ⟨a,B,_,T1,_,vy,y,rfl,l1,IsK.mono fr1.tups ky,y1,y2,y3,by lia,fun H2 T2 f2 l2=> ?_⟩⟩;rw[LoI.num_in hy] at l2⊢;have fr2:=fr1.trans (f2.mono S012);refine⟨_,_,rfl,C,_,_,_,l2.ob,lc.c,lc.n5,Li B,by show 3<=sizeLine;decide,fun t ht=> ?_⟩;have s3:=af ht (.tup [.int ((LoI.kks (.no x y) L).ix y:Nat),.int n,.bl true]);have l3:=l2.same s3;refine gG (key:= .inl (((LoI.kks (.no x y) L).ix x:Nat):Int)) (x:=((LoI.kks (.no x y) L).ix y,n,true)) e3_mo l3.tg l3.f5 (by lia) ⟨t,rfl,ae⟩ fun H4 T4 f4 tg4 n4=> ?_;have l4:=l3.nt5 f4 tg4 n4;refine⟨C,_,_,_,l4.ob,lc.c,lc.n5,Li B,by show 3<=sizeLine;decide,fun t5 ht5=> ?_⟩;have s5:=af ht5 (.tup [.int ((LoI.kks (.no x y) L).ix x:Nat),.int n,.bl false]);have l5:=l4.same s5;refine gG (key:= .inl (((LoI.kks (.no x y) L).ix y:Nat):Int)) (x:=((LoI.kks (.no x y) L).ix x,n,false)) e3_mo l5.tg l5.f5 (by lia) ⟨t5,rfl,ae⟩ fun H6 T6 f6 tg6 n6=> ?_;exact q H6 T6 ((((fr2.trans (Fr.of s3)).trans (f4.mono (Bc (by decide)))).trans (Fr.of s5)).trans (f6.mono (Bc (by decide)))) ((l5.nt5 f6 tg6 n6).mono (by lia))
 | within r s'=>
   obtain⟨vx,vy,rfl,kx,ky⟩:=wR hL;obtain rfl:vx= .str r:=kx;obtain rfl:vy= .str s':=ky;refine(eF hpv' rfl ((eF hpv' rfl ((eF hpv' rfl (⟨C,_,_,_,l.ob,lc.c,lc.n6,LQ B,eF hpv' rfl (eF hpv' rfl ⟨by show 2<=sizeLine;decide,fun t ht=> ?_⟩)⟩))))));have s3:=af ht (.tup [.str s',.int n]);have l3:=l.same s3;refine gG (key:= .inr r) (x:=(s',n)) es2_mo l3.tg l3.f6 (by lia) ⟨t,rfl,ae⟩ fun H4 T4 f4 tg4 n4=> ?_;exact q H4 T4 ((fr.trans (Fr.of s3)).trans (f4.mono (Bc (by decide)))) ((l3.nt6 f4 tg4 n4).mono (by lia))
 | makes r s' u=>
   obtain⟨vx,vy,vz,rfl,kx,ky,kz⟩:=Fn hL;obtain rfl:vx= .str r:=kx;obtain rfl:vy= .str s':=ky;obtain rfl:vz= .str u:=kz;refine(eF hpv' rfl ((eF hpv' rfl ((eF hpv' rfl ((eF hpv' rfl (⟨C,_,_,_,l.ob,lc.c,lc.n7,LP B,eF hpv' rfl (eF hpv' rfl (eF hpv' rfl ⟨by show 3<=sizeLine;decide,fun t ht=> ?_⟩))⟩))))))));have s3:=af ht (.tup [.str s',.str u,.int n]);have l3:=l.same s3;refine gG (key:= .inr r) (x:=(s',u,n)) es3_mo l3.tg l3.f7 (by lia) ⟨t,rfl,ae⟩ fun H4 T4 f4 tg4 n4=> ?_;have l4:=l3.nt7 f4 tg4 n4;have fr4:=(fr.trans (Fr.of s3)).trans (f4.mono (Bc (i:=7) (by decide)));have hp4:=fr4.tups _ _ hpv;refine⟨C,_,_,_,l4.ob,lc.c,lc.n8,LO B,eF hp4 rfl (eF hp4 rfl (eF hp4 rfl ⟨by show 3<=sizeLine;decide,fun t5 ht5=> ?_⟩))⟩;have s5:=af ht5 (.tup [.str r,.str u,.int n]);have l5:=l4.same s5;refine gG (key:= .inr s') (x:=(r,u,n)) es3_mo l5.tg l5.f8 (by lia) ⟨t5,rfl,ae⟩ fun H6 T6 f6 tg6 n6=> ?_;exact q H6 T6 ((fr4.trans (Fr.of s5)).trans (f6.mono (Bc (by decide)))) ((l5.nt8 f6 tg6 n6).mono (by lia))
 | thing x y=>
   iterate 4 refine eF hpv' (aX (j:=0) rfl) ?_
   exact q H' T' fr (l.mono (by lia))
 | tied x r y=>
   iterate 4 refine eF hpv' (aX (j:=0) rfl) ?_
   exact q H' T' fr (l.mono (by lia))
end
structure Ini(H0 H:Hp)(C a dx:Addr)(fs:List (Str × V))(cs:List (Addr × HO)):Prop where
 ob:H a=some (.ins C dx fs)
 at':∀q∈cs,H q.1=some q.2
 nd:(cs.map (·.1)).Nodup
 new:∀q∈cs,H0 q.1=none/\q.1≠a
 old:∀b o,H0 b=some o->b≠a->H b=some o
def Ini.step{H0 H:Hp}{C a dx p:Addr}{fs:List (Str × V)}{cs:List (Addr × HO)}{o:HO}{f:Str}(h:Ini H0 H C a dx fs cs)(hp:H p=none)(fs':List (Str × V))(hf:ij f (.ref p) fs=fs'):upd H p o a=some (.ins C dx fs)/\Ini H0 (upd (upd H p o) a (.ins C dx fs')) C a dx fs' (cs++[(p,o)]):=by
 subst hf;have pa:p≠a:=fun z=>by rw[z,h.ob] at hp;cases hp
 refine⟨by rw[aM (bB pa)];exact h.ob,ae,fun q hq=> ?_,?_,fun q hq=> ?_,fun b u e nb=> ?_⟩
 · rcases aI.mp hq with hq | hq
   · have e:=h.at' q hq;rw[aM (h.new q hq).2,aM (fun z=>by rw[z,hp] at e;cases e)];exact e
   · rw[ay.mp hq,aM pa,ae]
 · rw[bC,lP];refine⟨h.nd,by simp,fun x hx y hy=> ?_⟩;obtain⟨q,hq,rfl⟩:=cc.mp hx;have e:=h.at' q hq;rw[show y=p by simpa using hy];exact fun z=>by rw[z,hp] at e;cases e
 · rcases aI.mp hq with hq | hq
   · exact h.new q hq
   · rw[ay.mp hq];refine⟨?_,pa⟩;cases c:H0 p with
     | none=>rfl
     | some u=>rw[h.old p u c pa] at hp;cases hp
 · have e1:=h.old b u e nb;rw[aM nb,aM (fun z=>by rw[z,hp] at e1;cases e1)];exact e1
theorem qv:∀{fs:List (Str × V)},(fs.all fun q=> !decide (q.1=f))=true->ij f v fs=fs++[(f,v)]
 | [],_=>rfl
 | (g,x)::r,h=>by
   simp only[fq,ba,Bool.not_eq_true',IR] at h;show(if g=f then _ else _)=_;rw[aG h.1,qv h.2];rfl
section
def Ini.put(i:Ini H0 H C a dx fs cs)(ht:∀Q:VK,(∀p,H p=none->Q (.ref p) (upd H p o))->t σ H Q)(hσ:σ[0]? =some (some (.ref a)))(c:Cls K C)(n:NoAttr K C f)(hl:Nat.blt fs.length 1000=true)(hf:(fs.all fun q=> !decide (q.1=f))=true)(k:∀p H',Ini H0 H' C a dx (fs++[(f,.ref p)]) (cs++[(p,o)])->u D σ H'):Aq (B_ K (ng 0) t f) u D σ H:=by
 refine ht _ fun p hp=> ?_;obtain⟨b,i'⟩:=i.step (o:=o) (f:=f) hp _ (qv hf);refine onV.of hσ ⟨a,C,dx,fs,rfl,b,c,n,Nat.le_of_ble_eq_true hl,?_⟩;rw[qv hf];exact k p _ i'
def KP(h:Aq t (fun D=>D.nx) D σ H):t D σ H:=h
def Ini.lst{K:Frag}{H0 H:Hp}{C a dx:Addr}{fs:List (Str × V)}{cs:List (Addr × HO)}{f:Str}{D:oY}{u:TS}{σ:L2.St}(i:Ini H0 H C a dx fs cs)(c:Cls K C)(n:NoAttr K C f)(hσ:σ[0]? =some (some (.ref a)))(hl:Nat.blt fs.length 1000=true)(hf:(fs.all fun q=> !decide (q.1=f))=true)(k:∀p H',Ini H0 H' C a dx (fs++[(f,.ref p)]) (cs++[(p,.lst [])])->u D σ H'):Aq (B_ K (ng 0) (GQ iE) f) u D σ H:=i.put (fun Q h=>⟨au _,h⟩) hσ c n hl hf k
def Ini.dK{K:Frag}{H0 H:Hp}{C a dx:Addr}{fs:List (Str × V)}{cs:List (Addr × HO)}{f:Str}{D:oY}{u:TS}{σ:L2.St}(i:Ini H0 H C a dx fs cs)(c:Cls K C)(n:NoAttr K C f)(hσ:σ[0]? =some (some (.ref a)))(hl:Nat.blt fs.length 1000=true)(hf:(fs.all fun q=> !decide (q.1=f))=true)(k:∀p H',Ini H0 H' C a dx (fs++[(f,.ref p)]) (cs++[(p,.dK [])])->u D σ H'):Aq (B_ K (ng 0) BU f) u D σ H:=i.put (fun Q h=>h) hσ c n hl hf k
def Ini.dT{K:Frag}{H0 H:Hp}{C a dx:Addr}{fs:List (Str × V)}{cs:List (Addr × HO)}{f:Str}{D:oY}{u:TS}{σ:L2.St}(i:Ini H0 H C a dx fs cs)(c:Cls K C)(n:NoAttr K C f)(hσ:σ[0]? =some (some (.ref a)))(hl:Nat.blt fs.length 1000=true)(hf:(fs.all fun q=> !decide (q.1=f))=true)(k:∀p H',Ini H0 H' C a dx (fs++[(f,.ref p)]) (cs++[(p,.dT [])])->u D σ H'):Aq (B_ K (ng 0) BS f) u D σ H:=i.put (fun Q h=>h) hσ c n hl hf k
end
theorem wX:∀{l:List Addr} {i:Nat},l.Nodup->(h:i<l.length)->l.idxOf l[i]=i
 | x::l,0,_,_=>by simp
 | x::l,i+1,nd,h=>by
   have hm:l[i]'(by simpa using h)∈l:=iO _;have hx:=(ee.mp nd).1;have hne:(x==l[i]'(by simpa using h))=false:=bU.mpr fun e=>hx (by rw[e];exact hm);rw[List.getElem_cons_succ,List.idxOf_cons,hne,cond_false,wX (ee.mp nd).2]
noncomputable def vn(n:Nat)(ps:List Addr):Tg:=fun b=>if ps.idxOf b<ps.length then some (n+ps.idxOf b,none) else none
def BN{n:Nat}{ps:List Addr}(nd:ps.Nodup){i:Nat}{p:Addr}(h:ps[i]? =some p):vn n ps p=some (n+i,none):=by
 obtain⟨hi,e⟩:=bp.mp h;have:ps.idxOf p=i:=by rw[<-e];exact wX nd hi
 unfold vn;rw[this,aK hi]
def tF(h:vn n ps b=some i):b∈ps:=by
 unfold vn at h
 split at h
 · rename_i c;exact List.idxOf_lt_length_iff.mp c
 · cases h
def FNum.bt(b:Bt a H H')(hT:T a=none)(h:FNum H T p ps):FNum H' T p ps:=by
 obtain⟨t0,kvs,e,r⟩:=h;exact⟨t0,kvs,b _ _ e (fun z=>by rw[z,hT] at t0;cases t0),r⟩
def LoreAt.setex(h:LoreAt C A a N T H L)(e:A'={A with ex:=A'.ex})(xo:A'.ex=[]\/A'.ex=IQ\/A'.ex=D_)(ho:o= .ins C A.dx (lM A')):LoreAt C A' a N T (upd H a o) L:=by
 obtain⟨ex,dx,p0,p1,p2,p3,p4,p5,p6,p7,p8,p9,p10,p11,p12⟩:=A';cases e;subst ho;have b:Bt a H (upd H a (.ins C A.dx (lM {A with ex:=ex}))):=fun c u q n=>by rw[aM n];exact q
 have t:Tups H (upd H a (.ins C A.dx (lM {A with ex:=ex}))):=fun c xs q=>b c _ q (fun z=>by rw[z,h.ob] at q;cases q);exact⟨h.tg.put,h.oT,ae,h.f0.bt qI b t h.oT,h.f1.bt oq b t h.oT,h.f2.bt b h.oT,h.f3.bt b h.oT,h.f4.bt e2_mo b t h.oT,h.f5.bt e3_mo b t h.oT,h.f6.bt es2_mo b t h.oT,h.f7.bt es3_mo b t h.oT,h.f8.bt es3_mo b t h.oT,h.f9.bt eb_mo b t h.oT,h.f10.bt esm_mo b t h.oT,h.f11.bt b h.oT,h.f12.bt b h.oT,h.gd,h.le,h.sl,xo⟩
noncomputable def LoI.emp:LoI:=⟨[],[],[],fun _=>[],fun _=>[],fun _=>[],fun _=>[],fun _=>[],fun _=>[],fun _=>[],fun _=>none,fun _ _=>none⟩
noncomputable abbrev anyW:Kd:= .nm "anything"
noncomputable abbrev nothW:Kd:= .nm "nothing"
noncomputable def LoI.init:LoI:=LoI.num nothW (LoI.num anyW LoI.emp)
def LoI.emp_ok:LoI.emp.Ok:=⟨rfl,fun k h=>(ai h).elim,fun i s h=>by have h':([]:List Sh)[i]? =some s:=h;simp at h',.nil⟩
def LoI.init_ok:LoI.init.Ok:=LoI.num_ok _ (LoI.num_ok _ LoI.emp_ok)
def JS:LoI.num anyW LoI.emp=LoI.emp.add anyW .no:=by rw[LoI.num];exact aG (ai)
def Lo:(LoI.num anyW LoI.emp).ix anyW=0:=by rw[JS];exact j_ (l:=[]) (ai)
def wF:nothW≠anyW:=by decide+kernel
def sU:LoI.init=(LoI.emp.add anyW .no).add nothW .no:=by
 unfold LoI.init;rw[JS,LoI.num];exact aG (by show ¬ nothW∈[anyW];rw[ay];exact wF)
def JA:LoI.init.ix nothW=1:=by rw[sU];exact j_ (l:=[anyW]) (by rw[ay];exact wF)
def LV(k:Key):IP [] k=none:=by
 cases k with
 | inl i=>exact aG (fun z=>ai z.2)
 | inr r=>rfl
def My(k:Key):JM (fun _=>none) k=none:=by cases k<;>rfl
def Mc(k:List Key):IY (fun _ _=>none) k=none:=by
 match k with
 | []=>rfl
 | [.inl _]=>rfl
 | [.inr _]=>rfl
 | [.inl _,_]=>rfl
 | [.inr _,.inr _]=>rfl
 | [.inr s,.inl i]=>show(if _ then _ else _)=_;split<;>rfl
 | x::y::z::w=>cases x<;>cases y<;>rfl
inductive sE(C:Addr)(vs:List V)(H:Hp)(Q:VK):Prop
 | mk:∀a dx,(vs=[.ref a])->(H a=some (.ins C dx []))->(∀H' A T,Bt a H H'->(∀b i,T b=some i->H b=none)->LoreAt C A a 2 T H' LoI.init->A.ex=D_->Q .non H')->sE C vs H Q
def zu(C:Addr):Sp:=fun vs H Q _=>sE C vs H Q
section
def EC:bb mo mo (aJ xX):=fS
def CN(hd:0<d)(F:Fun K "__init__" "Lore.__init__" xX f fd)(lc:vh K C)(Gno:Ml P w K mg base C (2 * d) "number_of" eN (me C d)):bK P w K mg base eJ (2 * d+1) f fd mo (zu C):=by
 refine F.o EC fun cdv A outer s0 H vs Q E hr h=> ?_;obtain⟨a,dx,rfl,ea,q⟩:=h;refine⟨_,aZ (cT aC (bE bO) rfl) (aZ (cT aC (bE bO) rfl) (aZ (cT aC cU rfl) (aZ (cT aC cU rfl) (aZ (cT aC cU rfl) (aZ (cT aC cU rfl) (aZ (cT aC cU rfl) (aZ (cT aC cU rfl) (aZ (cT aC cU rfl) (aZ (cT aC cU rfl) (aZ (cT aC cU rfl) (aZ (cT aC cU rfl) (aZ (cT aC jO rfl) (aZ (cT aC (gj aC lc.c Gno hr (eE aN)) rfl) (bg (cT aC (gj aC lc.c Gno hr (eE aN)) rfl))))))))))))))),?_⟩;have i0:Ini H H C a dx [] []:=⟨ea,fun q hq=>(ai hq).elim,.nil,fun q hq=>(ai hq).elim,fun _ _ e _=>e⟩;refine i0.lst lc.c lc.n0 rfl rfl rfl fun p0 H1 i1=> ?_;refine i1.lst lc.c lc.n1 rfl rfl rfl fun p1 H2 i2=> ?_;refine i2.dK lc.c lc.n2 rfl rfl rfl fun p2 H3 i3=> ?_;refine i3.dK lc.c lc.n3 rfl rfl rfl fun p3 H4 i4=> ?_;refine i4.dK lc.c lc.n4 rfl rfl rfl fun p4 H5 i5=> ?_;refine i5.dK lc.c lc.n5 rfl rfl rfl fun p5 H6 i6=> ?_;refine i6.dK lc.c lc.n6 rfl rfl rfl fun p6 H7 i7=> ?_;refine i7.dK lc.c lc.n7 rfl rfl rfl fun p7 H8 i8=> ?_;refine i8.dK lc.c lc.n8 rfl rfl rfl fun p8 H9 i9=> ?_;refine i9.dK lc.c lc.n9 rfl rfl rfl fun p9 H10 i10=> ?_;refine i10.dK lc.c lc.n10 rfl rfl rfl fun p10 H11 i11=> ?_;refine i11.dK lc.c lc.n11 rfl rfl rfl fun p11 H12 i12=> ?_;refine i12.dT lc.c lc.n12 rfl rfl rfl fun p12 H13 i13=> ?_;clear i0 i1 i2 i3 i4 i5 i6 i7 i8 i9 i10 i11 i12
 let ps:List Addr:=[p0,p1,p2,p3,p4,p5,p6,p7,p8,p9,p10,p11,p12]
 let cs:List (Addr × HO):=[(p0,.lst []),(p1,.lst []),(p2,.dK []),(p3,.dK []),(p4,.dK []),(p5,.dK []),(p6,.dK []),(p7,.dK []),(p8,.dK []),(p9,.dK []),(p10,.dK []),(p11,.dK []),(p12,.dT [])]
 let LA:=fun ex=>LoA.mk ex dx p0 p1 p2 p3 p4 p5 p6 p7 p8 p9 p10 p11 p12
 have nd:ps.Nodup:=i13.nd;have ct:∀{i:Nat} {p:Addr} {c:HO},(cs[i]? =some (p,c))->H13 p=some c/\vn 0 ps p=some (0+i,none):=fun {i p c} h=>⟨i13.at' _ (av h),BN nd (by have:=congrArg (Option.map (·.1)) h;rw[<-aV] at this;exact this)⟩;have tin:∀b i,vn 0 ps b=some i->∃o,(b,o)∈cs:=fun b i h=>by
  have hm:b∈(cs.map (·.1)):=tF h;obtain⟨q,hq,rfl⟩:=cc.mp hm;exact⟨q.2,hq⟩
 have aT:vn 0 ps a=none:=by
  cases h:vn 0 ps a with
  | none=>rfl
  | some i=>obtain⟨o,ho⟩:=tin a i h;exact absurd rfl (i13.new _ ho).2
 have nN:∀{α:Type} (k:Key),kN (fun _=>([]:List α)) k=[]:=fun {α} k=>by cases k with | inl i=>show(if _ then _ else _)=_;split<;>rfl | inr r=>rfl
 have nS:∀{α:Type} (k:Key),kS (fun _=>([]:List α)) k=[]:=fun {α} k=>by cases k<;>rfl
 have l0:LoreAt C (LA []) a 0 (vn 0 ps) H13 LoI.emp:=⟨(fun b i h=>by obtain⟨o,ho⟩:=tin b i h;rw[i13.at' _ ho];intro z;cases z),aT,i13.ob,FLs.nil (ct (i:=0) rfl).2 (ct (i:=0) rfl).1,FLs.nil (ct (i:=1) rfl).2 (ct (i:=1) rfl).1,⟨(ct (i:=2) rfl).2,[],(ct (i:=2) rfl).1,fun k _=>rfl,au _⟩,FK.nil LV (ct (i:=3) rfl).2 (ct (i:=3) rfl).1,FTb.nil nN (ct (i:=4) rfl).2 (ct (i:=4) rfl).1,FTb.nil nN (ct (i:=5) rfl).2 (ct (i:=5) rfl).1,FTb.nil nS (ct (i:=6) rfl).2 (ct (i:=6) rfl).1,FTb.nil nS (ct (i:=7) rfl).2 (ct (i:=7) rfl).1,FTb.nil nS (ct (i:=8) rfl).2 (ct (i:=8) rfl).1,FTb.nil nN (ct (i:=9) rfl).2 (ct (i:=9) rfl).1,FTb.nil nN (ct (i:=10) rfl).2 (ct (i:=10) rfl).1,FK.nil My (ct (i:=11) rfl).2 (ct (i:=11) rfl).1,FT.nil Mc (ct (i:=12) rfl).2 (ct (i:=12) rfl).1,fun k h=>(ai h).elim,au _,rfl,.inl rfl⟩;have nm1:oB anyW:=by show fW _=true;decide+kernel
 have nm2:oB nothW:=by show fW _=true;decide+kernel
 refine⟨_,_,l0.ob,l0.lkNo,a,_,0,_,_,_,anyW,rfl,l0,rfl,nm1,by decide,hd,by decide,fun H14 T14 f14 l14=> ?_⟩;rw[Lo];refine⟨a,C,dx,_,rfl,l14.ob,lc.c,lc.n13,by show 13<1000;decide,?_⟩;have l15:=l14.setex (A':=(LA IQ)) rfl (.inr (.inl rfl)) rfl;have y15:ij "anything" (.int ((0:Nat):Int)) (lM (LA []))=lM (LA IQ):=rfl;rw[y15];refine⟨_,_,l15.ob,l15.lkNo,a,_,_,_,_,_,nothW,rfl,l15,rfl,nm2,by decide,hd,by decide,fun H16 T16 f16 l16=> ?_⟩;rw[show(LoI.num nothW (LoI.num anyW LoI.emp)).ix nothW=1 from JA];refine⟨a,C,dx,_,rfl,l16.ob,lc.c,lc.n14,by show 14<1000;decide,?_⟩;have l17:=l16.setex (A':=(LA D_)) rfl (.inr (.inr rfl)) rfl;have y17:ij "nothing" (.int ((1:Nat):Int)) (lM (LA IQ))=lM (LA D_):=rfl;rw[y17];generalize hT0:vn 0 ps=T0 at f14 tin aT;have un:∀{b o},H b=some o->b≠a->H13 b=some o/\∀i k,T0 b=some (i,k)->i∉[0,1,2]:=fun {b o} e n=>⟨i13.old b o e n,fun i k z=>by
  obtain⟨o',ho⟩:=tin b _ z;have:=(i13.new _ ho).1;rw[e] at this;cases this⟩
 have un14:∀{b o},H b=some o->b≠a->H14 b=some o/\∀i k,T14 b=some (i,k)->i∉[0,1,2]:=fun {b o} e n=>by
  obtain⟨u1,u2⟩:=un e n;refine⟨f14.but b o u1 u2,fun i k z=> ?_⟩;rcases f14.new b _ z with z | z
  · exact u2 i k z
  · rw[u1] at z;cases z.1
 have un16:∀{b o},H b=some o->b≠a->H16 b=some o/\∀i k,T16 b=some (i,k)->False:=fun {b o} e n=>by
  obtain⟨u1,u2⟩:=un14 e n;have e15:upd H14 a (.ins C dx (lM (LA IQ))) b=some o:=by rw[aM n];exact u1
  refine⟨f16.but b o e15 u2,fun i k z=> ?_⟩;rcases f16.new b _ z with z | z
  · rcases f14.new b _ z with z | z
    · obtain⟨o',ho⟩:=tin b _ z;have:=(i13.new _ ho).1;rw[e] at this;cases this
    · rw[(un e n).1] at z;cases z.1
  · rw[e15] at z;cases z.1
 refine q _ (LA D_) T16 (fun b o e n=>by rw[aM n];exact(un16 e n).1) (fun b i z=> ?_) l17 rfl;have nb:b≠a:=fun e=>by rw[e,l16.oT] at z;cases z
 cases e:H b with
 | none=>rfl
 | some o=>exact((un16 e nb).2 i.1 i.2 z).elim
end
noncomputable def LoI.of(ps:List (Int × Sy))(ks:List Kd):LoI:=ks.foldl (fun L k=>LoI.kk k L) (ps.foldl (fun L q=>LoI.learn q.1 q.2 L) LoI.init)
noncomputable def gr(ps:List (Int × Sy)):Nat:=(ps.map fun q=>6 * q.2.szs+2).sum
noncomputable def hZ(ks:List Kd):Nat:=(ks.map fun k=>5 * k.sz).sum
def kh{α:Type}(f:α->Nat)(l:List α)(i:Nat):((l.take i).map f).sum<=(l.map f).sum:=by
 conv=>rhs;rw[<-rp i l,bC,jr]
 exact cR _ _
def ki{α:Type}(f:α->Nat){l:List α}{i:Nat}{x:α}(h:l[i]? =some x):((l.take (i+1)).map f).sum=((l.take i).map f).sum+f x:=by
 rw[bF,h,bC,jr];simp
def kf{α β:Type}(f:β->α->β)(b:β){l:List α}{i:Nat}{x:α}(h:l[i]? =some x):(l.take (i+1)).foldl f b=f ((l.take i).foldl f b) x:=by
 rw[bF,h,fB];rfl
def LoI.tb_rest(n:Int)(s:Sy)(L:LoI):(LoI.tb n s L).parts=L.parts/\(LoI.tb n s L).shapes=L.shapes:=by cases s<;>exact⟨rfl,rfl⟩
def LoI.learn_ok(n:Int)(s:Sy){L:LoI}(o:L.Ok):(LoI.learn n s L).Ok:=(LoI.kks_ok o _).of (LoI.tb_rest _ _ _).1 (LoI.tb_rest _ _ _).2
theorem jf{α:Type}{f:LoI->α->LoI}(hf:∀L x,L.Ok->(f L x).Ok):∀(l:List α) {L:LoI},L.Ok->(l.foldl f L).Ok
 | [],_,o=>o
 | x::l,_,o=>jf hf l (hf _ x o)
def uz(d:Nat)(k:Kd):Prop:=oB k/\k.nt<=24/\k.dep<d
inductive pY(C:Addr)(d:Nat)(vs:List V)(H:Hp)(Q:VK):Prop
 | mk:∀lp lf ys zs ps ks,(vs=[.ref lp,.ref lf])->(H lp=some (.lst ys))->(PrL H ys ps)->(H lf=some (.lst zs))->(KL H zs ks)->((∀q∈ps,q.2.gd d))->((∀k∈ks,uz d k))->(2+gr ps+hZ ks<=40000)->(∀H' a A T,Same H H'->(∀b i,T b=some i->H b=none)->H a=none->LoreAt C A a (2+gr ps+hZ ks) T H' (LoI.of ps ks)->A.ex=D_->Q (.ref a) H')->pY C d vs H Q
def vK(C:Addr)(d:Nat):Sp:=fun vs H Q _=>pY C d vs H Q
section
def scLoreOf:bb ["pairs","further","lore","number","saying","kind"] zM (aJ tW):=fS
def AH(F:Fun K "lore_of" "lore_of" tW f fd)(lc:vh K C)(Gin:Il P w K mg base C (2 * d+1) "Lore" mo (zu C))(Gle:Ml P w K mg base C (2 * d+3) "learn" zJ (zq C d))(Gkn:Ml P w K mg base C (d+1) "know" mv (kU C d))(Gno:Ml P w K mg base C (2 * d) "number_of" eN (me C d)):bK P w K mg base eJ (2 * d+4) f fd zM (vK C d):=by
 refine F.o scLoreOf fun cdv A outer s0 H vs Q E hr h=> ?_;obtain⟨lp,lf,ys,zs,ps,ks,rfl,elp,hps,elf,hks,gp,gk,hN,q⟩:=h;refine⟨_,aZ (eV 2 scLoreOf.nd (K8 Gin hr)) (jn (mw (bY aC) (eO rfl (bz (fw 3 scLoreOf.nd) (bz (fw 4 scLoreOf.nd) dD))) (bg (bh (gj bx lc.c Gle hr (dW bZ cL))))) (aZ (mw (bY bu) (fw 5 scLoreOf.nd) (bg (bh (gj bx lc.c Gkn hr (eE (gj bx lc.c Gno hr (eE dJ))))))) (bg (c_ bx)))),?_⟩;refine fun a dx ha hdx ne=> ?_;refine⟨a,dx,rfl,ae,fun H1 B T1 bt tn l1 ex=>⟨rfl,?_⟩⟩;have s1:Same H H1:=fun b o e=>by
  have nb:b≠a:=bI e ha;have nd:b≠dx:=bI e hdx;exact bt b o (by rw[aM nb,aM nd];exact e) nb
 have t1:∀b i,T1 b=some i->H b=none:=fun b i z=>by
  have:=tn b i z;by_cases h1:b=a
  · rw[h1];exact ha
  · by_cases h2:b=dx
    · rw[h2];exact hdx
    · rw[aM h1,aM h2] at this;exact this
 have frS:∀{S:List Nat} {T2:Tg} {H2:Hp},Fr S T1 T2 H1 H2->Same H H2/\∀b i,T2 b=some i->H b=none:=fun {S T2 H2} fr=>⟨fun b o e=>fr.but b o (s1 b o e) (fun i k z=>by rw[t1 b _ z] at e;cases e),fun b i z=>by
  rcases fr.new b i z with z | z
  · exact t1 b i z
  · cases e:H b with
    | none=>rfl
    | some o=>rw[s1 b o e] at z;cases z.1⟩
 have okI:=LoI.init_ok;have lp2:ys.length=ps.length:=aR hps;have lk2:zs.length=ks.length:=aR hks;refine⟨fun σ H'=>∃(o3 o4 o5:Option V) (T':Tg),σ=[some (.ref lp),some (.ref lf),some (.ref a),o3,o4,o5]/\Fr BD T1 T' H1 H'/\LoreAt C B a (2+gr ps) T' H' (ps.foldl (fun L q=>LoI.learn q.1 q.2 L) LoI.init),?_,?_⟩
 · refine⟨⟨_,SqL.of (s1 _ _ elp)⟩,cf (xs:=ys) (fun i σ H'=>∃(o3 o4 o5:Option V) (T':Tg),σ=[some (.ref lp),some (.ref lf),some (.ref a),o3,o4,o5]/\Fr BD T1 T' H1 H'/\LoreAt C B a (2+gr (ps.take i)) T' H' ((ps.take i).foldl (fun L q=>LoI.learn q.1 q.2 L) LoI.init)) ⟨none,none,none,T1,rfl,Fr.refl,l1.mono (cR _ _)⟩ ?_ ?_ ?_⟩
   · rintro i σ H' _ ⟨o3,o4,o5,T',rfl,fr,_⟩;exact SqL.of ((frS fr).1 _ _ elp)
   · rintro i x σ H' hx ⟨o3,o4,o5,T',rfl,fr,l⟩;obtain⟨pq,hpq,t,vy,rfl,ht,hsy⟩:=bN hps hx;have sm:=(frS fr).1;have c1:=ki (fun q:Int × Sy=>6 * q.2.szs+2) hpq;have c2:=kh (fun q:Int × Sy=>6 * q.2.szs+2) ps (i+1);have c3:gr (ps.take (i+1))=gr (ps.take i)+(6 * pq.2.szs+2):=c1;have c4:gr (ps.take (i+1))<=gr ps:=c2;refine⟨_,SqT.of (sm _ _ ht),rfl,?_⟩;refine⟨_,_,l.ob,l.lkLe,a,B,_,T',_,pq.1,vy,pq.2,rfl,l,jf (fun L q o=>LoI.learn_ok _ _ o) _ okI,hsy.mono sm.tups,gp _ (av hpq),by lia,fun H2 T2 f2 l2=>⟨_,_,_,T2,rfl,fr.trans f2,?_⟩⟩;rw[c3,kf _ _ hpq];exact l2.mono (by lia)
   · rintro σ H' ⟨o3,o4,o5,T',rfl,fr,l⟩;rw[lp2,a_] at l;exact⟨o3,o4,o5,T',rfl,fr,l⟩
 rintro σ H' ⟨o3,o4,o5,T',rfl,fr,l⟩;have S012:∀j∈[0,1,2],j∈BD:=by decide
 have S5:∀j∈[3,9,10,11,12],j∈BD:=by decide
 have okP:(ps.foldl (fun L q=>LoI.learn q.1 q.2 L) LoI.init).Ok:=jf (fun L q o=>LoI.learn_ok _ _ o) _ okI;refine⟨⟨_,SqL.of ((frS fr).1 _ _ elf)⟩,cf (xs:=zs) (fun i σ H2=>∃(o5:Option V) (T2:Tg),σ=[some (.ref lp),some (.ref lf),some (.ref a),o3,o4,o5]/\Fr BD T1 T2 H1 H2/\LoreAt C B a (2+gr ps+hZ (ks.take i)) T2 H2 ((ks.take i).foldl (fun L k=>LoI.kk k L) (ps.foldl (fun L q=>LoI.learn q.1 q.2 L) LoI.init))) ⟨o5,T',rfl,fr,l.mono (cR _ _)⟩ ?_ ?_ ?_⟩
 · rintro i σ H2 _ ⟨o5,T2,rfl,f2,_⟩;exact SqL.of ((frS f2).1 _ _ elf)
 · rintro i x σ H2 hx ⟨o5,T2,rfl,f2,l2⟩;obtain⟨k,hk,ik⟩:=KL.get hks hx;have sm:=(frS f2).1;obtain⟨g1,g2,g3⟩:=gk k (av hk);have c3:hZ (ks.take (i+1))=hZ (ks.take i)+5 * k.sz:=ki (fun k:Kd=>5 * k.sz) hk;have c4:hZ (ks.take (i+1))<=hZ ks:=kh (fun k:Kd=>5 * k.sz) ks (i+1);refine⟨_,_,l2.ob,l2.lkKn,_,_,l2.ob,l2.lkNo,a,B,_,T2,_,x,k,rfl,l2,IsK.mono sm.tups ik,g1,g2,g3,by lia,fun H3 T3 f3 l3=> ?_⟩;refine⟨a,B,_,T3,_,k,rfl,l3,LoI.num_ok _ (jf (fun L q o=>LoI.kk_ok _ o) _ okP),LoI.num_has _ _,g3,by lia,fun H4 T4 f4 l4=>⟨_,T4,rfl,(f2.trans (f3.mono S012)).trans (f4.mono S5),?_⟩⟩;rw[c3,kf _ _ hk];exact l4.mono (by lia)
 · rintro σ H2 ⟨o5,T2,rfl,f2,l2⟩;rw[lk2,a_] at l2;exact(q H2 a B T2 (frS f2).1 (frS f2).2 ha l2 ex)
end
inductive Fi where
 | is (x k:Nat) | has (x:Nat) (t:Str) (y:Nat)
 deriving DecidableEq
structure StI where
 steps:List DZ
 facts:List Fi
 stand:List Nat
def FS(H:Hp)(v:V):Fi->Prop
 | .is x k=>∃p:Addr,v= .ref p/\H p=some (.tup [.int (x:Int),.int (k:Int)])
 | .has x t y=>∃p:Addr,v= .ref p/\H p=some (.tup [.int (x:Int),.str t,.int (y:Int)])
def fi_mo:Mo FS:=fun H H' v f t h=>by
 cases f with
 | is x k=>obtain⟨p,e,h⟩:=h;exact⟨p,e,t _ _ h⟩
 | has x r y=>obtain⟨p,e,h⟩:=h;exact⟨p,e,t _ _ h⟩
noncomputable def Fi.key:Fi->List Key
 | .is x k=>[.inl (x:Int),.inl (k:Int)]
 | .has x t y=>[.inl (x:Int),.inr t,.inl (y:Int)]
theorem Fi.key_inj:∀{a b:Fi},a.key=b.key->a=b
 | .is x k,.is x' k',h=>by simp only[Fi.key,cz,Sum.inl.injEq,and_true] at h;rw[show x=x' by lia,show k=k' by lia]
 | .is _ _,.has _ _ _,h=>by simp[Fi.key] at h
 | .has _ _ _,.is _ _,h=>by simp[Fi.key] at h
 | .has x t y,.has x' t' y',h=>by simp only[Fi.key,cz,Sum.inl.injEq,Sum.inr.injEq,and_true] at h;rw[show x=x' by lia,h.2.1,show y=y' by lia]
noncomputable def cu(l:List Nat):Nat:=l.foldl (fun m i=>m ||| 2^i) 0
def wN(l:List Nat)(i:Nat):cu (l++[i])=cu l ||| 2^i:=by unfold cu;rw[fB];rfl
def jQ(l:List Nat)(i:Nat):(cu l).testBit i=decide (i∈l):=by
 have key:∀(l:List Nat) (m:Nat),(l.foldl (fun m i=>m ||| 2^i) m).testBit i=(m.testBit i || decide (i∈l)):=fun l=>by
  induction l with
  | nil=>intro m;simp
  | cons j l ih=>
    intro m;rw[gz,ih,DR];by_cases e:j=i
    · subst e;simp
    · have:¬ i=j:=fun z=>e z.symm;simp[e,this]
 show(l.foldl _ 0).testBit i=_;rw[key l 0];simp
def mG(h:∀i∈l,i<n):cu l<2^n:=by
 refine Nat.lt_pow_two_of_testBit _ fun i hi=> ?_;rw[jQ,ag];exact fun z=>by have:=h i z;lia
noncomputable def gX(F:List Fi)(x:Nat):List Nat:=F.filterMap fun | .is x' k=>if x'=x then some k else none | _=>none
noncomputable def gR(F:List Fi)(k:Nat):List Nat:=F.filterMap fun | .is x k'=>if k'=k then some x else none | _=>none
noncomputable def eG(sh:List Sh)(F:List Fi)(x:Nat)(r:Str):List Nat:=F.filterMap fun
 | .is x' k=>if x'=x then(match sh[k]? with | some (.some r' c)=>if r'=r then some c else none | _=>none) else none
 | _=>none
noncomputable def dE(F:List Fi)(x:Nat)(t:Str):List Nat:=F.filterMap fun | .has x' t' y=>if x'=x/\t'=t then some y else none | _=>none
noncomputable def bX(F:List Fi)(y:Nat)(t:Str):List Nat:=F.filterMap fun | .has x t' y'=>if y'=y/\t'=t then some x else none | _=>none
noncomputable def FX:Fi->List Str
 | .is _ _=>[]
 | .has _ t _=>[t]
noncomputable def dH(F:List Fi):List Str:=dP [] (F.flatMap FX)
noncomputable def zQ(F:List Fi)(ks:List Key):Option V:=(F.findIdx? fun f=>f.key=ks).map fun(i:Nat)=>V.int (i:Int)
noncomputable def yw(g:Nat->List Nat):Key->Option V
 | .inl i=>if 0<=i/\g i.toNat≠[] then some (.int (cu (g i.toNat):Nat)) else none
 | .inr _=>none
noncomputable def AV(g:Nat->Str->List Nat):List Key->Option V
 | [.inl i,.inr t]=>if 0<=i/\g i.toNat t≠[] then some (.int (cu (g i.toNat t):Nat)) else none
 | _=>none
def uG(g:Nat->List Nat)(i:Nat):(yw g (.inl (i:Int))).getD (.int 0)= .int (cu (g i):Nat):=by
 show Option.getD (if 0<=(i:Int)/\g (i:Int).toNat≠[] then some (V.int (cu (g (i:Int).toNat):Nat)) else none) _=_;rw[bW];by_cases e:g i=[]
 · rw[aG (fun z=>z.2 e),e];rfl
 · rw[aK ⟨by lia,e⟩];rfl
def pH(g:Nat->Str->List Nat)(i:Nat)(t:Str):(AV g [.inl (i:Int),.inr t]).getD (.int 0)= .int (cu (g i t):Nat):=by
 show Option.getD (if 0<=(i:Int)/\g (i:Int).toNat t≠[] then some (V.int (cu (g (i:Int).toNat t):Nat)) else none) _=_;rw[bW];by_cases e:g i t=[]
 · rw[aG (fun z=>z.2 e),e];rfl
 · rw[aK ⟨by lia,e⟩];rfl
def pI{n:Nat}(h1:g' n=g n++[j])(h2:∀i,i≠n->g' i=g i):(fun k:Key=>if k= .inl (n:Int) then some (V.int ((cu (g n) ||| 2^j:Nat):Int)) else yw g k)=yw g':=by
 funext k
 cases k with
 | inl i=>
   by_cases e:i=(n:Int)
   · subst e;rw[aK rfl];show _=if 0<=(n:Int)/\g' (n:Int).toNat≠[] then some (V.int (cu (g' (n:Int).toNat):Nat)) else none
     rw[bW,h1,aK ⟨by lia,by simp⟩,wN]
   · rw[aG (fun z=>e (by injection z))];show(if 0<=i/\g i.toNat≠[] then some (V.int (cu (g i.toNat):Nat)) else none)=if 0<=i/\g' i.toNat≠[] then some (V.int (cu (g' i.toNat):Nat)) else none
     by_cases c:0<=i
     · rw[h2 i.toNat (by lia)]
     · rw[aG (fun z=>c z.1),aG (fun z=>c z.1)]
 | inr r=>rw[aG (by intro z;cases z)];rfl
def uF{n:Nat}(h1:g' n t=g n t++[j])(h2:∀i s,¬ (i=n/\s=t)->g' i s=g i s):(fun k:List Key=>if k=[.inl (n:Int),.inr t] then some (V.int ((cu (g n t) ||| 2^j:Nat):Int)) else AV g k)=AV g':=by
 funext k
 by_cases e:k=[.inl (n:Int),.inr t]
 · subst e;rw[aK rfl];show _=if 0<=(n:Int)/\g' (n:Int).toNat t≠[] then some (V.int (cu (g' (n:Int).toNat t):Nat)) else none
   rw[bW,h1,aK ⟨by lia,by simp⟩,wN]
 · rw[aG e]
   match k,e with
   | [.inl i,.inr s],e=>
     show(if 0<=i/\g i.toNat s≠[] then some (V.int (cu (g i.toNat s):Nat)) else none)=if 0<=i/\g' i.toNat s≠[] then some (V.int (cu (g' i.toNat s):Nat)) else none
     by_cases c:0<=i
     · rw[h2 i.toNat s (fun z=>e (by rw[z.2,<-z.1,L9 c]))]
     · rw[aG (fun z=>c z.1),aG (fun z=>c z.1)]
   | [],_=>rfl
   | [.inl _],_=>rfl
   | [.inr _],_=>rfl
   | [.inr _,_],_=>rfl
   | [.inl _,.inl _],_=>rfl
   | x::y::z::w,_=>cases x<;>cases y<;>rfl
def wK(h:∀i,g' i=g i):yw g'=yw g:=by rw[funext h]
def gW(h:∀i t,g' i t=g i t):AV g'=AV g:=by rw[show g'=g from funext fun i=>funext (h i)]
def wm(h:f∉F):zQ F f.key=none:=by
 unfold zQ;rw[lJ.mpr (fun g hg=>ag fun e=>h (by rw[<-Fi.key_inj e];exact hg))]
 rfl
def wj(h:f∈F):zQ F f.key=some (.int (F.idxOf f:Nat)):=by
 unfold zQ;have:(F.findIdx? fun g=>decide (g.key=f.key))=some (F.idxOf f):=by
  induction F with
  | nil=>exact(ai h).elim
  | cons g F ih=>
    rw[List.findIdx?_cons,List.idxOf_cons];by_cases e:g=f
    · subst e;simp
    · have e1:¬ g.key=f.key:=fun z=>e (Fi.key_inj z);rw[aG (by simp[e1]),bU.mpr e,cond_false,ih ((aL.mp h).resolve_left (fun z=>e z.symm))]
      rfl
 rw[this];rfl
def uj(h:f∉F):(fun k:List Key=>if k=f.key then some (V.int (F.length:Nat)) else zQ F k)=zQ (F++[f]):=by
 funext k
 unfold zQ;rw[List.findIdx?_append];by_cases e:k=f.key
 · subst e;rw[aK rfl,lJ.mpr (fun g hg=>ag fun e=>h (by rw[<-Fi.key_inj e];exact hg))];simp
 · rw[aG e];have:([f].findIdx? fun g=>decide (g.key=k))=none:=lJ.mpr fun g hg=>by
    rw[ay.mp hg];exact ag fun z=>e z.symm
   rw[this];cases F.findIdx? fun g=>decide (g.key=k)<;>rfl
def IsSt(T:Tg)(H:Hp)(v:V)(s:DZ):Prop:=∃p pf vf,v= .ref p/\H p=some (.tup [vf,.str s.r,.ref pf,wD s.n])/\IsF H s.f vf/\H pf=some (.lst (s.fr.map V.int))/\T pf=none
def Fr.free(f:Fr S T T' H H')(e:H b=some o)(t:T b=none):T' b=none/\H' b=some o:=by
 refine⟨?_,f.but b o e (fun i k z=>by rw[t] at z;cases z)⟩;cases c:T' b with
 | none=>rfl
 | some j=>
   rcases f.new b j c with z | z
   · rw[t] at z;cases z
   · rw[e] at z;cases z.1
def IsSt.fr(f:Fr S T T' H H')(h:IsSt T H v s):IsSt T' H' v s:=by
 obtain⟨p,pf,vf,e,h1,h2,h3,h4⟩:=h;obtain⟨t,e'⟩:=Fr.free f h3 h4;exact⟨p,pf,vf,e,f.tups _ _ h1,h2.mono f.tups,e',t⟩
def FSt(H:Hp)(T:Tg)(q:Addr)(ss:List DZ):Prop:=T q=some (13,none)/\∃vs,H q=some (.lst vs)/\Paired (IsSt T H) vs ss
def FSt.fr(f:Fr S T T' H H')(hi:13∉S)(h:FSt H T q ss):FSt H' T' q ss:=by
 obtain⟨t,vs,e,r⟩:=h;exact⟨f.tg _ _ t,vs,f.at hi t e,Paired.imp' (fun _ _ z=>IsSt.fr f z) r⟩
structure xt where
 (dx q0 q1 q2 q3 q4 q5 q6 q7 q8 q9:Addr)
noncomputable def lK(B:xt)(l:Addr):List (Str × V):=[("lore",.ref l),("steps",.ref B.q0),("facts",.ref B.q1),("places",.ref B.q2),("stand_ins",.ref B.q3),("kinds_of",.ref B.q4),("those_of",.ref B.q5),("fillers_of",.ref B.q6),("ends",.ref B.q7),("starts",.ref B.q8),("ties",.ref B.q9)]
structure Gd where
 steps:List DZ
 facts:List Fi
 pl:List Key->Option V
 st:Key->Option V
 ko:Key->Option V
 to:Key->Option V
 fo:List Key->Option V
 en:List Key->Option V
 sa:List Key->Option V
 ti:List Str
noncomputable def StI.gd(sh:List Sh)(S:StI):Gd:=⟨S.steps,S.facts,zQ S.facts,IP S.stand,yw (gX S.facts),yw (gR S.facts),AV (eG sh S.facts),AV (dE S.facts),AV (bX S.facts),dH S.facts⟩
structure StG(D:Addr)(B:xt)(b l:Addr)(n:Nat)(T:Tg)(H:Hp)(G:Gd):Prop where
 tg:TgOk T H
 oT:T b=none
 ob:H b=some (.ins D B.dx (lK B l))
 s0:FSt H T B.q0 G.steps
 s1:FLs FS H T 14 B.q1 G.facts
 s2:FT H T 15 B.q2 G.pl n
 s3:FK H T 16 B.q3 G.st n
 s4:FK H T 17 B.q4 G.ko n
 s5:FK H T 18 B.q5 G.to n
 s6:FT H T 19 B.q6 G.fo n
 s7:FT H T 20 B.q7 G.en n
 s8:FT H T 21 B.q8 G.sa n
 s9:T B.q9=some (22,none)/\H B.q9=some (.dK (Dn G.ti))/\G.ti.length<=n
noncomputable abbrev dX:List Nat:=[13,14,15,16,17,18,19,20,21,22]
def StG.renew{D:Addr}{B:xt}{b l:Addr}{n n':Nat}{S:List Nat}{T T':Tg}{H H':Hp}{G G':Gd}(h:StG D B b l n T H G)(hn:n<=n')(f:Fr S T T' H H')(tg:TgOk T' H')(c0:FSt H' T' B.q0 G'.steps\/(13∉S/\G'.steps=G.steps):=by exact .inr ⟨by decide,rfl⟩)(c1:FLs FS H' T' 14 B.q1 G'.facts\/(14∉S/\G'.facts=G.facts):=by exact .inr ⟨by decide,rfl⟩)(c2:FT H' T' 15 B.q2 G'.pl n'\/(15∉S/\G'.pl=G.pl):=by exact .inr ⟨by decide,rfl⟩)(c3:FK H' T' 16 B.q3 G'.st n'\/(16∉S/\G'.st=G.st):=by exact .inr ⟨by decide,rfl⟩)(c4:FK H' T' 17 B.q4 G'.ko n'\/(17∉S/\G'.ko=G.ko):=by exact .inr ⟨by decide,rfl⟩)(c5:FK H' T' 18 B.q5 G'.to n'\/(18∉S/\G'.to=G.to):=by exact .inr ⟨by decide,rfl⟩)(c6:FT H' T' 19 B.q6 G'.fo n'\/(19∉S/\G'.fo=G.fo):=by exact .inr ⟨by decide,rfl⟩)(c7:FT H' T' 20 B.q7 G'.en n'\/(20∉S/\G'.en=G.en):=by exact .inr ⟨by decide,rfl⟩)(c8:FT H' T' 21 B.q8 G'.sa n'\/(21∉S/\G'.sa=G.sa):=by exact .inr ⟨by decide,rfl⟩)(c9:(H' B.q9=some (.dK (Dn G'.ti))/\G'.ti.length<=n')\/(22∉S/\G'.ti=G.ti):=by exact .inr ⟨by decide,rfl⟩):StG D B b l n' T' H' G':=by
 have k:∀{i p g},FK H T i p g n->i∉S->FK H' T' i p g n':=fun z hi=>by
  obtain⟨t,kvs,e,r,le⟩:=z.fr f hi;exact⟨t,kvs,e,r,ao le hn⟩
 have t:∀{i p g},FT H T i p g n->i∉S->FT H' T' i p g n':=fun z hi=>by
  obtain⟨t,kvs,e,r,le⟩:=z.fr f hi;exact⟨t,kvs,e,r,ao le hn⟩
 obtain⟨o1,o2⟩:=Fr.free f h.ob h.oT;refine⟨tg,o1,o2,?_,?_,?_,?_,?_,?_,?_,?_,?_,f.tg _ _ h.s9.1,?_⟩
 · rcases c0 with c | ⟨c,e⟩;exact c;rw[e];exact h.s0.fr f c
 · rcases c1 with c | ⟨c,e⟩;exact c;rw[e];exact h.s1.fr fi_mo f c
 · rcases c2 with c | ⟨c,e⟩;exact c;rw[e];exact t h.s2 c
 · rcases c3 with c | ⟨c,e⟩;exact c;rw[e];exact k h.s3 c
 · rcases c4 with c | ⟨c,e⟩;exact c;rw[e];exact k h.s4 c
 · rcases c5 with c | ⟨c,e⟩;exact c;rw[e];exact k h.s5 c
 · rcases c6 with c | ⟨c,e⟩;exact c;rw[e];exact t h.s6 c
 · rcases c7 with c | ⟨c,e⟩;exact c;rw[e];exact t h.s7 c
 · rcases c8 with c | ⟨c,e⟩;exact c;rw[e];exact t h.s8 c
 · rcases c9 with c | ⟨c,e⟩;exact c;rw[e];exact⟨f.at c h.s9.1 h.s9.2.1,ao h.s9.2.2 hn⟩
abbrev nc{p q:Prop}(h:q):p\/q:= .inr h
def StG.same(h:StG D B b l n T H G)(s:Same H H'):StG D B b l n T H' G:=by
 have z:∀{i:Nat},i∉([]:List Nat):=fun h=>ai h;exact h.renew (aq _) (Fr.of (S:=[]) s) (h.tg.same s) (nc ⟨z,rfl⟩) (nc ⟨z,rfl⟩) (nc ⟨z,rfl⟩) (nc ⟨z,rfl⟩) (nc ⟨z,rfl⟩) (nc ⟨z,rfl⟩) (nc ⟨z,rfl⟩) (nc ⟨z,rfl⟩) (nc ⟨z,rfl⟩) (nc ⟨z,rfl⟩)
def StG.fr(h:StG D B b l n T H G)(f:Fr S T T' H H')(hS:∀i∈S,i<13)(tg:TgOk T' H'):StG D B b l n T' H' G:=by
 have z:∀{i:Nat},13<=i->i∉S:=fun hi m=>by have:=hS _ m;lia
 exact h.renew (aq _) f tg (nc ⟨z (by decide),rfl⟩) (nc ⟨z (by decide),rfl⟩) (nc ⟨z (by decide),rfl⟩) (nc ⟨z (by decide),rfl⟩) (nc ⟨z (by decide),rfl⟩) (nc ⟨z (by decide),rfl⟩) (nc ⟨z (by decide),rfl⟩) (nc ⟨z (by decide),rfl⟩) (nc ⟨z (by decide),rfl⟩) (nc ⟨z (by decide),rfl⟩)
section
def StG.put15(h:StG D B b l n T H G)(e:H B.q2=some (.dT kvs)):Fr [15] T T H (upd H B.q2 (.dT (cq kvs k v)))/\StG D B b l (n+1) T (upd H B.q2 (.dT (cq kvs k v))) {G with pl:=fun j=>if j=k then some v else G.pl j}:=by
 obtain⟨n',f⟩:=h.s2.put (k:=k) (v:=v) e;exact⟨f,h.renew (aY n) f h.tg.put (c2:= .inl n')⟩
def StG.put16(h:StG D B b l n T H G)(e:H B.q3=some (.dK kvs)):Fr [16] T T H (upd H B.q3 (.dK (cq kvs k v)))/\StG D B b l (n+1) T (upd H B.q3 (.dK (cq kvs k v))) {G with st:=fun j=>if j=k then some v else G.st j}:=by
 obtain⟨n',f⟩:=h.s3.put (k:=k) (v:=v) e;exact⟨f,h.renew (aY n) f h.tg.put (c3:= .inl n')⟩
def StG.put17(h:StG D B b l n T H G)(e:H B.q4=some (.dK kvs)):Fr [17] T T H (upd H B.q4 (.dK (cq kvs k v)))/\StG D B b l (n+1) T (upd H B.q4 (.dK (cq kvs k v))) {G with ko:=fun j=>if j=k then some v else G.ko j}:=by
 obtain⟨n',f⟩:=h.s4.put (k:=k) (v:=v) e;exact⟨f,h.renew (aY n) f h.tg.put (c4:= .inl n')⟩
def StG.put18(h:StG D B b l n T H G)(e:H B.q5=some (.dK kvs)):Fr [18] T T H (upd H B.q5 (.dK (cq kvs k v)))/\StG D B b l (n+1) T (upd H B.q5 (.dK (cq kvs k v))) {G with to:=fun j=>if j=k then some v else G.to j}:=by
 obtain⟨n',f⟩:=h.s5.put (k:=k) (v:=v) e;exact⟨f,h.renew (aY n) f h.tg.put (c5:= .inl n')⟩
def StG.put19(h:StG D B b l n T H G)(e:H B.q6=some (.dT kvs)):Fr [19] T T H (upd H B.q6 (.dT (cq kvs k v)))/\StG D B b l (n+1) T (upd H B.q6 (.dT (cq kvs k v))) {G with fo:=fun j=>if j=k then some v else G.fo j}:=by
 obtain⟨n',f⟩:=h.s6.put (k:=k) (v:=v) e;exact⟨f,h.renew (aY n) f h.tg.put (c6:= .inl n')⟩
def StG.put20(h:StG D B b l n T H G)(e:H B.q7=some (.dT kvs)):Fr [20] T T H (upd H B.q7 (.dT (cq kvs k v)))/\StG D B b l (n+1) T (upd H B.q7 (.dT (cq kvs k v))) {G with en:=fun j=>if j=k then some v else G.en j}:=by
 obtain⟨n',f⟩:=h.s7.put (k:=k) (v:=v) e;exact⟨f,h.renew (aY n) f h.tg.put (c7:= .inl n')⟩
def StG.put21(h:StG D B b l n T H G)(e:H B.q8=some (.dT kvs)):Fr [21] T T H (upd H B.q8 (.dT (cq kvs k v)))/\StG D B b l (n+1) T (upd H B.q8 (.dT (cq kvs k v))) {G with sa:=fun j=>if j=k then some v else G.sa j}:=by
 obtain⟨n',f⟩:=h.s8.put (k:=k) (v:=v) e;exact⟨f,h.renew (aY n) f h.tg.put (c8:= .inl n')⟩
def StG.app14(h:StG D B b l n T H G)(e:H B.q1=some (.lst vs))(r:FS H v f):Fr [14] T T H (upd H B.q1 (.lst (vs++[v])))/\StG D B b l n T (upd H B.q1 (.lst (vs++[v]))) {G with facts:=G.facts++[f]}:=by
 obtain⟨n',f⟩:=h.s1.app (v:=v) (x:=f) fi_mo e r;exact⟨f,h.renew (aq n) f h.tg.put (c1:= .inl n')⟩
def StG.app13(h:StG D B b l n T H G)(e:H B.q0=some (.lst vs))(r:IsSt T H v s):Fr [13] T T H (upd H B.q0 (.lst (vs++[v])))/\StG D B b l n T (upd H B.q0 (.lst (vs++[v]))) {G with steps:=G.steps++[s]}:=by
 obtain⟨t,vs',e',rs⟩:=id h.s0;rw[e] at e';cases e';have f:Fr [13] T T H (upd H B.q0 (.lst (vs++[v]))):=Fr.put t (by simp) (fun xs z=>by rw[e] at z;cases z);have n':FSt (upd H B.q0 (.lst (vs++[v]))) T B.q0 (G.steps++[s]):=⟨t,_,ae,oQ (Paired.imp' (fun _ _ z=>IsSt.fr f z) rs) (.cons (IsSt.fr f r) .nil)⟩;exact⟨f,h.renew (aq n) f h.tg.put (c0:= .inl n')⟩
def StG.put22(h:StG D B b l n T H G):Fr [22] T T H (upd H B.q9 (.dK (cq (Dn G.ti) (.inr t) (.bl true))))/\StG D B b l (n+1) T (upd H B.q9 (.dK (cq (Dn G.ti) (.inr t) (.bl true)))) {G with ti:=lI G.ti t}:=by
 have f:Fr [22] T T H (upd H B.q9 (.dK (cq (Dn G.ti) (.inr t) (.bl true)))):=Fr.put h.s9.1 (by simp) (fun xs z=>by rw[h.s9.2.1] at z;cases z);exact⟨f,h.renew (aY n) f h.tg.put (c9:= .inl ⟨by rw[ae,vj],ao (rm _ _) (dQ h.s9.2.2)⟩)⟩
end
structure tm(K:Frag)(D:Addr):Prop where
 c:Cls K D
 m0:NoAttr K D "lore"
 m1:NoAttr K D "steps"
 m2:NoAttr K D "facts"
 m3:NoAttr K D "places"
 m4:NoAttr K D "stand_ins"
 m5:NoAttr K D "kinds_of"
 m6:NoAttr K D "those_of"
 m7:NoAttr K D "fillers_of"
 m8:NoAttr K D "ends"
 m9:NoAttr K D "starts"
 m10:NoAttr K D "ties"
section
variable (B:xt)(l:Addr)
theorem pA:(lK B l).lookup ("lore":Str)=some (V.ref l):=rfl
theorem Jn:(lK B l).lookup ("steps":Str)=some (V.ref B.q0):=rfl
theorem IJ:(lK B l).lookup ("facts":Str)=some (V.ref B.q1):=rfl
theorem B5:(lK B l).lookup ("places":Str)=some (V.ref B.q2):=rfl
theorem LK:(lK B l).lookup ("stand_ins":Str)=some (V.ref B.q3):=rfl
theorem KN:(lK B l).lookup ("kinds_of":Str)=some (V.ref B.q4):=rfl
theorem Ke:(lK B l).lookup ("those_of":Str)=some (V.ref B.q5):=rfl
theorem KM:(lK B l).lookup ("fillers_of":Str)=some (V.ref B.q6):=rfl
theorem Kc:(lK B l).lookup ("ends":Str)=some (V.ref B.q7):=rfl
theorem II:(lK B l).lookup ("starts":Str)=some (V.ref B.q8):=rfl
theorem Jm:(lK B l).lookup ("ties":Str)=some (V.ref B.q9):=rfl
theorem xJ:(lK B l).lookup ("keep_is":Str)=none:=rfl
theorem vT:(lK B l).lookup ("keep_has":Str)=none:=rfl
theorem cP:(lK B l).lookup ("tell_is":Str)=none:=rfl
theorem fV:(lK B l).lookup ("tell_has":Str)=none:=rfl
theorem mn:(lK B l).lookup ("let_stand":Str)=none:=rfl
theorem B3:(lK B l).lookup ("begin":Str)=none:=rfl
theorem B2:(lK B l).lookup ("go_on":Str)=none:=rfl
theorem tL:(lK B l).lookup ("from_kind":Str)=none:=rfl
theorem rG:(lK B l).lookup ("from_pairs":Str)=none:=rfl
theorem vV:(lK B l).lookup ("from_end":Str)=none:=rfl
theorem vU:(lK B l).lookup ("from_tie":Str)=none:=rfl
theorem qd:(lK B l).lookup ("from_chains":Str)=none:=rfl
end
noncomputable def StI.keep(S:StI)(f:Fi)(st:DZ):StI:=⟨S.steps++[st],S.facts++[f],S.stand⟩
noncomputable def StI.cnt(S:StI):Nat:=6 * S.facts.length+S.stand.length
def eX{β:Type}(g:Fi->Option β)(F:List Fi)(f:Fi):(F++[f]).filterMap g=F.filterMap g++(match g f with | some y=>[y] | none=>[]):=by
 rw[Ko]
 congr 1
 cases e:g f<;>simp[e]
def Gs(F:List Fi)(x k:Nat):gX (F++[.is x k]) x=gX F x++[k]:=by unfold gX;rw[eX];simp
def Gr(F:List Fi){x k i:Nat}(h:i≠x):gX (F++[.is x k]) i=gX F i:=by unfold gX;rw[eX];simp[bB h]
def HN(F:List Fi)(x:Nat)(t:Str)(y i:Nat):gX (F++[.has x t y]) i=gX F i:=by unfold gX;rw[eX];simp
def FW(F:List Fi)(x k:Nat):gR (F++[.is x k]) k=gR F k++[x]:=by unfold gR;rw[eX];simp
def FV(F:List Fi){x k i:Nat}(h:i≠k):gR (F++[.is x k]) i=gR F i:=by unfold gR;rw[eX];simp[bB h]
def GG(F:List Fi)(x:Nat)(t:Str)(y i:Nat):gR (F++[.has x t y]) i=gR F i:=by unfold gR;rw[eX];simp
def Ih{sh:List Sh}(F:List Fi){x k c:Nat}{r:Str}(h:sh[k]? =some (.some r c)):eG sh (F++[.is x k]) x r=eG sh F x r++[c]:=by unfold eG;rw[eX];simp[h]
def Ig{sh:List Sh}(F:List Fi){x k c i:Nat}{r s:Str}(h:sh[k]? =some (.some r c))(n:¬ (i=x/\s=r)):eG sh (F++[.is x k]) i s=eG sh F i s:=by
 unfold eG;rw[eX];simp only[h];by_cases e:x=i
 · subst e;have:¬ r=s:=fun z=>n ⟨rfl,z.symm⟩;simp[this]
 · simp[e]
def Ie{sh:List Sh}(F:List Fi){x k:Nat}(h:∀r c,sh[k]? ≠some (.some r c))(i:Nat)(s:Str):eG sh (F++[.is x k]) i s=eG sh F i s:=by
 unfold eG;rw[eX];cases e:sh[k]? with
 | none=>by_cases e2:x=i<;>simp[e,e2]
 | some q=>
   cases q with
   | no=>by_cases e2:x=i<;>simp[e,e2]
   | both a b=>by_cases e2:x=i<;>simp[e,e2]
   | some r c=>exact absurd e (h r c)
def Fx(F:List Fi)(x:Nat)(t:Str)(y i:Nat)(s:Str):eG sh (F++[.has x t y]) i s=eG sh F i s:=by unfold eG;rw[eX];simp
def Ij(F:List Fi)(x:Nat)(t:Str)(y:Nat):dE (F++[.has x t y]) x t=dE F x t++[y]:=by unfold dE;rw[eX];simp
def JN(F:List Fi){x y i:Nat}{t s:Str}(n:¬ (i=x/\s=t)):dE (F++[.has x t y]) i s=dE F i s:=by
 unfold dE;rw[eX];have:¬ (x=i/\t=s):=fun z=>n ⟨z.1.symm,z.2.symm⟩;simp[this]
def Gw(F:List Fi)(x k i:Nat)(s:Str):dE (F++[.is x k]) i s=dE F i s:=by unfold dE;rw[eX];simp
def G_(F:List Fi)(x:Nat)(t:Str)(y:Nat):bX (F++[.has x t y]) y t=bX F y t++[x]:=by unfold bX;rw[eX];simp
def Jt(F:List Fi){x y i:Nat}{t s:Str}(n:¬ (i=y/\s=t)):bX (F++[.has x t y]) i s=bX F i s:=by
 unfold bX;rw[eX];have:¬ (y=i/\t=s):=fun z=>n ⟨z.1.symm,z.2.symm⟩;simp[this]
def F9(F:List Fi)(x k i:Nat)(s:Str):bX (F++[.is x k]) i s=bX F i s:=by unfold bX;rw[eX];simp
def FY(F:List Fi)(x k:Nat):dH (F++[.is x k])=dH F:=by unfold dH;rw[L6];simp[FX]
def GN(F:List Fi)(x:Nat)(t:Str)(y:Nat):dH (F++[.has x t y])=lI (dH F) t:=by
 unfold dH dP;rw[L6,fB]
 rfl
abbrev kA(D:Addr)(B:xt)(b l:Addr)(T:Tg)(H:Hp)(sh:List Sh)(S:StI):Prop:=StG D B b l S.cnt T H (S.gd sh)
def StG.mono(h:StG D B b l n T H G)(hn:n<=n'):StG D B b l n' T H G:=by
 have z:∀{i:Nat},i∉([]:List Nat):=fun h=>ai h;exact h.renew hn (Fr.refl (S:=[])) h.tg (nc ⟨z,rfl⟩) (nc ⟨z,rfl⟩) (nc ⟨z,rfl⟩) (nc ⟨z,rfl⟩) (nc ⟨z,rfl⟩) (nc ⟨z,rfl⟩) (nc ⟨z,rfl⟩) (nc ⟨z,rfl⟩) (nc ⟨z,rfl⟩) (nc ⟨z,rfl⟩)
def wZ{S:StI}(nf:Fi.is x k∉S.facts)(hs:∀r c,sh[k]? ≠some (.some r c)):(S.keep (.is x k) st).gd sh={S.gd sh with steps:=S.steps++[st],facts:=S.facts++[.is x k],pl:=fun j=>if j=(Fi.is x k).key then some (V.int (S.facts.length:Nat)) else zQ S.facts j,ko:=fun j=>if j= .inl (x:Int) then some (V.int ((cu (gX S.facts x) ||| 2^k:Nat):Int)) else yw (gX S.facts) j,to:=fun j=>if j= .inl (k:Int) then some (V.int ((cu (gR S.facts k) ||| 2^x:Nat):Int)) else yw (gR S.facts) j}:=by
 unfold StI.gd StI.keep;rw[uj nf,pI (Gs _ _ _) (fun i h=>Gr _ h),pI (FW _ _ _) (fun i h=>FV _ h),gW (Ie _ hs),gW (Gw _ _ _),gW (F9 _ _ _),FY]
def yJ{S:StI}(nf:Fi.is x k∉S.facts)(hs:sh[k]? =some (.some r c)):(S.keep (.is x k) st).gd sh={S.gd sh with steps:=S.steps++[st],facts:=S.facts++[.is x k],pl:=fun j=>if j=(Fi.is x k).key then some (V.int (S.facts.length:Nat)) else zQ S.facts j,ko:=fun j=>if j= .inl (x:Int) then some (V.int ((cu (gX S.facts x) ||| 2^k:Nat):Int)) else yw (gX S.facts) j,to:=fun j=>if j= .inl (k:Int) then some (V.int ((cu (gR S.facts k) ||| 2^x:Nat):Int)) else yw (gR S.facts) j,fo:=fun j=>if j=[.inl (x:Int),.inr r] then some (V.int ((cu (eG sh S.facts x r) ||| 2^c:Nat):Int)) else AV (eG sh S.facts) j}:=by
 unfold StI.gd StI.keep;rw[uj nf,pI (Gs _ _ _) (fun i h=>Gr _ h),pI (FW _ _ _) (fun i h=>FV _ h),uF (Ih _ hs) (fun i s n=>Ig _ hs n),gW (Gw _ _ _),gW (F9 _ _ _),FY]
def Ic{S:StI}(nf:Fi.has x t y∉S.facts):(S.keep (.has x t y) st).gd sh={S.gd sh with steps:=S.steps++[st],facts:=S.facts++[.has x t y],pl:=fun j=>if j=(Fi.has x t y).key then some (V.int (S.facts.length:Nat)) else zQ S.facts j,en:=fun j=>if j=[.inl (x:Int),.inr t] then some (V.int ((cu (dE S.facts x t) ||| 2^y:Nat):Int)) else AV (dE S.facts) j,sa:=fun j=>if j=[.inl (y:Int),.inr t] then some (V.int ((cu (bX S.facts y t) ||| 2^x:Nat):Int)) else AV (bX S.facts) j,ti:=lI (dH S.facts) t}:=by
 unfold StI.gd StI.keep;rw[uj nf,wK (HN _ _ _ _),wK (GG _ _ _ _),gW (Fx _ _ _ _),uF (Ij _ _ _ _) (fun i s n=>JN _ n),uF (G_ _ _ _ _) (fun i s n=>Jt _ n),GN]
def nM(h:13<=i/\i<23):∀j∈[i],j∈dX:=fun j hj=>by
 rw[ay.mp hj];simp
 lia
def Ib:∀i∈dX,13<=i:=by decide
def mH(h:n<=m)(hm:m<=9999999):n<sizeLine:=bA (ao h hm) (by decide)
inductive pZ(C D:Addr)(vs:List V)(H:Hp)(Q:VK):Prop
 | mk:∀(b l:Addr) (B:xt) (A:LoA) (N:Nat) (T:Tg) (L:LoI) (S:StI) (x k:Nat) (v:V) (st:DZ),(vs=[.ref b,.int (x:Int),.int (k:Int),v])->(kA D B b l T H L.shapes S)->(LoreAt C A l N T H L)->(L.Ok)->(Fi.is x k∉S.facts)->(x<L.parts.length)->(k<L.parts.length)->(N<=50000)->(S.cnt<=9900000)->(S.steps.length=S.facts.length)->(IsSt T H v st)->(∀H' T',Fr dX T T' H H'->kA D B b l T' H' L.shapes (S.keep (.is x k) st)->Q .non H')->pZ C D vs H Q
def vN(C D:Addr):Sp:=fun vs H Q _=>pZ C D vs H Q
section
def scKeepIs:bb ["self","x","kind","step","fact","shape","key"] zG (aJ ql):=fS
def AI(F:Fun K "keep_is" "Still.keep_is" ql f fd)(lc:vh K C)(sc:tm K D)(ml:mg "len"=none):bK P w K mg base eJ 1 f fd zG (vN C D):=by
 refine F.o scKeepIs fun cdv A0 outer s0 H vs Q E hr h=> ?_;obtain⟨b,l,B,A,N,T,L,S,x,k,v,st,rfl,sa,la,lok,nf,hx,hk,hN,hc,sl,ist,q⟩:=h;have hu:=fY hr;refine⟨_,aZ (eV 4 scKeepIs.nd (bL (dW bu bx)))
  (aZ (dC hu (cM aC) cL (xx ml (cM aC)) rfl)
  (aZ (bh (BB (cM aC) cL))
  (aZ (bh (BB (cM aC) bZ))
  (aZ (dC hu (cM aC) bu (bq sS (rA hu (cM aC) bu aD) (bq nD aD bx)) rfl)
  (aZ (dC hu (cM aC) bx (bq sS (rA hu (cM aC) bx aD) (bq nD aD bu)) rfl)
  (aZ (eV 5 scKeepIs.nd (jM bS (cM (cM aC)) bx))
  (bg (bH (PW.pt (qu (fu ur dJ eo) (pC (fu dv (eS dJ) aN)))) (aZ (eV 6 scKeepIs.nd (bL (dW bu (eS dJ)))) (bg (dC hu (cM aC) eZ (bq sS (rA hu (cM aC) eZ aD) (bq nD aD (eS dJ))) rfl))) br)))))))),?_⟩
 refine⟨by show 2<=sizeLine;decide,fun t0 ht0=> ?_⟩;have z1:=af ht0 (.tup [.int (x:Int),.int (k:Int)]);have s1:=sa.same z1;have i1:=IsSt.fr (Fr.of (S:=dX) (T:=T) z1) ist;have h1:upd H t0 (.tup [.int (x:Int),.int (k:Int)]) t0=some (.tup [.int (x:Int),.int (k:Int)]):=ae;have f1:Fr dX T T H (upd H t0 (.tup [.int (x:Int),.int (k:Int)])):=Fr.of z1;generalize upd H t0 (.tup [.int (x:Int),.int (k:Int)])=H1 at s1 i1 h1 f1⊢;obtain⟨_,vs0,e0,r0⟩:=id s1.s0;obtain⟨_,kv2,e2,_,l2⟩:=id s1.s2;have v0:vs0.length=S.facts.length:=(aR r0).trans sl;obtain⟨g2,s2⟩:=s1.put15 (k:=(Fi.is x k).key) (v:= .int (vs0.length:Nat)) e2;refine⟨D,_,_,_,s1.ob,sc.c,sc.m1,Jn B l,B.q0,vs0,rfl,.inl (SqL.of e0),D,_,_,_,s1.ob,sc.c,sc.m3,B5 B l,_,.inr ⟨kv2,(Fi.is x k).key,t0,e2,rfl,h1,mH l2 (by lia),rfl⟩,?_⟩;have i2:=IsSt.fr g2 i1;have h2:=g2.tups _ _ h1;have f2:=f1.trans (g2.mono (nM (by decide)));generalize upd H1 B.q2 (.dT (cq kv2 (Fi.is x k).key (.int (vs0.length:Nat))))=H2 at s2 i2 h2 f2⊢;obtain⟨_,vs1,e3,r3⟩:=id s2.s1;obtain⟨g3,s3⟩:=s2.app14 (v:= .ref t0) (f:= .is x k) e3 ⟨t0,rfl,h2⟩;have v1:vs1.length<=S.cnt:=by rw[aR r3];show S.facts.length<=6 * S.facts.length+S.stand.length;lia
 refine⟨D,_,_,_,s2.ob,sc.c,sc.m2,IJ B l,.inl ⟨rfl,_,SqL.of e3⟩,vs1,e3,mH v1 (by lia),?_⟩;have i3:=IsSt.fr g3 i2;have f3:=f2.trans (g3.mono (nM (by decide)));generalize upd H2 B.q1 (.lst (vs1++[.ref t0]))=H3 at s3 i3 f3⊢;obtain⟨_,vs2,e4,r4⟩:=id s3.s0;obtain⟨g4,s4⟩:=s3.app13 (v:=v) (s:=st) e4 i3;have v2:vs2.length<=S.cnt:=by rw[aR r4];show S.steps.length<=6 * S.facts.length+S.stand.length;lia
 refine⟨D,_,_,_,s3.ob,sc.c,sc.m1,Jn B l,.inl ⟨rfl,_,SqL.of e4⟩,vs2,e4,mH v2 (by lia),?_⟩;have f4:=f3.trans (g4.mono (nM (by decide)));generalize upd H3 B.q0 (.lst (vs2++[v]))=H4 at s4 f4⊢;obtain⟨_,kv4,e5,r5,l5⟩:=id s4.s4;have w5:(cZ kv4 (.inl (x:Int))).getD (.int 0)= .int (cu (gX S.facts x):Nat):=by rw[r5];exact uG _ _
 obtain⟨g5,s5⟩:=s4.put17 (k:= .inl (x:Int)) (v:= .int ((cu (gX S.facts x) ||| 2^k:Nat):Int)) e5;have lle:=la.le;refine⟨D,_,_,_,s4.ob,sc.c,sc.m5,KN B l,.inl ⟨_,.inl e5⟩,_,DGet.k (k:= .inl (x:Int)) e5,⟨by lia,by lia,by decide⟩,?_⟩;rw[w5];refine IL ⟨D,_,_,_,s4.ob,sc.c,sc.m5,KN B l,_,DPut.k (k:= .inl (x:Int)) e5 (mH l5 (by lia)),?_⟩;have f5:=f4.trans (g5.mono (nM (by decide)));generalize upd H4 B.q4 (.dK (cq kv4 (.inl (x:Int)) (.int ((cu (gX S.facts x) ||| 2^k:Nat):Int))))=H5 at s5 f5⊢;obtain⟨_,kv5,e6,r6,l6⟩:=id s5.s5;have w6:(cZ kv5 (.inl (k:Int))).getD (.int 0)= .int (cu (gR S.facts k):Nat):=by rw[r6];exact uG _ _
 obtain⟨g6,s6⟩:=s5.put18 (k:= .inl (k:Int)) (v:= .int ((cu (gR S.facts k) ||| 2^x:Nat):Int)) e6;refine⟨D,_,_,_,s5.ob,sc.c,sc.m6,Ke B l,.inl ⟨_,.inl e6⟩,_,DGet.k (k:= .inl (k:Int)) e6,⟨by lia,by lia,by decide⟩,?_⟩;rw[w6];refine IL ⟨D,_,_,_,s5.ob,sc.c,sc.m6,Ke B l,_,DPut.k (k:= .inl (k:Int)) e6 (mH l6 (by lia)),?_⟩;have f6:=f5.trans (g6.mono (nM (by decide)));generalize upd H5 B.q5 (.dK (cq kv5 (.inl (k:Int)) (.int ((cu (gR S.facts k) ||| 2^x:Nat):Int))))=H6 at s6 f6⊢;have la6:=la.fr f6 Ib s6.tg;obtain⟨_,ss,e7,r7⟩:=id la6.f1;obtain⟨sk,hsk⟩:∃sk,L.shapes[k]? =some sk:=⟨_,aE (by rw[la.sl];exact hk)⟩;obtain⟨vsk,hv,ivk⟩:=oP r7 hsk;refine⟨D,_,_,_,s6.ob,sc.c,sc.m0,pA B l,C,_,_,_,la6.ob,lc.c,lc.n1,D9 A,ss,vsk,SqL.of e7,aX hv,?_⟩;have cn:(S.keep (.is x k) st).cnt=S.cnt+6:=by show 6 * (S.facts++[_]).length+S.stand.length=_;rw[ak];show 6 * (S.facts.length+1)+_=6 * S.facts.length+_+6;lia
 cases sk with
 | no=>
   obtain rfl:vsk= .non:=ivk;refine⟨rfl,?_⟩;refine(q H6 T f6 ?_);rw[kA,cn,wZ nf (fun r c z=>by rw[hsk] at z;cases z),<-v0];exact s6.mono (by lia)
 | both i j=>
   obtain⟨pp,rfl,hpp⟩:=ivk;refine⟨rfl,?_⟩;refine(eF hpp rfl ?_);refine(q H6 T f6 ?_);rw[kA,cn,wZ nf (fun r c z=>by rw[hsk] at z;cases z),<-v0];exact s6.mono (by lia)
 | some r c=>
   obtain⟨pp,rfl,hpp⟩:=ivk;refine⟨rfl,?_⟩;refine(eF hpp rfl ?_);have hc7:c<L.parts.length:=lok.lt _ _ hsk;refine(eF hpp rfl ⟨by show 2<=sizeLine;decide,fun t7 ht7=> ?_⟩);have z7:=af ht7 (.tup [.int (x:Int),.str r]);have s7:=s6.same z7;have h7:upd H6 t7 (.tup [.int (x:Int),.str r]) t7=some (.tup [.int (x:Int),.str r]):=ae;have f7:=f6.trans (Fr.of (S:=dX) (T:=T) z7);have hpp7:=z7.tups _ _ hpp;generalize upd H6 t7 (.tup [.int (x:Int),.str r])=H7 at s7 h7 f7 hpp7⊢;obtain⟨_,kv6,e8,r8,l8⟩:=id s7.s6;have w8:(cZ kv6 [.inl (x:Int),.inr r]).getD (.int 0)= .int (cu (eG L.shapes S.facts x r):Nat):=by rw[r8];exact pH _ _ _
   obtain⟨g8,s8⟩:=s7.put19 (k:=[.inl (x:Int),.inr r]) (v:= .int ((cu (eG L.shapes S.facts x r) ||| 2^c:Nat):Int)) e8;refine⟨D,_,_,_,s7.ob,sc.c,sc.m7,KM B l,.inr ⟨_,.inl e8⟩,_,DGet.t (k:=[.inl (x:Int),.inr r]) e8 h7,eF hpp7 rfl ⟨⟨by lia,by lia,by decide⟩,?_⟩⟩;rw[w8];refine IL ⟨D,_,_,_,s7.ob,sc.c,sc.m7,KM B l,_,.inr ⟨kv6,[.inl (x:Int),.inr r],t7,e8,rfl,h7,mH l8 (by lia),rfl⟩,q _ T (f7.trans (g8.mono (nM (by decide)))) ?_⟩;rw[kA,cn,yJ nf hsk,<-v0];exact s8.mono (by lia)
end
inductive oa(D:Addr)(vs:List V)(H:Hp)(Q:VK):Prop
 | mk:∀(b l:Addr) (B:xt) (sh:List Sh) (T:Tg) (S:StI) (x y:Nat) (t:Str) (v:V) (st:DZ),(vs=[.ref b,.int (x:Int),.str t,.int (y:Int),v])->(kA D B b l T H sh S)->(Fi.has x t y∉S.facts)->(x<=50000)->(y<=50000)->(S.cnt<=9900000)->(S.steps.length=S.facts.length)->(IsSt T H v st)->(∀H' T',Fr dX T T' H H'->kA D B b l T' H' sh (S.keep (.has x t y) st)->Q .non H')->oa D vs H Q
def sF(C D:Addr):Sp:=fun vs H Q _=>oa D vs H Q
section
def scKeepHas:bb ["self","x","tie","y","step","fact"] zF (aJ nv):=fS
def ym(F:Fun K "keep_has" "Still.keep_has" nv f fd)(sc:tm K D)(ml:mg "len"=none):bK P w K mg base eJ 1 f fd zF (sF C D):=by
 refine F.o scKeepHas fun cdv A0 outer s0 H vs Q E hr h=> ?_;obtain⟨b,l,B,sh,T,S,x,y,t,v,st,rfl,sa,nf,hx,hy,hc,sl,ist,q⟩:=h;have hu:=fY hr;refine⟨_,aZ (eV 5 scKeepHas.nd (bL (eY bu bx bZ)))
  (aZ (dC hu (cM aC) dJ (xx ml (cM aC)) rfl)
  (aZ (bh (BB (cM aC) dJ))
  (aZ (bh (BB (cM aC) cL))
  (aZ (dC hu (cM aC) (bL (dW bu bx)) (bq sS (rA hu (cM aC) (bL (dW bu bx)) aD) (bq nD aD bZ)) rfl)
  (aZ (dC hu (cM aC) (bL (dW bZ bx)) (bq sS (rA hu (cM aC) (bL (dW bZ bx)) aD) (bq nD aD bu)) rfl)
  (bg (dC hu (cM aC) bx fD rfl))))))),?_⟩
 refine⟨by show 3<=sizeLine;decide,fun t0 ht0=> ?_⟩;have z1:=af ht0 (.tup [.int (x:Int),.str t,.int (y:Int)]);have s1:=sa.same z1;have i1:=IsSt.fr (Fr.of (S:=dX) (T:=T) z1) ist;have h1:upd H t0 (.tup [.int (x:Int),.str t,.int (y:Int)]) t0=some (.tup [.int (x:Int),.str t,.int (y:Int)]):=ae;have f1:Fr dX T T H (upd H t0 (.tup [.int (x:Int),.str t,.int (y:Int)])):=Fr.of z1;generalize upd H t0 (.tup [.int (x:Int),.str t,.int (y:Int)])=H1 at s1 i1 h1 f1⊢;obtain⟨_,vs0,e0,r0⟩:=id s1.s0;obtain⟨_,kv2,e2,_,l2⟩:=id s1.s2;have v0:vs0.length=S.facts.length:=(aR r0).trans sl;obtain⟨g2,s2⟩:=s1.put15 (k:=(Fi.has x t y).key) (v:= .int (vs0.length:Nat)) e2;refine⟨D,_,_,_,s1.ob,sc.c,sc.m1,Jn B l,B.q0,vs0,rfl,.inl (SqL.of e0),D,_,_,_,s1.ob,sc.c,sc.m3,B5 B l,_,.inr ⟨kv2,(Fi.has x t y).key,t0,e2,rfl,h1,mH l2 (by lia),rfl⟩,?_⟩;have i2:=IsSt.fr g2 i1;have h2:=g2.tups _ _ h1;have f2:=f1.trans (g2.mono (nM (by decide)));generalize upd H1 B.q2 (.dT (cq kv2 (Fi.has x t y).key (.int (vs0.length:Nat))))=H2 at s2 i2 h2 f2⊢;obtain⟨_,vs1,e3,r3⟩:=id s2.s1;obtain⟨g3,s3⟩:=s2.app14 (v:= .ref t0) (f:= .has x t y) e3 ⟨t0,rfl,h2⟩;have v1:vs1.length<=S.cnt:=by rw[aR r3];show S.facts.length<=6 * S.facts.length+S.stand.length;lia
 refine⟨D,_,_,_,s2.ob,sc.c,sc.m2,IJ B l,.inl ⟨rfl,_,SqL.of e3⟩,vs1,e3,mH v1 (by lia),?_⟩;have i3:=IsSt.fr g3 i2;have f3:=f2.trans (g3.mono (nM (by decide)));generalize upd H2 B.q1 (.lst (vs1++[.ref t0]))=H3 at s3 i3 f3⊢;obtain⟨_,vs2,e4,r4⟩:=id s3.s0;obtain⟨g4,s4⟩:=s3.app13 (v:=v) (s:=st) e4 i3;have v2:vs2.length<=S.cnt:=by rw[aR r4];show S.steps.length<=6 * S.facts.length+S.stand.length;lia
 refine⟨D,_,_,_,s3.ob,sc.c,sc.m1,Jn B l,.inl ⟨rfl,_,SqL.of e4⟩,vs2,e4,mH v2 (by lia),?_⟩;have f4:=f3.trans (g4.mono (nM (by decide)));generalize upd H3 B.q0 (.lst (vs2++[v]))=H4 at s4 f4⊢;obtain⟨_,kw4,e4a,r4a,l4a⟩:=id s4.s7;refine⟨D,_,_,_,s4.ob,sc.c,sc.m8,Kc B l,.inr ⟨_,.inl e4a⟩,by show 2<=sizeLine;decide,fun u4 hu4=> ?_⟩;have zz4:=af hu4 (.tup [.int (x:Int),.str t]);have s4b:=s4.same zz4;have h4b:upd H4 u4 (.tup [.int (x:Int),.str t]) u4=some (.tup [.int (x:Int),.str t]):=ae;have f4b:=f4.trans (Fr.of (S:=dX) (T:=T) zz4);generalize upd H4 u4 (.tup [.int (x:Int),.str t])=H4b at s4b h4b f4b⊢;obtain⟨_,kv4b,e4b,r4b,l4b⟩:=id s4b.s7;have w4b:(cZ kv4b [.inl (x:Int),.inr t]).getD (.int 0)= .int (cu (dE S.facts x t):Nat):=by rw[r4b];exact pH _ _ _
 refine⟨_,DGet.t (k:=[.inl (x:Int),.inr t]) e4b h4b,⟨by lia,by lia,by decide⟩,?_⟩;rw[w4b];refine IL ⟨D,_,_,_,s4b.ob,sc.c,sc.m8,Kc B l,by show 2<=sizeLine;decide,fun w4 hw4=> ?_⟩;have zy4:=af hw4 (.tup [.int (x:Int),.str t]);have s4c:=s4b.same zy4;have h4c:upd H4b w4 (.tup [.int (x:Int),.str t]) w4=some (.tup [.int (x:Int),.str t]):=ae;have f4c:=f4b.trans (Fr.of (S:=dX) (T:=T) zy4);have e4c:=zy4 _ _ e4b;generalize upd H4b w4 (.tup [.int (x:Int),.str t])=H4c at s4c h4c f4c e4c⊢;obtain⟨g5,s5⟩:=s4c.put20 (k:=[.inl (x:Int),.inr t]) (v:= .int ((cu (dE S.facts x t) ||| 2^y:Nat):Int)) e4c;refine⟨_,.inr ⟨kv4b,[.inl (x:Int),.inr t],w4,e4c,rfl,h4c,mH l4b (by lia),rfl⟩,?_⟩;have f5:=f4c.trans (g5.mono (nM (by decide)));generalize upd H4c B.q7 (.dT (cq kv4b [.inl (x:Int),.inr t] (.int ((cu (dE S.facts x t) ||| 2^y:Nat):Int))))=H5 at s5 f5⊢;obtain⟨_,kw5,e5a,r5a,l5a⟩:=id s5.s8;refine⟨D,_,_,_,s5.ob,sc.c,sc.m9,II B l,.inr ⟨_,.inl e5a⟩,by show 2<=sizeLine;decide,fun u5 hu5=> ?_⟩;have zz5:=af hu5 (.tup [.int (y:Int),.str t]);have s5b:=s5.same zz5;have h5b:upd H5 u5 (.tup [.int (y:Int),.str t]) u5=some (.tup [.int (y:Int),.str t]):=ae;have f5b:=f5.trans (Fr.of (S:=dX) (T:=T) zz5);generalize upd H5 u5 (.tup [.int (y:Int),.str t])=H5b at s5b h5b f5b⊢;obtain⟨_,kv5b,e5b,r5b,l5b⟩:=id s5b.s8;have w5b:(cZ kv5b [.inl (y:Int),.inr t]).getD (.int 0)= .int (cu (bX S.facts y t):Nat):=by rw[r5b];exact pH _ _ _
 refine⟨_,DGet.t (k:=[.inl (y:Int),.inr t]) e5b h5b,⟨by lia,by lia,by decide⟩,?_⟩;rw[w5b];refine IL ⟨D,_,_,_,s5b.ob,sc.c,sc.m9,II B l,by show 2<=sizeLine;decide,fun w5 hw5=> ?_⟩;have zy5:=af hw5 (.tup [.int (y:Int),.str t]);have s5c:=s5b.same zy5;have h5c:upd H5b w5 (.tup [.int (y:Int),.str t]) w5=some (.tup [.int (y:Int),.str t]):=ae;have f5c:=f5b.trans (Fr.of (S:=dX) (T:=T) zy5);have e5c:=zy5 _ _ e5b;generalize upd H5b w5 (.tup [.int (y:Int),.str t])=H5c at s5c h5c f5c e5c⊢;obtain⟨g6,s6⟩:=s5c.put21 (k:=[.inl (y:Int),.inr t]) (v:= .int ((cu (bX S.facts y t) ||| 2^x:Nat):Int)) e5c;refine⟨_,.inr ⟨kv5b,[.inl (y:Int),.inr t],w5,e5c,rfl,h5c,mH l5b (by lia),rfl⟩,?_⟩;have f6:=f5c.trans (g6.mono (nM (by decide)));generalize upd H5c B.q8 (.dT (cq kv5b [.inl (y:Int),.inr t] (.int ((cu (bX S.facts y t) ||| 2^x:Nat):Int))))=H6 at s6 f6⊢;obtain⟨g7,s7⟩:=s6.put22 (t:=t);refine⟨D,_,_,_,s6.ob,sc.c,sc.m10,Jm B l,_,DPut.k (k:= .inr t) s6.s9.2.1 (by rw[nX];exact mH s6.s9.2.2 (by lia)),q _ T (f6.trans (g7.mono (nM (by decide)))) ?_⟩;have cn:(S.keep (.has x t y) st).cnt=S.cnt+6:=by show 6 * (S.facts++[_]).length+S.stand.length=_;rw[ak];show 6 * (S.facts.length+1)+_=6 * S.facts.length+_+6;lia
 rw[kA,cn,Ic nf,<-v0];exact s7.mono (by lia)
end
structure Ev(C D:Addr)(B:xt)(A:LoA)(b l:Addr)(N:Nat)(T:Tg)(H:Hp)(L:LoI)(S:StI):Prop where
 sa:kA D B b l T H L.shapes S
 la:LoreAt C A l N T H L
 ok:L.Ok
 ex:A.ex=D_
 hN:N<=50000
 sl:S.steps.length=S.facts.length
 p2:2<=L.parts.length
section
def Ev.next(h:Ev C D B A b l N T H L S)(f:Fr dX T T' H H')(sa:kA D B b l T' H' L.shapes S')(sl:S'.steps.length=S'.facts.length):Ev C D B A b l N T' H' L S':=⟨sa,h.la.fr f Ib sa.tg,h.ok,h.ex,h.hN,sl,h.p2⟩
def Ev.same(h:Ev C D B A b l N T H L S)(s:Same H H'):Ev C D B A b l N T H' L S:=⟨StG.same h.sa s,h.la.same s,h.ok,h.ex,h.hN,h.sl,h.p2⟩
end
noncomputable def LoI.pt(L:LoI)(i:Nat):Kd:=L.parts.getD i (.nm "")
def LoI.pt_get{L:LoI}(h:i<L.parts.length):L.parts[i]? =some (L.pt i):=by
 unfold LoI.pt;rw[kD,aE h]
 rfl
noncomputable def StI.tellIs(L:LoI)(S:StI)(x k:Nat)(r:Str)(fr:List Int)(nn:Option Int):StI:=if Fi.is x k∈S.facts then S else S.keep (.is x k) ⟨.is (L.pt x) (L.pt k),r,fr,nn⟩
noncomputable def StI.addS(S:StI)(x:Nat):StI:=⟨S.steps,S.facts,S.stand++[x]⟩
noncomputable def StI.letStand(L:LoI)(S:StI)(x:Nat):StI:=if x∈S.stand then S else StI.tellIs L (if dA (L.pt x)=true then S.addS x else StI.tellIs L (S.addS x) x x "self" [] none) x 0 "all" [] none
noncomputable def StI.tellHas(L:LoI)(S:StI)(x:Nat)(t:Str)(y:Nat)(r:Str)(fr:List Int)(nn:Option Int):StI:=if Fi.has x t y∈S.facts then S else StI.letStand L (S.keep (.has x t y) ⟨.has (L.pt x) t (L.pt y),r,fr,nn⟩) y
def StI.keep_sl{S:StI}(h:S.steps.length=S.facts.length):(S.keep f st).steps.length=(S.keep f st).facts.length:=by
 show(S.steps++[st]).length=(S.facts++[f]).length;rw[ak,ak,h];rfl
def StI.keep_cnt(S:StI)(f:Fi)(st:DZ):(S.keep f st).cnt=S.cnt+6:=by show 6 * (S.facts++[_]).length+S.stand.length=_;rw[ak];show 6 * (S.facts.length+1)+_=6 * S.facts.length+_+6;lia
def StI.tellIs_cnt(L:LoI)(S:StI)(x k:Nat)(r:Str)(fr:List Int)(nn:Option Int):(StI.tellIs L S x k r fr nn).cnt<=S.cnt+6:=by
 unfold StI.tellIs
 split
 · lia
 · rw[StI.keep_cnt];lia
def StI.addS_cnt(S:StI)(x:Nat):(S.addS x).cnt=S.cnt+1:=by show 6 * S.facts.length+(S.stand++[x]).length=_;rw[ak];show _+(_+1)=6 * S.facts.length+S.stand.length+1;lia
def sP(F:List Fi)(f:Fi):(zQ F f.key).isSome=decide (f∈F):=by
 by_cases h:f∈F
 · rw[wj h,ax h];rfl
 · rw[wm h,ag h];rfl
inductive kP(C D:Addr)(vs:List V)(H:Hp)(Q:VK):Prop
 | mk:∀(b l:Addr) (B:xt) (A:LoA) (N:Nat) (T:Tg) (L:LoI) (S:StI) (x k:Nat) (r:Str) (pf:Addr) (fr:List Int) (nn:Option Int),(vs=[.ref b,.int (x:Int),.int (k:Int),.str r,.ref pf,wD nn])->(Ev C D B A b l N T H L S)->(x<L.parts.length)->(k<L.parts.length)->(S.cnt<=9900000)->(H pf=some (.lst (fr.map V.int)))->(T pf=none)->(∀H' T',Fr dX T T' H H'->Ev C D B A b l N T' H' L (StI.tellIs L S x k r fr nn)->Q .non H')->kP C D vs H Q
def fU(C D:Addr):Sp:=fun vs H Q _=>kP C D vs H Q
inductive iT(C D:Addr)(vs:List V)(H:Hp)(Q:VK):Prop
 | mk:∀(b l:Addr) (B:xt) (A:LoA) (N:Nat) (T:Tg) (L:LoI) (S:StI) (x:Nat),(vs=[.ref b,.int (x:Int)])->(Ev C D B A b l N T H L S)->(x<L.parts.length)->(S.cnt<=9890000)->(∀H' T',Fr dX T T' H H'->Ev C D B A b l N T' H' L (StI.letStand L S x)->Q .non H')->iT C D vs H Q
def kT(C D:Addr):Sp:=fun vs H Q _=>iT C D vs H Q
inductive jC(C D:Addr)(vs:List V)(H:Hp)(Q:VK):Prop
 | mk:∀(b l:Addr) (B:xt) (A:LoA) (N:Nat) (T:Tg) (L:LoI) (S:StI) (x:Nat) (t:Str) (y:Nat) (r:Str) (pf:Addr) (fr:List Int) (nn:Option Int),(vs=[.ref b,.int (x:Int),.str t,.int (y:Int),.str r,.ref pf,wD nn])->(Ev C D B A b l N T H L S)->(x<L.parts.length)->(y<L.parts.length)->(S.cnt<=9880000)->(H pf=some (.lst (fr.map V.int)))->(T pf=none)->(∀H' T',Fr dX T T' H H'->Ev C D B A b l N T' H' L (StI.tellHas L S x t y r fr nn)->Q .non H')->jC C D vs H Q
def iH(C D:Addr):Sp:=fun vs H Q _=>jC C D vs H Q
section
def scTellIs:bb ["self","x","kind","rule","froms","number","parts"] mq (aJ qk):=fS
def AE(F:Fun K "tell_is" "Still.tell_is" qk f fd)(lc:vh K C)(sc:tm K D)(Gki:Ml P w K mg base D 1 "keep_is" zG (vN C D)):bK P w K mg base eJ 2 f fd mq (fU C D):=by
 refine F.o scTellIs fun cdv A0 outer s0 H vs Q E hr h=> ?_;obtain⟨b,l,B,A,N,T,L,S,x,k,r,pf,fr,nn,rfl,ev,hx,hk,hc,epf,tpf,q⟩:=h;have hu:=fY hr;refine⟨_,bg (bH (fu (nE hu) (bL (dW bu bx)) (cM aC)) (aZ (eV 6 scTellIs.nd (cM (cM aC))) (bg (bh (gj aC sc.c Gki hr (eY bu bx (bL (jo (bL (eY aN (jM bS eZ bu) (jM bS eZ bx))) bZ cL dJ))))))) br),?_⟩;refine⟨by show 2<=sizeLine;decide,fun t0 ht0=> ?_⟩;have z1:=af ht0 (.tup [.int (x:Int),.int (k:Int)]);have ev1:=ev.same z1;have h1:upd H t0 (.tup [.int (x:Int),.int (k:Int)]) t0=some (.tup [.int (x:Int),.int (k:Int)]):=ae;have f1:Fr dX T T H (upd H t0 (.tup [.int (x:Int),.int (k:Int)])):=Fr.of z1;have epf1:=z1 _ _ epf;generalize upd H t0 (.tup [.int (x:Int),.int (k:Int)])=H1 at ev1 h1 f1 epf1⊢;obtain⟨_,kv2,e2,r2,l2⟩:=id ev1.sa.s2;have w2:(cZ kv2 (Fi.is x k).key).isSome=decide (Fi.is x k∈S.facts):=by rw[r2];exact sP _ _
 refine⟨D,_,_,_,ev1.sa.ob,sc.c,sc.m3,B5 B l,B.q2,_,rfl,DGet.t (k:=(Fi.is x k).key) e2 h1,?_⟩;rw[w2];unfold StI.tellIs at q;by_cases hin:Fi.is x k∈S.facts
 · rw[ax hin];rw[aK hin] at q;exact(q H1 T f1 ev1)
 rw[ag hin];rw[aG hin] at q;obtain⟨_,ps,e3,r3⟩:=id ev1.la.f0;obtain⟨vx,hvx,ivx⟩:=oP r3 (LoI.pt_get hx);obtain⟨vk,hvk,ivk⟩:=oP r3 (LoI.pt_get hk);refine⟨D,_,_,_,ev1.sa.ob,sc.c,sc.m0,pA B l,C,_,_,_,ev1.la.ob,lc.c,lc.n0,JH A,?_⟩;refine⟨_,_,ev1.sa.ob,xJ B l,ps,vx,SqL.of e3,aX hvx,ps,vk,SqL.of e3,aX hvk,by show 3<=sizeLine;decide,fun t4 ht4=> ?_⟩;have z4:=af ht4 (.tup [.str "is",vx,vk]);refine⟨by show 4<=sizeLine;decide,fun t5 ht5=> ?_⟩;have z5:=af ht5 (.tup [.ref t4,.str r,.ref pf,wD nn]);have z45:=z4.trans z5;have ev5:=ev1.same z45;have f5:=f1.trans (Fr.of (S:=dX) (T:=T) z45);refine⟨b,l,B,A,N,T,L,S,x,k,.ref t5,⟨.is (L.pt x) (L.pt k),r,fr,nn⟩,rfl,ev5.sa,ev5.la,ev.ok,hin,hx,hk,ev.hN,hc,ev.sl,⟨t5,pf,.ref t4,rfl,ae,⟨t4,vx,vk,rfl,z5 _ _ ae,IsK.mono z45.tups ivx,IsK.mono z45.tups ivk⟩,z45 _ _ epf1,tpf⟩,fun H6 T6 f6 s6=>q H6 T6 (f5.trans f6) (ev5.next f6 s6 (StI.keep_sl ev.sl))⟩
def xP:bb eN eN (aJ k6):=fS
def wA(F:Fun K "let_stand" "Still.let_stand" k6 f fd)(lc:vh K C)(sc:tm K D)(Gti:Ml P w K mg base D 2 "tell_is" mq (fU C D))(Gst:Cl P w K mg base 4 "stands_for_thing" ["x"] l9):bK P w K mg base eJ 5 f fd eN (kT C D):=by
 refine F.o xP fun cdv A0 outer s0 H vs Q E hr h=> ?_;obtain⟨b,l,B,A,N,T,L,S,x,rfl,ev,hx,hc,q⟩:=h;have hu:=fY hr;refine⟨_,aZ (bH (fu (qC hu) bu (cM aC)) (bg (j6)) br)
  (aZ (dC hu (cM aC) bu fD rfl)
  (aZ (bH (qw (fN (eU Gst hr (eE (jM bS (cM (cM aC)) bu))))) (bg (bh (gj aC sc.c Gti hr (bR bu (jo bu aN (bE bO) eo))))) br)
  (bg (bh (gj aC sc.c Gti hr (bR bu (jo (cM (cM aC)) aN (bE bO) eo))))))),?_⟩
 obtain⟨_,kv3,e3,r3,l3⟩:=id ev.sa.s3;have w3:cZ kv3 (.inl (x:Int))=if x∈S.stand then some (.bl true) else none:=by
  rw[r3];show(if 0<=(x:Int)/\(x:Int).toNat∈S.stand then _ else _)=_;simp
 refine⟨D,_,_,_,ev.sa.ob,sc.c,sc.m4,LK B l,B.q3,_,rfl,DGet.k (k:= .inl (x:Int)) e3,?_⟩;rw[w3];unfold StI.letStand at q;by_cases hin:x∈S.stand
 · rw[aK hin];rw[aK hin] at q;exact(q H T Fr.refl ev)
 rw[aG hin];rw[aG hin] at q;obtain⟨g1,s1⟩:=ev.sa.put16 (k:= .inl (x:Int)) (v:= .bl true) e3;refine⟨D,_,_,_,ev.sa.ob,sc.c,sc.m4,LK B l,_,DPut.k (k:= .inl (x:Int)) e3 (mH l3 (by lia)),?_⟩;have gd1:(S.addS x).gd L.shapes={S.gd L.shapes with st:=fun j=>if j= .inl (x:Int) then some (.bl true) else(S.gd L.shapes).st j}:=by
  unfold StI.gd StI.addS;rw[<-zZ]
 have sa1:kA D B b l T (upd H B.q3 (.dK (cq kv3 (.inl (x:Int)) (.bl true)))) L.shapes (S.addS x):=by
  rw[kA,StI.addS_cnt,gd1];exact s1
 have f1:=g1.mono (S':=dX) (nM (by decide));have ev1:Ev C D B A b l N T _ L (S.addS x):=ev.next f1 sa1 ev.sl;generalize upd H B.q3 (.dK (cq kv3 (.inl (x:Int)) (.bl true)))=H1 at f1 ev1⊢;have c1:=StI.addS_cnt S x;obtain⟨_,ps,e4,r4⟩:=id ev1.la.f0;obtain⟨vx,hvx,ivx⟩:=oP r4 (LoI.pt_get hx);have okx:oB (L.pt x):=ev.la.gd _ (av (LoI.pt_get hx));have lnx:AX (L.pt x):=by
  cases e:L.pt x with
  | nm z=>rw[e] at okx;exact ao (gS okx).2.1 (by decide)
  | two _ _=>trivial
  | som _ _=>trivial
 have p0:0<L.parts.length:=by have:=ev.p2;lia
 have fin:∀(H2:Hp) (T2:Tg) (S2:StI),Fr dX T T2 H H2->Ev C D B A b l N T2 H2 L S2->S2.cnt<=S.cnt+7->(∀H' T',Fr dX T T' H H'->Ev C D B A b l N T' H' L (StI.tellIs L S2 x 0 "all" [] none)->Q .non H')->∀pf,H2 pf=none->fU C D [.ref b,.int (x:Int),.int 0,.str "all",.ref pf,.non] (upd H2 pf (.lst [])) (fun _ H'=>Q .non H') E0:=fun H2 T2 S2 f2 ev2 c2 q2 pf hpf=>
  ⟨b,l,B,A,N,T2,L,S2,x,0,"all",pf,[],none,rfl,ev2.same (af hpf _),hx,p0,by lia,ae,ev2.sa.tg.free hpf,fun H3 T3 f3 ev3=>q2 H3 T3 ((f2.trans (Fr.of (af hpf _))).trans f3) ev3⟩
 refine⟨D,_,_,_,ev1.sa.ob,sc.c,sc.m0,pA B l,C,_,_,_,ev1.la.ob,lc.c,lc.n0,JH A,ps,vx,SqL.of e4,aX hvx,vx,L.pt x,rfl,ivx,lnx,fun H2 z2=> ?_⟩;have ev2:=ev1.same z2;have f2:=f1.trans (Fr.of (S:=dX) (T:=T) z2);cases hst:dA (L.pt x) with
 | true=>
   rw[aK hst] at q;refine⟨_,_,ev2.sa.ob,cP B l,D,_,_,_,ev2.sa.ob,sc.c,sc.m0,pA B l,C,_,_,_,ev2.la.ob,lc.c,lc.n13,JE ev.ex,au _,fun pf hpf=> ?_⟩;exact fin H2 T _ f2 ev2 (by lia) q pf hpf
 | false=>
   rw[aG (by rw[hst];exact aP)] at q;refine⟨_,_,ev2.sa.ob,cP B l,au _,fun pf hpf=> ?_⟩;refine⟨b,l,B,A,N,T,L,S.addS x,x,x,"self",pf,[],none,rfl,ev2.same (af hpf _),hx,hx,by lia,ae,ev2.sa.tg.free hpf,fun H3 T3 f3 ev3=> ?_⟩;have f3':=(f2.trans (Fr.of (S:=dX) (T:=T) (af hpf (.lst [])))).trans f3;have c3:=StI.tellIs_cnt L (S.addS x) x x "self" [] none;refine⟨_,_,ev3.sa.ob,cP B l,D,_,_,_,ev3.sa.ob,sc.c,sc.m0,pA B l,C,_,_,_,ev3.la.ob,lc.c,lc.n13,JE ev.ex,au _,fun pf' hpf'=> ?_⟩;exact fin H3 T3 _ f3' ev3 (by lia) q pf' hpf'
def scTellHas:bb ["self","x","tie","y","rule","froms","number","parts"] qr (aJ nu):=fS
def yk(F:Fun K "tell_has" "Still.tell_has" nu f fd)(lc:vh K C)(sc:tm K D)(Gkh:Ml P w K mg base D 1 "keep_has" zF (sF C D))(Gls:Ml P w K mg base D 5 "let_stand" eN (kT C D)):bK P w K mg base eJ 6 f fd qr (iH C D):=by
 refine F.o scTellHas fun cdv A0 outer s0 H vs Q E hr h=> ?_;obtain⟨b,l,B,A,N,T,L,S,x,t,y,r,pf,fr,nn,rfl,ev,hx,hy,hc,epf,tpf,q⟩:=h;have hu:=fY hr;refine⟨_,bg (bH (fu (nE hu) (bL (eY bu bx bZ)) (cM aC)) (aZ (eV 7 scTellHas.nd (cM (cM aC))) (aZ (bh (gj aC sc.c Gkh hr (jo bu bx bZ (bL (jo (bL (jo aN (jM bS iX bu) bx (jM bS iX bZ))) cL dJ eZ))))) (bg (bh (gj aC sc.c Gls hr (eE bZ)))))) br),?_⟩;refine⟨by show 3<=sizeLine;decide,fun t0 ht0=> ?_⟩;have z1:=af ht0 (.tup [.int (x:Int),.str t,.int (y:Int)]);have ev1:=ev.same z1;have h1:upd H t0 (.tup [.int (x:Int),.str t,.int (y:Int)]) t0=some (.tup [.int (x:Int),.str t,.int (y:Int)]):=ae;have f1:Fr dX T T H (upd H t0 (.tup [.int (x:Int),.str t,.int (y:Int)])):=Fr.of z1;have epf1:=z1 _ _ epf;generalize upd H t0 (.tup [.int (x:Int),.str t,.int (y:Int)])=H1 at ev1 h1 f1 epf1⊢;obtain⟨_,kv2,e2,r2,l2⟩:=id ev1.sa.s2;have w2:(cZ kv2 (Fi.has x t y).key).isSome=decide (Fi.has x t y∈S.facts):=by rw[r2];exact sP _ _
 refine⟨D,_,_,_,ev1.sa.ob,sc.c,sc.m3,B5 B l,B.q2,_,rfl,DGet.t (k:=(Fi.has x t y).key) e2 h1,?_⟩;rw[w2];unfold StI.tellHas at q;by_cases hin:Fi.has x t y∈S.facts
 · rw[ax hin];rw[aK hin] at q;exact(q H1 T f1 ev1)
 rw[ag hin];rw[aG hin] at q;obtain⟨_,ps,e3,r3⟩:=id ev1.la.f0;obtain⟨vx,hvx,ivx⟩:=oP r3 (LoI.pt_get hx);obtain⟨vy,hvy,ivy⟩:=oP r3 (LoI.pt_get hy);refine⟨D,_,_,_,ev1.sa.ob,sc.c,sc.m0,pA B l,C,_,_,_,ev1.la.ob,lc.c,lc.n0,JH A,?_⟩;refine⟨_,_,ev1.sa.ob,vT B l,ps,vx,SqL.of e3,aX hvx,ps,vy,SqL.of e3,aX hvy,by show 4<=sizeLine;decide,fun t4 ht4=> ?_⟩;have z4:=af ht4 (.tup [.str "has",vx,.str t,vy]);refine⟨by show 4<=sizeLine;decide,fun t5 ht5=> ?_⟩;have z5:=af ht5 (.tup [.ref t4,.str r,.ref pf,wD nn]);have z45:=z4.trans z5;have ev5:=ev1.same z45;have f5:=f1.trans (Fr.of (S:=dX) (T:=T) z45);have lle:=ev.la.le;have hN:=ev.hN;refine⟨b,l,B,L.shapes,T,S,x,y,t,.ref t5,⟨.has (L.pt x) t (L.pt y),r,fr,nn⟩,rfl,ev5.sa,hin,by lia,by lia,by lia,ev.sl,⟨t5,pf,.ref t4,rfl,ae,⟨t4,vx,vy,rfl,z5 _ _ ae,IsK.mono z45.tups ivx,IsK.mono z45.tups ivy⟩,z45 _ _ epf1,tpf⟩,fun H6 T6 f6 s6=> ?_⟩;have ev6:=ev5.next f6 s6 (StI.keep_sl ev.sl);have c6:=StI.keep_cnt S (.has x t y) ⟨.has (L.pt x) t (L.pt y),r,fr,nn⟩;exact⟨_,_,ev6.sa.ob,mn B l,b,l,B,A,N,T6,L,_,y,rfl,ev6,hy,by lia,fun H7 T7 f7 ev7=>q H7 T7 ((f5.trans f6).trans f7) ev7⟩
end
def Fi.rg(n:Nat)(ts:List Str):Fi->Prop
 | .is x k=>x<n/\k<n
 | .has x t y=>x<n/\t∈ts/\y<n
structure Wf(n:Nat)(ts:List Str)(S:StI):Prop where
 nd:S.facts.Nodup
 rg:∀f∈S.facts,f.rg n ts
 sd:S.stand.Nodup
 sr:∀i∈S.stand,i<n
 st0:∀i∈S.stand,Fi.is i 0∈S.facts
 hs:∀x t y,Fi.has x t y∈S.facts->y∈S.stand
noncomputable def xq(n:Nat)(ts:List Str):List Fi:=((List.range n).flatMap fun x=>(List.range n).map fun k=>Fi.is x k)++ts.flatMap fun t=>(List.range n).flatMap fun x=>(List.range n).map fun y=>Fi.has x t y
def Ff(h:f.rg n ts):f∈xq n ts:=by
 unfold xq;cases f with
 | is x k=>exact aS _ (By.mpr ⟨x,cy.mpr h.1,cc.mpr ⟨k,cy.mpr h.2,rfl⟩⟩)
 | has x t y=>exact be _ (By.mpr ⟨t,h.2.1,By.mpr ⟨x,cy.mpr h.1,cc.mpr ⟨y,cy.mpr h.2.2,rfl⟩⟩⟩)
theorem mJ{α β:Type}{f:α->List β}:∀{l:List α},(∀x∈l,(f x).length=n)->(l.flatMap f).length=l.length * n
 | [],_=>by simp
 | x::l,h=>by
   rw[List.flatMap_cons,ak,h x aO,mJ fun y hy=>h y (aH _ hy),bj,Nat.add_mul,Nat.one_mul,Nat.add_comm]
def Fm(n:Nat)(ts:List Str):(xq n ts).length=n * n+ts.length * (n * n):=by
 unfold xq;rw[ak,mJ (n:=n) (fun x _=>by simp),g_,mJ (n:=n * n) (fun t _=>by rw[mJ (n:=n) (fun x _=>by simp),g_])]
theorem qF{α:Type}[DecidableEq α]:∀{l m:List α},l.Nodup->(∀x∈l,x∈m)->l.length<=m.length
 | [],_,_,_=>au _
 | x::l,m,nd,h=>by
   have hx:=h x aO;have:=qF (l:=l) (m:=m.erase x) (ee.mp nd).2 fun y hy=>by
    have ne:y≠x:=fun e=>(ee.mp nd).1 (by rw[<-e];exact hy);exact(List.mem_erase_of_ne ne).mpr (h y (aH _ hy))
   rw[List.length_erase_of_mem hx] at this;have pos:0<m.length:=List.length_pos_of_mem hx;rw[bj];lia
noncomputable def fM(n:Nat)(ts:List Str):Nat:=6 * (n * n+ts.length * (n * n))+n
def Wf.cnt(w:Wf n ts S):S.cnt<=fM n ts:=by
 have h1:S.facts.length<=(xq n ts).length:=qF w.nd fun f hf=>Ff (w.rg f hf);have h2:S.stand.length<=(List.range n).length:=qF w.sd fun i hi=>cy.mpr (w.sr i hi);rw[Fm] at h1;rw[g_] at h2;unfold StI.cnt fM
 lia
def i_{α:Type}{l:List α}{x:α}(h:l.Nodup)(hx:x∉l):(l++[x]).Nodup:=by
 rw[lP];exact⟨h,by simp,fun y hy z hz=>by rw[show z=x by simpa using hz];exact fun e=>hx (by rw[<-e];exact hy)⟩
section
def Wf.tellIs{n:Nat}{ts:List Str}{S:StI}{L:LoI}(w:Wf n ts S){x k:Nat}(hx:x<n)(hk:k<n)(r:Str)(fr:List Int)(nn:Option Int):Wf n ts (StI.tellIs L S x k r fr nn):=by
 unfold StI.tellIs
 split
 · exact w
 · rename_i h;have mem:∀{f},f∈S.facts->f∈S.facts++[Fi.is x k]:=fun hf=>aS _ hf;refine⟨i_ w.nd h,fun f hf=> ?_,w.sd,w.sr,fun i hi=>mem (w.st0 i hi),fun a t y hf=> ?_⟩
   · rcases aI.mp hf with hf | hf
     · exact w.rg f hf
     · rw[ay.mp hf];exact⟨hx,hk⟩
   · rcases aI.mp hf with hf | hf
     · exact w.hs a t y hf
     · cases ay.mp hf
def cO(L:LoI)(S:StI)(x k:Nat)(r:Str)(fr:List Int)(nn:Option Int):(∀f∈S.facts,f∈(StI.tellIs L S x k r fr nn).facts)/\(StI.tellIs L S x k r fr nn).stand=S.stand/\Fi.is x k∈(StI.tellIs L S x k r fr nn).facts:=by
 unfold StI.tellIs
 split
 · rename_i h;exact⟨fun f hf=>hf,rfl,h⟩
 · exact⟨fun f hf=>aS _ hf,rfl,by show _∈S.facts++[_];simp⟩
def Wf.letStand'(nd:S.facts.Nodup)(rg:∀f∈S.facts,f.rg n ts)(sd:S.stand.Nodup)(sr:∀i∈S.stand,i<n)(st0:∀i∈S.stand,Fi.is i 0∈S.facts)(hs:∀a t y,Fi.has a t y∈S.facts->y∈S.stand\/y=x)(hx:x<n)(h0:0<n):Wf n ts (StI.letStand L S x):=by
 have isf:∀{S1:StI} {a k:Nat} {r:Str},S1.facts.Nodup/\(∀f∈S1.facts,f.rg n ts)/\S1.stand=S.stand++[x]/\(∀f∈S.facts,f∈S1.facts)/\(∀a t y,Fi.has a t y∈S1.facts->Fi.has a t y∈S.facts)->a<n->k<n->(StI.tellIs L S1 a k r [] none).facts.Nodup/\(∀f∈(StI.tellIs L S1 a k r [] none).facts,f.rg n ts)/\(StI.tellIs L S1 a k r [] none).stand=S.stand++[x]/\(∀f∈S.facts,f∈(StI.tellIs L S1 a k r [] none).facts)/\(∀a' t y,Fi.has a' t y∈(StI.tellIs L S1 a k r [] none).facts->Fi.has a' t y∈S.facts):=fun {S1 a k r} ⟨h1,h2,h3,h4,h5⟩ ha hk=>by
  unfold StI.tellIs
  split
  · exact⟨h1,h2,h3,h4,h5⟩
  · rename_i h;refine⟨i_ h1 h,fun f hf=> ?_,h3,fun f hf=>aS _ (h4 f hf),fun a' t y hf=> ?_⟩
    · rcases aI.mp hf with hf | hf
      · exact h2 f hf
      · rw[ay.mp hf];exact⟨ha,hk⟩
    · rcases aI.mp hf with hf | hf
      · exact h5 a' t y hf
      · cases ay.mp hf
 unfold StI.letStand
 split
 · rename_i h;refine⟨nd,rg,sd,sr,st0,fun a t y hf=>(hs a t y hf).elim id fun e=>by rw[e];exact h⟩
 · rename_i h;have b0:(S.addS x).facts.Nodup/\(∀f∈(S.addS x).facts,f.rg n ts)/\(S.addS x).stand=S.stand++[x]/\(∀f∈S.facts,f∈(S.addS x).facts)/\(∀a t y,Fi.has a t y∈(S.addS x).facts->Fi.has a t y∈S.facts):=⟨nd,rg,rfl,fun f hf=>hf,fun _ _ _ hf=>hf⟩;have fin:∀{S2:StI},S2.facts.Nodup/\(∀f∈S2.facts,f.rg n ts)/\S2.stand=S.stand++[x]/\(∀f∈S.facts,f∈S2.facts)/\(∀a t y,Fi.has a t y∈S2.facts->Fi.has a t y∈S.facts)->Wf n ts (StI.tellIs L S2 x 0 "all" [] none):=fun {S2} b2=>by
    obtain⟨h1,h2,h3,h4,h5⟩:=isf (r:="all") b2 hx h0;have h6:=(cO L S2 x 0 "all" [] none).2.2;refine⟨h1,h2,by rw[h3];exact i_ sd h,fun i hi=> ?_,fun i hi=> ?_,fun a t y hf=> ?_⟩
    · rw[h3] at hi;rcases aI.mp hi with hi | hi
      · exact sr i hi
      · rw[ay.mp hi];exact hx
    · rw[h3] at hi;rcases aI.mp hi with hi | hi
      · exact h4 _ (st0 i hi)
      · rw[ay.mp hi];exact h6
    · rw[h3];rcases hs a t y (h5 a t y hf) with z | z
      · exact aS _ z
      · rw[z];simp
   split
   · exact fin b0
   · exact fin (isf (r:="self") b0 hx hx)
def Wf.letStand{n:Nat}{ts:List Str}{S:StI}{L:LoI}(w:Wf n ts S){x:Nat}(hx:x<n):Wf n ts (StI.letStand L S x):=Wf.letStand' w.nd w.rg w.sd w.sr w.st0 (fun a t y h=> .inl (w.hs a t y h)) hx (bA (au _) hx)
def Wf.tellHas{n:Nat}{ts:List Str}{S:StI}{L:LoI}(w:Wf n ts S){x y:Nat}{t:Str}(hx:x<n)(ht:t∈ts)(hy:y<n)(r:Str)(fr:List Int)(nn:Option Int):Wf n ts (StI.tellHas L S x t y r fr nn):=by
 unfold StI.tellHas
 split
 · exact w
 · rename_i h;refine Wf.letStand' (i_ w.nd h) (fun f hf=> ?_) w.sd w.sr (fun i hi=>aS _ (w.st0 i hi)) (fun a s z hf=> ?_) hy (bA (au _) hy)
   · rcases aI.mp hf with hf | hf
     · exact w.rg f hf
     · rw[ay.mp hf];exact⟨hx,ht,hy⟩
   · rcases aI.mp hf with hf | hf
     · exact .inl (w.hs a s z hf)
     · cases ay.mp hf;exact .inr rfl
end
structure LoI.Wd(L:LoI)(ts:List Str):Prop where
 ev:∀k,∀e∈L.everys k,e.1<L.parts.length
 no:∀k,∀e∈L.nos k,e.1<L.parts.length
 wi:∀r,∀e∈L.withins r,e.1∈ts
 m1:∀r,∀e∈L.mk1 r,e.2.1∈ts
 m2:∀r,∀e∈L.mk2 r,e.2.1∈ts
 bo:∀k,∀e∈L.boths k,e.1<L.parts.length/\e.2.1<L.parts.length
 so:∀k,∀e∈L.somes k,e.2<L.parts.length
 fi:∀(r:Str) (m i:Nat),L.fillers r=some m->m.testBit i=true->∃k,L.wholes r i=some k/\k<L.parts.length/\i<L.parts.length
 sh:∀(i:Nat) (r:Str) (j:Nat),L.shapes[i]? =some (Sh.some r j)->r∈ts
structure Ew(C D:Addr)(B:xt)(A:LoA)(b l:Addr)(N:Nat)(T:Tg)(H:Hp)(L:LoI)(ts:List Str)(S:StI):Prop where
 ev:Ev C D B A b l N T H L S
 wf:Wf L.parts.length ts S
 wd:L.Wd ts
 bd:fM L.parts.length ts<=9800000
section
def Ew.same(h:Ew C D B A b l N T H L ts S)(s:Same H H'):Ew C D B A b l N T H' L ts S:=⟨h.ev.same s,h.wf,h.wd,h.bd⟩
def Ew.cnt(h:Ew C D B A b l N T H L ts S):S.cnt<=9800000:=ao h.wf.cnt h.bd
end
def iS{α:Type}{R:Hp->V->α->Prop}(m:Mo R){H:Hp}{T:Tg}{i n:Nat}{p:Addr}{f:Key->List α}(h:FTb R H T i p f n)(tg:TgOk T H){g:Addr}(hg:H g=none)(k:Key):∃kvs q vs,upd H g (.lst []) p=some (.dK kvs)/\(cZ kvs k).getD (.ref g)= .ref q/\upd H g (.lst []) q=some (.lst vs)/\Paired (R (upd H g (.lst []))) vs (f k)/\∀{S:List Nat} {T':Tg} {H':Hp},Fr S T T' (upd H g (.lst [])) H'->i∉S->H' q=some (.lst vs):=by
 have s:=af hg (.lst []);obtain⟨t,kvs,e,l,ll,r⟩:=h;refine⟨kvs,?_⟩;rcases r k with⟨z,z'⟩ | ⟨q,vs,z1,z2,z3,z4⟩
 · refine⟨g,[],s _ _ e,by rw[z];rfl,ae,by rw[z'];exact .nil,fun {S T' H'} fr hi=>(Fr.free fr ae (tg.free hg)).2⟩
 · exact⟨q,vs,s _ _ e,by rw[z1];rfl,s _ _ z3,zP m s.tups z4,fun {S T' H'} fr hi=>fr.at hi z2 (s _ _ z3)⟩
noncomputable def StI.fromKind(L:LoI)(S:StI)(at' x k:Nat):StI:=
 let S1:=(L.everys k).foldl (fun S e=>StI.tellIs L S x e.1 "every" [(at':Int)] (some e.2)) S
 match L.shapes[k]? with
 | some (.both i j)=>StI.tellIs L (StI.tellIs L S1 x i "first" [(at':Int)] none) x j "second" [(at':Int)] none
 | some (.some r j)=>StI.tellHas L S1 x r j "some" [(at':Int)] none
 | _=>S1
def Ew.tell(h:Ew C D B A b l N T H L ts S)(ev:Ev C D B A b l N T' H' L S')(w:Wf L.parts.length ts S'):Ew C D B A b l N T' H' L ts S':=⟨ev,w,h.wd,h.bd⟩
def fR(ew:Ew C D B A b l N T H L ts S)(hx:x<L.parts.length)(hk:k<L.parts.length)(epf:H pf=some (.lst (fr.map V.int)))(tpf:T pf=none)(q:∀H' T',Fr dX T T' H H'->Ew C D B A b l N T' H' L ts (StI.tellIs L S x k r fr nn)->Q .non H'):kP C D [.ref b,.int (x:Int),.int (k:Int),.str r,.ref pf,wD nn] H Q:=⟨b,l,B,A,N,T,L,S,x,k,r,pf,fr,nn,rfl,ew.ev,hx,hk,ao ew.cnt (by decide),epf,tpf,fun H' T' f ev=>q H' T' f (ew.tell ev (ew.wf.tellIs hx hk r fr nn))⟩
def jA(ew:Ew C D B A b l N T H L ts S)(hx:x<L.parts.length)(ht:t∈ts)(hy:y<L.parts.length)(epf:H pf=some (.lst (fr.map V.int)))(tpf:T pf=none)(q:∀H' T',Fr dX T T' H H'->Ew C D B A b l N T' H' L ts (StI.tellHas L S x t y r fr nn)->Q .non H'):jC C D [.ref b,.int (x:Int),.str t,.int (y:Int),.str r,.ref pf,wD nn] H Q:=⟨b,l,B,A,N,T,L,S,x,t,y,r,pf,fr,nn,rfl,ew.ev,hx,hy,ao ew.cnt (by decide),epf,tpf,fun H' T' f ev=>q H' T' f (ew.tell ev (ew.wf.tellHas hx ht hy r fr nn))⟩
def uN(f:Nat->List α)(k:Nat):kN f (.inl (k:Int))=f k:=by
 show(if 0<=(k:Int) then f (k:Int).toNat else [])=_;rw[aK (by lia),bW]
def cQ{α:Type}(g:StI->α->StI)(S:StI){l:List α}{i:Nat}{x:α}(h:l[i]? =some x):(l.take (i+1)).foldl g S=g ((l.take i).foldl g S) x:=by
 rw[bF,h,fB];rfl
inductive mf(C D:Addr)(vs:List V)(H:Hp)(Q:VK):Prop
 | mk:∀(b l:Addr) (B:xt) (A:LoA) (N:Nat) (T:Tg) (L:LoI) (ts:List Str) (S:StI) (at' x k:Nat),(vs=[.ref b,.int (at':Int),.int (x:Int),.int (k:Int)])->(Ew C D B A b l N T H L ts S)->(x<L.parts.length)->(k<L.parts.length)->(∀H' T',Fr dX T T' H H'->Ew C D B A b l N T' H' L ts (StI.fromKind L S at' x k)->Q .non H')->mf C D vs H Q
def qa(C D:Addr):Sp:=fun vs H Q _=>mf C D vs H Q
section
def scFK:bb ["self","at","x","kind","other","number","form","first","second"] ow (aJ k7):=fS
def wB(F:Fun K "from_kind" "Still.from_kind" k7 f fd)(lc:vh K C)(sc:tm K D)(Gti:Ml P w K mg base D 2 "tell_is" mq (fU C D))(Gth:Ml P w K mg base D 6 "tell_has" qr (iH C D)):bK P w K mg base eJ 7 f fd ow (qa C D):=by
 refine F.o scFK fun cdv A0 outer s0 H vs Q E hr h=> ?_;obtain⟨b,l,B,A,N,T,L,ts,S,at',x,k,rfl,ew,hx,hk,q⟩:=h;have hu:=fY hr;refine⟨_,jn (mw (bY (rA hu (cM (cM aC)) bZ (bE bO))) (eO rfl (bz (fw 4 scFK.nd) (bz (fw 5 scFK.nd) dD))) (bg (bh (gj aC sc.c Gti hr (bR bx (jo cL aN (bE (eE bu)) dJ))))))
  (aZ (bH (fu CB (jM bS (cM (cM aC)) bZ) eo) (bg (j6)) br)
  (aZ (ui (jM bS (cM (cM aC)) bZ) (eO rfl (bz (fw 6 scFK.nd) (bz (fw 7 scFK.nd) (bz (fw 8 scFK.nd) dD)))))
  (bg (bH (fu dv eZ aN) (aZ (bh (gj aC sc.c Gti hr (bR bx (jo iX aN (bE (eE bu)) eo)))) (bg (bh (gj aC sc.c Gti hr (bR bx (jo ku aN (bE (eE bu)) eo)))))) (bg (bh (gj aC sc.c Gth hr (bR bx (bR iX (jo ku aN (bE (eE bu)) eo)))))))))),?_⟩
 refine⟨fun σ H'=>∃(o4 o5 o6 o7 o8:Option V) (T':Tg),σ=[some (.ref b),some (.int (at':Int)),some (.int (x:Int)),some (.int (k:Int)),o4,o5,o6,o7,o8]/\Fr dX T T' H H'/\Ew C D B A b l N T' H' L ts ((L.everys k).foldl (fun S e=>StI.tellIs L S x e.1 "every" [(at':Int)] (some e.2)) S),?_,?_⟩
 · refine⟨D,_,_,_,ew.ev.sa.ob,sc.c,sc.m0,pA B l,C,_,_,_,ew.ev.la.ob,lc.c,lc.n4,LR A,.inl ⟨_,.inl (id ew.ev.la.f4).2.choose_spec.1⟩,au _,fun g0 hg0=> ?_⟩;obtain⟨kvs,qq,vs,ep,eg,eq,rv,stay⟩:=iS e2_mo ew.ev.la.f4 ew.ev.la.tg hg0 (.inl (k:Int));rw[uN] at rv;have z1:=af hg0 (.lst []);have ew1:=ew.same z1;have f1:Fr dX T T H (upd H g0 (.lst [])):=Fr.of z1;generalize upd H g0 (.lst [])=H1 at ep eq rv stay ew1 f1⊢;refine⟨_,DGet.k (k:= .inl (k:Int)) ep,?_⟩;rw[eg];have lv:=aR rv;refine⟨⟨_,SqL.of eq⟩,cf (xs:=vs) (fun i σ H2=>∃(o4 o5:Option V) (T2:Tg),σ=[some (.ref b),some (.int (at':Int)),some (.int (x:Int)),some (.int (k:Int)),o4,o5,none,none,none]/\Fr dX T T2 H1 H2/\Ew C D B A b l N T2 H2 L ts (((L.everys k).take i).foldl (fun S e=>StI.tellIs L S x e.1 "every" [(at':Int)] (some e.2)) S)) ⟨none,none,T,rfl,Fr.refl,ew1⟩ ?_ ?_ ?_⟩
   · rintro i σ H2 _ ⟨o4,o5,T2,rfl,f2,_⟩;exact SqL.of (stay f2 (by decide))
   · rintro i y σ H2 hy ⟨o4,o5,T2,rfl,f2,ew2⟩;obtain⟨e,he,t0,rfl,ht⟩:=bN rv hy;have hin:=av he;refine⟨_,SqT.of (f2.tups _ _ ht),rfl,?_⟩;refine⟨_,_,ew2.ev.sa.ob,cP B l,by show 1<=sizeLine;decide,fun pf hpf=> ?_⟩;have z3:=af hpf (.lst [.int (at':Int)]);refine fR (nn:=some e.2) (fr:=[(at':Int)]) (ew2.same z3) hx (ew.wd.ev k e hin) ae (ew2.ev.sa.tg.free hpf) fun H4 T4 f4 ew4=>⟨_,_,T4,rfl,(f2.trans (Fr.of z3)).trans f4,?_⟩;rw[cQ _ _ he];exact ew4
   · rintro σ H2 ⟨o4,o5,T2,rfl,f2,ew2⟩;rw[lv,a_] at ew2;exact⟨o4,o5,none,none,none,T2,rfl,f1.trans f2,ew2⟩
 rintro σ H' ⟨o4,o5,o6,o7,o8,T',rfl,fr,ew1⟩;unfold StI.fromKind at q;dsimp only at q;generalize (L.everys k).foldl (fun S e=>StI.tellIs L S x e.1 "every" [(at':Int)] (some e.2)) S=S1 at ew1 q;obtain⟨_,ss,e7,r7⟩:=id ew1.ev.la.f1;obtain⟨sk,hsk⟩:∃sk,L.shapes[k]? =some sk:=⟨_,aE (by rw[ew.ev.la.sl];exact hk)⟩;obtain⟨vsk,hv,ivk⟩:=oP r7 hsk;rw[hsk] at q;have slt:=ew.ev.ok.lt _ _ hsk;refine⟨D,_,_,_,ew1.ev.sa.ob,sc.c,sc.m0,pA B l,C,_,_,_,ew1.ev.la.ob,lc.c,lc.n1,D9 A,ss,vsk,SqL.of e7,aX hv,rfl,?_⟩;cases sk with
 | no=>
   obtain rfl:vsk= .non:=ivk;exact(q H' T' fr ew1)
 | both i j=>
   obtain⟨pp,rfl,hpp⟩:=ivk;refine⟨D,_,_,_,ew1.ev.sa.ob,sc.c,sc.m0,pA B l,C,_,_,_,ew1.ev.la.ob,lc.c,lc.n1,D9 A,ss,_,SqL.of e7,aX hv,_,SqT.of hpp,rfl,?_⟩;refine⟨_,_,ew1.ev.sa.ob,cP B l,by show 1<=sizeLine;decide,fun pf hpf=> ?_⟩;have z3:=af hpf (.lst [.int (at':Int)]);refine fR (nn:=none) (fr:=[(at':Int)]) (ew1.same z3) hx slt.1 ae (ew1.ev.sa.tg.free hpf) fun H4 T4 f4 ew4=> ?_;refine⟨_,_,ew4.ev.sa.ob,cP B l,by show 1<=sizeLine;decide,fun pf' hpf'=> ?_⟩;have z5:=af hpf' (.lst [.int (at':Int)]);exact fR (nn:=none) (fr:=[(at':Int)]) (ew4.same z5) hx slt.2 ae (ew4.ev.sa.tg.free hpf') fun H6 T6 f6 ew6=>q H6 T6 ((((fr.trans (Fr.of z3)).trans f4).trans (Fr.of z5)).trans f6) ew6
 | some r j=>
   obtain⟨pp,rfl,hpp⟩:=ivk;refine⟨D,_,_,_,ew1.ev.sa.ob,sc.c,sc.m0,pA B l,C,_,_,_,ew1.ev.la.ob,lc.c,lc.n1,D9 A,ss,_,SqL.of e7,aX hv,_,SqT.of hpp,rfl,?_⟩;refine⟨_,_,ew1.ev.sa.ob,fV B l,by show 1<=sizeLine;decide,fun pf hpf=> ?_⟩;have z3:=af hpf (.lst [.int (at':Int)]);exact jA (nn:=none) (fr:=[(at':Int)]) (ew1.same z3) hx (ew.wd.sh _ _ _ hsk) slt ae (ew1.ev.sa.tg.free hpf) fun H4 T4 f4 ew4=>q H4 T4 ((fr.trans (Fr.of z3)).trans f4) ew4
end
noncomputable def AC(i j:Int)(b:Bool):List Int:=if b then [i,j] else [j,i]
def wt(i j:Int)(b:Bool):wx i j b=(AC i j b).map V.int:=by cases b<;>rfl
noncomputable def StI.byNo(L:LoI)(at' x:Nat)(S:StI)(e:Nat × Int × Bool):StI:=if Fi.is x e.1∈S.facts then StI.tellIs L S x 1 "no" (AC (at':Int) (S.facts.idxOf (.is x e.1):Nat) e.2.2) (some e.2.1) else S
noncomputable def StI.byBoth(L:LoI)(at' x:Nat)(S:StI)(e:Nat × Nat × Bool):StI:=if Fi.is x e.1∈S.facts then StI.tellIs L S x e.2.1 "both" (AC (at':Int) (S.facts.idxOf (.is x e.1):Nat) e.2.2) none else S
noncomputable def StI.fromPairs(L:LoI)(S:StI)(at' x k:Nat):StI:=(L.boths k).foldl (StI.byBoth L at' x) ((L.nos k).foldl (StI.byNo L at' x) S)
def jL(sa:kA D B b l T H sh S)(f:Fi):∃kvs,H B.q2=some (.dT kvs)/\cZ kvs f.key=if f∈S.facts then some (.int (S.facts.idxOf f:Nat)) else none:=by
 obtain⟨_,kvs,e,r,_⟩:=id sa.s2;refine⟨kvs,e,?_⟩;rw[r];show zQ S.facts f.key=_
 split
 · rename_i h;exact wj h
 · rename_i h;exact wm h
inductive kH(C D:Addr)(vs:List V)(H:Hp)(Q:VK):Prop
 | mk:∀(b l:Addr) (B:xt) (A:LoA) (N:Nat) (T:Tg) (L:LoI) (ts:List Str) (S:StI) (at' x k:Nat),(vs=[.ref b,.int (at':Int),.int (x:Int),.int (k:Int)])->(Ew C D B A b l N T H L ts S)->(x<L.parts.length)->(∀H' T',Fr dX T T' H H'->Ew C D B A b l N T' H' L ts (StI.fromPairs L S at' x k)->Q .non H')->kH C D vs H Q
def oi(C D:Addr):Sp:=fun vs H Q _=>kH C D vs H Q
section
def scFP:bb ["self","at","x","kind","other","number","is_first","froms","whole"] ow (aJ jH):=fS
def uv(F:Fun K "from_pairs" "Still.from_pairs" jH f fd)(lc:vh K C)(sc:tm K D)(Gti:Ml P w K mg base D 2 "tell_is" mq (fU C D))(Gio:Cl P w K mg base 1 "in_order" we F5):bK P w K mg base eJ 3 f fd ow (oi C D):=by
 refine F.o scFP fun cdv A0 outer s0 H vs Q E hr h=> ?_;obtain⟨b,l,B,A,N,T,L,ts,S,at',x,k,rfl,ew,hx,q⟩:=h;have hu:=fY hr;refine⟨_,jn (mw (bY (rA hu (cM (cM aC)) bZ (bE bO))) (eO rfl (bz (fw 4 scFP.nd) (bz (fw 5 scFP.nd) (bz (fw 6 scFP.nd) dD)))) (bg (bH (fu (qC hu) (bL (dW bx cL)) (cM aC)) (aZ (eV 7 scFP.nd (eU Gio hr (eY bu (BA hu (cM aC) (bL (dW bx cL))) eZ))) (bg (bh (gj aC sc.c Gti hr (bR bx (jo (cM (cM aC)) aN iX dJ)))))) br)))
  (bg (mw (bY (rA hu (cM (cM aC)) bZ (bE bO))) (eO rfl (bz (fw 4 scFP.nd) (bz (fw 8 scFP.nd) (bz (fw 6 scFP.nd) dD)))) (bg (bH (fu (qC hu) (bL (dW bx cL)) (cM aC)) (bg (bh (gj aC sc.c Gti hr (bR bx (jo ku aN (eU Gio hr (eY bu (BA hu (cM aC) (bL (dW bx cL))) eZ)) eo))))) br)))),?_⟩
 have p1:1<L.parts.length:=ew.ev.p2;refine⟨fun σ H'=>∃(o4 o5 o6 o7 o8:Option V) (T':Tg),σ=[some (.ref b),some (.int (at':Int)),some (.int (x:Int)),some (.int (k:Int)),o4,o5,o6,o7,o8]/\Fr dX T T' H H'/\Ew C D B A b l N T' H' L ts ((L.nos k).foldl (StI.byNo L at' x) S),?_,?_⟩
 · refine⟨D,_,_,_,ew.ev.sa.ob,sc.c,sc.m0,pA B l,C,_,_,_,ew.ev.la.ob,lc.c,lc.n5,Li A,.inl ⟨_,.inl (id ew.ev.la.f5).2.choose_spec.1⟩,au _,fun g0 hg0=> ?_⟩;obtain⟨kvs,qq,vs,ep,eg,eq,rv,stay⟩:=iS e3_mo ew.ev.la.f5 ew.ev.la.tg hg0 (.inl (k:Int));rw[uN] at rv;have z1:=af hg0 (.lst []);have ew1:=ew.same z1;have f1:Fr dX T T H (upd H g0 (.lst [])):=Fr.of z1;generalize upd H g0 (.lst [])=H1 at ep eq rv stay ew1 f1⊢;refine⟨_,DGet.k (k:= .inl (k:Int)) ep,?_⟩;rw[eg];have lv:=aR rv;refine⟨⟨_,SqL.of eq⟩,cf (xs:=vs) (fun i σ H2=>∃(o4 o5 o6 o7 o8:Option V) (T2:Tg),σ=[some (.ref b),some (.int (at':Int)),some (.int (x:Int)),some (.int (k:Int)),o4,o5,o6,o7,o8]/\Fr dX T T2 H1 H2/\Ew C D B A b l N T2 H2 L ts (((L.nos k).take i).foldl (StI.byNo L at' x) S)) ⟨none,none,none,none,none,T,rfl,Fr.refl,ew1⟩ ?_ ?_ ?_⟩
   · rintro i σ H2 _ ⟨o4,o5,o6,o7,o8,T2,rfl,f2,_⟩;exact SqL.of (stay f2 (by decide))
   · rintro i y σ H2 hy ⟨o4,o5,o6,o7,o8,T2,rfl,f2,ew2⟩;obtain⟨e,he,t0,rfl,ht⟩:=bN rv hy;have hin:=av he;rw[cQ _ _ he];generalize ((L.nos k).take i).foldl (StI.byNo L at' x) S=S2 at ew2⊢;refine⟨_,SqT.of (f2.tups _ _ ht),rfl,?_⟩;refine⟨by show 2<=sizeLine;decide,fun u hu'=> ?_⟩;have z3:=af hu' (.tup [.int (x:Int),.int (e.1:Int)]);have ew3:=ew2.same z3;have h3:upd H2 u (.tup [.int (x:Int),.int (e.1:Int)]) u=some (.tup [.int (x:Int),.int (e.1:Int)]):=ae;have f3:=f2.trans (Fr.of (S:=dX) (T:=T2) z3);generalize upd H2 u (.tup [.int (x:Int),.int (e.1:Int)])=H3 at ew3 h3 f3⊢;obtain⟨kp,e4,r4⟩:=jL ew3.ev.sa (.is x e.1);refine⟨D,_,_,_,ew3.ev.sa.ob,sc.c,sc.m3,B5 B l,B.q2,_,rfl,DGet.t (k:=(Fi.is x e.1).key) e4 h3,?_⟩;rw[r4];unfold StI.byNo;by_cases hf:Fi.is x e.1∈S2.facts
     · rw[aK hf,aK hf];refine⟨D,_,_,_,ew3.ev.sa.ob,sc.c,sc.m3,B5 B l,by show 2<=sizeLine;decide,fun u5 hu5=> ?_⟩;have z5:=af hu5 (.tup [.int (x:Int),.int (e.1:Int)]);have ew5:=ew3.same z5;have h5:upd H3 u5 (.tup [.int (x:Int),.int (e.1:Int)]) u5=some (.tup [.int (x:Int),.int (e.1:Int)]):=ae;have f5:=f3.trans (Fr.of (S:=dX) (T:=T2) z5);have e5:=z5 _ _ e4;generalize upd H3 u5 (.tup [.int (x:Int),.int (e.1:Int)])=H5 at ew5 h5 f5 e5⊢;refine⟨_,.inr ⟨kp,(Fi.is x e.1).key,u5,.inl e5,rfl,h5,by rw[r4,aK hf]⟩,(at':Int),(S2.facts.idxOf (.is x e.1):Nat),e.2.2,rfl,fun pf hpf=> ?_⟩;have z6:=af hpf (.lst (wx (at':Int) (S2.facts.idxOf (.is x e.1):Nat) e.2.2));have ew6:=ew5.same z6;have e6:upd H5 pf (.lst (wx (at':Int) (S2.facts.idxOf (.is x e.1):Nat) e.2.2)) pf=some (.lst ((AC (at':Int) (S2.facts.idxOf (.is x e.1):Nat) e.2.2).map V.int)):=by rw[ae,wt]
       have f6:=f5.trans (Fr.of (S:=dX) (T:=T2) z6);have t6:=ew5.ev.sa.tg.free hpf;generalize upd H5 pf (.lst (wx (at':Int) (S2.facts.idxOf (.is x e.1):Nat) e.2.2))=H6 at ew6 e6 f6⊢;refine⟨_,_,ew6.ev.sa.ob,cP B l,D,_,_,_,ew6.ev.sa.ob,sc.c,sc.m0,pA B l,C,_,_,_,ew6.ev.la.ob,lc.c,lc.n14,Dd ew.ev.ex,?_⟩;exact fR (k:=1) (nn:=some e.2.1) ew6 hx p1 e6 t6 fun H7 T7 f7 ew7=>⟨_,_,_,_,_,T7,rfl,f6.trans f7,ew7⟩
     · rw[aG hf,aG hf];exact⟨_,_,_,_,_,T2,rfl,f3,ew3⟩
   · rintro σ H2 ⟨o4,o5,o6,o7,o8,T2,rfl,f2,ew2⟩;rw[lv,a_] at ew2;exact⟨o4,o5,o6,o7,o8,T2,rfl,f1.trans f2,ew2⟩
 rintro σ H' ⟨o4,o5,o6,o7,o8,T',rfl,fr,ew0⟩;unfold StI.fromPairs at q;generalize (L.nos k).foldl (StI.byNo L at' x) S=S0 at ew0 q;refine⟨D,_,_,_,ew0.ev.sa.ob,sc.c,sc.m0,pA B l,C,_,_,_,ew0.ev.la.ob,lc.c,lc.n9,Lh A,.inl ⟨_,.inl (id ew0.ev.la.f9).2.choose_spec.1⟩,au _,fun g0 hg0=> ?_⟩;obtain⟨kvs,qq,vs,ep,eg,eq,rv,stay⟩:=iS eb_mo ew0.ev.la.f9 ew0.ev.la.tg hg0 (.inl (k:Int));rw[uN] at rv;have z1:=af hg0 (.lst []);have ew1:=ew0.same z1;have f1:Fr dX T' T' H' (upd H' g0 (.lst [])):=Fr.of z1;generalize upd H' g0 (.lst [])=H1 at ep eq rv stay ew1 f1⊢;refine⟨_,DGet.k (k:= .inl (k:Int)) ep,?_⟩;rw[eg];have lv:=aR rv;refine⟨⟨_,SqL.of eq⟩,cf (xs:=vs) (fun i σ H2=>∃(o4 o5 o6 o7 o8:Option V) (T2:Tg),σ=[some (.ref b),some (.int (at':Int)),some (.int (x:Int)),some (.int (k:Int)),o4,o5,o6,o7,o8]/\Fr dX T' T2 H1 H2/\Ew C D B A b l N T2 H2 L ts (((L.boths k).take i).foldl (StI.byBoth L at' x) S0)) ⟨o4,o5,o6,o7,o8,T',rfl,Fr.refl,ew1⟩ ?_ ?_ ?_⟩
 · rintro i σ H2 _ ⟨o4,o5,o6,o7,o8,T2,rfl,f2,_⟩;exact SqL.of (stay f2 (by decide))
 · rintro i y σ H2 hy ⟨o4,o5,o6,o7,o8,T2,rfl,f2,ew2⟩;obtain⟨e,he,t0,rfl,ht⟩:=bN rv hy;have hin:=av he;rw[cQ _ _ he];generalize ((L.boths k).take i).foldl (StI.byBoth L at' x) S0=S2 at ew2⊢;refine⟨_,SqT.of (f2.tups _ _ ht),rfl,?_⟩;refine⟨by show 2<=sizeLine;decide,fun u hu'=> ?_⟩;have z3:=af hu' (.tup [.int (x:Int),.int (e.1:Int)]);have ew3:=ew2.same z3;have h3:upd H2 u (.tup [.int (x:Int),.int (e.1:Int)]) u=some (.tup [.int (x:Int),.int (e.1:Int)]):=ae;have f3:=f2.trans (Fr.of (S:=dX) (T:=T2) z3);generalize upd H2 u (.tup [.int (x:Int),.int (e.1:Int)])=H3 at ew3 h3 f3⊢;obtain⟨kp,e4,r4⟩:=jL ew3.ev.sa (.is x e.1);refine⟨D,_,_,_,ew3.ev.sa.ob,sc.c,sc.m3,B5 B l,B.q2,_,rfl,DGet.t (k:=(Fi.is x e.1).key) e4 h3,?_⟩;rw[r4];unfold StI.byBoth;by_cases hf:Fi.is x e.1∈S2.facts
   · rw[aK hf,aK hf];refine⟨_,_,ew3.ev.sa.ob,cP B l,D,_,_,_,ew3.ev.sa.ob,sc.c,sc.m3,B5 B l,by show 2<=sizeLine;decide,fun u5 hu5=> ?_⟩;have z5:=af hu5 (.tup [.int (x:Int),.int (e.1:Int)]);have ew5:=ew3.same z5;have h5:upd H3 u5 (.tup [.int (x:Int),.int (e.1:Int)]) u5=some (.tup [.int (x:Int),.int (e.1:Int)]):=ae;have f5:=f3.trans (Fr.of (S:=dX) (T:=T2) z5);have e5:=z5 _ _ e4;generalize upd H3 u5 (.tup [.int (x:Int),.int (e.1:Int)])=H5 at ew5 h5 f5 e5⊢;refine⟨_,.inr ⟨kp,(Fi.is x e.1).key,u5,.inl e5,rfl,h5,by rw[r4,aK hf]⟩,(at':Int),(S2.facts.idxOf (.is x e.1):Nat),e.2.2,rfl,fun pf hpf=> ?_⟩;have z6:=af hpf (.lst (wx (at':Int) (S2.facts.idxOf (.is x e.1):Nat) e.2.2));have ew6:=ew5.same z6;have e6:upd H5 pf (.lst (wx (at':Int) (S2.facts.idxOf (.is x e.1):Nat) e.2.2)) pf=some (.lst ((AC (at':Int) (S2.facts.idxOf (.is x e.1):Nat) e.2.2).map V.int)):=by rw[ae,wt]
     have f6:=f5.trans (Fr.of (S:=dX) (T:=T2) z6);have t6:=ew5.ev.sa.tg.free hpf;generalize upd H5 pf (.lst (wx (at':Int) (S2.facts.idxOf (.is x e.1):Nat) e.2.2))=H6 at ew6 e6 f6⊢;exact fR (k:=e.2.1) (nn:=none) ew6 hx (ew.wd.bo k e hin).2 e6 t6 fun H7 T7 f7 ew7=>⟨_,_,_,_,_,T7,rfl,f6.trans f7,ew7⟩
   · rw[aG hf,aG hf];exact⟨_,_,_,_,_,T2,rfl,f3,ew3⟩
 · rintro σ H2 ⟨o4,o5,o6,o7,o8,T2,rfl,f2,ew2⟩;rw[lv,a_] at ew2;exact q H2 T2 ((fr.trans f1).trans f2) ew2
end
noncomputable def StI.byTie(L:LoI)(at' y:Nat)(t:Str)(k:Nat)(r:Str)(S:StI)(x:Nat):StI:=StI.tellIs L S x k r [(S.facts.idxOf (.has x t y):Nat),(at':Int)] none
noncomputable def qR(S:StI)(y:Nat)(t:Str)(k:Nat):Nat:=anot (cu (bX S.facts y t)) (cu (gR S.facts k))
noncomputable def StI.byEnd(L:LoI)(at' y:Nat)(r:Str)(S:StI)(t:Str)(k:Nat):StI:=(cG (qR S y t k)).foldl (StI.byTie L at' y t k r) S
noncomputable def StI.fromEnd(L:LoI)(S:StI)(at' y k:Nat):StI:=
 let S1:=(L.somes k).foldl (fun S e=>StI.byEnd L at' y "tie" S e.1 e.2) S
 if k=1 then(dH S1.facts).foldl (fun S t=>StI.byEnd L at' y "none" S t k) S1 else S1
theorem km(L:LoI)(at' y:Nat)(t:Str)(k:Nat)(r:Str){f:Fi}:∀(l:List Nat) {S:StI},f∈S.facts->f∈(l.foldl (StI.byTie L at' y t k r) S).facts
 | [],_,h=>h
 | x::l,S,h=>km L at' y t k r l ((cO L S x k r _ none).1 f h)
theorem lF{α:Type}(L:LoI)(at' y:Nat)(r:Str)(g:α->Str)(h:α->Nat){f:Fi}:∀(l:List α) {S:StI},f∈S.facts->f∈(l.foldl (fun S e=>StI.byEnd L at' y r S (g e) (h e)) S).facts
 | [],_,z=>z
 | x::l,S,z=>lF L at' y r g h l (km L at' y (g x) (h x) r _ z)
def mem_startsOf:x∈bX F y t↔Fi.has x t y∈F:=by
 unfold bX;rw[ff];constructor
 · rintro⟨f,hf,h⟩;cases f with
   | is a b=>cases h
   | has a s b=>
     dsimp only at h
     split at h
     · rename_i c;cases h;rw[<-c.1,<-c.2];exact hf
     · cases h
 · intro h;exact⟨_,h,aK ⟨rfl,rfl⟩⟩
def mem_endsOf:y∈dE F x t↔Fi.has x t y∈F:=by
 unfold dE;rw[ff];constructor
 · rintro⟨f,hf,h⟩;cases f with
   | is a b=>cases h
   | has a s b=>
     dsimp only at h
     split at h
     · rename_i c;cases h;rw[<-c.1,<-c.2];exact hf
     · cases h
 · intro h;exact⟨_,h,aK ⟨rfl,rfl⟩⟩
def mem_ksOf:k∈gX F x↔Fi.is x k∈F:=by
 unfold gX;rw[ff];constructor
 · rintro⟨f,hf,h⟩;cases f with
   | is a b=>
     dsimp only at h
     split at h
     · rename_i c;cases h;rw[<-c];exact hf
     · cases h
   | has a s b=>cases h
 · intro h;exact⟨_,h,aK rfl⟩
def mem_xsOf:x∈gR F k↔Fi.is x k∈F:=by
 unfold gR;rw[ff];constructor
 · rintro⟨f,hf,h⟩;cases f with
   | is a b=>
     dsimp only at h
     split at h
     · rename_i c;cases h;rw[<-c];exact hf
     · cases h
   | has a s b=>cases h
 · intro h;exact⟨_,h,aK rfl⟩
def FJ(h:a<2^n):anot a b<2^n:=bA (Nat.sub_le _ _) h
def xg(h:x∈cG (qR S y t k)):Fi.has x t y∈S.facts:=by
 rw[j9,qR,mR,jQ,ba,dy] at h;exact mem_startsOf.mp h.1
section
abbrev h_(t:TE)(σ:L2.St)(v:V):Prop:=∀H Q,Q v H->t σ H Q
def gv(h:σ[i]? =some (some v)):h_ (ng i) σ v:=fun _ _ k=>onV.of h k
def cV(h:σ[i]? =some (some v))(q:ta σ H fun xs H2=>Q (v::xs) H2):df (ng i) ta σ H Q:=onV.of h q
def oI{g:Int->Int->Bool}{Q:Bool->Hp->Prop}(c:g i j=k)(q:Q k H):zD (fun i j=>V.bl (g i j)) (.int i) (.int j) H fun x H1=>onB x fun c=>Q c H1:=by
 show Q (g i j) H;rw[c];exact q
def oN{Q:Bool->Hp->Prop}(s:Ex a b=true)(c:decide (a=b)=k)(q:Q (!k) H):LL a b H fun x H1=>onB x fun c=>Q c H1:=by
 show onT (Ex a b) _;rw[s];show Q (!decide (a=b)) H;rw[c];exact q
def gn(h:Q (σ.set i (some v)) H):gm i v σ H Q:=h
def g3(h:Q (((σ.set i (some v)).set j (some w)).set k (some u)) H):oH (gm i) (oH (gm j) (oH (gm k) Fw)) [v,w,u] σ H Q:=h
def g2(h:Q ((σ.set i (some v)).set j (some w)) H):oH (gm i) (oH (gm j) Fw) [v,w] σ H Q:=h
def lE{x:Nat}(sc:tm K D)(hn:NoAttr K D nm)(hl:(lK B l).lookup nm=some (.ref q))(ob:H b=some (.ins D B.dx (lK B l)))(ft:FT H T i q (AV g) n)(h0:h_ tb σ (.ref b))(h1:h_ ta σ (.int (x:Int)))(h2:h_ tt σ (.str t))(k:∀H',Same H H'->Q (.int (cu (g x t):Nat)) H'):tH (xF K tb nm) (Ei (df ta (df tt iE))) (tC (.int 0)) σ H Q:=by
 obtain⟨_,kvs,e,r,_⟩:=ft;refine h0 _ _ ⟨D,_,_,_,ob,sc.c,hn,hl,.inr ⟨_,.inl e⟩,h1 _ _ (h2 _ _ ⟨by show 2<=sizeLine;decide,fun u hu=> ?_⟩)⟩;have z:=af hu (.tup [.int (x:Int),.str t]);refine⟨_,DGet.t (k:=[.inl (x:Int),.inr t]) (z _ _ e) ae,?_⟩;rw[r,pH];exact k _ z
def Ia{x:Nat}(sc:tm K D)(hn:NoAttr K D nm)(hl:(lK B l).lookup nm=some (.ref q))(ob:H b=some (.ins D B.dx (lK B l)))(ft:FK H T i q (yw g) n)(h0:h_ tb σ (.ref b))(h1:h_ ta σ (.int (x:Int)))(k:Q (.int (cu (g x):Nat)) H):tH (xF K tb nm) ta (tC (.int 0)) σ H Q:=by
 obtain⟨_,kvs,e,r,_⟩:=ft;refine h0 _ _ ⟨D,_,_,_,ob,sc.c,hn,hl,.inl ⟨_,.inl e⟩,h1 _ _ ⟨_,DGet.k (k:= .inl (x:Int)) e,?_⟩⟩;rw[r,uG];exact k
def Gz{x:Nat}(sc:tm K D)(hn:NoAttr K D nm)(hl:(lK B l).lookup nm=some (.ref q))(ob:H b=some (.ins D B.dx (lK B l)))(ft:FK H T i q (yw g) n)(h0:h_ tb σ (.ref b))(h1:h_ ta σ (.int (x:Int)))(ne:g x≠[])(k:Q (.int (cu (g x):Nat)) H):vD (xF K tb nm) ta σ H Q:=by
 obtain⟨_,kvs,e,r,_⟩:=ft;refine h0 _ _ ⟨D,_,_,_,ob,sc.c,hn,hl,h1 _ _ ⟨.int (cu (g x):Nat),?_,k⟩⟩;refine .inl ⟨kvs,.inl (x:Int),.inl e,rfl,?_⟩;rw[r];show _=(if 0<=(x:Int)/\g (x:Int).toNat≠[] then some (V.int (cu (g (x:Int).toNat):Nat)) else none);rw[bW,aK ⟨by lia,ne⟩]
def kq{a c:Nat}(h1:∀Q:VK,(∀H1,Same H H1->Q (.int (a:Int)) H1)->ta σ H Q)(h2:∀(H1:Hp) (Q:VK),Same H H1->(∀H2,Same H1 H2->Q (.int (c:Int)) H2)->tb σ H1 Q)(lt:a<2^n)(le:n<=100000)(k:∀H2 pl,Same H H2->H2 pl=some (.lst ((cG (anot a c)).map fun(i:Nat)=>V.int (i:Int)))->(∀T,TgOk T H->T pl=none)->R (IB K pl) H2):kL K (pT nj [] E0 (df (BP (zD fun i j=>V.int (Builtin.bitAnd i j)) ta (Kz (rU fun i=>V.int (Builtin.bitNot i)) tb)) iE)) σ H R:=by
 refine h1 _ fun H1 s1=>h2 _ _ s1 fun H2 s2=> ?_;show mm [.int (Builtin.bitAnd (a:Int) (Builtin.bitNot (c:Int)))] H2 _;rw[Ak];refine⟨_,n,rfl,FJ lt,le,fun pl hpl=> ?_⟩;have z:=af hpl (.lst ((cG (anot a c)).map fun(i:Nat)=>V.int (i:Int)));exact⟨⟨_,SqL.of ae⟩,k _ pl (fun x o h=>z x o (s2 x o (s1 x o h))) ae fun T tg=>((tg.same s1).same s2).free hpl⟩
def u0(sc:tm K D)(sa:kA D B b l T H sh S)(hf:Fi.has x t y∈S.facts)(h0:h_ tb σ (.ref b))(h1:h_ ta σ (.int (x:Int)))(h2:h_ tt σ (.str t))(h3:h_ tc σ (.int (y:Int)))(k:∀H',Same H H'->Q (.int (S.facts.idxOf (.has x t y):Nat)) H'):vD (xF K tb "places") (Ei (df ta (df tt (df tc iE)))) σ H Q:=by
 obtain⟨kvs,e,r⟩:=jL sa (.has x t y);refine h0 _ _ ⟨D,_,_,_,sa.ob,sc.c,sc.m3,B5 B l,h1 _ _ (h2 _ _ (h3 _ _ ⟨by show 3<=sizeLine;decide,fun u hu=> ?_⟩))⟩;have z:=af hu (.tup [.int (x:Int),.str t,.int (y:Int)]);exact⟨_,.inr ⟨kvs,(Fi.has x t y).key,u,.inl (z _ _ e),rfl,ae,by rw[r,aK hf]⟩,k _ z⟩
def GA(sc:tm K D)(sa:kA D B b l T H sh S)(hf:Fi.is x y∈S.facts)(h0:h_ tb σ (.ref b))(h1:h_ ta σ (.int (x:Int)))(h3:∀Q:VK,Q (.int (y:Int)) H->tc σ H Q)(k:∀H',Same H H'->Q (.int (S.facts.idxOf (.is x y):Nat)) H'):vD (xF K tb "places") (Ei (df ta (df tc iE))) σ H Q:=by
 obtain⟨kvs,e,r⟩:=jL sa (.is x y);refine h0 _ _ ⟨D,_,_,_,sa.ob,sc.c,sc.m3,B5 B l,h1 _ _ (h3 _ ⟨by show 2<=sizeLine;decide,fun u hu=> ?_⟩)⟩;have z:=af hu (.tup [.int (x:Int),.int (y:Int)]);exact⟨_,.inr ⟨kvs,(Fi.is x y).key,u,.inl (z _ _ e),rfl,ae,by rw[r,aK hf]⟩,k _ z⟩
end
inductive oj(C D:Addr)(vs:List V)(H:Hp)(Q:VK):Prop
 | mk:∀(b l:Addr) (B:xt) (A:LoA) (N:Nat) (T:Tg) (L:LoI) (ts:List Str) (S:StI) (at' y k:Nat),(vs=[.ref b,.int (at':Int),.int (y:Int),.int (k:Int)])->(Ew C D B A b l N T H L ts S)->(Fi.is y k∈S.facts)->(∀H' T',Fr dX T T' H H'->Ew C D B A b l N T' H' L ts (StI.fromEnd L S at' y k)->Q .non H')->oj C D vs H Q
def sL(C D:Addr):Sp:=fun vs H Q _=>oj C D vs H Q
section
def scFE:bb ["self","at","y","kind","tie","whole","x"] zK (aJ nA):=fS
def yo(F:Fun K "from_end" "Still.from_end" nA f fd)(lc:vh K C)(sc:tm K D)(Gti:Ml P w K mg base D 2 "tell_is" mq (fU C D))(Gbo:Cl P w K mg base 1 "bits_of" ["mask"] nj)(mls:mg "list"=none):bK P w K mg base eJ 3 f fd zK (sL C D):=by
 refine F.o scFE fun cdv A0 outer s0 H vs Q E hr h=> ?_;obtain⟨b,l,B,A,N,T,L,ts,S,at',y,k,rfl,ew,hf,q⟩:=h;have hu:=fY hr;refine⟨_,jn (mw (bY (rA hu (cM (cM aC)) bZ (bE bO))) (eO rfl (bz (fw 4 scFE.nd) (bz (fw 5 scFE.nd) dD))) (bg (mw (bY (eU Gbo hr (eE (bq k_ (rA hu (cM aC) (bL (dW bx cL)) aD) (oA pO (rA hu (cM aC) dJ aD)))))) (fw 6 scFE.nd) (bg (bh (gj aC sc.c Gti hr (bR eZ (jo dJ aN (bE (dW (BA hu (cM aC) (bL (eY eZ cL bx))) bu)) eo))))))))
  (aZ (bH (fu Gf bZ (cM (cM aC))) (bg (j6)) br)
  (bg (mw (bY (dM (eP rfl) rfl mls bQ (eE (cM aC)))) (fw 4 scFE.nd) (bg (mw (bY (eU Gbo hr (eE (bq k_ (rA hu (cM aC) (bL (dW bx cL)) aD) (oA pO (BA hu (cM aC) bZ)))))) (fw 6 scFE.nd) (bg (bh (gj aC sc.c Gti hr (bR eZ (jo bZ aN (bE (dW (BA hu (cM aC) (bL (eY eZ cL bx))) bu)) eo)))))))))),?_⟩
 refine⟨fun σ H'=>∃(o4 o5 o6:Option V) (T':Tg),σ=[some (.ref b),some (.int (at':Int)),some (.int (y:Int)),some (.int (k:Int)),o4,o5,o6]/\Fr dX T T' H H'/\Ew C D B A b l N T' H' L ts ((L.somes k).foldl (fun S e=>StI.byEnd L at' y "tie" S e.1 e.2) S),?_,?_⟩
 · refine⟨D,_,_,_,ew.ev.sa.ob,sc.c,sc.m0,pA B l,C,_,_,_,ew.ev.la.ob,lc.c,lc.n10,JG A,.inl ⟨_,.inl (id ew.ev.la.f10).2.choose_spec.1⟩,au _,fun g0 hg0=> ?_⟩;obtain⟨kvs,qq,vs,ep,eg,eq,rv,stay⟩:=iS esm_mo ew.ev.la.f10 ew.ev.la.tg hg0 (.inl (k:Int));rw[uN] at rv;have z1:=af hg0 (.lst []);have ew1:=ew.same z1;have f1:Fr dX T T H (upd H g0 (.lst [])):=Fr.of z1;generalize upd H g0 (.lst [])=H1 at ep eq rv stay ew1 f1⊢;refine⟨_,DGet.k (k:= .inl (k:Int)) ep,?_⟩;rw[eg];have lv:=aR rv;refine⟨⟨_,SqL.of eq⟩,cf (xs:=vs) (fun i σ H2=>∃(o4 o5 o6:Option V) (T2:Tg),σ=[some (.ref b),some (.int (at':Int)),some (.int (y:Int)),some (.int (k:Int)),o4,o5,o6]/\Fr dX T T2 H1 H2/\Ew C D B A b l N T2 H2 L ts (((L.somes k).take i).foldl (fun S e=>StI.byEnd L at' y "tie" S e.1 e.2) S)) ⟨none,none,none,T,rfl,Fr.refl,ew1⟩ ?_ ?_ ?_⟩
   · rintro i σ H2 _ ⟨o4,o5,o6,T2,rfl,f2,_⟩;exact SqL.of (stay f2 (by decide))
   · rintro i v σ H2 hv ⟨o4,o5,o6,T2,rfl,f2,ew2⟩;obtain⟨e,he,t0,rfl,ht⟩:=bN rv hv;have hin:=av he;rw[cQ _ _ he];generalize ((L.somes k).take i).foldl (fun S e=>StI.byEnd L at' y "tie" S e.1 e.2) S=S2 at ew2⊢;refine⟨_,SqT.of (f2.tups _ _ ht),rfl,?_⟩;have hk:=ew.wd.so k e hin;refine g2 ?_;refine(kq (a:=cu (bX S2.facts y e.1)) (c:=cu (gR S2.facts e.2)) (n:=L.parts.length) ?_ ?_ (mG fun i hi=>(ew2.wf.rg _ (mem_startsOf.mp hi)).1) (ao (ao ew.ev.la.le ew.ev.hN) (by decide)) fun H4 pl z4 epl tpl=> ?_:kL _ _ _ _ _)
     · exact fun Q k=>lE sc sc.m9 (II B l) ew2.ev.sa.ob ew2.ev.sa.s8 (gv rfl) (gv rfl) (gv rfl) k
     · exact fun H3 Q z3 k=>Ia sc sc.m6 (Ke B l) (ew2.same z3).ev.sa.ob (ew2.same z3).ev.sa.s5 (gv rfl) (gv rfl) (k _ fun _ _ h=>h)
     have ew4:=ew2.same z4;replace tpl:=tpl _ ew2.ev.sa.tg;have f4:=f2.trans (Fr.of (S:=dX) (T:=T2) z4);refine cf (xs:=(cG (qR S2 y e.1 e.2)).map fun(i:Nat)=>V.int (i:Int)) (fun i σ H5=>∃(o6:Option V) (T5:Tg),σ=[some (.ref b),some (.int (at':Int)),some (.int (y:Int)),some (.int (k:Int)),some (.str e.1),some (.int (e.2:Int)),o6]/\Fr dX T2 T5 H4 H5/\Ew C D B A b l N T5 H5 L ts (((cG (qR S2 y e.1 e.2)).take i).foldl (StI.byTie L at' y e.1 e.2 "tie") S2)) ⟨o6,T2,rfl,Fr.refl,ew4⟩ ?_ ?_ ?_
     · rintro i σ H5 _ ⟨o6,T5,rfl,f5,_⟩;exact SqL.of (Fr.free f5 epl tpl).2
     · rintro i v σ H5 hv ⟨o6,T5,rfl,f5,ew5⟩;rw[aV,b_] at hv;obtain⟨x,hx,rfl⟩:=hv;have hm:=xg (av hx);have hm5:=km L at' y e.1 e.2 "tie" ((cG (qR S2 y e.1 e.2)).take i) hm;rw[cQ _ _ hx];generalize ((cG (qR S2 y e.1 e.2)).take i).foldl (StI.byTie L at' y e.1 e.2 "tie") S2=S5 at ew5 hm5⊢;have hxx:=(ew2.wf.rg _ hm).1;refine⟨_,_,ew5.ev.sa.ob,cP B l,cV rfl (cV rfl ?_)⟩;refine u0 sc ew5.ev.sa hm5 (gv rfl) (gv rfl) (gv rfl) (gv rfl) fun H6 z6=>⟨by show 2<=sizeLine;decide,fun pf hpf=> ?_⟩;have z7:=af hpf (.lst [.int (S5.facts.idxOf (Fi.has x e.1 y):Nat),.int (at':Int)]);exact fR (nn:=none) (fr:=[((S5.facts.idxOf (Fi.has x e.1 y):Nat):Int),(at':Int)]) ((ew5.same z6).same z7) hxx hk ae ((ew5.same z6).ev.sa.tg.free hpf) fun H8 T8 f8 ew8=>⟨_,T8,rfl,((f5.trans (Fr.of z6)).trans (Fr.of z7)).trans f8,ew8⟩
     · rintro σ H5 ⟨o6,T5,rfl,f5,ew5⟩;rw[aw,a_] at ew5;exact⟨_,_,_,T5,rfl,f4.trans f5,ew5⟩
   · rintro σ H2 ⟨o4,o5,o6,T2,rfl,f2,ew2⟩;rw[lv,a_] at ew2;exact⟨o4,o5,o6,T2,rfl,f1.trans f2,ew2⟩
 rintro σ H' ⟨o4,o5,o6,T',rfl,fr,ew0⟩;have hf0:Fi.is y k∈((L.somes k).foldl (fun S e=>StI.byEnd L at' y "tie" S e.1 e.2) S).facts:=lF L at' y "tie" (fun e=>e.1) (fun e=>e.2) (L.somes k) hf;unfold StI.fromEnd at q;dsimp only at q;generalize (L.somes k).foldl (fun S e=>StI.byEnd L at' y "tie" S e.1 e.2) S=S0 at ew0 hf0 q;refine⟨D,_,_,_,ew0.ev.sa.ob,sc.c,sc.m0,pA B l,C,_,_,_,ew0.ev.la.ob,lc.c,lc.n14,Dd ew0.ev.ex,?_⟩;by_cases hk1:k=1
 · subst hk1;rw[aK rfl] at q;have nd9:=ew0.ev.sa.s9.2.1;refine⟨D,_,_,_,ew0.ev.sa.ob,sc.c,sc.m10,Jm B l,B.q9,_,dH S0.facts,rfl,nd9,mX _,fun p9 h9=> ?_⟩;have z1:=af h9 (.lst ((dH S0.facts).map V.str));have ew1:=ew0.same z1;have f1:Fr dX T' T' H' (upd H' p9 (.lst ((dH S0.facts).map V.str))):=Fr.of z1;have e9:upd H' p9 (.lst ((dH S0.facts).map V.str)) p9=some (.lst ((dH S0.facts).map V.str)):=ae;have t9:=ew0.ev.sa.tg.free h9;refine⟨⟨_,SqL.of e9⟩,?_⟩;generalize upd H' p9 (.lst ((dH S0.facts).map V.str))=H1 at ew1 f1 e9⊢;have hn:=ew0.ev.p2;refine cf (xs:=(dH S0.facts).map V.str) (fun i σ H2=>∃(o4 o5 o6:Option V) (T2:Tg),σ=[some (.ref b),some (.int (at':Int)),some (.int (y:Int)),some (.int ((1:Nat):Int)),o4,o5,o6]/\Fr dX T' T2 H1 H2/\Ew C D B A b l N T2 H2 L ts (((dH S0.facts).take i).foldl (fun S t=>StI.byEnd L at' y "none" S t 1) S0)) ⟨o4,o5,o6,T',rfl,Fr.refl,ew1⟩ ?_ ?_ ?_
   · rintro i σ H2 _ ⟨o4,o5,o6,T2,rfl,f2,_⟩;exact SqL.of (Fr.free f2 e9 t9).2
   · rintro i v σ H2 hv ⟨o4,o5,o6,T2,rfl,f2,ew2⟩;rw[aV,b_] at hv;obtain⟨t,he,rfl⟩:=hv;have hf2:Fi.is y 1∈(((dH S0.facts).take i).foldl (fun S t=>StI.byEnd L at' y "none" S t 1) S0).facts:=lF L at' y "none" (fun e=>e) (fun _=>1) ((dH S0.facts).take i) hf0;rw[cQ _ _ he];generalize ((dH S0.facts).take i).foldl (fun S t=>StI.byEnd L at' y "none" S t 1) S0=S2 at ew2 hf2⊢;refine gn ?_;refine(kq (a:=cu (bX S2.facts y t)) (c:=cu (gR S2.facts 1)) (n:=L.parts.length) ?_ ?_ (mG fun i hi=>(ew2.wf.rg _ (mem_startsOf.mp hi)).1) (ao (ao ew.ev.la.le ew.ev.hN) (by decide)) fun H4 pl z4 epl tpl=> ?_:kL _ _ _ _ _)
     · exact fun Q k=>lE sc sc.m9 (II B l) ew2.ev.sa.ob ew2.ev.sa.s8 (gv rfl) (gv rfl) (gv rfl) k
     · exact fun H3 Q z3 k=>Gz (x:=1) sc sc.m6 (Ke B l) (ew2.same z3).ev.sa.ob (ew2.same z3).ev.sa.s5 (gv rfl) (gv rfl) (fun z=>by have:=mem_xsOf.mpr hf2;rw[z] at this;exact ai this) (k _ fun _ _ h=>h)
     have ew4:=ew2.same z4;replace tpl:=tpl _ ew2.ev.sa.tg;have f4:=f2.trans (Fr.of (S:=dX) (T:=T2) z4);refine cf (xs:=(cG (qR S2 y t 1)).map fun(i:Nat)=>V.int (i:Int)) (fun i σ H5=>∃(o6:Option V) (T5:Tg),σ=[some (.ref b),some (.int (at':Int)),some (.int (y:Int)),some (.int ((1:Nat):Int)),some (.str t),o5,o6]/\Fr dX T2 T5 H4 H5/\Ew C D B A b l N T5 H5 L ts (((cG (qR S2 y t 1)).take i).foldl (StI.byTie L at' y t 1 "none") S2)) ⟨o6,T2,rfl,Fr.refl,ew4⟩ ?_ ?_ ?_
     · rintro i σ H5 _ ⟨o6,T5,rfl,f5,_⟩;exact SqL.of (Fr.free f5 epl tpl).2
     · rintro i v σ H5 hv ⟨o6,T5,rfl,f5,ew5⟩;rw[aV,b_] at hv;obtain⟨x,hx,rfl⟩:=hv;have hm:=xg (av hx);have hm5:=km L at' y t 1 "none" ((cG (qR S2 y t 1)).take i) hm;rw[cQ _ _ hx];generalize ((cG (qR S2 y t 1)).take i).foldl (StI.byTie L at' y t 1 "none") S2=S5 at ew5 hm5⊢;have hxx:=(ew2.wf.rg _ hm).1;refine⟨_,_,ew5.ev.sa.ob,cP B l,cV rfl (cV rfl ?_)⟩;refine u0 sc ew5.ev.sa hm5 (gv rfl) (gv rfl) (gv rfl) (gv rfl) fun H6 z6=>⟨by show 2<=sizeLine;decide,fun pf hpf=> ?_⟩;have z7:=af hpf (.lst [.int (S5.facts.idxOf (Fi.has x t y):Nat),.int (at':Int)]);exact fR (nn:=none) (fr:=[((S5.facts.idxOf (Fi.has x t y):Nat):Int),(at':Int)]) ((ew5.same z6).same z7) hxx hn ae ((ew5.same z6).ev.sa.tg.free hpf) fun H8 T8 f8 ew8=>⟨_,T8,rfl,((f5.trans (Fr.of z6)).trans (Fr.of z7)).trans f8,ew8⟩
     · rintro σ H5 ⟨o6,T5,rfl,f5,ew5⟩;rw[aw,a_] at ew5;exact⟨_,_,_,T5,rfl,f4.trans f5,ew5⟩
   · rintro σ H2 ⟨o4,o5,o6,T2,rfl,f2,ew2⟩;rw[aw,a_] at ew2;exact q H2 T2 ((fr.trans f1).trans f2) ew2
 · rw[aG hk1] at q;exact oN rfl (ag fun z=>hk1 (by injection z with z;lia)) (q H' T' fr ew0)
end
def uI(L:LoI)(S:StI)(x:Nat){f:Fi}(h:f∈S.facts):f∈(StI.letStand L S x).facts:=by
 unfold StI.letStand
 split
 · exact h
 · refine(cO L _ x 0 "all" [] none).1 f ?_
   split
   · exact h
   · exact(cO L _ x x "self" [] none).1 f h
def hU(L:LoI)(S:StI)(x:Nat)(t:Str)(y:Nat)(r:Str)(fr:List Int)(nn:Option Int){f:Fi}(h:f∈S.facts):f∈(StI.tellHas L S x t y r fr nn).facts:=by
 unfold StI.tellHas
 split
 · exact h
 · exact uI L _ y (aS _ h)
theorem fZ{α:Type}{g:StI->α->StI}(hg:∀S a f,f∈S.facts->f∈(g S a).facts){f:Fi}:∀(l:List α) {S:StI},f∈S.facts->f∈(l.foldl g S).facts
 | [],_,h=>h
 | a::l,S,h=>fZ hg l (hg S a f h)
noncomputable def StI.byWi(L:LoI)(at' x y:Nat)(S:StI)(e:Str × Int):StI:=StI.tellHas L S x e.1 y "within" [(at':Int)] (some e.2)
noncomputable def StI.byWh(L:LoI)(at' x:Nat)(t:Str)(y:Nat)(S:StI)(k:Nat):StI:=StI.tellIs L S x ((L.wholes t k).getD 0) "tie" [(at':Int),((S.facts.idxOf (Fi.is y k):Nat):Int)] none
noncomputable def rF(L:LoI)(S:StI)(x:Nat)(t:Str)(y:Nat):Nat:=cu (gX S.facts y)&&&anot ((L.fillers t).getD 0) (cu (eG L.shapes S.facts x t))
noncomputable def StI.fromTie(L:LoI)(S:StI)(at' x:Nat)(t:Str)(y:Nat):StI:=
 let S1:=(L.withins t).foldl (StI.byWi L at' x y) S
 let S2:=(cG (rF L S1 x t y)).foldl (StI.byWh L at' x t y) S1
 if Fi.is y 1∈S2.facts then StI.tellIs L S2 x 1 "none" [(at':Int),((S2.facts.idxOf (Fi.is y 1):Nat):Int)] none else S2
def DN(L:LoI)(at' x y:Nat)(S:StI)(e:Str × Int)(f:Fi)(h:f∈S.facts):f∈(StI.byWi L at' x y S e).facts:=hU L S x e.1 y "within" _ _ h
def DO(L:LoI)(at' x:Nat)(t:Str)(y:Nat)(S:StI)(k:Nat)(f:Fi)(h:f∈S.facts):f∈(StI.byWh L at' x t y S k).facts:=(cO L S x _ "tie" _ none).1 f h
def yD(f:Str->List α)(t:Str):kS f (.inr t)=f t:=rfl
def BM(h:k∈cG (rF L S x t y)):Fi.is y k∈S.facts/\∃m,L.fillers t=some m/\m.testBit k=true:=by
 rw[j9,rF,fh,mR,jQ,ba,ba,dy] at h;refine⟨mem_ksOf.mp h.1,?_⟩;cases e:L.fillers t with
 | none=>rw[e] at h;simp at h
 | some m=>rw[e] at h;exact⟨m,rfl,h.2.1⟩
section
def lV(h:σ[i]? =some (some v))(q:ta σ H fun xs H1=>(v::xs).length<=sizeLine/\∀p,H1 p=none->tr σ (upd H1 p (.lst (v::xs))) fun ys H2=>Q (w:: .ref p::ys) H2):df (tC w) (df (GQ (df (ng i) ta)) tr) σ H Q:=onV.of h q
def JT{Q:VK}(k:Q (.int (anot a c:Nat)) H):rU (fun i=>V.int (Builtin.bitNot i)) (.int (c:Int)) H fun y H2=>zD (fun i j=>V.int (Builtin.bitAnd i j)) (.int (a:Int)) y H2 Q:=by
 show Q (.int (Builtin.bitAnd (a:Int) (Builtin.bitNot (c:Int)))) H;rw[Ak];exact k
def Me(h:ta σ H fun x H1=>r x H1 Q):Kz r ta σ H Q:=h
def DQ{a c:Nat}(h1:∀Q:VK,(∀H1,Same H H1->Q (.int (a:Int)) H1)->ta σ H Q)(h2:∀(H1:Hp) (Q:VK),Same H H1->(∀H2,Same H1 H2->Q (.int (c:Int)) H2)->tb σ H1 Q)(lt:a<2^n)(le:n<=100000)(k:∀H2 pl,Same H H2->H2 pl=some (.lst ((cG (a&&&c)).map fun(i:Nat)=>V.int (i:Int)))->(∀T,TgOk T H->T pl=none)->R (IB K pl) H2):kL K (pT nj [] E0 (df (BP (zD fun i j=>V.int (Builtin.bitAnd i j)) ta tb) iE)) σ H R:=by
 refine h1 _ fun H1 s1=>h2 _ _ s1 fun H2 s2=> ?_;show mm [.int (Builtin.bitAnd (a:Int) (c:Int))] H2 _;rw[DW];refine⟨_,n,rfl,bA (DX a c) lt,le,fun pl hpl=> ?_⟩;have z:=af hpl (.lst ((cG (a&&&c)).map fun(i:Nat)=>V.int (i:Int)));exact⟨⟨_,SqL.of ae⟩,k _ pl (fun x o h=>z x o (s2 x o (s1 x o h))) ae fun T tg=>((tg.same s1).same s2).free hpl⟩
end
inductive oh(C D:Addr)(vs:List V)(H:Hp)(Q:VK):Prop
 | mk:∀(b l:Addr) (B:xt) (A:LoA) (N:Nat) (T:Tg) (L:LoI) (ts:List Str) (S:StI) (at' x:Nat) (t:Str) (y:Nat),(vs=[.ref b,.int (at':Int),.int (x:Int),.str t,.int (y:Int)])->(Ew C D B A b l N T H L ts S)->(Fi.has x t y∈S.facts)->(∀H' T',Fr dX T T' H H'->Ew C D B A b l N T' H' L ts (StI.fromTie L S at' x t y)->Q .non H')->oh C D vs H Q
def sJ(C D:Addr):Sp:=fun vs H Q _=>oh C D vs H Q
section
def scFTi:bb ["self","at","x","tie","y","wider","number","wanted","kind"] ou (aJ ny):=fS
def yn(F:Fun K "from_tie" "Still.from_tie" ny f fd)(lc:vh K C)(sc:tm K D)(Gti:Ml P w K mg base D 2 "tell_is" mq (fU C D))(Gth:Ml P w K mg base D 6 "tell_has" qr (iH C D))(Gbo:Cl P w K mg base 1 "bits_of" ["mask"] nj):bK P w K mg base eJ 7 f fd ou (sJ C D):=by
 refine F.o scFTi fun cdv A0 outer s0 H vs Q E hr h=> ?_;obtain⟨b,l,B,A,N,T,L,ts,S,at',x,t,y,rfl,ew,hf,q⟩:=h;have hu:=fY hr;have rg:=ew.wf.rg _ hf;have hnN:L.parts.length<=100000:=ao (ao ew.ev.la.le ew.ev.hN) (by decide);refine⟨_,jn (mw (bY (rA hu (cM (cM aC)) bZ (bE bO))) (eO rfl (bz (fw 5 scFTi.nd) (bz (fw 6 scFTi.nd) dD))) (bg (bh (gj aC sc.c Gth hr (bR bx (bR dJ (jo cL aN (bE (eE bu)) eZ)))))))
  (aZ (eV 7 scFTi.nd (bq k_ (rA hu (cM (cM aC)) bZ aD) (oA pO (rA hu (cM aC) (bL (dW bx bZ)) aD))))
  (jn (mw (bY (eU Gbo hr (eE (bq k_ (BA hu (cM aC) cL) iX)))) (fw 8 scFTi.nd) (bg (bh (gj aC sc.c Gti hr (bR bx (jo (BA hu (cM (cM aC)) (bL (dW bZ ku))) aN (bE (dW bu (BA hu (cM aC) (bL (dW cL ku))))) eo))))))
  (bg (bH (fu (qC hu) (bL (dW cL (cM (cM aC)))) (cM aC)) (bg (bh (gj aC sc.c Gti hr (bR bx (jo (cM (cM aC)) aN (bE (dW bu (BA hu (cM aC) (bL (dW cL (cM (cM aC))))))) eo))))) br)))),?_⟩
 refine⟨fun σ H'=>∃(o5 o6 o7 o8:Option V) (T':Tg),σ=[some (.ref b),some (.int (at':Int)),some (.int (x:Int)),some (.str t),some (.int (y:Int)),o5,o6,o7,o8]/\Fr dX T T' H H'/\Ew C D B A b l N T' H' L ts ((L.withins t).foldl (StI.byWi L at' x y) S),?_,?_⟩
 · refine⟨D,_,_,_,ew.ev.sa.ob,sc.c,sc.m0,pA B l,C,_,_,_,ew.ev.la.ob,lc.c,lc.n6,LQ A,.inl ⟨_,.inl (id ew.ev.la.f6).2.choose_spec.1⟩,au _,fun g0 hg0=> ?_⟩;obtain⟨kvs,qq,vs,ep,eg,eq,rv,stay⟩:=iS es2_mo ew.ev.la.f6 ew.ev.la.tg hg0 (.inr t);rw[yD] at rv;have z1:=af hg0 (.lst []);have ew1:=ew.same z1;have f1:Fr dX T T H (upd H g0 (.lst [])):=Fr.of z1;generalize upd H g0 (.lst [])=H1 at ep eq rv stay ew1 f1⊢;refine⟨_,DGet.k (k:= .inr t) ep,?_⟩;rw[eg];have lv:=aR rv;refine⟨⟨_,SqL.of eq⟩,cf (xs:=vs) (fun i σ H2=>∃(o5 o6 o7 o8:Option V) (T2:Tg),σ=[some (.ref b),some (.int (at':Int)),some (.int (x:Int)),some (.str t),some (.int (y:Int)),o5,o6,o7,o8]/\Fr dX T T2 H1 H2/\Ew C D B A b l N T2 H2 L ts (((L.withins t).take i).foldl (StI.byWi L at' x y) S)) ⟨none,none,none,none,T,rfl,Fr.refl,ew1⟩ ?_ ?_ ?_⟩
   · rintro i σ H2 _ ⟨o5,o6,o7,o8,T2,rfl,f2,_⟩;exact SqL.of (stay f2 (by decide))
   · rintro i v σ H2 hv ⟨o5,o6,o7,o8,T2,rfl,f2,ew2⟩;obtain⟨e,he,t0,rfl,ht⟩:=bN rv hv;have hin:=av he;rw[cQ _ _ he];generalize ((L.withins t).take i).foldl (StI.byWi L at' x y) S=S2 at ew2⊢;refine⟨_,SqT.of (f2.tups _ _ ht),rfl,?_⟩;refine⟨_,_,ew2.ev.sa.ob,fV B l,by show 1<=sizeLine;decide,fun pf hpf=> ?_⟩;have z3:=af hpf (.lst [.int (at':Int)]);exact jA (nn:=some e.2) (fr:=[(at':Int)]) (ew2.same z3) rg.1 (ew.wd.wi t e hin) rg.2.2 ae (ew2.ev.sa.tg.free hpf) fun H4 T4 f4 ew4=>⟨_,_,_,_,T4,rfl,(f2.trans (Fr.of z3)).trans f4,ew4⟩
   · rintro σ H2 ⟨o5,o6,o7,o8,T2,rfl,f2,ew2⟩;rw[lv,a_] at ew2;exact⟨o5,o6,o7,o8,T2,rfl,f1.trans f2,ew2⟩
 rintro σ H' ⟨o5,o6,o7,o8,T',rfl,fr,ew0⟩;have hf0:Fi.has x t y∈((L.withins t).foldl (StI.byWi L at' x y) S).facts:=fZ (DN L at' x y) (L.withins t) hf;unfold StI.fromTie at q;dsimp only at q;generalize (L.withins t).foldl (StI.byWi L at' x y) S=S0 at ew0 hf0 q;obtain⟨_,kvf,ef,rf,_⟩:=id ew0.ev.la.f11;have vf:(cZ kvf (.inr t)).getD (.int 0)= .int (((L.fillers t).getD 0:Nat):Int):=by
  rw[rf];show((L.fillers t).map fun(m:Nat)=>V.int (m:Int)).getD _=_;cases L.fillers t<;>rfl
 refine⟨D,_,_,_,ew0.ev.sa.ob,sc.c,sc.m0,pA B l,C,_,_,_,ew0.ev.la.ob,lc.c,lc.n11,HJ A,.inl ⟨_,.inl ef⟩,_,DGet.k (k:= .inr t) ef,?_⟩;rw[vf];refine Me (lE (x:=x) (t:=t) sc sc.m7 (KM B l) ew0.ev.sa.ob ew0.ev.sa.s6 (gv rfl) (gv rfl) (gv rfl) fun H1 z1=> ?_);refine JT (gn ?_);have ew1:=ew0.same z1;have f1:=fr.trans (Fr.of (S:=dX) (T:=T') z1);have wk:gX S0.facts y≠[]:=fun z=>by
  have:=mem_ksOf.mpr (ew0.wf.st0 y (ew0.wf.hs _ _ _ hf0));rw[z] at this;exact ai this
 refine⟨fun σ H'=>∃(o8:Option V) (T2:Tg),σ=[some (.ref b),some (.int (at':Int)),some (.int (x:Int)),some (.str t),some (.int (y:Int)),o5,o6,some (.int (anot ((L.fillers t).getD 0) (cu (eG L.shapes S0.facts x t)):Nat)),o8]/\Fr dX T T2 H H'/\Ew C D B A b l N T2 H' L ts ((cG (rF L S0 x t y)).foldl (StI.byWh L at' x t y) S0),?_,?_⟩
 · refine(DQ (a:=cu (gX S0.facts y)) (c:=anot ((L.fillers t).getD 0) (cu (eG L.shapes S0.facts x t))) (n:=L.parts.length) ?_ ?_ (mG fun i hi=>(ew0.wf.rg _ (mem_ksOf.mp hi)).2) hnN fun H4 pl z4 epl tpl=> ?_:kL _ _ _ _ _)
   · exact fun Q k=>Gz sc sc.m5 (KN B l) ew1.ev.sa.ob ew1.ev.sa.s4 (gv rfl) (gv rfl) wk (k _ fun _ _ h=>h)
   · exact fun H3 Q z3 k=>(k _ fun _ _ h=>h)
   have ew4:=ew1.same z4;replace tpl:=tpl _ ew1.ev.sa.tg;have f4:=f1.trans (Fr.of (S:=dX) (T:=T') z4);refine cf (xs:=(cG (rF L S0 x t y)).map fun(i:Nat)=>V.int (i:Int)) (fun i σ H5=>∃(o8:Option V) (T5:Tg),σ=[some (.ref b),some (.int (at':Int)),some (.int (x:Int)),some (.str t),some (.int (y:Int)),o5,o6,some (.int (anot ((L.fillers t).getD 0) (cu (eG L.shapes S0.facts x t)):Nat)),o8]/\Fr dX T' T5 H4 H5/\Ew C D B A b l N T5 H5 L ts (((cG (rF L S0 x t y)).take i).foldl (StI.byWh L at' x t y) S0)) ⟨o8,T',rfl,Fr.refl,ew4⟩ ?_ ?_ ?_
   · rintro i σ H5 _ ⟨o8,T5,rfl,f5,_⟩;exact SqL.of (Fr.free f5 epl tpl).2
   · rintro i v σ H5 hv ⟨o8,T5,rfl,f5,ew5⟩;rw[aV,b_] at hv;obtain⟨k,hk,rfl⟩:=hv;obtain⟨hm,m,hm1,hm2⟩:=BM (av hk);obtain⟨wh,hw1,hw2,hw3⟩:=ew.wd.fi t m k hm1 hm2;have hm5:=fZ (DO L at' x t y) ((cG (rF L S0 x t y)).take i) hm;rw[cQ _ _ hk];generalize ((cG (rF L S0 x t y)).take i).foldl (StI.byWh L at' x t y) S0=S5 at ew5 hm5⊢;obtain⟨_,kw,e12,r12,_⟩:=id ew5.ev.la.f12;have v12:cZ kw [.inr t,.inl (k:Int)]=some (.int (wh:Int)):=by
      rw[r12];show(if 0<=(k:Int) then(L.wholes t (k:Int).toNat).map fun(m:Nat)=>V.int (m:Int) else none)=_;rw[aK (by lia),bW,hw1];rfl
     refine⟨_,_,ew5.ev.sa.ob,cP B l,D,_,_,_,ew5.ev.sa.ob,sc.c,sc.m0,pA B l,C,_,_,_,ew5.ev.la.ob,lc.c,lc.n12,JF A,by show 2<=sizeLine;decide,fun u6 hu6=> ?_⟩;have z6:=af hu6 (.tup [.str t,.int (k:Int)]);have ew6:=ew5.same z6;have h6:upd H5 u6 (.tup [.str t,.int (k:Int)]) u6=some (.tup [.str t,.int (k:Int)]):=ae;have e6:=z6 _ _ e12;have f6:=f5.trans (Fr.of (S:=dX) (T:=T5) z6);generalize upd H5 u6 (.tup [.str t,.int (k:Int)])=H6 at ew6 h6 e6 f6⊢;refine⟨_,.inr ⟨kw,[.inr t,.inl (k:Int)],u6,.inl e6,rfl,h6,v12.symm⟩,?_⟩;refine lV rfl ?_;refine GA sc ew6.ev.sa hm5 (gv rfl) (gv rfl) (gv rfl _) fun H7 z7=>⟨by show 2<=sizeLine;decide,fun pf hpf=> ?_⟩;have z8:=af hpf (.lst [.int (at':Int),.int (S5.facts.idxOf (Fi.is y k):Nat)]);refine fR (k:=wh) (nn:=none) (fr:=[(at':Int),((S5.facts.idxOf (Fi.is y k):Nat):Int)]) ((ew6.same z7).same z8) rg.1 hw2 ae ((ew6.same z7).ev.sa.tg.free hpf) fun H8 T8 f8 ew8=>⟨_,T8,rfl,((f6.trans (Fr.of z7)).trans (Fr.of z8)).trans f8,?_⟩;unfold StI.byWh;rw[hw1];exact ew8
   · rintro σ H5 ⟨o8,T5,rfl,f5,ew5⟩;rw[aw,a_] at ew5;exact⟨_,T5,rfl,f4.trans f5,ew5⟩
 rintro σ H2 ⟨o8,T2,rfl,f2,ew2⟩;generalize (cG (rF L S0 x t y)).foldl (StI.byWh L at' x t y) S0=S2 at ew2 q;refine⟨D,_,_,_,ew2.ev.sa.ob,sc.c,sc.m0,pA B l,C,_,_,_,ew2.ev.la.ob,lc.c,lc.n14,Dd ew2.ev.ex,by show 2<=sizeLine;decide,fun u hu'=> ?_⟩;have z3:=af hu' (.tup [.int (y:Int),.int ((1:Nat):Int)]);have ew3:=ew2.same z3;have h3:upd H2 u (.tup [.int (y:Int),.int ((1:Nat):Int)]) u=some (.tup [.int (y:Int),.int ((1:Nat):Int)]):=ae;have f3:=f2.trans (Fr.of (S:=dX) (T:=T2) z3);generalize upd H2 u (.tup [.int (y:Int),.int ((1:Nat):Int)])=H3 at ew3 h3 f3⊢;obtain⟨kp,e4,r4⟩:=jL ew3.ev.sa (.is y 1);refine⟨D,_,_,_,ew3.ev.sa.ob,sc.c,sc.m3,B5 B l,B.q2,_,rfl,DGet.t (k:=(Fi.is y 1).key) e4 h3,?_⟩;rw[r4];by_cases hn:Fi.is y 1∈S2.facts
 · rw[aK hn];rw[aK hn] at q;refine⟨_,_,ew3.ev.sa.ob,cP B l,D,_,_,_,ew3.ev.sa.ob,sc.c,sc.m0,pA B l,C,_,_,_,ew3.ev.la.ob,lc.c,lc.n14,Dd ew3.ev.ex,?_⟩;refine lV rfl ?_;refine GA (y:=1) sc ew3.ev.sa hn (gv rfl) (gv rfl) (fun _ h=>⟨D,_,_,_,ew3.ev.sa.ob,sc.c,sc.m0,pA B l,C,_,_,_,ew3.ev.la.ob,lc.c,lc.n14,Dd ew3.ev.ex,h⟩) fun H7 z7=>⟨by show 2<=sizeLine;decide,fun pf hpf=> ?_⟩;have z8:=af hpf (.lst [.int (at':Int),.int (S2.facts.idxOf (Fi.is y 1):Nat)]);exact fR (k:=1) (nn:=none) (fr:=[(at':Int),((S2.facts.idxOf (Fi.is y 1):Nat):Int)]) ((ew3.same z7).same z8) rg.1 ew.ev.p2 ae ((ew3.same z7).ev.sa.tg.free hpf) fun H8 T8 f8 ew8=>q H8 T8 (((f3.trans (Fr.of z7)).trans (Fr.of z8)).trans f8) ew8
 · rw[aG hn];rw[aG hn] at q;exact(q H3 T2 f3 ew3)
end
noncomputable def yy(S:StI)(x y:Nat)(e:Str × Str × Int):Nat:=anot (cu (dE S.facts y e.1)) (cu (dE S.facts x e.2.1))
noncomputable def yx(S:StI)(x y:Nat)(e:Str × Str × Int):Nat:=anot (cu (bX S.facts x e.1)) (cu (bX S.facts y e.2.1))
noncomputable def StI.mk1a(L:LoI)(at' x y:Nat)(e:Str × Str × Int)(S:StI)(z:Nat):StI:=StI.tellHas L S x e.2.1 z "makes" [(at':Int),((S.facts.idxOf (Fi.has y e.1 z):Nat):Int)] (some e.2.2)
noncomputable def StI.mk2a(L:LoI)(at' x y:Nat)(e:Str × Str × Int)(S:StI)(z:Nat):StI:=StI.tellHas L S z e.2.1 y "makes" [((S.facts.idxOf (Fi.has z e.1 x):Nat):Int),(at':Int)] (some e.2.2)
noncomputable def StI.byMk1(L:LoI)(at' x y:Nat)(S:StI)(e:Str × Str × Int):StI:=(cG (yy S x y e)).foldl (StI.mk1a L at' x y e) S
noncomputable def StI.byMk2(L:LoI)(at' x y:Nat)(S:StI)(e:Str × Str × Int):StI:=(cG (yx S x y e)).foldl (StI.mk2a L at' x y e) S
noncomputable def StI.fromChains(L:LoI)(S:StI)(at' x:Nat)(t:Str)(y:Nat):StI:=(L.mk2 t).foldl (StI.byMk2 L at' x y) ((L.mk1 t).foldl (StI.byMk1 L at' x y) S)
def C6(L:LoI)(at' x y:Nat)(e:Str × Str × Int)(S:StI)(z:Nat)(f:Fi)(h:f∈S.facts):f∈(StI.mk1a L at' x y e S z).facts:=hU L S _ _ _ _ _ _ h
def C4(L:LoI)(at' x y:Nat)(e:Str × Str × Int)(S:StI)(z:Nat)(f:Fi)(h:f∈S.facts):f∈(StI.mk2a L at' x y e S z).facts:=hU L S _ _ _ _ _ _ h
def C7(h:z∈cG (yy S x y e)):Fi.has y e.1 z∈S.facts:=by
 rw[j9,yy,mR,jQ,ba,dy] at h;exact mem_endsOf.mp h.1
def C5(h:z∈cG (yx S x y e)):Fi.has z e.1 x∈S.facts:=by
 rw[j9,yx,mR,jQ,ba,dy] at h;exact mem_startsOf.mp h.1
inductive jE(C D:Addr)(vs:List V)(H:Hp)(Q:VK):Prop
 | mk:∀(b l:Addr) (B:xt) (A:LoA) (N:Nat) (T:Tg) (L:LoI) (ts:List Str) (S:StI) (at' x:Nat) (t:Str) (y:Nat),(vs=[.ref b,.int (at':Int),.int (x:Int),.str t,.int (y:Int)])->(Ew C D B A b l N T H L ts S)->(x<L.parts.length)->(y<L.parts.length)->(∀H' T',Fr dX T T' H H'->Ew C D B A b l N T' H' L ts (StI.fromChains L S at' x t y)->Q .non H')->jE C D vs H Q
def mh(C D:Addr):Sp:=fun vs H Q _=>jE C D vs H Q
section
def scFC:bb ["self","at","x","tie","y","onward","made","number","z","before","w"] ou (aJ iV):=fS
def rL(F:Fun K "from_chains" "Still.from_chains" iV f fd)(lc:vh K C)(sc:tm K D)(Gth:Ml P w K mg base D 6 "tell_has" qr (iH C D))(Gbo:Cl P w K mg base 1 "bits_of" ["mask"] nj):bK P w K mg base eJ 7 f fd ou (mh C D):=by
 refine F.o scFC fun cdv A0 outer s0 H vs Q E hr h=> ?_;obtain⟨b,l,B,A,N,T,L,ts,S,at',x,t,y,rfl,ew,hx,hy,q⟩:=h;have hu:=fY hr;have hnN:L.parts.length<=100000:=ao (ao ew.ev.la.le ew.ev.hN) (by decide);refine⟨_,jn (mw (bY (rA hu (cM (cM aC)) bZ (bE bO))) (eO rfl (bz (fw 5 scFC.nd) (bz (fw 6 scFC.nd) (bz (fw 7 scFC.nd) dD)))) (bg (mw (bY (eU Gbo hr (eE (bq k_ (rA hu (cM aC) (bL (dW cL dJ)) aD) (oA pO (rA hu (cM aC) (bL (dW bx eZ)) aD)))))) (fw 8 scFC.nd) (bg (bh (gj aC sc.c Gth hr (bR bx (bR eZ (jo ku aN (bE (dW bu (BA hu (cM aC) (bL (eY cL dJ ku))))) iX)))))))))
  (bg (mw (bY (rA hu (cM (cM aC)) bZ (bE bO))) (eO rfl (bz (fw 9 scFC.nd) (bz (fw 6 scFC.nd) (bz (fw 7 scFC.nd) dD)))) (bg (mw (bY (eU Gbo hr (eE (bq k_ (rA hu (cM aC) (bL (dW bx (pv 9))) aD) (oA pO (rA hu (cM aC) (bL (dW cL eZ)) aD)))))) (fw 10 scFC.nd) (bg (bh (gj aC sc.c Gth hr (bR jJ (bR eZ (jo cL aN (bE (dW (BA hu (cM aC) (bL (eY jJ (pv 9) bx))) bu)) iX)))))))))),?_⟩
 refine⟨fun σ H'=>∃(o5 o6 o7 o8 o9 o10:Option V) (T':Tg),σ=[some (.ref b),some (.int (at':Int)),some (.int (x:Int)),some (.str t),some (.int (y:Int)),o5,o6,o7,o8,o9,o10]/\Fr dX T T' H H'/\Ew C D B A b l N T' H' L ts ((L.mk1 t).foldl (StI.byMk1 L at' x y) S),?_,?_⟩
 · have _:=hx;refine⟨D,_,_,_,ew.ev.sa.ob,sc.c,sc.m0,pA B l,C,_,_,_,ew.ev.la.ob,lc.c,lc.n7,LP A,.inl ⟨_,.inl (id ew.ev.la.f7).2.choose_spec.1⟩,au _,fun g0 hg0=> ?_⟩;obtain⟨kvs,qq,vs,ep,eg,eq,rv,stay⟩:=iS es3_mo ew.ev.la.f7 ew.ev.la.tg hg0 (.inr t);rw[yD] at rv;have z1:=af hg0 (.lst []);have ew1:=ew.same z1;have f1:Fr dX T T H (upd H g0 (.lst [])):=Fr.of z1;generalize upd H g0 (.lst [])=H1 at ep eq rv stay ew1 f1⊢;refine⟨_,DGet.k (k:= .inr t) ep,?_⟩;rw[eg];have lv:=aR rv;refine⟨⟨_,SqL.of eq⟩,cf (xs:=vs) (fun i σ H2=>∃(o5 o6 o7 o8 o9 o10:Option V) (T2:Tg),σ=[some (.ref b),some (.int (at':Int)),some (.int (x:Int)),some (.str t),some (.int (y:Int)),o5,o6,o7,o8,o9,o10]/\Fr dX T T2 H1 H2/\Ew C D B A b l N T2 H2 L ts (((L.mk1 t).take i).foldl (StI.byMk1 L at' x y) S)) ⟨none,none,none,none,none,none,T,rfl,Fr.refl,ew1⟩ ?_ ?_ ?_⟩
   · rintro i σ H2 _ ⟨o5,o6,o7,o8,o9,o10,T2,rfl,f2,_⟩;exact SqL.of (stay f2 (by decide))
   · rintro i v σ H2 hv ⟨o5,o6,o7,o8,o9,o10,T2,rfl,f2,ew2⟩;obtain⟨e,he,t0,rfl,ht⟩:=bN rv hv;have hin:=av he;rw[cQ _ _ he];generalize ((L.mk1 t).take i).foldl (StI.byMk1 L at' x y) S=S2 at ew2⊢;refine⟨_,SqT.of (f2.tups _ _ ht),rfl,?_⟩;refine g3 ?_;refine(kq (a:=cu (dE S2.facts y e.1)) (c:=cu (dE S2.facts x e.2.1)) (n:=L.parts.length) ?_ ?_ (mG fun i hi=>(ew2.wf.rg _ (mem_endsOf.mp hi)).2.2) hnN fun H4 pl z4 epl tpl=> ?_:kL _ _ _ _ _)
     · exact fun Q k=>lE sc sc.m8 (Kc B l) ew2.ev.sa.ob ew2.ev.sa.s7 (gv rfl) (gv rfl) (gv rfl) k
     · exact fun H3 Q z3 k=>lE sc sc.m8 (Kc B l) (ew2.same z3).ev.sa.ob (ew2.same z3).ev.sa.s7 (gv rfl) (gv rfl) (gv rfl) k
     have ew4:=ew2.same z4;replace tpl:=tpl _ ew2.ev.sa.tg;have f4:=f2.trans (Fr.of (S:=dX) (T:=T2) z4);refine cf (xs:=(cG (yy S2 x y e)).map fun(i:Nat)=>V.int (i:Int)) (fun i σ H5=>∃(oo:Option V) (T5:Tg),σ=[some (.ref b),some (.int (at':Int)),some (.int (x:Int)),some (.str t),some (.int (y:Int)),some (.str e.1),some (.str e.2.1),some (.int e.2.2),oo,o9,o10]/\Fr dX T2 T5 H4 H5/\Ew C D B A b l N T5 H5 L ts (((cG (yy S2 x y e)).take i).foldl (StI.mk1a L at' x y e) S2)) ⟨o8,T2,rfl,Fr.refl,ew4⟩ ?_ ?_ ?_
     · rintro i σ H5 _ ⟨oo,T5,rfl,f5,_⟩;exact SqL.of (Fr.free f5 epl tpl).2
     · rintro i v σ H5 hv ⟨oo,T5,rfl,f5,ew5⟩;rw[aV,b_] at hv;obtain⟨z,hz,rfl⟩:=hv;have hm:=C7 (av hz);have hm5:=fZ (C6 L at' x y e) ((cG (yy S2 x y e)).take i) hm;rw[cQ _ _ hz];generalize ((cG (yy S2 x y e)).take i).foldl (StI.mk1a L at' x y e) S2=S5 at ew5 hm5⊢;refine⟨_,_,ew5.ev.sa.ob,fV B l,cV rfl (cV rfl (cV rfl (lV rfl ?_)))⟩;refine u0 sc ew5.ev.sa hm5 (gv rfl) (gv rfl) (gv rfl) (gv rfl) fun H6 z6=>⟨by show 2<=sizeLine;decide,fun pf hpf=> ?_⟩;have z7:=af hpf (.lst [.int (at':Int),.int (S5.facts.idxOf (Fi.has y e.1 z):Nat)]);exact jA (nn:=some e.2.2) (fr:=[(at':Int),((S5.facts.idxOf (Fi.has y e.1 z):Nat):Int)]) ((ew5.same z6).same z7) hx (ew.wd.m1 t e hin) (ew2.wf.rg _ hm).2.2 ae ((ew5.same z6).ev.sa.tg.free hpf) fun H8 T8 f8 ew8=>⟨_,T8,rfl,((f5.trans (Fr.of z6)).trans (Fr.of z7)).trans f8,ew8⟩
     · rintro σ H5 ⟨oo,T5,rfl,f5,ew5⟩;rw[aw,a_] at ew5;exact⟨_,_,_,_,_,_,T5,rfl,f4.trans f5,ew5⟩
   · rintro σ H2 ⟨o5,o6,o7,o8,o9,o10,T2,rfl,f2,ew2⟩;rw[lv,a_] at ew2;exact⟨o5,o6,o7,o8,o9,o10,T2,rfl,f1.trans f2,ew2⟩
 rintro σ H' ⟨o5,o6,o7,o8,o9,o10,T',rfl,fr,ew0⟩;unfold StI.fromChains at q;generalize (L.mk1 t).foldl (StI.byMk1 L at' x y) S=S0 at ew0 q;refine⟨D,_,_,_,ew0.ev.sa.ob,sc.c,sc.m0,pA B l,C,_,_,_,ew0.ev.la.ob,lc.c,lc.n8,LO A,.inl ⟨_,.inl (id ew0.ev.la.f8).2.choose_spec.1⟩,au _,fun g0 hg0=> ?_⟩;obtain⟨kvs,qq,vs,ep,eg,eq,rv,stay⟩:=iS es3_mo ew0.ev.la.f8 ew0.ev.la.tg hg0 (.inr t);rw[yD] at rv;have z1:=af hg0 (.lst []);have ew1:=ew0.same z1;have f1:Fr dX T' T' H' (upd H' g0 (.lst [])):=Fr.of z1;generalize upd H' g0 (.lst [])=H1 at ep eq rv stay ew1 f1⊢;refine⟨_,DGet.k (k:= .inr t) ep,?_⟩;rw[eg];have lv:=aR rv;refine⟨⟨_,SqL.of eq⟩,cf (xs:=vs) (fun i σ H2=>∃(o5 o6 o7 o8 o9 o10:Option V) (T2:Tg),σ=[some (.ref b),some (.int (at':Int)),some (.int (x:Int)),some (.str t),some (.int (y:Int)),o5,o6,o7,o8,o9,o10]/\Fr dX T' T2 H1 H2/\Ew C D B A b l N T2 H2 L ts (((L.mk2 t).take i).foldl (StI.byMk2 L at' x y) S0)) ⟨o5,o6,o7,o8,o9,o10,T',rfl,Fr.refl,ew1⟩ ?_ ?_ ?_⟩
 · rintro i σ H2 _ ⟨o5,o6,o7,o8,o9,o10,T2,rfl,f2,_⟩;exact SqL.of (stay f2 (by decide))
 · rintro i v σ H2 hv ⟨o5,o6,o7,o8,o9,o10,T2,rfl,f2,ew2⟩;obtain⟨e,he,t0,rfl,ht⟩:=bN rv hv;have hin:=av he;rw[cQ _ _ he];generalize ((L.mk2 t).take i).foldl (StI.byMk2 L at' x y) S0=S2 at ew2⊢;refine⟨_,SqT.of (f2.tups _ _ ht),rfl,?_⟩;refine g3 ?_;refine(kq (a:=cu (bX S2.facts x e.1)) (c:=cu (bX S2.facts y e.2.1)) (n:=L.parts.length) ?_ ?_ (mG fun i hi=>(ew2.wf.rg _ (mem_startsOf.mp hi)).1) hnN fun H4 pl z4 epl tpl=> ?_:kL _ _ _ _ _)
   · exact fun Q k=>lE sc sc.m9 (II B l) ew2.ev.sa.ob ew2.ev.sa.s8 (gv rfl) (gv rfl) (gv rfl) k
   · exact fun H3 Q z3 k=>lE sc sc.m9 (II B l) (ew2.same z3).ev.sa.ob (ew2.same z3).ev.sa.s8 (gv rfl) (gv rfl) (gv rfl) k
   have ew4:=ew2.same z4;replace tpl:=tpl _ ew2.ev.sa.tg;have f4:=f2.trans (Fr.of (S:=dX) (T:=T2) z4);refine cf (xs:=(cG (yx S2 x y e)).map fun(i:Nat)=>V.int (i:Int)) (fun i σ H5=>∃(oo:Option V) (T5:Tg),σ=[some (.ref b),some (.int (at':Int)),some (.int (x:Int)),some (.str t),some (.int (y:Int)),o5,some (.str e.2.1),some (.int e.2.2),o8,some (.str e.1),oo]/\Fr dX T2 T5 H4 H5/\Ew C D B A b l N T5 H5 L ts (((cG (yx S2 x y e)).take i).foldl (StI.mk2a L at' x y e) S2)) ⟨o10,T2,rfl,Fr.refl,ew4⟩ ?_ ?_ ?_
   · rintro i σ H5 _ ⟨oo,T5,rfl,f5,_⟩;exact SqL.of (Fr.free f5 epl tpl).2
   · rintro i v σ H5 hv ⟨oo,T5,rfl,f5,ew5⟩;rw[aV,b_] at hv;obtain⟨z,hz,rfl⟩:=hv;have hm:=C5 (av hz);have hm5:=fZ (C4 L at' x y e) ((cG (yx S2 x y e)).take i) hm;rw[cQ _ _ hz];generalize ((cG (yx S2 x y e)).take i).foldl (StI.mk2a L at' x y e) S2=S5 at ew5 hm5⊢;refine⟨_,_,ew5.ev.sa.ob,fV B l,cV rfl (cV rfl (cV rfl ?_))⟩;refine u0 sc ew5.ev.sa hm5 (gv rfl) (gv rfl) (gv rfl) (gv rfl) fun H6 z6=>⟨by show 2<=sizeLine;decide,fun pf hpf=> ?_⟩;have z7:=af hpf (.lst [.int (S5.facts.idxOf (Fi.has z e.1 x):Nat),.int (at':Int)]);exact jA (nn:=some e.2.2) (fr:=[((S5.facts.idxOf (Fi.has z e.1 x):Nat):Int),(at':Int)]) ((ew5.same z6).same z7) (ew2.wf.rg _ hm).1 (ew.wd.m2 t e hin) hy ae ((ew5.same z6).ev.sa.tg.free hpf) fun H8 T8 f8 ew8=>⟨_,T8,rfl,((f5.trans (Fr.of z6)).trans (Fr.of z7)).trans f8,ew8⟩
   · rintro σ H5 ⟨oo,T5,rfl,f5,ew5⟩;rw[aw,a_] at ew5;exact⟨_,_,_,_,_,_,T5,rfl,f4.trans f5,ew5⟩
 · rintro σ H2 ⟨o5,o6,o7,o8,o9,o10,T2,rfl,f2,ew2⟩;rw[lv,a_] at ew2;exact q H2 T2 ((fr.trans f1).trans f2) ew2
end
noncomputable def StI.turn(L:LoI)(S:StI)(at':Nat):Fi->StI
 | .is x k=>StI.fromEnd L (StI.fromPairs L (StI.fromKind L S at' x k) at' x k) at' x k
 | .has x t y=>StI.fromChains L (StI.fromTie L S at' x t y) at' x t y
def DP(L:LoI)(at' x:Nat)(S:StI)(e:Nat × Int × Bool)(f:Fi)(h:f∈S.facts):f∈(StI.byNo L at' x S e).facts:=by
 unfold StI.byNo
 split
 · exact(cO L S x 1 "no" _ _).1 f h
 · exact h
def yP(L:LoI)(at' x:Nat)(S:StI)(e:Nat × Nat × Bool)(f:Fi)(h:f∈S.facts):f∈(StI.byBoth L at' x S e).facts:=by
 unfold StI.byBoth
 split
 · exact(cO L S x e.2.1 "both" _ _).1 f h
 · exact h
def rO(L:LoI)(S:StI)(at' x k:Nat){f:Fi}(h:f∈S.facts):f∈(StI.fromPairs L S at' x k).facts:=fZ (yP L at' x) _ (fZ (DP L at' x) _ h)
def uV(L:LoI)(S:StI)(at' x k:Nat){f:Fi}(h:f∈S.facts):f∈(StI.fromKind L S at' x k).facts:=by
 have h1:f∈((L.everys k).foldl (fun S e=>StI.tellIs L S x e.1 "every" [(at':Int)] (some e.2)) S).facts:=fZ (g:=fun S (e:Nat × Int)=>StI.tellIs L S x e.1 "every" [(at':Int)] (some e.2)) (fun S e f h=>(cO L S x e.1 "every" _ _).1 f h) _ h;unfold StI.fromKind;dsimp only
 split
 · exact(cO L _ x _ "second" _ _).1 f ((cO L _ x _ "first" _ _).1 f h1)
 · exact hU L _ x _ _ "some" _ _ h1
 · exact h1
noncomputable def Ld(M:Nat):L2.St->Nat
 | _::some (.int i)::_=>M - i.toNat
 | _=>0
inductive Al(L:LoI)(S0:StI):Nat->StI->Prop where
 | zero:Al L S0 0 S0
 | step {i:Nat} {S:StI} {f:Fi}:Al L S0 i S->S.facts[i]? =some f->Al L S0 (i+1) (StI.turn L S i f)
inductive vQ(C D:Addr)(vs:List V)(H:Hp)(Q:VK):Prop
 | mk:∀b l B A N T L ts S,(vs=[.ref b])->(Ew C D B A b l N T H L ts S)->(∀H' T' S' i,Fr dX T T' H H'->Ew C D B A b l N T' H' L ts S'->Al L S i S'->S'.facts.length<=i->Q .non H')->vQ C D vs H Q
def BZ(C D:Addr):Sp:=fun vs H Q _=>vQ C D vs H Q
section
def scGO:bb ["self","at","x","kind","tie","y"] mo (aJ xV):=fS
def E8(F:Fun K "go_on" "Still.go_on" xV f fd)(sc:tm K D)(ml:mg "len"=none)(Gfk:Ml P w K mg base D 7 "from_kind" ow (qa C D))(Gfp:Ml P w K mg base D 3 "from_pairs" ow (oi C D))(Gfe:Ml P w K mg base D 3 "from_end" zK (sL C D))(Gft:Ml P w K mg base D 7 "from_tie" ou (sJ C D))(Gfc:Ml P w K mg base D 7 "from_chains" ou (mh C D)):bK P w K mg base eJ 8 f fd mo (BZ C D):=by
 refine F.o scGO fun cdv A0 outer s0 H vs Q E hr h=> ?_;obtain⟨b,l,B,A,N,T,L,ts,S,rfl,ew,q⟩:=h;have hu:=fY hr;refine⟨_,aZ (eV 1 scGO.nd aD)
  (bg (qx pL (fu mB bu (xx ml (cM aC))) (aZ (bH (fu dv (xx ml (jM bS (cM aC) bu)) aD) (aZ (ui (jM bS (cM aC) bu) (eO rfl (bz (fw 2 scGO.nd) (bz (fw 3 scGO.nd) dD)))) (aZ (bh (gj aC sc.c Gfk hr (eY bu bx bZ))) (aZ (bh (gj aC sc.c Gfp hr (eY bu bx bZ))) (bg (bh (gj aC sc.c Gfe hr (eY bu bx bZ))))))) (aZ (ui (jM bS (cM aC) bu) (eO rfl (bz (fw 2 scGO.nd) (bz (fw 4 scGO.nd) (bz (fw 5 scGO.nd) dD))))) (aZ (bh (gj aC sc.c Gft hr (jo bu bx cL dJ))) (bg (bh (gj aC sc.c Gfc hr (jo bu bx cL dJ))))))) (bg (uh (i:=1) scGO.nd rfl (Or.inl rfl) aD yF))))),?_⟩
 refine gn ?_;show tG _ _ {nx:=_,rt:=_,bk:=_,ct:=_} _ _;refine vw (fun σ H'=>∃(i:Nat) (o2 o3 o4 o5:Option V) (T':Tg) (S':StI),σ=[some (.ref b),some (.int (i:Int)),o2,o3,o4,o5]/\Fr dX T T' H H'/\Ew C D B A b l N T' H' L ts S'/\Al L S i S') (fun σ _=>Ld (fM L.parts.length ts) σ) ⟨0,none,none,none,none,T,S,rfl,Fr.refl,ew,.zero⟩ ?_ (fun σ H Q Q' hm h=>by obtain⟨x,e,h1⟩:=onV.ex h;obtain⟨y,e',h2⟩:=onV.ex h1;obtain⟨a,rfl,C',dx,fs,v,h3,h4,h5,h6,p,ys,h7,h8,h9⟩:=onR.ex h2;obtain⟨i,rfl,h10⟩:=onI.ex h9;exact onV.of e (onV.of e' ⟨C',dx,fs,v,h3,h4,h5,h6,p,ys,h7,h8,hm _ _ h10⟩));rintro σ H1 ⟨i,o2,o3,o4,o5,T1,S1,rfl,f1,ew1,r1⟩;obtain⟨_,vs,e1,rv⟩:=id ew1.ev.sa.s1;have lv:vs.length=S1.facts.length:=aR rv;refine⟨D,_,_,_,ew1.ev.sa.ob,sc.c,sc.m2,IJ B l,B.q1,vs,rfl,.inl (SqL.of e1),?_⟩;by_cases hi:i<S1.facts.length
 · obtain⟨fa,hfa⟩:∃fa,S1.facts[i]? =some fa:=⟨_,aE hi⟩;have hin:=av hfa;have rg:=ew1.wf.rg _ hin;obtain⟨v,hv,iv⟩:=oP rv hfa;have mu:∀o2 o3 o4 o5:Option V,Ld (fM L.parts.length ts) [some (.ref b),some (.int ((i:Int)+1)),o2,o3,o4,o5]<Ld (fM L.parts.length ts) [some (.ref b),some (.int (i:Int)),o2,o3,o4,o5]:=fun _ _ _ _=>by
    show fM L.parts.length ts - ((i:Int)+1).toNat<fM L.parts.length ts - (i:Int).toNat;have:=ew1.wf.cnt;unfold StI.cnt at this
    lia
   refine oI (ax (show(i:Int)<((vs.length:Nat):Int) by lia)) ⟨D,_,_,_,ew1.ev.sa.ob,sc.c,sc.m2,IJ B l,vs,v,SqL.of e1,aX hv,?_⟩;cases fa with
   | is x k=>
     obtain⟨pp,rfl,hpp⟩:=iv;refine⟨pp,_,rfl,.inr (SqT.of hpp),?_⟩;refine⟨D,_,_,_,ew1.ev.sa.ob,sc.c,sc.m2,IJ B l,vs,_,SqL.of e1,aX hv,_,SqT.of hpp,rfl,?_⟩;refine⟨_,_,ew1.ev.sa.ob,tL B l,?_⟩;refine⟨b,l,B,A,N,T1,L,ts,S1,i,x,k,rfl,ew1,rg.1,rg.2,fun H2 T2 f2 ew2=> ?_⟩;refine⟨_,_,ew2.ev.sa.ob,rG B l,?_⟩;refine⟨b,l,B,A,N,T2,L,ts,_,i,x,k,rfl,ew2,rg.1,fun H3 T3 f3 ew3=> ?_⟩;refine⟨_,_,ew3.ev.sa.ob,vV B l,?_⟩;refine⟨b,l,B,A,N,T3,L,ts,_,i,x,k,rfl,ew3,rO L _ i x k (uV L S1 i x k hin),fun H4 T4 f4 ew4=> ?_⟩;exact⟨_,rfl,_,_,rfl,rfl,⟨i+1,_,_,_,_,T4,_,rfl,((f1.trans f2).trans f3).trans f4,ew4,.step r1 hfa⟩,mu _ _ _ _⟩
   | has x t y=>
     obtain⟨pp,rfl,hpp⟩:=iv;refine⟨pp,_,rfl,.inr (SqT.of hpp),?_⟩;refine⟨D,_,_,_,ew1.ev.sa.ob,sc.c,sc.m2,IJ B l,vs,_,SqL.of e1,aX hv,_,SqT.of hpp,rfl,?_⟩;refine⟨_,_,ew1.ev.sa.ob,vU B l,?_⟩;refine⟨b,l,B,A,N,T1,L,ts,S1,i,x,t,y,rfl,ew1,hin,fun H2 T2 f2 ew2=> ?_⟩;refine⟨_,_,ew2.ev.sa.ob,qd B l,?_⟩;refine⟨b,l,B,A,N,T2,L,ts,_,i,x,t,y,rfl,ew2,rg.1,rg.2.2,fun H4 T4 f4 ew4=> ?_⟩;exact⟨_,rfl,_,_,rfl,rfl,⟨i+1,_,_,_,_,T4,_,rfl,(f1.trans f2).trans f4,ew4,.step r1 hfa⟩,mu _ _ _ _⟩
 · exact oI (ag (show ¬ (i:Int)<((vs.length:Nat):Int) by lia)) (q H1 T1 S1 i f1 ew1 r1 (by lia))
end
theorem LoI.num_shapes:∀k L,∃l,(LoI.num k L).shapes=L.shapes++l/\∀r j,Sh.some r j∈l->r∈Kd.tieL k
 | .nm x,L=>by
   rw[LoI.num]
   split
   · exact⟨[],by simp,fun _ _ h=>(ai h).elim⟩
   · exact⟨[.no],rfl,fun r j h=>by cases ay.mp h⟩
 | .two a b,L=>by
   rw[LoI.num];obtain⟨la,ea,ha⟩:=LoI.num_shapes a L;obtain⟨lb,eb,hb⟩:=LoI.num_shapes b (LoI.num a L)
   split
   · exact⟨[],by simp,fun _ _ h=>(ai h).elim⟩
   · refine⟨la++(lb++[.both ((LoI.num a L).ix a) ((LoI.num b (LoI.num a L)).ix b)]),by show(LoI.num b (LoI.num a L)).shapes++_=_;rw[eb,ea];simp,fun r j h=> ?_⟩;show r∈Kd.tieL a++Kd.tieL b;rcases aI.mp h with h | h
     · exact aS _ (ha r j h)
     · rcases aI.mp h with h | h
       · exact be _ (hb r j h)
       · cases ay.mp h
 | .som t c,L=>by
   rw[LoI.num];obtain⟨lc,ec,hc⟩:=LoI.num_shapes c L
   split
   · exact⟨[],by simp,fun _ _ h=>(ai h).elim⟩
   · refine⟨lc++[.some t ((LoI.num c L).ix c)],by show(LoI.num c L).shapes++_=_;rw[ec];simp,fun r j h=> ?_⟩;show r∈t::Kd.tieL c;rcases aI.mp h with h | h
     · exact aH _ (hc r j h)
     · cases ay.mp h;exact aO
theorem LoI.num_len:∀k L,(LoI.num k L).parts.length<=L.parts.length+k.sz
 | .nm x,L=>by
   rw[LoI.num]
   split
   · lia
   · show(L.parts++[_]).length<=_;rw[ak];simp[Kd.sz]
 | .two a b,L=>by
   have h1:=LoI.num_len a L;have h2:=LoI.num_len b (LoI.num a L);rw[LoI.num]
   split
   · lia
   · show((LoI.num b (LoI.num a L)).parts++[_]).length<=_;rw[ak];simp only[Kd.sz,bj,eh];lia
 | .som r c,L=>by
   have h1:=LoI.num_len c L;rw[LoI.num]
   split
   · lia
   · show((LoI.num c L).parts++[_]).length<=_;rw[ak];simp only[Kd.sz,bj,eh];lia
def LoI.num_le(k:Kd)(L:LoI):L.parts.length<=(LoI.num k L).parts.length:=by
 obtain⟨l,e⟩:=LoI.num_sub k L;rw[e,ak];lia
def Bi(h:∀x k,Fi.is x k∈F->k<sh.length)(x:Nat)(r:Str):eG (sh++l) F x r=eG sh F x r:=by
 unfold eG
 induction F with
 | nil=>rfl
 | cons f F ih=>
   rw[gc,gc,ih fun x k hk=>h x k (aH _ hk)];cases f with
   | is a k=>dsimp only;rw[bM (h a k aO)]
   | has a t y=>rfl
def Wf.mono(w:Wf n ts S)(h:n<=n'):Wf n' ts S:=by
 refine⟨w.nd,fun f hf=> ?_,w.sd,fun i hi=>ah (w.sr i hi) h,w.st0,w.hs⟩;have:=w.rg f hf;cases f with
 | is x k=>exact⟨ah this.1 h,ah this.2 h⟩
 | has x t y=>exact⟨ah this.1 h,this.2.1,ah this.2.2 h⟩
def LoI.Wd.num{L:LoI}{ts:List Str}(w:L.Wd ts){k:Kd}(ht:∀r∈Kd.tieL k,r∈ts):(LoI.num k L).Wd ts:=by
 obtain⟨_,e1,e2,e3,e4,e5,e6,e7,e8,e9⟩:=LoI.num_rest k L;have le:=LoI.num_le k L;refine⟨fun i e h=> ?_,fun i e h=> ?_,fun i e h=> ?_,fun i e h=> ?_,fun i e h=> ?_,fun i e h=> ?_,fun i e h=> ?_,fun r m i h1 h2=> ?_,fun i r j h=> ?_⟩
 · rw[e1] at h;exact ah (w.ev i e h) le
 · rw[e2] at h;exact ah (w.no i e h) le
 · rw[e3] at h;exact w.wi i e h
 · rw[e4] at h;exact w.m1 i e h
 · rw[e5] at h;exact w.m2 i e h
 · rw[e6] at h;exact⟨ah (w.bo i e h).1 le,ah (w.bo i e h).2 le⟩
 · rw[e7] at h;exact ah (w.so i e h) le
 · rw[e8] at h1;obtain⟨q,h3,h4,h5⟩:=w.fi r m i h1 h2;exact⟨q,by rw[e9];exact h3,ah h4 le,ah h5 le⟩
 · obtain⟨l,e,hl⟩:=LoI.num_shapes k L;rw[e] at h;rcases fP i L.shapes.length with c | c
   · rw[bM c] at h;exact w.sh i r j h
   · rw[bV c] at h;exact ht r (hl r j (av h))
def rj(h:n<=n'):fM n ts<=fM n' ts:=by
 have h2:n * n<=n' * n':=Nat.mul_le_mul h h;have h3:=Nat.mul_le_mul_left ts.length h2;unfold fM
 lia
def Ew.num(h:Ew C D B A b l N T H L ts S)(f:Fr [0,1,2] T T' H H')(la:LoreAt C A l (N+k.sz) T' H' (LoI.num k L))(ht:∀r∈Kd.tieL k,r∈ts)(hN:N+k.sz<=50000)(hM:(LoI.num k L).parts.length<=M)(bd:fM M ts<=9800000):Ew C D B A b l (N+k.sz) T' H' (LoI.num k L) ts S:=by
 obtain⟨sl,e,_⟩:=LoI.num_shapes k L;have le:=LoI.num_le k L;have sa:=StG.fr h.ev.sa f (by decide) la.tg;have eg:S.gd L.shapes=S.gd (LoI.num k L).shapes:=by
  unfold StI.gd;rw[e]
  congr 1
  exact gW fun x r=>(Bi (fun a c hc=>by rw[h.ev.ok.sl];exact(h.wf.rg _ hc).2) x r).symm
 refine⟨⟨?_,la,LoI.num_ok k h.ev.ok,h.ev.ex,hN,h.ev.sl,ao h.ev.p2 le⟩,h.wf.mono le,h.wd.num ht,ao (rj hM) bd⟩;show StG D B b l S.cnt T' H' (S.gd (LoI.num k L).shapes);rw[<-eg];exact sa
noncomputable abbrev SB:List Nat:=[0,1,2,13,14,15,16,17,18,19,20,21,22]
def Mn(f:Fr [0,1,2] T T' H H'):Fr SB T T' H H':=f.mono (by decide)
def G0(f:Fr dX T T' H H'):Fr SB T T' H H':=f.mono (by decide)
abbrev LS:=LoI × StI
noncomputable def jW(p:LS)(k:Kd):LS:=(LoI.num k p.1,StI.letStand (LoI.num k p.1) p.2 ((LoI.num k p.1).ix k))
noncomputable def lH(p:LS)(q:Int × Sy):LS:=match q.2 with
 | .thing x c=>(LoI.num c (LoI.num (.nm x) p.1),StI.tellIs (LoI.num c (LoI.num (.nm x) p.1)) p.2 ((LoI.num (.nm x) p.1).ix (.nm x)) ((LoI.num c (LoI.num (.nm x) p.1)).ix c) "thing" [] (some q.1))
 | .tied x t y=>(LoI.num (.nm y) (LoI.num (.nm x) p.1),StI.tellHas (LoI.num (.nm y) (LoI.num (.nm x) p.1)) p.2 ((LoI.num (.nm x) p.1).ix (.nm x)) t ((LoI.num (.nm y) (LoI.num (.nm x) p.1)).ix (.nm y)) "tied" [] (some q.1))
 | _=>p
noncomputable def dO(ks:List Kd)(A:List Str)(ps:List (Int × Sy))(p:LS):LS:=ps.foldl lH ((ks++A.map Kd.nm).foldl jW p)
noncomputable def j0(ks:List Kd):Nat:=(ks.map Kd.sz).sum
noncomputable def mY(ps:List (Int × Sy)):Nat:=(ps.map fun q=>q.2.szs).sum
def Sy.tsOk(ts:List Str)(s:Sy):Prop:=(∀c∈s.parts,∀r∈Kd.tieL c,r∈ts)/\∀x t y,s= .tied x t y->t∈ts
theorem wI(H:Hp):∀(A:List Str),KL H (A.map V.str) (A.map Kd.nm)
 | []=> .nil
 | _::A=> .cons rfl (wI H A)
theorem vE:∀(A:List Str),j0 (A.map Kd.nm)=A.length
 | []=>rfl
 | _::A=>by
   have:=vE A;unfold j0 at this⊢;rw[bG,bG,mV,this,bj];simp[Kd.sz];lia
def vC{s:Sy}(h:x∈s.things):Kd.nm x∈s.parts:=by
 cases s with
 | thing a c=>rw[show x=a by simpa[Sy.things] using h];simp[Sy.parts]
 | tied a t b=>rcases(show x=a\/x=b by simpa[Sy.things] using h) with e | e<;>(rw[e];simp[Sy.parts])
 | every a b=>simp[Sy.things] at h
 | no a b=>simp[Sy.things] at h
 | within a b=>simp[Sy.things] at h
 | makes a b c=>simp[Sy.things] at h
def sX(h:x∈jl ps):∃q∈ps,x∈q.2.things:=by
 unfold jl at h;obtain⟨l,hl,hx⟩:=List.mem_flatten.mp h;obtain⟨q,hq,rfl⟩:=cc.mp hl;exact⟨q,hq,hx⟩
def Ew.mono(h:Ew C D B A b l N T H L ts S)(hn:N<=N')(hN:N'<=50000):Ew C D B A b l N' T H L ts S:=⟨⟨h.ev.sa,h.ev.la.mono hn,h.ev.ok,h.ev.ex,hN,h.ev.sl,h.ev.p2⟩,h.wf,h.wd,h.bd⟩
def qE(ew:Ew C D B A b l N T H L ts S)(ik:IsK H k v)(gk:uz d k)(ht:∀r∈Kd.tieL k,r∈ts)(hN:N+k.sz<=50000)(hM:L.parts.length+k.sz<=M)(bd:fM M ts<=9800000)(q:∀H' T',Fr SB T T' H H'->Ew C D B A b l (N+k.sz) T' H' (LoI.num k L) ts S->Q (.int ((LoI.num k L).ix k:Nat)) H'):tI C d [.ref l,v] H Q:=⟨l,A,N,T,L,v,k,rfl,ew.ev.la,ik,gk.1,gk.2.1,gk.2.2,ao hN (by decide),fun H' T' f la=>q H' T' (Mn f) (ew.num f la ht hN (ao (LoI.num_len k L) hM) bd)⟩
def HM(ew:Ew C D B A b l N T H L ts S)(hx:x<L.parts.length)(q:∀H' T',Fr SB T T' H H'->Ew C D B A b l N T' H' L ts (StI.letStand L S x)->Q .non H'):iT C D [.ref b,.int (x:Int)] H Q:=⟨b,l,B,A,N,T,L,S,x,rfl,ew.ev,hx,ao ew.cnt (by decide),fun H' T' f ev=>q H' T' (G0 f) (ew.tell ev (ew.wf.letStand hx))⟩
inductive sN(C D:Addr)(d:Nat)(vs:List V)(H:Hp)(Q:VK):Prop
 | mk:∀b l B A N M T L ts S lp ls ys zs ps ks,(vs=[.ref b,.ref lp,.ref ls])->(Ew C D B A b l N T H L ts S)->(H lp=some (.lst ys))->(T lp=none)->(PrL H ys ps)->(H ls=some (.lst zs))->(KL H zs ks)->((∀q∈ps,q.2.okS/\q.2.gd d/\q.2.tsOk ts))->((∀k∈ks,uz d k/\∀r∈Kd.tieL k,r∈ts))->(ps.length<=100)->(N+j0 ks+3 * ps.length+mY ps<=50000)->(L.parts.length+j0 ks+3 * ps.length+mY ps<=M)->(fM M ts<=9800000)->(∀H' T' Tn N',Fr SB T T' H H'->(Tn=Ja ps/\∀x,x∈Tn↔x∈jl ps)->Ew C D B A b l N' T' H' (dO ks Tn ps (L,S)).1 ts (dO ks Tn ps (L,S)).2->Q .non H')->sN C D d vs H Q
def zy(C D:Addr)(d:Nat):Sp:=fun vs H Q _=>sN C D d vs H Q
section
def scBeg:bb ["self","pairs","starts","lore","x","number","saying"] zI (aJ tU):=fS
def CS(hd:d<=31)(F:Fun K "begin" "Still.begin" tU f fd)(lc:vh K C)(sc:tm K D)(mls:mg "list"=none)(Gti:Ml P w K mg base D 2 "tell_is" mq (fU C D))(Gth:Ml P w K mg base D 6 "tell_has" qr (iH C D))(Gno:Ml P w K mg base C (2 * d) "number_of" eN (me C d))(Gls:Ml P w K mg base D 5 "let_stand" eN (kT C D))(Gtn:Cl P w K mg base 63 "things_named" ["pairs"] si):bK P w K mg base eJ 64 f fd zI (zy C D d):=by
 refine F.o scBeg fun cdv A0 outer s0 H vs Q E hr h=> ?_;obtain⟨b,l,B,A,N,M,T,L,ts,S,lp,ls,ys,zs,ps,ks,rfl,ew,elp,tlp,hps,els,hks,gp,gk,l100,hN,hM,bd,q⟩:=h;have hu:=fY hr;refine⟨_,aZ (eV 3 scBeg.nd (cM aC))
  (aZ (mw (bY (bq qD (dM fH rfl mls bQ (eE bx)) (dM (eP rfl) rfl mls bQ (eE (eU Gtn hr (eE bu)))))) (fw 4 scBeg.nd) (bg (bh (gj aC sc.c Gls hr (eE (gj bZ lc.c Gno hr (eE cL)))))))
  (bg (mw (bY bu) (eO rfl (bz (fw 5 scBeg.nd) (bz (fw 6 scBeg.nd) dD))) (bg (bH (fu dv (eS eZ) aN) (bg (bh (gj aC sc.c Gti hr (bR (gj bZ lc.c Gno hr (eE (eS eZ))) (jo (gj bZ lc.c Gno hr (eE (eS eZ))) aN (bE bO) dJ))))) (bg (bH (fu dv (eS eZ) aN) (bg (bh (gj aC sc.c Gth hr (bR (gj bZ lc.c Gno hr (eE (eS eZ))) (bR (eS eZ) (jo (gj bZ lc.c Gno hr (eE (eS eZ))) aN (bE bO) dJ)))))) br))))))),?_⟩
 refine⟨D,_,_,_,ew.ev.sa.ob,sc.c,sc.m0,pA B l,?_⟩;refine gn ?_;refine⟨ls,zs,rfl,.inl (SqL.of els),fun p1 hp1=> ?_⟩;have y1:=af hp1 (.lst zs);refine⟨lp,ys,ps,rfl,y1 _ _ elp,PrL.mono y1.tups hps,fun q' hq=>(gp q' hq).1,l100,fun dd Tn H2 s2 ed hTn lTn=> ?_⟩;refine⟨dd,_,Tn,rfl,ed,mX _,fun p3 hp3=> ?_⟩;have y3:=af hp3 (.lst (Tn.map V.str));have lzs:zs.length=ks.length:=KL.len hks;have lks:ks.length<=j0 ks:=by
  unfold j0;clear hks lzs gk hN hM q
  induction ks with
  | nil=>exact au _
  | cons k ks ih=>
    rw[bG,mV,bj];have:1<=k.sz:=by cases k<;>(simp only[Kd.sz];lia)
    lia
 refine⟨p1,p3,zs,Tn.map V.str,rfl,rfl,y3 _ _ (s2 _ _ ae),ae,by rw[aw];exact ao (show zs.length+Tn.length<=50000 by lia) (by decide),fun p4 hp4=> ?_⟩;have y4:=af hp4 (.lst (zs++Tn.map V.str));have sm:Same H (upd (upd H2 p3 (.lst (Tn.map V.str))) p4 (.lst (zs++Tn.map V.str))):=fun x o h=>y4 x o (y3 x o (s2 x o (y1 x o h)));have e4:upd (upd H2 p3 (.lst (Tn.map V.str))) p4 (.lst (zs++Tn.map V.str)) p4=some (.lst (zs++Tn.map V.str)):=ae;have t4:T p4=none:=(((ew.ev.sa.tg.same y1).same s2).same y3).free hp4;generalize upd (upd H2 p3 (.lst (Tn.map V.str))) p4 (.lst (zs++Tn.map V.str))=H4 at sm e4⊢;have ew4:=ew.same sm;have kx:KL H4 (zs++Tn.map V.str) (ks++Tn.map Kd.nm):=oQ (KL.mono sm.tups hks) (wI H4 Tn);have cx:j0 (ks++Tn.map Kd.nm)=j0 ks+Tn.length:=by
  have:=vE Tn;unfold j0 at this⊢;rw[bC,jr,this]
 have gx:∀k∈ks++Tn.map Kd.nm,uz d k/\∀r∈Kd.tieL k,r∈ts:=fun k hk=>by
  rcases aI.mp hk with hk | hk
  · exact gk k hk
  · obtain⟨x,hx,rfl⟩:=cc.mp hk;obtain⟨q',hq,hxq⟩:=sX ((hTn.2 x).mp hx);obtain⟨g1,g2,g3,_⟩:=(gp q' hq).2.1 _ (vC hxq);exact⟨⟨g1,g2,g3⟩,fun r hr=>(ai hr).elim⟩
 replace q:=fun H' T' N' f e=>q H' T' Tn N' f hTn e;unfold dO at q;generalize ks++Tn.map Kd.nm=xs at kx cx gx q;have lx:(zs++Tn.map V.str).length=xs.length:=KL.len kx;refine⟨⟨_,SqL.of e4⟩,cf (xs:=zs++Tn.map V.str) (fun i σ H5=>∃(o4:Option V) (T5:Tg),σ=[some (.ref b),some (.ref lp),some (.ref ls),some (.ref l),o4,none,none]/\Fr SB T T5 H4 H5/\Ew C D B A b l (N+j0 (xs.take i)) T5 H5 ((xs.take i).foldl jW (L,S)).1 ts ((xs.take i).foldl jW (L,S)).2/\((xs.take i).foldl jW (L,S)).1.parts.length<=L.parts.length+j0 (xs.take i)) ⟨none,T,rfl,Fr.refl,ew4,aq _⟩ ?_ ?_ ?_⟩
 · rintro i σ H5 _ ⟨o4,T5,rfl,f5,_⟩;exact SqL.of (Fr.free f5 e4 t4).2
 · rintro i v σ H5 hv ⟨o4,T5,rfl,f5,ew5,le5⟩;obtain⟨k,hk,ik⟩:=KL.get kx hv;obtain⟨gk1,gk2⟩:=gx k (av hk);have c3:j0 (xs.take (i+1))=j0 (xs.take i)+k.sz:=ki Kd.sz hk;have c4:j0 (xs.take (i+1))<=j0 xs:=kh Kd.sz xs (i+1);rw[kf jW _ hk,c3];generalize (xs.take i).foldl jW (L,S)=pp at ew5 le5⊢;refine⟨_,_,ew5.ev.sa.ob,mn B l,_,_,ew5.ev.la.ob,ew5.ev.la.lkNo,?_⟩;refine qE (M:=M) ew5 (IsK.mono f5.tups ik) gk1 gk2 (by lia) (by lia) bd fun H6 T6 f6 ew6=> ?_;refine HM ew6 (LoI.ix_lt (LoI.num_has k pp.1)) fun H7 T7 f7 ew7=> ?_;refine⟨_,T7,rfl,(f5.trans f6).trans f7,by rw[<-iP];exact ew7,?_⟩;show(LoI.num k pp.1).parts.length<=_;have:=LoI.num_len k pp.1
   lia
 rintro σ H5 ⟨o4,T5,rfl,f5,ew5,le5⟩;rw[lx,a_] at ew5 le5;generalize xs.foldl jW (L,S)=pp at ew5 le5 q;have f0:Fr SB T T5 H H5:=(Fr.of sm).trans f5;obtain⟨tlp5,elp5⟩:=Fr.free f0 elp tlp;have hps5:=PrL.mono f0.tups hps;have lps:ys.length=ps.length:=aR hps;refine⟨⟨_,SqL.of elp5⟩,cf (xs:=ys) (fun i σ H6=>∃(o4 o5 o6:Option V) (T6:Tg),σ=[some (.ref b),some (.ref lp),some (.ref ls),some (.ref l),o4,o5,o6]/\Fr SB T5 T6 H5 H6/\Ew C D B A b l (N+j0 xs+mY (ps.take i)) T6 H6 ((ps.take i).foldl lH pp).1 ts ((ps.take i).foldl lH pp).2/\((ps.take i).foldl lH pp).1.parts.length<=L.parts.length+j0 xs+mY (ps.take i)) ⟨o4,none,none,T5,rfl,Fr.refl,ew5,le5⟩ ?_ ?_ ?_⟩
 · rintro i σ H6 _ ⟨o4,o5,o6,T6,rfl,f6,_⟩;exact SqL.of (Fr.free f6 elp5 tlp5).2
 · rintro i v σ H6 hv ⟨o4,o5,o6,T6,rfl,f6,ew6,le6⟩;obtain⟨pq,hpq,t,vy,rfl,ht,hsy⟩:=bN hps5 hv;obtain⟨gq1,gq2,gq3⟩:=gp pq (av hpq);have c3:mY (ps.take (i+1))=mY (ps.take i)+pq.2.szs:=ki (fun q:Int × Sy=>q.2.szs) hpq;have c4:mY (ps.take (i+1))<=mY ps:=kh (fun q:Int × Sy=>q.2.szs) ps (i+1);rw[kf lH _ hpq,c3];generalize (ps.take i).foldl lH pp=rr at ew6 le6⊢;obtain⟨n,s⟩:=pq;replace c3:mY (ps.take (i+1))=mY (ps.take i)+s.szs:=c3;obtain⟨pv,vs,rfl,hpv,hL⟩:=IsSy.mono f6.tups hsy;have bd':=bd;refine⟨_,SqT.of (f6.tups _ _ ht),rfl,?_⟩;cases s with
   | thing x c=>
     obtain⟨vx,vc,rfl,kx',kc⟩:=wR hL;obtain⟨x1,x2,x3,_⟩:=gq2 (.nm x) (by simp[Sy.parts]);obtain⟨c1,c2,c5,_⟩:=gq2 c (by simp[Sy.parts]);have hz:(Sy.thing x c).szs=1+c.sz:=by simp[Sy.szs,Sy.parts,Kd.sz]
     have z1:(Kd.nm x).sz=1:=rfl;refine(eF hpv rfl (⟨_,_,ew6.ev.sa.ob,cP B l,_,_,ew6.ev.la.ob,ew6.ev.la.lkNo,eF hpv rfl ?_⟩));refine qE (M:=M) (k:= .nm x) ew6 kx' ⟨x1,x2,x3⟩ (fun r hr=>(ai hr).elim) (by lia) (by lia) bd fun H7 T7 f7 ew7=> ?_;have l7:=LoI.num_len (.nm x) rr.1;refine⟨_,_,ew7.ev.la.ob,ew7.ev.la.lkNo,eF (f7.tups _ _ hpv) rfl ?_⟩;refine qE (M:=M) (k:=c) ew7 (IsK.mono f7.tups kc) ⟨c1,c2,c5⟩ (gq3.1 c (by simp[Sy.parts])) (by lia) (by lia) bd fun H8 T8 f8 ew8=> ?_;have l8:=LoI.num_len c (LoI.num (.nm x) rr.1);have hx8:(LoI.num (.nm x) rr.1).ix (.nm x)<(LoI.num c (LoI.num (.nm x) rr.1)).parts.length:=ah (LoI.ix_lt (LoI.num_has _ _)) (LoI.num_le _ _);refine⟨au _,fun pf hpf=> ?_⟩;have z9:=af hpf (.lst []);refine fR (nn:=some n) (fr:=[]) (ew8.same z9) hx8 (LoI.ix_lt (LoI.num_has _ _)) ae (ew8.ev.sa.tg.free hpf) fun H9 T9 f9 ew9=>⟨_,_,_,T9,rfl,(((f6.trans f7).trans f8).trans (Fr.of z9)).trans (G0 f9),?_,?_⟩
     · rw[hz,show N+j0 xs+(mY (ps.take i)+(1+c.sz))=N+j0 xs+mY (ps.take i)+(Kd.nm x).sz+c.sz by lia];exact ew9
     · show(LoI.num c (LoI.num (.nm x) rr.1)).parts.length<=_;rw[hz];lia
   | tied x t' y=>
     obtain⟨vx,vt,vc,rfl,kx',kt,kc⟩:=Fn hL;obtain rfl:vt= .str t':=kt;obtain⟨x1,x2,x3,_⟩:=gq2 (.nm x) (by simp[Sy.parts]);obtain⟨c1,c2,c5,_⟩:=gq2 (.nm y) (by simp[Sy.parts]);have hz:(Sy.tied x t' y).szs=3:=by simp[Sy.szs,Sy.parts,Kd.sz]
     have z1:(Kd.nm x).sz=1:=rfl;have z2:(Kd.nm y).sz=1:=rfl;refine(eF hpv rfl ((eF hpv rfl (⟨_,_,ew6.ev.sa.ob,fV B l,_,_,ew6.ev.la.ob,ew6.ev.la.lkNo,eF hpv rfl ?_⟩))));refine qE (M:=M) (k:= .nm x) ew6 kx' ⟨x1,x2,x3⟩ (fun r hr=>(ai hr).elim) (by lia) (by lia) bd fun H7 T7 f7 ew7=> ?_;have l7:=LoI.num_len (.nm x) rr.1;refine(eF (f7.tups _ _ hpv) rfl ⟨_,_,ew7.ev.la.ob,ew7.ev.la.lkNo,eF (f7.tups _ _ hpv) rfl ?_⟩);refine qE (M:=M) (k:= .nm y) ew7 (IsK.mono f7.tups kc) ⟨c1,c2,c5⟩ (fun r hr=>(ai hr).elim) (by lia) (by lia) bd fun H8 T8 f8 ew8=> ?_;have l8:=LoI.num_len (.nm y) (LoI.num (.nm x) rr.1);have hx8:(LoI.num (.nm x) rr.1).ix (.nm x)<(LoI.num (.nm y) (LoI.num (.nm x) rr.1)).parts.length:=ah (LoI.ix_lt (LoI.num_has _ _)) (LoI.num_le _ _);refine⟨au _,fun pf hpf=> ?_⟩;have z9:=af hpf (.lst []);refine jA (nn:=some n) (fr:=[]) (ew8.same z9) hx8 (gq3.2 x t' y rfl) (LoI.ix_lt (LoI.num_has _ _)) ae (ew8.ev.sa.tg.free hpf) fun H9 T9 f9 ew9=>⟨_,_,_,T9,rfl,(((f6.trans f7).trans f8).trans (Fr.of z9)).trans (G0 f9),?_,?_⟩
     · exact ew9.mono (by dsimp only;lia) (by dsimp only;lia)
     · show(LoI.num (.nm y) (LoI.num (.nm x) rr.1)).parts.length<=_;rw[hz];lia
   | every x y=>
     iterate 2 refine eF hpv (aX (j:=0) rfl) ?_
     exact⟨_,_,_,T6,rfl,f6,ew6.mono (by lia) (by show N+j0 xs+(mY (ps.take i)+(Sy.every x y).szs)<=50000;lia),by show rr.1.parts.length<=_;lia⟩
   | no x y=>
     iterate 2 refine eF hpv (aX (j:=0) rfl) ?_
     exact⟨_,_,_,T6,rfl,f6,ew6.mono (by lia) (by show N+j0 xs+(mY (ps.take i)+(Sy.no x y).szs)<=50000;lia),by show rr.1.parts.length<=_;lia⟩
   | within x y=>
     iterate 2 refine eF hpv (aX (j:=0) rfl) ?_
     exact⟨_,_,_,T6,rfl,f6,ew6.mono (by lia) (by show N+j0 xs+(mY (ps.take i)+(Sy.within x y).szs)<=50000;lia),by show rr.1.parts.length<=_;lia⟩
   | makes x y z=>
     iterate 2 refine eF hpv (aX (j:=0) rfl) ?_
     exact⟨_,_,_,T6,rfl,f6,ew6.mono (by lia) (by show N+j0 xs+(mY (ps.take i)+(Sy.makes x y z).szs)<=50000;lia),by show rr.1.parts.length<=_;lia⟩
 · rintro σ H6 ⟨o4,o5,o6,T6,rfl,f6,ew6,_⟩;rw[lps,a_] at ew6;exact q H6 T6 _ (f0.trans f6) ew6
end
def LoreAt.bt(h:LoreAt C A a N T H L)(z:Bt b H H')(t:Tups H H')(hT:T b=none)(ne:a≠b)(tg:TgOk T H'):LoreAt C A a N T H' L:=⟨tg,h.oT,z _ _ h.ob ne,h.f0.bt qI z t hT,h.f1.bt oq z t hT,h.f2.bt z hT,h.f3.bt z hT,h.f4.bt e2_mo z t hT,h.f5.bt e3_mo z t hT,h.f6.bt es2_mo z t hT,h.f7.bt es3_mo z t hT,h.f8.bt es3_mo z t hT,h.f9.bt eb_mo z t hT,h.f10.bt esm_mo z t hT,h.f11.bt z hT,h.f12.bt z hT,h.gd,h.le,h.sl,h.xo⟩
noncomputable def StI.emp:StI:=⟨[],[],[]⟩
def Mv(k:Key):yw (gX []) k=none:=by
 cases k with
 | inl i=>exact aG (fun z=>z.2 rfl)
 | inr r=>rfl
def Lg(k:Key):yw (gR []) k=none:=by
 cases k with
 | inl i=>exact aG (fun z=>z.2 rfl)
 | inr r=>rfl
def Lf(hg:∀i t,g i t=[])(k:List Key):AV g k=none:=by
 match k with
 | []=>rfl
 | [.inl _]=>rfl
 | [.inr _]=>rfl
 | [.inr _,_]=>rfl
 | [.inl _,.inl _]=>rfl
 | [.inl i,.inr s]=>exact aG (fun z=>z.2 (hg _ _))
 | x::y::z::w=>cases x<;>cases y<;>rfl
def Ms(k:List Key):zQ [] k=none:=rfl
inductive sx(C D:Addr)(vs:List V)(H:Hp)(Q:VK):Prop
 | mk:∀b dx l A N T L,(vs=[.ref b,.ref l])->(H b=some (.ins D dx []))->(LoreAt C A l N T H L)->(T b=none)->(l≠b)->(∀H' B T',Bt b H H'->(∀c i,T' c=some i->T c=some i\/H c=none)->LoreAt C A l N T' H' L->kA D B b l T' H' L.shapes StI.emp->Q .non H')->sx C D vs H Q
def zl(C D:Addr):Sp:=fun vs H Q _=>sx C D vs H Q
section
def EA:bb wb wb (aJ xU):=fS
def CJ(F:Fun K "__init__" "Still.__init__" xU f fd)(sc:tm K D):bK P w K mg base eJ 1 f fd wb (zl C D):=by
 refine F.o EA fun cdv A0 outer s0 H vs Q E hr h=> ?_;obtain⟨b,dx,l,A,N,T,L,rfl,eb,la,tb,ne,q⟩:=h;refine⟨_,aZ (cT aC bu rfl) (aZ (cT aC (bE bO) rfl) (aZ (cT aC (bE bO) rfl) (aZ (cT aC jO rfl) (aZ (cT aC cU rfl) (aZ (cT aC cU rfl) (aZ (cT aC cU rfl) (aZ (cT aC jO rfl) (aZ (cT aC jO rfl) (aZ (cT aC jO rfl) (bg (cT aC cU rfl))))))))))),?_⟩;refine⟨b,D,dx,_,rfl,eb,sc.c,sc.m0,by show 0<1000;decide,?_⟩;have y0:ij "lore" (V.ref l) ([]:List (Str × V))=[(("lore":Str),V.ref l)]:=rfl;rw[y0];have i0:Ini H (upd H b (.ins D dx [(("lore":Str),V.ref l)])) D b dx [(("lore":Str),V.ref l)] []:=⟨ae,fun q hq=>(ai hq).elim,.nil,fun q hq=>(ai hq).elim,fun c o e n=>by rw[aM n];exact e⟩;generalize upd H b (.ins D dx [(("lore":Str),V.ref l)])=H0 at i0⊢;refine i0.lst sc.c sc.m1 rfl rfl rfl fun q0 H1 i1=> ?_;refine i1.lst sc.c sc.m2 rfl rfl rfl fun q1 H2 i2=> ?_;refine i2.dT sc.c sc.m3 rfl rfl rfl fun q2 H3 i3=> ?_;refine i3.dK sc.c sc.m4 rfl rfl rfl fun q3 H4 i4=> ?_;refine i4.dK sc.c sc.m5 rfl rfl rfl fun q4 H5 i5=> ?_;refine i5.dK sc.c sc.m6 rfl rfl rfl fun q5 H6 i6=> ?_;refine i6.dT sc.c sc.m7 rfl rfl rfl fun q6 H7 i7=> ?_;refine i7.dT sc.c sc.m8 rfl rfl rfl fun q7 H8 i8=> ?_;refine i8.dT sc.c sc.m9 rfl rfl rfl fun q8 H9 i9=> ?_;refine KP (i9.dK sc.c sc.m10 rfl rfl rfl fun q9 H10 i10=> ?_);clear i0 i1 i2 i3 i4 i5 i6 i7 i8 i9
 let qs:List Addr:=[q0,q1,q2,q3,q4,q5,q6,q7,q8,q9]
 let cs:List (Addr × HO):=[(q0,.lst []),(q1,.lst []),(q2,.dT []),(q3,.dK []),(q4,.dK []),(q5,.dK []),(q6,.dT []),(q7,.dT []),(q8,.dT []),(q9,.dK [])]
 have mp:∀c∈qs,∃o,(c,o)∈cs:=fun c hc=>by
  have:qs=cs.map (·.1):=rfl;rw[this] at hc;obtain⟨⟨c',o⟩,h,rfl⟩:=cc.mp hc;exact⟨o,h⟩
 have nw:∀c∈qs,H c=none/\c≠b/\T c=none:=fun c hc=>by
  obtain⟨o,ho⟩:=mp c hc;have:=i10.new _ ho;refine⟨this.1,this.2,?_⟩;cases z:T c with
  | none=>rfl
  | some i=>exact absurd this.1 (la.tg c i z)
 have nd:qs.Nodup:=i10.nd;have ct:∀{i:Nat} {c:Addr} {o:HO},cs[i]? =some (c,o)->H10 c=some o/\vn 13 qs c=some (13+i,none):=fun {i c o} h=>by
  refine⟨i10.at' _ (av h),BN nd ?_⟩;have:=congrArg (Option.map (·.1)) h;rw[<-aV] at this;exact this
 let T':Tg:=fun c=>(vn 13 qs c).or (T c)
 have tq:∀{i:Nat} {c:Addr} {o:HO},cs[i]? =some (c,o)->T' c=some (13+i,none)/\H10 c=some o:=fun {i c o} h=>by
  have:=ct h;refine⟨?_,this.1⟩;show(vn 13 _ c).or (T c)=_;rw[this.2];rfl
 have tT:∀c i,T c=some i->T' c=some i:=fun c i h=>by
  show(vn 13 _ c).or (T c)=_;cases z:vn 13 qs c with
  | none=>rw[h];rfl
  | some j=>rw[(nw c (tF z)).2.2] at h;cases h
 have tN:∀c i,T' c=some i->T c=some i\/(c∈qs/\i.1∈dX):=fun c i h=>by
  have h':(vn 13 qs c).or (T c)=some i:=h;cases z:vn 13 qs c with
  | none=>rw[z] at h';exact .inl h'
  | some j=>
    rw[z] at h';obtain rfl:j=i:=by simpa using h'
    refine .inr ⟨tF z,?_⟩;unfold vn at z
    split at z
    · rename_i lt;simp only[lO] at z;rw[<-z];generalize List.idxOf c qs=m at lt;have lt':m<10:=lt;show 13+m∈dX;have:∀m:Fin 10,13+m.val∈dX:=by decide
      exact this ⟨m,lt'⟩
    · cases z
 obtain⟨Hn,hHn⟩:∃Hn,Hn=upd H b (.ins D dx [("lore",V.ref l),("steps",V.ref q0),(("facts":Str),V.ref q1),(("places":Str),V.ref q2),(("stand_ins":Str),V.ref q3),(("kinds_of":Str),V.ref q4),(("those_of":Str),V.ref q5),(("fillers_of":Str),V.ref q6),(("ends":Str),V.ref q7),(("starts":Str),V.ref q8),(("ties":Str),V.ref q9)]):=⟨_,rfl⟩;have z:Bt b H (Hn):=fun c o e n=>by rw[hHn,aM n];exact e
 have t:Tups H (Hn):=fun c xs e=>z c _ e (fun n=>by rw[n,eb] at e;cases e);have l1:=la.bt z t tb ne (fun c i h=>by
  by_cases n:c=b
  · rw[hHn,n,ae];intro z;cases z
  · rw[hHn,aM n];exact la.tg c i h)
 have keep:∀c o,Hn c=some o->H10 c=some o:=fun c o e=>by
  by_cases n:c=b
  · rw[hHn,n,ae] at e;rw[n,<-e];exact i10.ob
  · rw[hHn,aM n] at e;exact i10.old c o e n
 have there:∀c,Hn c≠none->H10 c≠none:=fun c h=>by
  cases e:Hn c with
  | none=>exact absurd e h
  | some o=>
    rw[keep c o e];intro z;cases z
 have fr:Fr dX T T' (Hn) H10:=⟨fun c o e _=>keep c o e,fun c xs e=>keep c _ e,there,tT,fun c i h=>by
  rcases tN c i h with h | ⟨h1,h2⟩
  · exact .inl h
  · exact .inr ⟨by rw[hHn,aM (nw c h1).2.1];exact(nw c h1).1,h2⟩⟩
 have tg:TgOk T' H10:=fun c i h=>by
  rcases tN c i h with h | ⟨h1,h2⟩
  · exact fr.there c (l1.tg c i h)
  · obtain⟨o,ho⟩:=mp c h1;rw[i10.at' _ ho];intro z;cases z
 refine q H10 ⟨dx,q0,q1,q2,q3,q4,q5,q6,q7,q8,q9⟩ T' (fun c o e n=>i10.old c o e n) (fun c i h=>(tN c i h).imp id fun h=>(nw c h.1).1) (l1.fr fr Ib tg) ?_;refine⟨tg,?_,i10.ob,⟨(tq (i:=0) rfl).1,[],(tq (i:=0) rfl).2,.nil⟩,FLs.nil (tq (i:=1) rfl).1 (tq (i:=1) rfl).2,FT.nil Ms (tq (i:=2) rfl).1 (tq (i:=2) rfl).2,FK.nil LV (tq (i:=3) rfl).1 (tq (i:=3) rfl).2,FK.nil Mv (tq (i:=4) rfl).1 (tq (i:=4) rfl).2,FK.nil Lg (tq (i:=5) rfl).1 (tq (i:=5) rfl).2,FT.nil (Lf fun _ _=>rfl) (tq (i:=6) rfl).1 (tq (i:=6) rfl).2,FT.nil (Lf fun _ _=>rfl) (tq (i:=7) rfl).1 (tq (i:=7) rfl).2,FT.nil (Lf fun _ _=>rfl) (tq (i:=8) rfl).1 (tq (i:=8) rfl).2,(tq (i:=9) rfl).1,(tq (i:=9) rfl).2,au _⟩;cases h:T' b with
 | none=>rfl
 | some i=>
   rcases tN b i h with h | ⟨h1,_⟩
   · rw[tb] at h;cases h
   · exact absurd rfl (nw b h1).2.1
end
def zo:Sp:=fun _ _ _ _=>False
structure rn(ts:List Str)(ps:List (Int × Sy))(ks fs:List Kd)(Tn:List Str)(S':StI):Prop where
 tn:Tn=Ja ps/\∀x,x∈Tn↔x∈jl ps
 ok:(dO ks Tn ps (LoI.of ps fs,StI.emp)).1.Ok
 wd:(dO ks Tn ps (LoI.of ps fs,StI.emp)).1.Wd ts
 w0:Wf (dO ks Tn ps (LoI.of ps fs,StI.emp)).1.parts.length ts (dO ks Tn ps (LoI.of ps fs,StI.emp)).2
 wf:Wf (dO ks Tn ps (LoI.of ps fs,StI.emp)).1.parts.length ts S'
 sl:S'.steps.length=S'.facts.length
 cb:fM (dO ks Tn ps (LoI.of ps fs,StI.emp)).1.parts.length ts<=9800000
 rch:∃i,Al (dO ks Tn ps (LoI.of ps fs,StI.emp)).1 (dO ks Tn ps (LoI.of ps fs,StI.emp)).2 i S'/\S'.facts.length<=i
inductive ni(d:Nat)(vs:List V)(H:Hp)(Q:VK):Prop
 | mk:∀M ts lp ls lf ys zs us ps ks fs,(vs=[.ref lp,.ref ls,.ref lf,.non])->(H lp=some (.lst ys))->(PrL H ys ps)->(H ls=some (.lst zs))->(KL H zs ks)->(H lf=some (.lst us))->(KL H us fs)->((∀q∈ps,q.2.okS/\q.2.gd d/\q.2.tsOk ts))->((∀k∈ks,uz d k/\∀r∈Kd.tieL k,r∈ts))->((∀k∈fs,uz d k))->(ps.length<=100)->(2+gr ps+hZ fs<=40000)->(2+gr ps+hZ fs+j0 ks+3 * ps.length+mY ps<=50000)->((LoI.of ps fs).parts.length+j0 ks+3 * ps.length+mY ps<=M)->(fM M ts<=9800000)->((LoI.of ps fs).Wd ts)->(2<=(LoI.of ps fs).parts.length)->(∀H' q vs T Tn S',Same H H'->H q=none->H' q=some (.lst vs)->Paired (IsSt T H') vs S'.steps->(∀c j,T c=some j->H c=none)->rn ts ps ks fs Tn S'->Q (.ref q) H')->ni d vs H Q
def zh(d:Nat):Sp:=fun vs H Q _=>ni d vs H Q
section
def scStill:bb ["pairs","starts","further","steps","found"] zL (aJ xR):=fS
def CG{P:Program}{w:World}{K:Frag}{mg:Str->Option Value}{base:Heap}{f C D:Addr}{fd:FuncData}{d:Nat}(hd:d<=29){dV:Value}(F:FunD K "still" "still" xR dV f fd)(sc:tm K D)(Gsi:Il P w K mg base D 1 "Still" wb (zl C D))(Gto:Ml P w K mg base D 1 "take_over" zH zo)(Gbe:Ml P w K mg base D 64 "begin" zI (zy C D d))(Ggo:Ml P w K mg base D 8 "go_on" mo (BZ C D))(Glo:Cl P w K mg base (2 * d+4) "lore_of" zM (vK C d)):bK P w K mg base eJ 65 f fd zL (zh d):=by
 refine F.ok scStill (fun vs H Q E h=>by cases h;subst_vars;rfl) fun cdv A0 outer s0 H vs Q E hr h=> ?_;obtain⟨M,ts,lp,ls,lf,ys,zs,us,ps,ks,fs,rfl,elp,hps,els,hks,elf,hfs,gp,gk,gf,l100,c1,c2,hM,bd,wd,p2,q⟩:=h;have hu:=fY hr;refine⟨_,aZ (eV 4 scStill.nd (Mr Gsi hr (eE (eU Glo hr (dW aC bx)))))
  (aZ (bH (fu ur bZ eo) (bg (bh (gj cL sc.c Gto hr (eE bZ)))) br)
  (aZ (bh (gj cL sc.c Gbe hr (dW aC bu)))
  (aZ (bh (K7 cL sc.c Ggo hr))
  (bg (c_ (cM cL)))))),?_⟩
 refine⟨lp,lf,ys,us,ps,fs,rfl,elp,hps,elf,hfs,fun q hq=>(gp q hq).2.1,gf,c1,fun H1 l A T1 s1 tn1 hl la ex=> ?_⟩;refine fun b dx hb hdx ne=> ?_;have y1:Same H1 (upd (upd H1 dx (.own b)) b (.ins D dx [])):=fun c o e=>by
  rw[aM (bI e hb),aM (bI e hdx)];exact e
 have lb:l≠b:=fun z=>by have:=la.ob;rw[z,hb] at this;cases this
 refine⟨b,dx,l,A,_,T1,_,rfl,ae,la.same y1,la.tg.free hb,lb,fun H2 B T2 bt tn2 la2 sa2=>⟨rfl,?_⟩⟩;have s2:Same H H2:=fun c o e=>bt c o (y1 c o (s1 c o e)) (bI (s1 c o e) hb);have t2:∀c i,T2 c=some i->H c=none:=fun c i h=>by
  rcases tn2 c i h with h | h
  · exact tn1 c i h
  · cases e:H c with
    | none=>rfl
    | some o=>rw[y1 c o (s1 c o e)] at h;cases h
 have okL:(LoI.of ps fs).Ok:=jf (fun L q o=>LoI.kk_ok _ o) _ (jf (fun L q o=>LoI.learn_ok _ _ o) _ LoI.init_ok);have ew2:Ew C D B A b l (2+gr ps+hZ fs) T2 H2 (LoI.of ps fs) ts StI.emp:=⟨⟨sa2,la2,okL,ex,by lia,rfl,p2⟩,⟨.nil,fun f h=>(ai h).elim,.nil,fun f h=>(ai h).elim,fun f h=>(ai h).elim,fun _ _ _ h=>(ai h).elim⟩,wd,ao (rj (by lia)) bd⟩;have un:∀{c:Addr} {o:HO},H c=some o->T2 c=none:=fun {c o} e=>by
  cases z:T2 c with
  | none=>rfl
  | some i=>rw[t2 c i z] at e;cases e
 refine gn ?_;refine⟨rfl,?_⟩;refine⟨_,_,sa2.ob,B3 B l,?_⟩;refine⟨b,l,B,A,_,M,T2,_,ts,StI.emp,lp,ls,ys,zs,ps,ks,rfl,ew2,s2 _ _ elp,un elp,PrL.mono s2.tups hps,s2 _ _ els,KL.mono s2.tups hks,gp,gk,l100,c2,hM,bd,fun H3 T3 Tn N' f3 hTn ew3=> ?_⟩;refine⟨_,_,ew3.ev.sa.ob,B2 B l,?_⟩;refine⟨b,l,B,A,N',T3,_,ts,_,rfl,ew3,fun H4 T4 S4 i f4 ew4 rc hi=> ?_⟩;obtain⟨t0,vs,e0,rv⟩:=id ew4.ev.sa.s0;have s4:∀{c:Addr} {o:HO},H c=some o->T4 c=none/\H4 c=some o:=fun {c o} e=>by
  obtain⟨u1,u2⟩:=Fr.free f3 (s2 c o e) (un e);exact Fr.free f4 u2 u1
 have t4:∀c j,T4 c=some j->H c=none:=fun c j h=>by
  cases e:H c with
  | none=>rfl
  | some o=>rw[(s4 e).1] at h;cases h
 exact⟨D,_,_,_,ew4.ev.sa.ob,sc.c,sc.m1,Jn B l,q H4 B.q0 vs T4 Tn S4 (fun c o e=>(s4 e).2) (t4 _ _ t0) e0 rv t4 ⟨hTn,ew3.ev.ok,ew3.wd,ew3.wf,ew4.wf,ew4.ev.sl,ew3.bd,i,rc,hi⟩⟩
def KQ:bb ["self","steps","fact","rule","froms","number","step","x"] zH (aJ kZ):=fS
def CK(F:Fun K "take_over" "Still.take_over" kZ f fd):bK P w K mg base eJ 1 f fd zH zo:=F.ok KQ (fun _ _ _ _ h=>h.elim) (fun _ _ _ _ _ _ _ _ _ h=>h.elim)
end
noncomputable abbrev gV:Kd:= .nm "nothing"
noncomputable def Mx:Kd->List Str->Bool
 | .nm t,A=>decide (t∈A)
 | _,_=>false
noncomputable def D8(t:Str):Bool:=Txt.isupper (Txt.slice t none (some 1))
noncomputable def pB:Kd->Bool
 | .nm t=>D8 t
 | _=>false
noncomputable def DC(L:LoI):Fi->Fa
 | .is x k=> .is (L.pt x) (L.pt k)
 | .has x t y=> .has (L.pt x) t (L.pt y)
section
def ue{L:LoI}(h:i<L.parts.length):L.pt i∈L.parts:=av (LoI.pt_get h)
end
structure Le(S S':StI):Prop where
 fa:∀(i:Nat) (f:Fi),S.facts[i]? =some f->S'.facts[i]? =some f
 st:∀x∈S.stand,x∈S'.stand
def Le.refl(S:StI):Le S S:=⟨fun _ _ h=>h,fun _ h=>h⟩
def Le.trans(a:Le S S')(b:Le S' S''):Le S S'':=⟨fun i f h=>b.fa i f (a.fa i f h),fun x h=>b.st x (a.st x h)⟩
def Le.keep(S:StI)(f:Fi)(s:DZ):Le S (S.keep f s):=⟨fun i g h=>by
 show(S.facts++[f])[i]? =_;rw[bM (bp.mp h).1];exact h,fun _ h=>h⟩
def Le.tellIs(L:LoI)(S:StI)(x k:Nat)(r:Str)(fr:List Int)(nn:Option Int):Le S (StI.tellIs L S x k r fr nn):=by
 unfold StI.tellIs
 split
 · exact .refl S
 · exact .keep S _ _
def Le.letStand(L:LoI)(S:StI)(x:Nat):Le S (StI.letStand L S x):=by
 unfold StI.letStand
 split
 · exact .refl S
 · have a:Le S (S.addS x):=⟨fun _ _ h=>h,fun _ h=>aS _ h⟩;refine Le.trans ?_ (.tellIs L _ x 0 "all" [] none)
   split
   · exact a
   · exact a.trans (.tellIs L _ x x "self" [] none)
def Le.tellHas(L:LoI)(S:StI)(x:Nat)(t:Str)(y:Nat)(r:Str)(fr:List Int)(nn:Option Int):Le S (StI.tellHas L S x t y r fr nn):=by
 unfold StI.tellHas
 split
 · exact .refl S
 · exact(Le.keep S _ _).trans (.letStand L _ y)
theorem cW{α:Type}{P:StI->Prop}{g:StI->α->StI}:∀{l:List α} {S:StI},P S->(∀S,∀e∈l,P S->P (g S e))->P (l.foldl g S)
 | [],_,h,_=>h
 | e::l,S,h,hg=>cW (l:=l) (hg S e aO h) fun S e' he=>hg S e' (aH _ he)
def Px(L L':LoI):Prop:=∃l,L'.parts=L.parts++l
def Px.refl(L:LoI):Px L L:=⟨[],by simp⟩
def Px.trans(a:Px L L')(b:Px L' L''):Px L L'':=by
 obtain⟨l,e⟩:=a;obtain⟨l',e'⟩:=b;exact⟨l++l',by rw[e',e,lQ]⟩
def Px.num(k:Kd)(L:LoI):Px L (LoI.num k L):=LoI.num_sub k L
def Px.mem{L L':LoI}(p:Px L L'){k:Kd}(h:k∈L.parts):k∈L'.parts:=by
 obtain⟨l,e⟩:=p;rw[e];exact aS _ h
def Px.ix{L L':LoI}(p:Px L L'){k:Kd}(h:k∈L.parts):L'.ix k=L.ix k:=by
 obtain⟨l,e⟩:=p;unfold LoI.ix;rw[e,jd h]
def Px.pt{L L':LoI}(p:Px L L'){i:Nat}(h:i<L.parts.length):L'.pt i=L.pt i:=by
 obtain⟨l,e⟩:=p;unfold LoI.pt;rw[e,kD,kD,bM h]
def Px.le(p:Px L L'):L.parts.length<=L'.parts.length:=by
 obtain⟨l,e⟩:=p;rw[e,ak];lia
def m_{L L':LoI}(p:Px L L')(S:StI){x k:Nat}(hx:x<L.parts.length)(hk:k<L.parts.length)(r:Str)(fr:List Int)(nn:Option Int):StI.tellIs L S x k r fr nn=StI.tellIs L' S x k r fr nn:=by
 unfold StI.tellIs;rw[p.pt hx,p.pt hk]
def oF{L L':LoI}(p:Px L L')(S:StI){x:Nat}(hx:x<L.parts.length):StI.letStand L S x=StI.letStand L' S x:=by
 have h0:0<L.parts.length:=bA (au _) hx;unfold StI.letStand;rw[p.pt hx,m_ p (S.addS x) hx hx,m_ p _ hx h0]
def xE{L L':LoI}(p:Px L L')(S:StI){x y:Nat}{t:Str}(hx:x<L.parts.length)(hy:y<L.parts.length)(r:Str)(fr:List Int)(nn:Option Int):StI.tellHas L S x t y r fr nn=StI.tellHas L' S x t y r fr nn:=by
 unfold StI.tellHas;rw[p.pt hx,p.pt hy,oF p _ hy]
def FF(p:LS)(k:Kd):Px p.1 (jW p k).1:=Px.num k p.1
def FD(p:LS)(q:Int × Sy):Px p.1 (lH p q).1:=by
 obtain⟨n,s⟩:=q;cases s with
 | thing x c=>exact(Px.num (.nm x) p.1).trans (Px.num c _)
 | tied x t y=>exact(Px.num (.nm x) p.1).trans (Px.num (.nm y) _)
 | every a b=>exact .refl _
 | no a b=>exact .refl _
 | within a b=>exact .refl _
 | makes a b c=>exact .refl _
theorem xb:∀(l:List Kd) (p:LS),Px p.1 (l.foldl jW p).1
 | [],p=> .refl _
 | k::l,p=>(FF p k).trans (xb l _)
theorem qP:∀(l:List (Int × Sy)) (p:LS),Px p.1 (l.foldl lH p).1
 | [],p=> .refl _
 | k::l,p=>(FD p k).trans (qP l _)
noncomputable def DS(L:LoI)(S:StI)(k:Kd):StI:=StI.letStand L S (L.ix k)
noncomputable def yQ(L:LoI)(S:StI)(q:Int × Sy):StI:=match q.2 with
 | .thing x c=>StI.tellIs L S (L.ix (.nm x)) (L.ix c) "thing" [] (some q.1)
 | .tied x t y=>StI.tellHas L S (L.ix (.nm x)) t (L.ix (.nm y)) "tied" [] (some q.1)
 | _=>S
def FG(h:Px (jW p k).1 L):(jW p k).2=DS L p.2 k/\k∈L.parts:=by
 have hk:=LoI.num_has k p.1;have h':Px (LoI.num k p.1) L:=h;refine⟨?_,h'.mem hk⟩;show StI.letStand (LoI.num k p.1) p.2 ((LoI.num k p.1).ix k)=StI.letStand L p.2 (L.ix k);rw[h'.ix hk,oF h' _ (LoI.ix_lt hk)]
def FE(h:Px (lH p q).1 L):(lH p q).2=yQ L p.2 q/\(∀x c,q.2= .thing x c->Kd.nm x∈L.parts/\c∈L.parts)/\(∀x t y,q.2= .tied x t y->Kd.nm x∈L.parts/\Kd.nm y∈L.parts):=by
 obtain⟨n,s⟩:=q;cases s with
 | thing x c=>
   have hc:=LoI.num_has c (LoI.num (.nm x) p.1);have hx:=(Px.num c (LoI.num (.nm x) p.1)).mem (LoI.num_has (.nm x) p.1);have h':Px (LoI.num c (LoI.num (.nm x) p.1)) L:=h;have ex:=(Px.num c (LoI.num (.nm x) p.1)).ix (LoI.num_has (.nm x) p.1);refine⟨?_,fun x' c' e=>by cases e;exact⟨h'.mem hx,h'.mem hc⟩,fun _ _ _ e=>(by cases e)⟩;show StI.tellIs (LoI.num c (LoI.num (.nm x) p.1)) p.2 ((LoI.num (.nm x) p.1).ix (.nm x)) ((LoI.num c (LoI.num (.nm x) p.1)).ix c) "thing" [] (some n)=StI.tellIs L p.2 (L.ix (.nm x)) (L.ix c) "thing" [] (some n);rw[<-ex,h'.ix hx,h'.ix hc,m_ h' _ (LoI.ix_lt hx) (LoI.ix_lt hc)]
 | tied x t y=>
   have hc:=LoI.num_has (.nm y) (LoI.num (.nm x) p.1);have hx:=(Px.num (.nm y) (LoI.num (.nm x) p.1)).mem (LoI.num_has (.nm x) p.1);have h':Px (LoI.num (.nm y) (LoI.num (.nm x) p.1)) L:=h;have ex:=(Px.num (.nm y) (LoI.num (.nm x) p.1)).ix (LoI.num_has (.nm x) p.1);refine⟨?_,fun _ _ e=>(by cases e),fun x' t' y' e=>by cases e;exact⟨h'.mem hx,h'.mem hc⟩⟩;show StI.tellHas (LoI.num (.nm y) (LoI.num (.nm x) p.1)) p.2 ((LoI.num (.nm x) p.1).ix (.nm x)) t ((LoI.num (.nm y) (LoI.num (.nm x) p.1)).ix (.nm y)) "tied" [] (some n)=StI.tellHas L p.2 (L.ix (.nm x)) t (L.ix (.nm y)) "tied" [] (some n);rw[<-ex,h'.ix hx,h'.ix hc,xE h' _ (LoI.ix_lt hx) (LoI.ix_lt hc)]
 | every a b=>exact⟨rfl,fun _ _ e=>(by cases e),fun _ _ _ e=>(by cases e)⟩
 | no a b=>exact⟨rfl,fun _ _ e=>(by cases e),fun _ _ _ e=>(by cases e)⟩
 | within a b=>exact⟨rfl,fun _ _ e=>(by cases e),fun _ _ _ e=>(by cases e)⟩
 | makes a b c=>exact⟨rfl,fun _ _ e=>(by cases e),fun _ _ _ e=>(by cases e)⟩
theorem xf:∀(l:List Kd) {p:LS},Px (l.foldl jW p).1 L->(l.foldl jW p).2=l.foldl (DS L) p.2/\∀k∈l,k∈L.parts
 | [],_,_=>⟨rfl,fun _ h=>(ai h).elim⟩
 | k::l,p,h=>by
   obtain⟨e1,m1⟩:=FG (p:=p) (k:=k) ((xb l _).trans h);obtain⟨e2,m2⟩:=xf l (p:=jW p k) h;refine⟨?_,fun y hy=> ?_⟩
   · rw[gz,e2,e1];rfl
   · rcases aL.mp hy with rfl | hy
     · exact m1
     · exact m2 y hy
theorem w_:∀(l:List (Int × Sy)) {p:LS},Px (l.foldl lH p).1 L->(l.foldl lH p).2=l.foldl (yQ L) p.2/\∀q∈l,(∀x c,q.2= .thing x c->Kd.nm x∈L.parts/\c∈L.parts)/\(∀x t y,q.2= .tied x t y->Kd.nm x∈L.parts/\Kd.nm y∈L.parts)
 | [],_,_=>⟨rfl,fun _ h=>(ai h).elim⟩
 | k::l,p,h=>by
   obtain⟨e1,m1⟩:=FE (p:=p) (q:=k) ((qP l _).trans h);obtain⟨e2,m2⟩:=w_ l (p:=lH p k) h;refine⟨?_,fun y hy=> ?_⟩
   · rw[gz,e2,e1];rfl
   · rcases aL.mp hy with rfl | hy
     · exact m1
     · exact m2 y hy
def Fe{κ α:Type}[DecidableEq κ]{f:κ->List α}{n i:κ}{x e:α}(h:e∈rQ f n x i):e∈f i\/(i=n/\e=x):=by
 unfold rQ at h;rcases aI.mp h with h | h
 · exact .inl h
 · split at h
   · exact .inr ⟨by assumption,ay.mp h⟩
   · exact(ai h).elim
def GE(P:Kd->Prop):Kd->Prop
 | .nm x=>P (.nm x)
 | .two a b=>P (.two a b)/\GE P a/\GE P b
 | .som r c=>P (.som r c)/\GE P c
theorem hV:∀k L,(∀y∈L.parts,P y)->GE P k->∀y∈(LoI.num k L).parts,P y
 | .nm x,L,h,hk=>by
   rw[LoI.num]
   split
   · exact h
   · intro y hy;rcases aI.mp hy with hy | hy
     · exact h y hy
     · rw[ay.mp hy];exact hk
 | .two a b,L,h,hk=>by
   have h2:=hV b _ (hV a L h hk.2.1) hk.2.2;rw[LoI.num]
   split
   · exact h
   · intro y hy;rcases aI.mp hy with hy | hy
     · exact h2 y hy
     · rw[ay.mp hy];exact hk.1
 | .som r c,L,h,hk=>by
   have h2:=hV c L h hk.2;rw[LoI.num]
   split
   · exact h
   · intro y hy;rcases aI.mp hy with hy | hy
     · exact h2 y hy
     · rw[ay.mp hy];exact hk.1
section
def Px.of_eq(p:Px L' F)(e:L'.parts=L.parts):Px L F:=by obtain⟨l,el⟩:=p;exact⟨l,by rw[<-e];exact el⟩
def Gu(k:Kd)(L:LoI):Px L (LoI.kk k L):=by
 obtain⟨l,e⟩:=LoI.num_sub k L;exact⟨l,by unfold LoI.kk;rw[(LoI.know_rest k _).1];exact e⟩
def HQ(L:LoI)(p:Str × Kd):Px L (L.kkp p):=by
 unfold LoI.kkp
 split
 · exact Gu _ _
 · exact .refl _
theorem uL:∀(l:List (Str × Kd)) (L:LoI),Px L (l.foldl LoI.kkp L)
 | [],L=> .refl L
 | q::l,L=>(HQ L q).trans (uL l _)
def lY(n:Int)(s:Sy)(L:LoI):(LoI.tb n s L).parts=L.parts:=by cases s<;>rfl
def Dh(n:Int)(s:Sy)(L:LoI):Px L (LoI.learn n s L):=by
 obtain⟨l,e⟩:=uL s.sg.ps L;exact⟨l,by unfold LoI.learn;rw[lY];exact e⟩
end
noncomputable def Sy.knK:Sy->List Kd
 | .every a b=>[a,b] | .no a b=>[a,b] | .thing _ k=>[k] | _=>[]
noncomputable def Sy.tiesL:Sy->List Str
 | .every a b=>Kd.tieL a++Kd.tieL b | .no a b=>Kd.tieL a++Kd.tieL b | .thing _ k=>Kd.tieL k | .tied _ t _=>[t] | .within r s=>[r,s] | .makes r s t=>[r,s,t]
def Kf:(("thing":Str)="kind")->False:=by decide+kernel
def K_:(("tie":Str)="kind")->False:=by decide+kernel
def Et{s:Sy}(h:q∈s.sg.ps)(e:q.1="kind"):q.2∈s.knK:=by
 cases s<;>simp only[Sy.sg,Sy.sorts,Sy.parts,xv,MG,aL,ai,cj] at h
 case every a b=>rcases h with rfl | rfl<;>simp[Sy.knK]
 case no a b=>rcases h with rfl | rfl<;>simp[Sy.knK]
 case thing x k=>
  rcases h with rfl | rfl
  · exact(Kf e).elim
  · simp[Sy.knK]
 case tied x t y=>rcases h with rfl | rfl | rfl<;>first | exact(Kf e).elim | exact(K_ e).elim
 case within x y=>rcases h with rfl | rfl<;>first | exact(Kf e).elim | exact(K_ e).elim
 case makes x y z=>rcases h with rfl | rfl | rfl<;>first | exact(Kf e).elim | exact(K_ e).elim
section
end
section
theorem nI:∀(l:List (Int × Sy)) (L:LoI),Px L (l.foldl (fun L q=>LoI.learn q.1 q.2 L) L)
 | [],L=> .refl L
 | q::l,L=>(Dh q.1 q.2 L).trans (nI l _)
theorem uK:∀(l:List Kd) (L:LoI),Px L (l.foldl (fun L k=>LoI.kk k L) L)
 | [],L=> .refl L
 | q::l,L=>(Gu q L).trans (uK l _)
def Jz(ps:List (Int × Sy))(fs:List Kd):Px LoI.init (LoI.of ps fs):=(nI ps _).trans (uK fs _)
def CV{ps:List (Int × Sy)}{Q:LoI->Prop}(hq:∀{L L':LoI},L'.parts=L.parts->L'.shapes=L.shapes->Q L->Q L')(h0:Q LoI.init){fs:List Kd}(hp:∀q∈ps,∀k∈q.2.knK,∀L,Q L->Q (LoI.num k L))(hf:∀k∈fs,∀L,Q L->Q (LoI.num k L)):Q (LoI.of ps fs):=by
 have kk:∀(k:Kd),(∀L,Q L->Q (LoI.num k L))->∀L,Q L->Q (LoI.kk k L):=fun k hk L h=>hq (LoI.know_rest k _).1 (LoI.know_rest k _).2 (hk L h);have inner:∀(s:Sy),(∀k∈s.knK,∀L,Q L->Q (LoI.num k L))->∀(l:List (Str × Kd)),(∀q∈l,q∈s.sg.ps)->∀L,Q L->Q (l.foldl LoI.kkp L):=fun s hs l=>by
  induction l with
  | nil=>intro _ L h;exact h
  | cons q l ih=>
    intro hl L h;refine ih (fun q' h'=>hl q' (aH _ h')) _ ?_;unfold LoI.kkp
    split
    · rename_i c;exact kk _ (hs _ (Et (hl q aO) c)) _ h
    · exact h
 have one:∀(n:Int) (s:Sy),(∀k∈s.knK,∀L,Q L->Q (LoI.num k L))->∀L,Q L->Q (LoI.learn n s L):=fun n s hs L h=>by
  unfold LoI.learn;refine hq (lY n s _) (by cases s<;>rfl) (inner s hs s.sg.ps (fun _ h=>h) L h)
 have lr:∀(l:List (Int × Sy)),(∀q∈l,q∈ps)->∀L,Q L->Q (l.foldl (fun L q=>LoI.learn q.1 q.2 L) L):=fun l=>by
  induction l with
  | nil=>intro _ L h;exact h
  | cons q l ih=>intro hl L h;exact ih (fun q' h'=>hl q' (aH _ h')) _ (one q.1 q.2 (hp q (hl q aO)) L h)
 have lf:∀(l:List Kd),(∀q∈l,q∈fs)->∀L,Q L->Q (l.foldl (fun L k=>LoI.kk k L) L):=fun l=>by
  induction l with
  | nil=>intro _ L h;exact h
  | cons q l ih=>intro hl L h;exact ih (fun q' h'=>hl q' (aH _ h')) _ (kk q (hf q (hl q aO)) L h)
 exact lf fs (fun _ h=>h) _ (lr ps (fun _ h=>h) _ h0)
def Dj{s:Sy}(h:k∈s.knK):∀r∈Kd.tieL k,r∈s.tiesL:=fun r hr=>by
 cases s with
 | every a b=>rcases(show k=a\/k=b by simpa[Sy.knK] using h) with rfl | rfl;exact aS _ hr;exact be _ hr
 | no a b=>rcases(show k=a\/k=b by simpa[Sy.knK] using h) with rfl | rfl;exact aS _ hr;exact be _ hr
 | thing x c=>obtain rfl:k=c:=by simpa[Sy.knK] using h
              exact hr
 | tied x t y=>simp[Sy.knK] at h
 | within x y=>simp[Sy.knK] at h
 | makes x y z=>simp[Sy.knK] at h
def ShT(ts:List Str)(L:LoI):Prop:=∀r j,Sh.some r j∈L.shapes->r∈ts
def ShT.num(ht:∀r∈Kd.tieL k,r∈ts)(h:ShT ts L):ShT ts (LoI.num k L):=fun r j hr=>by
 obtain⟨l,e,hl⟩:=LoI.num_shapes k L;rw[e] at hr;rcases aI.mp hr with hr | hr
 · exact h r j hr
 · exact ht r (hl r j hr)
def ShT.init:ShT ts LoI.init:=fun r j h=>by
 rw[sU] at h;have h':Sh.some r j∈([.no,.no]:List Sh):=h;simp at h'
def HB(ps:List (Int × Sy))(fs:List Kd):2<=(LoI.of ps fs).parts.length:=by
 have:=(Jz ps fs).le;rw[sU] at this;exact this
def HC(ps:List (Int × Sy))(fs:List Kd):(LoI.of ps fs).parts.length<=2+mY ps+j0 fs:=by
 have kk:∀(k:Kd) (L:LoI),(LoI.kk k L).parts.length<=L.parts.length+k.sz:=fun k L=>by unfold LoI.kk;rw[(LoI.know_rest k _).1];exact LoI.num_len k L
 have kp:∀(l:List (Str × Kd)) (L:LoI),(l.foldl LoI.kkp L).parts.length<=L.parts.length+(l.map fun p=>p.2.sz).sum:=fun l=>by
  induction l with
  | nil=>intro L;exact cR _ _
  | cons q l ih=>
    intro L;have h1:=ih (L.kkp q);have h2:(L.kkp q).parts.length<=L.parts.length+q.2.sz:=by
     unfold LoI.kkp
     split
     · exact kk _ _
     · lia
    rw[gz,bG,mV];lia
 have lr:∀(l:List (Int × Sy)) (L:LoI),(l.foldl (fun L q=>LoI.learn q.1 q.2 L) L).parts.length<=L.parts.length+mY l:=fun l=>by
  induction l with
  | nil=>intro L;exact cR _ _
  | cons q l ih=>
    intro L;have h1:=ih (LoI.learn q.1 q.2 L);have h2:(LoI.learn q.1 q.2 L).parts.length<=L.parts.length+q.2.szs:=by
     unfold LoI.learn;rw[lY];have tot:(q.2.sg.ps.map fun p=>p.2.sz).sum=q.2.szs:=by unfold Sy.szs;rw[<-iI,oX];rfl
     have:=kp q.2.sg.ps L;rw[tot] at this;exact this
    unfold mY at h1⊢;rw[gz,bG,mV];lia
 have lf:∀(l:List Kd) (L:LoI),(l.foldl (fun L k=>LoI.kk k L) L).parts.length<=L.parts.length+j0 l:=fun l=>by
  induction l with
  | nil=>intro L;exact cR _ _
  | cons q l ih=>
    intro L;have h1:=ih (LoI.kk q L);have h2:=kk q L;unfold j0 at h1⊢;rw[gz,bG,mV];lia
 have a:=lr ps LoI.init;have b:=lf fs (ps.foldl (fun L q=>LoI.learn q.1 q.2 L) LoI.init);have c:LoI.init.parts.length=2:=by rw[sU];rfl
 unfold LoI.of
 lia
end
section
theorem xn{Q:LoI->Prop}:∀(l:List Kd),(∀k∈l,∀L,Q L->Q (LoI.num k L))->∀(p:LS),Q p.1->Q (l.foldl jW p).1
 | [],_,_,h=>h
 | k::l,hk,p,h=>xn l (fun k' h'=>hk k' (aH _ h')) (jW p k) (hk k aO _ h)
theorem xl{Q:LoI->Prop}:∀(l:List (Int × Sy)),(∀q∈l,(∀x∈q.2.things,∀L,Q L->Q (LoI.num (.nm x) L))/\∀k∈q.2.knK,∀L,Q L->Q (LoI.num k L))->∀(p:LS),Q p.1->Q (l.foldl lH p).1
 | [],_,_,h=>h
 | q::l,hk,p,h=>by
   refine xl l (fun k' h'=>hk k' (aH _ h')) (lH p q) ?_;obtain⟨h1,h2⟩:=hk q aO;obtain⟨n,s⟩:=q;cases s with
   | thing x c=>exact h2 c (by simp[Sy.knK]) _ (h1 x (by simp[Sy.things]) _ h)
   | tied x t y=>exact h1 y (by simp[Sy.things]) _ (h1 x (by simp[Sy.things]) _ h)
   | every a b=>exact h
   | no a b=>exact h
   | within a b=>exact h
   | makes a b c=>exact h
def FC{Q:LoI->Prop}(hT:∀x,x∈Tn↔x∈jl ps)(h:Q p.1)(hk:∀k∈ks,∀L,Q L->Q (LoI.num k L))(hx:∀x∈jl ps,∀L,Q L->Q (LoI.num (.nm x) L))(hq:∀q∈ps,∀k∈q.2.knK,∀L,Q L->Q (LoI.num k L)):Q (dO ks Tn ps p).1:=by
 refine xl ps (fun q hq'=>⟨fun x hx'=>hx x (List.mem_flatten.mpr ⟨_,f_ (f:=fun q:Int × Sy=>q.2.things) hq',hx'⟩),hq q hq'⟩) _ (xn _ (fun k hk'=> ?_) p h);rcases aI.mp hk' with hk' | hk'
 · exact hk k hk'
 · obtain⟨x,hx',rfl⟩:=cc.mp hk';exact hx x ((hT x).mp hx')
end
def okP(sg:List Str)(k:Kd):Prop:=dA k=pB k/\(pB k=true->Mx k sg=true)
structure Ind(L:LoI)(Q:StI->Prop):Prop where
 is:∀{S:StI} (x k:Nat) (r:Str) (fr:List Int) (nn:Option Int),fr.length<=2->Q S->Q (StI.tellIs L S x k r fr nn)
 has:∀{S:StI} (x:Nat) (t:Str) (y:Nat) (r:Str) (fr:List Int) (nn:Option Int),fr.length<=2->Q S->Q (StI.tellHas L S x t y r fr nn)
def wu(i j:Int)(b:Bool):(AC i j b).length<=2:=by cases b<;>exact aq 2
section
variable {L:LoI}{Q:StI->Prop}(I:Ind L Q)(i:Nat){S:StI}
include I
theorem Ind.byNo(x:Nat)(e:Nat × Int × Bool)(h:Q S):Q (StI.byNo L i x S e):=by
 unfold StI.byNo
 split
 · exact I.is _ _ _ _ _ (wu ..) h
 · exact h
theorem Ind.byBoth(x:Nat)(e:Nat × Nat × Bool)(h:Q S):Q (StI.byBoth L i x S e):=by
 unfold StI.byBoth
 split
 · exact I.is _ _ _ _ _ (wu ..) h
 · exact h
theorem Ind.byEnd(y:Nat)(r t:Str)(k:Nat)(h:Q S):Q (StI.byEnd L i y r S t k):=cW h fun _ _ _ h=>I.is _ _ _ _ _ (aq 2) h
theorem Ind.byMk1(x y:Nat)(e:Str × Str × Int)(h:Q S):Q (StI.byMk1 L i x y S e):=cW h fun _ _ _ h=>I.has _ _ _ _ _ _ (aq 2) h
theorem Ind.byMk2(x y:Nat)(e:Str × Str × Int)(h:Q S):Q (StI.byMk2 L i x y S e):=cW h fun _ _ _ h=>I.has _ _ _ _ _ _ (aq 2) h
theorem Ind.fromPairs(x k:Nat)(h:Q S):Q (StI.fromPairs L S i x k):=cW (cW h fun _ e _ h=>I.byNo i x e h) fun _ e _ h=>I.byBoth i x e h
theorem Ind.fromKind(x k:Nat)(h:Q S):Q (StI.fromKind L S i x k):=by
 have h:Q ((L.everys k).foldl (fun S e=>StI.tellIs L S x e.1 "every" [(i:Int)] (some e.2)) S):=cW h fun _ _ _ h=>I.is _ _ _ _ _ (aY 1) h;unfold StI.fromKind;dsimp only
 split
 · exact I.is _ _ _ _ _ (aY 1) (I.is _ _ _ _ _ (aY 1) h)
 · exact I.has _ _ _ _ _ _ (aY 1) h
 · exact h
theorem Ind.fromEnd(y k:Nat)(h:Q S):Q (StI.fromEnd L S i y k):=by
 have h1:Q ((L.somes k).foldl (fun S e=>StI.byEnd L i y "tie" S e.1 e.2) S):=cW h fun _ _ _ h=>I.byEnd i y _ _ _ h;unfold StI.fromEnd;dsimp only
 split
 · exact cW h1 fun _ _ _ h=>I.byEnd i y _ _ _ h
 · exact h1
theorem Ind.fromTie(x:Nat)(t:Str)(y:Nat)(h:Q S):Q (StI.fromTie L S i x t y):=by
 have h:Q ((cG (rF L ((L.withins t).foldl (StI.byWi L i x y) S) x t y)).foldl (StI.byWh L i x t y) ((L.withins t).foldl (StI.byWi L i x y) S)):=cW (cW h fun _ _ _ h=>I.has _ _ _ _ _ _ (aY 1) h) fun _ _ _ h=>I.is _ _ _ _ _ (aq 2) h;unfold StI.fromTie;dsimp only
 split
 · exact I.is _ _ _ _ _ (aq 2) h
 · exact h
theorem Ind.fromChains(x:Nat)(t:Str)(y:Nat)(h:Q S):Q (StI.fromChains L S i x t y):=cW (cW h fun _ e _ h=>I.byMk1 i x y e h) fun _ e _ h=>I.byMk2 i x y e h
theorem Ind.turn(f:Fi)(h:Q S):Q (StI.turn L S i f):=by
 cases f with
 | is x k=>exact I.fromEnd i x k (I.fromPairs i x k (I.fromKind i x k h))
 | has x t y=>exact I.fromChains i x t y (I.fromTie i x t y h)
end
section
variable (L:LoI)(i:Nat)
theorem Le.ind(S:StI):Ind L (Le S):=⟨fun _ _ _ _ _ _ h=>h.trans (.tellIs ..),fun _ _ _ _ _ _ _ h=>h.trans (.tellHas ..)⟩
theorem Le.turn(S:StI)(f:Fi):Le S (StI.turn L S i f):=(Le.ind L S).turn i f (.refl S)
end
section
end
structure TV(F:LoI)(ts:List Str)(L:LoI):Prop where
 ev:∀k,∀e∈L.everys k,e.1<F.parts.length
 no:∀k,∀e∈L.nos k,e.1<F.parts.length
 wi:∀r,∀e∈L.withins r,e.1∈ts
 m1:∀r,∀e∈L.mk1 r,e.2.1∈ts
 m2:∀r,∀e∈L.mk2 r,e.2.1∈ts
 bo:∀k,∀e∈L.boths k,e.1<F.parts.length/\e.2.1<F.parts.length
 so:∀k,∀e∈L.somes k,e.2<F.parts.length
 fi:∀(r:Str) (m i:Nat),L.fillers r=some m->m.testBit i=true->∃k,L.wholes r i=some k/\k<F.parts.length/\i<F.parts.length
section
def jg{κ α:Type}[DecidableEq κ]{P:α->Prop}{f:κ->List α}{n:κ}{x:α}(h:∀i,∀e∈f i,P e)(hx:P x):∀i,∀e∈rQ f n x i,P e:=fun i e he=>(Fe he).elim (h i e) fun z=>z.2 ▸ hx
def TV.num(h:TV F ts L)(k:Kd):TV F ts (LoI.num k L):=by
 obtain⟨_,e1,e2,e3,e4,e5,e6,e7,e8,e9⟩:=LoI.num_rest k L;exact⟨by rw[e1];exact h.ev,by rw[e2];exact h.no,by rw[e3];exact h.wi,by rw[e4];exact h.m1,by rw[e5];exact h.m2,by rw[e6];exact h.bo,by rw[e7];exact h.so,by rw[e8,e9];exact h.fi⟩
def TV.kn'(h:TV F ts L)(i:Nat):TV F ts (L.kn i):=⟨h.ev,h.no,h.wi,h.m1,h.m2,h.bo,h.so,h.fi⟩
def TV.so'{F L:LoI}{ts:List Str}(h:TV F ts L){r:Str}{j k:Nat}(hj:j<F.parts.length)(hk:k<F.parts.length):TV F ts (L.so r j k):=by
 refine⟨h.ev,h.no,h.wi,h.m1,h.m2,h.bo,jg h.so hk,fun s m i h1 h2=> ?_⟩;have h1':xO L.fillers r ((L.fillers r).getD 0 ||| 2^j) s=some m:=h1;show ∃k',xN L.wholes r j k s i=some k'/\_;unfold xO at h1';unfold xN;by_cases c:s=r
 · subst c;rw[aK rfl] at h1';obtain rfl:_=m:=by simpa using h1'
   by_cases c2:i=j
   · subst c2;exact⟨k,aK ⟨rfl,rfl⟩,hk,hj⟩
   · rw[DR,ag (fun z=>c2 z.symm),IG] at h2;rw[aG (fun z=>c2 z.2)];cases hf:L.fillers s with
     | none=>rw[hf] at h2;simp at h2
     | some m'=>rw[hf] at h2;exact h.fi s m' i hf h2
 · rw[aG c] at h1';rw[aG (fun z=>c z.1)];exact h.fi s m i h1' h2
theorem TV.know:∀(k:Kd) {L:LoI},TV F ts L->L.parts.length<=F.parts.length->L.Ok->k∈L.parts->TV F ts (LoI.know k L)
 | .nm x,L,h,p,o,hm=>by
   rw[LoI.know]
   split
   · exact h
   · exact h.kn' _
 | .two a b,L,h,p,o,hm=>by
   rw[LoI.know]
   split
   · exact h
   · obtain⟨ha,hb,_⟩:=o.sh _ hm;have lt:∀{k:Kd},k∈L.parts->L.ix k<F.parts.length:=fun h=>ah (LoI.ix_lt h) p;have r1:=LoI.know_rest a (L.kn (L.ix (.two a b)));have h1:=TV.know a (h.kn' (L.ix (.two a b))) p (o.of rfl rfl) ha;generalize LoI.know a (L.kn (L.ix (.two a b)))=L1 at r1 h1⊢;have e1:L1.parts=L.parts:=r1.1;exact TV.know b (L:=L1.bo _ _ _) ⟨h1.ev,h1.no,h1.wi,h1.m1,h1.m2,jg (jg h1.bo ⟨lt hb,lt hm⟩) ⟨lt ha,lt hm⟩,h1.so,h1.fi⟩ (by show L1.parts.length<=_;rw[e1];exact p) (o.of r1.1 r1.2) (by show b∈L1.parts;rw[e1];exact hb)
 | .som r c,L,h,p,o,hm=>by
   rw[LoI.know]
   split
   · exact h
   · obtain⟨hc,_⟩:=o.sh _ hm;exact TV.know c (L:=(L.kn _).so r _ _) ((h.kn' _).so' (ah (LoI.ix_lt hc) p) (ah (LoI.ix_lt hm) p)) p (o.of rfl rfl) hc
def TV.kk{F L:LoI}{ts:List Str}(h:TV F ts L)(o:L.Ok){k:Kd}(p:Px (LoI.kk k L) F):TV F ts (LoI.kk k L):=TV.know k (h.num k) (p.of_eq (LoI.know_rest k _).1).le (LoI.num_ok k o) (LoI.num_has k L)
theorem TV.kks:∀(l:List (Str × Kd)) {L:LoI},TV F ts L->L.Ok->Px (l.foldl LoI.kkp L) F->TV F ts (l.foldl LoI.kkp L)
 | [],L,h,_,_=>h
 | q::l,L,h,o,p=>by
   refine TV.kks l ?_ (LoI.kkp_ok q o) p;have p1:=(uL l (L.kkp q)).trans p;unfold LoI.kkp at p1⊢
   split
   · rename_i c;rw[aK c] at p1;exact h.kk o p1
   · exact h
end
def HP{s:Sy}(h:k∈s.knK):((Str.ofString "kind",k):Str × Kd)∈s.sg.ps:=by
 cases s<;>simp only[Sy.knK,aL,ai,cj] at h
 · rcases h with rfl | rfl
   · exact aO
   · exact aH _ aO
 · rcases h with rfl | rfl
   · exact aO
   · exact aH _ aO
 · subst h;exact aH _ aO
def TV.learn{F L:LoI}{ts:List Str}(h:TV F ts L)(o:L.Ok){n:Int}{s:Sy}(p:Px (LoI.learn n s L) F)(ht:∀r∈s.tiesL,r∈ts):TV F ts (LoI.learn n s L):=by
 have p1:Px (LoI.kks s L) F:=p.of_eq (lY n s _);have h1:TV F ts (LoI.kks s L):=TV.kks s.sg.ps h o p1;have lt:∀{k:Kd},k∈s.knK->(LoI.kks s L).ix k<F.parts.length:=fun h=>ah (LoI.ix_lt (qJ L (HP h))) p1.le;obtain⟨z1,z2,z3,z4,z5,z6,z7,z8⟩:=h1;cases s with
 | every a b=>exact⟨jg z1 (lt (k:=b) (by simp[Sy.knK])),z2,z3,z4,z5,z6,z7,z8⟩
 | no a b=>exact⟨z1,jg (jg z2 (lt (k:=b) (by simp[Sy.knK]))) (lt (k:=a) (by simp[Sy.knK])),z3,z4,z5,z6,z7,z8⟩
 | within r s=>exact⟨z1,z2,jg z3 (ht s (by simp[Sy.tiesL])),z4,z5,z6,z7,z8⟩
 | makes r s t=>exact⟨z1,z2,z3,jg z4 (ht t (by simp[Sy.tiesL])),jg z5 (ht t (by simp[Sy.tiesL])),z6,z7,z8⟩
 | thing _ _=>exact⟨z1,z2,z3,z4,z5,z6,z7,z8⟩
 | tied _ _ _=>exact⟨z1,z2,z3,z4,z5,z6,z7,z8⟩
theorem TV.learns:∀(l:List (Int × Sy)) {L:LoI},TV F ts L->L.Ok->Px (l.foldl (fun L q=>LoI.learn q.1 q.2 L) L) F->(∀q∈l,∀r∈q.2.tiesL,r∈ts)->TV F ts (l.foldl (fun L q=>LoI.learn q.1 q.2 L) L)
 | [],L,h,_,_,_=>h
 | q::l,L,h,o,p,hq=>TV.learns l (h.learn o ((nI l _).trans p) (hq q aO)) (LoI.learn_ok _ _ o) p fun q' h'=>hq q' (aH _ h')
theorem TV.kkl:∀(l:List Kd) {L:LoI},TV F ts L->L.Ok->Px (l.foldl (fun L k=>LoI.kk k L) L) F->TV F ts (l.foldl (fun L k=>LoI.kk k L) L)
 | [],L,h,_,_=>h
 | k::l,L,h,o,p=>TV.kkl l (h.kk o ((uK l _).trans p)) (LoI.kk_ok k o) p
def HA(hq:∀q∈ps,∀r∈q.2.tiesL,r∈ts)(hk:∀k∈fs,∀r∈Kd.tieL k,r∈ts):(LoI.of ps fs).Wd ts:=by
 have e:∀{α:Type} {x:α},x∉([]:List α):=fun h=>ai h;have t0:TV (LoI.of ps fs) ts LoI.init:=by rw[sU];exact⟨fun _ _ h=>(e h).elim,fun _ _ h=>(e h).elim,fun _ _ h=>(e h).elim,fun _ _ h=>(e h).elim,fun _ _ h=>(e h).elim,fun _ _ h=>(e h).elim,fun _ _ h=>(e h).elim,fun _ _ _ h=>by cases h⟩
 have t:TV (LoI.of ps fs) ts (LoI.of ps fs):=TV.kkl fs (TV.learns ps t0 LoI.init_ok (uK fs _) hq) (jf (fun L q o=>LoI.learn_ok _ _ o) _ LoI.init_ok) (.refl _);have s:ShT ts (LoI.of ps fs):=CV (Q:=ShT ts) (fun _ e h=>by unfold ShT at h⊢;rw[e];exact h) ShT.init (fun q h k hk' L hL=>ShT.num (fun r hr=>hq q h r (Dj hk' r hr)) hL) (fun k hk' L hL=>ShT.num (hk k hk') hL);exact⟨t.ev,t.no,t.wi,t.m1,t.m2,t.bo,t.so,t.fi,fun i r j h=>s r j (av h)⟩
def Ct(F L:LoI):Kd->Prop
 | .nm _=>True
 | .two a b=>(F.ix b,F.ix (.two a b),true)∈L.boths (F.ix a)/\(F.ix a,F.ix (.two a b),false)∈L.boths (F.ix b)
 | .som r c=>(r,F.ix (.som r c))∈L.somes (F.ix c)/\(∃m,L.fillers r=some m/\m.testBit (F.ix c)=true)/\L.wholes r (F.ix c)=some (F.ix (.som r c))
structure Mk(F L L':LoI):Prop where
 kn:∀i∈L.known,i∈L'.known
 ct:∀k∈F.parts,Ct F L k->Ct F L' k
section
end
structure Rl(L:LoI)(S:StI):Prop where
 rel:S.steps.map (·.f)=S.facts.map (DC L)
 fr:∀s∈S.steps,s.fr.length<=2
section
def Rl.keep{L:LoI}{S:StI}(h:Rl L S)(f:Fi)(r:Str){fr:List Int}(nn:Option Int)(hf:fr.length<=2):Rl L (S.keep f ⟨DC L f,r,fr,nn⟩):=by
 refine⟨?_,fun s hs=> ?_⟩
 · show(S.steps++[_]).map _=(S.facts++[f]).map _;rw[bC,bC,h.rel];rfl
 · rcases aI.mp hs with hs | hs
   · exact h.fr s hs
   · rw[ay.mp hs];exact hf
def Rl.tellIs(h:Rl L S)(x k:Nat)(r:Str)(fr:List Int)(nn:Option Int)(hf:fr.length<=2):Rl L (StI.tellIs L S x k r fr nn):=by
 unfold StI.tellIs
 split
 · exact h
 · exact h.keep (.is x k) r nn hf
def Rl.letStand(h:Rl L S)(x:Nat):Rl L (StI.letStand L S x):=by
 unfold StI.letStand
 split
 · exact h
 · refine Rl.tellIs ?_ x 0 "all" [] none (au _);have h1:Rl L (S.addS x):=⟨h.rel,h.fr⟩
   split
   · exact h1
   · exact h1.tellIs x x "self" [] none (au _)
def Rl.ind(L:LoI):Ind L (Rl L):=⟨fun x k r fr nn hf h=>h.tellIs x k r fr nn hf,fun x t y r fr nn hf h=>by
 unfold StI.tellHas
 split
 · exact h
 · exact(h.keep (.has x t y) r nn hf).letStand y⟩
def Sf(L:LoI)(S:StI):Prop:=∀i∈S.stand,dA (L.pt i)=true\/Fi.is i i∈S.facts
def Sf.letStand(h:Sf L S)(x:Nat):Sf L (StI.letStand L S x):=by
 unfold StI.letStand
 split
 · exact h
 · intro i hi;have t0:=fun S=>cO L S x 0 "all" [] none;have t1:=cO L (S.addS x) x x "self" [] none;rw[(t0 _).2.1] at hi;by_cases c:dA (L.pt x)=true
   · rw[aK c] at hi⊢;rcases aI.mp hi with hi | hi
     · exact(h i hi).imp id fun z=>(t0 _).1 _ z
     · rw[ay.mp hi];exact .inl c
   · rw[aG c] at hi⊢;rw[t1.2.1] at hi;rcases aI.mp hi with hi | hi
     · exact(h i hi).imp id fun z=>(t0 _).1 _ (t1.1 _ z)
     · rw[ay.mp hi];exact .inr ((t0 _).1 _ t1.2.2)
def Sf.ind(L:LoI):Ind L (Sf L):=⟨fun x k r fr nn hf h i hi=>by
 obtain⟨a,b,_⟩:=cO L _ x k r fr nn;rw[b] at hi;exact(h i hi).imp id (a _),fun x t y r fr nn hf h=>by
 unfold StI.tellHas
 split
 · exact h
 · refine Sf.letStand ?_ y;intro i hi;exact(h i hi).imp id fun z=>aS _ z⟩
def Fs{L:LoI}{S:StI}{Q:StI->Prop}(I:Ind L Q){S0:StI}{n:Nat}(r:Al L S0 n S)(h:Q S0):Q S:=by
 induction r with
 | zero=>exact h
 | step _ _ ih=>exact I.turn _ _ ih
def Aj(I:Ind L Q)(q:Int × Sy)(h:Q S):Q (yQ L S q):=by
 unfold yQ
 split
 · exact I.is _ _ _ _ _ (au _) h
 · exact I.has _ _ _ _ _ _ (au _) h
 · exact h
def JQ(ks:List Kd)(ps:List (Int × Sy)):Rl L (ps.foldl (yQ L) (ks.foldl (DS L) StI.emp))/\Sf L (ps.foldl (yQ L) (ks.foldl (DS L) StI.emp)):=⟨cW (cW ⟨rfl,fun _ h=>(ai h).elim⟩ fun _ _ _ h=>h.letStand _) fun _ q _ h=>Aj (Rl.ind L) q h,cW (P:=Sf L) (cW (P:=Sf L) (fun _ h=>(ai h).elim) fun _ _ _ h=>h.letStand _) fun _ q _ h=>Aj (Sf.ind L) q h⟩
end
def EF(r:Al L S0 i S)(hi:S.facts.length<=i)(r':Al L S0 j S')(hj:S'.facts.length<=j):S=S':=by
 have det:∀{i:Nat} {S:StI},Al L S0 i S->∀{S':StI},Al L S0 i S'->S=S':=fun {i S} r=>by
  induction r with
  | zero=>intro S' r';cases r';rfl
  | step _ e ih=>
    intro S' r';cases r' with
    | step r2 e2=>cases ih r2;rw[e] at e2;cases e2;rfl
 have bnd:∀{i:Nat} {S:StI},Al L S0 i S->i<=S.facts.length:=fun {i S} r=>by
  induction r with
  | zero=>exact au _
  | step _ e ih=>exact ah (bp.mp ((Le.turn ..).fa _ _ e)).1 (aq _)
 have stop:∀{i j:Nat} {S S':StI},Al L S0 i S->S.facts.length<=i->Al L S0 j S'->j<=i:=fun {i j S S'} r hi r'=>by
  induction r' with
  | zero=>exact au _
  | @step m T f r2 e ih=>
    rcases fP m i with h | h
    · exact h
    · have:m=i:=by lia
      subst this;cases det r r2;have:=(bp.mp e).1
      lia
 have h1:=stop r hi r';have h2:=stop r' hj r;have:i=j:=by lia
 subst this;exact det r r'
def As(a:rn ts ps ks fs Tn S)(b:rn ts ps ks fs Tn' S'):S=S':=by
 obtain⟨i,r,hi⟩:=a.rch;obtain⟨j,r',hj⟩:=b.rch;rw[a.tn.1] at r;rw[b.tn.1] at r';exact EF r hi r' hj
def jc(hp:H p=none)(ha:IsK H x a)(hb:IsK H k b):IsF (upd H p (.tup [.str "is",a,b])) (.is x k) (.ref p):=⟨p,a,b,rfl,ae,ha.mono (lX hp),hb.mono (lX hp)⟩
def wY(hp:H p=none)(ha:IsK H x a)(hb:IsK H y b):IsF (upd H p (.tup [.str "has",a,.str t,b])) (.has x t y) (.ref p):=⟨p,a,b,rfl,ae,ha.mono (lX hp),hb.mono (lX hp)⟩
section
end
section
end
section
end
section
end
section
end
theorem kg:∀l:List Str,(l.map V.str).all jS=true
 | []=>rfl
 | _::l=>by rw[bG,fq,kg l];rfl
theorem uQ(x:Str):∀l:List Str,BC (.str x) (l.map V.str)=decide (x∈l)
 | []=>by simp[BC]
 | y::l=>by
   have ih:=uQ x l;unfold BC at ih⊢;rw[bG,iQ,ih];by_cases c:y=x
   · subst c;simp[DF]
   · have c':¬ x=y:=fun z=>c z.symm;simp[DF,c,c']
inductive vR(K:Frag)(vs:List V)(H:Hp)(Q:VK):Prop
 | mk:∀(a:Addr) (ns:List Int) (i:Int),(vs=[.ref a,.int i])->(SqL K H a (ns.map V.int))->(0<=i)->(∀r:Int,Q (.int r) H)->vR K vs H Q
def B0(K:Frag):Sp:=fun vs H Q _=>vR K vs H Q
section
def GZ:bb Cg Cg (aJ Ca):=fS
def E9(F:Fun K "_law_cell" "_law_cell" Ca f fd)(ml:mg "len"=none):bK P w K mg base eJ 1 f fd Cg (B0 K):=by
 refine F.o GZ fun cdv A outer s H vs Q E hr h=> ?_;obtain⟨a,ns,i,rfl,hS,h0,q⟩:=h;refine⟨_,aZ (by exact bH (uf mB bu (dN mO rfl ml FN (cB aC bO)) (uB _)) (fT (ip (kK bS aC bu (fun _ _=>rfl)))) br) (bg (by exact ip aD)),?_⟩;refine⟨a,_,rfl,.inl hS,gJ (fun h=> ?_) (fun h=>q 0)⟩;have h':i<((ns.map V.int).length:Int):=ck h;rw[aw] at h';have hi:i.toNat<ns.length:=by lia
 have z:rB (ns.map V.int) ((i.toNat:Nat):Int)=some (.int ns[i.toNat]):=aX (by rw[aV,aE hi];rfl);rw[show((i.toNat:Nat):Int)=i by lia] at z;exact⟨_,_,hS,z,q _⟩
end
noncomputable def kept:List Str:=["anything","nothing","every","no","is","tie","within","then","makes","both","some"]
noncomputable abbrev az:Str:="abcdefghijklmnopqrstuvwxyz"
noncomputable def Dx(i:Nat):Bool:=i==2 || i==3 || i==5 || i==9 || i==11 || i==15 || i==16 || i==20 || i==23 || i==25
def Dv:∀w'∈kept,∀c∈w'.cps.toList,Dx (c - 97)=false:=by decide+kernel
def Dw(hc:c∈z.cps.toList)(hg:Dx (c - 97)=true):BC (.str z) (kept.map V.str)=false:=by
 cases e:BC (.str z) (kept.map V.str) with
 | false=>rfl
 | true=>
   exfalso
   unfold BC at e;rw[nW] at e;obtain⟨y,hy,e⟩:=e;obtain⟨w',hw,rfl⟩:=cc.mp hy;have:w'=z:=by simpa[DF] using e
   subst this;have:=Dv w' hw c hc;rw[this] at hg;cases hg
def JR{i:Nat}(h:i<26):rB (az).cps.toList (i:Int)=some (97+i):=by
 have e:(az).cps.toList=List.range' 97 26:=by decide+kernel
 rw[e];exact aX (by rw[List.getElem?_range' h];simp)
def DT:(az).length=26:=by decide+kernel
def Bj:(kept.map V.str).all jS=true:=by decide+kernel
def Bz(z:Str):Prop:=∀c∈z.cps.toList,97<=c/\c<=122
def Ep:Bz ⟨#[]⟩:=fun c h=>by simp at h
def pz(ha:Bz a)(hb:Bz b):Bz (a++b):=fun c h=>by
 rw[rR] at h;simp only[Array.toList_append,aI] at h;exact h.elim (ha c) (hb c)
def j4(h:Bz z):Bz (Txt.slice z lo hi):=fun c hc=>by
 rw[gN] at hc;exact h c (List.mem_of_mem_drop (List.mem_of_mem_take hc))
def vW(h:j<26):Bz ⟨#[97+j]⟩:=fun c hc=>by
 have:c=97+j:=by simpa using hc
 lia
def uH{a:Str}(h:c∈a.cps.toList\/c∈b.cps.toList):c∈(a++b).cps.toList:=by
 rw[rR];simpa using h
def wd(z:Str):Prop:=1<=z.length/\z.length<=12/\Bz z
def qe(z:Str)(k:Nat):(Txt.slice z none (some (k:Int))).length=min k z.length:=by
 have e:=congrArg List.length (gN z none (some (k:Int)));have hz:z.cps.toList.length=z.length:=by simp[Str.length]
 have hs:(Txt.slice z none (some (k:Int))).cps.toList.length=(Txt.slice z none (some (k:Int))).length:=by simp[Str.length]
 rw[hs,cS,iM,hz,HT.sIx_nat] at e;have e2:HT.sIx z.length 0 none=0:=rfl;rw[e2] at e
 lia
def kX(z:Str)(k:Nat):(Txt.slice z (some (k:Int)) none).length=z.length - k:=by
 have e:=congrArg List.length (gN z (some (k:Int)) none);have hz:z.cps.toList.length=z.length:=by simp[Str.length]
 have hs:(Txt.slice z (some (k:Int)) none).cps.toList.length=(Txt.slice z (some (k:Int)) none).length:=by simp[Str.length]
 rw[hs,cS,iM,hz,HT.sIx_nat] at e;have e2:HT.sIx z.length z.length none=z.length:=rfl;rw[e2] at e
 lia
noncomputable def lg(z:Str)(k:Nat)(c:Nat):Str:=Txt.slice z none (some (k:Int))++⟨#[c]⟩++Txt.slice z (some ((k:Int)+1)) none
def AS(hz:Bz z)(hl:z.length<=12)(hk:k<z.length)(h1:97<=c)(h2:c<=122):wd (lg z k c):=by
 have e1:=qe z k;have e2:=kX z (k+1);rw[show(((k+1:Nat):Int))=(k:Int)+1 by lia] at e2;have e3:(lg z k c).length=(Txt.slice z none (some (k:Int))).length+1+(Txt.slice z (some ((k:Int)+1)) none).length:=by
  unfold lg;rw[bw,bw];rfl
 refine⟨by lia,by lia,pz (pz (j4 hz) ?_) (j4 hz)⟩;intro d hd;have:d=c:=by simpa using hd
 lia
def yv(z:Str)(k c:Nat):c∈(lg z k c).cps.toList:=uH (.inl (uH (.inr (by simp))))
def thg(z:Str):Prop:=z.length<=12/\∃c r,z.cps.toList=c::r/\65<=c/\c<=90/\∀d∈r,97<=d/\d<=122
def GO(h1:65<=c)(h2:c<=90)(hl:e.length<=11)(hs:Bz e):thg ((⟨#[c]⟩:Str)++e):=by
 refine⟨?_,c,e.cps.toList,?_,h1,h2,fun d hd=>hs d hd⟩
 · rw[bw];show 1+_<=12;lia
 · rw[rR];simp
def mT(ws ts:List Str):Kd->Prop
 | .nm t=>t∈ws\/t="anything"\/t="nothing"
 | .two a b=>mT ws ts a/\mT ws ts b
 | .som r c=>r∈ts/\mT ws ts c
def ze{ws:List Str}(h0:0<=r)(h1:r<(ws.length:Int)):∃z∈ws,rB (ws.map V.str) r=some (.str z):=by
 have hj:r.toNat<ws.length:=by lia
 refine⟨ws[r.toNat],iO hj,?_⟩;have z:rB (ws.map V.str) ((r.toNat:Nat):Int)=some (.str ws[r.toNat]):=aX (by rw[aV,aE hj];rfl)
 rwa [show((r.toNat:Nat):Int)=r by lia] at z
def dk(k:Kd):Prop:=k.dep<=2/\k.sz<=7/\AX k/\dA k=pB k
def ux{s:Sy}(h:∀k∈s.parts,k.dep<=2/\k.sz<=7):s.okS:=⟨fun k hk=>ao (h k hk).2 (by decide),fun k hk=>ao (h k hk).1 (by decide)⟩
def AN(ha:dk a)(hb:dk b):(Sy.every a b).okS:=ux fun k hk=>by
 simp only[Sy.parts,aL,ai,cj] at hk;rcases hk with rfl | rfl
 · exact⟨ha.1,ha.2.1⟩
 · exact⟨hb.1,hb.2.1⟩
def Hz(ha:dk a)(hb:dk b):(Sy.no a b).okS:=ux fun k hk=>by
 simp only[Sy.parts,aL,ai,cj] at hk;rcases hk with rfl | rfl
 · exact⟨ha.1,ha.2.1⟩
 · exact⟨hb.1,hb.2.1⟩
def Gj(x:Str):(Kd.nm x).dep<=2/\(Kd.nm x).sz<=7:=⟨au _,by show 1<=7;decide⟩
def AL(hb:dk b):(Sy.thing x b).okS:=ux fun k hk=>by
 simp only[Sy.parts,aL,ai,cj] at hk;rcases hk with rfl | rfl
 · exact Gj _
 · exact⟨hb.1,hb.2.1⟩
def uy{s:Sy}(h:∀k∈s.parts,∃x,k= .nm x):s.okS:=ux fun k hk=>by
 obtain⟨x,rfl⟩:=h k hk;exact Gj x
def CU(x t y:Str):(Sy.tied x t y).okS:=uy fun k hk=>by
 simp only[Sy.parts,aL,ai,cj] at hk;rcases hk with rfl | rfl | rfl<;>exact⟨_,rfl⟩
def yt(x t:Str):(Sy.within x t).okS:=uy fun k hk=>by
 simp only[Sy.parts,aL,ai,cj] at hk;rcases hk with rfl | rfl<;>exact⟨_,rfl⟩
def AM(x t y:Str):(Sy.makes x t y).okS:=uy fun k hk=>by
 simp only[Sy.parts,aL,ai,cj] at hk;rcases hk with rfl | rfl | rfl<;>exact⟨_,rfl⟩
def sl2(z:Str):(Txt.slice z none (some 1)).cps.toList=z.cps.toList.take 1:=by
 rw[gN];have hz:z.cps.toList.length=z.length:=by simp[Str.length]
 have e:HT.sIx z.length z.length (some 1)=min 1 z.length:=HT.sIx_nat z.length z.length 1;have e2:HT.sIx z.length 0 none=0:=rfl;rw[e,e2,FP,Nat.sub_zero];rcases xu z.length with h | h
 · have:z.cps.toList=[]:=BE (by lia);rw[this];simp
 · have:min 1 z.length=1:=by lia
   rw[this]
def kM(h:t.cps.toList=c::r)(hc:c<128):D8 t=decide (65<=c/\c<=90):=by
 have e:Txt.slice t none (some 1)=⟨#[c]⟩:=by
  have:=sl2 t;rw[h] at this;have e2:(Txt.slice t none (some 1)).cps.toList=[c]:=this;cases hs:Txt.slice t none (some 1) with
  | mk a=>
    rw[hs] at e2
    congr 1
    exact Array.toList_inj.mp e2
 have big:∀c,c<128->Txt.isupper ⟨#[c]⟩=decide (65<=c/\c<=90):=by decide+kernel
 unfold D8;rw[e,big c hc]
def hX(t:Str):t.cps.toList.length=t.length:=by simp[Str.length]
def Gy(h:wd t):dk (.nm t):=by
 obtain⟨h1,h2,h3⟩:=h;refine⟨au _,by show 1<=7;decide,by show t.length<=1000;lia,?_⟩;show eM t=D8 t;cases e:t.cps.toList with
 | nil=>have:=hX t;rw[e] at this;simp at this;lia
 | cons c r=>
   obtain⟨c1,c2⟩:=h3 c (by rw[e];simp);rw[kM e (by lia),ag (by lia)];unfold eM;rw[e];have:jV c=false:=by unfold jV;exact ag (by lia)
   show(qQ t&&(jV c&&r.all dI))=false;rw[this,rV,hJ]
def DJ(h:thg t):dk (.nm t):=by
 obtain⟨h1,c,r,e,c1,c2,h3⟩:=h;refine⟨au _,by show 1<=7;decide,by show t.length<=1000;lia,?_⟩;show eM t=D8 t;rw[kM e (by lia),ax ⟨c1,c2⟩];unfold eM qQ;have hl:=hX t;rw[e] at hl;simp only[bj] at hl;rw[e,ax (show 1<=t.length by lia),ax h1];have b1:jV c=true:=by unfold jV;exact ax ⟨c1,c2⟩
 have b2:r.all dI=true:=dU.mpr fun d hd=>by unfold dI;exact ax (h3 d hd)
 show(true&&true&&(jV c&&r.all dI))=true;rw[b1,b2];rfl
def dk_anyK:dk (.nm "anything"):=⟨au _,by show 1<=7;decide,by show(Str.ofString "anything").length<=1000;decide+kernel,by
 show eM "anything"=D8 "anything";rw[kM (c:=97) (r:=[110,121,116,104,105,110,103]) (by decide+kernel) (by decide)]
 decide+kernel⟩
def dk_nothK:dk (.nm "nothing"):=⟨au _,by show 1<=7;decide,by show(Str.ofString "nothing").length<=1000;decide+kernel,by
 show eM "nothing"=D8 "nothing";rw[kM (c:=110) (r:=[111,116,104,105,110,103]) (by decide+kernel) (by decide)]
 decide+kernel⟩
theorem iF:∀k:Kd,k.sz<=2 * k.nt+1
 | .nm _=>by simp[Kd.nt,Kd.sz]
 | .two a b=>by have:=iF a;have:=iF b;simp only[Kd.nt,Kd.sz];lia
 | .som _ c=>by have:=iF c;simp only[Kd.nt,Kd.sz];lia
def Fz(hn:k.nt+1<=2^2)(hd:k.dep<=2)(hi:mT ws ts k)(hw:∀z∈ws,dk (.nm z)):dk k:=by
 have:=iF k;have hs:k.sz<=7:=by lia
 cases k with
 | nm t=>
   rcases hi with h | h | h
   · exact hw t h
   · rw[h];exact dk_anyK
   · rw[h];exact dk_nothK
 | two a b=>exact⟨hd,hs,trivial,rfl⟩
 | som r c=>exact⟨hd,hs,trivial,rfl⟩
def JI{ts:List Str}(e:ts.length=3):∃a b c,ts=[a,b,c]:=by
 match ts,e with
 | [a,b,c],_=>exact⟨a,b,c,rfl⟩
def rN(K:Frag):kitOne K (.type "bool") (.type "bool")=some true:=by
 first | rfl | decide | with_unfolding_all rfl
def Cy{ps:List (Int × Sy)}(h:∀q∈ps,q.2.lo 25):(Tx.lst (ps.map IK)).dp<=60:=by
 have:lS (ps.map IK)<=50:=yV fun d hd=>by
  obtain⟨q,hq,rfl⟩:=cc.mp hd;have h1:lS (Tx.str (vo q.2.hd)::q.2.parts.map Kd.tx)<=25:=yV fun d hd=>by
   rcases aL.mp hd with rfl | hd
   · exact au _
   · obtain⟨k,hk,rfl⟩:=cc.mp hd;rw[Kd.tx_dp];exact h q hq k hk
  show 1+max 0 (max (1+lS (Tx.str (vo q.2.hd)::q.2.parts.map Kd.tx)) 0)<=50
  lia
 show 1+lS _<=60
 lia
section
end
def dn(ws ts:List Str)(k:Kd):Prop:=dk k/\k.nt<=3/\mT ws ts k
def Ad(hn:k.nt+1<=2^2)(hd:k.dep<=2)(hi:mT ws ts k)(hw:∀z∈ws,dk (.nm z)):dn ws ts k:=⟨Fz hn hd hi hw,by lia,hi⟩
def dS(ws ts hs:List Str):Sy->Prop
 | .every a b=>dn ws ts a/\dn ws ts b
 | .no a b=>dn ws ts a/\dn ws ts b
 | .thing x k=>(x∈hs/\dk (.nm x))/\dn ws ts k
 | .tied x t y=>(x∈hs/\dk (.nm x))/\(y∈hs/\dk (.nm y))/\t∈ts
 | .within r s=>r∈ts/\s∈ts
 | .makes r s t=>r∈ts/\s∈ts/\t∈ts
theorem dS.okS:∀{s:Sy},dS ws ts hs s->s.okS
 | .every _ _,h=>AN h.1.1 h.2.1
 | .no _ _,h=>Hz h.1.1 h.2.1
 | .thing _ _,h=>AL h.2.1
 | .tied _ _ _,_=>CU _ _ _
 | .within _ _,_=>yt _ _
 | .makes _ _ _,_=>AM _ _ _
def eR(ht:H t=none)(k:KL H xs s.parts):IsSy (upd H t (.tup (.str (vo s.hd)::xs))) s (.ref t):=⟨t,xs,rfl,ae,KL.mono (af ht _).tups k⟩
def Jl(h:Paired (IsSt T H) vs ss):LY [] H vs ss:=Paired.imp' (fun v s ⟨p,pf,vf,e,h1,h2,h3,_⟩=>⟨p,pf,vf,e,h1,h2,h3,ai⟩) h
def BY(k:Kd):Prop:=dA k=false/\pB k=false
def gK(ts:List Str)(k:Kd):Prop:=oB k/\k.nt<=20/\k.dep<=20/\k.sz<=60/\(∀r∈Kd.tieL k,r∈ts)/\GE BY k
def fQ(h:wd t):fW t=true:=by
 obtain⟨h1,h2,h3⟩:=h;unfold fW;rw[ax h1,ax h2];refine dU.mpr fun c hc=> ?_;obtain⟨c1,c2⟩:=h3 c hc;unfold mI
 first
 | exact ax (Or.inr ⟨c1,c2⟩)
 | (simp only[D7,dy];lia)
def jx(h:thg t):fW t=true:=by
 obtain⟨h1,c,r,e,c1,c2,h3⟩:=h;have hl:=hX t;rw[e] at hl;simp only[bj] at hl;unfold fW;rw[ax (show 1<=t.length by lia),ax h1];refine dU.mpr fun d hd=> ?_;rw[e] at hd;have:65<=d/\d<=90\/97<=d/\d<=122:=by
  rcases aL.mp hd with rfl | hd
  · exact .inl ⟨c1,c2⟩
  · exact .inr (h3 d hd)
 unfold mI
 first
 | exact ax this
 | (simp only[D7,dy];lia)
def GJ(h:wd t):BY (.nm t):=by
 obtain⟨h1,h2,h3⟩:=h;have hs:D8 t=false:=by
  cases e:t.cps.toList with
  | nil=>have:=hX t;rw[e] at this;simp at this;lia
  | cons c r=>
    obtain⟨c1,c2⟩:=h3 c (by rw[e];simp);rw[kM e (by lia),ag (by lia)]
 have:=(Gy ⟨h1,h2,h3⟩).2.2.2;exact⟨this.trans hs,hs⟩
def DU:D8 "anything"=false:=by
 rw[kM (c:=97) (r:=[110,121,116,104,105,110,103]) (by decide+kernel) (by decide)];decide
def zV:D8 "nothing"=false:=by
 rw[kM (c:=110) (r:=[111,116,104,105,110,103]) (by decide+kernel) (by decide)];decide
def FI:BY (.nm "anything"):=⟨dk_anyK.2.2.2.trans DU,DU⟩
def CY:BY (.nm "nothing"):=⟨dk_nothK.2.2.2.trans zV,zV⟩
theorem uC(hw:∀z∈ws,wd z):∀{k:Kd},mT ws ts k->GE BY k
 | .nm t,h=>by
   rcases h with h | h | h
   · exact GJ (hw t h)
   · rw[h];exact FI
   · rw[h];exact CY
 | .two a b,h=>⟨⟨rfl,rfl⟩,uC hw h.1,uC hw h.2⟩
 | .som r c,h=>⟨⟨rfl,rfl⟩,uC hw h.2⟩
theorem uD(hw:∀z∈ws,wd z)(ht:∀z∈ts,wd z):∀{k:Kd},mT ws ts k->oB k
 | .nm t,h=>by
   rcases h with h | h | h
   · exact fQ (hw t h)
   · rw[h];show fW _=true;decide+kernel
   · rw[h];show fW _=true;decide+kernel
 | .two a b,h=>⟨uD hw ht h.1,uD hw ht h.2⟩
 | .som r c,h=>⟨fQ (ht r h.1),uD hw ht h.2⟩
theorem ja:∀{k:Kd},mT ws ts k->∀r∈Kd.tieL k,r∈ts
 | .nm t,_,r,hr=>by cases hr
 | .two a b,h,r,hr=>(aI.mp hr).elim (ja h.1 r) (ja h.2 r)
 | .som t c,h,r,hr=>(aL.mp hr).elim (fun e=>e ▸ h.1) (ja h.2 r)
def Aa(hw:∀z∈ws,wd z)(ht:∀z∈ts,wd z)(h:mT ws ts k)(nt:k.nt<=20)(dp:k.dep<=20):gK ts k:=⟨uD hw ht h,nt,dp,by have:=iF k;lia,ja h,uC hw h⟩
def gP(k:Kd):Prop:=oB k/\k.dep<=20/\k.sz<=60
theorem uT:∀{k:Kd},gP k->GE gP k
 | .nm _,h=>h
 | .two a b,h=>by
   obtain⟨h1,h2,h3⟩:=id h;have e2:1+max a.dep b.dep<=20:=h2;simp only[Kd.sz] at h3;exact⟨h,uT ⟨h1.1,by lia,by lia⟩,uT ⟨h1.2,by lia,by lia⟩⟩
 | .som r c,h=>by
   obtain⟨h1,h2,h3⟩:=id h;have e2:1+c.dep<=20:=h2;simp only[Kd.sz] at h3;exact⟨h,uT ⟨h1.2,by lia,by lia⟩⟩
def gK.gP{ts:List Str}{k:Kd}(h:gK ts k):gP k:=⟨h.1,h.2.2.1,h.2.2.2.1⟩
def gP.len(h:gP k):AX k:=by
 cases k with
 | nm t=>exact ao (gS h.1).2.1 (by decide)
 | two a b=>trivial
 | som r c=>trivial
structure LawD(ts hs:List Str)(ps:List (Int × Sy))(ks fs:List Kd):Prop where
 ht:∀z∈ts,wd z
 lt:ts.length<=3
 hh:∀z∈hs,thg z
 pq:∃ws:List Str,(∀z∈ws,wd z)/\∀q∈ps,dS ws ts hs q.2
 pk:∀k∈ks,gK ts k
 pf:∀k∈fs,gK ts k
 l24:ps.length<=6
 sq:mY ps<=84
 sk:j0 ks<=15
 sf:j0 fs<=7
section
def dS.kn(hw:∀z∈ws,wd z)(ht:∀z∈ts,wd z)(h:dS ws ts hs s):∀k∈s.knK,gK ts k/\k.sz<=7:=by
 have g:∀{k:Kd},dn ws ts k->gK ts k/\k.sz<=7:=fun {k} ⟨h1,h2,h3⟩=>⟨Aa hw ht h3 (by lia) (ao h1.1 (by decide)),h1.2.1⟩;intro k hk;cases s<;>simp only[Sy.knK,aL,ai,cj] at hk
 · rcases hk with rfl | rfl
   · exact g h.1
   · exact g h.2
 · rcases hk with rfl | rfl
   · exact g h.1
   · exact g h.2
 · subst hk;exact g h.2
def dS.parts{ts hs ws:List Str}{s:Sy}(hw:∀z∈ws,wd z)(ht:∀z∈ts,wd z)(hh:∀z∈hs,thg z)(h:dS ws ts hs s):∀k∈s.parts,gP k/\k.nt<=20/\k.sz<=7/\∀r∈Kd.tieL k,r∈ts:=by
 have kn:=dS.kn hw ht h;have g:∀{k:Kd},k∈s.knK->gP k/\k.nt<=20/\k.sz<=7/\∀r∈Kd.tieL k,r∈ts:=fun {k} hk=>⟨(kn k hk).1.gP,(kn k hk).1.2.1,(kn k hk).2,(kn k hk).1.2.2.2.2.1⟩;have n:∀{x:Str},fW x=true->gP (.nm x)/\(Kd.nm x).nt<=20/\(Kd.nm x).sz<=7/\∀r∈Kd.tieL (.nm x),r∈ts:=fun {x} hx=>⟨⟨hx,au _,by show 1<=60;decide⟩,au _,by show 1<=7;decide,fun r hr=>by cases hr⟩;intro k hk;cases s<;>simp only[Sy.parts,aL,ai,cj] at hk
 · exact g (by simpa[Sy.knK] using hk)
 · exact g (by simpa[Sy.knK] using hk)
 · rcases hk with rfl | rfl
   · exact n (jx (hh _ h.1.1))
   · exact g (by simp[Sy.knK])
 · rcases hk with rfl | rfl | rfl
   · exact n (jx (hh _ h.1.1))
   · exact n (fQ (ht _ h.2.2))
   · exact n (jx (hh _ h.2.1.1))
 · rcases hk with rfl | rfl
   · exact n (fQ (ht _ h.1))
   · exact n (fQ (ht _ h.2))
 · rcases hk with rfl | rfl | rfl
   · exact n (fQ (ht _ h.1))
   · exact n (fQ (ht _ h.2.1))
   · exact n (fQ (ht _ h.2.2))
def dS.ties(h:dS ws ts hs s):∀r∈s.tiesL,r∈ts:=by
 intro r hr;cases s<;>simp only[Sy.tiesL,aI,aL,ai,cj] at hr
 · exact hr.elim (ja h.1.2.2 r) (ja h.2.2.2 r)
 · exact hr.elim (ja h.1.2.2 r) (ja h.2.2.2 r)
 · exact ja h.2.2.2 r hr
 · rw[hr];exact h.2.2
 · rcases hr with rfl | rfl
   · exact h.1
   · exact h.2
 · rcases hr with rfl | rfl | rfl
   · exact h.1
   · exact h.2.1
   · exact h.2.2
def dS.thg{ts hs ws:List Str}{s:Sy}(hh:∀z∈hs,thg z)(h:dS ws ts hs s):∀x∈s.things,K24.thg x:=by
 intro x hx;cases s<;>simp only[Sy.things,aL,ai,cj] at hx
 · subst hx;exact hh _ h.1.1
 · rcases hx with rfl | rfl
   · exact hh _ h.1.1
   · exact hh _ h.2.1.1
def sR(s:Sy):s.parts.length<=3:=by cases s<;>simp[Sy.parts]
def dS.szs(h:dS ws ts hs s):s.szs<=14:=by
 have g:∀{k:Kd},dn ws ts k->k.sz<=7:=fun h=>h.1.2.1;cases s with
 | every a b=>have:=g h.1;have:=g h.2;simp[Sy.szs,Sy.parts];lia
 | no a b=>have:=g h.1;have:=g h.2;simp[Sy.szs,Sy.parts];lia
 | thing x k=>have:=g h.2;simp[Sy.szs,Sy.parts,Kd.sz];lia
 | tied x t y=>simp[Sy.szs,Sy.parts,Kd.sz]
 | within r s=>simp[Sy.szs,Sy.parts,Kd.sz]
 | makes r s t=>simp[Sy.szs,Sy.parts,Kd.sz]
theorem xG:∀{ps:List (Int × Sy)},(∀q∈ps,q.2.szs<=n)->mY ps<=n * ps.length
 | [],_=>au _
 | q::ps,h=>by
   have h1:=xG (n:=n) (ps:=ps) fun q' hq=>h q' (aH _ hq);have h2:=h q aO;show q.2.szs+mY ps<=n * (ps.length+1);rw[Nat.mul_succ];lia
theorem qV:∀ps,gr ps=6 * mY ps+2 * ps.length
 | []=>rfl
 | q::ps=>by
   have:=qV ps;show 6 * q.2.szs+2+gr ps=6 * (q.2.szs+mY ps)+2 * (ps.length+1)
   lia
theorem qW:∀ks,hZ ks=5 * j0 ks
 | []=>rfl
 | k::ks=>by
   have:=qW ks;show 5 * k.sz+hZ ks=5 * (k.sz+j0 ks)
   lia
def LawD.still(d:LawD ts hs ps ks fs):(∀q∈ps,q.2.okS/\q.2.gd 25/\q.2.tsOk ts)/\(∀k∈ks,uz 25 k/\∀r∈Kd.tieL k,r∈ts)/\(∀k∈fs,uz 25 k)/\ps.length<=100/\2+gr ps+hZ fs<=40000/\2+gr ps+hZ fs+j0 ks+3 * ps.length+mY ps<=50000/\(LoI.of ps fs).parts.length+j0 ks+3 * ps.length+mY ps<=300/\fM 300 ts<=9800000/\(LoI.of ps fs).Wd ts/\2<=(LoI.of ps fs).parts.length:=by
 obtain⟨ws,hw,pq⟩:=d.pq;have gk:∀{k:Kd},gK ts k->uz 25 k:=fun h=>⟨h.1,ao h.2.1 (by decide),bA h.2.2.1 (by decide)⟩;have ol:=HC ps fs;have l1:=d.l24;have l2:=d.sq;have l3:=d.sk;have l4:=d.sf;refine⟨fun q hq=>⟨(pq q hq).okS,fun k hk=> ?_,fun k hk=>((pq q hq).parts hw d.ht d.hh k hk).2.2.2,fun x t y e=> ?_⟩,fun k hk=>⟨gk (d.pk k hk),(d.pk k hk).2.2.2.2.1⟩,fun k hk=>gk (d.pf k hk),by lia,?_,?_,by lia,?_,HA (fun q hq=>(pq q hq).ties) fun k hk=>(d.pf k hk).2.2.2.2.1,HB ps fs⟩
 · obtain⟨h1,h2,h3,_⟩:=(pq q hq).parts hw d.ht d.hh k hk;exact⟨h1.1,by lia,bA h1.2.1 (by decide),by lia⟩
 · have h:=pq q hq;rw[e] at h;exact h.2.2
 · rw[qV,qW];lia
 · rw[qV,qW];lia
 · unfold fM;have:=d.lt;lia
end
def FOk:Fa->Prop
 | .is x k=>gP x/\gP k
 | .has x t y=>gP x/\fW t=true/\gP y
section
def LawD.parts(d:LawD ts hs ps ks fs):∀q∈ps,(∀k∈q.2.parts,gP k/\k.sz<=7)/\(∀k∈q.2.knK,gK ts k)/\∀x∈q.2.things,thg x:=fun q hq=>by
 obtain⟨ws,hw,pq⟩:=d.pq;exact⟨fun k hk=>⟨((pq q hq).parts hw d.ht d.hh k hk).1,((pq q hq).parts hw d.ht d.hh k hk).2.2.1⟩,fun k hk=>((pq q hq).kn hw d.ht k hk).1,(pq q hq).thg d.hh⟩
def LawD.told{ts hs:List Str}{ps:List (Int × Sy)}{ks fs:List Kd}(d:LawD ts hs ps ks fs){Tn:List Str}{S':StI}(st:rn ts ps ks fs Tn S'):(∀s∈S'.steps,FOk s.f)/\S'.steps.length<=2000000:=by
 have gq:=d.parts;have gH:∀{k:Kd},gK ts k->GE gP k:=fun h=>uT h.gP;have pp:∀k∈(dO ks Tn ps (LoI.of ps fs,StI.emp)).1.parts,gP k:=by
  refine FC (Q:=fun L=>∀k∈L.parts,gP k) st.tn.2 (CV (Q:=fun L=>∀k∈L.parts,gP k) (fun e _ h=>by rw[e];exact h) ?_ (fun q h k hk L hL=>hV k L hL (gH ((gq q h).2.1 k hk))) (fun k hk L hL=>hV k L hL (gH (d.pf k hk)))) (fun k hk L hL=>hV k L hL (gH (d.pk k hk))) (fun x hx L hL=>hV (.nm x) L hL ?_) (fun q h k hk L hL=>hV k L hL (gH ((gq q h).2.1 k hk)))
  · rw[sU];intro k hk;have hk':k∈([anyW,nothW]:List Kd):=hk;rcases(show k=anyW\/k=nothW by simpa using hk') with rfl | rfl
    · exact⟨by show fW _=true;decide+kernel,au _,by show 1<=60;decide⟩
    · exact⟨by show fW _=true;decide+kernel,au _,by show 1<=60;decide⟩
  · obtain⟨q,hq,hx'⟩:=sX hx;exact⟨jx ((gq q hq).2.2 x hx'),au _,by show 1<=60;decide⟩
 obtain⟨n,rc,hn⟩:=st.rch;have wf:=st.wf;have e2:=w_ (L:=(dO ks Tn ps (LoI.of ps fs,StI.emp)).1) ps (p:=(ks++Tn.map Kd.nm).foldl jW (LoI.of ps fs,StI.emp)) (Px.refl _);have e1:=xf (L:=(dO ks Tn ps (LoI.of ps fs,StI.emp)).1) (ks++Tn.map Kd.nm) (p:=(LoI.of ps fs,StI.emp)) (qP ps _);have eB:(dO ks Tn ps (LoI.of ps fs,StI.emp)).2=ps.foldl (yQ (dO ks Tn ps (LoI.of ps fs,StI.emp)).1) ((ks++Tn.map Kd.nm).foldl (DS (dO ks Tn ps (LoI.of ps fs,StI.emp)).1) StI.emp):=by
  have:=e2.1;rw[e1.1] at this;exact this
 have b1:=(JQ (L:=(dO ks Tn ps (LoI.of ps fs,StI.emp)).1) (ks++Tn.map Kd.nm) ps).1;rw[<-eB] at b1;have rl:=Fs (Rl.ind _) rc b1;refine⟨fun s hs=> ?_,?_⟩
 · have:=f_ (f:=(·.f)) hs;rw[rl.rel] at this;obtain⟨f,hf,e⟩:=cc.mp this;have rg:=wf.rg f hf;have e':DC (dO ks Tn ps (LoI.of ps fs,StI.emp)).1 f=s.f:=e;rw[<-e'];cases f with
   | is x k=>exact⟨pp _ (ue rg.1),pp _ (ue rg.2)⟩
   | has x t y=>exact⟨pp _ (ue rg.1),fQ (d.ht t rg.2.1),pp _ (ue rg.2.2)⟩
 · have le:=st.wf.cnt;have cb:=st.cb;have sl:=st.sl;have:6 * S'.facts.length+S'.stand.length<=9800000:=ao le cb
   lia
end
end K24
namespace L2
open PySem PySem.Spec PyProof.Rows
section
end
structure GF(P:Program)(w:World)(K:Frag)(mg:Str->Option Value)(base:Heap)(k:Nat)(x:Str)(ps:List Str)(sp:Sp):Prop where
 ex:∃f fd,bK P w K mg base (yU P w) k f fd ps sp/\Binds K fd ps []/\keepIn K (.ref f)=true/\mg x=some (.ref f)
def Fq.clx{K:Frag}{st:Stmt}(A:Fq K mg x st ps)(h:∀{f fd},Fun K x x st f fd->bK P w K mg base (yU P w) k f fd ps sp):GF P w K mg base k x ps sp:=by
 obtain⟨f,fd,F,b,m⟩:=A.ex;exact⟨f,fd,h F,b,F.kp,m⟩
def Jb(K:Frag)(Ck:Addr)(sp:Sp)(t:TA)(ts:TS):TS:=fun D σ H=>t σ H fun vs H1=>sp vs H1 (fun _ H2=>D.nx σ H2) fun cls _ H2=>∃C,cls= .ref C/\exmOne K (.ref C) (.ref Ck)=some true/\ts D σ H2
section
def EM{X:Cx}{k:Nat}{f Ck:Addr}{fd:FuncData}{ps:List Str}{sp:Sp}{fn cn:Str}{p cpos epos np hpos pos:Pos}{e:Expr}{es:List Expr}{t:TA}{b0:Stmt}{suite:List Stmt}{ts:TS}(F:bK X.prog X.w X.K X.mg X.base (yU X.prog X.w) k f fd ps sp)(hr:Room k X.A)(hg:Gl X fn)(hm:X.mg fn=some (.ref f))(hk:keepIn X.K (.ref f)=true)(hb:Binds X.K fd ps [])(ha:PA X.nox (e::es) t)(hgc:Gl X cn)(hmc:X.mg cn=some (.ref Ck))(hs:∀x,PSs (X.inside x) (b0::suite) ts)(hst:X.stack=X.env::X.outer)(hfr:X.env.frame=some X.env.locals)(hdb:(fn==("__debug__":Str))=false:=by decide)(hdc:(cn==("__debug__":Str))=false:=by decide)(he:starEach (e::es) X.env=(false,eval e X.env)::starEach es X.env:=by rfl)(hpl:(backTo cpos (starEach es X.env)).any (·.1)=false:=by rfl)(hsw:swapsWith (.Call (.Name fn p) (e::es) [] cpos) none epos.line X.env=pure false:=by rfl):PS X (.Try [.Expr (.Call (.Name fn p) (e::es) [] cpos) epos] [.ExceptHandler (some (.Name cn np)) none (b0::suite) hpos] [] [] pos) (Jb X.K Ck sp t ts):=by
 intro pins s σ H D I h;refine wpAny_Try_except (iB (Eg ?_ I.quiet hsw));refine dm (gI I hg hm ?_ hdb);refine callWith_K (h₀:=X.base) I.ok.mod.kin hk (bJ (ha cpos pins s σ H _ (I.wish _) h) (fun us s1 ⟨vs,H1,I1',r,q⟩=>⟨I1'.unwish.kIn,?_⟩) fun _ _ z=>z.elim) he hpl;have I1:=I1'.unwish;have hln:(us++[]).length=ps.length:=by rw[fk,<-r.length];exact F.len _ _ _ _ q
 refine iD (g9 (F.run X.A X.stack s1 H1 ⟨us,[]⟩ us vs _ _ hr I1.env0 (by have b:=hb s1 us I1.kIn hln;rw[fk] at b;exact b) r q) fun r s2 hq=> ?_);cases r with
 | ok fl=>
   cases fl with
   | ret u=>
     obtain⟨v,H',I3,_,q3⟩:=I1.after hq;exact d7 (d7 ⟨σ,H',I3,q3⟩)
   | next=>exact False.elim hq
   | brk=>exact False.elim hq
   | cont=>exact False.elim hq
 | error ex=>
   obtain⟨x,T,cls,od,H',rfl,os,bare,un,hok,zx,zT,hx,hT,fl,C,rfl,xm,q3⟩:=hq;have J:=I1.call' os un hok bare (fun b z=>absurd z (by simp));have hA:X.A.frames=some (X.env::X.outer):=by rw[<-hst];exact J.ok.frames
   have hF:s2.heap.FunFrames X.base (X.env::X.outer):=by rw[<-hst];exact J.stack
   refine uA hA hF hfr fl fun h2 T2 c f2 z2=>nO f2 fun h3 k3 f3=> ?_;have c3:Chg (qO X.stack) x T s2.heap h3:=by rw[hst];exact c.set z2 k3 f3.hx
   have J3:=I1.caught (t':=s2.toks) J zx zT hx hT c3;refine LG (Kg ?_) (by intro z;cases z);refine gI (J3.inside x) hgc hmc ?_ hdc;obtain⟨oe,vs3,e1,e2,e3,e4,e5⟩:=f3.ex;have LT:PySem.W.Looks (model X.prog X.w) h3 (typeOf (.ref x)) (.ref C):=e2 ▸ (nQ e1).andThen .now;refine(PySem.W.exm_one (M:=model X.prog X.w) (h:=h3) J3.kIn LT xm).at ?_;refine codeAny_handlers_suite (nO f3 fun h4 k4 f4=> ?_);have c4:Chg (qO X.stack) x T s2.heap h4:=c3.set z2 k4 f4.hx;have J4:=I1.caught (t':=s2.toks) J zx zT hx hT c4;refine bJ (hs x pins _ _ _ D (J4.inside x) q3) (fun fl5 s6 sp6=> ?_) fun _ _ z=>z.elim;cases fl5 with
   | next=>obtain⟨σ',H',I,q⟩:=sp6;exact⟨_,H',I.outside J.ok,q⟩
   | brk=>obtain⟨σ',H',I,q⟩:=sp6;exact⟨_,H',I.outside J.ok,q⟩
   | cont=>obtain⟨σ',H',I,q⟩:=sp6;exact⟨_,H',I.outside J.ok,q⟩
   | ret u=>obtain⟨v,σ',H',I,r,q⟩:=sp6;exact⟨v,_,H',I.outside J.ok,r,q⟩
end
end L2
namespace K24
open PySem L2
noncomputable def mS:Sy->Option Fa
 | .every a b=>some (.is a b)
 | .no a b=>some (.is (.two a b) gV)
 | .thing x c=>some (.is (.nm x) c)
 | .tied x t y=>some (.has (.nm x) t (.nm y))
 | _=>none
noncomputable def oM(f:Fa):List Kd:=if dA f.x=true then [] else [f.x]
noncomputable def yK:Fa->List Kd
 | .is _ k=>[k]
 | .has _ _ _=>[]
def MA:Vals [V.non] [Value.none]:= .cons rfl .nil
def JC:((([("step":Str)]:List Str)++[]):List Str).Nodup:=by decide+kernel
inductive vP(vs:List V)(H:Hp)(Q:VK):Prop
 | mk:∀v s f,(vs=[v])->IsSy H s v->mS s=some f->(∀p H',Same H H'->H p=none->IsF H' f (.ref p)->Q (.ref p) H')->vP vs H Q
def xI:Sp:=fun vs H Q _=>vP vs H Q
inductive kG(vs:List V)(H:Hp)(Q:VK):Prop
 | mk:∀v f,(vs=[v])->IsF H f v->AX f.x->(∀p H' zs,Same H H'->H' p=some (.lst zs)->KL H' zs (oM f)->Q (.ref p) H')->kG vs H Q
def nZ:Sp:=fun vs H Q _=>kG vs H Q
noncomputable abbrev ft:List Str:=["every","thing"]
def uP(h:IsF H f v):∃p z a rest,v= .ref p/\H p=some (.tup (.str z::a::rest))/\IsK H f.x a:=by
 cases f with
 | is x k=>obtain⟨p,a,b,rfl,hp,ia,ib⟩:=h;exact⟨p,_,a,_,rfl,hp,ia⟩
 | has x t y=>obtain⟨p,a,b,rfl,hp,ia,ib⟩:=h;exact⟨p,_,a,_,rfl,hp,ia⟩
section
def scGoal:bb ["question","form"] kJ (aJ v_):=fS
def E7(F:Fun K "goal" "goal" v_ f fd):bK P w K mg base eJ 1 f fd kJ xI:=by
 refine F.o scGoal fun cdv A outer s H vs Q E hr h=> ?_;obtain⟨v,sy,fa,rfl,isy,e,q⟩:=h;refine⟨_,aZ (eV 1 scGoal.nd (eS aC)) (aZ (bH (fu nF bu (by exact yf (@pF _ _ (["every","thing"]:List Str) rfl))) (bg (c_ (bL (eY aN (eS aC) (eS aC))))) br) (aZ (bH (fu dv bu aN) (bg (c_ (bL (eY aN (bL (eY aN (eS aC) (eS aC))) aN)))) br) (aZ (bH (fu dv bu aN) (bg (c_ (bL (jo aN (eS aC) (eS aC) (eS aC))))) br) (bg (Co))))),?_⟩;obtain⟨pv,us,rfl,hpv,hL⟩:=isy;have fin:∀{H1:Hp} {t:Addr} {xs:List V},Same H H1->H1 t=none->IsF (upd H1 t (.tup xs)) fa (.ref t)->Q (.ref t) (upd H1 t (.tup xs)):=fun s1 ht i=>q _ _ (s1.trans (af ht _)) (fE s1 ht) i;refine eF hpv (aX (j:=0) rfl) ⟨by show 2<=sizeLine;decide,fun t0 ht0=> ?_⟩;have s0:=af ht0 (.tup (ft.map V.str));refine⟨t0,_,rfl,.inr (SqT.of ae),rfl,kg ft,?_⟩;show if(BC (.str (vo sy.hd)) (ft.map V.str))=true then _ else _
 rw[uQ];have hp0:=s0 _ _ hpv;have hL0:=KL.mono s0.tups hL;generalize upd H t0 (.tup (ft.map V.str))=H0 at s0 hp0 hL0⊢;have yes:∀{A B:Prop},decide (vo sy.hd∈ft)=true->A->if decide (vo sy.hd∈ft)=true then A else B:=fun h a=>by rw[aK h];exact a
 have no:∀{A B:Prop},decide (vo sy.hd∈ft)=false->B->if decide (vo sy.hd∈ft)=true then A else B:=fun h a=>by rw[h];exact a
 cases sy with
 | every a b=>
   cases e;obtain⟨va,vb,rfl,ka,kb⟩:=wR hL0;refine yes (show decide (Str.ofString "every"∈ft)=true by decide+kernel) (eF hp0 rfl (eF hp0 rfl ⟨by show 3<=sizeLine;decide,fun t ht=> ?_⟩));exact fin s0 ht (jc ht ka kb)
 | thing a b=>
   cases e;obtain⟨va,vb,rfl,ka,kb⟩:=wR hL0;refine yes (show decide (Str.ofString "thing"∈ft)=true by decide+kernel) (eF hp0 rfl (eF hp0 rfl ⟨by show 3<=sizeLine;decide,fun t ht=> ?_⟩));exact fin s0 ht (jc ht ka kb)
 | no a b=>
   cases e;obtain⟨va,vb,rfl,ka,kb⟩:=wR hL0;refine no (show decide (Str.ofString "no"∈ft)=false by decide+kernel) ?_;refine eF hp0 rfl (eF hp0 rfl ⟨by show 3<=sizeLine;decide,fun t ht=>⟨by show 3<=sizeLine;decide,fun t2 ht2=> ?_⟩⟩);have y:=af ht (.tup [.str "both",va,vb]);exact fin (s0.trans y) ht2 (jc (x:= .two a b) (k:=gV) ht2 ⟨t,va,vb,rfl,ae,IsK.mono y.tups ka,IsK.mono y.tups kb⟩ rfl)
 | tied a r b=>
   cases e;obtain⟨va,vb,vc,rfl,ka,kb,kc⟩:=Fn hL0;cases kb;refine no (show decide (Str.ofString "tied"∈ft)=false by decide+kernel) ?_;refine eF hp0 rfl (eF hp0 rfl (eF hp0 rfl ⟨by show 4<=sizeLine;decide,fun t ht=> ?_⟩));exact fin s0 ht (wY ht ka kc)
 | within a b=>cases e
 | makes a b c=>cases e
def v5:bb ["aim"] ["aim"] (aJ kY):=fS
def uu(F:Fun K "starts_for" "starts_for" kY f fd)(Gth:Cl P w K mg base 4 "stands_for_thing" ["x"] l9):bK P w K mg base eJ 5 f fd ["aim"] nZ:=by
 refine F.o v5 fun cdv A outer s H vs Q E hr h=> ?_;obtain⟨v,fa,rfl,ig,ln,q⟩:=h;refine⟨_,bg (c_ (qz (fN (eU Gth hr (eE (eS aC)))) (bE bO) (bE (eE (eS aC))))),?_⟩;obtain⟨p,z,a,rest,rfl,hp,ia⟩:=uP ig;refine eF hp (aX (j:=1) rfl) ⟨a,fa.x,rfl,ia,ln,fun H1 s1=> ?_⟩;unfold oM at q;cases e:dA fa.x with
 | true=>
   rw[aK e] at q;exact⟨au _,fun l hl=>q l _ [] (s1.trans (af hl _)) ae .nil⟩
 | false=>
   rw[aG (by rw[e];decide)] at q;refine eF (s1 _ _ hp) (aX (j:=1) rfl) ⟨by show 1<=sizeLine;decide,fun l hl=> ?_⟩;have y:=s1.trans (af hl (.lst [a]));exact q l _ [a] y ae (.cons (IsK.mono y.tups ia) .nil)
end
theorem FOk.lo:∀{f:Fa},FOk f->f.lo 25
 | .is _ _,h=>⟨ao h.1.2.1 (by decide),ao h.2.2.1 (by decide)⟩
 | .has _ _ _,h=>⟨ao h.1.2.1 (by decide),ao h.2.2.2.1 (by decide)⟩
theorem FOk.x:∀{f:Fa},FOk f->gP f.x
 | .is _ _,h=>h.1
 | .has _ _ _,h=>h.1
theorem FL.xas:∀{vs:List V} {fs:List Fa},FL H vs fs->Xas H (fs.map Fa.tx) vs
 | _,_,.nil=>rfl
 | _,_,.cons r t=>⟨_,_,rfl,IsF.xa r,FL.xas t⟩
def DD{fs:List Fa}:decide (f.tx∈fs.map Fa.tx)=decide (f∈fs):=by
 have:(f.tx∈fs.map Fa.tx)↔f∈fs:=⟨fun h=>by obtain⟨g,hg,e⟩:=cc.mp h;rw[<-Fa.tx_inj e];exact hg,f_⟩;by_cases h:f∈fs
 · rw[ax h,ax (this.mpr h)]
 · rw[ag h,ag fun z=>h (this.mp z)]
noncomputable def Bq:Fa->Bool
 | .is x k=>decide (k=gV)&&dA x
 | .has _ _ _=>false
noncomputable def yH(fs:List Fa)(f:Fa):Bool:=decide (f∈fs) || decide (Fa.is f.x gV∈fs) || fs.any Bq
inductive jD(vs:List V)(H:Hp)(Q:VK):Prop
 | mk:∀lp v ys ps f ts hs,(vs=[.ref lp,v])->(H lp=some (.lst ys))->PrL H ys ps->IsF H f v->AX f.x->LawD ts hs ps (oM f) (yK f)->(∀H' q us Tn S',Same H H'->H' q=some (.lst us)->LY [] H' us S'.steps->rn ts ps (oM f) (yK f) Tn S'->Q (.ref q) H')->jD vs H Q
def lZ:Sp:=fun vs H Q _=>jD vs H Q
inductive p_(vs:List V)(H:Hp)(Q:VK):Prop
 | mk:∀l v xs fs f,(vs=[.ref l,v])->(H l=some (.lst xs))->FL H xs fs->IsF H f v->FOk f->(∀g∈fs,FOk g)->(∀H' u,Same H H'->decide (u=V.non)= !yH fs f->Q u H')->p_ vs H Q
def vO:Sp:=fun vs H Q _=>p_ vs H Q
section
def tP:bb wc wc (aJ jG):=fS
def rK(F:Fun K "standstill_for" "standstill_for" jG f fd)(Gsf:Cl P w K mg base 5 "starts_for" ["aim"] nZ)(Gst:Dl P w K mg base 65 "still" zL [.none] (zh 25)):bK P w K mg base eJ 66 f fd wc lZ:=by
 refine F.o tP fun cdv A outer s H vs Q E hr h=> ?_;obtain⟨lp,v,ys,ps,fa,ts,hs,rfl,elp,hps,ig,ln,d,q⟩:=h;refine⟨_,bg (c_ (pdl Gst MA hr (eY aC (eU Gsf hr (eE bu)) (qz (fu dv (eS bu) aN) (bE (eE (eS bu))) (bE bO))))),?_⟩;obtain⟨q1,q2,q3,q4,q5,q6,q7,q8,q9,q10⟩:=d.still;refine⟨v,fa,rfl,ig,ln,fun ls H1 zs s1 e1 kl=> ?_⟩;have fin:∀(H2:Hp) (lf:Addr) (us:List V),Same H1 H2->H2 lf=some (.lst us)->KL H2 us (yK fa)->ni 25 [.ref lp,.ref ls,.ref lf,.non] H2 Q:=fun H2 lf us s2 e2 fl=>
  ⟨300,ts,lp,ls,lf,ys,zs,us,ps,_,_,rfl,(s1.trans s2) _ _ elp,PrL.mono (s1.trans s2).tups hps,s2 _ _ e1,KL.mono s2.tups kl,e2,fl,q1,q2,q3,q4,q5,q6,q7,q8,q9,q10,fun H3 lq vs T Tn S' s23 _ eq rv _ st=>q H3 lq vs Tn S' ((s1.trans s2).trans s23) eq (Jl rv) st⟩
 have ig1:=IsF.mono s1.tups ig;cases fa with
 | is x k=>
   obtain⟨p,a,b,rfl,hp,ia,ib⟩:=ig1;refine eF hp rfl (eF hp rfl ⟨by show 1<=sizeLine;decide,fun lf hlf=> ?_⟩);have y:=af hlf (.lst [b]);exact fin _ lf [b] y ae (.cons (IsK.mono y.tups ib) .nil)
 | has x t y=>
   obtain⟨p,a,b,rfl,hp,ia,ib⟩:=ig1;refine eF hp rfl ⟨au _,fun lf hlf=> ?_⟩;exact fin _ lf [] (af hlf _) ae .nil
def scGround:bb ["facts","aim","fact"] zO (aJ tZ):=fS
def AJ(F:Fun K "ground_for" "ground_for" tZ f fd)(Gth:Cl P w K mg base 4 "stands_for_thing" ["x"] l9):bK P w K mg base eJ 5 f fd zO vO:=by
 refine F.o scGround fun cdv A outer s H vs Q E hr h=> ?_;obtain⟨l,v,xs,fs,fa,rfl,el,hfl,ig,ok,gs,q⟩:=h;refine⟨_,aZ (bH (fu (CC hr.units) bu aC) (bg (c_ (bL (dW bu eo)))) br) (aZ (bH (fu (CC hr.units) (bL (eY aN (eS bu) aN)) aC) (bg (c_ (bL (dW (bL (eY aN (eS bu) aN)) aN)))) br) (aZ (mw (bY aC) (fw 2 scGround.nd) (bg (bH (PW.pt (qu (fu dv (eS bx) aN) (qu (fu (CD hr.units) (eS bx) aN) (pC (fN (eU Gth hr (eE (eS bx)))))))) (bg (c_ (bL (dW bx aN)))) br))) (bg (c_ eo)))),?_⟩;have dpF:∀d∈fs.map Fa.tx,d.dp<=60:=fun d hd=>by
  obtain⟨g,hg,rfl⟩:=cc.mp hd;exact Fa.dp60 (gs g hg).lo
 obtain⟨p,z,a,rest,rfl,hp,ia⟩:=uP ig;refine⟨l,fa.tx,xs,fs.map Fa.tx,rfl,el,hfl.xas,IsF.xa ig,dpF,?_⟩;rw[DD];by_cases h1:fa∈fs
 · rw[ax h1];refine⟨by show 2<=sizeLine;decide,fun t ht=>q _ _ (af ht _) ?_⟩;show false=_;unfold yH;rw[ax h1];rfl
 rw[ag h1];refine eF hp (aX (j:=1) rfl) ⟨by show 3<=sizeLine;decide,fun t1 ht1=> ?_⟩;have s1:=af ht1 (.tup [.str "is",a,.str "nothing"]);have i1:IsF (upd H t1 (.tup [.str "is",a,.str "nothing"])) (.is fa.x gV) (.ref t1):=jc (k:=gV) ht1 ia rfl;generalize upd H t1 (.tup [.str "is",a,.str "nothing"])=H1 at s1 i1⊢;refine⟨l,(Fa.is fa.x gV).tx,xs,fs.map Fa.tx,rfl,s1 _ _ el,(FL.mono s1.tups hfl).xas,IsF.xa i1,dpF,?_⟩;rw[DD];by_cases h2:Fa.is fa.x gV∈fs
 · rw[ax h2];refine eF (s1 _ _ hp) (aX (j:=1) rfl) ⟨by show 3<=sizeLine;decide,fun t2 ht2=>⟨by show 2<=sizeLine;decide,fun t3 ht3=>q _ _ ((s1.trans (af ht2 _)).trans (af ht3 _)) ?_⟩⟩;show false=_;unfold yH;rw[ax h2,Bool.or_true];rfl
 rw[ag h2];have gd:yH fs fa=fs.any Bq:=by unfold yH;rw[ag h1,ag h2];rfl
 rw[gd] at q;have lxs:xs.length=fs.length:=aR hfl;refine⟨⟨_,SqL.of (s1 _ _ el)⟩,cf (xs:=xs) (fun i σ H'=>(∃o2:Option V,σ=[some (.ref l),some (.ref p),o2])/\Same H H'/\(fs.take i).any Bq=false) ⟨⟨none,rfl⟩,s1,rfl⟩ ?_ ?_ ?_⟩
 · rintro i σ H' _ ⟨_,s2,_⟩;exact SqL.of (s2 _ _ el)
 · rintro i u σ H' hu ⟨⟨o2,rfl⟩,s2,no⟩;obtain⟨g,hg,iu⟩:=bN hfl hu;have hin:=av hg;have tk:(fs.take (i+1)).any Bq=Bq g:=by rw[bF,hg,List.any_append,no];simp
   rw[tk];refine gn ?_;have iu2:=IsF.mono s2.tups iu;have og:=gs g hin;cases g with
   | has x r y=>
     obtain⟨pg,b,c,rfl,hpg,ib,ic⟩:=iu2;exact eF hpg rfl ⟨⟨_,rfl⟩,s2,rfl⟩
   | is x k=>
     obtain⟨pg,b,c,rfl,hpg,ib,ic⟩:=iu2;refine eF hpg rfl (eF hpg rfl ⟨k.tx,.str "nothing",ic.xa,rfl,by rw[Kd.tx_dp];have:=og.2.2.1;lia,?_⟩);by_cases e:k=gV
     · rw[ax (show k.tx= .str "nothing" by rw[e];rfl)];refine eF hpg rfl ⟨b,x,rfl,ib,og.1.len,fun H3 s3=> ?_⟩;have ce:Bq (.is x k)=dA x:=by show(decide (k=gV)&&dA x)=_;rw[ax e];rfl
       rw[ce] at tk⊢;cases z:dA x with
       | false=>exact⟨⟨_,rfl⟩,s2.trans s3,rfl⟩
       | true=>
         refine⟨by show 2<=sizeLine;decide,fun t3 ht3=>q _ _ ((s2.trans s3).trans (af ht3 _)) ?_⟩;show false=_;rw[nW.mpr ⟨_,hin,by rw[ce];exact z⟩];rfl
     · rw[ag (show ¬ k.tx= .str "nothing" from fun z=>e (Kd.tx_inj z))];exact⟨⟨_,rfl⟩,s2,by show(decide (k=gV)&&dA x)=_;rw[ag e];rfl⟩
 rintro σ H' ⟨⟨o2,rfl⟩,s2,no⟩;rw[lxs,a_] at no;exact q _ _ s2 (by rw[no];rfl)
end
inductive om(vs:List V)(H:Hp)(Q:VK):Prop
 | mk:∀lp v ys ps s f ts hs,(vs=[.ref lp,v])->(H lp=some (.lst ys))->PrL H ys ps->IsSy H s v->mS s=some f->FOk f->LawD ts hs ps (oM f) (yK f)->(∀H' b,Same H H'->(∃Tn S',rn ts ps (oM f) (yK f) Tn S'/\b=yH (S'.steps.map (·.f)) f)->Q (.bl b) H')->om vs H Q
def sM:Sp:=fun vs H Q _=>om vs H Q
inductive sI(C:Addr)(vs:List V)(H:Hp)(E:XK):Prop
 | mk:∀v s,(vs=[v])->IsSy H s v->mS s=none->(∀H',Same H H'->E (.ref C) none H')->sI C vs H E
def pw(C:Addr):Sp:=fun vs H _ E=>sI C vs H E
inductive mj(C:Addr)(vs:List V)(H:Hp)(E:XK):Prop
 | mk:∀u v s,(vs=[u,v])->IsSy H s v->mS s=none->(∀H',Same H H'->E (.ref C) none H')->mj C vs H E
def iU(C:Addr):Sp:=fun vs H _ E=>mj C vs H E
inductive qb(C:Addr)(vs:List V)(H:Hp)(E:XK):Prop
 | mk:∀i u v s,(vs=[.int i,u,v])->IsSy H s v->mS s=none->(∀H',Same H H'->E (.ref C) none H')->qb C vs H E
def qc(C:Addr):Sp:=fun vs H _ E=>qb C vs H E
inductive n_(vs:List V)(H:Hp)(Q:VK):Prop
 | mk:∀i u v s,(vs=[.int i,u,v])->IsSy H s v->mS s=none->(∀H',Same H H'->Q (.bl true) H')->n_ vs H Q
def j3:Sp:=fun vs H Q _=>n_ vs H Q
section
def scFollows:bb Ga jK (aJ jI):=fS
def yp(F:Fun K "follows" "follows" jI f fd)(Ggl:Cl P w K mg base 1 "goal" kJ xI)(Gsn:Cl P w K mg base 66 "standstill_for" wc lZ)(Ggr:Cl P w K mg base 5 "ground_for" zO vO):bK P w K mg base eJ 67 f fd jK sM:=by
 refine F.o scFollows fun cdv A outer s H vs Q E hr h=> ?_;obtain⟨lp,v,ys,ps,sy,fa,ts,hs,rfl,elp,hps,isy,e,ok,d,q⟩:=h;refine⟨_,aZ (eV 2 scFollows.nd (eU Ggl hr (eE bu))) (aZ (EN (i:=3) ["step"] [] [] scFollows.nd rfl rfl (bY (eU Gsn hr (dW aC bx))) (fun _ _ _=>fw 0 JC) (fun _ _ _=>iY) (fun _ _ _=>(jM (r:=Cd K) jb aC aD))) (bg (c_ (K9 ur (eU Ggr hr (dW bZ bx)) eo)))),?_⟩;refine⟨v,sy,fa,rfl,isy,e,fun pa H1 s1 _ ia=> ?_⟩;refine⟨lp,_,ys,ps,fa,ts,hs,rfl,s1 _ _ elp,PrL.mono s1.tups hps,ia,ok.x.len,d,fun H2 lq us Tn S' s2 eq stl st=> ?_⟩;obtain⟨gs,ls⟩:=d.told st;have lus:us.length=S'.steps.length:=aR stl;refine⟨⟨_,SqL.of eq⟩,fun D hD=> ?_⟩;refine qY us.length (fun i σ H'=>(∃o,σ=[o])/\Same H2 H'/\∃xs,H' D=some (.lst xs)/\FL H' xs ((S'.steps.take i).map (·.f))/\xs.length=i) ⟨⟨_,rfl⟩,af hD _,[],ae,.nil,rfl⟩ ?_ ?_
 · rintro σ H3 ⟨_,s3,xs,e3,fl,_⟩;rw[lus,a_] at fl;refine⟨⟨_,SqL.of (s3 _ _ eq),aq _⟩,?_⟩;refine⟨D,_,xs,S'.steps.map (·.f),fa,rfl,e3,fl,IsF.mono (s2.trans s3).tups ia,ok,fun g hg=> ?_,fun H4 u s4 hu=> ?_⟩
   · obtain⟨st',hst,rfl⟩:=cc.mp hg;exact gs st' hst
   · refine⟨rfl,?_⟩;show Q (.bl (!decide (u=V.non))) H4;rw[hu,Bool.not_not];exact q _ _ (((s1.trans s2).trans s3).trans s4) ⟨Tn,S',st,rfl⟩
 · rintro i σ H3 hi ⟨⟨o,rfl⟩,s3,xs,e3,fl,lx⟩;have eq3:=s3 _ _ eq;refine⟨⟨_,us[i],SqL.of eq3,by simp[hi]⟩,?_⟩;rintro y H4 ⟨rfl,hy⟩;obtain⟨st',hs',p,pf,vf,rfl,hp,ig,hpf,_⟩:=bN stl (hy _ (SqL.of eq3));refine eF (s3 _ _ hp) rfl ?_;have tu:Tups H4 (upd H4 D (.lst (xs++[vf]))):=fun b us e=>by rw[aM (fun z=>by rw[z,e3] at e;cases e)];exact e
   refine⟨_,e3,bA (show xs.length<=2000000 by lia) (by decide),⟨_,rfl⟩,dh s3 hD,xs++[vf],ae,?_,by rw[ak,lx];rfl⟩;rw[bF,hs',bC];exact oQ (FL.mono tu fl) (.cons (IsF.mono (s3.tups.trans tu) ig) .nil)
def scGoalX:bb ["question","form"] kJ (aJ v_):=fS
def CQ(F:Fun K "goal" "goal" v_ f fd)(MkNQ:Iz K C)(mNQ:mg "NoQuestion"=some (.ref C)):bK P w K mg base (yU P w) 2 f fd kJ (pw C):=by
 refine F.okX scGoalX (fun vs H Q E h=>by cases h;subst_vars;rfl) fun cdv A outer s H vs Q E hr h=> ?_;obtain⟨v,sy,rfl,isy,e,q⟩:=h;refine⟨_,aZ (PS.nox (by exact eV 1 scGoalX.nd (eS aC))) (aZ (PS.nox (by exact bH (fu nF bu (by exact yf (@pF _ _ (["every","thing"]:List Str) rfl))) (bg (PS.nox (by exact c_ (bL (eY aN (eS aC) (eS aC)))))) br)) (aZ (PS.nox (by exact bH (fu dv bu aN) (bg (PS.nox (by exact c_ (bL (eY aN (bL (eY aN (eS aC) (eS aC))) aN))))) br)) (aZ (PS.nox (by exact bH (fu dv bu aN) (bg (PS.nox (by exact c_ (bL (jo aN (eS aC) (eS aC) (eS aC)))))) br)) (bg (Az rfl IX MkNQ rfl mNQ (eE (um (jN aN (qy bu (jN aN ye)))))))))),?_⟩;obtain⟨pv,us,rfl,hpv,hL⟩:=isy;refine eF hpv (aX (j:=0) rfl) ⟨by show 2<=sizeLine;decide,fun t0 ht0=> ?_⟩;have s0:=af ht0 (.tup (ft.map V.str));refine⟨t0,_,rfl,.inr (SqT.of ae),rfl,kg ft,?_⟩;show if(BC (.str (vo sy.hd)) (ft.map V.str))=true then _ else _
 rw[uQ];generalize upd H t0 (.tup (ft.map V.str))=H0 at s0⊢;have no:∀{A B:Prop},decide (vo sy.hd∈ft)=false->B->if decide (vo sy.hd∈ft)=true then A else B:=fun h a=>by rw[h];exact a
 cases sy with
 | within a b=>
   refine no (show decide (Str.ofString "within"∈ft)=false by decide+kernel) ?_;exact⟨_,rfl,by decide+kernel,by decide+kernel,_,rfl,(show(Str.ofString "within").length<=sizeLine by decide+kernel),(show(Str.empty++Str.ofString "a saying of the form "++Str.ofString "within").length<=sizeLine by decide+kernel),_,rfl,by decide+kernel,(show(Str.empty++Str.ofString "a saying of the form "++Str.ofString "within"++Str.ofString " can't be asked").length<=sizeLine by decide+kernel),(show(Str.empty++Str.ofString "a saying of the form "++Str.ofString "within"++Str.ofString " can't be asked").length<=sizeLine by decide+kernel),by show 1<=sizeLine;decide,q _ s0⟩
 | makes a b c=>
   refine no (show decide (Str.ofString "makes"∈ft)=false by decide+kernel) ?_;exact⟨_,rfl,by decide+kernel,by decide+kernel,_,rfl,(show(Str.ofString "makes").length<=sizeLine by decide+kernel),(show(Str.empty++Str.ofString "a saying of the form "++Str.ofString "makes").length<=sizeLine by decide+kernel),_,rfl,by decide+kernel,(show(Str.empty++Str.ofString "a saying of the form "++Str.ofString "makes"++Str.ofString " can't be asked").length<=sizeLine by decide+kernel),(show(Str.empty++Str.ofString "a saying of the form "++Str.ofString "makes"++Str.ofString " can't be asked").length<=sizeLine by decide+kernel),by show 1<=sizeLine;decide,q _ s0⟩
 | _=>cases e
def scFollowsX:bb Ga jK (aJ jI):=fS
def wC(F:Fun K "follows" "follows" jI f fd)(G:GF P w K mg base 2 "goal" kJ (pw C)):bK P w K mg base (yU P w) 3 f fd jK (iU C):=by
 refine F.okX scFollowsX (fun vs H Q E h=>by cases h;subst_vars;rfl) fun cdv A outer s H vs Q E hr h=> ?_;obtain⟨u,v,sy,rfl,isy,e,q⟩:=h;obtain⟨a1,d1,Ggl,bGgl,kGgl,mGgl⟩:=G.ex;have hrgl:=hr;refine⟨_,aZ (eV 2 scFollowsX.nd (iZ Ggl hrgl rfl mGgl kGgl bGgl .nil mx (eE bu)))
  sO,?_⟩
 exact⟨v,sy,rfl,isy,e,q⟩
def scAnswerX:bb ["pairs","question","aim","steps","ground","fact","rule","told"] jK (aJ uc):=fS
def yr(F:Fun K "answer" "answer" uc f fd)(G:GF P w K mg base 2 "goal" kJ (pw C)):bK P w K mg base (yU P w) 3 f fd jK (iU C):=by
 refine F.okX scAnswerX (fun vs H Q E h=>by cases h;subst_vars;rfl) fun cdv A outer s H vs Q E hr h=> ?_;obtain⟨u,v,sy,rfl,isy,e,q⟩:=h;obtain⟨a1,d1,Ggl,bGgl,kGgl,mGgl⟩:=G.ex;have hrgl:=hr;refine⟨_,aZ (eV 2 scAnswerX.nd (iZ Ggl hrgl rfl mGgl kGgl bGgl .nil mx (eE bu)))
  sO,?_⟩
 exact⟨v,sy,rfl,isy,e,q⟩
def EE:bb k8 k8 (aJ xZ):=fS
def CT(F:Fun K "_law_asked" "_law_asked" xZ f fd)(G:GF P w K mg base 2 "goal" kJ (pw C))(G2:GF P w K mg base 3 "follows" jK (iU C))(G3:GF P w K mg base 3 "answer" jK (iU C)):bK P w K mg base (yU P w) 4 f fd k8 (qc C):=by
 refine F.okX EE (fun vs H Q E h=>by cases h;subst_vars;rfl) fun cdv A outer s H vs Q E hr h=> ?_;obtain⟨i,u,v,sy,rfl,isy,e,q⟩:=h;obtain⟨a1,d1,Ggl,bGgl,kGgl,mGgl⟩:=G.ex;obtain⟨a2,d2,Gfo,bGfo,kGfo,mGfo⟩:=G2.ex;obtain⟨a3,d3,Gan,bGan,kGan,mGan⟩:=G3.ex;have hrgl:=hr.mono (show 2<=3 by decide);have hrfo:=hr;have hran:=hr;refine⟨_,aZ (bH (fu dv aC aD) (bg (c_ (iZ Ggl hrgl rfl mGgl kGgl bGgl .nil mx (eE bx)))) br)
  (aZ (bH (fu dv aC aD) (bg (c_ (iZ Gfo hrfo rfl mGfo kGfo bGfo .nil mx (dW bu bx)))) br)
  (bg (c_ (iZ Gan hran rfl mGan kGan bGan .nil mx (dW bu bx))))),?_⟩
 refine gJ (fun _=>⟨v,sy,rfl,isy,e,q⟩) fun _=>gJ (fun _=>⟨u,v,sy,rfl,isy,e,q⟩) fun _=>⟨u,v,sy,rfl,isy,e,q⟩
def Ax:bb k8 k8 (aJ qm):=fS
def yl(F:Fun K "_law_refused" "_law_refused" qm f fd)(G:GF P w K mg base 4 "_law_asked" k8 (qc C))(mNQ:mg "NoQuestion"=some (.ref C))(xm:exmOne K (.ref C) (.ref C)=some true):bK P w K mg base eJ 5 f fd k8 j3:=by
 refine F.o Ax fun cdv A outer s H vs Q E hr h=> ?_;obtain⟨i,u,v,sy,rfl,isy,e,q⟩:=h;obtain⟨a1,d1,Gas,bGas,kGas,mGas⟩:=G.ex;have hras:=hr;refine⟨_,aZ (EM Gas hras rfl mGas kGas bGas (eY aC bu bx) rfl mNQ (fun _=>by exact(bg (c_ fD))) rfl rfl)
  (bg (c_ fD)),?_⟩
 exact⟨i,u,v,sy,rfl,isy,e,fun H' s1=>⟨C,rfl,xm,q _ s1⟩⟩
def scByBase:bb ["_law_way","_law_pairs","_law_question","e","_law_other"] k8 (aJ t_):=fS
def AK(F:Fun K "_law_by_base" "_law_by_base" t_ f fd)(G:GF P w K mg base 4 "_law_asked" k8 (qc C))(xc:Ir K C)(mNQ:mg "NoQuestion"=some (.ref C))(mKE:mg "KinError"=some (.ref Ck))(m1:mg "NoFact"=some (.ref c1))(m2:mg "NoText"=some (.ref c2))(m3:mg "TooMany"=some (.ref c3))(m4:mg "NoSaying"=some (.ref c4))(mVE:mg "ValueError"=none)(mi:mg "isinstance"=none)(xm:exmOne K (.ref C) (.ref Ck)=some true)(k0:kitOne K (.ref C) (.ref C)=some true)(k1:kitOne K (.ref C) (.ref c1)=some false)(k2:kitOne K (.ref C) (.ref c2)=some false)(k3:kitOne K (.ref C) (.ref c3)=some false)(k4:kitOne K (.ref C) (.ref c4)=some false)(kV:kitOne K (.ref C) (.type "ValueError")=some true):bK P w K mg base eJ 5 f fd k8 j3:=by
 refine F.o scByBase fun cdv A outer s H vs Q E hr h=> ?_;obtain⟨i,u,v,sy,rfl,isy,e,q⟩:=h;obtain⟨a1,d1,Gas,bGas,kGas,mGas⟩:=G.ex;have hras:=hr;refine⟨_,aZ (Cm Gas hras rfl mGas kGas bGas (eY aC bu bx) rfl mKE scByBase.nd (i:=3) rfl rfl (fun _=>by exact(aZ (eV 4 scByBase.nd (Cr (dN (gO (K':=K) rfl) rfl mi bP (cB bZ (cB (gF (v:= .ref c1) rfl m1 rfl) bO))) (Cr (dN (gO (K':=K) rfl) rfl mi bP (cB bZ (cB (gF (v:= .ref c2) rfl m2 rfl) bO))) (Cr (dN (gO (K':=K) rfl) rfl mi bP (cB bZ (cB (gF (v:= .ref c3) rfl m3 rfl) bO))) (uk (dN (gO (K':=K) rfl) rfl mi bP (cB bZ (cB (gF (v:= .ref c4) rfl m4 rfl) bO)))))))) (bg (c_ (qB (dN (gO (K':=K) rfl) rfl mi bP (cB bZ (cB (uo (v:= .ty "ValueError") rfl mVE PyProof.Rows.Boot.«ValueError» rfl) bO))) (qB (dN (gO (K':=K) rfl) rfl mi bP (cB bZ (cB (gF (v:= .ref C) rfl mNQ rfl) bO))) (uk (Hj cL)))))))) rfl rfl)
  (bg (c_ fD)),?_⟩
 refine⟨i,u,v,sy,rfl,isy,e,fun H' s1=>⟨C,rfl,rfl,xm,fun x hx=> ?_⟩⟩;have y:=s1.trans (af hx (ie C x));have ex:upd H' x (ie C x) x=some (ie C x):=ae;generalize upd H' x (ie C x)=H2 at y ex⊢;refine⟨x,C,_,_,false,rfl,ex,xc,.inr ⟨_,rfl,rfl⟩,k1,?_⟩;refine⟨x,C,_,_,false,rfl,ex,xc,.inr ⟨_,rfl,rfl⟩,k2,?_⟩;refine⟨x,C,_,_,false,rfl,ex,xc,.inr ⟨_,rfl,rfl⟩,k3,?_⟩;refine⟨x,C,_,_,false,rfl,ex,xc,.inr ⟨_,rfl,rfl⟩,k4,?_⟩;refine⟨x,C,_,_,true,rfl,ex,xc,.inl ⟨_,rfl,rfl⟩,kV,?_⟩;refine⟨x,C,_,_,true,rfl,ex,xc,.inr ⟨_,rfl,rfl⟩,k0,?_⟩;exact q _ y
end
inductive vJ(vs:List V)(H:Hp)(Q:VK):Prop
 | mk:∀c k:Int,(vs=[.int c,.int k])->0<=k->k<=9->(∀r,Q (.int r) H)->vJ vs H Q
def tJ:Sp:=fun vs H Q _=>vJ vs H Q
inductive sA(vs:List V)(H:Hp)(Q:VK):Prop
 | mk:∀c m:Int,(vs=[.int c,.int m])->(0<m)->(m<=4)->(∀(p:Addr) (H':Hp) (ws:List Str),Same H H'->H p=none->H' p=some (.lst (ws.map V.str))->(ws.length:Int)=m->(∀z∈ws,wd z)->Q (.ref p) H')->sA vs H Q
def tK:Sp:=fun vs H Q _=>sA vs H Q
inductive pU(vs:List V)(H:Hp)(Q:VK):Prop
 | mk:∀c m:Int,(vs=[.int c,.int m])->(0<m)->(m<=4)->(∀(p:Addr) (H':Hp) (ws:List Str),Same H H'->H p=none->H' p=some (.lst (ws.map V.str))->(ws.length:Int)=m->(∀z∈ws,thg z)->Q (.ref p) H')->pU vs H Q
def vF:Sp:=fun vs H Q _=>pU vs H Q
noncomputable def uS(b j:Nat):Bool:=decide (2<=j)&&Dx ((b+j) % 26)
noncomputable def Bg(b i:Nat):Nat:=((List.range i).filter (uS b)).length
def Bf(b i:Nat):Bg b (i+1)=Bg b i+if uS b i=true then 1 else 0:=by
 unfold Bg;rw[jt,kE,ak];cases e:uS b i<;>simp[e]
def DA:∀b∈List.range 26,4<=Bg b 26:=by decide+kernel
def KU(n:Nat):HT.sIx n n (some (-1))=n - 1:=by
 unfold HT.sIx;simp
 lia
def Er(z:Str):(Txt.slice z none (some (-1))).length=z.length - 1:=by
 rw[<-hX,gN,KU,show HT.sIx z.length 0 none=0 from rfl,FP,Nat.sub_zero,cS,hX]
 lia
def EW{X:Cx}{K':Frag}{T id:String}{name:Str}{r:V->List V->Hp->VK->Prop}{o:Expr}{to:TE}{apos cpos:Pos}(hK:X.K=K')(pa:PlainAttrs T)(slot:Slot T name id)(hty:typeOf (.builtin id)=pure (.type "method_descriptor"))(hm:J1 X id r)(ho:PE X o to)(hbase:attributeBase o name X.env (eval o X.env)=eval o X.env:=by rfl)(hline:(apos.endLine==cpos.line)=true:=by rfl):PE X (.Call (.Attribute o name apos) [] [] cpos) (Ji K' T r to):=by
 subst hK;exact yg pa slot hty hm ho hbase hline
def GK:∀c∈List.range 123,97<=c->Txt.upper ⟨#[c]⟩=⟨#[c - 32]⟩:=by decide+kernel
def Lc:((([("_law_name":Str)]:List Str)++[]):List Str).Nodup:=by decide+kernel
section
def GY:bb yb yb (aJ B8):=fS
def E4(F:Fun K "_law_next" "_law_next" B8 f fd):bK P w K mg base eJ 1 f fd yb tJ:=by
 refine F.o GY fun cdv A outer s H vs Q E hr h=> ?_;obtain⟨c,k,rfl,k0,k1,q⟩:=h;refine⟨_,bg (c_ (bq cN (bq gU (bq gU (bq yi aC (bq gU aD (bq yi aD bu))) aD) bu) aD)),?_⟩;exact⟨.inl ⟨by decide,by decide⟩,.inr ⟨by lia,by lia⟩,(show(0:Int)<2147483647 by decide),q _⟩
def scNames:bb ["_law_cell_here","_law_many","_law_letters","_law_kept","_law_size","_law_word","_law_k","_law_at","_law_names_here","_law_shift","_law_sign","_law_name"] rJ (aJ xW):=fS
def CL(F:Fun K "_law_names" "_law_names" xW f fd)(ml:mg "len"=none)(mr:mg "range"=none)(mmin:mg "min"=none):bK P w K mg base eJ 1 f fd rJ tK:=by
 refine F.o scNames fun cdv A outer s H vs Q E hr h=> ?_;obtain⟨c,m,rfl,hm0,hm4,q⟩:=h;refine⟨_,@e_ _ _ _ _ _ (eV 2 scNames.nd aN) (@e_ _ _ _ _ _ (@Cn _ _ 3 _ _ _ _ scNames.nd rfl (Or.inl rfl) (@bE _ _ _ _ (@pF _ _ kept rfl)) rfl (.inl rfl)) (@e_ _ _ _ _ _ (eV 4 scNames.nd (bq gU aD (bq cN aC aD))) (@e_ _ _ _ _ _ (eV 5 scNames.nd aN) (@ug _ _ _ _ _ (mw (j7 rfl mr (eE cL)) (fw 6 scNames.nd) (@fT _ _ _ (eV 5 scNames.nd (bq gT dJ (jM uO bx (bq cN (bq gU (bq d5 aC aD) (bq yi eZ (bq d5 aC aD))) aD)))))) (@e_ _ _ _ _ _ (eV 7 scNames.nd (bq cN (bq d5 aC aD) cL)) (@e_ _ _ _ _ _ (eV 8 scNames.nd (bE bO)) (@e_ _ _ _ _ _ (mw (j7 rfl mr (eE aD)) (fw 9 scNames.nd) (@e_ _ _ _ _ _ (eV 10 scNames.nd (jM uO bx (bq cN (bq gU (bq d5 aC aD) (pv 9)) aD))) (@e_ _ _ _ _ _ (eV 11 scNames.nd (bq gT (bq gT (fb qi dJ gE (fC iX)) jJ) (fb qi dJ (fC (bq gU iX aD)) gE))) (@ug _ _ _ _ _ (bH (fu dv (bq cN (bq d5 aC aD) aD) aD) (@fT _ _ _ (eV 11 scNames.nd (jM bS (bE (eY dJ (fb qi dJ gE (fC (oA xB aD))) (bq gT dJ jJ))) (dN (Bs rfl) rfl mmin PyProof.Rows.boot_min (dW (pv 9) aD))))) br) (@fT _ _ _ (bH (PW.pt (qu (fu mB (xx ml ku) bu) (pC (fu my (pv 11) bZ)))) (@fT _ _ _ (bh (BB ku (pv 11)))) br)))))) (@fT _ _ _ (@ip _ _ _ _ ku))))))))),?_⟩;have m0:=ej c (show(10:Int)≠0 by decide);have m1:=dt c (show(0:Int)<10 by decide);refine⟨(by show 11<=sizeLine;exact bD (by decide)),fun lk hlk=> ?_⟩;refine⟨(show(0:Int)<10 by decide),?_⟩;obtain⟨n,hn,hn1,hn2⟩:∃n:Nat,(n:Int)=2+c % 10/\2<=n/\n<=11:=⟨(2+c % 10).toNat,by lia,by lia,by lia⟩;have s0:=af hlk (.lst (kept.map V.str));have ek0:upd H lk (.lst (kept.map V.str)) lk=some (.lst (kept.map V.str)):=ae;generalize upd H lk (.lst (kept.map V.str))=H0 at s0 ek0⊢;have let_at:∀x:Int,∃j:Nat,j<26/\(j:Int)=x % 26/\rB (az).cps.toList (x % 26)=some (97+j):=fun x=>by
  have n0:=ej x (show(26:Int)≠0 by decide);have n1:=dt x (show(0:Int)<26 by decide);have za:=JR (i:=(x % 26).toNat) (by lia);rw[show(((x % 26).toNat:Nat):Int)=x % 26 by lia] at za;exact⟨_,by lia,by lia,za⟩
 refine⟨fun σ H'=>H'=H0/\∃(z:Str) (o6:Option V),σ=[some (.int c),some (.int m),some (.str az),some (.ref lk),some (.int (2+c % 10)),some (.str z),o6,none,none,none,none,none]/\z.length=n/\Bz z,?_,?_⟩
 · refine⟨_,rfl,by lia,by lia,?_⟩;refine ke (fun i σ H'=>H'=H0/\∃(z:Str) (o6:Option V),σ=[some (.int c),some (.int m),some (.str az),some (.ref lk),some (.int (2+c % 10)),some (.str z),o6,none,none,none,none,none]/\z.length=i/\Bz z) ⟨rfl,⟨#[]⟩,none,rfl,rfl,Ep⟩ ?_ ?_
   · rintro i σ H' hi ⟨rfl,z,o6,rfl,hz,hsm⟩;obtain⟨j,hj,_,za⟩:=let_at (c/10+(0+(i:Int)) * (c/260));have hi':i<n:=by lia
     refine⟨⟨by decide,by decide⟩,⟨by decide,by decide⟩,.inl ⟨by lia,by lia⟩,(show(0:Int)<26 by decide),az,_,_,rfl,rfl,bD (by rw[DT];decide),za,z,_,rfl,rfl,?_,?_⟩
     · show z.length+1<=sizeLine;exact bD (by lia)
     · refine⟨rfl,_,_,rfl,?_,pz hsm (vW hj)⟩;rw[bw,hz];rfl
   · rintro σ H' ⟨rfl,z,o6,rfl,hz,hsm⟩;exact⟨rfl,z,_,rfl,by lia,hsm⟩
 rintro σ H' ⟨rfl,z,o6,rfl,hz,hsm⟩;have k0:=ej (c/3) (show(2+c % 10:Int)≠0 by lia);have k1:=dt (c/3) (show(0:Int)<2+c % 10 by lia);obtain⟨k,hk,hkn⟩:∃k:Nat,(k:Int)=c/3 % (2+c % 10)/\k<n:=⟨(c/3 % (2+c % 10)).toNat,by lia,by lia⟩;refine⟨⟨by decide,by decide⟩,(show(0:Int)<2+c % 10 by lia),?_⟩;refine⟨au _,fun ln hln=> ?_⟩;have s1:=af hln (.lst []);have hlnH:H ln=none:=fE s0 hln;have nkl:lk≠ln:=bI ek0 hln;have b0:=ej (c/10) (show(26:Int)≠0 by decide);have b1:=dt (c/10) (show(0:Int)<26 by decide);obtain⟨b,hb,hb26⟩:∃b:Nat,(b:Int)=c/10 % 26/\b<26:=⟨(c/10 % 26).toNat,by lia,by lia⟩;refine⟨26,rfl,by decide,by decide,?_⟩;refine ke (fun i σ H'=>∃(ws:List Str) (o6 o9 o10 o11:Option V),σ=[some (.int c),some (.int m),some (.str az),some (.ref lk),some (.int (2+c % 10)),some (.str z),o6,some (.int (c/3 % (2+c % 10))),some (.ref ln),o9,o10,o11]/\Same H H'/\H' lk=some (.lst (kept.map V.str))/\H' ln=some (.lst (ws.map V.str))/\(ws.length:Int)<=m/\(∀y∈ws,wd y)/\((ws.length:Int)=m\/Bg b i<=ws.length))
  ⟨[],o6,none,none,none,rfl,s0.trans s1,s1 _ _ ek0,ae,by simp;lia,fun y hy=>(nomatch hy),.inr (au _)⟩ ?_ ?_
 · rintro i σ H2 hi ⟨ws,o6,o9,o10,o11,rfl,sm,ek,ep,hl,hw,hg⟩;rw[show(0:Int)+(i:Int)=(i:Int) by lia];obtain⟨j,hj,hj2,za⟩:=let_at (c/10+(i:Int));have hjb:j=(b+i) % 26:=by lia
   have wn:=AS (c:=97+j) hsm (by lia) (show k<z.length by lia) (by lia) (by lia);have e1:=qe z k;have e2:=kX z (k+1);have nm:(Txt.slice z none (some (c/3 % (2+c % 10)))++⟨#[97+j]⟩++Txt.slice z (some (c/3 % (2+c % 10)+1)) none:Str)=lg z k (97+j):=by
    unfold lg;rw[hk]
   rw[hk] at e1;rw[show(((k+1:Nat):Int))=c/3 % (2+c % 10)+1 by lia] at e2;refine⟨⟨by decide,by decide⟩,(show(0:Int)<26 by decide),az,_,_,rfl,rfl,bD (by rw[DT];decide),za,?_⟩;refine⟨_,rfl,z,rfl,bD (by lia),_,_,rfl,rfl,bD (by show _+1<=1000;lia),_,rfl,z,rfl,bD (by lia),_,_,rfl,rfl,bD (by rw[bw];show _+1+_<=1000;lia),?_⟩;rw[nm];refine⟨fun σ H'=>∃y:Str,σ=[some (.int c),some (.int m),some (.str az),some (.ref lk),some (.int (2+c % 10)),some (.str z),o6,some (.int (c/3 % (2+c % 10))),some (.ref ln),some (.int (i:Int)),some (.str ⟨#[97+j]⟩),some (.str y)]/\Same H2 H'/\wd y/\(2<=i->97+j∈y.cps.toList),?_,?_⟩
   · refine⟨⟨by decide,by decide⟩,(show(0:Int)<3 by decide),gJ (fun _=> ?_) (fun _=> ?_)⟩
     · have lm:=Er z;refine⟨_,rfl,z,rfl,bD (by lia),z,_,rfl,rfl,bD (by show _+1<=1000;lia),bD (by show 3<=1000;decide),fun l3 hl3=> ?_⟩;have s3:=af hl3 (.lst [.str z,.str (Txt.slice z none (some (-1))),.str (z++⟨#[97+j]⟩)]);refine⟨_,_,rfl,?_⟩;have w0:wd z:=⟨by lia,by lia,hsm⟩;have w1:wd (Txt.slice z none (some (-1))):=⟨by lia,by lia,j4 hsm⟩;have w2:wd (z++⟨#[97+j]⟩):=⟨by rw[bw];show 1<=_+1;lia,by rw[bw];show _+1<=12;lia,pz hsm (vW hj)⟩
       match i,hi with
       | 0,_=>exact⟨_,_,SqL.of ae,rfl,z,rfl,s3,w0,fun h=>absurd h (by decide)⟩
       | 1,_=>exact⟨_,_,SqL.of ae,rfl,_,rfl,s3,w1,fun h=>absurd h (by decide)⟩
       | i+2,_=>
         have e3:(if(2:Int)<((i+2:Nat):Int) then(2:Int) else((i+2:Nat):Int))=2:=by split<;>lia
         refine⟨_,.str (z++⟨#[97+j]⟩),SqL.of ae,?_,_,rfl,s3,w2,fun _=>uH (.inr (by simp))⟩;show rB _ (if(2:Int)<((i+2:Nat):Int) then(2:Int) else((i+2:Nat):Int))=_;rw[e3];rfl
     · exact⟨lg z k (97+j),rfl,fun _ _ h=>h,wn,fun _=>yv z k _⟩
   rintro σ H3 ⟨y,rfl,s3,wy,gy⟩;have ek3:=s3 _ _ ek;have ep3:=s3 _ _ ep;have stp:=Bf b i;refine⟨ln,_,rfl,.inl (SqL.of ep3),?_⟩;rw[aw];refine gJ (fun c1=> ?_) (fun c1=> ?_)
   · have c1':=ck c1;refine⟨lk,_,rfl,.inl (SqL.of ek3),rfl,Bj,?_⟩;show if(!BC (.str y) (kept.map V.str))=true then _ else _
     cases c2:BC (.str y) (kept.map V.str) with
     | true=>
       refine⟨ws,_,_,_,_,rfl,sm.trans s3,ek3,ep3,hl,hw,hg.imp id fun h=> ?_⟩;rw[stp,aG]
       · exact h
       · intro z2;unfold uS at z2;rw[ba,dy,<-hjb] at z2;have:=Dw (gy z2.1) (by rw[Nat.add_sub_cancel_left];exact z2.2);rw[this] at c2;cases c2
     | false=>
       refine⟨.inl ⟨rfl,_,SqL.of ep3⟩,_,ep3,cm (by rw[aw];lia),ws++[y],_,_,_,_,rfl,dh (sm.trans s3) hlnH,by rw[aM nkl];exact ek3,?_,by rw[ak];show((ws.length+1:Nat):Int)<=m;lia,fun u hu=> ?_,?_⟩
       · rw[ae,bC];rfl
       · rcases aI.mp hu with hu | hu
         · exact hw u hu
         · rw[ay.mp hu];exact wy
       · refine .inr ?_;rw[stp,ak];rcases hg with h | h
         · lia
         · show _<=ws.length+1
           split<;>lia
   · have c1':¬ (ws.length:Int)<m:=fun y=>c1 (ax y);exact⟨ws,_,_,_,_,rfl,sm.trans s3,ek3,ep3,hl,hw,.inl (by lia)⟩
 · rintro σ H2 ⟨ws,o6,o9,o10,o11,rfl,sm,ek,ep,hl,hw,hg⟩;refine q ln H2 ws sm hlnH ep (hg.elim id fun h=> ?_) hw;have:=DA b (cy.mpr hb26);have h':Bg b 26<=ws.length:=h
   lia
def B6:bb rJ rJ (aJ tQ):=fS
def AD(F:Fun K "_law_things" "_law_things" tQ f fd)(Gnm:Cl P w K mg base 1 "_law_names" rJ tK):bK P w K mg base eJ 2 f fd rJ vF:=by
 refine F.o B6 fun cdv A outer s H vs Q E hr h=> ?_;obtain⟨c,m,rfl,hm0,hm4,q⟩:=h;refine⟨_,bg (c_ (pE ["_law_name"] [] [] rfl (bY (eU Gnm hr (dW aC bu))) (fun _ _ _=>fw 0 Lc) (fun _ _ _=>iY) (fun _ _ _=>(bq gT (EW (K':=K) rfl PySem.F.plainAttrs_str PySem.F.slot_str_upper PySem.F.type_str_upper C1 (jM uO aC aD)) (fb qi aC (fC aD) gE))))),?_⟩;refine⟨c,m,rfl,hm0,hm4,fun p H1 ws s1 hp ep lw hw=> ?_⟩;refine⟨⟨_,SqL.of ep⟩,fun D hD=> ?_⟩;refine qY (ws.map V.str).length (fun i σ H'=>(∃o,σ=[o])/\Same H1 H'/\∃us:List Str,H' D=some (.lst (us.map V.str))/\us.length=i/\∀u∈us,thg u) ⟨⟨_,rfl⟩,af hD _,[],ae,rfl,fun _ h=>(ai h).elim⟩ ?_ ?_
 · rintro σ H2 ⟨_,s2,us,e2,lu,hu⟩;rw[aw] at lu;exact⟨⟨_,SqL.of (s2 _ _ ep),aq _⟩,q D H2 us (s1.trans s2) (fE s1 hD) e2 (by lia) hu⟩
 · rintro i σ H2 hi ⟨⟨o,rfl⟩,s2,us,e2,lu,hu⟩;have ep2:=s2 _ _ ep;refine⟨⟨_,(ws.map V.str)[i],SqL.of ep2,by simp[hi]⟩,?_⟩;rintro y H3 ⟨rfl,hy⟩;have hy2:=hy _ (SqL.of ep2);rw[aw] at hi;rw[aV,aE hi] at hy2;cases hy2;obtain⟨l1,l2,l3⟩:=hw _ (iO hi);have lm:(ws.map V.str).length=ws.length:=aw ..;generalize ws[i]=z at l1 l2 l3⊢;cases e:z.cps.toList with
   | nil=>have:=hX z;rw[e] at this;simp at this;lia
   | cons c' r=>
     obtain⟨c1,c2⟩:=l3 c' (by rw[e];simp);have up:Txt.upper ⟨#[c']⟩=⟨#[c' - 32]⟩:=GK c' (cy.mpr (by lia)) c1;have e1:=kX z 1;refine⟨z,_,_,rfl,rfl,bD (by lia),by rw[e];exact aX (j:=0) rfl,rfl,_,rfl,rfl,by show 1<=1000;decide,?_⟩;rw[up];refine⟨_,rfl,z,rfl,bD (by lia),_,_,rfl,rfl,bD (by show 1+_<=1000;have:(Txt.slice z (some 1) none).length=z.length - 1:=e1;lia),?_⟩;refine⟨_,e2,cm (by rw[aw];lia),⟨_,rfl⟩,dh s2 hD,us++[⟨#[c' - 32]⟩++Txt.slice z (some 1) none],?_,by rw[ak,lu];rfl,fun u hu'=> ?_⟩
     · rw[ae,bC];rfl
     · rcases aI.mp hu' with h | h
       · exact hu u h
       · rw[ay.mp h];exact GO (by lia) (by lia) (by have:(Txt.slice z (some 1) none).length=z.length - 1:=e1;lia) (j4 l3)
end
structure En(H:Hp)(lk lt:Addr)(ws ts:List Str):Prop where
 hk:H lk=some (.lst (ws.map V.str))
 lw:ws.length=4
 ht:H lt=some (.lst (ts.map V.str))
 lt':ts.length=3
def En.same(e:En H lk lt ws ts)(s:Same H H'):En H' lk lt ws ts:=⟨s _ _ e.hk,e.lw,s _ _ e.ht,e.lt'⟩
inductive vM(n:Nat)(vs:List V)(H:Hp)(Q:VK):Prop
 | mk:∀(c:Int) (lk lt:Addr) (ws ts:List Str) (d:Nat),(vs=[.int c,.ref lk,.ref lt,.int (d:Int)])->En H lk lt ws ts->(d<n)->(∀(v:V) (H':Hp) (k:Kd),Same H H'->IsK H' k v->k.nt+1<=2^d->k.dep<=d->mT ws ts k->Q v H')->vM n vs H Q
def kW(n:Nat):Sp:=fun vs H Q _=>vM n vs H Q
noncomputable abbrev wh2:List Str:=["anything","nothing"]
def oC{ws:List Str}(h:0<ws.length):∃z∈ws,rB (ws.map V.str) (x % ((ws.map V.str).length:Int))=some (.str z):=ze (ej _ (by rw[aw];lia)) (by rw[aw];exact dt _ (by lia))
section
def scKind:bb ["_law_cell_here","_law_names_here","_law_ties","_law_deep","_law_row","_law_one"] ud (aJ zC):=fS
def E6(hk0:1<=k0)(F:Fun K "_law_kind" "_law_kind" zC f fd)(Gk:Cl P w K mg base k0 "_law_kind" ud (kW n))(ml:mg "len"=none)(Gnx:Cl P w K mg base 1 "_law_next" yb tJ):bK P w K mg base eJ (k0+1) f fd ud (kW (n+1)):=by
 refine F.o scKind fun cdv A outer s H vs Q E hr h=> ?_;obtain⟨c,lk,lt,ws,ts,d,rfl,en,hd,q⟩:=h;have kGk:=F.kp;refine⟨_,aZ (bH (PW.pt (Ci (fu dv bZ aD) (yc (fu mB (bq cN aC aD) aD)))) (aZ (eV 4 scKind.nd (bq qD (bq qD (bq qD bu bu) bu) (bE (dW aN aN)))) (bg (c_ (jM bS cL (bq cN (bq d5 aC aD) (xx ml cL)))))) br)
  (aZ (eV 5 scKind.nd (eU Gk hr (jo (eU Gnx hr (dW aC aD)) bu bx (bq yh bZ aD))))
  (aZ (bH (fu mB (bq cN aC aD) aD) (bg (c_ (bL (eY aN (jM bS bx (bq cN (bq d5 aC aD) (xx ml bx))) dJ)))) br)
  (bg (c_ (bL (eY aN dJ (eU Gk hr (jo (eU Gnx hr (dW aC aD)) bu bx (bq yh bZ aD))))))))),?_⟩
 have lw:=en.lw;have lts:=en.lt';refine(fun lf=>gJ (fun _=>lf) fun hd0=>⟨(show(0:Int)<7 by decide),gJ (fun _=>lf) fun _=> ?_⟩) ?_
 · refine⟨lk,lk,_,_,rfl,rfl,en.hk,en.hk,bD (by rw[aw];lia),fun l1 h1=> ?_⟩;have y1:=af h1 (.lst (ws.map V.str++ws.map V.str));refine⟨l1,lk,_,_,rfl,rfl,ae,y1 _ _ en.hk,bD (by rw[ak,aw];lia),fun l2 h2=> ?_⟩;have y2:=y1.trans (af h2 (.lst (ws.map V.str++ws.map V.str++ws.map V.str)));refine⟨bD (by show 2<=1000;decide),fun l3 h3=> ?_⟩;have y3:=af h3 (.lst [.str "anything",.str "nothing"]);refine⟨l2,l3,_,_,rfl,rfl,y3 _ _ ae,ae,bD (by rw[ak,ak,aw];show _+2<=1000;lia),fun l4 h4=> ?_⟩;have y4:=(y2.trans y3).trans (af h4 (.lst ((ws.map V.str++ws.map V.str++ws.map V.str)++[.str "anything",.str "nothing"])));have er:(ws.map V.str++ws.map V.str++ws.map V.str)++[.str "anything",.str "nothing"]=(ws++ws++ws++wh2).map V.str:=by simp
   have hpos:0<(ws++ws++ws++wh2).length:=by rw[ak];exact ah (show 0<wh2.length by decide) (Nat.le_add_left _ _)
   obtain⟨z,hz,ez⟩:=oC (ws:=ws++ws++ws++wh2) (x:=c/7) hpos;rw[<-er] at ez;refine⟨⟨by decide,by decide⟩,l4,_,rfl,.inl (SqL.of ae),by rw[er,aw];exact Int.natCast_pos.mpr hpos,_,_,SqL.of ae,ez,?_⟩;refine q _ _ (.nm z) y4 rfl Nat.one_le_two_pow (au _) ?_;rcases aI.mp hz with h | h
   · exact .inl (by simpa using h)
   · exact .inr (by simpa using h)
 obtain⟨e,rfl⟩:∃e,d=e+1:=⟨d - 1,by have:d≠0:=fun z=>hd0 (ax (by rw[z];rfl));lia⟩;have ed:((e+1:Nat):Int) - 1=(e:Int):=by lia
 have p2:2^(e+1)=2 * 2^e:=by rw[jY];lia
 refine⟨c,0,rfl,by decide,by decide,fun r=> ?_⟩;refine⟨r,lk,lt,ws,ts,e,by rw[<-ed];rfl,en,by lia,fun v1 H1 k1 s1 i1 n1 d1 nm1=> ?_⟩;refine⟨(show(0:Int)<7 by decide),gJ (fun _=> ?_) fun _=> ?_⟩
 · obtain⟨z,hz,ez⟩:=oC (ws:=ts) (x:=c/7) (by lia);refine⟨⟨by decide,by decide⟩,lt,_,rfl,.inl (SqL.of (s1 _ _ en.ht)),by rw[aw];lia,_,_,SqL.of (s1 _ _ en.ht),ez,by show 3<=sizeLine;decide,fun t ht=> ?_⟩;have y:=af ht (.tup [.str "some",.str z,v1]);exact q _ _ (.som z k1) (s1.trans y) ⟨t,v1,rfl,ae,IsK.mono y.tups i1⟩ (by show 1+k1.nt+1<=_;lia) (by show 1+k1.dep<=_;lia) ⟨hz,nm1⟩
 · refine⟨c,1,rfl,by decide,by decide,fun r2=> ?_⟩;refine⟨r2,lk,lt,ws,ts,e,by rw[<-ed];rfl,en.same s1,by lia,fun v2 H2 k2 s2 i2 n2 d2 nm2=> ?_⟩;refine⟨by show 3<=sizeLine;decide,fun t ht=> ?_⟩;have y:=af ht (.tup [.str "both",v1,v2]);exact q _ _ (.two k1 k2) ((s1.trans s2).trans y) ⟨t,v1,v2,rfl,ae,IsK.mono (s2.trans y).tups i1,IsK.mono y.tups i2⟩ (by show 1+k1.nt+k2.nt+1<=_;lia) (by show 1+max k1.dep k2.dep<=_;lia) ⟨nm1,nm2⟩
def AZ:bK P w K mg base eJ 1 f fd ud (kW 0):=by
 have no:∀vs H Q E,¬ kW 0 vs H Q E:=fun vs H Q E h=>by
  obtain⟨c,lk,lt,ws,ts,d,_,_,h,_⟩:=h
  lia
 exact⟨fun vs H Q E h=>absurd h (no vs H Q E),fun A outer s H args us vs Q E _ _ _ _ h=>absurd h (no vs H Q E)⟩
theorem wU(A:Fq K mg "_law_kind" zC ud)(ml:mg "len"=none)(Gnx:Cl P w K mg base 1 "_law_next" yb tJ):∀n:Nat,Cl P w K mg base (n+1) "_law_kind" ud (kW n)
 | 0=>A.cl fun _=>AZ
 | n+1=>A.cl fun F=>E6 (by lia) F (wU A ml Gnx n) ml Gnx
end
inductive pW(vs:List V)(H:Hp)(Q:VK):Prop
 | mk:∀c lk lt lh ws ts hs,(vs=[.int c,.ref lk,.ref lt,.ref lh])->En H lk lt ws ts->H lh=some (.lst (hs.map V.str))->hs.length=3->(∀z∈ws,wd z)->(∀z∈hs,thg z)->(∀v H' s,Same H H'->IsSy H' s v->dS ws ts hs s->Q v H')->pW vs H Q
def vH:Sp:=fun vs H Q _=>pW vs H Q
section
def scSaying:bb ["_law_cell_here","_law_names_here","_law_ties","_law_things_here","_law_deep","_law_one","_law_other","_law_way","_law_a","_law_b","_law_r","_law_s"] EL (aJ tS):=fS
def AG(F:Fun K "_law_saying" "_law_saying" tS f fd)(ml:mg "len"=none)(Gnx:Cl P w K mg base 1 "_law_next" yb tJ)(Gk:Cl P w K mg base 4 "_law_kind" ud (kW 3)):bK P w K mg base eJ 5 f fd EL vH:=by
 refine F.o scSaying fun cdv A outer s H vs Q E hr h=> ?_;obtain⟨c,lk,lt,lh,ws,ts,hs,rfl,en,hh,l3,hw,hg,q⟩:=h;refine⟨_,aZ (eV 4 scSaying.nd (bq gU aD (bq cN aC aD))) (aZ (eV 5 scSaying.nd (eU Gk hr (jo (eU Gnx hr (dW aC aD)) bu bx cL))) (aZ (eV 6 scSaying.nd (eU Gk hr (jo (eU Gnx hr (dW aC aD)) bu bx cL))) (aZ (eV 7 scSaying.nd (bq cN (eU Gnx hr (dW aC aD)) aD)) (aZ (eV 8 scSaying.nd (jM bS bZ (bq cN (bq d5 aC aD) (xx ml bZ)))) (aZ (eV 9 scSaying.nd (jM bS bZ (bq cN (bq d5 aC aD) (xx ml bZ)))) (aZ (eV 10 scSaying.nd (jM bS bx (bq cN (bq d5 aC aD) (xx ml bx)))) (aZ (eV 11 scSaying.nd (jM bS bx (bq cN (bq d5 aC aD) (xx ml bx)))) (aZ (bH (fu mB iX aD) (bg (c_ (bL (eY aN dJ eZ)))) br) (aZ (bH (fu mB iX aD) (bg (c_ (bL (eY aN (jM bS bu (bq cN (bq d5 aC aD) (xx ml bu))) eZ)))) br) (aZ (bH (fu mB iX aD) (bg (c_ (jM bS (bE (dW (bL (eY aN dJ eZ)) (bL (eY aN ku eZ)))) (bq cN iX aD)))) br) (aZ (bH (fu mB iX aD) (bg (c_ (jM bS (bE (dW (bL (jo aN ku jJ (pv 9))) (bL (eY aN jJ (pv 11))))) (bq cN iX aD)))) br) (bg (c_ (bL (jo aN jJ (pv 11) (jM bS bx (bq cN (bq d5 aC aD) (xx ml bx)))))))))))))))))),?_⟩;have m0:=ej c (show(2:Int)≠0 by decide);have m1:=dt c (show(0:Int)<2 by decide);obtain⟨d,hd,d1,d2⟩:∃d:Nat,(d:Int)=1+c % 2/\1<=d/\d<=2:=⟨(1+c % 2).toNat,by lia,by lia,by lia⟩;have lw:=en.lw;have lts:=en.lt';have dw:∀z∈ws,dk (.nm z):=fun z h=>Gy (hw z h);have pd:2^d<=2^2:=jj (by decide) d2;refine⟨(show(0:Int)<2 by decide),?_⟩;refine⟨c,0,rfl,by decide,by decide,fun r0=> ?_⟩;refine⟨r0,lk,lt,ws,ts,d,by rw[hd];rfl,en,by lia,fun v1 H1 k1 s1 i1 n1 p1 nm1=> ?_⟩;refine⟨c,1,rfl,by decide,by decide,fun r1=> ?_⟩;refine⟨r1,lk,lt,ws,ts,d,by rw[hd];rfl,en.same s1,by lia,fun v2 H2 k2 s2 i2 n2 p2 nm2=> ?_⟩;have s02:=s1.trans s2;have e2:=en.same s02;have hh2:=s02 _ _ hh;have i12:=IsK.mono s2.tups i1;have g1:dn ws ts k1:=Ad (by lia) (by lia) nm1 dw;have g2:dn ws ts k2:=Ad (by lia) (by lia) nm2 dw;refine⟨c,2,rfl,by decide,by decide,fun r2=>⟨(show(0:Int)<11 by decide),?_⟩⟩;obtain⟨a,ha,ea⟩:=oC (ws:=hs) (x:=c/2) (by lia);obtain⟨b,hb,eb⟩:=oC (ws:=hs) (x:=c/14) (by lia);obtain⟨r,hr',er⟩:=oC (ws:=ts) (x:=c/98) (by lia);obtain⟨u,hu,eu⟩:=oC (ws:=ts) (x:=c/686) (by lia);obtain⟨t,ht,et⟩:=oC (ws:=ts) (x:=c/4802) (by lia);obtain⟨y,hy,ey⟩:=oC (ws:=ws) (x:=c/2) (by lia);have pl:∀{xs:List Str},0<xs.length->(0:Int)<((xs.map V.str).length:Int):=fun h=>by rw[aw];lia
 have sh:=SqL.of (K:=K) hh2;have st:=SqL.of (K:=K) e2.ht;have sk:=SqL.of (K:=K) e2.hk;refine⟨⟨by decide,by decide⟩,lh,_,rfl,.inl sh,pl (by lia),_,_,sh,ea,?_⟩;refine⟨⟨by decide,by decide⟩,lh,_,rfl,.inl sh,pl (by lia),_,_,sh,eb,?_⟩;refine⟨⟨by decide,by decide⟩,lt,_,rfl,.inl st,pl (by lia),_,_,st,er,?_⟩;refine⟨⟨by decide,by decide⟩,lt,_,rfl,.inl st,pl (by lia),_,_,st,eu,?_⟩;have fin:∀{H3:Hp} {t0:Addr} {xs:List V} (s:Sy),Same H2 H3->H3 t0=none->KL H3 xs s.parts->dS ws ts hs s->Q (.ref t0) (upd H3 t0 (.tup (.str (vo s.hd)::xs))):=fun s s3 h0 kl ds=>q _ _ s ((s02.trans s3).trans (af h0 _)) (eR h0 kl) ds;have ga:a∈hs/\dk (.nm a):=⟨ha,DJ (hg a ha)⟩;have gb:b∈hs/\dk (.nm b):=⟨hb,DJ (hg b hb)⟩;have rf:Same H2 H2:=fun _ _ h=>h;refine gJ (fun _=> ?_) fun _=> ?_
 · exact⟨by show 3<=sizeLine;decide,fun t0 h0=>fin (.every k1 k2) rf h0 (.cons i12 (.cons i2 .nil)) ⟨g1,g2⟩⟩
 refine gJ (fun _=> ?_) fun _=> ?_
 · exact⟨⟨by decide,by decide⟩,lk,_,rfl,.inl sk,pl (by lia),_,_,sk,ey,by show 3<=sizeLine;decide,fun t0 h0=>fin (.every (.nm y) k2) rf h0 (.cons rfl (.cons i2 .nil)) ⟨⟨dw y hy,au _,.inl hy⟩,g2⟩⟩
 have w0:=ej (r2 % 11) (show(2:Int)≠0 by decide);have w1:=dt (r2 % 11) (show(0:Int)<2 by decide);have two:∀{t1 t2:Addr} {H3:Hp} {s1 s2:Sy} {l:Addr},Same H2 H3->IsSy H3 s1 (.ref t1)->IsSy H3 s2 (.ref t2)->dS ws ts hs s1->dS ws ts hs s2->H3 l=none->∃xs v,SqL K (upd H3 l (.lst [.ref t1,.ref t2])) l xs/\rB xs (r2 % 11 % 2)=some v/\Q v (upd H3 l (.lst [.ref t1,.ref t2])):=fun {t1 t2 H3 s1 s2 l} s3 j1 j2 g1 g2 hl=>by
  have y:=af hl (.lst [.ref t1,.ref t2]);rcases(show r2 % 11 % 2=0\/r2 % 11 % 2=1 by lia) with e | e<;>rw[e]
  · exact⟨_,_,SqL.of ae,rfl,q _ _ s1 ((s02.trans s3).trans y) (IsSy.mono y.tups j1) g1⟩
  · exact⟨_,_,SqL.of ae,rfl,q _ _ s2 ((s02.trans s3).trans y) (IsSy.mono y.tups j2) g2⟩
 refine gJ (fun _=> ?_) fun _=> ?_
 · refine⟨by show 3<=sizeLine;decide,fun t1 h1=> ?_⟩;have y1:=af h1 (.tup [.str "no",v1,v2]);refine⟨by show 3<=sizeLine;decide,fun t2 h2=> ?_⟩;have y2:=af h2 (.tup [.str "thing",.str a,v2]);refine⟨by show 2<=sizeLine;decide,fun l hl=>⟨(show(0:Int)<2 by decide),?_⟩⟩;obtain⟨xs,v,z1,z2,z3⟩:=two (y1.trans y2) (IsSy.mono y2.tups (eR (s:= .no k1 k2) h1 (.cons i12 (.cons i2 .nil)))) (eR (s:= .thing a k2) h2 (.cons rfl (.cons (IsK.mono y1.tups i2) .nil))) ⟨g1,g2⟩ ⟨ga,g2⟩ hl;exact⟨xs,v,z1,z2,z3⟩
 refine gJ (fun _=> ?_) fun _=> ?_
 · refine⟨by show 4<=sizeLine;decide,fun t1 h1=> ?_⟩;have y1:=af h1 (.tup [.str "tied",.str a,.str r,.str b]);refine⟨by show 3<=sizeLine;decide,fun t2 h2=> ?_⟩;have y2:=af h2 (.tup [.str "within",.str r,.str u]);refine⟨by show 2<=sizeLine;decide,fun l hl=>⟨(show(0:Int)<2 by decide),?_⟩⟩;obtain⟨xs,v,z1,z2,z3⟩:=two (y1.trans y2) (IsSy.mono y2.tups (eR (s:= .tied a r b) h1 (.cons rfl (.cons rfl (.cons rfl .nil))))) (eR (s:= .within r u) h2 (.cons rfl (.cons rfl .nil))) ⟨ga,gb,hr'⟩ ⟨hr',hu⟩ hl;exact⟨xs,v,z1,z2,z3⟩
 · exact⟨⟨by decide,by decide⟩,lt,_,rfl,.inl st,pl (by lia),_,_,st,et,by show 4<=sizeLine;decide,fun t0 h0=>fin (.makes r u t) rf h0 (.cons rfl (.cons rfl (.cons rfl .nil))) ⟨hr',hu,ht⟩⟩
end
def yC(K:Frag):kitOne K (.type "tuple") (.type "tuple")=some true:=by first | rfl | decide | with_unfolding_all rfl
def HU(K:Frag):kitOne K (.type "str") (.type "tuple")=some false:=by first | rfl | decide | with_unfolding_all rfl
noncomputable def Kd.ms:Kd->Nat
 | .nm _=>1
 | .two a b=>1+Kd.ms a+Kd.ms b
 | .som _ c=>2+Kd.ms c
theorem zW:∀k:Kd,Kd.ms k<=2 * k.sz
 | .nm _=>by simp[Kd.ms,Kd.sz]
 | .two a b=>by have:=zW a;have:=zW b;simp only[Kd.ms,Kd.sz];lia
 | .som _ c=>by have:=zW c;simp only[Kd.ms,Kd.sz];lia
noncomputable def msL(l:List Kd):Nat:=(l.map Kd.ms).sum
def mF(a b:List Kd):msL (a++b)=msL a+msL b:=by simp[msL]
theorem zX:∀l:List Kd,l.length<=msL l
 | []=>aq _
 | k::l=>by
   have:=zX l;have h:1<=Kd.ms k:=by cases k<;>simp only[Kd.ms]<;>lia
   show l.length+1<=Kd.ms k+msL l
   lia
theorem C3:∀{l:List Kd},(∀k∈l,k.sz<=7)->msL l<=14 * l.length
 | [],_=>au _
 | k::l,h=>by
   have h1:=C3 (l:=l) fun k' hk=>h k' (aH _ hk);have h2:=h k aO;have h3:=zW k;show Kd.ms k+msL l<=14 * (l.length+1)
   lia
theorem z0:∀{vs:List V} {ks:List Kd},KL H vs ks->0<vs.length->∃v k us js,vs=us++[v]/\ks=js++[k]/\KL H us js/\IsK H k v
 | _,_,.nil,h=>absurd h (by simp)
 | _,_,.cons (b:=k) r .nil,_=>⟨_,k,[],[],rfl,rfl,.nil,r⟩
 | _,_,.cons r (.cons r2 t),_=>by
   obtain⟨v,k,us,js,e1,e2,h1,h2⟩:=z0 (.cons r2 t) (by simp);exact⟨v,k,_::us,_::js,by rw[e1];rfl,by rw[e2];rfl,.cons r h1,h2⟩
inductive su(vs:List V)(H:Hp)(Q:VK):Prop
 | mk:∀v s,(vs=[v])->IsSy H s v->(∀k∈s.parts,k.sz<=7)->(∀H' n,Same H H'->Q (.int n) H')->su vs H Q
def zi:Sp:=fun vs H Q _=>su vs H Q
section
def scSomes:bb ["_law_saying_here","_law_todo","_law_found","_law_here"] EK (aJ xS):=fS
def CH(F:Fun K "_law_somes" "_law_somes" xS f fd)(ml:mg "len"=none)(mls:mg "list"=none)(mi:mg "isinstance"=none)(mt:mg "tuple"=none)(mint:mg "int"=none):bK P w K mg base eJ 1 f fd EK zi:=by
 refine F.o scSomes fun cdv A outer s H vs Q E hr h=> ?_;obtain⟨v,sy,rfl,isy,hz,q⟩:=h;have hu:=fY hr;refine⟨_,aZ (eV 1 scSomes.nd (dM fH rfl mls bQ (eE (fb tO aC (fC aD) gE))))
  (aZ (eV 2 scSomes.nd aD)
  (aZ (qx pL (fu Gh (xx ml bu) aD) (aZ (eV 3 scSomes.nd (yg nR PySem.F.slot_list_pop PySem.F.type_list_pop HF bu)) (bg (bH (fN (Hg mi mt IU bZ)) (aZ (uh (i:=2) scSomes.nd rfl (Or.inl rfl) (dM Bu rfl mint PyProof.Rows.boot_int (eE (K9 dv (eS bZ) aN))) yF) (bg (bh (Gb nR PySem.F.slot_list_extend PySem.F.type_list_extend AU bu (eE (dM fH rfl mls bQ (eE (fb tO bZ (fC aD) gE)))))))) br))))
  (bg (c_ bx)))),?_⟩
 obtain⟨pv,us,rfl,hpv,hL⟩:=isy;have lp:us.length<=3:=by rw[KL.len hL];exact sR sy
 refine⟨1,rfl,pv,_,rfl,SqT.of hpv,B9 _ _,fun pt hpt=> ?_⟩;rw[DM];have y1:=af hpt (.tup us);refine⟨pt,us,rfl,.inr (SqT.of ae),fun l hl=> ?_⟩;have y2:=y1.trans (af hl (.lst us));have hl0:=fE y1 hl;have k2:=KL.mono y2.tups hL;have e2:upd (upd H pt (.tup us)) l (.lst us) l=some (.lst us):=ae;generalize upd (upd H pt (.tup us)) l (.lst us)=H2 at y2 k2 e2⊢;have m0:=C3 hz;have lpp:=sR sy;obtain⟨W,hW⟩:∃W:Nat->L2.St->Hp->Prop,∀m σ H',W m σ H'↔∃(n:Int) (o3:Option V) (vs:List V) (ks:List Kd),σ=[some (.ref pv),some (.ref l),some (.int n),o3]/\Same H H'/\H' l=some (.lst vs)/\KL H' vs ks/\m=msL ks/\m<=42:=⟨_,fun _ _ _=>Iff.rfl⟩;refine⟨W,⟨msL sy.parts,(hW _ _ _).mpr ⟨0,none,us,_,rfl,y2,e2,k2,rfl,by lia⟩⟩,?_⟩;intro m σ H3 hw;obtain⟨n,o3,vs,ks,rfl,s3,e3,kl,hm,h42⟩:=(hW _ _ _).mp hw;refine⟨l,vs,rfl,.inl (SqL.of e3),?_⟩;by_cases he:0<vs.length
 · show if decide ((0:Int)<((vs.length:Nat):Int))=true then _ else _
   rw[ax (show(0:Int)<((vs.length:Nat):Int) by lia)];refine⟨fun σ' H'=>∃m',m'<m/\W m' σ' H',fun _ _ h=>h,?_⟩;obtain⟨v,k,us',js,rfl,rfl,kl',ik⟩:=z0 kl he;refine⟨.inl ⟨rfl,_,SqL.of e3⟩,l,_,v,rfl,rfl,e3,by simp,?_⟩;rw[List.dropLast_concat];have tu:Tups H3 (upd H3 l (.lst us')):=fun b xs e=>by rw[aM (fun z=>by rw[z,e3] at e;cases e)];exact e
   have s4:Same H (upd H3 l (.lst us')):=dh s3 hl0;have e4:upd H3 l (.lst us') l=some (.lst us'):=ae;have ik4:=IsK.mono tu ik;have kl4:=KL.mono tu kl';generalize upd H3 l (.lst us')=H4 at tu s4 e4 ik4 kl4⊢;rw[mF] at hm;have lj:us'.length<=42:=by rw[KL.len kl4];have:=zX js;lia
   refine gn ?_;cases k with
   | nm x=>
     cases ik4;exact⟨_,_,_,false,rfl,TyOf.str x,HU K,_,by show msL js<m;simp[msL,Kd.ms] at hm⊢;lia,(hW _ _ _).mpr ⟨n,_,us',js,rfl,s4,e4,kl4,rfl,by lia⟩⟩
   | two a b=>
     obtain⟨p,x,y,rfl,hp,ia,ib⟩:=ik4;refine⟨_,_,_,true,rfl,TyOf.tup hp,yC K,?_⟩;refine⟨_,rfl,eF hp rfl (.inr ⟨_,rfl,_,_,rfl,rfl,?_⟩)⟩;refine⟨.inl ⟨rfl,_,SqL.of e4⟩,1,rfl,p,_,rfl,SqT.of hp,B9 _ _,fun t5 h5=> ?_⟩;rw[DM];have y5:=af h5 (.tup [x,y]);refine⟨t5,_,rfl,.inr (SqT.of ae),fun l6 h6=> ?_⟩;have y6:=y5.trans (af h6 (.lst [x,y]));have e6:=y6 _ _ e4;refine⟨l,l6,us',[x,y],rfl,rfl,e6,ae,ao (show us'.length+2<=44 by lia) (by decide),?_⟩;have tu7:Tups (upd (upd H4 t5 (.tup [x,y])) l6 (.lst [x,y])) (upd (upd (upd H4 t5 (.tup [x,y])) l6 (.lst [x,y])) l (.lst (us'++[x,y]))):=fun b xs e=>by rw[aM (fun z=>by rw[z,e6] at e;cases e)];exact e
     have t8:=y6.tups.trans tu7;exact⟨msL (js++[a,b]),by rw[mF];simp[msL,Kd.ms] at hm⊢;lia,(hW _ _ _).mpr ⟨_,_,_,js++[a,b],rfl,dh (s4.trans y6) hl0,ae,oQ (KL.mono t8 kl4) (.cons (IsK.mono t8 ia) (.cons (IsK.mono t8 ib) .nil)),rfl,by rw[mF];simp[msL,Kd.ms] at hm⊢;lia⟩⟩
   | som r c=>
     obtain⟨p,y,rfl,hp,ib⟩:=ik4;have ia:IsK H4 (.nm r) (.str r):=rfl;refine⟨_,_,_,true,rfl,TyOf.tup hp,yC K,?_⟩;refine⟨_,rfl,eF hp rfl (.inr ⟨_,rfl,_,_,rfl,rfl,?_⟩)⟩;refine⟨.inl ⟨rfl,_,SqL.of e4⟩,1,rfl,p,_,rfl,SqT.of hp,B9 _ _,fun t5 h5=> ?_⟩;rw[DM];have y5:=af h5 (.tup [.str r,y]);refine⟨t5,_,rfl,.inr (SqT.of ae),fun l6 h6=> ?_⟩;have y6:=y5.trans (af h6 (.lst [.str r,y]));have e6:=y6 _ _ e4;refine⟨l,l6,us',[.str r,y],rfl,rfl,e6,ae,ao (show us'.length+2<=44 by lia) (by decide),?_⟩;have tu7:Tups (upd (upd H4 t5 (.tup [.str r,y])) l6 (.lst [.str r,y])) (upd (upd (upd H4 t5 (.tup [.str r,y])) l6 (.lst [.str r,y])) l (.lst (us'++[.str r,y]))):=fun b xs e=>by rw[aM (fun z=>by rw[z,e6] at e;cases e)];exact e
     have t8:=y6.tups.trans tu7;exact⟨msL (js++[.nm r,c]),by rw[mF];simp[msL,Kd.ms] at hm⊢;lia,(hW _ _ _).mpr ⟨_,_,_,js++[.nm r,c],rfl,dh (s4.trans y6) hl0,ae,oQ (KL.mono t8 kl4) (.cons (IsK.mono t8 ia) (.cons (IsK.mono t8 ib) .nil)),rfl,by rw[mF];simp[msL,Kd.ms] at hm⊢;lia⟩⟩
 · show if decide ((0:Int)<((vs.length:Nat):Int))=true then _ else _
   rw[ag (show ¬ (0:Int)<((vs.length:Nat):Int) by lia)];exact q _ _ s3
end
def xw(H:Hp)(v:V)(s:Sy):Prop:=IsSy H s v
def vS:Mo xw:=fun _ _ _ _ t h=>IsSy.mono t h
def dS.sz7(h:dS ws ts hs s):∀k∈s.parts,k.sz<=7:=fun k hk=>by
 have n:∀{x:Str},(Kd.nm x).sz<=7:=by intro x;show 1<=7;decide
 cases s<;>simp only[Sy.parts,aL,ai,cj] at hk
 · rcases hk with rfl | rfl
   · exact h.1.1.2.1
   · exact h.2.1.2.1
 · rcases hk with rfl | rfl
   · exact h.1.1.2.1
   · exact h.2.1.2.1
 · rcases hk with rfl | rfl
   · exact n
   · exact h.2.1.2.1
 · rcases hk with rfl | rfl | rfl<;>exact n
 · rcases hk with rfl | rfl<;>exact n
 · rcases hk with rfl | rfl | rfl<;>exact n
def Lb:((([("_law_other":Str)]:List Str)++[]):List Str).Nodup:=by decide+kernel
def GL(hd:H d=some (.lst xs)):Tups H (upd H d u):=fun b xs e=>by rw[aM (fun z=>by rw[z,hd] at e;cases e)];exact e
inductive zw(vs:List V)(H:Hp)(Q:VK):Prop
 | mk:∀l m xs ss ws ts hs,(vs=[.ref l,.int m])->H l=some (.lst xs)->Paired (xw H) xs ss->(∀s∈ss,dS ws ts hs s)->ss.length<=6->(∀p H' ys ss',Same H H'->H p=none->H' p=some (.lst ys)->Paired (xw H') ys ss'->ss'.length<=ss.length->(∀s∈ss',dS ws ts hs s)->Q (.ref p) H')->zw vs H Q
def F6:Sp:=fun vs H Q _=>zw vs H Q
inductive l_(vs:List V)(H:Hp)(Q:VK):Prop
 | mk:∀l c xs ss,(vs=[.ref l,.int c])->H l=some (.lst xs)->Paired (xw H) xs ss->ss.length<=6->(∀p H' ys ps,Same H H'->H p=none->H' p=some (.lst ys)->PrL H' ys ps->ps.length=ss.length->(∀q∈ps,q.2∈ss)->Q (.ref p) H')->l_ vs H Q
def pX:Sp:=fun vs H Q _=>l_ vs H Q
section
def scFew:bb ["_law_sayings","_law_most","_law_kept","_law_somes_here","_law_saying_here"] EI (aJ Hb):=fS
def Hx(F:Fun K "_law_few" "_law_few" Hb f fd)(Gso:Cl P w K mg base 1 "_law_somes" EK zi):bK P w K mg base eJ 2 f fd EI F6:=by
 refine F.o scFew fun cdv A outer s H vs Q E hr h=> ?_;obtain⟨l,m,xs,ss,ws,ts,hs,rfl,el,hss,hd,l6,q⟩:=h;refine⟨_,aZ (eV 2 scFew.nd (bE bO)) (aZ (eV 3 scFew.nd aD) (aZ (mw (bY aC) (fw 4 scFew.nd) (aZ (bH (fu Gh (bq gU bZ (eU Gso hr (eE cL))) bu) (bg (wg)) br) (aZ (uh (i:=3) scFew.nd rfl (Or.inl rfl) (eU Gso hr (eE cL)) yF) (jn (bH (PW.pt (qu (fu dv (eS cL) aN) (pC (fu nF aN (pE ["_law_other"] [] [] rfl (bY bx) (fun _ _ _=>fw 0 Lb) (fun _ _ _=>iY) (fun _ _ _=>(jM (r:=Cd K) jb aC aD))))))) (bg (eV 4 scFew.nd (bL (eY aN (eS cL) (eS cL))))) br) (bg (bh (BB bx cL))))))) (bg (c_ bx)))),?_⟩;have lxs:xs.length=ss.length:=aR hss;refine⟨au _,fun p hp=> ?_⟩;have y1:=af hp (.lst []);refine⟨⟨_,SqL.of (y1 _ _ el)⟩,cf (xs:=xs) (fun i σ H'=>∃(n:Int) (o4:Option V) (ys:List V) (ss':List Sy),σ=[some (.ref l),some (.int m),some (.ref p),some (.int n),o4]/\Same H H'/\H' p=some (.lst ys)/\Paired (xw H') ys ss'/\ss'.length<=i/\∀s∈ss',dS ws ts hs s) ⟨0,none,[],[],rfl,y1,ae,.nil,aq _,fun _ h=>(ai h).elim⟩ ?_ ?_ ?_⟩
 · rintro i σ H' _ ⟨n,o4,ys,ss',rfl,s1,_⟩;exact SqL.of (s1 _ _ el)
 · rintro i v σ H' hv ⟨n,o4,ys,ss',rfl,s1,ep,pr,ls,ds⟩;obtain⟨sy,hsy,isy⟩:=bN hss hv;have hi:i<xs.length:=(bp.mp hv).1;have dsy:=hd sy (av hsy);have i1:=IsSy.mono s1.tups isy;refine gn ?_;refine⟨v,sy,rfl,i1,dsy.sz7,fun H2 n2 s2=> ?_⟩;have lys:ys.length=ss'.length:=aR pr;refine gJ (fun _=> ?_) fun _=> ?_
   · exact⟨n,_,ys,ss',rfl,s1.trans s2,s2 _ _ ep,zP vS s2.tups pr,MS ls,ds⟩
   refine⟨_,rfl,v,sy,rfl,IsSy.mono s2.tups i1,dsy.sz7,fun H3 n3 s3=>⟨_,_,rfl,rfl,?_⟩⟩;have s13:=s1.trans (s2.trans s3);have ep3:=(s2.trans s3) _ _ ep;have pr3:=zP vS (s2.trans s3).tups pr;have i3:=IsSy.mono (s2.trans s3).tups i1;refine⟨fun σ H4=>∃(v':V) (s':Sy),σ=[some (.ref l),some (.int m),some (.ref p),some (.int (n+n3)),some v']/\Same H3 H4/\IsSy H4 s' v'/\dS ws ts hs s',?_,?_⟩
   · obtain⟨pv,us,rfl,hpv,hL⟩:=id i3;cases sy with
     | makes a b c=>
       obtain⟨w1,w2,w3,rfl,k1,k2,k3⟩:=Fn hL;cases k1;cases k3;refine eF hpv rfl ?_;refine⟨⟨_,SqL.of ep3⟩,fun D hD=> ?_⟩;refine qY ys.length (fun i σ H'=>(∃o,σ=[o])/\Same H3 H'/\∃zs:List Str,H' D=some (.lst (zs.map V.str))/\zs.length<=i) ⟨⟨_,rfl⟩,af hD _,[],ae,aq _⟩ ?_ ?_
       · rintro σ H4 ⟨_,s4,zs,e4,_⟩;refine⟨⟨_,SqL.of (s4 _ _ ep3),aq _⟩,?_⟩;refine⟨D,_,rfl,.inl (SqL.of e4),rfl,kg zs,gJ (fun _=> ?_) fun _=> ?_⟩
         · have h4:=s4 _ _ hpv;refine eF h4 rfl (eF h4 rfl ⟨by show 3<=sizeLine;decide,fun t ht=> ?_⟩);exact⟨.ref t,.within a c,rfl,s4.trans (af ht _),eR (s:= .within a c) (xs:=[.str a,.str c]) ht (.cons rfl (.cons rfl .nil)),dsy.1,dsy.2.2⟩
         · exact⟨_,_,rfl,s4,IsSy.mono s4.tups i3,dsy⟩
       · rintro j σ H4 hj ⟨⟨o,rfl⟩,s4,zs,e4,lz⟩;have ep4:=s4 _ _ ep3;refine⟨⟨_,ys[j],SqL.of ep4,by simp[hj]⟩,?_⟩;rintro y H5 ⟨rfl,hy⟩;obtain⟨s5,_,i5⟩:=bN (zP vS s4.tups pr3) (hy _ (SqL.of ep4));obtain⟨p5,u5,rfl,h5,_⟩:=id i5;refine eF h5 (aX (j:=0) rfl) ⟨_,e4,cm (by rw[aw];lia),⟨_,rfl⟩,dh s4 hD,zs++[vo s5.hd],?_,by rw[ak];exact dQ lz⟩;rw[ae,bC];rfl
     | _=>exact eF hpv (aX (j:=0) rfl) ⟨_,_,rfl,fun _ _ h=>h,i3,dsy⟩
   rintro σ H4 ⟨v',s',rfl,s4,i4,d4⟩;have ep4:=s4 _ _ ep3;have tu:=GL (u:= .lst (ys++[v'])) ep4;refine⟨.inl ⟨rfl,_,SqL.of ep4⟩,ys,ep4,cm (by lia),?_⟩;refine⟨_,_,ys++[v'],ss'++[s'],rfl,dh (s13.trans s4) hp,ae,oQ (zP vS (s4.tups.trans tu) pr3) (.cons (IsSy.mono tu i4) .nil),by rw[ak];exact dQ ls,fun u hu=> ?_⟩;rcases aI.mp hu with h | h
   · exact ds u h
   · rw[ay.mp h];exact d4
 rintro σ H' ⟨n,o4,ys,ss',rfl,s1,ep,pr,ls,ds⟩;exact q p H' ys ss' s1 hp ep pr (by lia) ds
def scNumbered:bb ["_law_sayings","_law_cell_here","_law_number","_law_pairs","_law_saying_here"] EJ (aJ nB):=fS
def wz(F:Fun K "_law_numbered" "_law_numbered" nB f fd):bK P w K mg base eJ 1 f fd EJ pX:=by
 refine F.o scNumbered fun cdv A outer s H vs Q E hr h=> ?_;obtain⟨l,c,xs,ss,rfl,el,hss,l6,q⟩:=h;refine⟨_,aZ (eV 2 scNumbered.nd aD) (jn (bH (fu dv (bq cN bu aD) aD) (bg (eV 2 scNumbered.nd (bq cN (bq d5 bu aD) (bq uq aD aD)))) br) (aZ (eV 3 scNumbered.nd (bE bO)) (aZ (mw (bY aC) (fw 4 scNumbered.nd) (aZ (eV 2 scNumbered.nd (bq gU (bq gU bx aD) (bq cN (bq d5 bu aD) aD))) (bg (bh (BB bZ (bL (dW bx cL))))))) (bg (c_ bZ))))),?_⟩;have lxs:xs.length=ss.length:=aR hss;refine⟨fun σ H'=>∃n:Int,σ=[some (.ref l),some (.int c),some (.int n),none,none]/\H'=H,?_,?_⟩
 · refine⟨(show(0:Int)<4 by decide),gJ (fun _=> ?_) fun _=>⟨0,rfl,rfl⟩⟩;exact⟨⟨by decide,by decide⟩,⟨by decide,by decide,by decide⟩,(show(0:Int)<10^(30:Int).toNat by decide),_,rfl,rfl⟩
 rintro σ H' ⟨n0,rfl,rfl⟩;refine⟨au _,fun p hp=> ?_⟩;have y1:=af hp (.lst []);refine⟨⟨_,SqL.of (y1 _ _ el)⟩,cf (xs:=xs) (fun i σ H2=>∃(n:Int) (o4:Option V) (ys:List V) (ps:List (Int × Sy)),σ=[some (.ref l),some (.int c),some (.int n),some (.ref p),o4]/\Same H' H2/\H2 p=some (.lst ys)/\PrL H2 ys ps/\ps.length=i/\∀q∈ps,q.2∈ss) ⟨n0,none,[],[],rfl,y1,ae,.nil,rfl,fun _ h=>(ai h).elim⟩ ?_ ?_ ?_⟩
 · rintro i σ H2 _ ⟨n,o4,ys,ps,rfl,s1,_⟩;exact SqL.of (s1 _ _ el)
 · rintro i v σ H2 hv ⟨n,o4,ys,ps,rfl,s1,ep,pr,ls,ds⟩;obtain⟨sy,hsy,isy⟩:=bN hss hv;have hi:i<xs.length:=(bp.mp hv).1;have lys:ys.length=ps.length:=aR pr;refine gn ?_;refine⟨⟨by decide,by decide⟩,(show(0:Int)<3 by decide),?_⟩;refine⟨.inl ⟨rfl,_,SqL.of ep⟩,by show 2<=sizeLine;decide,fun t ht=> ?_⟩;have y2:=af ht (.tup [.int (n+1+c/4 % 3),v]);have ep2:=y2 _ _ ep;have tu:=GL (u:= .lst (ys++[.ref t])) ep2;refine⟨ys,ep2,cm (by lia),?_⟩;refine⟨_,_,ys++[.ref t],ps++[(n+1+c/4 % 3,sy)],rfl,dh (s1.trans y2) hp,ae,oQ (PrL.mono (y2.tups.trans tu) pr) (.cons ⟨t,v,rfl,tu _ _ ae,IsSy.mono ((s1.trans y2).tups.trans tu) isy⟩ .nil),by rw[ak,ls];rfl,fun u hu=> ?_⟩;rcases aI.mp hu with h | h
   · exact ds u h
   · rw[ay.mp h];exact av hsy
 rintro σ H2 ⟨n,o4,ys,ps,rfl,s1,ep,pr,ls,ds⟩;exact q p H2 ys ps s1 hp ep pr (by lia) ds
end
inductive zr(K:Frag)(vs:List V)(H:Hp)(Q:VK):Prop
 | mk:∀(a:Addr) (ns:List Int),(vs=[.ref a])->(SqL K H a (ns.map V.int))->(ns.length<=63)->(∀H',Q (.bl true) H')->zr K vs H Q
def zt(K:Frag):Sp:=fun vs H Q _=>zr K vs H Q
def DL(ns:List Int)(lo hi:Option Int):∃ms:List Int,rP (ns.map V.int) lo hi=ms.map V.int/\ms.length<=HT.sIx ns.length ns.length hi - HT.sIx ns.length 0 lo:=by
 refine⟨(ns.drop (HT.sIx ns.length 0 lo)).take (HT.sIx ns.length ns.length hi - HT.sIx ns.length 0 lo),?_,?_⟩
 · unfold rP;rw[aw,<-List.map_drop,<-List.map_take]
 · rw[cS];exact Nat.min_le_left _ _
def HE:((([("_law_cell_here":Str)]:List Str)++[("_law_names_here":Str),("_law_ties":Str),("_law_things_here":Str)]):List Str).Nodup:=by decide+kernel
def pQ(h:thg t):dA (.nm t)=true:=by
 obtain⟨h1,c,r,e,c1,c2,h3⟩:=h;show eM t=true;unfold eM qQ;have hl:=hX t;rw[e] at hl;simp only[bj] at hl;rw[e,ax (show 1<=t.length by lia),ax h1];have b1:jV c=true:=by unfold jV;exact ax ⟨c1,c2⟩
 have b2:r.all dI=true:=dU.mpr fun d hd=>by unfold dI;exact ax (h3 d hd)
 show(true&&true&&(jV c&&r.all dI))=true;rw[b1,b2];rfl
def Res(ts:List Str)(ps:List (Int × Sy))(b:Bool)(q:Sy × Fa):Prop:=∃Tn S',rn ts ps (oM q.2) (yK q.2) Tn S'/\b=yH (S'.steps.map (·.f)) q.2
def Res.one(h:Res ts ps b q)(g:Res ts ps c q):b=c:=by
 obtain⟨T,S,h1,rfl⟩:=h;obtain⟨T',S',g1,rfl⟩:=g;rw[As h1 g1]
def IC(H:Hp)(v:V)(q:Sy × Fa):Prop:=∃p vq va,v= .ref p/\H p=some (.tup [vq,va])/\IsSy H q.1 vq/\IsF H q.2 va
def mL:Mo IC:=fun _ _ _ _ t ⟨p,vq,va,e,h,i,j⟩=>⟨p,vq,va,e,t _ _ h,IsSy.mono t i,IsF.mono t j⟩
def gDu(ts hs:List Str)(ps:List (Int × Sy))(q:Sy × Fa):Prop:=mS q.1=some q.2/\FOk q.2/\LawD ts hs ps (oM q.2) (yK q.2)
section
def gK.sz(hw:∀z∈ws,wd z)(ht:∀z∈ts,wd z)(hn:k.nt+1<=2^2)(hd:k.dep<=2)(h:mT ws ts k):gK ts k/\k.sz<=7:=⟨Aa hw ht h (by lia) (by lia),by have:=iF k;lia⟩
def gDu.is(ht:∀z∈ts,wd z)(lt:ts.length<=3)(hh:∀z∈hs,thg z)(hw:∀z∈ws,wd z)(hp:∀q∈ps,dS ws ts hs q.2)(lp:ps.length<=6)(e:mS s=some (.is x k))(gx:gP x/\x.sz<=15/\(gK ts x\/dA x=true))(gk:gK ts k/\k.sz<=7):gDu ts hs ps (s,.is x k):=by
 refine⟨e,⟨gx.1,gk.1.gP⟩,ht,lt,hh,⟨ws,hw,hp⟩,fun z hz=> ?_,fun z hz=> ?_,lp,?_,?_,?_⟩
 · unfold oM at hz
   split at hz
   · cases hz
   · rename_i n;rw[ay.mp hz];exact gx.2.2.resolve_right n
 · rw[ay.mp hz];exact gk.1
 · have:=xG (n:=14) (ps:=ps) (fun q hq=>(hp q hq).szs);lia
 · unfold oM
   split
   · exact au _
   · show x.sz+0<=15;exact gx.2.1
 · show k.sz+0<=7;exact gk.2
def atI_last{v:V}:rB (ys++[v]) (-1)=some v:=by
 unfold rB Fp;rw[aG (by decide),aK (by rw[ak];show -((ys.length+1:Nat):Int)<= -1;lia)];show(ys++[v])[((-1:Int)+((ys++[v]).length:Int)).toNat]? =_;rw[show((-1:Int)+((ys++[v]).length:Int)).toNat=ys.length by rw[ak];show((-1:Int)+((ys.length+1:Nat):Int)).toNat=_;lia,bV (aq _),Nat.sub_self];rfl
def uW(iq:IsSy H q vq)(s:Same H H2)(ia:IsF H2 f va)(hp:H2 p=none):IC (upd H2 p (.tup [vq,va])) (.ref p) (q,f):=⟨p,vq,va,rfl,ae,IsSy.mono (s.trans (af hp _)).tups iq,IsF.mono (af hp _).tups ia⟩
def C0(h:thg z):gP (.nm z):=⟨jx h,au _,by show 1<=60;decide⟩
def Ll(ht:∀z∈[t0,t1,t2],wd z)(hh:∀z∈hs,thg z)(hw:∀z∈ws,wd z)(hp:∀q∈ps,dS ws [t0,t1,t2] hs q.2)(lp:ps.length<=6)(hn1:k1.nt+1<=2^2)(hd1:k1.dep<=2)(h1:mT ws [t0,t1,t2] k1)(hn2:k2.nt+1<=2^2)(hd2:k2.dep<=2)(h2:mT ws [t0,t1,t2] k2)(hza:za∈hs)(hzb:zb∈hs):∀q∈[(Sy.every k1 k2,Fa.is k1 k2),(.no k1 k2,.is (.two k1 k2) gV),(.thing za k2,.is (.nm za) k2),(.tied za t0 zb,.has (.nm za) t0 (.nm zb))],gDu [t0,t1,t2] hs ps q:=by
 have g1:=gK.sz hw ht hn1 hd1 h1;have g2:=gK.sz hw ht hn2 hd2 h2;have l3:[t0,t1,t2].length<=3:=aq _;have g0:gK [t0,t1,t2] gV:=Aa hw ht (.inr (.inr rfl)) (au _) (au _);have g12:gK [t0,t1,t2] (.two k1 k2):=Aa hw ht ⟨h1,h2⟩ (by simp only[Kd.nt];lia) (by simp only[Kd.dep];lia);have s12:(Kd.two k1 k2).sz<=15:=by have:=g1.2;have:=g2.2;simp only[Kd.sz];lia
 intro q hq;simp only[aL,ai,cj] at hq;rcases hq with rfl | rfl | rfl | rfl
 · exact gDu.is ht l3 hh hw hp lp rfl ⟨g1.1.gP,by have:=g1.2;lia,.inl g1.1⟩ g2
 · exact gDu.is ht l3 hh hw hp lp rfl ⟨g12.gP,s12,.inl g12⟩ ⟨g0,by show 1<=7;decide⟩
 · exact gDu.is ht l3 hh hw hp lp rfl ⟨C0 (hh _ hza),by show 1<=15;decide,.inr (pQ (hh _ hza))⟩ g2
 · have e:oM (.has (.nm za) t0 (.nm zb))=[]:=aK (pQ (hh _ hza));refine⟨rfl,⟨C0 (hh _ hza),fQ (ht t0 (aO ..)),C0 (hh _ hzb)⟩,?_⟩;show LawD _ _ _ (oM (.has (.nm za) t0 (.nm zb))) [];rw[e];refine⟨ht,l3,hh,⟨ws,hw,hp⟩,fun _ h=>(ai h).elim,fun _ h=>(ai h).elim,lp,?_,au _,au _⟩;have:=xG (n:=14) (ps:=ps) (fun q hq=>(hp q hq).szs);lia
end
noncomputable abbrev SW(a ln lt lh:Addr)(v1 v2:V)(o6 o7 o8 o9 o10 o11 o12 o13 o14 o15 o16 o17:Option V):L2.St:=[some (.ref a),some (.ref ln),some (.ref lt),some (.ref lh),some v1,some v2,o6,o7,o8,o9,o10,o11,o12,o13,o14,o15,o16,o17]
section
def scLaw:bb ["_law_script","_law_names_here","_law_ties","_law_things_here","_law_one","_law_other","_law_sayings","_law_pairs","_law_a","_law_b","_law_due","_law_told","_law_question","_law_aim","_law_found","_law_handed","_law_way","_law_k"] Cf (aJ Ha):=fS
def Hw(F:Fun K "law" "law" Ha f fd)(ml:mg "len"=none)(mr:mg "range"=none)(mls:mg "list"=none)(mi:mg "isinstance"=none)(mt:mg "tuple"=none)(mb:mg "bool"=none)(Gc:Cl P w K mg base 1 "_law_cell" Cg (B0 K))(Gnm:Cl P w K mg base 1 "_law_names" rJ tK)(Gt:Cl P w K mg base 2 "_law_things" rJ vF)(Gk:Cl P w K mg base 4 "_law_kind" ud (kW 3))(Gsy:Cl P w K mg base 5 "_law_saying" EL vH)(Gfw:Cl P w K mg base 2 "_law_few" EI F6)(Gnu:Cl P w K mg base 1 "_law_numbered" EJ pX)(Ggl:Cl P w K mg base 1 "goal" kJ xI)(Gfo:Cl P w K mg base 67 "follows" jK sM)(Grf:Cl P w K mg base 5 "_law_refused" k8 j3)(Gbb:Cl P w K mg base 5 "_law_by_base" k8 j3):bK P w K mg base eJ 68 f fd Cf (zt K):=by
 refine F.o scLaw fun cdv A outer s H vs Q E hr h=> ?_;obtain⟨a,ns,rfl,hS,h63,q⟩:=h;refine⟨_,aZ (eV 1 scLaw.nd (eU Gnm hr (dW (eU Gc hr (dW aC aD)) aD))) (aZ (eV 2 scLaw.nd (eU Gnm hr (dW (eU Gc hr (dW aC aD)) aD))) (aZ (eV 3 scLaw.nd (eU Gt hr (dW (eU Gc hr (dW aC aD)) aD))) (aZ (eV 4 scLaw.nd (eU Gk hr (jo (bq cN (eU Gc hr (dW aC aD)) (bq uq aD aD)) bu bx aD))) (aZ (eV 5 scLaw.nd (eU Gk hr (jo (bq cN (eU Gc hr (dW aC aD)) (bq uq aD aD)) bu bx aD))) (jn (eV 6 scLaw.nd (eU Gfw hr (dW (pE ["_law_cell_here"] ["_law_names_here","_law_ties","_law_things_here"] [1,2,3] rfl (bY (fb Es aC (fC aD) (fC aD))) (fun _ _ _=>fw 0 HE) (fun _ _ _=>iY) (fun _ _ _=>(eU Gsy hr (jo (bq cN aC (bq uq aD aD)) bu bx bZ)))) aD))) (aZ (eV 7 scLaw.nd (eU Gnu hr (dW eZ (eU Gc hr (dW aC aD))))) (aZ (eV 8 scLaw.nd (jM bS bZ (bq cN (eU Gc hr (dW aC aD)) aD))) (aZ (eV 9 scLaw.nd (jM bS bZ (bq cN (eU Gc hr (dW aC aD)) aD))) (aZ (eV 10 scLaw.nd (bE (dW (bL (dW (bL (eY aN cL dJ)) (bL (eY aN cL dJ)))) (bL (dW (bL (eY aN cL dJ)) (bL (eY aN (bL (eY aN cL dJ)) aN))))))) (jn (eV 10 scLaw.nd (bq qD jJ (bE (dW (bL (dW (bL (eY aN ku dJ)) (bL (eY aN ku dJ)))) (bL (dW (bL (jo aN ku (EO bx) (pv 9))) (bL (jo aN ku (EO bx) (pv 9))))))))) (aZ (eV 11 scLaw.nd (bE bO)) (jn (mw (bY jJ) (eO rfl (bz (fw 12 scLaw.nd) (bz (fw 13 scLaw.nd) dD))) (aZ (eV 14 scLaw.nd (eU Ggl hr (eE (pv 12)))) (aZ (bH (PW.pt (Ci (qw (fN (Hg mi mt IU (pv 14)))) (yc (fu (Hr hr.units) (pv 14) (pv 13))))) (bg (c_ fD)) br) (aZ (bh (BB (pv 11) (eU Gfo hr (dW (dM fH rfl mls bQ (eE iX)) (pv 12))))) (bg (bH (qw (fN (Hg mi mb PyProof.Rows.boot_bool (jM bS (pv 11) (oA xB aD))))) (bg (c_ fD)) br)))))) (aZ (eV 15 scLaw.nd (dM fH rfl mls bQ (eE iX))) (jn (mw (bY (bE (eY (bL (eY aN (EO bx) (EO bx))) (bL (jo aN (EO bx) (EO bx) (EO bx))) (bL (eY aN (EO bx) (EO bx)))))) (fw 12 scLaw.nd) (bg (mw (j7 rfl mr (eE aD)) (fw 16 scLaw.nd) (bg (bH (PW.pt (Ci (qw (fN (eU Grf hr (eY (pv 16) (pv 15) (pv 12))))) (yc (qw (fN (eU Gbb hr (eY (pv 16) (pv 15) (pv 12)))))))) (bg (c_ fD)) br))))) (aZ (mw (j7 rfl mr (eE (xx ml jJ))) (fw 17 scLaw.nd) (bg (bH (fu Gf (eU Gfo hr (dW (pv 15) (eS (jM bS jJ (pv 17))))) (jM bS (pv 11) (pv 17))) (bg (c_ fD)) br))) (bg (c_ (K9 (CD hr.units) (pv 15) iX)))))))))))))))))),?_⟩;have c30:IF 10 30:=⟨by decide,by decide,by decide⟩;have p30:(0:Int)<10^(30:Int).toNat:=by decide
 refine⟨a,ns,0,rfl,hS,by decide,fun r0=>⟨_,4,rfl,by decide,by decide,fun ln H1 ws s1 f1 e1 l1 w1=> ?_⟩⟩;refine⟨a,ns,1,rfl,s1.seq hS,by decide,fun r1=>⟨_,3,rfl,by decide,by decide,fun lt H2 ts s2 f2 e2 l2 w2=> ?_⟩⟩;have s02:=s1.trans s2;refine⟨a,ns,2,rfl,s02.seq hS,by decide,fun r2=>⟨_,3,rfl,by decide,by decide,fun lh H3 hs s3 f3 e3 l3 w3=> ?_⟩⟩;have s03:=s02.trans s3;have en3:En H3 ln lt ws ts:=⟨(s2.trans s3) _ _ e1,by lia,s3 _ _ e2,by lia⟩;refine⟨a,ns,3,rfl,s03.seq hS,by decide,fun r3=>⟨c30,p30,?_⟩⟩;refine⟨_,ln,lt,ws,ts,2,rfl,en3,by decide,fun v1 H4 k1 s4 i1 n1 d1 nm1=> ?_⟩;have s04:=s03.trans s4;refine⟨a,ns,4,rfl,s04.seq hS,by decide,fun r4=>⟨c30,p30,?_⟩⟩;refine⟨_,ln,lt,ws,ts,2,rfl,en3.same s4,by decide,fun v2 H5 k2 s5 i2 n2 d2 nm2=> ?_⟩;have s05:=s04.trans s5;have en5:=(en3.same s4).same s5;have e35:=(s4.trans s5) _ _ e3;replace i1:=IsK.mono s5.tups i1;have g1:=gK.sz w1 w2 n1 d1 nm1;have g2:=gK.sz w1 w2 n2 d2 nm2;clear s1 s2 s3 s4 s5 s02 s03 s04 e1 e2 e3 en3 f1 f2 f3;refine⟨fun σ H'=>∃(l:Addr) (xs:List V) (ss:List Sy),σ=SW a ln lt lh v1 v2 (some (.ref l)) none none none none none none none none none none none/\Same H5 H'/\H' l=some (.lst xs)/\Paired (xw H') xs ss/\ss.length<=6/\∀s∈ss,dS ws ts hs s,?_,?_⟩
 · obtain⟨ms,ems,lms⟩:=DL ns (some 5) (some 11);have lms':ms.length<=6:=by
    rw[show HT.sIx ns.length ns.length (some 11)=min 11 ns.length from HT.sIx_nat _ _ 11,show HT.sIx ns.length 0 (some 5)=min 5 ns.length from HT.sIx_nat _ _ 5] at lms
    lia
   refine⟨_,rfl,_,rfl,a,_,rfl,s05.seq hS,fun lc hlc=> ?_⟩;rw[ems];have y1:=af hlc (.lst (ms.map V.int));refine⟨⟨_,SqL.of ae⟩,fun D hD=> ?_⟩;have ec:upd H5 lc (.lst (ms.map V.int)) lc=some (.lst (ms.map V.int)):=ae;generalize upd H5 lc (.lst (ms.map V.int))=H6 at y1 ec hD⊢;refine qY (ms.map V.int).length (fun i σ H'=>(∃o,σ=[o,some (.ref ln),some (.ref lt),some (.ref lh)])/\Same H6 H'/\∃xs ss,H' D=some (.lst xs)/\Paired (xw H') xs ss/\ss.length=i/\∀s∈ss,dS ws ts hs s) ⟨⟨_,rfl⟩,af hD _,[],[],ae,.nil,rfl,fun _ h=>(ai h).elim⟩ ?_ ?_
   · rintro σ H7 ⟨_,s7,xs,ss,e7,pr,ls,ds⟩;rw[aw] at ls;refine⟨⟨_,SqL.of (s7 _ _ ec),aq _⟩,?_⟩;exact⟨D,8,xs,ss,ws,ts,hs,rfl,e7,pr,ds,by lia,fun p H8 ys ss' s8 _ e8 pr8 l8 d8=>⟨p,ys,ss',rfl,(y1.trans s7).trans s8,e8,pr8,by lia,d8⟩⟩
   · rintro i σ H7 hi ⟨⟨o,rfl⟩,s7,xs,ss,e7,pr,ls,ds⟩;have ec7:=s7 _ _ ec;refine⟨⟨_,(ms.map V.int)[i],SqL.of ec7,by simp[hi]⟩,?_⟩;rintro y H8 ⟨rfl,hy⟩;have hy2:=hy _ (SqL.of ec7);have lm:(ms.map V.int).length=ms.length:=aw ..;rw[aw] at hi;rw[aV,aE hi] at hy2;cases hy2;refine⟨c30,p30,_,ln,lt,lh,ws,ts,hs,rfl,(en5.same y1).same s7,(y1.trans s7) _ _ e35,by lia,w1,w3,fun v H9 sy s9 i9 d9=> ?_⟩;have e9:=s9 _ _ e7;have tu:=GL (u:= .lst (xs++[v])) e9;have lxs:xs.length=ss.length:=aR pr;refine⟨_,e9,cm (by lia),⟨_,rfl⟩,dh (s7.trans s9) hD,xs++[v],ss++[sy],ae,oQ (zP vS (s9.tups.trans tu) pr) (.cons (IsSy.mono tu i9) .nil),by rw[ak,ls];rfl,fun u hu=> ?_⟩;rcases aI.mp hu with h | h
     · exact ds u h
     · rw[ay.mp h];exact d9
 rintro σ H6 ⟨ly,xs,ss,rfl,s6,ey,pry,l6,ds⟩;have s06:=s05.trans s6;refine⟨a,ns,2,rfl,s06.seq hS,by decide,fun r5=> ?_⟩;refine⟨ly,_,xs,ss,rfl,ey,pry,l6,fun lp H7 ys ps s7 _ ep pr lps hps=> ?_⟩;have s07:=s06.trans s7;have s57:=s6.trans s7;have en7:=en5.same s57;have e37:=s57 _ _ e35;have j1:=IsK.mono s57.tups i1;have j2:=IsK.mono s57.tups i2;have dps:∀q∈ps,dS ws ts hs q.2:=fun q h=>ds _ (hps q h);have lp6:ps.length<=6:=by lia
 clear s6 s7 s06 s05 ey pry en5 e35 i1 i2 hps ds l6 lps;obtain⟨t0,t1,t2,rfl⟩:=JI (show ts.length=3 by lia);have three:∀x:Int,∃z∈hs,rB (hs.map V.str) (x % 3)=some (.str z):=fun x=>ze (ej _ (by decide)) (by rw[show(hs.length:Int)=3 by lia];exact dt _ (by decide));refine⟨a,ns,3,rfl,s07.seq hS,by decide,fun r6=>⟨(show(0:Int)<3 by decide),?_⟩⟩;obtain⟨za,hza,eza⟩:=three r6;refine⟨_,_,SqL.of e37,eza,?_⟩;refine⟨a,ns,4,rfl,s07.seq hS,by decide,fun r7=>⟨(show(0:Int)<3 by decide),?_⟩⟩;obtain⟨zb,hzb,ezb⟩:=three r7;refine⟨_,_,SqL.of e37,ezb,?_⟩;have gdl:=Ll (zb:=zb) (t2:=t2) w2 w3 w1 dps lp6 n1 d1 nm1 n2 d2 nm2 hza hzb;have m2:2<=sizeLine:=by decide
 have m3:3<=sizeLine:=by decide
 have m4:4<=sizeLine:=by decide
 obtain⟨dl,edl⟩:∃dl,dl=[(Sy.every k1 k2,Fa.is k1 k2),(.no k1 k2,.is (.two k1 k2) gV),(.thing za k2,.is (.nm za) k2),(.tied za t0 zb,.has (.nm za) t0 (.nm zb))]:=⟨_,rfl⟩;rw[<-edl] at gdl;have ldl:dl.length=4:=by rw[edl];rfl
 have et:∀{H'},Same H7 H'->H' lt=some (.lst ([t0,t1,t2].map V.str)):=fun h=>h _ _ en7.ht;refine⟨m3,fun b1 u1=>⟨m3,fun b2 u2=>⟨m2,fun b3' u3=> ?_⟩⟩⟩;have y:=((af u1 _).trans (af u2 _)).trans (af u3 (.tup [.ref b1,.ref b2]));have z1:=uW (eR (s:= .every k1 k2) (xs:=[v1,v2]) u1 (.cons j1 (.cons j2 .nil))) (af u2 _) (jc u2 (IsK.mono (af u1 _).tups j1) (IsK.mono (af u1 _).tups j2)) u3;generalize upd (upd (upd H7 b1 _) b2 _) b3' _=H8 at y z1⊢;have i1:=IsK.mono y.tups j1;have i2:=IsK.mono y.tups j2;refine⟨m3,fun c1 u1=>⟨m3,fun c2 u2=>⟨m3,fun c3 u3=>⟨m2,fun c4 u4=> ?_⟩⟩⟩⟩;have x:=((af u1 _).trans (af u2 _)).trans ((af u3 _).trans (af u4 (.tup [.ref c1,.ref c3])));have i12:IsK _ (.two k1 k2) (.ref c2):=⟨c2,v1,v2,rfl,ae,IsK.mono ((af u1 _).trans (af u2 _)).tups i1,IsK.mono ((af u1 _).trans (af u2 _)).tups i2⟩;have z2:=uW (eR (s:= .no k1 k2) (xs:=[v1,v2]) u1 (.cons i1 (.cons i2 .nil))) ((af u2 _).trans (af u3 _)) (jc (k:=gV) u3 i12 rfl) u4;generalize upd (upd (upd (upd H8 c1 _) c2 _) c3 _) c4 _=H9 at x z2⊢;replace z1:=mL _ _ _ _ x.tups z1;replace y:=y.trans x;clear x i1 i2;refine⟨m2,fun l1 w1=> ?_⟩;have x:=af w1 (.lst [.ref b3',.ref c4]);have e1:upd H9 l1 (.lst [.ref b3',.ref c4]) l1=_:=ae;generalize upd H9 l1 (.lst [.ref b3',.ref c4])=H10 at x e1⊢;replace z1:=mL _ _ _ _ x.tups z1;replace z2:=mL _ _ _ _ x.tups z2;replace y:=y.trans x;clear x;refine⟨fun σ H'=>∃(ld:Addr) (vs:List V),σ=SW a ln lt lh v1 v2 (some (.ref ly)) (some (.ref lp)) (some (.str za)) (some (.str zb)) (some (.ref ld)) none none none none none none none/\Same H7 H'/\H' ld=some (.lst vs)/\Paired (IC H') vs dl,?_,?_⟩
 · have i2:=IsK.mono y.tups j2;refine⟨m3,fun b1 u1=>⟨m3,fun b2 u2=>⟨m2,fun b3 u3=> ?_⟩⟩⟩;have x:=((af u1 _).trans (af u2 _)).trans (af u3 (.tup [.ref b1,.ref b2]));have z3:=uW (eR (s:= .thing za k2) (xs:=[.str za,v2]) u1 (.cons rfl (.cons i2 .nil))) (af u2 _) (jc (x:= .nm za) u2 rfl (IsK.mono (af u1 _).tups i2)) u3;generalize upd (upd (upd H10 b1 _) b2 _) b3 _=H8 at x z3⊢;replace z1:=mL _ _ _ _ x.tups z1;replace z2:=mL _ _ _ _ x.tups z2;replace e1:=x _ _ e1;replace y:=y.trans x;clear x;refine⟨_,_,SqL.of (et y),aX (j:=0) rfl,m4,fun c1 u1=>⟨_,_,SqL.of (et (y.trans (af u1 _))),aX (j:=0) rfl,m4,fun c2 u2=>⟨m2,fun c3 u3=> ?_⟩⟩⟩;have x:=((af u1 _).trans (af u2 _)).trans (af u3 (.tup [.ref c1,.ref c2]));have z4:=uW (eR (s:= .tied za t0 zb) (xs:=[.str za,.str t0,.str zb]) u1 (.cons rfl (.cons rfl (.cons rfl .nil)))) (af u2 _) (wY (x:= .nm za) (y:= .nm zb) (t:=t0) u2 rfl rfl) u3;generalize upd (upd (upd H8 c1 _) c2 _) c3 _=H9 at x z4⊢;refine⟨m2,fun l2 w2=> ?_⟩;have y2:=af w2 (.lst [.ref b3,.ref c3]);have e2:upd H9 l2 (.lst [.ref b3,.ref c3]) l2=_:=ae;generalize upd H9 l2 (.lst [.ref b3,.ref c3])=H11 at y2 e2⊢;have xy:=x.trans y2;refine⟨l1,l2,_,_,rfl,rfl,xy _ _ e1,e2,m4,fun ld w3=> ?_⟩;have y3:=af w3 (.lst ([.ref b3',.ref c4]++[.ref b3,.ref c3]));have r1:=(x.trans y2).trans y3;refine⟨ld,_,rfl,y.trans r1,ae,?_⟩;rw[edl];exact .cons (mL _ _ _ _ r1.tups z1) (.cons (mL _ _ _ _ r1.tups z2) (.cons (mL _ _ _ _ r1.tups z3) (.cons (mL _ _ _ _ (y2.trans y3).tups z4) .nil)))
 clear z1 z2 e1 y u1 u2 u3 u4 w1;rintro σ H8 ⟨ld,vs,rfl,s8,eld,pdl⟩;refine⟨au _,fun l0 w0=> ?_⟩;have y0:=af w0 (.lst []);have e0:upd H8 l0 (.lst []) l0=_:=ae;generalize upd H8 l0 (.lst [])=H9 at y0 e0⊢;have lvs:vs.length=4:=(aR pdl).trans ldl;have pr7:∀{H'},Same H7 H'->PrL H' ys ps:=fun h=>PrL.mono h.tups pr;refine⟨fun σ H'=>∃(o12 o13 o14:Option V) (bs:List Bool),σ=SW a ln lt lh v1 v2 (some (.ref ly)) (some (.ref lp)) (some (.str za)) (some (.str zb)) (some (.ref ld)) (some (.ref l0)) o12 o13 o14 none none none/\Same H8 H'/\H' l0=some (.lst (bs.map V.bl))/\Paired (Res [t0,t1,t2] ps) bs dl,?_,?_⟩
 · refine⟨⟨_,SqL.of (y0 _ _ eld)⟩,cf (xs:=vs) (fun i σ H'=>∃(o12 o13 o14:Option V) (bs:List Bool),σ=SW a ln lt lh v1 v2 (some (.ref ly)) (some (.ref lp)) (some (.str za)) (some (.str zb)) (some (.ref ld)) (some (.ref l0)) o12 o13 o14 none none none/\Same H8 H'/\H' l0=some (.lst (bs.map V.bl))/\Paired (Res [t0,t1,t2] ps) bs (dl.take i)) ⟨none,none,none,[],rfl,y0,e0,.nil⟩ ?_ ?_ ?_⟩
   · rintro i σ H' hi ⟨_,_,_,_,rfl,s9,_⟩;exact SqL.of (s9 _ _ eld)
   · rintro i x σ H' hx ⟨o12,o13,o14,bs,rfl,s9,e9,pb⟩;obtain⟨qf,hq,p,vq,va,rfl,hp,iq,ia⟩:=bN pdl hx;obtain⟨a1,ok,d⟩:=gdl _ (av hq);refine⟨_,SqT.of (s9 _ _ hp),rfl,?_⟩;refine⟨vq,qf.1,qf.2,rfl,IsSy.mono s9.tups iq,a1,fun pf H10 s10 _ ig=> ?_⟩;have s810:=s9.trans s10;obtain⟨pf',z,ua,rest,epf,hpf,_⟩:=uP ig;cases epf;refine⟨_,_,_,true,rfl,TyOf.tup hpf,yC K,?_⟩;refine⟨qf.2.tx,qf.2.tx,IsF.xa ig,IsF.xa (IsF.mono s810.tups ia),Fa.dp60 ok.lo,?_⟩;rw[ax rfl];refine⟨.inl ⟨rfl,_,SqL.of (s10 _ _ e9)⟩,lp,_,rfl,.inl (SqL.of (s810 _ _ (s8 _ _ ep))),fun l2 h2=> ?_⟩;have y2:=af h2 (.lst ys);refine⟨l2,_,ys,ps,qf.1,qf.2,[t0,t1,t2],hs,rfl,ae,pr7 ((s8.trans s810).trans y2),IsSy.mono (s810.trans y2).tups iq,a1,ok,d,fun H11 b s11 rb=> ?_⟩;have s811:=(s810.trans y2).trans s11;have e11:=(s10.trans (y2.trans s11)) _ _ e9;have lb:bs.length<=4:=by rw[aR pb,cS];lia
     refine⟨_,e11,mH (by rw[aw];exact lb) (by decide),?_⟩;have tu:Same H8 (upd H11 l0 (.lst (bs.map V.bl++[.bl b]))):=dh s811 w0;refine⟨_,_,SqL.of ae,atI_last,_,_,_,true,rfl,TyOf.bl b,rN K,?_⟩;refine⟨_,_,_,bs++[b],rfl,tu,by rw[bC];exact ae,?_⟩;rw[bF,hq];exact oQ pb (.cons rb .nil)
   · rintro σ H' ⟨o12,o13,o14,bs,rfl,s9,e9,pb⟩;rw[lvs,<-ldl,a_] at pb;exact⟨o12,o13,o14,bs,rfl,s9,e9,pb⟩
 rintro σ H10 ⟨o12,o13,o14,bs,rfl,s10,e10,pb⟩;have s710:=s8.trans s10;refine⟨lp,_,rfl,.inl (SqL.of (s710 _ _ ep)),fun lq wq=> ?_⟩;have yq:=af wq (.lst ys);have eq':upd H10 lq (.lst ys) lq=_:=ae;generalize upd H10 lq (.lst ys)=H11 at yq eq'⊢;have s711:=s710.trans yq;refine⟨fun σ H'=>∃(o12 o16:Option V),σ=SW a ln lt lh v1 v2 (some (.ref ly)) (some (.ref lp)) (some (.str za)) (some (.str zb)) (some (.ref ld)) (some (.ref l0)) o12 o13 o14 (some (.ref lq)) o16 none/\Same H11 H',?_,?_⟩
 · have t0':∀{H'},Same H11 H'->SqL K H' lt ([t0,t1,t2].map V.str):=fun h=>SqL.of (et (s711.trans h));refine⟨_,_,t0' (Same.refl _),aX (j:=0) rfl,_,_,t0' (Same.refl _),aX (j:=1) rfl,m3,fun b1 u1=> ?_⟩;have y1:=af u1 (.tup [.str "within",.str t0,.str t1]);have q1:IsSy (upd H11 b1 (.tup [.str "within",.str t0,.str t1])) (.within t0 t1) (.ref b1):=eR (s:= .within t0 t1) (xs:=[.str t0,.str t1]) u1 (.cons rfl (.cons rfl .nil));generalize upd H11 b1 (.tup [.str "within",.str t0,.str t1])=H12 at y1 q1⊢;refine⟨_,_,t0' y1,aX (j:=1) rfl,_,_,t0' y1,aX (j:=0) rfl,_,_,t0' y1,aX (j:=2) rfl,m4,fun b2 u2=> ?_⟩;have y2:=y1.trans (af u2 (.tup [.str "makes",.str t1,.str t0,.str t2]));have q2:IsSy (upd H12 b2 (.tup [.str "makes",.str t1,.str t0,.str t2])) (.makes t1 t0 t2) (.ref b2):=eR (s:= .makes t1 t0 t2) (xs:=[.str t1,.str t0,.str t2]) u2 (.cons rfl (.cons rfl (.cons rfl .nil)));replace q1:=IsSy.mono (af u2 (.tup [.str "makes",.str t1,.str t0,.str t2])).tups q1;generalize upd H12 b2 (.tup [.str "makes",.str t1,.str t0,.str t2])=H13 at y2 q1 q2⊢;refine⟨_,_,t0' y2,aX (j:=2) rfl,_,_,t0' y2,aX (j:=2) rfl,m3,fun b3 u3=> ?_⟩;have y3:=y2.trans (af u3 (.tup [.str "within",.str t2,.str t2]));have q3:IsSy (upd H13 b3 (.tup [.str "within",.str t2,.str t2])) (.within t2 t2) (.ref b3):=eR (s:= .within t2 t2) (xs:=[.str t2,.str t2]) u3 (.cons rfl (.cons rfl .nil));have x3:=af u3 (.tup [.str "within",.str t2,.str t2]);replace q1:=IsSy.mono x3.tups q1;replace q2:=IsSy.mono x3.tups q2;clear x3;generalize upd H13 b3 (.tup [.str "within",.str t2,.str t2])=H14 at y3 q1 q2 q3⊢;refine⟨m3,fun lw uw=> ?_⟩;have x4:=af uw (.lst [.ref b1,.ref b2,.ref b3]);have qs:Paired (xw (upd H14 lw (.lst [.ref b1,.ref b2,.ref b3]))) [.ref b1,.ref b2,.ref b3] [.within t0 t1,.makes t1 t0 t2,.within t2 t2]:= .cons (IsSy.mono x4.tups q1) (.cons (IsSy.mono x4.tups q2) (.cons (IsSy.mono x4.tups q3) .nil));have y4:=y3.trans x4;have ew:upd H14 lw (.lst [.ref b1,.ref b2,.ref b3]) lw=_:=ae;generalize upd H14 lw (.lst [.ref b1,.ref b2,.ref b3])=H15 at y4 qs ew⊢;have no:∀s∈[Sy.within t0 t1,.makes t1 t0 t2,.within t2 t2],mS s=none:=fun s h=>by
    simp only[aL,ai,cj] at h;rcases h with rfl | rfl | rfl<;>rfl
   refine⟨⟨_,SqL.of ew⟩,cf (xs:=[.ref b1,.ref b2,.ref b3]) (fun i σ H'=>∃(o12 o16:Option V),σ=SW a ln lt lh v1 v2 (some (.ref ly)) (some (.ref lp)) (some (.str za)) (some (.str zb)) (some (.ref ld)) (some (.ref l0)) o12 o13 o14 (some (.ref lq)) o16 none/\Same H15 H') ⟨_,_,rfl,Same.refl _⟩ ?_ ?_ ?_⟩
   · rintro i σ H' hi ⟨_,_,rfl,s9⟩;exact SqL.of (s9 _ _ ew)
   · rintro i x σ H' hx ⟨o12,o16,rfl,s9⟩;obtain⟨sy,hq,isy⟩:=bN qs hx;have an:=no _ (av hq);have isy':=fun {H'} (h:Same H15 H')=>IsSy.mono h.tups isy;refine gn ⟨_,rfl,by decide,by decide,?_⟩;refine ke (fun i σ H'=>∃(o16:Option V),σ=SW a ln lt lh v1 v2 (some (.ref ly)) (some (.ref lp)) (some (.str za)) (some (.str zb)) (some (.ref ld)) (some (.ref l0)) (some x) o13 o14 (some (.ref lq)) o16 none/\Same H15 H') ⟨_,rfl,s9⟩ ?_ ?_
     · rintro j σ H2 _ ⟨_,rfl,s2⟩;refine⟨_,_,_,sy,rfl,isy' s2,an,fun H3 s3=> ?_⟩;refine⟨_,_,_,sy,rfl,isy' (s2.trans s3),an,fun H4 s4=> ?_⟩;exact⟨_,rfl,(s2.trans s3).trans s4⟩
     · rintro σ H2 ⟨_,rfl,s2⟩;exact⟨_,_,rfl,s2⟩
   · rintro σ H' ⟨_,_,rfl,s9⟩;exact⟨_,_,rfl,y4.trans s9⟩
 rintro σ H12 ⟨o12,o16,rfl,s12⟩;have eq2:=s12 _ _ eq';have el0:=(yq.trans s12) _ _ e10;have s812:=(s10.trans yq).trans s12;have eld2:=s812 _ _ eld;refine⟨ld,vs,rfl,.inl (SqL.of eld2),_,rfl,by rw[lvs];decide,by rw[lvs];decide,?_⟩;have s712:=s8.trans s812;refine ke (fun i σ H'=>∃(o17:Option V),σ=SW a ln lt lh v1 v2 (some (.ref ly)) (some (.ref lp)) (some (.str za)) (some (.str zb)) (some (.ref ld)) (some (.ref l0)) o12 o13 o14 (some (.ref lq)) o16 o17/\Same H12 H') ⟨_,rfl,Same.refl _⟩ ?_ ?_
 · rintro j σ H2 hj ⟨_,rfl,s2⟩;rw[bW] at hj;obtain⟨qf,hq,p,vq,va,ev,hp,iq,ia⟩:=bN pdl (aE hj);obtain⟨a1,ok,d⟩:=gdl _ (av hq);have s82:=s812.trans s2;have aj:∀{xs:List V} {x:V},xs[j]? =some x->rB xs (0+(j:Int))=some x:=fun h=>by rw[Int.zero_add];exact aX h
   refine⟨_,_,SqL.of (s82 _ _ eld),aj (by rw[aE hj,ev]),?_⟩;refine eF (s82 _ _ hp) (aX (j:=0) rfl) ?_;refine⟨lq,_,ys,ps,qf.1,qf.2,[t0,t1,t2],hs,rfl,s2 _ _ eq2,pr7 (s712.trans s2),IsSy.mono s82.tups iq,a1,ok,d,fun H3 b s3 rb=> ?_⟩;have lb:j<bs.length:=by rw[aR pb,ldl];lia
   obtain⟨q',hq',rb'⟩:=bN pb (aE lb);rw[hq] at hq';cases hq';have eb:=Res.one rb rb';refine⟨_,_,SqL.of ((s2.trans s3) _ _ el0),aj (by rw[aV,aE lb];rfl),?_⟩;refine oN rfl (k:=true) (by rw[eb];exact ax rfl) ?_;exact⟨_,rfl,s2.trans s3⟩
 · rintro σ H2 ⟨_,rfl,s2⟩;have s72:=s712.trans s2;refine⟨.lst (ps.map IK),.lst (ps.map IK),⟨lq,ys,rfl,s2 _ _ eq2,PrL.xas (pr7 s72)⟩,⟨lp,ys,rfl,s72 _ _ ep,PrL.xas (pr7 s72)⟩,?_,?_⟩
   · exact Cy fun q hq k hk=>ao (dS.parts w1 w2 w3 (dps q hq) k hk).1.2.1 (by decide)
   · show Q (.bl (decide _)) H2;rw[ax rfl];exact q _
end
def kO(l:K.lookup a=some ⟨.type "tuple",od,.seq its n,sl⟩)(hs:its.size<=sizeLine)(hv:Vals xs its.toList):SqT K H a xs:= .inr ⟨_,its,n,l,rfl,rfl,hs,hv⟩
def HI{p:List Value->Prop}(h:p [])(us:List Value)(e:us.length=0):p us:=by cases us with | nil=>exact h | cons=>cases e
def mZ{p:List Value->Prop}(h:∀a us,us.length=n->p (a::us))(us:List Value)(e:us.length=n+1):p us:=by cases us with | nil=>cases e | cons a us=>exact h a us (Nat.succ.inj e)
def ln1{p:List Value->Prop}(h:∀a,p [a]):∀us:List Value,us.length=1->p us:=mZ fun a=>HI (h a)
def ln2{p:List Value->Prop}(h:∀a b,p [a,b]):∀us:List Value,us.length=2->p us:=mZ fun a=>mZ fun b=>HI (h a b)
def ln3{p:List Value->Prop}(h:∀a b c,p [a,b,c]):∀us:List Value,us.length=3->p us:=mZ fun a=>mZ fun b=>mZ fun c=>HI (h a b c)
def ln4{p:List Value->Prop}(h:∀a b c d,p [a,b,c,d]):∀us:List Value,us.length=4->p us:=mZ fun a=>mZ fun b=>mZ fun c=>mZ fun d=>HI (h a b c d)
def ln5{p:List Value->Prop}(h:∀a b c d e,p [a,b,c,d,e]):∀us:List Value,us.length=5->p us:=mZ fun a=>mZ fun b=>mZ fun c=>mZ fun d=>mZ fun e=>HI (h a b c d e)
def ln6{p:List Value->Prop}(h:∀a b c d e f,p [a,b,c,d,e,f]):∀us:List Value,us.length=6->p us:=mZ fun a=>mZ fun b=>mZ fun c=>mZ fun d=>mZ fun e=>mZ fun f=>HI (h a b c d e f)
def ln7{p:List Value->Prop}(h:∀a b c d e f g,p [a,b,c,d,e,f,g]):∀us:List Value,us.length=7->p us:=mZ fun a=>mZ fun b=>mZ fun c=>mZ fun d=>mZ fun e=>mZ fun f=>mZ fun g=>HI (h a b c d e f g)
section
def nsok_of{K:Frag}{N:Addr}{oc:Value}{od:Option Addr}{es:Array DictEntry}{n:Nat}{sl:Array (Option Value)}(l:K.lookup N=some ⟨oc,od,.dict es n,sl⟩)(h:(es.toList.all fun e=>match e.key with | .str _ _=>true | _=>false)=true):nsOkIn K N=true:=by
 unfold nsOkIn;rw[l];exact(Array.all_toList ..).symm.trans h
def Jv(lC:K.lookup C=some (excClassObj nm q C N bs (.ref Ck::IH) hdct sn sub ab col dd kk0 kk1 kk2 kk3 kk5 "ValueError.__new__")):∃cd,PySem.W.clsIn K C=some cd/\∀self,refuseLoop self "__setattr__" cd.mro=pure ():=by
 refine⟨_,by unfold PySem.W.clsIn;rw[lC],fun self=> ?_⟩;show refuseLoop self "__setattr__" (.ref C:: .ref Ck::IH)=pure ();rw[refuseLoop_ref,refuseLoop_ref];exact PySem.F.store_ValueError.passes self
def BO(lk:K.lookup Ck=some ⟨ock,odk,.cls cdk,slk⟩)(ok:nsOkIn K cdk.ns=true)(ik:nsIn K cdk.ns "__init__"=some none):PySem.W.tailIn K IH (.ref Ck::IH)=true:=by
 unfold PySem.W.tailIn;dsimp only;rw[lk];dsimp only;rw[ok,ik]
 rfl
def Fd:PySem.W.kitMeta "ValueError"=true:=by decide+kernel
def HS(s:subIn K (.ref C) (.type "ValueError")=some true):kitOne K (.ref C) (.type "ValueError")=some true:=by
 unfold kitOne;rw[aG (by simp)];unfold PySem.W.kitCls;dsimp only;rw[Fd,s]
 rfl
def Dk:kitOne K (.ref C) (.ref C)=some true:=by
 unfold kitOne;rw[aK (by simp)]
def Dm(w:isClsIn K c=true)(t:typeIn K (.ref c)=some (.type "type"))(s:subIn K (.ref C) (.ref c)=some b):PySem.W.kitCls K (.ref C) (.ref c)=some b:=by
 unfold PySem.W.kitCls;dsimp only;rw[show(PySem.W.clsIn K c).isSome=true from w,t,s]
 rfl
def uM(w:isClsIn K c=true)(t:typeIn K (.ref c)=some (.type "type"))(s:subIn K (.ref C) (.ref c)=some false)(u:(Value.ref C==Value.ref c)=false):kitOne K (.ref C) (.ref c)=some false:=by
 unfold kitOne;rw[u,Dm w t s]
 rfl
def Ac(w:isClsIn K Ck=true)(t:typeIn K (.ref Ck)=some (.type "type"))(s:subIn K (.ref C) (.ref Ck)=some true)(s':subIn K (.ref Ck) (.type "BaseException")=some true):exmOne K (.ref C) (.ref Ck)=some true:=by
 unfold exmOne;rw[s',Dm w t s]
 rfl
end
section
def fAt{K:Frag}{h:Heap}{mg:Str->Option Value}{x:Str}{st:Stmt}{ps:List Str}{a:Addr}{od an:Option Addr}{sl:Array (Option Value)}{oc kV dc pm cd ct:Value}(X:K.In h)(G:h.Ns mainGlobals mg)(e:nsIn K mainGlobals x=some (some (.ref a)):=by k_is)(l:K.lookup a=some ⟨oc,od,.func (fnOf x x (eI st) (du st) (aJ st) .none kV dc pm an cd ct),sl⟩:=by k_is)(c:codeIn K cd x=true:=by k_is)(k:keepIn K (.ref a)=true:=by k_is)(hb:∀(kV doc pm:Value) (an:Option Addr) (cdv ct:Value) (us:List Value),us.length=ps.length->bindArgs (fnOf x x (eI st) (du st) (aJ st) .none kV doc pm an cdv ct) ⟨us,[]⟩=pure (ps.zip us):=by first | exact fun _ _ _ _ _ _=>K24.ln1 fun _=>rfl | exact fun _ _ _ _ _ _=>K24.ln2 fun _ _=>rfl | exact fun _ _ _ _ _ _=>K24.ln3 fun _ _ _=>rfl | exact fun _ _ _ _ _ _=>K24.ln4 fun _ _ _ _=>rfl | exact fun _ _ _ _ _ _=>K24.ln5 fun _ _ _ _ _=>rfl | exact fun _ _ _ _ _ _=>K24.ln6 fun _ _ _ _ _ _=>rfl | exact fun _ _ _ _ _ _=>K24.ln7 fun _ _ _ _ _ _ _=>rfl):Fq K mg x st ps:=⟨_,_,uU l c k,(uU l c k).binds hb,mg_of X G e⟩
def fAtM{K:Frag}{x q:Str}{st:Stmt}{ps:List Str}{a C:Addr}{od an:Option Addr}{sl:Array (Option Value)}{oc kV dc pm cd ct:Value}(e:findIn K (.ref C) x=some (some (.ref a)):=by k_is)(n:isFn K (.ref a)=true:=by k_is)(l:K.lookup a=some ⟨oc,od,.func (fnOf x q (eI st) (du st) (aJ st) .none kV dc pm an cd ct),sl⟩:=by k_is)(c:codeIn K cd q=true:=by k_is)(k:keepIn K (.ref a)=true:=by k_is)(hb:∀(kV doc pm:Value) (an:Option Addr) (cdv ct:Value) (us:List Value),us.length=ps.length->bindArgs (fnOf x q (eI st) (du st) (aJ st) .none kV doc pm an cdv ct) ⟨us,[]⟩=pure (ps.zip us):=by first | exact fun _ _ _ _ _ _=>K24.ln1 fun _=>rfl | exact fun _ _ _ _ _ _=>K24.ln2 fun _ _=>rfl | exact fun _ _ _ _ _ _=>K24.ln3 fun _ _ _=>rfl | exact fun _ _ _ _ _ _=>K24.ln4 fun _ _ _ _=>rfl | exact fun _ _ _ _ _ _=>K24.ln5 fun _ _ _ _ _=>rfl | exact fun _ _ _ _ _ _=>K24.ln6 fun _ _ _ _ _ _=>rfl | exact fun _ _ _ _ _ _=>K24.ln7 fun _ _ _ _ _ _ _=>rfl):Mq K C x q st ps:=⟨_,_,uU l c k,(uU l c k).binds hb,e,n,k⟩
def fAtD{K:Frag}{h:Heap}{mg:Str->Option Value}{x:Str}{st:Stmt}{ps:List Str}{a T:Addr}{od an:Option Addr}{sl:Array (Option Value)}{oc kV dc pm cd ct:Value}{ds its:List Value}{n:Nat}{od':Option Addr}{sl':Array (Option Value)}{oc':Value}(X:K.In h)(G:h.Ns mainGlobals mg)(e:nsIn K mainGlobals x=some (some (.ref a)):=by k_is)(l:K.lookup a=some ⟨oc,od,.func (fnOf x x (eI st) (du st) (aJ st) (.ref T) kV dc pm an cd ct),sl⟩:=by k_is)(c:codeIn K cd x=true:=by k_is)(k:keepIn K (.ref a)=true:=by k_is)(lT:K.lookup T=some ⟨oc',od',.seq its.toArray n,sl'⟩:=by k_is)(hb:∀(kV doc pm:Value) (an:Option Addr) (cdv ct:Value) (us:List Value),us.length+ds.length=ps.length->∃k,bindArgs (fnOf x x (eI st) (du st) (aJ st) (.ref T) kV doc pm an cdv ct) ⟨us,[]⟩=seqItems? (.ref T)>>=k/\k (some its.toArray)=pure (ps.zip (us++ds))):Dq K mg x st ps ds:=⟨_,_,_,Ab l c k,(Ab l c k).binds lT rfl hb,mg_of X G e⟩
end
def all_mk{l:PySem.W.OpenLaw}{w:World}{K:Frag}{h:Heap}{mg:Str->Option Value}{fa:Addr}(X:K.In h)(G:h.Ns mainGlobals mg)(hfa:mg "law"=some (.ref fa)){C:Addr}(cC:nsIn K mainGlobals "Lore"=some (some (.ref C)))(lc:vh K C)(mkC:makesIn K C=true)(kcC:keepIn K (.ref C)=true){D:Addr}(cD:nsIn K mainGlobals "Still"=some (some (.ref D)))(sc:tm K D)(mkD:makesIn K D=true)(kcD:keepIn K (.ref D)=true)(A1:Fq K mg "inner_kinds" xY gh)(A2:Fq K mg "note_names" v7 oz)(A3:Fq K mg "named" tV ["saying"])(A4:Fq K mg "is_small" xT qql35)(A5:Fq K mg "all_small" Hc kI)(A6:Fq K mg "is_thing" xQ kI)(A7:Fq K mg "show_kind" zB gh)(A8:Fq K mg "note" KS qp)(A9:Mq K C "__init__" "Lore.__init__" xX mo)(A10:Mq K C "number_of" "Lore.number_of" iW eN)(A11:Mq K C "shape_of" "Lore.shape_of" j5 eN)(A12:Mq K C "know" "Lore.know" tY mv)(A13:Mq K C "learn" "Lore.learn" tX zJ)(A14:Fq K mg "lore_of" tW zM)(A15:Fq K mg "stands_for_thing" tR ["x"])(A16:Fq K mg "things_named" qj ["pairs"])(A17:Fq K mg "bits_of" ub ["mask"])(A18:Fq K mg "in_order" qo we)(A19:Mq K D "__init__" "Still.__init__" xU wb)(A20:Mq K D "keep_is" "Still.keep_is" ql zG)(A21:Mq K D "keep_has" "Still.keep_has" nv zF)(A22:Mq K D "tell_is" "Still.tell_is" qk mq)(A23:Mq K D "tell_has" "Still.tell_has" nu qr)(A24:Mq K D "let_stand" "Still.let_stand" k6 eN)(A25:Mq K D "take_over" "Still.take_over" kZ zH)(A26:Mq K D "begin" "Still.begin" tU zI)(A27:Mq K D "go_on" "Still.go_on" xV mo)(A28:Mq K D "from_kind" "Still.from_kind" k7 ow)(A29:Mq K D "from_pairs" "Still.from_pairs" jH ow)(A30:Mq K D "from_end" "Still.from_end" nA zK)(A31:Mq K D "from_tie" "Still.from_tie" ny ou)(A32:Mq K D "from_chains" "Still.from_chains" iV ou)(A33:Dq K mg "still" xR zL [.none])(A34:Fq K mg "goal" v_ kJ)(A35:Fq K mg "starts_for" kY ["aim"])(A36:Fq K mg "standstill_for" jG wc)(A37:Fq K mg "ground_for" tZ zO)(A38:Fq K mg "follows" jI jK)(A39:Fq K mg "answer" uc jK)(A40:Fq K mg "_law_cell" Ca Cg)(A41:Fq K mg "_law_next" B8 yb)(A42:Fq K mg "_law_names" xW rJ)(A43:Fq K mg "_law_things" tQ rJ)(A44:Fq K mg "_law_kind" zC ud)(A45:Fq K mg "_law_saying" tS EL)(A46:Fq K mg "_law_somes" xS EK)(A47:Fq K mg "_law_few" Hb EI)(A48:Fq K mg "_law_numbered" nB EJ)(A49:Fq K mg "_law_asked" xZ k8)(A50:Fq K mg "_law_refused" qm k8)(A51:Fq K mg "_law_by_base" t_ k8)(A52:Fq K mg "law" Ha Cf){it1:Tok}(ia1:nsIn K mainGlobals "MOST_SIGNS"=some (some (.int 12 it1))){ta1:Addr}{tod1:Option Addr}{tn1:Nat}{tsl1:Array (Option Value)}{tt1_0 tt1_1:Tok}(sa1:nsIn K mainGlobals "WHOLES"=some (some (.ref ta1)))(sb1:K.lookup ta1=some ⟨.type "tuple",tod1,.seq #[.str "anything" tt1_0,.str "nothing" tt1_1] tn1,tsl1⟩){da1:Addr}{ddn1:Nat}{dt1_0 dt1_1 dt1_2 dt1_3 dt1_4 dt1_5:Tok}{de1_0 de1_1 de1_2 de1_3 de1_4 de1_5:Addr}(dA1:nsIn K mainGlobals "FORMS"=some (some (.ref da1)))(dB1:K.lookup da1=some ⟨.type "dict",none,.dict #[⟨PyData.keyHash w.params "every",.str "every" dt1_0,.ref de1_0⟩,⟨PyData.keyHash w.params "no",.str "no" dt1_1,.ref de1_1⟩,⟨PyData.keyHash w.params "thing",.str "thing" dt1_2,.ref de1_2⟩,⟨PyData.keyHash w.params "tied",.str "tied" dt1_3,.ref de1_3⟩,⟨PyData.keyHash w.params "within",.str "within" dt1_4,.ref de1_4⟩,⟨PyData.keyHash w.params "makes",.str "makes" dt1_5,.ref de1_5⟩] ddn1,#[]⟩){ddod1_0:Option Addr}{dm1_0:Nat}{ddsl1_0:Array (Option Value)}{du1_0_0 du1_0_1:Tok}(dC1_0:K.lookup de1_0=some ⟨.type "tuple",ddod1_0,.seq #[.str "kind" du1_0_0,.str "kind" du1_0_1] dm1_0,ddsl1_0⟩){ddod1_1:Option Addr}{dm1_1:Nat}{ddsl1_1:Array (Option Value)}{du1_1_0 du1_1_1:Tok}(dC1_1:K.lookup de1_1=some ⟨.type "tuple",ddod1_1,.seq #[.str "kind" du1_1_0,.str "kind" du1_1_1] dm1_1,ddsl1_1⟩){ddod1_2:Option Addr}{dm1_2:Nat}{ddsl1_2:Array (Option Value)}{du1_2_0 du1_2_1:Tok}(dC1_2:K.lookup de1_2=some ⟨.type "tuple",ddod1_2,.seq #[.str "thing" du1_2_0,.str "kind" du1_2_1] dm1_2,ddsl1_2⟩){ddod1_3:Option Addr}{dm1_3:Nat}{ddsl1_3:Array (Option Value)}{du1_3_0 du1_3_1 du1_3_2:Tok}(dC1_3:K.lookup de1_3=some ⟨.type "tuple",ddod1_3,.seq #[.str "thing" du1_3_0,.str "tie" du1_3_1,.str "thing" du1_3_2] dm1_3,ddsl1_3⟩){ddod1_4:Option Addr}{dm1_4:Nat}{ddsl1_4:Array (Option Value)}{du1_4_0 du1_4_1:Tok}(dC1_4:K.lookup de1_4=some ⟨.type "tuple",ddod1_4,.seq #[.str "tie" du1_4_0,.str "tie" du1_4_1] dm1_4,ddsl1_4⟩){ddod1_5:Option Addr}{dm1_5:Nat}{ddsl1_5:Array (Option Value)}{du1_5_0 du1_5_1 du1_5_2:Tok}(dC1_5:K.lookup de1_5=some ⟨.type "tuple",ddod1_5,.seq #[.str "tie" du1_5_0,.str "tie" du1_5_1,.str "tie" du1_5_2] dm1_5,ddsl1_5⟩)(z1:nsIn K mainGlobals "all"=some none)(z2:nsIn K mainGlobals "bool"=some none)(z3:nsIn K mainGlobals "int"=some none)(z4:nsIn K mainGlobals "isinstance"=some none)(z5:nsIn K mainGlobals "len"=some none)(z6:nsIn K mainGlobals "list"=some none)(z7:nsIn K mainGlobals "min"=some none)(z8:nsIn K mainGlobals "range"=some none)(z9:nsIn K mainGlobals "str"=some none)(z10:nsIn K mainGlobals "tuple"=some none)(z11:nsIn K mainGlobals "zip"=some none)(z12:nsIn K mainGlobals "ValueError"=some none){XC Ck N e1 e2 e4 e5:Addr}{nm q:Str}{bs:List Value}{hdct:Bool}{sn:List Str}{sub:List Value}{ab:Bool}{col:Option Bool}{dd:Option Addr}{kk0 kk1 kk2 kk3 kk5:Option Value}{ock:Value}{odk:Option Addr}{cdk:ClassData}{slk:Array (Option Value)}(xC:nsIn K mainGlobals "NoQuestion"=some (some (.ref XC)))(xk:nsIn K mainGlobals "KinError"=some (some (.ref Ck)))(x1:nsIn K mainGlobals "NoFact"=some (some (.ref e1)))(x2:nsIn K mainGlobals "NoText"=some (some (.ref e2)))(x4:nsIn K mainGlobals "NoSaying"=some (some (.ref e4)))(x5:nsIn K mainGlobals "TooMany"=some (some (.ref e5)))(lC:K.lookup XC=some (excClassObj nm q XC N bs (.ref Ck::IH) hdct sn sub ab col dd kk0 kk1 kk2 kk3 kk5 "ValueError.__new__"))(lk:K.lookup Ck=some ⟨ock,odk,.cls cdk,slk⟩)(okN:nsOkIn K N=true)(okk:nsOkIn K cdk.ns=true)(iN:nsIn K N "__init__"=some none)(ik:nsIn K cdk.ns "__init__"=some none)(kC:keepIn K (.ref XC)=true)(y1:hasDictIn K XC=true)(y2:mroIn K XC (.type "BaseException")=some true)(y3:mroIn K XC (.type "object")=some true)(y4:findIn K (.ref XC) "__getattribute__"=some (some (.builtin "BaseException.__getattribute__")))(y5:findIn K (.ref XC) "__getattr__"=some none)(y6:findIn K (.ref XC) "__setattr__"=some (some (.builtin "object.__setattr__")))(y7:findIn K (.ref XC) "__class__"=some (some (.builtin "object.__class__")))(y8:PySem.W.specialIn K (.builtin "object.__class__") "__get__"=some (some (.builtin "getset_descriptor.__get__")))(y9:PySem.W.takesIn K (.builtin "object.__class__")=some true)(y11:typeIn K (.ref XC)=some (.type "type"))(y12:typeIn K (.ref Ck)=some (.type "type"))(y13:isClsIn K Ck=true)(y14:subIn K (.ref XC) (.type "ValueError")=some true)(y15:subIn K (.ref XC) (.ref Ck)=some true)(y16:subIn K (.ref Ck) (.type "BaseException")=some true)(w1:isClsIn K e1=true)(t1:typeIn K (.ref e1)=some (.type "type"))(s1:subIn K (.ref XC) (.ref e1)=some false)(u1:(Value.ref XC==Value.ref e1)=false)(w2:isClsIn K e2=true)(t2:typeIn K (.ref e2)=some (.type "type"))(s2:subIn K (.ref XC) (.ref e2)=some false)(u2:(Value.ref XC==Value.ref e2)=false)(w4:isClsIn K e4=true)(t4:typeIn K (.ref e4)=some (.type "type"))(s4:subIn K (.ref XC) (.ref e4)=some false)(u4:(Value.ref XC==Value.ref e4)=false)(w5:isClsIn K e5=true)(t5:typeIn K (.ref e5)=some (.type "type"))(s5:subIn K (.ref XC) (.ref e5)=some false)(u5:(Value.ref XC==Value.ref e5)=false)(v1:isClsIn K XC=true)(v2:subIn K (.ref XC) (.ref XC)=some true)(v3:subIn K (.ref XC) (.type "BaseException")=some true):∃fd:FuncData,(∀s v,BindsTo s fd ⟨[v],[]⟩ [("_law_script",v)])/\∀base:Heap,K.In base->base.Ns mainGlobals mg->bK l.prog w K mg base eJ 68 fa fd Cf (zt K):=by
 obtain⟨f0,d0,F0,_,m0⟩:=A52.ex;cases hfa.symm.trans m0;obtain⟨_,_,_,_,_,_,_,_,_,hd,_⟩:=id F0.ex;have mCC:=mg_of X G cC;have mCD:=mg_of X G cD;have mi1:=mg_of X G ia1;have ms1:=mg_of X G sa1;have md1:=mg_of X G dA1;have n1:=mg_none_of X G z1;have n2:=mg_none_of X G z2;have n3:=mg_none_of X G z3;have n4:=mg_none_of X G z4;have n5:=mg_none_of X G z5;have n6:=mg_none_of X G z6;have n7:=mg_none_of X G z7;have n8:=mg_none_of X G z8;have n9:=mg_none_of X G z9;have n10:=mg_none_of X G z10;have n11:=mg_none_of X G z11;have n12:=mg_none_of X G z12;refine⟨d0,fun s v=>by rw[hd];exact .of_eq rfl,fun base _ _=> ?_⟩;have hW:∀H,SqT K H ta1 [.str "anything",.str "nothing"]:=fun H=>kO sb1 (by show 2<=sizeLine;exact bD (by decide)) (.cons ⟨_,rfl⟩ (.cons ⟨_,rfl⟩ .nil));have kd:tw K l.prog w da1 [(Sum.inr "every",.ref de1_0),(Sum.inr "no",.ref de1_1),(Sum.inr "thing",.ref de1_2),(Sum.inr "tied",.ref de1_3),(Sum.inr "within",.ref de1_4),(Sum.inr "makes",.ref de1_5)]:=Do [("every",dt1_0,.ref de1_0),("no",dt1_1,.ref de1_1),("thing",dt1_2,.ref de1_2),("tied",dt1_3,.ref de1_3),("within",dt1_4,.ref de1_4),("makes",dt1_5,.ref de1_5)] dB1 (.cons ⟨rfl,rfl⟩ (.cons ⟨rfl,rfl⟩ (.cons ⟨rfl,rfl⟩ (.cons ⟨rfl,rfl⟩ (.cons ⟨rfl,rfl⟩ (.cons ⟨rfl,rfl⟩ .nil)))))) (by show(["every","no","thing","tied","within","makes"]:List Str).Nodup;decide+kernel);have hF:∀(fo:Str) (ss:List Str),(fo,ss)∈je->∃kvs a,tw K l.prog w da1 kvs/\cZ kvs (.inr fo)=some (.ref a)/\∀H,SqT K H a (ss.map V.str):=by
  intro fo ss hf;simp only[je,aL,dq,cj,Prod.mk.injEq] at hf;rcases hf with⟨rfl,rfl⟩ | ⟨rfl,rfl⟩ | ⟨rfl,rfl⟩ | ⟨rfl,rfl⟩ | ⟨rfl,rfl⟩ | ⟨rfl,rfl⟩
  · exact⟨_,de1_0,kd,rfl,fun H=>kO dC1_0 (by show 2<=sizeLine;exact bD (by decide)) (.cons ⟨_,rfl⟩ (.cons ⟨_,rfl⟩ .nil))⟩
  · exact⟨_,de1_1,kd,rfl,fun H=>kO dC1_1 (by show 2<=sizeLine;exact bD (by decide)) (.cons ⟨_,rfl⟩ (.cons ⟨_,rfl⟩ .nil))⟩
  · exact⟨_,de1_2,kd,rfl,fun H=>kO dC1_2 (by show 2<=sizeLine;exact bD (by decide)) (.cons ⟨_,rfl⟩ (.cons ⟨_,rfl⟩ .nil))⟩
  · exact⟨_,de1_3,kd,rfl,fun H=>kO dC1_3 (by show 3<=sizeLine;exact bD (by decide)) (.cons ⟨_,rfl⟩ (.cons ⟨_,rfl⟩ (.cons ⟨_,rfl⟩ .nil)))⟩
  · exact⟨_,de1_4,kd,rfl,fun H=>kO dC1_4 (by show 2<=sizeLine;exact bD (by decide)) (.cons ⟨_,rfl⟩ (.cons ⟨_,rfl⟩ .nil))⟩
  · exact⟨_,de1_5,kd,rfl,fun H=>kO dC1_5 (by show 3<=sizeLine;exact bD (by decide)) (.cons ⟨_,rfl⟩ (.cons ⟨_,rfl⟩ (.cons ⟨_,rfl⟩ .nil)))⟩
 have G1:=A1.cl (P:=l.prog) (w:=w) (base:=base) fun F=>CP F n4 n9;have G2:=wG (P:=l.prog) (w:=w) (base:=base) A2 G1 ms1 hW n4 n9 60;have G3:=A3.cl fun F=>CM F G2 md1 hF n11 n6;have G4:=A4.cl (P:=l.prog) (w:=w) (base:=base) fun F=>CI F;have G5:=A5.cl fun F=>Hy F G4 n1;have G6:=A6.cl fun F=>CF F G5 n5 mi1;have G7:=vZ (P:=l.prog) (w:=w) (base:=base) A7 n4 n9;have G8:=A8.cl (P:=l.prog) (w:=w) (base:=base) fun F=>Jy F;have G10:=zU (P:=l.prog) (w:=w) (base:=base) A10 A11 lc n5 n4 n9 G7 25;have G9:=A9.il mkC kcC mCC fun F=>CN (by decide) F lc G10;have G12:=wQ (P:=l.prog) (w:=w) (base:=base) A12 lc G8 25;have G13:=A13.ml fun F=>CO F lc n11 md1 hF G12 G10 G8;have G14:=A14.cl fun F=>AH F lc G9 G13 G12 G10;have G15:=A15.cl fun F=>AF F n4 n9 G6;have G16:=A16.cl fun F=>yj F G3;have G17:=A17.cl (P:=l.prog) (w:=w) (base:=base) fun F=>E_ F;have G18:=A18.cl (P:=l.prog) (w:=w) (base:=base) fun F=>Hu F;have G19:=A19.il (P:=l.prog) (w:=w) (base:=base) mkD kcD mCD fun F=>CJ (C:=C) F sc;have G20:=A20.ml (P:=l.prog) (w:=w) (mg:=mg) (base:=base) fun F=>AI F lc sc n5;have G21:=A21.ml (P:=l.prog) (w:=w) (mg:=mg) (base:=base) fun F=>ym (C:=C) F sc n5;have G22:=A22.ml fun F=>AE F lc sc G20;have G24:=A24.ml fun F=>wA F lc sc G22 G15;have G23:=A23.ml fun F=>yk F lc sc G21 G24;have G25:=A25.ml (P:=l.prog) (w:=w) (mg:=mg) (base:=base) fun F=>CK F;have G26:=A26.ml fun F=>CS (by decide) F lc sc n6 G22 G23 G10 G24 G16;have G28:=A28.ml fun F=>wB F lc sc G22 G23;have G29:=A29.ml fun F=>uv F lc sc G22 G18;have G30:=A30.ml fun F=>yo F lc sc G22 G17 n6;have G31:=A31.ml fun F=>yn F lc sc G22 G23 G17;have G32:=A32.ml fun F=>rL F lc sc G23 G17;have G27:=A27.ml fun F=>E8 F sc n5 G28 G29 G30 G31 G32;have G33:=A33.dl fun F=>CG (by decide) F sc G19 G25 G26 G27 G14;have Xc:Ir K XC:=⟨y1,y2,y3,Jv lC,y4,y5,y6,y7,y8,y9⟩;have Mk:Iz K XC:=⟨⟨nm,q,N,bs,_,hdct,sn,sub,ab,col,dd,kk0,kk1,kk2,kk3,kk5,lC,okN,iN,BO lk okk ik⟩,kC,y2,y11⟩;have mxC:=mg_of X G xC;have mxk:=mg_of X G xk;have mx1:=mg_of X G x1;have mx2:=mg_of X G x2;have mx4:=mg_of X G x4;have mx5:=mg_of X G x5;have G34:=A34.cl (P:=l.prog) (w:=w) (base:=base) fun F=>E7 F;have G35:=A35.cl fun F=>uu F G15;have G36:=A36.cl fun F=>rK F G35 G33;have G37:=A37.cl fun F=>AJ F G15;have G38:=A38.cl fun F=>yp F G34 G36 G37;have G91:=A34.clx (P:=l.prog) (w:=w) (base:=base) fun F=>CQ F Mk mxC;have G92:=A38.clx fun F=>wC F G91;have G93:=A39.clx fun F=>yr F G91;have G49:=A49.clx fun F=>CT F G91 G92 G93;have G50:=A50.cl fun F=>yl F G49 mxC (Ac v1 y11 v2 v3);have G51:=A51.cl fun F=>AK F G49 Xc mxC mxk mx1 mx2 mx5 mx4 n12 n4 (Ac y13 y12 y15 y16) Dk (uM w1 t1 s1 u1) (uM w2 t2 s2 u2) (uM w5 t5 s5 u5) (uM w4 t4 s4 u4) (HS y14);have G40:=A40.cl (P:=l.prog) (w:=w) (base:=base) fun F=>E9 F n5;have G41:=A41.cl (P:=l.prog) (w:=w) (base:=base) fun F=>E4 F;have G42:=A42.cl (P:=l.prog) (w:=w) (base:=base) fun F=>CL F n5 n8 n7;have G43:=A43.cl fun F=>AD F G42;have G44:=wU (P:=l.prog) (w:=w) (base:=base) A44 n5 G41 3;have G45:=A45.cl fun F=>AG F n5 G41 G44;have G46:=A46.cl (P:=l.prog) (w:=w) (base:=base) fun F=>CH F n5 n6 n4 n10 n3;have G47:=A47.cl fun F=>Hx F G46;have G48:=A48.cl (P:=l.prog) (w:=w) (base:=base) fun F=>wz F;exact Hw F0 n5 n8 n6 n4 n10 n2 G40 G42 G43 G44 G45 G47 G48 G34 G38 G50 G51
def walk{l:PySem.W.OpenLaw}{K:Params->Frag}(hn:l.most=some 63)(hdf:d.params.defaults=[])(hY:∀w h,YP w h->(K w.params).In h)(F:∀w mg fa h,(K w.params).In h->h.Ns mainGlobals mg->mg d.name=some (.ref fa)->∃fd:FuncData,(∀s u,BindsTo s fd ⟨[u],[]⟩ [("_law_script",u)])/\∀base:Heap,(K w.params).In base->base.Ns mainGlobals mg->bK l.prog w (K w.params) mg base eJ 68 fa fd Cf (zt (K w.params))):PySem.W.WalkO q loose XP YP l.row.toRowW d [] (fun f vs=>PySem.call f vs):=L2.walk_of (n:=63) (k:=68) (x:="_law_script") (CX:=fun _=>eJ) (sp:=fun w=>zt (K w.params)) hn (by decide) hdf ⟨rfl,by decide,by decide,rfl⟩ hY F (fun _ _ a ns hl _ hS=>⟨a,ns,rfl,hS,hl,fun _=>rfl⟩) fun _ _ _ _ _ z=>z
end K24
namespace PySem.W.Fast
def tw3522855917635093343:Unit:=()
def tw5591917522868020608:Unit:=()
def tw2973331616759650686:Unit:=()
def tw9047741628191705448:Unit:=()
def tw15884267223191501055:Unit:=()
def tw9392406748027565780:Unit:=()
def tw4905898565117383557:Unit:=()
def tw12674410264132829796:Unit:=()
def tw1537818992022622890:Unit:=()
def tw11828192465965391738:Unit:=()
def tw10669050206134593172:Unit:=()
def tw12685711108626612374:Unit:=()
def tw8084725191272094657:Unit:=()
def tw11171309030820951653:Unit:=()
def tw15077321872506341706:Unit:=()
def tw2419964646271276812:Unit:=()
def tw1825780213538626488:Unit:=()
def tw2275849181743951456:Unit:=()
def tw10569661860837933341:Unit:=()
def tw9426710920548590954:Unit:=()
def tw16227993195343711103:Unit:=()
def tw14859852751361238676:Unit:=()
def tw116171747147565814:Unit:=()
def tw13701311480353507101:Unit:=()
def tw6745807914567766258:Unit:=()
def tw2303507555236152479:Unit:=()
def tw17712775266958317729:Unit:=()
def tw17079454853253237654:Unit:=()
def tw7261989859328368493:Unit:=()
def tw10544965065166889263:Unit:=()
def tw14383250625110590875:Unit:=()
def tw14331694026344347467:Unit:=()
def tw7714528569290667064:Unit:=()
def tw14949361965960459394:Unit:=()
def tw4069393112075607071:Unit:=()
def tw8215097468276728376:Unit:=()
def tw8980024120507321407:Unit:=()
def tw10912372946583101021:Unit:=()
def tw2741819225850170994:Unit:=()
def tw8754774183072656238:Unit:=()
def tw12023921387724214247:Unit:=()
def tw1267160783954835906:Unit:=()
def tw8143713192126260739:Unit:=()
def tw4124325277171064659:Unit:=()
def tw1254663658045731925:Unit:=()
def tw17148947130988732026:Unit:=()
def tw15599030807563221213:Unit:=()
def tw15754864014059937095:Unit:=()
def tw1560859983255390318:Unit:=()
def tw18403715170962335873:Unit:=()
def tw12860798663961807434:Unit:=()
def tw11675725772762795080:Unit:=()
def tw2920925794011096350:Unit:=()
def tw9423999655119244687:Unit:=()
def tw7022765420208072179:Unit:=()
def tw2621665633527624840:Unit:=()
def tw1849939885110542096:Unit:=()
def tw46875428791528865:Unit:=()
def tw6617040908397610836:Unit:=()
def tw3863187295241485706:Unit:=()
def tw4506244004759678250:Unit:=()
def tw9778630618822224255:Unit:=()
def tw5380482076427972739:Unit:=()
def tw763511213034581133:Unit:=()
def tw4325692723018845410:Unit:=()
def tw13393217029397170511:Unit:=()
def tw5849034728917830380:Unit:=()
def tw8843601546357748110:Unit:=()
def tw16077770528422005893:Unit:=()
def tw3347778083425929197:Unit:=()
def tw16801870391040188866:Unit:=()
def tw13026126316321133180:Unit:=()
def tw8695918493360776310:Unit:=()
def tw8310373846355422565:Unit:=()
def tw9261075271044714484:Unit:=()
def tw1922439137769678211:Unit:=()
def tw15519175229152073237:Unit:=()
def tw2384022433715400801:Unit:=()
def tw1525633882997357241:Unit:=()
def tw9208388647913311611:Unit:=()
def tw3918729873377975462:Unit:=()
def tw12011942946856895338:Unit:=()
def tw18205767140733454134:Unit:=()
def tw15538145475379633274:Unit:=()
def tw7166407863589323115:Unit:=()
def tw2650756437251416794:Unit:=()
def tw10955548240715529469:Unit:=()
def tw2148975388740616644:Unit:=()
def tw8276802600252131292:Unit:=()
def tw6893821198769715187:Unit:=()
def tw16301770775909410081:Unit:=()
def tw8832134582372694807:Unit:=()
def tw7491800581023804751:Unit:=()
def tw8142257980034341838:Unit:=()
def tw15580668778548581087:Unit:=()
def tw2167624193737839489:Unit:=()
def tw7249228024209291838:Unit:=()
def tw14348287948361207326:Unit:=()
def tw10613446921183221780:Unit:=()
def tw16774982623634935604:Unit:=()
def tw12109424157486585109:Unit:=()
def tw9774627575636537855:Unit:=()
def tw7097344747226787122:Unit:=()
def tw17804050150825733611:Unit:=()
def tw9631596532670037536:Unit:=()
end PySem.W.Fast
open PySem PySem.W PyProof.Rows
set_option maxRecDepth 100000 in
set_option maxHeartbeats 0 in
theorem PySem.Challenge.cw_kinwords_k24_goals_and_what_is_not_asked_holds : PySem.Challenge.rw_kinwords_k24_goals_and_what_is_not_asked.Holds := by
 w_on;o_law;k_head;(case hw=>w_witness2)
 k_fill
 refine K24.walk (l:=PySem.Challenge.rw_kinwords_k24_goals_and_what_is_not_asked) rfl rfl (fun w h Y=>PySem.W.kIn_of Y) ?F
 case F=>
  intro w mg fa h KX G hmg;refine' K24.all_mk KX G hmg ?p1 ?p2 ?p3 ?p4 ?p5 ?p6 ?p7 ?p8 ?p9 ?p10 ?p11 ?p12 ?p13 ?p14 ?p15 ?p16 ?p17 ?p18 ?p19 ?p20 ?p21 ?p22 ?p23 ?p24 ?p25 ?p26 ?p27 ?p28 ?p29 ?p30 ?p31 ?p32 ?p33 ?p34 ?p35 ?p36 ?p37 ?p38 ?p39 ?p40 ?p41 ?p42 ?p43 ?p44 ?p45 ?p46 ?p47 ?p48 ?p49 ?p50 ?p51 ?p52 ?p53 ?p54 ?p55 ?p56 ?p57 ?p58 ?p59 ?p60 ?p61 ?p62 ?p63 ?p64 ?p65 ?p66 ?p67 ?p68 ?p69 ?p70 ?p71 ?p72 ?p73 ?p74 ?p75 ?p76 ?p77 ?p78 ?p79 ?p80 ?p81 ?p82 ?p83 ?p84 ?p85 ?p86 ?p87 ?p88 ?p89 ?p90 ?p91 ?p92 ?p93 ?p94 ?p95 ?p96 ?p97 ?p98 ?p99 ?p100 ?p101 ?p102 ?p103 ?p104 ?p105 ?p106 ?p107 ?p108 ?p109 ?p110 ?p111 ?p112 ?p113 ?p114 ?p115 ?p116 ?p117 ?p118 ?p119 ?p120 ?p121 ?p122 ?p123 ?p124 ?p125 ?p126 ?p127 ?p128 ?p129 ?p130
  case p1 | p3 | p4 | p5 | p7 | p8 | p61 | p62 | p63 | p64 | p65 | p66 | p67 | p68 | p69 | p70 | p71 | p72 | p73 | p74 | p75 | p76 | p77 | p78 | p79 | p80 | p81 | p82 | p83 | p84 | p85 | p86 | p87 | p88 | p89 | p90 | p91 | p94 | p95 | p96 | p97 | p98 | p99 | p100 | p101 | p102 | p103 | p104 | p105 | p106 | p107 | p108 | p109 | p110 | p111 | p112 | p113 | p114 | p116 | p117 | p118 | p120 | p121 | p122 | p124 | p125 | p126 | p128 | p129 | p130=>k_is
  case p6=>refine⟨⟨?_,?_,?_,?_⟩,?_,?_,?_,?_,?_,?_,?_,?_,?_,?_,?_⟩<;>first | k_is | (unfold L2.NoAttr;k_is)
  case p2=>refine⟨⟨?_,?_,?_,?_⟩,?_,?_,?_,?_,?_,?_,?_,?_,?_,?_,?_,?_,?_,?_,?_⟩<;>first | k_is | (unfold L2.NoAttr;k_is)
  case p9 | p10 | p11 | p12 | p13 | p14 | p15 | p16 | p22 | p23 | p24 | p25 | p26 | p42 | p43 | p44 | p45 | p46 | p47 | p48 | p49 | p50 | p51 | p52 | p53 | p54 | p55 | p56 | p57 | p58 | p59 | p60=>exact K24.fAt KX G
  case p17 | p18 | p19 | p20 | p21 | p27 | p28 | p29 | p30 | p31 | p32 | p33 | p34 | p35 | p36 | p37 | p38 | p39 | p40=>exact K24.fAtM
  case p41=>exact K24.fAtD (its:=[.none]) KX G (hb:=fun _ _ _ _ _ _ us hl=>match us,hl with | [_,_,_],_=>⟨_,rfl,rfl⟩)
  case p92 | p93=>exact K24.nsok_of (by k_is) rfl
  case p115 | p119 | p123 | p127=>first | rfl | decide+kernel
