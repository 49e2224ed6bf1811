import PyProof.Rows.All
import Wide.All
import OpenK.AllK
import Wide.FinOn
import Lean
import PyProof.EqAt
import PyProof.EqKinds
import PyProof.TupleCall
import PyProof.NeKinds
import PyProof.Rows.FStr
import PyProof.Rows.Range3
import PyProof.StrLawsIn
import PyProof.WalksEnum
import PyProof.EnumMake
import PyProof.Rows.EnumRows
import PyProof.Rows.StrNews2
import PyProof.StrLawsFirst
import PyProof.StrLawsChain
import PyProof.StrLawsTight
import PyProof.StrBlockH
import KE.KEqDict
import PyProof.DictWalks
import PyProof.ListRange
import PyProof.ZipIter
import PyProof.Rows.SortRev
import PyProof.FactsAll.subtypes_5
import KE.KDictSum
import PyProof.Rows.SetFrom
import PyProof.AttrMiss
import PyProof.IsiH_list
import KE.KDictOf
import PyProof.FactsAll.NoneType_1
import PyProof.StrCalls
import PyProof.ReprRoads
import PyProof.CallFns
import PyProof.StrLawsRepr
import PyProof.ReprText
import PySem.Challenge.RW_kinwords_k18_standstills_stand
def AA:=@Bool.eq_false_iff
def Ar:=@PySem.codeAny_mono
def Av:=@Option.isSome_map
def Aw:=@Nat.le_total
def Ay:=@PySem.Calls.spliced_nil
def Az:=@Bool.not_eq_true'
def B8:=@PySem.wpAny_execs_cons
def C0:=@decide_eq_decide
def C_:=@Nat.min_eq_right
def Dd:=@List.mem_flatten
def De:=@List.mem_flatMap
def Dj:=@PySem.wpAny_ite_false
def FC:=@PySem.F.slot_dict_setdefault
def FE:=@Nat.testBit_xor
def FF:=@Nat.min_eq_left
def FG:=@Nat.and_le_left
def FH:=@List.of_mem_zip
def FI:=@List.mem_filter
def FM:=@PySem.F.args_tuple_iterator_next_1
def FW:=@PySem.F.entry_tuple_iterator_next
def HJ:=@PySem.Calls.Name_function_global
def Hf:=@if_false
def IG:=@PySem.F.slot_dict_getitem
def IJ:=@PySem.wpAny_onRaise
def K6:=@PyProof.Rows.subscriptTail_builtinR
def KM:=@decide_eq_false_iff_not
def KO:=@PySem.F.plainAttrs_list
def KP:=@PySem.F.plainAttrs_dict
def KQ:=@PySem.F.entry_tuple_add
def KR:=@PySem.F.args_dict_get_3
def KS:=@List.pairwise_singleton
def Kt:=@PySem.F.args_tuple_add_2
def Ku:=@Option.isSome_iff_exists
def L5:=@PySem.call_meetsIn
def L9:=@PySem.Txt.slice_le
def LG:=@not_or
def Lh:=@PySem.seqIndex_neg
def M7:=@PySem.sizeLine_eq
def MF:=@PyProof.Rows.boot_all
def MI:=@List.length_singleton
def MJ:=@List.dropLast_eq_take
def MN:=@PySem.wpAny_updateSeq_pair
def MO:=@PySem.wpAny_newFunctionEnv
def MP:=@PySem.wpAny_loadName_local
def M_:=@PySem.seqIndex_of
def Mb:=@PySem.W.cellsFrom_some
def Mc:=@PySem.F.slot_tuple_add
def Md:=@PySem.F.entry_dict_get
def Mf:=@Nat.sub_zero
def Mg:=@Nat.div_div_eq_div_mul
def Mi:=@List.map_nil
def Mj:=@List.getElem?_set_self
def Mm:=@List.drop_eq_nil_of_le
def Mt:=@PySem.Heap.get?_update_other
def Mv:=@PySem.wpAny_isTrue_Compare1
def NL:=@Sum.inr.inj
def NO:=@PySem.Obj.data_mapDictKeys
def NP:=@Nat.mul_add
def NS:=@List.mem_of_mem_drop
def NT:=@List.length_take_le'
def NU:=@List.getElem?_set_ne
def NV:=@List.getElem?_range'
def NW:=@List.dropLast_subset
def NZ:=@PySem.wpAny_loadName_cell
def O0:=@List.zip_nil_right
def O1:=@List.getElem_idxOf
def O2:=@List.filterMap_map
def O3:=@Int.lt_of_le_of_lt
def O4:=@Bool.false_eq_true
def O5:=@PySem.wpAny_sequenceKey
def O6:=@PySem.wpAny_pyIter_list
def O7:=@PySem.wpAny_assign_Name
def O8:=@PySem.wpAny_Call_method
def O9:=@PySem.slot_list_getitem
def OQ:=@PySem.findBy_of_findIdx?
def OS:=@PySem.call_meets
def OT:=@PyProof.Rows.args_tuple_getitem
def OU:=@PyProof.Rows.Subscript_
def OV:=@PySem.SeqAt.EqAt.str_int
def OW:=@PySem.SeqAt.EqAt.int_str
def OX:=@PySem.PyData.shown_tuple
def OY:=@PySem.Obj.data_mapFields
def OZ:=@Nat.mod_lt
def Of:=@PyProof.Rows.entry_tuple_getitem
def Oh:=@PySem.W.callWith_K0
def Oi:=@Nat.mul_le_mul_left
def Oj:=@List.map_congr_left
def Ol:=@List.flatten_append
def Om:=@List.flatMap_append
def Oo:=@Int.toNat_of_nonneg
def Os:=@Array.toList_append
def Ot:=@PySem.wpAny_pyIter_tuple
def Ou:=@PySem.wpAny_Name
def Ow:=@PySem.typeIs_str
def Pa:=@PyProof.Rows.assignInOrder_nil
def Pb:=@PySem.W.kitx_list
def Pc:=@PySem.W.kitx_dict
def Pd:=@List.take_sublist
def Pe:=@List.idxOf_append
def Pf:=@List.ext_getElem?
def Pg:=@PySem.F.args_zip_next_1
def aC:=@PySem.Heap.get?_push_of_some
def aE:=@if_neg
def aG:=@List.mem_cons_of_mem
def aH:=@if_pos
def aI:=@PySem.wpAny_pure
def aL:=@List.mem_cons
def aM:=@List.size_toArray
def aN:=@List.mem_append_right
def aO:=@Bool.and_eq_true
def aP:=@List.mem_append_left
def aQ:=@List.getElem?_map
def aS:=@PySem.Paired.length
def aU:=@PySem.Heap.lt_size
def aV:=@List.length_cons
def aY:=@List.getElem?_eq_some_iff
def aZ:=@List.mem_cons_self
def ae:=@PySem.wpAny_bind
def af:=@List.mem_singleton
def ag:=@List.length_append
def ai:=@List.length_map
def aj:=@decide_eq_false
def ak:=@List.not_mem_nil
def ao:=@decide_eq_true
def aq:=@Nat.le_trans
def ar:=@List.mem_of_getElem?
def au:=@Nat.le_refl
def av:=@List.mem_append
def aw:=@List.getElem?_eq_getElem
def ax:=@Nat.lt_of_lt_of_le
def ay:=@Nat.zero_le
def bA:=@Nat.le_succ
def bC:=@List.cons.injEq
def bD:=@decide_eq_true_eq
def bG:=@of_decide_eq_true
def bH:=@List.take_add_one
def bI:=@Ne.symm
def bJ:=@Nat.ne_of_lt
def bK:=@PySem.Str.length_append
def bM:=@List.getElem?_append_left
def bO:=@PyProof.Rows.boot_list
def bP:=@Option.map_eq_some_iff
def bQ:=@List.map_cons
def bS:=@List.mem_map
def bT:=@List.cons_append
def bW:=@Int.toNat_natCast
def be:=@List.take_length
def bf:=@PySem.Heap.get?_push_size
def bh:=@Bool.false_ne_true
def bj:=@List.map_append
def bz:=@Nat.lt_of_le_of_lt
def cA:=@List.append_assoc
def cF:=@PyProof.Rows.boot_repr
def cH:=@or_false
def cJ:=@List.length_take
def cO:=@PyProof.Rows.slot_tuple_getitem
def cP:=@PySem.wpAny_mono
def cR:=@Nat.le_add_right
def cS:=@List.take_of_length_le
def cT:=@List.lookup_cons
def cU:=@List.getElem_mem
def cY:=@PyProof.Rows.locs
def cm:=@PyProof.Rows.boot_str
def cv:=@beq_eq_false_iff_ne
def cw:=@List.length_nil
def cy:=@List.getElem?_append_right
def d3:=@Option.some.inj
def d4:=@Int.emod_nonneg
def d9:=@List.mem_nil_iff
def dD:=@PySem.wpAny_field
def dH:=@List.all_eq_true
def dP:=@PySem.wpAny_holding
def dQ:=@PySem.wpAny_newObj_type
def dR:=@List.append_cancel_left_eq
def dY:=@List.mem_map_of_mem
def d_:=@List.mem_filterMap
def de:=@PySem.mem_of_lookup
def df:=@PySem.wpAny_truthy_bool
def dg:=@Nat.lt_succ_of_lt
def dj:=@List.mem_range
def dv:=@List.nodup_cons
def dy:=@List.nil_append
def eE:=@PySem.wpAny_callSpecial?_slot
def eG:=@Nat.testBit_two_pow_mul
def eO:=@List.foldl_cons
def eR:=@Nat.lt_or_ge
def e_:=@List.length_drop
def ee:=@Int.emod_lt_of_pos
def eo:=@PySem.Heap.size_push
def fC:=@PySem.wpAny_standAt
def fD:=@List.all_cons
def fM:=@List.filterMap_cons
def fQ:=@PyProof.Rows.boot_tuple
def fh:=@List.getD_eq_getElem?_getD
def fk:=@List.length_replicate
def fw:=@Nat.le_of_lt
def fz:=@List.foldl_append
def gE:=@PyProof.Rows.callWith_type1
def gQ:=@PySem.wpAny_seqItems
def gR:=@Nat.eq_of_testBit_eq
def gS:=@List.mem_of_mem_take
def gT:=@PySem.F.slot_tuple_iterator_next
def gX:=@PySem.wpAny_call_entry
def gb:=@PySem.wpAny_passesOwn
def gc:=@true_and
def gm:=@Option.map_some
def gu:=@Nat.testBit_and
def gy:=@List.sum_append
def hG:=@Nat.succ_le_succ
def iD:=@List.forIn_cons
def iE:=@List.find?_cons
def iF:=@PySem.wpAny_setField_rec
def iG:=@PySem.wpAny_Call_Name_kw
def iI:=@PySem.tupleKind_room_in1
def iM:=@PySem.Calls.spliced_cons
def iQ:=@Nat.exists_eq_add_of_le
def iq:=@Nat.lt_irrefl
def ir:=@List.any_cons
def j3:=@PyProof.Rows.boot_isinstance
def j5:=@Bool.or_eq_true
def j6:=@Bool.eq_iff_iff
def j8:=@Array.length_toList
def jF:=@Nat.lt_succ_self
def jV:=@Nat.pow_pos
def jW:=@List.length_dropLast
def jX:=@List.eq_nil_of_length_eq_zero
def jb:=@Nat.ne_of_gt
def jc:=@List.length_range
def jd:=@PySem.Calls.callWith_builtin
def ju:=@List.take_append_drop
def jv:=@List.filterMap_append
def jw:=@PySem.wpAny_rule
def kL:=@if_true
def kX:=@Nat.pow_succ
def kY:=@List.idxOf_lt_length_of_mem
def lM:=@beq_iff_eq
def lO:=@PySem.Str.cps_append
def lQ:=@Nat.mod_two_eq_zero_or_one
def lR:=@List.take_zero
def lU:=@Bool.and_false
def mS:=@List.findIdx?_eq_none_iff
def mT:=@PySem.wpAny_of_eq
def mX:=@Option.some.injEq
def mY:=@Nat.le_succ_of_le
def mZ:=@List.nodup_append
def m_:=@PySem.wpAny_comprehension_free
def og:=@Nat.mul_assoc
def oh:=@List.sum_cons
def pz:=@List.getElem?_replicate
def qI:=@PySem.PassesOwn.never
def qJ:=@List.range_succ
def qK:=@List.append_nil
def qL:=@PySem.F.slot_zip_next
def qe:=@Nat.testBit_lt_two_pow
def qf:=@Nat.not_lt
def qh:=@List.map_map
def qk:=@PySem.wpAny_execs_nil
def sW:=@PySem.W.methodCall_KW
def sX:=@PySem.F.slot_dict_get
def sY:=@List.getElem?_eq_none
def sZ:=@PySem.Heap.get?_update_self
def tK:=@PySem.boot_len
def tL:=@Nat.testBit_or
def tM:=@Nat.pow_le_pow_right
def tO:=@List.pairwise_append
def tP:=@List.drop_zero
def tQ:=@PySem.Calls.evalArgs_plain
def tR:=@Bool.false_and
def tm:=@PySem.wpAny_newTuple
def wA:=@PySem.W.plainGet_of
def wC:=@Nat.testBit_two_pow
def wF:=@PySem.Heap.SameBut.update
def wI:=@Nat.add_assoc
def wJ:=@Bool.or_false
def yJ:=@PyProof.Rows.assignInOrder_cons
def yO:=@PySem.W.callWith_K
def yP:=@Nat.eq_zero_or_pos
def yQ:=@List.zip_cons_cons
def yR:=@List.filter_append
open PySem.W (instObj Frag lookIn plainGet findIn isFn makesIn emptyDict keepIn kitOne kia_one fnOf codeIn nsIn mg_of mg_none_of)
set_option compiler.extract_closed false
set_option bootstrap.genMatcherCode false
set_option genSizeOf false
set_option Elab.async false
set_option linter.all false
set_option maxRecDepth 100000
namespace L2
open PySem PySem.Spec PyProof.Rows
abbrev Key:=Sum Int Str
noncomputable def sx:Key->Value->Bool
 | .inl k,v=>Value.isInt k v
 | .inr x,v=>Value.isStrOf x v
noncomputable def NC(w:World):Key->Int
 | .inl k=>hashInt k
 | .inr x=>hashStr w x
theorem keyIs_shape:∀{k:Key} {v:Value},sx k v=true->(∃i t,k=Sum.inl i/\v=Value.int i t)\/(∃x t,k=Sum.inr x/\v=Value.str x t)
 | .inl i,v,h=>by
   obtain⟨t,e⟩:=Value.isInt_shape (k:=i) (v:=v) h;exact .inl ⟨i,t,rfl,e⟩
 | .inr x,v,h=>by
   obtain⟨t,e⟩:=Value.isStrOf_shape (x:=x) (v:=v) h;exact .inr ⟨x,t,rfl,e⟩
def CO(i:Int)(t:Tok):sx (.inl i) (.int i t)=true:=by simp[sx,Value.isInt]
def o_(x:Str)(t:Tok):sx (.inr x) (.str x t)=true:=by simp[sx,Value.isStrOf]
def JX(a b:Int):decide ((Sum.inl a:Key)=Sum.inl b)=(a==b):=by
 by_cases e:a=b
 · subst e;simp
 · have h:¬ (Sum.inl a:Key)=Sum.inl b:=fun q=>e (Sum.inl.inj q);rw[aj h];exact(cv.mpr e).symm
def JU(a b:Str):decide ((Sum.inr a:Key)=Sum.inr b)=decide (a=b):=by
 by_cases e:a=b
 · subst e;simp
 · have h:¬ (Sum.inr a:Key)=Sum.inr b:=fun q=>e (NL q);rw[aj h,aj e]
def JW(a:Int)(b:Str):decide ((Sum.inl a:Key)=Sum.inr b)=false:=aj (fun q=>nomatch q)
def JV(a:Str)(b:Int):decide ((Sum.inr a:Key)=Sum.inl b)=false:=aj (fun q=>nomatch q)
noncomputable def cW(prog:Program)(w:World):PySem.KeyKind prog w Key where
 is:=sx
 hash:=NC w
 inj:=fun v a b ha hb=>by
  rcases keyIs_shape ha with⟨i,t,rfl,rfl⟩ | ⟨x,t,rfl,rfl⟩
  · rcases keyIs_shape hb with⟨j,u,rfl,e⟩ | ⟨y,u,rfl,e⟩
    · injection e with e1 _;rw[e1]
    · exact nomatch e
  · rcases keyIs_shape hb with⟨j,u,rfl,e⟩ | ⟨y,u,rfl,e⟩
    · exact nomatch e
    · injection e with e1 _;rw[e1]
 byValue:=fun k v h=>by
  rcases keyIs_shape h with⟨i,t,rfl,rfl⟩ | ⟨x,t,rfl,rfl⟩<;>rfl
 pyHash:=fun hv h=>by
  rcases keyIs_shape hv with⟨i,t,rfl,rfl⟩ | ⟨x,t,rfl,rfl⟩
  · exact wpAny_pyHash_int h
  · exact wpAny_pyHash_str h
 eqBool:=fun hu hv h=>by
  rcases keyIs_shape hu with⟨i,t,rfl,rfl⟩ | ⟨x,t,rfl,rfl⟩
  · rcases keyIs_shape hv with⟨j,u,rfl,rfl⟩ | ⟨y,u,rfl,rfl⟩
    · rw[JX] at h;exact wpAny_eqBool_int h
    · rw[JW] at h;exact OW i t y u _ _ _ _ h
  · rcases keyIs_shape hv with⟨j,u,rfl,rfl⟩ | ⟨y,u,rfl,rfl⟩
    · rw[JV] at h;exact OV x t j u _ _ _ _ h
    · rw[JU] at h;exact wpAny_eqBool_str h
 «strs»:=fun k x t v h=>by
  rcases keyIs_shape h with⟨i,u,rfl,e⟩ | ⟨y,u,rfl,e⟩
  · exact nomatch e
  · injection e with e1 _
    subst e1;cases v<;>rfl
def Aa(prog:Program)(w:World)(k:Key)(v:Value):(cW prog w).is k v=sx k v:=rfl
def yc(prog:Program)(w:World)(i:Int)(t:Tok):(cW prog w).is (.inl i) (.int i t)=true:=CO i t
def yb(prog:Program)(w:World)(x:Str)(t:Tok):(cW prog w).is (.inr x) (.str x t)=true:=o_ x t
inductive V where
 | non | bl (b:Bool) | int (i:Int) | str (x:Str) | byt (b:Array UInt8) | flt (b:UInt64) | ref (a:Addr) | ty (n:String)
 deriving DecidableEq
def RelV:V->Value->Prop
 | .non,u=>u=Value.none
 | .bl b,u=>u=Value.bool b
 | .int i,u=>∃t,u=Value.int i t
 | .str x,u=>∃t,u=Value.str x t
 | .byt b,u=>∃t,u=Value.bytes b t
 | .flt b,u=>∃t,u=Value.float b t
 | .ref a,u=>u=Value.ref a
 | .ty n,u=>u=Value.type n
abbrev Vals:List V->List Value->Prop:=Paired RelV
def Vals.length(r:Vals xs us):xs.length=us.length:=aS r
theorem Vals.get:∀{xs:List V} {us:List Value} {i:Nat} {x:V},Vals xs us->xs[i]? =some x->∃u,us[i]? =some u/\RelV x u
 | _,_,_,_,.nil,e=>by simp at e
 | _,_,0,_,.cons r _,e=>by simp at e;subst e;exact⟨_,rfl,r⟩
 | _,_,i+1,x,.cons _ t,e=>by
   obtain⟨u,h1,h2⟩:=Vals.get (i:=i) (x:=x) t (by simpa using e);exact⟨u,by simpa using h1,h2⟩
theorem Vals.set(r:RelV x u):∀{xs:List V} {us:List Value} (i:Nat),Vals xs us->Vals (xs.set i x) (us.set i u)
 | _,_,_,.nil=> .nil
 | _,_,0,.cons _ t=> .cons r t
 | _,_,i+1,.cons q t=> .cons q (Vals.set r i t)
theorem Vals.append:∀{xs ys:List V} {us ws:List Value},Vals xs us->Vals ys ws->Vals (xs++ys) (us++ws)
 | _,_,_,_,.nil,s=>s
 | _,_,_,_,.cons r t,s=> .cons r (Vals.append t s)
theorem Vals.take:∀{xs:List V} {us:List Value} (n:Nat),Vals xs us->Vals (xs.take n) (us.take n)
 | _,_,0,_=> .nil
 | _,_,_+1,.nil=> .nil
 | _,_,n+1,.cons r t=> .cons r (Vals.take n t)
theorem Vals.drop:∀{xs:List V} {us:List Value} (n:Nat),Vals xs us->Vals (xs.drop n) (us.drop n)
 | _,_,0,r=>r
 | _,_,_+1,.nil=> .nil
 | _,_,n+1,.cons _ t=>Vals.drop n t
def RelO:Option V->Option Value->Prop
 | some v,some u=>RelV v u
 | none,none=>True
 | _,_=>False
def KV{κ:Type}:List (κ × V)->List (κ × Value)->Prop:=Paired fun p q=>p.1=q.1/\RelV p.2 q.2
noncomputable def kV:Key->V
 | .inl i=> .int i
 | .inr x=> .str x
inductive HO where
 /-- a list -/
 | lst (xs:List V)
 /-- a tuple (never changes) -/
 | tup (xs:List V)
 /-- a dict whose keys are ints and texts; one whose keys are tuples of ints and texts (the empty one is both) -/
 | dK (kvs:List (Key × V)) | dT (kvs:List (List Key × V))
 /-- a set of ints: its members, its size -/
 | set (S:Int->Bool) (n:Nat)
 /-- an instance of the class at C, its dict at dx, its attributes -/
 | ins (C dx:Addr) (fs:List (Str × V))
 /-- the dict of the instance at x -/
 | own (x:Addr)
 /-- the dict of an exception -/
 | xd (fs:List (Str × V))
 /-- a bound method, f of x -/
 | met (f x:Addr)
 /-- a range object lo, lo + 1, .. below hi -/
 | rng (lo hi:Int)
 /-- a thing that is known to the object (the script; a dict while a loop walks it): read, never written while it is so -/
 | frz (o:Obj) (u:HO)
 /-- a code object's table -/
 | tbl (ps:Array Value)
 /-- any other thing, by what is true of its one object (a def of one's own: SetO a S n := HO.ext fun h => ..) -/
 | ext (φ:Heap->Prop)
abbrev Hp:=Addr->Option HO
noncomputable def upd(H:Hp)(a:Addr)(o:HO):Hp:=fun b=>if b=a then some o else H b
def aa:upd H a o a=some o:=by unfold upd;rw[aH rfl]
def aD(h:b≠a):upd H a o b=H b:=by unfold upd;rw[aE h]
def uW:upd (upd H a o) a u=upd H a u:=by
 funext b;unfold upd;split<;>rfl
def Ik{H:Hp}(h:H a=some o)(h':H b=some u)(d:o≠u):a≠b:=by
 intro e;subst e;rw[h] at h';exact d (d3 h')
def ba{H:Hp}(h:H a=some o)(h':H b=none):a≠b:=by
 intro e;subst e;rw[h] at h';cases h'
section
variable (P:Program)(w:World)
def ObjOk(H:Hp)(h:Heap)(a:Addr):HO->Prop
 | .lst xs=>xs.length<=sizeLine/\∃(its:List Value) (n:Nat),Vals xs its/\h.get? a=some {cls:= .type "list",data:= .seq its.toArray n}
 | .tup xs=>xs.length<=sizeLine/\∃its:List Value,Vals xs its/\IsTup h a its.toArray
 | .dK kvs=>kvs.length<=sizeLine/\(a==sysModules)=false/\∃vs,KV kvs vs/\h.DictOf (cW P w) a vs
 | .dT kvs=>kvs.length<=sizeLine/\(a==sysModules)=false/\∃xs:List (List Key × Addr × Value),Paired (fun(p:List Key × V) (q:List Key × Addr × Value)=>p.1=q.1/\H q.2.1=some (.tup (p.1.map kV))/\RelV p.2 q.2.2) kvs xs/\∃o es ep,h.get? a=some o/\o.ExactDict/\o.data= .dict es ep/\es.toList=xs.map (entryOfKey (tupleKind (cW P w)))/\(xs.map (·.1)).Nodup
 | .set S n=>h.SetOf (intKind P w) a S n
 | .ins C dx fs=>H dx=some (.own a)/\fs.length<=1000/\dx≠a/\h.get? a=some (instObj C dx)/\∃mA,h.Ns1 dx mA/\(∀f,RelO (fs.lookup f) (mA f))/\PySem.Within mA (fs.map (·.1))
 | .own _=>∃o,h.get? a=some o
 | .xd fs=>∃mA,h.Ns1 a mA/\∀f,RelO (fs.lookup f) (mA f)
 | .rng lo hi=>∃t u v,h.get? a=some {cls:= .type "range",data:= .fields #[.int lo t,.int hi u,.int 1 v]}
 | .frz o u=>h.get? a=some o/\ObjOk H h a u
 | .tbl ps=>h.get? a=some {cls:= .none,data:= .fields ps}
 | .met f x=>h.get? a=some (PySem.W.methodObj (.ref f) (.ref x))
 | .ext φ=>φ h/\(∃o,h.get? a=some o)/\∀h1 h2:Heap,φ h1->(∀o,h1.get? a=some o->h2.get? a=some o)->φ h2
def HOk(H:Hp)(h:Heap):Prop:=∀a o,H a=some o->ObjOk P w H h a o
end
section
def ObjOk.lt(x:ObjOk P w H h a o):a<h.objs.size:=by
 cases o with
 | lst xs=>obtain⟨_,_,_,_,e⟩:=x;exact aU e
 | tup xs=>obtain⟨_,_,_,p⟩:=x;exact p.lt
 | dK kvs=>obtain⟨_,_,_,_,o,_,_,e,_⟩:=x;exact aU e
 | dT kvs=>obtain⟨_,_,_,_,o,_,_,e,_⟩:=x;exact aU e
 | set S n=>obtain⟨o,_,_,_,e,_⟩:=x;exact aU e
 | ins C dx fs=>obtain⟨_,_,_,e,_⟩:=x;exact aU e
 | own y=>obtain⟨_,e⟩:=x;exact aU e
 | xd fs=>obtain⟨_,⟨_,_,_,e,_⟩,_⟩:=x;exact aU e
 | rng lo hi=>obtain⟨_,_,_,e⟩:=x;exact aU e
 | frz ob u=>obtain⟨e,_⟩:=x;exact aU e
 | tbl ps=>exact aU (show h.get? a=some _ from x)
 | met f y=>exact aU (show h.get? a=some _ from x)
 | ext φ=>obtain⟨_,⟨_,e⟩,_⟩:=x;exact aU e
theorem Paired.mapP:∀{l₁:List α} {l₂:List β},Paired F l₁ l₂->(∀a b,F a b->G a b)->Paired G l₁ l₂
 | _,_,.nil,_=> .nil
 | _,_,.cons r t,f=> .cons (f _ _ r) (Paired.mapP t f)
def Paired.imp'{α β:Type}{F G:α->β->Prop}(f:∀a b,F a b->G a b){l₁:List α}{l₂:List β}(r:Paired F l₁ l₂):Paired G l₁ l₂:=Paired.mapP r f
def ObjOk.stay(x:ObjOk P w H h a o)(k:∀b u,(b=a\/H b=some (.own a))->h.get? b=some u->h'.get? b=some u)(ho:∀b,H b=some (.own a)->H' b=some (.own a))(ht:∀b xs,H b=some (.tup xs)->H' b=some (.tup xs)):ObjOk P w H' h' a o:=by
 induction o with
 | lst xs=>obtain⟨z,its,n,r,e⟩:=x;exact⟨z,its,n,r,k _ _ (.inl rfl) e⟩
 | tup xs=>obtain⟨z,its,r,ob,e,c⟩:=x;exact⟨z,its,r,ob,k _ _ (.inl rfl) e,c⟩
 | dK kvs=>obtain⟨z,y,vs,r,ob,es,ep,e,c⟩:=x;exact⟨z,y,vs,r,ob,es,ep,k _ _ (.inl rfl) e,c⟩
 | dT kvs=>
   obtain⟨z,y,xs,r,ob,es,ep,e,c⟩:=x;exact⟨z,y,xs,Paired.mapP r fun p q z=>⟨z.1,ht _ _ z.2.1,z.2.2⟩,ob,es,ep,k _ _ (.inl rfl) e,c⟩
 | set S n=>obtain⟨ob,es,ep,t,e,c⟩:=x;exact⟨ob,es,ep,t,k _ _ (.inl rfl) e,c⟩
 | ins C dx fs=>
   obtain⟨d,z,ne,e,mA,⟨od,es,ep,e2,c⟩,r⟩:=x;exact⟨ho _ d,z,ne,k _ _ (.inl rfl) e,mA,⟨od,es,ep,k _ _ (.inr d) e2,c⟩,r⟩
 | own y=>obtain⟨ob,e⟩:=x;exact⟨ob,k _ _ (.inl rfl) e⟩
 | xd fs=>obtain⟨mA,⟨od,es,ep,e,c⟩,r⟩:=x;exact⟨mA,⟨od,es,ep,k _ _ (.inl rfl) e,c⟩,r⟩
 | rng lo hi=>obtain⟨t,u,v,e⟩:=x;exact⟨t,u,v,k _ _ (.inl rfl) e⟩
 | frz ob u ih=>obtain⟨e,q⟩:=x;exact⟨k _ _ (.inl rfl) e,ih q⟩
 | tbl ps=>
   have e:h.get? a=some {cls:= .none,data:= .fields ps}:=x;show h'.get? a=some {cls:= .none,data:= .fields ps};exact k a _ (.inl rfl) e
 | met f y=>
   have e:h.get? a=some (PySem.W.methodObj (.ref f) (.ref y)):=x;show h'.get? a=some (PySem.W.methodObj (.ref f) (.ref y));exact k a _ (.inl rfl) e
 | ext φ=>obtain⟨p,⟨o,e⟩,st⟩:=x;exact⟨st _ _ p fun o q=>k _ _ (.inl rfl) q,⟨o,k _ _ (.inl rfl) e⟩,st⟩
def HOk.lt(x:HOk P w H h)(e:H a=some o):a<h.objs.size:=(x a o e).lt
def HOk.fresh{a:Addr}(x:HOk P w H h)(e:h.objs.size<=a):H a=none:=by
 cases q:H a with
 | none=>rfl
 | some u=>exact absurd (ax (x.lt q) e) (iq _)
def HOk.kept(x:HOk P w H h)(k:∀b u,h.get? b=some u->h'.get? b=some u):HOk P w H h':=fun a o e=>
 (x a o e).stay (fun b u _ q=>k b u q) (fun _ q=>q) fun _ _ q=>q
def HOk.laid{a:Addr}(x:HOk P w H h)(k:∀b u,h.get? b=some u->h'.get? b=some u)(hp:h.objs.size<=a)(new:ObjOk P w (upd H a o) h' a o):HOk P w (upd H a o) h':=fun b u e=>by
 have hn:=x.fresh hp;by_cases hb:b=a
 · subst hb;rw[aa] at e;cases e;exact new
 · rw[aD hb] at e;exact(x b u e).stay (fun c v _ q=>k c v q) (fun c q=>by rw[aD (ba q hn)];exact q) fun c xs q=>by rw[aD (ba q hn)];exact q
end
def Rd(H:Hp)(a:Addr)(u:HO):Prop:=H a=some u\/∃o,H a=some (.frz o u)
def Rd.ok(r:Rd H a u)(x:HOk P w H h):ObjOk P w H h a u:=by
 rcases r with r | ⟨o,r⟩
 · exact x a u r
 · obtain⟨_,q⟩:=x a _ r;exact q
def Mh:Option HO->Prop
 | some (.lst _)=>True
 | some (.dK _)=>True
 | some (.dT _)=>True
 | some (.set _ _)=>True
 | some (.ins _ _ _)=>True
 | some (.ext _)=>True
 | _=>False
section
def HOk.write(ok:HOk P w H h)(mu:Mh (H x))(he:e=x\/H e=some (.own x))(k:∀b u,b≠e->h.get? b=some u->h'.get? b=some u)(heo:∃u,h'.get? e=some u)(new:ObjOk P w (upd H x o') h' x o'):HOk P w (upd H x o') h':=fun b u q=>by
 have nown:∀c y,H c=some (.own y)->c≠x:=fun c y r z=>by subst z;rw[r] at mu;exact mu
 have ntup:∀c xs,H c=some (.tup xs)->c≠x:=fun c xs r z=>by subst z;rw[r] at mu;exact mu
 by_cases hb:b=x
 · subst hb;rw[aa] at q;cases q;exact new
 · rw[aD hb] at q;by_cases hbe:b=e
   · have q':H b=some (.own x):=by
      rcases he with z | z
      · exact absurd (hbe.trans z) hb
      · rw[hbe];exact z
     rw[q] at q';cases q';obtain⟨v,hv⟩:=heo;exact⟨v,by rw[hbe];exact hv⟩
   · refine(ok b u q).stay (fun c v hc r=>k c v ?_ r) (fun c r=>by rw[aD (nown c b r)];exact r) fun c xs r=>by rw[aD (ntup c xs r)];exact r
     rcases hc with rfl | hc
     · exact hbe
     · rintro rfl;rcases he with z | z
       · exact nown c b hc z
       · rw[hc] at z;cases z;exact hb rfl
end
structure Un(fs ex:List Addr)(H H':Hp)(h h':Heap):Prop where
 keep:∀b o,h.get? b=some o->H b=none->b∉fs->b∉ex->h'.get? b=some o
 slot:∀b o,h.get? b=some o->H b=none->b∈fs->b∉ex->∃sl,h'.get? b=some {o with slots:=sl}
 free:∀b o,h.get? b=some o->H b=none->b∉ex->H' b=none
 there:∀b o,h.get? b=some o->b∉ex->∃o',h'.get? b=some o'
 tups:∀b xs,H b=some (.tup xs)->H' b=some (.tup xs)
 frzs:∀b o u,H b=some (.frz o u)->H' b=some (.frz o u)
 tbls:∀b ps,H b=some (.tbl ps)->∃more,H' b=some (.tbl (ps++more))
section
def Un.any{fs ex:List Addr}{H H1:Hp}{h h1:Heap}(u:Un fs ex H H1 h h1){b:Addr}{ob:Obj}(q:h.get? b=some ob)(n:H b=none)(hx:b∉ex):∃sl,h1.get? b=some {ob with slots:=sl}:=by
 by_cases hb:b∈fs
 · exact u.slot b ob q n hb hx
 · exact⟨ob.slots,u.keep b ob q n hb hx⟩
def Un.kept(k:∀b u,h.get? b=some u->h'.get? b=some u):Un fs ex H H h h':=⟨fun b ob q _ _ _=>k b ob q,fun b ob q _ _ _=>⟨ob.slots,k b ob q⟩,fun _ _ _ n _=>n,fun b ob q _=>⟨ob,k b ob q⟩,fun _ _ q=>q,fun _ _ _ q=>q,fun _ ps q=>⟨#[],by rw[q];simp⟩⟩
def Un.refl:Un fs ex H H h h:=Un.kept fun _ _ q=>q
def Un.laid{h:Heap}{a:Addr}(k:∀b u,h.get? b=some u->h'.get? b=some u)(hp:h.objs.size<=a)(hn:H a=none):Un fs ex H (upd H a o) h h' where
 keep:=fun b u q _ _ _=>k b u q
 slot:=fun b u q _ _ _=>⟨u.slots,k b u q⟩
 free:=fun b u q n _=>by rw[aD (bJ (ax (aU q) hp))];exact n
 there:=fun b u q _=>⟨u,k b u q⟩
 tups:=fun b xs q=>by rw[aD (ba q hn)];exact q
 frzs:=fun b u xs q=>by rw[aD (ba q hn)];exact q
 tbls:=fun b ps q=>⟨#[],by rw[aD (ba q hn),q];simp⟩
def Un.write(mu:Mh (H x))(he:e=x\/H e=some (.own x))(k:∀b u,b≠e->h.get? b=some u->h'.get? b=some u)(heo:∃u,h'.get? e=some u):Un fs ex H (upd H x o) h h':=by
 have hx:∀b,H b=none->b≠x:=fun b n z=>by subst z;rw[n] at mu;exact mu
 have hb:∀b,H b=none->b≠e:=fun b n z=>by
  subst z;rcases he with r | r
  · exact hx b n r
  · rw[n] at r;cases r
 have hm:∀b u,H b=some u->¬ Mh (some u)->b≠x:=fun b u q nm z=>by subst z;rw[q] at mu;exact nm mu
 refine⟨fun b u q n _ _=>k b u (hb b n) q,fun b u q n _ _=>⟨u.slots,k b u (hb b n) q⟩,fun b u q n _=>by rw[aD (hx b n)];exact n,fun b u q _=> ?_,fun b xs q=>by rw[aD (hm b _ q fun z=>z)];exact q,fun b u xs q=>by rw[aD (hm b _ q fun z=>z)];exact q,fun b ps q=>⟨#[],by rw[aD (hm b _ q fun z=>z),q];simp⟩⟩;by_cases hbe:b=e
 · subst hbe;exact heo
 · exact⟨u,k b u hbe q⟩
end
noncomputable def Mw(h:Heap)(H:Hp):List Addr:=(List.range h.objs.size).filter fun a=>(H a).isSome
noncomputable def wb(h:Heap)(H:Hp):Heap:=PySem.W.hideAll h (Mw h H)
def CT(h:Heap)(H:Hp):(wb h H).objs.size=h.objs.size:=PySem.W.hideAll_size _ _
def E5(e:h.get? b=some o)(n:H b=none):(wb h H).get? b=some o:=PySem.W.hideAll_get _ e fun hm=>by
  have q:(H b).isSome=true:=(FI.mp hm).2;rw[n] at q;simp at q
def GV(e:(wb h H).get? b=some o):h.get? b=some o/\H b=none:=by
 have e':h.get? b=some o:=PySem.W.of_hideAll (Mw h H) e;refine⟨e',?_⟩;cases q:H b with
 | none=>rfl
 | some x=>
   have hm:b∈Mw h H:=FI.mpr ⟨dj.mpr (aU e'),by simp[q]⟩;have z:(wb h H).get? b=none:=PySem.W.hideAll_none (Mw h H) hm;rw[z] at e;cases e
noncomputable def HA(g h:Heap)(L:Addr):List (Addr × Obj):=(List.range h.objs.size).filterMap fun a=>if a=L\/(g.get? a).isSome=true then none else(h.get? a).map fun o=>(a,o)
noncomputable def rest(g h:Heap)(L d:Addr):List (Addr × Obj):=(HA g h L).filter fun p=>decide (p.1≠d)
structure Mod(K:Frag)(mg:Str->Option Value)(base:Heap):Prop where
 kin:K.In base
 glob:base.Ns mainGlobals mg
 blt:∃mb,base.Ns builtinsNs mb/\∀x:Str,x≠"__name__"->mb x=bootBuiltins x
 nolimit:base.NoLimit
/-- the context: a def's body (or a comprehension's block) running. base: fixed through the whole law; s₀, H₀: the entry; outer: the frames whose slots others may change (a def's callers); stack: all frames that run; ex:iterators that were made ahead of the entry and are walked here (a comprehension's);fn:the names whose cells were made at the entry (a def:all;a comprehension's block:its own);calm:not within an except suite;pn:pins that every state bears;xe:what is wanted of an exception that leaves the code -/
structure Cx where
 prog:Program
 w:World
 K:Frag
 mg:Str->Option Value
 base:Heap
 A:Around
 N:List Str
 s₀:Shared
 H₀:Hp
 env:Env
 outer:List Env
 stack:List Env
 ex:List Addr
 fn:Str->Bool
 calm:Bool
 pn:List (Addr × Obj)
 xe:Value->Shared->Prop
noncomputable def Fd(l:List Env):List Addr:=l.filterMap (·.frame)
noncomputable abbrev Cx.fs(X:Cx):List Addr:=Fd X.outer
def MC(sc:Scope)(x:Str):Prop:=sc.names.lookup x=some .local\/sc.names.lookup x=some .cell\/sc.names.lookup x=some .free
def Kw(sc:Scope)(x:Str):Prop:=sc.names.lookup x=some .local\/sc.names.lookup x=some .cell
def NR(env:Env)(h:Heap)(m:Str->Option Value)(x:Str)(u:Value):Prop:=(env.kindOf x=some .local/\m x=some u)\/((env.kindOf x=some .cell\/env.kindOf x=some .free)/\∃c,env.cells.lookup x=some c/\h.IsCell c (some u))
structure Cx.Ok(X:Cx):Prop where
 mod:Mod X.K X.mg X.base
 kind:X.env.scope.kind= .function
 glob:X.env.globals=mainGlobals
 blt:X.env.builtins=builtinsNs
 above:X.s₀.heap.objs.size<=X.env.locals
 inj:∀x y c,X.env.cells.lookup x=some c->X.env.cells.lookup y=some c->x=y
 has:∀x,(X.env.kindOf x=some .cell\/X.env.kindOf x=some .free)->∃c,X.env.cells.lookup x=some c
 cab:∀x c,X.fn x=true->X.env.cells.lookup x=some c->X.s₀.heap.objs.size<=c
 hd:X.calm=true->X.A.handled=none
 frames:X.A.frames=some X.stack
 stk:X.stack=X.outer\/(X.stack=X.env::X.outer/\X.env.frame=some X.env.locals)
 exf:∀b∈X.ex,b≠X.env.locals/\∀x c,X.env.cells.lookup x=some c->c≠b
 bs:∀b o,X.base.get? b=some o->X.s₀.heap.get? b=some o/\X.H₀ b=none
 bsz:X.base.objs.size<=X.s₀.heap.objs.size
 noex:∀b o,X.base.get? b=some o->b∉X.ex
 exfs:∀b∈X.ex,b∉X.fs
 funs:X.s₀.heap.FunFrames X.base X.outer
 frf:∀b∈X.fs,X.H₀ b=none
structure Inv(X:Cx)(pins:List (Addr × Obj))(σ:List (Option V))(H:Hp)(s:Shared):Prop where
 ok:X.Ok
 os:s.os=X.s₀.os
 bare:AllBare s.gens
 base:Un X.fs X.ex X.H₀ H X.s₀.heap s.heap
 loc:∃m,s.heap.Ns X.env.locals m/\∀(i:Nat) (x:Str) (v:V),X.N[i]? =some x->σ[i]? =some (some v)->MC X.env.scope x->∃u,RelV v u/\NR X.env s.heap m x u
 cell:∀x c,X.env.cells.lookup x=some c->∃v,s.heap.IsCell c v
 free:H X.env.locals=none
 freeC:∀x c,X.env.cells.lookup x=some c->H c=none
 pin:∀p∈X.pn++pins,s.heap.get? p.1=some p.2/\H p.1=none/\p.1≠X.env.locals/\p.1∉X.fs/\∀v,p.2.data≠ .cell v
 hok:HOk X.prog X.w H s.heap
 len:σ.length=X.N.length
section
def Cx.Ok.nofr{X:Cx}(ok:X.Ok){b:Addr}{o:Obj}(e:X.base.get? b=some o):b∉X.fs:=fun hb=>by
 have:=(ok.funs.mem hb).1;rw[e] at this;cases this
def Inv.bs(I:Inv X pins σ H s):∀b o,X.base.get? b=some o->s.heap.get? b=some o/\H b=none:=fun b o e=>
 ⟨I.base.keep b o (I.ok.bs b o e).1 (I.ok.bs b o e).2 (I.ok.nofr e) (I.ok.noex b o e),I.base.free b o (I.ok.bs b o e).1 (I.ok.bs b o e).2 (I.ok.noex b o e)⟩
def Inv.bk(I:Inv X pins σ H s):∀b o,X.base.get? b=some o->s.heap.get? b=some o:=fun b o e=>(I.bs b o e).1
def Inv.mod(I:Inv X pins σ H s):Mod X.K X.mg X.base:=I.ok.mod
def Inv.kIn(I:Inv X pins σ H s):X.K.In s.heap:=I.ok.mod.kin.keeps I.bk
def Inv.lt(I:Inv X pins σ H s):X.env.locals<s.heap.objs.size:=let⟨_,hn,_⟩:=I.loc;hn.lt
def Inv.sz(I:Inv X pins σ H s):X.s₀.heap.objs.size<=s.heap.objs.size:=aq I.ok.above (fw I.lt)
def Inv.nofs{X:Cx}{pins:List (Addr × Obj)}{σ:List (Option V)}{H:Hp}{s:Shared}(I:Inv X pins σ H s){a:Addr}(h:s.heap.objs.size<=a):a∉X.fs:=fun hb=>by
 obtain⟨_,o,ho,_⟩:=I.ok.funs.mem hb;exact absurd (ax (aU ho) (aq I.sz h)) (iq _)
def Inv.cne(I:Inv X pins σ H s):∀x c,X.env.cells.lookup x=some c->c≠X.env.locals:=fun x c e z=>by
 obtain⟨v,o,ho,hd⟩:=I.cell x c e;obtain⟨m,⟨o',es,ep,ho',hd',_⟩,_⟩:=I.loc;rw[z,ho'] at ho;cases ho;rw[hd'] at hd;cases hd
def Inv.funs(I:Inv X pins σ H s):s.heap.FunFrames X.base X.outer:=by
 have all:∀(l:List Env),(∀b∈Fd l,b∈X.fs)->X.s₀.heap.FunFrames X.base l->s.heap.FunFrames X.base l:=by
  intro l
  induction l with
  | nil=>intro _ _;trivial
  | cons env r ih=>
    intro hs hl;obtain⟨hk,⟨L,o,hf,hn,ho,hd⟩,hr⟩:=hl;have hL:L∈X.fs:=hs L (by unfold Fd;rw[fM,hf];exact aZ);obtain⟨sl,e⟩:=I.base.slot L o ho (I.ok.frf L hL) hL fun z=>I.ok.exfs L z hL;exact⟨hk,⟨L,_,hf,hn,e,hd⟩,ih (fun b hb=>hs b (by unfold Fd;rw[fM,hf];exact aG _ hb)) hr⟩
 exact all X.outer (fun _ hb=>hb) I.ok.funs
def Inv.stack(I:Inv X pins σ H s):s.heap.FunFrames X.base X.stack:=by
 rcases I.ok.stk with e | ⟨e,hf⟩
 · rw[e];exact I.funs
 · rw[e];obtain⟨m,hn,_⟩:=I.loc;refine .cons (by rw[I.ok.kind];decide) hf hn ?_ I.funs;exact Heap.get?_none_of_le (aq I.ok.bsz I.ok.above)
def Inv.stkSub(I:Inv X pins σ H s):∀b∈Fd X.stack,b∈X.env.locals::X.fs:=fun b hb=>by
 rcases I.ok.stk with e | ⟨e,hf⟩
 · rw[e] at hb;exact aG _ hb
 · rw[e] at hb;unfold Fd at hb;rw[fM,hf] at hb;exact hb
def Inv.stkFree(I:Inv X pins σ H s):∀b∈Fd X.stack,H b=none:=fun b hb=>by
 rcases aL.mp (I.stkSub b hb) with e | hb
 · rw[e];exact I.free
 · obtain⟨_,o,ho,_⟩:=I.ok.funs.mem hb;exact I.base.free b o ho (I.ok.frf b hb) fun z=>I.ok.exfs b z hb
def Inv.step{ch:List Addr}(I:Inv X pins σ H s)(hch:∀b∈ch,(b∈X.ex\/X.s₀.heap.objs.size<=b)/\b≠X.env.locals/\(∀x c,X.env.cells.lookup x=some c->c≠b)/\∀p∈X.pn++pins,p.1≠b)(keep:∀b o,b≠X.env.locals->b∉X.fs->b∉ch->s.heap.get? b=some o->H b=none->h'.get? b=some o)(slot:∀b o,b≠X.env.locals->b∈X.fs->b∉ch->s.heap.get? b=some o->H b=none->∃sl,h'.get? b=some {o with slots:=sl})(free:∀b o,b∉ch->s.heap.get? b=some o->H b=none->H' b=none)(there:∀b o,b∉ch->s.heap.get? b=some o->∃o',h'.get? b=some o')(tups:∀b xs,H b=some (.tup xs)->H' b=some (.tup xs))(frzs:∀b o u,H b=some (.frz o u)->H' b=some (.frz o u))(tbls:∀b ps,H b=some (.tbl ps)->∃more,H' b=some (.tbl (ps++more)))(ns:∀m,s.heap.Ns X.env.locals m->h'.Ns X.env.locals m)(hok:HOk X.prog X.w H' h')(hg:AllBare g'):Inv X pins σ H' {s with heap:=h',gens:=g',drawn:=d',toks:=t'}:=by
 have neL:∀b o,X.s₀.heap.get? b=some o->b≠X.env.locals:=fun b o e=>bJ (ax (aU e) I.ok.above);have neC:∀b o,X.s₀.heap.get? b=some o->b∉X.ex->b∉ch:=fun b o e hx hb=>by
  rcases(hch b hb).1 with z | z
  · exact hx z
  · exact absurd (ax (aU e) z) (iq _)
 have cellK:∀x c,X.env.cells.lookup x=some c->∀v,s.heap.IsCell c v->h'.IsCell c v:=fun x c e v ⟨o,ho,hd⟩=>by
  have nch:c∉ch:=fun z=>(hch c z).2.2.1 x c e rfl;by_cases hc:c∈X.fs
  · obtain⟨sl,q⟩:=slot c o (I.cne x c e) hc nch ho (I.freeC x c e);exact⟨_,q,hd⟩
  · exact⟨o,keep c o (I.cne x c e) hc nch ho (I.freeC x c e),hd⟩
 refine⟨I.ok,I.os,hg,⟨fun b o e n hb hx=> ?_,fun b o e n hb hx=> ?_,fun b o e n hx=> ?_,fun b o e hx=> ?_,fun b xs e=>tups b xs (I.base.tups b xs e),fun b o xs e=>frzs b o xs (I.base.frzs b o xs e),fun b ps e=> ?_⟩,?_,fun x c e=> ?_,?_,fun x c e=> ?_,fun p hp=> ?_,hok,I.len⟩
 · exact keep b o (neL b o e) hb (neC b o e hx) (I.base.keep b o e n hb hx) (I.base.free b o e n hx)
 · obtain⟨sl,e1⟩:=I.base.slot b o e n hb hx;obtain⟨sl',e2⟩:=slot b _ (neL b o e) hb (neC b o e hx) e1 (I.base.free b o e n hx);exact⟨sl',e2⟩
 · obtain⟨o',e1⟩:=I.base.there b o e hx;exact free b o' (neC b o e hx) e1 (I.base.free b o e n hx)
 · obtain⟨o',e1⟩:=I.base.there b o e hx;exact there b o' (neC b o e hx) e1
 · obtain⟨m1,e1⟩:=I.base.tbls b ps e;obtain⟨m2,e2⟩:=tbls b _ e1;exact⟨m1++m2,by rw[e2,Array.append_assoc]⟩
 · obtain⟨m,hn,hl⟩:=I.loc;refine⟨m,ns m hn,fun i x v e1 e2 e3=> ?_⟩;obtain⟨u,r,l⟩:=hl i x v e1 e2 e3;refine⟨u,r,?_⟩;rcases l with l | ⟨k,c,e,z⟩
   · exact .inl l
   · exact .inr ⟨k,c,e,cellK x c e _ z⟩
 · obtain⟨v,z⟩:=I.cell x c e;exact⟨v,cellK x c e v z⟩
 · obtain⟨m,⟨o,_,_,ho,_⟩,_⟩:=I.loc;exact free _ o (fun z=>(hch _ z).2.1 rfl) ho I.free
 · obtain⟨v,o,ho,hd⟩:=I.cell x c e;exact free c o (fun z=>(hch c z).2.2.1 x c e rfl) ho (I.freeC x c e)
 · obtain⟨e,n,ne,nf,d⟩:=I.pin p hp;have nch:p.1∉ch:=fun z=>(hch p.1 z).2.2.2 p hp rfl;exact⟨keep p.1 p.2 ne nf nch e n,free p.1 p.2 nch e n,ne,nf,d⟩
def Inv.un(I:Inv X pins σ H s)(u:Un X.fs [] H H' s.heap h')(hok:HOk X.prog X.w H' h'):Inv X pins σ H' {s with heap:=h',toks:=t'}:=by
 obtain⟨m,⟨o,es,ep,ho,r⟩,_⟩:=id I.loc;obtain⟨sl,hL⟩:=u.any ho I.free (by simp);exact I.step (g':=s.gens) (d':=s.drawn) (ch:=[]) (fun _ z=>nomatch z) (fun b o _ hb _ e n=>u.keep b o e n hb (by simp)) (fun b o _ hb _ e n=>u.slot b o e n hb (by simp)) (fun b o _ e n=>u.free b o e n (by simp)) (fun b o _ e=>u.there b o e (by simp)) u.tups u.frzs u.tbls (fun m' hm=>by
  obtain⟨o',es',ep',ho',r'⟩:=hm;rw[ho] at ho';cases ho';exact⟨_,es',ep',hL,r'⟩) hok I.bare
def Inv.call(I:Inv X pins σ H s)(u:Un (Fd X.stack) ch H H' s.heap h')(hok:HOk X.prog X.w H' h')(hg:AllBare g')(hch:∀b∈ch,(b∈X.ex\/X.s₀.heap.objs.size<=b)/\b≠X.env.locals/\(∀x c,X.env.cells.lookup x=some c->c≠b)/\∀p∈X.pn++pins,p.1≠b):Inv X pins σ H' {s with heap:=h',gens:=g',drawn:=d',toks:=t'}:=by
 obtain⟨m,⟨o,es,ep,ho,r⟩,_⟩:=id I.loc;obtain⟨sl,hL⟩:=u.any ho I.free fun z=>(hch _ z).2.1 rfl;exact I.step (ch:=ch) hch (fun b o hL hb hc e n=>u.keep b o e n (fun z=>(aL.mp (I.stkSub b z)).elim hL hb) hc) (fun b o _ _ hc e n=>u.any e n hc) (fun b o hc e n=>u.free b o e n hc) (fun b o hc e=>u.there b o e hc) u.tups u.frzs u.tbls (fun m' hm=>by
  obtain⟨o',es',ep',ho',r'⟩:=hm;rw[ho] at ho';cases ho';exact⟨_,es',ep',hL,r'⟩) hok hg
def Inv.turned(I:Inv X pins σ H s)(k:∀b o,b≠it->s.heap.get? b=some o->h'.get? b=some o)(hn:H it=none)(hL:it≠X.env.locals)(h1:it∈X.ex\/X.s₀.heap.objs.size<=it)(h2:∀x c,X.env.cells.lookup x=some c->c≠it)(h3:∀p∈X.pn++pins,p.1≠it):Inv X pins σ H {s with heap:=h',toks:=t'}:=by
 have nit:∀b u,H b=some u->b≠it:=fun b u e z=>by rw[z,hn] at e;cases e
 refine I.step (g':=s.gens) (d':=s.drawn) (ch:=[it]) (fun b hb=> ?_) (fun b o _ _ hc e _=>k b o (fun z=>hc (by simp[z])) e) (fun b o _ _ hc e _=>⟨o.slots,k b o (fun z=>hc (by simp[z])) e⟩) (fun _ _ _ _ n=>n) (fun b o hc e=>⟨o,k b o (fun z=>hc (by simp[z])) e⟩) (fun _ _ e=>e) (fun _ _ _ e=>e) (fun b ps e=>⟨#[],by rw[e];simp⟩) (fun m hm=> ?_) (fun b u e=> ?_) I.bare
 · have e:b=it:=by simpa using hb
   subst e;exact⟨h1,hL,h2,h3⟩
 · obtain⟨o,es,ep,ho,r⟩:=hm;exact⟨o,es,ep,k _ o (bI hL) ho,r⟩
 · refine(I.hok b u e).stay (fun c v hc q=>k c v ?_ q) (fun _ q=>q) fun _ _ q=>q;rcases hc with z | z
   · rw[z];exact nit b u e
   · exact nit c _ z
def Inv.tok(I:Inv X pins σ H s)(t:Nat):Inv X pins σ H {s with toks:=t}:=I.un (h':=s.heap) (t':=t) Un.refl I.hok
def Inv.kept(I:Inv X pins σ H s)(k:∀b u,s.heap.get? b=some u->h'.get? b=some u):Inv X pins σ H {s with heap:=h',toks:=t'}:=I.un (Un.kept k) (I.hok.kept k)
def Inv.laid{a:Addr}(I:Inv X pins σ H s)(k:∀b u,s.heap.get? b=some u->h'.get? b=some u)(hp:s.heap.objs.size<=a)(new:ObjOk X.prog X.w (upd H a o) h' a o):Inv X pins σ (upd H a o) {s with heap:=h',toks:=t'}:=I.un (Un.laid k hp (I.hok.fresh hp)) (I.hok.laid k hp new)
def Inv.write(I:Inv X pins σ H s)(mu:Mh (H x))(he:e=x\/H e=some (.own x))(k:∀b u,b≠e->s.heap.get? b=some u->h'.get? b=some u)(heo:∃u,h'.get? e=some u)(new:ObjOk X.prog X.w (upd H x o) h' x o):Inv X pins σ (upd H x o) {s with heap:=h',toks:=t'}:=I.un (Un.write mu he k heo) (I.hok.write mu he k heo new)
def Inv.pins_of(I:Inv X pins σ H s)(h:∀p∈pins',s.heap.get? p.1=some p.2/\H p.1=none/\p.1≠X.env.locals/\p.1∉X.fs/\∀v,p.2.data≠ .cell v):Inv X pins' σ H s:=⟨I.ok,I.os,I.bare,I.base,I.loc,I.cell,I.free,I.freeC,fun p hp=>(av.mp hp).elim (fun z=>I.pin p (aP _ z)) (h p),I.hok,I.len⟩
def xY{N:List Str}(hN:N.Nodup){i j:Nat}{x:Str}(a:N[i]? =some x)(b:N[j]? =some x):i=j:=by
 obtain⟨h1,e1⟩:=aY.mp a;obtain⟨h2,e2⟩:=aY.mp b;exact(List.getElem_inj hN).mp (e1.trans e2.symm)
def tZ{X:Cx}{pins:List (Addr × Obj)}{σ:List (Option V)}{H:Hp}{s:Shared}{M:Model}{A:Around}{E:Value->Shared->Prop}{i:Nat}{x:Str}{v:V}{u:Value}{Q:Unit->Shared->Prop}(I:Inv X pins σ H s)(hN:X.N.Nodup)(hi:X.N[i]? =some x)(hx:Kw X.env.scope x)(r:RelV v u)(h:∀s',Inv X pins (σ.set i (some v)) H s'->(∃a,Heap.SameBut a s.heap s'.heap/\(a=X.env.locals\/X.env.cells.lookup x=some a))->Q () s')(hf:X.fn x=true\/X.env.scope.names.lookup x=some .local:=by first | exact .inl rfl | exact .inr rfl | assumption):wpAny M A (storeName X.env x u) Q E s:=by
 obtain⟨m,hn,hl⟩:=id I.loc;have hcls:(X.env.scope.kind== .class || (X.env.scope.kind== .module&&X.env.locals !=X.env.globals))=false:=by rw[I.ok.kind];rfl
 have hiσ:i<σ.length:=by rw[I.len];exact(aY.mp hi).1
 have cne:=I.cne;have tracked:∀{a:Addr} {h':Heap},(∃o,s.heap.get? a=some o/\H a=none)->Heap.SameBut a s.heap h'->HOk X.prog X.w H h':=fun {a h'} ha hs b ob e=>by
  obtain⟨_,_,hfree⟩:=ha;refine(I.hok b ob e).stay (fun c w' hc q=>(hs.2 c ?_).trans q) (fun _ q=>q) fun _ _ q=>q;rintro rfl;rcases hc with rfl | hc
  · rw[hfree] at e;cases e
  · rw[hfree] at hc;cases hc
 rcases hx with hk | hk
 · refine wpAny_storeName_local hk hn (fun h' hn' hs=> ?_) hcls;obtain⟨oL,_,_,hoL,_⟩:=id hn;refine h _ ⟨I.ok,I.os,I.bare,⟨fun b o e n hb hx=> ?_,fun b o e n hb hx=> ?_,I.base.free,fun b o e hx=> ?_,I.base.tups,I.base.frzs,I.base.tbls⟩,⟨_,hn',fun j y v' e1 e2 e3=> ?_⟩,fun y c e=> ?_,I.free,I.freeC,fun p hp=> ?_,tracked ⟨oL,hoL,I.free⟩ hs,by simpa using I.len⟩ ⟨_,hs,.inl rfl⟩
   · exact(hs.2 b (bJ (ax (aU e) I.ok.above))).trans (I.base.keep b o e n hb hx)
   · obtain⟨sl,e1⟩:=I.base.slot b o e n hb hx;exact⟨sl,(hs.2 b (bJ (ax (aU e) I.ok.above))).trans e1⟩
   · obtain⟨o',e1⟩:=I.base.there b o e hx;exact⟨o',(hs.2 b (bJ (ax (aU e) I.ok.above))).trans e1⟩
   · by_cases hj:j=i
     · subst hj;rw[hi] at e1;cases e1;rw[Mj hiσ] at e2;cases e2;exact⟨u,r,.inl ⟨hk,by simp⟩⟩
     · rw[NU (bI hj)] at e2;obtain⟨u',r',q⟩:=hl j y v' e1 e2 e3;refine⟨u',r',?_⟩;rcases q with⟨k,e⟩ | ⟨k,c,e,z⟩
       · refine .inl ⟨k,?_⟩;have:y≠x:=fun e=>hj (xY hN e1 (e ▸ hi));simp[this,e]
       · exact .inr ⟨k,c,e,z.sameBut hs (cne y c e)⟩
   · obtain⟨w',z⟩:=I.cell y c e;exact⟨w',z.sameBut hs (cne y c e)⟩
   · obtain⟨e,n,ne,nf,d⟩:=I.pin p hp;exact⟨(hs.2 p.1 ne).trans e,n,ne,nf,d⟩
 · have hfn:X.fn x=true:=by
    rcases hf with z | z
    · exact z
    · rw[z] at hk;cases hk
   obtain⟨c,hc⟩:=I.ok.has x (.inl hk);obtain⟨w',z⟩:=I.cell x c hc;refine wpAny_storeName_cell I.ok.kind hk hc z (fun h' hc' hs=> ?_);obtain⟨oc,hoc,hocd⟩:=id z;refine h {s with heap:=h'} ⟨I.ok,I.os,I.bare,⟨fun b o e n hb hx=> ?_,fun b o e n hb hx=> ?_,I.base.free,fun b o e hx=> ?_,I.base.tups,I.base.frzs,I.base.tbls⟩,⟨m,hn.sameBut hs (bI (cne x c hc)),fun j y v' e1 e2 e3=> ?_⟩,fun y c' e=> ?_,I.free,I.freeC,fun p hp=> ?_,tracked ⟨oc,hoc,I.freeC x c hc⟩ hs,by simpa using I.len⟩ ⟨c,hs,.inr hc⟩
   · exact(hs.2 b (bJ (ax (aU e) (I.ok.cab x c hfn hc)))).trans (I.base.keep b o e n hb hx)
   · obtain⟨sl,e1⟩:=I.base.slot b o e n hb hx;exact⟨sl,(hs.2 b (bJ (ax (aU e) (I.ok.cab x c hfn hc)))).trans e1⟩
   · obtain⟨o',e1⟩:=I.base.there b o e hx;exact⟨o',(hs.2 b (bJ (ax (aU e) (I.ok.cab x c hfn hc)))).trans e1⟩
   · by_cases hj:j=i
     · subst hj;rw[hi] at e1;cases e1;rw[Mj hiσ] at e2;cases e2;exact⟨u,r,.inr ⟨.inl hk,c,hc,hc'⟩⟩
     · rw[NU (bI hj)] at e2;obtain⟨u',r',q⟩:=hl j y v' e1 e2 e3;refine⟨u',r',?_⟩;rcases q with q | ⟨k,c',e,z'⟩
       · exact .inl q
       · refine .inr ⟨k,c',e,z'.sameBut hs ?_⟩;rintro rfl;exact hj (xY hN e1 (I.ok.inj _ _ _ e hc ▸ hi))
   · by_cases hcc:c'=c
     · subst hcc;exact⟨_,hc'⟩
     · obtain⟨w2,z2⟩:=I.cell y c' e;exact⟨w2,z2.sameBut hs hcc⟩
   · obtain⟨e,n,ne,nf,d⟩:=I.pin p hp;refine⟨(hs.2 p.1 ?_).trans e,n,ne,nf,d⟩;intro q;rw[q,hoc] at e;have q':oc=p.2:=d3 e;exact d w' (by rw[<-q'];exact hocd)
def kg{X:Cx}{pins:List (Addr × Obj)}{σ:List (Option V)}{H:Hp}{s:Shared}{M:Model}{A:Around}{E:Value->Shared->Prop}{i:Nat}{x:Str}{v:V}{u:Value}{Q:Unit->Shared->Prop}(I:Inv X pins σ H s)(hN:X.N.Nodup)(hi:X.N[i]? =some x)(hx:Kw X.env.scope x)(r:RelV v u)(h:∀s',Inv X pins (σ.set i (some v)) H s'->Q () s')(hf:X.fn x=true\/X.env.scope.names.lookup x=some .local:=by first | exact .inl rfl | exact .inr rfl | assumption):wpAny M A (storeName X.env x u) Q E s:=tZ I hN hi hx r (fun s' I' _=>h s' I') hf
def Inv.call'(I:Inv X pins σ H s)(ho:s'.os=s.os)(u:Un (Fd X.stack) ch H H' s.heap s'.heap)(hok:HOk X.prog X.w H' s'.heap)(hg:AllBare s'.gens)(hch:∀b∈ch,(b∈X.ex\/X.s₀.heap.objs.size<=b)/\b≠X.env.locals/\(∀x c,X.env.cells.lookup x=some c->c≠b)/\∀p∈X.pn++pins,p.1≠b):Inv X pins σ H' s':=by
 obtain⟨h',g',d',t',o'⟩:=s';have e:o'=s.os:=ho;subst e;exact I.call (g':=g') (t':=t') (d':=d') u hok hg hch
end
abbrev XK:=Value->Option Addr->Hp->Prop
abbrev St:=List (Option V)
abbrev VK:=V->Hp->Prop
abbrev TE:=St->Hp->VK->Prop
abbrev TT:=St->Hp->(Bool->Hp->Prop)->Prop
abbrev TA:=St->Hp->(List V->Hp->Prop)->Prop
structure s_ where
 nx:St->Hp->Prop
 rt:VK
 bk:St->Hp->Prop:=fun _ _=>False
 ct:St->Hp->Prop:=fun _ _=>False
abbrev TS:=s_->St->Hp->Prop
def EP(X:Cx)(pins:List (Addr × Obj))(σ:St)(Q:VK)(u:Value)(s':Shared):Prop:=∃v H',Inv X pins σ H' s'/\RelV v u/\Q v H'
def TP(X:Cx)(pins:List (Addr × Obj))(σ:St)(Q:Bool->Hp->Prop)(b:Bool)(s':Shared):Prop:=∃H',Inv X pins σ H' s'/\Q b H'
def AP(X:Cx)(pins:List (Addr × Obj))(σ:St)(Q:List V->Hp->Prop)(us:List Value)(s':Shared):Prop:=∃vs H',Inv X pins σ H' s'/\Vals vs us/\Q vs H'
def SP(X:Cx)(pins:List (Addr × Obj))(D:s_)(f:Flow)(s':Shared):Prop:=match f with
 | .next=>∃σ' H',Inv X pins σ' H' s'/\D.nx σ' H'
 | .brk=>∃σ' H',Inv X pins σ' H' s'/\D.bk σ' H'
 | .cont=>∃σ' H',Inv X pins σ' H' s'/\D.ct σ' H'
 | .ret u=>∃v σ' H',Inv X pins σ' H' s'/\RelV v u/\D.rt v H'
def PE(X:Cx)(e:Expr)(t:TE):Prop:=∀(pins:List (Addr × Obj)) (s:Shared) (σ:St) (H:Hp) (Q:VK),Inv X pins σ H s->t σ H Q->wpAny (model X.prog X.w) X.A (eval e X.env) (EP X pins σ Q) X.xe s
def PT(X:Cx)(e:Expr)(t:TT):Prop:=∀(pins:List (Addr × Obj)) (s:Shared) (σ:St) (H:Hp) (Q:Bool->Hp->Prop),Inv X pins σ H s->t σ H Q->wpAny (model X.prog X.w) X.A (isTrue e X.env (eval e X.env)) (TP X pins σ Q) X.xe s
def PW(X:Cx)(e:Expr)(t:TT):Prop:=∀(whole:Sem Value) (pins:List (Addr × Obj)) (s:Shared) (σ:St) (H:Hp) (Q:Bool->Hp->Prop),Inv X pins σ H s->t σ H Q->wpAny (model X.prog X.w) X.A (isTrue e X.env whole) (TP X pins σ Q) X.xe s
def PW.pt(h:PW X e t):PT X e t:=h _
def PA(X:Cx)(es:List Expr)(t:TA):Prop:=∀(pos:Pos) (pins:List (Addr × Obj)) (s:Shared) (σ:St) (H:Hp) (Q:List V->Hp->Prop),Inv X pins σ H s->t σ H Q->wpAny (model X.prog X.w) X.A (spliced (backTo pos (starEach es X.env))) (AP X pins σ Q) X.xe s
def PS(X:Cx)(st:Stmt)(t:TS):Prop:=∀(pins:List (Addr × Obj)) (s:Shared) (σ:St) (H:Hp) (D:s_),Inv X pins σ H s->t D σ H->wpAny (model X.prog X.w) X.A (exec st X.env) (SP X pins D) X.xe s
def PSs(X:Cx)(st:List Stmt)(t:TS):Prop:=∀(pins:List (Addr × Obj)) (s:Shared) (σ:St) (H:Hp) (D:s_),Inv X pins σ H s->t D σ H->wpAny (model X.prog X.w) X.A (execs st X.env) (SP X pins D) X.xe s
def dt{t:Sem α}(h:wpAny M A t Q E s)(hQ:∀a s,Q a s->Q' a s):wpAny M A t Q' E s:=cP h hQ fun _ _ x=>x
section
def O_{X:Cx}{a b:Expr}{ta tb:TE}(ha:PE X a ta)(hb:PE X b tb){pins:List (Addr × Obj)}{s:Shared}{σ:St}{H:Hp}{R:V->V->Hp->Prop}(I:Inv X pins σ H s)(h:ta σ H fun x H1=>tb σ H1 fun y H2=>R x y H2){α:Type}{Q:α->Shared->Prop}{f:Value->Value->Sem α}(hf:∀v u s2 x y H2,Inv X pins σ H2 s2->RelV x v->RelV y u->R x y H2->wpAny (model X.prog X.w) X.A (f v u) Q X.xe s2):wpAny (model X.prog X.w) X.A (eval a X.env) (fun v s₁=>wpAny (model X.prog X.w) X.A (eval b X.env) (fun u s₂=>wpAny (model X.prog X.w) X.A (f v u) Q X.xe s₂) X.xe s₁) X.xe s:=by
 refine dt (ha pins s σ H _ I h) fun v s1 ⟨x,H1,I1,r1,q1⟩=> ?_;refine dt (hb pins s1 σ H1 _ I1 q1) fun u s2 ⟨y,H2,I2,r2,q2⟩=> ?_;exact hf v u s2 x y H2 I2 r1 r2 q2
def onV(σ:St)(i:Nat)(Q:V->Prop):Prop:=match σ[i]? with | some (some v)=>Q v | _=>False
def onB(x:V)(Q:Bool->Prop):Prop:=match x with | .bl c=>Q c | _=>False
def onI(x:V)(Q:Int->Prop):Prop:=match x with | .int c=>Q c | _=>False
def onR(x:V)(Q:Addr->Prop):Prop:=match x with | .ref c=>Q c | _=>False
def onT(b:Bool)(Q:Prop):Prop:=match b with | true=>Q | false=>False
def onV.ex(h:onV σ i Q):∃v,σ[i]? =some (some v)/\Q v:=by
 unfold onV at h
 split at h
 · exact⟨_,by assumption,h⟩
 · exact h.elim
def onB.ex(h:onB x Q):∃c,x= .bl c/\Q c:=by cases x<;>first | exact⟨_,rfl,h⟩ | exact False.elim h
def onI.ex(h:onI x Q):∃c,x= .int c/\Q c:=by cases x<;>first | exact⟨_,rfl,h⟩ | exact False.elim h
def onR.ex(h:onR x Q):∃c,x= .ref c/\Q c:=by cases x<;>first | exact⟨_,rfl,h⟩ | exact False.elim h
def onT.ex(h:onT b Q):b=true/\Q:=by cases b<;>first | exact⟨rfl,h⟩ | exact False.elim h
def ot(i:Nat):TE:=fun σ H Q=>onV σ i fun v=>Q v H
def tC(v:V):TE:=fun _ H Q=>Q v H
def Jj{X:Cx}{i:Nat}{x:Str}{pos:Pos}(hN:X.N[i]? =some x)(hv:MC X.env.scope x)(hd:(x==("__debug__":Str))=false:=by decide)(hcd:(x==("__classdict__":Str))=false:=by decide):PE X (.Name x pos) (ot i):=by
 intro pins s σ H Q I h;obtain⟨v,e,h⟩:=onV.ex h;obtain⟨m,hn,hl⟩:=I.loc;obtain⟨u,r,l⟩:=hl i x v hN e hv;have fin:EP X pins σ Q u s:=⟨v,H,I,r,h⟩;rcases l with⟨hk,hm⟩ | ⟨hk,c,hc,hcell⟩
 · exact Ou (MP I.ok.kind hk hn hm fin) hd
 · rcases hk with hk | hk
   · exact Ou (NZ I.ok.kind hk hc hcell fin) hd
   · exact Ou (wpAny_loadName_free I.ok.kind hk hc hcell fin hcd) hd
def aA:PE X (.Constant (.int i) j pos) (tC (.int i)):=fun _ _ _ H _ I h=>wpAny_Constant_int ⟨.int i,H,I.tok _,⟨_,rfl⟩,h⟩
def dI:PE X (.Constant (.bool b) j pos) (tC (.bl b)):=fun _ _ _ H _ I h=>Constant_bool ⟨.bl b,H,I,rfl,h⟩
def dN:PE X (.Constant .none j pos) (tC .non):=fun _ _ _ H _ I h=>Constant_none ⟨.non,H,I,rfl,h⟩
def aJ:PE X (.Constant (.str x) j pos) (tC (.str x)):=fun _ _ _ H _ I h=>Calls.Constant_str ⟨.str x,H,I.tok _,⟨_,rfl⟩,h⟩
def Gl(X:Cx)(x:Str):Prop:=X.env.kindOf x=some .globalImplicit
def qF{X:Cx}{E:Value->Shared->Prop}{pins:List (Addr × Obj)}{s:Shared}{σ:St}{H:Hp}{x:Str}{u:Value}{pos:Pos}{Q:Value->Shared->Prop}(I:Inv X pins σ H s)(hg:Gl X x)(hm:X.mg x=some u)(h:Q u s)(hd:(x==("__debug__":Str))=false:=by decide):wpAny (model X.prog X.w) X.A (eval (.Name x pos) X.env) Q E s:=HJ I.ok.kind hg (Calls.loadGlobal_global (by rw[I.ok.glob];exact I.mod.glob.keeps I.bk) hm h) hd
def oX{X:Cx}{E:Value->Shared->Prop}{pins:List (Addr × Obj)}{s:Shared}{σ:St}{H:Hp}{x:Str}{u:Value}{pos:Pos}{Q:Value->Shared->Prop}(I:Inv X pins σ H s)(hg:Gl X x)(hm:X.mg x=none)(hv:bootBuiltins x=some u)(h:Q u s)(hn:x≠"__name__":=by decide)(hd:(x==("__debug__":Str))=false:=by decide):wpAny (model X.prog X.w) X.A (eval (.Name x pos) X.env) Q E s:=by
 obtain⟨mb,h1,h2⟩:=I.mod.blt;exact HJ I.ok.kind hg (Calls.loadGlobal_builtin (by rw[I.ok.glob];exact I.mod.glob.keeps I.bk) hm (by rw[I.ok.blt];exact h1.keeps I.bk) ((h2 x hn).trans hv) h) hd
def qB{X:Cx}{x:Str}{v:V}{u:Value}{pos:Pos}(hg:Gl X x)(hm:X.mg x=some u)(r:RelV v u)(hd:(x==("__debug__":Str))=false:=by decide):PE X (.Name x pos) (tC v):=fun _ _ _ H _ I h=>qF I hg hm ⟨v,H,I,r,h⟩ hd
def vL{X:Cx}{x:Str}{v:V}{u:Value}{pos:Pos}(hg:Gl X x)(hm:X.mg x=none)(hv:bootBuiltins x=some u)(r:RelV v u)(hn:x≠"__name__":=by decide)(hd:(x==("__debug__":Str))=false:=by decide):PE X (.Name x pos) (tC v):=fun _ _ _ H _ I h=>oX I hg hm hv ⟨v,H,I,r,h⟩ hn hd
def PC(X:Cx)(op:CmpOp)(a b:Expr)(t:TE):Prop:=∀(pins:List (Addr × Obj)) (s:Shared) (σ:St) (H:Hp) (Q:VK),Inv X pins σ H s->t σ H Q->wpAny (model X.prog X.w) X.A (eval a X.env) (fun v s₁=>wpAny (model X.prog X.w) X.A (eval b X.env) (fun u s₂=>wpAny (model X.prog X.w) X.A (compareOp op v u) (EP X pins σ Q) X.xe s₂) X.xe s₁) X.xe s
def Ex(b:Expr){op:CmpOp}(h:op≠ .In)(h2:op≠ .NotIn):behindInMarks op b=false:=by
 have e1:(op==CmpOp.In)=false:=by cases op<;>first | rfl | exact absurd rfl h
 have e2:(op==CmpOp.NotIn)=false:=by cases op<;>first | rfl | exact absurd rfl h2
 cases b<;>simp[behindInMarks,e1,e2]
def tB(t:TE):TT:=fun σ H Q=>t σ H fun x H1=>onB x fun c=>Q c H1
def Np{X:Cx}{a b:Expr}{pos:Pos}{op:CmpOp}{t:TE}(h:PC X op a b t)(h1:behindInMarks op b=false:=by first | exact Ex _ (by decide) (by decide) | rfl):PT X (.Compare a [op] [b] pos) (tB t):=by
 intro pins s σ H Q I hw;refine Mv (dt (h pins s σ H _ I hw) fun v s1 h1=>dt h1 fun u s2 h2=>dt h2 fun c s3 ⟨x,H1,I1,r1,q1⟩=> ?_) h1;obtain⟨d,rfl,q⟩:=onB.ex q1;cases r1;exact df ⟨H1,I1,q⟩
def eX{X:Cx}{e:Expr}{t:TE}(h:PE X e t)(he:∀whole,isTrue e X.env whole=(do let v<-whole;standAt e.pos;holding [v] (truthy v)):=by intro _;rfl):PT X e (tB t):=by
 intro pins s σ H Q I hw;refine isTrue_plain (dt (h pins s σ H _ I hw) fun v s1 ⟨x,H1,I1,r1,q1⟩=> ?_) (he _);obtain⟨d,rfl,q⟩:=onB.ex q1;cases r1;exact df ⟨H1,I1,q⟩
def M4(t u:TT):TT:=fun σ H Q=>t σ H fun c H1=>if c=true then u σ H1 Q else Q false H1
def Oz(t u:TT):TT:=fun σ H Q=>t σ H fun c H1=>if c=true then Q true H1 else u σ H1 Q
def MW(t:TT):TT:=fun σ H Q=>t σ H fun c H1=>Q (!c) H1
def hU(ha:PT X a tA):PW X (.BoolOp .And [a] pos) tA:=by
 intro wh pins s σ H Q I h;refine isTrue_and (dt (ha pins s σ H Q I h) fun c s1 e=> ?_);cases c with
 | true=>exact isTrue_and_nil e
 | false=>exact e
def gi(ha:PT X a tA):PW X (.BoolOp .Or [a] pos) tA:=by
 intro wh pins s σ H Q I h;refine isTrue_or (dt (ha pins s σ H Q I h) fun c s1 e=> ?_);cases c with
 | false=>exact isTrue_or_nil e
 | true=>exact e
def gG{rest:List Expr}(ha:PT X a tA)(hb:PW X (.BoolOp .And (b::rest) pos) tB'):PW X (.BoolOp .And (a::b::rest) pos) (M4 tA tB'):=by
 intro wh pins s σ H Q I h;refine isTrue_and (dt (ha pins s σ H _ I h) fun c s1 ⟨H1,I1,q1⟩=> ?_);cases c with
 | true=>exact hb wh pins s1 σ H1 Q I1 q1
 | false=>exact⟨H1,I1,q1⟩
def fW{rest:List Expr}(ha:PT X a tA)(hb:PW X (.BoolOp .Or (b::rest) pos) tB'):PW X (.BoolOp .Or (a::b::rest) pos) (Oz tA tB'):=by
 intro wh pins s σ H Q I h;refine isTrue_or (dt (ha pins s σ H _ I h) fun c s1 ⟨H1,I1,q1⟩=> ?_);cases c with
 | true=>exact⟨H1,I1,q1⟩
 | false=>exact hb wh pins s1 σ H1 Q I1 q1
def gH(ha:PT X a tA):PT X (.UnaryOp .Not a pos) (MW tA):=by
 intro pins s σ H Q I h;exact isTrue_not (ha pins s σ H (fun c H1=>Q (!c) H1) I h)
def K5(ta tb:TE):TE:=fun σ H Q=>ta σ H fun x H1=>onB x fun c=>if c=true then tb σ H1 Q else Q (.bl false) H1
def MV(ta tb:TE):TE:=fun σ H Q=>ta σ H fun x H1=>onB x fun c=>if c=true then Q (.bl true) H1 else tb σ H1 Q
def K2(ta:TE):TE:=fun σ H Q=>ta σ H fun x H1=>onB x fun c=>Q (.bl (!c)) H1
def fJ(h:PE X a t):PE X (.BoolOp op [a] pos) t:=fun pins s σ H Q I hw=>BoolOp_one (h pins s σ H Q I hw)
def eC{rest:List Expr}(ha:PE X a ta)(hb:PE X (.BoolOp .And (b::rest) pos) tb):PE X (.BoolOp .And (a::b::rest) pos) (K5 ta tb):=by
 intro pins s σ H Q I h;refine BoolOp_and (dt (ha pins s σ H _ I h) fun v s1 ⟨x,H1,I1,r1,q1⟩=> ?_);obtain⟨c,rfl,q1⟩:=onB.ex q1;cases r1;refine df ?_;cases c with
 | true=>exact hb pins s1 σ H1 Q I1 q1
 | false=>exact⟨.bl false,H1,I1,rfl,q1⟩
def Lu{rest:List Expr}(ha:PE X a ta)(hb:PE X (.BoolOp .Or (b::rest) pos) tb):PE X (.BoolOp .Or (a::b::rest) pos) (MV ta tb):=by
 intro pins s σ H Q I h;refine BoolOp_or (dt (ha pins s σ H _ I h) fun v s1 ⟨x,H1,I1,r1,q1⟩=> ?_);obtain⟨c,rfl,q1⟩:=onB.ex q1;cases r1;refine df ?_;cases c with
 | false=>exact hb pins s1 σ H1 Q I1 q1
 | true=>exact⟨.bl true,H1,I1,rfl,q1⟩
def zJ(ha:PE X a ta):PE X (.UnaryOp .Not a pos) (K2 ta):=by
 intro pins s σ H Q I h;refine UnaryOp_ (dt (ha pins s σ H _ I h) fun v s1 ⟨x,H1,I1,r1,q1⟩=> ?_);obtain⟨c,rfl,q1⟩:=onB.ex q1;cases r1;exact not_of (df ⟨.bl (!c),H1,I1,rfl,q1⟩)
def OA(t:TT)(ta tb:TE):TE:=fun σ H Q=>t σ H fun c H1=>if c=true then ta σ H1 Q else tb σ H1 Q
def D6(hc:PT X c tA)(ha:PE X a ta)(hb:PE X b tb):PE X (.IfExp c a b pos) (OA tA ta tb):=by
 intro pins s σ H Q I h;refine wpAny_IfExp (dt (hc pins s σ H _ I h) fun d s1 ⟨H1,I1,q1⟩=> ?_);cases d with
 | true=>exact ha pins s1 σ H1 Q I1 q1
 | false=>exact hb pins s1 σ H1 Q I1 q1
end
def SqL(K:Frag)(H:Hp)(a:Addr)(xs:List V):Prop:=Rd H a (.lst xs)\/∃o its n,K.lookup a=some o/\o.cls= .type "list"/\o.dict=none/\o.data= .seq its n/\its.size<=sizeLine/\Vals xs its.toList
def SqT(K:Frag)(H:Hp)(a:Addr)(xs:List V):Prop:=Rd H a (.tup xs)\/∃o its n,K.lookup a=some o/\o.cls= .type "tuple"/\o.data= .seq its n/\its.size<=sizeLine/\Vals xs its.toList
noncomputable def NJ:Value->Option V
 | .none=>some .non
 | .bool b=>some (.bl b)
 | .int i _=>some (.int i)
 | .str x _=>some (.str x)
 | .bytes b _=>some (.byt b)
 | .float b _=>some (.flt b)
 | .ref a=>some (.ref a)
 | .type n=>some (.ty n)
 | _=>none
def RelV.abs(r:RelV x u):NJ u=some x:=by
 cases x with
 | non=>cases r;rfl
 | bl _=>cases r;rfl
 | int _=>obtain⟨t,rfl⟩:=r;rfl
 | str _=>obtain⟨t,rfl⟩:=r;rfl
 | byt _=>obtain⟨t,rfl⟩:=r;rfl
 | flt _=>obtain⟨t,rfl⟩:=r;rfl
 | ref _=>cases r;rfl
 | ty _=>cases r;rfl
def RelV.inj(r:RelV x u)(q:RelV y u):x=y:=d3 (r.abs.symm.trans q.abs)
theorem Vals.inj:∀{xs ys:List V} {us:List Value},Vals xs us->Vals ys us->xs=ys
 | _,_,_,.nil,.nil=>rfl
 | _,_,_,.cons r t,.cons r' t'=>by rw[r.inj r',Vals.inj t t']
section
def SqL.of{K:Frag}(h:H a=some (.lst xs)):SqL K H a xs:= .inl (.inl h)
def SqT.of{K:Frag}(h:H a=some (.tup xs)):SqT K H a xs:= .inl (.inl h)
def Inv.list{σ:St}(I:Inv X pins σ H s)(h:SqL X.K H a xs):∃its:List Value,Vals xs its/\PlainL s.heap a its.toArray/\xs.length<=sizeLine:=by
 rcases h with h | ⟨o,its,n,hk,hc,hd,hs,hz,r⟩
 · obtain⟨z,its,n,r,e⟩:=h.ok I.hok;exact⟨its,r,⟨_,n,e,rfl,rfl,rfl⟩,z⟩
 · refine⟨its.toList,r,⟨o,n,I.kIn a o hk,hc,hd,by simpa using hs⟩,?_⟩;have e:=r.length;simp only[j8] at e
   lia
def Inv.tuple{σ:St}(I:Inv X pins σ H s)(h:SqT X.K H a xs):∃its:List Value,Vals xs its/\IsTup s.heap a its.toArray/\xs.length<=sizeLine:=by
 rcases h with h | ⟨o,its,n,hk,hc,hs,hz,r⟩
 · obtain⟨z,its,r,p⟩:=h.ok I.hok;exact⟨its,r,p,z⟩
 · refine⟨its.toList,r,⟨o,I.kIn a o hk,hc,n,by simpa using hs⟩,?_⟩;have e:=r.length;simp only[j8] at e
   lia
def Inv.list_inj{σ:St}(I:Inv X pins σ H s)(h:SqL X.K H a xs)(h':SqL X.K H a ys):xs=ys:=by
 obtain⟨its,r,⟨o,n,e,_,_,d⟩,_⟩:=I.list h;obtain⟨its',r',⟨o',n',e',_,_,d'⟩,_⟩:=I.list h';rw[e] at e';cases e';rw[d] at d'
 injection d' with d1 _
 have:its=its':=by simpa using congrArg Array.toList d1
 subst this;exact r.inj r'
def Inv.tuple_inj{σ:St}(I:Inv X pins σ H s)(h:SqT X.K H a xs)(h':SqT X.K H a ys):xs=ys:=by
 obtain⟨its,r,⟨o,e,_,n,d⟩,_⟩:=I.tuple h;obtain⟨its',r',⟨o',e',_,n',d'⟩,_⟩:=I.tuple h';rw[e] at e';cases e';rw[d] at d'
 injection d' with d1 _
 have:its=its':=by simpa using congrArg Array.toList d1
 subst this;exact r.inj r'
end
noncomputable abbrev Cx.wish(X:Cx)(E:Value->Shared->Prop):Cx:={X with xe:=E}
noncomputable abbrev Cx.nox(X:Cx):Cx:=X.wish fun _ _=>False
def Cx.Ok.wish{X:Cx}(ok:X.Ok)(E:Value->Shared->Prop):(X.wish E).Ok:=⟨ok.mod,ok.kind,ok.glob,ok.blt,ok.above,ok.inj,ok.has,ok.cab,ok.hd,ok.frames,ok.stk,ok.exf,ok.bs,ok.bsz,ok.noex,ok.exfs,ok.funs,ok.frf⟩
def Cx.Ok.unwish{X:Cx}(ok:(X.wish E).Ok):X.Ok:=⟨ok.mod,ok.kind,ok.glob,ok.blt,ok.above,ok.inj,ok.has,ok.cab,ok.hd,ok.frames,ok.stk,ok.exf,ok.bs,ok.bsz,ok.noex,ok.exfs,ok.funs,ok.frf⟩
section
def Inv.wish{σ:St}(I:Inv X pins σ H s)(E:Value->Shared->Prop):Inv (X.wish E) pins σ H s:=⟨I.ok.wish E,I.os,I.bare,I.base,I.loc,I.cell,I.free,I.freeC,I.pin,I.hok,I.len⟩
def Inv.unwish{σ:St}(I:Inv (X.wish E) pins σ H s):Inv X pins σ H s:=⟨I.ok.unwish,I.os,I.bare,I.base,I.loc,I.cell,I.free,I.freeC,I.pin,I.hok,I.len⟩
def SP.unwish(h:SP (X.wish E) pins D f s'):SP X pins D f s':=by
 cases f with
 | next=>obtain⟨σ',H',I,q⟩:=h;exact⟨σ',H',I.unwish,q⟩
 | brk=>obtain⟨σ',H',I,q⟩:=h;exact⟨σ',H',I.unwish,q⟩
 | cont=>obtain⟨σ',H',I,q⟩:=h;exact⟨σ',H',I.unwish,q⟩
 | ret u=>obtain⟨v,σ',H',I,r,q⟩:=h;exact⟨v,σ',H',I.unwish,r,q⟩
def PSs.nox{st:List Stmt}(h:PSs X.nox st t):PSs X st t:=fun pins s σ H D I hw=>
 cP (h pins s σ H D (I.wish _) hw) (fun _ _ q=>q.unwish) fun _ _ z=>False.elim z
end
section
def K3:TS:=fun D σ H=>D.nx σ H
def yV(t u:TS):TS:=fun D σ H=>t {D with nx:=u D} σ H
def aX:PSs X [] K3:=fun _ _ σ H _ I h=>qk ⟨σ,H,I,h⟩
def fI{X:Cx}{st:Stmt}{rest:List Stmt}{t u:TS}(h1:PS X st t)(h2:PSs X rest u):PSs X (st::rest) (yV t u):=by
 intro pins s σ H D I h;refine B8 (dt (h1 pins s σ H {D with nx:=u D} I h) fun f s1 q=> ?_);cases f with
 | next=>
   obtain⟨σ',H',I',q⟩:=q;exact h2 pins s1 σ' H' D I' q
 | ret v=>exact q
 | brk=>exact q
 | cont=>exact q
def f_{X:Cx}{st:Stmt}{t:TS}(h1:PS X st t):PSs X [st] t:=by
 intro pins s σ H D I h;refine B8 (dt (h1 pins s σ H D I h) fun f s1 q=> ?_);cases f with
 | next=>exact qk q
 | ret v=>exact q
 | brk=>exact q
 | cont=>exact q
def Inv.quiet{σ:St}(I:Inv X pins σ H s):interactive X.env=false:=by simp[interactive,I.ok.kind]
def HR(te:TE):TS:=fun D σ H=>te σ H fun _ H1=>D.nx σ H1
def bg{X:Cx}{e:Expr}{te:TE}{pos:Pos}(he:PE X e te)(hs:swapsWith e none pos.line X.env=pure false:=by rfl):PS X (.Expr e pos) (HR te):=by
 intro pins s σ H D I h;exact wpAny_Expr_any (dt (he pins s σ H _ I h) fun v s1 ⟨x,H1,I1,r1,q1⟩=>⟨σ,H1,I1,q1⟩) I.quiet hs
def MT(te:TE):TS:=fun D σ H=>te σ H D.rt
def gY{X:Cx}{e:Expr}{te:TE}{pos:Pos}(he:PE X e te):PS X (.Return (some e) pos) (MT te):=by
 intro pins s σ H D I h;exact wpAny_Return_some (dt (he pins s σ H _ I h) fun v s1 ⟨x,H1,I1,r1,q1⟩=>⟨x,σ,H1,I1,r1,q1⟩)
def K0:TS:=fun D _ H=>D.rt .non H
def lg:PS X (.Return none pos) K0:=fun _ _ σ H _ I h=>wpAny_Return_none ⟨.non,σ,H,I,rfl,h⟩
def MZ(c:TT)(t u:TS):TS:=fun D σ H=>c σ H fun b H1=>if b=true then t D σ H1 else u D σ H1
def bu(hc:PT X c tc)(ha:PSs X a t)(hb:PSs X b u):PS X (.If c a b pos) (MZ tc t u):=by
 intro pins s σ H D I h;refine wpAny_If (dt (hc pins s σ H _ I h) fun d s1 ⟨H1,I1,q1⟩=> ?_);cases d with
 | true=>exact ha pins s1 σ H1 D I1 q1
 | false=>exact hb pins s1 σ H1 D I1 q1
end
abbrev TG:=V->St->Hp->(St->Hp->Prop)->Prop
abbrev Kr:=List V->St->Hp->(St->Hp->Prop)->Prop
def PG(X:Cx)(target:Expr)(t:TG):Prop:=∀(pins:List (Addr × Obj)) (s:Shared) (σ:St) (H:Hp) (v:V) (u:Value) (Q:St->Hp->Prop),Inv X pins σ H s->RelV v u->t v σ H Q->wpAny (model X.prog X.w) X.A (assign target X.env u) (fun _ s'=>∃σ' H',Inv X pins σ' H' s'/\Q σ' H') X.xe s
def MG(X:Cx)(ts:List Expr)(t:Kr):Prop:=∀(pins:List (Addr × Obj)) (s:Shared) (σ:St) (H:Hp) (vs:List V) (us:List Value) (Q:St->Hp->Prop),Inv X pins σ H s->Vals vs us->t vs σ H Q->wpAny (model X.prog X.w) X.A (assignInOrder ((assignEach ts X.env).map (·.2)) us) (fun _ s'=>∃σ' H',Inv X pins σ' H' s'/\Q σ' H') X.xe s
abbrev Kq:=V->V->V->Hp->(Hp->Prop)->Prop
def Me(X:Cx)(t:Kq):Prop:=∀(pins:List (Addr × Obj)) (s:Shared) (σ:St) (H:Hp) (o i v:V) (ov iv u:Value) (Q:Hp->Prop),Inv X pins σ H s->RelV o ov->RelV i iv->RelV v u->t o i v H Q->wpAny (model X.prog X.w) X.A (setItem ov iv u) (fun _ s'=>∃H',Inv X pins σ H' s'/\Q H') X.xe s
abbrev ME:=V->V->Hp->VK->Prop
def NM(X:Cx)(op:Operator)(t:ME):Prop:=∀(pins:List (Addr × Obj)) (s:Shared) (σ:St) (H:Hp) (x y:V) (v u:Value) (Q:VK),Inv X pins σ H s->RelV x v->RelV y u->t x y H Q->wpAny (model X.prog X.w) X.A (inplaceOp op v u) (EP X pins σ Q) X.xe s
section
def iA(i:Nat):TG:=fun v σ H Q=>Q (σ.set i (some v)) H
def qA{X:Cx}{pos:Pos}{i:Nat}{x:Str}(hN:X.N.Nodup)(hi:X.N[i]? =some x)(hx:Kw X.env.scope x)(hf:X.fn x=true\/X.env.scope.names.lookup x=some .local:=by first | exact .inl rfl | exact .inr rfl | assumption):PG X (.Name x pos) (iA i):=by
 intro pins s σ H v u Q I r h;exact O7 (kg I hN hi hx r (fun s' I'=>⟨_,H,I',h⟩) hf)
def Hk:Kr:=fun vs σ H Q=>match vs with | []=>Q σ H | _=>False
def pX(t:TG)(u:Kr):Kr:=fun vs σ H Q=>match vs with | v::r=>t v σ H (fun σ' H'=>u r σ' H' Q) | []=>False
def dX:MG X [] Hk:=by
 intro pins s σ H vs us Q I r h;cases r with
 | cons=>exact False.elim h
 | nil=>exact Pa ⟨σ,H,I,h⟩
def br{X:Cx}{e:Expr}{es:List Expr}{t:TG}{u:Kr}(h1:PG X e t)(h2:MG X es u)(hs:(assignEach (e::es) X.env).map (·.2)=assign e X.env::(assignEach es X.env).map (·.2):=by rfl):MG X (e::es) (pX t u):=by
 intro pins s σ H vs us Q I r h;cases r with
 | nil=>exact False.elim h
 | cons r rr=>
   rw[hs];refine yJ (dt (h1 pins s σ H _ _ _ I r h) fun _ s1 ⟨σ1,H1,I1,q1⟩=> ?_);exact h2 pins s1 σ1 H1 _ _ Q I1 rr q1
def LZ(K:Frag)(n:Nat)(t:Kr):TG:=fun v σ H Q=>onR v fun a=>∃xs,SqT K H a xs/\xs.length=n/\t xs σ H Q
def eY{X:Cx}{pos:Pos}{es:List Expr}{k:Nat}{t:Kr}{n:Nat}(hc:X.calm=true)(h:MG X es t)(hn:(assignEach es X.env).length=n:=by rfl)(hst:(assignEach es X.env).findIdx? (·.1)=none:=by rfl):PG X (.Tuple es k pos) (LZ X.K n t):=by
 intro pins s σ H v u Q I r hw;obtain⟨a,e1,xs,hq,hl,hw'⟩:=onR.ex hw;subst e1;cases r;obtain⟨its,rv,ht,hz⟩:=I.tuple hq;refine assign_Tuple_tuple (I.ok.hd hc) ht (by simp[hn,<-hl,rv.length]) hst fun h' hx=> ?_;have I1:Inv X pins σ H {s with heap:=h'}:=I.kept (t':=s.toks) fun b o e=>hx b o (bJ (aU e)) e;exact h pins _ σ H xs _ Q I1 (by simpa using rv) hw'
def NF(to ti:TE)(t:Kq):TG:=fun v σ H Q=>to σ H fun o H1=>ti σ H1 fun i H2=>t o i v H2 fun H3=>Q σ H3
def zI{X:Cx}{pos:Pos}{o i:Expr}{to ti:TE}{t:Kq}(ho:PE X o to)(hi:PE X i ti)(hs:Me X t)(ha:∀v,assign (.Subscript o i pos) X.env v=(do
 let ov<-holding [v] (eval o X.env)
 let iv<-holding [v,ov] (eval i X.env)
 standAt pos
 holding [v,ov,iv] (setItem ov iv v)
 release [v,ov,iv] []):=by intro _;rfl):PG X (.Subscript o i pos) (NF to ti t):=by
 intro pins s σ H v u Q I r h;rw[ha];refine ae (dP (dt (ho pins s σ H _ I h) fun ov s1 ⟨x,H1,I1,r1,q1⟩=> ?_));refine ae (dP (dt (hi pins s1 σ H1 _ I1 q1) fun iv s2 ⟨y,H2,I2,r2,q2⟩=> ?_));refine ae (fC (ae (dP (dt (hs pins s2 σ H2 x y v ov iv u _ I2 r1 r2 r q2) fun _ s3 ⟨H3,I3,q3⟩=> ?_))));exact wpAny_release ⟨σ,H3,I3,q3⟩
def F6(te:TE)(g:TG):TS:=fun D σ H=>te σ H fun x H1=>g x σ H1 D.nx
def kr{X:Cx}{pos:Pos}{tg e:Expr}{te:TE}{g:TG}(he:PE X e te)(hg:PG X tg g)(hs:swapsWithSole [tg] e pos.line X.env=pure false:=by rfl)(hw:swappedStores [tg] e X.env=pure none:=by rfl)(h1:(assignEach [tg] X.env).map (·.2)=[assign tg X.env]:=by rfl):PS X (.Assign [tg] e pos) (F6 te g):=by
 intro pins s σ H D I h;refine wpAny_Assign_stores (dt (he pins s σ H _ I h) fun v s1 ⟨x,H1,I1,r1,q1⟩=> ?_) hs hw;rw[h1];exact dt (hg pins s1 σ H1 x v _ I1 r1 q1) fun _ s2 q=>q
def DX{X:Cx}{pos:Pos}{i:Nat}{x:Str}{e:Expr}{te:TE}{pos':Pos}(hN:X.N.Nodup)(hi:X.N[i]? =some x)(hx:Kw X.env.scope x)(he:PE X e te)(hs:swapsWith e (some (.Name x pos')) pos.line X.env=pure false:=by rfl)(hf:X.fn x=true\/X.env.scope.names.lookup x=some .local:=by first | exact .inl rfl | exact .inr rfl | assumption):PS X (.Assign [.Name x pos'] e pos) (F6 te (iA i)):=by
 intro pins s σ H D I h;refine wpAny_Assign_Name (dt (he pins s σ H _ I h) fun v s1 ⟨y,H1,I1,r1,q1⟩=> ?_) hs;exact kg I1 hN hi hx r1 (fun s2 I2=>⟨_,H1,I2,q1⟩) hf
def MU(i j:Nat)(ta:TA):TS:=fun D σ H=>ta σ H fun vs H1=>∃v w,vs=[v,w]/\D.nx ((σ.set i (some v)).set j (some w)) H1
def Jh{X:Cx}{pos:Pos}{i j:Nat}{x y:Str}{a b:Expr}{ta:TA}{px py pt:Pos}{kt k2 pt2}(hc:X.calm=true)(hN:X.N.Nodup)(hi:X.N[i]? =some x)(hj:X.N[j]? =some y)(hij:i≠j)(hx:X.env.scope.names.lookup x=some .local)(hy:X.env.scope.names.lookup y=some .local)(ha:PA X [a,b] ta)(hw:swappedStores [.Tuple [.Name x px,.Name y py] kt pt] (.Tuple [a,b] k2 pt2) X.env=pure (some [x,y]))(hs:swapsWithSole [.Tuple [.Name x px,.Name y py] kt pt] (.Tuple [a,b] k2 pt2) pos.line X.env=pure false:=by rfl):PS X (.Assign [.Tuple [.Name x px,.Name y py] kt pt] (.Tuple [a,b] k2 pt2) pos) (MU i j ta):=by
 intro pins s σ H D I h;rw[exec_Assign_arm];refine ae (fC ?_);rw[hs];refine ae (aI ?_);rw[aE (by decide)];refine ae (Tuple_ (dt (ha _ pins s σ H _ I h) fun us s1 ⟨vs,H1,I1,r1,q1⟩=> ?_));obtain⟨v,w,e1,q1⟩:=q1;subst e1;obtain⟨u1,u2,rfl,rv,rw'⟩:∃u1 u2,us=[u1,u2]/\RelV v u1/\RelV w u2:=by
  cases r1 with
  | cons p q=>
    cases q with
    | cons p' q'=>
      cases q';exact⟨_,_,rfl,p,p'⟩
 refine dQ ?_ (by show 2<=sizeLine;decide);have I2:Inv X pins σ H1 {s1 with heap:=s1.heap.push {cls:= .type "tuple",data:= .seq [u1,u2].toArray}}:=I1.kept (t':=s1.toks) fun b o e=>aC _ e;rw[hw];refine ae (aI ?_);show wpAny (model X.prog X.w) X.A (do rule "assign.swapped-stores";let items<-unpackItems (.ref s1.heap.objs.size) 2 none;assignInOrder [fun v=>bindName X.env y v,fun v=>bindName X.env x v] items.reverse;pure Flow.next) _ _ _;refine ae (jw (ae (unpackItems_tuple (items:= #[u1,u2]) (I.ok.hd hc) (IsTup.new s1.heap _) fun h' hx'=> ?_)));have I3:=I2.kept (h':=h') (t':=s1.toks) fun b o e=>hx' b o (bJ (aU e)) e;show wpAny _ _ (assignInOrder [fun v=>bindName X.env y v,fun v=>bindName X.env x v] [u2,u1]>>=fun _=>pure Flow.next) _ _ _;refine ae (yJ (wpAny_bindName (kg I3 hN hj (.inl hy) rw' (fun s2 I4=> ?_) (.inr hy))));refine yJ (wpAny_bindName (kg I4 hN hi (.inl hx) rv (fun s3 I5=>Pa (aI ?_)) (.inr hx)));rw[List.set_comm _ _ (bI hij)] at I5;exact⟨_,H1,I5,q1⟩
def M3(i:Nat)(te:TE)(ti:ME):TS:=fun D σ H=>∃x,σ[i]? =some (some x)/\te σ H fun y H1=>ti x y H1 fun z H2=>D.nx (σ.set i (some z)) H2
def DY{X:Cx}{pos:Pos}{i:Nat}{x:Str}{e:Expr}{te:TE}{op:Operator}{ti:ME}{pos':Pos}(hN:X.N.Nodup)(hi:X.N[i]? =some x)(hx:Kw X.env.scope x)(he:PE X e te)(ho:NM X op ti)(hf:X.fn x=true\/X.env.scope.names.lookup x=some .local:=by first | exact .inl rfl | exact .inr rfl | assumption):PS X (.AugAssign (.Name x pos') op e pos) (M3 i te ti):=by
 intro pins s σ H D I h;obtain⟨v,e1,h⟩:=h;obtain⟨m,hn,hl⟩:=I.loc;have vis:MC X.env.scope x:=by rcases hx with k | k;exact .inl k;exact .inr (.inl k)
 obtain⟨u,r,l⟩:=hl i x v hi e1 vis;refine wpAny_AugAssign_Name ?_;have go:wpAny (model X.prog X.w) X.A (eval e X.env) (fun w s₂=>wpAny (model X.prog X.w) X.A (inplaceOp op u w) (fun r s₃=>wpAny (model X.prog X.w) X.A (storeName X.env x r) (fun _=>SP X pins D .next) X.xe s₃) X.xe s₂) X.xe s:=by
  refine dt (he pins s σ H _ I h) fun w s1 ⟨y,H1,I1,r1,q1⟩=> ?_;refine dt (ho pins s1 σ H1 v y u w _ I1 r r1 q1) fun z s2 ⟨zv,H2,I2,r2,q2⟩=> ?_;exact kg I2 hN hi hx r2 (fun s3 I3=>⟨_,H2,I3,q2⟩) hf
 rcases l with⟨hk,hm⟩ | ⟨hk,c,hc,hcell⟩
 · exact MP I.ok.kind hk hn hm go
 · rcases hk with hk | hk
   · exact NZ I.ok.kind hk hc hcell go
   · rcases hx with k | k
     · have:X.env.scope.names.lookup x=some .free:=hk;rw[k] at this;cases this
     · have:X.env.scope.names.lookup x=some .free:=hk;rw[k] at this;cases this
def Oc(f:Int->Int->Int):ME:=fun x y H Q=>∃i j,x= .int i/\y= .int j/\Q (.int (f i j)) H
def J2:NM X .Add (Oc fun i j=>i+j):=by
 intro pins s σ H x y v u Q I r1 r2 h;obtain⟨i,j,e1,e2,q⟩:=h;subst e1;subst e2;obtain⟨t,rfl⟩:=r1;obtain⟨t',rfl⟩:=r2;exact iadd_int ⟨.int _,H,I.tok _,⟨_,rfl⟩,q⟩
end
section
def uY(c:TT)(tb:TS):TS:=fun D σ H=>∃W:Nat->St->Hp->Prop,(∃m,W m σ H)/\∀m σ H,W m σ H->c σ H fun b H1=>if b=true then ∃N:St->Hp->Prop,(∀σ' H',N σ' H'->∃m',m'<m/\W m' σ' H')/\tb {D with nx:=N,ct:=N,bk:=D.nx} σ H1 else D.nx σ H1
def rP(hp:PassesOwn (model X.prog X.w) X.A X.env X.xe)(hc:PT X c tc)(hb:PSs X body tb):PS X (.While c body [] pos) (uY tc tb):=by
 intro pins s σ H D I h;obtain⟨W,⟨m0,w0⟩,turn⟩:=h;refine wpAny_While (codeAny_whileLoop (fun n s'=>∃σ' H',Inv X pins σ' H' s'/\W n σ' H') ?_ m0 ⟨σ,H,I,w0⟩);rintro n s1 ⟨σ1,H1,I1,w1⟩;refine gb hp (dt (hc pins s1 σ1 H1 _ I1 (turn n σ1 H1 w1)) fun b s2 ⟨H2,I2,q2⟩=> ?_);cases b with
 | true=>
   obtain⟨N,hN,q2⟩:=q2;rw[aH rfl];refine gb hp (dt (hb pins s2 σ1 H2 _ I2 q2) fun f s3 q3=> ?_);cases f with
   | next=>
     obtain⟨σ3,H3,I3,n3⟩:=q3;obtain⟨m',hm,w3⟩:=hN σ3 H3 n3;exact⟨m',hm,σ3,H3,I3,w3⟩
   | cont=>
     obtain⟨σ3,H3,I3,n3⟩:=q3;obtain⟨m',hm,w3⟩:=hN σ3 H3 n3;exact⟨m',hm,σ3,H3,I3,w3⟩
   | brk=>exact q3
   | ret v=>exact q3
 | false=>
   rw[aE bh];exact qk ⟨σ1,H2,I2,q2⟩
end
structure It where
 go:Nat->Hp->Prop
 yld:Nat->Hp->V->Hp->Prop
 stop:Nat->Hp->Prop
def lS(X:Cx)(pins:List (Addr × Obj))(H:Hp)(b:Addr):Prop:=H b=none/\b≠X.env.locals/\b∉X.fs/\(b∈X.ex\/X.s₀.heap.objs.size<=b)/\(∀x c,X.env.cells.lookup x=some c->c≠b)/\∀p∈X.pn++pins,p.1≠b
def Inv.fpOk{σ:St}{b:Addr}(I:Inv X pins σ H s)(hb:s.heap.objs.size<=b)(hn:H' b=none):lS X pins H' b:=by
 refine⟨hn,jb (ax I.lt hb),I.nofs hb,.inr (aq I.sz hb),fun x c e z=> ?_,fun p hp z=> ?_⟩
 · obtain⟨v,q⟩:=I.cell x c e;exact absurd (ax q.lt (by rw[z];exact hb)) (iq _)
 · exact absurd (ax (aU (I.pin p hp).1) (by rw[z];exact hb)) (iq _)
structure yM(P:Program)(w:World)(K:Frag)(tg:Expr)(J:It)(fp:List Addr)(it:Addr)(tn:Nat->Heap->Prop):Prop where
 mem:it∈fp
 obj:∀i h,tn i h->∀b∈fp,∃o,h.get? b=some o/\∀v,o.data≠ .cell v
 keep:∀i h h',tn i h->(∀b∈fp,∀o,h.get? b=some o->h'.get? b=some o)->tn i h'
 item:∀(X:Cx),X.prog=P->X.w=w->X.K=K->X.calm=true->∀(i:Nat) (pins:List (Addr × Obj)) (s:Shared) (σ:St) (H:Hp) (E:Value->Shared->Prop),Inv X pins σ H s->(∀b∈fp,lS X pins H b)->tn i s.heap->J.go i H->wpAny (model P w) X.A (pyNext (.ref it)) (fun r s1=>∃u,r=some u/\wpAny (model P w) X.A (letOwnedTupleGo tg (.ref it) u) (fun _ s2=>∃x H',Inv X pins σ H' s2/\RelV x u/\J.yld i H x H'/\tn (i+1) s2.heap/\∀b∈fp,H' b=none) E s1) E s
 done:∀(X:Cx),X.prog=P->X.w=w->X.K=K->X.calm=true->∀(i:Nat) (pins:List (Addr × Obj)) (s:Shared) (σ:St) (H:Hp) (E:Value->Shared->Prop),Inv X pins σ H s->(∀b∈fp,lS X pins H b)->tn i s.heap->J.stop i H->wpAny (model P w) X.A (pyNext (.ref it)) (fun r s1=>r=none/\Inv X pins σ H s1) E s
 self:∀(A:Around) (i:Nat) (s:Shared) (Q:Value->Shared->Prop) (E:Value->Shared->Prop),tn i s.heap->Q (.ref it) s->wpAny (model P w) A (pyIter (.ref it)) Q E s
abbrev TI:=St->Hp->(It->Hp->Prop)->Prop
def NN(X:Cx)(pins:List (Addr × Obj))(σ:St)(tg:Expr)(R:It->Hp->Prop)(itv:Value)(s2:Shared):Prop:=∃it fp tn J H',itv= .ref it/\Inv X pins σ H' s2/\yM X.prog X.w X.K tg J fp it tn/\tn 0 s2.heap/\(∀b∈fp,lS X pins H' b)/\R J H'
def PI(X:Cx)(tg iter:Expr)(wi:TI):Prop:=∀(pins:List (Addr × Obj)) (s:Shared) (σ:St) (H:Hp) (R:It->Hp->Prop),Inv X pins σ H s->wi σ H R->wpAny (model X.prog X.w) X.A (eval iter X.env) (fun v s1=>wpAny (model X.prog X.w) X.A (pyIter v) (NN X pins σ tg R) X.xe s1) X.xe s
def Fb(ho:s.heap.get? it=some o)(hc:o.cls= .type n)(hd:o.data= .fields vs)(hn:["enumerate","zip","dict_itemiterator","dict_reverseitemiterator","odict_iterator","itertools.zip_longest","itertools.pairwise"].contains n=false)(hQ:Q () s):wpAny M A (letOwnedTupleGo tg (.ref it) u) Q E s:=by
 unfold letOwnedTupleGo;cases tg<;>first
  | exact aI hQ
  | (cases u<;>first
   | exact aI hQ
   | (refine ae (wpAny_load ho ?_)
      rw[hc,hd];show wpAny M A (if(["enumerate","zip","dict_itemiterator","dict_reverseitemiterator","odict_iterator","itertools.zip_longest","itertools.pairwise"].contains n&&vs[0]? ==some (rawInt _))=true then _ else _) Q E s;rw[aE (by intro h;rw[hn,tR] at h;cases h)];exact aI hQ))
noncomputable def Ky(K:Frag)(a:Addr):It:=⟨fun i H=>∃xs x,SqL K H a xs/\xs[i]? =some x,fun i H x H'=>H'=H/\∀xs,SqL K H a xs->xs[i]? =some x,fun i H=>∃xs,SqL K H a xs/\xs.length<=i⟩
noncomputable def Kx(lo:Int)(n:Nat):It:=⟨fun i _=>i<n,fun i H x H'=>H'=H/\x= .int (lo+i),fun i _=>n<=i⟩
def B_{K:Frag}(a it:Addr):yM P w K tg (Ky K a) [it] it (fun i h=>h.IsListIter it a i) where
 mem:=by simp
 obj:=fun i h st b hb=>by
  have e:b=it:=by simpa using hb
  subst e;obtain⟨o,e,c,d⟩:=st;exact⟨o,e,fun v z=>by rw[d] at z;cases z⟩
 keep:=fun i h h' st k=>st.at fun o e=>k it (by simp) o e
 item:=by
  intro X hP hw hK hc i pins s σ H E I hf st hg;subst hP hw hK;obtain⟨xs,x,hq,hx⟩:=hg;obtain⟨its,rv,p,hz⟩:=I.list hq;obtain⟨u,hu,ru⟩:=rv.get hx;obtain⟨f0,f1,f2,f3,f4,f5⟩:=hf it (by simp);refine wpAny_pyNext_list_item st p.isList (x:=u) (by simpa using hu) fun h' st' sb=> ?_;have I1:Inv X pins σ H {s with heap:=h'}:=I.turned (t':=s.toks) (fun b o hb e=>(sb.2 b hb).trans e) f0 f1 f3 f4 f5;obtain⟨o,e,c,d⟩:=id st';exact⟨u,rfl,Fb (s:={s with heap:=h'}) e c d (by decide) ⟨x,H,I1,ru,⟨rfl,fun ys hy=>by rw[I.list_inj hy hq];exact hx⟩,st',fun b hb=>(hf b hb).1⟩⟩
 done:=by
  intro X hP hw hK hc i pins s σ H E I hf st hg;subst hP hw hK;obtain⟨xs,hq,hx⟩:=hg;obtain⟨its,rv,p,hz⟩:=I.list hq;obtain⟨f0,f1,f2,f3,f4,f5⟩:=hf it (by simp);have hl:=rv.length;exact wpAny_pyNext_list_end (I.ok.hd hc) st p.isList (by simp;lia) fun h' eb=>⟨rfl,I.turned (t':=s.toks) (fun b o hb e=>eb b o hb e) f0 f1 f3 f4 f5⟩
 self:=fun _ _ _ _ _ st h=>wpAny_pyIter_listiter st h
def yT{K:Frag}(it:Addr)(lo:Int)(n:Nat):yM P w K tg (Kx lo n) [it] it (fun i h=>IsRangeIter h it (lo+(i:Nat) * 1) ((n:Int) - (i:Nat)) 1) where
 mem:=by simp
 obj:=fun i h st b hb=>by
  have e:b=it:=by simpa using hb
  subst e;exact⟨_,st,fun v z=>by
   have z':Data.fields _=Data.cell v:=z;cases z'⟩
 keep:=fun i h h' st k=>k it (by simp) _ st
 item:=by
  intro X hP hw hK hc i pins s σ H E I hf st hg;subst hP hw hK;obtain⟨f0,f1,f2,f3,f4,f5⟩:=hf it (by simp);have W:=Walks.range (prog:=X.prog) (w:=X.w) (I.ok.hd hc) it lo 1 n;refine W.item i s _ _ hg st fun v h' tk hv st' kk=> ?_;obtain⟨t,rfl⟩:=hv;have I1:Inv X pins σ H {s with heap:=h',toks:=tk}:=I.turned (fun b o hb e=>kk b o (by simpa using hb) e) f0 f1 f3 f4 f5;refine⟨_,rfl,Fb (s:={s with heap:=h',toks:=tk}) (n:="range_iterator") st' rfl rfl (by decide) ⟨.int (lo+i),H,I1,⟨t,?_⟩,⟨rfl,rfl⟩,st',fun b hb=>(hf b hb).1⟩⟩;rw[Int.mul_one]
 done:=by
  intro X hP hw hK hc i pins s σ H E I hf st hg;subst hP hw hK;obtain⟨f0,f1,f2,f3,f4,f5⟩:=hf it (by simp);exact wpAny_pyNext_range_end (I.ok.hd hc) st (by have:n<=i:=hg;lia) fun h' eb=>⟨rfl,I.turned (t':=s.toks) (fun b o hb e=>eb b o hb e) f0 f1 f3 f4 f5⟩
 self:=fun _ _ _ _ _ st h=>wpAny_pyIter_rangeiter st h
section
def md(K:Frag)(tl:TE):TI:=fun σ H R=>tl σ H fun x H1=>onR x fun a=>(∃xs,SqL K H1 a xs)/\R (Ky K a) H1
def cj(hl:PE X l tl):PI X tg l (md X.K tl):=by
 intro pins s σ H R I h;refine dt (hl pins s σ H _ I h) fun v s1 ⟨x,H1,I1,r1,q1⟩=> ?_;obtain⟨a,e,⟨xs,hq⟩,q⟩:=onR.ex q1;subst e;cases r1;obtain⟨its,rv,p,hz⟩:=I1.list hq;refine O6 p.isList ?_;refine⟨s1.heap.objs.size,[s1.heap.objs.size],_,_,H1,rfl,I1.kept (t':=s1.toks) fun b o e=>aC _ e,B_ a _,⟨_,bf _ rfl,rfl,rfl⟩,fun b hb=> ?_,q⟩;have e:b=s1.heap.objs.size:=by simpa using hb
 subst e;exact I1.fpOk (au _) (I1.hok.fresh (au _))
def xA{σ:St}{lo:Int}(I:Inv X pins σ H s)(h1: -(2^62)<=lo)(h2:lo<2^62)(h3: -(2^62)<=hi)(h4:hi<2^62)(q:R (Kx lo (hi - lo).toNat) H):wpAny (model X.prog X.w) X.A (pyIter (.ref s.heap.objs.size)) (NN X pins σ tg R) E {s with heap:=s.heap.push {cls:= .type "range",data:= .fields #[.int lo t,.int hi u,.int 1 v]},toks:=tk}:=by
 refine wpAny_pyIter_range (IsRange.new ..) (small_one h1 h2 h3 h4) ?_;have I1:Inv X pins σ H {s with heap:=s.heap.push {cls:= .type "range",data:= .fields #[.int lo t,.int hi u,.int 1 v]},toks:=tk}:=I.kept fun b o e=>aC _ e;refine⟨(s.heap.push {cls:= .type "range",data:= .fields #[.int lo t,.int hi u,.int 1 v]}).objs.size,[(s.heap.push {cls:= .type "range",data:= .fields #[.int lo t,.int hi u,.int 1 v]}).objs.size],_,_,H,rfl,
  I1.kept (t':=tk) fun b o e=>aC _ e,yT _ lo (hi - lo).toNat,?_,fun b hb=> ?_,q⟩
 · have e1:lo+((0:Nat):Int) * 1=lo:=by simp
   have e2:(((hi - lo).toNat:Nat):Int) - ((0:Nat):Int)=Builtin.Range.rangeSize lo hi 1:=by rw[rangeSize_one];split<;>lia
   show IsRangeIter _ _ (lo+((0:Nat):Int) * 1) ((((hi - lo).toNat:Nat):Int) - ((0:Nat):Int)) 1;rw[e1,e2];exact bf _ rfl
 · have e:b=(s.heap.push {cls:= .type "range",data:= .fields #[.int lo t,.int hi u,.int 1 v]}).objs.size:=by simpa using hb
   subst e;exact I1.fpOk (au _) (I1.hok.fresh (au _))
def LY(ta:TA):TI:=fun σ H R=>ta σ H fun vs H1=>∃j:Int,vs=[.int j]/\ -(2^62)<=j/\j<2^62/\R (Kx 0 j.toNat) H1
def LX(ta:TA):TI:=fun σ H R=>ta σ H fun vs H1=>∃i j:Int,vs=[.int i,.int j]/\(-(2^62)<=i/\i<2^62/\ -(2^62)<=j/\j<2^62)/\R (Kx i (j - i).toNat) H1
def fN{X:Cx}{tg a:Expr}{ta:TA}{p pos:Pos}(hg:Gl X "range")(hm:X.mg "range"=none)(ha:PA X [a] ta)(hs:starEach [a] X.env=[(false,eval a X.env)]:=by rfl):PI X tg (.Call (.Name "range" p) [a] [] pos) (LY ta):=by
 intro pins s σ H R I h;refine Call_ (oX I hg hm boot_range (gE (dt (ha pos pins s σ H _ I h) fun us s1 ⟨vs,H1,I1,r1,q1⟩=> ?_) hs rfl));obtain⟨j,e,q1,q2,q⟩:=q1;subst e;cases r1 with
 | cons r rr=>
   cases rr;obtain⟨t,rfl⟩:=r;exact call_range_1 (xA I1 (by lia) (by lia) q1 q2 (by simpa using q))
def Cn{X:Cx}{tg a b:Expr}{ta:TA}{p pos:Pos}(hg:Gl X "range")(hm:X.mg "range"=none)(ha:PA X [a,b] ta)(hs:starEach [a,b] X.env=[(false,eval a X.env),(false,eval b X.env)]:=by rfl)(hs2:starEach [b] X.env=[(false,eval b X.env)]:=by rfl):PI X tg (.Call (.Name "range" p) [a,b] [] pos) (LX ta):=by
 intro pins s σ H R I h;refine Call_ (oX I hg hm boot_range (gE (dt (ha pos pins s σ H _ I h) fun us s1 ⟨vs,H1,I1,r1,q1⟩=> ?_) (by rw[hs,hs2]) (by rw[hs2];rfl)));obtain⟨i,j,e,⟨q1,q2,q3,q4⟩,q⟩:=q1;subst e;cases r1 with
 | cons r rr=>
   cases rr with
   | cons r' rr=>
     cases rr;obtain⟨t,rfl⟩:=r;obtain⟨t',rfl⟩:=r';exact call_range_2 (xA I1 q1 q2 q3 q4 q)
def IR(wi:TI)(g:TG)(tb:TS):TS:=fun D σ H=>wi σ H fun J H1=>∃W:Nat->Nat->St->Hp->Prop,(∃m,W 0 m σ H1)/\∀i m σ H,W i m σ H->(J.stop i H/\D.nx σ H)\/(J.go i H/\∃N:St->Hp->Prop,(∀σ' H',N σ' H'->∃m',m'<m/\W (i+1) m' σ' H')/\∀x H',J.yld i H x H'->g x σ H' fun σ2 H2=>tb {D with nx:=N,ct:=N,bk:=D.nx} σ2 H2)
noncomputable def mF(fp:List Addr)(h:Heap):List (Addr × Obj):=fp.filterMap fun b=>(h.get? b).map fun o=>(b,o)
def g_(hb:b∈fp)(e:h.get? b=some o):(b,o)∈mF fp h:=d_.mpr ⟨b,hb,by rw[e];rfl⟩
def CF(hp:p∈mF fp h):p.1∈fp/\h.get? p.1=some p.2:=by
 obtain⟨b,hb,e⟩:=d_.mp hp;cases q:h.get? b with
 | none=>rw[q] at e;cases e
 | some o=>
   rw[q] at e;have e':(b,o)=p:=d3 e;subst e';exact⟨hb,q⟩
def Inv.pinned{σ:St}(I:Inv X pins σ H s)(hf:∀b∈fp,lS X pins H b)(ho:∀b∈fp,∃o,s.heap.get? b=some o/\∀v,o.data≠ .cell v):Inv X (pins++mF fp s.heap) σ H s:=I.pins_of fun p hp=>(av.mp hp).elim (fun z=>I.pin p (aN _ z)) fun z=>by
  obtain⟨hb,e⟩:=CF z;obtain⟨f0,f1,f2,_⟩:=hf p.1 hb;obtain⟨o,e',d⟩:=ho p.1 hb;rw[e] at e';cases e';exact⟨e,f0,f1,f2,d⟩
def Inv.unpinned{σ:St}(I:Inv X (pins++pl) σ H s):Inv X pins σ H s:=I.pins_of fun p hp=>I.pin p (aN _ (aP _ hp))
def Ji{X:Cx}{tg iter:Expr}{body:List Stmt}{wi:TI}{g:TG}{tb:TS}{pos:Pos}(hp:PassesOwn (model X.prog X.w) X.A X.env X.xe)(hc:X.calm=true)(hi:PI X tg iter wi)(hg:PG X tg g)(hb:PSs X body tb)(hs:∀x,foldedSetIterable iter X.env x=pure x:=by intro _;rfl):PS X (.For tg iter body [] pos) (IR wi g tb):=by
 intro pins s σ H D I h;refine wpAny_For (dt (hi pins s σ H _ I h) fun v s1 h1=>dt h1 fun itv s2 h2=> ?_) hs;obtain⟨it,fp,tn,J,H2,e,I2,T,st2,f2,W,⟨m0,w0⟩,turn⟩:=h2;subst e;have stat:∀{H':Hp},(∀b∈fp,H' b=none)->∀b∈fp,lS X pins H' b:=fun hn b hb=>⟨hn b hb,(f2 b hb).2⟩;refine codeAny_forLoop_any (fun n s'=>∃i σ' H',Inv X pins σ' H' s'/\tn i s'.heap/\(∀b∈fp,H' b=none)/\W i n σ' H') ?_ m0 ⟨0,σ,H2,I2,st2,fun b hb=>(f2 b hb).1,w0⟩;rintro n s3 ⟨i,σ3,H3,I3,st3,fr3,w3⟩;rcases turn i n σ3 H3 w3 with⟨stop,qn⟩ | ⟨go,N,hN,step⟩
 · refine gb hp (dt (T.done X rfl rfl rfl hc i pins s3 σ3 H3 X.xe I3 (stat fr3) st3 stop) fun r s4 ⟨hr,I4⟩=> ?_);subst hr;exact qk ⟨σ3,H3,I4,qn⟩
 · refine gb hp (dt (T.item X rfl rfl rfl hc i pins s3 σ3 H3 X.xe I3 (stat fr3) st3 go) fun r s4 ⟨u,hr,h4⟩=> ?_);subst hr;refine gb hp (dt h4 fun _ s5 ⟨x,H5,I5,r5,y5,st5,fr5⟩=> ?_);have I5':=I5.pinned (stat fr5) (T.obj _ _ st5);refine gb hp (dt (hg _ s5 σ3 H5 x u _ I5' r5 (step x H5 y5)) fun _ s6 ⟨σ6,H6,I6,q6⟩=> ?_);refine gb hp (dt (hb _ s6 σ6 H6 _ I6 q6) fun f s7 q7=> ?_);have again:∀{σ7:St} {H7:Hp},Inv X (pins++mF fp s5.heap) σ7 H7 s7->N σ7 H7->∃m,m<n/\∃i σ' H',Inv X pins σ' H' s7/\tn i s7.heap/\(∀b∈fp,H' b=none)/\W i m σ' H':=fun {σ7 H7} I7 n7=>by
    obtain⟨m',hm,w7⟩:=hN σ7 H7 n7;refine⟨m',hm,i+1,σ7,H7,I7.unpinned,T.keep _ _ _ st5 fun b hb o e=>(I7.pin (b,o) (aN _ (aN _ (g_ hb e)))).1,fun b hb=> ?_,w7⟩;obtain⟨o,e,d⟩:=T.obj _ _ st5 b hb;exact(I7.pin (b,o) (aN _ (aN _ (g_ hb e)))).2.1
   cases f with
   | next=>obtain⟨σ7,H7,I7,n7⟩:=q7;exact again I7 n7
   | cont=>obtain⟨σ7,H7,I7,n7⟩:=q7;exact again I7 n7
   | brk=>obtain⟨σ7,H7,I7,q7⟩:=q7;exact⟨σ7,H7,I7.unpinned,q7⟩
   | ret v=>obtain⟨x7,σ7,H7,I7,r7,q7⟩:=q7;exact⟨x7,σ7,H7,I7.unpinned,r7,q7⟩
end
def cf{K:Frag}{g:TG}{tb:TS}{D:s_}(Pv:Nat->St->Hp->Prop)(h0:Pv 0 σ H)(hl:∀i σ H,i<=xs.length->Pv i σ H->SqL K H a xs)(hs:∀i x σ H,xs[i]? =some x->Pv i σ H->g x σ H fun σ2 H2=>tb {D with nx:=Pv (i+1),ct:=Pv (i+1),bk:=D.nx} σ2 H2)(hd:∀σ H,Pv xs.length σ H->D.nx σ H):∃W:Nat->Nat->St->Hp->Prop,(∃m,W 0 m σ H)/\∀i m σ H,W i m σ H->((Ky K a).stop i H/\D.nx σ H)\/((Ky K a).go i H/\∃N:St->Hp->Prop,(∀σ' H',N σ' H'->∃m',m'<m/\W (i+1) m' σ' H')/\∀x H',(Ky K a).yld i H x H'->g x σ H' fun σ2 H2=>tb {D with nx:=N,ct:=N,bk:=D.nx} σ2 H2):=by
 refine⟨fun i m σ H=>m=xs.length - i/\i<=xs.length/\Pv i σ H,⟨xs.length,by simp,ay _,h0⟩,?_⟩;rintro i m σ H ⟨rfl,hi,p⟩;have q:=hl i σ H hi p;by_cases hlt:i<xs.length
 · refine .inr ⟨⟨xs,xs[i],q,by simp[hlt]⟩,Pv (i+1),fun σ' H' p'=>⟨xs.length - (i+1),by lia,rfl,hlt,p'⟩,fun x H' y=> ?_⟩;obtain⟨e,y⟩:=y;subst e;exact hs i x σ _ (y xs q) p
 · have e:i=xs.length:=by lia
   subst e;exact .inl ⟨⟨xs,q,au _⟩,hd σ H p⟩
def ph{lo:Int}{g:TG}{tb:TS}{D:s_}(Pv:Nat->St->Hp->Prop)(h0:Pv 0 σ H)(hs:∀i σ H,i<n->Pv i σ H->g (.int (lo+i)) σ H fun σ2 H2=>tb {D with nx:=Pv (i+1),ct:=Pv (i+1),bk:=D.nx} σ2 H2)(hd:∀σ H,Pv n σ H->D.nx σ H):∃W:Nat->Nat->St->Hp->Prop,(∃m,W 0 m σ H)/\∀i m σ H,W i m σ H->((Kx lo n).stop i H/\D.nx σ H)\/((Kx lo n).go i H/\∃N:St->Hp->Prop,(∀σ' H',N σ' H'->∃m',m'<m/\W (i+1) m' σ' H')/\∀x H',(Kx lo n).yld i H x H'->g x σ H' fun σ2 H2=>tb {D with nx:=N,ct:=N,bk:=D.nx} σ2 H2):=by
 refine⟨fun i m σ H=>m=n - i/\i<=n/\Pv i σ H,⟨n,by simp,ay _,h0⟩,?_⟩;rintro i m σ H ⟨rfl,hi,p⟩;by_cases hlt:i<n
 · refine .inr ⟨hlt,Pv (i+1),fun σ' H' p'=>⟨n - (i+1),by lia,rfl,hlt,p'⟩,fun x H' y=> ?_⟩;obtain⟨e,y⟩:=y;subst e y;exact hs i σ _ hlt p
 · have e:i=n:=by lia
   subst e;exact .inl ⟨au _,hd σ H p⟩
def wL(Pv:St->Hp->Prop)(μ:St->Hp->Nat)(h0:Pv σ H)(hs:∀σ H,Pv σ H->c σ H fun b H1=>if b=true then tb {D with nx:=fun σ' H'=>Pv σ' H'/\μ σ' H'<μ σ H,ct:=fun σ' H'=>Pv σ' H'/\μ σ' H'<μ σ H,bk:=D.nx} σ H1 else D.nx σ H1)(mono:∀σ H Q Q',(∀b H1,Q b H1->Q' b H1)->c σ H Q->c σ H Q'):uY c tb D σ H:=by
 refine⟨fun m σ H=>m=μ σ H/\Pv σ H,⟨_,rfl,h0⟩,?_⟩;rintro m σ H ⟨rfl,p⟩;refine mono σ H _ _ (fun b H1 q=> ?_) (hs σ H p);cases b with
 | true=>exact⟨_,fun σ' H' ⟨p',l⟩=>⟨_,l,rfl,p'⟩,q⟩
 | false=>exact q
abbrev R2:=V->V->Hp->VK->Prop
def j4(X:Cx)(f:Value->Value->Sem Value)(r:R2):Prop:=∀(pins:List (Addr × Obj)) (s:Shared) (σ:St) (H:Hp) (x y:V) (v u:Value) (Q:VK),Inv X pins σ H s->RelV x v->RelV y u->r x y H Q->wpAny (model X.prog X.w) X.A (f v u) (EP X pins σ Q) X.xe s
def MD(X:Cx)(f:Value->Sem Value)(r:V->Hp->VK->Prop):Prop:=∀(pins:List (Addr × Obj)) (s:Shared) (σ:St) (H:Hp) (x:V) (v:Value) (Q:VK),Inv X pins σ H s->RelV x v->r x H Q->wpAny (model X.prog X.w) X.A (f v) (EP X pins σ Q) X.xe s
def me(X:Cx)(f:Value)(r:List V->Hp->VK->Prop):Prop:=∀(pins:List (Addr × Obj)) (s:Shared) (σ:St) (H:Hp) (xs:List V) (us:List Value) (Q:VK),Inv X pins σ H s->Vals xs us->r xs H Q->wpAny (model X.prog X.w) X.A (call f us) (EP X pins σ Q) X.xe s
def NK(X:Cx)(r:V->Hp->(Bool->Hp->Prop)->Prop):Prop:=∀(pins:List (Addr × Obj)) (s:Shared) (σ:St) (H:Hp) (x:V) (v:Value) (Q:Bool->Hp->Prop),Inv X pins σ H s->RelV x v->r x H Q->wpAny (model X.prog X.w) X.A (truthy v) (TP X pins σ Q) X.xe s
def Dt(r:R2)(ta tb:TE):TE:=fun σ H Q=>ta σ H fun x H1=>tb σ H1 fun y H2=>r x y H2 Q
def MS(r:V->Hp->VK->Prop)(ta:TE):TE:=fun σ H Q=>ta σ H fun x H1=>r x H1 Q
def rI(C:Int->Int->Prop)(g:Int->Int->V):R2:=fun x y H Q=>onI x fun i=>onI y fun j=>C i j/\Q (g i j) H
def zG(g:Int->Int->V):R2:=fun x y H Q=>onI x fun i=>onI y fun j=>Q (g i j) H
def rU(g:Int->V):V->Hp->VK->Prop:=fun x H Q=>onI x fun i=>Q (g i) H
section
def Kk{X:Cx}{a b:Expr}{ta tb:TE}(ha:PE X a ta)(hb:PE X b tb){pins:List (Addr × Obj)}{s:Shared}{σ:St}{H:Hp}{R:V->V->Hp->Prop}(I:Inv X pins σ H s)(h:ta σ H fun x H1=>tb σ H1 fun y H2=>R x y H2){Q:Value->Shared->Prop}{f:Value->Value->Sem Value}(hf:∀v u s2 x y H2,Inv X pins σ H2 s2->RelV x v->RelV y u->R x y H2->wpAny (model X.prog X.w) X.A (f v u) Q X.xe s2):wpAny (model X.prog X.w) X.A (eval a X.env) (fun v s₁=>wpAny (model X.prog X.w) X.A (eval b X.env) (fun u s₂=>wpAny (model X.prog X.w) X.A (f v u) Q X.xe s₂) X.xe s₁) X.xe s:=by
 refine dt (ha pins s σ H _ I h) fun v s1 ⟨x,H1,I1,r1,q1⟩=> ?_;refine dt (hb pins s1 σ H1 _ I1 q1) fun u s2 ⟨y,H2,I2,r2,q2⟩=> ?_;exact hf v u s2 x y H2 I2 r1 r2 q2
def bx(ho:j4 X (binaryOp op) r)(ha:PE X a ta)(hb:PE X b tb):PE X (.BinOp a op b pos) (Dt r ta tb):=by
 intro pins s σ H Q I h;exact wpAny_BinOp (Kk ha hb I h fun v u s2 x y H2 I2 rx ry q=>ho pins s2 σ H2 x y v u Q I2 rx ry q)
def uA(ho:MD X (unaryOp op) r)(ha:PE X a ta):PE X (.UnaryOp op a pos) (MS r ta):=by
 intro pins s σ H Q I h;exact UnaryOp_ (dt (ha pins s σ H _ I h) fun v s1 ⟨x,H1,I1,r1,q1⟩=>ho pins s1 σ H1 x v Q I1 r1 q1)
def Lx{g:Int->Int->Int}(rule:∀i j t u s Q E,C i j->Q (.int (g i j) s.toks) {s with toks:=s.toks+1}->wpAny (model X.prog X.w) X.A (f (.int i t) (.int j u)) Q E s):j4 X f (rI C fun i j=> .int (g i j)):=by
 intro pins s σ H x y v u Q I rx ry h;obtain⟨i,rfl,h'⟩:=onI.ex h;obtain⟨j,rfl,hc,q⟩:=onI.ex h';obtain⟨t,rfl⟩:=rx;obtain⟨t',rfl⟩:=ry;exact rule i j t t' s _ _ hc ⟨.int (g i j),H,I.tok _,⟨_,rfl⟩,q⟩
def GK{g:Int->Int->Int}(rule:∀i j t u s Q E,Q (.int (g i j) s.toks) {s with toks:=s.toks+1}->wpAny (model X.prog X.w) X.A (f (.int i t) (.int j u)) Q E s):j4 X f (zG fun i j=> .int (g i j)):=by
 intro pins s σ H x y v u Q I rx ry h;obtain⟨i,rfl,h'⟩:=onI.ex h;obtain⟨j,rfl,q⟩:=onI.ex h';obtain⟨t,rfl⟩:=rx;obtain⟨t',rfl⟩:=ry;exact rule i j t t' s _ _ ⟨.int (g i j),H,I.tok _,⟨_,rfl⟩,q⟩
def GL{g:Int->Int->Bool}(rule:∀i j t u s Q E,Q (.bool (g i j)) s->wpAny (model X.prog X.w) X.A (f (.int i t) (.int j u)) Q E s):j4 X f (zG fun i j=> .bl (g i j)):=by
 intro pins s σ H x y v u Q I rx ry h;obtain⟨i,rfl,h'⟩:=onI.ex h;obtain⟨j,rfl,q⟩:=onI.ex h';obtain⟨t,rfl⟩:=rx;obtain⟨t',rfl⟩:=ry;exact rule i j t t' s _ _ ⟨.bl (g i j),H,I,rfl,q⟩
def NY(i j:Int):Prop:=0<j/\j<1073741824
def KB(i j:Int):Prop:=0<=j/\j<=1000000/\i.natAbs<2^64
def CMul(i j:Int):Prop:=(-(2^64)<i/\i<2^64)\/(-(2^64)<j/\j<2^64)
def CMul.ok(h:CMul i j):IntMulOk i j:=by
 rcases h with⟨h1,h2⟩ | ⟨h1,h2⟩
 · exact .of_left (intBits_le_64 h1 h2)
 · exact .of_right (intBits_le_64 h1 h2)
def gZ:j4 X (binaryOp .Add) (zG fun i j=> .int (i+j)):=GK fun _ _ _ _ _ _ _ q=>add_int q
def oP:j4 X (binaryOp .Sub) (zG fun i j=> .int (i - j)):=GK fun _ _ _ _ _ _ _ q=>sub_int q
def zL:j4 X (binaryOp .Mult) (rI CMul fun i j=> .int (i * j)):=Lx fun _ _ _ _ _ _ _ hc q=>mul_int q hc.ok
def eV:j4 X (binaryOp .FloorDiv) (rI NY fun i j=> .int (i/j)):=Lx fun i j _ _ _ _ _ hc q=>by
 have h1:(0:Int)<j:=hc.1;have h2:j<1073741824:=hc.2;exact floordiv_int (by lia) (by rw[Int.fdiv_eq_ediv_of_nonneg i (by lia)];exact q) (.inl (PyProof.noPylong_small (by lia)))
def eZ:j4 X (binaryOp .Mod) (rI (fun _ j=>0<j) fun i j=> .int (i % j)):=Lx fun i j _ _ _ _ _ hc q=>by
 have h1:(0:Int)<j:=hc;exact mod_int' (by lia) (by rw[Int.fmod_eq_emod_of_nonneg i (by lia)];exact q)
def Ea:j4 X (binaryOp .Pow) (rI KB fun i j=> .int (i^j.toNat)):=Lx fun _ _ _ _ _ _ _ hc q=>pow_int_small hc.1 hc.2.1 hc.2.2 q
def oQ:j4 X (binaryOp .LShift) (rI KB fun i j=> .int (i * 2^j.toNat)):=Lx fun _ _ _ _ _ _ _ hc q=>lshift_int_small hc.1 hc.2.1 hc.2.2 q
def mI:j4 X (binaryOp .BitAnd) (zG fun i j=> .int (Builtin.bitAnd i j)):=GK fun _ _ _ _ _ _ _ q=>and_int q
def uC:j4 X (binaryOp .BitOr) (zG fun i j=> .int (Builtin.bitOr i j)):=GK fun _ _ _ _ _ _ _ q=>or_int q
def N0{g:Int->Int}(rule:∀i t s Q E,Q (.int (g i) s.toks) {s with toks:=s.toks+1}->wpAny (model X.prog X.w) X.A (f (.int i t)) Q E s):MD X f (rU fun i=> .int (g i)):=by
 intro pins s σ H x v Q I rx h;obtain⟨i,rfl,q⟩:=onI.ex h;obtain⟨t,rfl⟩:=rx;exact rule i t s _ _ ⟨.int (g i),H,I.tok _,⟨_,rfl⟩,q⟩
def IL:MD X (unaryOp .USub) (rU fun i=> .int (-i)):=N0 fun _ _ _ _ _ q=>neg_int q
def qN:MD X (unaryOp .Invert) (rU fun i=> .int (Builtin.bitNot i)):=N0 fun _ _ _ _ _ q=>invert_int q
end
noncomputable def Ci:V->V->Bool
 | .non,.non=>true | .non,.int _=>true | .int _,.non=>true | .non,.bl _=>true | .bl _,.non=>true | .non,.str _=>true | .str _,.non=>true
 | .int _,.int _=>true | .bl _,.bl _=>true | .str _,.str _=>true | .byt _,.byt _=>true
 | .int _,.str _=>true | .str _,.int _=>true | .bl _,.str _=>true | .str _,.bl _=>true
 | _,_=>false
def N5:R2:=fun x y H Q=>onT (Ci x y) (Q (.bl (decide (x=y))) H)
def N4:R2:=fun x y H Q=>onT (Ci x y) (Q (.bl (!decide (x=y))) H)
def BZ:decide (V.int i=V.int j)=(i==j):=by
 rw[j6];simp
def Fm:decide (V.bl i=V.bl j)=(i==j):=by
 rw[j6];simp
def BY:decide (V.str i=V.str j)=(i==j):=by
 rw[j6];simp
def B0:decide (V.byt i=V.byt j)=(i.toList==j.toList):=by
 rw[j6];cases i;cases j;simp
section
def cN{σ:St}(I:Inv X pins σ H s)(q:Q (.bl k) H)(e:k=k'):EP X pins σ Q (.bool k') s:=by
 subst e;exact⟨.bl k,H,I,rfl,q⟩
def bN:j4 X (compareOp .Eq) N5:=by
 intro pins s σ H x y v u Q I rx ry h;obtain⟨hs,q⟩:=onT.ex h;cases x with
 | non=>
   cases rx;cases y with
   | non=>cases ry;exact PySem.EqNone.eq_none_none (cN I q (by simp))
   | bl j=>cases ry;exact PySem.EqNone.eq_none_bool (cN I q (by simp))
   | int j=>obtain⟨t',rfl⟩:=ry;exact PySem.EqNone.eq_none_int (cN I q (by simp))
   | str j=>obtain⟨t',rfl⟩:=ry;exact PySem.EqNone.eq_none_str (cN I q (by simp))
   | _=>exact absurd (show false=true from hs) bh
 | bl i=>
   cases rx;cases y with
   | non=>cases ry;exact PySem.EqNone.eq_bool_none (cN I q (by simp))
   | bl j=>cases ry;exact eq_bool (cN I q Fm)
   | str j=>obtain⟨t',rfl⟩:=ry;exact PySem.EqMixed.eq_bool_str (cN I q (by simp))
   | _=>exact absurd (show false=true from hs) bh
 | int i=>
   obtain⟨t,rfl⟩:=rx;cases y with
   | non=>cases ry;exact PySem.EqNone.eq_int_none (cN I q (by simp))
   | int j=>obtain⟨t',rfl⟩:=ry;exact eq_int (cN I q BZ)
   | str j=>obtain⟨t',rfl⟩:=ry;exact PySem.EqMixed.eq_int_str (cN I q (by simp))
   | _=>exact absurd (show false=true from hs) bh
 | str i=>
   obtain⟨t,rfl⟩:=rx;cases y with
   | non=>cases ry;exact PySem.EqNone.eq_str_none (cN I q (by simp))
   | bl j=>cases ry;exact PySem.EqMixed.eq_str_bool (cN I q (by simp))
   | int j=>obtain⟨t',rfl⟩:=ry;exact PySem.EqMixed.eq_str_int (cN I q (by simp))
   | str j=>obtain⟨t',rfl⟩:=ry;exact eq_str (cN I q BY)
   | _=>exact absurd (show false=true from hs) bh
 | byt i=>
   obtain⟨t,rfl⟩:=rx;cases y with
   | byt j=>obtain⟨t',rfl⟩:=ry;exact PySem.W.eq_bytes (cN I q B0)
   | _=>exact absurd (show false=true from hs) bh
 | _=>cases y<;>exact absurd (show false=true from hs) bh
def xR:j4 X (compareOp .NotEq) N4:=by
 intro pins s σ H x y v u Q I rx ry h;obtain⟨hs,q⟩:=onT.ex h;cases x with
 | non=>
   cases rx;cases y with
   | non=>cases ry;exact PySem.EqNone.ne_none_none (cN I q (by simp))
   | bl j=>cases ry;exact PySem.EqNone.ne_none_bool (cN I q (by simp))
   | int j=>obtain⟨t',rfl⟩:=ry;exact PySem.EqNone.ne_none_int (cN I q (by simp))
   | str j=>obtain⟨t',rfl⟩:=ry;exact PySem.EqNone.ne_none_str (cN I q (by simp))
   | _=>exact absurd (show false=true from hs) bh
 | bl i=>
   cases rx;cases y with
   | non=>cases ry;exact PySem.EqNone.ne_bool_none (cN I q (by simp))
   | bl j=>cases ry;exact ne_bool (cN I q (congrArg not Fm))
   | str j=>obtain⟨t',rfl⟩:=ry;exact PySem.EqMixed.ne_bool_str (cN I q (by simp))
   | _=>exact absurd (show false=true from hs) bh
 | int i=>
   obtain⟨t,rfl⟩:=rx;cases y with
   | non=>cases ry;exact PySem.EqNone.ne_int_none (cN I q (by simp))
   | int j=>obtain⟨t',rfl⟩:=ry;exact ne_int (cN I q (congrArg not BZ))
   | str j=>obtain⟨t',rfl⟩:=ry;exact PySem.EqMixed.ne_int_str (cN I q (by simp))
   | _=>exact absurd (show false=true from hs) bh
 | str i=>
   obtain⟨t,rfl⟩:=rx;cases y with
   | non=>cases ry;exact PySem.EqNone.ne_str_none (cN I q (by simp))
   | bl j=>cases ry;exact PySem.EqMixed.ne_str_bool (cN I q (by simp))
   | int j=>obtain⟨t',rfl⟩:=ry;exact PySem.EqMixed.ne_str_int (cN I q (by simp))
   | str j=>obtain⟨t',rfl⟩:=ry;exact ne_str (cN I q (congrArg not BY))
   | _=>exact absurd (show false=true from hs) bh
 | byt i=>
   obtain⟨t,rfl⟩:=rx;cases y with
   | byt j=>obtain⟨t',rfl⟩:=ry;exact PySem.W.ne_bytes (cN I q (congrArg not B0))
   | _=>exact absurd (show false=true from hs) bh
 | _=>cases y<;>exact absurd (show false=true from hs) bh
def l9:j4 X (compareOp .Lt) (zG fun i j=> .bl (decide (i<j))):=GL fun _ _ _ _ _ _ _ q=>lt_int q
def Ie:j4 X (compareOp .LtE) (zG fun i j=> .bl (decide (i<=j))):=GL fun _ _ _ _ _ _ _ q=>le_int q
def Eb:j4 X (compareOp .Gt) (zG fun i j=> .bl (decide (j<i))):=GL fun _ _ _ _ _ _ _ q=>gt_int q
def Lw:j4 X (compareOp .GtE) (zG fun i j=> .bl (decide (j<=i))):=GL fun _ _ _ _ _ _ _ q=>ge_int q
def mH:j4 X (compareOp .Is) (fun x y H Q=>y= .non/\Q (.bl (decide (x= .non))) H):=by
 intro pins s σ H x y v u Q I rx ry h;obtain⟨rfl,q⟩:=h;cases ry;refine is_none_gen (cN I q ?_);cases x<;>first
  | (cases rx;rfl)
  | (obtain⟨t,rfl⟩:=rx;rfl)
def jO:j4 X (compareOp .IsNot) (fun x y H Q=>y= .non/\Q (.bl (!decide (x= .non))) H):=by
 intro pins s σ H x y v u Q I rx ry h;obtain⟨rfl,q⟩:=h;cases ry;refine isnot_none_gen (cN I q ?_);cases x<;>first
  | (cases rx;rfl)
  | (obtain⟨t,rfl⟩:=rx;rfl)
def rT(b:Expr){op:CmpOp}(h:op≠ .In:=by decide)(h2:op≠ .NotIn:=by decide):behindInMarks op b=false:=by
 have e1:(op==CmpOp.In)=false:=by cases op<;>first | rfl | exact absurd rfl h
 have e2:(op==CmpOp.NotIn)=false:=by cases op<;>first | rfl | exact absurd rfl h2
 cases b<;>simp[behindInMarks,e1,e2]
def GH(ho:j4 X (compareOp op) r)(ha:PE X a ta)(hb:PE X b tb)(hm:behindInMarks op b=false):PE X (.Compare a [op] [b] pos) (Dt r ta tb):=by
 intro pins s σ H Q I h;exact wpAny_Compare1 (Kk ha hb I h fun v u s2 x y H2 I2 rx ry q=>ho pins s2 σ H2 x y v u Q I2 rx ry q) hm
def HP(t:TE):TT:=fun σ H Q=>t σ H fun x H1=>onB x fun c=>Q c H1
def qy(ho:j4 X (compareOp op) r)(ha:PE X a ta)(hb:PE X b tb)(hm:behindInMarks op b=false):PT X (.Compare a [op] [b] pos) (HP (Dt r ta tb)):=by
 intro pins s σ H Q I h;refine Mv (dt (ha pins s σ H _ I h) fun v s1 ⟨x,H1,I1,r1,q1⟩=>dt (hb pins s1 σ H1 _ I1 q1) fun u s2 ⟨y,H2,I2,r2,q2⟩=>
  dt (ho pins s2 σ H2 x y v u _ I2 r1 r2 q2) fun c s3 ⟨z,H3,I3,r3,q0⟩=> ?_) hm
 obtain⟨k,e,q3⟩:=onB.ex q0;subst e;cases r3;exact df ⟨H3,I3,q3⟩
def IT(r r':R2)(ta tb tc:TE):TE:=fun σ H Q=>ta σ H fun x H1=>tb σ H1 fun y H2=>r x y H2 fun z H3=>∃k,z= .bl k/\(if k=true then tc σ H3 fun w' H4=>r' y w' H4 Q else Q (.bl false) H3)
def rQ{X:Cx}{a b c:Expr}{ta tb tc:TE}{pos:Pos}{op op':CmpOp}{r r':R2}(ho:j4 X (compareOp op) r)(ho':j4 X (compareOp op') r')(ha:PE X a ta)(hb:PE X b tb)(hc:PE X c tc)(hm:lastMarks [op,op'] [b,c]=false:=by with_unfolding_all rfl):PE X (.Compare a [op,op'] [b,c] pos) (IT r r' ta tb tc):=by
 intro pins s σ H Q I h;refine Compare_chain (dt (ha pins s σ H _ I h) fun v s1 ⟨x,H1,I1,r1,q1⟩=>chain_link (dt (hb pins s1 σ H1 _ I1 q1) fun u s2 ⟨y,H2,I2,r2,q2⟩=>
  dt (ho pins s2 σ H2 x y v u _ I2 r1 r2 q2) fun d s3 ⟨z,H3,I3,r3,k,e,q3⟩=> ?_)) hm
 subst e;cases r3;refine df ?_;cases k with
 | false=>exact ite_ff ⟨.bl false,H3,I3,rfl,q3⟩
 | true=>exact ite_tt (chain_last (dt (hc pins s3 σ H3 _ I3 q3) fun w' s4 ⟨z',H4,I4,r4,q4⟩=>ho' pins s4 σ H4 y z' u w' Q I4 r2 r4 q4))
def L_(K:Frag)(x:V)(H:Hp)(k:Bool):Prop:=match x with
 | .non=>k=false
 | .bl b=>k=b
 | .int i=>k=(i !=0)
 | .str y=>y.length<=sizeLine/\k=((y.length:Int) !=0)
 | .byt y=>y.size<=sizeLine/\k=((y.size:Int) !=0)
 | .ref p=>(∃xs,SqL K H p xs/\k= !xs.isEmpty)\/(∃xs,SqT K H p xs/\k= !xs.isEmpty)\/∃kvs,H p=some (.dK kvs)/\k= !kvs.isEmpty
 | _=>False
def Ai{kvs:List (κ × V)}(r:KV kvs vs):(!vs.isEmpty)= !kvs.isEmpty:=by
 cases r<;>rfl
def sA(r:Vals xs its):(!its.toArray.isEmpty)= !xs.isEmpty:=by
 cases r<;>simp
def mN:(sizeLine:Nat)<2^63:=by rw[M7];decide
def IM:NK X (fun x H Q=>∃k,L_ X.K x H k/\Q k H):=by
 intro pins s σ H x v Q I rx h;obtain⟨k,e,q⟩:=h;have hl:=mN;have hs:sizeLine=16777216:=M7;cases x with
 | non=>
   cases rx;have e':k=false:=e;subst e';exact truthy_none ⟨H,I,q⟩
 | bl b=>
   cases rx;have e':k=b:=e;subst e';exact df ⟨H,I,q⟩
 | int i=>
   obtain⟨t,rfl⟩:=rx;have e':k=(i !=0):=e;subst e';exact PySem.P.truthy_int ⟨H,I,q⟩
 | str y=>
   obtain⟨t,rfl⟩:=rx;obtain⟨hy,e'⟩:y.length<=sizeLine/\k=((y.length:Int) !=0):=e;subst e';exact PySem.P.truthy_str (by lia) ⟨H,I.tok _,q⟩
 | byt y=>
   obtain⟨t,rfl⟩:=rx;obtain⟨hy,e'⟩:y.size<=sizeLine/\k=((y.size:Int) !=0):=e;subst e';exact PySem.W.truthy_bytes (by lia) ⟨H,I.tok _,q⟩
 | ref p=>
   cases rx;have e':(∃xs,SqL X.K H p xs/\k= !xs.isEmpty)\/(∃xs,SqT X.K H p xs/\k= !xs.isEmpty)\/∃kvs,H p=some (.dK kvs)/\k= !kvs.isEmpty:=e;rcases e' with⟨xs,hx,e'⟩ | ⟨xs,hx,e'⟩ | ⟨kvs,hx,e'⟩
   · subst e';obtain⟨its,r,pl,hz⟩:=I.list hx;have hlen:=r.length;exact wpAny_truthy_list pl.isList (by simp only[aM];lia) ⟨H,I.tok _,by rw[sA r];exact q⟩
   · subst e';obtain⟨its,r,pl,hz⟩:=I.tuple hx;have hlen:=r.length;exact truthy_tuple pl (by simp only[aM];lia) ⟨H,I.tok _,by rw[sA r];exact q⟩
   · subst e';obtain⟨hz,hS,vs,r,m⟩:kvs.length<=sizeLine/\(p==sysModules)=false/\∃vs,KV kvs vs/\s.heap.DictOf (cW X.prog X.w) p vs:=I.hok p _ hx;have hlen:kvs.length=vs.length:=aS r;exact wpAny_truthy_dict hS m (by lia) ⟨H,I.tok _,by rw[Ai r];exact q⟩
 | _=>exact(show False from e).elim
def xH(ha:PE X a ta)(he:∀whole,isTrue a X.env whole=(do let v<-whole;standAt a.pos;holding [v] (truthy v))):
 PT X a (fun σ H Q=>ta σ H fun x H'=>∃k,L_ X.K x H' k/\Q k H'):=by
 intro pins s σ H Q I h;exact isTrue_plain (dt (ha pins s σ H _ I h) fun v s1 ⟨x,H1,I1,r1,q1⟩=>IM pins s1 σ H1 x v Q I1 r1 q1) (he _)
def iS:j4 X (binaryOp .Add) (fun x y H Q=>∃i j,x= .str i/\y= .str j/\i.length+j.length<=sizeLine/\Q (.str (i++j)) H):=by
 intro pins s σ H x y v u Q I rx ry h;obtain⟨i,j,rfl,rfl,hz,q⟩:=h;obtain⟨t,rfl⟩:=rx;obtain⟨t',rfl⟩:=ry;exact add_str (fun t' tk=>⟨.str (i++j),H,I.tok _,⟨_,rfl⟩,q⟩) hz
def Dk(r:Vals [x] us):∃u,us=[u]/\RelV x u:=by
 cases r with
 | cons r1 r2=>cases r2;exact⟨_,rfl,r1⟩
end
structure ObjM(h:Heap)(x dx C:Addr)(mA:Str->Option Value):Prop where
 obj:h.get? x=some (instObj C dx)
 ns:h.Ns1 dx mA
 ne:dx≠x
def CK{h:Heap}(n:h.Ns1 dx mA):∃od,h.get? dx=some od/\∀name,lookIn name od=some (mA name):=by
 obtain⟨o,es,ep,ho,hd,hk,_,hm⟩:=n;refine⟨o,ho,fun name=> ?_⟩;have e:=hm name;unfold nsFind findBy at e;rw[<-Array.find?_toList] at e;unfold lookIn;rw[hd];dsimp only
 split
 · rename_i y q;rw[q] at e;exact congrArg some e
 · rename_i q;rw[q] at e;have a:es.toList.any (·.refKey)=false:=by
    rw[List.any_eq_false];intro y hy;obtain⟨z,t,hkey⟩:=hk y (Array.mem_toList_iff.mp hy);simp[DictEntry.refKey,hkey]
   have a':¬ es.toList.any (·.refKey)=true:=by rw[a];exact bh
   rw[aE a'];exact congrArg some e
def ObjM.look(I:ObjM h x dx C mA):∃od,PySem.W.InstAt h x (instObj C dx) C (some od)/\∀name,lookIn name od=some (mA name):=
 let⟨od,ho,hl⟩:=CK I.ns
 ⟨od,⟨I.obj,rfl,rfl,ho⟩,hl⟩
section
def Hj{K:Frag}(X:K.In s.heap)(I:ObjM s.heap x dx C mA)(hg:plainGet K C name=true)(hh:PySem.W.hasDictIn K C=true)(ha:findIn K (.ref C) name=some none)(hv:mA name=some v)(hv':PySem.W.handedIn v=true)(h:Q v {s with toks:=s.toks+1}):wpAny (model prog w) A (getAttr (.ref x) name expr) Q E s:=by
 obtain⟨od,J,hl⟩:=I.look;exact PySem.W.get_value X J (wA hg).1 (PySem.W.findObj_own hh ha rfl (by rw[hl,hv])) hv' h
def Fc{K:Frag}(X:K.In s.heap)(I:ObjM s.heap x dx C mA)(hg:plainGet K C name=true)(hf:findIn K (.ref C) name=some (some (.ref f)))(ht:isFn K (.ref f)=true)(hv:mA name=none)(h:Q (.ref f,[.ref x]) s):wpAny (model prog w) A (getMethod (.ref x) name pl) Q E s:=by
 obtain⟨od,J,hl⟩:=I.look;exact PySem.W.method_fn X J (wA hg).1 (wA hg).2 hf (lM.mp ht) (by show(lookIn name od).map (·.isSome)=some false;rw[hl,hv];rfl) h
def F_{K:Frag}(X:K.In s.heap)(I:ObjM s.heap x dx C mA)(hs:findIn K (.ref C) "__setattr__"=some (some (.builtin "object.__setattr__")))(hp:PySem.W.plainOver K C=true)(ht:PySem.W.takerIn K C name=some none)(hh:PySem.W.hasDictIn K C=true)(hw:PySem.Within mA ns)(hsz:ns.length<=sizeLine)(h:∀h',ObjM h' x dx C (fun y=>if y=name then some v else mA y)->Heap.SameBut dx s.heap h'->Q () {s with heap:=h',toks:=s.toks+2}):wpAny (model prog w) A (setAttr (.ref x) name v) Q E s:=by
 obtain⟨od,J,hl⟩:=I.look;refine PySem.W.set_plain X J hs (PySem.W.osa_open (s:={s with toks:=s.toks+1}) (r:=none) X J hp ht fun b=> ?_);obtain⟨cd,hc,hd'⟩:=PySem.W.any_some hh;have hx:s.heap.get? x=some ⟨.ref C,some dx,.plain,#[]⟩:=I.obj;refine ae (aI (ae (ae (wpAny_loadPart hx (ae (PySem.W.Looks.here (s:={s with toks:=s.toks+1}) (PySem.W.looks_clsIn X hc) ?_))))));rw[hd'];refine aI (a:=some dx) (ae (aI (ae ?_)));refine wpAny_nsSet1 (s:={s with toks:=s.toks+1}) I.ns fun h' hn2 hs2=> ?_;obtain⟨oD,esD,epD,hoD,hdD,hcD⟩:=hn2.count (PySem.Within.cons name v hw);refine ae (wpAny_lookBehind hoD (by rw[hdD];exact pastItsLine_dict (aq hcD (by rw[aV];lia))) ?_);exact aI (h _ ⟨(hs2.2 _ (bI I.ne)).trans I.obj,hn2,I.ne⟩ hs2)
def EE{s:Shared}{K:Frag}(X:K.In s.heap)(hm:makesIn K C=true)(hi:findIn K (.ref C) "__init__"=some (some (.ref f)))(hf:PySem.W.typeIn K (.ref f)=some (.type "function"))(h:codeAny (model prog w) (A.under (.builtin "type.__call__" ⟨.ref C::vs,kw⟩)) (.call (.ref f) ⟨.ref (s.heap.objs.size+1)::vs,kw⟩) (PySem.W.InitBack (s.heap.objs.size+1) R) {s with heap:=(s.heap.push emptyDict).push (instObj C s.heap.objs.size)}):codeAny (model prog w) A (.call (.ref C) ⟨vs,kw⟩) R s:=by
 obtain⟨hh,g,d,t,os⟩:=s;exact PySem.W.make_core (PySem.W.makes_of X hm) (PySem.W.looks_findIn X hi) (fun self=>PySem.W.bind_fn X self hf) (.inl rfl) h
end
noncomputable def jo(f:Str)(v:V):List (Str × V)->List (Str × V)
 | []=>[(f,v)]
 | (g,x)::r=>if g=f then(g,v)::r else(g,x)::jo f v r
theorem pS(f g:Str)(v:V):∀fs:List (Str × V),(jo f v fs).lookup g=if g=f then some v else fs.lookup g
 | []=>by
   show List.lookup g [(f,v)]=_;by_cases h:g=f
   · have hb:(g==f)=true:=lM.mpr h;simp only[List.lookup,hb,aH h]
   · have hb:(g==f)=false:=cv.mpr h;simp only[List.lookup,hb,aE h]
 | (k,x)::r=>by
   have ih:=pS f g v r;rw[show jo f v ((k,x)::r)=(if k=f then(k,v)::r else(k,x)::jo f v r) from rfl];by_cases hk:k=f
   · rw[aH hk];by_cases h:g=k
     · have hb:(g==k)=true:=lM.mpr h;simp only[List.lookup,hb,aH (h.trans hk)]
     · have hb:(g==k)=false:=cv.mpr h;simp only[List.lookup,hb,aE (fun e:g=f=>h (e.trans hk.symm))]
   · rw[aE hk];by_cases h:g=k
     · have hb:(g==k)=true:=lM.mpr h;simp only[List.lookup,hb,aE (fun e:g=f=>hk (h.symm.trans e))]
     · have hb:(g==k)=false:=cv.mpr h;simp only[List.lookup,hb];exact ih
theorem oY(f:Str)(v:V):∀fs:List (Str × V),f∈(jo f v fs).map (·.1)/\∀g,g∈fs.map (·.1)->g∈(jo f v fs).map (·.1)
 | []=>⟨by simp[jo],fun g h=>by simp at h⟩
 | (k,x)::r=>by
   obtain⟨i1,i2⟩:=oY f v r;rw[show jo f v ((k,x)::r)=(if k=f then(k,v)::r else(k,x)::jo f v r) from rfl];by_cases hk:k=f
   · rw[aH hk];subst hk;exact⟨by simp,fun g h=>by simpa using h⟩
   · rw[aE hk];refine⟨?_,fun g h=> ?_⟩
     · rw[bQ];exact aG _ i1
     · rw[bQ] at h⊢;rcases aL.mp h with e | e
       · exact aL.mpr (.inl e)
       · exact aG _ (i2 g e)
theorem pV(f:Str)(v:V):∀fs:List (Str × V),(jo f v fs).length<=fs.length+1
 | []=>by simp[jo]
 | (k,x)::r=>by
   have ih:=pV f v r;rw[show jo f v ((k,x)::r)=(if k=f then(k,v)::r else(k,x)::jo f v r) from rfl];by_cases hk:k=f
   · rw[aH hk,aV,aV];lia
   · rw[aE hk,aV,aV];lia
def RelO.some_of(r:RelO (some v) o):∃u,o=some u/\RelV v u:=by
 cases o with
 | none=>exact(show False from r).elim
 | some u=>exact⟨u,rfl,r⟩
def RelO.none_of(r:RelO none o):o=none:=by
 cases o with
 | none=>rfl
 | some u=>exact(show False from r).elim
def CU(r:RelV v u):PySem.W.handedIn u=true:=by
 cases v with
 | non=>cases(show u=Value.none from r);rfl
 | bl b=>cases(show u=Value.bool b from r);rfl
 | int i=>obtain⟨t,e⟩:=(show ∃t,u=Value.int i t from r);cases e;rfl
 | str x=>obtain⟨t,e⟩:=(show ∃t,u=Value.str x t from r);cases e;rfl
 | byt b=>obtain⟨t,e⟩:=(show ∃t,u=Value.bytes b t from r);cases e;rfl
 | flt b=>obtain⟨t,e⟩:=(show ∃t,u=Value.float b t from r);cases e;rfl
 | ref a=>cases(show u=Value.ref a from r);rfl
 | ty n=>cases(show u=Value.type n from r);rfl
section
def qG(hok:HOk P w H h)(e:H a=some (.ins C dx fs)):∃mA,ObjM h a dx C mA/\(∀f,RelO (fs.lookup f) (mA f))/\PySem.Within mA (fs.map (·.1))/\fs.length<=1000/\H dx=some (.own a):=by
 obtain⟨d,z,ne,ob,mA,n,r,q⟩:=(show ObjOk P w H h a (.ins C dx fs) from hok a _ e);exact⟨mA,⟨ob,n,ne⟩,r,q,z,d⟩
end
structure Cls(K:Frag)(C:Addr):Prop where
 pg:plainGet K C Str.empty=true
 hd:PySem.W.hasDictIn K C=true
 po:PySem.W.plainOver K C=true
 sa:findIn K (.ref C) "__setattr__"=some (some (.builtin "object.__setattr__"))
def Cls.get{K:Frag}(c:Cls K C)(f:Str):plainGet K C f=true:=c.pg
def NoAttr(K:Frag)(C:Addr)(f:Str):Prop:=findIn K (.ref C) f=some none
def NoAttr.taker{K:Frag}(n:NoAttr K C f):PySem.W.takerIn K C f=some none:=by
 unfold PySem.W.takerIn;rw[show findIn K (.ref C) f=some none from n]
 rfl
structure Dc(K:Frag)(C:Addr)(m:Str)(f:Addr):Prop where
 at_:findIn K (.ref C) m=some (some (.ref f))
 fn:isFn K (.ref f)=true
 kp:keepIn K (.ref f)=true
section
def Al{σ:St}(I:Inv X pins σ H s)(e:H a=some (.ins C dx fs))(c:Cls X.K C)(n:NoAttr X.K C f)(l:fs.lookup f=some v)(h:∀u s',Inv X pins σ H s'->RelV v u->Q u s'):wpAny (model X.prog X.w) A (getAttr (.ref a) f b) Q E s:=by
 obtain⟨mA,O,r,_,_,_⟩:=qG I.hok e;obtain⟨u,hu,ru⟩:=RelO.some_of (v:=v) (o:=mA f) (by rw[<-l];exact r f);exact Hj I.kIn O (c.get f) c.hd n hu (CU ru) (h u _ (I.tok _) ru)
def mO{σ:St}(I:Inv X pins σ H s)(e:H a=some (.ins C dx fs))(c:Cls X.K C)(k:Dc X.K C m g)(l:fs.lookup m=none)(h:Q (.ref g,[.ref a]) s):wpAny (model X.prog X.w) A (getMethod (.ref a) m pl) Q E s:=by
 obtain⟨mA,O,r,_,_,_⟩:=qG I.hok e;have hn:mA m=none:=RelO.none_of (by rw[<-l];exact r m);exact Fc I.kIn O (c.get m) k.at_ k.fn hn h
def zc{σ:St}(I:Inv X pins σ H s)(e:H a=some (.ins C dx fs))(c:Cls X.K C)(n:NoAttr X.K C f)(hl:fs.length<1000)(ry:RelV y u)(h:∀s',Inv X pins σ (upd H a (.ins C dx (jo f y fs))) s'->Q () s'):wpAny (model X.prog X.w) A (setAttr (.ref a) f u) Q E s:=by
 obtain⟨mA,O,r,wi,_,ho⟩:=qG I.hok e;have hz:(fs.map (·.1)).length<=sizeLine:=by rw[ai,M7];lia
 refine F_ I.kIn O c.sa c.po n.taker c.hd wi hz fun h' O' sb=>h _ ?_;have hd:∃o,h'.get? dx=some o:=let⟨o,_,_,e',_⟩:=O'.ns;⟨o,e'⟩
 refine I.write (x:=a) (e:=dx) (by rw[e];exact True.intro) (.inr ho) (fun b q hb z=>(sb.2 b hb).trans z) hd ?_;refine⟨by rw[aD O.ne];exact ho,?_,O.ne,O'.obj,_,O'.ns,fun g=> ?_,fun g hg=> ?_⟩
 · have:=pV f y fs;lia
 · show RelO ((jo f y fs).lookup g) (if g=f then some u else mA g);rw[pS];by_cases q:g=f
   · rw[aH q,aH q];exact ry
   · rw[aE q,aE q];exact r g
 · by_cases q:g=f
   · rw[q];exact(oY f y fs).1
   · refine(oY f y fs).2 g (wi g fun z=>hg ?_);show(if g=f then some u else mA g)=none;rw[aE q];exact z
def Inv.made{σ:St}(I:Inv X pins σ H s):Inv X pins σ (upd (upd H s.heap.objs.size (.own (s.heap.objs.size+1))) (s.heap.objs.size+1) (.ins C s.heap.objs.size [])) {s with heap:=(s.heap.push emptyDict).push (instObj C s.heap.objs.size)}:=by
 have e1:(s.heap.push emptyDict).get? s.heap.objs.size=some emptyDict:=bf s.heap rfl;have e2:((s.heap.push emptyDict).push (instObj C s.heap.objs.size)).get? (s.heap.objs.size+1)=some (instObj C s.heap.objs.size):=by
  have:=bf (s.heap.push emptyDict) (o:=instObj C s.heap.objs.size) rfl
  rwa [eo] at this
 have e3:(s.heap.push emptyDict).Ns s.heap.objs.size (fun _=>none):=⟨emptyDict,#[],_,e1,rfl,(fun e he=>absurd he (by simp)),fun _=>rfl⟩;have I1:=I.laid (a:=s.heap.objs.size) (o:= .own (s.heap.objs.size+1)) (h':=s.heap.push emptyDict) (t':=s.toks) (fun b u q=>aC _ q) (au _) ⟨_,e1⟩;refine I1.laid (a:=s.heap.objs.size+1) (o:= .ins C s.heap.objs.size []) (t':=s.toks) (fun b u q=>aC _ q) (Nat.le_of_eq (eo _ _)) ?_;have ne:s.heap.objs.size≠s.heap.objs.size+1:=bJ (jF _);refine⟨by rw[aD ne,aa],ay _,ne,e2,fun _=>none,(Heap.Ns1.of_empty e3).at fun o q=>aC _ q,fun _=>True.intro,fun y hy=>absurd rfl hy⟩
def Hy(hb:attributeBase e f env (eval e env)=eval e env)(h:wpAny (model prog w) A (eval e env) (fun o s₁=>wpAny (model prog w) A (getAttr o f true) Q E s₁) E s):wpAny (model prog w) A (eval (.Attribute e f pos) env) Q E s:=Attribute_any_ h (by rw[arm_eval_Attribute,hb])
end
inductive Du(K:Frag)(f:Str)(Q:VK)(H1:Hp)(a:Addr):Prop
 | mk:∀C dx fs v,(H1 a=some (.ins C dx fs))->(Cls K C)->(NoAttr K C f)->(fs.lookup f=some v)->(Q v H1)->Du K f Q H1 a
def yX(K:Frag)(ta:TE)(f:Str):TE:=fun σ H Q=>ta σ H fun x H1=>onR x fun a=>Du K f Q H1 a
def DO(K:Frag)(ta tv:TE)(f:Str):TS:=fun D σ H=>tv σ H fun y H1=>ta σ H1 fun x H2=>∃a C dx fs,x= .ref a/\H2 a=some (.ins C dx fs)/\Cls K C/\NoAttr K C f/\fs.length<1000/\D.nx σ (upd H2 a (.ins C dx (jo f y fs)))
section
def Jl(he:PE X e ta)(hb:attributeBase e f X.env (eval e X.env)=eval e X.env):PE X (.Attribute e f pos) (yX X.K ta f):=by
 intro pins s σ H Q I h;refine Hy hb (dt (he pins s σ H _ I h) fun u s1 ⟨x,H1,I1,rx,q0⟩=> ?_);obtain⟨a,ex,C,dx,fs,v,ea,c,n,l,q⟩:=onR.ex q0;subst ex;obtain rfl:u=Value.ref a:=rx;exact Al I1 ea c n l fun u' s2 I2 ru=>⟨v,H1,I2,ru,q⟩
def dJ(ha:PE X o ta)(hv:PE X value tv)(hs:swapsWith value (some (.Attribute o f pos')) pos.line X.env=pure false):PS X (.Assign [.Attribute o f pos'] value pos) (DO X.K ta tv f):=by
 intro pins s σ H D I h;refine plainObj_wpAny_Assign_Attribute (dt (hv pins s σ H _ I h) fun u s1 ⟨y,H1,I1,ry,q⟩=>dt (ha pins s1 σ H1 _ I1 q) fun ov s2 ⟨x,H2,I2,rx,a,C,dx,fs,ex,ea,c,n,l,q2⟩=> ?_) hs;subst ex;obtain rfl:ov=Value.ref a:=rx;exact zc I2 ea c n l ry fun s3 I3=>⟨σ,_,I3,q2⟩
def Io{X:Cx}{e:Expr}{pos:Pos}{pl:Sem Bool}{m:Str}{apos:Pos}{args:List Expr}{pins:List (Addr × Obj)}{s:Shared}{σ:St}{H:Hp}{Q:Value->Shared->Prop}{te:TE}(he:PE X e te)(I:Inv X pins σ H s)(h:te σ H fun x H1=>∃a C dx fs g,x= .ref a/\H1 a=some (.ins C dx fs)/\Cls X.K C/\Dc X.K C m g/\fs.lookup m=none/\∀s1,Inv X pins σ H1 s1->wpAny (model X.prog X.w) X.A (callWith pos (.ref g) [.ref a] (backTo pos (starEach args X.env)) (backToKw pos (keywordEach [] X.env))) Q X.xe s1) (ht:eval (.Call (.Attribute e m apos) args [] pos) X.env=(do
 let ov<-eval e X.env
 standAt apos.atName
 let(f,first)<-holding [ov] (getMethod ov m pl)
 callWith pos f first (backTo pos (starEach args X.env)) (backToKw pos (keywordEach [] X.env)))):
 wpAny (model X.prog X.w) X.A (eval (.Call (.Attribute e m apos) args [] pos) X.env) Q X.xe s:=by
 refine sW (pl:=pl) (dt (he pins s σ H _ I h) fun u s1 ⟨x,H1,I1,rx,a,C,dx,fs,g,ex,ea,c,k,l,q⟩=> ?_) ht;subst ex;obtain rfl:u=Value.ref a:=rx;exact mO I1 ea c k l (q s1 I1)
end
section
inductive TyOf(K:Frag)(H:Hp):V->Value->Prop where
 | non:TyOf K H .non (.type "NoneType")
 | bl (x:Bool):TyOf K H (.bl x) (.type "bool")
 | int (i:Int):TyOf K H (.int i) (.type "int")
 | str (x:Str):TyOf K H (.str x) (.type "str")
 | flt (x:UInt64):TyOf K H (.flt x) (.type "float")
 | lst {a:Addr} {xs:List V} (e:H a=some (.lst xs)):TyOf K H (.ref a) (.type "list")
 | frz {a:Addr} {o:Obj} {xs:List V} (e:H a=some (.frz o (.lst xs))):TyOf K H (.ref a) (.type "list")
 | tup {a:Addr} {xs:List V} (e:H a=some (.tup xs)):TyOf K H (.ref a) (.type "tuple")
 | dK {a:Addr} {kvs:List (Key × V)} (e:H a=some (.dK kvs)):TyOf K H (.ref a) (.type "dict")
 | dT {a:Addr} {kvs:List (List Key × V)} (e:H a=some (.dT kvs)):TyOf K H (.ref a) (.type "dict")
 | ins {a C dx:Addr} {fs:List (Str × V)} (e:H a=some (.ins C dx fs)) (cl:Cls K C) (ha:findIn K (.ref C) "__class__"=some (some (.builtin "object.__class__"))) (hn:PySem.W.specialIn K (.builtin "object.__class__") "__get__"=some (some (.builtin "getset_descriptor.__get__"))) (htk:PySem.W.takesIn K (.builtin "object.__class__")=some true) (hm:PySem.W.mroIn K C (.type "object")=some true):TyOf K H (.ref a) (.ref C)
def CP{σ:St}(I:Inv X pins σ H s)(rx:RelV x u)(ty:TyOf X.K H x t)(e:kitOne X.K t c=some b)(h:∀tk,Q (.bool b) {s with toks:=tk}):wpAny (model X.prog X.w) A (call (.builtin "isinstance") [u,c]) Q E s:=by
 cases ty with
 | non=>cases(show u=Value.none from rx);exact kia_one PySem.W.kitx_none I.kIn True.intro e (fun z=>nomatch z) h
 | bl y=>cases(show u=Value.bool y from rx);exact kia_one PySem.W.kitx_bool I.kIn True.intro e (fun z=>nomatch z) h
 | int i=>obtain⟨t,q⟩:=(show ∃t,u=Value.int i t from rx);cases q;exact kia_one PySem.W.kitx_int I.kIn True.intro e (fun z=>nomatch z) h
 | str y=>obtain⟨t,q⟩:=(show ∃t,u=Value.str y t from rx);cases q;exact kia_one PySem.W.kitx_str I.kIn True.intro e (fun z=>nomatch z) h
 | flt y=>obtain⟨t,q⟩:=(show ∃t,u=Value.float y t from rx);cases q;exact kia_one PySem.W.kitx_float I.kIn True.intro e (fun z=>nomatch z) h
 | @lst a xs ea=>
   cases(show u=Value.ref a from rx);obtain⟨_,_,n,_,h1⟩:=(show ObjOk X.prog X.w H s.heap a (.lst xs) from I.hok a _ ea);exact kia_one Pb I.kIn ⟨_,h1,rfl⟩ e (fun z=>nomatch z) h
 | @frz a ob xs ea=>
   cases(show u=Value.ref a from rx);obtain⟨_,_,_,n,_,h1⟩:=(show ObjOk X.prog X.w H s.heap a (.frz ob (.lst xs)) from I.hok a _ ea);exact kia_one Pb I.kIn ⟨_,h1,rfl⟩ e (fun z=>nomatch z) h
 | @tup a xs ea=>
   cases(show u=Value.ref a from rx);obtain⟨_,_,_,p⟩:=(show ObjOk X.prog X.w H s.heap a (.tup xs) from I.hok a _ ea);obtain⟨o,h1,h2,_⟩:=p;exact kia_one PySem.W.kitx_tuple I.kIn ⟨o,h1,h2⟩ e (fun z=>nomatch z) h
 | @dK a kvs ea=>
   cases(show u=Value.ref a from rx);obtain⟨_,_,vs,_,p⟩:=(show ObjOk X.prog X.w H s.heap a (.dK kvs) from I.hok a _ ea);obtain⟨o,es,ep,h1,h2,_⟩:=p;exact kia_one Pc I.kIn ⟨o,h1,h2.1⟩ e (fun z=>nomatch z) h
 | @dT a kvs ea=>
   cases(show u=Value.ref a from rx);obtain⟨_,_,xs,_,o,es,ep,h1,h2,_⟩:=(show ObjOk X.prog X.w H s.heap a (.dT kvs) from I.hok a _ ea);exact kia_one Pc I.kIn ⟨o,h1,h2.1⟩ e (fun z=>nomatch z) h
 | @ins a C dx fs ea cl ha hn htk hm=>
   cases(show u=Value.ref a from rx);obtain⟨mA,O,_⟩:=qG I.hok ea;obtain⟨od,J,_⟩:=O.look;exact kia_one (PySem.W.kitx_own (cl.get _) cl.hd ha hn htk hm) I.kIn J e (fun z=>nomatch z) h
end
structure Room(k:Nat)(A:Around):Prop where
 hd:A.handled=none
 dp:A.depth+3 * k+5<recursionLimit
 un:A.units+16 * k+200<cLine
 gd:A.guards=some []
def Room.mono(r:Room k A)(h:j<=k):Room j A:=⟨r.hd,by have:=r.dp;lia,by have:=r.un;lia,r.gd⟩
def Room.deeper(r:Room (k+1) A)(env:Env):Room k (A.deeper env):=⟨r.hd,by have:=r.dp;show A.depth+1+3 * k+5<_;lia,by have:=r.un;show A.units+3+16 * k+200<_;lia,r.gd⟩
def Ad{A:Around}:(A.under (.builtin "type.__call__" ⟨.ref C::us,kw⟩)).depth=A.depth+1:=by
 first | rfl | simp[Around.under,Code.weight,Code.isCreation,Code.isGuard,Code.isCaller,Code.frames,Code.isFrame,guardIds]
def Ac{A:Around}:(A.under (.builtin "type.__call__" ⟨.ref C::us,kw⟩)).units=A.units+1:=by
 first | rfl | simp[Around.under,Code.cUnits,Code.frames,Code.isFrame]
def ye{A:Around}(h:A.guards=some []):(A.under (.builtin "type.__call__" ⟨.ref C::us,kw⟩)).guards=some []:=by
 first | (show pushGuards _ A.guards=_;rw[h];rfl) | simp[Around.under,pushGuards,Code.guards,Code.isGuard,guardIds,h]
def Room.make(r:Room (k+1) A)(C:Addr)(us:List Value)(kw:List (Str × Value)):Room k (A.under (.builtin "type.__call__" ⟨.ref C::us,kw⟩)):=⟨r.hd,by have:=r.dp;rw[Ad];lia,by have:=r.un;rw[Ac];lia,ye r.gd⟩
def Room.depth(r:Room k A):A.depth<recursionLimit:=by have:=r.dp;lia
def Room.units(r:Room k A):A.units+64<cLine:=by have:=r.un;lia
def gB:TA:=fun _ H Q=>Q [] H
def dU(ta:TE)(tr:TA):TA:=fun σ H Q=>ta σ H fun x H1=>tr σ H1 fun xs H2=>Q (x::xs) H2
section
def cu:PA X [] gB:=fun _ _ _ _ H Q I h=>Ay ⟨[],H,I,.nil,h⟩
def eL{X:Cx}{e:Expr}{es:List Expr}{te:TE}{t:TA}(ha:PE X e te)(hr:PA X es t)(hs:starEach (e::es) X.env=(false,eval e X.env)::starEach es X.env:=by rfl):PA X (e::es) (dU te t):=by
 intro pos pins s σ H Q I h;rw[hs];show wpAny _ _ (spliced ((false,eval e X.env)::backTo pos (starEach es X.env))) _ _ s;refine iM (dt (ha pins s σ H _ I h) fun u s1 ⟨x,H1,I1,r1,q1⟩=> ?_);exact dt (hr pos pins s1 σ H1 _ I1 q1) fun us s2 ⟨xs,H2,I2,r2,q2⟩=>⟨x::xs,H2,I2,.cons r1 r2,q2⟩
def F2(t:TA):TE:=fun σ H Q=>t σ H fun xs H1=>xs.length<=sizeLine/\∀p,H1 p=none->Q (.ref p) (upd H1 p (.tup xs))
def IQ(t:TA):TE:=fun σ H Q=>t σ H fun xs H1=>xs.length<=sizeLine/\∀p,H1 p=none->Q (.ref p) (upd H1 p (.lst xs))
def Jk{X:Cx}{es:List Expr}{t:TA}{pos:Pos}{x1}(h:PA X es t):PE X (.Tuple es x1 pos) (F2 t):=by
 intro pins s σ H Q I hq;refine wpAny_Tuple_spliced (dt (h pos pins s σ H _ I hq) fun us s1 ⟨xs,H1,I1,r,z,q⟩=>⟨by rw[<-r.length];exact z,?_⟩);have hf:H1 s1.heap.objs.size=none:=I1.hok.fresh (au _);refine⟨.ref s1.heap.objs.size,upd H1 s1.heap.objs.size (.tup xs),I1.laid (t':=s1.toks) (fun b u e=>aC _ e) (au _) ?_,rfl,q _ hf⟩;exact⟨z,us,r,⟨_,bf _ rfl,rfl,_,rfl⟩⟩
def bR{X:Cx}{es:List Expr}{t:TA}{pos:Pos}(h:PA X es t):PE X (.List es pos) (IQ t):=by
 intro pins s σ H Q I hq;refine wpAny_List_spliced (dt (h pos pins s σ H _ I hq) fun us s1 ⟨xs,H1,I1,r,z,q⟩=>⟨by rw[<-r.length];exact z,?_⟩);have hf:H1 s1.heap.objs.size=none:=I1.hok.fresh (au _);refine⟨.ref s1.heap.objs.size,upd H1 s1.heap.objs.size (.lst xs),I1.laid (t':=s1.toks) (fun b u e=>aC _ e) (au _) ?_,rfl,q _ hf⟩;exact⟨z,us,0,r,bf _ rfl⟩
end
abbrev Sp:=List V->Hp->VK->XK->Prop
abbrev FN:=List Env->Hp->Shared->XK->Value->Shared->Prop
structure Env0(P:Program)(w:World)(K:Frag)(mg:Str->Option Value)(base:Heap)(A:Around)(outer:List Env)(s:Shared)(H:Hp):Prop where
 frames:A.frames=some outer
 mod:Mod K mg base
 bs:∀b o,base.get? b=some o->s.heap.get? b=some o/\H b=none
 bsz:base.objs.size<=s.heap.objs.size
 funs:s.heap.FunFrames base outer
 frf:∀b∈Fd outer,H b=none
 hok:HOk P w H s.heap
 bare:AllBare s.gens
def CE(outer:List Env)(P:Program)(w:World)(H:Hp)(s:Shared)(Q:VK)(u:Value)(s':Shared):Prop:=∃v H',s'.os=s.os/\AllBare s'.gens/\Un (Fd outer) [] H H' s.heap s'.heap/\HOk P w H' s'.heap/\RelV v u/\Q v H'
def CR(CX:FN)(outer:List Env)(P:Program)(w:World)(H:Hp)(s:Shared)(Q:VK)(E:XK)(r:Result)(s':Shared):Prop:=match r with
 | .ok (.ret u)=>CE outer P w H s Q u s'
 | .ok _=>False
 | .error e=>CX outer H s E e s'
structure b_(P:Program)(w:World)(K:Frag)(mg:Str->Option Value)(base:Heap)(CX:FN)(k:Nat)(f:Addr)(fd:FuncData)(ps:List Str)(sp:Sp):Prop where
 len:∀vs H Q E,sp vs H Q E->vs.length=ps.length
 run:∀(A:Around) (outer:List Env) (s:Shared) (H:Hp) (args:Args) (us:List Value) (vs:List V) (Q:VK) (E:XK),Room k A->Env0 P w K mg base A outer s H->BindsTo s fd args (ps.zip us)->Vals vs us->sp vs H Q E->codeAny (model P w) A (.call (.ref f) args) (CR CX outer P w H s Q E) s
def Env0.make{K:Frag}(e:Env0 P w K mg base A outer s H)(C:Addr)(us:List Value)(kw:List (Str × Value)):Env0 P w K mg base (A.under (.builtin "type.__call__" ⟨.ref C::us,kw⟩)) outer s H:=⟨by first | exact e.frames | (simpa[Around.under,Code.envs,Code.isFrame,pushEnvs] using e.frames),e.mod,e.bs,e.bsz,e.funs,e.frf,e.hok,e.bare⟩
section
def Inv.env0{σ:St}(I:Inv X pins σ H s):Env0 X.prog X.w X.K X.mg X.base X.A X.stack s H:=⟨I.ok.frames,I.ok.mod,I.bs,aq I.ok.bsz I.sz,I.stack,I.stkFree,I.hok,I.bare⟩
def Inv.after{σ:St}(I:Inv X pins σ H s)(h:CE X.stack X.prog X.w H s Q u s'):EP X pins σ Q u s':=by
 obtain⟨v,H',os,bare,un,hok,r,q⟩:=h;obtain⟨hh,g,d,t,os'⟩:=s';obtain rfl:os'=s.os:=os;exact⟨v,H',I.call (h':=hh) (g':=g) (d':=d) (t':=t) (ch:=[]) un hok bare (fun b z=>absurd z (by simp)),r,q⟩
end
def qS(sp:Sp)(dvs:List V)(E:XK)(t:TA):TE:=fun σ H Q=>t σ H fun vs H1=>sp (vs++dvs) H1 Q E
inductive AD(C:Addr)(m:Str)(sp:Sp)(dvs:List V)(E:XK)(t:TA)(σ:St)(Q:VK)(x:V)(H1:Hp)(a:Addr):Prop
 | mk:∀dx fs,(H1 a=some (.ins C dx fs))->(fs.lookup m=none)->(t σ H1 fun vs H2=>sp (x::(vs++dvs)) H2 Q E)->AD C m sp dvs E t σ Q x H1 a
def AE(C:Addr)(m:Str)(sp:Sp)(dvs:List V)(E:XK)(ta:TE)(t:TA):TE:=fun σ H Q=>ta σ H fun x H1=>onR x fun a=>AD C m sp dvs E t σ Q x H1 a
def AF(C:Addr)(sp:Sp)(dvs:List V)(E:XK)(t:TA):TE:=fun σ H Q=>t σ H fun vs H1=>∀x dx,H1 x=none->H1 dx=none->dx≠x->sp (.ref x::(vs++dvs)) (upd (upd H1 dx (.own x)) x (.ins C dx [])) (fun v H2=>v= .non/\Q (.ref x) H2) E
def Binds(K:Frag)(fd:FuncData)(ps:List Str)(ds:List Value):Prop:=∀s us,K.In s.heap->(us++ds).length=ps.length->BindsTo s fd ⟨us,[]⟩ (ps.zip (us++ds))
def Binds.all{K:Frag}(h:∀us:List Value,us.length=ps.length->bindArgs fd ⟨us,[]⟩=pure (ps.zip us)):Binds K fd ps []:=fun s us _ hl=>by
 rw[qK] at hl⊢;exact .of_eq (h us hl)
def kW(CX:FN)(X:Cx)(E:XK):Prop:=∀(pins:List (Addr × Obj)) (σ:St) (H:Hp) (s:Shared) (e:Value) (s':Shared),Inv X pins σ H s->CX X.stack H s E e s'->X.xe e s'
section
def zA{σ:St}(F:b_ X.prog X.w X.K X.mg X.base CX k f fd ps sp)(hr:Room k X.A)(hb:Binds X.K fd ps ds)(hd:Vals dvs ds)(hx:kW CX X E)(I:Inv X pins σ H s)(r:Vals vs us)(h:sp (vs++dvs) H Q E):wpAny (model X.prog X.w) X.A (call (.ref f) us) (EP X pins σ Q) X.xe s:=by
 have r2:Vals (vs++dvs) (us++ds):=r.append hd;have hl:(us++ds).length=ps.length:=by rw[<-r2.length];exact F.len _ _ _ _ h
 refine wpAny_call (Ar (F.run X.A X.stack s H ⟨us,[]⟩ (us++ds) (vs++dvs) Q E hr I.env0 (hb s us I.kIn hl) r2 h) fun r s' hq=> ?_);cases r with
 | error e=>exact hx pins σ H s e s' I hq
 | ok fl=>
   cases fl with
   | ret u=>exact I.after hq
   | next=>exact False.elim hq
   | brk=>exact False.elim hq
   | cont=>exact False.elim hq
def BI{X:Cx}{CX:FN}{k:Nat}{f:Addr}{fd:FuncData}{ps:List Str}{sp:Sp}{dvs:List V}{ds:List Value}{E:XK}{x:Str}{p pos:Pos}{e:Expr}{es:List Expr}{t:TA}(F:b_ X.prog X.w X.K X.mg X.base CX k f fd ps sp)(hr:Room k X.A)(hg:Gl X x)(hm:X.mg x=some (.ref f))(hk:keepIn X.K (.ref f)=true)(hb:Binds X.K fd ps ds)(hd:Vals dvs ds)(hx:kW CX X E)(ha:PA X (e::es) t)(hdb:(x==("__debug__":Str))=false:=by decide)(he:starEach (e::es) X.env=(false,eval e X.env)::starEach es X.env:=by rfl)(hpl:(backTo pos (starEach es X.env)).any (·.1)=false:=by rfl):PE X (.Call (.Name x p) (e::es) [] pos) (qS sp dvs E t):=by
 intro pins s σ H Q I h;refine iG (qF I hg hm ?_ hdb);refine yO (h₀:=X.base) I.ok.mod.kin hk (dt (ha pos pins s σ H _ I h) fun us s1 ⟨vs,H1,I1,r,q⟩=>⟨I1.kIn,?_⟩) he hpl;exact zA F hr hb hd hx I1 r q
def GE{X:Cx}{CX:FN}{k:Nat}{f C:Addr}{fd:FuncData}{ps:List Str}{sp:Sp}{dvs:List V}{ds:List Value}{E:XK}{m:Str}{pos apos:Pos}{e o:Expr}{es:List Expr}{ta:TE}{t:TA}{pl:Sem Bool}(he:PE X o ta)(c:Cls X.K C)(hm:Dc X.K C m f)(F:b_ X.prog X.w X.K X.mg X.base CX k f fd ps sp)(hr:Room k X.A)(hb:Binds X.K fd ps ds)(hd:Vals dvs ds)(hx:kW CX X E)(ha:PA X (e::es) t)(hst:starEach (e::es) X.env=(false,eval e X.env)::starEach es X.env:=by rfl)(hpl:(backTo pos (starEach es X.env)).any (·.1)=false:=by rfl)(ht:eval (.Call (.Attribute o m apos) (e::es) [] pos) X.env=(do
 let ov<-eval o X.env
 standAt apos.atName
 let(f,first)<-holding [ov] (getMethod ov m pl)
 callWith pos f first (backTo pos (starEach (e::es) X.env)) (backToKw pos (keywordEach [] X.env))):=by rfl):
 PE X (.Call (.Attribute o m apos) (e::es) [] pos) (AE C m sp dvs E ta t):=by
 intro pins s σ H Q I h;refine sW (pl:=pl) (dt (he pins s σ H _ I h) fun u s1 ⟨x,H1,I1,rx,q0⟩=> ?_) ht;obtain⟨a,ex,dx,fs,ea,l,q⟩:=onR.ex q0;subst ex;obtain rfl:u=Value.ref a:=rx;refine mO I1 ea c hm l ?_;refine yO (first:=[.ref a]) (h₀:=X.base) I.ok.mod.kin hm.kp (dt (ha pos pins s1 σ H1 _ I1 q) fun us s2 ⟨vs,H2,I2,r,q2⟩=>⟨I2.kIn,?_⟩) hst hpl;exact zA (us:= .ref a::us) (vs:= .ref a::vs) F hr hb hd hx I2 (.cons rfl r) q2
def D4{X:Cx}{CX:FN}{k:Nat}{f C:Addr}{fd:FuncData}{ps:List Str}{sp:Sp}{dvs:List V}{ds:List Value}{E:XK}{m:Str}{pos apos:Pos}{o:Expr}{ta:TE}{pl:Sem Bool}(he:PE X o ta)(c:Cls X.K C)(hm:Dc X.K C m f)(F:b_ X.prog X.w X.K X.mg X.base CX k f fd ps sp)(hr:Room k X.A)(hb:Binds X.K fd ps ds)(hd:Vals dvs ds)(hx:kW CX X E)(ht:eval (.Call (.Attribute o m apos) [] [] pos) X.env=(do
 let ov<-eval o X.env
 standAt apos.atName
 let(f,first)<-holding [ov] (getMethod ov m pl)
 callWith pos f first (backTo pos (starEach [] X.env)) (backToKw pos (keywordEach [] X.env))):=by rfl):
 PE X (.Call (.Attribute o m apos) [] [] pos) (AE C m sp dvs E ta gB):=by
 intro pins s σ H Q I h;refine sW (pl:=pl) (dt (he pins s σ H _ I h) fun u s1 ⟨x,H1,I1,rx,q0⟩=> ?_) ht;obtain⟨a,ex,dx,fs,ea,l,q⟩:=onR.ex q0;subst ex;obtain rfl:u=Value.ref a:=rx;refine mO I1 ea c hm l ?_;exact Oh (first:=[.ref a]) I1.kIn hm.kp (zA (us:=[.ref a]) (vs:=[.ref a]) F hr hb hd hx I1 (.cons rfl .nil) q)
structure Mk(K:Frag)(C f:Addr):Prop where
 makes:makesIn K C=true
 init:findIn K (.ref C) "__init__"=some (some (.ref f))
 fn:isFn K (.ref f)=true
 kp:keepIn K (.ref C)=true
def xw{σ:St}(M:Mk X.K C f)(F:b_ X.prog X.w X.K X.mg X.base CX k f fd ps sp)(hr:Room (k+1) X.A)(hb:Binds X.K fd ps ds)(hd:Vals dvs ds)(hx:kW CX X E)(I:Inv X pins σ H s)(r:Vals vs us)(h:∀x dx,H x=none->H dx=none->dx≠x->sp (.ref x::(vs++dvs)) (upd (upd H dx (.own x)) x (.ins C dx [])) (fun v H2=>v= .non/\Q (.ref x) H2) E):wpAny (model X.prog X.w) X.A (call (.ref C) us) (EP X pins σ Q) X.xe s:=by
 have hq:=h (s.heap.objs.size+1) s.heap.objs.size (I.hok.fresh (bA _)) (I.hok.fresh (au _)) (bJ (jF _));have I2:=Inv.made (C:=C) I;have r2:Vals (V.ref (s.heap.objs.size+1)::(vs++dvs)) (Value.ref (s.heap.objs.size+1)::(us++ds)):= .cons rfl (r.append hd);have hl:(Value.ref (s.heap.objs.size+1)::us++ds).length=ps.length:=by
  have e:=r2.length;rw[F.len _ _ _ _ hq] at e;exact e.symm
 refine wpAny_call (EE (f:=f) I.kIn M.makes M.init (lM.mp M.fn) (Ar (F.run _ X.stack _ _ ⟨Value.ref (s.heap.objs.size+1)::us,[]⟩ (Value.ref (s.heap.objs.size+1)::(us++ds)) _ _ E (hr.make C us []) (I2.env0.make C us []) (hb _ (Value.ref (s.heap.objs.size+1)::us) I2.kIn hl) r2 hq) fun r s' hq'=> ?_));cases r with
 | error e=>exact hx pins σ _ _ e s' I2 hq'
 | ok fl=>
   cases fl with
   | ret u=>
     obtain⟨v,H',I3,rv,ev,q3⟩:=I2.after hq';subst ev;exact⟨rv,⟨V.ref (s.heap.objs.size+1),H',I3,rfl,q3⟩⟩
   | next=>exact False.elim hq'
   | brk=>exact False.elim hq'
   | cont=>exact False.elim hq'
def GF{X:Cx}{CX:FN}{k:Nat}{f C:Addr}{fd:FuncData}{ps:List Str}{sp:Sp}{dvs:List V}{ds:List Value}{E:XK}{x:Str}{p pos:Pos}{e:Expr}{es:List Expr}{t:TA}(M:Mk X.K C f)(F:b_ X.prog X.w X.K X.mg X.base CX k f fd ps sp)(hr:Room (k+1) X.A)(hg:Gl X x)(hm:X.mg x=some (.ref C))(hb:Binds X.K fd ps ds)(hd:Vals dvs ds)(hx:kW CX X E)(ha:PA X (e::es) t)(hdb:(x==("__debug__":Str))=false:=by decide)(he:starEach (e::es) X.env=(false,eval e X.env)::starEach es X.env:=by rfl)(hpl:(backTo pos (starEach es X.env)).any (·.1)=false:=by rfl):PE X (.Call (.Name x p) (e::es) [] pos) (AF C sp dvs E t):=by
 intro pins s σ H Q I h;refine iG (qF I hg hm ?_ hdb);refine yO (h₀:=X.base) I.ok.mod.kin M.kp (dt (ha pos pins s σ H _ I h) fun us s1 ⟨vs,H1,I1,r,q⟩=>⟨I1.kIn,?_⟩) he hpl;exact xw M F hr hb hd hx I1 r q
def D5{X:Cx}{CX:FN}{k:Nat}{f C:Addr}{fd:FuncData}{ps:List Str}{sp:Sp}{dvs:List V}{ds:List Value}{E:XK}{x:Str}{p pos:Pos}(M:Mk X.K C f)(F:b_ X.prog X.w X.K X.mg X.base CX k f fd ps sp)(hr:Room (k+1) X.A)(hg:Gl X x)(hm:X.mg x=some (.ref C))(hb:Binds X.K fd ps ds)(hd:Vals dvs ds)(hx:kW CX X E)(hdb:(x==("__debug__":Str))=false:=by decide):PE X (.Call (.Name x p) [] [] pos) (AF C sp dvs E gB):=by
 intro pins s σ H Q I h;refine iG (qF I hg hm ?_ hdb);exact Oh I.kIn M.kp (xw (us:=[]) M F hr hb hd hx I .nil h)
end
section
end
structure bq(N P:List Str)(sc:Scope):Prop where
 kind:sc.kind= .function
 co:sc.isCoroutine=false
 gen:sc.isGenerator=false
 nd:N.Nodup
 pre:N.take P.length=P
 par:∀x∈P,sc.names.lookup x=some .local\/sc.names.lookup x=some .cell
 nofree:∀y∈sc.names,y.2≠ .free
theorem uM{kindOf:Str->Option NameKind}:∀{binds:List (Str × Value)} {m:Str->Option Value},(∀v,(x,v)∉binds)->bindL kindOf binds m x=m x
 | [],_,_=>rfl
 | (n,v)::r,m,h=>by
   unfold bindL;rw[uM fun w hw=>h w (aG _ hw)]
   split
   · have:x≠n:=by rintro rfl;exact h v aZ
     simp[this]
   · rfl
theorem uO{kindOf:Str->Option NameKind}:∀{binds:List (Str × Value)} {m:Str->Option Value},(∀v,(x,v)∉binds)->bindC kindOf binds m x=m x
 | [],_,_=>rfl
 | (n,v)::r,m,h=>by
   unfold bindC;rw[uO fun w hw=>h w (aG _ hw)]
   split
   · rfl
   · have:x≠n:=by rintro rfl;exact h v aZ
     simp[this]
theorem uN{kindOf:Str->Option NameKind}:∀{P:List Str} {vs:List Value} {i:Nat} {m:Str->Option Value},P.Nodup->P[i]? =some x->vs[i]? =some v->kindOf x=some .local->bindL kindOf (P.zip vs) m x=some v
 | [],_,_,_,_,h,_,_=>by simp at h
 | _::_,[],_,_,_,_,h,_=>by simp at h
 | p::P,w::vs,0,m,nd,h1,h2,hk=>by
   simp at h1 h2;subst h1;subst h2;show bindL kindOf ((p,w)::P.zip vs) m p=_;unfold bindL;rw[uM fun v hv=>(dv.mp nd).1 (FH hv).1,aH hk];simp
 | p::P,w::vs,i+1,m,nd,h1,h2,hk=>by
   show bindL kindOf ((p,w)::P.zip vs) m x=_;unfold bindL;exact uN (i:=i) (dv.mp nd).2 (by simpa using h1) (by simpa using h2) hk
theorem uP{kindOf:Str->Option NameKind}:∀{P:List Str} {vs:List Value} {i:Nat} {m:Str->Option Value},P.Nodup->P[i]? =some x->vs[i]? =some v->kindOf x≠some .local->bindC kindOf (P.zip vs) m x=some v
 | [],_,_,_,_,h,_,_=>by simp at h
 | _::_,[],_,_,_,_,h,_=>by simp at h
 | p::P,w::vs,0,m,nd,h1,h2,hk=>by
   simp at h1 h2;subst h1;subst h2;show bindC kindOf ((p,w)::P.zip vs) m p=_;unfold bindC;rw[uO fun v hv=>(dv.mp nd).1 (FH hv).1,aE hk];simp
 | p::P,w::vs,i+1,m,nd,h1,h2,hk=>by
   show bindC kindOf ((p,w)::P.zip vs) m x=_;unfold bindC;exact uP (i:=i) (dv.mp nd).2 (by simpa using h1) (by simpa using h2) hk
noncomputable def lW(N:List Str)(vs:List V):St:=vs.map some++List.replicate (N.length - vs.length) none
noncomputable def yC(CX:FN)(P:Program)(w:World)(K:Frag)(mg:Str->Option Value)(base:Heap)(N:List Str)(qual:Str)(scope:Scope)(f:Addr)(cd:Value)(A:Around)(outer:List Env)(s:Shared)(H:Hp)(E:XK):Cx where
 prog:=P
 w:=w
 K:=K
 mg:=mg
 base:=base
 A:=A.deeper (envOfC qual scope s.heap.objs.size f cd)
 N:=N
 s₀:=s
 H₀:=H
 env:=envOfC qual scope s.heap.objs.size f cd
 outer:=outer
 stack:=envOfC qual scope s.heap.objs.size f cd::outer
 ex:=[]
 calm:=true
 fn:=fun _=>true
 pn:=[]
 xe:=fun e s'=>wpAny (model P w) (A.deeper (envOfC qual scope s.heap.objs.size f cd)) (leaving (envOfC qual scope s.heap.objs.size f cd) e) (fun _ s''=>CX outer H s E e s'') (fun e' s''=>CX outer H s E e' s'') s'
def yG{sc:Scope}(h:sc.names.lookup x=some .cell):∃c,(cellsFrom n sc.names []).lookup x=some c:=by
 have q:=Mb sc.names n [] (.inl h);exact Ku.mp q
def CQ{K:Frag}(S:bq N ps scope)(hd:A.handled=none)(e0:Env0 P w K mg base A outer s H)(hl:vs.length=ps.length)(r:Vals vs us)(x:InCallC s s.heap.objs.size (bindL (envOfC qual scope s.heap.objs.size f cd).kindOf (ps.zip us) fun _=>none) (cellsFrom (s.heap.objs.size+1) scope.names []) (bindC (envOfC qual scope s.heap.objs.size f cd).kindOf (ps.zip us) fun _=>none) s1):Inv (yC CX P w K mg base N qual scope f cd A outer s H E) [] (lW N vs) H s1:=by
 have hpl:ps.length<=N.length:=by have:=congrArg List.length S.pre;rw[cJ] at this;lia
 obtain⟨h1,tk,rfl,hk⟩:=x.done;have noA:∀b:Addr,b∉(yC CX P w K mg base N qual scope f cd A outer s H E).ex:=fun b z=>absurd (show b∈([]:List Addr) from z) (by simp);refine⟨⟨e0.mod,S.kind,rfl,rfl,au _,fun y z c h1 h2=> ?_,fun y hy=> ?_,fun y c _ h=> ?_,fun _=>hd,Around.frames_deeper e0.frames,.inr ⟨rfl,rfl⟩,fun b z=>absurd z (noA b),e0.bs,e0.bsz,fun b _ _=>noA b,fun b z=>absurd z (noA b),e0.funs,e0.frf⟩,
  rfl,e0.bare,Un.kept hk,⟨_,x.toInCall.ns,fun i y v h1 h2 h3=> ?_⟩,fun y c h=>⟨_,x.cell y c h⟩,e0.hok.fresh (au _),fun y c h=> ?_,fun p hp=>absurd (show p∈([]:List (Addr × Obj)) from hp) (by simp),e0.hok.kept hk,?_⟩
 · exact name_of_addr x.apart (de h1) (de h2)
 · have hy:scope.names.lookup y=some .cell\/scope.names.lookup y=some .free:=hy;rcases hy with hy | hy
   · exact yG hy
   · exact absurd rfl (S.nofree _ (de hy))
 · exact fw (x.above y c (de h))
 · have hi:i<vs.length:=by
    unfold lW at h2;by_cases hi:i<vs.length
    · exact hi
    · rw[cy (by simpa using hi)] at h2;rw[pz] at h2
      split at h2<;>cases h2
   have ha:vs[i]? =some v:=by
    unfold lW at h2;rw[bM (by simpa using hi),aQ] at h2;cases e:vs[i]? with
    | none=>rw[e] at h2;cases h2
    | some a=>rw[e] at h2;cases h2;rfl
   obtain⟨u,hu,rv⟩:=r.get ha;have hp:ps[i]? =some y:=by
    rw[<-S.pre,List.getElem?_take_of_lt (by lia)];exact h1
   have ndP:ps.Nodup:=by rw[<-S.pre];exact S.nd.sublist (Pd _ _)
   refine⟨u,rv,?_⟩;rcases S.par y (ar hp) with k | k
   · exact .inl ⟨k,uN ndP hp hu k⟩
   · obtain⟨c,e⟩:=yG (n:=s.heap.objs.size+1) k;refine .inr ⟨.inl k,c,e,?_⟩;have q:=x.cell y c e;rw[uP ndP hp hu (by show scope.names.lookup y≠_;rw[k];decide)] at q;exact q
 · exact e0.hok.fresh (fw (x.above y c (de h)))
 · unfold lW;show _=N.length;rw[ag,ai,fk]
   lia
def IA{K:Frag}{kV:Value}(lk:K.lookup f=some ⟨oc,od,.func (fnOf name qual params body scope dV kV doc pm an cdv ct),osl⟩)(hcd:codeIn K cdv qual=true)(S:bq N ps scope)(len:∀vs H Q E,sp vs H Q E->vs.length=ps.length)(hbody:∀A outer s H vs Q E,Room k (A.deeper (envOfC qual scope s.heap.objs.size f cdv))->sp vs H Q E->∃t,PSs (yC CX P w K mg base N qual scope f cdv A outer s H E) body t/\t {nx:=fun _ H'=>Q .non H',rt:=Q} (lW N vs) H):b_ P w K mg base CX (k+1) f (fnOf name qual params body scope dV kV doc pm an cdv ct) ps sp:=by
 refine⟨len,fun A outer s H args us vs Q E hr e0 hb r hsp=> ?_⟩;have hl:=len _ _ _ _ hsp;have KX:K.In s.heap:=e0.mod.kin.keeps fun b o e=>(e0.bs b o e).1;have lim:s.heap.NoLimit:=e0.mod.nolimit.keeps fun b o e=>(e0.bs b o e).1;have hkind:∀y∈ps.zip us,scope.names.lookup y.1=some .local\/(scope.names.lookup y.1=some .cell/\((cellsFrom (s.heap.objs.size+1) scope.names []).lookup y.1).isSome=true):=fun⟨n,v⟩ hy=>by
  rcases S.par n (FH hy).1 with q | q
  · exact .inl q
  · exact .inr ⟨q,Mb _ _ _ (.inl q)⟩
 refine codeAny_call_function hr.depth (KX _ _ lk) rfl S.co S.gen rfl (PySem.W.codeRec_of KX hcd) (hb _ _ _ _ ?_);refine wpAny_newFunctionEnv_cells S.kind hkind fun env he s1 x=> ?_;subst he;refine⟨lim.keeps x.toInCall.keep,codeAny_func ?_⟩;obtain⟨t,ht,hq⟩:=hbody A outer s H vs Q E (hr.deeper _) hsp;have I:Inv (yC CX P w K mg base N qual scope f cdv A outer s H E) [] (lW N vs) H s1:=CQ S hr.hd e0 hl r x;refine cP (ht [] s1 (lW N vs) H _ I hq) (fun fl s' hs=> ?_) fun e s' hs=>hs;have fin:∀{σ':St} {H':Hp} {v:V} {u:Value},Inv (yC CX P w K mg base N qual scope f cdv A outer s H E) [] σ' H' s'->RelV v u->Q v H'->CE outer P w H s Q u s':=
  fun {σ' H' v u} J rv q=>⟨v,H',J.os,J.bare,J.base,J.hok,rv,q⟩
 cases fl with
 | ret u=>
   obtain⟨v,σ',H',J,rv,q⟩:=hs;exact fin J rv q
 | next=>
   obtain⟨σ',H',J,q⟩:=hs;exact fin (v:=V.non) (u:=Value.none) J rfl q
 | brk=>
   obtain⟨_,_,_,q⟩:=hs;exact False.elim q
 | cont=>
   obtain⟨_,_,_,q⟩:=hs;exact False.elim q
section
def Mx(r:List V->Hp->VK->Prop)(t:TA):TE:=fun σ H Q=>t σ H fun vs H1=>r vs H1 Q
def dB{X:Cx}{x:Str}{p pos:Pos}{e:Expr}{es:List Expr}{t:TA}{id:String}{r:List V->Hp->VK->Prop}(hc:me X (.builtin id) r)(hg:Gl X x)(hm:X.mg x=none)(hv:bootBuiltins x=some (.builtin id))(ha:PA X (e::es) t)(hn:x≠"__name__":=by decide)(hdb:(x==("__debug__":Str))=false:=by decide)(he:starEach (e::es) X.env=(false,eval e X.env)::starEach es X.env:=by rfl)(hpl:(backTo pos (starEach es X.env)).any (·.1)=false:=by rfl):PE X (.Call (.Name x p) (e::es) [] pos) (Mx r t):=by
 intro pins s σ H Q I h;refine iG (oX I hg hm hv ?_ hn hdb);exact PyProof.Rows.callWith_builtin1 (dt (ha pos pins s σ H _ I h) fun us s1 ⟨vs,H1,I1,r1,q1⟩=>hc pins s1 σ H1 vs us Q I1 r1 q1) he hpl
def fu{X:Cx}{x:Str}{p pos:Pos}{e:Expr}{es:List Expr}{t:TA}{T:String}{r:List V->Hp->VK->Prop}(hc:me X (.type T) r)(hg:Gl X x)(hm:X.mg x=none)(hv:bootBuiltins x=some (.type T))(ha:PA X (e::es) t)(hn:x≠"__name__":=by decide)(hdb:(x==("__debug__":Str))=false:=by decide)(he:starEach (e::es) X.env=(false,eval e X.env)::starEach es X.env:=by rfl)(hpl:(backTo pos (starEach es X.env)).any (·.1)=false:=by rfl):PE X (.Call (.Name x p) (e::es) [] pos) (Mx r t):=by
 intro pins s σ H Q I h;refine iG (oX I hg hm hv ?_ hn hdb);exact gE (dt (ha pos pins s σ H _ I h) fun us s1 ⟨vs,H1,I1,r1,q1⟩=>hc pins s1 σ H1 vs us Q I1 r1 q1) he hpl
end
end L2
namespace HT
open PySem PyProof.Rows
section
open PySem.SeqAt
open PySem.AutoSeq1 (wpAny_loadPart')
open PySem.MeetsSeq PySem.MeetsSeq2 PySem.MeetsSeq3
end
section
def cat_tup(ht:IsTup s.heap t vs.toArray)(hb:IsTup s.heap b ws.toArray)(hv:vs≠[])(h1:ws=[]->Q (.ref t) s)(h2:ws≠[]->Q (.ref s.heap.objs.size) {s with heap:=s.heap.push {cls:= .type "tuple",data:= .seq (vs++ws).toArray}})(hsz:vs.length+ws.length<=sizeLine):wpAny (model prog w) A (binaryOp .Add (.ref t) (.ref b)) Q E s:=by
 obtain⟨⟨cls,dd,data,sl⟩,ho,hc,n,hd⟩:=id ht;obtain⟨⟨cls2,dd2,data2,sl2⟩,ho2,hc2,n2,hd2⟩:=id hb;simp only at hc hd hc2 hd2;subst hc hd hc2 hd2;have e:vs.toArray++ws.toArray=(vs++ws).toArray:=by simp
 by_cases hw:ws=[]
 · exact concat_meets ⟨_,ho,rfl⟩ ⟨_,ho2,rfl⟩ noFill_tuple_add seq_tuple_add Mc KQ (Kt _ _) (tuple_addW1 t b vs.toArray ws.toArray n n2 dd dd2 sl sl2 (by simpa using hv) (by simp[hw])) ⟨ho,ho2,h1 hw⟩
 · refine concat_meets ⟨_,ho,rfl⟩ ⟨_,ho2,rfl⟩ noFill_tuple_add seq_tuple_add Mc KQ (Kt _ _) (tuple_addW2 t b vs.toArray ws.toArray n n2 dd dd2 sl sl2 (by simpa using hv) (by simpa using hw) (by rw[aM,aM];exact hsz)) ⟨ho,ho2,?_⟩;rw[e];exact h2 hw
noncomputable def sIx(n d:Nat):Option Int->Nat
 | none=>d
 | some v=>if v<0 then(v+(n:Int)).toNat else min v.toNat n
def sIx_nat(n d k:Nat):sIx n d (some (k:Int))=min k n:=by
 show(if(k:Int)<0 then((k:Int)+(n:Int)).toNat else min (k:Int).toNat n)=min k n;rw[aE (by lia),bW]
def sIx_le(n d:Nat)(hd:d<=n)(o:Option Int):sIx n d o<=n:=by
 cases o with
 | none=>exact hd
 | some v=>
   show(if v<0 then(v+(n:Int)).toNat else min v.toNat n)<=n;by_cases hv:v<0
   · rw[aH hv];lia
   · rw[aE hv];exact Nat.min_le_right _ _
def clip_eq(v:Int)(n d:Nat):(if v<0 then max (v+(n:Int)) 0 else min v (n:Int))=((sIx n d (some v):Nat):Int):=by
 show(if v<0 then max (v+(n:Int)) 0 else min v (n:Int))=(((if v<0 then(v+(n:Int)).toNat else min v.toNat n):Nat):Int);by_cases hv:v<0
 · simp only[aH hv];lia
 · simp only[aE hv];lia
def Au(lo hi:Option Int)(n:Nat):Builtin.Slice.sliceAdjust lo hi 1 (n:Int)=(((sIx n 0 lo:Nat):Int),((sIx n n hi:Nat):Int)):=by
 have h1:¬ ((1:Int)<0):=by lia
 unfold Builtin.Slice.sliceAdjust;simp only[h1,Hf];refine Prod.ext ?_ ?_
 · cases lo with
   | none=>rfl
   | some v=>exact clip_eq v n 0
 · cases hi with
   | none=>rfl
   | some v=>exact clip_eq v n n
def zH(i j:Nat):Builtin.Slice.slicePlaces (i:Int) (j:Int) 1=j - i:=by
 unfold Builtin.Slice.slicePlaces;have h1:(1:Int)>0:=by lia
 simp only[h1,kL,Int.ediv_one]
 split<;>lia
def rC(p:IsPart v o)(h:Q o s):wpAny (model prog w) A (Builtin.Slice.slicePartIndex v) Q E s:=by
 cases p with
 | none=>exact slicePart_none h
 | int i t=>exact slicePart_int h
def sliceApplied_gen{lo:Option Int}{n:Nat}(hs:s.heap.IsSliceOf sl vl vu .none)(pl:IsPart vl lo)(pu:IsPart vu hi)(h:Q (((sIx n 0 lo:Nat):Int),1,sIx n n hi - sIx n 0 lo) s):wpAny (model prog w) A (Builtin.Slice.sliceApplied (.ref sl) (pure (n:Int))) Q E s:=by
 obtain⟨os,hos,hcs,hds⟩:=id hs;unfold Builtin.Slice.sliceApplied Builtin.Slice.sliceFields;refine ae (ae (dD hos hds (x:=vl) rfl (ae (dD hos hds (x:=vu) rfl (ae (dD hos hds (x:= .none) rfl (aI ?_)))))));refine ae (slicePart_none ?_);show wpAny _ _ (if((1:Int)==0)=true then _ else _) _ _ s;rw[aE (by decide)];refine ae (rC pl (ae (rC pu (ae (aI ?_)))));show wpAny _ _ (match Builtin.Slice.sliceAdjust lo hi 1 (n:Int) with | (lo,hi)=>pure (lo,(1:Int),Builtin.Slice.slicePlaces lo hi 1)) _ _ s;rw[Au lo hi n];show wpAny _ _ (pure (((sIx n 0 lo:Nat):Int),(1:Int),Builtin.Slice.slicePlaces ((sIx n 0 lo:Nat):Int) ((sIx n n hi:Nat):Int) 1)) _ _ s;rw[zH];exact aI h
def DZ(xs:Array Value)(i k:Nat):((List.range k).filterMap fun(m:Nat)=>xs[((i:Int)+(m:Int) * 1).toNat]?).toArray=((xs.toList.drop i).take k).toArray:=by
 have e:(fun(m:Nat)=>xs[((i:Int)+(m:Int) * 1).toNat]?)=fun m=>xs[i+m]? :=by
  funext m
  have:((i:Int)+(m:Int) * 1).toNat=i+m:=by lia
  rw[this]
 rw[e];have:=pick_run xs i k;rw[O2] at this;have e2:((fun x=>xs[x]?)∘fun x=>i+x)=fun m=>xs[i+m]? :=rfl;rw[e2] at this;rw[this]
def getItem_tuple_cut{lo:Option Int}(ht:IsTup s.heap t items)(hs:s.heap.IsSliceOf sl vl vu .none)(pl:IsPart vl lo)(pu:IsPart vu hi)(hw:¬ (sIx items.size 0 lo=0/\sIx items.size items.size hi=items.size))(h:Q (.ref s.heap.objs.size) {s with heap:=s.heap.push {cls:= .type "tuple",data:= .seq ((items.toList.drop (sIx items.size 0 lo)).take (sIx items.size items.size hi - sIx items.size 0 lo)).toArray}})(hsz:items.size<=sizeLine):wpAny (model prog w) A (getItem (.ref t) (.ref sl)) Q E s:=by
 have htake:sizeOk (.seq ((items.toList.drop (sIx items.size 0 lo)).take (sIx items.size items.size hi - sIx items.size 0 lo)).toArray):=by
  show((items.toList.drop (sIx items.size 0 lo)).take (sIx items.size items.size hi - sIx items.size 0 lo)).toArray.size<=sizeLine;rw[aM,cJ,e_,j8]
  lia
 have hj:sIx items.size items.size hi<=items.size:=sIx_le _ _ (au _) hi;obtain⟨os,hos,hcs,hds⟩:=id hs;have hTs:s.TypeIs (.ref sl) "slice":=⟨os,hos,hcs⟩;unfold getItem
 try with_reducible refine dP ?_
 first | refine ae (aI ?_) | skip
 refine ae (O5 ht.typeIs (by decide) ?_);refine ae (eE (name:=Str.ofString "__getitem__") ht.typeIs cO (gX cO ht.typeIs Of ?_ (OT _ _)));show wpAny _ _ (Builtin.Tuple.tupleItemsOf (.ref t)>>=_) _ _ s;refine ae (tupleItemsOf_ ht ?_);refine ae (wpAny_typeOf hTs ?_);rw[aH (by decide)];refine ae (sliceApplied_gen hs pl pu ?_);have hno:¬ ((((sIx items.size 0 lo:Nat):Int)==0&&(1:Int)==1&&(sIx items.size items.size hi - sIx items.size 0 lo)==items.size)=true):=by
  intro q;rw[aO,aO] at q;have q1:((sIx items.size 0 lo:Nat):Int)=0:=eq_of_beq q.1.1;have q2:sIx items.size items.size hi - sIx items.size 0 lo=items.size:=eq_of_beq q.2;exact hw ⟨by lia,by lia⟩
 show wpAny _ _ (if(((sIx items.size 0 lo:Nat):Int)==0&&(1:Int)==1&&(sIx items.size items.size hi - sIx items.size 0 lo)==items.size)=true then _ else _) _ _ s;rw[aE hno,DZ]
 first
  | exact ae (m:=Builtin.Tuple.tupleExact _) (dQ (aI ⟨_,rfl,aI h⟩) htake)
  | exact ae (m:=Builtin.Tuple.tupleExact _) (dQ (ae (aI (aI ⟨_,rfl,aI h⟩))) htake)
  | exact ae (ae (m:=Builtin.Tuple.tupleExact _) (dQ (aI (aI ⟨_,rfl,aI h⟩)) htake))
  | exact ae (ae (m:=Builtin.Tuple.tupleExact _) (dQ (aI ⟨_,rfl,aI h⟩) htake))
end
end HT
namespace L2
open PySem PySem.Spec PyProof.Rows
abbrev TO:=St->Hp->(Option Int->Hp->Prop)->Prop
def PO(X:Cx)(e:Option Expr)(t:TO):Prop:=∀(pins:List (Addr × Obj)) (s:Shared) (σ:St) (H:Hp) (Q:Option Int->Hp->Prop),Inv X pins σ H s->t σ H Q->wpAny (model X.prog X.w) X.A (evalPart e X.env) (fun u s'=>∃o H',Inv X pins σ H' s'/\IsPart u o/\Q o H') X.xe s
def F3:TO:=fun _ H Q=>Q none H
def K1(t:TE):TO:=fun σ H Q=>t σ H fun x H1=>∃i,x= .int i/\Q (some i) H1
section
def eU:PO X none F3:=by
 intro pins s σ H Q I h;rw[evalPart_none];exact aI ⟨none,H,I,.none,h⟩
def ej(h:PE X e te):PO X (some e) (K1 te):=by
 intro pins s σ H Q I hw;rw[evalPart_some];refine dt (h pins s σ H _ I hw) fun u s1 ⟨x,H1,I1,r1,q1⟩=> ?_;obtain⟨i,rfl,q⟩:=q1;obtain⟨t,rfl⟩:=r1;exact⟨some i,H1,I1,.int i t,q⟩
def Ma(X:Cx)(r:V->Option Int->Option Int->Hp->VK->Prop):Prop:=∀(pins:List (Addr × Obj)) (s:Shared) (σ:St) (H:Hp) (x:V) (v vl vu:Value) (lo hi:Option Int) (sl:Addr) (Q:VK),Inv X pins σ H s->RelV x v->s.heap.IsSliceOf sl vl vu .none->IsPart vl lo->IsPart vu hi->r x lo hi H Q->∃T id,typeLookup (.type T) "__getitem__"=pure (some (.builtin id))/\s.TypeIs v T/\wpAny (model X.prog X.w) X.A (getItem v (.ref sl)) (EP X pins σ Q) X.xe s
def Oy(r:V->Option Int->Option Int->Hp->VK->Prop)(te:TE)(tl th:TO):TE:=fun σ H Q=>te σ H fun x H1=>tl σ H1 fun l H2=>th σ H2 fun u H3=>r x l u H3 Q
def dM{lo:Option Expr}(hr:Ma X r)(he:PE X e te)(hl:PO X lo tl)(hu:PO X hi th):PE X (.Subscript e (.Slice lo hi none p2) pos) (Oy r te tl th):=by
 intro pins s σ H Q I h;refine OU (dt (he pins s σ H _ I h) fun v s1 ⟨x,H1,I1,r1,q1⟩=> ?_);refine wpAny_Slice (dt (hl pins s1 σ H1 _ I1 q1) fun vl s2 ⟨l,H2,I2,pl,q2⟩=>dt (hu pins s2 σ H2 _ I2 q2) fun vu s3 ⟨u,H3,I3,pu,q3⟩=> ?_);rw[evalPart_none];refine aI ?_;have I4:Inv X pins σ H3 {s3 with heap:=s3.heap.push {cls:= .type "slice",data:= .fields #[vl,vu,.none]}}:=I3.kept (t':=s3.toks) fun b ob q=>aC _ q;obtain⟨T,id,hT,ht,hg⟩:=hr pins {s3 with heap:=s3.heap.push {cls:= .type "slice",data:= .fields #[vl,vu,.none]}} σ H3 x v vl vu l u s3.heap.objs.size Q I4 r1 (Heap.IsSliceOf.new ..) pl pu q3;show wpAny (model X.prog X.w) X.A (subscriptTail e (.Slice lo hi none p2) v (.ref s3.heap.objs.size)) (EP X pins σ Q) X.xe {s3 with heap:=s3.heap.push {cls:= .type "slice",data:= .fields #[vl,vu,.none]}};exact tail_any (ops:=[.ref s3.heap.objs.size,v]) ht hT hg (by with_unfolding_all rfl)
noncomputable def i_(xs:List V)(lo hi:Option Int):List V:=(xs.drop (HT.sIx xs.length 0 lo)).take (HT.sIx xs.length xs.length hi - HT.sIx xs.length 0 lo)
def pZ(xs:List V)(lo hi:Option Int):(i_ xs lo hi).length<=xs.length:=by
 unfold i_;rw[cJ,e_]
 lia
def Ng(K:Frag):V->Option Int->Option Int->Hp->VK->Prop:=fun x lo hi H Q=>∃a xs,x= .ref a/\SqT K H a xs/\¬ (HT.sIx xs.length 0 lo=0/\HT.sIx xs.length xs.length hi=xs.length)/\∀p,H p=none->Q (.ref p) (upd H p (.tup (i_ xs lo hi)))
def vh:Ma X (Ng X.K):=by
 intro pins s σ H x v vl vu lo hi sl Q I rx hs pl pu h;obtain⟨a,xs,rfl,hx,hw,q⟩:=h;cases rx;obtain⟨its,r,ht,hz⟩:=I.tuple hx;have hlen:its.toArray.size=xs.length:=by rw[aM];exact r.length.symm
 refine⟨"tuple",_,cO.lookup,ht.typeIs,?_⟩;refine HT.getItem_tuple_cut ht hs pl pu (by rw[hlen];exact hw) ?_ (by rw[hlen];exact hz);rw[hlen];refine⟨.ref s.heap.objs.size,_,I.laid (t':=s.toks) (o:= .tup (i_ xs lo hi)) (fun b ob q=>aC _ q) (au _) ?_,rfl,q _ (I.hok.fresh (au _))⟩;exact⟨aq (pZ xs lo hi) hz,_,(r.drop (HT.sIx xs.length 0 lo)).take (HT.sIx xs.length xs.length hi - HT.sIx xs.length 0 lo),IsTup.new _ _⟩
def Lr(K:Frag):R2:=fun x y H Q=>∃a b xs ys,x= .ref a/\y= .ref b/\SqT K H a xs/\SqT K H b ys/\xs≠[]/\xs.length+ys.length<=sizeLine/\(ys=[]->Q (.ref a) H)/\(ys≠[]->∀p,H p=none->Q (.ref p) (upd H p (.tup (xs++ys))))
def Vals.nil_iff(r:Vals xs us):us=[]↔xs=[]:=by
 cases r with
 | nil=>simp
 | cons _ _=>simp
def GJ:j4 X (binaryOp .Add) (Lr X.K):=by
 intro pins s σ H x y v u Q I rx ry h;obtain⟨a,b,xs,ys,rfl,rfl,ha,hb,hx,hz,q1,q2⟩:=h;cases rx;cases ry;obtain⟨its,r1,p1,_⟩:=I.tuple ha;obtain⟨its2,r2,p2,_⟩:=I.tuple hb;refine HT.cat_tup p1 p2 (fun z=>hx (r1.nil_iff.mp z)) (fun z=>⟨.ref a,H,I,rfl,q1 (r2.nil_iff.mp z)⟩) (fun z=> ?_) (by rw[<-r1.length,<-r2.length];exact hz);refine⟨.ref s.heap.objs.size,_,I.laid (t':=s.toks) (o:= .tup (xs++ys)) (fun b ob q=>aC _ q) (au _) ?_,rfl,q2 (fun w=>z (r2.nil_iff.mpr w)) _ (I.hok.fresh (au _))⟩;exact⟨by rw[ag];exact hz,_,r1.append r2,IsTup.new _ _⟩
end
noncomputable def Hd(n:Nat)(i:Int):Option Nat:=if 0<=i then(if i<n then some i.toNat else none) else if -(n:Int)<=i then some (i+n).toNat else none
noncomputable def tJ{α:Type}(xs:List α)(i:Int):Option α:=(Hd xs.length i).bind fun j=>xs[j]?
def BS(h:Hd n i=some j):seqIndex? i n=some j/\j<n/\ -(n:Int)<=i/\i<n:=by
 unfold Hd at h;by_cases h0:0<=i
 · rw[aH h0] at h;by_cases h1:i<n
   · rw[aH h1] at h;have e:i.toNat=j:=d3 h;exact⟨by rw[M_ h0 h1,e],by lia,by lia,h1⟩
   · rw[aE h1] at h;cases h
 · rw[aE h0] at h;by_cases h1: -(n:Int)<=i
   · rw[aH h1] at h;have e:(i+n).toNat=j:=d3 h;exact⟨by rw[Lh (by lia) h1,e],by lia,h1,by lia⟩
   · rw[aE h1] at h;cases h
def wy{v:α}(h:tJ xs i=some v):∃j,seqIndex? i xs.length=some j/\xs[j]? =some v/\j<xs.length/\ -(xs.length:Int)<=i/\i<xs.length:=by
 unfold tJ at h;cases e:Hd xs.length i with
 | none=>rw[e] at h;cases h
 | some j=>
   rw[e] at h;obtain⟨h1,h2,h3,h4⟩:=BS e;exact⟨j,h1,h,h2,h3,h4⟩
def aR{j:Nat}{v:α}(h:xs[j]? =some v):tJ xs (j:Int)=some v:=by
 have hj:j<xs.length:=(aY.mp h).1;have e:Hd xs.length (j:Int)=some j:=by
  unfold Hd;rw[aH (by lia),aH (by lia)];simp
 unfold tJ;rw[e];exact h
def B6(b:Expr):Prop:=∀o i,subscripted b false o i=operate [o,i] (getItem o i)
def Mn(X:Cx)(r:R2):Prop:=∀(value slice:Expr) (pins:List (Addr × Obj)) (s:Shared) (σ:St) (H:Hp) (x y:V) (v u:Value) (Q:VK),Inv X pins σ H s->RelV x v->RelV y u->r x y H Q->subscripted slice false v u=operate [v,u] (getItem v u)->wpAny (model X.prog X.w) X.A (subscriptTail value slice v u) (EP X pins σ Q) X.xe s
def MH(X:Cx)(id:String)(r:V->List V->Hp->VK->Prop):Prop:=∀(pins:List (Addr × Obj)) (s:Shared) (σ:St) (H:Hp) (x:V) (xs:List V) (v:Value) (us:List Value) (Q:VK),Inv X pins σ H s->RelV x v->Vals xs us->r x xs H Q->wpAny (model X.prog X.w) X.A (call (.builtin id) (v::us)) (EP X pins σ Q) X.xe s
section
def ji(hr:Mn X r)(ha:PE X a ta)(hb:PE X b tb)(hs:B6 b):PE X (.Subscript a b pos) (Dt r ta tb):=by
 intro pins s σ H Q I h;exact OU (Kk ha hb I h fun v u s2 x y H2 I2 rx ry q=>hr a b pins s2 σ H2 x y v u Q I2 rx ry q (hs _ _))
inductive DU(K:Frag)(H:Hp)(Q:VK)(p:Addr)(i:Int):Prop
 | mk:∀xs v,(SqL K H p xs)->(tJ xs i=some v)->(Q v H)->DU K H Q p i
def zF(K:Frag):R2:=fun x y H Q=>onR x fun p=>onI y fun i=>DU K H Q p i
inductive zE(K:Frag)(H:Hp)(Q:VK)(p:Addr)(i:Int):Prop
 | mk:∀xs v,(SqT K H p xs)->(tJ xs i=some v)->(Q v H)->zE K H Q p i
def Jg(K:Frag):R2:=fun x y H Q=>onR x fun p=>onI y fun i=>zE K H Q p i
def Nk:R2:=fun x y H Q=>∃z i c,x= .str z/\y= .int i/\z.length<=sizeLine/\tJ z.cps.toList i=some c/\Q (.str ⟨#[c]⟩) H
def bY:Mn X (zF X.K):=by
 intro value slice pins s σ H x y v u Q I rx ry h hs;obtain⟨p,rfl,h'⟩:=onR.ex h;obtain⟨i,rfl,xs,z,hq,he,q⟩:=onI.ex h';cases rx;obtain⟨t,rfl⟩:=ry;obtain⟨its,r,pl,hz⟩:=I.list hq;obtain⟨j,h1,h2,h3,h4,h5⟩:=wy he;obtain⟨w,ew,rw'⟩:=r.get h2;have hl:=r.length;have hn:=mN;have fin:EP X pins σ Q w s:=⟨z,H,I,rw',q⟩;by_cases h0:0<=i
 · have hj:i.toNat=j:=by
    rw[M_ h0 h5] at h1;exact d3 h1
   exact item_listR pl.isList h0 (by lia) (by rw[hj];simpa using ew) fin hs
 · have hj:(i+(its.toArray.size:Int)).toNat=j:=by
    rw[Lh (by lia) h4] at h1;rw[aM,<-hl];exact d3 h1
   exact K6 (x:=w) pl.isList.typeIs O9.lookup (wpAny_getItem_list_neg (Q:=fun r s'=>r=w/\EP X pins σ Q r s') pl.isList (by lia) (by rw[aM]<;>lia) (by lia) (by rw[hj];simpa using ew) ⟨rfl,fin⟩) hs
def iV:Mn X (Jg X.K):=by
 intro value slice pins s σ H x y v u Q I rx ry h hs;obtain⟨p,rfl,h'⟩:=onR.ex h;obtain⟨i,rfl,xs,z,hq,he,q⟩:=onI.ex h';cases rx;obtain⟨t,rfl⟩:=ry;obtain⟨its,r,pl,hz⟩:=I.tuple hq;obtain⟨j,h1,h2,h3,h4,h5⟩:=wy he;obtain⟨w,ew,rw'⟩:=r.get h2;have hl:=r.length;have hn:=mN;have fin:EP X pins σ Q w s:=⟨z,H,I,rw',q⟩;exact K6 (x:=w) pl.typeIs slot_tuple_getitem.lookup
  (getItem_tuple (j:=j) (Q:=fun r s'=>r=w/\EP X pins σ Q r s') pl (by lia) (by lia) (by rw[aM,<-hl];exact h1) (by simpa using ew) ⟨rfl,fin⟩) hs
def v_:Mn X Nk:=by
 intro value slice pins s σ H x y v u Q I rx ry h hs;obtain⟨z,i,c,rfl,rfl,hz,he,q⟩:=h;obtain⟨t,rfl⟩:=rx;obtain⟨t',rfl⟩:=ry;obtain⟨j,h1,h2,h3,h4,h5⟩:=wy he;have hl:z.cps.toList.length=z.length:=by simp[Str.length]
 rw[hl] at h1 h4 h5;have hn:=mN;exact tail_any (Ow s z t) slot_str_getitem.lookup (getItem_str (c:=c) (by
  have e1:decide (i< -(2^63:Int))=false:=aj (by lia);have e2:decide (i≥2^63)=false:=aj (by lia);rw[e1,e2,wJ]) (by rw[h1];simpa using h2) ⟨.str ⟨#[c]⟩,H,I.tok _,⟨_,rfl⟩,q⟩) hs
def Ab(its:List Value)(n j:Nat)(u:Value):Obj.mapSeq (·.setIfInBounds j u) {cls:= .type "list",data:= .seq its.toArray n}={cls:= .type "list",data:= .seq (its.set j u).toArray n}:=by
 simp[Obj.mapSeq]
def Inv.lst{X:Cx}{pins:List (Addr × Obj)}{σ:St}{H:Hp}{s:Shared}{p:Addr}{xs:List V}(I:Inv X pins σ H s)(h:H p=some (.lst xs)):∃its n,Vals xs its/\s.heap.get? p=some {cls:= .type "list",data:= .seq its.toArray n}/\xs.length<=sizeLine:=by
 obtain⟨z,its,n,r,e⟩:=I.hok p _ h;exact⟨its,n,r,e,z⟩
def Inv.lstUpd{σ:St}{its:List Value}(I:Inv X pins σ H s)(h:H p=some (.lst xs))(ho:s.heap.get? p=some {cls:= .type "list",data:= .seq its.toArray n})(hf:f {cls:= .type "list",data:= .seq its.toArray n}={cls:= .type "list",data:= .seq its'.toArray n'})(r:Vals ys its')(hz:ys.length<=sizeLine)(t:Nat):Inv X pins σ (upd H p (.lst ys)) {s with heap:=s.heap.update p f,toks:=t}:=by
 have e:(s.heap.update p f).get? p=some {cls:= .type "list",data:= .seq its'.toArray n'}:=by
  rw[sZ f ho (by rw[hf]<;>rfl),hf]
 refine I.write (x:=p) (e:=p) (by rw[h];trivial) (.inl rfl) (fun b u hb q=>(Mt _ _ (bI hb)).trans q) ⟨_,e⟩ ?_;exact⟨hz,its',n',r,e⟩
def Ln:V->V->V->Hp->(Hp->Prop)->Prop:=fun o i v H Q=>∃p xs k j,o= .ref p/\i= .int k/\H p=some (.lst xs)/\Hd xs.length k=some j/\Q (upd H p (.lst (xs.set j v)))
def rD:Me X Ln:=by
 intro pins s σ H o i v ov iv u Q I ro ri rv h;obtain⟨p,xs,k,j,rfl,rfl,hp,hj,q⟩:=h;cases ro;obtain⟨t,rfl⟩:=ri;obtain⟨its,n,r,ho,hz⟩:=I.lst hp;obtain⟨h1,h2,h3,h4⟩:=BS hj;have hl:=r.length;have hn:=mN;have I':Inv X pins σ (upd H p (.lst (xs.set j v))) {s with heap:=s.heap.update p (Obj.mapSeq (·.setIfInBounds j u))}:=
  I.lstUpd hp ho (Ab its n j u) (r.set rv j) (by rw[List.length_set];exact hz) s.toks
 by_cases h0:0<=k
 · have hk:k.toNat=j:=by
    rw[M_ h0 h4] at h1;exact d3 h1
   exact PySem.W.ki_setAt ho h0 (by lia) (by rw[aM,<-hl];exact h4) (by rw[hk];exact⟨_,I',q⟩)
 · have hk:(k+(its.toArray.size:Int)).toNat=j:=by
    rw[Lh (by lia) h3] at h1;rw[aM,<-hl];exact d3 h1
   exact PySem.W.ki_setBack ho (by lia) (by rw[aM,<-hl];exact h3) (by lia) (by rw[hk];exact⟨_,I',q⟩)
def vg(lo hi:Option Int)(n:Nat):(sliceBounds lo hi none n).1=((HT.sIx n 0 lo:Nat):Int)/\(sliceBounds lo hi none n).2.1=((HT.sIx n n hi:Nat):Int)/\(sliceBounds lo hi none n).2.2=1:=by
 refine⟨?_,?_,rfl⟩
 · cases lo with
   | none=>simp[sliceBounds,HT.sIx]
   | some i=>
     simp only[sliceBounds,HT.sIx,Option.getD_none,show(1:Int)>0 by decide,kL];by_cases h:i<0
     · simp only[h,kL]<;>lia
     · simp only[h,Hf]<;>lia
 · cases hi with
   | none=>simp[sliceBounds,HT.sIx]
   | some i=>
     simp only[sliceBounds,HT.sIx,Option.getD_none,show(1:Int)>0 by decide,kL];by_cases h:i<0
     · simp only[h,kL]<;>lia
     · simp only[h,Hf]<;>lia
def tz(its:List Value)(lo hi:Option Int):slicePick its.toArray lo hi none=((its.drop (HT.sIx its.length 0 lo)).take (HT.sIx its.length its.length hi - HT.sIx its.length 0 lo)).toArray:=by
 obtain⟨h1,h2,h3⟩:=vg lo hi its.toArray.size;unfold slicePick;rw[h1,h2,h3];simp only[sliceRange_one,pick_run,aM]<;>rfl
def Ni(K:Frag):V->Option Int->Option Int->Hp->VK->Prop:=fun x lo hi H Q=>∃a xs,x= .ref a/\SqL K H a xs/\∀p,H p=none->Q (.ref p) (upd H p (.lst (i_ xs lo hi)))
def nH:Ma X (Ni X.K):=by
 intro pins s σ H x v vl vu lo hi sl Q I rx hs pl pu h;obtain⟨a,xs,rfl,hx,q⟩:=h;cases rx;obtain⟨its,r,ht,hz⟩:=I.list hx;have hlen:=r.length;refine⟨"list",_,O9.lookup,ht.isList.typeIs,?_⟩;refine wpAny_getItem_list_slice ht.isList hs pl pu .none (by simp) ?_ (by rw[aM]<;>lia);rw[tz,<-hlen];refine⟨.ref s.heap.objs.size,_,I.laid (t':=s.toks) (o:= .lst (i_ xs lo hi)) (fun b ob q=>aC _ q) (au _) ?_,rfl,q _ (I.hok.fresh (au _))⟩;exact⟨aq (pZ xs lo hi) hz,_,0,(r.drop (HT.sIx xs.length 0 lo)).take (HT.sIx xs.length xs.length hi - HT.sIx xs.length 0 lo),bf _ rfl⟩
noncomputable def kP:V->Bool
 | .non=>true
 | .bl _=>true
 | .int _=>true
 | .str _=>true
 | _=>false
noncomputable def Dg:V->V->Bool
 | .non,.non=>true
 | .bl a,.bl b=>a==b
 | .bl a,.int b=>(if a then 1 else 0)==b
 | .int a,.bl b=>a==(if b then 1 else 0)
 | .int a,.int b=>a==b
 | .str a,.str b=>a==b
 | _,_=>false
def Kb(ry:RelV y u)(rx:RelV x v)(fy:kP y=true)(fx:kP x=true):SeqAt.EqAt A s u v (Dg y x):=by
 cases y with
 | non=>
   cases ry;cases x with
   | non=>cases rx;exact SeqAt.EqAt.same _
   | bl b=>cases rx;exact SeqAt.EqAt.none_bool b
   | int b=>obtain⟨t,rfl⟩:=rx;exact SeqAt.EqAt.none_int b t
   | str b=>obtain⟨t,rfl⟩:=rx;exact SeqAt.EqAt.none_str b t
   | _=>exact absurd (show false=true from fx) bh
 | bl a=>
   cases ry;cases x with
   | non=>cases rx;exact SeqAt.EqAt.bool_none a
   | bl b=>cases rx;exact SeqAt.EqAt.bool_bool a b
   | int b=>obtain⟨t,rfl⟩:=rx;exact SeqAt.EqAt.bool_int a b t
   | str b=>obtain⟨t,rfl⟩:=rx;exact SeqAt.EqAt.bool_str a b t
   | _=>exact absurd (show false=true from fx) bh
 | int a=>
   obtain⟨t',rfl⟩:=ry;cases x with
   | non=>cases rx;exact SeqAt.EqAt.int_none a t'
   | bl b=>cases rx;exact SeqAt.EqAt.int_bool a t' b
   | int b=>obtain⟨t,rfl⟩:=rx;exact SeqAt.EqAt.int_int a t' b t
   | str b=>obtain⟨t,rfl⟩:=rx;exact OW a t' b t
   | _=>exact absurd (show false=true from fx) bh
 | str a=>
   obtain⟨t',rfl⟩:=ry;cases x with
   | non=>cases rx;exact SeqAt.EqAt.str_none a t'
   | bl b=>cases rx;exact SeqAt.EqAt.str_bool a t' b
   | int b=>obtain⟨t,rfl⟩:=rx;exact OV a t' b t
   | str b=>obtain⟨t,rfl⟩:=rx;exact SeqAt.EqAt.str_str a t' b t
   | _=>exact absurd (show false=true from fx) bh
 | _=>exact absurd (show false=true from fy) bh
noncomputable def Ap(x:V)(u:Value):Bool:=match u with
 | .none=>Dg .non x
 | .bool b=>Dg (.bl b) x
 | .int i _=>Dg (.int i) x
 | .str z _=>Dg (.str z) x
 | _=>false
def Fg(r:RelV y u)(f:kP y=true):Ap x u=Dg y x:=by
 cases y with
 | non=>cases r;rfl
 | bl b=>cases r;rfl
 | int i=>obtain⟨t,rfl⟩:=r;rfl
 | str z=>obtain⟨t,rfl⟩:=r;rfl
 | _=>exact absurd (show false=true from f) bh
theorem n_:∀{xs:List V} {us:List Value},Vals xs us->xs.all kP=true->us.any (Ap x)=xs.any fun y=>Dg y x
 | _,_,.nil,_=>rfl
 | y::xs,u::us,.cons r t,f=>by
   rw[fD,aO] at f;rw[ir,ir,Fg r f.1,n_ t f.2]
theorem kG(rx:RelV x v)(fx:kP x=true):∀{xs:List V} {us:List Value},Vals xs us->xs.all kP=true->∀u∈us,SeqAt.EqAt A s u v (Ap x u)
 | _,_,.nil,_=>fun u hu=>by cases hu
 | y::xs,u::us,.cons r t,f=>fun u' hu=>by
   rw[fD,aO] at f;rcases aL.mp hu with rfl | hu
   · rw[Fg r f.1];exact Kb r rx f.1 fx
   · exact kG rx fx t f.2 u' hu
noncomputable def yS(x:V)(xs:List V):Bool:=xs.any fun y=>Dg y x
def Nl(K:Frag)(neg:Bool):R2:=fun x y H Q=>∃p xs,y= .ref p/\(SqL K H p xs\/SqT K H p xs)/\kP x=true/\xs.all kP=true/\Q (.bl (if neg then !yS x xs else yS x xs)) H
def uD:j4 X (compareOp .In) (Nl X.K false):=by
 intro pins s σ H x y v u Q I rx ry h;obtain⟨p,xs,rfl,hq,fx,fs,q⟩:=h;cases ry;rcases hq with hq | hq
 · obtain⟨its,r,pl,hz⟩:=I.list hq;refine SeqAt.in_listAt (Ap x) pl.isList (fun w hw=>kG rx fx r fs w (by simpa using hw)) ⟨.bl _,H,I,rfl,?_⟩;rw[show its.toArray.any (Ap x)=its.any (Ap x) by simp,n_ r fs];exact q
 · obtain⟨its,r,pl,hz⟩:=I.tuple hq;refine SeqAt.in_tupleAt (Ap x) pl (fun w hw=>kG rx fx r fs w (by simpa using hw)) ⟨.bl _,H,I,rfl,?_⟩;rw[show its.toArray.any (Ap x)=its.any (Ap x) by simp,n_ r fs];exact q
def iJ:j4 X (compareOp .NotIn) (Nl X.K true):=by
 intro pins s σ H x y v u Q I rx ry h;obtain⟨p,xs,rfl,hq,fx,fs,q⟩:=h;cases ry;rcases hq with hq | hq
 · obtain⟨its,r,pl,hz⟩:=I.list hq;refine SeqAt.notIn_listAt (Ap x) pl.isList (fun w hw=>kG rx fx r fs w (by simpa using hw)) ⟨.bl _,H,I,rfl,?_⟩;rw[show its.toArray.any (Ap x)=its.any (Ap x) by simp,n_ r fs];exact q
 · obtain⟨its,r,pl,hz⟩:=I.tuple hq;refine SeqAt.notIn_tupleAt (Ap x) pl (fun w hw=>kG rx fx r fs w (by simpa using hw)) ⟨.bl _,H,I,rfl,?_⟩;rw[show its.toArray.any (Ap x)=its.any (Ap x) by simp,n_ r fs];exact q
def jU:me X (.builtin "len") (fun xs H Q=>∃p ys,xs=[.ref p]/\(SqL X.K H p ys\/SqT X.K H p ys)/\Q (.int ys.length) H):=by
 intro pins s σ H xs us Q I r h;obtain⟨p,ys,rfl,hq,q⟩:=h;obtain⟨u,rfl,rx⟩:=Dk r;cases rx;have hn:=mN;rcases hq with hq | hq
 · obtain⟨its,r',pl,hz⟩:=I.list hq;have hlen:=r'.length;exact Calls.call_len_list pl.isList (by simp only[aM]<;>lia) ⟨.int ys.length,H,I.tok _,⟨s.toks+1,by rw[aM,hlen]⟩,q⟩
 · obtain⟨its,r',pl,hz⟩:=I.tuple hq;have hlen:=r'.length;exact len_tuple pl (by simp only[aM]<;>lia) ⟨.int ys.length,H,I.tok _,⟨s.toks+1,by rw[aM,hlen]⟩,q⟩
def wq:me X (.builtin "len") (fun xs H Q=>∃z,xs=[.str z]/\z.length<=sizeLine/\Q (.int z.length) H):=by
 intro pins s σ H xs us Q I r h;obtain⟨z,rfl,hz,q⟩:=h;obtain⟨u,rfl,t,rfl⟩:=Dk r;have hn:=mN;exact len_str (by lia) ⟨.int z.length,H,I.tok _,⟨_,rfl⟩,q⟩
def gN:me X (.type "list") (fun xs H Q=>∃p ys,xs=[.ref p]/\(SqL X.K H p ys\/SqT X.K H p ys)/\∀l,H l=none->Q (.ref l) (upd H l (.lst ys))):=by
 intro pins s σ H xs us Q I r h;obtain⟨p,ys,rfl,hq,q⟩:=h;obtain⟨u,rfl,rx⟩:=Dk r;cases rx;have fin:∀(its:List Value),Vals ys its->ys.length<=sizeLine->∀(h':Heap) (c':Nat),(∀b o',s.heap.get? b=some o'->h'.get? b=some o')->
  h'.get? s.heap.objs.size=some {cls:= .type "list",dict:=none,data:= .seq its.toArray c',slots:= #[]}->EP X pins σ Q (.ref s.heap.objs.size) {s with heap:=h'}:=fun its r' hz h' c' kp e=>
  ⟨.ref s.heap.objs.size,_,I.laid (t':=s.toks) kp (au _) (show ObjOk X.prog X.w _ h' _ (.lst ys) from⟨hz,its,c',r',e⟩),rfl,q _ (I.hok.fresh (au _))⟩
 rcases hq with hq | hq
 · obtain⟨its,r',pl,hz⟩:=I.list hq;have hlen:=r'.length;obtain⟨o,ho,hc,n,hd⟩:=pl.isList;exact call_list_seq p (.inl rfl) ho hc hd (fun h' c' kp e=>fin its r' hz h' c' kp e) (by simp only[aM]<;>lia)
 · obtain⟨its,r',pl,hz⟩:=I.tuple hq;have hlen:=r'.length;obtain⟨o,ho,hc,n,hd⟩:=pl;exact call_list_seq p (.inr rfl) ho hc hd (fun h' c' kp e=>fin its r' hz h' c' kp e) (by simp only[aM]<;>lia)
def MQ(K:Frag)(T:String)(x:V)(H:Hp):Prop:=match x with
 | .str _=>T="str"
 | .int _=>T="int"
 | .ref p=>(T="list"/\∃xs,SqL K H p xs)\/(T="tuple"/\∃o,K.lookup p=some o/\o.cls= .type "tuple"/\o.dict=none)\/(T="dict"/\((∃kvs,H p=some (.dK kvs))\/∃kvs,H p=some (.dT kvs)))\/(T="set"/\∃S n,H p=some (.set S n))
 | _=>False
def Dm{σ:St}(I:Inv X pins σ H s)(r:RelV x v)(ty:MQ X.K T x H):s.TypeIs v T/\∀a,v= .ref a->∃ob,s.heap.get? a=some ob/\ob.dict=none:=by
 cases x with
 | str z=>
   obtain⟨t,rfl⟩:=r;cases(show T="str" from ty);exact⟨Ow s z t,fun _ e=>nomatch e⟩
 | int i=>
   obtain⟨t,rfl⟩:=r;cases(show T="int" from ty);exact⟨typeIs_int s i t,fun _ e=>nomatch e⟩
 | ref p=>
   cases r;rcases ty with⟨rfl,xs,hq⟩ | ⟨rfl,o,hk,hc,hd⟩ | ⟨rfl,hk⟩ | ⟨rfl,S,n,hk⟩
   · obtain⟨its,_,pl,_⟩:=I.list hq;refine⟨pl.isList.typeIs,fun a e=> ?_⟩;cases e;obtain⟨o,n,e,c,hd,_⟩:=pl;exact⟨o,e,hd⟩
   · refine⟨⟨o,I.kIn p o hk,hc⟩,fun a e=> ?_⟩;cases e;exact⟨o,I.kIn _ o hk,hd⟩
   · have z:∃o,s.heap.get? p=some o/\o.ExactDict:=by
      rcases hk with⟨kvs,hk⟩ | ⟨kvs,hk⟩
      · obtain⟨_,_,_,_,o,_,_,e,ex,_⟩:=I.hok p _ hk;exact⟨o,e,ex⟩
      · obtain⟨_,_,_,_,o,_,_,e,ex,_⟩:=I.hok p _ hk;exact⟨o,e,ex⟩
     obtain⟨o,e,ex⟩:=z;refine⟨⟨o,e,ex.1⟩,fun a e2=> ?_⟩;cases e2;exact⟨o,e,ex.2.1⟩
   · obtain⟨o,_,_,_,e,ex,_⟩:=I.hok p _ hk;refine⟨⟨o,e,ex.1⟩,fun a e2=> ?_⟩;cases e2;exact⟨o,e,ex.2.1⟩
 | _=>exact False.elim ty
def M0(K:Frag)(T:String)(r:V->List V->Hp->VK->Prop)(to:TE):TE:=fun σ H Q=>to σ H fun x H1=>MQ K T x H1/\r x [] H1 Q
def N2(K:Frag)(T:String)(r:V->List V->Hp->VK->Prop)(to:TE)(t:TA):TE:=fun σ H Q=>to σ H fun x H1=>MQ K T x H1/\t σ H1 fun xs H2=>r x xs H2 Q
def zK{X:Cx}{o:Expr}{to:TE}{name:Str}{apos cpos:Pos}{T id:String}{r:V->List V->Hp->VK->Prop}(pa:PlainAttrs T)(slot:Slot T name id)(hty:typeOf (.builtin id)=pure (.type "method_descriptor"))(hm:MH X id r)(ho:PE X o to)(hbase:attributeBase o name X.env (eval o X.env)=eval o X.env:=by rfl)(hline:(apos.endLine==cpos.line)=true:=by rfl):PE X (.Call (.Attribute o name apos) [] [] cpos) (M0 X.K T r to):=by
 intro pins s σ H Q I h;refine wpAny_Call_method0_late hbase hline (dt (ho pins s σ H _ I h) fun v s1 ⟨x,H1,I1,r1,ty,q1⟩=> ?_);obtain⟨h1,h2⟩:=Dm I1 r1 ty;exact⟨T,id,pa,slot,hty,h1,h2,jd rfl (PySem.evalArgs_none (hm pins s1 σ H1 x [] v [] Q I1 r1 .nil q1))⟩
def Lv{X:Cx}{o e:Expr}{es:List Expr}{to:TE}{t:TA}{name:Str}{apos cpos:Pos}{T id:String}{r:V->List V->Hp->VK->Prop}(pa:PlainAttrs T)(slot:Slot T name id)(hty:typeOf (.builtin id)=pure (.type "method_descriptor"))(hm:MH X id r)(ho:PE X o to)(ha:PA X (e::es) t)(hbase:attributeBase o name X.env (eval o X.env)=eval o X.env:=by rfl)(hfew:((backTo cpos (starEach (e::es) X.env)).all (fun x=> !x.1)&&(backToKw cpos (keywordEach [] X.env)).all (fun x=>x.1.isSome)&&decide ((e::es).length+([]:List Keyword).length+(if([]:List Keyword).isEmpty then 0 else 1)<30))=true:=by rfl) (hline:(apos.endLine==cpos.line)=true:=by rfl) (hs:starEach (e::es) X.env=(false,eval e X.env)::starEach es X.env:=by rfl) (hplain:(backTo cpos (starEach es X.env)).any (·.1)=false:=by rfl):PE X (.Call (.Attribute o name apos) (e::es) [] cpos) (N2 X.K T r to t):=by
 intro pins s σ H Q I h;refine wpAny_Call_method_late hbase hfew hline rfl (dt (ho pins s σ H _ I h) fun v s1 ⟨x,H1,I1,r1,ty,q1⟩=> ?_);obtain⟨h1,h2⟩:=Dm I1 r1 ty;refine⟨T,id,pa,slot,hty,h1,h2,?_⟩;have hA:=ha cpos pins s1 σ H1 _ I1 q1;rw[hs] at hA⊢;refine jd (by show(false || (backTo cpos (starEach es X.env)).any (·.1))=false;rw[hplain]<;>rfl) (tQ ?_);exact dt hA fun us s2 ⟨vs,H2,I2,r2,q2⟩=>hm pins s2 σ H2 x vs v us Q I2 r1 r2 q2
/- xs.append(e), list.index on a module's tuple .. are MtR facts of 06m -/
end
def NQ(X:Cx)(id:String)(r:V->List V->Hp->VK->Prop):Prop:=∀(pins:List (Addr × Obj)) (s:Shared) (σ:St) (H:Hp) (x:V) (xs:List V) (v:Value) (us:List Value) (Q:VK),Inv X pins σ H s->RelV x v->Vals xs us->r x xs H Q->wpAny (model X.prog X.w) X.A (call (.builtin id) (v::us)) (EP X pins σ Q) X.xe s
theorem Vals.one:∀{x:V} {us:List Value},Vals [x] us->∃u,us=[u]/\RelV x u
 | _,_,.cons r .nil=>⟨_,rfl,r⟩
theorem Vals.two:∀{x y:V} {us:List Value},Vals [x,y] us->∃u v,us=[u,v]/\RelV x u/\RelV y v
 | _,_,_,.cons r (.cons q .nil)=>⟨_,_,rfl,r,q⟩
theorem Vals.zero:∀{us:List Value},Vals [] us->us=[]
 | _,.nil=>rfl
def Vals.dropLast(h:Vals xs us):Vals xs.dropLast us.dropLast:=by
 induction h with
 | nil=>exact .nil
 | cons r t ih=>
   cases t with
   | nil=>exact .nil
   | cons q t'=>exact .cons r ih
def Ao{α:Type}(l:List α):l.eraseIdx (l.length - 1)=l.dropLast:=by
 induction l with
 | nil=>rfl
 | cons a r ih=>
   cases r with
   | nil=>rfl
   | cons b r=>
     have e:(a::b::r).length - 1=((b::r).length - 1)+1:=by
      have h1:(a::b::r).length=r.length+2:=rfl;have h2:(b::r).length=r.length+1:=rfl
      lia
     rw[e,List.eraseIdx_cons_succ,ih]
     all_goals rfl
section
def Inv.lset{σ:St}{its:List Value}(I:Inv X pins σ H s)(hH:H l=some (.lst xs))(e:s.heap.get? l=some {cls:= .type "list",data:= .seq its.toArray n})(hf:f its.toArray=its'.toArray)(hv:Vals ys its')(hz:ys.length<=sizeLine):Inv X pins σ (upd H l (.lst ys)) {s with heap:=s.heap.update l (Obj.mapSeq f),toks:=t'}:=by
 have q:=PySem.IsL.update e f;rw[hf] at q;refine I.write (x:=l) (e:=l) (by rw[hH];exact trivial) (.inl rfl) (fun b' u hb hu=>(Mt s.heap (Obj.mapSeq f) (bI hb)).trans hu) ⟨_,q⟩ ?_;exact⟨hz,its',_,hv,q⟩
def Inv.lnew{σ:St}(I:Inv X pins σ H s)(hv:Vals ys its)(hz:ys.length<=sizeLine):Inv X pins σ (upd H s.heap.objs.size (.lst ys)) {s with heap:=s.heap.push {cls:= .type "list",data:= .seq its.toArray},toks:=t'}:=I.laid (fun _ _ q=>aC _ q) (au _) ⟨hz,its,0,hv,bf _ rfl⟩
def Inv.fresh{σ:St}(I:Inv X pins σ H s):H s.heap.objs.size=none:=I.hok.fresh (au _)
def Inv.lstM{σ:St}(I:Inv X pins σ H s)(hH:H l=some (.lst xs)):xs.length<=sizeLine/\∃its n,Vals xs its/\xs.length=its.length/\s.heap.get? l=some {cls:= .type "list",data:= .seq its.toArray n}:=by
 obtain⟨z,its,n,r,e⟩:=I.hok l _ hH;exact⟨z,its,n,r,r.length,e⟩
def Eu(h:n<=sizeLine):Builtin.List.listTooLong n=false:=by
 unfold Builtin.List.listTooLong;exact aj (by lia)
end
section
def Bn:V->List V->Hp->VK->Prop:=fun x vs H Q=>onR x fun l=>match vs with | [y]=>∃xs,H l=some (.lst xs)/\xs.length<sizeLine/\Q .non (upd H l (.lst (xs++[y]))) | _=>False
def uE:NQ X "list.append" Bn:=by
 intro pins s σ H x vs v us Q I rx rv h;obtain⟨l,rfl,h'⟩:=onR.ex h;obtain⟨y,rfl,xs,hH,hz,q⟩:∃y,vs=[y]/\∃xs,H l=some (.lst xs)/\xs.length<sizeLine/\Q .non (upd H l (.lst (xs++[y]))):=by
  split at h'
  · exact⟨_,rfl,h'⟩
  · exact h'.elim
 cases rx;obtain⟨u,rfl,ru⟩:=rv.one;obtain⟨z,its,n,r,hl,e⟩:=I.lstM hH;refine OS F.slot_list_append ⟨_,e,rfl⟩ F.entry_list_append (F.args_list_append_2 _ _) (PySem.list_append l its.toArray n u (by rw[aM];lia)) ⟨e,?_⟩;refine⟨.non,_,I.lset (its':=its++[u]) hH e (by simp) (r.append (.cons ru .nil)) ?_,rfl,q⟩;rw[ag,MI]
 lia
def Gq:V->List V->Hp->VK->Prop:=fun x vs H Q=>∃l b xs zs,x= .ref l/\vs=[.ref b]/\H l=some (.lst xs)/\H b=some (.lst zs)/\xs.length+zs.length<=sizeLine/\Q .non (upd H l (.lst (xs++zs)))
def KG:NQ X "list.extend" Gq:=by
 intro pins s σ H x vs v us Q I rx rv h;obtain⟨l,b,xs,zs,rfl,rfl,hH,hB,hz,q⟩:=h;cases rx;obtain⟨u,rfl,ru⟩:=rv.one;cases ru;obtain⟨z,its,n,r,hl,e⟩:=I.lstM hH;obtain⟨z2,its2,n2,r2,hl2,e2⟩:=I.lstM hB;have hsz:its.toArray.size+its2.toArray.size<=sizeLine:=by rw[aM,aM];lia
 have hlong:¬ (!its.toArray.isEmpty&&Builtin.List.listTooLong (its.toArray.size+its2.toArray.size))=true:=by
  rw[Eu hsz,lU];exact bh
 refine OS F.slot_list_extend ⟨_,e,rfl⟩ F.entry_list_extend (F.args_list_extend_2 _ _) (AutoSeq1.list_extend_list_list_0 l its.toArray n b its2.toArray n2 hlong (by rw[aM];lia) (by lia)) ⟨e,e2,?_⟩;refine⟨.non,_,I.lset (its':=its++its2) hH e (by simp) (r.append r2) ?_,rfl,q⟩;rw[ag]
 lia
def Nj:V->List V->Hp->VK->Prop:=fun x vs H Q=>∃l xs y,x= .ref l/\vs=[]/\H l=some (.lst xs)/\xs[xs.length - 1]? =some y/\Q y (upd H l (.lst xs.dropLast))
def JG:NQ X "list.pop" Nj:=by
 intro pins s σ H x vs v us Q I rx rv h;obtain⟨l,xs,y,rfl,rfl,hH,hy,q⟩:=h;cases rx;have hus:=rv.zero;subst hus;obtain⟨z,its,n,r,hl,e⟩:=I.lstM hH;obtain⟨u,hu,ru⟩:=r.get hy;have hy':its.toArray[its.toArray.size - 1]? =some u:=by
  show its.toArray[its.length - 1]? =some u;rw[<-Array.getElem?_toList,<-hl];exact hu
 refine OS F.slot_list_pop ⟨_,e,rfl⟩ F.entry_list_pop (F.args_list_pop_1 _) (MeetsSeq.list_pop_last l its.toArray n u hy' (by rw[aM];lia)) ⟨e,?_⟩;refine⟨y,_,I.lset (its':=its.dropLast) hH e ?_ r.dropLast ?_,ru,q⟩
 · show its.toArray.eraseIdxIfInBounds (its.toArray.size - 1)=its.dropLast.toArray;rw[aM,List.eraseIdxIfInBounds_toArray,Ao]
 · rw[jW]
   lia
def Nm:R2:=fun x y H Q=>∃l b xs zs,x= .ref l/\y= .ref b/\H l=some (.lst xs)/\H b=some (.lst zs)/\xs.length+zs.length<=sizeLine/\∀p,H p=none->Q (.ref p) (upd H p (.lst (xs++zs)))
def oS:j4 X (binaryOp .Add) Nm:=by
 intro pins s σ H x y v u Q I rx ry h;obtain⟨l,b,xs,zs,rfl,rfl,hH,hB,hz,q⟩:=h;cases rx;cases ry;obtain⟨z,its,n,r,hl,e⟩:=I.lstM hH;obtain⟨z2,its2,n2,r2,hl2,e2⟩:=I.lstM hB;refine PySem.P.add_list e e2 ?_ (by rw[aM,aM];lia);have ea:its.toArray++its2.toArray=(its++its2).toArray:=by simp
 rw[ea];exact⟨.ref _,_,I.lnew (t':=s.toks) (r.append r2) (by rw[ag];lia),rfl,q _ I.fresh⟩
end
section
end
section
end
end L2
namespace Att
open PySem PySem.W PySem.Calls PyProof.Rows
def qd:∀ns vs,WellAll P h vs (ns.map WData.int)->IntsAre vs ns:=by
 intro ns
 induction ns with
 | nil=>
   intro vs w;rw[Mi] at w;cases w;exact .nil
 | cons n ns ih=>
   intro vs w;rw[bQ] at w;cases w with
   | cons a b=>
     cases a;exact .cons _ _ (ih _ b)
def Cg{l:OpenLaw}{n:Nat}(hn:l.most=some n){P:Params}{h:Heap}{args:List WData}{vals:List Value}(hpre:l.row.toRowW.claim.pre args=true)(hwl:WellAll P h vals args):∃a vs ns,vals=[Value.ref a]/\args=[WData.list (ns.map WData.int)]/\h.get? a=some {cls:= .type "list",data:= .seq vs.toArray}/\IntsAre vs ns/\ns.length<=n:=by
 have hsh:WShape.hasAll [] args [.list .int]=true:=(pre_splitW hpre).1;have hc:l.pre.holds [] {args:=args}=true:=(pre_splitW hpre).2;obtain⟨d,r,rfl,h1,h2⟩:=hasAllW_cons hsh;obtain rfl:=hasAllW_nil h2;obtain⟨xs,rfl,h3⟩:=hasW_list h1;obtain⟨ns,rfl⟩:=items_int h3;have hlen:ns.length<=n:=by
  unfold OpenLaw.pre at hc;have h4:(WTm.not (.lt (.lit (.int (n:Int))) (.len (.arg 0)))).holds [] {args:=[.list (ns.map .int)]}=true:=by
   have h4:=(holds_andW hc).1;rw[hn] at h4;exact h4
  have h5:=condW_of h4 (w_not (w_lt w_lit (w_len_list (w_arg rfl))));rw[ai] at h5;refine Nat.le_of_not_lt fun q=> ?_;have q':(n:Int)<((ns.length:Nat):Int):=by lia
  first
   | (rw[ao q'] at h5;exact absurd h5 (by decide))
   | (simp at h5;lia)
 cases hwl with
 | cons w1 w2=>
   cases w2;cases w1 with
   | list ho hall=>exact⟨_,_,ns,rfl,rfl,ho,qd ns _ hall,hlen⟩
def Cm(l:OpenLaw)(args:List WData):l.row.toRowW.claim.post args (.bool true) args=true:=postW_of (r:=l.row.toRowW) (X:=(true==true)) (show WShape.has [] (.bool true) .bool=true by first | rfl | decide | simp[WShape.has,WShape.arms,WShape.armsAll])
  (show(WTm.eq .res (.lit (.bool true))).value [] {args:=args,res:=some (.bool true),after:=args}=some (.bool (true==true)) from w_eq_bool (w_res rfl) w_lit) rfl
def attach_call{l:OpenLaw}(hn:l.most=some n)(hdf:d.params.defaults=[])(call:∀w s₀ s₁ mg mb fa o pm cd doc a vs ns,Ground q loose [] XP w s₀ mg mb s₁.heap->YP w s₁.heap->s₁.heap.get? fa=some o->o.data= .func (docDef d.name d.params d.body d.scope pm cd doc)->s₁.heap.CodeRec cd d.name->mg d.name=some (.ref fa)->s₁.heap.get? a=some {cls:= .type "list",data:= .seq vs.toArray}->IntsAre vs ns->ns.length<=n->s₁.gens= #[]->codeAny (model l.prog w) callerA (.call (.ref fa) ⟨[.ref a],[]⟩) (fun r s'=>r= .ok (.ret (.bool true))/\OldK s₁.heap s'.heap/\s'.os=s₁.os/\AllBare s'.gens) s₁):WalkO q loose XP YP l.row.toRowW d [] (fun f vs=>PySem.call f vs):=by
 intro w s₀ s₁ mg mb G Y fa o pm cd doc dV kV ho hd hcd hD hmg hg args vals as hpre hlay hrd hwl hlo;obtain rfl:dV= .none:=Dflts.none hD hdf;obtain rfl:kV= .none:=Dflts.noKw hD;obtain⟨a,vs,ns,rfl,rfl,hobj,hints,hlen⟩:=Cg hn hpre hwl;refine enter_call (Ar (call w s₀ s₁ mg mb fa o pm cd doc a vs ns G Y ho (fd_plain hd) hcd hmg hobj hints hlen hg) fun r s' hq=> ?_);obtain⟨rfl,h2,h3,h4⟩:=hq;exact⟨.inl ⟨.bool true,.bool true,[],rfl,fun _=>rfl,.bool true,Cm l _,fun _=>⟨List.Pairwise.nil,fun _ hm=>(nomatch hm)⟩⟩,h2,h3,h4⟩
section
end
end Att
namespace L2
open PySem PySem.Spec PyProof.Rows
theorem tV:∀{vs:List Value} {ns:List Int},IntsAre vs ns->Vals (ns.map V.int) vs
 | _,_,.nil=> .nil
 | _,_,.cons n t h=> .cons ⟨t,rfl⟩ (tV h)
def Kv(H:Hp):Prop:=∀b,H b=none\/∃o xs,H b=some (.frz o (.lst xs))
def EO{K:Frag}(KX:K.In s₁.heap)(hns:s₁.heap.Ns mainGlobals mg)(hb:s₁.heap.Ns builtinsNs mb)(hbb:∀x:Str,x≠"__name__"->mb x=bootBuiltins x)(hlim:s₁.heap.NoLimit)(hg:s₁.gens= #[])(ha:s₁.heap.get? a=some {cls:= .type "list",data:= .seq vs.toArray})(hi:IntsAre vs ns)(hl:ns.length<=sizeLine)(hr:Room k callerA)(F:∀base:Heap,K.In base->base.Ns mainGlobals mg->b_ P w K mg base CX k fa fd [x] sp)(hbind:∀s u,BindsTo s fd ⟨[u],[]⟩ [(x,u)])(hsp:∀H:Hp,Kv H->SqL K H a (ns.map V.int)->sp [.ref a] H (fun v _=>v= .bl true) fun _ _ _=>False)(hCX:∀H e s',CX [] H s₁ (fun _ _ _=>False) e s'->False):codeAny (model P w) callerA (.call (.ref fa) ⟨[.ref a],[]⟩) (fun r s'=>r= .ok (.ret (.bool true))/\OldK s₁.heap s'.heap/\s'.os=s₁.os/\AllBare s'.gens) s₁:=by
 have rv:=tV hi;have lenV:=hi.length;have core:∀H:Hp,Kv H->SqL K H a (ns.map V.int)->HOk P w H s₁.heap->(∀b,H b≠none->b=a)->(H a≠none->K.lookup a=none)->
  codeAny (model P w) callerA (.call (.ref fa) ⟨[.ref a],[]⟩) (fun r s'=>r= .ok (.ret (.bool true))/\OldK s₁.heap s'.heap/\s'.os=s₁.os/\AllBare s'.gens) s₁:=by
  intro H hO hS hok hA hK;have base_of:∀{b:Addr} {o:Obj},s₁.heap.get? b=some o->H b=none->(wb s₁.heap H).get? b=some o:=fun e n=>E5 e n;have noA:∀{b:Addr} {o:Obj} {es:Array DictEntry} {ep:Nat},s₁.heap.get? b=some o->o.data= .dict es ep->H b=none:=fun {b o es ep} e d=>by
   cases q:H b with
   | none=>rfl
   | some u=>
     have e':b=a:=hA b (by rw[q];simp);subst e';rw[ha] at e;cases e;have d':Data.seq vs.toArray _=Data.dict es ep:=d;cases d'
  have nsK:∀{b:Addr} {m:Str->Option Value},s₁.heap.Ns b m->(wb s₁.heap H).Ns b m:=fun {b m} ⟨o,es,ep,e,d,r⟩=>⟨o,es,ep,base_of e (noA e d),d,r⟩;have hKb:K.In (wb s₁.heap H):=fun b o e=>base_of (KX b o e) (by
   cases q:H b with
   | none=>rfl
   | some u=>
     have e':b=a:=hA b (by rw[q];simp);subst e';rw[hK (by rw[q];simp)] at e;cases e)
  have hM:Mod K mg (wb s₁.heap H):=⟨hKb,nsK hns,⟨mb,nsK hb,hbb⟩,let⟨mc,h1,h2⟩:=hlim;⟨mc,nsK h1,h2⟩⟩;have e0:Env0 P w K mg (wb s₁.heap H) callerA [] s₁ H:=⟨rfl,hM,fun b o e=>GV e,Nat.le_of_eq (CT _ _),trivial,fun b hb=>absurd (show b∈([]:List Addr) from hb) (by simp),hok,.of_eq hg⟩;refine Ar ((F _ hKb (nsK hns)).run callerA [] s₁ H ⟨[.ref a],[]⟩ [.ref a] [.ref a] _ _ hr e0 (hbind s₁ (.ref a)) (.cons rfl .nil) (hsp H hO hS)) fun r s' h=> ?_;cases r with
  | error e=>exact(hCX H e s' h).elim
  | ok fl=>
    cases fl with
    | next=>exact False.elim h
    | brk=>exact False.elim h
    | cont=>exact False.elim h
    | ret u=>
      obtain⟨v,H',os,bare,un,hok',r',q⟩:=h;have q':v= .bl true:=q;subst q';obtain rfl:u=Value.bool true:=r';refine⟨rfl,OldK.of_keep fun b o e=> ?_,os,bare⟩;cases q:H b with
      | none=>exact un.keep b o e q (by intro z;exact absurd (show b∈([]:List Addr) from z) (by simp)) (by simp)
      | some u=>
        rcases hO b with z | ⟨ob,xs,z⟩
        · rw[q] at z;cases z
        · have z2:=un.frzs b ob _ z;obtain⟨e1,_⟩:=hok b _ z;obtain⟨e2,_⟩:=hok' b _ z2;rw[e] at e1;cases e1;exact e2
 cases hk:K.lookup a with
 | some o=>
   have e:=KX a o hk;rw[ha] at e;cases e;refine core (fun _=>none) (fun _=> .inl rfl) (.inr ⟨_,vs.toArray,_,hk,rfl,rfl,rfl,by rw[aM,lenV];exact hl,by simpa using rv⟩) (fun b u z=>by have z':(none:Option HO)=some u:=z;cases z') (fun b z=>absurd rfl z) fun z=>absurd rfl z
 | none=>
   refine core (fun b=>if b=a then some (.frz {cls:= .type "list",data:= .seq vs.toArray} (.lst (ns.map V.int))) else none) (fun b=> ?_) (.inl (.inr ⟨{cls:= .type "list",data:= .seq vs.toArray},aH rfl⟩)) (fun b u z=> ?_) (fun b z=> ?_) fun _=>hk
   · by_cases hb:b=a
     · exact .inr ⟨_,_,aH hb⟩
     · exact .inl (aE hb)
   · by_cases hb:b=a
     · have z':=(aH hb).symm.trans z;cases z';subst hb;exact⟨ha,by rw[ai];exact hl,vs,_,rv,ha⟩
     · have z':=(aE hb).symm.trans z;cases z'
   · by_cases hb:b=a
     · exact hb
     · exact absurd (aE hb) z
def walk_of{l:PySem.W.OpenLaw}{K:Params->Frag}{CX:World->FN}{sp:World->Sp}(hn:l.most=some n)(hn2:n<=sizeLine)(hdf:d.params.defaults=[])(hr:Room k callerA)(hY:∀(w:World) (h:Heap),YP w h->(K w.params).In h)(F:∀(w:World) (mg:Str->Option Value) (fa:Addr) (h:Heap),(K w.params).In h->h.Ns mainGlobals mg->mg d.name=some (.ref fa)->∃fd:FuncData,(∀(s:Shared) (u:Value),BindsTo s fd ⟨[u],[]⟩ [(x,u)])/\∀base:Heap,(K w.params).In base->base.Ns mainGlobals mg->b_ l.prog w (K w.params) mg base (CX w) k fa fd [x] (sp w)) (hsp:∀(w:World) (H:Hp) (a:Addr) (ns:List Int),ns.length<=n->Kv H->SqL (K w.params) H a (ns.map V.int)->sp w [.ref a] H (fun v _=>v= .bl true) fun _ _ _=>False) (hCX:∀(w:World) (H:Hp) (s:Shared) (e:Value) (s':Shared),CX w [] H s (fun _ _ _=>False) e s'->False):PySem.W.WalkO q loose XP YP l.row.toRowW d [] (fun f vs=>PySem.call f vs):=by
 refine Att.attach_call hn hdf fun w s₀ s₁ mg mb fa o pm cd doc a vs ns G Y ho hd hcd hmg hobj hints hlen hg=> ?_;have KX:=hY w _ Y;obtain⟨fd,hb,hF⟩:=F w mg fa _ KX G.T.g hmg;exact EO KX G.T.g G.T.b G.T.builtins G.T.nolimit hg hobj hints (aq hlen hn2) hr hF hb (fun H hO hS=>hsp w H a ns hlen hO hS) fun H e s'=>hCX w H s₁ e s'
noncomputable def d5(s:Stmt)(j:Nat):Stmt:=match s with
 | .ClassDef _ _ _ body _ _ _ _ _ _ _=>body.getD j (.Pass ⟨0,0,0,0⟩)
 | _=> .Pass ⟨0,0,0,0⟩
noncomputable def fB(s:Stmt):Arguments:=match s with
 | .FunctionDef _ a _ _ _ _ _ _ _ _=>a
 | _=>{posonlyargs:=[],args:=[],vararg:=none,kwonlyargs:=[],kw_defaults:=[],kwarg:=none,defaults:=[]}
noncomputable def eN(s:Stmt):List Stmt:=match s with
 | .FunctionDef _ _ b _ _ _ _ _ _ _=>b
 | _=>[]
noncomputable def aK(s:Stmt):Scope:=match s with
 | .FunctionDef _ _ _ _ _ _ sc _ _ _=>sc
 | _=>{kind:= .function,names:=[],isGenerator:=false,isCoroutine:=false}
abbrev fj:FN:=fun _ _ _ _ _ _=>False
abbrev E0:XK:=fun _ _ _=>False
def uB:kW fj X E0:=fun _ _ _ _ _ _ _ h=>h.elim
structure Fun(K:Frag)(x qual:Str)(st:Stmt)(f:Addr)(fd:FuncData):Prop where
 ex:∃(oc:Value) (od:Option Addr) (kV doc pm:Value) (an:Option Addr) (cdv ct:Value) (osl:Array (Option Value)),fd=fnOf x qual (fB st) (eN st) (aK st) .none kV doc pm an cdv ct/\K.lookup f=some ⟨oc,od,.func fd,osl⟩/\codeIn K cdv qual=true
 kp:keepIn K (.ref f)=true
section
def Fun.ok{K:Frag}{st:Stmt}(F:Fun K x qual st f fd)(S:bq N ps (aK st))(len:∀vs H Q E,sp vs H Q E->vs.length=ps.length)(hbody:∀cdv A outer s H vs Q E,Room k (A.deeper (envOfC qual (aK st) s.heap.objs.size f cdv))->sp vs H Q E->∃t,PSs (yC fj P w K mg base N qual (aK st) f cdv A outer s H E).nox (eN st) t/\t {nx:=fun _ H'=>Q .non H',rt:=Q} (lW N vs) H):b_ P w K mg base fj (k+1) f fd ps sp:=by
 obtain⟨oc,od,kV,doc,pm,an,cdv,ct,osl,rfl,lk,hcd⟩:=F.ex;refine IA lk hcd S len fun A outer s H vs Q E hr hsp=> ?_;obtain⟨t,h,q⟩:=hbody cdv A outer s H vs Q E hr hsp;exact⟨t,h.nox,q⟩
def Fun.binds{K:Frag}{st:Stmt}(F:Fun K x qual st f fd)(h:∀kV doc pm an cdv ct us,us.length=ps.length->bindArgs (fnOf x qual (fB st) (eN st) (aK st) .none kV doc pm an cdv ct) ⟨us,[]⟩=pure (ps.zip us)):Binds K fd ps []:=by
 obtain⟨oc,od,kV,doc,pm,an,cdv,ct,osl,rfl,lk,hcd⟩:=F.ex;exact .all (h kV doc pm an cdv ct)
def wc{K:Frag}{st:Stmt}{kV:Value}(l:K.lookup f=some ⟨oc,od,.func (fnOf x qual (fB st) (eN st) (aK st) .none kV doc pm an cdv ct),osl⟩)(c:codeIn K cdv qual=true)(k:keepIn K (.ref f)=true):Fun K x qual st f (fnOf x qual (fB st) (eN st) (aK st) .none kV doc pm an cdv ct):=⟨⟨oc,od,kV,doc,pm,an,cdv,ct,osl,rfl,l,c⟩,k⟩
end
def gA(hr:Room k A):A.units+1<cLine:=bz (Nat.add_le_add_left (by decide:1<=64) _) hr.units
def bL(h:n<=1000):n<sizeLine:=bz h (by decide)
section
def pv{X:Cx}(i:Nat){x:Str}{pos:Pos}(hN:X.N[i]? =some x:=by rfl)(hv:MC X.env.scope x:=by first | exact Or.inl rfl | exact Or.inr (Or.inl rfl) | exact Or.inr (Or.inr rfl))(hd:(x==("__debug__":Str))=false:=by decide)(hcd:(x==("__classdict__":Str))=false:=by decide):PE X (.Name x pos) (ot i):=Jj hN hv hd hcd
def aB:=fun {a b c}=> @pv a 0 b c
def bp:=fun {a b c}=> @pv a 1 b c
def bF:=fun {a b c}=> @pv a 2 b c
def bU:=fun {a b c}=> @pv a 3 b c
def bX:=fun {a b c}=> @pv a 4 b c
def cX:=fun {a b c}=> @pv a 5 b c
def eK:=fun {a b c}=> @pv a 6 b c
def iZ:=fun {a b c}=> @pv a 7 b c
def gh:=fun {a b c}=> @pv a 8 b c
def oJ:=fun {a b c}=> @pv a 9 b c
def jY:=fun {a b c}=> @pv a 10 b c
end
def fY{c A B:Prop}[Decidable c](h1:c->A)(h2:¬ c->B):if c then A else B:=by
 by_cases h:c
 · rw[aH h];exact h1 h
 · rw[aE h];exact h2 h
def Same(H H':Hp):Prop:=∀b o,H b=some o->H' b=some o
def Same.refl(H:Hp):Same H H:=fun _ _ h=>h
def Same.trans(a:Same H H1)(b:Same H1 H2):Same H H2:=fun c o h=>b c o (a c o h)
def Same.seq{K:Frag}(e:Same H H')(h:SqL K H a xs):SqL K H' a xs:=by
 rcases h with(h | ⟨o,h⟩) | h
 · exact .inl (.inl (e _ _ h))
 · exact .inl (.inr ⟨o,e _ _ h⟩)
 · exact .inr h
end L2
set_option maxHeartbeats 4000000
namespace L2
open PySem PySem.Spec PyProof.Rows
def ah(h:H p=none)(o:HO):Same H (upd H p o):=fun b u q=>by rw[aD (ba q h)];exact q
def MX(t u:TS):TS:=fun D σ H=>∃M:St->Hp->Prop,t {D with nx:=M} σ H/\∀σ' H',M σ' H'->u D σ' H'
def vI{X:Cx}{st:Stmt}{rest:List Stmt}{t u:TS}(h1:PS X st t)(h2:PSs X rest u):PSs X (st::rest) (MX t u):=by
 intro pins s σ H D I ⟨M,h,hM⟩;refine B8 (dt (h1 pins s σ H {D with nx:=M} I h) fun f s1 q=> ?_);cases f with
 | next=>
   obtain⟨σ',H',I',q⟩:=q;exact h2 pins s1 σ' H' D I' (hM _ _ q)
 | ret v=>exact q
 | brk=>exact q
 | cont=>exact q
noncomputable def Dy:Expr->Option Str
 | .Constant (.str x) _ _=>some x
 | _=>none
noncomputable def ou:List Expr->Option (List Str)
 | []=>some []
 | e::r=>(Dy e).bind fun x=>(ou r).map fun xs=>x::xs
def HQ(xs:List Str):TA:=fun _ H Q=>Q (xs.map V.str) H
theorem BJ{X:Cx}:∀{es:List Expr} (xs:List Str),ou es=some xs->PA X es (HQ xs)
 | [],xs,h=>by
   cases h;exact cu
 | e::r,xs,h=>by
   cases he:Dy e with
   | none=>rw[ou,he] at h;cases h
   | some x=>
     cases hr:ou r with
     | none=>rw[ou,he,hr] at h;cases h
     | some ys=>
       rw[ou,he,hr] at h;cases h;have hc:∃k p,e= .Constant (.str x) k p:=by
        unfold Dy at he
        split at he
        · cases he;exact⟨_,_,rfl⟩
        · cases he
       obtain⟨k,p,rfl⟩:=hc;intro pos pins s σ H Q I q;have z:PA X (.Constant (.str x) k p::r) (dU (tC (.str x)) (HQ ys)):=eL aJ (BJ ys hr);exact z pos pins s σ H Q I q
noncomputable def iX(cells:List (Str × Addr)):List (Str × NameKind)->List (Str × Addr)->List (Str × Addr)
 | [],acc=>acc
 | (n,k)::r,acc=>iX cells r (if k== .free then(n,(cells.lookup n).getD 0)::acc else acc)
theorem sS(env:Env):∀names acc,(∀y∈names,y.2= .free->∃c,env.cells.lookup y.1=some c)->(forIn names acc (fun x cs=>if(x.2==NameKind.free)=true then do let a<-cellOf env x.1;pure (ForInStep.yield ((x.1,a)::cs)) else pure (ForInStep.yield cs)):Sem (List (Str × Addr)))=pure (iX env.cells names acc)
 | [],acc,_=>rfl
 | (n,k)::r,acc,h=>by
   have ih:=fun acc'=>sS env r acc' fun y hy=>h y (aG _ hy);rw[iD];cases hk:k==NameKind.free with
   | false=>
     simp only[iX,hk,O4,Hf,pure_bind];exact ih acc
   | true=>
     obtain⟨c,hc⟩:=h (n,k) aZ (by simpa using hk);have hc':env.cells.lookup n=some c:=hc;have e:cellOf env n=pure c:=by unfold cellOf;rw[hc']
     simp only[iX,hk,kL,e,pure_bind,hc',Option.getD_some];exact ih _
def kQ(h:∀y∈scope.names,y.2= .free->∃c,env.cells.lookup y.1=some c):closureFor scope env=pure (iX env.cells scope.names []):=by
 unfold closureFor;have q:=sS env scope.names [] h
 first
  | exact q
  | (simp only[bind_pure];exact q)
  | (rw[show(forIn scope.names [] _:Sem (List (Str × Addr)))=_ from q];rfl)
theorem capOf_some:∀names acc,(∀y∈names,y.2= .free->∃c,cells.lookup y.1=some c)->(iX cells names acc).lookup x=some c->acc.lookup x=some c\/cells.lookup x=some c
 | [],acc,_,h=> .inl h
 | (n,k)::r,acc,hf,h=>by
   have hf':∀y∈r,y.2= .free->∃c,cells.lookup y.1=some c:=fun y hy=>hf y (aG _ hy);cases hk:k==NameKind.free with
   | false=>
     simp only[iX,hk,O4,Hf] at h;exact capOf_some r acc hf' h
   | true=>
     simp only[iX,hk,kL] at h;rcases capOf_some r _ hf' h with h | h
     · rw[cT] at h;cases hx:x==n with
       | true=>
         rw[hx] at h;obtain⟨c',hc⟩:=hf (n,k) aZ (by simpa using hk);have hc':cells.lookup n=some c':=hc;have e:x=n:=by simpa using hx
         simp only[hc',Option.getD_some] at h;cases h;exact .inr (by rw[e];exact hc')
       | false=>rw[hx] at h;exact .inl h
     · exact .inr h
theorem sU:∀names acc,(∃c,acc.lookup x=some c)->∃c,(iX cells names acc).lookup x=some c
 | [],_,h=>h
 | (n,k)::r,acc,h=>by
   unfold iX;refine sU r _ ?_;cases hk:k==NameKind.free with
   | false=>simpa using h
   | true=>
     simp only[kL];rw[cT];cases hx:x==n with
     | true=>exact⟨_,rfl⟩
     | false=>exact h
theorem lH:∀names acc,(x,NameKind.free)∈names->∃c,(iX cells names acc).lookup x=some c
 | [],_,h=>nomatch h
 | (n,k)::r,acc,h=>by
   rcases aL.mp h with e | h
   · cases e;unfold iX;refine sU r _ ?_;simp only[beq_self_eq_true,kL];refine⟨(cells.lookup x).getD 0,?_⟩;rw[cT];simp
   · exact lH r _ h
noncomputable def kT(scope outer:Scope):Bool:=(scope.kind== .function)&&scope.names.all fun y=>(y.2 != .cell)&&(y.2 != .local || scope.names.lookup y.1==some .local)&&(y.2 != .free || (outer.names.lookup y.1==some .cell || outer.names.lookup y.1==some .free))
def jE(h:kT scope outer=true):scope.kind= .function:=by
 unfold kT at h;rw[aO] at h;simpa using h.1
def iL(h:kT scope outer=true):∀y∈scope.names,y.2≠ .cell/\(y.2= .local->scope.names.lookup y.1=some .local)/\(y.2= .free->outer.names.lookup y.1=some .cell\/outer.names.lookup y.1=some .free):=by
 unfold kT at h;rw[aO,dH] at h;intro y hy;have q:=h.2 y hy;simp only[aO,j5,bne_iff_ne,lM,ne_eq] at q;refine⟨q.1.1,fun e=> ?_,fun e=> ?_⟩
 · rcases q.1.2 with z | z
   · exact absurd e z
   · exact z
 · rcases q.2 with z | z
   · exact absurd e z
   · exact z
noncomputable def gM(XN:List Str)(scope:Scope):List Str->List Nat->Bool
 | [],[]=>true
 | x::r,i::t=>(XN[i]? ==some x)&&(scope.names.lookup x==some .free)&&gM XN scope r t
 | _,_=>false
theorem sR:∀{cs:List Str} {caps:List Nat} {j:Nat} {x:Str},gM XN scope cs caps=true->cs[j]? =some x->∃i,caps[j]? =some i/\XN[i]? =some x/\scope.names.lookup x=some .free
 | [],_,j,x,_,h=>by simp at h
 | y::r,[],j,x,h,_=>by simp[gM] at h
 | y::r,i::t,0,x,h,e=>by
   simp only[gM,aO,lM] at h;simp at e;subst e;exact⟨i,rfl,h.1.1,h.1.2⟩
 | y::r,i::t,j+1,x,h,e=>by
   simp only[gM,aO] at h;obtain⟨k,h1,h2⟩:=sR (j:=j) (x:=x) h.2 (by simpa using e);exact⟨k,by simpa using h1,h2⟩
theorem sQ:∀{cs:List Str} {caps:List Nat},gM XN scope cs caps=true->cs.length=caps.length
 | [],[],_=>rfl
 | [],_::_,h=>by simp[gM] at h
 | _::_,[],h=>by simp[gM] at h
 | y::r,i::t,h=>by
   simp only[gM,aO] at h;simp[sQ h.2]
noncomputable def AL(nl:Nat)(caps:List Nat)(σ:St):St:=List.replicate nl none++caps.map fun i=>(σ[i]?).getD none
noncomputable def jt(X:Cx)(scope:Scope)(N:List Str)(s:Shared)(H:Hp)(fp:List Addr):Cx:={X with N:=N,s₀:=s,H₀:=H,env:=compEnvC scope (iX X.env.cells scope.names []) (s.heap.objs.size+1) X.env,outer:=X.stack,stack:=X.stack,ex:=fp,fn:=fun _=>false,pn:=[],xe:=fun _ _=>False}
section
theorem eJ{env:Env}{x:Str}{k:NameKind}:∀{names:List (Str × NameKind)},(names.map fun(n,k)=>if(k==NameKind.free&&env.scope.kind== .function&&env.kindOf n==some .cell) then(n,NameKind.cell) else(n,k)).lookup x=some k->(k= .cell\/k= .free)->(x,NameKind.cell)∈names\/(x,NameKind.free)∈names
 | [],h,_=>by simp at h
 | (n,k')::r,h,hk=>by
   have h':List.lookup x ((if(k'==NameKind.free&&env.scope.kind== .function&&env.kindOf n==some .cell)=true then(n,NameKind.cell) else(n,k'))::(r.map fun(n,k)=>if(k==NameKind.free&&env.scope.kind== .function&&env.kindOf n==some .cell) then(n,NameKind.cell) else(n,k)))=some k:=h;by_cases hc:(k'==NameKind.free&&env.scope.kind== .function&&env.kindOf n==some .cell)=true
   · rw[aH hc,cT] at h';cases hx:x==n with
     | true=>
       have e:x=n:=by simpa using hx
       have e2:k'= .free:=by
        rw[aO,aO] at hc;simpa using hc.1.1
       subst e;subst e2;exact .inr aZ
     | false=>
       rw[hx] at h';exact(eJ h' hk).imp (aG _) (aG _)
   · rw[aE hc,cT] at h';cases hx:x==n with
     | true=>
       rw[hx] at h';have e:x=n:=by simpa using hx
       cases h';subst e;rcases hk with rfl | rfl
       · exact .inl aZ
       · exact .inr aZ
     | false=>
       rw[hx] at h';exact(eJ h' hk).imp (aG _) (aG _)
theorem fS{env:Env}:∀{names:List (Str × NameKind)} {x:Str},names.lookup x=some .free->(names.map fun(n,k)=>if(k==NameKind.free&&env.scope.kind== .function&&env.kindOf n==some .cell) then(n,NameKind.cell) else(n,k)).lookup x=some .cell\/(names.map fun(n,k)=>if(k==NameKind.free&&env.scope.kind== .function&&env.kindOf n==some .cell) then(n,NameKind.cell) else(n,k)).lookup x=some .free
 | [],_,h=>by simp at h
 | (n,k)::r,x,h=>by
   have ih:= @fS env r x;show List.lookup x ((if(k==NameKind.free&&env.scope.kind== .function&&env.kindOf n==some .cell)=true then(n,NameKind.cell) else(n,k))::_)=_\/List.lookup x ((if(k==NameKind.free&&env.scope.kind== .function&&env.kindOf n==some .cell)=true then(n,NameKind.cell) else(n,k))::_)=_;cases hx:x==n with
   | true=>
     simp only[cT,hx] at h;cases h;by_cases hc:(NameKind.free==NameKind.free&&env.scope.kind== .function&&env.kindOf n==some .cell)=true
     · rw[aH hc];left;simp[cT,hx]
     · rw[aE hc];right;simp[cT,hx]
   | false=>
     simp only[cT,hx] at h;by_cases hc:(k==NameKind.free&&env.scope.kind== .function&&env.kindOf n==some .cell)=true
     · rw[aH hc];simp only[cT,hx];exact ih h
     · rw[aE hc];simp only[cT,hx];exact ih h
def dZ{σ:St}(I:Inv X pins σ H s)(hb:kT scope X.env.scope=true):∀y∈scope.names,y.2= .free->∃c,X.env.cells.lookup y.1=some c:=fun y hy e=>
 I.ok.has y.1 ((iL hb y hy).2.2 e)
def wo{σ:St}{fp:List Addr}(I:Inv X pins σ H s)(hb:kT scope X.env.scope=true)(hf:∀b∈fp,lS X pins H b)(hlt:∀b∈fp,b<s.heap.objs.size):(jt X scope N s H fp).Ok where
 mod:=I.ok.mod
 kind:=show scope.kind= .function from jE (outer:=X.env.scope) hb
 glob:=I.ok.glob
 blt:=I.ok.blt
 above:=bA _
 inj:=fun x y c h1 h2=>by
  have q1:=(capOf_some scope.names [] (dZ I hb) h1).resolve_left (by simp);have q2:=(capOf_some scope.names [] (dZ I hb) h2).resolve_left (by simp);exact I.ok.inj x y c q1 q2
 has:=fun x hx=>by
  have hx':(relabel scope X.env).names.lookup x=some .cell\/(relabel scope X.env).names.lookup x=some .free:=hx;have q:(x,NameKind.cell)∈scope.names\/(x,NameKind.free)∈scope.names:=by
   rcases hx' with z | z
   · exact eJ z (.inl rfl)
   · exact eJ z (.inr rfl)
  rcases q with q | q
  · exact absurd rfl (iL hb _ q).1
  · exact lH scope.names [] q
 cab:=fun x c h=>nomatch h
 hd:=I.ok.hd
 frames:=I.ok.frames
 stk:= .inl rfl
 exf:=fun b hbm=>⟨bJ (dg (hlt b hbm)),fun x c e=>by
  have q:=(capOf_some scope.names [] (dZ I hb) e).resolve_left (by simp);exact(hf b hbm).2.2.2.2.1 x c q⟩
 bs:=I.bs
 bsz:=aq I.ok.bsz I.sz
 noex:=fun b o e hbm=>by
  rcases(hf b hbm).2.2.2.1 with z | z
  · exact I.ok.noex b o e z
  · exact absurd (ax (aU e) (aq I.ok.bsz z)) (iq _)
 exfs:=fun b hbm z=>by
  rcases aL.mp (I.stkSub b z) with e | e
  · exact(hf b hbm).2.1 e
  · exact(hf b hbm).2.2.1 e
 funs:=I.stack
 frf:=I.stkFree
def sL{σ σ':St}(I:Inv X pins σ H s)(hf:∀b∈fp,lS X pins H b)(J:Inv (jt X scope N s H fp) [] σ' H' s'):Inv X pins σ H' s':=I.call' J.os J.base J.hok J.bare fun b hb=>⟨(hf b hb).2.2.2.1,(hf b hb).2.1,(hf b hb).2.2.2.2.1,(hf b hb).2.2.2.2.2⟩
end
def FD(X:Cx)(ifs:List Expr)(t:TT):Prop:=∀(pins:List (Addr × Obj)) (s:Shared) (σ:St) (H:Hp) (Q:Bool->Hp->Prop),Inv X pins σ H s->t σ H Q->wpAny (model X.prog X.w) X.A (forIn ifs true fun c r=>if r=true then do let ok<-isTrue c X.env (eval c X.env);pure (ForInStep.yield ok) else pure (ForInStep.yield r)) (TP X pins σ Q) X.xe s
def MR:TT:=fun _ H Q=>Q true H
def fZ:FD X [] MR:=fun _ _ _ H _ I h=>wpAny_tests_nil ⟨H,I,h⟩
def GA(hc:PT X c t):FD X [c] t:=fun pins s σ H Q I h=>wpAny_tests_one (hc pins s σ H Q I h)
theorem C4{prog:Program}{w:World}{A:Around}{R:Result->Shared->Prop}{s:Shared}{elt target iter:Expr}{ifs:List Expr}{scope:Scope}{pos:Pos}{it acc:Value}{env:Env}(I:Nat->Shared->Prop)(turn:∀n s,I n s->wpAny (model prog w) A (pyNext it) (fun r s₁=>match r with
 | none=>R (.ok .next) s₁
 | some v=>wpAny (model prog w) A (letOwnedTupleGo target it v) (fun _ s₁'=>wpAny (model prog w) A (assign target env v) (fun _ s₂=>
  wpAny (model prog w) A (forIn ifs true fun c r=>if r=true then do let ok<-isTrue c env (eval c env);pure (ForInStep.yield ok) else pure (ForInStep.yield r)) (fun ok s₃=>
   if ok=true then wpAny (model prog w) A (eval elt env) (fun x s₄=>
    wpAny (model prog w) A (call (.builtin "list.append") [acc,x]) (fun _ s₅=>∃m,m<n/\I m s₅) (fun _ _=>False) s₄) (fun _ _=>False) s₃
   else ∃m,m<n/\I m s₃) (fun _ _=>False) s₂) (fun _ _=>False) s₁') (fun _ _=>False) s₁) (fun _ _=>False) s) (n:Nat) (h:I n s):codeAny (model prog w) A (.compLoop (.ListComp elt [⟨target,iter,ifs,0⟩] scope pos) 0 it acc env) R s:=by
 refine codeAny_loop rfl I (fun n s hI=> ?_) n h;show wpAny _ A ((compTurn (.ListComp elt [⟨target,iter,ifs,0⟩] scope pos) 0 it acc env).onRaise (fun x=>do noteFrame x env;theTreesLotGoes x)) _ _ s;refine wpAny_noted ?_;refine wpAny_noRaise ?_;rw[compTurn_list];refine ae (fC (ae (cP (turn n s hI) (fun r s₁ h₁=> ?_) fun _ _ h'=>h')));cases r with
 | none=>exact aI h₁
 | some v=>
   refine ae (cP h₁ (fun _ s₁' h₁'=> ?_) fun _ _ h'=>h');refine ae (cP h₁' (fun _ s₂ h₂=>ae (cP h₂ (fun ok s₃ h₃=> ?_) fun _ _ h'=>h')) fun _ _ h'=>h');cases ok with
   | false=>exact aI ⟨rfl,h₃⟩
   | true=>
     exact ae (ae (cP h₃ (fun x s₄ h₄=>ae (cP h₄ (fun _ s₅ h₅=>aI (aI ⟨rfl,h₅⟩)) fun _ _ h'=>h')) fun _ _ h'=>h'))
def Kh(J:It)(g:TG)(tc:TT)(te:TE)(D:Addr)(Fin:Hp->Prop)(σ0:St)(H0:Hp):Prop:=∃W:Nat->Nat->St->Hp->Prop,(∃m,W 0 m σ0 H0)/\∀i m σ H,W i m σ H->(J.stop i H/\Fin H)\/(J.go i H/\∃N:St->Hp->Prop,(∀σ' H',N σ' H'->∃m',m'<m/\W (i+1) m' σ' H')/\∀x H1,J.yld i H x H1->g x σ H1 fun σ2 H2=>tc σ2 H2 fun b H3=>
   if b=true then te σ2 H3 fun v H4=>∃xs,H4 D=some (.lst xs)/\xs.length<sizeLine/\N σ2 (upd H4 D (.lst (xs++[v]))) else N σ2 H3)
def iW{Fin:Hp->Prop}(n:Nat)(Pv:Nat->St->Hp->Prop)(h0:Pv 0 σ0 H0)(hend:∀σ H,Pv n σ H->J.stop n H/\Fin H)(hs:∀i σ H,i<n->Pv i σ H->J.go i H/\∀x H1,J.yld i H x H1->g x σ H1 fun σ2 H2=>tc σ2 H2 fun b H3=>
 if b=true then te σ2 H3 fun v H4=>∃xs,H4 D=some (.lst xs)/\xs.length<sizeLine/\Pv (i+1) σ2 (upd H4 D (.lst (xs++[v]))) else Pv (i+1) σ2 H3):Kh J g tc te D Fin σ0 H0:=by
 refine⟨fun i m σ H=>m=n - i/\i<=n/\Pv i σ H,⟨n,by simp,ay _,h0⟩,?_⟩;rintro i m σ H ⟨rfl,hi,p⟩;by_cases hlt:i<n
 · obtain⟨q1,q2⟩:=hs i σ H hlt p;exact .inr ⟨q1,Pv (i+1),fun σ' H' p'=>⟨n - (i+1),by lia,rfl,hlt,p'⟩,q2⟩
 · have e:i=n:=by lia
   subst e;exact .inl (hend σ H p)
def HS(wi:TI)(g:TG)(tc:TT)(te:TE)(nl:Nat)(caps:List Nat):TE:=fun σ H Q=>
 wi σ H fun J H1=>∀D,H1 D=none->Kh J g tc te D (fun H'=>Q (.ref D) H') (AL nl caps σ) (upd H1 D (.lst []))
section
def sO{cY:List Str}{σ:St}{RR:Value->Addr->Result->Shared->Prop}{Fin:Hp->Prop}(hc:X.calm=true)(hb:kT scope X.env.scope=true)(hcap:gM X.N scope cs caps=true)(I:Inv X pins σ H s)(T:yM X.prog X.w X.K tg J fp it tn)(st:tn 0 s.heap)(hf:∀b∈fp,lS X pins H b)(hg:PG (jt X scope (cY++cs) s H fp) tg g)(ht:FD (jt X scope (cY++cs) s H fp) ifs tc)(he:PE (jt X scope (cY++cs) s H fp) elt te)(h:Kh J g tc te s.heap.objs.size Fin (AL cY.length caps σ) (upd H s.heap.objs.size (.lst [])))(hRR:∀σ' H' s',Inv (jt X scope (cY++cs) s H fp) [] σ' H' s'->Fin H'->RR (.ref s.heap.objs.size) (s.heap.objs.size+1) (.ok .next) s'):wpAny (model X.prog X.w) X.A (newList []) (fun acc s₃=>wpAny (model X.prog X.w) X.A (newFunctionEnv scope X.env.globals (iX X.env.cells scope.names []) [] X.env.qual none .none (some X.env)) (fun cenv s₄=>
  codeAny (model X.prog X.w) X.A (.compStart (.ListComp elt [⟨tg,iter,ifs,0⟩] scope pos) 0 (.ref it) acc {cenv with scope:=relabel scope X.env}) (RR acc cenv.locals) s₄) E s₃) E s:=by
 have hcell:∀y∈scope.names,y.2≠ .cell:=fun y hy=>(iL hb y hy).1;have hkind:=jE hb;have hlt:∀b∈fp,b<s.heap.objs.size:=fun b hbm=>by
  obtain⟨o,e,_⟩:=T.obj 0 _ st b hbm;exact aU e
 refine dQ (MO hcell (by intro y hy;simp at hy) (fun h₁ hns₁ hsb₁=> ?_) hkind);dsimp only at hns₁ hsb₁⊢;generalize hH2:s.heap.push {cls:= .type "list",dict:=none,data:= .seq ([]:List Value).toArray}=H2 at hns₁ hsb₁⊢;have hC:H2.objs.size=s.heap.objs.size+1:=by rw[<-hH2,eo]
 rw[hC] at hns₁ hsb₁⊢;have hDC:s.heap.objs.size≠s.heap.objs.size+1:=bJ (jF _);have below:∀b,b<s.heap.objs.size->b≠s.heap.objs.size+1:=fun b hb=>bJ (dg hb);have old:∀b o,s.heap.get? b=some o->h₁.get? b=some o:=fun b o e=>hsb₁.extBut b o (below b (aU e)) (aC _ (hH2 ▸ aC _ e));have hD:h₁.get? s.heap.objs.size=some {cls:= .type "list",dict:=none,data:= .seq ([]:List Value).toArray}:=
  hsb₁.extBut _ _ hDC (aC _ (hH2 ▸ bf _ rfl))
 have frC:H (s.heap.objs.size+1)=none:=I.hok.fresh (bA _);have frD:H s.heap.objs.size=none:=I.hok.fresh (au _);have J0:Inv (jt X scope (cY++cs) s H fp) [] (AL cY.length caps σ) (upd H s.heap.objs.size (.lst [])) {s with heap:=h₁,toks:=s.toks+([]:List (Str × Value)).length}:=by
  refine⟨wo I hb hf hlt,rfl,I.bare,Un.laid old (au _) frD,⟨_,hns₁,fun i x v e1 e2 e3=> ?_⟩,fun x c e=> ?_,?_,fun x c e=> ?_,fun p hp=>absurd (show p∈([]:List (Addr × Obj)) from hp) (by simp),?_,?_⟩
  · have e1':(cY++cs)[i]? =some x:=e1;have hi:cY.length<=i:=by
     rcases eR i cY.length with hi | hi
     · unfold AL at e2;rw[bM (by simpa using hi),pz] at e2
       split at e2<;>cases e2
     · exact hi
    rw[cy hi] at e1';obtain⟨k,q1,q2,q3⟩:=sR hcap e1';unfold AL at e2;rw[cy (by simpa using hi),fk,aQ,q1] at e2;have e2':(σ[k]?).getD none=some v:=by simpa using e2
    have e4:σ[k]? =some (some v):=by
     cases z:σ[k]? with
     | none=>rw[z] at e2';cases e2'
     | some o=>rw[z] at e2';simp at e2';rw[e2']
    have hfr:=(iL hb _ (de q3)).2.2 rfl;obtain⟨m,hn,hl⟩:=I.loc;obtain⟨u,r,l⟩:=hl k x v q2 e4 (hfr.elim (fun z=> .inr (.inl z)) fun z=> .inr (.inr z));refine⟨u,r,.inr ⟨?_,?_⟩⟩
    · exact fS q3
    · rcases l with⟨k1,_⟩ | ⟨_,c,ec,z⟩
      · exfalso
        have k1':X.env.scope.names.lookup x=some .local:=k1;rcases hfr with z | z<;>(rw[k1'] at z;cases z)
      · obtain⟨c',ec'⟩:=lH (cells:=X.env.cells) scope.names [] (de q3);have q:=(capOf_some scope.names [] (dZ I hb) ec').resolve_left (by simp);rw[ec] at q;cases q;obtain⟨o,ho,hd⟩:=z;exact⟨c,ec',o,old _ _ ho,hd⟩
  · have q:=(capOf_some scope.names [] (dZ I hb) e).resolve_left (by simp);obtain⟨v,o,ho,hd⟩:=I.cell x c q;exact⟨v,o,old _ _ ho,hd⟩
  · show upd H s.heap.objs.size (.lst []) (s.heap.objs.size+1)=none;rw[aD (bI hDC)];exact frC
  · have q:=(capOf_some scope.names [] (dZ I hb) e).resolve_left (by simp);obtain⟨v,o,ho,hd⟩:=I.cell x c q;rw[aD (bJ (aU ho))];exact I.freeC x c q
  · exact I.hok.laid old (au _) ⟨ay _,[],0,.nil,hD⟩
  · show(AL cY.length caps σ).length=(cY++cs).length;unfold AL;rw[ag,fk,ai,ag,sQ hcap]
 obtain⟨W,⟨m0,w0⟩,turn⟩:=h;have stat:∀{H':Hp},(∀b∈fp,H' b=none)->∀b∈fp,lS (jt X scope (cY++cs) s H fp) [] H' b:=fun {H'} hn b hbm=>by
  have q:=(wo (N:=cY++cs) I hb hf hlt);refine⟨hn b hbm,(q.exf b hbm).1,q.exfs b hbm,.inl hbm,(q.exf b hbm).2,fun p hp=>absurd (show p∈([]:List (Addr × Obj)) from hp) (by simp)⟩
 have fr0:∀b∈fp,upd H s.heap.objs.size (.lst []) b=none:=fun b hbm=>by rw[aD (bJ (hlt b hbm))];exact(hf b hbm).1
 have loop:∀s₃:Shared,s₃={s with heap:=h₁,toks:=s.toks+([]:List (Str × Value)).length}->
  codeAny (model X.prog X.w) X.A (.compLoop (.ListComp elt [⟨tg,iter,ifs,0⟩] scope pos) 0 (.ref it) (.ref s.heap.objs.size) (jt X scope (cY++cs) s H fp).env) (RR (.ref s.heap.objs.size) (s.heap.objs.size+1)) s₃:=by
  rintro s₃ rfl;refine C4 (fun n s'=>∃i σ' H',Inv (jt X scope (cY++cs) s H fp) [] σ' H' s'/\tn i s'.heap/\(∀b∈fp,H' b=none)/\W i n σ' H') ?_ m0 ⟨0,_,_,J0,T.keep _ _ _ st fun b _ o e=>old b o e,fr0,w0⟩;rintro n s3 ⟨i,σ3,H3,I3,st3,fr3,w3⟩;rcases turn i n σ3 H3 w3 with⟨stop,qn⟩ | ⟨go,Nn,hNn,step⟩
  · refine dt (T.done (jt X scope (cY++cs) s H fp) rfl rfl rfl hc i [] s3 σ3 H3 _ I3 (stat fr3) st3 stop) fun r s4 ⟨hr,I4⟩=> ?_;subst hr;exact hRR σ3 H3 s4 I4 qn
  · refine dt (T.item (jt X scope (cY++cs) s H fp) rfl rfl rfl hc i [] s3 σ3 H3 _ I3 (stat fr3) st3 go) fun r s4 ⟨u,hr,h4⟩=> ?_;subst hr;refine dt h4 fun _ s5 ⟨x,H5,I5,r5,y5,st5,fr5⟩=> ?_;have I5':=I5.pinned (stat fr5) (T.obj _ _ st5);have again:∀{σ7:St} {H7:Hp} {s7:Shared},Inv (jt X scope (cY++cs) s H fp) ([]++mF fp s5.heap) σ7 H7 s7->Nn σ7 H7->
     ∃m,m<n/\∃i σ' H',Inv (jt X scope (cY++cs) s H fp) [] σ' H' s7/\tn i s7.heap/\(∀b∈fp,H' b=none)/\W i m σ' H':=fun {σ7 H7 s7} I7 n7=>by
     obtain⟨m',hm,w7⟩:=hNn σ7 H7 n7;refine⟨m',hm,i+1,σ7,H7,I7.unpinned,T.keep _ _ _ st5 fun b hb o e=>(I7.pin (b,o) (aN _ (aN _ (g_ hb e)))).1,fun b hb=> ?_,w7⟩;obtain⟨o,e,d⟩:=T.obj _ _ st5 b hb;exact(I7.pin (b,o) (aN _ (aN _ (g_ hb e)))).2.1
    refine dt (hg _ s5 σ3 H5 x u _ I5' r5 (step x H5 y5)) fun _ s6 ⟨σ6,H6,I6,q6⟩=> ?_;refine dt (ht _ s6 σ6 H6 _ I6 q6) fun b s7 ⟨H7,I7,q7⟩=> ?_;cases b with
    | false=>exact again I7 q7
    | true=>
      refine dt (he _ s7 σ6 H7 _ I7 q7) fun u8 s8 ⟨v8,H8,I8,r8,xs,e8,z8,q8⟩=> ?_;refine dt (uE (X:=jt X scope (cY++cs) s H fp) ([]++mF fp s5.heap) s8 σ6 H8 (.ref s.heap.objs.size) [v8] (.ref s.heap.objs.size) [u8] (fun _ H9=>Nn σ6 H9) I8 rfl (.cons r8 .nil) ⟨xs,e8,z8,q8⟩) fun _ s9 ⟨_,H9,I9,_,q9⟩=> ?_;exact again I9 q9
 exact codeAny_compStart_list (loop _ rfl) (T.self _ 0 _ _ _ (T.keep _ _ _ st fun b _ o e=>old b o e) (loop _ rfl))
def jN{X:Cx}{tg iter elt:Expr}{ifs:List Expr}{scope:Scope}{pos:Pos}{wi:TI}{g:TG}{tc:TT}{te:TE}(cY cs:List Str)(caps:List Nat)(hc:X.calm=true)(hi:PI X tg iter wi)(hg:∀s H fp,PG (jt X scope (cY++cs) s H fp) tg g)(ht:∀s H fp,FD (jt X scope (cY++cs) s H fp) ifs tc)(he:∀s H fp,PE (jt X scope (cY++cs) s H fp) elt te)(hb:kT scope X.env.scope=true:=by rfl)(hcap:gM X.N scope cs caps=true:=by rfl)(hs:∀x,foldedSetIterable iter X.env x=pure x:=by intro _;rfl):PE X (.ListComp elt [⟨tg,iter,ifs,0⟩] scope pos) (HS wi g tc te cY.length caps):=by
 intro pins s σ H Q I h;rw[eval_ListComp];refine m_ (use:=none) rfl hs (kQ (dZ I hb)) (jE hb) (fun y hy=>(iL hb y hy).2.1) (dt (hi pins s σ H _ I h) fun v s1 h1=>dt h1 fun itv s2 h2=> ?_);obtain⟨it,fp,tn,J,H2,e,I2,T,st2,f2,q⟩:=h2;subst e;refine sO (RR:=fun acc C=>compPost (model X.prog X.w) X.A X.xe none (EP X pins σ Q) acc C) (cY:=cY) (cs:=cs) (Fin:=fun H'=>Q (.ref s2.heap.objs.size) H') hc hb hcap I2 T st2 f2 (hg _ _ _) (ht _ _ _) (he _ _ _) (q _ (I2.hok.fresh (au _))) ?_;intro σ' H' s' J' q';obtain⟨m,hn,_⟩:=J'.loc;refine⟨m,hn,fun h' hs'=> ?_⟩;have I3:=sL I2 f2 J';have fr:H' (s2.heap.objs.size+1)=none:=J'.free;refine⟨.ref s2.heap.objs.size,H',I3.turned (t':=s'.toks) (it:=s2.heap.objs.size+1) (fun b o hb e=>(hs'.2 b hb).trans e) fr ?_ (.inr (aq I2.sz (bA _))) ?_ ?_,rfl,q'⟩
 · exact jb (dg I2.lt)
 · intro x c e z;obtain⟨v,hv⟩:=I2.cell x c e;have h1:s2.heap.objs.size+1<s2.heap.objs.size:=z ▸ hv.lt;exact absurd h1 (qf.mpr (bA _))
 · intro p hp z;have h1:s2.heap.objs.size+1<s2.heap.objs.size:=z ▸ aU (I2.pin p hp).1;exact absurd h1 (qf.mpr (bA _))
def qz{X:Cx}{tg iter elt:Expr}{ifs:List Expr}{scope:Scope}{pos:Pos}{wi:TI}{g:TG}{tc:TT}{te:TE}{i:Nat}{y:Str}{py spos:Pos}(cY cs:List Str)(caps:List Nat)(hN:X.N.Nodup)(hiy:X.N[i]? =some y)(hc:X.calm=true)(hi:PI X tg iter wi)(hg:∀s H fp,PG (jt X scope (cY++cs) s H fp) tg g)(ht:∀s H fp,FD (jt X scope (cY++cs) s H fp) ifs tc)(he:∀s H fp,PE (jt X scope (cY++cs) s H fp) elt te)(hy:X.env.scope.names.lookup y=some .local:=by rfl)(hsw:swapsWith (.ListComp elt [⟨tg,iter,ifs,0⟩] scope pos) (some (.Name y py)) spos.line X.env=pure true:=by rfl)(hb:kT scope X.env.scope=true:=by rfl)(hcap:gM X.N scope cs caps=true:=by rfl)(hs:∀x,foldedSetIterable iter X.env x=pure x:=by intro _;rfl):PS X (.Assign [.Name y py] (.ListComp elt [⟨tg,iter,ifs,0⟩] scope pos) spos) (F6 (HS wi g tc te cY.length caps) (iA i)):=by
 intro pins s σ H D I h;rw[exec_Assign_Name_used _ _ _ _ hsw];refine ae (fC (ae ?_));show wpAny _ X.A (do let _<-comprehension (.ListComp elt [⟨tg,iter,ifs,0⟩] scope pos) scope X.env _ (newList []) false (eval iter X.env) (some (assign (.Name y py) X.env))) _ _ s;refine ae (cP (m_ (use:=some (assign (.Name y py) X.env)) (Q:=fun _ s'=>SP X pins D .next s') rfl hs (kQ (dZ I hb)) (jE hb) (fun y hy=>(iL hb y hy).2.1)
  (dt (hi pins s σ H _ I h) fun v s1 h1=>dt h1 fun itv s2 h2=> ?_)) (fun _ s' hq=>aI (aI hq)) fun _ _ e=>e)
 obtain⟨it,fp,tn,J,H2,e,I2,T,st2,f2,q⟩:=h2;subst e;refine sO (RR:=fun acc C=>compPost (model X.prog X.w) X.A X.xe (some (assign (.Name y py) X.env)) (fun _ s'=>SP X pins D .next s') acc C) (cY:=cY) (cs:=cs) (Fin:=fun H'=>iA i (.ref s2.heap.objs.size) σ H' D.nx) hc hb hcap I2 T st2 f2 (hg _ _ _) (ht _ _ _) (he _ _ _) (q _ (I2.hok.fresh (au _))) ?_;intro σ' H' s' J' q';obtain⟨m,hn,_⟩:=J'.loc;have I3:=sL I2 f2 J';have fr:H' (s2.heap.objs.size+1)=none:=J'.free;have neL:s2.heap.objs.size+1≠X.env.locals:=jb (dg I2.lt);have neC:∀x c,X.env.cells.lookup x=some c->c≠s2.heap.objs.size+1:=fun x c e z=>by
  obtain⟨v,hv⟩:=I2.cell x c e;have h1:s2.heap.objs.size+1<s2.heap.objs.size:=z ▸ hv.lt;exact absurd h1 (qf.mpr (bA _))
 show wpAny _ X.A (assign (.Name y py) X.env (.ref s2.heap.objs.size)) _ _ s';refine O7 (tZ I3 hN hiy (.inl hy) (v:= .ref s2.heap.objs.size) rfl (fun s4 I4 hsb=> ?_) (.inr hy));obtain⟨a,sb,ha⟩:=hsb;have ane:s2.heap.objs.size+1≠a:=by
  rcases ha with rfl | ha
  · exact neL
  · exact bI (neC _ _ ha)
 refine⟨m,hn.sameBut sb ane,fun h' hs'=> ?_⟩;refine⟨_,H',I4.turned (t':=s4.toks) (it:=s2.heap.objs.size+1) (fun b o hb e=>(hs'.2 b hb).trans e) fr neL (.inr (aq I2.sz (bA _))) neC ?_,q'⟩;intro p hp z;have h1:s2.heap.objs.size+1<s2.heap.objs.size:=z ▸ aU (I2.pin p hp).1;exact absurd h1 (qf.mpr (bA _))
end
noncomputable def Mp(x:Str):It:=⟨fun i _=>i<x.cps.size,fun i H v H'=>H'=H/\∃c,x.cps[i]? =some c/\v= .str ⟨#[c]⟩,fun i _=>i=x.cps.size⟩
def Do{K:Frag}(it:Addr)(x:Str)(t:Tok)(T:String)(hT:T="str_ascii_iterator"\/T="str_iterator")(W:∀A':Around,A'.handled=none->Walks P w A' it [it] [it] x.cps.size (SignAt x) (fun i h=>h.IsStrIter it T x t i)):yM P w K tg (Mp x) [it] it (fun i h=>h.IsStrIter it T x t i) where
 mem:=by simp
 obj:=fun i h st b hb=>by
  have e:b=it:=by simpa using hb
  subst e;obtain⟨o,e,c,d⟩:=st;exact⟨o,e,fun v z=>by rw[d] at z;cases z⟩
 keep:=fun i h h' st k=>by
  obtain⟨o,e,r⟩:=st;exact⟨o,k it (by simp) o e,r⟩
 item:=by
  intro X hP hw hK hc i pins s σ H E I hf st hg;subst hP hw hK;obtain⟨f0,f1,f2,f3,f4,f5⟩:=hf it (by simp);refine(W X.A (I.ok.hd hc)).item i s _ _ hg st fun v h' tk hv st' kk=> ?_;obtain⟨c,u,hcx,rfl⟩:=hv;have I1:Inv X pins σ H {s with heap:=h',toks:=tk}:=I.turned (fun b o hb e=>kk b o (by simpa using hb) e) f0 f1 f3 f4 f5;obtain⟨o,e,c1,d⟩:=id st';refine⟨_,rfl,Fb (s:={s with heap:=h',toks:=tk}) e c1 d (by rcases hT with rfl | rfl<;>decide) ⟨.str ⟨#[c]⟩,H,I1,⟨u,rfl⟩,⟨rfl,c,hcx,rfl⟩,st',fun b hb=>(hf b hb).1⟩⟩
 done:=by
  intro X hP hw hK hc i pins s σ H E I hf st hg;subst hP hw hK;have hg':i=x.cps.size:=hg;subst hg';obtain⟨f0,f1,f2,f3,f4,f5⟩:=hf it (by simp);exact(W X.A (I.ok.hd hc)).done s _ _ st fun h' tk kk=>⟨rfl,I.turned (fun b o hb e=>kk b o (by simpa using hb) e) f0 f1 f3 f4 f5⟩
 self:=fun A i s Q E st h=>by
  rcases hT with rfl | rfl
  · exact wpAny_pyIter_striter_ascii st h
  · exact wpAny_pyIter_striter_wide st h
section
def ND(tl:TE):TI:=fun σ H R=>tl σ H fun x H1=>∃z,x= .str z/\R (Mp z) H1
def D0(hl:PE X l tl):PI X tg l (ND tl):=by
 intro pins s σ H R I h;refine dt (hl pins s σ H _ I h) fun v s1 ⟨x,H1,I1,r1,q1⟩=> ?_;obtain⟨z,rfl,q⟩:=q1;obtain⟨t,rfl⟩:=r1;have fin:∀(T:String) (o:Obj),(T="str_ascii_iterator"\/T="str_iterator")->(∀A':Around,A'.handled=none->Walks X.prog X.w A' s1.heap.objs.size [s1.heap.objs.size] [s1.heap.objs.size] z.cps.size (SignAt z) (fun i h=>h.IsStrIter s1.heap.objs.size T z t i))->
  (s1.heap.push o).IsStrIter s1.heap.objs.size T z t 0->NN X pins σ tg R (.ref s1.heap.objs.size) {s1 with heap:=s1.heap.push o}:=fun T o hT W st=>by
  refine⟨s1.heap.objs.size,[s1.heap.objs.size],_,_,H1,rfl,I1.kept (t':=s1.toks) fun b o e=>aC _ e,Do _ z t T hT W,st,fun b hb=> ?_,q⟩;have e:b=s1.heap.objs.size:=by simpa using hb
  subst e;exact I1.fpOk (au _) (I1.hok.fresh (au _))
 cases ha:z.cps.all (· <128)
 · exact wpAny_pyIter_wide ha (fin "str_iterator" _ (.inr rfl) (fun A' hA=>Walks.strWide hA _ z t) ⟨_,bf _ rfl,rfl,rfl⟩)
 · exact wpAny_pyIter_ascii ha (fin "str_ascii_iterator" _ (.inl rfl) (fun A' hA=>Walks.strAscii hA _ z t) ⟨_,bf _ rfl,rfl,rfl⟩)
end
def Hl{g:TG}{tb:TS}{D:s_}(Pv:Nat->St->Hp->Prop)(h0:Pv 0 σ H)(hs:∀i c σ H,z.cps[i]? =some c->Pv i σ H->g (.str ⟨#[c]⟩) σ H fun σ2 H2=>tb {D with nx:=Pv (i+1),ct:=Pv (i+1),bk:=D.nx} σ2 H2)(hd:∀σ H,Pv z.cps.size σ H->D.nx σ H):∃W:Nat->Nat->St->Hp->Prop,(∃m,W 0 m σ H)/\∀i m σ H,W i m σ H->((Mp z).stop i H/\D.nx σ H)\/((Mp z).go i H/\∃N:St->Hp->Prop,(∀σ' H',N σ' H'->∃m',m'<m/\W (i+1) m' σ' H')/\∀x H',(Mp z).yld i H x H'->g x σ H' fun σ2 H2=>tb {D with nx:=N,ct:=N,bk:=D.nx} σ2 H2):=by
 refine⟨fun i m σ H=>m=z.cps.size - i/\i<=z.cps.size/\Pv i σ H,⟨z.cps.size,by simp,ay _,h0⟩,?_⟩;rintro i m σ H ⟨rfl,hi,p⟩;by_cases hlt:i<z.cps.size
 · refine .inr ⟨hlt,Pv (i+1),fun σ' H' p'=>⟨z.cps.size - (i+1),by lia,rfl,hlt,p'⟩,fun x H' y=> ?_⟩;obtain⟨e,c,hc,rfl⟩:=y;subst e;exact hs i c σ _ hc p
 · have e:i=z.cps.size:=by lia
   subst e;exact .inl ⟨rfl,hd σ H p⟩
section
def xN(p:IsPart u o):∃l:Option (Int × Tok),u=partValue l/\l.map (·.1)=o:=by
 cases p with
 | none=>exact⟨none,rfl,rfl⟩
 | int i t=>exact⟨some (i,t),rfl,rfl⟩
def Nh:V->Option Int->Option Int->Hp->VK->Prop:=fun x lo hi H Q=>∃z,x= .str z/\z.length<=sizeLine/\Q (.str (Txt.slice z lo hi)) H
def kj:Ma X Nh:=by
 intro pins s σ H x v vl vu lo hi sl Q I rx hs pl pu h;obtain⟨z,rfl,hz,q⟩:=h;obtain⟨t,rfl⟩:=rx;obtain⟨l,rfl,rfl⟩:=xN pl;obtain⟨u,rfl,rfl⟩:=xN pu;refine⟨"str",_,F.slot_str_getitem.lookup,Ow _ _ _,wpAny_getItem_str_slice (l:=l) (u:=u) (st:=none) hs rfl ?_⟩;exact post_val_or_str ⟨aq (L9 z _ _) hz,fun t' k=>⟨.str (Txt.slice z (l.map (·.1)) (u.map (·.1))),H,I.tok _,⟨t',rfl⟩,q⟩⟩
def Hg(lo hi:Option Int)(n:Nat):Builtin.Str.strSliceIndices lo hi 1 n=(List.range (HT.sIx n n hi - HT.sIx n 0 lo)).map fun k=>HT.sIx n 0 lo+k:=by
 have c:∀(v:Int) (d:Nat),max 0 (min (if v<0 then v+(n:Int) else v) (n:Int))=((HT.sIx n d (some v):Nat):Int):=fun v d=>by
  rw[<-HT.clip_eq v n d];by_cases hv:v<0
  · simp only[aH hv];lia
  · simp only[aE hv];lia
 have key:∀i j:Nat,sliceRange (i:Int) (j:Int) 1=(List.range (j - i)).map fun k=>i+k:=fun i j=>by
  unfold sliceRange;simp only[show(1:Int)>0 by decide,kL];have e:(if(i:Int)<(j:Int) then((j:Int) - i+1 - 1)/1 else 0).toNat=j - i:=by
   split<;>lia
  rw[e];refine Oj fun k _=> ?_
  lia
 rw[<-key];unfold Builtin.Str.strSliceIndices;simp only[show(1:Int)>0 by decide,kL];cases lo with
 | none=>
   cases hi with
   | none=>rfl
   | some v=>rw[<-c v n];rfl
 | some u=>
   cases hi with
   | none=>rw[<-c u 0];rfl
   | some v=>rw[<-c v n,<-c u 0]
def jB(x:Str)(lo hi:Option Int):(Txt.slice x lo hi).cps.toList=(x.cps.toList.drop (HT.sIx x.length 0 lo)).take (HT.sIx x.length x.length hi - HT.sIx x.length 0 lo):=by
 have h0:=HT.sIx_le x.length 0 (ay _) lo;have h1:=HT.sIx_le x.length x.length (au _) hi;have hx:x.cps.toList.length=x.length:=by simp[Str.length]
 unfold Txt.slice;rw[Hg]
 split
 · rename_i h;rw[aO] at h;have h':HT.sIx x.length x.length hi - HT.sIx x.length 0 lo=x.length:=by
    have z:=h.2;rw[ai,jc] at z;exact eq_of_beq z
   have h2:HT.sIx x.length 0 lo=0:=by lia
   rw[h',h2,tP,cS (by lia)]
 · show(List.filterMap _ _).toArray.toList=_;rw[O2];apply Pf;intro k;have key:(List.range (HT.sIx x.length x.length hi - HT.sIx x.length 0 lo)).filterMap ((fun i=>x.cps[i]?)∘fun k=>HT.sIx x.length 0 lo+k)=(x.cps.toList.drop (HT.sIx x.length 0 lo)).take (HT.sIx x.length x.length hi - HT.sIx x.length 0 lo):=by
    generalize HT.sIx x.length 0 lo=i at h0⊢;have hj:i+(HT.sIx x.length x.length hi - i)<=x.length\/HT.sIx x.length x.length hi - i=0:=by lia
    generalize HT.sIx x.length x.length hi - i=d at hj⊢
    induction d with
    | zero=>simp
    | succ d ih=>
      rw[qJ,jv,ih (by lia),bH]
      congr 1
      have hlt:i+d<x.cps.size:=by simp[Str.length] at hj;lia
      simp[hlt]
   simpa using congrArg (fun l:List Nat=>l[k]?) key
def lj:j4 X (compareOp .LtE) (fun x y H Q=>∃i j,x= .str i/\y= .str j/\Q (.bl (!decide (j.cps.toList<i.cps.toList))) H):=by
 intro pins s σ H x y v u Q I rx ry h;obtain⟨i,j,rfl,rfl,q⟩:=h;obtain⟨t,rfl⟩:=rx;obtain⟨t',rfl⟩:=ry;exact P.le_str ⟨.bl (!decide (j.cps.toList<i.cps.toList)),H,I,rfl,q⟩
def Ck(bs:List Bool):(List.range bs.length).all (fun i=>(bs[i]?).getD true)=bs.all id:=by
 rw[j6,dH,dH];constructor
 · intro h b hb;obtain⟨i,hi,e⟩:=List.mem_iff_getElem.mp hb;have q:=h i (dj.mpr hi);rw[aw hi,e] at q;exact q
 · intro h i hi;have hi':=dj.mp hi;rw[aw hi'];exact h _ (cU hi')
def uL(hc:X.calm=true):me X (.builtin "all") (fun xs H Q=>∃(p:Addr) (bs:List Bool),xs=[.ref p]/\SqL X.K H p (bs.map V.bl)/\Q (.bl (bs.all id)) H):=by
 intro pins s σ H xs us Q I r h;obtain⟨p,bs,rfl,hp,q⟩:=h;obtain⟨u,rfl,ru⟩:=r.one;cases ru;obtain⟨its,rv,pl,hz⟩:=I.list hp;have hh:X.A.in1.handled=none:=I.ok.hd hc;have hlt:p<s.heap.objs.size:=by obtain⟨_,e,_⟩:=pl.isList;exact aU e
 have hlen:its.length=bs.length:=by have:=rv.length;simpa using this.symm
 refine call_all_walk (O6 pl.isList ⟨s.heap.objs.size,[s.heap.objs.size,p],[s.heap.objs.size],its.toArray.size,_,_,fun i=>(bs[i]?).getD true,rfl,Walks.list hh _ _ (bJ hlt) its.toArray,⟨⟨_,bf _ rfl,rfl,rfl⟩,pl.isList.push _⟩,?_,?_⟩)
 · intro i v s' Q' E' hv hq;have hv':its[i]? =some v:=by simpa using hv
   cases hb:bs[i]? with
   | none=>
     have z:bs.length<=i:=by simpa using hb
     rw[sY (by lia)] at hv';cases hv'
   | some b=>
     obtain⟨u,hu,ru⟩:=rv.get (i:=i) (x:=V.bl b) (by rw[aQ,hb];rfl);rw[hv'] at hu;cases hu;obtain rfl:v=Value.bool b:=ru;have hq':Q' b s':=by
      have z:(fun i=>(bs[i]?).getD true) i=b:=by simp[hb]
      rw[z] at hq;exact hq
     exact df hq'
 · intro h' tk hk;have I1:Inv X pins σ H {s with heap:=h',toks:=tk}:=I.kept fun b o e=>hk b o (fun z=>by
    have z':b=s.heap.objs.size:=by simpa using z
    exact absurd (z' ▸ aU e) (iq _)) (aC _ e)
   refine⟨.bl (bs.all id),H,I1,?_,q⟩;show Value.bool _=Value.bool _;rw[aM,hlen,Ck]
def kR:me X (.builtin "isinstance") (fun xs H Q=>∃x n t b,xs=[x,.ty n]/\TyOf X.K H x t/\kitOne X.K t (.type n)=some b/\Q (.bl b) H):=by
 intro pins s σ H xs us Q I r h;obtain⟨x,n,t,b,rfl,ty,e,q⟩:=h;obtain⟨u,v,rfl,ru,rv⟩:=r.two;cases rv;exact CP I ru ty e fun tk=>⟨.bl b,H,I.tok _,rfl,q⟩
end
section
end
inductive Kd where
 | nm (x:Str)
 | two (a b:Kd)
 | som (r:Str) (c:Kd)
 deriving DecidableEq
noncomputable def Kd.dep:Kd->Nat
 | .nm _=>0
 | .two a b=>1+max a.dep b.dep
 | .som _ c=>1+c.dep
noncomputable def Kd.nt:Kd->Nat
 | .nm _=>0
 | .two a b=>1+a.nt+b.nt
 | .som _ c=>1+c.nt
noncomputable def Kd.sz:Kd->Nat
 | .nm _=>1
 | .two a b=>1+a.sz+b.sz
 | .som _ c=>1+c.sz
noncomputable def Kd.inner:Kd->List Kd
 | .nm _=>[]
 | .two a b=>[a,b]
 | .som _ c=>[c]
theorem Kd.dep_le_nt:∀k:Kd,k.dep<=k.nt
 | .nm _=>au _
 | .two a b=>by
   have h1:=dep_le_nt a;have h2:=dep_le_nt b;simp only[Kd.dep,Kd.nt];lia
 | .som _ c=>by
   have h1:=dep_le_nt c;simp only[Kd.dep,Kd.nt];lia
def IsK(H:Hp):Kd->V->Prop
 | .nm x,v=>v= .str x
 | .two a b,v=>∃(p:Addr) (x y:V),v= .ref p/\H p=some (.tup [.str "both",x,y])/\IsK H a x/\IsK H b y
 | .som r c,v=>∃(p:Addr) (y:V),v= .ref p/\H p=some (.tup [.str "some",.str r,y])/\IsK H c y
def Tups(H H':Hp):Prop:=∀b xs,H b=some (.tup xs)->H' b=some (.tup xs)
def Tups.refl(H:Hp):Tups H H:=fun _ _ h=>h
def Tups.trans(a:Tups H H1)(b:Tups H1 H2):Tups H H2:=fun c o h=>b c o (a c o h)
def Same.tups(h:Same H H'):Tups H H':=fun b xs e=>h b _ e
def nj(h:H p=none):Tups H (upd H p o):=(ah h o).tups
def wO(h:H p=some (.lst xs)):Tups H (upd H p o):=fun b ys e=>by
 rw[aD (Ik e h (by intro z;cases z))];exact e
theorem IsK.mono(t:Tups H H'):∀{k:Kd} {v:V},IsK H k v->IsK H' k v
 | .nm _,_,h=>h
 | .two _ _,_,⟨p,x,y,e,h,ha,hb⟩=>⟨p,x,y,e,t _ _ h,IsK.mono t ha,IsK.mono t hb⟩
 | .som _ _,_,⟨p,y,e,h,hc⟩=>⟨p,y,e,t _ _ h,IsK.mono t hc⟩
section
def uH(A:Around):A.in1.units=A.units+1:=rfl
end
def KL(H:Hp):List V->List Kd->Prop:=Paired fun v k=>IsK H k v
def KL.mono{H H':Hp}(t:Tups H H'){xs:List V}{ks:List Kd}(h:KL H xs ks):KL H' xs ks:=Paired.imp' (fun _ _ q=>IsK.mono t q) h
def KL.len(h:KL H xs ks):xs.length=ks.length:=aS h
theorem KL.get:∀{xs:List V} {ks:List Kd} {i:Nat} {v:V},KL H xs ks->xs[i]? =some v->∃k,ks[i]? =some k/\IsK H k v
 | _,_,_,_,.nil,e=>by simp at e
 | _,_,0,_,.cons r _,e=>by simp at e;subst e;exact⟨_,rfl,r⟩
 | _,_,i+1,v,.cons _ t,e=>by
   obtain⟨u,h1,h2⟩:=KL.get (i:=i) (v:=v) t (by simpa using e);exact⟨u,by simpa using h1,h2⟩
section
end
section
abbrev TF:=Str->St->Hp->(Str->Hp->Prop)->Prop
def PF(X:Cx)(es:List Expr)(t:TF):Prop:=∀(pins:List (Addr × Obj)) (s:Shared) (σ:St) (H:Hp) (out:Str) (Q:Str->Hp->Prop),Inv X pins σ H s->t out σ H Q->wpAny (model X.prog X.w) X.A (joinParts out (evalEach es X.env)) (fun v s'=>∃z H',Inv X pins σ H' s'/\RelV (.str z) v/\Q z H') X.xe s
def OC:TF:=fun out _ H Q=>out.length<=sizeLine/\Q out H
def N1(te:TE)(t:TF):TF:=fun out σ H Q=>te σ H fun x H1=>∃y,x= .str y/\y.length<=sizeLine/\(out++y).length<=sizeLine/\t (out++y) σ H1 Q
def D3:PF X [] OC:=fun pins s σ H out Q I h=>joinParts_nil ⟨out,H,I.tok _,⟨_,rfl⟩,h.2⟩ h.1
def oM(he:PE X e te)(hr:PF X es t):PF X (e::es) (N1 te t):=by
 intro pins s σ H out Q I h;show wpAny _ _ (joinParts out (eval e X.env::evalEach es X.env)) _ _ s;refine joinParts_cons (dt (he pins s σ H _ I h) fun v s1 ⟨x,H1,I1,r1,q1⟩=> ?_);obtain⟨y,rfl,_,hz,q⟩:=q1;obtain⟨u,rfl⟩:=r1;exact⟨hz,hr pins s1 σ H1 (out++y) Q I1 q⟩
def vK(he:PE X e te)(hr:PF X es t):PF X (.FormattedValue e (-1) none pos::es) (N1 te t):=by
 intro pins s σ H out Q I h;show wpAny _ _ (joinParts out (eval (.FormattedValue e (-1) none pos) X.env::evalEach es X.env)) _ _ s;refine joinParts_cons (FormattedValue_plain (dt (he pins s σ H _ I h) fun v s1 ⟨x,H1,I1,r1,q1⟩=> ?_));obtain⟨y,rfl,hy,hz,q⟩:=q1;obtain⟨u,rfl⟩:=r1;exact formatField_str (fun t' tk=>⟨hz,hr pins _ σ H1 (out++y) Q (I1.tok _) q⟩) hy
def OB(t:TF):TE:=fun σ H Q=>t Str.empty σ H fun z H'=>Q (.str z) H'
def BH{rest:List Expr}(h:PF X (v1::v2::rest) t):PE X (.JoinedStr (v1::v2::rest) pos) (OB t):=by
 intro pins s σ H Q I q;refine JoinedStr_many (dt (h pins s σ H Str.empty _ I q) fun v s1 ⟨z,H1,I1,r1,q1⟩=>⟨.str z,H1,I1,r1,q1⟩)
end
section
end
section
end
section
def Inv.turnedL{σ:St}{fp:List Addr}(I:Inv X pins σ H s)(hf:∀b∈fp,lS X pins H b)(k:∀b o,b∉fp->s.heap.get? b=some o->h'.get? b=some o):Inv X pins σ H {s with heap:=h',toks:=t'}:=by
 have nit:∀b u,H b=some u->b∉fp:=fun b u e z=>by rw[(hf b z).1] at e;cases e
 refine I.step (g':=s.gens) (d':=s.drawn) (ch:=fp) (fun b hb=> ?_) (fun b o _ _ hc e _=>k b o hc e) (fun b o _ _ hc e _=>⟨o.slots,k b o hc e⟩) (fun _ _ _ _ n=>n) (fun b o hc e=>⟨o,k b o hc e⟩) (fun _ _ e=>e) (fun _ _ _ e=>e) (fun b ps e=>⟨#[],by rw[e];simp⟩) (fun m hm=> ?_) (fun b u e=> ?_) I.bare
 · obtain⟨f0,f1,f2,f3,f4,f5⟩:=hf b hb;exact⟨f3,f1,f4,f5⟩
 · obtain⟨o,es,ep,ho,r⟩:=hm;exact⟨o,es,ep,k _ o (fun z=>(hf _ z).2.1 rfl) ho,r⟩
 · refine(I.hok b u e).stay (fun c v hc q=>k c v ?_ q) (fun _ q=>q) fun _ _ q=>q;rcases hc with z | z
   · rw[z];exact nit b u e
   · exact nit c _ z
def Inv.turnedT{σ:St}{fp:List Addr}{T:Addr}(I:Inv X pins σ H s)(hf:∀b∈fp,lS X pins H b)(k:∀b o,b∉fp->s.heap.get? b=some o->h'.get? b=some o)(hT:s.heap.objs.size<=T)(new:ObjOk X.prog X.w (upd H T u) h' T u):Inv X pins σ (upd H T u) {s with heap:=h',toks:=t'}:=by
 have nit:∀b u,H b=some u->b∉fp:=fun b u e z=>by rw[(hf b z).1] at e;cases e
 have hn:H T=none:=I.hok.fresh hT;have nT:∀b o,s.heap.get? b=some o->b≠T:=fun b o e=>bJ (ax (aU e) hT);refine I.step (g':=s.gens) (d':=s.drawn) (ch:=fp) (fun b hb=> ?_) (fun b o _ _ hc e _=>k b o hc e) (fun b o _ _ hc e _=>⟨o.slots,k b o hc e⟩) (fun b o _ e n=>by rw[aD (nT b o e)];exact n)
  (fun b o hc e=>⟨o,k b o hc e⟩) (fun b xs e=>by rw[aD (ba e hn)];exact e) (fun b o u e=>by rw[aD (ba e hn)];exact e) (fun b ps e=>⟨#[],by rw[aD (ba e hn),e];simp⟩) (fun m hm=> ?_) (fun b u' e=> ?_) I.bare
 · obtain⟨f0,f1,f2,f3,f4,f5⟩:=hf b hb;exact⟨f3,f1,f4,f5⟩
 · obtain⟨o,es,ep,ho,r⟩:=hm;exact⟨o,es,ep,k _ o (fun z=>(hf _ z).2.1 rfl) ho,r⟩
 · by_cases hb:b=T
   · subst hb;rw[aa] at e;cases e;exact new
   · rw[aD hb] at e;refine(I.hok b u' e).stay (fun c v hc q=>k c v ?_ q) (fun c q=>by rw[aD (ba q hn)];exact q) fun c xs q=>by rw[aD (ba q hn)];exact q
     rcases hc with z | z
     · rw[z];exact nit b u' e
     · exact nit c _ z
end
section
def parts_len(x:Str)(cuts:List Nat)(n:Nat):(Builtin.Str.partsBetween x cuts n).length=cuts.length+1:=by
 unfold Builtin.Str.partsBetween;simp
end
section
variable {κ:Type}[DecidableEq κ]
noncomputable def c_(kvs:List (κ × V))(k:κ):Option V:=(kvs.find? fun kv=>decide (kv.1=k)).map (·.2)
noncomputable def bV(kvs:List (κ × V))(k:κ)(v:V):List (κ × V):=if(kvs.any fun kv=>decide (kv.1=k))=true then kvs.map (fun kv=>if kv.1=k then(kv.1,v) else kv) else kvs++[(k,v)]
theorem fE{p:κ × V}{r:List (κ × V)}{k:κ}(e:p.1=k):c_ (p::r) k=some p.2:=by simp[c_,iE,e]
theorem fF{p:κ × V}{r:List (κ × V)}{k:κ}(e:¬ p.1=k):c_ (p::r) k=c_ r k:=by simp[c_,iE,e]
theorem ng(k:κ):∀kvs:List (κ × V),(kvs.any fun kv=>decide (kv.1=k))=(c_ kvs k).isSome
 | []=>rfl
 | p::r=>by
   rw[ir];by_cases e:p.1=k
   · simp only[fE e,ao e,Bool.true_or,Option.isSome_some]
   · rw[fF e,aj e,Bool.false_or];exact ng k r
theorem wM(k j:κ)(y:V):∀kvs:List (κ × V),c_ (kvs.map fun kv=>if kv.1=k then(kv.1,y) else kv) j=(c_ kvs j).map fun x=>if j=k then y else x
 | []=>rfl
 | p::r=>by
   have ih:=wM k j y r;rw[bQ];by_cases h:p.1=k
   · rw[aH h];by_cases e:p.1=j
     · rw[fE (p:=(p.1,y)) e,fE e,gm,aH (e.symm.trans h)]
     · rw[fF (p:=(p.1,y)) e,fF e,ih]
   · rw[aE h];by_cases e:p.1=j
     · rw[fE (p:=p) e,fE e,gm,aE (fun z=>h (e.trans z))]
     · rw[fF (p:=p) e,fF e,ih]
theorem tW(k j:κ)(y:V):∀kvs:List (κ × V),c_ kvs k=none->c_ (kvs++[(k,y)]) j=if j=k then some y else c_ kvs j
 | [],_=>by
   by_cases e:k=j
   · rw[aH e.symm];exact fE (p:=(k,y)) e
   · rw[aE (fun z=>e z.symm)];exact fF (p:=(k,y)) e
 | p::r,hn=>by
   rw[bT];have hk:¬ p.1=k:=fun z=>by rw[fE z] at hn;cases hn
   rw[fF hk] at hn;have ih:=tW k j y r hn;by_cases e:p.1=j
   · rw[fE e,fE e,aE (fun z=>hk (e.trans z))]
   · rw[fF e,fF e,ih]
theorem fV(kvs:List (κ × V))(k j:κ)(y:V):c_ (bV kvs k y) j=if j=k then some y else c_ kvs j:=by
 unfold bV;by_cases a:(kvs.any fun kv=>decide (kv.1=k))=true
 · rw[aH a,wM];rw[ng] at a;by_cases e:j=k
   · obtain⟨x,hx⟩:=Ku.mp a;rw[aH e,e,hx,gm,aH rfl]
   · rw[aE e];cases c_ kvs j with
     | none=>rfl
     | some x=>rw[gm,aE e]
 · rw[aE a];refine tW k j y kvs ?_;rw[ng] at a;cases q:c_ kvs k with
   | none=>rfl
   | some x=>rw[q] at a;exact(a rfl).elim
theorem dO(kvs:List (κ × V))(k:κ)(v:V):(bV kvs k v).length<=kvs.length+1:=by
 unfold bV
 split
 · rw[ai];lia
 · rw[ag,aV,cw];lia
theorem RelO.isSome_eq{o:Option V}{u:Option Value}(r:RelO o u):o.isSome=u.isSome:=by
 cases o with
 | none=>cases u with
   | none=>rfl
   | some _=>exact(show False from r).elim
 | some _=>cases u with
   | none=>exact(show False from r).elim
   | some _=>rfl
theorem RelO.getD{o:Option V}{u:Option Value}{d:V}{d':Value}(r:RelO o u)(rd:RelV d d'):RelV (o.getD d) (u.getD d'):=by
 cases o with
 | none=>cases u with
   | none=>exact rd
   | some _=>exact(show False from r).elim
 | some _=>cases u with
   | none=>exact(show False from r).elim
   | some _=>exact r
theorem KV.val{kvs:List (κ × V)}{vs:List (κ × Value)}(r:KV kvs vs)(k:κ):RelO (c_ kvs k) (valueAt vs k):=by
 unfold KV at r
 induction r with
 | nil=>exact True.intro
 | @cons p q ps qs h t ih=>
   obtain⟨h1,h2⟩:=h;by_cases e:p.1=k
   · have e':q.1=k:=h1.symm.trans e;have b:valueAt (q::qs) k=some q.2:=by simp[valueAt,iE,e']
     rw[fE e,b];exact h2
   · have e':¬ q.1=k:=fun z=>e (h1.trans z);have b:valueAt (q::qs) k=valueAt qs k:=by simp[valueAt,iE,e']
     rw[fF e,b];exact ih
theorem KV.any{kvs:List (κ × V)}{vs:List (κ × Value)}(r:KV kvs vs)(k:κ):(kvs.any fun kv=>decide (kv.1=k))=vs.any fun kv=>decide (kv.1=k):=by
 unfold KV at r
 induction r with
 | nil=>rfl
 | cons h t ih=>rw[ir,ir,ih,h.1]
theorem KV.repl{kvs:List (κ × V)}{vs:List (κ × Value)}(r:KV kvs vs)(k:κ){y:V}{u:Value}(ry:RelV y u):KV (kvs.map fun kv=>if kv.1=k then(kv.1,y) else kv) (vs.map fun kv=>if kv.1=k then(kv.1,u) else kv):=by
 unfold KV at r⊢
 induction r with
 | nil=>exact .nil
 | @cons p q ps qs h t ih=>
   rw[bQ,bQ];refine .cons ?_ ih;obtain⟨h1,h2⟩:=h;by_cases e:p.1=k
   · rw[aH e,aH (h1.symm.trans e)];exact⟨h1,ry⟩
   · rw[aE e,aE (fun z=>e (h1.trans z))];exact⟨h1,h2⟩
theorem KV.put{kvs:List (κ × V)}{vs:List (κ × Value)}(r:KV kvs vs)(k:κ){y:V}{u:Value}(ry:RelV y u):KV (bV kvs k y) (stored vs k u):=by
 unfold bV stored;rw[r.any k];by_cases e:(vs.any fun kv=>decide (kv.1=k))=true
 · rw[aH e,aH e];exact r.repl k ry
 · rw[aE e,aE e];exact Paired.snoc r ⟨rfl,ry⟩
theorem KV.length{kvs:List (κ × V)}{vs:List (κ × Value)}(r:KV kvs vs):kvs.length=vs.length:=aS r
end
def nV(r:RelV (kV k) u):(cW P w).is k u=true:=by
 cases k with
 | inl i=>obtain⟨t,e⟩:=(show ∃t,u=Value.int i t from r);subst e;exact yc P w i t
 | inr x=>obtain⟨t,e⟩:=(show ∃t,u=Value.str x t from r);subst e;exact yb P w x t
def JY(e:kV a=kV b):a=b:=by
 cases a with
 | inl i=>cases b with
   | inl j=>have e':V.int i=V.int j:=e;injection e' with e';rw[e']
   | inr y=>exact nomatch (show V.int i=V.str y from e)
 | inr x=>cases b with
   | inl j=>exact nomatch (show V.str x=V.int j from e)
   | inr y=>have e':V.str x=V.str y:=e;injection e' with e';rw[e']
theorem uG:∀{ks:List Key} {us:List Value},Vals (ks.map kV) us->ItemsAre (cW P w) ks us
 | [],_,r=>by rw[Mi] at r;cases r;exact .nil
 | k::ks,_,r=>by
   rw[bQ] at r;cases r with
   | cons h t=>exact .cons (nV h) (uG t)
abbrev KT(H:Hp):List (List Key × V)->List (List Key × Addr × Value)->Prop:=Paired fun p q=>p.1=q.1/\H q.2.1=some (.tup (p.1.map kV))/\RelV p.2 q.2.2
def KT.val(r:KT H kvs xs)(k:List Key):RelO (c_ kvs k) ((atKey xs k).map (·.2)):=by
 induction r with
 | nil=>exact True.intro
 | @cons p q ps qs h t ih=>
   obtain⟨h1,_,h2⟩:=h;by_cases e:p.1=k
   · have e':q.1=k:=h1.symm.trans e;have b:atKey (q::qs) k=some q.2:=by simp[atKey,iE,e']
     rw[fE e,b];exact h2
   · have e':¬ q.1=k:=fun z=>e (h1.trans z);have b:atKey (q::qs) k=atKey qs k:=by simp[atKey,iE,e']
     rw[fF e,b];exact ih
def KT.repl{H:Hp}{kvs:List (List Key × V)}{xs:List (List Key × Addr × Value)}(r:KT H kvs xs)(k:List Key){y:V}{u:Value}(ry:RelV y u):KT H (kvs.map fun kv=>if kv.1=k then(kv.1,y) else kv) (xs.map (putAt k u)):=by
 induction r with
 | nil=>exact .nil
 | @cons p q ps qs h t ih=>
   rw[bQ,bQ];refine .cons ?_ ih;obtain⟨h1,h2,h3⟩:=h;unfold putAt;by_cases e:p.1=k
   · rw[aH e,aH (h1.symm.trans e)];exact⟨h1,h2,ry⟩
   · rw[aE e,aE (fun z=>e (h1.trans z))];exact⟨h1,h2,h3⟩
def KT.put{H:Hp}{kvs:List (List Key × V)}{xs:List (List Key × Addr × Value)}(r:KT H kvs xs)(k:List Key){b:Addr}{y:V}{u:Value}(hb:H b=some (.tup (k.map kV)))(ry:RelV y u):KT H (bV kvs k y) (storedH xs k b u):=by
 have e:(kvs.any fun kv=>decide (kv.1=k))=(atKey xs k).isSome:=by
  rw[ng,(r.val k).isSome_eq,Av]
 unfold bV storedH;rw[e];by_cases q:(atKey xs k).isSome=true
 · rw[aH q,aH q];exact r.repl k ry
 · rw[aE q,aE q];exact Paired.snoc r ⟨rfl,hb,ry⟩
def KT.keeps(r:KT H kvs xs)(ht:∀b ys,H b=some (.tup ys)->H' b=some (.tup ys)):KT H' kvs xs:=Paired.mapP r fun _ _ z=>⟨z.1,ht _ _ z.2.1,z.2.2⟩
section
def Ia(ok:HOk P w H h)(e:Rd H a u):ObjOk P w H h a u:=e.ok ok
def sJ(ok:HOk P w H h)(e:Rd H a (.dK kvs)):kvs.length<=sizeLine/\(a==sysModules)=false/\∃vs,KV kvs vs/\h.DictOf (cW P w) a vs:=
 show ObjOk P w H h a (.dK kvs) from Ia ok e
def BW(ok:HOk P w H h)(e:H a=some (.dK kvs)):kvs.length<=sizeLine/\(a==sysModules)=false/\∃vs,KV kvs vs/\h.DictOf (cW P w) a vs:=sJ ok (.inl e)
def oZ(ok:HOk P w H h)(e:H a=some (.tup (ks.map kV))):(tupleKind (cW P w)).is h ks a:=by
 obtain⟨_,its,r,o,h1,h2,n,h3⟩:=(show ObjOk P w H h a (.tup (ks.map kV)) from ok a _ e);exact⟨o,its.toArray,n,h1,h2,h3,by simpa using uG r⟩
def sI(ok:HOk P w H h)(e:Rd H a (.dT kvs)):kvs.length<=sizeLine/\(a==sysModules)=false/\∃xs,KT H kvs xs/\h.DictOfH (tupleKind (cW P w)) a xs:=by
 obtain⟨z,y,xs,r,o,es,ep,h1,h2,h3,h4,h5⟩:=(show ObjOk P w H h a (.dT kvs) from Ia ok e);refine⟨z,y,xs,r,o,es,ep,h1,h2,h3,h4,fun x hx=> ?_,h5⟩;have all:∀{l:List (List Key × V)} {m:List (List Key × Addr × Value)},KT H l m->∀x∈m,(tupleKind (cW P w)).is h x.1 x.2.1:=by
  intro l m q
  induction q with
  | nil=>intro x hx;exact nomatch hx
  | @cons p q ps qs hq t ih=>
    intro x hx;rcases aL.mp hx with e | hx
    · subst e;exact oZ ok (by rw[<-hq.1];exact hq.2.1)
    · exact ih x hx
 exact all r x hx
def L4(ok:HOk P w H h)(e:H a=some (.dT kvs)):kvs.length<=sizeLine/\(a==sysModules)=false/\∃xs,KT H kvs xs/\h.DictOfH (tupleKind (cW P w)) a xs:=sI ok (.inl e)
end
def DGet(H:Hp)(a:Addr)(y:V)(r:Option V):Prop:=(∃kvs k,Rd H a (.dK kvs)/\y=kV k/\r=c_ kvs k)\/∃kvs k b,Rd H a (.dT kvs)/\y= .ref b/\H b=some (.tup (k.map kV))/\r=c_ kvs k
def DPut(H:Hp)(a:Addr)(y v:V)(H':Hp):Prop:=(∃kvs k,H a=some (.dK kvs)/\y=kV k/\kvs.length<sizeLine/\H'=upd H a (.dK (bV kvs k v)))\/∃kvs k b,H a=some (.dT kvs)/\y= .ref b/\H b=some (.tup (k.map kV))/\kvs.length<sizeLine/\H'=upd H a (.dT (bV kvs k v))
def DGet.k{k:Key}(e:H a=some (.dK kvs)):DGet H a (kV k) (c_ kvs k):= .inl ⟨kvs,k,.inl e,rfl,rfl⟩
def DGet.t{k:List Key}(e:H a=some (.dT kvs))(eb:H b=some (.tup (k.map kV))):DGet H a (.ref b) (c_ kvs k):= .inr ⟨kvs,k,b,.inl e,rfl,eb,rfl⟩
def DPut.k{k:Key}(e:H a=some (.dK kvs))(hl:kvs.length<sizeLine):DPut H a (kV k) v (upd H a (.dK (bV kvs k v))):= .inl ⟨kvs,k,e,rfl,hl,rfl⟩
section
def Inv.big{σ:St}(I:Inv X pins σ H s):sysModules<s.heap.objs.size:=by
 have h:mainGlobals<s.heap.objs.size:=(I.mod.glob.keeps I.bk).lt;exact Nat.lt_trans (by decide) h
def C2{σ:St}(hu:A.units+1<cLine)(I:Inv X pins σ H s)(g:DGet H a y (some v))(ry:RelV y u)(h:∀w' s',Inv X pins σ H s'->RelV v w'->Q w' s'):wpAny (model X.prog X.w) A (getItem (.ref a) u) Q E s:=by
 rcases g with⟨kvs,k,e,ey,l⟩ | ⟨kvs,k,b,e,ey,eb,l⟩
 · subst ey;obtain⟨z,hd,vs,rel,dd⟩:=sJ I.hok e;obtain⟨w',hw,rw'⟩:=RelO.some_of (v:=v) (o:=valueAt vs k) (by rw[l];exact rel.val k);exact wpAny_getItem_of (nV ry) dd.mapOf hw (h w' _ (I.tok _) rw')
 · subst ey;cases(show u=Value.ref b from ry);obtain⟨z,hd,xs,rel,dd⟩:=sI I.hok e;obtain⟨w',hw,rw'⟩:=RelO.some_of (v:=v) (o:=(atKey xs k).map (·.2)) (by rw[l];exact rel.val k);obtain⟨p,hp,hp2⟩:=bP.mp hw;refine wpAny_getItem_heap (iI hu) (oZ I.hok eb) dd hp ?_;rw[hp2];exact h w' _ (I.tok _) rw'
def NG{σ:St}(hu:A.units+1<cLine)(I:Inv X pins σ H s)(g:DGet H a y o)(ry:RelV y u)(h:∀s',Inv X pins σ H s'->Q (.bool o.isSome) s'):wpAny (model X.prog X.w) A (compareOp .In u (.ref a)) Q E s:=by
 rcases g with⟨kvs,k,e,ey,l⟩ | ⟨kvs,k,b,e,ey,eb,l⟩
 · subst ey;obtain⟨z,hd,vs,rel,dd⟩:=sJ I.hok e;refine wpAny_in_of (nV ry) hd dd.mapOf ?_;rw[<-(rel.val k).isSome_eq,<-l];exact h _ (I.tok _)
 · subst ey;cases(show u=Value.ref b from ry);obtain⟨z,hd,xs,rel,dd⟩:=sI I.hok e;refine wpAny_in_heap (iI hu) (oZ I.hok eb) hd dd ?_;have q:=(rel.val k).isSome_eq;rw[Av] at q;rw[<-q,<-l];exact h _ (I.tok _)
def Ht{σ:St}(hu:A.units+1<cLine)(I:Inv X pins σ H s)(g:DGet H a y o)(ry:RelV y u)(h:∀s',Inv X pins σ H s'->Q (.bool (!o.isSome)) s'):wpAny (model X.prog X.w) A (compareOp .NotIn u (.ref a)) Q E s:=by
 rcases g with⟨kvs,k,e,ey,l⟩ | ⟨kvs,k,b,e,ey,eb,l⟩
 · subst ey;obtain⟨z,hd,vs,rel,dd⟩:=sJ I.hok e;refine wpAny_notIn_of (nV ry) hd dd.mapOf ?_;rw[<-(rel.val k).isSome_eq,<-l];exact h _ (I.tok _)
 · subst ey;cases(show u=Value.ref b from ry);obtain⟨z,hd,xs,rel,dd⟩:=sI I.hok e;refine wpAny_notIn_heap (iI hu) (oZ I.hok eb) hd dd ?_;have q:=(rel.val k).isSome_eq;rw[Av] at q;rw[<-q,<-l];exact h _ (I.tok _)
def qH{σ:St}(I:Inv X pins σ H s)(mu:Mh (H a))(hs:Heap.SameBut a s.heap h')(he:∃q,h'.get? a=some q)(new:ObjOk X.prog X.w (upd H a ob) h' a ob):Inv X pins σ (upd H a ob) {s with heap:=h',toks:=t'}:=I.write (x:=a) (e:=a) mu (.inl rfl) (fun b q hb z=>(hs.2 b hb).trans z) he new
def Aq(z:kvs.length<=sizeLine)(hd:(a==sysModules)=false)(rel:KV kvs vs)(dd:h'.DictOf (cW P w) a vs):ObjOk P w H' h' a (.dK kvs):=⟨z,hd,vs,rel,dd⟩
def C1{σ:St}(hu:A.units+1<cLine)(I:Inv X pins σ H s)(g:DPut H a y v H')(ry:RelV y u)(rv:RelV v r)(h:∀s',Inv X pins σ H' s'->Q () s'):wpAny (model X.prog X.w) A (setItem (.ref a) u r) Q E s:=by
 rcases g with⟨kvs,k,e,ey,l,eH⟩ | ⟨kvs,k,b,e,ey,eb,l,eH⟩
 · subst ey eH;obtain⟨z,hd,vs,rel,dd⟩:=BW I.hok e;have hz:vs.length<=sizeLine:=by rw[<-rel.length];exact z
   have hl:(bV kvs k v).length<=sizeLine:=by have:=dO kvs k v;lia
   refine wpAny_setItem_pairs (hsz:=hz) (nV ry) dd fun h' dd' hs=>h _ ?_;have he:∃q,h'.get? a=some q:=let⟨q,_,_,hq,_⟩:=dd';⟨q,hq⟩
   exact qH I (by rw[e];exact True.intro) hs he (Aq hl hd (rel.put k rv) dd')
 · subst ey eH;cases(show u=Value.ref b from ry);obtain⟨z,hd,xs,rel,dd⟩:=L4 I.hok e;have hz:xs.length<=sizeLine:=by rw[<-aS rel];exact z
   have hl:(bV kvs k v).length<=sizeLine:=by have:=dO kvs k v;lia
   refine wpAny_setItem_heap (hsz:=hz) (iI hu) (oZ I.hok eb) dd fun h' dd' hs=>h _ ?_;obtain⟨q,es,ep,hq,h2,h3,h4,_,h5⟩:=dd';refine qH I (by rw[e];exact True.intro) hs ⟨q,hq⟩ ⟨hl,hd,_,(rel.put k eb rv).keeps fun c ys ec=> ?_,q,es,ep,hq,h2,h3,h4,h5⟩;rw[aD (Ik ec e (fun z=>nomatch z))];exact ec
end
section
end
def HF(i:Expr):Prop:=∀ov iv,subscripted i false ov iv=operate [ov,iv] (getItem ov iv)
def AK{id:String}(hl:typeLookup (.type T) "__getitem__"=pure (some (.builtin id)))(hs:HF slice)(h:wpAny (model prog w) A (eval value env) (fun o s₁=>wpAny (model prog w) A (eval slice env) (fun i s₂=>s₂.TypeIs o T/\wpAny (model prog w) A (getItem o i) Q E s₂) E s₁) E s):wpAny (model prog w) A (eval (.Subscript value slice pos) env) Q E s:=by
 refine OU (cP h (fun o s₁ h₁=>cP h₁ (fun i s₂ h₂=> ?_) fun _ _ x=>x) fun _ _ x=>x);obtain⟨hT,h₂⟩:=h₂;unfold subscriptTail;refine ae ?_;rw[getitemInPython_of_ne hT.not_modules];refine ae (wpAny_specialOf hT hl ?_);have fin:wpAny (model prog w) A (subscripted slice false o i) (fun r s₃=>wpAny (model prog w) A (letTemporaryGo value o r>>=fun _=>pure r) Q E s₃) E s₂:=by
  rw[hs o i];exact wpAny_operating (cP h₂ (fun r s₃ h₃=>ae (wpAny_letTemporaryGo (aI h₃))) fun _ _ x=>x)
 first
  | exact aI (ae fin)
  | exact ae (aI (ae fin))
  | exact ae fin
def yA{σ:St}(I:Inv X pins σ H s)(g:DGet H a y o):s.TypeIs (.ref a) "dict":=by
 rcases g with⟨kvs,k,e,_,_⟩ | ⟨kvs,k,b,e,_,_,_⟩
 · obtain⟨_,_,vs,_,dd⟩:=sJ I.hok e;exact dd.typeIs
 · obtain⟨_,_,xs,_,dd⟩:=sI I.hok e;exact dd.typeIs
def wR(td ty:TE):TE:=fun σ H Q=>td σ H fun x H1=>ty σ H1 fun y H2=>onR x fun a=>∃v,DGet H2 a y (some v)/\Q v H2
def Lm(td ty tv:TE):TS:=fun D σ H=>tv σ H fun v H1=>td σ H1 fun x H2=>ty σ H2 fun y H3=>onR x fun a=>∃H4,DPut H3 a y v H4/\D.nx σ H4
section
def GG(hu:X.A.units+1<cLine)(ho:PE X o td)(hi:PE X i ty)(hs:HF i):PE X (.Subscript o i pos) (wR td ty):=by
 intro pins s σ H Q I h;refine AK IG.lookup hs (dt (ho pins s σ H _ I h) fun u s1 ⟨x,H1,I1,rx,q1⟩=>dt (hi pins s1 σ H1 _ I1 q1) fun iv s2 ⟨y,H2,I2,ry,q0⟩=> ?_);obtain⟨a,ex,v,g,q2⟩:=onR.ex q0;subst ex;obtain rfl:u=Value.ref a:=rx;exact⟨yA I2 g,C2 hu I2 g ry fun w' s3 I3 rw'=>⟨v,H2,I3,rw',q2⟩⟩
def dW(hu:X.A.units+1<cLine)(ho:PE X o td)(hi:PE X i ty)(hv:PE X value tv)(hs:swapsWith value (some (.Subscript o i pos')) pos.line X.env=pure false):PS X (.Assign [.Subscript o i pos'] value pos) (Lm td ty tv):=by
 intro pins s σ H D I h;refine wpAny_Assign_Subscript (dt (hv pins s σ H _ I h) fun r s1 ⟨v,H1,I1,rv,q1⟩=>dt (ho pins s1 σ H1 _ I1 q1) fun u s2 ⟨x,H2,I2,rx,q2⟩=>dt (hi pins s2 σ H2 _ I2 q2) fun iv s3 ⟨y,H3,I3,ry,q0⟩=> ?_) hs;obtain⟨a,ex,H4,g,q3⟩:=onR.ex q0;subst ex;obtain rfl:u=Value.ref a:=rx;exact C1 hu I3 g ry rv fun s4 I4=>⟨σ,H4,I4,q3⟩
end
def yy(h:Heap)(hb:sysModules<h.objs.size):ObjOk P w H (h.push {cls:= .type "dict",data:= .dict #[]}) h.objs.size (.dK []):=⟨ay _,cv.mpr (bI (bJ hb)),[],.nil,Heap.DictOf.new h⟩
def Fj(h:Heap)(hb:sysModules<h.objs.size):ObjOk P w H (h.push {cls:= .type "dict",data:= .dict #[]}) h.objs.size (.dT []):=⟨ay _,cv.mpr (bI (bJ hb)),[],.nil,_,#[],0,bf _ rfl,⟨rfl,rfl,rfl⟩,rfl,rfl,List.nodup_nil⟩
def Dw:TE:=fun _ H Q=>∀p,H p=none->Q (.ref p) (upd H p (.dK []))
def Dv:TE:=fun _ H Q=>∀p,H p=none->Q (.ref p) (upd H p (.dT []))
section
def cL:PE X (.Dict [] [] pos) Dw:=fun pins s σ H Q I h=>
 wpAny_Dict_empty ⟨.ref s.heap.objs.size,_,I.laid (a:=s.heap.objs.size) (o:= .dK []) (t':=s.toks) (fun _ _ q=>aC _ q) (au _) (yy s.heap I.big),rfl,h _ (I.hok.fresh (au _))⟩
def kA:PE X (.Dict [] [] pos) Dv:=fun pins s σ H Q I h=>
 wpAny_Dict_empty ⟨.ref s.heap.objs.size,_,I.laid (a:=s.heap.objs.size) (o:= .dT []) (t':=s.toks) (fun _ _ q=>aC _ q) (au _) (Fj s.heap I.big),rfl,h _ (I.hok.fresh (au _))⟩
end
structure M2(X:Cx)(o:Expr)(m:Str)(apos:Pos)(e f:Expr)(cpos:Pos):Prop where
 base:attributeBase o m X.env (eval o X.env)=eval o X.env
 few:((backTo cpos (starEach [e,f] X.env)).all (fun x=> !x.1)&&(backToKw cpos (keywordEach [] X.env)).all (fun x=>x.1.isSome)&&decide (([e,f]:List Expr).length+([]:List Keyword).length+(if([]:List Keyword).isEmpty then 0 else 1)<30))=true
 line:(apos.endLine==cpos.line)=true
 trees:backTo cpos (starEach [e,f] X.env)=[(false,eval e X.env),(false,eval f X.env)]
def NX(H:Hp)(a:Addr):Prop:=(∃kvs,Rd H a (.dK kvs))\/∃kvs,Rd H a (.dT kvs)
def EZ{σ:St}(I:Inv X pins σ H s)(d:NX H a):s.TypeIs (.ref a) "dict"/\(∀b,Value.ref a= .ref b->∃ob,s.heap.get? b=some ob/\ob.dict=none)/\(a==sysModules)=false:=by
 rcases d with⟨kvs,e⟩ | ⟨kvs,e⟩
 · obtain⟨_,hd,vs,_,dd⟩:=sJ I.hok e;refine⟨dd.typeIs,fun b q=> ?_,hd⟩;cases q;obtain⟨ob,_,_,h1,h2,_⟩:=dd;exact⟨ob,h1,h2.2.1⟩
 · obtain⟨_,hd,xs,_,dd⟩:=sI I.hok e;refine⟨dd.typeIs,fun b q=> ?_,hd⟩;cases q;obtain⟨ob,_,_,h1,h2,_⟩:=dd;exact⟨ob,h1,h2.2.1⟩
section
def Ke{σ:St}(hu:A.units+1<cLine)(I:Inv X pins σ H s)(g:DGet H a y o)(ry:RelV y u)(rd:RelV d r)(h:∀w' s',Inv X pins σ H s'->RelV (o.getD d) w'->Q w' s'):wpAny (model X.prog X.w) A (call (.builtin "dict.get") [.ref a,u,r]) Q E s:=by
 rcases g with⟨kvs,k,e,ey,l⟩ | ⟨kvs,k,b,e,ey,eb,l⟩
 · subst ey;obtain⟨z,hd,vs,rel,dd⟩:=sJ I.hok e;refine L5 sX dd.typeIs Md (KR _ _ _) (meets_dict_get_default (cW X.prog X.w) a (nV ry) hd r) ⟨_,dd.mapOf,h _ _ (I.tok _) ?_⟩;rw[l];exact(rel.val k).getD rd
 · subst ey;cases(show u=Value.ref b from ry);obtain⟨z,hd,xs,rel,dd⟩:=sI I.hok e;refine L5 sX dd.typeIs Md (KR _ _ _) (meetsH_dict_get_default (tupleKind (cW X.prog X.w)) a b hd r) ⟨iI hu,k,xs,oZ I.hok eb,dd,h _ _ (I.tok _) ?_⟩;rw[l];exact(rel.val k).getD rd
end
def uZ(td ty tx:TE):TE:=fun σ H Q=>td σ H fun x H1=>onR x fun a=>NX H1 a/\ty σ H1 fun y H2=>tx σ H2 fun z H3=>∃o,DGet H3 a y o/\Q (o.getD z) H3
section
def D7(hu:X.A.units+1<cLine)(ho:PE X o td)(he:PE X e ty)(hf:PE X f tx)(m:M2 X o "get" apos e f cpos):PE X (.Call (.Attribute o "get" apos) [e,f] [] cpos) (uZ td ty tx):=by
 intro pins s σ H Q I h;refine O8 m.base m.few m.line KP sX PySem.F.type_dict_get (dt (ho pins s σ H _ I h) fun u s1 ⟨x,H1,I1,rx,q0⟩=> ?_);obtain⟨a,ex,d,q1⟩:=onR.ex q0;subst ex;obtain rfl:u=Value.ref a:=rx;obtain⟨t1,t2,_⟩:=EZ I1 d;refine⟨t1,t2,?_⟩;rw[m.trees];refine jd rfl (tQ (iM (dt (he pins s1 σ H1 _ I1 q1) fun iv s2 ⟨y,H2,I2,ry,q2⟩=>
  iM (dt (hf pins s2 σ H2 _ I2 q2) fun fv s3 ⟨z,H3,I3,rz,ov,g,q3⟩=>Ay ?_))))
 exact Ke hu I3 g ry rz fun w' s4 I4 rw'=>⟨_,H3,I4,rw',q3⟩
end
section
end
section
end
section
variable {κ:Type}[DecidableEq κ]
end
def zC(h:(cW P w).is k u=true):RelV (kV k) u:=by
 rw[Aa] at h;rcases keyIs_shape h with⟨i,t,rfl,rfl⟩ | ⟨x,t,rfl,rfl⟩
 · exact⟨t,rfl⟩
 · exact⟨t,rfl⟩
section
end
section
end
inductive Dat where
 | int (i:Int)
 | str (x:Str)
 | tup (ds:List Dat)
 | lst (ds:List Dat)
 | dct (ks:List (Str × Dat))
mutual
def Da(H:Hp):Dat->V->Prop
 | .int i,v=>v= .int i
 | .str x,v=>v= .str x
 | .tup ds,v=>∃p xs,v= .ref p/\H p=some (.tup xs)/\MM H ds xs
 | .lst ds,v=>∃p xs,v= .ref p/\H p=some (.lst xs)/\MM H ds xs
 | .dct ks,v=>∃p l,v= .ref p/\H p=some (.dK l)/\Oq H ks l
def MM(H:Hp):List Dat->List V->Prop
 | [],xs=>xs=[]
 | d::ds,xs=>∃x r,xs=x::r/\Da H d x/\MM H ds r
def Oq(H:Hp):List (Str × Dat)->List (Key × V)->Prop
 | [],l=>l=[]
 | (k,d)::ks,l=>∃x r,l=(.inr k,x)::r/\Da H d x/\Oq H ks r
end
example (H:Hp) (i:Int) (v:V):Da H (.int i) v=(v= .int i):=rfl
example (H:Hp) (ds:List Dat) (v:V):Da H (.tup ds) v=(∃p xs,v= .ref p/\H p=some (.tup xs)/\MM H ds xs):=rfl
mutual
def Dat.nd:Dat->Prop
 | .int _=>True
 | .str _=>True
 | .tup ds=>Nu ds
 | .lst ds=>Nu ds
 | .dct ks=>(ks.map (·.1)).Nodup/\N6 ks
def Nu:List Dat->Prop
 | []=>True
 | d::ds=>d.nd/\Nu ds
def N6:List (Str × Dat)->Prop
 | []=>True
 | (_,d)::ks=>d.nd/\N6 ks
end
section
end
end L2
set_option maxHeartbeats 400000
namespace L2
open PySem PySem.Spec PyProof.Rows
section
end
section
end
section
end
section
end
def C3{σ:St}(I:Inv X pins σ H s)(e:H a=some (.dK kvs))(l:kvs.length<sizeLine)(ry:RelV (kV k) u)(rv:RelV v r)(h:∀s',Inv X pins σ (upd H a (.dK (bV kvs k v))) s'->Q () s'):wpAny (model X.prog X.w) A (dictSet a u r) Q E s:=by
 obtain⟨z,hd,vs,rel,dd⟩:=BW I.hok e;have hz:vs.length<=sizeLine:=by rw[<-rel.length];exact z
 have hl:(bV kvs k v).length<=sizeLine:=by have:=dO kvs k v;lia
 refine wpAny_dictSet_pairs (nV ry) dd (fun h' dd' hs=>h _ ?_) hz;have he:∃q,h'.get? a=some q:=let⟨q,_,_,hq,_⟩:=dd';⟨q,hq⟩
 exact qH I (by rw[e];exact True.intro) hs he (Aq hl hd (rel.put k rv) dd')
section
end
section
def oR(hu:X.A.units+1<cLine):j4 X (compareOp .In) (fun x y H Q=>∃a o,y= .ref a/\DGet H a x o/\Q (.bl o.isSome) H):=by
 intro pins s σ H x y v u Q I rx ry h;obtain⟨a,o,rfl,g,q⟩:=h;cases ry;exact NG hu I g rx fun s' I'=>⟨.bl o.isSome,H,I',rfl,q⟩
def iN(hu:X.A.units+1<cLine):j4 X (compareOp .NotIn) (fun x y H Q=>∃a o,y= .ref a/\DGet H a x o/\Q (.bl (!o.isSome)) H):=by
 intro pins s σ H x y v u Q I rx ry h;obtain⟨a,o,rfl,g,q⟩:=h;cases ry;exact Ht hu I g rx fun s' I'=>⟨.bl (!o.isSome),H,I',rfl,q⟩
theorem tU:∀{kvs:List (Key × V)} {vs:List (Key × Value)} {ss:List Str} {acc:List Value},KV kvs vs->kvs.map (·.1)=ss.map Sum.inr->acc.length=vs.length->(∀(j:Nat) (v:Value),acc[j]? =some v->∃k x,vs[j]? =some (k,x)/\(cW P w).is k v=true)->Vals (ss.map V.str) acc
 | [],_,ss,acc,.nil,e,hl,_=>by
   cases ss with
   | nil=>cases acc with
     | nil=>exact .nil
     | cons a l=>simp at hl
   | cons a l=>simp at e
 | kv::kvs,_,ss,acc,.cons (b:=q) (l₂:=vs) r t,e,hl,h=>by
   cases ss with
   | nil=>simp at e
   | cons y ss=>
     cases acc with
     | nil=>simp at hl
     | cons u acc=>
       simp only[bQ,bC] at e;obtain⟨k,x,e1,e2⟩:=h 0 u rfl;simp only[List.getElem?_cons_zero,mX] at e1;subst e1;have r1:kv.1=k:=r.1;have hk:k=Sum.inr y:=r1.symm.trans e.1;subst hk;refine .cons (zC e2) (tU (P:=P) (w:=w) t e.2 (by simpa using hl) fun j v hj=> ?_);exact h (j+1) v (by simpa using hj)
end
end L2
set_option maxHeartbeats 1000000
namespace L2
open PySem PySem.Spec PyProof.Rows
section
def jZ(hit:s.heap.IsTupleIter it t i)(ht:s.heap.IsTuple t items)(hx:items[i]? =some x)(hQ:∀h':Heap,h'.IsTupleIter it t (i+1)->Heap.SameBut it s.heap h'->Q x {s with heap:=h'}):wpAny (model prog w) A (Builtin.SmallTypes.nextOf (.ref it)) Q E s:=by
 obtain⟨o,ho,hc,hd⟩:=id hit;obtain⟨ol,hol,_,nl,hdl⟩:=ht;refine ae (eE hit.typeIs gT (gX gT hit.typeIs FW ?_ (FM _)));refine ae (mT (a:=(Value.ref it,[])) rfl ?_);refine ae (dD ho hd rfl ?_);show wpAny _ _ (do
  let __x<-field (.ref it) 1
  _) _ _ _
 refine ae (dD ho hd rfl ?_);refine ae (gQ hol hdl ?_);have e:items[(Int.toNat (i:Int))]? =some x:=by simpa using hx
 simp only[e];refine ae (wpAny_setField ho hd (by simp) (aI ⟨x,rfl,aI (hQ _ ⟨_,sZ _ ho (Obj.isFreed_of_fields (OY hd _)),?_,?_⟩ (wF _ _ _))⟩))
 · rw[Obj.cls_mapFields];exact hc
 · rw[OY hd];simp[rawInt]
def rW(hh:A.handled=none)(hit:s.heap.IsTupleIter it t i)(ht:s.heap.IsTuple t items)(hx:items[i]? =none)(hE:∀h' e,Heap.ExtBut it s.heap h'->(∃o,h'.get? e=some o/\o.cls= .type "StopIteration")->E (.ref e) {s with heap:=h'}):wpAny (model prog w) A (Builtin.SmallTypes.nextOf (.ref it)) Q E s:=by
 obtain⟨o,ho,hc,hd⟩:=id hit;obtain⟨ol,hol,_,nl,hdl⟩:=ht;refine ae (eE hit.typeIs gT (gX gT hit.typeIs FW ?_ (FM _)));refine ae (mT (a:=(Value.ref it,[])) rfl ?_);refine ae (dD ho hd rfl ?_);show wpAny _ _ (do
  let __x<-field (.ref it) 1
  _) _ _ _
 refine ae (dD ho hd rfl ?_);refine ae (gQ hol hdl ?_);have e:items[(Int.toNat (i:Int))]? =none:=by simpa using hx
 simp only[e];refine ae (jw (ae (wpAny_setField ho hd (by simp) ?_)));refine ae (ae (tm ?_));refine ae (mT rfl ?_);refine dQ ?_ (sizeOk_excFields _ _ _ _ _ _ _ _);refine wpAny_raiseNew_none hh (hE _ _ ?_ ⟨_,bf _ rfl,rfl⟩);exact Heap.ExtBut.push (Heap.ExtBut.push (Heap.SameBut.extBut (wF _ _ _)) _) _
end
section
def gJ(ht:h.IsTuple p us)(e:Heap.ExtBut q h h')(hn:p≠q):h'.IsTuple p us:=by
 obtain⟨o,ho,r⟩:=ht;exact⟨o,e p o hn ho,r⟩
def qM{TI TO:Addr}{Q:Value->Shared->Prop}(D:ZipApart z TI TO i1 i2 l1 l2)(hz:IsZip s.heap z TI TO .none)(hTI:IsPair s.heap TI (.ref i1) (.ref i2))(hTO:IsPair s.heap TO a b)(h1:s.heap.IsTupleIter i1 l1 k1)(h2:s.heap.IsTupleIter i2 l2 k2)(hl1:s.heap.IsTuple l1 xs)(hl2:s.heap.IsTuple l2 ys)(hx:xs[k1]? =some x)(hy:ys[k2]? =some y)(hQ:∀h':Heap,IsZip h' z TI TO (rawInt ↑(Array.size s.heap.objs))->IsPair h' TO x y->h'.IsTupleIter i1 l1 (k1+1)->h'.IsTupleIter i2 l2 (k2+1)->IsPair h' (Array.size s.heap.objs) x y->Array.size h'.objs=Array.size s.heap.objs+1->(∀c o,c≠z->c≠TO->c≠i1->c≠i2->s.heap.get? c=some o->h'.get? c=some o)->Q (.ref (Array.size s.heap.objs)) {s with heap:=h'}):wpAny (model prog w) A (Builtin.«zip.__next__» {pos:=[.ref z]}) (fun fin s'=>∃v,fin=Fin.done (Flow.ret v)/\Q v s') E s:=by
 refine ae (mT (a:=(Value.ref z,[])) rfl ?_);refine ae (dD hz rfl rfl ?_);refine ae (dD hz rfl rfl ?_);refine ae (gQ hTI rfl ?_);show wpAny _ _ (do
  let __do_lift<-Builtin.SmallTypes.ownedTupleIsFree (.ref z)
  _) _ _ _
 refine ae (ae (dD hz rfl rfl (aI ?_)));show wpAny _ _ (do
  rule "zip.__next__.owned-tuple-again"
  _) _ _ _
 refine ae (jw (ae (dD hz rfl rfl ?_)));refine ae (iF hz (by simp) fun h₁ hz₁ hs₁=> ?_);have hz₁:IsZip h₁ z TI TO .ellipsis:=hz₁;refine ae ?_;show wpAny _ _ (forIn [(Value.ref i1,0),(Value.ref i2,1)] (none,()) _) _ _ _;rw[iD];refine ae (ae (IJ ?_));show wpAny _ _ (do
  let v<-Builtin.SmallTypes.nextOf (.ref i1)
  pure (some v)) _ _ _
 refine ae (jZ (h1.extBut hs₁.extBut D.i1z) (gJ hl1 hs₁.extBut D.l1z) hx fun h₂ h1₂ hs₂=>aI ?_);have hTO₂:IsPair h₂ TO a b:=hs₂.extBut TO _ D.TOi1 (hs₁.extBut TO _ D.TOz hTO);refine ae (gQ hTO₂ rfl (ae (MN hTO₂ fun h₃ hTO₃ hs₃=> ?_)));have hTO₃:IsPair h₃ TO x b:=hTO₃;refine ae (wpAny_letGo (aI ?_));show wpAny _ _ (forIn [(Value.ref i2,1)] (none,()) _) _ _ _;rw[iD];refine ae (ae (IJ ?_));show wpAny _ _ (do
  let v<-Builtin.SmallTypes.nextOf (.ref i2)
  pure (some v)) _ _ _
 refine ae (jZ (((h2.extBut hs₁.extBut D.i2z).extBut hs₂.extBut (bI D.i12)).extBut hs₃.extBut (bI D.TOi2)) (gJ (gJ (gJ hl2 hs₁.extBut D.l2z) hs₂.extBut D.l2i1) hs₃.extBut D.l2TO) hy fun h₄ h2₄ hs₄=>aI ?_);have hTO₄:IsPair h₄ TO x b:=hs₄.extBut TO _ D.TOi2 hTO₃;refine ae (gQ hTO₄ rfl (ae (MN hTO₄ fun h₅ hTO₅ hs₅=> ?_)));have hTO₅:IsPair h₅ TO x y:=hTO₅;refine ae (wpAny_letGo (aI ?_));show wpAny _ _ (forIn [] (none,()) _) _ _ _;rw[List.forIn_nil];refine aI ?_;refine ae (gQ hTO₅ rfl (ae (tm ?_)));have hsz:h₅.objs.size=s.heap.objs.size:=by rw[hs₅.1,hs₄.1,hs₃.1,hs₂.1,hs₁.1]
 have hz₅:IsZip h₅ z TI TO .ellipsis:=hs₅.extBut z _ (bI D.TOz) (hs₄.extBut z _ (bI D.i2z) (hs₃.extBut z _ (bI D.TOz) (hs₂.extBut z _ (bI D.i1z) hz₁)));have hk₅:∀c o,c≠z->c≠TO->c≠i1->c≠i2->s.heap.get? c=some o->h₅.get? c=some o:=fun c o c1 c2 c3 c4 e=>hs₅.extBut c o c2 (hs₄.extBut c o c4 (hs₃.extBut c o c2 (hs₂.extBut c o c3 (hs₁.extBut c o c1 e))));have h1₅:=((h1₂.extBut hs₃.extBut (bI D.TOi1)).extBut hs₄.extBut D.i12).extBut hs₅.extBut (bI D.TOi1);have h2₅:=h2₄.extBut hs₅.extBut (bI D.TOi2);have hzlt:=aU hz₅;have hTOlt:=aU hTO₅;have hi1lt:i1<h₅.objs.size:=by obtain⟨o,e,_⟩:=h1₅;exact aU e
 have hi2lt:i2<h₅.objs.size:=by obtain⟨o,e,_⟩:=h2₅;exact aU e
 refine ae ?_;have hz₆:IsZip (h₅.push {cls:= .type "tuple",data:= .seq [x,y].toArray}) z TI TO .ellipsis:=aC _ hz₅;refine ae (iF hz₆ (by simp) fun h₇ hz₇ hs₇=> ?_);refine iF hz₇ (by simp) fun h₈ hz₈ hs₈=> ?_;have up:∀c o,c≠z->h₅.get? c=some o->h₈.get? c=some o:=fun c o c1 e=>hs₈.extBut c o c1 (hs₇.extBut c o c1 (aC _ e));have hT₈:IsPair h₈ h₅.objs.size x y:=hs₈.extBut _ _ (jb hzlt) (hs₇.extBut _ _ (jb hzlt) (bf h₅ rfl));refine aI ⟨_,rfl,?_⟩;show Q (.ref h₅.objs.size) _;rw[hsz] at hT₈⊢;refine hQ h₈ ?_ (up _ _ D.TOz hTO₅) ?_ ?_ hT₈ ?_ fun c o c1 c2 c3 c4 e=>up c o c1 (hk₅ c o c1 c2 c3 c4 e)
 · rw[<-hsz];exact hz₈
 · obtain⟨o,e,r⟩:=h1₅;exact⟨o,up _ _ D.i1z e,r⟩
 · obtain⟨o,e,r⟩:=h2₅;exact⟨o,up _ _ D.i2z e,r⟩
 · rw[hs₈.1,hs₇.1,eo,hsz]
def tf{TI TO:Addr}(hh:A.handled=none)(D:ZipApart z TI TO i1 i2 l1 l2)(hz:IsZip s.heap z TI TO .none)(hTI:IsPair s.heap TI (.ref i1) (.ref i2))(h1:s.heap.IsTupleIter i1 l1 k1)(hl1:s.heap.IsTuple l1 xs)(hx:xs[k1]? =none)(hE:∀h' e,(∀c o,c≠z->c≠TO->c≠i1->c≠i2->s.heap.get? c=some o->h'.get? c=some o)->(∃o,h'.get? e=some o/\o.cls= .type "StopIteration")->E (.ref e) {s with heap:=h'}):wpAny (model prog w) A (Builtin.«zip.__next__» {pos:=[.ref z]}) Q E s:=by
 refine ae (mT (a:=(Value.ref z,[])) rfl ?_);refine ae (dD hz rfl rfl ?_);refine ae (dD hz rfl rfl ?_);refine ae (gQ hTI rfl ?_);show wpAny _ _ (do
  let __do_lift<-Builtin.SmallTypes.ownedTupleIsFree (.ref z)
  _) _ _ _
 refine ae (ae (dD hz rfl rfl (aI ?_)));show wpAny _ _ (do
  rule "zip.__next__.owned-tuple-again"
  _) _ _ _
 refine ae (jw (ae (dD hz rfl rfl ?_)));refine ae (iF hz (by simp) fun h₁ hz₁ hs₁=> ?_);have hz₁:IsZip h₁ z TI TO .ellipsis:=hz₁;refine ae ?_;show wpAny _ _ (forIn [(Value.ref i1,0),(Value.ref i2,1)] (none,()) _) _ _ _;rw[iD];refine ae (ae (IJ ?_));show wpAny _ _ (do
  let v<-Builtin.SmallTypes.nextOf (.ref i1)
  pure (some v)) _ _ _
 refine ae (rW hh (h1.extBut hs₁.extBut D.i1z) (gJ hl1 hs₁.extBut D.l1z) hx fun h₂ e eb₂ he=> ?_);have hz₂:IsZip h₂ z TI TO .ellipsis:=eb₂ z _ (bI D.i1z) hz₁;refine iF hz₂ (by simp) fun h₃ hz₃ hs₃=> ?_;obtain⟨o,ho,hc⟩:=he;have hez:e≠z:=fun q=>by
  rw[q,hz₂] at ho;cases ho;exact absurd (Value.type.inj hc) (by decide)
 exact hE h₃ e (fun c o c1 c2 c3 c4 q=>hs₃.extBut c o c1 (eb₂ c o c3 (hs₁.extBut c o c1 q))) ⟨o,hs₃.extBut e o hez ho,hc⟩
end
section
def oK{TI TO:Addr}(D:ZipApart z TI TO i1 i2 l1 l2)(hz:IsZip s.heap z TI TO .none)(hTI:IsPair s.heap TI (.ref i1) (.ref i2))(hTO:IsPair s.heap TO a b)(h1:s.heap.IsTupleIter i1 l1 k1)(h2:s.heap.IsTupleIter i2 l2 k2)(hl1:s.heap.IsTuple l1 xs)(hl2:s.heap.IsTuple l2 ys)(hx:xs[k1]? =some x)(hy:ys[k2]? =some y)(hQ:∀h':Heap,IsZip h' z TI TO (rawInt ↑(Array.size s.heap.objs))->IsPair h' TO x y->h'.IsTupleIter i1 l1 (k1+1)->h'.IsTupleIter i2 l2 (k2+1)->IsPair h' (Array.size s.heap.objs) x y->Array.size h'.objs=Array.size s.heap.objs+1->(∀c o,c≠z->c≠TO->c≠i1->c≠i2->s.heap.get? c=some o->h'.get? c=some o)->Q (some (.ref (Array.size s.heap.objs))) {s with heap:=h'}):wpAny (model prog w) A (pyNext (.ref z)) Q E s:=by
 have hT:s.TypeIs (.ref z) "zip":=⟨_,hz,rfl⟩;exact ae (wpAny_attempt (eE hT qL (gX qL hT F.entry_zip_next
  (qM D hz hTI hTO h1 h2 hl1 hl2 hx hy fun h' a1 a2 a3 a4 a5 a6 a7=>aI (hQ h' a1 a2 a3 a4 a5 a6 a7)) (Pg _))))
def qb{TI TO:Addr}(hh:A.handled=none)(D:ZipApart z TI TO i1 i2 l1 l2)(hz:IsZip s.heap z TI TO .none)(hTI:IsPair s.heap TI (.ref i1) (.ref i2))(h1:s.heap.IsTupleIter i1 l1 k1)(hl1:s.heap.IsTuple l1 xs)(hx:xs[k1]? =none)(hQ:∀h':Heap,(∀c o,c≠z->c≠TO->c≠i1->c≠i2->s.heap.get? c=some o->h'.get? c=some o)->Q none {s with heap:=h'}):wpAny (model prog w) A (pyNext (.ref z)) Q E s:=by
 have hT:s.TypeIs (.ref z) "zip":=⟨_,hz,rfl⟩;refine ae (wpAny_attempt (eE hT qL (gX qL hT F.entry_zip_next
  (tf (TO:=TO) hh D hz hTI h1 hl1 hx fun h' e hk he=> ?_) (Pg _))))
 obtain⟨o,ho,hc⟩:=he;exact ae (wpAny_isInstance ⟨o,ho,hc⟩ isSubtype_stop (aI (hQ h' hk)))
def vT(hQ:Q (.ref s.heap.objs.size) {s with heap:=s.heap.push {cls:= .type T,data:= .fields vs.toArray}})(hz:vs.length<=sizeLine):wpAny (model prog w) A (Builtin.SmallTypes.newRecord (.type T) vs) Q E s:=by
 show wpAny _ _ (newObj (.type T) (.fields vs.toArray)) _ _ _;refine dQ hQ ?_;show vs.toArray.size<=sizeLine+2;rw[aM];lia
def Di{s:Shared}(hl1:s.heap.IsTuple l1 xs)(hl2:s.heap.IsTuple l2 ys)(hQ:∀h':Heap,IsZip h' (s.heap.objs.size+4) (s.heap.objs.size+2) (s.heap.objs.size+3) .none->IsPair h' (s.heap.objs.size+2) (.ref s.heap.objs.size) (.ref (s.heap.objs.size+1))->IsPair h' (s.heap.objs.size+3) .none .none->h'.IsTupleIter s.heap.objs.size l1 0->h'.IsTupleIter (s.heap.objs.size+1) l2 0->h'.objs.size=s.heap.objs.size+5->(∀c o,s.heap.get? c=some o->h'.get? c=some o)->Q (.done (.ret (.ref (s.heap.objs.size+4)))) {s with heap:=h'}):wpAny (model prog w) A (Builtin.«zip.__new__» {pos:=[.type "zip",.ref l1,.ref l2]}) Q E s:=by
 have hL2:(s.heap.push {cls:= .type "tuple_iterator",data:= .fields #[.ref l1,.int 0 0]}).IsTuple l2 ys:=by
  obtain⟨o,ho,r⟩:=hl2;exact⟨o,aC _ ho,r⟩
 refine ae (ae (aI ?_));refine Dj rfl (ae (mT sub_zip ?_));refine Dj rfl (aI ?_);refine Dj rfl ?_;refine ae ?_;refine ae ?_;show wpAny _ _ (forIn [Value.ref l1,Value.ref l2] #[] _) _ _ _;rw[iD];refine ae (ae (dP (Ot hl1 (aI ?_))));show wpAny _ _ (forIn [Value.ref l2] _ _) _ _ _;rw[iD];refine ae (ae (dP (Ot hL2 (aI ?_))));show wpAny _ _ (forIn [] _ _) _ _ _;rw[List.forIn_nil];refine aI (aI ?_);refine ae (tm ?_ (show 2<=sizeLine from fw (bL (by decide))));refine ae (tm ?_ (show 2<=sizeLine from fw (bL (by decide))));refine ae (vT (aI ?_) (show 5<=sizeLine from fw (bL (by decide))));have z1:=eo s.heap {cls:= .type "tuple_iterator",data:= .fields #[.ref l1,.int 0 0]};generalize hh1:s.heap.push {cls:= .type "tuple_iterator",data:= .fields #[.ref l1,.int 0 0]}=H1 at z1⊢;have z2:=eo H1 {cls:= .type "tuple_iterator",data:= .fields #[.ref l2,.int 0 0]};have g1:H1.get? s.heap.objs.size=some {cls:= .type "tuple_iterator",data:= .fields #[.ref l1,.int 0 0]}:=by rw[<-hh1];exact bf _ rfl
 have o1:∀c o,s.heap.get? c=some o->H1.get? c=some o:=fun c o e=>by rw[<-hh1];exact aC _ e
 generalize hh2:H1.push {cls:= .type "tuple_iterator",data:= .fields #[.ref l2,.int 0 0]}=H2 at z2⊢;have g2:H2.get? H1.objs.size=some {cls:= .type "tuple_iterator",data:= .fields #[.ref l2,.int 0 0]}:=by rw[<-hh2];exact bf _ rfl
 have o2:∀c o,H1.get? c=some o->H2.get? c=some o:=fun c o e=>by rw[<-hh2];exact aC _ e
 rw[z1] at z2 g2;show Q (.done (.ret (.ref ((H2.push {cls:= .type "tuple",data:= .seq #[.ref s.heap.objs.size,.ref H1.objs.size]}).push {cls:= .type "tuple",data:= .seq #[.none,.none]}).objs.size)))
  {s with heap:=(((H2.push {cls:= .type "tuple",data:= .seq #[.ref s.heap.objs.size,.ref H1.objs.size]}).push {cls:= .type "tuple",data:= .seq #[.none,.none]}) |>.push ({cls:= .type "zip",data:= .fields #[.none,.bool false,.bool false,.ref H2.objs.size,.ref (H2.push {cls:= .type "tuple",data:= .seq #[.ref s.heap.objs.size,.ref H1.objs.size]}).objs.size]}:Obj))}
 rw[z1];generalize hh3:H2.push {cls:= .type "tuple",data:= .seq #[.ref s.heap.objs.size,.ref (s.heap.objs.size+1)]}=H3;have z3:H3.objs.size=H2.objs.size+1:=by rw[<-hh3,eo]
 have g3:H3.get? H2.objs.size=some {cls:= .type "tuple",data:= .seq #[.ref s.heap.objs.size,.ref (s.heap.objs.size+1)]}:=by rw[<-hh3];exact bf _ rfl
 have o3:∀c o,H2.get? c=some o->H3.get? c=some o:=fun c o e=>by rw[<-hh3];exact aC _ e
 generalize hh4:H3.push {cls:= .type "tuple",data:= .seq #[.none,.none]}=H4;have z4:H4.objs.size=H3.objs.size+1:=by rw[<-hh4,eo]
 have g4:H4.get? H3.objs.size=some {cls:= .type "tuple",data:= .seq #[.none,.none]}:=by rw[<-hh4];exact bf _ rfl
 have o4:∀c o,H3.get? c=some o->H4.get? c=some o:=fun c o e=>by rw[<-hh4];exact aC _ e
 rw[z2] at z3 g3;rw[z3] at z4 g4;have e4:H4.objs.size=s.heap.objs.size+4:=z4;have o5:=fun(c:Addr) (o:Obj) (Z:Obj) (e:H4.get? c=some o)=>aC Z e;rw[z2,z3,e4];refine hQ _ ?_ (o5 _ _ _ (o4 _ _ g3)) (o5 _ _ _ g4) ⟨_,o5 _ _ _ (o4 _ _ (o3 _ _ (o2 _ _ g1))),rfl,rfl⟩ ⟨_,o5 _ _ _ (o4 _ _ (o3 _ _ g2)),rfl,rfl⟩ ?_ fun c o e=>o5 _ _ _ (o4 _ _ (o3 _ _ (o2 _ _ (o1 _ _ e))))
 · have:=bf H4 (o:={cls:= .type "zip",data:= .fields #[.none,.bool false,.bool false,.ref (s.heap.objs.size+1+1),.ref (s.heap.objs.size+1+1+1)]}) rfl;rw[e4] at this;exact this
 · rw[eo,e4]
def C5{s:Shared}(hl1:s.heap.IsTuple l1 xs)(hl2:s.heap.IsTuple l2 ys)(hQ:∀h':Heap,IsZip h' (s.heap.objs.size+4) (s.heap.objs.size+2) (s.heap.objs.size+3) .none->IsPair h' (s.heap.objs.size+2) (.ref s.heap.objs.size) (.ref (s.heap.objs.size+1))->IsPair h' (s.heap.objs.size+3) .none .none->h'.IsTupleIter s.heap.objs.size l1 0->h'.IsTupleIter (s.heap.objs.size+1) l2 0->h'.objs.size=s.heap.objs.size+5->(∀c o,s.heap.get? c=some o->h'.get? c=some o)->Q (.ref (s.heap.objs.size+4)) {s with heap:=h'}):wpAny (model prog w) A (call (.type "zip") [.ref l1,.ref l2]) Q E s:=by
 have M:Meets (Builtin.«zip.__new__» {pos:=[.type "zip",.ref l1,.ref l2]}) (fun _ R s=>s.heap.IsTuple l1 xs/\s.heap.IsTuple l2 ys/\
  ∀h':Heap,IsZip h' (s.heap.objs.size+4) (s.heap.objs.size+2) (s.heap.objs.size+3) .none->IsPair h' (s.heap.objs.size+2) (.ref s.heap.objs.size) (.ref (s.heap.objs.size+1))->IsPair h' (s.heap.objs.size+3) .none .none->h'.IsTupleIter s.heap.objs.size l1 0->h'.IsTupleIter (s.heap.objs.size+1) l2 0->h'.objs.size=s.heap.objs.size+5->(∀c o,s.heap.get? c=some o->h'.get? c=some o)->R (.ok (.ret (.ref (s.heap.objs.size+4)))) {s with heap:=h'}):=
  Meets.of_wp fun prog w A R s h=>Di h.1 h.2.1 fun h' a1 a2 a3 a4 a5 a6 a7=>⟨_,rfl,h.2.2 h' a1 a2 a3 a4 a5 a6 a7⟩
 refine callType_new F.called_zip (by decide) (F.typeCall_zip_2 _ _) (F.newCall_zip_2 _ _) (fun obj=>F.args_object_init_3 obj _ _) F.entry_zip_new M ⟨hl1,hl2,fun h' a1 a2 a3 a4 a5 a6 a7=> ?_⟩;exact⟨⟨_,a1,rfl⟩,hQ h' a1 a2 a3 a4 a5 a6 a7⟩
end
noncomputable def Mr(K:Frag)(a1 a2:Addr):It:=⟨fun i H=>∃xs ys x y,SqT K H a1 xs/\SqT K H a2 ys/\xs[i]? =some x/\ys[i]? =some y,fun i H v H'=>∃T x y,v= .ref T/\H T=none/\H'=upd H T (.tup [x,y])/\(∀xs,SqT K H a1 xs->xs[i]? =some x)/\∀ys,SqT K H a2 ys->ys[i]? =some y,fun i H=>∃xs ys,SqT K H a1 xs/\SqT K H a2 ys/\xs.length<=i⟩
def B9{K:Frag}{TI TO:Addr}(D:ZipApart z TI TO i1 i2 a1 a2):yM P w K (.Tuple elts k pos) (Mr K a1 a2) [z,TI,TO,i1,i2] z (fun i h=>IsZip h z TI TO .none/\IsPair h TI (.ref i1) (.ref i2)/\(∃a b,IsPair h TO a b)/\h.IsTupleIter i1 a1 i/\h.IsTupleIter i2 a2 i) where
 mem:=by simp
 obj:=fun i h st b hb=>by
  obtain⟨hz,hTI,⟨a,b',hTO⟩,⟨o1,g1,c1,d1⟩,⟨o2,g2,c2,d2⟩⟩:=st;simp only[aL,d9,cH] at hb;rcases hb with rfl | rfl | rfl | rfl | rfl
  · exact⟨_,hz,fun v e=>by cases(show Data.fields _=Data.cell v from e)⟩
  · exact⟨_,hTI,fun v e=>by cases(show Data.seq _ _=Data.cell v from e)⟩
  · exact⟨_,hTO,fun v e=>by cases(show Data.seq _ _=Data.cell v from e)⟩
  · exact⟨_,g1,fun v e=>by rw[d1] at e;cases e⟩
  · exact⟨_,g2,fun v e=>by rw[d2] at e;cases e⟩
 keep:=fun i h h' st kk=>by
  obtain⟨hz,hTI,⟨a,b',hTO⟩,⟨o1,g1,r1⟩,⟨o2,g2,r2⟩⟩:=st;exact⟨kk z (by simp) _ hz,kk TI (by simp) _ hTI,⟨a,b',kk TO (by simp) _ hTO⟩,⟨o1,kk i1 (by simp) _ g1,r1⟩,⟨o2,kk i2 (by simp) _ g2,r2⟩⟩
 item:=by
  intro X hP hw hK hc i pins s σ H E I hf st hg;subst hP hw hK;obtain⟨xs,ys,x,y,q1,q2,hx,hy⟩:=hg;obtain⟨hz,hTI,⟨a,b',hTO⟩,h1,h2⟩:=st;obtain⟨us,rv1,p1,hz1⟩:=I.tuple q1;obtain⟨vs,rv2,p2,hz2⟩:=I.tuple q2;obtain⟨u,hu,ru⟩:=rv1.get hx;obtain⟨v,hv,rv⟩:=rv2.get hy;refine oK D hz hTI hTO h1 h2 p1 p2 (x:=u) (y:=v) (by simpa using hu) (by simpa using hv) fun h' e1 e2 e3 e4 e5 e6 e7=>⟨_,rfl,?_⟩;refine wpAny_letOwnedTupleGo_zip e1 fun h'' f1 f2=> ?_;have nT:s.heap.objs.size≠z:=jb (aU hz);have kk:∀b o,b∉[z,TI,TO,i1,i2]->s.heap.get? b=some o->h''.get? b=some o:=fun b o hb q=>by
   simp only[aL,d9,cH,LG] at hb;exact f2.extBut b o hb.1 (e7 b o hb.1 hb.2.2.1 hb.2.2.2.1 hb.2.2.2.2 q)
  have hT2:h''.IsTuple s.heap.objs.size #[u,v]:=⟨_,f2.extBut _ _ nT e5,rfl,0,rfl⟩;refine⟨.ref s.heap.objs.size,upd H s.heap.objs.size (.tup [x,y]),I.turnedT (t':=s.toks) hf kk (au _) ?_,rfl,⟨_,x,y,rfl,I.hok.fresh (au _),rfl,fun zs hzs=>by rw[I.tuple_inj hzs q1];exact hx,fun zs hzs=>by rw[I.tuple_inj hzs q2];exact hy⟩,⟨f1,?_,⟨u,v,?_⟩,?_,?_⟩,fun b hb=> ?_⟩
  · exact⟨by show 2<=sizeLine;exact fw (bL (by decide)),[u,v],.cons ru (.cons rv .nil),hT2⟩
  · refine f2.extBut _ _ D.TIz (e7 _ _ D.TIz D.TITO D.TIi1 D.TIi2 hTI)
  · exact f2.extBut _ _ D.TOz e2
  · exact e3.extBut f2.extBut D.i1z
  · exact e4.extBut f2.extBut D.i2z
  · have:b≠s.heap.objs.size:=fun q=>by
     obtain⟨o,ho,_⟩:∃o,s.heap.get? b=some o/\True:=by
      simp only[aL,d9,cH] at hb;obtain⟨o1,g1,_⟩:=h1;obtain⟨o2,g2,_⟩:=h2;rcases hb with rfl | rfl | rfl | rfl | rfl
      · exact⟨_,hz,trivial⟩
      · exact⟨_,hTI,trivial⟩
      · exact⟨_,hTO,trivial⟩
      · exact⟨_,g1,trivial⟩
      · exact⟨_,g2,trivial⟩
     exact absurd q (bJ (aU ho))
    rw[aD this];exact(hf b hb).1
 done:=by
  intro X hP hw hK hc i pins s σ H E I hf st hg;subst hP hw hK;obtain⟨xs,ys,q1,q2,hx⟩:=hg;obtain⟨hz,hTI,⟨a,b',hTO⟩,h1,h2⟩:=st;obtain⟨us,rv1,p1,hz1⟩:=I.tuple q1;have hl:=rv1.length;refine qb (TO:=TO) (I.ok.hd hc) D hz hTI h1 p1 (Array.getElem?_eq_none (by simp;lia)) fun h' e7=>⟨rfl,I.turnedL (t':=s.toks) hf fun b o hb q=> ?_⟩;simp only[aL,d9,cH,LG] at hb;exact e7 b o hb.1 hb.2.2.1 hb.2.2.2.1 hb.2.2.2.2 q
 self:=fun _ _ _ _ _ st h=>wpAny_pyIter_zip st.1 h
def LW(K:Frag)(ta:TA):TI:=fun σ H R=>ta σ H fun vs H1=>∃a1 a2,vs=[.ref a1,.ref a2]/\(∃xs,SqT K H1 a1 xs)/\(∃ys,SqT K H1 a2 ys)/\R (Mr K a1 a2) H1
def BF{X:Cx}{elts:List Expr}{k:Nat}{tpos:Pos}{e1 e2:Expr}{ta:TA}{p pos:Pos}(hg:Gl X "zip")(hm:X.mg "zip"=none)(ha:PA X [e1,e2] ta)(hs:starEach [e1,e2] X.env=(false,eval e1 X.env)::starEach [e2] X.env:=by rfl)(hs2:(backTo pos (starEach [e2] X.env)).any (·.1)=false:=by rfl):PI X (.Tuple elts k tpos) (.Call (.Name "zip" p) [e1,e2] [] pos) (LW X.K ta):=by
 intro pins s σ H R I h;refine Call_ (oX I hg hm PyProof.Rows.Boot.zip (gE (dt (ha pos pins s σ H _ I h) fun us s1 ⟨vs,H1,I1,r1,q1⟩=> ?_) hs hs2));obtain⟨a1,a2,e,⟨xs,hq1⟩,⟨ys,hq2⟩,q⟩:=q1;subst e;cases r1 with
 | cons ra rr=>
   cases rr with
   | cons rb rr=>
     cases rr;cases ra;cases rb;obtain⟨us,rv1,p1,hz1⟩:=I1.tuple hq1;obtain⟨vs,rv2,p2,hz2⟩:=I1.tuple hq2;have l1:a1<s1.heap.objs.size:=by obtain⟨o,ho,_⟩:=p1;exact aU ho
     have l2:a2<s1.heap.objs.size:=by obtain⟨o,ho,_⟩:=p2;exact aU ho
     refine C5 p1 p2 fun h' f1 f2 f3 f4 f5 f6 f7=> ?_;refine wpAny_pyIter_zip f1 ?_;have I2:Inv X pins σ H1 {s1 with heap:=h'}:=I1.kept (t':=s1.toks) f7;refine⟨_,_,_,_,H1,rfl,I2,B9 (zipApart_new l1 l2),⟨f1,f2,⟨_,_,f3⟩,f4,f5⟩,fun b hb=> ?_,q⟩;have hb':s1.heap.objs.size<=b:=by
      simp only[aL,d9,cH] at hb;rcases hb with h | h | h | h | h<;>rw[h]<;>first | exact au _ | exact cR _ _
     exact I1.fpOk hb' (I1.hok.fresh hb')
def yu{K:Frag}{g:TG}{tb:TS}{D:s_}(hlen:xs.length=ys.length)(Pv:Nat->St->Hp->Prop)(h0:Pv 0 σ H)(hl:∀i σ H,i<=xs.length->Pv i σ H->SqT K H a1 xs/\SqT K H a2 ys)(hs:∀i x y σ H T,xs[i]? =some x->ys[i]? =some y->Pv i σ H->H T=none->g (.ref T) σ (upd H T (.tup [x,y])) fun σ2 H2=>tb {D with nx:=Pv (i+1),ct:=Pv (i+1),bk:=D.nx} σ2 H2)(hd:∀σ H,Pv xs.length σ H->D.nx σ H):∃W:Nat->Nat->St->Hp->Prop,(∃m,W 0 m σ H)/\∀i m σ H,W i m σ H->((Mr K a1 a2).stop i H/\D.nx σ H)\/((Mr K a1 a2).go i H/\∃N:St->Hp->Prop,(∀σ' H',N σ' H'->∃m',m'<m/\W (i+1) m' σ' H')/\∀x H',(Mr K a1 a2).yld i H x H'->g x σ H' fun σ2 H2=>tb {D with nx:=N,ct:=N,bk:=D.nx} σ2 H2):=by
 refine⟨fun i m σ H=>m=xs.length - i/\i<=xs.length/\Pv i σ H,⟨xs.length,by simp,ay _,h0⟩,?_⟩;rintro i m σ H ⟨rfl,hi,p⟩;obtain⟨q1,q2⟩:=hl i σ H hi p;by_cases hlt:i<xs.length
 · have hlt2:i<ys.length:=by lia
   refine .inr ⟨⟨xs,ys,xs[i],ys[i],q1,q2,by simp[hlt],by simp[hlt2]⟩,Pv (i+1),fun σ' H' p'=>⟨xs.length - (i+1),by lia,rfl,hlt,p'⟩,fun v H' y=> ?_⟩;obtain⟨T,x,y,rfl,hT,rfl,y1,y2⟩:=y;exact hs i x y σ _ T (y1 xs q1) (y2 ys q2) p hT
 · have e:i=xs.length:=by lia
   subst e;exact .inl ⟨⟨xs,ys,q1,q2,au _⟩,hd σ H p⟩
def uS(K:Frag)(P:Program)(w:World)(a:Addr)(kvs:List (Key × V)):Prop:=∀h:Heap,(∀b o,K.lookup b=some o->h.get? b=some o)->∃vs,KV kvs vs/\h.DictOf (cW P w) a vs
def K4(K:Frag)(P:Program)(w:World)(td ty:TE):TE:=fun σ H Q=>td σ H fun x H1=>ty σ H1 fun y H2=>∃a kvs k v,x= .ref a/\y=kV k/\uS K P w a kvs/\c_ kvs k=some v/\Q v H2
def BG(ho:PE X o td)(hi:PE X i ty)(hs:HF i):PE X (.Subscript o i pos) (K4 X.K X.prog X.w td ty):=by
 intro pins s σ H Q I h;refine AK IG.lookup hs (dt (ho pins s σ H _ I h) fun u s1 ⟨x,H1,I1,rx,q1⟩=>dt (hi pins s1 σ H1 _ I1 q1) fun iv s2 ⟨y,H2,I2,ry,a,kvs,k,v,ex,ey,kd,l,q2⟩=> ?_);subst ex ey;obtain rfl:u=Value.ref a:=rx;obtain⟨vs,rel,dd⟩:=kd s2.heap I2.kIn;obtain⟨w',hw,rw'⟩:=RelO.some_of (v:=v) (o:=valueAt vs k) (by rw[<-l];exact rel.val k);exact⟨dd.typeIs,wpAny_getItem_of (nV ry) dd.mapOf hw ⟨v,H2,I2.tok _,rw',q2⟩⟩
noncomputable def EX(w:World)(e:Str × Tok × Value):DictEntry:=⟨PyData.keyHash w.params e.1,.str e.1 e.2.1,e.2.2⟩
def IH:List (Key × V)->List (Str × Tok × Value)->Prop:=Paired fun kv e=>kv.1=Sum.inr e.1/\RelV kv.2 e.2.2
theorem yj:∀l:List (Str × Tok × Value),Pairs (cW P w) (l.map (EX w)) (l.map fun e=>(Sum.inr e.1,e.2.2))
 | []=> .nil
 | e::l=> .cons (kv:=(Sum.inr e.1,e.2.2)) (o_ e.1 e.2.1) rfl (yj l)
theorem Iy:∀{kvs:List (Key × V)} {l:List (Str × Tok × Value)},IH kvs l->KV kvs (l.map fun e=>(Sum.inr e.1,e.2.2))
 | _,_,.nil=> .nil
 | _,_,.cons r t=> .cons ⟨r.1,r.2⟩ (Iy t)
def EW{K:Frag}(l:List (Str × Tok × Value))(hl:K.lookup a=some {cls:= .type "dict",dict:=none,data:= .dict (l.map (EX w)).toArray ep,slots:= #[]})(hr:IH kvs l)(hn:(l.map (·.1)).Nodup):uS K P w a kvs:=fun h hk=>by
 refine⟨_,Iy hr,_,_,_,hk _ _ hl,⟨rfl,rfl,rfl⟩,rfl,fun e he=> ?_,?_,?_⟩
 · have he':e∈l.map (EX w):=by simpa using he
   obtain⟨x,_,rfl⟩:=bS.mp he';exact⟨Sum.inr x.1,o_ x.1 x.2.1,rfl⟩
 · exact yj l
 · rw[qh];have:(l.map ((fun x:Key × Value=>x.1)∘fun e=>(Sum.inr e.1,e.2.2)))=(l.map (·.1)).map Sum.inr:=by
    rw[qh];rfl
   rw[this];exact List.Pairwise.map _ (fun a b hab e=>hab (NL e)) hn
section
end
section
end
section
end
noncomputable def fm:Expr->Bool
 | .Starred _ _=>false
 | _=>true
def qp(h:fm e=true):starEach (e::es) env=(false,eval e env)::starEach es env:=by
 cases e<;>first | (cases h;done) | (rw[starEach.eq_def])
def bZ{X:Cx}{e:Expr}{es:List Expr}{te:TE}{t:TA}(ha:PE X e te)(hr:PA X es t)(h:fm e=true:=by rfl):PA X (e::es) (dU te t):=eL ha hr (qp h)
section
end
inductive Tx where
 | non
 | int (i:Int)
 | str (x:Str)
 | tup (ds:List Tx)
 | lst (ds:List Tx)
noncomputable instance:DecidableEq Tx:=fun a b=>Classical.propDecidable (a=b)
mutual
def Xa(H:Hp):Tx->V->Prop
 | .non,v=>v= .non
 | .int i,v=>v= .int i
 | .str x,v=>v= .str x
 | .tup ds,v=>∃p xs,v= .ref p/\H p=some (.tup xs)/\Xas H ds xs
 | .lst ds,v=>∃p xs,v= .ref p/\H p=some (.lst xs)/\Xas H ds xs
def Xas(H:Hp):List Tx->List V->Prop
 | [],xs=>xs=[]
 | d::ds,xs=>∃x r,xs=x::r/\Xa H d x/\Xas H ds r
end
mutual
noncomputable def Tx.dp:Tx->Nat
 | .non=>0
 | .int _=>0
 | .str _=>0
 | .tup ds=>1+j9 ds
 | .lst ds=>1+j9 ds
noncomputable def j9:List Tx->Nat
 | []=>0
 | d::ds=>max d.dp (j9 ds)
end
theorem Xas.len:∀{ds:List Tx} {xs:List V},Xas H ds xs->xs.length=ds.length
 | [],_,h=>by cases h;rfl
 | _::_,_,⟨x,r,e,_,q⟩=>by rw[e,aV,aV,Xas.len q]
theorem Xas.get:∀{ds:List Tx} {xs:List V} {j:Nat} {x:V},Xas H ds xs->xs[j]? =some x->∃d,ds[j]? =some d/\Xa H d x
 | [],_,_,_,h,e=>by cases h;simp at e
 | d::_,_,0,x,⟨y,r,e,h,q⟩,g=>by subst e;simp at g;subst g;exact⟨d,rfl,h⟩
 | d::ds,_,j+1,x,⟨y,r,e,h,q⟩,g=>by
   subst e;obtain⟨d',g1,g2⟩:=Xas.get (j:=j) q (by simpa using g);exact⟨d',by simpa using g1,g2⟩
theorem wK:∀{ds:List Tx} {d:Tx},d∈ds->d.dp<=j9 ds
 | e::ds,d,h=>by
   rcases aL.mp h with rfl | h
   · exact Nat.le_max_left _ _
   · exact aq (wK h) (Nat.le_max_right _ _)
def qi(h:∀d∈ds,d.dp<=n):j9 ds<=n:=by
 induction ds with
 | nil=>exact ay _
 | cons a r ih=>exact Nat.max_le.mpr ⟨h a aZ,ih fun d hd=>h d (aG _ hd)⟩
theorem Xas.inj(ih:∀d d' v,d.dp<=n->Xa H d v->Xa H d' v->d=d'):∀{ds es:List Tx} {xs:List V},j9 ds<=n->Xas H ds xs->Xas H es xs->ds=es
 | [],[],_,_,_,_=>rfl
 | [],_::_,_,_,h,⟨x,r,e,_⟩=>by have h':_=[]:=h;rw[h'] at e;cases e
 | _::_,[],_,_,⟨x,r,e,_⟩,h=>by have h':_=[]:=h;rw[h'] at e;cases e
 | d::ds,e::es,_,hn,⟨x,r,e1,h1,q1⟩,⟨y,r',e2,h2,q2⟩=>by
   rw[e1] at e2;cases e2;have m:max d.dp (j9 ds)<=n:=hn;rw[ih d e x (by lia) h1 h2,Xas.inj ih (by lia) q1 q2]
def Xa.inj_n(n:Nat):∀d d' v,d.dp<=n->Xa H d v->Xa H d' v->d=d':=by
 induction n with
 | zero=>
   intro d d' v hn h h';cases d with
   | tup ds=>simp only[Tx.dp] at hn;lia
   | lst ds=>simp only[Tx.dp] at hn;lia
   | non=>
     have e:v= .non:=h;subst e;cases d' with
     | non=>rfl
     | int i=>exact absurd (show V.non= .int i from h') (by intro z;cases z)
     | str i=>exact absurd (show V.non= .str i from h') (by intro z;cases z)
     | tup es=>obtain⟨p,xs,e,_⟩:=(show ∃p xs,V.non= .ref p/\H p=some (.tup xs)/\Xas H es xs from h');cases e
     | lst es=>obtain⟨p,xs,e,_⟩:=(show ∃p xs,V.non= .ref p/\H p=some (.lst xs)/\Xas H es xs from h');cases e
   | int j=>
     have e:v= .int j:=h;subst e;cases d' with
     | non=>exact absurd (show V.int j= .non from h') (by intro z;cases z)
     | int i=>have z:V.int j= .int i:=h';cases z;rfl
     | str i=>exact absurd (show V.int j= .str i from h') (by intro z;cases z)
     | tup es=>obtain⟨p,xs,e,_⟩:=(show ∃p xs,V.int j= .ref p/\H p=some (.tup xs)/\Xas H es xs from h');cases e
     | lst es=>obtain⟨p,xs,e,_⟩:=(show ∃p xs,V.int j= .ref p/\H p=some (.lst xs)/\Xas H es xs from h');cases e
   | str j=>
     have e:v= .str j:=h;subst e;cases d' with
     | non=>exact absurd (show V.str j= .non from h') (by intro z;cases z)
     | int i=>exact absurd (show V.str j= .int i from h') (by intro z;cases z)
     | str i=>have z:V.str j= .str i:=h';cases z;rfl
     | tup es=>obtain⟨p,xs,e,_⟩:=(show ∃p xs,V.str j= .ref p/\H p=some (.tup xs)/\Xas H es xs from h');cases e
     | lst es=>obtain⟨p,xs,e,_⟩:=(show ∃p xs,V.str j= .ref p/\H p=some (.lst xs)/\Xas H es xs from h');cases e
 | succ n ih=>
   intro d d' v hn h h';by_cases hz:d.dp<=n
   · exact ih d d' v hz h h'
   cases d with
   | non=>exact absurd (ay n) hz
   | int _=>exact absurd (ay n) hz
   | str _=>exact absurd (ay n) hz
   | tup ds=>
     obtain⟨p,xs,rfl,e1,q1⟩:=(show ∃p xs,v= .ref p/\H p=some (.tup xs)/\Xas H ds xs from h);simp only[Tx.dp] at hn;cases d' with
     | non=>exact absurd (show V.ref p= .non from h') (by intro z;cases z)
     | int i=>exact absurd (show V.ref p= .int i from h') (by intro z;cases z)
     | str i=>exact absurd (show V.ref p= .str i from h') (by intro z;cases z)
     | tup es=>
       obtain⟨p',ys,e,e2,q2⟩:=(show ∃p' xs,V.ref p= .ref p'/\H p'=some (.tup xs)/\Xas H es xs from h');cases e;rw[e1] at e2;cases e2;rw[Xas.inj ih (by lia) q1 q2]
     | lst es=>
       obtain⟨p',ys,e,e2,q2⟩:=(show ∃p' xs,V.ref p= .ref p'/\H p'=some (.lst xs)/\Xas H es xs from h');cases e;rw[e1] at e2;cases e2
   | lst ds=>
     obtain⟨p,xs,rfl,e1,q1⟩:=(show ∃p xs,v= .ref p/\H p=some (.lst xs)/\Xas H ds xs from h);simp only[Tx.dp] at hn;cases d' with
     | non=>exact absurd (show V.ref p= .non from h') (by intro z;cases z)
     | int i=>exact absurd (show V.ref p= .int i from h') (by intro z;cases z)
     | str i=>exact absurd (show V.ref p= .str i from h') (by intro z;cases z)
     | lst es=>
       obtain⟨p',ys,e,e2,q2⟩:=(show ∃p' xs,V.ref p= .ref p'/\H p'=some (.lst xs)/\Xas H es xs from h');cases e;rw[e1] at e2;cases e2;rw[Xas.inj ih (by lia) q1 q2]
     | tup es=>
       obtain⟨p',ys,e,e2,q2⟩:=(show ∃p' xs,V.ref p= .ref p'/\H p'=some (.tup xs)/\Xas H es xs from h');cases e;rw[e1] at e2;cases e2
def Xa.inj(h:Xa H d v)(h':Xa H d' v):d=d':=Xa.inj_n d.dp d d' v (au _) h h'
def wz(ds es:List Tx):((List.range (min ds.length es.length)).all (fun j=>decide (ds[j]? =es[j]?))&&ds.length==es.length)=decide (ds=es):=by
 by_cases h:ds=es
 · subst h;simp
 · rw[aj h];by_cases hl:ds.length=es.length
   · have:¬ (List.range (min ds.length es.length)).all (fun j=>decide (ds[j]? =es[j]?))=true:=by
      intro ha;apply h;apply Pf;intro j;by_cases hj:j<ds.length
      · have:=(dH.mp ha) j (dj.mpr (by lia));simpa using this
      · rw[sY (by lia),sY (by lia)]
     rw[AA.mpr this];rfl
   · rw[cv.mpr hl,lU]
def BX(ds es:List Tx):decide (Tx.tup ds=Tx.tup es)=decide (ds=es):=by
 by_cases h:ds=es
 · subst h;simp
 · rw[aj h,aj (by intro z;cases z;exact h rfl)]
def Hs(ds es:List Tx):decide (Tx.lst ds=Tx.lst es)=decide (ds=es):=by
 by_cases h:ds=es
 · subst h;simp
 · rw[aj h,aj (by intro z;cases z;exact h rfl)]
section
def uK(hx:Xa H d x)(hy:Xa H d' y)(ru:RelV x u)(rv:RelV y v)(h:SeqAt.RcAt A s u v (decide (d=d'))):SeqAt.EqAt A s u v (decide (d=d')):=by
 by_cases z:u=v
 · subst z;have e:x=y:=RelV.inj ru rv;subst e;rw[ao (Xa.inj hx hy)];exact SeqAt.EqAt.same _
 · intro prog w E Q hq;unfold eqBool;refine dP ?_;refine wpAny_ite_split (fun hab=>absurd (eq_of_beq hab) z) (fun _=> ?_);have nf:∀b t,u≠ .float b t:=by
    rintro b t rfl;cases d with
    | non=>have e:x= .non:=hx;subst e;cases ru
    | int i=>have e:x= .int i:=hx;subst e;obtain⟨_,e⟩:=ru;cases e
    | str i=>have e:x= .str i:=hx;subst e;obtain⟨_,e⟩:=ru;cases e
    | tup ds=>obtain⟨p,xs,rfl,_⟩:=(show ∃p xs,x= .ref p/\H p=some (.tup xs)/\Xas H ds xs from hx);cases ru
    | lst ds=>obtain⟨p,xs,rfl,_⟩:=(show ∃p xs,x= .ref p/\H p=some (.lst xs)/\Xas H ds xs from hx);cases ru
   cases u with
   | float b t=>exact absurd rfl (nf b t)
   | _=>exact ae (h prog w E _ (df hq))
def Lg(hx:Xas H ds xs)(hy:Xas H es ys)(r1:Vals xs its)(r2:Vals ys jts)(hn:j9 ds<=n)(ih:∀d d' x y u v,d.dp<=n->Xa H d x->Xa H d' y->RelV x u->RelV y v->SeqAt.EqAt A s u v (decide (d=d'))):its.toArray.size=ds.length/\jts.toArray.size=es.length/\∀j (g1:j<its.toArray.size) (g2:j<jts.toArray.size),SeqAt.EqAt A s its.toArray[j] jts.toArray[j] ((fun j=>decide (ds[j]? =es[j]?)) j):=by
 have l1:its.toArray.size=ds.length:=by rw[aM,<-r1.length,hx.len]
 have l2:jts.toArray.size=es.length:=by rw[aM,<-r2.length,hy.len]
 refine⟨l1,l2,fun j g1 g2=> ?_⟩;have j1:j<xs.length:=by rw[hx.len,<-l1];exact g1
 have j2:j<ys.length:=by rw[hy.len,<-l2];exact g2
 obtain⟨k1,e1,i1⟩:=hx.get (aw j1);obtain⟨k2,e2,i2⟩:=hy.get (aw j2);obtain⟨u1,a1,b1⟩:=r1.get (aw j1);obtain⟨u2,a2,b2⟩:=r2.get (aw j2);have c1:its.toArray[j]=u1:=by
  have:=(aY.mp a1).2;simpa using this
 have c2:jts.toArray[j]=u2:=by
  have:=(aY.mp a2).2;simpa using this
 rw[c1,c2];show SeqAt.EqAt A s u1 u2 (decide (ds[j]? =es[j]?));rw[e1,e2];have:decide (some k1=some k2)=decide (k1=k2):=by
  by_cases h:k1=k2
  · subst h;simp
  · rw[aj h,aj (by intro z;cases z;exact h rfl)]
 rw[this];exact ih k1 k2 _ _ _ _ (aq (wK (ar e1)) hn) i1 i2 b1 b2
def Ib{σ:St}(I:Inv X pins σ H s)(n:Nat):∀d d' A x y u v,d.dp<=n->Xa H d x->Xa H d' y->RelV x u->RelV y v->A.units+d.dp<cLine->SeqAt.RcAt A s u v (decide (d=d'))/\SeqAt.RcNeAt A s u v (!decide (d=d')):=by
 have tupA:∀{es:List Tx} {y:V} {v:Value},Xa H (.tup es) y->RelV y v->∃p ys jts,y= .ref p/\v= .ref p/\Xas H es ys/\Vals ys jts/\s.heap.IsTuple p jts.toArray:=by
  intro es y v h r;obtain⟨p,ys,rfl,e,q⟩:=(show ∃p xs,y= .ref p/\H p=some (.tup xs)/\Xas H es xs from h);obtain⟨_,its,r1,t1⟩:=(show ObjOk X.prog X.w H s.heap p (.tup ys) from I.hok p _ e);exact⟨p,ys,its,rfl,r,q,r1,t1⟩
 have lstA:∀{es:List Tx} {y:V} {v:Value},Xa H (.lst es) y->RelV y v->∃p ys jts,y= .ref p/\v= .ref p/\Xas H es ys/\Vals ys jts/\s.heap.IsList p jts.toArray:=by
  intro es y v h r;obtain⟨p,ys,rfl,e,q⟩:=(show ∃p xs,y= .ref p/\H p=some (.lst xs)/\Xas H es xs from h);obtain⟨its,r1,t1,_⟩:=I.list (SqL.of e);exact⟨p,ys,its,rfl,r,q,r1,t1.isList⟩
 have base:∀(d d':Tx) (A:Around) (x y:V) (u v:Value),d.dp<=0->Xa H d x->Xa H d' y->RelV x u->RelV y v->A.units+d.dp<cLine->SeqAt.RcAt A s u v (decide (d=d'))/\SeqAt.RcNeAt A s u v (!decide (d=d')):=by
  intro d d' A x y u v hn hx hy ru rv hl;have hl0:A.units<cLine:=by lia
  cases d with
  | tup ds=>simp only[Tx.dp] at hn;lia
  | lst ds=>simp only[Tx.dp] at hn;lia
  | non=>
    have ex:x= .non:=hx;subst ex;have eu:u= .none:=ru;subst eu;cases d' with
    | non=>
      have ey:y= .non:=hy;subst ey;have ev:v= .none:=rv;subst ev;rw[ao rfl];exact⟨SeqAt.RcAt.none_none,SeqAt.RcNeAt.none_none⟩
    | int i=>
      have ey:y= .int i:=hy;subst ey;obtain⟨t,rfl⟩:=rv;rw[aj (by intro z;cases z)];exact⟨SeqAt.RcAt.none_int _ _,SeqAt.RcNeAt.none_int _ _⟩
    | str i=>
      have ey:y= .str i:=hy;subst ey;obtain⟨t,rfl⟩:=rv;rw[aj (by intro z;cases z)];exact⟨SeqAt.RcAt.none_str _ _,SeqAt.RcNeAt.none_str _ _⟩
    | tup es=>
      obtain⟨p,ys,jts,rfl,rfl,_,_,t⟩:=tupA hy rv;rw[aj (by intro z;cases z)];exact⟨SeqAt.RcAt.none_tuple t hl0,SeqAt.RcNeAt.none_tuple t hl0⟩
    | lst es=>
      obtain⟨p,ys,jts,rfl,rfl,_,_,t⟩:=lstA hy rv;rw[aj (by intro z;cases z)];exact⟨SeqAt.RcAt.none_list t hl0,SeqAt.RcNeAt.none_list t hl0⟩
  | int j=>
    have ex:x= .int j:=hx;subst ex;obtain⟨t0,rfl⟩:=ru;cases d' with
    | non=>
      have ey:y= .non:=hy;subst ey;have ev:v= .none:=rv;subst ev;rw[aj (by intro z;cases z)];exact⟨SeqAt.RcAt.int_none _ _,SeqAt.RcNeAt.int_none _ _⟩
    | int i=>
      have ey:y= .int i:=hy;subst ey;obtain⟨t,rfl⟩:=rv;have e:decide (Tx.int j=Tx.int i)=(j==i):=by
       by_cases h:j=i
       · subst h;simp
       · rw[aj (by intro z;cases z;exact h rfl),cv.mpr h]
      rw[e];exact⟨SeqAt.RcAt.int_int _ _ _ _,SeqAt.RcNeAt.int_int _ _ _ _⟩
    | str i=>
      have ey:y= .str i:=hy;subst ey;obtain⟨t,rfl⟩:=rv;rw[aj (by intro z;cases z)];exact⟨SeqAt.RcAt.int_str _ _ _ _,SeqAt.RcNeAt.int_str _ _ _ _⟩
    | tup es=>
      obtain⟨p,ys,jts,rfl,rfl,_,_,t⟩:=tupA hy rv;rw[aj (by intro z;cases z)];exact⟨SeqAt.RcAt.int_tuple _ _ t hl0,SeqAt.RcNeAt.int_tuple _ _ t hl0⟩
    | lst es=>
      obtain⟨p,ys,jts,rfl,rfl,_,_,t⟩:=lstA hy rv;rw[aj (by intro z;cases z)];exact⟨SeqAt.RcAt.int_list _ _ t hl0,SeqAt.RcNeAt.int_list _ _ t hl0⟩
  | str j=>
    have ex:x= .str j:=hx;subst ex;obtain⟨t0,rfl⟩:=ru;cases d' with
    | non=>
      have ey:y= .non:=hy;subst ey;have ev:v= .none:=rv;subst ev;rw[aj (by intro z;cases z)];exact⟨SeqAt.RcAt.str_none _ _,SeqAt.RcNeAt.str_none _ _⟩
    | int i=>
      have ey:y= .int i:=hy;subst ey;obtain⟨t,rfl⟩:=rv;rw[aj (by intro z;cases z)];exact⟨SeqAt.RcAt.str_int _ _ _ _,SeqAt.RcNeAt.str_int _ _ _ _⟩
    | str i=>
      have ey:y= .str i:=hy;subst ey;obtain⟨t,rfl⟩:=rv;have e:decide (Tx.str j=Tx.str i)=(j==i):=by
       by_cases h:j=i
       · subst h;simp
       · rw[aj (by intro z;cases z;exact h rfl),cv.mpr h]
      rw[e];exact⟨SeqAt.RcAt.str_str _ _ _ _,SeqAt.RcNeAt.str_str _ _ _ _⟩
    | tup es=>
      obtain⟨p,ys,jts,rfl,rfl,_,_,t⟩:=tupA hy rv;rw[aj (by intro z;cases z)];exact⟨SeqAt.RcAt.str_tuple _ _ t hl0,SeqAt.RcNeAt.str_tuple _ _ t hl0⟩
    | lst es=>
      obtain⟨p,ys,jts,rfl,rfl,_,_,t⟩:=lstA hy rv;rw[aj (by intro z;cases z)];exact⟨SeqAt.RcAt.str_list _ _ t hl0,SeqAt.RcNeAt.str_list _ _ t hl0⟩
 induction n with
 | zero=>exact fun d d' A x y u v hn=>base d d' A x y u v (by lia)
 | succ n ih=>
   intro d d' A x y u v hn hx hy ru rv hl;have hl0:A.units<cLine:=by lia
   cases d with
   | non=>exact base _ d' A x y u v (au _) hx hy ru rv hl
   | int _=>exact base _ d' A x y u v (au _) hx hy ru rv hl
   | str _=>exact base _ d' A x y u v (au _) hx hy ru rv hl
   | tup ds=>
     obtain⟨p0,xs,its,rfl,rfl,q1,r1,t1⟩:=tupA hx ru;simp only[Tx.dp] at hn hl;cases d' with
     | non=>
       have ey:y= .non:=hy;subst ey;have ev:v= .none:=rv;subst ev;rw[aj (by intro z;cases z)];exact⟨SeqAt.RcAt.tuple_none t1 hl0,SeqAt.RcNeAt.tuple_none t1 hl0⟩
     | int i=>
       have ey:y= .int i:=hy;subst ey;obtain⟨t,rfl⟩:=rv;rw[aj (by intro z;cases z)];exact⟨SeqAt.RcAt.tuple_int _ _ t1 hl0,SeqAt.RcNeAt.tuple_int _ _ t1 hl0⟩
     | str i=>
       have ey:y= .str i:=hy;subst ey;obtain⟨t,rfl⟩:=rv;rw[aj (by intro z;cases z)];exact⟨SeqAt.RcAt.tuple_str _ _ t1 hl0,SeqAt.RcNeAt.tuple_str _ _ t1 hl0⟩
     | tup es=>
       obtain⟨p,ys,jts,rfl,rfl,q2,r2,t2⟩:=tupA hy rv;obtain⟨l1,l2,he⟩:=Lg (A:=A.in1) (s:=s) (n:=min n (j9 ds)) q1 q2 r1 r2 (by lia) fun d d' x y u v hd a b c e=>
        uK a b c e (ih d d' A.in1 x y u v (by lia) a b c e (by rw[uH];lia)).1
       have g1:=SeqAt.RcAt.tuples (A:=A) t1 t2 hl0 he;have g2:=SeqAt.RcNeAt.tuples (A:=A) t1 t2 hl0 he;rw[l1,l2,wz,<-BX] at g1;rw[l1,l2,wz,<-BX] at g2;exact⟨g1,g2⟩
     | lst es=>
       obtain⟨p,ys,jts,rfl,rfl,_,_,t⟩:=lstA hy rv;rw[aj (by intro z;cases z)];exact⟨SeqAt.RcAt.tuple_list t1 t hl0,SeqAt.RcNeAt.tuple_list t1 t hl0⟩
   | lst ds=>
     obtain⟨p0,xs,its,rfl,rfl,q1,r1,t1⟩:=lstA hx ru;simp only[Tx.dp] at hn hl;cases d' with
     | non=>
       have ey:y= .non:=hy;subst ey;have ev:v= .none:=rv;subst ev;rw[aj (by intro z;cases z)];exact⟨SeqAt.RcAt.list_none t1 hl0,SeqAt.RcNeAt.list_none t1 hl0⟩
     | int i=>
       have ey:y= .int i:=hy;subst ey;obtain⟨t,rfl⟩:=rv;rw[aj (by intro z;cases z)];exact⟨SeqAt.RcAt.list_int _ _ t1 hl0,SeqAt.RcNeAt.list_int _ _ t1 hl0⟩
     | str i=>
       have ey:y= .str i:=hy;subst ey;obtain⟨t,rfl⟩:=rv;rw[aj (by intro z;cases z)];exact⟨SeqAt.RcAt.list_str _ _ t1 hl0,SeqAt.RcNeAt.list_str _ _ t1 hl0⟩
     | tup es=>
       obtain⟨p,ys,jts,rfl,rfl,_,_,t⟩:=tupA hy rv;rw[aj (by intro z;cases z)];exact⟨SeqAt.RcAt.list_tuple t1 t hl0,SeqAt.RcNeAt.list_tuple t1 t hl0⟩
     | lst es=>
       obtain⟨p,ys,jts,rfl,rfl,q2,r2,t2⟩:=lstA hy rv;obtain⟨l1,l2,he⟩:=Lg (A:=A.in1) (s:=s) (n:=min n (j9 ds)) q1 q2 r1 r2 (by lia) fun d d' x y u v hd a b c e=>
        uK a b c e (ih d d' A.in1 x y u v (by lia) a b c e (by rw[uH];lia)).1
       by_cases hz:ds.length=es.length
       · have g1:=SeqAt.RcAt.lists (A:=A) t1 t2 (by rw[l1,l2,hz]) hl0 he;have g2:=SeqAt.RcNeAt.lists (A:=A) t1 t2 (by rw[l1,l2,hz]) hl0 he;have e:(List.range its.toArray.size).all (fun j=>decide (ds[j]? =es[j]?))=decide (Tx.lst ds=Tx.lst es):=by
          have:=wz ds es;rw[hz,Nat.min_self,beq_self_eq_true,Bool.and_true] at this;rw[l1,hz,this,Hs]
         rw[e] at g1;rw[e] at g2;exact⟨g1,g2⟩
       · have hz':(its.toArray.size !=jts.toArray.size)=true:=by rw[l1,l2];simp[hz]
         rw[aj (by intro z;cases z;exact hz rfl)];exact⟨SeqAt.RcAt.lists_lengths t1 t2 hz' hl0,SeqAt.RcNeAt.lists_lengths t1 t2 hz' hl0⟩
end
section
def Lq:R2:=fun x y H Q=>∃k k':Tx,Xa H k x/\Xa H k' y/\k.dp<=60/\Q (.bl (decide (k=k'))) H
def Lp:R2:=fun x y H Q=>∃k k':Tx,Xa H k x/\Xa H k' y/\k.dp<=60/\Q (.bl (!decide (k=k'))) H
def fK(hu:X.A.units+64<cLine):j4 X (compareOp .Eq) Lq:=by
 intro pins s σ H x y v u Q I rx ry h;obtain⟨k,k',h1,h2,hd,q⟩:=h;exact(Ib I k.dp k k' X.A x y v u (au _) h1 h2 rx ry (by lia)).1 _ _ _ _ ⟨.bl _,H,I,rfl,q⟩
def vM(hu:X.A.units+64<cLine):j4 X (compareOp .NotEq) Lp:=by
 intro pins s σ H x y v u Q I rx ry h;obtain⟨k,k',h1,h2,hd,q⟩:=h;exact(Ib I k.dp k k' X.A x y v u (au _) h1 h2 rx ry (by lia)).2 _ _ _ _ ⟨.bl _,H,I,rfl,q⟩
end
noncomputable def Kd.tx:Kd->Tx
 | .nm x=> .str x
 | .two a b=> .tup [.str "both",a.tx,b.tx]
 | .som r c=> .tup [.str "some",.str r,c.tx]
theorem IsK.xa:∀{k:Kd} {v:V},IsK H k v->Xa H k.tx v
 | .nm _,_,h=>h
 | .two _ _,_,⟨p,x,y,e,h,ha,hb⟩=>⟨p,_,e,h,_,_,rfl,rfl,_,_,rfl,ha.xa,_,_,rfl,hb.xa,rfl⟩
 | .som _ _,_,⟨p,y,e,h,hc⟩=>⟨p,_,e,h,_,_,rfl,rfl,_,_,rfl,rfl,_,_,rfl,hc.xa,rfl⟩
theorem Kd.tx_dp:∀k:Kd,k.tx.dp=k.dep
 | .nm _=>rfl
 | .two a b=>by
   show 1+max 0 (max a.tx.dp (max b.tx.dp 0))=1+max a.dep b.dep;rw[tx_dp a,tx_dp b];lia
 | .som _ c=>by
   show 1+max 0 (max 0 (max c.tx.dp 0))=1+c.dep;rw[tx_dp c];lia
open PySem
open PySem PyProof.Rows
section
end
section
end
section
variable {prog:Program}{w:World}{κ:Type}[DecidableEq κ]{knd:KeyKind prog w κ}{A:Around}{E:Value->Shared->Prop}{s:Shared}
end
section
variable {prog:Program}{w:World}{κ:Type}[DecidableEq κ]{knd:KeyKind prog w κ}{A:Around}{E:Value->Shared->Prop}{s:Shared}
end
section
variable {prog:Program}{w:World}{κ:Type}[DecidableEq κ]{knd:KeyKind prog w κ}{A:Around}{E:Value->Shared->Prop}{s:Shared}
end
section
variable {prog:Program}{w:World}{κ:Type}[DecidableEq κ]{knd:KeyKind prog w κ}{A:Around}{E:Value->Shared->Prop}{s:Shared}
end
section
variable {prog:Program}{w:World}{κ:Type}[DecidableEq κ]{knd:KeyKind prog w κ}{A:Around}{E:Value->Shared->Prop}{s:Shared}
end
section
end
section
end
section
end
def GD(hK:X.K=K')(hc:X.calm=true)(hN:X.N.Nodup)(hi:X.N[i]? =some x)(hj:X.N[j]? =some y)(lx:X.env.scope.names.lookup x=some .local)(ly:X.env.scope.names.lookup y=some .local):PG X (.Tuple [.Name x p1,.Name y p2] k pos) (LZ K' 2 (pX (iA i) (pX (iA j) Hk))):=by
 subst hK;exact eY hc (br (qA hN hi (.inl lx) (.inr lx)) (br (qA hN hj (.inl ly) (.inr ly)) dX))
section
end
section
def onV.of(e:σ[i]? =some (some v))(q:Q v):onV σ i Q:=by unfold onV;rw[e];exact q
end
section
end
section
variable {prog:Program}{w:World}{κ:Type}[DecidableEq κ]{knd:KeyKind prog w κ}
end
section
end
section
end
section
def DV:V->List V->Hp->VK->Prop:=fun x vs H Q=>∃z,x= .str z/\vs=[]/\Q (.bl (Txt.isupper z)) H
def zY:MH X "str.isupper" DV:=by
 intro pins s σ H x xs v us Q I rx rs h;obtain⟨z,rfl,rfl,q⟩:=h;obtain⟨t,rfl⟩:=rx;cases rs;exact SC.isupper ⟨.bl (Txt.isupper z),H,I,rfl,q⟩
end
section
end
section
end
noncomputable def qO(e:Expr)(depth:Nat)(it acc:Value)(env:Env)(p:Pos)(target:Expr)(ifs:List Expr)(B:Sem Fin->Sem Fin):Sem Fin:=do
 standAt p
 match<-pyNext it with
 | none=>pure (.done .next)
 | some v=>
   letOwnedTupleGo target it v
   assign target env v
   let mut ok:=true
   for c in ifs do
    if ok then ok<-isTrue c env (eval c env)
   if ok then B (again (.compLoop e depth it acc env)) else again (.compLoop e depth it acc env)
noncomputable def ID(kx vx:Expr)(D:Addr)(env:Env):Sem Unit:=do
 let kv<-eval kx env
 let vv<-holding [kv] (eval vx env)
 standAt {kx.pos with endLine:=vx.pos.endLine,endCol:=vx.pos.endCol}
 holding [kv,vv] (dictSet D kv vv)
noncomputable def Fh(kx vx:Expr)(D:Addr)(env:Env)(k:Sem Fin):Sem Fin:=do
 ID kx vx D env
 k
noncomputable def Aj(e:Expr)(iter2:Expr)(acc:Value)(env:Env)(k:Sem Fin):Sem Fin:=do
 let x<-eval iter2 env
 standAt iter2.pos
 let x<-foldedSetIterable iter2 env x
 let _<-runOwn (.compStart e 1 (<-holding [x] (pyIter x)) acc env) env
 k
def KZ(kx vx tg iter:Expr)(ifs:List Expr)(tg2 iter2:Expr)(ifs2:List Expr)(scope:Scope)(pos:Pos)(it:Value)(D:Addr)(env:Env):compTurn (.DictComp kx vx [⟨tg,iter,ifs,0⟩,⟨tg2,iter2,ifs2,0⟩] scope pos) 0 it (.ref D) env=qO (.DictComp kx vx [⟨tg,iter,ifs,0⟩,⟨tg2,iter2,ifs2,0⟩] scope pos) 0 it (.ref D) env iter.pos tg ifs (Aj (.DictComp kx vx [⟨tg,iter,ifs,0⟩,⟨tg2,iter2,ifs2,0⟩] scope pos) iter2 (.ref D) env):=by rfl
def KY(kx vx tg iter:Expr)(ifs:List Expr)(tg2 iter2:Expr)(ifs2:List Expr)(scope:Scope)(pos:Pos)(it:Value)(D:Addr)(env:Env):compTurn (.DictComp kx vx [⟨tg,iter,ifs,0⟩,⟨tg2,iter2,ifs2,0⟩] scope pos) 1 it (.ref D) env=qO (.DictComp kx vx [⟨tg,iter,ifs,0⟩,⟨tg2,iter2,ifs2,0⟩] scope pos) 1 it (.ref D) env iter2.pos tg2 ifs2 (Fh kx vx D env):=by rfl
theorem GY{prog:Program}{w:World}{A:Around}{R:Result->Shared->Prop}{s:Shared}{kx vx target:Expr}{gs:List Comprehension}{scope:Scope}{pos:Pos}{depth:Nat}{p:Pos}{ifs:List Expr}{it acc:Value}{env:Env}{B:Sem Fin->Sem Fin}(ht:compTurn (.DictComp kx vx gs scope pos) depth it acc env=qO (.DictComp kx vx gs scope pos) depth it acc env p target ifs B)(I:Nat->Shared->Prop)(turn:∀n s,I n s->wpAny (model prog w) A (pyNext it) (fun r s₁=>match r with
 | none=>R (.ok .next) s₁
 | some v=>wpAny (model prog w) A (letOwnedTupleGo target it v) (fun _ s₁'=>wpAny (model prog w) A (assign target env v) (fun _ s₂=>
  wpAny (model prog w) A (forIn ifs true fun c r=>if r=true then do let ok<-isTrue c env (eval c env);pure (ForInStep.yield ok) else pure (ForInStep.yield r)) (fun ok s₃=>
   if ok=true then(∀(k:Sem Fin) (Q:Fin->Shared->Prop),(∀s₆,(∃m,m<n/\I m s₆)->wpAny (model prog w) A k Q (fun _ _=>False) s₆)->wpAny (model prog w) A (B k) Q (fun _ _=>False) s₃)
   else ∃m,m<n/\I m s₃) (fun _ _=>False) s₂) (fun _ _=>False) s₁') (fun _ _=>False) s₁) (fun _ _=>False) s) (n:Nat) (h:I n s):codeAny (model prog w) A (.compLoop (.DictComp kx vx gs scope pos) depth it acc env) R s:=by
 refine codeAny_loop rfl I (fun n s hI=> ?_) n h;show wpAny _ A ((compTurn (.DictComp kx vx gs scope pos) depth it acc env).onRaise (fun x=>do noteFrame x env;theTreesLotGoes x)) _ _ s;refine wpAny_noted ?_;refine wpAny_noRaise ?_;rw[ht];unfold qO;refine ae (fC (ae (cP (turn n s hI) (fun r s₁ h₁=> ?_) fun _ _ h'=>h')));cases r with
 | none=>exact aI h₁
 | some v=>
   refine ae (cP h₁ (fun _ s₁' h₁'=> ?_) fun _ _ h'=>h');refine ae (cP h₁' (fun _ s₂ h₂=>ae (cP h₂ (fun ok s₃ h₃=> ?_) fun _ _ h'=>h')) fun _ _ h'=>h');cases ok with
   | false=>exact aI ⟨rfl,h₃⟩
   | true=>exact h₃ _ _ fun s₆ h₆=>aI ⟨rfl,h₆⟩
abbrev TB:=St->Hp->(St->Hp->Prop)->Prop
def LL(J:It)(g:TG)(tc:TT)(tb:TB)(Fin:St->Hp->Prop)(σ0:St)(H0:Hp):Prop:=∃W:Nat->Nat->St->Hp->Prop,(∃m,W 0 m σ0 H0)/\∀i m σ H,W i m σ H->(J.stop i H/\Fin σ H)\/(J.go i H/\∃N:St->Hp->Prop,(∀σ' H',N σ' H'->∃m',m'<m/\W (i+1) m' σ' H')/\∀x H1,J.yld i H x H1->g x σ H1 fun σ2 H2=>tc σ2 H2 fun b H3=>
   if b=true then tb σ2 H3 N else N σ2 H3)
def Ip{Fin:St->Hp->Prop}(n:Nat)(Pv:Nat->St->Hp->Prop)(h0:Pv 0 σ0 H0)(hend:∀σ H,Pv n σ H->J.stop n H/\Fin σ H)(hs:∀i σ H,i<n->Pv i σ H->J.go i H/\∀x H1,J.yld i H x H1->g x σ H1 fun σ2 H2=>tc σ2 H2 fun b H3=>
 if b=true then tb σ2 H3 (Pv (i+1)) else Pv (i+1) σ2 H3):LL J g tc tb Fin σ0 H0:=by
 refine⟨fun i m σ H=>m=n - i/\i<=n/\Pv i σ H,⟨n,by simp,ay _,h0⟩,?_⟩;rintro i m σ H ⟨rfl,hi,p⟩;by_cases hlt:i<n
 · obtain⟨q1,q2⟩:=hs i σ H hlt p;exact .inr ⟨q1,Pv (i+1),fun σ' H' p'=>⟨n - (i+1),by lia,rfl,hlt,p'⟩,q2⟩
 · have e:i=n:=by lia
   subst e;exact .inl (hend σ H p)
def AH(tk tv:TE)(D:Addr):TB:=fun σ H N=>tk σ H fun y H4=>tv σ H4 fun v H5=>∃kvs k,y=kV k/\H5 D=some (.dK kvs)/\kvs.length<sizeLine/\N σ (upd H5 D (.dK (bV kvs k v)))
def MY(wi:TI)(g:TG)(tc:TT)(tb:TB):TB:=fun σ H N=>wi σ H fun J H1=>LL J g tc tb N σ H1
def F5(wi:TI)(g:TG)(tc:TT)(wi2:TI)(g2:TG)(tc2:TT)(tk tv:TE)(nl:Nat)(caps:List Nat):TE:=fun σ H Q=>
 wi σ H fun J H1=>∀D,H1 D=none->LL J g tc (MY wi2 g2 tc2 (AH tk tv D)) (fun _ H'=>Q (.ref D) H') (AL nl caps σ) (upd H1 D (.dK []))
def PB(X:Cx)(B:Sem Fin->Sem Fin)(tb:TB):Prop:=∀(pins:List (Addr × Obj)) (s:Shared) (σ:St) (H:Hp) (N:St->Hp->Prop),Inv X pins σ H s->tb σ H N->∀(k:Sem Fin) (Q:Fin->Shared->Prop),(∀s' σ' H',Inv X pins σ' H' s'->N σ' H'->wpAny (model X.prog X.w) X.A k Q X.xe s')->wpAny (model X.prog X.w) X.A (B k) Q X.xe s
section
def EF{σ:St}{Fin:St->Hp->Prop}(hx:X.xe=fun _ _=>False)(hturn:compTurn (.DictComp kx vx gs scope pos) depth (.ref it) acc X.env=qO (.DictComp kx vx gs scope pos) depth (.ref it) acc X.env p tg ifs B)(hc:X.calm=true)(hB:PB X B tb)(I:Inv X pins σ H s)(T:yM X.prog X.w X.K tg J fp it tn)(st:tn 0 s.heap)(hf:∀b∈fp,lS X pins H b)(hg:PG X tg g)(ht:FD X ifs tc)(h:LL J g tc tb Fin σ H)(hR:∀σ' H' s',Inv X pins σ' H' s'->Fin σ' H'->R (.ok .next) s'):codeAny (model X.prog X.w) X.A (.compLoop (.DictComp kx vx gs scope pos) depth (.ref it) acc X.env) R s:=by
 obtain⟨W,⟨m0,w0⟩,turn⟩:=h;have stat:∀{H':Hp},(∀b∈fp,H' b=none)->∀b∈fp,lS X pins H' b:=fun hn b hb=>⟨hn b hb,(hf b hb).2⟩;refine GY hturn (fun n s'=>∃i σ' H',Inv X pins σ' H' s'/\tn i s'.heap/\(∀b∈fp,H' b=none)/\W i n σ' H') ?_ m0 ⟨0,σ,H,I,st,fun b hb=>(hf b hb).1,w0⟩;rintro n s3 ⟨i,σ3,H3,I3,st3,fr3,w3⟩;rw[<-hx];rcases turn i n σ3 H3 w3 with⟨stop,qn⟩ | ⟨go,Nn,hNn,step⟩
 · refine dt (T.done X rfl rfl rfl hc i pins s3 σ3 H3 _ I3 (stat fr3) st3 stop) fun r s4 ⟨hr,I4⟩=> ?_;subst hr;exact hR σ3 H3 s4 I4 qn
 · refine dt (T.item X rfl rfl rfl hc i pins s3 σ3 H3 _ I3 (stat fr3) st3 go) fun r s4 ⟨u,hr,h4⟩=> ?_;subst hr;refine dt h4 fun _ s5 ⟨x,H5,I5,r5,y5,st5,fr5⟩=> ?_;have I5':=I5.pinned (stat fr5) (T.obj _ _ st5);have again:∀{σ7:St} {H7:Hp} {s7:Shared},Inv X (pins++mF fp s5.heap) σ7 H7 s7->Nn σ7 H7->
    ∃m,m<n/\∃i σ' H',Inv X pins σ' H' s7/\tn i s7.heap/\(∀b∈fp,H' b=none)/\W i m σ' H':=fun {σ7 H7 s7} I7 n7=>by
    obtain⟨m',hm,w7⟩:=hNn σ7 H7 n7;refine⟨m',hm,i+1,σ7,H7,I7.unpinned,T.keep _ _ _ st5 fun b hb o e=>(I7.pin (b,o) (aN _ (aN _ (g_ hb e)))).1,fun b hb=> ?_,w7⟩;obtain⟨o,e,d⟩:=T.obj _ _ st5 b hb;exact(I7.pin (b,o) (aN _ (aN _ (g_ hb e)))).2.1
   refine dt (hg _ s5 σ3 H5 x u _ I5' r5 (step x H5 y5)) fun _ s6 ⟨σ6,H6,I6,q6⟩=> ?_;refine dt (ht _ s6 σ6 H6 _ I6 q6) fun b s7 ⟨H7,I7,q7⟩=> ?_;cases b with
   | false=>exact again I7 q7
   | true=>
     intro k Q hk;have hB':=hB _ s7 σ6 H7 _ I7 q7 k Q;rw[hx] at hB';rw[hx] at hk;rw[hx];exact hB' fun s8 σ8 H8 I8 q8=>hk s8 (again I8 q8)
def Jm(hk:PE X kx tk)(hv:PE X vx tv):PB X (Fh kx vx D X.env) (AH tk tv D):=by
 intro pins s σ H N I h k Q hq;unfold Fh ID;refine ae (ae (dt (hk pins s σ H _ I h) fun u8 s8 ⟨v8,H8,I8,r8,q8⟩=>ae (dP (dt (hv pins s8 σ H8 _ I8 q8) fun u9 s9 ⟨v9,H9,I9,r9,kvs,kk,e9,f9,z9,q9⟩=> ?_))));subst e9;exact ae (fC (dP (C3 I9 f9 z9 r8 r9 fun s' I'=>hq s' σ _ I' q9)))
def IU(h0:codeAny (model prog w) A (.compLoop (.DictComp kx vx [⟨tg,iter,ifs,0⟩,⟨tg2,iter2,ifs2,0⟩] scope pos) 1 it acc env) R s)(h:wpAny (model prog w) A (pyIter it) (fun it' s'=>codeAny (model prog w) A (.compLoop (.DictComp kx vx [⟨tg,iter,ifs,0⟩,⟨tg2,iter2,ifs2,0⟩] scope pos) 1 it' acc env) R s') (notedBy (model prog w) A env fun x s'=>R (.error x) s') s):codeAny (model prog w) A (.compStart (.DictComp kx vx [⟨tg,iter,ifs,0⟩,⟨tg2,iter2,ifs2,0⟩] scope pos) 1 it acc env) R s:=by
 refine codeAny_of_tree ?_;show wpAny _ A ((compStart (.DictComp kx vx [⟨tg,iter,ifs,0⟩,⟨tg2,iter2,ifs2,0⟩] scope pos) 1 it acc env).onRaise (fun x=>do noteFrame x env;standAt theWindowsPlace)) _ _ s;refine wpAny_notedAt ?_;unfold compStart;show wpAny _ A (ask>>=_) _ _ s;refine ae (wpAny_askSetting (wpAny_ite ?_))
 split
 · first
    | exact ae (aI (aI (And.intro rfl h0)))
    | exact aI (And.intro rfl h0)
 · first
    | exact ae (jw (ae (fC (ae (cP h (fun it' s' h'=>aI (And.intro rfl h')) fun _ _ x=>x)))))
    | (refine ae (jw ?_);show wpAny _ _ (standAt iter2.pos>>=_) _ _ s;exact ae (fC (ae (cP h (fun it' s' h'=>aI (And.intro rfl h')) fun _ _ x=>x))))
def GI(hx:X.xe=fun _ _=>False)(hc:X.calm=true)(hi2:PI X tg2 iter2 wi2)(hs2:∀x,foldedSetIterable iter2 X.env x=pure x)(hg2:PG X tg2 g2)(ht2:FD X ifs2 tc2)(hk:PE X kx tk)(hv:PE X vx tv):PB X (Aj (.DictComp kx vx [⟨tg,iter,ifs,0⟩,⟨tg2,iter2,ifs2,0⟩] scope pos) iter2 (.ref D) X.env) (MY wi2 g2 tc2 (AH tk tv D)):=by
 intro pins s σ H N I h k Q hq;unfold Aj;refine ae (dt (hi2 pins s σ H _ I h) fun v s1 h1=>ae (fC ?_));rw[hs2];refine ae (aI (ae (dP (dt h1 fun itv s2 h2=> ?_))));obtain⟨it,fp,tn,J,H2,e,I2,T,st2,f2,q⟩:=h2;subst e;refine ae (wpAny_runOwn ?_);have loop:=EF (R:=fun r s'=>match r with | .ok f=>wpAny (model X.prog X.w) X.A k Q X.xe s' | .error e=>cameBackBy (model X.prog X.w) X.A X.env X.xe e s') hx (KY kx vx tg iter ifs tg2 iter2 ifs2 scope pos (.ref it) D X.env) hc (Jm hk hv) I2 T st2 f2 hg2 ht2 q
  fun σ' H' s' I' q'=>hq s' σ' H' I' q'
 exact IU loop (T.self _ 0 _ _ _ st2 loop)
def wm{cY:List Str}{σ:St}{RR:Value->Addr->Result->Shared->Prop}{Fin:Hp->Prop}(hc:X.calm=true)(hb:kT scope X.env.scope=true)(hcap:gM X.N scope cs caps=true)(I:Inv X pins σ H s)(T:yM X.prog X.w X.K tg J fp it tn)(st:tn 0 s.heap)(hf:∀b∈fp,lS X pins H b)(hg:PG (jt X scope (cY++cs) s H fp) tg g)(ht:FD (jt X scope (cY++cs) s H fp) ifs tc)(hi2:PI (jt X scope (cY++cs) s H fp) tg2 iter2 wi2)(hs2:∀x,foldedSetIterable iter2 (jt X scope (cY++cs) s H fp).env x=pure x)(hg2:PG (jt X scope (cY++cs) s H fp) tg2 g2)(ht2:FD (jt X scope (cY++cs) s H fp) ifs2 tc2)(hk:PE (jt X scope (cY++cs) s H fp) kx tk)(hv:PE (jt X scope (cY++cs) s H fp) vx tv)(h:LL J g tc (MY wi2 g2 tc2 (AH tk tv s.heap.objs.size)) (fun _ H'=>Fin H') (AL cY.length caps σ) (upd H s.heap.objs.size (.dK [])))(hRR:∀σ' H' s',Inv (jt X scope (cY++cs) s H fp) [] σ' H' s'->Fin H'->RR (.ref s.heap.objs.size) (s.heap.objs.size+1) (.ok .next) s'):wpAny (model X.prog X.w) X.A newDict (fun acc s₃=>wpAny (model X.prog X.w) X.A (newFunctionEnv scope X.env.globals (iX X.env.cells scope.names []) [] X.env.qual none .none (some X.env)) (fun cenv s₄=>
  codeAny (model X.prog X.w) X.A (.compStart (.DictComp kx vx [⟨tg,iter,ifs,0⟩,⟨tg2,iter2,ifs2,0⟩] scope pos) 0 (.ref it) acc {cenv with scope:=relabel scope X.env}) (RR acc cenv.locals) s₄) E s₃) E s:=by
 have hcell:∀y∈scope.names,y.2≠ .cell:=fun y hy=>(iL hb y hy).1;have hkind:=jE hb;have hlt:∀b∈fp,b<s.heap.objs.size:=fun b hbm=>by
  obtain⟨o,e,_⟩:=T.obj 0 _ st b hbm;exact aU e
 refine dQ (MO hcell (by intro y hy;simp at hy) (fun h₁ hns₁ hsb₁=> ?_) hkind);dsimp only at hns₁ hsb₁⊢;generalize hH2:s.heap.push {cls:= .type "dict",dict:=none,data:= .dict #[]}=H2 at hns₁ hsb₁⊢;have hC:H2.objs.size=s.heap.objs.size+1:=by rw[<-hH2,eo]
 rw[hC] at hns₁ hsb₁⊢;have hDC:s.heap.objs.size≠s.heap.objs.size+1:=bJ (jF _);have below:∀b,b<s.heap.objs.size->b≠s.heap.objs.size+1:=fun b hb=>bJ (dg hb);have old:∀b o,s.heap.get? b=some o->h₁.get? b=some o:=fun b o e=>hsb₁.extBut b o (below b (aU e)) (aC _ (hH2 ▸ aC _ e));have hD:h₁.get? s.heap.objs.size=some {cls:= .type "dict",dict:=none,data:= .dict #[]}:=
  hsb₁.extBut _ _ hDC (aC _ (hH2 ▸ bf _ rfl))
 have frC:H (s.heap.objs.size+1)=none:=I.hok.fresh (bA _);have frD:H s.heap.objs.size=none:=I.hok.fresh (au _);have J0:Inv (jt X scope (cY++cs) s H fp) [] (AL cY.length caps σ) (upd H s.heap.objs.size (.dK [])) {s with heap:=h₁,toks:=s.toks+([]:List (Str × Value)).length}:=by
  refine⟨wo I hb hf hlt,rfl,I.bare,Un.laid old (au _) frD,⟨_,hns₁,fun i x v e1 e2 e3=> ?_⟩,fun x c e=> ?_,?_,fun x c e=> ?_,fun p hp=>absurd (show p∈([]:List (Addr × Obj)) from hp) (by simp),?_,?_⟩
  · have e1':(cY++cs)[i]? =some x:=e1;have hi:cY.length<=i:=by
     rcases eR i cY.length with hi | hi
     · unfold AL at e2;rw[bM (by simpa using hi),pz] at e2
       split at e2<;>cases e2
     · exact hi
    rw[cy hi] at e1';obtain⟨k,q1,q2,q3⟩:=sR hcap e1';unfold AL at e2;rw[cy (by simpa using hi),fk,aQ,q1] at e2;have e2':(σ[k]?).getD none=some v:=by simpa using e2
    have e4:σ[k]? =some (some v):=by
     cases z:σ[k]? with
     | none=>rw[z] at e2';cases e2'
     | some o=>rw[z] at e2';simp at e2';rw[e2']
    have hfr:=(iL hb _ (de q3)).2.2 rfl;obtain⟨m,hn,hl⟩:=I.loc;obtain⟨u,r,l⟩:=hl k x v q2 e4 (hfr.elim (fun z=> .inr (.inl z)) fun z=> .inr (.inr z));refine⟨u,r,.inr ⟨?_,?_⟩⟩
    · exact fS q3
    · rcases l with⟨k1,_⟩ | ⟨_,c,ec,z⟩
      · exfalso
        have k1':X.env.scope.names.lookup x=some .local:=k1;rcases hfr with z | z<;>(rw[k1'] at z;cases z)
      · obtain⟨c',ec'⟩:=lH (cells:=X.env.cells) scope.names [] (de q3);have q:=(capOf_some scope.names [] (dZ I hb) ec').resolve_left (by simp);rw[ec] at q;cases q;obtain⟨o,ho,hd⟩:=z;exact⟨c,ec',o,old _ _ ho,hd⟩
  · have q:=(capOf_some scope.names [] (dZ I hb) e).resolve_left (by simp);obtain⟨v,o,ho,hd⟩:=I.cell x c q;exact⟨v,o,old _ _ ho,hd⟩
  · show upd H s.heap.objs.size (.dK []) (s.heap.objs.size+1)=none;rw[aD (bI hDC)];exact frC
  · have q:=(capOf_some scope.names [] (dZ I hb) e).resolve_left (by simp);obtain⟨v,o,ho,hd⟩:=I.cell x c q;rw[aD (bJ (aU ho))];exact I.freeC x c q
  · refine I.hok.laid old (au _) ?_;have hb':=I.big;obtain⟨z1,z2,z3⟩:=yy (P:=X.prog) (w:=X.w) (H:=upd H s.heap.objs.size (.dK [])) s.heap hb';obtain⟨vs,rel,o,es,ep,ho,hr⟩:=z3;rw[bf _ rfl] at ho;cases ho;exact⟨z1,z2,vs,rel,_,es,ep,hD,hr⟩
  · show(AL cY.length caps σ).length=(cY++cs).length;unfold AL;rw[ag,fk,ai,ag,sQ hcap]
 have fr0:∀b∈fp,upd H s.heap.objs.size (.dK []) b=none:=fun b hbm=>by rw[aD (bJ (hlt b hbm))];exact(hf b hbm).1
 have fp0:∀b∈fp,lS (jt X scope (cY++cs) s H fp) [] (upd H s.heap.objs.size (.dK [])) b:=fun b hbm=>by
  have q:=(wo (N:=cY++cs) I hb hf hlt);refine⟨fr0 b hbm,(q.exf b hbm).1,q.exfs b hbm,.inl hbm,(q.exf b hbm).2,fun p hp=>absurd (show p∈([]:List (Addr × Obj)) from hp) (by simp)⟩
 have st0:=T.keep _ _ _ st fun b _ o e=>old b o e;have loop:∀s₃:Shared,s₃={s with heap:=h₁,toks:=s.toks+([]:List (Str × Value)).length}->
  codeAny (model X.prog X.w) X.A (.compLoop (.DictComp kx vx [⟨tg,iter,ifs,0⟩,⟨tg2,iter2,ifs2,0⟩] scope pos) 0 (.ref it) (.ref s.heap.objs.size) (jt X scope (cY++cs) s H fp).env) (RR (.ref s.heap.objs.size) (s.heap.objs.size+1)) s₃:=by
  rintro s₃ rfl;refine EF (X:=jt X scope (cY++cs) s H fp) rfl (KZ ..) hc (GI rfl hc hi2 hs2 hg2 ht2 hk hv) J0 T st0 fp0 hg ht h ?_;intro σ' H' s' I' q';exact hRR σ' H' s' I' q'
 exact codeAny_compStart_dict (loop _ rfl) (T.self _ 0 _ _ _ st0 (loop _ rfl))
def Co{X:Cx}{tg iter kx vx tg2 iter2:Expr}{ifs ifs2:List Expr}{scope:Scope}{pos:Pos}{wi wi2:TI}{g g2:TG}{tc tc2:TT}{tk tv:TE}(cY cs:List Str)(caps:List Nat)(hc:X.calm=true)(hi:PI X tg iter wi)(hg:∀s H fp,PG (jt X scope (cY++cs) s H fp) tg g)(ht:∀s H fp,FD (jt X scope (cY++cs) s H fp) ifs tc)(hi2:∀s H fp,PI (jt X scope (cY++cs) s H fp) tg2 iter2 wi2)(hg2:∀s H fp,PG (jt X scope (cY++cs) s H fp) tg2 g2)(ht2:∀s H fp,FD (jt X scope (cY++cs) s H fp) ifs2 tc2)(hk:∀s H fp,PE (jt X scope (cY++cs) s H fp) kx tk)(hv:∀s H fp,PE (jt X scope (cY++cs) s H fp) vx tv)(hb:kT scope X.env.scope=true:=by rfl)(hcap:gM X.N scope cs caps=true:=by rfl)(hs:∀x,foldedSetIterable iter X.env x=pure x:=by intro _;rfl)(hs2:∀s H fp x,foldedSetIterable iter2 (jt X scope (cY++cs) s H fp).env x=pure x:=by intro _ _ _ _;rfl):PE X (.DictComp kx vx [⟨tg,iter,ifs,0⟩,⟨tg2,iter2,ifs2,0⟩] scope pos) (F5 wi g tc wi2 g2 tc2 tk tv cY.length caps):=by
 intro pins s σ H Q I h;rw[arm_eval_DictComp];refine m_ (use:=none) rfl hs (kQ (dZ I hb)) (jE hb) (fun y hy=>(iL hb y hy).2.1) (dt (hi pins s σ H _ I h) fun v s1 h1=>dt h1 fun itv s2 h2=> ?_);obtain⟨it,fp,tn,J,H2,e,I2,T,st2,f2,q⟩:=h2;subst e;refine wm (RR:=fun acc C=>compPost (model X.prog X.w) X.A X.xe none (EP X pins σ Q) acc C) (cY:=cY) (cs:=cs) (Fin:=fun H'=>Q (.ref s2.heap.objs.size) H') hc hb hcap I2 T st2 f2 (hg _ _ _) (ht _ _ _) (hi2 _ _ _) (hs2 _ _ _) (hg2 _ _ _) (ht2 _ _ _) (hk _ _ _) (hv _ _ _) (q _ (I2.hok.fresh (au _))) ?_;intro σ' H' s' J' q';obtain⟨m,hn,_⟩:=J'.loc;refine⟨m,hn,fun h' hs'=> ?_⟩;have I3:=sL I2 f2 J';have fr:H' (s2.heap.objs.size+1)=none:=J'.free;refine⟨.ref s2.heap.objs.size,H',I3.turned (t':=s'.toks) (it:=s2.heap.objs.size+1) (fun b o hb e=>(hs'.2 b hb).trans e) fr ?_ (.inr (aq I2.sz (bA _))) ?_ ?_,rfl,q'⟩
 · exact jb (dg I2.lt)
 · intro x c e z;obtain⟨v,hv⟩:=I2.cell x c e;have h1:s2.heap.objs.size+1<s2.heap.objs.size:=z ▸ hv.lt;exact absurd h1 (qf.mpr (bA _))
 · intro p hp z;have h1:s2.heap.objs.size+1<s2.heap.objs.size:=z ▸ aU (I2.pin p hp).1;exact absurd h1 (qf.mpr (bA _))
end
section
def lK{lo:Option Int}(ht:IsTup s.heap t items)(hs:s.heap.IsSliceOf sl vl vu .none)(pl:IsPart vl lo)(pu:IsPart vu hi)(hw:HT.sIx items.size 0 lo=0/\HT.sIx items.size items.size hi=items.size)(h:Q (.ref t) s):wpAny (model prog w) A (getItem (.ref t) (.ref sl)) Q E s:=by
 obtain⟨os,hos,hcs,hds⟩:=id hs;have hTs:s.TypeIs (.ref sl) "slice":=⟨os,hos,hcs⟩;unfold getItem
 try with_reducible refine dP ?_
 first | refine ae (aI ?_) | skip
 refine ae (O5 ht.typeIs (by decide) ?_);refine ae (eE (name:=Str.ofString "__getitem__") ht.typeIs cO (gX cO ht.typeIs Of ?_ (OT _ _)));show wpAny _ _ (Builtin.Tuple.tupleItemsOf (.ref t)>>=_) _ _ s;refine ae (tupleItemsOf_ ht ?_);refine ae (wpAny_typeOf hTs ?_);rw[aH (by decide)];refine ae (HT.sliceApplied_gen hs pl pu ?_);have hyes:((((HT.sIx items.size 0 lo:Nat):Int)==0&&(1:Int)==1&&(HT.sIx items.size items.size hi - HT.sIx items.size 0 lo)==items.size)=true):=by
  rw[hw.1,hw.2];simp
 show wpAny _ _ (if(((HT.sIx items.size 0 lo:Nat):Int)==0&&(1:Int)==1&&(HT.sIx items.size items.size hi - HT.sIx items.size 0 lo)==items.size)=true then _ else _) _ _ s;rw[aH hyes];obtain⟨o,ho,hc,r⟩:=id ht;have hT:s.TypeIs (.ref t) "tuple":=ht.typeIs
 repeat (any_goals (first | assumption | wp_step))
 exact⟨_,rfl,aI h⟩
end
section
def Nf(K:Frag):V->Option Int->Option Int->Hp->VK->Prop:=fun x lo hi H Q=>∃a xs,x= .ref a/\SqT K H a xs/\((HT.sIx xs.length 0 lo=0/\HT.sIx xs.length xs.length hi=xs.length)->Q (.ref a) H)/\(¬ (HT.sIx xs.length 0 lo=0/\HT.sIx xs.length xs.length hi=xs.length)->∀p,H p=none->Q (.ref p) (upd H p (.tup (i_ xs lo hi))))
def F9:Ma X (Nf X.K):=by
 intro pins s σ H x v vl vu lo hi sl Q I rx hs pl pu h;obtain⟨a,xs,rfl,hx,q1,q2⟩:=h;by_cases hw:HT.sIx xs.length 0 lo=0/\HT.sIx xs.length xs.length hi=xs.length
 · cases rx;obtain⟨its,r,ht,hz⟩:=I.tuple hx;have hlen:its.toArray.size=xs.length:=by rw[aM];exact r.length.symm
   refine⟨"tuple",_,cO.lookup,ht.typeIs,?_⟩;exact lK ht hs pl pu (by rw[hlen];exact hw) ⟨.ref a,H,I,rfl,q1 hw⟩
 · exact vh pins s σ H _ v vl vu lo hi sl Q I rx hs pl pu ⟨a,xs,rfl,hx,hw,q2 hw⟩
end
section
end
section
end
section
end
section
end
section
end
section
end
section
end
section
end
section
end
section
end
section
end
section
end
section
end
section
end
section
end
section
end
section
end
section
end
section
end
section
end
section
end
abbrev Tg:=Addr->Option (Nat × Option Key)
structure Fr(S:List Nat)(T T':Tg)(H H':Hp):Prop where
 but:∀b o,H b=some o->(∀i k,T b=some (i,k)->i∉S)->H' b=some o
 tups:Tups H H'
 there:∀b,H b≠none->H' b≠none
 tg:∀b i,T b=some i->T' b=some i
 new:∀b i,T' b=some i->T b=some i\/(H b=none/\i.1∈S)
def TgOk(T:Tg)(H:Hp):Prop:=∀b i,T b=some i->H b≠none
def Fr.refl:Fr S T T H H:=⟨fun _ _ e _=>e,Tups.refl H,fun _ h=>h,fun _ _ h=>h,fun _ _ h=> .inl h⟩
def Fr.trans(a:Fr S T T1 H H1)(b:Fr S T1 T2 H1 H2):Fr S T T2 H H2 where
 but:=fun c o e n=>b.but c o (a.but c o e n) fun i k h=>by
  rcases a.new c (i,k) h with h | ⟨h,_⟩
  · exact n i k h
  · rw[h] at e;cases e
 tups:=a.tups.trans b.tups
 there:=fun c h=>b.there c (a.there c h)
 tg:=fun c i h=>b.tg c i (a.tg c i h)
 new:=fun c i h=>by
  rcases b.new c i h with h | ⟨h,hi⟩
  · exact a.new c i h
  · refine .inr ⟨?_,hi⟩;cases e:H c with
    | none=>rfl
    | some o=>exact absurd h (a.there c (by rw[e];intro z;cases z))
def Fr.mono(a:Fr S T T' H H')(h:∀i∈S,i∈S'):Fr S' T T' H H':=⟨fun c o e n=>a.but c o e fun i k z m=>n i k z (h i m),a.tups,a.there,a.tg,fun c i e=>(a.new c i e).imp id fun z=>⟨z.1,h _ z.2⟩⟩
def qQ(s:Same H H'):∀b,H b≠none->H' b≠none:=fun b h=>by
 cases e:H b with
 | none=>exact absurd e h
 | some o=>rw[s b o e];intro z;cases z
def Fr.of(s:Same H H'):Fr S T T H H':=⟨fun b o e _=>s b o e,s.tups,qQ s,fun _ _ h=>h,fun _ _ h=> .inl h⟩
def TgOk.same(h:TgOk T H)(s:Same H H'):TgOk T H':=fun b i e=>qQ s b (h b i e)
def TgOk.free{T:Tg}{H:Hp}(h:TgOk T H){b:Addr}(e:H b=none):T b=none:=by
 cases c:T b with
 | none=>rfl
 | some i=>exact absurd e (h b i c)
def Fr.put(t:T p=some (i,k))(hi:i∈S)(nt:∀xs,H p≠some (.tup xs)):Fr S T T H (upd H p o) where
 but:=fun b u e n=>by
  by_cases h:b=p
  · subst h;exact absurd hi (n i k t)
  · rw[aD h];exact e
 tups:=fun b xs e=>by
  by_cases h:b=p
  · subst h;exact absurd e (nt xs)
  · rw[aD h];exact e
 there:=fun b e=>by
  by_cases h:b=p
  · subst h;rw[aa];intro z;cases z
  · rw[aD h];exact e
 tg:=fun _ _ h=>h
 new:=fun _ _ h=> .inl h
def TgOk.put(h:TgOk T H):TgOk T (upd H p o):=fun b i e=>by
 by_cases z:b=p
 · subst z;rw[aa];intro z;cases z
 · rw[aD z];exact h b i e
noncomputable def ke(T:Tg)(p:Addr)(i:Nat × Option Key):Tg:=fun b=>if b=p then some i else T b
def qR:ke T p i p=some i:=aH rfl
def j_(h:b≠p):ke T p i b=T b:=aE h
def Fr.new'(ok:TgOk T H)(hp:H p=none)(hi:i.1∈S):Fr S T (ke T p i) H (upd H p o) where
 but:=fun b u e _=>ah hp o b u e
 tups:=(ah hp o).tups
 there:=qQ (ah hp o)
 tg:=fun b j h=>by
  have:b≠p:=fun z=>ok b j h (by rw[z];exact hp);rw[j_ this];exact h
 new:=fun b j h=>by
  by_cases z:b=p
  · subst z;rw[qR] at h;cases h;exact .inr ⟨hp,hi⟩
  · rw[j_ z] at h;exact .inl h
def TgOk.new(ok:TgOk T H)(hp:H p=none):TgOk (ke T p i) (upd H p o):=fun b j h=>by
 by_cases z:b=p
 · subst z;rw[aa];intro z;cases z
 · rw[aD z];rw[j_ z] at h;exact ok b j h
def Mo{α:Type}(R:Hp->V->α->Prop):Prop:=∀H H' v x,Tups H H'->R H v x->R H' v x
section
def FLs{α:Type}(R:Hp->V->α->Prop)(H:Hp)(T:Tg)(i:Nat)(p:Addr)(xs:List α):Prop:=T p=some (i,none)/\∃vs,H p=some (.lst vs)/\Paired (R H) vs xs
def FK(H:Hp)(T:Tg)(i:Nat)(p:Addr)(f:Key->Option V)(n:Nat):Prop:=T p=some (i,none)/\∃kvs,H p=some (.dK kvs)/\(∀k,c_ kvs k=f k)/\kvs.length<=n
def FT(H:Hp)(T:Tg)(i:Nat)(p:Addr)(f:List Key->Option V)(n:Nat):Prop:=T p=some (i,none)/\∃kvs,H p=some (.dT kvs)/\(∀k,c_ kvs k=f k)/\kvs.length<=n
def FTb{α:Type}(R:Hp->V->α->Prop)(H:Hp)(T:Tg)(i:Nat)(p:Addr)(f:Key->List α)(n:Nat):Prop:=T p=some (i,none)/\∃kvs,H p=some (.dK kvs)/\kvs.length<=n/\(∀k,(f k).length<=n)/\∀k,(c_ kvs k=none/\f k=[])\/∃q vs,c_ kvs k=some (.ref q)/\T q=some (i,some k)/\H q=some (.lst vs)/\Paired (R H) vs (f k)
theorem nO:∀{l l':List α} {k k':List β},Paired R l k->Paired R l' k'->Paired R (l++l') (k++k')
 | _,_,_,_,.nil,s=>s
 | _,_,_,_,.cons r t,s=> .cons r (nO t s)
def GC{α:Type}{R:Hp->V->α->Prop}{H H':Hp}(m:Mo R)(t:Tups H H'){vs:List V}{xs:List α}(h:Paired (R H) vs xs):Paired (R H') vs xs:=Paired.imp' (fun _ _ q=>m _ _ _ _ t q) h
def Fr.at(f:Fr S T T' H H')(hi:i∉S)(t:T b=some (i,k))(e:H b=some o):H' b=some o:=f.but b o e fun j k' z=>by rw[t] at z;cases z;exact hi
def FLs.fr{xs:List α}(m:Mo R)(f:Fr S T T' H H')(hi:i∉S)(h:FLs R H T i p xs):FLs R H' T' i p xs:=by
 obtain⟨t,vs,e,r⟩:=h;exact⟨f.tg _ _ t,vs,f.at hi t e,GC m f.tups r⟩
def FK.fr(f:Fr S T T' H H')(hi:i∉S)(h:FK H T i p g n):FK H' T' i p g n:=by
 obtain⟨t,kvs,e,r⟩:=h;exact⟨f.tg _ _ t,kvs,f.at hi t e,r⟩
def FT.fr(f:Fr S T T' H H')(hi:i∉S)(h:FT H T i p g n):FT H' T' i p g n:=by
 obtain⟨t,kvs,e,r⟩:=h;exact⟨f.tg _ _ t,kvs,f.at hi t e,r⟩
def FTb.fr{g:Key->List α}(m:Mo R)(f:Fr S T T' H H')(hi:i∉S)(h:FTb R H T i p g n):FTb R H' T' i p g n:=by
 obtain⟨t,kvs,e,l,ll,r⟩:=h;refine⟨f.tg _ _ t,kvs,f.at hi t e,l,ll,fun k=> ?_⟩;rcases r k with z | ⟨q,vs,z1,z2,z3,z4⟩
 · exact .inl z
 · exact .inr ⟨q,vs,z1,f.tg _ _ z2,f.at hi z2 z3,GC m f.tups z4⟩
def FLs.app{x:α}(m:Mo R)(h:FLs R H T i p xs)(e:H p=some (.lst vs))(r:R H v x):FLs R (upd H p (.lst (vs++[v]))) T i p (xs++[x])/\Fr [i] T T H (upd H p (.lst (vs++[v]))):=by
 obtain⟨t,vs',e',rs⟩:=h;rw[e] at e';cases e';have f:Fr [i] T T H (upd H p (.lst (vs++[v]))):=Fr.put t (by simp) (fun xs z=>by rw[e] at z;cases z);exact⟨⟨t,_,aa,nO (GC m f.tups rs) (.cons (m _ _ _ _ f.tups r) .nil)⟩,f⟩
def FK.put(h:FK H T i p g n)(e:H p=some (.dK kvs)):FK (upd H p (.dK (bV kvs k v))) T i p (fun j=>if j=k then some v else g j) (n+1)/\Fr [i] T T H (upd H p (.dK (bV kvs k v))):=by
 obtain⟨t,kvs',e',r,l⟩:=h;rw[e] at e';cases e';refine⟨⟨t,_,aa,fun j=> ?_,aq (dO _ _ _) (hG l)⟩,Fr.put t (by simp) (fun xs z=>by rw[e] at z;cases z)⟩;rw[fV,r]
def FT.put(h:FT H T i p g n)(e:H p=some (.dT kvs)):FT (upd H p (.dT (bV kvs k v))) T i p (fun j=>if j=k then some v else g j) (n+1)/\Fr [i] T T H (upd H p (.dT (bV kvs k v))):=by
 obtain⟨t,kvs',e',r,l⟩:=h;rw[e] at e';cases e';refine⟨⟨t,_,aa,fun j=> ?_,aq (dO _ _ _) (hG l)⟩,Fr.put t (by simp) (fun xs z=>by rw[e] at z;cases z)⟩;rw[fV,r]
def Ir{α:Type}{g:Key->List α}{x:α}(h:∀k,(g k).length<=n):∀j,(g j++if j=k then [x] else []).length<=n+1:=fun j=>by
 rw[ag];have:=h j
 split<;>simp only[aV,cw]<;>lia
def FTb.app{x:α}(m:Mo R)(h:FTb R H T i p g n)(e:H p=some (.dK kvs))(eq:c_ kvs k=some (.ref q))(hq:H q=some (.lst vs))(r:R H v x):FTb R (upd H q (.lst (vs++[v]))) T i p (fun j=>g j++if j=k then [x] else []) (n+1)/\Fr [i] T T H (upd H q (.lst (vs++[v]))):=by
 obtain⟨t,kvs',e',l,ll,rs⟩:=h;rw[e] at e';cases e';rcases rs k with⟨z,_⟩ | ⟨q',vs',z1,z2,z3,z4⟩
 · rw[eq] at z;cases z
 rw[eq] at z1;cases z1;rw[hq] at z3;cases z3;have f:Fr [i] T T H (upd H q (.lst (vs++[v]))):=Fr.put z2 (by simp) (fun xs z=>by rw[hq] at z;cases z);refine⟨⟨t,kvs,?_,mY l,Ir ll,fun j=> ?_⟩,f⟩
 · rw[aD (fun z=>by rw[z,hq] at e;cases e)];exact e
 · by_cases hj:j=k
   · subst hj;dsimp only;rw[aH rfl];exact .inr ⟨q,_,eq,z2,aa,nO (GC m f.tups z4) (.cons (m _ _ _ _ f.tups r) .nil)⟩
   · dsimp only;rw[aE hj,qK];rcases rs j with z | ⟨q2,vs2,y1,y2,y3,y4⟩
     · exact .inl z
     · refine .inr ⟨q2,vs2,y1,y2,?_,GC m f.tups y4⟩;rw[aD (fun z=>by rw[z,z2] at y2;cases y2;exact hj rfl)];exact y3
def FTb.new{x:α}(m:Mo R)(ok:TgOk T H)(h:FTb R H T i p g n)(e:H p=some (.dK kvs))(eq:c_ kvs k=none)(hq:H q=none)(r:R H v x)(H':Hp)(hH:H'=upd (upd H q (.lst [v])) p (.dK (bV kvs k (.ref q)))):FTb R H' (ke T q (i,some k)) i p (fun j=>g j++if j=k then [x] else []) (n+1)/\Fr [i] T (ke T q (i,some k)) H H'/\TgOk (ke T q (i,some k)) H':=by
 subst hH;obtain⟨t,kvs',e',l,ll,rs⟩:=h;rw[e] at e';cases e';have pq:p≠q:=fun z=>by rw[z,hq] at e;cases e
 have f1:Fr [i] T (ke T q (i,some k)) H (upd H q (.lst [v])):=Fr.new' ok hq (by simp);have t1:ke T q (i,some k) p=some (i,none):=by rw[j_ pq];exact t
 have e1:upd H q (.lst [v]) p=some (.dK kvs):=by rw[aD pq];exact e
 have f2:Fr [i] (ke T q (i,some k)) (ke T q (i,some k)) (upd H q (.lst [v])) (upd (upd H q (.lst [v])) p (.dK (bV kvs k (.ref q)))):=Fr.put t1 (by simp) (fun xs z=>by rw[e1] at z;cases z);have ft:=f1.trans f2;refine⟨⟨t1,_,aa,aq (dO _ _ _) (hG l),Ir ll,fun j=> ?_⟩,ft,(TgOk.new ok hq).put⟩;have gk:g k=[]:=by
  rcases rs k with z | ⟨q2,vs2,y1,_⟩
  · exact z.2
  · rw[eq] at y1;cases y1
 by_cases hj:j=k
 · subst hj;dsimp only;rw[aH rfl,gk];exact .inr ⟨q,[v],by rw[fV,aH rfl],qR,by rw[aD (bI pq),aa],.cons (m _ _ _ _ ft.tups r) .nil⟩
 · dsimp only;rw[aE hj,qK,fV,aE hj];rcases rs j with z | ⟨q2,vs2,y1,y2,y3,y4⟩
   · exact .inl z
   · have q2p:q2≠p:=fun z=>by rw[z,e] at y3;cases y3
     have q2q:q2≠q:=fun z=>by rw[z,hq] at y3;cases y3
     exact .inr ⟨q2,vs2,y1,by rw[j_ q2q];exact y2,by rw[aD q2p,aD q2q];exact y3,GC m ft.tups y4⟩
end
def Bt(a:Addr)(H H':Hp):Prop:=∀b o,H b=some o->b≠a->H' b=some o
section
def FLs.bt{xs:List α}(m:Mo R)(b:Bt a H H')(t:Tups H H')(hT:T a=none)(h:FLs R H T i p xs):FLs R H' T i p xs:=by
 obtain⟨t0,vs,e,r⟩:=h;exact⟨t0,vs,b _ _ e (fun z=>by rw[z,hT] at t0;cases t0),GC m t r⟩
def FK.bt(b:Bt a H H')(hT:T a=none)(h:FK H T i p f n):FK H' T i p f n:=by
 obtain⟨t0,kvs,e,r⟩:=h;exact⟨t0,kvs,b _ _ e (fun z=>by rw[z,hT] at t0;cases t0),r⟩
def FT.bt(b:Bt a H H')(hT:T a=none)(h:FT H T i p f n):FT H' T i p f n:=by
 obtain⟨t0,kvs,e,r⟩:=h;exact⟨t0,kvs,b _ _ e (fun z=>by rw[z,hT] at t0;cases t0),r⟩
def FTb.bt{f:Key->List α}(m:Mo R)(b:Bt a H H')(t:Tups H H')(hT:T a=none)(h:FTb R H T i p f n):FTb R H' T i p f n:=by
 obtain⟨t0,kvs,e,l,ll,r⟩:=h;refine⟨t0,kvs,b _ _ e (fun z=>by rw[z,hT] at t0;cases t0),l,ll,fun k=> ?_⟩;rcases r k with z | ⟨q,vs,z1,z2,z3,z4⟩
 · exact .inl z
 · exact .inr ⟨q,vs,z1,z2,b _ _ z3 (fun z=>by rw[z,hT] at z2;cases z2),GC m t z4⟩
def FLs.nil{R:Hp->V->α->Prop}(t:T p=some (i,none))(e:H p=some (.lst [])):FLs R H T i p []:=⟨t,[],e,.nil⟩
def FK.nil(hf:∀k,f k=none)(t:T p=some (i,none))(e:H p=some (.dK [])):FK H T i p f n:=⟨t,[],e,fun k=>(hf k).symm,ay _⟩
def FT.nil(hf:∀k,f k=none)(t:T p=some (i,none))(e:H p=some (.dT [])):FT H T i p f n:=⟨t,[],e,fun k=>(hf k).symm,ay _⟩
def FTb.nil{f:Key->List α}(hf:∀k,f k=[])(t:T p=some (i,none))(e:H p=some (.dK [])):FTb R H T i p f n:=⟨t,[],e,ay _,fun k=>by rw[hf];exact ay _,fun k=> .inl ⟨rfl,hf k⟩⟩
end
def gU{N P:List Str}{sc:Scope}(a:sc.kind= .function:=by rfl)(b:sc.isCoroutine=false:=by rfl)(c:sc.isGenerator=false:=by rfl)(d:N.Nodup:=by decide+kernel)(e:N.take P.length=P:=by rfl)(f:∀x∈P,sc.names.lookup x=some .local\/sc.names.lookup x=some .cell:=by decide+kernel)(g:∀y∈sc.names,y.2≠ .free:=by decide+kernel):bq N P sc:=⟨a,b,c,d,e,f,g⟩
def Fun.o{P:Program}{w:World}{K:Frag}{mg:Str->Option Value}{base:Heap}{x qual:Str}{st:Stmt}{f:Addr}{fd:FuncData}{N ps:List Str}{k:Nat}{sp:Sp}(F:Fun K x qual st f fd)(S:bq N ps (aK st))(hbody:∀(cdv:Value) (A:Around) (outer:List Env) (s:Shared) (H:Hp) (vs:List V) (Q:VK) (E:XK),Room k (A.deeper (envOfC qual (aK st) s.heap.objs.size f cdv))->sp vs H Q E->∃t,PSs (yC fj P w K mg base N qual (aK st) f cdv A outer s H E).nox (eN st) t/\t {nx:=fun _ H'=>Q .non H',rt:=Q} (lW N vs) H) (len:∀vs H Q E,sp vs H Q E->vs.length=ps.length:=by intro vs H Q E h;cases h;subst_vars;rfl):b_ P w K mg base fj (k+1) f fd ps sp:=F.ok S len hbody
section
def J1:NM X .BitXor (Oc fun i j=>Builtin.bitXor i j):=by
 intro pins s σ H x y v u Q I r1 r2 h;obtain⟨i,j,e1,e2,q⟩:=h;subst e1;subst e2;obtain⟨t,rfl⟩:=r1;obtain⟨t',rfl⟩:=r2;exact ixor_int ⟨.int _,H,I.tok _,⟨_,rfl⟩,q⟩
def Gs:V->List V->Hp->VK->Prop:=fun x vs H Q=>∃i,x= .int i/\vs=[]/\Q (.int ((Builtin.Int.intBits i:Nat):Int)) H
def tF:MH X "int.bit_length" Gs:=by
 intro pins s σ H x xs v us Q I rx rs h;obtain⟨i,rfl,rfl,q⟩:=h;obtain⟨t,rfl⟩:=rx;cases rs;exact call_int_bit_length ⟨.int _,H,I.tok _,⟨_,rfl⟩,q⟩
end
def bn(x:Int):Builtin.bitNot x= -x - 1:=by first | rfl | (unfold Builtin.bitNot;lia)
def Fz(a b:Nat):Builtin.bitAnd (a:Int) (b:Int)=((a&&&b:Nat):Int):=by
 have h1:decide (0<=(a:Int))=true:=ao (by lia);have h2:decide (0<=(b:Int))=true:=ao (by lia);unfold Builtin.bitAnd;rw[h1,h2]
 rfl
def Ic(a b:Nat):Builtin.bitOr (a:Int) (b:Int)=((a ||| b:Nat):Int):=by
 have h1:decide (0<=Builtin.bitNot (a:Int))=false:=aj (by rw[bn];lia);have h2:decide (0<=Builtin.bitNot (b:Int))=false:=aj (by rw[bn];lia);have n1:∀x:Int,Builtin.bitNot (Builtin.bitNot x)=x:=fun x=>by rw[bn,bn];lia
 unfold Builtin.bitOr Builtin.bitAnd;rw[h1,h2];show Builtin.bitNot (Builtin.bitNot (((Builtin.bitNot (Builtin.bitNot (a:Int))).toNat ||| (Builtin.bitNot (Builtin.bitNot (b:Int))).toNat:Nat):Int))=_;rw[n1,n1,n1]
 rfl
def Jt:∀a b,a&&&b=0->a ||| b=a+b:=by
 intro a
 induction a using Nat.strongRecOn with
 | ind a ih=>
   intro b h;by_cases ha:a=0
   · subst ha;simp
   have hd:a/2&&&b/2=0:=by
    have:=congrArg (· /2) h;simpa[Nat.and_div_two] using this
   have e1:=ih (a/2) (by lia) (b/2) hd;have e2:(a ||| b)/2=a/2 ||| b/2:=Nat.or_div_two
   have m1:(a&&&b).testBit 0=false:=by rw[h];simp
   have m2:(a ||| b).testBit 0=(a.testBit 0 || b.testBit 0):=tL ..;rw[gu] at m1;simp only[Nat.testBit_zero] at m1 m2;have l:a % 2<2:=OZ _ (by decide);have l2:b % 2<2:=OZ _ (by decide);have l3:(a ||| b) % 2<2:=OZ _ (by decide);have e3:(a ||| b)/2=a/2+b/2:=e2.trans e1;have e4:(a ||| b) % 2=a % 2+b % 2:=by
    rcases lQ a with p | p<;>rcases lQ b with q | q<;>rw[p,q] at m1 m2⊢ <;>revert m1 m2<;>rcases lQ (a ||| b) with r | r<;>rw[r]<;>decide
   lia
def ON(m:Nat):0<m->∃j q,m=2^j * (2 * q+1):=by
 induction m using Nat.strongRecOn with
 | ind m ih=>
   intro h;by_cases p:m % 2=1
   · exact⟨0,m/2,by rw[Nat.pow_zero];lia⟩
   · obtain⟨j,q,e⟩:=ih (m/2) (by lia) (by lia);refine⟨j+1,q,?_⟩;have:m=2 * (m/2):=by lia
     rw[this,e,kX,Nat.mul_comm (2^j) 2,og]
def G_(j q:Nat):(2^j * (2 * q+1))&&&(2^j * (2 * q+1) - 1)=2^(j+1) * q:=by
 have hp:0<2^j:=jV (by decide);have e1:2^j * (2 * q+1) - 1=2^j * (2 * q)+(2^j - 1):=by rw[NP];lia
 have e2:2^(j+1) * q=2^j * (2 * q):=by rw[kX,og]
 rw[e1,e2];refine gR fun i=> ?_;rw[gu,eG,Nat.testBit_two_pow_mul_add _ (by lia),eG];by_cases h:i<j
 · rw[aj (by lia)];simp
 · rw[aE h,ao (by lia:i≥j)];simp only[Bool.true_and];cases hk:i - j with
   | zero=>simp
   | succ k=>
     rw[Nat.testBit_succ,Nat.testBit_succ,show(2 * q+1)/2=q by lia,show 2 * q/2=q by lia,Bool.and_self]
def GZ(j q:Nat):2^j * (2 * q+1) - 2^(j+1) * q=2^j:=by
 rw[kX,NP,og];lia
def EG(j q:Nat):(2^j * (2 * q+1))&&&2^j=2^j:=by
 refine gR fun i=> ?_;rw[gu,eG,wC];by_cases h:j=i
 · subst h;simp
 · rw[aj h,lU]
def JI(j q:Nat):(2^j * (2 * q+1)) ||| 2^j=2^j * (2 * q+1):=by
 refine gR fun i=> ?_;rw[tL,eG,wC];by_cases h:j=i
 · subst h;simp
 · rw[aj h,wJ]
noncomputable def cQ(m:Nat):List Nat:=(List.range (m.log2+1)).filter m.testBit
def C7(m t:Nat)(h:m<2^t):(List.range t).filter m.testBit=cQ m:=by
 have key:∀n k,(∀i,n<=i->m.testBit i=false)->(List.range (n+k)).filter m.testBit=(List.range n).filter m.testBit:=fun n k hn=>by
  induction k with
  | zero=>rfl
  | succ k ih=>rw[<-wI,qJ,yR,ih];simp[hn (n+k) (by lia)]
 have z:∀t,m<2^t->∀i,t<=i->m.testBit i=false:=fun t h i hi=>qe (ax h (tM (by decide) hi));have l:m<2^(m.log2+1):=Nat.lt_log2_self;unfold cQ;rcases Aw t (m.log2+1) with c | c
 · obtain⟨k,e⟩:=iQ c;rw[e];exact(key t k (z t h)).symm
 · obtain⟨k,e⟩:=iQ c;rw[e];exact key _ k (z _ l)
def lD:i∈cQ m↔m.testBit i=true:=by
 unfold cQ;rw[FI,dj];refine⟨fun h=>h.2,fun h=>⟨?_,h⟩⟩;rcases eR i (m.log2+1) with c | c
 · exact c
 · rw[qe (ax Nat.lt_log2_self (tM (by decide) c))] at h;cases h
def C8(h:0<2^t * (m/2^t)):∃t',t<=t'/\m.testBit t'=true/\(∀i,t<=i->i<t'->m.testBit i=false)/\∃q,2^t * (m/2^t)=2^t' * (2 * q+1)/\2^(t'+1) * (m/2^(t'+1))=2^(t'+1) * q:=by
 have hp:0<2^t:=jV (by decide);have hm:0<m/2^t:=Nat.pos_of_ne_zero fun z=>by rw[z] at h;simp at h
 obtain⟨j,q,e⟩:=ON _ hm;have tb:∀i,m.testBit (t+i)=(m/2^t).testBit i:=fun i=>by rw[Nat.testBit_div_two_pow,Nat.add_comm]
 refine⟨t+j,by lia,?_,fun i h1 h2=> ?_,q,?_,?_⟩
 · rw[tb,e,eG];simp
 · obtain⟨k,rfl⟩:=iQ h1;rw[tb,e,eG,aj (by lia)];rfl
 · rw[e,Nat.pow_add,og]
 · congr 1
   rw[wI,Nat.pow_add,<-Mg,e,kX,<-Mg,Nat.mul_div_cancel_left _ (jV (by decide))]
   lia
def zD{m:Nat}(h1:t<=t')(h2:m.testBit t'=true)(h3:∀i,t<=i->i<t'->m.testBit i=false):(List.range (t'+1)).filter m.testBit=(List.range t).filter m.testBit++[t']:=by
 obtain⟨k,rfl⟩:=iQ h1;have key:∀k,(∀i,t<=i->i<t+k->m.testBit i=false)->(List.range (t+k)).filter m.testBit=(List.range t).filter m.testBit:=fun k hk=>by
  induction k with
  | zero=>rfl
  | succ k ih=>rw[<-wI,qJ,yR,ih fun i a b=>hk i a (by lia)];simp[hk (t+k) (by lia) (by lia)]
 rw[qJ,yR,key k h3];simp[h2]
noncomputable def anot(a b:Nat):Nat:=a - (a&&&b)
def FA(a b:Nat):a&&&b<=a:=FG
def B4(a b:Nat):Builtin.bitAnd (a:Int) (Builtin.bitNot (b:Int))=((anot a b:Nat):Int):=by
 have h1:decide (0<=(a:Int))=true:=ao (by lia);have h2:decide (0<=Builtin.bitNot (b:Int))=false:=aj (by rw[bn];lia);have n1:Builtin.bitNot (Builtin.bitNot (b:Int))=b:=by rw[bn,bn];lia
 unfold Builtin.bitAnd;rw[h1,h2];show(a:Int) - (((a:Int).toNat&&&(Builtin.bitNot (Builtin.bitNot (b:Int))).toNat:Nat):Int)=_;rw[n1];show(a:Int) - ((a&&&b:Nat):Int)=((a - (a&&&b):Nat):Int);have:=FA a b
 lia
def Fy(a b:Nat):anot a b=a^^^(a&&&b):=by
 have e:(a^^^(a&&&b))&&&(a&&&b)=0:=gR fun i=>by
  simp only[gu,FE,Nat.zero_testBit];cases a.testBit i<;>cases b.testBit i<;>rfl
 have o:(a^^^(a&&&b)) ||| (a&&&b)=a:=gR fun i=>by
  simp only[gu,tL,FE];cases a.testBit i<;>cases b.testBit i<;>rfl
 have s:(a^^^(a&&&b))+(a&&&b)=a:=by
  rw[<-Jt _ _ e];exact o
 unfold anot
 lia
def oa(a b i:Nat):(anot a b).testBit i=(a.testBit i&& !b.testBit i):=by
 rw[Fy,FE,gu];cases a.testBit i<;>cases b.testBit i<;>rfl
def Fw(a i j:Nat):(a ||| 2^i).testBit j=(a.testBit j || decide (i=j)):=by rw[tL,wC]
def G0{m:Nat}(e:m=2^j * (2 * q+1)):Builtin.bitAnd (m:Int) (-(m:Int))=((2^j:Nat):Int)/\Builtin.bitXor (m:Int) ((2^j:Nat):Int)=((2^(j+1) * q:Nat):Int):=by
 have hp:0<2^j:=jV (by decide);have mp:0<m:=by rw[e];exact Nat.mul_pos hp (by lia)
 have o1:=GZ j q;have a1:=G_ j q;rw[<-e] at o1 a1;constructor
 · have h1:decide (0<=(m:Int))=true:=ao (by lia);have h2:decide (0<= -(m:Int))=false:=aj (by lia);unfold Builtin.bitAnd;rw[h1,h2];show(m:Int) - (((m:Int).toNat&&&(Builtin.bitNot (-(m:Int))).toNat:Nat):Int)=_;rw[bn,show(-(-(m:Int)) - 1).toNat=m - 1 by lia,show(m:Int).toNat=m by lia,a1];have:2^(j+1) * q<=m:=by rw[<-a1];exact FG
   lia
 · unfold Builtin.bitXor;have x1:=EG j q;have x2:=JI j q;rw[<-e] at x1 x2;rw[Ic,Fz,x1,x2];have:2^j<=m:=by rw[<-x1];exact FG
   lia
def yk(j:Nat):Builtin.Int.intBits ((2^j:Nat):Int)=j+1:=by
 unfold Builtin.Int.intBits;have hp:0<2^j:=jV (by decide);have hz:¬ ((((2^j:Nat):Int)==0)=true):=fun z=>by
  have:=eq_of_beq z
  lia
 rw[aE hz];show(2^j).log2+1=j+1;rw[Nat.log2_two_pow]
section
variable {prog:Program}{w:World}{κ:Type}[DecidableEq κ]{knd:KeyKind prog w κ}{A:Around}{E:Value->Shared->Prop}{s:Shared}
theorem oz{d:Addr}{kvs:List (κ × Value)}{k:κ}{key dflt:Value}{Q:Value->Shared->Prop}(hkey:knd.is k key=true)(hm:s.heap.DictOf knd d kvs)(hthere:∀v,valueAt kvs k=some v->Q v {s with toks:=s.toks+1})(hnew:valueAt kvs k=none->∀h',h'.DictOf knd d (stored kvs k dflt)->Heap.SameBut d s.heap h'->Q dflt {s with heap:=h',toks:=s.toks+1})(hsz:kvs.length<=sizeLine):wpAny (model prog w) A (dictSetDefault d key dflt) Q E s:=by
 have hval:=hm.mapOf;obtain⟨o,es,ep,ho,hc,hd,hk,hp,hn⟩:=hm;have hf:∀x,findBy knd.is es x=valueAt kvs x:=fun x=>by
  rw[<-hp.find x];obtain⟨l⟩:=es;simp[findBy]
 have hes:es.size<=sizeLine:=by
  have e1:=hp.length;have e2:es.toList.length=es.size:=by simp
  lia
 unfold dictSetDefault
 try with_reducible refine dP ?_
 refine ae (knd.pyHash hkey ?_);refine ae (wpAny_dictFind_of (s:={s with toks:=s.toks+1}) hkey ho hd hk ?_);have hidx:(es.findIdx? fun e=>knd.is k e.key)=kvs.findIdx? fun kv=>decide (kv.1=k):=by
  rw[<-hp.findIdx k];obtain⟨l⟩:=es;simp
 cases hi:es.findIdx? fun e=>knd.is k e.key with
 | some i=>
   have hfk:valueAt kvs k=(es[i]?).map (·.val):=by rw[<-hf k,OQ,hi]
   refine ae (wpAny_dictEntries (s:={s with toks:=s.toks+1}) ho hd ?_);cases he:es[i]? with
   | none=>
     exfalso
     have:=Array.findIdx?_eq_some_iff_findIdx_eq.mp hi;have hlt:i<es.size:=this.1;rw[Array.getElem?_eq_getElem hlt] at he;exact nomatch he
   | some e=>
     rw[he] at hfk;exact ae (jw (aI (hthere e.val hfk)))
 | none=>
   have hfk:valueAt kvs k=none:=by rw[<-hf k,OQ,hi]
   have hnot:k∉kvs.map (·.1):=not_mem_of_findIdx_none (hidx ▸ hi);have hany:¬ (kvs.any fun kv=>decide (kv.1=k))=true:=by
    rw[List.any_eq_true];rintro⟨kv,hkv,he⟩;exact hnot (bS.mpr ⟨kv,hkv,bG he⟩)
   refine ae (jw (ae (wpAny_updateDictKeys (hz:=hes) (s:={s with toks:=s.toks+1}) ho hd (aI (hnew hfk _ ⟨_,_,ep+1,sZ _ ho (Obj.isFreed_of_dict (NO hd _)),hc.mapDictKeys _,NO hd _,hk.push hkey _,?_,?_⟩ (wF ..))))))
   · rw[stored,aE hany];have:=hp.append hkey (knd.hash k) dflt;obtain⟨l⟩:=es;simpa using this
   · rw[stored,aE hany,bj,mZ];refine⟨hn,by simp,?_⟩;intro a ha b hb;simp only[bQ,Mi,af] at hb;subst hb;exact fun e=>hnot (e ▸ ha)
theorem oU{d:Addr}{k:κ}{key:Value}(hkey:knd.is k key=true)(hd:(d==sysModules)=false)(dflt:Value):MeetsIn prog w (Builtin.«dict.setdefault» ⟨[.ref d,key,dflt],[]⟩) (fun _ R s=>∃kvs,s.heap.DictOf knd d kvs/\kvs.length<=sizeLine/\(∀v,valueAt kvs k=some v->R (.ok (.ret v)) {s with toks:=s.toks+1})/\(valueAt kvs k=none->∀h',h'.DictOf knd d (stored kvs k dflt)->Heap.SameBut d s.heap h'->R (.ok (.ret dflt)) {s with heap:=h',toks:=s.toks+1})):= .of_wp fun A R s ⟨kvs,hm,hz,h1,h2⟩=>by
  unfold Builtin.«dict.setdefault»;refine ae ?_;unfold Builtin.Dict.keyAndDefault;refine ae (wpAny_notOrdered_dict hm.typeIs ?_);show wpAny _ _ (pure (d,key,some dflt)) _ _ s;refine aI ?_;show wpAny _ _ (if(d==sysModules)=true then _ else(dictSetDefault d key dflt>>=_)) _ _ s;rw[aE (by rw[hd];exact bh)];exact ae (oz hkey hm (fun v hv=>aI ⟨v,rfl,h1 v hv⟩) (fun hn h' hm' hs'=>aI ⟨dflt,rfl,h2 hn h' hm' hs'⟩) hz)
end
section
def IS(td ty tx:TE):TE:=fun σ H Q=>td σ H fun x H1=>∃a,x= .ref a/\NX H1 a/\ty σ H1 fun y H2=>tx σ H2 fun z H3=>∃kvs k,H3 a=some (.dK kvs)/\y=kV k/\kvs.length<sizeLine/\(∀v,c_ kvs k=some v->Q v H3)/\(c_ kvs k=none->Q z (upd H3 a (.dK (bV kvs k z))))
def xM(ho:PE X o td)(he:PE X e ty)(hf:PE X f tx)(m:M2 X o "setdefault" apos e f cpos):PE X (.Call (.Attribute o "setdefault" apos) [e,f] [] cpos) (IS td ty tx):=by
 intro pins s σ H Q I h;refine O8 m.base m.few m.line KP FC PySem.F.type_dict_setdefault (dt (ho pins s σ H _ I h) fun u s1 ⟨x,H1,I1,rx,a,ex,d,q1⟩=> ?_);subst ex;obtain rfl:u=Value.ref a:=rx;obtain⟨t1,t2,_⟩:=EZ I1 d;refine⟨t1,t2,?_⟩;rw[m.trees];refine jd rfl (tQ (iM (dt (he pins s1 σ H1 _ I1 q1) fun iv s2 ⟨y,H2,I2,ry,q2⟩=>
  iM (dt (hf pins s2 σ H2 _ I2 q2) fun fv s3 ⟨z,H3,I3,rz,kvs,k,e3,ey,l3,qt,qn⟩=>Ay ?_))))
 subst ey;obtain⟨zz,hd,vs,rel,dd⟩:=BW I3.hok e3;have hz:vs.length<=sizeLine:=by rw[<-rel.length];exact zz
 refine L5 FC dd.typeIs PySem.F.entry_dict_setdefault (PySem.F.args_dict_setdefault_3 _ _ _) (oU (knd:=cW X.prog X.w) (nV ry) hd fv) ⟨vs,dd,hz,fun v hv=> ?_,fun hv h' dd' hs=> ?_⟩
 · have rv:=rel.val k;rw[hv] at rv;cases hk:c_ kvs k with
   | none=>rw[hk] at rv;cases rv
   | some v'=>
     rw[hk] at rv;exact⟨v',H3,I3.tok _,rv,qt v' hk⟩
 · have rv:=rel.val k;rw[hv] at rv;cases hk:c_ kvs k with
   | some v'=>rw[hk] at rv;cases rv
   | none=>
     have hl:(bV kvs k z).length<=sizeLine:=by have:=dO kvs k z;lia
     have hex:∃q,h'.get? a=some q:=let⟨q,_,_,hq,_⟩:=dd';⟨q,hq⟩
     exact⟨z,_,qH I3 (by rw[e3];exact True.intro) hs hex (Aq hl hd (rel.put k rz) dd'),rz,qn hk⟩
end
mutual
noncomputable def Tx.py:Tx->PyData
 | .non=> .none
 | .int i=> .int i
 | .str x=> .str x
 | .tup ds=> .tuple (B7 ds)
 | .lst ds=> .list (B7 ds)
noncomputable def B7:List Tx->List PyData
 | []=>[]
 | d::ds=>d.py::B7 ds
end
mutual
def Tx.tt:Tx->Prop
 | .str _=>True
 | .tup ds=>FX ds
 | _=>False
def FX:List Tx->Prop
 | []=>True
 | d::ds=>d.tt/\FX ds
end
mutual
theorem AC:∀(d:Tx),d.tt->d.py.showable=true/\d.py.hasDict=false
 | .str _,_=>⟨rfl,rfl⟩
 | .tup ds,h=>tS ds h
 | .non,h=>h.elim
 | .int _,h=>h.elim
 | .lst _,h=>h.elim
theorem tS:∀ds,FX ds->PyData.showableAll (B7 ds)=true/\PyData.hasDictAll (B7 ds)=false
 | [],_=>⟨rfl,rfl⟩
 | d::ds,h=>by
   obtain⟨a,b⟩:=AC d h.1;obtain⟨c,e⟩:=tS ds h.2;exact⟨by show(d.py.showable&&_)=true;rw[a,c];rfl,by show(d.py.hasDict || _)=false;rw[b,e];rfl⟩
end
section
mutual
theorem xy{σ:St}(I:Inv X pins σ H s):∀(d:Tx) {v:V} {u:Value},d.tt->Xa H d v->RelV v u->∃as,Reads s.heap u d.py as
 | .str x,v,u,_,h,r=>by
   obtain rfl:v= .str x:=h;obtain⟨t,rfl⟩:=r;exact⟨_,.str x t⟩
 | .tup ds,v,u,hd,h,r=>by
   obtain⟨p,xs,rfl,hp,hx⟩:=h;obtain rfl:u= .ref p:=r;obtain⟨its,rv,⟨o,ho,hc,n,hn⟩,_⟩:=I.tuple (SqT.of hp);obtain⟨as,ra⟩:=uy I ds hd hx rv;exact⟨_,.tuple ho hc hn ra⟩
 | .non,_,_,hd,_,_=>hd.elim
 | .int _,_,_,hd,_,_=>hd.elim
 | .lst _,_,_,hd,_,_=>hd.elim
theorem uy{σ:St}(I:Inv X pins σ H s):∀(ds:List Tx) {xs:List V} {us:List Value},FX ds->Xas H ds xs->Vals xs us->∃as,ReadsAll s.heap us (B7 ds) as
 | [],xs,us,_,h,r=>by
   obtain rfl:xs=[]:=h;cases r;exact⟨_,.nil⟩
 | d::ds,xs,us,hd,h,r=>by
   obtain⟨x,q,rfl,h1,h2⟩:=h;cases r with
   | cons r1 r2=>
     obtain⟨as,ra⟩:=xy I d hd.1 h1 r1;obtain⟨bs,rb⟩:=uy I ds hd.2 h2 r2;exact⟨_,.cons ra rb⟩
end
inductive qx(xs:List V)(H:Hp)(Q:VK):Prop
 | mk:∀v d,(xs=[v])->(Xa H d v)->(d.tt)->(d.py.depth<=60)->(d.py.shown.length<=sizeLine)->(Q (.str d.py.shown) H)->qx xs H Q
def Lo:List V->Hp->VK->Prop:=fun xs H Q=>qx xs H Q
def fP(hg:X.A.guards=some [])(hu:X.A.units+64<cLine):me X (.builtin "repr") Lo:=by
 rintro pins s σ H xs us Q I r ⟨v,d,rfl,hx,ht,hd,hl,q⟩;cases r with
 | cons r1 r2=>
   cases r2;obtain⟨as,ra⟩:=xy I d ht hx r1;obtain⟨s1,s2⟩:=AC d ht;cases d with
   | str x=>
     obtain rfl:v= .str x:=hx;obtain⟨t,rfl⟩:=r1;exact P.repr_of_str ⟨.str _,_,I.tok _,⟨_,rfl⟩,q⟩ hl
   | tup ds=>
     obtain⟨p,xs,rfl,hp,_⟩:=hx;obtain rfl:_=Value.ref p:=r1;exact repr_of_reads' ra s1 (fun h=>by rw[s2] at h;cases h) hg (by lia) (fun _ _ e=>e) (fun h' u tk k=>⟨.str _,_,I.kept k,⟨_,rfl⟩,q⟩) hl
   | non=>exact ht.elim
   | int _=>exact ht.elim
   | lst _=>exact ht.elim
end
structure FunD(K:Frag)(x qual:Str)(st:Stmt)(dV:Value)(f:Addr)(fd:FuncData):Prop where
 ex:∃(oc:Value) (od:Option Addr) (kV doc pm:Value) (an:Option Addr) (cdv ct:Value) (osl:Array (Option Value)),fd=fnOf x qual (fB st) (eN st) (aK st) dV kV doc pm an cdv ct/\K.lookup f=some ⟨oc,od,.func fd,osl⟩/\codeIn K cdv qual=true
 kp:keepIn K (.ref f)=true
section
def FunD.ok{K:Frag}{st:Stmt}(F:FunD K x qual st dV f fd)(S:bq N ps (aK st))(len:∀vs H Q E,sp vs H Q E->vs.length=ps.length)(hbody:∀cdv A outer s H vs Q E,Room k (A.deeper (envOfC qual (aK st) s.heap.objs.size f cdv))->sp vs H Q E->∃t,PSs (yC fj P w K mg base N qual (aK st) f cdv A outer s H E).nox (eN st) t/\t {nx:=fun _ H'=>Q .non H',rt:=Q} (lW N vs) H):b_ P w K mg base fj (k+1) f fd ps sp:=by
 obtain⟨oc,od,kV,doc,pm,an,cdv,ct,osl,rfl,lk,hcd⟩:=F.ex;refine IA lk hcd S len fun A outer s H vs Q E hr hsp=> ?_;obtain⟨t,h,q⟩:=hbody cdv A outer s H vs Q E hr hsp;exact⟨t,h.nox,q⟩
def FunD.binds{K:Frag}{st:Stmt}{items:List Value}(F:FunD K x qual st (.ref T) f fd)(lT:K.lookup T=some o)(hs:o.data= .seq items.toArray n)(h:∀kV doc pm an cdv ct us,us.length+ds.length=ps.length->∃k,bindArgs (fnOf x qual (fB st) (eN st) (aK st) (.ref T) kV doc pm an cdv ct) ⟨us,[]⟩=seqItems? (.ref T)>>=k/\k (some items.toArray)=pure (ps.zip (us++ds))):Binds K fd ps ds:=by
 obtain⟨oc,od,kV,doc,pm,an,cdv,ct,osl,rfl,lk,hcd⟩:=F.ex;intro s us KX hl;obtain⟨k,h1,h2⟩:=h kV doc pm an cdv ct us (by rw[<-ag];exact hl);exact BindsTo.of_defaults rfl (KX _ _ lT) hs h1 h2
def BU{K:Frag}{st:Stmt}{kV:Value}(l:K.lookup f=some ⟨oc,od,.func (fnOf x qual (fB st) (eN st) (aK st) dV kV doc pm an cdv ct),osl⟩)(c:codeIn K cdv qual=true)(k:keepIn K (.ref f)=true):FunD K x qual st dV f (fnOf x qual (fB st) (eN st) (aK st) dV kV doc pm an cdv ct):=⟨⟨oc,od,kV,doc,pm,an,cdv,ct,osl,rfl,l,c⟩,k⟩
end
section
end
structure Cl(P:Program)(w:World)(K:Frag)(mg:Str->Option Value)(base:Heap)(k:Nat)(x:Str)(ps:List Str)(sp:Sp):Prop where
 ex:∃f fd,b_ P w K mg base fj k f fd ps sp/\Binds K fd ps []/\keepIn K (.ref f)=true/\mg x=some (.ref f)
structure Ml(P:Program)(w:World)(K:Frag)(mg:Str->Option Value)(base:Heap)(C:Addr)(k:Nat)(x:Str)(ps:List Str)(sp:Sp):Prop where
 ex:∃f fd,b_ P w K mg base fj k f fd ps sp/\Binds K fd ps []/\Dc K C x f
structure Il(P:Program)(w:World)(K:Frag)(mg:Str->Option Value)(base:Heap)(C:Addr)(k:Nat)(x:Str)(ps:List Str)(sp:Sp):Prop where
 ex:∃f fd,b_ P w K mg base fj k f fd ps sp/\Binds K fd ps []/\Mk K C f/\mg x=some (.ref C)
structure Dl(P:Program)(w:World)(K:Frag)(mg:Str->Option Value)(base:Heap)(k:Nat)(x:Str)(ps:List Str)(ds:List Value)(sp:Sp):Prop where
 ex:∃f fd,b_ P w K mg base fj k f fd ps sp/\Binds K fd ps ds/\keepIn K (.ref f)=true/\mg x=some (.ref f)
structure Fq(K:Frag)(mg:Str->Option Value)(x:Str)(st:Stmt)(ps:List Str):Prop where
 ex:∃f fd,Fun K x x st f fd/\Binds K fd ps []/\mg x=some (.ref f)
structure Mq(K:Frag)(C:Addr)(x q:Str)(st:Stmt)(ps:List Str):Prop where
 ex:∃f fd,Fun K x q st f fd/\Binds K fd ps []/\Dc K C x f
structure Dq(K:Frag)(mg:Str->Option Value)(x:Str)(st:Stmt)(ps:List Str)(ds:List Value):Prop where
 ex:∃f fd T,FunD K x x st (.ref T) f fd/\Binds K fd ps ds/\mg x=some (.ref f)
section
def Fq.cl{K:Frag}{st:Stmt}(A:Fq K mg x st ps)(h:∀{f fd},Fun K x x st f fd->b_ P w K mg base fj k f fd ps sp):Cl P w K mg base k x ps sp:=by
 obtain⟨f,fd,F,b,m⟩:=A.ex;exact⟨f,fd,h F,b,F.kp,m⟩
def Mq.ml{K:Frag}{st:Stmt}(A:Mq K C x q st ps)(h:∀{f fd},Fun K x q st f fd->b_ P w K mg base fj k f fd ps sp):Ml P w K mg base C k x ps sp:=by
 obtain⟨f,fd,F,b,m⟩:=A.ex;exact⟨f,fd,h F,b,m⟩
def Mq.il{P:Program}{w:World}{K:Frag}{mg:Str->Option Value}{base:Heap}{C:Addr}{k:Nat}{x q y:Str}{st:Stmt}{ps:List Str}{sp:Sp}(A:Mq K C x q st ps)(mk:makesIn K C=true)(kc:keepIn K (.ref C)=true)(mc:mg y=some (.ref C))(h:∀{f fd},Fun K x q st f fd->b_ P w K mg base fj k f fd ps sp)(hx:x="__init__":=by rfl):Il P w K mg base C k y ps sp:=by
 subst hx;obtain⟨f,fd,F,b,m⟩:=A.ex;exact⟨f,fd,h F,b,⟨mk,m.at_,m.fn,kc⟩,mc⟩
def Dq.dl{K:Frag}{st:Stmt}(A:Dq K mg x st ps ds)(h:∀{f fd T},FunD K x x st (.ref T) f fd->b_ P w K mg base fj k f fd ps sp):Dl P w K mg base k x ps ds sp:=by
 obtain⟨f,fd,T,F,b,m⟩:=A.ex;exact⟨f,fd,h F,b,F.kp,m⟩
end
section
def eB{X:Cx}{j k:Nat}{x:Str}{ps:List Str}{sp:Sp}{e:Expr}{es:List Expr}{t:TA}{p pos:Pos}(c:Cl X.prog X.w X.K X.mg X.base k x ps sp)(hr:Room j X.A)(ha:PA X (e::es) t)(hj:k<=j:=by first | decide | lia)(hg:Gl X x:=by rfl)(hdb:(x==("__debug__":Str))=false:=by decide)(he:starEach (e::es) X.env=(false,eval e X.env)::starEach es X.env:=by rfl)(hpl:(backTo pos (starEach es X.env)).any (·.1)=false:=by rfl):PE X (.Call (.Name x p) (e::es) [] pos) (qS sp [] E0 t):=by
 obtain⟨f,fd,F,b,k,m⟩:=c.ex;exact BI F (hr.mono hj) hg m k b .nil uB ha hdb he hpl
def iw{X:Cx}{j k:Nat}{x:Str}{ps:List Str}{sp:Sp}{e o:Expr}{es:List Expr}{t:TA}{ta:TE}{pos apos:Pos}{C:Addr}{pl:Sem Bool}(ho:PE X o ta)(c:Cls X.K C)(m:Ml X.prog X.w X.K X.mg X.base C k x ps sp)(hr:Room j X.A)(ha:PA X (e::es) t)(hj:k<=j:=by first | decide | lia)(he:starEach (e::es) X.env=(false,eval e X.env)::starEach es X.env:=by rfl)(hpl:(backTo pos (starEach es X.env)).any (·.1)=false:=by rfl)(ht:eval (.Call (.Attribute o x apos) (e::es) [] pos) X.env=(do
 let ov<-eval o X.env
 standAt apos.atName
 let(f,first)<-holding [ov] (getMethod ov x pl)
 callWith pos f first (backTo pos (starEach (e::es) X.env)) (backToKw pos (keywordEach [] X.env))):=by rfl):
 PE X (.Call (.Attribute o x apos) (e::es) [] pos) (AE C x sp [] E0 ta t):=by
 obtain⟨f,fd,F,b,m⟩:=m.ex;exact GE ho c m F (hr.mono hj) b .nil uB ha he hpl ht
def OG{X:Cx}{j k:Nat}{x:Str}{ps:List Str}{sp:Sp}{e:Expr}{es:List Expr}{t:TA}{p pos:Pos}{C:Addr}(c:Il X.prog X.w X.K X.mg X.base C k x ps sp)(hr:Room j X.A)(ha:PA X (e::es) t)(hj:k+1<=j:=by first | decide | lia)(hg:Gl X x:=by rfl)(hdb:(x==("__debug__":Str))=false:=by decide)(he:starEach (e::es) X.env=(false,eval e X.env)::starEach es X.env:=by rfl)(hpl:(backTo pos (starEach es X.env)).any (·.1)=false:=by rfl):PE X (.Call (.Name x p) (e::es) [] pos) (AF C sp [] E0 t):=by
 obtain⟨f,fd,F,b,m,y⟩:=c.ex;exact GF m F (hr.mono hj) hg y b .nil uB ha hdb he hpl
def Nr{X:Cx}{j k:Nat}{x:Str}{ps:List Str}{sp:Sp}{p pos:Pos}{C:Addr}(c:Il X.prog X.w X.K X.mg X.base C k x ps sp)(hr:Room j X.A)(hj:k+1<=j:=by first | decide | lia)(hg:Gl X x:=by rfl)(hdb:(x==("__debug__":Str))=false:=by decide):PE X (.Call (.Name x p) [] [] pos) (AF C sp [] E0 gB):=by
 obtain⟨f,fd,F,b,m,y⟩:=c.ex;exact D5 m F (hr.mono hj) hg y b .nil uB hdb
def OI{X:Cx}{j k:Nat}{x:Str}{ps:List Str}{sp:Sp}{e:Expr}{es:List Expr}{t:TA}{p pos:Pos}{ds:List Value}{dvs:List V}(c:Dl X.prog X.w X.K X.mg X.base k x ps ds sp)(hd:Vals dvs ds)(hr:Room j X.A)(ha:PA X (e::es) t)(hj:k<=j:=by first | decide | lia)(hg:Gl X x:=by rfl)(hdb:(x==("__debug__":Str))=false:=by decide)(he:starEach (e::es) X.env=(false,eval e X.env)::starEach es X.env:=by rfl)(hpl:(backTo pos (starEach es X.env)).any (·.1)=false:=by rfl):PE X (.Call (.Name x p) (e::es) [] pos) (qS sp dvs E0 t):=by
 obtain⟨f,fd,F,b,k,m⟩:=c.ex;exact BI F (hr.mono hj) hg m k b hd uB ha hdb he hpl
def Nq{X:Cx}{j k:Nat}{x:Str}{ps:List Str}{sp:Sp}{o:Expr}{ta:TE}{pos apos:Pos}{C:Addr}{pl:Sem Bool}(ho:PE X o ta)(c:Cls X.K C)(m:Ml X.prog X.w X.K X.mg X.base C k x ps sp)(hr:Room j X.A)(hj:k<=j:=by first | decide | lia)(ht:eval (.Call (.Attribute o x apos) [] [] pos) X.env=(do
 let ov<-eval o X.env
 standAt apos.atName
 let(f,first)<-holding [ov] (getMethod ov x pl)
 callWith pos f first (backTo pos (starEach [] X.env)) (backToKw pos (keywordEach [] X.env))):=by rfl):
 PE X (.Call (.Attribute o x apos) [] [] pos) (AE C x sp [] E0 ta gB):=by
 obtain⟨f,fd,F,b,m⟩:=m.ex;exact D4 ho c m F (hr.mono hj) b .nil uB ht
def fe{X:Cx}{x:Str}{e:Expr}{te:TE}{pos:Pos}(i:Nat)(hN:X.N.Nodup){pos':Pos}(he:PE X e te)(hi:X.N[i]? =some x:=by rfl)(hx:Kw X.env.scope x:=by first | exact .inl rfl | exact .inr rfl)(hs:swapsWith e (some (.Name x pos')) pos.line X.env=pure false:=by rfl)(hf:X.fn x=true\/X.env.scope.names.lookup x=some .local:=by first | exact .inl rfl | exact .inr rfl | assumption):PS X (.Assign [.Name x pos'] e pos) (F6 te (iA i)):=DX hN hi hx he hs hf
def fq{X:Cx}{x:Str}{pos:Pos}(i:Nat)(hN:X.N.Nodup)(hi:X.N[i]? =some x:=by rfl)(hx:Kw X.env.scope x:=by first | exact .inl rfl | exact .inr rfl)(hf:X.fn x=true\/X.env.scope.names.lookup x=some .local:=by first | exact .inl rfl | exact .inr rfl | assumption):PG X (.Name x pos) (iA i):=qA hN hi hx hf
def lZ{X:Cx}{pos:Pos}{tg iter:Expr}{body:List Stmt}{wi:TI}{g:TG}{tb:TS}(hi:PI X tg iter wi)(hg:PG X tg g)(hb:PSs X body tb)(hp:PassesOwn (model X.prog X.w) X.A X.env X.xe:=by exact qI)(hc:X.calm=true:=by rfl)(hs:∀x,foldedSetIterable iter X.env x=pure x:=by intro _;rfl):PS X (.For tg iter body [] pos) (IR wi g tb):=Ji hp hc hi hg hb hs
def j7{X:Cx}{a b:Expr}{ta tb:TE}{pos:Pos}{r:R2}(hr:Mn X r)(ha:PE X a ta)(hb:PE X b tb)(hs:B6 b:=by exact fun _ _=>rfl):PE X (.Subscript a b pos) (Dt r ta tb):=ji hr ha hb hs
def di(ha:PE X a ta):PE X (.Subscript a (.Constant (.int z) q p) pos) (Dt (Jg X.K) ta (tC (.int z))):=ji iV ha aA fun _ _=>rfl
def wH(ha:PE X a ta):PE X (.Subscript a (.Constant (.int z) q p) pos) (Dt (zF X.K) ta (tC (.int z))):=ji bY ha aA fun _ _=>rfl
def dC{X:Cx}{a b:Expr}{ta tb:TE}{pos:Pos}{op:CmpOp}{r:R2}(ho:j4 X (compareOp op) r)(ha:PE X a ta)(hb:PE X b tb)(hm:behindInMarks op b=false:=by first | exact rT _ | rfl):PT X (.Compare a [op] [b] pos) (HP (Dt r ta tb)):=qy ho ha hb hm
def oO{X:Cx}{a b:Expr}{ta tb:TE}{pos:Pos}{op:CmpOp}{r:R2}(ho:j4 X (compareOp op) r)(ha:PE X a ta)(hb:PE X b tb)(hm:behindInMarks op b=false:=by first | exact rT _ | rfl):PE X (.Compare a [op] [b] pos) (Dt r ta tb):=GH ho ha hb hm
def eF{X:Cx}{a:Expr}{ta:TE}(ha:PE X a ta)(h:fm a=true:=by rfl):PA X [a] (dU ta gB):=bZ ha cu h
def fb{X:Cx}{a b:Expr}{ta tb:TE}(ha:PE X a ta)(hb:PE X b tb)(h:fm a=true:=by rfl)(h2:fm b=true:=by rfl):PA X [a,b] (dU ta (dU tb gB)):=bZ ha (eF hb h2) h
def gD{X:Cx}{a b c:Expr}{ta tb tc:TE}(ha:PE X a ta)(hb:PE X b tb)(hc:PE X c tc)(h:fm a=true:=by rfl)(h2:fm b=true:=by rfl)(h3:fm c=true:=by rfl):PA X [a,b,c] (dU ta (dU tb (dU tc gB))):=bZ ha (fb hb hc h2 h3) h
def jk{X:Cx}{a b c d:Expr}{ta tb tc td:TE}(ha:PE X a ta)(hb:PE X b tb)(hc:PE X c tc)(hd:PE X d td)(h:fm a=true:=by rfl)(h2:fm b=true:=by rfl)(h3:fm c=true:=by rfl)(h4:fm d=true:=by rfl):PA X [a,b,c,d] (dU ta (dU tb (dU tc (dU td gB)))):=bZ ha (gD hb hc hd h2 h3 h4) h
def xO{X:Cx}{a o:Expr}{ta tb:TE}{pos apos:Pos}(ho:PE X o ta)(ha:PE X a tb)(hs:fm a=true:=by rfl)(hbase:attributeBase o "append" X.env (eval o X.env)=eval o X.env:=by rfl)(hfew:((backTo pos (starEach [a] X.env)).all (fun x=> !x.1)&&(backToKw pos (keywordEach [] X.env)).all (fun x=>x.1.isSome)&&decide ([a].length+([]:List Keyword).length+(if([]:List Keyword).isEmpty then 0 else 1)<30))=true:=by rfl) (hline:(apos.endLine==pos.line)=true:=by rfl):PE X (.Call (.Attribute o "append" apos) [a] [] pos) (N2 X.K "list" Bn ta (dU tb gB)):=Lv KO PySem.F.slot_list_append PySem.F.type_list_append uE ho (eF ha hs) hbase hfew hline (qp hs) rfl
def oj{X:Cx}{a:Expr}{ta:TE}{p pos:Pos}(m:X.mg "len"=none)(ha:PE X a ta)(hs:fm a=true:=by rfl)(hg:Gl X "len":=by rfl):PE X (.Call (.Name "len" p) [a] [] pos) (Mx (fun xs H Q=>∃p ys,xs=[V.ref p]/\(SqL X.K H p ys\/SqT X.K H p ys)/\Q (V.int ↑ys.length) H) (dU ta gB)):=dB jU hg m tK (eF ha hs) (by decide) (by decide) (qp hs) rfl
def xK{X:Cx}{x:Str}{a:Expr}{ta:TE}{p pos:Pos}{n:String}(m:X.mg "isinstance"=none)(m2:X.mg x=none)(hb:bootBuiltins x=some (.type n))(ha:PE X a ta)(hs:fm a=true:=by rfl)(hg:Gl X "isinstance":=by rfl)(hg2:Gl X x:=by rfl)(hn:x≠"__name__":=by decide)(hd:(x==("__debug__":Str))=false:=by decide){q:Pos}:PE X (.Call (.Name "isinstance" p) [a,.Name x q] [] pos) (Mx (fun xs H Q=>∃x n t b,xs=[x,V.ty n]/\TyOf X.K H x t/\kitOne X.K t (Value.type n)=some b/\Q (V.bl b) H) (dU ta (dU (tC (.ty n)) gB))):=dB kR hg m j3 (fb ha (vL hg2 m2 hb rfl hn hd) hs) (by decide) (by decide) (qp hs) rfl
def rR{X:Cx}{e o:Expr}{td:TE}{pos apos:Pos}{f:Expr}{ty tx:TE}(hu:X.A.units+1<cLine)(ho:PE X o td)(he:PE X e ty)(hf:PE X f tx)(m:M2 X o "get" apos e f pos:=by exact⟨rfl,rfl,rfl,rfl⟩):PE X (.Call (.Attribute o "get" apos) [e,f] [] pos) (uZ td ty tx):=D7 hu ho he hf m
def Df{X:Cx}{o:Expr}{td:TE}{pos:Pos}{i:Expr}{ty:TE}(hu:X.A.units+1<cLine)(ho:PE X o td)(hi:PE X i ty)(hs:HF i:=by exact fun _ _=>rfl):PE X (.Subscript o i pos) (wR td ty):=GG hu ho hi hs
def du{X:Cx}{e:Expr}{ta:TE}{pos:Pos}{f:Str}(he:PE X e ta)(hb:attributeBase e f X.env (eval e X.env)=eval e X.env:=by rfl):PE X (.Attribute e f pos) (yX X.K ta f):=Jl he hb
end
end L2
namespace K18
open PySem L2
abbrev vH:List Str:=["_law_bag","_law_kin","_law_ties","_law_deep"]
abbrev Gz:List Str:=["_law_bag","_law_kin","_law_ties","_law_long"]
abbrev Gy:List Str:=["_law_bag","_law_kin","_law_ties","_law_things_here"]
abbrev Ls:List Str:=["_law_bag","_law_kin","_law_ties"]
abbrev vG:List Str:=["_law_bag","_law_many"]
abbrev vF:List Str:=["_law_cell_here","_law_many"]
abbrev Gx:List Str:=["_law_cells","_law_bag","_law_kin","_law_ties","_law_things_here"]
abbrev DW:List Str:=["_law_claim"]
abbrev Gv:List Str:=["_law_found","_law_pairs","_law_starts","_law_further"]
abbrev Gu:List Str:=["_law_found","_law_roots"]
abbrev nM:List Str:=["_law_found"]
abbrev rN:List Str:=["_law_k"]
abbrev nL:List Str:=["_law_kind_here","_law_known_here"]
abbrev BD:List Str:=["_law_pairs","_law_further"]
abbrev BC:List Str:=["_law_pairs"]
abbrev BB:List Str:=["_law_rule","_law_claim","_law_one","_law_saying_here"]
abbrev BA:List Str:=["_law_rule","_law_claim","_law_one","_law_two","_law_saying_here"]
abbrev Bz:List Str:=["_law_rule","_law_claim","_law_saying_here","_law_singles_here"]
abbrev xG:List Str:=["_law_script","_law_k"]
abbrev xF:List Str:=["_law_script"]
abbrev By:List Str:=["_law_steps","_law_at","_law_pairs","_law_singles_here"]
abbrev jh:List Str:=["_law_x"]
abbrev xD:List Str:=["at","other","is_first"]
abbrev Bx:List Str:=["kind","kind"]
abbrev pQ:List Str:=["kind","kinds","ties"]
abbrev iu:List Str:=["kind"]
abbrev Bw:List Str:=["pairs","further"]
abbrev Bv:List Str:=["pairs","starts","further","steps"]
abbrev pP:List Str:=["self","at","x","kind"]
abbrev pO:List Str:=["self","at","x","tie","y"]
abbrev Bu:List Str:=["self","at","y","kind"]
abbrev nK:List Str:=["self","kind"]
abbrev xC:List Str:=["self","lore"]
abbrev Bs:List Str:=["self","number","saying"]
abbrev Br:List Str:=["self","pairs","starts"]
abbrev Bq:List Str:=["self","steps"]
abbrev nJ:List Str:=["self","x","kind","rule","froms","number"]
abbrev Bp:List Str:=["self","x","kind","step"]
abbrev rM:List Str:=["self","x","tie","y","rule","froms","number"]
abbrev Bo:List Str:=["self","x","tie","y","step"]
abbrev fH:List Str:=["self","x"]
abbrev nI:List Str:=["self"]
abbrev qql42:List Str:=["sign"]
abbrev rL:List Str:=["table","key","entry"]
abbrev lY:List Str:=["text"]
noncomputable def top(i:Nat):Stmt:=PySem.Challenge.pw_kinwords_k18_standstills_stand.main.body.getD i (.Pass ⟨0,0,0,0⟩)
noncomputable abbrev zt:Stmt:=top 3
noncomputable abbrev xv:Stmt:=top 4
noncomputable abbrev vr:Stmt:=top 5
noncomputable abbrev zl:Stmt:=top 8
noncomputable abbrev Je:Stmt:=top 9
noncomputable abbrev zh:Stmt:=top 10
noncomputable abbrev Bj:Stmt:=top 11
noncomputable abbrev Nd:Stmt:=top 13
noncomputable abbrev zp:Stmt:=d5 (top 14) 0
noncomputable abbrev jK:Stmt:=d5 (top 14) 1
noncomputable abbrev k_:Stmt:=d5 (top 14) 2
noncomputable abbrev vB:Stmt:=d5 (top 14) 3
noncomputable abbrev vA:Stmt:=d5 (top 14) 4
noncomputable abbrev vw:Stmt:=top 15
noncomputable abbrev vm:Stmt:=top 17
noncomputable abbrev rE:Stmt:=top 18
noncomputable abbrev vC:Stmt:=top 20
noncomputable abbrev rK:Stmt:=top 21
noncomputable abbrev zm:Stmt:=d5 (top 22) 0
noncomputable abbrev rH:Stmt:=d5 (top 22) 1
noncomputable abbrev oB:Stmt:=d5 (top 22) 2
noncomputable abbrev rG:Stmt:=d5 (top 22) 3
noncomputable abbrev oA:Stmt:=d5 (top 22) 4
noncomputable abbrev mB:Stmt:=d5 (top 22) 5
noncomputable abbrev my:Stmt:=d5 (top 22) 6
noncomputable abbrev vq:Stmt:=d5 (top 22) 7
noncomputable abbrev zo:Stmt:=d5 (top 22) 8
noncomputable abbrev mC:Stmt:=d5 (top 22) 9
noncomputable abbrev km:Stmt:=d5 (top 22) 10
noncomputable abbrev oF:Stmt:=d5 (top 22) 11
noncomputable abbrev oC:Stmt:=d5 (top 22) 12
noncomputable abbrev jJ:Stmt:=d5 (top 22) 13
noncomputable abbrev zi:Stmt:=top 23
noncomputable abbrev DT:Stmt:=top 25
noncomputable abbrev DS:Stmt:=top 26
noncomputable abbrev zf:Stmt:=top 27
noncomputable abbrev vj:Stmt:=top 28
noncomputable abbrev Bk:Stmt:=top 29
noncomputable abbrev vp:Stmt:=top 30
noncomputable abbrev oG:Stmt:=top 31
noncomputable abbrev vn:Stmt:=top 32
noncomputable abbrev rF:Stmt:=top 33
noncomputable abbrev zu:Stmt:=top 34
noncomputable abbrev DR:Stmt:=top 35
noncomputable abbrev DQ:Stmt:=top 36
noncomputable abbrev DP:Stmt:=top 37
noncomputable abbrev zg:Stmt:=top 38
noncomputable abbrev qv:Stmt:=top 39
noncomputable abbrev zw:Stmt:=top 40
noncomputable abbrev Jd:Stmt:=top 41
noncomputable abbrev zy:Stmt:=top 42
noncomputable abbrev qw:Stmt:=top 43
noncomputable abbrev zr:Stmt:=top 44
noncomputable abbrev rJ:Stmt:=top 45
noncomputable abbrev zj:Stmt:=top 46
noncomputable abbrev Jb:Stmt:=top 47
def bw(h:n<=1000):n<=sizeLine:=fw (bL h)
def eI(h:Same H H')(hp:H p=none):Same H (upd H' p o):=fun b u q=>by
 rw[aD (ba q hp)];exact h b u q
def ck(h:Same H H')(hp:H' p=none):H p=none:=by
 cases c:H p with
 | none=>rfl
 | some oo=>rw[h _ _ c] at hp;cases hp
structure Kp(L:List Addr)(H H':Hp):Prop where
 but:∀c o,c∉L->H c=some o->H' c=some o
 tups:Tups H H'
def Kp.trans(a:Kp L H H1)(b:Kp L H1 H2):Kp L H H2:=⟨fun c o h e=>b.but c o h (a.but c o h e),a.tups.trans b.tups⟩
def Kp.of(s:Same H H1):Kp L H H1:=⟨fun c o _ e=>s c o e,s.tups⟩
def Kp.lst{L:List Addr}{H:Hp}{l:Addr}{xs:List V}{o:HO}(hl:l∈L)(e:H l=some (.lst xs)):Kp L H (upd H l o):=⟨fun c u hc h=>by rw[aD (show c≠l from fun z=>hc (by rw[z];exact hl))];exact h,wO e⟩
def Kp.mono(a:Kp L H H1)(h:∀x∈L,x∈L'):Kp L' H H1:=⟨fun c o hc e=>a.but c o (fun z=>hc (h c z)) e,a.tups⟩
inductive Fa where
 | is (x k:Kd)
 | has (x:Kd) (t:Str) (y:Kd)
 deriving DecidableEq
noncomputable def Fa.x:Fa->Kd
 | .is x _=>x
 | .has x _ _=>x
noncomputable def Fa.tx:Fa->Tx
 | .is x k=> .tup [.str "is",x.tx,k.tx]
 | .has x t y=> .tup [.str "has",x.tx,.str t,y.tx]
def IsF(H:Hp):Fa->V->Prop
 | .is x k,v=>∃(p:Addr) (a b:V),v= .ref p/\H p=some (.tup [.str "is",a,b])/\IsK H x a/\IsK H k b
 | .has x t y,v=>∃(p:Addr) (a b:V),v= .ref p/\H p=some (.tup [.str "has",a,.str t,b])/\IsK H x a/\IsK H y b
theorem IsF.mono(t:Tups H H'):∀{f:Fa} {v:V},IsF H f v->IsF H' f v
 | .is _ _,_,⟨p,a,b,e,h,ha,hb⟩=>⟨p,a,b,e,t _ _ h,ha.mono t,hb.mono t⟩
 | .has _ _ _,_,⟨p,a,b,e,h,ha,hb⟩=>⟨p,a,b,e,t _ _ h,ha.mono t,hb.mono t⟩
theorem IsF.xa:∀{f:Fa} {v:V},IsF H f v->Xa H f.tx v
 | .is _ _,_,⟨p,a,b,e,h,ha,hb⟩=>⟨p,_,e,h,_,_,rfl,rfl,_,_,rfl,ha.xa,_,_,rfl,hb.xa,rfl⟩
 | .has _ _ _,_,⟨p,a,b,e,h,ha,hb⟩=>⟨p,_,e,h,_,_,rfl,rfl,_,_,rfl,ha.xa,_,_,rfl,rfl,_,_,rfl,hb.xa,rfl⟩
def Fa.lo(n:Nat):Fa->Prop
 | .is x k=>x.dep<=n/\k.dep<=n
 | .has x _ y=>x.dep<=n/\y.dep<=n
theorem Fa.dp:∀{f:Fa},f.lo n->f.tx.dp<=n+1
 | .is x k,h=>by
   have h1:x.dep<=n/\k.dep<=n:=h;show 1+max 0 (max x.tx.dp (max k.tx.dp 0))<=n+1;rw[Kd.tx_dp,Kd.tx_dp];lia
 | .has x t y,h=>by
   have h1:x.dep<=n/\y.dep<=n:=h;show 1+max 0 (max x.tx.dp (max 0 (max y.tx.dp 0)))<=n+1;rw[Kd.tx_dp,Kd.tx_dp];lia
def Fa.dp60{f:Fa}(h:f.lo 25):f.tx.dp<=60:=aq (Fa.dp h) (by decide)
inductive Ru where
 | self | all | thing | tied | every | first | second | some | within | no | both | tie | none | makes | oth
 deriving DecidableEq
noncomputable def oH:Ru->Str
 | .self=>"self" | .all=>"all" | .thing=>"thing" | .tied=>"tied" | .every=>"every" | .first=>"first" | .second=>"second" | .some=>"some"
 | .within=>"within" | .no=>"no" | .both=>"both" | .tie=>"tie" | .none=>"none" | .makes=>"makes" | .oth=>""
inductive Sy where
 | every (a b:Kd) | no (a b:Kd) | thing (x:Str) (k:Kd) | tied (x t y:Str) | within (r s:Str) | makes (r s t:Str)
 deriving DecidableEq
noncomputable def Sy.hd:Sy->Ru
 | .every _ _=> .every | .no _ _=> .no | .thing _ _=> .thing | .tied _ _ _=> .tied | .within _ _=> .within | .makes _ _ _=> .makes
noncomputable def Sy.parts:Sy->List Kd
 | .every a b=>[a,b] | .no a b=>[a,b] | .thing x k=>[.nm x,k] | .tied x t y=>[.nm x,.nm t,.nm y] | .within r s=>[.nm r,.nm s] | .makes r s t=>[.nm r,.nm s,.nm t]
def IsSy(H:Hp)(s:Sy)(v:V):Prop:=∃p xs,v= .ref p/\H p=some (.tup (.str (oH s.hd)::xs))/\KL H xs s.parts
def IsSy.mono{H H':Hp}(t:Tups H H'){s:Sy}{v:V}(h:IsSy H s v):IsSy H' s v:=by
 obtain⟨p,xs,e,h1,h2⟩:=h;exact⟨p,xs,e,t _ _ h1,KL.mono t h2⟩
noncomputable def Sy.tx(s:Sy):Tx:= .tup (.str (oH s.hd)::s.parts.map Kd.tx)
theorem KL.xas:∀{xs:List V} {ks:List Kd},KL H xs ks->Xas H (ks.map Kd.tx) xs
 | _,_,.nil=>rfl
 | _,_,.cons r t=>⟨_,_,rfl,r.xa,KL.xas t⟩
def IsSy.xa(h:IsSy H s v):Xa H s.tx v:=by
 obtain⟨p,xs,e,h1,h2⟩:=h;exact⟨p,_,e,h1,_,_,rfl,rfl,KL.xas h2⟩
def Sy.lo(n:Nat)(s:Sy):Prop:=∀k∈s.parts,k.dep<=n
def Sy.dp60{s:Sy}(h:s.lo 25):s.tx.dp<=60:=by
 have:j9 (Tx.str (oH s.hd)::s.parts.map Kd.tx)<=25:=qi fun d hd=>by
  rcases aL.mp hd with rfl | hd
  · exact ay _
  · obtain⟨k,hk,rfl⟩:=bS.mp hd;rw[Kd.tx_dp];exact h k hk
 show 1+_<=60
 lia
def FJ(H:Hp):Option Sy->V->Prop
 | none,v=>v= .non
 | some s,v=>IsSy H s v
structure p_ where
 f:Fa
 r:Str
 fr:List Int
 n:Option Int
noncomputable def mJ:Option Int->V
 | none=> .non
 | some i=> .int i
def IsStp(L:List Addr)(H:Hp)(s:p_)(v:V):Prop:=∃p pf vf,v= .ref p/\H p=some (.tup [vf,.str s.r,.ref pf,mJ s.n])/\IsF H s.f vf/\H pf=some (.lst (s.fr.map V.int))/\pf∉L
def IsStp.keep{L:List Addr}{H H':Hp}(k:Kp L H H'){s:p_}{v:V}(h:IsStp L H s v):IsStp L H' s v:=by
 obtain⟨p,pf,vf,e,h1,h2,h3,h4⟩:=h;exact⟨p,pf,vf,e,k.tups _ _ h1,h2.mono k.tups,k.but _ _ h4 h3,h4⟩
def StL(L:List Addr)(H:Hp):List V->List p_->Prop:=Paired fun v s=>IsStp L H s v
def StL.keep{L:List Addr}{H H':Hp}(k:Kp L H H'){xs:List V}{ss:List p_}(h:StL L H xs ss):StL L H' xs ss:=Paired.imp' (fun _ _ q=>IsStp.keep k q) h
theorem mG:∀{xs ys:List α} {ks ls:List β},Paired R xs ks->Paired R ys ls->Paired R (xs++ys) (ks++ls)
 | _,_,_,_,.nil,s=>s
 | _,_,_,_,.cons r t,s=> .cons r (mG t s)
theorem cG:∀{xs:List α} {ks:List β} {i:Nat} {v:α},Paired R xs ks->xs[i]? =some v->∃k,ks[i]? =some k/\R v k
 | _,_,_,_,.nil,e=>by simp at e
 | _,_,0,_,.cons r _,e=>by simp at e;subst e;exact⟨_,rfl,r⟩
 | _,_,i+1,v,.cons _ t,e=>by
   obtain⟨u,h1,h2⟩:=cG (i:=i) (v:=v) t (by simpa using e);exact⟨u,by simpa using h1,h2⟩
theorem jj:∀{xs:List α} {ks:List β} {i:Nat} {k:β},Paired R xs ks->ks[i]? =some k->∃v,xs[i]? =some v/\R v k
 | _,_,_,_,.nil,e=>by simp at e
 | _,_,0,_,.cons r _,e=>by simp at e;subst e;exact⟨_,rfl,r⟩
 | _,_,i+1,v,.cons _ t,e=>by
   obtain⟨u,h1,h2⟩:=jj (i:=i) (k:=v) t (by simpa using e);exact⟨u,by simpa using h1,h2⟩
def IsPr(H:Hp)(q:Int × Sy)(v:V):Prop:=∃p vs,v= .ref p/\H p=some (.tup [.int q.1,vs])/\IsSy H q.2 vs
def IsPr.mono{H H':Hp}(t:Tups H H'){q:Int × Sy}{v:V}(h:IsPr H q v):IsPr H' q v:=by
 obtain⟨p,vs,e,h1,h2⟩:=h;exact⟨p,vs,e,t _ _ h1,h2.mono t⟩
def PrL(H:Hp):List V->List (Int × Sy)->Prop:=Paired fun v q=>IsPr H q v
def PrL.mono{H H':Hp}(t:Tups H H'){xs:List V}{qs:List (Int × Sy)}(h:PrL H xs qs):PrL H' xs qs:=Paired.imp' (fun _ _ q=>IsPr.mono t q) h
noncomputable def GB(q:Int × Sy):Tx:= .tup [.int q.1,q.2.tx]
def IsPr.xa(h:IsPr H q v):Xa H (GB q) v:=by
 obtain⟨p,vs,e,h1,h2⟩:=h;exact⟨p,_,e,h1,_,_,rfl,rfl,_,_,rfl,h2.xa,rfl⟩
theorem PrL.xas:∀{xs:List V} {qs:List (Int × Sy)},PrL H xs qs->Xas H (qs.map GB) xs
 | _,_,.nil=>rfl
 | _,_,.cons r t=>⟨_,_,rfl,r.xa,PrL.xas t⟩
def FL(H:Hp):List V->List Fa->Prop:=Paired fun v f=>IsF H f v
def FL.mono{H H':Hp}(t:Tups H H'){xs:List V}{fs:List Fa}(h:FL H xs fs):FL H' xs fs:=Paired.imp' (fun _ _ q=>IsF.mono t q) h
def oE{Q:Bool->Hp->Prop}(s:Ci a b=true)(c:decide (a=b)=k)(q:Q k H):N5 a b H fun x H1=>onB x fun c=>Q c H1:=by
 show onT (Ci a b) _;rw[s];show Q (decide (a=b)) H;rw[c];exact q
def cI(h:H p=some (.tup xs))(e:tJ xs i=some v)(q:Q v H):zE K H Q p i:=⟨xs,v,SqT.of h,e,q⟩
noncomputable def Kd.tieL:Kd->List Str
 | .nm _=>[]
 | .two a b=>Kd.tieL a++Kd.tieL b
 | .som r c=>r::Kd.tieL c
def d6(K:Frag):kitOne K (.type "str") (.type "str")=some true:=rfl
def dm(K:Frag):kitOne K (.type "tuple") (.type "str")=some false:=by
 first | rfl | decide | with_unfolding_all rfl
inductive uo(vs:List V)(H:Hp)(Q:VK):Prop
 | mk:∀v k,(vs=[v])->(IsK H k v)->(∀p xs,H p=none->KL H xs k.inner->Q (.ref p) (upd H p (.lst xs)))->uo vs H Q
def qr:Sp:=fun vs H Q _=>uo vs H Q
section
def Gj:bq iu iu (aK zt):=gU
def a_:=fun {a b c d e}=> @fI a b c d e
def bb:=fun {a b c}=> @f_ a b c
def En(F:Fun K "inner_kinds" "inner_kinds" zt f fd)(mi:mg "isinstance"=none)(ms:mg "str"=none):b_ P w K mg base fj 1 f fd iu qr:=by
 refine F.o Gj fun cdv A outer s H vs Q E hr h=> ?_;obtain⟨v,k,rfl,hk,q⟩:=h;refine⟨_,a_ (by exact bu (eX (dB kR rfl mi j3 (eL aB (eL (vL (v:= .ty "str") rfl ms cm rfl) cu)))) (f_ (gY (bR cu))) aX) (a_ (by exact bu (qy bN (ji iV aB aA (fun _ _=>rfl)) aJ (rT _)) (f_ (gY (bR (eL (ji iV aB aA (fun _ _=>rfl)) (eL (ji iV aB aA (fun _ _=>rfl)) cu))))) aX) (bb (by exact gY (bR (eL (ji iV aB aA (fun _ _=>rfl)) cu))))),?_⟩;cases k with
 | nm x=>
   obtain rfl:v= .str x:=hk;exact⟨_,_,_,true,rfl,TyOf.str x,d6 K,⟨ay _,fun p hp=>q p [] hp .nil⟩⟩
 | two a b=>
   obtain⟨p,x,y,rfl,hp,ha,hb⟩:=id hk;refine⟨_,_,_,false,rfl,TyOf.tup hp,dm K,?_⟩;refine⟨_,_,SqT.of hp,aR (j:=0) rfl,?_⟩;refine⟨_,_,SqT.of hp,aR (j:=1) rfl,_,_,SqT.of hp,aR (j:=2) rfl,bw (by show 2<=1000;decide),fun r hr'=> ?_⟩;exact q r [x,y] hr' (.cons ha (.cons hb .nil))
 | som r c=>
   obtain⟨p,y,rfl,hp,hc⟩:=id hk;refine⟨_,_,_,false,rfl,TyOf.tup hp,dm K,?_⟩;refine⟨_,_,SqT.of hp,aR (j:=0) rfl,?_⟩;refine⟨_,_,SqT.of hp,aR (j:=2) rfl,bw (by show 1<=1000;decide),fun t ht=> ?_⟩;exact q t [y] ht (.cons hc .nil)
end
end K18
namespace L2
open PySem PySem.Spec PyProof.Rows
def fL(hc:X.calm=true):me X (.type "list") (fun xs H Q=>∃(a:Addr) (kvs:List (Key × V)) (ss:List Str),xs=[.ref a]/\H a=some (.dK kvs)/\kvs.map (·.1)=ss.map Sum.inr/\∀p,H p=none->Q (.ref p) (upd H p (.lst (ss.map V.str)))):=by
 intro pins s σ H xs us Q I r h;obtain⟨a,kvs,ss,rfl,ha,hk,q⟩:=h;obtain⟨u,rfl,ru⟩:=r.one;cases ru;obtain⟨z,hd,vs,rel,o,es,ep,ho,hx,hdat,hks,hps,hnd⟩:=BW I.hok ha;have da:s.heap.DictAt (cW X.prog X.w) a vs ep:=⟨o,es,ho,hx,hdat,hks,hps,hnd⟩;have hlen:=rel.length;refine PySem.W.kdl_call (PySem.W.kdl_dict (knd:=cW X.prog X.w) (kvs:=vs) (ep:=ep) hd) (I.ok.hd hc) da (by lia) fun h' tk acc c' hk' hl hit=> ?_;have hacc:acc.toList.length=vs.length:=by rw[j8];exact hit.1
 have hv:Vals (ss.map V.str) acc.toList:=tU (P:=X.prog) (w:=X.w) rel hk hacc fun j v hj=>hit.2 j v (by simpa using hj);have hsl:(ss.map V.str).length<=sizeLine:=by rw[hv.length,hacc];lia
 exact⟨.ref s.heap.objs.size,_,I.laid (t':=tk) hk' (au _) (show ObjOk X.prog X.w _ _ _ (.lst (ss.map V.str)) from⟨hsl,acc.toList,c',hv,hl⟩),rfl,q _ (I.hok.fresh (au _))⟩
end L2
namespace K18
open PySem L2
noncomputable def whole(x:Str):Bool:=x=="anything" || x=="nothing"
noncomputable def Kd.kindL:Kd->List Str
 | .nm x=>if whole x then [] else [x]
 | .two a b=>Kd.kindL a++Kd.kindL b
 | .som _ c=>Kd.kindL c
noncomputable def oe(A:List Str)(x:Str):List Str:=if x∈A then A else A++[x]
noncomputable def cZ(A:List Str)(xs:List Str):List Str:=xs.foldl oe A
def iY(A xs ys:List Str):cZ A (xs++ys)=cZ (cZ A xs) ys:=by simp[cZ]
noncomputable def Dn(A:List Str):List (Key × V):=A.map fun x=>(Sum.inr x,V.bl true)
def pB(A:List Str):(Dn A).length=A.length:=by simp[Dn]
def oi(A:List Str):(Dn A).map (·.1)=A.map Sum.inr:=by simp[Dn]
def KA(A:List Str)(x:Str):(Dn A).any (fun kv=>decide (kv.1=Sum.inr x))=decide (x∈A):=by
 induction A with
 | nil=>rfl
 | cons a A ih=>
   show(decide ((Sum.inr a:Key)=Sum.inr x) || (Dn A).any (fun kv=>decide (kv.1=Sum.inr x)))=_;rw[ih];by_cases e:a=x
   · subst e;simp
   · have h1:¬ (Sum.inr a:Key)=Sum.inr x:=fun z=>e (NL z);rw[aj h1,Bool.false_or]
     congr 1
     simp[bI e]
def pA(A:List Str)(x:Str):bV (Dn A) (.inr x) (.bl true)=Dn (oe A x):=by
 unfold bV oe;rw[KA];by_cases e:x∈A
 · rw[aH (ao e),aH e];unfold Dn;rw[qh]
   congr 1
   funext y
   show(if(Sum.inr y:Key)=Sum.inr x then((Sum.inr y:Key),V.bl true) else(Sum.inr y,V.bl true))=_
   split<;>rfl
 · rw[aE (by rw[aj e];decide),aE e];simp[Dn]
def yL(A:List Str)(x:Str):(oe A x).length<=A.length+1:=by
 unfold oe
 split
 · lia
 · simp
theorem eQ:∀xs A,(cZ A xs).length<=A.length+xs.length
 | [],A=>by simp[cZ]
 | x::xs,A=>by
   have:=eQ xs (oe A x);have h2:=yL A x;show(cZ (oe A x) xs).length<=A.length+(xs.length+1)
   lia
theorem kJ:∀k:Kd,(Kd.kindL k).length<=k.sz
 | .nm x=>by unfold Kd.kindL;split<;>simp[Kd.sz]
 | .two a b=>by have:=kJ a;have:=kJ b;simp only[Kd.kindL,ag,Kd.sz];lia
 | .som _ c=>by have:=kJ c;simp only[Kd.kindL,Kd.sz];lia
theorem nr:∀k:Kd,(Kd.tieL k).length<=k.sz
 | .nm x=>by simp[Kd.tieL,Kd.sz]
 | .two a b=>by have:=nr a;have:=nr b;simp only[Kd.tieL,ag,Kd.sz];lia
 | .som _ c=>by have:=nr c;simp only[Kd.tieL,Kd.sz,aV];lia
def But2(a b:Addr)(H H':Hp):Prop:=∀c o,c≠a->c≠b->H c=some o->H' c=some o
def But2.refl(a b:Addr)(H:Hp):But2 a b H H:=fun c o _ _ h=>h
def But2.trans(x:But2 a b H H1)(y:But2 a b H1 H2):But2 a b H H2:=fun c o h1 h2 h=>y c o h1 h2 (x c o h1 h2 h)
def Same.but2(x:Same H H1):But2 a b H H1:=fun c o _ _ h=>x c o h
def Kj:But2 a b H (upd H a o):=fun c u h1 _ h=>by rw[aD h1];exact h
def Ki:But2 a b H (upd H b o):=fun c u _ h2 h=>by rw[aD h2];exact h
def But2.tups(q:But2 a b H H1)(ha:H a=some (.dK x))(hb:H b=some (.dK y)):Tups H H1:=fun c xs h=>by
 refine q c _ (fun e=> ?_) (fun e=> ?_) h
 · rw[e,ha] at h;cases h
 · rw[e,hb] at h;cases h
noncomputable def szs(l:List Kd):Nat:=(l.map Kd.sz).sum
def AI(a b:List Kd):szs (a++b)=szs a+szs b:=by simp[szs]
def Ca(k:Kd):k.sz=1+szs k.inner:=by
 cases k<;>simp[szs,Kd.inner,Kd.sz]<;>lia
noncomputable def Ah(l:List Kd):List Str:=(l.map Kd.kindL).flatten
noncomputable def yW(l:List Kd):List Str:=(l.map Kd.tieL).flatten
def Hb(a b:List Kd):Ah (a++b)=Ah a++Ah b:=by simp[Ah]
def F4(a b:List Kd):yW (a++b)=yW a++yW b:=by simp[yW]
theorem BQ:∀l:List Kd,(Ah l).length<=szs l
 | []=>by simp[Ah]
 | k::l=>by
   have h1:=BQ l;have h2:=kJ k;have e1:Ah (k::l)=Kd.kindL k++Ah l:=by simp[Ah]
   have e2:szs (k::l)=k.sz+szs l:=by simp[szs]
   rw[e1,e2,ag];lia
theorem AG:∀l:List Kd,(yW l).length<=szs l
 | []=>by simp[yW]
 | k::l=>by
   have h1:=AG l;have h2:=nr k;have e1:yW (k::l)=Kd.tieL k++yW l:=by simp[yW]
   have e2:szs (k::l)=k.sz+szs l:=by simp[szs]
   rw[e1,e2,ag];lia
def Dx(l:List Kd)(i:Nat):szs (l.take i)<=szs l:=by
 have:szs l=szs (l.take i)+szs (l.drop i):=by rw[<-AI,ju]
 lia
def An:([V.str "anything",V.str "nothing"]:List V).all kP=true:=by decide+kernel
def E1(x:Str):yS (.str x) [V.str "anything",V.str "nothing"]=whole x:=by
 unfold yS whole;simp only[ir,List.any_nil,wJ,Dg];rw[Bool.beq_comm (a:=Str.ofString "anything"),Bool.beq_comm (a:=Str.ofString "nothing")]
noncomputable def Kd.pre:Kd->List Str
 | .som r _=>[r]
 | _=>[]
def Af(h:∀x,k≠ .nm x):Kd.kindL k=Ah k.inner/\Kd.tieL k=Kd.pre k++yW k.inner:=by
 cases k with
 | nm x=>exact absurd rfl (h x)
 | two a b=>constructor<;>simp[Kd.kindL,Kd.tieL,Kd.pre,Ah,yW,Kd.inner]
 | som r c=>constructor<;>simp[Kd.kindL,Kd.tieL,Kd.pre,Ah,yW,Kd.inner]
inductive xc(n:Nat)(vs:List V)(H:Hp)(Q:VK):Prop
 | mk:∀v k a b A B,(vs=[v,.ref a,.ref b])->(IsK H k v)->(a≠b)->(H a=some (.dK (Dn A)))->(H b=some (.dK (Dn B)))->(A.length+k.sz<=900)->(B.length+k.sz<=900)->(k.dep<n)->(∀H',But2 a b H H'->H' a=some (.dK (Dn (cZ A (Kd.kindL k))))->H' b=some (.dK (Dn (cZ B (Kd.tieL k))))->Q .non H')->xc n vs H Q
def mn(n:Nat):Sp:=fun vs H Q _=>xc n vs H Q
section
def scNote:bq ["kind","kinds","ties","part"] pQ (aK xv):=gU
def jM:=fun {a b c d e}=> @vI a b c d e
def GN(hk0:1<=k0)(F:Fun K "note_names" "note_names" xv f fd)(Gno:Cl P w K mg base k0 "note_names" pQ (mn n))(Gi:Cl P w K mg base 1 "inner_kinds" iu qr)(mW:mg "WHOLES"=some (.ref aW))(hW:∀H,SqT K H aW [.str "anything",.str "nothing"])(mi:mg "isinstance"=none)(ms:mg "str"=none):b_ P w K mg base fj (k0+1) f fd pQ (mn (n+1)):=by
 refine F.o scNote fun cdv A outer s H vs Q E hr h=> ?_;obtain⟨v,k,a,b,A',B,rfl,hk,hab,ha,hb,hA,hB,hd,q⟩:=h;have kGno:=F.kp;have hu:(A.deeper (PyProof.Rows.envOfC "note_names" (aK xv) s.heap.objs.size f cdv)).units+1<cLine:=by have:=hr.un;lia
 refine⟨_,a_ (bu (eX (xK mi ms cm aB)) (jM (bu (dC iJ aB (qB (v:= .ref aW) rfl mW rfl)) (bb (dW hu bp aB dI rfl)) aX) (bb (lg))) aX) (jM (bu (dC bN (di aB) aJ) (bb (dW hu bF (di aB) dI rfl)) aX) (bb (lZ (cj (eB Gi hr (eF aB))) (fq 3 scNote.nd) (bb (bg (eB Gno hr (gD bU bp bF))))))),?_⟩;have fin:∀(H1:Hp) (B1:List Str),(∀x,k≠ .nm x)->B1=cZ B (Kd.pre k)->But2 a b H H1->H1 a=some (.dK (Dn A'))->H1 b=some (.dK (Dn B1))->
  IR (md K (qS qr [] E0 (dU (ot 0) gB))) (iA 3) (HR (qS (mn n) [] E0 (dU (ot 3) (dU (ot 1) (dU (ot 2) gB))))) {nx:=fun x H'=>Q V.non H',rt:=Q} [some v,some (.ref a),some (.ref b),none] H1:=by
  intro H1 B1 hnm hB1 q1 e1 e2;have t1:Tups H H1:=q1.tups ha hb;have hk1:=IsK.mono t1 hk;refine⟨v,k,rfl,hk1,fun p xs hp hL=>⟨⟨_,SqL.of aa⟩,?_⟩⟩;have pa:p≠a:=fun z=>by rw[z,e1] at hp;cases hp
  have pb:p≠b:=fun z=>by rw[z,e2] at hp;cases hp
  have sp:=ah hp (.lst xs);have lL:=KL.len hL;have hsz:=Ca k;have hpl:(Kd.pre k).length<=1:=by cases k<;>simp[Kd.pre]
  have hBl:B1.length<=B.length+1:=by rw[hB1];have:=eQ (Kd.pre k) B;lia
  obtain⟨ek,et⟩:=Af hnm;refine cf (xs:=xs) (fun i σ H3=>∃o3:Option V,σ=[some v,some (.ref a),some (.ref b),o3]/\But2 a b (upd H1 p (.lst xs)) H3/\H3 a=some (.dK (Dn (cZ A' (Ah (k.inner.take i)))))/\H3 b=some (.dK (Dn (cZ B1 (yW (k.inner.take i)))))) ⟨none,rfl,But2.refl _ _ _,by rw[lR];exact sp _ _ e1,by rw[lR];exact sp _ _ e2⟩ ?_ ?_ ?_
  · rintro i σ H3 hi ⟨o3,rfl,q3,_⟩;exact SqL.of (q3 _ _ pa pb aa)
  · rintro i x σ H3 hx ⟨o3,rfl,q3,ea,eb⟩;obtain⟨kk,hk2,ik⟩:=KL.get hL hx;have hkm:kk∈k.inner:=ar hk2;have t3:Tups (upd H1 p (.lst xs)) H3:=q3.tups (sp _ _ e1) (sp _ _ e2);have hsum:szs (k.inner.take i)+kk.sz<=szs k.inner:=by
     have h1:=Dx k.inner (i+1);rw[bH,hk2,AI] at h1;simpa[szs] using h1
    have la:=eQ (Ah (k.inner.take i)) A';have lb:=eQ (yW (k.inner.take i)) B1;have la2:=BQ (k.inner.take i);have lb2:=AG (k.inner.take i);have hdep:kk.dep<k.dep:=by
     cases k with
     | nm x=>exact absurd rfl (hnm x)
     | two c d=>
       simp only[Kd.inner,aL,d9,cH] at hkm;rcases hkm with rfl | rfl<;>simp only[Kd.dep]<;>lia
     | som r c=>
       simp only[Kd.inner,aL,d9,cH] at hkm;subst hkm;simp only[Kd.dep];lia
    refine⟨x,kk,a,b,_,_,rfl,IsK.mono (sp.tups.trans t3) ik,hab,ea,eb,by lia,by lia,by lia,fun H4 q4 ea4 eb4=> ?_⟩;refine⟨_,rfl,q3.trans q4,?_,?_⟩
    · rw[bH,hk2,Hb,iY];simpa[Ah] using ea4
    · rw[bH,hk2,F4,iY];simpa[yW] using eb4
  · rintro σ H3 ⟨o3,rfl,q3,ea,eb⟩;rw[lL,be] at ea eb;refine q H3 (q1.trans ((Same.but2 sp).trans q3)) (by rw[ek];exact ea) ?_;rw[et,iY,<-hB1];exact eb
 cases k with
 | nm x=>
   obtain rfl:v= .str x:=hk;refine⟨_,_,_,true,rfl,TyOf.str x,d6 K,?_⟩;refine⟨fun σ' H'=>But2 a b H H'/\H' a=some (.dK (Dn (cZ A' (Kd.kindL (.nm x)))))/\H' b=some (.dK (Dn B)),?_,fun σ' H' ⟨q1,e1,e2⟩=>q H' q1 e1 e2⟩;refine⟨aW,_,rfl,.inr (hW _),rfl,An,?_⟩;show if(!yS (.str x) [V.str "anything",V.str "nothing"])=true then _ else _
   rw[E1];refine fY (fun c1=> ?_) (fun c1=> ?_)
   · have hw:whole x=false:=by simpa using c1
     refine⟨_,DPut.k (k:=Sum.inr x) ha (bL (by rw[pB];lia)),Kj,?_,by rw[aD (bI hab)];exact hb⟩;rw[aa,pA];have e0:Kd.kindL (.nm x)=[x]:=by unfold Kd.kindL;rw[hw];rfl
     rw[e0];rfl
   · have hw:whole x=true:=by simpa using c1
     have e0:Kd.kindL (.nm x)=[]:=by unfold Kd.kindL;rw[hw];rfl
     exact⟨But2.refl _ _ _,by rw[e0];exact ha,hb⟩
 | two c d=>
   obtain⟨p,x,y,rfl,hp,hc,hd'⟩:=id hk;refine⟨_,_,_,false,rfl,TyOf.tup hp,dm K,?_⟩;refine⟨fun σ' H'=>σ'=[some (.ref p),some (.ref a),some (.ref b),none]/\H'=H,?_,?_⟩
   · refine⟨_,_,SqT.of hp,aR (j:=0) rfl,?_⟩;exact⟨rfl,rfl⟩
   · rintro σ' H' ⟨rfl,rfl⟩;exact fin H' B (fun x z=>by cases z) rfl (But2.refl _ _ _) ha hb
 | som r c=>
   obtain⟨p,y,rfl,hp,hc⟩:=id hk;refine⟨_,_,_,false,rfl,TyOf.tup hp,dm K,?_⟩;refine⟨fun σ' H'=>σ'=[some (.ref p),some (.ref a),some (.ref b),none]/\But2 a b H H'/\H' a=some (.dK (Dn A'))/\H' b=some (.dK (Dn (cZ B [r]))),?_,?_⟩
   · refine⟨_,_,SqT.of hp,aR (j:=0) rfl,?_⟩;refine⟨_,_,SqT.of hp,aR (j:=1) rfl,_,DPut.k (k:=Sum.inr r) hb (bL (by rw[pB];lia)),rfl,Ki,by rw[aD hab];exact ha,?_⟩;rw[aa,pA];rfl
   · rintro σ' H' ⟨rfl,q1,e1,e2⟩;exact fin H' _ (fun x z=>by cases z) rfl q1 e1 e2
def CG:b_ P w K mg base fj 1 f fd pQ (mn 0):=by
 have no:∀vs H Q E,¬ mn 0 vs H Q E:=fun vs H Q E h=>by
  obtain⟨v,k,a,b,A,B,_,_,_,_,_,_,_,h,_⟩:=h
  lia
 exact⟨fun vs H Q E h=>absurd h (no vs H Q E),fun A outer s H args us vs Q E _ _ _ _ h=>absurd h (no vs H Q E)⟩
theorem xX(A:Fq K mg "note_names" xv pQ)(Gi:Cl P w K mg base 1 "inner_kinds" iu qr)(mW:mg "WHOLES"=some (.ref aW))(hW:∀H,SqT K H aW [.str "anything",.str "nothing"])(mi:mg "isinstance"=none)(ms:mg "str"=none):∀n:Nat,Cl P w K mg base (n+1) "note_names" pQ (mn n)
 | 0=>A.cl fun _=>CG
 | n+1=>A.cl fun F=>GN (by lia) F (xX A Gi mW hW mi ms n) Gi mW hW mi ms
end
structure Sg where
 form:Str
 ps:List (Str × Kd)
noncomputable def jS:List (Str × List Str):=[("every",Bx),("no",Bx),("thing",["thing","kind"]),("tied",["thing","tie","thing"]),("within",["tie","tie"]),("makes",["tie","tie","tie"])]
def wB(p:Str × Kd):Prop:=(p.1="kind"/\p.2.sz<=60)\/((p.1="tie"\/p.1="thing")/\∃x,p.2= .nm x)
structure Sg.Ok(S:Sg):Prop where
 fo:(S.form,S.ps.map (·.1))∈jS
 po:∀p∈S.ps,wB p
def On(H:Hp)(S:Sg)(v:V):Prop:=∃p xs,v= .ref p/\H p=some (.tup (.str S.form::xs))/\KL H xs (S.ps.map (·.2))
noncomputable def pK(p:Str × Kd):List Str:=if p.1="kind" then Kd.kindL p.2 else []
noncomputable def pT(p:Str × Kd):List Str:=if p.1="kind" then Kd.tieL p.2 else if p.1="tie" then(match p.2 with | .nm x=>[x] | _=>[]) else []
noncomputable def pG(p:Str × Kd):List Str:=if p.1="thing" then(match p.2 with | .nm x=>[x] | _=>[]) else []
noncomputable def Jr(S:Sg):List Str:=cZ [] ((S.ps.map pK).flatten)
noncomputable def Jq(S:Sg):List Str:=cZ [] ((S.ps.map pT).flatten)
noncomputable def kC(S:Sg):List Str:=cZ [] ((S.ps.map pG).flatten)
def Kg(x:V)(xs:List V):i_ (x::xs) (some 1) none=xs:=by
 have h1:HT.sIx (x::xs).length 0 (some ((1:Nat):Int))=1:=by rw[HT.sIx_nat];simp only[aV];lia
 have h2:HT.sIx (x::xs).length (x::xs).length none=(x::xs).length:=rfl;unfold i_;rw[show(some 1:Option Int)=some ((1:Nat):Int) from rfl,h1,h2];simp
def Jc(x:V)(xs:List V):¬ (HT.sIx (x::xs).length 0 (some 1)=0/\HT.sIx (x::xs).length (x::xs).length none=(x::xs).length):=by
 have h1:HT.sIx (x::xs).length 0 (some ((1:Nat):Int))=1:=by rw[HT.sIx_nat];simp only[aV];lia
 rw[show(some 1:Option Int)=some ((1:Nat):Int) from rfl,h1]
 lia
theorem kF:∀k:Kd,k.nt<k.sz
 | .nm _=>by simp[Kd.nt,Kd.sz]
 | .two a b=>by have:=kF a;have:=kF b;simp only[Kd.nt,Kd.sz];lia
 | .som _ c=>by have:=kF c;simp only[Kd.nt,Kd.sz];lia
def parts_len{l:List (Str × Kd)}{f:Str × Kd->List Str}(h:∀p∈l,(f p).length<=60):((l.map f).flatten).length<=60 * l.length:=by
 induction l with
 | nil=>simp
 | cons p l ih=>
   have h1:=h p (by simp);have h2:=ih fun q hq=>h q (aG _ hq);simp only[bQ,List.flatten_cons,ag,aV]
   lia
def Jo(h:wB p):(pK p).length<=60:=by
 unfold pK
 split
 · rename_i e;rcases h with⟨_,h⟩ | ⟨h | h,_⟩
   · have:=kJ p.2;lia
   · rw[h] at e;exact absurd e (by decide+kernel)
   · rw[h] at e;exact absurd e (by decide+kernel)
 · simp
def Jn(h:wB p):(pT p).length<=60:=by
 unfold pT
 split
 · rename_i e;rcases h with⟨_,h⟩ | ⟨h | h,_⟩
   · have:=nr p.2;lia
   · rw[h] at e;exact absurd e (by decide+kernel)
   · rw[h] at e;exact absurd e (by decide+kernel)
 · split
   · split<;>simp
   · simp
def Jp(p:Str × Kd):(pG p).length<=60:=by
 unfold pG
 split
 · split<;>simp
 · simp
def CY(h:(f,ss)∈jS):ss.length<=3:=by
 simp only[jS,aL,d9,cH,Prod.mk.injEq] at h;rcases h with⟨_,rfl⟩ | ⟨_,rfl⟩ | ⟨_,rfl⟩ | ⟨_,rfl⟩ | ⟨_,rfl⟩ | ⟨_,rfl⟩<;>simp
inductive uh(vs:List V)(H:Hp)(Q:VK):Prop
 | mk:∀v S,(vs=[v])->(On H S v)->(S.Ok)->(∀q a b c H',Same H H'->H' q=some (.tup [.ref a,.ref b,.ref c])->H' a=some (.lst ((Jr S).map V.str))->H' b=some (.lst ((Jq S).map V.str))->H' c=some (.lst ((kC S).map V.str))->H q=none->H a=none->H b=none->H c=none->a≠b->a≠c->b≠c->Q (.ref q) H')->uh vs H Q
def AW:Sp:=fun vs H Q _=>uh vs H Q
section
def scNamed:bq ["saying","kinds","ties","things","sort","part"] ["saying"] (aK vr):=gU
def cq:=fun {a b c d e}=> @Jk a b c d e
def cE:=fun {a b c d}=> @gY a b c d
def Ej(F:Fun K "named" "named" vr f fd)(Gno:Cl P w K mg base 61 "note_names" pQ (mn 60))(mF0:mg "FORMS"=some (.ref aF))(hF:∀fo ss,(fo,ss)∈jS->∃kvs a,uS K P w aF kvs/\c_ kvs (.inr fo)=some (.ref a)/\∀H,SqT K H a (ss.map V.str))(mz:mg "zip"=none)(mls:mg "list"=none):b_ P w K mg base fj 62 f fd ["saying"] AW:=by
 refine F.o scNamed fun cdv A outer s H vs Q E hr h=> ?_;obtain⟨v,S,rfl,hv,hS,q⟩:=h;have hu:(A.deeper (PyProof.Rows.envOfC "named" (aK vr) s.heap.objs.size f cdv)).units+1<cLine:=by have:=hr.un;lia
 refine⟨_,a_ (fe 1 scNamed.nd cL) (a_ (fe 2 scNamed.nd cL) (a_ (fe 3 scNamed.nd cL) (jM (lZ (BF rfl mz (fb (BG (qB (v:= .ref aF) rfl mF0 rfl) (di aB) (fun _ _=>rfl)) (dM vh aB (ej aA) eU))) (eY rfl (br (fq 4 scNamed.nd) (br (fq 5 scNamed.nd) dX))) (bb (bu (dC bN bX aJ) (bb (bg (eB Gno hr (gD cX bp bF)))) (bb (bu (dC bN bX aJ) (bb (dW hu bF cX dI rfl)) (bb (dW hu bU cX dI rfl))))))) (bb (cE (cq (gD (fu (fL rfl) rfl mls bO (eF bp)) (fu (fL rfl) rfl mls bO (eF bF)) (fu (fL rfl) rfl mls bO (eF bU))))))))),?_⟩;obtain⟨pv,xs,rfl,hpv,hL⟩:=hv;obtain⟨kvs,aT,hkd,hval,hT⟩:=hF _ _ hS.fo;have lL:=KL.len hL;rw[ai] at lL;have l3:=CY hS.fo;rw[ai] at l3;refine fun a ha=>fun b hb=>fun c hc=> ?_;have ab:a≠b:=ba aa hb;have hb0:H b=none:=by rw[aD (bI ab)] at hb;exact hb
 have bc:b≠c:=ba aa hc;have ac:a≠c:=fun z=>by rw[<-z,aD ab,aa] at hc;cases hc
 have hc0:H c=none:=by rw[aD (bI bc),aD (bI ac)] at hc;exact hc
 have s3:Same H (upd (upd (upd H a (.dK [])) b (.dK [])) c (.dK [])):=eI (eI (ah ha _) hb0) hc0;have ea0:(upd (upd (upd H a (.dK [])) b (.dK [])) c (.dK [])) a=some (.dK (Dn [])):=by rw[aD ac,aD ab];exact aa
 have eb0:(upd (upd (upd H a (.dK [])) b (.dK [])) c (.dK [])) b=some (.dK (Dn [])):=by rw[aD bc];exact aa
 have ec0:(upd (upd (upd H a (.dK [])) b (.dK [])) c (.dK [])) c=some (.dK (Dn [])):=aa;generalize upd (upd (upd H a (.dK [])) b (.dK [])) c (.dK [])=H3 at s3 ea0 eb0 ec0⊢;refine⟨fun σ' H'=>∃o4 o5:Option V,σ'=[some (.ref pv),some (.ref a),some (.ref b),some (.ref c),o4,o5]/\Same H H'/\H' a=some (.dK (Dn (Jr S)))/\H' b=some (.dK (Dn (Jq S)))/\H' c=some (.dK (Dn (kC S))),?_,?_⟩
 · refine⟨_,_,SqT.of (s3 _ _ hpv),aR (j:=0) rfl,aF,kvs,.inr S.form,.ref aT,rfl,rfl,hkd,hval,1,rfl,pv,_,rfl,SqT.of (s3 _ _ hpv),Jc _ _,fun pt hpt=> ?_⟩;rw[Kg];have spt:=ah hpt (.tup xs);refine⟨aT,pt,rfl,⟨_,hT _⟩,⟨_,SqT.of aa⟩,?_⟩;have npa:pt≠a:=fun z=>by rw[z,ea0] at hpt;cases hpt
   have npb:pt≠b:=fun z=>by rw[z,eb0] at hpt;cases hpt
   have npc:pt≠c:=fun z=>by rw[z,ec0] at hpt;cases hpt
   refine yu (xs:=(S.ps.map (·.1)).map V.str) (ys:=xs) (by rw[ai,ai];lia) (fun i σ H4=>∃o4 o5:Option V,σ=[some (.ref pv),some (.ref a),some (.ref b),some (.ref c),o4,o5]/\Same H H4/\H4 pt=some (.tup xs)/\H4 a=some (.dK (Dn (cZ [] (((S.ps.take i).map pK).flatten))))/\H4 b=some (.dK (Dn (cZ [] (((S.ps.take i).map pT).flatten))))/\H4 c=some (.dK (Dn (cZ [] (((S.ps.take i).map pG).flatten))))) ⟨none,none,rfl,s3.trans spt,aa,by rw[lR];exact spt _ _ ea0,by rw[lR];exact spt _ _ eb0,by rw[lR];exact spt _ _ ec0⟩ ?_ ?_ ?_
   · rintro i σ H4 hi ⟨o4,o5,rfl,_,e,_⟩;exact⟨hT _,SqT.of e⟩
   · rintro i x y σ H4 T hx hy ⟨o4,o5,rfl,s4,e4,ea,eb,ec⟩ hTn;obtain⟨k',hk1,ik⟩:=KL.get hL hy;rw[aQ] at hk1;obtain⟨p,hp,rfl⟩:=bP.mp hk1;rw[aQ,aQ,hp] at hx;simp only[gm,mX] at hx;subst hx;have hpm:=ar hp;have hpo:=hS.po p hpm;have sT:=ah hTn (.tup [.str p.1,y]);have ik4:=IsK.mono (s4.trans sT).tups ik;have il:i<S.ps.length:=(aY.mp hp).1;have lt:(S.ps.take i).length<=3:=aq (NT _ _) l3;have hin:∀p'∈S.ps.take i,wB p':=fun p' h'=>hS.po p' (gS h');have la:=eQ (((S.ps.take i).map pK).flatten) [];have lb:=eQ (((S.ps.take i).map pT).flatten) [];have lc:=eQ (((S.ps.take i).map pG).flatten) [];have la2:=parts_len (f:=pK) fun p' h'=>Jo (hin p' h');have lb2:=parts_len (f:=pT) fun p' h'=>Jn (hin p' h');have lc2:=parts_len (l:=S.ps.take i) (f:=pG) fun p' h'=>Jp p';rw[cw] at la lb lc;have stp:∀(ff:Str × Kd->List Str),cZ [] (((S.ps.take (i+1)).map ff).flatten)=cZ (cZ [] (((S.ps.take i).map ff).flatten)) (ff p):=fun ff=>by
      rw[bH,hp,bj,Ol,iY];simp
     refine⟨_,SqT.of aa,rfl,?_⟩;refine(fY (fun c1=> ?_) (fun c1=> ?_))
     · have e1:p.1="kind":=by
        have:=bG c1
        injection this
       have hsz:p.2.sz<=60:=by
        rcases hpo with⟨_,h⟩ | ⟨h | h,_⟩
        · exact h
        · rw[h] at e1;exact absurd e1 (by decide+kernel)
        · rw[h] at e1;exact absurd e1 (by decide+kernel)
       have hdp:p.2.dep<60:=by
        have h1:=Kd.dep_le_nt p.2;have h2:p.2.nt<p.2.sz:=kF p.2
        lia
       refine⟨y,p.2,a,b,_,_,rfl,ik4,ab,sT _ _ ea,sT _ _ eb,by lia,by lia,hdp,fun H5 q5 ea5 eb5=> ?_⟩;refine⟨_,_,rfl,fun z o hz=> ?_,?_,?_,?_,?_⟩
       · exact q5 z o (fun e=>by rw[e,ha] at hz;cases hz) (fun e=>by rw[e,hb0] at hz;cases hz) ((s4.trans sT) _ _ hz)
       · exact q5 _ _ npa npb (sT _ _ e4)
       · rw[stp,ea5];unfold pK;rw[aH e1]
       · rw[stp,eb5];unfold pT;rw[aH e1]
       · rw[stp];have:pG p=[]:=by unfold pG;rw[aE (by rw[e1];decide+kernel)]
         rw[this];exact q5 _ _ (bI ac) (bI bc) (sT _ _ ec)
     · have n1:p.1≠"kind":=fun z=>c1 (by rw[z];exact ao rfl);rcases hpo with⟨h,_⟩ | ⟨hso,x,hx⟩
       · exact absurd h n1
       rw[hx] at ik4;obtain rfl:y= .str x:=ik4;refine(fY (fun c2=> ?_) (fun c2=> ?_))
       · have e2:p.1="tie":=by
          have:=bG c2
          injection this
         refine⟨_,DPut.k (k:=Sum.inr x) (sT _ _ eb) (bL (by rw[pB];lia)),_,_,rfl,eI (s4.trans sT) hb0,by rw[aD npb];exact sT _ _ e4,?_,?_,?_⟩
         · rw[aD ab,stp];have:pK p=[]:=by unfold pK;rw[aE n1]
           rw[this];exact sT _ _ ea
         · rw[aa,stp,pA];have:pT p=[x]:=by unfold pT;rw[aE n1,aH e2,hx]
           rw[this];rfl
         · rw[aD (bI bc),stp];have:pG p=[]:=by unfold pG;rw[aE (by rw[e2];decide+kernel)]
           rw[this];exact sT _ _ ec
       · have n2:p.1≠"tie":=fun z=>c2 (by rw[z];exact ao rfl);have e2:p.1="thing":=hso.resolve_left n2;refine⟨_,DPut.k (k:=Sum.inr x) (sT _ _ ec) (bL (by rw[pB];lia)),_,_,rfl,eI (s4.trans sT) hc0,by rw[aD npc];exact sT _ _ e4,?_,?_,?_⟩
         · rw[aD ac,stp];have:pK p=[]:=by unfold pK;rw[aE n1]
           rw[this];exact sT _ _ ea
         · rw[aD bc,stp];have:pT p=[]:=by unfold pT;rw[aE n1,aE n2]
           rw[this];exact sT _ _ eb
         · rw[aa,stp,pA];have:pG p=[x]:=by unfold pG;rw[aH e2,hx]
           rw[this];rfl
   · rintro σ H4 ⟨o4,o5,rfl,s4,e4,ea,eb,ec⟩;rw[ai,ai,be] at ea eb ec;exact⟨o4,o5,rfl,s4,ea,eb,ec⟩
 · rintro σ' H4 ⟨o4,o5,rfl,s4,ea,eb,ec⟩;refine⟨a,_,_,rfl,ea,oi _,fun l1 h1=>⟨b,_,_,rfl,ah h1 _ _ _ eb,oi _,fun l2 h2=>⟨c,_,_,rfl,ah h2 _ _ _ (ah h1 _ _ _ ec),oi _,fun l3 h3=>⟨bw (by show 3<=1000;decide),fun qq hq=> ?_⟩⟩⟩⟩;have t1:=ah h1 (.lst ((Jr S).map V.str));have t2:=ah h2 (.lst ((Jq S).map V.str));have t3:=ah h3 (.lst ((kC S).map V.str));have t4:=ah hq (.tup [.ref l1,.ref l2,.ref l3]);have h2':=ck t1 h2;have h3':=ck (t1.trans t2) h3;have hq':=ck ((t1.trans t2).trans t3) hq;exact q qq l1 l2 l3 _ (((s4.trans t1).trans t2).trans (t3.trans t4)) aa (((t2.trans t3).trans t4) _ _ aa) ((t3.trans t4) _ _ aa) (t4 _ _ aa) (ck s4 hq') (ck s4 h1) (ck s4 h2') (ck s4 h3')
    (ba aa h2) (ba (t2 _ _ aa) h3) (ba aa h3)
end
noncomputable def fG(c:Nat):Bool:=decide (97<=c/\c<=122)
noncomputable def nZ(c:Nat):Bool:=decide (65<=c/\c<=90)
noncomputable def tH(z:Str):Bool:=decide (1<=z.length)&&decide (z.length<=12)
noncomputable def gg(z:Str):Bool:=tH z&&(match z.cps.toList with | []=>false | c::r=>nZ c&&r.all fG)
def vX(c d:Nat):(!decide ([d]<[c]))=decide (c<=d):=by
 have h:([d]<[c])↔d<c:=by
  simp[List.cons_lt_cons_iff]
 by_cases q:d<c
 · rw[ao (h.mpr q),aj (by lia)];rfl
 · rw[aj (fun z=>q (h.mp z)),ao (by lia)];rfl
inductive ud(vs:List V)(H:Hp)(Q:VK):Prop
 | mk:∀c:Nat,(vs=[.str ⟨#[c]⟩])->(Q (.bl (fG c)) H)->ud vs H Q
def AQ:Sp:=fun vs H Q _=>ud vs H Q
inductive Bg(vs:List V)(H:Hp)(Q:VK):Prop
 | mk:∀z:Str,(vs=[.str z])->(z.length<=1000)->(∀H',Same H H'->Q (.bl (z.cps.toList.all fG)) H')->Bg vs H Q
def HX:Sp:=fun vs H Q _=>Bg vs H Q
inductive ua(vs:List V)(H:Hp)(Q:VK):Prop
 | mk:∀z:Str,(vs=[.str z])->(z.length<=1000)->(∀H',Same H H'->Q (.bl (gg z)) H')->ua vs H Q
def AM:Sp:=fun vs H Q _=>ua vs H Q
section
def Gf:bq qql42 qql42 (aK zl):=gU
def Eg(F:Fun K "is_small" "is_small" zl f fd):b_ P w K mg base fj 1 f fd qql42 AQ:=by
 refine F.o Gf fun cdv A outer s H vs Q E hr h=> ?_;obtain⟨c,rfl,q⟩:=h;refine⟨_,f_ (gY (rQ lj lj aJ aB aJ)),?_⟩;refine⟨_,_,rfl,rfl,_,rfl,?_⟩;have e1:(!decide (([c]:List Nat)<[97]))=decide (97<=c):=vX 97 c;have e2:(!decide (([122]:List Nat)<[c]))=decide (c<=122):=vX c 122;show if(!decide (([c]:List Nat)<[97]))=true then _ else _
 rw[e1];refine fY (fun h=> ?_) (fun h=> ?_)
 · refine⟨_,_,rfl,rfl,?_⟩;show Q (.bl (!decide (([122]:List Nat)<[c]))) H;rw[e2];have h':97<=c:=bG h;have:fG c=decide (c<=122):=by unfold fG;rw[C0];lia
   rw[<-this];exact q
 · have h':¬ 97<=c:=fun z=>h (ao z);have:fG c=false:=by unfold fG;rw[KM];lia
   rw[<-this];exact q
def OK:(((qql42:List Str)++[]):List Str).Nodup:=by decide+kernel
def Lk:bq lY lY (aK Je):=gU
def JB(F:Fun K "all_small" "all_small" Je f fd)(G:Cl P w K mg base 1 "is_small" qql42 AQ)(ma:mg "all"=none):b_ P w K mg base fj 2 f fd lY HX:=by
 refine F.o Lk fun cdv A outer s H vs Q E hr h=> ?_;obtain⟨z,rfl,hz,q⟩:=h;refine⟨_,f_ (gY (dB (uL rfl) rfl ma MF (eL (jN qql42 [] [] rfl (D0 aB) (fun _ _ _=>qA (i:=0) OK rfl (Or.inl rfl)) (fun _ _ _=>fZ) (fun _ _ _=>eB G hr (eL aB cu))) cu))),?_⟩;refine⟨z,rfl,fun D hD=> ?_⟩;have hsz:z.cps.size=z.length:=rfl;refine iW z.cps.size (fun i σ H'=>(∃o,σ=[o])/\H'=upd H D (.lst (((z.cps.toList.take i).map fG).map V.bl))) ⟨⟨_,rfl⟩,rfl⟩ ?_ ?_
 · rintro σ H' ⟨_,rfl⟩;refine⟨rfl,D,(z.cps.toList.map fG),rfl,SqL.of ?_,?_⟩
   · rw[aa,cS (by simp)]
   · have e:(z.cps.toList.map fG).all id=z.cps.toList.all fG:=by rw[List.all_map];rfl
     rw[e];exact q _ (ah hD _)
 · rintro i σ H' hi ⟨⟨o,rfl⟩,rfl⟩;refine⟨hi,?_⟩;rintro x H1 ⟨rfl,c,hc,rfl⟩;refine⟨c,rfl,_,aa,?_,⟨_,rfl⟩,?_⟩
   · rw[ai,ai,cJ];exact bL (by lia)
   · rw[uW];have hc':z.cps.toList[i]? =some c:=by simpa using hc
     rw[bH,hc',bj,bj]
     rfl
def OD(z:Str):(Txt.slice z (some 1) none).cps.toList=z.cps.toList.drop 1:=by
 rw[jB];have hx:z.cps.toList.length=z.length:=by simp[Str.length]
 have e:HT.sIx z.length 0 (some 1)=min 1 z.length:=HT.sIx_nat z.length 0 1;have e2:HT.sIx z.length z.length none=z.length:=rfl;rw[e,e2];rcases yP z.length with h | h
 · have:z.cps.toList=[]:=jX (by lia);rw[this];simp
 · have:min 1 z.length=1:=by lia
   rw[this,cS (by rw[e_];lia)]
def Ge:bq lY lY (aK zh):=gU
def Ed(F:Fun K "is_thing" "is_thing" zh f fd)(G:Cl P w K mg base 2 "all_small" lY HX)(ml:mg "len"=none)(mM:mg "MOST_SIGNS"=some (.int 12 tk)):b_ P w K mg base fj 3 f fd lY AM:=by
 refine F.o Ge fun cdv A outer s H vs Q E hr h=> ?_;obtain⟨z,rfl,hz,q⟩:=h;refine⟨_,f_ (gY (eC (rQ Ie Ie aA (dB wq rfl ml tK (eL aB cu)) (qB (v:= .int 12) rfl mM ⟨_,rfl⟩)) (eC (rQ lj lj aJ (ji v_ aB aA (fun _ _=>rfl)) aJ) (fJ (eB G hr (eL (dM kj aB (ej aA) eU) cu)))))),?_⟩;have hzl:z.length<=sizeLine:=fw (bL hz);have hx:z.cps.toList.length=z.length:=by simp[Str.length]
 refine⟨z,rfl,hzl,_,rfl,?_⟩;have e1:decide ((1:Int)<=(z.length:Int))=decide (1<=z.length):=by rw[C0];lia
 have e2:decide ((z.length:Int)<=12)=decide (z.length<=12):=by rw[C0];lia
 have no:tH z=false->gg z=false:=fun e=>by unfold gg;rw[e,tR]
 have sH:=q H (Same.refl H);refine fY (fun h1=> ?_) (fun h1=> ?_)
 · refine ?_;refine fY (fun h2=> ?_) (fun h2=> ?_)
   · have hf:tH z=true:=by unfold tH;rw[<-e1,<-e2,h1,h2];rfl
     have h1':1<=z.length:=by have:=bG h1;lia
     obtain⟨c,r,ecr⟩:∃c r,z.cps.toList=c::r:=by
      cases e:z.cps.toList with
      | nil=>rw[e] at hx;simp at hx;lia
      | cons c r=>exact⟨c,r,rfl⟩
     have et:gg z=(nZ c&&r.all fG):=by unfold gg;rw[hf,ecr];rfl
     refine⟨z,0,c,rfl,rfl,hzl,?_,_,_,rfl,rfl,_,rfl,?_⟩
     · exact aR (j:=0) (by rw[ecr];rfl)
     have a1:(!decide (([c]:List Nat)<[65]))=decide (65<=c):=vX 65 c;have a2:(!decide (([90]:List Nat)<[c]))=decide (c<=90):=vX c 90;show if(!decide (([c]:List Nat)<[65]))=true then _ else _
     rw[a1];refine fY (fun h3=> ?_) (fun h3=> ?_)
     · have h3':65<=c:=bG h3;refine⟨_,_,rfl,rfl,?_⟩;show if(!decide (([90]:List Nat)<[c]))=true then _ else _
       rw[a2];refine fY (fun h4=> ?_) (fun h4=> ?_)
       · have h4':c<=90:=bG h4;have hb:nZ c=true:=by unfold nZ;exact ao ⟨h3',h4'⟩
         have hl:(Txt.slice z (some 1) none).length<=1000:=aq (L9 z _ _) hz;refine⟨_,rfl,z,rfl,hzl,_,rfl,hl,fun H' sm=> ?_⟩;have e5:(Txt.slice z (some 1) none).cps.toList.all fG=gg z:=by rw[OD,ecr,et,hb];rfl
         rw[e5];exact q H' sm
       · have h4':¬ c<=90:=fun k=>h4 (ao k);have hb:nZ c=false:=by unfold nZ;exact aj fun k=>h4' k.2
         have e5:gg z=false:=by rw[et,hb];rfl
         rw[<-e5];exact sH
     · have h3':¬ 65<=c:=fun k=>h3 (ao k);have hb:nZ c=false:=by unfold nZ;exact aj fun k=>h3' k.1
       have e5:gg z=false:=by rw[et,hb];rfl
       show Q (.bl false) H;rw[<-e5];exact sH
   · have hf:tH z=false:=by
      unfold tH;have h2':decide (z.length<=12)=false:=by rw[<-e2];exact AA.mpr h2
      rw[h2',lU]
     rw[<-no hf];exact sH
 · have hf:tH z=false:=by
    unfold tH;have h1':decide (1<=z.length)=false:=by rw[<-e1];exact AA.mpr h1
    rw[h1',tR]
   show Q (.bl false) H;rw[<-no hf];exact sH
end
noncomputable def jG:Kd->Bool
 | .nm t=>gg t
 | _=>false
def Ae:Kd->Prop
 | .nm t=>t.length<=1000
 | _=>True
inductive qW(vs:List V)(H:Hp)(Q:VK):Prop
 | mk:∀v k,(vs=[v])->(IsK H k v)->(Ae k)->(∀H',Same H H'->Q (.bl (jG k)) H')->qW vs H Q
def wZ:Sp:=fun vs H Q _=>qW vs H Q
noncomputable def Sy.things:Sy->List Str
 | .thing x _=>[x]
 | .tied x _ y=>[x,y]
 | _=>[]
noncomputable def cK(ps:List (Int × Sy)):List Str:=(ps.map fun q=>q.2.things).flatten
noncomputable def Sy.sorts:Sy->List Str
 | .every _ _=>Bx | .no _ _=>Bx | .thing _ _=>["thing","kind"] | .tied _ _ _=>["thing","tie","thing"] | .within _ _=>["tie","tie"] | .makes _ _ _=>["tie","tie","tie"]
noncomputable def Sy.sg(s:Sy):Sg:=⟨oH s.hd,s.sorts.zip s.parts⟩
def jC(s:Sy):s.sg.ps.map (·.2)=s.parts:=by cases s<;>rfl
def HZ(h:IsSy H s v):On H s.sg v:=by
 obtain⟨p,xs,e,h1,h2⟩:=h;exact⟨p,xs,e,h1,by rw[jC];exact h2⟩
def Sy.okS(s:Sy):Prop:=(∀k∈s.parts,k.sz<=60)/\s.lo 25
def Ld{s:Sy}(h:s.okS):s.sg.Ok:=by
 have h1:=h.1;refine⟨by cases s<;>simp[Sy.sg,Sy.sorts,Sy.parts,Sy.hd,oH,jS],fun p hp=> ?_⟩;cases s<;>simp only[Sy.sg,Sy.sorts,Sy.parts,yQ,O0,aL,ak,cH] at hp h1
 · rcases hp with rfl | rfl
   · exact .inl ⟨rfl,h1 _ (.inl rfl)⟩
   · exact .inl ⟨rfl,h1 _ (.inr rfl)⟩
 · rcases hp with rfl | rfl
   · exact .inl ⟨rfl,h1 _ (.inl rfl)⟩
   · exact .inl ⟨rfl,h1 _ (.inr rfl)⟩
 · rcases hp with rfl | rfl
   · exact .inr ⟨.inr rfl,_,rfl⟩
   · exact .inl ⟨rfl,h1 _ (.inr rfl)⟩
 · rcases hp with rfl | rfl | rfl
   · exact .inr ⟨.inr rfl,_,rfl⟩
   · exact .inr ⟨.inl rfl,_,rfl⟩
   · exact .inr ⟨.inr rfl,_,rfl⟩
 · rcases hp with rfl | rfl
   · exact .inr ⟨.inl rfl,_,rfl⟩
   · exact .inr ⟨.inl rfl,_,rfl⟩
 · rcases hp with rfl | rfl | rfl
   · exact .inr ⟨.inl rfl,_,rfl⟩
   · exact .inr ⟨.inl rfl,_,rfl⟩
   · exact .inr ⟨.inl rfl,_,rfl⟩
def ED(A:List Str)(x y:Str):y∈oe A x↔y∈A\/y=x:=by
 unfold oe
 split
 · constructor
   · exact .inl
   · rintro(h | rfl)
     · exact h
     · assumption
 · simp
theorem mL:∀xs A y,y∈cZ A xs↔y∈A\/y∈xs
 | [],A,y=>by simp[cZ]
 | x::xs,A,y=>by
   show y∈cZ (oe A x) xs↔_;rw[mL xs (oe A x) y,ED,aL];constructor
   · rintro((h | h) | h)
     · exact .inl h
     · exact .inr (.inl h)
     · exact .inr (.inr h)
   · rintro(h | h | h)
     · exact .inl (.inl h)
     · exact .inl (.inr h)
     · exact .inr h
def su:¬ (Str.ofString "kind":Str)=Str.ofString "thing":=by decide+kernel
def tY:¬ (Str.ofString "tie":Str)=Str.ofString "thing":=by decide+kernel
def D8(s:Sy)(y:Str):y∈kC s.sg↔y∈s.things:=by
 unfold kC;rw[mL];cases s<;>simp[Sy.sg,Sy.sorts,Sy.parts,pG,Sy.things,su,tY]
def D9(s:Sy):(kC s.sg).length<=3:=by
 have:=eQ ((s.sg.ps.map pG).flatten) [];have h2:((s.sg.ps.map pG).flatten).length<=3:=by
  cases s<;>simp[Sy.sg,Sy.sorts,Sy.parts,pG,su,tY]
 unfold kC;simp only[cw] at this
 lia
def D1(hK:X.K=K')(hl:PE X l tl):PI X tg l (md K' tl):=by subst hK;exact cj hl
inductive pD(vs:List V)(H:Hp)(Q:VK):Prop
 | mk:∀lp ys ps,(vs=[.ref lp])->(H lp=some (.lst ys))->(PrL H ys ps)->((∀q∈ps,q.2.okS))->(ps.length<=100)->(∀d A H',Same H H'->H' d=some (.dK (Dn A))->(∀x,x∈A↔x∈cK ps)->A.length<=3 * ps.length->Q (.ref d) H')->pD vs H Q
def t_:Sp:=fun vs H Q _=>pD vs H Q
def Im:((([("number":Str),("saying":Str),("thing":Str)]:List Str)++[]):List Str).Nodup:=by decide+kernel
def mx{ps:List (Int × Sy)}(h:ps[i]? =some q):cK (ps.take (i+1))=cK (ps.take i)++q.2.things:=by
 unfold cK;rw[bH,h,bj,Ol];simp
section
def DK:bq ["x"] ["x"] (aK vm):=gU
def Ct(F:Fun K "stands_for_thing" "stands_for_thing" vm f fd)(mi:mg "isinstance"=none)(ms:mg "str"=none)(Git:Cl P w K mg base 3 "is_thing" lY AM):b_ P w K mg base fj 4 f fd ["x"] wZ:=by
 refine F.o DK fun cdv A outer s H vs Q E hr h=> ?_;obtain⟨v,k,rfl,hk,hl,q⟩:=h;refine⟨_,bb (cE (eC (xK mi ms cm aB) (fJ (eB Git hr (eF aB))))),?_⟩;cases k with
 | nm x=>
   obtain rfl:v= .str x:=hk;exact⟨_,_,_,true,rfl,TyOf.str x,d6 K,⟨x,rfl,hl,q⟩⟩
 | two a b=>
   obtain⟨p,x,y,rfl,hp,_,_⟩:=hk;exact⟨_,_,_,false,rfl,TyOf.tup hp,dm K,(q H (Same.refl H))⟩
 | som r c=>
   obtain⟨p,y,rfl,hp,_⟩:=hk;exact⟨_,_,_,false,rfl,TyOf.tup hp,dm K,(q H (Same.refl H))⟩
def Cj:bq ["pairs"] ["pairs"] (aK rE):=gU
def zN(F:Fun K "things_named" "things_named" rE f fd)(Gnd:Cl P w K mg base 62 "named" ["saying"] AW):b_ P w K mg base fj 63 f fd ["pairs"] t_:=by
 refine F.o Cj fun cdv A outer s H vs Q E hr h=> ?_;obtain⟨lp,ys,ps,rfl,hl,hps,hok,hz,q⟩:=h;refine⟨_,bb (cE (Co ["number","saying","thing"] [] [] rfl (cj aB) (fun _ _ _=>GD (K':=K) (i:=0) (j:=1) rfl rfl Im rfl rfl rfl rfl) (fun _ _ _=>fZ) (fun _ _ _=>D1 (K':=K) rfl (j7 (r:=Jg K) iV (eB Gnd hr (eF bp)) aA)) (fun _ _ _=>fq 2 Im) (fun _ _ _=>fZ) (fun _ _ _=>bF) (fun _ _ _=>dI))),?_⟩;have lL:ys.length=ps.length:=aS hps;refine⟨⟨_,SqL.of hl⟩,fun D hD=> ?_⟩;refine Ip ys.length (fun i σ H'=>(∃o0 o1 o2,σ=[o0,o1,o2])/\Same H H'/\∃A,H' D=some (.dK (Dn A))/\(∀x,x∈A↔x∈cK (ps.take i))/\A.length<=3 * i) ⟨⟨_,_,_,rfl⟩,ah hD _,[],aa,by simp[cK],by simp⟩ ?_ ?_
 · rintro σ H' ⟨_,sm,A,eA,hA,lA⟩;rw[lL,be] at hA;exact⟨⟨_,SqL.of (sm _ _ hl),au _⟩,q D A H' sm eA hA (by rw[lL] at lA;exact lA)⟩
 · rintro i σ H' hi ⟨⟨o0,o1,o2,rfl⟩,sm,A',eA,hA,lA⟩;have ho:=sm _ _ hl;refine⟨⟨_,ys[i],SqL.of ho,by simp[hi]⟩,?_⟩;rintro y H1 ⟨rfl,hy⟩;have hyi:=hy _ (SqL.of ho);obtain⟨pq,hpq,t,vs,rfl,ht,hsy⟩:=cG hps hyi;have okq:=hok pq (ar hpq);refine⟨_,SqT.of (sm _ _ ht),rfl,?_⟩;refine⟨vs,pq.2.sg,rfl,HZ (hsy.mono sm.tups),Ld okq,fun qq a b c H2 s2 hq ha hb hc nq na nb nc nab nac nbc=> ?_⟩;refine⟨_,_,SqT.of hq,aR (j:=2) rfl,⟨_,SqL.of hc⟩,?_⟩;have cD:c≠D:=fun z=>by rw[z,eA] at nc;cases nc
   have lG:=D9 pq.2;refine Ip ((kC pq.2.sg).map V.str).length (fun j σ' H'=>(∃o2,σ'=[some (.int pq.1),some vs,o2])/\Same H H'/\H' c=some (.lst ((kC pq.2.sg).map V.str))/\H' D=some (.dK (Dn (cZ A' ((kC pq.2.sg).take j))))) ⟨⟨_,rfl⟩,sm.trans s2,hc,s2 _ _ eA⟩ ?_ ?_
   · rintro σ' H3 ⟨⟨o2',rfl⟩,sm3,ec,eD⟩;rw[ai,be] at eD;refine⟨⟨_,SqL.of ec,au _⟩,⟨_,_,_,rfl⟩,sm3,_,eD,fun x=> ?_,?_⟩
     · rw[mL,hA,D8,mx hpq,av]
     · have:=eQ (kC pq.2.sg) A'
       lia
   · rintro j σ' H3 hj ⟨⟨o2',rfl⟩,sm3,ec,eD⟩;have hj':j<(kC pq.2.sg).length:=by simpa using hj
     refine⟨⟨_,.str (kC pq.2.sg)[j],SqL.of ec,by simp[hj']⟩,?_⟩;rintro y2 H4 ⟨rfl,hy2⟩;have hy2i:=hy2 _ (SqL.of ec);rw[aQ,aw hj'] at hy2i;cases hy2i;have la:=eQ ((kC pq.2.sg).take j) A';have lt:((kC pq.2.sg).take j).length<=3:=aq (NT _ _) lG;refine⟨Dn (cZ A' ((kC pq.2.sg).take j)),Sum.inr (kC pq.2.sg)[j],rfl,eD,bL (by rw[pB];lia),⟨_,rfl⟩,eI sm3 hD,by rw[aD cD];exact ec,?_⟩;rw[aa,pA,bH,aw hj',iY]
     rfl
end
noncomputable def jq(c:Nat):Bool:=decide (97<=c/\c<=122) || decide (65<=c/\c<=90)
noncomputable def gV(z:Str):Bool:=decide (1<=z.length)&&decide (z.length<=12)&&z.cps.toList.all jq
noncomputable def KH(l:List Nat):Str:=⟨l.toArray⟩
def xZ(l:List Nat):(KH l).cps.toList=l:=by simp[KH]
def GW(l:List Nat):(KH l).length=l.length:=by simp[KH,Str.length]
def wV{a:Str}(h:a.cps.toList=b.cps.toList):a=b:=by
 cases a;cases b;simp only[Str.mk.injEq];exact Array.toList_inj.mp h
def JH(z:Str):KH z.cps.toList=z:=wV (xZ _)
def B2(a b:Str):(a++b).cps.toList=a.cps.toList++b.cps.toList:=by rw[lO];simp
def nR(z:Str):z.length=z.cps.toList.length:=by simp[Str.length]
def JM:(Str.ofString "(both ").cps.toList=[40,98,111,116,104,32]:=by decide+kernel
def JL:(Str.ofString "(some ").cps.toList=[40,115,111,109,101,32]:=by decide+kernel
def EM:(Str.ofString " ").cps.toList=[32]:=by decide+kernel
def EL:(Str.ofString ")").cps.toList=[41]:=by decide+kernel
def Iq:(Str.empty).cps.toList=[]:=by decide+kernel
noncomputable def qj:Kd->List Nat
 | .nm x=>x.cps.toList
 | .two a b=>[40,98,111,116,104,32]++qj a++[32]++qj b++[41]
 | .som r c=>[40,115,111,109,101,32]++r.cps.toList++[32]++qj c++[41]
noncomputable def tj(k:Kd):Str:=KH (qj k)
def okK:Kd->Prop
 | .nm x=>gV x=true
 | .two a b=>okK a/\okK b
 | .som r c=>gV r=true/\okK c
def eh(h:gV x=true):1<=x.length/\x.length<=12/\x.cps.toList.all jq=true:=by
 unfold gV at h;simp only[aO,bD] at h;exact⟨h.1.1,h.1.2,h.2⟩
def jD(h:gV x=true):1<=x.length/\x.length<=12/\x.cps.toList.all jq=true/\True:=by
 obtain⟨a,b,c⟩:=eh h;exact⟨a,b,c,trivial⟩
theorem uT:∀{k:Kd},okK k->(qj k).length<=12+32 * k.nt
 | .nm x,h=>by
   have:=eh h;rw[nR] at this;simp only[qj,Kd.nt];lia
 | .two a b,h=>by
   have h1:=uT h.1;have h2:=uT h.2;simp only[qj,Kd.nt,ag,aV,cw];lia
 | .som r c,h=>by
   have h1:=jD h.1;have h2:=uT h.2;rw[nR] at h1;simp only[qj,Kd.nt,ag,aV,cw];lia
def qT:List Nat->Prop
 | []=>True
 | c::_=>jq c=false
theorem gz:∀{x y s t:List Nat},x.all jq=true->y.all jq=true->qT s->qT t->x++s=y++t->x=y/\s=t
 | [],[],s,t,_,_,_,_,e=>⟨rfl,e⟩
 | [],b::y,s,t,_,hy,hs,_,e=>by
   simp only[dy] at e;subst e;simp only[fD,aO] at hy;have:jq b=false:=hs;rw[this] at hy;exact absurd hy.1 (by decide)
 | a::x,[],s,t,hx,_,_,ht,e=>by
   simp only[dy] at e;subst e;simp only[fD,aO] at hx;have:jq a=false:=ht;rw[this] at hx;exact absurd hx.1 (by decide)
 | a::x,b::y,s,t,hx,hy,hs,ht,e=>by
   simp only[bT,bC] at e;simp only[fD,aO] at hx hy;obtain⟨h1,h2⟩:=gz hx.2 hy.2 hs ht e.2;exact⟨by rw[e.1,h1],h2⟩
def qo:qT (32::l):=by show jq 32=false;decide
def qm:qT (41::l):=by show jq 41=false;decide
def nP(h:okK (.nm x)):∃c r,x.cps.toList=c::r/\jq c=true:=by
 obtain⟨h1,_,h3⟩:=eh h;have hl:=nR x;cases e:x.cps.toList with
 | nil=>rw[e] at hl;simp at hl;lia
 | cons c r=>
   rw[e] at h3;simp only[fD,aO] at h3;exact⟨c,r,rfl,h3.1⟩
def MB:jq 40=false:=by decide
theorem uU:∀{a b:Kd} {s t:List Nat},okK a->okK b->qT s->qT t->qj a++s=qj b++t->a=b/\s=t
 | .nm x,.nm y,s,t,ha,hb,hs,ht,e=>by
   obtain⟨h1,h2⟩:=gz (eh ha).2.2 (eh hb).2.2 hs ht e;exact⟨by rw[wV h1],h2⟩
 | .nm x,.two b1 b2,s,t,ha,_,_,_,e=>by
   obtain⟨c,r,e1,hc⟩:=nP ha;simp only[qj,e1,bT,bC] at e;rw[e.1,MB] at hc;cases hc
 | .nm x,.som r' c',s,t,ha,_,_,_,e=>by
   obtain⟨c,r,e1,hc⟩:=nP ha;simp only[qj,e1,bT,bC] at e;rw[e.1,MB] at hc;cases hc
 | .two a1 a2,.nm y,s,t,_,hb,_,_,e=>by
   obtain⟨c,r,e1,hc⟩:=nP hb;simp only[qj,e1,bT,bC] at e;rw[<-e.1,MB] at hc;cases hc
 | .som r' c',.nm y,s,t,_,hb,_,_,e=>by
   obtain⟨c,r,e1,hc⟩:=nP hb;simp only[qj,e1,bT,bC] at e;rw[<-e.1,MB] at hc;cases hc
 | .two a1 a2,.som r' c',s,t,_,_,_,_,e=>by
   simp[qj] at e
 | .som r' c',.two a1 a2,s,t,_,_,_,_,e=>by
   simp[qj] at e
 | .two a1 a2,.two b1 b2,s,t,ha,hb,hs,ht,e=>by
   simp only[qj,cA,dR] at e;obtain⟨h1,h2⟩:=uU (a:=a1) (b:=b1) ha.1 hb.1 qo qo e;simp only[bT,dy,bC,gc] at h2;obtain⟨h3,h4⟩:=uU (a:=a2) (b:=b2) ha.2 hb.2 qm qm h2;simp only[bC,gc] at h4;exact⟨by rw[h1,h3],h4⟩
 | .som r c,.som r' c',s,t,ha,hb,hs,ht,e=>by
   simp only[qj,cA,dR] at e;obtain⟨h1,h2⟩:=gz (jD ha.1).2.2.1 (jD hb.1).2.2.1 qo qo e;simp only[bT,dy,bC,gc] at h2;obtain⟨h3,h4⟩:=uU (a:=c) (b:=c') ha.2 hb.2 qm qm h2;simp only[bC,gc] at h4;exact⟨by rw[wV h1,h3],h4⟩
def FZ(ha:okK a)(hb:okK b)(e:qj a=qj b):a=b:=(uU (s:=[]) (t:=[]) ha hb True.intro True.intro (by rw[e])).1
def FY(ha:okK a)(hb:okK b)(e:tj a=tj b):a=b:=FZ ha hb (by rw[<-xZ (qj a),<-xZ (qj b)];exact congrArg (fun z:Str=>z.cps.toList) e)
inductive w_(n:Nat)(vs:List V)(H:Hp)(Q:VK):Prop
 | mk:∀v k,(vs=[v])->(IsK H k v)->(okK k)->(k.nt<=24)->(k.dep<n)->(Q (.str (tj k)) H)->w_ n vs H Q
def mm(n:Nat):Sp:=fun vs H Q _=>w_ n vs H Q
def xr(a b:Kd):Str.empty++"(both "++tj a++" "++tj b++")"=tj (.two a b):=by
 apply wV;simp only[B2,Iq,JM,EM,EL,tj,xZ,qj,dy]
def xt(r:Str)(c:Kd):Str.empty++"(some "++r++" "++tj c++")"=tj (.som r c):=by
 apply wV;simp only[B2,Iq,JL,EM,EL,tj,xZ,qj,dy]
def uV(h:okK k):(tj k).length<=12+32 * k.nt:=by
 rw[tj,GW];exact uT h
section
def IY:bq iu iu (aK Bj):=gU
def GM(F:Fun K "show_kind" "show_kind" Bj f fd)(Gsh:Cl P w K mg base k0 "show_kind" iu (mm n))(mi:mg "isinstance"=none)(ms:mg "str"=none):b_ P w K mg base fj (k0+1) f fd iu (mm (n+1)):=by
 refine F.o IY fun cdv A outer s H vs Q E hr h=> ?_;obtain⟨v,k,rfl,hk,ok,hnt,hd,q⟩:=h;have kGsh:=F.kp;refine⟨_,a_ (bu (eX (dB kR rfl mi j3 (eL aB (eL (vL (v:= .ty "str") rfl ms cm rfl) cu)))) (bb (gY aB)) aX)
  (a_ (bu (qy bN (ji iV aB aA (fun _ _=>rfl)) aJ (rT _)) (bb (gY (BH (oM aJ (vK (eB Gsh hr (eL (ji iV aB aA (fun _ _=>rfl)) cu)) (oM aJ (vK (eB Gsh hr (eL (ji iV aB aA (fun _ _=>rfl)) cu)) (oM aJ D3)))))))) aX)
  (bb (gY (BH (oM aJ (vK (ji iV aB aA (fun _ _=>rfl)) (oM aJ (vK (eB Gsh hr (eL (ji iV aB aA (fun _ _=>rfl)) cu)) (oM aJ D3))))))))),?_⟩
 cases k with
 | nm x=>
   obtain rfl:v= .str x:=hk;refine⟨_,_,_,true,rfl,TyOf.str x,d6 K,?_⟩;have:tj (.nm x)=x:=JH x;rw[this] at q;exact q
 | two a b=>
   obtain⟨p,x,y,rfl,hp,ha,hb⟩:=id hk;refine⟨_,_,_,false,rfl,TyOf.tup hp,dm K,?_⟩;refine⟨_,_,SqT.of hp,aR (j:=0) rfl,?_⟩;simp only[Kd.nt,Kd.dep] at hnt hd;have la:=uV ok.1;have lb:=uV ok.2;have l1:(Str.ofString "(both ").length=6:=by decide+kernel
   have l2:(Str.ofString " ").length=1:=by decide+kernel
   have l3:(Str.ofString ")").length=1:=by decide+kernel
   have l0:Str.empty.length=0:=by decide+kernel
   refine⟨_,rfl,bw (by lia),bw (by rw[bK];lia),_,_,SqT.of hp,aR (j:=1) rfl,x,a,rfl,ha,ok.1,by lia,by lia,_,rfl,bw (by lia),bw (by simp only[bK];lia),_,rfl,bw (by lia),bw (by simp only[bK];lia),_,_,SqT.of hp,aR (j:=2) rfl,y,b,rfl,hb,ok.2,by lia,by lia,_,rfl,bw (by lia),bw (by simp only[bK];lia),_,rfl,bw (by lia),bw (by simp only[bK];lia),bw (by simp only[bK];lia),?_⟩;rw[xr];exact q
 | som r c=>
   obtain⟨p,y,rfl,hp,hc⟩:=id hk;refine⟨_,_,_,false,rfl,TyOf.tup hp,dm K,?_⟩;refine⟨_,_,SqT.of hp,aR (j:=0) rfl,?_⟩;simp only[Kd.nt,Kd.dep] at hnt hd;have la:=jD ok.1;have lb:=uV ok.2;have l1:(Str.ofString "(some ").length=6:=by decide+kernel
   have l2:(Str.ofString " ").length=1:=by decide+kernel
   have l3:(Str.ofString ")").length=1:=by decide+kernel
   have l0:Str.empty.length=0:=by decide+kernel
   refine⟨_,rfl,bw (by lia),bw (by rw[bK];lia),_,_,SqT.of hp,aR (j:=1) rfl,r,rfl,bw (by lia),bw (by simp only[bK];lia),_,rfl,bw (by lia),bw (by simp only[bK];lia),_,_,SqT.of hp,aR (j:=2) rfl,y,c,rfl,hc,ok.2,by lia,by lia,_,rfl,bw (by lia),bw (by simp only[bK];lia),_,rfl,bw (by lia),bw (by simp only[bK];lia),bw (by simp only[bK];lia),?_⟩;rw[xt];exact q
def Cd:b_ P w K mg base fj 0 f fd iu (mm 0):=by
 have no:∀vs H Q E,¬ mm 0 vs H Q E:=fun vs H Q E h=>by
  obtain⟨v,k,_,_,_,_,h,_⟩:=h
  lia
 exact⟨fun vs H Q E h=>absurd h (no vs H Q E),fun A outer s H args us vs Q E _ _ _ _ h=>absurd h (no vs H Q E)⟩
theorem xu(A:Fq K mg "show_kind" Bj iu)(mi:mg "isinstance"=none)(ms:mg "str"=none):∀n:Nat,Cl P w K mg base n "show_kind" iu (mm n)
 | 0=>A.cl fun _=>Cd
 | n+1=>A.cl fun F=>GM F (xu A mi ms n) mi ms
end
inductive y_(vs:List V)(H:Hp)(Q:VK):Prop
 | mk:∀p key v kvs,(vs=[.ref p,kV key,v])->(H p=some (.dK kvs))->(kvs.length<sizeLine)->(((c_ kvs key=none/\∀q,H q=none->∀H',H'=upd (upd H q (.lst [v])) p (.dK (bV kvs key (.ref q)))->Q .non H')\/∃q xs,c_ kvs key=some (.ref q)/\H q=some (.lst xs)/\xs.length<sizeLine/\∀g,H g=none->∀H',H'=upd (upd H g (.lst [])) q (.lst (xs++[v]))->Q .non H'))->y_ vs H Q
def F7:Sp:=fun vs H Q _=>y_ vs H Q
noncomputable def xQ(i j:Int)(b:Bool):List V:=if b then [.int i,.int j] else [.int j,.int i]
inductive AU(vs:List V)(H:Hp)(Q:VK):Prop
 | mk:∀i j b,(vs=[.int i,.int j,.bl b])->(∀l,H l=none->Q (.ref l) (upd H l (.lst (xQ i j b))))->AU vs H Q
def HV:Sp:=fun vs H Q _=>AU vs H Q
inductive nF(vs:List V)(H:Hp)(Q:VK):Prop
 | mk:∀m n:Nat,(vs=[.int (m:Int)])->(m<2^n)->(n<=100000)->(∀l,H l=none->Q (.ref l) (upd H l (.lst ((cQ m).map fun(i:Nat)=>V.int (i:Int)))))->nF vs H Q
def ox:Sp:=fun vs H Q _=>nF vs H Q
def KW(h:p≠q):upd (upd (upd H q a) p d) q b=upd (upd H q b) p d:=by
 funext c
 by_cases h1:c=q
 · subst h1;rw[aa,aD (bI h),aa]
 · by_cases h2:c=p
   · subst h2;rw[aD h1,aa,aa]
   · rw[aD h1,aD h2,aD h1,aD h2,aD h1]
noncomputable def OL(σ:St):Nat:=match σ with
 | some (.int i)::_=>i.toNat
 | _=>0
section
def Nc:bq rL rL (aK Nd):=gU
def Ly(F:Fun K "note" "note" Nd f fd):b_ P w K mg base fj 1 f fd rL F7:=by
 refine F.o Nc fun cdv A outer s H vs Q E hr h=> ?_;obtain⟨p,key,v,kvs,rfl,hp,hl,h⟩:=h;refine⟨_,bb (bg (xO (xM aB bp (bR cu) ⟨rfl,rfl,rfl,rfl⟩) bF)),?_⟩;refine⟨p,rfl,.inl ⟨kvs,.inl hp⟩,ay _,fun g hg=> ?_⟩;have pg:p≠g:=fun z=>by rw[z,hg] at hp;cases hp
 have hp1:upd H g (.lst []) p=some (.dK kvs):=by rw[aD pg];exact hp
 refine⟨kvs,key,hp1,rfl,hl,fun y hy=> ?_,fun hy=> ?_⟩
 · rcases h with⟨hn,_⟩ | ⟨q,xs,hq,e,l,h⟩
   · rw[hn] at hy;cases hy
   · rw[hq] at hy;cases hy;have qg:q≠g:=fun z=>by rw[z,hg] at e;cases e
     have e1:upd H g (.lst []) q=some (.lst xs):=by rw[aD qg];exact e
     exact⟨.inl ⟨rfl,_,SqL.of e1⟩,xs,e1,l,h g hg _ rfl⟩
 · rcases h with⟨_,h⟩ | ⟨q,xs,hq,_⟩
   · have e1:upd (upd H g (.lst [])) p (.dK (bV kvs key (.ref g))) g=some (.lst []):=by rw[aD (bI pg),aa]
     exact⟨.inl ⟨rfl,_,SqL.of e1⟩,[],e1,by decide,h g hg _ (KW pg)⟩
   · rw[hq] at hy;cases hy
def Lj:bq xD xD (aK rK):=gU
def Jx(F:Fun K "in_order" "in_order" rK f fd):b_ P w K mg base fj 1 f fd xD HV:=by
 refine F.o Lj fun cdv A outer s H vs Q E hr h=> ?_;obtain⟨i,j,b,rfl,q⟩:=h;refine⟨_,bb (cE (D6 (eX bF) (bR (fb aB bp)) (bR (fb bp aB)))),?_⟩;cases b with
 | true=>exact(⟨by show 2<=sizeLine;decide,q⟩)
 | false=>exact(⟨by show 2<=sizeLine;decide,q⟩)
def scBits:bq ["mask","found","lowest"] ["mask"] (aK vC):=gU
def GU(F:Fun K "bits_of" "bits_of" vC f fd):b_ P w K mg base fj 1 f fd ["mask"] ox:=by
 refine F.o scBits fun cdv A outer s H vs Q E hr h=> ?_;obtain⟨m,n,rfl,hm,hn,q⟩:=h;refine⟨_,a_ (fe 1 scBits.nd (bR cu)) (a_ (rP qI (xH aB (fun _=>rfl)) (a_ (fe 2 scBits.nd (bx mI aB (uA IL aB))) (a_ (bg (xO bp (bx oP (zK PySem.F.plainAttrs_int PySem.F.slot_int_bit_length PySem.F.type_int_bit_length tF bF) aA))) (bb (DY (i:=0) scBits.nd rfl (Or.inl rfl) bF J1))))) (bb (cE bp))),?_⟩;refine⟨ay _,fun l hl=> ?_⟩;dsimp only[iA];show uY _ _ {nx:=_,rt:=_,bk:=_,ct:=_} _ _;refine wL (fun σ H'=>∃(t:Nat) (o2:Option V),t<=n/\σ=[some (.int ((2^t * (m/2^t):Nat):Int)),some (.ref l),o2]/\H'=upd H l (.lst (((List.range t).filter m.testBit).map fun(i:Nat)=>V.int (i:Int)))) (fun σ _=>OL σ) ⟨0,none,ay _,by rw[Nat.pow_zero,Nat.div_one,Nat.one_mul];rfl,rfl⟩ ?_ (fun σ H Q Q' hm h=>by obtain⟨x,e,k,tk,q⟩:=onV.ex h;exact onV.of e ⟨k,tk,hm _ _ q⟩);rintro σ H' ⟨t,o2,ht,rfl,rfl⟩;refine⟨_,rfl,?_⟩;rcases yP (2^t * (m/2^t)) with z | z
 · rw[z];have hlt:m<2^t:=by
    rcases eR m (2^t) with c | c
    · exact c
    · have hp:0<2^t:=jV (by decide);have:0<m/2^t:=Nat.div_pos c hp;have:=Nat.mul_pos hp this
      lia
   rw[C7 m t hlt];exact q l hl
 · have nz:(((2^t * (m/2^t):Nat):Int) !=0)=true:=by
    rw[bne_iff_ne];lia
   rw[nz];obtain⟨t',h1,h2,h3,q',e1,e2⟩:=C8 z;obtain⟨b1,b2⟩:=G0 e1;have lt':t'<n:=by
    rcases eR t' n with c | c
    · exact c
    · rw[qe (ax hm (tM (by decide) c))] at h2;cases h2
   have ln:(((List.range t).filter m.testBit).map fun(i:Nat)=>V.int (i:Int)).length<sizeLine:=by
    rw[ai];exact bz (aq (List.length_filter_le _ _) (by rw[jc];exact aq ht hn)) (by decide)
   refine⟨.inl ⟨rfl,_,SqL.of aa⟩,rfl,_,rfl,rfl,_,aa,ln,_,rfl,_,_,rfl,rfl,?_⟩;dsimp only[List.set];rw[b1,b2,yk];refine⟨⟨t'+1,some (.int ((2^t':Nat):Int)),lt',?_,?_⟩,?_⟩
   · rw[e2]
   · rw[uW,zD h1 h2 h3,bj];rw[show(((t'+1:Nat):Int) - 1)=(t':Int) by lia]
     rfl
   · show((2^(t'+1) * q':Nat):Int).toNat<((2^t * (m/2^t):Nat):Int).toNat;rw[bW,bW,e1];have hp:0<2^t':=jV (by decide);rw[kX,NP,og]
     lia
end
inductive Sh where
 | no | both (i j:Nat) | some (r:Str) (j:Nat)
 deriving DecidableEq
def HG(H:Hp)(v:V):Sh->Prop
 | .no=>v= .non
 | .both i j=>∃p:Addr,v= .ref p/\H p=some (.tup [.str "both",.int (i:Int),.int (j:Int)])
 | .some r j=>∃p:Addr,v= .ref p/\H p=some (.tup [.str "some",.str r,.int (j:Int)])
def pN:Mo HG:=fun H H' v s t h=>by
 cases s with
 | no=>exact h
 | both i j=>obtain⟨p,e,h⟩:=h;exact⟨p,e,t _ _ h⟩
 | some r j=>obtain⟨p,e,h⟩:=h;exact⟨p,e,t _ _ h⟩
def Ms(H:Hp)(v:V)(k:Kd):Prop:=IsK H k v
def r_:Mo Ms:=fun _ _ _ _ t h=>IsK.mono t h
structure LoI where
 parts:List Kd
 shapes:List Sh
 known:List Nat
 everys:Nat->List (Nat × Int)
 nos:Nat->List (Nat × Int × Bool)
 withins:Str->List (Str × Int)
 mk1:Str->List (Str × Str × Int)
 mk2:Str->List (Str × Str × Int)
 boths:Nat->List (Nat × Nat × Bool)
 somes:Nat->List (Str × Nat)
 fillers:Str->Option Nat
 wholes:Str->Nat->Option Nat
noncomputable def LoI.ix(L:LoI)(k:Kd):Nat:=L.parts.idxOf k
noncomputable def LoI.add(L:LoI)(k:Kd)(s:Sh):LoI:={L with parts:=L.parts++[k],shapes:=L.shapes++[s]}
noncomputable def LoI.num:Kd->LoI->LoI
 | .nm x,L=>if Kd.nm x∈L.parts then L else L.add (.nm x) .no
 | .two a b,L=>if Kd.two a b∈L.parts then L else(num b (num a L)).add (.two a b) (.both ((num a L).ix a) ((num b (num a L)).ix b))
 | .som r c,L=>if Kd.som r c∈L.parts then L else(num c L).add (.som r c) (.some r ((num c L).ix c))
noncomputable def LoI.pre:Kd->LoI->LoI
 | .nm _,L=>L
 | .two a b,L=>num b (num a L)
 | .som _ c,L=>num c L
noncomputable def LoI.shp:Kd->LoI->Sh
 | .nm _,_=> .no
 | .two a b,L=> .both ((num a L).ix a) ((num b (num a L)).ix b)
 | .som r c,L=> .some r ((num c L).ix c)
def LoI.num_eq(k:Kd)(L:LoI):LoI.num k L=if k∈L.parts then L else(LoI.pre k L).add k (LoI.shp k L):=by
 cases k with
 | nm x=>rw[LoI.num];rfl
 | two a b=>rw[LoI.num];rfl
 | som r c=>rw[LoI.num];rfl
def LoI.num_in(h:k∈L.parts):LoI.num k L=L:=by rw[LoI.num_eq,aH h]
theorem LoI.num_rest:∀k L,(LoI.num k L).known=L.known/\(LoI.num k L).everys=L.everys/\(LoI.num k L).nos=L.nos/\(LoI.num k L).withins=L.withins/\(LoI.num k L).mk1=L.mk1/\(LoI.num k L).mk2=L.mk2/\(LoI.num k L).boths=L.boths/\(LoI.num k L).somes=L.somes/\(LoI.num k L).fillers=L.fillers/\(LoI.num k L).wholes=L.wholes
 | .nm x,L=>by
   rw[LoI.num]
   split<;>exact⟨rfl,rfl,rfl,rfl,rfl,rfl,rfl,rfl,rfl,rfl⟩
 | .two a b,L=>by
   obtain⟨a0,a1,a2,a3,a4,a5,a6,a7,a8,a9⟩:=LoI.num_rest a L;obtain⟨b0,b1,b2,b3,b4,b5,b6,b7,b8,b9⟩:=LoI.num_rest b (LoI.num a L);rw[LoI.num]
   split
   · exact⟨rfl,rfl,rfl,rfl,rfl,rfl,rfl,rfl,rfl,rfl⟩
   · exact⟨b0.trans a0,b1.trans a1,b2.trans a2,b3.trans a3,b4.trans a4,b5.trans a5,b6.trans a6,b7.trans a7,b8.trans a8,b9.trans a9⟩
 | .som r c,L=>by
   have h:=LoI.num_rest c L;rw[LoI.num]
   split
   · exact⟨rfl,rfl,rfl,rfl,rfl,rfl,rfl,rfl,rfl,rfl⟩
   · exact h
theorem LoI.num_mem:∀k L y,y∈(LoI.num k L).parts->y∈L.parts\/y.sz<=k.sz
 | .nm x,L,y,h=>by
   rw[LoI.num] at h
   split at h
   · exact .inl h
   · rcases av.mp h with h | h
     · exact .inl h
     · rw[af.mp h];exact .inr (au _)
 | .two a b,L,y,h=>by
   rw[LoI.num] at h
   split at h
   · exact .inl h
   · rcases av.mp h with h | h
     · rcases LoI.num_mem b _ y h with h | h
       · rcases LoI.num_mem a _ y h with h | h
         · exact .inl h
         · right;simp only[Kd.sz];lia
       · right;simp only[Kd.sz];lia
     · rw[af.mp h];exact .inr (au _)
 | .som r c,L,y,h=>by
   rw[LoI.num] at h
   split at h
   · exact .inl h
   · rcases av.mp h with h | h
     · rcases LoI.num_mem c _ y h with h | h
       · exact .inl h
       · right;simp only[Kd.sz];lia
     · rw[af.mp h];exact .inr (au _)
theorem LoI.num_sub:∀k L,∃l,(LoI.num k L).parts=L.parts++l
 | .nm x,L=>by
   rw[LoI.num]
   split
   · exact⟨[],by simp⟩
   · exact⟨[.nm x],rfl⟩
 | .two a b,L=>by
   obtain⟨l,e⟩:=LoI.num_sub a L;obtain⟨l',e'⟩:=LoI.num_sub b (LoI.num a L);rw[LoI.num]
   split
   · exact⟨[],by simp⟩
   · exact⟨l++l'++[.two a b],by show(LoI.num b (LoI.num a L)).parts++_=_;rw[e',e];simp⟩
 | .som r c,L=>by
   obtain⟨l,e⟩:=LoI.num_sub c L;rw[LoI.num]
   split
   · exact⟨[],by simp⟩
   · exact⟨l++[.som r c],by show(LoI.num c L).parts++_=_;rw[e];simp⟩
def LoI.num_has(k:Kd)(L:LoI):k∈(LoI.num k L).parts:=by
 rw[LoI.num_eq]
 split
 · assumption
 · show k∈_++[k];simp
def LoI.pre_not(h:k∉L.parts):k∉(LoI.pre k L).parts:=fun hm=>by
 cases k with
 | nm x=>exact h hm
 | two a b=>
   rcases LoI.num_mem b _ _ hm with hm | hm
   · rcases LoI.num_mem a _ _ hm with hm | hm
     · exact h hm
     · simp only[Kd.sz] at hm;lia
   · simp only[Kd.sz] at hm;lia
 | som r c=>
   rcases LoI.num_mem c _ _ hm with hm | hm
   · exact h hm
   · simp only[Kd.sz] at hm;lia
def jR{l:List Kd}(h:k∈l):(l++l').idxOf k=l.idxOf k:=by rw[Pe,aH h]
def lE{k:Kd}(h:k∉l):(l++[k]).idxOf k=l.length:=by
 rw[Pe];simp[h]
def E2(H:Hp)(v:V)(e:Nat × Int):Prop:=∃p:Addr,v= .ref p/\H p=some (.tup [.int (e.1:Int),.int e.2])
def E3(H:Hp)(v:V)(e:Nat × Int × Bool):Prop:=∃p:Addr,v= .ref p/\H p=some (.tup [.int (e.1:Int),.int e.2.1,.bl e.2.2])
def ML(H:Hp)(v:V)(e:Str × Int):Prop:=∃p:Addr,v= .ref p/\H p=some (.tup [.str e.1,.int e.2])
def Kz(H:Hp)(v:V)(e:Str × Str × Int):Prop:=∃p:Addr,v= .ref p/\H p=some (.tup [.str e.1,.str e.2.1,.int e.2.2])
def EB(H:Hp)(v:V)(e:Nat × Nat × Bool):Prop:=∃p:Addr,v= .ref p/\H p=some (.tup [.int (e.1:Int),.int (e.2.1:Int),.bl e.2.2])
def MK(H:Hp)(v:V)(e:Str × Nat):Prop:=∃p:Addr,v= .ref p/\H p=some (.tup [.str e.1,.int (e.2:Int)])
def e2_mo:Mo E2:=fun _ _ _ _ t ⟨p,e,h⟩=>⟨p,e,t _ _ h⟩
def e3_mo:Mo E3:=fun _ _ _ _ t ⟨p,e,h⟩=>⟨p,e,t _ _ h⟩
def es2_mo:Mo ML:=fun _ _ _ _ t ⟨p,e,h⟩=>⟨p,e,t _ _ h⟩
def es3_mo:Mo Kz:=fun _ _ _ _ t ⟨p,e,h⟩=>⟨p,e,t _ _ h⟩
def eb_mo:Mo EB:=fun _ _ _ _ t ⟨p,e,h⟩=>⟨p,e,t _ _ h⟩
def esm_mo:Mo MK:=fun _ _ _ _ t ⟨p,e,h⟩=>⟨p,e,t _ _ h⟩
noncomputable def kN{α:Type}(f:Nat->List α):Key->List α
 | .inl i=>if 0<=i then f i.toNat else []
 | .inr _=>[]
noncomputable def kS{α:Type}(f:Str->List α):Key->List α
 | .inl _=>[]
 | .inr r=>f r
noncomputable def uQ{κ α:Type}[DecidableEq κ](f:κ->List α)(n:κ)(x:α):κ->List α:=fun i=>f i++if i=n then [x] else []
def BP(f:Nat->List α)(n:Nat)(x:α):(fun j:Key=>kN f j++if j= .inl (n:Int) then [x] else [])=kN (uQ f n x):=by
 funext j
 cases j with
 | inl i=>
   show(if 0<=i then f i.toNat else [])++_=if 0<=i then f i.toNat++_ else []
   by_cases h:0<=i
   · rw[aH h,aH h]
     congr 1
     by_cases e:i=(n:Int)
     · rw[aH (by rw[e]),aH (by lia)]
     · rw[aE (fun z=>e (by injection z)),aE (by lia)]
   · rw[aE h,aE h,aE (fun z=>by injection z with z;lia)];rfl
 | inr r=>rw[aE (by intro z;cases z)];rfl
def EY(f:Str->List α)(n:Str)(x:α):(fun j:Key=>kS f j++if j= .inr n then [x] else [])=kS (uQ f n x):=by
 funext j
 cases j with
 | inl i=>rw[aE (by intro z;cases z)];rfl
 | inr r=>
   show f r++_=f r++_
   congr 1
   by_cases e:r=n
   · rw[aH (by rw[e]),aH e]
   · rw[aE (fun z=>e (by injection z)),aE e]
noncomputable def KI(l:List Nat):Key->Option V
 | .inl i=>if 0<=i/\i.toNat∈l then some (.bl true) else none
 | .inr _=>none
noncomputable def L1(f:Str->Option Nat):Key->Option V
 | .inl _=>none
 | .inr r=>(f r).map fun(m:Nat)=>V.int (m:Int)
noncomputable def KU(f:Str->Nat->Option Nat):List Key->Option V
 | [.inr r,.inl i]=>if 0<=i then(f r i.toNat).map fun(m:Nat)=>V.int (m:Int) else none
 | _=>none
structure LoA where
 ex:List (Str × V)
 (dx p0 p1 p2 p3 p4 p5 p6 p7 p8 p9 p10 p11 p12:Addr)
noncomputable def mV(A:LoA):List (Str × V):=([("parts",.ref A.p0),("shapes",.ref A.p1),("numbers",.ref A.p2),("known",.ref A.p3),("everys",.ref A.p4),("nos",.ref A.p5),("withins",.ref A.p6),("makes_first",.ref A.p7),("makes_second",.ref A.p8),("boths",.ref A.p9),("somes",.ref A.p10),("fillers",.ref A.p11),("wholes",.ref A.p12)]:List (Str × V))++A.ex
noncomputable def KJ:List (Str × V):=[("anything",.int 0)]
noncomputable def FU:List (Str × V):=[("anything",.int 0),("nothing",.int 1)]
def FNum(H:Hp)(T:Tg)(p:Addr)(ps:List Kd):Prop:=T p=some (2,none)/\∃kvs,H p=some (.dK kvs)/\(∀k,okK k->c_ kvs (.inr (tj k))=if k∈ps then some (.int (ps.idxOf k:Nat)) else none)/\kvs.length<=ps.length
def FNum.fr(f:Fr S T T' H H')(hi:2∉S)(h:FNum H T p ps):FNum H' T' p ps:=by
 obtain⟨t,kvs,e,r⟩:=h;exact⟨f.tg _ _ t,kvs,f.at hi t e,r⟩
structure LoreAt(C:Addr)(A:LoA)(a:Addr)(N:Nat)(T:Tg)(H:Hp)(L:LoI):Prop where
 tg:TgOk T H
 oT:T a=none
 ob:H a=some (.ins C A.dx (mV A))
 f0:FLs Ms H T 0 A.p0 L.parts
 f1:FLs HG H T 1 A.p1 L.shapes
 f2:FNum H T A.p2 L.parts
 f3:FK H T 3 A.p3 (KI L.known) N
 f4:FTb E2 H T 4 A.p4 (kN L.everys) N
 f5:FTb E3 H T 5 A.p5 (kN L.nos) N
 f6:FTb ML H T 6 A.p6 (kS L.withins) N
 f7:FTb Kz H T 7 A.p7 (kS L.mk1) N
 f8:FTb Kz H T 8 A.p8 (kS L.mk2) N
 f9:FTb EB H T 9 A.p9 (kN L.boths) N
 f10:FTb MK H T 10 A.p10 (kN L.somes) N
 f11:FK H T 11 A.p11 (L1 L.fillers) N
 f12:FT H T 12 A.p12 (KU L.wholes) N
 gd:∀k∈L.parts,okK k
 le:L.parts.length<=N
 sl:L.shapes.length=L.parts.length
 xo:A.ex=[]\/A.ex=KJ\/A.ex=FU
structure wD(K:Frag)(C:Addr):Prop where
 c:Cls K C
 n0:NoAttr K C "parts"
 n1:NoAttr K C "shapes"
 n2:NoAttr K C "numbers"
 n3:NoAttr K C "known"
 n4:NoAttr K C "everys"
 n5:NoAttr K C "nos"
 n6:NoAttr K C "withins"
 n7:NoAttr K C "makes_first"
 n8:NoAttr K C "makes_second"
 n9:NoAttr K C "boths"
 n10:NoAttr K C "somes"
 n11:NoAttr K C "fillers"
 n12:NoAttr K C "wholes"
 n13:NoAttr K C "anything"
 n14:NoAttr K C "nothing"
section
variable (A:LoA)
theorem LP:(mV A).lookup ("parts":Str)=some (V.ref A.p0):=rfl
theorem lk1:(mV A).lookup ("shapes":Str)=some (V.ref A.p1):=rfl
theorem lk2:(mV A).lookup ("numbers":Str)=some (V.ref A.p2):=rfl
theorem Oa:(mV A).lookup ("known":Str)=some (V.ref A.p3):=rfl
theorem N_:(mV A).lookup ("everys":Str)=some (V.ref A.p4):=rfl
theorem NB:(mV A).lookup ("nos":Str)=some (V.ref A.p5):=rfl
theorem N9:(mV A).lookup ("withins":Str)=some (V.ref A.p6):=rfl
theorem N8:(mV A).lookup ("makes_first":Str)=some (V.ref A.p7):=rfl
theorem N7:(mV A).lookup ("makes_second":Str)=some (V.ref A.p8):=rfl
theorem NA:(mV A).lookup ("boths":Str)=some (V.ref A.p9):=rfl
theorem LO:(mV A).lookup ("somes":Str)=some (V.ref A.p10):=rfl
theorem JK:(mV A).lookup ("fillers":Str)=some (V.ref A.p11):=rfl
theorem LN:(mV A).lookup ("wholes":Str)=some (V.ref A.p12):=rfl
end
section
variable {C:Addr}{A:LoA}{a:Addr}{N:Nat}{T:Tg}{H:Hp}{L:LoI}(h:LoreAt C A a N T H L)
include h in
theorem LoreAt.lkNo:(mV A).lookup ("number_of":Str)=none:=by
 obtain⟨ex,dx,p0,p1,p2,p3,p4,p5,p6,p7,p8,p9,p10,p11,p12⟩:=A;rcases h.xo with e | e | e<;>(cases e;rfl)
include h in
theorem LoreAt.lkSh:(mV A).lookup ("shape_of":Str)=none:=by
 obtain⟨ex,dx,p0,p1,p2,p3,p4,p5,p6,p7,p8,p9,p10,p11,p12⟩:=A;rcases h.xo with e | e | e<;>(cases e;rfl)
include h in
theorem LoreAt.lkKn:(mV A).lookup ("know":Str)=none:=by
 obtain⟨ex,dx,p0,p1,p2,p3,p4,p5,p6,p7,p8,p9,p10,p11,p12⟩:=A;rcases h.xo with e | e | e<;>(cases e;rfl)
include h in
theorem LoreAt.lkLe:(mV A).lookup ("learn":Str)=none:=by
 obtain⟨ex,dx,p0,p1,p2,p3,p4,p5,p6,p7,p8,p9,p10,p11,p12⟩:=A;rcases h.xo with e | e | e<;>(cases e;rfl)
theorem LM(e:A.ex=FU):(mV A).lookup ("anything":Str)=some (V.int 0):=by
 obtain⟨ex,dx,p0,p1,p2,p3,p4,p5,p6,p7,p8,p9,p10,p11,p12⟩:=A;cases e;rfl
theorem EH(e:A.ex=FU):(mV A).lookup ("nothing":Str)=some (V.int 1):=by
 obtain⟨ex,dx,p0,p1,p2,p3,p4,p5,p6,p7,p8,p9,p10,p11,p12⟩:=A;cases e;rfl
end
inductive u7(C:Addr)(d:Nat)(vs:List V)(H:Hp)(Q:VK):Prop
 | mk:∀a A N T L v k,(vs=[.ref a,v])->(LoreAt C A a N T H L)->(IsK H k v)->(okK k)->(k.nt<=24)->(k.dep<d)->(N+k.sz<=100000)->(∀H' T',Fr [0,1,2] T T' H H'->LoreAt C A a (N+k.sz) T' H' (LoI.num k L)->Q (.int ((LoI.num k L).ix k:Nat)) H')->u7 C d vs H Q
def nB(C:Addr)(d:Nat):Sp:=fun vs H Q _=>u7 C d vs H Q
inductive AR(C:Addr)(d:Nat)(vs:List V)(H:Hp)(Q:VK):Prop
 | mk:∀a A N T L v k,(vs=[.ref a,v])->(LoreAt C A a N T H L)->(IsK H k v)->(okK k)->(k.nt<=24)->(k.dep<d)->(N+k.sz<=100000)->(∀H' T' v',Fr [0,1,2] T T' H H'->LoreAt C A a (N+k.sz - 1) T' H' (LoI.pre k L)->HG H' v' (LoI.shp k L)->Q v' H')->AR C d vs H Q
def HU(C:Addr)(d:Nat):Sp:=fun vs H Q _=>AR C d vs H Q
def LoreAt.mono(h:LoreAt C A a N T H L)(hn:N<=N'):LoreAt C A a N' T H L:=by
 have k:∀{i p f},FK H T i p f N->FK H T i p f N':=fun⟨t,kvs,e,r,l⟩=>⟨t,kvs,e,r,aq l hn⟩;have b:∀{α:Type} {R:Hp->V->α->Prop} {i p f},FTb R H T i p f N->FTb R H T i p f N':=fun⟨t,kvs,e,l,ll,r⟩=>⟨t,kvs,e,aq l hn,fun k=>aq (ll k) hn,r⟩;have f:∀{i p f},FT H T i p f N->FT H T i p f N':=fun⟨t,kvs,e,r,l⟩=>⟨t,kvs,e,r,aq l hn⟩;exact⟨h.tg,h.oT,h.ob,h.f0,h.f1,h.f2,k h.f3,b h.f4,b h.f5,b h.f6,b h.f7,b h.f8,b h.f9,b h.f10,k h.f11,f h.f12,h.gd,aq h.le hn,h.sl,h.xo⟩
def LoreAt.fr(h:LoreAt C A a N T H L)(f:Fr S T T' H H')(hS:∀i∈S,13<=i)(tg:TgOk T' H'):LoreAt C A a N T' H' L:=by
 have n:∀{i},i<13->i∉S:=fun hi z=>by have:=hS _ z;lia
 have oT':T' a=none:=by
  cases e:T' a with
  | none=>rfl
  | some j=>
    rcases f.new a j e with z | z
    · rw[h.oT] at z;cases z
    · rw[h.ob] at z;cases z.1
 exact⟨tg,oT',f.but a _ h.ob (fun i k z=>by rw[h.oT] at z;cases z),h.f0.fr r_ f (n (by decide)),h.f1.fr pN f (n (by decide)),h.f2.fr f (n (by decide)),h.f3.fr f (n (by decide)),h.f4.fr e2_mo f (n (by decide)),h.f5.fr e3_mo f (n (by decide)),h.f6.fr es2_mo f (n (by decide)),h.f7.fr es3_mo f (n (by decide)),h.f8.fr es3_mo f (n (by decide)),h.f9.fr eb_mo f (n (by decide)),h.f10.fr esm_mo f (n (by decide)),h.f11.fr f (n (by decide)),h.f12.fr f (n (by decide)),h.gd,h.le,h.sl,h.xo⟩
def LoreAt.same(h:LoreAt C A a N T H L)(s:Same H H'):LoreAt C A a N T H' L:=h.fr (S:=[]) (Fr.of s) (fun i z=>(ak z).elim) (h.tg.same s)
def LoreAt.addp(h:LoreAt C A a N T H L)(ik:IsK H k v)(ok:okK k)(is:HG H v' s)(hk:k∉L.parts)(e2:H A.p2=some (.dK kvs))(e0:H A.p0=some (.lst ps))(e1:H A.p1=some (.lst ss))(H':Hp)(hH:H'=upd (upd (upd H A.p2 (.dK (bV kvs (.inr (tj k)) (.int (L.parts.length:Nat))))) A.p0 (.lst (ps++[v]))) A.p1 (.lst (ss++[v']))):Fr [0,1,2] T T H H'/\LoreAt C A a (N+1) T H' (L.add k s):=by
 subst hH;obtain⟨t2,kvs',e2',r2,l2⟩:=h.f2;rw[e2] at e2';cases e2';have g2:Fr [2] T T H (upd H A.p2 (.dK (bV kvs (.inr (tj k)) (.int (L.parts.length:Nat))))):=Fr.put t2 (by simp) (fun xs z=>by rw[e2] at z;cases z);have d02:A.p0≠A.p2:=fun z=>by rw[z,e2] at e0;cases e0
 have d12:A.p1≠A.p2:=fun z=>by rw[z,e2] at e1;cases e1
 have d10:A.p1≠A.p0:=fun z=>by have a1:=h.f1.1;rw[z,h.f0.1] at a1;cases a1
 obtain⟨f0,g0⟩:=(h.f0.fr r_ g2 (by decide)).app (vs:=ps) (v:=v) (x:=k) r_ (by rw[aD d02];exact e0) (IsK.mono g2.tups ik);have g20:=(g2.mono (S':=[0,1,2]) (by simp)).trans (g0.mono (S':=[0,1,2]) (by simp));obtain⟨f1,g1⟩:=((h.f1.fr pN g2 (by decide)).fr pN g0 (by decide)).app (vs:=ss) (v:=v') (x:=s) pN (by rw[aD d10,aD d12];exact e1) (pN _ _ _ _ g20.tups is);have g:=g20.trans (g1.mono (S':=[0,1,2]) (by simp));have n:∀{i},3<=i->i∉[0,1,2]:=fun hi z=>by simp at z;lia
 have h':=h.mono (bA N);refine⟨g,⟨((h.tg.put).put).put,h.oT,g.but a _ h.ob (fun i k z=>by rw[h.oT] at z;cases z),f0.fr r_ g1 (by decide),f1,?_,h'.f3.fr g (n (by decide)),h'.f4.fr e2_mo g (n (by decide)),h'.f5.fr e3_mo g (n (by decide)),h'.f6.fr es2_mo g (n (by decide)),h'.f7.fr es3_mo g (n (by decide)),h'.f8.fr es3_mo g (n (by decide)),h'.f9.fr eb_mo g (n (by decide)),h'.f10.fr esm_mo g (n (by decide)),h'.f11.fr g (n (by decide)),h'.f12.fr g (n (by decide)),?_,?_,?_,h.xo⟩⟩
 · refine⟨t2,bV kvs (.inr (tj k)) (.int (L.parts.length:Nat)),?_,fun y oy=> ?_,?_⟩
   · rw[aD (bI d12),aD (bI d02),aa]
   · rw[fV];show _=if y∈L.parts++[k] then some (V.int ((L.parts++[k]).idxOf y:Nat)) else none
     by_cases e:y=k
     · subst e;rw[aH rfl,aH (by simp),lE hk]
     · rw[aE (fun z=>e (FY oy ok (by injection z))),r2 y oy];by_cases m:y∈L.parts
       · rw[aH m,aH (by simp[m]),jR m]
       · rw[aE m,aE (by simp[m,e])]
   · show _<=(L.parts++[k]).length;rw[ag];exact aq (dO _ _ _) (hG l2)
 · intro y hy;rcases av.mp hy with hy | hy
   · exact h.gd y hy
   · rw[af.mp hy];exact ok
 · show(L.parts++[k]).length<=N+1;rw[ag];exact hG h.le
 · show(L.shapes++[s]).length=(L.parts++[k]).length;rw[ag,ag,h.sl];rfl
section
def Li:bq fH fH (aK k_):=gU
def Jw(F:Fun K "shape_of" "Lore.shape_of" k_ f fd)(lc:wD K C)(mi:mg "isinstance"=none)(ms:mg "str"=none)(Gno:Ml P w K mg base C (2 * d) "number_of" fH (nB C d)):b_ P w K mg base fj (2 * d+1) f fd fH (HU C (d+1)):=by
 refine F.o Li fun cdv A outer s H vs Q E hr h=> ?_;obtain⟨a,B,N,T,L,v,k,rfl,la,ik,ok,hnt,hd,hN,q⟩:=h;refine⟨_,a_ (bu (eX (xK mi ms cm bp)) (bb (cE dN)) aX) (a_ (bu (dC bN (di bp) aJ) (bb (cE (cq (gD aJ (iw aB lc.c Gno hr (eF (di bp))) (iw aB lc.c Gno hr (eF (di bp))))))) aX) (bb (cE (cq (gD aJ (di bp) (iw aB lc.c Gno hr (eF (di bp)))))))),?_⟩;cases k with
 | nm x=>
   obtain rfl:v= .str x:=ik;exact⟨_,_,_,true,rfl,TyOf.str x,d6 K,(q H T .non Fr.refl (la.mono (by simp[Kd.sz])) rfl)⟩
 | two a' b'=>
   obtain⟨p,x,y,rfl,hp,ha,hb⟩:=id ik;simp only[Kd.nt,Kd.dep] at hnt hd;have hz:(Kd.two a' b').sz=1+a'.sz+b'.sz:=rfl;refine⟨_,_,_,false,rfl,TyOf.tup hp,dm K,⟨_,_,SqT.of hp,aR (j:=0) rfl,?_⟩⟩;refine⟨_,_,la.ob,la.lkNo,_,_,SqT.of hp,aR (j:=1) rfl,a,B,N,T,L,x,a',rfl,la,ha,ok.1,by lia,by lia,by lia,fun H1 T1 f1 l1=> ?_⟩;have hp1:=f1.tups _ _ hp;refine⟨_,_,l1.ob,l1.lkNo,_,_,SqT.of hp1,aR (j:=2) rfl,a,B,_,T1,_,y,b',rfl,l1,IsK.mono f1.tups hb,ok.2,by lia,by lia,by lia,fun H2 T2 f2 l2=>⟨by show 3<=sizeLine;decide,fun t ht=>q _ T2 _ ((f1.trans f2).trans (Fr.of (ah ht _))) ((l2.same (ah ht _)).mono (by lia)) ⟨t,rfl,aa⟩⟩⟩
 | som r c=>
   obtain⟨p,y,rfl,hp,hc⟩:=id ik;simp only[Kd.nt,Kd.dep] at hnt hd;have hz:(Kd.som r c).sz=1+c.sz:=rfl;refine⟨_,_,_,false,rfl,TyOf.tup hp,dm K,⟨_,_,SqT.of hp,aR (j:=0) rfl,?_⟩⟩;refine⟨_,_,SqT.of hp,aR (j:=1) rfl,_,_,la.ob,la.lkNo,_,_,SqT.of hp,aR (j:=2) rfl,a,B,N,T,L,y,c,rfl,la,hc,ok.2,by lia,by lia,by lia,fun H1 T1 f1 l1=>⟨by show 3<=sizeLine;decide,fun t ht=>q _ T1 _ (f1.trans (Fr.of (ah ht _))) ((l1.same (ah ht _)).mono (by lia)) ⟨t,rfl,aa⟩⟩⟩
def scNum:bq ["self","x","text","shape"] fH (aK jK):=gU
def Jy(F:Fun K "number_of" "Lore.number_of" jK f fd)(lc:wD K C)(ml:mg "len"=none)(Gsh:Ml P w K mg base C (2 * d+1) "shape_of" fH (HU C (d+1)))(Gsk:Cl P w K mg base (d+1) "show_kind" iu (mm (d+1))):b_ P w K mg base fj (2 * (d+1)) f fd fH (nB C (d+1)):=by
 refine F.o scNum fun cdv A outer s H vs Q E hr h=> ?_;obtain⟨a,B,N,T,L,v,k,rfl,la,ik,ok,hnt,hd,hN,q⟩:=h;have hu:=gA hr;refine⟨_,a_ (fe 2 scNum.nd (eB Gsk hr (eF bp)))
  (a_ (bu (dC (iN hu) bF (du aB)) (a_ (fe 3 scNum.nd (iw aB lc.c Gsh hr (eF bp))) (a_ (dW hu (du aB) bF (oj ml (du aB)) rfl) (a_ (bg (xO (du aB) bp)) (bb (bg (xO (du aB) bU)))))) aX)
  (bb (cE (Df hu (du aB) bF)))),?_⟩
 refine⟨v,k,rfl,ik,ok,hnt,hd,?_⟩;obtain⟨t2,kvs,e2,r2,l2⟩:=la.f2;refine⟨C,_,_,_,la.ob,lc.c,lc.n2,lk2 B,B.p2,_,rfl,DGet.k (k:= .inr (tj k)) e2,?_⟩;rw[r2 k ok];by_cases hk:k∈L.parts
 · rw[aH hk];refine⟨C,_,_,_,la.ob,lc.c,lc.n2,lk2 B,_,.inl ⟨kvs,.inr (tj k),.inl e2,rfl,by rw[r2 k ok,aH hk]⟩,?_⟩;have q0:=q H T Fr.refl;rw[LoI.num_in hk] at q0;exact q0 (la.mono (cR _ _))
 · rw[aE hk];refine⟨_,_,la.ob,la.lkSh,a,B,N,T,L,v,k,rfl,la,ik,ok,hnt,hd,hN,fun H1 T1 v1 f1 l1 is1=> ?_⟩;obtain⟨t0,ps,e0,r0⟩:=l1.f0;obtain⟨t1,ss,e1,r1⟩:=l1.f1;obtain⟨t2',kvs1,e21,r21,l21⟩:=l1.f2;have pl:ps.length=(LoI.pre k L).parts.length:=aS r0;have sl:ss.length=(LoI.pre k L).parts.length:=(aS r1).trans l1.sl;have le1:=l1.le;have hz:1<=k.sz:=by cases k<;>simp only[Kd.sz]<;>lia
   have small:(LoI.pre k L).parts.length<sizeLine:=bz (show _<=100000 by lia) (by decide);have d02:B.p0≠B.p2:=fun z=>by rw[z,e21] at e0;cases e0
   have d12:B.p1≠B.p2:=fun z=>by rw[z,e21] at e1;cases e1
   have d10:B.p1≠B.p0:=fun z=>by rw[z,t0] at t1;cases t1
   obtain⟨g,lN⟩:=l1.addp (IsK.mono f1.tups ik) ok is1 (LoI.pre_not hk) e21 e0 e1 _ rfl;have nd2:∀{o:HO},B.p2≠a:=fun {o} z=>by rw[z,l1.ob] at e21;cases e21
   have nd0:B.p0≠a:=fun z=>by rw[z,l1.ob] at e0;cases e0
   refine⟨C,_,_,_,l1.ob,lc.c,lc.n0,LP B,B.p0,ps,rfl,.inl (SqL.of e0),C,_,_,_,l1.ob,lc.c,lc.n2,lk2 B,_,DPut.k (k:= .inr (tj k)) e21 (bz l21 small),?_⟩;rw[pl];have ob1:∀{o:HO},upd H1 B.p2 o a=some (.ins C B.dx (mV B)):=fun {o}=>by rw[aD (bI (nd2 (o:=o)))];exact l1.ob
   have e01:∀{o:HO},upd H1 B.p2 o B.p0=some (.lst ps):=fun {o}=>by rw[aD d02];exact e0
   refine⟨C,_,_,_,ob1,lc.c,lc.n0,LP B,.inl ⟨rfl,_,SqL.of e01⟩,ps,e01,by rw[pl];exact small,?_⟩;have ob2:∀{o o':HO},upd (upd H1 B.p2 o) B.p0 o' a=some (.ins C B.dx (mV B)):=fun {o o'}=>by rw[aD (bI nd0)];exact ob1
   have e11:∀{o o':HO},upd (upd H1 B.p2 o) B.p0 o' B.p1=some (.lst ss):=fun {o o'}=>by rw[aD d10,aD d12];exact e1
   refine⟨C,_,_,_,ob2,lc.c,lc.n1,lk1 B,.inl ⟨rfl,_,SqL.of e11⟩,ss,e11,by rw[sl];exact small,?_⟩;obtain⟨t3,kvs3,e3,r3,l3⟩:=lN.f2;have hin:k∈((LoI.pre k L).add k (LoI.shp k L)).parts:=by show k∈_++[k];simp
   refine⟨C,_,_,_,lN.ob,lc.c,lc.n2,lk2 B,_,.inl ⟨kvs3,.inr (tj k),.inl e3,rfl,by rw[r3 k ok,aH hin]⟩,?_⟩;have q0:=q _ T1 (f1.trans g);rw[LoI.num_eq,aE hk] at q0;exact q0 (lN.mono (by lia))
end
section
def Et:b_ P w K mg base fj (2 * 0) f fd fH (nB C 0):=by
 have no:∀vs H Q E,¬ nB C 0 vs H Q E:=fun vs H Q E h=>by
  obtain⟨a,A,N,T,L,v,k,_,_,_,_,_,h,_⟩:=h
  lia
 exact⟨fun vs H Q E h=>absurd h (no vs H Q E),fun A outer s H args us vs Q E _ _ _ _ h=>absurd h (no vs H Q E)⟩
theorem BK(A:Mq K C "number_of" "Lore.number_of" jK fH)(A':Mq K C "shape_of" "Lore.shape_of" k_ fH)(lc:wD K C)(ml:mg "len"=none)(mi:mg "isinstance"=none)(ms:mg "str"=none)(Gsk:∀n,Cl P w K mg base n "show_kind" iu (mm n)):∀d:Nat,Ml P w K mg base C (2 * d) "number_of" fH (nB C d)
 | 0=>A.ml fun _=>Et
 | d+1=>A.ml fun F=>Jy F lc ml (A'.ml fun F'=>Jw F' lc mi ms (BK A A' lc ml mi ms Gsk d)) (Gsk (d+1))
end
def LoI.ok1(L:LoI):Kd->Prop
 | .nm x=>L.shapes[L.ix (.nm x)]? =some .no
 | .two a b=>a∈L.parts/\b∈L.parts/\L.shapes[L.ix (.two a b)]? =some (.both (L.ix a) (L.ix b))
 | .som r c=>c∈L.parts/\L.shapes[L.ix (.som r c)]? =some (.some r (L.ix c))
def Sh.lt(n:Nat):Sh->Prop
 | .no=>True
 | .both i j=>i<n/\j<n
 | .some _ j=>j<n
def Sh.lt_mono{n m:Nat}(h:n<=m){s:Sh}(l:s.lt n):s.lt m:=by
 cases s with
 | no=>trivial
 | both i j=>exact⟨ax l.1 h,ax l.2 h⟩
 | some r j=>exact ax (show j<n from l) h
structure LoI.Ok(L:LoI):Prop where
 sl:L.shapes.length=L.parts.length
 sh:∀k∈L.parts,L.ok1 k
 lt:∀(i:Nat) (s:Sh),L.shapes[i]? =some s->s.lt L.parts.length
 nd:L.parts.Nodup
def LoI.ix_lt{L:LoI}(h:k∈L.parts):L.ix k<L.parts.length:=kY h
def LoI.add_ok{L:LoI}(o:L.Ok)(hk:k∉L.parts)(hs:(L.add k s).ok1 k)(hl:s.lt (L.parts.length+1)):(L.add k s).Ok:=by
 refine⟨by show(L.shapes++[s]).length=(L.parts++[k]).length;rw[ag,ag,o.sl];rfl,fun y hy=> ?_,fun i q e=> ?_,?_⟩
 case refine_2=>
  have pl:(L.add k s).parts.length=L.parts.length+1:=by show(L.parts++[k]).length=_;rw[ag];rfl
  rw[pl];have e':(L.shapes++[s])[i]? =some q:=e;rcases eR i L.shapes.length with c | c
  · rw[bM c] at e';exact Sh.lt_mono (bA _) (o.lt i q e')
  · rw[cy c] at e';have:q∈[s]:=ar e';rw[af.mp this];exact hl
 case refine_3=>
  show(L.parts++[k]).Nodup;rw[mZ];exact⟨o.nd,by simp,fun x hx y hy=>by rw[show y=k by simpa using hy];exact fun z=>hk (by rw[<-z];exact hx)⟩
 rcases av.mp hy with h | h
 · have ix:∀{z},z∈L.parts->(L.add k s).ix z=L.ix z:=fun hz=>jR hz;have gt:∀{z},z∈L.parts->∀t,L.shapes[L.ix z]? =some t->(L.add k s).shapes[(L.add k s).ix z]? =some t:=fun hz t e=>by
    rw[ix hz];show(L.shapes++[s])[_]? =_;rw[bM (by rw[o.sl];exact LoI.ix_lt hz)];exact e
   have old:=o.sh y h;have mem:∀{z},z∈L.parts->z∈(L.add k s).parts:=fun hz=>aP _ hz;cases y with
   | nm x=>exact gt h _ old
   | two a b=>exact⟨mem old.1,mem old.2.1,by rw[ix old.1,ix old.2.1];exact gt h _ old.2.2⟩
   | som r c=>exact⟨mem old.1,by rw[ix old.1];exact gt h _ old.2⟩
 · rw[af.mp h];exact hs
theorem LoI.num_ok:∀(k:Kd) {L:LoI},L.Ok->(LoI.num k L).Ok
 | .nm x,L,o=>by
   rw[LoI.num]
   split
   · exact o
   · rename_i h;refine LoI.add_ok o h ?_ trivial;show(L.shapes++[Sh.no])[(L.parts++[Kd.nm x]).idxOf (.nm x)]? =_;rw[lE h,<-o.sl];simp
 | .two a b,L,o=>by
   have o2:=LoI.num_ok b (LoI.num_ok a o);rw[LoI.num]
   split
   · exact o
   · rename_i h;have hn:Kd.two a b∉(LoI.num b (LoI.num a L)).parts:=LoI.pre_not (k:= .two a b) h;obtain⟨l,e⟩:=LoI.num_sub b (LoI.num a L);have ha:a∈(LoI.num b (LoI.num a L)).parts:=by rw[e];exact aP _ (LoI.num_has a L)
     have hb:=LoI.num_has b (LoI.num a L);have ia:(LoI.num b (LoI.num a L)).ix a=(LoI.num a L).ix a:=by unfold LoI.ix;rw[e,jR (LoI.num_has a L)]
     refine LoI.add_ok o2 hn ⟨aP _ ha,aP _ hb,?_⟩ ⟨by rw[<-ia];exact dg (LoI.ix_lt ha),dg (LoI.ix_lt hb)⟩;show((LoI.num b (LoI.num a L)).shapes++[_])[((LoI.num b (LoI.num a L)).parts++[Kd.two a b]).idxOf (.two a b)]? =some (.both (((LoI.num b (LoI.num a L)).parts++[_]).idxOf a) (((LoI.num b (LoI.num a L)).parts++[_]).idxOf b));rw[lE hn,jR ha,jR hb,<-o2.sl,<-ia];simp[LoI.ix]
 | .som r c,L,o=>by
   have o2:=LoI.num_ok c o;rw[LoI.num]
   split
   · exact o
   · rename_i h;have hn:Kd.som r c∉(LoI.num c L).parts:=LoI.pre_not (k:= .som r c) h;have hc:=LoI.num_has c L;refine LoI.add_ok o2 hn ⟨aP _ hc,?_⟩ (dg (LoI.ix_lt hc));show((LoI.num c L).shapes++[_])[((LoI.num c L).parts++[Kd.som r c]).idxOf (.som r c)]? =some (.some r (((LoI.num c L).parts++[_]).idxOf c));rw[lE hn,jR hc,<-o2.sl];simp[LoI.ix]
noncomputable def zd{κ α:Type}[DecidableEq κ](f:κ->Option α)(n:κ)(x:α):κ->Option α:=fun i=>if i=n then some x else f i
noncomputable def vi(f:Str->Nat->Option Nat)(r:Str)(n x:Nat):Str->Nat->Option Nat:=fun s i=>if s=r/\i=n then some x else f s i
noncomputable def LoI.kn(L:LoI)(i:Nat):LoI:={L with known:=L.known++[i]}
noncomputable def LoI.bo(L:LoI)(i j k:Nat):LoI:={L with boths:=uQ (uQ L.boths i (j,k,true)) j (i,k,false)}
noncomputable def LoI.so(L:LoI)(r:Str)(j k:Nat):LoI:={L with somes:=uQ L.somes j (r,k),fillers:=zd L.fillers r ((L.fillers r).getD 0 ||| 2^j),wholes:=vi L.wholes r j k}
noncomputable def LoI.know:Kd->LoI->LoI
 | .nm x,L=>if L.ix (.nm x)∈L.known then L else L.kn (L.ix (.nm x))
 | .two a b,L=>if L.ix (.two a b)∈L.known then L else know b ((know a (L.kn (L.ix (.two a b)))).bo (L.ix a) (L.ix b) (L.ix (.two a b)))
 | .som r c,L=>if L.ix (.som r c)∈L.known then L else know c ((L.kn (L.ix (.som r c))).so r (L.ix c) (L.ix (.som r c)))
theorem LoI.know_rest:∀k L,(LoI.know k L).parts=L.parts/\(LoI.know k L).shapes=L.shapes
 | .nm x,L=>by rw[LoI.know];split<;>exact⟨rfl,rfl⟩
 | .two a b,L=>by
   rw[LoI.know]
   split
   · exact⟨rfl,rfl⟩
   · obtain⟨h1,h2⟩:=LoI.know_rest b ((LoI.know a (L.kn (L.ix (.two a b)))).bo (L.ix a) (L.ix b) (L.ix (.two a b)));obtain⟨h3,h4⟩:=LoI.know_rest a (L.kn (L.ix (.two a b)));exact⟨h1.trans h3,h2.trans h4⟩
 | .som r c,L=>by
   rw[LoI.know]
   split
   · exact⟨rfl,rfl⟩
   · exact LoI.know_rest c _
def LoI.Ok.of{L L':LoI}(o:L.Ok)(h1:L'.parts=L.parts)(h2:L'.shapes=L.shapes):L'.Ok:=by
 have ix:∀z,L'.ix z=L.ix z:=fun z=>by unfold LoI.ix;rw[h1]
 refine⟨by rw[h1,h2];exact o.sl,fun k hk=> ?_,fun i s e=>by rw[h1];exact o.lt i s (by rw[<-h2];exact e),by rw[h1];exact o.nd⟩;rw[h1] at hk;have old:=o.sh k hk;cases k with
 | nm x=>show L'.shapes[_]? =_;rw[h2,ix];exact old
 | two a b=>exact⟨h1 ▸ old.1,h1 ▸ old.2.1,by rw[h2,ix,ix,ix];exact old.2.2⟩
 | som r c=>exact⟨h1 ▸ old.1,by rw[h2,ix,ix];exact old.2⟩
def hV{α:Type}{R:Hp->V->α->Prop}(m:Mo R){H:Hp}{T:Tg}{i:Nat}{p:Addr}{g:Key->List α}{n:Nat}{key:Key}{v:V}{x:α}{Q:VK}(tg:TgOk T H)(h:FTb R H T i p g n)(hn:n<=5000000)(r:R H v x)(q:∀H' T',Fr [i] T T' H H'->TgOk T' H'->FTb R H' T' i p (fun j=>g j++if j=key then [x] else []) (n+1)->Q .non H'):y_ [.ref p,kV key,v] H Q:=by
 obtain⟨t,kvs,e,l,ll,rs⟩:=id h;refine⟨p,key,v,kvs,rfl,e,bz (aq l hn) (by decide),?_⟩;rcases rs key with⟨z,_⟩ | ⟨q0,vs,z1,z2,z3,z4⟩
 · refine .inl ⟨z,fun q0 hq H' hH=> ?_⟩;obtain⟨n1,n2,n3⟩:=FTb.new m tg h e z hq r H' hH;exact q H' _ n2 n3 n1
 · refine .inr ⟨q0,vs,z1,z3,by rw[aS z4];exact bz (aq (ll key) hn) (by decide),fun g0 hg H' hH=> ?_⟩;subst hH;have s:=ah hg (.lst []);have h1:=h.fr m (Fr.of (S:=[]) s) (ak);obtain⟨n1,n2⟩:=FTb.app m h1 (s _ _ e) z1 (s _ _ z3) (m _ _ _ _ s.tups r);exact q _ T ((Fr.of s).trans n2) ((tg.same s).put) n1
def LoreAt.renew{C:Addr}{A:LoA}{a:Addr}{N N':Nat}{S:List Nat}{T T':Tg}{H H':Hp}{L L':LoI}(h:LoreAt C A a N T H L)(hN:N<=N')(f:Fr S T T' H H')(tg:TgOk T' H')(hp:L'.parts=L.parts)(hs:L'.shapes=L.shapes)(n2:∀i∈S,3<=i)(c3:FK H' T' 3 A.p3 (KI L'.known) N'\/(3∉S/\L'.known=L.known):=by exact .inr ⟨by decide,rfl⟩)(c4:FTb E2 H' T' 4 A.p4 (kN L'.everys) N'\/(4∉S/\L'.everys=L.everys):=by exact .inr ⟨by decide,rfl⟩)(c5:FTb E3 H' T' 5 A.p5 (kN L'.nos) N'\/(5∉S/\L'.nos=L.nos):=by exact .inr ⟨by decide,rfl⟩)(c6:FTb ML H' T' 6 A.p6 (kS L'.withins) N'\/(6∉S/\L'.withins=L.withins):=by exact .inr ⟨by decide,rfl⟩)(c7:FTb Kz H' T' 7 A.p7 (kS L'.mk1) N'\/(7∉S/\L'.mk1=L.mk1):=by exact .inr ⟨by decide,rfl⟩)(c8:FTb Kz H' T' 8 A.p8 (kS L'.mk2) N'\/(8∉S/\L'.mk2=L.mk2):=by exact .inr ⟨by decide,rfl⟩)(c9:FTb EB H' T' 9 A.p9 (kN L'.boths) N'\/(9∉S/\L'.boths=L.boths):=by exact .inr ⟨by decide,rfl⟩)(c10:FTb MK H' T' 10 A.p10 (kN L'.somes) N'\/(10∉S/\L'.somes=L.somes):=by exact .inr ⟨by decide,rfl⟩)(c11:FK H' T' 11 A.p11 (L1 L'.fillers) N'\/(11∉S/\L'.fillers=L.fillers):=by exact .inr ⟨by decide,rfl⟩)(c12:FT H' T' 12 A.p12 (KU L'.wholes) N'\/(12∉S/\L'.wholes=L.wholes):=by exact .inr ⟨by decide,rfl⟩):LoreAt C A a N' T' H' L':=by
 have h':=h.mono hN;have n:∀{i},i<3->i∉S:=fun hi z=>by have:=n2 _ z;lia
 have oT':T' a=none:=by
  cases e:T' a with
  | none=>rfl
  | some j=>
    rcases f.new a j e with z | z
    · rw[h.oT] at z;cases z
    · rw[h.ob] at z;cases z.1
 refine⟨tg,oT',f.but a _ h.ob (fun i k z=>by rw[h.oT] at z;cases z),by rw[hp];exact h'.f0.fr r_ f (n (by decide)),by rw[hs];exact h'.f1.fr pN f (n (by decide)),by rw[hp];exact h'.f2.fr f (n (by decide)),?_,?_,?_,?_,?_,?_,?_,?_,?_,?_,by rw[hp];exact h'.gd,by rw[hp];exact h'.le,by rw[hp,hs];exact h'.sl,h'.xo⟩
 · rcases c3 with c | ⟨c,e⟩;exact c;rw[e];exact h'.f3.fr f c
 · rcases c4 with c | ⟨c,e⟩;exact c;rw[e];exact h'.f4.fr e2_mo f c
 · rcases c5 with c | ⟨c,e⟩;exact c;rw[e];exact h'.f5.fr e3_mo f c
 · rcases c6 with c | ⟨c,e⟩;exact c;rw[e];exact h'.f6.fr es2_mo f c
 · rcases c7 with c | ⟨c,e⟩;exact c;rw[e];exact h'.f7.fr es3_mo f c
 · rcases c8 with c | ⟨c,e⟩;exact c;rw[e];exact h'.f8.fr es3_mo f c
 · rcases c9 with c | ⟨c,e⟩;exact c;rw[e];exact h'.f9.fr eb_mo f c
 · rcases c10 with c | ⟨c,e⟩;exact c;rw[e];exact h'.f10.fr esm_mo f c
 · rcases c11 with c | ⟨c,e⟩;exact c;rw[e];exact h'.f11.fr f c
 · rcases c12 with c | ⟨c,e⟩;exact c;rw[e];exact h'.f12.fr f c
def BN(l:List Nat)(i:Nat):(fun j:Key=>if j= .inl (i:Int) then some (V.bl true) else KI l j)=KI (l++[i]):=by
 funext j
 cases j with
 | inl n=>
   show _=if 0<=n/\n.toNat∈l++[i] then some (V.bl true) else none
   by_cases e:n=(i:Int)
   · rw[aH (by rw[e]),aH (by refine⟨by lia,?_⟩;rw[e];simp)]
   · rw[aE (fun z=>e (by injection z))];show(if 0<=n/\n.toNat∈l then some (V.bl true) else none)=_;by_cases c:0<=n/\n.toNat∈l
     · rw[aH c,aH ⟨c.1,aP _ c.2⟩]
     · rw[aE c,aE (fun z=>c ⟨z.1,(av.mp z.2).resolve_right fun y=>by have:=af.mp y;lia⟩)]
 | inr r=>rw[aE (by intro z;cases z)];rfl
def Ho(f:Str->Option Nat)(r:Str)(m:Nat):(fun j:Key=>if j= .inr r then some (V.int (m:Int)) else L1 f j)=L1 (zd f r m):=by
 funext j
 cases j with
 | inl n=>rw[aE (by intro z;cases z)];rfl
 | inr s=>
   show _=(zd f r m s).map _;unfold zd;by_cases e:s=r
   · rw[aH (by rw[e]),aH e];rfl
   · rw[aE (fun z=>e (by injection z)),aE e];rfl
def F1(f:Str->Nat->Option Nat)(r:Str)(n m:Nat):(fun j:List Key=>if j=[.inr r,.inl (n:Int)] then some (V.int (m:Int)) else KU f j)=KU (vi f r n m):=by
 funext j
 by_cases e:j=[.inr r,.inl (n:Int)]
 · subst e;rw[aH rfl];show _=if 0<=(n:Int) then _ else none
   rw[aH (show 0<=(n:Int) by lia)];unfold vi;have c:r=r/\(n:Int).toNat=n:=⟨rfl,by lia⟩;rw[aH c]
   rfl
 · rw[aE e]
   match j,e with
   | [.inr s,.inl i],e=>
     show(if 0<=i then _ else none)=if 0<=i then _ else none
     by_cases c:0<=i
     · rw[aH c,aH c];unfold vi;rw[aE (fun z=>e (by rw[z.1,<-z.2,Oo c]))]
     · rw[aE c,aE c]
   | [],_=>rfl
   | [.inl _],_=>rfl
   | [.inr _],_=>rfl
   | [.inl _,_],_=>rfl
   | [.inr _,.inr _],_=>rfl
   | x::y::z::w,_=>cases x<;>cases y<;>rfl
inductive xg(C:Addr)(d:Nat)(vs:List V)(H:Hp)(Q:VK):Prop
 | mk:∀a A N T L k,(vs=[.ref a,.int (L.ix k:Nat)])->(LoreAt C A a N T H L)->(L.Ok)->(k∈L.parts)->(k.dep<d)->(N+4 * k.sz<=100000)->(∀H' T',Fr [3,9,10,11,12] T T' H H'->LoreAt C A a (N+4 * k.sz) T' H' (LoI.know k L)->Q .non H')->xg C d vs H Q
def mv(C:Addr)(d:Nat):Sp:=fun vs H Q _=>xg C d vs H Q
theorem qc:∀{l:List α} {k:List β} {i:Nat} {y:β},Paired R l k->k[i]? =some y->∃x,l[i]? =some x/\R x y
 | _,_,0,_,.cons r _,e=>⟨_,rfl,by simp at e;subst e;exact r⟩
 | _,_,i+1,_,.cons _ t,e=>by
   obtain⟨x,h1,h2⟩:=qc (i:=i) t (by simpa using e);exact⟨x,by simpa using h1,h2⟩
 | _,_,_,_,.nil,e=>by simp at e
def Js(m j:Nat):Builtin.bitOr (m:Int) (1 * 2^((j:Int).toNat))=((m ||| 2^j:Nat):Int):=by
 rw[<-Ic]
 congr 1
 rw[Int.one_mul,bW];simp
def KF{m j:Nat}(q:Q (.int ((m ||| 2^j:Nat):Int)) H):zG (fun i j=>V.int (Builtin.bitOr i j)) (.int (m:Int)) (.int (1 * 2^((j:Int).toNat))) H Q:=by
 show Q (.int (Builtin.bitOr (m:Int) (1 * 2^((j:Int).toNat)))) H;rw[Js];exact q
def LoI.know_in(h:L.ix k∈L.known):LoI.know k L=L:=by
 cases k<;>(rw[LoI.know];exact aH h)
def LoreAt.nt9{i:Nat}(h:LoreAt C A a N T H L)(f:Fr [9] T T' H H')(tg:TgOk T' H')(n:FTb EB H' T' 9 A.p9 (fun j=>kN L.boths j++if j= .inl (i:Int) then [e] else []) (N+1)):LoreAt C A a (N+1) T' H' {L with boths:=uQ L.boths i e}:=by
 rw[BP] at n;exact h.renew (bA N) f tg rfl rfl (by simp) (c9:= .inl n)
def LoreAt.nt10{i:Nat}(h:LoreAt C A a N T H L)(f:Fr [10] T T' H H')(tg:TgOk T' H')(n:FTb MK H' T' 10 A.p10 (fun j=>kN L.somes j++if j= .inl (i:Int) then [e] else []) (N+1)):LoreAt C A a (N+1) T' H' {L with somes:=uQ L.somes i e}:=by
 rw[BP] at n;exact h.renew (bA N) f tg rfl rfl (by simp) (c10:= .inl n)
def LoreAt.put3{i:Nat}(h:LoreAt C A a N T H L)(e:H A.p3=some (.dK kvs)):Fr [3] T T H (upd H A.p3 (.dK (bV kvs (.inl (i:Int)) (.bl true))))/\LoreAt C A a (N+1) T (upd H A.p3 (.dK (bV kvs (.inl (i:Int)) (.bl true)))) (L.kn i):=by
 obtain⟨n,f⟩:=h.f3.put (k:= .inl (i:Int)) (v:= .bl true) e;rw[BN] at n;exact⟨f,h.renew (bA N) f h.tg.put rfl rfl (by simp) (c3:= .inl n)⟩
def LoreAt.put11{m:Nat}(h:LoreAt C A a N T H L)(e:H A.p11=some (.dK kvs)):Fr [11] T T H (upd H A.p11 (.dK (bV kvs (.inr r) (.int (m:Int)))))/\LoreAt C A a (N+1) T (upd H A.p11 (.dK (bV kvs (.inr r) (.int (m:Int))))) {L with fillers:=zd L.fillers r m}:=by
 obtain⟨n,f⟩:=h.f11.put (k:= .inr r) (v:= .int (m:Int)) e;rw[Ho] at n;exact⟨f,h.renew (bA N) f h.tg.put rfl rfl (by simp) (c11:= .inl n)⟩
def LoreAt.put12{i m:Nat}(h:LoreAt C A a N T H L)(e:H A.p12=some (.dT kvs)):Fr [12] T T H (upd H A.p12 (.dT (bV kvs [.inr r,.inl (i:Int)] (.int (m:Int)))))/\LoreAt C A a (N+1) T (upd H A.p12 (.dT (bV kvs [.inr r,.inl (i:Int)] (.int (m:Int))))) {L with wholes:=vi L.wholes r i m}:=by
 obtain⟨n,f⟩:=h.f12.put (k:=[.inr r,.inl (i:Int)]) (v:= .int (m:Int)) e;rw[F1] at n;exact⟨f,h.renew (bA N) f h.tg.put rfl rfl (by simp) (c12:= .inl n)⟩
section
def scKnow:bq ["self","kind","form","first","second"] nK (aK vB):=gU
def GO(F:Fun K "know" "Lore.know" vB f fd)(lc:wD K C)(Gkn:Ml P w K mg base C (d+1) "know" nK (mv C d))(Gnt:Cl P w K mg base 1 "note" rL F7):b_ P w K mg base fj (d+2) f fd nK (mv C (d+1)):=by
 refine F.o scKnow fun cdv A outer s H vs Q E hr h=> ?_;obtain⟨a,B,N,T,L,k,rfl,la,ok,kin,hd,hN,q⟩:=h;have hu:=gA hr;refine⟨_,a_ (bu (dC (oR hu) bp (du aB)) (bb (lg)) aX)
  (a_ (dW hu (du aB) bp dI rfl)
  (a_ (bu (dC mH (j7 bY (du aB) bp) dN) (bb (lg)) aX)
  (a_ (kr (j7 bY (du aB) bp) (eY rfl (br (fq 2 scKnow.nd) (br (fq 3 scKnow.nd) (br (fq 4 scKnow.nd) dX)))))
  (jM (bu (dC bN bF aJ) (a_ (bg (iw aB lc.c Gkn hr (eF bU))) (a_ (bg (eB Gnt hr (gD (du aB) bU (cq (gD bX bp dI))))) (bb (bg (eB Gnt hr (gD (du aB) bX (cq (gD bU bp dI)))))))) (a_ (bg (eB Gnt hr (gD (du aB) bX (cq (fb bU bp))))) (a_ (dW hu (du aB) bU (bx uC (rR hu (du aB) bU aA) (bx oQ aA bX)) rfl) (bb (dW hu (du aB) (cq (fb bU bX)) bp rfl)))))
  (bb (bg (iw aB lc.c Gkn hr (eF bX)))))))),?_⟩
 obtain⟨t3,kvs3,e3,r3,l3⟩:=id la.f3;have i3:c_ kvs3 (.inl ((L.ix k:Nat):Int))=if L.ix k∈L.known then some (.bl true) else none:=by
  rw[r3];show(if 0<=((L.ix k:Nat):Int)/\((L.ix k:Nat):Int).toNat∈L.known then _ else _)=_;simp
 have small:∀{n:Nat},n<=100000->n<sizeLine:=fun {n} h=>bz h (by decide);refine⟨C,_,_,_,la.ob,lc.c,lc.n3,Oa B,B.p3,_,rfl,DGet.k (k:= .inl (L.ix k:Nat)) e3,?_⟩;rw[i3];by_cases hk:L.ix k∈L.known
 · rw[aH hk];have q0:=q H T Fr.refl;rw[LoI.know_in hk] at q0;exact q0 (la.mono (by lia))
 rw[aE hk];obtain⟨g1,l1⟩:=la.put3 (i:=L.ix k) e3;refine⟨C,_,_,_,la.ob,lc.c,lc.n3,Oa B,_,DPut.k (k:= .inl (L.ix k:Nat)) e3 (small (by lia)),?_⟩;generalize upd H B.p3 (.dK (bV kvs3 (.inl ((L.ix k:Nat):Int)) (.bl true)))=H1 at g1 l1⊢;obtain⟨t1,ss,e1,r1⟩:=l1.f1;have shk:=ok.sh k kin;have S5:∀{i:Nat},i=3\/i=9\/i=10\/i=11\/i=12->∀j∈[i],j∈[3,9,10,11,12]:=fun {i} h j hj=>by
  rw[af.mp hj];simp;lia
 have ok1:(L.kn (L.ix k)).Ok:=ok.of rfl rfl;have hz:1<=k.sz:=by cases k<;>simp only[Kd.sz]<;>lia
 cases k with
 | nm x=>
   obtain⟨v,hv,iv⟩:=qc r1 (show(L.kn (L.ix (.nm x))).shapes[L.ix (.nm x)]? =some .no from shk);have iv':v= .non:=iv;refine⟨C,_,_,_,l1.ob,lc.c,lc.n1,lk1 B,ss,v,SqL.of e1,aR hv,rfl,?_⟩;rw[ao iv'];have q0:=q H1 T (g1.mono (S5 (.inl rfl)));rw[LoI.know,aE hk] at q0;exact q0 (l1.mono (by simp only[Kd.sz];lia))
 | two x y=>
   obtain⟨xin,yin,shk⟩:=shk;obtain⟨v,hv,p,rfl,hp⟩:=qc r1 (show(L.kn (L.ix (.two x y))).shapes[L.ix (.two x y)]? =some _ from shk);simp only[Kd.dep] at hd;have hz2:(Kd.two x y).sz=1+x.sz+y.sz:=rfl;refine⟨C,_,_,_,l1.ob,lc.c,lc.n1,lk1 B,ss,_,SqL.of e1,aR hv,rfl,?_⟩;refine⟨C,_,_,_,l1.ob,lc.c,lc.n1,lk1 B,ss,_,SqL.of e1,aR hv,_,SqT.of hp,rfl,?_⟩;refine⟨fun σ H'=>∃T',σ=[some (.ref a),some (.int (L.ix (.two x y):Nat)),some (.str "both"),some (.int (L.ix x:Nat)),some (.int (L.ix y:Nat))]/\Fr [3,9,10,11,12] T T' H H'/\LoreAt C B a (N+3+4 * x.sz) T' H' ((LoI.know x (L.kn (L.ix (.two x y)))).bo (L.ix x) (L.ix y) (L.ix (.two x y))),?_,?_⟩
   · refine⟨_,_,l1.ob,l1.lkKn,a,B,_,T,L.kn (L.ix (.two x y)),x,rfl,l1,ok1,xin,by lia,by lia,fun H2 T2 f2 l2=> ?_⟩;refine⟨C,_,_,_,l2.ob,lc.c,lc.n9,NA B,by show 3<=sizeLine;decide,fun t ht=> ?_⟩;have s2:=ah ht (.tup [.int (L.ix y:Nat),.int (L.ix (.two x y):Nat),.bl true]);have l2':=l2.same s2;refine hV (key:= .inl ((L.ix x:Nat):Int)) (x:=(L.ix y,L.ix (.two x y),true)) eb_mo l2'.tg l2'.f9 (by lia) ⟨t,rfl,aa⟩ fun H3 T3 f3 tg3 n3=> ?_;have l3':=l2'.nt9 f3 tg3 n3;refine⟨C,_,_,_,l3'.ob,lc.c,lc.n9,NA B,by show 3<=sizeLine;decide,fun t4 ht4=> ?_⟩;have s4:=ah ht4 (.tup [.int (L.ix x:Nat),.int (L.ix (.two x y):Nat),.bl false]);have l4:=l3'.same s4;refine hV (key:= .inl ((L.ix y:Nat):Int)) (x:=(L.ix x,L.ix (.two x y),false)) eb_mo l4.tg l4.f9 (by lia) ⟨t4,rfl,aa⟩ fun H5 T5 f5 tg5 n5=> ?_;have l5:=l4.nt9 f5 tg5 n5;refine⟨T5,rfl,?_,l5.mono (by lia)⟩;exact((((((g1.mono (S5 (.inl rfl))).trans f2).trans (Fr.of s2)).trans (f3.mono (S5 (by simp)))).trans (Fr.of s4)).trans (f5.mono (S5 (by simp))))
   rintro σ H' ⟨T',rfl,fr,l6⟩;have kp:=LoI.know_rest x (L.kn (L.ix (.two x y)));have ok6:((LoI.know x (L.kn (L.ix (.two x y)))).bo (L.ix x) (L.ix y) (L.ix (.two x y))).Ok:=ok.of kp.1 kp.2;have iy:((LoI.know x (L.kn (L.ix (.two x y)))).bo (L.ix x) (L.ix y) (L.ix (.two x y))).ix y=L.ix y:=by show(LoI.know x (L.kn (L.ix (.two x y)))).parts.idxOf y=_;rw[kp.1];rfl
   refine⟨_,_,l6.ob,l6.lkKn,a,B,_,T',_,y,by rw[iy];rfl,l6,ok6,by show y∈(LoI.know x _).parts;rw[kp.1];exact yin,by lia,by lia,fun H7 T7 f7 l7=> ?_⟩;have q0:=q H7 T7 (fr.trans f7);rw[LoI.know,aE hk] at q0;exact q0 (l7.mono (by lia))
 | som r y=>
   obtain⟨yin,shk⟩:=shk;obtain⟨v,hv,p,rfl,hp⟩:=qc r1 (show(L.kn (L.ix (.som r y))).shapes[L.ix (.som r y)]? =some _ from shk);simp only[Kd.dep] at hd;have hz2:(Kd.som r y).sz=1+y.sz:=rfl;refine⟨C,_,_,_,l1.ob,lc.c,lc.n1,lk1 B,ss,_,SqL.of e1,aR hv,rfl,?_⟩;refine⟨C,_,_,_,l1.ob,lc.c,lc.n1,lk1 B,ss,_,SqL.of e1,aR hv,_,SqT.of hp,rfl,?_⟩;refine⟨fun σ H'=>∃T',σ=[some (.ref a),some (.int (L.ix (.som r y):Nat)),some (.str "some"),some (.str r),some (.int (L.ix y:Nat))]/\Fr [3,9,10,11,12] T T' H H'/\LoreAt C B a (N+4) T' H' ((L.kn (L.ix (.som r y))).so r (L.ix y) (L.ix (.som r y))),?_,?_⟩
   · refine⟨C,_,_,_,l1.ob,lc.c,lc.n10,LO B,by show 2<=sizeLine;decide,fun t ht=> ?_⟩;have s2:=ah ht (.tup [.str r,.int (L.ix (.som r y):Nat)]);have l2:=l1.same s2;refine hV (key:= .inl ((L.ix y:Nat):Int)) (x:=(r,L.ix (.som r y))) esm_mo l2.tg l2.f10 (by lia) ⟨t,rfl,aa⟩ fun H3 T3 f3 tg3 n3=> ?_;have l3':=l2.nt10 f3 tg3 n3;obtain⟨t11,kvs11,e11,r11,l11⟩:=id l3'.f11;have lty:L.ix y<L.parts.length:=LoI.ix_lt yin;have lle:=la.le;have val:(c_ kvs11 (.inr r)).getD (.int 0)= .int (((L.fillers r).getD 0:Nat):Int):=by
      rw[r11];show(((L.fillers r).map fun(m:Nat)=>V.int (m:Int))).getD (.int 0)=_;cases L.fillers r<;>rfl
     refine⟨C,_,_,_,l3'.ob,lc.c,lc.n11,JK B,.inl ⟨_,.inl e11⟩,_,DGet.k (k:= .inr r) e11,⟨by lia,by lia,by decide⟩,?_⟩;rw[val];refine KF ?_;obtain⟨g4,l4⟩:=l3'.put11 (r:=r) (m:=(L.fillers r).getD 0 ||| 2^L.ix y) e11;refine⟨C,_,_,_,l3'.ob,lc.c,lc.n11,JK B,_,DPut.k (k:= .inr r) e11 (small (by lia)),?_⟩;generalize upd H3 B.p11 (.dK (bV kvs11 (.inr r) (.int (((L.fillers r).getD 0 ||| 2^L.ix y:Nat):Int))))=H4 at g4 l4⊢;refine⟨C,_,_,_,l4.ob,lc.c,lc.n12,LN B,by show 2<=sizeLine;decide,fun t5 ht5=> ?_⟩;have s5:=ah ht5 (.tup [.str r,.int (L.ix y:Nat)]);have l5:=l4.same s5;have h5:upd H4 t5 (.tup [.str r,.int (L.ix y:Nat)]) t5=some (.tup [.str r,.int (L.ix y:Nat)]):=aa;generalize upd H4 t5 (.tup [.str r,.int (L.ix y:Nat)])=H5 at s5 l5 h5⊢;obtain⟨t12,kvs12,e12,r12,l12⟩:=id l5.f12;obtain⟨g6,l6⟩:=l5.put12 (r:=r) (i:=L.ix y) (m:=L.ix (.som r y)) e12;refine⟨_,.inr ⟨kvs12,[.inr r,.inl ((L.ix y:Nat):Int)],t5,e12,rfl,h5,small (by lia),rfl⟩,T3,rfl,?_,l6.mono (by lia)⟩;exact((((((g1.mono (S5 (.inl rfl))).trans (Fr.of s2)).trans (f3.mono (S5 (by simp)))).trans (g4.mono (S5 (by simp)))).trans (Fr.of s5)).trans (g6.mono (S5 (by simp))))
   rintro σ H' ⟨T',rfl,fr,l6⟩;have ok6:((L.kn (L.ix (.som r y))).so r (L.ix y) (L.ix (.som r y))).Ok:=ok.of rfl rfl;refine⟨_,_,l6.ob,l6.lkKn,a,B,N+4,T',(L.kn (L.ix (.som r y))).so r (L.ix y) (L.ix (.som r y)),y,rfl,l6,ok6,yin,by lia,by lia,fun H7 T7 f7 l7=> ?_⟩;have q0:=q H7 T7 (fr.trans f7);rw[LoI.know,aE hk] at q0;exact q0 (l7.mono (by lia))
def CM:b_ P w K mg base fj (0+1) f fd nK (mv C 0):=by
 have no:∀vs H Q E,¬ mv C 0 vs H Q E:=fun vs H Q E h=>by
  obtain⟨a,A,N,T,L,k,_,_,_,_,h,_⟩:=h
  lia
 exact⟨fun vs H Q E h=>absurd h (no vs H Q E),fun A outer s H args us vs Q E _ _ _ _ h=>absurd h (no vs H Q E)⟩
theorem yf(A:Mq K C "know" "Lore.know" vB nK)(lc:wD K C)(Gnt:Cl P w K mg base 1 "note" rL F7):∀d:Nat,Ml P w K mg base C (d+1) "know" nK (mv C d)
 | 0=>A.ml fun _=>CM
 | d+1=>A.ml fun F=>GO F lc (yf A lc Gnt d) Gnt
end
noncomputable def LoI.kk(k:Kd)(L:LoI):LoI:=LoI.know k (LoI.num k L)
noncomputable def LoI.kkp(L:LoI)(p:Str × Kd):LoI:=if p.1="kind" then LoI.kk p.2 L else L
noncomputable def LoI.kks(s:Sy)(L:LoI):LoI:=s.sg.ps.foldl LoI.kkp L
noncomputable def LoI.tb(n:Int):Sy->LoI->LoI
 | .every a b,L=>{L with everys:=uQ L.everys (L.ix a) (L.ix b,n)}
 | .no a b,L=>{L with nos:=uQ (uQ L.nos (L.ix a) (L.ix b,n,true)) (L.ix b) (L.ix a,n,false)}
 | .within r s,L=>{L with withins:=uQ L.withins r (s,n)}
 | .makes r s t,L=>{L with mk1:=uQ L.mk1 r (s,t,n),mk2:=uQ L.mk2 s (r,t,n)}
 | .thing _ _,L=>L
 | .tied _ _ _,L=>L
noncomputable def LoI.learn(n:Int)(s:Sy)(L:LoI):LoI:=LoI.tb n s (LoI.kks s L)
def LoI.know_ok(k:Kd){L:LoI}(o:L.Ok):(LoI.know k L).Ok:=o.of (LoI.know_rest k L).1 (LoI.know_rest k L).2
def LoI.kk_ok(k:Kd){L:LoI}(o:L.Ok):(LoI.kk k L).Ok:=LoI.know_ok k (LoI.num_ok k o)
def LoI.kkp_ok(p:Str × Kd){L:LoI}(o:L.Ok):(L.kkp p).Ok:=by
 unfold LoI.kkp
 split
 · exact LoI.kk_ok _ o
 · exact o
def LoI.kks_ok(o:L.Ok):∀ps:List (Str × Kd),(ps.foldl LoI.kkp L).Ok:=fun ps=>by
 induction ps generalizing L with
 | nil=>exact o
 | cons p ps ih=>exact ih (LoI.kkp_ok p o)
def LoI.kkp_sub(p:Str × Kd)(L:LoI):∃l,(L.kkp p).parts=L.parts++l:=by
 unfold LoI.kkp
 split
 · unfold LoI.kk;rw[(LoI.know_rest _ _).1];exact LoI.num_sub _ _
 · exact⟨[],by simp⟩
theorem LoI.kks_sub:∀(ps:List (Str × Kd)) (L:LoI),∃l,(ps.foldl LoI.kkp L).parts=L.parts++l
 | [],L=>⟨[],by simp⟩
 | p::ps,L=>by
   obtain⟨l,e⟩:=LoI.kkp_sub p L;obtain⟨l',e'⟩:=LoI.kks_sub ps (L.kkp p);exact⟨l++l',by show(ps.foldl LoI.kkp (L.kkp p)).parts=_;rw[e',e,cA]⟩
theorem LoI.kks_has{p:Str × Kd}(hp:p.1="kind"):∀{ps:List (Str × Kd)} (L:LoI),p∈ps->p.2∈(ps.foldl LoI.kkp L).parts
 | q::ps,L,h=>by
   rcases aL.mp h with e | h
   · subst e;obtain⟨l,e⟩:=LoI.kks_sub ps (L.kkp p);show p.2∈(ps.foldl LoI.kkp (L.kkp p)).parts;rw[e];refine aP _ ?_;unfold LoI.kkp;rw[aH hp];unfold LoI.kk;rw[(LoI.know_rest _ _).1];exact LoI.num_has _ _
   · exact LoI.kks_has hp (L.kkp q) h
noncomputable def Sy.szs(s:Sy):Nat:=(s.parts.map Kd.sz).sum
def Sy.gd(d:Nat)(s:Sy):Prop:=∀k∈s.parts,okK k/\k.nt<=24/\k.dep<d/\k.sz<=60
def IW{s:Sy}(h:s.gd d):s.sg.Ok:=by
 refine⟨?_,fun p hp=> ?_⟩
 · cases s<;>simp[Sy.sg,Sy.sorts,Sy.parts,Sy.hd,oH,jS]
 · have hm:p.2∈s.parts:=by rw[<-jC];exact dY hp
   have hz:=(h p.2 hm).2.2.2;cases s<;>(simp only[Sy.sg,Sy.sorts,Sy.parts,yQ,List.zip_nil_left,aL,ak,cH] at hp)
   all_goals first
    | (rcases hp with rfl | rfl)<;>first | exact .inl ⟨rfl,hz⟩ | exact .inr ⟨.inl rfl,_,rfl⟩ | exact .inr ⟨.inr rfl,_,rfl⟩
    | (rcases hp with rfl | rfl | rfl)<;>first | exact .inl ⟨rfl,hz⟩ | exact .inr ⟨.inl rfl,_,rfl⟩ | exact .inr ⟨.inr rfl,_,rfl⟩
def LoreAt.nt4{i:Nat}(h:LoreAt C A a N T H L)(f:Fr [4] T T' H H')(tg:TgOk T' H')(n:FTb E2 H' T' 4 A.p4 (fun j=>kN L.everys j++if j= .inl (i:Int) then [e] else []) (N+1)):LoreAt C A a (N+1) T' H' {L with everys:=uQ L.everys i e}:=by
 rw[BP] at n;exact h.renew (bA N) f tg rfl rfl (by simp) (c4:= .inl n)
def LoreAt.nt5{i:Nat}(h:LoreAt C A a N T H L)(f:Fr [5] T T' H H')(tg:TgOk T' H')(n:FTb E3 H' T' 5 A.p5 (fun j=>kN L.nos j++if j= .inl (i:Int) then [e] else []) (N+1)):LoreAt C A a (N+1) T' H' {L with nos:=uQ L.nos i e}:=by
 rw[BP] at n;exact h.renew (bA N) f tg rfl rfl (by simp) (c5:= .inl n)
def LoreAt.nt6(h:LoreAt C A a N T H L)(f:Fr [6] T T' H H')(tg:TgOk T' H')(n:FTb ML H' T' 6 A.p6 (fun j=>kS L.withins j++if j= .inr i then [e] else []) (N+1)):LoreAt C A a (N+1) T' H' {L with withins:=uQ L.withins i e}:=by
 rw[EY] at n;exact h.renew (bA N) f tg rfl rfl (by simp) (c6:= .inl n)
def LoreAt.nt7(h:LoreAt C A a N T H L)(f:Fr [7] T T' H H')(tg:TgOk T' H')(n:FTb Kz H' T' 7 A.p7 (fun j=>kS L.mk1 j++if j= .inr i then [e] else []) (N+1)):LoreAt C A a (N+1) T' H' {L with mk1:=uQ L.mk1 i e}:=by
 rw[EY] at n;exact h.renew (bA N) f tg rfl rfl (by simp) (c7:= .inl n)
def LoreAt.nt8(h:LoreAt C A a N T H L)(f:Fr [8] T T' H H')(tg:TgOk T' H')(n:FTb Kz H' T' 8 A.p8 (fun j=>kS L.mk2 j++if j= .inr i then [e] else []) (N+1)):LoreAt C A a (N+1) T' H' {L with mk2:=uQ L.mk2 i e}:=by
 rw[EY] at n;exact h.renew (bA N) f tg rfl rfl (by simp) (c8:= .inl n)
section
end
noncomputable abbrev Dh:List Nat:=[0,1,2,3,4,5,6,7,8,9,10,11,12]
def CS(h:i<13):∀j∈[i],j∈Dh:=fun j hj=>by
 rw[af.mp hj];have:i∈List.range 13:=dj.mpr h;exact this
def kI(L:LoI)(h:(((Str.ofString "kind",k):Str × Kd)∈s.sg.ps)):k∈(LoI.kks s L).parts:=LoI.kks_has (p:=(Str.ofString "kind",k)) rfl L h
def yg(h:KL H xs [a,b]):∃x y,xs=[x,y]/\IsK H a x/\IsK H b y:=by
 cases h with
 | cons r t=>
   cases t with
   | cons r2 t2=>cases t2;exact⟨_,_,rfl,r,r2⟩
def LR(h:KL H xs [a,b,c]):∃x y z,xs=[x,y,z]/\IsK H a x/\IsK H b y/\IsK H c z:=by
 cases h with
 | cons r t=>
   obtain⟨y,z,rfl,h1,h2⟩:=yg t;exact⟨_,y,z,rfl,r,h1,h2⟩
inductive ui(C:Addr)(d:Nat)(vs:List V)(H:Hp)(Q:VK):Prop
 | mk:∀a A N T L n v s,(vs=[.ref a,.int n,v])->(LoreAt C A a N T H L)->(L.Ok)->(IsSy H s v)->(s.gd d)->(N+6 * s.szs+2<=50000)->(∀H' T',Fr Dh T T' H H'->LoreAt C A a (N+6 * s.szs+2) T' H' (LoI.learn n s L)->Q .non H')->ui C d vs H Q
def AX(C:Addr)(d:Nat):Sp:=fun vs H Q _=>ui C d vs H Q
section
def scLearn:bq ["self","number","saying","sort","part","first","second"] Bs (aK vA):=gU
def El(F:Fun K "learn" "Lore.learn" vA f fd)(lc:wD K C)(mz:mg "zip"=none)(mF0:mg "FORMS"=some (.ref aF))(hF:∀fo ss,(fo,ss)∈jS->∃kvs a,uS K P w aF kvs/\c_ kvs (.inr fo)=some (.ref a)/\∀H,SqT K H a (ss.map V.str))(Gkn:Ml P w K mg base C (d+1) "know" nK (mv C d))(Gno:Ml P w K mg base C (2 * d) "number_of" fH (nB C d))(Gnt:Cl P w K mg base 1 "note" rL F7):b_ P w K mg base fj (2 * d+3) f fd Bs (AX C d):=by
 refine F.o scLearn fun cdv A outer s0 H vs Q E hr h=> ?_;obtain⟨a,B,N,T,L,n,v,s,rfl,la,ok,is,gs,hN,q⟩:=h;have hu:=gA hr;refine⟨_,jM (lZ (BF rfl mz (fb (BG (qB (v:= .ref aF) rfl mF0 rfl) (di bF) (fun _ _=>rfl)) (dM vh bF (ej aA) eU))) (eY rfl (br (fq 3 scLearn.nd) (br (fq 4 scLearn.nd) dX))) (bb (bu (dC bN bU aJ) (bb (bg (iw aB lc.c Gkn hr (eF (iw aB lc.c Gno hr (eF bX)))))) aX)))
  (bb (bu (dC bN (di bF) aJ) (bb (bg (eB Gnt hr (gD (du aB) (iw aB lc.c Gno hr (eF (di bF))) (cq (fb (iw aB lc.c Gno hr (eF (di bF))) bp)))))) (bb (bu (dC bN (di bF) aJ) (a_ (Jh (i:=5) (j:=6) rfl scLearn.nd rfl rfl (by decide) rfl rfl (fb (iw aB lc.c Gno hr (eF (di bF))) (iw aB lc.c Gno hr (eF (di bF)))) rfl) (a_ (bg (eB Gnt hr (gD (du aB) cX (cq (gD eK bp dI))))) (bb (bg (eB Gnt hr (gD (du aB) eK (cq (gD cX bp dI)))))))) (bb (bu (dC bN (di bF) aJ) (bb (bg (eB Gnt hr (gD (du aB) (di bF) (cq (fb (di bF) bp)))))) (bb (bu (dC bN (di bF) aJ) (a_ (bg (eB Gnt hr (gD (du aB) (di bF) (cq (gD (di bF) (di bF) bp))))) (bb (bg (eB Gnt hr (gD (du aB) (di bF) (cq (gD (di bF) (di bF) bp))))))) aX)))))))),?_⟩
 obtain⟨pv,xs,rfl,hpv,hL⟩:=id (HZ is);have hS:=IW gs;obtain⟨kvs,aT,hkd,hval,hT⟩:=hF _ _ hS.fo;have lL:=KL.len hL;rw[ai] at lL;have inp:∀{p:Str × Kd},p∈s.sg.ps->p.2∈s.parts:=fun {p} hp=>by rw[<-jC];exact dY hp
 have tot:(s.sg.ps.map fun p=>p.2.sz).sum=s.szs:=by unfold Sy.szs;rw[<-jC,qh];rfl
 have sub:∀i,((s.sg.ps.take i).map fun p=>p.2.sz).sum<=s.szs:=fun i=>by
  rw[<-tot]
  conv=>rhs;rw[<-ju i s.sg.ps,bj,gy]
  exact cR _ _
 have S012:∀j∈[0,1,2],j∈Dh:=by decide
 have S5:∀j∈[3,9,10,11,12],j∈Dh:=by decide
 refine⟨fun σ H'=>∃(o3 o4:Option V) (T':Tg),σ=[some (.ref a),some (.int n),some (.ref pv),o3,o4,none,none]/\Fr Dh T T' H H'/\LoreAt C B a (N+5 * s.szs) T' H' (LoI.kks s L),?_,?_⟩
 · refine⟨_,_,SqT.of hpv,aR (j:=0) rfl,aF,kvs,.inr s.sg.form,.ref aT,rfl,rfl,hkd,hval,1,rfl,pv,_,rfl,SqT.of hpv,Jc _ _,fun pt hpt=> ?_⟩;rw[Kg];have spt:=ah hpt (.tup xs);refine⟨aT,pt,rfl,⟨_,hT _⟩,⟨_,SqT.of aa⟩,?_⟩;refine yu (xs:=(s.sg.ps.map (·.1)).map V.str) (ys:=xs) (by rw[ai,ai];lia) (fun i σ H4=>∃(o3 o4:Option V) (T4:Tg),σ=[some (.ref a),some (.int n),some (.ref pv),o3,o4,none,none]/\Fr Dh T T4 H H4/\H4 pt=some (.tup xs)/\LoreAt C B a (N+5 * ((s.sg.ps.take i).map fun p=>p.2.sz).sum) T4 H4 ((s.sg.ps.take i).foldl LoI.kkp L)) ⟨none,none,T,rfl,Fr.of spt,aa,(la.same spt).mono (cR _ _)⟩ ?_ ?_ ?_
   · rintro i σ H4 hi ⟨o3,o4,T4,rfl,_,e,_⟩;exact⟨hT _,SqT.of e⟩
   · rintro i x y σ H4 Tn hx hy ⟨o3,o4,T4,rfl,f4,e4,l4⟩ hTn;obtain⟨k',hk1,ik⟩:=KL.get hL hy;rw[aQ] at hk1;obtain⟨p,hp,rfl⟩:=bP.mp hk1;rw[aQ,aQ,hp] at hx;simp only[gm,mX] at hx;subst hx;obtain⟨g1,g2,g3,g4⟩:=gs _ (inp (ar hp));have sT:=ah hTn (.tup [.str p.1,y]);have l5:=l4.same sT;have f5:Fr Dh T T4 H (upd H4 Tn (.tup [.str p.1,y])):=f4.trans (Fr.of sT);have ik5:=IsK.mono f5.tups ik;have sm:((s.sg.ps.take (i+1)).map fun p=>p.2.sz).sum=((s.sg.ps.take i).map fun p=>p.2.sz).sum+p.2.sz:=by
      rw[bH,hp,bj,gy];simp
     have fo:(s.sg.ps.take (i+1)).foldl LoI.kkp L=((s.sg.ps.take i).foldl LoI.kkp L).kkp p:=by
      rw[bH,hp,fz];rfl
     have le1:=sub (i+1);rw[sm] at le1;refine⟨_,SqT.of aa,rfl,?_⟩;have e5:=sT _ _ e4;generalize upd H4 Tn (.tup [.str p.1,y])=H5 at l5 f5 ik5 e5⊢;refine(fY (fun c1=> ?_) (fun c1=> ?_))
     · have e1:p.1="kind":=by
        have:=bG c1
        injection this
       refine⟨_,_,l5.ob,l5.lkKn,_,_,l5.ob,l5.lkNo,a,B,_,T4,_,y,p.2,rfl,l5,ik5,g1,g2,g3,by lia,fun H6 T6 f6 l6=> ?_⟩;refine⟨a,B,_,T6,_,p.2,rfl,l6,LoI.num_ok _ (LoI.kks_ok ok _),LoI.num_has _ _,g3,by lia,fun H7 T7 f7 l7=> ?_⟩;refine⟨_,_,T7,rfl,(f5.trans (f6.mono S012)).trans (f7.mono S5),f7.tups _ _ (f6.tups _ _ e5),?_⟩;rw[sm,fo];unfold LoI.kkp;rw[aH e1];exact l7.mono (by lia)
     · have e1:¬ p.1="kind":=fun z=>c1 (by rw[z];exact ao rfl);refine⟨_,_,T4,rfl,f5,e5,?_⟩;rw[sm,fo];unfold LoI.kkp;rw[aE e1];exact l5.mono (by lia)
   · rintro σ H4 ⟨o3,o4,T4,rfl,f4,e4,l4⟩;refine⟨o3,o4,T4,rfl,f4,?_⟩;rw[ai,ai,be,tot] at l4;exact l4
 rintro σ H' ⟨o3,o4,T',rfl,fr,l⟩;rw[jC] at hL;have hpv':=fr.tups _ _ hpv;have hs:s.szs=(s.parts.map Kd.sz).sum:=rfl;cases s with
 | every x y=>
   obtain⟨vx,vy,rfl,kx,ky⟩:=yg hL;obtain⟨x1,x2,x3,x4⟩:=gs x (by simp[Sy.parts]);obtain⟨y1,y2,y3,y4⟩:=gs y (by simp[Sy.parts]);have hx:x∈(LoI.kks (.every x y) L).parts:=kI (s:= .every x y) L (by simp[Sy.sg,Sy.sorts,Sy.parts]);have hy:y∈(LoI.kks (.every x y) L).parts:=kI (s:= .every x y) L (by simp[Sy.sg,Sy.sorts,Sy.parts]);have hz:(Sy.every x y).szs=x.sz+y.sz:=by simp[Sy.szs,Sy.parts]
   refine(cI hpv' rfl (⟨C,_,_,_,l.ob,lc.c,lc.n4,N_ B,_,_,l.ob,l.lkNo,cI hpv' rfl ⟨a,B,_,T',_,vx,x,rfl,l,IsK.mono fr.tups kx,x1,x2,x3,by lia,fun H1 T1 f1 l1=> ?_⟩⟩));rw[LoI.num_in hx] at l1⊢;have fr1:=fr.trans (f1.mono S012);refine⟨_,_,l1.ob,l1.lkNo,cI (fr1.tups _ _ hpv) rfl ⟨a,B,_,T1,_,vy,y,rfl,l1,IsK.mono fr1.tups ky,y1,y2,y3,by lia,fun H2 T2 f2 l2=> ?_⟩⟩;rw[LoI.num_in hy] at l2⊢;have fr2:=fr1.trans (f2.mono S012);refine⟨by show 2<=sizeLine;decide,fun t ht=> ?_⟩;have s3:=ah ht (.tup [.int ((LoI.kks (.every x y) L).ix y:Nat),.int n]);have l3:=l2.same s3;refine hV (key:= .inl (((LoI.kks (.every x y) L).ix x:Nat):Int)) (x:=((LoI.kks (.every x y) L).ix y,n)) e2_mo l3.tg l3.f4 (by lia) ⟨t,rfl,aa⟩ fun H4 T4 f4 tg4 n4=> ?_;exact q H4 T4 ((fr2.trans (Fr.of s3)).trans (f4.mono (CS (by decide)))) ((l3.nt4 f4 tg4 n4).mono (by lia))
 | no x y=>
   obtain⟨vx,vy,rfl,kx,ky⟩:=yg hL;obtain⟨x1,x2,x3,x4⟩:=gs x (by simp[Sy.parts]);obtain⟨y1,y2,y3,y4⟩:=gs y (by simp[Sy.parts]);have hx:x∈(LoI.kks (.no x y) L).parts:=kI (s:= .no x y) L (by simp[Sy.sg,Sy.sorts,Sy.parts]);have hy:y∈(LoI.kks (.no x y) L).parts:=kI (s:= .no x y) L (by simp[Sy.sg,Sy.sorts,Sy.parts]);have hz:(Sy.no x y).szs=x.sz+y.sz:=by simp[Sy.szs,Sy.parts]
   refine(cI hpv' rfl ((cI hpv' rfl (⟨_,_,l.ob,l.lkNo,cI hpv' rfl ⟨a,B,_,T',_,vx,x,rfl,l,IsK.mono fr.tups kx,x1,x2,x3,by lia,fun H1 T1 f1 l1=> ?_⟩⟩))));rw[LoI.num_in hx] at l1⊢;have fr1:=fr.trans (f1.mono S012);refine⟨_,_,l1.ob,l1.lkNo,cI (fr1.tups _ _ hpv) rfl ⟨a,B,_,T1,_,vy,y,rfl,l1,IsK.mono fr1.tups ky,y1,y2,y3,by lia,fun H2 T2 f2 l2=> ?_⟩⟩;rw[LoI.num_in hy] at l2⊢;have fr2:=fr1.trans (f2.mono S012);refine⟨_,_,rfl,C,_,_,_,l2.ob,lc.c,lc.n5,NB B,by show 3<=sizeLine;decide,fun t ht=> ?_⟩;have s3:=ah ht (.tup [.int ((LoI.kks (.no x y) L).ix y:Nat),.int n,.bl true]);have l3:=l2.same s3;refine hV (key:= .inl (((LoI.kks (.no x y) L).ix x:Nat):Int)) (x:=((LoI.kks (.no x y) L).ix y,n,true)) e3_mo l3.tg l3.f5 (by lia) ⟨t,rfl,aa⟩ fun H4 T4 f4 tg4 n4=> ?_;have l4:=l3.nt5 f4 tg4 n4;refine⟨C,_,_,_,l4.ob,lc.c,lc.n5,NB B,by show 3<=sizeLine;decide,fun t5 ht5=> ?_⟩;have s5:=ah ht5 (.tup [.int ((LoI.kks (.no x y) L).ix x:Nat),.int n,.bl false]);have l5:=l4.same s5;refine hV (key:= .inl (((LoI.kks (.no x y) L).ix y:Nat):Int)) (x:=((LoI.kks (.no x y) L).ix x,n,false)) e3_mo l5.tg l5.f5 (by lia) ⟨t5,rfl,aa⟩ fun H6 T6 f6 tg6 n6=> ?_;exact q H6 T6 ((((fr2.trans (Fr.of s3)).trans (f4.mono (CS (by decide)))).trans (Fr.of s5)).trans (f6.mono (CS (by decide)))) ((l5.nt5 f6 tg6 n6).mono (by lia))
 | within r s'=>
   obtain⟨vx,vy,rfl,kx,ky⟩:=yg hL;obtain rfl:vx= .str r:=kx;obtain rfl:vy= .str s':=ky;refine(cI hpv' rfl ((cI hpv' rfl ((cI hpv' rfl (⟨C,_,_,_,l.ob,lc.c,lc.n6,N9 B,cI hpv' rfl (cI hpv' rfl ⟨by show 2<=sizeLine;decide,fun t ht=> ?_⟩)⟩))))));have s3:=ah ht (.tup [.str s',.int n]);have l3:=l.same s3;refine hV (key:= .inr r) (x:=(s',n)) es2_mo l3.tg l3.f6 (by lia) ⟨t,rfl,aa⟩ fun H4 T4 f4 tg4 n4=> ?_;exact q H4 T4 ((fr.trans (Fr.of s3)).trans (f4.mono (CS (by decide)))) ((l3.nt6 f4 tg4 n4).mono (by lia))
 | makes r s' u=>
   obtain⟨vx,vy,vz,rfl,kx,ky,kz⟩:=LR hL;obtain rfl:vx= .str r:=kx;obtain rfl:vy= .str s':=ky;obtain rfl:vz= .str u:=kz;refine(cI hpv' rfl ((cI hpv' rfl ((cI hpv' rfl ((cI hpv' rfl (⟨C,_,_,_,l.ob,lc.c,lc.n7,N8 B,cI hpv' rfl (cI hpv' rfl (cI hpv' rfl ⟨by show 3<=sizeLine;decide,fun t ht=> ?_⟩))⟩))))))));have s3:=ah ht (.tup [.str s',.str u,.int n]);have l3:=l.same s3;refine hV (key:= .inr r) (x:=(s',u,n)) es3_mo l3.tg l3.f7 (by lia) ⟨t,rfl,aa⟩ fun H4 T4 f4 tg4 n4=> ?_;have l4:=l3.nt7 f4 tg4 n4;have fr4:=(fr.trans (Fr.of s3)).trans (f4.mono (CS (i:=7) (by decide)));have hp4:=fr4.tups _ _ hpv;refine⟨C,_,_,_,l4.ob,lc.c,lc.n8,N7 B,cI hp4 rfl (cI hp4 rfl (cI hp4 rfl ⟨by show 3<=sizeLine;decide,fun t5 ht5=> ?_⟩))⟩;have s5:=ah ht5 (.tup [.str r,.str u,.int n]);have l5:=l4.same s5;refine hV (key:= .inr s') (x:=(r,u,n)) es3_mo l5.tg l5.f8 (by lia) ⟨t5,rfl,aa⟩ fun H6 T6 f6 tg6 n6=> ?_;exact q H6 T6 ((fr4.trans (Fr.of s5)).trans (f6.mono (CS (by decide)))) ((l5.nt8 f6 tg6 n6).mono (by lia))
 | thing x y=>
   iterate 4 refine cI hpv' (aR (j:=0) rfl) ?_
   exact q H' T' fr (l.mono (by lia))
 | tied x r y=>
   iterate 4 refine cI hpv' (aR (j:=0) rfl) ?_
   exact q H' T' fr (l.mono (by lia))
end
structure Ini(H0 H:Hp)(C a dx:Addr)(fs:List (Str × V))(cs:List (Addr × HO)):Prop where
 ob:H a=some (.ins C dx fs)
 at':∀q∈cs,H q.1=some q.2
 nd:(cs.map (·.1)).Nodup
 new:∀q∈cs,H0 q.1=none/\q.1≠a
 old:∀b o,H0 b=some o->b≠a->H b=some o
def Ini.step(h:Ini H0 H C a dx fs cs)(hp:H p=none)(fs':List (Str × V))(hf:jo f (.ref p) fs=fs'):upd H p o a=some (.ins C dx fs)/\Ini H0 (upd (upd H p o) a (.ins C dx fs')) C a dx fs' (cs++[(p,o)]):=by
 subst hf;have pa:p≠a:=fun z=>by rw[z,h.ob] at hp;cases hp
 refine⟨by rw[aD (bI pa)];exact h.ob,aa,fun q hq=> ?_,?_,fun q hq=> ?_,fun b u e nb=> ?_⟩
 · rcases av.mp hq with hq | hq
   · have e:=h.at' q hq;rw[aD (h.new q hq).2,aD (fun z=>by rw[z,hp] at e;cases e)];exact e
   · rw[af.mp hq,aD pa,aa]
 · rw[bj,mZ];refine⟨h.nd,by simp,fun x hx y hy=> ?_⟩;obtain⟨q,hq,rfl⟩:=bS.mp hx;have e:=h.at' q hq;rw[show y=p by simpa using hy];exact fun z=>by rw[z,hp] at e;cases e
 · rcases av.mp hq with hq | hq
   · exact h.new q hq
   · rw[af.mp hq];refine⟨?_,pa⟩;cases c:H0 p with
     | none=>rfl
     | some u=>rw[h.old p u c pa] at hp;cases hp
 · have e1:=h.old b u e nb;rw[aD nb,aD (fun z=>by rw[z,hp] at e1;cases e1)];exact e1
theorem rO:∀{fs:List (Str × V)},(fs.all fun q=> !decide (q.1=f))=true->jo f v fs=fs++[(f,v)]
 | [],_=>rfl
 | (g,x)::r,h=>by
   simp only[fD,aO,Az,KM] at h;show(if g=f then _ else _)=_;rw[aE h.1,rO h.2];rfl
section
def Ini.put(i:Ini H0 H C a dx fs cs)(ht:∀Q:VK,(∀p,H p=none->Q (.ref p) (upd H p o))->t σ H Q)(hσ:σ[0]? =some (some (.ref a)))(c:Cls K C)(n:NoAttr K C f)(hl:Nat.blt fs.length 1000=true)(hf:(fs.all fun q=> !decide (q.1=f))=true)(k:∀p H',Ini H0 H' C a dx (fs++[(f,.ref p)]) (cs++[(p,o)])->u D σ H'):yV (DO K (ot 0) t f) u D σ H:=by
 refine ht _ fun p hp=> ?_;obtain⟨b,i'⟩:=i.step (o:=o) (f:=f) hp _ (rO hf);refine onV.of hσ ⟨a,C,dx,fs,rfl,b,c,n,Nat.le_of_ble_eq_true hl,?_⟩;rw[rO hf];exact k p _ i'
def Na(h:yV t (fun D=>D.nx) D σ H):t D σ H:=h
def Ini.lst{K:Frag}{H0 H:Hp}{C a dx:Addr}{fs:List (Str × V)}{cs:List (Addr × HO)}{f:Str}{D:s_}{u:TS}{σ:L2.St}(i:Ini H0 H C a dx fs cs)(c:Cls K C)(n:NoAttr K C f)(hσ:σ[0]? =some (some (.ref a)))(hl:Nat.blt fs.length 1000=true)(hf:(fs.all fun q=> !decide (q.1=f))=true)(k:∀p H',Ini H0 H' C a dx (fs++[(f,.ref p)]) (cs++[(p,.lst [])])->u D σ H'):yV (DO K (ot 0) (IQ gB) f) u D σ H:=i.put (fun Q h=>⟨ay _,h⟩) hσ c n hl hf k
def Ini.dK{K:Frag}{H0 H:Hp}{C a dx:Addr}{fs:List (Str × V)}{cs:List (Addr × HO)}{f:Str}{D:s_}{u:TS}{σ:L2.St}(i:Ini H0 H C a dx fs cs)(c:Cls K C)(n:NoAttr K C f)(hσ:σ[0]? =some (some (.ref a)))(hl:Nat.blt fs.length 1000=true)(hf:(fs.all fun q=> !decide (q.1=f))=true)(k:∀p H',Ini H0 H' C a dx (fs++[(f,.ref p)]) (cs++[(p,.dK [])])->u D σ H'):yV (DO K (ot 0) Dw f) u D σ H:=i.put (fun Q h=>h) hσ c n hl hf k
def Ini.dT{K:Frag}{H0 H:Hp}{C a dx:Addr}{fs:List (Str × V)}{cs:List (Addr × HO)}{f:Str}{D:s_}{u:TS}{σ:L2.St}(i:Ini H0 H C a dx fs cs)(c:Cls K C)(n:NoAttr K C f)(hσ:σ[0]? =some (some (.ref a)))(hl:Nat.blt fs.length 1000=true)(hf:(fs.all fun q=> !decide (q.1=f))=true)(k:∀p H',Ini H0 H' C a dx (fs++[(f,.ref p)]) (cs++[(p,.dT [])])->u D σ H'):yV (DO K (ot 0) Dv f) u D σ H:=i.put (fun Q h=>h) hσ c n hl hf k
end
theorem ym:∀{l:List Addr} {i:Nat},l.Nodup->(h:i<l.length)->l.idxOf l[i]=i
 | x::l,0,_,_=>by simp
 | x::l,i+1,nd,h=>by
   have hm:l[i]'(by simpa using h)∈l:=cU _;have hx:=(dv.mp nd).1;have hne:(x==l[i]'(by simpa using h))=false:=cv.mpr fun e=>hx (by rw[e];exact hm);rw[List.getElem_cons_succ,List.idxOf_cons,hne,cond_false,ym (dv.mp nd).2]
noncomputable def wG(n:Nat)(ps:List Addr):Tg:=fun b=>if ps.idxOf b<ps.length then some (n+ps.idxOf b,none) else none
def Ds{n:Nat}{ps:List Addr}(nd:ps.Nodup){i:Nat}{p:Addr}(h:ps[i]? =some p):wG n ps p=some (n+i,none):=by
 obtain⟨hi,e⟩:=aY.mp h;have:ps.idxOf p=i:=by rw[<-e];exact ym nd hi
 unfold wG;rw[this,aH hi]
def uX(h:wG n ps b=some i):b∈ps:=by
 unfold wG at h
 split at h
 · rename_i c;exact List.idxOf_lt_length_iff.mp c
 · cases h
def FNum.bt(b:Bt a H H')(hT:T a=none)(h:FNum H T p ps):FNum H' T p ps:=by
 obtain⟨t0,kvs,e,r⟩:=h;exact⟨t0,kvs,b _ _ e (fun z=>by rw[z,hT] at t0;cases t0),r⟩
def LoreAt.setex(h:LoreAt C A a N T H L)(e:A'={A with ex:=A'.ex})(xo:A'.ex=[]\/A'.ex=KJ\/A'.ex=FU)(ho:o= .ins C A.dx (mV A')):LoreAt C A' a N T (upd H a o) L:=by
 obtain⟨ex,dx,p0,p1,p2,p3,p4,p5,p6,p7,p8,p9,p10,p11,p12⟩:=A';cases e;subst ho;have b:Bt a H (upd H a (.ins C A.dx (mV {A with ex:=ex}))):=fun c u q n=>by rw[aD n];exact q
 have t:Tups H (upd H a (.ins C A.dx (mV {A with ex:=ex}))):=fun c xs q=>b c _ q (fun z=>by rw[z,h.ob] at q;cases q);exact⟨h.tg.put,h.oT,aa,h.f0.bt r_ b t h.oT,h.f1.bt pN b t h.oT,h.f2.bt b h.oT,h.f3.bt b h.oT,h.f4.bt e2_mo b t h.oT,h.f5.bt e3_mo b t h.oT,h.f6.bt es2_mo b t h.oT,h.f7.bt es3_mo b t h.oT,h.f8.bt es3_mo b t h.oT,h.f9.bt eb_mo b t h.oT,h.f10.bt esm_mo b t h.oT,h.f11.bt b h.oT,h.f12.bt b h.oT,h.gd,h.le,h.sl,xo⟩
noncomputable def LoI.emp:LoI:=⟨[],[],[],fun _=>[],fun _=>[],fun _=>[],fun _=>[],fun _=>[],fun _=>[],fun _=>[],fun _=>none,fun _ _=>none⟩
noncomputable abbrev anyW:Kd:= .nm "anything"
noncomputable abbrev nothW:Kd:= .nm "nothing"
noncomputable def LoI.init:LoI:=LoI.num nothW (LoI.num anyW LoI.emp)
def LoI.emp_ok:LoI.emp.Ok:=⟨rfl,fun k h=>(ak h).elim,fun i s h=>by have h':([]:List Sh)[i]? =some s:=h;simp at h',.nil⟩
def LoI.init_ok:LoI.init.Ok:=LoI.num_ok _ (LoI.num_ok _ LoI.emp_ok)
def L7:LoI.num anyW LoI.emp=LoI.emp.add anyW .no:=by rw[LoI.num];exact aE (ak)
def NI:(LoI.num anyW LoI.emp).ix anyW=0:=by rw[L7];exact lE (l:=[]) (ak)
def xW:nothW≠anyW:=by decide+kernel
def l_:LoI.init=(LoI.emp.add anyW .no).add nothW .no:=by
 unfold LoI.init;rw[L7,LoI.num];exact aE (by show ¬ nothW∈[anyW];rw[af];exact xW)
def LF:LoI.init.ix nothW=1:=by rw[l_];exact lE (l:=[anyW]) (by rw[af];exact xW)
def Ob(k:Key):KI [] k=none:=by
 cases k with
 | inl i=>exact aE (fun z=>ak z.2)
 | inr r=>rfl
def OO(k:Key):L1 (fun _=>none) k=none:=by cases k<;>rfl
def Ov(k:List Key):KU (fun _ _=>none) k=none:=by
 match k with
 | []=>rfl
 | [.inl _]=>rfl
 | [.inr _]=>rfl
 | [.inl _,_]=>rfl
 | [.inr _,.inr _]=>rfl
 | [.inr s,.inl i]=>show(if _ then _ else _)=_;split<;>rfl
 | x::y::z::w=>cases x<;>cases y<;>rfl
inductive uj(C:Addr)(vs:List V)(H:Hp)(Q:VK):Prop
 | mk:∀a dx,(vs=[.ref a])->(H a=some (.ins C dx []))->(∀H' A T,Bt a H H'->(∀b i,T b=some i->H b=none)->LoreAt C A a 2 T H' LoI.init->A.ex=FU->Q .non H')->uj C vs H Q
def Ba(C:Addr):Sp:=fun vs H Q _=>uj C vs H Q
section
def Gh:bq nI nI (aK zp):=gU
def Ek(hd:0<d)(F:Fun K "__init__" "Lore.__init__" zp f fd)(lc:wD K C)(Gno:Ml P w K mg base C (2 * d) "number_of" fH (nB C d)):b_ P w K mg base fj (2 * d+1) f fd nI (Ba C):=by
 refine F.o Gh fun cdv A outer s0 H vs Q E hr h=> ?_;obtain⟨a,dx,rfl,ea,q⟩:=h;refine⟨_,a_ (dJ aB (bR cu) rfl) (a_ (dJ aB (bR cu) rfl) (a_ (dJ aB cL rfl) (a_ (dJ aB cL rfl) (a_ (dJ aB cL rfl) (a_ (dJ aB cL rfl) (a_ (dJ aB cL rfl) (a_ (dJ aB cL rfl) (a_ (dJ aB cL rfl) (a_ (dJ aB cL rfl) (a_ (dJ aB cL rfl) (a_ (dJ aB cL rfl) (a_ (dJ aB kA rfl) (a_ (dJ aB (iw aB lc.c Gno hr (eF aJ)) rfl) (bb (dJ aB (iw aB lc.c Gno hr (eF aJ)) rfl))))))))))))))),?_⟩;have i0:Ini H H C a dx [] []:=⟨ea,fun q hq=>(ak hq).elim,.nil,fun q hq=>(ak hq).elim,fun _ _ e _=>e⟩;refine i0.lst lc.c lc.n0 rfl rfl rfl fun p0 H1 i1=> ?_;refine i1.lst lc.c lc.n1 rfl rfl rfl fun p1 H2 i2=> ?_;refine i2.dK lc.c lc.n2 rfl rfl rfl fun p2 H3 i3=> ?_;refine i3.dK lc.c lc.n3 rfl rfl rfl fun p3 H4 i4=> ?_;refine i4.dK lc.c lc.n4 rfl rfl rfl fun p4 H5 i5=> ?_;refine i5.dK lc.c lc.n5 rfl rfl rfl fun p5 H6 i6=> ?_;refine i6.dK lc.c lc.n6 rfl rfl rfl fun p6 H7 i7=> ?_;refine i7.dK lc.c lc.n7 rfl rfl rfl fun p7 H8 i8=> ?_;refine i8.dK lc.c lc.n8 rfl rfl rfl fun p8 H9 i9=> ?_;refine i9.dK lc.c lc.n9 rfl rfl rfl fun p9 H10 i10=> ?_;refine i10.dK lc.c lc.n10 rfl rfl rfl fun p10 H11 i11=> ?_;refine i11.dK lc.c lc.n11 rfl rfl rfl fun p11 H12 i12=> ?_;refine i12.dT lc.c lc.n12 rfl rfl rfl fun p12 H13 i13=> ?_;clear i0 i1 i2 i3 i4 i5 i6 i7 i8 i9 i10 i11 i12
 let ps:List Addr:=[p0,p1,p2,p3,p4,p5,p6,p7,p8,p9,p10,p11,p12]
 let cs:List (Addr × HO):=[(p0,.lst []),(p1,.lst []),(p2,.dK []),(p3,.dK []),(p4,.dK []),(p5,.dK []),(p6,.dK []),(p7,.dK []),(p8,.dK []),(p9,.dK []),(p10,.dK []),(p11,.dK []),(p12,.dT [])]
 let LA:=fun ex=>LoA.mk ex dx p0 p1 p2 p3 p4 p5 p6 p7 p8 p9 p10 p11 p12
 have nd:ps.Nodup:=i13.nd;have ct:∀{i:Nat} {p:Addr} {c:HO},(cs[i]? =some (p,c))->H13 p=some c/\wG 0 ps p=some (0+i,none):=fun {i p c} h=>⟨i13.at' _ (ar h),Ds nd (by have:=congrArg (Option.map (·.1)) h;rw[<-aQ] at this;exact this)⟩;have tin:∀b i,wG 0 ps b=some i->∃o,(b,o)∈cs:=fun b i h=>by
  have hm:b∈(cs.map (·.1)):=uX h;obtain⟨q,hq,rfl⟩:=bS.mp hm;exact⟨q.2,hq⟩
 have aT:wG 0 ps a=none:=by
  cases h:wG 0 ps a with
  | none=>rfl
  | some i=>obtain⟨o,ho⟩:=tin a i h;exact absurd rfl (i13.new _ ho).2
 have nN:∀{α:Type} (k:Key),kN (fun _=>([]:List α)) k=[]:=fun {α} k=>by cases k with | inl i=>show(if _ then _ else _)=_;split<;>rfl | inr r=>rfl
 have nS:∀{α:Type} (k:Key),kS (fun _=>([]:List α)) k=[]:=fun {α} k=>by cases k<;>rfl
 have l0:LoreAt C (LA []) a 0 (wG 0 ps) H13 LoI.emp:=⟨(fun b i h=>by obtain⟨o,ho⟩:=tin b i h;rw[i13.at' _ ho];intro z;cases z),aT,i13.ob,FLs.nil (ct (i:=0) rfl).2 (ct (i:=0) rfl).1,FLs.nil (ct (i:=1) rfl).2 (ct (i:=1) rfl).1,⟨(ct (i:=2) rfl).2,[],(ct (i:=2) rfl).1,fun k _=>rfl,ay _⟩,FK.nil Ob (ct (i:=3) rfl).2 (ct (i:=3) rfl).1,FTb.nil nN (ct (i:=4) rfl).2 (ct (i:=4) rfl).1,FTb.nil nN (ct (i:=5) rfl).2 (ct (i:=5) rfl).1,FTb.nil nS (ct (i:=6) rfl).2 (ct (i:=6) rfl).1,FTb.nil nS (ct (i:=7) rfl).2 (ct (i:=7) rfl).1,FTb.nil nS (ct (i:=8) rfl).2 (ct (i:=8) rfl).1,FTb.nil nN (ct (i:=9) rfl).2 (ct (i:=9) rfl).1,FTb.nil nN (ct (i:=10) rfl).2 (ct (i:=10) rfl).1,FK.nil OO (ct (i:=11) rfl).2 (ct (i:=11) rfl).1,FT.nil Ov (ct (i:=12) rfl).2 (ct (i:=12) rfl).1,fun k h=>(ak h).elim,ay _,rfl,.inl rfl⟩;have nm1:okK anyW:=by show gV _=true;decide+kernel
 have nm2:okK nothW:=by show gV _=true;decide+kernel
 refine⟨_,_,l0.ob,l0.lkNo,a,_,0,_,_,_,anyW,rfl,l0,rfl,nm1,by decide,hd,by decide,fun H14 T14 f14 l14=> ?_⟩;rw[NI];refine⟨a,C,dx,_,rfl,l14.ob,lc.c,lc.n13,by show 13<1000;decide,?_⟩;have l15:=l14.setex (A':=(LA KJ)) rfl (.inr (.inl rfl)) rfl;have y15:jo "anything" (.int ((0:Nat):Int)) (mV (LA []))=mV (LA KJ):=rfl;rw[y15];refine⟨_,_,l15.ob,l15.lkNo,a,_,_,_,_,_,nothW,rfl,l15,rfl,nm2,by decide,hd,by decide,fun H16 T16 f16 l16=> ?_⟩;rw[show(LoI.num nothW (LoI.num anyW LoI.emp)).ix nothW=1 from LF];refine⟨a,C,dx,_,rfl,l16.ob,lc.c,lc.n14,by show 14<1000;decide,?_⟩;have l17:=l16.setex (A':=(LA FU)) rfl (.inr (.inr rfl)) rfl;have y17:jo "nothing" (.int ((1:Nat):Int)) (mV (LA KJ))=mV (LA FU):=rfl;rw[y17];generalize hT0:wG 0 ps=T0 at f14 tin aT;have un:∀{b o},H b=some o->b≠a->H13 b=some o/\∀i k,T0 b=some (i,k)->i∉[0,1,2]:=fun {b o} e n=>⟨i13.old b o e n,fun i k z=>by
  obtain⟨o',ho⟩:=tin b _ z;have:=(i13.new _ ho).1;rw[e] at this;cases this⟩
 have un14:∀{b o},H b=some o->b≠a->H14 b=some o/\∀i k,T14 b=some (i,k)->i∉[0,1,2]:=fun {b o} e n=>by
  obtain⟨u1,u2⟩:=un e n;refine⟨f14.but b o u1 u2,fun i k z=> ?_⟩;rcases f14.new b _ z with z | z
  · exact u2 i k z
  · rw[u1] at z;cases z.1
 have un16:∀{b o},H b=some o->b≠a->H16 b=some o/\∀i k,T16 b=some (i,k)->False:=fun {b o} e n=>by
  obtain⟨u1,u2⟩:=un14 e n;have e15:upd H14 a (.ins C dx (mV (LA KJ))) b=some o:=by rw[aD n];exact u1
  refine⟨f16.but b o e15 u2,fun i k z=> ?_⟩;rcases f16.new b _ z with z | z
  · rcases f14.new b _ z with z | z
    · obtain⟨o',ho⟩:=tin b _ z;have:=(i13.new _ ho).1;rw[e] at this;cases this
    · rw[(un e n).1] at z;cases z.1
  · rw[e15] at z;cases z.1
 refine q _ (LA FU) T16 (fun b o e n=>by rw[aD n];exact(un16 e n).1) (fun b i z=> ?_) l17 rfl;have nb:b≠a:=fun e=>by rw[e,l16.oT] at z;cases z
 cases e:H b with
 | none=>rfl
 | some o=>exact((un16 e nb).2 i.1 i.2 z).elim
end
noncomputable def LoI.of(ps:List (Int × Sy))(ks:List Kd):LoI:=ks.foldl (fun L k=>LoI.kk k L) (ps.foldl (fun L q=>LoI.learn q.1 q.2 L) LoI.init)
noncomputable def iC(ps:List (Int × Sy)):Nat:=(ps.map fun q=>6 * q.2.szs+2).sum
noncomputable def jm(ks:List Kd):Nat:=(ks.map fun k=>5 * k.sz).sum
def iO{α:Type}(f:α->Nat)(l:List α)(i:Nat):((l.take i).map f).sum<=(l.map f).sum:=by
 conv=>rhs;rw[<-ju i l,bj,gy]
 exact cR _ _
def iP{α:Type}(f:α->Nat){l:List α}{i:Nat}{x:α}(h:l[i]? =some x):((l.take (i+1)).map f).sum=((l.take i).map f).sum+f x:=by
 rw[bH,h,bj,gy];simp
def lF{α β:Type}(f:β->α->β)(b:β){l:List α}{i:Nat}{x:α}(h:l[i]? =some x):(l.take (i+1)).foldl f b=f ((l.take i).foldl f b) x:=by
 rw[bH,h,fz];rfl
def LoI.tb_rest(n:Int)(s:Sy)(L:LoI):(LoI.tb n s L).parts=L.parts/\(LoI.tb n s L).shapes=L.shapes:=by cases s<;>exact⟨rfl,rfl⟩
def LoI.learn_ok(n:Int)(s:Sy){L:LoI}(o:L.Ok):(LoI.learn n s L).Ok:=(LoI.kks_ok o _).of (LoI.tb_rest _ _ _).1 (LoI.tb_rest _ _ _).2
theorem jT{α:Type}{f:LoI->α->LoI}(hf:∀L x,L.Ok->(f L x).Ok):∀(l:List α) {L:LoI},L.Ok->(l.foldl f L).Ok
 | [],_,o=>o
 | x::l,_,o=>jT hf l (hf _ x o)
def vQ(d:Nat)(k:Kd):Prop:=okK k/\k.nt<=24/\k.dep<d
inductive q_(C:Addr)(d:Nat)(vs:List V)(H:Hp)(Q:VK):Prop
 | mk:∀lp lf ys zs ps ks,(vs=[.ref lp,.ref lf])->(H lp=some (.lst ys))->(PrL H ys ps)->(H lf=some (.lst zs))->(KL H zs ks)->((∀q∈ps,q.2.gd d))->((∀k∈ks,vQ d k))->(2+iC ps+jm ks<=40000)->(∀H' a A T,Same H H'->(∀b i,T b=some i->H b=none)->H a=none->LoreAt C A a (2+iC ps+jm ks) T H' (LoI.of ps ks)->A.ex=FU->Q (.ref a) H')->q_ C d vs H Q
def xf(C:Addr)(d:Nat):Sp:=fun vs H Q _=>q_ C d vs H Q
section
def scLoreOf:bq ["pairs","further","lore","number","saying","kind"] Bw (aK vw):=gU
def Cw(F:Fun K "lore_of" "lore_of" vw f fd)(lc:wD K C)(Gin:Il P w K mg base C (2 * d+1) "Lore" nI (Ba C))(Gle:Ml P w K mg base C (2 * d+3) "learn" Bs (AX C d))(Gkn:Ml P w K mg base C (d+1) "know" nK (mv C d))(Gno:Ml P w K mg base C (2 * d) "number_of" fH (nB C d)):b_ P w K mg base fj (2 * d+4) f fd Bw (xf C d):=by
 refine F.o scLoreOf fun cdv A outer s0 H vs Q E hr h=> ?_;obtain⟨lp,lf,ys,zs,ps,ks,rfl,elp,hps,elf,hks,gp,gk,hN,q⟩:=h;refine⟨_,a_ (fe 2 scLoreOf.nd (Nr Gin hr)) (jM (lZ (cj aB) (eY rfl (br (fq 3 scLoreOf.nd) (br (fq 4 scLoreOf.nd) dX))) (bb (bg (iw bF lc.c Gle hr (fb bU bX))))) (a_ (lZ (cj bp) (fq 5 scLoreOf.nd) (bb (bg (iw bF lc.c Gkn hr (eF (iw bF lc.c Gno hr (eF cX))))))) (bb (cE bF)))),?_⟩;refine fun a dx ha hdx ne=> ?_;refine⟨a,dx,rfl,aa,fun H1 B T1 bt tn l1 ex=>⟨rfl,?_⟩⟩;have s1:Same H H1:=fun b o e=>by
  have nb:b≠a:=ba e ha;have nd:b≠dx:=ba e hdx;exact bt b o (by rw[aD nb,aD nd];exact e) nb
 have t1:∀b i,T1 b=some i->H b=none:=fun b i z=>by
  have:=tn b i z;by_cases h1:b=a
  · rw[h1];exact ha
  · by_cases h2:b=dx
    · rw[h2];exact hdx
    · rw[aD h1,aD h2] at this;exact this
 have frS:∀{S:List Nat} {T2:Tg} {H2:Hp},Fr S T1 T2 H1 H2->Same H H2/\∀b i,T2 b=some i->H b=none:=fun {S T2 H2} fr=>⟨fun b o e=>fr.but b o (s1 b o e) (fun i k z=>by rw[t1 b _ z] at e;cases e),fun b i z=>by
  rcases fr.new b i z with z | z
  · exact t1 b i z
  · cases e:H b with
    | none=>rfl
    | some o=>rw[s1 b o e] at z;cases z.1⟩
 have okI:=LoI.init_ok;have lp2:ys.length=ps.length:=aS hps;have lk2:zs.length=ks.length:=aS hks;refine⟨fun σ H'=>∃(o3 o4 o5:Option V) (T':Tg),σ=[some (.ref lp),some (.ref lf),some (.ref a),o3,o4,o5]/\Fr Dh T1 T' H1 H'/\LoreAt C B a (2+iC ps) T' H' (ps.foldl (fun L q=>LoI.learn q.1 q.2 L) LoI.init),?_,?_⟩
 · refine⟨⟨_,SqL.of (s1 _ _ elp)⟩,cf (xs:=ys) (fun i σ H'=>∃(o3 o4 o5:Option V) (T':Tg),σ=[some (.ref lp),some (.ref lf),some (.ref a),o3,o4,o5]/\Fr Dh T1 T' H1 H'/\LoreAt C B a (2+iC (ps.take i)) T' H' ((ps.take i).foldl (fun L q=>LoI.learn q.1 q.2 L) LoI.init)) ⟨none,none,none,T1,rfl,Fr.refl,l1.mono (cR _ _)⟩ ?_ ?_ ?_⟩
   · rintro i σ H' _ ⟨o3,o4,o5,T',rfl,fr,_⟩;exact SqL.of ((frS fr).1 _ _ elp)
   · rintro i x σ H' hx ⟨o3,o4,o5,T',rfl,fr,l⟩;obtain⟨pq,hpq,t,vy,rfl,ht,hsy⟩:=cG hps hx;have sm:=(frS fr).1;have c1:=iP (fun q:Int × Sy=>6 * q.2.szs+2) hpq;have c2:=iO (fun q:Int × Sy=>6 * q.2.szs+2) ps (i+1);have c3:iC (ps.take (i+1))=iC (ps.take i)+(6 * pq.2.szs+2):=c1;have c4:iC (ps.take (i+1))<=iC ps:=c2;refine⟨_,SqT.of (sm _ _ ht),rfl,?_⟩;refine⟨_,_,l.ob,l.lkLe,a,B,_,T',_,pq.1,vy,pq.2,rfl,l,jT (fun L q o=>LoI.learn_ok _ _ o) _ okI,hsy.mono sm.tups,gp _ (ar hpq),by lia,fun H2 T2 f2 l2=>⟨_,_,_,T2,rfl,fr.trans f2,?_⟩⟩;rw[c3,lF _ _ hpq];exact l2.mono (by lia)
   · rintro σ H' ⟨o3,o4,o5,T',rfl,fr,l⟩;rw[lp2,be] at l;exact⟨o3,o4,o5,T',rfl,fr,l⟩
 rintro σ H' ⟨o3,o4,o5,T',rfl,fr,l⟩;have S012:∀j∈[0,1,2],j∈Dh:=by decide
 have S5:∀j∈[3,9,10,11,12],j∈Dh:=by decide
 have okP:(ps.foldl (fun L q=>LoI.learn q.1 q.2 L) LoI.init).Ok:=jT (fun L q o=>LoI.learn_ok _ _ o) _ okI;refine⟨⟨_,SqL.of ((frS fr).1 _ _ elf)⟩,cf (xs:=zs) (fun i σ H2=>∃(o5:Option V) (T2:Tg),σ=[some (.ref lp),some (.ref lf),some (.ref a),o3,o4,o5]/\Fr Dh T1 T2 H1 H2/\LoreAt C B a (2+iC ps+jm (ks.take i)) T2 H2 ((ks.take i).foldl (fun L k=>LoI.kk k L) (ps.foldl (fun L q=>LoI.learn q.1 q.2 L) LoI.init))) ⟨o5,T',rfl,fr,l.mono (cR _ _)⟩ ?_ ?_ ?_⟩
 · rintro i σ H2 _ ⟨o5,T2,rfl,f2,_⟩;exact SqL.of ((frS f2).1 _ _ elf)
 · rintro i x σ H2 hx ⟨o5,T2,rfl,f2,l2⟩;obtain⟨k,hk,ik⟩:=KL.get hks hx;have sm:=(frS f2).1;obtain⟨g1,g2,g3⟩:=gk k (ar hk);have c3:jm (ks.take (i+1))=jm (ks.take i)+5 * k.sz:=iP (fun k:Kd=>5 * k.sz) hk;have c4:jm (ks.take (i+1))<=jm ks:=iO (fun k:Kd=>5 * k.sz) ks (i+1);refine⟨_,_,l2.ob,l2.lkKn,_,_,l2.ob,l2.lkNo,a,B,_,T2,_,x,k,rfl,l2,IsK.mono sm.tups ik,g1,g2,g3,by lia,fun H3 T3 f3 l3=> ?_⟩;refine⟨a,B,_,T3,_,k,rfl,l3,LoI.num_ok _ (jT (fun L q o=>LoI.kk_ok _ o) _ okP),LoI.num_has _ _,g3,by lia,fun H4 T4 f4 l4=>⟨_,T4,rfl,(f2.trans (f3.mono S012)).trans (f4.mono S5),?_⟩⟩;rw[c3,lF _ _ hk];exact l4.mono (by lia)
 · rintro σ H2 ⟨o5,T2,rfl,f2,l2⟩;rw[lk2,be] at l2;exact(q H2 a B T2 (frS f2).1 (frS f2).2 ha l2 ex)
end
inductive Fi where
 | is (x k:Nat) | has (x:Nat) (t:Str) (y:Nat)
 deriving DecidableEq
structure StI where
 steps:List p_
 facts:List Fi
 stand:List Nat
def HI(H:Hp)(v:V):Fi->Prop
 | .is x k=>∃p:Addr,v= .ref p/\H p=some (.tup [.int (x:Int),.int (k:Int)])
 | .has x t y=>∃p:Addr,v= .ref p/\H p=some (.tup [.int (x:Int),.str t,.int (y:Int)])
def fi_mo:Mo HI:=fun H H' v f t h=>by
 cases f with
 | is x k=>obtain⟨p,e,h⟩:=h;exact⟨p,e,t _ _ h⟩
 | has x r y=>obtain⟨p,e,h⟩:=h;exact⟨p,e,t _ _ h⟩
noncomputable def Fi.key:Fi->List Key
 | .is x k=>[.inl (x:Int),.inl (k:Int)]
 | .has x t y=>[.inl (x:Int),.inr t,.inl (y:Int)]
theorem Fi.key_inj:∀{a b:Fi},a.key=b.key->a=b
 | .is x k,.is x' k',h=>by simp only[Fi.key,bC,Sum.inl.injEq,and_true] at h;rw[show x=x' by lia,show k=k' by lia]
 | .is _ _,.has _ _ _,h=>by simp[Fi.key] at h
 | .has _ _ _,.is _ _,h=>by simp[Fi.key] at h
 | .has x t y,.has x' t' y',h=>by simp only[Fi.key,bC,Sum.inl.injEq,Sum.inr.injEq,and_true] at h;rw[show x=x' by lia,h.2.1,show y=y' by lia]
noncomputable def cM(l:List Nat):Nat:=l.foldl (fun m i=>m ||| 2^i) 0
def yd(l:List Nat)(i:Nat):cM (l++[i])=cM l ||| 2^i:=by unfold cM;rw[fz];rfl
def kH(l:List Nat)(i:Nat):(cM l).testBit i=decide (i∈l):=by
 have key:∀(l:List Nat) (m:Nat),(l.foldl (fun m i=>m ||| 2^i) m).testBit i=(m.testBit i || decide (i∈l)):=fun l=>by
  induction l with
  | nil=>intro m;simp
  | cons j l ih=>
    intro m;rw[eO,ih,Fw];by_cases e:j=i
    · subst e;simp
    · have:¬ i=j:=fun z=>e z.symm;simp[e,this]
 show(l.foldl _ 0).testBit i=_;rw[key l 0];simp
def nQ(h:∀i∈l,i<n):cM l<2^n:=by
 refine Nat.lt_pow_two_of_testBit _ fun i hi=> ?_;rw[kH,aj];exact fun z=>by have:=h i z;lia
noncomputable def iU(F:List Fi)(x:Nat):List Nat:=F.filterMap fun | .is x' k=>if x'=x then some k else none | _=>none
noncomputable def iR(F:List Fi)(k:Nat):List Nat:=F.filterMap fun | .is x k'=>if k'=k then some x else none | _=>none
noncomputable def fA(sh:List Sh)(F:List Fi)(x:Nat)(r:Str):List Nat:=F.filterMap fun
 | .is x' k=>if x'=x then(match sh[k]? with | some (.some r' c)=>if r'=r then some c else none | _=>none) else none
 | _=>none
noncomputable def eP(F:List Fi)(x:Nat)(t:Str):List Nat:=F.filterMap fun | .has x' t' y=>if x'=x/\t'=t then some y else none | _=>none
noncomputable def cB(F:List Fi)(y:Nat)(t:Str):List Nat:=F.filterMap fun | .has x t' y'=>if y'=y/\t'=t then some x else none | _=>none
noncomputable def HM:Fi->List Str
 | .is _ _=>[]
 | .has _ t _=>[t]
noncomputable def eW(F:List Fi):List Str:=cZ [] (F.flatMap HM)
noncomputable def BE(F:List Fi)(ks:List Key):Option V:=(F.findIdx? fun f=>f.key=ks).map fun(i:Nat)=>V.int (i:Int)
noncomputable def zZ(g:Nat->List Nat):Key->Option V
 | .inl i=>if 0<=i/\g i.toNat≠[] then some (.int (cM (g i.toNat):Nat)) else none
 | .inr _=>none
noncomputable def CI(g:Nat->Str->List Nat):List Key->Option V
 | [.inl i,.inr t]=>if 0<=i/\g i.toNat t≠[] then some (.int (cM (g i.toNat t):Nat)) else none
 | _=>none
def vV(g:Nat->List Nat)(i:Nat):(zZ g (.inl (i:Int))).getD (.int 0)= .int (cM (g i):Nat):=by
 show Option.getD (if 0<=(i:Int)/\g (i:Int).toNat≠[] then some (V.int (cM (g (i:Int).toNat):Nat)) else none) _=_;rw[bW];by_cases e:g i=[]
 · rw[aE (fun z=>z.2 e),e];rfl
 · rw[aH ⟨by lia,e⟩];rfl
def qC(g:Nat->Str->List Nat)(i:Nat)(t:Str):(CI g [.inl (i:Int),.inr t]).getD (.int 0)= .int (cM (g i t):Nat):=by
 show Option.getD (if 0<=(i:Int)/\g (i:Int).toNat t≠[] then some (V.int (cM (g (i:Int).toNat t):Nat)) else none) _=_;rw[bW];by_cases e:g i t=[]
 · rw[aE (fun z=>z.2 e),e];rfl
 · rw[aH ⟨by lia,e⟩];rfl
def qD{n:Nat}(h1:g' n=g n++[j])(h2:∀i,i≠n->g' i=g i):(fun k:Key=>if k= .inl (n:Int) then some (V.int ((cM (g n) ||| 2^j:Nat):Int)) else zZ g k)=zZ g':=by
 funext k
 cases k with
 | inl i=>
   by_cases e:i=(n:Int)
   · subst e;rw[aH rfl];show _=if 0<=(n:Int)/\g' (n:Int).toNat≠[] then some (V.int (cM (g' (n:Int).toNat):Nat)) else none
     rw[bW,h1,aH ⟨by lia,by simp⟩,yd]
   · rw[aE (fun z=>e (by injection z))];show(if 0<=i/\g i.toNat≠[] then some (V.int (cM (g i.toNat):Nat)) else none)=if 0<=i/\g' i.toNat≠[] then some (V.int (cM (g' i.toNat):Nat)) else none
     by_cases c:0<=i
     · rw[h2 i.toNat (by lia)]
     · rw[aE (fun z=>c z.1),aE (fun z=>c z.1)]
 | inr r=>rw[aE (by intro z;cases z)];rfl
def vU{n:Nat}(h1:g' n t=g n t++[j])(h2:∀i s,¬ (i=n/\s=t)->g' i s=g i s):(fun k:List Key=>if k=[.inl (n:Int),.inr t] then some (V.int ((cM (g n t) ||| 2^j:Nat):Int)) else CI g k)=CI g':=by
 funext k
 by_cases e:k=[.inl (n:Int),.inr t]
 · subst e;rw[aH rfl];show _=if 0<=(n:Int)/\g' (n:Int).toNat t≠[] then some (V.int (cM (g' (n:Int).toNat t):Nat)) else none
   rw[bW,h1,aH ⟨by lia,by simp⟩,yd]
 · rw[aE e]
   match k,e with
   | [.inl i,.inr s],e=>
     show(if 0<=i/\g i.toNat s≠[] then some (V.int (cM (g i.toNat s):Nat)) else none)=if 0<=i/\g' i.toNat s≠[] then some (V.int (cM (g' i.toNat s):Nat)) else none
     by_cases c:0<=i
     · rw[h2 i.toNat s (fun z=>e (by rw[z.2,<-z.1,Oo c]))]
     · rw[aE (fun z=>c z.1),aE (fun z=>c z.1)]
   | [],_=>rfl
   | [.inl _],_=>rfl
   | [.inr _],_=>rfl
   | [.inr _,_],_=>rfl
   | [.inl _,.inl _],_=>rfl
   | x::y::z::w,_=>cases x<;>cases y<;>rfl
def x8(h:∀i,g' i=g i):zZ g'=zZ g:=by rw[funext h]
def iT(h:∀i t,g' i t=g i t):CI g'=CI g:=by rw[show g'=g from funext fun i=>funext (h i)]
def xJ(h:f∉F):BE F f.key=none:=by
 unfold BE;rw[mS.mpr (fun g hg=>aj fun e=>h (by rw[<-Fi.key_inj e];exact hg))]
 rfl
def xI(h:f∈F):BE F f.key=some (.int (F.idxOf f:Nat)):=by
 unfold BE;have:(F.findIdx? fun g=>decide (g.key=f.key))=some (F.idxOf f):=by
  induction F with
  | nil=>exact(ak h).elim
  | cons g F ih=>
    rw[List.findIdx?_cons,List.idxOf_cons];by_cases e:g=f
    · subst e;simp
    · have e1:¬ g.key=f.key:=fun z=>e (Fi.key_inj z);rw[aE (by simp[e1]),cv.mpr e,cond_false,ih ((aL.mp h).resolve_left (fun z=>e z.symm))]
      rfl
 rw[this];rfl
def vJ(h:f∉F):(fun k:List Key=>if k=f.key then some (V.int (F.length:Nat)) else BE F k)=BE (F++[f]):=by
 funext k
 unfold BE;rw[List.findIdx?_append];by_cases e:k=f.key
 · subst e;rw[aH rfl,mS.mpr (fun g hg=>aj fun e=>h (by rw[<-Fi.key_inj e];exact hg))];simp
 · rw[aE e];have:([f].findIdx? fun g=>decide (g.key=k))=none:=mS.mpr fun g hg=>by
    rw[af.mp hg];exact aj fun z=>e z.symm
   rw[this];cases F.findIdx? fun g=>decide (g.key=k)<;>rfl
def IsSt(T:Tg)(H:Hp)(v:V)(s:p_):Prop:=∃p pf vf,v= .ref p/\H p=some (.tup [vf,.str s.r,.ref pf,mJ s.n])/\IsF H s.f vf/\H pf=some (.lst (s.fr.map V.int))/\T pf=none
def Fr.free(f:Fr S T T' H H')(e:H b=some o)(t:T b=none):T' b=none/\H' b=some o:=by
 refine⟨?_,f.but b o e (fun i k z=>by rw[t] at z;cases z)⟩;cases c:T' b with
 | none=>rfl
 | some j=>
   rcases f.new b j c with z | z
   · rw[t] at z;cases z
   · rw[e] at z;cases z.1
def IsSt.fr(f:Fr S T T' H H')(h:IsSt T H v s):IsSt T' H' v s:=by
 obtain⟨p,pf,vf,e,h1,h2,h3,h4⟩:=h;obtain⟨t,e'⟩:=Fr.free f h3 h4;exact⟨p,pf,vf,e,f.tups _ _ h1,h2.mono f.tups,e',t⟩
def FSt(H:Hp)(T:Tg)(q:Addr)(ss:List p_):Prop:=T q=some (13,none)/\∃vs,H q=some (.lst vs)/\Paired (IsSt T H) vs ss
def FSt.fr(f:Fr S T T' H H')(hi:13∉S)(h:FSt H T q ss):FSt H' T' q ss:=by
 obtain⟨t,vs,e,r⟩:=h;exact⟨f.tg _ _ t,vs,f.at hi t e,Paired.imp' (fun _ _ z=>IsSt.fr f z) r⟩
structure yN where
 (dx q0 q1 q2 q3 q4 q5 q6 q7 q8 q9:Addr)
noncomputable def mU(B:yN)(l:Addr):List (Str × V):=[("lore",.ref l),("steps",.ref B.q0),("facts",.ref B.q1),("places",.ref B.q2),("stand_ins",.ref B.q3),("kinds_of",.ref B.q4),("those_of",.ref B.q5),("fillers_of",.ref B.q6),("ends",.ref B.q7),("starts",.ref B.q8),("ties",.ref B.q9)]
structure Gd where
 steps:List p_
 facts:List Fi
 pl:List Key->Option V
 st:Key->Option V
 ko:Key->Option V
 to:Key->Option V
 fo:List Key->Option V
 en:List Key->Option V
 sa:List Key->Option V
 ti:List Str
noncomputable def StI.gd(sh:List Sh)(S:StI):Gd:=⟨S.steps,S.facts,BE S.facts,KI S.stand,zZ (iU S.facts),zZ (iR S.facts),CI (fA sh S.facts),CI (eP S.facts),CI (cB S.facts),eW S.facts⟩
structure StG(D:Addr)(B:yN)(b l:Addr)(n:Nat)(T:Tg)(H:Hp)(G:Gd):Prop where
 tg:TgOk T H
 oT:T b=none
 ob:H b=some (.ins D B.dx (mU B l))
 s0:FSt H T B.q0 G.steps
 s1:FLs HI H T 14 B.q1 G.facts
 s2:FT H T 15 B.q2 G.pl n
 s3:FK H T 16 B.q3 G.st n
 s4:FK H T 17 B.q4 G.ko n
 s5:FK H T 18 B.q5 G.to n
 s6:FT H T 19 B.q6 G.fo n
 s7:FT H T 20 B.q7 G.en n
 s8:FT H T 21 B.q8 G.sa n
 s9:T B.q9=some (22,none)/\H B.q9=some (.dK (Dn G.ti))/\G.ti.length<=n
noncomputable abbrev fg:List Nat:=[13,14,15,16,17,18,19,20,21,22]
def StG.renew{D:Addr}{B:yN}{b l:Addr}{n n':Nat}{S:List Nat}{T T':Tg}{H H':Hp}{G G':Gd}(h:StG D B b l n T H G)(hn:n<=n')(f:Fr S T T' H H')(tg:TgOk T' H')(c0:FSt H' T' B.q0 G'.steps\/(13∉S/\G'.steps=G.steps):=by exact .inr ⟨by decide,rfl⟩)(c1:FLs HI H' T' 14 B.q1 G'.facts\/(14∉S/\G'.facts=G.facts):=by exact .inr ⟨by decide,rfl⟩)(c2:FT H' T' 15 B.q2 G'.pl n'\/(15∉S/\G'.pl=G.pl):=by exact .inr ⟨by decide,rfl⟩)(c3:FK H' T' 16 B.q3 G'.st n'\/(16∉S/\G'.st=G.st):=by exact .inr ⟨by decide,rfl⟩)(c4:FK H' T' 17 B.q4 G'.ko n'\/(17∉S/\G'.ko=G.ko):=by exact .inr ⟨by decide,rfl⟩)(c5:FK H' T' 18 B.q5 G'.to n'\/(18∉S/\G'.to=G.to):=by exact .inr ⟨by decide,rfl⟩)(c6:FT H' T' 19 B.q6 G'.fo n'\/(19∉S/\G'.fo=G.fo):=by exact .inr ⟨by decide,rfl⟩)(c7:FT H' T' 20 B.q7 G'.en n'\/(20∉S/\G'.en=G.en):=by exact .inr ⟨by decide,rfl⟩)(c8:FT H' T' 21 B.q8 G'.sa n'\/(21∉S/\G'.sa=G.sa):=by exact .inr ⟨by decide,rfl⟩)(c9:(H' B.q9=some (.dK (Dn G'.ti))/\G'.ti.length<=n')\/(22∉S/\G'.ti=G.ti):=by exact .inr ⟨by decide,rfl⟩):StG D B b l n' T' H' G':=by
 have k:∀{i p g},FK H T i p g n->i∉S->FK H' T' i p g n':=fun z hi=>by
  obtain⟨t,kvs,e,r,le⟩:=z.fr f hi;exact⟨t,kvs,e,r,aq le hn⟩
 have t:∀{i p g},FT H T i p g n->i∉S->FT H' T' i p g n':=fun z hi=>by
  obtain⟨t,kvs,e,r,le⟩:=z.fr f hi;exact⟨t,kvs,e,r,aq le hn⟩
 obtain⟨o1,o2⟩:=Fr.free f h.ob h.oT;refine⟨tg,o1,o2,?_,?_,?_,?_,?_,?_,?_,?_,?_,f.tg _ _ h.s9.1,?_⟩
 · rcases c0 with c | ⟨c,e⟩;exact c;rw[e];exact h.s0.fr f c
 · rcases c1 with c | ⟨c,e⟩;exact c;rw[e];exact h.s1.fr fi_mo f c
 · rcases c2 with c | ⟨c,e⟩;exact c;rw[e];exact t h.s2 c
 · rcases c3 with c | ⟨c,e⟩;exact c;rw[e];exact k h.s3 c
 · rcases c4 with c | ⟨c,e⟩;exact c;rw[e];exact k h.s4 c
 · rcases c5 with c | ⟨c,e⟩;exact c;rw[e];exact k h.s5 c
 · rcases c6 with c | ⟨c,e⟩;exact c;rw[e];exact t h.s6 c
 · rcases c7 with c | ⟨c,e⟩;exact c;rw[e];exact t h.s7 c
 · rcases c8 with c | ⟨c,e⟩;exact c;rw[e];exact t h.s8 c
 · rcases c9 with c | ⟨c,e⟩;exact c;rw[e];exact⟨f.at c h.s9.1 h.s9.2.1,aq h.s9.2.2 hn⟩
abbrev nc{p q:Prop}(h:q):p\/q:= .inr h
def StG.same(h:StG D B b l n T H G)(s:Same H H'):StG D B b l n T H' G:=by
 have z:∀{i:Nat},i∉([]:List Nat):=fun h=>ak h;exact h.renew (au _) (Fr.of (S:=[]) s) (h.tg.same s) (nc ⟨z,rfl⟩) (nc ⟨z,rfl⟩) (nc ⟨z,rfl⟩) (nc ⟨z,rfl⟩) (nc ⟨z,rfl⟩) (nc ⟨z,rfl⟩) (nc ⟨z,rfl⟩) (nc ⟨z,rfl⟩) (nc ⟨z,rfl⟩) (nc ⟨z,rfl⟩)
def StG.fr(h:StG D B b l n T H G)(f:Fr S T T' H H')(hS:∀i∈S,i<13)(tg:TgOk T' H'):StG D B b l n T' H' G:=by
 have z:∀{i:Nat},13<=i->i∉S:=fun hi m=>by have:=hS _ m;lia
 exact h.renew (au _) f tg (nc ⟨z (by decide),rfl⟩) (nc ⟨z (by decide),rfl⟩) (nc ⟨z (by decide),rfl⟩) (nc ⟨z (by decide),rfl⟩) (nc ⟨z (by decide),rfl⟩) (nc ⟨z (by decide),rfl⟩) (nc ⟨z (by decide),rfl⟩) (nc ⟨z (by decide),rfl⟩) (nc ⟨z (by decide),rfl⟩) (nc ⟨z (by decide),rfl⟩)
section
def StG.put15(h:StG D B b l n T H G)(e:H B.q2=some (.dT kvs)):Fr [15] T T H (upd H B.q2 (.dT (bV kvs k v)))/\StG D B b l (n+1) T (upd H B.q2 (.dT (bV kvs k v))) {G with pl:=fun j=>if j=k then some v else G.pl j}:=by
 obtain⟨n',f⟩:=h.s2.put (k:=k) (v:=v) e;exact⟨f,h.renew (bA n) f h.tg.put (c2:= .inl n')⟩
def StG.put16(h:StG D B b l n T H G)(e:H B.q3=some (.dK kvs)):Fr [16] T T H (upd H B.q3 (.dK (bV kvs k v)))/\StG D B b l (n+1) T (upd H B.q3 (.dK (bV kvs k v))) {G with st:=fun j=>if j=k then some v else G.st j}:=by
 obtain⟨n',f⟩:=h.s3.put (k:=k) (v:=v) e;exact⟨f,h.renew (bA n) f h.tg.put (c3:= .inl n')⟩
def StG.put17(h:StG D B b l n T H G)(e:H B.q4=some (.dK kvs)):Fr [17] T T H (upd H B.q4 (.dK (bV kvs k v)))/\StG D B b l (n+1) T (upd H B.q4 (.dK (bV kvs k v))) {G with ko:=fun j=>if j=k then some v else G.ko j}:=by
 obtain⟨n',f⟩:=h.s4.put (k:=k) (v:=v) e;exact⟨f,h.renew (bA n) f h.tg.put (c4:= .inl n')⟩
def StG.put18(h:StG D B b l n T H G)(e:H B.q5=some (.dK kvs)):Fr [18] T T H (upd H B.q5 (.dK (bV kvs k v)))/\StG D B b l (n+1) T (upd H B.q5 (.dK (bV kvs k v))) {G with to:=fun j=>if j=k then some v else G.to j}:=by
 obtain⟨n',f⟩:=h.s5.put (k:=k) (v:=v) e;exact⟨f,h.renew (bA n) f h.tg.put (c5:= .inl n')⟩
def StG.put19(h:StG D B b l n T H G)(e:H B.q6=some (.dT kvs)):Fr [19] T T H (upd H B.q6 (.dT (bV kvs k v)))/\StG D B b l (n+1) T (upd H B.q6 (.dT (bV kvs k v))) {G with fo:=fun j=>if j=k then some v else G.fo j}:=by
 obtain⟨n',f⟩:=h.s6.put (k:=k) (v:=v) e;exact⟨f,h.renew (bA n) f h.tg.put (c6:= .inl n')⟩
def StG.put20(h:StG D B b l n T H G)(e:H B.q7=some (.dT kvs)):Fr [20] T T H (upd H B.q7 (.dT (bV kvs k v)))/\StG D B b l (n+1) T (upd H B.q7 (.dT (bV kvs k v))) {G with en:=fun j=>if j=k then some v else G.en j}:=by
 obtain⟨n',f⟩:=h.s7.put (k:=k) (v:=v) e;exact⟨f,h.renew (bA n) f h.tg.put (c7:= .inl n')⟩
def StG.put21(h:StG D B b l n T H G)(e:H B.q8=some (.dT kvs)):Fr [21] T T H (upd H B.q8 (.dT (bV kvs k v)))/\StG D B b l (n+1) T (upd H B.q8 (.dT (bV kvs k v))) {G with sa:=fun j=>if j=k then some v else G.sa j}:=by
 obtain⟨n',f⟩:=h.s8.put (k:=k) (v:=v) e;exact⟨f,h.renew (bA n) f h.tg.put (c8:= .inl n')⟩
def StG.app14(h:StG D B b l n T H G)(e:H B.q1=some (.lst vs))(r:HI H v f):Fr [14] T T H (upd H B.q1 (.lst (vs++[v])))/\StG D B b l n T (upd H B.q1 (.lst (vs++[v]))) {G with facts:=G.facts++[f]}:=by
 obtain⟨n',f⟩:=h.s1.app (v:=v) (x:=f) fi_mo e r;exact⟨f,h.renew (au n) f h.tg.put (c1:= .inl n')⟩
def StG.app13(h:StG D B b l n T H G)(e:H B.q0=some (.lst vs))(r:IsSt T H v s):Fr [13] T T H (upd H B.q0 (.lst (vs++[v])))/\StG D B b l n T (upd H B.q0 (.lst (vs++[v]))) {G with steps:=G.steps++[s]}:=by
 obtain⟨t,vs',e',rs⟩:=id h.s0;rw[e] at e';cases e';have f:Fr [13] T T H (upd H B.q0 (.lst (vs++[v]))):=Fr.put t (by simp) (fun xs z=>by rw[e] at z;cases z);have n':FSt (upd H B.q0 (.lst (vs++[v]))) T B.q0 (G.steps++[s]):=⟨t,_,aa,nO (Paired.imp' (fun _ _ z=>IsSt.fr f z) rs) (.cons (IsSt.fr f r) .nil)⟩;exact⟨f,h.renew (au n) f h.tg.put (c0:= .inl n')⟩
def StG.put22(h:StG D B b l n T H G):Fr [22] T T H (upd H B.q9 (.dK (bV (Dn G.ti) (.inr t) (.bl true))))/\StG D B b l (n+1) T (upd H B.q9 (.dK (bV (Dn G.ti) (.inr t) (.bl true)))) {G with ti:=oe G.ti t}:=by
 have f:Fr [22] T T H (upd H B.q9 (.dK (bV (Dn G.ti) (.inr t) (.bl true)))):=Fr.put h.s9.1 (by simp) (fun xs z=>by rw[h.s9.2.1] at z;cases z);exact⟨f,h.renew (bA n) f h.tg.put (c9:= .inl ⟨by rw[aa,pA],aq (yL _ _) (hG h.s9.2.2)⟩)⟩
end
structure uR(K:Frag)(D:Addr):Prop where
 c:Cls K D
 m0:NoAttr K D "lore"
 m1:NoAttr K D "steps"
 m2:NoAttr K D "facts"
 m3:NoAttr K D "places"
 m4:NoAttr K D "stand_ins"
 m5:NoAttr K D "kinds_of"
 m6:NoAttr K D "those_of"
 m7:NoAttr K D "fillers_of"
 m8:NoAttr K D "ends"
 m9:NoAttr K D "starts"
 m10:NoAttr K D "ties"
section
variable (B:yN)(l:Addr)
theorem qu:(mU B l).lookup ("lore":Str)=some (V.ref l):=rfl
theorem Lb:(mU B l).lookup ("steps":Str)=some (V.ref B.q0):=rfl
theorem KD:(mU B l).lookup ("facts":Str)=some (V.ref B.q1):=rfl
theorem DI:(mU B l).lookup ("places":Str)=some (V.ref B.q2):=rfl
theorem N3:(mU B l).lookup ("stand_ins":Str)=some (V.ref B.q3):=rfl
theorem M6:(mU B l).lookup ("kinds_of":Str)=some (V.ref B.q4):=rfl
theorem sk6:(mU B l).lookup ("those_of":Str)=some (V.ref B.q5):=rfl
theorem M5:(mU B l).lookup ("fillers_of":Str)=some (V.ref B.q6):=rfl
theorem My:(mU B l).lookup ("ends":Str)=some (V.ref B.q7):=rfl
theorem KC:(mU B l).lookup ("starts":Str)=some (V.ref B.q8):=rfl
theorem La:(mU B l).lookup ("ties":Str)=some (V.ref B.q9):=rfl
theorem zb:(mU B l).lookup ("keep_is":Str)=none:=rfl
theorem xn:(mU B l).lookup ("keep_has":Str)=none:=rfl
theorem dF:(mU B l).lookup ("tell_is":Str)=none:=rfl
theorem ie:(mU B l).lookup ("tell_has":Str)=none:=rfl
theorem nG:(mU B l).lookup ("let_stand":Str)=none:=rfl
theorem DG:(mU B l).lookup ("begin":Str)=none:=rfl
theorem DF:(mU B l).lookup ("go_on":Str)=none:=rfl
theorem u_:(mU B l).lookup ("from_kind":Str)=none:=rfl
theorem tp:(mU B l).lookup ("from_pairs":Str)=none:=rfl
theorem xq:(mU B l).lookup ("from_end":Str)=none:=rfl
theorem xp:(mU B l).lookup ("from_tie":Str)=none:=rfl
theorem rA:(mU B l).lookup ("from_chains":Str)=none:=rfl
end
noncomputable def StI.keep(S:StI)(f:Fi)(st:p_):StI:=⟨S.steps++[st],S.facts++[f],S.stand⟩
noncomputable def StI.cnt(S:StI):Nat:=6 * S.facts.length+S.stand.length
def fT{β:Type}(g:Fi->Option β)(F:List Fi)(f:Fi):(F++[f]).filterMap g=F.filterMap g++(match g f with | some y=>[y] | none=>[]):=by
 rw[jv]
 congr 1
 cases e:g f<;>simp[e]
def Iv(F:List Fi)(x k:Nat):iU (F++[.is x k]) x=iU F x++[k]:=by unfold iU;rw[fT];simp
def Iu(F:List Fi){x k i:Nat}(h:i≠x):iU (F++[.is x k]) i=iU F i:=by unfold iU;rw[fT];simp[bI h]
def JP(F:List Fi)(x:Nat)(t:Str)(y i:Nat):iU (F++[.has x t y]) i=iU F i:=by unfold iU;rw[fT];simp
def HL(F:List Fi)(x k:Nat):iR (F++[.is x k]) k=iR F k++[x]:=by unfold iR;rw[fT];simp
def HK(F:List Fi){x k i:Nat}(h:i≠k):iR (F++[.is x k]) i=iR F i:=by unfold iR;rw[fT];simp[bI h]
def II(F:List Fi)(x:Nat)(t:Str)(y i:Nat):iR (F++[.has x t y]) i=iR F i:=by unfold iR;rw[fT];simp
def J_{sh:List Sh}(F:List Fi){x k c:Nat}{r:Str}(h:sh[k]? =some (.some r c)):fA sh (F++[.is x k]) x r=fA sh F x r++[c]:=by unfold fA;rw[fT];simp[h]
def J9{sh:List Sh}(F:List Fi){x k c i:Nat}{r s:Str}(h:sh[k]? =some (.some r c))(n:¬ (i=x/\s=r)):fA sh (F++[.is x k]) i s=fA sh F i s:=by
 unfold fA;rw[fT];simp only[h];by_cases e:x=i
 · subst e;have:¬ r=s:=fun z=>n ⟨rfl,z.symm⟩;simp[this]
 · simp[e]
def J8{sh:List Sh}(F:List Fi){x k:Nat}(h:∀r c,sh[k]? ≠some (.some r c))(i:Nat)(s:Str):fA sh (F++[.is x k]) i s=fA sh F i s:=by
 unfold fA;rw[fT];cases e:sh[k]? with
 | none=>by_cases e2:x=i<;>simp[e,e2]
 | some q=>
   cases q with
   | no=>by_cases e2:x=i<;>simp[e,e2]
   | both a b=>by_cases e2:x=i<;>simp[e,e2]
   | some r c=>exact absurd e (h r c)
def Hm(F:List Fi)(x:Nat)(t:Str)(y i:Nat)(s:Str):fA sh (F++[.has x t y]) i s=fA sh F i s:=by unfold fA;rw[fT];simp
def Kc(F:List Fi)(x:Nat)(t:Str)(y:Nat):eP (F++[.has x t y]) x t=eP F x t++[y]:=by unfold eP;rw[fT];simp
def L3(F:List Fi){x y i:Nat}{t s:Str}(n:¬ (i=x/\s=t)):eP (F++[.has x t y]) i s=eP F i s:=by
 unfold eP;rw[fT];have:¬ (x=i/\t=s):=fun z=>n ⟨z.1.symm,z.2.symm⟩;simp[this]
def IC(F:List Fi)(x k i:Nat)(s:Str):eP (F++[.is x k]) i s=eP F i s:=by unfold eP;rw[fT];simp
def Ja(F:List Fi)(x:Nat)(t:Str)(y:Nat):cB (F++[.has x t y]) y t=cB F y t++[x]:=by unfold cB;rw[fT];simp
def Ll(F:List Fi){x y i:Nat}{t s:Str}(n:¬ (i=y/\s=t)):cB (F++[.has x t y]) i s=cB F i s:=by
 unfold cB;rw[fT];have:¬ (y=i/\t=s):=fun z=>n ⟨z.1.symm,z.2.symm⟩;simp[this]
def H_(F:List Fi)(x k i:Nat)(s:Str):cB (F++[.is x k]) i s=cB F i s:=by unfold cB;rw[fT];simp
def HN(F:List Fi)(x k:Nat):eW (F++[.is x k])=eW F:=by unfold eW;rw[Om];simp[HM]
def IP(F:List Fi)(x:Nat)(t:Str)(y:Nat):eW (F++[.has x t y])=oe (eW F) t:=by
 unfold eW cZ;rw[Om,fz]
 rfl
abbrev lP(D:Addr)(B:yN)(b l:Addr)(T:Tg)(H:Hp)(sh:List Sh)(S:StI):Prop:=StG D B b l S.cnt T H (S.gd sh)
def StG.mono(h:StG D B b l n T H G)(hn:n<=n'):StG D B b l n' T H G:=by
 have z:∀{i:Nat},i∉([]:List Nat):=fun h=>ak h;exact h.renew hn (Fr.refl (S:=[])) h.tg (nc ⟨z,rfl⟩) (nc ⟨z,rfl⟩) (nc ⟨z,rfl⟩) (nc ⟨z,rfl⟩) (nc ⟨z,rfl⟩) (nc ⟨z,rfl⟩) (nc ⟨z,rfl⟩) (nc ⟨z,rfl⟩) (nc ⟨z,rfl⟩) (nc ⟨z,rfl⟩)
def yq{S:StI}(nf:Fi.is x k∉S.facts)(hs:∀r c,sh[k]? ≠some (.some r c)):(S.keep (.is x k) st).gd sh={S.gd sh with steps:=S.steps++[st],facts:=S.facts++[.is x k],pl:=fun j=>if j=(Fi.is x k).key then some (V.int (S.facts.length:Nat)) else BE S.facts j,ko:=fun j=>if j= .inl (x:Int) then some (V.int ((cM (iU S.facts x) ||| 2^k:Nat):Int)) else zZ (iU S.facts) j,to:=fun j=>if j= .inl (k:Int) then some (V.int ((cM (iR S.facts k) ||| 2^x:Nat):Int)) else zZ (iR S.facts) j}:=by
 unfold StI.gd StI.keep;rw[vJ nf,qD (Iv _ _ _) (fun i h=>Iu _ h),qD (HL _ _ _) (fun i h=>HK _ h),iT (J8 _ hs),iT (IC _ _ _),iT (H_ _ _ _),HN]
def Am{S:StI}(nf:Fi.is x k∉S.facts)(hs:sh[k]? =some (.some r c)):(S.keep (.is x k) st).gd sh={S.gd sh with steps:=S.steps++[st],facts:=S.facts++[.is x k],pl:=fun j=>if j=(Fi.is x k).key then some (V.int (S.facts.length:Nat)) else BE S.facts j,ko:=fun j=>if j= .inl (x:Int) then some (V.int ((cM (iU S.facts x) ||| 2^k:Nat):Int)) else zZ (iU S.facts) j,to:=fun j=>if j= .inl (k:Int) then some (V.int ((cM (iR S.facts k) ||| 2^x:Nat):Int)) else zZ (iR S.facts) j,fo:=fun j=>if j=[.inl (x:Int),.inr r] then some (V.int ((cM (fA sh S.facts x r) ||| 2^c:Nat):Int)) else CI (fA sh S.facts) j}:=by
 unfold StI.gd StI.keep;rw[vJ nf,qD (Iv _ _ _) (fun i h=>Iu _ h),qD (HL _ _ _) (fun i h=>HK _ h),vU (J_ _ hs) (fun i s n=>J9 _ hs n),iT (IC _ _ _),iT (H_ _ _ _),HN]
def J7{S:StI}(nf:Fi.has x t y∉S.facts):(S.keep (.has x t y) st).gd sh={S.gd sh with steps:=S.steps++[st],facts:=S.facts++[.has x t y],pl:=fun j=>if j=(Fi.has x t y).key then some (V.int (S.facts.length:Nat)) else BE S.facts j,en:=fun j=>if j=[.inl (x:Int),.inr t] then some (V.int ((cM (eP S.facts x t) ||| 2^y:Nat):Int)) else CI (eP S.facts) j,sa:=fun j=>if j=[.inl (y:Int),.inr t] then some (V.int ((cM (cB S.facts y t) ||| 2^x:Nat):Int)) else CI (cB S.facts) j,ti:=oe (eW S.facts) t}:=by
 unfold StI.gd StI.keep;rw[vJ nf,x8 (JP _ _ _ _),x8 (II _ _ _ _),iT (Hm _ _ _ _),vU (Kc _ _ _ _) (fun i s n=>L3 _ n),vU (Ja _ _ _ _) (fun i s n=>Ll _ n),IP]
def pd(h:13<=i/\i<23):∀j∈[i],j∈fg:=fun j hj=>by
 rw[af.mp hj];simp
 lia
def J6:∀i∈fg,13<=i:=by decide
def oV(h:n<=m)(hm:m<=9999999):n<sizeLine:=bz (aq h hm) (by decide)
inductive rl(C D:Addr)(vs:List V)(H:Hp)(Q:VK):Prop
 | mk:∀(b l:Addr) (B:yN) (A:LoA) (N:Nat) (T:Tg) (L:LoI) (S:StI) (x k:Nat) (v:V) (st:p_),(vs=[.ref b,.int (x:Int),.int (k:Int),v])->(lP D B b l T H L.shapes S)->(LoreAt C A l N T H L)->(L.Ok)->(Fi.is x k∉S.facts)->(x<L.parts.length)->(k<L.parts.length)->(N<=50000)->(S.cnt<=9900000)->(S.steps.length=S.facts.length)->(IsSt T H v st)->(∀H' T',Fr fg T T' H H'->lP D B b l T' H' L.shapes (S.keep (.is x k) st)->Q .non H')->rl C D vs H Q
def xi(C D:Addr):Sp:=fun vs H Q _=>rl C D vs H Q
section
def scKeepIs:bq ["self","x","kind","step","fact","shape","key"] Bp (aK rH):=gU
def Cz(F:Fun K "keep_is" "Still.keep_is" rH f fd)(lc:wD K C)(sc:uR K D)(ml:mg "len"=none):b_ P w K mg base fj 1 f fd Bp (xi C D):=by
 refine F.o scKeepIs fun cdv A0 outer s0 H vs Q E hr h=> ?_;obtain⟨b,l,B,A,N,T,L,S,x,k,v,st,rfl,sa,la,lok,nf,hx,hk,hN,hc,sl,ist,q⟩:=h;have hu:=gA hr;refine⟨_,a_ (fe 4 scKeepIs.nd (cq (fb bp bF)))
  (a_ (dW hu (du aB) bX (oj ml (du aB)) rfl)
  (a_ (bg (xO (du aB) bX))
  (a_ (bg (xO (du aB) bU))
  (a_ (dW hu (du aB) bp (bx uC (rR hu (du aB) bp aA) (bx oQ aA bF)) rfl)
  (a_ (dW hu (du aB) bF (bx uC (rR hu (du aB) bF aA) (bx oQ aA bp)) rfl)
  (a_ (fe 5 scKeepIs.nd (j7 bY (du (du aB)) bF))
  (bb (bu (PW.pt (gG (dC jO cX dN) (hU (dC bN (di cX) aJ)))) (a_ (fe 6 scKeepIs.nd (cq (fb bp (di cX)))) (bb (dW hu (du aB) eK (bx uC (rR hu (du aB) eK aA) (bx oQ aA (di cX))) rfl))) aX)))))))),?_⟩
 refine⟨by show 2<=sizeLine;decide,fun t0 ht0=> ?_⟩;have z1:=ah ht0 (.tup [.int (x:Int),.int (k:Int)]);have s1:=sa.same z1;have i1:=IsSt.fr (Fr.of (S:=fg) (T:=T) z1) ist;have h1:upd H t0 (.tup [.int (x:Int),.int (k:Int)]) t0=some (.tup [.int (x:Int),.int (k:Int)]):=aa;have f1:Fr fg T T H (upd H t0 (.tup [.int (x:Int),.int (k:Int)])):=Fr.of z1;generalize upd H t0 (.tup [.int (x:Int),.int (k:Int)])=H1 at s1 i1 h1 f1⊢;obtain⟨_,vs0,e0,r0⟩:=id s1.s0;obtain⟨_,kv2,e2,_,l2⟩:=id s1.s2;have v0:vs0.length=S.facts.length:=(aS r0).trans sl;obtain⟨g2,s2⟩:=s1.put15 (k:=(Fi.is x k).key) (v:= .int (vs0.length:Nat)) e2;refine⟨D,_,_,_,s1.ob,sc.c,sc.m1,Lb B l,B.q0,vs0,rfl,.inl (SqL.of e0),D,_,_,_,s1.ob,sc.c,sc.m3,DI B l,_,.inr ⟨kv2,(Fi.is x k).key,t0,e2,rfl,h1,oV l2 (by lia),rfl⟩,?_⟩;have i2:=IsSt.fr g2 i1;have h2:=g2.tups _ _ h1;have f2:=f1.trans (g2.mono (pd (by decide)));generalize upd H1 B.q2 (.dT (bV kv2 (Fi.is x k).key (.int (vs0.length:Nat))))=H2 at s2 i2 h2 f2⊢;obtain⟨_,vs1,e3,r3⟩:=id s2.s1;obtain⟨g3,s3⟩:=s2.app14 (v:= .ref t0) (f:= .is x k) e3 ⟨t0,rfl,h2⟩;have v1:vs1.length<=S.cnt:=by rw[aS r3];show S.facts.length<=6 * S.facts.length+S.stand.length;lia
 refine⟨D,_,_,_,s2.ob,sc.c,sc.m2,KD B l,.inl ⟨rfl,_,SqL.of e3⟩,vs1,e3,oV v1 (by lia),?_⟩;have i3:=IsSt.fr g3 i2;have f3:=f2.trans (g3.mono (pd (by decide)));generalize upd H2 B.q1 (.lst (vs1++[.ref t0]))=H3 at s3 i3 f3⊢;obtain⟨_,vs2,e4,r4⟩:=id s3.s0;obtain⟨g4,s4⟩:=s3.app13 (v:=v) (s:=st) e4 i3;have v2:vs2.length<=S.cnt:=by rw[aS r4];show S.steps.length<=6 * S.facts.length+S.stand.length;lia
 refine⟨D,_,_,_,s3.ob,sc.c,sc.m1,Lb B l,.inl ⟨rfl,_,SqL.of e4⟩,vs2,e4,oV v2 (by lia),?_⟩;have f4:=f3.trans (g4.mono (pd (by decide)));generalize upd H3 B.q0 (.lst (vs2++[v]))=H4 at s4 f4⊢;obtain⟨_,kv4,e5,r5,l5⟩:=id s4.s4;have w5:(c_ kv4 (.inl (x:Int))).getD (.int 0)= .int (cM (iU S.facts x):Nat):=by rw[r5];exact vV _ _
 obtain⟨g5,s5⟩:=s4.put17 (k:= .inl (x:Int)) (v:= .int ((cM (iU S.facts x) ||| 2^k:Nat):Int)) e5;have lle:=la.le;refine⟨D,_,_,_,s4.ob,sc.c,sc.m5,M6 B l,.inl ⟨_,.inl e5⟩,_,DGet.k (k:= .inl (x:Int)) e5,⟨by lia,by lia,by decide⟩,?_⟩;rw[w5];refine KF ⟨D,_,_,_,s4.ob,sc.c,sc.m5,M6 B l,_,DPut.k (k:= .inl (x:Int)) e5 (oV l5 (by lia)),?_⟩;have f5:=f4.trans (g5.mono (pd (by decide)));generalize upd H4 B.q4 (.dK (bV kv4 (.inl (x:Int)) (.int ((cM (iU S.facts x) ||| 2^k:Nat):Int))))=H5 at s5 f5⊢;obtain⟨_,kv5,e6,r6,l6⟩:=id s5.s5;have w6:(c_ kv5 (.inl (k:Int))).getD (.int 0)= .int (cM (iR S.facts k):Nat):=by rw[r6];exact vV _ _
 obtain⟨g6,s6⟩:=s5.put18 (k:= .inl (k:Int)) (v:= .int ((cM (iR S.facts k) ||| 2^x:Nat):Int)) e6;refine⟨D,_,_,_,s5.ob,sc.c,sc.m6,sk6 B l,.inl ⟨_,.inl e6⟩,_,DGet.k (k:= .inl (k:Int)) e6,⟨by lia,by lia,by decide⟩,?_⟩;rw[w6];refine KF ⟨D,_,_,_,s5.ob,sc.c,sc.m6,sk6 B l,_,DPut.k (k:= .inl (k:Int)) e6 (oV l6 (by lia)),?_⟩;have f6:=f5.trans (g6.mono (pd (by decide)));generalize upd H5 B.q5 (.dK (bV kv5 (.inl (k:Int)) (.int ((cM (iR S.facts k) ||| 2^x:Nat):Int))))=H6 at s6 f6⊢;have la6:=la.fr f6 J6 s6.tg;obtain⟨_,ss,e7,r7⟩:=id la6.f1;obtain⟨sk,hsk⟩:∃sk,L.shapes[k]? =some sk:=⟨_,aw (by rw[la.sl];exact hk)⟩;obtain⟨vsk,hv,ivk⟩:=qc r7 hsk;refine⟨D,_,_,_,s6.ob,sc.c,sc.m0,qu B l,C,_,_,_,la6.ob,lc.c,lc.n1,lk1 A,ss,vsk,SqL.of e7,aR hv,?_⟩;have cn:(S.keep (.is x k) st).cnt=S.cnt+6:=by show 6 * (S.facts++[_]).length+S.stand.length=_;rw[ag];show 6 * (S.facts.length+1)+_=6 * S.facts.length+_+6;lia
 cases sk with
 | no=>
   obtain rfl:vsk= .non:=ivk;refine⟨rfl,?_⟩;refine(q H6 T f6 ?_);rw[lP,cn,yq nf (fun r c z=>by rw[hsk] at z;cases z),<-v0];exact s6.mono (by lia)
 | both i j=>
   obtain⟨pp,rfl,hpp⟩:=ivk;refine⟨rfl,?_⟩;refine(cI hpp rfl ?_);refine(q H6 T f6 ?_);rw[lP,cn,yq nf (fun r c z=>by rw[hsk] at z;cases z),<-v0];exact s6.mono (by lia)
 | some r c=>
   obtain⟨pp,rfl,hpp⟩:=ivk;refine⟨rfl,?_⟩;refine(cI hpp rfl ?_);have hc7:c<L.parts.length:=lok.lt _ _ hsk;refine(cI hpp rfl ⟨by show 2<=sizeLine;decide,fun t7 ht7=> ?_⟩);have z7:=ah ht7 (.tup [.int (x:Int),.str r]);have s7:=s6.same z7;have h7:upd H6 t7 (.tup [.int (x:Int),.str r]) t7=some (.tup [.int (x:Int),.str r]):=aa;have f7:=f6.trans (Fr.of (S:=fg) (T:=T) z7);have hpp7:=z7.tups _ _ hpp;generalize upd H6 t7 (.tup [.int (x:Int),.str r])=H7 at s7 h7 f7 hpp7⊢;obtain⟨_,kv6,e8,r8,l8⟩:=id s7.s6;have w8:(c_ kv6 [.inl (x:Int),.inr r]).getD (.int 0)= .int (cM (fA L.shapes S.facts x r):Nat):=by rw[r8];exact qC _ _ _
   obtain⟨g8,s8⟩:=s7.put19 (k:=[.inl (x:Int),.inr r]) (v:= .int ((cM (fA L.shapes S.facts x r) ||| 2^c:Nat):Int)) e8;refine⟨D,_,_,_,s7.ob,sc.c,sc.m7,M5 B l,.inr ⟨_,.inl e8⟩,_,DGet.t (k:=[.inl (x:Int),.inr r]) e8 h7,cI hpp7 rfl ⟨⟨by lia,by lia,by decide⟩,?_⟩⟩;rw[w8];refine KF ⟨D,_,_,_,s7.ob,sc.c,sc.m7,M5 B l,_,.inr ⟨kv6,[.inl (x:Int),.inr r],t7,e8,rfl,h7,oV l8 (by lia),rfl⟩,q _ T (f7.trans (g8.mono (pd (by decide)))) ?_⟩;rw[lP,cn,Am nf hsk,<-v0];exact s8.mono (by lia)
end
inductive pI(D:Addr)(vs:List V)(H:Hp)(Q:VK):Prop
 | mk:∀(b l:Addr) (B:yN) (sh:List Sh) (T:Tg) (S:StI) (x y:Nat) (t:Str) (v:V) (st:p_),(vs=[.ref b,.int (x:Int),.str t,.int (y:Int),v])->(lP D B b l T H sh S)->(Fi.has x t y∉S.facts)->(x<=50000)->(y<=50000)->(S.cnt<=9900000)->(S.steps.length=S.facts.length)->(IsSt T H v st)->(∀H' T',Fr fg T T' H H'->lP D B b l T' H' sh (S.keep (.has x t y) st)->Q .non H')->pI D vs H Q
def um(C D:Addr):Sp:=fun vs H Q _=>pI D vs H Q
section
def scKeepHas:bq ["self","x","tie","y","step","fact"] Bo (aK oB):=gU
def zR(F:Fun K "keep_has" "Still.keep_has" oB f fd)(sc:uR K D)(ml:mg "len"=none):b_ P w K mg base fj 1 f fd Bo (um C D):=by
 refine F.o scKeepHas fun cdv A0 outer s0 H vs Q E hr h=> ?_;obtain⟨b,l,B,sh,T,S,x,y,t,v,st,rfl,sa,nf,hx,hy,hc,sl,ist,q⟩:=h;have hu:=gA hr;refine⟨_,a_ (fe 5 scKeepHas.nd (cq (gD bp bF bU)))
  (a_ (dW hu (du aB) cX (oj ml (du aB)) rfl)
  (a_ (bg (xO (du aB) cX))
  (a_ (bg (xO (du aB) bX))
  (a_ (dW hu (du aB) (cq (fb bp bF)) (bx uC (rR hu (du aB) (cq (fb bp bF)) aA) (bx oQ aA bU)) rfl)
  (a_ (dW hu (du aB) (cq (fb bU bF)) (bx uC (rR hu (du aB) (cq (fb bU bF)) aA) (bx oQ aA bp)) rfl)
  (bb (dW hu (du aB) bF dI rfl))))))),?_⟩
 refine⟨by show 3<=sizeLine;decide,fun t0 ht0=> ?_⟩;have z1:=ah ht0 (.tup [.int (x:Int),.str t,.int (y:Int)]);have s1:=sa.same z1;have i1:=IsSt.fr (Fr.of (S:=fg) (T:=T) z1) ist;have h1:upd H t0 (.tup [.int (x:Int),.str t,.int (y:Int)]) t0=some (.tup [.int (x:Int),.str t,.int (y:Int)]):=aa;have f1:Fr fg T T H (upd H t0 (.tup [.int (x:Int),.str t,.int (y:Int)])):=Fr.of z1;generalize upd H t0 (.tup [.int (x:Int),.str t,.int (y:Int)])=H1 at s1 i1 h1 f1⊢;obtain⟨_,vs0,e0,r0⟩:=id s1.s0;obtain⟨_,kv2,e2,_,l2⟩:=id s1.s2;have v0:vs0.length=S.facts.length:=(aS r0).trans sl;obtain⟨g2,s2⟩:=s1.put15 (k:=(Fi.has x t y).key) (v:= .int (vs0.length:Nat)) e2;refine⟨D,_,_,_,s1.ob,sc.c,sc.m1,Lb B l,B.q0,vs0,rfl,.inl (SqL.of e0),D,_,_,_,s1.ob,sc.c,sc.m3,DI B l,_,.inr ⟨kv2,(Fi.has x t y).key,t0,e2,rfl,h1,oV l2 (by lia),rfl⟩,?_⟩;have i2:=IsSt.fr g2 i1;have h2:=g2.tups _ _ h1;have f2:=f1.trans (g2.mono (pd (by decide)));generalize upd H1 B.q2 (.dT (bV kv2 (Fi.has x t y).key (.int (vs0.length:Nat))))=H2 at s2 i2 h2 f2⊢;obtain⟨_,vs1,e3,r3⟩:=id s2.s1;obtain⟨g3,s3⟩:=s2.app14 (v:= .ref t0) (f:= .has x t y) e3 ⟨t0,rfl,h2⟩;have v1:vs1.length<=S.cnt:=by rw[aS r3];show S.facts.length<=6 * S.facts.length+S.stand.length;lia
 refine⟨D,_,_,_,s2.ob,sc.c,sc.m2,KD B l,.inl ⟨rfl,_,SqL.of e3⟩,vs1,e3,oV v1 (by lia),?_⟩;have i3:=IsSt.fr g3 i2;have f3:=f2.trans (g3.mono (pd (by decide)));generalize upd H2 B.q1 (.lst (vs1++[.ref t0]))=H3 at s3 i3 f3⊢;obtain⟨_,vs2,e4,r4⟩:=id s3.s0;obtain⟨g4,s4⟩:=s3.app13 (v:=v) (s:=st) e4 i3;have v2:vs2.length<=S.cnt:=by rw[aS r4];show S.steps.length<=6 * S.facts.length+S.stand.length;lia
 refine⟨D,_,_,_,s3.ob,sc.c,sc.m1,Lb B l,.inl ⟨rfl,_,SqL.of e4⟩,vs2,e4,oV v2 (by lia),?_⟩;have f4:=f3.trans (g4.mono (pd (by decide)));generalize upd H3 B.q0 (.lst (vs2++[v]))=H4 at s4 f4⊢;obtain⟨_,kw4,e4a,r4a,l4a⟩:=id s4.s7;refine⟨D,_,_,_,s4.ob,sc.c,sc.m8,My B l,.inr ⟨_,.inl e4a⟩,by show 2<=sizeLine;decide,fun u4 hu4=> ?_⟩;have zz4:=ah hu4 (.tup [.int (x:Int),.str t]);have s4b:=s4.same zz4;have h4b:upd H4 u4 (.tup [.int (x:Int),.str t]) u4=some (.tup [.int (x:Int),.str t]):=aa;have f4b:=f4.trans (Fr.of (S:=fg) (T:=T) zz4);generalize upd H4 u4 (.tup [.int (x:Int),.str t])=H4b at s4b h4b f4b⊢;obtain⟨_,kv4b,e4b,r4b,l4b⟩:=id s4b.s7;have w4b:(c_ kv4b [.inl (x:Int),.inr t]).getD (.int 0)= .int (cM (eP S.facts x t):Nat):=by rw[r4b];exact qC _ _ _
 refine⟨_,DGet.t (k:=[.inl (x:Int),.inr t]) e4b h4b,⟨by lia,by lia,by decide⟩,?_⟩;rw[w4b];refine KF ⟨D,_,_,_,s4b.ob,sc.c,sc.m8,My B l,by show 2<=sizeLine;decide,fun w4 hw4=> ?_⟩;have zy4:=ah hw4 (.tup [.int (x:Int),.str t]);have s4c:=s4b.same zy4;have h4c:upd H4b w4 (.tup [.int (x:Int),.str t]) w4=some (.tup [.int (x:Int),.str t]):=aa;have f4c:=f4b.trans (Fr.of (S:=fg) (T:=T) zy4);have e4c:=zy4 _ _ e4b;generalize upd H4b w4 (.tup [.int (x:Int),.str t])=H4c at s4c h4c f4c e4c⊢;obtain⟨g5,s5⟩:=s4c.put20 (k:=[.inl (x:Int),.inr t]) (v:= .int ((cM (eP S.facts x t) ||| 2^y:Nat):Int)) e4c;refine⟨_,.inr ⟨kv4b,[.inl (x:Int),.inr t],w4,e4c,rfl,h4c,oV l4b (by lia),rfl⟩,?_⟩;have f5:=f4c.trans (g5.mono (pd (by decide)));generalize upd H4c B.q7 (.dT (bV kv4b [.inl (x:Int),.inr t] (.int ((cM (eP S.facts x t) ||| 2^y:Nat):Int))))=H5 at s5 f5⊢;obtain⟨_,kw5,e5a,r5a,l5a⟩:=id s5.s8;refine⟨D,_,_,_,s5.ob,sc.c,sc.m9,KC B l,.inr ⟨_,.inl e5a⟩,by show 2<=sizeLine;decide,fun u5 hu5=> ?_⟩;have zz5:=ah hu5 (.tup [.int (y:Int),.str t]);have s5b:=s5.same zz5;have h5b:upd H5 u5 (.tup [.int (y:Int),.str t]) u5=some (.tup [.int (y:Int),.str t]):=aa;have f5b:=f5.trans (Fr.of (S:=fg) (T:=T) zz5);generalize upd H5 u5 (.tup [.int (y:Int),.str t])=H5b at s5b h5b f5b⊢;obtain⟨_,kv5b,e5b,r5b,l5b⟩:=id s5b.s8;have w5b:(c_ kv5b [.inl (y:Int),.inr t]).getD (.int 0)= .int (cM (cB S.facts y t):Nat):=by rw[r5b];exact qC _ _ _
 refine⟨_,DGet.t (k:=[.inl (y:Int),.inr t]) e5b h5b,⟨by lia,by lia,by decide⟩,?_⟩;rw[w5b];refine KF ⟨D,_,_,_,s5b.ob,sc.c,sc.m9,KC B l,by show 2<=sizeLine;decide,fun w5 hw5=> ?_⟩;have zy5:=ah hw5 (.tup [.int (y:Int),.str t]);have s5c:=s5b.same zy5;have h5c:upd H5b w5 (.tup [.int (y:Int),.str t]) w5=some (.tup [.int (y:Int),.str t]):=aa;have f5c:=f5b.trans (Fr.of (S:=fg) (T:=T) zy5);have e5c:=zy5 _ _ e5b;generalize upd H5b w5 (.tup [.int (y:Int),.str t])=H5c at s5c h5c f5c e5c⊢;obtain⟨g6,s6⟩:=s5c.put21 (k:=[.inl (y:Int),.inr t]) (v:= .int ((cM (cB S.facts y t) ||| 2^x:Nat):Int)) e5c;refine⟨_,.inr ⟨kv5b,[.inl (y:Int),.inr t],w5,e5c,rfl,h5c,oV l5b (by lia),rfl⟩,?_⟩;have f6:=f5c.trans (g6.mono (pd (by decide)));generalize upd H5c B.q8 (.dT (bV kv5b [.inl (y:Int),.inr t] (.int ((cM (cB S.facts y t) ||| 2^x:Nat):Int))))=H6 at s6 f6⊢;obtain⟨g7,s7⟩:=s6.put22 (t:=t);refine⟨D,_,_,_,s6.ob,sc.c,sc.m10,La B l,_,DPut.k (k:= .inr t) s6.s9.2.1 (by rw[pB];exact oV s6.s9.2.2 (by lia)),q _ T (f6.trans (g7.mono (pd (by decide)))) ?_⟩;have cn:(S.keep (.has x t y) st).cnt=S.cnt+6:=by show 6 * (S.facts++[_]).length+S.stand.length=_;rw[ag];show 6 * (S.facts.length+1)+_=6 * S.facts.length+_+6;lia
 rw[lP,cn,J7 nf,<-v0];exact s7.mono (by lia)
end
structure Ev(C D:Addr)(B:yN)(A:LoA)(b l:Addr)(N:Nat)(T:Tg)(H:Hp)(L:LoI)(S:StI):Prop where
 sa:lP D B b l T H L.shapes S
 la:LoreAt C A l N T H L
 ok:L.Ok
 ex:A.ex=FU
 hN:N<=50000
 sl:S.steps.length=S.facts.length
 p2:2<=L.parts.length
section
def Ev.next(h:Ev C D B A b l N T H L S)(f:Fr fg T T' H H')(sa:lP D B b l T' H' L.shapes S')(sl:S'.steps.length=S'.facts.length):Ev C D B A b l N T' H' L S':=⟨sa,h.la.fr f J6 sa.tg,h.ok,h.ex,h.hN,sl,h.p2⟩
def Ev.same(h:Ev C D B A b l N T H L S)(s:Same H H'):Ev C D B A b l N T H' L S:=⟨StG.same h.sa s,h.la.same s,h.ok,h.ex,h.hN,h.sl,h.p2⟩
end
noncomputable def LoI.pt(L:LoI)(i:Nat):Kd:=L.parts.getD i (.nm "")
def LoI.pt_get{L:LoI}(h:i<L.parts.length):L.parts[i]? =some (L.pt i):=by
 unfold LoI.pt;rw[fh,aw h]
 rfl
noncomputable def StI.tellIs(L:LoI)(S:StI)(x k:Nat)(r:Str)(fr:List Int)(nn:Option Int):StI:=if Fi.is x k∈S.facts then S else S.keep (.is x k) ⟨.is (L.pt x) (L.pt k),r,fr,nn⟩
noncomputable def StI.addS(S:StI)(x:Nat):StI:=⟨S.steps,S.facts,S.stand++[x]⟩
noncomputable def StI.letStand(L:LoI)(S:StI)(x:Nat):StI:=if x∈S.stand then S else StI.tellIs L (if jG (L.pt x)=true then S.addS x else StI.tellIs L (S.addS x) x x "self" [] none) x 0 "all" [] none
noncomputable def StI.tellHas(L:LoI)(S:StI)(x:Nat)(t:Str)(y:Nat)(r:Str)(fr:List Int)(nn:Option Int):StI:=if Fi.has x t y∈S.facts then S else StI.letStand L (S.keep (.has x t y) ⟨.has (L.pt x) t (L.pt y),r,fr,nn⟩) y
def StI.keep_sl{S:StI}(h:S.steps.length=S.facts.length):(S.keep f st).steps.length=(S.keep f st).facts.length:=by
 show(S.steps++[st]).length=(S.facts++[f]).length;rw[ag,ag,h];rfl
def StI.keep_cnt(S:StI)(f:Fi)(st:p_):(S.keep f st).cnt=S.cnt+6:=by show 6 * (S.facts++[_]).length+S.stand.length=_;rw[ag];show 6 * (S.facts.length+1)+_=6 * S.facts.length+_+6;lia
def StI.tellIs_cnt(L:LoI)(S:StI)(x k:Nat)(r:Str)(fr:List Int)(nn:Option Int):(StI.tellIs L S x k r fr nn).cnt<=S.cnt+6:=by
 unfold StI.tellIs
 split
 · lia
 · rw[StI.keep_cnt];lia
def StI.addS_cnt(S:StI)(x:Nat):(S.addS x).cnt=S.cnt+1:=by show 6 * S.facts.length+(S.stand++[x]).length=_;rw[ag];show _+(_+1)=6 * S.facts.length+S.stand.length+1;lia
def uz(F:List Fi)(f:Fi):(BE F f.key).isSome=decide (f∈F):=by
 by_cases h:f∈F
 · rw[xI h,ao h];rfl
 · rw[xJ h,aj h];rfl
inductive mj(C D:Addr)(vs:List V)(H:Hp)(Q:VK):Prop
 | mk:∀(b l:Addr) (B:yN) (A:LoA) (N:Nat) (T:Tg) (L:LoI) (S:StI) (x k:Nat) (r:Str) (pf:Addr) (fr:List Int) (nn:Option Int),(vs=[.ref b,.int (x:Int),.int (k:Int),.str r,.ref pf,mJ nn])->(Ev C D B A b l N T H L S)->(x<L.parts.length)->(k<L.parts.length)->(S.cnt<=9900000)->(H pf=some (.lst (fr.map V.int)))->(T pf=none)->(∀H' T',Fr fg T T' H H'->Ev C D B A b l N T' H' L (StI.tellIs L S x k r fr nn)->Q .non H')->mj C D vs H Q
def h_(C D:Addr):Sp:=fun vs H Q _=>mj C D vs H Q
inductive jH(C D:Addr)(vs:List V)(H:Hp)(Q:VK):Prop
 | mk:∀(b l:Addr) (B:yN) (A:LoA) (N:Nat) (T:Tg) (L:LoI) (S:StI) (x:Nat),(vs=[.ref b,.int (x:Int)])->(Ev C D B A b l N T H L S)->(x<L.parts.length)->(S.cnt<=9890000)->(∀H' T',Fr fg T T' H H'->Ev C D B A b l N T' H' L (StI.letStand L S x)->Q .non H')->jH C D vs H Q
def mq(C D:Addr):Sp:=fun vs H Q _=>jH C D vs H Q
inductive kh(C D:Addr)(vs:List V)(H:Hp)(Q:VK):Prop
 | mk:∀(b l:Addr) (B:yN) (A:LoA) (N:Nat) (T:Tg) (L:LoI) (S:StI) (x:Nat) (t:Str) (y:Nat) (r:Str) (pf:Addr) (fr:List Int) (nn:Option Int),(vs=[.ref b,.int (x:Int),.str t,.int (y:Int),.str r,.ref pf,mJ nn])->(Ev C D B A b l N T H L S)->(x<L.parts.length)->(y<L.parts.length)->(S.cnt<=9880000)->(H pf=some (.lst (fr.map V.int)))->(T pf=none)->(∀H' T',Fr fg T T' H H'->Ev C D B A b l N T' H' L (StI.tellHas L S x t y r fr nn)->Q .non H')->kh C D vs H Q
def jx(C D:Addr):Sp:=fun vs H Q _=>kh C D vs H Q
section
def scTellIs:bq ["self","x","kind","rule","froms","number","parts"] nJ (aK rG):=gU
def Cs(F:Fun K "tell_is" "Still.tell_is" rG f fd)(lc:wD K C)(sc:uR K D)(Gki:Ml P w K mg base D 1 "keep_is" Bp (xi C D)):b_ P w K mg base fj 2 f fd nJ (h_ C D):=by
 refine F.o scTellIs fun cdv A0 outer s0 H vs Q E hr h=> ?_;obtain⟨b,l,B,A,N,T,L,S,x,k,r,pf,fr,nn,rfl,ev,hx,hk,hc,epf,tpf,q⟩:=h;have hu:=gA hr;refine⟨_,bb (bu (dC (iN hu) (cq (fb bp bF)) (du aB)) (a_ (fe 6 scTellIs.nd (du (du aB))) (bb (bg (iw aB sc.c Gki hr (gD bp bF (cq (jk (cq (gD aJ (j7 bY eK bp) (j7 bY eK bF))) bU bX cX))))))) aX),?_⟩;refine⟨by show 2<=sizeLine;decide,fun t0 ht0=> ?_⟩;have z1:=ah ht0 (.tup [.int (x:Int),.int (k:Int)]);have ev1:=ev.same z1;have h1:upd H t0 (.tup [.int (x:Int),.int (k:Int)]) t0=some (.tup [.int (x:Int),.int (k:Int)]):=aa;have f1:Fr fg T T H (upd H t0 (.tup [.int (x:Int),.int (k:Int)])):=Fr.of z1;have epf1:=z1 _ _ epf;generalize upd H t0 (.tup [.int (x:Int),.int (k:Int)])=H1 at ev1 h1 f1 epf1⊢;obtain⟨_,kv2,e2,r2,l2⟩:=id ev1.sa.s2;have w2:(c_ kv2 (Fi.is x k).key).isSome=decide (Fi.is x k∈S.facts):=by rw[r2];exact uz _ _
 refine⟨D,_,_,_,ev1.sa.ob,sc.c,sc.m3,DI B l,B.q2,_,rfl,DGet.t (k:=(Fi.is x k).key) e2 h1,?_⟩;rw[w2];unfold StI.tellIs at q;by_cases hin:Fi.is x k∈S.facts
 · rw[ao hin];rw[aH hin] at q;exact(q H1 T f1 ev1)
 rw[aj hin];rw[aE hin] at q;obtain⟨_,ps,e3,r3⟩:=id ev1.la.f0;obtain⟨vx,hvx,ivx⟩:=qc r3 (LoI.pt_get hx);obtain⟨vk,hvk,ivk⟩:=qc r3 (LoI.pt_get hk);refine⟨D,_,_,_,ev1.sa.ob,sc.c,sc.m0,qu B l,C,_,_,_,ev1.la.ob,lc.c,lc.n0,LP A,?_⟩;refine⟨_,_,ev1.sa.ob,zb B l,ps,vx,SqL.of e3,aR hvx,ps,vk,SqL.of e3,aR hvk,by show 3<=sizeLine;decide,fun t4 ht4=> ?_⟩;have z4:=ah ht4 (.tup [.str "is",vx,vk]);refine⟨by show 4<=sizeLine;decide,fun t5 ht5=> ?_⟩;have z5:=ah ht5 (.tup [.ref t4,.str r,.ref pf,mJ nn]);have z45:=z4.trans z5;have ev5:=ev1.same z45;have f5:=f1.trans (Fr.of (S:=fg) (T:=T) z45);refine⟨b,l,B,A,N,T,L,S,x,k,.ref t5,⟨.is (L.pt x) (L.pt k),r,fr,nn⟩,rfl,ev5.sa,ev5.la,ev.ok,hin,hx,hk,ev.hN,hc,ev.sl,⟨t5,pf,.ref t4,rfl,aa,⟨t4,vx,vk,rfl,z5 _ _ aa,IsK.mono z45.tups ivx,IsK.mono z45.tups ivk⟩,z45 _ _ epf1,tpf⟩,fun H6 T6 f6 s6=>q H6 T6 (f5.trans f6) (ev5.next f6 s6 (StI.keep_sl ev.sl))⟩
def ze:bq fH fH (aK mB):=gU
def xT(F:Fun K "let_stand" "Still.let_stand" mB f fd)(lc:wD K C)(sc:uR K D)(Gti:Ml P w K mg base D 2 "tell_is" nJ (h_ C D))(Gst:Cl P w K mg base 4 "stands_for_thing" ["x"] wZ):b_ P w K mg base fj 5 f fd fH (mq C D):=by
 refine F.o ze fun cdv A0 outer s0 H vs Q E hr h=> ?_;obtain⟨b,l,B,A,N,T,L,S,x,rfl,ev,hx,hc,q⟩:=h;have hu:=gA hr;refine⟨_,a_ (bu (dC (oR hu) bp (du aB)) (bb (lg)) aX)
  (a_ (dW hu (du aB) bp dI rfl)
  (a_ (bu (gH (eX (eB Gst hr (eF (j7 bY (du (du aB)) bp))))) (bb (bg (iw aB sc.c Gti hr (bZ bp (jk bp aJ (bR cu) dN))))) aX)
  (bb (bg (iw aB sc.c Gti hr (bZ bp (jk (du (du aB)) aJ (bR cu) dN))))))),?_⟩
 obtain⟨_,kv3,e3,r3,l3⟩:=id ev.sa.s3;have w3:c_ kv3 (.inl (x:Int))=if x∈S.stand then some (.bl true) else none:=by
  rw[r3];show(if 0<=(x:Int)/\(x:Int).toNat∈S.stand then _ else _)=_;simp
 refine⟨D,_,_,_,ev.sa.ob,sc.c,sc.m4,N3 B l,B.q3,_,rfl,DGet.k (k:= .inl (x:Int)) e3,?_⟩;rw[w3];unfold StI.letStand at q;by_cases hin:x∈S.stand
 · rw[aH hin];rw[aH hin] at q;exact(q H T Fr.refl ev)
 rw[aE hin];rw[aE hin] at q;obtain⟨g1,s1⟩:=ev.sa.put16 (k:= .inl (x:Int)) (v:= .bl true) e3;refine⟨D,_,_,_,ev.sa.ob,sc.c,sc.m4,N3 B l,_,DPut.k (k:= .inl (x:Int)) e3 (oV l3 (by lia)),?_⟩;have gd1:(S.addS x).gd L.shapes={S.gd L.shapes with st:=fun j=>if j= .inl (x:Int) then some (.bl true) else(S.gd L.shapes).st j}:=by
  unfold StI.gd StI.addS;rw[<-BN]
 have sa1:lP D B b l T (upd H B.q3 (.dK (bV kv3 (.inl (x:Int)) (.bl true)))) L.shapes (S.addS x):=by
  rw[lP,StI.addS_cnt,gd1];exact s1
 have f1:=g1.mono (S':=fg) (pd (by decide));have ev1:Ev C D B A b l N T _ L (S.addS x):=ev.next f1 sa1 ev.sl;generalize upd H B.q3 (.dK (bV kv3 (.inl (x:Int)) (.bl true)))=H1 at f1 ev1⊢;have c1:=StI.addS_cnt S x;obtain⟨_,ps,e4,r4⟩:=id ev1.la.f0;obtain⟨vx,hvx,ivx⟩:=qc r4 (LoI.pt_get hx);have okx:okK (L.pt x):=ev.la.gd _ (ar (LoI.pt_get hx));have lnx:Ae (L.pt x):=by
  cases e:L.pt x with
  | nm z=>rw[e] at okx;exact aq (eh okx).2.1 (by decide)
  | two _ _=>trivial
  | som _ _=>trivial
 have p0:0<L.parts.length:=by have:=ev.p2;lia
 have fin:∀(H2:Hp) (T2:Tg) (S2:StI),Fr fg T T2 H H2->Ev C D B A b l N T2 H2 L S2->S2.cnt<=S.cnt+7->(∀H' T',Fr fg T T' H H'->Ev C D B A b l N T' H' L (StI.tellIs L S2 x 0 "all" [] none)->Q .non H')->∀pf,H2 pf=none->h_ C D [.ref b,.int (x:Int),.int 0,.str "all",.ref pf,.non] (upd H2 pf (.lst [])) (fun _ H'=>Q .non H') E0:=fun H2 T2 S2 f2 ev2 c2 q2 pf hpf=>
  ⟨b,l,B,A,N,T2,L,S2,x,0,"all",pf,[],none,rfl,ev2.same (ah hpf _),hx,p0,by lia,aa,ev2.sa.tg.free hpf,fun H3 T3 f3 ev3=>q2 H3 T3 ((f2.trans (Fr.of (ah hpf _))).trans f3) ev3⟩
 refine⟨D,_,_,_,ev1.sa.ob,sc.c,sc.m0,qu B l,C,_,_,_,ev1.la.ob,lc.c,lc.n0,LP A,ps,vx,SqL.of e4,aR hvx,vx,L.pt x,rfl,ivx,lnx,fun H2 z2=> ?_⟩;have ev2:=ev1.same z2;have f2:=f1.trans (Fr.of (S:=fg) (T:=T) z2);cases hst:jG (L.pt x) with
 | true=>
   rw[aH hst] at q;refine⟨_,_,ev2.sa.ob,dF B l,D,_,_,_,ev2.sa.ob,sc.c,sc.m0,qu B l,C,_,_,_,ev2.la.ob,lc.c,lc.n13,LM ev.ex,ay _,fun pf hpf=> ?_⟩;exact fin H2 T _ f2 ev2 (by lia) q pf hpf
 | false=>
   rw[aE (by rw[hst];exact bh)] at q;refine⟨_,_,ev2.sa.ob,dF B l,ay _,fun pf hpf=> ?_⟩;refine⟨b,l,B,A,N,T,L,S.addS x,x,x,"self",pf,[],none,rfl,ev2.same (ah hpf _),hx,hx,by lia,aa,ev2.sa.tg.free hpf,fun H3 T3 f3 ev3=> ?_⟩;have f3':=(f2.trans (Fr.of (S:=fg) (T:=T) (ah hpf (.lst [])))).trans f3;have c3:=StI.tellIs_cnt L (S.addS x) x x "self" [] none;refine⟨_,_,ev3.sa.ob,dF B l,D,_,_,_,ev3.sa.ob,sc.c,sc.m0,qu B l,C,_,_,_,ev3.la.ob,lc.c,lc.n13,LM ev.ex,ay _,fun pf' hpf'=> ?_⟩;exact fin H3 T3 _ f3' ev3 (by lia) q pf' hpf'
def scTellHas:bq ["self","x","tie","y","rule","froms","number","parts"] rM (aK oA):=gU
def zO(F:Fun K "tell_has" "Still.tell_has" oA f fd)(lc:wD K C)(sc:uR K D)(Gkh:Ml P w K mg base D 1 "keep_has" Bo (um C D))(Gls:Ml P w K mg base D 5 "let_stand" fH (mq C D)):b_ P w K mg base fj 6 f fd rM (jx C D):=by
 refine F.o scTellHas fun cdv A0 outer s0 H vs Q E hr h=> ?_;obtain⟨b,l,B,A,N,T,L,S,x,t,y,r,pf,fr,nn,rfl,ev,hx,hy,hc,epf,tpf,q⟩:=h;have hu:=gA hr;refine⟨_,bb (bu (dC (iN hu) (cq (gD bp bF bU)) (du aB)) (a_ (fe 7 scTellHas.nd (du (du aB))) (a_ (bg (iw aB sc.c Gkh hr (jk bp bF bU (cq (jk (cq (jk aJ (j7 bY iZ bp) bF (j7 bY iZ bU))) bX cX eK))))) (bb (bg (iw aB sc.c Gls hr (eF bU)))))) aX),?_⟩;refine⟨by show 3<=sizeLine;decide,fun t0 ht0=> ?_⟩;have z1:=ah ht0 (.tup [.int (x:Int),.str t,.int (y:Int)]);have ev1:=ev.same z1;have h1:upd H t0 (.tup [.int (x:Int),.str t,.int (y:Int)]) t0=some (.tup [.int (x:Int),.str t,.int (y:Int)]):=aa;have f1:Fr fg T T H (upd H t0 (.tup [.int (x:Int),.str t,.int (y:Int)])):=Fr.of z1;have epf1:=z1 _ _ epf;generalize upd H t0 (.tup [.int (x:Int),.str t,.int (y:Int)])=H1 at ev1 h1 f1 epf1⊢;obtain⟨_,kv2,e2,r2,l2⟩:=id ev1.sa.s2;have w2:(c_ kv2 (Fi.has x t y).key).isSome=decide (Fi.has x t y∈S.facts):=by rw[r2];exact uz _ _
 refine⟨D,_,_,_,ev1.sa.ob,sc.c,sc.m3,DI B l,B.q2,_,rfl,DGet.t (k:=(Fi.has x t y).key) e2 h1,?_⟩;rw[w2];unfold StI.tellHas at q;by_cases hin:Fi.has x t y∈S.facts
 · rw[ao hin];rw[aH hin] at q;exact(q H1 T f1 ev1)
 rw[aj hin];rw[aE hin] at q;obtain⟨_,ps,e3,r3⟩:=id ev1.la.f0;obtain⟨vx,hvx,ivx⟩:=qc r3 (LoI.pt_get hx);obtain⟨vy,hvy,ivy⟩:=qc r3 (LoI.pt_get hy);refine⟨D,_,_,_,ev1.sa.ob,sc.c,sc.m0,qu B l,C,_,_,_,ev1.la.ob,lc.c,lc.n0,LP A,?_⟩;refine⟨_,_,ev1.sa.ob,xn B l,ps,vx,SqL.of e3,aR hvx,ps,vy,SqL.of e3,aR hvy,by show 4<=sizeLine;decide,fun t4 ht4=> ?_⟩;have z4:=ah ht4 (.tup [.str "has",vx,.str t,vy]);refine⟨by show 4<=sizeLine;decide,fun t5 ht5=> ?_⟩;have z5:=ah ht5 (.tup [.ref t4,.str r,.ref pf,mJ nn]);have z45:=z4.trans z5;have ev5:=ev1.same z45;have f5:=f1.trans (Fr.of (S:=fg) (T:=T) z45);have lle:=ev.la.le;have hN:=ev.hN;refine⟨b,l,B,L.shapes,T,S,x,y,t,.ref t5,⟨.has (L.pt x) t (L.pt y),r,fr,nn⟩,rfl,ev5.sa,hin,by lia,by lia,by lia,ev.sl,⟨t5,pf,.ref t4,rfl,aa,⟨t4,vx,vy,rfl,z5 _ _ aa,IsK.mono z45.tups ivx,IsK.mono z45.tups ivy⟩,z45 _ _ epf1,tpf⟩,fun H6 T6 f6 s6=> ?_⟩;have ev6:=ev5.next f6 s6 (StI.keep_sl ev.sl);have c6:=StI.keep_cnt S (.has x t y) ⟨.has (L.pt x) t (L.pt y),r,fr,nn⟩;exact⟨_,_,ev6.sa.ob,nG B l,b,l,B,A,N,T6,L,_,y,rfl,ev6,hy,by lia,fun H7 T7 f7 ev7=>q H7 T7 ((f5.trans f6).trans f7) ev7⟩
end
def Fi.rg(n:Nat)(ts:List Str):Fi->Prop
 | .is x k=>x<n/\k<n
 | .has x t y=>x<n/\t∈ts/\y<n
structure Wf(n:Nat)(ts:List Str)(S:StI):Prop where
 nd:S.facts.Nodup
 rg:∀f∈S.facts,f.rg n ts
 sd:S.stand.Nodup
 sr:∀i∈S.stand,i<n
 st0:∀i∈S.stand,Fi.is i 0∈S.facts
 hs:∀x t y,Fi.has x t y∈S.facts->y∈S.stand
noncomputable def yK(n:Nat)(ts:List Str):List Fi:=((List.range n).flatMap fun x=>(List.range n).map fun k=>Fi.is x k)++ts.flatMap fun t=>(List.range n).flatMap fun x=>(List.range n).map fun y=>Fi.has x t y
def GX(h:f.rg n ts):f∈yK n ts:=by
 unfold yK;cases f with
 | is x k=>exact aP _ (De.mpr ⟨x,dj.mpr h.1,bS.mpr ⟨k,dj.mpr h.2,rfl⟩⟩)
 | has x t y=>exact aN _ (De.mpr ⟨t,h.2.1,De.mpr ⟨x,dj.mpr h.1,bS.mpr ⟨y,dj.mpr h.2.2,rfl⟩⟩⟩)
theorem nU{α β:Type}{f:α->List β}:∀{l:List α},(∀x∈l,(f x).length=n)->(l.flatMap f).length=l.length * n
 | [],_=>by simp
 | x::l,h=>by
   rw[List.flatMap_cons,ag,h x aZ,nU fun y hy=>h y (aG _ hy),aV,Nat.add_mul,Nat.one_mul,Nat.add_comm]
def Ha(n:Nat)(ts:List Str):(yK n ts).length=n * n+ts.length * (n * n):=by
 unfold yK;rw[ag,nU (n:=n) (fun x _=>by simp),jc,nU (n:=n * n) (fun t _=>by rw[nU (n:=n) (fun x _=>by simp),jc])]
theorem rV{α:Type}[DecidableEq α]:∀{l m:List α},l.Nodup->(∀x∈l,x∈m)->l.length<=m.length
 | [],_,_,_=>ay _
 | x::l,m,nd,h=>by
   have hx:=h x aZ;have:=rV (l:=l) (m:=m.erase x) (dv.mp nd).2 fun y hy=>by
    have ne:y≠x:=fun e=>(dv.mp nd).1 (by rw[<-e];exact hy);exact(List.mem_erase_of_ne ne).mpr (h y (aG _ hy))
   rw[List.length_erase_of_mem hx] at this;have pos:0<m.length:=List.length_pos_of_mem hx;rw[aV];lia
noncomputable def gW(n:Nat)(ts:List Str):Nat:=6 * (n * n+ts.length * (n * n))+n
def Wf.cnt(w:Wf n ts S):S.cnt<=gW n ts:=by
 have h1:S.facts.length<=(yK n ts).length:=rV w.nd fun f hf=>GX (w.rg f hf);have h2:S.stand.length<=(List.range n).length:=rV w.sd fun i hi=>dj.mpr (w.sr i hi);rw[Ha] at h1;rw[jc] at h2;unfold StI.cnt gW
 lia
def jP{α:Type}{l:List α}{x:α}(h:l.Nodup)(hx:x∉l):(l++[x]).Nodup:=by
 rw[mZ];exact⟨h,by simp,fun y hy z hz=>by rw[show z=x by simpa using hz];exact fun e=>hx (by rw[<-e];exact hy)⟩
section
def Wf.tellIs{n:Nat}{ts:List Str}{S:StI}{L:LoI}(w:Wf n ts S){x k:Nat}(hx:x<n)(hk:k<n)(r:Str)(fr:List Int)(nn:Option Int):Wf n ts (StI.tellIs L S x k r fr nn):=by
 unfold StI.tellIs
 split
 · exact w
 · rename_i h;have mem:∀{f},f∈S.facts->f∈S.facts++[Fi.is x k]:=fun hf=>aP _ hf;refine⟨jP w.nd h,fun f hf=> ?_,w.sd,w.sr,fun i hi=>mem (w.st0 i hi),fun a t y hf=> ?_⟩
   · rcases av.mp hf with hf | hf
     · exact w.rg f hf
     · rw[af.mp hf];exact⟨hx,hk⟩
   · rcases av.mp hf with hf | hf
     · exact w.hs a t y hf
     · cases af.mp hf
def dE(L:LoI)(S:StI)(x k:Nat)(r:Str)(fr:List Int)(nn:Option Int):(∀f∈S.facts,f∈(StI.tellIs L S x k r fr nn).facts)/\(StI.tellIs L S x k r fr nn).stand=S.stand/\Fi.is x k∈(StI.tellIs L S x k r fr nn).facts:=by
 unfold StI.tellIs
 split
 · rename_i h;exact⟨fun f hf=>hf,rfl,h⟩
 · exact⟨fun f hf=>aP _ hf,rfl,by show _∈S.facts++[_];simp⟩
def Wf.letStand'(nd:S.facts.Nodup)(rg:∀f∈S.facts,f.rg n ts)(sd:S.stand.Nodup)(sr:∀i∈S.stand,i<n)(st0:∀i∈S.stand,Fi.is i 0∈S.facts)(hs:∀a t y,Fi.has a t y∈S.facts->y∈S.stand\/y=x)(hx:x<n)(h0:0<n):Wf n ts (StI.letStand L S x):=by
 have isf:∀{S1:StI} {a k:Nat} {r:Str},S1.facts.Nodup/\(∀f∈S1.facts,f.rg n ts)/\S1.stand=S.stand++[x]/\(∀f∈S.facts,f∈S1.facts)/\(∀a t y,Fi.has a t y∈S1.facts->Fi.has a t y∈S.facts)->a<n->k<n->(StI.tellIs L S1 a k r [] none).facts.Nodup/\(∀f∈(StI.tellIs L S1 a k r [] none).facts,f.rg n ts)/\(StI.tellIs L S1 a k r [] none).stand=S.stand++[x]/\(∀f∈S.facts,f∈(StI.tellIs L S1 a k r [] none).facts)/\(∀a' t y,Fi.has a' t y∈(StI.tellIs L S1 a k r [] none).facts->Fi.has a' t y∈S.facts):=fun {S1 a k r} ⟨h1,h2,h3,h4,h5⟩ ha hk=>by
  unfold StI.tellIs
  split
  · exact⟨h1,h2,h3,h4,h5⟩
  · rename_i h;refine⟨jP h1 h,fun f hf=> ?_,h3,fun f hf=>aP _ (h4 f hf),fun a' t y hf=> ?_⟩
    · rcases av.mp hf with hf | hf
      · exact h2 f hf
      · rw[af.mp hf];exact⟨ha,hk⟩
    · rcases av.mp hf with hf | hf
      · exact h5 a' t y hf
      · cases af.mp hf
 unfold StI.letStand
 split
 · rename_i h;refine⟨nd,rg,sd,sr,st0,fun a t y hf=>(hs a t y hf).elim id fun e=>by rw[e];exact h⟩
 · rename_i h;have b0:(S.addS x).facts.Nodup/\(∀f∈(S.addS x).facts,f.rg n ts)/\(S.addS x).stand=S.stand++[x]/\(∀f∈S.facts,f∈(S.addS x).facts)/\(∀a t y,Fi.has a t y∈(S.addS x).facts->Fi.has a t y∈S.facts):=⟨nd,rg,rfl,fun f hf=>hf,fun _ _ _ hf=>hf⟩;have fin:∀{S2:StI},S2.facts.Nodup/\(∀f∈S2.facts,f.rg n ts)/\S2.stand=S.stand++[x]/\(∀f∈S.facts,f∈S2.facts)/\(∀a t y,Fi.has a t y∈S2.facts->Fi.has a t y∈S.facts)->Wf n ts (StI.tellIs L S2 x 0 "all" [] none):=fun {S2} b2=>by
    obtain⟨h1,h2,h3,h4,h5⟩:=isf (r:="all") b2 hx h0;have h6:=(dE L S2 x 0 "all" [] none).2.2;refine⟨h1,h2,by rw[h3];exact jP sd h,fun i hi=> ?_,fun i hi=> ?_,fun a t y hf=> ?_⟩
    · rw[h3] at hi;rcases av.mp hi with hi | hi
      · exact sr i hi
      · rw[af.mp hi];exact hx
    · rw[h3] at hi;rcases av.mp hi with hi | hi
      · exact h4 _ (st0 i hi)
      · rw[af.mp hi];exact h6
    · rw[h3];rcases hs a t y (h5 a t y hf) with z | z
      · exact aP _ z
      · rw[z];simp
   split
   · exact fin b0
   · exact fin (isf (r:="self") b0 hx hx)
def Wf.letStand{n:Nat}{ts:List Str}{S:StI}{L:LoI}(w:Wf n ts S){x:Nat}(hx:x<n):Wf n ts (StI.letStand L S x):=Wf.letStand' w.nd w.rg w.sd w.sr w.st0 (fun a t y h=> .inl (w.hs a t y h)) hx (bz (ay _) hx)
def Wf.tellHas{n:Nat}{ts:List Str}{S:StI}{L:LoI}(w:Wf n ts S){x y:Nat}{t:Str}(hx:x<n)(ht:t∈ts)(hy:y<n)(r:Str)(fr:List Int)(nn:Option Int):Wf n ts (StI.tellHas L S x t y r fr nn):=by
 unfold StI.tellHas
 split
 · exact w
 · rename_i h;refine Wf.letStand' (jP w.nd h) (fun f hf=> ?_) w.sd w.sr (fun i hi=>aP _ (w.st0 i hi)) (fun a s z hf=> ?_) hy (bz (ay _) hy)
   · rcases av.mp hf with hf | hf
     · exact w.rg f hf
     · rw[af.mp hf];exact⟨hx,ht,hy⟩
   · rcases av.mp hf with hf | hf
     · exact .inl (w.hs a s z hf)
     · cases af.mp hf;exact .inr rfl
end
structure LoI.Wd(L:LoI)(ts:List Str):Prop where
 ev:∀k,∀e∈L.everys k,e.1<L.parts.length
 no:∀k,∀e∈L.nos k,e.1<L.parts.length
 wi:∀r,∀e∈L.withins r,e.1∈ts
 m1:∀r,∀e∈L.mk1 r,e.2.1∈ts
 m2:∀r,∀e∈L.mk2 r,e.2.1∈ts
 bo:∀k,∀e∈L.boths k,e.1<L.parts.length/\e.2.1<L.parts.length
 so:∀k,∀e∈L.somes k,e.2<L.parts.length
 fi:∀(r:Str) (m i:Nat),L.fillers r=some m->m.testBit i=true->∃k,L.wholes r i=some k/\k<L.parts.length/\i<L.parts.length
 sh:∀(i:Nat) (r:Str) (j:Nat),L.shapes[i]? =some (Sh.some r j)->r∈ts
structure Ew(C D:Addr)(B:yN)(A:LoA)(b l:Addr)(N:Nat)(T:Tg)(H:Hp)(L:LoI)(ts:List Str)(S:StI):Prop where
 ev:Ev C D B A b l N T H L S
 wf:Wf L.parts.length ts S
 wd:L.Wd ts
 bd:gW L.parts.length ts<=9800000
section
def Ew.same(h:Ew C D B A b l N T H L ts S)(s:Same H H'):Ew C D B A b l N T H' L ts S:=⟨h.ev.same s,h.wf,h.wd,h.bd⟩
def Ew.cnt(h:Ew C D B A b l N T H L ts S):S.cnt<=9800000:=aq h.wf.cnt h.bd
end
def jf{α:Type}{R:Hp->V->α->Prop}(m:Mo R){H:Hp}{T:Tg}{i n:Nat}{p:Addr}{f:Key->List α}(h:FTb R H T i p f n)(tg:TgOk T H){g:Addr}(hg:H g=none)(k:Key):∃kvs q vs,upd H g (.lst []) p=some (.dK kvs)/\(c_ kvs k).getD (.ref g)= .ref q/\upd H g (.lst []) q=some (.lst vs)/\Paired (R (upd H g (.lst []))) vs (f k)/\∀{S:List Nat} {T':Tg} {H':Hp},Fr S T T' (upd H g (.lst [])) H'->i∉S->H' q=some (.lst vs):=by
 have s:=ah hg (.lst []);obtain⟨t,kvs,e,l,ll,r⟩:=h;refine⟨kvs,?_⟩;rcases r k with⟨z,z'⟩ | ⟨q,vs,z1,z2,z3,z4⟩
 · refine⟨g,[],s _ _ e,by rw[z];rfl,aa,by rw[z'];exact .nil,fun {S T' H'} fr hi=>(Fr.free fr aa (tg.free hg)).2⟩
 · exact⟨q,vs,s _ _ e,by rw[z1];rfl,s _ _ z3,GC m s.tups z4,fun {S T' H'} fr hi=>fr.at hi z2 (s _ _ z3)⟩
noncomputable def StI.fromKind(L:LoI)(S:StI)(at' x k:Nat):StI:=
 let S1:=(L.everys k).foldl (fun S e=>StI.tellIs L S x e.1 "every" [(at':Int)] (some e.2)) S
 match L.shapes[k]? with
 | some (.both i j)=>StI.tellIs L (StI.tellIs L S1 x i "first" [(at':Int)] none) x j "second" [(at':Int)] none
 | some (.some r j)=>StI.tellHas L S1 x r j "some" [(at':Int)] none
 | _=>S1
def Ew.tell(h:Ew C D B A b l N T H L ts S)(ev:Ev C D B A b l N T' H' L S')(w:Wf L.parts.length ts S'):Ew C D B A b l N T' H' L ts S':=⟨ev,w,h.wd,h.bd⟩
def hJ(ew:Ew C D B A b l N T H L ts S)(hx:x<L.parts.length)(hk:k<L.parts.length)(epf:H pf=some (.lst (fr.map V.int)))(tpf:T pf=none)(q:∀H' T',Fr fg T T' H H'->Ew C D B A b l N T' H' L ts (StI.tellIs L S x k r fr nn)->Q .non H'):mj C D [.ref b,.int (x:Int),.int (k:Int),.str r,.ref pf,mJ nn] H Q:=⟨b,l,B,A,N,T,L,S,x,k,r,pf,fr,nn,rfl,ew.ev,hx,hk,aq ew.cnt (by decide),epf,tpf,fun H' T' f ev=>q H' T' f (ew.tell ev (ew.wf.tellIs hx hk r fr nn))⟩
def kf(ew:Ew C D B A b l N T H L ts S)(hx:x<L.parts.length)(ht:t∈ts)(hy:y<L.parts.length)(epf:H pf=some (.lst (fr.map V.int)))(tpf:T pf=none)(q:∀H' T',Fr fg T T' H H'->Ew C D B A b l N T' H' L ts (StI.tellHas L S x t y r fr nn)->Q .non H'):kh C D [.ref b,.int (x:Int),.str t,.int (y:Int),.str r,.ref pf,mJ nn] H Q:=⟨b,l,B,A,N,T,L,S,x,t,y,r,pf,fr,nn,rfl,ew.ev,hx,hy,aq ew.cnt (by decide),epf,tpf,fun H' T' f ev=>q H' T' f (ew.tell ev (ew.wf.tellHas hx ht hy r fr nn))⟩
def v7(f:Nat->List α)(k:Nat):kN f (.inl (k:Int))=f k:=by
 show(if 0<=(k:Int) then f (k:Int).toNat else [])=_;rw[aH (by lia),bW]
def dG{α:Type}(g:StI->α->StI)(S:StI){l:List α}{i:Nat}{x:α}(h:l[i]? =some x):(l.take (i+1)).foldl g S=g ((l.take i).foldl g S) x:=by
 rw[bH,h,fz];rfl
inductive nC(C D:Addr)(vs:List V)(H:Hp)(Q:VK):Prop
 | mk:∀(b l:Addr) (B:yN) (A:LoA) (N:Nat) (T:Tg) (L:LoI) (ts:List Str) (S:StI) (at' x k:Nat),(vs=[.ref b,.int (at':Int),.int (x:Int),.int (k:Int)])->(Ew C D B A b l N T H L ts S)->(x<L.parts.length)->(k<L.parts.length)->(∀H' T',Fr fg T T' H H'->Ew C D B A b l N T' H' L ts (StI.fromKind L S at' x k)->Q .non H')->nC C D vs H Q
def rq(C D:Addr):Sp:=fun vs H Q _=>nC C D vs H Q
section
def scFK:bq ["self","at","x","kind","other","number","form","first","second"] pP (aK mC):=gU
def xU(F:Fun K "from_kind" "Still.from_kind" mC f fd)(lc:wD K C)(sc:uR K D)(Gti:Ml P w K mg base D 2 "tell_is" nJ (h_ C D))(Gth:Ml P w K mg base D 6 "tell_has" rM (jx C D)):b_ P w K mg base fj 7 f fd pP (rq C D):=by
 refine F.o scFK fun cdv A0 outer s0 H vs Q E hr h=> ?_;obtain⟨b,l,B,A,N,T,L,ts,S,at',x,k,rfl,ew,hx,hk,q⟩:=h;have hu:=gA hr;refine⟨_,jM (lZ (cj (rR hu (du (du aB)) bU (bR cu))) (eY rfl (br (fq 4 scFK.nd) (br (fq 5 scFK.nd) dX))) (bb (bg (iw aB sc.c Gti hr (bZ bF (jk bX aJ (bR (eF bp)) cX))))))
  (a_ (bu (dC mH (j7 bY (du (du aB)) bU) dN) (bb (lg)) aX)
  (a_ (kr (j7 bY (du (du aB)) bU) (eY rfl (br (fq 6 scFK.nd) (br (fq 7 scFK.nd) (br (fq 8 scFK.nd) dX)))))
  (bb (bu (dC bN eK aJ) (a_ (bg (iw aB sc.c Gti hr (bZ bF (jk iZ aJ (bR (eF bp)) dN)))) (bb (bg (iw aB sc.c Gti hr (bZ bF (jk gh aJ (bR (eF bp)) dN)))))) (bb (bg (iw aB sc.c Gth hr (bZ bF (bZ iZ (jk gh aJ (bR (eF bp)) dN)))))))))),?_⟩
 refine⟨fun σ H'=>∃(o4 o5 o6 o7 o8:Option V) (T':Tg),σ=[some (.ref b),some (.int (at':Int)),some (.int (x:Int)),some (.int (k:Int)),o4,o5,o6,o7,o8]/\Fr fg T T' H H'/\Ew C D B A b l N T' H' L ts ((L.everys k).foldl (fun S e=>StI.tellIs L S x e.1 "every" [(at':Int)] (some e.2)) S),?_,?_⟩
 · refine⟨D,_,_,_,ew.ev.sa.ob,sc.c,sc.m0,qu B l,C,_,_,_,ew.ev.la.ob,lc.c,lc.n4,N_ A,.inl ⟨_,.inl (id ew.ev.la.f4).2.choose_spec.1⟩,ay _,fun g0 hg0=> ?_⟩;obtain⟨kvs,qq,vs,ep,eg,eq,rv,stay⟩:=jf e2_mo ew.ev.la.f4 ew.ev.la.tg hg0 (.inl (k:Int));rw[v7] at rv;have z1:=ah hg0 (.lst []);have ew1:=ew.same z1;have f1:Fr fg T T H (upd H g0 (.lst [])):=Fr.of z1;generalize upd H g0 (.lst [])=H1 at ep eq rv stay ew1 f1⊢;refine⟨_,DGet.k (k:= .inl (k:Int)) ep,?_⟩;rw[eg];have lv:=aS rv;refine⟨⟨_,SqL.of eq⟩,cf (xs:=vs) (fun i σ H2=>∃(o4 o5:Option V) (T2:Tg),σ=[some (.ref b),some (.int (at':Int)),some (.int (x:Int)),some (.int (k:Int)),o4,o5,none,none,none]/\Fr fg T T2 H1 H2/\Ew C D B A b l N T2 H2 L ts (((L.everys k).take i).foldl (fun S e=>StI.tellIs L S x e.1 "every" [(at':Int)] (some e.2)) S)) ⟨none,none,T,rfl,Fr.refl,ew1⟩ ?_ ?_ ?_⟩
   · rintro i σ H2 _ ⟨o4,o5,T2,rfl,f2,_⟩;exact SqL.of (stay f2 (by decide))
   · rintro i y σ H2 hy ⟨o4,o5,T2,rfl,f2,ew2⟩;obtain⟨e,he,t0,rfl,ht⟩:=cG rv hy;have hin:=ar he;refine⟨_,SqT.of (f2.tups _ _ ht),rfl,?_⟩;refine⟨_,_,ew2.ev.sa.ob,dF B l,by show 1<=sizeLine;decide,fun pf hpf=> ?_⟩;have z3:=ah hpf (.lst [.int (at':Int)]);refine hJ (nn:=some e.2) (fr:=[(at':Int)]) (ew2.same z3) hx (ew.wd.ev k e hin) aa (ew2.ev.sa.tg.free hpf) fun H4 T4 f4 ew4=>⟨_,_,T4,rfl,(f2.trans (Fr.of z3)).trans f4,?_⟩;rw[dG _ _ he];exact ew4
   · rintro σ H2 ⟨o4,o5,T2,rfl,f2,ew2⟩;rw[lv,be] at ew2;exact⟨o4,o5,none,none,none,T2,rfl,f1.trans f2,ew2⟩
 rintro σ H' ⟨o4,o5,o6,o7,o8,T',rfl,fr,ew1⟩;unfold StI.fromKind at q;dsimp only at q;generalize (L.everys k).foldl (fun S e=>StI.tellIs L S x e.1 "every" [(at':Int)] (some e.2)) S=S1 at ew1 q;obtain⟨_,ss,e7,r7⟩:=id ew1.ev.la.f1;obtain⟨sk,hsk⟩:∃sk,L.shapes[k]? =some sk:=⟨_,aw (by rw[ew.ev.la.sl];exact hk)⟩;obtain⟨vsk,hv,ivk⟩:=qc r7 hsk;rw[hsk] at q;have slt:=ew.ev.ok.lt _ _ hsk;refine⟨D,_,_,_,ew1.ev.sa.ob,sc.c,sc.m0,qu B l,C,_,_,_,ew1.ev.la.ob,lc.c,lc.n1,lk1 A,ss,vsk,SqL.of e7,aR hv,rfl,?_⟩;cases sk with
 | no=>
   obtain rfl:vsk= .non:=ivk;exact(q H' T' fr ew1)
 | both i j=>
   obtain⟨pp,rfl,hpp⟩:=ivk;refine⟨D,_,_,_,ew1.ev.sa.ob,sc.c,sc.m0,qu B l,C,_,_,_,ew1.ev.la.ob,lc.c,lc.n1,lk1 A,ss,_,SqL.of e7,aR hv,_,SqT.of hpp,rfl,?_⟩;refine⟨_,_,ew1.ev.sa.ob,dF B l,by show 1<=sizeLine;decide,fun pf hpf=> ?_⟩;have z3:=ah hpf (.lst [.int (at':Int)]);refine hJ (nn:=none) (fr:=[(at':Int)]) (ew1.same z3) hx slt.1 aa (ew1.ev.sa.tg.free hpf) fun H4 T4 f4 ew4=> ?_;refine⟨_,_,ew4.ev.sa.ob,dF B l,by show 1<=sizeLine;decide,fun pf' hpf'=> ?_⟩;have z5:=ah hpf' (.lst [.int (at':Int)]);exact hJ (nn:=none) (fr:=[(at':Int)]) (ew4.same z5) hx slt.2 aa (ew4.ev.sa.tg.free hpf') fun H6 T6 f6 ew6=>q H6 T6 ((((fr.trans (Fr.of z3)).trans f4).trans (Fr.of z5)).trans f6) ew6
 | some r j=>
   obtain⟨pp,rfl,hpp⟩:=ivk;refine⟨D,_,_,_,ew1.ev.sa.ob,sc.c,sc.m0,qu B l,C,_,_,_,ew1.ev.la.ob,lc.c,lc.n1,lk1 A,ss,_,SqL.of e7,aR hv,_,SqT.of hpp,rfl,?_⟩;refine⟨_,_,ew1.ev.sa.ob,ie B l,by show 1<=sizeLine;decide,fun pf hpf=> ?_⟩;have z3:=ah hpf (.lst [.int (at':Int)]);exact kf (nn:=none) (fr:=[(at':Int)]) (ew1.same z3) hx (ew.wd.sh _ _ _ hsk) slt aa (ew1.ev.sa.tg.free hpf) fun H4 T4 f4 ew4=>q H4 T4 ((fr.trans (Fr.of z3)).trans f4) ew4
end
noncomputable def D_(i j:Int)(b:Bool):List Int:=if b then [i,j] else [j,i]
def xP(i j:Int)(b:Bool):xQ i j b=(D_ i j b).map V.int:=by cases b<;>rfl
noncomputable def StI.byNo(L:LoI)(at' x:Nat)(S:StI)(e:Nat × Int × Bool):StI:=if Fi.is x e.1∈S.facts then StI.tellIs L S x 1 "no" (D_ (at':Int) (S.facts.idxOf (.is x e.1):Nat) e.2.2) (some e.2.1) else S
noncomputable def StI.byBoth(L:LoI)(at' x:Nat)(S:StI)(e:Nat × Nat × Bool):StI:=if Fi.is x e.1∈S.facts then StI.tellIs L S x e.2.1 "both" (D_ (at':Int) (S.facts.idxOf (.is x e.1):Nat) e.2.2) none else S
noncomputable def StI.fromPairs(L:LoI)(S:StI)(at' x k:Nat):StI:=(L.boths k).foldl (StI.byBoth L at' x) ((L.nos k).foldl (StI.byNo L at' x) S)
def ku(sa:lP D B b l T H sh S)(f:Fi):∃kvs,H B.q2=some (.dT kvs)/\c_ kvs f.key=if f∈S.facts then some (.int (S.facts.idxOf f:Nat)) else none:=by
 obtain⟨_,kvs,e,r,_⟩:=id sa.s2;refine⟨kvs,e,?_⟩;rw[r];show BE S.facts f.key=_
 split
 · rename_i h;exact xI h
 · rename_i h;exact xJ h
inductive lX(C D:Addr)(vs:List V)(H:Hp)(Q:VK):Prop
 | mk:∀(b l:Addr) (B:yN) (A:LoA) (N:Nat) (T:Tg) (L:LoI) (ts:List Str) (S:StI) (at' x k:Nat),(vs=[.ref b,.int (at':Int),.int (x:Int),.int (k:Int)])->(Ew C D B A b l N T H L ts S)->(x<L.parts.length)->(∀H' T',Fr fg T T' H H'->Ew C D B A b l N T' H' L ts (StI.fromPairs L S at' x k)->Q .non H')->lX C D vs H Q
def pL(C D:Addr):Sp:=fun vs H Q _=>lX C D vs H Q
section
def scFP:bq ["self","at","x","kind","other","number","is_first","froms","whole"] pP (aK km):=gU
def vN(F:Fun K "from_pairs" "Still.from_pairs" km f fd)(lc:wD K C)(sc:uR K D)(Gti:Ml P w K mg base D 2 "tell_is" nJ (h_ C D))(Gio:Cl P w K mg base 1 "in_order" xD HV):b_ P w K mg base fj 3 f fd pP (pL C D):=by
 refine F.o scFP fun cdv A0 outer s0 H vs Q E hr h=> ?_;obtain⟨b,l,B,A,N,T,L,ts,S,at',x,k,rfl,ew,hx,q⟩:=h;have hu:=gA hr;refine⟨_,jM (lZ (cj (rR hu (du (du aB)) bU (bR cu))) (eY rfl (br (fq 4 scFP.nd) (br (fq 5 scFP.nd) (br (fq 6 scFP.nd) dX)))) (bb (bu (dC (oR hu) (cq (fb bF bX)) (du aB)) (a_ (fe 7 scFP.nd (eB Gio hr (gD bp (Df hu (du aB) (cq (fb bF bX))) eK))) (bb (bg (iw aB sc.c Gti hr (bZ bF (jk (du (du aB)) aJ iZ cX)))))) aX)))
  (bb (lZ (cj (rR hu (du (du aB)) bU (bR cu))) (eY rfl (br (fq 4 scFP.nd) (br (fq 8 scFP.nd) (br (fq 6 scFP.nd) dX)))) (bb (bu (dC (oR hu) (cq (fb bF bX)) (du aB)) (bb (bg (iw aB sc.c Gti hr (bZ bF (jk gh aJ (eB Gio hr (gD bp (Df hu (du aB) (cq (fb bF bX))) eK)) dN))))) aX)))),?_⟩
 have p1:1<L.parts.length:=ew.ev.p2;refine⟨fun σ H'=>∃(o4 o5 o6 o7 o8:Option V) (T':Tg),σ=[some (.ref b),some (.int (at':Int)),some (.int (x:Int)),some (.int (k:Int)),o4,o5,o6,o7,o8]/\Fr fg T T' H H'/\Ew C D B A b l N T' H' L ts ((L.nos k).foldl (StI.byNo L at' x) S),?_,?_⟩
 · refine⟨D,_,_,_,ew.ev.sa.ob,sc.c,sc.m0,qu B l,C,_,_,_,ew.ev.la.ob,lc.c,lc.n5,NB A,.inl ⟨_,.inl (id ew.ev.la.f5).2.choose_spec.1⟩,ay _,fun g0 hg0=> ?_⟩;obtain⟨kvs,qq,vs,ep,eg,eq,rv,stay⟩:=jf e3_mo ew.ev.la.f5 ew.ev.la.tg hg0 (.inl (k:Int));rw[v7] at rv;have z1:=ah hg0 (.lst []);have ew1:=ew.same z1;have f1:Fr fg T T H (upd H g0 (.lst [])):=Fr.of z1;generalize upd H g0 (.lst [])=H1 at ep eq rv stay ew1 f1⊢;refine⟨_,DGet.k (k:= .inl (k:Int)) ep,?_⟩;rw[eg];have lv:=aS rv;refine⟨⟨_,SqL.of eq⟩,cf (xs:=vs) (fun i σ H2=>∃(o4 o5 o6 o7 o8:Option V) (T2:Tg),σ=[some (.ref b),some (.int (at':Int)),some (.int (x:Int)),some (.int (k:Int)),o4,o5,o6,o7,o8]/\Fr fg T T2 H1 H2/\Ew C D B A b l N T2 H2 L ts (((L.nos k).take i).foldl (StI.byNo L at' x) S)) ⟨none,none,none,none,none,T,rfl,Fr.refl,ew1⟩ ?_ ?_ ?_⟩
   · rintro i σ H2 _ ⟨o4,o5,o6,o7,o8,T2,rfl,f2,_⟩;exact SqL.of (stay f2 (by decide))
   · rintro i y σ H2 hy ⟨o4,o5,o6,o7,o8,T2,rfl,f2,ew2⟩;obtain⟨e,he,t0,rfl,ht⟩:=cG rv hy;have hin:=ar he;rw[dG _ _ he];generalize ((L.nos k).take i).foldl (StI.byNo L at' x) S=S2 at ew2⊢;refine⟨_,SqT.of (f2.tups _ _ ht),rfl,?_⟩;refine⟨by show 2<=sizeLine;decide,fun u hu'=> ?_⟩;have z3:=ah hu' (.tup [.int (x:Int),.int (e.1:Int)]);have ew3:=ew2.same z3;have h3:upd H2 u (.tup [.int (x:Int),.int (e.1:Int)]) u=some (.tup [.int (x:Int),.int (e.1:Int)]):=aa;have f3:=f2.trans (Fr.of (S:=fg) (T:=T2) z3);generalize upd H2 u (.tup [.int (x:Int),.int (e.1:Int)])=H3 at ew3 h3 f3⊢;obtain⟨kp,e4,r4⟩:=ku ew3.ev.sa (.is x e.1);refine⟨D,_,_,_,ew3.ev.sa.ob,sc.c,sc.m3,DI B l,B.q2,_,rfl,DGet.t (k:=(Fi.is x e.1).key) e4 h3,?_⟩;rw[r4];unfold StI.byNo;by_cases hf:Fi.is x e.1∈S2.facts
     · rw[aH hf,aH hf];refine⟨D,_,_,_,ew3.ev.sa.ob,sc.c,sc.m3,DI B l,by show 2<=sizeLine;decide,fun u5 hu5=> ?_⟩;have z5:=ah hu5 (.tup [.int (x:Int),.int (e.1:Int)]);have ew5:=ew3.same z5;have h5:upd H3 u5 (.tup [.int (x:Int),.int (e.1:Int)]) u5=some (.tup [.int (x:Int),.int (e.1:Int)]):=aa;have f5:=f3.trans (Fr.of (S:=fg) (T:=T2) z5);have e5:=z5 _ _ e4;generalize upd H3 u5 (.tup [.int (x:Int),.int (e.1:Int)])=H5 at ew5 h5 f5 e5⊢;refine⟨_,.inr ⟨kp,(Fi.is x e.1).key,u5,.inl e5,rfl,h5,by rw[r4,aH hf]⟩,(at':Int),(S2.facts.idxOf (.is x e.1):Nat),e.2.2,rfl,fun pf hpf=> ?_⟩;have z6:=ah hpf (.lst (xQ (at':Int) (S2.facts.idxOf (.is x e.1):Nat) e.2.2));have ew6:=ew5.same z6;have e6:upd H5 pf (.lst (xQ (at':Int) (S2.facts.idxOf (.is x e.1):Nat) e.2.2)) pf=some (.lst ((D_ (at':Int) (S2.facts.idxOf (.is x e.1):Nat) e.2.2).map V.int)):=by rw[aa,xP]
       have f6:=f5.trans (Fr.of (S:=fg) (T:=T2) z6);have t6:=ew5.ev.sa.tg.free hpf;generalize upd H5 pf (.lst (xQ (at':Int) (S2.facts.idxOf (.is x e.1):Nat) e.2.2))=H6 at ew6 e6 f6⊢;refine⟨_,_,ew6.ev.sa.ob,dF B l,D,_,_,_,ew6.ev.sa.ob,sc.c,sc.m0,qu B l,C,_,_,_,ew6.ev.la.ob,lc.c,lc.n14,EH ew.ev.ex,?_⟩;exact hJ (k:=1) (nn:=some e.2.1) ew6 hx p1 e6 t6 fun H7 T7 f7 ew7=>⟨_,_,_,_,_,T7,rfl,f6.trans f7,ew7⟩
     · rw[aE hf,aE hf];exact⟨_,_,_,_,_,T2,rfl,f3,ew3⟩
   · rintro σ H2 ⟨o4,o5,o6,o7,o8,T2,rfl,f2,ew2⟩;rw[lv,be] at ew2;exact⟨o4,o5,o6,o7,o8,T2,rfl,f1.trans f2,ew2⟩
 rintro σ H' ⟨o4,o5,o6,o7,o8,T',rfl,fr,ew0⟩;unfold StI.fromPairs at q;generalize (L.nos k).foldl (StI.byNo L at' x) S=S0 at ew0 q;refine⟨D,_,_,_,ew0.ev.sa.ob,sc.c,sc.m0,qu B l,C,_,_,_,ew0.ev.la.ob,lc.c,lc.n9,NA A,.inl ⟨_,.inl (id ew0.ev.la.f9).2.choose_spec.1⟩,ay _,fun g0 hg0=> ?_⟩;obtain⟨kvs,qq,vs,ep,eg,eq,rv,stay⟩:=jf eb_mo ew0.ev.la.f9 ew0.ev.la.tg hg0 (.inl (k:Int));rw[v7] at rv;have z1:=ah hg0 (.lst []);have ew1:=ew0.same z1;have f1:Fr fg T' T' H' (upd H' g0 (.lst [])):=Fr.of z1;generalize upd H' g0 (.lst [])=H1 at ep eq rv stay ew1 f1⊢;refine⟨_,DGet.k (k:= .inl (k:Int)) ep,?_⟩;rw[eg];have lv:=aS rv;refine⟨⟨_,SqL.of eq⟩,cf (xs:=vs) (fun i σ H2=>∃(o4 o5 o6 o7 o8:Option V) (T2:Tg),σ=[some (.ref b),some (.int (at':Int)),some (.int (x:Int)),some (.int (k:Int)),o4,o5,o6,o7,o8]/\Fr fg T' T2 H1 H2/\Ew C D B A b l N T2 H2 L ts (((L.boths k).take i).foldl (StI.byBoth L at' x) S0)) ⟨o4,o5,o6,o7,o8,T',rfl,Fr.refl,ew1⟩ ?_ ?_ ?_⟩
 · rintro i σ H2 _ ⟨o4,o5,o6,o7,o8,T2,rfl,f2,_⟩;exact SqL.of (stay f2 (by decide))
 · rintro i y σ H2 hy ⟨o4,o5,o6,o7,o8,T2,rfl,f2,ew2⟩;obtain⟨e,he,t0,rfl,ht⟩:=cG rv hy;have hin:=ar he;rw[dG _ _ he];generalize ((L.boths k).take i).foldl (StI.byBoth L at' x) S0=S2 at ew2⊢;refine⟨_,SqT.of (f2.tups _ _ ht),rfl,?_⟩;refine⟨by show 2<=sizeLine;decide,fun u hu'=> ?_⟩;have z3:=ah hu' (.tup [.int (x:Int),.int (e.1:Int)]);have ew3:=ew2.same z3;have h3:upd H2 u (.tup [.int (x:Int),.int (e.1:Int)]) u=some (.tup [.int (x:Int),.int (e.1:Int)]):=aa;have f3:=f2.trans (Fr.of (S:=fg) (T:=T2) z3);generalize upd H2 u (.tup [.int (x:Int),.int (e.1:Int)])=H3 at ew3 h3 f3⊢;obtain⟨kp,e4,r4⟩:=ku ew3.ev.sa (.is x e.1);refine⟨D,_,_,_,ew3.ev.sa.ob,sc.c,sc.m3,DI B l,B.q2,_,rfl,DGet.t (k:=(Fi.is x e.1).key) e4 h3,?_⟩;rw[r4];unfold StI.byBoth;by_cases hf:Fi.is x e.1∈S2.facts
   · rw[aH hf,aH hf];refine⟨_,_,ew3.ev.sa.ob,dF B l,D,_,_,_,ew3.ev.sa.ob,sc.c,sc.m3,DI B l,by show 2<=sizeLine;decide,fun u5 hu5=> ?_⟩;have z5:=ah hu5 (.tup [.int (x:Int),.int (e.1:Int)]);have ew5:=ew3.same z5;have h5:upd H3 u5 (.tup [.int (x:Int),.int (e.1:Int)]) u5=some (.tup [.int (x:Int),.int (e.1:Int)]):=aa;have f5:=f3.trans (Fr.of (S:=fg) (T:=T2) z5);have e5:=z5 _ _ e4;generalize upd H3 u5 (.tup [.int (x:Int),.int (e.1:Int)])=H5 at ew5 h5 f5 e5⊢;refine⟨_,.inr ⟨kp,(Fi.is x e.1).key,u5,.inl e5,rfl,h5,by rw[r4,aH hf]⟩,(at':Int),(S2.facts.idxOf (.is x e.1):Nat),e.2.2,rfl,fun pf hpf=> ?_⟩;have z6:=ah hpf (.lst (xQ (at':Int) (S2.facts.idxOf (.is x e.1):Nat) e.2.2));have ew6:=ew5.same z6;have e6:upd H5 pf (.lst (xQ (at':Int) (S2.facts.idxOf (.is x e.1):Nat) e.2.2)) pf=some (.lst ((D_ (at':Int) (S2.facts.idxOf (.is x e.1):Nat) e.2.2).map V.int)):=by rw[aa,xP]
     have f6:=f5.trans (Fr.of (S:=fg) (T:=T2) z6);have t6:=ew5.ev.sa.tg.free hpf;generalize upd H5 pf (.lst (xQ (at':Int) (S2.facts.idxOf (.is x e.1):Nat) e.2.2))=H6 at ew6 e6 f6⊢;exact hJ (k:=e.2.1) (nn:=none) ew6 hx (ew.wd.bo k e hin).2 e6 t6 fun H7 T7 f7 ew7=>⟨_,_,_,_,_,T7,rfl,f6.trans f7,ew7⟩
   · rw[aE hf,aE hf];exact⟨_,_,_,_,_,T2,rfl,f3,ew3⟩
 · rintro σ H2 ⟨o4,o5,o6,o7,o8,T2,rfl,f2,ew2⟩;rw[lv,be] at ew2;exact q H2 T2 ((fr.trans f1).trans f2) ew2
end
noncomputable def StI.byTie(L:LoI)(at' y:Nat)(t:Str)(k:Nat)(r:Str)(S:StI)(x:Nat):StI:=StI.tellIs L S x k r [(S.facts.idxOf (.has x t y):Nat),(at':Int)] none
noncomputable def sG(S:StI)(y:Nat)(t:Str)(k:Nat):Nat:=anot (cM (cB S.facts y t)) (cM (iR S.facts k))
noncomputable def StI.byEnd(L:LoI)(at' y:Nat)(r:Str)(S:StI)(t:Str)(k:Nat):StI:=(cQ (sG S y t k)).foldl (StI.byTie L at' y t k r) S
noncomputable def StI.fromEnd(L:LoI)(S:StI)(at' y k:Nat):StI:=
 let S1:=(L.somes k).foldl (fun S e=>StI.byEnd L at' y "tie" S e.1 e.2) S
 if k=1 then(eW S1.facts).foldl (fun S t=>StI.byEnd L at' y "none" S t k) S1 else S1
theorem lI(L:LoI)(at' y:Nat)(t:Str)(k:Nat)(r:Str){f:Fi}:∀(l:List Nat) {S:StI},f∈S.facts->f∈(l.foldl (StI.byTie L at' y t k r) S).facts
 | [],_,h=>h
 | x::l,S,h=>lI L at' y t k r l ((dE L S x k r _ none).1 f h)
theorem mR{α:Type}(L:LoI)(at' y:Nat)(r:Str)(g:α->Str)(h:α->Nat){f:Fi}:∀(l:List α) {S:StI},f∈S.facts->f∈(l.foldl (fun S e=>StI.byEnd L at' y r S (g e) (h e)) S).facts
 | [],_,z=>z
 | x::l,S,z=>mR L at' y r g h l (lI L at' y (g x) (h x) r _ z)
def mem_startsOf:x∈cB F y t↔Fi.has x t y∈F:=by
 unfold cB;rw[d_];constructor
 · rintro⟨f,hf,h⟩;cases f with
   | is a b=>cases h
   | has a s b=>
     dsimp only at h
     split at h
     · rename_i c;cases h;rw[<-c.1,<-c.2];exact hf
     · cases h
 · intro h;exact⟨_,h,aH ⟨rfl,rfl⟩⟩
def mem_endsOf:y∈eP F x t↔Fi.has x t y∈F:=by
 unfold eP;rw[d_];constructor
 · rintro⟨f,hf,h⟩;cases f with
   | is a b=>cases h
   | has a s b=>
     dsimp only at h
     split at h
     · rename_i c;cases h;rw[<-c.1,<-c.2];exact hf
     · cases h
 · intro h;exact⟨_,h,aH ⟨rfl,rfl⟩⟩
def mem_ksOf:k∈iU F x↔Fi.is x k∈F:=by
 unfold iU;rw[d_];constructor
 · rintro⟨f,hf,h⟩;cases f with
   | is a b=>
     dsimp only at h
     split at h
     · rename_i c;cases h;rw[<-c];exact hf
     · cases h
   | has a s b=>cases h
 · intro h;exact⟨_,h,aH rfl⟩
def mem_xsOf:x∈iR F k↔Fi.is x k∈F:=by
 unfold iR;rw[d_];constructor
 · rintro⟨f,hf,h⟩;cases f with
   | is a b=>
     dsimp only at h
     split at h
     · rename_i c;cases h;rw[<-c];exact hf
     · cases h
   | has a s b=>cases h
 · intro h;exact⟨_,h,aH rfl⟩
def Hz(h:a<2^n):anot a b<2^n:=bz (Nat.sub_le _ _) h
def sF(h:x∈cQ (sG S y t k)):Fi.has x t y∈S.facts:=by
 rw[lD,sG,oa,kH,aO,bD] at h;exact mem_startsOf.mp h.1
section
abbrev jn(t:TE)(σ:L2.St)(v:V):Prop:=∀H Q,Q v H->t σ H Q
def gv(h:σ[i]? =some (some v)):jn (ot i) σ v:=fun _ _ k=>onV.of h k
def cV(h:σ[i]? =some (some v))(q:ta σ H fun xs H2=>Q (v::xs) H2):dU (ot i) ta σ H Q:=onV.of h q
def oI{g:Int->Int->Bool}{Q:Bool->Hp->Prop}(c:g i j=k)(q:Q k H):zG (fun i j=>V.bl (g i j)) (.int i) (.int j) H fun x H1=>onB x fun c=>Q c H1:=by
 show Q (g i j) H;rw[c];exact q
def oN{Q:Bool->Hp->Prop}(s:Ci a b=true)(c:decide (a=b)=k)(q:Q (!k) H):N4 a b H fun x H1=>onB x fun c=>Q c H1:=by
 show onT (Ci a b) _;rw[s];show Q (!decide (a=b)) H;rw[c];exact q
def gn(h:Q (σ.set i (some v)) H):iA i v σ H Q:=h
def g3(h:Q (((σ.set i (some v)).set j (some w)).set k (some u)) H):pX (iA i) (pX (iA j) (pX (iA k) Hk)) [v,w,u] σ H Q:=h
def g2(h:Q ((σ.set i (some v)).set j (some w)) H):pX (iA i) (pX (iA j) Hk) [v,w] σ H Q:=h
def mP{x:Nat}(sc:uR K D)(hn:NoAttr K D nm)(hl:(mU B l).lookup nm=some (.ref q))(ob:H b=some (.ins D B.dx (mU B l)))(ft:FT H T i q (CI g) n)(h0:jn tb σ (.ref b))(h1:jn ta σ (.int (x:Int)))(h2:jn tt σ (.str t))(k:∀H',Same H H'->Q (.int (cM (g x t):Nat)) H'):uZ (yX K tb nm) (F2 (dU ta (dU tt gB))) (tC (.int 0)) σ H Q:=by
 obtain⟨_,kvs,e,r,_⟩:=ft;refine h0 _ _ ⟨D,_,_,_,ob,sc.c,hn,hl,.inr ⟨_,.inl e⟩,h1 _ _ (h2 _ _ ⟨by show 2<=sizeLine;decide,fun u hu=> ?_⟩)⟩;have z:=ah hu (.tup [.int (x:Int),.str t]);refine⟨_,DGet.t (k:=[.inl (x:Int),.inr t]) (z _ _ e) aa,?_⟩;rw[r,qC];exact k _ z
def J5{x:Nat}(sc:uR K D)(hn:NoAttr K D nm)(hl:(mU B l).lookup nm=some (.ref q))(ob:H b=some (.ins D B.dx (mU B l)))(ft:FK H T i q (zZ g) n)(h0:jn tb σ (.ref b))(h1:jn ta σ (.int (x:Int)))(k:Q (.int (cM (g x):Nat)) H):uZ (yX K tb nm) ta (tC (.int 0)) σ H Q:=by
 obtain⟨_,kvs,e,r,_⟩:=ft;refine h0 _ _ ⟨D,_,_,_,ob,sc.c,hn,hl,.inl ⟨_,.inl e⟩,h1 _ _ ⟨_,DGet.k (k:= .inl (x:Int)) e,?_⟩⟩;rw[r,vV];exact k
def IE{x:Nat}(sc:uR K D)(hn:NoAttr K D nm)(hl:(mU B l).lookup nm=some (.ref q))(ob:H b=some (.ins D B.dx (mU B l)))(ft:FK H T i q (zZ g) n)(h0:jn tb σ (.ref b))(h1:jn ta σ (.int (x:Int)))(ne:g x≠[])(k:Q (.int (cM (g x):Nat)) H):wR (yX K tb nm) ta σ H Q:=by
 obtain⟨_,kvs,e,r,_⟩:=ft;refine h0 _ _ ⟨D,_,_,_,ob,sc.c,hn,hl,h1 _ _ ⟨.int (cM (g x):Nat),?_,k⟩⟩;refine .inl ⟨kvs,.inl (x:Int),.inl e,rfl,?_⟩;rw[r];show _=(if 0<=(x:Int)/\g (x:Int).toNat≠[] then some (V.int (cM (g (x:Int).toNat):Nat)) else none);rw[bW,aH ⟨by lia,ne⟩]
def lJ{a c:Nat}(h1:∀Q:VK,(∀H1,Same H H1->Q (.int (a:Int)) H1)->ta σ H Q)(h2:∀(H1:Hp) (Q:VK),Same H H1->(∀H2,Same H1 H2->Q (.int (c:Int)) H2)->tb σ H1 Q)(lt:a<2^n)(le:n<=100000)(k:∀H2 pl,Same H H2->H2 pl=some (.lst ((cQ (anot a c)).map fun(i:Nat)=>V.int (i:Int)))->(∀T,TgOk T H->T pl=none)->R (Ky K pl) H2):md K (qS ox [] E0 (dU (Dt (zG fun i j=>V.int (Builtin.bitAnd i j)) ta (MS (rU fun i=>V.int (Builtin.bitNot i)) tb)) gB)) σ H R:=by
 refine h1 _ fun H1 s1=>h2 _ _ s1 fun H2 s2=> ?_;show nF [.int (Builtin.bitAnd (a:Int) (Builtin.bitNot (c:Int)))] H2 _;rw[B4];refine⟨_,n,rfl,Hz lt,le,fun pl hpl=> ?_⟩;have z:=ah hpl (.lst ((cQ (anot a c)).map fun(i:Nat)=>V.int (i:Int)));exact⟨⟨_,SqL.of aa⟩,k _ pl (fun x o h=>z x o (s2 x o (s1 x o h))) aa fun T tg=>((tg.same s1).same s2).free hpl⟩
def wx(sc:uR K D)(sa:lP D B b l T H sh S)(hf:Fi.has x t y∈S.facts)(h0:jn tb σ (.ref b))(h1:jn ta σ (.int (x:Int)))(h2:jn tt σ (.str t))(h3:jn tc σ (.int (y:Int)))(k:∀H',Same H H'->Q (.int (S.facts.idxOf (.has x t y):Nat)) H'):wR (yX K tb "places") (F2 (dU ta (dU tt (dU tc gB)))) σ H Q:=by
 obtain⟨kvs,e,r⟩:=ku sa (.has x t y);refine h0 _ _ ⟨D,_,_,_,sa.ob,sc.c,sc.m3,DI B l,h1 _ _ (h2 _ _ (h3 _ _ ⟨by show 3<=sizeLine;decide,fun u hu=> ?_⟩))⟩;have z:=ah hu (.tup [.int (x:Int),.str t,.int (y:Int)]);exact⟨_,.inr ⟨kvs,(Fi.has x t y).key,u,.inl (z _ _ e),rfl,aa,by rw[r,aH hf]⟩,k _ z⟩
def IF(sc:uR K D)(sa:lP D B b l T H sh S)(hf:Fi.is x y∈S.facts)(h0:jn tb σ (.ref b))(h1:jn ta σ (.int (x:Int)))(h3:∀Q:VK,Q (.int (y:Int)) H->tc σ H Q)(k:∀H',Same H H'->Q (.int (S.facts.idxOf (.is x y):Nat)) H'):wR (yX K tb "places") (F2 (dU ta (dU tc gB))) σ H Q:=by
 obtain⟨kvs,e,r⟩:=ku sa (.is x y);refine h0 _ _ ⟨D,_,_,_,sa.ob,sc.c,sc.m3,DI B l,h1 _ _ (h3 _ ⟨by show 2<=sizeLine;decide,fun u hu=> ?_⟩)⟩;have z:=ah hu (.tup [.int (x:Int),.int (y:Int)]);exact⟨_,.inr ⟨kvs,(Fi.is x y).key,u,.inl (z _ _ e),rfl,aa,by rw[r,aH hf]⟩,k _ z⟩
end
inductive pM(C D:Addr)(vs:List V)(H:Hp)(Q:VK):Prop
 | mk:∀(b l:Addr) (B:yN) (A:LoA) (N:Nat) (T:Tg) (L:LoI) (ts:List Str) (S:StI) (at' y k:Nat),(vs=[.ref b,.int (at':Int),.int (y:Int),.int (k:Int)])->(Ew C D B A b l N T H L ts S)->(Fi.is y k∈S.facts)->(∀H' T',Fr fg T T' H H'->Ew C D B A b l N T' H' L ts (StI.fromEnd L S at' y k)->Q .non H')->pM C D vs H Q
def ur(C D:Addr):Sp:=fun vs H Q _=>pM C D vs H Q
section
def scFE:bq ["self","at","y","kind","tie","whole","x"] Bu (aK oF):=gU
def zT(F:Fun K "from_end" "Still.from_end" oF f fd)(lc:wD K C)(sc:uR K D)(Gti:Ml P w K mg base D 2 "tell_is" nJ (h_ C D))(Gbo:Cl P w K mg base 1 "bits_of" ["mask"] ox)(mls:mg "list"=none):b_ P w K mg base fj 3 f fd Bu (ur C D):=by
 refine F.o scFE fun cdv A0 outer s0 H vs Q E hr h=> ?_;obtain⟨b,l,B,A,N,T,L,ts,S,at',y,k,rfl,ew,hf,q⟩:=h;have hu:=gA hr;refine⟨_,jM (lZ (cj (rR hu (du (du aB)) bU (bR cu))) (eY rfl (br (fq 4 scFE.nd) (br (fq 5 scFE.nd) dX))) (bb (lZ (cj (eB Gbo hr (eF (bx mI (rR hu (du aB) (cq (fb bF bX)) aA) (uA qN (rR hu (du aB) cX aA)))))) (fq 6 scFE.nd) (bb (bg (iw aB sc.c Gti hr (bZ eK (jk cX aJ (bR (fb (Df hu (du aB) (cq (gD eK bX bF))) bp)) dN))))))))
  (a_ (bu (dC xR bU (du (du aB))) (bb (lg)) aX)
  (bb (lZ (cj (fu (fL rfl) rfl mls bO (eF (du aB)))) (fq 4 scFE.nd) (bb (lZ (cj (eB Gbo hr (eF (bx mI (rR hu (du aB) (cq (fb bF bX)) aA) (uA qN (Df hu (du aB) bU)))))) (fq 6 scFE.nd) (bb (bg (iw aB sc.c Gti hr (bZ eK (jk bU aJ (bR (fb (Df hu (du aB) (cq (gD eK bX bF))) bp)) dN)))))))))),?_⟩
 refine⟨fun σ H'=>∃(o4 o5 o6:Option V) (T':Tg),σ=[some (.ref b),some (.int (at':Int)),some (.int (y:Int)),some (.int (k:Int)),o4,o5,o6]/\Fr fg T T' H H'/\Ew C D B A b l N T' H' L ts ((L.somes k).foldl (fun S e=>StI.byEnd L at' y "tie" S e.1 e.2) S),?_,?_⟩
 · refine⟨D,_,_,_,ew.ev.sa.ob,sc.c,sc.m0,qu B l,C,_,_,_,ew.ev.la.ob,lc.c,lc.n10,LO A,.inl ⟨_,.inl (id ew.ev.la.f10).2.choose_spec.1⟩,ay _,fun g0 hg0=> ?_⟩;obtain⟨kvs,qq,vs,ep,eg,eq,rv,stay⟩:=jf esm_mo ew.ev.la.f10 ew.ev.la.tg hg0 (.inl (k:Int));rw[v7] at rv;have z1:=ah hg0 (.lst []);have ew1:=ew.same z1;have f1:Fr fg T T H (upd H g0 (.lst [])):=Fr.of z1;generalize upd H g0 (.lst [])=H1 at ep eq rv stay ew1 f1⊢;refine⟨_,DGet.k (k:= .inl (k:Int)) ep,?_⟩;rw[eg];have lv:=aS rv;refine⟨⟨_,SqL.of eq⟩,cf (xs:=vs) (fun i σ H2=>∃(o4 o5 o6:Option V) (T2:Tg),σ=[some (.ref b),some (.int (at':Int)),some (.int (y:Int)),some (.int (k:Int)),o4,o5,o6]/\Fr fg T T2 H1 H2/\Ew C D B A b l N T2 H2 L ts (((L.somes k).take i).foldl (fun S e=>StI.byEnd L at' y "tie" S e.1 e.2) S)) ⟨none,none,none,T,rfl,Fr.refl,ew1⟩ ?_ ?_ ?_⟩
   · rintro i σ H2 _ ⟨o4,o5,o6,T2,rfl,f2,_⟩;exact SqL.of (stay f2 (by decide))
   · rintro i v σ H2 hv ⟨o4,o5,o6,T2,rfl,f2,ew2⟩;obtain⟨e,he,t0,rfl,ht⟩:=cG rv hv;have hin:=ar he;rw[dG _ _ he];generalize ((L.somes k).take i).foldl (fun S e=>StI.byEnd L at' y "tie" S e.1 e.2) S=S2 at ew2⊢;refine⟨_,SqT.of (f2.tups _ _ ht),rfl,?_⟩;have hk:=ew.wd.so k e hin;refine g2 ?_;refine(lJ (a:=cM (cB S2.facts y e.1)) (c:=cM (iR S2.facts e.2)) (n:=L.parts.length) ?_ ?_ (nQ fun i hi=>(ew2.wf.rg _ (mem_startsOf.mp hi)).1) (aq (aq ew.ev.la.le ew.ev.hN) (by decide)) fun H4 pl z4 epl tpl=> ?_:md _ _ _ _ _)
     · exact fun Q k=>mP sc sc.m9 (KC B l) ew2.ev.sa.ob ew2.ev.sa.s8 (gv rfl) (gv rfl) (gv rfl) k
     · exact fun H3 Q z3 k=>J5 sc sc.m6 (sk6 B l) (ew2.same z3).ev.sa.ob (ew2.same z3).ev.sa.s5 (gv rfl) (gv rfl) (k _ fun _ _ h=>h)
     have ew4:=ew2.same z4;replace tpl:=tpl _ ew2.ev.sa.tg;have f4:=f2.trans (Fr.of (S:=fg) (T:=T2) z4);refine cf (xs:=(cQ (sG S2 y e.1 e.2)).map fun(i:Nat)=>V.int (i:Int)) (fun i σ H5=>∃(o6:Option V) (T5:Tg),σ=[some (.ref b),some (.int (at':Int)),some (.int (y:Int)),some (.int (k:Int)),some (.str e.1),some (.int (e.2:Int)),o6]/\Fr fg T2 T5 H4 H5/\Ew C D B A b l N T5 H5 L ts (((cQ (sG S2 y e.1 e.2)).take i).foldl (StI.byTie L at' y e.1 e.2 "tie") S2)) ⟨o6,T2,rfl,Fr.refl,ew4⟩ ?_ ?_ ?_
     · rintro i σ H5 _ ⟨o6,T5,rfl,f5,_⟩;exact SqL.of (Fr.free f5 epl tpl).2
     · rintro i v σ H5 hv ⟨o6,T5,rfl,f5,ew5⟩;rw[aQ,bP] at hv;obtain⟨x,hx,rfl⟩:=hv;have hm:=sF (ar hx);have hm5:=lI L at' y e.1 e.2 "tie" ((cQ (sG S2 y e.1 e.2)).take i) hm;rw[dG _ _ hx];generalize ((cQ (sG S2 y e.1 e.2)).take i).foldl (StI.byTie L at' y e.1 e.2 "tie") S2=S5 at ew5 hm5⊢;have hxx:=(ew2.wf.rg _ hm).1;refine⟨_,_,ew5.ev.sa.ob,dF B l,cV rfl (cV rfl ?_)⟩;refine wx sc ew5.ev.sa hm5 (gv rfl) (gv rfl) (gv rfl) (gv rfl) fun H6 z6=>⟨by show 2<=sizeLine;decide,fun pf hpf=> ?_⟩;have z7:=ah hpf (.lst [.int (S5.facts.idxOf (Fi.has x e.1 y):Nat),.int (at':Int)]);exact hJ (nn:=none) (fr:=[((S5.facts.idxOf (Fi.has x e.1 y):Nat):Int),(at':Int)]) ((ew5.same z6).same z7) hxx hk aa ((ew5.same z6).ev.sa.tg.free hpf) fun H8 T8 f8 ew8=>⟨_,T8,rfl,((f5.trans (Fr.of z6)).trans (Fr.of z7)).trans f8,ew8⟩
     · rintro σ H5 ⟨o6,T5,rfl,f5,ew5⟩;rw[ai,be] at ew5;exact⟨_,_,_,T5,rfl,f4.trans f5,ew5⟩
   · rintro σ H2 ⟨o4,o5,o6,T2,rfl,f2,ew2⟩;rw[lv,be] at ew2;exact⟨o4,o5,o6,T2,rfl,f1.trans f2,ew2⟩
 rintro σ H' ⟨o4,o5,o6,T',rfl,fr,ew0⟩;have hf0:Fi.is y k∈((L.somes k).foldl (fun S e=>StI.byEnd L at' y "tie" S e.1 e.2) S).facts:=mR L at' y "tie" (fun e=>e.1) (fun e=>e.2) (L.somes k) hf;unfold StI.fromEnd at q;dsimp only at q;generalize (L.somes k).foldl (fun S e=>StI.byEnd L at' y "tie" S e.1 e.2) S=S0 at ew0 hf0 q;refine⟨D,_,_,_,ew0.ev.sa.ob,sc.c,sc.m0,qu B l,C,_,_,_,ew0.ev.la.ob,lc.c,lc.n14,EH ew0.ev.ex,?_⟩;by_cases hk1:k=1
 · subst hk1;rw[aH rfl] at q;have nd9:=ew0.ev.sa.s9.2.1;refine⟨D,_,_,_,ew0.ev.sa.ob,sc.c,sc.m10,La B l,B.q9,_,eW S0.facts,rfl,nd9,oi _,fun p9 h9=> ?_⟩;have z1:=ah h9 (.lst ((eW S0.facts).map V.str));have ew1:=ew0.same z1;have f1:Fr fg T' T' H' (upd H' p9 (.lst ((eW S0.facts).map V.str))):=Fr.of z1;have e9:upd H' p9 (.lst ((eW S0.facts).map V.str)) p9=some (.lst ((eW S0.facts).map V.str)):=aa;have t9:=ew0.ev.sa.tg.free h9;refine⟨⟨_,SqL.of e9⟩,?_⟩;generalize upd H' p9 (.lst ((eW S0.facts).map V.str))=H1 at ew1 f1 e9⊢;have hn:=ew0.ev.p2;refine cf (xs:=(eW S0.facts).map V.str) (fun i σ H2=>∃(o4 o5 o6:Option V) (T2:Tg),σ=[some (.ref b),some (.int (at':Int)),some (.int (y:Int)),some (.int ((1:Nat):Int)),o4,o5,o6]/\Fr fg T' T2 H1 H2/\Ew C D B A b l N T2 H2 L ts (((eW S0.facts).take i).foldl (fun S t=>StI.byEnd L at' y "none" S t 1) S0)) ⟨o4,o5,o6,T',rfl,Fr.refl,ew1⟩ ?_ ?_ ?_
   · rintro i σ H2 _ ⟨o4,o5,o6,T2,rfl,f2,_⟩;exact SqL.of (Fr.free f2 e9 t9).2
   · rintro i v σ H2 hv ⟨o4,o5,o6,T2,rfl,f2,ew2⟩;rw[aQ,bP] at hv;obtain⟨t,he,rfl⟩:=hv;have hf2:Fi.is y 1∈(((eW S0.facts).take i).foldl (fun S t=>StI.byEnd L at' y "none" S t 1) S0).facts:=mR L at' y "none" (fun e=>e) (fun _=>1) ((eW S0.facts).take i) hf0;rw[dG _ _ he];generalize ((eW S0.facts).take i).foldl (fun S t=>StI.byEnd L at' y "none" S t 1) S0=S2 at ew2 hf2⊢;refine gn ?_;refine(lJ (a:=cM (cB S2.facts y t)) (c:=cM (iR S2.facts 1)) (n:=L.parts.length) ?_ ?_ (nQ fun i hi=>(ew2.wf.rg _ (mem_startsOf.mp hi)).1) (aq (aq ew.ev.la.le ew.ev.hN) (by decide)) fun H4 pl z4 epl tpl=> ?_:md _ _ _ _ _)
     · exact fun Q k=>mP sc sc.m9 (KC B l) ew2.ev.sa.ob ew2.ev.sa.s8 (gv rfl) (gv rfl) (gv rfl) k
     · exact fun H3 Q z3 k=>IE (x:=1) sc sc.m6 (sk6 B l) (ew2.same z3).ev.sa.ob (ew2.same z3).ev.sa.s5 (gv rfl) (gv rfl) (fun z=>by have:=mem_xsOf.mpr hf2;rw[z] at this;exact ak this) (k _ fun _ _ h=>h)
     have ew4:=ew2.same z4;replace tpl:=tpl _ ew2.ev.sa.tg;have f4:=f2.trans (Fr.of (S:=fg) (T:=T2) z4);refine cf (xs:=(cQ (sG S2 y t 1)).map fun(i:Nat)=>V.int (i:Int)) (fun i σ H5=>∃(o6:Option V) (T5:Tg),σ=[some (.ref b),some (.int (at':Int)),some (.int (y:Int)),some (.int ((1:Nat):Int)),some (.str t),o5,o6]/\Fr fg T2 T5 H4 H5/\Ew C D B A b l N T5 H5 L ts (((cQ (sG S2 y t 1)).take i).foldl (StI.byTie L at' y t 1 "none") S2)) ⟨o6,T2,rfl,Fr.refl,ew4⟩ ?_ ?_ ?_
     · rintro i σ H5 _ ⟨o6,T5,rfl,f5,_⟩;exact SqL.of (Fr.free f5 epl tpl).2
     · rintro i v σ H5 hv ⟨o6,T5,rfl,f5,ew5⟩;rw[aQ,bP] at hv;obtain⟨x,hx,rfl⟩:=hv;have hm:=sF (ar hx);have hm5:=lI L at' y t 1 "none" ((cQ (sG S2 y t 1)).take i) hm;rw[dG _ _ hx];generalize ((cQ (sG S2 y t 1)).take i).foldl (StI.byTie L at' y t 1 "none") S2=S5 at ew5 hm5⊢;have hxx:=(ew2.wf.rg _ hm).1;refine⟨_,_,ew5.ev.sa.ob,dF B l,cV rfl (cV rfl ?_)⟩;refine wx sc ew5.ev.sa hm5 (gv rfl) (gv rfl) (gv rfl) (gv rfl) fun H6 z6=>⟨by show 2<=sizeLine;decide,fun pf hpf=> ?_⟩;have z7:=ah hpf (.lst [.int (S5.facts.idxOf (Fi.has x t y):Nat),.int (at':Int)]);exact hJ (nn:=none) (fr:=[((S5.facts.idxOf (Fi.has x t y):Nat):Int),(at':Int)]) ((ew5.same z6).same z7) hxx hn aa ((ew5.same z6).ev.sa.tg.free hpf) fun H8 T8 f8 ew8=>⟨_,T8,rfl,((f5.trans (Fr.of z6)).trans (Fr.of z7)).trans f8,ew8⟩
     · rintro σ H5 ⟨o6,T5,rfl,f5,ew5⟩;rw[ai,be] at ew5;exact⟨_,_,_,T5,rfl,f4.trans f5,ew5⟩
   · rintro σ H2 ⟨o4,o5,o6,T2,rfl,f2,ew2⟩;rw[ai,be] at ew2;exact q H2 T2 ((fr.trans f1).trans f2) ew2
 · rw[aE hk1] at q;exact oN rfl (aj fun z=>hk1 (by injection z with z;lia)) (q H' T' fr ew0)
end
def vW(L:LoI)(S:StI)(x:Nat){f:Fi}(h:f∈S.facts):f∈(StI.letStand L S x).facts:=by
 unfold StI.letStand
 split
 · exact h
 · refine(dE L _ x 0 "all" [] none).1 f ?_
   split
   · exact h
   · exact(dE L _ x x "self" [] none).1 f h
def je(L:LoI)(S:StI)(x:Nat)(t:Str)(y:Nat)(r:Str)(fr:List Int)(nn:Option Int){f:Fi}(h:f∈S.facts):f∈(StI.tellHas L S x t y r fr nn).facts:=by
 unfold StI.tellHas
 split
 · exact h
 · exact vW L _ y (aP _ h)
theorem ip{α:Type}{g:StI->α->StI}(hg:∀S a f,f∈S.facts->f∈(g S a).facts){f:Fi}:∀(l:List α) {S:StI},f∈S.facts->f∈(l.foldl g S).facts
 | [],_,h=>h
 | a::l,S,h=>ip hg l (hg S a f h)
noncomputable def StI.byWi(L:LoI)(at' x y:Nat)(S:StI)(e:Str × Int):StI:=StI.tellHas L S x e.1 y "within" [(at':Int)] (some e.2)
noncomputable def StI.byWh(L:LoI)(at' x:Nat)(t:Str)(y:Nat)(S:StI)(k:Nat):StI:=StI.tellIs L S x ((L.wholes t k).getD 0) "tie" [(at':Int),((S.facts.idxOf (Fi.is y k):Nat):Int)] none
noncomputable def qP(L:LoI)(S:StI)(x:Nat)(t:Str)(y:Nat):Nat:=cM (iU S.facts y)&&&anot ((L.fillers t).getD 0) (cM (fA L.shapes S.facts x t))
noncomputable def StI.fromTie(L:LoI)(S:StI)(at' x:Nat)(t:Str)(y:Nat):StI:=
 let S1:=(L.withins t).foldl (StI.byWi L at' x y) S
 let S2:=(cQ (qP L S1 x t y)).foldl (StI.byWh L at' x t y) S1
 if Fi.is y 1∈S2.facts then StI.tellIs L S2 x 1 "none" [(at':Int),((S2.facts.idxOf (Fi.is y 1):Nat):Int)] none else S2
def Fs(L:LoI)(at' x y:Nat)(S:StI)(e:Str × Int)(f:Fi)(h:f∈S.facts):f∈(StI.byWi L at' x y S e).facts:=je L S x e.1 y "within" _ _ h
def Ft(L:LoI)(at' x:Nat)(t:Str)(y:Nat)(S:StI)(k:Nat)(f:Fi)(h:f∈S.facts):f∈(StI.byWh L at' x t y S k).facts:=(dE L S x _ "tie" _ none).1 f h
def Ag(f:Str->List α)(t:Str):kS f (.inr t)=f t:=rfl
def wQ(h:k∈cQ (qP L S x t y)):Fi.is y k∈S.facts/\∃m,L.fillers t=some m/\m.testBit k=true:=by
 rw[lD,qP,gu,oa,kH,aO,aO,bD] at h;refine⟨mem_ksOf.mp h.1,?_⟩;cases e:L.fillers t with
 | none=>rw[e] at h;simp at h
 | some m=>rw[e] at h;exact⟨m,rfl,h.2.1⟩
section
def lV(h:σ[i]? =some (some v))(q:ta σ H fun xs H1=>(v::xs).length<=sizeLine/\∀p,H1 p=none->tr σ (upd H1 p (.lst (v::xs))) fun ys H2=>Q (w:: .ref p::ys) H2):dU (tC w) (dU (IQ (dU (ot i) ta)) tr) σ H Q:=onV.of h q
def L8{Q:VK}(k:Q (.int (anot a c:Nat)) H):rU (fun i=>V.int (Builtin.bitNot i)) (.int (c:Int)) H fun y H2=>zG (fun i j=>V.int (Builtin.bitAnd i j)) (.int (a:Int)) y H2 Q:=by
 show Q (.int (Builtin.bitAnd (a:Int) (Builtin.bitNot (c:Int)))) H;rw[B4];exact k
def Ox(h:ta σ H fun x H1=>r x H1 Q):MS r ta σ H Q:=h
def Fv{a c:Nat}(h1:∀Q:VK,(∀H1,Same H H1->Q (.int (a:Int)) H1)->ta σ H Q)(h2:∀(H1:Hp) (Q:VK),Same H H1->(∀H2,Same H1 H2->Q (.int (c:Int)) H2)->tb σ H1 Q)(lt:a<2^n)(le:n<=100000)(k:∀H2 pl,Same H H2->H2 pl=some (.lst ((cQ (a&&&c)).map fun(i:Nat)=>V.int (i:Int)))->(∀T,TgOk T H->T pl=none)->R (Ky K pl) H2):md K (qS ox [] E0 (dU (Dt (zG fun i j=>V.int (Builtin.bitAnd i j)) ta tb) gB)) σ H R:=by
 refine h1 _ fun H1 s1=>h2 _ _ s1 fun H2 s2=> ?_;show nF [.int (Builtin.bitAnd (a:Int) (c:Int))] H2 _;rw[Fz];refine⟨_,n,rfl,bz (FA a c) lt,le,fun pl hpl=> ?_⟩;have z:=ah hpl (.lst ((cQ (a&&&c)).map fun(i:Nat)=>V.int (i:Int)));exact⟨⟨_,SqL.of aa⟩,k _ pl (fun x o h=>z x o (s2 x o (s1 x o h))) aa fun T tg=>((tg.same s1).same s2).free hpl⟩
end
inductive pJ(C D:Addr)(vs:List V)(H:Hp)(Q:VK):Prop
 | mk:∀(b l:Addr) (B:yN) (A:LoA) (N:Nat) (T:Tg) (L:LoI) (ts:List Str) (S:StI) (at' x:Nat) (t:Str) (y:Nat),(vs=[.ref b,.int (at':Int),.int (x:Int),.str t,.int (y:Int)])->(Ew C D B A b l N T H L ts S)->(Fi.has x t y∈S.facts)->(∀H' T',Fr fg T T' H H'->Ew C D B A b l N T' H' L ts (StI.fromTie L S at' x t y)->Q .non H')->pJ C D vs H Q
def uq(C D:Addr):Sp:=fun vs H Q _=>pJ C D vs H Q
section
def scFTi:bq ["self","at","x","tie","y","wider","number","wanted","kind"] pO (aK oC):=gU
def zS(F:Fun K "from_tie" "Still.from_tie" oC f fd)(lc:wD K C)(sc:uR K D)(Gti:Ml P w K mg base D 2 "tell_is" nJ (h_ C D))(Gth:Ml P w K mg base D 6 "tell_has" rM (jx C D))(Gbo:Cl P w K mg base 1 "bits_of" ["mask"] ox):b_ P w K mg base fj 7 f fd pO (uq C D):=by
 refine F.o scFTi fun cdv A0 outer s0 H vs Q E hr h=> ?_;obtain⟨b,l,B,A,N,T,L,ts,S,at',x,t,y,rfl,ew,hf,q⟩:=h;have hu:=gA hr;have rg:=ew.wf.rg _ hf;have hnN:L.parts.length<=100000:=aq (aq ew.ev.la.le ew.ev.hN) (by decide);refine⟨_,jM (lZ (cj (rR hu (du (du aB)) bU (bR cu))) (eY rfl (br (fq 5 scFTi.nd) (br (fq 6 scFTi.nd) dX))) (bb (bg (iw aB sc.c Gth hr (bZ bF (bZ cX (jk bX aJ (bR (eF bp)) eK)))))))
  (a_ (fe 7 scFTi.nd (bx mI (rR hu (du (du aB)) bU aA) (uA qN (rR hu (du aB) (cq (fb bF bU)) aA))))
  (jM (lZ (cj (eB Gbo hr (eF (bx mI (Df hu (du aB) bX) iZ)))) (fq 8 scFTi.nd) (bb (bg (iw aB sc.c Gti hr (bZ bF (jk (Df hu (du (du aB)) (cq (fb bU gh))) aJ (bR (fb bp (Df hu (du aB) (cq (fb bX gh))))) dN))))))
  (bb (bu (dC (oR hu) (cq (fb bX (du (du aB)))) (du aB)) (bb (bg (iw aB sc.c Gti hr (bZ bF (jk (du (du aB)) aJ (bR (fb bp (Df hu (du aB) (cq (fb bX (du (du aB))))))) dN))))) aX)))),?_⟩
 refine⟨fun σ H'=>∃(o5 o6 o7 o8:Option V) (T':Tg),σ=[some (.ref b),some (.int (at':Int)),some (.int (x:Int)),some (.str t),some (.int (y:Int)),o5,o6,o7,o8]/\Fr fg T T' H H'/\Ew C D B A b l N T' H' L ts ((L.withins t).foldl (StI.byWi L at' x y) S),?_,?_⟩
 · refine⟨D,_,_,_,ew.ev.sa.ob,sc.c,sc.m0,qu B l,C,_,_,_,ew.ev.la.ob,lc.c,lc.n6,N9 A,.inl ⟨_,.inl (id ew.ev.la.f6).2.choose_spec.1⟩,ay _,fun g0 hg0=> ?_⟩;obtain⟨kvs,qq,vs,ep,eg,eq,rv,stay⟩:=jf es2_mo ew.ev.la.f6 ew.ev.la.tg hg0 (.inr t);rw[Ag] at rv;have z1:=ah hg0 (.lst []);have ew1:=ew.same z1;have f1:Fr fg T T H (upd H g0 (.lst [])):=Fr.of z1;generalize upd H g0 (.lst [])=H1 at ep eq rv stay ew1 f1⊢;refine⟨_,DGet.k (k:= .inr t) ep,?_⟩;rw[eg];have lv:=aS rv;refine⟨⟨_,SqL.of eq⟩,cf (xs:=vs) (fun i σ H2=>∃(o5 o6 o7 o8:Option V) (T2:Tg),σ=[some (.ref b),some (.int (at':Int)),some (.int (x:Int)),some (.str t),some (.int (y:Int)),o5,o6,o7,o8]/\Fr fg T T2 H1 H2/\Ew C D B A b l N T2 H2 L ts (((L.withins t).take i).foldl (StI.byWi L at' x y) S)) ⟨none,none,none,none,T,rfl,Fr.refl,ew1⟩ ?_ ?_ ?_⟩
   · rintro i σ H2 _ ⟨o5,o6,o7,o8,T2,rfl,f2,_⟩;exact SqL.of (stay f2 (by decide))
   · rintro i v σ H2 hv ⟨o5,o6,o7,o8,T2,rfl,f2,ew2⟩;obtain⟨e,he,t0,rfl,ht⟩:=cG rv hv;have hin:=ar he;rw[dG _ _ he];generalize ((L.withins t).take i).foldl (StI.byWi L at' x y) S=S2 at ew2⊢;refine⟨_,SqT.of (f2.tups _ _ ht),rfl,?_⟩;refine⟨_,_,ew2.ev.sa.ob,ie B l,by show 1<=sizeLine;decide,fun pf hpf=> ?_⟩;have z3:=ah hpf (.lst [.int (at':Int)]);exact kf (nn:=some e.2) (fr:=[(at':Int)]) (ew2.same z3) rg.1 (ew.wd.wi t e hin) rg.2.2 aa (ew2.ev.sa.tg.free hpf) fun H4 T4 f4 ew4=>⟨_,_,_,_,T4,rfl,(f2.trans (Fr.of z3)).trans f4,ew4⟩
   · rintro σ H2 ⟨o5,o6,o7,o8,T2,rfl,f2,ew2⟩;rw[lv,be] at ew2;exact⟨o5,o6,o7,o8,T2,rfl,f1.trans f2,ew2⟩
 rintro σ H' ⟨o5,o6,o7,o8,T',rfl,fr,ew0⟩;have hf0:Fi.has x t y∈((L.withins t).foldl (StI.byWi L at' x y) S).facts:=ip (Fs L at' x y) (L.withins t) hf;unfold StI.fromTie at q;dsimp only at q;generalize (L.withins t).foldl (StI.byWi L at' x y) S=S0 at ew0 hf0 q;obtain⟨_,kvf,ef,rf,_⟩:=id ew0.ev.la.f11;have vf:(c_ kvf (.inr t)).getD (.int 0)= .int (((L.fillers t).getD 0:Nat):Int):=by
  rw[rf];show((L.fillers t).map fun(m:Nat)=>V.int (m:Int)).getD _=_;cases L.fillers t<;>rfl
 refine⟨D,_,_,_,ew0.ev.sa.ob,sc.c,sc.m0,qu B l,C,_,_,_,ew0.ev.la.ob,lc.c,lc.n11,JK A,.inl ⟨_,.inl ef⟩,_,DGet.k (k:= .inr t) ef,?_⟩;rw[vf];refine Ox (mP (x:=x) (t:=t) sc sc.m7 (M5 B l) ew0.ev.sa.ob ew0.ev.sa.s6 (gv rfl) (gv rfl) (gv rfl) fun H1 z1=> ?_);refine L8 (gn ?_);have ew1:=ew0.same z1;have f1:=fr.trans (Fr.of (S:=fg) (T:=T') z1);have wk:iU S0.facts y≠[]:=fun z=>by
  have:=mem_ksOf.mpr (ew0.wf.st0 y (ew0.wf.hs _ _ _ hf0));rw[z] at this;exact ak this
 refine⟨fun σ H'=>∃(o8:Option V) (T2:Tg),σ=[some (.ref b),some (.int (at':Int)),some (.int (x:Int)),some (.str t),some (.int (y:Int)),o5,o6,some (.int (anot ((L.fillers t).getD 0) (cM (fA L.shapes S0.facts x t)):Nat)),o8]/\Fr fg T T2 H H'/\Ew C D B A b l N T2 H' L ts ((cQ (qP L S0 x t y)).foldl (StI.byWh L at' x t y) S0),?_,?_⟩
 · refine(Fv (a:=cM (iU S0.facts y)) (c:=anot ((L.fillers t).getD 0) (cM (fA L.shapes S0.facts x t))) (n:=L.parts.length) ?_ ?_ (nQ fun i hi=>(ew0.wf.rg _ (mem_ksOf.mp hi)).2) hnN fun H4 pl z4 epl tpl=> ?_:md _ _ _ _ _)
   · exact fun Q k=>IE sc sc.m5 (M6 B l) ew1.ev.sa.ob ew1.ev.sa.s4 (gv rfl) (gv rfl) wk (k _ fun _ _ h=>h)
   · exact fun H3 Q z3 k=>(k _ fun _ _ h=>h)
   have ew4:=ew1.same z4;replace tpl:=tpl _ ew1.ev.sa.tg;have f4:=f1.trans (Fr.of (S:=fg) (T:=T') z4);refine cf (xs:=(cQ (qP L S0 x t y)).map fun(i:Nat)=>V.int (i:Int)) (fun i σ H5=>∃(o8:Option V) (T5:Tg),σ=[some (.ref b),some (.int (at':Int)),some (.int (x:Int)),some (.str t),some (.int (y:Int)),o5,o6,some (.int (anot ((L.fillers t).getD 0) (cM (fA L.shapes S0.facts x t)):Nat)),o8]/\Fr fg T' T5 H4 H5/\Ew C D B A b l N T5 H5 L ts (((cQ (qP L S0 x t y)).take i).foldl (StI.byWh L at' x t y) S0)) ⟨o8,T',rfl,Fr.refl,ew4⟩ ?_ ?_ ?_
   · rintro i σ H5 _ ⟨o8,T5,rfl,f5,_⟩;exact SqL.of (Fr.free f5 epl tpl).2
   · rintro i v σ H5 hv ⟨o8,T5,rfl,f5,ew5⟩;rw[aQ,bP] at hv;obtain⟨k,hk,rfl⟩:=hv;obtain⟨hm,m,hm1,hm2⟩:=wQ (ar hk);obtain⟨wh,hw1,hw2,hw3⟩:=ew.wd.fi t m k hm1 hm2;have hm5:=ip (Ft L at' x t y) ((cQ (qP L S0 x t y)).take i) hm;rw[dG _ _ hk];generalize ((cQ (qP L S0 x t y)).take i).foldl (StI.byWh L at' x t y) S0=S5 at ew5 hm5⊢;obtain⟨_,kw,e12,r12,_⟩:=id ew5.ev.la.f12;have v12:c_ kw [.inr t,.inl (k:Int)]=some (.int (wh:Int)):=by
      rw[r12];show(if 0<=(k:Int) then(L.wholes t (k:Int).toNat).map fun(m:Nat)=>V.int (m:Int) else none)=_;rw[aH (by lia),bW,hw1];rfl
     refine⟨_,_,ew5.ev.sa.ob,dF B l,D,_,_,_,ew5.ev.sa.ob,sc.c,sc.m0,qu B l,C,_,_,_,ew5.ev.la.ob,lc.c,lc.n12,LN A,by show 2<=sizeLine;decide,fun u6 hu6=> ?_⟩;have z6:=ah hu6 (.tup [.str t,.int (k:Int)]);have ew6:=ew5.same z6;have h6:upd H5 u6 (.tup [.str t,.int (k:Int)]) u6=some (.tup [.str t,.int (k:Int)]):=aa;have e6:=z6 _ _ e12;have f6:=f5.trans (Fr.of (S:=fg) (T:=T5) z6);generalize upd H5 u6 (.tup [.str t,.int (k:Int)])=H6 at ew6 h6 e6 f6⊢;refine⟨_,.inr ⟨kw,[.inr t,.inl (k:Int)],u6,.inl e6,rfl,h6,v12.symm⟩,?_⟩;refine lV rfl ?_;refine IF sc ew6.ev.sa hm5 (gv rfl) (gv rfl) (gv rfl _) fun H7 z7=>⟨by show 2<=sizeLine;decide,fun pf hpf=> ?_⟩;have z8:=ah hpf (.lst [.int (at':Int),.int (S5.facts.idxOf (Fi.is y k):Nat)]);refine hJ (k:=wh) (nn:=none) (fr:=[(at':Int),((S5.facts.idxOf (Fi.is y k):Nat):Int)]) ((ew6.same z7).same z8) rg.1 hw2 aa ((ew6.same z7).ev.sa.tg.free hpf) fun H8 T8 f8 ew8=>⟨_,T8,rfl,((f6.trans (Fr.of z7)).trans (Fr.of z8)).trans f8,?_⟩;unfold StI.byWh;rw[hw1];exact ew8
   · rintro σ H5 ⟨o8,T5,rfl,f5,ew5⟩;rw[ai,be] at ew5;exact⟨_,T5,rfl,f4.trans f5,ew5⟩
 rintro σ H2 ⟨o8,T2,rfl,f2,ew2⟩;generalize (cQ (qP L S0 x t y)).foldl (StI.byWh L at' x t y) S0=S2 at ew2 q;refine⟨D,_,_,_,ew2.ev.sa.ob,sc.c,sc.m0,qu B l,C,_,_,_,ew2.ev.la.ob,lc.c,lc.n14,EH ew2.ev.ex,by show 2<=sizeLine;decide,fun u hu'=> ?_⟩;have z3:=ah hu' (.tup [.int (y:Int),.int ((1:Nat):Int)]);have ew3:=ew2.same z3;have h3:upd H2 u (.tup [.int (y:Int),.int ((1:Nat):Int)]) u=some (.tup [.int (y:Int),.int ((1:Nat):Int)]):=aa;have f3:=f2.trans (Fr.of (S:=fg) (T:=T2) z3);generalize upd H2 u (.tup [.int (y:Int),.int ((1:Nat):Int)])=H3 at ew3 h3 f3⊢;obtain⟨kp,e4,r4⟩:=ku ew3.ev.sa (.is y 1);refine⟨D,_,_,_,ew3.ev.sa.ob,sc.c,sc.m3,DI B l,B.q2,_,rfl,DGet.t (k:=(Fi.is y 1).key) e4 h3,?_⟩;rw[r4];by_cases hn:Fi.is y 1∈S2.facts
 · rw[aH hn];rw[aH hn] at q;refine⟨_,_,ew3.ev.sa.ob,dF B l,D,_,_,_,ew3.ev.sa.ob,sc.c,sc.m0,qu B l,C,_,_,_,ew3.ev.la.ob,lc.c,lc.n14,EH ew3.ev.ex,?_⟩;refine lV rfl ?_;refine IF (y:=1) sc ew3.ev.sa hn (gv rfl) (gv rfl) (fun _ h=>⟨D,_,_,_,ew3.ev.sa.ob,sc.c,sc.m0,qu B l,C,_,_,_,ew3.ev.la.ob,lc.c,lc.n14,EH ew3.ev.ex,h⟩) fun H7 z7=>⟨by show 2<=sizeLine;decide,fun pf hpf=> ?_⟩;have z8:=ah hpf (.lst [.int (at':Int),.int (S2.facts.idxOf (Fi.is y 1):Nat)]);exact hJ (k:=1) (nn:=none) (fr:=[(at':Int),((S2.facts.idxOf (Fi.is y 1):Nat):Int)]) ((ew3.same z7).same z8) rg.1 ew.ev.p2 aa ((ew3.same z7).ev.sa.tg.free hpf) fun H8 T8 f8 ew8=>q H8 T8 (((f3.trans (Fr.of z7)).trans (Fr.of z8)).trans f8) ew8
 · rw[aE hn];rw[aE hn] at q;exact(q H3 T2 f3 ew3)
end
noncomputable def z_(S:StI)(x y:Nat)(e:Str × Str × Int):Nat:=anot (cM (eP S.facts y e.1)) (cM (eP S.facts x e.2.1))
noncomputable def z0(S:StI)(x y:Nat)(e:Str × Str × Int):Nat:=anot (cM (cB S.facts x e.1)) (cM (cB S.facts y e.2.1))
noncomputable def StI.mk1a(L:LoI)(at' x y:Nat)(e:Str × Str × Int)(S:StI)(z:Nat):StI:=StI.tellHas L S x e.2.1 z "makes" [(at':Int),((S.facts.idxOf (Fi.has y e.1 z):Nat):Int)] (some e.2.2)
noncomputable def StI.mk2a(L:LoI)(at' x y:Nat)(e:Str × Str × Int)(S:StI)(z:Nat):StI:=StI.tellHas L S z e.2.1 y "makes" [((S.facts.idxOf (Fi.has z e.1 x):Nat):Int),(at':Int)] (some e.2.2)
noncomputable def StI.byMk1(L:LoI)(at' x y:Nat)(S:StI)(e:Str × Str × Int):StI:=(cQ (z_ S x y e)).foldl (StI.mk1a L at' x y e) S
noncomputable def StI.byMk2(L:LoI)(at' x y:Nat)(S:StI)(e:Str × Str × Int):StI:=(cQ (z0 S x y e)).foldl (StI.mk2a L at' x y e) S
noncomputable def StI.fromChains(L:LoI)(S:StI)(at' x:Nat)(t:Str)(y:Nat):StI:=(L.mk2 t).foldl (StI.byMk2 L at' x y) ((L.mk1 t).foldl (StI.byMk1 L at' x y) S)
def EC(L:LoI)(at' x y:Nat)(e:Str × Str × Int)(S:StI)(z:Nat)(f:Fi)(h:f∈S.facts):f∈(StI.mk1a L at' x y e S z).facts:=je L S _ _ _ _ _ _ h
def EA(L:LoI)(at' x y:Nat)(e:Str × Str × Int)(S:StI)(z:Nat)(f:Fi)(h:f∈S.facts):f∈(StI.mk2a L at' x y e S z).facts:=je L S _ _ _ _ _ _ h
def ya(h:z∈cQ (z_ S x y e)):Fi.has y e.1 z∈S.facts:=by
 rw[lD,z_,oa,kH,aO,bD] at h;exact mem_endsOf.mp h.1
def x_(h:z∈cQ (z0 S x y e)):Fi.has z e.1 x∈S.facts:=by
 rw[lD,z0,oa,kH,aO,bD] at h;exact mem_startsOf.mp h.1
inductive ki(C D:Addr)(vs:List V)(H:Hp)(Q:VK):Prop
 | mk:∀(b l:Addr) (B:yN) (A:LoA) (N:Nat) (T:Tg) (L:LoI) (ts:List Str) (S:StI) (at' x:Nat) (t:Str) (y:Nat),(vs=[.ref b,.int (at':Int),.int (x:Int),.str t,.int (y:Int)])->(Ew C D B A b l N T H L ts S)->(x<L.parts.length)->(y<L.parts.length)->(∀H' T',Fr fg T T' H H'->Ew C D B A b l N T' H' L ts (StI.fromChains L S at' x t y)->Q .non H')->ki C D vs H Q
def nE(C D:Addr):Sp:=fun vs H Q _=>ki C D vs H Q
section
def scFC:bq ["self","at","x","tie","y","onward","made","number","z","before","w"] pO (aK jJ):=gU
def tE(F:Fun K "from_chains" "Still.from_chains" jJ f fd)(lc:wD K C)(sc:uR K D)(Gth:Ml P w K mg base D 6 "tell_has" rM (jx C D))(Gbo:Cl P w K mg base 1 "bits_of" ["mask"] ox):b_ P w K mg base fj 7 f fd pO (nE C D):=by
 refine F.o scFC fun cdv A0 outer s0 H vs Q E hr h=> ?_;obtain⟨b,l,B,A,N,T,L,ts,S,at',x,t,y,rfl,ew,hx,hy,q⟩:=h;have hu:=gA hr;have hnN:L.parts.length<=100000:=aq (aq ew.ev.la.le ew.ev.hN) (by decide);refine⟨_,jM (lZ (cj (rR hu (du (du aB)) bU (bR cu))) (eY rfl (br (fq 5 scFC.nd) (br (fq 6 scFC.nd) (br (fq 7 scFC.nd) dX)))) (bb (lZ (cj (eB Gbo hr (eF (bx mI (rR hu (du aB) (cq (fb bX cX)) aA) (uA qN (rR hu (du aB) (cq (fb bF eK)) aA)))))) (fq 8 scFC.nd) (bb (bg (iw aB sc.c Gth hr (bZ bF (bZ eK (jk gh aJ (bR (fb bp (Df hu (du aB) (cq (gD bX cX gh))))) iZ)))))))))
  (bb (lZ (cj (rR hu (du (du aB)) bU (bR cu))) (eY rfl (br (fq 9 scFC.nd) (br (fq 6 scFC.nd) (br (fq 7 scFC.nd) dX)))) (bb (lZ (cj (eB Gbo hr (eF (bx mI (rR hu (du aB) (cq (fb bF oJ)) aA) (uA qN (rR hu (du aB) (cq (fb bX eK)) aA)))))) (fq 10 scFC.nd) (bb (bg (iw aB sc.c Gth hr (bZ jY (bZ eK (jk bX aJ (bR (fb (Df hu (du aB) (cq (gD jY oJ bF))) bp)) iZ)))))))))),?_⟩
 refine⟨fun σ H'=>∃(o5 o6 o7 o8 o9 o10:Option V) (T':Tg),σ=[some (.ref b),some (.int (at':Int)),some (.int (x:Int)),some (.str t),some (.int (y:Int)),o5,o6,o7,o8,o9,o10]/\Fr fg T T' H H'/\Ew C D B A b l N T' H' L ts ((L.mk1 t).foldl (StI.byMk1 L at' x y) S),?_,?_⟩
 · have _:=hx;refine⟨D,_,_,_,ew.ev.sa.ob,sc.c,sc.m0,qu B l,C,_,_,_,ew.ev.la.ob,lc.c,lc.n7,N8 A,.inl ⟨_,.inl (id ew.ev.la.f7).2.choose_spec.1⟩,ay _,fun g0 hg0=> ?_⟩;obtain⟨kvs,qq,vs,ep,eg,eq,rv,stay⟩:=jf es3_mo ew.ev.la.f7 ew.ev.la.tg hg0 (.inr t);rw[Ag] at rv;have z1:=ah hg0 (.lst []);have ew1:=ew.same z1;have f1:Fr fg T T H (upd H g0 (.lst [])):=Fr.of z1;generalize upd H g0 (.lst [])=H1 at ep eq rv stay ew1 f1⊢;refine⟨_,DGet.k (k:= .inr t) ep,?_⟩;rw[eg];have lv:=aS rv;refine⟨⟨_,SqL.of eq⟩,cf (xs:=vs) (fun i σ H2=>∃(o5 o6 o7 o8 o9 o10:Option V) (T2:Tg),σ=[some (.ref b),some (.int (at':Int)),some (.int (x:Int)),some (.str t),some (.int (y:Int)),o5,o6,o7,o8,o9,o10]/\Fr fg T T2 H1 H2/\Ew C D B A b l N T2 H2 L ts (((L.mk1 t).take i).foldl (StI.byMk1 L at' x y) S)) ⟨none,none,none,none,none,none,T,rfl,Fr.refl,ew1⟩ ?_ ?_ ?_⟩
   · rintro i σ H2 _ ⟨o5,o6,o7,o8,o9,o10,T2,rfl,f2,_⟩;exact SqL.of (stay f2 (by decide))
   · rintro i v σ H2 hv ⟨o5,o6,o7,o8,o9,o10,T2,rfl,f2,ew2⟩;obtain⟨e,he,t0,rfl,ht⟩:=cG rv hv;have hin:=ar he;rw[dG _ _ he];generalize ((L.mk1 t).take i).foldl (StI.byMk1 L at' x y) S=S2 at ew2⊢;refine⟨_,SqT.of (f2.tups _ _ ht),rfl,?_⟩;refine g3 ?_;refine(lJ (a:=cM (eP S2.facts y e.1)) (c:=cM (eP S2.facts x e.2.1)) (n:=L.parts.length) ?_ ?_ (nQ fun i hi=>(ew2.wf.rg _ (mem_endsOf.mp hi)).2.2) hnN fun H4 pl z4 epl tpl=> ?_:md _ _ _ _ _)
     · exact fun Q k=>mP sc sc.m8 (My B l) ew2.ev.sa.ob ew2.ev.sa.s7 (gv rfl) (gv rfl) (gv rfl) k
     · exact fun H3 Q z3 k=>mP sc sc.m8 (My B l) (ew2.same z3).ev.sa.ob (ew2.same z3).ev.sa.s7 (gv rfl) (gv rfl) (gv rfl) k
     have ew4:=ew2.same z4;replace tpl:=tpl _ ew2.ev.sa.tg;have f4:=f2.trans (Fr.of (S:=fg) (T:=T2) z4);refine cf (xs:=(cQ (z_ S2 x y e)).map fun(i:Nat)=>V.int (i:Int)) (fun i σ H5=>∃(oo:Option V) (T5:Tg),σ=[some (.ref b),some (.int (at':Int)),some (.int (x:Int)),some (.str t),some (.int (y:Int)),some (.str e.1),some (.str e.2.1),some (.int e.2.2),oo,o9,o10]/\Fr fg T2 T5 H4 H5/\Ew C D B A b l N T5 H5 L ts (((cQ (z_ S2 x y e)).take i).foldl (StI.mk1a L at' x y e) S2)) ⟨o8,T2,rfl,Fr.refl,ew4⟩ ?_ ?_ ?_
     · rintro i σ H5 _ ⟨oo,T5,rfl,f5,_⟩;exact SqL.of (Fr.free f5 epl tpl).2
     · rintro i v σ H5 hv ⟨oo,T5,rfl,f5,ew5⟩;rw[aQ,bP] at hv;obtain⟨z,hz,rfl⟩:=hv;have hm:=ya (ar hz);have hm5:=ip (EC L at' x y e) ((cQ (z_ S2 x y e)).take i) hm;rw[dG _ _ hz];generalize ((cQ (z_ S2 x y e)).take i).foldl (StI.mk1a L at' x y e) S2=S5 at ew5 hm5⊢;refine⟨_,_,ew5.ev.sa.ob,ie B l,cV rfl (cV rfl (cV rfl (lV rfl ?_)))⟩;refine wx sc ew5.ev.sa hm5 (gv rfl) (gv rfl) (gv rfl) (gv rfl) fun H6 z6=>⟨by show 2<=sizeLine;decide,fun pf hpf=> ?_⟩;have z7:=ah hpf (.lst [.int (at':Int),.int (S5.facts.idxOf (Fi.has y e.1 z):Nat)]);exact kf (nn:=some e.2.2) (fr:=[(at':Int),((S5.facts.idxOf (Fi.has y e.1 z):Nat):Int)]) ((ew5.same z6).same z7) hx (ew.wd.m1 t e hin) (ew2.wf.rg _ hm).2.2 aa ((ew5.same z6).ev.sa.tg.free hpf) fun H8 T8 f8 ew8=>⟨_,T8,rfl,((f5.trans (Fr.of z6)).trans (Fr.of z7)).trans f8,ew8⟩
     · rintro σ H5 ⟨oo,T5,rfl,f5,ew5⟩;rw[ai,be] at ew5;exact⟨_,_,_,_,_,_,T5,rfl,f4.trans f5,ew5⟩
   · rintro σ H2 ⟨o5,o6,o7,o8,o9,o10,T2,rfl,f2,ew2⟩;rw[lv,be] at ew2;exact⟨o5,o6,o7,o8,o9,o10,T2,rfl,f1.trans f2,ew2⟩
 rintro σ H' ⟨o5,o6,o7,o8,o9,o10,T',rfl,fr,ew0⟩;unfold StI.fromChains at q;generalize (L.mk1 t).foldl (StI.byMk1 L at' x y) S=S0 at ew0 q;refine⟨D,_,_,_,ew0.ev.sa.ob,sc.c,sc.m0,qu B l,C,_,_,_,ew0.ev.la.ob,lc.c,lc.n8,N7 A,.inl ⟨_,.inl (id ew0.ev.la.f8).2.choose_spec.1⟩,ay _,fun g0 hg0=> ?_⟩;obtain⟨kvs,qq,vs,ep,eg,eq,rv,stay⟩:=jf es3_mo ew0.ev.la.f8 ew0.ev.la.tg hg0 (.inr t);rw[Ag] at rv;have z1:=ah hg0 (.lst []);have ew1:=ew0.same z1;have f1:Fr fg T' T' H' (upd H' g0 (.lst [])):=Fr.of z1;generalize upd H' g0 (.lst [])=H1 at ep eq rv stay ew1 f1⊢;refine⟨_,DGet.k (k:= .inr t) ep,?_⟩;rw[eg];have lv:=aS rv;refine⟨⟨_,SqL.of eq⟩,cf (xs:=vs) (fun i σ H2=>∃(o5 o6 o7 o8 o9 o10:Option V) (T2:Tg),σ=[some (.ref b),some (.int (at':Int)),some (.int (x:Int)),some (.str t),some (.int (y:Int)),o5,o6,o7,o8,o9,o10]/\Fr fg T' T2 H1 H2/\Ew C D B A b l N T2 H2 L ts (((L.mk2 t).take i).foldl (StI.byMk2 L at' x y) S0)) ⟨o5,o6,o7,o8,o9,o10,T',rfl,Fr.refl,ew1⟩ ?_ ?_ ?_⟩
 · rintro i σ H2 _ ⟨o5,o6,o7,o8,o9,o10,T2,rfl,f2,_⟩;exact SqL.of (stay f2 (by decide))
 · rintro i v σ H2 hv ⟨o5,o6,o7,o8,o9,o10,T2,rfl,f2,ew2⟩;obtain⟨e,he,t0,rfl,ht⟩:=cG rv hv;have hin:=ar he;rw[dG _ _ he];generalize ((L.mk2 t).take i).foldl (StI.byMk2 L at' x y) S0=S2 at ew2⊢;refine⟨_,SqT.of (f2.tups _ _ ht),rfl,?_⟩;refine g3 ?_;refine(lJ (a:=cM (cB S2.facts x e.1)) (c:=cM (cB S2.facts y e.2.1)) (n:=L.parts.length) ?_ ?_ (nQ fun i hi=>(ew2.wf.rg _ (mem_startsOf.mp hi)).1) hnN fun H4 pl z4 epl tpl=> ?_:md _ _ _ _ _)
   · exact fun Q k=>mP sc sc.m9 (KC B l) ew2.ev.sa.ob ew2.ev.sa.s8 (gv rfl) (gv rfl) (gv rfl) k
   · exact fun H3 Q z3 k=>mP sc sc.m9 (KC B l) (ew2.same z3).ev.sa.ob (ew2.same z3).ev.sa.s8 (gv rfl) (gv rfl) (gv rfl) k
   have ew4:=ew2.same z4;replace tpl:=tpl _ ew2.ev.sa.tg;have f4:=f2.trans (Fr.of (S:=fg) (T:=T2) z4);refine cf (xs:=(cQ (z0 S2 x y e)).map fun(i:Nat)=>V.int (i:Int)) (fun i σ H5=>∃(oo:Option V) (T5:Tg),σ=[some (.ref b),some (.int (at':Int)),some (.int (x:Int)),some (.str t),some (.int (y:Int)),o5,some (.str e.2.1),some (.int e.2.2),o8,some (.str e.1),oo]/\Fr fg T2 T5 H4 H5/\Ew C D B A b l N T5 H5 L ts (((cQ (z0 S2 x y e)).take i).foldl (StI.mk2a L at' x y e) S2)) ⟨o10,T2,rfl,Fr.refl,ew4⟩ ?_ ?_ ?_
   · rintro i σ H5 _ ⟨oo,T5,rfl,f5,_⟩;exact SqL.of (Fr.free f5 epl tpl).2
   · rintro i v σ H5 hv ⟨oo,T5,rfl,f5,ew5⟩;rw[aQ,bP] at hv;obtain⟨z,hz,rfl⟩:=hv;have hm:=x_ (ar hz);have hm5:=ip (EA L at' x y e) ((cQ (z0 S2 x y e)).take i) hm;rw[dG _ _ hz];generalize ((cQ (z0 S2 x y e)).take i).foldl (StI.mk2a L at' x y e) S2=S5 at ew5 hm5⊢;refine⟨_,_,ew5.ev.sa.ob,ie B l,cV rfl (cV rfl (cV rfl ?_))⟩;refine wx sc ew5.ev.sa hm5 (gv rfl) (gv rfl) (gv rfl) (gv rfl) fun H6 z6=>⟨by show 2<=sizeLine;decide,fun pf hpf=> ?_⟩;have z7:=ah hpf (.lst [.int (S5.facts.idxOf (Fi.has z e.1 x):Nat),.int (at':Int)]);exact kf (nn:=some e.2.2) (fr:=[((S5.facts.idxOf (Fi.has z e.1 x):Nat):Int),(at':Int)]) ((ew5.same z6).same z7) (ew2.wf.rg _ hm).1 (ew.wd.m2 t e hin) hy aa ((ew5.same z6).ev.sa.tg.free hpf) fun H8 T8 f8 ew8=>⟨_,T8,rfl,((f5.trans (Fr.of z6)).trans (Fr.of z7)).trans f8,ew8⟩
   · rintro σ H5 ⟨oo,T5,rfl,f5,ew5⟩;rw[ai,be] at ew5;exact⟨_,_,_,_,_,_,T5,rfl,f4.trans f5,ew5⟩
 · rintro σ H2 ⟨o5,o6,o7,o8,o9,o10,T2,rfl,f2,ew2⟩;rw[lv,be] at ew2;exact q H2 T2 ((fr.trans f1).trans f2) ew2
end
noncomputable def StI.turn(L:LoI)(S:StI)(at':Nat):Fi->StI
 | .is x k=>StI.fromEnd L (StI.fromPairs L (StI.fromKind L S at' x k) at' x k) at' x k
 | .has x t y=>StI.fromChains L (StI.fromTie L S at' x t y) at' x t y
def Fu(L:LoI)(at' x:Nat)(S:StI)(e:Nat × Int × Bool)(f:Fi)(h:f∈S.facts):f∈(StI.byNo L at' x S e).facts:=by
 unfold StI.byNo
 split
 · exact(dE L S x 1 "no" _ _).1 f h
 · exact h
def As(L:LoI)(at' x:Nat)(S:StI)(e:Nat × Nat × Bool)(f:Fi)(h:f∈S.facts):f∈(StI.byBoth L at' x S e).facts:=by
 unfold StI.byBoth
 split
 · exact(dE L S x e.2.1 "both" _ _).1 f h
 · exact h
def tG(L:LoI)(S:StI)(at' x k:Nat){f:Fi}(h:f∈S.facts):f∈(StI.fromPairs L S at' x k).facts:=ip (As L at' x) _ (ip (Fu L at' x) _ h)
def wg(L:LoI)(S:StI)(at' x k:Nat){f:Fi}(h:f∈S.facts):f∈(StI.fromKind L S at' x k).facts:=by
 have h1:f∈((L.everys k).foldl (fun S e=>StI.tellIs L S x e.1 "every" [(at':Int)] (some e.2)) S).facts:=ip (g:=fun S (e:Nat × Int)=>StI.tellIs L S x e.1 "every" [(at':Int)] (some e.2)) (fun S e f h=>(dE L S x e.1 "every" _ _).1 f h) _ h;unfold StI.fromKind;dsimp only
 split
 · exact(dE L _ x _ "second" _ _).1 f ((dE L _ x _ "first" _ _).1 f h1)
 · exact je L _ x _ _ "some" _ _ h1
 · exact h1
noncomputable def Nx(M:Nat):L2.St->Nat
 | _::some (.int i)::_=>M - i.toNat
 | _=>0
inductive Ks(L:LoI)(S0:StI):Nat->StI->Prop where
 | zero:Ks L S0 0 S0
 | step {i:Nat} {S:StI} {f:Fi}:Ks L S0 i S->S.facts[i]? =some f->Ks L S0 (i+1) (StI.turn L S i f)
inductive xj(C D:Addr)(vs:List V)(H:Hp)(Q:VK):Prop
 | mk:∀b l B A N T L ts S,(vs=[.ref b])->(Ew C D B A b l N T H L ts S)->(∀H' T' S' i,Fr fg T T' H H'->Ew C D B A b l N T' H' L ts S'->Ks L S i S'->S'.facts.length<=i->Q .non H')->xj C D vs H Q
def Dz(C D:Addr):Sp:=fun vs H Q _=>xj C D vs H Q
section
def scGO:bq ["self","at","x","kind","tie","y"] nI (aK zo):=gU
def GQ(F:Fun K "go_on" "Still.go_on" zo f fd)(sc:uR K D)(ml:mg "len"=none)(Gfk:Ml P w K mg base D 7 "from_kind" pP (rq C D))(Gfp:Ml P w K mg base D 3 "from_pairs" pP (pL C D))(Gfe:Ml P w K mg base D 3 "from_end" Bu (ur C D))(Gft:Ml P w K mg base D 7 "from_tie" pO (uq C D))(Gfc:Ml P w K mg base D 7 "from_chains" pO (nE C D)):b_ P w K mg base fj 8 f fd nI (Dz C D):=by
 refine F.o scGO fun cdv A0 outer s0 H vs Q E hr h=> ?_;obtain⟨b,l,B,A,N,T,L,ts,S,rfl,ew,q⟩:=h;have hu:=gA hr;refine⟨_,a_ (fe 1 scGO.nd aA)
  (bb (rP qI (dC l9 bp (oj ml (du aB))) (a_ (bu (dC bN (oj ml (j7 bY (du aB) bp)) aA) (a_ (kr (j7 bY (du aB) bp) (eY rfl (br (fq 2 scGO.nd) (br (fq 3 scGO.nd) dX)))) (a_ (bg (iw aB sc.c Gfk hr (gD bp bF bU))) (a_ (bg (iw aB sc.c Gfp hr (gD bp bF bU))) (bb (bg (iw aB sc.c Gfe hr (gD bp bF bU))))))) (a_ (kr (j7 bY (du aB) bp) (eY rfl (br (fq 2 scGO.nd) (br (fq 4 scGO.nd) (br (fq 5 scGO.nd) dX))))) (a_ (bg (iw aB sc.c Gft hr (jk bp bF bX cX))) (bb (bg (iw aB sc.c Gfc hr (jk bp bF bX cX))))))) (bb (DY (i:=1) scGO.nd rfl (Or.inl rfl) aA J2))))),?_⟩
 refine gn ?_;show uY _ _ {nx:=_,rt:=_,bk:=_,ct:=_} _ _;refine wL (fun σ H'=>∃(i:Nat) (o2 o3 o4 o5:Option V) (T':Tg) (S':StI),σ=[some (.ref b),some (.int (i:Int)),o2,o3,o4,o5]/\Fr fg T T' H H'/\Ew C D B A b l N T' H' L ts S'/\Ks L S i S') (fun σ _=>Nx (gW L.parts.length ts) σ) ⟨0,none,none,none,none,T,S,rfl,Fr.refl,ew,.zero⟩ ?_ (fun σ H Q Q' hm h=>by obtain⟨x,e,h1⟩:=onV.ex h;obtain⟨y,e',h2⟩:=onV.ex h1;obtain⟨a,rfl,C',dx,fs,v,h3,h4,h5,h6,p,ys,h7,h8,h9⟩:=onR.ex h2;obtain⟨i,rfl,h10⟩:=onI.ex h9;exact onV.of e (onV.of e' ⟨C',dx,fs,v,h3,h4,h5,h6,p,ys,h7,h8,hm _ _ h10⟩));rintro σ H1 ⟨i,o2,o3,o4,o5,T1,S1,rfl,f1,ew1,r1⟩;obtain⟨_,vs,e1,rv⟩:=id ew1.ev.sa.s1;have lv:vs.length=S1.facts.length:=aS rv;refine⟨D,_,_,_,ew1.ev.sa.ob,sc.c,sc.m2,KD B l,B.q1,vs,rfl,.inl (SqL.of e1),?_⟩;by_cases hi:i<S1.facts.length
 · obtain⟨fa,hfa⟩:∃fa,S1.facts[i]? =some fa:=⟨_,aw hi⟩;have hin:=ar hfa;have rg:=ew1.wf.rg _ hin;obtain⟨v,hv,iv⟩:=qc rv hfa;have mu:∀o2 o3 o4 o5:Option V,Nx (gW L.parts.length ts) [some (.ref b),some (.int ((i:Int)+1)),o2,o3,o4,o5]<Nx (gW L.parts.length ts) [some (.ref b),some (.int (i:Int)),o2,o3,o4,o5]:=fun _ _ _ _=>by
    show gW L.parts.length ts - ((i:Int)+1).toNat<gW L.parts.length ts - (i:Int).toNat;have:=ew1.wf.cnt;unfold StI.cnt at this
    lia
   refine oI (ao (show(i:Int)<((vs.length:Nat):Int) by lia)) ⟨D,_,_,_,ew1.ev.sa.ob,sc.c,sc.m2,KD B l,vs,v,SqL.of e1,aR hv,?_⟩;cases fa with
   | is x k=>
     obtain⟨pp,rfl,hpp⟩:=iv;refine⟨pp,_,rfl,.inr (SqT.of hpp),?_⟩;refine⟨D,_,_,_,ew1.ev.sa.ob,sc.c,sc.m2,KD B l,vs,_,SqL.of e1,aR hv,_,SqT.of hpp,rfl,?_⟩;refine⟨_,_,ew1.ev.sa.ob,u_ B l,?_⟩;refine⟨b,l,B,A,N,T1,L,ts,S1,i,x,k,rfl,ew1,rg.1,rg.2,fun H2 T2 f2 ew2=> ?_⟩;refine⟨_,_,ew2.ev.sa.ob,tp B l,?_⟩;refine⟨b,l,B,A,N,T2,L,ts,_,i,x,k,rfl,ew2,rg.1,fun H3 T3 f3 ew3=> ?_⟩;refine⟨_,_,ew3.ev.sa.ob,xq B l,?_⟩;refine⟨b,l,B,A,N,T3,L,ts,_,i,x,k,rfl,ew3,tG L _ i x k (wg L S1 i x k hin),fun H4 T4 f4 ew4=> ?_⟩;exact⟨_,rfl,_,_,rfl,rfl,⟨i+1,_,_,_,_,T4,_,rfl,((f1.trans f2).trans f3).trans f4,ew4,.step r1 hfa⟩,mu _ _ _ _⟩
   | has x t y=>
     obtain⟨pp,rfl,hpp⟩:=iv;refine⟨pp,_,rfl,.inr (SqT.of hpp),?_⟩;refine⟨D,_,_,_,ew1.ev.sa.ob,sc.c,sc.m2,KD B l,vs,_,SqL.of e1,aR hv,_,SqT.of hpp,rfl,?_⟩;refine⟨_,_,ew1.ev.sa.ob,xp B l,?_⟩;refine⟨b,l,B,A,N,T1,L,ts,S1,i,x,t,y,rfl,ew1,hin,fun H2 T2 f2 ew2=> ?_⟩;refine⟨_,_,ew2.ev.sa.ob,rA B l,?_⟩;refine⟨b,l,B,A,N,T2,L,ts,_,i,x,t,y,rfl,ew2,rg.1,rg.2.2,fun H4 T4 f4 ew4=> ?_⟩;exact⟨_,rfl,_,_,rfl,rfl,⟨i+1,_,_,_,_,T4,_,rfl,(f1.trans f2).trans f4,ew4,.step r1 hfa⟩,mu _ _ _ _⟩
 · exact oI (aj (show ¬ (i:Int)<((vs.length:Nat):Int) by lia)) (q H1 T1 S1 i f1 ew1 r1 (by lia))
end
theorem LoI.num_shapes:∀k L,∃l,(LoI.num k L).shapes=L.shapes++l/\∀r j,Sh.some r j∈l->r∈Kd.tieL k
 | .nm x,L=>by
   rw[LoI.num]
   split
   · exact⟨[],by simp,fun _ _ h=>(ak h).elim⟩
   · exact⟨[.no],rfl,fun r j h=>by cases af.mp h⟩
 | .two a b,L=>by
   rw[LoI.num];obtain⟨la,ea,ha⟩:=LoI.num_shapes a L;obtain⟨lb,eb,hb⟩:=LoI.num_shapes b (LoI.num a L)
   split
   · exact⟨[],by simp,fun _ _ h=>(ak h).elim⟩
   · refine⟨la++(lb++[.both ((LoI.num a L).ix a) ((LoI.num b (LoI.num a L)).ix b)]),by show(LoI.num b (LoI.num a L)).shapes++_=_;rw[eb,ea];simp,fun r j h=> ?_⟩;show r∈Kd.tieL a++Kd.tieL b;rcases av.mp h with h | h
     · exact aP _ (ha r j h)
     · rcases av.mp h with h | h
       · exact aN _ (hb r j h)
       · cases af.mp h
 | .som t c,L=>by
   rw[LoI.num];obtain⟨lc,ec,hc⟩:=LoI.num_shapes c L
   split
   · exact⟨[],by simp,fun _ _ h=>(ak h).elim⟩
   · refine⟨lc++[.some t ((LoI.num c L).ix c)],by show(LoI.num c L).shapes++_=_;rw[ec];simp,fun r j h=> ?_⟩;show r∈t::Kd.tieL c;rcases av.mp h with h | h
     · exact aG _ (hc r j h)
     · cases af.mp h;exact aZ
theorem LoI.num_len:∀k L,(LoI.num k L).parts.length<=L.parts.length+k.sz
 | .nm x,L=>by
   rw[LoI.num]
   split
   · lia
   · show(L.parts++[_]).length<=_;rw[ag];simp[Kd.sz]
 | .two a b,L=>by
   have h1:=LoI.num_len a L;have h2:=LoI.num_len b (LoI.num a L);rw[LoI.num]
   split
   · lia
   · show((LoI.num b (LoI.num a L)).parts++[_]).length<=_;rw[ag];simp only[Kd.sz,aV,cw];lia
 | .som r c,L=>by
   have h1:=LoI.num_len c L;rw[LoI.num]
   split
   · lia
   · show((LoI.num c L).parts++[_]).length<=_;rw[ag];simp only[Kd.sz,aV,cw];lia
def LoI.num_le(k:Kd)(L:LoI):L.parts.length<=(LoI.num k L).parts.length:=by
 obtain⟨l,e⟩:=LoI.num_sub k L;rw[e,ag];lia
def CZ(h:∀x k,Fi.is x k∈F->k<sh.length)(x:Nat)(r:Str):fA (sh++l) F x r=fA sh F x r:=by
 unfold fA
 induction F with
 | nil=>rfl
 | cons f F ih=>
   rw[fM,fM,ih fun x k hk=>h x k (aG _ hk)];cases f with
   | is a k=>dsimp only;rw[bM (h a k aZ)]
   | has a t y=>rfl
def Wf.mono(w:Wf n ts S)(h:n<=n'):Wf n' ts S:=by
 refine⟨w.nd,fun f hf=> ?_,w.sd,fun i hi=>ax (w.sr i hi) h,w.st0,w.hs⟩;have:=w.rg f hf;cases f with
 | is x k=>exact⟨ax this.1 h,ax this.2 h⟩
 | has x t y=>exact⟨ax this.1 h,this.2.1,ax this.2.2 h⟩
def LoI.Wd.num{L:LoI}{ts:List Str}(w:L.Wd ts){k:Kd}(ht:∀r∈Kd.tieL k,r∈ts):(LoI.num k L).Wd ts:=by
 obtain⟨_,e1,e2,e3,e4,e5,e6,e7,e8,e9⟩:=LoI.num_rest k L;have le:=LoI.num_le k L;refine⟨fun i e h=> ?_,fun i e h=> ?_,fun i e h=> ?_,fun i e h=> ?_,fun i e h=> ?_,fun i e h=> ?_,fun i e h=> ?_,fun r m i h1 h2=> ?_,fun i r j h=> ?_⟩
 · rw[e1] at h;exact ax (w.ev i e h) le
 · rw[e2] at h;exact ax (w.no i e h) le
 · rw[e3] at h;exact w.wi i e h
 · rw[e4] at h;exact w.m1 i e h
 · rw[e5] at h;exact w.m2 i e h
 · rw[e6] at h;exact⟨ax (w.bo i e h).1 le,ax (w.bo i e h).2 le⟩
 · rw[e7] at h;exact ax (w.so i e h) le
 · rw[e8] at h1;obtain⟨q,h3,h4,h5⟩:=w.fi r m i h1 h2;exact⟨q,by rw[e9];exact h3,ax h4 le,ax h5 le⟩
 · obtain⟨l,e,hl⟩:=LoI.num_shapes k L;rw[e] at h;rcases eR i L.shapes.length with c | c
   · rw[bM c] at h;exact w.sh i r j h
   · rw[cy c] at h;exact ht r (hl r j (ar h))
def sV(h:n<=n'):gW n ts<=gW n' ts:=by
 have h2:n * n<=n' * n':=Nat.mul_le_mul h h;have h3:=Oi ts.length h2;unfold gW
 lia
def Ew.num(h:Ew C D B A b l N T H L ts S)(f:Fr [0,1,2] T T' H H')(la:LoreAt C A l (N+k.sz) T' H' (LoI.num k L))(ht:∀r∈Kd.tieL k,r∈ts)(hN:N+k.sz<=50000)(hM:(LoI.num k L).parts.length<=M)(bd:gW M ts<=9800000):Ew C D B A b l (N+k.sz) T' H' (LoI.num k L) ts S:=by
 obtain⟨sl,e,_⟩:=LoI.num_shapes k L;have le:=LoI.num_le k L;have sa:=StG.fr h.ev.sa f (by decide) la.tg;have eg:S.gd L.shapes=S.gd (LoI.num k L).shapes:=by
  unfold StI.gd;rw[e]
  congr 1
  exact iT fun x r=>(CZ (fun a c hc=>by rw[h.ev.ok.sl];exact(h.wf.rg _ hc).2) x r).symm
 refine⟨⟨?_,la,LoI.num_ok k h.ev.ok,h.ev.ex,hN,h.ev.sl,aq h.ev.p2 le⟩,h.wf.mono le,h.wd.num ht,aq (sV hM) bd⟩;show StG D B b l S.cnt T' H' (S.gd (LoI.num k L).shapes);rw[<-eg];exact sa
noncomputable abbrev SB:List Nat:=[0,1,2,13,14,15,16,17,18,19,20,21,22]
def OF(f:Fr [0,1,2] T T' H H'):Fr SB T T' H H':=f.mono (by decide)
def I_(f:Fr fg T T' H H'):Fr SB T T' H H':=f.mono (by decide)
abbrev LS:=LoI × StI
noncomputable def j0(p:LS)(k:Kd):LS:=(LoI.num k p.1,StI.letStand (LoI.num k p.1) p.2 ((LoI.num k p.1).ix k))
noncomputable def kU(p:LS)(q:Int × Sy):LS:=match q.2 with
 | .thing x c=>(LoI.num c (LoI.num (.nm x) p.1),StI.tellIs (LoI.num c (LoI.num (.nm x) p.1)) p.2 ((LoI.num (.nm x) p.1).ix (.nm x)) ((LoI.num c (LoI.num (.nm x) p.1)).ix c) "thing" [] (some q.1))
 | .tied x t y=>(LoI.num (.nm y) (LoI.num (.nm x) p.1),StI.tellHas (LoI.num (.nm y) (LoI.num (.nm x) p.1)) p.2 ((LoI.num (.nm x) p.1).ix (.nm x)) t ((LoI.num (.nm y) (LoI.num (.nm x) p.1)).ix (.nm y)) "tied" [] (some q.1))
 | _=>p
noncomputable def cz(ks:List Kd)(A:List Str)(ps:List (Int × Sy))(p:LS):LS:=ps.foldl kU ((ks++A.map Kd.nm).foldl j0 p)
noncomputable def gO(ks:List Kd):Nat:=(ks.map Kd.sz).sum
noncomputable def jg(ps:List (Int × Sy)):Nat:=(ps.map fun q=>q.2.szs).sum
def Sy.tsOk(ts:List Str)(s:Sy):Prop:=(∀c∈s.parts,∀r∈Kd.tieL c,r∈ts)/\∀x t y,s= .tied x t y->t∈ts
theorem rX(H:Hp):∀(A:List Str),KL H (A.map V.str) (A.map Kd.nm)
 | []=> .nil
 | _::A=> .cons rfl (rX H A)
theorem wU:∀(A:List Str),gO (A.map Kd.nm)=A.length
 | []=>rfl
 | _::A=>by
   have:=wU A;unfold gO at this⊢;rw[bQ,bQ,oh,this,aV];simp[Kd.sz];lia
def pC{s:Sy}(h:x∈s.things):Kd.nm x∈s.parts:=by
 cases s with
 | thing a c=>rw[show x=a by simpa[Sy.things] using h];simp[Sy.parts]
 | tied a t b=>rcases(show x=a\/x=b by simpa[Sy.things] using h) with e | e<;>(rw[e];simp[Sy.parts])
 | every a b=>simp[Sy.things] at h
 | no a b=>simp[Sy.things] at h
 | within a b=>simp[Sy.things] at h
 | makes a b c=>simp[Sy.things] at h
def lB(h:x∈cK ps):∃q∈ps,x∈q.2.things:=by
 unfold cK at h;obtain⟨l,hl,hx⟩:=Dd.mp h;obtain⟨q,hq,rfl⟩:=bS.mp hl;exact⟨q,hq,hx⟩
def Ew.mono(h:Ew C D B A b l N T H L ts S)(hn:N<=N')(hN:N'<=50000):Ew C D B A b l N' T H L ts S:=⟨⟨h.ev.sa,h.ev.la.mono hn,h.ev.ok,h.ev.ex,hN,h.ev.sl,h.ev.p2⟩,h.wf,h.wd,h.bd⟩
def rS(ew:Ew C D B A b l N T H L ts S)(ik:IsK H k v)(gk:vQ d k)(ht:∀r∈Kd.tieL k,r∈ts)(hN:N+k.sz<=50000)(hM:L.parts.length+k.sz<=M)(bd:gW M ts<=9800000)(q:∀H' T',Fr SB T T' H H'->Ew C D B A b l (N+k.sz) T' H' (LoI.num k L) ts S->Q (.int ((LoI.num k L).ix k:Nat)) H'):u7 C d [.ref l,v] H Q:=⟨l,A,N,T,L,v,k,rfl,ew.ev.la,ik,gk.1,gk.2.1,gk.2.2,aq hN (by decide),fun H' T' f la=>q H' T' (OF f) (ew.num f la ht hN (aq (LoI.num_len k L) hM) bd)⟩
def JN(ew:Ew C D B A b l N T H L ts S)(hx:x<L.parts.length)(q:∀H' T',Fr SB T T' H H'->Ew C D B A b l N T' H' L ts (StI.letStand L S x)->Q .non H'):jH C D [.ref b,.int (x:Int)] H Q:=⟨b,l,B,A,N,T,L,S,x,rfl,ew.ev,hx,aq ew.cnt (by decide),fun H' T' f ev=>q H' T' (I_ f) (ew.tell ev (ew.wf.letStand hx))⟩
inductive uw(C D:Addr)(d:Nat)(vs:List V)(H:Hp)(Q:VK):Prop
 | mk:∀b l B A N M T L ts S lp ls ys zs ps ks,(vs=[.ref b,.ref lp,.ref ls])->(Ew C D B A b l N T H L ts S)->(H lp=some (.lst ys))->(T lp=none)->(PrL H ys ps)->(H ls=some (.lst zs))->(KL H zs ks)->((∀q∈ps,q.2.okS/\q.2.gd d/\q.2.tsOk ts))->((∀k∈ks,vQ d k/\∀r∈Kd.tieL k,r∈ts))->(ps.length<=100)->(N+gO ks+3 * ps.length+jg ps<=50000)->(L.parts.length+gO ks+3 * ps.length+jg ps<=M)->(gW M ts<=9800000)->(∀H' T' Tn N',Fr SB T T' H H'->(∀x,x∈Tn↔x∈cK ps)->Ew C D B A b l N' T' H' (cz ks Tn ps (L,S)).1 ts (cz ks Tn ps (L,S)).2->Q .non H')->uw C D d vs H Q
def Be(C D:Addr)(d:Nat):Sp:=fun vs H Q _=>uw C D d vs H Q
section
def scBeg:bq ["self","pairs","starts","lore","x","number","saying"] Br (aK vq):=gU
def Er(hd:d<=31)(F:Fun K "begin" "Still.begin" vq f fd)(lc:wD K C)(sc:uR K D)(mls:mg "list"=none)(Gti:Ml P w K mg base D 2 "tell_is" nJ (h_ C D))(Gth:Ml P w K mg base D 6 "tell_has" rM (jx C D))(Gno:Ml P w K mg base C (2 * d) "number_of" fH (nB C d))(Gls:Ml P w K mg base D 5 "let_stand" fH (mq C D))(Gtn:Cl P w K mg base 63 "things_named" ["pairs"] t_):b_ P w K mg base fj 64 f fd Br (Be C D d):=by
 refine F.o scBeg fun cdv A0 outer s0 H vs Q E hr h=> ?_;obtain⟨b,l,B,A,N,M,T,L,ts,S,lp,ls,ys,zs,ps,ks,rfl,ew,elp,tlp,hps,els,hks,gp,gk,l100,hN,hM,bd,q⟩:=h;have hu:=gA hr;refine⟨_,a_ (fe 3 scBeg.nd (du aB))
  (a_ (lZ (cj (bx oS (fu gN rfl mls bO (eF bF)) (fu (fL rfl) rfl mls bO (eF (eB Gtn hr (eF bp)))))) (fq 4 scBeg.nd) (bb (bg (iw aB sc.c Gls hr (eF (iw bU lc.c Gno hr (eF bX)))))))
  (bb (lZ (cj bp) (eY rfl (br (fq 5 scBeg.nd) (br (fq 6 scBeg.nd) dX))) (bb (bu (dC bN (di eK) aJ) (bb (bg (iw aB sc.c Gti hr (bZ (iw bU lc.c Gno hr (eF (di eK))) (jk (iw bU lc.c Gno hr (eF (di eK))) aJ (bR cu) cX))))) (bb (bu (dC bN (di eK) aJ) (bb (bg (iw aB sc.c Gth hr (bZ (iw bU lc.c Gno hr (eF (di eK))) (bZ (di eK) (jk (iw bU lc.c Gno hr (eF (di eK))) aJ (bR cu) cX)))))) aX))))))),?_⟩
 refine⟨D,_,_,_,ew.ev.sa.ob,sc.c,sc.m0,qu B l,?_⟩;refine gn ?_;refine⟨ls,zs,rfl,.inl (SqL.of els),fun p1 hp1=> ?_⟩;have y1:=ah hp1 (.lst zs);refine⟨lp,ys,ps,rfl,y1 _ _ elp,PrL.mono y1.tups hps,fun q' hq=>(gp q' hq).1,l100,fun dd Tn H2 s2 ed hTn lTn=> ?_⟩;refine⟨dd,_,Tn,rfl,ed,oi _,fun p3 hp3=> ?_⟩;have y3:=ah hp3 (.lst (Tn.map V.str));have lzs:zs.length=ks.length:=KL.len hks;have lks:ks.length<=gO ks:=by
  unfold gO;clear hks lzs gk hN hM q
  induction ks with
  | nil=>exact ay _
  | cons k ks ih=>
    rw[bQ,oh,aV];have:1<=k.sz:=by cases k<;>(simp only[Kd.sz];lia)
    lia
 refine⟨p1,p3,zs,Tn.map V.str,rfl,rfl,y3 _ _ (s2 _ _ aa),aa,by rw[ai];exact aq (show zs.length+Tn.length<=50000 by lia) (by decide),fun p4 hp4=> ?_⟩;have y4:=ah hp4 (.lst (zs++Tn.map V.str));have sm:Same H (upd (upd H2 p3 (.lst (Tn.map V.str))) p4 (.lst (zs++Tn.map V.str))):=fun x o h=>y4 x o (y3 x o (s2 x o (y1 x o h)));have e4:upd (upd H2 p3 (.lst (Tn.map V.str))) p4 (.lst (zs++Tn.map V.str)) p4=some (.lst (zs++Tn.map V.str)):=aa;have t4:T p4=none:=(((ew.ev.sa.tg.same y1).same s2).same y3).free hp4;generalize upd (upd H2 p3 (.lst (Tn.map V.str))) p4 (.lst (zs++Tn.map V.str))=H4 at sm e4⊢;have ew4:=ew.same sm;have kx:KL H4 (zs++Tn.map V.str) (ks++Tn.map Kd.nm):=nO (KL.mono sm.tups hks) (rX H4 Tn);have cx:gO (ks++Tn.map Kd.nm)=gO ks+Tn.length:=by
  have:=wU Tn;unfold gO at this⊢;rw[bj,gy,this]
 have gx:∀k∈ks++Tn.map Kd.nm,vQ d k/\∀r∈Kd.tieL k,r∈ts:=fun k hk=>by
  rcases av.mp hk with hk | hk
  · exact gk k hk
  · obtain⟨x,hx,rfl⟩:=bS.mp hk;obtain⟨q',hq,hxq⟩:=lB ((hTn x).mp hx);obtain⟨g1,g2,g3,_⟩:=(gp q' hq).2.1 _ (pC hxq);exact⟨⟨g1,g2,g3⟩,fun r hr=>(ak hr).elim⟩
 replace q:=fun H' T' N' f e=>q H' T' Tn N' f hTn e;unfold cz at q;generalize ks++Tn.map Kd.nm=xs at kx cx gx q;have lx:(zs++Tn.map V.str).length=xs.length:=KL.len kx;refine⟨⟨_,SqL.of e4⟩,cf (xs:=zs++Tn.map V.str) (fun i σ H5=>∃(o4:Option V) (T5:Tg),σ=[some (.ref b),some (.ref lp),some (.ref ls),some (.ref l),o4,none,none]/\Fr SB T T5 H4 H5/\Ew C D B A b l (N+gO (xs.take i)) T5 H5 ((xs.take i).foldl j0 (L,S)).1 ts ((xs.take i).foldl j0 (L,S)).2/\((xs.take i).foldl j0 (L,S)).1.parts.length<=L.parts.length+gO (xs.take i)) ⟨none,T,rfl,Fr.refl,ew4,au _⟩ ?_ ?_ ?_⟩
 · rintro i σ H5 _ ⟨o4,T5,rfl,f5,_⟩;exact SqL.of (Fr.free f5 e4 t4).2
 · rintro i v σ H5 hv ⟨o4,T5,rfl,f5,ew5,le5⟩;obtain⟨k,hk,ik⟩:=KL.get kx hv;obtain⟨gk1,gk2⟩:=gx k (ar hk);have c3:gO (xs.take (i+1))=gO (xs.take i)+k.sz:=iP Kd.sz hk;have c4:gO (xs.take (i+1))<=gO xs:=iO Kd.sz xs (i+1);rw[lF j0 _ hk,c3];generalize (xs.take i).foldl j0 (L,S)=pp at ew5 le5⊢;refine⟨_,_,ew5.ev.sa.ob,nG B l,_,_,ew5.ev.la.ob,ew5.ev.la.lkNo,?_⟩;refine rS (M:=M) ew5 (IsK.mono f5.tups ik) gk1 gk2 (by lia) (by lia) bd fun H6 T6 f6 ew6=> ?_;refine JN ew6 (LoI.ix_lt (LoI.num_has k pp.1)) fun H7 T7 f7 ew7=> ?_;refine⟨_,T7,rfl,(f5.trans f6).trans f7,by rw[<-wI];exact ew7,?_⟩;show(LoI.num k pp.1).parts.length<=_;have:=LoI.num_len k pp.1
   lia
 rintro σ H5 ⟨o4,T5,rfl,f5,ew5,le5⟩;rw[lx,be] at ew5 le5;generalize xs.foldl j0 (L,S)=pp at ew5 le5 q;have f0:Fr SB T T5 H H5:=(Fr.of sm).trans f5;obtain⟨tlp5,elp5⟩:=Fr.free f0 elp tlp;have hps5:=PrL.mono f0.tups hps;have lps:ys.length=ps.length:=aS hps;refine⟨⟨_,SqL.of elp5⟩,cf (xs:=ys) (fun i σ H6=>∃(o4 o5 o6:Option V) (T6:Tg),σ=[some (.ref b),some (.ref lp),some (.ref ls),some (.ref l),o4,o5,o6]/\Fr SB T5 T6 H5 H6/\Ew C D B A b l (N+gO xs+jg (ps.take i)) T6 H6 ((ps.take i).foldl kU pp).1 ts ((ps.take i).foldl kU pp).2/\((ps.take i).foldl kU pp).1.parts.length<=L.parts.length+gO xs+jg (ps.take i)) ⟨o4,none,none,T5,rfl,Fr.refl,ew5,le5⟩ ?_ ?_ ?_⟩
 · rintro i σ H6 _ ⟨o4,o5,o6,T6,rfl,f6,_⟩;exact SqL.of (Fr.free f6 elp5 tlp5).2
 · rintro i v σ H6 hv ⟨o4,o5,o6,T6,rfl,f6,ew6,le6⟩;obtain⟨pq,hpq,t,vy,rfl,ht,hsy⟩:=cG hps5 hv;obtain⟨gq1,gq2,gq3⟩:=gp pq (ar hpq);have c3:jg (ps.take (i+1))=jg (ps.take i)+pq.2.szs:=iP (fun q:Int × Sy=>q.2.szs) hpq;have c4:jg (ps.take (i+1))<=jg ps:=iO (fun q:Int × Sy=>q.2.szs) ps (i+1);rw[lF kU _ hpq,c3];generalize (ps.take i).foldl kU pp=rr at ew6 le6⊢;obtain⟨n,s⟩:=pq;replace c3:jg (ps.take (i+1))=jg (ps.take i)+s.szs:=c3;obtain⟨pv,vs,rfl,hpv,hL⟩:=IsSy.mono f6.tups hsy;have bd':=bd;refine⟨_,SqT.of (f6.tups _ _ ht),rfl,?_⟩;cases s with
   | thing x c=>
     obtain⟨vx,vc,rfl,kx',kc⟩:=yg hL;obtain⟨x1,x2,x3,_⟩:=gq2 (.nm x) (by simp[Sy.parts]);obtain⟨c1,c2,c5,_⟩:=gq2 c (by simp[Sy.parts]);have hz:(Sy.thing x c).szs=1+c.sz:=by simp[Sy.szs,Sy.parts,Kd.sz]
     have z1:(Kd.nm x).sz=1:=rfl;refine(cI hpv rfl (⟨_,_,ew6.ev.sa.ob,dF B l,_,_,ew6.ev.la.ob,ew6.ev.la.lkNo,cI hpv rfl ?_⟩));refine rS (M:=M) (k:= .nm x) ew6 kx' ⟨x1,x2,x3⟩ (fun r hr=>(ak hr).elim) (by lia) (by lia) bd fun H7 T7 f7 ew7=> ?_;have l7:=LoI.num_len (.nm x) rr.1;refine⟨_,_,ew7.ev.la.ob,ew7.ev.la.lkNo,cI (f7.tups _ _ hpv) rfl ?_⟩;refine rS (M:=M) (k:=c) ew7 (IsK.mono f7.tups kc) ⟨c1,c2,c5⟩ (gq3.1 c (by simp[Sy.parts])) (by lia) (by lia) bd fun H8 T8 f8 ew8=> ?_;have l8:=LoI.num_len c (LoI.num (.nm x) rr.1);have hx8:(LoI.num (.nm x) rr.1).ix (.nm x)<(LoI.num c (LoI.num (.nm x) rr.1)).parts.length:=ax (LoI.ix_lt (LoI.num_has _ _)) (LoI.num_le _ _);refine⟨ay _,fun pf hpf=> ?_⟩;have z9:=ah hpf (.lst []);refine hJ (nn:=some n) (fr:=[]) (ew8.same z9) hx8 (LoI.ix_lt (LoI.num_has _ _)) aa (ew8.ev.sa.tg.free hpf) fun H9 T9 f9 ew9=>⟨_,_,_,T9,rfl,(((f6.trans f7).trans f8).trans (Fr.of z9)).trans (I_ f9),?_,?_⟩
     · rw[hz,show N+gO xs+(jg (ps.take i)+(1+c.sz))=N+gO xs+jg (ps.take i)+(Kd.nm x).sz+c.sz by lia];exact ew9
     · show(LoI.num c (LoI.num (.nm x) rr.1)).parts.length<=_;rw[hz];lia
   | tied x t' y=>
     obtain⟨vx,vt,vc,rfl,kx',kt,kc⟩:=LR hL;obtain rfl:vt= .str t':=kt;obtain⟨x1,x2,x3,_⟩:=gq2 (.nm x) (by simp[Sy.parts]);obtain⟨c1,c2,c5,_⟩:=gq2 (.nm y) (by simp[Sy.parts]);have hz:(Sy.tied x t' y).szs=3:=by simp[Sy.szs,Sy.parts,Kd.sz]
     have z1:(Kd.nm x).sz=1:=rfl;have z2:(Kd.nm y).sz=1:=rfl;refine(cI hpv rfl ((cI hpv rfl (⟨_,_,ew6.ev.sa.ob,ie B l,_,_,ew6.ev.la.ob,ew6.ev.la.lkNo,cI hpv rfl ?_⟩))));refine rS (M:=M) (k:= .nm x) ew6 kx' ⟨x1,x2,x3⟩ (fun r hr=>(ak hr).elim) (by lia) (by lia) bd fun H7 T7 f7 ew7=> ?_;have l7:=LoI.num_len (.nm x) rr.1;refine(cI (f7.tups _ _ hpv) rfl ⟨_,_,ew7.ev.la.ob,ew7.ev.la.lkNo,cI (f7.tups _ _ hpv) rfl ?_⟩);refine rS (M:=M) (k:= .nm y) ew7 (IsK.mono f7.tups kc) ⟨c1,c2,c5⟩ (fun r hr=>(ak hr).elim) (by lia) (by lia) bd fun H8 T8 f8 ew8=> ?_;have l8:=LoI.num_len (.nm y) (LoI.num (.nm x) rr.1);have hx8:(LoI.num (.nm x) rr.1).ix (.nm x)<(LoI.num (.nm y) (LoI.num (.nm x) rr.1)).parts.length:=ax (LoI.ix_lt (LoI.num_has _ _)) (LoI.num_le _ _);refine⟨ay _,fun pf hpf=> ?_⟩;have z9:=ah hpf (.lst []);refine kf (nn:=some n) (fr:=[]) (ew8.same z9) hx8 (gq3.2 x t' y rfl) (LoI.ix_lt (LoI.num_has _ _)) aa (ew8.ev.sa.tg.free hpf) fun H9 T9 f9 ew9=>⟨_,_,_,T9,rfl,(((f6.trans f7).trans f8).trans (Fr.of z9)).trans (I_ f9),?_,?_⟩
     · exact ew9.mono (by dsimp only;lia) (by dsimp only;lia)
     · show(LoI.num (.nm y) (LoI.num (.nm x) rr.1)).parts.length<=_;rw[hz];lia
   | every x y=>
     iterate 2 refine cI hpv (aR (j:=0) rfl) ?_
     exact⟨_,_,_,T6,rfl,f6,ew6.mono (by lia) (by show N+gO xs+(jg (ps.take i)+(Sy.every x y).szs)<=50000;lia),by show rr.1.parts.length<=_;lia⟩
   | no x y=>
     iterate 2 refine cI hpv (aR (j:=0) rfl) ?_
     exact⟨_,_,_,T6,rfl,f6,ew6.mono (by lia) (by show N+gO xs+(jg (ps.take i)+(Sy.no x y).szs)<=50000;lia),by show rr.1.parts.length<=_;lia⟩
   | within x y=>
     iterate 2 refine cI hpv (aR (j:=0) rfl) ?_
     exact⟨_,_,_,T6,rfl,f6,ew6.mono (by lia) (by show N+gO xs+(jg (ps.take i)+(Sy.within x y).szs)<=50000;lia),by show rr.1.parts.length<=_;lia⟩
   | makes x y z=>
     iterate 2 refine cI hpv (aR (j:=0) rfl) ?_
     exact⟨_,_,_,T6,rfl,f6,ew6.mono (by lia) (by show N+gO xs+(jg (ps.take i)+(Sy.makes x y z).szs)<=50000;lia),by show rr.1.parts.length<=_;lia⟩
 · rintro σ H6 ⟨o4,o5,o6,T6,rfl,f6,ew6,_⟩;rw[lps,be] at ew6;exact q H6 T6 _ (f0.trans f6) ew6
end
def LoreAt.bt(h:LoreAt C A a N T H L)(z:Bt b H H')(t:Tups H H')(hT:T b=none)(ne:a≠b)(tg:TgOk T H'):LoreAt C A a N T H' L:=⟨tg,h.oT,z _ _ h.ob ne,h.f0.bt r_ z t hT,h.f1.bt pN z t hT,h.f2.bt z hT,h.f3.bt z hT,h.f4.bt e2_mo z t hT,h.f5.bt e3_mo z t hT,h.f6.bt es2_mo z t hT,h.f7.bt es3_mo z t hT,h.f8.bt es3_mo z t hT,h.f9.bt eb_mo z t hT,h.f10.bt esm_mo z t hT,h.f11.bt z hT,h.f12.bt z hT,h.gd,h.le,h.sl,h.xo⟩
noncomputable def StI.emp:StI:=⟨[],[],[]⟩
def OM(k:Key):zZ (iU []) k=none:=by
 cases k with
 | inl i=>exact aE (fun z=>z.2 rfl)
 | inr r=>rfl
def Nz(k:Key):zZ (iR []) k=none:=by
 cases k with
 | inl i=>exact aE (fun z=>z.2 rfl)
 | inr r=>rfl
def Ny(hg:∀i t,g i t=[])(k:List Key):CI g k=none:=by
 match k with
 | []=>rfl
 | [.inl _]=>rfl
 | [.inr _]=>rfl
 | [.inr _,_]=>rfl
 | [.inl _,.inl _]=>rfl
 | [.inl i,.inr s]=>exact aE (fun z=>z.2 (hg _ _))
 | x::y::z::w=>cases x<;>cases y<;>rfl
def OH(k:List Key):BE [] k=none:=rfl
inductive uf(C D:Addr)(vs:List V)(H:Hp)(Q:VK):Prop
 | mk:∀b dx l A N T L,(vs=[.ref b,.ref l])->(H b=some (.ins D dx []))->(LoreAt C A l N T H L)->(T b=none)->(l≠b)->(∀H' B T',Bt b H H'->(∀c i,T' c=some i->T c=some i\/H c=none)->LoreAt C A l N T' H' L->lP D B b l T' H' L.shapes StI.emp->Q .non H')->uf C D vs H Q
def AS(C D:Addr):Sp:=fun vs H Q _=>uf C D vs H Q
section
def Gg:bq xC xC (aK zm):=gU
def Eh(F:Fun K "__init__" "Still.__init__" zm f fd)(sc:uR K D):b_ P w K mg base fj 1 f fd xC (AS C D):=by
 refine F.o Gg fun cdv A0 outer s0 H vs Q E hr h=> ?_;obtain⟨b,dx,l,A,N,T,L,rfl,eb,la,tb,ne,q⟩:=h;refine⟨_,a_ (dJ aB bp rfl) (a_ (dJ aB (bR cu) rfl) (a_ (dJ aB (bR cu) rfl) (a_ (dJ aB kA rfl) (a_ (dJ aB cL rfl) (a_ (dJ aB cL rfl) (a_ (dJ aB cL rfl) (a_ (dJ aB kA rfl) (a_ (dJ aB kA rfl) (a_ (dJ aB kA rfl) (bb (dJ aB cL rfl))))))))))),?_⟩;refine⟨b,D,dx,_,rfl,eb,sc.c,sc.m0,by show 0<1000;decide,?_⟩;have y0:jo "lore" (V.ref l) ([]:List (Str × V))=[(("lore":Str),V.ref l)]:=rfl;rw[y0];have i0:Ini H (upd H b (.ins D dx [(("lore":Str),V.ref l)])) D b dx [(("lore":Str),V.ref l)] []:=⟨aa,fun q hq=>(ak hq).elim,.nil,fun q hq=>(ak hq).elim,fun c o e n=>by rw[aD n];exact e⟩;generalize upd H b (.ins D dx [(("lore":Str),V.ref l)])=H0 at i0⊢;refine i0.lst sc.c sc.m1 rfl rfl rfl fun q0 H1 i1=> ?_;refine i1.lst sc.c sc.m2 rfl rfl rfl fun q1 H2 i2=> ?_;refine i2.dT sc.c sc.m3 rfl rfl rfl fun q2 H3 i3=> ?_;refine i3.dK sc.c sc.m4 rfl rfl rfl fun q3 H4 i4=> ?_;refine i4.dK sc.c sc.m5 rfl rfl rfl fun q4 H5 i5=> ?_;refine i5.dK sc.c sc.m6 rfl rfl rfl fun q5 H6 i6=> ?_;refine i6.dT sc.c sc.m7 rfl rfl rfl fun q6 H7 i7=> ?_;refine i7.dT sc.c sc.m8 rfl rfl rfl fun q7 H8 i8=> ?_;refine i8.dT sc.c sc.m9 rfl rfl rfl fun q8 H9 i9=> ?_;refine Na (i9.dK sc.c sc.m10 rfl rfl rfl fun q9 H10 i10=> ?_);clear i0 i1 i2 i3 i4 i5 i6 i7 i8 i9
 let qs:List Addr:=[q0,q1,q2,q3,q4,q5,q6,q7,q8,q9]
 let cs:List (Addr × HO):=[(q0,.lst []),(q1,.lst []),(q2,.dT []),(q3,.dK []),(q4,.dK []),(q5,.dK []),(q6,.dT []),(q7,.dT []),(q8,.dT []),(q9,.dK [])]
 have mp:∀c∈qs,∃o,(c,o)∈cs:=fun c hc=>by
  have:qs=cs.map (·.1):=rfl;rw[this] at hc;obtain⟨⟨c',o⟩,h,rfl⟩:=bS.mp hc;exact⟨o,h⟩
 have nw:∀c∈qs,H c=none/\c≠b/\T c=none:=fun c hc=>by
  obtain⟨o,ho⟩:=mp c hc;have:=i10.new _ ho;refine⟨this.1,this.2,?_⟩;cases z:T c with
  | none=>rfl
  | some i=>exact absurd this.1 (la.tg c i z)
 have nd:qs.Nodup:=i10.nd;have ct:∀{i:Nat} {c:Addr} {o:HO},cs[i]? =some (c,o)->H10 c=some o/\wG 13 qs c=some (13+i,none):=fun {i c o} h=>by
  refine⟨i10.at' _ (ar h),Ds nd ?_⟩;have:=congrArg (Option.map (·.1)) h;rw[<-aQ] at this;exact this
 let T':Tg:=fun c=>(wG 13 qs c).or (T c)
 have tq:∀{i:Nat} {c:Addr} {o:HO},cs[i]? =some (c,o)->T' c=some (13+i,none)/\H10 c=some o:=fun {i c o} h=>by
  have:=ct h;refine⟨?_,this.1⟩;show(wG 13 _ c).or (T c)=_;rw[this.2];rfl
 have tT:∀c i,T c=some i->T' c=some i:=fun c i h=>by
  show(wG 13 _ c).or (T c)=_;cases z:wG 13 qs c with
  | none=>rw[h];rfl
  | some j=>rw[(nw c (uX z)).2.2] at h;cases h
 have tN:∀c i,T' c=some i->T c=some i\/(c∈qs/\i.1∈fg):=fun c i h=>by
  have h':(wG 13 qs c).or (T c)=some i:=h;cases z:wG 13 qs c with
  | none=>rw[z] at h';exact .inl h'
  | some j=>
    rw[z] at h';obtain rfl:j=i:=by simpa using h'
    refine .inr ⟨uX z,?_⟩;unfold wG at z
    split at z
    · rename_i lt;simp only[mX] at z;rw[<-z];generalize List.idxOf c qs=m at lt;have lt':m<10:=lt;show 13+m∈fg;have:∀m:Fin 10,13+m.val∈fg:=by decide
      exact this ⟨m,lt'⟩
    · cases z
 obtain⟨Hn,hHn⟩:∃Hn,Hn=upd H b (.ins D dx [("lore",V.ref l),("steps",V.ref q0),(("facts":Str),V.ref q1),(("places":Str),V.ref q2),(("stand_ins":Str),V.ref q3),(("kinds_of":Str),V.ref q4),(("those_of":Str),V.ref q5),(("fillers_of":Str),V.ref q6),(("ends":Str),V.ref q7),(("starts":Str),V.ref q8),(("ties":Str),V.ref q9)]):=⟨_,rfl⟩;have z:Bt b H (Hn):=fun c o e n=>by rw[hHn,aD n];exact e
 have t:Tups H (Hn):=fun c xs e=>z c _ e (fun n=>by rw[n,eb] at e;cases e);have l1:=la.bt z t tb ne (fun c i h=>by
  by_cases n:c=b
  · rw[hHn,n,aa];intro z;cases z
  · rw[hHn,aD n];exact la.tg c i h)
 have keep:∀c o,Hn c=some o->H10 c=some o:=fun c o e=>by
  by_cases n:c=b
  · rw[hHn,n,aa] at e;rw[n,<-e];exact i10.ob
  · rw[hHn,aD n] at e;exact i10.old c o e n
 have there:∀c,Hn c≠none->H10 c≠none:=fun c h=>by
  cases e:Hn c with
  | none=>exact absurd e h
  | some o=>
    rw[keep c o e];intro z;cases z
 have fr:Fr fg T T' (Hn) H10:=⟨fun c o e _=>keep c o e,fun c xs e=>keep c _ e,there,tT,fun c i h=>by
  rcases tN c i h with h | ⟨h1,h2⟩
  · exact .inl h
  · exact .inr ⟨by rw[hHn,aD (nw c h1).2.1];exact(nw c h1).1,h2⟩⟩
 have tg:TgOk T' H10:=fun c i h=>by
  rcases tN c i h with h | ⟨h1,h2⟩
  · exact fr.there c (l1.tg c i h)
  · obtain⟨o,ho⟩:=mp c h1;rw[i10.at' _ ho];intro z;cases z
 refine q H10 ⟨dx,q0,q1,q2,q3,q4,q5,q6,q7,q8,q9⟩ T' (fun c o e n=>i10.old c o e n) (fun c i h=>(tN c i h).imp id fun h=>(nw c h.1).1) (l1.fr fr J6 tg) ?_;refine⟨tg,?_,i10.ob,⟨(tq (i:=0) rfl).1,[],(tq (i:=0) rfl).2,.nil⟩,FLs.nil (tq (i:=1) rfl).1 (tq (i:=1) rfl).2,FT.nil OH (tq (i:=2) rfl).1 (tq (i:=2) rfl).2,FK.nil Ob (tq (i:=3) rfl).1 (tq (i:=3) rfl).2,FK.nil OM (tq (i:=4) rfl).1 (tq (i:=4) rfl).2,FK.nil Nz (tq (i:=5) rfl).1 (tq (i:=5) rfl).2,FT.nil (Ny fun _ _=>rfl) (tq (i:=6) rfl).1 (tq (i:=6) rfl).2,FT.nil (Ny fun _ _=>rfl) (tq (i:=7) rfl).1 (tq (i:=7) rfl).2,FT.nil (Ny fun _ _=>rfl) (tq (i:=8) rfl).1 (tq (i:=8) rfl).2,(tq (i:=9) rfl).1,(tq (i:=9) rfl).2,ay _⟩;cases h:T' b with
 | none=>rfl
 | some i=>
   rcases tN b i h with h | ⟨h1,_⟩
   · rw[tb] at h;cases h
   · exact absurd rfl (nw b h1).2.1
end
def AV:Sp:=fun _ _ _ _=>False
structure FB(ts:List Str)(ps:List (Int × Sy))(ks fs:List Kd)(Tn:List Str)(S':StI):Prop where
 tn:∀x,x∈Tn↔x∈cK ps
 ok:(cz ks Tn ps (LoI.of ps fs,StI.emp)).1.Ok
 wd:(cz ks Tn ps (LoI.of ps fs,StI.emp)).1.Wd ts
 w0:Wf (cz ks Tn ps (LoI.of ps fs,StI.emp)).1.parts.length ts (cz ks Tn ps (LoI.of ps fs,StI.emp)).2
 wf:Wf (cz ks Tn ps (LoI.of ps fs,StI.emp)).1.parts.length ts S'
 sl:S'.steps.length=S'.facts.length
 cb:gW (cz ks Tn ps (LoI.of ps fs,StI.emp)).1.parts.length ts<=9800000
 rch:∃i,Ks (cz ks Tn ps (LoI.of ps fs,StI.emp)).1 (cz ks Tn ps (LoI.of ps fs,StI.emp)).2 i S'/\S'.facts.length<=i
inductive ub(d:Nat)(vs:List V)(H:Hp)(Q:VK):Prop
 | mk:∀M ts lp ls lf ys zs us ps ks fs,(vs=[.ref lp,.ref ls,.ref lf,.non])->(H lp=some (.lst ys))->(PrL H ys ps)->(H ls=some (.lst zs))->(KL H zs ks)->(H lf=some (.lst us))->(KL H us fs)->((∀q∈ps,q.2.okS/\q.2.gd d/\q.2.tsOk ts))->((∀k∈ks,vQ d k/\∀r∈Kd.tieL k,r∈ts))->((∀k∈fs,vQ d k))->(ps.length<=100)->(2+iC ps+jm fs<=40000)->(2+iC ps+jm fs+gO ks+3 * ps.length+jg ps<=50000)->((LoI.of ps fs).parts.length+gO ks+3 * ps.length+jg ps<=M)->(gW M ts<=9800000)->((LoI.of ps fs).Wd ts)->(2<=(LoI.of ps fs).parts.length)->(∀H' q vs T Tn S',Same H H'->H q=none->H' q=some (.lst vs)->Paired (IsSt T H') vs S'.steps->(∀c j,T c=some j->H c=none)->FB ts ps ks fs Tn S'->Q (.ref q) H')->ub d vs H Q
def AN(d:Nat):Sp:=fun vs H Q _=>ub d vs H Q
section
def scStill:bq ["pairs","starts","further","steps","found"] Bv (aK zi):=gU
def Ee{P:Program}{w:World}{K:Frag}{mg:Str->Option Value}{base:Heap}{f C D:Addr}{fd:FuncData}{d:Nat}(hd:d<=29){dV:Value}(F:FunD K "still" "still" zi dV f fd)(sc:uR K D)(Gsi:Il P w K mg base D 1 "Still" xC (AS C D))(Gto:Ml P w K mg base D 1 "take_over" Bq AV)(Gbe:Ml P w K mg base D 64 "begin" Br (Be C D d))(Ggo:Ml P w K mg base D 8 "go_on" nI (Dz C D))(Glo:Cl P w K mg base (2 * d+4) "lore_of" Bw (xf C d)):b_ P w K mg base fj 65 f fd Bv (AN d):=by
 refine F.ok scStill (fun vs H Q E h=>by cases h;subst_vars;rfl) fun cdv A0 outer s0 H vs Q E hr h=> ?_;obtain⟨M,ts,lp,ls,lf,ys,zs,us,ps,ks,fs,rfl,elp,hps,els,hks,elf,hfs,gp,gk,gf,l100,c1,c2,hM,bd,wd,p2,q⟩:=h;have hu:=gA hr;refine⟨_,a_ (fe 4 scStill.nd (OG Gsi hr (eF (eB Glo hr (fb aB bF)))))
  (a_ (bu (dC jO bU dN) (bb (bg (iw bX sc.c Gto hr (eF bU)))) aX)
  (a_ (bg (iw bX sc.c Gbe hr (fb aB bp)))
  (a_ (bg (Nq bX sc.c Ggo hr))
  (bb (cE (du bX)))))),?_⟩
 refine⟨lp,lf,ys,us,ps,fs,rfl,elp,hps,elf,hfs,fun q hq=>(gp q hq).2.1,gf,c1,fun H1 l A T1 s1 tn1 hl la ex=> ?_⟩;refine fun b dx hb hdx ne=> ?_;have y1:Same H1 (upd (upd H1 dx (.own b)) b (.ins D dx [])):=fun c o e=>by
  rw[aD (ba e hb),aD (ba e hdx)];exact e
 have lb:l≠b:=fun z=>by have:=la.ob;rw[z,hb] at this;cases this
 refine⟨b,dx,l,A,_,T1,_,rfl,aa,la.same y1,la.tg.free hb,lb,fun H2 B T2 bt tn2 la2 sa2=>⟨rfl,?_⟩⟩;have s2:Same H H2:=fun c o e=>bt c o (y1 c o (s1 c o e)) (ba (s1 c o e) hb);have t2:∀c i,T2 c=some i->H c=none:=fun c i h=>by
  rcases tn2 c i h with h | h
  · exact tn1 c i h
  · cases e:H c with
    | none=>rfl
    | some o=>rw[y1 c o (s1 c o e)] at h;cases h
 have okL:(LoI.of ps fs).Ok:=jT (fun L q o=>LoI.kk_ok _ o) _ (jT (fun L q o=>LoI.learn_ok _ _ o) _ LoI.init_ok);have ew2:Ew C D B A b l (2+iC ps+jm fs) T2 H2 (LoI.of ps fs) ts StI.emp:=⟨⟨sa2,la2,okL,ex,by lia,rfl,p2⟩,⟨.nil,fun f h=>(ak h).elim,.nil,fun f h=>(ak h).elim,fun f h=>(ak h).elim,fun _ _ _ h=>(ak h).elim⟩,wd,aq (sV (by lia)) bd⟩;have un:∀{c:Addr} {o:HO},H c=some o->T2 c=none:=fun {c o} e=>by
  cases z:T2 c with
  | none=>rfl
  | some i=>rw[t2 c i z] at e;cases e
 refine gn ?_;refine⟨rfl,?_⟩;refine⟨_,_,sa2.ob,DG B l,?_⟩;refine⟨b,l,B,A,_,M,T2,_,ts,StI.emp,lp,ls,ys,zs,ps,ks,rfl,ew2,s2 _ _ elp,un elp,PrL.mono s2.tups hps,s2 _ _ els,KL.mono s2.tups hks,gp,gk,l100,c2,hM,bd,fun H3 T3 Tn N' f3 hTn ew3=> ?_⟩;refine⟨_,_,ew3.ev.sa.ob,DF B l,?_⟩;refine⟨b,l,B,A,N',T3,_,ts,_,rfl,ew3,fun H4 T4 S4 i f4 ew4 rc hi=> ?_⟩;obtain⟨t0,vs,e0,rv⟩:=id ew4.ev.sa.s0;have s4:∀{c:Addr} {o:HO},H c=some o->T4 c=none/\H4 c=some o:=fun {c o} e=>by
  obtain⟨u1,u2⟩:=Fr.free f3 (s2 c o e) (un e);exact Fr.free f4 u2 u1
 have t4:∀c j,T4 c=some j->H c=none:=fun c j h=>by
  cases e:H c with
  | none=>rfl
  | some o=>rw[(s4 e).1] at h;cases h
 exact⟨D,_,_,_,ew4.ev.sa.ob,sc.c,sc.m1,Lb B l,q H4 B.q0 vs T4 Tn S4 (fun c o e=>(s4 e).2) (t4 _ _ t0) e0 rv t4 ⟨hTn,ew3.ev.ok,ew3.wd,ew3.wf,ew4.wf,ew4.ev.sl,ew3.bd,i,rc,hi⟩⟩
def Nb:bq ["self","steps","fact","rule","froms","number","step","x"] Bq (aK my):=gU
def Ei(F:Fun K "take_over" "Still.take_over" my f fd):b_ P w K mg base fj 1 f fd Bq AV:=F.ok Nb (fun _ _ _ _ h=>h.elim) (fun _ _ _ _ _ _ _ _ _ h=>h.elim)
end
noncomputable abbrev C9:Kd:= .nm "anything"
noncomputable abbrev gI:Kd:= .nm "nothing"
noncomputable def MA:Kd->List Str->Bool
 | .nm t,A=>decide (t∈A)
 | _,_=>false
noncomputable def E4(at':Int)(i:Int):Bool:=decide (0<=i)&&decide (i<at')
noncomputable def rZ(ps:List (Int × Sy))(n:Int):Option Sy:=ps.foldl (fun o q=>if q.1=n then some q.2 else o) none
noncomputable def fU(ss:List p_)(i:Int):Fa:=match ss[i.toNat]? with
 | some s=>s.f
 | none=> .is gI gI
noncomputable def fc(ps:List (Int × Sy)):Option Int->Option Sy
 | none=>none
 | some i=>rZ ps i
noncomputable def FQ(t:Str):Bool:=Txt.isupper (Txt.slice t none (some 1))
noncomputable def eS:Kd->Bool
 | .nm t=>FQ t
 | _=>false
noncomputable def kO(r:Ru)(f:Fa)(sy:Option Sy)(sg:List Str):Bool:=match sy with
 | none=>if r= .self then !eS f.x&&decide (f= .is f.x f.x) else if r= .all then decide (f= .is f.x C9)&&(!eS f.x || MA f.x sg) else false
 | some s=>if s.hd=r then(match s with | .thing x k=>decide (f= .is (.nm x) k) | .tied x t y=>decide (f= .has (.nm x) t (.nm y)) | _=>false) else false
noncomputable def iK(r:Ru)(f o:Fa):Option Sy->Bool
 | some (.every a b)=>if r= .every/\o= .is o.x a then decide (f= .is o.x b) else false
 | some (.within s t)=>(match o with | .has x u y=>if r= .within/\u=s then decide (f= .has x t y) else false | _=>false)
 | some _=>false
 | none=>(match o with
   | .is x (.som t k)=>decide (r= .some)&&decide (f= .has x t k)
   | .is x (.two a b)=>if r= .first then decide (f= .is x a) else decide (r= .second)&&decide (f= .is x b)
   | _=>false)
noncomputable def hX(r:Ru)(f o u:Fa)(sy:Option Sy):Bool:=match o with
 | .is x k=>(match u with
   | .has _ _ _=>false
   | .is z l=>if z=x then(match sy with
     | none=>decide (r= .both)&&decide (f= .is x (.two k l))
     | some s=>decide (r= .no)&&(decide (s= .no k l)&&decide (f= .is x gI))) else false)
 | .has x t y=>if u.x=y then(match sy with
   | some s=>(match u with
     | .is _ _=>false
     | .has _ t2 y2=>(match s with | .makes a b c=>if r= .makes/\a=t/\b=t2 then decide (f= .has x c y2) else false | _=>false))
   | none=>(match u with
     | .has _ _ _=>false
     | .is _ l=>if r= .tie then decide (f= .is x (.som t l)) else decide (r= .none)&&(decide (l=gI)&&decide (f= .is x gI)))) else false
noncomputable def yx(r:Ru)(f:Fa)(olds:List Fa)(sy:Option Sy)(sg:List Str):Bool:=match olds with
 | []=>kO r f sy sg
 | [o]=>iK r f o sy
 | [o,u]=>hX r f o u sy
 | _=>false
noncomputable def pY(r:Ru)(s:p_)(at':Nat)(ss:List p_)(ps:List (Int × Sy))(sg:List Str):Bool:=if s.fr.all (E4 at')=false then false else
 if s.n.isSome=true/\fc ps s.n=none then false else
 yx r s.f (s.fr.map (fU ss)) (fc ps s.n) sg
noncomputable def iB(L:LoI):Fi->Fa
 | .is x k=> .is (L.pt x) (L.pt k)
 | .has x t y=> .has (L.pt x) t (L.pt y)
noncomputable def Fi.sb:Fi->Nat
 | .is x _=>x
 | .has x _ _=>x
inductive Rc(rt:Nat->Prop)(F:List Fi):Nat->Prop where
 | root {i:Nat}:rt i->Rc rt F i
 | step {x y:Nat} {t:Str}:Rc rt F x->Fi.has x t y∈F->Rc rt F y
def Rc.mono{rt:Nat->Prop}{F F':List Fi}(h:∀f∈F,f∈F'){i:Nat}(r:Rc rt F i):Rc rt F' i:=by
 induction r with
 | root h'=>exact .root h'
 | step _ hf ih=>exact .step ih (h _ hf)
structure LoI.Tr(L:LoI)(ps:List (Int × Sy))(sg:List Str)(kn:Kd->Prop):Prop where
 p0:L.pt 0=C9
 p1:L.pt 1=gI
 sb:∀k i j,L.shapes[k]? =some (.both i j)->L.pt k= .two (L.pt i) (L.pt j)
 ss:∀k r j,L.shapes[k]? =some (.some r j)->L.pt k= .som r (L.pt j)
 ev:∀k e,e∈L.everys k->fc ps (some e.2)=some (.every (L.pt k) (L.pt e.1))
 no:∀k e,e∈L.nos k->fc ps (some e.2.1)=some (if e.2.2=true then .no (L.pt k) (L.pt e.1) else .no (L.pt e.1) (L.pt k))
 wi:∀r e,e∈L.withins r->fc ps (some e.2)=some (.within r e.1)
 m1:∀r e,e∈L.mk1 r->fc ps (some e.2.2)=some (.makes r e.1 e.2.1)
 m2:∀r e,e∈L.mk2 r->fc ps (some e.2.2)=some (.makes e.1 r e.2.1)
 bo:∀k e,e∈L.boths k->L.pt e.2.1=(if e.2.2=true then .two (L.pt k) (L.pt e.1) else .two (L.pt e.1) (L.pt k))/\kn (L.pt e.2.1)
 so:∀k e,e∈L.somes k->L.pt e.2= .som e.1 (L.pt k)/\kn (L.pt e.2)
 wh:∀r i k,L.wholes r i=some k->L.pt k= .som r (L.pt i)/\kn (L.pt k)
 st:∀k∈L.parts,jG k=eS k/\(eS k=true->MA k sg=true)
structure Ju(ps:List (Int × Sy))(sg:List Str)(kn:Kd->Prop)(ss:List p_)(r:Ru)(f:Fa)(fr:List Int)(nn:Option Int):Prop where
 no:r≠ .oth
 rg:fr.all (E4 (ss.length:Nat))=true
 nu:¬ (nn.isSome=true/\fc ps nn=none)
 fi:yx r f (fr.map (fU ss)) (fc ps nn) sg=true
 kn:r= .both\/r= .tie->∃x k,f= .is x k/\kn k
 le:fr.length<=2
structure Ax(ps:List (Int × Sy))(sg:List Str)(kn:Kd->Prop)(ss:List p_)(i:Nat)(s:p_):Prop where
 ex:∃r,r≠ .oth/\s.r=oH r/\pY r s i ss ps sg=true/\(r= .both\/r= .tie->∃x k,s.f= .is x k/\kn k)
 le:s.fr.length<=2
structure Sd(L:LoI)(ps:List (Int × Sy))(sg:List Str)(kn:Kd->Prop)(rt:Nat->Prop)(S:StI):Prop where
 rel:S.steps.map (·.f)=S.facts.map (iB L)
 fine:∀i s,S.steps[i]? =some s->Ax ps sg kn S.steps i s
 sub:∀f∈S.facts,f.sb∈S.stand
 rea:∀i∈S.stand,Rc rt S.facts i
 rg:∀x t y,Fi.has x t y∈S.facts->y<L.parts.length
def uJ(h:i<=ss.length):pY r s i (ss++l) ps sg=pY r s i ss ps sg:=by
 unfold pY;by_cases c:s.fr.all (E4 (i:Int))=false
 · rw[aH c,aH c]
 · rw[aE c,aE c];have e:s.fr.map (fU (ss++l))=s.fr.map (fU ss):=Oj fun z hz=>by
    have c':s.fr.all (E4 (i:Int))=true:=by simpa using c
    have:=dH.mp c' z hz;unfold E4 at this;rw[aO,bD,bD] at this;unfold fU;rw[bM (by lia)]
   rw[e]
section
def Sd.len(h:Sd L ps sg kn rt S):S.steps.length=S.facts.length:=by have:=congrArg List.length h.rel;simpa using this
def Sd.at{L:LoI}{ps:List (Int × Sy)}{sg:List Str}{kn:Kd->Prop}{rt:Nat->Prop}{S:StI}(h:Sd L ps sg kn rt S){i:Nat}{f:Fi}(e:S.facts[i]? =some f):fU S.steps (i:Int)=iB L f:=by
 have h1:=congrArg (fun l:List Fa=>l[i]?) h.rel;simp only[aQ,e,gm] at h1;obtain⟨s,hs,hf⟩:=bP.mp h1;unfold fU;rw[bW,hs];exact hf
def Sd.at_in{L:LoI}{ps:List (Int × Sy)}{sg:List Str}{kn:Kd->Prop}{rt:Nat->Prop}{S:StI}(h:Sd L ps sg kn rt S){i:Nat}{f:Fi}(e:S.facts[i]? =some f):E4 (S.steps.length:Nat) (i:Int)=true:=by
 have:=(aY.mp e).1;rw[<-h.len] at this;unfold E4;rw[aO,bD,bD]
 lia
def jl{F:List Fi}(h:f∈F):F[F.idxOf f]? =some f:=by
 have hl:=kY h;rw[aw hl,O1 hl]
def Sd.keep{L:LoI}{ps:List (Int × Sy)}{sg:List Str}{kn:Kd->Prop}{rt:Nat->Prop}{S:StI}(h:Sd L ps sg kn rt S){f:Fi}{r:Ru}{fr:List Int}{nn:Option Int}(j:Ju ps sg kn S.steps r (iB L f) fr nn)(hs:f.sb∈S.stand)(hr:∀x t y,f= .has x t y->y<L.parts.length):Sd L ps sg kn rt (S.keep f ⟨iB L f,oH r,fr,nn⟩):=by
 refine⟨?_,fun i s e=> ?_,fun g hg=> ?_,fun i hi=>(h.rea i hi).mono fun g hg=>aP _ hg,fun x t y hg=> ?_⟩
 · show(S.steps++[_]).map _=(S.facts++[f]).map _;rw[bj,bj,h.rel];rfl
 · have e':(S.steps++[⟨iB L f,oH r,fr,nn⟩])[i]? =some s:=e;show Ax ps sg kn (S.steps++[_]) i s;rcases eR i S.steps.length with c | c
   · rw[bM c] at e';obtain⟨⟨q,q1,q2,q3,q4⟩,q5⟩:=h.fine i s e';exact⟨⟨q,q1,q2,by rw[uJ (fw c)];exact q3,q4⟩,q5⟩
   · have hl:=(aY.mp e').1;rw[ag,MI] at hl;obtain rfl:i=S.steps.length:=by lia
     rw[cy (au _),Nat.sub_self] at e';obtain rfl:_=s:=by simpa using e'
     refine⟨⟨r,j.no,rfl,?_,j.kn⟩,j.le⟩;rw[uJ (au _)];unfold pY;rw[aE (by rw[j.rg];decide),aE j.nu];exact j.fi
 · rcases av.mp hg with hg | hg
   · exact h.sub g hg
   · rw[af.mp hg];exact hs
 · rcases av.mp hg with hg | hg
   · exact h.rg x t y hg
   · exact hr x t y (af.mp hg).symm
def Sd.tellIs{L:LoI}{ps:List (Int × Sy)}{sg:List Str}{kn:Kd->Prop}{rt:Nat->Prop}{S:StI}(h:Sd L ps sg kn rt S){x k:Nat}{r:Ru}{fr:List Int}{nn:Option Int}(hx:x∈S.stand)(j:Ju ps sg kn S.steps r (.is (L.pt x) (L.pt k)) fr nn){z:Str}(e:z=oH r):Sd L ps sg kn rt (StI.tellIs L S x k z fr nn):=by
 subst e;unfold StI.tellIs
 split
 · exact h
 · exact h.keep (f:= .is x k) j hx (fun _ _ _ z=>by cases z)
def Sd.addS{L:LoI}{ps:List (Int × Sy)}{sg:List Str}{kn:Kd->Prop}{rt:Nat->Prop}{S:StI}(h:Sd L ps sg kn rt S){x:Nat}(r:Rc rt S.facts x):Sd L ps sg kn rt (S.addS x):=⟨h.rel,h.fine,fun f hf=>aP _ (h.sub f hf),fun i hi=>by
 rcases av.mp hi with hi | hi
 · exact h.rea i hi
 · rw[af.mp hi];exact r,h.rg⟩
def mE{L:LoI}(h:i<L.parts.length):L.pt i∈L.parts:=ar (LoI.pt_get h)
def FR:¬ ((none:Option Int).isSome=true/\fc ps none=none):=fun z=>by cases z.1
def Ii(h:fc ps (some n)=some s):¬ ((some n:Option Int).isSome=true/\fc ps (some n)=none):=fun z=>by rw[h] at z;cases z.2
def FS{kn:Kd->Prop}{r:Ru}{f:Fa}(h:r≠ .both/\r≠ .tie):r= .both\/r= .tie->∃x k,f= .is x k/\kn k:=fun z=>z.elim (fun e=>(h.1 e).elim) fun e=>(h.2 e).elim
def Sd.letStand{L:LoI}{ps:List (Int × Sy)}{sg:List Str}{kn:Kd->Prop}{rt:Nat->Prop}{S:StI}(t:L.Tr ps sg kn)(h:Sd L ps sg kn rt S){x:Nat}(hx:x<L.parts.length)(r:Rc rt S.facts x):Sd L ps sg kn rt (StI.letStand L S x):=by
 obtain⟨s1,s2⟩:=t.st _ (mE hx);have ja:∀ss,Ju ps sg kn ss .all (.is (L.pt x) (L.pt 0)) [] none:=fun ss=>⟨by decide,rfl,FR,by
  show kO .all (.is (L.pt x) (L.pt 0)) none sg=true;rw[t.p0];show(decide (Fa.is (L.pt x) C9= .is (L.pt x) C9)&&(!eS (L.pt x) || MA (L.pt x) sg))=true;rw[ao rfl,Bool.true_and];cases c:eS (L.pt x) with
  | false=>rfl
  | true=>rw[s2 c];rfl,FS (by decide),ay _⟩
 unfold StI.letStand
 split
 · exact h
 · have h1:=h.addS r;have m1:x∈(S.addS x).stand:=aN _ (af.mpr rfl)
   split
   · exact h1.tellIs m1 (ja _) rfl
   · rename_i c;have c':eS (L.pt x)=false:=by rw[<-s1];simpa using c
     have js:Ju ps sg kn (S.addS x).steps .self (.is (L.pt x) (L.pt x)) [] none:=⟨by decide,rfl,FR,by
      show(!eS (L.pt x)&&decide (Fa.is (L.pt x) (L.pt x)= .is (L.pt x) (L.pt x)))=true;rw[c',ao rfl];rfl,FS (by decide),ay _⟩
     refine(h1.tellIs m1 js (z:="self") rfl).tellIs ?_ (ja _) rfl;rw[(dE L (S.addS x) x x "self" [] none).2.1];exact m1
def Sd.tellHas{L:LoI}{ps:List (Int × Sy)}{sg:List Str}{kn:Kd->Prop}{rt:Nat->Prop}{S:StI}(t':L.Tr ps sg kn)(h:Sd L ps sg kn rt S){x y:Nat}{t:Str}{r:Ru}{fr:List Int}{nn:Option Int}(hx:x∈S.stand)(hy:y<L.parts.length)(j:Ju ps sg kn S.steps r (.has (L.pt x) t (L.pt y)) fr nn){z:Str}(e:z=oH r):Sd L ps sg kn rt (StI.tellHas L S x t y z fr nn):=by
 subst e;unfold StI.tellHas
 split
 · exact h
 · exact Sd.letStand t' (h.keep (f:= .has x t y) j hx (fun _ _ _ z=>by cases z;exact hy)) hy (.step ((h.rea x hx).mono fun g hg=>aP _ hg) (aN _ (af.mpr rfl)))
end
structure Le(S S':StI):Prop where
 fa:∀(i:Nat) (f:Fi),S.facts[i]? =some f->S'.facts[i]? =some f
 st:∀x∈S.stand,x∈S'.stand
def Le.refl(S:StI):Le S S:=⟨fun _ _ h=>h,fun _ h=>h⟩
def Le.trans(a:Le S S')(b:Le S' S''):Le S S'':=⟨fun i f h=>b.fa i f (a.fa i f h),fun x h=>b.st x (a.st x h)⟩
def Le.mem{S S':StI}(a:Le S S'){f:Fi}(h:f∈S.facts):f∈S'.facts:=ar (a.fa _ _ (jl h))
def Le.keep(S:StI)(f:Fi)(s:p_):Le S (S.keep f s):=⟨fun i g h=>by
 show(S.facts++[f])[i]? =_;rw[bM (aY.mp h).1];exact h,fun _ h=>h⟩
def Le.tellIs(L:LoI)(S:StI)(x k:Nat)(r:Str)(fr:List Int)(nn:Option Int):Le S (StI.tellIs L S x k r fr nn):=by
 unfold StI.tellIs
 split
 · exact .refl S
 · exact .keep S _ _
def Le.letStand(L:LoI)(S:StI)(x:Nat):Le S (StI.letStand L S x):=by
 unfold StI.letStand
 split
 · exact .refl S
 · have a:Le S (S.addS x):=⟨fun _ _ h=>h,fun _ h=>aP _ h⟩;refine Le.trans ?_ (.tellIs L _ x 0 "all" [] none)
   split
   · exact a
   · exact a.trans (.tellIs L _ x x "self" [] none)
def Le.tellHas(L:LoI)(S:StI)(x:Nat)(t:Str)(y:Nat)(r:Str)(fr:List Int)(nn:Option Int):Le S (StI.tellHas L S x t y r fr nn):=by
 unfold StI.tellHas
 split
 · exact .refl S
 · exact(Le.keep S _ _).trans (.letStand L _ y)
theorem eM{α:Type}{P:StI->Prop}{g:StI->α->StI}:∀{l:List α} {S:StI},P S->(∀S,∀e∈l,P S->P (g S e))->P (l.foldl g S)
 | [],_,h,_=>h
 | e::l,S,h,hg=>eM (l:=l) (hg S e aZ h) fun S e' he=>hg S e' (aG _ he)
section
variable {L:LoI}{ps:List (Int × Sy)}{sg:List Str}{kn:Kd->Prop}{rt:Nat->Prop}{S:StI}{ts:List Str}
structure Gr(L:LoI)(ps:List (Int × Sy))(sg:List Str)(kn:Kd->Prop)(rt:Nat->Prop)(S0 S:StI):Prop where
 sd:Sd L ps sg kn rt S
 le:Le S0 S
theorem Gr.tellIs{S0:StI}(h:Gr L ps sg kn rt S0 S){x k:Nat}{r:Ru}{fr:List Int}{nn:Option Int}(hx:x∈S.stand)(j:Ju ps sg kn S.steps r (.is (L.pt x) (L.pt k)) fr nn){z:Str}(e:z=oH r):Gr L ps sg kn rt S0 (StI.tellIs L S x k z fr nn):=⟨h.sd.tellIs hx j e,h.le.trans (.tellIs ..)⟩
theorem Gr.tellHas(t':L.Tr ps sg kn){S0:StI}(h:Gr L ps sg kn rt S0 S){x y:Nat}{t:Str}{r:Ru}{fr:List Int}{nn:Option Int}(hx:x∈S.stand)(hy:y<L.parts.length)(j:Ju ps sg kn S.steps r (.has (L.pt x) t (L.pt y)) fr nn){z:Str}(e:z=oH r):Gr L ps sg kn rt S0 (StI.tellHas L S x t y z fr nn):=⟨h.sd.tellHas t' hx hy j e,h.le.trans (.tellHas ..)⟩
theorem LU(h:Sd L ps sg kn rt S){i:Nat}{o:Fi}(e:S.facts[i]? =some o){r:Ru}{f:Fa}{nn:Option Int}(hr:r≠ .oth/\r≠ .both/\r≠ .tie)(nu:¬ (nn.isSome=true/\fc ps nn=none))(fi:iK r f (iB L o) (fc ps nn)=true):Ju ps sg kn S.steps r f [(i:Int)] nn:=by
 refine⟨hr.1,?_,nu,?_,FS hr.2,by show 1<=2;decide⟩
 · show(E4 _ (i:Int)&&true)=true;rw[h.at_in e];rfl
 · show yx r f [fU S.steps (i:Int)] (fc ps nn) sg=true;rw[h.at e];exact fi
theorem Hc(h:Sd L ps sg kn rt S){i j:Nat}{o u:Fi}(e:S.facts[i]? =some o)(e':S.facts[j]? =some u){r:Ru}{f:Fa}{nn:Option Int}(hr:r≠ .oth)(hk:r= .both\/r= .tie->∃x k,f= .is x k/\kn k)(nu:¬ (nn.isSome=true/\fc ps nn=none))(fi:hX r f (iB L o) (iB L u) (fc ps nn)=true):Ju ps sg kn S.steps r f [(i:Int),(j:Int)] nn:=by
 refine⟨hr,?_,nu,?_,hk,by show 2<=2;decide⟩
 · show(E4 _ (i:Int)&&(E4 _ (j:Int)&&true))=true;rw[h.at_in e,h.at_in e'];rfl
 · show yx r f [fU S.steps (i:Int),fU S.steps (j:Int)] (fc ps nn) sg=true;rw[h.at e,h.at e'];exact fi
variable (t':L.Tr ps sg kn)(w:L.Wd ts)(o:L.Ok)
include t' w o
theorem Hi{S0:StI}{i x k:Nat}(e0:S0.facts[i]? =some (.is x k))(h:Sd L ps sg kn rt S0):Gr L ps sg kn rt S0 (StI.fromKind L S0 i x k):=by
 have hx:x∈S0.stand:=h.sub _ (ar e0);have g1:Gr L ps sg kn rt S0 ((L.everys k).foldl (fun S e=>StI.tellIs L S x e.1 "every" [(i:Int)] (some e.2)) S0):=by
  refine eM (P:=Gr L ps sg kn rt S0) ⟨h,.refl S0⟩ fun S e he g=> ?_;have so:=t'.ev k e he;refine g.tellIs (r:= .every) (g.le.st _ hx) (LU g.sd (g.le.fa _ _ e0) (by decide) (Ii so) ?_) rfl;rw[so];show(if Ru.every= .every/\Fa.is (L.pt x) (L.pt k)= .is (L.pt x) (L.pt k) then decide (Fa.is (L.pt x) (L.pt e.1)= .is (L.pt x) (L.pt e.1)) else false)=true;rw[aH ⟨rfl,rfl⟩,ao rfl]
 unfold StI.fromKind;dsimp only
 split
 · rename_i a c hs;have e:=t'.sb _ _ _ hs;have g2:=g1.tellIs (k:=a) (r:= .first) (nn:=none) (z:="first") (g1.le.st _ hx) (LU g1.sd (g1.le.fa _ _ e0) (by decide) FR (by
    show iK .first _ (.is (L.pt x) (L.pt k)) none=true
    rw[e];show decide (Fa.is (L.pt x) (L.pt a)= .is (L.pt x) (L.pt a))=true;exact ao rfl)) rfl
   exact g2.tellIs (k:=c) (r:= .second) (nn:=none) (z:="second") (g2.le.st _ hx) (LU g2.sd (g2.le.fa _ _ e0) (by decide) FR (by
    show iK .second _ (.is (L.pt x) (L.pt k)) none=true;rw[e];show decide (Fa.is (L.pt x) (L.pt c)= .is (L.pt x) (L.pt c))=true;exact ao rfl)) rfl
 · rename_i a c hs;have e:=t'.ss _ _ _ hs;exact g1.tellHas t' (t:=a) (y:=c) (r:= .some) (nn:=none) (z:="some") (g1.le.st _ hx) (o.lt _ _ hs) (LU g1.sd (g1.le.fa _ _ e0) (by decide) FR (by
    show iK .some _ (.is (L.pt x) (L.pt k)) none=true;rw[e];show(decide (Ru.some= .some)&&decide (Fa.has (L.pt x) a (L.pt c)= .has (L.pt x) a (L.pt c)))=true;rw[ao rfl,ao rfl];rfl)) rfl
 · exact g1
theorem E7{S0:StI}{i x k:Nat}(e0:S0.facts[i]? =some (.is x k))(h:Sd L ps sg kn rt S0):Gr L ps sg kn rt S0 (StI.fromPairs L S0 i x k):=by
 have hx:x∈S0.stand:=h.sub _ (ar e0);unfold StI.fromPairs;refine eM (P:=Gr L ps sg kn rt S0) (eM (P:=Gr L ps sg kn rt S0) ⟨h,.refl S0⟩ fun S e he g=> ?_) fun S e he g=> ?_
 · unfold StI.byNo
   split
   · rename_i hf;have so:=t'.no k e he;have ei:=jl hf;cases c:e.2.2 with
     | true=>
       rw[c,aH rfl] at so;refine g.tellIs (k:=1) (r:= .no) (g.le.st _ hx) (Hc g.sd (g.le.fa _ _ e0) ei (by decide) (FS (by decide)) (Ii so) ?_) rfl;rw[so];show(if L.pt x=L.pt x then(decide (Ru.no= .no)&&(decide (Sy.no (L.pt k) (L.pt e.1)= .no (L.pt k) (L.pt e.1))&&decide (Fa.is (L.pt x) (L.pt 1)= .is (L.pt x) gI))) else false)=true;rw[aH rfl,t'.p1,ao rfl,ao rfl,ao rfl];rfl
     | false=>
       rw[c,aE (by decide)] at so;refine g.tellIs (k:=1) (r:= .no) (g.le.st _ hx) (Hc g.sd ei (g.le.fa _ _ e0) (by decide) (FS (by decide)) (Ii so) ?_) rfl;rw[so];show(if L.pt x=L.pt x then(decide (Ru.no= .no)&&(decide (Sy.no (L.pt e.1) (L.pt k)= .no (L.pt e.1) (L.pt k))&&decide (Fa.is (L.pt x) (L.pt 1)= .is (L.pt x) gI))) else false)=true;rw[aH rfl,t'.p1,ao rfl,ao rfl,ao rfl];rfl
   · exact g
 · unfold StI.byBoth
   split
   · rename_i hf;obtain⟨so,kw⟩:=t'.bo k e he;have ei:=jl hf;cases c:e.2.2 with
     | true=>
       rw[c,aH rfl] at so;refine g.tellIs (k:=e.2.1) (r:= .both) (g.le.st _ hx) (Hc g.sd (g.le.fa _ _ e0) ei (by decide) (fun _=>⟨_,_,rfl,kw⟩) FR ?_) rfl;show(if L.pt x=L.pt x then(decide (Ru.both= .both)&&decide (Fa.is (L.pt x) (L.pt e.2.1)= .is (L.pt x) (.two (L.pt k) (L.pt e.1)))) else false)=true;rw[aH rfl,so,ao rfl,ao rfl];rfl
     | false=>
       rw[c,aE (by decide)] at so;refine g.tellIs (k:=e.2.1) (r:= .both) (g.le.st _ hx) (Hc g.sd ei (g.le.fa _ _ e0) (by decide) (fun _=>⟨_,_,rfl,kw⟩) FR ?_) rfl;show(if L.pt x=L.pt x then(decide (Ru.both= .both)&&decide (Fa.is (L.pt x) (L.pt e.2.1)= .is (L.pt x) (.two (L.pt e.1) (L.pt k)))) else false)=true;rw[aH rfl,so,ao rfl,ao rfl];rfl
   · exact g
end
section
variable {L:LoI}{ps:List (Int × Sy)}{sg:List Str}{kn:Kd->Prop}{rt:Nat->Prop}{S:StI}{ts:List Str}
theorem AB{X Y K:Kd}{t:Str}:hX .tie (.is X (.som t K)) (.has X t Y) (.is Y K) none=true:=by
 show(if Y=Y then(if Ru.tie= .tie then decide (Fa.is X (.som t K)= .is X (.som t K)) else _) else false)=true;rw[aH rfl,aH rfl,ao rfl]
theorem wN{X Y:Kd}{t:Str}:hX .none (.is X gI) (.has X t Y) (.is Y gI) none=true:=by
 show(if Y=Y then(if Ru.none= .tie then _ else decide (Ru.none= .none)&&(decide (gI=gI)&&decide (Fa.is X gI= .is X gI))) else false)=true;rw[aH rfl,aE (by decide),ao rfl,ao rfl,ao rfl];rfl
theorem tX{X Y Z:Kd}{a b c:Str}:hX .makes (.has X c Z) (.has X a Y) (.has Y b Z) (some (.makes a b c))=true:=by
 show(if Y=Y then(if Ru.makes= .makes/\a=a/\b=b then decide (Fa.has X c Z= .has X c Z) else false) else false)=true;rw[aH rfl,aH ⟨rfl,rfl,rfl⟩,ao rfl]
theorem zM{X Y:Kd}{s t:Str}:iK .within (.has X t Y) (.has X s Y) (some (.within s t))=true:=by
 show(if Ru.within= .within/\s=s then decide (Fa.has X t Y= .has X t Y) else false)=true;rw[aH ⟨rfl,rfl⟩,ao rfl]
theorem yp{S0 S1:StI}(g:Gr L ps sg kn rt S0 S1){i y k k2:Nat}{t:Str}{r:Ru}(e0:S0.facts[i]? =some (.is y k))(hr:r≠ .oth)(hf:∀X,hX r (.is X (L.pt k2)) (.has X t (L.pt y)) (.is (L.pt y) (L.pt k)) none=true)(hk:r= .both\/r= .tie->kn (L.pt k2)){z:Str}(ez:z=oH r):Gr L ps sg kn rt S0 (StI.byEnd L i y z S1 t k2):=by
 unfold StI.byEnd;refine(eM (P:=fun S=>Gr L ps sg kn rt S0 S/\Le S1 S) ⟨g,.refl S1⟩ fun S x hx ⟨g,l⟩=> ?_).1;have m1:=l.mem (sF hx);unfold StI.byTie;exact⟨g.tellIs (g.sd.sub _ m1) (Hc g.sd (jl m1) (g.le.fa _ _ e0) hr (fun c=>⟨_,_,rfl,hk c⟩) FR (hf _)) ez,l.trans (.tellIs ..)⟩
variable (t':L.Tr ps sg kn)(w:L.Wd ts)(o:L.Ok)
include t' w o
theorem J4{S0:StI}{i y k:Nat}(e0:S0.facts[i]? =some (.is y k))(h:Sd L ps sg kn rt S0):Gr L ps sg kn rt S0 (StI.fromEnd L S0 i y k):=by
 have g1:Gr L ps sg kn rt S0 ((L.somes k).foldl (fun S e=>StI.byEnd L i y "tie" S e.1 e.2) S0):=by
  refine eM (P:=Gr L ps sg kn rt S0) ⟨h,.refl S0⟩ fun S e he g=> ?_;obtain⟨so,kw⟩:=t'.so k e he;exact yp g (r:= .tie) e0 (by decide) (fun X=>by rw[so];exact AB) (fun _=>kw) rfl
 unfold StI.fromEnd;dsimp only
 split
 · rename_i hk;subst hk;refine eM (P:=Gr L ps sg kn rt S0) g1 fun S e he g=> ?_;exact yp g (r:= .none) e0 (by decide) (fun X=>by rw[t'.p1];exact wN) (fun c=>by rcases c with c | c<;>cases c) rfl
 · exact g1
theorem J3{S0:StI}{i x y:Nat}{t:Str}(e0:S0.facts[i]? =some (.has x t y))(h:Sd L ps sg kn rt S0):Gr L ps sg kn rt S0 (StI.fromTie L S0 i x t y):=by
 have hx:x∈S0.stand:=h.sub _ (ar e0);have hy:=h.rg _ _ _ (ar e0);have g1:Gr L ps sg kn rt S0 ((L.withins t).foldl (StI.byWi L i x y) S0):=by
  refine eM (P:=Gr L ps sg kn rt S0) ⟨h,.refl S0⟩ fun S e he g=> ?_;have so:=t'.wi t e he;unfold StI.byWi;exact g.tellHas t' (r:= .within) (g.le.st _ hx) hy (LU g.sd (g.le.fa _ _ e0) (by decide) (Ii so) (by rw[so];exact zM)) rfl
 unfold StI.fromTie;dsimp only;generalize (L.withins t).foldl (StI.byWi L i x y) S0=S1 at g1⊢;have g2:Gr L ps sg kn rt S0 ((cQ (qP L S1 x t y)).foldl (StI.byWh L i x t y) S1):=by
  refine(eM (P:=fun S=>Gr L ps sg kn rt S0 S/\Le S1 S) ⟨g1,.refl S1⟩ fun S k hk ⟨g,l⟩=> ?_).1;obtain⟨hm,m,hm1,hm2⟩:=wQ hk;obtain⟨wh,hw1,hw2,hw3⟩:=w.fi t m k hm1 hm2;obtain⟨so,kw⟩:=t'.wh t k wh hw1;have m1:=l.mem hm;unfold StI.byWh;rw[hw1];exact⟨g.tellIs (k:=wh) (r:= .tie) (g.le.st _ hx) (Hc g.sd (g.le.fa _ _ e0) (jl m1) (by decide) (fun _=>⟨_,_,rfl,kw⟩) FR (by rw[so];exact AB)) rfl,l.trans (.tellIs ..)⟩
 generalize (cQ (qP L S1 x t y)).foldl (StI.byWh L i x t y) S1=S2 at g2⊢
 split
 · rename_i hf;exact g2.tellIs (k:=1) (r:= .none) (g2.le.st _ hx) (Hc g2.sd (g2.le.fa _ _ e0) (jl hf) (by decide) (FS (by decide)) FR (by
    show hX .none (.is (L.pt x) (L.pt 1)) (.has (L.pt x) t (L.pt y)) (.is (L.pt y) (L.pt 1)) none=true;rw[t'.p1];exact wN)) rfl
 · exact g2
theorem CW{S0:StI}{i x y:Nat}{t:Str}(e0:S0.facts[i]? =some (.has x t y))(h:Sd L ps sg kn rt S0):Gr L ps sg kn rt S0 (StI.fromChains L S0 i x t y):=by
 have hx:x∈S0.stand:=h.sub _ (ar e0);have hy:=h.rg _ _ _ (ar e0);unfold StI.fromChains;refine eM (P:=Gr L ps sg kn rt S0) (eM (P:=Gr L ps sg kn rt S0) ⟨h,.refl S0⟩ fun S1 e he g1=> ?_) fun S1 e he g1=> ?_
 · have so:=t'.m1 t e he;unfold StI.byMk1;refine(eM (P:=fun S=>Gr L ps sg kn rt S0 S/\Le S1 S) ⟨g1,.refl S1⟩ fun S z hz ⟨g,l⟩=> ?_).1;have m1:=l.mem (ya hz);unfold StI.mk1a;exact⟨g.tellHas t' (r:= .makes) (g.le.st _ hx) (g.sd.rg _ _ _ m1) (Hc g.sd (g.le.fa _ _ e0) (jl m1) (by decide) (FS (by decide)) (Ii so) (by rw[so];exact tX)) rfl,l.trans (.tellHas ..)⟩
 · have so:=t'.m2 t e he;unfold StI.byMk2;refine(eM (P:=fun S=>Gr L ps sg kn rt S0 S/\Le S1 S) ⟨g1,.refl S1⟩ fun S z hz ⟨g,l⟩=> ?_).1;have m1:=l.mem (x_ hz);unfold StI.mk2a;exact⟨g.tellHas t' (r:= .makes) (g.sd.sub _ m1) hy (Hc g.sd (jl m1) (g.le.fa _ _ e0) (by decide) (FS (by decide)) (Ii so) (by rw[so];exact tX)) rfl,l.trans (.tellHas ..)⟩
theorem Ga{S0:StI}{i:Nat}{f:Fi}(e0:S0.facts[i]? =some f)(h:Sd L ps sg kn rt S0):Sd L ps sg kn rt (StI.turn L S0 i f):=by
 cases f with
 | is x k=>
   have g1:=Hi t' w o e0 h;have g2:=E7 t' w o (g1.le.fa _ _ e0) g1.sd;exact(J4 t' w o (g2.le.fa _ _ (g1.le.fa _ _ e0)) g2.sd).sd
 | has x t y=>
   have g1:=J3 t' w o e0 h;exact(CW t' w o (g1.le.fa _ _ e0) g1.sd).sd
end
def IX{L:LoI}{ps:List (Int × Sy)}{sg:List Str}{kn:Kd->Prop}{rt:Nat->Prop}{ts:List Str}(t':L.Tr ps sg kn)(w:L.Wd ts)(o:L.Ok){S0 S:StI}{i:Nat}(h:Sd L ps sg kn rt S0)(r:Ks L S0 i S):Sd L ps sg kn rt S:=by
 induction r with
 | zero=>exact h
 | step _ e ih=>exact Ga t' w o e ih
def Px(L L':LoI):Prop:=∃l,L'.parts=L.parts++l
def Px.refl(L:LoI):Px L L:=⟨[],by simp⟩
def Px.trans(a:Px L L')(b:Px L' L''):Px L L'':=by
 obtain⟨l,e⟩:=a;obtain⟨l',e'⟩:=b;exact⟨l++l',by rw[e',e,cA]⟩
def Px.num(k:Kd)(L:LoI):Px L (LoI.num k L):=LoI.num_sub k L
def Px.mem{L L':LoI}(p:Px L L'){k:Kd}(h:k∈L.parts):k∈L'.parts:=by
 obtain⟨l,e⟩:=p;rw[e];exact aP _ h
def Px.ix{L L':LoI}(p:Px L L'){k:Kd}(h:k∈L.parts):L'.ix k=L.ix k:=by
 obtain⟨l,e⟩:=p;unfold LoI.ix;rw[e,jR h]
def Px.pt{L L':LoI}(p:Px L L'){i:Nat}(h:i<L.parts.length):L'.pt i=L.pt i:=by
 obtain⟨l,e⟩:=p;unfold LoI.pt;rw[e,fh,fh,bM h]
def Px.le(p:Px L L'):L.parts.length<=L'.parts.length:=by
 obtain⟨l,e⟩:=p;rw[e,ag];lia
def fX{L:LoI}(h:k∈L.parts):L.pt (L.ix k)=k:=by
 unfold LoI.pt LoI.ix;have hl:=kY h;rw[fh,aw hl,O1 hl]
 rfl
def oq{L L':LoI}(p:Px L L')(S:StI){x k:Nat}(hx:x<L.parts.length)(hk:k<L.parts.length)(r:Str)(fr:List Int)(nn:Option Int):StI.tellIs L S x k r fr nn=StI.tellIs L' S x k r fr nn:=by
 unfold StI.tellIs;rw[p.pt hx,p.pt hk]
def pU{L L':LoI}(p:Px L L')(S:StI){x:Nat}(hx:x<L.parts.length):StI.letStand L S x=StI.letStand L' S x:=by
 have h0:0<L.parts.length:=bz (ay _) hx;unfold StI.letStand;rw[p.pt hx,oq p (S.addS x) hx hx,oq p _ hx h0]
def yU{L L':LoI}(p:Px L L')(S:StI){x y:Nat}{t:Str}(hx:x<L.parts.length)(hy:y<L.parts.length)(r:Str)(fr:List Int)(nn:Option Int):StI.tellHas L S x t y r fr nn=StI.tellHas L' S x t y r fr nn:=by
 unfold StI.tellHas;rw[p.pt hx,p.pt hy,pU p _ hy]
def Hw(p:LS)(k:Kd):Px p.1 (j0 p k).1:=Px.num k p.1
def Hu(p:LS)(q:Int × Sy):Px p.1 (kU p q).1:=by
 obtain⟨n,s⟩:=q;cases s with
 | thing x c=>exact(Px.num (.nm x) p.1).trans (Px.num c _)
 | tied x t y=>exact(Px.num (.nm x) p.1).trans (Px.num (.nm y) _)
 | every a b=>exact .refl _
 | no a b=>exact .refl _
 | within a b=>exact .refl _
 | makes a b c=>exact .refl _
theorem sE:∀(l:List Kd) (p:LS),Px p.1 (l.foldl j0 p).1
 | [],p=> .refl _
 | k::l,p=>(Hw p k).trans (sE l _)
theorem nX:∀(l:List (Int × Sy)) (p:LS),Px p.1 (l.foldl kU p).1
 | [],p=> .refl _
 | k::l,p=>(Hu p k).trans (nX l _)
noncomputable def tI(L:LoI)(S:StI)(k:Kd):StI:=StI.letStand L S (L.ix k)
noncomputable def Kl(L:LoI)(S:StI)(q:Int × Sy):StI:=match q.2 with
 | .thing x c=>StI.tellIs L S (L.ix (.nm x)) (L.ix c) "thing" [] (some q.1)
 | .tied x t y=>StI.tellHas L S (L.ix (.nm x)) t (L.ix (.nm y)) "tied" [] (some q.1)
 | _=>S
def Hx(h:Px (j0 p k).1 L):(j0 p k).2=tI L p.2 k/\k∈L.parts:=by
 have hk:=LoI.num_has k p.1;have h':Px (LoI.num k p.1) L:=h;refine⟨?_,h'.mem hk⟩;show StI.letStand (LoI.num k p.1) p.2 ((LoI.num k p.1).ix k)=StI.letStand L p.2 (L.ix k);rw[h'.ix hk,pU h' _ (LoI.ix_lt hk)]
def Hv(h:Px (kU p q).1 L):(kU p q).2=Kl L p.2 q/\(∀x c,q.2= .thing x c->Kd.nm x∈L.parts/\c∈L.parts)/\(∀x t y,q.2= .tied x t y->Kd.nm x∈L.parts/\Kd.nm y∈L.parts):=by
 obtain⟨n,s⟩:=q;cases s with
 | thing x c=>
   have hc:=LoI.num_has c (LoI.num (.nm x) p.1);have hx:=(Px.num c (LoI.num (.nm x) p.1)).mem (LoI.num_has (.nm x) p.1);have h':Px (LoI.num c (LoI.num (.nm x) p.1)) L:=h;have ex:=(Px.num c (LoI.num (.nm x) p.1)).ix (LoI.num_has (.nm x) p.1);refine⟨?_,fun x' c' e=>by cases e;exact⟨h'.mem hx,h'.mem hc⟩,fun _ _ _ e=>(by cases e)⟩;show StI.tellIs (LoI.num c (LoI.num (.nm x) p.1)) p.2 ((LoI.num (.nm x) p.1).ix (.nm x)) ((LoI.num c (LoI.num (.nm x) p.1)).ix c) "thing" [] (some n)=StI.tellIs L p.2 (L.ix (.nm x)) (L.ix c) "thing" [] (some n);rw[<-ex,h'.ix hx,h'.ix hc,oq h' _ (LoI.ix_lt hx) (LoI.ix_lt hc)]
 | tied x t y=>
   have hc:=LoI.num_has (.nm y) (LoI.num (.nm x) p.1);have hx:=(Px.num (.nm y) (LoI.num (.nm x) p.1)).mem (LoI.num_has (.nm x) p.1);have h':Px (LoI.num (.nm y) (LoI.num (.nm x) p.1)) L:=h;have ex:=(Px.num (.nm y) (LoI.num (.nm x) p.1)).ix (LoI.num_has (.nm x) p.1);refine⟨?_,fun _ _ e=>(by cases e),fun x' t' y' e=>by cases e;exact⟨h'.mem hx,h'.mem hc⟩⟩;show StI.tellHas (LoI.num (.nm y) (LoI.num (.nm x) p.1)) p.2 ((LoI.num (.nm x) p.1).ix (.nm x)) t ((LoI.num (.nm y) (LoI.num (.nm x) p.1)).ix (.nm y)) "tied" [] (some n)=StI.tellHas L p.2 (L.ix (.nm x)) t (L.ix (.nm y)) "tied" [] (some n);rw[<-ex,h'.ix hx,h'.ix hc,yU h' _ (LoI.ix_lt hx) (LoI.ix_lt hc)]
 | every a b=>exact⟨rfl,fun _ _ e=>(by cases e),fun _ _ _ e=>(by cases e)⟩
 | no a b=>exact⟨rfl,fun _ _ e=>(by cases e),fun _ _ _ e=>(by cases e)⟩
 | within a b=>exact⟨rfl,fun _ _ e=>(by cases e),fun _ _ _ e=>(by cases e)⟩
 | makes a b c=>exact⟨rfl,fun _ _ e=>(by cases e),fun _ _ _ e=>(by cases e)⟩
theorem yw:∀(l:List Kd) {p:LS},Px (l.foldl j0 p).1 L->(l.foldl j0 p).2=l.foldl (tI L) p.2/\∀k∈l,k∈L.parts
 | [],_,_=>⟨rfl,fun _ h=>(ak h).elim⟩
 | k::l,p,h=>by
   obtain⟨e1,m1⟩:=Hx (p:=p) (k:=k) ((sE l _).trans h);obtain⟨e2,m2⟩:=yw l (p:=j0 p k) h;refine⟨?_,fun y hy=> ?_⟩
   · rw[eO,e2,e1];rfl
   · rcases aL.mp hy with rfl | hy
     · exact m1
     · exact m2 y hy
theorem yv:∀(l:List (Int × Sy)) {p:LS},Px (l.foldl kU p).1 L->(l.foldl kU p).2=l.foldl (Kl L) p.2/\∀q∈l,(∀x c,q.2= .thing x c->Kd.nm x∈L.parts/\c∈L.parts)/\(∀x t y,q.2= .tied x t y->Kd.nm x∈L.parts/\Kd.nm y∈L.parts)
 | [],_,_=>⟨rfl,fun _ h=>(ak h).elim⟩
 | k::l,p,h=>by
   obtain⟨e1,m1⟩:=Hv (p:=p) (q:=k) ((nX l _).trans h);obtain⟨e2,m2⟩:=yv l (p:=kU p k) h;refine⟨?_,fun y hy=> ?_⟩
   · rw[eO,e2,e1];rfl
   · rcases aL.mp hy with rfl | hy
     · exact m1
     · exact m2 y hy
def Le.bg1(L:LoI)(S:StI)(k:Kd):Le S (tI L S k):= .letStand L S _
def DJ{ts:List Str}(hT:∀x,x∈Tn↔x∈cK ps)(hn:∀q∈ps,fc ps (some q.1)=some q.2)(t':(cz ks Tn ps (L0,StI.emp)).1.Tr ps sg kn):Sd (cz ks Tn ps (L0,StI.emp)).1 ps sg kn (fun i=>(cz ks Tn ps (L0,StI.emp)).1.pt i∈ks++(cK ps).map Kd.nm) (cz ks Tn ps (L0,StI.emp)).2:=by
 have e:cz ks Tn ps (L0,StI.emp)=ps.foldl kU ((ks++Tn.map Kd.nm).foldl j0 (L0,StI.emp)):=rfl;generalize hLf:(cz ks Tn ps (L0,StI.emp)).1=Lf at t'⊢;have pf:Px (ps.foldl kU ((ks++Tn.map Kd.nm).foldl j0 (L0,StI.emp))).1 Lf:=by rw[<-hLf,<-e];exact .refl _
 obtain⟨e2,m2⟩:=yv ps pf;obtain⟨e1,m1⟩:=yw (ks++Tn.map Kd.nm) (p:=(L0,StI.emp)) ((nX ps _).trans pf);rw[e,e2,e1];show Sd Lf ps sg kn _ (ps.foldl (Kl Lf) ((ks++Tn.map Kd.nm).foldl (tI Lf) StI.emp));have h1:∀(l:List Kd) (S:StI),(∀k∈l,k∈ks++Tn.map Kd.nm)->Sd Lf ps sg kn (fun i=>Lf.pt i∈ks++(cK ps).map Kd.nm) S->Sd Lf ps sg kn (fun i=>Lf.pt i∈ks++(cK ps).map Kd.nm) (l.foldl (tI Lf) S)/\(∀x∈S.stand,x∈(l.foldl (tI Lf) S).stand)/\∀k∈l,Lf.ix k∈(l.foldl (tI Lf) S).stand:=fun l=>by
  induction l with
  | nil=>intro S _ h;exact⟨h,fun _ h=>h,fun _ h=>(ak h).elim⟩
  | cons k l ih=>
    intro S hk h;have hm:=m1 k (hk k aZ);have root:Lf.pt (Lf.ix k)∈ks++(cK ps).map Kd.nm:=by
     rw[fX hm];rcases av.mp (hk k aZ) with z | z
     · exact aP _ z
     · obtain⟨x,hx,rfl⟩:=bS.mp z;exact aN _ (dY ((hT x).mp hx))
    obtain⟨q1,q2,q3⟩:=ih (tI Lf S k) (fun y hy=>hk y (aG _ hy)) (Sd.letStand t' h (LoI.ix_lt hm) (.root root));refine⟨q1,fun x hx=>q2 x ((Le.bg1 Lf S k).st x hx),fun y hy=> ?_⟩;rcases aL.mp hy with rfl | hy
    · refine q2 _ ?_;show Lf.ix y∈(StI.letStand Lf S (Lf.ix y)).stand;unfold StI.letStand
      split
      · assumption
      · rw[(dE Lf _ _ 0 "all" [] none).2.1]
        split
        · exact aN _ (af.mpr rfl)
        · rw[(dE Lf _ _ _ "self" [] none).2.1];exact aN _ (af.mpr rfl)
    · exact q3 y hy
 obtain⟨q1,_,q3⟩:=h1 _ StI.emp (fun k hk=>hk) ⟨rfl,fun i s h=>(by cases h),fun f h=>(ak h).elim,fun i h=>(ak h).elim,fun _ _ _ h=>(ak h).elim⟩;have st:∀q∈ps,∀x∈q.2.things,Lf.ix (.nm x)∈((ks++Tn.map Kd.nm).foldl (tI Lf) StI.emp).stand:=fun q hq x hx=>q3 _ (aN _ (dY ((hT x).mpr (Dd.mpr ⟨_,dY (f:=fun q:Int × Sy=>q.2.things) hq,hx⟩))));generalize (ks++Tn.map Kd.nm).foldl (tI Lf) StI.emp=S1 at q1 st⊢;refine(eM (P:=fun S=>Sd Lf ps sg kn (fun i=>Lf.pt i∈ks++(cK ps).map Kd.nm) S/\∀x∈S1.stand,x∈S.stand) ⟨q1,fun _ h=>h⟩ fun S q hq ⟨h,l⟩=> ?_).1;have so:=hn q hq;have stq:=st q hq;obtain⟨n1,n2⟩:=m2 q hq;obtain⟨n,s⟩:=q;cases s with
 | thing x c=>
   obtain⟨hx,hc⟩:=n1 x c rfl;refine⟨h.tellIs (r:= .thing) (l _ (stq x (by simp[Sy.things]))) ⟨by decide,rfl,Ii so,?_,FS (by decide),ay _⟩ rfl,fun y hy=>(Le.tellIs ..).st y (l y hy)⟩;rw[so,fX hx,fX hc];show(if(Sy.thing x c).hd= .thing then decide (Fa.is (.nm x) c= .is (.nm x) c) else false)=true;rw[aH (show(Sy.thing x c).hd= .thing from rfl),ao rfl]
 | tied x t y=>
   obtain⟨hx,hy⟩:=n2 x t y rfl;refine⟨h.tellHas t' (r:= .tied) (l _ (stq x (by simp[Sy.things]))) (LoI.ix_lt hy) ⟨by decide,rfl,Ii so,?_,FS (by decide),ay _⟩ rfl,fun z hz=>(Le.tellHas ..).st z (l z hz)⟩;rw[so,fX hx,fX hy];show(if(Sy.tied x t y).hd= .tied then decide (Fa.has (.nm x) t (.nm y)= .has (.nm x) t (.nm y)) else false)=true;rw[aH (show(Sy.tied x t y).hd= .tied from rfl),ao rfl]
 | every a b=>exact⟨h,l⟩
 | no a b=>exact⟨h,l⟩
 | within a b=>exact⟨h,l⟩
 | makes a b c=>exact⟨h,l⟩
def mem_at1{κ α:Type}[DecidableEq κ]{f:κ->List α}{n i:κ}{x e:α}(h:e∈uQ f n x i):e∈f i\/(i=n/\e=x):=by
 unfold uQ at h;rcases av.mp h with h | h
 · exact .inl h
 · split at h
   · exact .inr ⟨by assumption,af.mp h⟩
   · exact(ak h).elim
def Her(P:Kd->Prop):Kd->Prop
 | .nm x=>P (.nm x)
 | .two a b=>P (.two a b)/\Her P a/\Her P b
 | .som r c=>P (.som r c)/\Her P c
theorem fO:∀k L,(∀y∈L.parts,P y)->Her P k->∀y∈(LoI.num k L).parts,P y
 | .nm x,L,h,hk=>by
   rw[LoI.num]
   split
   · exact h
   · intro y hy;rcases av.mp hy with hy | hy
     · exact h y hy
     · rw[af.mp hy];exact hk
 | .two a b,L,h,hk=>by
   have h2:=fO b _ (fO a L h hk.2.1) hk.2.2;rw[LoI.num]
   split
   · exact h
   · intro y hy;rcases av.mp hy with hy | hy
     · exact h2 y hy
     · rw[af.mp hy];exact hk.1
 | .som r c,L,h,hk=>by
   have h2:=fO c L h hk.2;rw[LoI.num]
   split
   · exact h
   · intro y hy;rcases av.mp hy with hy | hy
     · exact h2 y hy
     · rw[af.mp hy];exact hk.1
structure TW(F:LoI)(ps:List (Int × Sy))(kn:Kd->Prop)(ts:List Str)(L:LoI):Prop where
 ev:∀k,∀e∈L.everys k,e.1<F.parts.length/\fc ps (some e.2)=some (.every (F.pt k) (F.pt e.1))
 no:∀k,∀e∈L.nos k,e.1<F.parts.length/\fc ps (some e.2.1)=some (if e.2.2=true then .no (F.pt k) (F.pt e.1) else .no (F.pt e.1) (F.pt k))
 wi:∀r,∀e∈L.withins r,e.1∈ts/\fc ps (some e.2)=some (.within r e.1)
 m1:∀r,∀e∈L.mk1 r,e.2.1∈ts/\fc ps (some e.2.2)=some (.makes r e.1 e.2.1)
 m2:∀r,∀e∈L.mk2 r,e.2.1∈ts/\fc ps (some e.2.2)=some (.makes e.1 r e.2.1)
 bo:∀k,∀e∈L.boths k,e.1<F.parts.length/\e.2.1<F.parts.length/\F.pt e.2.1=(if e.2.2=true then .two (F.pt k) (F.pt e.1) else .two (F.pt e.1) (F.pt k))/\kn (F.pt e.2.1)
 so:∀k,∀e∈L.somes k,e.2<F.parts.length/\F.pt e.2= .som e.1 (F.pt k)/\kn (F.pt e.2)
 fi:∀(r:Str) (m i:Nat),L.fillers r=some m->m.testBit i=true->∃k,L.wholes r i=some k/\k<F.parts.length/\i<F.parts.length
 wh:∀r i k,L.wholes r i=some k->F.pt k= .som r (F.pt i)/\kn (F.pt k)
section
def TW.of_eq(h:TW F ps kn ts L)(e1:L'.everys=L.everys)(e2:L'.nos=L.nos)(e3:L'.withins=L.withins)(e4:L'.mk1=L.mk1)(e5:L'.mk2=L.mk2)(e6:L'.boths=L.boths)(e7:L'.somes=L.somes)(e8:L'.fillers=L.fillers)(e9:L'.wholes=L.wholes):TW F ps kn ts L':=⟨by rw[e1];exact h.ev,by rw[e2];exact h.no,by rw[e3];exact h.wi,by rw[e4];exact h.m1,by rw[e5];exact h.m2,by rw[e6];exact h.bo,by rw[e7];exact h.so,by rw[e8,e9];exact h.fi,by rw[e9];exact h.wh⟩
def TW.num(h:TW F ps kn ts L)(k:Kd):TW F ps kn ts (LoI.num k L):=by
 obtain⟨_,e1,e2,e3,e4,e5,e6,e7,e8,e9⟩:=LoI.num_rest k L;exact h.of_eq e1 e2 e3 e4 e5 e6 e7 e8 e9
def TW.kn'(h:TW F ps kn ts L)(i:Nat):TW F ps kn ts (L.kn i):=h.of_eq rfl rfl rfl rfl rfl rfl rfl rfl rfl
def TW.bo'{F L:LoI}{ps:List (Int × Sy)}{kn:Kd->Prop}{ts:List Str}(h:TW F ps kn ts L){i j k:Nat}(hi:i<F.parts.length)(hj:j<F.parts.length)(hk:k<F.parts.length)(e:F.pt k= .two (F.pt i) (F.pt j))(kk:kn (F.pt k)):TW F ps kn ts (L.bo i j k):=by
 refine⟨h.ev,h.no,h.wi,h.m1,h.m2,fun q e' he=> ?_,h.so,h.fi,h.wh⟩;rcases mem_at1 he with he | ⟨rfl,rfl⟩
 · rcases mem_at1 he with he | ⟨rfl,rfl⟩
   · exact h.bo q e' he
   · exact⟨hj,hk,e,kk⟩
 · exact⟨hi,hk,e,kk⟩
def TW.so'{F L:LoI}{ps:List (Int × Sy)}{kn:Kd->Prop}{ts:List Str}(h:TW F ps kn ts L){r:Str}{j k:Nat}(hj:j<F.parts.length)(hk:k<F.parts.length)(e:F.pt k= .som r (F.pt j))(kk:kn (F.pt k)):TW F ps kn ts (L.so r j k):=by
 refine⟨h.ev,h.no,h.wi,h.m1,h.m2,h.bo,fun q e' he=> ?_,fun s m i h1 h2=> ?_,fun s i k' h1=> ?_⟩
 · rcases mem_at1 he with he | ⟨rfl,rfl⟩
   · exact h.so q e' he
   · exact⟨hk,e,kk⟩
 · have h1':zd L.fillers r ((L.fillers r).getD 0 ||| 2^j) s=some m:=h1;show ∃k',vi L.wholes r j k s i=some k'/\_;unfold zd at h1';unfold vi;by_cases c:s=r
   · subst c;rw[aH rfl] at h1';obtain rfl:_=m:=by simpa using h1'
     by_cases c2:i=j
     · subst c2;exact⟨k,aH ⟨rfl,rfl⟩,hk,hj⟩
     · rw[Fw,aj (fun z=>c2 z.symm),wJ] at h2;cases hf:L.fillers s with
       | none=>rw[hf] at h2;simp at h2
       | some m'=>
         rw[hf] at h2;obtain⟨k',q1,q2,q3⟩:=h.fi s m' i hf h2;exact⟨k',by rw[aE (fun z=>c2 z.2)];exact q1,q2,q3⟩
   · rw[aE c] at h1';obtain⟨k',q1,q2,q3⟩:=h.fi s m i h1' h2;exact⟨k',by rw[aE (fun z=>c z.1)];exact q1,q2,q3⟩
 · have h1':vi L.wholes r j k s i=some k':=h1;unfold vi at h1'
   split at h1'
   · rename_i c;obtain rfl:k=k':=by simpa using h1'
     rw[c.1,c.2];exact⟨e,kk⟩
   · exact h.wh s i k' h1'
theorem TW.know:∀(k:Kd) {L:LoI},TW F ps kn ts L->Px L F->L.Ok->k∈L.parts->Her kn k->TW F ps kn ts (LoI.know k L)
 | .nm x,L,h,p,o,hm,hk=>by
   rw[LoI.know]
   split
   · exact h
   · exact h.kn' _
 | .two a b,L,h,p,o,hm,hk=>by
   rw[LoI.know]
   split
   · exact h
   · obtain⟨ha,hb,_⟩:=o.sh _ hm;have r1:=LoI.know_rest a (L.kn (L.ix (.two a b)));have p1:∀{L':LoI},L'.parts=L.parts->Px L' F:=fun {L'} e=>by obtain⟨l,el⟩:=p;exact⟨l,by rw[e];exact el⟩
     have h1:=TW.know a (h.kn' (L.ix (.two a b))) (p1 rfl) (o.of rfl rfl) ha hk.2.1;have h2:=h1.bo' (i:=L.ix a) (j:=L.ix b) (k:=L.ix (.two a b)) (ax (LoI.ix_lt ha) p.le) (ax (LoI.ix_lt hb) p.le) (ax (LoI.ix_lt hm) p.le) (by rw[<-p.ix ha,<-p.ix hb,<-p.ix hm,fX (p.mem ha),fX (p.mem hb),fX (p.mem hm)]) (by rw[<-p.ix hm,fX (p.mem hm)];exact hk.1);exact TW.know b h2 (p1 r1.1) (o.of r1.1 r1.2) (by show b∈(LoI.know a (L.kn (L.ix (.two a b)))).parts;rw[r1.1];exact hb) hk.2.2
 | .som r c,L,h,p,o,hm,hk=>by
   rw[LoI.know]
   split
   · exact h
   · obtain⟨hc,_⟩:=o.sh _ hm;have p1:∀{L':LoI},L'.parts=L.parts->Px L' F:=fun {L'} e=>by obtain⟨l,el⟩:=p;exact⟨l,by rw[e];exact el⟩
     have h2:=(h.kn' (L.ix (.som r c))).so' (r:=r) (j:=L.ix c) (k:=L.ix (.som r c)) (ax (LoI.ix_lt hc) p.le) (ax (LoI.ix_lt hm) p.le) (by rw[<-p.ix hc,<-p.ix hm,fX (p.mem hc),fX (p.mem hm)]) (by rw[<-p.ix hm,fX (p.mem hm)];exact hk.1);exact TW.know c h2 (p1 rfl) (o.of rfl rfl) hc hk.2
def Px.of_eq(p:Px L' F)(e:L'.parts=L.parts):Px L F:=by obtain⟨l,el⟩:=p;exact⟨l,by rw[<-e];exact el⟩
def TW.kk{F L:LoI}{ps:List (Int × Sy)}{kn:Kd->Prop}{ts:List Str}(h:TW F ps kn ts L)(o:L.Ok){k:Kd}(p:Px (LoI.kk k L) F)(hk:Her kn k):TW F ps kn ts (LoI.kk k L):=TW.know k (h.num k) (p.of_eq (LoI.know_rest k _).1) (LoI.num_ok k o) (LoI.num_has k L) hk
def Iw(k:Kd)(L:LoI):Px L (LoI.kk k L):=by
 obtain⟨l,e⟩:=LoI.num_sub k L;exact⟨l,by unfold LoI.kk;rw[(LoI.know_rest k _).1];exact e⟩
def JQ(L:LoI)(p:Str × Kd):Px L (L.kkp p):=by
 unfold LoI.kkp
 split
 · exact Iw _ _
 · exact .refl _
theorem vZ:∀(l:List (Str × Kd)) (L:LoI),Px L (l.foldl LoI.kkp L)
 | [],L=> .refl L
 | q::l,L=>(JQ L q).trans (vZ l _)
def ny(n:Int)(s:Sy)(L:LoI):(LoI.tb n s L).parts=L.parts:=by cases s<;>rfl
def EN(n:Int)(s:Sy)(L:LoI):Px L (LoI.learn n s L):=by
 obtain⟨l,e⟩:=vZ s.sg.ps L;exact⟨l,by unfold LoI.learn;rw[ny];exact e⟩
theorem TW.kks:∀(l:List (Str × Kd)) {L:LoI},TW F ps kn ts L->L.Ok->Px (l.foldl LoI.kkp L) F->(∀q∈l,q.1="kind"->Her kn q.2)->TW F ps kn ts (l.foldl LoI.kkp L)
 | [],L,h,_,_,_=>h
 | q::l,L,h,o,p,hk=>by
   refine TW.kks l ?_ (LoI.kkp_ok q o) p fun q' hq=>hk q' (aG _ hq);have p1:=(vZ l (L.kkp q)).trans p;unfold LoI.kkp at p1⊢
   split
   · rename_i c;rw[aH c] at p1;exact h.kk o p1 (hk q aZ c)
   · exact h
end
noncomputable def Sy.knK:Sy->List Kd
 | .every a b=>[a,b] | .no a b=>[a,b] | .thing _ k=>[k] | _=>[]
noncomputable def Sy.tiesL:Sy->List Str
 | .every a b=>Kd.tieL a++Kd.tieL b | .no a b=>Kd.tieL a++Kd.tieL b | .thing _ k=>Kd.tieL k | .tied _ t _=>[t] | .within r s=>[r,s] | .makes r s t=>[r,s,t]
def Mz:(("thing":Str)="kind")->False:=by decide+kernel
def Nt:(("tie":Str)="kind")->False:=by decide+kernel
def Bh{s:Sy}(h:q∈s.sg.ps)(e:q.1="kind"):q.2∈s.knK:=by
 cases s<;>simp only[Sy.sg,Sy.sorts,Sy.parts,yQ,O0,aL,ak,cH] at h
 case every a b=>rcases h with rfl | rfl<;>simp[Sy.knK]
 case no a b=>rcases h with rfl | rfl<;>simp[Sy.knK]
 case thing x k=>
  rcases h with rfl | rfl
  · exact(Mz e).elim
  · simp[Sy.knK]
 case tied x t y=>rcases h with rfl | rfl | rfl<;>first | exact(Mz e).elim | exact(Nt e).elim
 case within x y=>rcases h with rfl | rfl<;>first | exact(Mz e).elim | exact(Nt e).elim
 case makes x y z=>rcases h with rfl | rfl | rfl<;>first | exact(Mz e).elim | exact(Nt e).elim
section
def TW.learn{F L:LoI}{ps:List (Int × Sy)}{kn:Kd->Prop}{ts:List Str}(h:TW F ps kn ts L)(o:L.Ok){n:Int}{s:Sy}(p:Px (LoI.learn n s L) F)(so:fc ps (some n)=some s)(hk:∀k∈s.knK,Her kn k)(ht:∀r∈s.tiesL,r∈ts):TW F ps kn ts (LoI.learn n s L):=by
 have p1:Px (LoI.kks s L) F:=p.of_eq (ny n s _);have h1:TW F ps kn ts (LoI.kks s L):=TW.kks s.sg.ps h o p1 fun q hq e=>hk _ (Bh hq e);cases s with
 | every a b=>
   have ha:a∈(LoI.kks (.every a b) L).parts:=kI (s:= .every a b) L (by simp[Sy.sg,Sy.sorts,Sy.parts]);have hb:b∈(LoI.kks (.every a b) L).parts:=kI (s:= .every a b) L (by simp[Sy.sg,Sy.sorts,Sy.parts]);refine⟨fun k e he=> ?_,h1.no,h1.wi,h1.m1,h1.m2,h1.bo,h1.so,h1.fi,h1.wh⟩;rcases mem_at1 he with he | ⟨rfl,rfl⟩
   · exact h1.ev k e he
   · refine⟨ax (LoI.ix_lt hb) p1.le,?_⟩;rw[<-p1.ix ha,<-p1.ix hb,fX (p1.mem ha),fX (p1.mem hb)];exact so
 | no a b=>
   have ha:a∈(LoI.kks (.no a b) L).parts:=kI (s:= .no a b) L (by simp[Sy.sg,Sy.sorts,Sy.parts]);have hb:b∈(LoI.kks (.no a b) L).parts:=kI (s:= .no a b) L (by simp[Sy.sg,Sy.sorts,Sy.parts]);refine⟨h1.ev,fun k e he=> ?_,h1.wi,h1.m1,h1.m2,h1.bo,h1.so,h1.fi,h1.wh⟩;rcases mem_at1 he with he | ⟨rfl,rfl⟩
   · rcases mem_at1 he with he | ⟨rfl,rfl⟩
     · exact h1.no k e he
     · refine⟨ax (LoI.ix_lt hb) p1.le,?_⟩;rw[<-p1.ix ha,<-p1.ix hb,fX (p1.mem ha),fX (p1.mem hb)];exact so
   · refine⟨ax (LoI.ix_lt ha) p1.le,?_⟩;rw[<-p1.ix ha,<-p1.ix hb,fX (p1.mem ha),fX (p1.mem hb)];exact so
 | within r s'=>
   refine⟨h1.ev,h1.no,fun k e he=> ?_,h1.m1,h1.m2,h1.bo,h1.so,h1.fi,h1.wh⟩;rcases mem_at1 he with he | ⟨rfl,rfl⟩
   · exact h1.wi k e he
   · exact⟨ht _ (by simp[Sy.tiesL]),so⟩
 | makes r s' t=>
   refine⟨h1.ev,h1.no,h1.wi,fun k e he=> ?_,fun k e he=> ?_,h1.bo,h1.so,h1.fi,h1.wh⟩
   · rcases mem_at1 he with he | ⟨rfl,rfl⟩
     · exact h1.m1 k e he
     · exact⟨ht _ (by simp[Sy.tiesL]),so⟩
   · rcases mem_at1 he with he | ⟨rfl,rfl⟩
     · exact h1.m2 k e he
     · exact⟨ht _ (by simp[Sy.tiesL]),so⟩
 | thing x k=>exact h1
 | tied x t y=>exact h1
end
section
theorem oW:∀(l:List (Int × Sy)) (L:LoI),Px L (l.foldl (fun L q=>LoI.learn q.1 q.2 L) L)
 | [],L=> .refl L
 | q::l,L=>(EN q.1 q.2 L).trans (oW l _)
theorem vY:∀(l:List Kd) (L:LoI),Px L (l.foldl (fun L k=>LoI.kk k L) L)
 | [],L=> .refl L
 | q::l,L=>(Iw q L).trans (vY l _)
theorem TW.learns:∀(l:List (Int × Sy)) {L:LoI},TW F ps kn ts L->L.Ok->Px (l.foldl (fun L q=>LoI.learn q.1 q.2 L) L) F->(∀q∈l,fc ps (some q.1)=some q.2/\(∀k∈q.2.knK,Her kn k)/\∀r∈q.2.tiesL,r∈ts)->TW F ps kn ts (l.foldl (fun L q=>LoI.learn q.1 q.2 L) L)
 | [],L,h,_,_,_=>h
 | q::l,L,h,o,p,hq=>by
   obtain⟨q1,q2,q3⟩:=hq q aZ;exact TW.learns l (h.learn o ((oW l _).trans p) q1 q2 q3) (LoI.learn_ok _ _ o) p fun q' h'=>hq q' (aG _ h')
theorem TW.kkl:∀(l:List Kd) {L:LoI},TW F ps kn ts L->L.Ok->Px (l.foldl (fun L k=>LoI.kk k L) L) F->(∀k∈l,Her kn k)->TW F ps kn ts (l.foldl (fun L k=>LoI.kk k L) L)
 | [],L,h,_,_,_=>h
 | k::l,L,h,o,p,hk=>TW.kkl l (h.kk o ((vY l _).trans p) (hk k aZ)) (LoI.kk_ok k o) p fun q' h'=>hk q' (aG _ h')
def TW.init:TW F ps kn ts LoI.init:=by
 have e:∀{α:Type} {x:α},x∉([]:List α):=fun h=>ak h;rw[l_];exact⟨fun _ _ h=>(e h).elim,fun _ _ h=>(e h).elim,fun _ _ h=>(e h).elim,fun _ _ h=>(e h).elim,fun _ _ h=>(e h).elim,fun _ _ h=>(e h).elim,fun _ _ h=>(e h).elim,fun _ _ _ h=>(by cases h),fun _ _ _ h=>(by cases h)⟩
def Ih(ps:List (Int × Sy))(fs:List Kd):Px LoI.init (LoI.of ps fs):=(oW ps _).trans (vY fs _)
def TW.of(p:Px (LoI.of ps fs) F)(hq:∀q∈ps,fc ps (some q.1)=some q.2/\(∀k∈q.2.knK,Her kn k)/\∀r∈q.2.tiesL,r∈ts)(hk:∀k∈fs,Her kn k):TW F ps kn ts (LoI.of ps fs):=TW.kkl fs (TW.learns ps TW.init LoI.init_ok ((vY fs _).trans p) hq) (jT (fun L q o=>LoI.learn_ok _ _ o) _ LoI.init_ok) p hk
def zW{ps:List (Int × Sy)}{Q:LoI->Prop}(hq:∀{L L':LoI},L'.parts=L.parts->L'.shapes=L.shapes->Q L->Q L')(h0:Q LoI.init){fs:List Kd}(hp:∀q∈ps,∀k∈q.2.knK,∀L,Q L->Q (LoI.num k L))(hf:∀k∈fs,∀L,Q L->Q (LoI.num k L)):Q (LoI.of ps fs):=by
 have kk:∀(k:Kd),(∀L,Q L->Q (LoI.num k L))->∀L,Q L->Q (LoI.kk k L):=fun k hk L h=>hq (LoI.know_rest k _).1 (LoI.know_rest k _).2 (hk L h);have inner:∀(s:Sy),(∀k∈s.knK,∀L,Q L->Q (LoI.num k L))->∀(l:List (Str × Kd)),(∀q∈l,q∈s.sg.ps)->∀L,Q L->Q (l.foldl LoI.kkp L):=fun s hs l=>by
  induction l with
  | nil=>intro _ L h;exact h
  | cons q l ih=>
    intro hl L h;refine ih (fun q' h'=>hl q' (aG _ h')) _ ?_;unfold LoI.kkp
    split
    · rename_i c;exact kk _ (hs _ (Bh (hl q aZ) c)) _ h
    · exact h
 have one:∀(n:Int) (s:Sy),(∀k∈s.knK,∀L,Q L->Q (LoI.num k L))->∀L,Q L->Q (LoI.learn n s L):=fun n s hs L h=>by
  unfold LoI.learn;refine hq (ny n s _) (by cases s<;>rfl) (inner s hs s.sg.ps (fun _ h=>h) L h)
 have lr:∀(l:List (Int × Sy)),(∀q∈l,q∈ps)->∀L,Q L->Q (l.foldl (fun L q=>LoI.learn q.1 q.2 L) L):=fun l=>by
  induction l with
  | nil=>intro _ L h;exact h
  | cons q l ih=>intro hl L h;exact ih (fun q' h'=>hl q' (aG _ h')) _ (one q.1 q.2 (hp q (hl q aZ)) L h)
 have lf:∀(l:List Kd),(∀q∈l,q∈fs)->∀L,Q L->Q (l.foldl (fun L k=>LoI.kk k L) L):=fun l=>by
  induction l with
  | nil=>intro _ L h;exact h
  | cons q l ih=>intro hl L h;exact ih (fun q' h'=>hl q' (aG _ h')) _ (kk q (hf q (hl q aZ)) L h)
 exact lf fs (fun _ h=>h) _ (lr ps (fun _ h=>h) _ h0)
def ES{s:Sy}(h:k∈s.knK):∀r∈Kd.tieL k,r∈s.tiesL:=fun r hr=>by
 cases s with
 | every a b=>rcases(show k=a\/k=b by simpa[Sy.knK] using h) with rfl | rfl;exact aP _ hr;exact aN _ hr
 | no a b=>rcases(show k=a\/k=b by simpa[Sy.knK] using h) with rfl | rfl;exact aP _ hr;exact aN _ hr
 | thing x c=>obtain rfl:k=c:=by simpa[Sy.knK] using h
              exact hr
 | tied x t y=>simp[Sy.knK] at h
 | within x y=>simp[Sy.knK] at h
 | makes x y z=>simp[Sy.knK] at h
def ShT(ts:List Str)(L:LoI):Prop:=∀r j,Sh.some r j∈L.shapes->r∈ts
def ShT.num(ht:∀r∈Kd.tieL k,r∈ts)(h:ShT ts L):ShT ts (LoI.num k L):=fun r j hr=>by
 obtain⟨l,e,hl⟩:=LoI.num_shapes k L;rw[e] at hr;rcases av.mp hr with hr | hr
 · exact h r j hr
 · exact ht r (hl r j hr)
def ShT.init:ShT ts LoI.init:=fun r j h=>by
 rw[l_] at h;have h':Sh.some r j∈([.no,.no]:List Sh):=h;simp at h'
def LD(hq:∀q∈ps,fc ps (some q.1)=some q.2/\∀r∈q.2.tiesL,r∈ts)(hk:∀k∈fs,∀r∈Kd.tieL k,r∈ts):(LoI.of ps fs).Wd ts:=by
 have her:∀k:Kd,Her (fun _=>True) k:=fun k=>by
  induction k with
  | nm x=>trivial
  | two a b ha hb=>exact⟨trivial,ha,hb⟩
  | som r c hc=>exact⟨trivial,hc⟩
 have t:TW (LoI.of ps fs) ps (fun _=>True) ts (LoI.of ps fs):=TW.of (.refl _) (fun q h=>⟨(hq q h).1,fun k _=>her k,(hq q h).2⟩) fun k _=>her k;have s:ShT ts (LoI.of ps fs):=zW (Q:=ShT ts) (fun _ e h=>by unfold ShT at h⊢;rw[e];exact h) ShT.init (fun q h k hk' L hL=>ShT.num (fun r hr=>(hq q h).2 r (ES hk' r hr)) hL) (fun k hk' L hL=>ShT.num (hk k hk') hL);exact⟨fun k e h=>(t.ev k e h).1,fun k e h=>(t.no k e h).1,fun k e h=>(t.wi k e h).1,fun k e h=>(t.m1 k e h).1,fun k e h=>(t.m2 k e h).1,fun k e h=>⟨(t.bo k e h).1,(t.bo k e h).2.1⟩,fun k e h=>(t.so k e h).1,t.fi,fun i r j h=>s r j (ar h)⟩
def JD(ps:List (Int × Sy))(fs:List Kd):2<=(LoI.of ps fs).parts.length:=by
 have:=(Ih ps fs).le;rw[l_] at this;exact this
def JE(ps:List (Int × Sy))(fs:List Kd):(LoI.of ps fs).parts.length<=2+jg ps+gO fs:=by
 have kk:∀(k:Kd) (L:LoI),(LoI.kk k L).parts.length<=L.parts.length+k.sz:=fun k L=>by unfold LoI.kk;rw[(LoI.know_rest k _).1];exact LoI.num_len k L
 have kp:∀(l:List (Str × Kd)) (L:LoI),(l.foldl LoI.kkp L).parts.length<=L.parts.length+(l.map fun p=>p.2.sz).sum:=fun l=>by
  induction l with
  | nil=>intro L;exact cR _ _
  | cons q l ih=>
    intro L;have h1:=ih (L.kkp q);have h2:(L.kkp q).parts.length<=L.parts.length+q.2.sz:=by
     unfold LoI.kkp
     split
     · exact kk _ _
     · lia
    rw[eO,bQ,oh];lia
 have lr:∀(l:List (Int × Sy)) (L:LoI),(l.foldl (fun L q=>LoI.learn q.1 q.2 L) L).parts.length<=L.parts.length+jg l:=fun l=>by
  induction l with
  | nil=>intro L;exact cR _ _
  | cons q l ih=>
    intro L;have h1:=ih (LoI.learn q.1 q.2 L);have h2:(LoI.learn q.1 q.2 L).parts.length<=L.parts.length+q.2.szs:=by
     unfold LoI.learn;rw[ny];have tot:(q.2.sg.ps.map fun p=>p.2.sz).sum=q.2.szs:=by unfold Sy.szs;rw[<-jC,qh];rfl
     have:=kp q.2.sg.ps L;rw[tot] at this;exact this
    unfold jg at h1⊢;rw[eO,bQ,oh];lia
 have lf:∀(l:List Kd) (L:LoI),(l.foldl (fun L k=>LoI.kk k L) L).parts.length<=L.parts.length+gO l:=fun l=>by
  induction l with
  | nil=>intro L;exact cR _ _
  | cons q l ih=>
    intro L;have h1:=ih (LoI.kk q L);have h2:=kk q L;unfold gO at h1⊢;rw[eO,bQ,oh];lia
 have a:=lr ps LoI.init;have b:=lf fs (ps.foldl (fun L q=>LoI.learn q.1 q.2 L) LoI.init);have c:LoI.init.parts.length=2:=by rw[l_];rfl
 unfold LoI.of
 lia
end
section
theorem yI{Q:LoI->Prop}:∀(l:List Kd),(∀k∈l,∀L,Q L->Q (LoI.num k L))->∀(p:LS),Q p.1->Q (l.foldl j0 p).1
 | [],_,_,h=>h
 | k::l,hk,p,h=>yI l (fun k' h'=>hk k' (aG _ h')) (j0 p k) (hk k aZ _ h)
theorem yH{Q:LoI->Prop}:∀(l:List (Int × Sy)),(∀q∈l,(∀x∈q.2.things,∀L,Q L->Q (LoI.num (.nm x) L))/\∀k∈q.2.knK,∀L,Q L->Q (LoI.num k L))->∀(p:LS),Q p.1->Q (l.foldl kU p).1
 | [],_,_,h=>h
 | q::l,hk,p,h=>by
   refine yH l (fun k' h'=>hk k' (aG _ h')) (kU p q) ?_;obtain⟨h1,h2⟩:=hk q aZ;obtain⟨n,s⟩:=q;cases s with
   | thing x c=>exact h2 c (by simp[Sy.knK]) _ (h1 x (by simp[Sy.things]) _ h)
   | tied x t y=>exact h1 y (by simp[Sy.things]) _ (h1 x (by simp[Sy.things]) _ h)
   | every a b=>exact h
   | no a b=>exact h
   | within a b=>exact h
   | makes a b c=>exact h
def wu{Q:LoI->Prop}(hT:∀x,x∈Tn↔x∈cK ps)(h:Q p.1)(hk:∀k∈ks,∀L,Q L->Q (LoI.num k L))(hx:∀x∈cK ps,∀L,Q L->Q (LoI.num (.nm x) L))(hq:∀q∈ps,∀k∈q.2.knK,∀L,Q L->Q (LoI.num k L)):Q (cz ks Tn ps p).1:=by
 refine yH ps (fun q hq'=>⟨fun x hx'=>hx x (Dd.mpr ⟨_,dY (f:=fun q:Int × Sy=>q.2.things) hq',hx'⟩),hq q hq'⟩) _ (yI _ (fun k hk'=> ?_) p h);rcases av.mp hk' with hk' | hk'
 · exact hk k hk'
 · obtain⟨x,hx',rfl⟩:=bS.mp hk';exact hx x ((hT x).mp hx')
def Km:Px p.1 (cz ks Tn ps p).1:=(sE _ p).trans (nX _ _)
def BR{L:LoI}(o:L.Ok){i:Nat}(h:i<L.parts.length):L.ix (L.pt i)=i:=by
 have e:L.pt i=L.parts[i]:=by
  unfold LoI.pt;rw[fh,aw h];rfl
 unfold LoI.ix;rw[e];exact List.Nodup.idxOf_getElem o.nd i h
def Ce{L:LoI}(o:L.Ok){k i j:Nat}(h:L.shapes[k]? =some (.both i j)):L.pt k= .two (L.pt i) (L.pt j):=by
 have hk:k<L.parts.length:=by rw[<-o.sl];exact(aY.mp h).1
 have s:=o.sh _ (mE hk);have ix:=BR o hk;cases e:L.pt k with
 | nm x=>
   rw[e] at s ix;have s':L.shapes[L.ix (.nm x)]? =some .no:=s;rw[ix,h] at s';cases s'
 | two a b=>
   rw[e] at s ix;obtain⟨ha,hb,s'⟩:=(show a∈L.parts/\b∈L.parts/\L.shapes[L.ix (.two a b)]? =some (.both (L.ix a) (L.ix b)) from s);rw[ix,h] at s';cases s';rw[fX ha,fX hb]
 | som r c=>
   rw[e] at s ix;obtain⟨hc,s'⟩:=(show c∈L.parts/\L.shapes[L.ix (.som r c)]? =some (.some r (L.ix c)) from s);rw[ix,h] at s';cases s'
def Cf{L:LoI}(o:L.Ok){k j:Nat}{t:Str}(h:L.shapes[k]? =some (.some t j)):L.pt k= .som t (L.pt j):=by
 have hk:k<L.parts.length:=by rw[<-o.sl];exact(aY.mp h).1
 have s:=o.sh _ (mE hk);have ix:=BR o hk;cases e:L.pt k with
 | nm x=>
   rw[e] at s ix;have s':L.shapes[L.ix (.nm x)]? =some .no:=s;rw[ix,h] at s';cases s'
 | two a b=>
   rw[e] at s ix;obtain⟨ha,hb,s'⟩:=(show a∈L.parts/\b∈L.parts/\L.shapes[L.ix (.two a b)]? =some (.both (L.ix a) (L.ix b)) from s);rw[ix,h] at s';cases s'
 | som r c=>
   rw[e] at s ix;obtain⟨hc,s'⟩:=(show c∈L.parts/\L.shapes[L.ix (.som r c)]? =some (.some r (L.ix c)) from s);rw[ix,h] at s';cases s';rw[fX hc]
end
inductive KN(roots:List Kd)(fs:List Fa):Kd->Prop where
 | root {k:Kd}:k∈roots->KN roots fs k
 | step {x y:Kd} {t:Str}:KN roots fs x->Fa.has x t y∈fs->KN roots fs y
def okP(sg:List Str)(k:Kd):Prop:=jG k=eS k/\(eS k=true->MA k sg=true)
structure B5(ps:List (Int × Sy))(sg:List Str)(kn:Kd->Prop)(roots:List Kd)(ss:List p_):Prop where
 fine:∀i s,ss[i]? =some s->Ax ps sg kn ss i s
 nd:(ss.map (·.f)).Nodup
 rea:∀s∈ss,KN roots (ss.map (·.f)) s.f.x
def wW(st:FB ts ps ks fs Tn S')(hq:∀q∈ps,fc ps (some q.1)=some q.2/\(∀k∈q.2.knK,Her kn k)/\∀r∈q.2.tiesL,r∈ts)(hf:∀k∈fs,Her kn k)(p0:okP sg anyW)(p1:okP sg nothW)(pq:∀q∈ps,∀k∈q.2.knK,Her (okP sg) k)(px:∀x∈cK ps,okP sg (.nm x))(pk:∀k∈ks,Her (okP sg) k)(pf:∀k∈fs,Her (okP sg) k):B5 ps sg kn (ks++(cK ps).map Kd.nm) S'.steps/\∀s∈S'.steps,∃f∈S'.facts,s.f=iB (cz ks Tn ps (LoI.of ps fs,StI.emp)).1 f/\f.rg (cz ks Tn ps (LoI.of ps fs,StI.emp)).1.parts.length ts:=by
 have sdb:=DJ (ps:=ps) (sg:=sg) (kn:=kn) (ts:=ts) (ks:=ks) (Tn:=Tn) (L0:=LoI.of ps fs) st.tn (fun q h=>(hq q h).1);have o:=st.ok;have w:=st.wd;have px1:Px (LoI.of ps fs) (cz ks Tn ps (LoI.of ps fs,StI.emp)).1:=Km;have tw:TW (cz ks Tn ps (LoI.of ps fs,StI.emp)).1 ps kn ts (cz ks Tn ps (LoI.of ps fs,StI.emp)).1:=wu (Q:=TW _ ps kn ts) st.tn (TW.of px1 hq hf) (fun k _ L h=>h.num k) (fun x _ L h=>h.num _) (fun q _ k _ L h=>h.num k);have pp:∀k∈(cz ks Tn ps (LoI.of ps fs,StI.emp)).1.parts,okP sg k:=wu (Q:=fun L=>∀k∈L.parts,okP sg k) st.tn (zW (Q:=fun L=>∀k∈L.parts,okP sg k) (fun e _ h=>by rw[e];exact h) (by
  rw[l_];intro k hk;have hk':k∈([anyW,nothW]:List Kd):=hk;rcases(show k=anyW\/k=nothW by simpa using hk') with rfl | rfl
  · exact p0
  · exact p1) (fun q h k hk L hL=>fO k L hL (pq q h k hk)) (fun k hk L hL=>fO k L hL (pf k hk))) (fun k hk L hL=>fO k L hL (pk k hk)) (fun x hx L hL=>fO (.nm x) L hL (px x hx)) (fun q h k hk L hL=>fO k L hL (pq q h k hk))
 have pi:=(Ih ps fs).trans px1;have wf:=st.wf;have sl:=st.sl;obtain⟨i,rc,hi⟩:=st.rch;generalize hB:cz ks Tn ps (LoI.of ps fs,StI.emp)=p at sdb o w tw pp pi rc wf px1⊢;obtain⟨Lf,S0⟩:=p;have li:LoI.init.parts.length=2:=by rw[l_];rfl
 have tr:Lf.Tr ps sg kn:=by
  refine⟨?_,?_,fun k i j h=>Ce o h,fun k r j h=>Cf o h,fun k e h=>(tw.ev k e h).2,fun k e h=>(tw.no k e h).2,fun k e h=>(tw.wi k e h).2,fun k e h=>(tw.m1 k e h).2,fun k e h=>(tw.m2 k e h).2,fun k e h=>(tw.bo k e h).2.2,fun k e h=>(tw.so k e h).2,tw.wh,pp⟩
  · rw[pi.pt (by rw[li];decide),l_];rfl
  · rw[pi.pt (by rw[li];decide),l_];rfl
 have sd:=IX tr w o (sdb tr) rc;have ptinj:∀{a b:Nat},a<Lf.parts.length->b<Lf.parts.length->Lf.pt a=Lf.pt b->a=b:=fun {a b} ha hb e=>by rw[<-BR o ha,<-BR o hb,e]
 have inj:∀a∈S'.facts,∀b∈S'.facts,iB Lf a=iB Lf b->a=b:=fun a ha b hb e=>by
  have ra:=wf.rg a ha;have rb:=wf.rg b hb;cases a with
  | is x k=>
    cases b with
    | is x' k'=>injection e with e1 e2;rw[ptinj ra.1 rb.1 e1,ptinj ra.2 rb.2 e2]
    | has x' t' y'=>cases e
  | has x t y=>
    cases b with
    | is x' k'=>cases e
    | has x' t' y'=>injection e with e1 e2 e3;rw[ptinj ra.1 rb.1 e1,e2,ptinj ra.2.2 rb.2.2 e3]
 have nodup:∀(l:List Fi),l.Nodup->(∀a∈l,a∈S'.facts)->(l.map (iB Lf)).Nodup:=fun l=>by
  induction l with
  | nil=>intro _ _;exact .nil
  | cons a l ih=>
    intro nd h;rw[bQ,dv];refine⟨fun hm=> ?_,ih (dv.mp nd).2 fun b hb=>h b (aG _ hb)⟩;obtain⟨b,hb,e⟩:=bS.mp hm;have:=inj b (h b (aG _ hb)) a (h a aZ) e;rw[this] at hb;exact(dv.mp nd).1 hb
 have ex:∀s∈S'.steps,∃f∈S'.facts,s.f=iB Lf f/\f.rg Lf.parts.length ts:=fun s hs=>by
  have:s.f∈S'.facts.map (iB Lf):=by rw[<-sd.rel];exact dY hs
  obtain⟨f,hf',e⟩:=bS.mp this;exact⟨f,hf',e.symm,wf.rg f hf'⟩
 have rk:∀i,Rc (fun i=>Lf.pt i∈ks++(cK ps).map Kd.nm) S'.facts i->KN (ks++(cK ps).map Kd.nm) (S'.steps.map (·.f)) (Lf.pt i):=fun i r=>by
  induction r with
  | root h=>exact .root h
  | step _ hf' ih=>exact .step ih (by rw[sd.rel];exact dY (f:=iB Lf) hf')
 refine⟨⟨sd.fine,?_,fun s hs=> ?_⟩,ex⟩
 · rw[sd.rel];exact nodup _ wf.nd fun _ h=>h
 · obtain⟨f,hf',e,_⟩:=ex s hs;have:=rk _ (sd.rea _ (sd.sub f hf'));rw[e];cases f<;>exact this
noncomputable def qa:Kd->List Nat
 | .nm x=>39::(x.cps.toList++[39])
 | .two a b=>[40,39,98,111,116,104,39,44,32]++(qa a++(44::32::(qa b++[41])))
 | .som r c=>[40,39,115,111,109,101,39,44,32]++(39::(r.cps.toList++(39::44::32::(qa c++[41]))))
def kZ:qT (39::l):=by show jq 39=false;decide
theorem mD:∀{a b:Kd} {s t:List Nat},okK a->okK b->qa a++s=qa b++t->a=b/\s=t
 | .nm x,.nm y,s,t,ha,hb,e=>by
   simp only[qa,bT,cA,bC,gc,dy] at e;obtain⟨h1,h2⟩:=gz (eh ha).2.2 (eh hb).2.2 kZ kZ e;simp only[bC,gc] at h2;exact⟨by rw[wV h1],h2⟩
 | .nm x,.two b1 b2,s,t,_,_,e=>by simp[qa] at e
 | .nm x,.som r' c',s,t,_,_,e=>by simp[qa] at e
 | .two a1 a2,.nm y,s,t,_,_,e=>by simp[qa] at e
 | .som r' c',.nm y,s,t,_,_,e=>by simp[qa] at e
 | .two a1 a2,.som r' c',s,t,_,_,e=>by simp[qa] at e
 | .som r' c',.two a1 a2,s,t,_,_,e=>by simp[qa] at e
 | .two a1 a2,.two b1 b2,s,t,ha,hb,e=>by
   simp only[qa,cA,dR] at e;obtain⟨h1,h2⟩:=mD (a:=a1) (b:=b1) ha.1 hb.1 e;simp only[bT,cA,bC,gc] at h2;obtain⟨h3,h4⟩:=mD (a:=a2) (b:=b2) ha.2 hb.2 h2;simp only[bT,dy,bC,gc] at h4;exact⟨by rw[h1,h3],h4⟩
 | .som r c,.som r' c',s,t,ha,hb,e=>by
   simp only[qa,cA,dR,bT,bC,gc] at e;obtain⟨h1,h2⟩:=gz (jD ha.1).2.2.1 (jD hb.1).2.2.1 kZ kZ e;simp only[bT,cA,bC,gc] at h2;obtain⟨h3,h4⟩:=mD (a:=c) (b:=c') ha.2 hb.2 h2;simp only[bT,dy,bC,gc] at h4;exact⟨by rw[wV h1,h3],h4⟩
noncomputable def Ff:Fa->List Nat
 | .is x k=>[40,39,105,115,39,44,32]++(qa x++(44::32::(qa k++[41])))
 | .has x t y=>[40,39,104,97,115,39,44,32]++(qa x++(44::32::39::(t.cps.toList++(39::44::32::(qa y++[41])))))
def zV:Fa->Prop
 | .is x k=>okK x/\okK k
 | .has x t y=>okK x/\gV t=true/\okK y
theorem Ka:∀{a b:Fa},zV a->zV b->Ff a=Ff b->a=b
 | .is x k,.is x' k',ha,hb,e=>by
   simp only[Ff,dR] at e;obtain⟨h1,h2⟩:=mD ha.1 hb.1 e;simp only[bC,gc] at h2;obtain⟨h3,_⟩:=mD ha.2 hb.2 h2;rw[h1,h3]
 | .is _ _,.has _ _ _,_,_,e=>by simp[Ff] at e
 | .has _ _ _,.is _ _,_,_,e=>by simp[Ff] at e
 | .has x t y,.has x' t' y',ha,hb,e=>by
   simp only[Ff,dR] at e;obtain⟨h1,h2⟩:=mD ha.1 hb.1 e;simp only[bC,gc] at h2;obtain⟨h3,h4⟩:=gz (eh ha.2.1).2.2 (eh hb.2.1).2.2 kZ kZ h2;simp only[bC,gc] at h4;obtain⟨h5,_⟩:=mD ha.2.2 hb.2.2 h4;rw[h1,wV h3,h5]
def Jf:∀c∈List.range 123,jq c=true->Builtin.Str.reprChar 39 c=[c]:=by decide+kernel
def JO(h:jq c=true):c<123:=by
 unfold jq at h;simp only[j5,bD] at h
 lia
theorem Bm:∀(l:List Nat) (acc:Array Nat),l.all jq=true->(l.foldl (fun out c=>out++(Builtin.Str.reprChar 39 c).toArray) acc).toList=acc.toList++l
 | [],acc,_=>by simp
 | c::l,acc,h=>by
   rw[fD,aO] at h;rw[eO,Bm l _ h.2,Jf c (dj.mpr (JO h.1)) h.1];simp
def zB(h:x.cps.toList.all jq=true):(reprText x).cps.toList=39::(x.cps.toList++[39]):=by
 have q:reprQuote x=39:=by
  unfold reprQuote;rw[aE];intro z;rw[aO] at z;have:39∈x.cps.toList:=by simpa using z.1
  have:=dH.mp h 39 this;exact absurd this (by decide)
 unfold reprText;rw[q];show((x.cps.foldl (fun out c=>out++(Builtin.Str.reprChar 39 c).toArray) #[39]).push 39).toList=_;rw[Array.toList_push,<-Array.foldl_toList,Bm _ _ h];simp
def rY(h:gV x=true):x.cps.toList.all jq=true:=(eh h).2.2
def EI:(Str.ofString "(").cps.toList=[40]:=by decide+kernel
def EK:(Str.ofString ")").cps.toList=[41]:=by decide+kernel
def EJ:(Str.ofString ", ").cps.toList=[44,32]:=by decide+kernel
def rb:(reprText (Str.ofString "both")).cps.toList=[39,98,111,116,104,39]:=by decide+kernel
def rs:(reprText (Str.ofString "some")).cps.toList=[39,115,111,109,101,39]:=by decide+kernel
def ri:(reprText (Str.ofString "is")).cps.toList=[39,105,115,39]:=by decide+kernel
def rh:(reprText (Str.ofString "has")).cps.toList=[39,104,97,115,39]:=by decide+kernel
def M8(a b c:PyData):(PyData.tuple [a,b,c]).shown.cps.toList=40::(a.shown.cps.toList++(44::32::(b.shown.cps.toList++(44::32::(c.shown.cps.toList++[41]))))):=by
 rw[OX];show((Str.ofString "("++(a.shown++Str.ofString ", "++(b.shown++Str.ofString ", "++c.shown)))++Str.ofString ")").cps.toList=_;simp only[B2,EI,EK,EJ,cA,bT,dy]
def OE(a b c d:PyData):(PyData.tuple [a,b,c,d]).shown.cps.toList=40::(a.shown.cps.toList++(44::32::(b.shown.cps.toList++(44::32::(c.shown.cps.toList++(44::32::(d.shown.cps.toList++[41]))))))):=by
 rw[OX];show((Str.ofString "("++(a.shown++Str.ofString ", "++(b.shown++Str.ofString ", "++(c.shown++Str.ofString ", "++d.shown))))++Str.ofString ")").cps.toList=_;simp only[B2,EI,EK,EJ,cA,bT,dy]
theorem ij:∀k,okK k->k.tx.py.shown.cps.toList=qa k
 | .nm x,h=>zB (rY h)
 | .two a b,h=>by
   show(PyData.tuple [.str "both",a.tx.py,b.tx.py]).shown.cps.toList=_;rw[M8,ij a h.1,ij b h.2];show 40::((reprText (Str.ofString "both")).cps.toList++_)=_;rw[rb];simp[qa]
 | .som r c,h=>by
   show(PyData.tuple [.str "some",.str r,c.tx.py]).shown.cps.toList=_;rw[M8,ij c h.2];show 40::((reprText (Str.ofString "some")).cps.toList++(44::32::((reprText r).cps.toList++_)))=_;rw[rs,zB (rY h.1)];simp[qa]
theorem nY:∀f,zV f->f.tx.py.shown.cps.toList=Ff f
 | .is x k,h=>by
   show(PyData.tuple [.str "is",x.tx.py,k.tx.py]).shown.cps.toList=_;rw[M8,ij x h.1,ij k h.2];show 40::((reprText (Str.ofString "is")).cps.toList++_)=_;rw[ri];simp[Ff]
 | .has x t y,h=>by
   show(PyData.tuple [.str "has",x.tx.py,.str t,y.tx.py]).shown.cps.toList=_;rw[OE,ij x h.1,ij y h.2.2];show 40::((reprText (Str.ofString "has")).cps.toList++(44::32::(_++(44::32::((reprText t).cps.toList++_)))))=_;rw[rh,zB (rY h.2.1)];simp[Ff]
noncomputable def fR(k:Kd):Str:=k.tx.py.shown
noncomputable def xx(f:Fa):Str:=f.tx.py.shown
def Gp(ha:zV a)(hb:zV b)(e:xx a=xx b):a=b:=Ka ha hb (by rw[<-nY a ha,<-nY b hb];exact congrArg (fun z:Str=>z.cps.toList) e)
theorem kq:∀k,okK k->(qa k).length<=30 * k.sz
 | .nm x,h=>by
   have:=(eh h).2.1;rw[nR] at this;simp only[qa,aV,ag,cw,Kd.sz];lia
 | .two a b,h=>by
   have h1:=kq a h.1;have h2:=kq b h.2;simp only[qa,aV,ag,cw,Kd.sz];lia
 | .som r c,h=>by
   have h1:=kq c h.2;have:=(eh h.1).2.1;rw[nR] at this;simp only[qa,aV,ag,cw,Kd.sz];lia
def Oe(h:FL H tl fs)(e:fs.length=0):tl=[]/\fs=[]:=by
 cases h with
 | nil=>exact⟨rfl,rfl⟩
 | cons a b=>simp at e
def Od(h:FL H tl fs)(e:fs.length=1):∃v f,tl=[v]/\fs=[f]/\IsF H f v:=by
 cases h with
 | nil=>simp at e
 | cons a b=>
   obtain⟨rfl,rfl⟩:=Oe b (by simpa using e);exact⟨_,_,rfl,rfl,a⟩
def OP(h:FL H tl fs)(e:fs.length=2):∃v u f g,tl=[v,u]/\fs=[f,g]/\IsF H f v/\IsF H g u:=by
 cases h with
 | nil=>simp at e
 | cons a b=>
   obtain⟨u,g,rfl,rfl,hb⟩:=Od b (by simpa using e);exact⟨_,_,_,_,rfl,rfl,a,hb⟩
def se(h:KL H xs [a,b]):∃x y,xs=[x,y]/\IsK H a x/\IsK H b y:=by
 cases h with
 | cons r t=>
   cases t with
   | cons r2 t2=>cases t2;exact⟨_,_,rfl,r,r2⟩
def si(h:KL H xs [a,b,c]):∃x y z,xs=[x,y,z]/\IsK H a x/\IsK H b y/\IsK H c z:=by
 cases h with
 | cons r t=>
   obtain⟨y,z,rfl,h1,h2⟩:=se t;exact⟨_,y,z,rfl,r,h1,h2⟩
def gL(hp:H p=none)(ha:IsK H x a)(hb:IsK H k b):IsF (upd H p (.tup [.str "is",a,b])) (.is x k) (.ref p):=⟨p,a,b,rfl,aa,ha.mono (nj hp),hb.mono (nj hp)⟩
def nW(hp:H p=none)(ha:IsK H x a)(hb:IsK H y b):IsF (upd H p (.tup [.str "has",a,.str t,b])) (.has x t y) (.ref p):=⟨p,a,b,rfl,aa,ha.mono (nj hp),hb.mono (nj hp)⟩
section
end
def JS(K:Frag):kitOne K (.type "int") (.type "int")=some true:=by first | rfl | decide | with_unfolding_all rfl
def JT(K:Frag):kitOne K (.type "int") (.type "bool")=some false:=by first | rfl | decide | with_unfolding_all rfl
section
end
section
end
section
end
def Ig(f:Fa):Prop:=f.lo 25/\Ae f.x
section
end
inductive qX(vs:List V)(H:Hp)(Q:VK):Prop
 | mk:∀v k,(vs=[v])->(IsK H k v)->(Ae k)->(Q (.bl (eS k)) H)->qX vs H Q
def w9:Sp:=fun vs H Q _=>qX vs H Q
inductive pE(vs:List V)(H:Hp)(Q:VK):Prop
 | mk:∀lp ys ps,(vs=[.ref lp])->(H lp=some (.lst ys))->(PrL H ys ps)->(ps.length<=100)->(∀l H',Same H H'->H l=none->H' l=some (.lst ((cK ps).map V.str))->Q (.ref l) H')->pE vs H Q
def ue:Sp:=fun vs H Q _=>pE vs H Q
section
def DL:bq jh jh (aK vn):=gU
def Cu(F:Fun K "_law_single" "_law_single" vn f fd)(mi:mg "isinstance"=none)(ms:mg "str"=none):b_ P w K mg base fj 1 f fd jh w9:=by
 refine F.o DL fun cdv A outer s H vs Q E hr h=> ?_;obtain⟨v,k,rfl,hk,hl,q⟩:=h;refine⟨_,bb (cE (eC (xK mi ms cm aB) (fJ (zK PySem.F.plainAttrs_str PySem.F.slot_str_isupper PySem.F.type_str_isupper zY (dM kj aB eU (ej aA)))))),?_⟩;cases k with
 | nm x=>
   obtain rfl:v= .str x:=hk;have hx:x.length<=sizeLine:=bw hl;refine⟨_,_,_,true,rfl,TyOf.str x,d6 K,?_⟩;exact⟨1,rfl,x,rfl,hx,rfl,_,rfl,rfl,q⟩
 | two a b=>
   obtain⟨p,x,y,rfl,hp,_,_⟩:=hk;exact⟨_,_,_,false,rfl,TyOf.tup hp,dm K,q⟩
 | som r c=>
   obtain⟨p,y,rfl,hp,_⟩:=hk;exact⟨_,_,_,false,rfl,TyOf.tup hp,dm K,q⟩
def scSingles:bq ["_law_pairs","_law_made","_law_number","_law_saying_here"] BC (aK rF):=gU
def zP(F:Fun K "_law_singles" "_law_singles" rF f fd):b_ P w K mg base fj 1 f fd BC ue:=by
 refine F.o scSingles fun cdv A outer s H vs Q E hr h=> ?_;obtain⟨lp,ys,ps,rfl,hlp,hps,hz,q⟩:=h;refine⟨_,a_ (fe 1 scSingles.nd (bR cu)) (a_ (lZ (cj aB) (eY rfl (br (fq 2 scSingles.nd) (br (fq 3 scSingles.nd) dX))) (a_ (bu (dC bN (di bU) aJ) (bb (bg (xO bp (di bU)))) aX) (bb (bu (dC bN (di bU) aJ) (a_ (bg (xO bp (di bU))) (bb (bg (xO bp (di bU))))) aX)))) (bb (cE bp))),?_⟩;refine⟨ay _,fun l hl=> ?_⟩;have s0:=ah hl (.lst []);have lpl:lp≠l:=ba hlp hl;have lL:ys.length=ps.length:=aS hps;have singlen:∀i,(cK (ps.take i)).length<=2 * i:=by
  intro i
  induction i with
  | zero=>simp[cK]
  | succ i ih=>
    cases c:ps[i]? with
    | none=>
      have:ps.take (i+1)=ps.take i:=by rw[bH,c];simp
      rw[this];lia
    | some pq=>
      rw[mx c,ag];have:pq.2.things.length<=2:=by cases pq.2<;>simp[Sy.things]
      lia
 refine⟨⟨_,SqL.of (s0 _ _ hlp)⟩,cf (xs:=ys) (fun i σ H'=>(∃o2 o3,σ=[some (.ref lp),some (.ref l),o2,o3])/\Same H H'/\H' l=some (.lst ((cK (ps.take i)).map V.str))) ⟨⟨_,_,rfl⟩,s0,aa⟩ ?_ ?_ ?_⟩
 · rintro i σ H' _ ⟨_,sm,_⟩;exact SqL.of (sm _ _ hlp)
 · rintro i x σ H' hx ⟨⟨o2,o3,rfl⟩,sm,el⟩;obtain⟨pq,hpq,t,vs,rfl,ht,psy,xs,rfl,hpsy,hk⟩:=cG hps hx;have il:i<ps.length:=(aY.mp hpq).1;have sl:=singlen i;have e1:=mx hpq;refine⟨_,SqT.of (sm _ _ ht),rfl,?_⟩;obtain⟨nn,sy⟩:=pq;have spsy:=sm _ _ hpsy;have nl:psy≠l:=ba hpsy hl;have l5:((cK (ps.take i)).map V.str).length<=999:=by rw[ai];lia
   cases sy with
   | thing x1 k1=>
     obtain⟨v1,v2,rfl,i1,i2⟩:=se hk;obtain rfl:v1= .str x1:=i1;refine cI spsy rfl ⟨.inl ⟨rfl,_,SqL.of el⟩,cI spsy rfl ⟨_,el,bL (by lia),?_⟩⟩;refine cI ((aD nl).trans spsy) rfl ⟨⟨_,_,rfl⟩,eI sm hl,?_⟩;rw[aa,e1,bj]
     rfl
   | tied x1 x2 x3=>
     obtain⟨v1,v2,v3,rfl,i1,i2,i3⟩:=si hk;obtain rfl:v1= .str x1:=i1;obtain rfl:v3= .str x3:=i3;refine cI spsy rfl ?_;refine cI spsy rfl ⟨.inl ⟨rfl,_,SqL.of el⟩,cI spsy rfl ⟨_,el,bL (by lia),.inl ⟨rfl,_,SqL.of aa⟩,?_⟩⟩;refine cI ((aD nl).trans spsy) rfl ⟨_,aa,bL (by rw[ag];show _+1<=_;lia),⟨_,_,rfl⟩,?_,?_⟩
     · rw[uW];exact eI sm hl
     · rw[aa,e1,bj,cA]
       rfl
   | _=>
     iterate 2 refine cI spsy (aR (j:=0) rfl) ?_
     refine⟨⟨_,_,rfl⟩,sm,?_⟩;rw[e1];exact(qK _).symm ▸ el
 · rintro σ H' ⟨⟨o2,o3,rfl⟩,sm,el⟩;rw[lL,be] at el;exact(q l H' sm hl el)
end
inductive DD(vs:List V)(H:Hp)(Q:VK):Prop
 | mk:∀r vc sv f sy l sg,(vs=[.str (oH r),vc,sv,.ref l])->(IsF H f vc)->(Ig f)->(FJ H sy sv)->(H l=some (.lst (sg.map V.str)))->(kO r f sy sg=true)->(∀H',Same H H'->Q (.bl true) H')->DD vs H Q
def K_:Sp:=fun vs H Q _=>DD vs H Q
inductive DC(vs:List V)(H:Hp)(Q:VK):Prop
 | mk:∀r vc vo sv f o sy,(vs=[.str (oH r),vc,vo,sv])->(IsF H f vc)->(Ig f)->(IsF H o vo)->(Ig o)->(FJ H sy sv)->(iK r f o sy=true)->(∀H',Same H H'->Q (.bl true) H')->DC vs H Q
def K9:Sp:=fun vs H Q _=>DC vs H Q
inductive DB(vs:List V)(H:Hp)(Q:VK):Prop
 | mk:∀r vc vo vu sv f o u sy,(vs=[.str (oH r),vc,vo,vu,sv])->(IsF H f vc)->(Ig f)->(IsF H o vo)->(Ig o)->(IsF H u vu)->(Ig u)->(FJ H sy sv)->((∀s,sy=some s->s.lo 25))->(hX r f o u sy=true)->(∀H',Same H H'->Q (.bl true) H')->DB vs H Q
def K8:Sp:=fun vs H Q _=>DB vs H Q
theorem pj:∀l:List Str,(l.map V.str).all kP=true
 | []=>rfl
 | _::l=>by rw[bQ,fD,pj l];rfl
theorem wa(x:Str):∀l:List Str,yS (.str x) (l.map V.str)=decide (x∈l)
 | []=>by simp[yS]
 | y::l=>by
   have ih:=wa x l;unfold yS at ih⊢;rw[bQ,ir,ih];by_cases c:y=x
   · subst c;simp[Dg]
   · have c':¬ x=y:=fun z=>c z.symm;simp[Dg,c,c']
def jr(K:Frag):kitOne K (.type "tuple") (.type "tuple")=some true:=by first | rfl | decide | with_unfolding_all rfl
def JR(K:Frag):kitOne K (.type "str") (.type "tuple")=some false:=by first | rfl | decide | with_unfolding_all rfl
def Iz{A:Prop}{a:Tx}(e:a=b)(h:A):if decide (a=b)=true then A else B:=by rw[ao e];exact h
def JZ{A:Prop}{a:Tx}(e:a=b)(h:B):if(!decide (a=b))=true then A else B:=by rw[ao e];exact h
section
def mQ(lo:f.lo 25)(hu:IsF H f u)(hv:IsF H f v)(q:Q (.bl true) H):Lq u v H Q:=⟨f.tx,f.tx,hu.xa,hv.xa,Fa.dp60 lo,by rw[ao rfl];exact q⟩
def Ey(d:k.dep<=25)(hu:IsK H k u)(hv:IsK H k v)(q:Q (.bl false) H):Lp u v H Q:=⟨k.tx,k.tx,hu.xa,hv.xa,by rw[Kd.tx_dp];lia,by rw[ao rfl];exact q⟩
end
def from0_inv(h:kO r f sy sg=true):(r= .self/\sy=none/\∃x,f= .is x x/\eS x=false)\/(r= .all/\sy=none/\∃x,f= .is x C9/\(eS x=false\/∃y,x= .nm y/\y∈sg))\/(∃x k,r= .thing/\sy=some (.thing x k)/\f= .is (.nm x) k)\/∃x t y,r= .tied/\sy=some (.tied x t y)/\f= .has (.nm x) t (.nm y):=by
 unfold kO at h;cases sy with
 | none=>
   dsimp only at h
   split at h
   · rename_i e;simp only[aO,Az,bD] at h;exact .inl ⟨e,rfl,f.x,h.2,h.1⟩
   · split at h
     · rename_i e;simp only[aO,j5,Az,bD] at h;refine .inr (.inl ⟨e,rfl,f.x,h.1,h.2.imp id fun z=> ?_⟩);cases c:f.x with
       | nm y=>rw[c] at z;exact⟨y,rfl,bG z⟩
       | two _ _=>rw[c] at z;cases z
       | som _ _=>rw[c] at z;cases z
     · cases h
 | some s=>
   dsimp only at h
   split at h
   · rename_i e;cases s with
     | thing x k=>exact .inr (.inr (.inl ⟨x,k,e.symm,rfl,bG h⟩))
     | tied x t y=>exact .inr (.inr (.inr ⟨x,t,y,e.symm,rfl,bG h⟩))
     | _=>cases h
   · cases h
def from1_inv(h:iK r f o sy=true):(∃x a b,r= .every/\sy=some (.every a b)/\o= .is x a/\f= .is x b)\/(∃x y s t,r= .within/\sy=some (.within s t)/\o= .has x s y/\f= .has x t y)\/(∃x t k,r= .some/\sy=none/\o= .is x (.som t k)/\f= .has x t k)\/(∃x a b,r= .first/\sy=none/\o= .is x (.two a b)/\f= .is x a)\/∃x a b,r= .second/\sy=none/\o= .is x (.two a b)/\f= .is x b:=by
 unfold iK at h;cases sy with
 | some s=>
   cases s with
   | every a b=>
     dsimp only at h
     split at h
     · rename_i e;exact .inl ⟨o.x,a,b,e.1,rfl,e.2,bG h⟩
     · cases h
   | within s t=>
     cases o with
     | is _ _=>cases h
     | has x u y=>
       dsimp only at h
       split at h
       · rename_i e;obtain⟨e1,rfl⟩:=e;exact .inr (.inl ⟨x,y,u,t,e1,rfl,rfl,bG h⟩)
       · cases h
   | _=>cases h
 | none=>
   cases o with
   | has _ _ _=>cases h
   | is x k=>
     cases k with
     | nm _=>cases h
     | som t k=>
       simp only[aO,bD] at h;exact .inr (.inr (.inl ⟨x,t,k,h.1,rfl,rfl,h.2⟩))
     | two a b=>
       dsimp only at h
       split at h
       · rename_i e;exact .inr (.inr (.inr (.inl ⟨x,a,b,e,rfl,rfl,bG h⟩)))
       · simp only[aO,bD] at h;exact .inr (.inr (.inr (.inr ⟨x,a,b,h.1,rfl,rfl,h.2⟩)))
def s3:3<=sizeLine:=by decide
def s4:4<=sizeLine:=by decide
section
def scF0:bq ["_law_rule","_law_claim","_law_saying_here","_law_singles_here","_law_x"] Bz (aK zu):=gU
def LC(F:Fun K "_law_from_none" "_law_from_none" zu f fd)(Gsg:Cl P w K mg base 1 "_law_single" jh w9):b_ P w K mg base fj 2 f fd Bz K_:=by
 refine F.o scF0 fun cdv A outer s H vs Q E hr h=> ?_;obtain⟨r,vc,sv,f0,sy,l,sg,rfl,hf,⟨hlo,hlen⟩,hs,hl,hT,q⟩:=h;refine⟨_,a_ (fe 4 scF0.nd (di bp)) (a_ (bu (PW.pt (gG (dC mH bF dN) (hU (dC bN aB aJ)))) (bb (cE (eC (zJ (eB Gsg hr (eF bX))) (fJ (oO (fK hr.units) bp (cq (gD aJ bX bX))))))) aX) (a_ (bu (PW.pt (gG (dC mH bF dN) (hU (dC bN aB aJ)))) (bb (cE (eC (oO (fK hr.units) bp (cq (gD aJ bX aJ))) (fJ (Lu (zJ (eB Gsg hr (eF bX))) (fJ (oO uD bX bU))))))) aX) (a_ (bu (PW.pt (fW (dC mH bF dN) (gi (dC xR (di bF) aB)))) (bb (cE dI)) aX) (a_ (bu (dC bN aB aJ) (bb (cE (oO (fK hr.units) bp (cq (gD aJ (di bF) (di bF)))))) aX) (bb (cE (eC (oO bN aB aJ) (fJ (oO (fK hr.units) bp (bx GJ (cq (eF aJ)) (dM vh bF (ej aA) eU))))))))))),?_⟩;rcases from0_inv hT with⟨rfl,rfl,x,rfl,cs⟩ | ⟨rfl,rfl,x,rfl,cs⟩ | ⟨x,k,rfl,rfl,rfl⟩ | ⟨x,t,y,rfl,rfl,rfl⟩
 · obtain rfl:sv= .non:=hs;obtain⟨pf,a,b,rfl,hpf,ka,kb⟩:=id hf;refine(cI hpf rfl ?_);refine⟨rfl,(⟨a,x,rfl,ka,hlen,?_⟩)⟩;rw[cs];refine⟨s3,fun t ht=> ?_⟩;have s1:=ah ht (.tup [.str "is",a,a]);exact mQ hlo (hf.mono s1.tups) (gL ht ka ka) (q _ s1)
 · obtain rfl:sv= .non:=hs;obtain⟨pf,a,b,rfl,hpf,ka,kb⟩:=id hf;refine(cI hpf rfl ?_);refine⟨rfl,(?_)⟩;refine⟨rfl,(⟨s3,fun t ht=> ?_⟩)⟩;have s1:=ah ht (.tup [.str "is",a,.str "anything"]);refine mQ hlo (hf.mono s1.tups) (gL (k:=C9) ht ka rfl) (⟨a,x,rfl,ka.mono s1.tups,hlen,?_⟩);cases c:eS x with
   | false=>exact(q _ s1)
   | true=>
     obtain⟨y,rfl,hy⟩:=cs.resolve_left (by rw[c];exact Bool.noConfusion);obtain rfl:a= .str y:=ka;refine⟨l,_,rfl,.inl (SqL.of (s1 _ _ hl)),rfl,pj sg,?_⟩;show Q (.bl (yS (.str y) (sg.map V.str))) _;rw[wa,ao hy];exact q _ s1
 · obtain⟨pf,a,b,rfl,hpf,ka,kb⟩:=id hf;obtain⟨p,xs,rfl,hp,hk⟩:=hs;obtain⟨v1,v2,rfl,i1,i2⟩:=se hk;refine(cI hpf rfl ?_);refine⟨rfl,(⟨rfl,(⟨rfl,?_⟩)⟩)⟩;refine(cI hp rfl ?_);refine(cI hp rfl ?_);refine(cI hp rfl ?_);refine⟨s3,fun t ht=> ?_⟩;have s1:=ah ht (.tup [.str "is",v1,v2]);exact mQ hlo (hf.mono s1.tups) (gL ht i1 i2) (q _ s1)
 · obtain⟨pf,a,b,rfl,hpf,ka,kb⟩:=id hf;obtain⟨p,xs,rfl,hp,hk⟩:=hs;obtain⟨v1,v2,v3,rfl,i1,i2,i3⟩:=si hk;obtain rfl:v2= .str t:=i2;refine(cI hpf rfl ?_);refine⟨rfl,(⟨rfl,(⟨rfl,?_⟩)⟩)⟩;refine(cI hp rfl ?_);refine⟨by decide,fun t1 ht1=> ?_⟩;have s1:=ah ht1 (.tup [.str "has"]);refine⟨1,rfl,p,_,rfl,SqT.of (s1 _ _ hp),Jc _ _,fun t2 ht2=> ?_⟩;rw[Kg];have s2:=ah ht2 (.tup [v1,.str t,v3]);refine⟨t1,t2,_,_,rfl,rfl,SqT.of (s2 _ _ aa),SqT.of aa,by simp,s4,fun z=>(by cases z),fun _ t3 ht3=> ?_⟩;have s3':=ah ht3 (.tup ([.str "has"]++[v1,.str t,v3]));have s123:=(s1.trans s2).trans s3';exact mQ hlo (hf.mono s123.tups) (nW (t:=t) ht3 (i1.mono (s1.trans s2).tups) (i3.mono (s1.trans s2).tups)) (q _ s123)
def scF1:bq ["_law_rule","_law_claim","_law_one","_law_saying_here","_law_x","_law_kind_here"] BB (aK DR):=gU
def LB(F:Fun K "_law_from_one" "_law_from_one" DR f fd)(mi:mg "isinstance"=none)(mt:mg "tuple"=none):b_ P w K mg base fj 1 f fd BB K9:=by
 refine F.o scF1 fun cdv A outer s H vs Q E hr h=> ?_;obtain⟨r,vc,vo,sv,f0,o,sy,rfl,hf,⟨hlo,hlen⟩,ho,⟨hoo,hol⟩,hs,hT,q⟩:=h;refine⟨_,a_ (fe 4 scF1.nd (di bF)) (a_ (fe 5 scF1.nd (di bF)) (a_ (bu (dC jO bU dN) (a_ (bu (PW.pt (gG (dC bN aB aJ) (gG (dC bN (di bU) aJ) (hU (dC (fK hr.units) bF (cq (gD aJ bX (di bU)))))))) (bb (cE (oO (fK hr.units) bp (cq (gD aJ bX (di bU)))))) aX) (a_ (bu (PW.pt (gG (dC bN aB aJ) (gG (dC bN (di bU) aJ) (gG (dC bN (di bF) aJ) (hU (dC bN cX (di bU))))))) (bb (cE (oO (fK hr.units) bp (cq (jk aJ bX (di bU) (di bF)))))) aX) (bb (cE dI)))) aX) (a_ (bu (PW.pt (fW (dC bN (di bF) aJ) (gi (gH (eX (xK mi mt fQ cX)))))) (bb (cE dI)) aX) (a_ (bu (dC bN (di cX) aJ) (bb (cE (eC (oO bN aB aJ) (fJ (oO (fK hr.units) bp (cq (jk aJ bX (di cX) (di cX)))))))) aX) (a_ (bu (dC bN aB aJ) (bb (cE (oO (fK hr.units) bp (cq (gD aJ bX (di cX)))))) aX) (bb (cE (eC (oO bN aB aJ) (fJ (oO (fK hr.units) bp (cq (gD aJ bX (di cX))))))))))))),?_⟩;rcases from1_inv hT with⟨x,k1,k2,rfl,rfl,rfl,rfl⟩ | ⟨x,y,u,t,rfl,rfl,rfl,rfl⟩ | ⟨x,t,k,rfl,rfl,rfl,rfl⟩ | ⟨x,k1,k2,rfl,rfl,rfl,rfl⟩ | ⟨x,k1,k2,rfl,rfl,rfl,rfl⟩
 · obtain⟨po,a,b,rfl,hpo,ka,kb⟩:=id ho;obtain⟨p,xs,rfl,hp,hk⟩:=hs;obtain⟨v1,v2,rfl,i1,i2⟩:=se hk;refine(cI hpo rfl ?_);refine(cI hpo rfl ?_);refine⟨rfl,(?_)⟩;refine(cI hp rfl ?_);refine((cI hp rfl ?_));refine⟨s3,fun t ht=> ?_⟩;have s1:=ah ht (.tup [.str "is",a,v1]);refine mQ hoo (ho.mono s1.tups) (gL ht ka i1) ((cI (s1 _ _ hp) rfl ?_));refine⟨s3,fun t2 ht2=> ?_⟩;have s2:=ah ht2 (.tup [.str "is",a,v2]);exact mQ hlo (hf.mono (s1.trans s2).tups) (gL ht2 (ka.mono s1.tups) (i2.mono s1.tups)) (q _ (s1.trans s2))
 · obtain⟨po,a,b,rfl,hpo,ka,kb⟩:=id ho;obtain⟨p,xs,rfl,hp,hk⟩:=hs;obtain⟨v1,v2,rfl,i1,i2⟩:=se hk;obtain rfl:v1= .str u:=i1;obtain rfl:v2= .str t:=i2;refine(cI hpo rfl ?_);refine(cI hpo rfl ?_);refine⟨rfl,(?_)⟩;refine(cI hp rfl ?_);refine(cI hpo rfl ?_);refine((cI hp rfl ?_));refine oE rfl (ao rfl) (cI hp rfl ?_);refine(cI hpo rfl ?_);refine⟨s4,fun t2 ht2=> ?_⟩;have s2:=ah ht2 (.tup [.str "has",a,.str t,b]);exact mQ hlo (hf.mono s2.tups) (nW ht2 ka kb) (q _ s2)
 · obtain rfl:sv= .non:=hs;obtain⟨po,a,b,rfl,hpo,ka,kb⟩:=id ho;obtain⟨p2,y1,rfl,h2,k2⟩:=kb;refine(cI hpo rfl ?_);refine(cI hpo rfl ?_);refine⟨rfl,?_⟩;refine(cI hpo rfl ?_);refine(⟨_,_,_,true,rfl,TyOf.tup h2,jr K,?_⟩);refine(cI h2 rfl ?_);refine(((cI h2 rfl ?_)));refine(cI h2 rfl ?_);refine⟨s4,fun t2 ht2=> ?_⟩;have s2:=ah ht2 (.tup [.str "has",a,.str t,y1]);exact mQ hlo (hf.mono s2.tups) (nW ht2 ka k2) (q _ s2)
 · obtain rfl:sv= .non:=hs;obtain⟨po,a,b,rfl,hpo,ka,kb⟩:=id ho;obtain⟨p2,x1,y1,rfl,h2,j1,j2⟩:=kb;refine(cI hpo rfl ?_);refine(cI hpo rfl ?_);refine⟨rfl,?_⟩;refine(cI hpo rfl ?_);refine(⟨_,_,_,true,rfl,TyOf.tup h2,jr K,?_⟩);refine(cI h2 rfl ?_);refine(((cI h2 rfl ?_)));refine⟨s3,fun t2 ht2=> ?_⟩;have s2:=ah ht2 (.tup [.str "is",a,x1]);exact mQ hlo (hf.mono s2.tups) (gL ht2 ka j1) (q _ s2)
 · obtain rfl:sv= .non:=hs;obtain⟨po,a,b,rfl,hpo,ka,kb⟩:=id ho;obtain⟨p2,x1,y1,rfl,h2,j1,j2⟩:=kb;refine(cI hpo rfl ?_);refine(cI hpo rfl ?_);refine⟨rfl,?_⟩;refine(cI hpo rfl ?_);refine(⟨_,_,_,true,rfl,TyOf.tup h2,jr K,?_⟩);refine(cI h2 rfl ?_);refine((((cI h2 rfl ?_))));refine⟨s3,fun t2 ht2=> ?_⟩;have s2:=ah ht2 (.tup [.str "is",a,y1]);exact mQ hlo (hf.mono s2.tups) (gL ht2 ka j2) (q _ s2)
end
def from2_inv(h:hX r f o u sy=true):(∃x k l,r= .both/\sy=none/\o= .is x k/\u= .is x l/\f= .is x (.two k l))\/(∃x k l,r= .no/\sy=some (.no k l)/\o= .is x k/\u= .is x l/\f= .is x gI)\/(∃x y z t s c,r= .makes/\sy=some (.makes t s c)/\o= .has x t y/\u= .has y s z/\f= .has x c z)\/(∃x y t l,r= .tie/\sy=none/\o= .has x t y/\u= .is y l/\f= .is x (.som t l))\/∃x y t,r= .none/\sy=none/\o= .has x t y/\u= .is y gI/\f= .is x gI:=by
 unfold hX at h;cases o with
 | is x k=>
   cases u with
   | has _ _ _=>cases h
   | is z l=>
     dsimp only at h
     split at h
     · rename_i e;subst e;cases sy with
       | none=>
         simp only[aO,bD] at h;exact .inl ⟨z,k,l,h.1,rfl,rfl,rfl,h.2⟩
       | some s=>
         simp only[aO,bD] at h;obtain⟨h1,rfl,h3⟩:=h;exact .inr (.inl ⟨z,k,l,h1,rfl,rfl,rfl,h3⟩)
     · cases h
 | has x t y=>
   dsimp only at h
   split at h
   · rename_i e;cases sy with
     | some s=>
       cases u with
       | is _ _=>cases h
       | has a t2 y2=>
         obtain rfl:a=y:=e;cases s with
         | makes p q c=>
           dsimp only at h
           split at h
           · rename_i e2;obtain⟨e1,rfl,rfl⟩:=e2;exact .inr (.inr (.inl ⟨x,a,y2,p,q,c,e1,rfl,rfl,rfl,bG h⟩))
           · cases h
         | _=>cases h
     | none=>
       cases u with
       | has _ _ _=>cases h
       | is a l=>
         obtain rfl:a=y:=e;dsimp only at h
         split at h
         · rename_i e2;exact .inr (.inr (.inr (.inl ⟨x,a,t,l,e2,rfl,rfl,rfl,bG h⟩)))
         · simp only[aO,bD] at h;obtain⟨h1,rfl,h3⟩:=h;exact .inr (.inr (.inr (.inr ⟨x,a,t,h1,rfl,rfl,rfl,h3⟩)))
   · cases h
def Lc:¬ (HT.sIx 4 0 none=0/\HT.sIx 4 4 (some 3)=4):=by
 have h1:HT.sIx 4 4 (some ((3:Nat):Int))=3:=by rw[HT.sIx_nat];rfl
 rw[show(some 3:Option Int)=some ((3:Nat):Int) from rfl,h1]
 lia
def NH(x a b c:V):i_ [x,a,b,c] none (some 3)=[x,a,b]:=by
 have h1:HT.sIx 4 4 (some ((3:Nat):Int))=3:=by rw[HT.sIx_nat];rfl
 have h2:HT.sIx 4 0 none=0:=rfl;show([x,a,b,c].drop (HT.sIx 4 0 none)).take (HT.sIx 4 4 (some 3) - HT.sIx 4 0 none)=_;rw[show(some 3:Option Int)=some ((3:Nat):Int) from rfl,h1,h2]
 rfl
section
def scF2:bq ["_law_rule","_law_claim","_law_one","_law_two","_law_saying_here","_law_x"] BA (aK DQ):=gU
def Lz(F:Fun K "_law_from_two" "_law_from_two" DQ f fd):b_ P w K mg base fj 1 f fd BA K8:=by
 refine F.o scF2 fun cdv A outer s H vs Q E hr h=> ?_;obtain⟨r,vc,vo,vu,sv,f0,o,u,sy,rfl,hf,⟨hlo,hlen⟩,ho,⟨hoo,hol⟩,hu,⟨huo,hul⟩,hs,hsl,hT,q⟩:=h;refine⟨_,a_ (fe 5 scF2.nd (di bF)) (a_ (bu (dC bN (di bF) aJ) (a_ (bu (PW.pt (fW (dC bN (di bU) aJ) (gi (dC (vM hr.units) (di bU) cX)))) (bb (cE dI)) aX) (a_ (bu (dC mH bX dN) (bb (cE (eC (oO bN aB aJ) (fJ (oO (fK hr.units) bp (cq (gD aJ cX (cq (gD aJ (di bF) (di bU)))))))))) aX) (bb (cE (eC (oO bN aB aJ) (eC (oO (fK hr.units) bX (cq (gD aJ (di bF) (di bU)))) (fJ (oO (fK hr.units) bp (cq (gD aJ cX aJ)))))))))) aX) (a_ (bu (dC (vM hr.units) (di bU) (di bF)) (bb (cE dI)) aX) (a_ (bu (dC jO bX dN) (a_ (bu (PW.pt (fW (dC xR aB aJ) (fW (dC bN (di bU) aJ) (gi (dC (vM hr.units) (dM F9 bX eU (ej aA)) (cq (gD aJ (di bF) (di bU)))))))) (bb (cE dI)) aX) (bb (cE (oO (fK hr.units) bp (cq (jk aJ cX (di bX) (di bU))))))) aX) (a_ (bu (dC bN (di bU) aJ) (bb (cE dI)) aX) (a_ (bu (dC bN aB aJ) (bb (cE (oO (fK hr.units) bp (cq (gD aJ cX (cq (gD aJ (di bF) (di bU)))))))) aX) (bb (cE (eC (oO bN aB aJ) (eC (oO (fK hr.units) (di bU) aJ) (fJ (oO (fK hr.units) bp (cq (gD aJ cX aJ))))))))))))),?_⟩;rcases from2_inv hT with⟨x,k,l,rfl,rfl,rfl,rfl,rfl⟩ | ⟨x,k,l,rfl,rfl,rfl,rfl,rfl⟩ | ⟨x,y,z,t,t2,c,rfl,rfl,rfl,rfl,rfl⟩ | ⟨x,y,t,l,rfl,rfl,rfl,rfl,rfl⟩ | ⟨x,y,t,rfl,rfl,rfl,rfl,rfl⟩
 · obtain rfl:sv= .non:=hs;obtain⟨po,a,b,rfl,hpo,ha,hb⟩:=id ho;obtain⟨pu,a2,b2,rfl,hpu,ha2,hb2⟩:=id hu;refine(cI hpo rfl ?_);refine(cI hpo rfl ?_);refine(cI hpu rfl ?_);refine(cI hpu rfl ?_);refine onV.of rfl (Ey huo.1 ha2 ha ⟨rfl,?_⟩);refine(cI hpo rfl ?_);refine(cI hpu rfl ?_);refine⟨s3,fun t1 ht1=>⟨s3,fun t2 ht2=> ?_⟩⟩;have s1:=ah ht1 (.tup [.str "both",b,b2]);have s2:=ah ht2 (.tup [.str "is",a,.ref t1]);exact mQ hlo (hf.mono (s1.trans s2).tups) (gL ht2 (ha.mono s1.tups) ⟨t1,b,b2,rfl,aa,hb.mono s1.tups,hb2.mono s1.tups⟩) (q _ (s1.trans s2))
 · obtain⟨po,a,b,rfl,hpo,ha,hb⟩:=id ho;obtain⟨pu,a2,b2,rfl,hpu,ha2,hb2⟩:=id hu;obtain⟨p,xs,rfl,hp,hk⟩:=id hs;refine(cI hpo rfl ?_);refine(cI hpo rfl ?_);refine(cI hpu rfl ?_);refine(cI hpu rfl ?_);refine onV.of rfl (Ey huo.1 ha2 ha ⟨rfl,?_⟩);refine(cI hpo rfl ?_);refine(cI hpu rfl ?_);refine⟨s3,fun t1 ht1=> ?_⟩;have s1:=ah ht1 (.tup [.str "no",b,b2]);have i1:IsSy _ (Sy.no k l) (.ref t1):=⟨t1,[b,b2],rfl,aa,.cons (hb.mono s1.tups) (.cons (hb2.mono s1.tups) .nil)⟩;refine⟨(Sy.no k l).tx,(Sy.no k l).tx,(IsSy.mono s1.tups hs).xa,i1.xa,Sy.dp60 (hsl _ rfl),Iz rfl ⟨s3,fun t2 ht2=> ?_⟩⟩;have s2:=ah ht2 (.tup [.str "is",a,.str "nothing"]);exact mQ hlo (hf.mono (s1.trans s2).tups) (gL (k:=gI) ht2 (ha.mono s1.tups) rfl) (q _ (s1.trans s2))
 · obtain⟨po,a,b,rfl,hpo,ha,hb⟩:=id ho;obtain⟨pu,a2,b2,rfl,hpu,ha2,hb2⟩:=id hu;obtain⟨p,xs,rfl,hp,hk⟩:=id hs;obtain⟨v1,v2,v3,rfl,i1,i2,i3⟩:=si hk;obtain rfl:v1= .str t:=i1;obtain rfl:v2= .str t2:=i2;obtain rfl:v3= .str c:=i3;refine(cI hpo rfl ?_);refine(cI hpo rfl ?_);refine(cI hpu rfl ?_);refine(cI hpo rfl ?_);refine Ey huo.1 ha2 hb ⟨rfl,?_⟩;refine(cI hpu rfl ?_);refine(⟨3,rfl,p,_,rfl,SqT.of hp,fun z=>(Lc z).elim,fun _ t1 ht1=> ?_⟩);rw[show i_ (V.str (oH (Sy.makes t t2 c).hd)::[V.str t,.str t2,.str c]) none (some 3)=[V.str (oH Ru.makes),.str t,.str t2] from NH _ _ _ _];have s1:=ah ht1 (.tup [.str (oH Ru.makes),.str t,.str t2]);refine(cI (s1 _ _ hpo) rfl ?_);refine(cI (s1 _ _ hpu) rfl ?_);refine⟨s3,fun t3 ht3=> ?_⟩;have s2:=ah ht3 (.tup [.str "makes",.str t,.str t2]);have s12:=s1.trans s2;refine⟨.tup [.str "makes",.str t,.str t2],.tup [.str "makes",.str t,.str t2],⟨t1,_,rfl,s2 _ _ aa,_,_,rfl,rfl,_,_,rfl,rfl,_,_,rfl,rfl,rfl⟩,⟨t3,_,rfl,aa,_,_,rfl,rfl,_,_,rfl,rfl,_,_,rfl,rfl,rfl⟩,by show 1<=60;decide,JZ rfl ?_⟩;refine(cI (s12 _ _ hp) rfl ?_);refine(cI (s12 _ _ hpu) rfl ?_);refine⟨s4,fun t4 ht4=> ?_⟩;have s4':=ah ht4 (.tup [.str "has",a,.str c,b2]);exact mQ hlo (hf.mono (s12.trans s4').tups) (nW ht4 (ha.mono s12.tups) (hb2.mono s12.tups)) (q _ (s12.trans s4'))
 · obtain rfl:sv= .non:=hs;obtain⟨po,a,b,rfl,hpo,ha,hb⟩:=id ho;obtain⟨pu,a2,b2,rfl,hpu,ha2,hb2⟩:=id hu;refine(cI hpo rfl ?_);refine(cI hpo rfl ?_);refine(cI hpu rfl ?_);refine(cI hpo rfl ?_);refine Ey huo.1 ha2 hb (⟨rfl,?_⟩);refine(cI hpu rfl ?_);refine(cI hpo rfl ?_);refine(cI hpu rfl ?_);refine⟨s3,fun t1 ht1=>⟨s3,fun t2 ht2=> ?_⟩⟩;have s1:=ah ht1 (.tup [.str "some",.str t,b2]);have s2:=ah ht2 (.tup [.str "is",a,.ref t1]);exact mQ hlo (hf.mono (s1.trans s2).tups) (gL ht2 (ha.mono s1.tups) ⟨t1,b2,rfl,aa,hb2.mono s1.tups⟩) (q _ (s1.trans s2))
 · obtain rfl:sv= .non:=hs;obtain⟨po,a,b,rfl,hpo,ha,hb⟩:=id ho;obtain⟨pu,a2,b2,rfl,hpu,ha2,hb2⟩:=id hu;obtain rfl:b2= .str "nothing":=hb2;refine(cI hpo rfl ?_);refine(cI hpo rfl ?_);refine(cI hpu rfl ?_);refine(cI hpo rfl ?_);refine Ey huo.1 ha2 hb (⟨rfl,?_⟩);refine(cI hpu rfl ?_);refine(cI hpu rfl ?_);refine⟨.str "nothing",.str "nothing",rfl,rfl,ay _,Iz rfl ⟨s3,fun t2 ht2=> ?_⟩⟩;have s2:=ah ht2 (.tup [.str "is",a,.str "nothing"]);exact mQ hlo (hf.mono s2.tups) (gL (k:=gI) ht2 ha rfl) (q _ s2)
end
inductive xk(vs:List V)(H:Hp)(Q:VK):Prop
 | mk:∀(ls lp lsg:Addr) (at':Nat) (xs ys:List V) (ss:List p_) (s:p_) (r:Ru) (ps:List (Int × Sy)) (sg:List Str),(vs=[.ref ls,.int (at':Int),.ref lp,.ref lsg])->(H ls=some (.lst xs))->(StL [] H xs ss)->(ss[at']? =some s)->(s.r=oH r)->(pY r s at' ss ps sg=true)->(s.fr.length<=2)->((∀t∈ss,Ig t.f))->(H lp=some (.lst ys))->(PrL H ys ps)->((∀q∈ps,q.2.lo 25))->(H lsg=some (.lst (sg.map V.str)))->(∀H',Same H H'->Q (.bl true) H')->xk vs H Q
def DA:Sp:=fun vs H Q _=>xk vs H Q
def Fe(h:pY r s a ss ps sg=true):(∀i∈s.fr,0<=i/\i<(a:Int))/\(s.n.isSome=true->(fc ps s.n).isNone=false)/\yx r s.f (s.fr.map (fU ss)) (fc ps s.n) sg=true:=by
 unfold pY at h
 split at h
 · cases h
 · rename_i h1
   split at h
   · cases h
   · rename_i h2;refine⟨fun i hi=> ?_,fun z=> ?_,h⟩
     · have:=dH.mp (Bool.of_not_eq_false h1) i hi;unfold E4 at this;simp only[aO,bD] at this;exact this
     · cases c:fc ps s.n with
       | none=>exact absurd ⟨z,c⟩ h2
       | some _=>rfl
def CL{ps:List (Int × Sy)}(h:ps[i]? =some q)(n:Int):rZ (ps.take (i+1)) n=if q.1=n then some q.2 else rZ (ps.take i) n:=by
 unfold rZ;rw[bH,h,fz]
 rfl
def ER:rZ ps n=some s->∃q∈ps,q.2=s:=by
 have:∀(l:List (Int × Sy)) (o:Option Sy),l.foldl (fun o q=>if q.1=n then some q.2 else o) o=some s->o=some s\/∃q∈l,q.2=s:=by
  intro l
  induction l with
  | nil=>intro o h;exact .inl h
  | cons q l ih=>
    intro o h;rcases ih _ h with h | ⟨q',hq,e⟩
    · replace h:(if q.1=n then some q.2 else o)=some s:=h;by_cases c:q.1=n
      · rw[aH c] at h
        injection h with h
        exact .inr ⟨q,by simp,h⟩
      · rw[aE c] at h;exact .inl h
    · exact .inr ⟨q',by simp[hq],e⟩
 intro h;rcases this ps none h with h | h
 · cases h
 · exact h
theorem IV:∀{s:Option Sy} {v:V},FJ H s v->decide (v= .non)=s.isNone
 | none,_,h=>by cases h;rfl
 | some _,_,⟨p,xs,e,_⟩=>by subst e;rfl
section
def scFine:bq ["_law_steps","_law_at","_law_pairs","_law_singles_here","_law_claim","_law_rule","_law_froms","_law_number","_law_olds","_law_low","_law_saying_here","_law_own","_law_told"] By (aK DP):=gU
def GR(F:Fun K "_law_fine" "_law_fine" DP f fd)(ml:mg "len"=none)(Gf0:Cl P w K mg base 2 "_law_from_none" Bz K_)(Gf1:Cl P w K mg base 1 "_law_from_one" BB K9)(Gf2:Cl P w K mg base 1 "_law_from_two" BA K8):b_ P w K mg base fj 3 f fd By DA:=by
 refine F.o scFine fun cdv A outer s H vs Q E hr h=> ?_;obtain⟨ls,lp,lsg,at',xs,ys,ss,st,r,ps,sg,rfl,hl,hss,hst,hru,hT,l2,hok,hlp,hps,hpo,hlsg,q⟩:=h;refine⟨_,a_ (kr (j7 bY aB bp) (eY rfl (br (fq 4 scFine.nd) (br (fq 5 scFine.nd) (br (fq 6 scFine.nd) (br (fq 7 scFine.nd) dX)))))) (a_ (fe 8 scFine.nd (bR cu)) (a_ (lZ (cj eK) (fq 9 scFine.nd) (a_ (bu (PW.pt (fW (dC l9 oJ aA) (gi (dC Lw oJ bp)))) (bb (cE dI)) aX) (bb (bg (xO gh (di (j7 bY aB oJ))))))) (a_ (fe 10 scFine.nd dN) (a_ (lZ (cj bF) (eY rfl (br (fq 11 scFine.nd) (br (fq 12 scFine.nd) dX))) (bb (bu (PW.pt (gG (dC jO iZ dN) (hU (dC bN (pv 11) iZ)))) (bb (fe 10 scFine.nd (pv 12))) aX))) (a_ (bu (PW.pt (fW (PW.pt (gG (dC jO iZ dN) (hU (dC mH jY dN)))) (gi (dC Eb (oj ml gh) aA)))) (bb (cE dI)) aX) (a_ (bu (dC bN (oj ml gh) aA) (bb (cE (eB Gf0 hr (jk cX bX jY bU)))) aX) (a_ (bu (dC bN (oj ml gh) aA) (bb (cE (eB Gf1 hr (jk cX bX (wH gh) jY)))) aX) (bb (cE (eB Gf2 hr (bZ cX (jk bX (wH gh) (wH gh) jY)))))))))))),?_⟩;obtain⟨hin,hno,hR⟩:=Fe hT;obtain⟨v,hv,p,pf,vf,rfl,hp,hf,hpf,_⟩:=jj hss hst;have hokf:=hok st (ar hst);have hatl:at'<ss.length:=(aY.mp hst).1;rw[hru] at hp;refine⟨_,_,SqL.of hl,aR hv,_,SqT.of hp,rfl,?_⟩;refine⟨ay _,fun D hD=> ?_⟩;have sD:=ah hD (.lst []);refine⟨⟨_,SqL.of (sD _ _ hpf)⟩,cf (xs:=st.fr.map V.int) (fun i σ H'=>(∃o9,σ=[some (.ref ls),some (.int (at':Int)),some (.ref lp),some (.ref lsg),some vf,some (.str (oH r)),some (.ref pf),some (mJ st.n),some (.ref D),o9,none,none,none])/\Same H H'/\∃tl,H' D=some (.lst tl)/\FL H' tl ((st.fr.take i).map (fU ss))) ⟨⟨_,rfl⟩,sD,[],aa,.nil⟩ ?_ ?_ ?_⟩
 · rintro i σ H' _ ⟨_,sm,_⟩;exact SqL.of (sm _ _ hpf)
 · rintro i x σ H' hx ⟨⟨o9,rfl⟩,sm,tl,eD,hL⟩;rw[aQ] at hx;obtain⟨j,hj,rfl⟩:=bP.mp hx;obtain⟨n0,n1⟩:=hin j (ar hj);have hi:i<st.fr.length:=(aY.mp hj).1;have n2:j.toNat<ss.length:=by lia
   obtain⟨v2,hv2,p2,pf2,vf2,rfl,hp2,hf2,_,_⟩:=jj hss (aw n2);have ix:tJ xs j=some (.ref p2):=by
    have:=aR (xs:=xs) (j:=j.toNat) hv2
    rwa [show((j.toNat:Nat):Int)=j by lia] at this
   have ltl:=aS hL;rw[ai,cJ] at ltl;have tD:Tups H' (upd H' D (.lst (tl++[vf2]))):=wO eD;show if decide (j<0)=true then _ else _
   rw[aj (show ¬ j<0 by lia)];show if decide (j≥(at':Int))=true then _ else _
   rw[aj (show ¬ j≥(at':Int) by lia)];refine⟨.inl ⟨rfl,_,SqL.of eD⟩,_,_,SqL.of (sm _ _ hl),ix,cI (sm _ _ hp2) rfl ⟨_,eD,bL (by lia),⟨_,rfl⟩,eI sm hD,tl++[vf2],aa,?_⟩⟩;rw[bH,hj,bj];refine mG (FL.mono tD hL) (.cons ?_ .nil);unfold fU;rw[aw n2];exact(hf2.mono sm.tups).mono tD
 rintro σ H1 ⟨⟨o9,rfl⟩,s1,tl,eD,hL⟩;rw[ai,be] at hL;have lL:ys.length=ps.length:=aS hps;refine⟨⟨_,SqL.of (s1 _ _ hlp)⟩,cf (xs:=ys) (fun i σ H'=>H'=H1/\∃o11 o12 vs,σ=[some (.ref ls),some (.int (at':Int)),some (.ref lp),some (.ref lsg),some vf,some (.str (oH r)),some (.ref pf),some (mJ st.n),some (.ref D),o9,some vs,o11,o12]/\FJ H1 (fc (ps.take i) st.n) vs) ⟨rfl,_,_,_,rfl,by cases st.n<;>rfl⟩ ?_ ?_ ?_⟩
 · rintro i σ H' _ ⟨rfl,_⟩;exact SqL.of (s1 _ _ hlp)
 · rintro i x σ H' hx ⟨rfl,o11,o12,vs,rfl,hso⟩;obtain⟨pq,hpq,t,vy,rfl,ht,hsy⟩:=cG hps hx;refine⟨_,SqT.of (s1 _ _ ht),rfl,?_⟩;refine⟨rfl,?_⟩;cases hn:st.n with
   | none=>
     rw[hn] at hso;exact(⟨rfl,_,_,vs,rfl,hso⟩)
   | some n=>
     rw[hn] at hso;have e1:fc (ps.take (i+1)) (some n)=if pq.1=n then some pq.2 else fc (ps.take i) (some n):=CL hpq n
     refine fY (fun c=> ?_) (fun c=> ?_)
     · have c':pq.1=n:=by have:=bG c;injection this
       refine⟨rfl,_,_,vy,rfl,?_⟩;rw[e1,aH c'];exact hsy.mono s1.tups
     · have c':¬ pq.1=n:=fun y=>c (by rw[y];exact ao rfl);refine⟨rfl,_,_,vs,rfl,?_⟩;rw[e1,aE c'];exact hso
 rintro σ H' ⟨rfl,o11,o12,vs,rfl,hso⟩;rw[lL,be] at hso;have ltl:tl.length=st.fr.length:=by
  have:=aS hL;rw[ai] at this;exact this
 have lo8:∀sy,fc ps st.n=some sy->sy.lo 25:=fun sy e=>by
  cases hn:st.n with
  | none=>rw[hn] at e;cases e
  | some n=>
    rw[hn] at e;obtain⟨q',hq',rfl⟩:=ER e;exact hpo q' hq'
 have lofs:∀f∈st.fr.map (fU ss),Ig f:=fun f hf=>by
  obtain⟨i,hi,rfl⟩:=bS.mp hf;have:=hin i hi;unfold fU;rw[aw (show i.toNat<ss.length by lia)];exact hok _ (cU _)
 refine⟨rfl,?_⟩;rw[show decide (mJ st.n= .non)=st.n.isNone by cases st.n<;>rfl];rcases hor:st.n.isNone with _ | _
 rotate_left
 rotate_left
 refine⟨rfl,?_⟩;rw[IV hso,hno (by cases hn:st.n with | none=>rw[hn] at hor;cases hor | some _=>rfl)]
 all_goals
  refine⟨D,_,rfl,.inl (SqL.of eD),?_⟩;show if decide (((tl.length:Nat):Int)>2)=true then _ else _
  rw[aj (show ¬ ((tl.length:Nat):Int)>2 by lia)];refine⟨D,_,rfl,.inl (SqL.of eD),?_⟩;have h012:tl.length=0\/tl.length=1\/tl.length=2:=by lia
  have lfs:(st.fr.map (fU ss)).length=tl.length:=by rw[ai,ltl]
  rcases h012 with h | h | h
  · obtain⟨rfl,ef⟩:=Oe hL (lfs.trans h);rw[ef] at hR;exact⟨r,vf,vs,st.f,fc ps st.n,lsg,sg,rfl,hf.mono s1.tups,hokf,hso,s1 _ _ hlsg,hR,fun H2 s2=>q H2 (s1.trans s2)⟩
  · obtain⟨v1,o1,rfl,ef,hv1⟩:=Od hL (lfs.trans h);rw[ef] at hR;exact⟨D,_,rfl,.inl (SqL.of eD),⟨_,_,SqL.of eD,aR (j:=0) rfl,r,vf,v1,vs,st.f,o1,fc ps st.n,rfl,hf.mono s1.tups,hokf,hv1,lofs o1 (by rw[ef];simp),hso,hR,fun H2 s2=>q H2 (s1.trans s2)⟩⟩
  · obtain⟨v1,v2,o1,o2,rfl,ef,hv1,hv2⟩:=OP hL (lfs.trans h);rw[ef] at hR;exact⟨D,_,rfl,.inl (SqL.of eD),⟨_,_,SqL.of eD,aR (j:=0) rfl,_,_,SqL.of eD,aR (j:=1) rfl,r,vf,v1,v2,vs,st.f,o1,o2,fc ps st.n,rfl,hf.mono s1.tups,hokf,hv1,lofs o1 (by rw[ef];simp),hv2,lofs o2 (by rw[ef];simp),hso,lo8,hR,fun H2 s2=>q H2 (s1.trans s2)⟩⟩
end
inductive xm(K:Frag)(vs:List V)(H:Hp)(Q:VK):Prop
 | mk:∀(a:Addr) (ns:List Int) (i:Int),(vs=[.ref a,.int i])->(SqL K H a (ns.map V.int))->(0<=i)->(∀r:Int,Q (.int r) H)->xm K vs H Q
def DE(K:Frag):Sp:=fun vs H Q _=>xm K vs H Q
section
def I0:bq xG xG (aK DT):=gU
def GT(F:Fun K "_law_cell" "_law_cell" DT f fd)(ml:mg "len"=none):b_ P w K mg base fj 1 f fd xG (DE K):=by
 refine F.o I0 fun cdv A outer s H vs Q E hr h=> ?_;obtain⟨a,ns,i,rfl,hS,h0,q⟩:=h;refine⟨_,a_ (by exact bu (qy l9 bp (dB jU rfl ml tK (eL aB cu)) (rT _)) (f_ (gY (ji bY aB bp (fun _ _=>rfl)))) aX) (bb (by exact gY aA)),?_⟩;refine⟨a,_,rfl,.inl hS,fY (fun h=> ?_) (fun h=>q 0)⟩;have h':i<((ns.map V.int).length:Int):=bG h;rw[ai] at h';have hi:i.toNat<ns.length:=by lia
 have z:tJ (ns.map V.int) ((i.toNat:Nat):Int)=some (.int ns[i.toNat]):=aR (by rw[aQ,aw hi];rfl);rw[show((i.toNat:Nat):Int)=i by lia] at z;exact⟨_,_,hS,z,q _⟩
end
noncomputable def kept:List Str:=["anything","nothing","every","no","is","tie","within","then","makes","both","some"]
noncomputable abbrev az:Str:="abcdefghijklmnopqrstuvwxyz"
noncomputable def E_(i:Nat):Bool:=i==2 || i==3 || i==5 || i==9 || i==11 || i==15 || i==16 || i==20 || i==23 || i==25
def E8:∀w'∈kept,∀c∈w'.cps.toList,E_ (c - 97)=false:=by decide+kernel
def E9(hc:c∈z.cps.toList)(hg:E_ (c - 97)=true):yS (.str z) (kept.map V.str)=false:=by
 cases e:yS (.str z) (kept.map V.str) with
 | false=>rfl
 | true=>
   exfalso
   unfold yS at e;rw[List.any_eq_true] at e;obtain⟨y,hy,e⟩:=e;obtain⟨w',hw,rfl⟩:=bS.mp hy;have:w'=z:=by simpa[Dg] using e
   subst this;have:=E8 w' hw c hc;rw[this] at hg;cases hg
def L6{i:Nat}(h:i<26):tJ (az).cps.toList (i:Int)=some (97+i):=by
 have e:(az).cps.toList=List.range' 97 26:=by decide+kernel
 rw[e];exact aR (by rw[NV h];simp)
def Kn:(az).length=26:=by decide+kernel
def uI:(kept.map V.str).all kP=true:=by decide+kernel
def Cc(z:Str):Prop:=∀c∈z.cps.toList,97<=c/\c<=122
def F8:Cc ⟨#[]⟩:=fun c h=>by simp at h
def vd(ha:Cc a)(hb:Cc b):Cc (a++b):=fun c h=>by
 rw[lO] at h;simp only[Os,av] at h;exact h.elim (ha c) (hb c)
def jA(h:Cc z):Cc (Txt.slice z lo hi):=fun c hc=>by
 rw[jB] at hc;exact h c (NS (gS hc))
def DH(h:j<26):Cc ⟨#[97+j]⟩:=fun c hc=>by
 have:c=97+j:=by simpa using hc
 lia
def BM{a:Str}(h:c∈a.cps.toList\/c∈b.cps.toList):c∈(a++b).cps.toList:=by
 rw[lO];simpa using h
def wd(z:Str):Prop:=1<=z.length/\z.length<=12/\Cc z
def LV(n:Nat):Hd (n+1) 0=some 0:=by
 unfold Hd;simp
inductive xl(vs:List V)(H:Hp)(Q:VK):Prop
 | mk:∀b x m rest,(vs=[.ref b,.int m])->(H b=some (.lst (.int x::rest)))->(0<m)->(∀x' r,0<=r->r<m->Q (.int r) (upd H b (.lst (.int x'::rest))))->xl vs H Q
def ow:Sp:=fun vs H Q _=>xl vs H Q
inductive t8(vs:List V)(H:Hp)(Q:VK):Prop
 | mk:∀c m:Int,(vs=[.int c,.int m])->(0<m)->(m<=24)->(∀(p:Addr) (H':Hp) (ws:List Str),Same H H'->H p=none->H' p=some (.lst (ws.map V.str))->(ws.length:Int)<=m->1<=ws.length->(m<=3->(ws.length:Int)=m)->(∀z∈ws,wd z)->Q (.ref p) H')->t8 vs H Q
def u3:Sp:=fun vs H Q _=>t8 vs H Q
def LI:((([("_law_k":Str)]:List Str)++[("_law_word":Str),("_law_taken":Str)]):List Str).Nodup:=by decide+kernel
def OJ:((([("_law_word":Str)]:List Str)++[]):List Str).Nodup:=by decide+kernel
def jI(z:Str)(k:Nat):(Txt.slice z none (some (k:Int))).length=min k z.length:=by
 have e:=congrArg List.length (jB z none (some (k:Int)));have hz:z.cps.toList.length=z.length:=by simp[Str.length]
 have hs:(Txt.slice z none (some (k:Int))).cps.toList.length=(Txt.slice z none (some (k:Int))).length:=by simp[Str.length]
 rw[hs,cJ,e_,hz,HT.sIx_nat] at e;have e2:HT.sIx z.length 0 none=0:=rfl;rw[e2] at e
 lia
def rB(z:Str)(k:Nat):(Txt.slice z (some (k:Int)) none).length=z.length - k:=by
 have e:=congrArg List.length (jB z (some (k:Int)) none);have hz:z.cps.toList.length=z.length:=by simp[Str.length]
 have hs:(Txt.slice z (some (k:Int)) none).cps.toList.length=(Txt.slice z (some (k:Int)) none).length:=by simp[Str.length]
 rw[hs,cJ,e_,hz,HT.sIx_nat] at e;have e2:HT.sIx z.length z.length none=z.length:=rfl;rw[e2] at e
 lia
noncomputable def gj(z:Str)(k:Nat)(c:Nat):Str:=Txt.slice z none (some (k:Int))++⟨#[c]⟩++Txt.slice z (some ((k:Int)+1)) none
def CH(hz:Cc z)(hl:z.length<=12)(hk:k<z.length)(h1:97<=c)(h2:c<=122):wd (gj z k c):=by
 have e1:=jI z k;have e2:=rB z (k+1);rw[show(((k+1:Nat):Int))=(k:Int)+1 by lia] at e2;have e3:(gj z k c).length=(Txt.slice z none (some (k:Int))).length+1+(Txt.slice z (some ((k:Int)+1)) none).length:=by
  unfold gj;rw[bK,bK];rfl
 refine⟨by lia,by lia,vd (vd (jA hz) ?_) (jA hz)⟩;intro d hd;have:d=c:=by simpa using hd
 lia
def Fn(ws:List Str){m:Int}(h:0<=m):i_ (ws.map V.str) none (some m)=(ws.take m.toNat).map V.str:=by
 have h1:HT.sIx (ws.map V.str).length (ws.map V.str).length (some ((m.toNat:Nat):Int))=min m.toNat (ws.map V.str).length:=HT.sIx_nat _ _ _;have h2:HT.sIx (ws.map V.str).length 0 none=0:=rfl;rw[show((m.toNat:Nat):Int)=m by lia] at h1;unfold i_;rw[h1,h2,tP,Mf,List.map_take];rcases Aw m.toNat (ws.map V.str).length with g | g
 · rw[FF g]
 · rw[C_ g,cS (au _),cS g]
def Dp{ws:List Str}(ha:a∈ws)(hb:b∈ws)(hc:c∈ws)(ab:a≠b)(ac:a≠c)(bc:b≠c):3<=ws.length:=by
 match ws with
 | []=>simp at ha
 | [x]=>
   simp only[af] at ha hb;exact absurd (ha.trans hb.symm) ab
 | [x,y]=>
   simp only[aL,ak,cH] at ha hb hc;rcases ha with rfl | rfl<;>rcases hb with rfl | rfl<;>rcases hc with rfl | rfl<;>first | exact absurd rfl ab | exact absurd rfl ac | exact absurd rfl bc
 | _::_::_::r=>simp only[aV];lia
def Ko(h:(az).cps[i]? =some c):i<26/\c=97+i:=by
 have e:(az).cps.toList=List.range' 97 26:=by decide+kernel
 have h':(az).cps.toList[i]? =some c:=by simpa using h
 rw[e] at h';obtain⟨h1,h2⟩:=aY.mp h';rw[List.length_range'] at h1;rw[List.getElem_range'] at h2;exact⟨h1,by lia⟩
def zX(z:Str)(k c:Nat):c∈(gj z k c).cps.toList:=BM (.inl (BM (.inr (by simp))))
def mK(h:gj z k c=gj z k d):c=d:=by
 unfold gj at h;have h':=congrArg (fun s:Str=>s.cps.toList) h;simp only[lO,Os] at h';have h2:=List.append_cancel_right h';have h3:=List.append_cancel_left h2;simpa using h3
section
def IZ:bq vG vG (aK DS):=gU
def GS(F:Fun K "_law_draw" "_law_draw" DS f fd):b_ P w K mg base fj 1 f fd vG ow:=by
 refine F.o IZ fun cdv A outer s H vs Q E hr h=> ?_;obtain⟨b,x,m,rest,rfl,hb,hm,q⟩:=h;refine⟨_,a_ (kr (bx eZ (bx gZ (bx zL (wH aB) aA) aA) aA) (zI aB aA rD)) (bb (cE (bx eZ (bx eV (wH aB) aA) bp))),?_⟩;refine⟨_,_,SqL.of hb,aR (j:=0) rfl,.inr ⟨by decide,by decide⟩,(show(0:Int)<2147483647 by decide),b,_,0,0,rfl,rfl,hb,LV _,?_⟩;refine⟨_,_,SqL.of aa,aR (j:=0) rfl,⟨by decide,by decide⟩,hm,?_⟩;exact q _ _ (d4 _ (by lia)) (ee _ hm)
def scWords:bq ["_law_cell_here","_law_many","_law_letters","_law_taken","_law_size","_law_rest","_law_word","_law_k","_law_made","_law_spot","_law_letter","_law_name"] vF (aK zf):=gU
def Ec(F:Fun K "_law_words" "_law_words" zf f fd)(ml:mg "len"=none)(mr:mg "range"=none):b_ P w K mg base fj 1 f fd vF u3:=by
 refine F.o scWords fun cdv A outer s H vs Q E hr h=> ?_;obtain⟨c,m,rfl,hm0,hm3,q⟩:=h;refine⟨_,@fI _ _ _ _ _ (fe 2 scWords.nd aJ) (@fI _ _ _ _ _ (@DX _ _ 3 _ _ _ _ scWords.nd rfl (Or.inr rfl) (@bR _ _ _ _ (@BJ _ _ kept rfl)) rfl (.inl rfl)) (@fI _ _ _ _ _ (fe 4 scWords.nd (bx gZ aA (bx eZ aB aA))) (@fI _ _ _ _ _ (fe 5 scWords.nd (bx eZ (bx eV aB aA) (bx Ea aA aA))) (@fI _ _ _ _ _ (fe 6 scWords.nd aJ) (@vI _ _ _ _ _ (lZ (fN rfl mr (eF bX)) (fq 7 scWords.nd) (@fI _ _ _ _ _ (fe 6 scWords.nd (bx iS eK (j7 v_ bF (bx eZ cX aA)))) (@f_ _ _ _ (fe 5 scWords.nd (bx gZ (bx eV cX aA) (bx zL aA iZ)))))) (@fI _ _ _ _ _ (fe 8 scWords.nd (bR cu)) (@vI _ _ _ _ _ (bu (dC bN (bx eZ (bx eV aB aA) aA) aA) (@f_ _ _ _ (fe 8 scWords.nd (dM nH (jN rN ["_law_word","_law_taken"] [6,3] rfl (Cn rfl mr (fb aA (bx gZ bX aA))) (fun _ _ _=>fq 0 LI) (fun _ _ _=>GA (dC (r:=Nl K true) iJ (dM kj bp eU (ej aB)) bF)) (fun _ _ _=>(dM kj bp eU (ej aB)))) eU (ej bp)))) aX) (@fI _ _ _ _ _ (fe 9 scWords.nd (bx eZ (bx eV aB aA) bX)) (@fI _ _ _ _ _ (lZ (D0 bF) (fq 10 scWords.nd) (@fI _ _ _ _ _ (fe 11 scWords.nd (bx iS (bx iS (dM kj eK eU (ej oJ)) jY) (dM kj eK (ej (bx gZ oJ aA)) eU))) (@f_ _ _ _ (bu (PW.pt (gG (dC l9 (oj ml gh) bp) (gG (dC iJ (pv 11) bU) (hU (dC iJ (pv 11) gh))))) (@f_ _ _ _ (bg (xO gh (pv 11)))) aX)))) (@f_ _ _ _ (@gY _ _ _ _ gh))))))))))),?_⟩;have m0:=d4 c (show(12:Int)≠0 by decide);have m1:=ee c (show(0:Int)<12 by decide);refine⟨(by show 11<=sizeLine;exact bw (by decide)),fun lk hlk=> ?_⟩;refine⟨(show(0:Int)<12 by decide),?_⟩;obtain⟨n,hn,hn1,hn2⟩:∃n:Nat,(n:Int)=1+c % 12/\1<=n/\n<=12:=⟨(1+c % 12).toNat,by lia,by lia,by lia⟩;refine⟨⟨by decide,by decide⟩,⟨by decide,by decide,by decide⟩,(show(0:Int)<10^20 by decide),?_⟩;have s0:=ah hlk (.lst (kept.map V.str));refine⟨fun σ H'=>H'=upd H lk (.lst (kept.map V.str))/\∃(z:Str) (o5 o7:Option V),σ=[some (.int c),some (.int m),some (.str az),some (.ref lk),some (.int (1+c % 12)),o5,some (.str z),o7,none,none,none,none]/\z.length=n/\Cc z,?_,?_⟩
 · refine⟨_,rfl,by lia,by lia,?_⟩;refine ph (fun i σ H'=>H'=upd H lk (.lst (kept.map V.str))/\∃(z:Str) (x:Int) (o7:Option V),σ=[some (.int c),some (.int m),some (.str az),some (.ref lk),some (.int (1+c % 12)),some (.int x),some (.str z),o7,none,none,none,none]/\z.length=i/\Cc z) ⟨rfl,⟨#[]⟩,_,none,rfl,rfl,F8⟩ ?_ ?_
   · rintro i σ H' hi ⟨rfl,z,x,o7,rfl,hz,hsm⟩;have n0:=d4 x (show(26:Int)≠0 by decide);have n1:=ee x (show(0:Int)<26 by decide);have za:=L6 (i:=(x % 26).toNat) (by lia);rw[show(((x % 26).toNat:Nat):Int)=x % 26 by lia] at za;have hi':i<n:=by lia
     refine⟨(show(0:Int)<26 by decide),az,_,_,rfl,rfl,bw (by rw[Kn];decide),za,z,_,rfl,rfl,?_,?_⟩
     · show z.length+1<=sizeLine;exact bw (by lia)
     · refine⟨⟨by decide,by decide⟩,.inl ⟨by decide,by decide⟩,rfl,_,_,_,rfl,?_,vd hsm (DH (by lia))⟩;rw[bK,hz];rfl
   · rintro σ H' ⟨rfl,z,x,o7,rfl,hz,hsm⟩;exact⟨rfl,z,_,o7,rfl,by lia,hsm⟩
 rintro σ H' ⟨rfl,z,o5,o7,rfl,hz,hsm⟩;refine⟨ay _,fun ln hln=> ?_⟩;have s1:=s0.trans (ah hln (.lst []));have hlnH:H ln=none:=ck s0 hln;have nkl:lk≠ln:=ba aa hln;refine⟨fun σ H'=>∃(pm:Addr) (ws:List Str),σ=[some (.int c),some (.int m),some (.str az),some (.ref lk),some (.int (1+c % 12)),o5,some (.str z),o7,some (.ref pm),none,none,none]/\Same H H'/\H pm=none/\pm≠lk/\H' lk=some (.lst (kept.map V.str))/\H' pm=some (.lst (ws.map V.str))/\(ws.length:Int)<=m/\∀y∈ws,wd y,?_,?_⟩
 · refine⟨⟨by decide,by decide⟩,(show(0:Int)<2 by decide),?_⟩;have ek:(upd (upd H lk (.lst (kept.map V.str))) ln (.lst [])) lk=some (.lst (kept.map V.str)):=by rw[aD nkl];exact aa
   refine fY (fun _=> ?_) (fun _=> ?_)
   · refine⟨1,1+c % 12+1,rfl,⟨by lia,by lia,by lia,by lia⟩,fun D hD=> ?_⟩;have sD:=ah hD (.lst []);have nD:lk≠D:=ba ek hD;refine iW (1+c % 12+1 - 1).toNat (fun i σ H'=>(∃o,σ=[o,some (.str z),some (.ref lk)])/\Same H H'/\H' lk=some (.lst (kept.map V.str))/\∃ws:List Str,H' D=some (.lst (ws.map V.str))/\ws.length<=i/\∀y∈ws,wd y) ⟨⟨_,rfl⟩,s1.trans sD,by rw[aD nD];exact ek,[],aa,ay _,fun y hy=>(nomatch hy)⟩ ?_ ?_
     · rintro σ H' ⟨_,sm,ek',ws,eD,hl,hw⟩;refine⟨au _,m,rfl,D,_,rfl,SqL.of eD,fun p hp=> ?_⟩;rw[Fn ws (by lia)];have sp:=ah hp (.lst ((ws.take m.toNat).map V.str));refine⟨p,ws.take m.toNat,rfl,sm.trans sp,ck sm hp,?_,sp _ _ ek',aa,?_,fun y hy=>hw y (gS hy)⟩
       · intro e;rw[e,ek'] at hp;cases hp
       · rw[cJ];lia
     · rintro i σ H' hi ⟨⟨o,rfl⟩,sm,ek',ws,eD,hl,hw⟩;refine⟨hi,?_⟩;rintro y H2 ⟨rfl,rfl⟩;have hik:i+1<=n:=by lia
       have ls:=jI z (i+1);rw[show(((i+1:Nat):Int))=1+(i:Int) by lia] at ls;have hDn:D≠lk:=bI nD;refine⟨1+(i:Int),rfl,z,rfl,bw (by lia),lk,_,rfl,.inl (SqL.of ek'),rfl,uI,?_⟩;refine fY (fun _=> ?_) (fun _=> ?_)
       · refine⟨1+(i:Int),rfl,z,rfl,bw (by lia),_,eD,bL (by rw[ai];lia),⟨_,rfl⟩,?_,by rw[aD nD];exact ek',ws++[Txt.slice z none (some (1+(i:Int)))],?_,by rw[ag];show _+1<=_;lia,fun y hy=> ?_⟩
         · exact eI sm (ck s1 hD)
         · rw[aa,bj];rfl
         · rcases av.mp hy with hy | hy
           · exact hw y hy
           · have:y=_:=af.mp hy;subst this;exact⟨by lia,by lia,jA hsm⟩
       · exact⟨⟨_,rfl⟩,sm,ek',ws,eD,by lia,hw⟩
   · exact⟨ln,[],rfl,s1,hlnH,bI nkl,ek,aa,by simp;lia,fun y hy=>(nomatch hy)⟩
 rintro σ H' ⟨pm,ws,rfl,sm,hpm,npk,ek,epm,hlm,hw⟩;have k0:=d4 (c/7) (show(1+c % 12:Int)≠0 by lia);have k1:=ee (c/7) (show(0:Int)<1+c % 12 by lia);obtain⟨k,hk,hkn⟩:∃k:Nat,(k:Int)=c/7 % (1+c % 12)/\k<n:=⟨(c/7 % (1+c % 12)).toNat,by lia,by lia⟩;refine⟨⟨by decide,by decide⟩,(show(0:Int)<1+c % 12 by lia),?_⟩;refine⟨az,rfl,Hl (fun i σ H'=>∃(ws:List Str) (o10 o11:Option V),σ=[some (.int c),some (.int m),some (.str az),some (.ref lk),some (.int (1+c % 12)),o5,some (.str z),o7,some (.ref pm),some (.int (c/7 % (1+c % 12))),o10,o11]/\Same H H'/\H' lk=some (.lst (kept.map V.str))/\H' pm=some (.lst (ws.map V.str))/\(ws.length:Int)<=m/\(∀y∈ws,wd y)/\((ws.length:Int)=m\/∀j,j<i->E_ j=true->gj z k (97+j)∈ws))
  ⟨ws,none,none,rfl,sm,ek,epm,hlm,hw,.inr fun j hj=>absurd hj (Nat.not_lt_zero _)⟩ ?_ ?_⟩
 · rintro i cc σ H2 hc ⟨ws,o10,o11,rfl,sm2,ek2,ep2,hl2,hw2,hg2⟩;obtain⟨hi,rfl⟩:=Ko hc;have e1:=jI z k;have e2:=rB z (k+1);rw[hk] at e1;rw[show(((k+1:Nat):Int))=c/7 % (1+c % 12)+1 by lia] at e2;have nm:(Txt.slice z none (some (c/7 % (1+c % 12)))++⟨#[97+i]⟩++Txt.slice z (some (c/7 % (1+c % 12)+1)) none:Str)=gj z k (97+i):=by
    unfold gj;rw[hk]
   have wn:=CH (c:=97+i) hsm (by lia) (show k<z.length by lia) (by lia) (by lia);refine⟨_,rfl,z,rfl,bw (by lia),_,_,rfl,rfl,bw (by show _+1<=1000;lia),_,rfl,z,rfl,bw (by lia),_,_,rfl,rfl,bw (by rw[bK];show _+1+_<=1000;lia),?_⟩;rw[nm];refine⟨pm,_,rfl,.inl (SqL.of ep2),?_⟩;rw[ai];refine fY (fun c1=> ?_) (fun c1=> ?_)
   · have c1':=bG c1;refine⟨lk,_,rfl,.inl (SqL.of ek2),rfl,uI,?_⟩;show if(!yS (.str (gj z k (97+i))) (kept.map V.str))=true then _ else _
     cases c2:yS (.str (gj z k (97+i))) (kept.map V.str) with
     | true=>
       refine(⟨ws,_,_,rfl,sm2,ek2,ep2,hl2,hw2,?_⟩);rcases hg2 with h | h
       · exact .inl h
       · refine .inr fun j hj hgj=> ?_;rcases eR j i with hji | hji
         · exact h j hji hgj
         · have:j=i:=by lia
           subst this;have:=E9 (zX z k (97+j)) (by rw[Nat.add_sub_cancel_left];exact hgj);rw[this] at c2;cases c2
     | false=>
       refine⟨pm,_,rfl,.inl (SqL.of ep2),rfl,pj ws,?_⟩;show if(!yS (.str (gj z k (97+i))) (ws.map V.str))=true then _ else _
       rw[wa];by_cases c3:gj z k (97+i)∈ws
       · rw[ao c3];refine⟨ws,_,_,rfl,sm2,ek2,ep2,hl2,hw2,?_⟩;rcases hg2 with h | h
         · exact .inl h
         · refine .inr fun j hj hgj=> ?_;rcases eR j i with hji | hji
           · exact h j hji hgj
           · have:j=i:=by lia
             subst this;exact c3
       · rw[aj c3];refine⟨.inl ⟨rfl,_,SqL.of ep2⟩,_,ep2,bL (by rw[ai];lia),ws++[gj z k (97+i)],_,_,rfl,eI sm2 hpm,by rw[aD (bI npk)];exact ek2,?_,by rw[ag];show((ws.length+1:Nat):Int)<=m;lia,fun y hy=> ?_,?_⟩
         · rw[aa,bj];rfl
         · rcases av.mp hy with hy | hy
           · exact hw2 y hy
           · have:y=_:=af.mp hy;subst this;exact wn
         · rcases hg2 with h | h
           · lia
           · refine .inr fun j hj hgj=> ?_;rcases eR j i with hji | hji
             · exact aP _ (h j hji hgj)
             · have:j=i:=by lia
               subst this;exact aN _ (by simp)
   · have c1':¬ (ws.length:Int)<m:=fun y=>c1 (ao y);exact⟨ws,_,_,rfl,sm2,ek2,ep2,hl2,hw2,.inl (by lia)⟩
 · rintro σ H2 ⟨ws,o10,o11,rfl,sm2,ek2,ep2,hl2,hw2,hg2⟩;have h3:(ws.length:Int)=m\/3<=ws.length:=by
    rcases hg2 with h | h
    · exact .inl h
    · have sz:(az).cps.size=26:=by decide+kernel
      rw[sz] at h;exact .inr (Dp (h 2 (by decide) (by decide)) (h 3 (by decide) (by decide)) (h 5 (by decide) (by decide)) (fun y=>by have:=mK y;lia) (fun y=>by have:=mK y;lia) (fun y=>by have:=mK y;lia))
   exact(q pm H2 ws sm2 hpm ep2 hl2 (by lia) (by lia) hw2)
end
noncomputable abbrev AZ:Str:="ABCDEFGHIJKLMNOPQRSTUVWXYZ"
def Mu{i:Nat}(h:i<26):tJ (AZ).cps.toList (i:Int)=some (65+i):=by
 have e:(AZ).cps.toList=List.range' 65 26:=by decide+kernel
 rw[e];exact aR (by rw[NV h];simp)
def FO(i:Int):∃c,tJ (AZ).cps.toList (i % 26)=some c/\65<=c/\c<=90:=by
 have n0:=d4 i (show(26:Int)≠0 by decide);have n1:=ee i (show(0:Int)<26 by decide);have:=Mu (i:=(i % 26).toNat) (by lia);rw[show(((i % 26).toNat:Nat):Int)=i % 26 by lia] at this;exact⟨_,this,by lia,by lia⟩
def FP:(AZ).length=26:=by decide+kernel
def thg(z:Str):Prop:=z.length<=12/\∃c r,z.cps.toList=c::r/\65<=c/\c<=90/\∀d∈r,97<=d/\d<=122
def Dr(h1:65<=c)(h2:c<=90)(hl:e.length<=11)(hs:Cc e):thg ((⟨#[c]⟩:Str)++e):=by
 refine⟨?_,c,e.cps.toList,?_,h1,h2,fun d hd=>hs d hd⟩
 · rw[bK];show 1+_<=12;lia
 · rw[lO];simp
inductive qV(vs:List V)(H:Hp)(Q:VK):Prop
 | mk:∀c m:Int,(vs=[.int c,.int m])->(0<m)->(m<=3)->(∀(p:Addr) (H':Hp) (ws:List Str),Same H H'->H p=none->H' p=some (.lst (ws.map V.str))->(ws.length:Int)=m->(∀z∈ws,thg z)->Q (.ref p) H')->qV vs H Q
def wY:Sp:=fun vs H Q _=>qV vs H Q
def LK:((([("_law_end":Str)]:List Str)++[("_law_great":Str),("_law_cell_here":Str)]):List Str).Nodup:=by decide+kernel
def JF:((([("_law_k":Str)]:List Str)++[("_law_great":Str),("_law_ends":Str),("_law_cell_here":Str)]):List Str).Nodup:=by decide+kernel
section
def scThings:bq ["_law_cell_here","_law_many","_law_great","_law_ends"] vF (aK vj):=gU
def Cr(F:Fun K "_law_things" "_law_things" vj f fd)(mr:mg "range"=none)(Gw:Cl P w K mg base 1 "_law_words" vF u3):b_ P w K mg base fj 2 f fd vF wY:=by
 refine F.o scThings fun cdv A outer s H vs Q E hr h=> ?_;obtain⟨c,m,rfl,hm0,hm3,q⟩:=h;refine⟨_,a_ (fe 2 scThings.nd aJ) (a_ (fe 3 scThings.nd (jN ["_law_word"] [] [] rfl (cj (eB Gw hr (fb aB bp))) (fun _ _ _=>fq 0 OJ) (fun _ _ _=>fZ) (fun _ _ _=>(dM kj aB eU (ej aA))))) (a_ (bu (dC bN (bx eZ (bx eV aB aA) aA) aA) (bb (cE (jN ["_law_end"] ["_law_great","_law_cell_here"] [2,0] rfl (cj bU) (fun _ _ _=>fq 0 LK) (fun _ _ _=>fZ) (fun _ _ _=>(bx iS (j7 v_ bp (bx eZ (bx eV bF aA) aA)) aB))))) aX) (bb (cE (jN rN ["_law_great","_law_ends","_law_cell_here"] [2,3,0] rfl (fN rfl mr (eF bp)) (fun _ _ _=>fq 0 JF) (fun _ _ _=>fZ) (fun _ _ _=>(bx iS (j7 v_ bp (bx eZ (bx gZ (bx eV bU aA) (bx zL aA aB)) aA)) (dM kj (j7 (r:=zF K) bY bF aA) (ej aA) eU)))))))),?_⟩;refine⟨c,m,rfl,hm0,Int.le_trans hm3 (by decide),fun p H1 ws s1 hp e1 _ _ l1' w1=>⟨⟨_,SqL.of e1⟩,fun D hD=> ?_⟩⟩;have l1:=l1' hm3;have sD:=ah hD (.lst []);have npD:p≠D:=ba e1 hD;refine iW (ws.map V.str).length (fun i σ H'=>(∃o,σ=[o])/\Same H H'/\H' p=some (.lst (ws.map V.str))/\∃es:List Str,H' D=some (.lst (es.map V.str))/\es.length=i/\∀y∈es,y.length<=11/\Cc y) ⟨⟨_,rfl⟩,s1.trans sD,by rw[aD npD];exact e1,[],aa,rfl,fun y hy=>(nomatch hy)⟩ ?_ ?_
 · rintro σ H2 ⟨_,s2,e2,es,eD,le,we⟩;rw[ai] at le;refine⟨⟨_,SqL.of e2,au _⟩,?_⟩;refine⟨⟨by decide,by decide⟩,(show(0:Int)<2 by decide),?_⟩;refine fY (fun _=> ?_) (fun _=> ?_)
   · refine⟨⟨_,SqL.of eD⟩,fun D2 hD2=> ?_⟩;have sD2:=ah hD2 (.lst []);have nD2:D≠D2:=ba eD hD2;refine iW (es.map V.str).length (fun i σ H'=>(∃o,σ=[o,some (.str AZ),some (.int c)])/\Same H H'/\H' D=some (.lst (es.map V.str))/\∃ts:List Str,H' D2=some (.lst (ts.map V.str))/\ts.length=i/\∀y∈ts,thg y) ⟨⟨_,rfl⟩,s2.trans sD2,by rw[aD nD2];exact eD,[],aa,rfl,fun y hy=>(nomatch hy)⟩ ?_ ?_
     · rintro σ H3 ⟨_,s3,e3,ts,eT,lt,wt⟩;rw[ai] at lt;exact⟨⟨_,SqL.of e3,au _⟩,q D2 H3 ts s3 (ck s2 hD2) eT (by lia) wt⟩
     · rintro i σ H3 hi ⟨⟨o,rfl⟩,s3,e3,ts,eT,lt,wt⟩;have hi':i<es.length:=by simpa using hi
       refine⟨⟨_,.str es[i],SqL.of e3,by simp[hi']⟩,?_⟩;rintro y H4 ⟨rfl,hy⟩;have hyi:=hy _ (SqL.of e3);rw[aQ,aw hi'] at hyi;cases hyi;obtain⟨cc,ec,c1,c2⟩:=FO (c/4);obtain⟨b1,b2⟩:=we _ (cU hi');refine⟨⟨by decide,by decide⟩,(show(0:Int)<26 by decide),AZ,_,cc,rfl,rfl,bw (by rw[FP];decide),ec,_,_,rfl,rfl,bw (by show 1+_<=1000;lia),_,eT,bL (by rw[ai];lia),⟨_,rfl⟩,eI s3 (ck s2 hD2),by rw[aD nD2];exact e3,ts++[(⟨#[cc]⟩:Str)++es[i]],?_,by rw[ag,lt];rfl,fun y hy=> ?_⟩
       · rw[aa,bj];rfl
       · rcases av.mp hy with hy | hy
         · exact wt y hy
         · have:y=_:=af.mp hy;subst this;exact Dr c1 c2 b1 b2
   · refine⟨m,rfl,by lia,by lia,fun D2 hD2=> ?_⟩;have sD2:=ah hD2 (.lst []);have nD2:D≠D2:=ba eD hD2;have h0:0<es.length:=by lia
     refine iW m.toNat (fun i σ H'=>(∃o,σ=[o,some (.str AZ),some (.ref D),some (.int c)])/\Same H H'/\H' D=some (.lst (es.map V.str))/\∃ts:List Str,H' D2=some (.lst (ts.map V.str))/\ts.length=i/\∀y∈ts,thg y) ⟨⟨_,rfl⟩,s2.trans sD2,by rw[aD nD2];exact eD,[],aa,rfl,fun y hy=>(nomatch hy)⟩ ?_ ?_
     · rintro σ H3 ⟨_,s3,e3,ts,eT,lt,wt⟩;exact⟨au _,q D2 H3 ts s3 (ck s2 hD2) eT (by lia) wt⟩
     · rintro i σ H3 hi ⟨⟨o,rfl⟩,s3,e3,ts,eT,lt,wt⟩;refine⟨hi,?_⟩;rintro y H4 ⟨rfl,rfl⟩;obtain⟨cc,ec,c1,c2⟩:=FO (c/4+7 * (0+(i:Int)));obtain⟨b1,b2⟩:=we _ (cU h0);have l1:=L9 es[0] (some 1) none;have at0:tJ (es.map V.str) 0=some (.str es[0]):=aR (j:=0) (by rw[aQ,aw h0];rfl);refine⟨⟨by decide,by decide⟩,.inl ⟨by decide,by decide⟩,(show(0:Int)<26 by decide),AZ,_,cc,rfl,rfl,bw (by rw[FP];decide),ec,_,_,SqL.of e3,at0,1,rfl,es[0],rfl,bw (by lia),_,_,rfl,rfl,bw (by show 1+_<=1000;lia),_,eT,bL (by rw[ai];lia),⟨_,rfl⟩,eI s3 (ck s2 hD2),by rw[aD nD2];exact e3,ts++[(⟨#[cc]⟩:Str)++Txt.slice es[0] (some 1) none],?_,by rw[ag,lt];rfl,fun y hy=> ?_⟩
       · rw[aa,bj];rfl
       · rcases av.mp hy with hy | hy
         · exact wt y hy
         · have:y=_:=af.mp hy;subst this;exact Dr c1 c2 (by lia) (jA b2)
 · rintro i σ H2 hi ⟨⟨o,rfl⟩,s2,e2,es,eD,le,we⟩;have hi':i<ws.length:=by simpa using hi
   refine⟨⟨_,.str ws[i],SqL.of e2,by simp[hi']⟩,?_⟩;rintro y H4 ⟨rfl,hy⟩;have hyi:=hy _ (SqL.of e2);rw[aQ,aw hi'] at hyi;cases hyi;obtain⟨b1,b2,b3⟩:=w1 _ (cU hi');have ls:=jI ws[i] 11;refine⟨11,rfl,ws[i],rfl,bw (by lia),_,eD,bL (by rw[ai];lia),⟨_,rfl⟩,eI s2 (ck s1 hD),by rw[aD npD];exact e2,es++[Txt.slice ws[i] none (some 11)],?_,by rw[ag,le];rfl,fun y hy=> ?_⟩
   · rw[aa,bj];rfl
   · rcases av.mp hy with hy | hy
     · exact we y hy
     · have:y=_:=af.mp hy;subst this;have ls':(Txt.slice ws[i] none (some 11)).length=min 11 ws[i].length:=ls;exact⟨by lia,jA b3⟩
end
def pw(ws ts:List Str):Kd->Prop
 | .nm t=>t∈ws\/t="anything"\/t="nothing"
 | .two a b=>pw ws ts a/\pw ws ts b
 | .som r c=>r∈ts/\pw ws ts c
inductive xh(n:Nat)(vs:List V)(H:Hp)(Q:VK):Prop
 | mk:∀(b lk lt:Addr) (x y u:Int) (ws ts:List Str) (d:Nat),(vs=[.ref b,.ref lk,.ref lt,.int (d:Int)])->(H b=some (.lst [.int x,.int y]))->(H lk=some (.lst (ws.map V.str)))->(H lt=some (.lst (ts.map V.str)))->(lk≠b)->(lt≠b)->(0<ws.length)->(ws.length<=100)->(0<ts.length)->(ts.length<=100)->(d<n)->(∀(v:V) (H':Hp) (k:Kd) (x' y':Int),Kp [b] H H'->H' b=some (.lst [.int x',.int y'])->IsK H' k v->k.nt+1<=2^d->k.dep<=d->pw ws ts k->Q v H')->xh n vs H Q
def mw(n:Nat):Sp:=fun vs H Q _=>xh n vs H Q
section
def gF{ws:List Str}(h0:0<=r)(h1:r<(ws.length:Int)):∃z∈ws,tJ (ws.map V.str) r=some (.str z):=by
 have hj:r.toNat<ws.length:=by lia
 refine⟨ws[r.toNat],cU hj,?_⟩;have z:tJ (ws.map V.str) ((r.toNat:Nat):Int)=some (.str ws[r.toNat]):=aR (by rw[aQ,aw hj];rfl)
 rwa [show((r.toNat:Nat):Int)=r by lia] at z
def scKind:bq ["_law_bag","_law_kin","_law_ties","_law_deep","_law_way","_law_one"] vH (aK Bk):=gU
def GP(hk0:1<=k0)(F:Fun K "_law_kind" "_law_kind" Bk f fd)(Gk:Cl P w K mg base k0 "_law_kind" vH (mw n))(ml:mg "len"=none)(Gdr:Cl P w K mg base 1 "_law_draw" vG ow):b_ P w K mg base fj (k0+1) f fd vH (mw (n+1)):=by
 refine F.o scKind fun cdv A outer s H vs Q E hr h=> ?_;obtain⟨b,lk,lt,x,y,u,ws,ts,d,rfl,hb,hlk,hlt,nk,nt,w0,w1,t0,t1,hd,q⟩:=h;have kGk:=F.kp;refine⟨_,a_ (fe 4 scKind.nd (eB Gdr hr (fb aB aA)))
  (a_ (bu (PW.pt (fW (dC bN bU aA) (fW (dC bN (wH aB) aA) (gi (dC Eb bX aA))))) (a_ (bu (dC bN bX aA) (bb (cE (j7 bY (bR (fb aJ aJ)) (bx eV (eB Gdr hr (fb aB aA)) aA)))) aX) (bb (cE (j7 bY bp (eB Gdr hr (fb aB (oj ml bp))))))) aX)
  (a_ (kr (bx oP (wH aB) aA) (zI aB aA rD))
  (a_ (bu (dC l9 bX aA) (bb (cE (cq (gD aJ (j7 bY bF (eB Gdr hr (fb aB (oj ml bF)))) (eB Gk hr (jk aB bp bF (bx oP bU aA))))))) aX)
  (a_ (fe 5 scKind.nd (eB Gk hr (jk aB bp bF (bx oP bU aA))))
  (bb (cE (cq (gD aJ cX (eB Gk hr (jk aB bp bF (bx oP bU aA))))))))))),?_⟩
 have bm:b∈[b]:=af.mpr rfl;have nk':lk∉[b]:=fun z=>nk (af.mp z);have nt':lt∉[b]:=fun z=>nt (af.mp z);refine⟨b,x,9,_,rfl,hb,by decide,fun x1 way y0 y1=> ?_⟩;have k1:Kp [b] H (upd H b (.lst [.int x1,.int y])):=Kp.lst bm hb;have b1:upd H b (.lst [.int x1,.int y]) b=some (.lst [.int x1,.int y]):=aa;generalize upd H b (.lst [.int x1,.int y])=H1 at k1 b1⊢;have lk1:=k1.but _ _ nk' hlk;have lt1:=k1.but _ _ nt' hlt;have leaf:∀(H2:Hp) (v:V) (t:Str) (x2:Int),Kp [b] H1 H2->H2 b=some (.lst [.int x2,.int y])->v= .str t->(t∈ws\/t="anything"\/t="nothing")->Q v H2:=fun H2 v t x2 k2 b2 e ht=>
  q v H2 (.nm t) x2 y (k1.trans k2) b2 e (Nat.one_le_two_pow) (ay _) ht
 by_cases hd0:d=0
 · subst hd0;refine(fY (fun _=> ?_) (fun _=> ?_))
   · refine⟨bw (by show 2<=1000;decide),fun l hl=> ?_⟩;have sl:=ah hl (.lst [.str "anything",.str "nothing"]);have nlb:l≠b:=fun z=>by rw[z,b1] at hl;cases hl
     refine⟨b,x1,5,_,rfl,sl _ _ b1,by decide,fun x2 r2 r0 r1=> ?_⟩;have k2:Kp [b] H1 (upd (upd H1 l (.lst [.str "anything",.str "nothing"])) b (.lst [.int x2,.int y])):=(Kp.of sl).trans (Kp.lst bm (sl _ _ b1));have el:upd (upd H1 l (.lst [.str "anything",.str "nothing"])) b (.lst [.int x2,.int y]) l=some (.lst [.str "anything",.str "nothing"]):=by rw[aD nlb];exact aa
     have e01:r2/4=0\/r2/4=1:=by lia
     rcases e01 with e01 | e01
     · refine⟨⟨by decide,by decide⟩,_,.str "anything",SqL.of el,?_,leaf _ _ "anything" x2 k2 aa rfl (.inr (.inl rfl))⟩;rw[e01];exact aR (j:=0) rfl
     · refine⟨⟨by decide,by decide⟩,_,.str "nothing",SqL.of el,?_,leaf _ _ "nothing" x2 k2 aa rfl (.inr (.inr rfl))⟩;rw[e01];exact aR (j:=1) rfl
   · refine⟨lk,_,rfl,.inl (SqL.of lk1),b,x1,_,_,rfl,b1,?_,fun x2 r2 r0 r1=> ?_⟩
     · rw[ai];lia
     rw[ai] at r1;obtain⟨z,hz,ez⟩:=gF r0 r1;have k2:Kp [b] H1 (upd H1 b (.lst [.int x2,.int y])):=Kp.lst bm b1;exact⟨_,_,SqL.of (k2.but _ _ nk' lk1),ez,leaf _ _ z x2 k2 aa rfl (.inl hz)⟩
 show if decide (V.int (d:Int)=V.int 0)=true then _ else _
 rw[aj (show ¬ V.int (d:Int)=V.int 0 from fun z=>hd0 (by injection z with z;lia))];refine⟨_,_,SqL.of b1,aR (j:=1) rfl,fY (fun _=> ?_) (fun _=> ?_)⟩
 · show if decide (V.int way=V.int 8)=true then _ else _
   refine fY (fun _=> ?_) (fun _=> ?_)
   · refine⟨bw (by show 2<=1000;decide),fun l hl=> ?_⟩;have sl:=ah hl (.lst [.str "anything",.str "nothing"]);have nlb:l≠b:=fun z=>by rw[z,b1] at hl;cases hl
     refine⟨b,x1,5,_,rfl,sl _ _ b1,by decide,fun x2 r2 r0 r1=> ?_⟩;have k2:Kp [b] H1 (upd (upd H1 l (.lst [.str "anything",.str "nothing"])) b (.lst [.int x2,.int y])):=(Kp.of sl).trans (Kp.lst bm (sl _ _ b1));have el:upd (upd H1 l (.lst [.str "anything",.str "nothing"])) b (.lst [.int x2,.int y]) l=some (.lst [.str "anything",.str "nothing"]):=by rw[aD nlb];exact aa
     have e01:r2/4=0\/r2/4=1:=by lia
     rcases e01 with e01 | e01
     · refine⟨⟨by decide,by decide⟩,_,.str "anything",SqL.of el,?_,leaf _ _ "anything" x2 k2 aa rfl (.inr (.inl rfl))⟩;rw[e01];exact aR (j:=0) rfl
     · refine⟨⟨by decide,by decide⟩,_,.str "nothing",SqL.of el,?_,leaf _ _ "nothing" x2 k2 aa rfl (.inr (.inr rfl))⟩;rw[e01];exact aR (j:=1) rfl
   · refine⟨lk,_,rfl,.inl (SqL.of lk1),b,x1,_,_,rfl,b1,?_,fun x2 r2 r0 r1=> ?_⟩
     · rw[ai];lia
     rw[ai] at r1;obtain⟨z,hz,ez⟩:=gF r0 r1;have k2:Kp [b] H1 (upd H1 b (.lst [.int x2,.int y])):=Kp.lst bm b1;exact⟨_,_,SqL.of (k2.but _ _ nk' lk1),ez,leaf _ _ z x2 k2 aa rfl (.inl hz)⟩
 refine(fY (fun _=> ?_) (fun _=> ?_))
 · refine(fY (fun _=> ?_) (fun _=> ?_))
   · refine⟨bw (by show 2<=1000;decide),fun l hl=> ?_⟩;have sl:=ah hl (.lst [.str "anything",.str "nothing"]);have nlb:l≠b:=fun z=>by rw[z,b1] at hl;cases hl
     refine⟨b,x1,5,_,rfl,sl _ _ b1,by decide,fun x2 r2 r0 r1=> ?_⟩;have k2:Kp [b] H1 (upd (upd H1 l (.lst [.str "anything",.str "nothing"])) b (.lst [.int x2,.int y])):=(Kp.of sl).trans (Kp.lst bm (sl _ _ b1));have el:upd (upd H1 l (.lst [.str "anything",.str "nothing"])) b (.lst [.int x2,.int y]) l=some (.lst [.str "anything",.str "nothing"]):=by rw[aD nlb];exact aa
     have e01:r2/4=0\/r2/4=1:=by lia
     rcases e01 with e01 | e01
     · refine⟨⟨by decide,by decide⟩,_,.str "anything",SqL.of el,?_,leaf _ _ "anything" x2 k2 aa rfl (.inr (.inl rfl))⟩;rw[e01];exact aR (j:=0) rfl
     · refine⟨⟨by decide,by decide⟩,_,.str "nothing",SqL.of el,?_,leaf _ _ "nothing" x2 k2 aa rfl (.inr (.inr rfl))⟩;rw[e01];exact aR (j:=1) rfl
   · refine⟨lk,_,rfl,.inl (SqL.of lk1),b,x1,_,_,rfl,b1,?_,fun x2 r2 r0 r1=> ?_⟩
     · rw[ai];lia
     rw[ai] at r1;obtain⟨z,hz,ez⟩:=gF r0 r1;have k2:Kp [b] H1 (upd H1 b (.lst [.int x2,.int y])):=Kp.lst bm b1;exact⟨_,_,SqL.of (k2.but _ _ nk' lk1),ez,leaf _ _ z x2 k2 aa rfl (.inl hz)⟩
 obtain⟨e,rfl⟩:∃e,d=e+1:=⟨d - 1,by lia⟩;refine⟨_,_,SqL.of b1,aR (j:=1) rfl,b,_,1,1,rfl,rfl,b1,rfl,?_⟩;have k2:Kp [b] H1 (upd H1 b (.lst [.int x1,.int (y - 1)])):=Kp.lst bm b1;have b2:upd H1 b (.lst [.int x1,.int (y - 1)]) b=some (.lst [.int x1,.int (y - 1)]):=aa;have lk2:=k2.but _ _ nk' lk1;have lt2:=k2.but _ _ nt' lt1;have ed:((e+1:Nat):Int) - 1=(e:Int):=by lia
 have p2:2^(e+1)=2 * 2^e:=by rw[kX];lia
 refine(fY (fun _=> ?_) (fun _=> ?_))
 · refine⟨lt,_,rfl,.inl (SqL.of lt2),b,x1,_,_,rfl,b2,?_,fun x3 r3 r0 r1=> ?_⟩
   · rw[ai];lia
   rw[ai] at r1;obtain⟨z,hz,ez⟩:=gF r0 r1;have k3:Kp [b] (upd H1 b (.lst [.int x1,.int (y - 1)])) (upd (upd H1 b (.lst [.int x1,.int (y - 1)])) b (.lst [.int x3,.int (y - 1)])):=Kp.lst bm b2;refine⟨_,_,SqL.of (k3.but _ _ nt' lt2),ez,?_⟩;refine⟨b,lk,lt,x3,y - 1,u,ws,ts,e,by rw[<-ed];rfl,aa,k3.but _ _ nk' lk2,k3.but _ _ nt' lt2,nk,nt,w0,w1,t0,t1,by lia,fun v4 H4 kd x4 y4 k4 b4 i4 n4 dp4 nm4=> ?_⟩;refine⟨bw (by show 3<=1000;decide),fun t ht=> ?_⟩;have s5:=ah ht (.tup [.str "some",.str z,v4]);refine q (.ref t) _ (.som z kd) x4 y4 ((k1.trans k2).trans ((k3.trans k4).trans (.of s5))) (s5 _ _ b4) ⟨t,v4,rfl,aa,i4.mono s5.tups⟩ ?_ (by show 1+kd.dep<=_;lia) ⟨hz,nm4⟩;show 1+kd.nt+1<=_
   lia
 · refine⟨b,lk,lt,x1,y - 1,u,ws,ts,e,by rw[<-ed];rfl,b2,lk2,lt2,nk,nt,w0,w1,t0,t1,by lia,fun v4 H4 kd x4 y4 k4 b4 i4 n4 dp4 nm4=> ?_⟩;refine⟨b,lk,lt,x4,y4,u,ws,ts,e,by rw[<-ed];rfl,b4,k4.but _ _ nk' lk2,k4.but _ _ nt' lt2,nk,nt,w0,w1,t0,t1,by lia,fun v5 H5 kd2 x5 y5 k5 b5 i5 n5 dp5 nm5=> ?_⟩;refine⟨bw (by show 3<=1000;decide),fun t ht=> ?_⟩;have s6:=ah ht (.tup [.str "both",v4,v5]);refine q (.ref t) _ (.two kd kd2) x5 y5 ((k1.trans k2).trans ((k4.trans k5).trans (.of s6))) (s6 _ _ b5) ⟨t,v4,v5,rfl,aa,(i4.mono k5.tups).mono s6.tups,i5.mono s6.tups⟩ ?_ (by show 1+max kd.dep kd2.dep<=_;lia) ⟨nm4,nm5⟩;show 1+kd.nt+kd2.nt+1<=_
   lia
def CN:b_ P w K mg base fj 1 f fd vH (mw 0):=by
 have no:∀vs H Q E,¬ mw 0 vs H Q E:=fun vs H Q E h=>by
  obtain⟨b,lk,lt,x,y,u,ws,ts,d,_,_,_,_,_,_,_,_,_,_,h,_⟩:=h
  lia
 exact⟨fun vs H Q E h=>absurd h (no vs H Q E),fun A outer s H args us vs Q E _ _ _ _ h=>absurd h (no vs H Q E)⟩
theorem yi(A:Fq K mg "_law_kind" Bk vH)(ml:mg "len"=none)(Gdr:Cl P w K mg base 1 "_law_draw" vG ow):∀n:Nat,Cl P w K mg base (n+1) "_law_kind" vH (mw n)
 | 0=>A.cl fun _=>CN
 | n+1=>A.cl fun F=>GP (by lia) F (yi A ml Gdr n) ml Gdr
end
def dk(k:Kd):Prop:=k.dep<=2/\k.sz<=7/\Ae k/\jG k=eS k
def vO{s:Sy}(h:∀k∈s.parts,k.dep<=2/\k.sz<=7):s.okS:=⟨fun k hk=>aq (h k hk).2 (by decide),fun k hk=>aq (h k hk).1 (by decide)⟩
def CD(ha:dk a)(hb:dk b):(Sy.every a b).okS:=vO fun k hk=>by
 simp only[Sy.parts,aL,ak,cH] at hk;rcases hk with rfl | rfl
 · exact⟨ha.1,ha.2.1⟩
 · exact⟨hb.1,hb.2.1⟩
def JC(ha:dk a)(hb:dk b):(Sy.no a b).okS:=vO fun k hk=>by
 simp only[Sy.parts,aL,ak,cH] at hk;rcases hk with rfl | rfl
 · exact⟨ha.1,ha.2.1⟩
 · exact⟨hb.1,hb.2.1⟩
def Ij(x:Str):(Kd.nm x).dep<=2/\(Kd.nm x).sz<=7:=⟨ay _,by show 1<=7;decide⟩
def CB(hb:dk b):(Sy.thing x b).okS:=vO fun k hk=>by
 simp only[Sy.parts,aL,ak,cH] at hk;rcases hk with rfl | rfl
 · exact Ij _
 · exact⟨hb.1,hb.2.1⟩
def vP{s:Sy}(h:∀k∈s.parts,∃x,k= .nm x):s.okS:=vO fun k hk=>by
 obtain⟨x,rfl⟩:=h k hk;exact Ij x
def Es(x t y:Str):(Sy.tied x t y).okS:=vP fun k hk=>by
 simp only[Sy.parts,aL,ak,cH] at hk;rcases hk with rfl | rfl | rfl<;>exact⟨_,rfl⟩
def zU(x t:Str):(Sy.within x t).okS:=vP fun k hk=>by
 simp only[Sy.parts,aL,ak,cH] at hk;rcases hk with rfl | rfl<;>exact⟨_,rfl⟩
def CC(x t y:Str):(Sy.makes x t y).okS:=vP fun k hk=>by
 simp only[Sy.parts,aL,ak,cH] at hk;rcases hk with rfl | rfl | rfl<;>exact⟨_,rfl⟩
def sl2(z:Str):(Txt.slice z none (some 1)).cps.toList=z.cps.toList.take 1:=by
 rw[jB];have hz:z.cps.toList.length=z.length:=by simp[Str.length]
 have e:HT.sIx z.length z.length (some 1)=min 1 z.length:=HT.sIx_nat z.length z.length 1;have e2:HT.sIx z.length 0 none=0:=rfl;rw[e,e2,tP,Mf];rcases yP z.length with h | h
 · have:z.cps.toList=[]:=jX (by lia);rw[this];simp
 · have:min 1 z.length=1:=by lia
   rw[this]
def mf(h:t.cps.toList=c::r)(hc:c<128):FQ t=decide (65<=c/\c<=90):=by
 have e:Txt.slice t none (some 1)=⟨#[c]⟩:=by
  have:=sl2 t;rw[h] at this;have e2:(Txt.slice t none (some 1)).cps.toList=[c]:=this;cases hs:Txt.slice t none (some 1) with
  | mk a=>
    rw[hs] at e2
    congr 1
    exact Array.toList_inj.mp e2
 have big:∀c,c<128->Txt.isupper ⟨#[c]⟩=decide (65<=c/\c<=90):=by decide+kernel
 unfold FQ;rw[e,big c hc]
def qE(t:Str):t.cps.toList.length=t.length:=by simp[Str.length]
def BV(h:wd t):dk (.nm t):=by
 obtain⟨h1,h2,h3⟩:=h;refine⟨ay _,by show 1<=7;decide,by show t.length<=1000;lia,?_⟩;show gg t=FQ t;cases e:t.cps.toList with
 | nil=>have:=qE t;rw[e] at this;simp at this;lia
 | cons c r=>
   obtain⟨c1,c2⟩:=h3 c (by rw[e];simp);rw[mf e (by lia),aj (by lia)];unfold gg;rw[e];have:nZ c=false:=by unfold nZ;exact aj (by lia)
   show(tH t&&(nZ c&&r.all fG))=false;rw[this,tR,lU]
def Fk(h:thg t):dk (.nm t):=by
 obtain⟨h1,c,r,e,c1,c2,h3⟩:=h;refine⟨ay _,by show 1<=7;decide,by show t.length<=1000;lia,?_⟩;show gg t=FQ t;rw[mf e (by lia),ao ⟨c1,c2⟩];unfold gg tH;have hl:=qE t;rw[e] at hl;simp only[aV] at hl;rw[e,ao (show 1<=t.length by lia),ao h1];have b1:nZ c=true:=by unfold nZ;exact ao ⟨c1,c2⟩
 have b2:r.all fG=true:=dH.mpr fun d hd=>by unfold fG;exact ao (h3 d hd)
 show(true&&true&&(nZ c&&r.all fG))=true;rw[b1,b2];rfl
def dk_anyK:dk (.nm "anything"):=⟨ay _,by show 1<=7;decide,by show(Str.ofString "anything").length<=1000;decide+kernel,by
 show gg "anything"=FQ "anything";rw[mf (c:=97) (r:=[110,121,116,104,105,110,103]) (by decide+kernel) (by decide)]
 decide+kernel⟩
def dk_nothK:dk (.nm "nothing"):=⟨ay _,by show 1<=7;decide,by show(Str.ofString "nothing").length<=1000;decide+kernel,by
 show gg "nothing"=FQ "nothing";rw[mf (c:=110) (r:=[111,116,104,105,110,103]) (by decide+kernel) (by decide)]
 decide+kernel⟩
theorem hZ:∀k:Kd,k.sz<=2 * k.nt+1
 | .nm _=>by simp[Kd.nt,Kd.sz]
 | .two a b=>by have:=hZ a;have:=hZ b;simp only[Kd.nt,Kd.sz];lia
 | .som _ c=>by have:=hZ c;simp only[Kd.nt,Kd.sz];lia
def Hq(hn:k.nt+1<=2^2)(hd:k.dep<=2)(hi:pw ws ts k)(hw:∀z∈ws,dk (.nm z)):dk k:=by
 have:=hZ k;have hs:k.sz<=7:=by lia
 cases k with
 | nm t=>
   rcases hi with h | h | h
   · exact hw t h
   · rw[h];exact dk_anyK
   · rw[h];exact dk_nothK
 | two a b=>exact⟨hd,hs,trivial,rfl⟩
 | som r c=>exact⟨hd,hs,trivial,rfl⟩
def LQ{ts:List Str}(e:ts.length=3):∃a b c,ts=[a,b,c]:=by
 match ts,e with
 | [a,b,c],_=>exact⟨a,b,c,rfl⟩
section
end
def dn(ws ts:List Str)(k:Kd):Prop:=dk k/\k.nt<=3/\pw ws ts k
def wj(hn:k.nt+1<=2^2)(hd:k.dep<=2)(hi:pw ws ts k)(hw:∀z∈ws,dk (.nm z)):dn ws ts k:=⟨Hq hn hd hi hw,by lia,hi⟩
def dS(ws ts hs:List Str):Sy->Prop
 | .every a b=>dn ws ts a/\dn ws ts b
 | .no a b=>dn ws ts a/\dn ws ts b
 | .thing x k=>(x∈hs/\dk (.nm x))/\dn ws ts k
 | .tied x t y=>(x∈hs/\dk (.nm x))/\(y∈hs/\dk (.nm y))/\t∈ts
 | .within r s=>r∈ts/\s∈ts
 | .makes r s t=>r∈ts/\s∈ts/\t∈ts
theorem dS.okS:∀{s:Sy},dS ws ts hs s->s.okS
 | .every _ _,h=>CD h.1.1 h.2.1
 | .no _ _,h=>JC h.1.1 h.2.1
 | .thing _ _,h=>CB h.2.1
 | .tied _ _ _,_=>Es _ _ _
 | .within _ _,_=>zU _ _
 | .makes _ _ _,_=>CC _ _ _
structure Env(H:Hp)(b lk lt lh:Addr)(ws ts hs:List Str):Prop where
 hk:H lk=some (.lst (ws.map V.str))
 lw:ws.length=3
 dw:∀z∈ws,dk (.nm z)
 ht:H lt=some (.lst (ts.map V.str))
 lt':ts.length=2
 hh:H lh=some (.lst (hs.map V.str))
 lh':hs.length=2
 dh:∀z∈hs,dk (.nm z)
 nk:lk≠b
 nt:lt≠b
 nh:lh≠b
def dA{a:Addr}(h:a≠b):a∉[b]:=fun z=>h (af.mp z)
def Env.kp(e:Env H b lk lt lh ws ts hs)(k:Kp [b] H H'):Env H' b lk lt lh ws ts hs:=⟨k.but _ _ (dA e.nk) e.hk,e.lw,e.dw,k.but _ _ (dA e.nt) e.ht,e.lt',k.but _ _ (dA e.nh) e.hh,e.lh',e.dh,e.nk,e.nt,e.nh⟩
inductive qY(vs:List V)(H:Hp)(Q:VK):Prop
 | mk:∀b lk lt lh x y ws ts hs,(vs=[.ref b,.ref lk,.ref lt,.ref lh])->(H b=some (.lst [.int x,.int y]))->(Env H b lk lt lh ws ts hs)->(∀v H' s x' y',Kp [b] H H'->H' b=some (.lst [.int x',.int y'])->IsSy H' s v->dS ws ts hs s->Q v H')->qY vs H Q
def xb:Sp:=fun vs H Q _=>qY vs H Q
def LJ:((([("_law_k":Str)]:List Str)++[("_law_ties":Str),("_law_bag":Str)]):List Str).Nodup:=by decide+kernel
def C6:me X (.builtin "len") (fun xs H Q=>∃p ys,xs=[V.ref p]/\H p=some (.lst ys)/\Q (.int (ys.length:Int)) H):=fun pins s σ H xs us Q I r ⟨p,ys,e,h,q⟩=>
 jU pins s σ H xs us Q I r ⟨p,ys,e,.inl (SqL.of h),q⟩
def Env.p1(e:Env H b lk lt lh ws ts hs):0<ws.length:=by have:=e.lw;lia
def Env.p2(e:Env H b lk lt lh ws ts hs):ws.length<=100:=by have:=e.lw;lia
def Env.p3(e:Env H b lk lt lh ws ts hs):0<ts.length:=by have:=e.lt';lia
def Env.p4(e:Env H b lk lt lh ws ts hs):ts.length<=100:=by have:=e.lt';lia
def FV(x1:Int)(hb:H b=some (.lst [.int x,.int y])):Kp [b] H (upd H b (.lst [.int x1,.int y]))/\upd H b (.lst [.int x1,.int y]) b=some (.lst [.int x1,.int y]):=⟨Kp.lst (af.mpr rfl) hb,aa⟩
def Bi(ht:H t=none)(k:KL H xs s.parts):IsSy (upd H t (.tup (.str (oH s.hd)::xs))) s (.ref t):=⟨t,xs,rfl,aa,KL.mono (ah ht _).tups k⟩
section
def scSaying:bq ["_law_bag","_law_kin","_law_ties","_law_things_here","_law_way","_law_form","_law_one","_law_thing","_law_some"] Gy (aK vp):=gU
def Cv(F:Fun K "_law_saying" "_law_saying" vp f fd)(ml:mg "len"=none)(mr:mg "range"=none)(Gdr:Cl P w K mg base 1 "_law_draw" vG ow)(Gk:Cl P w K mg base 4 "_law_kind" vH (mw 3)):b_ P w K mg base fj 5 f fd Gy xb:=by
 refine F.o scSaying fun cdv A outer s H vs Q E hr h=> ?_;obtain⟨b,lk,lt,lh,x,y,ws,ts,hs,rfl,hb,en,q⟩:=h;refine⟨_,a_ (fe 4 scSaying.nd (eB Gdr hr (fb aB aA))) (a_ (bu (dC l9 bX aA) (a_ (fe 5 scSaying.nd aJ) (jM (bu (dC bN bX aA) (bb (fe 5 scSaying.nd aJ)) aX) (a_ (fe 6 scSaying.nd (eB Gk hr (jk aB bp bF aA))) (bb (cE (cq (gD cX eK (eB Gk hr (jk aB bp bF aA))))))))) aX) (a_ (fe 7 scSaying.nd (j7 bY bU (eB Gdr hr (fb aB (oj ml bU))))) (a_ (bu (dC l9 bX aA) (bb (cE (cq (gD aJ iZ (eB Gk hr (jk aB bp bF aA)))))) aX) (a_ (qz (i:=8) rN ["_law_ties","_law_bag"] [2,0] scSaying.nd rfl rfl (fN rfl mr (eF aA)) (fun _ _ _=>fq 0 LJ) (fun _ _ _=>fZ) (fun _ _ _=>(j7 (r:=zF K) bY bp (eB Gdr hr (fb bF (dB C6 rfl ml tK (eF bp))))))) (a_ (bu (dC l9 bX aA) (bb (cE (cq (jk aJ iZ (wH gh) (j7 bY bU (eB Gdr hr (fb aB (oj ml bU)))))))) aX) (a_ (bu (dC bN bX aA) (bb (cE (cq (gD aJ (wH gh) (wH gh))))) aX) (bb (cE (cq (jk aJ (wH gh) (wH gh) (wH gh))))))))))),?_⟩;have fin:∀{H':Hp} {x' y':Int} {t:Addr} {xs:List V} (s:Sy),Kp [b] H H'->H' b=some (.lst [.int x',.int y'])->H' t=none->KL H' xs s.parts->dS ws ts hs s->Q (.ref t) (upd H' t (.tup (.str (oH s.hd)::xs))):=
  fun s k b' ht kl ds=>q _ _ s _ _ (k.trans (.of (ah ht _))) ((ah ht _) _ _ b') (Bi ht kl) ds
 have lhs:=en.lh';have lts:=en.lt';refine⟨b,x,12,[.int y],rfl,hb,by decide,fun x1 way _ _=> ?_⟩;obtain⟨k1,b1⟩:=FV x1 hb;generalize upd H b (.lst [.int x1,.int y])=H1 at k1 b1⊢;have e1:=en.kp k1;refine(fY (fun _=> ?_) (fun _=> ?_))
 · refine⟨fun σ H'=>∃fo:Str,(fo="every"\/fo="no")/\σ=[some (.ref b),some (.ref lk),some (.ref lt),some (.ref lh),some (.int way),some (.str fo),none,none,none]/\H'=H1,?_,?_⟩
   · refine(fY (fun _=> ?_) (fun _=> ?_))
     · exact⟨"no",.inr rfl,rfl,rfl⟩
     · exact⟨"every",.inl rfl,rfl,rfl⟩
   rintro σ H' ⟨fo,hfo,rfl,rfl⟩;refine⟨b,lk,lt,x1,y,0,ws,ts,2,rfl,b1,e1.hk,e1.ht,e1.nk,e1.nt,e1.p1,e1.p2,e1.p3,e1.p4,by decide,fun v1 H2 q1 x2 y2 k2 b2 i1 nt1 dp1 nm1=> ?_⟩;have e2:=e1.kp k2;refine⟨b,lk,lt,x2,y2,0,ws,ts,2,rfl,b2,e2.hk,e2.ht,e2.nk,e2.nt,e2.p1,e2.p2,e2.p3,e2.p4,by decide,fun v2 H3 q2 x3 y3 k3 b3 i2 nt2 dp2 nm2=> ?_⟩;refine⟨bw (by show 3<=1000;decide),fun t ht=> ?_⟩;have k03:=(k1.trans k2).trans k3;have kl:KL H3 [v1,v2] [q1,q2]:= .cons (i1.mono k3.tups) (.cons i2 .nil);have n1:=wj nt1 dp1 nm1 en.dw;have n2:=wj nt2 dp2 nm2 en.dw;rcases hfo with rfl | rfl
   · exact fin (.every q1 q2) k03 b3 ht kl ⟨n1,n2⟩
   · exact fin (.no q1 q2) k03 b3 ht kl ⟨n1,n2⟩
 refine⟨lh,_,rfl,.inl (SqL.of e1.hh),b,x1,_,[.int y],rfl,b1,by rw[ai,lhs];decide,fun x2 r r0 rm=> ?_⟩;obtain⟨k2,b2⟩:=FV x2 b1;generalize upd H1 b (.lst [.int x2,.int y])=H2 at k2 b2⊢;have e2:=e1.kp k2;obtain⟨z,hz,ez⟩:=gF (ws:=hs) r0 (by rw[ai] at rm;exact rm);refine⟨_,_,SqL.of e2.hh,ez,?_⟩;have k02:=k1.trans k2;have dz:=en.dh z hz;refine(fY (fun _=> ?_) (fun _=> ?_))
 · refine⟨b,lk,lt,x2,y,0,ws,ts,2,rfl,b2,e2.hk,e2.ht,e2.nk,e2.nt,e2.p1,e2.p2,e2.p3,e2.p4,by decide,fun v2 H3 q2 x3 y3 k3 b3 i2 nt2 dp2 nm2=> ?_⟩;refine⟨bw (by show 3<=1000;decide),fun t ht=> ?_⟩;exact fin (.thing z q2) (k02.trans k3) b3 ht (.cons rfl (.cons i2 .nil)) ⟨⟨hz,dz⟩,wj nt2 dp2 nm2 en.dw⟩
 refine⟨3,rfl,by decide,by decide,fun D hD=> ?_⟩;have nDb:D≠b:=fun z=>by rw[z,b2] at hD;cases hD
 have ntD:lt≠D:=ba e2.ht hD;refine iW 3 (fun i σ H'=>(∃o,σ=[o,some (.ref lt),some (.ref b)])/\Kp [b,D] H2 H'/\(∃x' y',H' b=some (.lst [.int x',.int y']))/\∃us:List Str,H' D=some (.lst (us.map V.str))/\us.length=i/\∀u∈us,u∈ts) ⟨⟨_,rfl⟩,.of (ah hD _),⟨_,_,(ah hD _) _ _ b2⟩,[],aa,rfl,fun _ h=>(ak h).elim⟩ ?_ ?_
 · rintro σ H3 ⟨_,kD,⟨x3,y3,b3⟩,us,eD,lus,hus⟩;have k3:Kp [b] H2 H3:=⟨fun c o hc hco=>kD.but c o (by
    simp only[aL,ak,cH,LG];exact⟨fun z=>hc (by rw[z];exact af.mpr rfl),fun z=>by rw[z,hD] at hco;cases hco⟩) hco,kD.tups⟩
   have e3:=e2.kp k3;have k03:=k02.trans k3;obtain⟨u0,u1,u2,rfl⟩:=LQ lus;refine⟨au _,?_⟩;have s0:SqL K H3 D [.str u0,.str u1,.str u2]:=SqL.of eD;refine(fY (fun _=> ?_) (fun _=> ?_))
   · refine⟨_,_,s0,rfl,lh,_,rfl,.inl (SqL.of e3.hh),b,x3,_,[.int y3],rfl,b3,by rw[ai,lhs];decide,fun x4 r' r0' rm'=> ?_⟩;obtain⟨k4,b4⟩:=FV x4 b3;generalize upd H3 b (.lst [.int x4,.int y3])=H4 at k4 b4⊢;obtain⟨z',hz',ez'⟩:=gF (ws:=hs) r0' (by rw[ai] at rm';exact rm');refine⟨_,_,SqL.of (e3.kp k4).hh,ez',bw (by show 4<=1000;decide),fun t ht=> ?_⟩;exact fin (.tied z u0 z') (k03.trans k4) b4 ht (.cons rfl (.cons rfl (.cons rfl .nil))) ⟨⟨hz,dz⟩,⟨hz',en.dh z' hz'⟩,hus u0 (by simp)⟩
   refine(fY (fun _=> ?_) (fun _=> ?_))
   · refine⟨_,_,s0,rfl,_,_,s0,rfl,bw (by show 3<=1000;decide),fun t ht=> ?_⟩;exact fin (.within u0 u1) k03 b3 ht (.cons rfl (.cons rfl .nil)) ⟨hus u0 (by simp),hus u1 (by simp)⟩
   · refine⟨_,_,s0,rfl,_,_,s0,rfl,_,_,s0,rfl,bw (by show 4<=1000;decide),fun t ht=> ?_⟩;exact fin (.makes u0 u1 u2) k03 b3 ht (.cons rfl (.cons rfl (.cons rfl .nil))) ⟨hus u0 (by simp),hus u1 (by simp),hus u2 (by simp)⟩
 · rintro i σ H' hi ⟨⟨o,rfl⟩,kD,⟨x',y',b'⟩,us,eD,lus,hus⟩;refine⟨hi,?_⟩;rintro v H4 ⟨rfl,rfl⟩;have ntL:lt∉[b,D]:=by simp only[aL,ak,cH,LG];exact⟨en.nt,ntD⟩
   refine⟨lt,_,rfl,kD.but _ _ ntL e2.ht,b,x',_,[.int y'],rfl,b',by rw[ai,lts];decide,fun x4 r2 r0 r3=> ?_⟩;have kb2:Kp [b,D] H4 (upd H4 b (.lst [.int x4,.int y'])):=Kp.lst (by simp) b';have kD2:=kD.trans kb2;obtain⟨z,hz,ez⟩:=gF (ws:=ts) r0 (by rw[ai] at r3;exact r3);have eD2:upd H4 b (.lst [.int x4,.int y']) D=some (.lst (us.map V.str)):=by rw[aD nDb];exact eD
   have kD3:Kp [b,D] (upd H4 b (.lst [.int x4,.int y'])) (upd (upd H4 b (.lst [.int x4,.int y'])) D (.lst (us.map V.str++[.str z]))):=Kp.lst (by simp) eD2;have hi3:i<3:=hi;refine⟨_,_,SqL.of (kD2.but _ _ ntL e2.ht),ez,_,eD2,bL (by rw[ai];lia),⟨_,rfl⟩,kD2.trans kD3,⟨x4,y',by rw[aD (bI nDb)];exact aa⟩,us++[z],?_,by rw[ag,lus];rfl,fun u hu=>(av.mp hu).elim (hus u) fun h=>(af.mp h) ▸ hz⟩;rw[aa,bj];rfl
end
inductive nA(vs:List V)(H:Hp)(Q:VK):Prop
 | mk:∀(lc b lk lt lh:Addr) (x y:Int) (cs:List Int) (ws ts hs:List Str),(vs=[.ref lc,.ref b,.ref lk,.ref lt,.ref lh])->(H lc=some (.lst (cs.map V.int)))->(lc≠b)->(cs.length<=90)->(H b=some (.lst [.int x,.int y]))->(Env H b lk lt lh ws ts hs)->(∀(l:Addr) (H':Hp) (ys:List V) (ps:List (Int × Sy)) (x' y':Int),Kp [b] H H'->H l=none->H' l=some (.lst ys)->PrL H' ys ps->ps.length=cs.length->(∀q∈ps,dS ws ts hs q.2)->ps.Pairwise (fun a b=>a.1<b.1)->H' b=some (.lst [.int x',.int y'])->Q (.ref l) H')->nA vs H Q
def qZ:Sp:=fun vs H Q _=>nA vs H Q
def Kp.drop(hl:H l=none)(k:Kp [b,l] H H1):Kp [b] H H1:=⟨fun c o hc hco=>k.but c o (by
 simp only[aL,ak,cH,LG];exact⟨fun z=>hc (by rw[z];exact af.mpr rfl),fun z=>by rw[z,hl] at hco;cases hco⟩) hco,k.tups⟩
def ni{a:Addr}(h:a≠b)(h':a≠l):a∉[b,l]:=by
 simp only[aL,ak,cH,LG];exact⟨h,h'⟩
section
def scNumbered:bq ["_law_cells","_law_bag","_law_kin","_law_ties","_law_things_here","_law_pairs","_law_number","_law_cell_here"] Gx (aK oG):=gU
def xS(F:Fun K "_law_numbered" "_law_numbered" oG f fd)(Gdr:Cl P w K mg base 1 "_law_draw" vG ow)(Gsy:Cl P w K mg base 5 "_law_saying" Gy xb):b_ P w K mg base fj 6 f fd Gx qZ:=by
 refine F.o scNumbered fun cdv A outer s H vs Q E hr h=> ?_;obtain⟨lc,b,lk,lt,lh,x,y,cs,ws,ts,hs,rfl,hc,ncb,hz,hb,en,q⟩:=h;refine⟨_,a_ (fe 5 scNumbered.nd (bR cu)) (a_ (fe 6 scNumbered.nd aA) (a_ (lZ (cj aB) (fq 7 scNumbered.nd) (a_ (kr (bx eZ (bx gZ (wH bp) iZ) aA) (zI bp aA rD)) (a_ (fe 6 scNumbered.nd (bx gZ (bx gZ eK aA) (eB Gdr hr (fb bp aA)))) (jM (bu (dC bN (eB Gdr hr (fb bp aA)) aA) (bb (fe 6 scNumbered.nd (bx gZ eK (bx eZ iZ (bx Ea aA aA))))) aX) (bb (bg (xO cX (cq (fb eK (eB Gsy hr (jk bp bF bU bX))))))))))) (bb (cE cX)))),?_⟩;have cpow:KB 10 20:=⟨by decide,by decide,by decide⟩;refine⟨ay _,fun l hl=> ?_⟩;have s1:=ah hl (.lst []);have nlb:l≠b:=fun z=>by rw[z,hb] at hl;cases hl
 have ncl:=ba hc hl;refine⟨⟨_,SqL.of (s1 _ _ hc)⟩,cf (xs:=cs.map V.int) (fun i σ H'=>(∃(n:Int) (o:Option V),σ=[some (.ref lc),some (.ref b),some (.ref lk),some (.ref lt),some (.ref lh),some (.ref l),some (.int n),o])/\Kp [b,l] H H'/\(∃x' y',H' b=some (.lst [.int x',.int y']))/\∃ys ps,H' l=some (.lst ys)/\PrL H' ys ps/\ps.length=i/\(∀q∈ps,dS ws ts hs q.2)/\ps.Pairwise (fun a b=>a.1<b.1)/\∀n:Int,σ[6]? =some (some (.int n))->∀q∈ps,q.1<=n)
  ⟨⟨_,_,rfl⟩,.of s1,⟨_,_,s1 _ _ hb⟩,[],[],aa,.nil,rfl,fun _ h=>(ak h).elim,.nil,fun _ _ _ h=>(ak h).elim⟩ ?_ ?_ ?_⟩
 · rintro i σ H' hi ⟨_,k,_⟩;exact SqL.of (k.but _ _ (ni ncb ncl) hc)
 · rintro i v σ H' hx ⟨⟨n,o,rfl⟩,k,⟨x',y',b'⟩,ys,ps,el,pr,lps,dps,inc,top⟩;have hi:i<cs.length:=by have:=(aY.mp hx).1;rwa [ai] at this
   obtain⟨c,rfl⟩:∃c:Int,v= .int c:=by
    obtain⟨c,_,e⟩:=bS.mp (ar hx);exact⟨c,e.symm⟩
   refine⟨_,_,SqL.of b',aR (j:=0) rfl,(show(0:Int)<2147483647 by decide),b,_,0,0,rfl,rfl,b',LV _,?_⟩;have kb:Kp [b,l] H (upd H' b (.lst [.int ((x'+c) % 2147483647),.int y'])):=k.trans (Kp.lst (by simp) b');have el2:upd H' b (.lst [.int ((x'+c) % 2147483647),.int y']) l=some (.lst ys):=by rw[aD nlb];exact el
   have b2:upd H' b (.lst [.int ((x'+c) % 2147483647),.int y']) b=some (.lst [.int ((x'+c) % 2147483647),.int y']):=aa;have pr2:=PrL.mono (Kp.lst (L:=[b]) (o:= .lst [.int ((x'+c) % 2147483647),.int y']) (by simp) b').tups pr;show yV _ _ _ _ (upd H' b (.lst [.int ((x'+c) % 2147483647),.int y']));generalize upd H' b (.lst [.int ((x'+c) % 2147483647),.int y'])=H2 at kb el2 b2 pr2⊢;generalize (x'+c) % 2147483647=x2 at b2;refine⟨b,x2,3,[.int y'],rfl,b2,by decide,fun x3 r hr0 _=> ?_⟩;obtain⟨k3,b3⟩:=FV x3 b2;generalize upd H2 b (.lst [.int x3,.int y'])=H3 at k3 b3⊢;refine⟨fun σ H'=>∃(n' x4:Int),σ=[some (.ref lc),some (.ref b),some (.ref lk),some (.ref lt),some (.ref lh),some (.ref l),some (.int n'),some (.int c)]/\Kp [b] H2 H'/\H' b=some (.lst [.int x4,.int y'])/\n<n',?_,?_⟩
   · refine⟨b,x3,12,[.int y'],rfl,b3,by decide,fun x4 r' _ _=> ?_⟩;obtain⟨k4,b4⟩:=FV x4 b3;generalize upd H3 b (.lst [.int x4,.int y'])=H4 at k4 b4⊢;refine(fY (fun _=> ?_) (fun _=> ?_))
     · exact⟨cpow,(show(0:Int)<10^(20:Int).toNat by decide),_,x4,rfl,k3.trans k4,b4,Int.lt_of_lt_of_le (show n<n+1+r by lia) (Int.le_add_of_nonneg_right (d4 c (show(10:Int)^(20:Int).toNat≠0 by decide)))⟩
     · exact⟨_,x4,rfl,k3.trans k4,b4,show n<_ by lia⟩
   rintro σ H4 ⟨n',x4,rfl,k4,b4,nn⟩;have nlb1:l∉[b]:=dA nlb;have el4:=k4.but _ _ nlb1 el2;have en4:=(en.kp (kb.drop hl)).kp k4;refine⟨.inl ⟨rfl,_,SqL.of el4⟩,b,lk,lt,lh,x4,y',ws,ts,hs,rfl,b4,en4,fun v H5 sy x5 y5 k5 b5 is ds=> ?_⟩;have el5:=k5.but _ _ nlb1 el4;refine⟨bw (by show 2<=1000;decide),fun t ht=> ?_⟩;have st:=ah ht (.tup [.int n',v]);have el6:=st _ _ el5;have lys:ys.length=i:=by rw[aS pr];exact lps
   have k46:Kp [b,l] H2 (upd H5 t (.tup [.int n',v])):=((k4.trans k5).trans (.of st)).mono (by simp);have k67:Kp [b,l] (upd H5 t (.tup [.int n',v])) (upd (upd H5 t (.tup [.int n',v])) l (.lst (ys++[.ref t]))):=Kp.lst (by simp) el6;have pr6:PrL (upd (upd H5 t (.tup [.int n',v])) l (.lst (ys++[.ref t]))) (ys++[.ref t]) (ps++[(n',sy)]):=by
    refine mG (PrL.mono (k46.trans k67).tups pr2) (.cons ?_ .nil);exact⟨t,v,rfl,k67.tups _ _ aa,IsSy.mono (st.tups.trans k67.tups) is⟩
   refine⟨ys,el6,bL (by lia),⟨_,_,rfl⟩,(kb.trans k46).trans k67,⟨x5,y5,by rw[aD (bI nlb)];exact st _ _ b5⟩,_,_,aa,pr6,by rw[ag,lps];rfl,fun q hq=> ?_,?_,fun m hm q hq=> ?_⟩
   · rcases av.mp hq with hq | hq
     · exact dps q hq
     · rw[af.mp hq];exact ds
   · rw[tO];refine⟨inc,KS _ _,fun a ha b' hb'=> ?_⟩;rw[af.mp hb'];exact O3 (top n rfl a ha) nn
   · obtain rfl:n'=m:=by simpa using hm
     rcases av.mp hq with hq | hq
     · exact Int.le_of_lt (O3 (top n rfl q hq) nn)
     · rw[af.mp hq];exact Int.le_refl _
 · rintro σ H' ⟨⟨n,o,rfl⟩,k,⟨x',y',b'⟩,ys,ps,el,pr,lps,dps,inc,top⟩;rw[ai] at lps;exact(q l H' ys ps x' y' (k.drop hl) hl el pr lps dps inc b')
end
def EU(K:Frag):kitOne K (.type "tuple") (.type "str")=some false:=by first | rfl | decide | with_unfolding_all rfl
def EV(K:Frag):kitOne K (.type "list") (.type "list")=some true:=by first | rfl | decide | with_unfolding_all rfl
def LH:((([("_law_low":Str)]:List Str)++[]):List Str).Nodup:=by decide+kernel
inductive qU(vs:List V)(H:Hp)(Q:VK):Prop
 | mk:∀i:Int,(vs=[.int i])->(Q (.bl true) H)->qU vs H Q
def wX:Sp:=fun vs H Q _=>qU vs H Q
inductive rj(n:Nat)(vs:List V)(H:Hp)(Q:VK):Prop
 | mk:∀v k,(vs=[v])->(IsK H k v)->(k.dep<n)->(Q (.bl true) H)->rj n vs H Q
def jy(n:Nat):Sp:=fun vs H Q _=>rj n vs H Q
inductive uu(vs:List V)(H:Hp)(Q:VK):Prop
 | mk:∀v f,(vs=[v])->(IsF H f v)->(f.lo 25)->(Q (.bl true) H)->uu vs H Q
def Bc:Sp:=fun vs H Q _=>uu vs H Q
inductive Bf(vs:List V)(H:Hp)(Q:VK):Prop
 | mk:∀l xs ss,(vs=[.ref l])->(H l=some (.lst xs))->(StL [] H xs ss)->((∀s∈ss,s.f.lo 25/\s.fr.length<=2))->(∀H',Same H H'->Q (.bl true) H')->Bf vs H Q
def HW:Sp:=fun vs H Q _=>Bf vs H Q
section
def Gb:bq nM nM (aK zg):=gU
def Cq(F:Fun K "_law_whole" "_law_whole" zg f fd)(mi:mg "isinstance"=none)(mint:mg "int"=none)(mb:mg "bool"=none):b_ P w K mg base fj 1 f fd nM wX:=by
 refine F.o Gb fun cdv A outer s H vs Q E hr h=> ?_;obtain⟨i,rfl,q⟩:=h;refine⟨_,bb (cE (eC (xK mi mint PyProof.Rows.boot_int aB) (fJ (zJ (xK mi mb PyProof.Rows.boot_bool aB))))),?_⟩;exact⟨_,_,_,true,rfl,TyOf.int i,JS K,⟨_,_,_,false,rfl,TyOf.int i,JT K,q⟩⟩
def DM:bq jh jh (aK qv):=gU
def Cy(F:Fun K "_law_kindly" "_law_kindly" qv f fd)(Gkd:Cl P w K mg base k0 "_law_kindly" jh (jy n))(mi:mg "isinstance"=none)(ms:mg "str"=none)(mt:mg "tuple"=none)(ml:mg "len"=none):b_ P w K mg base fj (k0+1) f fd jh (jy (n+1)):=by
 refine F.o DM fun cdv A outer s H vs Q E hr h=> ?_;obtain⟨v,k,rfl,ik,hd,q⟩:=h;have kGkd:=F.kp;refine⟨_,a_ (bu (eX (xK mi ms cm aB)) (bb (cE dI)) aX)
  (a_ (bu (PW.pt (fW (gH (eX (xK mi mt fQ aB))) (gi (dC xR (oj ml aB) aA)))) (bb (cE dI)) aX)
  (a_ (bu (dC bN (di aB) aJ) (bb (cE (eC (xK mi ms cm (di aB)) (fJ (eB Gkd hr (eF (di aB))))))) aX)
  (bb (cE (eC (oO bN (di aB) aJ) (eC (eB Gkd hr (eF (di aB))) (fJ (eB Gkd hr (eF (di aB)))))))))),?_⟩
 cases k with
 | nm x=>
   cases ik;exact⟨_,_,_,true,rfl,TyOf.str x,d6 K,q⟩
 | two a b=>
   obtain⟨p,x,y,rfl,hp,ia,ib⟩:=ik;have hd':1+max a.dep b.dep<n+1:=hd;refine⟨_,_,_,false,rfl,TyOf.tup hp,EU K,⟨_,_,_,true,rfl,TyOf.tup hp,jr K,⟨p,_,rfl,.inr (SqT.of hp),?_⟩⟩⟩;refine⟨_,_,SqT.of hp,rfl,?_⟩;refine⟨_,_,SqT.of hp,rfl,?_⟩;exact⟨_,_,SqT.of hp,rfl,x,a,rfl,ia,by lia,⟨_,_,SqT.of hp,rfl,y,b,rfl,ib,by lia,q⟩⟩
 | som r c=>
   obtain⟨p,y,rfl,hp,ic⟩:=ik;have hd':1+c.dep<n+1:=hd;refine⟨_,_,_,false,rfl,TyOf.tup hp,EU K,⟨_,_,_,true,rfl,TyOf.tup hp,jr K,⟨p,_,rfl,.inr (SqT.of hp),?_⟩⟩⟩;refine⟨_,_,SqT.of hp,rfl,?_⟩;exact⟨_,_,SqT.of hp,rfl,_,_,_,true,rfl,TyOf.str _,d6 K,⟨_,_,SqT.of hp,rfl,y,c,rfl,ic,by lia,q⟩⟩
def yh:b_ P w K mg base fj 1 f fd jh (jy 0):=by
 have no:∀vs H Q E,¬ jy 0 vs H Q E:=fun vs H Q E h=>by
  obtain⟨v,k,_,_,h,_⟩:=h
  lia
 exact⟨fun vs H Q E h=>absurd h (no vs H Q E),fun A outer s H args us vs Q E _ _ _ _ h=>absurd h (no vs H Q E)⟩
theorem sj(A:Fq K mg "_law_kindly" qv jh)(mi:mg "isinstance"=none)(ms:mg "str"=none)(mt:mg "tuple"=none)(ml:mg "len"=none):∀n:Nat,Cl P w K mg base (n+1) "_law_kindly" jh (jy n)
 | 0=>A.cl fun _=>yh
 | n+1=>A.cl fun F=>Cy F (sj A mi ms mt ml n) mi ms mt ml
def Gm:bq DW DW (aK zw):=gU
def Eo(F:Fun K "_law_is_claim" "_law_is_claim" zw f fd)(mi:mg "isinstance"=none)(ms:mg "str"=none)(mt:mg "tuple"=none)(ml:mg "len"=none)(Gkd:Cl P w K mg base 27 "_law_kindly" jh (jy 26)):b_ P w K mg base fj 28 f fd DW Bc:=by
 refine F.o Gm fun cdv A outer s H vs Q E hr h=> ?_;obtain⟨v,f,rfl,iff,lo,q⟩:=h;refine⟨_,a_ (bu (PW.pt (fW (gH (eX (xK mi mt fQ aB))) (fW (dC l9 (oj ml aB) aA) (gi (gH (eX (eB Gkd hr (eF (di aB))))))))) (bb (cE dI)) aX) (a_ (bu (dC bN (di aB) aJ) (bb (cE (eC (oO bN (oj ml aB) aA) (fJ (eB Gkd hr (eF (di aB))))))) aX) (bb (cE (eC (oO bN (di aB) aJ) (eC (oO bN (oj ml aB) aA) (eC (xK mi ms cm (di aB)) (fJ (eB Gkd hr (eF (di aB)))))))))),?_⟩;cases f with
 | is x k=>
   obtain⟨p,a,b,rfl,hp,ia,ib⟩:=iff;obtain⟨l1,l2⟩:=lo;refine⟨_,_,_,true,rfl,TyOf.tup hp,jr K,⟨p,_,rfl,.inr (SqT.of hp),⟨_,_,SqT.of hp,rfl,a,x,rfl,ia,by lia,?_⟩⟩⟩;refine⟨_,_,SqT.of hp,rfl,?_⟩;exact⟨p,_,rfl,.inr (SqT.of hp),⟨_,_,SqT.of hp,rfl,b,k,rfl,ib,by lia,q⟩⟩
 | has x r y=>
   obtain⟨p,a,b,rfl,hp,ia,ib⟩:=iff;obtain⟨l1,l2⟩:=lo;refine⟨_,_,_,true,rfl,TyOf.tup hp,jr K,⟨p,_,rfl,.inr (SqT.of hp),⟨_,_,SqT.of hp,rfl,a,x,rfl,ia,by lia,?_⟩⟩⟩;refine⟨_,_,SqT.of hp,rfl,?_⟩;refine⟨_,_,SqT.of hp,rfl,?_⟩;exact⟨p,_,rfl,.inr (SqT.of hp),⟨_,_,SqT.of hp,rfl,_,_,_,true,rfl,TyOf.str _,d6 K,⟨_,_,SqT.of hp,rfl,b,y,rfl,ib,by lia,q⟩⟩⟩
def scAre:bq ["_law_found","_law_step"] nM (aK Jd):=gU
def JA(F:Fun K "_law_are_steps" "_law_are_steps" Jd f fd)(mi:mg "isinstance"=none)(ms:mg "str"=none)(mt:mg "tuple"=none)(mls:mg "list"=none)(ml:mg "len"=none)(ma:mg "all"=none)(Gcl:Cl P w K mg base 28 "_law_is_claim" DW Bc)(Gwh:Cl P w K mg base 1 "_law_whole" nM wX):b_ P w K mg base fj 29 f fd nM HW:=by
 refine F.o scAre fun cdv A outer s H vs Q E hr h=> ?_;obtain⟨l,xs,ss,rfl,hl,hst,oks,q⟩:=h;refine⟨_,a_ (bu (gH (eX (xK mi mls bO aB))) (bb (cE dI)) aX) (a_ (lZ (cj aB) (fq 1 scAre.nd) (a_ (bu (PW.pt (fW (gH (eX (xK mi mt fQ bp))) (fW (dC xR (oj ml bp) aA) (gi (gH (eX (eB Gcl hr (eF (di bp))))))))) (bb (cE dI)) aX) (a_ (bu (PW.pt (fW (gH (eX (xK mi ms cm (di bp)))) (gi (gH (eX (xK mi mls bO (di bp))))))) (bb (cE dI)) aX) (a_ (bu (gH (xH (dB (uL rfl) rfl ma MF (eF (jN ["_law_low"] [] [] rfl (cj (di bp)) (fun _ _ _=>fq 0 LH) (fun _ _ _=>fZ) (fun _ _ _=>(eB Gwh hr (eF aB)))))) (fun _=>rfl))) (bb (cE dI)) aX) (bb (bu (PW.pt (gG (dC jO (di bp) dN) (hU (gH (eX (eB Gwh hr (eF (di bp)))))))) (bb (cE dI)) aX)))))) (bb (cE dI))),?_⟩;refine⟨_,_,_,true,rfl,TyOf.lst hl,EV K,?_⟩;refine⟨⟨_,SqL.of hl⟩,cf (xs:=xs) (fun i σ H'=>(∃o,σ=[some (.ref l),o])/\Same H H') ⟨⟨_,rfl⟩,Same.refl _⟩ ?_ ?_ ?_⟩
 · rintro i σ H' hi ⟨_,sm⟩;exact SqL.of (sm _ _ hl)
 · rintro i x σ H' hx ⟨⟨o,rfl⟩,sm⟩;obtain⟨st,hs,p,pf,vf,rfl,hp,ig,hpf,_⟩:=cG (StL.keep (.of sm) hst) hx;obtain⟨lo,lf⟩:=oks st (ar hs);refine⟨_,_,_,true,rfl,TyOf.tup hp,jr K,⟨p,_,rfl,.inr (SqT.of hp),⟨_,_,SqT.of hp,rfl,vf,st.f,rfl,ig,lo,?_⟩⟩⟩;refine⟨_,_,SqT.of hp,rfl,_,_,_,true,rfl,TyOf.str _,d6 K,⟨_,_,SqT.of hp,rfl,_,_,_,true,rfl,TyOf.lst hpf,EV K,?_⟩⟩;refine⟨_,_,SqT.of hp,rfl,⟨_,SqL.of hpf⟩,fun D hD=> ?_⟩;have lm:(st.fr.map V.int).length=st.fr.length:=ai ..;refine iW st.fr.length (fun k σ H3=>(∃o,σ=[o])/\Same H' H3/\H3 D=some (.lst ((List.replicate k true).map V.bl))) ⟨⟨_,rfl⟩,ah hD _,aa⟩ ?_ ?_
   · rintro σ H3 ⟨_,s3,e3⟩;refine⟨⟨_,SqL.of (s3 _ _ hpf),by rw[lm];exact au _⟩,?_⟩;refine⟨D,_,rfl,SqL.of e3,_,rfl,?_⟩;rw[show(List.replicate st.fr.length true).all id=true by simp];refine⟨_,_,SqT.of (s3 _ _ hp),rfl,?_⟩;cases en:st.n with
     | none=>
       refine⟨rfl,?_⟩;rw[show(!decide (mJ none=V.non))=false by simp[mJ]];exact(⟨⟨_,rfl⟩,sm.trans s3⟩)
     | some n=>
       refine⟨rfl,?_⟩;rw[show(!decide (mJ (some n)=V.non))=true by simp[mJ]];exact⟨_,_,SqT.of (s3 _ _ hp),rfl,n,by rw[en];rfl,⟨⟨_,rfl⟩,sm.trans s3⟩⟩
   · rintro k σ H3 hk ⟨⟨o,rfl⟩,s3,e3⟩;have hpf3:=s3 _ _ hpf;refine⟨⟨_,_,SqL.of hpf3,aw (by rw[lm];exact hk)⟩,?_⟩;rintro x H4 ⟨rfl,hx1⟩;have hx2:=hx1 _ (SqL.of hpf3);rw[aQ] at hx2;obtain⟨y,hy,rfl⟩:=bP.mp hx2;refine⟨y,rfl,_,e3,bL (by rw[ai,fk];lia),⟨_,rfl⟩,eI s3 hD,?_⟩;rw[aa,List.replicate_succ',bj]
     rfl
 · rintro σ H' ⟨⟨o,rfl⟩,sm⟩;exact q H' sm
end
inductive uv(vs:List V)(H:Hp)(Q:VK):Prop
 | mk:∀(b lk lt:Addr) (x y:Int) (ws ts:List Str) (n:Nat),(vs=[.ref b,.ref lk,.ref lt,.int (n:Int)])->(H b=some (.lst [.int x,.int y]))->(H lk=some (.lst (ws.map V.str)))->(H lt=some (.lst (ts.map V.str)))->(lk≠b)->(lt≠b)->(0<ws.length)->(ws.length<=100)->(0<ts.length)->(ts.length<=100)->(n<=20)->(∀(v:V) (H':Hp) (k:Kd) (x' y':Int),Kp [b] H H'->H' b=some (.lst [.int x',.int y'])->IsK H' k v->k.nt<=n->k.dep<=n->pw ws ts k->Q v H')->uv vs H Q
def Bd:Sp:=fun vs H Q _=>uv vs H Q
section
def scChain:bq ["_law_bag","_law_kin","_law_ties","_law_long","_law_made","_law_k","_law_way"] Gz (aK zy):=gU
def Ep(F:Fun K "_law_chain" "_law_chain" zy f fd)(ml:mg "len"=none)(mr:mg "range"=none)(Gdr:Cl P w K mg base 1 "_law_draw" vG ow):b_ P w K mg base fj 2 f fd Gz Bd:=by
 refine F.o scChain fun cdv A outer s H vs Q E hr h=> ?_;obtain⟨b,lk,lt,x,y,ws,ts,n,rfl,hb,hk,ht,nk,nt,w0,w1,t0,t1,hn,q⟩:=h;refine⟨_,a_ (fe 4 scChain.nd (j7 bY bp (eB Gdr hr (fb aB (oj ml bp))))) (a_ (lZ (fN rfl mr (eF bU)) (fq 5 scChain.nd) (a_ (fe 6 scChain.nd (eB Gdr hr (fb aB aA))) (bb (bu (dC l9 eK aA) (bb (fe 4 scChain.nd (cq (gD aJ (j7 bY bF (eB Gdr hr (fb aB (oj ml bF)))) bX)))) (bb (bu (dC bN eK aA) (bb (fe 4 scChain.nd (cq (gD aJ (j7 bY bp (eB Gdr hr (fb aB (oj ml bp)))) bX)))) (bb (fe 4 scChain.nd (cq (gD aJ bX (j7 bY bp (eB Gdr hr (fb aB (oj ml bp)))))))))))))) (bb (cE bX))),?_⟩;have bd:∀{H1:Hp} {z:List Str} {l:Addr},H1 l=some (.lst (z.map V.str))->SqL K H1 l (z.map V.str):=fun h=>SqL.of h;refine⟨lk,_,rfl,.inl (SqL.of hk),b,x,_,[.int y],rfl,hb,by rw[ai];lia,fun x1 r r0 rm=> ?_⟩;obtain⟨k1,b1⟩:=FV x1 hb;generalize upd H b (.lst [.int x1,.int y])=H1 at k1 b1⊢;obtain⟨z,hz,ez⟩:=gF (ws:=ws) r0 (by rw[ai] at rm;exact rm);refine⟨_,_,SqL.of (k1.but _ _ (dA nk) hk),ez,?_⟩;refine gn ?_;refine⟨_,rfl,by lia,by lia,?_⟩;refine ph (fun i σ H'=>∃(v:V) (k:Kd) (x' y':Int) (o5 o6:Option V),σ=[some (.ref b),some (.ref lk),some (.ref lt),some (.int (n:Int)),some v,o5,o6]/\Kp [b] H H'/\H' b=some (.lst [.int x',.int y'])/\IsK H' k v/\k.nt<=i/\k.dep<=i/\pw ws ts k) ⟨.str z,.nm z,x1,y,none,none,rfl,k1,b1,rfl,au _,au _,.inl hz⟩ ?_ ?_
 · rintro i σ H2 hi ⟨v,k,x',y',o5,o6,rfl,k2,b2,ik,nt',dp,nm⟩;refine gn ?_;refine⟨b,x',4,[.int y'],rfl,b2,by decide,fun x3 way _ _=> ?_⟩;obtain⟨k3,b3⟩:=FV x3 b2;generalize upd H2 b (.lst [.int x3,.int y'])=H3 at k3 b3⊢;have k03:=k2.trans k3;have ik3:=IsK.mono k3.tups ik;refine gn ?_;refine(fY (fun _=> ?_) (fun _=> ?_))
   · refine⟨lt,_,rfl,.inl (SqL.of (k03.but _ _ (dA nt) ht)),b,x3,_,[.int y'],rfl,b3,by rw[ai];lia,fun x4 r r0 rm=> ?_⟩;obtain⟨k4,b4⟩:=FV x4 b3;generalize upd H3 b (.lst [.int x4,.int y'])=H4 at k4 b4⊢;obtain⟨u,hu,eu⟩:=gF (ws:=ts) r0 (by rw[ai] at rm;exact rm);refine⟨_,_,SqL.of ((k03.trans k4).but _ _ (dA nt) ht),eu,by show 3<=sizeLine;decide,fun t ht'=> ?_⟩;have st:=ah ht' (.tup [.str "some",.str u,v]);exact⟨.ref t,.som u k,x4,y',_,_,rfl,(k03.trans k4).trans (.of st),st _ _ b4,⟨t,v,rfl,aa,IsK.mono (k4.tups.trans st.tups) ik3⟩,by show 1+k.nt<=_;lia,by show 1+k.dep<=_;lia,hu,nm⟩
   · refine(fY (fun _=> ?_) (fun _=> ?_))
     · refine⟨lk,_,rfl,.inl (SqL.of (k03.but _ _ (dA nk) hk)),b,x3,_,[.int y'],rfl,b3,by rw[ai];lia,fun x4 r r0 rm=> ?_⟩;obtain⟨k4,b4⟩:=FV x4 b3;generalize upd H3 b (.lst [.int x4,.int y'])=H4 at k4 b4⊢;obtain⟨u,hu,eu⟩:=gF (ws:=ws) r0 (by rw[ai] at rm;exact rm);refine⟨_,_,SqL.of ((k03.trans k4).but _ _ (dA nk) hk),eu,by show 3<=sizeLine;decide,fun t ht'=> ?_⟩;have st:=ah ht' (.tup [.str "both",.str u,v]);exact⟨.ref t,.two (.nm u) k,x4,y',_,_,rfl,(k03.trans k4).trans (.of st),st _ _ b4,⟨t,_,v,rfl,aa,rfl,IsK.mono (k4.tups.trans st.tups) ik3⟩,by show 1+0+k.nt<=_;lia,by show 1+max 0 k.dep<=_;lia,.inl hu,nm⟩
     · refine⟨lk,_,rfl,.inl (SqL.of (k03.but _ _ (dA nk) hk)),b,x3,_,[.int y'],rfl,b3,by rw[ai];lia,fun x4 r r0 rm=> ?_⟩;obtain⟨k4,b4⟩:=FV x4 b3;generalize upd H3 b (.lst [.int x4,.int y'])=H4 at k4 b4⊢;obtain⟨u,hu,eu⟩:=gF (ws:=ws) r0 (by rw[ai] at rm;exact rm);refine⟨_,_,SqL.of ((k03.trans k4).but _ _ (dA nk) hk),eu,by show 3<=sizeLine;decide,fun t ht'=> ?_⟩;have st:=ah ht' (.tup [.str "both",v,.str u]);exact⟨.ref t,.two k (.nm u),x4,y',_,_,rfl,(k03.trans k4).trans (.of st),st _ _ b4,⟨t,v,_,rfl,aa,IsK.mono (k4.tups.trans st.tups) ik3,rfl⟩,by show 1+k.nt+0<=_;lia,by show 1+max k.dep 0<=_;lia,nm,.inl hu⟩
 · rintro σ H2 ⟨v,k,x',y',o5,o6,rfl,k2,b2,ik,nt',dp,nm⟩;rw[bW] at nt' dp;exact(q v H2 k x' y' k2 b2 ik nt' dp nm)
end
def hasK(kvs:List (Key × V))(t:Str):Prop:=(c_ kvs (.inr t)).isSome=true
def yn(h:hasK kvs t):hasK (bV kvs (.inr u) v) t:=by
 unfold hasK at h⊢;rw[fV]
 split
 · rfl
 · exact h
def yo:hasK (bV kvs (.inr u) v) u:=by
 unfold hasK;rw[fV,aH rfl];rfl
theorem Her.imp(h:∀k,P k->P' k):∀{k:Kd},Her P k->Her P' k
 | .nm _,a=>h _ a
 | .two _ _,a=>⟨h _ a.1,Her.imp h a.2.1,Her.imp h a.2.2⟩
 | .som _ _,a=>⟨h _ a.1,Her.imp h a.2⟩
theorem pW:∀(k:Kd),k.tx.tt
 | .nm _=>trivial
 | .two a b=>⟨trivial,pW a,pW b,trivial⟩
 | .som _ c=>⟨trivial,trivial,pW c,trivial⟩
theorem kK:∀(k:Kd),k.tx.py.depth=k.dep
 | .nm _=>rfl
 | .two a b=>by
   show max 0 (max a.tx.py.depth (max b.tx.py.depth 0))+1=1+max a.dep b.dep;rw[kK a,kK b];lia
 | .som _ c=>by
   show max 0 (max 0 (max c.tx.py.depth 0))+1=1+c.dep;rw[kK c];lia
def Gn(h:okK k):(fR k).length<=30 * k.sz:=by
 rw[nR];unfold fR;rw[ij k h];exact kq k h
def jL(ik:IsK H k v)(ok:okK k)(hd:k.dep<=26)(hs:k.sz<=1000)(q:Q (.str (fR k)) H):qx [v] H Q:=⟨v,k.tx,rfl,ik.xa,pW k,by rw[kK];lia,by have:=Gn ok;unfold fR at this;exact aq this (aq (Oi 30 hs) (by decide)),q⟩
inductive rn(n:Nat)(vs:List V)(H:Hp)(Q:VK):Prop
 | mk:∀v d k kvs,(vs=[v,.ref d])->(IsK H k v)->(okK k)->(k.dep<n)->(n<=26)->(k.sz<=1000)->(H d=some (.dK kvs))->(kvs.length+k.sz<=2500000)->(∀H' kvs',(∀b o,H b=some o->b≠d->H' b=some o)->H' d=some (.dK kvs')->kvs'.length<=kvs.length+k.sz->(∀t,hasK kvs t->hasK kvs' t)->Her (fun k=>hasK kvs' (fR k)) k->Q .non H')->rn n vs H Q
def jz(n:Nat):Sp:=fun vs H Q _=>rn n vs H Q
section
def DN:bq nL nL (aK qw):=gU
def CA(F:Fun K "_law_inside" "_law_inside" qw f fd)(Gis:Cl P w K mg base k0 "_law_inside" nL (jz n))(mrp:mg "repr"=none)(mi:mg "isinstance"=none)(mt:mg "tuple"=none):b_ P w K mg base fj (k0+1) f fd nL (jz (n+1)):=by
 refine F.o DN fun cdv A outer s H vs Q E hr h=> ?_;obtain⟨v,d,k,kvs,rfl,ik,ok,hd,hn,hs,ed,hl,q⟩:=h;have kGis:=F.kp;have hu:=gA hr;refine⟨_,a_ (dW hu bp (dB (fP hr.gd hr.units) rfl mrp cF (eF aB)) aB rfl)
  (bb (bu (eX (xK mi mt fQ aB)) (a_ (bg (eB Gis hr (fb (di aB) bp))) (bb (bu (dC bN (di aB) aJ) (bb (bg (eB Gis hr (fb (di aB) bp)))) aX))) aX)),?_⟩
 have put:Tups H (upd H d (.dK (bV kvs (.inr (fR k)) v))):=fun b xs e=>by rw[aD (fun z=>by rw[z,ed] at e;cases e)];exact e
 have kp:∀b o,H b=some o->b≠d->upd H d (.dK (bV kvs (.inr (fR k)) v)) b=some o:=fun b o e n=>by rw[aD n];exact e
 have lp:=dO kvs (.inr (fR k)) v;dsimp only[gB];refine jL ik ok (by lia) hs ?_;refine⟨_,.inl ⟨kvs,.inr (fR k),ed,rfl,bz (show kvs.length<=2500000 by lia) (by decide),rfl⟩,?_⟩;have e1:upd H d (.dK (bV kvs (.inr (fR k)) v)) d=some (.dK (bV kvs (.inr (fR k)) v)):=aa;have ik1:=IsK.mono put ik;have m1:∀t,hasK kvs t->hasK (bV kvs (.inr (fR k)) v) t:=fun t h=>yn h;have n1:hasK (bV kvs (.inr (fR k)) v) (fR k):=yo;generalize bV kvs (.inr (fR k)) v=kv1 at put kp lp e1 ik1 m1 n1⊢;generalize upd H d (.dK kv1)=H1 at put kp e1 ik1⊢;cases k with
 | nm x=>
   cases ik1;exact⟨_,_,_,false,rfl,TyOf.str x,JR K,(q H1 kv1 kp e1 (by simp only[Kd.sz];lia) m1 n1)⟩
 | two a b=>
   obtain⟨p,x,y,rfl,hp,ia,ib⟩:=ik1;have hd':1+max a.dep b.dep<n+1:=hd;have hz:(Kd.two a b).sz=1+a.sz+b.sz:=rfl;refine⟨_,_,_,true,rfl,TyOf.tup hp,jr K,⟨_,_,SqT.of hp,rfl,?_⟩⟩;refine⟨y,d,b,kv1,rfl,ib,ok.2,by lia,by lia,by lia,e1,by lia,fun H2 kv2 k2 e2 l2 m2 h2=> ?_⟩;have nd:∀{c:Addr} {xs:List V},H1 c=some (.tup xs)->c≠d:=fun {c xs} e z=>by rw[z,e1] at e;cases e
   have t2:Tups H1 H2:=fun c xs e=>k2 c _ e (nd e);refine⟨_,_,SqT.of (t2 _ _ hp),rfl,?_⟩;refine⟨_,_,SqT.of (t2 _ _ hp),rfl,?_⟩;refine⟨x,d,a,kv2,rfl,IsK.mono t2 ia,ok.1,by lia,by lia,by lia,e2,by lia,fun H3 kv3 k3 e3 l3 m3 h3=> ?_⟩;exact q H3 kv3 (fun c o e n=>k3 c o (k2 c o (kp c o e n) n) n) e3 (by lia) (fun t h=>m3 t (m2 t (m1 t h))) ⟨m3 _ (m2 _ n1),h3,h2.imp fun k h=>m3 _ h⟩
 | som r c=>
   obtain⟨p,y,rfl,hp,ic⟩:=ik1;have hd':1+c.dep<n+1:=hd;have hz:(Kd.som r c).sz=1+c.sz:=rfl;refine⟨_,_,_,true,rfl,TyOf.tup hp,jr K,⟨_,_,SqT.of hp,rfl,?_⟩⟩;refine⟨y,d,c,kv1,rfl,ic,ok.2,by lia,by lia,by lia,e1,by lia,fun H2 kv2 k2 e2 l2 m2 h2=> ?_⟩;have nd:∀{c:Addr} {xs:List V},H1 c=some (.tup xs)->c≠d:=fun {c xs} e z=>by rw[z,e1] at e;cases e
   have t2:Tups H1 H2:=fun c xs e=>k2 c _ e (nd e);refine⟨_,_,SqT.of (t2 _ _ hp),rfl,?_⟩;exact(q H2 kv2 (fun c o e n=>k2 c o (kp c o e n) n) e2 (by lia) (fun t h=>m2 t (m1 t h)) ⟨m2 _ n1,h2⟩)
def yl:b_ P w K mg base fj 1 f fd nL (jz 0):=by
 have no:∀vs H Q E,¬ jz 0 vs H Q E:=fun vs H Q E h=>by
  obtain⟨v,d,k,kvs,_,_,_,h,_⟩:=h
  lia
 exact⟨fun vs H Q E h=>absurd h (no vs H Q E),fun A outer s H args us vs Q E _ _ _ _ h=>absurd h (no vs H Q E)⟩
theorem sC(A:Fq K mg "_law_inside" qw nL)(mrp:mg "repr"=none)(mi:mg "isinstance"=none)(mt:mg "tuple"=none):∀n:Nat,Cl P w K mg base (n+1) "_law_inside" nL (jz n)
 | 0=>A.cl fun _=>yl
 | n+1=>A.cl fun F=>CA F (sC A mrp mi mt n) mrp mi mt
end
inductive uk(vs:List V)(H:Hp)(Q:VK):Prop
 | mk:∀lp lf ys us ps fs,(vs=[.ref lp,.ref lf])->(H lp=some (.lst ys))->(PrL H ys ps)->(H lf=some (.lst us))->(KL H us fs)->((∀q∈ps,∀k∈q.2.parts,okK k/\k.dep<=25/\k.sz<=1000))->((∀k∈fs,okK k/\k.dep<=25/\k.sz<=1000))->(gO fs+jg ps<=2000000)->(∀d H' kvs,Same H H'->H d=none->H' d=some (.dK kvs)->(∀q∈ps,∀k∈q.2.knK,Her (fun k=>hasK kvs (fR k)) k)->(∀k∈fs,Her (fun k=>hasK kvs (fR k)) k)->Q (.ref d) H')->uk vs H Q
def Bb:Sp:=fun vs H Q _=>uk vs H Q
section
def scKnown:bq ["_law_pairs","_law_further","_law_known_here","_law_kind_here","_law_number","_law_saying_here"] BD (aK zr):=gU
def Em(F:Fun K "_law_known" "_law_known" zr f fd)(Gis:Cl P w K mg base 27 "_law_inside" nL (jz 26)):b_ P w K mg base fj 28 f fd BD Bb:=by
 refine F.o scKnown fun cdv A outer s0 H vs Q E hr h=> ?_;obtain⟨lp,lf,ys,us,ps,fs,rfl,elp,hps,elf,hfs,gp,gf,hz,q⟩:=h;have hu:=gA hr;refine⟨_,a_ (fe 2 scKnown.nd cL)
  (a_ (lZ (cj bp) (fq 3 scKnown.nd) (bb (bg (eB Gis hr (fb bU bF)))))
  (a_ (lZ (cj aB) (eY rfl (br (fq 4 scKnown.nd) (br (fq 5 scKnown.nd) dX))) (a_ (bu (PW.pt (fW (dC bN (di cX) aJ) (gi (dC bN (di cX) aJ)))) (bb (bg (eB Gis hr (fb (di cX) bF)))) aX) (bb (bu (PW.pt (fW (dC bN (di cX) aJ) (fW (dC bN (di cX) aJ) (gi (dC bN (di cX) aJ))))) (bb (bg (eB Gis hr (fb (di cX) bF)))) aX))))
  (bb (cE bF)))),?_⟩
 refine fun d hd=> ?_;refine gn ?_;have s1:=ah hd (.dK []);have step:∀{H1 H2:Hp},Same H H1->(∀b o,H1 b=some o->b≠d->H2 b=some o)->Same H H2:=fun a b c o e=>b c o (a c o e) (ba e hd);have lps:ys.length=ps.length:=aS hps;have lfs:us.length=fs.length:=aS hfs;refine⟨⟨_,SqL.of (s1 _ _ elf)⟩,cf (xs:=us) (fun i σ H'=>∃(o3:Option V) (kvs:List (Key × V)),σ=[some (.ref lp),some (.ref lf),some (.ref d),o3,none,none]/\Same H H'/\H' d=some (.dK kvs)/\kvs.length<=gO (fs.take i)/\∀k∈fs.take i,Her (fun k=>hasK kvs (fR k)) k) ⟨none,[],rfl,s1,aa,ay _,fun _ h=>(ak h).elim⟩ ?_ ?_ ?_⟩
 · rintro i σ H' _ ⟨o3,kvs,rfl,sm,_⟩;exact SqL.of (sm _ _ elf)
 · rintro i v σ H' hv ⟨o3,kvs,rfl,sm,ek,lk,hh⟩;obtain⟨k,hk,ik⟩:=KL.get hfs hv;obtain⟨g1,g2,g3⟩:=gf k (ar hk);have c3:gO (fs.take (i+1))=gO (fs.take i)+k.sz:=iP Kd.sz hk;have c4:gO (fs.take (i+1))<=gO fs:=iO Kd.sz fs (i+1);refine⟨v,d,k,kvs,rfl,IsK.mono sm.tups ik,g1,by lia,by lia,g3,ek,by lia,fun H2 kv2 k2 e2 l2 m2 h2=> ?_⟩;refine⟨_,kv2,rfl,step sm k2,e2,by lia,fun y hy=> ?_⟩;rw[bH,hk] at hy;rcases av.mp hy with hy | hy
   · exact(hh y hy).imp fun z hz'=>m2 _ hz'
   · obtain rfl:y=k:=by simpa using hy
     exact h2
 rintro σ H' ⟨o3,kvs,rfl,sm,ek,lk,hh⟩;rw[lfs,be] at lk hh;refine⟨⟨_,SqL.of (sm _ _ elp)⟩,cf (xs:=ys) (fun i σ H2=>∃(o4 o5:Option V) (kvs:List (Key × V)),σ=[some (.ref lp),some (.ref lf),some (.ref d),o3,o4,o5]/\Same H H2/\H2 d=some (.dK kvs)/\kvs.length<=gO fs+jg (ps.take i)/\(∀k∈fs,Her (fun k=>hasK kvs (fR k)) k)/\∀q∈ps.take i,∀k∈q.2.knK,Her (fun k=>hasK kvs (fR k)) k) ⟨none,none,kvs,rfl,sm,ek,by lia,hh,fun _ h=>(ak h).elim⟩ ?_ ?_ ?_⟩
 · rintro i σ H2 _ ⟨o4,o5,kv,rfl,s2,_⟩;exact SqL.of (s2 _ _ elp)
 · rintro i v σ H2 hv ⟨o4,o5,kv,rfl,s2,e2,l2,h2,hp2⟩;obtain⟨pq,hpq,t,vy,rfl,ht,hsy⟩:=cG hps hv;have gq:=gp pq (ar hpq);have c3:jg (ps.take (i+1))=jg (ps.take i)+pq.2.szs:=iP (fun q:Int × Sy=>q.2.szs) hpq;have c4:jg (ps.take (i+1))<=jg ps:=iO (fun q:Int × Sy=>q.2.szs) ps (i+1);have tk:ps.take (i+1)=ps.take i++[pq]:=by rw[bH,hpq];rfl
   rw[c3,tk];obtain⟨n,s⟩:=pq;replace c3:jg (ps.take (i+1))=jg (ps.take i)+s.szs:=c3;obtain⟨pv,vs,rfl,hpv,hL⟩:=IsSy.mono s2.tups hsy;refine⟨_,SqT.of (s2 _ _ ht),rfl,?_⟩;have fin:∀{H3:Hp} {kv3:List (Key × V)},Same H H3->H3 d=some (.dK kv3)->kv3.length<=kv.length+s.szs->(∀t,hasK kv t->hasK kv3 t)->(∀k∈s.knK,Her (fun k=>hasK kv3 (fR k)) k)->∃(o4 o5:Option V) (kvs:List (Key × V)),[some (V.ref lp),some (V.ref lf),some (V.ref d),o3,some (V.int n),some (V.ref pv)]=[some (V.ref lp),some (V.ref lf),some (V.ref d),o3,o4,o5]/\Same H H3/\H3 d=some (.dK kvs)/\kvs.length<=gO fs+(jg (ps.take i)+s.szs)/\(∀k∈fs,Her (fun k=>hasK kvs (fR k)) k)/\∀q∈ps.take i++[(n,s)],∀k∈q.2.knK,Her (fun k=>hasK kvs (fR k)) k:=fun {H3 kv3} s3 e3 l3 m3 h3=>⟨_,_,kv3,rfl,s3,e3,by lia,fun k hk=>(h2 k hk).imp fun z hz'=>m3 _ hz',fun q hq k hk=>by
    rcases av.mp hq with hq | hq
    · exact(hp2 q hq k hk).imp fun z hz'=>m3 _ hz'
    · obtain rfl:q=(n,s):=by simpa using hq
      exact h3 k hk⟩
   cases s with
   | every a b=>
     obtain⟨va,vb,rfl,ka,kb⟩:=yg hL;obtain⟨a1',a2',a3'⟩:=gq a (by simp[Sy.parts]);obtain⟨b1',b2',b3'⟩:=gq b (by simp[Sy.parts]);have hz2:(Sy.every a b).szs=a.sz+b.sz:=by simp[Sy.szs,Sy.parts]
     refine(cI hpv rfl ((?_)));refine(cI hpv rfl ?_);refine⟨va,d,a,kv,rfl,ka,a1',by lia,by lia,a3',e2,by lia,fun H3 kv3 k3 e3 l3 m3 h3=> ?_⟩;have nd:∀{c:Addr} {xs:List V},H2 c=some (.tup xs)->c≠d:=fun {c xs} e z=>by rw[z,e2] at e;cases e
     have t3:Tups H2 H3:=fun c xs e=>k3 c _ e (nd e);refine(cI (t3 _ _ hpv) rfl ((?_)));refine(cI (t3 _ _ hpv) rfl ?_);refine⟨vb,d,b,kv3,rfl,IsK.mono t3 kb,b1',by lia,by lia,b3',e3,by lia,fun H4 kv4 k4 e4 l4 m4 h4=> ?_⟩;exact fin (step (step s2 k3) k4) e4 (by lia) (fun t h=>m4 t (m3 t h)) fun k hk=>by
      rcases(show k=a\/k=b by simpa[Sy.knK] using hk) with rfl | rfl
      · exact h3.imp fun z hz'=>m4 _ hz'
      · exact h4
   | no a b=>
     obtain⟨va,vb,rfl,ka,kb⟩:=yg hL;obtain⟨a1',a2',a3'⟩:=gq a (by simp[Sy.parts]);obtain⟨b1',b2',b3'⟩:=gq b (by simp[Sy.parts]);have hz2:(Sy.no a b).szs=a.sz+b.sz:=by simp[Sy.szs,Sy.parts]
     refine(cI hpv rfl (?_));refine(cI hpv rfl (?_));refine(cI hpv rfl ?_);refine⟨va,d,a,kv,rfl,ka,a1',by lia,by lia,a3',e2,by lia,fun H3 kv3 k3 e3 l3 m3 h3=> ?_⟩;have nd:∀{c:Addr} {xs:List V},H2 c=some (.tup xs)->c≠d:=fun {c xs} e z=>by rw[z,e2] at e;cases e
     have t3:Tups H2 H3:=fun c xs e=>k3 c _ e (nd e);refine(cI (t3 _ _ hpv) rfl (?_));refine(cI (t3 _ _ hpv) rfl ((?_)));refine(cI (t3 _ _ hpv) rfl ?_);refine⟨vb,d,b,kv3,rfl,IsK.mono t3 kb,b1',by lia,by lia,b3',e3,by lia,fun H4 kv4 k4 e4 l4 m4 h4=> ?_⟩;exact fin (step (step s2 k3) k4) e4 (by lia) (fun t h=>m4 t (m3 t h)) fun k hk=>by
      rcases(show k=a\/k=b by simpa[Sy.knK] using hk) with rfl | rfl
      · exact h3.imp fun z hz'=>m4 _ hz'
      · exact h4
   | thing x c=>
     obtain⟨va,vb,rfl,ka,kb⟩:=yg hL;obtain⟨b1',b2',b3'⟩:=gq c (by simp[Sy.parts]);have hz2:(Sy.thing x c).szs=1+c.sz:=by simp[Sy.szs,Sy.parts,Kd.sz]
     refine(cI hpv rfl (?_));refine(cI hpv rfl (?_));refine(cI hpv rfl (?_));refine(cI hpv rfl (?_));refine(cI hpv rfl (?_));refine(cI hpv rfl ?_);refine⟨vb,d,c,kv,rfl,kb,b1',by lia,by lia,b3',e2,by lia,fun H4 kv4 k4 e4 l4 m4 h4=> ?_⟩;exact fin (step s2 k4) e4 (by lia) m4 fun k hk=>by
      obtain rfl:k=c:=by simpa[Sy.knK] using hk
      exact h4
   | _=>
     iterate 5 refine cI hpv (aR (j:=0) rfl) ?_
     exact fin s2 e2 (cR _ _) (fun _ h=>h) fun k hk=>by simp[Sy.knK] at hk
 · rintro σ H2 ⟨o4,o5,kv,rfl,s2,e2,l2,h2,hp2⟩;rw[lps,be] at hp2;exact(q d H2 kv s2 hd e2 hp2 h2)
end
noncomputable def iz(C:List Fa)(t:Str):List Kd:=C.filterMap fun | .has x _ y=>if fR x=t then some y else none | _=>none
noncomputable def Ak(C:List Fa):Key->List Kd
 | .inr t=>iz C t
 | .inl _=>[]
def CJ(h:Fa.has x t y∈C):y∈iz C (fR x):=d_.mpr ⟨_,h,aH rfl⟩
def E6(C:List Fa)(x y:Kd)(t:Str):(fun j:Key=>Ak C j++if j= .inr (fR x) then [y] else [])=Ak (C++[.has x t y]):=by
 funext j
 cases j with
 | inl i=>rw[aE (by intro z;cases z)];rfl
 | inr u=>
   show iz C u++_=iz (C++[.has x t y]) u;unfold iz;rw[jv]
   congr 1
   by_cases e:fR x=u
   · rw[aH (by rw[e])];simp[e]
   · rw[aE (fun z=>e (by injection z with z;exact z.symm))];simp[e]
def Hh(C:List Fa)(x k:Kd):Ak (C++[.is x k])=Ak C:=by
 funext j
 cases j with
 | inl i=>rfl
 | inr u=>
   show iz (C++[.is x k]) u=iz C u;unfold iz;rw[jv];simp
noncomputable def remN(kvs:List (Key × V)):List Fa->Nat
 | []=>0
 | .is _ _::C=>remN kvs C
 | .has x _ _::C=>(if(c_ kvs (.inr (fR x))).isSome=true then 0 else 1)+remN kvs C
theorem vE(kvs:List (Key × V)):∀C,remN kvs C<=C.length
 | []=>au _
 | .is _ _::C=>mY (vE kvs C)
 | .has x _ _::C=>by
   have:=vE kvs C;unfold remN;rw[aV]
   split<;>lia
theorem vD(h:¬ hasK kvs t):∀C,remN (bV kvs (.inr t) v) C+(iz C t).length=remN kvs C
 | []=>rfl
 | .is _ _::C=>vD h C
 | .has x u y::C=>by
   have ih:=vD h C (v:=v);unfold remN;have e:iz (.has x u y::C) t=(if fR x=t then [y] else [])++iz C t:=by
    unfold iz;rw[fM];dsimp only
    split
    · rename_i z;split at z
      · cases z
      · rename_i c;rw[aE c];rfl
    · rename_i z;split at z
      · rename_i c;rw[aH c];cases z;rfl
      · cases z
   rw[e,ag,fV];by_cases c:fR x=t
   · subst c;rw[aH rfl,aH rfl,aH (show(some v:Option V).isSome=true from rfl),aE (show ¬ (c_ kvs (.inr (fR x))).isSome=true from h)];show 0+_+(1+_)=1+_
     lia
   · rw[aE (show ¬ (Sum.inr (fR x):Key)=Sum.inr t from fun z=>c (by injection z)),aE c];show _+_+(0+_)=_
     lia
def CV(h:y∈iz C t):∃x u,Fa.has x u y∈C:=by
 obtain⟨f,hf,e⟩:=d_.mp h;cases f with
 | is a b=>cases e
 | has x u z=>
   dsimp only at e
   split at e
   · cases e;exact⟨x,u,hf⟩
   · cases e
theorem BO:∀{vs:List V} {ks:List Kd},KL H vs ks->∀n,KL H (vs.take n) (ks.take n)
 | _,_,.nil,n=>by cases n<;>exact .nil
 | _,_,.cons r t,0=> .nil
 | _,_,.cons r t,n+1=> .cons r (BO t n)
def HH(H:Hp)(v:V)(k:Kd):Prop:=IsK H k v
def ET:Mo HH:=fun _ _ _ _ t h=>IsK.mono t h
inductive pH(vs:List V)(H:Hp)(Q:VK):Prop
 | mk:∀l r xs zs ss rs,(vs=[.ref l,.ref r])->(H l=some (.lst xs))->(StL [] H xs ss)->(H r=some (.lst zs))->(KL H zs rs)->((∀s∈ss,zV s.f/\s.f.lo 25/\(∀k,(s.f.x=k\/(∃x t,s.f= .has x t k)\/∃x,s.f= .is x k)->k.sz<=1000)))->((∀k∈rs,okK k/\k.dep<=25/\k.sz<=1000))->(ss.length+rs.length<=2500000)->(∀d H' kvs,Same H H'->H d=none->H' d=some (.dK kvs)->(∀k,KN rs (ss.map (·.f)) k->hasK kvs (fR k))->Q (.ref d) H')->pH vs H Q
def ug:Sp:=fun vs H Q _=>pH vs H Q
section
def scReached:bq ["_law_found","_law_roots","_law_had","_law_step","_law_reach","_law_todo","_law_x"] Gu (aK rJ):=gU
def zQ(F:Fun K "_law_reached" "_law_reached" rJ f fd)(mrp:mg "repr"=none)(mls:mg "list"=none)(ml:mg "len"=none):b_ P w K mg base fj 1 f fd Gu ug:=by
 refine F.o scReached fun cdv A outer s0 H vs Q E hr h=> ?_;obtain⟨l,r,xs,zs,ss,rs,rfl,el,hss,er,hrs,gs,gr,hl,q⟩:=h;have hu:=gA hr;refine⟨_,a_ (fe 2 scReached.nd cL)
  (a_ (lZ (cj aB) (fq 3 scReached.nd) (bb (bu (dC bN (di (di bU)) aJ) (bb (bg (xO (xM bF (dB (fP hr.gd hr.units) rfl mrp cF (eF (di (di bU)))) (bR cu) ⟨rfl,rfl,rfl,rfl⟩) (di (di bU))))) aX)))
  (a_ (fe 4 scReached.nd cL)
  (a_ (fe 5 scReached.nd (fu gN rfl mls bO (eF bp)))
  (a_ (rP qI (dC Eb (oj ml cX) aA) (a_ (fe 6 scReached.nd (zK KO PySem.F.slot_list_pop PySem.F.type_list_pop JG cX)) (bb (bu (dC (iN hu) (dB (fP hr.gd hr.units) rfl mrp cF (eF eK)) bX) (a_ (dW hu bX (dB (fP hr.gd hr.units) rfl mrp cF (eF eK)) dI rfl) (bb (fe 5 scReached.nd (bx oS cX (rR hu bF (dB (fP hr.gd hr.units) rfl mrp cF (eF eK)) (bR cu)))))) aX))))
  (bb (cE bX)))))),?_⟩
 refine fun dh hdh=> ?_;refine gn ?_;have s1:=ah hdh (.dK []);have T0:∃T:Tg,T dh=some (0,none)/\∀b,b≠dh->T b=none:=⟨fun b=>if b=dh then some (0,none) else none,aH rfl,fun b hb=>aE hb⟩;obtain⟨T,td,tn⟩:=T0;have tg0:TgOk T (upd H dh (.dK [])):=fun b i h=>by
  by_cases c:b=dh
  · rw[c,aa];intro z;cases z
  · rw[tn b c] at h;cases h
 have ft0:FTb HH (upd H dh (.dK [])) T 0 dh (Ak []) 0:=FTb.nil (fun k=>by cases k<;>rfl) td aa;generalize upd H dh (.dK [])=H1 at s1 tg0 ft0⊢;have lx:xs.length=ss.length:=aS hss;have old:∀{T':Tg} {H':Hp},Fr [0] T T' H1 H'->∀{b:Addr} {o:HO},H b=some o->H' b=some o:=fun {T' H'} fr {b o} e=>(Fr.free fr (s1 b o e) (tn b (ba e hdh))).2;refine⟨⟨_,SqL.of (s1 _ _ el)⟩,cf (xs:=xs) (fun i σ H'=>∃(o3:Option V) (T':Tg),σ=[some (.ref l),some (.ref r),some (.ref dh),o3,none,none,none]/\Fr [0] T T' H1 H'/\TgOk T' H'/\FTb HH H' T' 0 dh (Ak ((ss.take i).map (·.f))) i) ⟨none,T,rfl,Fr.refl,tg0,ft0⟩ ?_ ?_ ?_⟩
 · rintro i σ H' _ ⟨o3,T',rfl,fr,_⟩;exact SqL.of (old fr el)
 · rintro i v σ H' hv ⟨o3,T',rfl,fr,tg,ft⟩;obtain⟨st,hs,p,pf,vf,rfl,hp,ig,hpf,_⟩:=cG hss hv;obtain⟨g1,g2,g3⟩:=gs st (ar hs);have hi:i<ss.length:=(aY.mp hs).1;have hp':=old fr hp;have tk:(ss.take (i+1)).map (·.f)=(ss.take i).map (·.f)++[st.f]:=by rw[bH,hs,bj];rfl
   rw[tk];refine gn ?_;cases hf:st.f with
   | is x k=>
     rw[hf] at ig;obtain⟨pF,a,b,rfl,hF,ia,ib⟩:=ig;have hF':=old fr hF;refine⟨_,_,SqT.of hp',aR (j:=0) rfl,_,_,SqT.of hF',aR (j:=0) rfl,?_⟩;refine⟨_,T',rfl,fr,tg,?_⟩;rw[Hh];obtain⟨z1,kvs,z2,z3,z4,z5⟩:=ft;exact⟨z1,kvs,z2,mY z3,fun k=>mY (z4 k),z5⟩
   | has x t y=>
     rw[hf] at ig g1 g2;obtain⟨pF,a,b,rfl,hF,ia,ib⟩:=ig;have hF':=old fr hF;have tu:Tups H H':=fun c us e=>old fr e;refine⟨_,_,SqT.of hp',aR (j:=0) rfl,_,_,SqT.of hF',aR (j:=0) rfl,?_⟩;obtain⟨dd,key,vv,kvs,heq,hd,hlen,nt⟩:=hV (key:= .inr (fR x)) (v:=b) (x:=y) (Q:=fun _ H2=>∃(o3:Option V) (T':Tg),[some (V.ref l),some (V.ref r),some (V.ref dh),some (V.ref p),none,none,none]=[some (V.ref l),some (V.ref r),some (V.ref dh),o3,none,none,none]/\Fr [0] T T' H1 H2/\TgOk T' H2/\FTb HH H2 T' 0 dh (Ak ((ss.take i).map (·.f)++[.has x t y])) (i+1)) ET tg ft (by lia) (IsK.mono tu ib) (fun H2 T2 f2 tg2 ft2=>⟨_,T2,rfl,fr.trans f2,tg2,by rw[<-E6];exact ft2⟩);simp only[bC,V.ref.injEq,and_true] at heq;obtain⟨rfl,hk,rfl⟩:=heq;obtain rfl:Sum.inr (fR x)=key:=JY hk;refine⟨dh,rfl,.inl ⟨kvs,.inl hd⟩,_,_,SqT.of hp',aR (j:=0) rfl,_,_,SqT.of hF',aR (j:=1) rfl,?_⟩;dsimp only[gB];refine jL (IsK.mono tu ia) g1.1 (by have:=g2.1;lia) (g3 x (.inl (by rw[hf];rfl))) ?_;refine⟨ay _,fun g hg=> ?_⟩;have pg:dh≠g:=fun z=>by rw[z,hg] at hd;cases hd
     have hd1:upd H' g (.lst []) dh=some (.dK kvs):=by rw[aD pg];exact hd
     have up:∀{c:Addr} {us:List V},H' c=some (.tup us)->∀{o:HO},upd (upd H' g (.lst [])) dh o c=some (.tup us)/\upd H' g (.lst []) c=some (.tup us):=fun {c us} e {o}=>by
      have n1:c≠g:=fun z=>by rw[z,hg] at e;cases e
      have n2:c≠dh:=fun z=>by rw[z,hd] at e;cases e
      exact⟨by rw[aD n2,aD n1];exact e,by rw[aD n1];exact e⟩
     refine⟨kvs,.inr (fR x),hd1,rfl,hlen,fun y' hy=> ?_,fun hy=> ?_⟩
     · rcases nt with⟨hn,_⟩ | ⟨q',us,hq,e,l',h⟩
       · rw[hn] at hy;cases hy
       · rw[hq] at hy;cases hy;have qg:q'≠g:=fun z=>by rw[z,hg] at e;cases e
         have e1:upd H' g (.lst []) q'=some (.lst us):=by rw[aD qg];exact e
         exact⟨.inl ⟨rfl,_,SqL.of e1⟩,_,_,SqT.of (up hp' (o:= .own p)).2,aR (j:=0) rfl,_,_,SqT.of (up hF' (o:= .own p)).2,aR (j:=3) rfl,us,e1,l',h g hg _ rfl⟩
     · rcases nt with⟨_,h⟩ | ⟨q',us,hq,_⟩
       · have e1:upd (upd H' g (.lst [])) dh (.dK (bV kvs (.inr (fR x)) (.ref g))) g=some (.lst []):=by rw[aD (bI pg),aa]
         exact⟨.inl ⟨rfl,_,SqL.of e1⟩,_,_,SqT.of (up hp').1,aR (j:=0) rfl,_,_,SqT.of (up hF').1,aR (j:=3) rfl,[],e1,by decide,h g hg _ (KW pg)⟩
       · rw[hq] at hy;cases hy
 rintro σ H2 ⟨o3,T2,rfl,f2,tg2,ft2⟩;rw[lx,be] at ft2;have s2:Same H H2:=fun b o e=>old f2 e;have gC:∀x u y,Fa.has x u y∈ss.map (·.f)->okK y/\y.dep<=25/\y.sz<=1000:=fun x u y hm=>by
  obtain⟨st,hst,e⟩:=bS.mp hm;obtain⟨g1,g2,g3⟩:=gs st hst;have e':st.f= .has x u y:=e;rw[e'] at g1 g2;exact⟨g1.2.2,g2.2,g3 y (.inr (.inl ⟨x,u,e'⟩))⟩
 have lC:(ss.map (·.f)).length=ss.length:=ai ..;generalize ss.map (·.f)=C at ft2 gC lC q;refine fun dr hdr=> ?_;refine gn ?_;have y1:=ah hdr (.dK []);refine⟨r,zs,rfl,.inl (SqL.of (y1 _ _ (s2 _ _ er))),fun lt0 hlt0=> ?_⟩;refine gn ?_;have y2:=ah hlt0 (.lst zs);have n0:lt0≠dr:=fun z=>by rw[z,aa] at hlt0;cases hlt0
 have h20:H2 lt0=none:=by
  cases c:H2 lt0 with
  | none=>rfl
  | some o=>rw[y1 _ _ c] at hlt0;cases hlt0
 obtain⟨W,hW⟩:∃W:Nat->L2.St->Hp->Prop,∀m σ H',W m σ H'↔∃(lt:Addr) (vs:List V) (ks:List Kd) (kvr:List (Key × V)) (o6:Option V),σ=[some (.ref l),some (.ref r),some (.ref dh),o3,some (.ref dr),some (.ref lt),o6]/\Same H2 H'/\H' dr=some (.dK kvr)/\H' lt=some (.lst vs)/\H2 lt=none/\lt≠dr/\KL H' vs ks/\(∀k∈ks,okK k/\k.dep<=25/\k.sz<=1000)/\m=ks.length+remN kvr C/\kvr.length+m<=2500000/\(∀k∈rs,hasK kvr (fR k)\/k∈ks)/\∀x u y,Fa.has x u y∈C->hasK kvr (fR x)->hasK kvr (fR y)\/y∈ks:=⟨_,fun _ _ _=>Iff.rfl⟩;have lz:zs.length=rs.length:=aS hrs;have r0:=vE [] C;refine⟨W,⟨rs.length+remN [] C,(hW _ _ _).mpr ⟨lt0,zs,rs,[],none,rfl,fun b o e=>y2 _ _ (y1 _ _ e),by rw[aD (bI n0)];exact aa,aa,h20,n0,KL.mono (fun b us e=>y2 _ _ (y1 _ _ (s2 _ _ e))) hrs,gr,rfl,by show 0+_<=_;lia,fun k hk=> .inr hk,fun x u y _ h=>by cases h⟩⟩,?_⟩;intro m σ H3 hw;obtain⟨lt,vs,ks,kvr,o6,rfl,s3,e3,el3,hlt,nlt,kl,gk,hm,hz,hro,hcl⟩:=(hW _ _ _).mp hw;have lv:vs.length=ks.length:=aS kl;refine⟨lt,vs,rfl,.inl (SqL.of el3),?_⟩;by_cases he:0<vs.length
 · show if decide ((0:Int)<((vs.length:Nat):Int))=true then _ else _
   rw[ao (show(0:Int)<((vs.length:Nat):Int) by lia)];refine⟨fun σ' H'=>∃m',m'<m/\W m' σ' H',fun _ _ h=>h,?_⟩;have hvl:vs.length - 1<vs.length:=by lia
   obtain⟨k,hk,ik⟩:=KL.get kl (aw hvl);have ksd:ks=ks.dropLast++[k]:=by
    have hne:ks≠[]:=fun z=>by rw[z,cw] at lv;lia
    have hl':ks.getLast hne=k:=by
     rw[List.getLast_eq_getElem];have:=aY.mp hk;obtain⟨h1,h2⟩:=this;rw[<-h2]
     congr 1
     lia
    rw[<-hl',List.dropLast_concat_getLast]
   obtain⟨g1,g2,g3⟩:=gk k (by rw[ksd];exact aN _ (af.mpr rfl));have kld:KL H3 vs.dropLast ks.dropLast:=by
    have e1:vs.dropLast=vs.take (ks.length - 1):=by rw[MJ,lv]
    rw[e1,MJ];exact BO kl _
   refine⟨.inl ⟨rfl,_,SqL.of el3⟩,lt,vs,_,rfl,rfl,el3,aw hvl,?_⟩;have tu:Tups H3 (upd H3 lt (.lst vs.dropLast)):=fun b us e=>by rw[aD (fun z=>by rw[z,el3] at e;cases e)];exact e
   have s4:Same H2 (upd H3 lt (.lst vs.dropLast)):=fun b o e=>by rw[aD (ba e hlt)];exact s3 b o e
   have e4:upd H3 lt (.lst vs.dropLast) dr=some (.dK kvr):=by rw[aD (bI nlt)];exact e3
   have el4:upd H3 lt (.lst vs.dropLast) lt=some (.lst vs.dropLast):=aa;have ik4:=IsK.mono tu ik;have kl4:=KL.mono tu kld;refine gn ?_;generalize upd H3 lt (.lst vs.dropLast)=H4 at tu s4 e4 el4 ik4 kl4⊢;dsimp only[gB];refine jL ik4 g1 (by lia) g3 ?_;refine⟨dr,_,rfl,DGet.k (k:= .inr (fR k)) e4,?_⟩;have lk:ks.length=ks.dropLast.length+1:=by rw[jW];lia
   by_cases hh:hasK kvr (fR k)
   · have hh':(c_ kvr (.inr (fR k))).isSome=true:=hh;rw[hh'];refine⟨ks.dropLast.length+remN kvr C,by lia,(hW _ _ _).mpr ⟨lt,_,ks.dropLast,kvr,_,rfl,s4,e4,el4,hlt,nlt,kl4,fun k' h'=>gk k' (NW _ h'),rfl,by lia,fun k' h'=> ?_,fun x u y hm' hx=> ?_⟩⟩
     · rcases hro k' h' with z | z
       · exact .inl z
       · rw[ksd] at z;rcases av.mp z with z | z
         · exact .inr z
         · rw[af.mp z];exact .inl hh
     · rcases hcl x u y hm' hx with z | z
       · exact .inl z
       · rw[ksd] at z;rcases av.mp z with z | z
         · exact .inr z
         · rw[af.mp z];exact .inl hh
   · have hh':(c_ kvr (.inr (fR k))).isSome=false:=by simpa[hasK] using hh
     rw[hh'];dsimp only[gB];refine jL ik4 g1 (by lia) g3 ?_;refine⟨_,.inl ⟨kvr,.inr (fR k),e4,rfl,bz (show kvr.length<=2500000 by lia) (by decide),rfl⟩,?_⟩;have rp:=vD (v:= .bl true) hh C;have lput:=dO kvr (.inr (fR k)) (.bl true);have tu5:Tups H4 (upd H4 dr (.dK (bV kvr (.inr (fR k)) (.bl true)))):=fun b us e=>by rw[aD (fun z=>by rw[z,e4] at e;cases e)];exact e
     have s5:Same H2 (upd H4 dr (.dK (bV kvr (.inr (fR k)) (.bl true)))):=fun b o e=>by rw[aD (ba e hdr)];exact s4 b o e
     have e5:upd H4 dr (.dK (bV kvr (.inr (fR k)) (.bl true))) dr=some (.dK (bV kvr (.inr (fR k)) (.bl true))):=aa;have el5:upd H4 dr (.dK (bV kvr (.inr (fR k)) (.bl true))) lt=some (.lst vs.dropLast):=by rw[aD nlt];exact el4
     have mo:∀t,hasK kvr t->hasK (bV kvr (.inr (fR k)) (.bl true)) t:=fun t h=>yn h;have nw:hasK (bV kvr (.inr (fR k)) (.bl true)) (fR k):=yo;have iff':∀t,hasK (bV kvr (.inr (fR k)) (.bl true)) t->t=fR k\/hasK kvr t:=fun t h=>by
      unfold hasK at h⊢;rw[fV] at h
      split at h
      · rename_i z;exact .inl (by injection z)
      · exact .inr h
     have ik5:=IsK.mono tu5 ik4;have kl5:=KL.mono tu5 kl4;generalize bV kvr (.inr (fR k)) (.bl true)=kv5 at rp lput tu5 s5 e5 el5 mo nw iff' ik5 kl5⊢;generalize upd H4 dr (.dK kv5)=H5 at tu5 s5 e5 el5 ik5 kl5⊢;have ft5:=ft2.fr ET (Fr.of (S:=[]) s5) (ak);refine⟨.inl ⟨_,.inl (id ft5).2.choose_spec.1⟩,?_⟩;dsimp only[gB];refine jL ik5 g1 (by lia) g3 ?_;refine⟨ay _,fun g hg=> ?_⟩;obtain⟨kvs,qq,us,ep,eg,eq,rv,_⟩:=jf ET ft5 (tg2.same s5) hg (.inr (fR k));have y6:=ah hg (.lst []);refine⟨_,DGet.k (k:= .inr (fR k)) ep,?_⟩;rw[eg];have lus:us.length=(iz C (fR k)).length:=aS rv;have lvd:vs.dropLast.length=ks.dropLast.length:=by rw[jW,jW,lv]
     refine⟨lt,qq,vs.dropLast,us,rfl,rfl,y6 _ _ el5,eq,aq (show vs.dropLast.length+us.length<=2500000 by lia) (by decide),fun lt' hlt'=> ?_⟩;have y7:=ah hlt' (.lst (vs.dropLast++us));have n7:lt'≠dr:=fun z=>by rw[z,y6 _ _ e5] at hlt';cases hlt'
     have h27:H2 lt'=none:=by
      cases c:H2 lt' with
      | none=>rfl
      | some o=>rw[y6 _ _ (s5 _ _ c)] at hlt';cases hlt'
     refine⟨ks.dropLast.length+(iz C (fR k)).length+remN kv5 C,by lia,(hW _ _ _).mpr ⟨lt',_,ks.dropLast++iz C (fR k),kv5,_,rfl,fun b o e=>y7 _ _ (y6 _ _ (s5 _ _ e)),y7 _ _ (y6 _ _ e5),aa,h27,n7,nO (KL.mono (fun b us e=>y7 _ _ (y6 _ _ e)) kl5) (KL.mono y7.tups rv),fun k' h'=> ?_,by rw[ag],by lia,fun k' h'=> ?_,fun x u y hm' hx=> ?_⟩⟩
     · rcases av.mp h' with h' | h'
       · exact gk k' (NW _ h')
       · obtain⟨x,u,hx⟩:=CV h';exact gC x u k' hx
     · rcases hro k' h' with z | z
       · exact .inl (mo _ z)
       · rw[ksd] at z;rcases av.mp z with z | z
         · exact .inr (aP _ z)
         · rw[af.mp z];exact .inl nw
     · rcases iff' _ hx with z | z
       · rw[<-z];exact .inr (aN _ (CJ hm'))
       · rcases hcl x u y hm' z with z | z
         · exact .inl (mo _ z)
         · rw[ksd] at z;rcases av.mp z with z | z
           · exact .inr (aP _ z)
           · rw[af.mp z];exact .inl nw
 · show if decide ((0:Int)<((vs.length:Nat):Int))=true then _ else _
   rw[aj (show ¬ (0:Int)<((vs.length:Nat):Int) by lia)];have k0:ks=[]:=jX (by lia);subst k0;refine(q dr H3 kvr (fun b o e=>s3 _ _ (s2 _ _ e)) ?_ e3 fun k hk=> ?_)
   · cases c:H dr with
     | none=>rfl
     | some o=>rw[s2 _ _ c] at hdr;cases hdr
   · induction hk with
     | root h=>exact(hro _ h).elim id fun z=>(ak z).elim
     | step _ hf ih=>exact(hcl _ _ _ hf ih).elim id fun z=>(ak z).elim
end
theorem IB:∀(f:Fa),f.tx.tt
 | .is x k=>⟨trivial,pW x,pW k,trivial⟩
 | .has x _ y=>⟨trivial,pW x,trivial,pW y,trivial⟩
structure HD(s:p_):Prop where
 ok:zV s.f
 lo:s.f.lo 25
 ln:Ae s.f.x
 sz:∀k,(s.f.x=k\/(∃x t,s.f= .has x t k)\/∃x,s.f= .is x k)->k.sz<=1000
def Bl(ik:IsF H s.f v)(o:HD s)(q:Q (.str (xx s.f)) H):qx [v] H Q:=by
 obtain⟨o1,o2,o3,o4⟩:=o;cases hf:s.f with
 | is x k=>
   rw[hf] at o1 o2 ik q;have zx:=o4 x (.inl (by rw[hf];rfl));have zk:=o4 k (.inr (.inr ⟨x,hf⟩));have l1:=kq x o1.1;have l2:=kq k o1.2;obtain⟨p,a,b,rfl,hp,ia,ib⟩:=ik;refine⟨.ref p,(Fa.is x k).tx,rfl,⟨p,_,rfl,hp,_,_,rfl,rfl,_,_,rfl,ia.xa,_,_,rfl,ib.xa,rfl⟩,IB _,?_,?_,q⟩
   · show max 0 (max x.tx.py.depth (max k.tx.py.depth 0))+1<=60;rw[kK,kK];have:=o2.1;have:=o2.2;lia
   · rw[nR,nY _ o1];simp only[Ff,aV,ag,cw];exact aq (show _<=100000 by lia) (by decide)
 | has x t y=>
   rw[hf] at o1 o2 ik q;have zx:=o4 x (.inl (by rw[hf];rfl));have zk:=o4 y (.inr (.inl ⟨x,t,hf⟩));have l1:=kq x o1.1;have l2:=kq y o1.2.2;have l3:=(eh o1.2.1).2.1;rw[nR] at l3;obtain⟨p,a,b,rfl,hp,ia,ib⟩:=ik;refine⟨.ref p,(Fa.has x t y).tx,rfl,⟨p,_,rfl,hp,_,_,rfl,rfl,_,_,rfl,ia.xa,_,_,rfl,rfl,_,_,rfl,ib.xa,rfl⟩,IB _,?_,?_,q⟩
   · show max 0 (max x.tx.py.depth (max 0 (max y.tx.py.depth 0)))+1<=60;rw[kK,kK];have:=o2.1;have:=o2.2;lia
   · rw[nR,nY _ o1];simp only[Ff,aV,ag,cw];exact aq (show _<=100000 by lia) (by decide)
def He(h:IsF H f v):∃p z a rest,v= .ref p/\H p=some (.tup (.str z::a::rest))/\IsK H f.x a/\∀x k,f= .is x k->∃b,rest=[b]/\IsK H k b:=by
 cases f with
 | is x k=>
   obtain⟨p,a,b,rfl,hp,ia,ib⟩:=h;exact⟨p,_,a,[b],rfl,hp,ia,fun x' k' e=>by cases e;exact⟨b,rfl,ib⟩⟩
 | has x t y=>
   obtain⟨p,a,b,rfl,hp,ia,ib⟩:=h;exact⟨p,_,a,_,rfl,hp,ia,fun x' k' e=>by cases e⟩
def Jv(o:HD s):okK s.f.x/\s.f.x.dep<=25:=by
 obtain⟨o1,o2,_,_⟩:=o;cases hf:s.f with
 | is x k=>rw[hf] at o1 o2;exact⟨o1.1,o2.1⟩
 | has x t y=>rw[hf] at o1 o2;exact⟨o1.1,o2.1⟩
theorem ux:∀ps,(cK ps).length<=2 * ps.length
 | []=>au _
 | q::ps=>by
   have:=ux ps;have e:cK (q::ps)=q.2.things++cK ps:=rfl;have h:q.2.things.length<=2:=by cases q.2<;>simp[Sy.things]
   rw[e,ag,aV];lia
inductive uc(vs:List V)(H:Hp)(Q:VK):Prop
 | mk:∀l lp ls lf xs ys zs us ss ps ks fs,(vs=[.ref l,.ref lp,.ref ls,.ref lf])->(H l=some (.lst xs))->(StL [] H xs ss)->(H lp=some (.lst ys))->(PrL H ys ps)->(H ls=some (.lst zs))->(KL H zs ks)->(H lf=some (.lst us))->(KL H us fs)->((∀s∈ss,HD s))->((∀q∈ps,q.2.lo 25/\∀k∈q.2.parts,okK k/\k.dep<=25/\k.sz<=1000))->((∀k∈fs,okK k/\k.dep<=25/\k.sz<=1000))->((∀k∈ks,okK k/\k.dep<=25/\k.sz<=1000))->(gO fs+jg ps<=2000000)->(ss.length<=2000000)->(ks.length<=1000)->(ps.length<=100)->((∀kn:Kd->Prop,(∀q∈ps,∀k∈q.2.knK,Her kn k)->(∀k∈fs,Her kn k)->B5 ps (cK ps) kn (ks++(cK ps).map Kd.nm) ss))->(∀H',Same H H'->Q (.bl true) H')->uc vs H Q
def AO:Sp:=fun vs H Q _=>uc vs H Q
section
def scSound:bq ["_law_found","_law_pairs","_law_starts","_law_further","_law_known_here","_law_singles_here","_law_reach","_law_seen","_law_at","_law_claim"] Gv (aK zj):=gU
def Ef(F:Fun K "_law_sound" "_law_sound" zj f fd)(mrp:mg "repr"=none)(mr:mg "range"=none)(ml:mg "len"=none)(Gkw:Cl P w K mg base 28 "_law_known" BD Bb)(Gss:Cl P w K mg base 1 "_law_singles" BC ue)(Grc:Cl P w K mg base 1 "_law_reached" Gu ug)(Gfi:Cl P w K mg base 3 "_law_fine" By DA):b_ P w K mg base fj 29 f fd Gv AO:=by
 refine F.o scSound fun cdv A outer s0 H vs Q E hr h=> ?_;obtain⟨l,lp,ls,lf,xs,ys,zs,us,ss,ps,ks,fs,rfl,el,hss,elp,hps,els,hks,elf,hfs,gs,gp,gf,gk,hz,hl,hk,l100,hS,q⟩:=h;have hu:=gA hr;refine⟨_,a_ (fe 4 scSound.nd (eB Gkw hr (fb bp bU)))
  (a_ (fe 5 scSound.nd (eB Gss hr (eF bp)))
  (a_ (fe 6 scSound.nd (eB Grc hr (fb aB (bx oS bF cX))))
  (a_ (fe 7 scSound.nd cL)
  (a_ (lZ (fN rfl mr (eF (oj ml aB))) (fq 8 scSound.nd) (a_ (fe 9 scSound.nd (di (j7 bY aB gh))) (a_ (bu (PW.pt (fW (dC (oR hu) (dB (fP hr.gd hr.units) rfl mrp cF (eF oJ)) iZ) (fW (dC (iN hu) (dB (fP hr.gd hr.units) rfl mrp cF (eF (di oJ))) eK) (gi (gH (eX (eB Gfi hr (jk aB gh bp cX)))))))) (bb (cE dI)) aX) (a_ (dW hu iZ (dB (fP hr.gd hr.units) rfl mrp cF (eF oJ)) dI rfl) (bb (bu (PW.pt (gG (dC uD (di (j7 bY aB gh)) (bR (fb aJ aJ))) (hU (dC (iN hu) (dB (fP hr.gd hr.units) rfl mrp cF (eF (di oJ))) bX)))) (bb (cE dI)) aX))))))
  (bb (cE dI)))))),?_⟩
 have lss:=ux ps;refine⟨lp,lf,ys,us,ps,fs,rfl,elp,hps,elf,hfs,fun q h=>(gp q h).2,gf,hz,fun dk H1 kvs s1 hdk e1 hk1 hk2=> ?_⟩;refine gn ?_;refine⟨lp,ys,ps,rfl,s1 _ _ elp,PrL.mono s1.tups hps,l100,fun lsg H2 s2 hlsg e2=> ?_⟩;refine gn ?_;refine⟨ls,lsg,zs,(cK ps).map V.str,rfl,rfl,s2 _ _ (s1 _ _ els),e2,?_,fun p3 hp3=> ?_⟩
 · have:=KL.len hks;rw[ai];exact aq (show zs.length+(cK ps).length<=2000 by lia) (by decide)
 have y3:=ah hp3 (.lst (zs++(cK ps).map V.str));have s3:Same H (upd H2 p3 (.lst (zs++(cK ps).map V.str))):=fun b o e=>y3 _ _ (s2 _ _ (s1 _ _ e));dsimp only[gB];refine⟨l,p3,xs,_,ss,ks++(cK ps).map Kd.nm,rfl,s3 _ _ el,StL.keep (.of s3) hss,aa,nO (KL.mono s3.tups hks) (rX _ _),fun s h=>⟨(gs s h).ok,(gs s h).lo,(gs s h).sz⟩,fun k h=> ?_,by rw[ag,ai];lia,fun dr H4 kvr s4 hdr e4 hrea=> ?_⟩
 · rcases av.mp h with h | h
   · exact gk k h
   · obtain⟨x,hx,rfl⟩:=bS.mp h;obtain⟨q',hq,hx'⟩:=lB hx;exact(gp q' hq).2 _ (pC hx')
 have s04:Same H H4:=fun b o e=>s4 _ _ (s3 _ _ e);have e14:=s4 _ _ (y3 _ _ (s2 _ _ e1));have e24:=s4 _ _ (y3 _ _ e2);refine gn ?_;refine fun dn hdn=> ?_;refine gn ?_;have so:=hS (fun k=>hasK kvs (fR k)) hk1 hk2;have lx:xs.length=ss.length:=aS hss;have y5:=ah hdn (.dK []);refine⟨l,xs,rfl,.inl (SqL.of (y5 _ _ (s04 _ _ el))),_,rfl,by lia,by lia,ph (fun i σ H'=>∃(o8 o9:Option V) (kvn:List (Key × V)),σ=[some (.ref l),some (.ref lp),some (.ref ls),some (.ref lf),some (.ref dk),some (.ref lsg),some (.ref dr),some (.ref dn),o8,o9]/\Same H4 H'/\H' dn=some (.dK kvn)/\kvn.length<=i/\∀t,hasK kvn t->∃(j:Nat) (s:p_),j<i/\ss[j]? =some s/\xx s.f=t) ⟨none,none,[],rfl,y5,aa,ay _,fun t h=>by cases h⟩ ?_ ?_⟩
 · rintro i σ H5 hi ⟨o8,o9,kvn,rfl,s5,en,ln,hn⟩;rw[bW,lx] at hi;obtain⟨st,hst⟩:∃st,ss[i]? =some st:=⟨_,aw hi⟩;have hin:=ar hst;have s05:Same H H5:=fun b o e=>s5 _ _ (s04 _ _ e);obtain⟨v,hv,p,pf,vf,rfl,hp,ig,hpf,_⟩:=jj (StL.keep (.of s05) hss) hst;have ok:=gs st hin;obtain⟨⟨r,r1,r2,r3,r4⟩,r5⟩:=so.fine i st hst;have ei:((0:Int)+(i:Int))=(i:Int):=by lia
   rw[ei];refine gn ?_;refine⟨xs,_,SqL.of (s05 _ _ el),aR hv,cI hp rfl ?_⟩;refine gn ?_;dsimp only[gB];refine Bl ig ok ?_;refine⟨dn,_,rfl,DGet.k (k:= .inr (xx st.f)) en,?_⟩;have nseen:¬ hasK kvn (xx st.f):=fun h=>by
    obtain⟨j,s',hj,hs',e⟩:=hn _ h;have e':=Gp (gs s' (ar hs')).ok ok.ok e;have a1:(ss.map (·.f))[j]? =some st.f:=by rw[aQ,hs'];exact congrArg some e'
    have a2:(ss.map (·.f))[i]? =some st.f:=by rw[aQ,hst];rfl
    have hjl:j<(ss.map (·.f)).length:=by rw[ai];lia
    have:=(List.getElem?_inj hjl so.nd).mp (a1.trans a2.symm)
    lia
   have ns:(c_ kvn (.inr (xx st.f))).isSome=false:=by simpa[hasK] using nseen
   rw[ns];obtain⟨pF,hh,a,rest,rfl,hF,ia,hrest⟩:=He ig;have okx:=Jv ok;refine(cI hF (aR (j:=1) rfl) ?_);dsimp only[gB];refine jL ia okx.1 (aq okx.2 (by decide)) (ok.sz _ (.inl rfl)) ?_;refine⟨dr,_,rfl,DGet.k (k:= .inr (fR st.f.x)) (s5 _ _ e4),?_⟩;have hr1:(c_ kvr (.inr (fR st.f.x))).isSome=true:=hrea _ (so.rea st hin);rw[hr1];refine⟨l,lp,lsg,i,xs,ys,ss,st,r,ps,cK ps,rfl,s05 _ _ el,StL.keep (.of s05) hss,hst,r2,r3,r5,fun t ht=>⟨(gs t ht).lo,(gs t ht).ln⟩,s05 _ _ elp,PrL.mono s05.tups hps,fun q' h=>(gp q' h).1,s5 _ _ e24,fun H6 s6=>(?_)⟩;have s06:Same H H6:=fun b o e=>s6 _ _ (s05 _ _ e);dsimp only[gB];refine Bl (ig.mono s6.tups) ok ?_;refine⟨_,.inl ⟨kvn,.inr (xx st.f),s6 _ _ en,rfl,bz (show kvn.length<=2000000 by lia) (by decide),rfl⟩,?_⟩;have lput:=dO kvn (.inr (xx st.f)) (.bl true);have nput:∀t,hasK (bV kvn (.inr (xx st.f)) (.bl true)) t->∃(j:Nat) (s:p_),j<i+1/\ss[j]? =some s/\xx s.f=t:=fun t h=>by
    unfold hasK at h;rw[fV] at h
    split at h
    · rename_i z;exact⟨i,st,jF i,hst,by injection z with z;exact z.symm⟩
    · obtain⟨j,s',q1,q2,q3⟩:=hn t h;exact⟨j,s',dg q1,q2,q3⟩
   have s7:Same H4 (upd H6 dn (.dK (bV kvn (.inr (xx st.f)) (.bl true)))):=fun b o e=>by rw[aD (ba e hdn)];exact s6 _ _ (s5 _ _ e)
   have t7:Tups H5 (upd H6 dn (.dK (bV kvn (.inr (xx st.f)) (.bl true)))):=fun b us' e=>by rw[aD (fun z=>by rw[z,en] at e;cases e)];exact s6 _ _ e
   have e7:upd H6 dn (.dK (bV kvn (.inr (xx st.f)) (.bl true))) dn=some (.dK (bV kvn (.inr (xx st.f)) (.bl true))):=aa;generalize bV kvn (.inr (xx st.f)) (.bl true)=kv7 at lput nput s7 t7 e7⊢;generalize upd H6 dn (.dK kv7)=H7 at s7 t7 e7⊢;refine⟨xs,_,SqL.of (s7 _ _ (s04 _ _ el)),aR hv,cI (t7 _ _ hp) rfl ⟨by show 2<=sizeLine;decide,fun g hg=> ?_⟩⟩;have y8:=ah hg (.lst [.str "both",.str "tie"]);refine⟨g,_,rfl,.inl (SqL.of aa),rfl,rfl,?_⟩;have fin:∃(o8 o9:Option V) (kvn:List (Key × V)),[some (V.ref l),some (V.ref lp),some (V.ref ls),some (V.ref lf),some (V.ref dk),some (V.ref lsg),some (V.ref dr),some (V.ref dn),some (V.int (i:Int)),some (V.ref pF)]=[some (V.ref l),some (V.ref lp),some (V.ref ls),some (V.ref lf),some (V.ref dk),some (V.ref lsg),some (V.ref dr),some (V.ref dn),o8,o9]/\Same H4 (upd H7 g (.lst [.str "both",.str "tie"]))/\upd H7 g (.lst [.str "both",.str "tie"]) dn=some (.dK kvn)/\kvn.length<=i+1/\∀t,hasK kvn t->∃(j:Nat) (s:p_),j<i+1/\ss[j]? =some s/\xx s.f=t:=⟨_,_,kv7,rfl,fun b o e=>y8 _ _ (s7 _ _ e),y8 _ _ e7,by lia,nput⟩;cases hb:yS (.str st.r) [.str "both",.str "tie"] with
   | false=>exact(fin)
   | true=>
     have rr:r= .both\/r= .tie:=by
      rw[r2] at hb;cases r<;>first | exact .inl rfl | exact .inr rfl | exact absurd hb (by decide+kernel)
     obtain⟨x,k,hf,hkn⟩:=r4 rr;obtain⟨b,rfl,ib⟩:=hrest x k hf;have okk:okK k/\k.dep<=25:=by
      have o1:=ok.ok;have o2:=ok.lo;rw[hf] at o1 o2;exact⟨o1.2,o2.2⟩
     refine(cI (y8 _ _ (t7 _ _ hF)) rfl ?_);dsimp only[gB];refine jL (IsK.mono (fun c us' e=>y8 _ _ (t7 _ _ e)) ib) okk.1 (aq okk.2 (by decide)) (ok.sz _ (.inr (.inr ⟨x,hf⟩))) ?_;refine⟨dk,_,rfl,DGet.k (k:= .inr (fR k)) (y8 _ _ (s7 _ _ e14)),?_⟩;have hk':(c_ kvs (.inr (fR k))).isSome=true:=hkn;rw[hk'];exact fin
 · rintro σ H5 ⟨o8,o9,kvn,rfl,s5,_⟩;exact q H5 fun b o e=>s5 _ _ (s04 _ _ e)
end
theorem uF:∀(l:List (Int × Sy)) (o:Option Sy),(∀q∈l,q.1≠n)->l.foldl (fun o q=>if q.1=n then some q.2 else o) o=o
 | [],_,_=>rfl
 | q::l,o,h=>by
   rw[eO,aE (h q aZ)];exact uF l o fun q' hq=>h q' (aG _ hq)
def HY(h:ps.Pairwise fun a b=>a.1<b.1):∀q∈ps,fc ps (some q.1)=some q.2:=fun q hq=>by
 obtain⟨a,b,rfl⟩:=List.append_of_mem hq;show(a++q::b).foldl (fun o p=>if p.1=q.1 then some p.2 else o) none=some q.2;rw[fz,eO,aH rfl];have hb:=(List.pairwise_cons.mp (tO.mp h).2.1).1;exact uF b _ fun q' h' e=>by have:=hb q' h';lia
def K7(h:Paired (IsSt T H) vs ss):StL [] H vs ss:=Paired.imp' (fun v s ⟨p,pf,vf,e,h1,h2,h3,_⟩=>⟨p,pf,vf,e,h1,h2,h3,ak⟩) h
def Cb(k:Kd):Prop:=jG k=false/\eS k=false
def gK(ts:List Str)(k:Kd):Prop:=okK k/\k.nt<=20/\k.dep<=20/\k.sz<=60/\(∀r∈Kd.tieL k,r∈ts)/\Her Cb k
def iH(h:wd t):gV t=true:=by
 obtain⟨h1,h2,h3⟩:=h;unfold gV;rw[ao h1,ao h2];refine dH.mpr fun c hc=> ?_;obtain⟨c1,c2⟩:=h3 c hc;unfold jq
 first
 | exact ao (Or.inr ⟨c1,c2⟩)
 | (simp only[j5,bD];lia)
def nv(h:thg t):gV t=true:=by
 obtain⟨h1,c,r,e,c1,c2,h3⟩:=h;have hl:=qE t;rw[e] at hl;simp only[aV] at hl;unfold gV;rw[ao (show 1<=t.length by lia),ao h1];refine dH.mpr fun d hd=> ?_;rw[e] at hd;have:65<=d/\d<=90\/97<=d/\d<=122:=by
  rcases aL.mp hd with rfl | hd
  · exact .inl ⟨c1,c2⟩
  · exact .inr (h3 d hd)
 unfold jq
 first
 | exact ao this
 | (simp only[j5,bD];lia)
def IK(h:wd t):Cb (.nm t):=by
 obtain⟨h1,h2,h3⟩:=h;have hs:FQ t=false:=by
  cases e:t.cps.toList with
  | nil=>have:=qE t;rw[e] at this;simp at this;lia
  | cons c r=>
    obtain⟨c1,c2⟩:=h3 c (by rw[e];simp);rw[mf e (by lia),aj (by lia)]
 have:=(BV ⟨h1,h2,h3⟩).2.2.2;exact⟨this.trans hs,hs⟩
def Fx:FQ "anything"=false:=by
 rw[mf (c:=97) (r:=[110,121,116,104,105,110,103]) (by decide+kernel) (by decide)];decide
def BL:FQ "nothing"=false:=by
 rw[mf (c:=110) (r:=[111,116,104,105,110,103]) (by decide+kernel) (by decide)];decide
def B3:Cb (.nm "anything"):=⟨dk_anyK.2.2.2.trans Fx,Fx⟩
def xV:Cb (.nm "nothing"):=⟨dk_nothK.2.2.2.trans BL,BL⟩
theorem vR(hw:∀z∈ws,wd z):∀{k:Kd},pw ws ts k->Her Cb k
 | .nm t,h=>by
   rcases h with h | h | h
   · exact IK (hw t h)
   · rw[h];exact B3
   · rw[h];exact xV
 | .two a b,h=>⟨⟨rfl,rfl⟩,vR hw h.1,vR hw h.2⟩
 | .som r c,h=>⟨⟨rfl,rfl⟩,vR hw h.2⟩
theorem vS(hw:∀z∈ws,wd z)(ht:∀z∈ts,wd z):∀{k:Kd},pw ws ts k->okK k
 | .nm t,h=>by
   rcases h with h | h | h
   · exact iH (hw t h)
   · rw[h];show gV _=true;decide+kernel
   · rw[h];show gV _=true;decide+kernel
 | .two a b,h=>⟨vS hw ht h.1,vS hw ht h.2⟩
 | .som r c,h=>⟨iH (ht r h.1),vS hw ht h.2⟩
theorem jQ:∀{k:Kd},pw ws ts k->∀r∈Kd.tieL k,r∈ts
 | .nm t,_,r,hr=>by cases hr
 | .two a b,h,r,hr=>(av.mp hr).elim (jQ h.1 r) (jQ h.2 r)
 | .som t c,h,r,hr=>(aL.mp hr).elim (fun e=>e ▸ h.1) (jQ h.2 r)
def yr(hw:∀z∈ws,wd z)(ht:∀z∈ts,wd z)(h:pw ws ts k)(nt:k.nt<=20)(dp:k.dep<=20):gK ts k:=⟨vS hw ht h,nt,dp,by have:=hZ k;lia,jQ h,vR hw h⟩
def Her.okP{sg:List Str}{k:Kd}(h:Her Cb k):Her (okP sg) k:=Her.imp (fun k h=>⟨h.1.trans h.2.symm,fun e=>by rw[h.2] at e;cases e⟩) h
def gP(k:Kd):Prop:=okK k/\k.dep<=20/\k.sz<=60
theorem pe:∀{k:Kd},gP k->Her gP k
 | .nm _,h=>h
 | .two a b,h=>by
   obtain⟨h1,h2,h3⟩:=id h;have e2:1+max a.dep b.dep<=20:=h2;simp only[Kd.sz] at h3;exact⟨h,pe ⟨h1.1,by lia,by lia⟩,pe ⟨h1.2,by lia,by lia⟩⟩
 | .som r c,h=>by
   obtain⟨h1,h2,h3⟩:=id h;have e2:1+c.dep<=20:=h2;simp only[Kd.sz] at h3;exact⟨h,pe ⟨h1.2,by lia,by lia⟩⟩
def gK.gP{ts:List Str}{k:Kd}(h:gK ts k):gP k:=⟨h.1,h.2.2.1,h.2.2.2.1⟩
def gP.len(h:gP k):Ae k:=by
 cases k with
 | nm t=>exact aq (eh h.1).2.1 (by decide)
 | two a b=>trivial
 | som r c=>trivial
theorem kM:∀k,Her (fun _=>True) k
 | .nm _=>trivial
 | .two a b=>⟨trivial,kM a,kM b⟩
 | .som _ c=>⟨trivial,kM c⟩
structure LawD(ts hs:List Str)(ps:List (Int × Sy))(ks fs:List Kd):Prop where
 ht:∀z∈ts,wd z
 lt:ts.length=2
 hh:∀z∈hs,thg z
 inc:ps.Pairwise fun a b=>a.1<b.1
 pq:∃ws:List Str,(∀z∈ws,wd z)/\∀q∈ps,dS ws ts hs q.2
 pk:∀k∈ks,gK ts k
 pf:∀k∈fs,gK ts k
 l24:ps.length<=24
 sq:jg ps<=252
 sk:gO ks<=57
 sf:gO fs<=57
section
def dS.kn(hw:∀z∈ws,wd z)(ht:∀z∈ts,wd z)(h:dS ws ts hs s):∀k∈s.knK,gK ts k/\k.sz<=7:=by
 have g:∀{k:Kd},dn ws ts k->gK ts k/\k.sz<=7:=fun {k} ⟨h1,h2,h3⟩=>⟨yr hw ht h3 (by lia) (aq h1.1 (by decide)),h1.2.1⟩;intro k hk;cases s<;>simp only[Sy.knK,aL,ak,cH] at hk
 · rcases hk with rfl | rfl
   · exact g h.1
   · exact g h.2
 · rcases hk with rfl | rfl
   · exact g h.1
   · exact g h.2
 · subst hk;exact g h.2
def dS.parts{ts hs ws:List Str}{s:Sy}(hw:∀z∈ws,wd z)(ht:∀z∈ts,wd z)(hh:∀z∈hs,thg z)(h:dS ws ts hs s):∀k∈s.parts,gP k/\k.nt<=20/\k.sz<=7/\∀r∈Kd.tieL k,r∈ts:=by
 have kn:=dS.kn hw ht h;have g:∀{k:Kd},k∈s.knK->gP k/\k.nt<=20/\k.sz<=7/\∀r∈Kd.tieL k,r∈ts:=fun {k} hk=>⟨(kn k hk).1.gP,(kn k hk).1.2.1,(kn k hk).2,(kn k hk).1.2.2.2.2.1⟩;have n:∀{x:Str},gV x=true->gP (.nm x)/\(Kd.nm x).nt<=20/\(Kd.nm x).sz<=7/\∀r∈Kd.tieL (.nm x),r∈ts:=fun {x} hx=>⟨⟨hx,ay _,by show 1<=60;decide⟩,ay _,by show 1<=7;decide,fun r hr=>by cases hr⟩;intro k hk;cases s<;>simp only[Sy.parts,aL,ak,cH] at hk
 · exact g (by simpa[Sy.knK] using hk)
 · exact g (by simpa[Sy.knK] using hk)
 · rcases hk with rfl | rfl
   · exact n (nv (hh _ h.1.1))
   · exact g (by simp[Sy.knK])
 · rcases hk with rfl | rfl | rfl
   · exact n (nv (hh _ h.1.1))
   · exact n (iH (ht _ h.2.2))
   · exact n (nv (hh _ h.2.1.1))
 · rcases hk with rfl | rfl
   · exact n (iH (ht _ h.1))
   · exact n (iH (ht _ h.2))
 · rcases hk with rfl | rfl | rfl
   · exact n (iH (ht _ h.1))
   · exact n (iH (ht _ h.2.1))
   · exact n (iH (ht _ h.2.2))
def dS.ties(h:dS ws ts hs s):∀r∈s.tiesL,r∈ts:=by
 intro r hr;cases s<;>simp only[Sy.tiesL,av,aL,ak,cH] at hr
 · exact hr.elim (jQ h.1.2.2 r) (jQ h.2.2.2 r)
 · exact hr.elim (jQ h.1.2.2 r) (jQ h.2.2.2 r)
 · exact jQ h.2.2.2 r hr
 · rw[hr];exact h.2.2
 · rcases hr with rfl | rfl
   · exact h.1
   · exact h.2
 · rcases hr with rfl | rfl | rfl
   · exact h.1
   · exact h.2.1
   · exact h.2.2
def dS.thg{ts hs ws:List Str}{s:Sy}(hh:∀z∈hs,thg z)(h:dS ws ts hs s):∀x∈s.things,K18.thg x:=by
 intro x hx;cases s<;>simp only[Sy.things,aL,ak,cH] at hx
 · subst hx;exact hh _ h.1.1
 · rcases hx with rfl | rfl
   · exact hh _ h.1.1
   · exact hh _ h.2.1.1
def dS.szs(h:dS ws ts hs s):s.szs<=14:=by
 have g:∀{k:Kd},dn ws ts k->k.sz<=7:=fun h=>h.1.2.1;cases s with
 | every a b=>have:=g h.1;have:=g h.2;simp[Sy.szs,Sy.parts];lia
 | no a b=>have:=g h.1;have:=g h.2;simp[Sy.szs,Sy.parts];lia
 | thing x k=>have:=g h.2;simp[Sy.szs,Sy.parts,Kd.sz];lia
 | tied x t y=>simp[Sy.szs,Sy.parts,Kd.sz]
 | within r s=>simp[Sy.szs,Sy.parts,Kd.sz]
 | makes r s t=>simp[Sy.szs,Sy.parts,Kd.sz]
theorem yY:∀{ps:List (Int × Sy)},(∀q∈ps,q.2.szs<=n)->jg ps<=n * ps.length
 | [],_=>ay _
 | q::ps,h=>by
   have h1:=yY (n:=n) (ps:=ps) fun q' hq=>h q' (aG _ hq);have h2:=h q aZ;show q.2.szs+jg ps<=n * (ps.length+1);rw[Nat.mul_succ];lia
theorem yZ:∀{ks:List Kd},(∀k∈ks,k.sz<=n)->gO ks<=n * ks.length
 | [],_=>ay _
 | q::ks,h=>by
   have h1:=yZ (n:=n) (ks:=ks) fun q' hq=>h q' (aG _ hq);have h2:=h q aZ;show q.sz+gO ks<=n * (ks.length+1);rw[Nat.mul_succ];lia
theorem sM:∀ps,iC ps=6 * jg ps+2 * ps.length
 | []=>rfl
 | q::ps=>by
   have:=sM ps;show 6 * q.2.szs+2+iC ps=6 * (q.2.szs+jg ps)+2 * (ps.length+1)
   lia
theorem sN:∀ks,jm ks=5 * gO ks
 | []=>rfl
 | k::ks=>by
   have:=sN ks;show 5 * k.sz+jm ks=5 * (k.sz+gO ks)
   lia
theorem ql:∀ks,ks.length<=gO ks
 | []=>au _
 | k::ks=>by
   have:=ql ks;have:=kF k;show ks.length+1<=k.sz+gO ks
   lia
def LawD.still(d:LawD ts hs ps ks fs):(∀q∈ps,q.2.okS/\q.2.gd 25/\q.2.tsOk ts)/\(∀k∈ks,vQ 25 k/\∀r∈Kd.tieL k,r∈ts)/\(∀k∈fs,vQ 25 k)/\ps.length<=100/\2+iC ps+jm fs<=40000/\2+iC ps+jm fs+gO ks+3 * ps.length+jg ps<=50000/\(LoI.of ps fs).parts.length+gO ks+3 * ps.length+jg ps<=700/\gW 700 ts<=9800000/\(LoI.of ps fs).Wd ts/\2<=(LoI.of ps fs).parts.length:=by
 obtain⟨ws,hw,pq⟩:=d.pq;have gk:∀{k:Kd},gK ts k->vQ 25 k:=fun h=>⟨h.1,aq h.2.1 (by decide),bz h.2.2.1 (by decide)⟩;have ol:=JE ps fs;have l1:=d.l24;have l2:=d.sq;have l3:=d.sk;have l4:=d.sf;have so:=HY d.inc;refine⟨fun q hq=>⟨(pq q hq).okS,fun k hk=> ?_,fun k hk=>((pq q hq).parts hw d.ht d.hh k hk).2.2.2,fun x t y e=> ?_⟩,fun k hk=>⟨gk (d.pk k hk),(d.pk k hk).2.2.2.2.1⟩,fun k hk=>gk (d.pf k hk),by lia,?_,?_,by lia,?_,LD (fun q hq=>⟨so q hq,(pq q hq).ties⟩) fun k hk=>(d.pf k hk).2.2.2.2.1,JD ps fs⟩
 · obtain⟨h1,h2,h3,_⟩:=(pq q hq).parts hw d.ht d.hh k hk;exact⟨h1.1,by lia,bz h1.2.1 (by decide),by lia⟩
 · have h:=pq q hq;rw[e] at h;exact h.2.2
 · rw[sM,sN];lia
 · rw[sM,sN];lia
 · unfold gW;rw[d.lt];decide
def LawD.sound{ts hs:List Str}{ps:List (Int × Sy)}{ks fs:List Kd}(d:LawD ts hs ps ks fs){Tn:List Str}{S':StI}(st:FB ts ps ks fs Tn S'):(∀s∈S'.steps,HD s/\s.fr.length<=2)/\(∀q∈ps,q.2.lo 25/\∀k∈q.2.parts,okK k/\k.dep<=25/\k.sz<=1000)/\(∀k∈fs,okK k/\k.dep<=25/\k.sz<=1000)/\(∀k∈ks,okK k/\k.dep<=25/\k.sz<=1000)/\gO fs+jg ps<=2000000/\S'.steps.length<=2000000/\ks.length<=1000/\ps.length<=100/\∀kn:Kd->Prop,(∀q∈ps,∀k∈q.2.knK,Her kn k)->(∀k∈fs,Her kn k)->B5 ps (cK ps) kn (ks++(cK ps).map Kd.nm) S'.steps:=by
 obtain⟨ws,hw,pq⟩:=d.pq;have l1:=d.l24;have l2:=d.sq;have l3:=d.sk;have l4:=d.sf;have so:=HY d.inc;have sP:∀kn:Kd->Prop,(∀q∈ps,∀k∈q.2.knK,Her kn k)->(∀k∈fs,Her kn k)->B5 ps (cK ps) kn (ks++(cK ps).map Kd.nm) S'.steps/\∀s∈S'.steps,∃f∈S'.facts,s.f=iB (cz ks Tn ps (LoI.of ps fs,StI.emp)).1 f/\f.rg (cz ks Tn ps (LoI.of ps fs,StI.emp)).1.parts.length ts:=fun kn h1 h2=>
  wW (sg:=cK ps) st (fun q hq=>⟨so q hq,h1 q hq,(pq q hq).ties⟩) h2 (Her.okP (k:= .nm "anything") B3) (Her.okP (k:= .nm "nothing") xV) (fun q hq k hk=>Her.okP ((pq q hq).kn hw d.ht k hk).1.2.2.2.2.2) (fun x hx=>by
   obtain⟨q,hq,hx'⟩:=lB hx;refine⟨(Fk ((pq q hq).thg d.hh x hx')).2.2.2,fun _=>ao hx⟩) (fun k hk=>Her.okP (d.pk k hk).2.2.2.2.2) (fun k hk=>Her.okP (d.pf k hk).2.2.2.2.2)
 have pp:∀k∈(cz ks Tn ps (LoI.of ps fs,StI.emp)).1.parts,gP k:=by
  have pqk:∀q∈ps,∀k∈q.2.knK,Her gP k:=fun q hq k hk=>pe ((pq q hq).kn hw d.ht k hk).1.gP;refine wu (Q:=fun L=>∀k∈L.parts,gP k) st.tn (zW (Q:=fun L=>∀k∈L.parts,gP k) (fun e _ h=>by rw[e];exact h) ?_ (fun q h k hk L hL=>fO k L hL (pqk q h k hk)) (fun k hk L hL=>fO k L hL (pe (d.pf k hk).gP))) (fun k hk L hL=>fO k L hL (pe (d.pk k hk).gP)) (fun x hx L hL=>fO (.nm x) L hL ?_) (fun q h k hk L hL=>fO k L hL (pqk q h k hk))
  · rw[l_];intro k hk;have hk':k∈([anyW,nothW]:List Kd):=hk;rcases(show k=anyW\/k=nothW by simpa using hk') with rfl | rfl
    · exact⟨by show gV _=true;decide+kernel,ay _,by show 1<=60;decide⟩
    · exact⟨by show gV _=true;decide+kernel,ay _,by show 1<=60;decide⟩
  · obtain⟨q,hq,hx'⟩:=lB hx;exact⟨nv ((pq q hq).thg d.hh x hx'),ay _,by show 1<=60;decide⟩
 obtain⟨s1,s2⟩:=sP (fun _=>True) (fun q _ k _=>kM k) (fun k _=>kM k);have le:=st.wf.cnt;have cb:=st.cb;have sl:=st.sl;refine⟨fun s hs=>⟨?_,?_⟩,fun q hq=>⟨(pq q hq).okS.2,fun k hk=> ?_⟩,fun k hk=> ?_,fun k hk=> ?_,by lia,?_,?_,by lia,fun kn h1 h2=>(sP kn h1 h2).1⟩
 · obtain⟨f,hf,e,rg⟩:=s2 s hs;cases f with
   | is x k=>
     have g1:=pp _ (mE rg.1);have g2:=pp _ (mE rg.2);have e':s.f= .is ((cz ks Tn ps (LoI.of ps fs,StI.emp)).1.pt x) ((cz ks Tn ps (LoI.of ps fs,StI.emp)).1.pt k):=e;generalize (cz ks Tn ps (LoI.of ps fs,StI.emp)).1.pt x=X at g1 e';generalize (cz ks Tn ps (LoI.of ps fs,StI.emp)).1.pt k=Y at g2 e';refine⟨by rw[e'];exact⟨g1.1,g2.1⟩,by rw[e'];exact⟨aq g1.2.1 (by decide),aq g2.2.1 (by decide)⟩,by rw[e'];exact g1.len,fun z hz=> ?_⟩;rw[e'] at hz;rcases hz with h | ⟨_,_,h⟩ | ⟨_,h⟩
     · exact aq (show z.sz<=60 from(show X=z from h) ▸ g1.2.2) (by decide)
     · cases h
     · cases h;exact aq g2.2.2 (by decide)
   | has x t y=>
     have g1:=pp _ (mE rg.1);have g2:=pp _ (mE rg.2.2);have e':s.f= .has ((cz ks Tn ps (LoI.of ps fs,StI.emp)).1.pt x) t ((cz ks Tn ps (LoI.of ps fs,StI.emp)).1.pt y):=e;generalize (cz ks Tn ps (LoI.of ps fs,StI.emp)).1.pt x=X at g1 e';generalize (cz ks Tn ps (LoI.of ps fs,StI.emp)).1.pt y=Y at g2 e';refine⟨by rw[e'];exact⟨g1.1,iH (d.ht t rg.2.1),g2.1⟩,by rw[e'];exact⟨aq g1.2.1 (by decide),aq g2.2.1 (by decide)⟩,by rw[e'];exact g1.len,fun z hz=> ?_⟩;rw[e'] at hz;rcases hz with h | ⟨_,_,h⟩ | ⟨_,h⟩
     · exact aq (show z.sz<=60 from(show X=z from h) ▸ g1.2.2) (by decide)
     · cases h;exact aq g2.2.2 (by decide)
     · cases h
 · obtain⟨i,hi⟩:=List.getElem?_of_mem hs;exact(s1.fine i s hi).le
 · obtain⟨h1,h2,h3,_⟩:=(pq q hq).parts hw d.ht d.hh k hk;exact⟨h1.1,aq h1.2.1 (by decide),by lia⟩
 · obtain⟨h1,h2,h3⟩:=(d.pf k hk).gP;exact⟨h1,by lia,by lia⟩
 · obtain⟨h1,h2,h3⟩:=(d.pk k hk).gP;exact⟨h1,by lia,by lia⟩
 · have:6 * S'.facts.length+S'.stand.length<=9800000:=aq le cb
   lia
 · have:=ql ks
   lia
end
inductive AY(K:Frag)(vs:List V)(H:Hp)(Q:VK):Prop
 | mk:∀(a:Addr) (ns:List Int),(vs=[.ref a])->(SqL K H a (ns.map V.int))->(ns.length<=63)->(∀H',Q (.bl true) H')->AY K vs H Q
def A_(K:Frag):Sp:=fun vs H Q _=>AY K vs H Q
def M9(h:SqL K H a xs)(k:∀o,H a=some o->H' a=some o):SqL K H' a xs:=by
 rcases h with(h | ⟨o,h⟩) | h
 · exact .inl (.inl (k _ h))
 · exact .inl (.inr ⟨o,k _ h⟩)
 · exact .inr h
def Fo(ns:List Int)(lo hi:Option Int):∃ms:List Int,i_ (ns.map V.int) lo hi=ms.map V.int/\ms.length<=HT.sIx ns.length ns.length hi - HT.sIx ns.length 0 lo:=by
 refine⟨(ns.drop (HT.sIx ns.length 0 lo)).take (HT.sIx ns.length ns.length hi - HT.sIx ns.length 0 lo),?_,?_⟩
 · unfold i_;rw[ai,<-List.map_drop,<-List.map_take]
 · rw[cJ];exact Nat.min_le_left _ _
def yF(xs:List V)(m:Nat):i_ xs none (some (m:Int))=xs.take m:=by
 have h1:HT.sIx xs.length xs.length (some (m:Int))=min m xs.length:=HT.sIx_nat _ _ _;have h2:HT.sIx xs.length 0 none=0:=rfl;unfold i_;rw[h1,h2,tP,Mf];rcases Aw m xs.length with g | g
 · rw[FF g]
 · rw[C_ g,cS (au _),cS g]
def Fp(xs:List V)(m:Nat):i_ xs (some (m:Int)) none=xs.drop m:=by
 have h1:HT.sIx xs.length 0 (some (m:Int))=min m xs.length:=HT.sIx_nat _ _ _;have h2:HT.sIx xs.length xs.length none=xs.length:=rfl;unfold i_;rw[h1,h2];rcases Aw m xs.length with g | g
 · rw[FF g,cS (by rw[e_];lia)]
 · rw[C_ g,Mm (au _),Mm g];simp
theorem kB:∀{vs:List α} {ks:List β},Paired R vs ks->∀n,Paired R (vs.take n) (ks.take n)
 | _,_,.nil,n=>by cases n<;>exact .nil
 | _,_,.cons r t,0=> .nil
 | _,_,.cons r t,n+1=> .cons r (kB t n)
theorem pR:∀{vs:List α} {ks:List β},Paired R vs ks->∀n,Paired R (vs.drop n) (ks.drop n)
 | _,_,.nil,n=>by cases n<;>exact .nil
 | _,_,.cons r t,0=> .cons r t
 | _,_,.cons r t,n+1=>pR t n
def AJ(a b:List Kd):gO (a++b)=gO a+gO b:=by unfold gO;rw[bj,gy]
def LawD.deep(d:LawD ts hs ps ks fs)(n:Nat):LawD ts hs (ps.take n) ks fs:=by
 obtain⟨ws,h1,h2⟩:=d.pq;have l:=d.l24;refine⟨d.ht,d.lt,d.hh,d.inc.sublist (Pd n ps),⟨ws,h1,fun q hq=>h2 q (gS hq)⟩,d.pk,d.pf,by rw[cJ];lia,?_,d.sk,d.sf⟩;have e:jg ps=jg (ps.take n)+jg (ps.drop n):=by
  have:=congrArg jg (ju n ps);rw[<-this];unfold jg;rw[bj,gy]
 have:=d.sq
 lia
def LawD.addS(d:LawD ts hs ps ks fs)(h:gO ks<=14)(g:gK ts k)(z:k.sz<=41):LawD ts hs ps (ks++[k]) fs:=⟨d.ht,d.lt,d.hh,d.inc,d.pq,fun k' hk=>(av.mp hk).elim (d.pk k') fun e=>(af.mp e) ▸ g,d.pf,d.l24,d.sq,by rw[AJ];show gO ks+(k.sz+0)<=57;lia,d.sf⟩
def LawD.addF(d:LawD ts hs ps ks fs)(h:gO fs<=14)(g:gK ts k)(z:k.sz<=41):LawD ts hs ps ks (fs++[k]):=⟨d.ht,d.lt,d.hh,d.inc,d.pq,d.pk,fun k' hk=>(av.mp hk).elim (d.pf k') fun e=>(af.mp e) ▸ g,d.l24,d.sq,d.sk,by rw[AJ];show gO fs+(k.sz+0)<=57;lia⟩
def Cp{ps:List (Int × Sy)}(h:∀q∈ps,q.2.lo 25):(Tx.lst (ps.map GB)).dp<=51:=by
 have:j9 (ps.map GB)<=50:=qi fun d hd=>by
  obtain⟨q,hq,rfl⟩:=bS.mp hd;have h1:j9 (Tx.str (oH q.2.hd)::q.2.parts.map Kd.tx)<=25:=qi fun d hd=>by
   rcases aL.mp hd with rfl | hd
   · exact ay _
   · obtain⟨k,hk,rfl⟩:=bS.mp hd;rw[Kd.tx_dp];exact h q hq k hk
  show 1+max 0 (max (1+j9 (Tx.str (oH q.2.hd)::q.2.parts.map Kd.tx)) 0)<=50
  lia
 show 1+j9 _<=51
 lia
def Kf(hw:∀z∈row,wd z)(hx:x∈row)(hy:y∈row):dS row ts hs (.every (.nm x) (.nm y)):=⟨⟨BV (hw x hx),ay _,.inl hx⟩,BV (hw y hy),ay _,.inl hy⟩
def Og(H:Hp):List V->List Sy->Prop:=Paired fun v s=>IsSy H s v
def OR:Vals [V.non] [Value.none]:= .cons rfl .nil
def Ez:((([("_law_k":Str)]:List Str)++[("_law_bag":Str),("_law_kin":Str),("_law_ties":Str)]):List Str).Nodup:=by decide+kernel
def Nw:((([("_law_k":Str)]:List Str)++[("_law_row":Str)]):List Str).Nodup:=by decide+kernel
def Nv:((([("_law_k":Str)]:List Str)++[("_law_steps":Str)]):List Str).Nodup:=by decide+kernel
structure LawH(H:Hp)(lp ls lf:Addr)(ps:List (Int × Sy))(ks fs:List Kd):Prop where
 p:∃ys,H lp=some (.lst ys)/\PrL H ys ps
 s:∃zs,H ls=some (.lst zs)/\KL H zs ks
 f:∃us,H lf=some (.lst us)/\KL H us fs
def LawH.same(h:LawH H lp ls lf ps ks fs)(s:Same H H'):LawH H' lp ls lf ps ks fs:=by
 obtain⟨⟨ys,h1,h2⟩,⟨zs,h3,h4⟩,us,h5,h6⟩:=h;exact⟨⟨ys,s _ _ h1,PrL.mono s.tups h2⟩,⟨zs,s _ _ h3,KL.mono s.tups h4⟩,us,s _ _ h5,KL.mono s.tups h6⟩
section
def scLaw:bq ["_law_script","_law_kin","_law_ties","_law_things_here","_law_way","_law_bag","_law_pairs","_law_starts","_law_further","_law_deep","_law_row","_law_steps","_law_turn","_law_lent","_law_found"] xF (aK Jb):=gU
def Jz(F:Fun K "law" "law" Jb f fd)(ml:mg "len"=none)(mr:mg "range"=none)(mls:mg "list"=none)(Gc:Cl P w K mg base 1 "_law_cell" xG (DE K))(Gw:Cl P w K mg base 1 "_law_words" vF u3)(Gt:Cl P w K mg base 2 "_law_things" vF wY)(Gnu:Cl P w K mg base 6 "_law_numbered" Gx qZ)(Gk:Cl P w K mg base 4 "_law_kind" vH (mw 3))(Gch:Cl P w K mg base 2 "_law_chain" Gz Bd)(Gst:Dl P w K mg base 65 "still" Bv [.none] (AN 25))(Gas:Cl P w K mg base 29 "_law_are_steps" nM HW)(Gsd:Cl P w K mg base 29 "_law_sound" Gv AO):b_ P w K mg base fj 66 f fd xF (A_ K):=by
 refine F.o scLaw fun cdv A outer s H vs Q E hr h=> ?_;obtain⟨a,ns,rfl,hS,h63,q⟩:=h;refine⟨_,a_ (fe 1 scLaw.nd (eB Gw hr (fb (eB Gc hr (fb aB aA)) aA))) (a_ (fe 2 scLaw.nd (eB Gw hr (fb (eB Gc hr (fb aB aA)) aA))) (a_ (fe 3 scLaw.nd (eB Gt hr (fb (eB Gc hr (fb aB aA)) aA))) (a_ (fe 4 scLaw.nd (eB Gc hr (fb aB aA))) (a_ (fe 5 scLaw.nd (bR (fb (bx eZ (eB Gc hr (fb aB aA)) aA) aA))) (jM (fe 6 scLaw.nd (eB Gnu hr (bZ (bx oS (bx oS (bR (eF bX)) (dM nH aB (ej aA) (ej aA))) (bR (eF aA))) (jk cX bp bF bU)))) (jM (qz (i:=7) rN Ls [5,1,2] scLaw.nd rfl rfl (fN rfl mr (eF (bx eZ bX aA))) (fun _ _ _=>fq 0 Ez) (fun _ _ _=>fZ) (fun _ _ _=>(eB Gk hr (jk bp bF bU aA)))) (jM (qz (i:=8) rN Ls [5,1,2] scLaw.nd rfl rfl (fN rfl mr (eF (bx eZ (bx eV bX aA) aA))) (fun _ _ _=>fq 0 Ez) (fun _ _ _=>fZ) (fun _ _ _=>(eB Gk hr (jk bp bF bU aA)))) (jM (bu (dC bN (bx eZ (bx eV bX aA) aA) aA) (a_ (fe 6 scLaw.nd (dM nH eK eU (ej aA))) (a_ (fe 9 scLaw.nd (eB Gch hr (jk cX bp bF (bx gZ aA (bx eZ (bx eV bX aA) aA))))) (bb (bu (dC bN (bx eZ (bx eV bX aA) aA) aA) (bb (bg (xO iZ oJ))) (bb (bg (xO gh oJ))))))) aX) (jM (bu (dC bN (bx eZ (bx eV bX aA) aA) aA) (a_ (fe 10 scLaw.nd (eB Gw hr (fb (eB Gc hr (fb aB aA)) aA))) (a_ (fe 11 scLaw.nd (jN rN ["_law_row"] [10] rfl (fN rfl mr (eF (bx oP (oj ml jY) aA))) (fun _ _ _=>fq 0 Nw) (fun _ _ _=>fZ) (fun _ _ _=>(cq (gD aJ (j7 (r:=zF K) bY bp aB) (j7 (r:=zF K) bY bp (bx gZ aB aA))))))) (a_ (fe 12 scLaw.nd (bx eZ (bx eV bX aA) (oj ml jY))) (a_ (fe 11 scLaw.nd (bx oS (dM nH (pv 11) (ej (pv 12)) eU) (dM nH (pv 11) eU (ej (pv 12))))) (a_ (qz (i:=6) rN ["_law_steps"] [11] scLaw.nd rfl rfl (fN rfl mr (eF (oj ml (pv 11)))) (fun _ _ _=>fq 0 Nv) (fun _ _ _=>fZ) (fun _ _ _=>(cq (fb (bx gZ aB aA) (j7 (r:=zF K) bY bp aB))))) (bb (fe 7 scLaw.nd (bR (fb (wH jY) (j7 bY jY (bx eV (oj ml jY) aA))))))))))) aX) (a_ (fe 13 scLaw.nd (bR (gD (fu gN rfl mls bO (eF eK)) (fu gN rfl mls bO (eF iZ)) (fu gN rfl mls bO (eF gh))))) (a_ (fe 14 scLaw.nd (OI Gst OR hr (gD (wH (pv 13)) (wH (pv 13)) (wH (pv 13))))) (a_ (bu (PW.pt (fW (gH (eX (eB Gas hr (eF (pv 14))))) (gi (dC (vM hr.units) (pv 13) (bR (gD eK iZ gh)))))) (bb (cE dI)) aX) (bb (cE (eB Gsd hr (jk (pv 14) eK iZ gh)))))))))))))))),?_⟩;refine⟨a,ns,0,rfl,hS,by decide,fun r0=>⟨_,3,rfl,by decide,by decide,fun lk H1 ws s1 f1 e1 _ _ l1' w1=> ?_⟩⟩;have l1:=l1' (by decide);refine⟨a,ns,1,rfl,s1.seq hS,by decide,fun r1=>⟨_,2,rfl,by decide,by decide,fun lt H2 ts s2 f2 e2 _ _ l2' w2=> ?_⟩⟩;have l2:=l2' (by decide);have s02:=s1.trans s2;refine⟨a,ns,2,rfl,s02.seq hS,by decide,fun r2=>⟨_,2,rfl,by decide,by decide,fun lh H3 hs s3 f3 e3 l3 w3=> ?_⟩⟩;have s03:=s02.trans s3;refine⟨a,ns,3,rfl,s03.seq hS,by decide,fun way=> ?_⟩;refine⟨a,ns,4,rfl,s03.seq hS,by decide,fun r3=>⟨(show(0:Int)<2147483647 by decide),bw (by show 2<=1000;decide),fun b hb=> ?_⟩⟩;have s4:=ah hb (.lst [.int (r3 % 2147483647),.int 10]);have s04:=s03.trans s4;have e1':=(s2.trans s3) _ _ e1;have e2':=s3 _ _ e2;have nkb:=ba e1' hb;have ntb:=ba e2' hb;have nhb:=ba e3 hb;have eb4:upd H3 b (.lst [.int (r3 % 2147483647),.int 10]) b=some (.lst [.int (r3 % 2147483647),.int 10]):=aa;generalize upd H3 b (.lst [.int (r3 % 2147483647),.int 10])=H4 at s4 s04 eb4⊢;have nab:∀o,H a=some o->a≠b:=fun o h z=>by rw[z] at h;rw[s03 _ _ h] at hb;cases hb
 have en4:Env H4 b lk lt lh ws ts hs:=⟨s4 _ _ e1',by lia,fun z hz=>BV (w1 z hz),s4 _ _ e2',by lia,s4 _ _ e3,by lia,fun z hz=>Fk (w3 z hz),nkb,ntb,nhb⟩;have hS4:=s04.seq hS;have nab4:∀{H':Hp},Kp [b] H4 H'->SqL K H' a (ns.map V.int):=fun {H'} k=>M9 hS fun o h=>k.but _ _ (dA (nab o h)) (s04 _ _ h);clear l1' l2' s1 s2 s3 s4 e1 e2 e3 e1' e2' f1 f2 f3 hS s02 s03;refine⟨fun σ H'=>∃(lp:Addr) (ps:List (Int × Sy)) (ys:List V) (x y:Int),σ=[some (.ref a),some (.ref lk),some (.ref lt),some (.ref lh),some (.int way),some (.ref b),some (.ref lp),none,none,none,none,none,none,none,none]/\Kp [b] H4 H'/\H' b=some (.lst [.int x,.int y])/\lp≠b/\H' lp=some (.lst ys)/\PrL H' ys ps/\ps.length<=18/\(∀q∈ps,dS ws ts hs q.2)/\ps.Pairwise (fun a b=>a.1<b.1),?_,?_⟩
 · refine⟨bw (by show 1<=1000;decide),fun l1 h1=> ?_⟩;have y1:=ah h1 (.lst [.int way]);refine⟨_,rfl,_,rfl,a,_,rfl,y1.seq hS4,fun l2 h2=> ?_⟩;obtain⟨ms,ems,lms⟩:=Fo ns (some 5) (some 21);have lms':ms.length<=16:=by
    rw[show HT.sIx ns.length ns.length (some 21)=min 21 ns.length from HT.sIx_nat _ _ 21,show HT.sIx ns.length 0 (some 5)=min 5 ns.length from HT.sIx_nat _ _ 5] at lms
    lia
   rw[ems];have y2:=ah h2 (.lst (ms.map V.int));refine⟨l1,l2,_,_,rfl,rfl,y2 _ _ aa,aa,bw (by rw[ai];show 1+_<=1000;lia),fun l3 h3=> ?_⟩;have y3:=ah h3 (.lst ([.int way]++ms.map V.int));refine⟨bw (by show 1<=1000;decide),fun l4 h4=> ?_⟩;have y4:=ah h4 (.lst [.int 7]);refine⟨l3,l4,_,_,rfl,rfl,y4 _ _ aa,aa,bw (by rw[ag,ai];show 1+_+1<=1000;lia),fun lc h5=> ?_⟩;have y5:=ah h5 (.lst (([.int way]++ms.map V.int)++[.int 7]));have z5:=(((y1.trans y2).trans y3).trans y4).trans y5;have eb5:=z5 _ _ eb4;have en5:Env _ b lk lt lh ws ts hs:=en4.kp (.of z5);have nlc:lc≠b:=fun z=>by rw[z,(((y1.trans y2).trans y3).trans y4) _ _ eb4] at h5;cases h5
   have ecs:([V.int way]++ms.map V.int)++[V.int 7]=(way::(ms++[7])).map V.int:=by simp
   refine⟨lc,b,lk,lt,lh,_,_,way::(ms++[7]),ws,ts,hs,rfl,?_,nlc,?_,eb5,en5,fun lp H5 ys ps x5 y5 k5 n5 e5 pr5 lps dps inc b5=> ?_⟩
   · rw[<-ecs];exact aa
   · rw[aV,ag];show _+1+1<=90;lia
   have npb:lp≠b:=fun z=>by rw[z,eb5] at n5;cases n5
   refine⟨lp,ps,ys,x5,y5,rfl,(Kp.of z5).trans k5,b5,npb,e5,pr5,?_,dps,inc⟩;rw[lps,aV,ag];show ms.length+1+1<=18
   lia
 rintro σ H5 ⟨lp,ps,ys,x5,y5,rfl,k5,b5,npb,ep5,pr5,lps,dps,inc⟩;have n1:=d4 way (show(3:Int)≠0 by decide);have n2:=ee way (show(0:Int)<3 by decide);have en5:=en4.kp k5;refine⟨fun σ H'=>∃(ls:Addr) (ks:List Kd) (zs:List V) (x y:Int),σ=[some (.ref a),some (.ref lk),some (.ref lt),some (.ref lh),some (.int way),some (.ref b),some (.ref lp),some (.ref ls),none,none,none,none,none,none,none]/\Kp [b] H5 H'/\H' b=some (.lst [.int x,.int y])/\ls≠b/\H5 ls=none/\H' ls=some (.lst zs)/\KL H' zs ks/\gO ks<=14/\∀k∈ks,gK ts k,?_,?_⟩
 · refine⟨(show(0:Int)<3 by decide),way % 3,rfl,by lia,by lia,fun D hD=> ?_⟩;have nDb:D≠b:=fun z=>by rw[z,b5] at hD;cases hD
   have nkD:lk≠D:=ba en5.hk hD;have ntD:lt≠D:=ba en5.ht hD;refine iW (way % 3).toNat (fun i σ H'=>(∃o,σ=[o,some (.ref b),some (.ref lk),some (.ref lt)])/\Kp [b,D] H5 H'/\(∃x' y',H' b=some (.lst [.int x',.int y']))/\∃(vs:List V) (ks:List Kd),H' D=some (.lst vs)/\KL H' vs ks/\ks.length=i/\∀k∈ks,gK ts k/\k.sz<=7) ⟨⟨_,rfl⟩,.of (ah hD _),⟨_,_,(ah hD _) _ _ b5⟩,[],[],aa,.nil,rfl,fun _ h=>(ak h).elim⟩ ?_ ?_
   · rintro σ HB ⟨_,kD,⟨xB,yB,bB⟩,vs,ks,eD,kl,lks,gk⟩;exact⟨au _,D,ks,vs,xB,yB,rfl,Kp.drop hD kD,bB,nDb,hD,eD,kl,by have:=yZ (n:=7) (fun k hk=>(gk k hk).2);lia,fun k hk=>(gk k hk).1⟩
   · rintro i σ HB hi ⟨⟨o,rfl⟩,kD,⟨xB,yB,bB⟩,vs,ks,eD,kl,lks,gk⟩;refine⟨hi,?_⟩;rintro v HC ⟨rfl,rfl⟩;refine⟨b,lk,lt,xB,yB,0,ws,ts,2,rfl,bB,kD.but _ _ (ni en5.nk nkD) en5.hk,kD.but _ _ (ni en5.nt ntD) en5.ht,en5.nk,en5.nt,en5.p1,en5.p2,en5.p3,en5.p4,by decide,fun v1 HE k1 xE yE kE bE ik1 nt1 dp1 nm1=> ?_⟩;have eD8:=kE.but _ _ (dA nDb) eD;have lvs:vs.length=i:=by rw[aS kl];exact lks
     have hi':i<(way % 3).toNat:=hi;have kput:Kp [b,D] HE (upd HE D (.lst (vs++[v1]))):=Kp.lst (by simp) eD8;refine⟨_,eD8,bL (by lia),⟨_,rfl⟩,(kD.trans (kE.mono (by simp))).trans kput,⟨xE,yE,by rw[aD (bI nDb)];exact bE⟩,vs++[v1],ks++[k1],aa,nO (KL.mono (kE.tups.trans kput.tups) kl) (.cons (IsK.mono kput.tups ik1) .nil),by rw[ag,lks];rfl,fun k hk=> ?_⟩;rcases av.mp hk with h | h
     · exact gk k h
     · rw[af.mp h];exact⟨yr w1 w2 nm1 (by lia) (by lia),by have:=hZ k1;lia⟩
 rintro σ H6 ⟨ls,ks,zs,x6,y6,rfl,k6,b6,nsb,nls,es6,kl6,sk6,gk⟩;have n3:=d4 (way/3) (show(3:Int)≠0 by decide);have n4:=ee (way/3) (show(0:Int)<3 by decide);have en6:=en5.kp k6;have ep6:=k6.but _ _ (dA npb) ep5;have pr6:=PrL.mono k6.tups pr5;have nps:lp≠ls:=ba ep5 nls;clear ep5 pr5 b5;refine⟨fun σ H'=>∃(lf:Addr) (fs:List Kd) (us:List V) (x y:Int),σ=[some (.ref a),some (.ref lk),some (.ref lt),some (.ref lh),some (.int way),some (.ref b),some (.ref lp),some (.ref ls),some (.ref lf),none,none,none,none,none,none]/\Kp [b] H6 H'/\H' b=some (.lst [.int x,.int y])/\lf≠b/\H6 lf=none/\H' lf=some (.lst us)/\KL H' us fs/\gO fs<=14/\∀k∈fs,gK ts k,?_,?_⟩
 · refine⟨⟨by decide,by decide⟩,(show(0:Int)<3 by decide),way/3 % 3,rfl,by lia,by lia,fun D hD=> ?_⟩;have nDb:D≠b:=fun z=>by rw[z,b6] at hD;cases hD
   have nkD:lk≠D:=ba en6.hk hD;have ntD:lt≠D:=ba en6.ht hD;refine iW (way/3 % 3).toNat (fun i σ H'=>(∃o,σ=[o,some (.ref b),some (.ref lk),some (.ref lt)])/\Kp [b,D] H6 H'/\(∃x' y',H' b=some (.lst [.int x',.int y']))/\∃(vs:List V) (ks:List Kd),H' D=some (.lst vs)/\KL H' vs ks/\ks.length=i/\∀k∈ks,gK ts k/\k.sz<=7) ⟨⟨_,rfl⟩,.of (ah hD _),⟨_,_,(ah hD _) _ _ b6⟩,[],[],aa,.nil,rfl,fun _ h=>(ak h).elim⟩ ?_ ?_
   · rintro σ HB ⟨_,kD,⟨xB,yB,bB⟩,vs,ks,eD,kl,lks,gk⟩;exact⟨au _,D,ks,vs,xB,yB,rfl,Kp.drop hD kD,bB,nDb,hD,eD,kl,by have:=yZ (n:=7) (fun k hk=>(gk k hk).2);lia,fun k hk=>(gk k hk).1⟩
   · rintro i σ HB hi ⟨⟨o,rfl⟩,kD,⟨xB,yB,bB⟩,vs,ks,eD,kl,lks,gk⟩;refine⟨hi,?_⟩;rintro v HC ⟨rfl,rfl⟩;refine⟨b,lk,lt,xB,yB,0,ws,ts,2,rfl,bB,kD.but _ _ (ni en6.nk nkD) en6.hk,kD.but _ _ (ni en6.nt ntD) en6.ht,en6.nk,en6.nt,en6.p1,en6.p2,en6.p3,en6.p4,by decide,fun v1 HE k1 xE yE kE bE ik1 nt1 dp1 nm1=> ?_⟩;have eD8:=kE.but _ _ (dA nDb) eD;have lvs:vs.length=i:=by rw[aS kl];exact lks
     have hi':i<(way/3 % 3).toNat:=hi;have kput:Kp [b,D] HE (upd HE D (.lst (vs++[v1]))):=Kp.lst (by simp) eD8;refine⟨_,eD8,bL (by lia),⟨_,rfl⟩,(kD.trans (kE.mono (by simp))).trans kput,⟨xE,yE,by rw[aD (bI nDb)];exact bE⟩,vs++[v1],ks++[k1],aa,nO (KL.mono (kE.tups.trans kput.tups) kl) (.cons (IsK.mono kput.tups ik1) .nil),by rw[ag,lks];rfl,fun k hk=> ?_⟩;rcases av.mp hk with h | h
     · exact gk k h
     · rw[af.mp h];exact⟨yr w1 w2 nm1 (by lia) (by lia),by have:=hZ k1;lia⟩
 rintro σ H7 ⟨lf,fs,us,x7,y7,rfl,k7,b7,nfb,nlf,ef7,kl7,sf7,gf⟩;have en7:=en6.kp k7;have ep7:=k7.but _ _ (dA npb) ep6;have pr7:=PrL.mono k7.tups pr6;have es7:=k7.but _ _ (dA nsb) es6;have ks7:=KL.mono k7.tups kl6;have npf:lp≠lf:=ba ep6 nlf;have nsf:ls≠lf:=ba es6 nlf;have d7:LawD ts hs ps ks fs:=⟨w2,en4.lt',w3,inc,⟨ws,w1,dps⟩,gk,gf,by lia,by have:=yY (n:=14) (ps:=ps) (fun q hq=>(dps q hq).szs);lia,by lia,by lia⟩;have k47:Kp [b] H4 H7:=(k5.trans k6).trans k7;have h4s:H4 ls=none:=by
  cases e:H4 ls with
  | none=>rfl
  | some o=>rw[k5.but _ _ (dA nsb) e] at nls;cases nls
 have h4f:H4 lf=none:=by
  cases e:H4 lf with
  | none=>rfl
  | some o=>rw[(k5.trans k6).but _ _ (dA nfb) e] at nlf;cases nlf
 clear nlf es6 kl6 ep6 pr6 b6 n1 n2 n3 n4 k5 k6 k7 nls;refine⟨fun σ H'=>∃(lp ls lf:Addr) (ps:List (Int × Sy)) (ks fs:List Kd) (o9:Option V),σ=[some (.ref a),some (.ref lk),some (.ref lt),some (.ref lh),some (.int way),some (.ref b),some (.ref lp),some (.ref ls),some (.ref lf),o9,none,none,none,none,none]/\Kp [b] H4 H'/\LawH H' lp ls lf ps ks fs/\LawD ts hs ps ks fs,?_,?_⟩
 · refine⟨⟨by decide,by decide⟩,(show(0:Int)<5 by decide),fY (fun _=> ?_) (fun _=> ?_)⟩
   · refine⟨_,rfl,lp,_,rfl,SqL.of ep7,fun lq hq=> ?_⟩;rw[show i_ ys none (some 4)=ys.take 4 from yF ys 4];have y8:=ah hq (.lst (ys.take 4));have n1:=d4 (way/45) (show(20:Int)≠0 by decide);have n2:=ee (way/45) (show(0:Int)<20 by decide);obtain⟨n,hn⟩:∃n:Nat,(n:Int)=1+way/45 % 20:=⟨(1+way/45 % 20).toNat,by lia⟩;have e8:=en7.kp (.of y8);have b8:=y8 _ _ b7;have ep8:upd H7 lq (.lst (ys.take 4)) lq=some (.lst (ys.take 4)):=aa;have nqb:lq≠b:=fun z=>by rw[z,b7] at hq;cases hq
     have nqs:lq≠ls:=fun z=>by rw[z,es7] at hq;cases hq
     have nqf:lq≠lf:=fun z=>by rw[z,ef7] at hq;cases hq
     generalize upd H7 lq (.lst (ys.take 4))=H8 at y8 e8 b8 ep8⊢;refine⟨⟨by decide,by decide⟩,(show(0:Int)<20 by decide),b,lk,lt,x7,y7,ws,ts,n,(by rw[hn];rfl),b8,e8.hk,e8.ht,e8.nk,e8.nt,e8.p1,e8.p2,e8.p3,e8.p4,by lia,fun v H9 k x9 y9 k9 b9 ik nt dp nm=> ?_⟩;have g9:gK ts k:=yr w1 w2 nm (by lia) (by lia);have z9:k.sz<=41:=by have:=hZ k;lia
     have k89:Kp [b] H7 H9:=(Kp.of y8).trans k9;have ep9:=k9.but _ _ (dA nqb) ep8;have es9:=k89.but _ _ (dA nsb) es7;have ef9:=k89.but _ _ (dA nfb) ef7;have pr9:PrL H9 (ys.take 4) (ps.take 4):=PrL.mono k89.tups (kB pr7 4);have ks9:=KL.mono k89.tups ks7;have fs9:=KL.mono k89.tups kl7;have lz:zs.length<=14:=by rw[KL.len ks7];exact aq (ql ks) sk6
     have lu:us.length<=14:=by rw[KL.len kl7];exact aq (ql fs) sf7
     refine⟨⟨by decide,by decide⟩,(show(0:Int)<2 by decide),fY (fun _=> ?_) (fun _=> ?_)⟩
     · refine⟨.inl ⟨rfl,_,SqL.of es9⟩,zs,es9,bL (by lia),?_⟩;have kp:Kp [b,ls] H9 (upd H9 ls (.lst (zs++[v]))):=Kp.lst (by simp) es9;refine⟨lq,ls,lf,ps.take 4,ks++[k],fs,_,rfl,Kp.drop h4s (((k47.trans k89).mono (by simp)).trans kp),⟨⟨_,by rw[aD nqs];exact ep9,PrL.mono kp.tups pr9⟩,⟨_,aa,nO (KL.mono kp.tups ks9) (.cons (IsK.mono kp.tups ik) .nil)⟩,⟨_,by rw[aD (bI nsf)];exact ef9,KL.mono kp.tups fs9⟩⟩,(d7.deep 4).addS sk6 g9 z9⟩
     · refine⟨.inl ⟨rfl,_,SqL.of ef9⟩,us,ef9,bL (by lia),?_⟩;have kp:Kp [b,lf] H9 (upd H9 lf (.lst (us++[v]))):=Kp.lst (by simp) ef9;refine⟨lq,ls,lf,ps.take 4,ks,fs++[k],_,rfl,Kp.drop h4f (((k47.trans k89).mono (by simp)).trans kp),⟨⟨_,by rw[aD nqf];exact ep9,PrL.mono kp.tups pr9⟩,⟨_,by rw[aD nsf];exact es9,KL.mono kp.tups ks9⟩,⟨_,aa,nO (KL.mono kp.tups fs9) (.cons (IsK.mono kp.tups ik) .nil)⟩⟩,(d7.deep 4).addF sf7 g9 z9⟩
   · exact⟨lp,ls,lf,ps,ks,fs,_,rfl,k47,⟨⟨_,ep7,pr7⟩,⟨_,es7,ks7⟩,⟨_,ef7,kl7⟩⟩,d7⟩
 clear d7 k47 h4s h4f en7 ep7 pr7 es7 ks7 npf nsf b7 ef7 kl7 sf7 gf gk sk6 en6 en5 nps npb nsb nfb lps dps inc;rintro σ H8 ⟨lp,ls,lf,ps,ks,fs,o9,rfl,k8,h8,d8⟩;refine⟨fun σ H'=>∃(lp ls lf:Addr) (ps:List (Int × Sy)) (ks fs:List Kd) (o9 o10 o11 o12:Option V),σ=[some (.ref a),some (.ref lk),some (.ref lt),some (.ref lh),some (.int way),some (.ref b),some (.ref lp),some (.ref ls),some (.ref lf),o9,o10,o11,o12,none,none]/\LawH H' lp ls lf ps ks fs/\LawD ts hs ps ks fs,?_,?_⟩
 · refine⟨⟨by decide,by decide⟩,(show(0:Int)<5 by decide),fY (fun _=> ?_) (fun _=> ?_)⟩
   · refine⟨a,ns,4,rfl,nab4 k8,by decide,fun r4=>⟨_,24,rfl,by decide,by decide,fun lr Hr row sr fr er lr1 lr2 _ wr=> ?_⟩⟩;have hr8:=h8.same sr;have er0:∀{H':Hp},Same Hr H'->SqL K H' lr (row.map V.str):=fun s=>SqL.of (s _ _ er);have ln:((row.map V.str).length:Int)=row.length:=by rw[ai]
     refine⟨lr,_,rfl,.inl (SqL.of er),(row.length:Int) - 1,(by rw[ln]),by lia,by lia,fun D hD=> ?_⟩;have yD:=ah hD (.lst []);refine iW ((row.length:Int) - 1).toNat (fun i σ H'=>(∃o,σ=[o,some (.ref lr)])/\Same Hr H'/\∃(vs:List V) (ss:List Sy),H' D=some (.lst vs)/\Og H' vs ss/\ss.length=i/\∀s∈ss,∃x∈row,∃y∈row,s= .every (.nm x) (.nm y)) ⟨⟨_,rfl⟩,yD,[],[],aa,.nil,rfl,fun _ h=>(ak h).elim⟩ ?_ ?_
     · rintro σ H9 ⟨_,s9,vs,ss,eD,sl,lss,gs⟩;refine⟨au _,?_⟩;have p0:(0:Int)<((row.map V.str).length:Int):=by rw[ln];lia
       have n1:=d4 (way/45) (show((row.map V.str).length:Int)≠0 by lia);refine⟨⟨by decide,by decide⟩,lr,_,rfl,.inl (er0 s9),p0,?_⟩;obtain⟨n,hn⟩:∃n:Nat,(n:Int)=way/45 % ((row.map V.str).length:Int):=⟨(way/45 % ((row.map V.str).length:Int)).toNat,by lia⟩;have lvs:vs.length=ss.length:=aS sl;refine⟨_,rfl,D,_,rfl,SqL.of eD,fun l1 h1=> ?_⟩;rw[show i_ vs (some (way/45 % ((row.map V.str).length:Int))) none=vs.drop n by rw[<-hn];exact Fp vs n];have y1:=ah h1 (.lst (vs.drop n));refine⟨_,rfl,D,_,rfl,SqL.of (y1 _ _ eD),fun l2 h2=> ?_⟩;rw[show i_ vs none (some (way/45 % ((row.map V.str).length:Int)))=vs.take n by rw[<-hn];exact yF vs n];have y2:=ah h2 (.lst (vs.take n));refine⟨l1,l2,_,_,rfl,rfl,y2 _ _ aa,aa,bw (by rw[e_,cJ];lia),fun l3 h3=> ?_⟩;have y3:=ah h3 (.lst (vs.drop n++vs.take n));have sl3:Og H9 (vs.drop n++vs.take n) (ss.drop n++ss.take n):=nO (pR sl n) (kB sl n);have gs3:∀s∈ss.drop n++ss.take n,∃x∈row,∃y∈row,s= .every (.nm x) (.nm y):=fun s hs=>(av.mp hs).elim (fun h=>gs s (NS h)) fun h=>gs s (gS h);have ls3:(vs.drop n++vs.take n).length<=23:=by rw[ag,e_,cJ];lia
       have e3:upd (upd (upd H9 l1 (.lst (vs.drop n))) l2 (.lst (vs.take n))) l3 (.lst (vs.drop n++vs.take n)) l3=some (.lst (vs.drop n++vs.take n)):=aa;have s3:=(y1.trans y2).trans y3;generalize upd (upd (upd H9 l1 (.lst (vs.drop n))) l2 (.lst (vs.take n))) l3 (.lst (vs.drop n++vs.take n))=H11 at s3 e3⊢;generalize vs.drop n++vs.take n=vs3 at sl3 ls3 e3;generalize ss.drop n++ss.take n=ss3 at sl3 gs3;have s3r:=s9.trans s3;refine⟨l3,_,rfl,.inl (SqL.of e3),(vs3.length:Int),rfl,by lia,by lia,fun D2 hD2=> ?_⟩;have yD2:=ah hD2 (.lst []);refine iW ((vs3.length:Int)).toNat (fun i σ H'=>(∃o,σ=[o,some (.ref l3)])/\Same H11 H'/\∃(qs:List V) (ps:List (Int × Sy)),H' D2=some (.lst qs)/\PrL H' qs ps/\ps.length=i/\(∀q∈ps,q.2∈ss3/\q.1<=(i:Int))/\ps.Pairwise fun a b=>a.1<b.1) ⟨⟨_,rfl⟩,yD2,[],[],aa,.nil,rfl,fun _ h=>(ak h).elim,.nil⟩ ?_ ?_
       · rintro σ H12 ⟨_,s12,qs,ps2,eD2,pr2,lps2,gq,inc2⟩;refine⟨au _,?_⟩;have s12r:=s3r.trans s12;have hm:row.length/2<row.length:=by lia
         have hm0:0<row.length:=by lia
         have a0:tJ (row.map V.str) 0=some (.str row[0]):=aR (j:=0) (by rw[aQ,aw hm0];rfl);have a1:tJ (row.map V.str) (((row.map V.str).length:Int)/2)=some (.str row[row.length/2]):=by
          rw[ln,show(row.length:Int)/2=((row.length/2:Nat):Int) by lia];exact aR (by rw[aQ,aw hm];rfl)
         refine⟨_,_,er0 s12r,a0,lr,_,rfl,.inl (er0 s12r),⟨by decide,by decide⟩,_,_,er0 s12r,a1,bw (by show 2<=1000;decide),fun lz hz=> ?_⟩;have yz:=ah hz (.lst [.str row[0],.str row[row.length/2]]);obtain⟨us,ef,fl⟩:=(hr8.same (s12r.trans yz)).f;have gw:∀{x:Str},x∈row->gK ts (.nm x):=fun {x} hx=>yr (ws:=row) wr w2 (.inl hx) (ay _) (ay _);have lq:ps2.length<=23:=by rw[lps2];lia
         have dq:∀q∈ps2,dS row ts hs q.2:=fun q hq=>by
          obtain⟨x,hx,y,hy,e⟩:=gs3 q.2 (gq q hq).1;rw[e];exact Kf wr hx hy
         have zq:∀q∈ps2,q.2.szs<=2:=fun q hq=>by
          obtain⟨x,hx,y,hy,e⟩:=gs3 q.2 (gq q hq).1;rw[e];exact au 2
         refine⟨D2,lz,lf,ps2,[.nm row[0],.nm row[row.length/2]],fs,_,_,_,_,rfl,⟨⟨qs,yz _ _ eD2,PrL.mono yz.tups pr2⟩,⟨_,aa,.cons rfl (.cons rfl .nil)⟩,⟨us,ef,fl⟩⟩,⟨d8.ht,d8.lt,d8.hh,inc2,⟨row,wr,dq⟩,fun k hk=> ?_,d8.pf,by lia,by have:=yY (n:=2) zq;lia,by show 1+(1+0)<=57;decide,d8.sf⟩⟩;rcases aL.mp hk with rfl | hk
         · exact gw (cU _)
         · rw[af.mp hk];exact gw (cU _)
       · rintro i σ H12 hi ⟨⟨o,rfl⟩,s12,qs,ps2,eD2,pr2,lps2,gq,inc2⟩;refine⟨hi,?_⟩;rintro v H13 ⟨rfl,rfl⟩;rw[show(0:Int)+(i:Int)=(i:Int) by lia];have hi':i<vs3.length:=by have:i<((vs3.length:Int)).toNat:=hi;lia
         obtain⟨sy,hsy,isy⟩:=cG sl3 (aw hi');have a0:tJ vs3 (i:Int)=some vs3[i]:=aR (aw hi');refine⟨_,_,SqL.of (s12 _ _ e3),a0,bw (by show 2<=1000;decide),fun t ht=> ?_⟩;have yt:=ah ht (.tup [.int ((i:Int)+1),vs3[i]]);have eD3:=yt _ _ eD2;have lqs:qs.length=i:=by rw[aS pr2];exact lps2
         have tup':Tups (upd H13 t (.tup [.int ((i:Int)+1),vs3[i]])) (upd (upd H13 t (.tup [.int ((i:Int)+1),vs3[i]])) D2 (.lst (qs++[.ref t]))):=fun b us e=>by rw[aD (fun z=>by rw[z,eD3] at e;cases e)];exact e
         refine⟨_,eD3,bL (by lia),⟨_,rfl⟩,fun b o e=>by rw[aD (ba e hD2)];exact yt _ _ (s12 _ _ e),qs++[.ref t],ps2++[((i:Int)+1,sy)],aa,nO (PrL.mono (yt.tups.trans tup') pr2) (.cons ⟨t,vs3[i],rfl,tup' _ _ aa,IsSy.mono ((s3.trans (s12.trans yt)).tups.trans tup') isy⟩ .nil),by rw[ag,lps2];rfl,fun q hq=> ?_,?_⟩
         · rcases av.mp hq with hq | hq
           · exact⟨(gq q hq).1,Int.le_trans (gq q hq).2 (by lia)⟩
           · rw[af.mp hq];exact⟨ar hsy,by show(i:Int)+1<=_;lia⟩
         · rw[tO];refine⟨inc2,KS _ _,fun q hq q' hq'=> ?_⟩;rw[af.mp hq'];have:=(gq q hq).2;show q.1<(i:Int)+1
           lia
     · rintro i σ H9 hi ⟨⟨o,rfl⟩,s9,vs,ss,eD,sl,lss,gs⟩;refine⟨hi,?_⟩;rintro v H10 ⟨rfl,rfl⟩;have hi':i<((row.length:Int) - 1).toNat:=hi;have hi0:i<row.length:=by lia
       have hi1:i+1<row.length:=by lia
       rw[show(0:Int)+(i:Int)=(i:Int) by lia];have a0:tJ (row.map V.str) (i:Int)=some (.str row[i]):=aR (by rw[aQ,aw hi0];rfl);have a1:tJ (row.map V.str) ((i:Int)+1)=some (.str row[i+1]):=aR (j:=i+1) (by rw[aQ,aw hi1];rfl);refine⟨_,_,er0 s9,a0,_,_,er0 s9,a1,bw (by show 3<=1000;decide),fun t ht=> ?_⟩;have yt:=ah ht (.tup [.str "every",.str row[i],.str row[i+1]]);have eD3:=yt _ _ eD;have lvs:vs.length=i:=by rw[aS sl];exact lss
       have isy:IsSy (upd H10 t (.tup [.str "every",.str row[i],.str row[i+1]])) (.every (.nm row[i]) (.nm row[i+1])) (.ref t):=Bi (s:= .every (.nm row[i]) (.nm row[i+1])) (xs:=[.str row[i],.str row[i+1]]) ht (.cons rfl (.cons rfl .nil));have tup':Tups (upd H10 t (.tup [.str "every",.str row[i],.str row[i+1]])) (upd (upd H10 t (.tup [.str "every",.str row[i],.str row[i+1]])) D (.lst (vs++[.ref t]))):=fun b us e=>by rw[aD (fun z=>by rw[z,eD3] at e;cases e)];exact e
       refine⟨_,eD3,bL (by lia),⟨_,rfl⟩,fun b o e=>by rw[aD (ba e hD)];exact yt _ _ (s9 _ _ e),vs++[.ref t],ss++[.every (.nm row[i]) (.nm row[i+1])],aa,nO (Paired.imp' (fun _ _ h=>IsSy.mono (yt.tups.trans tup') h) sl) (.cons (IsSy.mono tup' isy) .nil),by rw[ag,lss];rfl,fun s hs=> ?_⟩;rcases av.mp hs with h | h
       · exact gs s h
       · exact⟨_,cU _,_,cU _,af.mp h⟩
   · exact⟨lp,ls,lf,ps,ks,fs,_,_,_,_,rfl,h8,d8⟩
 clear k8 h8 d8 lp ls lf ps ks fs o9 H8;rintro σ H1 ⟨lp,ls,lf,ps,ks,fs,o9,o10,o11,o12,rfl,⟨⟨ys,ep,pr⟩,⟨zs,es,kl⟩,⟨us,ef,fl⟩⟩,d⟩;refine⟨lp,_,rfl,.inl (SqL.of ep),fun l1 h1=> ?_⟩;have y1:=ah h1 (.lst ys);refine⟨ls,_,rfl,.inl (SqL.of (y1 _ _ es)),fun l2 h2=> ?_⟩;have y2:=ah h2 (.lst zs);refine⟨lf,_,rfl,.inl (SqL.of ((y1.trans y2) _ _ ef)),fun l3 h3=> ?_⟩;have y3:=ah h3 (.lst us);refine⟨bw (by show 3<=1000;decide),fun ll hll=> ?_⟩;have y4:=ah hll (.lst [.ref l1,.ref l2,.ref l3]);have s4:=((y1.trans y2).trans y3).trans y4;have e1:=((y2.trans y3).trans y4) _ _ (show upd H1 l1 (.lst ys) l1=_ from aa);have e2:=(y3.trans y4) _ _ (show upd (upd H1 l1 (.lst ys)) l2 (.lst zs) l2=_ from aa);have e3:=y4 _ _ (show upd (upd (upd H1 l1 (.lst ys)) l2 (.lst zs)) l3 (.lst us) l3=_ from aa);have el:upd (upd (upd (upd H1 l1 (.lst ys)) l2 (.lst zs)) l3 (.lst us)) ll (.lst [.ref l1,.ref l2,.ref l3]) ll=_:=aa;generalize upd (upd (upd (upd H1 l1 (.lst ys)) l2 (.lst zs)) l3 (.lst us)) ll (.lst [.ref l1,.ref l2,.ref l3])=H2 at s4 e1 e2 e3 el⊢;obtain⟨q1,q2,q3,q4,q5,q6,q7,q8,q9,q10⟩:=d.still;refine⟨_,_,SqL.of el,aR (j:=0) rfl,_,_,SqL.of el,aR (j:=1) rfl,_,_,SqL.of el,aR (j:=2) rfl,?_⟩;refine⟨700,ts,l1,l2,l3,ys,zs,us,ps,ks,fs,rfl,e1,PrL.mono s4.tups pr,e2,KL.mono s4.tups kl,e3,KL.mono s4.tups fl,q1,q2,q3,q4,q5,q6,q7,q8,q9,q10,fun H3 lq vs T Tn S' s23 hq eq rv _ st=> ?_⟩;obtain⟨r1,r2,r3,r4,r5,r6,r7,r8,r9⟩:=d.sound st;have stl:=K7 rv;have s03:=s4.trans s23;refine⟨lq,vs,S'.steps,rfl,eq,stl,fun s hs=>⟨(r1 s hs).1.lo,(r1 s hs).2⟩,fun H4' s34=> ?_⟩;refine⟨bw (by show 3<=1000;decide),fun ld hld=> ?_⟩;have y5:=ah hld (.lst [.ref lp,.ref ls,.ref lf]);have s05:=(s03.trans s34).trans y5;have s25:=(s23.trans s34).trans y5;have X1:∀{H:Hp} {p:Addr} {v:List V} {Qs:List (Int × Sy)},H p=some (.lst v)->PrL H v Qs->Xa H (.lst (Qs.map GB)) (.ref p):=fun {H} {p} {v} {Qs} h1 h2=>⟨p,v,rfl,h1,PrL.xas h2⟩;have X2:∀{H:Hp} {p:Addr} {v:List V} {Qs:List Kd},H p=some (.lst v)->KL H v Qs->Xa H (.lst (Qs.map Kd.tx)) (.ref p):=fun {H} {p} {v} {Qs} h1 h2=>⟨p,v,rfl,h1,KL.xas h2⟩;have kdp:∀{Qs:List Kd},(∀k∈Qs,okK k/\k.dep<=25/\k.sz<=1000)->(Tx.lst (Qs.map Kd.tx)).dp<=26:=fun {Qs} h=>by
  show 1+j9 (Qs.map Kd.tx)<=26;have:j9 (Qs.map Kd.tx)<=25:=qi fun d hd=>by
   obtain⟨k,hk,rfl⟩:=bS.mp hd;rw[Kd.tx_dp];exact(h k hk).2.1
  lia
 have pdp:(Tx.lst (ps.map GB)).dp<=59:=by
  exact aq (Cp fun q hq=>(r2 q hq).1) (by decide)
 refine⟨.lst [.lst (ps.map GB),.lst (ks.map Kd.tx),.lst (fs.map Kd.tx)],.lst [.lst (ps.map GB),.lst (ks.map Kd.tx),.lst (fs.map Kd.tx)],⟨ll,_,rfl,s25 _ _ el,_,_,rfl,X1 (s25 _ _ e1) (PrL.mono (s4.trans s25).tups pr),_,_,rfl,X2 (s25 _ _ e2) (KL.mono (s4.trans s25).tups kl),_,_,rfl,X2 (s25 _ _ e3) (KL.mono (s4.trans s25).tups fl),rfl⟩,⟨ld,_,rfl,aa,_,_,rfl,X1 (s05 _ _ ep) (PrL.mono s05.tups pr),_,_,rfl,X2 (s05 _ _ es) (KL.mono s05.tups kl),_,_,rfl,X2 (s05 _ _ ef) (KL.mono s05.tups fl),rfl⟩,?_,?_⟩
 · have h1:=kdp r3;have h2:=kdp r4;show 1+max (Tx.lst (ps.map GB)).dp (max (Tx.lst (ks.map Kd.tx)).dp (max (Tx.lst (fs.map Kd.tx)).dp 0))<=60
   lia
 rw[ao rfl];refine⟨lq,lp,ls,lf,vs,ys,zs,us,S'.steps,ps,ks,fs,rfl,(s34.trans y5) _ _ eq,StL.keep (.of (s34.trans y5)) stl,s05 _ _ ep,PrL.mono s05.tups pr,s05 _ _ es,KL.mono s05.tups kl,s05 _ _ ef,KL.mono s05.tups fl,fun s hs=>(r1 s hs).1,r2,r3,r4,r5,r6,r7,r8,r9,fun H6 _=>q H6⟩
end
def mh(l:K.lookup a=some ⟨.type "tuple",od,.seq its n,sl⟩)(hs:its.size<=sizeLine)(hv:Vals xs its.toList):SqT K H a xs:= .inr ⟨_,its,n,l,rfl,rfl,hs,hv⟩
def JJ{p:List Value->Prop}(h:p [])(us:List Value)(e:us.length=0):p us:=by cases us with | nil=>exact h | cons=>cases e
def om{p:List Value->Prop}(h:∀a us,us.length=n->p (a::us))(us:List Value)(e:us.length=n+1):p us:=by cases us with | nil=>cases e | cons a us=>exact h a us (Nat.succ.inj e)
def ln1{p:List Value->Prop}(h:∀a,p [a]):∀us:List Value,us.length=1->p us:=om fun a=>JJ (h a)
def ln2{p:List Value->Prop}(h:∀a b,p [a,b]):∀us:List Value,us.length=2->p us:=om fun a=>om fun b=>JJ (h a b)
def ln3{p:List Value->Prop}(h:∀a b c,p [a,b,c]):∀us:List Value,us.length=3->p us:=om fun a=>om fun b=>om fun c=>JJ (h a b c)
def ln4{p:List Value->Prop}(h:∀a b c d,p [a,b,c,d]):∀us:List Value,us.length=4->p us:=om fun a=>om fun b=>om fun c=>om fun d=>JJ (h a b c d)
def ln5{p:List Value->Prop}(h:∀a b c d e,p [a,b,c,d,e]):∀us:List Value,us.length=5->p us:=om fun a=>om fun b=>om fun c=>om fun d=>om fun e=>JJ (h a b c d e)
def ln6{p:List Value->Prop}(h:∀a b c d e f,p [a,b,c,d,e,f]):∀us:List Value,us.length=6->p us:=om fun a=>om fun b=>om fun c=>om fun d=>om fun e=>om fun f=>JJ (h a b c d e f)
def ln7{p:List Value->Prop}(h:∀a b c d e f g,p [a,b,c,d,e,f,g]):∀us:List Value,us.length=7->p us:=om fun a=>om fun b=>om fun c=>om fun d=>om fun e=>om fun f=>om fun g=>JJ (h a b c d e f g)
section
def fAt{K:Frag}{h:Heap}{mg:Str->Option Value}{x:Str}{st:Stmt}{ps:List Str}{a:Addr}{od an:Option Addr}{sl:Array (Option Value)}{oc kV dc pm cd ct:Value}(X:K.In h)(G:h.Ns mainGlobals mg)(e:nsIn K mainGlobals x=some (some (.ref a)):=by k_is)(l:K.lookup a=some ⟨oc,od,.func (fnOf x x (fB st) (eN st) (aK st) .none kV dc pm an cd ct),sl⟩:=by k_is)(c:codeIn K cd x=true:=by k_is)(k:keepIn K (.ref a)=true:=by k_is)(hb:∀(kV doc pm:Value) (an:Option Addr) (cdv ct:Value) (us:List Value),us.length=ps.length->bindArgs (fnOf x x (fB st) (eN st) (aK st) .none kV doc pm an cdv ct) ⟨us,[]⟩=pure (ps.zip us):=by first | exact fun _ _ _ _ _ _=>K18.ln1 fun _=>rfl | exact fun _ _ _ _ _ _=>K18.ln2 fun _ _=>rfl | exact fun _ _ _ _ _ _=>K18.ln3 fun _ _ _=>rfl | exact fun _ _ _ _ _ _=>K18.ln4 fun _ _ _ _=>rfl | exact fun _ _ _ _ _ _=>K18.ln5 fun _ _ _ _ _=>rfl | exact fun _ _ _ _ _ _=>K18.ln6 fun _ _ _ _ _ _=>rfl | exact fun _ _ _ _ _ _=>K18.ln7 fun _ _ _ _ _ _ _=>rfl):Fq K mg x st ps:=⟨_,_,wc l c k,(wc l c k).binds hb,mg_of X G e⟩
def fAtM{K:Frag}{x q:Str}{st:Stmt}{ps:List Str}{a C:Addr}{od an:Option Addr}{sl:Array (Option Value)}{oc kV dc pm cd ct:Value}(e:findIn K (.ref C) x=some (some (.ref a)):=by k_is)(n:isFn K (.ref a)=true:=by k_is)(l:K.lookup a=some ⟨oc,od,.func (fnOf x q (fB st) (eN st) (aK st) .none kV dc pm an cd ct),sl⟩:=by k_is)(c:codeIn K cd q=true:=by k_is)(k:keepIn K (.ref a)=true:=by k_is)(hb:∀(kV doc pm:Value) (an:Option Addr) (cdv ct:Value) (us:List Value),us.length=ps.length->bindArgs (fnOf x q (fB st) (eN st) (aK st) .none kV doc pm an cdv ct) ⟨us,[]⟩=pure (ps.zip us):=by first | exact fun _ _ _ _ _ _=>K18.ln1 fun _=>rfl | exact fun _ _ _ _ _ _=>K18.ln2 fun _ _=>rfl | exact fun _ _ _ _ _ _=>K18.ln3 fun _ _ _=>rfl | exact fun _ _ _ _ _ _=>K18.ln4 fun _ _ _ _=>rfl | exact fun _ _ _ _ _ _=>K18.ln5 fun _ _ _ _ _=>rfl | exact fun _ _ _ _ _ _=>K18.ln6 fun _ _ _ _ _ _=>rfl | exact fun _ _ _ _ _ _=>K18.ln7 fun _ _ _ _ _ _ _=>rfl):Mq K C x q st ps:=⟨_,_,wc l c k,(wc l c k).binds hb,e,n,k⟩
def fAtD{K:Frag}{h:Heap}{mg:Str->Option Value}{x:Str}{st:Stmt}{ps:List Str}{a T:Addr}{od an:Option Addr}{sl:Array (Option Value)}{oc kV dc pm cd ct:Value}{ds its:List Value}{n:Nat}{od':Option Addr}{sl':Array (Option Value)}{oc':Value}(X:K.In h)(G:h.Ns mainGlobals mg)(e:nsIn K mainGlobals x=some (some (.ref a)):=by k_is)(l:K.lookup a=some ⟨oc,od,.func (fnOf x x (fB st) (eN st) (aK st) (.ref T) kV dc pm an cd ct),sl⟩:=by k_is)(c:codeIn K cd x=true:=by k_is)(k:keepIn K (.ref a)=true:=by k_is)(lT:K.lookup T=some ⟨oc',od',.seq its.toArray n,sl'⟩:=by k_is)(hb:∀(kV doc pm:Value) (an:Option Addr) (cdv ct:Value) (us:List Value),us.length+ds.length=ps.length->∃k,bindArgs (fnOf x x (fB st) (eN st) (aK st) (.ref T) kV doc pm an cdv ct) ⟨us,[]⟩=seqItems? (.ref T)>>=k/\k (some its.toArray)=pure (ps.zip (us++ds))):Dq K mg x st ps ds:=⟨_,_,_,BU l c k,(BU l c k).binds lT rfl hb,mg_of X G e⟩
end
def all_mk{l:PySem.W.OpenLaw}{w:World}{K:Frag}{h:Heap}{mg:Str->Option Value}{fa:Addr}(X:K.In h)(G:h.Ns mainGlobals mg)(hfa:mg "law"=some (.ref fa)){C:Addr}(cC:nsIn K mainGlobals "Lore"=some (some (.ref C)))(lc:wD K C)(mkC:makesIn K C=true)(kcC:keepIn K (.ref C)=true){D:Addr}(cD:nsIn K mainGlobals "Still"=some (some (.ref D)))(sc:uR K D)(mkD:makesIn K D=true)(kcD:keepIn K (.ref D)=true)(A1:Fq K mg "inner_kinds" zt iu)(A2:Fq K mg "note_names" xv pQ)(A3:Fq K mg "named" vr ["saying"])(A4:Fq K mg "is_small" zl qql42)(A5:Fq K mg "all_small" Je lY)(A6:Fq K mg "is_thing" zh lY)(A7:Fq K mg "show_kind" Bj iu)(A8:Fq K mg "note" Nd rL)(A9:Mq K C "__init__" "Lore.__init__" zp nI)(A10:Mq K C "number_of" "Lore.number_of" jK fH)(A11:Mq K C "shape_of" "Lore.shape_of" k_ fH)(A12:Mq K C "know" "Lore.know" vB nK)(A13:Mq K C "learn" "Lore.learn" vA Bs)(A14:Fq K mg "lore_of" vw Bw)(A15:Fq K mg "stands_for_thing" vm ["x"])(A16:Fq K mg "things_named" rE ["pairs"])(A17:Fq K mg "bits_of" vC ["mask"])(A18:Fq K mg "in_order" rK xD)(A19:Mq K D "__init__" "Still.__init__" zm xC)(A20:Mq K D "keep_is" "Still.keep_is" rH Bp)(A21:Mq K D "keep_has" "Still.keep_has" oB Bo)(A22:Mq K D "tell_is" "Still.tell_is" rG nJ)(A23:Mq K D "tell_has" "Still.tell_has" oA rM)(A24:Mq K D "let_stand" "Still.let_stand" mB fH)(A25:Mq K D "take_over" "Still.take_over" my Bq)(A26:Mq K D "begin" "Still.begin" vq Br)(A27:Mq K D "go_on" "Still.go_on" zo nI)(A28:Mq K D "from_kind" "Still.from_kind" mC pP)(A29:Mq K D "from_pairs" "Still.from_pairs" km pP)(A30:Mq K D "from_end" "Still.from_end" oF Bu)(A31:Mq K D "from_tie" "Still.from_tie" oC pO)(A32:Mq K D "from_chains" "Still.from_chains" jJ pO)(A33:Dq K mg "still" zi Bv [.none])(A34:Fq K mg "_law_cell" DT xG)(A35:Fq K mg "_law_draw" DS vG)(A36:Fq K mg "_law_words" zf vF)(A37:Fq K mg "_law_things" vj vF)(A38:Fq K mg "_law_kind" Bk vH)(A39:Fq K mg "_law_saying" vp Gy)(A40:Fq K mg "_law_numbered" oG Gx)(A41:Fq K mg "_law_single" vn jh)(A42:Fq K mg "_law_singles" rF BC)(A43:Fq K mg "_law_from_none" zu Bz)(A44:Fq K mg "_law_from_one" DR BB)(A45:Fq K mg "_law_from_two" DQ BA)(A46:Fq K mg "_law_fine" DP By)(A47:Fq K mg "_law_whole" zg nM)(A48:Fq K mg "_law_kindly" qv jh)(A49:Fq K mg "_law_is_claim" zw DW)(A50:Fq K mg "_law_are_steps" Jd nM)(A51:Fq K mg "_law_chain" zy Gz)(A52:Fq K mg "_law_inside" qw nL)(A53:Fq K mg "_law_known" zr BD)(A54:Fq K mg "_law_reached" rJ Gu)(A55:Fq K mg "_law_sound" zj Gv)(A56:Fq K mg "law" Jb xF){it1:Tok}(ia1:nsIn K mainGlobals "MOST_SIGNS"=some (some (.int 12 it1))){ta1:Addr}{tod1:Option Addr}{tn1:Nat}{tsl1:Array (Option Value)}{tt1_0 tt1_1:Tok}(sa1:nsIn K mainGlobals "WHOLES"=some (some (.ref ta1)))(sb1:K.lookup ta1=some ⟨.type "tuple",tod1,.seq #[.str "anything" tt1_0,.str "nothing" tt1_1] tn1,tsl1⟩){da1:Addr}{ddn1:Nat}{dt1_0 dt1_1 dt1_2 dt1_3 dt1_4 dt1_5:Tok}{de1_0 de1_1 de1_2 de1_3 de1_4 de1_5:Addr}(dA1:nsIn K mainGlobals "FORMS"=some (some (.ref da1)))(dB1:K.lookup da1=some ⟨.type "dict",none,.dict #[⟨PyData.keyHash w.params "every",.str "every" dt1_0,.ref de1_0⟩,⟨PyData.keyHash w.params "no",.str "no" dt1_1,.ref de1_1⟩,⟨PyData.keyHash w.params "thing",.str "thing" dt1_2,.ref de1_2⟩,⟨PyData.keyHash w.params "tied",.str "tied" dt1_3,.ref de1_3⟩,⟨PyData.keyHash w.params "within",.str "within" dt1_4,.ref de1_4⟩,⟨PyData.keyHash w.params "makes",.str "makes" dt1_5,.ref de1_5⟩] ddn1,#[]⟩){ddod1_0:Option Addr}{dm1_0:Nat}{ddsl1_0:Array (Option Value)}{du1_0_0 du1_0_1:Tok}(dC1_0:K.lookup de1_0=some ⟨.type "tuple",ddod1_0,.seq #[.str "kind" du1_0_0,.str "kind" du1_0_1] dm1_0,ddsl1_0⟩){ddod1_1:Option Addr}{dm1_1:Nat}{ddsl1_1:Array (Option Value)}{du1_1_0 du1_1_1:Tok}(dC1_1:K.lookup de1_1=some ⟨.type "tuple",ddod1_1,.seq #[.str "kind" du1_1_0,.str "kind" du1_1_1] dm1_1,ddsl1_1⟩){ddod1_2:Option Addr}{dm1_2:Nat}{ddsl1_2:Array (Option Value)}{du1_2_0 du1_2_1:Tok}(dC1_2:K.lookup de1_2=some ⟨.type "tuple",ddod1_2,.seq #[.str "thing" du1_2_0,.str "kind" du1_2_1] dm1_2,ddsl1_2⟩){ddod1_3:Option Addr}{dm1_3:Nat}{ddsl1_3:Array (Option Value)}{du1_3_0 du1_3_1 du1_3_2:Tok}(dC1_3:K.lookup de1_3=some ⟨.type "tuple",ddod1_3,.seq #[.str "thing" du1_3_0,.str "tie" du1_3_1,.str "thing" du1_3_2] dm1_3,ddsl1_3⟩){ddod1_4:Option Addr}{dm1_4:Nat}{ddsl1_4:Array (Option Value)}{du1_4_0 du1_4_1:Tok}(dC1_4:K.lookup de1_4=some ⟨.type "tuple",ddod1_4,.seq #[.str "tie" du1_4_0,.str "tie" du1_4_1] dm1_4,ddsl1_4⟩){ddod1_5:Option Addr}{dm1_5:Nat}{ddsl1_5:Array (Option Value)}{du1_5_0 du1_5_1 du1_5_2:Tok}(dC1_5:K.lookup de1_5=some ⟨.type "tuple",ddod1_5,.seq #[.str "tie" du1_5_0,.str "tie" du1_5_1,.str "tie" du1_5_2] dm1_5,ddsl1_5⟩)(z1:nsIn K mainGlobals "all"=some none)(z2:nsIn K mainGlobals "bool"=some none)(z3:nsIn K mainGlobals "int"=some none)(z4:nsIn K mainGlobals "isinstance"=some none)(z5:nsIn K mainGlobals "len"=some none)(z6:nsIn K mainGlobals "list"=some none)(z7:nsIn K mainGlobals "range"=some none)(z8:nsIn K mainGlobals "repr"=some none)(z9:nsIn K mainGlobals "str"=some none)(z10:nsIn K mainGlobals "tuple"=some none)(z11:nsIn K mainGlobals "zip"=some none):∃fd:FuncData,(∀(s:Shared) (v:Value),BindsTo s fd ⟨[v],[]⟩ [("_law_script",v)])/\∀base:Heap,K.In base->base.Ns mainGlobals mg->b_ l.prog w K mg base fj 66 fa fd xF (A_ K):=by
 obtain⟨f0,d0,F0,_,m0⟩:=A56.ex;cases hfa.symm.trans m0;obtain⟨_,_,_,_,_,_,_,_,_,hd,_⟩:=id F0.ex;have mCC:=mg_of X G cC;have mCD:=mg_of X G cD;have mi1:=mg_of X G ia1;have ms1:=mg_of X G sa1;have md1:=mg_of X G dA1;have n1:=mg_none_of X G z1;have n2:=mg_none_of X G z2;have n3:=mg_none_of X G z3;have n4:=mg_none_of X G z4;have n5:=mg_none_of X G z5;have n6:=mg_none_of X G z6;have n7:=mg_none_of X G z7;have n8:=mg_none_of X G z8;have n9:=mg_none_of X G z9;have n10:=mg_none_of X G z10;have n11:=mg_none_of X G z11;refine⟨d0,fun s v=>by rw[hd];exact .of_eq rfl,fun base _ _=> ?_⟩;have hW:∀H,SqT K H ta1 [.str "anything",.str "nothing"]:=fun H=>mh sb1 (by show 2<=sizeLine;exact bw (by decide)) (.cons ⟨_,rfl⟩ (.cons ⟨_,rfl⟩ .nil));have kd:uS K l.prog w da1 [(Sum.inr "every",.ref de1_0),(Sum.inr "no",.ref de1_1),(Sum.inr "thing",.ref de1_2),(Sum.inr "tied",.ref de1_3),(Sum.inr "within",.ref de1_4),(Sum.inr "makes",.ref de1_5)]:=EW [("every",dt1_0,.ref de1_0),("no",dt1_1,.ref de1_1),("thing",dt1_2,.ref de1_2),("tied",dt1_3,.ref de1_3),("within",dt1_4,.ref de1_4),("makes",dt1_5,.ref de1_5)] dB1 (.cons ⟨rfl,rfl⟩ (.cons ⟨rfl,rfl⟩ (.cons ⟨rfl,rfl⟩ (.cons ⟨rfl,rfl⟩ (.cons ⟨rfl,rfl⟩ (.cons ⟨rfl,rfl⟩ .nil)))))) (by show(["every","no","thing","tied","within","makes"]:List Str).Nodup;decide+kernel);have hF:∀(fo:Str) (ss:List Str),(fo,ss)∈jS->∃kvs a,uS K l.prog w da1 kvs/\c_ kvs (.inr fo)=some (.ref a)/\∀H,SqT K H a (ss.map V.str):=by
  intro fo ss hf;simp only[jS,aL,d9,cH,Prod.mk.injEq] at hf;rcases hf with⟨rfl,rfl⟩ | ⟨rfl,rfl⟩ | ⟨rfl,rfl⟩ | ⟨rfl,rfl⟩ | ⟨rfl,rfl⟩ | ⟨rfl,rfl⟩
  · exact⟨_,de1_0,kd,rfl,fun H=>mh dC1_0 (by show 2<=sizeLine;exact bw (by decide)) (.cons ⟨_,rfl⟩ (.cons ⟨_,rfl⟩ .nil))⟩
  · exact⟨_,de1_1,kd,rfl,fun H=>mh dC1_1 (by show 2<=sizeLine;exact bw (by decide)) (.cons ⟨_,rfl⟩ (.cons ⟨_,rfl⟩ .nil))⟩
  · exact⟨_,de1_2,kd,rfl,fun H=>mh dC1_2 (by show 2<=sizeLine;exact bw (by decide)) (.cons ⟨_,rfl⟩ (.cons ⟨_,rfl⟩ .nil))⟩
  · exact⟨_,de1_3,kd,rfl,fun H=>mh dC1_3 (by show 3<=sizeLine;exact bw (by decide)) (.cons ⟨_,rfl⟩ (.cons ⟨_,rfl⟩ (.cons ⟨_,rfl⟩ .nil)))⟩
  · exact⟨_,de1_4,kd,rfl,fun H=>mh dC1_4 (by show 2<=sizeLine;exact bw (by decide)) (.cons ⟨_,rfl⟩ (.cons ⟨_,rfl⟩ .nil))⟩
  · exact⟨_,de1_5,kd,rfl,fun H=>mh dC1_5 (by show 3<=sizeLine;exact bw (by decide)) (.cons ⟨_,rfl⟩ (.cons ⟨_,rfl⟩ (.cons ⟨_,rfl⟩ .nil)))⟩
 have G1:=A1.cl (P:=l.prog) (w:=w) (base:=base) fun F=>En F n4 n9;have G2:=xX (P:=l.prog) (w:=w) (base:=base) A2 G1 ms1 hW n4 n9 60;have G3:=A3.cl fun F=>Ej F G2 md1 hF n11 n6;have G4:=A4.cl (P:=l.prog) (w:=w) (base:=base) fun F=>Eg F;have G5:=A5.cl fun F=>JB F G4 n1;have G6:=A6.cl fun F=>Ed F G5 n5 mi1;have G7:=xu (P:=l.prog) (w:=w) (base:=base) A7 n4 n9;have G8:=A8.cl (P:=l.prog) (w:=w) (base:=base) fun F=>Ly F;have G10:=BK (P:=l.prog) (w:=w) (base:=base) A10 A11 lc n5 n4 n9 G7 25;have G9:=A9.il mkC kcC mCC fun F=>Ek (by decide) F lc G10;have G12:=yf (P:=l.prog) (w:=w) (base:=base) A12 lc G8 25;have G13:=A13.ml fun F=>El F lc n11 md1 hF G12 G10 G8;have G14:=A14.cl fun F=>Cw F lc G9 G13 G12 G10;have G15:=A15.cl fun F=>Ct F n4 n9 G6;have G16:=A16.cl fun F=>zN F G3;have G17:=A17.cl (P:=l.prog) (w:=w) (base:=base) fun F=>GU F;have G18:=A18.cl (P:=l.prog) (w:=w) (base:=base) fun F=>Jx F;have G19:=A19.il (P:=l.prog) (w:=w) (base:=base) mkD kcD mCD fun F=>Eh (C:=C) F sc;have G20:=A20.ml (P:=l.prog) (w:=w) (mg:=mg) (base:=base) fun F=>Cz F lc sc n5;have G21:=A21.ml (P:=l.prog) (w:=w) (mg:=mg) (base:=base) fun F=>zR (C:=C) F sc n5;have G22:=A22.ml fun F=>Cs F lc sc G20;have G24:=A24.ml fun F=>xT F lc sc G22 G15;have G23:=A23.ml fun F=>zO F lc sc G21 G24;have G25:=A25.ml (P:=l.prog) (w:=w) (mg:=mg) (base:=base) fun F=>Ei F;have G26:=A26.ml fun F=>Er (by decide) F lc sc n6 G22 G23 G10 G24 G16;have G28:=A28.ml fun F=>xU F lc sc G22 G23;have G29:=A29.ml fun F=>vN F lc sc G22 G18;have G30:=A30.ml fun F=>zT F lc sc G22 G17 n6;have G31:=A31.ml fun F=>zS F lc sc G22 G23 G17;have G32:=A32.ml fun F=>tE F lc sc G23 G17;have G27:=A27.ml fun F=>GQ F sc n5 G28 G29 G30 G31 G32;have G33:=A33.dl fun F=>Ee (by decide) F sc G19 G25 G26 G27 G14;have G34:=A34.cl (P:=l.prog) (w:=w) (base:=base) fun F=>GT F n5;have G35:=A35.cl (P:=l.prog) (w:=w) (base:=base) fun F=>GS F;have G36:=A36.cl (P:=l.prog) (w:=w) (base:=base) fun F=>Ec F n5 n7;have G37:=A37.cl fun F=>Cr F n7 G36;have G38:=yi (P:=l.prog) (w:=w) (base:=base) A38 n5 G35 3;have G39:=A39.cl fun F=>Cv F n5 n7 G35 G38;have G40:=A40.cl fun F=>xS F G35 G39;have G41:=A41.cl (P:=l.prog) (w:=w) (base:=base) fun F=>Cu F n4 n9;have G42:=A42.cl (P:=l.prog) (w:=w) (base:=base) fun F=>zP F;have G43:=A43.cl fun F=>LC F G41;have G44:=A44.cl (P:=l.prog) (w:=w) (base:=base) fun F=>LB F n4 n10;have G45:=A45.cl (P:=l.prog) (w:=w) (base:=base) fun F=>Lz F;have G46:=A46.cl fun F=>GR F n5 G43 G44 G45;have G47:=A47.cl (P:=l.prog) (w:=w) (base:=base) fun F=>Cq F n4 n3 n2;have G48:=sj (P:=l.prog) (w:=w) (base:=base) A48 n4 n9 n10 n5 26;have G49:=A49.cl fun F=>Eo F n4 n9 n10 n5 G48;have G50:=A50.cl fun F=>JA F n4 n9 n10 n6 n5 n1 G49 G47;have G51:=A51.cl fun F=>Ep F n5 n7 G35;have G52:=sC (P:=l.prog) (w:=w) (base:=base) A52 n8 n4 n10 26;have G53:=A53.cl fun F=>Em F G52;have G54:=A54.cl (P:=l.prog) (w:=w) (base:=base) fun F=>zQ F n8 n6 n5;have G55:=A55.cl fun F=>Ef F n8 n7 n5 G53 G42 G54 G46;exact Jz F0 n5 n7 n6 G34 G36 G37 G40 G38 G51 G33 G50 G55
def walk{l:PySem.W.OpenLaw}{K:Params->Frag}(hn:l.most=some 63)(hdf:d.params.defaults=[])(hY:∀w h,YP w h->(K w.params).In h)(F:∀w mg fa h,(K w.params).In h->h.Ns mainGlobals mg->mg d.name=some (.ref fa)->∃fd:FuncData,(∀s u,BindsTo s fd ⟨[u],[]⟩ [("_law_script",u)])/\∀base:Heap,(K w.params).In base->base.Ns mainGlobals mg->b_ l.prog w (K w.params) mg base fj 66 fa fd xF (A_ (K w.params))):PySem.W.WalkO q loose XP YP l.row.toRowW d [] (fun f vs=>PySem.call f vs):=L2.walk_of (n:=63) (k:=66) (x:="_law_script") (CX:=fun _=>fj) (sp:=fun w=>A_ (K w.params)) hn (by decide) hdf ⟨rfl,by decide,by decide,rfl⟩ hY F (fun _ _ a ns hl _ hS=>⟨a,ns,rfl,hS,hl,fun _=>rfl⟩) fun _ _ _ _ _ z=>z
end K18
namespace PySem.W.Fast
def tw14312634125729862507:Unit:=()
def tw8120322147289069268:Unit:=()
def tw7339220273095308028:Unit:=()
def tw1560397169788793471:Unit:=()
def tw1623743924039312810:Unit:=()
def tw8585130544247380387:Unit:=()
def tw15953465695383504912:Unit:=()
def tw13267645680362771622:Unit:=()
def tw6555621533291157196:Unit:=()
def tw9569326957930054633:Unit:=()
def tw13582663319760114644:Unit:=()
def tw5985503444225996374:Unit:=()
def tw10469284319497771746:Unit:=()
def tw13574813736017126729:Unit:=()
def tw10038794946924645111:Unit:=()
def tw10446512639024013655:Unit:=()
def tw17152164022442461464:Unit:=()
def tw16547750617086322472:Unit:=()
def tw5373643284824575124:Unit:=()
def tw479436935221894369:Unit:=()
def tw16024868363315789011:Unit:=()
def tw2776729500529791357:Unit:=()
def tw9118043603119842201:Unit:=()
def tw17776775630084934892:Unit:=()
def tw3704326257109945897:Unit:=()
def tw5063973373445566012:Unit:=()
def tw15753106559833830369:Unit:=()
def tw6771436945038471510:Unit:=()
def tw11209064398026323045:Unit:=()
def tw7049096189659536200:Unit:=()
def tw958427701294891604:Unit:=()
def tw1638991879931411045:Unit:=()
def tw13903662984841794052:Unit:=()
def tw114153280513108145:Unit:=()
def tw14250558300429284102:Unit:=()
def tw12982912218771229141:Unit:=()
def tw15292048108795831657:Unit:=()
def tw10361401025052510481:Unit:=()
def tw14838172549634606637:Unit:=()
def tw5088443756179574082:Unit:=()
def tw221896748161752400:Unit:=()
def tw2790151503328149506:Unit:=()
def tw7173774372442291765:Unit:=()
def tw13127141849684486560:Unit:=()
def tw15836046373865736904:Unit:=()
def tw17751940030820377069:Unit:=()
def tw15248768712480716366:Unit:=()
def tw16988798877139487277:Unit:=()
def tw13719718577812894671:Unit:=()
def tw758235197444751520:Unit:=()
def tw14669859563605659702:Unit:=()
def tw13296458989728395800:Unit:=()
def tw18023903385817254760:Unit:=()
def tw14616896942714508312:Unit:=()
def tw12508416339557384669:Unit:=()
def tw14138239246410831644:Unit:=()
def tw10765082558699129221:Unit:=()
def tw9003346513105214971:Unit:=()
def tw2694382319337269553:Unit:=()
def tw2627618697639945378:Unit:=()
def tw7190931714904242368:Unit:=()
def tw4024850390732470748:Unit:=()
def tw12135711822465574134:Unit:=()
def tw8823280834566651571:Unit:=()
def tw13903567663762701928:Unit:=()
def tw14450816682498195680:Unit:=()
def tw3526256890835965050:Unit:=()
def tw11805400268916175299:Unit:=()
def tw10252628060053838257:Unit:=()
def tw14216029290906459628:Unit:=()
def tw10981993367960367768:Unit:=()
def tw13043323518535570309:Unit:=()
def tw9068608657184806252:Unit:=()
def tw10156691375577614462:Unit:=()
def tw9344821238058239978:Unit:=()
def tw18186560999615471004:Unit:=()
def tw12671241955394601086:Unit:=()
def tw181815099369236525:Unit:=()
def tw10056444213200448956:Unit:=()
def tw17160353682254343436:Unit:=()
def tw13753241696945415094:Unit:=()
def tw8259926398342643100:Unit:=()
def tw15001165574697094608:Unit:=()
def tw18107776390039922041:Unit:=()
def tw3454573046767296983:Unit:=()
def tw14718412231775188670:Unit:=()
def tw5238985584270246113:Unit:=()
def tw7145283972875981803:Unit:=()
def tw15814126019315614652:Unit:=()
def tw11345797124758207766:Unit:=()
def tw6079255845413023825:Unit:=()
def tw7846020514333101655:Unit:=()
def tw4378971890334136342:Unit:=()
def tw16766380365727265703:Unit:=()
def tw11791289740222665879:Unit:=()
def tw4520995103958895026:Unit:=()
def tw10384785693159429976:Unit:=()
def tw7750918788058807376:Unit:=()
def tw1479606206119201626:Unit:=()
def tw863722393149667889:Unit:=()
def tw1381628650926965269:Unit:=()
def tw2994947606991141915:Unit:=()
def tw2411851426199273937:Unit:=()
def tw15185064803992076763:Unit:=()
def tw1554693207854655943:Unit:=()
end PySem.W.Fast
open PySem PySem.W PyProof.Rows
set_option maxRecDepth 100000 in
set_option maxHeartbeats 0 in
theorem PySem.Challenge.cw_kinwords_k18_standstills_stand_holds : PySem.Challenge.rw_kinwords_k18_standstills_stand.Holds := by
 w_on;o_law;k_head;(case hw=>w_witness2)
 k_fill
 refine K18.walk (l:=PySem.Challenge.rw_kinwords_k18_standstills_stand) rfl rfl (fun w h Y=>PySem.W.kIn_of Y) ?F
 case F=>
  intro w mg fa h KX G hmg;refine' K18.all_mk KX G hmg ?p1 ?p2 ?p3 ?p4 ?p5 ?p6 ?p7 ?p8 ?p9 ?p10 ?p11 ?p12 ?p13 ?p14 ?p15 ?p16 ?p17 ?p18 ?p19 ?p20 ?p21 ?p22 ?p23 ?p24 ?p25 ?p26 ?p27 ?p28 ?p29 ?p30 ?p31 ?p32 ?p33 ?p34 ?p35 ?p36 ?p37 ?p38 ?p39 ?p40 ?p41 ?p42 ?p43 ?p44 ?p45 ?p46 ?p47 ?p48 ?p49 ?p50 ?p51 ?p52 ?p53 ?p54 ?p55 ?p56 ?p57 ?p58 ?p59 ?p60 ?p61 ?p62 ?p63 ?p64 ?p65 ?p66 ?p67 ?p68 ?p69 ?p70 ?p71 ?p72 ?p73 ?p74 ?p75 ?p76 ?p77 ?p78 ?p79 ?p80 ?p81 ?p82 ?p83 ?p84 ?p85 ?p86
  case p1 | p3 | p4 | p5 | p7 | p8 | p65 | p66 | p67 | p68 | p69 | p70 | p71 | p72 | p73 | p74 | p75 | p76 | p77 | p78 | p79 | p80 | p81 | p82 | p83 | p84 | p85 | p86=>k_is
  case p6=>refine⟨⟨?_,?_,?_,?_⟩,?_,?_,?_,?_,?_,?_,?_,?_,?_,?_,?_⟩<;>first | k_is | (unfold L2.NoAttr;k_is)
  case p2=>refine⟨⟨?_,?_,?_,?_⟩,?_,?_,?_,?_,?_,?_,?_,?_,?_,?_,?_,?_,?_,?_,?_⟩<;>first | k_is | (unfold L2.NoAttr;k_is)
  case p9 | p10 | p11 | p12 | p13 | p14 | p15 | p16 | p22 | p23 | p24 | p25 | p26 | p42 | p43 | p44 | p45 | p46 | p47 | p48 | p49 | p50 | p51 | p52 | p53 | p54 | p55 | p56 | p57 | p58 | p59 | p60 | p61 | p62 | p63 | p64=>exact K18.fAt KX G
  case p17 | p18 | p19 | p20 | p21 | p27 | p28 | p29 | p30 | p31 | p32 | p33 | p34 | p35 | p36 | p37 | p38 | p39 | p40=>exact K18.fAtM
  case p41=>exact K18.fAtD (its:=[.none]) KX G (hb:=fun _ _ _ _ _ _ us hl=>match us,hl with | [_,_,_],_=>⟨_,rfl,rfl⟩)
